import PyProof.Rows.All
import Wide.All
import OpenK.AllK
import Wide.FinOn
import Lean
import PyProof.EqAt
import PyProof.EqKinds
import PyProof.TupleCall
import PySem.Challenge.RW_flaglocker_k53_haul_and_lower
set_option Elab.async false
set_option compiler.extract_closed false
set_option linter.all false
set_option maxHeartbeats 4000000
set_option maxRecDepth 100000
local macro_rules|`(tactic|right)=>`(tactic|decide +kernel)
inductive E_4{α0 α1 α2 α3:Type}(μ:α0->α1->α2->α3->Prop):Prop|mk(a:α0)(b:α1)(c:α2)(d:α3)(_:μ a b c d):E_4 μ
inductive E_5{α0 α1 α2 α3 α4:Type}(μ:α0->α1->α2->α3->α4->Prop):Prop|mk(a:α0)(b:α1)(c:α2)(d:α3)(e:α4)(_:μ a b c d e):E_5 μ
inductive E_6{α0 α1 α2 α3 α4 α5:Type}(μ:α0->α1->α2->α3->α4->α5->Prop):Prop|mk(a:α0)(b:α1)(c:α2)(d:α3)(e:α4)(f:α5)(_:μ a b c d e f):E_6 μ
inductive E_7{α0 α1 α2 α3 α4 α5 α6:Type}(μ:α0->α1->α2->α3->α4->α5->α6->Prop):Prop|mk(a:α0)(b:α1)(c:α2)(d:α3)(e:α4)(f:α5)(g:α6)(_:μ a b c d e f g):E_7 μ
inductive E_8{α0 α1 α2 α3 α4 α5 α6 α7:Type}(μ:α0->α1->α2->α3->α4->α5->α6->α7->Prop):Prop|mk(a:α0)(b:α1)(c:α2)(d:α3)(e:α4)(f:α5)(g:α6)(h:α7)(_:μ a b c d e f g h):E_8 μ
inductive E_16{α0 α1 α2 α3 α4 α5 α6 α7 α8 α9 α10 α11 α12 α13 α14 α15:Type}(μ:α0->α1->α2->α3->α4->α5->α6->α7->α8->α9->α10->α11->α12->α13->α14->α15->Prop):Prop|mk(a:α0)(b:α1)(c:α2)(d:α3)(e:α4)(f:α5)(g:α6)(h:α7)(i:α8)(j:α9)(k:α10)(l:α11)(m:α12)(n:α13)(o:α14)(p:α15)(_:μ a b c d e f g h i j k l m n o p):E_16 μ
inductive E_17{α0 α1 α2 α3 α4 α5 α6 α7 α8 α9 α10 α11 α12 α13 α14 α15 α16:Type}(μ:α0->α1->α2->α3->α4->α5->α6->α7->α8->α9->α10->α11->α12->α13->α14->α15->α16->Prop):Prop|mk(a:α0)(b:α1)(c:α2)(d:α3)(e:α4)(f:α5)(g:α6)(h:α7)(i:α8)(j:α9)(k:α10)(l:α11)(m:α12)(n:α13)(o:α14)(p:α15)(q:α16)(_:μ a b c d e f g h i j k l m n o p q):E_17 μ
inductive E_19{α0 α1 α2 α3 α4 α5 α6 α7 α8 α9 α10 α11 α12 α13 α14 α15 α16 α17 α18:Type}(μ:α0->α1->α2->α3->α4->α5->α6->α7->α8->α9->α10->α11->α12->α13->α14->α15->α16->α17->α18->Prop):Prop|mk(a:α0)(b:α1)(c:α2)(d:α3)(e:α4)(f:α5)(g:α6)(h:α7)(i:α8)(j:α9)(k:α10)(l:α11)(m:α12)(n:α13)(o:α14)(p:α15)(q:α16)(r:α17)(s:α18)(_:μ a b c d e f g h i j k l m n o p q r s):E_19 μ
abbrev Q2:=PySem.Value->PySem.Shared->Prop
abbrev Q3:=List (PySem.Addr × PySem.Obj)
abbrev Q4:=List (Option (List Nat))
abbrev Q5:=PySem.Str->Option PySem.Value
abbrev Q6:=List (List Nat)
abbrev Aa:=@List.getElem?_eq_getElem
abbrev Ab:=@List.length_map
abbrev Ac:=@PySem.wpAny_bind
abbrev Ad:=@List.getD_eq_getElem?_getD
abbrev Ae:=@List.getElem?_eq_some_iff
abbrev Af:=@PySem.Heap.get?_push_of_some
abbrev Ag:=@PySem.wpAny_pure
abbrev Ah:=@Nat.le_refl
abbrev Ai:=@List.getElem?_map
abbrev Aj:=@List.mem_singleton
abbrev Ak:=@List.length_append
abbrev Al:=@List.mem_cons_self
abbrev Am:=@Array.getD_eq_getD_getElem?
abbrev An:=@decide_eq_true
abbrev Ao:=@List.mem_cons_of_mem
abbrev Ap:=@List.mem_of_getElem?
abbrev Aq:=@PySem.Heap.lt_size
abbrev Ar:=@Array.getElem?_eq_getElem
abbrev As:=@decide_eq_false
abbrev Au:=@PySem.Heap.get?_push_size
abbrev Av:=@Bool.false_ne_true
abbrev Aw:=@List.map_append
abbrev Ax:=@List.map_cons
abbrev Ay:=@List.getElem?_append_left
abbrev Az:=@List.length_cons
abbrev Ba:=@List.getElem?_append_right
abbrev Bb:=@List.mem_cons
abbrev Bc:=@Nat.ne_of_lt
abbrev Bd:=@List.mem_append_right
abbrev Be:=@List.append_nil
abbrev Bf:=@of_decide_eq_true
abbrev Bg:=@List.mem_map
abbrev Bh:=@List.mem_range
abbrev Bi:=@Nat.lt_of_lt_of_le
abbrev Bj:=@List.size_toArray
abbrev Bk:=@Array.length_toList
abbrev Bl:=@List.take_add_one
abbrev Bm:=@Option.some.inj
abbrev Bo:=@Nat.le_trans
abbrev Bp:=@PySem.PassesOwn.never
abbrev Bq:=@List.take_length
abbrev Br:=@List.getElem_mem
abbrev Bs:=@List.mem_append
abbrev Bt:=@Option.map_eq_some_iff
abbrev Bu:=@List.filterMap_append
abbrev Bv:=@of_decide_eq_false
abbrev Bw:=@List.length_range
abbrev Bx:=@List.range_succ
abbrev By:=@List.pairwise_iff_getElem
abbrev Bz:=@List.map_map
abbrev Ca:=@decide_eq_true_iff
abbrev Cb:=@PySem.wpAny_holding
abbrev Cc:=@PySem.F.slot_dict_get
abbrev Cd:=@Bool.eq_false_iff
abbrev Ce:=@List.length_take
abbrev Cf:=@PySem.wpAny_mono
abbrev Cg:=@List.length_set
abbrev Ci:=@Nat.zero_le
abbrev Cj:=@List.filterMap_cons_some
abbrev Ck:=@PySem.Heap.get?_update_other
abbrev Cm:=@List.mem_append_left
abbrev Co:=@List.nodup_cons
abbrev Cp:=@PySem.wpAny_loadPart'
abbrev Cq:=@PySem.F.plainAttrs_list
abbrev Cr:=@Int.toNat_natCast
abbrev Cs:=@beq_eq_false_iff_ne
abbrev Ct:=@List.mem_iff_getElem
abbrev Cu:=@decide_eq_decide
abbrev Cv:=@PySem.wpAny_setState_of
abbrev Cw:=@Array.getElem?_toList
abbrev Cy:=@List.mem_filterMap
abbrev Cz:=@List.take_of_length_le
abbrev Da:=@Array.getElem?_eq_none
abbrev Dc:=@List.length_filterMap_le
abbrev De:=@List.filterMap_cons_none
abbrev Df:=@List.filterMap_nil
abbrev Dg:=@Array.getElem?_eq_some_iff
abbrev Dh:=@List.mem_iff_getElem?
abbrev Di:=@List.all_eq_true
abbrev Dj:=@PySem.wpAny_call_entry
abbrev Dk:=@congrArg
abbrev Dm:=@List.sum_cons
abbrev Do:=@PySem.F.type_dict_get
abbrev Dp:=@List.map_congr_left
abbrev Dq:=@Int.emod_nonneg
abbrev Dr:=@List.length_drop
abbrev Ds:=@Nat.add_sub_cancel_left
abbrev Dt:=@PySem.wpAny_Call_Name_kw
abbrev Du:=@Int.emod_lt_of_pos
abbrev Dv:=@PySem.wpAny_passesOwn
abbrev Dw:=@PySem.Heap.SameBut.update
abbrev Dx:=@PySem.Heap.get?_update_self
abbrev Dy:=@PySem.codeAny_mono
abbrev Dz:=@PyProof.Rows.callWith_type1
abbrev Ea:=@List.flatten_cons
abbrev Eb:=@List.nodup_append
abbrev Ec:=@List.getElem?_set_ne
abbrev Ed:=@PySem.Heap.size_push
abbrev Ee:=@PySem.wpAny_field
abbrev Ef:=@PySem.Around.under_plainId
abbrev Eg:=@Nat.lt_irrefl
abbrev Eh:=@PySem.W.kia_one
abbrev Ei:=@List.getElem?_set_self
abbrev Ej:=@Nat.lt_succ_self
abbrev Ek:=@List.lookup_cons
abbrev El:=@List.getElem_map
abbrev Em:=@PySem.mem_of_lookup
abbrev En:=@Array.getElem_mem_toList
abbrev Eo:=@PySem.F.slot_list_append
abbrev Ep:=@PySem.F.type_list_append
abbrev Er:=@List.of_mem_zip
abbrev Et:=@PySem.codeAny_builtin
abbrev Eu:=@Nat.not_lt_zero
abbrev Ew:=@PySem.W.callWith_K
abbrev Ey:=@PySem.Obj.data_mapFields
abbrev Ez:=@Bool.and_eq_true
abbrev Fa:=@List.countP_cons
abbrev Fb:=@PySem.wpAny_pyIter_list
abbrev Fc:=@PySem.F.excBase_ValueError
abbrev Fd:=@Nat.lt_succ_of_lt
abbrev Fe:=@List.replicate_succ
abbrev Ff:=@List.mem_filter
abbrev Fg:=@PySem.W.methodCall_KW
abbrev Fh:=@PySem.wpAny_askSetting
abbrev Fi:=@Nat.ne_of_gt
abbrev Fj:=@Option.isSome_iff_exists
abbrev Fk:=@PySem.F.slot_list_extend
abbrev Fl:=@PySem.F.type_list_extend
abbrev Fm:=@Array.mem_toList_iff
abbrev Fn:=@PySem.codeAny_call_builtin
abbrev Fo:=@List.mem_of_mem_take
abbrev Fp:=@PySem.wpAny_typeNameOfWhole_keyiter
abbrev Fq:=@PySem.wpAny_newObj_type
abbrev Fs:=@List.pairwise_map
abbrev Ft:=@List.filter_cons_of_neg
abbrev Fu:=@beq_iff_eq
abbrev Fv:=@PySem.wpAny_call
abbrev Fw:=@PySem.wpAny_specialOf
abbrev Fx:=@PySem.F.slot_dict_keyiterator_next
abbrev Fy:=@List.filterMap_cons
abbrev Fz:=@PySem.F.entry_dict_get
abbrev Ga:=@Nat.sub_self
abbrev Gb:=@PySem.F.plainAttrs_str
abbrev Gc:=@PySem.plainId_quiet
abbrev Gd:=@beq_self_eq_true
abbrev Ge:=@PySem.tupleKind_room_in1
abbrev Gf:=@List.mem_or_eq_of_mem_set
abbrev Gg:=@Option.map_some
abbrev Gh:=@PySem.wpAny_truthy_bool
abbrev Gi:=@List.append_assoc
abbrev Gj:=@PySem.wpAny_standAt
abbrev Gk:=@PySem.wpAny_comprehension_free
abbrev Gm:=@PySem.wpAny_attempt
abbrev Gp:=@List.flatMap_append
abbrev Gq:=@List.filter_sublist
abbrev Gr:=@List.getElem?_replicate
abbrev Gu:=@PySem.wpAny_getItem_str_slice
abbrev Gv:=@Nat.le_add_right
abbrev Gw:=@List.take_zero
abbrev Gx:=@List.eq_nil_of_length_eq_zero
abbrev Gy:=@PySem.Calls.callWith_builtin
abbrev Gz:=@PySem.call_meetsIn
abbrev Ha:=@List.pairwise_lt_range
abbrev Hb:=@List.filter_append
abbrev He:=@List.countP_eq_length_filter
abbrev Hf:=@List.length_replicate
abbrev Hh:=@List.getElem?_eq_none
abbrev Hi:=@Array.mem_of_getElem?
abbrev Hj:=@List.take_append_drop
abbrev Hk:=@List.getElem?_zipWith
abbrev Hl:=@PySem.wpAny_loadPart_at
abbrev Hm:=@List.flatMap_cons
abbrev Hn:=@PySem.Heap.get?_none_of_le
abbrev Ho:=@PySem.Calls.evalArgs_plain
abbrev Hq:=@Array.toList_extract
abbrev Hr:=@Nat.le_of_lt
abbrev Ht:=@List.getElem_inj
abbrev Hv:=@List.filter_cons
abbrev Hw:=@Nat.zero_add
abbrev Hx:=@Nat.lt_of_not_le
abbrev Hy:=@List.nodup_range
abbrev Hz:=@List.mem_flatMap
abbrev Ia:=@List.drop_eq_getElem_cons
abbrev Ib:=@List.take_succ_cons
abbrev Ic:=@Array.toList_append
abbrev Ie:=@List.toList_toArray
abbrev Ig:=@Bool.false_or
abbrev Ih:=@List.Pairwise.imp_of_mem
abbrev Ii:=@PySem.wpAny_execs_nil
abbrev Ij:=@Bool.eq_iff_iff
abbrev Ik:=@Nat.lt_of_le_of_lt
abbrev Il:=@PySem.Code.quiet_builtin
abbrev Im:=@List.getElem_range
abbrev Io:=@Nat.add_sub_cancel
abbrev Ip:=@List.pairwise_cons
abbrev Iq:=@Nat.le_succ
abbrev Ir:=@PySem.F.args_dict_get_2
abbrev Iu:=@PySem.F.plainAttrs_dict
abbrev Iv:=@List.filter_cons_of_pos
abbrev Iw:=@PySem.W.cellsFrom_some
abbrev Iy:=@List.take_sublist
abbrev Iz:=@Bool.and_false
abbrev Ja:=@List.map_nil
abbrev Jb:=@PySem.wpAny_Call_method_late
abbrev Jc:=@PySem.wpAny_pyIter_enum
abbrev Jd:=@Option.isSome_map
abbrev Je:=@Array.toList_filterMap
abbrev Jf:=@PySem.fastTable_eq_tree
abbrev Jg:=@PySem.wpAny_storeSet_of
abbrev Jh:=@Nat.lt_trichotomy
abbrev Ji:=@LawfulBEq.eq_of_beq
abbrev Jj:=@Nat.min_eq_right
abbrev Jk:=@List.any_cons
abbrev Jl:=@PySem.sizeLine_eq
abbrev Jm:=@PySem.wpAny_of_eq
abbrev Jn:=@Int.le_refl
abbrev Jo:=@Nat.succ_pos
abbrev Jp:=@PySem.intKind_is
namespace L2
open PySem PySem.Spec PyProof.Rows
variable {A:Around}{C a b dx:Addr}{E Q:Q2}{K:W.Frag}{M:Model}{N ps:List Str}{P:Program}{body:List Stmt}{ch fp:List Addr}{e tg:Expr}{es:List Expr}{f:Value->Value->Sem Value}{h h':Heap}{i k t':Nat}{kindOf:Str->Option NameKind}{kw:List (Str×Value)}{y3:Q3}{pl:Sem Bool}{pos:Pos}{s:Shared}{u:Value}{us:List Value}{w:World}{x:Str}
abbrev Key:=Sum Int Str
noncomputable def oF:Key->Value->Bool
 |.inl k,v=>Value.isInt k v
 |.inr x,v=>Value.isStrOf x v
noncomputable def NH(w:World):Key->Int
 |.inl k=>hashInt k
 |.inr x=>hashStr w x
def bV:∀ {k:Key} {v:Value},oF k v=true->(∃i t,k=Sum.inl i/\v=Value.int i t)\/(∃x t,k=Sum.inr x/\v=Value.str x t)
 |.inl i,v,h=>by
  obtain⟨t,e⟩:=Value.isInt_shape   h;exact .inl ⟨i,t,rfl,e⟩
 |.inr x,v,h=>by
  obtain⟨t,e⟩:=Value.isStrOf_shape   h;exact .inr ⟨x,t,rfl,e⟩
def FQ(i:Int)(t:Tok):oF (.inl i) (.int i t)=true:=by simp[oF,Value.isInt]
def nQ(x:Str)(t:Tok):oF (.inr x) (.str x t)=true:=by simp[oF,Value.isStrOf]
def Js(a b:Int):decide ((Sum.inl a:Key)=Sum.inl b)=(a==b):=by grind
def JE(a b:Str):decide ((Sum.inr a:Key)=Sum.inr b)=decide (a=b):=by grind
def AH(a:Int)(b:Str):decide ((Sum.inl a:Key)=Sum.inr b)=false:=As (λq=>nomatch q)
def B6(a:Str)(b:Int):decide ((Sum.inr a:Key)=Sum.inl b)=false:=As (λq=>nomatch q)
noncomputable def bE(prog:Program)(w:World):PySem.KeyKind prog w Key where
 is:=oF
 hash:=NH w
 inj:=λv a b l f=>by
  rcases bV l with⟨i,t,rfl,rfl⟩|⟨x,t,rfl,rfl⟩
  .rcases bV f with⟨j,u,rfl,e⟩|⟨y,u,rfl,e⟩
   .injection e with c _;rw[c]
   .exact nomatch e
  .rcases bV f with⟨j,u,rfl,e⟩|⟨y,u,rfl,e⟩
   .exact nomatch e
   .injection e with c _;rw[c]
 byValue:=λk v h=>by
  rcases bV h with⟨i,t,rfl,rfl⟩|⟨x,t,rfl,rfl⟩ <;> rfl
 pyHash:=λd h=>by
  rcases bV d with⟨i,t,rfl,rfl⟩|⟨x,t,rfl,rfl⟩
  .exact wpAny_pyHash_int h
  .exact wpAny_pyHash_str h
 eqBool:=λg d h=>by
  rcases bV g with⟨i,t,rfl,rfl⟩|⟨x,t,rfl,rfl⟩
  .rcases bV d with⟨j,u,rfl,rfl⟩|⟨y,u,rfl,rfl⟩
   .rw[Js]at h;exact wpAny_eqBool_int h
   .rw[AH]at h;exact SeqAt.EqAt.int_str i t y u _ _ _ _ h
  .rcases bV d with⟨j,u,rfl,rfl⟩|⟨y,u,rfl,rfl⟩
   .rw[B6]at h;exact SeqAt.EqAt.str_int x t j u _ _ _ _ h
   .rw[JE]at h;exact wpAny_eqBool_str h
 «strs» := λk x t v h=>by
  rcases bV h with⟨i,u,rfl,e⟩|⟨y,u,rfl,e⟩
  .exact nomatch e
  .injection e with c _
   subst c;cases v<;>rfl
def AD(prog:Program)(w:World)(i:Int)(t:Tok):(bE prog w).is (.inl i) (.int i t)=true:=FQ i t
def GV(prog:Program)(w:World)(x:Str)(t:Tok):(bE prog w).is (.inr x) (.str x t)=true:=nQ x t
inductive V where
 |non|bl (b:Bool)|int (i:Int)|str (x:Str)|byt (b:Array UInt8)|flt (b:UInt64)|ref (a:Addr)|ty (n:String)
 deriving DecidableEq
variable {v:V}{xs:List V}
def RelV:V->Value->Prop
 |.non,u=>u=Value.none
 |.bl b,u=>u=Value.bool b
 |.int i,u=>∃t,u=Value.int i t
 |.str x,u=>∃t,u=Value.str x t
 |.byt b,u=>∃t,u=Value.bytes b t
 |.flt b,u=>∃t,u=Value.float b t
 |.ref a,u=>u=Value.ref a
 |.ty n,u=>u=Value.type n
abbrev Vals:List V->List Value->Prop:=Paired RelV
def Vals.length(r:Vals xs us):xs.length=us.length:=Paired.length r
theorem Vals.get:∀ {a:List V} {b:List Value} {i:Nat} {x:V},Vals a b->a[i]?=some x->∃u,b[i]?=some u/\RelV x u
 |_,_,_,_,.nil,e=>by simp at e
 |_,_,0,_,.cons r _,e=>by simp at e;subst e;exact⟨_,rfl,r⟩
 |_,_,i+1,x,.cons _ t,e=>by
  obtain⟨u,d,c⟩:=Vals.get   t (by simpa using e)
  simp_all
theorem Vals.set{x:V}(r:RelV x u):∀ {a:List V} {b:List Value} (i:Nat),Vals a b->Vals (a.set i x) (b.set i u)
 |_,_,_,.nil=>.nil
 |_,_,0,.cons _ t=>.cons r t
 |_,_,i+1,.cons q t=>.cons q (Vals.set r i t)
theorem Vals.append:∀ {b a:List V} {d c:List Value},Vals b d->Vals a c->Vals (b++a) (d++c)
 |_,_,_,_,.nil,s=>s
 |_,_,_,_,.cons r t,s=>.cons r (Vals.append t s)
theorem Vals.take:∀ {a:List V} {b:List Value} (n:Nat),Vals a b->Vals (a.take n) (b.take n)
 |_,_,0,_=>.nil
 |_,_,_+1,.nil=>.nil
 |_,_,n+1,.cons r t=>.cons r (Vals.take n t)
theorem Vals.drop:∀ {a:List V} {b:List Value} (n:Nat),Vals a b->Vals (a.drop n) (b.drop n)
 |_,_,0,r=>r
 |_,_,_+1,.nil=>.nil
 |_,_,n+1,.cons _ t=>Vals.drop n t
def Zp:Option V->Option Value->Prop
 |some v,some u=>RelV v u
 |none,none=>True
 |_,_=>False
def KV:List (κ×V)->List (κ×Value)->Prop:=Paired λp q=>p.1=q.1/\RelV p.2 q.2
noncomputable def kV:Key->V
 |.inl i=>.int i
 |.inr x=>.str x
inductive HO where
 |lst (xs:List V)
 |tup (xs:List V)
 |dK (kvs:List (Key×V))|dT (kvs:List (List Key×V))
 |set (S:Int->Bool) (n:Nat)
 |ins (C dx:Addr) (fs:List (Str×V))
 |own (x:Addr)
 |xd (fs:List (Str×V))
 |met (f x:Addr)
 |rng (lo hi:Int)
 |frz (o:Obj) (u:HO)
 |tbl (ps:Array Value)
 |ext (φ:Heap->Prop)
variable {o:HO}
abbrev Hp:=Addr->Option HO
variable {H:Hp}
noncomputable def upd(H:Hp)(a:Addr)(o:HO):Hp:=λb=>if b=a then some o else H b
def aD:upd H a o a=some o:=by unfold upd;rw[if_pos rfl]
def aI(h:b≠a):upd H a o b=H b:=by unfold upd;rw[if_neg h]
def QJ{u:HO}:upd (upd H a o) a u=upd H a u:=by
 funext b;unfold upd;split<;>rfl
def BC{u:HO}(h:H a=some o)(h':H b=some u)(d:o≠u):a≠b:=by grind
def bM(h:H a=some o)(h':H b=none):a≠b:=by grind
section
variable (P:Program) (w:World)
def ZX(H:Hp)(h:Heap)(a:Addr):HO->Prop
 |.lst d=>d.length<=sizeLine/\∃c n,Vals d c/\h.get? a=some {cls:=.type "list",data:=.seq c.toArray n}
 |.tup d=>d.length<=sizeLine/\∃c,Vals d c/\IsTup h a c.toArray
 |.dK b=>b.length<=sizeLine/\(a==sysModules)=false/\∃k,KV b k/\h.DictOf (bE P w) a k
 | .dT b=>b.length<=sizeLine/\(a == sysModules)=false/\∃ d,
     Paired (λp q=>p.1=q.1/\H q.2.1=some (.tup (p.1.map kV))/\RelV p.2 q.2.2) b d/\
     ∃o r A,h.get? a=some o/\o.ExactDict/\o.data=.dict r A/\r.toList=d.map (entryOfKey (tupleKind (bE P w)))/\(d.map (·.1)).Nodup
 |.set S n=>h.SetOf (intKind P w) a S n
 | .ins C i g=>H i=some (.own a)/\g.length<=1000/\i≠a/\h.get? a=some (W.instObj C i)/\
     ∃e,h.Ns1 i e/\(∀f,Zp (g.lookup f) (e f))/\PySem.Within e (g.map (·.1))
 |.own _=>∃o,h.get? a=some o
 |.xd g=>∃e,h.Ns1 a e/\∀f,Zp (g.lookup f) (e f)
 |.rng y z=>∃t u v,h.get? a=some {cls:=.type "range",data:=.fields #[.int y t,.int z u,.int 1 v]}
 |.frz o u=>h.get? a=some o/\ZX H h a u
 |.tbl s=>h.get? a=some {cls:=.none,data:=.fields s}
 |.met f x=>h.get? a=some (W.methodObj (.ref f) (.ref x))
 |.ext j=>j h/\(∃o,h.get? a=some o)/\∀m l,j m->(∀o,m.get? a=some o->l.get? a=some o)->j l
def Zj(H:Hp)(h:Heap):Prop:=∀a o,H a=some o->ZX P w H h a o
end
section
variable {H':Hp}
def ZX.lt(x:ZX P w H h a o):a<h.objs.size:=by
 cases o with
 |lst c=>obtain⟨_,_,_,_,e⟩:=x;exact Aq e
 |tup c=>obtain⟨_,_,_,p⟩:=x;exact p.lt
 |dK b=>obtain⟨_,_,_,_,o,_,_,e,_⟩:=x;exact Aq e
 |dT b=>obtain⟨_,_,_,_,o,_,_,e,_⟩:=x;exact Aq e
 |set S n=>obtain⟨o,_,_,_,e,_⟩:=x;exact Aq e
 |ins C m d=>obtain⟨_,_,_,e,_⟩:=x;exact Aq e
 |own y=>obtain⟨_,e⟩:=x;exact Aq e
 |xd d=>obtain⟨_,⟨_,_,_,e,_⟩,_⟩:=x;exact Aq e
 |rng k l=>obtain⟨_,_,_,e⟩:=x;exact Aq e
 |frz j u=>obtain⟨e,_⟩:=x;exact Aq e
 |tbl i=>exact Aq (show h.get? a=some _ from x)
 |met f y=>exact Aq (show h.get? a=some _ from x)
 |ext g=>obtain⟨_,⟨_,e⟩,_⟩:=x;exact Aq e
theorem Paired.V4{g e:Type}{F G:g->e->Prop}:∀ {d:List g} {c:List e},Paired F d c->(∀a b,F a b->G a b)->Paired G d c
 |_,_,.nil,_=>.nil
 |_,_,.cons r t,f=>.cons (f _ _ r) (Paired.V4 t f)
def ZX.Zb(x:ZX P w H h a o)(k:∀b u,(b=a\/H b=some (.own a))->h.get? b=some u->h'.get? b=some u)(K:∀b,H b=some (.own a)->H' b=some (.own a))(J:∀b m,H b=some (.tup m)->H' b=some (.tup m)):ZX P w H' h' a o:=by
 induction o with
 |lst m=>obtain⟨z,l,n,r,e⟩:=x;exact⟨z,l,n,r,k _ _ (.inl rfl) e⟩
 |tup m=>obtain⟨z,l,r,g,e,c⟩:=x;exact⟨z,l,r,g,k _ _ (.inl rfl) e,c⟩
 |dK B=>obtain⟨z,y,F,r,g,i,j,e,c⟩:=x;exact⟨z,y,F,r,g,i,j,k _ _ (.inl rfl) e,c⟩
 |dT B=>
  obtain⟨z,y,m,r,g,i,j,e,c⟩:=x;exact⟨z,y,m,Paired.V4 r λp q z=>⟨z.1,J _ _ z.2.1,z.2.2⟩,g,i,j,k _ _ (.inl rfl) e,c⟩
 |set S n=>obtain⟨g,i,j,t,e,c⟩:=x;exact⟨g,i,j,t,k _ _ (.inl rfl) e,c⟩
 |ins C R L=>
  obtain⟨d,z,G,e,A,⟨s,i,j,M,c⟩,r⟩:=x;exact⟨K _ d,z,G,k _ _ (.inl rfl) e,A,⟨s,i,j,k _ _ (.inr d) M,c⟩,r⟩
 |own y=>obtain⟨g,e⟩:=x;exact⟨g,k _ _ (.inl rfl) e⟩
 |xd L=>obtain⟨A,⟨s,i,j,e,c⟩,r⟩:=x;exact⟨A,⟨s,i,j,k _ _ (.inl rfl) e,c⟩,r⟩
 |rng O Q=>obtain⟨t,u,v,e⟩:=x;exact⟨t,u,v,k _ _ (.inl rfl) e⟩
 |frz g u I=>obtain⟨e,q⟩:=x;exact⟨k _ _ (.inl rfl) e,I q⟩
 |tbl E=>
  have e:=x
  exact k a _ (.inl rfl) e
 |met f y=>
  have e:=x
  exact k a _ (.inl rfl) e
 |ext N=>obtain⟨p,⟨o,e⟩,D⟩:=x;exact⟨D _ _ p λo q=>k _ _ (.inl rfl) q,⟨o,k _ _ (.inl rfl) e⟩,D⟩
def Zj.lt(x:Zj P w H h)(e:H a=some o):a<h.objs.size:=(x a o e).lt
def Zj.fresh(x:Zj P w H h)(e:h.objs.size<=a):H a=none:=by
 cases q:H a with
 |none=>rfl
 |some u=>exact absurd (Bi (x.lt q) e) (Eg _)
def Zj.kept(x:Zj P w H h)(k:∀b u,h.get? b=some u->h'.get? b=some u):Zj P w H h':=λa o e=>
 (x a o e).Zb (λb u _ q=>k b u q) (λ_ q=>q) λ_ _ q=>q
def Zj.laid(x:Zj P w H h)(k:∀b u,h.get? b=some u->h'.get? b=some u)(i:h.objs.size<=a)(d:ZX P w (upd H a o) h' a o):Zj P w (upd H a o) h':=λb u e=>by
 have f:=x.fresh i
 by_cases g:b=a
 .subst g;rw[aD]at e;cases e;exact d
 .rw[aI g]at e;exact(x b u e).Zb (λc v _ q=>k c v q) (λc q=>by rwa[aI (bM q f)]) λc j q=>by rwa[aI (bM q f)]
end
def Rd(H:Hp)(a:Addr)(u:HO):Prop:=H a=some u\/∃o,H a=some (.frz o u)
def Rd.ok{u:HO}(r:Rd H a u)(x:Zj P w H h):ZX P w H h a u:=by
 rcases r with r|⟨o,r⟩
 .exact x a u r
 .obtain⟨_,q⟩:=x a _ r;exact q
def Vo:Option HO->Prop
 |some (.lst _)=>True
 |some (.dK _)=>True
 |some (.dT _)=>True
 |some (.set _ _)=>True
 |some (.ins _ _ _)=>True
 |some (.ext _)=>True
 |_=>False
section
variable {x e:Addr} {o':HO}
def Zj.write(ok:Zj P w H h)(i:Vo (H x))(s:e=x\/H e=some (.own x))(k:∀b u,b≠e->h.get? b=some u->h'.get? b=some u)(n:∃u,h'.get? e=some u)(m:ZX P w (upd H x o') h' x o'):Zj P w (upd H x o') h':=λb u q=>by
 have d:∀c y,H c=some (.own y)->c≠x:=λc y r z=>by subst z;rw[r]at i;exact i
 have f:∀c g,H c=some (.tup g)->c≠x:=λc g r z=>by subst z;rw[r]at i;exact i
 by_cases l:b=x
 .subst l;rw[aD]at q;cases q;exact m
 .rw[aI l]at q;by_cases a:b=e
  .have p:H b=some (.own x):=by
    rcases s with z|z
    .exact absurd (a.trans z) l
    .rw[a];exact z
   rw[q]at p;cases p;obtain⟨v,t⟩:=n;exact⟨v,by rw[a];exact t⟩
  .refine(ok b u q).Zb (λc v j r=>k c v ?_ r) (λc r=>by rw[aI (d c b r)];exact r) λc g r=>by rw[aI (f c g r)];exact r
   grind
end
structure Un (fs ex:List Addr) (H H':Hp) (h h':Heap):Prop where
 keep:∀b o,h.get? b=some o->H b=none->b∉fs->b∉ex->h'.get? b=some o
 slot:∀b o,h.get? b=some o->H b=none->b∈fs->b∉ex->∃sl,h'.get? b=some {o with slots:=sl}
 free:∀b o,h.get? b=some o->H b=none->b∉ex->H' b=none
 there:∀b o,h.get? b=some o->b∉ex->∃o',h'.get? b=some o'
 tups:∀b xs,H b=some (.tup xs)->H' b=some (.tup xs)
 frzs:∀b o u,H b=some (.frz o u)->H' b=some (.frz o u)
 tbls:∀b ps,H b=some (.tbl ps)->∃more,H' b=some (.tbl (ps++more))
section
variable {fs fs' ex ex':List Addr} {H1 H2:Hp} {h1 h2:Heap} {x e:Addr}
def Un.any(u:Un fs ex H H1 h h1){a:Obj}(q:h.get? b=some a)(n:H b=none)(c:b∉ex):∃e,h1.get? b=some {a with slots:=e}:=by
 by_cases d:b∈fs
 .exact u.slot b a q n d c
 .exact⟨a.slots,u.keep b a q n d c⟩
def Un.trans(a:Un fs ex H H1 h h1)(b:Un fs ex H1 H2 h1 h2):Un fs ex H H2 h h2 where
 keep:=λc d q n i e=>b.keep c d (a.keep c d q n i e) (a.free c d q n e) i e
 slot:=λc d q n i e=>by
  obtain⟨s,f⟩:=a.slot c d q n i e;obtain⟨j,l⟩:=b.slot c _ f (a.free c d q n e) i e;exact⟨j,l⟩
 free:=λc d q n e=>by
  obtain⟨k,f⟩:=a.there c d q e;exact b.free c k f (a.free c d q n e) e
 there:=λc d q e=>by
  obtain⟨k,f⟩:=a.there c d q e;exact b.there c k f e
 tups:=λc g q=>b.tups c g (a.tups c g q)
 frzs:=λc d g q=>b.frzs c d g (a.frzs c d g q)
 tbls:=λc m q=>by
  obtain⟨r,f⟩:=a.tbls c m q;obtain⟨p,l⟩:=b.tbls c _ f;grind
def Un.kept(k:∀b u,h.get? b=some u->h'.get? b=some u):Un fs ex H H h h':=
 ⟨λb a q _ _ _=>k b a q,λb a q _ _ _=>⟨a.slots,k b a q⟩,λ_ _ _ n _=>n,λb a q _=>⟨a,k b a q⟩,λ_ _ q=>q,λ_ _ _ q=>q,λ_ c q=>⟨#[],by rw[q];simp⟩⟩
def Un.refl:Un fs ex H H h h:=Un.kept λ_ _ q=>q
def Un.laid(k:∀b u,h.get? b=some u->h'.get? b=some u)(e:h.objs.size<=a)(c:H a=none):Un fs ex H (upd H a o) h h' where
 keep:=λb u q _ _ _=>k b u q
 slot:=λb u q _ _ _=>⟨u.slots,k b u q⟩
 free:=λb u q n _=>by rwa[aI (Bc (Bi (Aq q) e))]
 there:=λb u q _=>⟨u,k b u q⟩
 tups:=λb d q=>by rwa[aI (bM q c)]
 frzs:=λb u d q=>by rwa[aI (bM q c)]
 tbls:=λb f q=>⟨#[],by rw[aI (bM q c),q];simp⟩
def Un.write(c:Vo (H x))(m:e=x\/H e=some (.own x))(k:∀b u,b≠e->h.get? b=some u->h'.get? b=some u)(f:∃u,h'.get? e=some u):Un fs ex H (upd H x o) h h':=by
 have g:∀b,H b=none->b≠x:=λb n z=>by subst z;rw[n]at c;exact c
 have i:∀b,H b=none->b≠e:=λb n z=>by grind
 have d:∀b u,H b=some u->¬Vo (some u)->b≠x:=λb u q l z=>by grind
 refine⟨λb u q n _ _=>k b u (i b n) q,λb u q n _ _=>⟨u.slots,k b u (i b n) q⟩,λb u q n _=>by rw[aI (g b n)];exact n,λb u q _=>?_,
  λb j q=>by rw[aI (d b _ q λz=>z)];exact q,λb u j q=>by rw[aI (d b _ q λz=>z)];exact q,λb p q=>⟨#[],by rw[aI (d b _ q λz=>z),q];simp⟩⟩
 grind
def Un.mono(u:Un fs ex H H1 h h1)(hs:∀b∈fs,b∈fs')(d:∀b∈ex,b∈ex'):Un fs' ex' H H1 h h1:=
 ⟨λb c q n e a=>u.keep b c q n (λz=>e (hs b z)) λz=>a (d b z),λ_ _ q n _ a=>u.any q n λz=>a (d _ z),λb c q n a=>u.free b c q n λz=>a (d b z),λb c q a=>u.there b c q λz=>a (d b z),u.tups,u.frzs,u.tbls⟩
end
noncomputable def OF(h:Heap)(H:Hp):List Addr:=(List.range h.objs.size).filter λa=>(H a).isSome
noncomputable def xS(h:Heap)(H:Hp):Heap:=W.hideAll h (OF h H)
def zi(h:Heap)(H:Hp):(xS h H).objs.size=h.objs.size:=W.hideAll_size _ _
def MJ{o:Obj}(e:h.get? b=some o)(n:H b=none):(xS h H).get? b=some o:=
 W.hideAll_get _ e λa=>by
  have q:=(Ff.mp a).2
  grind
def L8{o:Obj}(e:(xS h H).get? b=some o):h.get? b=some o/\H b=none:=by
 have a:=W.of_hideAll _ e
 refine⟨a,?_⟩;cases q:H b with
 |none=>rfl
 |some x=>
  have c:b∈OF h H:=List.mem_filter.mpr ⟨List.mem_range.mpr (Heap.lt_size a),by simp[q]⟩
  have z:(xS h H).get? b=none:=W.hideAll_none _ c
  grind
structure Mod (K:W.Frag) (mg:Str->Option Value) (base:Heap):Prop where
 Xs:K.In base
 glob:base.Ns mainGlobals mg
 blt:∃mb,base.Ns builtinsNs mb/\∀x:Str,x≠"__name__"->mb x=bootBuiltins x
 nolimit:base.NoLimit
structure Cx where
 prog:Program
 w:World
 K:W.Frag
 mg:Str->Option Value
 base:Heap
 A:Around
 N:List Str
 s₀:Shared
 H₀:Hp
 env:Env
 outer:List Env
 stack:List Env
 ex:List Addr
 fn:Str->Bool
 calm:Bool
 pn:List (Addr×Obj)
 xe:Value->Shared->Prop
variable {X:Cx}
noncomputable def YS(l:List Env):List Addr:=l.filterMap (·.frame)
noncomputable abbrev Cx.fs(X:Cx):List Addr:=YS X.outer
def Vd(a:Scope)(x:Str):Prop:=a.names.lookup x=some .local\/a.names.lookup x=some .cell\/a.names.lookup x=some .free
def Loc(a:Scope)(x:Str):Prop:=a.names.lookup x=some .local\/a.names.lookup x=some .cell
def HX(a:Env)(h:Heap)(m:Str->Option Value)(x:Str)(u:Value):Prop:=
 (a.kindOf x=some .local/\m x=some u)\/((a.kindOf x=some .cell\/a.kindOf x=some .free)/\∃c,a.cells.lookup x=some c/\h.IsCell c (some u))
structure Cx.Ok (X:Cx):Prop where
 mod:Mod X.K X.mg X.base
 kind:X.env.scope.kind=.function
 glob:X.env.globals=mainGlobals
 blt:X.env.builtins=builtinsNs
 above:X.s₀.heap.objs.size<=X.env.locals
 inj:∀x y c,X.env.cells.lookup x=some c->X.env.cells.lookup y=some c->x=y
 has:∀x,(X.env.kindOf x=some .cell\/X.env.kindOf x=some .free)->∃c,X.env.cells.lookup x=some c
 WM:∀x c,X.fn x=true->X.env.cells.lookup x=some c->X.s₀.heap.objs.size<=c
 hd:X.calm=true->X.A.handled=none
 frames:X.A.frames=some X.stack
 Ww:X.stack=X.outer\/(X.stack=X.env::X.outer/\X.env.frame=some X.env.locals)
 V_:∀b∈X.ex,b≠X.env.locals/\∀x c,X.env.cells.lookup x=some c->c≠b
 bs:∀b o,X.base.get? b=some o->X.s₀.heap.get? b=some o/\X.H₀ b=none
 X7:X.base.objs.size<=X.s₀.heap.objs.size
 Ya:∀b o,X.base.get? b=some o->b∉X.ex
 Ys:∀b∈X.ex,b∉X.fs
 Zr:X.s₀.heap.FunFrames X.base X.outer
 Xx:∀b∈X.fs,X.H₀ b=none
structure Inv (X:Cx) (y3:List (Addr×Obj)) (U:List (Option V)) (H:Hp) (s:Shared):Prop where
 ok:X.Ok
 os:s.os=X.s₀.os
 bare:AllBare s.gens
 base:Un X.fs X.ex X.H₀ H X.s₀.heap s.heap
 loc:∃m,s.heap.Ns X.env.locals m/\∀(i:Nat) (x:Str) (v:V),X.N[i]?=some x->U[i]?=some (some v)->Vd X.env.scope x->∃u,RelV v u/\HX X.env s.heap m x u
 cell:∀x c,X.env.cells.lookup x=some c->∃v,s.heap.IsCell c v
 free:H X.env.locals=none
 ZO:∀x c,X.env.cells.lookup x=some c->H c=none
 pin:∀p∈X.pn++y3,s.heap.get? p.1=some p.2/\H p.1=none/\p.1≠X.env.locals/\p.1∉X.fs/\∀v,p.2.data≠.cell v
 Z4:Zj X.prog X.w H s.heap
 len:U.length=X.N.length
section
variable {U:List (Option V)} {H':Hp}
def Cx.Ok.T7(ok:X.Ok){o:Obj}(e:X.base.get? b=some o):b∉X.fs:=λa=>by
 have:=(ok.Zr.mem a).1
 grind
def Inv.bs(I:Inv X y3 U H s):∀b o,X.base.get? b=some o->s.heap.get? b=some o/\H b=none:=λb o e=>
 ⟨I.base.keep b o (I.ok.bs b o e).1 (I.ok.bs b o e).2 (I.ok.T7 e) (I.ok.Ya b o e),I.base.free b o (I.ok.bs b o e).1 (I.ok.bs b o e).2 (I.ok.Ya b o e)⟩
def Inv.bk(I:Inv X y3 U H s):∀b o,X.base.get? b=some o->s.heap.get? b=some o:=λb o e=>(I.bs b o e).1
def Inv.mod(I:Inv X y3 U H s):Mod X.K X.mg X.base:=I.ok.mod
def Inv.ZK(I:Inv X y3 U H s):X.K.In s.heap:=I.ok.mod.Xs.keeps I.bk
def Inv.lt(I:Inv X y3 U H s):X.env.locals<s.heap.objs.size:=let ⟨_,a,_⟩:=I.loc;a.lt
def Inv.sz(I:Inv X y3 U H s):X.s₀.heap.objs.size<=s.heap.objs.size:=Bo I.ok.above (Hr I.lt)
def Inv.Th(I:Inv X y3 U H s)(h:s.heap.objs.size<=a):a∉X.fs:=λc=>by
 obtain⟨_,o,b,_⟩:=I.ok.Zr.mem c;exact absurd (Bi (Aq b) (Bo I.sz h)) (Eg _)
def Inv.VM(I:Inv X y3 U H s):∀x c,X.env.cells.lookup x=some c->c≠X.env.locals:=λx c e z=>by
 obtain⟨v,o,d,f⟩:=I.cell x c e;obtain⟨m,⟨g,h,i,a,b,_⟩,_⟩:=I.loc;grind
def Inv.Zr(I:Inv X y3 U H s):s.heap.FunFrames X.base X.outer:=by
 have f:∀l,(∀b∈YS l,b∈X.fs)->X.s₀.heap.FunFrames X.base l->s.heap.FunFrames X.base l:=by
  intro l;induction l with
  |nil=>intro _ _;trivial
  |cons q r h=>
   intro g m;obtain⟨n,⟨L,o,a,k,j,p⟩,i⟩:=m;have d:=g L (by unfold YS;rw[Fy,a];exact Al)
   obtain⟨t,e⟩:=I.base.slot L o j (I.ok.Xx L d) d λz=>I.ok.Ys L z d;exact⟨n,⟨L,_,a,k,e,p⟩,h (λb c=>g b (by unfold YS;rw[Fy,a];exact Ao _ c)) i⟩
 exact f X.outer (λ_ c=>c) I.ok.Zr
def Inv.stack(I:Inv X y3 U H s):s.heap.FunFrames X.base X.stack:=by
 rcases I.ok.Ww with e|⟨e,b⟩
 .rw[e];exact I.Zr
 .rw[e];obtain⟨m,a,_⟩:=I.loc;refine .cons (by rw[I.ok.kind];decide) b a ?_ I.Zr
  exact Hn (Bo I.ok.X7 I.ok.above)
def Inv.XR(I:Inv X y3 U H s):∀b∈YS X.stack,b∈X.env.locals::X.fs:=λb a=>by
 rcases I.ok.Ww with e|⟨e,c⟩
 .rw[e]at a;exact Ao _ a
 .rw[e]at a;unfold YS at a;rwa[Fy,c]at a
def Inv.YK(I:Inv X y3 U H s):∀b∈YS X.stack,H b=none:=λb a=>by
 rcases Bb.mp (I.XR b a) with e|a
 .rw[e];exact I.free
 .obtain⟨_,o,c,_⟩:=I.ok.Zr.mem a;exact I.base.free b o c (I.ok.Xx b a) λz=>I.ok.Ys b z a
def Inv.step{ch:List Addr}(I:Inv X y3 U H s)(A:∀b∈ch,(b∈X.ex\/X.s₀.heap.objs.size<=b)/\b≠X.env.locals/\(∀x c,X.env.cells.lookup x=some c->c≠b)/\∀p∈X.pn++y3,p.1≠b)(y:∀b o,b≠X.env.locals->b∉X.fs->b∉ch->s.heap.get? b=some o->H b=none->h'.get? b=some o)(F:∀b o,b≠X.env.locals->b∈X.fs->b∉ch->s.heap.get? b=some o->H b=none->∃V,h'.get? b=some {o with slots:=V})(f:∀b o,b∉ch->s.heap.get? b=some o->H b=none->H' b=none)(G:∀b o,b∉ch->s.heap.get? b=some o->∃N,h'.get? b=some N)(L:∀b E,H b=some (.tup E)->H' b=some (.tup E))(Q:∀b o u,H b=some (.frz o u)->H' b=some (.frz o u))(M:∀b S,H b=some (.tbl S)->∃P,H' b=some (.tbl (S++P)))(ns:∀m,s.heap.Ns X.env.locals m->h'.Ns X.env.locals m)(W:Zj X.prog X.w H' h')(hg:AllBare g'):Inv X y3 U H' {s with heap:=h',gens:=g',drawn:=d',toks:=t'}:=by
 have O:∀b o,X.s₀.heap.get? b=some o->b≠X.env.locals:=λb o e=>Bc (Bi (Aq e) I.ok.above)
 have C:∀b o,X.s₀.heap.get? b=some o->b∉X.ex->b∉ch:=λb o e a J=>by
  rcases (A b J).1 with z|z
  .exact a z
  .exact absurd (Bi (Aq e) z) (Eg _)
 have B:∀x c,X.env.cells.lookup x=some c->∀v,s.heap.IsCell c v->h'.IsCell c v:=λx c e v ⟨o,K,Y⟩=>by
  have j:=λz=>(A c z).2.2.1 x c e rfl
  by_cases hc:c∈X.fs
  .obtain⟨V,q⟩:=F c o (I.VM x c e) hc j K (I.ZO x c e);exact⟨_,q,Y⟩
  .exact⟨o,y c o (I.VM x c e) hc j K (I.ZO x c e),Y⟩
 refine⟨I.ok,I.os,hg,⟨λb o e n J a=>?_,λb o e n J a=>?_,λb o e n a=>?_,λb o e a=>?_,λb E e=>L b E (I.base.tups b E e),λb o E e=>Q b o E (I.base.frzs b o E e),λb S e=>?_⟩,?_,λx c e=>?_,?_,λx c e=>?_,λp hp=>?_,W,I.len⟩
 .exact y b o (O b o e) J (C b o e a) (I.base.keep b o e n J a) (I.base.free b o e n a)
 .obtain⟨V,D⟩:=I.base.slot b o e n J a;obtain⟨T,R⟩:=F b _ (O b o e) J (C b o e a) D (I.base.free b o e n a);exact⟨T,R⟩
 .obtain⟨N,D⟩:=I.base.there b o e a;exact f b N (C b o e a) D (I.base.free b o e n a)
 .obtain⟨N,D⟩:=I.base.there b o e a;exact G b N (C b o e a) D
 .obtain⟨m1,D⟩:=I.base.tbls b S e;obtain⟨m2,R⟩:=M b _ D;exact⟨m1++m2,by rw[R,Array.append_assoc]⟩
 .obtain⟨m,hn,hl⟩:=I.loc;refine⟨m,ns m hn,λi x v D R e3=>?_⟩;obtain⟨u,r,l⟩:=hl i x v D R e3;refine⟨u,r,?_⟩;rcases l with l|⟨k,c,e,z⟩
  .exact .inl l
  .exact .inr ⟨k,c,e,B x c e _ z⟩
 .obtain⟨v,z⟩:=I.cell x c e;exact⟨v,B x c e v z⟩
 .obtain⟨m,⟨o,_,_,K,_⟩,_⟩:=I.loc;exact f _ o (λz=>(A _ z).2.1 rfl) K I.free
 .obtain⟨v,o,K,Y⟩:=I.cell x c e;exact f c o (λz=>(A c z).2.2.1 x c e rfl) K (I.ZO x c e)
 .obtain⟨e,n,ne,Z,d⟩:=I.pin p hp;have j:=λz=>(A p.1 z).2.2.2 p hp rfl
  exact⟨y p.1 p.2 ne Z j e n,f p.1 p.2 j e n,ne,Z,d⟩
def Inv.un{t':Nat}(I:Inv X y3 U H s)(u:Un X.fs [] H H' s.heap h')(c:Zj X.prog X.w H' h'):Inv X y3 U H' {s with heap:=h',toks:=t'}:=by
 obtain⟨m,⟨o,A,B,k,r⟩,_⟩:=id I.loc;obtain⟨v,q⟩:=u.any k I.free (by simp)
 exact I.step   (ch:=[]) (λ_ z=>nomatch z) (λb o _ f _ e n=>u.keep b o e n f (by simp)) (λb o _ f _ e n=>u.slot b o e n f (by simp)) (λb o _ e n=>u.free b o e n (by simp)) (λb o _ e=>u.there b o e (by simp)) u.tups u.frzs u.tbls (λy p=>by
  obtain⟨x,i,j,a,l⟩:=p;rw[k]at a;cases a;exact⟨_,i,j,q,l⟩) c I.bare
def Inv.call{t':Nat}{d':Drawn}{ch:List Addr}(I:Inv X y3 U H s)(u:Un (YS X.stack) ch H H' s.heap h')(j:Zj X.prog X.w H' h')(B:AllBare g')(i:∀b∈ch,(b∈X.ex\/X.s₀.heap.objs.size<=b)/\b≠X.env.locals/\(∀x c,X.env.cells.lookup x=some c->c≠b)/\∀p∈X.pn++y3,p.1≠b):Inv X y3 U H' {s with heap:=h',gens:=g',drawn:=d',toks:=t'}:=by
 obtain⟨m,⟨o,G,J,v,r⟩,_⟩:=id I.loc;obtain⟨D,k⟩:=u.any v I.free λz=>(i _ z).2.1 rfl;exact I.step  i (λb o k C a e n=>u.keep b o e n (λz=>(Bb.mp (I.XR b z)).elim k C) a) (λb o _ _ a e n=>u.any e n a) (λb o a e n=>u.free b o e n a) (λb o a e=>u.there b o e a) u.tups u.frzs u.tbls (λF A=>by
  obtain⟨E,l,q,f,y⟩:=A;rw[v]at f;cases f;exact⟨_,l,q,k,y⟩) j B
def Inv.turned{t':Nat}{a:Addr}(I:Inv X y3 U H s)(k:∀b o,b≠a->s.heap.get? b=some o->h'.get? b=some o)(w:H a=none)(j:a≠X.env.locals)(h1:a∈X.ex\/X.s₀.heap.objs.size<=a)(C:∀x c,X.env.cells.lookup x=some c->c≠a)(B:∀p∈X.pn++y3,p.1≠a):Inv X y3 U H {s with heap:=h',toks:=t'}:=by
 have i:∀b u,H b=some u->b≠a:=λb u e z=>by rw[z,w]at e;cases e
 refine I.step (g':=s.gens) (d':=s.drawn) (ch:=[a]) (λb A=>?_) (λb o _ _ f e _=>k b o (λz=>f (by simp[z])) e) (λb o _ _ f e _=>⟨o.slots,k b o (λz=>f (by simp[z])) e⟩) (λ_ _ _ _ n=>n)
  (λb o f e=>⟨o,k b o (λz=>f (by simp[z])) e⟩) (λ_ _ e=>e) (λ_ _ _ e=>e) (λb F e=>⟨#[],by rw[e];simp⟩) (λm y=>?_) (λb u e=>?_) I.bare
 .have e:b=a:=by simpa using A
  subst e;exact⟨h1,j,C,B⟩
 .obtain⟨o,D,E,l,r⟩:=y;exact⟨o,D,E,k _ o (Ne.symm j) l,r⟩
 .refine(I.Z4 b u e).Zb (λc v f q=>k c v ?_ q) (λ_ q=>q) λ_ _ q=>q;grind
def Inv.tok(I:Inv X y3 U H s)(t:Nat):Inv X y3 U H {s with toks:=t}:=I.un   Un.refl I.Z4
def Inv.kept{t':Nat}(I:Inv X y3 U H s)(k:∀b u,s.heap.get? b=some u->h'.get? b=some u):Inv X y3 U H {s with heap:=h',toks:=t'}:=I.un (Un.kept k) (I.Z4.kept k)
def Inv.laid{a:Addr}{o:HO}{t':Nat}(I:Inv X y3 U H s)(k:∀b u,s.heap.get? b=some u->h'.get? b=some u)(d:s.heap.objs.size<=a)(c:ZX X.prog X.w (upd H a o) h' a o):Inv X y3 U (upd H a o) {s with heap:=h',toks:=t'}:=I.un (Un.laid k d (I.Z4.fresh d)) (I.Z4.laid k d c)
def Inv.write{x e:Addr}{o:HO}{t':Nat}(I:Inv X y3 U H s)(d:Vo (H x))(f:e=x\/H e=some (.own x))(k:∀b u,b≠e->s.heap.get? b=some u->h'.get? b=some u)(a:∃u,h'.get? e=some u)(c:ZX X.prog X.w (upd H x o) h' x o):Inv X y3 U (upd H x o) {s with heap:=h',toks:=t'}:=I.un (Un.write d f k a) (I.Z4.write d f k a c)
def Inv.weak{b:List (Option V)}(I:Inv X y3 U H s)(d:b.length=U.length)(w:∀(i:Nat) v,b[i]?=some (some v)->U[i]?=some (some v)):Inv X y3 b H s:=
 ⟨I.ok,I.os,I.bare,I.base,let ⟨m,c,a⟩:=I.loc;⟨m,c,λi x v g f e=>a i x v g (w i v f) e⟩,I.cell,I.free,I.ZO,I.pin,I.Z4,d.trans I.len⟩
def Inv.XN{a:Q3}(I:Inv X y3 U H s)(h:∀p∈a,s.heap.get? p.1=some p.2/\H p.1=none/\p.1≠X.env.locals/\p.1∉X.fs/\∀v,p.2.data≠.cell v):Inv X a U H s:=
 ⟨I.ok,I.os,I.bare,I.base,I.loc,I.cell,I.free,I.ZO,λp b=>(Bs.mp b).elim (λz=>I.pin p (Cm _ z)) (h p),I.Z4,I.len⟩
def uT(c:N.Nodup){j:Nat}(a:N[i]?=some x)(b:N[j]?=some x):i=j:=by
 obtain⟨g,e⟩:=Ae.mp a;obtain⟨f,d⟩:=Ae.mp b;exact(Ht c).mp (e.trans d.symm)
def sA{Q:Unit->Shared->Prop}(I:Inv X y3 U H s)(hN:X.N.Nodup)(T:X.N[i]?=some x)(B:Loc X.env.scope x)(r:RelV v u)(h:∀s',Inv X y3 (U.set i (some v)) H s'->(∃a,Heap.SameBut a s.heap s'.heap/\(a=X.env.locals\/X.env.cells.lookup x=some a))->Q () s')(hf:X.fn x=true\/X.env.scope.names.lookup x=some .local:=by first|exact .inl rfl|exact .inr rfl|assumption):wpAny M A (storeName X.env x u) Q E s:=by
 obtain⟨m,hn,hl⟩:=id I.loc;have V:(X.env.scope.kind == .class || (X.env.scope.kind == .module&&X.env.locals != X.env.globals))=false:=by rw[I.ok.kind];rfl
 have S:i<U.length:=by rw[I.len];exact(Ae.mp T).1
 have L:=I.VM
 have g:∀ {a:Addr} {O:Heap},(∃o,s.heap.get? a=some o/\H a=none)->Heap.SameBut a s.heap O->Zj X.prog X.w H O:=fun {a O} ha f b ob e=>by
  obtain⟨_,_,C⟩:=ha;refine(I.Z4 b ob e).Zb (λc Z t q=>(f.2 c ?_).trans q) (λ_ q=>q) λ_ _ q=>q;rintro rfl;rcases t with rfl|t
  .rw[C]at e;cases e
  .rw[C]at t;cases t
 rcases B with F|F
 .refine wpAny_storeName_local F hn (λO a2 f=>?_) V;obtain⟨oL,_,_,a1,_⟩:=id hn;refine h _ ⟨I.ok,I.os,I.bare,⟨λb o e n K B=>?_,λb o e n K B=>?_,I.base.free,λb o e B=>?_,I.base.tups,I.base.frzs,I.base.tbls⟩,⟨_,a2,λj y v' l D e3=>?_⟩,λy c e=>?_,I.free,I.ZO,λp hp=>?_,g ⟨oL,a1,I.free⟩ f,by simpa using I.len⟩ ⟨_,f,.inl rfl⟩
  .exact(f.2 b (Bc (Bi (Aq e) I.ok.above))).trans (I.base.keep b o e n K B)
  .obtain⟨sl,l⟩:=I.base.slot b o e n K B;exact⟨sl,(f.2 b (Bc (Bi (Aq e) I.ok.above))).trans l⟩
  .obtain⟨o',l⟩:=I.base.there b o e B;exact⟨o',(f.2 b (Bc (Bi (Aq e) I.ok.above))).trans l⟩
  .by_cases G:j=i
   .subst G;rw[T]at l;cases l;rw[Ei S]at D;cases D;exact⟨u,r,.inl ⟨F,by simp⟩⟩
   .rw[Ec (Ne.symm G)]at D;obtain⟨u',r',q⟩:=hl j y v' l D e3;refine⟨u',r',?_⟩;rcases q with⟨k,e⟩|⟨k,c,e,z⟩
    .refine .inl ⟨k,?_⟩;have:y≠x:=λe=>G (uT hN l (e▸T))
     simp[this,e]
    .exact .inr ⟨k,c,e,z.sameBut f (L y c e)⟩
  .obtain⟨Z,z⟩:=I.cell y c e;exact⟨Z,z.sameBut f (L y c e)⟩
  .obtain⟨e,n,ne,nf,d⟩:=I.pin p hp;exact⟨(f.2 p.1 ne).trans e,n,ne,nf,d⟩
 .have J:X.fn x=true:=by
   rcases hf with z|z
   .exact z
   .rw[z]at F;cases F
  obtain⟨c,t⟩:=I.ok.has x (.inl F);obtain⟨Z,z⟩:=I.cell x c t;refine wpAny_storeName_cell I.ok.kind F t z (λO Y f=>?_);obtain⟨oc,R,P⟩:=id z;refine h {s with heap:=O} ⟨I.ok,I.os,I.bare,⟨λb o e n K B=>?_,λb o e n K B=>?_,I.base.free,λb o e B=>?_,I.base.tups,I.base.frzs,I.base.tbls⟩,⟨m,hn.sameBut f (Ne.symm (L x c t)),λj y v' l D e3=>?_⟩,λy c' e=>?_,I.free,I.ZO,λp hp=>?_,g ⟨oc,R,I.ZO x c t⟩ f,by simpa using I.len⟩ ⟨c,f,.inr t⟩
  .exact(f.2 b (Bc (Bi (Aq e) (I.ok.WM x c J t)))).trans (I.base.keep b o e n K B)
  .obtain⟨sl,l⟩:=I.base.slot b o e n K B;exact⟨sl,(f.2 b (Bc (Bi (Aq e) (I.ok.WM x c J t)))).trans l⟩
  .obtain⟨o',l⟩:=I.base.there b o e B;exact⟨o',(f.2 b (Bc (Bi (Aq e) (I.ok.WM x c J t)))).trans l⟩
  .by_cases G:j=i
   .subst G;rw[T]at l;cases l;rw[Ei S]at D;cases D;exact⟨u,r,.inr ⟨.inl F,c,t,Y⟩⟩
   .rw[Ec (Ne.symm G)]at D;obtain⟨u',r',q⟩:=hl j y v' l D e3;refine⟨u',r',?_⟩;rcases q with q|⟨k,c',e,z'⟩
    .exact .inl q
    .refine .inr ⟨k,c',e,z'.sameBut f ?_⟩;rintro rfl;exact G (uT hN l (I.ok.inj _ _ _ e t▸T))
  .by_cases W:c'=c
   .subst W;exact⟨_,Y⟩
   .obtain⟨w2,z2⟩:=I.cell y c' e;exact⟨w2,z2.sameBut f W⟩
  .obtain⟨e,n,ne,nf,d⟩:=I.pin p hp;refine⟨(f.2 p.1 ?_).trans e,n,ne,nf,d⟩;intro q;rw[q,R]at e;have q':=Bm e
   exact d Z (by rw[<-q'];exact P)
def qS{Q:Unit->Shared->Prop}(I:Inv X y3 U H s)(e:X.N.Nodup)(c:X.N[i]?=some x)(b:Loc X.env.scope x)(r:RelV v u)(h:∀a,Inv X y3 (U.set i (some v)) H a->Q () a)(d:X.fn x=true\/X.env.scope.names.lookup x=some .local:=by first|exact .inl rfl|exact .inr rfl|assumption):wpAny M A (storeName X.env x u) Q E s:=
 sA I e c b r (λa f _=>h a f) d
def Inv.Wz{ch:List Addr}(I:Inv X y3 U H s)(j:s'.os=s.os)(u:Un (YS X.stack) ch H H' s.heap s'.heap)(a:Zj X.prog X.w H' s'.heap)(k:AllBare s'.gens)(f:∀b∈ch,(b∈X.ex\/X.s₀.heap.objs.size<=b)/\b≠X.env.locals/\(∀x c,X.env.cells.lookup x=some c->c≠b)/\∀p∈X.pn++y3,p.1≠b):Inv X y3 U H' s':=by
 obtain⟨l,g',d',t',i⟩:=s';have e:=j
 subst e;exact I.call    u a k f
end
abbrev XK:=Value->Option Addr->Hp->Prop
abbrev St:=List (Option V)
variable {U:St}
abbrev VK:=V->Hp->Prop
abbrev TE:=St->Hp->VK->Prop
variable {ta tb te:TE}
abbrev TT:=St->Hp->(Bool->Hp->Prop)->Prop
abbrev TA:=St->Hp->(List V->Hp->Prop)->Prop
variable {t:TA}
structure Ends where
 nx:St->Hp->Prop
 rt:VK
 bk:St->Hp->Prop:=λ_ _=>False
 ct:St->Hp->Prop:=λ_ _=>False
abbrev TS:=Ends->St->Hp->Prop
def EP(X:Cx)(b:List (Addr×Obj))(U:St)(Q:VK)(u:Value)(s':Shared):Prop:=∃v a,Inv X b U a s'/\RelV v u/\Q v a
def TP(X:Cx)(c:List (Addr×Obj))(U:St)(Q:Bool->Hp->Prop)(b:Bool)(s':Shared):Prop:=∃a,Inv X c U a s'/\Q b a
def AP(X:Cx)(c:List (Addr×Obj))(U:St)(Q:List V->Hp->Prop)(us:List Value)(s':Shared):Prop:=∃a b,Inv X c U b s'/\Vals a us/\Q a b
def SP(X:Cx)(c:List (Addr×Obj))(D:Ends)(f:Flow)(s':Shared):Prop:=
 match f with
 |.next=>∃b a,Inv X c b a s'/\D.nx b a
 |.brk=>∃b a,Inv X c b a s'/\D.bk b a
 |.cont=>∃b a,Inv X c b a s'/\D.ct b a
 |.ret u=>∃v b a,Inv X c b a s'/\RelV v u/\D.rt v a
def PE(X:Cx)(e:Expr)(t:TE):Prop:=
 ∀(a:Q3) s (U:St) H Q,Inv X a U H s->t U H Q->wpAny (model X.prog X.w) X.A (eval e X.env) (EP X a U Q) X.xe s
def PT(X:Cx)(e:Expr)(t:TT):Prop:=
 ∀(a:Q3) s (U:St) H Q,Inv X a U H s->t U H Q->wpAny (model X.prog X.w) X.A (isTrue e X.env (eval e X.env)) (TP X a U Q) X.xe s
def PW(X:Cx)(e:Expr)(t:TT):Prop:=
 ∀a (b:Q3) s (U:St) H Q,Inv X b U H s->t U H Q->wpAny (model X.prog X.w) X.A (isTrue e X.env a) (TP X b U Q) X.xe s
def PW.pt{t:TT}(h:PW X e t):PT X e t:=h _
def PA(X:Cx)(es:List Expr)(t:TA):Prop:=
 ∀a (b:Q3) s (U:St) H Q,Inv X b U H s->t U H Q->wpAny (model X.prog X.w) X.A (spliced (backTo a (starEach es X.env))) (AP X b U Q) X.xe s
def PS(X:Cx)(st:Stmt)(t:TS):Prop:=
 ∀(a:Q3) s (U:St) H D,Inv X a U H s->t D U H->wpAny (model X.prog X.w) X.A (exec st X.env) (SP X a D) X.xe s
def YL(X:Cx)(st:List Stmt)(t:TS):Prop:=
 ∀(a:Q3) s (U:St) H D,Inv X a U H s->t D U H->wpAny (model X.prog X.w) X.A (execs st X.env) (SP X a D) X.xe s
def Z1{b:Type}{t:Sem b}{Q c:b->Shared->Prop}(h:wpAny M A t Q E s)(d:∀a s,Q a s->c a s):wpAny M A t c E s:=Cf h d λ_ _ x=>x
section
def NN(i:Nat):TE:=λU H Q=>∃v,U[i]?=some (some v)/\Q v H
def tC(v:V):TE:=λ_ H Q=>Q v H
def IP(t:X.N[i]?=some x)(n:Vd X.env.scope x)(f:(x==("__debug__" : Str))=false:=by decide)(g:(x==("__classdict__" : Str))=false:=by decide):PE X (.Name x pos) (NN i):=by
 intro k s U H Q I h;obtain⟨v,e,h⟩:=h;obtain⟨m,o,q⟩:=I.loc;obtain⟨u,r,l⟩:=q i x v t e n;have d:EP X k U Q u s:=⟨v,H,I,r,h⟩
 rcases l with⟨b,p⟩|⟨b,c,j,a⟩
 .exact wpAny_Name (wpAny_loadName_local I.ok.kind b o p d) f
 .rcases b with b|b
  .exact wpAny_Name (wpAny_loadName_cell I.ok.kind b j a d) f
  .exact wpAny_Name (wpAny_loadName_free I.ok.kind b j a d g) f
def aJ{i j pos}:PE X (.Constant (.int i) j pos) (tC (.int i)):=λ_ _ _ H _ I h=>wpAny_Constant_int ⟨.int i,H,I.tok _,⟨_,rfl⟩,h⟩
def eI{b j pos}:PE X (.Constant (.bool b) j pos) (tC (.bl b)):=λ_ _ _ H _ I h=>Constant_bool ⟨.bl b,H,I,rfl,h⟩
def cF{j pos}:PE X (.Constant .none j pos) (tC .non):=λ_ _ _ H _ I h=>Constant_none ⟨.non,H,I,rfl,h⟩
def fK{x j pos}:PE X (.Constant (.str x) j pos) (tC (.str x)):=λ_ _ _ H _ I h=>Calls.Constant_str ⟨.str x,H,I.tok _,⟨_,rfl⟩,h⟩
def Gl(X:Cx)(x:Str):Prop:=X.env.kindOf x=some .globalImplicit
def eK(I:Inv X y3 U H s)(b:Gl X x)(a:X.mg x=some u)(h:Q u s)(c:(x==("__debug__" : Str))=false:=by decide):wpAny (model X.prog X.w) X.A (eval (.Name x pos) X.env) Q E s:=
 Calls.Name_function_global I.ok.kind b (Calls.loadGlobal_global (by rw[I.ok.glob];exact I.mod.glob.keeps I.bk) a h) c
def iZ(I:Inv X y3 U H s)(d:Gl X x)(c:X.mg x=none)(a:bootBuiltins x=some u)(h:Q u s)(b:x≠"__name__" := by decide)(e:(x==("__debug__" : Str))=false:=by decide):wpAny (model X.prog X.w) X.A (eval (.Name x pos) X.env) Q E s:=by
 obtain⟨i,g,f⟩:=I.mod.blt;exact Calls.Name_function_global I.ok.kind d (Calls.loadGlobal_builtin (by rw[I.ok.glob];exact I.mod.glob.keeps I.bk) c (by rw[I.ok.blt];exact g.keeps I.bk) ((f x b).trans a) h) e
def T9(b:Gl X x)(a:X.mg x=some u)(r:RelV v u)(c:(x==("__debug__" : Str))=false:=by decide):PE X (.Name x pos) (tC v):=
 λ_ _ _ H _ I h=>eK I b a ⟨v,H,I,r,h⟩ c
def M1(d:Gl X x)(c:X.mg x=none)(a:bootBuiltins x=some u)(r:RelV v u)(b:x≠"__name__" := by decide)(e:(x==("__debug__" : Str))=false:=by decide):PE X (.Name x pos) (tC v):=
 λ_ _ _ H _ I h=>iZ I d c a ⟨v,H,I,r,h⟩ b e
variable {a b:Expr}
variable {tA tB':TT} {rest:List Expr}
def Qv(t u:TT):TT:=λU H Q=>t U H λc a=>if c=true then u U a Q else Q false a
def R6(t u:TT):TT:=λU H Q=>t U H λc a=>if c=true then Q true a else u U a Q
def Ox(t:TT):TT:=λU H Q=>t U H λc a=>Q (!c) a
def iO(d:PT X a tA):PW X (.BoolOp .And [a] pos) tA:=by
 intro f b s U H Q I h;refine isTrue_and (Z1 (d b s U H Q I h) λc g e=>?_);cases c with
 |true=>exact isTrue_and_nil e
 |false=>exact e
def gB(d:PT X a tA):PW X (.BoolOp .Or [a] pos) tA:=by
 intro f b s U H Q I h;refine isTrue_or (Z1 (d b s U H Q I h) λc g e=>?_);cases c with
 |false=>exact isTrue_or_nil e
 |true=>exact e
def kA(l:PT X a tA)(k:PW X (.BoolOp .And (b::rest) pos) tB'):PW X (.BoolOp .And (a::b::rest) pos) (Qv tA tB'):=by
 intro i d s U H Q I h;refine isTrue_and (Z1 (l d s U H _ I h) λc j μ=>?_);obtain⟨g,f,e⟩:=μ;cases c with
 |true=>exact k i d j U g Q f e
 |false=>exact⟨g,f,e⟩
def gJ(l:PT X a tA)(k:PW X (.BoolOp .Or (b::rest) pos) tB'):PW X (.BoolOp .Or (a::b::rest) pos) (R6 tA tB'):=by
 intro i d s U H Q I h;refine isTrue_or (Z1 (l d s U H _ I h) λc j μ=>?_);obtain⟨g,f,e⟩:=μ;cases c with
 |true=>exact⟨g,f,e⟩
 |false=>exact k i d j U g Q f e
def gG(d:PT X a tA):PT X (.UnaryOp .Not a pos) (Ox tA):=by
 intro b s U H Q I h;exact isTrue_not (d b s U H _ I h)
def Uc{t:TE}(h:PE X a t):PE X (.BoolOp op [a] pos) t:=λb s U H Q I c=>BoolOp_one (h b s U H Q I c)
def RY(t:TT)(d b:TE):TE:=λU H Q=>t U H λc a=>if c=true then d U a Q else b U a Q
def vC(k:PT X c tA)(m:PE X a ta)(l:PE X b tb):PE X (.IfExp c a b pos) (RY tA ta tb):=by
 intro e s U H Q I h;refine wpAny_IfExp (Z1 (k e s U H _ I h) λd f μ=>?_);obtain⟨j,i,g⟩:=μ;cases d with
 |true=>exact m e f U j Q i g
 |false=>exact l e f U j Q i g
end
def Zo(K:W.Frag)(H:Hp)(a:Addr)(xs:List V):Prop:=
 Rd H a (.lst xs)\/
  ∃o b n,K.lookup a=some o/\o.cls=.type "list"/\o.dict=none/\o.data=.seq b n/\b.size<=sizeLine/\Vals xs b.toList
def YF(K:W.Frag)(H:Hp)(a:Addr)(xs:List V):Prop:=
 Rd H a (.tup xs)\/
  ∃o b n,K.lookup a=some o/\o.cls=.type "tuple"/\o.data=.seq b n/\b.size<=sizeLine/\Vals xs b.toList
noncomputable def Nf:Value->Option V
 |.none=>some .non
 |.bool b=>some (.bl b)
 |.int i _=>some (.int i)
 |.str x _=>some (.str x)
 |.bytes b _=>some (.byt b)
 |.float b _=>some (.flt b)
 |.ref a=>some (.ref a)
 |.type n=>some (.ty n)
 |_=>none
def RelV.abs{x:V}(r:RelV x u):Nf u=some x:=by
 cases x with
 |non=>cases r;rfl
 |bl _=>cases r;rfl
 |int _=>obtain⟨t,rfl⟩:=r;rfl
 |str _=>obtain⟨t,rfl⟩:=r;rfl
 |byt _=>obtain⟨t,rfl⟩:=r;rfl
 |flt _=>obtain⟨t,rfl⟩:=r;rfl
 |ref _=>cases r;rfl
 |ty _=>cases r;rfl
def RelV.inj{x y:V}(r:RelV x u)(q:RelV y u):x=y:=Bm (r.abs.symm.trans q.abs)
def Vals.inj{b a:List V}{c:List Value}(h:Vals b c)(g:Vals a c):b=a:=by
 induction h generalizing a with
 |nil=>cases g;rfl
 |cons r _ i=>cases g with|cons q t=>rw[r.inj q,i t]
section
variable {ys:List V}
def YF.of(h:H a=some (.tup xs)):YF K H a xs:=.inl (.inl h)
def Inv.list(I:Inv X y3 U H s)(h:Zo X.K H a xs):∃b,Vals xs b/\PlainL s.heap a b.toArray/\xs.length<=sizeLine:=by
 rcases h with h|⟨o,b,n,d,g,f,c,i,r⟩
 .obtain⟨z,b,n,r,e⟩:=h.ok I.Z4;exact⟨b,r,⟨_,n,e,rfl,rfl,rfl⟩,z⟩
 .refine⟨b.toList,r,⟨o,n,I.ZK a o d,g,f,by simpa using c⟩,?_⟩
  have e:=r.length
  grind
def Inv.tuple(I:Inv X y3 U H s)(h:YF X.K H a xs):∃b,Vals xs b/\IsTup s.heap a b.toArray/\xs.length<=sizeLine:=by
 rcases h with h|⟨o,b,n,d,f,c,g,r⟩
 .obtain⟨z,b,r,p⟩:=h.ok I.Z4;exact⟨b,r,p,z⟩
 .refine⟨b.toList,r,⟨o,I.ZK a o d,f,n,by simpa using c⟩,?_⟩
  have e:=r.length
  simp_all
def Inv.Zg(I:Inv X y3 U H s)(h:Zo X.K H a xs)(h':Zo X.K H a ys):xs=ys:=by
 obtain⟨c,r,⟨o,n,e,_,_,d⟩,_⟩:=I.list h;obtain⟨b,i,⟨k,l,f,_,_,g⟩,_⟩:=I.list h'
 have:c=b:=by grind
 subst this;exact r.inj i
end
noncomputable abbrev Cx.YJ(X:Cx)(E:Value->Shared->Prop):Cx:={X with xe:=E}
noncomputable abbrev Cx.WA(X:Cx):Cx:=X.YJ λ_ _=>False
def Cx.Ok.YJ(ok:X.Ok)(E:Q2):(X.YJ E).Ok:=
 ⟨ok.mod,ok.kind,ok.glob,ok.blt,ok.above,ok.inj,ok.has,ok.WM,ok.hd,ok.frames,ok.Ww,ok.V_,ok.bs,ok.X7,ok.Ya,ok.Ys,ok.Zr,ok.Xx⟩
def Cx.Ok.Zl(ok:(X.YJ E).Ok):X.Ok:=
 ⟨ok.mod,ok.kind,ok.glob,ok.blt,ok.above,ok.inj,ok.has,ok.WM,ok.hd,ok.frames,ok.Ww,ok.V_,ok.bs,ok.X7,ok.Ya,ok.Ys,ok.Zr,ok.Xx⟩
def Inv.YJ(I:Inv X y3 U H s)(E:Q2):Inv (X.YJ E) y3 U H s:=⟨I.ok.YJ E,I.os,I.bare,I.base,I.loc,I.cell,I.free,I.ZO,I.pin,I.Z4,I.len⟩
def Inv.Zl(I:Inv (X.YJ E) y3 U H s):Inv X y3 U H s:=⟨I.ok.Zl,I.os,I.bare,I.base,I.loc,I.cell,I.free,I.ZO,I.pin,I.Z4,I.len⟩
def SP.Zl{f:Flow}{s':Shared}(h:SP (X.YJ E) y3 D f s'):SP X y3 D f s':=by
 cases f with
 |next=>obtain⟨a,b,I,q⟩:=h;exact⟨a,b,I.Zl,q⟩
 |brk=>obtain⟨a,b,I,q⟩:=h;exact⟨a,b,I.Zl,q⟩
 |cont=>obtain⟨a,b,I,q⟩:=h;exact⟨a,b,I.Zl,q⟩
 |ret u=>obtain⟨v,a,b,I,r,q⟩:=h;exact⟨v,a,b,I.Zl,r,q⟩
def YL.WA{st:List Stmt}{t:TS}(h:YL X.WA st t):YL X st t:=λa s U H D I b=>
 Cf (h a s U H D (I.YJ _) b) (λ_ _ q=>q.Zl) λ_ _ z=>False.elim z
section
variable {X:Cx} {st:Stmt} {rest:List Stmt} {t u:TS} {e:Expr} {te:TE} {pos:Pos}
def Rt:TS:=λD U H=>D.nx U H
def To(t u:TS):TS:=λD U H=>t {D with nx:=u D} U H
def bC:YL X [] Rt:=λ_ _ U H _ I h=>Ii ⟨U,H,I,h⟩
def aE(h1:PS X st t)(c:YL X rest u):YL X (st::rest) (To t u):=by
 intro a s U H D I h;refine wpAny_execs_cons (Z1 (h1 a s U H {D with nx:=u D} I h) λf b q=>?_)
 cases f with
 |next=>
  obtain⟨d,g,e,q⟩:=q;exact c a b d g D e q
 |ret v=>exact q
 |brk=>exact q
 |cont=>exact q
def aH(h1:PS X st t):YL X [st] t:=by
 intro a s U H D I h;refine wpAny_execs_cons (Z1 (h1 a s U H D I h) λf b q=>?_);cases f with
 |next=>exact Ii q
 |ret v=>exact q
 |brk=>exact q
 |cont=>exact q
def Inv.quiet(I:Inv X y3 U H s):interactive X.env=false:=by simp[interactive,I.ok.kind]
def ON(a:TE):TS:=λD U H=>a U H λ_ b=>D.nx U b
def cP(c:PE X e te)(hs:swapsWith e none pos.line X.env=pure false:=by rfl):PS X (.Expr e pos) (ON te):=by
 intro a s U H D I h;exact wpAny_Expr_any (Z1 (c a s U H _ I h) λv g ⟨x,f,d,i,b⟩=>⟨U,f,d,b⟩) I.quiet hs
def NO(a:TE):TS:=λD U H=>a U H D.rt
def aR(d:PE X e te):PS X (.Return (some e) pos) (NO te):=by
 intro a s U H D I h;exact wpAny_Return_some (Z1 (d a s U H _ I h) λv i ⟨x,g,f,b,c⟩=>⟨x,U,g,f,b,c⟩)
def Pc(c:TT)(t u:TS):TS:=λD U H=>c U H λb a=>if b=true then t D U a else u D U a
def bS{a b:List Stmt}{f:TT}(l:PT X c f)(n:YL X a t)(m:YL X b u):PS X (.If c a b pos) (Pc f t u):=by
 intro e s U H D I h;refine wpAny_If (Z1 (l e s U H _ I h) λd g μ=>?_);obtain⟨k,j,i⟩:=μ;cases d with
 |true=>exact n e g U k D j i
 |false=>exact m e g U k D j i
end
abbrev TG:=V->St->Hp->(St->Hp->Prop)->Prop
variable {g:TG}
abbrev Xb:=List V->St->Hp->(St->Hp->Prop)->Prop
def PG(X:Cx)(a:Expr)(t:TG):Prop:=
 ∀(b:Q3) s (U:St) H v u Q,Inv X b U H s->RelV v u->t v U H Q->
  wpAny (model X.prog X.w) X.A (assign a X.env u) (λ_ e=>∃c d,Inv X b c d e/\Q c d) X.xe s
def V0(X:Cx)(f:List Expr)(t:Xb):Prop:=
 ∀(a:Q3) s (U:St) H b c Q,Inv X a U H s->Vals b c->t b U H Q->
  wpAny (model X.prog X.w) X.A (assignInOrder ((assignEach f X.env).map (·.2)) c) (λ_ g=>∃d e,Inv X a d e g/\Q d e) X.xe s
abbrev UY:=V->V->V->Hp->(Hp->Prop)->Prop
def Pg(X:Cx)(t:UY):Prop:=
 ∀(a:Q3) s (U:St) H o i v b c u Q,Inv X a U H s->RelV o b->RelV i c->RelV v u->t o i v H Q->
  wpAny (model X.prog X.w) X.A (setItem b c u) (λ_ e=>∃d,Inv X a U d e/\Q d) X.xe s
section
variable {X:Cx} {pos:Pos}
def lD(i:Nat):TG:=λv U H Q=>Q (U.set i (some v)) H
def bB{i:Nat}(d:X.N.Nodup)(b:X.N[i]?=some x)(a:Loc X.env.scope x)(c:X.fn x=true\/X.env.scope.names.lookup x=some .local:=by first|exact .inl rfl|exact .inr rfl|assumption):PG X (.Name x pos) (lD i):=by
 intro f s U H v u Q I r h;exact wpAny_assign_Name (qS I d b a r (λg e=>⟨_,H,e,h⟩) c)
def Vc:Xb:=λa U H Q=>a=[]/\Q U H
def zQ(t:TG)(u:Xb):Xb:=λa U H Q=>∃v r,a=v::r/\t v U H λb c=>u r b c Q
def Tu:V0 X [] Vc:=by
 intro a s U H b c Q I r h;obtain⟨e,h⟩:=h;exact assignInOrder_nil ⟨U,H,I,h⟩
def fY{t:TG}{u:Xb}(h1:PG X e t)(f:V0 X es u)(hs:(assignEach (e::es) X.env).map (·.2)=assign e X.env::(assignEach es X.env).map (·.2):=by rfl):V0 X (e::es) (zQ t u):=by
 intro a s U H l n Q I r h;obtain⟨v,m,g,h⟩:=h;subst g;cases r with
 |cons r c=>
  rw[hs];refine assignInOrder_cons (Z1 (h1 a s U H _ _ _ I r h) λ_ b μ=>?_);obtain⟨i,k,j,d⟩:=μ;exact f a b i k _ _ Q j c d
def Vk(K:W.Frag)(n:Nat)(t:Xb):TG:=λv U H Q=>∃a b,v=.ref a/\YF K H a b/\b.length=n/\t b U H Q
def AF{t:Xb}{n:Nat}(x:X.calm=true)(h:V0 X es t)(q:(assignEach es X.env).length=n:=by rfl)(d:(assignEach es X.env).findIdx? (·.1)=none:=by rfl):PG X (.Tuple es k pos) (Vk X.K n t):=by
 intro f s U H v u Q I r c;obtain⟨a,i,z,p,w,c⟩:=c;subst z;cases r;obtain⟨j,g,m,B⟩:=I.tuple p;refine assign_Tuple_tuple (I.ok.hd x) m (by simp[q,<-w,g.length]) d λy l=>?_
 have A:=I.kept (t':=s.toks) λb o e=>l b o (Bc (Aq e)) e
 exact h f _ U H i _ Q A (by omega) c
def QT(a b:TE)(t:UY):TG:=λv U H Q=>a U H λo e=>b U e λi d=>t o i v d λc=>Q U c
def UN{o i:Expr}{d e:TE}{t:UY}(p:PE X o d)(q:PE X i e)(hs:Pg X t)(w:∀v,assign (.Subscript o i pos) X.env v=(do
 let a <-holding [v] (eval o X.env)
 let b <-holding [v,a] (eval i X.env)
 standAt pos
 holding [v,a,b] (setItem a b v)
 release [v,a,b] []):=by intro _;rfl):PG X (.Subscript o i pos) (QT d e t):=by
 intro c s U H v u Q I r h;rw[w];refine Ac (Cb (Z1 (p c s U H _ I h) λa g μ=>?_));obtain⟨x,E,B,k,n⟩:=μ;refine Ac (Cb (Z1 (q c g U E _ B n) λb f μ=>?_));obtain⟨y,D,A,j,m⟩:=μ;refine Ac (Gj (Ac (Cb (Z1 (hs c f U D x y v a b u _ A k j r m) λ_ F μ=>?_))));obtain⟨C,z,l⟩:=μ;exact wpAny_release ⟨U,C,z,l⟩
def VY(a:TE)(g:TG):TS:=λD U H=>a U H λx b=>g x U b D.nx
def wU(j:PE X e te)(i:PG X tg g)(hs:swapsWithSole [tg] e pos.line X.env=pure false:=by rfl)(f:swappedStores [tg] e X.env=pure none:=by rfl)(h1:(assignEach [tg] X.env).map (·.2)=[assign tg X.env]:=by rfl):PS X (.Assign [tg] e pos) (VY te g):=by
 intro a s U H D I h;refine wpAny_Assign_stores (Z1 (j a s U H _ I h) λv b μ=>?_) hs f;obtain⟨x,l,k,c,d⟩:=μ;rw[h1];exact Z1 (i a b U l x v _ k c d) λ_ m q=>q
def SQ{i:Nat}{x:Str}{e:Expr}{b:TE}{a:Pos}(m:X.N.Nodup)(j:X.N[i]?=some x)(g:Loc X.env.scope x)(l:PE X e b)(hs:swapsWith e (some (.Name x a)) pos.line X.env=pure false:=by rfl)(k:X.fn x=true\/X.env.scope.names.lookup x=some .local:=by first|exact .inl rfl|exact .inr rfl|assumption):PS X (.Assign [.Name x a] e pos) (VY b (lD i)):=by
 intro c s U H D I h;refine wpAny_Assign_Name (Z1 (l c s U H _ I h) λv r μ=>?_) hs;obtain⟨y,p,o,d,f⟩:=μ;exact qS o m j g d (λq n=>⟨_,p,n,f⟩) k
end
def CV(c:TT)(g:TS):TS:=λD U H=>∃W:Nat->St->Hp->Prop,(∃m,W m U H)/\∀m U H,W m U H->
 c U H λb e=>if b=true then ∃N,(∀d f,N d f->∃a,a < m/\W a d f)/\g {D with nx:=N,ct:=N,bk:=D.nx} U e else D.nx U e
def Pw{t:TT}{u:TS}(x:PassesOwn (model X.prog X.w) X.A X.env X.xe)(P:PT X c t)(Q:YL X body u):PS X (.While c body [] pos) (CV t u):=by
 intro k s U H D I h;obtain⟨W,⟨O,J⟩,a⟩:=h;refine wpAny_While (codeAny_whileLoop (λn M=>∃z F,Inv X k z F M/\W n z F) ?_ O ⟨U,H,I,J⟩);rintro n L ⟨j,E,R,G⟩;refine Dv x (Z1 (P k L j E _ R (a n j E G)) λb K μ=>?_);obtain⟨C,B,i⟩:=μ;cases b with
 |true=>
  obtain⟨N,y,i⟩:=i;rw[if_pos rfl];refine Dv x (Z1 (Q k K j C _ B i) λf S g=>?_);cases f with
  |next=>
   obtain⟨d,e,r,o⟩:=g;obtain⟨p,q,l⟩:=y d e o;exact⟨p,q,d,e,r,l⟩
  |cont=>
   obtain⟨d,e,r,o⟩:=g;obtain⟨p,q,l⟩:=y d e o;exact⟨p,q,d,e,r,l⟩
  |brk=>exact g
  |ret v=>exact g
 |false=>
  rw[if_neg Av];exact Ii ⟨j,C,B,i⟩
structure It where
 go:Nat->Hp->Prop
 WZ:Nat->Hp->V->Hp->Prop
 stop:Nat->Hp->Prop
def gA(X:Cx)(a:List (Addr×Obj))(H:Hp)(b:Addr):Prop:=
 H b=none/\b≠X.env.locals/\b∉X.fs/\(b∈X.ex\/X.s₀.heap.objs.size<=b)/\(∀x c,X.env.cells.lookup x=some c->c≠b)/\∀p∈X.pn++a,p.1≠b
def Inv.YV(I:Inv X y3 U H s)(a:s.heap.objs.size<=b)(g:d b=none):gA X y3 d b:=by
 refine⟨g,Fi (Bi I.lt a),I.Th a,.inr (Bo I.sz a),λx c e z=>?_,λp f z=>?_⟩
 .obtain⟨v,q⟩:=I.cell x c e;exact absurd (Bi q.lt (by rwa[z])) (Eg _)
 .exact absurd (Bi (Aq (I.pin p f).1) (by simp_all)) (Eg _)
structure Turn (P:Program) (w:World) (K:W.Frag) (tg:Expr) (J:It) (fp:List Addr) (it:Addr) (tn:Nat->Heap->Prop):Prop where
 mem:it∈fp
 obj:∀i h,tn i h->∀b∈fp,∃o,h.get? b=some o/\∀v,o.data≠.cell v
 keep:∀i h h',tn i h->(∀b∈fp,∀o,h.get? b=some o->h'.get? b=some o)->tn i h'
 item:∀(X:Cx),X.prog=P->X.w=w->X.K=K->X.calm=true->∀(i:Nat) (y3:Q3) (s:Shared) (U:St) (H:Hp) (E:Q2),Inv X y3 U H s->(∀b∈fp,gA X y3 H b)->tn i s.heap->J.go i H->
  wpAny (model P w) X.A (pyNext (.ref it)) (λr s1=>∃u,r=some u/\
   wpAny (model P w) X.A (letOwnedTupleGo tg (.ref it) u) (λ_ s2=>∃x H',Inv X y3 U H' s2/\RelV x u/\J.WZ i H x H'/\tn (i+1) s2.heap/\∀b∈fp,H' b=none) E s1) E s
 done:∀(X:Cx),X.prog=P->X.w=w->X.K=K->X.calm=true->∀(i:Nat) (y3:Q3) (s:Shared) (U:St) (H:Hp) (E:Q2),Inv X y3 U H s->(∀b∈fp,gA X y3 H b)->tn i s.heap->J.stop i H->
  wpAny (model P w) X.A (pyNext (.ref it)) (λr s1=>r=none/\Inv X y3 U H s1) E s
 self:∀(A:Around) (i:Nat) (s:Shared) (Q:Q2) (E:Q2),tn i s.heap->Q (.ref it) s->wpAny (model P w) A (pyIter (.ref it)) Q E s
abbrev TI:=St->Hp->(It->Hp->Prop)->Prop
def Us(X:Cx)(d:List (Addr×Obj))(U:St)(i:Expr)(R:It->Hp->Prop)(a:Value)(f:Shared):Prop:=
 ∃g h e J c,a=.ref g/\Inv X d U c f/\Turn X.prog X.w X.K i J h g e/\e 0 f.heap/\(∀b∈h,gA X d c b)/\R J c
def PI(X:Cx)(c a:Expr)(wi:TI):Prop:=
 ∀(b:Q3) s (U:St) H R,Inv X b U H s->wi U H R->
  wpAny (model X.prog X.w) X.A (eval a X.env) (λv d=>wpAny (model X.prog X.w) X.A (pyIter v) (Us X b U c R) X.xe d) X.xe s
def tF{s:Shared}{b:Addr}{o:Obj}{n:String}{vs:Array Value}{Q:Unit->Shared->Prop}(c:s.heap.get? b=some o)(f:o.cls=.type n)(e:o.data=.fields vs)(d:["enumerate", "zip", "dict_itemiterator", "dict_reverseitemiterator", "odict_iterator", "itertools.zip_longest", "itertools.pairwise"].contains n=false)(a:Q () s):wpAny M A (letOwnedTupleGo tg (.ref b) u) Q E s:=by
 unfold letOwnedTupleGo;cases tg<;>first
  |exact Ag a
  | (cases u <;> first
      |exact Ag a
      | (refine Ac (wpAny_load c ?_)
         rw[f,e];show wpAny M A (if (["enumerate", "zip", "dict_itemiterator", "dict_reverseitemiterator", "odict_iterator", "itertools.zip_longest", "itertools.pairwise"].contains n&&vs[0]? == some (rawInt _))=true then _ else _) Q E s
         rw[if_neg (by grind)]
         exact Ag a))
noncomputable def Xd(K:W.Frag)(a:Addr):It:=
 ⟨λi H=>∃b x,Zo K H a b/\b[i]?=some x,λi H x c=>c=H/\∀b,Zo K H a b->b[i]?=some x,λi H=>∃b,Zo K H a b/\b.length<=i⟩
noncomputable def X1(a:Int)(n:Nat):It:=⟨λi _=>i<n,λi H x b=>b=H/\x=.int (a+i),λi _=>n<=i⟩
def Cn(a g:Addr):Turn P w K tg (Xd K a) [g] g (λi h=>h.IsListIter g a i) where
 mem:=by simp
 obj:=λi h f b j=>by
  have e:b=g:=by simpa using j
  subst e;obtain⟨o,e,c,d⟩:=f;exact⟨o,e,λv z=>by rw[d]at z;cases z⟩
 keep:=λi h q f k=>f.at λo e=>k g (by simp) o e
 item:=by
  intro X D B F Q i O s U H E I n f C;subst D B F;obtain⟨R,x,m,A⟩:=C;obtain⟨y,r,p,V⟩:=I.list m;obtain⟨u,Y,T⟩:=r.get A;obtain⟨N,M,Z,L,J,G⟩:=n g (by simp)
  refine wpAny_pyNext_list_item f p.isList (x:=u) (by simpa using Y) λq l S=>?_
  have I1:=I.turned (t':=s.toks) (λb o j e=>(S.2 b j).trans e) N M L J G
  obtain⟨o,e,c,d⟩:=id l;exact⟨u,rfl,tF (s:={s with heap:=q}) e c d (by decide) ⟨x,H,I1,T,⟨rfl,λys W=>by rw[I.Zg W m];exact A⟩,l,λb j=>(n b j).1⟩⟩
 done:=by
  intro X D B F Q i O s U H E I n f C;subst D B F;obtain⟨R,m,A⟩:=C;obtain⟨y,r,p,V⟩:=I.list m;obtain⟨N,M,Z,L,J,G⟩:=n g (by simp)
  have hl:=r.length
  exact wpAny_pyNext_list_end (I.ok.hd Q) f p.isList (by simp;omega) λq eb=>⟨rfl,I.turned (t':=s.toks) (λb o j e=>eb b o j e) N M L J G⟩
 self:=λ_ _ _ _ _ f h=>wpAny_pyIter_listiter f h
def Kg{K:PySem.W.Frag}(c:Addr)(g:Int)(n:Nat):Turn P w K tg (X1 g n) [c] c (λi h=>IsRangeIter h c (g+(i:Nat)*1) ((n:Int)-(i:Nat)) 1) where
 mem:=by simp
 obj:=λi h a b d=>by
  have e:b=c:=by simpa using d
  subst e;exact⟨_,a,λv z=>by
   have G:=z
   cases G⟩
 keep:=λi h l a k=>k c (by simp) _ a
 item:=by
  intro X r m u q i D s U H E I j a p;subst r m u;obtain⟨C,B,M,A,y,x⟩:=j c (by simp)
  have W:=Walks.range (prog:=X.prog) (w:=X.w) (I.ok.hd q) c g 1 n
  refine W.item i s _ _ p a λv l F L f J=>?_;obtain⟨t,rfl⟩:=L;have O:Inv X D U H {s with heap:=l,toks:=F}:=I.turned (λb o d e=>J b o (by simpa using d) e) C B A y x
  refine⟨_,rfl,tF (s:={s with heap:=l,toks:=F}) (n := "range_iterator") f rfl rfl (by decide) ⟨.int (g+i),H,O,⟨t,?_⟩,⟨rfl,rfl⟩,f,λb d=>(j b d).1⟩⟩
  rw[Int.mul_one]
 done:=by
  intro X r m u q i D s U H E I j a p;subst r m u;obtain⟨C,B,M,A,y,x⟩:=j c (by simp)
  exact wpAny_pyNext_range_end (I.ok.hd q) a (by have:n<=i:=p;omega) λl N=>⟨rfl,I.turned (t':=s.toks) (λb o d e=>N b o d e) C B A y x⟩
 self:=λ_ _ _ _ _ a h=>wpAny_pyIter_rangeiter a h
def N_{a c:Int}{t u v:Tok}{d:Nat}(I:Inv X y3 U H s)(h1:-(2^62)<=a)(j:a<2^62)(i:-(2^62)<=c)(h:c<2^62)(q:R (X1 a (c-a).toNat) H):wpAny (model X.prog X.w) X.A (pyIter (.ref s.heap.objs.size)) (Us X y3 U tg R) E {s with heap:=s.heap.push {cls:=.type "range",data:=.fields #[.int a t,.int c u,.int 1 v]},toks:=d}:=by
 refine wpAny_pyIter_range (IsRange.new ..) (small_one h1 j i h) ?_;have f:Inv X y3 U H {s with heap:=s.heap.push {cls:=.type "range",data:=.fields #[.int a t,.int c u,.int 1 v]},toks:=d}:=I.kept λb o e=>Af _ e
 refine⟨(s.heap.push {cls:=.type "range",data:=.fields #[.int a t,.int c u,.int 1 v]}).objs.size,[(s.heap.push {cls:=.type "range",data:=.fields #[.int a t,.int c u,.int 1 v]}).objs.size],_,_,H,rfl,
  f.kept (t':=d) λb o e=>Af _ e,Kg _ a (c-a).toNat,?_,λb g=>?_,q⟩
 .have l:a+((0:Nat):Int)*1=a:=by simp
  have k:(((c-a).toNat:Nat):Int)-((0:Nat):Int)=Builtin.Range.rangeSize a c 1:=by rw[rangeSize_one];split<;>omega
  show IsRangeIter _ _ (a+((0:Nat):Int)*1) ((((c-a).toNat:Nat):Int)-((0:Nat):Int)) 1
  rw[l,k];exact Au _ rfl
 .have e:b=(s.heap.push {cls:=.type "range",data:=.fields #[.int a t,.int c u,.int 1 v]}).objs.size:=by simpa using g
  subst e;exact f.YV (Ah _) (f.Z4.fresh (Ah _))
def PQ(wi:TI)(g:TG)(d:TS):TS:=λD U H=>wi U H λJ h=>∃W:Nat->Nat->St->Hp->Prop,(∃m,W 0 m U h)/\∀i m U H,W i m U H->
 (J.stop i H/\D.nx U H)\/(J.go i H/\∃N,(∀c a,N c a->∃b,b < m/\W (i+1) b c a)/\∀x a,J.WZ i H x a->g x U a λe f=>d {D with nx:=N,ct:=N,bk:=D.nx} e f)
noncomputable def kE(a:List Addr)(h:Heap):List (Addr×Obj):=a.filterMap λb=>(h.get? b).map λo=>(b,o)
def dU{o:Obj}(a:b∈fp)(e:h.get? b=some o):(b,o)∈kE fp h:=Cy.mpr ⟨b,a,by rw[e];rfl⟩
def EC(a:p∈kE fp h):p.1∈fp/\h.get? p.1=some p.2:=by
 obtain⟨b,c,e⟩:=Cy.mp a;cases q:h.get? b with
 |none=>rw[q]at e;cases e
 |some o=>
  rw[q]at e;have d:=Bm e
  subst d;exact⟨c,q⟩
def Inv.pinned(I:Inv X y3 U H s)(h:∀b∈fp,gA X y3 H b)(g:∀b∈fp,∃o,s.heap.get? b=some o/\∀v,o.data≠.cell v):Inv X (y3++kE fp s.heap) U H s:=
 I.XN λp f=>(Bs.mp f).elim (λz=>I.pin p (Bd _ z)) λz=>by
  obtain⟨a,e⟩:=EC z;obtain⟨k,j,i,_⟩:=h p.1 a;obtain⟨o,c,d⟩:=g p.1 a;simp_all
def Inv.ZL{pl:Q3}(I:Inv X (y3++pl) U H s):Inv X y3 U H s:=I.XN λp a=>I.pin p (Bd _ (Cm _ a))
def CY{tb:TS}(L:PassesOwn (model X.prog X.w) X.A X.env X.xe)(hc:X.calm=true)(hi:PI X tg c wi)(hg:PG X tg g)(j:YL X body tb)(hs:∀x,foldedSetIterable c X.env x=pure x:=by intro _;rfl):PS X (.For tg c body [] pos) (PQ wi g tb):=by
 intro z s U H D I h;refine wpAny_For (Z1 (hi z s U H _ I h) λv s1 h1=>Z1 h1 λa2 s2 h2=>?_) hs;obtain⟨it,O,tn,J,H2,e,I2,T,S,f2,W,⟨m0,w0⟩,C⟩:=h2;subst e
 -- what stays true of the iterator's objects through the loop
 have a:∀ {t:Hp},(∀b∈O,t b=none)->∀b∈O,gA X z t b:=λhn b j=>⟨hn b j,(f2 b j).2⟩
 refine codeAny_forLoop_any (λn s'=>∃i Q t,Inv X z Q t s'/\tn i s'.heap/\(∀b∈O,t b=none)/\W i n Q t) ?_ m0 ⟨0,U,H2,I2,S,λb j=>(f2 b j).1,w0⟩;rintro n s3 ⟨i,P,R,I3,G,M,w3⟩;rcases C i n P R w3 with⟨E,qn⟩|⟨go,N,hN,F⟩
 .refine Dv L (Z1 (T.done X rfl rfl rfl hc i z s3 P R X.xe I3 (a M) G E) λr s4 ⟨Y,I4⟩=>?_);subst Y;exact Ii ⟨P,R,I4,qn⟩
 .refine Dv L (Z1 (T.item X rfl rfl rfl hc i z s3 P R X.xe I3 (a M) G go) λr s4 ⟨u,Y,h4⟩=>?_);subst Y;refine Dv L (Z1 h4 λ_ s5 μ=>?_);obtain⟨x,H5,I5,r5,y5,B,Z⟩:=μ;have a1:=I5.pinned (a Z) (T.obj _ _ B)
  refine Dv L (Z1 (hg _ s5 P H5 x u _ a1 r5 (F x H5 y5)) λ_ s6 μ=>?_);obtain⟨U6,H6,I6,q6⟩:=μ;refine Dv L (Z1 (j _ s6 U6 H6 _ I6 q6) λf V y=>?_);have k:∀ {l:St} {q:Hp},Inv X (z++kE O s5.heap) l q V->N l q->∃m,m<n/\∃i Q t,Inv X z Q t V/\tn i V.heap/\(∀b∈O,t b=none)/\W i m Q t:=fun {l q} p K=>by
   obtain⟨m',hm,w7⟩:=hN l q K;refine⟨m',hm,i+1,l,q,p.ZL,T.keep _ _ _ B λb j o e=>(p.pin (b,o) (Bd _ (Bd _ (dU j e)))).1,λb j=>?_,w7⟩;obtain⟨o,e,d⟩:=T.obj _ _ B b j;exact(p.pin (b,o) (Bd _ (Bd _ (dU j e)))).2.1
  cases f with
  |next=>obtain⟨l,q,p,K⟩:=y;exact k p K
  |cont=>obtain⟨l,q,p,K⟩:=y;exact k p K
  |brk=>obtain⟨l,q,p,y⟩:=y;exact⟨l,q,p.ZL,y⟩
  |ret v=>obtain⟨x7,l,q,p,r7,y⟩:=y;exact⟨x7,l,q,p.ZL,r7,y⟩
def DO{K:PySem.W.Frag}{k:TS}{D:Ends}(b:Nat->St->Hp->Prop)(t:b 0 U H)(o:∀i U H,i<=xs.length->b i U H->Zo K H a xs)(hs:∀i x U H,xs[i]?=some x->b i U H->g x U H λf j=>k {D with nx:=b (i+1),ct:=b (i+1),bk:=D.nx} f j)(s:∀U H,b xs.length U H->D.nx U H):∃W:Nat->Nat->St->Hp->Prop,(∃m,W 0 m U H)/\∀i m U H,W i m U H->
 ((Xd K a).stop i H/\D.nx U H)\/((Xd K a).go i H/\∃N,(∀h c,N h c->∃l,l < m/\W (i+1) l h c)/\∀x c,(Xd K a).WZ i H x c->g x U c λf j=>k {D with nx:=N,ct:=N,bk:=D.nx} f j):=by
 refine⟨λi m U H=>m=xs.length-i/\i<=xs.length/\b i U H,⟨xs.length,by simp,Nat.zero_le _,t⟩,?_⟩
 rintro i m U H ⟨rfl,r,p⟩;have q:=o i U H r p
 by_cases d:i<xs.length
 .refine .inr ⟨⟨xs,xs[i],q,by simp[d]⟩,b (i+1),λh c n=>⟨xs.length-(i+1),by omega,rfl,d,n⟩,λx c y=>?_⟩
  obtain⟨e,y⟩:=y;subst e;exact hs i x U _ (y xs q) p
 .have e:i=xs.length:=by omega
  subst e;exact .inl ⟨⟨xs,q,Ah _⟩,s U H p⟩
def HZ{n:Nat}{k:TS}{D:Ends}(b:Nat->St->Hp->Prop)(r:b 0 U H)(hs:∀i U H,i<n->b i U H->g (.int (d+i)) U H λf j=>k {D with nx:=b (i+1),ct:=b (i+1),bk:=D.nx} f j)(q:∀U H,b n U H->D.nx U H):∃W:Nat->Nat->St->Hp->Prop,(∃m,W 0 m U H)/\∀i m U H,W i m U H->
 ((X1 d n).stop i H/\D.nx U H)\/((X1 d n).go i H/\∃N,(∀h c,N h c->∃l,l < m/\W (i+1) l h c)/\∀x c,(X1 d n).WZ i H x c->g x U c λf j=>k {D with nx:=N,ct:=N,bk:=D.nx} f j):=by
 refine⟨λi m U H=>m=n-i/\i<=n/\b i U H,⟨n,by simp,Nat.zero_le _,r⟩,?_⟩
 rintro i m U H ⟨rfl,s,p⟩;by_cases a:i<n
 .refine .inr ⟨a,b (i+1),λh c o=>⟨n-(i+1),by omega,rfl,a,o⟩,λx c y=>?_⟩
  obtain⟨e,y⟩:=y;subst e y;exact hs i U _ a p
 .have e:i=n:=by omega
  subst e;exact .inl ⟨Ah _,q U H p⟩
abbrev R2:=V->V->Hp->VK->Prop
def ZN(X:Cx)(f:Value->Value->Sem Value)(r:R2):Prop:=
 ∀(a:Q3) s (U:St) H x y v u Q,Inv X a U H s->RelV x v->RelV y u->r x y H Q->
  wpAny (model X.prog X.w) X.A (f v u) (EP X a U Q) X.xe s
def UI(X:Cx)(f:Value->Sem Value)(r:V->Hp->VK->Prop):Prop:=
 ∀(a:Q3) s (U:St) H x v Q,Inv X a U H s->RelV x v->r x H Q->
  wpAny (model X.prog X.w) X.A (f v) (EP X a U Q) X.xe s
def ZW(X:Cx)(f:Value)(r:List V->Hp->VK->Prop):Prop:=
 ∀(a:Q3) s (U:St) H b c Q,Inv X a U H s->Vals b c->r b H Q->
  wpAny (model X.prog X.w) X.A (call f c) (EP X a U Q) X.xe s
def GW(X:Cx)(r:V->Hp->(Bool->Hp->Prop)->Prop):Prop:=
 ∀(a:Q3) s (U:St) H x v Q,Inv X a U H s->RelV x v->r x H Q->
  wpAny (model X.prog X.w) X.A (truthy v) (TP X a U Q) X.xe s
def VG(r:R2)(b a:TE):TE:=λU H Q=>b U H λx d=>a U d λy c=>r x y c Q
def Oh(r:V->Hp->VK->Prop)(a:TE):TE:=λU H Q=>a U H λx b=>r x b Q
def rI(C:Int->Int->Prop)(g:Int->Int->V):R2:=λx y H Q=>∃i j,x=.int i/\y=.int j/\C i j/\Q (g i j) H
def WH(g:Int->Int->V):R2:=λx y H Q=>∃i j,x=.int i/\y=.int j/\Q (g i j) H
def rU(g:Int->V):V->Hp->VK->Prop:=λx H Q=>∃i,x=.int i/\Q (g i) H
section
variable {a b:Expr}
def Su(q:PE X a ta)(p:PE X b tb){R:V->V->Hp->Prop}(I:Inv X y3 U H s)(h:ta U H λx i=>tb U i λy c=>R x y c)(o:∀v u g x y c,Inv X y3 U c g->RelV x v->RelV y u->R x y c->wpAny (model X.prog X.w) X.A (f v u) Q X.xe g):wpAny (model X.prog X.w) X.A (eval a X.env) (λv e=>wpAny (model X.prog X.w) X.A (eval b X.env) (λu d=>wpAny (model X.prog X.w) X.A (f v u) Q X.xe d) X.xe e) X.xe s:=by
 refine Z1 (q y3 s U H _ I h) λv j μ=>?_;obtain⟨x,i,t,l,n⟩:=μ;refine Z1 (p y3 j U i _ t n) λu g μ=>?_;obtain⟨y,c,r,k,m⟩:=μ;exact o v u g x y c r l k m
def aV(g:ZN X (binaryOp op) r)(j:PE X a ta)(i:PE X b tb):PE X (.BinOp a op b pos) (VG r ta tb):=by
 intro c s U H Q I h;exact wpAny_BinOp (Su j i I h λv u d x y l k f e q=>g c d U l x y v u Q k f e q)
def TV(f:UI X (unaryOp op) r)(g:PE X a ta):PE X (.UnaryOp op a pos) (Oh r ta):=by
 intro b s U H Q I h;exact UnaryOp_ (Z1 (g b s U H _ I h) λv c ⟨x,j,i,d,e⟩=>f b c U j x v Q i d e)
def Tj{C:Int->Int->Prop}{g:Int->Int->Int}(a:∀i j t u s (Q:Q2) (E:Q2),C i j->Q (.int (g i j) s.toks) {s with toks:=s.toks+1}->wpAny (model X.prog X.w) X.A (f (.int i t) (.int j u)) Q E s):ZN X f (rI C λi j=>.int (g i j)):=by
 intro k s U H x y v u Q I d c h;obtain⟨i,j,rfl,rfl,e,q⟩:=h;obtain⟨t,rfl⟩:=d;obtain⟨b,rfl⟩:=c;exact a i j t b s _ _ e ⟨.int _,H,I.tok _,⟨_,rfl⟩,q⟩
def QG{g:Int->Int->Int}(a:∀i j t u s (Q:Q2) (E:Q2),Q (.int (g i j) s.toks) {s with toks:=s.toks+1}->wpAny (model X.prog X.w) X.A (f (.int i t) (.int j u)) Q E s):ZN X f (WH λi j=>.int (g i j)):=by
 intro e s U H x y v u Q I d c h;obtain⟨i,j,rfl,rfl,q⟩:=h;obtain⟨t,rfl⟩:=d;obtain⟨b,rfl⟩:=c;exact a i j t b s _ _ ⟨.int _,H,I.tok _,⟨_,rfl⟩,q⟩
def Sq{g:Int->Int->Bool}(a:∀i j t u s (Q:Q2) (E:Q2),Q (.bool (g i j)) s->wpAny (model X.prog X.w) X.A (f (.int i t) (.int j u)) Q E s):ZN X f (WH λi j=>.bl (g i j)):=by
 intro e s U H x y v u Q I d c h;obtain⟨i,j,rfl,rfl,q⟩:=h;obtain⟨t,rfl⟩:=d;obtain⟨b,rfl⟩:=c;exact a i j t b s _ _ ⟨.bl _,H,I,rfl,q⟩
def QN(i j:Int):Prop:=0<j/\j<1073741824
def WQ(i j:Int):Prop:=(-(2^64)<i/\i<2^64)\/(-(2^64)<j/\j<2^64)
def WQ.ok{i j:Int}(h:WQ i j):IntMulOk i j:=by
 rcases h with⟨b,a⟩|⟨b,a⟩
 .exact .of_left (intBits_le_64 b a)
 .exact .of_right (intBits_le_64 b a)
def HK:ZN X (binaryOp .Add) (WH λi j=>.int (i+j)):=QG λ_ _ _ _ _ _ _ q=>add_int q
def Wc:ZN X (binaryOp .Sub) (WH λi j=>.int (i-j)):=QG λ_ _ _ _ _ _ _ q=>sub_int q
def Wj:ZN X (binaryOp .Mult) (rI WQ λi j=>.int (i*j)):=Tj λ_ _ _ _ _ _ _ a q=>mul_int q a.ok
def WX:ZN X (binaryOp .FloorDiv) (rI QN λi j=>.int (i / j)):=Tj λi j _ _ _ _ _ a q=>by
 have c:=a.1
 have b:=a.2
 exact floordiv_int (by omega) (by rwa[Int.fdiv_eq_ediv_of_nonneg i (by omega)]) (.inl (PyProof.noPylong_small (by omega)))
def V9:ZN X (binaryOp .Mod) (rI (λ_ j=>0<j) λi j=>.int (i%j)):=Tj λi j _ _ _ _ _ a q=>by
 exact mod_int' (by omega) (by rwa[Int.fmod_eq_emod_of_nonneg i (by omega)])
def EZ{f:Value->Sem Value}{g:Int->Int}(a:∀i t s (Q:Q2) (E:Q2),Q (.int (g i) s.toks) {s with toks:=s.toks+1}->wpAny (model X.prog X.w) X.A (f (.int i t)) Q E s):UI X f (rU λi=>.int (g i)):=by
 intro c s U H x v Q I b h;obtain⟨i,rfl,q⟩:=h;obtain⟨t,rfl⟩:=b;exact a i t s _ _ ⟨.int _,H,I.tok _,⟨_,rfl⟩,q⟩
def DW:UI X (unaryOp .USub) (rU λi=>.int (-i)):=EZ λ_ _ _ _ _ q=>neg_int q
end
noncomputable def U4:V->V->Bool
 |.non,.non=>true|.non,.int _=>true|.int _,.non=>true|.non,.bl _=>true|.bl _,.non=>true|.non,.str _=>true|.str _,.non=>true
 |.int _,.int _=>true|.bl _,.bl _=>true|.str _,.str _=>true|.byt _,.byt _=>true
 |.int _,.str _=>true|.str _,.int _=>true|.bl _,.str _=>true|.str _,.bl _=>true
 |_,_=>false
def zq:R2:=λx y H Q=>U4 x y=true/\Q (.bl (decide (x=y))) H
def EO:R2:=λx y H Q=>U4 x y=true/\Q (.bl (!decide (x=y))) H
def Sf{i j:Int}:decide (V.int i=V.int j)=(i==j):=by
 rw[Ij];simp
def OA{i j:Bool}:decide (V.bl i=V.bl j)=(i==j):=by
 rw[Ij];simp
def Rj{i j:Str}:decide (V.str i=V.str j)=(i==j):=by
 rw[Ij];simp
def RO{i j:Array UInt8}:decide (V.byt i=V.byt j)=(i.toList==j.toList):=by
 rw[Ij];simp_all
section
variable {a b:Expr}
def bR{Q:VK}{k a:Bool}(I:Inv X y3 U H s)(q:Q (.bl k) H)(e:k=a):EP X y3 U Q (.bool a) s:=by
 subst e;exact⟨.bl k,H,I,rfl,q⟩
def Ks:ZN X (compareOp .Eq) zq:=by
 intro e s U H x y v u Q I d a h;obtain⟨c,q⟩:=h;cases x with
 |non=>
  cases d;cases y with
  |non=>cases a;exact PySem.EqNone.eq_none_none (bR I q (by simp))
  |bl j=>cases a;exact PySem.EqNone.eq_none_bool (bR I q (by simp))
  |int j=>obtain⟨b,rfl⟩:=a;exact PySem.EqNone.eq_none_int (bR I q (by simp))
  |str j=>obtain⟨b,rfl⟩:=a;exact PySem.EqNone.eq_none_str (bR I q (by simp))
  |_=>exact absurd (show false=true from c) Av
 |bl i=>
  cases d;cases y with
  |non=>cases a;exact PySem.EqNone.eq_bool_none (bR I q (by simp))
  |bl j=>cases a;exact eq_bool (bR I q OA)
  |str j=>obtain⟨b,rfl⟩:=a;exact PySem.EqMixed.eq_bool_str (bR I q (by simp))
  |_=>exact absurd (show false=true from c) Av
 |int i=>
  obtain⟨t,rfl⟩:=d;cases y with
  |non=>cases a;exact PySem.EqNone.eq_int_none (bR I q (by simp))
  |int j=>obtain⟨b,rfl⟩:=a;exact eq_int (bR I q Sf)
  |str j=>obtain⟨b,rfl⟩:=a;exact PySem.EqMixed.eq_int_str (bR I q (by simp))
  |_=>exact absurd (show false=true from c) Av
 |str i=>
  obtain⟨t,rfl⟩:=d;cases y with
  |non=>cases a;exact PySem.EqNone.eq_str_none (bR I q (by simp))
  |bl j=>cases a;exact PySem.EqMixed.eq_str_bool (bR I q (by simp))
  |int j=>obtain⟨b,rfl⟩:=a;exact PySem.EqMixed.eq_str_int (bR I q (by simp))
  |str j=>obtain⟨b,rfl⟩:=a;exact eq_str (bR I q Rj)
  |_=>exact absurd (show false=true from c) Av
 |byt i=>
  obtain⟨t,rfl⟩:=d;cases y with
  |byt j=>obtain⟨b,rfl⟩:=a;exact W.eq_bytes (bR I q RO)
  |_=>exact absurd (show false=true from c) Av
 |_=>cases y<;>exact absurd (show false=true from c) Av
def LY:ZN X (compareOp .NotEq) EO:=by
 intro e s U H x y v u Q I d a h;obtain⟨c,q⟩:=h;cases x with
 |non=>
  cases d;cases y with
  |non=>cases a;exact PySem.EqNone.ne_none_none (bR I q (by simp))
  |bl j=>cases a;exact PySem.EqNone.ne_none_bool (bR I q (by simp))
  |int j=>obtain⟨b,rfl⟩:=a;exact PySem.EqNone.ne_none_int (bR I q (by simp))
  |str j=>obtain⟨b,rfl⟩:=a;exact PySem.EqNone.ne_none_str (bR I q (by simp))
  |_=>exact absurd (show false=true from c) Av
 |bl i=>
  cases d;cases y with
  |non=>cases a;exact PySem.EqNone.ne_bool_none (bR I q (by simp))
  |bl j=>cases a;exact ne_bool (bR I q (Dk not OA))
  |str j=>obtain⟨b,rfl⟩:=a;exact PySem.EqMixed.ne_bool_str (bR I q (by simp))
  |_=>exact absurd (show false=true from c) Av
 |int i=>
  obtain⟨t,rfl⟩:=d;cases y with
  |non=>cases a;exact PySem.EqNone.ne_int_none (bR I q (by simp))
  |int j=>obtain⟨b,rfl⟩:=a;exact ne_int (bR I q (Dk not Sf))
  |str j=>obtain⟨b,rfl⟩:=a;exact PySem.EqMixed.ne_int_str (bR I q (by simp))
  |_=>exact absurd (show false=true from c) Av
 |str i=>
  obtain⟨t,rfl⟩:=d;cases y with
  |non=>cases a;exact PySem.EqNone.ne_str_none (bR I q (by simp))
  |bl j=>cases a;exact PySem.EqMixed.ne_str_bool (bR I q (by simp))
  |int j=>obtain⟨b,rfl⟩:=a;exact PySem.EqMixed.ne_str_int (bR I q (by simp))
  |str j=>obtain⟨b,rfl⟩:=a;exact ne_str (bR I q (Dk not Rj))
  |_=>exact absurd (show false=true from c) Av
 |byt i=>
  obtain⟨t,rfl⟩:=d;cases y with
  |byt j=>obtain⟨b,rfl⟩:=a;exact W.ne_bytes (bR I q (Dk not RO))
  |_=>exact absurd (show false=true from c) Av
 |_=>cases y<;>exact absurd (show false=true from c) Av
def VB:ZN X (compareOp .Lt) (WH λi j=>.bl (decide (i<j))):=Sq λ_ _ _ _ _ _ _ q=>lt_int q
def Vy:ZN X (compareOp .Gt) (WH λi j=>.bl (decide (j<i))):=Sq λ_ _ _ _ _ _ _ q=>gt_int q
def Vh:ZN X (compareOp .GtE) (WH λi j=>.bl (decide (j<=i))):=Sq λ_ _ _ _ _ _ _ q=>ge_int q
def Xt:ZN X (compareOp .In) (λx y H Q=>∃i j,x=.str i/\y=.str j/\Q (.bl (!(Builtin.Str.occurrences j i 0 j.length 1).isEmpty)) H):=by
 intro c s U H x y v u Q I b a h;obtain⟨i,j,rfl,rfl,q⟩:=h;obtain⟨t,rfl⟩:=b;obtain⟨d,rfl⟩:=a;exact in_str (bR I q rfl)
def Wa:ZN X (compareOp .Is) (λx y H Q=>y=.non/\Q (.bl (decide (x=.non))) H):=by
 intro c s U H x y v u Q I a b h;obtain⟨rfl,q⟩:=h;cases b;refine is_none_gen (bR I q ?_);cases x<;>first
  |(obtain⟨t,rfl⟩:=a;rfl)
def WN:ZN X (compareOp .IsNot) (λx y H Q=>y=.non/\Q (.bl (!decide (x=.non))) H):=by
 intro c s U H x y v u Q I a b h;obtain⟨rfl,q⟩:=h;cases b;refine isnot_none_gen (bR I q ?_);cases x<;>first
  |(obtain⟨t,rfl⟩:=a;rfl)
def bA(b:Expr){op:CmpOp}(h:op≠.In:=by decide)(a:op≠.NotIn:=by decide):behindInMarks op b=false:=by
 have d:(op==CmpOp.In)=false:=by grind
 have c:(op==CmpOp.NotIn)=false:=by grind
 cases b<;>simp[behindInMarks,d,c]
def fM(g:ZN X (compareOp op) r)(k:PE X a ta)(j:PE X b tb)(i:behindInMarks op b=false):PE X (.Compare a [op] [b] pos) (VG r ta tb):=by
 intro c s U H Q I h;exact wpAny_Compare1 (Su k j I h λv u d x y m l f e q=>g c d U m x y v u Q l f e q) i
def OX(K:W.Frag)(x:V)(H:Hp)(k:Bool):Prop:=
 match x with
 |.non=>k=false
 |.bl b=>k=b
 |.int i=>k=(i != 0)
 |.str y=>y.length<=sizeLine/\k=((y.length:Int) != 0)
 |.byt y=>y.size<=sizeLine/\k=((y.size:Int) != 0)
 |.ref p=>(∃a,Zo K H p a/\k=!a.isEmpty)\/(∃a,YF K H p a/\k=!a.isEmpty)\/∃c,H p=some (.dK c)/\k=!c.isEmpty
 |_=>False
def Lw{a:List (κ×V)}{vs:List (κ×Value)}(r:KV a vs):(!vs.isEmpty)=!a.isEmpty:=by
 cases r<;>rfl
def wH(r:Vals xs its):(!its.toArray.isEmpty)=!xs.isEmpty:=by
 cases r<;>simp
def pQ:(sizeLine:Nat)<2^63:=by rw[Jl];decide
def UH:GW X (λx H Q=>∃k,OX X.K x H k/\Q k H):=by
 intro B s U H x v Q I g h;obtain⟨k,e,q⟩:=h;have D:=pQ
 have C:=Jl
 cases x with
 |non=>
  cases g;have a:=e
  subst a;exact truthy_none ⟨H,I,q⟩
 |bl b=>
  cases g;have a:=e
  subst a;exact Gh ⟨H,I,q⟩
 |int i=>
  obtain⟨t,rfl⟩:=g;have a:=e
  subst a;exact PySem.P.truthy_int ⟨H,I,q⟩
 |str y=>
  obtain⟨t,rfl⟩:=g;obtain⟨z,a⟩:y.length<=sizeLine/\k=((y.length:Int) != 0):=e;subst a;exact PySem.P.truthy_str (by omega) ⟨H,I.tok _,q⟩
 |byt y=>
  obtain⟨t,rfl⟩:=g;obtain⟨z,a⟩:y.size<=sizeLine/\k=((y.size:Int) != 0):=e;subst a;exact W.truthy_bytes (by omega) ⟨H,I.tok _,q⟩
 |ref p=>
  cases g;have a:=e
  rcases a with⟨f,j,a⟩|⟨f,j,a⟩|⟨c,j,a⟩
  .subst a;obtain⟨o,r,n,u⟩:=I.list j;have d:=r.length
   exact wpAny_truthy_list n.isList (by simp only[List.size_toArray];omega) ⟨H,I.tok _,by rwa[wH r]⟩
  .subst a;obtain⟨o,r,n,u⟩:=I.tuple j;have d:=r.length
   exact truthy_tuple n (by simp only[List.size_toArray];omega) ⟨H,I.tok _,by rwa[wH r]⟩
  .subst a;obtain⟨u,A,l,r,m⟩:c.length<=sizeLine/\(p==sysModules)=false/\∃l,KV c l/\s.heap.DictOf (bE X.prog X.w) p l:=I.Z4 p _ j;have d:=Paired.length r
   exact wpAny_truthy_dict A m (by omega) ⟨H,I.tok _,by rwa[Lw r]⟩
 |_=>exact(show False from e).elim
def F_:ZN X (binaryOp .Add) (λx y H Q=>∃i j,x=.str i/\y=.str j/\i.length+j.length<=sizeLine/\Q (.str (i++j)) H):=by
 intro e s U H x y v u Q I c b h;obtain⟨i,j,rfl,rfl,d,q⟩:=h;obtain⟨t,rfl⟩:=c;obtain⟨a,rfl⟩:=b;exact add_str (λa f=>⟨.str _,H,I.tok _,⟨_,rfl⟩,q⟩) d
def dI{x:V}(r:Vals [x] us):∃u,us=[u]/\RelV x u:=by
 cases r with
 |cons b a=>cases a;exact⟨_,rfl,b⟩
def tQ{x y:V}(r:Vals [x,y] us):∃u a,us=[u,a]/\RelV x u/\RelV y a:=by
 cases r with
 |cons e d=>
  cases d with
  |cons c b=>cases b;exact⟨_,_,rfl,e,c⟩
def M4(c:X.calm=true):ZW X (.builtin "min") (λb H Q=>∃i j,b=[.int i,.int j]/\Q (.int (if j<i then j else i)) H):=by
 intro d s U H b f Q I r h;obtain⟨i,j,rfl,q⟩:=h;obtain⟨u,e,rfl,⟨t,rfl⟩,⟨l,rfl⟩⟩:=tQ r;refine min_two_ints (I.ok.hd c) λm g k=>⟨_,H,I.kept k,?_,q⟩;by_cases a:j<i
 .rw[if_pos a,if_pos a];exact⟨_,rfl⟩
 .rw[if_neg a,if_neg a];exact⟨_,rfl⟩
def XB:ZW X (.type "int") (λa H Q=>(∃i,a=[.int i]/\Q (.int i) H)\/∃k,a=[.bl k]/\Q (.int (if k then 1 else 0)) H):=by
 intro c s U H a d Q I r h;rcases h with⟨i,rfl,q⟩|⟨k,rfl,q⟩
 .obtain⟨u,rfl,t,rfl⟩:=dI r;exact call_int_int ⟨.int i,H,I,⟨_,rfl⟩,q⟩
 .obtain⟨u,rfl,b⟩:=dI r;cases b;exact call_int_bool ⟨.int _,H,I.tok _,⟨_,rfl⟩,q⟩
def Yj:ZW X (.type "str") (λa H Q=>∃i,a=[.int i]/\i.natAbs.log2<1920/\Q (.str (toString i)) H):=by
 intro c s U H a d Q I r h;obtain⟨i,rfl,b,q⟩:=h;obtain⟨u,rfl,t,rfl⟩:=dI r;exact PySem.P.str_of_int b ⟨.str _,H,I.tok _,⟨_,rfl⟩,q⟩
def FU(K:W.Frag)(x:V)(H:Hp)(n:Nat):Prop:=
 match x with
 |.str y=>y.length<=sizeLine/\n=y.length
 |.byt y=>y.size<=sizeLine/\n=y.size
 |.ref p=>(∃a,Zo K H p a/\n=a.length)\/∃a,YF K H p a/\n=a.length
 |_=>False
def Xf:ZW X (.builtin "len") (λa H Q=>∃x n,a=[x]/\FU X.K x H n/\Q (.int n) H):=by
 intro m s U H a o Q I r h;obtain⟨x,n,rfl,e,q⟩:=h;obtain⟨u,rfl,d⟩:=dI r;have w:=pQ
 have v:=Jl
 cases x with
 |str y=>
  obtain⟨t,rfl⟩:=d;obtain⟨l,c⟩:y.length<=sizeLine/\n=y.length:=e;subst c;exact len_str (by omega) ⟨.int _,H,I.tok _,⟨_,rfl⟩,q⟩
 |byt y=>
  obtain⟨t,rfl⟩:=d;obtain⟨l,c⟩:y.size<=sizeLine/\n=y.size:=e;subst c;exact W.len_bytes (by omega) ⟨.int _,H,I.tok _,⟨_,rfl⟩,q⟩
 |ref p=>
  cases d;have c:=e
  rcases c with⟨a,j,c⟩|⟨a,j,c⟩
  .subst c;obtain⟨i,f,g,k⟩:=I.list j;have b:=f.length
   exact Calls.call_len_list g.isList (by simp only[List.size_toArray];omega) ⟨.int a.length,H,I.tok _,⟨_,by simp only[List.size_toArray];rw[b]⟩,q⟩
  .subst c;obtain⟨i,f,g,k⟩:=I.tuple j;have b:=f.length
   exact len_tuple g (by simp only[List.size_toArray];omega) ⟨.int a.length,H,I.tok _,⟨_,by simp only[List.size_toArray];rw[b]⟩,q⟩
 |_=>exact(show False from e).elim
end
structure XU (h:Heap) (x dx C:Addr) (mA:Str->Option Value):Prop where
 obj:h.get? x=some (W.instObj C dx)
 ns:h.Ns1 dx mA
 ne:dx≠x
def sC{f:Q5}(n:h.Ns1 dx f):∃d,h.get? dx=some d/\∀b,W.lookIn b d=some (f b):=by
 obtain⟨o,g,r,j,m,l,_,k⟩:=n;refine⟨o,j,λb=>?_⟩;have e:=k b
 unfold nsFind findBy at e;rw[<-Array.find?_toList]at e;unfold W.lookIn;rw[m];dsimp only;split
 .rename_i y q
  rw[q]at e;exact Dk some e
 .rename_i q
  rw[q]at e;have a:g.toList.any (·.refKey)=false:=by
   rw[List.any_eq_false];intro y i;obtain⟨z,t,c⟩:=l y (Fm.mp i);simp[DictEntry.refKey,c]
  grind
def XU.look{x:Addr}{c:Q5}(I:XU h x dx C c):∃b,W.InstAt h x (W.instObj C dx) C (some b)/\∀a,W.lookIn a b=some (c a):=
 let ⟨b,d,e⟩:=sC I.ns
 ⟨b,⟨I.obj,rfl,rfl,d⟩,e⟩
section
variable {prog:Program} {x f:Addr} {mA:Q5} {name:Str} {v:Value}
def FA{a:Bool}(X:K.In s.heap)(I:XU s.heap x dx C mA)(f:W.plainGet K C name=true)(e:W.hasDictIn K C=true)(g:W.findIn K (.ref C) name=some none)(c:mA name=some v)(b:W.handedIn v=true)(h:Q v {s with toks:=s.toks+1}):wpAny (model prog w) A (getAttr (.ref x) name a) Q E s:=by
 obtain⟨i,J,d⟩:=I.look;exact W.get_value X J (W.plainGet_of f).1 (W.findObj_own e g rfl (by rw[d,c])) b h
def ED{Q:Value×List Value->Shared->Prop}(X:K.In s.heap)(I:XU s.heap x dx C mA)(a:W.plainGet K C name=true)(g:W.findIn K (.ref C) name=some (some (.ref f)))(d:W.isFn K (.ref f)=true)(c:mA name=none)(h:Q (.ref f,[.ref x]) s):wpAny (model prog w) A (getMethod (.ref x) name pl) Q E s:=by
 obtain⟨b,J,e⟩:=I.look;exact W.method_fn X J (W.plainGet_of a).1 (W.plainGet_of a).2 g (Fu.mp d) (by show (W.lookIn name b).map _=some false;rw[e,c];rfl) h
def EA{Q:Unit->Shared->Prop}(X:K.In s.heap)(I:XU s.heap x dx C mA)(hs:W.findIn K (.ref C) "__setattr__"=some (some (.builtin "object.__setattr__")))(n:W.plainOver K C=true)(m:W.takerIn K C name=some none)(o:W.hasDictIn K C=true)(l:PySem.Within mA ns)(hsz:ns.length<=sizeLine)(h:∀e,XU e x dx C (λy=>if y=name then some v else mA y)->Heap.SameBut dx s.heap e->Q () {s with heap:=e,toks:=s.toks+2}):wpAny (model prog w) A (setAttr (.ref x) name v) Q E s:=by
 obtain⟨u,J,B⟩:=I.look;refine W.set_plain X J hs (W.osa_open (s:={s with toks:=s.toks+1}) (r:=none) X J n m λb=>?_)
 obtain⟨D,p,i⟩:=W.any_some o;have k:=I.obj
 refine Ac (Ag (Ac (Ac (wpAny_loadPart k (Ac (W.Looks.here (s:={s with toks:=s.toks+1}) (W.looks_clsIn X p) ?_))))))
 rw[i];refine Ag (a:=some dx) (Ac (Ag (Ac ?_)));refine wpAny_nsSet1 (s:={s with toks:=s.toks+1}) I.ns λe d c=>?_
 obtain⟨z,q,t,f,g,j⟩:=d.count (PySem.Within.cons name v l);refine Ac (wpAny_lookBehind f (by rw[g];exact pastItsLine_dict (Bo j (by grind))) ?_)
 exact Ag (h _ ⟨(c.2 _ (Ne.symm I.ne)).trans I.obj,d,I.ne⟩ c)
def F1{vs:List Value}(X:K.In s.heap)(b:W.makesIn K C=true)(c:W.findIn K (.ref C) "__init__"=some (some (.ref f)))(e:W.typeIn K (.ref f)=some (.type "function"))(h:codeAny (model prog w) (A.under (.builtin "type.__call__" ⟨.ref C::vs,kw⟩)) (.call (.ref f) ⟨.ref (s.heap.objs.size+1)::vs,kw⟩) (W.InitBack (s.heap.objs.size+1) R)
 {s with heap:=(s.heap.push W.emptyDict).push (W.instObj C s.heap.objs.size)}):codeAny (model prog w) A (.call (.ref C) ⟨vs,kw⟩) R s:=by
 exact W.make_core (W.makes_of X b) (W.looks_findIn X c) (λa=>W.bind_fn X a e) (.inl rfl) h
end
noncomputable def gC(f:Str)(v:V):List (Str×V)->List (Str×V)
 |[]=>[(f,v)]
 |(g,x)::r=>if g=f then (g,v)::r else (g,x)::gC f v r
theorem tL(f g:Str)(v:V):∀c,(gC f v c).lookup g=if g=f then some v else c.lookup g
 |[]=>by
  show List.lookup g [(f,v)]=_
  grind
 |(k,x)::r=>by
  have d:=tL f g v r
  rw[show gC f v _=(if k=f then _::r else _::gC f v r) from rfl]
  grind
theorem rJ(f:Str)(v:V):∀b,f∈(gC f v b).map (·.1)/\∀g,g∈b.map (·.1)->g∈(gC f v b).map (·.1)
 |[]=>⟨by simp[gC],λg h=>by simp at h⟩
 |(k,x)::r=>by
  obtain⟨d,c⟩:=rJ f v r;rw[show gC f v _=(if k=f then _::r else _::gC f v r) from rfl]
  grind
theorem tG(f:Str)(v:V):∀b,(gC f v b).length<=b.length+1
 |[]=>by simp[gC]
 |(k,x)::r=>by
  have c:=tG f v r
  rw[show gC f v _=(if k=f then _::r else _::gC f v r) from rfl]
  grind
def Zp.some_of{o:Option Value}(r:Zp (some v) o):∃u,o=some u/\RelV v u:=by
 cases o with
 |none=>exact(show False from r).elim
 |some u=>exact⟨u,rfl,r⟩
def Zp.none_of{o:Option Value}(r:Zp none o):o=none:=by
 cases o with
 |none=>rfl
 |some u=>exact(show False from r).elim
def GQ(r:RelV v u):W.handedIn u=true:=by
 cases v with
 |non=>cases (show u=Value.none from r);rfl
 |bl b=>cases (show u=Value.bool b from r);rfl
 |int i=>obtain⟨t,e⟩:=(show ∃t,u=Value.int i t from r);cases e;rfl
 |str x=>obtain⟨t,e⟩:=(show ∃t,u=Value.str x t from r);cases e;rfl
 |byt b=>obtain⟨t,e⟩:=(show ∃t,u=Value.bytes b t from r);cases e;rfl
 |flt b=>obtain⟨t,e⟩:=(show ∃t,u=Value.float b t from r);cases e;rfl
 |ref a=>cases (show u=Value.ref a from r);rfl
 |ty n=>cases (show u=Value.type n from r);rfl
section
variable {fs:List (Str×V)}
def uB(c:Zj P w H h)(e:H a=some (.ins C dx fs)):∃b,XU h a dx C b/\(∀f,Zp (fs.lookup f) (b f))/\PySem.Within b (fs.map (·.1))/\fs.length<=1000/\H dx=some (.own a):=by
 obtain⟨d,z,i,g,b,n,r,q⟩:=(show ZX P w H h a _ from c a _ e);exact⟨b,⟨g,n,i⟩,r,q,z,d⟩
end
structure Yq (K:W.Frag) (C:Addr):Prop where
 pg:W.plainGet K C Str.empty=true
 hd:W.hasDictIn K C=true
 po:W.plainOver K C=true
 sa:W.findIn K (.ref C) "__setattr__"=some (some (.builtin "object.__setattr__"))
def Yq.get(c:Yq K C)(f:Str):W.plainGet K C f=true:=c.pg
def Zh(K:W.Frag)(C:Addr)(f:Str):Prop:=W.findIn K (.ref C) f=some none
def Zh.VD{f:Str}(n:Zh K C f):W.takerIn K C f=some none:=by
 unfold W.takerIn;rw[show W.findIn K _ f=some none from n];rfl
structure Meth (K:W.Frag) (C:Addr) (m:Str) (f:Addr):Prop where
 at_:W.findIn K (.ref C) m=some (some (.ref f))
 fn:W.isFn K (.ref f)=true
 kp:W.keepIn K (.ref f)=true
section
variable {fs:List (Str×V)} {f:Str}
def II{b:Bool}(I:Inv X y3 U H s)(e:H a=some (.ins C dx fs))(c:Yq X.K C)(n:Zh X.K C f)(l:fs.lookup f=some v)(h:∀u d,Inv X y3 U H d->RelV v u->Q u d):wpAny (model X.prog X.w) A (getAttr (.ref a) f b) Q E s:=by
 obtain⟨i,O,r,_,_,_⟩:=uB I.Z4 e;obtain⟨u,j,g⟩:=Zp.some_of   (by rw[<-l];exact r f)
 exact FA I.ZK O (c.get f) c.hd n j (GQ g) (h u _ (I.tok _) g)
def gZ{g:Addr}{Q:Value×List Value->Shared->Prop}(I:Inv X y3 U H s)(e:H a=some (.ins C dx fs))(c:Yq X.K C)(k:Meth X.K C m g)(l:fs.lookup m=none)(h:Q (.ref g,[.ref a]) s):wpAny (model X.prog X.w) A (getMethod (.ref a) m pl) Q E s:=by
 obtain⟨b,O,r,_,_,_⟩:=uB I.Z4 e;have d:=Zp.none_of (by rw[<-l];exact r m)
 exact ED I.ZK O (c.get m) k.at_ k.fn d h
def Lv{Q:Unit->Shared->Prop}(I:Inv X y3 U H s)(e:H a=some (.ins C dx fs))(c:Yq X.K C)(n:Zh X.K C f)(J:fs.length<1000)(p:RelV y u)(h:∀j,Inv X y3 U (upd H a (.ins C dx (gC f y fs))) j->Q () j):wpAny (model X.prog X.w) A (setAttr (.ref a) f u) Q E s:=by
 obtain⟨k,O,r,i,_,l⟩:=uB I.Z4 e;have t:(fs.map (·.1)).length<=sizeLine:=by rw[Ab,Jl];omega
 refine EA I.ZK O c.sa c.po n.VD c.hd i t λF d m=>h _ ?_;have B:∃o,F.get? dx=some o:=let ⟨o,_,_,G,_⟩:=d.ns;⟨o,G⟩
 refine I.write (x:=a) (e:=dx) (by rw[e];exact True.intro) (.inr l) (λb q D z=>(m.2 b D).trans z) B ?_
 refine⟨by rw[aI O.ne];exact l,?_,O.ne,d.obj,_,d.ns,λg=>?_,λg v=>?_⟩
 .have:=tG f y fs;omega
 .show Zp ((gC f y fs).lookup g) (if g=f then some u else k g)
  rw[tL];by_cases q:g=f
  .rw[if_pos q,if_pos q];exact p
  .rw[if_neg q,if_neg q];exact r g
 .by_cases q:g=f
  .rw[q];exact(rJ f y fs).1
  .refine(rJ f y fs).2 g (i g λz=>v ?_);show (if g=f then some u else k g)=none
   rw[if_neg q];exact z
def Inv.made(I:Inv X y3 U H s):Inv X y3 U (upd (upd H s.heap.objs.size (.own (s.heap.objs.size+1))) (s.heap.objs.size+1) (.ins C s.heap.objs.size []))
 {s with heap:=(s.heap.push W.emptyDict).push (W.instObj C s.heap.objs.size)}:=by
 have d:(s.heap.push W.emptyDict).get? s.heap.objs.size=some W.emptyDict:=Au s.heap rfl
 have j:((s.heap.push W.emptyDict).push (W.instObj C s.heap.objs.size)).get? (s.heap.objs.size+1)=some (W.instObj C s.heap.objs.size):=by
  have:=Au (s.heap.push W.emptyDict) (o:=W.instObj C s.heap.objs.size) rfl
  simp_all
 have i:(s.heap.push W.emptyDict).Ns s.heap.objs.size _:=⟨W.emptyDict,#[],_,d,rfl,(λe g=>absurd g (by simp)),λ_=>rfl⟩
 have k:=I.laid  (o:=.own (s.heap.objs.size+1))  (t':=s.toks) (λb u q=>Af _ q) (Ah _) ⟨_,d⟩
 refine k.laid    (λb u q=>Af _ q) (Nat.le_of_eq (Ed _ _)) ?_;have c:s.heap.objs.size≠s.heap.objs.size+1:=Bc (Ej _)
 refine⟨by rw[aI c,aD],Ci _,c,j,λ_=>none,(Heap.Ns1.of_empty i).at λo q=>Af _ q,λ_=>True.intro,λy f=>absurd rfl f⟩
def Tx{a:Env}{f:Str}(c:attributeBase e f a (eval e a)=eval e a)(h:wpAny (model prog w) A (eval e a) (λo b=>wpAny (model prog w) A (getAttr o f true) Q E b) E s):wpAny (model prog w) A (eval (.Attribute e f pos) a) Q E s:=
 Attribute_any_ h (by rw[arm_eval_Attribute,c])
end
def NM(K:W.Frag)(d:TE)(f:Str):TE:=λU H Q=>d U H λx c=>∃a C e b v,x=.ref a/\c a=some (.ins C e b)/\Yq K C/\Zh K C f/\b.lookup f=some v/\Q v c
def Rx(K:W.Frag)(g e:TE)(f:Str):TS:=λD U H=>e U H λy h=>g U h λx d=>∃a C c b,x=.ref a/\d a=some (.ins C c b)/\Yq K C/\Zh K C f/\b.length<1000/\
 D.nx U (upd d a (.ins C c (gC f y b)))
section
variable {o value:Expr} {f:Str} {pos':Pos} {tv:TE}
def oU(he:PE X e ta)(hb:attributeBase e f X.env (eval e X.env)=eval e X.env):PE X (.Attribute e f pos) (NM X.K ta f):=by
 intro y3 s U H Q I h;refine Tx hb (Z1 (he y3 s U H _ I h) λu s1 μ=>?_);obtain⟨x,H1,I1,rx,a,C,dx,fs,v,ex,ea,c,n,l,q⟩:=μ;subst ex;obtain rfl:u=Value.ref a:=rx;exact II I1 ea c n l λu' s2 I2 ru=>⟨v,H1,I2,ru,q⟩
def mO(ha:PE X o ta)(hv:PE X value tv)(hs:swapsWith value (some (.Attribute o f pos')) pos.line X.env=pure false):PS X (.Assign [.Attribute o f pos'] value pos) (Rx X.K ta tv f):=by
 intro y3 s U H D I h;refine plainObj_wpAny_Assign_Attribute (Z1 (hv y3 s U H _ I h) λu s1 ⟨y,H1,I1,ry,q⟩=>Z1 (ha y3 s1 U H1 _ I1 q) λov s2 μ=>?_) hs;obtain⟨x,H2,I2,rx,a,C,dx,fs,ex,ea,c,n,l,q2⟩:=μ;subst ex;obtain rfl:ov=Value.ref a:=rx;exact Lv I2 ea c n l ry λs3 I3=>⟨U,_,I3,q2⟩
end
section
variable {c:Value} {b:Bool}
inductive YZ (K:W.Frag) (H:Hp):V->Value->Prop where
 |non:YZ K H .non (.type "NoneType")
 |bl (x:Bool):YZ K H (.bl x) (.type "bool")
 |int (i:Int):YZ K H (.int i) (.type "int")
 |str (x:Str):YZ K H (.str x) (.type "str")
 |flt (x:UInt64):YZ K H (.flt x) (.type "float")
 |lst {a:Addr} {xs:List V} (e:H a=some (.lst xs)):YZ K H (.ref a) (.type "list")
 |frz {a:Addr} {o:Obj} {xs:List V} (e:H a=some (.frz o (.lst xs))):YZ K H (.ref a) (.type "list")
 |tup {a:Addr} {xs:List V} (e:H a=some (.tup xs)):YZ K H (.ref a) (.type "tuple")
 |dK {a:Addr} {kvs:List (Key×V)} (e:H a=some (.dK kvs)):YZ K H (.ref a) (.type "dict")
 |dT {a:Addr} {kvs:List (List Key×V)} (e:H a=some (.dT kvs)):YZ K H (.ref a) (.type "dict")
 | ins {a C dx:Addr} {fs:List (Str×V)} (e:H a=some (.ins C dx fs)) (cl:Yq K C) (ha:W.findIn K (.ref C) "__class__"=some (some (.builtin "object.__class__")))
     (hn:W.specialIn K (.builtin "object.__class__") "__get__"=some (some (.builtin "getset_descriptor.__get__"))) (htk:W.takesIn K (.builtin "object.__class__")=some true)
     (hm:W.mroIn K C (.type "object")=some true):YZ K H (.ref a) (.ref C)
def A6{x:V}{t:Value}(I:Inv X y3 U H s)(rx:RelV x u)(ty:YZ X.K H x t)(e:W.kitOne X.K t c=some b)(h:∀tk,Q (.bool b) {s with toks:=tk}):wpAny (model X.prog X.w) A (call (.builtin "isinstance") [u,c]) Q E s:=by
 cases ty with
 |non=>cases (show u=Value.none from rx);exact Eh W.kitx_none I.ZK True.intro e (λz=>nomatch z) h
 |bl y=>cases (show u=Value.bool y from rx);exact Eh W.kitx_bool I.ZK True.intro e (λz=>nomatch z) h
 |int i=>obtain⟨t,q⟩:=(show ∃t,u=Value.int i t from rx);cases q;exact Eh W.kitx_int I.ZK True.intro e (λz=>nomatch z) h
 |str y=>obtain⟨t,q⟩:=(show ∃t,u=Value.str y t from rx);cases q;exact Eh W.kitx_str I.ZK True.intro e (λz=>nomatch z) h
 |flt y=>obtain⟨t,q⟩:=(show ∃t,u=Value.float y t from rx);cases q;exact Eh W.kitx_float I.ZK True.intro e (λz=>nomatch z) h
 | @lst a xs ea=>
  cases (show u=Value.ref a from rx);obtain⟨_,_,n,_,h1⟩:=(show ZX X.prog X.w H s.heap a (.lst xs) from I.Z4 a _ ea);exact Eh W.kitx_list I.ZK ⟨_,h1,rfl⟩ e (λz=>nomatch z) h
 | @frz a ob xs ea=>
  cases (show u=Value.ref a from rx);obtain⟨_,_,_,n,_,h1⟩:=(show ZX X.prog X.w H s.heap a (.frz ob (.lst xs)) from I.Z4 a _ ea);exact Eh W.kitx_list I.ZK ⟨_,h1,rfl⟩ e (λz=>nomatch z) h
 | @tup a xs ea=>
  cases (show u=Value.ref a from rx);obtain⟨_,_,_,p⟩:=(show ZX X.prog X.w H s.heap a (.tup xs) from I.Z4 a _ ea);obtain⟨o,h1,h2,_⟩:=p;exact Eh W.kitx_tuple I.ZK ⟨o,h1,h2⟩ e (λz=>nomatch z) h
 | @dK a kvs ea=>
  cases (show u=Value.ref a from rx);obtain⟨_,_,vs,_,p⟩:=(show ZX X.prog X.w H s.heap a (.dK kvs) from I.Z4 a _ ea);obtain⟨o,es,ep,h1,h2,_⟩:=p;exact Eh W.kitx_dict I.ZK ⟨o,h1,h2.1⟩ e (λz=>nomatch z) h
 | @dT a kvs ea=>
  cases (show u=Value.ref a from rx);obtain⟨_,_,xs,_,o,es,ep,h1,h2,_⟩:=(show ZX X.prog X.w H s.heap a (.dT kvs) from I.Z4 a _ ea);exact Eh W.kitx_dict I.ZK ⟨o,h1,h2.1⟩ e (λz=>nomatch z) h
 | @ins a C dx fs ea cl ha hn htk hm=>
  cases (show u=Value.ref a from rx);obtain⟨mA,O,_⟩:=uB I.Z4 ea;obtain⟨od,J,_⟩:=O.look;exact Eh (W.kitx_own (cl.get _) cl.hd ha hn htk hm) I.ZK J e (λz=>nomatch z) h
end
structure Z7 (k:Nat) (A:Around):Prop where
 hd:A.handled=none
 dp:A.depth+3*k+5<recursionLimit
 un:A.units+16*k+200<cLine
def Z7.mono(r:Z7 k A)(h:j<=k):Z7 j A:=⟨r.hd,by have:=r.dp;omega,by have:=r.un;omega⟩
def Z7.deeper(r:Z7 (k+1) A)(a:Env):Z7 k (A.deeper a):=
 ⟨r.hd,by have:=r.dp;show A.depth+1+3*k+5<_;omega,by have:=r.un;show A.units+3+16*k+200<_;omega⟩
def MR:(A.under (.builtin "type.__call__" ⟨.ref C::us,kw⟩)).depth=A.depth+1:=by
 first|rfl|simp
def JV:(A.under (.builtin "type.__call__" ⟨.ref C::us,kw⟩)).units=A.units+1:=by
 first|rfl|simp
def Z7.make(r:Z7 (k+1) A)(C:Addr)(us:List Value)(a:List (Str×Value)):Z7 k (A.under (.builtin "type.__call__" ⟨.ref C::us,a⟩)):=
 ⟨r.hd,by have:=r.dp;rw[MR];omega,by have:=r.un;rw[JV];omega⟩
def Z7.depth(r:Z7 k A):A.depth<recursionLimit:=by have:=r.dp;omega
def Z7.units(r:Z7 k A):A.units+64<cLine:=by have:=r.un;omega
def Z7.YU(r:Z7 k A):A.units<cLine:=by have:=r.un;omega
def vP:TA:=λ_ H Q=>Q [] H
def VJ(c:TE)(b:TA):TA:=λU H Q=>c U H λx e=>b U e λa d=>Q (x::a) d
section
variable {X:Cx} {e:Expr} {es:List Expr} {te:TE} {t:TA} {pos:Pos}
def aB:PA X [] vP:=λ_ _ _ _ H Q I h=>Calls.spliced_nil ⟨[],H,I,.nil,h⟩
def aA(l:PE X e te)(k:PA X es t)(hs:starEach (e::es) X.env=(false,eval e X.env)::starEach es X.env:=by rfl):PA X (e::es) (VJ te t):=by
 intro a b s U H Q I h;rw[hs]
 refine Calls.spliced_cons (Z1 (l b s U H _ I h) λu d μ=>?_);obtain⟨x,p,n,g,j⟩:=μ;exact Z1 (k a b d U p _ n j) λq r ⟨c,o,m,f,i⟩=>⟨x::c,o,m,.cons g f,i⟩
def PN(t:TA):TE:=λU H Q=>t U H λa b=>a.length<=sizeLine/\∀p,b p=none->Q (.ref p) (upd b p (.tup a))
def Vw(t:TA):TE:=λU H Q=>t U H λa b=>a.length<=sizeLine/\∀p,b p=none->Q (.ref p) (upd b p (.lst a))
def gI(h:PA X es t):PE X (.Tuple es x1 pos) (PN t):=by
 intro f s U H Q I j;refine wpAny_Tuple_spliced (Z1 (h pos f s U H _ I j) λi a ⟨g,d,c,r,z,q⟩=>⟨by rwa[<-r.length],?_⟩)
 have k:=c.Z4.fresh (Ah _)
 refine⟨.ref a.heap.objs.size,upd d a.heap.objs.size _,c.laid  (λb u e=>Af _ e) (Ah _) ?_,rfl,q _ k⟩;exact⟨z,i,r,⟨_,Au _ rfl,rfl,_,rfl⟩⟩
def bZ(h:PA X es t):PE X (.List es pos) (Vw t):=by
 intro f s U H Q I j;refine wpAny_List_spliced (Z1 (h pos f s U H _ I j) λi a ⟨g,d,c,r,z,q⟩=>⟨by rwa[<-r.length],?_⟩)
 have k:=c.Z4.fresh (Ah _)
 refine⟨.ref a.heap.objs.size,upd d a.heap.objs.size _,c.laid  (λb u e=>Af _ e) (Ah _) ?_,rfl,q _ k⟩;exact⟨z,i,0,r,Au _ rfl⟩
end
abbrev Sp:=List V->Hp->VK->XK->Prop
abbrev XX:=List Env->Hp->Shared->XK->Value->Shared->Prop
structure YD (P:Program) (w:World) (K:W.Frag) (mg:Str->Option Value) (base:Heap) (A:Around) (outer:List Env) (s:Shared) (H:Hp):Prop where
 frames:A.frames=some outer
 mod:Mod K mg base
 bs:∀b o,base.get? b=some o->s.heap.get? b=some o/\H b=none
 X7:base.objs.size<=s.heap.objs.size
 Zr:s.heap.FunFrames base outer
 Xx:∀b∈YS outer,H b=none
 Z4:Zj P w H s.heap
 bare:AllBare s.gens
def CE(a:List Env)(P:Program)(w:World)(H:Hp)(s:Shared)(Q:VK)(u:Value)(s':Shared):Prop:=
 ∃v b,s'.os=s.os/\AllBare s'.gens/\Un (YS a) [] H b s.heap s'.heap/\Zj P w b s'.heap/\RelV v u/\Q v b
def CR(CX:XX)(a:List Env)(P:Program)(w:World)(H:Hp)(s:Shared)(Q:VK)(E:XK)(r:Result)(s':Shared):Prop:=
 match r with
 |.ok (.ret u)=>CE a P w H s Q u s'
 |.ok _=>False
 |.error e=>CX a H s E e s'
structure Z6 (P:Program) (w:World) (K:W.Frag) (mg:Str->Option Value) (base:Heap) (CX:XX) (k:Nat) (f:Addr) (fd:FuncData) (ps:List Str) (sp:Sp):Prop where
 len:∀vs H Q E,sp vs H Q E->vs.length=ps.length
 run:∀(A:Around) (outer:List Env) (s:Shared) (H:Hp) (args:Args) (us:List Value) (vs:List V) (Q:VK) (E:XK),Z7 k A->YD P w K mg base A outer s H->BindsTo s fd args (ps.zip us)->Vals vs us->sp vs H Q E->
  codeAny (model P w) A (.call (.ref f) args) (CR CX outer P w H s Q E) s
def YD.make{c:Q5}{b:Heap}{a:List Env}(e:YD P w K c b A a s H)(C:Addr)(us:List Value)(d:List (Str×Value)):YD P w K c b (A.under (.builtin "type.__call__" ⟨.ref C::us,d⟩)) a s H:=⟨by first|exact e.frames|(simpa [Around.under,Code.envs,Code.isFrame,pushEnvs]using e.frames),e.mod,e.bs,e.X7,e.Zr,e.Xx,e.Z4,e.bare⟩
section
variable {s':Shared}
def Inv.Ye(I:Inv X y3 U H s):YD X.prog X.w X.K X.mg X.base X.A X.stack s H:=
 ⟨I.ok.frames,I.ok.mod,I.bs,Bo I.ok.X7 I.sz,I.stack,I.YK,I.Z4,I.bare⟩
def Inv.after{Q:VK}(I:Inv X y3 U H s)(h:CE X.stack X.prog X.w H s Q u s'):EP X y3 U Q u s':=by
 obtain⟨v,k,i,a,f,e,r,q⟩:=h;obtain⟨j,g,d,t,c⟩:=s';obtain rfl:c=s.os:=i;exact⟨v,k,I.call      f e a (λb z=>absurd z (by simp)),r,q⟩
end
def Vm(sp:Sp)(a:List V)(E:XK)(t:TA):TE:=λU H Q=>t U H λb c=>sp (b++a) c Q E
def Vi(C:Addr)(m:Str)(sp:Sp)(b:List V)(E:XK)(f:TE)(t:TA):TE:=λU H Q=>f U H λx d=>∃a g c,x=.ref a/\d a=some (.ins C g c)/\c.lookup m=none/\
 t U d λe h=>sp (x::(e++b)) h Q E
def Uk(C:Addr)(sp:Sp)(b:List V)(E:XK)(t:TA):TE:=λU H Q=>t U H λd c=>∀x a,c x=none->c a=none->a≠x->
 sp (.ref x::(d++b)) (upd (upd c a (.own x)) x (.ins C a [])) (λv e=>v=.non/\Q (.ref x) e) E
def Binds(K:W.Frag)(b:FuncData)(ps:List Str)(ds:List Value):Prop:=
 ∀s a,K.In s.heap->(a++ds).length=ps.length->BindsTo s b ⟨a,[]⟩ (ps.zip (a++ds))
def Binds.all(h:∀a,a.length=ps.length->bindArgs c ⟨a,[]⟩=pure (ps.zip a)):Binds K c ps []:=λs a _ b=>by
 rw[Be]at b ⊢;exact .of_eq (h a b)
def iD(CX:XX)(X:Cx)(E:XK):Prop:=∀b (U:St) H s e a,Inv X b U H s->CX X.stack H s E e a->X.xe e a
section
variable {CX:XX} {f:Addr} {fd:FuncData} {sp:Sp} {dvs:List V} {ds:List Value} {E:XK} {m:Str} {p apos:Pos} {o:Expr}
def Td{Q:VK}{us:List Value}{vs:List V}(F:Z6 X.prog X.w X.K X.mg X.base CX k f fd ps sp)(g:Z7 k X.A)(l:Binds X.K fd ps ds)(j:Vals dvs ds)(d:iD CX X E)(I:Inv X y3 U H s)(r:Vals vs us)(h:sp (vs++dvs) H Q E):wpAny (model X.prog X.w) X.A (call (.ref f) us) (EP X y3 U Q) X.xe s:=by
 have b:=r.append j
 have i:(us++ds).length=ps.length:=by rw[<-b.length];exact F.len _ _ _ _ h
 refine Fv (Dy (F.run X.A X.stack s H ⟨us,[]⟩ _ _ Q E g I.Ye (l s us I.ZK i) b h) λr c a=>?_);cases r with
 |error e=>exact d y3 U H s e c I a
 |ok m=>
  cases m with
  |ret u=>exact I.after a
  |next=>exact False.elim a
  |brk=>exact False.elim a
  |cont=>exact False.elim a
def N6(F:Z6 X.prog X.w X.K X.mg X.base CX k f fd ps sp)(i:Z7 k X.A)(m:Gl X x)(j:X.mg x=some (.ref f))(l:W.keepIn X.K (.ref f)=true)(u:Binds X.K fd ps ds)(o:Vals dvs ds)(g:iD CX X E)(v:PA X (e::es) t)(b:(x==("__debug__" : Str))=false:=by decide)(n:starEach (e::es) X.env=(false,eval e X.env)::starEach es X.env:=by rfl)(a:(backTo pos (starEach es X.env)).any (·.1)=false:=by rfl):PE X (.Call (.Name x p) (e::es) [] pos) (Vm sp dvs E t):=by
 intro d s U H Q I h;refine Dt (eK I m j ?_ b);refine Ew  I.ok.mod.Xs l (Z1 (v pos d s U H _ I h) λz B ⟨y,C,c,r,q⟩=>⟨c.ZK,?_⟩) n a;exact Td F i u o g c r q
def G7{pl:Sem Bool}(he:PE X o ta)(c:Yq X.K C)(hm:Meth X.K C m f)(F:Z6 X.prog X.w X.K X.mg X.base CX k f fd ps sp)(hr:Z7 k X.A)(hb:Binds X.K fd ps ds)(hd:Vals dvs ds)(hx:iD CX X E)(ha:PA X (e::es) t)(hst:starEach (e::es) X.env=(false,eval e X.env)::starEach es X.env:=by rfl)(hpl:(backTo pos (starEach es X.env)).any (·.1)=false:=by rfl)(ht:eval (.Call (.Attribute o m apos) (e::es) [] pos) X.env=(do
 let ov <-eval o X.env
 standAt apos.atName
 let (f,first) <-holding [ov] (getMethod ov m pl)
 callWith pos f first (backTo pos (starEach (e::es) X.env)) (backToKw pos (keywordEach [] X.env))):=by rfl):PE X (.Call (.Attribute o m apos) (e::es) [] pos) (Vi C m sp dvs E ta t):=by
 intro y3 s U H Q I h;refine Fg (pl:=pl) (Z1 (he y3 s U H _ I h) λu s1 μ=>?_) ht;obtain⟨x,H1,I1,rx,a,dx,fs,ex,ea,l,q⟩:=μ;subst ex;obtain rfl:u=Value.ref a:=rx;refine gZ I1 ea c hm l ?_;refine Ew (first:=[.ref a]) (h₀:=X.base) I.ok.mod.Xs hm.kp (Z1 (ha pos y3 s1 U H1 _ I1 q) λus s2 ⟨vs,H2,I2,r,q2⟩=>⟨I2.ZK,?_⟩) hst hpl
 exact Td (us:=.ref a::us) (vs:=.ref a::vs) F hr hb hd hx I2 (.cons rfl r) q2
def Nr{pl:Sem Bool}(he:PE X o ta)(c:Yq X.K C)(hm:Meth X.K C m f)(F:Z6 X.prog X.w X.K X.mg X.base CX k f fd ps sp)(hr:Z7 k X.A)(hb:Binds X.K fd ps ds)(hd:Vals dvs ds)(hx:iD CX X E)(ht:eval (.Call (.Attribute o m apos) [] [] pos) X.env=(do
 let ov <-eval o X.env
 standAt apos.atName
 let (f,first) <-holding [ov] (getMethod ov m pl)
 callWith pos f first (backTo pos (starEach [] X.env)) (backToKw pos (keywordEach [] X.env))):=by rfl):PE X (.Call (.Attribute o m apos) [] [] pos) (Vi C m sp dvs E ta vP):=by
 intro y3 s U H Q I h;refine Fg  (Z1 (he y3 s U H _ I h) λu s1 μ=>?_) ht;obtain⟨x,H1,I1,rx,a,dx,fs,ex,ea,l,q⟩:=μ;subst ex;obtain rfl:u=Value.ref a:=rx;refine gZ I1 ea c hm l ?_;exact W.callWith_K0  I1.ZK hm.kp (Td  (vs:=[.ref a]) F hr hb hd hx I1 (.cons rfl .nil) q)
structure Mk (K:W.Frag) (C f:Addr):Prop where
 makes:W.makesIn K C=true
 init:W.findIn K (.ref C) "__init__"=some (some (.ref f))
 fn:W.isFn K (.ref f)=true
 kp:W.keepIn K (.ref C)=true
def zo{Q:VK}{vs:List V}(M:Mk X.K C f)(F:Z6 X.prog X.w X.K X.mg X.base CX k f fd ps sp)(n:Z7 (k+1) X.A)(q:Binds X.K fd ps ds)(p:Vals dvs ds)(m:iD CX X E)(I:Inv X y3 U H s)(r:Vals vs us)(h:∀x b,H x=none->H b=none->b≠x->sp (.ref x::(vs++dvs)) (upd (upd H b (.own x)) x (.ins C b [])) (λv B=>v=.non/\Q (.ref x) B) E):wpAny (model X.prog X.w) X.A (call (.ref C) us) (EP X y3 U Q) X.xe s:=by
 have g:=h (s.heap.objs.size+1) s.heap.objs.size (I.Z4.fresh (Iq _)) (I.Z4.fresh (Ah _)) (Bc (Ej _))
 have c:=Inv.made (C:=C) I
 have d:Vals (V.ref (s.heap.objs.size+1)::(vs++dvs)) (Value.ref (s.heap.objs.size+1)::(us++ds)):=.cons rfl (r.append p)
 have o:(Value.ref (s.heap.objs.size+1)::us++ds).length=ps.length:=by
  have e:=d.length
  rw[F.len _ _ _ _ g]at e;exact e.symm
 refine Fv (F1 (f:=f) I.ZK M.makes M.init (Fu.mp M.fn) (Dy (F.run _ X.stack _ _ ⟨Value.ref (s.heap.objs.size+1)::us,[]⟩ (Value.ref (s.heap.objs.size+1)::(us++ds)) _ _ E (n.make C us [])
  (c.Ye.make C us []) (q _ (Value.ref (s.heap.objs.size+1)::us) c.ZK o) d g) λr i a=>?_))
 cases r with
 |error e=>exact m y3 U _ _ e i c a
 |ok t=>
  cases t with
  |ret u=>
   obtain⟨v,D,z,j,y,l⟩:=c.after a;subst y;exact⟨j,⟨V.ref (s.heap.objs.size+1),D,z,rfl,l⟩⟩
  |next=>exact False.elim a
  |brk=>exact False.elim a
  |cont=>exact False.elim a
def KS(M:Mk X.K C f)(F:Z6 X.prog X.w X.K X.mg X.base CX k f fd ps sp)(i:Z7 (k+1) X.A)(l:Gl X x)(j:X.mg x=some (.ref C))(o:Binds X.K fd ps ds)(n:Vals dvs ds)(g:iD CX X E)(u:PA X (e::es) t)(b:(x==("__debug__" : Str))=false:=by decide)(m:starEach (e::es) X.env=(false,eval e X.env)::starEach es X.env:=by rfl)(a:(backTo pos (starEach es X.env)).any (·.1)=false:=by rfl):PE X (.Call (.Name x p) (e::es) [] pos) (Uk C sp dvs E t):=by
 intro d s U H Q I h;refine Dt (eK I l j ?_ b);refine Ew  I.ok.mod.Xs M.kp (Z1 (u pos d s U H _ I h) λy z ⟨v,B,c,r,q⟩=>⟨c.ZK,?_⟩) m a;exact zo M F i o n g c r q
end
def PK(X:Cx)(b:List Keyword)(t:TA):Prop:=
 ∀a (c:Q3) s (U:St) H Q,Inv X c U H s->t U H Q->wpAny (model X.prog X.w) X.A (evalAll ((backToKw a (keywordEach b X.env)).map (·.2))) (AP X c U Q) X.xe s
section
variable {kpos:Pos} {kws:List Keyword} {nm:Option Str}
def Ua:PK X [] vP:=λ_ _ _ _ H Q I h=>wpAny_evalAll_nil ⟨[],H,I,.nil,h⟩
def Tt(l:PE X e te)(k:PK X kws t):PK X (⟨nm,e,kpos⟩::kws) (VJ te t):=by
 intro a b s U H Q I h
 refine wpAny_evalAll_cons (Ac (Z1 (l b s U H _ I h) λu d ⟨x,p,n,g,j⟩=>Ac (Gj (Ag ?_))));exact Z1 (k a b d U p _ n j) λq r ⟨c,o,m,f,i⟩=>⟨x::c,o,m,.cons g f,i⟩
end
structure Z9 (N P:List Str) (sc:Scope):Prop where
 kind:sc.kind=.function
 co:sc.isCoroutine=false
 gen:sc.isGenerator=false
 nd:N.Nodup
 pre:N.take P.length=P
 par:∀x∈P,sc.names.lookup x=some .local\/sc.names.lookup x=some .cell
 V6:∀y∈sc.names,y.2≠.free
theorem yY:∀ {a:List (Str×Value)} {m:Q5},(∀v,(x,v)∉a)->bindL kindOf a m x=m x
 |[],_,_=>rfl
 |(n,v)::r,m,h=>by
  unfold bindL;rw[yY λw b=>h w (Ao _ b)];split
  .have:x≠n:=by rintro rfl;exact h v Al
   simp[this]
  .rfl
theorem yT:∀ {a:List _} {m:Q5},(∀v,(x,v)∉a)->bindC kindOf a m x=m x
 |[],_,_=>rfl
 |(n,v)::r,m,h=>by
  unfold bindC;rw[yT λw b=>h w (Ao _ b)];split
  .rfl
  grind
theorem Qd{v:Value}:∀ {P:List Str} {a:List Value} {i:Nat} {m:Q5},P.Nodup->P[i]?=some x->a[i]?=some v->kindOf x=some .local->
 bindL kindOf (P.zip a) m x=some v
 |[],_,_,_,_,h,_,_=>by simp at h
 |_::_,[],_,_,_,_,h,_=>by simp at h
 |p::P,w::a,0,m,nd,h1,h2,hk=>by
  simp at h1 h2;subst h1;subst h2;show bindL kindOf ((p,w)::P.zip a) m p=_
  unfold bindL;rw[yY λv b=>(Co.mp nd).1 (Er b).1,if_pos hk];simp
 |p::P,w::a,i+1,m,nd,h1,h2,hk=>by
  show bindL kindOf ((p,w)::P.zip a) m x=_
  unfold bindL;exact Qd (i:=i) (List.nodup_cons.mp nd).2 (by simp_all) (by simp_all) hk
theorem RC{v:Value}:∀ {P:List Str} {a:List Value} {i:Nat} {m:Q5},P.Nodup->P[i]?=some x->a[i]?=some v->kindOf x≠some .local->
 bindC kindOf (P.zip a) m x=some v
 |[],_,_,_,_,h,_,_=>by simp at h
 |_::_,[],_,_,_,_,h,_=>by simp at h
 |p::P,w::a,0,m,nd,h1,h2,hk=>by
  simp at h1 h2;subst h1;subst h2;show bindC kindOf ((p,w)::P.zip a) m p=_
  unfold bindC;rw[yT λv b=>(Co.mp nd).1 (Er b).1,if_neg hk];simp
 |p::P,w::a,i+1,m,nd,h1,h2,hk=>by
  show bindC kindOf ((p,w)::P.zip a) m x=_
  unfold bindC;exact RC (i:=i) (List.nodup_cons.mp nd).2 (by simpa using h1) (by simpa using h2) hk
noncomputable def jH(N:List Str)(vs:List V):St:=vs.map some++List.replicate (N.length-vs.length) none
noncomputable def fL(CX:XX)(P:Program)(w:World)(K:W.Frag)(mg:Str->Option Value)(base:Heap)(N:List Str)(qual:Str)(scope:Scope)(f:Addr)(cd:Value)(A:Around)(outer:List Env)(s:Shared)(H:Hp)(E:XK):Cx where
 prog:=P
 w:=w
 K:=K
 mg:=mg
 base:=base
 A:=A.deeper (envOfC qual scope s.heap.objs.size f cd)
 N:=N
 s₀:=s
 H₀:=H
 env:=envOfC qual scope s.heap.objs.size f cd
 outer:=outer
 stack:=envOfC qual scope s.heap.objs.size f cd::outer
 ex:=[]
 calm:=true
 fn:=λ_=>true
 pn:=[]
 xe:=λe s'=>wpAny (model P w) (A.deeper (envOfC qual scope s.heap.objs.size f cd)) (leaving (envOfC qual scope s.heap.objs.size f cd) e) (λ_ a=>CX outer H s E e a) (λb a=>CX outer H s E b a) s'
def cH{a:Scope}{n:Nat}(h:a.names.lookup x=some .cell):∃c,(cellsFrom n a.names []).lookup x=some c:=by
 have q:=Iw a.names n [] (.inl h)
 exact Fj.mp q
def Oq{J:Q5}{m:Heap}{j:Str}{d:Scope}{f:Addr}{I:Value}{g:List Env}{L:Shared}{E:XK}{vs:List V}(S:Z9 N ps d)(T:A.handled=none)(o:YD P w K J m A g s H)(X:vs.length=ps.length)(r:Vals vs us)(x:InCallC s s.heap.objs.size (bindL (envOfC j d s.heap.objs.size f I).kindOf (ps.zip us) λ_=>none) (cellsFrom (s.heap.objs.size+1) d.names []) (bindC (envOfC j d s.heap.objs.size f I).kindOf (ps.zip us) λ_=>none) L):Inv (fL CX P w K J m N j d f I A g s H E) [] (jH N vs) H L:=by
 have R:ps.length<=N.length:=by have:=Dk List.length S.pre;rw[Ce]at this;omega
 obtain⟨G,W,rfl,O⟩:=x.done;have t:∀b,b∉(fL CX P w K J m N j d f I A g s H E).ex:=λb z=>absurd (show b∈([]:List Addr) from z) (by simp)
 refine⟨⟨o.mod,S.kind,rfl,rfl,Ah _,λy z c G l=>?_,λy B=>?_,λy c _ h=>?_,λ_=>T,Around.frames_deeper o.frames,.inr ⟨rfl,rfl⟩,λb z=>absurd z (t b),o.bs,o.X7,λb _ _=>t b,λb z=>absurd z (t b),o.Zr,o.Xx⟩,
  rfl,o.bare,Un.kept O,⟨_,x.toInCall.ns,λi y v G l Y=>?_⟩,λy c h=>⟨_,x.cell y c h⟩,o.Z4.fresh (Nat.le_refl _),λy c h=>?_,λp D=>absurd (show p∈([]:Q3) from D) (by simp),o.Z4.kept O,?_⟩
 .exact name_of_addr x.apart (Em G) (Em l)
 .have B:=B
  rcases B with B|B
  .exact cH B
  .exact absurd rfl (S.V6 _ (Em B))
 .exact Hr (x.above y c (Em h))
 .have F:i<vs.length:=by
   unfold jH at l;by_cases F:i<vs.length
   .exact F
   .rw[List.getElem?_append_right (by simpa using F)]at l
    rw[Gr]at l;split at l<;>cases l
  have U:vs[i]?=some v:=by
   unfold jH at l;rw[List.getElem?_append_left (by simpa using F),List.getElem?_map]at l
   cases e:vs[i]? with
   |none=>rw[e]at l;cases l
   |some a=>rw[e]at l;cases l;rfl
  obtain⟨u,M,Q⟩:=r.get U;have D:ps[i]?=some y:=by
   rw[<-S.pre,List.getElem?_take_of_lt (by omega)];exact G
  have C:ps.Nodup:=by rw[<-S.pre];exact S.nd.sublist (Iy _ _)
  refine⟨u,Q,?_⟩;rcases S.par y (Ap D) with k|k
  .exact .inl ⟨k,Qd C D M k⟩
  .obtain⟨c,e⟩:=cH (n:=s.heap.objs.size+1) k;refine .inr ⟨.inl k,c,e,?_⟩;have q:=x.cell y c e
   rw[RC C D M (by show d.names.lookup y≠_;rw[k];decide)]at q
   exact q
 .exact o.Z4.fresh (Hr (x.above y c (Em h)))
 .unfold jH;show _=N.length
  rw[Ak,Ab,Hf];omega
def Qi{L:Q5}{i:Heap}{f:Addr}{name d:Str}{h:Arguments}{a:Scope}{dV kV G pm g ct oc:Value}{an od:Option Addr}{T:Array (Option Value)}{sp:Sp}(lk:K.lookup f=some ⟨oc,od,.func (W.fnOf name d h body a dV kV G pm an g ct),T⟩)(Z:W.codeIn K g d=true)(S:Z9 N ps a)(B:∀j H Q E,sp j H Q E->j.length=ps.length)(p:∀(A:Around) (c:List Env) (s:Shared) (H:Hp) (j:List V) (Q:VK) (E:XK),Z7 k (A.deeper (envOfC d a s.heap.objs.size f g))->sp j H Q E->
 ∃t,YL (fL CX P w K L i N d a f g A c s H E) body t/\t {nx:=λ_ l=>Q .non l,rt:=Q} (jH N j) H):Z6 P w K L i CX (k+1) f (W.fnOf name d h body a dV kV G pm an g ct) ps sp:=by
 refine⟨B,λA c s H a1 us j Q E Y F hb r C=>?_⟩;have hl:=B _ _ _ _ C
 have KX:K.In s.heap:=F.mod.Xs.keeps λb o e=>(F.bs b o e).1
 have X:s.heap.NoLimit:=F.mod.nolimit.keeps λb o e=>(F.bs b o e).1
 have m:∀y∈ps.zip us,a.names.lookup y.1=some .local\/(a.names.lookup y.1=some .cell/\((cellsFrom (s.heap.objs.size+1) a.names []).lookup y.1).isSome=true):=λ⟨n,v⟩ hy=>by
  rcases S.par n (Er hy).1 with q|q
  .exact .inl q
  .exact .inr ⟨q,Iw _ _ _ (.inl q)⟩
 refine codeAny_call_function Y.depth (KX _ _ lk) rfl S.co S.gen rfl (W.codeRec_of KX Z) (hb _ _ _ _ ?_);refine wpAny_newFunctionEnv_cells S.kind m λa2 he s1 x=>?_;subst he;refine⟨X.keeps x.toInCall.keep,codeAny_func ?_⟩;obtain⟨t,ht,hq⟩:=p A c s H j Q E (Y.deeper _) C;have I:Inv (fL CX P w K L i N d a f g A c s H E) [] (jH N j) H s1:=Oq S Y.hd F hl r x
 refine Cf (ht [] s1 (jH N j) H _ I hq) (λfl O z=>?_) λe O z=>z;have D:∀ {M:St} {l:Hp} {v:V} {u:Value},Inv (fL CX P w K L i N d a f g A c s H E) [] M l O->RelV v u->Q v l->CE c P w H s Q u O:=
  fun {M l v u} J R q=>⟨v,l,J.os,J.bare,J.base,J.Z4,R,q⟩
 cases fl with
 |ret u=>
  obtain⟨v,M,l,J,R,q⟩:=z;exact D J R q
 |next=>
  obtain⟨M,l,J,q⟩:=z;exact D (v:=V.non) (u:=Value.none) J rfl q
 |brk=>
  obtain⟨_,_,_,q⟩:=z;exact False.elim q
 |cont=>
  obtain⟨_,_,_,q⟩:=z;exact False.elim q
section
variable {p:Pos} {id T:String} {r:List V->Hp->VK->Prop}
def SH(r:List V->Hp->VK->Prop)(t:TA):TE:=λU H Q=>t U H λa b=>r a b Q
def aX(q:ZW X (.builtin id) r)(n:Gl X x)(m:X.mg x=none)(k:bootBuiltins x=some (.builtin id))(u:PA X (e::es) t)(l:x≠"__name__" := by decide)(b:(x==("__debug__" : Str))=false:=by decide)(o:starEach (e::es) X.env=(false,eval e X.env)::starEach es X.env:=by rfl)(a:(backTo pos (starEach es X.env)).any (·.1)=false:=by rfl):PE X (.Call (.Name x p) (e::es) [] pos) (SH r t):=by
 intro c s U H Q I h;refine Dt (iZ I n m k ?_ l b);exact PyProof.Rows.callWith_builtin1 (Z1 (u pos c s U H _ I h) λf g ⟨d,w,v,i,j⟩=>q c g U w d f Q v i j) o a
def bN(q:ZW X (.type T) r)(n:Gl X x)(m:X.mg x=none)(k:bootBuiltins x=some (.type T))(u:PA X (e::es) t)(l:x≠"__name__" := by decide)(b:(x==("__debug__" : Str))=false:=by decide)(o:starEach (e::es) X.env=(false,eval e X.env)::starEach es X.env:=by rfl)(a:(backTo pos (starEach es X.env)).any (·.1)=false:=by rfl):PE X (.Call (.Name x p) (e::es) [] pos) (SH r t):=by
 intro c s U H Q I h;refine Dt (iZ I n m k ?_ l b);exact Dz (Z1 (u pos c s U H _ I h) λf g ⟨d,w,v,i,j⟩=>q c g U w d f Q v i j) o a
end
end L2
namespace HT
open PySem PyProof.Rows
noncomputable def Xo(n d:Nat):Option Int->Nat
 |none=>d
 |some v=>if v<0 then (v+(n:Int)).toNat else min v.toNat n
end HT
namespace L2
open PySem PySem.Spec PyProof.Rows
variable {H:Hp}{X:Cx}{its:List Value}{n:Nat}{y3:Q3}{s:Shared}{x:V}{xs:List V}{α:Type}{U:St}
abbrev TO:=St->Hp->(Option Int->Hp->Prop)->Prop
def PO(X:Cx)(e:Option Expr)(t:TO):Prop:=
 ∀(a:Q3) s (U:St) H Q,Inv X a U H s->t U H Q->
  wpAny (model X.prog X.w) X.A (evalPart e X.env) (λu c=>∃o b,Inv X a U b c/\IsPart u o/\Q o b) X.xe s
def NU:TO:=λ_ H Q=>Q none H
section
variable {e:Expr} {te:TE} {lo hi:Option Expr} {tl th:TO} {pos p2:Pos}
def zc:PO X none NU:=by
 intro a s U H Q I h;exact Ag ⟨none,H,I,.none,h⟩
def Xh(X:Cx)(r:V->Option Int->Option Int->Hp->VK->Prop):Prop:=
 ∀(a:Q3) s (U:St) H x v c b e f d Q,Inv X a U H s->RelV x v->s.heap.IsSliceOf d c b .none->IsPart c e->IsPart b f->r x e f H Q->
  ∃T id,typeLookup (.type T) "__getitem__"=pure (some (.builtin id))/\s.TypeIs v T/\wpAny (model X.prog X.w) X.A (getItem v (.ref d)) (EP X a U Q) X.xe s
def Xh.or(h:Xh X r)(h':Xh X i):Xh X (λx a b H Q=>r x a b H Q\/i x a b H Q):=by
 intro c s U H x v e d a b f Q I g l k j q;rcases q with q|q
 .exact h c s U H x v e d a b f Q I g l k j q
 .exact h' c s U H x v e d a b f Q I g l k j q
def N7(r:V->Option Int->Option Int->Hp->VK->Prop)(c:TE)(a b:TO):TE:=λU H Q=>c U H λx f=>a U f λl e=>b U e λu d=>r x l u d Q
def qH(C:Xh X r)(F:PE X e te)(D:PO X lo tl)(z:PO X hi th):PE X (.Subscript e (.Slice lo hi none p2) pos) (N7 r te tl th):=by
 intro c s U H Q I h;refine Subscript_ (Z1 (F c s U H _ I h) λv j μ=>?_);obtain⟨x,O,M,k,o⟩:=μ;refine wpAny_Slice (Z1 (D c j U O _ M o) λf i ⟨l,N,L,y,n⟩=>Z1 (z c i U N _ L n) λd a μ=>?_);obtain⟨u,g,K,p,m⟩:=μ;refine Ag ?_;have J:Inv X c U g {a with heap:=a.heap.push {cls:=.type "slice",data:=.fields #[f,d,.none]}}:=K.kept  λb P q=>Af _ q
 obtain⟨T,id,G,B,E⟩:=C c {a with heap:=a.heap.push {cls:=.type "slice",data:=.fields #[f,d,.none]}} U g x v f d l u a.heap.objs.size Q J k (Heap.IsSliceOf.new ..) y p m
 exact tail_any  B G E (by with_unfolding_all rfl)
noncomputable def rO(xs:List V)(a b:Option Int):List V:=(xs.drop (HT.Xo xs.length 0 a)).take (HT.Xo xs.length xs.length b-HT.Xo xs.length 0 a)
def M9(xs:List V)(a b:Option Int):(rO xs a b).length<=xs.length:=by
 unfold rO;rw[Ce,Dr];omega
end
noncomputable def Xr(n:Nat)(i:Int):Option Nat:=if 0<=i then (if i<n then some i.toNat else none) else if -(n:Int)<=i then some (i+n).toNat else none
noncomputable def YQ(xs:List α)(i:Int):Option α:=(Xr xs.length i).bind λj=>xs[j]?
def Sl(h:Xr n i=some j):seqIndex? i n=some j/\j<n/\-(n:Int)<=i/\i<n:=by
 unfold Xr at h;by_cases b:0<=i
 .rw[if_pos b]at h;by_cases a:i<n
  .rw[if_pos a]at h;have e:=Bm h
   exact⟨by rw[seqIndex_of b a,e],by omega,by omega,a⟩
  simp_all
 .rw[if_neg b]at h;by_cases a:-(n:Int)<=i
  .rw[if_pos a]at h;have e:=Bm h
   exact⟨by rw[seqIndex_neg (by omega) a,e],by omega,a,by omega⟩
  .rw[if_neg a]at h;cases h
def Ti{xs:List α}{i:Int}{v:α}(h:YQ xs i=some v):∃j,seqIndex? i xs.length=some j/\xs[j]?=some v/\j<xs.length/\-(xs.length:Int)<=i/\i<xs.length:=by
 unfold YQ at h;cases e:Xr xs.length i with
 |none=>rw[e]at h;cases h
 |some j=>
  rw[e]at h;obtain⟨d,c,b,a⟩:=Sl e;exact⟨j,d,h,c,b,a⟩
def bO{xs:List α}{j:Nat}{v:α}(h:xs[j]?=some v):YQ xs (j:Int)=some v:=by
 have a:=(Ae.mp h).1
 have e:Xr xs.length (j:Int)=some j:=by
  unfold Xr;simp_all
 unfold YQ;rwa[e]
def IW(b:Expr):Prop:=∀o i,subscripted b false o i=operate [o,i] (getItem o i)
def Xy(X:Cx)(r:R2):Prop:=
 ∀b a (c:Q3) s (U:St) H x y v u Q,Inv X c U H s->RelV x v->RelV y u->r x y H Q->
  subscripted a false v u=operate [v,u] (getItem v u)->wpAny (model X.prog X.w) X.A (subscriptTail b a v u) (EP X c U Q) X.xe s
def X3(X:Cx)(id:String)(r:V->List V->Hp->VK->Prop):Prop:=
 ∀(a:Q3) s (U:St) H x b v c Q,Inv X a U H s->RelV x v->Vals b c->r x b H Q->
  wpAny (model X.prog X.w) X.A (call (.builtin id) (v::c)) (EP X a U Q) X.xe s
section
variable {X:Cx} {a b:Expr} {ta tb:TE} {pos:Pos}
def Xy.or(h:Xy X r)(h':Xy X f):Xy X (λx y H Q=>r x y H Q\/f x y H Q):=by
 intro a b c s U H x y v u Q I e d q g;rcases q with q|q
 .exact h a b c s U H x y v u Q I e d q g
 .exact h' a b c s U H x y v u Q I e d q g
def bJ(g:Xy X r)(j:PE X a ta)(i:PE X b tb)(hs:IW b):PE X (.Subscript a b pos) (VG r ta tb):=by
 intro c s U H Q I h;exact Subscript_ (Su j i I h λv u d x y l k f e q=>g a b c d U l x y v u Q k f e q (hs _ _))
def Tw(K:W.Frag):R2:=λx y H Q=>∃p a i v,x=.ref p/\y=.int i/\Zo K H p a/\YQ a i=some v/\Q v H
def O7(K:W.Frag):R2:=λx y H Q=>∃p a i v,x=.ref p/\y=.int i/\YF K H p a/\YQ a i=some v/\Q v H
def Qq:R2:=λx y H Q=>∃z i c,x=.str z/\y=.int i/\z.length<=sizeLine/\YQ z.cps.toList i=some c/\Q (.str ⟨#[c]⟩) H
def XJ:Xy X (Tw X.K):=by
 intro c d l s U H x y v u Q I C B h m;obtain⟨p,M,i,z,rfl,rfl,D,F,q⟩:=h;cases C;obtain⟨t,rfl⟩:=B;obtain⟨g,r,f,N⟩:=I.list D;obtain⟨j,b,L,P,J,G⟩:=Ti F;obtain⟨w,o,e⟩:=r.get L;have E:=r.length
 have O:=pQ
 have a:EP X l U Q w s:=⟨z,H,I,e,q⟩
 by_cases n:0<=i
 .have k:i.toNat=j:=by
   rw[seqIndex_of n G]at b;exact Bm b
  exact item_listR f.isList n (by omega) (by rw[k];simpa using o) a m
 .have k:(i+(g.toArray.size:Int)).toNat=j:=by
   rw[seqIndex_neg (by omega) J]at b
   rw[Bj,<-E];exact Bm b
  exact subscriptTail_builtinR (x:=w) f.isList.typeIs slot_list_getitem.lookup
   (wpAny_getItem_list_neg (Q:=λr A=>r=w/\EP X l U Q r A) f.isList (by omega) (by grind) (by omega) (by rw[k];simpa using o) ⟨rfl,a⟩) m
def Wf:Xy X (O7 X.K):=by
 intro a b e s U H x y v u Q I l k h n;obtain⟨p,F,i,z,rfl,rfl,o,B,q⟩:=h;cases l;obtain⟨t,rfl⟩:=k;obtain⟨m,r,f,G⟩:=I.tuple o;obtain⟨j,D,C,N,M,L⟩:=Ti B;obtain⟨w,E,c⟩:=r.get C;have A:=r.length
 have J:=pQ
 have d:EP X e U Q w s:=⟨z,H,I,c,q⟩
 exact subscriptTail_builtinR (x:=w) f.typeIs slot_tuple_getitem.lookup
  (getItem_tuple (j:=j) (Q:=λr g=>r=w/\EP X e U Q r g) f (by omega) (by omega) (by grind) (by simpa using E) ⟨rfl,d⟩) n
def DS:Xy X Qq:=by
 intro a b w s U H x y v u Q I f e h g;obtain⟨z,i,c,rfl,rfl,B,l,q⟩:=h;obtain⟨t,rfl⟩:=f;obtain⟨A,rfl⟩:=e;obtain⟨j,d,o,D,n,m⟩:=Ti l;have k:z.cps.toList.length=z.length:=by simp[Str.length]
 rw[k]at d n m;have C:=pQ
 exact tail_any (typeIs_str s z t) slot_str_getitem.lookup (getItem_str  (by grind) (by rw[d];simpa using o) ⟨.str ⟨#[c]⟩,H,I.tok _,⟨_,rfl⟩,q⟩) g
def NI(K:W.Frag):R2:=λx y H Q=>Tw K x y H Q\/O7 K x y H Q\/Qq x y H Q
def V3:Xy X (NI X.K):=XJ.or (Wf.or DS)
def MK(its:List Value)(n j:Nat)(u:Value):Obj.mapSeq (·.setIfInBounds j u) {cls:=.type "list",data:=.seq its.toArray n}={cls:=.type "list",data:=.seq (its.set j u).toArray n}:=by
 simp[Obj.mapSeq]
def Inv.lst{b:Q3}{U:St}{H:Hp}{s:Shared}{p:Addr}{xs:List V}(I:Inv X b U H s)(h:H p=some (.lst xs)):∃a n,Vals xs a/\s.heap.get? p=some {cls:=.type "list",data:=.seq a.toArray n}/\xs.length<=sizeLine:=by
 obtain⟨z,a,n,r,e⟩:=I.Z4 p _ h;exact⟨a,n,r,e,z⟩
def Inv.Wo{a:Nat}{f:Obj->Obj}(I:Inv X y3 U H s)(h:H p=some (.lst xs))(d:s.heap.get? p=some {cls:=.type "list",data:=.seq its.toArray n})(c:f {cls:=.type "list",data:=.seq its.toArray n}={cls:=.type "list",data:=.seq its'.toArray a})(r:Vals ys its')(hz:ys.length<=sizeLine)(t:Nat):Inv X y3 U (upd H p (.lst ys)) {s with heap:=s.heap.update p f,toks:=t}:=by
 have e:(s.heap.update p f).get? p=some {cls:=.type "list",data:=.seq its'.toArray a}:=by
  rw[Dx f d (by rw[c]<;>rfl),c]
 refine I.write   (by rw[h];trivial) (.inl rfl) (λb u g q=>(Ck _ _ (Ne.symm g)).trans q) ⟨_,e⟩ ?_
 exact⟨hz,its',a,r,e⟩
def NT:V->V->V->Hp->(Hp->Prop)->Prop:=λo i v H Q=>∃p a k j,o=.ref p/\i=.int k/\H p=some (.lst a)/\Xr a.length k=some j/\Q (upd H p (.lst (a.set j v)))
def qM:Pg X NT:=by
 intro x s U H o i v E F u Q I A B z h;obtain⟨p,y,k,j,rfl,rfl,f,D,q⟩:=h;cases A;obtain⟨t,rfl⟩:=B;obtain⟨a,n,r,c,C⟩:=I.lst f;obtain⟨b,J,l,g⟩:=Sl D;have d:=r.length
 have G:=pQ
 have w:=
  I.Wo f c (MK a n j u) (r.set z j) (by rw[Cg];exact C) s.toks
 by_cases m:0<=k
 .have e:k.toNat=j:=by
   rw[seqIndex_of m g]at b;exact Bm b
  exact W.ki_setAt c m (by omega) (by rw[Bj,<-d];exact g) (by rw[e];exact⟨_,w,q⟩)
 .have e:(k+(a.toArray.size:Int)).toNat=j:=by
   rw[seqIndex_neg (by omega) l]at b
   simp_all
  exact W.ki_setBack c (by omega) (by rw[Bj,<-d];exact l) (by omega) (by rw[e];exact⟨_,w,q⟩)
def B9(a b:Option Int)(n:Nat):(sliceBounds a b none n).1=((HT.Xo n 0 a:Nat):Int)/\(sliceBounds a b none n).2.1=((HT.Xo n n b:Nat):Int)/\(sliceBounds a b none n).2.2=1:=by
 refine⟨?_,?_,rfl⟩
 .cases a with
  |none=>simp[sliceBounds,HT.Xo]
  |some i=>
   simp only[sliceBounds,HT.Xo,Option.getD_none,show (1:Int)>0 by decide,if_true]
   by_cases h:i<0
   .simp only[h,if_true]<;>omega
   .simp only[h,if_false]<;>omega
 .cases b with
  |none=>simp[sliceBounds,HT.Xo]
  |some i=>
   simp only[sliceBounds,HT.Xo,Option.getD_none,show (1:Int)>0 by decide,if_true]
   by_cases h:i<0
   .simp only[h,if_true]<;>omega
   .simp only[h,if_false]<;>omega
def yJ(its:List Value)(a b:Option Int):slicePick its.toArray a b none=((its.drop (HT.Xo its.length 0 a)).take (HT.Xo its.length its.length b-HT.Xo its.length 0 a)).toArray:=by
 obtain⟨e,d,c⟩:=B9 a b its.toArray.size;unfold slicePick;rw[e,d,c];simp only[sliceRange_one,pick_run,List.size_toArray]<;>rfl
def QM(K:W.Frag):V->Option Int->Option Int->Hp->VK->Prop:=λx c d H Q=>∃a b,x=.ref a/\Zo K H a b/\∀p,H p=none->Q (.ref p) (upd H p (.lst (rO b c d)))
def Yp:Xh X (QM X.K):=by
 intro u s U H x v y w e f z Q I i p k j h;obtain⟨a,c,rfl,n,q⟩:=h;cases i;obtain⟨l,r,g,m⟩:=I.list n;have d:=r.length
 refine⟨"list",_,slot_list_getitem.lookup,g.isList.typeIs,?_⟩;refine wpAny_getItem_list_slice g.isList p k j .none (by simp) ?_ (by grind)
 rw[yJ,<-d];refine⟨.ref s.heap.objs.size,_,I.laid   (λb A q=>Af _ q) (Ah _) ?_,rfl,q _ (I.Z4.fresh (Ah _))⟩;exact⟨Bo (M9 c e f) m,_,0,(r.drop _).take _,Au _ rfl⟩
noncomputable def bY:V->Bool
 |.non=>true
 |.bl _=>true
 |.int _=>true
 |.str _=>true
 |_=>false
noncomputable def XO:V->V->Bool
 |.non,.non=>true
 |.bl a,.bl b=>a==b
 |.bl a,.int b=>(if a then 1 else 0)==b
 |.int a,.bl b=>a==(if b then 1 else 0)
 |.int a,.int b=>a==b
 |.str a,.str b=>a==b
 |_,_=>false
def oV{s:Shared}{y:V}{u v:Value}(e:RelV y u)(c:RelV x v)(g:bY y=true)(f:bY x=true):SeqAt.EqAt A s u v (XO y x):=by
 cases y with
 |non=>
  cases e;cases x with
  |non=>cases c;exact SeqAt.EqAt.same _
  |bl b=>cases c;exact SeqAt.EqAt.none_bool b
  |int b=>obtain⟨t,rfl⟩:=c;exact SeqAt.EqAt.none_int b t
  |str b=>obtain⟨t,rfl⟩:=c;exact SeqAt.EqAt.none_str b t
  |_=>exact absurd (show false=true from f) Av
 |bl a=>
  cases e;cases x with
  |non=>cases c;exact SeqAt.EqAt.bool_none a
  |bl b=>cases c;exact SeqAt.EqAt.bool_bool a b
  |int b=>obtain⟨t,rfl⟩:=c;exact SeqAt.EqAt.bool_int a b t
  |str b=>obtain⟨t,rfl⟩:=c;exact SeqAt.EqAt.bool_str a b t
  |_=>exact absurd (show false=true from f) Av
 |int a=>
  obtain⟨d,rfl⟩:=e;cases x with
  |non=>cases c;exact SeqAt.EqAt.int_none a d
  |bl b=>cases c;exact SeqAt.EqAt.int_bool a d b
  |int b=>obtain⟨t,rfl⟩:=c;exact SeqAt.EqAt.int_int a d b t
  |str b=>obtain⟨t,rfl⟩:=c;exact SeqAt.EqAt.int_str a d b t
  |_=>exact absurd (show false=true from f) Av
 |str a=>
  obtain⟨d,rfl⟩:=e;cases x with
  |non=>cases c;exact SeqAt.EqAt.str_none a d
  |bl b=>cases c;exact SeqAt.EqAt.str_bool a d b
  |int b=>obtain⟨t,rfl⟩:=c;exact SeqAt.EqAt.str_int a d b t
  |str b=>obtain⟨t,rfl⟩:=c;exact SeqAt.EqAt.str_str a d b t
  |_=>exact absurd (show false=true from f) Av
 |_=>exact absurd (show false=true from g) Av
noncomputable def V5(x:V)(u:Value):Bool:=match u with
 |.none=>XO .non x
 |.bool b=>XO (.bl b) x
 |.int i _=>XO (.int i) x
 |.str z _=>XO (.str z) x
 |_=>false
def Oy(r:RelV y u)(f:bY y=true):V5 x u=XO y x:=by
 cases y with
 |non=>cases r;rfl
 |bl b=>cases r;rfl
 |int i=>obtain⟨t,rfl⟩:=r;rfl
 |str z=>obtain⟨t,rfl⟩:=r;rfl
 |_=>exact absurd (show false=true from f) Av
theorem pZ:∀ {a:List V} {b:List Value},Vals a b->a.all bY=true->b.any (V5 x)=a.any λy=>XO y x
 |_,_,.nil,_=>rfl
 |y::a,u::b,.cons r t,f=>by
  rw[List.all_cons,Ez]at f;rw[Jk,Jk,Oy r f.1,pZ t f.2]
theorem mX{v:Value}(d:RelV x v)(e:bY x=true):∀ {b:List V} {c:List Value},Vals b c->b.all bY=true->∀u∈c,SeqAt.EqAt A s u v (V5 x u)
 |_,_,.nil,_=>λu a=>by cases a
 |y::b,u::c,.cons r t,f=>λg a=>by
  rw[List.all_cons,Ez]at f;rcases Bb.mp a with rfl|a
  .rw[Oy r f.1];exact oV r d f.1 e
  .exact mX d e t f.2 g a
noncomputable def XM(x:V)(xs:List V):Bool:=xs.any λy=>XO y x
def SF(K:W.Frag)(neg:Bool):R2:=λx y H Q=>∃p a,y=.ref p/\(Zo K H p a\/YF K H p a)/\bY x=true/\a.all bY=true/\Q (.bl (if neg then !XM x a else XM x a)) H
def Xv:ZN X (compareOp .In) (SF X.K false):=by
 intro k s U H x y v u Q I f i h;obtain⟨p,l,rfl,b,g,c,q⟩:=h;cases i;rcases b with b|b
 .obtain⟨a,r,d,j⟩:=I.list b;refine SeqAt.in_listAt _ d.isList (λw e=>mX f g r c w (by simp_all)) ⟨.bl _,H,I,rfl,?_⟩
  rwa[show a.toArray.any _=a.any (V5 x) by simp,pZ r c]
 .obtain⟨a,r,d,j⟩:=I.tuple b;refine SeqAt.in_tupleAt _ d (λw e=>mX f g r c w (by simpa using e)) ⟨.bl _,H,I,rfl,?_⟩
  rwa[show a.toArray.any _=a.any (V5 x) by simp,pZ r c]
def Yr:ZN X (compareOp .NotIn) (SF X.K true):=by
 intro k s U H x y v u Q I f i h;obtain⟨p,l,rfl,b,g,c,q⟩:=h;cases i;rcases b with b|b
 .obtain⟨a,r,d,j⟩:=I.list b;refine SeqAt.notIn_listAt _ d.isList (λw e=>mX f g r c w (by simp_all)) ⟨.bl _,H,I,rfl,?_⟩
  rwa[show a.toArray.any _=a.any (V5 x) by simp,pZ r c]
 .obtain⟨a,r,d,j⟩:=I.tuple b;refine SeqAt.notIn_tupleAt _ d (λw e=>mX f g r c w (by simpa using e)) ⟨.bl _,H,I,rfl,?_⟩
  rwa[show a.toArray.any _=a.any (V5 x) by simp,pZ r c]
def Mr:ZW X (.builtin "len") (λg H Q=>∃p b,g=[.ref p]/\(Zo X.K H p b\/YF X.K H p b)/\Q (.int b.length) H):=by
 intro k s U H g l Q I r h;obtain⟨p,b,rfl,c,q⟩:=h;obtain⟨u,rfl,i⟩:=dI r;cases i;have m:=pQ
 rcases c with c|c
 .obtain⟨f,d,e,j⟩:=I.list c;have a:=d.length
  exact Calls.call_len_list e.isList (by simp only[List.size_toArray]<;>omega) ⟨.int b.length,H,I.tok _,⟨s.toks+1,by rw[List.size_toArray,a]⟩,q⟩
 .obtain⟨f,d,e,j⟩:=I.tuple c;have a:=d.length
  exact len_tuple e (by simp only[List.size_toArray]<;>omega) ⟨.int b.length,H,I.tok _,⟨s.toks+1,by rw[List.size_toArray,a]⟩,q⟩
def ZW.or(h:ZW X f r)(h':ZW X f e):ZW X f (λa H Q=>r a H Q\/e a H Q):=by
 intro b s U H a c Q I d q;rcases q with q|q
 .exact h b s U H a c Q I d q
 .exact h' b s U H a c Q I d q
def Yt:ZW X (.type "list") (λC H Q=>∃p f,C=[.ref p]/\(Zo X.K H p f\/YF X.K H p f)/\∀l,H l=none->Q (.ref l) (upd H l (.lst f))):=by
 intro E s U H C G Q I r h;obtain ⟨p,f,rfl,m,q⟩:=h;obtain ⟨u,rfl,F⟩:=dI r;cases F;have x:∀ a,Vals f a->f.length<=sizeLine->∀ d i,(∀ b D,s.heap.get? b=some D->d.get? b=some D)->
     d.get? s.heap.objs.size=some {cls:=.type "list",dict:=none,data:=.seq a.toArray i,slots:=#[]}->EP X E U Q (.ref s.heap.objs.size) {s with heap:=d}:=λa g k d i j e=>
  ⟨.ref s.heap.objs.size,_,I.laid (t':=s.toks) j (Ah _) (show ZX X.prog X.w _ d _ (.lst f) from⟨k,a,i,g,e⟩),rfl,q _ (I.Z4.fresh (Ah _))⟩
 rcases m with m|m
 .obtain⟨a,g,y,k⟩:=I.list m;have v:=g.length
  obtain⟨o,z,B,n,A⟩:=y.isList;exact call_list_seq p (.inl rfl) z B A (λd i j e=>x a g k d i j e) (by simp_all)
 .obtain⟨a,g,y,k⟩:=I.tuple m;have v:=g.length
  obtain⟨o,z,B,n,A⟩:=y;exact call_list_seq p (.inr rfl) z B A (λd i j e=>x a g k d i j e) (by simp only[List.size_toArray]<;>omega)
def Pm(K:W.Frag)(T:String)(x:V)(H:Hp):Prop:=match x with
 |.str _=>T="str"
 |.int _=>T="int"
 | .ref p=>(T="list"/\∃ b,Zo K H p b)\/(T="tuple"/\∃ o,K.lookup p=some o/\o.cls=.type "tuple"/\o.dict=none)\/
     (T="dict"/\((∃a,H p=some (.dK a))\/∃a,H p=some (.dT a)))\/(T="set"/\∃S n,H p=some (.set S n))
 |_=>False
def E2{v:Value}(I:Inv X y3 U H s)(r:RelV x v)(f:Pm X.K T x H):s.TypeIs v T/\∀a,v=.ref a->∃l,s.heap.get? a=some l/\l.dict=none:=by
 cases x with
 |str z=>
  obtain⟨t,rfl⟩:=r;cases (show T="str" from f);exact⟨typeIs_str s z t,λ_ e=>nomatch e⟩
 |int i=>
  obtain⟨t,rfl⟩:=r;cases (show T="int" from f);exact⟨typeIs_int s i t,λ_ e=>nomatch e⟩
 |ref p=>
  cases r;rcases f with⟨rfl,w,q⟩|⟨rfl,o,b,u,h⟩|⟨rfl,b⟩|⟨rfl,S,n,b⟩
  .obtain⟨m,_,k,_⟩:=I.list q;refine⟨k.isList.typeIs,λa e=>?_⟩;cases e;obtain⟨o,n,e,c,h,_⟩:=k;exact⟨o,e,h⟩
  .refine⟨⟨o,I.ZK p o b,u⟩,λa e=>?_⟩;cases e;exact⟨o,I.ZK _ o b,h⟩
  .have z:∃ o,s.heap.get? p=some o/\o.ExactDict:=by
    rcases b with⟨g,b⟩|⟨g,b⟩
    .obtain⟨_,_,_,_,o,_,_,e,d,_⟩:=I.Z4 p _ b;exact⟨o,e,d⟩
    .obtain⟨_,_,_,_,o,_,_,e,d,_⟩:=I.Z4 p _ b;exact⟨o,e,d⟩
   obtain⟨o,e,d⟩:=z;refine⟨⟨o,e,d.1⟩,λa j=>?_⟩;cases j;exact⟨o,e,d.2.1⟩
  .obtain⟨o,_,_,_,e,d,_⟩:=I.Z4 p _ b;refine⟨⟨o,e,d.1⟩,λa j=>?_⟩;cases j;exact⟨o,e,d.2.1⟩
 |_=>exact False.elim f
variable {o e:Expr} {t:TA} {T:String} {r:V->List V->Hp->VK->Prop}
end
def Pk(X:Cx)(id:String)(r:V->List V->Hp->VK->Prop):Prop:=
 ∀(a:Q3) s (U:St) H x b v c Q,Inv X a U H s->RelV x v->Vals b c->r x b H Q->
  wpAny (model X.prog X.w) X.A (call (.builtin id) (v::c)) (EP X a U Q) X.xe s
def Vals.one{x:V}{a:List Value}(h:Vals [x] a):∃u,a=[u]/\RelV x u:=by cases h with|cons r t=>cases t;exact⟨_,rfl,r⟩
def Vals.two{x y:V}{a:List Value}(h:Vals [x,y] a):∃u v,a=[u,v]/\RelV x u/\RelV y v:=by cases h with|cons r t=>obtain⟨v,rfl,q⟩:=Vals.one t;exact⟨_,_,rfl,r,q⟩
theorem Vals.rep(h:Vals xs us):∀k,Vals (List.replicate k xs).flatten (List.replicate k us).flatten
 |0=>.nil
 |k+1=>by
  exact Vals.append h (Vals.rep h k)
theorem zK(its:List Value):∀k a,
 List.foldl (λc b=>c++b) a.toArray (List.replicate k its.toArray)=(a++(List.replicate k its).flatten).toArray
 |0,a=>by simp
 |k+1,a=>by
  have e:a.toArray++its.toArray=(a++its).toArray:=by simp
  have d:(a++its)++(List.replicate k its).flatten=a++(List.replicate (k+1) its).flatten:=by
   rw[Fe,Ea,Gi]
  rw[<-d,<-zK its k _,<-e,Fe,List.foldl_cons]
section
variable {l:Addr} {ys:List V}
def Inv.VC{f:Array Value->Array Value}{t':Nat}(I:Inv X y3 U H s)(g:H l=some (.lst xs))(e:s.heap.get? l=some {cls:=.type "list",data:=.seq its.toArray n})(c:f its.toArray=its'.toArray)(a:Vals ys its')(hz:ys.length<=sizeLine):Inv X y3 U (upd H l (.lst ys)) {s with heap:=s.heap.update l (Obj.mapSeq f),toks:=t'}:=by
 have q:=PySem.IsL.update e f
 rw[c]at q;refine I.write   (by rw[g];exact trivial) (.inl rfl) (λh u d b=>(Ck s.heap _ (Ne.symm d)).trans b) ⟨_,q⟩ ?_
 exact⟨hz,its',_,a,q⟩
def Inv.WS{its:List Value}{t':Nat}(I:Inv X y3 U H s)(a:Vals ys its)(hz:ys.length<=sizeLine):Inv X y3 U (upd H s.heap.objs.size (.lst ys)) {s with heap:=s.heap.push {cls:=.type "list",data:=.seq its.toArray},toks:=t'}:=
 I.laid (λ_ _ q=>Af _ q) (Ah _) ⟨hz,its,0,a,Au _ rfl⟩
def Inv.fresh(I:Inv X y3 U H s):H s.heap.objs.size=none:=I.Z4.fresh (Ah _)
def Inv.XC(I:Inv X y3 U H s)(b:H l=some (.lst xs)):xs.length<=sizeLine/\∃a n,Vals xs a/\xs.length=a.length/\s.heap.get? l=some {cls:=.type "list",data:=.seq a.toArray n}:=by
 obtain⟨z,a,n,r,e⟩:=I.Z4 l _ b;exact⟨z,a,n,r,r.length,e⟩
def O2(h:n<=sizeLine):Builtin.List.listTooLong n=false:=by
 unfold Builtin.List.listTooLong;grind
end
def MC:V->List V->Hp->VK->Prop:=λx b H Q=>∃l a y,x=.ref l/\b=[y]/\H l=some (.lst a)/\a.length<sizeLine/\Q .non (upd H l (.lst (a++[y])))
def sJ:Pk X "list.append" MC:=by
 intro g s U H x j v k Q I c d h;obtain⟨l,i,y,rfl,rfl,b,m,q⟩:=h;cases c;obtain⟨u,rfl,f⟩:=d.one;obtain⟨z,a,n,r,o,e⟩:=I.XC b;refine call_meets F.slot_list_append ⟨_,e,rfl⟩ F.entry_list_append (F.args_list_append_2 _ _) (PySem.list_append l a.toArray n u (by grind)) ⟨e,?_⟩
 refine⟨.non,_,I.VC  b e (by simp) (r.append (.cons f .nil)) ?_,rfl,q⟩
 grind
def G0:V->List V->Hp->VK->Prop:=λx d H Q=>∃l b c a,x=.ref l/\d=[.ref b]/\H l=some (.lst c)/\H b=some (.lst a)/\c.length+a.length<=sizeLine/\Q .non (upd H l (.lst (c++a)))
def LV:Pk X "list.extend" G0:=by
 intro B s U H x D v E Q I i j h;obtain⟨l,b,C,y,rfl,rfl,g,t,G,q⟩:=h;cases i;obtain⟨u,rfl,k⟩:=j.one;cases k;obtain⟨z,c,n,r,J,e⟩:=I.XC g;obtain⟨A,a,o,m,p,w⟩:=I.XC t;have f:c.toArray.size+a.toArray.size<=sizeLine:=by grind
 have d:¬(!c.toArray.isEmpty&&Builtin.List.listTooLong (c.toArray.size+a.toArray.size))=true:=by
  rw[O2 f,Iz];exact Av
 refine call_meets F.slot_list_extend ⟨_,e,rfl⟩ F.entry_list_extend (F.args_list_extend_2 _ _)
  (AutoSeq1.list_extend_list_list_0 l c.toArray n b a.toArray o d (by grind) (by omega)) ⟨e,w,?_⟩
 refine⟨.non,_,I.VC (its':=c++a) g e (by simp) (r.append m) ?_,rfl,q⟩
 rw[Ak];omega
def GN:R2:=λx y H Q=>∃l b c a,x=.ref l/\y=.ref b/\H l=some (.lst c)/\H b=some (.lst a)/\c.length+a.length<=sizeLine/\∀p,H p=none->Q (.ref p) (upd H p (.lst (c++a)))
def L6:ZN X (binaryOp .Add) GN:=by
 intro A s U H x y v u Q I f d h;obtain⟨l,b,B,p,rfl,rfl,j,k,D,q⟩:=h;cases f;cases d;obtain⟨z,c,n,r,E,e⟩:=I.XC j;obtain⟨w,a,C,g,i,o⟩:=I.XC k;refine PySem.P.add_list e o ?_ (by simp_all)
 have m:c.toArray++a.toArray=(c++a).toArray:=by simp
 rw[m];exact⟨.ref _,_,I.WS  (r.append g) (by rw[Ak];omega),rfl,q _ I.fresh⟩
def E5:R2:=λx y H Q=>∃l k a,x=.ref l/\y=.int k/\H l=some (.lst a)/\-(2^63)<=k/\k<2^63/\a.length*k.toNat<=sizeLine/\
 ∀p,H p=none->Q (.ref p) (upd H p (.lst (List.replicate k.toNat a).flatten))
def BL(xs:List α)(k:Nat):(List.replicate k xs).flatten.length=k*xs.length:=by simp_all
def Qk:ZN X (binaryOp .Mult) E5:=by
 intro K s U H x y v u Q I B A h;obtain⟨l,k,L,rfl,rfl,D,G,E,p,q⟩:=h;cases B;obtain⟨t,rfl⟩:=A;obtain⟨z,b,n,r,C,e⟩:=I.XC D;have f:b.toArray.size*k.toNat<=sizeLine:=by rw[Bj,<-C];exact p
 have i:¬b.toArray.size*k.toNat>(2^63-1) / 8:=by
  have:(sizeLine:Nat)<=(2^63-1) / 8:=by decide
  omega
 have g:¬(!Builtin.List.listFitsIndex k)=true:=by
  rw[fitsIndex_both G E];exact Av
 have c:¬Builtin.List.listTooLong (b.toArray.size*k.toNat)=true:=by
  rw[O2 f];exact Av
 have d:List.foldl (λo j=>o++j) #[] (List.replicate (if b.toArray.isEmpty=true then 0 else k.toNat) b.toArray)=(List.replicate k.toNat b).flatten.toArray:=by
  have J:=λm=>by
   have:=zK b m []
   rw[List.nil_append]at this;exact this
  rw[J];cases b with
  |nil=>simp
  |cons a M=>rw[if_neg (by simp)]
 refine wpAny_binaryOp_repeat_ref (T := "list") (U := "int") (by decide) ⟨_,e,rfl⟩ (λw=>typeIs_int w k t) noFill_list_mul F.fills_int_mul F.slot_int_rmul repeat_list F.slot_int_index.lookup
  (call_meets F.slot_int_rmul (typeIs_int s k t) F.entry_int_rmul (F.args_int_rmul_2 _ _) (int___rmul___int_list k t l b.toArray n)
   ⟨e,rfl,⟨_,e,rfl⟩,call_meets F.slot_list_mul ⟨_,e,rfl⟩ F.entry_list_mul (F.args_list_mul_2 _ _) (AutoListH.list___mul___list_int_3 l b.toArray n k t g i c) ⟨e,?_⟩⟩)
 rw[d];exact⟨.ref _,_,I.WS (t':=s.toks) (r.rep k.toNat) (by rw[BL,Nat.mul_comm];exact p),rfl,q _ I.fresh⟩
end L2
namespace Att
open PySem PySem.W PySem.Calls PyProof.Rows
def tU:∀c d,WellAll P h d (c.map WData.int)->IntsAre d c:=by
 intro c;induction c with
 |nil=>
  intro d w;cases w;exact .nil
 |cons n c e=>
  intro d w;cases w with
  |cons a b=>
   cases a;exact .cons _ _ (e _ b)
def HQ{l:OpenLaw}{n:Nat}(w:l.most=some n){P:Params}{h:Heap}{args:List WData}{c:List Value}(e:l.row.toRowW.claim.pre args=true)(k:WellAll P h c args):∃a o b,c=[Value.ref a]/\args=[WData.list (b.map WData.int)]/\h.get? a=some {cls:=.type "list",data:=.seq o.toArray}/\IntsAre o b/\b.length<=n:=by
 have m:=(pre_splitW e).1
 have p:l.pre.holds [] {args:=args}=true:=(pre_splitW e).2
 obtain⟨d,r,rfl,z,y⟩:=hasAllW_cons m;obtain rfl:=hasAllW_nil y;obtain⟨A,rfl,x⟩:=hasW_list z;obtain⟨b,rfl⟩:=items_int x;have f:b.length<=n:=by
  unfold OpenLaw.pre at p;have j:(WTm.not (.lt (.lit (.int (n:Int))) (.len (.arg 0)))).holds [] {args:=[.list (b.map .int)]}=true:=by
   have j:=(holds_andW p).1
   rw[w]at j;exact j
  have i:=condW_of j (w_not (w_lt w_lit (w_len_list (w_arg rfl))))
  grind
 cases k with
 |cons t s=>
  cases s;cases t with
  |list v g=>exact⟨_,_,b,rfl,rfl,v,tU b _ g,f⟩
def Mt(l:OpenLaw)(args:List WData):l.row.toRowW.claim.post args (.bool true) args=true:=
 postW_of  
  (show WShape.has [] _ .bool=true by first|rfl|decide|simp)
  (show (WTm.eq .res _).value [] {args:=args,res:=some _,after:=args}=some _ from w_eq_bool (w_res rfl) w_lit) rfl
def Yc{l:OpenLaw}{n:Nat}{q:Program}{e:List Str}{L:(Q5)->Heap->Prop}{K:World->Heap->Prop}{d:DefRec}(Q:l.most=some n)(D:d.params.defaults=[])(t:∀w c b (x A:Q5) p o z y h a i v,
 Ground q e [] L w c x A b.heap->K w b.heap->
 b.heap.get? p=some o->o.data=.func (docDef d.name d.params d.body d.scope z y h)->b.heap.CodeRec y d.name->x d.name=some (.ref p)->
 b.heap.get? a=some {cls:=.type "list",data:=.seq i.toArray}->IntsAre i v->v.length<=n->b.gens=#[]->
 codeAny (model l.prog w) callerA (.call (.ref p) ⟨[.ref a],[]⟩) (λr u=>r=.ok (.ret (.bool true))/\OldK b.heap u.heap/\u.os=b.os/\AllBare u.gens) b):WalkO q e L K l.row.toRowW d [] (λf i=>PySem.call f i):=by
 intro w c b x A G Y p o z y h Z M P U E I C T J F as j H N B S;obtain rfl:Z=.none:=Dflts.none I D;obtain rfl:M=.none:=Dflts.noKw I;obtain⟨a,i,v,rfl,rfl,k,g,m⟩:=HQ Q j B;refine enter_call (Dy (t w c b x A p o z y h a i v G Y P (fd_plain U) E C k g m T) λr u O=>?_);obtain⟨rfl,X,W,V⟩:=O;exact⟨.inl ⟨.bool true,.bool true,[],rfl,λ_=>rfl,.bool true,Mt l _,λ_=>⟨List.Pairwise.nil,λ_ R=>(nomatch R)⟩⟩,X,W,V⟩
end Att
namespace L2
open PySem PySem.Spec PyProof.Rows
variable {x:Str}
theorem zW:∀ {a:List Value} {b:List Int},IntsAre a b->Vals (b.map V.int) a
 |_,_,.nil=>.nil
 |_,_,.cons n t h=>.cons ⟨t,rfl⟩ (zW h)
noncomputable def jZ(s:Stmt):Arguments:=match s with
 |.FunctionDef _ a _ _ _ _ _ _ _ _=>a
 |_=>{posonlyargs:=[],args:=[],vararg:=none,kwonlyargs:=[],kw_defaults:=[],kwarg:=none,defaults:=[]}
noncomputable def fR(s:Stmt):List Stmt:=match s with
 |.FunctionDef _ _ b _ _ _ _ _ _ _=>b
 |_=>[]
noncomputable def aK(s:Stmt):Scope:=match s with
 |.FunctionDef _ _ _ _ _ _ a _ _ _=>a
 |_=>{kind:=.function,names:=[],isGenerator:=false,isCoroutine:=false}
abbrev ZP:XX:=λ_ _ _ _ _ _=>False
abbrev E0:XK:=λ_ _ _=>False
def Ui:iD ZP X E0:=λ_ _ _ _ _ _ _ h=>h.elim
structure ZR (K:W.Frag) (x qual:Str) (st:Stmt) (f:Addr) (fd:FuncData):Prop where
 ex:∃(oc:Value) (od:Option Addr) (kV doc pm:Value) (an:Option Addr) (cdv ct:Value) (osl:Array (Option Value)),
  fd=W.fnOf x qual (jZ st) (fR st) (aK st) .none kV doc pm an cdv ct/\K.lookup f=some ⟨oc,od,.func fd,osl⟩/\W.codeIn K cdv qual=true
 kp:W.keepIn K (.ref f)=true
section
variable {P:Program} {w:World} {K:W.Frag} {mg:Q5} {base:Heap}
def ZR.ok{st:Stmt}{f:Addr}{l:FuncData}{N ps:List Str}{k:Nat}{sp:Sp}(F:ZR K x b st f l)(S:Z9 N ps (aK st))(g:∀d H Q E,sp d H Q E->d.length=ps.length)(e:∀c A a s H d Q E,Z7 k (A.deeper (envOfC b (aK st) s.heap.objs.size f c))->sp d H Q E->
 ∃t,YL (fL ZP P w K mg base N b (aK st) f c A a s H E).WA (fR st) t/\t {nx:=λ_ r=>Q .non r,rt:=Q} (jH N d) H):Z6 P w K mg base ZP (k+1) f l ps sp:=by
 obtain⟨y,v,z,p,u,C,c,B,m,rfl,n,j⟩:=F.ex;refine Qi n j S g λA a s H d Q E o i=>?_;obtain⟨t,h,q⟩:=e c A a s H d Q E o i;exact⟨t,h.WA,q⟩
def ZR.binds{st:Stmt}{f:Addr}{k:FuncData}{ps:List Str}(F:ZR K x a st f k)(h:∀g b e j c i d,d.length=ps.length->bindArgs (W.fnOf x a (jZ st) (fR st) (aK st) .none g b e j c i) ⟨d,[]⟩=pure (ps.zip d)):Binds K k ps []:=by
 obtain⟨o,n,g,b,e,j,c,i,l,rfl,p,m⟩:=F.ex;exact .all (h g b e j c i)
def sL{st:Stmt}{f:Addr}{n:Value}{m j:Option Addr}{e:Array (Option Value)}{h d g b i:Value}(l:K.lookup f=some ⟨n,m,.func (W.fnOf x a (jZ st) (fR st) (aK st) .none h d g j b i),e⟩)(c:W.codeIn K b a=true)(k:W.keepIn K (.ref f)=true):ZR K x a st f (W.fnOf x a (jZ st) (fR st) (aK st) .none h d g j b i):=⟨⟨n,m,h,d,g,j,b,i,e,rfl,l,c⟩,k⟩
end
section
variable {X:Cx}
def pv(i:Nat){a:Pos}(e:X.N[i]?=some x:=by rfl)(c:Vd X.env.scope x:=by first|exact Or.inl rfl|exact Or.inr (Or.inl rfl)|exact Or.inr (Or.inr rfl))(d:(x==("__debug__" : Str))=false:=by decide)(b:(x==("__classdict__" : Str))=false:=by decide):PE X (.Name x a) (NN i):=IP e c d b
end
def KY{A B:Prop}(h:B):if false=true then A else B:=by grind
def LA{A B:Prop}(h:A):if true=true then A else B:=by grind
def fF{c A B:Prop}[Decidable c](h1:c->A)(a:¬c->B):if c then A else B:=by grind
def Z_(H a:Hp):Prop:=∀b o,H b=some o->a b=some o
def Z_.refl(H:Hp):Z_ H H:=λ_ _ h=>h
def Z_.trans(a:Z_ H e)(b:Z_ e d):Z_ H d:=λc o h=>b c o (a c o h)
def Z_.seq{K:W.Frag}{H b:Hp}{a:Addr}{xs:List V}(e:Z_ H b)(h:Zo K H a xs):Zo K b a xs:=by
 rcases h with(h|⟨o,h⟩)|h
 .exact .inl (.inl (e _ _ h))
 .exact .inl (.inr ⟨o,e _ _ h⟩)
 .exact .inr h
end L2
namespace FlT
open PySem PySem.Spec PyProof.Rows
theorem Pe:∀(b:List Str) a,(b.foldl (λa p=>a++(#[]:Array Nat)++p.cps) a).toList=a.toList++(b.map λy=>y.cps.toList).flatten
 |[],a=>by simp
 |y::r,a=>by
  rw[List.foldl_cons,Pe r];simp
def W5(ys:List Str):(Txt.join ⟨#[]⟩ ys).cps.toList=(ys.map λy=>y.cps.toList).flatten:=by
 cases ys with
 |nil=>rfl
 |cons y r=>
  have e:=Pe r y.cps
  rw[Ax,Ea,<-e];rfl
def WW(x y:Str):(x++y).cps.toList=x.cps.toList++y.cps.toList:=by
 show (x.cps++y.cps).toList=_
 simp
def WR{x y:Str}(h:x.cps.toList=y.cps.toList):x=y:=by
 obtain⟨⟨x⟩⟩:=x;simp_all
end FlT
namespace L2
open PySem PySem.Spec PyProof.Rows
variable {A:Around}{C S a b dx ea f it l q:Addr}{CX:XX}{D:Ends}{E:Q2}{Es:St->XK}{H H' H1 H2 Hc Hs:Hp}{J:It}{K:W.Frag}{M:Model}{N ps:List Str}{P prog:Program}{Q:VK}{R:It->Hp->Prop}{T newId:String}{X:Cx}{apos cpos np pos py tp:Pos}{base h h':Heap}{bmB us vs:List Value}{body suite:List Stmt}{cd u:Value}{cl:List (Str×Addr)}{d:Option Addr}{e elt iter tg:Expr}{elts es ifs:List Expr}{env:Env}{ep i j k' mask n wanted x1:Nat}{fd:FuncData}{fp rs:List Addr}{fs:List (List V)}{g:TG}{hs:Array Int}{items:Array Value}{ks:List Nat}{kvs:List (Key×V)}{lo:Int}{mg:Q5}{mk:(Value->Option Addr->St->Hp->Prop)->TS}{name qual x z:Str}{neg:Bool}{ns:List Int}{o oe:Obj}{order:Array Nat}{outer:List Env}{owner:Array (Option Nat)}{y3 pn:Q3}{pl:Sem Bool}{r:V->List V->Hp->VK->Prop}{s s1:Shared}{scope:Scope}{sp:Sp}{st:Stmt}{ta tk:TA}{tb ts:TS}{te tl to tv:TE}{tests:TT}{v y:V}{vals:St->St}{w w0:World}{ws:List (Nat×Nat)}{xs ys:List V}{α:Type}{U U0:St}
def PE.imp(h:PE X e t)(i:∀U H Q,t' U H Q->t U H Q):PE X e t':=λa s U H Q I q=>h a s U H Q I (i U H Q q)
def ZN.imp{f:Value->Value->Sem Value}{r a:R2}(h:ZN X f r)(i:∀x y H Q,a x y H Q->r x y H Q):ZN X f a:=λb s U H x y v u Q I d c q=>h b s U H x y v u Q I d c (i x y H Q q)
def ZW.imp{f:Value}{r b:List V->Hp->VK->Prop}(h:ZW X f r)(i:∀a H Q,b a H Q->r a H Q):ZW X f b:=λc s U H a d Q I e q=>h c s U H a d Q I e (i a H Q q)
def X3.imp{id:String}{r b:V->List V->Hp->VK->Prop}(h:X3 X id r)(i:∀x a H Q,b x a H Q->r x a H Q):X3 X id b:=λc s U H x a v d Q I e f q=>h c s U H x a v d Q I e f (i x a H Q q)
def Xy.imp{r c:R2}(h:Xy X r)(i:∀x y H Q,c x y H Q->r x y H Q):Xy X c:=λa b d s U H x y v u Q I f e q g=>h a b d s U H x y v u Q I f e (i x y H Q q) g
def Xh.imp{r c:V->Option Int->Option Int->Hp->VK->Prop}(h:Xh X r)(i:∀x a b H Q,c x a b H Q->r x a b H Q):Xh X c:=λd s U H x v f e a b g Q I j m l k q=>h d s U H x v f e a b g Q I j m l k (i x a b H Q q)
noncomputable def W0(z:Str):It:=⟨λi _=>i<z.cps.size,λi H x a=>a=H/\∃c,z.cps[i]?=some c/\x=.str ⟨#[c]⟩,λi _=>z.cps.size<=i⟩
def DP(z:Str)(t:Tok)(f:Addr):Turn P w K tg (W0 z) [f] f (λi h=>h.IsStrIter f "str_ascii_iterator" z t i) where
 mem:=by simp
 obj:=λi h a b g=>by
  have e:b=f:=by simpa using g
  subst e;obtain⟨o,e,c,d⟩:=a;exact⟨o,e,λv z=>by rw[d]at z;cases z⟩
 keep:=λi h n a k=>let ⟨o,L,r⟩:=a;⟨o,k f (by simp) o L,r⟩
 item:=by
  intro X u p x G i F s U H E I m a q;subst u p x;obtain⟨D,C,M,B,A,y⟩:=m f (by simp)
  have l:i<z.cps.size:=q
  refine wpAny_pyNext_ascii_item a (c:=z.cps[i]) (by simp[l]) λn j J=>?_
  have O:Inv X F U H {s with heap:=n,toks:=s.toks+1}:=I.turned (λb o g e=>(J.2 b g).trans e) D C B A y
  obtain⟨o,e,c,d⟩:=id j;exact⟨_,rfl,tF (s:={s with heap:=n,toks:=s.toks+1}) e c d (by decide) ⟨.str ⟨#[z.cps[i]]⟩,H,O,⟨_,rfl⟩,⟨rfl,_,by simp[l],rfl⟩,j,λb g=>(m b g).1⟩⟩
 done:=by
  intro X u p x G i F s U H E I m a q;subst u p x;obtain⟨D,C,M,B,A,y⟩:=m f (by simp)
  have l:z.cps.size<=i:=q
  exact wpAny_pyNext_ascii_end (I.ok.hd G) a (by simp[l]) λn N=>⟨rfl,I.turned (t':=s.toks) (λb o g e=>N b o g e) D C B A y⟩
 self:=λ_ _ _ _ _ a h=>wpAny_pyIter_striter_ascii a h
def HA(z:Str)(t:Tok)(f:Addr):Turn P w K tg (W0 z) [f] f (λi h=>h.IsStrIter f "str_iterator" z t i) where
 mem:=by simp
 obj:=λi h a b g=>by
  have e:b=f:=by simpa using g
  subst e;obtain⟨o,e,c,d⟩:=a;exact⟨o,e,λv z=>by rw[d]at z;cases z⟩
 keep:=λi h n a k=>let ⟨o,L,r⟩:=a;⟨o,k f (by simp) o L,r⟩
 item:=by
  intro X u p x G i F s U H E I m a q;subst u p x;obtain⟨D,C,M,B,A,y⟩:=m f (by simp)
  have l:i<z.cps.size:=q
  refine wpAny_pyNext_wide_item a (c:=z.cps[i]) (by simp[l]) λn j J=>?_
  have O:Inv X F U H {s with heap:=n,toks:=s.toks+1}:=I.turned (λb o g e=>(J.2 b g).trans e) D C B A y
  obtain⟨o,e,c,d⟩:=id j;exact⟨_,rfl,tF (s:={s with heap:=n,toks:=s.toks+1}) e c d (by decide) ⟨.str ⟨#[z.cps[i]]⟩,H,O,⟨_,rfl⟩,⟨rfl,_,by simp[l],rfl⟩,j,λb g=>(m b g).1⟩⟩
 done:=by
  intro X u p x G i F s U H E I m a q;subst u p x;obtain⟨D,C,M,B,A,y⟩:=m f (by simp)
  have l:z.cps.size<=i:=q
  exact wpAny_pyNext_wide_end (I.ok.hd G) a (by simp[l]) λn N=>⟨rfl,I.turned (t':=s.toks) (λb o g e=>N b o g e) D C B A y⟩
 self:=λ_ _ _ _ _ a h=>wpAny_pyIter_striter_wide a h
def I0(a:Nat->St->Hp->Prop)(s:a 0 U H)(hs:∀i c U H,z.cps.toList[i]?=some c->a i U H->g (.str ⟨#[c]⟩) U H λf j=>tb {D with nx:=a (i+1),ct:=a (i+1),bk:=D.nx} f j)(l:∀U H,a z.cps.toList.length U H->D.nx U H):∃W:Nat->Nat->St->Hp->Prop,(∃m,W 0 m U H)/\∀i m U H,W i m U H->
 ((W0 z).stop i H/\D.nx U H)\/((W0 z).go i H/\∃N,(∀h b,N h b->∃k,k < m/\W (i+1) k h b)/\∀x b,(W0 z).WZ i H x b->g x U b λf j=>tb {D with nx:=N,ct:=N,bk:=D.nx} f j):=by
 have q:z.cps.toList.length=z.cps.size:=by simp
 rw[q]at l;refine⟨λi m U H=>m=z.cps.size-i/\i<=z.cps.size/\a i U H,⟨z.cps.size,by simp,Nat.zero_le _,s⟩,?_⟩
 rintro i m U H ⟨rfl,t,p⟩;by_cases d:i<z.cps.size
 .refine .inr ⟨d,a (i+1),λh b n=>⟨z.cps.size-(i+1),by omega,rfl,d,n⟩,λx b y=>?_⟩
  obtain⟨e,c,r,o⟩:=y;simp_all
 .have e:i=z.cps.size:=by omega
  subst e;exact .inl ⟨Ah _,l U H p⟩
section
variable {b:Expr}
def Kb:V->Option Int->Option Int->Hp->VK->Prop:=λx a b H Q=>∃z,x=.str z/\z.length<=sizeLine/\Q (.str (Txt.slice z a b)) H
def Mc:Xh X Kb:=by
 intro n s U H x v p o w y r Q I g b m f h;obtain⟨z,rfl,a,q⟩:=h;obtain⟨t,rfl⟩:=g;refine⟨"str",_,PySem.F.slot_str_getitem.lookup,typeIs_str _ _ _,?_⟩;cases m with
 |none=>
  cases f with
  |none=>exact Gu (l:=none) (u:=none) (st:=none) b rfl (post_val_or_str ⟨Bo (Txt.slice_le z _ _) a,λd k=>⟨.str _,H,I.tok _,⟨_,rfl⟩,q⟩⟩)
  |int j c=>exact Gu (l:=none) (u:=some (j,c)) (st:=none) b rfl (post_val_or_str ⟨Bo (Txt.slice_le z _ _) a,λd k=>⟨.str _,H,I.tok _,⟨_,rfl⟩,q⟩⟩)
 |int i e=>
  cases f with
  |none=>exact Gu (l:=some (i,e)) (u:=none) (st:=none) b rfl (post_val_or_str ⟨Bo (Txt.slice_le z _ _) a,λd k=>⟨.str _,H,I.tok _,⟨_,rfl⟩,q⟩⟩)
  |int j c=>exact Gu (l:=some (i,e)) (u:=some (j,c)) (st:=none) b rfl (post_val_or_str ⟨Bo (Txt.slice_le z _ _) a,λd k=>⟨.str (Txt.slice z (some i) (some j)),H,I.tok _,⟨_,rfl⟩,q⟩⟩)
def Ko:V->List V->Hp->VK->Prop:=λx b H Q=>∃z y i a,x=.str z/\b=[.str y]/\Builtin.Str.occurrences z y 0 z.length 1=i::a/\Q (.int ((i:Nat):Int)) H
def W9:X3 X "str.index" Ko:=by
 intro f s U H x g v j Q I b c h;obtain⟨z,y,i,a,rfl,rfl,e,q⟩:=h;obtain⟨t,rfl⟩:=b;obtain⟨u,rfl,d⟩:=c.one;obtain⟨k,rfl⟩:=d;exact SC.index e ⟨.int i,H,I.tok _,⟨_,rfl⟩,q⟩
def JH{ys:List Str}:∀ {a:List Value},Vals (ys.map V.str) a->StrsAre a ys:=by
 induction ys with
 |nil=>intro a r;cases r;exact .nil
 |cons n f d=>
  intro a r;cases r with
  |cons c b=>
   obtain⟨t,e⟩:=c;subst e;exact .cons n t (d b)
def zb(K:W.Frag):V->List V->Hp->VK->Prop:=λx b H Q=>∃z p a,x=.str z/\b=[.ref p]/\Zo K H p (a.map V.str)/\(a.map (·.length)).sum+a.length*z.length<=16777216/\Q (.str (Txt.join z a)) H
def WV:X3 X "str.join" (zb X.K):=by
 intro j s U H x l v m Q I b c h;obtain⟨z,p,a,rfl,rfl,i,g,q⟩:=h;obtain⟨t,rfl⟩:=b;obtain⟨u,rfl,d⟩:=c.one;cases d;obtain⟨f,r,e,_⟩:=I.list i;exact join_list e.isList (by simpa using JH r) g λn k=>⟨.str _,H,I.tok _,⟨_,rfl⟩,q⟩
def yF:ZW X (.type "int") (λa H Q=>∃x n,a=[.str x]/\PySem.intText? x=some n/\x.length<=640/\Q (.int n) H):=by
 intro d s U H a e Q I r h;obtain⟨x,n,rfl,b,c,q⟩:=h;obtain⟨u,rfl,t,rfl⟩:=dI r;exact W.KIN.call_text b c ⟨.int n,H,I.tok _,⟨_,rfl⟩,q⟩
def Yg:ZW X (.builtin "isinstance") (λa H Q=>∃x T t b,a=[x,.ty T]/\YZ X.K H x t/\W.kitOne X.K t (.type T)=some b/\Q (.bl b) H):=by
 intro i s U H a j Q I r h;obtain⟨x,T,t,b,rfl,d,e,q⟩:=h;obtain⟨u,c,rfl,g,f⟩:=tQ r;cases (show c=Value.type T from f);exact A6 I g d e λk=>⟨.bl b,H,I.tok _,rfl,q⟩
def A4:∀ {a:List Value},Vals (bs.map V.bl) a->LSm.BoolsAre a bs:=by
 induction bs with
 |nil=>intro a r;cases r;exact .nil
 |cons n e d=>
  intro a r;cases r with
  |cons c b=>
   cases c;exact .cons n (d b)
def xL(w:X.calm=true):ZW X (.builtin "all") (λg H Q=>∃(p:Addr) (a:List Bool),g=[.ref p]/\Zo X.K H p (a.map V.bl)/\Q (.bl (a.all id)) H):=by
 intro y s U H g z Q I r h;obtain⟨p,a,rfl,o,q⟩:=h;obtain⟨u,rfl,m⟩:=dI r;cases m;obtain⟨c,l,n,D⟩:=I.list o;have j:=A4 l
 have f:=n.isList
 have d:p<s.heap.objs.size:=by obtain⟨_,e,_⟩:=f;exact Aq e
 refine call_all_walk (Fb f ?_);refine⟨s.heap.objs.size,[s.heap.objs.size,p],[s.heap.objs.size],c.toArray.size,_,_,λi=>(a[i]?).getD true,rfl,Walks.list (A:=X.A.in1) (I.ok.hd w) _ p (Bc d) c.toArray,
  ⟨⟨_,Au _ rfl,rfl,rfl⟩,f.push _⟩,λi v C G J x k=>?_,λF B t=>?_⟩
 .obtain⟨b,e,rfl⟩:=j.get i v (by simpa using x)
  simp only[e,Option.getD_some]at k;exact Gh k
 .have e:((List.range c.toArray.size).all λi=>(a[i]?).getD true)=a.all id:=by
   rw[Bj,j.length];exact LSm.range_all a
  rw[e];exact⟨.bl (a.all id),H,I.kept (LSm.kept_iter t),rfl,q⟩
noncomputable def mC(xs ys:List V):Bool:=xs.length==ys.length&&(List.range xs.length).all λj=>XO (xs.getD j .non) (ys.getD j .non)
def Vals.YY(r:Vals xs us)(h:j<us.length):RelV (xs.getD j .non) us[j]:=by
 have d:=r.length
 have a:j<xs.length:=by omega
 obtain⟨u,b,c⟩:=r.get (Aa a);simp_all
def gW(h:xs.all bY=true)(j:Nat):bY (xs.getD j .non)=true:=by
 rw[Ad];cases e:xs[j]? with
 |none=>rfl
 |some x=>exact Di.mp h x (Ap e)
def Tp(K:W.Frag)(neg:Bool):R2:=λx y H Q=>∃p q b a,x=.ref p/\y=.ref q/\Zo K H p b/\Zo K H q a/\b.all bY=true/\a.all bY=true/\Q (.bl (if neg then !mC b a else mC b a)) H
def Qm(h:xs.length≠ys.length):mC xs ys=false:=by
 unfold mC;rw[Cs.mpr h,Bool.false_and]
def nA(h:xs.length=ys.length):mC xs ys=(List.range xs.length).all λj=>XO (xs.getD j .non) (ys.getD j .non):=by
 unfold mC;simp_all
def zr(o:X.A.units<cLine):ZN X (compareOp .Eq) (Tp X.K false):=by
 intro J s U H x y v u Q I w t h;obtain⟨p,q,c,b,rfl,rfl,B,z,F,E,k⟩:=h;cases w;cases t;obtain⟨d,l,n,_⟩:=I.list B;obtain⟨a,i,m,_⟩:=I.list z;have G:=l.length
 have L:=i.length
 by_cases r:c.length=b.length
 .refine SeqAt.eq_listAt (e:=λj=>XO (c.getD j .non) (b.getD j .non)) n.isList m.isList (by simp only[List.size_toArray];omega) o (λj D C=>?_) ?_
  .have g:j<d.length:=by simpa using D
   have f:j<a.length:=by simpa using C
   simpa using oV (A:=X.A.in1) (s:=s) (l.YY g) (i.YY f) (gW F j) (gW E j)
  .refine⟨.bl (mC c b),H,I,?_,k⟩;rw[nA r];simp only[List.size_toArray,<-G];rfl
 .refine SeqAt.eq_list_lengthsAt n.isList m.isList (by grind) o ⟨.bl (mC c b),H,I,?_,k⟩
  rw[Qm r];rfl
def Ms(o:X.A.units<cLine):ZN X (compareOp .NotEq) (Tp X.K true):=by
 intro L s U H x y v u Q I z t h;obtain⟨p,q,c,b,rfl,rfl,C,B,G,F,k⟩:=h;cases z;cases t;obtain⟨d,l,n,_⟩:=I.list C;obtain⟨a,i,m,_⟩:=I.list B;have J:=l.length
 have M:=i.length
 by_cases r:c.length=b.length
 .refine SeqAt.RcNeAt.lists (e:=λj=>XO (c.getD j .non) (b.getD j .non)) n.isList m.isList (by simp only[List.size_toArray];omega) o (λj E D=>?_) X.prog X.w _ _ ?_
  .have g:j<d.length:=by simpa using E
   have f:j<a.length:=by simpa using D
   simpa using oV (A:=X.A.in1) (s:=s) (l.YY g) (i.YY f) (gW G j) (gW F j)
  .refine⟨.bl (!mC c b),H,I,?_,k⟩;rw[nA r];simp only[List.size_toArray,<-J];rfl
 .refine SeqAt.RcNeAt.lists_lengths n.isList m.isList (by simp only[List.size_toArray,bne_iff_ne];omega) o X.prog X.w _ _ ⟨.bl (!mC c b),H,I,?_,k⟩
  rw[Qm r];rfl
end
noncomputable def NJ:Option HO->Option (List V)
 |some (.lst a)=>some a
 |some (.frz _ (.lst a))=>some a
 |_=>none
noncomputable def Z2(H:Hp)(a:Addr):Option (List V):=NJ (H a)
def bD(h:Z2 H a=some xs):Zo K H a xs:=by
 unfold Z2 NJ at h;split at h
 .cases h;exact .inl (.inl (by omega))
 .cases h;exact .inl (.inr ⟨_,by assumption⟩)
 .cases h
def aP(h:H a=some (.lst xs)):Z2 H a=some xs:=by unfold Z2;rw[h];rfl
def cV:Z2 (upd H a (.lst xs)) a=some xs:=aP aD
def Tg{o:HO}(h:b≠a):Z2 (upd H a o) b=Z2 H b:=by unfold Z2;rw[aI h]
def aM{H:Hp}(e:Z_ H H')(h:Z2 H a=some xs):Z2 H' a=some xs:=by
 unfold Z2 at h ⊢;cases q:H a with
 |none=>rw[q]at h;cases h
 |some o=>rwa[e a o q,<-q]
def aG(h:H p=none)(o:HO):Z_ H (upd H p o):=λb u q=>by rwa[aI (bM q h)]
noncomputable def jE(H:Hp)(a:Addr):Option (List V):=match H a with|some (.lst xs)=>some xs|_=>none
def bP(h:H a=some (.lst xs)):jE H a=some xs:=by unfold jE;rw[h]
def nF(h:jE H a=some xs):H a=some (.lst xs):=by
 unfold jE at h;grind
def rP:jE (upd H a (.lst xs)) a=some xs:=bP aD
def Nb{o:HO}(h:b≠a):jE (upd H a o) b=jE H b:=by unfold jE;rw[aI h]
noncomputable def nV(H:Hp)(a:Addr):Option (List V):=match H a with|some (.tup xs)=>some xs|_=>none
def cO(h:H a=some (.tup xs)):nV H a=some xs:=by unfold nV;rw[h]
def iR(h:nV H a=some xs):H a=some (.tup xs):=by
 unfold nV at h;grind
def sP:nV (upd H a (.tup xs)) a=some xs:=cO aD
section
variable {a b c:Expr} {ta tb:TE}
def US(i:Nat):TE:=λU H Q=>match U[i]? with|some (some v)=>Q v H|_=>False
def mv(i:Nat)(d:X.N[i]?=some x:=by rfl)(b:Vd X.env.scope x:=by first|exact Or.inl rfl|exact Or.inr (Or.inl rfl)|exact Or.inr (Or.inr rfl))(c:(x==("__debug__" : Str))=false:=by decide)(a:(x==("__classdict__" : Str))=false:=by decide):PE X (.Name x pos) (US i):=(pv i d b c a).imp λU H Q q=>by
 unfold US at q;split at q
 .exact⟨_,by assumption,q⟩
 grind
def mI(g:Int->Int->V):R2:=λx y H Q=>match x,y with|.int i,.int j=>Q (g i j) H|_,_=>False
def U7{g:Int->Int->V}{x:V}(q:mI g x y H Q):WH g x y H Q:=by
 unfold mI at q;split at q
 .exact⟨_,_,rfl,rfl,q⟩
 simp_all
def V1(C:Int->Int->Prop)(g:Int->Int->V):R2:=λx y H Q=>match x,y with|.int i,.int j=>C i j/\Q (g i j) H|_,_=>False
def TJ{C:Int->Int->Prop}{g:Int->Int->V}{x:V}(q:V1 C g x y H Q):rI C g x y H Q:=by
 unfold V1 at q;split at q
 .exact⟨_,_,rfl,rfl,q.1,q.2⟩
 simp_all
def VN:R2:=λx y H Q=>match x,y with
 |.int i,.int j=>Q (.int (i+j)) H
 |.str z,.str y=>z.length+y.length<=sizeLine/\Q (.str (z++y)) H
 |.ref p,.ref q=>(match jE H p,jE H q with
  |some b,some a=>b.length+a.length<=sizeLine/\∀r,H r=none->Q (.ref r) (upd H r (.lst (b++a)))
  |_,_=>False)
 |_,_=>False
def cE:ZN X (binaryOp .Add) VN:=by
 intro a s U H x y v u Q I c b q;unfold VN at q;split at q
 .exact HK a s U H _ _ v u Q I c b ⟨_,_,rfl,rfl,q⟩
 .exact F_ a s U H _ _ v u Q I c b ⟨_,_,rfl,rfl,q.1,q.2⟩
 .split at q
  .exact L6 a s U H _ _ v u Q I c b ⟨_,_,_,_,rfl,rfl,nF (by assumption),nF (by omega),q.1,q.2⟩
  simp_all
 .exact q.elim
def iK:ZN X (binaryOp .Sub) (mI λi j=>.int (i-j)):=Wc.imp λ_ _ _ _ q=>U7 q
def oA:ZN X (binaryOp .Mult) (V1 WQ λi j=>.int (i*j)):=Wj.imp λ_ _ _ _ q=>TJ q
def eE:ZN X (binaryOp .Mod) (V1 (λ_ j=>0<j) λi j=>.int (i%j)):=V9.imp λ_ _ _ _ q=>TJ q
def jB:ZN X (binaryOp .FloorDiv) (V1 QN λi j=>.int (i / j)):=WX.imp λ_ _ _ _ q=>TJ q
def WK:ZN X (compareOp .Lt) (mI λi j=>.bl (decide (i<j))):=VB.imp λ_ _ _ _ q=>U7 q
def VS:ZN X (compareOp .Gt) (mI λi j=>.bl (decide (j<i))):=Vy.imp λ_ _ _ _ q=>U7 q
def Ls:ZN X (compareOp .GtE) (mI λi j=>.bl (decide (j<=i))):=Vh.imp λ_ _ _ _ q=>U7 q
def TL:V->Hp->VK->Prop:=λx H Q=>match x with|.int i=>Q (.int (-i)) H|_=>False
def TY:UI X (unaryOp .USub) TL:=λa s U H x v Q I b q=>by
 unfold TL at q;split at q
 .exact DW a s U H _ v Q I b ⟨_,rfl,q⟩
 simp_all
def SE:R2:=λx y H Q=>U4 x y=true/\Q (.bl (decide (x=y))) H
def lG:ZN X (compareOp .Eq) SE:=Ks
def NW:R2:=λx y H Q=>U4 x y=true/\Q (.bl (!decide (x=y))) H
def WE:ZN X (compareOp .NotEq) NW:=LY
def Wn(neg:Bool):R2:=λx y H Q=>match x,y with
 |.ref p,.ref q=>(match Z2 H p,Z2 H q with
  |some b,some a=>b.all bY=true/\a.all bY=true/\Q (.bl (if neg then !mC b a else mC b a)) H
  |_,_=>False)
 |_,_=>False
def O0{x:V}(q:Wn neg x y H Q):Tp K neg x y H Q:=by
 unfold Wn at q;split at q
 .split at q
  .exact⟨_,_,_,_,rfl,rfl,bD (by assumption),bD (by omega),q.1,q.2.1,q.2.2⟩
  simp_all
 .exact q.elim
def Sd(a:X.A.units<cLine):ZN X (compareOp .Eq) (Wn false):=(zr a).imp λ_ _ _ _ q=>O0 q
def Rc(a:X.A.units<cLine):ZN X (compareOp .NotEq) (Wn true):=(Ms a).imp λ_ _ _ _ q=>O0 q
def Ue:R2:=λx y H Q=>match y with|.non=>Q (.bl (decide (x=.non))) H|_=>False
def uR:ZN X (compareOp .Is) Ue:=Wa.imp λ_ y _ _ q=>by
 unfold Ue at q;grind
def Ss:R2:=λx y H Q=>match y with|.non=>Q (.bl (!decide (x=.non))) H|_=>False
def kQ:ZN X (compareOp .IsNot) Ss:=WN.imp λ_ y _ _ q=>by
 unfold Ss at q;grind
noncomputable def subIn(y x:Str):Bool:=!(Builtin.Str.occurrences x y 0 x.length 1).isEmpty
def sO(x:Str)(c:Nat):subIn ⟨#[c]⟩ x=decide (c∈x.cps.toList):=PySem.StrLaws.found_one x c
def Uh(neg:Bool):R2:=λx y H Q=>match x,y with|.str i,.str j=>Q (.bl (if neg then !subIn i j else subIn i j)) H|_,_=>False
def UB:ZN X (compareOp .In) (Uh false):=Xt.imp λ_ _ _ _ q=>by
 unfold Uh at q;split at q
 .exact⟨_,_,rfl,rfl,q⟩
 simp_all
def VV(neg:Bool):R2:=λx y H Q=>match y with
 |.ref p=>(match Z2 H p with|some a=>bY x=true/\a.all bY=true/\Q (.bl (if neg then !XM x a else XM x a)) H|none=>False)
 |_=>False
def Rb{x:V}(q:VV neg x y H Q):SF K neg x y H Q:=by
 unfold VV at q;split at q
 .split at q
  .exact⟨_,_,rfl,.inl (bD (by omega)),q.1,q.2.1,q.2.2⟩
  simp_all
 .exact q.elim
def IS:ZN X (compareOp .In) (VV false):=Xv.imp λ_ _ _ _ q=>Rb q
def mR:ZN X (compareOp .NotIn) (VV true):=Yr.imp λ_ _ _ _ q=>Rb q
def mB(Q:Bool->Hp->Prop):VK:=λx H=>match x with|.bl k=>Q k H|_=>False
def Ra{Q:Bool->Hp->Prop}{x:V}(q:mB Q x H):∃k,x=.bl k/\Q k H:=by
 unfold mB at q;split at q
 .exact⟨_,rfl,q⟩
 simp_all
def Ry(t:TE):TT:=λU H Q=>t U H (mB Q)
def aY{r:R2}(p:ZN X (compareOp op) r)(A:PE X a ta)(w:PE X b tb)(t:behindInMarks op b=false):PT X (.Compare a [op] [b] pos) (Ry (VG r ta tb)):=by
 intro d s U H Q I h;refine wpAny_isTrue_Compare1 (Z1 (A d s U H _ I h) λv g ⟨x,G,D,l,o⟩=>Z1 (w d g U G _ D o) λu f ⟨y,F,C,j,n⟩=>
  Z1 (p d f U F x y v u _ C l j n) λc J ⟨z,E,B,i,q⟩=>?_) t
 obtain⟨k,e,m⟩:=Ra q;subst e;cases i;exact Gh ⟨E,B,m⟩
def VL(Q:Bool->Hp->Prop):VK:=λx H=>match x with
 |.non=>Q false H
 |.bl k=>Q k H
 |.int i=>Q (i != 0) H
 |.str y=>y.length<=sizeLine/\Q ((y.length:Int) != 0) H
 |.ref p=>(match Z2 H p with
  |some a=>Q (!a.isEmpty) H
  |none=>(match H p with|some (.dK kvs)=>Q (!kvs.isEmpty) H|_=>False))
 |_=>False
def Nv{Q:Bool->Hp->Prop}{x:V}(q:VL Q x H):∃k,OX K x H k/\Q k H:=by
 unfold VL at q;split at q
 .exact⟨_,rfl,q⟩
 .exact⟨_,rfl,q⟩
 .exact⟨_,rfl,q⟩
 .exact⟨_,⟨q.1,rfl⟩,q.2⟩
 .split at q
  .exact⟨_,.inl ⟨_,bD (by omega),rfl⟩,q⟩
  .split at q
   .exact⟨_,.inr (.inr ⟨_,by assumption,rfl⟩),q⟩
   simp_all
 .exact q.elim
def Og(t:TE):TT:=λU H Q=>t U H (VL Q)
def cT(i:PE X a ta)(g:∀b,isTrue a X.env b=(do let v <-b;standAt a.pos;holding [v] (truthy v)):=by intro _;rfl):PT X a (Og ta):=by
 intro c s U H Q I h;refine isTrue_plain (Z1 (i c s U H _ I h) λv d ⟨x,k,j,e,f⟩=>UH c d U k x v Q j e (Nv f)) (g _)
variable {rest:List Expr}
def OS(d b:TE):TE:=λU H Q=>d U H (mB λc a=>if c=true then b U a Q else Q (.bl false) a)
def Tf(l:PE X a ta)(k:PE X (.BoolOp .And (b::rest) pos) tb):PE X (.BoolOp .And (a::b::rest) pos) (OS ta tb):=by
 intro e s U H Q I h;refine BoolOp_and (Z1 (l e s U H _ I h) λv i μ=>?_);obtain⟨x,g,f,j,d⟩:=μ;obtain⟨c,rfl,d⟩:=Ra d;cases j;refine Gh ?_;cases c with
 |true=>exact k e i U g Q f d
 |false=>exact⟨.bl false,g,f,rfl,d⟩
def WY:R2:=λx y H Q=>match x,y with
 |.str z,.int i=>z.length<=sizeLine/\(match YQ z.cps.toList i with|some c=>Q (.str ⟨#[c]⟩) H|none=>False)
 |.ref p,.int i=>(match Z2 H p with
  |some a=>(match YQ a i with|some v=>Q v H|none=>False)
  |none=>(match nV H p with
   |some a=>(match YQ a i with|some v=>Q v H|none=>False)
   |none=>False))
 |_,_=>False
def DE{x:V}(q:WY x y H Q):NI K x y H Q:=by
 unfold WY at q;split at q
 .obtain⟨a,q⟩:=q;split at q
  .exact .inr (.inr ⟨_,_,_,rfl,rfl,a,by assumption,q⟩)
  .exact q.elim
 .split at q
  .split at q
   .exact .inl ⟨_,_,_,_,rfl,rfl,bD (by omega),by assumption,q⟩
   .exact q.elim
  .split at q
   .split at q
    .exact .inr (.inl ⟨_,_,_,_,rfl,rfl,YF.of (iR (by assumption)),by assumption,q⟩)
    simp_all
   .exact q.elim
 .exact q.elim
def cA:Xy X WY:=V3.imp λ_ _ _ _ q=>DE q
def Ve:V->Option Int->Option Int->Hp->VK->Prop:=λx a b H Q=>match x with
 |.str z=>z.length<=sizeLine/\Q (.str (Txt.slice z a b)) H
 |.ref p=>(match Z2 H p with|some c=>∀r,H r=none->Q (.ref r) (upd H r (.lst (rO c a b)))|none=>False)
 |_=>False
def Se:Xh X Ve:=(Yp.or Mc).imp λ_ _ _ _ _ q=>by
 unfold Ve at q;split at q
 .exact .inr ⟨_,rfl,q.1,q.2⟩
 .split at q
  .exact .inl ⟨_,_,rfl,bD (by omega),q⟩
  simp_all
 .exact q.elim
def UK(Q:Option Int->Hp->Prop):VK:=λx a=>match x with|.int i=>Q (some i) a|_=>False
def N9(t:TE):TO:=λU H Q=>t U H (UK Q)
def kI(h:PE X e te):PO X (some e) (N9 te):=by
 intro b s U H Q I d;refine Z1 (h b s U H _ I d) λu i μ=>?_;obtain⟨x,g,f,c,a⟩:=μ;unfold UK at a;split at a
 .obtain⟨t,rfl⟩:=c;exact⟨_,g,f,.int _ t,a⟩
 simp_all
def Wm:List V->Hp->VK->Prop:=λa H Q=>match a with
 |[.str z]=>z.length<=sizeLine/\Q (.int z.length) H
 |[.ref p]=>(match Z2 H p with
  |some a=>Q (.int a.length) H
  |none=>(match nV H p with|some a=>Q (.int a.length) H|none=>False))
 |_=>False
def dA:ZW X (.builtin "len") Wm:=Xf.imp λ_ _ _ q=>by
 unfold Wm at q;split at q
 .exact⟨_,_,rfl,⟨q.1,rfl⟩,q.2⟩
 .split at q
  .exact⟨_,_,rfl,.inl ⟨_,bD (by assumption),rfl⟩,q⟩
  .split at q
   .exact⟨_,_,rfl,.inr ⟨_,YF.of (iR (by omega)),rfl⟩,q⟩
   simp_all
 .exact q.elim
def Vn:List V->Hp->VK->Prop:=λa H Q=>match a with|[.int i,.int j]=>Q (.int (if j<i then j else i)) H|_=>False
def HF(a:X.calm=true):ZW X (.builtin "min") Vn:=(M4 a).imp λ_ _ _ q=>by
 unfold Vn at q;split at q
 .exact⟨_,_,rfl,q⟩
 simp_all
def Uy:List V->Hp->VK->Prop:=λa H Q=>match a with
 |[.int i]=>Q (.int i) H
 |[.str x]=>(match PySem.intText? x with|some n=>x.length<=640/\Q (.int n) H|none=>False)
 |_=>False
def Vb:ZW X (.type "int") Uy:=(XB.or yF).imp λ_ _ _ q=>by
 unfold Uy at q;split at q
 .exact .inl (.inl ⟨_,rfl,q⟩)
 .split at q
  .exact .inr ⟨_,_,rfl,by assumption,q.1,q.2⟩
  simp_all
 .exact q.elim
def Ur:List V->Hp->VK->Prop:=λb H Q=>match b with
 |[.ref p]=>(match Z2 H p with
  |some a=>∀l,H l=none->Q (.ref l) (upd H l (.lst a))
  |none=>(match nV H p with|some a=>∀l,H l=none->Q (.ref l) (upd H l (.lst a))|none=>False))
 |_=>False
def jC:ZW X (.type "list") Ur:=Yt.imp λ_ _ _ q=>by
 unfold Ur at q;split at q
 .split at q
  .exact⟨_,_,rfl,.inl (bD (by omega)),q⟩
  .split at q
   .exact⟨_,_,rfl,.inr (YF.of (iR (by assumption))),q⟩
   simp_all
 .exact q.elim
def We(T:String)(x:V)(H:Hp)(P:Prop):Prop:=match x with
 |.str _=>T="str"/\P
 |.ref p=>(match Z2 H p with|some _=>T="list"/\P|none=>False)
 |_=>False
def EJ{K:W.Frag}{x:V}{P:Prop}(q:We T x H P):Pm K T x H/\P:=by
 unfold We at q;split at q
 .exact⟨q.1,q.2⟩
 .split at q
  .exact⟨.inl ⟨q.1,_,bD (by omega)⟩,q.2⟩
  simp_all
 .exact q.elim
def Pa(T:String)(r:V->List V->Hp->VK->Prop)(c:TE)(t:TA):TE:=λU H Q=>c U H λx a=>We T x a (t U a λb d=>r x b d Q)
variable {o:Expr} {t:TA} {id:String}
def cX(B:PlainAttrs T)(d:Slot T name id)(i:typeOf (.builtin id)=pure (.type "method_descriptor"))(D:X3 X id r)(C:PE X o to)(E:PA X (e::es) t)(c:attributeBase o name X.env (eval o X.env)=eval o X.env:=by rfl)(f:((backTo cpos (starEach (e::es) X.env)).all (λx=>!x.1)&&(backToKw cpos (keywordEach [] X.env)).all (λx=>x.1.isSome)
 && decide ((e::es).length+([]:List Keyword).length+(if ([]:List Keyword).isEmpty then 0 else 1)<30))=true:=by rfl)(b:(apos.endLine==cpos.line)=true:=by rfl)(hs:starEach (e::es) X.env=(false,eval e X.env)::starEach es X.env:=by rfl)(a:(backTo cpos (starEach es X.env)).any (·.1)=false:=by rfl):PE X (.Call (.Attribute o name apos) (e::es) [] cpos) (Pa T r to t):=by
 intro g s U H Q I h;refine Jb c f b rfl (Z1 (C g s U H _ I h) λv w μ=>?_);obtain⟨x,M,l,j,q⟩:=μ;obtain⟨p,A⟩:=EJ (K:=X.K) q;obtain⟨G,F⟩:=E2 l j p;refine⟨T,id,B,d,i,G,F,?_⟩;have k:=E cpos g w U M _ l A
 rw[hs]at k ⊢;refine Gy (by show (false || (backTo cpos (starEach es X.env)).any (·.1))=false;rw[a]<;>rfl) (Ho ?_)
 exact Z1 k λn u ⟨m,L,J,y,z⟩=>D g u U L x m v n Q J j y z
def UD:V->List V->Hp->VK->Prop:=λx b H Q=>match x,b with
 |.ref l,[y]=>(match jE H l with|some a=>a.length<sizeLine/\Q .non (upd H l (.lst (a++[y])))|none=>False)
 |_,_=>False
def yU:X3 X "list.append" UD:=X3.imp  sJ λ_ _ _ _ q=>by
 unfold UD at q;split at q
 .split at q
  .exact⟨_,_,_,rfl,rfl,nF (by omega),q.1,q.2⟩
  simp_all
 .exact q.elim
def UO:V->List V->Hp->VK->Prop:=λx a H Q=>match x,a with
 |.str z,[.str y]=>(match Builtin.Str.occurrences z y 0 z.length 1 with|i::_=>Q (.int ((i:Nat):Int)) H|[]=>False)
 |_,_=>False
def Jy:X3 X "str.index" UO:=W9.imp λ_ _ _ _ q=>by
 unfold UO at q;split at q
 .split at q
  .exact⟨_,_,_,_,rfl,rfl,by assumption,q⟩
  simp_all
 .exact q.elim
noncomputable def pN:List V->Option (List Str)
 |[]=>some []
 |.str z::r=>(pN r).map (z::·)
 |_=>none
def IC(ys:List Str):pN (ys.map V.str)=some ys:=by
 induction ys with
 |nil=>rfl
 |cons y r a=>rw[Ax,pN,a];rfl
theorem yQ:∀ {b:List V} {a:List Str},pN b=some a->b=a.map V.str
 |[],_,h=>by cases h;rfl
 |.str z::r,_,h=>by
  rw[pN]at h;cases e:pN r with
  |none=>rw[e]at h;cases h
  |some l=>rw[e]at h;cases h;rw[yQ e];rfl
def UE:V->List V->Hp->VK->Prop:=λx c H Q=>match x,c with
 |.str z,[.ref p]=>(match Z2 H p with
  |some b=>(match pN b with|some a=>(a.map (·.length)).sum+a.length*z.length<=16777216/\Q (.str (Txt.join z a)) H|none=>False)
  |none=>False)
 |_,_=>False
def Mf:X3 X "str.join" UE:=WV.imp λ_ _ _ _ q=>by
 unfold UE at q;split at q
 .split at q
  .split at q
   .have e:=yQ (by assumption)
    subst e;exact⟨_,_,_,rfl,rfl,bD (by omega),q.1,q.2⟩
   .exact q.elim
  simp_all
 .exact q.elim
noncomputable def pP:List V->Option (List Bool)
 |[]=>some []
 |.bl z::r=>(pP r).map (z::·)
 |_=>none
def M5(ys:List Bool):pP (ys.map V.bl)=some ys:=by
 induction ys with
 |nil=>rfl
 |cons y r a=>rw[Ax,pP,a];rfl
theorem QX:∀ {b:List V} {a:List Bool},pP b=some a->b=a.map V.bl
 |[],_,h=>by cases h;rfl
 |.bl z::r,_,h=>by
  rw[pP]at h;cases e:pP r with
  |none=>rw[e]at h;cases h
  |some l=>rw[e]at h;cases h;rw[QX e];rfl
def UM:List V->Hp->VK->Prop:=λb H Q=>match b with
 |[.ref p]=>(match Z2 H p with
  |some a=>(match pP a with|some c=>Q (.bl (c.all _root_.id)) H|none=>False)
  |none=>False)
 |_=>False
def Pz(a:X.calm=true):ZW X (.builtin "all") UM:=(xL a).imp λ_ _ _ q=>by
 unfold UM at q;split at q
 .split at q
  .split at q
   .have e:=QX (by assumption)
    subst e;exact⟨_,_,rfl,bD (by omega),q⟩
   .exact q.elim
  simp_all
 .exact q.elim
noncomputable def WG(x:V)(H:Hp):Option String:=match x with
 |.non=>some "NoneType"
 |.bl _=>some "bool"
 |.int _=>some "int"
 |.str _=>some "str"
 |.ref p=>(match H p with
  |some (.lst _)=>some "list"
  |some (.frz _ (.lst _))=>some "list"
  |some (.tup _)=>some "tuple"
  |some (.dK _)=>some "dict"
  |_=>none)
 |_=>none
def LI{x:V}{t:String}(h:WG x H=some t):YZ K H x (.type t):=by
 unfold WG at h;split at h
 .cases h;exact .non
 .cases h;exact .bl _
 .cases h;exact .int _
 .cases h;exact .str _
 .split at h
  .cases h;exact .lst (by omega)
  .cases h;exact .frz (by assumption)
  .cases h;exact .tup (by assumption)
  .cases h;exact .dK (by assumption)
  .cases h
 .cases h
noncomputable def Rk(t T:String):Bool:=decide (t=T) || (decide (t="bool")&&decide (T="int"))
noncomputable def SA(t T:String):Bool:=["NoneType", "bool", "int", "str", "list", "tuple", "dict"].contains t && ["bool", "int", "str", "list", "tuple", "dict"].contains T
noncomputable def VT(t T:String):Option Bool:=bif SA t T then some (Rk t T) else none
def J8:∀t∈["NoneType", "bool", "int", "str", "list", "tuple", "dict"],∀T∈["bool", "int", "str", "list", "tuple", "dict"],W.kitOne K (.type t) (.type T)=some (Rk t T):=by
 simp;refine⟨⟨rfl,rfl,rfl,rfl,rfl,rfl⟩,⟨rfl,rfl,rfl,rfl,rfl,rfl⟩,⟨rfl,rfl,rfl,rfl,rfl,rfl⟩,⟨rfl,rfl,rfl,rfl,rfl,rfl⟩,⟨rfl,rfl,rfl,rfl,rfl,rfl⟩,⟨rfl,rfl,rfl,rfl,rfl,rfl⟩,⟨rfl,rfl,rfl,rfl,rfl,rfl⟩⟩
def AW{t:String}{b:Bool}(h:VT t T=some b):W.kitOne K (.type t) (.type T)=some b:=by
 unfold VT at h;cases a:SA t T with
 |false=>rw[a]at h;cases h
 |true=>
  rw[a]at h;cases h;unfold SA at a;rw[Ez]at a;exact J8 t (List.contains_iff_mem.mp a.1) T (List.contains_iff_mem.mp a.2)
def UX:List V->Hp->VK->Prop:=λa H Q=>match a with
 |[x,.ty T]=>(match WG x H with
  |some t=>(match VT t T with|some b=>Q (.bl b) H|none=>False)
  |none=>False)
 |_=>False
def tR:ZW X (.builtin "isinstance") UX:=Yg.imp λ_ _ _ q=>by
 unfold UX at q;split at q
 .split at q
  .split at q
   .exact⟨_,_,_,_,rfl,LI (by omega),AW (by assumption),q⟩
   .exact q.elim
  simp_all
 .exact q.elim
end
def VF(R:Str->Hp->Prop):VK:=λx H=>match x with|.str z=>R z H|_=>False
def A_{R:Str->Hp->Prop}{x:V}(q:VF R x H):∃z,x=.str z/\R z H:=by
 unfold VF at q;split at q
 .exact⟨_,rfl,q⟩
 simp_all
def Yx(o:Option (List V))(P:Prop):Prop:=match o with|some _=>P|none=>False
def fU(R:Addr->Hp->Prop):VK:=λx H=>match x with|.ref a=>R a H|_=>False
def Pj{R:Addr->Hp->Prop}{x:V}(q:fU R x H):∃a,x=.ref a/\R a H:=by
 unfold fU at q;split at q
 .exact⟨_,rfl,q⟩
 simp_all
section
variable {l a b:Expr} {ta tb:TE} {p:Pos}
def Pu(a:TE):TI:=λU H R=>a U H (VF λz b=>R (W0 z) b)
def sQ(m:PE X l tl):PI X tg l (Pu tl):=by
 intro f s U H R I h;refine Z1 (m f s U H _ I h) λv a μ=>?_;obtain⟨x,d,c,j,k⟩:=μ;obtain⟨z,rfl,q⟩:=A_ k;obtain⟨t,rfl⟩:=j;have i:∀b∈[a.heap.objs.size],gA X f d b:=λb n=>by
  have e:b=a.heap.objs.size:=by simp_all
  subst e;exact c.YV (Ah _) (c.Z4.fresh (Ah _))
 cases g:z.cps.all (· < 128)
 .refine wpAny_pyIter_wide g ?_;exact⟨a.heap.objs.size,[a.heap.objs.size],_,_,d,rfl,c.kept (t':=a.toks) λb o e=>Af _ e,HA z t _,⟨_,Au _ rfl,rfl,rfl⟩,i,q⟩
 .refine wpAny_pyIter_ascii g ?_;exact⟨a.heap.objs.size,[a.heap.objs.size],_,_,d,rfl,c.kept (t':=a.toks) λb o e=>Af _ e,DP z t _,⟨_,Au _ rfl,rfl,rfl⟩,i,q⟩
def Tq(K:W.Frag)(c:TE):TI:=λU H R=>c U H (fU λa b=>Yx (Z2 b a) (R (Xd K a) b))
def dD(k:PE X l tl):PI X tg l (Tq X.K tl):=by
 intro f s U H R I h;refine Z1 (k f s U H _ I h) λv c ⟨x,n,d,g,i⟩=>?_;obtain⟨a,rfl,q⟩:=Pj i;cases g;unfold Yx at q;split at q
 .rename_i r e
  obtain⟨j,u,p,w⟩:=d.list (bD e);refine Fb p.isList ?_;refine⟨c.heap.objs.size,[c.heap.objs.size],_,_,n,rfl,d.kept (t':=c.toks) λb o e=>Af _ e,Cn a _,⟨_,Au _ rfl,rfl,rfl⟩,λb m=>?_,q⟩;have e:b=c.heap.objs.size:=by simp_all
  subst e;exact d.YV (Ah _) (d.Z4.fresh (Ah _))
 simp_all
def wQ(R:Int->Hp->Prop):List V->Hp->Prop:=λa H=>match a with|[.int j]=>R j H|_=>False
def uH{R:Int->Hp->Prop}{vs:List V}(q:wQ R vs H):∃j,vs=[.int j]/\R j H:=by
 unfold wQ at q;split at q
 .exact⟨_,rfl,q⟩
 simp_all
def Vq(R:Int->Int->Hp->Prop):List V->Hp->Prop:=λa H=>match a with|[.int i,.int j]=>R i j H|_=>False
def RB{R:Int->Int->Hp->Prop}{vs:List V}(q:Vq R vs H):∃i j,vs=[.int i,.int j]/\R i j H:=by
 unfold Vq at q;split at q
 .exact⟨_,_,rfl,q⟩
 simp_all
def Pq(a:TA):TI:=λU H R=>a U H (wQ λj b=>(-(2^62)<=j/\j<2^62)/\R (X1 0 j.toNat) b)
def TN(a:TA):TI:=λU H R=>a U H (Vq λi j b=>(-(2^62)<=i/\i<2^62/\-(2^62)<=j/\j<2^62)/\R (X1 i (j-i).toNat) b)
def mY{b:TA}(k:Gl X "range")(i:X.mg "range"=none)(l:PA X [a] b)(hs:starEach [a] X.env=[(false,eval a X.env)]:=by rfl):PI X tg (.Call (.Name "range" p) [a] [] pos) (Pq b):=by
 intro c s U H R I h;refine Call_ (iZ I k i boot_range (Dz (Z1 (l pos c s U H _ I h) λv w μ=>?_) hs rfl));obtain⟨u,x,o,f,g⟩:=μ;obtain⟨j,e,⟨n,m⟩,q⟩:=uH g;subst e;cases f with
 |cons r d=>
  cases d;obtain⟨t,rfl⟩:=r;exact call_range_1 (N_ o (by omega) (by omega) n m (by simp_all))
def zI{f:TA}(o:Gl X "range")(n:X.mg "range"=none)(u:PA X [a,b] f)(hs:starEach [a,b] X.env=[(false,eval a X.env),(false,eval b X.env)]:=by rfl)(c:starEach [b] X.env=[(false,eval b X.env)]:=by rfl):PI X tg (.Call (.Name "range" p) [a,b] [] pos) (TN f):=by
 intro g s U H R I h;refine Call_ (iZ I o n boot_range (Dz (Z1 (u pos g s U H _ I h) λB D μ=>?_) (by rw[hs,c]) (by rw[c];rfl)));obtain⟨A,E,z,k,m⟩:=μ
 obtain⟨i,j,e,⟨y,x,w,v⟩,q⟩:=RB m;subst e;cases k with
 |cons r d=>
  cases d with
  |cons l d=>
   cases d;obtain⟨t,rfl⟩:=r;obtain⟨C,rfl⟩:=l;exact call_range_2 (N_ z y x w v q)
def WO(J:It)(g:TG)(d:TS)(D:Ends)(U:St)(h:Hp):Prop:=∃W:Nat->Nat->St->Hp->Prop,(∃m,W 0 m U h)/\∀i m U H,W i m U H->
 (J.stop i H/\D.nx U H)\/(J.go i H/\∃N,(∀c a,N c a->∃b,b < m/\W (i+1) b c a)/\∀x a,J.WZ i H x a->g x U a λe f=>d {D with nx:=N,ct:=N,bk:=D.nx} e f)
def Tb(wi:TI)(g:TG)(a:TS):TS:=λD U H=>wi U H λJ b=>WO J g a D U b
def cK{a:TS}(b:PassesOwn (model X.prog X.w) X.A X.env X.xe)(e:X.calm=true)(c:PI X tg iter wi)(d:PG X tg g)(f:YL X body a)(hs:∀x,foldedSetIterable iter X.env x=pure x:=by intro _;rfl):PS X (.For tg iter body [] pos) (Tb wi g a):=CY  b e c d f hs
section
variable {c:Addr} {tb:TS}
def fP(a:Nat->St->Hp->Prop)(f:a 0 U H)(b:∀i U H,i<=xs.length->a i U H->Z2 H c=some xs)(hs:∀i x U H,xs[i]?=some x->a i U H->g x U H λh j=>tb {D with nx:=a (i+1),ct:=a (i+1),bk:=D.nx} h j)(e:∀U H,a xs.length U H->D.nx U H):WO (Xd K c) g tb D U H:=
 DO a f (λi U H d p=>bD (b i U H d p)) hs e
def Tn(a:Nat->St->Hp->Prop)(d:a 0 U H)(hs:∀i c U H,z.cps.toList[i]?=some c->a i U H->g (.str ⟨#[c]⟩) U H λe f=>tb {D with nx:=a (i+1),ct:=a (i+1),bk:=D.nx} e f)(b:∀U H,a z.cps.toList.length U H->D.nx U H):WO (W0 z) g tb D U H:=
 I0 a d hs b
def qQ(a:Nat->St->Hp->Prop)(c:a 0 U H)(hs:∀i U H,i<n->a i U H->g (.int (lo+i)) U H λd e=>tb {D with nx:=a (i+1),ct:=a (i+1),bk:=D.nx} d e)(b:∀U H,a n U H->D.nx U H):WO (X1 lo n) g tb D U H:=
 HZ a c hs b
end
def mQ(d:Gl X x)(c:X.mg x=none)(a:bootBuiltins x=some (.type T))(b:x≠"__name__" := by decide)(e:(x==("__debug__" : Str))=false:=by decide):PE X (.Name x pos) (tC (.ty T)):=M1 d c a rfl b e
end
section
variable {QB:Bool->Hp->Prop} {QA:List V->Hp->Prop} {QO:Option Int->Hp->Prop} {t u:TS} {ta tb:TE} {tt tu:TT} {tA:TA} {r:R2} {x:V} {i j:Int} {z':Str} {p:Addr} {vs:List V} {k:Nat}
def oN(h:t {D with nx:=u D} U H):To t u D U H:=h
def D9(h:D.nx U H):Rt D U H:=h
def AQ(h:c U H λb a=>if b=true then t D U a else u D U a):Pc c t u D U H:=h
def FH(h:te U H D.rt):NO te D U H:=h
def Bn(h:te U H λ_ a=>D.nx U a):ON te D U H:=h
def Ma(h:te U H λx a=>g x U a D.nx):VY te g D U H:=h
def E8{a:TS}(h:wi U H λJ b=>WO J g a D U b):Tb wi g a D U H:=h
def Sr{a:St->Hp->Prop}(h:a (U.set k (some v)) H):lD k v U H a:=h
def JL{b:TE}{a:UY}(h:to U H λo f=>b U f λi e=>a o i v e λd=>c U d):QT to b a v U H c:=h
def Li(e:U[k]?=some (some v))(h:Q v H):US k U H Q:=by unfold US;rwa[e]
def JY(h:Q v H):tC v U H Q:=h
def LS(h:ta U H λx b=>tb U b λy a=>r x y a Q):VG r ta tb U H Q:=h
def DF{a:V->Hp->VK->Prop}(h:ta U H λx b=>a x b Q):Oh a ta U H Q:=h
def M_(h:QA [] H):vP U H QA:=h
def MW{a:TA}(h:ta U H λx d=>a U d λb c=>QA (x::b) c):VJ ta a U H QA:=h
def Kr(h:tA U H λa b=>a.length<=sizeLine/\∀p,b p=none->Q (.ref p) (upd b p (.lst a))):Vw tA U H Q:=h
def LG(h:tA U H λa b=>a.length<=sizeLine/\∀p,b p=none->Q (.ref p) (upd b p (.tup a))):PN tA U H Q:=h
def L0{E:XK}(h:tA U H λa b=>sp (a++[]) b Q E):Vm sp [] E tA U H Q:=h
def CG{a:List V->Hp->VK->Prop}(h:tA U H λb c=>a b c Q):SH a tA U H Q:=h
def BG{a b:TO}(h:te U H λx f=>a U f λl e=>b U e λu d=>c x l u d Q):N7 c te a b U H Q:=h
def EM(h:QO none H):NU U H QO:=h
def EB(h:te U H (UK QO)):N9 te U H QO:=h
def MH(h:QO (some i) H):UK QO (.int i) H:=h
def Lz{a:V->List V->Hp->VK->Prop}(h:to U H λx b=>We T x b (tA U b λc d=>a x c d Q)):Pa T a to tA U H Q:=h
def KJ{P:Prop}(h:P):We "str" (.str z) H P:=⟨rfl,h⟩
def BQ{P:Prop}(e:Z2 H p=some xs)(h:P):We "list" (.ref p) H P:=by unfold We;simp only[e];exact⟨trivial,h⟩
def GZ(h:te U H (mB QB)):Ry te U H QB:=h
def EL(h:te U H (VL QB)):Og te U H QB:=h
def KP{b:Bool}(h:QB b H):mB QB (.bl b) H:=h
def DV{b:Bool}(h:QB b H):VL QB (.bl b) H:=h
def Lu(h:tt U H λc a=>if c=true then tu U a QB else QB false a):Qv tt tu U H QB:=h
def HB(h:tt U H λc a=>if c=true then QB true a else tu U a QB):R6 tt tu U H QB:=h
def G_(h:tt U H λc a=>QB (!c) a):Ox tt U H QB:=h
def M3(h:ta U H (mB λc a=>if c=true then tb U a Q else Q (.bl false) a)):OS ta tb U H Q:=h
def M8(h:tt U H λc a=>if c=true then ta U a Q else tb U a Q):RY tt ta tb U H Q:=h
def BY{g:Int->Int->V}(h:Q (g i j) H):mI g (.int i) (.int j) H Q:=h
def JG{C:Int->Int->Prop}{g:Int->Int->V}(c:C i j)(h:Q (g i j) H):V1 C g (.int i) (.int j) H Q:=⟨c,h⟩
def AR(h:Q (.int (i+j)) H):VN (.int i) (.int j) H Q:=h
def GA(c:z.length+z'.length<=sizeLine)(h:Q (.str (z++z')) H):VN (.str z) (.str z') H Q:=⟨c,h⟩
def sF(e:jE H p=some xs)(a:jE H q=some ys)(c:xs.length+ys.length<=sizeLine)(h:∀r,H r=none->Q (.ref r) (upd H r (.lst (xs++ys)))):VN (.ref p) (.ref q) H Q:=by
 unfold VN;simp_all
def Ex(h:Q (.bl (decide (i=j))) H):SE (.int i) (.int j) H Q:=⟨rfl,by
 rwa[show decide _=decide (i=j) by simp]⟩
def FT(h:Q (.bl (decide (z=z'))) H):SE (.str z) (.str z') H Q:=⟨rfl,by
 rwa[show decide _=decide (z=z') by simp]⟩
def EK(h:Q (.bl (!decide (i=j))) H):NW (.int i) (.int j) H Q:=⟨rfl,by
 rwa[show decide _=decide (i=j) by simp]⟩
def Ux{neg:Bool}(e:Z2 H p=some xs)(b:Z2 H q=some ys)(f:xs.all bY=true)(a:ys.all bY=true)(h:Q (.bl (if neg then !mC xs ys else mC xs ys)) H):Wn neg (.ref p) (.ref q) H Q:=by
 unfold Wn;simp only[e,b];exact⟨f,a,h⟩
def Ni(h:Q (.bl (decide (x=.non))) H):Ue x .non H Q:=h
def L7(h:Q (.bl (!decide (x=.non))) H):Ss x .non H Q:=h
def IJ(h:Q (.bl (if neg then !subIn z z' else subIn z z')) H):Uh neg (.str z) (.str z') H Q:=h
def yN{neg:Bool}(e:Z2 H p=some xs)(f:bY x=true)(a:xs.all bY=true)(h:Q (.bl (if neg then !XM x xs else XM x xs)) H):VV neg x (.ref p) H Q:=by
 unfold VV;simp only[e];exact⟨f,a,h⟩
def lZ(l:z.length<=sizeLine)(e:YQ z.cps.toList i=some c)(h:Q (.str ⟨#[c]⟩) H):WY (.str z) (.int i) H Q:=by
 unfold WY;simp_all
def eY(e:Z2 H p=some xs)(a:YQ xs i=some v)(h:Q v H):WY (.ref p) (.int i) H Q:=by
 unfold WY;simp_all
def KA{a b:Option Int}(e:Z2 H p=some xs)(h:∀r,H r=none->Q (.ref r) (upd H r (.lst (rO xs a b)))):Ve (.ref p) a b H Q:=by
 unfold Ve;simp_all
def HE(l:z.length<=sizeLine)(h:Q (.int z.length) H):Wm [.str z] H Q:=⟨l,h⟩
def B_(e:Z2 H p=some xs)(h:Q (.int xs.length) H):Wm [.ref p] H Q:=by unfold Wm;simp only[e];exact h
def HY(h:Q (.int (if j<i then j else i)) H):Vn [.int i,.int j] H Q:=h
def U3(e:PySem.intText? z=some i)(l:z.length<=640)(h:Q (.int i) H):Uy [.str z] H Q:=by unfold Uy;simp only[e];exact⟨l,h⟩
def CM(e:Z2 H p=some xs)(h:∀l,H l=none->Q (.ref l) (upd H l (.lst xs))):Ur [.ref p] H Q:=by unfold Ur;simp only[e];exact h
def La(e:jE H p=some xs)(l:xs.length<sizeLine)(h:Q .non (upd H p (.lst (xs++[v])))):UD (.ref p) [v] H Q:=by unfold UD;simp only[e];exact⟨l,h⟩
def M6{a:List Nat}(e:Builtin.Str.occurrences z z' 0 z.length 1=k::a)(h:Q (.int ((k:Nat):Int)) H):UO (.str z) [.str z'] H Q:=by unfold UO;simp only[e];exact h
def BS(e:Z2 H p=some (ss.map V.str))(l:(ss.map (·.length)).sum+ss.length*z.length<=16777216)(h:Q (.str (Txt.join z ss)) H):UE (.str z) [.ref p] H Q:=by
 unfold UE;simp only[e,IC];exact⟨l,h⟩
def Qh{bs:List Bool}(e:Z2 H p=some (bs.map V.bl))(h:Q (.bl (bs.all id)) H):UM [.ref p] H Q:=by
 unfold UM;simp only[e,M5];exact h
def CW{t:String}{b:Bool}(e:WG x H=some t)(a:VT t T=some b)(h:Q (.bl b) H):UX [x,.ty T] H Q:=by
 unfold UX;simp_all
def IZ(h:tl U H (fU λa b=>Yx (Z2 b a) (R (Xd K a) b))):Tq K tl U H R:=h
def CJ{R:Addr->Hp->Prop}(h:R p H):fU R (.ref p) H:=h
def K4{P:Prop}(e:Z2 H p=some xs)(h:P):Yx (Z2 H p) P:=by unfold Yx;simp only[e];exact h
def Lj(h:tl U H (VF λz a=>R (W0 z) a)):Pu tl U H R:=h
def Kp{R:Str->Hp->Prop}(h:R z H):VF R (.str z) H:=h
def F0(h:tA U H (wQ λj a=>(-(2^62)<=j/\j<2^62)/\R (X1 0 j.toNat) a)):Pq tA U H R:=h
def Nt(h:tA U H (Vq λi j a=>(-(2^62)<=i/\i<2^62/\-(2^62)<=j/\j<2^62)/\R (X1 i (j-i).toNat) a)):TN tA U H R:=h
def CQ{R:Int->Hp->Prop}(h:R i H):wQ R [.int i] H:=h
def zu{R:Int->Int->Hp->Prop}(h:R i j H):Vq R [.int i,.int j] H:=h
def U_{o:V}{a:Hp->Prop}(e:jE H p=some xs)(b:Xr xs.length i=some k)(h:a (upd H p (.lst (xs.set k v)))):NT (.ref p) (.int i) v H a:=⟨_,_,_,_,rfl,rfl,nF e,b,h⟩
end
def HV{xs:List α}{i:Int}(b:0<=i)(h1:i<xs.length):∃v,YQ xs i=some v/\xs[i.toNat]?=some v:=by
 have a:i.toNat<xs.length:=by omega
 have e:i=((i.toNat:Nat):Int):=by omega
 have q:=bO (Aa a)
 rw[<-e]at q;exact⟨xs[i.toNat],q,Aa a⟩
def UR{i:Int}(a:0<=i)(h1:i<n):Xr n i=some i.toNat:=by
 unfold Xr;simp_all
def bH(h:n<=100000):n<=sizeLine:=Bo h (by decide)
def bG(h:n<=100000):n<sizeLine:=Ik h (by decide)
def ZJ(P:Program)(w:World)(K:W.Frag)(b:Str->Option Value)(a:Heap)(k:Nat)(x:Str)(ps:List Str)(sp:Sp):Prop:=
 ∃f c,Z6 P w K b a ZP k f c ps sp/\b x=some (.ref f)/\W.keepIn K (.ref f)=true/\Binds K c ps []
section
variable {k:Nat} {p:Pos} {t:TA} {i:Int}
def bF(c:ZJ X.prog X.w X.K X.mg X.base k x ps sp)(g:Z7 k' X.A)(i:k<=k')(j:Gl X x)(n:PA X (e::es) t)(d:(x==("__debug__" : Str))=false:=by decide)(l:starEach (e::es) X.env=(false,eval e X.env)::starEach es X.env:=by rfl)(a:(backTo pos (starEach es X.env)).any (·.1)=false:=by rfl):PE X (.Call (.Name x p) (e::es) [] pos) (Vm sp [] E0 t):=by
 obtain⟨f,o,F,h,b,m⟩:=c;exact N6 F (g.mono i) j h b m .nil Ui n d l a
def fO(a:Gl X x)(h:∃t,X.mg x=some (.str z t))(b:(x==("__debug__" : Str))=false:=by decide):PE X (.Name x pos) (tC (.str z)):=by
 obtain⟨t,h⟩:=h;exact T9 a h ⟨t,rfl⟩ b
def OU{z:Int}(a:Gl X x)(h:∃t,X.mg x=some (.int z t))(b:(x==("__debug__" : Str))=false:=by decide):PE X (.Name x pos) (tC (.int z)):=by
 obtain⟨t,h⟩:=h;exact T9 a h ⟨t,rfl⟩ b
def Si{b c:Option Int}(e:Zo K H a xs)(h:∀r,H r=none->Q (.ref r) (upd H r (.lst (rO xs b c)))):QM K (.ref a) b c H Q:=⟨a,xs,rfl,e,h⟩
def Ln(e:Zo K H a xs)(b:YQ xs i=some v)(h:Q v H):Tw K (.ref a) (.int i) H Q:=⟨a,xs,i,v,rfl,rfl,e,b,h⟩
end
def cC:bootBuiltins "len"=some (.builtin "len"):=by right
def cM:bootBuiltins "isinstance"=some (.builtin "isinstance"):=by right
def Ob:bootBuiltins "min"=some (.builtin "min"):=by right
def Ow:bootBuiltins "all"=some (.builtin "all"):=by right
def UW:bootBuiltins "sum"=some (.builtin "sum"):=by right
def zG:bootBuiltins "sorted"=some (.builtin "sorted"):=by right
def RF:bootBuiltins "bool"=some (.type "bool"):=by right
def vG:bootBuiltins "int"=some (.type "int"):=by right
def N8:bootBuiltins "str"=some (.type "str"):=by right
def dH:bootBuiltins "list"=some (.type "list"):=by right
def Qp:bootBuiltins "dict"=some (.type "dict"):=by right
def QL:bootBuiltins "range"=some (.type "range"):=by right
def J_{A B:Prop}(h:B):if (!true)=true then A else B:=h
def zt{A B:Prop}(h:A):if (!false)=true then A else B:=h
def gE{j:Nat}{a:Pos}{es:List Expr}{t:TA}(h:PA X es t):PA X (.Constant (.str x) j a::es) (VJ (tC (.str x)) t):=aA fK h rfl
def xE{R:Result->Shared->Prop}{a:Expr}{B p:Value}(I:Nat->Shared->Prop)(q:∀n s,I n s->wpAny (model prog w) A (pyNext B) (λr e=>match r with
 |none=>R (.ok .next) e
 | some v=>wpAny (model prog w) A (letOwnedTupleGo a B v) (λ_ d=>wpAny (model prog w) A (assign a env v) (λ_ j=>
     wpAny (model prog w) A (forIn ifs true λc r=>if r=true then do let t <-isTrue c env (eval c env);pure (ForInStep.yield t) else pure (ForInStep.yield r)) (λt b=>
      if t=true then wpAny (model prog w) A (eval elt env) (λx i=>
       wpAny (model prog w) A (call (.builtin "list.append") [p,x]) (λ_ g=>∃m,m<n/\I m g) (λ_ _=>False) i) (λ_ _=>False) b
      else ∃m,m<n/\I m b) (λ_ _=>False) j) (λ_ _=>False) d) (λ_ _=>False) e) (λ_ _=>False) s)(n:Nat)(h:I n s):codeAny (model prog w) A (.compLoop (.ListComp elt [⟨a,iter,ifs,0⟩] scope pos) 0 B p env) R s:=by
 refine codeAny_loop rfl I (λn s C=>?_) n h;show wpAny _ A ((compTurn (.ListComp elt [⟨a,iter,ifs,0⟩] scope pos) 0 B p env).onRaise (λx=>do noteFrame x env;theTreesLotGoes x)) _ _ s
 refine wpAny_noted ?_;rw[compTurn_list];refine Ac (Gj (Ac (Cf (q n s C) (λr e l=>?_) λ_ _ f=>f.elim)));cases r with
 |none=>exact Ag l
 |some v=>
  refine Ac (Cf l (λ_ d o=>?_) λ_ _ f=>f.elim);refine Ac (Cf o (λ_ j z=>Ac (Cf z (λt b k=>?_) λ_ _ f=>f.elim)) λ_ _ f=>f.elim);cases t with
  |false=>exact Ag ⟨rfl,k⟩
  |true=>
   exact Ac (Ac (Cf k (λx i y=>Ac (Cf y (λ_ g u=>Ag (Ag ⟨rfl,u⟩)) λ_ _ f=>f.elim)) λ_ _ f=>f.elim))
noncomputable def ZC(X:Cx)(N:List Str)(a:Scope)(b:List (Str×Addr))(C:Addr)(s₀:Shared)(H₀:Hp)(ex:List Addr):Cx:=
 {prog:=X.prog,w:=X.w,K:=X.K,mg:=X.mg,base:=X.base,A:=X.A,N:=N,s₀:=s₀,H₀:=H₀,env:=compEnvC a b C X.env,outer:=X.stack,stack:=X.stack,ex:=ex,fn:=λ_=>false,calm:=X.calm,pn:=[],xe:=λ_ _=>False}
structure Yk (X:Cx) (N:List Str) (scope:Scope) (cl:List (Str×Addr)) (vals:St->St):Prop where
 clos:closureFor scope X.env=pure cl
 sub:∀x c,cl.lookup x=some c->X.env.cells.lookup x=some c
 has:∀x,((relabel scope X.env).names.lookup x=some .cell\/(relabel scope X.env).names.lookup x=some .free)->∃c,cl.lookup x=some c
 len:∀U,(vals U).length=N.length
 val:∀U (i:Nat) x v,N[i]?=some x->(vals U)[i]?=some (some v)->∃(j:Nat),X.N[j]?=some x/\U[j]?=some (some v)/\X.env.scope.names.lookup x=some .cell/\(∃c,cl.lookup x=some c)/\(relabel scope X.env).names.lookup x=some .cell
def PF(X:Cx)(a:List Expr)(t:TT):Prop:=∀b s (U:St) H Q,Inv X b U H s->t U H Q->
 wpAny (model X.prog X.w) X.A (forIn a true λc r=>if r=true then do let d <-isTrue c X.env (eval c X.env);pure (ForInStep.yield d) else pure (ForInStep.yield r)) (TP X b U Q) X.xe s
def Qo:TT:=λ_ H Q=>Q true H
def dP:PF X [] Qo:=λa s U H Q I q=>wpAny_tests_nil ⟨H,I,q⟩
def lX(h:PT X c t):PF X [c] t:=λa s U H Q I q=>wpAny_tests_one (h a s U H Q I q)
section
variable {s2:Shared}
def vK(I:Inv X y3 U H2 s2)(d:Yk X N scope cl vals)(f:scope.kind=.function)(k:∀b∈fp,gA X y3 H2 b)(t:∀b∈fp,b<s2.heap.objs.size)(s:h1.Ns s2.heap.objs.size λ_=>none)(n:Heap.SameBut s2.heap.objs.size (s2.heap.push {cls:=.type "dict",data:=.dict #[]}) h1):Inv (ZC X N scope cl s2.heap.objs.size s2 H2 fp) [] (vals U) H2 {s2 with heap:=h1,toks:=t1}:=by
 have a:∀b o,s2.heap.get? b=some o->h1.get? b=some o:=λb o e=>(n.2 b (Bc (Aq e))).trans (Af _ e)
 have J:=I.Z4.fresh (Ah _)
 refine⟨⟨I.ok.mod,f,I.ok.glob,I.ok.blt,Ah _,λx y c h1 A=>I.ok.inj x y c (d.sub x c h1) (d.sub y c A),d.has,(λx c h=>nomatch h),I.ok.hd,I.ok.frames,.inl rfl,λb g=>⟨Bc (t b g),λx c e=>(k b g).2.2.2.2.1 x c (d.sub x c e)⟩,
  I.bs,Nat.le_trans I.ok.X7 I.sz,λb o e g=>?_,λb g F=>?_,I.stack,I.YK⟩,rfl,I.bare,Un.kept a,⟨_,s,λi x v M L _=>?_⟩,λx c e=>?_,J,λx c e=>I.ZO x c (d.sub x c e),λp G=>absurd (show p∈([]:Q3) from G) (by simp),I.Z4.kept a,d.len U⟩
 .rcases (k b g).2.2.2.1 with z|z
  .exact I.ok.Ya b o e z
  .exact absurd (Bi (Aq e) (Bo I.ok.X7 z)) (Eg _)
 .rcases Bb.mp (I.XR b F) with z|z
  .exact(k b g).2.1 z
  .exact(k b g).2.2.1 z
 .obtain⟨j,h1,A,D,⟨c,C⟩,K⟩:=d.val U i x v M L;obtain⟨m,O,H⟩:=I.loc;obtain⟨u,r,l⟩:=H j x v h1 A (.inr (.inl D));refine⟨u,r,.inr ⟨.inl K,c,C,?_⟩⟩;rcases l with⟨z,_⟩|⟨_,P,E,z⟩
  .have B:X.env.scope.names.lookup x=some .local:=z
   rw[D]at B;cases B
  .rw[d.sub x c C]at E;cases E;obtain⟨o,q,w⟩:=z;exact⟨o,a _ o q,w⟩
 .obtain⟨v,o,q,w⟩:=I.cell x c (d.sub x c e);exact⟨v,o,a _ o q,w⟩
def yO{A:St}{s':Shared}{a:Heap}{d:Q3}(I:Inv X y3 U H2 s2)(t:∀b∈fp,gA X y3 H2 b)(g:Inv (ZC X N scope cl s2.heap.objs.size s2 H2 fp) d A H' s')(i:Heap.SameBut s2.heap.objs.size s'.heap a):Inv X y3 U H' {s' with heap:=a}:=by
 have r:Un (YS X.stack) (s2.heap.objs.size::fp) H2 H' s2.heap s'.heap:=g.base.mono (λ_ z=>z) λb z=>Ao _ z
 have y:H' s2.heap.objs.size=none:=g.free
 have k:∀b o,b≠s2.heap.objs.size->s'.heap.get? b=some o->a.get? b=some o:=λb o l e=>(i.2 b l).trans e
 have p:Un (YS X.stack) (s2.heap.objs.size::fp) H' H' s'.heap a:=⟨λb o e _ _ f=>k b o (λz=>f (by simp[z])) e,λb o e _ _ f=>⟨o.slots,k b o (λz=>f (by simp[z])) e⟩,λ_ _ _ n _=>n,
  λb o e f=>⟨o,k b o (λz=>f (by simp[z])) e⟩,λ_ _ e=>e,λ_ _ _ e=>e,λb B e=>⟨#[],by rw[e];simp⟩⟩
 have j:=λb u e=>by
  have m:∀c v,H' c=some v->c≠s2.heap.objs.size:=λc v e z=>by rw[z,y]at e;cases e
  refine(g.Z4 b u e).Zb (λc v x q=>k c v ?_ q) (λ_ q=>q) λ_ _ q=>q;grind
 refine I.Wz (s':={s' with heap:=a}) (ch:=s2.heap.objs.size::fp) g.os (r.trans p) j g.bare λb l=>?_
 have q:gA X y3 H2 b:=by
  rcases Bb.mp l with z|z
  .subst z;exact I.YV (Ah _) (I.Z4.fresh (Ah _))
  .exact t b z
 exact⟨q.2.2.2.1,q.2.1,q.2.2.2.2.1,q.2.2.2.2.2⟩
end
def Wk(a U:St):Prop:=a.length=U.length/\∀(i:Nat) v,a[i]?=some (some v)->U[i]?=some (some v)
def Wk.refl(U:St):Wk U U:=⟨rfl,λ_ _ h=>h⟩
def Wk.set(h:U0[k]?=some none)(w:Wk U0 U):Wk U0 (U.set k (some v)):=by
 refine⟨by rw[Cg];exact w.1,λi u e=>?_⟩
 have a:k≠i:=λz=>by grind
 rw[Ec a];exact w.2 i u e
def dQ(g:TG)(a:TT)(o:TE)(h:St)(Q:VK)(J:It)(l:Hp):Prop:=∀D,l D=none->∃W:Nat->Nat->Hp->Prop,(∃m,W 0 m (upd l D (.lst [])))/\∀i m d,W i m d->
 (J.stop i d/\Q (.ref D) d)\/(J.go i d/\∀x n,J.WZ i d x n->g x h n λf p=>Wk h f/\a f p λb k=>if b=true then
  o f k λy j=>∃e,j D=some (.lst e)/\e.length<sizeLine/\∃c,c < m/\W (i+1) c (upd j D (.lst (e++[y]))) else ∃c,c < m/\W (i+1) c k)
def Vs(wi:TI)(g:TG)(a:TT)(c:TE)(b:St->St):TE:=λU H Q=>wi U H λJ d=>dQ g a c (b U) Q J d
def RA{a:Shared}{tn:Nat->Heap->Prop}{RR:Value->Addr->Result->Shared->Prop}(I2:Inv X y3 U H2 a)(T:Turn X.prog X.w X.K tg J fp it tn)(b1:tn 0 a.heap)(f2:∀b∈fp,gA X y3 H2 b)(hc:X.calm=true)(ck:Yk X N scope cl vals)(Z:∀y∈scope.names,y.2≠.cell)(L:scope.kind=.function)(hg:∀C z B ex,PG (ZC X N scope cl C z B ex) tg g)(ht:∀C z B ex,PF (ZC X N scope cl C z B ex) ifs tests)(he:∀C z B ex,PE (ZC X N scope cl C z B ex) elt te)(h:dQ g tests te (vals U) Q J H2)(c4:∀D C I j m,I.heap.Ns C m->Q (.ref D) j->(∀a1,Heap.SameBut C I.heap a1->Inv X y3 U j {I with heap:=a1})->gA X y3 j C->RR (.ref D) C (.ok .next) I):wpAny (model X.prog X.w) X.A (newList []) (λb3 a5=>wpAny (model X.prog X.w) X.A (newFunctionEnv scope X.env.globals cl [] X.env.qual none .none (some X.env)) (λS l=>
 codeAny (model X.prog X.w) X.A (.compStart (.ListComp elt [⟨tg,iter,ifs,0⟩] scope pos) 0 (.ref it) b3 {S with scope:=relabel scope X.env}) (RR b3 S.locals) l) E a5) E a:=by
 have hD:=I2.Z4.fresh (Ah _)
 obtain⟨W,⟨m0,w0⟩,a4⟩:=h _ hD;have c3:∀b∈fp,b<a.heap.objs.size:=λb k=>by
  obtain⟨o,e,_⟩:=T.obj 0 _ b1 b k;exact Aq e
 refine Fq ?_
 -- the list is laid
 have I3:=
  I2.WS (ys:=[]) (its:=[]) (t':=a.toks) .nil (Ci _)
 have f3:∀b∈fp,gA X y3 (upd H2 a.heap.objs.size (.lst [])) b:=λb k=>⟨by rw[aI (Bc (c3 b k))];exact(f2 b k).1,(f2 b k).2⟩
 have Y:tn 0 (a.heap.push {cls:=.type "list",dict:=none,data:=.seq ([]:List Value).toArray}):=T.keep _ _ _ b1 λb _ o e=>Af _ e
 generalize c1:({a with heap:=a.heap.push {cls:=.type "list",dict:=none,data:=.seq ([]:List Value).toArray}}:Shared)=f at I3 ⊢
 have e3:f.heap=a.heap.push {cls:=.type "list",dict:=none,data:=.seq ([]:List Value).toArray}:=by rw[<-c1]
 rw[<-e3]at Y;have R:∀b∈fp,b<f.heap.objs.size:=λb k=>by
  obtain⟨o,e,_⟩:=T.obj 0 _ Y b k;exact Aq e
 refine wpAny_newFunctionEnv Z (by intro y hy;simp at hy) (λF O G=>?_) L
 have c2:=O
 have I4:=vK (t1:=f.toks) I3 ck L f3 R c2 G
 have b8:∀b o,f.heap.get? b=some o->F.get? b=some o:=λb o e=>(G.2 b (Bc (Aq e))).trans (Af _ e)
 have a9:=T.keep _ _ _ Y λb _ o e=>b8 b o e
 have P:∀ l,l={ f with heap:=F,toks:=f.toks }->
     codeAny (model X.prog X.w) X.A (.compLoop (.ListComp elt [⟨tg,iter,ifs,0⟩] scope pos) 0 (.ref it) (.ref a.heap.objs.size) (compEnvC scope cl f.heap.objs.size X.env))
      (RR (.ref a.heap.objs.size) f.heap.objs.size) l:=by
  rintro l rfl;have a2:∀ {j:Hp},(∀b∈fp,j b=none)->∀b∈fp,gA (ZC X N scope cl f.heap.objs.size f (upd H2 a.heap.objs.size (.lst [])) fp) [] j b:=λhn b k=>
   ⟨hn b k,Nat.ne_of_lt (R b k),λhs=>I4.ok.Ys b k hs,.inl k,λx c e=>(I4.ok.V_ b k).2 x c e,λp hp=>absurd (show p∈([]:Q3) from hp) (by simp)⟩
  refine xE (λn I=>∃i j,Inv (ZC X N scope cl f.heap.objs.size f (upd H2 a.heap.objs.size (.lst [])) fp) [] (vals U) j I/\tn i I.heap/\(∀b∈fp,j b=none)/\W i n j) ?_ m0
   ⟨0,_,I4,a9,λb k=>(f3 b k).1,w0⟩
  rintro n s5 ⟨i,H5,I5,a8,b2,w5⟩;rcases a4 i n H5 w5 with⟨a6,q⟩|⟨go,a7⟩
  .refine Z1 (T.done (ZC X N scope cl f.heap.objs.size f (upd H2 a.heap.objs.size (.lst [])) fp) rfl rfl rfl hc i [] s5 (vals U) H5 (λ_ _=>False) I5 (a2 b2) a8 a6) λr s6 ⟨hr,I6⟩=>?_;subst hr;obtain⟨m,hn,_⟩:=id I6.loc;exact c4 _ _ s6 H5 m hn q (λa1 b9=>yO I3 f3 I6 b9) (I3.YV (Ah _) I6.free)
  .refine Z1 (T.item (ZC X N scope cl f.heap.objs.size f (upd H2 a.heap.objs.size (.lst [])) fp) rfl rfl rfl hc i [] s5 (vals U) H5 (λ_ _=>False) I5 (a2 b2) a8 go) λr s6 ⟨u,hr,h6⟩=>?_;subst hr;refine Z1 h6 λ_ s7 μ=>?_;obtain⟨x,H7,I7,r7,y7,V,c5⟩:=μ;have c7:=I7.pinned (a2 c5) (T.obj _ _ V)
   refine Z1 (hg _ _ _ _ _ s7 (vals U) H7 x u _ c7 r7 (a7 x H7 y7)) λ_ s8 μ=>?_;obtain⟨U8,H8,I8,a3,q8⟩:=μ;refine Z1 (ht _ _ _ _ _ s8 U8 H8 _ I8 q8) λb s9 μ=>?_;obtain⟨H9,I9,q9⟩:=μ;have M:∀ {m':Nat} {I:Shared} {j:Hp},Inv (ZC X N scope cl f.heap.objs.size f (upd H2 a.heap.objs.size (.lst [])) fp) ([]++kE fp s7.heap) U8 j I->m' < n->W (i+1) m' j->
       ∃m,m<n/\∃i j,Inv (ZC X N scope cl f.heap.objs.size f (upd H2 a.heap.objs.size (.lst [])) fp) [] (vals U) j I/\tn i I.heap/\(∀b∈fp,j b=none)/\W i m j:=fun {m' I j} J7 hm w7=>by
    refine⟨m',hm,i+1,j,(J7.weak a3.1 a3.2).ZL,T.keep _ _ _ V λb k o e=>(J7.pin (b,o) (Bd _ (Bd _ (dU k e)))).1,λb k=>?_,w7⟩;obtain⟨o,e,d⟩:=T.obj _ _ V b k;exact(J7.pin (b,o) (Bd _ (Bd _ (dU k e)))).2.1
   cases b with
   |true=>
    rw[if_pos rfl]at q9 ⊢;refine Z1 (he _ _ _ _ _ s9 U8 H9 _ I9 q9) λv b6 μ=>?_;obtain⟨y,b4,c9,b7,zs,hz,hl,m',hm,b5⟩:=μ;have ap:=sJ ([]++kE fp s7.heap) b6 U8 b4 (.ref a.heap.objs.size) [y] (.ref a.heap.objs.size) [v] (λ_ j=>j=upd b4 a.heap.objs.size (.lst (zs++[y]))) c9 rfl (.cons b7 .nil) ⟨_,_,_,rfl,rfl,hz,hl,rfl⟩
    refine Z1 ap λ_ d1 μ=>?_;obtain⟨_,d2,c8,_,c6⟩:=μ;subst c6;exact M c8 hm b5
   |false=>
    rw[if_neg Av]at q9 ⊢;obtain⟨m',hm,w9⟩:=q9;exact M I9 hm w9
 exact codeAny_compStart_list (P _ rfl) (T.self _ 0 _ _ _ a9 (P _ rfl))
section
variable {spos:Pos} {wi:TI}
def dB(K:X.calm=true)(E:PI X tg iter wi)(r:Yk X N scope cl vals)(f:∀y∈scope.names,y.2≠.cell)(c:scope.kind=.function)(d:∀x∈scope.names,x.2=.local->scope.names.lookup x.1=some .local)(F:∀C a b i,PG (ZC X N scope cl C a b i) tg g)(z:∀C a b i,PF (ZC X N scope cl C a b i) ifs tests)(G:∀C a b i,PE (ZC X N scope cl C a b i) elt te)(hs:∀x,foldedSetIterable iter X.env x=pure x:=by intro _;rfl):PE X (.ListComp elt [⟨tg,iter,ifs,0⟩] scope pos) (Vs wi g tests te vals):=by
 intro p s U H Q I h;refine Gk  rfl hs r.clos c d (Z1 (E p s U H _ I h) λv W M=>Z1 M λu V L=>?_);obtain⟨Z,fp,S,J,H2,e,P,T,k,O,q⟩:=L;subst e;refine RA  P T k O K r f c F z G q λD C Y R m B t j _=>?_;exact⟨m,B,λn l=>⟨.ref D,R,j n l,rfl,t⟩⟩
def kM{i:Nat}(hN:X.N.Nodup)(L:X.N[i]?=some x)(Z:Loc X.env.scope x)(hc:X.calm=true)(hi:PI X tg iter wi)(S:Yk X N scope cl vals)(n:∀y∈scope.names,y.2≠.cell)(f:scope.kind=.function)(j:∀x∈scope.names,x.2=.local->scope.names.lookup x.1=some .local)(hg:∀C c d u,PG (ZC X N scope cl C c d u) tg g)(ht:∀C c d u,PF (ZC X N scope cl C c d u) ifs tests)(he:∀C c d u,PE (ZC X N scope cl C c d u) elt te)(K:swapsWith (.ListComp elt [⟨tg,iter,ifs,0⟩] scope pos) (some (.Name x py)) spos.line X.env=pure true:=by rfl)(hf:X.fn x=true\/X.env.scope.names.lookup x=some .local:=by first|exact .inl rfl|exact .inr rfl|assumption)(hs:∀x,foldedSetIterable iter X.env x=pure x:=by intro _;rfl):PS X (.Assign [.Name x py] (.ListComp elt [⟨tg,iter,ifs,0⟩] scope pos) spos) (VY (Vs wi g tests te vals) (lD i)):=by
 intro E s U H D I h;rw[exec_Assign_Name_used _ _ _ _ K];refine Ac (Gj (Ac ?_));show wpAny _ X.A (do let _ <-comprehension (.ListComp elt [⟨tg,iter,ifs,0⟩] scope pos) scope X.env _ (newList []) false (eval iter X.env) (some (assign (.Name x py) X.env))) _ _ s
 refine Ac (Cf (Gk (use:=some (assign (.Name x py) X.env)) (Q:=λ_ k=>SP X E D .next k) rfl hs S.clos f j
  (Z1 (hi E s U H _ I h) λv s1 h1=>Z1 h1 λY s2 h2=>?_)) (λ_ k hq=>Ag (Ag hq)) λ_ _ e=>e)
 obtain⟨it,fp,tn,J,H2,e,I2,T,F,f2,q⟩:=h2;subst e;refine RA (RR:=λO C=>compPost (model X.prog X.w) X.A X.xe (some (assign (.Name x py) X.env)) (λ_ k=>SP X E D .next k) O C) I2 T F f2 hc S n f hg ht he q λR C k V m hn W B p=>?_;show wpAny _ X.A (assign (.Name x py) X.env (.ref R)) _ _ k
 have I':=B k.heap (Heap.SameBut.refl ..)
 refine wpAny_assign_Name (sA I' hN L Z (v:=.ref R) rfl (λG P l=>?_) hf);obtain⟨a,l,ha⟩:=l;have M:C≠a:=by
  rcases ha with z|z
  .rw[z];exact p.2.1
  .exact λe=>p.2.2.2.2.1 x a z e.symm
 refine⟨m,hn.sameBut l M,λh3 r=>?_⟩;exact⟨U.set i (some (.ref R)),V,P.turned (t':=G.toks) (λb o hb e=>(r.2 b hb).trans e) p.1 p.2.1 p.2.2.2.1 p.2.2.2.2.1 p.2.2.2.2.2,W⟩
def mU(a:∀x∈scope.names,x.2≠.free)(b:∀y∈scope.names,y.2≠.cell):Yk X N scope [] (λ_=>N.map λ_=>none) where
 clos:=closureFor_none a
 sub:=λx c h=>nomatch h
 has:=λx h=>by
  have e:(relabel scope X.env).names=scope.names:=by
   show List.map _ scope.names=scope.names
   refine map_eq_self λy f=>?_;grind
  rw[e]at h;rcases h with h|h
  .exact absurd rfl (b _ (Em h))
  .exact absurd rfl (a _ (Em h))
 len:=λU=>by simp
 val:=λU i x v g d=>by simp_all
end
def IM{xs:List V}{ok:Hp->Prop}(f:V->Option V)(l:∀i H,ok H->i<xs.length->J.go i H)(k:∀H,ok H->J.stop xs.length H)(u:∀i H x j,ok H->J.WZ i H x j->j=H/\xs[i]?=some x)(a:∀D t,H1 D=none->ok (upd H1 D (.lst t)))(r:xs.length<sizeLine)(hs:∀(i:Nat) x d A (B:Hp->Prop),xs[i]?=some x->ok d->(match f x with|some y=>A y d|none=>B d)->g x U0 d λo v=>Wk U0 o/\tests o v λb s=>if b=true then te o s A else B s)(n:∀D,H1 D=none->Q (.ref D) (upd H1 D (.lst (xs.filterMap f)))):dQ g tests te U0 Q J H1:=by
 intro D h;refine⟨λi m d=>m=xs.length-i/\i<=xs.length/\d=upd H1 D (.lst ((xs.take i).filterMap f)),⟨xs.length,by simp,Nat.zero_le _,by simp⟩,?_⟩
 rintro i m d ⟨rfl,w,rfl⟩;by_cases c:i<xs.length
 .refine .inr ⟨l i _ (a D _ h) c,λx j y=>?_⟩;obtain⟨e,q⟩:=u i _ x j (a D _ h) y;subst e;refine hs i x _ _ _ q (a D _ h) ?_;have p:xs.take (i+1)=xs.take i++[x]:=by rw[Bl,q];rfl
  cases e:f x with
  |some y=>
   refine⟨_,aD,?_,xs.length-(i+1),by omega,rfl,c,?_⟩
   .have:=Dc f (xs.take i)
    rw[Ce]at this;omega
   .rw[QJ,p,Bu];simp[e]
  |none=>
   refine⟨xs.length-(i+1),by omega,rfl,c,?_⟩
   rw[p,Bu];simp[e]
 .have e:i=xs.length:=by omega
  subst e;rw[Bq];exact .inl ⟨k _ (a D _ h),n D h⟩
def N0(f:Nat->Option V)(o:z.length<sizeLine)(hs:∀(i:Nat) c d A (B:Hp->Prop),z.cps.toList[i]?=some c->(match f c with|some y=>A y d|none=>B d)->g (.str ⟨#[c]⟩) U0 d λl s=>Wk U0 l/\tests l s λb m=>if b=true then te l m A else B m)(k:∀D,H1 D=none->Q (.ref D) (upd H1 D (.lst (z.cps.toList.filterMap f)))):dQ g tests te U0 Q (W0 z) H1:=by
 have j:z.cps.toList.length=z.length:=by simp[Str.length]
 have n:z.cps.size=z.length:=rfl
 refine IM (xs:=z.cps.toList.map λc=>.str ⟨#[c]⟩) (ok:=λ_=>True) (λx=>match x with|.str y=>f (y.cps.toList.headD 0)|_=>none) (λi H _ h=>?_) (λH _=>?_) (λi H x t _ y=>?_) (λ_ _ _=>trivial) (by rw[Ab,j];exact o) (λi x d A B a _ h=>?_) (λD r=>?_)
 .rw[Ab,j]at h;exact h
 .show z.cps.size<=_
  rw[Ab,j];exact Ah _
 .obtain⟨e,c,p,a⟩:=y;refine⟨e,?_⟩;rw[Ai,Cw,p,a];rfl
 .rw[Ai]at a;cases e:z.cps.toList[i]? with
  |none=>rw[e]at a;cases a
  |some c=>rw[e]at a;cases a;exact hs i c d A B e h
 .have q:=k D r
  rw[List.filterMap_map];exact q
def CF(h:wi U H λJ a=>dQ g tests te (vals U) Q J a):Vs wi g tests te vals U H Q:=h
def Lp{Q:Bool->Hp->Prop}(h:Q true H):Qo U H Q:=h
noncomputable def W6(a:Env):List (Str×NameKind)->List (Str×Addr)->List (Str×Addr)
 |[],acc=>acc
 |(n,k)::r,acc=>if k == .free then W6 a r ((n,(a.cells.lookup n).getD 0)::acc) else W6 a r acc
noncomputable def Tr(a:List (Option Nat)):St->St:=λU=>a.map λo=>match o with|none=>none|some j=>(U[j]?).join
noncomputable def Qf(N c:List Str)(sn b:List (Str×NameKind))(a:List (Option Nat)):Bool:=
 a.length==N.length&&(sn.all λy=>y.2 != .cell&&(y.2 != .free || b.lookup y.1==some .cell))&&decide ((sn.map (·.1)).Nodup) &&
 ((List.range N.length).all λi=>match a[i]? with|some (some j)=>N[i]? == c[j]? && (match N[i]? with|some x=>sn.lookup x==some .free|none=>false)|_=>true)
theorem Ta:∀b d,(∀y∈b,y.2=.free->∃c,env.cells.lookup y.1=some c)->
 (forIn b d (λx l=>(match x with
  | (f,g)=>if (g == NameKind.free)=true then do
      let a <-cellOf env f
      pure (ForInStep.yield ((f,a)::l))
   else pure (ForInStep.yield l):Sem (ForInStep (List (Str×Addr))))))=(pure (W6 env b d):Sem (List (Str×Addr)))
 |[],d,_=>rfl
 |(n,k)::r,d,h=>by
  rw[List.forIn_cons];unfold W6;cases e:k==NameKind.free with
  |false=>
   simp only[e,Bool.false_eq_true,if_false,pure_bind];exact Ta r d λy i=>h y (Ao _ i)
  |true=>
   obtain⟨c,m⟩:=h (n,k) List.mem_cons_self (by simp_all)
   have j:=m
   simp only[e,if_true,cellOf,j,Option.getD_some,pure_bind];exact Ta r _ λy i=>h y (Ao _ i)
theorem S2:∀a b {x:Str} {c:Addr},(W6 env a b).lookup x=some c->
 b.lookup x=some c\/((x,NameKind.free)∈a/\c=(env.cells.lookup x).getD 0)
 |[],b,x,c,h=>.inl h
 |(n,k)::r,b,x,c,h=>by
  unfold W6 at h;cases e:k==NameKind.free with
  |false=>
   rw[e]at h;rcases S2 r b (by simpa using h) with z|⟨z,q⟩
   .exact .inl z
   .exact .inr ⟨Ao _ z,q⟩
  |true=>
   rw[e]at h;have g:k=.free:=by simpa using e
   rcases S2 r _ (by simpa using h) with z|⟨z,q⟩
   .rw[Ek]at z;cases f:x==n with
    |true=>
     grind
    |false=>rw[f]at z;exact .inl z
   .exact .inr ⟨Ao _ z,q⟩
theorem Uj:∀b a {x:Str},(a.lookup x).isSome=true->((W6 env b a).lookup x).isSome=true
 |[],a,x,h=>h
 |(n,k)::r,a,x,h=>by
  unfold W6;split
  .refine Uj r _ ?_;rw[Ek];cases c:x==n with
   |true=>rfl
   |false=>exact h
  .exact Uj r a h
theorem uG:∀a b {x:Str},(x,NameKind.free)∈a->((W6 env a b).lookup x).isSome=true
 |_::r,b,x,h=>by
  unfold W6;rcases Bb.mp h with z|z
  .cases z;refine Uj r _ ?_;rw[Ek,Gd];rfl
  .split
   .exact uG r _ z
   .exact uG r b z
theorem kF:∀ {a:List (Str×NameKind)} {c:NameKind},(a.map λ(n,k)=>if (k==NameKind.free&&env.scope.kind == .function&&env.kindOf n==some .cell) then (n,NameKind.cell) else (n,k)).lookup x=some c->
 ∃k,(x,k)∈a/\(c=k\/(k=.free/\c=.cell))
 |[],_,h=>by simp at h
 |(n,k)::r,c,h=>by
  rw[Ax]at h;dsimp only at h;cases e:(k==NameKind.free&&env.scope.kind == .function&&env.kindOf n==some .cell) with
  |true=>
   rw[e,if_pos rfl,Ek]at h;cases b:x==n with
   |true=>
    grind
   |false=>
    rw[b]at h;obtain⟨d,g,f⟩:=kF h;exact⟨d,Ao _ g,f⟩
  |false=>
   rw[e,if_neg Av,Ek]at h;cases b:x==n with
   |true=>
    grind
   |false=>
    rw[b]at h;obtain⟨d,g,f⟩:=kF h;exact⟨d,Ao _ g,f⟩
theorem tE(d:env.scope.kind=.function)(c:env.kindOf x=some .cell):∀ {a:List (Str×NameKind)},a.lookup x=some .free->
 (a.map λ(n,k)=>if (k==NameKind.free&&env.scope.kind == .function&&env.kindOf n==some .cell) then (n,NameKind.cell) else (n,k)).lookup x=some .cell
 |(n,k)::r,h=>by
  rw[Ax];dsimp only;rw[Ek]at h;cases b:x==n with
  |true=>
   grind
  |false=>
   rw[b]at h;have e:=tE d c h
   split<;>(rwa[Ek,b])
def iQ{N:List Str}(B:List Str)(g:Scope)(p:List (Option Nat))(G:X.N=B)(f:X.env.scope=g)(D:g.kind=.function)(m:∀x,g.names.lookup x=some .cell->∃c,X.env.cells.lookup x=some c)(c:Qf N B scope.names g.names p=true):Yk X N scope (W6 X.env scope.names []) (Tr p):=by
 unfold Qf at c;simp only[Bool.and_eq_true,decide_eq_true_eq,List.all_eq_true,beq_iff_eq]at c;obtain⟨⟨⟨I,A⟩,K⟩,H⟩:=c;have r:∀y,(y,NameKind.free)∈scope.names->g.names.lookup y=some .cell:=λy l=>by
  have z:=(A _ l).2
  simpa using z
 have d:∀y,(y,NameKind.cell)∉scope.names:=λy l=>by
  have z:=(A _ l).1
  simp at z
 refine⟨?_,λx c h=>?_,λx h=>?_,λU=>?_,λU i x v b a=>?_⟩
 .unfold closureFor;simp only[bind_pure];exact Ta scope.names [] λy l F=>m y.1 (r y.1 (by rw[<-F];exact l))
 .rcases S2 _ _ h with z|⟨z,q⟩
  .simp at z
  .obtain⟨L,e⟩:=m x (r x z);rw[q,e];rfl
 .have:∃ k,(x,k)∈scope.names/\k=.free:=by
   rcases h with h|h
   .obtain⟨k,b,a⟩:=kF h;rcases a with z|⟨z,_⟩
    .subst z;exact absurd b (d x)
    .exact⟨k,b,z⟩
   .obtain⟨k,b,a⟩:=kF h;rcases a with z|⟨z,J⟩
    .exact⟨k,b,z.symm⟩
    .exact⟨k,b,z⟩
  obtain⟨k,b,rfl⟩:=this;exact Fj.mp (uG scope.names [] b)
 .unfold Tr;rw[Ab,I]
 .unfold Tr at a;rw[Ai]at a;cases e:p[i]? with
  |none=>rw[e]at a;cases a
  |some o=>
   rw[e]at a;cases o with
   |none=>cases a
   |some j=>
    have E:=(Ae.mp b).1
    have z:=H i (Bh.mpr E)
    rw[e,b]at z;simp only[Bool.and_eq_true,beq_iff_eq]at z;have C:U[j]?=some (some v):=by
     have n:(U[j]?).join=some v:=by simpa using a
     cases w:U[j]? with
     |none=>rw[w]at n;cases n
     |some o=>rw[w]at n;cases o with
      |none=>cases n
      |some u=>cases n;rfl
    have t:=Em z.2
    have s:=r x t
    refine⟨j,by rw[G];exact z.1.symm,C,by rw[f];exact s,Fj.mp (uG scope.names [] t),?_⟩
    exact tE (by rw[f];exact D) (by show X.env.scope.names.lookup x=_;rw[f];exact s) z.2
section
open PySem.AutoSeq1 (wpAny_loadPart')
def QY{x y:Sem α}{Q:α->Shared->Prop}(h1:wpAny M A x Q E s)(a:wpAny M A y Q E s):wpAny M A (if c=true then x else y) Q E s:=by
 cases c
 .exact a
 .exact h1
def Mv(l:Addr)(its:Array Value)(n:Nat)(q:Option Addr)(i:Array (Option Value))(k:Int)(t:Tok)(o:Builtin.SmallTypes.fitsIndex k=true):Meets (Builtin.«enumerate.__new__» ⟨[.type "enumerate",.ref l],[("start",.int k t)]⟩) (λ_ R s=>s.heap.get? l=some ⟨.type "list",q,.seq its n,i⟩/\
 R (.ok (.ret (.ref (s.heap.push {cls:=.type "list_iterator",data:=.fields #[.ref l,.int 0 0]}).objs.size)))
  {s with heap:=(s.heap.push {cls:=.type "list_iterator",data:=.fields #[.ref l,.int 0 0]}).push ⟨.type "enumerate",none,.fields #[.none,.bool false,.ref s.heap.objs.size,rawInt k,.none,.none],#[]⟩}):=
 .of_wp λb w A R s h=>by
  obtain⟨e,g,d,f,j⟩:=s;obtain⟨a,h⟩:=h;have c:=sub_enumerate
  have p:Heap.IsList e l its:=⟨_,a,rfl,n,rfl⟩
  wp_walk using Cp a
  refine wpAny_stack_any λr=>Ag ?_;refine QY ?_ ?_ <;>
  .wp_walk using (Cp a),(Fb (s:=⟨e,g,d,f,j⟩) p)
   exact⟨_,rfl,h⟩
def rF{u:Builtin}{a:List Value}{d:List (Str×Value)}{S:PySem.Spec}{Q Q1:Q2}(b:TypeCalled T newId "object.__init__")(x:checkTypeCall T ⟨a,d⟩=pure ())(m:checkBuiltinCall newId ⟨.type T::a,d⟩=pure ())(C:entryFor table newId=some u)(g:Meets (u ⟨.type T::a,d⟩) S)(h:S A.in1 (wants Q1 E) s)(k:∀o f,Q1 o f->f.TypeIs o T/\argsOk "object.__init__" ⟨o::a,d⟩/\∃n,Meets (Builtin.«object.__init__» ⟨o::a,d⟩) n/\n A.in1 (wants (λr p=>r=.none/\Q o p) E) f):wpAny (model prog w) A (call (.type T) a d) Q E s:=by
 obtain⟨c,D,t⟩:=b.mro;have l:=b.made
 have q:=b.sub
 have I:=b.notType
 have H:=b.canCreate
 refine Fv (codeAny_of_tree (show wpAny _ _ (callAny (.type T) _) _ _ _ from Ag ⟨Il _ (by right),Et F.entry_type_call ?_⟩))
 rw[Around.under_plain (weight_type_call_type T a d) (units_type_call_type T a d)];repeat (any_goals first|assumption|wp_step)
 refine Dy (Fn b.plain C (Jm m (g prog w A.in1 _ s h))) ?_;rintro(e|fl) f hr
 .exact hr
 .cases fl with
  |ret o=>
   obtain⟨z,j,n,B,i⟩:=k _ _ hr;have v:=b.init.lookup
   have y:=b.init.bind o
   repeat (any_goals first|assumption|wp_step)
   refine Dy (Fn b.init.plain F.entry_object_init (b.init.check _ _ _ _ _ _ _ _ z j (B prog w A.in1 _ f i))) ?_;rintro(e|fl2) p hr2
   .exact hr2
   .cases fl2 with
    |ret r=>
     obtain⟨rfl,G⟩:=hr2;repeat (any_goals first|assumption|wp_step)
    |_=>exact hr2.elim
  |_=>exact hr.elim
def NY{b:Value}{c:List Value}{f:List (Str×Value)}(j:typeLookup (.type T) "__init__"=pure (some (.builtin "object.__init__")))(i:Bind.madeBy (.type T)=pure (some newId))(h:(some newId != some "object.__new__")=true):Meets (Builtin.«object.__init__» ⟨b::c,f⟩) (λ_ R s=>s.TypeIs b T/\R (.ok (.ret .none)) s):=by
 refine Meets.of_wp λe w A R s g=>?_;obtain⟨k,d⟩:=g;cases c with
 |nil=>
  cases f with
  |nil=>exact Ag ⟨_,rfl,d⟩
  |cons a r=>
   repeat (any_goals first|assumption|wp_step)
   exact⟨_,rfl,d⟩
 |cons a r=>
  repeat (any_goals first|assumption|wp_step)
  exact⟨_,rfl,d⟩
def qY{k:Int}{t:Tok}{Q:Q2}(p:Builtin.SmallTypes.fitsIndex k=true)(v:s.heap.IsList l its)(h:∀a,IsEnum a (s.heap.objs.size+1) s.heap.objs.size k .none->a.IsListIter s.heap.objs.size l 0->a.objs.size=s.heap.objs.size+2->(∀b o,s.heap.get? b=some o->a.get? b=some o)->Q (.ref (s.heap.objs.size+1)) {s with heap:=a}):wpAny (model prog w) A (call (.type "enumerate") [.ref l] [("start",.int k t)]) Q E s:=by
 obtain⟨⟨c,z,y,j⟩,m,u,n,r⟩:=v;obtain rfl:c=.type "list" := u;obtain rfl:y=.seq its n:=r;have e:(s.heap.push {cls:=.type "list_iterator",data:=.fields #[.ref l,.int 0 0]}).objs.size=s.heap.objs.size+1:=Ed ..
 refine rF (Q1:=λo d=>d.TypeIs o "enumerate"/\Q o d) F.called_enumerate (by kernel_rfl) (by kernel_rfl) F.entry_enumerate_new (Mv l its n z j k t p) ⟨m,?_⟩ λo d f=>⟨f.1,?_,_,NY F.called_enumerate.init.lookup F.called_enumerate.made (by decide),f.1,rfl,f.2⟩
 .show _/\_
  rw[e];have g:IsEnum ((s.heap.push {cls:=.type "list_iterator",data:=.fields #[.ref l,.int 0 0]}).push ⟨.type "enumerate",none,.fields #[.none,.bool false,.ref s.heap.objs.size,rawInt k,.none,.none],#[]⟩) (s.heap.objs.size+1) s.heap.objs.size k .none:=by
   have q:=Au (s.heap.push {cls:=.type "list_iterator",data:=.fields #[.ref l,.int 0 0]}) (o:=⟨.type "enumerate",none,.fields #[.none,.bool false,.ref s.heap.objs.size,rawInt k,.none,.none],#[]⟩) rfl
   rwa [e]at q
  exact⟨⟨_,g,rfl⟩,h _ g ⟨_,Af _ (Au _ rfl),rfl,rfl⟩ (by rw[Ed,e]) λb o x=>Af _ (Af _ x)⟩
 .unfold argsOk;rw[signature?_of (n:=['_','_','t','i','n','i','_','_']) (o := "tcejbo".toList) (by kernel_rfl) F.owner_object]
  kernel_rfl
def iN{P:Nat->Value->Prop}{S:Nat->Heap->Prop}(k:Nat)(D:Draws prog w A it fp n P S):Draws prog w A it fp (k+n) (λj v=>P (j-k) v) (λj h=>k<=j/\S (j-k) h) where
 live:=λi h a=>D.live _ h a.2
 frame:=λi h b a e=>⟨a.1,D.frame _ h b a.2 e⟩
 item:=λi s Q E o a g=>D.item _ s Q E (by omega) a.2 λx b c l f d=>g x b c l ⟨by have:=a.1;omega,by rwa[show i+1-k=i-k+1 by grind]⟩ d
 done:=λs Q E a m=>D.done s Q E (by grind) m
def Inv.YX{ch:List Addr}{o:HO}{t':Nat}(I:Inv X y3 U H s)(f:∀b∈ch,gA X y3 H b)(k:∀b u,b∉ch->s.heap.get? b=some u->h'.get? b=some u)(A:s.heap.objs.size<=a)(x:ZX X.prog X.w (upd H a o) h' a o):Inv X y3 U (upd H a o) {s with heap:=h',toks:=t'}:=by
 have l:=I.Z4.fresh A
 have j:∀b u,H b=some u->b∉ch:=λb u e z=>by rw[(f b z).1]at e;cases e
 refine I.step (g':=s.gens) (d':=s.drawn) (ch:=ch) (λb p=>?_) (λb o _ _ i e _=>k b o i e) (λb o _ _ i e _=>⟨o.slots,k b o i e⟩) (λb o _ e n=>?_) (λb o i e=>⟨o,k b o i e⟩)
  (λb B e=>by rw[aI (bM e l)];exact e) (λb o u e=>by rw[aI (bM e l)];exact e) (λb M e=>⟨#[],by rw[aI (bM e l),e];simp⟩) (λm J=>?_) (λb u e=>?_) I.bare
 .obtain⟨_,F,_,E,D,C⟩:=f b p;exact⟨E,F,D,C⟩
 .rw[aI (Bc (Bi (Aq e) A))];exact n
 .obtain⟨y,K,L,G,r⟩:=J;exact⟨y,K,L,k _ y (λz=>(f _ z).2.1 rfl) G,r⟩
 .by_cases p:b=a
  .subst p;rw[aD]at e;cases e;exact x
  .rw[aI p]at e;refine(I.Z4 b u e).Zb (λc v i q=>k c v ?_ q) (λc q=>by rw[aI (bM q l)];exact q) λc B q=>by rw[aI (bM q l)];exact q
   rcases i with z|z
   .rw[z];exact j b u e
   .exact j c _ z
def Inv.Ym{ch:List Addr}{t':Nat}(I:Inv X y3 U H s)(a:∀b∈ch,gA X y3 H b)(k:∀b u,b∉ch->s.heap.get? b=some u->h'.get? b=some u):Inv X y3 U H {s with heap:=h',toks:=t'}:=by
 have i:∀b u,H b=some u->b∉ch:=λb u e z=>by rw[(a b z).1]at e;cases e
 refine I.step (g':=s.gens) (d':=s.drawn) (ch:=ch) (λb C=>?_) (λb o _ _ f e _=>k b o f e) (λb o _ _ f e _=>⟨o.slots,k b o f e⟩) (λb o _ e n=>n) (λb o f e=>⟨o,k b o f e⟩)
  (λb l e=>e) (λb o u e=>e) (λb F e=>⟨#[],by rw[e];simp⟩) (λm B=>?_) (λb u e=>?_) I.bare
 .obtain⟨_,y,_,x,w,p⟩:=a b C;exact⟨x,y,w,p⟩
 .obtain⟨j,D,E,A,r⟩:=B;exact⟨j,D,E,k _ j (λz=>(a _ z).2.1 rfl) A,r⟩
 .refine(I.Z4 b u e).Zb (λc v f q=>k c v ?_ q) (λc q=>q) λc l q=>q;grind
noncomputable def W4(K:W.Frag)(a:Addr)(k:Nat):It:=
 ⟨λi H=>∃b x,Zo K H a b/\b[i]?=some x,λi H v c=>∃p x,H p=none/\v=.ref p/\c=upd H p (.tup [.int ((k+i:Nat):Int),x])/\∀b,Zo K H a b->b[i]?=some x,λi H=>∃b,Zo K H a b/\b.length=i⟩
def GJ(a e g:Addr)(k:Nat)(J:e≠g):Turn P w K (.Tuple elts x1 tp) (W4 K a k) [e,g] e (λi h=>(∃j,IsEnum h e g ((k+i:Nat):Int) j)/\h.IsListIter g a i) where
 mem:=by simp
 obj:=λi h B b C=>by
  obtain⟨⟨j,r⟩,o,G,c,d⟩:=B;rcases Bb.mp C with z|z
  .subst z;exact⟨_,r,λv z=>by cases z⟩
  .rw[Aj.mp z];exact⟨o,G,λv z=>by rw[d]at z;cases z⟩
 keep:=λi h h' B T=>⟨let ⟨j,r⟩:=B.1;⟨j,T e (by simp) _ r⟩,B.2.at λo q=>T g (by simp) o q⟩
 item:=by
  intro X Q Y hK hc i y3 s U H E I M B Z;subst Q Y hK;obtain⟨xs,x,W,V⟩:=Z;obtain⟨l,S,p,hz⟩:=I.list W;obtain⟨u,hu,ru⟩:=S.get V;obtain⟨⟨j,r⟩,m⟩:=B;have L:a≠g:=by
   rintro rfl;obtain⟨o,G,c,_⟩:=m;obtain⟨o2,f,n,_⟩:=p.isList;rw[G]at f;cases f;rw[c]at n;injection n with n;exact absurd n (by decide)
  have a2:a≠e:=by
   rintro rfl;obtain⟨o2,f,n,_⟩:=p.isList;rw[r]at f;cases f;injection n with n;exact absurd n (by decide)
  have hl:=S.length
  have a7:=(Ae.mp hu).1
  have D:=iN k (Draws.list (prog:=X.prog) (w:=X.w) (A:=X.A.in1) (show X.A.in1.handled=none from I.ok.hd hc) g a L l.toArray)
  refine wpAny_pyNext_enum_itemD D (i:=k+i) r ⟨Gv _ _,by rw[Ds];exact⟨m,p.isList⟩⟩ (by rw[Bj];omega) J (λz=>by
   rcases Bb.mp z with z|z
   .exact J z
   .exact a2 (Aj.mp z).symm) λy h1 R Q G hS hT a6 T=>?_
  refine⟨_,rfl,wpAny_letOwnedTupleGo_enum G λh2 a1 F=>?_⟩;have ey:y=u:=by
   have O:=Q
   rw[Ds]at O;have:l[i]?=some y:=by simpa using O
   rw[hu]at this;cases this;rfl
  subst ey;have N:=Fi (Aq r)
  have a3:s.heap.objs.size≠g:=by obtain⟨o,q,_⟩:=m;exact Fi (Aq q)
  have a4:=(F.2 _ N).trans hT
  have a5:h1.IsListIter g a (i+1):=by
   have q:=hS.2.1
   rwa [show k+i+1-k=i+1 by omega]at q
  have I2:Inv X y3 U (upd H s.heap.objs.size (.tup [.int ((k+i:Nat):Int),x])) {s with heap:=h2,toks:=R+1}:=by
   refine I.YX (ch:=[e,g]) M (λb u C q=>(F.2 b (λz=>C (by simp[z]))).trans (T b u (λz=>C (by simp[z])) (λz=>C (by simp[z])) q)) (Nat.le_refl _) ⟨bH (by show 2<=_;omega),[.int ((k+i:Nat):Int) R,y],.cons ⟨R,rfl⟩ (.cons ru .nil),_,a4,rfl,_,rfl⟩
  refine⟨.ref s.heap.objs.size,_,I2,rfl,⟨_,x,I.Z4.fresh (Ah _),rfl,rfl,λys hy=>by rw[I.Zg hy W];exact V⟩,⟨⟨y,a1⟩,a5.at λo q=>(F.2 g J.symm).trans q⟩,λb C=>?_⟩
  rcases Bb.mp C with z|z
  .rw[z,aI N.symm];exact(M e (by simp)).1
  .rw[List.mem_singleton.mp z,aI a3.symm];exact(M g (by simp)).1
 done:=by
  intro X Q Y hK hc i y3 s U H E I M B Z;subst Q Y hK;obtain⟨xs,W,V⟩:=Z;obtain⟨l,S,p,hz⟩:=I.list W;obtain⟨⟨j,r⟩,m⟩:=B;have hl:=S.length
  have L:a≠g:=by
   rintro rfl;obtain⟨o,G,c,_⟩:=m;obtain⟨o2,f,n,_⟩:=p.isList;rw[G]at f;cases f;rw[c]at n;injection n with n;exact absurd n (by decide)
  have D:=iN k (Draws.list (prog:=X.prog) (w:=X.w) (A:=X.A.in1) (show X.A.in1.handled=none from I.ok.hd hc) g a L l.toArray)
  refine wpAny_pyNext_enum_endD D r ⟨Gv _ _,by rw[Ds,Bj,<-hl,V];exact⟨m,p.isList⟩⟩ λh' eb=>⟨rfl,?_⟩
  exact I.Ym (t':=s.toks) (ch:=[e,g]) M λb u C q=>eb b u (λz=>C (by simp[z])) q
 self:=λ_ _ _ _ _ B h=>let ⟨⟨_,r⟩,_⟩:=B;Jc r h
section
variable {l:Expr} {p kp:Pos}
def Wd(R:Addr->Hp->Prop):List V->Hp->Prop:=λa H=>match a with|[.ref j]=>R j H|_=>False
def Ot{R:Addr->Hp->Prop}{vs:List V}(q:Wd R vs H):∃j,vs=[.ref j]/\R j H:=by
 unfold Wd at q;split at q
 .exact⟨_,rfl,q⟩
 simp_all
def RS(K:W.Frag)(c:TA):TI:=λU H R=>c U H (Wd λa b=>Yx (Z2 b a) (R (W4 K a 0) b))
def R7(K:W.Frag)(d c:TA):TI:=λU H R=>d U H (Wd λa e=>c U e (wQ λk b=>(0<=k/\k<2^62)/\Yx (Z2 b a) (R (W4 K a k.toNat) b)))
def S7(c:Inv X y3 U H1 s1)(d:IsEnum h' (s1.heap.objs.size+1) s1.heap.objs.size ((k:Nat):Int) .none)(f:h'.IsListIter s1.heap.objs.size a 0)(hz:h'.objs.size=s1.heap.objs.size+2)(e:∀b o,s1.heap.get? b=some o->h'.get? b=some o)(q:R (W4 X.K a k) H1):wpAny (model X.prog X.w) X.A (pyIter (.ref (s1.heap.objs.size+1))) (Us X y3 U (.Tuple elts x1 tp) R) E {s1 with heap:=h'}:=by
 refine Jc (s:={s1 with heap:=h'}) d ⟨_,[s1.heap.objs.size+1,s1.heap.objs.size],_,_,H1,rfl,c.kept (t':=s1.toks) e,GJ a _ _ k (Nat.succ_ne_self _),⟨⟨_,d⟩,f⟩,λb g=>?_,q⟩
 have z:s1.heap.objs.size<=b:=by
  rcases Bb.mp g with z|z
  .rw[z];exact Iq _
  simp_all
 exact c.YV z (c.Z4.fresh z)
def kK(o:Gl X "enumerate")(j:X.mg "enumerate"=none)(t:PA X [l] ta)(hs:starEach [l] X.env=[(false,eval l X.env)]:=by rfl):PI X (.Tuple elts x1 tp) (.Call (.Name "enumerate" p) [l] [] pos) (RS X.K ta):=by
 intro d s U H R I h;refine Call_ (iZ I o j boot_enumerate (Dz (Z1 (t pos d s U H _ I h) λy z μ=>?_) hs rfl));obtain⟨x,C,c,f,g⟩:=μ;obtain⟨a,rfl,q⟩:=Ot g;obtain⟨u,rfl,e⟩:=dI f;cases e;unfold Yx at q;split at q
 .rename_i w v
  obtain⟨i,A,p,b⟩:=c.list (bD v);exact call_enumerate_list p.isList λB r n b m=>S7 c (k:=0) r n b m q
 simp_all
def qG{b:List (Bool×Sem Value)}{c:List (Option Str×Sem Value)}{Q:Q2}(h1:b.any (·.1)=false)(g:c.any (·.1.isNone)=false)(h:wpAny M A (evalArgs (.type T) true b c) (λa d=>wpAny M A (call (.type T) a.pos a.kw) Q E d) E s):wpAny M A (callWith pos (.type T) [] b c) Q E s:=by
 refine Ac (Cb (Cf h (λa d e=>Ac (Gj ?_)) λ_ _ x=>x));rw[h1,g];exact Ac (Ag (Ac (Cf e (λr i f=>Ac (Cb (wpAny_point (Ag f)))) λ_ _ x=>x)))
def Mw{d:Expr}(A:Gl X "enumerate")(y:X.mg "enumerate"=none)(C:PA X [l] ta)(f:PK X [⟨some "start",d,kp⟩] tk)(hs:starEach [l] X.env=[(false,eval l X.env)]:=by rfl)(c:keywordEach [⟨some "start",d,kp⟩] X.env=[(some ("start" : Str),eval d X.env)]:=by rfl):PI X (.Tuple elts x1 tp) (.Call (.Name "enumerate" p) [l] [⟨some "start",d,kp⟩] pos) (R7 X.K ta tk):=by
 intro g s U H R I h;have b:backTo pos (starEach [l] X.env)=[(false,eval l X.env)]:=by rw[hs];rfl
 refine Dt (iZ I A y boot_enumerate (qG (by rw[b];rfl) (by rw[c];rfl) ?_))
 rw[b];refine evalArgs_kwB (by rw[c];rfl) ?_
 rw[<-b];refine Z1 (C pos g s U H _ I h) λN m μ=>?_;obtain⟨M,F,E,r,w⟩:=μ;obtain⟨a,rfl,q⟩:=Ot w;refine Z1 (f pos g m U F _ E q) λL O μ=>?_;obtain⟨G,V,j,o,v⟩:=μ;obtain⟨k,rfl,⟨S,Q⟩,q⟩:=uH v;obtain⟨u,rfl,n⟩:=dI r;cases n;obtain⟨u,rfl,t,rfl⟩:=dI o;unfold Yx at q;split at q
 .rename_i J D
  obtain⟨x,P,p,i⟩:=j.list (bD D);have e:(backToKw pos (keywordEach [⟨some "start",d,kp⟩] X.env)).filterMap (·.1)=(["start"]:List Str):=by rw[c];rfl
  rw[e];refine qY (by unfold Builtin.SmallTypes.fitsIndex;rw[An (by omega),An (by omega)];rfl) p.isList λT B z i f=>S7 j (k:=k.toNat) ?_ z i f q
  rw[show ((k.toNat:Nat):Int)=k by omega]
  exact B
 .exact q.elim
end
section
variable {k:Nat}
def kD(b:Nat->St->Hp->Prop)(r:b 0 U H)(l:∀i U H,i<=xs.length->b i U H->Z2 H a=some xs)(hs:∀i x U H p,xs[i]?=some x->b i U H->H p=none->g (.ref p) U (upd H p (.tup [.int ((k+i:Nat):Int),x])) λs t=>tb {D with nx:=b (i+1),ct:=b (i+1),bk:=D.nx} s t)(o:∀U H,b xs.length U H->D.nx U H):WO (W4 K a k) g tb D U H:=by
 refine⟨λi m U H=>m=xs.length-i/\i<=xs.length/\b i U H,⟨xs.length,by simp,Nat.zero_le _,r⟩,?_⟩
 rintro i m U H ⟨rfl,n,p⟩;have d:=l i U H n p
 by_cases c:i<xs.length
 .refine .inr ⟨⟨xs,xs[i],bD d,by simp[c]⟩,b (i+1),λv u f=>⟨xs.length-(i+1),by omega,rfl,c,f⟩,λx u y=>?_⟩
  obtain⟨q,z,j,rfl,rfl,h⟩:=y;exact hs i z U H q (h xs (bD d)) p j
 .have e:i=xs.length:=by omega
  subst e;exact .inl ⟨⟨xs,bD d,rfl⟩,o U H p⟩
def Pd(f:Nat->V->Option V)(M:Z2 H1 a=some xs)(O:xs.length<sizeLine)(hs:∀i x d p A (B:Hp->Prop),xs[i]?=some x->Z_ H1 d->d p=none->(∀c,Z_ (upd d p (.tup [.int ((k+i:Nat):Int),x])) c->match f i x with|some y=>A y c|none=>B c)->
 g (.ref p) U0 (upd d p (.tup [.int ((k+i:Nat):Int),x])) λw N=>Wk U0 w/\tests w N λb J=>if b=true then te w J A else B J)(u:∀D c,H1 D=none->Z_ H1 c->Z2 c D=some ((List.range xs.length).filterMap λi=>f i (xs.getD i .non))->Q (.ref D) c):dQ g tests te U0 Q (W4 K a k) H1:=by
 intro D t;refine⟨λi m d=>m=xs.length-i/\i<=xs.length/\Z_ H1 d/\d D=some (.lst ((List.range i).filterMap λi=>f i (xs.getD i .non))),⟨xs.length,by simp,Nat.zero_le _,aG t _,by rw[aD];rfl⟩,?_⟩
 rintro i m d ⟨rfl,P,n,l⟩;have r:=aM n M
 by_cases h:i<xs.length
 .refine .inr ⟨⟨xs,xs[i],bD r,by simp[h]⟩,λv R y=>?_⟩
  obtain⟨q,z,s,rfl,rfl,L⟩:=y;have F:=L xs (bD r)
  have G:xs.getD i .non=z:=by rw[Ad,F];rfl
  refine hs i z d q _ _ F n s λc C=>?_;have j:=C _ _ (aG s _ _ _ l)
  have E:=n.trans ((aG s _).trans C)
  cases e:f i z with
  |some y=>
   refine⟨_,j,?_,xs.length-(i+1),by omega,rfl,h,λb o I=>?_,?_⟩
   .have:=Dc (λi=>f i (xs.getD i .non)) (List.range i)
    rw[Bw]at this;omega
   .rw[aI (bM I t)];exact E b o I
   .rw[aD,Bx,Bu,Cj (b:=y) (by rw[G,e]),Df]
  |none=>
   refine⟨xs.length-(i+1),by omega,rfl,h,E,?_⟩
   rw[j,Bx,Bu,De (by rw[G,e]),Df,Be]
 .have e:i=xs.length:=by omega
  subst e;exact .inl ⟨⟨xs,bD r,rfl⟩,u D d t n (aP l)⟩
def MS(h:ta U H (Wd λa b=>Yx (Z2 b a) (R (W4 K a 0) b))):RS K ta U H R:=h
def AZ(h:ta U H (Wd λa c=>tk U c (wQ λk b=>(0<=k/\k<2^62)/\Yx (Z2 b a) (R (W4 K a k.toNat) b)))):R7 K ta tk U H R:=h
def B1{R:Addr->Hp->Prop}(h:R a H):Wd R [.ref a] H:=h
end
section
variable {t:TG} {u:Xb} {r:List V} {Q:St->Hp->Prop}
def DK(e:nV H a=some xs)(b:xs.length=n)(h:u xs U H Q):Vk K n u (.ref a) U H Q:=⟨a,xs,rfl,.of (iR e),b,h⟩
def J5(h:t v U H λa b=>u r a b Q):zQ t u (v::r) U H Q:=⟨v,r,rfl,h⟩
def ze(h:Q U H):Vc [] U H Q:=⟨rfl,h⟩
end
def eC{K:W.Frag}{i j k:Nat}{y:Str}{d:Pos}(m:X.K=K)(l:X.calm=true)(c:X.N.Nodup)(h:X.N[i]?=some x)(f:Loc X.env.scope x)(b:X.fn x=true\/X.env.scope.names.lookup x=some .local)(g:X.N[j]?=some y)(e:Loc X.env.scope y)(a:X.fn y=true\/X.env.scope.names.lookup y=some .local):PG X (.Tuple [.Name x d,.Name y py] k pos) (Vk K 2 (zQ (lD i) (zQ (lD j) Vc))):=by
 subst m;exact AF l (fY (bB c h f b) (fY (bB c g e a) Tu))
end
structure X2 (B:Heap) (l:List Env) (e:Addr) (cls:Value) (d:Option Addr) (fl:Value) (h:Heap):Prop where
 stays:B.StaysIn h
 new:B.get? e=none
 frames:h.FunFrames B l
 on:∃oe vs T oT ts,h.get? e=some oe/\(oe.cls=cls/\oe.dict=d)/\oe.data=.fields vs/\vs[1]?=some (.ref T)/\B.get? T=none/\T≠e/\h.get? T=some oT/\oT.data=.fields ts/\ts[3]?=some fl/\vs[2]?=some .none
def P5(o:Obj)(f:Array Value->Array Value):(o.mapFields f).dict=o.dict:=by
 obtain⟨c,d,a,b⟩:=o;cases a<;>rfl
def zC{vs:Array Value}{f:Obj->Obj}(g:h.get? a=some o)(d:o.data=.fields vs):∀b u,h.get? b=some u->(∀c,u.data≠.fields c)->(h.update a f).get? b=some u:=λb u e n=>by
 rwa[Ck _ _ (λz=>by grind)]
section
variable {B:Heap} {l:List Env} {L e:Addr} {cls:Value} {Q:Unit->Shared->Prop}
def Of{vs:Array Value}{c:Value}{J:Bool}(u:A.frames=some (env::outer))(l:s.heap.FunFrames B (env::outer))(N:env.frame=some L)(P:B.StaysIn s.heap)(C:B.get? e=none)(D:s.heap.get? e=some oe)(g:oe.data=.fields vs)(h1:1<vs.size)(R:vs[2]?=some .none)(O:∀v,X2 B (env::outer) e oe.cls oe.dict (rawInt L) v->s.heap.UpToSlots v->Q () {s with heap:=v}):wpAny M A (do let a <-frameOf env;let k <-entryPlaceOf L J;let b <-EntryCells.newEntry c a .none (rawInt L) .none k;setField (.ref e) 1 b) Q E s:=by
 have K:e∉(env::outer).filterMap (·.frame):=λt=>by
  obtain⟨_,o,y,f⟩:=l.mem t;rw[D]at y;cases y;exact f vs g
 refine Ac (wpAny_frameOf_fun u l N λd j=>Ac (wpAny_entryPlaceOf λk r=>?_));have F:=(j.2.1 e K).trans D
 have H:B.StaysIn d:=λb o q=>(j.2.1 b λt=>by rw[(l.mem t).1]at q;cases q).trans (P b o q)
 unfold EntryCells.newEntry newFields;refine Ac (Fq ?_ (r.sizeOk5 _ _ _ _ _));generalize p:(([c,.ref L,.none,rawInt L,.none]++(if k.isEmpty then List.replicate 6 Value.none else k):List Value)).toArray=i
 have I:i[3]?=some (rawInt L):=by rw[<-p];simp
 have m:=Af (h:=d) ⟨.type "traceback",none,.fields i,#[]⟩ F
 refine wpAny_setField m g h1 (O _ ?_ ?_)
 .have w:=Fi (Aq F)
  have G:=Ey g (·.setIfInBounds 1 (Value.ref d.objs.size))
  refine⟨λb o q=>?_,C,l.of_keeps λb o q f=>?_,_,_,d.objs.size,⟨.type "traceback",none,.fields i,#[]⟩,i,Heap.get?_update_self _ m (Obj.isFreed_of_fields G),⟨Obj.cls_mapFields _ _,P5 _ _⟩,G,by simp[h1],H.fresh,w,?_,rfl,I,(Array.getElem?_setIfInBounds_ne (by decide)).trans R⟩
  .rw[Ck _ _ (λz=>by rw[<-z,C]at q;cases q)]
   exact Af _ (H b o q)
  .obtain⟨x,n⟩:=j.2.2 b o q;exact⟨_,zC m g b _ (Af _ n) f,rfl⟩
  .rw[Ck _ _ w.symm];exact Au d rfl
 .intro b o q f;obtain⟨x,n⟩:=j.2.2 b o q;exact⟨x,zC m g b _ (Af _ n) f⟩
def BU{vs:Array Value}(a:A.frames=some (env::outer))(i:s.heap.FunFrames B (env::outer))(c:env.frame=some L)(k:B.StaysIn s.heap)(g:B.get? e=none)(d:s.heap.get? e=some oe)(f:oe.data=.fields vs)(h1:vs[1]?=some .none)(l:vs[2]?=some .none)(j:∀b,X2 B (env::outer) e oe.cls oe.dict (rawInt L) b->s.heap.UpToSlots b->Q () {s with heap:=b}):wpAny M A (noteFrame (.ref e) env) Q E s:=by
 unfold noteFrame;simp only[c];refine Ac (Ee d f h1 ?_)
 exact Of a i c k g d f (Dg.mp h1).1 l j
def rA(j:A.frames=some (env::outer))(m:env.frame=some L)(F:X2 B (env::outer) e cls d .none s.heap)(y:∀c,X2 B (env::outer) e cls d (rawInt L) c->s.heap.UpToSlots c->Q () {s with heap:=c}):wpAny M A (noteFrame (.ref e) env) Q E s:=by
 obtain⟨C,u,v,J,H,T,K,I,n,⟨rfl,rfl⟩,p,r,x,k,g,i,l,D⟩:=F;unfold noteFrame;simp only[m];refine Ac (Ee n p r ?_);rw[if_pos (show (Value.ref T != Value.none)=true by simp)]
 refine Ac (Ee g i l ?_);rw[if_neg (show ¬((Value.none==rawInt L)=true) by simp[rawInt])]
 refine Ac (wpAny_setField g i (Dg.mp l).1 ?_);have a:∀b,b≠T->(s.heap.update T (Obj.mapFields (·.setIfInBounds 3 Value.none))).get? b=s.heap.get? b:=λb w=>Ck _ _ (Ne.symm w)
 refine Of (s:={s with heap:=s.heap.update T (Obj.mapFields (·.setIfInBounds 3 Value.none))}) j (v.of_keeps λb o q f=>⟨o,zC g i b o q f,rfl⟩) m
  (λb o q=>(a b λz=>by grind).trans (C b o q)) u ((a e k.symm).trans n) p (Dg.mp r).1 D λc G t=>y c G λb o q f=>t b o (zC g i b o q f) f
def dN(F:X2 B l e cls d fl s.heap)(D:∀i,X2 B l e cls d .none i->s.heap.UpToSlots i->Q () {s with heap:=i}):wpAny M A (setFlight (.ref e) none) Q E s:=by
 obtain⟨G,x,y,w,t,T,I,u,k,C,m,p,n,a,c,f,v,H⟩:=F;have j:=(Dg.mp v).1
 unfold setFlight;refine Ac (Ee k m p ?_);rw[if_pos (show (Value.ref T != Value.none)=true by simp)]
 refine wpAny_setField c f j (D _ ?_ λb o q g=>⟨o.slots,zC c f b o q g⟩);have r:=Ey f (·.setIfInBounds 3 Value.none)
 refine⟨λb o q=>?_,x,y.of_keeps λb o q g=>⟨o,zC c f b o q g,rfl⟩,w,t,T,_,_,?_,C,m,p,n,a,Heap.get?_update_self _ c (Obj.isFreed_of_fields r),r,by simp[j],H⟩
 .rw[Ck _ _ (λz=>by grind)]
  exact G b o q
 .rw[Ck _ _ a];exact k
def X2.less(F:X2 B (env::outer) e cls d fl h):X2 B outer e cls d fl h:=⟨F.stays,F.new,F.frames.2.2,F.on⟩
def Kd{vs:Array Value}(a:A.frames=some (env::outer))(g:s.heap.FunFrames B (env::outer))(i:env.frame=some L)(m:B.StaysIn s.heap)(f:B.get? e=none)(j:s.heap.get? e=some oe)(k:oe.data=.fields vs)(h1:vs[1]?=some .none)(o:vs[2]?=some .none)(l:∀b,X2 B outer e oe.cls oe.dict .none b->s.heap.UpToSlots b->Q () {s with heap:=b}):wpAny M A (leaving env (.ref e)) Q E s:=by
 exact Ac (BU a g i m f j k h1 o λh1 q d=>dN  q λn p c=>l n p.less (d.trans c))
def BW(a:A.frames=some (env::outer))(g:env.frame=some L)(F:X2 B (env::outer) e cls d .none s.heap)(i:∀b,X2 B outer e cls d .none b->s.heap.UpToSlots b->Q () {s with heap:=b}):wpAny M A (leaving env (.ref e)) Q E s:=by
 exact Ac (rA a g F λk m f=>dN  m λj l c=>i j l.less (f.trans c))
end
structure FG (fs:List Addr) (H H':Hp) (h B h':Heap):Prop where
 keep:∀b o,h.get? b=some o->H b=none->b∉fs->B.get? b=some o
 slot:∀b o,h.get? b=some o->H b=none->b∈fs->∃sl,h'.get? b=some {o with slots:=sl}
 free:∀b o,h.get? b=some o->H b=none->H' b=none
 there:∀b o,h.get? b=some o->b∉fs->∃o',B.get? b=some o'
 tups:∀b xs,H b=some (.tup xs)->H' b=some (.tup xs)
 frzs:∀b o u,H b=some (.frz o u)->H' b=some (.frz o u)
 tbls:∀b ps,H b=some (.tbl ps)->∃more,H' b=some (.tbl (ps++more))
def Y3(P:Program)(w:World):XX:=λa H s E e c=>
 ∃g b d B f,e=.ref g/\c.os=s.os/\AllBare c.gens/\X2 B a g b d .none c.heap/\Zj P w f B/\FG (YS a) H f s.heap B c.heap/\E b d f
def Zj.down(x:Zj P w H h)(k:∀b o u,H b=some u->h.get? b=some o->B.get? b=some o):Zj P w H B:=λa u e=>
 (x a u e).Zb (λb o c q=>by grind) (λ_ q=>q) λ_ _ q=>q
def ZX.get{o:HO}(x:ZX P w H h a o):∃b,h.get? a=some b:=by
 cases o with
 |lst d=>obtain⟨_,_,_,_,e⟩:=x;exact⟨_,e⟩
 |tup d=>obtain⟨_,_,_,b,e,_⟩:=x;exact⟨_,e⟩
 |dK c=>obtain⟨_,_,_,_,b,_,_,e,_⟩:=x;exact⟨_,e⟩
 |dT c=>obtain⟨_,_,_,_,b,_,_,e,_⟩:=x;exact⟨_,e⟩
 |set S n=>obtain⟨b,_,_,_,e,_⟩:=x;exact⟨_,e⟩
 |ins C p g=>obtain⟨_,_,_,e,_⟩:=x;exact⟨_,e⟩
 |own y=>exact x
 |xd g=>obtain⟨_,⟨k,_,_,e,_⟩,_⟩:=x;exact⟨_,e⟩
 |rng l m=>obtain⟨_,_,_,e⟩:=x;exact⟨_,e⟩
 |frz b u=>exact⟨_,x.1⟩
 |tbl j=>exact⟨_,x⟩
 |met f y=>exact⟨_,x⟩
 |ext i=>exact x.2.1
def Zj.hole(x:Zj P w H h)(e:h.get? a=none):H a=none:=by
 cases q:H a with
 |none=>rfl
 |some o=>
  obtain⟨b,z⟩:=(x a o q).get;grind
def iV(c:env.frame=some L)(h1:b≠L)(f:b∉YS outer):b∉YS (env::outer):=λa=>by
 obtain⟨e,d,q⟩:=Cy.mp a;rcases Bb.mp d with z|z
 .subst z;rw[c]at q;exact h1 (Bm q).symm
 .exact f (Cy.mpr ⟨e,z,q⟩)
section
variable {s₀:Shared} {H₀:Hp} {E:XK}
def L3{vs:Array Value}(I:Inv (fL (Y3 P w) P w K mg base N qual scope f cd A outer s₀ H₀ E) y3 U H s)(t:s.heap.get? ea=some oe)(O:oe.data=.fields vs)(h1:vs[1]?=some .none)(T:vs[2]?=some .none)(M:H ea=none)(Q:s₀.heap.get? ea=none)(q:E oe.cls oe.dict H):(fL (Y3 P w) P w K mg base N qual scope f cd A outer s₀ H₀ E).xe (.ref ea) s:=by
 have r:=I.ok.frames
 have l:=I.stack
 have m:=I.YK
 have a:=I.base
 have i:∀b o,s₀.heap.get? b=some o->b≠s₀.heap.objs.size:=λb o e=>Bc (Aq e)
 have h:∀b o,s₀.heap.get? b=some o->b≠ea:=λb o e z=>by rw[z,Q]at e;cases e
 have d:∀b o,s.heap.get? b=some o->b≠ea->b∉YS (envOfC qual scope s₀.heap.objs.size f cd::outer)->(W.hideAll s.heap (ea::YS (envOfC qual scope s₀.heap.objs.size f cd::outer))).get? b=some o:=λb o e L J=>
  W.hideAll_get _ e λp=>(Bb.mp p).elim L J
 refine Kd (B:=W.hideAll s.heap (ea::YS (envOfC qual scope s₀.heap.objs.size f cd::outer))) r (W.funFrames_hide l λv t b c=>Ao _ (Cy.mpr ⟨v,t,c⟩)) rfl (λb o q=>W.of_hideAll _ q)
  (W.hideAll_none _ Al) t O h1 T λX S C=>?_
 refine⟨ea,_,_,_,H,rfl,I.os,I.bare,S,I.Z4.down λb o u e g=>d b o g (λz=>by rw[z,M]at e;cases e) λp=>?_,⟨λb o e n c=>?_,λb o e n c=>?_,λb o e n=>a.free b o e n (by simp[fL]),λb o e c=>?_,a.tups,a.frzs,a.tbls⟩,q⟩
 .rw[m b p]at e;cases e
 .exact d b o (a.keep b o e n c (by simp[fL])) (h b o e) (iV rfl (i b o e) c)
 .obtain⟨V,k⟩:=a.slot b o e n c (by simp[fL])
  obtain⟨_,F,R,G⟩:=I.ok.Zr.mem c;have y:s₀.heap.get? b=some F:=R
  rw[e]at y;cases y;obtain⟨j,D⟩:=C b _ k G;exact⟨j,D⟩
 .obtain⟨x,k⟩:=a.there b o e (by simp[fL])
  exact⟨x,d b x k (h b o e) (iV rfl (i b o e) c)⟩
def cS:iD (Y3 P w) (fL (Y3 P w) P w K mg base N qual scope f cd A outer s₀ H₀ E) E:=by
 intro Z U H s e s' I h;obtain⟨W,x,d,B,Y,rfl,L,j,V,r,g,q⟩:=h;have a:=I.base
 have t:∀b o,s₀.heap.get? b=some o->b≠s₀.heap.objs.size:=λb o e=>Bc (Aq e)
 refine BW I.ok.frames rfl V λh2 v C=>?_;have z:∀b o,s₀.heap.get? b=some o->b∉YS outer->b∉YS (envOfC qual scope s₀.heap.objs.size f cd::outer):=λb o e c=>iV rfl (t b o e) c
 have p:∀b,b∈YS outer->b∈YS (envOfC qual scope s₀.heap.objs.size f cd::outer):=λb c=>by
  obtain⟨e,S,q⟩:=Cy.mp c;exact Cy.mpr ⟨e,Ao _ S,q⟩
 refine⟨W,x,d,B,Y,rfl,L.trans I.os,j,v,r,⟨λb o e n c=>?_,λb o e n c=>?_,λb o e n=>?_,λb o e c=>?_,λb y e=>g.tups b y (a.tups b y e),λb o u e=>g.frzs b o u (a.frzs b o u e),λb J e=>?_⟩,q⟩
 .exact g.keep b o (a.keep b o e n c (by simp[fL])) (a.free b o e n (by simp[fL])) (z b o e c)
 .obtain⟨sl,i⟩:=a.slot b o e n c (by simp[fL])
  obtain⟨D,G⟩:=g.slot b _ i (a.free b o e n (by simp[fL])) (p b c)
  obtain⟨_,M,T,O⟩:=I.ok.Zr.mem c;have k:s₀.heap.get? b=some M:=T
  rw[e]at k;cases k;obtain⟨l,F⟩:=C b _ G O;exact⟨l,F⟩
 .obtain⟨m,i⟩:=a.there b o e (by simp[fL])
  exact g.free b m i (a.free b o e n (by simp[fL]))
 .obtain⟨m,i⟩:=a.there b o e (by simp[fL])
  exact g.there b m i (z b o e c)
 .obtain⟨R,X⟩:=a.tbls b J e;obtain⟨Q,k⟩:=g.tbls b _ X;exact⟨R++Q,by rw[k,Array.append_assoc]⟩
end
def LD(X:K.In h)(q:W.excIn K C bmB newId=true):E_17 λd N p m u s k a v b t j i g f e z=>h.get? C=some (excClassObj p m C N u d s k a v b t j i g f e newId)/\h.Ns N z/\z "__init__"=none/\OwnTail h bmB d:=by
 unfold W.excIn at q;split at q
 .rename_i t c w I
  split at q
  .rename_i L d j i g f n e A H
   obtain⟨⟨⟨⟨⟨E,D⟩,y⟩,B⟩,o⟩,x⟩:((((L=C/\n=newId)/\c.hasDel=false)/\W.tailIn K bmB d=true)/\W.nsOkIn K c.ns=true)/\W.nsIn K c.ns "__init__"=some none:=by simp_all
   subst E D;obtain⟨p,u,G,F,m,s,k,a,v,b,J⟩:=c;dsimp only at A y o x;subst A y;obtain rfl:w=#[j,i,g,f,some (.builtin n),e]:=by
    obtain⟨l⟩:=w;simp_all
   exact⟨d,F,p,m,u,s,k,a,v,b,t,j,i,g,f,e,_,X _ _ I,.of_isNs (W.isNs_of_in X o),W.nsMap_none_of_in X o x,W.tail_of_in X B⟩
  .cases q
 .cases q
def Ub(X:Cx)(E:XK):Prop:=∀d (U:St) H s b a c,Inv X d U H s->s.heap.get? b=some a->a.data=.fields c->c[1]?=some .none->c[2]?=some .none->H b=none->X.s₀.heap.get? b=none->
 E a.cls a.dict H->X.xe (.ref b) s
def kZ{a:Shared}{b:Hp}{E:XK}:Ub (fL (Y3 P w) P w K mg base N qual scope f cd A outer a b E) E:=λ_ _ _ _ _ _ _ I d e g i c h q=>L3 I d e g i c h q
section
variable {E:XK} {B initId:String}
def Pr(C:Addr)(E:XK)(b:TA):TS:=λ_ U H=>b U H λa c=>a.length<=sizeLine/\E (.ref C) none c
def wD(J:Ub X E)(f:X.ex=[])(F:X.calm=true)(y:Gl X x)(w:X.mg x=some (.ref C))(a:W.excIn X.K C bmB newId=true)(u:ExcBaseFacts B newId initId bmB)(G:PA X (e::es) ta)(A:(x==("__debug__" : Str))=false:=by decide)(n:starEach (e::es) X.env=(false,eval e X.env)::starEach es X.env:=by rfl)(c:(backTo cpos (starEach es X.env)).any (·.1)=false:=by rfl):PS X (.Raise (some (.Call (.Name x np) (e::es) [] cpos)) none pos) (Pr C E ta):=by
 intro k s U H D I h;obtain⟨bm,N,nm,q,bs,hdct,sn,sub,ab,col,dd,k0,k1,k2,k3,k5,mN,M,L,d,T⟩:=LD I.ok.mod.Xs a;refine wpAny_Raise_call_subT (C:=C) (N:=N) (bm:=bm) (nm:=nm) (q:=q) (bs:=bs) (hdct:=hdct) (sn:=sn) (sub:=sub) (ab:=ab) (col:=col) (dd:=dd) (k0:=k0) (k1:=k1) (k2:=k2) (k3:=k3) (k5:=k5)
  u (mN:=mN) (T.hasType u.hasBase) (I.ok.hd F) (by rw[n];show (false || (backTo cpos (starEach es X.env)).any (·.1))=false;rw[c];rfl) d (eK I y w ⟨rfl,?_⟩ A)
 have p:=G cpos k s U H _ I h
 rw[n]at p ⊢;refine Ho (Z1 p λv l ⟨Q,P,b,r,m⟩=>⟨rfl,?_,b.bk _ _ M,L.keeps b.bk,T.keeps b.bk,λO i a=>?_⟩)
 .show v.length<=sizeLine
  rw[<-r.length];exact m.1
 .obtain⟨t,g,_,_⟩:=a.there;refine J k U P {l with heap:=O} i _ _ (b.kept (t':=l.toks) a.keeps) g rfl rfl rfl (b.Z4.hole a.new) ?_ m.2
  cases z:X.s₀.heap.get? i with
  |none=>rfl
  |some o=>
   obtain⟨R,j⟩:=b.base.there i o z (by rw[f];simp)
   rw[a.new]at j;cases j
end
noncomputable abbrev Cx.tr(X:Cx)(y3:List (Addr×Obj))(xe:Value->Shared->Prop):Cx:={X with pn:=X.pn++y3,xe:=xe}
noncomputable abbrev Cx.ZH(X:Cx)(y3:List (Addr×Obj))(ea:Addr):Cx:={X with A:=X.A.mark (some (.ref ea)),calm:=false,pn:=X.pn++y3,xe:=λ_ _=>False}
section
variable {pins':Q3} {xe:Q2}
def Inv.tr(I:Inv X y3 U H s)(a:Q2):Inv (X.tr y3 a) [] U H s:=
 ⟨⟨I.ok.mod,I.ok.kind,I.ok.glob,I.ok.blt,I.ok.above,I.ok.inj,I.ok.has,I.ok.WM,I.ok.hd,I.ok.frames,I.ok.Ww,I.ok.V_,I.ok.bs,I.ok.X7,I.ok.Ya,I.ok.Ys,I.ok.Zr,I.ok.Xx⟩,I.os,I.bare,I.base,I.loc,I.cell,I.free,I.ZO,
  λp b=>I.pin p (by rwa [Be]at b),I.Z4,I.len⟩
def Inv.Zi(I:Inv (X.tr y3 xe) pins' U H s):Inv X y3 U H s:=
 ⟨⟨I.ok.mod,I.ok.kind,I.ok.glob,I.ok.blt,I.ok.above,I.ok.inj,I.ok.has,I.ok.WM,I.ok.hd,I.ok.frames,I.ok.Ww,I.ok.V_,I.ok.bs,I.ok.X7,I.ok.Ya,I.ok.Ys,I.ok.Zr,I.ok.Xx⟩,I.os,I.bare,I.base,I.loc,I.cell,I.free,I.ZO,
  λp a=>I.pin p (Cm _ a),I.Z4,I.len⟩
def Inv.ZH(I:Inv X y3 U H s)(b:Addr):Inv (X.ZH y3 b) [] U H s:=
 ⟨⟨I.ok.mod,I.ok.kind,I.ok.glob,I.ok.blt,I.ok.above,I.ok.inj,I.ok.has,I.ok.WM,(λz=>nomatch z),I.ok.frames,I.ok.Ww,I.ok.V_,I.ok.bs,I.ok.X7,I.ok.Ya,I.ok.Ys,I.ok.Zr,I.ok.Xx⟩,I.os,I.bare,I.base,I.loc,I.cell,I.free,I.ZO,
  λp a=>I.pin p (by rwa [Be]at a),I.Z4,I.len⟩
def Inv.YO(I:Inv (X.ZH y3 ea) pins' U H s)(ok:X.Ok):Inv X y3 U H s:=
 ⟨ok,I.os,I.bare,I.base,I.loc,I.cell,I.free,I.ZO,λp a=>I.pin p (Cm _ a),I.Z4,I.len⟩
structure UU (X:Cx) (y3:List (Addr×Obj)) (a:Addr):Prop where
 s0:X.s₀.heap.get? a=none
 loc:a≠X.env.locals
 cell:∀x c,X.env.cells.lookup x=some c->c≠a
 pin:∀p∈X.pn++y3,p.1≠a
def Inv.adopt{a:Addr}{o:HO}(I:Inv X y3 U H s)(f:UU X y3 a)(r:H a=none)(g:ZX X.prog X.w (upd H a o) s.heap a o):Inv X y3 U (upd H a o) s:=by
 have d:∀b u,H b=some u->b≠a:=λb u e=>bM e r
 refine⟨I.ok,I.os,I.bare,⟨I.base.keep,I.base.slot,λb u e n l=>?_,I.base.there,λb h e=>?_,λb u v e=>?_,λb k e=>?_⟩,I.loc,I.cell,by rw[aI f.loc.symm];exact I.free,λx c e=>by rw[aI (f.cell x c e)];exact I.ZO x c e,λp i=>?_,λb u e=>?_,I.len⟩
 .rw[aI (λz=>by rw[z,f.s0]at e;cases e)]
  exact I.base.free b u e n l
 .have q:=I.base.tups b h e
  rw[aI (d b _ q)];exact q
 .have q:=I.base.frzs b u v e
  rw[aI (d b _ q)];exact q
 .obtain⟨m,q⟩:=I.base.tbls b k e;exact⟨m,by rw[aI (d b _ q)];exact q⟩
 .obtain⟨A,y,t⟩:=I.pin p i;exact⟨A,by rw[aI (f.pin p i)];exact y,t⟩
 .by_cases j:b=a
  .subst j;rw[aD]at e;cases e;exact g
  .rw[aI j]at e;exact(I.Z4 b u e).Zb (λc v _ q=>q) (λc q=>by rw[aI (d c _ q)];exact q) λc h q=>by rw[aI (d c _ q)];exact q
def Inv.Xc{n:Str}{m:Q5}{v:Option Value}{t:Nat}(I:Inv X y3 U H s)(hN:X.N.Nodup)(K:X.N[i]?=some n)(hm:s.heap.Ns X.env.locals m)(hl:X.env.scope.names.lookup n=some .local)(J:h'.Ns X.env.locals (λx=>if x=n then v else m x))(Y:Heap.SameBut X.env.locals s.heap h'):Inv X y3 (U.set i none) H {s with heap:=h',toks:=t}:=by
 have k:∀b o,b≠X.env.locals->s.heap.get? b=some o->h'.get? b=some o:=λb o d e=>(Y.2 b d).trans e
 have G:∀b o,X.s₀.heap.get? b=some o->b≠X.env.locals:=λb o e=>Bc (Bi (Aq e) I.ok.above)
 have f:∀b o,s.heap.get? b=some o->∃l,h'.get? b=some l:=λb o e=>by
  by_cases d:b=X.env.locals
  .obtain⟨l,_,_,q,_⟩:=J;exact⟨l,by rw[d];exact q⟩
  .exact⟨o,k b o d e⟩
 obtain⟨Z,E,F⟩:=id I.loc;refine⟨I.ok,I.os,I.bare,⟨λb o e n d A=>k b o (G b o e) (I.base.keep b o e n d A),λb o e n d A=>?_,I.base.free,λb o e A=>?_,I.base.tups,I.base.frzs,I.base.tbls⟩,⟨_,J,λj y u P C e3=>?_⟩,λx c e=>?_,I.free,I.ZO,λp hp=>?_,λb u e=>?_,by rw[Cg];exact I.len⟩
 .obtain⟨W,q⟩:=I.base.slot b o e n d A;exact⟨W,k b _ (G b o e) q⟩
 .obtain⟨l,q⟩:=I.base.there b o e A;exact f b l q
 .have B:j≠i:=λz=>by
   subst z;rw[Ei (by rw[I.len];exact(Ae.mp K).1)]at C
   cases C
  rw[Ec (Ne.symm B)]at C;have D:y≠n:=λz=>B (uT hN P (by rw[z];exact K))
  obtain⟨V,r,w⟩:=F j y u P C e3;have em:Z=m:=by
   obtain⟨o1,a2,a4,g1,d1,_,f1⟩:=E;obtain⟨o2,a1,a3,M,Q,_,f2⟩:=hm;rw[g1]at M;cases M;rw[d1]at Q;cases Q;funext z
   rw[<-f1 z,f2 z]
  refine⟨V,r,?_⟩;rcases w with⟨a,g⟩|⟨a,c,g,o,S,R⟩
  .exact .inl ⟨a,by show (if y=n then v else m y)=_;rw[if_neg D,<-em];exact g⟩
  .exact .inr ⟨a,c,g,o,k c o (I.VM y c g) S,R⟩
 .obtain⟨T,o,a,g⟩:=I.cell x c e;exact⟨T,o,k c o (I.VM x c e) a,g⟩
 .obtain⟨h1,h2,L,h4⟩:=I.pin p hp;exact⟨k _ _ L h1,h2,L,h4⟩
 .refine(I.Z4 b u e).Zb (λc o hc q=>k c o (λz=>?_) q) (λ_ q=>q) λ_ _ q=>q;have O:=I.free
  rcases hc with a|a
  .rw[<-a,z,O]at e;cases e
  .rw[z,O]at a;cases a
end
noncomputable def jX(e:Addr)(b:Value)(d:Option Addr):HO:=.ext λh=>∃a c,h.get? e=some a/\a.cls=b/\a.dict=d/\a.data=.fields c
def X2.obj{l:List Env}{a fl:Value}(F:X2 B l ea a d fl h):ZX P w H h ea (jX ea a d):=by
 obtain⟨b,i,T,n,m,c,e,j,_⟩:=F.on;exact⟨⟨b,i,c,e.1,e.2,j⟩,⟨b,c⟩,λr p ⟨o,f,g,q⟩ k=>⟨o,f,k o g,q⟩⟩
def XS(X:Cx)(h:List (Addr×Obj))(R:Value->Option Addr->St->Hp->Prop):Value->Shared->Prop:=λe c=>
 ∃b a d B i g,e=.ref b/\X2 B X.stack b a d .none c.heap/\UU X h b/\g b=none/\(∀f,B.StaysIn f->c.heap.UpToSlots f->Inv X h i g {c with heap:=f})/\R a d i g
def zT(CX:XX)(X:Cx)(c:St->XK):Prop:=∀b (U:St) H s e a,Inv X b U H s->CX X.stack H s (c U) e a->X.xe e a
def oX{R:Value->Option Addr->St->Hp->Prop}(M:X.ex=[]):zT (Y3 X.prog X.w) (X.tr y3 (XS X y3 R)) (λU i d A=>R i d U A):=by
 intro J U H s e G I' h;obtain⟨k,i,d,B,A,rfl,Y,u,F,r,f,q⟩:=h;have I:=I'.Zi
 have F:=F
 have f:=f
 have K:k∉YS X.stack:=λhm=>by
  obtain⟨_,o,g,L⟩:=F.frames.mem hm;obtain⟨oe,V,T,oT,ts,N,hc,hd,_⟩:=F.on;rw[g]at N;cases N;exact L V hd
 have y:∀b o,s.heap.get? b=some o->b≠k:=λb o g z=>by
  subst z;obtain⟨l,Q⟩:=f.there b o g K;rw[F.new]at Q;cases Q
 refine⟨k,i,d,B,U,A,rfl,F,⟨?_,?_,λx c z=>?_,λp Z=>?_⟩,r.hole F.new,λO C W=>?_,q⟩
 .cases z:X.s₀.heap.get? k with
  |none=>rfl
  |some o=>
   obtain⟨l,S⟩:=I.base.there k o z (by rw[M];simp)
   exact absurd rfl (y k l S)
 .obtain⟨m,⟨o,_,_,g,_⟩,_⟩:=I.loc;exact(y _ o g).symm
 .obtain⟨v,o,g,_⟩:=I.cell x c z;exact y c o g
 .exact y p.1 p.2 (I.pin p Z).1
 .have j:∀ b o,s.heap.get? b=some o->b∈YS X.stack->∃ E,O.get? b=some { o with slots:=E }:=λb o g a=>by
   obtain⟨E,t⟩:=f.slot b o g (I.YK b a) a;obtain⟨_,o2,P,L⟩:=I.stack.mem a;rw[g]at P;cases P;obtain⟨D,g3⟩:=W b _ t L;exact⟨D,g3⟩
  refine I.Wz (s':={G with heap:=O}) (ch:=[]) Y ⟨λb o g n a _=>C b o (f.keep b o g n a),λb o g n a _=>j b o g a,λb o g n _=>f.free b o g n,λb o g _=>?_,f.tups,f.frzs,f.tbls⟩ (r.kept λb o g=>C b o g) u λb a=>absurd a (by simp)
  by_cases a:b∈YS X.stack
  .obtain⟨E,t⟩:=j b o g a;exact⟨_,t⟩
  .obtain⟨l,t⟩:=f.there b o g a;exact⟨l,C b l t⟩
section
variable {k:Nat} {p:Pos} {t:TA}
def S6(sp:Sp)(c:St->XK)(t:TA):TE:=λU H Q=>t U H λa b=>sp a b Q (c U)
def MQ(F:Z6 X.prog X.w X.K X.mg X.base CX k f fd ps sp)(z:Z7 k X.A)(E:Gl X x)(B:X.mg x=some (.ref f))(D:W.keepIn X.K (.ref f)=true)(J:Binds X.K fd ps [])(y:zT CX X Es)(L:PA X (e::es) t)(j:(x==("__debug__" : Str))=false:=by decide)(G:starEach (e::es) X.env=(false,eval e X.env)::starEach es X.env:=by rfl)(i:(backTo pos (starEach es X.env)).any (·.1)=false:=by rfl):PE X (.Call (.Name x p) (e::es) [] pos) (S6 sp Es t):=by
 intro l s U H Q I h;refine Dt (eK I E B ?_ j);refine Ew (h₀:=X.base) I.ok.mod.Xs D (Z1 (L pos l s U H _ I h) λd g ⟨n,m,c,r,q⟩=>⟨c.ZK,?_⟩) G i;have C:d.length=ps.length:=by rw[<-r.length];exact F.len _ _ _ _ q
 have b:=J g d c.ZK (by simp_all)
 rw[Be]at b;refine Fv (Dy (F.run X.A X.stack g m ⟨d,[]⟩ d n Q (Es U) z c.Ye b r q) λv o a=>?_);cases v with
 |error e=>exact y l U m g e o c a
 |ok M=>
  cases M with
  |ret u=>exact c.after a
  |next=>exact False.elim a
  |brk=>exact False.elim a
  |cont=>exact False.elim a
end
def ND(K:W.Frag)(C:Addr)(i:Nat)(mk:(Value->Option Addr->St->Hp->Prop)->TS)(g:TS):TS:=λD U H=>
 mk (λa d h f=>W.exmOne K a (.ref C)=some true/\∀e,f e=none->
  g {nx:=λb c=>D.nx (b.set i none) c,rt:=D.rt,bk:=λb c=>D.bk (b.set i none) c,ct:=λb c=>D.ct (b.set i none) c} (h.set i (some (.ref e))) (upd f e (jX e a d))) D U H
def SP.Zi{c:Q2}{f:Flow}{s':Shared}(h:SP (X.tr y3 c) [] D f s'):SP X y3 D f s':=by
 cases f with
 |next=>obtain⟨a,b,I,q⟩:=h;exact⟨a,b,I.Zi,q⟩
 |brk=>obtain⟨a,b,I,q⟩:=h;exact⟨a,b,I.Zi,q⟩
 |cont=>obtain⟨a,b,I,q⟩:=h;exact⟨a,b,I.Zi,q⟩
 |ret u=>obtain⟨v,a,b,I,r,q⟩:=h;exact⟨v,a,b,I.Zi,r,q⟩
def JC{n:Str}{hp:Pos}{i:Nat}(j:X.stack=X.env::X.outer)(Y:X.env.frame=some X.env.locals)(a3:X.ex=[])(hN:X.N.Nodup)(hi:X.N[i]?=some n)(O:X.env.scope.names.lookup n=some .local)(hg:Gl X x)(hm:X.mg x=some (.ref C))(hb:∀b R,YL (X.tr b (XS X b R)) body (mk R))(hs:∀b c,YL (X.ZH b c) (b0::suite) ts)(hd:(x==("__debug__" : Str))=false:=by decide):PS X (.Try body [.ExceptHandler (some (.Name x np)) (some n) (b0::suite) hp] [] [] pos) (ND X.K C i mk ts):=by
 intro b s U H D I h;have V:X.A.frames=some (X.env::X.outer):=by rw[<-j];exact I.ok.frames
 have J:(X.env.scope.kind == .class || (X.env.scope.kind == .module&&X.env.locals != X.env.globals))=false:=by rw[I.ok.kind];rfl
 refine wpAny_Try_except (Cf (hb b _ [] s U H D (I.tr _) h) (λf M q=>?_) λe M q=>?_)
 .cases f with
  |next=>
   obtain⟨U',H',I',q⟩:=q.Zi;exact bC b M U' H' D I' q
  |brk=>exact q.Zi
  |cont=>exact q.Zi
  |ret u=>exact q.Zi
 .obtain⟨c,a1,d,B,U1,H1,rfl,F,Z,hn,y,hx,r⟩:=q;rw[j]at F;refine rA V Y F λh2 F2 u2=>dN (s:={M with heap:=h2}) F2 λh3 F3 u3=>?_
  have I3:=y h3 F3.stays (u2.trans u3)
  refine wpAny_handleBy_cons (codeAny_handlers_test (eK (I3.ZH c) hg hm ?_ hd)) (by intro q;cases q)
  obtain⟨oe,vs,T,oT,a2,he,hc,_⟩:=id F3.on;refine W.exm_one I3.ZK (hc.1▸(W.Looks.ld he).andThen .now) hx _ _ _ _ (λ_ _ q=>q) ?_;refine codeAny_handlers_suite_as (dN (s:={M with heap:=h3}) F3 λh4 F4 u4=>?_)
  have I4:=(y h4 F4.stays ((u2.trans u3).trans u4)).adopt (o:=jX c a1 d) Z hn F4.obj
  refine qS I4 hN hi (.inl O) (v:=.ref c) rfl (λs5 I5=>?_) (.inr O);refine Cf (hs b c [] s5 _ _ _ (I5.ZH c) (r c hn)) (λf s6 q=>?_) λ_ _ z=>z.elim;have P:∀ {l:St} {a:Hp} {Q:Unit->Shared->Prop} {E:Q2},Inv (X.ZH b c) [] l a s6->(∀ t,Inv X b (l.set i none) a t->Q () t)->
      wpAny (model X.prog X.w) X.A (do bindName X.env n .none;unbindBehindTheSuite X.env n hp) Q E s6:=fun {l a Q E} g k=>by
   have L:=g.YO I.ok
   obtain⟨m,G,_⟩:=id L.loc;exact wpAny_nameGoes_keeps O G J λh7 v S sb=>k _ (L.Xc hN hi G O S sb)
  cases f with
  |next=>
   obtain⟨l,a,g,q⟩:=q;exact P g λt p=>⟨_,a,p,q⟩
  |brk=>
   obtain⟨l,a,g,q⟩:=q;exact P g λt p=>⟨_,a,p,q⟩
  |cont=>
   obtain⟨l,a,g,q⟩:=q;exact P g λt p=>⟨_,a,p,q⟩
  |ret u=>
   obtain⟨v,l,a,g,rv,q⟩:=q;exact P g λt p=>⟨v,_,a,p,rv,q⟩
def SP.YO{f:Flow}{s':Shared}(ok:X.Ok)(h:SP (X.ZH y3 ea) [] D f s'):SP X y3 D f s':=by
 cases f with
 |next=>obtain⟨a,b,I,q⟩:=h;exact⟨a,b,I.YO ok,q⟩
 |brk=>obtain⟨a,b,I,q⟩:=h;exact⟨a,b,I.YO ok,q⟩
 |cont=>obtain⟨a,b,I,q⟩:=h;exact⟨a,b,I.YO ok,q⟩
 |ret u=>obtain⟨v,a,b,I,r,q⟩:=h;exact⟨v,a,b,I.YO ok,r,q⟩
def NG(K:W.Frag)(C:Addr)(mk:(Value->Option Addr->St->Hp->Prop)->TS)(b:TS):TS:=λD U H=>mk (λa d c e=>W.exmOne K a (.ref C)=some true/\b D c e) D U H
def AB{E:Pos}(b:X.stack=X.env::X.outer)(k:X.env.frame=some X.env.locals)(L:X.ex=[])(J:Gl X x)(G:X.mg x=some (.ref C))(P:∀a R,YL (X.tr a (XS X a R)) body (mk R))(hs:∀a g,YL (X.ZH a g) (p::suite) ts)(N:(x==("__debug__" : Str))=false:=by decide):PS X (.Try body [.ExceptHandler (some (.Name x np)) none (p::suite) E] [] [] pos) (NG X.K C mk ts):=by
 intro a s U H D I h;have j:X.A.frames=some (X.env::X.outer):=by rw[<-b];exact I.ok.frames
 refine wpAny_Try_except (Cf (P a _ [] s U H D (I.tr _) h) (λf i q=>?_) λe i q=>?_)
 .cases f with
  |next=>
   obtain⟨Z,H',I',q⟩:=q.Zi;exact bC a i Z H' D I' q
  |brk=>exact q.Zi
  |cont=>exact q.Zi
  |ret u=>exact q.Zi
 .obtain⟨g,Y,d,B,U1,H1,rfl,F,V,hn,c,y,r⟩:=q;rw[b]at F;refine rA j k F λS F2 n=>dN (s:={i with heap:=S}) F2 λo l m=>?_
  have t:=c o l.stays (n.trans m)
  refine wpAny_handleBy_cons (codeAny_handlers_test (eK (t.ZH g) J G ?_ N)) (by intro q;cases q)
  obtain⟨oe,vs,T,oT,w,M,O,_⟩:=id l.on;refine W.exm_one t.ZK (O.1▸(W.Looks.ld M).andThen .now) y _ _ _ _ (λ_ _ q=>q) ?_;refine codeAny_handlers_suite (dN (s:={i with heap:=o}) l λQ F4 v=>?_)
  have I4:=c Q F4.stays ((n.trans m).trans v)
  exact Cf (hs a g [] _ _ _ _ (I4.ZH g) r) (λf s6 q=>q.YO I.ok) λ_ _ z=>z.elim
def GP(h:mk (λa d b c=>W.exmOne K a (.ref C)=some true/\ts D b c) D U H):NG K C mk ts D U H:=h
section
open PySem.W
structure XF (K:Frag) (D:Addr):Prop where
 cls:hasDictIn K D=true
 ga:findIn K (.ref D) "__getattribute__"=some (some (.builtin "BaseException.__getattribute__"))
 gh:findIn K (.ref D) "__getattr__"=some none
 ca:findIn K (.ref D) "__class__"=some (some (.builtin "object.__class__"))
 cg:specialIn K (.builtin "object.__class__") "__get__"=some (some (.builtin "getset_descriptor.__get__"))
 ct:takesIn K (.builtin "object.__class__")=some true
 mo:mroIn K D (.type "object")=some true
 mb:W.subIn K (.ref D) (.type "BaseException")=some true
section
variable {K:Frag} {x D:Addr} {ox:Obj} {od:Option Obj}
def LP{Q:Unit->Shared->Prop}(Z:XF K D)(X:K.In s.heap)(I:InstAt s.heap x ox D od)(b:Q () s):wpAny M A (checkBuiltinCall "BaseException.__getattribute__" ⟨[.ref x,nm],[]⟩) Q E s:=by
 have f:=I.type (M:=M)
 have e:=looks_subIn (M:=M) X Z.mb
 have d:=F.args_bexc_ga (.ref x) nm
 refine Ac ((f.andThen e).at ?_)
 exact Jm d b
end
section
variable {D:Addr}
def JS{E:XK}{D:Ends}(h:ta U H λa b=>a.length<=sizeLine/\E (.ref C) none b):Pr C E ta D U H:=h
def Nq(h:t U H λa b=>sp a b Q (Es U)):S6 sp Es t U H Q:=h
end
def lY(P:Program)(w:World)(K:W.Frag)(b:Str->Option Value)(a:Heap)(k:Nat)(x:Str)(ps:List Str)(sp:Sp):Prop:=
 ∃f c,Z6 P w K b a (Y3 P w) k f c ps sp/\b x=some (.ref f)/\W.keepIn K (.ref f)=true/\Binds K c ps []
section
variable {k:Nat} {p:Pos} {t:TA} {E:XK}
def dX(c:lY X.prog X.w X.K X.mg X.base k x ps sp)(g:iD (Y3 X.prog X.w) X E)(h:Z7 k' X.A)(j:k<=k')(l:Gl X x)(o:PA X (e::es) t)(d:(x==("__debug__" : Str))=false:=by decide)(m:starEach (e::es) X.env=(false,eval e X.env)::starEach es X.env:=by rfl)(a:(backTo pos (starEach es X.env)).any (·.1)=false:=by rfl):PE X (.Call (.Name x p) (e::es) [] pos) (Vm sp [] E t):=by
 obtain⟨f,q,F,i,b,n⟩:=c;exact N6 F (h.mono j) l i b n .nil g o d m a
def Oc(c:lY X.prog X.w X.K X.mg X.base k x ps sp)(g:zT (Y3 X.prog X.w) X Es)(h:Z7 k' X.A)(j:k<=k')(l:Gl X x)(o:PA X (e::es) t)(d:(x==("__debug__" : Str))=false:=by decide)(m:starEach (e::es) X.env=(false,eval e X.env)::starEach es X.env:=by rfl)(a:(backTo pos (starEach es X.env)).any (·.1)=false:=by rfl):PE X (.Call (.Name x p) (e::es) [] pos) (S6 sp Es t):=by
 obtain⟨f,q,F,i,b,n⟩:=c;exact MQ F (h.mono j) l i b n g o d m a
def zD:iD (Y3 X.prog X.w) X E0:=λ_ _ _ _ _ _ _ h=>by
 obtain⟨_,_,_,_,_,_,_,_,_,_,_,z⟩:=h;exact z.elim
def PS.WA{t:TS}(h:PS X.WA st t):PS X st t:=λa s U H D I b=>
 Cf (h a s U H D (I.YJ _) b) (λ_ _ q=>q.Zl) λ_ _ z=>False.elim z
end
def ZR.W3(F:ZR K x qual st f fd)(S:Z9 N ps (aK st))(e:∀c H Q E,sp c H Q E->c.length=ps.length)(d:∀b A a s H c Q E,Z7 k (A.deeper (envOfC qual (aK st) s.heap.objs.size f b))->sp c H Q E->
 ∃t,YL (fL (Y3 P w) P w K mg base N qual (aK st) f b A a s H E) (fR st) t/\t {nx:=λ_ n=>Q .non n,rt:=Q} (jH N c) H):Z6 P w K mg base (Y3 P w) (k+1) f fd ps sp:=by
 obtain⟨q,p,r,m,o,v,b,u,i,rfl,j,h⟩:=F.ex;exact Qi j h S e λA a s H c Q E l g=>d b A a s H c Q E l g
end
noncomputable def UQ(K:W.Frag)(a b:Addr):It:=
 ⟨λi H=>∃d c x y,Zo K H a d/\Zo K H b c/\d[i]?=some x/\c[i]?=some y,λi H v e=>∃p x y,H p=none/\v=.ref p/\e=upd H p (.tup [x,y])/\(∀d,Zo K H a d->d[i]?=some x)/\(∀c,Zo K H b c->c[i]?=some y),
  λi H=>∃d c,Zo K H a d/\Zo K H b c/\(d.length<=i\/c.length<=i)⟩
structure WI (z TI TO i1 i2:Addr):Prop where
 d1:TI≠z
 d2:TO≠z
 d3:i1≠z
 d4:i2≠z
 d5:TI≠TO
 d6:TI≠i1
 d7:TI≠i2
 d8:TO≠i1
 d9:TO≠i2
 d0:i1≠i2
def lH{u:Obj}(e:h.get? a=some o)(d:h.get? b=some u){S:String}(hs:o.cls=.type S)(c:u.cls=.type T)(n:S≠T):a≠b:=λz=>by grind
def Rr{z k g j i:Addr}{v p q:Value}{k1 k2:Nat}{xs ys:Array Value}(D:WI z k g j i)(hz:IsZip h z k g v)(l:IsPair h g p q)(h1:h.IsListIter j a k1)(u:h.IsListIter i b k2)(t:h.IsList a xs)(s:h.IsList b ys):ZipApart z k g j i a b:=by
 obtain⟨A,n,r,_⟩:=h1;obtain⟨y,m,o,_⟩:=u;obtain⟨x,d,f,_⟩:=t;obtain⟨w,c,e,_⟩:=s;exact⟨D.d1,D.d2,D.d3,D.d4,D.d5,D.d6,D.d7,D.d8,D.d9,D.d0,lH d hz f rfl (by decide),lH d l f rfl (by decide),lH d n f r (by decide),lH d m f o (by decide),lH c hz e rfl (by decide),lH c l e rfl (by decide),lH c n e r (by decide),lH c m e o (by decide)⟩
def B0(a b z F C B A:Addr)(D:WI z F C B A):Turn P w K (.Tuple elts x1 tp) (UQ K a b) [z,F,C,B,A] z (λi h=>IsZip h z F C .none/\IsPair h F (.ref B) (.ref A)/\(∃p q,IsPair h C p q)/\h.IsListIter B a i/\h.IsListIter A b i) where
 mem:=by simp
 obj:=λi h l c m=>by
  obtain⟨d,r,⟨p,q,g⟩,⟨o1,k,_,S⟩,o2,j,_,R⟩:=l;simp only[List.mem_cons,List.not_mem_nil,or_false]at m;rcases m with z|z|z|z|z<;>subst z
  .exact⟨_,d,λv z=>by cases z⟩
  .exact⟨_,r,λv z=>by cases z⟩
  .exact⟨_,g,λv z=>by cases z⟩
  .exact⟨o1,k,λv z=>by rw[S]at z;cases z⟩
  .exact⟨o2,j,λv z=>by rw[R]at z;cases z⟩
 keep:=λi h h' l f=>by
  obtain⟨d,r,⟨p,q,g⟩,k,j⟩:=l;exact⟨f z (by simp) _ d,f F (by simp) _ r,⟨p,q,f C (by simp) _ g⟩,k.at λo e=>f B (by simp) o e,j.at λo e=>f A (by simp) o e⟩
 item:=by
  intro X hP W hK m i y3 s U H E I Q l Z;subst hP W hK;obtain⟨xs,ys,x,y,O,N,hx,hy⟩:=Z;obtain⟨us,V,M,_⟩:=I.list O;obtain⟨vs,T,L,_⟩:=I.list N;obtain⟨u,hu,ru⟩:=V.get hx;obtain⟨v,hv,rv⟩:=T.get hy;obtain⟨d,r,⟨p,q,g⟩,k,j⟩:=l;have D2:=Rr D d g k j M.isList L.isList
  have J:∀c o,s.heap.get? c=some o->s.heap.objs.size≠c:=λc o e=>Fi (Aq e)
  refine wpAny_pyNext_zip_item D2 d r g k j M.isList L.isList (x:=u) (y:=v) (by simpa using hu) (by simpa using hv) λh1 a1 a2 a3 a4 a5 a6 f=>?_
  refine⟨_,rfl,wpAny_letOwnedTupleGo_zip a1 λh2 z2 sb=>?_⟩;have G:∀c o,c≠z->h1.get? c=some o->h2.get? c=some o:=λc o n e=>(sb.2 c n).trans e
  have I2:Inv X y3 U (upd H s.heap.objs.size (.tup [x,y])) {s with heap:=h2}:=by
   refine I.YX (t':=s.toks) (ch:=[z,F,C,B,A]) Q (λc o n e=>?_) (Ah _) ⟨bH (by show 2<=_;omega),[u,v],.cons ru (.cons rv .nil),_,G _ _ (J z _ d) a5,rfl,_,rfl⟩
   simp only[List.mem_cons,List.not_mem_nil,or_false,not_or]at n;exact G c o n.1 (f c o n.1 n.2.2.1 n.2.2.2.1 n.2.2.2.2 e)
  refine⟨.ref s.heap.objs.size,_,I2,rfl,⟨_,x,y,I.Z4.fresh (Ah _),rfl,rfl,λzs Y=>by rw[I.Zg Y O];exact hx,λzs Y=>by rw[I.Zg Y N];exact hy⟩,
   ⟨z2,G _ _ D.d1 (f _ _ D.d1 D.d5 D.d6 D.d7 r),⟨_,_,G _ _ D.d2 a2⟩,a3.at λo e=>G _ o D.d3 e,a4.at λo e=>G _ o D.d4 e⟩,λc m=>?_⟩
  have hn:=(Q c m).1
  rw[aI]
  .exact hn
  .obtain⟨o1,S,_⟩:=k;obtain⟨o2,R,_⟩:=j;simp only[List.mem_cons,List.not_mem_nil,or_false]at m;rcases m with z|z|z|z|z<;>subst z
   .exact(J _ _ d).symm
   .exact(J _ _ r).symm
   .exact(J _ _ g).symm
   .exact(J _ _ S).symm
   .exact(J _ _ R).symm
 done:=by
  intro X hP W hK m i y3 s U H E I Q l Z;subst hP W hK;obtain⟨xs,ys,O,N,hl⟩:=Z;obtain⟨us,V,M,_⟩:=I.list O;obtain⟨vs,T,L,_⟩:=I.list N;have S:=V.length
  have R:=T.length
  obtain⟨d,r,⟨p,q,g⟩,k,j⟩:=l;refine wpAny_pyNext_zip_end (I.ok.hd m) (Rr D d g k j M.isList L.isList) d r g k j M.isList L.isList ?_ λh' f=>⟨rfl,?_⟩
  .rcases hl with z|z
   .exact .inl (by simp;omega)
   .exact .inr (by simp;omega)
  .refine I.Ym (t':=s.toks) (ch:=[z,F,C,B,A]) Q λc o n e=>?_;simp only[List.mem_cons,List.not_mem_nil,or_false,not_or]at n;exact f c o n.1 n.2.2.1 n.2.2.2.1 n.2.2.2.2 e
 self:=λ_ _ _ _ _ l h=>wpAny_pyIter_zip l.1 h
def G5:bootBuiltins "zip"=some (.type "zip"):=by right
section
variable {l1 l2:Expr} {p:Pos}
def Vz(R:Addr->Addr->Hp->Prop):List V->Hp->Prop:=λa H=>match a with|[.ref i,.ref j]=>R i j H|_=>False
def Le{R:Addr->Addr->Hp->Prop}{vs:List V}(q:Vz R vs H):∃i j,vs=[.ref i,.ref j]/\R i j H:=by
 unfold Vz at q;split at q
 .exact⟨_,_,rfl,q⟩
 simp_all
def QC(K:W.Frag)(d:TA):TI:=λU H R=>d U H (Vz λa b c=>Yx (Z2 c a) (Yx (Z2 c b) (R (UQ K a b) c)))
def OH(B:Gl X "zip")(y:X.mg "zip"=none)(C:PA X [l1,l2] ta)(hs:starEach [l1,l2] X.env=[(false,eval l1 X.env),(false,eval l2 X.env)]:=by rfl)(e:starEach [l2] X.env=[(false,eval l2 X.env)]:=by rfl):PI X (.Tuple elts x1 tp) (.Call (.Name "zip" p) [l1,l2] [] pos) (QC X.K ta):=by
 intro k s U H R I h;refine Call_ (iZ I B y G5 (Dz (Z1 (C pos k s U H _ I h) λm d μ=>?_) (by rw[hs,e]) (by rw[e];rfl)));obtain⟨l,N,f,o,r⟩:=μ
 obtain⟨a,b,rfl,q⟩:=Le r;obtain⟨u,Q,rfl,n,g⟩:=tQ o;cases n;cases g;unfold Yx at q;split at q
 .rename_i P M
  split at q
  .rename_i O L
   obtain⟨m,T,w,_⟩:=f.list (bD M);obtain⟨l,S,v,_⟩:=f.list (bD L);refine call_zip_2 w.isList v.isList λF i E D J G x A=>?_;refine wpAny_pyIter_zip (s:={d with heap:=F}) i ⟨_,[d.heap.objs.size+4,d.heap.objs.size+2,d.heap.objs.size+3,d.heap.objs.size,d.heap.objs.size+1],_,_,N,rfl,f.kept (t':=d.toks) A,
    B0 a b _ _ _ _ _ ⟨by simp,by simp,by simp,by simp,by simp,by simp,by simp,by simp,by simp,by simp⟩,⟨i,E,⟨_,_,D⟩,J,G⟩,λc j=>?_,q⟩
   have z:d.heap.objs.size<=c:=by
    simp only[List.mem_cons,List.not_mem_nil,or_false]at j;rcases j with z|z|z|z|z<;>(rw[z];first|exact Ah _|exact Gv _ _)
   exact f.YV z (f.Z4.fresh z)
  .exact q.elim
 .exact q.elim
end
def OT(c:Nat->St->Hp->Prop)(u:c 0 U H)(s:∀i U H,i<=xs.length->i<=ys.length->c i U H->Z2 H a=some xs/\Z2 H b=some ys)(hs:∀i x y U H p,xs[i]?=some x->ys[i]?=some y->c i U H->H p=none->g (.ref p) U (upd H p (.tup [x,y])) λv w=>tb {D with nx:=c (i+1),ct:=c (i+1),bk:=D.nx} v w)(t:∀U H,c (min xs.length ys.length) U H->D.nx U H):WO (UQ K a b) g tb D U H:=by
 refine⟨λi m U H=>m=min xs.length ys.length-i/\i<=min xs.length ys.length/\c i U H,⟨min xs.length ys.length,by simp,Nat.zero_le _,u⟩,?_⟩
 rintro i m U H ⟨rfl,A,p⟩;obtain⟨f,d⟩:=s i U H (by omega) (by omega) p
 by_cases h:i<min xs.length ys.length
 .refine .inr ⟨⟨xs,ys,xs[i]'(by omega),ys[i]'(by omega),bD f,bD d,Aa _,Aa _⟩,c (i+1),λB z l=>⟨min xs.length ys.length-(i+1),by omega,rfl,h,l⟩,λx z y=>?_⟩
  obtain⟨q,k,j,r,rfl,rfl,o,n⟩:=y;exact hs i k j U H q (o xs (bD f)) (n ys (bD d)) p r
 .have e:i=min xs.length ys.length:=by omega
  subst e;exact .inl ⟨⟨xs,ys,bD f,bD d,by omega⟩,t U H p⟩
def JZ(h:ta U H (Vz λa b c=>Yx (Z2 c a) (Yx (Z2 c b) (R (UQ K a b) c)))):QC K ta U H R:=h
def FO{R:Addr->Addr->Hp->Prop}(h:R a b H):Vz R [.ref a,.ref b] H:=h
def U9:V->List V->Hp->VK->Prop:=λx a H Q=>match x,a with
 |.ref l,[.ref b]=>(match jE H l,jE H b with|some xs,some zs=>xs.length+zs.length<=sizeLine/\Q .non (upd H l (.lst (xs++zs)))|_,_=>False)
 |_,_=>False
def Vp:X3 X "list.extend" U9:=X3.imp  LV λ_ _ _ _ q=>by
 unfold U9 at q;split at q
 .split at q
  .exact⟨_,_,_,_,rfl,rfl,nF (by assumption),nF (by omega),q.1,q.2⟩
  simp_all
 .exact q.elim
def Sz:List V->Hp->VK->Prop:=λa H Q=>match a with
 |[.int i]=>i.natAbs.log2<1920/\Q (.str (toString i)) H
 |_=>False
def Q9:ZW X (.type "str") Sz:=Yj.imp λ_ _ _ q=>by
 unfold Sz at q;split at q
 .exact⟨_,rfl,q.1,q.2⟩
 simp_all
section
variable {zs:List V} {i:Int}
def O1(e:jE H l=some xs)(a:jE H b=some zs)(c:xs.length+zs.length<=sizeLine)(h:Q .non (upd H l (.lst (xs++zs)))):U9 (.ref l) [.ref b] H Q:=by unfold U9;simp only[e,a];exact⟨c,h⟩
def s_str(c:i.natAbs.log2<1920)(h:Q (.str (toString i)) H):Sz [.int i] H Q:=⟨c,h⟩
end
def Rz(h:H p=some (.lst xs)):WG (.ref p) H=some "list" := by unfold WG;simp only[h]
def R3(h:H p=some (.dK kvs)):WG (.ref p) H=some "dict" := by unfold WG;simp only[h]
def QH{t u:TS}(c:St->Hp->Prop)(d:∀a b,c a b->u D a b)(h:∀N,(∀a b,c a b->N a b)->t {D with nx:=N} U H):To t u D U H:=h _ d
def none_of{r:Addr}(s:Z_ H H')(h:H' r=none):H r=none:=by
 cases e:H r with
 |none=>rfl
 |some o=>rw[s _ _ e]at h;cases h
def bL{o:HO}(a:H p=none)(s:Z_ H H'):Z_ H (upd H' p o):=λb u q=>by rw[aI (bM q a)];exact s b u q
def iB{n:Nat}(R:Addr->Nat->List V->Hp->Prop)(E:n<sizeLine)(w:∀D,H1 D=none->R D 0 [] (upd H1 D (.lst [])))(p:∀D i a c,H1 D=none->R D i a c->i<n->J.go i c)(o:∀D a c,H1 D=none->R D n a c->J.stop n c)(hs:∀D i a c x l A (B:Hp->Prop),H1 D=none->i<n->R D i a c->c D=some (.lst a)->J.WZ i c x l->
 (∀y k,k D=some (.lst a)->R D (i+1) (a++[y]) (upd k D (.lst (a++[y])))->A y k)->(∀f,f D=some (.lst a)->R D (i+1) a f->B f)->
 g x U0 l λs C=>Wk U0 s/\tests s C λb f=>if b=true then te s f A else B f)(q:∀D a c,H1 D=none->R D n a c->c D=some (.lst a)->a.length<=n->Q (.ref D) c):dQ g tests te U0 Q J H1:=by
 intro D j;refine⟨λi m c=>m=n-i/\i<=n/\∃a,a.length<=i/\c D=some (.lst a)/\R D i a c,⟨n,by simp,Nat.zero_le _,[],Nat.le_refl _,aD,w D j⟩,?_⟩
 rintro i m c ⟨rfl,F,a,v,h,r⟩;by_cases d:i<n
 .refine .inr ⟨p D i a c j r d,λx l y=>hs D i a c x l _ _ j d r h y (λz k e t=>?_) (λf e u=>?_)⟩
  .exact⟨a,e,by omega,n-(i+1),by omega,rfl,d,a++[z],by rw[Ak];show a.length+1<=_;omega,aD,t⟩
  .exact⟨n-(i+1),by omega,rfl,d,a,by omega,e,u⟩
 .have e:i=n:=by omega
  subst e;exact .inl ⟨o D a c j r,q D a c j r h v⟩
def Zq(b a:Hp)(ps:List Addr)(fs:List (List V)):Prop:=ps.length=fs.length/\∀(j:Nat) p t,ps[j]?=some p->fs[j]?=some t->b p=none/\a p=some (.tup t)
def Zq.keep{ps:List Addr}(t:Zq H1 Hc ps fs)(s:Z_ Hc c):Zq H1 c ps fs:=⟨t.1,λj p u b a=>⟨(t.2 j p u b a).1,s _ _ (t.2 j p u b a).2⟩⟩
def Zq.Yd{ps:List Addr}(t:Zq H1 Hc ps fs)(s:Z_ c H1):Zq c Hc ps fs:=⟨t.1,λj p u b a=>⟨none_of s (t.2 j p u b a).1,(t.2 j p u b a).2⟩⟩
def Zq.put{ps:List Addr}{D:Addr}{c:List V}(t:Zq H1 Hc ps fs)(h:Hc D=some (.lst ys)):Zq H1 (upd Hc D (.lst c)) ps fs:=⟨t.1,λj p u e d=>by
 obtain⟨a,b⟩:=t.2 j p u e d;refine⟨a,?_⟩;rw[aI λz=>by grind]
 exact b⟩
def Zq.app{ps c:List Addr}{d:List (List V)}(t:Zq H1 Hc ps fs)(u:Zq H1 Hc c d):Zq H1 Hc (ps++c) (fs++d):=by
 refine⟨by rw[Ak,Ak,t.1,u.1],λj p v b a=>?_⟩
 by_cases h:j<ps.length
 .rw[Ay h]at b;rw[Ay (by rwa[<-t.1])]at a
  exact t.2 j p v b a
 .rw[Ba (by omega)]at b
  rw[Ba (by rw[<-t.1];omega),<-t.1]at a
  exact u.2 _ p v b a
def Zq.nil:Zq H1 Hc [] []:=⟨rfl,λj p u a=>by cases a⟩
def Zq.one(a:H1 p=none)(b:Hc p=some (.tup t)):Zq H1 Hc [p] [t]:=⟨rfl,λj q u c d=>by
 cases j with
 |zero=>cases c;cases d;exact⟨a,b⟩
 |succ j=>cases c⟩
def E4(f:Nat->List V)(w:n<sizeLine)(hs:∀i a A (B:Hp->Prop),i<n->Z_ H1 a->(∀p e,a p=none->Z_ a e->e p=some (.tup (f i))->A (.ref p) e)->
 g (.int (lo+i)) U0 a λt E=>Wk U0 t/\tests t E λb u=>if b=true then te t u A else B u)(s:∀D e c,H1 D=none->Z_ H1 e->e D=some (.lst (c.map V.ref))->c.length=n->Zq H1 e c ((List.range n).map f)->Q (.ref D) e):dQ g tests te U0 Q (X1 lo n) H1:=by
 refine iB (n:=n) (λD i j a=>Z_ H1 a/\∃c,j=c.map V.ref/\c.length=i/\Zq H1 a c ((List.range i).map f)) w (λD l=>⟨aG l _,[],rfl,rfl,.nil⟩) (λD i j a _ r h=>h) (λD j a _ r=>Ah n) ?_ ?_
 .rintro D i j a x F A B l y ⟨k,c,rfl,q,o⟩ d ⟨rfl,rfl⟩ C G;refine hs i F A B y k (λp e v m z=>?_);refine C _ _ (m _ _ d) ⟨bL l (k.trans m),c++[p],by rw[Aw];rfl,by rw[Ak,q];rfl,?_⟩
  rw[Bx,Aw];exact((o.keep m).app (.one (none_of k v) z)).put (m _ _ d)
 .rintro D j a l ⟨k,c,rfl,q,o⟩ d _;exact s D a c l k d q o
def Yi(H:Hp):Nat->V->V->Prop
 |0,x,y=>x=y/\bY x=true
 |n+1,x,y=>(x=y/\bY x=true)\/∃p q b a,x=.ref p/\y=.ref q/\((Z2 H p=some b/\Z2 H q=some a)\/(nV H p=some b/\nV H q=some a))/\b.length=a.length/\∀(j:Nat) d c,b[j]?=some d->a[j]?=some c->Yi H n d c
def Yi.flat{x:V}(h:bY x=true):Yi H n x x:=by
 cases n with
 |zero=>exact⟨rfl,h⟩
 |succ n=>exact .inl ⟨rfl,h⟩
def Yi.lst{p q:Addr}{xs ys:List V}(b:Z2 H p=some xs)(a:Z2 H q=some ys)(c:xs.length=ys.length)(h:∀(j:Nat) x y,xs[j]?=some x->ys[j]?=some y->Yi H n x y):Yi H (n+1) (.ref p) (.ref q):=.inr ⟨p,q,xs,ys,rfl,rfl,.inl ⟨b,a⟩,c,h⟩
def Yi.Vt(f:xs.all bY=true):∀(j:Nat) x y,xs[j]?=some x->xs[j]?=some y->Yi H n x y:=λj x y b a=>by
 rw[b]at a;cases a;exact .flat (Di.mp f x (Ap b))
def jI{x:V}(h:bY x=true):XO x x=true:=by
 cases x<;>first|rfl|exact beq_self_eq_true _|cases h
def qP{l:List Nat}:(l.all λ_=>true)=true:=by grind
def QR(I:Inv X y3 U H s):∀n A x y u v,Yi H n x y->RelV x u->RelV y v->A.units+n<cLine->SeqAt.EqAt A s u v true:=by
 intro n;induction n with
 |zero=>
  intro A x y u v h w t P;obtain⟨rfl,f⟩:=h;have:=oV (A:=A) (s:=s) w t f f
  rw[jI f]at this;exact this
 |succ n M=>
  intro A x y u v h w t P;rcases h with⟨rfl,f⟩|⟨p,q,L,J,rfl,rfl,D,S,h⟩
  .have:=oV (A:=A) (s:=s) w t f f
   rw[jI f]at this;exact this
  .cases w;cases t;by_cases e:p=q
   .subst e;exact SeqAt.EqAt.same _
   refine SeqAt.EqAt.of_refs e ?_;have r:A.in1.units+n<cLine:=by show A.units+1+n<cLine;omega
   rcases D with⟨E,C⟩|⟨E,C⟩
   .obtain⟨b,o,B,_⟩:=I.list (bD E);obtain⟨a,m,z,_⟩:=I.list (bD C);have R:=o.length
    have Q:=m.length
    have:=SeqAt.RcAt.lists (A:=A) (s:=s) (e:=λ_=>true) B.isList z.isList (by simp only[List.size_toArray];omega) (by omega) (λj G F=>by
     have l:j<b.length:=by simpa using G
     have k:j<a.length:=by simpa using F
     obtain⟨O,d,i⟩:=o.get (Aa (show j<L.length by omega))
     obtain⟨N,c,g⟩:=m.get (Aa (show j<J.length by omega))
     rw[Aa l]at d;rw[Aa k]at c;cases d;cases c
     simpa using M A.in1 _ _ _ _ (h j _ _ (List.getElem?_eq_getElem _) (List.getElem?_eq_getElem _)) i g r)
    rw[qP]at this;exact this
   .obtain⟨b,o,B,_⟩:=I.tuple (YF.of (K:=X.K) (iR E));obtain⟨a,m,z,_⟩:=I.tuple (YF.of (K:=X.K) (iR C));have R:=o.length
    have Q:=m.length
    have:=SeqAt.RcAt.tuples (A:=A) (s:=s) (e:=λ_=>true) (show s.heap.IsTuple p b.toArray from B) (show s.heap.IsTuple q a.toArray from z) (by omega) (λj G F=>by
     have l:j<b.length:=by simpa using G
     have k:j<a.length:=by simpa using F
     obtain⟨O,d,i⟩:=o.get (Aa (show j<L.length by omega))
     obtain⟨N,c,g⟩:=m.get (Aa (show j<J.length by omega))
     rw[Aa l]at d;rw[Aa k]at c;cases d;cases c
     simpa using M A.in1 _ _ _ _ (h j _ _ (List.getElem?_eq_getElem _) (List.getElem?_eq_getElem _)) i g r)
    grind
def Ru(I:Inv X y3 U H s){p:Addr}(h:Yi H (n+1) (.ref p) (.ref q))(R:A.units+(n+1)<cLine):SeqAt.RcAt A s (.ref p) (.ref q) true/\SeqAt.RcNeAt A s (.ref p) (.ref q) false:=by
 rcases h with⟨_,f⟩|⟨Q,P,M,L,J,G,E,S,h⟩
 .cases f
 .cases J;cases G;have y:A.in1.units+n<cLine:=by show A.units+1+n<cLine;omega
  rcases E with⟨F,D⟩|⟨F,D⟩
  .obtain⟨d,t,x,_⟩:=I.list (bD F);obtain⟨c,r,w,_⟩:=I.list (bD D);have J:=t.length
   have G:=r.length
   have z:∀j C (B:j<c.toArray.size),SeqAt.EqAt A.in1 s d.toArray[j] c.toArray[j] ((λ_=>true) j):=λj C B=>by
    have o:j<d.length:=by simpa using C
    have m:j<c.length:=by simpa using B
    obtain⟨O,i,l⟩:=t.get (Aa (show j<M.length by omega))
    obtain⟨N,g,k⟩:=r.get (Aa (show j<L.length by omega))
    rw[Aa o]at i;rw[Aa m]at g;cases i;cases g
    simpa using QR I n A.in1 _ _ _ _ (h j _ _ (List.getElem?_eq_getElem _) (List.getElem?_eq_getElem _)) l k y
   have a:=SeqAt.RcAt.lists (A:=A) (s:=s) (e:=λ_=>true) x.isList w.isList (by simp only[List.size_toArray];omega) (by omega) z
   have b:=SeqAt.RcNeAt.lists (A:=A) (s:=s) (e:=λ_=>true) x.isList w.isList (by simp only[List.size_toArray];omega) (by omega) z
   rw[qP]at a b;exact⟨a,b⟩
  .obtain⟨d,t,x,_⟩:=I.tuple (YF.of (K:=X.K) (iR F));obtain⟨c,r,w,_⟩:=I.tuple (YF.of (K:=X.K) (iR D));have J:=t.length
   have G:=r.length
   have z:∀j C (B:j<c.toArray.size),SeqAt.EqAt A.in1 s d.toArray[j] c.toArray[j] ((λ_=>true) j):=λj C B=>by
    have o:j<d.length:=by simpa using C
    have m:j<c.length:=by simpa using B
    obtain⟨O,i,l⟩:=t.get (Aa (show j<M.length by omega))
    obtain⟨N,g,k⟩:=r.get (Aa (show j<L.length by omega))
    rw[Aa o]at i;rw[Aa m]at g;cases i;cases g
    simpa using QR I n A.in1 _ _ _ _ (h j _ _ (List.getElem?_eq_getElem _) (List.getElem?_eq_getElem _)) l k y
   have a:=SeqAt.RcAt.tuples (A:=A) (s:=s) (e:=λ_=>true) (show s.heap.IsTuple p d.toArray from x) (show s.heap.IsTuple q c.toArray from w) (by omega) z
   have b:=SeqAt.RcNeAt.tuples (A:=A) (s:=s) (e:=λ_=>true) (show s.heap.IsTuple p d.toArray from x) (show s.heap.IsTuple q c.toArray from w) (by omega) z
   rw[qP,Bool.true_and,Bj,Bj,show (d.length==c.length)=true from Fu.mpr (by omega)]at a b
   exact⟨a,b⟩
def Ts(neg:Bool):R2:=λx y H Q=>∃n p q,n<=50/\x=.ref p/\y=.ref q/\Yi H (n+1) x y/\Q (.bl (!neg)) H
def AV(e:X.A.units+64<cLine):ZN X (compareOp .NotEq) (Ts true):=by
 intro d s U H x y v u Q I b a h;obtain⟨n,p,q,f,rfl,rfl,c,k⟩:=h;cases b;cases a;exact(Ru I c (by omega)).2 X.prog X.w _ _ ⟨.bl false,H,I,rfl,k⟩
def DU(n:Nat)(b:Yi H (n+1) (.ref p) (.ref q))(h:Q (.bl (!neg)) H)(a:n<=50:=by omega):Ts neg (.ref p) (.ref q) H Q:=⟨n,p,q,a,rfl,rfl,b,h⟩
def ZQ(b a:Hp)(ps:List Addr)(fs:List (List V)):Prop:=ps.length=fs.length/\∀(j:Nat) p t,ps[j]?=some p->fs[j]?=some t->b p=none/\a p=some (.lst t)
def ZQ.keep{ps:List Addr}(t:ZQ H1 Hc ps fs)(s:Z_ Hc c):ZQ H1 c ps fs:=⟨t.1,λj p u b a=>⟨(t.2 j p u b a).1,s _ _ (t.2 j p u b a).2⟩⟩
def ZQ.Yd{ps:List Addr}(t:ZQ H1 Hc ps fs)(s:Z_ c H1):ZQ c Hc ps fs:=⟨t.1,λj p u b a=>⟨none_of s (t.2 j p u b a).1,(t.2 j p u b a).2⟩⟩
def ZQ.put{ps:List Addr}{D:Addr}{o:HO}(t:ZQ H1 Hc ps fs)(h:∀p∈ps,p≠D):ZQ H1 (upd Hc D o) ps fs:=⟨t.1,λj p u c d=>by
 obtain⟨a,b⟩:=t.2 j p u c d;refine⟨a,?_⟩;rwa[aI (h p (Ap c))]⟩
def ZQ.snoc{ps:List Addr}{fs:List (List V)}{g:List V}(t:ZQ H1 Hc ps fs)(a:H1 q=none)(b:Hc q=some (.lst g)):ZQ H1 Hc (ps++[q]) (fs++[g]):=by
 refine⟨by rw[Ak,Ak,t.1];rfl,λj p v c d=>?_⟩
 by_cases h:j<ps.length
 .rw[Ay h]at c;rw[Ay (by rw[<-t.1];exact h)]at d
  exact t.2 j p v c d
 .rw[Ba (by omega)]at c
  rw[Ba (by rw[<-t.1];omega),<-t.1]at d
  cases e:j-ps.length with
  |zero=>rw[e]at c d;cases c;cases d;exact⟨a,b⟩
  |succ n=>rw[e]at c;cases c
def ZQ.nil:ZQ H1 Hc [] []:=⟨rfl,λj p u a=>by cases a⟩
def ZQ.mem{ps:List Addr}(t:ZQ H1 Hc ps fs){p:Addr}(b:p∈ps):∃g∈fs,H1 p=none/\Hc p=some (.lst g):=by
 obtain⟨j,a⟩:=Dh.mp b;have c:j<fs.length:=by rw[<-t.1];exact(Ae.mp a).1
 exact⟨fs[j],Br _,t.2 j p _ a (Aa c)⟩
theorem fT(ns:List Int):∀n,n<=ns.length->preSum (λi=>ns.getD i 0) n=(ns.take n).sum
 |0,_=>by simp[preSum]
 |n+1,h=>by
  have a:=fT ns n (by omega)
  have e:ns.take (n+1)=ns.take n++[ns.getD n 0]:=by rw[Bl,Ad,Aa (by omega)];rfl
  rw[e,List.sum_append,<-a];simp[preSum]
def zZ(h:∀n∈ns,0<=n/\n<=1000000):0<=ns.sum/\ns.sum<=1000000*(ns.length:Int):=by
 induction ns with
 |nil=>simp
 |cons n r e=>
  obtain⟨a,b⟩:=h n (Al ..);obtain⟨c,d⟩:=e λm f=>h m (Ao _ f);grind
def Va:List V->Hp->VK->Prop:=λb H Q=>∃(p:Addr) (a:List Int),b=[.ref p]/\Z2 H p=some (a.map V.int)/\(∀n∈a,0<=n/\n<=1000000)/\a.length<=100000/\Q (.int a.sum) H
def Sm(hc:X.calm=true):ZW X (.builtin "sum") Va:=by
 intro y3 s U H xs us Q I r h;obtain⟨p,ns,rfl,hp,hb,hn,q⟩:=h;obtain⟨u,rfl,ru⟩:=dI r;cases ru;obtain⟨its,rv,pl,hz⟩:=I.list (bD hp);have hl:=pl.isList
 have hlt:p<s.heap.objs.size:=by obtain⟨_,e,_⟩:=hl;exact Aq e
 have hle:its.length=ns.length:=by have:=rv.length;rw[Ab]at this;omega
 refine call_sum_walk (Fb hl ?_);refine⟨s.heap.objs.size,[s.heap.objs.size,p],[s.heap.objs.size],its.toArray.size,_,_,λi=>ns.getD i 0,rfl,Walks.list (A:=X.A.in1) (I.ok.hd hc) _ p (Bc hlt) its.toArray,
  ⟨⟨_,Au _ rfl,rfl,rfl⟩,hl.push _⟩,λb hb=>?_,λi v hv=>?_,λj hj=>?_,λh' tk t' hk=>?_⟩
 .rw[show ({s with heap:=_}:Shared).heap=_ from rfl]
  simp only[List.mem_cons,List.not_mem_nil,or_false]at hb;rcases hb with e|e
  .rw[e];simp[Heap.push]
  .rw[e];exact Nat.lt_of_lt_of_le hlt (by simp[Heap.push])
 .have hv':its[i]?=some v:=by simpa using hv
  have hi:i<ns.length:=by rw[<-hle];exact(Ae.mp hv').1
  obtain⟨u,hu,ru⟩:=rv.get (show (ns.map V.int)[i]?=some (.int ns[i]) by rw[Ai,Aa hi];rfl)
  rw[hv']at hu;cases hu;obtain⟨t,rfl⟩:=ru;exact⟨t,by show Value.int ns[i] t=Value.int (ns.getD i 0) t;rw[Ad,Aa hi];rfl⟩
 .have hj' : j < ns.length := by have : j < its.length := by simpa using hj
                                 omega
  have e:=fT ns (j+1) (by omega)
  obtain⟨a1,a2⟩:=zZ (ns:=ns.take (j+1)) λm hm=>hb m (Fo hm);rw[Ce]at a2;have a3:ns.getD j 0∈ns:=by rw[Ad,Aa hj'];exact Br _
  obtain⟨b1,b2⟩:=hb _ a3;refine⟨?_,?_⟩
  .show InLong (ns.getD j 0)
   unfold InLong;omega
  .rw[e];unfold InLong;omega
 .have e:preSum (λi=>ns.getD i 0) its.toArray.size=ns.sum:=by
   rw[Bj,hle,fT ns _ (Ah _),Bq]
  rw[e];exact⟨.int ns.sum,H,I.kept (LSm.kept_iter hk),⟨_,rfl⟩,q⟩
def T5(e:Z2 H p=some (ns.map V.int))(b:∀n∈ns,0<=n/\n<=1000000)(a:ns.length<=100000)(h:Q (.int ns.sum) H):Va [.ref p] H Q:=⟨p,ns,rfl,e,b,a,h⟩
section
variable {κ:Type} [DecidableEq κ]
noncomputable def cD(a:List (κ×V))(k:κ):Option V:=(a.find? λb=>decide (b.1=k)).map (·.2)
noncomputable def dY(a:List (κ×V))(k:κ)(v:V):List (κ×V):=
 if (a.any λb=>decide (b.1=k))=true then a.map (λb=>if b.1=k then (b.1,v) else b) else a++[(k,v)]
def cI{r:List (κ×V)}{k:κ}(e:p.1=k):cD (p::r) k=some p.2:=by simp[cD,List.find?_cons,e]
def cB{r:List (κ×V)}{k:κ}(e:¬p.1=k):cD (p::r) k=cD r k:=by simp[cD,List.find?_cons,e]
theorem fV(k:κ):∀a,(a.any λb=>decide (b.1=k))=(cD a k).isSome
 |[]=>rfl
 |p::r=>by
  rw[Jk];by_cases e:p.1=k
  .simp only[cI e,decide_eq_true e,Bool.true_or,Option.isSome_some]
  .rw[cB e,As e,Ig];exact fV k r
theorem RJ(k j:κ)(y:V):∀a,cD (a.map λb=>if b.1=k then (b.1,y) else b) j=(cD a j).map λx=>if j=k then y else x
 |[]=>rfl
 |p::r=>by
  have c:=RJ k j y r
  rw[Ax];by_cases h:p.1=k
  .rw[if_pos h];by_cases e:p.1=j
   .rw[cI (p:=(p.1,y)) e,cI e,Gg,if_pos (e.symm.trans h)]
   .rw[cB (p:=(p.1,y)) e,cB e,c]
  .rw[if_neg h];by_cases e:p.1=j
   .rw[cI  e,cI e,Gg,if_neg (λz=>h (e.trans z))]
   .rw[cB  e,cB e,c]
theorem zV(k j:κ)(y:V):∀a,cD a k=none->cD (a++[(k,y)]) j=if j=k then some y else cD a j
 |[],_=>by
  by_cases e:k=j
  .rw[if_pos e.symm];exact cI (p:=(k,y)) e
  .rw[if_neg (λz=>e z.symm)];exact cB (p:=(k,y)) e
 |p::r,hn=>by
  rw[List.cons_append];have b:¬p.1=k:=λz=>by rw[cI z]at hn;cases hn
  rw[cB b]at hn;have c:=zV k j y r hn
  by_cases e:p.1=j
  .rw[cI e,cI e,if_neg (λz=>b (e.trans z))]
  .rw[cB e,cB e,c]
def OV(b:List (κ×V))(k j:κ)(y:V):cD (dY b k y) j=if j=k then some y else cD b j:=by
 unfold dY;by_cases a:(b.any λc=>decide (c.1=k))=true
 .rw[if_pos a,RJ];rw[fV]at a;by_cases e:j=k
  .obtain⟨x,d⟩:=Fj.mp a;rw[if_pos e,e,d,Gg,if_pos rfl]
  simp_all
 .rw[if_neg a];refine zV k j y b ?_;rw[fV]at a;simp_all
def fX(a:List (κ×V))(k:κ)(v:V):(dY a k v).length<=a.length+1:=by
 unfold dY;grind
def mS{a:List (κ×V)}{k:κ}(v:V)(h:cD a k=none):dY a k v=a++[(k,v)]:=by
 unfold dY;rw[fV,h];simp_all
def Zp.Zn{o:Option V}{u:Option Value}(r:Zp o u):o.isSome=u.isSome:=by
 cases o with
 |none=>cases u with
  |none=>rfl
  |some _=>exact(show False from r).elim
 |some _=>cases u with
  |none=>exact(show False from r).elim
  |some _=>rfl
def Zp.getD{o:Option V}{u:Option Value}{d:V}{d':Value}(r:Zp o u)(a:RelV d d'):RelV (o.getD d) (u.getD d'):=by
 cases o with
 |none=>cases u with
  |none=>exact a
  |some _=>exact(show False from r).elim
 |some _=>cases u with
  |none=>exact(show False from r).elim
  |some _=>exact r
def KV.val{a:List (κ×V)}{vs:List (κ×Value)}(r:KV a vs)(k:κ):Zp (cD a k) (valueAt vs k):=by
 induction r with
 |nil=>exact True.intro
 | @cons p q j c h t g=>
  obtain⟨f,i⟩:=h;by_cases e:p.1=k
  .have d:=f.symm.trans e
   have b:valueAt (q::c) k=some q.2:=by simp[valueAt,List.find?_cons,d]
   rwa[cI e,b]
  .have d:¬q.1=k:=λz=>e (f.trans z)
   have b:valueAt (q::c) k=valueAt c k:=by simp[valueAt,List.find?_cons,d]
   rwa[cB e,b]
def KV.any{a:List (κ×V)}{vs:List (κ×Value)}(r:KV a vs)(k:κ):(a.any λb=>decide (b.1=k))=vs.any λb=>decide (b.1=k):=by
 induction r with
 |nil=>rfl
 |cons h t c=>rw[Jk,Jk,c,h.1]
def KV.Wu{b:List (κ×V)}{vs:List (κ×Value)}(r:KV b vs)(k:κ)(d:RelV y u):KV (b.map λa=>if a.1=k then (a.1,y) else a) (vs.map λa=>if a.1=k then (a.1,u) else a):=by
 induction r with
 |nil=>exact .nil
 | @cons p q j i h t f=>
  refine .cons ?_ f;grind
def KV.put{a:List (κ×V)}{vs:List (κ×Value)}(r:KV a vs)(k:κ)(b:RelV y u):KV (dY a k y) (stored vs k u):=by
 unfold dY stored;rw[r.any k];by_cases e:(vs.any λc=>decide (c.1=k))=true
 .rw[if_pos e,if_pos e];exact r.Wu k b
 .rw[if_neg e,if_neg e];exact Paired.snoc r ⟨rfl,b⟩
def KV.length{a:List (κ×V)}{vs:List (κ×Value)}(r:KV a vs):a.length=vs.length:=Paired.length r
end
def vO(r:RelV (kV k) u):(bE P w).is k u=true:=by
 cases k with
 |inl i=>obtain⟨t,e⟩:=(show ∃t,u=Value.int i t from r);subst e;exact AD P w i t
 |inr x=>obtain⟨t,e⟩:=(show ∃t,u=Value.str x t from r);subst e;exact GV P w x t
theorem zX:∀ {a:List Key} {b:List Value},Vals (a.map kV) b->ItemsAre (bE P w) a b
 |[],_,r=>by rw[Ja]at r;cases r;exact .nil
 |k::a,_,r=>by
  cases r with
  |cons h t=>exact .cons (vO h) (zX t)
abbrev KT(H:Hp):List (List Key×V)->List (List Key×Addr×Value)->Prop:=Paired λp q=>p.1=q.1/\H q.2.1=some (.tup (p.1.map kV))/\RelV p.2 q.2.2
def KT.val{a:List (List Key×V)}{xs:List (List Key×Addr×Value)}(r:KT H a xs)(k:List Key):Zp (cD a k) ((atKey xs k).map (·.2)):=by
 induction r with
 |nil=>exact True.intro
 | @cons p q j c h t g=>
  obtain⟨f,_,i⟩:=h;by_cases e:p.1=k
  .have d:=f.symm.trans e
   have b:atKey (q::c) k=some q.2:=by simp[atKey,List.find?_cons,d]
   rwa[cI e,b]
  .have d:¬q.1=k:=λz=>e (f.trans z)
   have b:atKey (q::c) k=atKey c k:=by simp[atKey,List.find?_cons,d]
   rwa[cB e,b]
def KT.Wu{a:List (List Key×V)}{xs:List (List Key×Addr×Value)}(r:KT H a xs)(k:List Key)(f:RelV y u):KT H (a.map λc=>if c.1=k then (c.1,y) else c) (xs.map (putAt k u)):=by
 induction r with
 |nil=>exact .nil
 | @cons p q l j h t g=>
  rw[Ax,Ax];refine .cons ?_ g;obtain⟨b,d,i⟩:=h;unfold putAt;by_cases e:p.1=k
  .rw[if_pos e,if_pos (b.symm.trans e)];exact⟨b,d,f⟩
  simp_all
def KT.put{a:List (List Key×V)}{xs:List (List Key×Addr×Value)}(r:KT H a xs)(k:List Key)(f:H b=some (.tup (k.map kV)))(c:RelV y u):KT H (dY a k y) (storedH xs k b u):=by
 have e:(a.any λd=>decide (d.1=k))=(atKey xs k).isSome:=by
  rw[fV,(r.val k).Zn,Jd]
 unfold dY storedH;rw[e];by_cases q:(atKey xs k).isSome=true
 .rw[if_pos q,if_pos q];exact r.Wu k c
 .rw[if_neg q,if_neg q];exact Paired.snoc r ⟨rfl,f,c⟩
def KT.keeps{a:List (List Key×V)}{xs:List (List Key×Addr×Value)}(r:KT H a xs)(d:∀b c,H b=some (.tup c)->H' b=some (.tup c)):KT H' a xs:=
 Paired.V4 r λ_ _ z=>⟨z.1,d _ _ z.2.1,z.2.2⟩
def QD{u:HO}(ok:Zj P w H h)(e:Rd H a u):ZX P w H h a u:=e.ok ok
def lC(ok:Zj P w H h)(e:Rd H a (.dK kvs)):kvs.length<=sizeLine/\(a==sysModules)=false/\∃b,KV kvs b/\h.DictOf (bE P w) a b:=
 show ZX P w H h a _ from QD ok e
def OG(ok:Zj P w H h)(e:H a=some (.dK kvs)):kvs.length<=sizeLine/\(a==sysModules)=false/\∃b,KV kvs b/\h.DictOf (bE P w) a b:=lC ok (.inl e)
def pE{ks:List Key}(ok:Zj P w H h)(e:H a=some (.tup (ks.map kV))):(tupleKind (bE P w)).is h ks a:=by
 obtain⟨_,b,r,o,f,d,n,c⟩:=(show ZX P w H h a _ from ok a _ e);exact⟨o,b.toArray,n,f,d,c,by simpa using zX r⟩
def tO{b:List (List Key×V)}(ok:Zj P w H h)(e:Rd H a (.dT b)):b.length<=sizeLine/\(a==sysModules)=false/\
 ∃d,KT H b d/\h.DictOfH (tupleKind (bE P w)) a d:=by
 obtain⟨z,y,d,r,o,v,A,u,s,n,k,j⟩:=(show ZX P w H h a (.dT b) from QD ok e);refine⟨z,y,d,r,o,v,A,u,s,n,k,λx c=>?_,j⟩;have f:∀ {l:List (List Key×V)} {m:List (List Key×Addr×Value)},KT H l m->∀x∈m,(tupleKind (bE P w)).is h x.1 x.2.1:=by
  intro l m q;induction q with
  |nil=>intro x c;exact nomatch c
  | @cons p q C B g t i=>
   intro x c;rcases Bb.mp c with e|c
   .subst e;exact pE ok (by simp_all)
   .exact i x c
 exact f r x c
def OB{b:List (List Key×V)}(ok:Zj P w H h)(e:H a=some (.dT b)):b.length<=sizeLine/\(a==sysModules)=false/\
 ∃c,KT H b c/\h.DictOfH (tupleKind (bE P w)) a c:=tO ok (.inl e)
def Y6(H:Hp)(a:Addr)(y:V)(r:Option V):Prop:=
 (∃c k,Rd H a (.dK c)/\y=kV k/\r=cD c k)\/∃c k b,Rd H a (.dT c)/\y=.ref b/\H b=some (.tup (k.map kV))/\r=cD c k
def XT(H:Hp)(a:Addr)(y v:V)(d:Hp):Prop:=
 (∃c k,H a=some (.dK c)/\y=kV k/\c.length<sizeLine/\d=upd H a (.dK (dY c k v)))\/
 ∃c k b,H a=some (.dT c)/\y=.ref b/\H b=some (.tup (k.map kV))/\c.length<sizeLine/\d=upd H a (.dT (dY c k v))
section
variable {r:Value} {o:Option V}
def Inv.big(I:Inv X y3 U H s):sysModules<s.heap.objs.size:=by
 have h:=(I.mod.glob.keeps I.bk).lt
 exact Nat.lt_trans (by decide) h
def Lx{Q:Q2}(C:A.units+1<cLine)(I:Inv X y3 U H s)(g:Y6 H a y (some v))(t:RelV y u)(h:∀f r,Inv X y3 U H r->RelV v f->Q f r):wpAny (model X.prog X.w) A (getItem (.ref a) u) Q E s:=by
 rcases g with⟨i,k,e,n,l⟩|⟨i,k,b,e,n,G,l⟩
 .subst n;obtain⟨z,F,B,d,q⟩:=lC I.Z4 e;obtain⟨f,j,c⟩:=Zp.some_of (v:=v) (o:=valueAt B k) (by rw[l];exact d.val k)
  exact wpAny_getItem_of (vO t) q.mapOf j (h f _ (I.tok _) c)
 .subst n;cases (show u=Value.ref b from t);obtain⟨z,F,x,d,q⟩:=tO I.Z4 e;obtain⟨f,j,c⟩:=Zp.some_of (v:=v) (o:=(atKey x k).map (·.2)) (by rw[l];exact d.val k)
  obtain⟨p,D,m⟩:=Bt.mp j;refine wpAny_getItem_heap (Ge C) (pE I.Z4 G) q D ?_;rw[m];exact h f _ (I.tok _) c
def Om{Q:Q2}(p:A.units+1<cLine)(I:Inv X y3 U H s)(g:Y6 H a y o)(n:RelV y u)(h:∀m,Inv X y3 U H m->Q (.bool o.isSome) m):wpAny (model X.prog X.w) A (compareOp .In u (.ref a)) Q E s:=by
 rcases g with⟨d,k,e,i,l⟩|⟨d,k,b,e,i,r,l⟩
 .subst i;obtain⟨z,f,v,c,j⟩:=lC I.Z4 e;refine wpAny_in_of (vO n) f j.mapOf ?_;rw[<-(c.val k).Zn,<-l];exact h _ (I.tok _)
 .subst i;cases (show u=Value.ref b from n);obtain⟨z,f,t,c,j⟩:=tO I.Z4 e;refine wpAny_in_heap (Ge p) (pE I.Z4 r) f j ?_;have q:=(c.val k).Zn
  rw[Jd]at q;rw[<-q,<-l];exact h _ (I.tok _)
def B3{Q:Q2}(p:A.units+1<cLine)(I:Inv X y3 U H s)(g:Y6 H a y o)(n:RelV y u)(h:∀m,Inv X y3 U H m->Q (.bool (!o.isSome)) m):wpAny (model X.prog X.w) A (compareOp .NotIn u (.ref a)) Q E s:=by
 rcases g with⟨d,k,e,i,l⟩|⟨d,k,b,e,i,r,l⟩
 .subst i;obtain⟨z,f,v,c,j⟩:=lC I.Z4 e;refine wpAny_notIn_of (vO n) f j.mapOf ?_;rw[<-(c.val k).Zn,<-l];exact h _ (I.tok _)
 .subst i;cases (show u=Value.ref b from n);obtain⟨z,f,t,c,j⟩:=tO I.Z4 e;refine wpAny_notIn_heap (Ge p) (pE I.Z4 r) f j ?_;have q:=(c.val k).Zn
  rw[Jd]at q;rw[<-q,<-l];exact h _ (I.tok _)
def RZ{c:HO}(I:Inv X y3 U H s)(f:Vo (H a))(hs:Heap.SameBut a s.heap h')(g:∃q,h'.get? a=some q)(d:ZX X.prog X.w (upd H a c) h' a c):Inv X y3 U (upd H a c) {s with heap:=h',toks:=t'}:=
 I.write   f (.inl rfl) (λb q i z=>(hs.2 b i).trans z) g d
def R1{vs:List (Key×Value)}(z:kvs.length<=sizeLine)(c:(a==sysModules)=false)(b:KV kvs vs)(dd:h'.DictOf (bE P w) a vs):ZX P w H' h' a (.dK kvs):=⟨z,c,vs,b,dd⟩
def LN{Q:Unit->Shared->Prop}(N:A.units+1<cLine)(I:Inv X y3 U H s)(g:XT H a y v H')(D:RelV y u)(F:RelV v r)(h:∀C,Inv X y3 U H' C->Q () C):wpAny (model X.prog X.w) A (setItem (.ref a) u r) Q E s:=by
 rcases g with⟨f,k,e,t,l,x⟩|⟨f,k,b,e,t,K,l,x⟩
 .subst t x;obtain⟨z,p,M,d,B⟩:=OG I.Z4 e;have m:M.length<=sizeLine:=by rw[<-d.length];exact z
  have o:(dY f k v).length<=sizeLine:=by have:=fX f k v;omega
  refine wpAny_setItem_pairs (hsz:=m) (vO D) B λG i n=>h _ ?_;have O:∃q,G.get? a=some q:=let ⟨q,_,_,j,_⟩:=i;⟨q,j⟩
  exact RZ I (by rw[e];exact True.intro) n O (R1 o p (d.put k F) i)
 .subst t x;cases (show u=Value.ref b from D);obtain⟨z,p,L,d,B⟩:=OB I.Z4 e;have m:L.length<=sizeLine:=by rw[<-Paired.length d];exact z
  have o:(dY f k v).length<=sizeLine:=by have:=fX f k v;omega
  refine wpAny_setItem_heap (hsz:=m) (Ge N) (pE I.Z4 K) B λG i n=>h _ ?_;obtain⟨q,V,W,j,T,S,R,_,P⟩:=i;refine RZ I (by rw[e];exact True.intro) n ⟨q,j⟩ ⟨o,p,_,(d.put k K F).keeps λc Y J=>?_,q,V,W,j,T,S,R,P⟩
  rw[aI (BC J e (λz=>nomatch z))]
  exact J
end
def NR(i:Expr):Prop:=∀a b,subscripted i false a b=operate [a,b] (getItem a b)
def LK{b a:Expr}{id:String}{Q:Q2}(m:typeLookup (.type T) "__getitem__"=pure (some (.builtin id)))(hs:NR a)(h:wpAny (model prog w) A (eval b env) (λo f=>wpAny (model prog w) A (eval a env) (λi c=>c.TypeIs o T/\wpAny (model prog w) A (getItem o i) Q E c) E f) E s):wpAny (model prog w) A (eval (.Subscript b a pos) env) Q E s:=by
 refine Subscript_ (Cf h (λo f k=>Cf k (λi c d=>?_) λ_ _ x=>x) λ_ _ x=>x);obtain⟨l,d⟩:=d;refine Ac ?_;refine Ac (Fw l m ?_);have g:wpAny (model prog w) A (subscripted a false o i) (λr e=>wpAny (model prog w) A (letTemporaryGo b o r >>= λ_=>pure r) Q E e) E c:=by
  rw[hs o i];exact wpAny_operating (Cf d (λr e j=>Ac (wpAny_letTemporaryGo (Ag j))) λ_ _ x=>x)
 first
  |exact Ag (Ac g)
def LC{o:Option V}(I:Inv X y3 U H s)(g:Y6 H a y o):s.TypeIs (.ref a) "dict" := by
 rcases g with⟨c,k,e,_,_⟩|⟨c,k,b,e,_,_,_⟩
 .obtain⟨_,_,h,_,d⟩:=lC I.Z4 e;exact d.typeIs
 .obtain⟨_,_,f,_,d⟩:=tO I.Z4 e;exact d.typeIs
def RE(d c:TE):TE:=λU H Q=>d U H λx e=>c U e λy b=>∃a v,x=.ref a/\Y6 b a y (some v)/\Q v b
def PJ(e c d:TE):TS:=λD U H=>d U H λv h=>e U h λx g=>c U g λy f=>∃a b,x=.ref a/\XT f a y v b/\D.nx U b
section
variable {o i value:Expr} {pos':Pos} {td ty:TE}
def iM(hu:X.A.units+1<cLine)(ho:PE X o td)(hi:PE X i ty)(hs:NR i):PE X (.Subscript o i pos) (RE td ty):=by
 intro y3 s U H Q I h;refine LK PySem.F.slot_dict_getitem.lookup hs (Z1 (ho y3 s U H _ I h) λu s1 ⟨x,H1,I1,rx,q1⟩=>Z1 (hi y3 s1 U H1 _ I1 q1) λiv s2 μ=>?_);obtain⟨y,H2,I2,ry,a,v,ex,g,q2⟩:=μ;subst ex;obtain rfl:u=Value.ref a:=rx;exact⟨LC I2 g,Lx hu I2 g ry λw' s3 I3 rw'=>⟨v,H2,I3,rw',q2⟩⟩
def fN(hu:X.A.units+1<cLine)(ho:PE X o td)(hi:PE X i ty)(hv:PE X value tv)(hs:swapsWith value (some (.Subscript o i pos')) pos.line X.env=pure false):PS X (.Assign [.Subscript o i pos'] value pos) (PJ td ty tv):=by
 intro y3 s U H D I h;refine wpAny_Assign_Subscript (Z1 (hv y3 s U H _ I h) λr s1 ⟨v,H1,I1,rv,q1⟩=>Z1 (ho y3 s1 U H1 _ I1 q1) λu s2 ⟨x,H2,I2,rx,q2⟩=>Z1 (hi y3 s2 U H2 _ I2 q2) λiv s3 μ=>?_) hs;obtain⟨y,H3,I3,ry,a,H4,ex,g,q3⟩:=μ;subst ex;obtain rfl:u=Value.ref a:=rx;exact LN hu I3 g ry rv λs4 I4=>⟨U,H4,I4,q3⟩
end
def JW(h:Heap)(a:sysModules<h.objs.size):ZX P w H (h.push {cls:=.type "dict",data:=.dict #[]}) h.objs.size (.dK []):=
 ⟨Ci _,Cs.mpr (Ne.symm (Bc a)),[],.nil,Heap.DictOf.new h⟩
def A9(h:Heap)(a:sysModules<h.objs.size):ZX P w H (h.push {cls:=.type "dict",data:=.dict #[]}) h.objs.size (.dT []):=
 ⟨Ci _,Cs.mpr (Ne.symm (Bc a)),[],.nil,_,#[],0,Au _ rfl,⟨rfl,rfl,rfl⟩,rfl,rfl,List.nodup_nil⟩
def QU:TE:=λ_ H Q=>∀p,H p=none->Q (.ref p) (upd H p (.dK []))
def PC:TE:=λ_ H Q=>∀p,H p=none->Q (.ref p) (upd H p (.dT []))
def vY:PE X (.Dict [] [] pos) QU:=λb s U H Q I h=>
 wpAny_Dict_empty ⟨.ref s.heap.objs.size,_,I.laid    (λ_ _ q=>Af _ q) (Ah _) (JW s.heap I.big),rfl,h _ (I.Z4.fresh (Ah _))⟩
def Oe:PE X (.Dict [] [] pos) PC:=λb s U H Q I h=>
 wpAny_Dict_empty ⟨.ref s.heap.objs.size,_,I.laid    (λ_ _ q=>Af _ q) (Ah _) (A9 s.heap I.big),rfl,h _ (I.Z4.fresh (Ah _))⟩
def NQ(H:Hp)(a:Addr):Prop:=(∃b,Rd H a (.dK b))\/∃b,Rd H a (.dT b)
def RH(I:Inv X y3 U H s)(d:NQ H a):s.TypeIs (.ref a) "dict"/\(∀b,Value.ref a=.ref b->∃c,s.heap.get? b=some c/\c.dict=none)/\(a==sysModules)=false:=by
 rcases d with⟨g,e⟩|⟨g,e⟩
 .obtain⟨_,h,l,_,f⟩:=lC I.Z4 e;refine⟨f.typeIs,λb q=>?_,h⟩;cases q;obtain⟨c,_,_,j,i,_⟩:=f;exact⟨c,j,i.2.1⟩
 .obtain⟨_,h,k,_,f⟩:=tO I.Z4 e;refine⟨f.typeIs,λb q=>?_,h⟩;cases q;obtain⟨c,_,_,j,i,_⟩:=f;exact⟨c,j,i.2.1⟩
section
variable {d:V} {r:Value} {o:Option V}
def FC{Q:Q2}(r:A.units+1<cLine)(I:Inv X y3 U H s)(g:Y6 H a y o)(p:RelV y u)(h:∀m n,Inv X y3 U H n->RelV (o.getD .non) m->Q m n):wpAny (model X.prog X.w) A (call (.builtin "dict.get") [.ref a,u]) Q E s:=by
 rcases g with⟨f,k,e,j,l⟩|⟨f,k,b,e,j,t,l⟩
 .subst j;obtain⟨z,i,v,c,d⟩:=lC I.Z4 e;refine Gz Cc d.typeIs Fz (Ir _ _) (meets_dict_get (bE X.prog X.w) a (vO p) i) ⟨_,d.mapOf,h _ _ (I.tok _) ?_⟩;rw[l];exact(c.val k).getD rfl
 .subst j;cases (show u=Value.ref b from p);obtain⟨z,i,q,c,d⟩:=tO I.Z4 e;refine Gz Cc d.typeIs Fz (Ir _ _) (meetsH_dict_get (tupleKind (bE X.prog X.w)) a b i) ⟨Ge r,k,q,pE I.Z4 t,d,h _ _ (I.tok _) ?_⟩;rw[l];exact(c.val k).getD rfl
def Lq{Q:Q2}(x:A.units+1<cLine)(I:Inv X y3 U H s)(g:Y6 H a y o)(q:RelV y u)(t:RelV d r)(h:∀n p,Inv X y3 U H p->RelV (o.getD d) n->Q n p):wpAny (model X.prog X.w) A (call (.builtin "dict.get") [.ref a,u,r]) Q E s:=by
 rcases g with⟨i,k,e,m,l⟩|⟨i,k,b,e,m,B,l⟩
 .subst m;obtain⟨z,j,C,c,f⟩:=lC I.Z4 e;refine Gz Cc f.typeIs Fz (PySem.F.args_dict_get_3 _ _ _) (meets_dict_get_default _ a (vO q) j r) ⟨_,f.mapOf,h _ _ (I.tok _) ?_⟩;rw[l];exact(c.val k).getD t
 .subst m;cases (show u=Value.ref b from q);obtain⟨z,j,v,c,f⟩:=tO I.Z4 e;refine Gz Cc f.typeIs Fz (PySem.F.args_dict_get_3 _ _ _) (meetsH_dict_get_default _ a b j r) ⟨Ge x,k,v,pE I.Z4 B,f,h _ _ (I.tok _) ?_⟩;rw[l];exact(c.val k).getD t
end
def Lc{Q:Q2}(I:Inv X y3 U H s)(e:Rd H a (.dK kvs))(h:∀p f,H p=none->Inv X y3 U (upd H p (.dK kvs)) f->Q (.ref p) f):wpAny (model X.prog X.w) A (call (.type "dict") [.ref a]) Q E s:=by
 obtain⟨z,j,l,c,k⟩:=lC I.Z4 e;refine kt_call_dict j k (by rwa[<-c.length]) λm d i=>?_
 refine h _ _ (I.Z4.fresh (Ah _)) (I.laid    (λb q g=>?_) (Ah _) (R1 z (Cs.mpr (Ne.symm (Bc I.big))) c d));exact(i.2 b (Bc (Aq g))).trans (Af _ g)
def Inv.re(I:Inv X y3 U H s)(j:∀b,H b=none->H' b=none)(f:∀b l,X.H₀ b=some (.tup l)->H' b=some (.tup l))(i:∀b o u,X.H₀ b=some (.frz o u)->H' b=some (.frz o u))(g:∀b m,X.H₀ b=some (.tbl m)->∃h,H' b=some (.tbl (m++h)))(k:Zj X.prog X.w H' s.heap):Inv X y3 U H' s:=
 ⟨I.ok,I.os,I.bare,⟨I.base.keep,I.base.slot,λb o e n q=>j b (I.base.free b o e n q),I.base.there,f,i,g⟩,I.loc,I.cell,j _ I.free,λx c e=>j c (I.ZO x c e),λp r=>by
  obtain⟨a,b,c,d,e⟩:=I.pin p r;exact⟨a,j _ b,c,d,e⟩,k,I.len⟩
noncomputable def PX:HO->Bool
 |.dK _=>true
 |.dT _=>true
 |_=>false
def Inv.freeze{u:HO}(I:Inv X y3 U H s)(i:H a=some u)(j:PX u=true)(r:s.heap.get? a=some o):Inv X y3 U (upd H a (.frz o u)) s:=by
 have h:∀c v,H c=some v->PX v=false->c≠a:=λc v q n z=>by rw[z,i]at q;cases q;rw[n]at j;cases j
 have g:∀c y,H c=some (.own y)->upd H a (.frz o u) c=some (.own y):=λc y q=>by rw[aI (h c _ q rfl)];exact q
 have d:∀c f,H c=some (.tup f)->upd H a (.frz o u) c=some (.tup f):=λc f q=>by rw[aI (h c _ q rfl)];exact q
 refine I.re (λb q=>by rw[aI (λz=>by rw[z,i]at q;cases q)];exact q) (λb f q=>d b f (I.base.tups b f q)) (λb p v q=>?_) (λb l q=>?_) (λb v q=>?_)
 .have:=I.base.frzs b p v q
  rw[aI (h b _ this rfl)];exact this
 .obtain⟨m,e⟩:=I.base.tbls b l q;exact⟨m,by rw[aI (h b _ e rfl)];exact e⟩
 .by_cases k:b=a
  .subst k;rw[aD]at q;cases q;exact(show s.heap.get? b=some o/\ZX X.prog X.w (upd H b (.frz o u)) s.heap b u from⟨r,(I.Z4 b _ i).Zb (λ_ _ _ q=>q) (λc=>g c b) d⟩)
  .rw[aI k]at q;exact(I.Z4 b v q).Zb (λ_ _ _ q=>q) (λc=>g c b) d
noncomputable def Zk(Hs H:Hp):Hp:=λb=>match H b with
 |some (.frz o u)=>(match Hs b with|some (.frz _ _)=>some (.frz o u)|_=>some u)
 |x=>x
def dO{u:HO}(h:H b=some u)(n:∀o v,u≠.frz o v):Zk Hs H b=some u:=by
 unfold Zk;grind
def R4(h:H b=none):Zk Hs H b=none:=by unfold Zk;rw[h]
def uF{Hs:Hp}{u:HO}(h:H b=some (.frz o u))(n:∀o v,Hs b≠some (.frz o v)):Zk Hs H b=some u:=by
 unfold Zk;simp_all
def nJ{a:Obj}{u u':HO}(h:H b=some (.frz o u))(n:Hs b=some (.frz a u')):Zk Hs H b=some (.frz o u):=by
 unfold Zk;simp_all
def Inv.Zf(I:Inv X y3 U H s)(r:∀b o u,X.H₀ b=some (.frz o u)->Hs b=some (.frz o u)):Inv X y3 U (Zk Hs H) s:=by
 have d:∀c y,H c=some (.own y)->Zk Hs H c=some (.own y):=λc y q=>dO q λ_ _ z=>by cases z
 have a:∀c f,H c=some (.tup f)->Zk Hs H c=some (.tup f):=λc f q=>dO q λ_ _ z=>by cases z
 refine I.re (λb q=>R4 q) (λb f q=>a b f (I.base.tups b f q)) (λb o u q=>nJ (I.base.frzs b o u q) (r b o u q)) (λb p q=>?_) (λb u q=>?_)
 .obtain⟨m,e⟩:=I.base.tbls b p q;exact⟨m,dO e λ_ _ z=>by cases z⟩
 .cases e:H b with
  |none=>rw[R4 e]at q;cases q
  |some v=>
   have j:=I.Z4 b v e
   by_cases n:∃o g,v=.frz o g
   .obtain⟨o,g,rfl⟩:=n;have i:=j
    by_cases h:∃l k,Hs b=some (.frz l k)
    .obtain⟨l,k,h⟩:=h;rw[nJ e h]at q;cases q;exact j.Zb (λ_ _ _ q=>q) (λc=>d c b) a
    .rw[uF e λo v z=>h ⟨o,v,z⟩]at q;cases q;exact i.2.Zb (λ_ _ _ q=>q) (λc=>d c b) a
   .rw[dO e λo g z=>n ⟨o,g,z⟩]at q;cases q;exact j.Zb (λ_ _ _ q=>q) (λc=>d c b) a
noncomputable def VU(Hs:Hp)(D:Ends):Ends:=⟨λU H=>D.nx U (Zk Hs H),λv H=>D.rt v (Zk Hs H),λU H=>D.bk U (Zk Hs H),λU H=>D.ct U (Zk Hs H)⟩
def QF(t:TE):TE:=λU H Q=>t U H λv a=>Q v (Zk H a)
def Qn(t:TS):TS:=λD U H=>t (VU H D) U H
def SD(h:PE X e t):PE X e (QF t):=λa s U H Q I q=>Z1 (h a s U H _ I q) λv g ⟨x,f,d,r,c⟩=>⟨x,Zk H f,d.Zf λb o u e=>I.base.frzs b o u e,r,c⟩
def UC(h:PS X st t):PS X st (Qn t):=λi s U H D I q=>Z1 (h i s U H _ I q) λf k g=>by
 cases f with
 |next=>obtain⟨a,d,c,r⟩:=g;exact⟨a,Zk H d,c.Zf λb o u e=>I.base.frzs b o u e,r⟩
 |brk=>obtain⟨a,d,c,r⟩:=g;exact⟨a,Zk H d,c.Zf λb o u e=>I.base.frzs b o u e,r⟩
 |cont=>obtain⟨a,d,c,r⟩:=g;exact⟨a,Zk H d,c.Zf λb o u e=>I.base.frzs b o u e,r⟩
 |ret u=>obtain⟨v,a,d,c,j,r⟩:=g;exact⟨v,a,Zk H d,c.Zf λb o u e=>I.base.frzs b o u e,j,r⟩
def JB(h:t U H λv a=>Q v (Zk H a)):QF t U H Q:=h
def K0(h:t (VU H D) U H):Qn t D U H:=h
def pV{u:HO}(f:Hs a=some u)(g:∀o v,u≠.frz o v)(h:Z_ (upd Hs a (.frz o u)) H):Z_ Hs (Zk Hs H):=λb v q=>by
 by_cases e:b=a
 .subst e;rw[f]at q;cases q;exact uF (h _ _ aD) λo v z=>by grind
 .have:=h b v (by rwa[aI e])
  by_cases d:∃o c,v=.frz o c
  .obtain⟨i,c,rfl⟩:=d;exact nJ this q
  .exact dO this λo c z=>d ⟨o,c,z⟩
def LO(h:Z_ Hs H):Z_ Hs (Zk Hs H):=λb v q=>by
 have:=h b v q
 by_cases c:∃o a,v=.frz o a
 .obtain⟨d,a,rfl⟩:=c;exact nJ this q
 .exact dO this λo a z=>c ⟨o,a,z⟩
def oZ{a:Type}{R:α->a->Prop}{xs:List α}{ys:List a}(r:Paired R xs ys):∀ {i:Nat} {x:α},xs[i]?=some x->∃y,ys[i]?=some y/\R x y:=by
 induction r with
 |nil=>intro i x h;cases h
 |cons h t c=>
  intro i x b;cases i with
  |zero=>cases b;exact⟨_,rfl,h⟩
  |succ i=>exact c  b
def Pp(h:(bE P w).is k u=true):RelV (kV k) u:=by
 rcases bV h with⟨i,t,rfl,rfl⟩|⟨x,t,rfl,rfl⟩
 .exact⟨t,rfl⟩
 .exact⟨t,rfl⟩
noncomputable def SN(a:Addr)(o:Obj)(b:List (Key×V)):It:=⟨λi H=>H a=some (.frz o (.dK b))/\i<b.length,λi H x d=>d=H/\∃c,b[i]?=some c/\x=kV c.1,λi H=>H a=some (.frz o (.dK b))/\b.length=i⟩
noncomputable def Uu(a:Addr)(o:Obj)(b:List (Key×V)):It:=⟨λi H=>H a=some (.frz o (.dK b))/\i<b.length,λi H x d=>∃p c,H p=none/\x=.ref p/\d=upd H p (.tup [kV c.1,c.2])/\b[i]?=some c,λi H=>H a=some (.frz o (.dK b))/\b.length=i⟩
def rM(I:Inv X y3 U H s)(m:H a=some (.frz o (.dK kvs)))(h:∃i,o.data=.dict i ep):kvs.length<=sizeLine/\(a==sysModules)=false/\∃c,KV kvs c/\s.heap.DictAt (bE X.prog X.w) a c ep:=by
 have j:=I.Z4 a _ m
 obtain⟨e,z,l,c,f,t,n,p,d,k,b,r⟩:=j;rw[e]at d;cases d;obtain⟨i,g⟩:=h;have q:=b
 rw[g]at q;cases q;exact⟨z,l,c,f,o,_,e,k,b,r⟩
def CL(a m:Addr)(o:Obj)(l:List (Key×V))(W:Nat)(q:∃es,o.data=.dict es W):Turn P w K tg (SN a o l) [m] m (λi h=>h.IsKeyIter m a i l.length W) where
 mem:=by simp
 obj:=λi h f b n=>by
  have e:b=m:=by simpa using n
  subst e;obtain⟨o,e,c,d⟩:=f;exact⟨o,e,λv z=>by rw[d]at z;cases z⟩
 keep:=λi h x f k=>let ⟨o,ho,r⟩:=f;⟨o,k m (by simp) o ho,r⟩
 item:=by
  intro X G A J T i S s U H E I u f D;subst G A J;obtain⟨F,C⟩:=D;obtain⟨z,hd,Y,g,R⟩:=rM I F q;have j:=g.length
  obtain⟨Q,O,f2,N,M,L⟩:=u m (by simp)
  obtain⟨⟨k,v⟩,hx,B,_⟩:=oZ g (Aa C);refine wpAny_pyNext_dict_item (knd:=bE X.prog X.w) (by rw[<-j];exact f) R hx λy x hk p Z=>?_
  have I1:=I.turned (t':=s.toks) (λb o n e=>(Z.2 b n).trans e) Q O N M L
  obtain⟨oi,e,c,d⟩:=id p;refine⟨y,rfl,tF (s:={s with heap:=x}) e c d (by decide) ⟨kV k,H,I1,Pp hk,⟨rfl,l[i],Aa C,by rw[B]⟩,?_,λb n=>(u b n).1⟩⟩
  rw[j];exact p
 done:=by
  intro X G A J T i S s U H E I u f D;subst G A J;obtain⟨F,C⟩:=D;obtain⟨z,hd,Y,g,R⟩:=rM I F q;have j:=g.length
  obtain⟨Q,O,f2,N,M,L⟩:=u m (by simp)
  exact wpAny_pyNext_dict_end (knd:=bE X.prog X.w) (I.ok.hd T) (by rw[<-j];exact f) R (Hh (by omega)) λx eb=>⟨rfl,I.turned (t':=s.toks) (λb o n e=>eb b o n e) Q O N M L⟩
 self:=λ_ _ _ _ _ f h=>wpAny_pyIter_keyiter f h
def Ku(a g:Addr)(o:Obj)(d:List (Key×V))(ep:Nat)(p:∃es,o.data=.dict es ep):Turn P w K (.Tuple elts x1 tp) (Uu a o d) [g] g (λi h=>∃C B,IsItemIter h g a i d.length ep C B) where
 mem:=by simp
 obj:=λi h c b l=>by
  have e:b=g:=by simpa using l
  subst e;obtain⟨_,_,e⟩:=c;exact⟨_,e,λv z=>by cases z⟩
 keep:=λi h h' c k=>let ⟨x,y,F⟩:=c;⟨x,y,k g (by simp) _ F⟩
 item:=by
  intro X S D T hc i Z s U H E I A c N;subst S D T;obtain⟨Q,M⟩:=N;obtain⟨z,hd,vs,f,Y⟩:=rM I Q p;have j:=f.length
  obtain⟨⟨k,v⟩,hx,L,J⟩:=oZ f (Aa M);obtain⟨C,B,c⟩:=c;have G:=Aq c
  refine wpAny_pyNext_items_item (knd:=bE X.prog X.w) (by rw[<-j];exact c) Y hx λm h1 hk F hT a1 kk=>?_
  refine⟨_,rfl,wpAny_letOwnedTupleGo_items F λh2 O n=>?_⟩;have r:=Fi G
  have R:=(n.2 _ r).trans hT
  have I2:Inv X Z U (upd H s.heap.objs.size (.tup [kV d[i].1,d[i].2])) {s with heap:=h2,toks:=s.toks}:=by
   refine I.YX (ch:=[g]) A (λb u l q=>(n.2 b (λz=>l (by simp[z]))).trans (kk b u (λz=>l (by simp[z])) q)) (Nat.le_refl _) ⟨bH (by show 2<=_;omega),[m,v],.cons (by rw[L];exact Pp hk) (.cons J .nil),_,R,rfl,_,rfl⟩
  refine⟨.ref s.heap.objs.size,_,I2,rfl,⟨_,d[i],I.Z4.fresh (Ah _),rfl,rfl,Aa M⟩,⟨m,v,by rw[j];exact O⟩,λb l=>?_⟩
  rw[Aj.mp l,aI r.symm];exact(A g (by simp)).1
 done:=by
  intro X S D T hc i Z s U H E I A c N;subst S D T;obtain⟨Q,M⟩:=N;obtain⟨z,hd,vs,f,Y⟩:=rM I Q p;have j:=f.length
  obtain⟨C,B,c⟩:=c;obtain⟨f0,f1,f2,f3,f4,f5⟩:=A g (by simp)
  exact wpAny_pyNext_items_end (knd:=bE X.prog X.w) (I.ok.hd hc) (by rw[<-j];exact c) Y (Hh (by omega)) λh' eb=>⟨rfl,I.turned (t':=s.toks) (λb o l e=>eb b o l e) f0 f1 f3 f4 f5⟩
 self:=λ_ _ _ _ _ c h=>let ⟨_,_,c⟩:=c;W.kcp_self c h
def CB(I:Inv X y3 U H s)(f:H a=some (.dK kvs)):∃o b c,s.heap.get? a=some o/\o.data=.dict b c:=by
 obtain⟨_,_,g,_,o,b,c,d,_,e,_⟩:=OG I.Z4 f;exact⟨o,b,c,d,e⟩
def MU(I:Inv X y3 U H s)(i:H a=some (.frz o (.dK kvs))):∃d,∃c,o.data=.dict c d:=by
 have g:=I.Z4 a _ i
 obtain⟨e,_,_,b,_,j,c,d,f,_,h,_⟩:=g;grind
def sR(H:Hp)(a:Addr)(R:Obj->List (Key×V)->Hp->Prop):Prop:=(∃b,H a=some (.dK b)/\∀o,R o b (upd H a (.frz o (.dK b))))\/∃o b,H a=some (.frz o (.dK b))/\R o b H
def walk_at{R:Obj->List (Key×V)->Hp->Prop}(I:Inv X y3 U H s)(h:sR H a R):∃o b g e,Inv X y3 U g s/\g a=some (.frz o (.dK b))/\(∃d,o.data=.dict d e)/\R o b g:=by
 rcases h with⟨b,c,q⟩|⟨o,b,c,q⟩
 .obtain⟨o,d,e,i,f⟩:=CB I c;exact⟨o,b,_,e,I.freeze c rfl i,aD,⟨d,f⟩,q o⟩
 .obtain⟨e,d,f⟩:=MU I c;exact⟨o,b,H,e,I,c,⟨d,f⟩,q⟩
def Qs(c:TE):TI:=λU H R=>c U H (fU λa e=>sR e a λo b d=>R (SN a o b) d)
def PZ{l:Expr}(m:PE X l tl):PI X tg l (Qs tl):=by
 intro j s U H R I h;refine Z1 (m j s U H _ I h) λv c ⟨x,E,B,k,d⟩=>?_;unfold fU at d;split at d
 .cases k;rename_i A _
  obtain⟨o,i,C,u,f,r,a,q⟩:=walk_at B d;obtain⟨z,n,D,g,y⟩:=rM f r a;refine wpAny_pyIter_dict (knd:=bE X.prog X.w) n y ?_;refine⟨c.heap.objs.size,[c.heap.objs.size],_,_,C,rfl,f.kept (t':=c.toks) λb o e=>Af _ e,CL A _ o i u a,⟨_,Au _ rfl,rfl,by rw[g.length];rfl⟩,λb p=>?_,q⟩
  have e:b=c.heap.objs.size:=by simp_all
  subst e;exact f.YV (Ah _) (f.Z4.fresh (Ah _))
 .exact d.elim
noncomputable def XQ(H:Hp)(p:Addr):Bool:=match H p with
 |some (.dK _)=>true
 |some (.dT _)=>true
 |some (.frz _ (.dK _))=>true
 |some (.frz _ (.dT _))=>true
 |_=>false
def IG(h:XQ H p=true):NQ H p:=by
 unfold XQ at h;split at h
 .exact .inl ⟨_,.inl (by assumption)⟩
 .exact .inr ⟨_,.inl (by omega)⟩
 .exact .inl ⟨_,.inr ⟨_,by assumption⟩⟩
 .exact .inr ⟨_,.inr ⟨_,by assumption⟩⟩
 .cases h
def jU(h:H p=some (.dK kvs)):XQ H p=true:=by unfold XQ;rw[h]
def TR(h:H p=some (.frz o (.dK kvs))):XQ H p=true:=by unfold XQ;rw[h]
def OZ(c:TE):TI:=λU H R=>c U H (fU λa e=>sR e a λo b d=>R (Uu a o b) d)
def EV{l:Expr}(D:PE X l tl)(c:attributeBase l "items" X.env (eval l X.env)=eval l X.env:=by rfl)(a:(apos.endLine==cpos.line)=true:=by rfl):PI X (.Tuple elts x1 tp) (.Call (.Attribute l "items" apos) [] [] cpos) (OZ tl):=by
 intro p s U H R I h;refine wpAny_Call_method0_late c a (Z1 (D p s U H _ I h) λv d ⟨x,M,L,C,i⟩=>?_);unfold fU at i;split at i
 .cases C;rename_i j _
  obtain⟨o,f,A,K,n,r,g,q⟩:=walk_at L i;obtain⟨z,E,B,k,y⟩:=rM n r g;obtain⟨u,J,_⟩:=RH n (.inl ⟨f,.inr ⟨o,r⟩⟩);refine⟨"dict", "dict.items",Iu,PySem.F.slot_dict_items,PySem.F.type_dict_items,u,J,Gy rfl (PySem.evalArgs_none ?_)⟩;refine Gz PySem.F.slot_dict_items u PySem.F.entry_dict_items (PySem.F.args_dict_items_1 _) (meets_dict_items _ j E) ⟨⟨B,y.dictOf⟩,?_⟩;have m:Inv X p U A {d with heap:=d.heap.push {cls:=.type "dict_items",data:=.fields #[.ref j]}}:=n.kept  λb o e=>Af _ e
  refine wpAny_pyIter_items   ⟨_,Au _ rfl,rfl,rfl⟩ (y.push _) ?_
  refine⟨_,[_],_,_,A,rfl,m.kept  λb o e=>Af _ e,Ku j _ o f K g,⟨.none,.none,by rw[k.length];exact Au _ rfl⟩,λb G=>?_,q⟩
  rw[Aj.mp G];exact m.YV (Ah _) (m.Z4.fresh (Ah _))
 .exact i.elim
def KO(b:Nat->St->Hp->Prop)(s:b 0 U H)(l:∀i U H,i<=kvs.length->b i U H->H a=some (.frz o (.dK kvs)))(hs:∀i c U H p,kvs[i]?=some c->b i U H->H p=none->g (.ref p) U (upd H p (.tup [kV c.1,c.2])) λt u=>tb {D with nx:=b (i+1),ct:=b (i+1),bk:=D.nx} t u)(r:∀U H,b kvs.length U H->D.nx U H):WO (Uu a o kvs) g tb D U H:=by
 refine⟨λi m U H=>m=kvs.length-i/\i<=kvs.length/\b i U H,⟨kvs.length,by simp,Nat.zero_le _,s⟩,?_⟩
 rintro i m U H ⟨rfl,n,p⟩;have f:=l i U H n p
 by_cases d:i<kvs.length
 .refine .inr ⟨⟨f,d⟩,b (i+1),λw v h=>⟨kvs.length-(i+1),by omega,rfl,d,h⟩,λx v y=>?_⟩
  obtain⟨q,c,k,rfl,rfl,j⟩:=y;exact hs i c U H q j p k
 .have e:i=kvs.length:=by omega
  subst e;exact .inl ⟨⟨f,rfl⟩,r U H p⟩
def DJ(h:tl U H (fU λa d=>sR d a λo b c=>R (Uu a o b) c)):OZ tl U H R:=h
def D5(h:tl U H (fU λa d=>sR d a λo b c=>R (SN a o b) c)):Qs tl U H R:=h
def S9{b:Obj->List (Key×V)->Hp->Prop}(e:H a=some (.dK kvs))(h:∀o,b o kvs (upd H a (.frz o (.dK kvs)))):sR H a b:=.inl ⟨kvs,e,h⟩
section
variable {o:Expr} {t:TA} {id:String}
def N5(r:V->List V->Hp->VK->Prop)(c:TE)(t:TA):TE:=λU H Q=>c U H (fU λp a=>XQ a p=true/\t U a λb d=>r (.ref p) b d Q)
def eW(d:Slot "dict" name id)(i:typeOf (.builtin id)=pure (.type "method_descriptor"))(B:X3 X id r)(A:PE X o to)(D:PA X (e::es) t)(c:attributeBase o name X.env (eval o X.env)=eval o X.env:=by rfl)(f:((backTo cpos (starEach (e::es) X.env)).all (λx=>!x.1)&&(backToKw cpos (keywordEach [] X.env)).all (λx=>x.1.isSome)
 && decide ((e::es).length+([]:List Keyword).length+(if ([]:List Keyword).isEmpty then 0 else 1)<30))=true:=by rfl)(b:(apos.endLine==cpos.line)=true:=by rfl)(hs:starEach (e::es) X.env=(false,eval e X.env)::starEach es X.env:=by rfl)(a:(backTo cpos (starEach es X.env)).any (·.1)=false:=by rfl):PE X (.Call (.Attribute o name apos) (e::es) [] cpos) (N5 r to t):=by
 intro g s U H Q I h;refine Jb c f b rfl (Z1 (A g s U H _ I h) λv u μ=>?_);obtain⟨x,K,l,j,q⟩:=μ;unfold fU at q;split at q
 .obtain⟨C,z⟩:=q;obtain⟨F,E,_⟩:=RH l (IG C);cases _root_.id j;refine⟨"dict",_,Iu,d,i,F,E,?_⟩;have k:=D cpos g u U K _ l z
  rw[hs]at k ⊢;refine Gy (by show (false || (backTo cpos (starEach es X.env)).any (·.1))=false;rw[a]<;>rfl) (Ho ?_)
  exact Z1 k λn p ⟨m,J,G,w,y⟩=>B g p U J _ m _ n Q G j w y
 simp_all
def Sj:V->List V->Hp->VK->Prop:=λx b H Q=>∃a y z o,x=.ref a/\b=[y,z]/\Y6 H a y o/\Q (o.getD z) H
def vL(i:X.A.units+1<cLine):X3 X "dict.get" Sj:=by
 intro k s U H x n v o Q I c d h;obtain⟨a,y,z,r,rfl,rfl,g,q⟩:=h;cases c;obtain⟨u,m,rfl,e,b⟩:=tQ d;exact Lq i I g e b λl p j f=>⟨_,H,j,f,q⟩
def Py:List V->Hp->VK->Prop:=λc H Q=>∃a b,c=[.ref a]/\Rd H a (.dK b)/\∀p,H p=none->Q (.ref p) (upd H p (.dK b))
def F7:ZW X (.type "dict") Py:=by
 intro g s U H i j Q I r h;obtain⟨a,c,rfl,e,q⟩:=h;obtain⟨u,rfl,b⟩:=dI r;cases b;exact Lc I e λp k d f=>⟨.ref p,_,f,rfl,q p d⟩
def TQ(x y:V)(H:Hp)(Q:VK):Prop:=∃a v,x=.ref a/\Y6 H a y (some v)/\Q v H
def TF(D:Ends)(U:St)(x y v:V)(H:Hp):Prop:=∃a b,x=.ref a/\XT H a y v b/\D.nx U b
end
section
variable {w:V} {td ty:TE} {t:TA}
def E3(h:to U H (fU λp a=>XQ a p=true/\t U a λb c=>r (.ref p) b c Q)):N5 r to t U H Q:=h
def BD{P:Prop}(e:XQ H a=true)(h:P):XQ H a=true/\P:=⟨e,h⟩
def uK(e:Rd H a (.dK kvs))(h:Q ((cD kvs (Sum.inr z)).getD w) H):Sj (.ref a) [.str z,w] H Q:=⟨a,.str z,w,_,rfl,rfl,.inl ⟨kvs,.inr z,e,rfl,rfl⟩,h⟩
def K7(e:Rd H a (.dK kvs))(h:∀p,H p=none->Q (.ref p) (upd H p (.dK kvs))):Py [.ref a] H Q:=⟨a,kvs,rfl,e,h⟩
def IT(h:∀p,H p=none->Q (.ref p) (upd H p (.dK []))):QU U H Q:=h
def HG(h:td U H λx b=>ty U b λy a=>TQ x y a Q):RE td ty U H Q:=h
def vE(e:Rd H a (.dK kvs))(l:cD kvs (Sum.inr z)=some v)(h:Q v H):TQ (.ref a) (.str z) H Q:=⟨a,v,rfl,.inl ⟨kvs,.inr z,e,rfl,l.symm⟩,h⟩
def MG(h:tv U H λv c=>td U c λx b=>ty U b λy a=>TF D U x y v a):PJ td ty tv D U H:=h
def iL(e:H a=some (.dK kvs))(l:kvs.length<sizeLine)(h:D.nx U (upd H a (.dK (dY kvs (Sum.inr z) v)))):TF D U (.ref a) (.str z) v H:=⟨a,_,rfl,.inl ⟨kvs,.inr z,e,rfl,l,rfl⟩,h⟩
end
section
open PySem.AutoSeq1 (wpAny_loadPart')
open PySem.MeetsSeq PySem.MeetsSeq2 PySem.MeetsSeq3
def XG(P:Program)(w:World)(A:Around)(s:Shared)(u v:Value):Prop:=∀E Q,Q true s->wpAny (model P w) A (eqBool u v) Q E s
def K8(l b:Addr)(xs ys:Array Value)(n x:Nat)(dd p:Option Addr)(u f:Array (Option Value))(hsz:xs.size=ys.size)(k:Nat):∀i,xs.size-i=k->MeetsIn P w (Builtin.«list.__eq__.loop» ⟨[.ref l,.ref b,rawInt i,rawInt 2],[]⟩)
 (λA R s=>s.heap.get? l=some ⟨.type "list",dd,.seq xs n,u⟩/\s.heap.get? b=some ⟨.type "list",p,.seq ys x,f⟩/\(∀j E (D:j<ys.size),XG P w A.in1 s xs[j] ys[j])/\R (.ok (.ret (.bool true))) s):=by
 induction k with
 |zero=>
  intro i B A R s h;obtain⟨z,g,d,t,v⟩:=s;obtain⟨e,c,o,h⟩:=h
  wp_walk using (Cp e),(Cp c)
  have m:xs[((i:Nat):Int).toNat]?=none:=by simp;omega
  have a:ys[((i:Nat):Int).toNat]?=none:=by simp;omega
  rw[m,a]
  wp_walk using (Cp e),(Cp c)
  show R (.ok (.ret (.bool (xs.size==ys.size)))) _
  rw[hsz,Gd];exact h
 |succ k y=>
  intro i B A R s h;obtain⟨z,g,d,t,v⟩:=s;obtain⟨e,c,o,h⟩:=h
  wp_walk using (Cp e),(Cp c)
  have r:i<xs.size:=by omega
  have q:i<ys.size:=by omega
  have m:xs[((i:Nat):Int).toNat]?=some xs[i]:=by simp
  have a:ys[((i:Nat):Int).toNat]?=some ys[i]:=by simp
  have C:((i:Int)+1)=((i+1:Nat):Int):=by push_cast;rfl
  rw[m,a];refine Ac (o i r q _ _ ?_)
  wp_walk
  rw[C];refine⟨Gc plain_eq_loop _,Et entry_eq_loop ?_⟩;rw[Ef plain_eq_loop _];exact y (i+1) (by omega) A R _ ⟨e,c,o,h⟩
def EY(l b:Addr)(xs ys:Array Value)(n x:Nat)(dd p:Option Addr)(u f:Array (Option Value))(hsz:xs.size=ys.size)(k:Nat):∀i,xs.size-i=k->MeetsIn P w (Builtin.«list.__eq__.loop» ⟨[.ref l,.ref b,rawInt i,rawInt 3],[]⟩)
 (λA R s=>s.heap.get? l=some ⟨.type "list",dd,.seq xs n,u⟩/\s.heap.get? b=some ⟨.type "list",p,.seq ys x,f⟩/\(∀j E (D:j<ys.size),XG P w A.in1 s xs[j] ys[j])/\R (.ok (.ret (.bool false))) s):=by
 induction k with
 |zero=>
  intro i B A R s h;obtain⟨z,g,d,t,v⟩:=s;obtain⟨e,c,o,h⟩:=h
  wp_walk using (Cp e),(Cp c)
  have m:xs[((i:Nat):Int).toNat]?=none:=by simp;omega
  have a:ys[((i:Nat):Int).toNat]?=none:=by simp;omega
  rw[m,a]
  wp_walk using (Cp e),(Cp c)
  show R (.ok (.ret (.bool (xs.size != ys.size)))) _
  rw[hsz,bne_self_eq_false];exact h
 |succ k y=>
  intro i B A R s h;obtain⟨z,g,d,t,v⟩:=s;obtain⟨e,c,o,h⟩:=h
  wp_walk using (Cp e),(Cp c)
  have r:i<xs.size:=by omega
  have q:i<ys.size:=by omega
  have m:xs[((i:Nat):Int).toNat]?=some xs[i]:=by simp
  have a:ys[((i:Nat):Int).toNat]?=some ys[i]:=by simp
  have C:((i:Int)+1)=((i+1:Nat):Int):=by push_cast;rfl
  rw[m,a];refine Ac (o i r q _ _ ?_)
  wp_walk
  rw[C];refine⟨Gc plain_eq_loop _,Et entry_eq_loop ?_⟩;rw[Ef plain_eq_loop _];exact y (i+1) (by omega) A R _ ⟨e,c,o,h⟩
section
variable {xs ys:Array Value}
def DT{Q:Q2}(hl:s.heap.IsList l xs)(hb:s.heap.IsList b ys)(hsz:xs.size=ys.size)(hu:A.units<cLine)(he:∀j h1 (h2:j<ys.size),XG P w A.in1 s xs[j] ys[j])(h:Q (.bool true) s):wpAny (model P w) A (richCompare .Eq (.ref l) (.ref b)) Q E s:=by
 obtain⟨⟨cls,dd,data,sl⟩,ho,hc,n,hd⟩:=id hl;obtain⟨⟨cls2,dd2,data2,sl2⟩,ho2,hc2,n2,hd2⟩:=id hb;obtain rfl:cls=.type "list" := hc;obtain rfl:data=.seq xs n:=hd;obtain rfl:cls2=.type "list" := hc2;obtain rfl:data2=.seq ys n2:=hd2;have g:MeetsIn P w (Builtin.«list.__eq__» ⟨[.ref l,.ref b],[]⟩) (λA R s=>s.heap.get? l=some ⟨.type "list",dd,.seq xs n,sl⟩/\s.heap.get? b=some ⟨.type "list",dd2,.seq ys n2,sl2⟩/\(∀j h1 (h2:j<ys.size),XG P w A.in1 s xs[j] ys[j])/\R (.ok (.ret (.bool true))) s):=by
  intro A R s h;obtain⟨hp,g,d,tk,os⟩:=s;obtain⟨ha,hq,he,h⟩:=h;have f3:=AutoSeq1.sub_list_list
  have hne:¬(xs.size != ys.size)=true:=by simp[hsz]
  wp_walk using (Cp ha),(Cp hq)
  refine⟨Gc plain_eq_loop _,Et entry_eq_loop ?_⟩;rw[Ef plain_eq_loop _];exact K8 l b xs ys n n2 dd dd2 sl sl2 hsz _ 0 rfl A R _ ⟨ha,hq,he,h⟩
 exact wpAny_richCompare_same_room (op:=.Eq) ⟨_,ho,rfl⟩ ⟨_,ho2,rfl⟩ PySem.F.slot_list_eq (Gz PySem.F.slot_list_eq ⟨_,ho,rfl⟩ PySem.F.entry_list_eq (PySem.F.args_list_eq_2 _ _) g ⟨ho,ho2,he,show Value.bool true≠Value.notImplemented/\Q (.bool true) s from⟨(λx=>nomatch x),h⟩⟩) hu
def BN{Q:Q2}(hl:s.heap.IsList l xs)(hb:s.heap.IsList b ys)(hsz:xs.size=ys.size)(hu:A.units<cLine)(he:∀j h1 (h2:j<ys.size),XG P w A.in1 s xs[j] ys[j])(h:Q (.bool false) s):wpAny (model P w) A (richCompare .NotEq (.ref l) (.ref b)) Q E s:=by
 obtain⟨⟨cls,dd,data,sl⟩,ho,hc,n,hd⟩:=id hl;obtain⟨⟨cls2,dd2,data2,sl2⟩,ho2,hc2,n2,hd2⟩:=id hb;obtain rfl:cls=.type "list" := hc;obtain rfl:data=.seq xs n:=hd;obtain rfl:cls2=.type "list" := hc2;obtain rfl:data2=.seq ys n2:=hd2;have g:MeetsIn P w (Builtin.«list.__ne__» ⟨[.ref l,.ref b],[]⟩) (λA R s=>s.heap.get? l=some ⟨.type "list",dd,.seq xs n,sl⟩/\s.heap.get? b=some ⟨.type "list",dd2,.seq ys n2,sl2⟩/\(∀j h1 (h2:j<ys.size),XG P w A.in1 s xs[j] ys[j])/\R (.ok (.ret (.bool false))) s):=by
  intro A R s h;obtain⟨hp,g,d,tk,os⟩:=s;obtain⟨ha,hq,he,h⟩:=h;have f3:=AutoSeq1.sub_list_list
  have hne:¬(xs.size != ys.size)=true:=by simp[hsz]
  wp_walk using (Cp ha),(Cp hq)
  refine⟨Gc plain_eq_loop _,Et entry_eq_loop ?_⟩;rw[Ef plain_eq_loop _];exact EY l b xs ys n n2 dd dd2 sl sl2 hsz _ 0 rfl A R _ ⟨ha,hq,he,h⟩
 exact wpAny_richCompare_same_room (op:=.NotEq) ⟨_,ho,rfl⟩ ⟨_,ho2,rfl⟩ PySem.F.slot_list_ne (Gz PySem.F.slot_list_ne ⟨_,ho,rfl⟩ PySem.F.entry_list_ne (PySem.F.args_list_ne_2 _ _) g ⟨ho,ho2,he,show Value.bool false≠Value.notImplemented/\Q (.bool false) s from⟨(λx=>nomatch x),h⟩⟩) hu
def XG.same(u:Value):XG P w A s u u:=λE Q a=>SeqAt.EqAt.same u P w E Q a
def XG.refs(a:l≠b)(h:∀(E:Q2) (Q:Q2),Q (.bool true) s->wpAny (model P w) A (richCompare .Eq (.ref l) (.ref b)) Q E s):XG P w A s (.ref l) (.ref b):=λE Q d=>by
 refine Cb (wpAny_ite_split (λc=>absurd (by grind) a) (λ_=>?_))
 exact Ac (h E _ (Gh d))
end
def TU(b a:List (Key×V)):Prop:=b.length=a.length/\∀c∈b,bY c.2=true/\cD a c.1=some c.2
def P0{d:List (Key×V)}{ws:List (Key×Value)}(g:KV d ws){vs:List (Key×Value)}(r:KV kvs vs)(h:∀a∈kvs,bY a.2=true/\cD d a.1=some a.2):W.KeqHits A s ws vs true:=by
 unfold KV at r;induction r with
 |nil=>exact .nil
 | @cons a m _ _ q t o=>
  obtain⟨k,v⟩:=a;obtain⟨w,u⟩:=m;obtain⟨e,n⟩:=q;cases e;obtain⟨f,p⟩:=h (k,v) (Al ..);have c:=g.val k
  rw[p]at c;cases j:valueAt ws k with
  |none=>rw[j]at c;exact(show False from c).elim
  |some y=>
   rw[j]at c;have l:=oV (A:=A) (s:=s) n (show RelV v y from c) f f
   rw[jI f]at l;exact .hit (e:=true) (b:=true) j l (o λa i=>h a (Ao _ i))
def ME(I:Inv X y3 U H s){p:Addr}{a:List (Key×V)}(o:Rd H p (.dK kvs))(n:Rd H q (.dK a))(d:TU kvs a)(g:A.units<cLine)(E:Q2)(Q:Q2):(Q (.bool true) s->wpAny (model X.prog X.w) A (richCompare .Eq (.ref p) (.ref q)) Q E s)/\(Q (.bool false) s->wpAny (model X.prog X.w) A (richCompare .NotEq (.ref p) (.ref q)) Q E s):=by
 obtain⟨u,k,m,f,c⟩:=lC I.Z4 o;obtain⟨t,j,l,e,b⟩:=lC I.Z4 n;have i:(m.length==l.length)=true:=Fu.mpr (by rw[<-f.length,<-e.length];exact d.1)
 refine⟨λh=>W.keq_eq  k j c b g (λ_=>P0 e f d.2) (by rwa[i]),λh=>W.keq_ne  k j c b g (λ_=>P0 e f d.2) (by rwa[i])⟩
def Z7.u1(r:Z7 k A):A.units+1<cLine:=by have:=r.un;omega
end
section
open PySem.W
section
variable {K:Frag} {x D:Addr} {ox:Obj} {od:Option Obj}
def Ro{v:Value}{a:Bool}{Q:Q2}(Z:XF K D)(X:K.In s.heap)(I:InstAt s.heap x ox D od)(f:findObj K D od name=some (.value v))(e:handedIn v=true)(h:Q v {s with toks:=s.toks+1}):wpAny (model prog w) A (getAttr (.ref x) name a) Q E s:=by
 obtain⟨n,g,d,t,m⟩:=s;have b:=I.type (M:=model prog w)
 have l:=looks_findIn (M:=model prog w) X Z.ga
 have k:=looks_findIn (M:=model prog w) X Z.gh
 have j:=looks_find (M:=model prog w) X I f
 unfold getAttr getAttrBy;refine Ac (wpAny_mkText (Cb (Ac (b.at (Ac (l.at ?_))))));have c:(Value.builtin "BaseException.__getattribute__" == Value.builtin "object.__getattribute__")=false:=by right
 have i:=F.excAttr_ValueError.ga.bind (.ref x)
 dsimp only;rw[c,Iz,if_neg Av];unfold getAttrByItsOwn hookBefore;rw[if_pos (show onTheHeap (Value.ref D)=true from rfl)];refine Ac (k.at (Ac (Gm (Cb ?_))));unfold callGetattribute boundAndCalled;rw[if_neg (by rw[show onTheHeap (Value.builtin "BaseException.__getattribute__")=false from rfl,Iz];exact Av)]
 refine Ac (Jm i ?_);refine Fv (Fn F.excAttr_ValueError.ga.plain F.entry_bexc_ga (LP Z X I ?_));unfold Builtin.«object.__getattribute__»;refine Ac (Ag (Ac (Ag (Ac (b.at (Ac (j.at ?_)))))));refine Ag ?_;exact handed_on e h
def Mm{e t0:Addr}{vs:Array Value}{c:List Value}{Q:Q2}(Z:XF K D)(X:K.In s.heap)(I:InstAt s.heap e oe D od)(r:W.subIn K (.ref D) (.type "ValueError")=some true)(i:oe.data=.fields vs)(j:vs[0]?=some (.ref t0))(m:c.length<=sizeLine)(h:Q .none {s with heap:=(s.heap.push {cls:=.type "tuple",data:=.seq c.toArray}).update e (Obj.mapFields (·.setIfInBounds 0 (.ref s.heap.objs.size)))}):wpAny (model prog w) A (call (.builtin "ValueError.__init__") (.ref e::c)) Q E s:=by
 have p:=I.at_
 obtain⟨y,q,_⟩:=any_some Z.cls;have d:=Fc
 have v:=I.type (M:=model prog w)
 have u:=looks_subIn (M:=model prog w) X r
 refine Fv (Fn d.init.plain d.initEntry ?_);have t:∀Q E B,Q () s->wpAny (model prog w) B (checkBuiltinCall "ValueError.__init__" ⟨.ref e::c,[]⟩) Q E s:=λQ E B o=>by
  simp only[checkBuiltinCall,d.initKind,d.initSplit,d.initRow];refine Ac ((v.andThen u).at ?_);have l:=d.noStar
  have k:∀a b n,Bind.check ⟨.positional, "*", "ValueError",.self,[⟨"args",.varPos,false⟩]⟩ a b n (List.map (λx=>x.fst) ({pos:=Value.ref e::c}:Args).kw)=pure ():=λa b n=>check_star_args _ _ _ _ _ _
  repeat (first|wp_step)
  rw[I.cls];refine Ac ((looks_clsIn X q).at (Ag ?_));repeat (first|wp_step)
  refine wpAny_onRaise ?_;rw[k];exact Ag o
 refine t _ _ _ ?_;have f:0<vs.size:=(Dg.mp j).1
 have g:=Af (h:=s.heap) {cls:=.type "tuple",data:=.seq c.toArray} p
 unfold Builtin.«BaseException.__init__» newTuple Builtin.BaseException.bexcPut;dsimp only;rw[if_neg (by simp)]
 refine Ac (Fq (Ac (Ac (Ee g i j (Ac (wpAny_setField g i f (wpAny_letGo (Ag h))))))) (by show c.toArray.size<=sizeLine;rw[Bj];exact m))
noncomputable def V7(K:Frag)(D:Addr):Option (List Value):=(clsIn K D).map (·.mro)
def Rh{T:Addr}{v:Value}{h1:Heap}{m:Q5}{ns:List Str}{Q:Unit->Shared->Prop}(Z:XF K D)(X:K.In s.heap)(I:InstAt s.heap x ox D od)(hs:findIn K (.ref D) "__setattr__"=some (some (.builtin "object.__setattr__")))(k:V7 K D=some [.ref D,.ref T,.type "ValueError",.type "Exception",.type "BaseException",.type "object"])(g:findIn K (.ref D) name=some none)(z:∀B q (J:Q2),q (some dx) {s with heap:=h1,toks:=s.toks+1}->wpAny (model prog w) B (instanceDict x true) q J {s with toks:=s.toks+1})(u:h1.Ns1 dx m)(t:Within m ns)(hz:ns.length<sizeLine)(h:∀c d,c.Ns1 dx (λy=>if y=name then some v else m y)->Heap.SameBut dx h1 c->Q () {s with heap:=c,toks:=d}):wpAny (model prog w) A (setAttr (.ref x) name v) Q E s:=by
 obtain⟨p,o,C⟩:=any_some Z.cls;have i:p.mro=[.ref D,.ref T,.type "ValueError",.type "Exception",.type "BaseException",.type "object"]:=by
  unfold V7 at k;rw[o]at k;exact Bm k
 have a:=PySem.F.store_ValueError
 have e:Looks (model prog w) s.heap (isInstance (.ref x) (.type "object")) true:=I.type.andThen (looks_mroIn X Z.mo)
 have j:Looks (model prog w) s.heap (mroOf (.ref D)) p.mro:=(looks_clsIn X o).andThen .now
 have M:=I.at_
 refine set_plain X I hs ?_;refine Fn a.slot.plain a.entry (@check_slot (model prog w) _ _ {s with toks:=s.toks+1} "object.__setattr__" "object" "__setattr__" (.ref x) [.str name s.toks,v] [] _ a.kind a.split e (a.args (.ref x) (.str name s.toks) v) ?_)
 rw[osa_eq,refuse_eq];refine Ac (Ac (I.type.here (s:={s with toks:=s.toks+1}) (Ac (j.here (s:={s with toks:=s.toks+1}) ?_))))
 rw[i,refuseLoop_ref,refuseLoop_ref,a.passes];refine Ag (Ac (I.type.here (s:={s with toks:=s.toks+1}) (Ac ((looks_findIn X g).here (s:={s with toks:=s.toks+1}) (Ac (Ag ?_))))))
 show wpAny (model prog w) A.in1 (Builtin.ObjectAttr.storeInOwnDict (Value.ref x) (Value.ref D) (Value.str name s.toks) name v false) _ _ _
 unfold Builtin.ObjectAttr.storeInOwnDict;refine Ac (Ag ?_);rw[if_neg (show ¬((Value.ref D==Value.type "module")=true) by simp)]
 unfold Builtin.ObjectAttr.ownDictForStores;refine Ac (z _ _ _ ?_);show wpAny (model prog w) A.in1 (Builtin.ObjectAttr.storeInDict dx (Value.str name s.toks) name v) _ _ _
 unfold Builtin.ObjectAttr.storeInDict Builtin.ObjectAttr.newKeyGuard;refine Ac (Ag (Ac (wpAny_nsSet1 u λc b r=>?_)));obtain⟨L,G,H,f,l,n⟩:=b.count (Within.cons name v t);refine Ac (wpAny_lookBehind f (by rw[l];exact pastItsLine_dict (Bo n (by rw[Az];omega))) ?_)
 exact Ag (h c _ b r)
def EF{T:Addr}{v:Value}{vs:Array Value}{Q:Unit->Shared->Prop}(Z:XF K D)(X:K.In s.heap)(I:InstAt s.heap x ox D none)(k:ox.data=.fields vs)(u:ox.dict=none)(hs:findIn K (.ref D) "__setattr__"=some (some (.builtin "object.__setattr__")))(F:V7 K D=some [.ref D,.ref T,.type "ValueError",.type "Exception",.type "BaseException",.type "object"])(r:findIn K (.ref D) name=some none)(h:∀g f,g.get? x=some {ox with dict:=some s.heap.objs.size}->g.Ns1 s.heap.objs.size (λy=>if y=name then some v else none)->(∀b o,b≠x->s.heap.get? b=some o->g.get? b=some o)->Q () {s with heap:=g,toks:=f}):wpAny (model prog w) A (setAttr (.ref x) name v) Q E s:=by
 obtain⟨L,H,z⟩:=any_some Z.cls;have m:=I.at_
 have j:(s.heap.push {cls:=.type "dict",data:=.dict #[]}).get? x=some ox:=Af _ m
 have i:=Bc (Aq m)
 have t:((s.heap.push {cls:=.type "dict",data:=.dict #[]}).update x λo=>{o with dict:=some s.heap.objs.size}).get? s.heap.objs.size=some {cls:=.type "dict",data:=.dict #[]}:=
  (Heap.get?_update_ne _ _ _ _ i.symm).trans (Heap.get?_push_at rfl rfl)
 have p:((s.heap.push {cls:=.type "dict",data:=.dict #[]}).update x λo=>{o with dict:=some s.heap.objs.size}).Ns s.heap.objs.size (λ_=>none):=
  ⟨_,#[],_,t,rfl,λe G=>absurd G (by simp),λ_=>rfl⟩
 have l:((s.heap.push {cls:=.type "dict",data:=.dict #[]}).update x λo=>{o with dict:=some s.heap.objs.size}).get? x=some {ox with dict:=some s.heap.objs.size}:=by
  refine Dx _ j ?_;obtain⟨a,b,c,d⟩:=ox;cases k;rfl
 refine Rh Z X I hs F r (λB M N q=>?_) (Heap.Ns1.of_empty p) Within.nil (by rw[List.length_nil,Jl];omega) λg f n C=>h g f ((C.2 x i).trans l) n λb o J e=>
  (C.2 b (Bc (Aq e))).trans ((Heap.get?_update_ne _ _ _ _ J).trans (Af _ e))
 unfold instanceDict;refine Ac (wpAny_loadPart m ?_);rw[I.cls];refine Ac ((looks_clsIn X H).here (s:={s with toks:=s.toks+1}) ?_)
 rw[z,u,k,if_neg (show ¬((!true)=true) by decide)]
 dsimp only;rw[if_neg (show ¬((!true || !typeHasDict (Value.ref D))=true) by simp[typeHasDict])]
 exact Ac (wpAny_alloc' (Ac (wpAny_update' j (Ag q))))
def K3{T:Addr}{v:Value}{m:Q5}{ns:List Str}{b:Obj}{Q:Unit->Shared->Prop}(Z:XF K D)(X:K.In s.heap)(I:InstAt s.heap x ox D (some b))(d:ox.dict=some dx)(hs:findIn K (.ref D) "__setattr__"=some (some (.builtin "object.__setattr__")))(j:V7 K D=some [.ref D,.ref T,.type "ValueError",.type "Exception",.type "BaseException",.type "object"])(c:findIn K (.ref D) name=some none)(i:s.heap.Ns1 dx m)(g:Within m ns)(hz:ns.length<sizeLine)(h:∀f a,f.Ns1 dx (λy=>if y=name then some v else m y)->Heap.SameBut dx s.heap f->Q () {s with heap:=f,toks:=a}):wpAny (model prog w) A (setAttr (.ref x) name v) Q E s:=by
 obtain⟨l,k,e⟩:=any_some Z.cls;refine Rh Z X I hs j c (λB n o q=>?_) i g hz h;refine Ac (wpAny_loadPart I.at_ ?_);rw[I.cls];refine Ac ((looks_clsIn X k).here (s:={s with toks:=s.toks+1}) ?_)
 rw[e,d,if_neg (show ¬_ by decide)]
 exact Ag q
end
end
section
open PySem.W
noncomputable def eP(e C:Addr)(d:Option Addr):HO:=.ext λh=>∃b a c,h.get? e=some b/\b.cls=.ref C/\b.dict=d/\b.data=.fields a/\a[1]?=some .none/\a[0]?=some (.ref c)/\a[2]?=some .none
noncomputable def YT(b:Addr)(fs:List (Str×V)):HO:=.ext λh=>∃a,h.Ns1 b a/\(∀f,Zp (fs.lookup f) (a f))/\Within a (fs.map (·.1))
def Tz{vs:Array Value}{t0:Addr}(g:h.get? ea=some oe)(c:oe.cls=.ref C)(e:oe.dict=d)(f:oe.data=.fields vs)(h1:vs[1]?=some .none)(b:vs[0]?=some (.ref t0))(i:vs[2]?=some .none):ZX P w H h ea (eP ea C d):=⟨⟨oe,vs,t0,g,c,e,f,h1,b,i⟩,⟨oe,g⟩,λ_ _ ⟨o,a,t,g,q⟩ k=>⟨o,a,t,k o g,q⟩⟩
def PU{fs:List (Str×V)}{a:Q5}(n:h.Ns1 dx a)(r:∀f,Zp (fs.lookup f) (a f))(wi:Within a (fs.map (·.1))):ZX P w H h dx (YT dx fs):=by
 refine⟨⟨a,n,r,wi⟩,?_,λ_ _ ⟨m,⟨o,b,c,g,q⟩,r⟩ k=>⟨m,⟨o,b,c,k o g,q⟩,r⟩⟩;obtain⟨o,b,c,g,_⟩:=n;exact⟨o,g⟩
structure VZ (K:Frag) (C T:Addr):Prop where
 ex:XF K C
 sa:findIn K (.ref C) "__setattr__"=some (some (.builtin "object.__setattr__"))
 mro:V7 K C=some [.ref C,.ref T,.type "ValueError",.type "Exception",.type "BaseException",.type "object"]
 vb:W.subIn K (.ref C) (.type "ValueError")=some true
noncomputable def Uw(K:Frag)(C T:Addr):Bool:=(clsIn K C).any λc=>c.mro==[.ref C,.ref T,.type "ValueError",.type "Exception",.type "BaseException",.type "object"]
def TZ{T:Addr}(h:Uw K C T=true):V7 K C=some [.ref C,.ref T,.type "ValueError",.type "Exception",.type "BaseException",.type "object"]:=by
 obtain⟨c,b,h⟩:=any_some h;unfold V7;rw[b];exact congrArg some (eq_of_beq h)
def jM{D:Addr}{vs:Array Value}(e:Zj P w H h)(g:h.get? ea=some oe)(j:oe.cls=.ref D)(a:oe.dict=d)(f:oe.data=.fields vs)(m:∀b,d=some b->∃o,H b=some o):∃k,InstAt h ea oe D k:=by
 have i:notCls oe=true:=by
  obtain⟨c,q,r,p⟩:=oe;cases f;rfl
 cases d with
 |none=>exact⟨none,g,j,i,by rw[a];trivial⟩
 |some b=>
  obtain⟨o,z⟩:=m b rfl;obtain⟨l,n⟩:=(e b o z).get;exact⟨some l,g,j,i,by rwa[a]⟩
def HC{o:HO}(e:H a=some o):upd H a o=H:=by
 funext b
 unfold upd;grind
def T6(K:Frag):List V->Hp->VK->Prop:=λe H Q=>∃b a C T d,e=.ref b::a/\a.length<=sizeLine/\H b=some (eP b C d)/\(∀c,d=some c->∃o,H c=some o)/\VZ K C T/\Q .non H
def NL(K:Frag)(t:TA):TE:=λU H Q=>t U H λa b=>T6 K a b Q
def DC:ZW X (.builtin "ValueError.__init__") (T6 X.K):=by
 intro M s U H N O Q I r h;obtain⟨f,l,C,T,d,rfl,D,j,E,Z,q⟩:=h;cases r with
 | @cons _ _ _ B A y=>
  cases A;obtain⟨P,w,t0,g,m,c,a,J,n,L⟩:=(I.Z4 f _ j).1;obtain⟨R,G⟩:=jM I.Z4 g m c a E;refine Mm Z.ex I.ZK G Z.vb a n (by rw[<-y.length];exact D) ?_
  have p:=Af (h:=s.heap) {cls:=.type "tuple",data:=.seq B.toArray} g
  have i:=(Dg.mp n).1
  have k:=Ey a (·.setIfInBounds 0 (Value.ref s.heap.objs.size))
  refine⟨.non,H,?_,rfl,q⟩;have v:=I.write (x:=f) (e:=f) (o:=eP f C d) (t':=s.toks) (by rw[j];exact True.intro) (.inl rfl) (λb u F z=>(Ck _ (Obj.mapFields (·.setIfInBounds 0 (Value.ref s.heap.objs.size))) (Ne.symm F)).trans (Af _ z))
   ⟨_,Heap.get?_update_self _ p (Obj.isFreed_of_fields k)⟩ (Tz (Heap.get?_update_self _ p (Obj.isFreed_of_fields k)) (by rw[Obj.cls_mapFields];exact m) (by rw[P5];exact c) k (by grind) (t0:=s.heap.objs.size) (by simp[i]) ((Array.getElem?_setIfInBounds_ne (by decide)).trans L))
  rw[HC j]at v;exact v
section
variable {T:Addr} {mc:Value} {t:TA}
def vJ(p:Gl X x)(o:X.mg x=some (.ref T))(h1:specialIn X.K (.ref T) "__getattribute__"=some (some (.builtin "type.__getattribute__")))(u:readsIn X.K T mc=true)(r:findCls X.K (.ref T) mc "__init__"=some (.val (.builtin "ValueError.__init__")))(q:PA X (e::es) t)(c:(x==("__debug__" : Str))=false:=by decide)(a:starEach (e::es) X.env=(false,eval e X.env)::starEach es X.env:=by rfl)(b:(backTo pos (starEach es X.env)).any (·.1)=false:=by rfl)(n:eval (.Call (.Attribute (.Name x np) "__init__" apos) (e::es) [] pos) X.env=(do
 let g <-eval (.Name x np) X.env
 standAt apos.atName
 let (f,first) <-holding [g] (getMethod g "__init__" pl)
 callWith pos f first (backTo pos (starEach (e::es) X.env)) (backToKw pos (keywordEach [] X.env))):=by rfl):PE X (.Call (.Attribute (.Name x np) "__init__" apos) (e::es) [] pos) (NL X.K t):=by
 intro d s U H Q I h;refine Fg  (eK I p o ?_ c) n;refine method_cls I.ZK h1 (cls_value I.ZK u r rfl ?_);exact PyProof.Rows.callWith_builtin1 (Z1 (q pos d _ U H _ (I.tok _) h) λj k ⟨i,w,v,l,m⟩=>DC d k U w i j Q v l m) a b
end
def Inv.Yz(I:Inv X y3 U H s)(h:s.heap.objs.size<=a):UU X y3 a where
 s0:=Hn (Bo I.sz h)
 loc:=λz=>absurd (Bi I.lt h) (by rw[z];exact Eg _)
 cell:=λx c e z=>by
  obtain⟨_,o,g,_⟩:=I.cell x c e;exact absurd (Bi (Aq g) h) (by simp_all)
 pin:=λp b z=>absurd (Bi (Aq (I.pin p b).1) h) (by rw[z];exact Eg _)
def PV(K:Frag)(g e:TE)(f:Str):TS:=λD U H=>e U H λy h=>g U h λx c=>∃b C T,x=.ref b/\VZ K C T/\findIn K (.ref C) f=some none/\
 ((c b=some (eP b C none)/\∀a,c a=none->D.nx U (upd (upd c b (eP b C (some a))) a (YT a [(f,y)])))\/
  (∃a d,c b=some (eP b C (some a))/\c a=some (YT a d)/\d.length<100/\D.nx U (upd c a (YT a ((f,y)::d)))))
def Sg{f g:Str}{fs:List (Str×V)}:List.lookup g ((f,y)::fs)=if g=f then some y else fs.lookup g:=by grind
def tZ{o value:Expr}{f:Str}{pos':Pos}{ta:TE}(ha:PE X o ta)(hv:PE X value tv)(hs:swapsWith value (some (.Attribute o f pos')) pos.line X.env=pure false):PS X (.Assign [.Attribute o f pos'] value pos) (PV X.K ta tv f):=by
 intro y3 s U H D I h;refine plainObj_wpAny_Assign_Attribute (Z1 (hv y3 s U H _ I h) λu s1 ⟨y,H1,I1,ry,q⟩=>Z1 (ha y3 s1 U H1 _ I1 q) λov s2 μ=>?_) hs;obtain⟨x,H2,I2,rx,ea,C,T,ex,Z,hn,q2⟩:=μ;subst ex;obtain rfl:ov=Value.ref ea:=rx;rcases q2 with⟨he,q3⟩|⟨dx,fs,he,hdx,hl,q3⟩
 .obtain⟨oe,vs,t0,g,hc,hdi,hda,h1,h0,c2⟩:=(I2.Z4 ea _ he).1;obtain⟨od,hI⟩:=jM I2.Z4 g hc hdi hda (λ_ z=>nomatch z)
  have hod:od=none:=by
   have z:=hI.dict
   rw[hdi]at z;cases od with
   |none=>rfl
   |some o=>exact z.elim
  subst hod;refine EF Z.ex I2.ZK hI hda hdi Z.sa Z.mro hn λh' tk' gx ns kp=>?_;have fr:=I2.Yz (Ah _)
  have hfree:=I2.Z4.fresh (Ah _)
  have ne:s2.heap.objs.size≠ea:=λz=>by rw[z,he]at hfree;cases hfree
  have I3:=I2.write (x:=ea) (e:=ea) (o:=eP ea C (some s2.heap.objs.size)) (h':=h') (t':=tk') (by rw[he];exact True.intro) (.inl rfl) kp ⟨_,gx⟩ (Tz gx hc rfl hda h1 h0 c2)
  have I4:=I3.adopt (a:=s2.heap.objs.size) (o:=YT s2.heap.objs.size [(f,y)]) fr (by rw[aI ne];exact hfree) (PU ns (λg=>by
   rw[Sg];split
   .exact ry
   .exact True.intro) (λg hg=>by
   by_cases z:g=f
   .rw[z];exact Aj.mpr rfl
   .exact absurd (show (if g=f then some u else none)=none by rw[if_neg z]) hg))
  exact⟨U,_,I4,q3 _ hfree⟩
 .obtain⟨oe,vs,t0,g,hc,hdi,hda,h1,h0,c2⟩:=(I2.Z4 ea _ he).1;obtain⟨mA,n,r,wi⟩:=(I2.Z4 dx _ hdx).1;obtain⟨od,hI⟩:=jM I2.Z4 g hc hdi hda (λz e=>by cases e;exact⟨_,hdx⟩)
  have hod:∃o,od=some o:=by
   have z:=hI.dict
   rw[hdi]at z;cases od with
   |none=>exact z.elim
   |some o=>exact⟨o,rfl⟩
  obtain⟨o,rfl⟩:=hod;refine K3 Z.ex I2.ZK hI hdi Z.sa Z.mro hn n wi (by rw[Ab,Jl];omega) λh' tk' ns sb=>?_
  have hd':∃o,h'.get? dx=some o:=let ⟨o,_,_,e',_⟩:=ns;⟨o,e'⟩
  have I3:=I2.write (x:=dx) (e:=dx) (o:=YT dx ((f,y)::fs)) (h':=h') (t':=tk') (by rw[hdx];exact True.intro) (.inl rfl) (λb q hb z=>(sb.2 b hb).trans z) hd' (PU ns (λg=>by
   rw[Sg];split
   .exact ry
   .exact r g) (λg hg=>by
   by_cases z:g=f
   .rw[z];exact Al
   .refine Ao _ (wi g λz2=>hg ?_);show (if g=f then some u else mA g)=none
    rw[if_neg z];exact z2))
  exact⟨U,_,I3,q3⟩
def SO(K:Frag)(e:TE)(f:Str):TE:=λU H Q=>e U H λx c=>∃a C b d v,x=.ref a/\(c a=some (jX a (.ref C) (some b))\/c a=some (eP a C (some b)))/\c b=some (YT b d)/\XF K C/\findIn K (.ref C) f=some none/\d.lookup f=some v/\Q v c
def P8(r:RelV v u):handedIn u=true:=by
 cases v<;>first|(obtain⟨_,rfl⟩:=(show ∃t,u=_ from r);rfl)|(cases r;rfl)
def Lo{f:Str}{ta:TE}(he:PE X e ta)(hb:attributeBase e f X.env (eval e X.env)=eval e X.env):PE X (.Attribute e f pos) (SO X.K ta f):=by
 intro y3 s U H Q I h;refine Tx hb (Z1 (he y3 s U H _ I h) λu s1 μ=>?_);obtain⟨x,H1,I1,rx,ea,C,dx,fs,v,ex,e1,e2,Z,n,l,q⟩:=μ;subst ex;obtain rfl:u=Value.ref ea:=rx;obtain⟨oe,vs,g,hc,hdi,hda⟩:∃oe vs,s1.heap.get? ea=some oe/\oe.cls=.ref C/\oe.dict=some dx/\oe.data=.fields vs:=by
  rcases e1 with e1|e1
  .exact(I1.Z4 ea _ e1).1
  .obtain⟨oe,vs,t0,g,hc,hdi,hda,_⟩:=(I1.Z4 ea _ e1).1;exact⟨oe,vs,g,hc,hdi,hda⟩
 obtain⟨⟨mA,ns,r,wi⟩,_⟩:=I1.Z4 dx _ e2;obtain⟨od,hI⟩:=jM I1.Z4 g hc hdi hda (λz e=>by cases e;exact⟨_,e2⟩)
 obtain⟨o,go,lo⟩:=sC ns;have hod:od=some o:=by
  have z:=hI.dict
  rw[hdi]at z;cases od with
  |none=>exact z.elim
  |some o'=>
   have z:s1.heap.get? dx=some o':=z
   rw[go]at z;exact z.symm
 subst hod;have rl:=r f
 rw[l]at rl;cases hu:mA f with
 |none=>rw[hu]at rl;exact rl.elim
 |some u=>
  rw[hu]at rl;exact Ro Z I1.ZK hI (findObj_own Z.cls n rfl (by rw[lo,hu])) (P8 rl) ⟨v,H1,I1.tok _,rl,q⟩
end
section
open PySem.W
noncomputable def WB(K:Frag)(C:Addr)(b:List Value)(a:String):Bool:=
 match K.lookup C with
 |some ⟨.type t,_,.cls c,d⟩=>t == "type" && !c.hasDel&&nsOkIn K c.ns &&
  (match c.mro with|.ref C1::bm=>C1==C&&tailIn K b bm|_=>false)&&(match d.toList with|[_,_,_,_,some (.builtin n),_]=>n==a|_=>false)
 |_=>false
def Sw{K:Frag}(X:K.In h)(q:WB K C bmB newId=true):E_16 λd N nm f bs r e a s b dd p o m k j=>h.get? C=some (excClassObj nm f C N bs d r e a s b dd p o m k j newId)/\OwnTail h bmB d:=by
 unfold WB at q;split at q
 .rename_i t dd c w A
  simp only[Bool.and_eq_true,beq_iff_eq,Bool.not_eq_true']at q;obtain⟨⟨⟨⟨rfl,u⟩,y⟩,i⟩,g⟩:=q;split at i
  .rename_i D d v
   obtain⟨rfl,x⟩:D=C/\tailIn K bmB d=true:=by simpa only[Bool.and_eq_true,beq_iff_eq]using i
   split at g
   .rename_i p o m k n j hs
    obtain rfl:n=newId:=by simpa using g
    obtain⟨nm,bs,z,ns,f,r,e,a,s,b,B⟩:=c;dsimp only at v u y;subst v u;obtain⟨l⟩:=w;cases (show l=_ from hs);exact⟨d,ns,nm,f,bs,r,e,a,s,b,dd,p,o,m,k,j,X _ _ A,tail_of_in X x⟩
   .cases g
  .cases i
 .cases q
section
variable {K:Frag} {B initId:String}
def Lb{a:List Value}{Q:Fin->Shared->Prop}(p:ExcBaseFacts B newId initId bmB)(X:K.In s.heap)(G:WB K C bmB newId=true)(I:findIn K (.ref C) "__init__"=some (some (.ref f)))(J:typeIn K (.ref f)=some (.type "function"))(l:a.length<=sizeLine)(H:∀v e,Heap.MadeExcOf s.heap v e (.ref C) a->wpAny (model prog w) A (call (.ref f) (.ref e::a)) (λr q=>r=.none/\Q (.done (.ret (.ref e))) q) E {s with heap:=v}):wpAny (model prog w) A (Builtin.«type.__call__» ⟨.ref C::a,[]⟩) Q E s:=by
 obtain⟨h,g,d,t,u⟩:=s;obtain⟨M,N,R,P,bs,Y,O,F,ab,L,Z,W,V,U,T,S,i,D⟩:=Sw X G;repeat (first|with_reducible refine wpAny_madeBy_exc i ?_|with_reducible refine Hl i ?_|wp_step)
 refine codeAny_call_builtin_code (Il _ p.quiet) (wpAny_check_new_subT p D i (codeAny_exc_new_subT p D i ?_ l));show wpAny _ _ _ _ _ _
 generalize c:(h.push {cls:=.type "tuple",data:=.seq a.toArray}).push {cls:=.ref C,data:=.fields #[.ref h.objs.size,.none,.none,.none,.bool false,.none]}=j;have k:∀b o,h.get? b=some o->j.get? b=some o:=λb o e=>by rw[<-c];exact Af _ (Af _ e)
 have x:j.get? (h.objs.size+1)=some {cls:=.ref C,data:=.fields #[.ref h.objs.size,.none,.none,.none,.bool false,.none]}:=by rw[<-c];heap_get
 have y:=X.keeps k
 have n:=k _ _ i
 have m:(Value.ref C::M).contains (.ref C)=true:=by simp
 unfold isInstance;repeat (first|(with_reducible refine wpAny_isSubtype_exc n ?_;rw[m])|with_reducible refine Hl x ?_|wp_step)
 show wpAny _ _ (typeLookup (.ref C) _) _ _ _
 refine(looks_findIn y I).here (s:=⟨j,g,d,t,u⟩) (Cb (Ac ?_));unfold bindSpecial;refine Ac ((looks_typeIn y J).here (s:=⟨j,g,d,t,u⟩) ?_);rw[if_pos (by decide)]
 refine Ag (Ac (Cf (H j (h.objs.size+1) ⟨k,Hn (Iq _),h.objs.size,x,Hn (Ah _),?_⟩) (λr q l=>?_) λ_ _ z=>z))
 .rw[<-c];exact Af _ (Heap.get?_push_at rfl rfl)
 .obtain⟨rfl,z⟩:=l
  wp_walk
  exact z
def MP{a:List Value}{Q:Q2}(x:ExcBaseFacts B newId initId bmB)(X:K.In s.heap)(i:WB K C bmB newId=true)(p:findIn K (.ref C) "__init__"=some (some (.ref f)))(q:typeIn K (.ref f)=some (.type "function"))(m:a.length<=sizeLine)(n:∀b e,Heap.MadeExcOf s.heap b e (.ref C) a->wpAny (model prog w) (A.under (.builtin "type.__call__" ⟨.ref C::a,[]⟩)) (call (.ref f) (.ref e::a)) (λr k=>r=.none/\Q (.ref e) k) E {s with heap:=b}):wpAny (model prog w) A (call (.ref C) a) Q E s:=by
 have v:=X
 obtain⟨h,g,d,t,l⟩:=s;obtain⟨T,N,D,z,S,L,y,j,U,u,M,J,I,H,G,F,c,V⟩:=Sw X i;have R:=tc_lookup
 have P:=tc_bind (.ref C)
 refine Fv (codeAny_of_tree ?_)
 repeat (any_goals (first|with_reducible refine Hl c ?_|assumption|wp_step))
 exact⟨rfl,codeAny_call_builtin_at (Il _ (by right)) entry_typeCall (wpAny_check_type_call_sub c (Lb x v i p q m λb e o=>n b e o))⟩
def E1{x:Sem Value}{Q:Flow->Shared->Prop}(M:A.handled=none)(h:wpAny (model prog w) A x (λv b=>E_19 λe c k j N o n H B m a I i G y u t r p=>v=.ref e/\b.heap.get? C=some (excClassObj o n C N H j B m a I i G y u t r p newId)/\j.contains (.type "BaseException")=true/\
 b.heap.get? e=some c/\c.cls=.ref C/\c.data=.fields k/\k[1]?=some .none/\E (.ref e) b) E s):wpAny (model prog w) A (raiseStmt env (some x) none) Q E s:=by
 unfold raiseStmt;refine Ac (Cf h (λv b q=>?_) λ_ _ z=>z);obtain⟨e,c,k,j,N,o,n,H,B,m,a,I,i,G,y,u,t,r,p,rfl,F,P,O,D,f,S,R⟩:=q;obtain⟨W,g,d,T,U⟩:=b;obtain⟨V,K,L,J⟩:=c;dsimp only at D f;subst D f;have l:(Value.ref C::j).contains (.type "BaseException")=true:=by rw[List.contains_cons,P,Bool.or_true]
 repeat (first|with_reducible refine Hl F ?_|with_reducible refine Hl O ?_|(with_reducible refine wpAny_isSubtype_exc F ?_;rw[l])|wp_step)
 rw[S];refine Ag ?_
 exact Ag (wpAny_raiseNew_none M R)
end
noncomputable def del(H:Hp)(a:Addr):Hp:=λb=>if b=a then none else H b
def eG(h:b≠a):del H a b=H b:=if_neg h
def Qc:del H a a=none:=if_pos rfl
def Inv.drop{f:Heap->Prop}(I:Inv X y3 U H s)(e:H ea=some (.ext f)):Inv X y3 U (del H ea) s:=by
 have d:∀b u,H b=some u->(∀h,u≠.ext h)->b≠ea:=λb u q n z=>by grind
 refine I.re (λb n=>?_) (λb g q=>?_) (λb o u q=>?_) (λb i q=>?_) λb o q=>?_
 .unfold del;split
  .rfl
  .exact n
 .have a:=I.base.tups b g q
  rwa[eG (d b _ a λ_ z=>nomatch z)]
 .have a:=I.base.frzs b o u q
  rwa[eG (d b _ a λ_ z=>nomatch z)]
 .obtain⟨m,a⟩:=I.base.tbls b i q;exact⟨m,by rwa[eG (d b _ a λ_ z=>nomatch z)]⟩
 .have j:b≠ea:=λz=>by rw[z,Qc]at q;cases q
  rw[eG j]at q;exact(I.Z4 b o q).Zb (λ_ _ _ z=>z) (λc z=>by rwa[eG (d c _ z λ_ z=>nomatch z)]) λc g z=>by rwa[eG (d c _ z λ_ z=>nomatch z)]
def Inv.Wi(I:Inv X y3 U H s)(b:X.ex=[])(h:s.heap.get? a=none):UU X y3 a where
 s0:=by
  cases z:X.s₀.heap.get? a with
  |none=>rfl
  |some o=>
   obtain⟨i,d⟩:=I.base.there a o z (by rw[b];simp)
   rw[h]at d;cases d
 loc:=λz=>by
  obtain⟨m,⟨o,_,_,g,_⟩,_⟩:=I.loc;grind
 cell:=λx c e z=>by
  obtain⟨_,o,g,_⟩:=I.cell x c e;grind
 pin:=λp f z=>by
  have g:=(I.pin p f).1
  rw[z,h]at g;cases g
def Wq(P:Program)(w:World)(K:W.Frag)(c:Str->Option Value)(a:Heap)(k:Nat)(C:Addr)(ps:List Str)(sp:Sp):Prop:=
 ∃f b,Z6 P w K c a ZP k f b ps sp/\findIn K (.ref C) "__init__"=some (some (.ref f))/\typeIn K (.ref f)=some (.type "function")/\Binds K b ps []
structure VI (K:Frag) (C:Addr):Prop where
 obj:WB K C [.type "ValueError",.type "Exception",.type "BaseException",.type "object"] "ValueError.__new__"=true
 kp:keepIn K (.ref C)=true
def OW(C:Addr)(sp:Sp)(E:XK)(f:TA):TS:=λ_ U H=>f U H λb e=>b.length<=sizeLine/\∀a,e a=none->sp (.ref a::b) (upd e a (eP a C none)) (λv c=>v=.non/\∃d,c a=some (eP a C d)/\E (.ref C) d (del c a)) E0
section
variable {E:XK} {k:Nat}
def MZ{vs:List V}{G:Addr->VK}{R:Q2}(p:X.ex=[])(M:VI X.K C)(c:Wq X.prog X.w X.K X.mg X.base k C ps sp)(P:Z7 (k+1) X.A)(l:Inv X y3 U H1 s1)(r:Vals vs us)(Q:vs.length<=sizeLine)(q:∀a,H1 a=none->sp (.ref a::vs) (upd H1 a (eP a C none)) (G a) E0)(Y:∀a m y,X.s₀.heap.get? a=none->Inv X y3 U m y->(G a) .non m->R (.ref a) y)(Z:∀a v m,G a v m->v=.non):wpAny (model X.prog X.w) X.A (call (.ref C) us) R X.xe s1:=by
 obtain⟨f,fd,F,S,T,W⟩:=c;refine MP Fc l.ZK M.obj S T (by rw[<-r.length];exact Q) λE a j=>?_
 obtain⟨t,g,_,_⟩:=j.there;have d:=l.Z4.hole j.new
 have I:=l.Wi p j.new
 have x:=(l.kept (t':=s1.toks) j.keeps).adopt (o:=eP a C none) I d (Tz g rfl rfl rfl rfl rfl rfl)
 have z:Vals (V.ref a::vs) (Value.ref a::us):=.cons rfl r
 have D:=q a d
 have n:((Value.ref a::us)++[]).length=ps.length:=by rw[Be,<-z.length];exact F.len _ _ _ _ D
 have i:=W {s1 with heap:=E} (Value.ref a::us) x.ZK n
 rw[Be]at i;refine Fv (Dy (F.run _ X.stack {s1 with heap:=E} _ ⟨Value.ref a::us,[]⟩ (Value.ref a::us) (V.ref a::vs) _ E0 (P.make C us []) (x.Ye.make C us []) i z D) λO L b=>?_)
 cases O with
 |error e=>exact False.elim b
 |ok fl=>
  cases fl with
  |ret u=>
   obtain⟨v,J,I3,N,B⟩:=x.after b;have ev:=Z a v J B
   subst ev;exact⟨N,Y a J L I.s0 I3 B⟩
  |next=>exact False.elim b
  |brk=>exact False.elim b
  |cont=>exact False.elim b
def nH(hR:Ub X E)(S:X.ex=[])(hc:X.calm=true)(hg:Gl X x)(hm:X.mg x=some (.ref C))(M:VI X.K C)(c:Wq X.prog X.w X.K X.mg X.base k C ps sp)(hr:Z7 k' X.A)(R:k+1<=k')(ha:PA X (e::es) ta)(V:(x==("__debug__" : Str))=false:=by decide)(he:starEach (e::es) X.env=(false,eval e X.env)::starEach es X.env:=by rfl)(P:(backTo cpos (starEach es X.env)).any (·.1)=false:=by rfl):PS X (.Raise (some (.Call (.Name x np) (e::es) [] cpos)) none pos) (OW C sp E ta):=by
 intro y3 s U H D I h;rw [arm_exec_Raise];simp only [evalOpt,Option.map];refine Ac (Gj (E1 (C:=C) (newId := "ValueError.__new__") (I.ok.hd hc) ?_));refine Ac (Cf (Q:=λv m=>E_19 λe f o n N y t Y V p a Z b W O L J G B=>v=.ref e/\m.heap.get? C=some (excClassObj y t C N Y n V p a Z b W O L J G B "ValueError.__new__")/\n.contains (.type "BaseException")=true/\
     m.heap.get? e=some f/\f.cls=.ref C/\f.data=.fields o/\o[1]?=some .none/\X.xe (.ref e) m) ?_ (λv s3 h3=>Ac (Gj (Ag h3))) λ_ _ z=>z)
 refine Dt (eK I hg hm ?_ V);refine Ew (h₀:=X.base) I.ok.mod.Xs M.kp (Z1 (ha cpos y3 s U H _ I h) λus m ⟨o,H1,I1,r,hl,q⟩=>⟨I1.ZK,?_⟩) he P;refine MZ S M c (hr.mono R) I1 r hl q (λl H' s' s0 I3 u=>?_) λl v H2 z=>z.1;obtain⟨_,d,e2,u⟩:=u;obtain⟨f,ws,t0,g2,j,T,i,h1,h0,c2⟩:=(I3.Z4 l _ e2).1;obtain⟨n,N,y,t,Y,g,p,a,Z,b,W,O,L,J,G,B,hC,Tl⟩:=Sw I3.ZK M.obj;refine⟨l,f,ws,n,N,y,t,Y,g,p,a,Z,b,W,O,L,J,G,B,rfl,hC,Tl.hasType PySem.F.excBase_ValueError.hasBase,g2,j,i,h1,?_⟩;exact hR y3 U (del H' l) s' l f ws (I3.drop e2) g2 i h1 c2 Qc s0 (by simp_all)
end
noncomputable def wR(st:Stmt)(j:Nat):Stmt:=
 match st with
 |.ClassDef _ _ _ a _ _ _ _ _ _ _=>a.getD j (.Pass ⟨0,0,0,0⟩)
 |s=>s
section
variable {T:Addr} {D':Ends} {E:XK} {f:Str}
def AL(h:ta U H λa b=>T6 K a b Q):NL K ta U H Q:=h
def D6(h:ta U H λb e=>b.length<=sizeLine/\∀a,e a=none->sp (.ref a::b) (upd e a (eP a C none)) (λv c=>v=.non/\∃d,c a=some (eP a C d)/\E (.ref C) d (del c a)) E0):OW C sp E ta D' U H:=h
def z0(h:tv U H λy e=>te U e λx c=>∃b C T,x=.ref b/\VZ K C T/\W.findIn K (.ref C) f=some none/\
 ((c b=some (eP b C none)/\∀a,c a=none->D'.nx U (upd (upd c b (eP b C (some a))) a (YT a [(f,y)])))\/
  (∃a d,c b=some (eP b C (some a))/\c a=some (YT a d)/\d.length<100/\D'.nx U (upd c a (YT a ((f,y)::d)))))):PV K te tv f D' U H:=h
end
end
def Q8{f:Str}{a:TE}(h:X.K=K)(b:PE X e a)(c:attributeBase e f X.env (eval e X.env)=eval e X.env):PE X (.Attribute e f pos) (SO K a f):=by
 subst h;exact Lo b c
theorem NV(b:l≠it):∀n i s Q,s.heap.IsListIter it l i->s.heap.IsList l items->i+n<=items.size->
 (∀g,g.IsListIter it l (i+n)->Heap.SameBut it s.heap g->Q ((items.toList.drop i).take n) {s with heap:=g})->wpAny (model prog w) A (draw (.ref it) n) Q E s
 |0,i,s,Q,hit,_,_,k=>by
  refine Ag (M:=model prog w) ?_
  simpa using k s.heap hit (Heap.SameBut.refl ..)
 |n+1,i,s,Q,hit,hl,hle,k=>by
  have j:i<items.size:=by omega
  show wpAny _ _ (pyNext (.ref it) >>= _) Q E s
  refine wpAny_bind (wpAny_pyNext_list_item hit hl (x:=items[i]) (by simp[j]) λo f a=>?_)
  refine Ac (Cb (NV b n (i+1) _ _ f (hl.extBut a.extBut b) (by omega) λm d c=>Ag ?_))
  have e:items.toList.drop i=items[i]::items.toList.drop (i+1):=by simp[List.drop_eq_getElem_cons,j]
  have z:=k m (by grind) (a.trans c)
  rw[e,Ib]at z;exact z
def KN{a:List (Bool×(Value->Sem Unit))}{Q:Unit->Shared->Prop}(p:A.handled=none)(f:s.heap.IsList l items)(n:a.length=items.size)(hs:a.findIdx? (·.1)=none)(k:∀j,Heap.ExtBut s.heap.objs.size s.heap j->wpAny (model prog w) A (assignInOrder (a.map (·.2)) items.toList) Q E {s with heap:=j}):wpAny (model prog w) A (unpack (.ref l) a) Q E s:=by
 have d:l≠s.heap.objs.size:=by obtain⟨o,m,_⟩:=f;exact Bc (Aq m)
 unfold unpack;rw[n,hs];refine Ac (Cb ?_);unfold unpackItems notIterableAtAll;refine Ac (Ac (Fw f.typeIs slot_list_iter.lookup (Ag ?_)));rw[if_neg (by simp)]
 refine Ac (Cb (Fb f ?_));refine Ac (Cb (NV d items.size 0 _ _ ⟨_,Au _ rfl,rfl,rfl⟩ (f.push _) (by omega) λu g c=>?_))
 have t:List.take items.size (List.drop 0 items.toList)=items.toList:=by rw[List.drop_zero];exact List.take_of_length_le (by simp)
 rw[t,if_neg (by simp)]
 refine wpAny_bind (wpAny_holding (wpAny_pyNext_list_end p g ((f.push _).extBut c.extBut d) (by simp) λq r=>?_))
 simp only[Option.isSome_none,Bool.false_eq_true,if_false];exact Ag (k q λb o i e=>r b o i (c.extBut b o i (Af _ e)))
def O6(n:Nat)(t:Xb):TG:=λv U H Q=>∃a b,v=.ref a/\Z2 H a=some b/\b.length=n/\t b U H Q
def ES{k:Nat}{t:Xb}(A:X.calm=true)(h:V0 X es t)(y:(assignEach es X.env).length=n:=by rfl)(d:(assignEach es X.env).findIdx? (·.1)=none:=by rfl):PG X (.Tuple es k pos) (O6 n t):=by
 intro i s U H v u Q I r c;obtain⟨a,l,C,w,z,c⟩:=c;subst C;cases r;obtain⟨p,j,⟨o,m,x,g,_,f⟩,E⟩:=I.list (bD w);refine wpAny_bind (wpAny_standAt (KN (I.ok.hd A) ⟨o,x,g,m,f⟩ (by simp[y,<-z,j.length]) d λB q=>?_))
 have D:=I.kept (t':=s.toks) λb o e=>q b o (Bc (Aq e)) e
 exact h i _ U H l _ Q D (by omega) c
def I_{Q:St->Hp->Prop}(e:Z2 H a=some xs)(b:xs.length=n)(h:t xs U H Q):O6 n t (.ref a) U H Q:=⟨a,xs,rfl,e,b,h⟩
section
open PySem.AutoSeq1 (wpAny_loadPart')
def Km(z:Str)(a:Tok)(k:Int)(t:Tok)(m:z.cps.all (· < 128)=true)(l:Builtin.SmallTypes.fitsIndex k=true):Meets (Builtin.«enumerate.__new__» ⟨[.type "enumerate",.str z a],[("start",.int k t)]⟩) (λ_ R s=>
 R (.ok (.ret (.ref (s.heap.push {cls:=.type "str_ascii_iterator",data:=.fields #[.str z a,.int 0 0]}).objs.size)))
  {s with heap:=(s.heap.push {cls:=.type "str_ascii_iterator",data:=.fields #[.str z a,.int 0 0]}).push ⟨.type "enumerate",none,.fields #[.none,.bool false,.ref s.heap.objs.size,rawInt k,.none,.none],#[]⟩}):=
 .of_wp λb w A R s h=>by
  obtain⟨i,g,d,e,f⟩:=s;have c:=sub_enumerate
  have j:(!Builtin.SmallTypes.fitsIndex k)=false:=by rw[l];rfl
  wp_walk
  refine wpAny_stack_any λn=>Ag ?_;refine QY ?_ ?_ <;>
  .wp_walk using (wpAny_pyIter_ascii (s:=⟨i,g,d,e,f⟩) m)
   exact⟨_,rfl,h⟩
def xO{a:Tok}{k:Int}{t:Tok}{Q:Q2}(l:z.cps.all (· < 128)=true)(j:Builtin.SmallTypes.fitsIndex k=true)(h:∀c,IsEnum c (s.heap.objs.size+1) s.heap.objs.size k .none->c.IsStrIter s.heap.objs.size "str_ascii_iterator" z a 0->c.objs.size=s.heap.objs.size+2->(∀b o,s.heap.get? b=some o->c.get? b=some o)->Q (.ref (s.heap.objs.size+1)) {s with heap:=c}):wpAny (model prog w) A (call (.type "enumerate") [.str z a] [("start",.int k t)]) Q E s:=by
 have e:(s.heap.push {cls:=.type "str_ascii_iterator",data:=.fields #[.str z a,.int 0 0]}).objs.size=s.heap.objs.size+1:=Ed ..
 refine rF (Q1:=λo d=>d.TypeIs o "enumerate"/\Q o d) F.called_enumerate (by kernel_rfl) (by kernel_rfl) F.entry_enumerate_new (Km z a k t l j) ?_ λo d f=>⟨f.1,?_,_,NY F.called_enumerate.init.lookup F.called_enumerate.made (by decide),f.1,rfl,f.2⟩
 .show _/\_
  rw[e];have g:IsEnum ((s.heap.push {cls:=.type "str_ascii_iterator",data:=.fields #[.str z a,.int 0 0]}).push ⟨.type "enumerate",none,.fields #[.none,.bool false,.ref s.heap.objs.size,rawInt k,.none,.none],#[]⟩) (s.heap.objs.size+1) s.heap.objs.size k .none:=by
   have q:=Au (s.heap.push {cls:=.type "str_ascii_iterator",data:=.fields #[.str z a,.int 0 0]}) (o:=⟨.type "enumerate",none,.fields #[.none,.bool false,.ref s.heap.objs.size,rawInt k,.none,.none],#[]⟩) rfl
   rwa [e]at q
  exact⟨⟨_,g,rfl⟩,h _ g ⟨_,Af _ (Au _ rfl),rfl,rfl⟩ (by rw[Ed,e]) λb o x=>Af _ (Af _ x)⟩
 .unfold argsOk;rw[signature?_of (n:=['_','_','t','i','n','i','_','_']) (o := "tcejbo".toList) (by kernel_rfl) F.owner_object]
  kernel_rfl
noncomputable def Vv(z:Str)(k:Nat):It:=
 ⟨λi _=>i<z.cps.size,λi H v a=>∃p c,H p=none/\v=.ref p/\a=upd H p (.tup [.int ((k+i:Nat):Int),.str ⟨#[c]⟩])/\z.cps[i]?=some c,λi _=>z.cps.size=i⟩
def zh(z:Str)(J:Tok)(e f:Addr)(k:Nat)(x:e≠f):Turn P w K (.Tuple elts x1 tp) (Vv z k) [e,f] e (λi h=>(∃a,IsEnum h e f ((k+i:Nat):Int) a)/\h.IsStrIter f "str_ascii_iterator" z J i) where
 mem:=by simp
 obj:=λi h g b m=>by
  obtain⟨⟨a,j⟩,o,p,c,d⟩:=g;rcases Bb.mp m with z|z
  .subst z;exact⟨_,j,λv z=>by cases z⟩
  .rw[Aj.mp z];exact⟨o,p,λv z=>by rw[d]at z;cases z⟩
 keep:=λi h h' g M=>⟨let ⟨a,j⟩:=g.1;⟨a,M e (by simp) _ j⟩,let ⟨o,p,r⟩:=g.2;⟨o,M f (by simp) o p,r⟩⟩
 item:=by
  intro X G N W R i Y s U H E I B g O;subst G N W;obtain⟨⟨a,j⟩,l⟩:=g;have hi:i<z.cps.size:=O
  have D:=iN k (Draws.strAscii (prog:=X.prog) (w:=X.w) (A:=X.A.in1) (show X.A.in1.handled=none from I.ok.hd R) f z J)
  refine wpAny_pyNext_enum_itemD D (i:=k+i) j ⟨Gv _ _,by rw[Ds];exact l⟩ (by omega) x (λz=>x (Aj.mp z)) λy h1 L G p hS hT a1 M=>?_
  refine⟨_,rfl,wpAny_letOwnedTupleGo_enum p λZ Q n=>?_⟩;obtain⟨c,u,C,rfl⟩:=G;rw[Ds]at C;have F:=Fi (Aq j)
  have S:s.heap.objs.size≠f:=by obtain⟨o,q,_⟩:=l;exact Fi (Aq q)
  have T:=(n.2 _ F).trans hT
  have V:h1.IsStrIter f "str_ascii_iterator" z J (i+1):=by
   have q:=hS.2
   rwa [show k+i+1-k=i+1 by omega]at q
  have I2:Inv X Y U (upd H s.heap.objs.size (.tup [.int ((k+i:Nat):Int),.str ⟨#[c]⟩])) {s with heap:=Z,toks:=L+1}:=by
   refine I.YX (ch:=[e,f]) B (λb u m q=>(n.2 b (λz=>m (by simp[z]))).trans (M b u (λz=>m (by simp[z])) (λz=>m (by simp[z])) q)) (Nat.le_refl _) ⟨bH (by show 2<=_;omega),[.int ((k+i:Nat):Int) L,.str ⟨#[c]⟩ u],.cons ⟨L,rfl⟩ (.cons ⟨u,rfl⟩ .nil),_,T,rfl,_,rfl⟩
  refine⟨.ref s.heap.objs.size,_,I2,rfl,⟨_,c,I.Z4.fresh (Ah _),rfl,rfl,C⟩,⟨⟨_,Q⟩,let ⟨o,p,r⟩:=V;⟨o,(n.2 f x.symm).trans p,r⟩⟩,λb m=>?_⟩
  rcases Bb.mp m with z|z
  .rw[z,aI F.symm];exact(B e (by simp)).1
  .rw[List.mem_singleton.mp z,aI S.symm];exact(B f (by simp)).1
 done:=by
  intro X G N W R i Y s U H E I B g O;subst G N W;have hx:=O
  obtain⟨⟨a,j⟩,l⟩:=g;have D:=iN k (Draws.strAscii (prog:=X.prog) (w:=X.w) (A:=X.A.in1) (show X.A.in1.handled=none from I.ok.hd R) f z J)
  refine wpAny_pyNext_enum_endD D j ⟨Gv _ _,by rw[Ds,hx];exact l⟩ λh' eb=>⟨rfl,?_⟩
  exact I.Ym (t':=s.toks) (ch:=[e,f]) B λb u m q=>eb b u (λz=>m (by simp[z])) q
 self:=λ_ _ _ _ _ g h=>let ⟨⟨_,j⟩,_⟩:=g;Jc j h
section
variable {l:Expr} {p kp:Pos}
def VX(R:Addr->Hp->Prop)(S:Str->Hp->Prop):List V->Hp->Prop:=λa H=>match a with|[.ref j]=>R j H|[.str z]=>S z H|_=>False
def Ny{R:Addr->Hp->Prop}{S:Str->Hp->Prop}{vs:List V}(q:VX R S vs H):(∃j,vs=[.ref j]/\R j H)\/(∃z,vs=[.str z]/\S z H):=by
 unfold VX at q;split at q
 .exact .inl ⟨_,rfl,q⟩
 .exact .inr ⟨_,rfl,q⟩
 simp_all
def Po(K:W.Frag)(e d:TA):TI:=λU H R=>e U H (VX (λa c=>d U c (wQ λk b=>(0<=k/\k<2^62)/\Yx (Z2 b a) (R (W4 K a k.toNat) b))) λz c=>d U c (wQ λk b=>(0<=k/\k<2^62)/\z.cps.all (· < 128)=true/\R (Vv z k.toNat) b))
def AM{k:Nat}(a:Inv X y3 U H1 s1)(d:IsEnum h' (s1.heap.objs.size+1) s1.heap.objs.size ((k:Nat):Int) .none)(f:h'.IsStrIter s1.heap.objs.size "str_ascii_iterator" z c 0)(hz:h'.objs.size=s1.heap.objs.size+2)(e:∀b o,s1.heap.get? b=some o->h'.get? b=some o)(q:R (Vv z k) H1):wpAny (model X.prog X.w) X.A (pyIter (.ref (s1.heap.objs.size+1))) (Us X y3 U (.Tuple elts x1 tp) R) E {s1 with heap:=h'}:=by
 refine Jc (s:={s1 with heap:=h'}) d ⟨_,[s1.heap.objs.size+1,s1.heap.objs.size],_,_,H1,rfl,a.kept (t':=s1.toks) e,zh z c _ _ k (Nat.succ_ne_self _),⟨⟨_,d⟩,f⟩,λb g=>?_,q⟩
 have z:s1.heap.objs.size<=b:=by
  rcases Bb.mp g with z|z
  .rw[z];exact Iq _
  simp_all
 exact a.YV z (a.Z4.fresh z)
def P4{g:Expr}(M:Gl X "enumerate")(L:X.mg "enumerate"=none)(N:PA X [l] ta)(f:PK X [⟨some "start",g,kp⟩] tk)(hs:starEach [l] X.env=[(false,eval l X.env)]:=by rfl)(c:keywordEach [⟨some "start",g,kp⟩] X.env=[(some ("start" : Str),eval g X.env)]:=by rfl):PI X (.Tuple elts x1 tp) (.Call (.Name "enumerate" p) [l] [⟨some "start",g,kp⟩] pos) (Po X.K ta tk):=by
 intro j s U H R I h;have b:backTo pos (starEach [l] X.env)=[(false,eval l X.env)]:=by rw[hs];rfl
 refine Dt (iZ I M L boot_enumerate (qG (by rw[b];rfl) (by rw[c];rfl) ?_))
 rw[b];refine evalArgs_kwB (by rw[c];rfl) ?_
 rw[<-b];refine Z1 (N pos j s U H _ I h) λV w μ=>?_;obtain⟨T,A,y,x,E⟩:=μ;have e:(backToKw pos (keywordEach [⟨some "start",g,kp⟩] X.env)).filterMap (·.1)=(["start"]:List Str):=by rw[c];rfl
 rcases Ny E with⟨a,rfl,q⟩|⟨z,rfl,q⟩
 .refine Z1 (f pos j w U A _ y q) λC D ⟨B,Q,i,n,o⟩=>?_;obtain⟨k,rfl,⟨G,F⟩,q⟩:=uH o;obtain⟨u,rfl,m⟩:=dI x;cases m;obtain⟨u,rfl,t,rfl⟩:=dI n;unfold Yx at q;split at q
  .rename_i S P
   obtain⟨J,Y,p,d⟩:=i.list (bD P);rw[e];refine qY (by unfold Builtin.SmallTypes.fitsIndex;rw[An (by omega),An (by omega)];rfl) p.isList λO v r d f=>S7 i (k:=k.toNat) ?_ r d f q
   rw[show ((k.toNat:Nat):Int)=k by omega]
   exact v
  .exact q.elim
 .refine Z1 (f pos j w U A _ y q) λC D ⟨B,Q,i,n,o⟩=>?_;obtain⟨k,rfl,⟨G,F⟩,d,q⟩:=uH o;obtain⟨u,rfl,m⟩:=dI x;obtain⟨W,rfl⟩:=m;obtain⟨u,rfl,t,rfl⟩:=dI n;rw[e];refine xO d (by unfold Builtin.SmallTypes.fitsIndex;rw[An (by omega),An (by omega)];rfl) λO v r d f=>AM i (k:=k.toNat) ?_ r d f q
  rw[show ((k.toNat:Nat):Int)=k by omega]
  exact v
end
section
variable {k:Nat}
def E6(f:Nat->Nat->Option V)(L:z.length<sizeLine)(hs:∀i c d p A (B:Hp->Prop),z.cps.toList[i]?=some c->Z_ H1 d->d p=none->(∀a,Z_ (upd d p (.tup [.int ((k+i:Nat):Int),.str ⟨#[c]⟩])) a->match f i c with|some y=>A y a|none=>B a)->
 g (.ref p) U0 (upd d p (.tup [.int ((k+i:Nat):Int),.str ⟨#[c]⟩])) λw K=>Wk U0 w/\tests w K λb I=>if b=true then te w I A else B I)(u:∀D a,H1 D=none->Z_ H1 a->Z2 a D=some ((List.range z.length).filterMap λi=>f i (z.cps.toList.getD i 0))->Q (.ref D) a):dQ g tests te U0 Q (Vv z k) H1:=by
 intro D t;have r:z.cps.size=z.length:=rfl
 refine⟨λi m d=>m=z.length-i/\i<=z.length/\Z_ H1 d/\d D=some (.lst ((List.range i).filterMap λi=>f i (z.cps.toList.getD i 0))),⟨z.length,by simp,Nat.zero_le _,aG t _,by rw[aD];rfl⟩,?_⟩
 rintro i m d ⟨rfl,M,n,l⟩;by_cases h:i<z.length
 .refine .inr ⟨h,λv N y=>?_⟩;obtain⟨q,c,s,rfl,rfl,J⟩:=y;have E:z.cps.toList[i]?=some c:=by rw[Cw];exact J
  have F:z.cps.toList.getD i 0=c:=by rw[Ad,E];rfl
  refine hs i c d q _ _ E n s λa x=>?_;have j:=x _ _ (aG s _ _ _ l)
  have C:=n.trans ((aG s _).trans x)
  cases e:f i c with
  |some y=>
   refine⟨_,j,?_,z.length-(i+1),by omega,rfl,h,λb o G=>?_,?_⟩
   .have:=Dc (λi=>f i (z.cps.toList.getD i 0)) (List.range i)
    rw[Bw]at this;omega
   .rw[aI (bM G t)];exact C b o G
   .rw[aD,Bx,Bu,Cj (b:=y) (by rw[F,e]),Df]
  |none=>
   refine⟨z.length-(i+1),by omega,rfl,h,C,?_⟩
   rw[j,Bx,Bu,De (by rw[F,e]),Df,Be]
 .have e:i=z.length:=by omega
  subst e;exact .inl ⟨r,u D d t n (aP l)⟩
def Mo(h:ta U H (VX (λa c=>tk U c (wQ λk b=>(0<=k/\k<2^62)/\Yx (Z2 b a) (R (W4 K a k.toNat) b))) λz c=>tk U c (wQ λk b=>(0<=k/\k<2^62)/\z.cps.all (· < 128)=true/\R (Vv z k.toNat) b))):Po K ta tk U H R:=h
def K1{i:Int}(h:Q (.int (-i)) H):TL (.int i) H Q:=h
def FZ{R:Addr->Hp->Prop}{S:Str->Hp->Prop}(h:R a H):VX R S [.ref a] H:=h
def ER{R:Addr->Hp->Prop}{S:Str->Hp->Prop}(h:S z H):VX R S [.str z] H:=h
end
end
section
variable {a b:Expr} {ta tb:TE} {rest:List Expr}
def zy(f:Nat->Option V)(I:z.length<sizeLine)(hs:∀(i:Nat) c d A (B:Hp->Prop),z.cps.toList[i]?=some c->Z_ H1 d->(∀a,Z_ d a->match f c with|some y=>A y a|none=>B a)->
 g (.str ⟨#[c]⟩) U0 d λr F=>Wk U0 r/\tests r F λb w=>if b=true then te r w A else B w)(q:∀D a,H1 D=none->Z_ H1 a->a D=some (.lst (z.cps.toList.filterMap f))->Q (.ref D) a):dQ g tests te U0 Q (W0 z) H1:=by
 intro D p;have x:z.cps.size=z.length:=rfl
 have C:z.cps.toList.length=z.length:=by simp[Str.length]
 refine⟨λi m d=>m=z.length-i/\i<=z.length/\Z_ H1 d/\d D=some (.lst ((z.cps.toList.take i).filterMap f)),⟨z.length,by simp,Nat.zero_le _,aG p _,by rw[aD];rfl⟩,?_⟩
 rintro i m d ⟨rfl,J,l,k⟩;by_cases h:i<z.length
 .refine .inr ⟨h,λv G y=>?_⟩;obtain⟨rfl,c,E,rfl⟩:=y;have n:z.cps.toList[i]?=some c:=by rw[Cw];exact E
  refine hs i c G _ _ n l λa s=>?_;have j:=s _ _ k
  have t:=l.trans s
  cases e:f c with
  |some y=>
   refine⟨_,j,?_,z.length-(i+1),by omega,rfl,h,λb o u=>?_,?_⟩
   .have:=Dc f (z.cps.toList.take i)
    rw[Ce]at this;omega
   .rw[aI (bM u p)];exact t b o u
   .rw[aD,Bl,n,Bu];show some (HO.lst (_++[y]))=some (HO.lst (_++[c].filterMap f))
    rw[Cj e,Df]
  |none=>
   refine⟨z.length-(i+1),by omega,rfl,h,t,?_⟩
   rw[j,Bl,n,Bu];show some (HO.lst _)=some (HO.lst (_++[c].filterMap f))
   rw[De e,Df,Be]
 .have e:i=z.length:=by omega
  subst e;refine .inl ⟨Ah _,q D d p l ?_⟩;rw[k,Cz (by omega)]
def HJ(f:Nat->Option V)(z:n<sizeLine)(hs:∀i d A (B:Hp->Prop),i<n->Z_ H1 d->(∀a,Z_ d a->match f i with|some y=>A y a|none=>B a)->
 g (.int (lo+i)) U0 d λq w=>Wk U0 q/\tests q w λb u=>if b=true then te q u A else B u)(p:∀D a,H1 D=none->Z_ H1 a->a D=some (.lst ((List.range n).filterMap f))->Q (.ref D) a):dQ g tests te U0 Q (X1 lo n) H1:=by
 intro D l;refine⟨λi m d=>m=n-i/\i<=n/\Z_ H1 d/\d D=some (.lst ((List.range i).filterMap f)),⟨n,by simp,Nat.zero_le _,aG l _,by rw[aD];rfl⟩,?_⟩
 rintro i m d ⟨rfl,C,k,j⟩;by_cases c:i<n
 .refine .inr ⟨c,λv x y=>?_⟩;obtain⟨rfl,rfl⟩:=y;refine hs i x _ _ c k λa r=>?_;have h:=r _ _ j
  have s:=k.trans r
  cases e:f i with
  |some y=>
   refine⟨_,h,?_,n-(i+1),by omega,rfl,c,λb o t=>?_,?_⟩
   .have:=Dc f (List.range i)
    rw[Bw]at this;omega
   .rw[aI (bM t l)];exact s b o t
   .rw[aD,Bx,Bu,Cj e,Df]
  |none=>
   refine⟨n-(i+1),by omega,rfl,c,s,?_⟩
   rw[h,Bx,Bu,De e,Df,Be]
 .have e:i=n:=by omega
  subst e;exact .inl ⟨Ah _,p D d l k j⟩
end
def SI(neg:Bool):R2:=λx y H Q=>∃a b,y=.ref a/\Y6 H a x b/\Q (.bl (if neg then !b.isSome else b.isSome)) H
def HU(e:X.A.units+1<cLine):ZN X (compareOp .In) (SI false):=by
 intro i s U H x y v u Q I c b h;obtain⟨a,d,rfl,g,q⟩:=h;cases b;exact Om e I g c λj f=>⟨.bl d.isSome,H,f,rfl,q⟩
def MM(e:X.A.units+1<cLine):ZN X (compareOp .NotIn) (SI true):=by
 intro i s U H x y v u Q I c b h;obtain⟨a,d,rfl,g,q⟩:=h;cases b;exact B3 e I g c λj f=>⟨.bl _,H,f,rfl,q⟩
def Qe(e:Rd H a (.dK kvs))(h:Q (.bl (if neg then !(cD kvs (Sum.inr z)).isSome else (cD kvs (Sum.inr z)).isSome)) H):SI neg (.str z) (.ref a) H Q:=⟨a,_,rfl,.inl ⟨kvs,.inr z,e,rfl,rfl⟩,h⟩
def fS{f:Nat->Option V}{y:V}(h:f i=some y):(List.range (i+1)).filterMap f=(List.range i).filterMap f++[y]:=by
 rw[Bx,Bu,Cj h,Df]
def jF{f:Nat->Option V}(h:f i=none):(List.range (i+1)).filterMap f=(List.range i).filterMap f:=by
 rw[Bx,Bu,De h,Df,Be]
def jL{xs:List V}(f:Nat->Option V)(p:Z2 H1 a=some xs)(z:xs.length<sizeLine)(hs:∀i x d A (B:Hp->Prop),xs[i]?=some x->Z_ H1 d->(∀y,f i=some y->∀c,Z_ d c->A y c)->(f i=none->∀c,Z_ d c->B c)->
 g x U0 d λs E=>Wk U0 s/\tests s E λb t=>if b=true then te s t A else B t)(q:∀D c,H1 D=none->Z_ H1 c->c D=some (.lst ((List.range xs.length).filterMap f))->Q (.ref D) c):dQ g tests te U0 Q (Xd K a) H1:=by
 refine iB (n:=xs.length) (λD i k d=>Z_ H1 d/\k=(List.range i).filterMap f) z (λD m=>⟨aG m _,rfl⟩)
  (λD i k d _ r h=>⟨xs,xs[i],bD (aM r.1 p),by simp[h]⟩) (λD k d _ r=>⟨xs,bD (aM r.1 p),Nat.le_refl _⟩) ?_ ?_
 .rintro D i k d x F A B m G ⟨j,rfl⟩ e ⟨rfl,u⟩ o C;refine hs i x F A B (u xs (bD (aM j p))) j (λy v c l=>?_) (λw c l=>?_)
  .exact o _ _ (l _ _ e) ⟨bL m (j.trans l),(fS v).symm⟩
  .exact C _ (l _ _ e) ⟨j.trans l,(jF w).symm⟩
 .rintro D k d m ⟨j,rfl⟩ e _;exact q D d m j e
def GC{xs:List V}(f:Nat->Option V)(u:Z2 H1 a=some xs)(I:xs.length<sizeLine)(hs:∀i x c p A (B:Hp->Prop),xs[i]?=some x->Z_ H1 c->c p=none->(∀y,f i=some y->∀d,Z_ (upd c p (.tup [.int ((k+i:Nat):Int),x])) d->A y d)->(f i=none->∀d,Z_ (upd c p (.tup [.int ((k+i:Nat):Int),x])) d->B d)->
 g (.ref p) U0 (upd c p (.tup [.int ((k+i:Nat):Int),x])) λw L=>Wk U0 w/\tests w L λb C=>if b=true then te w C A else B C)(v:∀D d,H1 D=none->Z_ H1 d->d D=some (.lst ((List.range xs.length).filterMap f))->Q (.ref D) d):dQ g tests te U0 Q (W4 K a k) H1:=by
 refine iB (n:=xs.length) (λD i l c=>Z_ H1 c/\l=(List.range i).filterMap f) I (λD s=>⟨aG s _,rfl⟩)
  (λD i l c _ r h=>⟨xs,xs[i],bD (aM r.1 u),by simp[h]⟩) (λD l c _ r=>⟨xs,bD (aM r.1 u),rfl⟩) ?_ ?_
 .rintro D i l c x N A B s M ⟨j,rfl⟩ e ⟨q,z,o,rfl,rfl,E⟩ t J;refine hs i z c q A B (E xs (bD (aM j u))) j o (λy F d m=>?_) (λG d m=>?_)
  .exact t _ _ (m _ _ (aG o _ _ _ e)) ⟨bL s (j.trans ((aG o _).trans m)),(fS F).symm⟩
  .exact J _ (m _ _ (aG o _ _ _ e)) ⟨j.trans ((aG o _).trans m),(jF G).symm⟩
 .rintro D l c s ⟨j,rfl⟩ e _;exact v D c s j e
section
variable {jt dq:Addr} {n0:Nat} {en:Array DictEntry} {od:Obj}
def Ke{Q:Option Value->Shared->Prop}(d:s.heap.IsKeyIter jt dq n0 en.size ep)(c:s.heap.get? dq=some od)(e:od.data=.dict en ep)(l:n0<en.size)(k:∀g,g.IsKeyIter jt dq (n0+1) en.size ep->Heap.SameBut jt s.heap g->Q (some en[n0].key) {s with heap:=g}):wpAny (model prog w) A (pyNext (.ref jt)) Q E s:=by
 obtain⟨n,a,m,f⟩:=id d
 have b:=d.typeIs
 refine Ac (Gm (wpAny_callSpecial?_slot  b Fx (Dj Fx b F.entry_dict_keyiterator_next ?_ (F.args_dict_keyiterator_next_1 _))));refine Ac (Ag (Ac (Ac ?_)));refine Ac (Fp b (Ag (Ac (wpAny_fieldsOf a f ?_))))
 refine Ac (Ag (Ac (wpAny_dictEntries c e ?_)));rw[if_neg (by simp)]
 refine Ac (Ag (Ac (wpAny_dictEpoch c e ?_)));rw[if_neg (by simp)]
 refine Ag ?_;simp only[show ¬((n0:Int)<0) by omega,if_false,Int.toNat_natCast,Array.getElem?_eq_getElem l]
 refine Ac (Ac (Fp b (Ag ?_)));refine Ac (wpAny_isOneOf_keyiter b ?_);show wpAny _ _ (setField (.ref jt) 1 (rawInt ((n0:Int)+1)) >>= _) _ _ s
 have i:(s.heap.update jt (Obj.mapFields (·.setIfInBounds 1 (rawInt ((n0:Int)+1))))).IsKeyIter jt dq (n0+1) en.size ep:=
  ⟨_,Heap.get?_update_self _ a (Obj.isFreed_of_fields (Obj.data_mapFields f _)),(Obj.cls_mapFields ..).trans m,by rw[Obj.data_mapFields f];simp[rawInt]⟩
 refine wpAny_bind (wpAny_setField a f (by simp) (wpAny_bind (wpAny_holding (wpAny_bind (wpAny_isOneOf_keyiter (s:={s with heap:=s.heap.update jt (Obj.mapFields (·.setIfInBounds 1 (rawInt ((n0:Int)+1))))}) i.typeIs ?_)))))
 exact Ag (Ag ⟨_,rfl,Ag (k _ i (Dw ..))⟩)
def G1{Q:Option Value->Shared->Prop}(n:A.handled=none)(e:s.heap.IsKeyIter jt dq en.size en.size ep)(d:s.heap.get? dq=some od)(f:od.data=.dict en ep)(l:∀i,Heap.ExtBut jt s.heap i->Q none {s with heap:=i}):wpAny (model prog w) A (pyNext (.ref jt)) Q E s:=by
 obtain⟨o,c,p,j⟩:=id e;have k:Builtin.Dict_items.ownsTuple "dict_keyiterator"=false:=by decide
 have g:=e.typeIs
 unfold pyNext;refine Ac (Gm (wpAny_callSpecial?_slot (name:=Str.ofString "__next__") g Fx (Dj Fx g F.entry_dict_keyiterator_next ?_ (F.args_dict_keyiterator_next_1 _))));refine Ac (Ag (Ac (Ac ?_)));refine Ac (Fp g (Ag (Ac (wpAny_fieldsOf c j ?_))));simp only[k,Bool.false_eq_true,if_false];show wpAny _ _ (if (Value.ref dq==Value.none)=true then _ else _) _ _ s
 rw[if_neg (by exact Av)]
 refine Ac (Ag (Ac (wpAny_dictEntries d f ?_)));rw[if_neg (by simp)]
 refine Ac (Ag (Ac (wpAny_dictEpoch d f ?_)));rw[if_neg (by simp)]
 refine Ag ?_;simp
 refine Ac (Ac (Fp g (Ag ?_)));show wpAny _ _ (setField (.ref jt) 0 .none >>= _) _ _ s
 refine wpAny_bind (wpAny_setField c j (by simp) ?_)
 refine Ac ?_;refine wpAny_bind (wpAny_newObj_type (wpAny_bind (m:=firstArgMember _ _) (wpAny_of_eq (a:=Value.none) (by first|rfl|(simp;rfl)) (wpAny_newObj_type ?_ (by size_fits)))) (by size_fits))
 refine Ac (wpAny_handled (?_:_));rw[show A.in1.handled=none by exact n]
 refine Ac (Ag (wpAny_throw ?thr));case thr=>
  refine Ac (wpAny_isInstance (b:=true) (T := "StopIteration") ⟨_,Au _ rfl,rfl⟩ isSubtype_stop ?_);exact Ag (l _ (((Dw ..).extBut.push _).push _))
end
noncomputable def U5(a:Addr)(o:Obj)(c:List (List Key×V)):It:=⟨λi H=>H a=some (.frz o (.dT c))/\i<c.length,λi H x e=>e=H/\∃d b,c[i]?=some d/\x=.ref b/\H b=some (.tup (d.1.map kV)),λi H=>H a=some (.frz o (.dT c))/\c.length=i⟩
def Tc{b:List (List Key×V)}(I:Inv X y3 U H s)(p:H a=some (.frz o (.dT b)))(j:∃f,o.data=.dict f ep):b.length<=sizeLine/\(a==sysModules)=false/\∃g f,KT H b g/\s.heap.get? a=some o/\o.data=.dict f ep/\o.ExactDict/\f.toList=g.map (entryOfKey (tupleKind (bE X.prog X.w))):=by
 have k:=I.Z4 a _ p
 obtain⟨e,z,n,g,h,u,r,t,d,l,c,m,_⟩:=k;rw[e]at d;cases d;obtain⟨f,i⟩:=j;have q:=c
 rw[i]at q;cases q;exact⟨z,n,g,_,h,e,c,l,m⟩
def Nh(a x:Addr)(o:Obj)(p:List (List Key×V))(ep:Nat)(D:∃j,o.data=.dict j ep):Turn P w K tg (U5 a o p) [x] x (λi h=>h.IsKeyIter x a i p.length ep) where
 mem:=by simp
 obj:=λi h g b u=>by
  obtain⟨o,e,c,d⟩:=g;rw[Aj.mp u];exact⟨o,e,λv z=>by rw[d]at z;cases z⟩
 keep:=λi h L g k=>let ⟨o,A,r⟩:=g;⟨o,k x (by simp) o A,r⟩
 item:=by
  intro X T O W hc i y3 s U H E I G g R;subst T O W;obtain⟨S,F⟩:=R;obtain⟨z,hd,M,j,l,A,f,hx,J⟩:=Tc I S D;have n:=l.length
  have m:j.size=M.length:=by rw[<-Bk,J,Ab]
  obtain⟨f0,f1,f2,f3,Z,Y⟩:=G x (by simp)
  obtain⟨⟨k,b,v⟩,N,a1,Q,_⟩:=oZ l (Aa F);have C:i<j.size:=by omega
  have B:j[i].key=.ref b:=by
   have q:j[i]?=some (entryOfKey (tupleKind (bE X.prog X.w)) (k,b,v)):=by rw[<-Cw,J,Ai,N];rfl
   rw[Ar C]at q;rw[Bm q];rfl
  refine Ke (en:=j) (by rw[m,<-n];exact g) A f C λL y sb=>?_
  rw[B];have I1:=I.turned (t':=s.toks) (λb o u e=>(sb.2 b u).trans e) f0 f1 f3 Z Y
  obtain⟨oi,e,c,d⟩:=id y;refine⟨.ref b,rfl,tF (s:={s with heap:=L}) e c d (by decide) ⟨.ref b,H,I1,rfl,⟨rfl,p[i],b,Aa F,rfl,Q⟩,?_,λb u=>(G b u).1⟩⟩
  rw[n,<-m];exact y
 done:=by
  intro X T O W hc i y3 s U H E I G g R;subst T O W;obtain⟨S,F⟩:=R;obtain⟨z,hd,M,j,l,A,f,hx,J⟩:=Tc I S D;have n:=l.length
  have m:j.size=M.length:=by rw[<-Bk,J,Ab]
  obtain⟨f0,f1,f2,f3,Z,Y⟩:=G x (by simp)
  exact G1 (en:=j) (I.ok.hd hc) (by rw[m,<-n];rw[<-F]at g;exact g) A f λL eb=>⟨rfl,I.turned (t':=s.toks) (λb o u e=>eb b o u e) f0 f1 f3 Z Y⟩
 self:=λ_ _ _ _ _ g h=>wpAny_pyIter_keyiter g h
section
variable {dq:Addr} {en:Array DictEntry} {od:Obj}
def Nx{Q:Q2}(hs:(dq==sysModules)=false)(a:s.heap.get? dq=some od)(d:od.ExactDict)(b:od.data=.dict en ep)(e:Q (.ref s.heap.objs.size) {s with heap:=s.heap.push {cls:=.type "dict_keyiterator",data:=.fields #[.ref dq,.int 0 0,.int en.size 0,.int ep 0]}}):wpAny (model prog w) A (pyIter (.ref dq)) Q E s:=by
 have c:s.TypeIs (.ref dq) "dict" := ⟨od,a,d.1⟩
 refine wpAny_pyIter_slot c F.slot_dict_iter (Dj F.slot_dict_iter c F.entry_dict_iter ?_ (F.args_dict_iter_1 _));refine Ac ?_;refine Ac (wpAny_notOrdered_dict c ?_)
 refine Ag ?_;show wpAny _ _ (Builtin.Dict.showsAll dq >>= _) _ _ s
 unfold Builtin.Dict.showsAll;rw[if_neg (by simp_all)]
 refine Ac (Ag (Ac (wpAny_dictEntries a b (Ac (wpAny_dictEpoch a b ?_)))));refine Ac (Fq (Ag ⟨_,rfl, "dict_keyiterator",_,⟨_,Au _ rfl,rfl⟩,F.slot_dict_keyiterator_next.lookup,(?_:_)⟩))
 simpa [rawInt]using e
end
def J2{b:List (List Key×V)}(I:Inv X y3 U H s)(g:H a=some (.dT b)):∃o c d,s.heap.get? a=some o/\o.data=.dict c d:=by
 obtain⟨_,_,h,_,o,c,d,e,_,f,_⟩:=OB I.Z4 g;exact⟨o,c,d,e,f⟩
def IB{b:List (List Key×V)}(I:Inv X y3 U H s)(i:H a=some (.frz o (.dT b))):∃d,∃c,o.data=.dict c d:=by
 have g:=I.Z4 a _ i
 obtain⟨e,_,_,j,_,k,c,d,f,_,h,_⟩:=g;grind
def qO(H:Hp)(a:Addr)(R:Obj->List (List Key×V)->Hp->Prop):Prop:=(∃b,H a=some (.dT b)/\∀o,R o b (upd H a (.frz o (.dT b))))\/∃o b,H a=some (.frz o (.dT b))/\R o b H
def D0{R:Obj->List (List Key×V)->Hp->Prop}(I:Inv X y3 U H s)(h:qO H a R):∃o b g e,Inv X y3 U g s/\g a=some (.frz o (.dT b))/\(∃d,o.data=.dict d e)/\R o b g:=by
 rcases h with⟨b,c,q⟩|⟨o,b,c,q⟩
 .obtain⟨o,d,e,i,f⟩:=J2 I c;exact⟨o,b,_,e,I.freeze c rfl i,aD,⟨d,f⟩,q o⟩
 .obtain⟨e,d,f⟩:=IB I c;exact⟨o,b,H,e,I,c,⟨d,f⟩,q⟩
def NF(c:TE):TI:=λU H R=>c U H (fU λa e=>qO e a λo b d=>R (U5 a o b) d)
def qN{l:Expr}(u:PE X l tl):PI X tg l (NF tl):=by
 intro m s U H R I h;refine Z1 (u m s U H _ I h) λv i ⟨x,K,F,n,f⟩=>?_;unfold fU at f;split at f
 .cases n;rename_i E _
  obtain⟨o,a,G,D,g,B,c,q⟩:=D0 F f;obtain⟨z,y,J,C,j,r,d,p,w⟩:=Tc g B c;have k:C.size=a.length:=by rw[<-Bk,w,Ab,j.length]
  refine Nx y r p d ?_;refine⟨i.heap.objs.size,[i.heap.objs.size],_,_,G,rfl,g.kept (t':=i.toks) λb o e=>Af _ e,Nh E _ o a D c,⟨_,Au _ rfl,rfl,by rw[k];rfl⟩,λb A=>?_,q⟩
  rw[Aj.mp A];exact g.YV (Ah _) (g.Z4.fresh (Ah _))
 simp_all
def Sh:V->List V->Hp->VK->Prop:=λx c H Q=>∃a y b,x=.ref a/\c=[y]/\Y6 H a y b/\Q (b.getD .non) H
section
variable {kvs:List (List Key×V)} {k:List Key}
def JI(c:Nat->St->Hp->Prop)(s:c 0 U H)(l:∀i U H,i<=kvs.length->c i U H->H a=some (.frz o (.dT kvs)))(hs:∀i f b U H,kvs[i]?=some f->H b=some (.tup (f.1.map kV))->c i U H->g (.ref b) U H λt u=>tb {D with nx:=c (i+1),ct:=c (i+1),bk:=D.nx} t u)(q:∀U H,c kvs.length U H->D.nx U H):WO (U5 a o kvs) g tb D U H:=by
 refine⟨λi m U H=>m=kvs.length-i/\i<=kvs.length/\c i U H,⟨kvs.length,by simp,Nat.zero_le _,s⟩,?_⟩
 rintro i m U H ⟨rfl,n,p⟩;have h:=l i U H n p
 by_cases d:i<kvs.length
 .refine .inr ⟨⟨h,d⟩,c (i+1),λw v j=>⟨kvs.length-(i+1),by omega,rfl,d,j⟩,λx v y=>?_⟩
  obtain⟨rfl,f,b,k,rfl,r⟩:=y;exact hs i f b U _ k r p
 .have e:i=kvs.length:=by omega
  subst e;exact .inl ⟨⟨h,rfl⟩,q U H p⟩
def G3(h:tl U H (fU λa d=>qO d a λo b c=>R (U5 a o b) c)):NF tl U H R:=h
def Tv{b:Obj->List (List Key×V)->Hp->Prop}(e:H a=some (.dT kvs))(h:∀o,b o kvs (upd H a (.frz o (.dT kvs)))):qO H a b:=.inl ⟨kvs,e,h⟩
def IF{b:Obj->List (List Key×V)->Hp->Prop}(e:H a=some (.frz o (.dT kvs)))(h:b o kvs H):qO H a b:=.inr ⟨o,kvs,e,h⟩
def J6(h:∀p,H p=none->Q (.ref p) (upd H p (.dT []))):PC U H Q:=h
def SW(e:Rd H a (.dT kvs))(c:H b=some (.tup (k.map kV)))(l:cD kvs k=some v)(h:Q v H):TQ (.ref a) (.ref b) H Q:=⟨a,v,rfl,.inr ⟨kvs,k,b,e,rfl,c,l.symm⟩,h⟩
def SU(e:H a=some (.dT kvs))(c:H b=some (.tup (k.map kV)))(l:kvs.length<sizeLine)(h:D.nx U (upd H a (.dT (dY kvs k v)))):TF D U (.ref a) (.ref b) v H:=⟨a,_,rfl,.inr ⟨kvs,k,b,e,rfl,c,l,rfl⟩,h⟩
def O8(e:Rd H a (.dT kvs))(c:H b=some (.tup (k.map kV)))(h:Q ((cD kvs k).getD .non) H):Sh (.ref a) [.ref b] H Q:=⟨a,_,_,rfl,rfl,.inr ⟨kvs,k,b,e,rfl,c,rfl⟩,h⟩
end
def Nz{Q:Int->Shared->Prop}(h:Q 0xFCA86420 {s with toks:=s.toks+1}):wpAny (model prog w) A (pyHash .none) Q E s:=by
 have a:s.TypeIs .none "NoneType" := rfl
 unfold pyHash pyHashByItsType;refine Ac ?_;rw[cRoomFor,if_neg (by decide)]
 refine Ag (Ac (Fw a F.slot_NoneType_hash.lookup ?_));show wpAny _ _ (if (some (Value.builtin "NoneType.__hash__")==some Value.none)=true then _ else _) Q E s
 rw[if_neg (by grind)]
 refine Ac (Fw a F.slot_NoneType_hash.lookup ?_);show wpAny _ _ (callSpecialIfBoundUnlessNone? .none "__hash__" _ >>= _) Q E s
 refine Ac (wpAny_callSpecialIfBoundUnlessNone?_slot a F.slot_NoneType_hash (Dj F.slot_NoneType_hash a F.entry_NoneType_hash (show wpAny _ _ (do ret (<-mkInt 0xFCA86420)) _ _ s from wpAny_ret_mkInt ?_) (F.args_NoneType_hash_1 _)))
 show wpAny _ _ (if (decide (-(2:Int)^63<=0xFCA86420)&&decide ((0xFCA86420:Int)<2^63))=true then _ else _) Q E _
 rw[if_pos (by decide)]
 exact Ag h
noncomputable def S_:Option Key->Value->Bool
 |none,.none=>true
 |none,_=>false
 |some k,v=>oF k v
def dC{v:Value}(h:S_ none v=true):v=.none:=by
 cases v<;>first|rfl|(exact absurd h (by decide))|cases h
def pO{v:Value}(h:oF k v=true):v≠.none:=λz=>by
 rcases bV h with⟨i,t,_,e⟩|⟨x,t,_,e⟩ <;> rw[z]at e<;>cases e
noncomputable def C0(w:World):Option Key->Int
 |none=>0xFCA86420
 |some k=>NH w k
noncomputable def BM(prog:Program)(w:World):PySem.KeyKind prog w (Option Key) where
 is:=S_
 hash:=C0 w
 inj:=λv a b i g=>by
  cases a with
  |none=>
   cases b with
   |none=>rfl
   |some b=>exact absurd (dC i) (pO g)
  |some a=>
   cases b with
   |none=>exact absurd (dC g) (pO i)
   |some b=>exact Dk some ((bE prog w).inj v a b i g)
 byValue:=λk v h=>by
  cases k with
  |none=>rw[dC h];rfl
  |some k=>exact(bE prog w).byValue k v h
 pyHash:=fun {A E s k v Q} c h=>by
  cases k with
  |none=>rw[dC c];exact Nz h
  |some k=>exact(bE prog w).pyHash c h
 eqBool:=fun {A E s a b u v Q} f c h=>by
  cases a with
  |none=>
   rw[dC f];cases b with
   |none=>rw[dC c];exact SeqAt.EqAt.same _ _ _ _ _ (by simpa using h)
   |some b=>
    have d:Q false s:=by simpa using h
    rcases bV (show oF b v=true from c) with⟨j,t,_,rfl⟩|⟨y,t,_,rfl⟩
    .exact SeqAt.EqAt.none_int _ _ _ _ _ _ d
    .exact SeqAt.EqAt.none_str _ _ _ _ _ _ d
  |some a=>
   cases b with
   |none=>
    rw[dC c];have d:Q false s:=by simpa using h
    rcases bV (show oF a u=true from f) with⟨j,t,_,rfl⟩|⟨y,t,_,rfl⟩
    .exact SeqAt.EqAt.int_none _ _ _ _ _ _ d
    .exact SeqAt.EqAt.str_none _ _ _ _ _ _ d
   |some b=>
    refine(bE prog w).eqBool f c ?_;have e:decide (some a=some b)=decide (a=b):=Cu.mpr ⟨Bm,λz=>by rw[z]⟩
    rw[e]at h;exact h
 «strs» := λk x t v h=>by
  cases k with
  |none=>exact absurd (dC h) (λz=>nomatch z)
  |some k=>exact(bE prog w).strs k x t v h
def GR{f:Key->Option Value}(l:h.MapOf (bE prog w) a f):h.MapOf (BM prog w) a (λk=>k.bind f):=by
 obtain⟨o,g,q,j,i,n,d,m⟩:=l;refine⟨o,g,q,j,i,n,λe b=>?_,λk=>?_⟩
 .obtain⟨k,c,p⟩:=d e b;exact⟨some k,c,p⟩
 .cases k with
  |some k=>exact m k
  |none=>
   show findBy S_ g none=none
   unfold findBy;rw[Option.map_eq_none_iff,Array.find?_eq_none];intro e b z;obtain⟨k,c,_⟩:=d e b;exact pO c (dC z)
def T1:R2:=λx y H Q=>∃a,y=.ref a/\((∃c,Y6 H a x c/\Q (.bl c.isSome) H)\/(x=.non/\∃b,Rd H a (.dK b)/\Q (.bl false) H))
def DL(j:X.A.units+1<cLine):ZN X (compareOp .In) T1:=by
 intro o s U H x y v u Q I b c h;obtain⟨a,rfl,h⟩:=h;cases c;rcases h with⟨f,g,q⟩|⟨rfl,i,e,q⟩
 .exact Om j I g b λr n=>⟨.bl f.isSome,H,n,rfl,q⟩
 .cases b;obtain⟨z,l,p,d,m⟩:=lC I.Z4 e;exact wpAny_in_of  (k:=none)  rfl l (GR m.mapOf) ⟨.bl false,H,I.tok _,rfl,q⟩
def NX(f:X.A.units+1<cLine):X3 X "dict.get" Sh:=by
 intro j s U H x l v m Q I b c h;obtain⟨a,y,o,rfl,rfl,g,q⟩:=h;cases b;obtain⟨u,rfl,d⟩:=c.one;exact FC f I g d λk n i e=>⟨_,H,i,e,q⟩
def Kt(e:Rd H a (.dK kvs))(h:Q (.bl false) H):T1 .non (.ref a) H Q:=⟨a,rfl,.inr ⟨rfl,kvs,e,h⟩⟩
def C5(e:Rd H a (.dK kvs))(h:Q (.bl (cD kvs (Sum.inr z)).isSome) H):T1 (.str z) (.ref a) H Q:=⟨a,rfl,.inl ⟨_,.inl ⟨kvs,.inr z,e,rfl,rfl⟩,h⟩⟩
def PM:R2:=λx y H Q=>∃p q a b c d,x=.ref p/\y=.ref q/\H p=some (.tup [.int a,.int b])/\H q=some (.tup [.int c,.int d])/\Q (.bl (decide (a=c/\b=d))) H
def J4(F:X.A.units<cLine):ZN X (compareOp .Eq) PM:=by
 intro M s U H x y v u Q I w t h;obtain⟨p,q,a,b,c,d,rfl,rfl,J,G,k⟩:=h;cases w;cases t;obtain⟨E,B,D,_⟩:=I.tuple (YF.of (K:=X.K) J);obtain⟨i,z,C,_⟩:=I.tuple (YF.of (K:=X.K) G);obtain⟨R,P,rfl,⟨r,rfl⟩,⟨o,rfl⟩⟩:=B.two;obtain⟨O,N,rfl,⟨n,rfl⟩,⟨m,rfl⟩⟩:=z.two;refine SeqAt.eq_tupleAt (e:=λj=>if j=0 then a==c else b==d) (show s.heap.IsTuple p _ from D) (show s.heap.IsTuple q _ from C) F (λj f L=>?_) ?_
 .match j,f,L with
  |0,_,_=>exact SeqAt.EqAt.int_int a r c n
  |1,_,_=>exact SeqAt.EqAt.int_int b o d m
  |j+2,f,_=>exact absurd f (by show ¬j+2<2;omega)
 .refine⟨.bl (decide (a=c/\b=d)),H,I,?_,k⟩;show Value.bool _=Value.bool _
  congr 1
  show (((if (0:Nat)=0 then a==c else b==d)&&((if (1:Nat)=0 then a==c else b==d)&&true))&&true)=_
  grind
def HR{a b c d:Int}(f:H p=some (.tup [.int a,.int b]))(e:H q=some (.tup [.int c,.int d]))(h:Q (.bl (decide (a=c/\b=d))) H):PM (.ref p) (.ref q) H Q:=⟨p,q,a,b,c,d,rfl,rfl,f,e,h⟩
def yB:entryFor table "proto.unchain"=some Builtin.«proto.unchain» := entryFor_of_tree (by kernel_rfl)
def ZZ(h:Heap)(b:Addr):Prop:=∃o a,h.get? b=some o/\o.data=.fields a/\a[2]?=some .none
def AI{Q:α->Shared->Prop}{n:Addr}{d:Array Value}(e:A.handled=some (.ref ea))(a:ea≠n)(i:ZZ s.heap ea)(c:s.heap.get? n=some o)(g:o.data=.fields d)(hs:2<d.size)(h:E (.ref n) {s with heap:=s.heap.update n (Obj.mapFields (·.setIfInBounds 2 (.ref ea)))}):wpAny (model prog w) A (raiseNew (.ref n):Sem α) Q E s:=by
 obtain⟨l,m,f,b,k⟩:=i;unfold raiseNew;refine Ac (wpAny_handled (?_:_));rw[e];show wpAny _ _ (if ((Value.ref ea) != (Value.ref n))=true then _ else _) _ _ _
 have j:((Value.ref ea) != (Value.ref n))=true:=by
  rw[bne_iff_ne];intro z;injection z with z
  exact a z
 rw[if_pos j];refine Ac (Cb (runValue_entry yB ?_));show wpAny _ _ (field (.ref ea) 2 >>= _) _ _ _
 refine Ac (Ee f b (x:=.none) k ?_);rw[if_pos (show (Value.none==Value.none)=true from rfl)];refine Ag ⟨_,rfl,Ac ?_⟩;unfold updateField;refine Ac (wpAny_load c ?_);simp only[g];rw[if_pos hs];exact wpAny_update c (wpAny_throw h)
def ZZ.ext(c:ZZ h ea)(k:∀o,h.get? ea=some o->h'.get? ea=some o):ZZ h' ea:=by
 obtain⟨o,e,d,b,a⟩:=c;exact⟨o,e,k o d,b,a⟩
def nD{r:α->Shared->Prop}{B:Around}{h1:Heap}{t x:Obj}{l:Array Value}{Q:Option Value->Shared->Prop}(g:x.cls=.type "StopIteration")(i:x.data=.fields l)(hs:2<l.size)(a:x.isFreed=false)(c:Heap.ExtBut it s.heap ((h1.push t).push x))(hz:s.heap.objs.size<=(h1.push t).objs.size)(n:B.handled=some (.ref ea))(d:ea≠it)(j:ZZ s.heap ea)(q:∀k,Heap.ExtBut it s.heap k->Q none {s with heap:=k}):wpAny (model prog w) B (raiseNew (.ref (h1.push t).objs.size):Sem α) r (λe m=>wpAny (model prog w) A (do if (<-isInstance e (Value.type "StopIteration"))=true then pure none else throw e) Q E m) {s with heap:=(h1.push t).push x}:=by
 have f:ea<s.heap.objs.size:=by obtain⟨o,_,h,_⟩:=j;exact Aq h
 refine AI (s:={s with heap:=(h1.push t).push x}) n (Bc (Bi f hz)) (j.ext λo e=>c ea o d e) (Au _ a) i hs ?_
 refine Ac (wpAny_isInstance (b:=true) (T := "StopIteration") ⟨_,Dx _ (Au _ a) (Obj.isFreed_of_fields (Ey i _)),(Obj.cls_mapFields ..).trans g⟩ isSubtype_stop ?_);exact Ag (q _ λb o p e=>((Dw ..).2 b (Bc (Bi (Aq e) hz))).trans (c b o p e))
def sN{Q:Option Value->Shared->Prop}(q:A.handled=some (.ref ea))(e:ea≠it)(t:ZZ s.heap ea)(b:s.heap.IsListIter it l i)(p:s.heap.IsList l items)(n:items[i]?=none)(u:∀k,Heap.ExtBut it s.heap k->Q none {s with heap:=k}):wpAny (model prog w) A (pyNext (.ref it)) Q E s:=by
 obtain⟨o,d,r,j⟩:=id b;obtain⟨y,c,_,z,g⟩:=p;unfold pyNext;refine Ac (Gm (wpAny_callSpecial?_slot (name:=Str.ofString "__next__") b.typeIs slot_listiter_next (Dj slot_listiter_next b.typeIs entry_listiter_next ?_ (args_listiter_next _))));show wpAny _ _ (field (.ref it) 0 >>= _) _ _ s
 refine Ac (Ee (x:=.ref l) d j rfl ?_);show wpAny _ _ (if (Value.ref l==Value.none)=true then _ else _) _ _ s
 refine Ac (Ee (x:=.int i 0) d j rfl ?_)
 refine Ac (wpAny_seqItems c g (?_:_));simp only[Int.toNat_natCast,n];refine wpAny_bind (wpAny_rule (wpAny_bind (wpAny_setField d j (by simp) (?_:_))))
 have v:=((Dw (h:=s.heap) (a:=it) (f:=Obj.mapFields λx=>x.setIfInBounds 0 Value.none)).extBut.push {cls:=Value.type "tuple",data:=Data.seq #[]}).push (⟨.type "StopIteration",none,.fields (#[.ref (s.heap.update it (Obj.mapFields λx=>x.setIfInBounds 0 Value.none)).objs.size,.none,.none,.none,.bool false,.none]++ownMembersOf (Value.type "StopIteration") []),#[]⟩:Obj)
 exact nD (s:=s) (h1:=s.heap.update it (Obj.mapFields λx=>x.setIfInBounds 0 Value.none)) rfl rfl (by rw[Array.size_append];exact Nat.lt_of_lt_of_le (show 2<6 by decide) (Nat.le_add_right _ _)) rfl v (by simp) q e t u
def JQ{x left d:Int}{Q:Option Value->Shared->Prop}(k:A.handled=some (.ref ea))(g:ea≠it)(l:ZZ s.heap ea)(c:IsRangeIter s.heap it x left d)(f:left<=0)(n:∀j,Heap.ExtBut it s.heap j->Q none {s with heap:=j}):wpAny (model prog w) A (pyNext (.ref it)) Q E s:=by
 have i:s.TypeIs (.ref it) "range_iterator" := ⟨_,c,rfl⟩
 unfold pyNext;refine Ac (Gm (wpAny_callSpecial?_slot (name:=Str.ofString "__next__") i F.slot_range_iterator_next (Dj F.slot_range_iterator_next i F.entry_range_iterator_next ?_ (F.args_range_iterator_next_1 _))));show wpAny _ _ (field (.ref it) 0 >>= _) _ _ s
 refine Ac (Ee (x:=rawInt x) c rfl rfl ?_)
 refine Ac (Ee (x:=rawInt left) c rfl rfl ?_)
 refine Ac (Ee (x:=rawInt d) c rfl rfl ?_);show wpAny _ _ (if left<=0 then _ else _) _ _ s
 rw[if_pos f];refine Ac (wpAny_rule (Ac ?_))
 have p:Heap.ExtBut it s.heap ((s.heap.push {cls:=Value.type "tuple",data:=Data.seq #[]}).push (⟨.type "StopIteration",none,.fields (#[.ref s.heap.objs.size,.none,.none,.none,.bool false,.none]++ownMembersOf (Value.type "StopIteration") []),#[]⟩:Obj)):=λb o _ e=>Af _ (Af _ e)
 exact nD (s:=s) (h1:=s.heap) rfl rfl (by rw[Array.size_append];exact Nat.lt_of_lt_of_le (show 2<6 by decide) (Nat.le_add_right _ _)) rfl p (by simp) k g l n
def Wl(o:Obj):Prop:=∃a,o.data=.fields a/\a[2]?=some .none
def ZA(s:Shared)(H:Hp)(a:Addr):Prop:=∃o,s.heap.get? a=some o/\Wl o/\(H a=none\/∃u,H a=some (.frz o u))
def fE(X:Cx):Prop:=∃a,X.A.handled=some (.ref a)/\ZA X.s₀ X.H₀ a/\a∉X.ex
def Inv.XY(I:Inv X y3 U H s)(h:ZA X.s₀ X.H₀ ea)(f:ea∉X.ex):ZA s H ea:=by
 obtain⟨o,g,⟨d,c,i⟩,a⟩:=h;have b:ea∉X.fs:=λk=>by
  obtain⟨_,l,j,b⟩:=I.ok.Zr.mem k;grind
 rcases a with a|⟨u,a⟩
 .exact⟨o,I.base.keep ea o g a b f,⟨d,c,i⟩,.inl (I.base.free ea o g a f)⟩
 .have e:=I.base.frzs ea o u a
  exact⟨o,(I.Z4 ea _ e).1,⟨d,c,i⟩,.inr ⟨u,e⟩⟩
def ZA.ctx(h:ZA s H ea):ZZ s.heap ea:=by
 obtain⟨o,g,⟨c,a,b⟩,_⟩:=h;exact⟨o,c,g,a,b⟩
def Inv.soft(I:Inv X y3 U H s)(h:fE X):∃c,X.A.handled=some (.ref c)/\ZZ s.heap c/\∀b,(b∈X.ex\/X.s₀.heap.objs.size<=b)->c≠b:=by
 obtain⟨c,f,d,e⟩:=h;refine⟨c,f,(I.XY d e).ctx,λb a z=>?_⟩;subst z;rcases a with a|a
 .exact e a
 .obtain⟨o,g,_⟩:=d;exact absurd (Aq g) (Nat.not_lt.mpr a)
def Lf(i:Nat)(s:Shared)(Q:Option Value->Shared->Prop)(E:Q2)(p:i<n)(st:IsRangeIter s.heap it (lo+(i:Nat)*c) ((n:Int)-(i:Nat)) c)(k:∀v d f,(∃t,v=Value.int (lo+i*c) t)->IsRangeIter d it (lo+(i+1:Nat)*c) ((n:Int)-(i+1:Nat)) c->(∀b o,b∉[it]->s.heap.get? b=some o->d.get? b=some o)->Q (some v) {s with heap:=d,toks:=f}):wpAny (model prog w) A (pyNext (.ref it)) Q E s:=by
 refine wpAny_pyNext_range_item st (by omega) λd a g=>?_
 have m:lo+(i:Int)*c+c=lo+((i+1:Nat):Int)*c:=by push_cast;rw[Int.add_mul,Int.one_mul,Int.add_assoc]
 have l:(n:Int)-(i:Int)-1=(n:Int)-((i+1:Nat):Int):=by push_cast;omega
 rw[m,l]at a;exact k _ d _ ⟨_,rfl⟩ a λb o j e=>g.extBut b o (λz=>j (by simp_all)) e
def vF{Q:Option Value->Shared->Prop}(p:A.handled=some (.ref ea))(e:ea≠it)(r:ZZ s.heap ea)(b:s.heap.IsTupleIter it t i)(n:s.heap.IsTuple t items)(l:items[i]?=none)(u:∀k,Heap.ExtBut it s.heap k->Q none {s with heap:=k}):wpAny (model prog w) A (pyNext (.ref it)) Q E s:=by
 obtain⟨o,d,q,j⟩:=id b;obtain⟨y,c,_,z,g⟩:=n;unfold pyNext;refine Ac (Gm (wpAny_callSpecial?_slot (name:=Str.ofString "__next__") b.typeIs F.slot_tuple_iterator_next (Dj F.slot_tuple_iterator_next b.typeIs F.entry_tuple_iterator_next ?_ (F.args_tuple_iterator_next_1 _))));show wpAny _ _ (field (.ref it) 0 >>= _) _ _ s
 refine Ac (Ee (x:=.ref t) d j rfl ?_)
 refine Ac (Ee (x:=.int i 0) d j rfl ?_)
 refine Ac (wpAny_seqItems c g (?_:_));simp only[Int.toNat_natCast,l];refine wpAny_bind (wpAny_rule (wpAny_bind (wpAny_setField d j (by simp) (?_:_))))
 have v:=((Dw (h:=s.heap) (a:=it) (f:=Obj.mapFields λx=>x.setIfInBounds 0 Value.none)).extBut.push {cls:=Value.type "tuple",data:=Data.seq #[]}).push (⟨.type "StopIteration",none,.fields (#[.ref (s.heap.update it (Obj.mapFields λx=>x.setIfInBounds 0 Value.none)).objs.size,.none,.none,.none,.bool false,.none]++ownMembersOf (Value.type "StopIteration") []),#[]⟩:Obj)
 exact nD (s:=s) (h1:=s.heap.update it (Obj.mapFields λx=>x.setIfInBounds 0 Value.none)) rfl rfl (by rw[Array.size_append];exact Nat.lt_of_lt_of_le (show 2<6 by decide) (Nat.le_add_right _ _)) rfl v (by simp) p e r u
def ZZ.some(c:ZZ h ea):∃o,h.get? ea=Option.some o:=by
 obtain⟨o,_,e,_⟩:=c;exact⟨o,e⟩
def AA{items:Array Value}(p:A.handled=some (.ref ea))(k:ax≠it)(c:ea≠it):Walks prog w A it [it,ax,ea] [it] items.size (λi v=>items[i]?=Option.some v) (λi h=>(h.IsTupleIter it ax i/\h.IsTuple ax items)/\ZZ h ea) where
 sub:=λb d=>by simp_all
 frame:=λ_ _ _ a l=>⟨⟨a.1.1.at λo e=>l it (by simp) o e,a.1.2.at λo e=>l ax (by simp) o e⟩,a.2.ext λo e=>l ea (by simp) o e⟩
 item:=λi s Q E n a f=>by
  refine wpAny_pyNext_tuple_item a.1.1 a.1.2  (Ar n) λm j g=>?_;exact f _ m s.toks (Ar n) ⟨⟨j,a.1.2.extBut g.extBut k⟩,a.2.ext λo e=>g.extBut ea o c e⟩ λb o d e=>g.extBut b o (λz=>d (by rw[z];exact Aj.mpr rfl)) e
 done:=λs Q E a f=>vF p c a.2 a.1.1 a.1.2 (Da (Ah _)) λm q=>f m s.toks λb o d e=>q b o (λz=>d (by simp_all)) e
 self:=λ_ _ _ _ a f=>wpAny_pyIter_tupleiter a.1.1 f
def Mx{a b:Int}{t u:Tok}{Q:Q2}(G:A.handled=some (.ref ea))(n:ZZ s.heap ea)(h:∀p r,(∀c o,s.heap.get? c=Option.some o->p.get? c=Option.some o)->Q (if b<a then .int b u else .int a t) {s with heap:=p,toks:=r}):wpAny (model prog w) A (call (.builtin "min") [.int a t,.int b u]) Q E s:=by
 generalize f:s.heap.push {cls:=.type "tuple",data:=.seq #[.int a t,.int b u]}=k;have B:k.IsTuple s.heap.objs.size (intItems #[(a,t),(b,u)]):=by rw[<-f];exact⟨_,Heap.get?_push_size _ rfl,rfl,0,by simp[intItems]⟩
 have l:k.objs.size=s.heap.objs.size+1:=by rw[<-f];exact Ed ..
 have x:∀c o,s.heap.get? c=Option.some o->k.get? c=Option.some o:=λc o e=>by rw[<-f];exact Af _ e
 obtain⟨J,I⟩:=n.some;have y:=Aq I
 refine call_min_two ?_;rw[f];refine wpAny_pyIter_tuple B ?_;refine⟨k.objs.size,[k.objs.size,s.heap.objs.size,ea],[k.objs.size],_,_,_,_,rfl,AA (A:=A.in1) (ax:=s.heap.objs.size) (items:=intItems #[(a,t),(b,u)]) G (by rw[l];exact Bc (Ej _)) (by rw[l];exact Bc (Fd y)),
  ⟨⟨⟨_,Heap.get?_push_size _ rfl,rfl,rfl⟩,B.push _⟩,n.ext λo e=>Heap.get?_push_of_some _ (x _ _ e)⟩,λc z=>?_,by simp[intItems],CmpOf.ints_lt (numAt #[(a,t),(b,u)]) (λ_ _=>intItems_at),λv p r H F=>?_⟩
 .show c<(k.push _).objs.size
  rw[Ed];simp only[List.mem_cons,List.not_mem_nil,or_false]at z;rcases z with rfl|rfl|rfl
  .exact Ej _
  .rw[l];exact Fd (Ej _)
  .rw[l];exact Fd (Fd y)
 .have m:=λc o e=>F c o (λD=>by
   have:=Aq e
   rw[Aj.mp D,l]at this;exact absurd this (Nat.not_lt.mpr (Iq _))) (Af _ (x _ _ e))
  have q:=h p r m
  have C:v=if b<a then Value.int b u else Value.int a t:=by
   have d:=H
   rw[show (intItems #[(a,t),(b,u)]).size-1=1 by simp[intItems]]at d
   by_cases g:b<a
   .rw[show argBest (λi j=>decide (numAt #[(a,t),(b,u)] i<numAt #[(a,t),(b,u)] j)) 1=1 by simp[argBest,numAt,g]]at d
    simpa [intItems,g]using d.symm
   .rw[show argBest (λi j=>decide (numAt #[(a,t),(b,u)] i<numAt #[(a,t),(b,u)] j)) 1=0 by simp[argBest,numAt,g]]at d
    simpa [intItems,g]using d.symm
  rw[C];exact q
structure XE (P:Program) (w:World) (K:W.Frag) (tg:Expr) (J:It) (fp:List Addr) (it:Addr) (tn:Nat->Heap->Prop):Prop where
 mem:it∈fp
 obj:∀i h,tn i h->∀b∈fp,∃o,h.get? b=some o/\∀v,o.data≠.cell v
 keep:∀i h h',tn i h->(∀b∈fp,∀o,h.get? b=some o->h'.get? b=some o)->tn i h'
 item:∀(X:Cx),X.prog=P->X.w=w->X.K=K->fE X->∀(i:Nat) (y3:Q3) (s:Shared) (U:St) (H:Hp) (E:Q2),Inv X y3 U H s->(∀b∈fp,gA X y3 H b)->tn i s.heap->J.go i H->
  wpAny (model P w) X.A (pyNext (.ref it)) (λr s1=>∃u,r=some u/\
   wpAny (model P w) X.A (letOwnedTupleGo tg (.ref it) u) (λ_ s2=>∃x H',Inv X y3 U H' s2/\RelV x u/\J.WZ i H x H'/\tn (i+1) s2.heap/\∀b∈fp,H' b=none) E s1) E s
 done:∀(X:Cx),X.prog=P->X.w=w->X.K=K->fE X->∀(i:Nat) (y3:Q3) (s:Shared) (U:St) (H:Hp) (E:Q2),Inv X y3 U H s->(∀b∈fp,gA X y3 H b)->tn i s.heap->J.stop i H->
  wpAny (model P w) X.A (pyNext (.ref it)) (λr s1=>r=none/\Inv X y3 U H s1) E s
 self:∀(A:Around) (i:Nat) (s:Shared) (Q:Q2) (E:Q2),tn i s.heap->Q (.ref it) s->wpAny (model P w) A (pyIter (.ref it)) Q E s
def QW(X:Cx)(d:List (Addr×Obj))(U:St)(i:Expr)(R:It->Hp->Prop)(a:Value)(f:Shared):Prop:=
 ∃g h e J c,a=.ref g/\Inv X d U c f/\XE X.prog X.w X.K i J h g e/\e 0 f.heap/\(∀b∈h,gA X d c b)/\R J c
def VO(X:Cx)(c a:Expr)(wi:TI):Prop:=
 ∀(b:Q3) s (U:St) H R,Inv X b U H s->wi U H R->
  wpAny (model X.prog X.w) X.A (eval a X.env) (λv d=>wpAny (model X.prog X.w) X.A (pyIter v) (QW X b U c R) X.xe d) X.xe s
def FD(a g:Addr):XE P w K tg (Xd K a) [g] g (λi h=>h.IsListIter g a i) where
 mem:=by simp
 obj:=λi h f b j=>by
  have e:b=g:=by simpa using j
  subst e;obtain⟨o,e,c,d⟩:=f;exact⟨o,e,λv z=>by rw[d]at z;cases z⟩
 keep:=λi h q f k=>f.at λo e=>k g (by simp) o e
 item:=by
  intro X J C L S i R s U H E I n f F;subst J C L;obtain⟨T,x,m,B⟩:=F;obtain⟨A,y,p,Y⟩:=I.list m;obtain⟨u,hu,W⟩:=y.get B;obtain⟨Q,O,f2,r,N,M⟩:=n g (by simp)
  refine wpAny_pyNext_list_item f p.isList (x:=u) (by simpa using hu) λq l V=>?_
  have I1:=I.turned (t':=s.toks) (λb o j e=>(V.2 b j).trans e) Q O r N M
  obtain⟨o,e,c,d⟩:=id l;exact⟨u,rfl,tF (s:={s with heap:=q}) e c d (by decide) ⟨x,H,I1,W,⟨rfl,λys Z=>by rw[I.Zg Z m];exact B⟩,l,λb j=>(n b j).1⟩⟩
 done:=by
  intro X J C L S i R s U H E I n f F;subst J C L;obtain⟨T,m,B⟩:=F;obtain⟨A,y,p,Y⟩:=I.list m;obtain⟨Q,O,f2,r,N,M⟩:=n g (by simp)
  have hl:=y.length
  obtain⟨ea,hh,G,D⟩:=I.soft S;exact sN hh (D g r) G f p.isList (by simp;omega) λq eb=>⟨rfl,I.turned (t':=s.toks) (λb o j e=>eb b o j e) Q O r N M⟩
 self:=λ_ _ _ _ _ f h=>wpAny_pyIter_listiter f h
def BE(c:Addr)(m:Int)(n:Nat):XE P w K tg (X1 m n) [c] c (λi h=>IsRangeIter h c (m+(i:Nat)*1) ((n:Int)-(i:Nat)) 1) where
 mem:=by simp
 obj:=λi h a b d=>by
  have e:b=c:=by simpa using d
  subst e;exact⟨_,a,λv z=>by
   have L:=z
   cases L⟩
 keep:=λi h j a k=>k c (by simp) _ a
 item:=by
  intro X x p y J i F s U H E I g a r;subst x p y;obtain⟨D,C,Q,l,B,A⟩:=g c (by simp)
  refine Lf i s _ _ r a λv j G N f M=>?_;obtain⟨t,rfl⟩:=N;have S:Inv X F U H {s with heap:=j,toks:=G}:=I.turned (λb o d e=>M b o (by simpa using d) e) D C l B A
  refine⟨_,rfl,tF (s:={s with heap:=j,toks:=G}) (n := "range_iterator") f rfl rfl (by decide) ⟨.int (m+i),H,S,⟨t,?_⟩,⟨rfl,rfl⟩,f,λb d=>(g b d).1⟩⟩
  rw[Int.mul_one]
 done:=by
  intro X x p y J i F s U H E I g a r;subst x p y;obtain⟨D,C,Q,l,B,A⟩:=g c (by simp)
  obtain⟨T,O,u,q⟩:=I.soft J;exact JQ O (q c l) u a (by have:n<=i:=r;omega) λj R=>⟨rfl,I.turned (t':=s.toks) (λb o d e=>R b o d e) D C l B A⟩
 self:=λ_ _ _ _ _ a h=>wpAny_pyIter_rangeiter a h
def JU{a:Int}{t u v:Tok}{c:Nat}(I:Inv X y3 U H s)(h1:-(2^62)<=lo)(i:lo<2^62)(h:-(2^62)<=a)(g:a<2^62)(q:R (X1 lo (a-lo).toNat) H):wpAny (model X.prog X.w) X.A (pyIter (.ref s.heap.objs.size)) (QW X y3 U tg R) E {s with heap:=s.heap.push {cls:=.type "range",data:=.fields #[.int lo t,.int a u,.int 1 v]},toks:=c}:=by
 refine wpAny_pyIter_range (IsRange.new ..) (small_one h1 i h g) ?_;have d:Inv X y3 U H {s with heap:=s.heap.push {cls:=.type "range",data:=.fields #[.int lo t,.int a u,.int 1 v]},toks:=c}:=I.kept λb o e=>Af _ e
 refine⟨(s.heap.push {cls:=.type "range",data:=.fields #[.int lo t,.int a u,.int 1 v]}).objs.size,[(s.heap.push {cls:=.type "range",data:=.fields #[.int lo t,.int a u,.int 1 v]}).objs.size],_,_,H,rfl,
  d.kept (t':=c) λb o e=>Af _ e,BE _ lo (a-lo).toNat,?_,λb f=>?_,q⟩
 .have k:lo+((0:Nat):Int)*1=lo:=by simp
  have j:(((a-lo).toNat:Nat):Int)-((0:Nat):Int)=Builtin.Range.rangeSize lo a 1:=by rw[rangeSize_one];split<;>omega
  show IsRangeIter _ _ (lo+((0:Nat):Int)*1) ((((a-lo).toNat:Nat):Int)-((0:Nat):Int)) 1
  rw[k,j];exact Au _ rfl
 .have e:b=(s.heap.push {cls:=.type "range",data:=.fields #[.int lo t,.int a u,.int 1 v]}).objs.size:=by simpa using f
  subst e;exact d.YV (Ah _) (d.Z4.fresh (Ah _))
def CP(K:PassesOwn (model X.prog X.w) X.A X.env X.xe)(hc:fE X)(hi:VO X tg iter wi)(hg:PG X tg g)(c:YL X body tb)(hs:∀x,foldedSetIterable iter X.env x=pure x:=by intro _;rfl):PS X (.For tg iter body [] pos) (PQ wi g tb):=by
 intro y s U H D I h;refine wpAny_For (Z1 (hi y s U H _ I h) λv s1 h1=>Z1 h1 λa1 s2 h2=>?_) hs;obtain⟨it,M,tn,J,H2,e,I2,T,R,f2,W,⟨m0,w0⟩,B⟩:=h2;subst e
 -- what stays true of the iterator's objects through the loop
 have a:∀ {q:Hp},(∀b∈M,q b=none)->∀b∈M,gA X y q b:=λhn b c=>⟨hn b c,(f2 b c).2⟩
 refine codeAny_forLoop_any (λn s'=>∃i P q,Inv X y P q s'/\tn i s'.heap/\(∀b∈M,q b=none)/\W i n P q) ?_ m0 ⟨0,U,H2,I2,R,λb c=>(f2 b c).1,w0⟩;rintro n s3 ⟨i,O,Q,I3,F,L,w3⟩;rcases B i n O Q w3 with⟨C,qn⟩|⟨go,N,hN,E⟩
 .refine Dv K (Z1 (T.done X rfl rfl rfl hc i y s3 O Q X.xe I3 (a L) F C) λr s4 ⟨V,I4⟩=>?_);subst V;exact Ii ⟨O,Q,I4,qn⟩
 .refine Dv K (Z1 (T.item X rfl rfl rfl hc i y s3 O Q X.xe I3 (a L) F go) λr s4 ⟨u,V,h4⟩=>?_);subst V;refine Dv K (Z1 h4 λ_ s5 μ=>?_);obtain⟨x,H5,I5,r5,y5,z,Y⟩:=μ;have Z:=I5.pinned (a Y) (T.obj _ _ z)
  refine Dv K (Z1 (hg _ s5 O H5 x u _ Z r5 (E x H5 y5)) λ_ s6 μ=>?_);obtain⟨U6,H6,I6,q6⟩:=μ;refine Dv K (Z1 (c _ s6 U6 H6 _ I6 q6) λf S t=>?_);have j:∀ {k:St} {p:Hp},Inv X (y++kE M s5.heap) k p S->N k p->∃m,m<n/\∃i P q,Inv X y P q S/\tn i S.heap/\(∀b∈M,q b=none)/\W i m P q:=fun {k p} l G=>by
   obtain⟨m',hm,w7⟩:=hN k p G;refine⟨m',hm,i+1,k,p,l.ZL,T.keep _ _ _ z λb c o e=>(l.pin (b,o) (Bd _ (Bd _ (dU c e)))).1,λb c=>?_,w7⟩;obtain⟨o,e,d⟩:=T.obj _ _ z b c;exact(l.pin (b,o) (Bd _ (Bd _ (dU c e)))).2.1
  cases f with
  |next=>obtain⟨k,p,l,G⟩:=t;exact j l G
  |cont=>obtain⟨k,p,l,G⟩:=t;exact j l G
  |brk=>obtain⟨k,p,l,t⟩:=t;exact⟨k,p,l.ZL,t⟩
  |ret v=>obtain⟨x7,k,p,l,r7,t⟩:=t;exact⟨x7,k,p,l.ZL,r7,t⟩
section
variable {l a b:Expr} {ta tb:TE} {p:Pos}
def mK(k:PE X l tl):VO X tg l (Tq X.K tl):=by
 intro f s U H R I h;refine Z1 (k f s U H _ I h) λv c ⟨x,n,d,g,i⟩=>?_;obtain⟨a,rfl,q⟩:=Pj i;cases g;unfold Yx at q;split at q
 .rename_i r e
  obtain⟨j,u,p,w⟩:=d.list (bD e);refine Fb p.isList ?_;refine⟨c.heap.objs.size,[c.heap.objs.size],_,_,n,rfl,d.kept (t':=c.toks) λb o e=>Af _ e,FD a _,⟨_,Au _ rfl,rfl,rfl⟩,λb m=>?_,q⟩;have e:b=c.heap.objs.size:=by simp_all
  subst e;exact d.YV (Ah _) (d.Z4.fresh (Ah _))
 .exact q.elim
def DB{f:TA}(o:Gl X "range")(n:X.mg "range"=none)(u:PA X [a,b] f)(hs:starEach [a,b] X.env=[(false,eval a X.env),(false,eval b X.env)]:=by rfl)(c:starEach [b] X.env=[(false,eval b X.env)]:=by rfl):VO X tg (.Call (.Name "range" p) [a,b] [] pos) (TN f):=by
 intro g s U H R I h;refine Call_ (iZ I o n boot_range (Dz (Z1 (u pos g s U H _ I h) λB D μ=>?_) (by rw[hs,c]) (by rw[c];rfl)));obtain⟨A,E,z,k,m⟩:=μ
 obtain⟨i,j,e,⟨y,x,w,v⟩,q⟩:=RB m;subst e;cases k with
 |cons r d=>
  cases d with
  |cons l d=>
   cases d;obtain⟨t,rfl⟩:=r;obtain⟨C,rfl⟩:=l;exact call_range_2 (JU z y x w v q)
def T2{a:TS}(b:PassesOwn (model X.prog X.w) X.A X.env X.xe)(e:fE X)(c:VO X tg iter wi)(d:PG X tg g)(f:YL X body a)(hs:∀x,foldedSetIterable iter X.env x=pure x:=by intro _;rfl):PS X (.For tg iter body [] pos) (Tb wi g a):=CP  b e c d f hs
end
def Z7.FJ{v:Option Value}(r:Z7 k A):(A.mark v).units+1<cLine:=r.u1
def Z7.Xl{v:Option Value}(r:Z7 k A):(A.mark v).units+64<cLine:=r.units
def Z7.WT{v:Option Value}(r:Z7 k A):(A.mark v).units<cLine:=r.YU
def KH(d:fE X):ZW X (.builtin "min") Vn:=by
 intro e s U H f h Q I r q;obtain⟨o,c,b,_⟩:=I.soft d;unfold Vn at q;split at q
 .rename_i i j
  obtain⟨u,g,rfl,⟨t,rfl⟩,⟨m,rfl⟩⟩:=tQ r;refine Mx c b λn l k=>⟨_,H,I.kept k,?_,q⟩;by_cases a:j<i
  .rw[if_pos a,if_pos a];exact⟨_,rfl⟩
  .rw[if_neg a,if_neg a];exact⟨_,rfl⟩
 simp_all
structure Yw (P:Program) (w:World) (K:W.Frag) (mg:Str->Option Value) (base:Heap) (k:Nat) (f:Addr) (fd:FuncData) (ps:List Str) (sp:Sp):Prop where
 len:∀vs H Q E,sp vs H Q E->vs.length=ps.length
 run:∀(B:Around) (ea:Addr) (outer:List Env) (s:Shared) (H:Hp) (args:Args) (us:List Value) (vs:List V) (Q:VK),Z7 k B->ZA s H ea->YD P w K mg base B outer s H->BindsTo s fd args (ps.zip us)->Vals vs us->sp vs H Q E0->
  codeAny (model P w) (B.mark (some (.ref ea))) (.call (.ref f) args) (CR ZP outer P w H s Q E0) s
def dW{E:XK}(h:ZA s H ea):fE ((fL CX P w K mg base N qual scope f cd B outer s H E).ZH pn ea):=
 ⟨ea,rfl,h,by simp[fL]⟩
def ZR.SK(F:ZR K x qual st f fd)(S:Z9 N ps (aK st))(j:∀d H Q E,sp d H Q E->d.length=ps.length)(h:∀c B i a s H d Q,Z7 k (B.deeper (envOfC qual (aK st) s.heap.objs.size f c))->ZA s H i->sp d H Q E0->
 ∃t,YL ((fL ZP P w K mg base N qual (aK st) f c B a s H E0).ZH [] i) (fR st) t/\t {nx:=λ_ p=>Q .non p,rt:=Q} (jH N d) H):Yw P w K mg base (k+1) f fd ps sp:=by
 obtain⟨oc,od,kV,a2,pm,an,c,ct,Y,rfl,lk,G⟩:=F.ex;refine⟨j,λB i a s H L O d Q D C m hb r l=>?_⟩;have hl:=j _ _ _ _ l
 have M:=m.mod.Xs.keeps λb o e=>(m.bs b o e).1
 have Z:=m.mod.nolimit.keeps λb o e=>(m.bs b o e).1
 have g:∀y∈ps.zip O,(aK st).names.lookup y.1=some .local\/((aK st).names.lookup y.1=some .cell/\((cellsFrom (s.heap.objs.size+1) (aK st).names []).lookup y.1).isSome=true):=λ⟨n,v⟩ hy=>
  (S.par n (Er hy).1).elim .inl λq=>.inr ⟨q,Iw _ _ _ (.inl q)⟩
 refine codeAny_call_function (show (B.mark (some (.ref i))).depth<recursionLimit from D.depth) (M _ _ lk) rfl S.co S.gen rfl (W.codeRec_of M G) (hb _ _ _ _ ?_);refine wpAny_newFunctionEnv_cells S.kind g λa1 he R x=>?_;subst he;refine⟨Z.keeps x.toInCall.keep,codeAny_func ?_⟩;obtain⟨t,ht,hq⟩:=h c B i a s H d Q (D.deeper _) C l;have I:=(Oq (CX:=ZP) (E:=E0) S D.hd m hl r x).ZH i
 refine Cf (ht [] R (jH N d) H _ I hq) (λfl T A=>?_) λe T z=>False.elim z;cases fl with
 |ret u=>
  obtain⟨v,U',p,J,X,q⟩:=A;exact⟨v,p,J.os,J.bare,J.base,J.Z4,X,q⟩
 |next=>
  obtain⟨U',p,J,q⟩:=A;exact⟨V.non,p,J.os,J.bare,J.base,J.Z4,rfl,q⟩
 |brk=>
  obtain⟨_,_,_,q⟩:=A;exact False.elim q
 |cont=>
  obtain⟨_,_,_,q⟩:=A;exact False.elim q
def VQ(P:Program)(w:World)(K:W.Frag)(b:Str->Option Value)(a:Heap)(k:Nat)(x:Str)(ps:List Str)(sp:Sp):Prop:=
 ∃f c,Yw P w K b a k f c ps sp/\b x=some (.ref f)/\W.keepIn K (.ref f)=true/\Binds K c ps []
def NZ(X:Cx)(b:Addr):Prop:=∀a (U:St) H s,Inv X a U H s->ZA s H b
def A3{E:XK}(h:ZA s H ea):NZ ((fL CX P w K mg base N qual scope f cd B outer s H E).ZH pn ea) ea:=λa U c b I=>I.XY h (by simp[fL])
section
variable {k:Nat} {p:Pos} {t:TA}
def G9(c:VQ X.prog X.w X.K X.mg X.base k x ps sp)(C:NZ (X.ZH pn ea) ea)(D:Z7 k' X.A)(J:k<=k')(L:Gl (X.ZH pn ea) x)(O:PA (X.ZH pn ea) (e::es) t)(v:(x==("__debug__" : Str))=false:=by decide)(M:starEach (e::es) (X.ZH pn ea).env=(false,eval e (X.ZH pn ea).env)::starEach es (X.ZH pn ea).env:=by rfl)(n:(backTo pos (starEach es (X.ZH pn ea).env)).any (·.1)=false:=by rfl):PE (X.ZH pn ea) (.Call (.Name x p) (e::es) [] pos) (Vm sp [] E0 t):=by
 obtain⟨f,T,F,E,o,N⟩:=c;intro y s U H Q I h;refine Dt (eK I L E ?_ v);refine Ew (h₀:=X.base) I.ok.mod.Xs o (Z1 (O pos y s U H _ I h) λj l ⟨m,i,g,r,q⟩=>⟨g.ZK,?_⟩) M n;have z:sp m i Q E0:=by simp_all
 have G:(j++[]).length=ps.length:=by rw[Be,<-r.length];exact F.len _ _ _ _ z
 have d:=N l j g.ZK G
 rw[Be]at d;have a:=g.Ye
 have R:YD X.prog X.w X.K X.mg X.base X.A X.stack l i:=⟨a.frames,a.mod,a.bs,a.X7,a.Zr,a.Xx,a.Z4,a.bare⟩
 refine Fv (Dy (F.run X.A ea X.stack l i ⟨j,[]⟩ j m Q (D.mono J) (C y U i l g) R d r z) λB S b=>?_);cases B with
 |error e=>exact False.elim b
 |ok P=>
  cases P with
  |ret u=>exact g.after b
  |next=>exact False.elim b
  |brk=>exact False.elim b
  |cont=>exact False.elim b
end
def RT:V->List V->Hp->VK->Prop:=λx a H Q=>∃z y,x=.str z/\a=[.str y]/\Q (.int (Txt.find z y)) H
def Sn:X3 X "str.find" RT:=by
 intro d s U H x e v f Q I a b h;obtain⟨z,y,rfl,rfl,q⟩:=h;obtain⟨t,rfl⟩:=a;obtain⟨u,rfl,c⟩:=b.one;obtain⟨g,rfl⟩:=c;exact SC.find ⟨.int _,H,I.tok _,⟨_,rfl⟩,q⟩
def SX{y:Str}(h:Q (.int (Txt.find z y)) H):RT (.str z) [.str y] H Q:=⟨z,y,rfl,rfl,h⟩
def Uq(prog:Program)(w:World)(A:Around)(old:Heap)(S:Addr)(vs:List Value)(J:Nat->Obj->Prop):Prop:=
 ∀i v s o (E:Q2) Q,vs[i]?=some v->(∀b u,old.get? b=some u->s.heap.get? b=some u)->s.heap.get? S=some o->J i o->
  (∀c a e d,Heap.SameBut S s.heap a->a.get? S=some d->J (i+1) d->Q c {s with heap:=a,toks:=e})->wpAny (model prog w) A (setAdd S v) Q E s
section
variable {R:Result->Shared->Prop}
def zM(h:wpAny (model prog w) A.in1 (Builtin.«set.update.loop» ⟨[.ref S,.ref it],[]⟩) (λb a=>match b with|.done f=>R (.ok f) a|.again c=>c.quiet=true/\codeAny (model prog w) A c R a) (λe a=>R (.error e) a) s):codeAny (model prog w) A (.builtin "set.update.loop" ⟨[.ref S,.ref it],[]⟩) R s:=by
 refine Et PyProof.Rows.F.entry_set_update_loop (by rwa[Ef PyProof.Rows.F.plain_set_update_loop])
end
noncomputable def bare(a:Bool):Obj:={cls:=.type "set",dict:=none,data:=.set #[] 0 (.fresh 0 0 a)}
def TB:List V->Hp->VK->Prop:=λa H Q=>(∃j,a=[.int j]/\∀r,H r=none->Q (.ref r) (upd H r (.rng 0 j)))\/(∃i j,a=[.int i,.int j]/\∀r,H r=none->Q (.ref r) (upd H r (.rng i j)))
def Inv.Xi{t u v:Tok}{a:Nat}(I:Inv X y3 U H s):Inv X y3 U (upd H s.heap.objs.size (.rng lo c)) {s with heap:=s.heap.push {cls:=.type "range",data:=.fields #[.int lo t,.int c u,.int 1 v]},toks:=a}:=
 (I.kept  λb o e=>Af _ e).adopt (I.Yz (Ah _)) (I.Z4.fresh (Ah _)) ⟨t,u,v,Au _ rfl⟩
def Rn:ZW X (.type "range") TB:=by
 intro a s U H b d Q I r h;rcases h with⟨j,rfl,q⟩|⟨i,j,rfl,q⟩
 .obtain⟨u,rfl,⟨t,rfl⟩⟩:=dI r;exact call_range_1 ⟨.ref _,_,I.Xi,rfl,q _ (I.Z4.fresh (Ah _))⟩
 .obtain⟨u,c,rfl,⟨t,rfl⟩,⟨e,rfl⟩⟩:=tQ r;exact call_range_2 ⟨.ref _,_,I.Xi,rfl,q _ (I.Z4.fresh (Ah _))⟩
def CD{j:Int}(h:∀r,H r=none->Q (.ref r) (upd H r (.rng 0 j))):TB [.int j] H Q:=.inl ⟨j,rfl,h⟩
def MB{i j:Int}(h:∀r,H r=none->Q (.ref r) (upd H r (.rng i j))):TB [.int i,.int j] H Q:=.inr ⟨i,j,rfl,h⟩
def FP(a b i:Int):(Builtin.Range.rangePlace? a b 1 i).isSome=decide (a<=i/\i<b):=by
 unfold Builtin.Range.rangePlace?;grind
def RI:V->V->Hp->VK->Prop:=λx y H Q=>∃i p a b,x=.int i/\y=.ref p/\H p=some (.rng a b)/\Q (.bl (!decide (a<=i/\i<b))) H
def Qt:ZN X (compareOp .NotIn) RI:=by
 intro m s U H x y v u Q I k j h;obtain⟨i,p,c,d,rfl,rfl,l,q⟩:=h;obtain⟨t,rfl⟩:=k;cases j;obtain⟨g,f,e,a⟩:=I.Z4 p _ l;have b:s.TypeIs (.ref p) "range" := ⟨_,a,rfl⟩
 show wpAny _ _ (do return Value.bool (!(<-contains (.ref p) (.int i t)))) _ _ s
 refine Ac ?_;unfold contains;try with_reducible refine Cb ?_
 refine Ac (Fw b F.slot_range_contains.lookup ?_);show wpAny _ _ (if (some (Value.builtin "range.__contains__")==some Value.none)=true then _ else _) _ _ s
 rw[if_neg (by grind)]
 refine Ac (wpAny_callSpecialUnlessNone?_slot (name:=Str.ofString "__contains__") b F.slot_range_contains
  (Dj F.slot_range_contains b F.entry_range_contains ?_ (F.args_range_contains_2 _ _)))
 unfold Builtin.«range.__contains__»;show wpAny _ _ (rule _ >>= _) _ _ s
 refine Ac (wpAny_rule (Ac ?_));unfold Builtin.Range.rangeFields;refine Ac (Ee (x:=.int c g) a rfl rfl ?_);refine Ac (Ag (Ac (Ee (x:=.int d f) a rfl rfl ?_)));refine Ac (Ag (Ac (Ee (x:=.int 1 e) a rfl rfl ?_)));refine Ac (Ag (Ag ?_));show wpAny _ _ (ret (Value.bool (Builtin.Range.rangePlace? c d 1 i).isSome)) _ _ s
 rw[FP];exact Ag ⟨_,rfl,Gh (Ag ⟨.bl _,H,I,rfl,q⟩)⟩
def Oa{i a:Int}{p:Addr}(e:H p=some (.rng lo a))(h:Q (.bl (!decide (lo<=i/\i<a))) H):RI (.int i) (.ref p) H Q:=⟨i,p,lo,a,rfl,rfl,e,h⟩
theorem N1(sp:Nat->Sp)(c:∀a H Q E,¬sp 0 a H Q E)(e:mg x=some (.ref f))(g:W.keepIn K (.ref f)=true)(i:Binds K fd ps [])(st:∀d n,ZJ P w K mg base (d+1) x ps (sp n)->Z6 P w K mg base ZP (d+2) f fd ps (sp (n+1))):∀n,Z6 P w K mg base ZP (n+1) f fd ps (sp n)
 |0=>⟨λa H Q E h=>(c _ _ _ _ h).elim,λA b s H j k a Q E _ _ _ _ h=>(c _ _ _ _ h).elim⟩
 |n+1=>st n n ⟨f,fd,N1 sp c e g i st n,e,g,i⟩
def ZQ.app{ps c:List Addr}{d:List (List V)}(t:ZQ H1 Hc ps fs)(u:ZQ H1 Hc c d):ZQ H1 Hc (ps++c) (fs++d):=by
 refine⟨by rw[Ak,Ak,t.1,u.1],λj p v b a=>?_⟩
 by_cases h:j<ps.length
 .rw[Ay h]at b;rw[Ay (by rwa[<-t.1])]at a
  exact t.2 j p v b a
 .rw[Ba (by omega)]at b
  rw[Ba (by rw[<-t.1];omega),<-t.1]at a
  exact u.2 _ p v b a
def Nn(f:Nat->List V)(F:Z2 H1 a=some xs)(N:xs.length<sizeLine)(hs:∀i x d A (B:Hp->Prop),xs[i]?=some x->Z_ H1 d->(∀q k,d q=none->Z_ d k->k q=some (.lst (f i))->A (.ref q) k)->
 g x U0 d λI P=>Wk U0 I/\tests I P λb J=>if b=true then te I J A else B J)(G:∀D k c,H1 D=none->Z_ H1 k->k D=some (.lst (c.map V.ref))->c.length=xs.length->ZQ H1 k c ((List.range xs.length).map f)->(∀p∈c,p≠D)->Q (.ref D) k):dQ g tests te U0 Q (Xd K a) H1:=by
 refine iB (n:=xs.length) (λD i m d=>Z_ H1 d/\∃c,m=c.map V.ref/\c.length=i/\ZQ H1 d c ((List.range i).map f)/\∀p∈c,p≠D) N (λD s=>⟨aG s _,[],rfl,rfl,.nil,λp y=>nomatch y⟩)
  (λD i m d _ r h=>⟨xs,xs[i],bD (aM r.1 F),by simp[h]⟩) (λD m d _ r=>⟨xs,bD (aM r.1 F),Nat.le_refl _⟩) ?_ ?_
 .rintro D i m d x R A B s S ⟨l,c,rfl,C,v,u⟩ j ⟨rfl,M⟩ E T;refine hs i x R A B (M xs (bD (aM l F))) l (λq k w t O=>?_);have L:q≠D:=λz=>by rw[z,j]at w;cases w
  have o:∀p∈c++[q],p≠D:=λp y=>by
   rcases Bs.mp y with e|e
   .exact u p e
   .rw[Aj.mp e];exact L
  refine E _ _ (t _ _ j) ⟨bL s (l.trans t),c++[q],by rw[Aw];rfl,by rw[Ak,C];rfl,?_,o⟩
  rw[Bx,Aw];exact((v.keep t).snoc (none_of l w) O).put o
 .rintro D m d s ⟨l,c,rfl,C,v,u⟩ j _;exact G D d c s l j C v u
def LR(f:Nat->Option V)(u:n<sizeLine)(hs:∀i c A (B:Hp->Prop),i<n->Z_ H1 c->(∀y,f i=some y->∀a,Z_ c a->A y a)->(f i=none->∀a,Z_ c a->B a)->
 g (.int (lo+i)) U0 c λp z=>Wk U0 p/\tests p z λb q=>if b=true then te p q A else B q)(o:∀D a,H1 D=none->Z_ H1 a->a D=some (.lst ((List.range n).filterMap f))->Q (.ref D) a):dQ g tests te U0 Q (X1 lo n) H1:=by
 refine iB (n:=n) (λD i e c=>Z_ H1 c/\e=(List.range i).filterMap f) u (λD l=>⟨aG l _,rfl⟩) (λD i e c _ r h=>h) (λD e c _ r=>Ah n) ?_ ?_
 .rintro D i e c x C A B l v ⟨j,rfl⟩ d ⟨rfl,rfl⟩ m w;refine hs i C A B v j (λy s a k=>?_) (λt a k=>?_)
  .exact m _ _ (k _ _ d) ⟨bL l (j.trans k),(fS s).symm⟩
  .exact w _ (k _ _ d) ⟨j.trans k,(jF t).symm⟩
 simp_all
section
open PySem
noncomputable def X8(t:SetTable)(p:SetTable.Probe):Nat->SetTable.Probe
 |0=>p
 |n+1=>X8 t (t.advance p) n
theorem Rw(t:SetTable)(m:Nat):∀n p,X8 t p (n+m)=X8 t (X8 t p n) m
 |0,p=>by rw[Hw];rfl
 |n+1,p=>by rw[Nat.succ_add];exact Rw t m n _
def xR(t:SetTable)(p:SetTable.Probe):(t.advance p).dummy=p.dummy:=by
 unfold SetTable.advance;split<;>rfl
noncomputable def yS(a i b:Nat)(d:Option Nat):SetTable.Probe:={j:=i,more:=SetTable.runEnd a i-i,i:=i,perturb:=b,dummy:=d}
theorem RU(t:SetTable):∀k p,p.more=k->X8 t p (k+1)=yS t.mask (SetTable.leap t.mask p.i p.perturb).1 (SetTable.leap t.mask p.i p.perturb).2 p.dummy
 |0,p,h=>by
  show t.advance p=_
  unfold SetTable.advance;rw[if_neg (by omega)]
  rfl
 |k+1,p,h=>by
  show X8 t (t.advance p) (k+1)=_
  have e:t.advance p={p with j:=p.j+1,more:=p.more-1}:=by
   unfold SetTable.advance;simp_all
  rw[e,RU t k _ (by grind)]
def CK(a i:Nat):SetTable.runEnd a i-i<=9:=by
 unfold SetTable.runEnd;grind
noncomputable def eX(a:Nat)(x:Nat×Nat):Nat->Nat×Nat
 |0=>x
 |n+1=>eX a (SetTable.leap a x.1 x.2) n
theorem zB(a m:Nat):∀n x,eX a x (n+m)=eX a (eX a x n) m
 |0,x=>by rw[Hw];rfl
 |n+1,x=>by rw[Nat.succ_add];exact zB a m n _
theorem yZ(t:SetTable)(d:Option Nat):∀m i a,∃c,c<=10*m/\X8 t (yS t.mask i a d) c=yS t.mask (eX t.mask (i,a) m).1 (eX t.mask (i,a) m).2 d
 |0,i,a=>⟨0,Ah _,rfl⟩
 |m+1,i,a=>by
  obtain⟨c,b,e⟩:=yZ t d m (SetTable.leap t.mask i a).1 (SetTable.leap t.mask i a).2;refine⟨(SetTable.runEnd t.mask i-i+1)+c,?_,?_⟩
  .have:=CK t.mask i;omega
  .rwa[Rw,RU t (SetTable.runEnd t.mask i-i) _ rfl]
theorem yX(a:Nat):∀n x,(eX a x n).2=x.2 / 32^n
 |0,x=>by show x.2=x.2 / 1;rw[Nat.div_one]
 |n+1,x=>by
  show (eX a _ n).2=_
  rw[yX a n];show x.2 / 32 / 32^n=_
  rw[Nat.div_div_eq_div_mul,Nat.pow_succ,Nat.mul_comm]
noncomputable def XH(M:Nat):Nat->Nat
 |0=>0
 |n+1=>(XH M n*5+1)%M
theorem sM(b:Nat):∀n a,(eX b (XH (b+1) a,0) n)=(XH (b+1) (a+n),0)
 |0,a=>rfl
 |n+1,a=>by
  show eX b (SetTable.leap b (XH (b+1) a) 0) n=_
  have e:SetTable.leap b (XH (b+1) a) 0=(XH (b+1) (a+1),0):=by
   rfl
  rw[e,sM b n _,Nat.add_right_comm,Nat.add_assoc]
def Full(M:Nat):Prop:=XH M M=0/\∀e,e<M->∃n,n<M/\XH M n=e
theorem OR(M:Nat)(h:XH M M=0):∀n,XH M (M+n)=XH M n
 |0=>h
 |n+1=>by
  show (XH M (M+n)*5+1)%M=_
  rw[OR M h n];rfl
def Full.reach(F:Full (mask+1)){x e:Nat}(c:x<mask+1)(d:e<mask+1):∃m,m<=mask/\(eX mask (x,0) m).1=e:=by
 obtain⟨a,g,rfl⟩:=F.2 x c;obtain⟨b,f,rfl⟩:=F.2 e d;by_cases h:a<=b
 .exact⟨b-a,by omega,by rw[sM,Nat.add_sub_cancel' h]⟩
 .exact⟨mask+1+b-a,by omega,by rw[sM,show a+_=mask+1+b by omega,OR _ F.1]⟩
def SY{M:Nat}(L:List Nat)(b:XH M M=0)(h:(List.range M).all (λe=>decide (L.getD e 0<M)&&XH M (L.getD e 0)==e)=true):Full M:=by
 refine⟨b,λe a=>⟨L.getD e 0,?_⟩⟩;simp_all
def Lg:Full 8:=SY [0,1,6,7,4,5,2,3] (by right) (by right)
def Kn:Full 32:=SY [0,1,6,15,28,13,2,27,24,25,30,7,20,5,26,19,16,17,22,31,12,29,18,11,8,9,14,23,4,21,10,3] (by right) (by right)
def CZ:Full 128:=SY [0,1,70,111,28,109,2,123,120,25,126,71,20,5,58,83,112,49,54,31,12,29,114,43,104,73,110,119,4,53,42,3,96,97,38,79,124,77,98,91,88,121,94,39,116,101,26,51,80,17,22,127,108,125,82,11,72,41,78,87,100,21,10,99,64,65,6,47,92,45,66,59,56,89,62,7,84,69,122,19,48,113,118,95,76,93,50,107,40,9,46,55,68,117,106,67,32,33,102,15,60,13,34,27,24,57,30,103,52,37,90,115,16,81,86,63,44,61,18,75,8,105,14,23,36,85,74,35] (by right) (by right)
theorem RQ:∀n {x:Nat×Nat},x.1<mask+1->(eX mask x n).1<mask+1
 |0,x,h=>h
 |n+1,x,h=>RQ n  (Nat.mod_lt _ (Jo _))
def P2(F:Full (mask+1)){a e:Nat}(d:i<mask+1)(c:a<2^64)(f:e<mask+1):∃m,m<=mask+13/\(eX mask (i,a) m).1=e:=by
 obtain⟨m,h,g⟩:=F.reach (x:=(eX mask (i,a) 13).1) (RQ 13 d) f;refine⟨13+m,by omega,?_⟩
 rw[zB];have b:(eX mask (i,a) 13).2=0:=by
  rw[yX];exact Nat.div_eq_of_lt (Bi c (by decide))
 grind
def Qz(h:Int):SetTable.bits h<2^64:=by
 unfold SetTable.bits;grind
theorem wM:∀n (l:List Nat),l.length<n->∃e,e<n/\e∉l
 |n+1,l,h=>by
  by_cases a:n∈l
  .have d:=List.length_erase_of_mem a
   have c:=List.length_pos_of_mem a
   obtain⟨e,f,b⟩:=wM n (l.erase n) (by omega)
   grind
  .exact⟨n,Ej _,a⟩
def M7{t:SetTable}(a:t.dummies=#[]){e:Nat}(h:e∉t.place.toList):t.slot e=.empty:=by
 unfold SetTable.slot;have c:(t.place[SetTable.below t.place e]? == some e)=false:=by
  rw[Cs];intro z;exact h (Fm.mpr (Hi z))
 have b:SetTable.has t.dummies e=false:=by rw[a];rfl
 simp_all
def HD{t:SetTable}(h:t.slot j=.live i):i<t.place.size:=by
 unfold SetTable.slot at h;grind
def vX{t:SetTable}(a:t.dummies=#[]):t.slot j≠.dummy:=by
 unfold SetTable.slot;have b:SetTable.has t.dummies j=false:=by rw[a];rfl
 grind
theorem OM{f:Nat->Int}{h:Int}(d:t.dummies=#[])(c:∀i,i<t.place.size->f i≠h):∀a p,p.dummy=none->(∃n,n<a/\t.slot (X8 t p n).j=.empty)->∃j,SetTable.probe.go t f h a p=some (.empty j none)
 |0,p,_,⟨n,hn,_⟩=>by omega
 |a+1,p,hp,⟨n,hn,he⟩=>by
  unfold SetTable.probe.go;cases b:t.slot p.j with
  |empty=>exact⟨p.j,by rw[hp]⟩
  |dummy=>exact absurd b (vX d)
  |live i=>
   have e:=c i (HD b)
   simp only;rw[if_neg (by rw[Fu];exact e)]
   cases n with
   |zero=>
    have:t.slot p.j=.empty:=he
    grind
   |succ n=>exact OM d c a (t.advance p) ((xR t p).trans hp) ⟨n,by omega,he⟩
def sW{t:SetTable}{f:Nat->Int}{h:Int}(F:Full (t.mask+1))(b:t.dummies=#[])(hs:t.place.size<=t.mask)(d:∀i,i<t.place.size->f i≠h):∃j,t.probe f h (t.probeStart h)=some (.empty j none):=by
 obtain⟨e,g,a⟩:=wM (t.mask+1) t.place.toList (by rw[Bk];omega)
 obtain⟨m,n,l⟩:=P2 F (i:=SetTable.bits h%(t.mask+1)) (Nat.mod_lt _ (Jo _)) (Qz h) g;obtain⟨c,o,k⟩:=yZ t none m (SetTable.bits h%(t.mask+1)) (SetTable.bits h);refine OM b d (10*SetTable.turns t.mask) (t.probeStart h) rfl ⟨c,?_,?_⟩
 .unfold SetTable.turns;omega
 .show t.slot (X8 t (yS t.mask (SetTable.bits h%(t.mask+1)) (SetTable.bits h) none) c).j=_
  rw[k];show t.slot (eX t.mask _ m).1=_
  rw[l];exact M7 b a
theorem yV:∀a i b,(∃m,m<a/\owner.getD (eX mask (i,b) m).1 (some 0)=none)->∃j,SetTable.layClean.free mask owner a i b=some j/\owner.getD j (some 0)=none
 |0,i,b,⟨m,h,_⟩=>by omega
 |a+1,i,b,⟨m,hm,he⟩=>by
  unfold SetTable.layClean.free;cases c:(List.range (SetTable.runEnd mask i+1-i)).find? λk=>(owner.getD (i+k) (some 0)).isNone with
  |some k=>
   simp_all
  |none=>
   cases m with
   |zero=>
    have d:=List.find?_eq_none.mp c 0 (Bh.mpr (by unfold SetTable.runEnd;split<;>omega))
    rw[Nat.add_zero]at d;exact absurd (Option.isNone_iff_eq_none.mpr he) d
   |succ m=>
    exact yV a _ _ ⟨m,by omega,he⟩
noncomputable def qC(owner:Array (Option Nat)):Nat:=owner.toList.countP (·.isSome)
def IU(h:qC owner<owner.size):∃e,e<owner.size/\owner.getD e (some 0)=none:=by
 unfold qC at h;have f:¬ ∀x∈owner.toList,(x.isSome)=true:=λz=>by
  rw[List.countP_eq_length.mpr z,Bk]at h;omega
 have d:∃x∈owner.toList,¬x.isSome=true:=by
  exact Classical.byContradiction λz=>f λx a=>Classical.byContradiction λy=>z ⟨x,a,y⟩
 obtain⟨x,a,c⟩:=d;obtain⟨e,b,g⟩:=Ct.mp a;rw[Bk]at b;refine⟨e,b,?_⟩;simp_all
def C7(h:owner.getD j (some 0)=none):qC (owner.setIfInBounds j (some k))=qC owner+1:=by
 have a:j<owner.size:=by
  refine Hx λz=>?_;simp_all
 unfold qC;rw[Array.toList_setIfInBounds,List.countP_set (by omega)]
 simp_all
structure Laid (mask n:Nat) (owner:Array (Option Nat)):Prop where
 size:owner.size=mask+1
 many:qC owner=n
 low:∀j k,owner.getD j none=some k->k<n
 all:∀k,k<n->∃j,owner.getD j none=some k
def getD_none(h:owner.getD j (some 0)=none):j<owner.size/\owner.getD j none=none:=by grind
def uX(a:j<owner.size):(owner.setIfInBounds j (some k)).getD i none=if i=j then some k else owner.getD i none:=by
 rw[Am,Array.getElem?_setIfInBounds,Am];grind
def AY(F:Full (mask+1))(L:Laid mask n owner)(q:n<=mask)(h:Int):∃j,SetTable.layClean.free mask owner (SetTable.turns mask) (SetTable.bits h%(mask+1)) (SetTable.bits h)=some j/\Laid mask (n+1) (owner.setIfInBounds j (some n)):=by
 obtain⟨e,f,l⟩:=IU (owner:=owner) (by rw[L.many,L.size];omega)
 rw[L.size]at f;obtain⟨m,r,p⟩:=P2 F (i:=SetTable.bits h%(mask+1)) (Nat.mod_lt _ (Jo _)) (Qz h) f;obtain⟨j,o,g⟩:=yV (SetTable.turns mask) (SetTable.bits h%(mask+1)) (SetTable.bits h) ⟨m,by unfold SetTable.turns;omega,by rw[p];exact l⟩
 obtain⟨c,b⟩:=getD_none g;refine⟨j,o,by rw[Array.size_setIfInBounds];exact L.size,by rw[C7 g,L.many],λi k a=>?_,λk a=>?_⟩
 .rw[uX c]at a;split at a
  .cases a;omega
  .have:=L.low i k a
   omega
 .by_cases e:k=n
  .exact⟨j,by rw[uX c,if_pos rfl,e]⟩
  .obtain⟨i,d⟩:=L.all k (by omega)
   refine⟨i,?_⟩;rw[uX c,if_neg λz=>by simp_all]
   exact d
def DH(F:Full (mask+1))(p:hs.size<=mask+1):∃a,SetTable.layClean mask hs=some a/\Laid mask hs.size a:=by
 have d:∀ (l:List Int) a k,Laid mask k a->k+l.length<=mask+1->∃ o,l.foldl (λf h=>do
     let (a,k) <-f
     let j <-SetTable.layClean.free mask a (SetTable.turns mask) (SetTable.bits h%(mask+1)) (SetTable.bits h)
     pure (a.setIfInBounds j (some k),k+1)) (some (a,k))=some (o,k+l.length)/\Laid mask (k+l.length) o:=by
  intro l;induction l with
  |nil=>intro a k L _;exact⟨a,rfl,L⟩
  |cons h r g=>
   intro a k L b;rw[Az]at b;obtain⟨j,e,c⟩:=AY F L (by omega) h
   obtain⟨o,m,i⟩:=g _ _ c (by omega)
   refine⟨o,?_,by rw[Az,show k+(r.length+1)=k+1+r.length by omega];exact i⟩
   rw[List.foldl_cons,Az,show k+(r.length+1)=k+1+r.length by omega,<-m]
   refine Dk (λx=>r.foldl _ x) ?_;show (SetTable.layClean.free mask a (SetTable.turns mask) (SetTable.bits h%(mask+1)) (SetTable.bits h)).bind _=_
   rw[e];rfl
 have n:Laid mask 0 (Array.replicate (mask+1) none):=by
  refine⟨Array.size_replicate,?_,λj k b=>?_,λk b=>absurd b (Eu _)⟩
  .unfold qC;rw[Array.toList_replicate,List.countP_replicate];rfl
  .rw[Am,Array.getElem?_replicate]at b;split at b<;>cases b
 obtain⟨o,e,c⟩:=d hs.toList _ 0 n (by rw[Bk];omega)
 rw[Hw,Bk]at c;refine⟨o,?_,c⟩;unfold SetTable.layClean;rw[<-Array.foldl_toList,e];rfl
def O5(owner:Array (Option Nat))(n:Nat)(b:owner.size=n):((List.range n).filterMap λj=>(owner.getD j none).map (j,·)).length=qC owner:=by
 rw[List.length_filterMap_eq_countP];unfold qC;have e:owner.toList=(List.range n).map λj=>owner.getD j none:=by
  refine List.ext_getElem (by rw[Ab,Bw,Bk,b]) λi a c=>?_
  rw[El,Im,Am,Ar (by rw[Bk]at a;exact a)]
  rfl
 rw[e,List.countP_map];refine List.countP_congr λj _=>?_;simp_all
def iJ(xs:Array α)(p:Nat)(x:α):(SetTable.insertAt xs p x).size=xs.size+1:=by
 unfold SetTable.insertAt;grind
def xC{xs:Array α}{p:Nat}{x e:α}(h:e∈(SetTable.insertAt xs p x).toList):e=x\/e∈xs.toList:=by
 unfold SetTable.insertAt at h;rw[Ic,Array.toList_push,Gi]at h;rcases Bs.mp h with z|z
 .rw[Hq]at z;exact .inr (List.mem_of_mem_drop (Fo z))
 .rcases Bb.mp z with y|y
  .exact .inl y
  .rw[Hq]at y;exact .inr (List.mem_of_mem_drop (Fo y))
noncomputable def cJ(i:Nat):Nat:=if i<=4 then 7 else if i<=18 then 31 else 127
def rV(i:Nat):Full (cJ i+1)/\cJ i%2=1:=by
 unfold cJ;split
 .exact⟨Lg,rfl⟩
 .split
  .exact⟨Kn,rfl⟩
  .exact⟨CZ,rfl⟩
def A1{Q:Bool->Shared->Prop}(e:s.heap.get? a=some o)(i:o.cls=.type "tuple")(h:o.data=.seq items n)(g:∀v∈items.toList,∃k t,v=.int k t)(q:Q true s):wpAny (model prog w) A (hashByValue 8 (.ref a)) Q E s:=by
 rw[show (8:Nat)=7+1 from rfl];unfold hashByValue;have j:s.TypeIs (.ref a) "tuple" := ⟨o,e,i⟩
 refine Ac (Fw j PySem.F.slot_tuple_hash.lookup ?_);dsimp only;refine Ac (wpAny_seqItems e h ?_);rw[Option.getD_some,<-Array.forIn_toList];refine Ac (wpAny_forIn_list _ (λb r c=>r=(none,())/\c=s/\∀v∈b,∃k t,v=.int k t) _ ?_ ?_ _ _ ⟨rfl,rfl,g⟩)
 .rintro x b r c ⟨rfl,rfl,d⟩;obtain⟨k,t,rfl⟩:=d _ Al;rw[hashByValue_scannable 7 rfl];refine Ac (Ag ?_);exact Ag ⟨rfl,rfl,λv f=>d v (Ao _ f)⟩
 .rintro r c ⟨rfl,rfl,_⟩;exact Ag q
def nM{t:SetTable}(h1:t.place.size=n)(a:t.dummies=#[])(b:n<=t.mask):t.fits n=true:=by
 unfold SetTable.fits SetTable.fill;simp_all
def jN(h:i<=76):i<=cJ i:=by
 unfold cJ;grind
def Ut{es:Array (Int×Value)}{t:SetTable}(a:Array (Int×Value))(t':SetTable)(f:h.get? S=some o)(e:o.ExactSet)(d:o.data=.set es ep t):∃c,(h.update S (Obj.putSet a t')).get? S=some c/\c.ExactSet/\c.data=.set a (ep+1) t'/\Heap.SameBut S h (h.update S (Obj.putSet a t')):=by
 refine⟨{o with data:=.set a _ t'},?_,e,rfl,?_⟩
 .rw[<-putSet_of a t' d];exact Dx _ f (by rw[putSet_of a t' d];rfl)
 .exact⟨Heap.size_update ..,λb g=>Ck _ _ g.symm⟩
def Ov{t:SetTable}(h:t.mask=cJ i):Full (t.mask+1)/\t.mask%2=1:=by rw[h];exact rV i
noncomputable def Vr(a b:Int):Int:=reduceHash (Builtin.Tuple.tupleHashOf [hashInt a,hashInt b])
def zf:∀a b c d:_root_.Fin 8,Vr a.val b.val=Vr c.val d.val->a=c/\b=d:=by right
def Me{a b c d:Nat}(i:a<8)(g:b<8)(f:c<8)(e:d<8)(h:(a,b)≠(c,d)):Vr a b≠Vr c d:=λz=>by
 obtain⟨k,j⟩:=zf ⟨a,i⟩ ⟨b,g⟩ ⟨c,f⟩ ⟨d,e⟩ z;grind
def N4(a b:Int):tupleKeyHash (PySem.intKind prog w) [a,b]=Vr a b:=rfl
noncomputable def sY(ws:List (Nat×Nat)):List (List Int):=ws.map λw=>[(w.1:Int),(w.2:Int)]
def vN{w:Nat×Nat}(h:ws[i]?=some w):(sY ws).getD i []=[(w.1:Int),(w.2:Int)]:=by
 unfold sY;simp_all
def zk(c:∀w∈ws,w.1<8/\w.2<8)(f:ws.Nodup)(h:j<i)(b:i<ws.length):tupleKeyHash (PySem.intKind prog w) ((sY ws).getD j [])≠tupleKeyHash (PySem.intKind prog w) ((sY ws).getD i []):=by
 have a:j<ws.length:=by omega
 rw[vN (Aa a),vN (Aa b),N4,N4];have g:=By.mp f j i a b h
 have e:=c _ (Br a)
 have d:=c _ (Br b)
 exact Me e.1 e.2 d.1 d.2 g
end
section
open PySem.AutoSeq1 (wpAny_loadPart')
open PySem.MeetsSeq PySem.MeetsSeq2 PySem.MeetsSeq3
open PySem.W (KasT kas_sort kas_cmp kas_item kas_item_eq kas_range kas_runs kas_kind kas_st)
noncomputable def Wr(lt:Nat->Nat->Bool):KasT α->α
 |.ret a=>a
 |.ask i j k=>Wr lt (k (lt i j))
noncomputable def WL(lt:Nat->Nat->Bool)(n:Nat):KasT α->Bool
 |.ret _=>true
 |.ask i j k=>decide (i<n)&&decide (j<n)&&WL lt n (k (lt i j))
theorem Qy{a:Nat->Nat->_->Shared->Prop}{lt:Nat->Nat->Bool}{Q:α->Shared->Prop}(b:∀i j C,i<n->j<n->C (lt i j) s->a i j C s):∀t,WL lt n t=true->Q (Wr lt t) s->t.kasWp a Q s
 |.ret _,_,h=>h
 |.ask i j k,o,h=>by
  simp only[WL,Bool.and_eq_true,decide_eq_true_eq]at o;exact b i j _ o.1.1 o.1.2 (Qy b _ o.2 h)
noncomputable def gK(lt:Nat->Nat->Bool)(vs:List Value):List Value:=if vs.length<2 then vs else (Wr lt (kas_sort vs.length)).toList.map λi=>vs.getD i .none
noncomputable def V2(h:Heap)(a:Addr)(vs:List Value):Heap:=((h.update a (Obj.mapSeq λ_=>(#[]:Array Value))).push (seqObj "tuple" vs.toArray 0)).push (seqObj "list" #[] 0)
def LF(c:b≠a)(e:h.get? b=some o):(V2 h a vs).get? b=some o:=
 Af _ (Af _ (((Dw h a _).2 b c).trans e))
def zv(e:h.get? a=some (seqObj "list" vs.toArray n)):∃c,(h.update a (Obj.mapSeq λ_=>(#[]:Array Value))).get? a=some (seqObj "list" #[] c)/\(V2 h a vs).get? a=some (seqObj "list" #[] c):=
 ⟨_,get?_update_seq e λ_=>#[],Af _ (Af _ (get?_update_seq e λ_=>#[]))⟩
def CU{p:Array Nat}(a:¬vs.length<2)(e:p=Wr lt (kas_sort vs.length))(z:p.size=vs.length):(gK lt vs).length=vs.length/\gK lt vs=p.toList.map λi=>vs.getD i .none:=by
 unfold gK;rw[if_neg a,<-e];grind
def GL(vs:List Value):(vs.toArray.zip vs.toArray).map (·.2)=vs.toArray:=Array.toList_inj.mp (by simp[List.map_snd_zip])
def FV(vs:List Value)(p:Array Nat):(p.map (kas_item (pairsOf vs))).map (·.2)=(p.toList.map λi=>vs.getD i .none).toArray:=by
 cases p with
 |mk l=>simp only[List.map_toArray,List.map_map];congr 1;exact List.map_congr_left λi _=>congrArg Prod.snd (kas_item_eq vs i)
theorem zU:∀ {a:List Addr} {b:List Value},Vals (a.map V.ref) b->b=a.map Value.ref
 |[],_,.nil=>rfl
 |p::a,_,.cons r t=>by cases r;rw[zU t];rfl
theorem zH(f:α->Addr):∀l:List α,Vals (l.map λi=>V.ref (f i)) (l.map λi=>Value.ref (f i))
 |[]=>.nil
 |_::l=>.cons rfl (zH f l)
end
section
open PySem
open PySem.Spec PyProof.Rows
def X4(xs:Array Nat):Prop:=∀(i k a b:Nat),i<k->xs[i]?=some a->xs[k]?=some b->a<b
def OD(xs:Array Nat)(j p:Nat):Prop:=p<=xs.size/\(∀k v,k<p->xs[k]?=some v->v<j)/\∀k v,p<=k->xs[k]?=some v->j<=v
theorem vS{xs:Array Nat}(R:X4 xs):∀c b a,a-b<=c->b<=a->a<=xs.size->(∀k v,k<b->xs[k]?=some v->v<j)->(∀k v,a<=k->xs[k]?=some v->j<=v)->OD xs j (SetTable.below.go xs j c b a)
 |0,b,a,h1,h2,h3,h4,h5=>by
  have e:a=b:=by omega
  subst e;exact⟨h3,h4,h5⟩
 |c+1,b,a,h1,h2,h3,h4,h5=>by
  unfold SetTable.below.go;by_cases h:b<a
  .rw[if_pos h];have i:(b+a) / 2<xs.size:=by omega
   have f:=Ar i
   have m:xs.getD ((b+a) / 2) j=xs[(b+a) / 2]:=by rw[Am,f];rfl
   dsimp only;rw[m];by_cases g:xs[(b+a) / 2]<j
   .rw[if_pos g];refine vS R c _ _ (by omega) (by omega) h3 (λk v l d=>?_) h5
    by_cases e:k=(b+a) / 2
    .rw[e,f]at d;cases d;exact g
    .have:=R k _ v _ (by omega) d f;omega
   .rw[if_neg g];refine vS R c _ _ (by omega) (by omega) (by omega) h4 (λk v l d=>?_)
    by_cases e:k=(b+a) / 2
    .rw[e,f]at d;cases d;omega
    .have:=R _ k _ v (show (b+a) / 2<k by omega) f d;omega
  .rw[if_neg h];have e:a=b:=by omega
   subst e;exact⟨h3,h4,h5⟩
def lJ{xs:Array Nat}(R:X4 xs)(j:Nat):OD xs j (SetTable.below xs j):=
 vS R xs.size 0 xs.size (by omega) (Ci _) (Ah _) (λk v a=>absurd a (Eu _)) λk v a b=>by simp_all
def K6{xs:Array Nat}(R:X4 xs)(h:xs[i]?=some j):SetTable.below xs j=i:=by
 obtain⟨k,d,c⟩:=lJ R j;generalize SetTable.below xs j=p at k d c;by_cases e:i<p
 .have:=d i j e h;omega
 .by_cases l:p<i
  .have g:p<xs.size:=by have:=(Dg.mp h).1;omega
   have f:=Ar g
   have a:=c p _ (Ah _) f
   have b:=R p i _ _ l f h
   omega
  .omega
def FE{t:SetTable}(R:X4 t.place)(h:t.place[i]?=some j):t.slot j=.live i:=by
 unfold SetTable.slot;rw[K6 R h];grind
def kP(xs:Array α){p:Nat}(x:α)(c:p<=xs.size)(i:Nat):(SetTable.insertAt xs p x)[i]?=if i<p then xs[i]? else if i=p then some x else xs[i-1]? := by
 have e:(SetTable.insertAt xs p x).toList=xs.toList.take p++x::xs.toList.drop p:=by
  unfold SetTable.insertAt;rw[Ic,Array.toList_push,Hq,Hq,Gi];simp;rw[show xs.size-p=(xs.toList.drop p).length by rw[Dr,Bk],Bq]
 rw[<-Cw,e];have l:(xs.toList.take p).length=p:=by rw[List.length_take,Bk];omega
 by_cases h:i<p
 .rw[if_pos h,Ay (by omega),List.getElem?_take,if_pos h,Cw]
 .rw[if_neg h,Ba (by omega),l];by_cases h2:i=p
  .rw[if_pos h2,h2,Nat.sub_self];rfl
  .rw[if_neg h2,show i-p=(i-p-1)+1 by omega,List.getElem?_cons_succ,List.getElem?_drop,Cw,show p+(i-p-1)=i-1 by omega]
def NC{xs:Array Nat}{e:Nat}(R:X4 xs)(s:∀i:Nat,xs[i]?≠some e):X4 (SetTable.insertAt xs (SetTable.below xs e) e):=by
 obtain⟨q,o,n⟩:=lJ R e;generalize SetTable.below xs e=p at q o n;have h:∀k v,p<=k->xs[k]?=some v->e<v:=λk v j r=>by
  have:=n k v j r
  have:v≠e:=λz=>s k (by rw[r,z])
  omega
 intro i k a b l d c;rw[kP _ _ q]at d c;by_cases m:i<p
 .rw[if_pos m]at d;by_cases j:k<p
  .rw[if_pos j]at c;exact R i k a b l d c
  grind
 .rw[if_neg m]at d;rw[if_neg (by omega),if_neg (by omega)]at c
  by_cases g:i=p
  .rw[if_pos g]at d;cases d;exact h _ b (by omega) c
  .rw[if_neg g]at d;exact R _ _ a b (by omega) d c
theorem yL{f:Nat->Int}{h:Int}(g:t.dummies=#[]):∀a p j,SetTable.probe.go t f h a p=some (.empty j none)->∃n,n<a/\(X8 t p n).j=j/\t.slot j=.empty/\∀b,b < n->∃i,t.slot (X8 t p b).j=.live i
 |0,p,j,e=>by cases e
 |a+1,p,j,e=>by
  unfold SetTable.probe.go at e;cases c:t.slot p.j with
  |empty=>
   rw[c]at e;simp only[Option.some.injEq,SetTable.Met.empty.injEq]at e;refine⟨0,Jo _,e.1,?_,λb d=>absurd d (Eu _)⟩;rw[<-e.1];exact c
  |dummy=>exact absurd c (vX g)
  |live i=>
   rw[c]at e;simp only at e;split at e
   .cases e
   .obtain⟨n,o,m,l,k⟩:=yL g a (t.advance p) j e;refine⟨n+1,by omega,m,l,λb d=>?_⟩
    cases b with
    |zero=>exact⟨i,c⟩
    |succ b=>exact k b (by omega)
theorem iA{d:Type}(g:Nat->Option d):∀n,((List.range n).filterMap λj=>(g j).map (j,·)).Pairwise (λa b=>a.1<b.1)
 |0=>.nil
 |n+1=>by
  rw[Bx,Bu];refine List.pairwise_append.mpr ⟨iA g n,?_,λa l b i=>?_⟩
  .cases e:g n with
   |none=>simp[e]
   |some k=>simp[e]
  .obtain⟨j,h,m⟩:=Cy.mp l;obtain⟨k,f,c⟩:=Cy.mp i;rw[Aj.mp f]at c;obtain⟨_,_,rfl⟩:=Bt.mp m;obtain⟨_,_,rfl⟩:=Bt.mp c;simp_all
def uW{t:SetTable}{es:Array (Int×Value)}(F:Full (SetTable.sizeAbove wanted))(T:0<SetTable.sizeAbove wanted)(hs:es.size<=SetTable.sizeAbove wanted):∃u h,t.relaid (es.map (·.1)) wanted=some (u,h)/\u.mask=SetTable.sizeAbove wanted-1/\u.dummies=#[]/\u.place.size=es.size/\(h.filterMap (es[·]?)).size=es.size/\X4 u.place/\(∀e,e∈(h.filterMap (es[·]?)).toList ↔ e∈es.toList):=by
 generalize O:SetTable.sizeAbove wanted=M at *;obtain⟨d,rfl⟩:∃d,M=d+1:=⟨M-1,by omega⟩
 obtain⟨c,P,s⟩:=DH F (hs:=es.map (·.1)) (by rw[Array.size_map];exact hs)
 rw[Array.size_map]at s;have m:=O5 c (d+1) s.size
 rw[s.many]at m;unfold SetTable.relaid SetTable.laid;rw[O,Io,P];have q:=iA (λj=>c.getD j none) (d+1)
 have n:∀j k,(j,k)∈((List.range (d+1)).filterMap λj=>(c.getD j none).map (j,·)) ↔ c.getD j none=some k:=λj k=>by
  rw[Cy];constructor
  .rintro⟨i,_,hi⟩;obtain⟨S,B,e⟩:=Bt.mp hi;cases e;exact B
  .intro e;refine⟨j,Bh.mpr ?_,by rw[e];rfl⟩
   rw[<-s.size];refine Hx λz=>?_;rw[Am,Da z]at e;cases e
 generalize g:((List.range (d+1)).filterMap λj=>(c.getD j none).map (j,·))=f at m q n;have o:∀x∈f,x.2<es.size:=λx p=>s.low _ _ ((n x.1 x.2).mp p)
 have G:∀l:List (Nat×Nat),(∀x∈l,x.2<es.size)->(l.map (·.2)).filterMap (es[·]?)=l.map λx=>es.getD x.2 (0,.none):=λl=>by
  induction l with
  |nil=>intro _;rfl
  |cons x r L=>
   intro p;have e:es[x.2]?=some (es.getD x.2 (0,.none)):=by
    rw[Am,Ar (p x Al)];rfl
   rw[Ax,Cj e,Ax,L λy w=>p y (Ao _ w)]
 have v:((f.map (·.2)).toArray.filterMap (es[·]?)).toList=f.map λx=>es.getD x.2 (0,.none):=by
  rw[Je,Ie];exact G f o
 have A:∀i:Nat,(f.map (·.1)).toArray[i]?=(f[i]?).map (·.1):=λi=>by
  rw[List.getElem?_toArray,Ai]
 refine⟨_,_,rfl,rfl,rfl,?_,?_,?_,?_⟩
 .show (List.toArray _).size=_
  rw[Bj,Ab,g,m]
 .rw[g,<-Bk,v,Ab,m]
 .rw[g];intro i k a b D K J;rw[A]at K J;obtain⟨x,p,rfl⟩:=Bt.mp K;obtain⟨y,w,rfl⟩:=Bt.mp J;obtain⟨E,R⟩:=Ae.mp p;obtain⟨C,Q⟩:=Ae.mp w;have:=By.mp q i k E C D
  rw[R,Q]at this;exact this
 .rw[g];intro e;rw[v];constructor
  .intro H;obtain⟨x,p,rfl⟩:=Bg.mp H;rw[Am,Ar (o x p)];exact En (o x p)
  .intro H;obtain⟨k,I,rfl⟩:=Array.mem_iff_getElem.mp (Fm.mp H);obtain⟨j,N⟩:=s.all k I;refine Bg.mpr ⟨(j,k),(n j k).mpr N,?_⟩;show es.getD k (0,.none)=_
   rw[Am,Ar I];rfl
noncomputable def WJ(es:Array (Int×Value))(i:Nat):Int:=(es[i]?.map (·.1)).getD 0
def NP{es:Array (Int×Value)}{e:Int×Value}(h:es[i]?=some e):WJ es i=e.1:=by
 unfold WJ;rw[h];rfl
def JX{es:Array (Int×Value)}{t:SetTable}{x:Value}{h:Int}{Q:SetFound->Shared->Prop}(m:s.heap.get? a=some o)(u:o.data=.set es ep t)(r:t.fits es.size=true)(F:Full (t.mask+1))(c:t.mask%2=1)(k:t.dummies=#[])(hs:t.place.size=es.size)(n:es.size<=t.mask)(d:∀e∈es.toList,e.1≠h)(q:∀j,t.probe (WJ es) h (t.probeStart h)=some (.empty j none)->Q (.free j false) s):wpAny (model prog w) A (setSearch a x h true) Q E s:=by
 have l:∀f,(f=WJ es)->∃j,t.probe f h (t.probeStart h)=some (.empty j none):=λf g=>by
  subst g;refine sW F k (by omega) λi v=>?_
  have b:i<es.size:=by omega
  rw[NP (Ar b)];exact d _ (En b)
 refine Ac (Cv m u r ?_);dsimp only;have p:t.gaveWay=false:=by unfold SetTable.gaveWay;rw[c];rfl
 rw[p];rw[Option.getD_none,Classical.choose_spec (l _ ?hG)];case hG=>rfl
 exact Ag (q _ (Classical.choose_spec (l _ rfl)))
def jY{xs:Array α}{p:Nat}{x e:α}(a:p<=xs.size)(h:e=x\/e∈xs.toList):e∈(SetTable.insertAt xs p x).toList:=by
 rw[Fm];rcases h with rfl|h
 .exact Hi  (by rw[kP _ _ a,if_neg (Eg _),if_pos rfl])
 .obtain⟨i,c⟩:=Dh.mp h;rw[Cw]at c;by_cases b:i<p
  .exact Hi  (by rwa[kP _ _ a,if_pos b])
  .exact Hi (i:=i+1) (by rwa[kP _ _ a,if_neg (by omega),if_neg (by omega)])
def PB{t:SetTable}{es:Array (Int×Value)}{h:Int}{a:Nat}(b:t.dummies=#[])(R:X4 t.place)(d:t.probe (WJ es) h (t.probeStart h)=some (.empty a none)):X4 (t.put a).1.place:=by
 obtain⟨n,_,_,c,_⟩:=yL b _ _ _ d;exact NC R λi z=>by rw[FE R z]at c;cases c
def Wb(H:Hp):Nat->V->V->Prop
 |0,x,y=>x=y/\(bY x=true\/∃p,x=.ref p)
 |n+1,x,y=>(x=y/\(bY x=true\/∃p,x=.ref p))\/∃p q,x=.ref p/\y=.ref q/\((∃d c,Z2 H p=some d/\Z2 H q=some c/\d.length=c.length/\∀(j:Nat) f e,d[j]?=some f->c[j]?=some e->Wb H n f e)\/∃b a,Rd H p (.dK b)/\Rd H q (.dK a)/\TU b a)
def Wb.same{x:V}(h:bY x=true\/∃p,x=.ref p):Wb H n x x:=by
 cases n with
 |zero=>exact⟨rfl,h⟩
 |succ n=>exact .inl ⟨rfl,h⟩
def Ph{x:V}{v:Value}(h:bY x=true\/∃p,x=.ref p)(c:RelV x u)(b:RelV x v):XG X.prog X.w A s u v:=by
 rcases h with a|⟨p,rfl⟩
 .have:=oV (A:=A) (s:=s) c b a a
  rw[jI a]at this;exact λE Q d=>this X.prog X.w E Q d
 .cases c;cases b;exact .same _
def RN(I:Inv X y3 U H s){p:Addr}(G:Z2 H p=some xs)(F:Z2 H q=some ys)(L:xs.length=ys.length)(h:∀(j:Nat) l k u v,xs[j]?=some l->ys[j]?=some k->RelV l u->RelV k v->XG X.prog X.w A.in1 s u v)(t:A.units<cLine)(E:Q2)(Q:Q2):(Q (.bool true) s->wpAny (model X.prog X.w) A (richCompare .Eq (.ref p) (.ref q)) Q E s)/\(Q (.bool false) s->wpAny (model X.prog X.w) A (richCompare .NotEq (.ref p) (.ref q)) Q E s):=by
 obtain⟨b,n,r,_⟩:=I.list (bD G);obtain⟨a,m,o,_⟩:=I.list (bD F);have N:=n.length
 have M:=m.length
 have B:∀j D (C:j<a.toArray.size),XG X.prog X.w A.in1 s b.toArray[j] a.toArray[j]:=λj D C=>by
  have i:j<b.length:=by simpa using D
  have g:j<a.length:=by simpa using C
  obtain⟨K,d,f⟩:=n.get (Aa (show j<xs.length by omega))
  obtain⟨J,c,e⟩:=m.get (Aa (show j<ys.length by omega))
  rw[Aa i]at d;rw[Aa g]at c;cases d;cases c
  simpa using h j _ _ _ _ (List.getElem?_eq_getElem _) (List.getElem?_eq_getElem _) f e
 have z:b.toArray.size=a.toArray.size:=by grind
 exact⟨λq=>DT r.isList o.isList z t B q,λq=>BN r.isList o.isList z t B q⟩
def Nd(I:Inv X y3 U H s):∀n A x y u v,Wb H n x y->RelV x u->RelV y v->A.units+n<cLine->XG X.prog X.w A s u v:=by
 intro n;induction n with
 |zero=>
  intro A x y u v h f c D;obtain⟨rfl,b⟩:=h;exact Ph b f c
 |succ n B=>
  intro A x y u v h f c D;rcases h with⟨rfl,b⟩|⟨p,q,rfl,rfl,l⟩
  .exact Ph b f c
  .cases f;cases c;by_cases e:p=q
   .subst e;exact .same _
   rcases l with⟨J,G,m,k,F,h⟩|⟨z,t,m,k,d⟩
   .exact .refs e λE Q a=>(RN I m k F (λj r o u v b C i g=>B A.in1 r o u v (h j r o b C) i g (by show A.units+1+n<cLine;omega)) (by omega) E Q).1 a
   .exact .refs e λE Q a=>(ME I m k d (by omega) E Q).1 a
def Rp(neg:Bool):R2:=λx y H Q=>∃n p q b a,n<=50/\x=.ref p/\y=.ref q/\Z2 H p=some b/\Z2 H q=some a/\b.length=a.length/\(∀(j:Nat) d c,b[j]?=some d->a[j]?=some c->Wb H n d c)/\Q (.bl (!neg)) H
def EH(B:X.A.units+64<cLine):ZN X (compareOp .NotEq) (Rp true):=by
 intro w s U H x y v u Q I f e h;obtain⟨n,p,q,z,t,C,rfl,rfl,m,l,o,r,k⟩:=h;cases f;cases e;exact(RN I m l o (λj d c u v i g b a=>Nd I n X.A.in1 d c u v (r j d c i g) b a (by grind)) (by omega) _ _).2 ⟨.bl false,H,I,rfl,k⟩
def MN(n:Nat)(d:Z2 H p=some xs)(c:Z2 H q=some ys)(f:xs.length=ys.length)(g:∀(j:Nat) b a,xs[j]?=some b->ys[j]?=some a->Wb H n b a)(h:Q (.bl (!neg)) H)(e:n<=50:=by omega):Rp neg (.ref p) (.ref q) H Q:=⟨n,p,q,xs,ys,e,rfl,rfl,d,c,f,g,h⟩
end
section
open PySem.AutoSeq1 (wpAny_loadPart')
section
variable {a b:Expr} {rest:List Expr} {ta tb:TE}
def LL(d c:TE):TE:=λU H Q=>d U H λx a=>(x=.non/\c U a Q)\/∃p b,x=.ref p/\Z2 a p=some b/\(b≠[]->Q (.ref p) a)/\(b=[]->c U a Q)
def DI(C:PE X a ta)(u:PE X (.BoolOp .Or (b::rest) pos) tb):PE X (.BoolOp .Or (a::b::rest) pos) (LL ta tb):=by
 intro c s U H Q I h;refine BoolOp_or (Z1 (C c s U H _ I h) λv l μ=>?_);obtain⟨x,o,n,j,m⟩:=μ;rcases m with⟨rfl,m⟩|⟨p,w,rfl,t,B,A⟩
 .refine Z1 (UH c l U o .non v (λk g=>k=false/\tb U g Q) n j ⟨false,rfl,rfl,m⟩) λk i ⟨f,d,e,q⟩=>?_;subst e;exact u c i U f Q d q
 .cases w with
  |nil=>
   refine Z1 (UH c l U o _ v (λk g=>k=false/\tb U g Q) n j ⟨false,.inl ⟨[],bD t,rfl⟩,rfl,A rfl⟩) λk i μ=>?_;obtain⟨f,d,e,q⟩:=μ;subst e;exact u c i U f Q d q
  |cons y r=>
   refine Z1 (UH c l U o _ v (λk g=>k=true/\Q _ g) n j ⟨true,.inl ⟨y::r,bD t,rfl⟩,rfl,B (λz=>nomatch z)⟩) λk i μ=>?_;obtain⟨f,d,e,q⟩:=μ
   subst e;exact⟨.ref p,f,d,j,q⟩
end
end
def PY:R2:=λx y H Q=>(x=.non/\y=.non/\Q (.bl false) H)\/Wn true x y H Q
def AU(d:X.A.units<cLine):ZN X (compareOp .NotEq) PY:=by
 intro a s U H x y v u Q I c b h;rcases h with⟨rfl,rfl,k⟩|h
 .cases c;cases b;exact WE a s U H .non .non _ _ Q I rfl rfl ⟨rfl,by rwa[show decide _=true from An rfl]⟩
 .exact Rc d a s U H x y v u Q I c b h
def JP:∀ {a:List Value} {b:List Int},IntsAre a b->Vals (b.map V.int) a:=by
 intro a b h;induction h with
 |nil=>exact .nil
 |cons x t _ c=>exact .cons ⟨t,rfl⟩ c
theorem O_:∀ {c:List Value} {d:List Int},c.length=d.length->(∀(j:Nat) v x,c[j]?=some v->d[j]?=some x->∃t,v=.int x t)->IntsAre c d
 |[],[],_,_=>.nil
 |v::r,x::y,hl,h=>by
  obtain⟨t,e⟩:=h 0 v x rfl rfl;subst e;exact .cons x t (O_ (by simp_all) λj g f a b=>h (j+1) g f (by simp_all) (by simp_all))
 |[],_::_,hl,_=>absurd hl (by simp)
 |_::_,[],hl,_=>absurd hl (by simp)
def yR(I:Inv X y3 U H s)(d:fE X)(j:∀b∈fp,gA X y3 H b):fE (ZC X N scope cl C s H fp):=by
 obtain⟨e,i,a,c⟩:=d;refine⟨e,i,I.XY a c,λh=>?_⟩;rcases (j e h).2.2.2.1 with z|z
 .exact c z
 .obtain⟨o,g,_⟩:=a;exact absurd (Aq g) (Nat.not_lt.mpr z)
def zJ{f:Shared}{tn:Nat->Heap->Prop}{RR:Value->Addr->Result->Shared->Prop}(I2:Inv X y3 U H2 f)(T:XE X.prog X.w X.K tg J fp it tn)(b2:tn 0 f.heap)(f2:∀b∈fp,gA X y3 H2 b)(hc:∀C s H,Z_ H2 H->Inv X y3 U H s->(∀b∈fp,gA X y3 H b)->fE (ZC X N scope cl C s H fp))(ck:Yk X N scope cl vals)(a1:∀y∈scope.names,y.2≠.cell)(L:scope.kind=.function)(hg:∀C a j S,fE (ZC X N scope cl C a j S)->PG (ZC X N scope cl C a j S) tg g)(ht:∀C a j S,fE (ZC X N scope cl C a j S)->PF (ZC X N scope cl C a j S) ifs tests)(he:∀C a j S,fE (ZC X N scope cl C a j S)->PE (ZC X N scope cl C a j S) elt te)(h:dQ g tests te (vals U) Q J H2)(c5:∀D C I l m,I.heap.Ns C m->Q (.ref D) l->(∀a2,Heap.SameBut C I.heap a2->Inv X y3 U l {I with heap:=a2})->gA X y3 l C->RR (.ref D) C (.ok .next) I):wpAny (model X.prog X.w) X.A (newList []) (λb4 a6=>wpAny (model X.prog X.w) X.A (newFunctionEnv scope X.env.globals cl [] X.env.qual none .none (some X.env)) (λV B=>
 codeAny (model X.prog X.w) X.A (.compStart (.ListComp elt [⟨tg,iter,ifs,0⟩] scope pos) 0 (.ref it) b4 {V with scope:=relabel scope X.env}) (RR b4 V.locals) B) E a6) E f:=by
 have hD:=I2.Z4.fresh (Ah _)
 obtain⟨W,⟨m0,w0⟩,a5⟩:=h _ hD;have c4:∀b∈fp,b<f.heap.objs.size:=λb z=>by
  obtain⟨o,e,_⟩:=T.obj 0 _ b2 b z;exact Aq e
 refine Fq ?_
 -- the list is laid
 have I3:=
  I2.WS (ys:=[]) (its:=[]) (t':=f.toks) .nil (Ci _)
 have f3:∀b∈fp,gA X y3 (upd H2 f.heap.objs.size (.lst [])) b:=λb z=>⟨by rw[aI (Bc (c4 b z))];exact(f2 b z).1,(f2 b z).2⟩
 have Z:tn 0 (f.heap.push {cls:=.type "list",dict:=none,data:=.seq ([]:List Value).toArray}):=T.keep _ _ _ b2 λb _ o e=>Af _ e
 generalize c2:({f with heap:=f.heap.push {cls:=.type "list",dict:=none,data:=.seq ([]:List Value).toArray}}:Shared)=k at I3 ⊢
 have e3:k.heap=f.heap.push {cls:=.type "list",dict:=none,data:=.seq ([]:List Value).toArray}:=by rw[<-c2]
 rw[<-e3]at Z;have R:∀b∈fp,b<k.heap.objs.size:=λb z=>by
  obtain⟨o,e,_⟩:=T.obj 0 _ Z b z;exact Aq e
 refine wpAny_newFunctionEnv a1 (by intro y hy;simp at hy) (λF O G=>?_) L
 have c3:=O
 have sf:fE (ZC X N scope cl k.heap.objs.size k (upd H2 f.heap.objs.size (.lst [])) fp):=hc _ _ _ (aG hD _) I3 f3
 have I4:=vK (t1:=k.toks) I3 ck L f3 R c3 G
 have b9:∀b o,k.heap.get? b=some o->F.get? b=some o:=λb o e=>(G.2 b (Bc (Aq e))).trans (Af _ e)
 have b1:=T.keep _ _ _ Z λb _ o e=>b9 b o e
 have P:∀ B,B={ k with heap:=F,toks:=k.toks }->
     codeAny (model X.prog X.w) X.A (.compLoop (.ListComp elt [⟨tg,iter,ifs,0⟩] scope pos) 0 (.ref it) (.ref f.heap.objs.size) (compEnvC scope cl k.heap.objs.size X.env))
      (RR (.ref f.heap.objs.size) k.heap.objs.size) B:=by
  rintro B rfl;have a3:∀ {l:Hp},(∀b∈fp,l b=none)->∀b∈fp,gA (ZC X N scope cl k.heap.objs.size k (upd H2 f.heap.objs.size (.lst [])) fp) [] l b:=λhn b z=>
   ⟨hn b z,Nat.ne_of_lt (R b z),λhs=>I4.ok.Ys b z hs,.inl z,λx c e=>(I4.ok.V_ b z).2 x c e,λp hp=>absurd (show p∈([]:Q3) from hp) (by simp)⟩
  refine xE (λn I=>∃i l,Inv (ZC X N scope cl k.heap.objs.size k (upd H2 f.heap.objs.size (.lst [])) fp) [] (vals U) l I/\tn i I.heap/\(∀b∈fp,l b=none)/\W i n l) ?_ m0
   ⟨0,_,I4,b1,λb z=>(f3 b z).1,w0⟩
  rintro n s5 ⟨i,H5,I5,a9,b3,w5⟩;rcases a5 i n H5 w5 with⟨a7,q⟩|⟨go,a8⟩
  .refine Z1 (T.done (ZC X N scope cl k.heap.objs.size k (upd H2 f.heap.objs.size (.lst [])) fp) rfl rfl rfl sf i [] s5 (vals U) H5 (λ_ _=>False) I5 (a3 b3) a9 a7) λr s6 ⟨hr,I6⟩=>?_;subst hr;obtain⟨m,hn,_⟩:=id I6.loc;exact c5 _ _ s6 H5 m hn q (λa2 c1=>yO I3 f3 I6 c1) (I3.YV (Ah _) I6.free)
  .refine Z1 (T.item (ZC X N scope cl k.heap.objs.size k (upd H2 f.heap.objs.size (.lst [])) fp) rfl rfl rfl sf i [] s5 (vals U) H5 (λ_ _=>False) I5 (a3 b3) a9 go) λr s6 ⟨u,hr,h6⟩=>?_;subst hr;refine Z1 h6 λ_ s7 μ=>?_;obtain⟨x,H7,I7,r7,y7,Y,c6⟩:=μ;have c8:=I7.pinned (a3 c6) (T.obj _ _ Y)
   refine Z1 (hg _ _ _ _ sf _ s7 (vals U) H7 x u _ c8 r7 (a8 x H7 y7)) λ_ s8 μ=>?_;obtain⟨U8,H8,I8,a4,q8⟩:=μ;refine Z1 (ht _ _ _ _ sf _ s8 U8 H8 _ I8 q8) λb s9 μ=>?_;obtain⟨H9,I9,q9⟩:=μ;have M:∀ {m':Nat} {I:Shared} {l:Hp},Inv (ZC X N scope cl k.heap.objs.size k (upd H2 f.heap.objs.size (.lst [])) fp) ([]++kE fp s7.heap) U8 l I->m' < n->W (i+1) m' l->
       ∃m,m<n/\∃i l,Inv (ZC X N scope cl k.heap.objs.size k (upd H2 f.heap.objs.size (.lst [])) fp) [] (vals U) l I/\tn i I.heap/\(∀b∈fp,l b=none)/\W i m l:=fun {m' I l} J7 hm w7=>by
    refine⟨m',hm,i+1,l,(J7.weak a4.1 a4.2).ZL,T.keep _ _ _ Y λb z o e=>(J7.pin (b,o) (Bd _ (Bd _ (dU z e)))).1,λb z=>?_,w7⟩;obtain⟨o,e,d⟩:=T.obj _ _ Y b z;exact(J7.pin (b,o) (Bd _ (Bd _ (dU z e)))).2.1
   cases b with
   |true=>
    rw[if_pos rfl]at q9 ⊢;refine Z1 (he _ _ _ _ sf _ s9 U8 H9 _ I9 q9) λv b7 μ=>?_;obtain⟨y,b5,d1,b8,zs,hz,hl,m',hm,b6⟩:=μ;have ap:=sJ ([]++kE fp s7.heap) b7 U8 b5 (.ref f.heap.objs.size) [y] (.ref f.heap.objs.size) [v] (λ_ l=>l=upd b5 f.heap.objs.size (.lst (zs++[y]))) d1 rfl (.cons b8 .nil) ⟨_,_,_,rfl,rfl,hz,hl,rfl⟩
    refine Z1 ap λ_ d2 μ=>?_;obtain⟨_,d3,c9,_,c7⟩:=μ;subst c7;exact M c9 hm b6
   |false=>
    rw[if_neg Av]at q9 ⊢;obtain⟨m',hm,w9⟩:=q9;exact M I9 hm w9
 exact codeAny_compStart_list (P _ rfl) (T.self _ 0 _ _ _ b1 (P _ rfl))
section
variable {spos:Pos} {wi:TI}
def Qj(L:fE X)(F:VO X tg iter wi)(t:Yk X N scope cl vals)(j:∀y∈scope.names,y.2≠.cell)(c:scope.kind=.function)(d:∀x∈scope.names,x.2=.local->scope.names.lookup x.1=some .local)(G:∀C a b i,fE (ZC X N scope cl C a b i)->PG (ZC X N scope cl C a b i) tg g)(B:∀C a b i,fE (ZC X N scope cl C a b i)->PF (ZC X N scope cl C a b i) ifs tests)(K:∀C a b i,fE (ZC X N scope cl C a b i)->PE (ZC X N scope cl C a b i) elt te)(hs:∀x,foldedSetIterable iter X.env x=pure x:=by intro _;rfl):PE X (.ListComp elt [⟨tg,iter,ifs,0⟩] scope pos) (Vs wi g tests te vals):=by
 intro r s U H Q I h;refine Gk  rfl hs t.clos c d (Z1 (F r s U H _ I h) λv Y O=>Z1 O λz W M=>?_);obtain⟨it,fp,V,J,H2,e,R,T,l,P,q⟩:=M;subst e;refine zJ  R T l P (λ_ _ _ _ I f=>yR I L f) t j c G B K q λD C Z S m E u k _=>?_;exact⟨m,E,λo n=>⟨.ref D,S,k o n,rfl,u⟩⟩
def B8{i:Nat}(hN:X.N.Nodup)(M:X.N[i]?=some x)(hx:Loc X.env.scope x)(hc:fE X)(hi:VO X tg iter wi)(V:Yk X N scope cl vals)(r:∀y∈scope.names,y.2≠.cell)(j:scope.kind=.function)(k:∀x∈scope.names,x.2=.local->scope.names.lookup x.1=some .local)(hg:∀C c d n,fE (ZC X N scope cl C c d n)->PG (ZC X N scope cl C c d n) tg g)(ht:∀C c d n,fE (ZC X N scope cl C c d n)->PF (ZC X N scope cl C c d n) ifs tests)(he:∀C c d n,fE (ZC X N scope cl C c d n)->PE (ZC X N scope cl C c d n) elt te)(L:swapsWith (.ListComp elt [⟨tg,iter,ifs,0⟩] scope pos) (some (.Name x py)) spos.line X.env=pure true:=by rfl)(hf:X.fn x=true\/X.env.scope.names.lookup x=some .local:=by first|exact .inl rfl|exact .inr rfl|assumption)(hs:∀x,foldedSetIterable iter X.env x=pure x:=by intro _;rfl):PS X (.Assign [.Name x py] (.ListComp elt [⟨tg,iter,ifs,0⟩] scope pos) spos) (VY (Vs wi g tests te vals) (lD i)):=by
 intro F s U H D I h;rw[exec_Assign_Name_used _ _ _ _ L];refine Ac (Gj (Ac ?_));show wpAny _ X.A (do let _ <-comprehension (.ListComp elt [⟨tg,iter,ifs,0⟩] scope pos) scope X.env _ (newList []) false (eval iter X.env) (some (assign (.Name x py) X.env))) _ _ s
 refine Ac (Cf (Gk (use:=some (assign (.Name x py) X.env)) (Q:=λ_ l=>SP X F D .next l) rfl hs V.clos j k
  (Z1 (hi F s U H _ I h) λv s1 h1=>Z1 h1 λZ s2 h2=>?_)) (λ_ l hq=>Ag (Ag hq)) λ_ _ e=>e)
 obtain⟨it,fp,tn,J,H2,e,I2,T,G,f2,q⟩:=h2;subst e;refine zJ (RR:=λP C=>compPost (model X.prog X.w) X.A X.xe (some (assign (.Name x py) X.env)) (λ_ l=>SP X F D .next l) P C) I2 T G f2 (λ_ _ _ _ I f=>yR I hc f) V r j hg ht he q λS C l W m hn Y E u=>?_;show wpAny _ X.A (assign (.Name x py) X.env (.ref S)) _ _ l
 have I':=E l.heap (Heap.SameBut.refl ..)
 refine wpAny_assign_Name (sA I' hN M hx (v:=.ref S) rfl (λK R p=>?_) hf);obtain⟨a,p,ha⟩:=p;have O:C≠a:=by
  rcases ha with z|z
  .rw[z];exact u.2.1
  .exact λe=>u.2.2.2.2.1 x a z e.symm
 refine⟨m,hn.sameBut p O,λh3 B=>?_⟩;exact⟨U.set i (some (.ref S)),W,R.turned (t':=K.toks) (λb o hb e=>(B.2 b hb).trans e) u.1 u.2.1 u.2.2.2.1 u.2.2.2.2.1 u.2.2.2.2.2,Y⟩
end
def Jx{items:Array Value}(p:A.handled=some (.ref ea))(k:ax≠it)(c:ea≠it):Walks prog w A it [it,ax,ea] [it] items.size (λi v=>items[i]?=some v) (λi h=>(h.IsListIter it ax i/\h.IsList ax items)/\ZZ h ea) where
 sub:=λb d=>by simp_all
 frame:=λ_ _ _ a l=>⟨⟨a.1.1.at λo e=>l it (by simp) o e,a.1.2.at λo e=>l ax (by simp) o e⟩,a.2.ext λo e=>l ea (by simp) o e⟩
 item:=λi s Q E n a f=>by
  refine wpAny_pyNext_list_item a.1.1 a.1.2  (Ar n) λm j g=>?_;exact f _ m s.toks (Ar n) ⟨⟨j,a.1.2.extBut g.extBut k⟩,a.2.ext λo e=>g.extBut ea o c e⟩ λb o d e=>g.extBut b o (λz=>d (by rw[z];exact Aj.mpr rfl)) e
 done:=λs Q E a f=>sN p c a.2 a.1.1 a.1.2 (Da (Ah _)) λm q=>f m s.toks λb o d e=>q b o (λz=>d (by simp_all)) e
 self:=λ_ _ _ _ a f=>wpAny_pyIter_listiter a.1.1 f
def DR{a:List (Bool×(Value->Sem Unit))}{Q:Unit->Shared->Prop}(v:A.handled=some (.ref ea))(p:ZZ s.heap ea)(f:s.heap.IsTuple t items)(u:a.length=items.size)(c:a.findIdx? (·.1)=none)(h:∀r,Heap.ExtBut s.heap.objs.size s.heap r->wpAny (model prog w) A (assignInOrder (a.map (·.2)) items.toList) Q E {s with heap:=r}):wpAny (model prog w) A (unpack (.ref t) a) Q E s:=by
 have g:t≠s.heap.objs.size:=by obtain⟨o,m,_⟩:=f;exact Bc (Aq m)
 have i:ea≠s.heap.objs.size:=by obtain⟨o,_,m,_⟩:=p;exact Bc (Aq m)
 unfold unpack;rw[u,c];refine Ac (Cb ?_);unfold unpackItems notIterableAtAll;refine Ac (Ac (Fw f.typeIs slot_tuple_iter.lookup (Ag ?_)));simp only[Bool.false_eq_true,if_false];refine Ac (Cb (iter_tuple f ?_));refine Ac (Cb (draw_tuple g items.size 0 _ _ ⟨_,Au _ rfl,rfl,rfl⟩ (f.push _) (by omega) λn k j=>?_))
 rw[show List.take items.size (List.drop 0 items.toList)=items.toList by rw[List.drop_zero];exact List.take_of_length_le (by simp),if_neg (by simp)]
 have l:=(f.push _).extBut j.extBut g
 refine wpAny_bind (wpAny_holding (vF v i (p.ext λo e=>j.extBut ea o i (Heap.get?_push_of_some _ e)) k l (by simp) λd x=>?_))
 simp only[Option.isSome_none,Bool.false_eq_true,if_false];exact Ag (h d λb o q e=>x b o q (j.extBut b o q (Af _ e)))
def Mb{k:Nat}{t:Xb}(z:fE X)(h:V0 X es t)(w:(assignEach es X.env).length=n:=by rfl)(d:(assignEach es X.env).findIdx? (·.1)=none:=by rfl):PG X (.Tuple es k pos) (Vk X.K n t):=by
 intro i s U H v u Q I r c;obtain⟨a,j,A,q,x,c⟩:=c;subst A;cases r;obtain⟨l,g,p,B⟩:=I.tuple q;obtain⟨D,y,f,_⟩:=I.soft z;refine wpAny_bind (wpAny_standAt (DR y f p (by simp[w,<-x,g.length]) d λC m=>?_))
 exact h i _ U H j _ Q (I.kept (t':=s.toks) λb o e=>m b o (Nat.ne_of_lt (Heap.lt_size e)) e) (by omega) c
def DG{K:W.Frag}{i j k:Nat}{y:Str}{d:Pos}(m:X.K=K)(l:fE X)(c:X.N.Nodup)(h:X.N[i]?=some x)(f:Loc X.env.scope x)(b:X.fn x=true\/X.env.scope.names.lookup x=some .local)(g:X.N[j]?=some y)(e:Loc X.env.scope y)(a:X.fn y=true\/X.env.scope.names.lookup y=some .local):PG X (.Tuple [.Name x d,.Name y py] k pos) (Vk K 2 (zQ (lD i) (zQ (lD j) Vc))):=by
 subst m;exact Mb l (fY (bB c h f b) (fY (bB c g e a) Tu))
def F9(hc:fE X):ZW X (.builtin "sum") Va:=by
 intro y3 s U H xs us Q I r h;obtain⟨p,ns,rfl,hp,hb,hn,q⟩:=h;obtain⟨u,rfl,ru⟩:=dI r;cases ru;obtain⟨its,rv,pl,hz⟩:=I.list (bD hp);have hl:=pl.isList
 have hlt:p<s.heap.objs.size:=by obtain⟨_,e,_⟩:=hl;exact Aq e
 have hle:its.length=ns.length:=by have:=rv.length;rw[Ab]at this;omega
 obtain⟨ea,hh,hcn,hnx⟩:=I.soft hc;have hlte:ea<s.heap.objs.size:=by obtain⟨_,_,e,_⟩:=hcn;exact Aq e
 refine call_sum_walk (Fb hl ?_);refine⟨s.heap.objs.size,[s.heap.objs.size,p,ea],[s.heap.objs.size],its.toArray.size,_,_,λi=>ns.getD i 0,rfl,Jx (A:=X.A.in1) (items:=its.toArray) hh (Bc hlt) (Bc hlte),
  ⟨⟨⟨_,Au _ rfl,rfl,rfl⟩,hl.push _⟩,hcn.ext λo e=>Af _ e⟩,λb hb=>?_,λi v hv=>?_,λj hj=>?_,λh' tk t' hk=>?_⟩
 .rw[show ({s with heap:=_}:Shared).heap=_ from rfl]
  simp only[List.mem_cons,List.not_mem_nil,or_false]at hb;rcases hb with e|e|e
  .rw[e];simp[Heap.push]
  .rw[e];exact Nat.lt_of_lt_of_le hlt (by simp[Heap.push])
  .rw[e];exact Nat.lt_of_lt_of_le hlte (by simp[Heap.push])
 .have hv':its[i]?=some v:=by simpa using hv
  have hi:i<ns.length:=by rw[<-hle];exact(Ae.mp hv').1
  obtain⟨u,hu,ru⟩:=rv.get (show (ns.map V.int)[i]?=some (.int ns[i]) by rw[Ai,Aa hi];rfl)
  rw[hv']at hu;cases hu;obtain⟨t,rfl⟩:=ru;exact⟨t,by show Value.int ns[i] t=Value.int (ns.getD i 0) t;rw[Ad,Aa hi];rfl⟩
 .have hj' : j < ns.length := by have : j < its.length := by simpa using hj
                                 omega
  have e:=fT ns (j+1) (by omega)
  obtain⟨a1,a2⟩:=zZ (ns:=ns.take (j+1)) λm hm=>hb m (Fo hm);rw[Ce]at a2;have a3:ns.getD j 0∈ns:=by rw[Ad,Aa hj'];exact Br _
  obtain⟨b1,b2⟩:=hb _ a3;refine⟨?_,?_⟩
  .show InLong (ns.getD j 0)
   unfold InLong;omega
  .rw[e];unfold InLong;omega
 .have e:preSum (λi=>ns.getD i 0) its.toArray.size=ns.sum:=by
   rw[Bj,hle,fT ns _ (Ah _),Bq]
  rw[e];exact⟨.int ns.sum,H,I.kept (LSm.kept_iter hk),⟨_,rfl⟩,q⟩
def Rl(K:W.Frag)(C:Addr)(i:Nat)(mk:(Value->Option Addr->St->Hp->Prop)->TS)(h:Addr->TS):TS:=λD U H=>
 mk (λb d j g=>W.exmOne K b (.ref C)=some true/\∀a f,Wl f->g a=none->
  h a {nx:=λc e=>D.nx (c.set i none) e,rt:=D.rt,bk:=λc e=>D.bk (c.set i none) e,ct:=λc e=>D.ct (c.set i none) e} (j.set i (some (.ref a))) (upd g a (.frz f (jX a b d)))) D U H
def L_{f:Addr->TS}(h:mk (λb d k j=>W.exmOne K b (.ref C)=some true/\∀a g,Wl g->j a=none->
 f a {nx:=λc e=>D.nx (c.set i none) e,rt:=D.rt,bk:=λc e=>D.bk (c.set i none) e,ct:=λc e=>D.ct (c.set i none) e} (k.set i (some (.ref a))) (upd j a (.frz g (jX a b d)))) D U H):Rl K C i mk f D U H:=h
def AG{n:Str}{hp:Pos}{i:Nat}{ts:Addr->TS}(j:X.stack=X.env::X.outer)(a1:X.env.frame=some X.env.locals)(a7:X.ex=[])(hN:X.N.Nodup)(hi:X.N[i]?=some n)(P:X.env.scope.names.lookup n=some .local)(hg:Gl X x)(hm:X.mg x=some (.ref C))(hb:∀c R,YL (X.tr c (XS X c R)) body (mk R))(hs:∀c a,YL (X.ZH c a) (b0::suite) (ts a))(hd:(x==("__debug__" : Str))=false:=by decide):PS X (.Try body [.ExceptHandler (some (.Name x np)) (some n) (b0::suite) hp] [] [] pos) (Rl X.K C i mk ts):=by
 intro c s U H D I h;have Z:X.A.frames=some (X.env::X.outer):=by rw[<-j];exact I.ok.frames
 have L:(X.env.scope.kind == .class || (X.env.scope.kind == .module&&X.env.locals != X.env.globals))=false:=by rw[I.ok.kind];rfl
 refine wpAny_Try_except (Cf (hb c _ [] s U H D (I.tr _) h) (λf O q=>?_) λe O q=>?_)
 .cases f with
  |next=>
   obtain⟨U',H',I',q⟩:=q.Zi;exact bC c O U' H' D I' q
  |brk=>exact q.Zi
  |cont=>exact q.Zi
  |ret u=>exact q.Zi
 .obtain⟨a,a5,d,B,U1,H1,rfl,F,a4,hn,G,hx,r⟩:=q;rw[j]at F;refine rA Z a1 F λh2 F2 u2=>dN (s:={O with heap:=h2}) F2 λh3 F3 u3=>?_
  have I3:=G h3 F3.stays (u2.trans u3)
  refine wpAny_handleBy_cons (codeAny_handlers_test (eK (I3.ZH a) hg hm ?_ hd)) (by intro q;cases q)
  obtain⟨oe,vs,T,oT,a6,he,hc,_⟩:=id F3.on;refine W.exm_one I3.ZK (hc.1▸(W.Looks.ld he).andThen .now) hx _ _ _ _ (λ_ _ q=>q) ?_;refine codeAny_handlers_suite_as (dN (s:={O with heap:=h3}) F3 λh4 F4 u4=>?_)
  obtain⟨l,V,_,_,_,a2,_,a3,_,_,_,_,_,_,c4⟩:=id F4.on;have I4:=(G h4 F4.stays ((u2.trans u3).trans u4)).adopt (o:=.frz l (jX a a5 d)) a4 hn (show h4.get? a=some l/\_ from⟨a2,F4.obj⟩)
  refine qS I4 hN hi (.inl P) (v:=.ref a) rfl (λs5 I5=>?_) (.inr P);refine Cf (hs c a [] s5 _ _ _ (I5.ZH a) (r a l ⟨V,a3,c4⟩ hn)) (λf s6 q=>?_) λ_ _ z=>z.elim;have S:∀ {p:St} {b:Hp} {Q:Unit->Shared->Prop} {E:Q2},Inv (X.ZH c a) [] p b s6->(∀ y,Inv X c (p.set i none) b y->Q () y)->
      wpAny (model X.prog X.w) X.A (do bindName X.env n .none;unbindBehindTheSuite X.env n hp) Q E s6:=fun {p b Q E} g k=>by
   have M:=g.YO I.ok
   obtain⟨m,J,_⟩:=id M.loc;exact wpAny_nameGoes_keeps P J L λh7 v Y sb=>k _ (M.Xc hN hi J P Y sb)
  cases f with
  |next=>
   obtain⟨p,b,g,q⟩:=q;exact S g λy t=>⟨_,b,t,q⟩
  |brk=>
   obtain⟨p,b,g,q⟩:=q;exact S g λy t=>⟨_,b,t,q⟩
  |cont=>
   obtain⟨p,b,g,q⟩:=q;exact S g λy t=>⟨_,b,t,q⟩
  |ret u=>
   obtain⟨v,p,b,g,rv,q⟩:=q;exact S g λy t=>⟨v,_,b,t,rv,q⟩
def QS(c:Addr)(sp:Sp)(t:TA):TE:=λU H Q=>t U H λb a=>(∃o u,a c=some (.frz o u)/\Wl o)/\sp b a Q E0
def DN(h:t U H λb a=>(∃o u,a ea=some (.frz o u)/\Wl o)/\sp b a Q E0):QS ea sp t U H Q:=h
def Nc{p:Pos}{t:TA}(c:VQ X.prog X.w X.K X.mg X.base k x ps sp)(G:Z7 k' X.A)(M:k<=k')(N:Gl (X.ZH pn ea) x)(R:PA (X.ZH pn ea) (e::es) t)(n:(x==("__debug__" : Str))=false:=by decide)(O:starEach (e::es) (X.ZH pn ea).env=(false,eval e (X.ZH pn ea).env)::starEach es (X.ZH pn ea).env:=by rfl)(l:(backTo pos (starEach es (X.ZH pn ea).env)).any (·.1)=false:=by rfl):PE (X.ZH pn ea) (.Call (.Name x p) (e::es) [] pos) (QS ea sp t):=by
 obtain⟨f,Y,F,J,m,P⟩:=c;intro B s U H Q I h;refine Dt (eK I N J ?_ n);refine Ew (h₀:=X.base) I.ok.mod.Xs m (Z1 (R pos B s U H _ I h) λi j ⟨v,o,g,r,⟨E,C,z,V⟩,q⟩=>⟨g.ZK,?_⟩) O l;have y:=q
 have L:(i++[]).length=ps.length:=by rw[Be,<-r.length];exact F.len _ _ _ _ y
 have d:=P j i g.ZK L
 rw[Be]at d;have a:=g.Ye
 have T:YD X.prog X.w X.K X.mg X.base X.A X.stack j o:=⟨a.frames,a.mod,a.bs,a.X7,a.Zr,a.Xx,a.Z4,a.bare⟩
 refine Fv (Dy (F.run X.A ea X.stack j o ⟨i,[]⟩ i v Q (G.mono M) ⟨E,(g.Z4 ea _ z).1,V,.inr ⟨C,z⟩⟩ T d r y) λD W b=>?_);cases D with
 |error e=>exact False.elim b
 |ok S=>
  cases S with
  |ret u=>exact g.after b
  |next=>exact False.elim b
  |brk=>exact False.elim b
  |cont=>exact False.elim b
def Pl(K:W.Frag)(e:TE)(f:Str):TE:=λU H Q=>e U H λx c=>∃a C b d v o,x=.ref a/\c a=some (.frz o (jX a (.ref C) (some b)))/\c b=some (YT b d)/\XF K C/\W.findIn K (.ref C) f=some none/\d.lookup f=some v/\Q v c
def Jw{d:TE}{f:Str}(h:d U H λx c=>∃a C b e v o,x=.ref a/\c a=some (.frz o (jX a (.ref C) (some b)))/\c b=some (YT b e)/\XF K C/\W.findIn K (.ref C) f=some none/\e.lookup f=some v/\Q v c):Pl K d f U H Q:=h
def Qx{f:Str}{ta:TE}(hK:X.K=K)(he:PE X e ta)(hb:attributeBase e f X.env (eval e X.env)=eval e X.env):PE X (.Attribute e f pos) (Pl K ta f):=by
 subst hK;intro y3 s U H Q I h;refine Tx hb (Z1 (he y3 s U H _ I h) λu s1 μ=>?_);obtain⟨x,H1,I1,rx,ea,C,dx,fs,v,oz,ex,e1,e2,Z,n,l,q⟩:=μ;subst ex;obtain rfl:u=Value.ref ea:=rx;obtain⟨oe,vs,g,hc,hdi,hda⟩:=(I1.Z4 ea _ e1).2.1;obtain⟨⟨mA,ns,r,wi⟩,_⟩:=I1.Z4 dx _ e2;obtain⟨od,hI⟩:=jM I1.Z4 g hc hdi hda (λz e=>by cases e;exact⟨_,e2⟩)
 obtain⟨o,go,lo⟩:=sC ns;have hod:od=some o:=by
  have z:=hI.dict
  rw[hdi]at z;cases od with
  |none=>exact z.elim
  |some o'=>
   have z:s1.heap.get? dx=some o':=z
   rw[go]at z;exact z.symm
 subst hod;have rl:=r f
 rw[l]at rl;cases hu:mA f with
 |none=>rw[hu]at rl;exact rl.elim
 |some u=>
  rw[hu]at rl;exact Ro Z I1.ZK hI (W.findObj_own Z.cls n rfl (by rw[lo,hu])) (P8 rl) ⟨v,H1,I1.tok _,rl,q⟩
def xX:entryFor table "set.__iter__"=some Builtin.«frozenset.__iter__» := entryFor_alias (id' := "frozenset.__iter__") (by rw[Jf];kernel_rfl) (by first|rfl|right) (by right) (by rw[Jf];kernel_rfl)
def ZS:Slot "set_iterator" "__next__" "set_iterator.__next__" := .of (owner := "set_iterator") (n := "__next__") (by rw[typeLookup_type,builtinLookup_eq_fast];kernel_rfl) (by right) (by right) (by right) (by first|exact .inl (by right)|exact .inr (by right)) (by rw[isSubtype_type];kernel_rfl)
def oG:entryFor table "set_iterator.__next__"=some Builtin.«set_iterator.__next__» := entryFor_of_tree (by kernel_rfl)
def Y5(h:Heap)(c a:Addr)(b i n d:Nat):Prop:=∃o,h.get? c=some o/\o.cls=.type "set_iterator"/\o.data=.fields #[.int b 0,.int i 0,.ref a,.int n 0,.int d 0]
structure ZD (h:Heap) (a:Addr) (es:Array (Int×Value)) (ep:Nat) (t:SetTable):Prop where
 ob:∃o,h.get? a=some o/\o.cls=.type "set"/\o.data=.set es ep t
 fits:t.fits es.size=true
 plain:t.plain=true
 ris:X4 t.place
 sz:t.place.size=es.size
section
variable {es:Array (Int×Value)} {t:SetTable}
def D_{Q:Q2}(S:ZD s.heap a es ep t)(h:Q (.ref s.heap.objs.size) {s with heap:=s.heap.push {cls:=.type "set_iterator",data:=.fields #[.int 0 0,.int 0 0,.ref a,.int es.size 0,.int ep 0]}}):wpAny (model prog w) A (pyIter (.ref a)) Q E s:=by
 obtain⟨o,c,g,d⟩:=S.ob;have e:s.TypeIs (.ref a) "set" := ⟨o,c,g⟩
 refine wpAny_pyIter_slot e PySem.F.slot_set_iter (Dj PySem.F.slot_set_iter e xX ?_ (PySem.F.args_set_iter_1 _));show wpAny _ _ (Builtin.Frozenset.sizeOf a >>= _) _ _ s
 unfold Builtin.Frozenset.sizeOf setEntries;refine Ac (Ac (Ac (Cv c d S.fits (Ag (Ag ?_)))));refine Ac (Ac (Cv c d S.fits ?_));refine Ac (Ac (Fh (Ag (Ag ?_))));split
 .rename_i f
  have b:(!w.params.followText "set-order" && (!t.plain&&decide (es.size>1)))=true:=f
  rw[S.plain]at b;simp at b
 refine Ac (Ag ?_);refine Ac (Ac (Cv c d S.fits (Ag ?_)));exact Ac (Fq (Ag ⟨_,rfl, "set_iterator",_,⟨_,Au _ rfl,rfl⟩,ZS.lookup,h⟩) (by size_fits))
def qU(v:Value):argsOk "set_iterator.__next__" ⟨[v],[]⟩:=by
 kernel_rfl
noncomputable def fA(w:World)(a:Addr)(b:Nat)(es:Array (Int×Value)):Array (Int×Value):=if w.params.followText "set-order"=true then pickOrder (w.params.setOrder a b) es else es
noncomputable def bU(w:World)(t:SetTable)(i:Nat):Nat:=if w.params.followText "set-order"=true then 0 else if i=0 then 0 else t.place.getD (i-1) 0+1
def xG(R:X4 t.place)(m:i<=t.place.size):SetTable.below t.place (if i=0 then 0 else t.place.getD (i-1) 0+1)=i:=by
 obtain⟨h,a,d⟩:=lJ R (if i=0 then 0 else t.place.getD (i-1) 0+1)
 generalize SetTable.below t.place (if i=0 then 0 else t.place.getD (i-1) 0+1)=p at h a d ⊢
 by_cases c:i=0
 .rw[if_pos c]at a d;by_cases g:p=0
  .omega
  .obtain⟨v,b⟩:∃v,t.place[0]?=some v:=⟨_,Ar (by omega)⟩
   grind
 .rw[if_neg c]at a d;obtain⟨v,b⟩:∃v,t.place[i-1]?=some v:=⟨_,Ar (by omega)⟩
  have j:t.place.getD (i-1) 0=v:=by rw[Am,b];rfl
  rw[j]at a d;by_cases g:p<i
  .have:=d (i-1) v (by omega) b
   omega
  .by_cases e:i<p
   .obtain⟨u,f⟩:∃u,t.place[i]?=some u:=⟨_,Ar (by omega)⟩
    have l:=a i u e f
    have k:=R (i-1) i v u (by omega) b f
    omega
   .omega
def EU{x:Int×Value}{Q:Option Value->Shared->Prop}(S:ZD s.heap a es ep t)(I:w.params.followText "set-order"=true\/t.led=true)(p:Y5 s.heap it a (bU w t i) i es.size ep)(e:(fA w a ep es)[i]?=some x)(J:i<es.size)(K:∀u,Y5 u it a (bU w t (i+1)) (i+1) es.size ep->Heap.SameBut it s.heap u->Q (some x.2) {s with heap:=u}):wpAny (model prog w) A (pyNext (.ref it)) Q E s:=by
 obtain⟨o,n,M,q⟩:=S.ob;obtain⟨B,c,g,d⟩:=id p;have D:s.TypeIs (.ref it) "set_iterator" := ⟨B,c,g⟩
 unfold pyNext;refine Ac (Gm (wpAny_callSpecial?_slot (name:=Str.ofString "__next__") D ZS (Dj ZS D oG ?_ (qU _))));show wpAny _ _ (fieldsOf (.ref it) >>= _) _ _ s
 refine Ac (wpAny_fieldsOf c d ?_);dsimp only;unfold setEntries;refine Ac (Ac (Cv n q S.fits (Ag ?_)));dsimp only;rw[if_neg (by simp)]
 have m:wpAny (model prog w) A.in1 (setNext a (bU w t i) i ep) (λr k=>r=some (x.2,bU w t (i+1))/\k=s) (λ_ _=>False) s:=by
  unfold setNext;refine Ac (Cv n q S.fits ?_);dsimp only;unfold setsByText;refine Ac (Ac (Fh (Ag ?_)));by_cases b:w.params.followText "set-order"=true
  .have l:(pickOrder (w.params.setOrder a ep) es)[i]?=some x:=by unfold fA at e;rw[if_pos b]at e;exact e
   have v:bU w t (i+1)=bU w t i:=by unfold bU;rw[if_pos b,if_pos b]
   rw[v];show wpAny _ _ (if w.params.followText "set-order"=true then _ else _) _ _ s
   rw[if_pos b];show wpAny _ _ (if (ep != ep)=true then _ else _) _ _ s
   rw[if_neg (by simp)]
   unfold setWalk setsByText;refine Ac (Ac (Cv n q S.fits ?_));refine Ac (Ac (Fh (Ag ?_)));show wpAny _ _ (if w.params.followText "set-order"=true then _ else _) _ _ s
   rw[if_pos b];refine Ac (Fh (Ag (Ag ⟨?_,rfl⟩)));show ((pickOrder (w.params.setOrder a ep) es)[i]?).map _=_
   rw[l];rfl
  .have l:es[i]?=some x:=by unfold fA at e;rw[if_neg b]at e;exact e
   have f:=I.resolve_left b
   obtain⟨j,C⟩:∃j,t.place[i]?=some j:=⟨_,Ar (by rw[S.sz];exact J)⟩
   have v:bU w t (i+1)=j+1:=by
    unfold bU;rw[if_neg b,if_neg (Nat.succ_ne_zero i),Io,Am,C];rfl
   have L:SetTable.below t.place (bU w t i)=i:=by
    unfold bU;rw[if_neg b];exact xG S.ris (by rw[S.sz];omega)
   rw[v];show wpAny _ _ (if w.params.followText "set-order"=true then _ else _) _ _ s
   rw[if_neg b];show wpAny _ _ (if (!t.plain&&decide (es.size>1))=true then _ else _) _ _ s
   rw[if_neg (by rw[S.plain];simp)]
   show wpAny _ _ (do (if (!t.led && !es.isEmpty)=true then _ else _);_) _ _ s
   rw[if_neg (by rw[f];simp)]
   refine Ac (Ag (Ag ⟨?_,rfl⟩));rw[L,l,C]
 show wpAny _ _ (setNext a ((bU w t i:Nat):Int).toNat ((i:Nat):Int).toNat ((ep:Nat):Int).toNat >>= _) _ _ s
 rw[Cr,Cr,Cr];refine Ac (Cf m (λr k H=>?_) λ_ _ z=>z.elim);obtain⟨rfl,rfl⟩:=H;dsimp only;have G:(Obj.mapFields (λx=>x.setIfInBounds 0 (rawInt ((bU w t (i+1):Nat):Int))) B).isFreed=false:=Obj.isFreed_of_fields (Ey d _)
 have F:=Dx (h:=k.heap) (Obj.mapFields λx=>x.setIfInBounds 0 (rawInt ((bU w t (i+1):Nat):Int))) c G
 refine wpAny_bind (wpAny_setField c d (by simp) ?_)
 have y:=Ey d λx=>x.setIfInBounds 0 (rawInt ((bU w t (i+1):Nat):Int))
 refine wpAny_bind (wpAny_setField F y (by simp) ?_)
 refine Ag ⟨_,rfl,Ag (K _ ⟨_,Dx _ F (Obj.isFreed_of_fields (Ey y _)),?_,?_⟩ ((Dw ..).trans (Dw ..)))⟩
 .rw[Obj.cls_mapFields,Obj.cls_mapFields];exact g
 .rw[Ey y];rfl
def Lr{Q:Option Value->Shared->Prop}(G:A.handled=some (.ref ea))(l:ea≠it)(q:ZZ s.heap ea)(S:ZD s.heap a es ep t)(F:w.params.followText "set-order"=true\/t.led=true)(e:(fA w a ep es).size=es.size)(n:Y5 s.heap it a (bU w t es.size) es.size es.size ep)(H:∀y,Heap.ExtBut it s.heap y->Q none {s with heap:=y}):wpAny (model prog w) A (pyNext (.ref it)) Q E s:=by
 obtain⟨o,k,K,p⟩:=S.ob;obtain⟨C,b,u,i⟩:=id n;have v:s.TypeIs (.ref it) "set_iterator" := ⟨C,b,u⟩
 unfold pyNext;refine Ac (Gm (wpAny_callSpecial?_slot (name:=Str.ofString "__next__") v ZS (Dj ZS v oG ?_ (qU _))));show wpAny _ _ (fieldsOf (.ref it) >>= _) _ _ s
 refine Ac (wpAny_fieldsOf b i ?_);dsimp only;unfold setEntries;refine Ac (Ac (Cv k p S.fits (Ag ?_)));dsimp only;rw[if_neg (by simp)]
 have j:wpAny (model prog w) A.in1 (setNext a (bU w t es.size) es.size ep) (λr c=>r=none/\c=s) (λ_ _=>False) s:=by
  unfold setNext;refine Ac (Cv k p S.fits ?_);dsimp only;unfold setsByText;refine Ac (Ac (Fh (Ag ?_)));by_cases d:w.params.followText "set-order"=true
  .have B:(pickOrder (w.params.setOrder a ep) es)[es.size]?=none:=by unfold fA at e;rw[if_pos d]at e;exact Da (by omega)
   show wpAny _ _ (if w.params.followText "set-order"=true then _ else _) _ _ s
   rw[if_pos d];show wpAny _ _ (if (ep != ep)=true then _ else _) _ _ s
   rw[if_neg (by simp)]
   unfold setWalk setsByText;refine Ac (Ac (Cv k p S.fits ?_));refine Ac (Ac (Fh (Ag ?_)));show wpAny _ _ (if w.params.followText "set-order"=true then _ else _) _ _ s
   rw[if_pos d];refine Ac (Fh (Ag (Ag ⟨?_,rfl⟩)));show ((pickOrder (w.params.setOrder a ep) es)[es.size]?).map _=_
   rw[B];rfl
  .have g:=F.resolve_left d
   have I:SetTable.below t.place (bU w t es.size)=es.size:=by
    unfold bU;rw[if_neg d];exact xG S.ris (by rw[S.sz];exact Ah _)
   show wpAny _ _ (if w.params.followText "set-order"=true then _ else _) _ _ s
   rw[if_neg d];show wpAny _ _ (if (!t.plain&&decide (es.size>1))=true then _ else _) _ _ s
   rw[if_neg (by rw[S.plain];simp)]
   show wpAny _ _ (do (if (!t.led && !es.isEmpty)=true then _ else _);_) _ _ s
   rw[if_neg (by rw[g];simp)]
   refine Ac (Ag (Ag ⟨?_,rfl⟩));rw[I,Da (Ah _)]
 show wpAny _ _ (setNext a ((bU w t es.size:Nat):Int).toNat ((es.size:Nat):Int).toNat ((ep:Nat):Int).toNat >>= _) _ _ s
 rw[Cr,Cr,Cr];refine Ac (Cf j (λr c D=>?_) λ_ _ z=>z.elim);obtain⟨rfl,rfl⟩:=D;dsimp only;refine wpAny_bind (wpAny_setField b i (by simp) ?_)
 have J:=((Dw (h:=c.heap) (a:=it) (f:=Obj.mapFields λx=>x.setIfInBounds 2 Value.none)).extBut.push {cls:=Value.type "tuple",data:=Data.seq #[]}).push (⟨.type "StopIteration",none,.fields (#[.ref (c.heap.update it (Obj.mapFields λx=>x.setIfInBounds 2 Value.none)).objs.size,.none,.none,.none,.bool false,.none]++ownMembersOf (Value.type "StopIteration") []),#[]⟩:Obj)
 exact nD (s:=c) (h1:=c.heap.update it (Obj.mapFields λx=>x.setIfInBounds 2 Value.none)) rfl rfl (by rw[Array.size_append];exact Nat.lt_of_lt_of_le (show 2<6 by decide) (Nat.le_add_right _ _)) rfl J (by simp) G l q H
end
section
variable {R:Result->Shared->Prop} {old:Heap} {J:Nat->Obj->Prop}
theorem wK(F:Uq prog w A.in1 old S vs J)(B:A.in1.handled=some (.ref ea))(g:ea≠it)(m:ZZ old ea)(f:l≠S)(a:it≠S)(d:l≠it)(v:old.get? S=none)(p:old.get? it=none):∀k i s o,k+i=vs.length->s.heap.IsListIter it l i->s.heap.IsList l vs.toArray->(∀b u,old.get? b=some u->s.heap.get? b=some u)->
 s.heap.get? S=some o->J i o->(∀h' tk o',(∀b u,old.get? b=some u->h'.get? b=some u)->h'.get? S=some o'->J vs.length o'->R (.ok (.ret .none)) {s with heap:=h',toks:=tk})->
 codeAny (model prog w) A (.builtin "set.update.loop" ⟨[.ref S,.ref it],[]⟩) R s
 |0,i,s,o,hk,hi,hl,ho,hS,hJ,q=>by
  obtain rfl:i=vs.length:=by omega
  refine zM ?_;unfold Builtin.«set.update.loop»;dsimp only;refine wpAny_bind (sN B g (m.ext λu e=>ho ea u e) hi hl (by simp) λh' x=>wpAny_pure ?_)
  exact q h' s.toks o (λb u e=>x b u (λz=>by rw[z,p]at e;cases e) (ho b u e)) (x S o a.symm hS) hJ
 |k+1,i,s,o,hk,hi,hl,ho,hS,hJ,q=>by
  have j:i<vs.length:=by omega
  refine zM ?_;unfold Builtin.«set.update.loop»;dsimp only;refine wpAny_bind (wpAny_pyNext_list_item hi hl (x:=vs[i]) (by simp[j]) λh1 E x1=>?_)
  dsimp only;have I:=(x1.2 S a.symm).trans hS
  have l1:=hl.extBut x1.extBut d
  have y:=λb u e=>(x1.2 b λz=>by rw[z,p]at e;cases e).trans (ho b u e)
  refine Ac (Cb (F i vs[i] {s with heap:=h1} o _ _ (Aa j) y I hJ λc h2 tk C n H D=>?_))
  have t:=λb u e=>(n.2 b λz=>by rw[z,v]at e;cases e).trans (y b u e)
  refine Ag ⟨Gc PyProof.Rows.F.plain_set_update_loop _,wK F B g m f a d v p k (i+1) {s with heap:=h2,toks:=tk} C (by omega) ?_ (l1.extBut n.extBut f) t H D q⟩
  obtain⟨u,G,r⟩:=E;exact⟨u,(n.2 it a).trans G,r⟩
end
def G4(a:Value){Q₁:Q2}(h:Q₁ (.ref s.heap.objs.size) {s with heap:=s.heap.push (bare (!w.params.followText "set-order"))}):codeAny (model prog w) A (.call (.builtin "set.__new__") ⟨[.type "set",a],[]⟩) (wants Q₁ E) s:=by
 refine codeAny_of_tree (show wpAny _ A.in1 _ _ _ s from Ac (Jm (PySem.F.newCall_set_1 a) (Ag ⟨Gc PySem.F.plain_set_new _,Et PySem.F.entry_set_new ?_⟩)))
 have d:=sub_set_self
 wp_walk
 refine Fh (Ag ?_);exact Ac (wpAny_alloc (Ag (Ag h)))
def HL{x:Value}{Q:Q2}(h:wpAny (model prog w) A.in1.in1 (Builtin.«set.__init__» ⟨[.ref s.heap.objs.size,x],[]⟩)
 (λn l=>match n with|.done f=>wants (λr a=>r=.none/\Q (.ref s.heap.objs.size) a) E (.ok f) l|.again o=>o.quiet=true/\codeAny (model prog w) A.in1 o (wants (λr a=>r=.none/\Q (.ref s.heap.objs.size) a) E) l)
 (λe l=>wants (λr a=>r=.none/\Q (.ref s.heap.objs.size) a) E (.error e) l) {s with heap:=s.heap.push (bare (!w.params.followText "set-order"))}):wpAny (model prog w) A (call (.type "set") [x]) Q E s:=by
 have g:=PySem.F.called_set
 have p:=PySem.F.typeCall_set_1 x
 obtain⟨_,_,G⟩:=g.mro;have D:=g.made
 have C:=g.sub
 have B:=g.notType
 have z:=g.canCreate
 refine Fv (codeAny_of_tree (show wpAny _ _ (callAny (.type "set") _) _ _ _ from Ag ⟨Il _ (by right),Et PySem.F.entry_type_call (by
  rw[Around.under_plain (weight_type_call_type "set" [x] []) rfl];repeat any_goals first|assumption|wp_step
  refine Dy (G4 x (E:=E) (Q₁:=λk d=>k=.ref s.heap.objs.size/\d={s with heap:=s.heap.push (bare (!w.params.followText "set-order"))}) ⟨rfl,rfl⟩) λr d m=>?_
  rcases r with e|t
  .exact m
  .cases t with
   |ret k=>
    obtain⟨rfl,rfl⟩:=m;have q:Shared.TypeIs {s with heap:=s.heap.push (bare (!w.params.followText "set-order"))} (.ref s.heap.objs.size) "set" := ⟨_,Au _ rfl,rfl⟩
    have y:=g.init.lookup
    have v:=g.init.bind (.ref s.heap.objs.size)
    repeat any_goals first|assumption|wp_step
    refine Dy (Fn g.init.plain PySem.F.entry_set_init (check_set_init_1 q h)) λj a b=>?_;rcases j with e|i
    .exact b
    .cases i with
     |ret r=>
      obtain⟨rfl,u⟩:=b;repeat any_goals first|assumption|wp_step
     |_=>exact b.elim
   |_=>exact m.elim)⟩))
def pX{J:Nat->Obj->Prop}{Q:Q2}(N:A.handled=some (.ref ea))(p:ZZ s.heap ea)(M:s.heap.IsList l vs.toArray)(B:J 0 (bare (!w.params.followText "set-order")))(F:∀G,G.units<=A.units+8->Uq prog w G s.heap s.heap.objs.size vs J)(h:∀q r o,(∀b u,s.heap.get? b=some u->q.get? b=some u)->q.get? s.heap.objs.size=some o->J vs.length o->Q (.ref s.heap.objs.size) {s with heap:=q,toks:=r}):wpAny (model prog w) A (call (.type "set") [.ref l]) Q E s:=by
 refine HL ?_;generalize C:(!w.params.followText "set-order")=c at B ⊢;obtain⟨⟨k,g,i,d⟩,m,x,t,v⟩:=id M;obtain rfl:k=.type "list" := x;obtain rfl:i=.seq vs.toArray t:=v;have D:(s.heap.push (bare c)).get? s.heap.objs.size=some (bare c):=Au _ rfl
 have f:(s.heap.push (bare c)).get? l=some {cls:=.type "list",dict:=g,data:=.seq vs.toArray t,slots:=d}:=Af _ m
 have j:(s.heap.push (bare c)).IsList l vs.toArray:=⟨_,f,rfl,t,rfl⟩
 have T:=PySem.F.sub_list_set
 have S:=PySem.F.sub_list_frozenset
 have R:(Value.type "list" == Value.type "dict")=false:=by decide
 unfold bare at D f j;unfold bare Builtin.«set.__init__» noKeywords Builtin.Frozenset.updateFrom;generalize z:pyIter=U
 wp_walk
 subst z;refine Fb j (Ac (wpAny_runValue ?_));have n:l<s.heap.objs.size:=Aq m
 have a:∀b,s.heap.objs.size<=b->s.heap.get? b=none:=λb y=>by
  cases e:s.heap.get? b with
  |none=>rfl
  |some u=>exact absurd (Aq e) (Nat.not_lt.mpr y)
 refine wK (A:=A.in1.in1) (old:=s.heap) (l:=l) (vs:=vs) (J:=J) (F _ (by show A.units+1+1+1<=A.units+8;omega)) N ?_ p (Bc n) ?_ ?_ (a _ (Ah _)) (a _ ?_) vs.length 0 _ (bare c) rfl ⟨_,Au _ rfl,rfl,rfl⟩ (j.push _)
  (λb u e=>Af _ (Af _ e)) (Af _ D) B λq r H L K I=>?_
 .obtain⟨P,_,O,_⟩:=p;rw[Ed];exact Bc (Fd (Aq O))
 .rw[Ed];exact Fi (Ej _)
 .rw[Ed];exact Bc (Fd n)
 .rw[Ed];exact Iq _
 .exact Ag (Ag ⟨rfl,h q r H L K I⟩)
def qA{t t':SetTable}(h:t.relaid hs wanted=some (t',order)):t'.led=t.led/\t'.plain=t.plain:=by
 unfold SetTable.relaid SetTable.laid at h;cases e:SetTable.layClean _ hs with
 |none=>rw[e]at h;cases h
 |some a=>rw[e]at h;cases h;exact⟨rfl,rfl⟩
def VP(b:Bool)(d:Nat->Int)(c:Nat->Value)(i:Nat)(o:Obj):Prop:=o.ExactSet/\∃a f t,o.data=.set a f t/\(t.led=b/\t.plain=true)/\t.mask=cJ i/\t.dummies=#[]/\t.place.size=a.size/\a.size=i/\X4 t.place/\(∀e∈a.toList,∃j,j<i/\e=(d j,c j))/\∀j,j<i->(d j,c j)∈a.toList
def BK{es:Array (Int×Value)}{t:SetTable}{Q:Unit->Shared->Prop}(f:s.heap.get? S=some o)(h:o.data=.set es ep t)(k:t.fits es.size=true)(F:Full (SetTable.sizeAbove wanted))(j:0<SetTable.sizeAbove wanted)(g:SetTable.sizeAbove wanted<=100000)(hs:es.size<=SetTable.sizeAbove wanted)(q:∀c a,a.mask=SetTable.sizeAbove wanted-1->a.dummies=#[]->a.place.size=es.size->c.size=es.size->X4 a.place->(∀e,e∈c.toList ↔ e∈es.toList)->a.led=t.led/\a.plain=t.plain->Q () {s with heap:=s.heap.update S (Obj.putSet c a)}):wpAny (model prog w) A (setRelay S wanted) Q E s:=by
 obtain⟨a,b,i,r,p,n,d,m,l⟩:=uW (t:=t) (es:=es) F j hs;unfold setRelay;refine Ac (Cv f h k ?_);dsimp only;rw[if_neg (Nat.not_lt.mpr (bH g)),i];refine Ac ?_;show wpAny _ _ (if _ then _ else pure (b.filterMap (es[·]?),a)) _ _ _
 rw[if_neg (by rw[d,bne_self_eq_false];exact Av)]
 refine Ag (Jg f h (q _ a r p n d m l (qA i)) ?_);rw[d];exact Bo hs (bH g)
def Np{old:Heap}{ks:List (List Int)}(hu:A.units<cLine)(hk:∀i v,vs[i]?=some v->∃a,v=.ref a/\IsTupleKey (PySem.intKind prog w) old (ks.getD i []) a)(hl:vs.length<=76)(ne:∀i j,i<j->j<vs.length->tupleKeyHash (PySem.intKind prog w) (ks.getD i [])≠tupleKeyHash (PySem.intKind prog w) (ks.getD j [])):Uq prog w A old S vs (VP Y (λj=>tupleKeyHash (PySem.intKind prog w) (ks.getD j [])) (λj=>vs.getD j .none)):=by
 intro i v s o E Q hv G hS hJ q;obtain⟨a,rfl,c2⟩:=hk i v hv;obtain⟨oa,c,n,a2,a8,a7,y⟩:=c2;have c3:=(Ae.mp hv).1
 have a5:vs.getD i .none=.ref a:=by rw[Ad,hv];rfl
 have a4:IsTupleKey (PySem.intKind prog w) s.heap (ks.getD i []) a:=⟨oa,c,n,G _ _ a2,a8,a7,y⟩
 obtain⟨hx,g,ep,t,hd,c1,h,B,x,f,hR,a6,c4⟩:=hJ;have hF:=Ov h
 have a3:g.size<=t.mask:=by rw[f,h];exact jN (by omega)
 have l:=nM x B a3
 unfold setAdd;refine Cb (Ac (wpAny_pyHash_tuple hu a4 ?_));generalize hH:tupleKeyHash (PySem.intKind prog w) (ks.getD i [])=hh;unfold setAddHashed;rw[show (100000:Nat)=99999+1 from rfl];unfold setAddHashedIn;refine Cb (Ac (Cv hS hd l ?_));dsimp only;rw[show byScan (.ref a) g=false from rfl];simp only[Bool.false_eq_true,if_false];have b7:∀e∈g.toList,e.1≠hh:=λe N z=>by
  obtain⟨j,R,ej⟩:=a6 e N;rw[ej]at z;exact ne j i R c3 (z.trans hH.symm)
 refine Ac (JX hS hd l hF.1 hF.2 B x a3 b7 λb b5=>?_);dsimp only;refine Ac (Cv hS hd l ?_);dsimp only;have W:(t.put b).1.mask=t.mask:=rfl
 have X:(t.put b).1.led=Y/\(t.put b).1.plain=true:=c1
 have V:(t.put b).1.dummies=#[]:=by
  show (if SetTable.has t.dummies b=true then _ else t.dummies)=_
  rw[B];rfl
 have U:(t.put b).1.place.size=g.size+1:=(iJ _ _ _).trans (by rw[x])
 have p4:=PB B hR b5
 have p6:(t.put b).2<=g.size:=by rw[<-x];exact(lJ hR b).1
 generalize t.put b=tp at X W V U p4 p6 ⊢;obtain⟨F,p⟩:=tp;dsimp only at X W V U p4 p6 ⊢;have I:(SetTable.insertAt g p (hh,Value.ref a)).size=g.size+1:=iJ _ _ _
 have z2:∀e∈(SetTable.insertAt g p (hh,Value.ref a)).toList,∃j,j<i+1/\e=(tupleKeyHash (PySem.intKind prog w) (ks.getD j []),vs.getD j .none):=λe N=>by
  rcases xC N with rfl|N
  .exact⟨i,Ej _,by rw[hH,a5]⟩
  .obtain⟨j,R,ej⟩:=a6 e N;exact⟨j,Fd R,ej⟩
 have z3:∀j,j<i+1->(tupleKeyHash (PySem.intKind prog w) (ks.getD j []),vs.getD j .none)∈(SetTable.insertAt g p (hh,Value.ref a)).toList:=λj R=>by
  by_cases e:j=i
  .subst e;exact jY p6 (.inl (by rw[hH,a5]))
  .exact jY p6 (.inr (c4 j (by omega)))
 generalize SetTable.insertAt g p (hh,Value.ref a)=m at I z2 z3 ⊢;have D:∀ r,r={ s with toks:=r.toks }->wpAny (model prog w) A (do
     storeSet S m F
     if (!false&&F.tooFull)=true then do
      setRelay S (SetTable.grown (g.size+1))
      pure true
     else pure true) Q E r:=by
  intro r C;have a9:r.heap.get? S=some o:=by rw[C];exact hS
  obtain⟨o1,J,Z,O,T⟩:=Ut m F a9 hx hd;have c6:i<76:=by omega
  refine Ac (Jg a9 hd ?_ (by rw[I];exact bH (by omega)))
  have a1:Heap.SameBut S s.heap (r.heap.update S (Obj.putSet m F)):=by rw[C]at T ⊢;exact T
  have M:F.tooFull=decide (cJ i*3<=(i+1)*5):=by
   unfold SetTable.tooFull SetTable.fill;rw[W,V,U,h,f];rfl
  rw[M];by_cases H:cJ i*3<=(i+1)*5
  .rw [An H];simp only [Bool.not_false,Bool.and_self,if_true];have d:(i=4\/i=18):=by
    unfold cJ at H;split at H
    .omega
    .split at H<;>omega
   have hw:SetTable.sizeAbove (SetTable.grown (g.size+1))=cJ (i+1)+1:=by
    rw[f];rcases d with z|z<;>rw[z]<;>rfl
   have c7:=jN (i:=i+1) (by omega)
   have b9:i+1<=F.mask:=by rw[W,h];rcases d with z|z<;>rw[z]<;>decide
   have c8:cJ (i+1)<=127:=by rcases d with z|z<;>rw[z]<;>decide
   refine Ac (BK (s:={r with heap:=r.heap.update S (Obj.putSet m F)}) J O (nM (U.trans I.symm) V (by rw[I,f];exact b9)) (by rw[hw];exact(rV _).1) (by omega) (by omega) (by omega) λb1 t2 m1 m2 m3 m4 m5 m6 m8=>Ag ?_)
   obtain⟨o2,b6,b3,c5,b2⟩:=Ut b1 t2 J Z O;have:=q true _ r.toks o2 (a1.trans b2) b6 ⟨b3,b1,_,t2,c5,⟨m8.1.trans X.1,m8.2.trans X.2⟩,by rw[m1,hw];rfl,m2,by rw[m3,m4],by rw[m4,I,f],m5,λe N=>z2 e ((m6 e).mp N),λj R=>(m6 _).mpr (z3 j R)⟩
   rw[C]at this ⊢;exact this
  .rw [As H];simp only [Bool.not_false,Bool.and_false,Bool.false_eq_true,if_false];have b8:cJ (i+1)=cJ i:=by
    unfold cJ at H ⊢;split at H
    .rw[if_pos (by omega)];rename_i h4;rw[if_pos h4]
    .rename_i h4
     rw[if_neg (by omega),if_neg h4]
     split at H
     .rename_i P;rw[if_pos (by omega),if_pos P]
     .rename_i P;rw[if_neg (by omega),if_neg P]
   have:=q true _ r.toks o1 a1 J ⟨Z,m,_,F,O,X,by rw[W,h,b8],V,by rw[U,I],by rw[I,f],p4,z2,z3⟩
   refine Ag ?_;rw[C]at this ⊢;exact this
 have K:∀v∈c.toList,∃k t,v=.int k t:=by
  generalize c.toList=L at y;generalize ks.getD i []=kk at y;induction y with
  |nil=>exact λv hv=>nomatch hv
  | @cons k v _ _ h1 _ ih=>
   intro u b4;rcases Bb.mp b4 with rfl|z
   .obtain⟨t',rfl⟩:=Value.isInt_shape h1;exact⟨_,t',rfl⟩
   .exact ih u z
 split
 .exact Ac (A1 (G _ _ a2) a8 a7 K (D _ rfl))
 .exact Ac (Ag (D _ rfl))
def zN(c:Bool)(f:Nat->Int)(d:Nat->Value):VP c f d 0 (bare c):=⟨⟨rfl,rfl,rfl⟩,#[],0,.fresh 0 0 c,rfl,⟨rfl,rfl⟩,rfl,rfl,rfl,rfl,(λi k a b _ h=>by simp[SetTable.fresh]at h),(λe l=>by cases l),λj g=>absurd g (Nat.not_lt_zero _)⟩
theorem iP:∀ {L M:List α},L.Nodup->(∀x∈L,x∈M)->M.length=L.length->M.Perm L
 |[],M,_,_,hl=>by
  simp_all
 |x::r,M,nd,hs,hl=>by
  have c:=Co.mp nd
  obtain⟨a,b,e⟩:=List.append_of_mem (hs x Al);subst e;have g:=iP (L:=r) (M:=a++b) c.2 (λy d=>by grind) (by grind)
  exact List.perm_middle.trans (g.cons x)
def KI{l:List α}(h:i<l.length):([l[i]]++l.eraseIdx i).Perm l:=by
 have e:l=l.take i++l[i]::l.drop (i+1):=by simp_all
 rw[List.eraseIdx_eq_take_drop_succ];refine List.Perm.trans ?_ (List.Perm.of_eq e.symm);show (l[i]::(List.take i l++List.drop _ l)).Perm _
 exact List.perm_middle.symm
theorem Qa(b:Nat->Nat):∀a k left (c:Array α),left.length=a->(pickOrder.go b a k left c).toList.Perm (c.toList++left)
 |0,k,left,c,h=>by
  rw[List.length_eq_zero_iff.mp h,Be];unfold pickOrder.go;simp_all
 |a+1,k,left,c,h=>by
  have d:b k%left.length<left.length:=Nat.mod_lt _ (by omega)
  unfold pickOrder.go;rw[Aa d];refine(Qa b a (k+1) _ _ (by grind)).trans ?_
  rw[Array.toList_push,Gi];exact List.Perm.append_left _ (KI d)
def D4(a:Nat->Nat)(xs:Array α):(pickOrder a xs).toList.Perm xs.toList:=Qa a xs.size 0 xs.toList #[] (by simp)
def wL(w:World)(a:Addr)(b:Nat)(es:Array (Int×Value)):(fA w a b es).toList.Perm es.toList:=by
 unfold fA;split
 .exact D4 _ _
 simp_all
def qZ(w:World)(a:Addr)(b:Nat)(es:Array (Int×Value)):(fA w a b es).size=es.size:=by
 have:=(wL w a b es).length_eq
 omega
def Rf{d:Bool}{g:Nat->Int}{k:Nat->Value}(h:VP d g k n o)(D:∀i j,i<j->j<n->g i≠g j)(A:n<=76):∃c v t,o.ExactSet/\o.data=.set c v t/\t.fits c.size=true/\t.plain=true/\t.led=d/\X4 t.place/\t.place.size=c.size/\(c.toList.map (·.2)).Perm ((List.range n).map k):=by
 obtain⟨l,c,v,t,E,⟨B,y⟩,m,s,f,e,G,_,r⟩:=h;refine⟨c,v,t,l,E,nM f s (by rw[e,m];exact jN A),y,B,G,f,?_⟩
 have w:((List.range n).map λj=>(g j,k j)).Nodup:=by
  refine Fs.mpr (Ih (R:=(· < ·)) (fun {a b} H F u z=>D a b u (Bh.mp F) (Prod.mk.inj z).1) Ha)
 have p:=iP w (M:=c.toList) (λx l=>by
  obtain⟨j,C,rfl⟩:=Bg.mp l;exact r j (List.mem_range.mp C)) (by rw[List.length_map,List.length_range];have:=e;simpa using this)
 have q:=p.map (·.2)
 rw[Bz]at q;exact q
def Y5.at{b:Nat}(x:Y5 h it a b i n ep)(k:∀o,h.get? it=some o->h'.get? it=some o):Y5 h' it a b i n ep:=by
 obtain⟨o,e,q⟩:=x;exact⟨o,k o e,q⟩
def ZD.at{es:Array (Int×Value)}{t:SetTable}(x:ZD h a es ep t)(k:∀o,h.get? a=some o->h'.get? a=some o):ZD h' a es ep t:=by
 obtain⟨⟨o,e,q⟩,f,d,c,b⟩:=x;exact⟨⟨o,k o e,q⟩,f,d,c,b⟩
def qL:Slot "set_iterator" "__iter__" "set_iterator.__iter__" := .of (owner := "set_iterator") (n := "__iter__") (by rw[typeLookup_type,builtinLookup_eq_fast];kernel_rfl) (by right) (by right) (by right) (by first|exact .inl (by right)|exact .inr (by right)) (by rw[isSubtype_type];kernel_rfl)
def xY:entryFor table "set_iterator.__iter__"=some Builtin.«dict_keyiterator.__iter__» := entryFor_alias (id' := "dict_keyiterator.__iter__") (by rw[Jf];kernel_rfl) (by first|rfl|right) (by right) (by rw[Jf];kernel_rfl)
def C2(v:Value):argsOk "set_iterator.__iter__" ⟨[v],[]⟩:=by
 kernel_rfl
section
variable {es:Array (Int×Value)} {t:SetTable}
def E9{b:Nat}{Q:Q2}(c:Y5 s.heap it a b i n ep)(h:Q (.ref it) s):wpAny (model prog w) A (pyIter (.ref it)) Q E s:=by
 obtain⟨o,e,f,_⟩:=c;have d:s.TypeIs (.ref it) "set_iterator" := ⟨o,e,f⟩
 refine wpAny_pyIter_slot d qL (Dj qL d xY ?_ (C2 _));exact Ag ⟨_,rfl, "set_iterator",_,d,ZS.lookup,h⟩
def FL(r:w.params.followText "set-order"=true\/t.led=true)(x:A.handled=some (.ref ea))(l:a≠it)(d:ea≠it):Walks prog w A it [it,a,ea] [it] es.size (λi v=>((fA w a ep es)[i]?).map (·.2)=some v) (λi h=>(Y5 h it a (bU w t i) i es.size ep/\ZD h a es ep t)/\ZZ h ea) where
 sub:=λb f=>by rw[Aj.mp f];exact Al
 frame:=λ_ _ _ c m=>⟨⟨c.1.1.at λo e=>m it (by simp) o e,c.1.2.at λo e=>m a (by simp) o e⟩,c.2.ext λo e=>m ea (by simp) o e⟩
 item:=λi s Q E u c g=>by
  have n:i<(fA w a ep es).size:=by rw[qZ];exact u
  have q:=Ar n
  refine EU c.1.2 r c.1.1 q u λp k j=>?_;exact g _ p s.toks (by rw[q];rfl) ⟨⟨k,c.1.2.at λo e=>j.extBut a o l e⟩,c.2.ext λo e=>j.extBut ea o d e⟩ λb o f e=>j.extBut b o (λz=>f (by simp_all)) e
 done:=λs Q E c g=>Lr x d c.2 c.1.2 r (qZ w a ep es) c.1.1 λp y=>g p s.toks λb o f e=>y b o (λz=>f (by rw[z];exact Aj.mpr rfl)) e
 self:=λ_ _ _ _ c g=>E9 c.1.1 g
def zm{Q:Bool->Shared->Prop}(c:s.TypeIs (.ref a) "set")(h:Q false s):wpAny (model prog w) A (Builtin.List.listLengthHint (.ref a)) Q E s:=by
 refine Ac (Fw c PySem.F.slot_set_len.lookup ?_);generalize d:_=e
 subst d;refine Ac (wpAny_isInstance (T := "set")  c sub_set_self (wpAny_ite_split (λz=>absurd z (by decide)) λ_=>wpAny_ite_split (λ_=>Ac (wpAny_typeOf c (Ag h))) λz=>absurd (by right) z))
abbrev lQ(w:World)(a:Addr)(ep:Nat)(es:Array (Int×Value))(i:Nat)(v:Value):Prop:=((fA w a ep es)[i]?).map (·.2)=some v
def Ju{R:Result->Shared->Prop}(Z:ZD s.heap a es ep t)(hl:w.params.followText "set-order"=true\/t.led=true)(hh:A.in1.handled=some (.ref ea))(r:ZZ s.heap ea)(D:Addr)(q:D≠a)(C:D≠ea)(i:Value)(l:Nat)(Q:s.heap.get? D=some {cls:=.type "list",data:=.seq #[] l})(hn:es.size<=sizeLine)(hR:∀J v j c,(∀b o,b≠D->s.heap.get? b=some o->J.get? b=some o)->J.get? D=some {cls:=.type "list",dict:=none,data:=.seq j c,slots:=#[]}->ItemsOf (lQ w a ep es) j es.size->R (.ok (.ret i)) {s with heap:=J,toks:=v}):wpAny (model prog w) A.in1 (Builtin.List.listExtendWith (.ref D) (.ref a) i) (λK x=>match K with|.done f=>R (.ok f) x|.again U=>U.quiet=true/\codeAny (model prog w) A U R x) (λe x=>R (.error e) x) s:=by
 obtain⟨o,I,P,hd⟩:=Z.ob;have hT:s.TypeIs (.ref a) "set" := ⟨o,I,P⟩
 have G:=Aq I
 obtain⟨oe,fe,he,a1⟩:=id r;have E:=Aq he
 have H:=Aq Q
 have N:D∉[s.heap.objs.size,a,ea]:=by grind
 have W:Walks prog w A.in1 s.heap.objs.size [s.heap.objs.size,a,ea] [s.heap.objs.size] es.size (lQ w a ep es) _:=FL (t:=t) hl hh (Bc G) (Bc E)
 have S:∀ d g v,((Y5 d s.heap.objs.size a (bU w t 0) 0 es.size ep/\ZD d a es ep t)/\ZZ d ea)->(∀ b u,b≠D->s.heap.get? b=some u->d.get? b=some u)->d.get? D=some { cls:=.type "list",data:=.seq #[] g }->
     codeAny (model prog w) A (.builtin "list.extend.loop" ⟨[.ref D,.ref s.heap.objs.size,i],[]⟩) R {s with heap:=d,toks:=v}:=λd g v X Y e1=>by
  refine codeAny_extend_loopS W.toS hn D N i es.size 0 _ #[] g rfl (Ci _) X e1 (ItemsOf.nil _) λM j c O e2 i2=>?_;rw[Moved.eq_with O];exact hR M.heap M.toks j c (λb u m e=>O.heap b u (λhm=>(Bb.mp hm).elim m λz=>absurd (Aq e) (by rw[Aj.mp z];exact Eg _)) (Y b u m e)) e2 i2
 have n:∀ {d:Heap},(∀b u,(b=s.heap.objs.size\/b=a\/b=ea)->(s.heap.push {cls:=.type "set_iterator",data:=.fields #[.int 0 0,.int 0 0,.ref a,.int es.size 0,.int ep 0]}).get? b=some u->d.get? b=some u)->(Y5 d s.heap.objs.size a (bU w t 0) 0 es.size ep/\ZD d a es ep t)/\ZZ d ea:=fun {d} k=>by
  refine⟨⟨⟨_,k _ _ (.inl rfl) (Au _ rfl),rfl,?_⟩,Z.at λu e=>k a u (.inr (.inl rfl)) (Af _ e)⟩,r.ext λu e=>k ea u (.inr (.inr rfl)) (Af _ e)⟩;have e0:bU w t 0=0:=by unfold bU;split<;>rfl
  rw[e0];rfl
 unfold Builtin.List.listExtendWith;refine Ac (wpAny_typeOf (T := "set") hT ?_);simp only[show Builtin.List.listSameRef (.ref D) (.ref a)=false by simp[Builtin.List.listSameRef,q],show (Value.type "set" == Value.type "list")=false by decide,show (Value.type "set" == Value.type "tuple")=false by decide,Bool.or_false,Bool.false_eq_true,if_false]
 refine Ac (D_ Z (Ac (Cb (zm ⟨o,Af _ I,P⟩ ?_))));have B:=Af {cls:=.type "set_iterator",data:=.fields #[.int 0 0,.int 0 0,.ref a,.int es.size 0,.int ep 0]} Q
 refine wpAny_ite_split (λ_=>Ac (wpAny_rule (Ac ?_))) λ_=>Ag ⟨Gc PySem.F.plain_extend_loop _,S _ l _ (n λb u _ e=>e) (λb u _ e=>Af _ e) B⟩;show wpAny _ _ (updateSeq D (·.push .none) >>= λ_=>updateSeq D (·.pop)) _ _ _
 refine Ac (wpAny_updateSeq B rfl ?_);have L:=Dx (Obj.mapSeq (·.push Value.none)) B rfl
 refine wpAny_updateSeq (hz:=by seq_fits) L rfl ?_
 have V:=Dx (Obj.mapSeq (·.pop)) L rfl
 have p:∀b u,b≠D->(s.heap.push {cls:=.type "set_iterator",data:=.fields #[.int 0 0,.int 0 0,.ref a,.int es.size 0,.int ep 0]}).get? b=some u->(((s.heap.push {cls:=.type "set_iterator",data:=.fields #[.int 0 0,.int 0 0,.ref a,.int es.size 0,.int ep 0]}).update D (Obj.mapSeq (·.push Value.none))).update D (Obj.mapSeq (·.pop))).get? b=some u:=
  λb u m e=>(Ck _ _ m.symm).trans ((Ck _ _ m.symm).trans e)
 refine Ag ⟨Gc PySem.F.plain_extend_loop _,S _ _ _ (n λb u hb e=>p b u (λz=>N ?_) e) (λb u m e=>p b u m (Af _ e)) V⟩;rcases hb with y|y|y<;>rw[<-z,y]<;>simp
def H_{R:List Value->Shared->Prop}(Z:ZD s.heap a es ep t)(I:w.params.followText "set-order"=true\/t.led=true)(J:A.handled=some (.ref ea))(m:ZZ s.heap ea)(H:es.size<=sizeLine)(h:∀g j d,(∀b o,s.heap.get? b=some o->g.get? b=some o)->s.heap.objs.size<g.objs.size->ItemsOf (lQ w a ep es) d es.size->R d.toList {s with heap:=g,toks:=j}):wpAny (model prog w) A (collect (.ref a)) R E s:=by
 obtain⟨o,G,N,M⟩:=Z.ob;have v:=Aq G
 have r:ea<s.heap.objs.size:=by obtain⟨_,_,K,_⟩:=m;exact Aq K
 have p:∀b u,s.heap.get? b=some u->(s.heap.push {cls:=.type "list",data:=.seq ([]:List Value).toArray}).get? b=some u:=λb u e=>Af _ e
 unfold collect;refine Ac (wpAny_runValue (Et PyProof.Rows.entry_proto_collect' ?_));rw[Ef PySem.F.plain_proto_collect _];refine(show wpAny (model prog w) A.in1 (newList [] >>= λl=>again (.builtin "list.__iadd__" ⟨[l,.ref a],[]⟩)) _ _ s from Ac (Fq (Ag ⟨Gc PySem.F.plain_list_iadd _,Et PyProof.Rows.entry_list_iadd' ?_⟩)));rw[Ef PySem.F.plain_list_iadd _];have B:=Ju (prog:=prog) (A:=A) (s:={s with heap:=s.heap.push {cls:=.type "list",data:=.seq ([]:List Value).toArray}}) (R:=λq D=>E_4 λg j d c=>q=.ok (.ret (.ref s.heap.objs.size))/\D={s with heap:=g,toks:=j}/\(∀b u,s.heap.get? b=some u->g.get? b=some u)/\g.get? s.heap.objs.size=some {cls:=.type "list",dict:=none,data:=.seq d c,slots:=#[]}/\ItemsOf (lQ w a ep es) d es.size)
  (Z.at λu e=>p a u e) I J (m.ext λu e=>p ea u e) s.heap.objs.size (Fi v) (Fi r) (.ref s.heap.objs.size) 0 (Au _ rfl) H λg j d c k e i=>⟨g,j,d,c,rfl,rfl,λb u q=>k b u (Bc (Aq q)) (p b u q),e,i⟩
 refine(show wpAny (model prog w) A.in1 (Builtin.List.listExtendWith (.ref s.heap.objs.size) (.ref a) (.ref s.heap.objs.size)) _ _ _ from Cf B (λf C x=>?_) λe C x=>?_)
 .cases f with
  |done f=>
   obtain⟨g,j,d,c,e,rfl,k,n,i⟩:=x;cases e;refine(show wpAny _ A (load s.heap.objs.size >>= _) _ _ _ from Ac (wpAny_load n (Ag (h g j d k (Aq n) i))))
  |again O=>
   refine⟨x.1,Dy x.2 λq L y=>?_⟩;obtain⟨g,j,d,c,rfl,rfl,k,n,i⟩:=y;refine(show wpAny _ A (load s.heap.objs.size >>= _) _ _ _ from Ac (wpAny_load n (Ag (h g j d k (Aq n) i))))
 .obtain⟨_,_,_,_,z,_⟩:=x;cases z
end
section
open PySem.W (KasT kas_sort kas_rev kas_asc kas_desc kas_tail3 kas_descPart kas_count kas_place kas_bin)
def KR(lt:Nat->Nat->Bool)(n:Nat)(t:KasT α)(a:α):Prop:=WL lt n t=true/\Wr lt t=a
def KR.ret(a:α):KR lt n (.ret a) a:=⟨rfl,rfl⟩
def KR.ask{a:α}(c:i<n)(b:j<n)(h:KR lt n (k (lt i j)) a):KR lt n (.ask i j k) a:=⟨by simp only[WL,c,b,decide_true,Bool.true_and];exact h.1,h.2⟩
theorem KR.bind{d:Type}{lt:Nat->Nat->Bool}{f:α->KasT d}{b:d}:∀ {t:KasT α} {a:α},KR lt n t a->KR lt n (f a) b->KR lt n (t.bind f) b
 |.ret l,a,h,g=>by
  obtain⟨_,rfl⟩:=h;exact g
 |.ask i j k,a,h,g=>by
  obtain⟨c,e⟩:=h;simp only[WL,Bool.and_eq_true,decide_eq_true_eq]at c;exact KR.ask c.1.1 c.1.2 (KR.bind  ⟨c.2,e⟩ g)
section
variable {r:Nat->Nat}
noncomputable abbrev YB(r:Nat->Nat)(i j:Nat):Bool:=decide (r i<r j)
structure Ord (r:Nat->Nat) (n:Nat) (p:Array Nat):Prop where
 perm:p.toList.Perm (List.range n)
 inj:∀i j,i<n->j<n->r i=r j->i=j
def Ord.size(h:Ord r n p):p.size=n:=by
 have:=h.perm.length_eq
 simp_all
def Ord.lt(h:Ord r n p)(b:i<n):p.getD i 0<n:=by
 have a:=h.size
 have:p.getD i 0∈p.toList:=by simp_all
 exact Bh.mp (h.perm.subset this)
def Ord.ne(h:Ord r n p){i j:Nat}(a:i<j)(c:j<n):r (p.getD i 0)≠r (p.getD j 0):=λz=>by
 have d:=h.size
 have e:=h.inj _ _ (h.lt (by omega)) (h.lt c) z
 have b:=h.perm.nodup_iff.mpr Hy
 rw[Am,Am,Ar (by omega),Ar (by omega)]at e
 have:=(List.pairwise_iff_getElem.mp b) i j (by simp;omega) (by simp;omega) a
 simp_all
def Ord.move{p q:Array Nat}(h:Ord r n p)(a:q.Perm p):Ord r n q:=⟨(Array.perm_iff_toList_perm.mp a).trans h.perm,h.inj⟩
def Up(r:Nat->Nat)(p:Array Nat)(k:Nat):Prop:=∀i j,i<j->j<k->r (p.getD i 0)<r (p.getD j 0)
def Dn(r:Nat->Nat)(p:Array Nat)(k:Nat):Prop:=∀i j,i<j->j<k->r (p.getD j 0)<r (p.getD i 0)
def Up.succ(h:Up r p k)(b:1<=k)(e:r (p.getD (k-1) 0)<r (p.getD k 0)):Up r p (k+1):=λi j a c=>by
 by_cases z:j=k
 .subst z;by_cases y:i=j-1
  .subst y;exact e
  .exact Nat.lt_trans (h i _ (by omega) (by omega)) e
 .exact h i j a (by omega)
def Dn.succ(h:Dn r p k)(b:1<=k)(e:r (p.getD k 0)<r (p.getD (k-1) 0)):Dn r p (k+1):=λi j a c=>by
 by_cases z:j=k
 .subst z;by_cases y:i=j-1
  .subst y;exact e
  .exact Nat.lt_trans e (h i _ (by omega) (by omega))
 .exact h i j a (by omega)
theorem Te(O:Ord r n p):∀f k,1<=k->k+f=n->Up r p k->∃m,KR (YB r) n (kas_asc p f k) m/\k<=m/\m<=n/\Up r p m/\(m<n->r (p.getD m 0)<r (p.getD (m-1) 0))
 |0,k,h1,hk,u=>⟨k,KR.ret _,Ah _,by omega,u,λz=>absurd z (by omega)⟩
 |f+1,k,h1,hk,u=>by
  by_cases e:r (p.getD k 0)<r (p.getD (k-1) 0)
  .refine⟨k,KR.ask (O.lt (by omega)) (O.lt (by omega)) ?_,Ah _,by omega,u,λ_=>e⟩
   rw[show YB r (p.getD k 0) (p.getD (k-1) 0)=true from An e,if_pos rfl];exact KR.ret _
  .have g:=O.ne (i:=k-1) (j:=k) (by omega) (by omega)
   obtain⟨m,d,h,c,b,a⟩:=Te O f _ (by omega) (by omega) (u.succ h1 (by omega))
   refine⟨m,KR.ask (O.lt (by omega)) (O.lt (by omega)) ?_,by omega,c,b,a⟩
   rwa[show YB r _ (p.getD (k-1) 0)=false from As e,if_neg (by decide)]
theorem R8(O:Ord r n p):∀f k,1<=k->k+f=n->Dn r p k->∃m,KR (YB r) n (kas_desc f p k 0) (p,m,0)/\k<=m/\m<=n/\Dn r p m
 |0,k,h1,hk,u=>⟨k,KR.ret _,Ah _,by omega,u⟩
 |f+1,k,h1,hk,u=>by
  by_cases e:r (p.getD k 0)<r (p.getD (k-1) 0)
  .obtain⟨m,c,g,b,a⟩:=R8 O f (k+1) (by omega) (by omega) (u.succ h1 e)
   refine⟨m,KR.ask (O.lt (by omega)) (O.lt (by omega)) ?_,by omega,b,a⟩
   simp_all
  .have d:=O.ne (i:=k-1) (j:=k) (by omega) (by omega)
   refine⟨k,KR.ask (O.lt (by omega)) (O.lt (by omega)) ?_,Ah _,by omega,u⟩
   rw[show YB r (p.getD k 0) (p.getD (k-1) 0)=false from As e,if_neg (by decide)]
   refine KR.ask (O.lt (by omega)) (O.lt (by omega)) ?_
   rw[show YB r (p.getD (k-1) 0) (p.getD k 0)=true from An (by omega),if_pos rfl]
   exact KR.ret _
def Na{k:Nat}(a:k<=p.size)(d:Dn r p k):Up r (kas_rev p 0 k) k:=λi j c b=>by
 unfold kas_rev;rw[Am,Am,getElem?_mirror_all a,getElem?_mirror_all a,if_pos ⟨Ci _,by omega⟩,if_pos ⟨Ci _,b⟩,<-Am,<-Am]
 exact d _ _ (by omega) (by omega)
def Lm(O:Ord r n p)(D:2<=n):∃m q,KR (YB r) n (kas_count n p) (m,q)/\1<=m/\m<=n/\Ord r n q/\Up r q m:=by
 obtain⟨m,d,h,f,c,x⟩:=Te O (n-1) 1 (Ah _) (by omega) (λi j b a=>absurd a (by omega))
 unfold kas_count;by_cases e:m=n
 .refine⟨m,p,KR.bind d ?_,h,f,O,c⟩;rw[if_pos (by rw[e];exact Gd n)]
  exact KR.ret _
 .have l:¬((m==n)=true):=by rw[Fu];exact e
  by_cases g:1<m
  .refine⟨m,p,KR.bind d ?_,h,f,O,c⟩;rw[if_neg l,if_pos g];refine KR.ask (O.lt (by omega)) (O.lt (by omega)) ?_
   rw[show YB r (p.getD 0 0) (p.getD (m-1) 0)=true from An (c 0 (m-1) (by omega) (by omega)),if_pos rfl]
   exact KR.ret _
  .obtain rfl:m=1:=by omega
   have y:=Dn.succ (k:=1) (λi j b a=>absurd a (by omega)) (Ah _) (x (by omega))
   obtain⟨k,w,C,v,u⟩:=R8 O (n-2) 2 (by omega) (by omega) y
   have o:Ord r n (kas_rev p 0 k):=O.move (mirror_perm _ _ _ _)
   have s:=Na (by rw[O.size];exact v) u
   obtain⟨t,B,E,A,z,_⟩:=Te o (n-k) k (by omega) (by omega) s
   refine⟨t,kas_rev p 0 k,KR.bind d ?_,by omega,A,o,z⟩
   rw[if_neg l,if_neg (by omega)]
   unfold kas_descPart;refine KR.bind w ?_;show KR (YB r) n (if (0:Nat)>0 then _ else kas_tail3 k n p) _
   rw[if_neg (by decide)]
   unfold kas_tail3;exact KR.bind B (KR.ret _)
theorem uV(O:Ord r n p){k:Nat}(b:k<n)(u:Up r p k):∀f l q,q-l<=f->l<=q->q<=k->(∀i,i<l->r (p.getD i 0)<r (p.getD k 0))->(∀i,q<=i->i<k->r (p.getD k 0)<r (p.getD i 0))->
 ∃m,KR (YB r) n (kas_place p k f l q) m/\m<=k/\(∀i,i<m->r (p.getD i 0)<r (p.getD k 0))/\∀i,m<=i->i<k->r (p.getD k 0)<r (p.getD i 0)
 |0,l,q,h1,h2,h3,h4,h5=>⟨l,KR.ret _,by omega,h4,λi s=>h5 i (by omega)⟩
 |f+1,l,q,h1,h2,h3,h4,h5=>by
  unfold kas_place;by_cases e:l ≥ q
  .refine⟨l,?_,by omega,h4,λi s=>h5 i (by omega)⟩
   rw[if_pos e];exact KR.ret _
  .have a:(l+q) / 2<k:=by omega
   have t:=O.ne a b
   by_cases g:r (p.getD k 0)<r (p.getD ((l+q) / 2) 0)
   .obtain ⟨m,j,h,d,c⟩:=uV O b u f l ((l+q) / 2) (by omega) (by omega) (by omega) h4 (λi s o=>by
     by_cases z:i=(l+q) / 2
     .rw[z];exact g
     .exact Nat.lt_trans g (u _ _ (by omega) o))
    refine⟨m,?_,h,d,c⟩;rw[if_neg e];refine KR.ask (O.lt b) (O.lt (by omega)) ?_
    rw[show YB r (p.getD k 0) (p.getD ((l+q) / 2) 0)=true from An g,if_pos rfl];exact j
   .obtain ⟨m,j,h,d,c⟩:=uV O b u f ((l+q) / 2+1) q (by omega) (by omega) h3 (λi s=>by
     by_cases z:i=(l+q) / 2
     .rw[z];omega
     .have:=u i ((l+q) / 2) (by omega) a
      omega) h5
    refine⟨m,?_,h,d,c⟩;rw[if_neg e];refine KR.ask (O.lt b) (O.lt (by omega)) ?_
    rw[show YB r (p.getD k 0) (p.getD ((l+q) / 2) 0)=false from As g,if_neg (by decide)]
    exact j
def CN{k m:Nat}(f:k<p.size)(l:m<=k)(u:Up r p k)(h1:∀i,i<m->r (p.getD i 0)<r (p.getD k 0))(h:∀i,m<=i->i<k->r (p.getD k 0)<r (p.getD i 0)):Up r (bubble p k (k-m)) (k+1):=by
 have g:∀i,(bubble p k (k-m)).getD i 0=if i=m then p.getD k 0 else if m<i/\i<=k then p.getD (i-1) 0 else p.getD i 0:=λi=>by
  rw[Am,getElem?_bubble f (k-m) (by omega),show k-(k-m)=m by omega]
  by_cases a:i=m
  .rw[if_pos a,if_pos a,Am]
  .rw[if_neg a,if_neg a];by_cases b:m<i/\i<=k
   .rw[if_pos b,if_pos b,Am]
   .rw[if_neg b,if_neg b,Am]
 intro i j e n;rw[g i,g j];by_cases a:i=m
 .rw[if_pos a,if_neg (by omega),if_pos (by omega)]
  exact h (j-1) (by omega) (by omega)
 .rw[if_neg a];by_cases b:j=m
  .rw[if_pos b,if_neg (by omega)]
   exact h1 i (by omega)
  .rw[if_neg b];by_cases c:m<i/\i<=k
   .rw[if_pos c,if_pos (by omega)]
    exact u _ _ (by omega) (by omega)
   .rw[if_neg c];by_cases d:m<j/\j<=k
    .rw[if_pos d];exact u _ _ (by omega) (by omega)
    .rw[if_neg d];exact u _ _ e (by omega)
theorem QZ:∀f {p:Array Nat} {k:Nat},Ord r n p->k+f=n->Up r p k->∃q,KR (YB r) n (kas_bin f p k) q/\Ord r n q/\Up r q n
 |0,p,k,O,hk,u=>⟨p,KR.ret _,O,by rw[<-hk];exact u⟩
 |f+1,p,k,O,hk,u=>by
  obtain⟨m,h,g,e,d⟩:=uV O  (by omega) u k 0 k (by omega) (Ci _) (Ah _) (λi j=>absurd j (Eu _)) (λi o l=>absurd l (by omega))
  obtain⟨q,c,b,a⟩:=QZ f   (O.move (bubble_perm _ _ _)) (by omega) (CN (by rw[O.size];omega) g u e d)
  exact⟨q,KR.bind h c,b,a⟩
def uI(l:2<=n)(a:∀i j,i<n->j<n->r i=r j->i=j):∃q,KR (YB r) n (kas_sort n) q/\Ord r n q/\Up r q n:=by
 have O:Ord r n (List.toArray (List.range n)):=⟨by rw[Ie],a⟩
 obtain⟨m,p,d,o,s,c,b⟩:=Lm O l;unfold kas_sort;by_cases e:m<n
 .obtain⟨q,h,g,f⟩:=QZ (n-m) c (k:=m) (by omega) b
  refine⟨q,KR.bind d ?_,g,f⟩;simp_all
 .refine⟨p,KR.bind d ?_,c,by rw[<-show m=n by omega];exact b⟩
  rw[if_neg e];exact KR.ret _
end
end
section
open PySem.W (KasT kas_sort kas_cmp kas_item kas_item_eq kas_range kas_runs kas_kind kas_st)
def G6{P:PySem.Fin->Shared->Prop}(I:s.heap.get? a=some (seqObj "list" vs.toArray n))(f:2<=vs.length->∀k,(∀b o,b≠a->s.heap.get? b=some o->k.get? b=some o)->∀(M:SortKind->Shared->Prop) (W:Q2),M κ {s with heap:=k}->wpAny (model prog w) A (keyKind' vs.toArray) M W {s with heap:=k})(J:∀k,(∀b o,b≠a->s.heap.get? b=some o->k.get? b=some o)->∀i j C,i<vs.length->j<vs.length->C (lt i j) {s with heap:=k}->
 wpAny (model prog w) A (keyLt' κ (vs.getD i .none) (vs.getD j .none)) C (λ_ _=>False) {s with heap:=k})(K:vs.length<64)(H:2<=vs.length->WL lt vs.length (kas_sort vs.length)=true)(h:P (.done (.ret .none)) {s with heap:=sortedHeap s.heap a vs (gK lt vs).toArray}):wpAny (model prog w) A (Builtin.«list.sort» ⟨[.ref a],[]⟩) P E s:=by
 obtain⟨c,V,y⟩:=zv I;have z:vs.length<=sizeLine:=Hr (bG (by omega))
 have L:∀d:Array Value,d.size<=64->d.size<=sizeLine+1:=λd q=>Nat.le_succ_of_le (Hr (bG (by omega)))
 rw[list_sort_plain];refine Ac (listItems_at I rfl (Ac (listUpdate_at I rfl (Ac (seqEpoch_at V rfl (Ac (wpAny_newTuple (Ac (wpAny_newList (Cb ?_) (Ci _))) z)))) z (Ci _))));change wpAny (model prog w) A _ P E {s with heap:=V2 s.heap a vs}
 dsimp only;replace h:P (.done (.ret .none)) {s with heap:=(V2 s.heap a vs).update a (Obj.mapSeq λ_=>(gK lt vs).toArray)}:=h
 have r:∀b o,b≠a->s.heap.get? b=some o->(V2 s.heap a vs).get? b=some o:=λ_ _=>LF
 generalize V2 s.heap a vs=v at *;by_cases l:vs.length<2
 .simp only[List.size_toArray,if_pos l];refine Ac (Ag (Ac (Jm (StateT.run_pure ..) (Ac (seqEpoch_at y rfl (Ac (listUpdate_at y rfl ?_ (Ci _) ?_)))))));all_goals rw[show (arrOf (SortSt.mk' general' (vs.toArray.zip vs.toArray) #[] 7 none)).map (·.2)=(gK lt vs).toArray from(GL vs).trans (Dk List.toArray (if_pos l).symm)]
  .simp only[bne_self_eq_false,Bool.false_eq_true,if_false];exact Ag h
  .exact L _ (by rw[Bj,show gK lt vs=vs from if_pos l];omega)
 .have g:=Nat.le_of_not_lt l
  simp only[List.size_toArray,if_neg l];refine Ac (f g v r _ _ ?_);have R:SortSt.mk' κ (vs.toArray.zip vs.toArray) #[] 7 none=kas_st κ (pairsOf vs) (List.toArray (List.range vs.length)):=by
   have e:=kas_range (pairsOf vs)
   rw[pairsOf_size]at e;exact Dk (λx=>SortSt.mk' κ x #[] 7 none) e.symm
  rw[R];refine Ac (Cf (kas_runs (Q:=λ_ m u=>∃p,p.size=vs.length/\p=Wr lt (kas_sort vs.length)/\arrOf m=p.map (kas_item (pairsOf vs))/\failedOf m=none/\u={s with heap:=v}) (G:=λp u=>u={s with heap:=v}/\p=Wr lt (kas_sort vs.length))
   g K (λp m u F D B t=>⟨p,F,t.2,D,B,t.1⟩) (Qy (lt:=lt) (n:=vs.length) (λi j C T S U=>?_) _ (H g) ⟨rfl,rfl⟩)) ?_ λ_ _ e=>e)
  .unfold kas_cmp;rw[kas_item_eq,kas_item_eq];exact J v r i j C T S U
  rintro⟨_,m⟩ _ ⟨p,F,D,B,t,rfl⟩;obtain⟨O,N⟩:=CU l D F;have d:(arrOf m).map (·.2)=(gK lt vs).toArray:=by rw[B,FV,N]
  dsimp only;rw[d];refine Ac (seqEpoch_at y rfl (Ac (listUpdate_at y rfl ?_ (Ci _) (L _ (by rw[Bj,O];omega)))))
  rw[t];simp only[bne_self_eq_false,Bool.false_eq_true,if_false];exact Ag h
noncomputable def bT(w:World)(a:Addr)(b:Nat)(es:Array (Int×Value)):List Value:=(fA w a b es).toList.map (·.2)
def F5{es:Array (Int×Value)}{b:Array Value}(h:ItemsOf (lQ w a ep es) b es.size):b.toList=bT w a ep es:=by
 refine List.ext_getElem? λi=>?_;by_cases d:i<b.size
 .have c:=Ar d
  have e:=h.2 i _ c
  unfold bT;rw[Cw,c,Ai,Cw];exact e.symm
 .have f:=h.1
  have g:=qZ w a ep es
  unfold bT;grind
def sV{es:Array (Int×Value)}{t:SetTable}{Q:Q2}(Z:ZD s.heap a es ep t)(J:w.params.followText "set-order"=true\/t.led=true)(K:A.handled=some (.ref ea))(y:ZZ s.heap ea)(L:es.size<64)(l:2<=(bT w a ep es).length->∀d f,(∀b o,s.heap.get? b=some o->d.get? b=some o)->∀(r:SortKind->Shared->Prop) (F:Q2),r κ {s with heap:=d,toks:=f}->wpAny (model prog w) A.in1.in1 (keyKind' (bT w a ep es).toArray) r F {s with heap:=d,toks:=f})(x:∀d f,(∀b o,s.heap.get? b=some o->d.get? b=some o)->∀i j C,i<(bT w a ep es).length->j<(bT w a ep es).length->C (lt i j) {s with heap:=d,toks:=f}->
 wpAny (model prog w) A.in1.in1 (keyLt' κ ((bT w a ep es).getD i .none) ((bT w a ep es).getD j .none)) C (λ_ _=>False) {s with heap:=d,toks:=f})(v:2<=(bT w a ep es).length->WL lt (bT w a ep es).length (kas_sort (bT w a ep es).length)=true)(h:∀D d f c,(∀b o,s.heap.get? b=some o->d.get? b=some o)->s.heap.objs.size<=D->d.get? D=some (seqObj "list" (gK lt (bT w a ep es)).toArray c)->Q (.ref D) {s with heap:=d,toks:=f}):wpAny (model prog w) A (call (.builtin "sorted") [.ref a]) Q E s:=by
 have n:(bT w a ep es).length=es.size:=by unfold bT;rw[Ab,Bk,qZ]
 have z:es.size<=sizeLine:=Hr (bG (by omega))
 obtain⟨o,P,_⟩:=Z.ob;refine Calls.call_function_entry kind_sorted plain_sorted entry_sorted (args_sorted1 _) ?_;unfold Builtin.«sorted»;refine Ac (m:=checkCount "sorted" 1 1 _) (Ag (Ac (H_ (A:=A.in1) Z J K y z λp f O G H I=>?_)));rw[F5 I];refine Ac (wpAny_newList ?_ (by rw[n];exact z))
 have B:(p.push {cls:=.type "list",data:=.seq (bT w a ep es).toArray}).get? p.objs.size=some (seqObj "list" (bT w a ep es).toArray 0):=Au _ rfl
 have g:∀b u,s.heap.get? b=some u->(p.push {cls:=.type "list",data:=.seq (bT w a ep es).toArray}).get? b=some u/\b≠p.objs.size:=λb u q=>⟨Af _ (G b u q),Bc (Aq (G b u q))⟩
 refine Ac (Cb (Dj slot_list_sort ⟨_,B,rfl⟩ entry_list_sort (G6 (κ:=κ) (lt:=lt) B (λM d k r F q=>l M d f (λb u e=>k b u (g b u e).2 (g b u e).1) r F q) (λd k=>x d f λb u e=>k b u (g b u e).2 (g b u e).1) (by omega) v ⟨_,rfl,Ag ⟨_,rfl,?_⟩⟩) (args_list_sort _)))
 obtain⟨c,N⟩:=sortedHeap_at (vs:=bT w a ep es) (out:=(gK lt (bT w a ep es)).toArray) B;exact h _ _ f c (λb u e=>(sortedHeap_old (g b u e).2 (Aq (g b u e).1)).trans (g b u e).1) (Hr H) N
end
section
open PySem.W (KasT kas_sort KatTups kat_kind kat_lt kat_cons kat_yes kat_no kat_nil kat_one KatGo)
def Vj(h:Heap)(v:Value)(k:Int×Int):Prop:=∃x t u,v=.ref x/\h.IsTuple x #[.int k.1 t,.int k.2 u]
noncomputable def Vx(x y:Int×Int):Bool:=decide (x.1<y.1\/x.1=y.1/\x.2<y.2)
def Ly{x y:Value}{k m:Int×Int}{Q:Bool->Shared->Prop}(c:Vj s.heap x k)(b:Vj s.heap y m)(h:Q (Vx k m) s):wpAny (model prog w) A (keyLt' (tuples' true) x y) Q E s:=by
 obtain⟨x,B,r,rfl,D,n,_,G,p⟩:=c;obtain⟨y,u,q,rfl,C,l,_,F,o⟩:=b;refine kat_lt n p l o (kat_cons (wpAny_eqBool_int ?_));by_cases e:k.1=m.1
 .rw[show (k.1==m.1)=true by rw[Fu];exact e]
  refine kat_yes (kat_cons (wpAny_eqBool_int ?_));by_cases g:k.2=m.2
  .rw[show (k.2==m.2)=true by rw[Fu];exact g]
   refine kat_yes (kat_nil ?_);rw[show Vx k m=false from As (by omega)]at h
   exact h
  .rw[show (k.2==m.2)=false by rw[Cs];exact g]
   refine kat_no (kat_one _ _ (show wpAny _ _ (richCompare .Lt _ _) _ _ s from ?_));refine CmpOf.ints_lt (P:=λi v=>(i=0->∃t,v=Value.int k.2 t)/\(i=1->∃t,v=.int m.2 t)/\i<=1) (λi=>if i=0 then k.2 else m.2) (λi v d=>?_) 0 1 _ _ s _ _ ⟨λ_=>⟨_,rfl⟩,λz=>absurd z (by decide),by decide⟩ ⟨λz=>absurd z (by decide),λ_=>⟨_,rfl⟩,by decide⟩ ?_
   .obtain⟨j,f,H⟩:=d;by_cases z:i=0
    .obtain⟨t,rfl⟩:=j z;exact⟨t,by rw[if_pos z]⟩
    .obtain⟨t,rfl⟩:=f (by omega);exact⟨t,by rw[if_neg z]⟩
   .have a:Vx k m=decide (k.2<m.2):=Cu.mpr ⟨λz=>by omega,λz=>.inr ⟨e,z⟩⟩
    rw[a]at h;exact h
 .rw[show (k.1==m.1)=false by rw[Cs];exact e]
  refine kat_no (oneLt_int ?_);have a:Vx k m=decide (k.1<m.1):=Cu.mpr ⟨λz=>by omega,λz=>.inl z⟩
  rw[a]at h;exact h
theorem wN:∀ {vs:List Value},(∀v∈vs,∃k,Vj h v k)->∃a,KatTups h vs a/\a.length=vs.length/\∀f∈a,∃i t,f=Value.int i t
 |[],_=>⟨[],KatTups.nil,rfl,λf b=>nomatch b⟩
 |v::r,hv=>by
  obtain⟨a,m,l,j⟩:=wN  λx e=>hv x (Ao _ e);obtain⟨k,x,t,u,rfl,o,g,c,n,d⟩:=hv _ Al;refine⟨.int k.1 t::a,KatTups.cons g c d rfl m,by rw[Az,Az,l],λf b=>?_⟩
  grind
def K9{Q:SortKind->Shared->Prop}(b:∀v∈vs,∃k,Vj s.heap v k)(e:0<vs.length)(h:Q (tuples' true) s):wpAny (model prog w) A (keyKind' vs.toArray) Q E s:=by
 obtain⟨g,d,f,c⟩:=wN b;refine kat_kind (T:=.type "int") d (by omega) (λv a=>?_) (by decide) h
 obtain⟨i,t,rfl⟩:=c v a;exact .now
end
def lV(vs:List Value):(List.range vs.length).map (λj=>vs.getD j .none)=vs:=by
 refine List.ext_getElem (by simp) λi b a=>?_
 simp_all
noncomputable def yC(w:World)(a:Addr)(c:List Addr):HO:=.ext λh=>∃b d t,ZD h a b d t/\(w.params.followText "set-order"=true\/t.led=true)/\(b.toList.map (·.2)).Perm (c.map Value.ref)
def Pf(d:World):List V->Hp->VK->Prop:=λc H Q=>∃(p:Addr) (b:List Addr) (a:List (Nat×Nat)),c=[.ref p]/\Z2 H p=some (b.map V.ref)/\b.length=a.length/\(∀(j:Nat) r w,b[j]?=some r->a[j]?=some w->H r=some (.tup [.int (w.1:Int),.int (w.2:Int)]))/\a.length<=76/\(∀w∈a,w.1<8/\w.2<8)/\a.Nodup/\∀r,H r=none->Q (.ref r) (upd H r (yC d r b))
def IA(hu:X.A.units+64<cLine)(hc:fE X):ZW X (.type "set") (Pf X.w):=by
 intro y3 s U H xs us Q I r h;obtain⟨p,y,l,rfl,hp,a1,B,a2,h8,nd,q⟩:=h;obtain⟨u,rfl,ru⟩:=dI r;cases ru;obtain⟨b,n,pl,hz⟩:=I.list (bD hp);have m:=n.length
 rw[Ab]at m;have z:∀i v,b[i]?=some v->∃a,v=.ref a/\IsTupleKey (PySem.intKind X.prog X.w) s.heap ((sY l).getD i []) a:=λi v S=>by
  have hi:=(Ae.mp S).1
  obtain⟨r,er⟩:∃r,y[i]?=some r:=⟨_,Aa (by omega)⟩
  obtain⟨w,Y⟩:∃w,l[i]?=some w:=⟨_,Aa (by omega)⟩
  obtain⟨v',N,W⟩:=n.get (i:=i) (x:=.ref r) (by rw[Ai,er];rfl)
  rw[S]at N;cases N;cases W;refine⟨r,rfl,?_⟩;rw[vN Y];obtain⟨f,tr,tl,_⟩:=I.tuple (YF.of (K:=X.K) (B i r w er Y));obtain⟨ot,E,L,nt,G⟩:=(show s.heap.IsTuple r f.toArray from tl);refine⟨ot,f.toArray,nt,E,L,G,?_⟩;rw[Ie];obtain⟨x1,x2,rfl,⟨t1,rfl⟩,⟨t2,rfl⟩⟩:=tQ tr;exact .cons (Jp _ _ _ _) (.cons (Jp _ _ _ _) .nil)
 obtain⟨ea,hh,M,_⟩:=I.soft hc;have R:∀i j,i<j->j<b.length->tupleKeyHash (PySem.intKind X.prog X.w) ((sY l).getD i [])≠tupleKeyHash (PySem.intKind X.prog X.w) ((sY l).getD j []):=λi j g V=>zk h8 nd g (by omega)
 refine pX hh M pl.isList (J:=VP (!X.w.params.followText "set-order") (λj=>tupleKeyHash (PySem.intKind X.prog X.w) ((sY l).getD j [])) (λj=>b.getD j .none)) (zN _ _ _)
  (λA' hA=>Np (by omega) z (by omega) R) λh' tk o hk T hJ=>?_
 obtain⟨O,P,t,hx,hd,hf,D,F,hR,C,d⟩:=Rf hJ (λi j g V=>R i j g V) (by omega)
 have c:=I.Z4.fresh (Ah _)
 have I1:Inv X y3 U H {s with heap:=h',toks:=tk}:=I.kept hk
 refine⟨.ref s.heap.objs.size,_,I1.adopt (o:=yC X.w s.heap.objs.size y) (I.Yz (Ah _)) c ?_,rfl,q _ c⟩;have ev:(List.range b.length).map (λj=>b.getD j .none)=y.map Value.ref:=by
  rw[<-zU n];exact lV b
 rw[ev]at d;exact⟨⟨O,P,t,⟨⟨o,T,hx.1,hd⟩,hf,D,hR,C⟩,by rw[F];cases X.w.params.followText "set-order" <;> simp,d⟩,⟨o,T⟩,λN W ⟨O,P,t,Z,r⟩ k=>⟨O,P,t,Z.at λo e=>k o e,r⟩⟩
section
open PySem.W (KasT kas_sort)
theorem fB{f:α->Nat}:∀ {L M:List α},L.Perm M->L.Pairwise (λx y=>f x<f y)->M.Pairwise (λx y=>f x<f y)->L=M
 |[],M,p,_,_=>(List.perm_nil.mp p.symm).symm
 |x::r,[],p,_,_=>absurd p.length_eq (by simp)
 |x::r,y::t,p,h,g=>by
  obtain⟨i,d⟩:=Ip.mp h;obtain⟨k,j⟩:=Ip.mp g;have e:x=y:=by grind
  subst e;rw[fB ((List.perm_cons x).mp p) d j]
noncomputable def YA(H:Hp)(p:Addr):Nat:=match H p with|some (.tup [.int a,.int b])=>a.toNat*8+b.toNat|_=>0
def TX{a b:Nat}(h:H p=some (.tup [.int (a:Int),.int (b:Int)])):YA H p=a*8+b:=by
 unfold YA;simp_all
def zO(e:World):List V->Hp->VK->Prop:=λd H Q=>∃(p:Addr) (c:List Addr),d=[.ref p]/\H p=some (yC e p c)/\(∀r∈c,∃a b:Nat,H r=some (.tup [.int (a:Int),.int (b:Int)])/\b<8)/\c.length<64/\c.Pairwise (λx y=>YA H x<YA H y)/\∀D,H D=none->Q (.ref D) (upd H D (.lst (c.map V.ref)))
def Dl(h:vs.Perm (rs.map Value.ref)):∃b:List Addr,vs=b.map Value.ref/\b.Perm rs:=by
 refine⟨vs.map λv=>match v with|.ref a=>a|_=>0,?_,?_⟩
 .rw[Bz];refine(List.map_id vs).symm.trans (Dp λv c=>?_);obtain⟨r,_,rfl⟩:=Bg.mp (h.subset c);rfl
 .have:=h.map λv=>match v with|.ref a=>a|_=>0
  rw[Bz]at this;refine this.trans (List.Perm.of_eq ?_);refine(Dp λr _=>?_).trans (List.map_id rs);rfl
def HS(hc:fE X):ZW X (.builtin "sorted") (zO X.w):=by
 intro y3 s U H xs us Q I r h;obtain⟨p,M,rfl,hp,hw,a8,A,q⟩:=h;obtain⟨u,rfl,ru⟩:=dI r;cases ru;obtain⟨ea,hh,a5,_⟩:=I.soft hc;obtain⟨⟨S,ep,t,Z,hl,B⟩,_⟩:=I.Z4 p _ hp;have hv:(bT X.w p ep S).Perm (M.map Value.ref):=by
  unfold bT;exact((wL X.w p ep S).map (·.2)).trans B
 obtain⟨l,T,R⟩:=Dl hv;have a6:=R.length_eq
 have a7:S.size=M.length:=by
  have:=B.length_eq
  rw[Ab,Ab,Bk]at this;exact this
 have y:∀x∈l,∃a b,b<8/\YA H x=a*8+b/\∀G,(∀b o,s.heap.get? b=some o->G.get? b=some o)->Vj G (.ref x) ((a:Int),(b:Int)):=λx hx=>by
  obtain⟨a,b,e,hb⟩:=hw x (R.subset hx);refine⟨a,b,hb,TX e,λG k=>?_⟩;obtain⟨N,tr,tl,_⟩:=I.tuple (YF.of (K:=X.K) e);obtain⟨o,g,c,n,d⟩:=(show s.heap.IsTuple x N.toArray from tl);obtain⟨x1,x2,rfl,⟨t1,rfl⟩,⟨t2,rfl⟩⟩:=tQ tr;exact⟨x,t1,t2,rfl,o,k _ _ g,c,n,d⟩
 have F:∀i,i<l.length->(l.map Value.ref).getD i .none=.ref (l.getD i 0)/\l.getD i 0∈l:=λi m=>by
  rw[Ad,Ai,Aa m,Ad,Aa m];exact⟨rfl,Br m⟩
 have O:=(R.map (YA H)).nodup_iff.mpr (Fs.mpr (A.imp λh=>Bc h))
 have P:∀i j,i<l.length->j<l.length->YA H (l.getD i 0)=YA H (l.getD j 0)->i=j:=λi j m J e=>by
  have g:=λk hk=>show (l.map (YA H))[k]'(by rw[Ab];exact hk)=YA H (l.getD k 0) by rw[El,Ad,Aa hk];rfl
  rcases Jh i j with z|z|z
  .exact absurd ((g i m).trans (e.trans (g j J).symm)) (By.mp O i j _ _ z)
  .exact z
  .exact absurd ((g j J).trans (e.symm.trans (g i m).symm)) (By.mp O j i _ _ z)
 refine sV (κ:=tuples' true) (lt:=YB λi=>YA H (l.getD i 0)) Z hl hh a5 (by omega) ?_ ?_ ?_ ?_
 .rw[T];intro L G W k Q' E' hQ;refine K9 (λv a3=>?_) (by omega) hQ
  obtain⟨x,hx,rfl⟩:=Bg.mp a3;obtain⟨a,b,_,_,g⟩:=y x hx;exact⟨_,g G k⟩
 .rw [T];intro G W k i j C m J hC;rw [Ab] at m J;obtain ⟨e1,m1⟩:=F i m;obtain ⟨e2,m2⟩:=F j J;obtain ⟨a1,b1,l1,r1,g1⟩:=y _ m1;obtain ⟨a2,b2,l2,r2,g2⟩:=y _ m2;rw [e1,e2];refine Ly (g1 G k) (g2 G k) ?_;have ed:Vx ((a1:Int),(b1:Int)) ((a2:Int),(b2:Int))=YB (λi=>YA H (l.getD i 0)) i j:=by
   refine Cu.mpr ?_;show ((a1:Int)<a2\/(a1:Int)=a2/\(b1:Int)<b2) ↔ YA H (l.getD i 0)<YA H (l.getD j 0)
   rw[r1,r2];omega
  rw[ed];exact hC
 .rw[T,Ab];intro L;obtain⟨_,⟨h1,_⟩,_⟩:=uI L P;exact h1
 .intro D G W c k fD hD;have Y:gK (YB λi=>YA H (l.getD i 0)) (bT X.w p ep S)=M.map Value.ref:=by
   rw[T];unfold gK;by_cases L:(l.map Value.ref).length<2
   .rw[if_pos L];rw[Ab]at L;refine Dk (List.map Value.ref) (fB (f:=YA H) R ?_ A)
    match l,L with
    |[],_=>exact .nil
    |[x],_=>exact List.pairwise_singleton _ _
   .rw[if_neg L,Ab];rw[Ab]at L;obtain⟨z,⟨_,kr⟩,Oz,Uz⟩:=uI (r:=λi=>YA H (l.getD i 0)) (n:=l.length) (by omega) P
    rw[kr];have e1:(z.toList.map λi=>(l.map Value.ref).getD i .none)=(z.toList.map λi=>l.getD i 0).map Value.ref:=by
     rw[Bz];exact Dp λi m=>(F i (Bh.mp (Oz.perm.subset m))).1
    rw[e1];refine Dk (List.map Value.ref) (fB (f:=YA H) ?_ ?_ A)
    .refine((Oz.perm.map λi=>l.getD i 0).trans (List.Perm.of_eq ?_)).trans R;refine List.ext_getElem (by simp) λi h1 h3=>?_
     rw[El,Im,Ad,Aa h3];rfl
    .refine Fs.mpr (By.mpr λi j m J a4=>?_);have sz:=Oz.size
     have g:=Uz i j a4 (by rw[<-sz];simpa using J)
     rw[Array.getD_eq_getD_getElem?,Array.getD_eq_getD_getElem?,Array.getElem?_eq_getElem (by simpa using m),Array.getElem?_eq_getElem (by simpa using J)]at g
     simpa using g
  rw[Y]at hD;have fH:=I.Z4.fresh fD
  have I1:Inv X y3 U H {s with heap:=G,toks:=W}:=I.kept k
  refine⟨.ref D,_,I1.adopt (o:=.lst (M.map V.ref)) (I.Yz fD) fH ?_,rfl,q D fH⟩;exact⟨by rw[Ab];exact bH (by omega),_,c,zH id M,hD⟩
end
section
open PySem.W (KasT kas_sort)
def zg:∀k:Fin 100,hashInt (((k:Nat)):Int)=((k:Nat):Int):=by right
def Ou(h:k<100):hashInt ((k:Nat):Int)=(k:Int):=zg ⟨k,h⟩
def Jt{t t':SetTable}(h:t.relaid hs wanted=some (t',order)):order.size=t'.place.size:=by
 unfold SetTable.relaid SetTable.laid at h;cases e:SetTable.layClean _ hs with
 |none=>rw[e]at h;cases h
 |some a=>rw[e]at h;cases h;simp
def CO{es:Array (Int×Value)}(d:(es.toList.map (·.1)).Nodup)(hs:order.size=es.size)(h1:(order.filterMap (es[·]?)).size=es.size)(o:∀e,e∈(order.filterMap (es[·]?)).toList ↔ e∈es.toList):coversAll order es.size=true:=by
 refine List.isPerm_iff.mpr (iP Hy (λi n=>?_) (by rw[Bw,Bk,hs]))
 have b:=Bh.mp n
 have f:=(o es[i]).mpr (En b)
 rw[Je]at f;obtain⟨k,m,c⟩:=Cy.mp f;have a:=Hx λz=>by rw[Da z]at c;cases c
 rw[Ar a]at c;have l:=Bm c
 have:k=i:=by
  have g:∀j (h:j<es.size),(es.toList.map (·.1))[j]'(by rw[List.length_map,Array.length_toList];exact h)=es[j].1:=λj h=>by simp
  rcases Jh k i with z|z|z
  .exact absurd ((g k a).trans ((Dk Prod.fst l).trans (g i b).symm)) (By.mp d k i _ _ z)
  .exact z
  .exact absurd ((g i b).trans ((Dk Prod.fst l).symm.trans (g k a).symm)) (By.mp d i k _ _ z)
 rw[<-this];exact m
def KW{es:Array (Int×Value)}{wanted:Nat}(k:(es.toList.map (·.1)).Nodup)(F:Full (SetTable.sizeAbove wanted))(l:0<SetTable.sizeAbove wanted)(hs:es.size<SetTable.sizeAbove wanted):∃b a,relayAll t es wanted=(b,a,false)/\a.mask=SetTable.sizeAbove wanted-1/\a.dummies=#[]/\a.place.size=es.size/\b.size=es.size/\X4 a.place/\(∀e,e∈b.toList ↔ e∈es.toList)/\a.led=t.led/\a.plain=t.plain:=by
 obtain⟨a,d,g,j,i,f,c,m,h⟩:=uW (t:=t) (es:=es) F l (by omega)
 refine⟨_,a,?_,j,i,f,c,m,h,qA g⟩;unfold relayAll;rw[g];dsimp only;rw[CO k ((Jt g).trans f) c h,nM (f.trans c.symm) i (by grind)]
 rfl
def MT{old:Heap}(hk:∀(i:Nat) v,vs[i]?=some v->∃t,v=.int ((ks.getD i 0:Nat):Int) t)(hl:vs.length<=76)(K:∀i,i<vs.length->ks.getD i 0<100)(ne:∀i j,i<j->j<vs.length->ks.getD i 0≠ks.getD j 0):Uq prog w A old S vs (VP a4 (λj=>((ks.getD j 0:Nat):Int)) (λj=>vs.getD j .none)):=by
 intro i v s o E Q hv d1 hS hJ q;obtain⟨C,rfl⟩:=hk i v hv;have P:=(Ae.mp hv).1
 have V:vs.getD i .none=.int ((ks.getD i 0:Nat):Int) C:=by rw[Ad,hv];rfl
 obtain⟨hx,es,ep,t,hd,c5,n,G,L,h,hR,F,c7⟩:=hJ;have hF:=Ov n
 have c6:es.size<=t.mask:=by rw[h,n];exact jN (by omega)
 have H:=nM L G c6
 have U:=K i P
 have a6:∀j,j<i->∃u,vs.getD j .none=.int ((ks.getD j 0:Nat):Int) u:=λj l=>by
  obtain⟨u,eu⟩:=hk j (vs[j]'(by omega)) (Aa (by omega))
  exact⟨u,by rw[Ad,Aa (by omega)];exact eu⟩
 have b5:ElemsOf (PySem.intKind prog w) es.toList:=λe y=>by
  obtain⟨j,l,rfl⟩:=F e y;obtain⟨u,eu⟩:=a6 j l;dsimp only;rw[eu];exact⟨⟨_,Jp _ _ _ _,(Ou (K j (by omega))).symm⟩,rfl⟩
 have b1:∀e∈es.toList,e.1≠((ks.getD i 0:Nat):Int):=λe y z=>by
  obtain⟨j,l,rfl⟩:=F e y;have z':((ks.getD j 0:Nat):Int)=((ks.getD i 0:Nat):Int):=z
  exact ne j i l P (by exact_mod_cast z')
 unfold setAdd;refine Cb (Ac ((PySem.intKind prog w).pyHash (k:=((ks.getD i 0:Nat):Int)) (Jp _ _ _ _) ?_));have T:(PySem.intKind prog w).hash ((ks.getD i 0:Nat):Int)=((ks.getD i 0:Nat):Int):=Ou U
 unfold setAddHashed;rw[show (100000:Nat)=99999+1 from rfl];unfold setAddHashedIn;refine Cb (Ac (Cv hS hd H ?_));dsimp only;rw[byScan_of rfl (by unfold scanBound;omega) b5]
 simp only[↓reduceIte];unfold setAddByScan;refine Ac (Ac (wpAny_rule (Ac (wpAny_setScan_of (Jp _ _ _ _) hS hd H b5 ?_))));have O:es.toList.findIdx? (λe=>(PySem.intKind prog w).is ((ks.getD i 0:Nat):Int) e.2)=none:=by
  refine List.findIdx?_eq_none_iff.mpr λe y=>?_;obtain⟨j,l,ej⟩:=F e y;obtain⟨u,eu⟩:=a6 j l;rw[ej];dsimp only;rw[eu];cases J:(PySem.intKind prog w).is ((ks.getD i 0:Nat):Int) (.int ((ks.getD j 0:Nat):Int) u) with
  |false=>rfl
  |true=>
   have:=(PySem.intKind prog w).inj _ _ _ J (Jp _ _ _ _)
   exact absurd (by exact_mod_cast this.symm) (ne j i l P)
 rw[O];dsimp only;rw[T];generalize hH:((ks.getD i 0:Nat):Int)=d at b1 V hv ⊢;have a8:∃j,t.probe (WJ es) d (t.probeStart d)=some (.empty j none):=by
  refine sW hF.1 G (by omega) λk d5=>?_
  have b4:k<es.size:=by omega
  rw[NP (Ar b4)];exact b1 _ (En b4)
 have a7:∀j,t.probe (WJ es) d (t.probeStart d)=some (.empty j none)->t.probe (λ_=>d+1) d (t.probeStart d)=some (.empty j none):=by
  intro j;unfold SetTable.probe;generalize 10*SetTable.turns t.mask=f;generalize t.probeStart d=p;induction f generalizing p with
  |zero=>intro z;cases z
  |succ f ih=>
   unfold SetTable.probe.go;cases e:t.slot p.j with
   |empty=>exact λz=>z
   |dummy=>exact λz=>ih _ z
   |live i'=>
    dsimp only;rw[show (d+1==d)=false from by simp;omega]
    intro z;by_cases J:(WJ es i' == d)=true
    .rw[if_pos J]at z;cases z
    .rw[if_neg J]at z;exact ih _ z
 obtain⟨c,a9⟩:=a8;have X:t.freeSlot d=some (c,false):=by
  unfold SetTable.freeSlot;rw[a7 _ a9];rfl
 have p1:(t.put c).1.mask=t.mask:=rfl
 have p0:(t.put c).1.led=a4/\(t.put c).1.plain=true:=c5
 have p2:(t.put c).1.dummies=#[]:=by
  show (if SetTable.has t.dummies c=true then _ else t.dummies)=_
  rw[G];rfl
 have p3:(t.put c).1.place.size=es.size+1:=(iJ _ _ _).trans (by rw[L])
 have p4:=PB G hR a9
 have p6:(t.put c).2<=es.size:=by rw[<-L];exact(lJ hR c).1
 have b3:layNew t es d (.int d C)=(SetTable.insertAt es (t.put c).2 (d,.int d C),(t.put c).1.orStandIn (SetTable.insertAt es (t.put c).2 (d,.int d C)).size,false,!(t.put c).1.fits (SetTable.insertAt es (t.put c).2 (d,.int d C)).size):=by
  unfold layNew;rw[X]
 rw[b3];generalize t.put c=tp at p0 p1 p2 p3 p4 p6 ⊢;obtain⟨D,p⟩:=tp;dsimp only at p0 p1 p2 p3 p4 p6 ⊢;have m:(SetTable.insertAt es p (d,Value.int d C)).size=es.size+1:=iJ _ _ _
 have z2:∀e∈(SetTable.insertAt es p (d,Value.int d C)).toList,∃j,j<i+1/\e=(((ks.getD j 0:Nat):Int),vs.getD j .none):=λe y=>by
  rcases xC y with rfl|y
  .exact⟨i,Ej _,by rw[hH,V]⟩
  .obtain⟨j,l,ej⟩:=F e y;exact⟨j,Fd l,ej⟩
 have z3:∀j,j<i+1->(((ks.getD j 0:Nat):Int),vs.getD j .none)∈(SetTable.insertAt es p (d,Value.int d C)).toList:=λj l=>by
  by_cases e:j=i
  .subst e;exact jY p6 (.inl (by rw[hH,V]))
  .exact jY p6 (.inr (c7 j (by omega)))
 generalize SetTable.insertAt es p (d,Value.int d C)=g at m z2 z3 ⊢;have d2:i<76:=by omega
 have b2:es.size+1<=D.mask:=by
  rw[p1,n,h];unfold cJ;split
  .omega
  .split<;>omega
 have r:=nM (p3.trans m.symm) p2 (by rw[m];exact b2)
 have c3:(g.toList.map (·.1)).Nodup:=by
  have nd:((List.range (i+1)).map λj=>(((ks.getD j 0:Nat):Int),vs.getD j .none)).Nodup:=by
   refine Fs.mpr (Ih (R:=(· < ·)) (fun {a b} ha J Z z=>?_) Ha);have c9:=Bh.mp J
   exact ne a b Z (by omega) (by exact_mod_cast (Prod.mk.inj z).1)
  have pm:=iP nd (M:=g.toList) (λx b9=>by
   obtain⟨j,l,rfl⟩:=Bg.mp b9;exact z3 j (Bh.mp l)) (by rw[Ab,Bw,Bk,m,h])
  have a3:=pm.map (·.1)
  rw[Bz]at a3;refine a3.nodup_iff.mpr (Fs.mpr (Ih (R:=(· < ·)) (fun {a b} ha J Z z=>?_) Ha));have c9:=Bh.mp J
  have z':((ks.getD a 0:Nat):Int)=((ks.getD b 0:Nat):Int):=z
  exact ne a b Z (by omega) (by exact_mod_cast z')
 have c1:D.orStandIn g.size=D:=by unfold SetTable.orStandIn;rw[if_pos r]
 rw[c1,r];refine Ac (Ag ?_);rw[if_pos p0.2];refine Ac (Ag ?_);simp only[↓reduceIte];obtain⟨o1,N,a5,Y,a2⟩:=Ut g D hS hx hd;refine Ac (Jg hS hd ?_ (by rw[m];exact bH (by omega)))
 have W:D.tooFull=decide (cJ i*3<=(i+1)*5):=by
  unfold SetTable.tooFull SetTable.fill;rw[p1,p2,p3,n,h];rfl
 rw[W];by_cases I:cJ i*3<=(i+1)*5
 .rw [An I];simp only [Bool.not_false,Bool.and_self,if_true];have B:(i=4\/i=18):=by
   unfold cJ at I;split at I
   .omega
   .split at I<;>omega
  have hw:SetTable.sizeAbove (SetTable.grown g.size)=cJ (i+1)+1:=by
   rw[m,h];rcases B with z|z<;>rw[z]<;>rfl
  have d3:=jN (i:=i+1) (by omega)
  have d4:cJ (i+1)<=127:=by rcases B with z|z<;>rw[z]<;>decide
  obtain⟨b6,t2,m0,m1,m2,m3,m4,m5,m6,m8⟩:=KW (t:=D) (es:=g) (wanted:=SetTable.grown g.size) c3 (by rw[hw];exact(rV _).1) (by omega) (by rw[hw,m,h];omega)
  rw[m0];refine Ac (Ag ?_);refine Ac (Jg (s:={s with toks:=_,heap:=s.heap.update S (Obj.putSet g D)}) N Y ?_ (by rw[m4,m];exact bH (by omega)))
  obtain⟨o2,c2,b8,c8,b7⟩:=Ut b6 t2 N a5 Y;refine Ag (Ag ?_);exact q true _ _ o2 (a2.trans b7) c2 ⟨b8,b6,_,t2,c8,⟨m8.1.trans p0.1,m8.2.trans p0.2⟩,by rw[m1,hw];rfl,m2,by rw[m3,m4],by rw[m4,m,h],m5,λe y=>z2 e ((m6 e).mp y),λj l=>(m6 _).mpr (z3 j l)⟩
 .rw [As I];simp only [Bool.not_false,Bool.and_false,Bool.false_eq_true,if_false];have c4:cJ (i+1)=cJ i:=by
   unfold cJ at I ⊢;split at I
   .rw[if_pos (by omega)];rename_i h4;rw[if_pos h4]
   .rename_i h4
    rw[if_neg (by omega),if_neg h4]
    split at I
    .rename_i a1;rw[if_pos (by omega),if_pos a1]
    .rename_i a1;rw[if_neg (by omega),if_neg a1]
  refine Ag (Ag ?_);exact q true _ _ o1 a2 N ⟨a5,g,_,D,Y,p0,by rw[p1,n,c4],p2,by rw[p3,m],by rw[m,h],p4,z2,z3⟩
end
section
open PySem.W (KasT kas_sort)
noncomputable def yI(w:World)(a:Addr)(ks:List Nat):HO:=.ext λh=>∃c d t,ZD h a c d t/\(w.params.followText "set-order"=true\/t.led=true)/\∃b,(c.toList.map (·.2)).Perm b/\IntsAre b (ks.map λk=>((k:Nat):Int))
def Sa(c:World):List V->Hp->VK->Prop:=λb H Q=>∃p a,b=[.ref p]/\Z2 H p=some (a.map λk=>V.int ((k:Nat):Int))/\a.length<=60/\(∀k∈a,k<100)/\a.Nodup/\∀r,H r=none->Q (.ref r) (upd H r (yI c r a))
def GG(hc:fE X):ZW X (.type "set") (Sa X.w):=by
 intro S s U H xs us Q I r h;obtain⟨p,c,rfl,hp,a1,y,Y,q⟩:=h;obtain⟨u,rfl,V⟩:=dI r;cases V;obtain⟨b,M,W,hz⟩:=I.list (bD hp);have m:=M.length
 rw[Ab]at m;have f:∀i h,c.getD i 0=c[i]:=λi h=>by rw[Ad,Aa h];rfl
 have l:∀(i:Nat) v,b[i]?=some v->∃t,v=.int ((c.getD i 0:Nat):Int) t:=λi v A=>by
  have hi:=(Ae.mp A).1
  have n:i<c.length:=by omega
  obtain⟨v',G,R⟩:=M.get (i:=i) (x:=.int ((c[i]:Nat):Int)) (by rw[Ai,Aa n];rfl)
  rw[A]at G;cases G;rw[f i n];exact R
 obtain⟨ea,hh,F,_⟩:=I.soft hc;have N:∀i j,i<j->j<b.length->c.getD i 0≠c.getD j 0:=λi j g P=>by
  rw[f i (by omega),f j (by omega)]
  exact By.mp Y i j _ _ g
 refine pX hh F W.isList (J:=VP (!X.w.params.followText "set-order") (λj=>((c.getD j 0:Nat):Int)) (λj=>b.getD j .none)) (zN _ _ _)
  (λA' hA=>MT l (by omega) (λi hi=>by rw[f i (by omega)];exact y _ (Br _)) N) λh' T o hk O hJ=>?_
 obtain⟨K,L,t,z,hd,hf,C,D,hR,B,d⟩:=Rf hJ (λi j g P e=>N i j g P (by exact_mod_cast e)) (by omega)
 have a:=I.Z4.fresh (Ah _)
 have I1:Inv X S U H {s with heap:=h',toks:=T}:=I.kept hk
 refine⟨.ref s.heap.objs.size,_,I1.adopt (o:=yI X.w s.heap.objs.size c) (I.Yz (Ah _)) a ?_,rfl,q _ a⟩;rw[lV]at d;have E:IntsAre b (c.map λk=>((k:Nat):Int)):=O_ (by rw[Ab];omega) λj v x A z=>by
  obtain⟨t,rfl⟩:=l j v A;rw[Ai]at z;obtain⟨k,ek,rfl⟩:=Bt.mp z;rw[Ad,ek];exact⟨t,rfl⟩
 exact⟨⟨K,L,t,⟨⟨o,O,z.1,hd⟩,hf,C,hR,B⟩,by rw[D];cases X.w.params.followText "set-order" <;> simp,b,d,E⟩,⟨o,O⟩,λG R ⟨K,L,t,Z,r⟩ k=>⟨K,L,t,Z.at λo e=>k o e,r⟩⟩
noncomputable def YM:Value->Nat|.int n _=>n.toNat|_=>0
def GF(h:IntsAre vs (ks.map λk=>((k:Nat):Int))):vs.map YM=ks/\∀v∈vs,∃t,v=.int ((YM v:Nat):Int) t:=by
 generalize b:(ks.map λk=>((k:Nat):Int))=L at h;induction h generalizing ks with
 |nil=>
  simp_all
 |cons n t _ c=>
  cases ks with
  |nil=>cases b
  |cons k r=>
   obtain⟨rfl,e⟩:=List.cons.inj b;obtain⟨f,d⟩:=c e;refine⟨by rw[Ax,f];exact Dk (·::r) (Cr k),λv a=>?_⟩
   rcases Bb.mp a with rfl|z
   .exact⟨t,Dk (λn=>Value.int n t) (by show (k:Int)=((((k:Nat):Int).toNat:Nat):Int);rw[Cr])⟩
   simp_all
def yP(h:∀v∈vs,∃t,v=.int ((YM v:Nat):Int) t):IntsAre vs ((vs.map YM).map λk=>((k:Nat):Int)):=by
 induction vs with
 |nil=>exact .nil
 |cons v r a=>
  obtain⟨t,e⟩:=h v Al;have i:=a λx b=>h x (Ao _ b)
  generalize YM v=n at e ⊢;subst e;exact .cons _ t i
def OQ(c:World):List V->Hp->VK->Prop:=λb H Q=>∃p a,b=[.ref p]/\H p=some (yI c p a)/\a.length<64/\a.Pairwise (· < ·)/\∀D,H D=none->Q (.ref D) (upd H D (.lst (a.map λk=>V.int ((k:Nat):Int))))
def Mi(hc:fE X):ZW X (.builtin "sorted") (OQ X.w):=by
 intro y3 s U H xs us Q I r h;obtain⟨p,K,rfl,hp,b1,l,q⟩:=h;obtain⟨u,rfl,ru⟩:=dI r;cases ru;obtain⟨ea,hh,a7,_⟩:=I.soft hc;obtain⟨⟨Y,ep,t,Z,hl,vs,m,a6⟩,_⟩:=I.Z4 p _ hp;obtain⟨P,a2⟩:=GF a6;have R:(bT X.w p ep Y).Perm vs:=by
  unfold bT;exact((wL X.w p ep Y).map (·.2)).trans m
 have a3:vs.length=K.length:=by rw[<-P,Ab]
 have a8:Y.size=K.length:=by
  have:=m.length_eq
  rw[Ab,Bk]at this;omega
 generalize S:bT X.w p ep Y=V at R;have a9:=R.length_eq.trans a3
 have A:=λv h=>a2 v (R.subset h)
 have B:∀i,i<V.length->V.getD i .none∈V:=λi y=>by
  rw[Ad,Aa y];exact Br y
 have F:(V.map YM).Perm K:=by rw[<-P];exact R.map YM
 have M:=F.nodup_iff.mpr (l.imp λh=>Bc h)
 have N:∀i j,i<V.length->j<V.length->YM (V.getD i .none)=YM (V.getD j .none)->i=j:=λi j y G e=>by
  have g:=λk hk=>show (V.map YM)[k]'(by rwa[Ab])=YM (V.getD k .none) by rw[El,Ad,Aa hk];rfl
  rcases Jh i j with z|z|z
  .exact absurd ((g i y).trans (e.trans (g j G).symm)) (By.mp M i j _ _ z)
  .exact z
  .exact absurd ((g j G).trans (e.symm.trans (g i y).symm)) (By.mp M j i _ _ z)
 refine sV (κ:=oneType') (lt:=YB λi=>YM (V.getD i .none)) Z hl hh a7 (by omega) ?_ ?_ ?_ ?_
 .rw[S];intro J h' tk k Q' E' hQ;have L:=yP A
  match V,J,L with
  |v1::v2::r,_,L=>exact Jm (keyKind_ints L) hQ
 .rw [S];intro h' tk k i j C y G T;obtain ⟨t1,e1⟩:=A _ (B i y);obtain ⟨t2,e2⟩:=A _ (B j G);have ed:YB (λi=>YM (V.getD i .none)) i j=decide (((YM (V.getD i .none):Nat):Int)<((YM (V.getD j .none):Nat):Int)):=by
   refine Cu.mpr ?_;show YM (V.getD i .none)<YM (V.getD j .none) ↔ _
   omega
  rw[ed]at T;generalize YM (V.getD i .none)=a at e1 T;generalize YM (V.getD j .none)=b at e2 T;rw[e1,e2];exact W.kat_lt_int T
 .rw[S];intro J;obtain⟨_,⟨h1,_⟩,_⟩:=uI J N;exact h1
 .intro D h' tk c k fD hD;rw [S] at hD;have a1:(gK (YB λi=>YM (V.getD i .none)) V).Perm V/\(gK (YB λi=>YM (V.getD i .none)) V).map YM=K:=by
   unfold gK;by_cases J:V.length<2
   .rw[if_pos J];refine⟨.refl _,fB (f:=λn=>n) F ?_ l⟩
    match V,J with
    |[],_=>exact .nil
    |[x],_=>exact List.pairwise_singleton _ _
   .rw[if_neg J];obtain⟨z,⟨_,kr⟩,Oz,Uz⟩:=uI (r:=λi=>YM (V.getD i .none)) (n:=V.length) (by omega) N
    rw[kr];have O:(z.toList.map λi=>V.getD i .none).Perm V:=by
     refine(Oz.perm.map λi=>V.getD i .none).trans (List.Perm.of_eq ?_);refine List.ext_getElem (by simp) λi h1 h3=>?_
     rw[El,Im,Ad,Aa h3];rfl
    refine⟨O,fB (f:=λn=>n) ((O.map YM).trans F) ?_ l⟩;rw[Bz];refine Fs.mpr (By.mpr λi j y G a5=>?_);have sz:=Oz.size
    have g:=Uz i j a5 (by rw[<-sz];simpa using G)
    rw[Array.getD_eq_getD_getElem?,Array.getD_eq_getD_getElem?,Array.getElem?_eq_getElem (by simpa using y),Array.getElem?_eq_getElem (by simpa using G)]at g
    simpa using g
  obtain⟨o1,o2⟩:=a1;have L:=yP (vs:=gK (YB λi=>YM (V.getD i .none)) V) λv a4=>A v (o1.subset a4)
  rw[o2]at L;have fH:=I.Z4.fresh fD
  have I1:Inv X y3 U H {s with heap:=h',toks:=tk}:=I.kept k
  have d:=JP L
  rw[Bz]at d;refine⟨.ref D,_,I1.adopt (o:=.lst (K.map λk=>L2.V.int ((k:Nat):Int))) (I.Yz fD) fH ?_,rfl,q D fH⟩;exact⟨by rw[Ab];exact bH (by omega),_,c,d,hD⟩
def Nu{ws:List (Nat×Nat)}(e:Z2 H p=some (rs.map V.ref))(d:rs.length=ws.length)(c:∀(j:Nat) r w,rs[j]?=some r->ws[j]?=some w->H r=some (.tup [.int (w.1:Int),.int (w.2:Int)]))(a:ws.length<=76)(f:∀w∈ws,w.1<8/\w.2<8)(b:ws.Nodup)(h:∀r,H r=none->Q (.ref r) (upd H r (yC w0 r rs))):Pf w0 [.ref p] H Q:=⟨p,rs,ws,rfl,e,d,c,a,f,b,h⟩
def MA(e:Z2 H p=some (ks.map λk=>V.int ((k:Nat):Int)))(b:ks.length<=60)(a:∀k∈ks,k<100)(c:ks.Nodup)(h:∀r,H r=none->Q (.ref r) (upd H r (yI w0 r ks))):Sa w0 [.ref p] H Q:=⟨p,ks,rfl,e,b,a,c,h⟩
def KU(e:H p=some (yC w0 p rs))(d:∀r∈rs,∃a b:Nat,H r=some (.tup [.int (a:Int),.int (b:Int)])/\b<8)(c:rs.length<64)(f:rs.Pairwise (λx y=>YA H x<YA H y))(h:∀D,H D=none->Q (.ref D) (upd H D (.lst (rs.map V.ref)))):zO w0 [.ref p] H Q:=⟨p,rs,rfl,e,d,c,f,h⟩
def FI(e:H p=some (yI w0 p ks))(a:ks.length<64)(b:ks.Pairwise (· < ·))(h:∀D,H D=none->Q (.ref D) (upd H D (.lst (ks.map λk=>V.int ((k:Nat):Int))))):OQ w0 [.ref p] H Q:=⟨p,ks,rfl,e,a,b,h⟩
end
section
open PySem.W (CodeHd tabObj)
structure Xj (mg:Str->Option Value) (base:Heap) (c Pt:Addr):Prop where
 code:CodeHd base c Pt
 bm:∃bm ob,mg "__builtins__"=some (.ref bm)/\bm≠builtinsNs/\base.get? bm=some ob/\ob.cls=.type "module"/\ob.dict=some builtinsNs/\ob.data=.plain
def Sv(h:Heap)(b:Str->Option Value)(x:Str)(c:Addr):Prop:=∃f o a,b x=some (.ref f)/\h.get? f=some o/\o.data=.func a/\a.code=.ref c
def HP{mb:Q5}{k:Nat}{fa c Pt:Addr}{s₁:Shared}(KX:K.In s₁.heap)(hns:s₁.heap.Ns mainGlobals mg)(hb:s₁.heap.Ns builtinsNs mb)(hbb:∀x:Str,x≠"__name__"->mb x=bootBuiltins x)(hlim:s₁.heap.NoLimit)(hg:s₁.gens=#[])(ha:s₁.heap.get? a=some {cls:=.type "list",data:=.seq vs.toArray})(hi:IntsAre vs ns)(hl:ns.length<=sizeLine)(hr:Z7 k callerA)(hC:CodeHd s₁.heap c Pt)(hP:s₁.heap.get? Pt=some (tabObj #[]))(hbm:∃bm ob,mg "__builtins__"=some (.ref bm)/\bm≠builtinsNs/\s₁.heap.get? bm=some ob/\ob.cls=.type "module"/\ob.dict=some builtinsNs/\ob.data=.plain)(hKP:K.lookup Pt=none)(F:∀base,K.In base->base.Ns mainGlobals mg->Xj mg base c Pt->Z6 P w K mg base CX k fa fd [x] sp)(hbind:∀s u,BindsTo s fd ⟨[u],[]⟩ [(x,u)])(hsp:∀H,H Pt=some (.tbl #[])->Zo K H a (ns.map V.int)->sp [.ref a] H (λv _=>v=.bl true) λ_ _ _=>False)(hCX:∀H e s',CX [] H s₁ (λ_ _ _=>False) e s'->False):codeAny (model P w) callerA (.call (.ref fa) ⟨[.ref a],[]⟩) (λr s'=>r=.ok (.ret (.bool true))/\OldK s₁.heap s'.heap/\s'.os=s₁.os/\AllBare s'.gens) s₁:=by
 have rv:=zW hi
 have lenV:=hi.length
 have naP:a≠Pt:=λz=>by rw[z,hP]at ha;cases ha
 have core:∀ H,(∀ b,H b=none\/(∃ o xs,H b=some (.frz o (.lst xs)))\/b=Pt)->H Pt=some (.tbl #[])->Zo K H a (ns.map V.int)->Zj P w H s₁.heap->(∀ b,H b≠none->b=a\/b=Pt)->(H a≠none->K.lookup a=none)->
     codeAny (model P w) callerA (.call (.ref fa) ⟨[.ref a],[]⟩) (λr s'=>r=.ok (.ret (.bool true))/\OldK s₁.heap s'.heap/\s'.os=s₁.os/\AllBare s'.gens) s₁:=by
  intro H hO hHP hS Z4 hA hK;have base_of:∀ {b:Addr} {o:Obj},s₁.heap.get? b=some o->H b=none->(xS s₁.heap H).get? b=some o:=λe n=>MJ e n
  have noT:∀ {b:Addr} {o:Obj},s₁.heap.get? b=some o->(∀its n,o.data≠.seq its n)->(∀ps,o.cls=.none->o.data≠.fields ps)->H b=none:=fun {b o} e d d2=>by
   cases q:H b with
   |none=>rfl
   |some u=>
    rcases hA b (by rw[q];simp) with e'|e'
    .subst e';rw[ha]at e;cases e;exact absurd rfl (d _ _)
    .subst e';rw[hP]at e;cases e;exact absurd rfl (d2 _ rfl)
  have noA:∀ {b:Addr} {o:Obj} {es:Array DictEntry} {ep:Nat},s₁.heap.get? b=some o->o.data=.dict es ep->H b=none:=fun {b o es ep} e d=>noT e (λ_ _ z=>by rw[d]at z;cases z) λ_ _ z=>by rw[d]at z;cases z
  have nsK:∀ {b:Addr} {m:Q5},s₁.heap.Ns b m->(xS s₁.heap H).Ns b m:=fun {b m} ⟨o,es,ep,e,d,r⟩=>⟨o,es,ep,base_of e (noA e d),d,r⟩
  have hKb:=λb o e=>base_of (KX b o e) (by
   cases q:H b with
   |none=>rfl
   |some u=>
    rcases hA b (by rw[q];simp) with e'|e'
    .subst e';rw[hK (by rw[q];simp)]at e;cases e
    .subst e';rw[hKP]at e;cases e)
  have hM:Mod K mg (xS s₁.heap H):=⟨hKb,nsK hns,⟨mb,nsK hb,hbb⟩,let ⟨mc,h1,h2⟩:=hlim;⟨mc,nsK h1,h2⟩⟩
  have hLB:Xj mg (xS s₁.heap H) c Pt:=by
   refine⟨?_,?_⟩
   .obtain⟨o,vs,file,tf,flags,tg,inF,text,tt,e,ecl,eda,r⟩:=hC;exact⟨o,vs,file,tf,flags,tg,inF,text,tt,base_of e (noT e (λ_ _ z=>by rw[eda]at z;cases z) λ_ z=>by rw[ecl]at z;cases z),ecl,eda,r⟩
   .obtain⟨bm,ob,b1,b2,b3,b4,b5,b6⟩:=hbm;exact⟨bm,ob,b1,b2,base_of b3 (noT b3 (λ_ _ z=>by rw[b6]at z;cases z) λ_ z=>by rw[b4]at z;cases z),b4,b5,b6⟩
  have e0:YD P w K mg (xS s₁.heap H) callerA [] s₁ H:=⟨rfl,hM,λb o e=>L8 e,Nat.le_of_eq (zi _ _),trivial,λb hb=>absurd (show b∈([]:List Addr) from hb) (by simp),Z4,.of_eq hg⟩
  refine Dy ((F _ hKb (nsK hns) hLB).run callerA [] s₁ H ⟨[.ref a],[]⟩ [.ref a] [.ref a] _ _ hr e0 (hbind s₁ (.ref a)) (.cons rfl .nil) (hsp H hHP hS)) λr s' h=>?_;cases r with
  |error e=>exact(hCX H e s' h).elim
  |ok fl=>
   cases fl with
   |next=>exact False.elim h
   |brk=>exact False.elim h
   |cont=>exact False.elim h
   |ret u=>
    obtain⟨v,H',os,bare,un,hok',r',q⟩:=h;have q':=q
    subst q';obtain rfl:u=Value.bool true:=r';refine⟨rfl,⟨λb o e=>?_,λb o e=>?_⟩,os,bare⟩
    .cases q:H b with
     |none=>exact .inl (un.keep b o e q (by intro z;exact absurd (show b∈([]:List Addr) from z) (by simp)) (by simp))
     |some u=>
      rcases hO b with z|⟨ob,xs,z⟩|z
      .rw[q]at z;cases z
      .have z2:=un.frzs b ob _ z
       obtain⟨e1,_⟩:=Z4 b _ z;obtain⟨e2,_⟩:=hok' b _ z2;rw[e]at e1;cases e1;exact .inl e2
      .subst z;rw[hP]at e;cases e;obtain⟨more,z2⟩:=un.tbls b _ hHP;exact .inr (.inl ⟨(hC.tab hP).isCodeTable,rfl,#[],more,rfl,hok' b _ z2⟩)
    .exact un.there b o e (by simp)
 have tblOk:∀H,H Pt=some (.tbl #[])->ZX P w H s₁.heap Pt (.tbl #[]):=λ_ _=>hP
 cases hk:K.lookup a with
 |some o=>
  have e:=KX a o hk
  rw[ha]at e;cases e;refine core (λb=>if b=Pt then some (.tbl #[]) else none) (λb=>?_) (if_pos rfl) (.inr ⟨_,vs.toArray,_,hk,rfl,rfl,rfl,by rw[List.size_toArray,lenV];exact hl,by simpa using rv⟩) (λb u z=>?_) (λb z=>?_) λz=>?_
  .by_cases hb:b=Pt
   .exact .inr (.inr hb)
   .exact .inl (if_neg hb)
  .by_cases hb:b=Pt
   .have z':=(if_pos hb).symm.trans z
    cases z';subst hb;exact hP
   .have z':=(if_neg hb).symm.trans z
    cases z'
  .by_cases hb:b=Pt
   .exact .inr hb
   .exact absurd (if_neg hb) z
  .exact absurd (if_neg naP) z
 |none=>
  refine core (λb=>if b=a then some (.frz {cls:=.type "list",data:=.seq vs.toArray} (.lst (ns.map V.int))) else if b=Pt then some (.tbl #[]) else none) (λb=>?_) ((if_neg naP.symm).trans (if_pos rfl)) (.inl (.inr ⟨{cls:=.type "list",data:=.seq vs.toArray},if_pos rfl⟩)) (λb u z=>?_) (λb z=>?_) λ_=>hk
  .by_cases hb:b=a
   .exact .inr (.inl ⟨_,_,if_pos hb⟩)
   .by_cases hb2:b=Pt
    .exact .inr (.inr hb2)
    .exact .inl ((if_neg hb).trans (if_neg hb2))
  .by_cases hb:b=a
   .have z':=(if_pos hb).symm.trans z
    cases z';subst hb;exact⟨ha,by rw[Ab];exact hl,vs,_,rv,ha⟩
   .by_cases hb2:b=Pt
    .have z':=((if_neg hb).trans (if_pos hb2)).symm.trans z
     cases z';subst hb2;exact hP
    .have z':=((if_neg hb).trans (if_neg hb2)).symm.trans z
     cases z'
  .by_cases hb:b=a
   .exact .inl hb
   .by_cases hb2:b=Pt
    .exact .inr hb2
    .exact absurd ((if_neg hb).trans (if_neg hb2)) z
def NA{l:W.OpenLaw}{n k:Nat}{q:Program}{t:List Str}{XP:(Q5)->Heap->Prop}{YP:World->Heap->Prop}{d d2:DefRec}{K:Params->W.Frag}{CX:World->XX}{sp:World->Addr->Sp}(hn:l.most=some n)(I:n<=sizeLine)(L:d.params.defaults=[])(hr:Z7 k callerA)(M:d2∈recsOf q)(E:∀w:World,W.noTabs (K w.params)=true)(hY:∀(w:World) (h:Heap),YP w h->(K w.params).In h)(F:∀(w:World) (p:Q5) (B:Addr) (h:Heap) (c j:Addr),(K w.params).In h->h.Ns mainGlobals p->p d.name=some (.ref B)->Sv h p d2.name c->
 ∃Q:FuncData,(∀(s:Shared) (u:Value),BindsTo s Q ⟨[u],[]⟩ [(x,u)])/\
  ∀i:Heap,(K w.params).In i->i.Ns mainGlobals p->Xj p i c j->Z6 l.prog w (K w.params) p i (CX w) k B Q [x] (sp w j))(D:∀(w:World) (H:Hp) (a j:Addr) (A:List Int),A.length<=n->H j=some (.tbl #[])->Zo (K w.params) H a (A.map V.int)->sp w j [.ref a] H (λv _=>v=.bl true) λ_ _ _=>False)(O:∀(w:World) (H:Hp) (s:Shared) (e:Value) (C:Shared),CX w [] H s (λ_ _ _=>False) e C->False):W.WalkO q t XP YP l.row.toRowW d [] (λf S=>PySem.call f S):=by
 refine Att.Yc hn L λw X m p mb B o pm cd a3 a S A G Y ho hd a1 J z y r hg=>?_;have R:=hY w _ Y
 obtain⟨a2,o2,P,c,j,t1,t2,t3,t4,t5,U⟩:=G.T.tab d2 M;have hC:=CodeHd.of t5 U
 have Z:m.heap.get? j=some (tabObj #[]):=U.2
 have N:(K w.params).lookup j=none:=by
  cases e:(K w.params).lookup j with
  |none=>rfl
  |some o=>
   have h1:=R _ _ e
   rw[Z]at h1;cases h1;have h2:=Di.mp (E w) (j,tabObj #[]) (W.mem_of_lookupK e)
   exact absurd (show false=true from h2) Av
 obtain⟨Q,hb,hF⟩:=F w p B _ c j R G.T.g J ⟨a2,o2,P,t1,t2,t3,t4⟩;exact HP R G.T.g G.T.b G.T.builtins G.T.nolimit hg z y (Bo r I) hr hC Z G.T.bmain N hF hb (λH hO hS=>D w H a j A r hO hS) λH e C=>O w H m e C
end
section
open PySem.W (CodeHd tabObj kla_obj kla_fn envX)
end
def uN(CX:XX)(P:Program)(w:World)(K:W.Frag)(c:Str->Option Value)(a:Heap)(k:Nat)(C:Addr)(m:Str)(ps:List Str)(sp:Sp):Prop:=
 ∃f b,Z6 P w K c a CX k f b ps sp/\Meth K C m f/\Binds K b ps []
def T_(CX:XX)(P:Program)(w:World)(K:W.Frag)(c:Str->Option Value)(a:Heap)(k:Nat)(C:Addr)(ps:List Str)(sp:Sp):Prop:=
 ∃f b,Z6 P w K c a CX k f b ps sp/\Mk K C f/\Binds K b ps []
section
variable {k:Nat} {E:XK} {m:Str} {p:Pos} {o:Expr} {ta:TE} {t:TA}
def TC(C:Addr)(m:Str)(sp:Sp)(h:St->XK)(e:TE)(t:TA):TE:=λU H Q=>e U H λx c=>∃a f b,x=.ref a/\c a=some (.ins C f b)/\b.lookup m=none/\
 t U c λd g=>sp (x::d) g Q (h U)
def EE{us:List Value}{vs:List V}(F:Z6 X.prog X.w X.K X.mg X.base CX k f fd ps sp)(i:Z7 k X.A)(l:Binds X.K fd ps [])(h:zT CX X Es)(c:Inv X y3 U H s1)(r:Vals vs us)(q:sp vs H Q (Es U)):wpAny (model X.prog X.w) X.A (call (.ref f) us) (EP X y3 U Q) X.xe s1:=by
 have j:us.length=ps.length:=by rw[<-r.length];exact F.len _ _ _ _ q
 have b:=l s1 us c.ZK (by simp_all)
 rw[Be]at b;refine Fv (Dy (F.run X.A X.stack s1 H ⟨us,[]⟩ us vs Q (Es U) i c.Ye b r q) λg d a=>?_);cases g with
 |error e=>exact h y3 U H s1 e d c a
 |ok m=>
  cases m with
  |ret u=>exact c.after a
  |next=>exact False.elim a
  |brk=>exact False.elim a
  |cont=>exact False.elim a
def EW{pl:Sem Bool}(he:PE X o ta)(c:Yq X.K C)(hm:Meth X.K C m f)(F:Z6 X.prog X.w X.K X.mg X.base CX k f fd ps sp)(hr:Z7 k X.A)(hb:Binds X.K fd ps [])(hx:zT CX X Es)(ha:PA X (e::es) t)(hst:starEach (e::es) X.env=(false,eval e X.env)::starEach es X.env:=by rfl)(hpl:(backTo pos (starEach es X.env)).any (·.1)=false:=by rfl)(ht:eval (.Call (.Attribute o m apos) (e::es) [] pos) X.env=(do
 let ov <-eval o X.env
 standAt apos.atName
 let (f,first) <-holding [ov] (getMethod ov m pl)
 callWith pos f first (backTo pos (starEach (e::es) X.env)) (backToKw pos (keywordEach [] X.env))):=by rfl):PE X (.Call (.Attribute o m apos) (e::es) [] pos) (TC C m sp Es ta t):=by
 intro y3 s U H Q I h;refine Fg  (Z1 (he y3 s U H _ I h) λu s1 μ=>?_) ht;obtain⟨x,H1,I1,rx,a,dx,fs,ex,ea,l,q⟩:=μ;subst ex;obtain rfl:u=Value.ref a:=rx;refine gZ I1 ea c hm l ?_;refine Ew   I.ok.mod.Xs hm.kp (Z1 (ha pos y3 s1 U H1 _ I1 q) λus s2 ⟨vs,H2,I2,r,q2⟩=>⟨I2.ZK,?_⟩) hst hpl
 exact EE (us:=.ref a::us) (vs:=.ref a::vs) F hr hb hx I2 (.cons rfl r) q2
def nE(c:uN ZP X.prog X.w X.K X.mg X.base k C m ps sp)(j:Yq X.K C)(d:Z7 k' X.A)(g:k<=k')(h:PE X o ta)(b:eval (.Call (.Attribute o m apos) [] [] pos) X.env=(do
 let a <-eval o X.env
 standAt apos.atName
 let (f,first) <-holding [a] (getMethod a m pl)
 callWith pos f first (backTo pos (starEach [] X.env)) (backToKw pos (keywordEach [] X.env))):=by rfl):PE X (.Call (.Attribute o m apos) [] [] pos) (Vi C m sp [] E0 ta vP):=by
 obtain⟨f,l,F,e,i⟩:=c;exact Nr  h j e F (d.mono g) i .nil Ui b
def IV(c:uN (Y3 X.prog X.w) X.prog X.w X.K X.mg X.base k C m ps sp)(r:Yq X.K C)(g:iD (Y3 X.prog X.w) X E)(i:Z7 k' X.A)(l:k<=k')(n:PE X o ta)(q:PA X (e::es) t)(a:starEach (e::es) X.env=(false,eval e X.env)::starEach es X.env:=by rfl)(b:(backTo pos (starEach es X.env)).any (·.1)=false:=by rfl)(h:eval (.Call (.Attribute o m apos) (e::es) [] pos) X.env=(do
 let d <-eval o X.env
 standAt apos.atName
 let (f,first) <-holding [d] (getMethod d m pl)
 callWith pos f first (backTo pos (starEach (e::es) X.env)) (backToKw pos (keywordEach [] X.env))):=by rfl):PE X (.Call (.Attribute o m apos) (e::es) [] pos) (Vi C m sp [] E ta t):=by
 obtain⟨f,s,F,j,p⟩:=c;exact G7  n r j F (i.mono l) p .nil g q a b h
def AE(c:uN (Y3 X.prog X.w) X.prog X.w X.K X.mg X.base k C m ps sp)(r:Yq X.K C)(g:zT (Y3 X.prog X.w) X Es)(i:Z7 k' X.A)(l:k<=k')(n:PE X o ta)(q:PA X (e::es) t)(a:starEach (e::es) X.env=(false,eval e X.env)::starEach es X.env:=by rfl)(b:(backTo pos (starEach es X.env)).any (·.1)=false:=by rfl)(h:eval (.Call (.Attribute o m apos) (e::es) [] pos) X.env=(do
 let d <-eval o X.env
 standAt apos.atName
 let (f,first) <-holding [d] (getMethod d m pl)
 callWith pos f first (backTo pos (starEach (e::es) X.env)) (backToKw pos (keywordEach [] X.env))):=by rfl):PE X (.Call (.Attribute o m apos) (e::es) [] pos) (TC C m sp Es ta t):=by
 obtain⟨f,s,F,j,p⟩:=c;exact EW  n r j F (i.mono l) p g q a b h
def GI(c:T_ ZP X.prog X.w X.K X.mg X.base k C ps sp)(d:Z7 k' X.A)(h:k+1<=k')(i:Gl X x)(g:X.mg x=some (.ref C))(m:PA X (e::es) t)(b:(x==("__debug__" : Str))=false:=by decide)(j:starEach (e::es) X.env=(false,eval e X.env)::starEach es X.env:=by rfl)(a:(backTo pos (starEach es X.env)).any (·.1)=false:=by rfl):PE X (.Call (.Name x p) (e::es) [] pos) (Uk C sp [] E0 t):=by
 obtain⟨f,n,F,M,l⟩:=c;exact KS M F (d.mono h) i g l .nil Ui m b j a
def J9{b:List V}(h:ta U H λx d=>∃a f c,x=.ref a/\d a=some (.ins C f c)/\c.lookup m=none/\t U d λe g=>sp (x::(e++b)) g Q E):Vi C m sp b E ta t U H Q:=h
def LZ(h:ta U H λx c=>∃a e b,x=.ref a/\c a=some (.ins C e b)/\b.lookup m=none/\t U c λd f=>sp (x::d) f Q (Es U)):TC C m sp Es ta t U H Q:=h
def ID{a:List V}(h:t U H λd c=>∀x b,c x=none->c b=none->b≠x->sp (.ref x::(d++a)) (upd (upd c b (.own x)) x (.ins C b [])) (λv e=>v=.non/\Q (.ref x) e) E):Uk C sp a E t U H Q:=h
def Kx{f:Str}(h:ta U H λx c=>∃a C d b v,x=.ref a/\c a=some (.ins C d b)/\Yq K C/\Zh K C f/\b.lookup f=some v/\Q v c):NM K ta f U H Q:=h
def AX{f:Str}(h:tv U H λy e=>ta U e λx d=>∃a C c b,x=.ref a/\d a=some (.ins C c b)/\Yq K C/\Zh K C f/\b.length<1000/\D.nx U (upd d a (.ins C c (gC f y b)))):Rx K ta tv f D U H:=h
end
def UG(w:World):List DictEntry->List (Str×Int)->Prop
 |[],[]=>True
 |e::es,kn::r=>e.hash=PyData.keyHash w.params kn.1/\(∃t,e.key=.str kn.1 t)/\(∃t,e.val=.int kn.2 t)/\UG w es r
 |_,_=>False
def P_(w:World)(K:W.Frag)(c:Str->Option Value)(x:Str)(a:List (Str×Int)):Prop:=
 ∃d b e,c x=some (.ref d)/\K.lookup d=some ⟨.type "dict",none,.dict b e,#[]⟩/\(d==sysModules)=false/\UG w b.toList a/\(a.map (·.1)).Nodup
theorem wZ{P:Program}:∀ {d:List DictEntry} {a:List (Str×Int)},UG w d a->∃b,Pairs (bE P w) d b/\b.map (·.1)=a.map (λo=>(Sum.inr o.1:Key))/\(∀e∈d,∃k,(bE P w).is k e.key=true/\e.hash=(bE P w).hash k)/\
 ∀z,(match valueAt b (Sum.inr z:Key) with|some u=>∃n t,a.lookup z=some n/\u=.int n t|none=>a.lookup z=none)
 |[],[],_=>⟨[],.nil,rfl,(λe f=>nomatch f),λz=>rfl⟩
 |e::d,(k,n)::r,h=>by
  obtain⟨y,⟨t,j⟩,⟨i,x⟩,v⟩:=h;obtain⟨b,p,m,s,l⟩:=wZ (P:=P) v;refine⟨((Sum.inr k:Key),.int n i)::b,.cons (by rw[j];exact nQ k t) x p,by rw[Ax,m];rfl,λA f=>?_,λz=>?_⟩
  .rcases Bb.mp f with rfl|q
   .exact⟨Sum.inr k,by rw[j];exact nQ k t,y⟩
   .exact s A q
  .have c:=l z
   unfold valueAt at c ⊢;rw[List.find?_cons];by_cases g:k=z
   .subst g;rw[An rfl];exact⟨n,i,by rw[Ek,Gd],rfl⟩
   .rw[As λq=>g (Sum.inr.inj q)];rw[Ek,show (z==k)=false from Cs.mpr λq=>g q.symm];exact c
 |[],_::_,h=>h.elim
 |_::_,[],h=>h.elim
def Rm(a:List (Str×Int))(c:TA):TE:=λU H Q=>c U H λb d=>∃z,b=[.str z]/\Q (match a.lookup z with|some n=>.int n|none=>.non) d
def Mh{a:List (Str×Int)}{p:Pos}(hg:Gl X x)(hk:P_ X.w X.K X.mg x a)(ha:PA X [e] ta)(A:(x==("__debug__" : Str))=false:=by decide)(i:attributeBase (.Name x p) "get" X.env (eval (.Name x p) X.env)=eval (.Name x p) X.env:=by rfl)(j:((backTo cpos (starEach [e] X.env)).all (λx=>!x.1)&&(backToKw cpos (keywordEach [] X.env)).all (λx=>x.1.isSome)
 && decide (([e]:List Expr).length+([]:List Keyword).length+(if ([]:List Keyword).isEmpty then 0 else 1)<30))=true:=by rfl)(g:(apos.endLine==cpos.line)=true:=by rfl)(hs:starEach [e] X.env=(false,eval e X.env)::starEach [] X.env:=by rfl)(f:(backTo cpos (starEach [] X.env)).any (·.1)=false:=by rfl):PE X (.Call (.Attribute (.Name x p) "get" apos) [e] [] cpos) (Rm a ta):=by
 intro D s U H Q I h;obtain⟨d,es,ep,hm,hl,hd,ok,nd⟩:=hk;obtain⟨E,Z,m,ke,S⟩:=wZ (P:=X.prog) ok;have J:∀r:Shared,X.K.In r.heap->r.heap.DictOf (bE X.prog X.w) d E:=λr k=>⟨_,es,ep,k _ _ hl,by first|exact⟨rfl,rfl,rfl⟩|exact⟨rfl,rfl⟩|(constructor<;>rfl),rfl,λe he=>ke e (by simpa using he),Z,by rw[m,show a.map (λkn=>(Sum.inr kn.1:Key))=(a.map (·.1)).map (λz=>(Sum.inr z:Key)) by rw[List.map_map];rfl];exact List.pairwise_map.mpr (nd.imp λn q=>n (Sum.inr.inj q))⟩
 have ho:PE X (.Name x p) (tC (.ref d)):=T9 hg hm rfl A
 refine Jb i j g rfl (Z1 (ho D s U H (λy C=>y=.ref d/\C=H) I ⟨rfl,rfl⟩) λv F μ=>?_);obtain⟨x',C,N,Y,q⟩:=μ;obtain⟨rfl,rfl⟩:=q;cases Y;have M:=J F N.ZK
 refine⟨"dict",_,Iu,Cc,rfl,M.typeIs,λb q=>?_,?_⟩
 .cases q;obtain⟨ob,_,_,h1,h2,_⟩:=M;exact⟨ob,h1,h2.2.1⟩
 have G:=ha cpos D F U C _ N h
 rw[hs]at G ⊢;refine Gy (by show (false || (backTo cpos (starEach [] X.env)).any (·.1))=false;rw[f]<;>rfl) (Ho ?_)
 refine Z1 G λus V μ=>?_;obtain⟨R,O,B,W,z,ez,l⟩:=μ;subst ez;obtain⟨u,rfl,t,rfl⟩:=dI W;have L:=J V B.ZK
 refine Gz Cc L.typeIs Fz (Ir _ _) (meets_dict_get (bE X.prog X.w) d (show (bE X.prog X.w).is (Sum.inr z:Key) (Value.str z t)=true from nQ z t) hd) ⟨_,L.mapOf,?_⟩;have c:=S z
 cases e:valueAt E (Sum.inr z:Key) with
 |none=>
  rw[e]at c;have o:=c
  rw[o]at l;exact⟨.non,O,B.tok _,rfl,l⟩
 |some u=>
  rw[e]at c;obtain⟨n,T,e2,rfl⟩:=c;rw[e2]at l;exact⟨.int n,O,B.tok _,⟨T,rfl⟩,l⟩
def ET{a:List (Str×Int)}(h:ta U H λb c=>∃z,b=[.str z]/\Q (match a.lookup z with|some n=>.int n|none=>.non) c):Rm a ta U H Q:=h
def P9:R2:=λx y H Q=>∃p q a,x=.ref p/\y=.ref q/\H p=some (.tup a)/\H q=some (.tup [])/\Q (.bl a.isEmpty) H
def Jz(z:X.A.units<cLine):ZN X (compareOp .Eq) P9:=by
 intro E s U H x y v u Q I l i h;obtain⟨p,q,d,rfl,rfl,C,B,k⟩:=h;cases l;cases i;obtain⟨c,n,w,_⟩:=I.tuple (YF.of (K:=X.K) C);obtain⟨f,m,o,_⟩:=I.tuple (YF.of (K:=X.K) B);have g:=n.length
 cases m;refine SeqAt.eq_tupleAt (e:=λ_=>true) (show s.heap.IsTuple p _ from w) (show s.heap.IsTuple q _ from o) z (λj F D=>absurd D (by simp)) ?_
 refine⟨.bl d.isEmpty,H,I,?_,k⟩;show Value.bool _=Value.bool _
 congr 1
 grind
def J0(b:H p=some (.tup xs))(a:H q=some (.tup []))(h:Q (.bl xs.isEmpty) H):P9 (.ref p) (.ref q) H Q:=⟨p,q,xs,rfl,rfl,b,a,h⟩
def aQ(i:Nat){a:Pos}(g:X.N.Nodup)(f:PE X e te)(c:X.N[i]?=some x:=by rfl)(b:Loc X.env.scope x:=by first|exact Or.inl rfl|exact Or.inr rfl)(hs:swapsWith e (some (.Name x a)) pos.line X.env=pure false:=by rfl)(d:X.fn x=true\/X.env.scope.names.lookup x=some .local:=by first|exact Or.inl rfl|exact Or.inr rfl):PS X (.Assign [.Name x a] e pos) (VY te (lD i)):=SQ g c b f hs d
def SJ(P:Program)(w:World)(K:W.Frag)(c:Str->Option Value)(a:Heap)(k:Nat)(C:Addr)(m:Str)(ps:List Str)(sp:Sp):Prop:=
 ∃f b,Yw P w K c a k f b ps sp/\Meth K C m f/\Binds K b ps []
def Pb(e C:Addr)(m:Str)(sp:Sp)(d:TE):TE:=λU H Q=>d U H λx b=>∃a f c,x=.ref a/\b a=some (.ins C f c)/\c.lookup m=none/\(∃o u,b e=some (.frz o u)/\Wl o)/\sp [x] b Q E0
def Mj{c:TE}(h:c U H λx b=>∃a e d,x=.ref a/\b a=some (.ins C e d)/\d.lookup m=none/\(∃o u,b ea=some (.frz o u)/\Wl o)/\sp [x] b Q E0):Pb ea C m sp c U H Q:=h
def C3{o:Expr}{ta:TE}(c:SJ X.prog X.w X.K X.mg X.base k C m ps sp)(cl:Yq X.K C)(hr:Z7 k' X.A)(hk:k<=k')(he:PE (X.ZH pn ea) o ta)(ht:eval (.Call (.Attribute o m apos) [] [] pos) (X.ZH pn ea).env=(do
 let ov <-eval o (X.ZH pn ea).env
 standAt apos.atName
 let (f,first) <-holding [ov] (getMethod ov m pl)
 callWith pos f first (backTo pos (starEach [] (X.ZH pn ea).env)) (backToKw pos (keywordEach [] (X.ZH pn ea).env))):=by rfl):PE (X.ZH pn ea) (.Call (.Attribute o m apos) [] [] pos) (Pb ea C m sp ta):=by
 obtain⟨f,fd,F,hm,hb⟩:=c;intro y3 s U H Q I h;refine Fg (pl:=pl) (Z1 (he y3 s U H _ I h) λu s1 μ=>?_) ht;obtain⟨x,H1,I1,rx,a,dx,fs,ex,hea,l,⟨oz,uz,ez,cz⟩,q⟩:=μ;subst ex;obtain rfl:u=Value.ref a:=rx;refine gZ I1 hea cl hm l ?_;refine W.callWith_K0 (first:=[.ref a]) I1.ZK hm.kp ?_
 have hl:=F.len [.ref a] H1 Q E0 q
 have hbb:=hb s1 [.ref a] I1.ZK hl
 rw[Be]at hbb;have e1:=I1.Ye
 have e0:YD X.prog X.w X.K X.mg X.base X.A X.stack s1 H1:=⟨e1.frames,e1.mod,e1.bs,e1.X7,e1.Zr,e1.Xx,e1.Z4,e1.bare⟩
 refine Fv (Dy (F.run X.A ea X.stack s1 H1 ⟨[.ref a],[]⟩ [.ref a] [.ref a] Q (hr.mono hk) ⟨oz,(I1.Z4 ea _ ez).1,cz,.inr ⟨uz,ez⟩⟩ e0 hbb (.cons rfl .nil) q) λrr s' hq=>?_);cases rr with
 |error e=>exact False.elim hq
 |ok fl=>
  cases fl with
  |ret u=>exact I1.after hq
  |next=>exact False.elim hq
  |brk=>exact False.elim hq
  |cont=>exact False.elim hq
end L2
namespace Mine
open PySem L2
variable {C Z0 Zt Zu Zv Zw Zx Zy Zz b dd dx f hg p r rw' s0 st x:Addr}{F cs cw fs ks os:List Nat}{H H' H1:Hp}{Q:VK}{bk:List (Str×Str)}{bs ds l:List Addr}{cws:Q6}{d i j k n:Nat}{fd:FuncData}{g t:Nat->Option Int}{h:Option (List Nat)}{hs wv:Q4}{kvs:List (Key×V)}{mg:Q5}{o:HO}{us xs:List V}{v:V}{z:Str}{zs:List Str}{α β:Type}
theorem r0:1<=sizeLine:=by decide
theorem q0:2<=sizeLine:=by decide
theorem o0:3<=sizeLine:=by decide
local macro_rules|`(tactic|fail $s:str)=>do let i x:=Lean.mkIdent (`_root_++String.toName x);match s.getString.splitOn " " with|"z"::r=>do let a<-r.toArray.mapM λx=>`(tacticSeq|refine $(i x) ?_);`(tactic|with_reducible first $[|$a]*)|["y",x,t]=>`(tactic|((with_reducible refine $(i x) ?sc ?_); (case sc => fail $(Lean.Syntax.mkStrLit t))))|["w",x,t]=>`(tactic|((with_reducible refine' $(i x) ?sc ?_); (case sc => fail $(Lean.Syntax.mkStrLit t))))|["v",x]=>`(tactic|((with_reducible refine' $(i x) ?se ?sn ?_); (case se => fail "rd"); (case sn => exact rfl)))|_=>Lean.Macro.throwUnsupported
local macro_rules | `(tactic| fail "rd") => `(tactic| first | assumption | exact cV | exact rP | exact sP | exact aP (by assumption) | exact bP (by assumption) | (apply aM (aG (by assumption) _); fail "rd"))
local macro_rules | `(tactic| fail "dd") => `(tactic| first | exact jU (by assumption) | exact TR (by assumption) | exact jU aD | assumption)
local macro_rules | `(tactic| fail "lo") => `(tactic| first | assumption | decide | omega | (simp only [List.length_map,List.length_append,List.length_cons,List.length_nil,Str.length_append]; omega))
local macro_rules | `(tactic| fail "ln") => `(tactic| first | assumption | decide | exact bH (by fail "lo") | exact bG (by fail "lo"))
local macro_rules | `(tactic| fail "ar") => `(tactic| first | assumption | decide | omega | exact ⟨by omega,by omega⟩ | exact Or.inl ⟨by omega,by omega⟩ | exact Or.inr ⟨by omega,by omega⟩ | (dsimp only; done) | (dsimp only; omega))
local macro_rules | `(tactic| fail "g") => `(tactic| repeat' (fail "s"))
local macro_rules|`(tactic|left)=>`(tactic| repeat' (fail "s"))
local macro_rules | `(tactic| fail "sc") => `(tactic| exact ⟨rfl,rfl,rfl,by decide +kernel,rfl,by decide +kernel,by decide +kernel⟩)
local macro_rules | `(tactic| fail "o") => `(tactic| first | exact Or.inl rfl | exact Or.inr rfl)
local macro_rules | `(tactic| fail "u") => `(tactic| repeat' ((fail_if_success (with_reducible refine oN ?_)); (fail "s")))
local macro_rules|`(tactic|fail "5")=>`(tactic|first|dsimp only)
local macro_rules|`(tactic|fail "4")=>`(tactic|first|fail "y L2.BD dd"|fail "z L2.IT L2.HG L2.MG L2.DJ L2.D5 L2.G3 L2.J6 L2.K0 L2.JB"|fail "v L2.I_"|fail "z L2.AL L2.z0 L2.Nm L2.D6 L2.K1 L2.Mo L2.FZ L2.ER L2.CF L2.Lp L2.AX L2.Kx L2.J9 L2.LZ L2.Mj L2.ID L2.ET L2.LA L2.KY L2.J_ L2.zt")
local macro_rules|`(tactic|fail "3")=>`(tactic|first|((with_reducible refine' La ?se ?sl ?_); (case se => fail "rd"); (case sl => fail "ln"))|((with_reducible refine' O1 ?se ?sf ?sl ?_); (case se => fail "rd"); (case sf => fail "rd"); (case sl => fail "ln"))|fail "y L2.s_str ar"|fail "z L2.MS L2.AZ L2.B1 L2.JZ L2.FO L2.J5 L2.ze"|fail "v L2.DK"|fail "z L2.Kr L2.LG L2.JS L2.Nq L2.Kj L2.GP L2.L_ L2.DN L2.Jw L2.E3")
local macro_rules|`(tactic|fail "2")=>`(tactic|first|((with_reducible refine' CW ?se ?se2 ?_); (case se => first | exact rfl | exact Rz (by assumption) | exact R3 (by assumption) | exact tyN_tup (by assumption) | exact Rz aD | exact R3 aD); (case se2 => first | exact (show VT _ _ = some true from rfl) | exact (show VT _ _ = some false from rfl) | exact rfl))|fail "z L2.Lj L2.F0 L2.Nt L2.IZ L2.Kp L2.CJ L2.CQ L2.zu L2.MH"|fail "w L2.K4 rd")
local macro_rules|`(tactic|fail "1")=>`(tactic|first|fail "y L2.JG ar"|with_reducible refine AR ?_|fail "y L2.GA ln"|fail "z L2.Ex L2.FT L2.EK L2.Ni L2.L7 L2.IJ"|fail "w L2.KA rd"|fail "y L2.HE ln"|fail "w L2.B_ rd"|with_reducible refine HY ?_|fail "w L2.CM rd")
local macro_rules|`(tactic|fail "0")=>`(tactic|first|fail "z L2.oN L2.D9 L2.AQ L2.FH L2.Bn L2.Ma L2.E8 L2.Sr L2.JL"|((with_reducible refine' Li ?sv ?_); (case sv => exact rfl))|fail "z L2.JY L2.LS L2.DF L2.M_ L2.MW L2.L0 L2.CG L2.BG L2.EM L2.EB L2.Lz L2.KJ"|fail "w L2.BQ rd"|fail "z L2.GZ L2.EL L2.KP L2.DV L2.Lu L2.HB L2.G_ L2.M3 L2.M8 L2.BY")
local macro_rules|`(tactic|fail "s")=>`(tactic|first|fail "0"|fail "1"|fail "2"|fail "3"|fail "4"|fail "5")
noncomputable def top(i:Nat):Stmt:=PySem.Challenge.pw_flaglocker_k53_haul_and_lower.main.body.getD i (.Pass ⟨0,0,0,0⟩)
noncomputable abbrev sI:Stmt:=top 82
noncomputable abbrev vH:Stmt:=top 83
noncomputable abbrev vB:Stmt:=top 86
noncomputable abbrev iI:Stmt:=top 85
noncomputable abbrev rY:Stmt:=top 87
noncomputable abbrev lN:Stmt:=top 81
noncomputable abbrev hZ:Stmt:=top 46
noncomputable abbrev kL:Stmt:=wR (top 79) 0
noncomputable abbrev rQ:Stmt:=top 90
noncomputable abbrev cY:Stmt:=wR (top 79) 2
noncomputable abbrev hX:Stmt:=wR (top 79) 3
noncomputable abbrev fW:Stmt:=top 84
noncomputable abbrev nG:Stmt:=top 88
noncomputable abbrev qI:Stmt:=top 77
noncomputable abbrev eM:Stmt:=top 70
noncomputable abbrev uL:Stmt:=top 48
noncomputable abbrev dL:Stmt:=top 60
noncomputable abbrev rL:Stmt:=top 64
noncomputable abbrev mL:Stmt:=wR (top 19) 0
noncomputable abbrev fQ:Stmt:=top 62
noncomputable abbrev kW:Stmt:=top 51
noncomputable abbrev gM:Stmt:=top 50
noncomputable abbrev kC:Stmt:=top 54
noncomputable abbrev mT:Stmt:=top 52
noncomputable abbrev gO:Stmt:=top 55
noncomputable abbrev kH:Stmt:=top 56
noncomputable abbrev eQ:Stmt:=top 57
noncomputable abbrev rN:Stmt:=top 58
noncomputable abbrev oQ:Stmt:=top 63
noncomputable abbrev rT:Stmt:=top 7
noncomputable abbrev lP:Stmt:=top 41
noncomputable abbrev pG:Stmt:=top 42
noncomputable abbrev sT:Stmt:=top 43
noncomputable abbrev gQ:Stmt:=top 65
noncomputable abbrev lT:Stmt:=top 66
noncomputable abbrev jW:Stmt:=wR (top 18) 0
noncomputable abbrev Sx:Stmt:=top 47
noncomputable abbrev vI:Stmt:=top 67
noncomputable abbrev rX:Stmt:=top 8
noncomputable abbrev rH:Stmt:=top 6
noncomputable abbrev kT:Stmt:=top 10
noncomputable abbrev jV:Stmt:=top 11
noncomputable abbrev iU:Stmt:=wR (top 22) 0
noncomputable abbrev iX:Stmt:=top 73
noncomputable abbrev hU:Stmt:=top 74
noncomputable abbrev oJ:Stmt:=top 75
noncomputable abbrev oO:Stmt:=top 76
noncomputable abbrev jA:Stmt:=top 78
noncomputable abbrev pJ:Stmt:=wR (top 79) 1
noncomputable abbrev lO:Stmt:=top 91
noncomputable abbrev jP:Stmt:=top 89
noncomputable abbrev kY:Stmt:=top 92
noncomputable abbrev wY:Stmt:=top 93
structure Qw (K:W.Frag) (Zt Zz Zu Zx Z0 Zv Zy Zw:Addr):Prop where
 X0:W.exmOne K (.ref Zt) (.ref Zt)=some true
 XD:W.excIn K Zx [.type "ValueError",.type "Exception",.type "BaseException",.type "object"] "ValueError.__new__"=true
 x_NoDeed:W.excIn K Zv [.type "ValueError",.type "Exception",.type "BaseException",.type "object"] "ValueError.__new__"=true
 x_NoHalyard:W.excIn K Zy [.type "ValueError",.type "Exception",.type "BaseException",.type "object"] "ValueError.__new__"=true
 t1_TowerError:W.specialIn K (.ref Zz) "__getattribute__"=some (some (.builtin "type.__getattribute__"))
 t2_TowerError:W.readsIn K Zz (.type "type")=true
 t3_TowerError:W.findCls K (.ref Zz) (.type "type") "__init__"=some (.val (.builtin "ValueError.__init__"))
 xo_Lack:WB K Zt [.type "ValueError",.type "Exception",.type "BaseException",.type "object"] "ValueError.__new__"=true
 xk_Lack:W.keepIn K (.ref Zt)=true
 xe1_Lack:W.hasDictIn K Zt=true
 xe2_Lack:W.findIn K (.ref Zt) "__getattribute__"=some (some (.builtin "BaseException.__getattribute__"))
 xe3_Lack:W.findIn K (.ref Zt) "__getattr__"=some none
 xe4_Lack:W.findIn K (.ref Zt) "__class__"=some (some (.builtin "object.__class__"))
 xe5_Lack:W.specialIn K (.builtin "object.__class__") "__get__"=some (some (.builtin "getset_descriptor.__get__"))
 xe6_Lack:W.takesIn K (.builtin "object.__class__")=some true
 xe7_Lack:W.mroIn K Zt (.type "object")=some true
 xe8_Lack:W.subIn K (.ref Zt) (.type "BaseException")=some true
 xs_Lack:W.findIn K (.ref Zt) "__setattr__"=some (some (.builtin "object.__setattr__"))
 xr_Lack:Uw K Zt Zz=true
 xv_Lack:W.subIn K (.ref Zt) (.type "ValueError")=some true
 xn_Lack_wants:W.findIn K (.ref Zt) "wants"=some none
 xn_Lack_flags:W.findIn K (.ref Zt) "flags"=some none
 xo_Short:WB K Zu [.type "ValueError",.type "Exception",.type "BaseException",.type "object"] "ValueError.__new__"=true
 xk_Short:W.keepIn K (.ref Zu)=true
 xe1_Short:W.hasDictIn K Zu=true
 xe2_Short:W.findIn K (.ref Zu) "__getattribute__"=some (some (.builtin "BaseException.__getattribute__"))
 xe3_Short:W.findIn K (.ref Zu) "__getattr__"=some none
 xe4_Short:W.findIn K (.ref Zu) "__class__"=some (some (.builtin "object.__class__"))
 xe5_Short:W.specialIn K (.builtin "object.__class__") "__get__"=some (some (.builtin "getset_descriptor.__get__"))
 xe6_Short:W.takesIn K (.builtin "object.__class__")=some true
 xe7_Short:W.mroIn K Zu (.type "object")=some true
 xe8_Short:W.subIn K (.ref Zu) (.type "BaseException")=some true
 xs_Short:W.findIn K (.ref Zu) "__setattr__"=some (some (.builtin "object.__setattr__"))
 xr_Short:Uw K Zu Zz=true
 xv_Short:W.subIn K (.ref Zu) (.type "ValueError")=some true
 xn_Short_flag:W.findIn K (.ref Zu) "flag"=some none
 xo_NoWord:WB K Zw [.type "ValueError",.type "Exception",.type "BaseException",.type "object"] "ValueError.__new__"=true
 xk_NoWord:W.keepIn K (.ref Zw)=true
 xe1_NoWord:W.hasDictIn K Zw=true
 xe2_NoWord:W.findIn K (.ref Zw) "__getattribute__"=some (some (.builtin "BaseException.__getattribute__"))
 xe3_NoWord:W.findIn K (.ref Zw) "__getattr__"=some none
 xe4_NoWord:W.findIn K (.ref Zw) "__class__"=some (some (.builtin "object.__class__"))
 xe5_NoWord:W.specialIn K (.builtin "object.__class__") "__get__"=some (some (.builtin "getset_descriptor.__get__"))
 xe6_NoWord:W.takesIn K (.builtin "object.__class__")=some true
 xe7_NoWord:W.mroIn K Zw (.type "object")=some true
 xe8_NoWord:W.subIn K (.ref Zw) (.type "BaseException")=some true
 xs_NoWord:W.findIn K (.ref Zw) "__setattr__"=some (some (.builtin "object.__setattr__"))
 xr_NoWord:Uw K Zw Zz=true
 xv_NoWord:W.subIn K (.ref Zw) (.type "ValueError")=some true
 xn_NoWord_at:W.findIn K (.ref Zw) "at"=some none
 cl1_Tower:W.plainGet K Z0 Str.empty=true
 cl2_Tower:W.hasDictIn K Z0=true
 cl3_Tower:W.plainOver K Z0=true
 cl4_Tower:W.findIn K (.ref Z0) "__setattr__"=some (some (.builtin "object.__setattr__"))
 mk1_Tower:W.makesIn K Z0=true
 mk2_Tower:W.keepIn K (.ref Z0)=true
 na_Tower_book:W.findIn K (.ref Z0) "book"=some none
 na_Tower_many:W.findIn K (.ref Z0) "many"=some none
 na_Tower_stock_at_first:W.findIn K (.ref Z0) "stock_at_first"=some none
 na_Tower_stock:W.findIn K (.ref Z0) "stock"=some none
 na_Tower_hung:W.findIn K (.ref Z0) "hung"=some none
 na_Tower_deeds:W.findIn K (.ref Z0) "deeds"=some none
structure Gs (K:W.Frag) (mg:Str->Option Value) (w:World) (Zt Zz Zu Zx Z0 Zv Zy Zw:Addr):Prop extends Qw K Zt Zz Zu Zx Z0 Zv Zy Zw where
 YH:mg "Lack"=some (.ref Zt)
 c_TowerError:mg "TowerError"=some (.ref Zz)
 c_Short:mg "Short"=some (.ref Zu)
 c_NoHoist:mg "NoHoist"=some (.ref Zx)
 c_Tower:mg "Tower"=some (.ref Z0)
 c_NoDeed:mg "NoDeed"=some (.ref Zv)
 c_NoHalyard:mg "NoHalyard"=some (.ref Zy)
 c_NoWord:mg "NoWord"=some (.ref Zw)
 d_THINGS_IN:P_ w K mg "THINGS_IN" [("haul",3),("lower",2),("lose",2),("find",2),("say",2)]
 b_range:mg "range"=none
 b_enumerate:mg "enumerate"=none
 b_sum:mg "sum"=none
 b_len:mg "len"=none
 b_list:mg "list"=none
 b_min:mg "min"=none
 b_str:mg "str"=none
 b_dict:mg "dict"=none
 b_zip:mg "zip"=none
 b_isinstance:mg "isinstance"=none
 b_bool:mg "bool"=none
 b_int:mg "int"=none
 b_all:mg "all"=none
 b_sorted:mg "sorted"=none
 b_set:mg "set"=none
 s_FLAGS:∃t,mg "FLAGS"=some (.str "abcdefghijklmnopqrstuvw1234" t)
 s_SUBSTITUTES:∃t,mg "SUBSTITUTES"=some (.str "1234" t)
 s_MOST_PLACES:∃t,mg "MOST_PLACES"=some (.int 7 t)
 s_LETTERS:∃t,mg "LETTERS"=some (.str "abcdefghijklmnopqrstuvw" t)
def Gs.Y0(G:Gs K mg w Zt Zz Zu Zx Z0 Zv Zy Zw):XF K Zt:=⟨G.xe1_Lack,G.xe2_Lack,G.xe3_Lack,G.xe4_Lack,G.xe5_Lack,G.xe6_Lack,G.xe7_Lack,G.xe8_Lack⟩
def Gs.Yn(G:Gs K mg w Zt Zz Zu Zx Z0 Zv Zy Zw):VZ K Zt Zz:=⟨G.Y0,G.xs_Lack,TZ G.xr_Lack,G.xv_Lack⟩
def Gs.XI(G:Gs K mg w Zt Zz Zu Zx Z0 Zv Zy Zw):VI K Zt:=⟨G.xo_Lack,G.xk_Lack⟩
def Gs.Xk(G:Gs K mg w Zt Zz Zu Zx Z0 Zv Zy Zw):XF K Zu:=⟨G.xe1_Short,G.xe2_Short,G.xe3_Short,G.xe4_Short,G.xe5_Short,G.xe6_Short,G.xe7_Short,G.xe8_Short⟩
def Gs.X9(G:Gs K mg w Zt Zz Zu Zx Z0 Zv Zy Zw):VZ K Zu Zz:=⟨G.Xk,G.xs_Short,TZ G.xr_Short,G.xv_Short⟩
def Gs.W_(G:Gs K mg w Zt Zz Zu Zx Z0 Zv Zy Zw):VI K Zu:=⟨G.xo_Short,G.xk_Short⟩
def Gs.XA(G:Gs K mg w Zt Zz Zu Zx Z0 Zv Zy Zw):XF K Zw:=⟨G.xe1_NoWord,G.xe2_NoWord,G.xe3_NoWord,G.xe4_NoWord,G.xe5_NoWord,G.xe6_NoWord,G.xe7_NoWord,G.xe8_NoWord⟩
def Gs.Yv(G:Gs K mg w Zt Zz Zu Zx Z0 Zv Zy Zw):VZ K Zw Zz:=⟨G.XA,G.xs_NoWord,TZ G.xr_NoWord,G.xv_NoWord⟩
def Gs.Xz(G:Gs K mg w Zt Zz Zu Zx Z0 Zv Zy Zw):VI K Zw:=⟨G.xo_NoWord,G.xk_NoWord⟩
def Gs.Z3(G:Gs K mg w Zt Zz Zu Zx Z0 Zv Zy Zw):Yq K Z0:=⟨G.cl1_Tower,G.cl2_Tower,G.cl3_Tower,G.cl4_Tower⟩
noncomputable abbrev Z8:Str := "abcdefghijklmnopqrstuvw"
noncomputable abbrev YE:Str := "1234"
noncomputable abbrev ZY:Str := "abcdefghijklmnopqrstuvw1234"
noncomputable abbrev one(c:Nat):Str:=⟨#[c]⟩
def DA:YE.cps.toList=[49,50,51,52]:=by decide
def GY:ZY.cps.toList=Z8.cps.toList++YE.cps.toList:=by decide
def aZ(c:Nat):Prop:=97<=c/\c<=119
def eV(c:Nat):Prop:=49<=c/\c<=52
noncomputable instance (c:Nat):Decidable (aZ c):=inferInstanceAs (Decidable (_/\_))
noncomputable instance (c:Nat):Decidable (eV c):=inferInstanceAs (Decidable (_/\_))
def ZM:c∈Z8.cps.toList ↔ aZ c:=by
 have b:∀c∈Z8.cps.toList,aZ c:=by right
 have a:∀k:_root_.Fin 23,97+k.val∈Z8.cps.toList:=by right
 refine⟨b c,λh=>?_⟩;have e:=a ⟨c-97,by have:=h.1;have:=h.2;omega⟩
 rwa [show 97+(c-97)=c by have:=h.1;omega]at e
def YG:c∈YE.cps.toList ↔ eV c:=by
 have b:∀c∈YE.cps.toList,eV c:=by right
 have a:∀k:_root_.Fin 4,49+k.val∈YE.cps.toList:=by right
 refine⟨b c,λh=>?_⟩;have e:=a ⟨c-49,by have:=h.1;have:=h.2;omega⟩
 rwa [show 49+(c-49)=c by have:=h.1;omega]at e
def zS:c∈ZY.cps.toList ↔ aZ c\/eV c:=by
 rw[GY,Bs,ZM,YG]
def iH(h:aZ c):¬eV c:=λz=>by unfold aZ at h;unfold eV at z;omega
def vU(c:Nat):subIn (one c) YE=decide (eV c):=by
 rw[sO];exact Cu.mpr YG
def fJ(z:Str):z.cps.toList.length=z.length:=by simp[Str.length]
def xA(h:z.length=1):∃c,z=one c:=by
 obtain⟨⟨l⟩⟩:=z
 match l,h with
 |[c],_=>exact⟨c,rfl⟩
noncomputable def kU(z:Str):Bool:=if z.length=1 then subIn z ZY else false
def tH(h:z.length≠1):kU z=false:=if_neg h
def wA:kU (one c)=decide (aZ c\/eV c):=by
 unfold kU;rw[if_pos (by rfl),sO]
 exact Cu.mpr zS
def J1(h:kU z=true):∃c,z=one c/\(aZ c\/eV c):=by
 by_cases a:z.length=1
 .obtain⟨c,rfl⟩:=xA a;rw[wA]at h;exact⟨c,rfl,Bf h⟩
 .rw[tH a]at h;cases h
def mD(c:Nat)(p:Int):Prop:=aZ c\/(eV c/\(c:Int)-48<p)
noncomputable instance (c:Nat) (p:Int):Decidable (mD c p):=inferInstanceAs (Decidable (_\/_))
noncomputable def dE(z:Str)(p:Int):Bool:=if z.length=1 then decide (mD (z.cps.toList.headD 0) p) else false
def qF{p:Int}:dE (one c) p=decide (mD c p):=rfl
def yH{p:Int}(h:dE z p=true):∃c,z=one c/\mD c p:=by
 by_cases a:z.length=1
 .obtain⟨c,rfl⟩:=xA a;exact⟨c,rfl,Bf h⟩
 .unfold dE at h;grind
noncomputable def cW(a:List Str):Bool:=if a.length<1\/7<a.length then false else (List.range a.length).all λi=>dE (a.getD i ⟨#[]⟩) ((1+i:Nat):Int)
def gR(h:cW zs=true):1<=zs.length/\zs.length<=7:=by
 unfold cW at h;grind
def CI(h:cW zs=true)(a:i<zs.length):dE (zs.getD i ⟨#[]⟩) ((1+i:Nat):Int)=true:=by
 unfold cW at h;simp_all
noncomputable def Wx(w:List Nat)(c:Nat):Nat:=if eV c then w.getD (c-49) 0 else c
noncomputable def Y9(fs:List Nat):List Nat:=fs.foldl (λw c=>w++[Wx w c]) []
def JJ(fs:List Nat)(c:Nat):Y9 (fs++[c])=Y9 fs++[Wx (Y9 fs) c]:=by
 unfold Y9;simp_all
def qR(h:fs[i]?=some c):Y9 (fs.take (i+1))=Y9 (fs.take i)++[Wx (Y9 (fs.take i)) c]:=by
 rw[Bl,h];exact JJ _ _
def SS:∀a,(Y9 a).length=a.length:=by
 intro a;have h:∀i,i<=a.length->(Y9 (a.take i)).length=i:=by
  intro i;induction i with
  |zero=>intro _;rfl
  |succ i b=>
   intro c;rw[qR (Aa (by omega)),Ak,b (by omega)]
   rfl
 have q:=h a.length (Ah _)
 rwa [Bq]at q
def rE(h:i<=fs.length):(Y9 (fs.take i)).length=i:=by
 rw[SS,Ce];omega
noncomputable def aU(cs:List Nat):Str:=⟨cs.toArray⟩
def cG(cs:List Nat):(aU cs).length=cs.length:=by show cs.toArray.size=_;simp
def gY(cs:List Nat):(aU cs).cps.toList=cs:=rfl
def nS(cs:List Nat)(c:Nat):aU cs++one c=aU (cs++[c]):=FlT.WR (by rw[FlT.WW];rfl)
noncomputable def lM(z:Str):Nat:=z.cps.toList.headD 0
def D8(cs:List Nat):(cs.map one).map lM=cs:=by
 rw[Bz];exact List.map_id cs
def pD(h:cW zs=true){i:Nat}{z:Str}(hz:zs[i]?=some z):∃c,z=one c/\(zs.map lM)[i]?=some c/\(aZ c\/(eV c/\c-49<i)):=by
 have d:=(Ae.mp hz).1
 have q:=CI h d
 rw[Ad,hz]at q;obtain⟨c,e,b⟩:=yH q;have a:z=one c:=e
 refine⟨c,a,by rw[Ai,hz,a];rfl,?_⟩
 rcases b with l|⟨s,l⟩
 .exact .inl l
 .refine .inr ⟨s,?_⟩;unfold eV at s;omega
noncomputable def So(a:List Str):Str:=aU (Y9 (a.map lM))
noncomputable def SG(z:Str):Bool:=z.cps.toList.all λc=>decide (c∈Z8.cps.toList)
noncomputable def pC(z:Str):Bool:=if z.length<1\/7<z.length then false else SG z
def uD(f:α->β):∀l:List α,l.filterMap (λx=>some (f x))=l.map f
 |[]=>rfl
 |x::r=>by simp_all
theorem jJ{f g:α->Option β}:∀ {l:List α},(∀x∈l,f x=g x)->l.filterMap f=l.filterMap g
 |[],_=>rfl
 |x::r,h=>by rw[Fy,Fy,h x Al,jJ λy a=>h y (Ao _ a)]
def oP{F:Nat->Option β}{b:β}(h:F i=some b):(List.range (i+1)).filterMap F=(List.range i).filterMap F++[b]:=by
 rw[Bx,Bu,Cj h,Df]
def oE{F:Nat->Option β}(h:F i=none):(List.range (i+1)).filterMap F=(List.range i).filterMap F:=by
 rw[Bx,Bu,De h,Df,Be]
def one_inj{a b:Nat}:one a=one b ↔ a=b:=⟨λh=>by grind,λh=>by rw[h]⟩
def uA(a b:Nat):decide (one a=one b)=decide (a=b):=Cu.mpr one_inj
def Mn(h:k<cw.length):YQ (aU cw).cps.toList ((k:Nat):Int)=some (cw.getD k 0):=by
 refine bO ?_;rw[gY,Ad,Aa h];rfl
def A5(h:k<23):YQ Z8.cps.toList ((k:Nat):Int)=some (97+k):=by
 refine bO ?_;have q:∀k:_root_.Fin 23,Z8.cps.toList[k.val]?=some (97+k.val):=by right
 exact q ⟨k,h⟩
def A2(cs:List Nat):∀z∈cs.map one,z.length<=1000:=λz a=>by
 obtain⟨c,_,rfl⟩:=Bg.mp a;show 1<=1000
 decide
def R_{ns:List Int}{i:Int}(c:0<=i)(h:i<ns.length):∃n,n∈ns/\YQ (ns.map V.int) i=some (.int n):=by
 obtain⟨v,b,a⟩:=HV (xs:=ns.map V.int) (i:=i) c (by rw[Ab];exact h)
 rw[Ai,Aa (by omega)]at a
 cases a;exact⟨_,Br _,b⟩
def BX{ns:List Int}{x:V}(h:(ns.map V.int)[j]?=some x):∃n,n∈ns/\x=V.int n:=by
 obtain⟨n,a,e⟩:=Bg.mp (Ap h);exact⟨n,a,e.symm⟩
def jT{ns:List Str}{x:V}(h:(ns.map V.str)[j]?=some x):∃n,ns[j]?=some n/\x=V.str n:=by
 rw[Ai]at h;cases e:ns[j]? with
 |none=>rw[e]at h;cases h
 |some n=>rw[e]at h;cases h;exact⟨n,rfl,rfl⟩
def uC(h:eV c):PySem.intText? (one c)=some ((c:Int)-48):=by
 unfold eV at h;have:c=49\/c=50\/c=51\/c=52:=by omega
 rcases this with rfl|rfl|rfl|rfl<;>right
def cU(a:List Str):(a.map V.str).all bY=true:=by
 rw[Di];intro x b;obtain⟨z,_,rfl⟩:=Bg.mp b;rfl
def JM(h1:1<=fs.length)(c:fs.length<=7)(h:∀k,k<fs.length->mD (fs.getD k 0) ((1+k:Nat):Int)):cW (fs.map one)=true:=by
 unfold cW;rw[Ab,if_neg (by omega),Di]
 intro i b;have a:=Bh.mp b
 rw[Ad,Ai,Aa a];have q:=h i a
 rw[Ad,Aa a]at q;exact An q
noncomputable def X5(cw:List Nat)(k n:Nat):Option Nat:=if cw.getD n 0=cw.getD k 0 then some (49+n) else none
noncomputable def X6(cw:List Nat)(k:Nat):List Nat:=cw.getD k 0::(List.range (min k 4)).filterMap (X5 cw k)
def Yo:c∈X6 cw k ↔ c=cw.getD k 0\/∃n,n<k/\n<4/\cw.getD n 0=cw.getD k 0/\c=49+n:=by
 unfold X6;rw[Bb,Cy];constructor
 .rintro(h|⟨n,hn,h⟩)
  .exact .inl h
  .have:=Bh.mp hn
   unfold X5 at h;grind
 .rintro(h|⟨n,h1,h2,h3,rfl⟩)
  .exact .inl h
  .exact .inr ⟨n,Bh.mpr (by omega),if_pos h3⟩
def BA(cw:List Nat)(k:Nat):1<=(X6 cw k).length/\(X6 cw k).length<=5:=by
 unfold X6;grind
def Nl(a:aZ (cw.getD k 0))(h:c∈X6 cw k):mD c ((1+k:Nat):Int):=by
 rcases Yo.mp h with rfl|⟨n,d,b,_,rfl⟩
 .exact .inl a
 .exact .inr ⟨⟨by omega,by omega⟩,by omega⟩
def K5(a:aZ (cw.getD k 0))(e:k<cw.length)(h:c∈X6 cw k):Wx (cw.take k) c=cw.getD k 0:=by
 rcases Yo.mp h with rfl|⟨n,d,f,b,rfl⟩
 .exact if_neg (iH a)
 .unfold Wx;rw[if_pos ⟨by omega,by omega⟩,show 49+n-49=n by omega,Ad,List.getElem?_take_of_lt d,<-Ad,b]
theorem Oi(b:∀d∈cw,aZ d)(c:fs.length<=cw.length):∀i,i<=fs.length->(∀k,k<i->fs.getD k 0∈X6 cw k)->Y9 (fs.take i)=cw.take i
 |0,_,_=>rfl
 |i+1,hi,h=>by
  have a:cw[i]?=some (cw.getD i 0):=by rw[Ad,Aa (by omega)];rfl
  have e:fs[i]?=some (fs.getD i 0):=by rw[Ad,Aa (by omega)];rfl
  rw[qR e,Oi b c i (by omega) λk f=>h k (by omega),K5 (b _ (Ap a)) (by omega) (h i (by omega)),Bl,a]
  rfl
def mM(b:∀d∈cw,aZ d)(a:k<cw.length):aZ (cw.getD k 0):=by simp_all
def LM(b:∀d∈cw,aZ d)(a:fs.length=cw.length)(h:∀k,k<fs.length->fs.getD k 0∈X6 cw k):Y9 fs=cw:=by
 have q:=Oi b (by omega) fs.length (Ah _) h
 rwa [Bq,a,Bq]at q
def BJ(b:∀d∈cw,aZ d)(h1:1<=fs.length)(c:fs.length<=7)(e:fs.length<=cw.length)(h:∀k,k<fs.length->fs.getD k 0∈X6 cw k):cW (fs.map one)=true:=
 JM h1 c λk a=>Nl (mM b (by omega)) (h k a)
def R9:XM (.str (one c)) ((cs.map one).map V.str)=decide (c∈cs):=by
 induction cs with
 |nil=>rfl
 |cons d r a=>
  show ((one d==one c) || XM _ _)=_
  grind
def JR(h:aZ c):Builtin.Str.occurrences Z8 (one c) 0 Z8.length 1=[c-97]:=by
 have q:∀k:_root_.Fin 23,Builtin.Str.occurrences Z8 (one (97+k.val)) 0 Z8.length 1=[k.val]:=by right
 unfold aZ at h;have e:=q ⟨c-97,by omega⟩
 grind
noncomputable def jO(cs:List Nat)(n:Nat):Int:=((List.range n).map λi=>((1+i:Nat):Int)*((cs.getD i 0-97:Nat):Int)).sum
def jK(cs:List Nat)(n:Nat):jO cs (n+1)=jO cs n+((1+n:Nat):Int)*((cs.getD n 0-97:Nat):Int):=by
 unfold jO;rw[Bx,Aw,List.sum_append];simp
theorem pA{cs ds:List Nat}:∀ {n:Nat},(∀i,i<n->cs.getD i 0=ds.getD i 0)->jO cs n=jO ds n
 |0,_=>rfl
 |n+1,h=>by rw[jK,jK,pA λi a=>h i (by omega),h n (by omega)]
theorem R5{cs ds:List Nat}{k:Nat}:∀ {n:Nat},k<n->(∀i,i<n->i≠k->cs.getD i 0=ds.getD i 0)->
 jO ds n=jO cs n+((1+k:Nat):Int)*(((ds.getD k 0-97:Nat):Int)-((cs.getD k 0-97:Nat):Int))
 |n+1,h,hh=>by
  rw[jK,jK];by_cases e:k=n
  .subst e;rw[pA   λi a=>(hh i (by omega) (by omega)).symm,Int.mul_sub]
   omega
  .rw[R5   (by omega) λi a=>hh i (by omega),hh n (by omega) (λz=>e z.symm)]
   omega
def GU{m x y:Int}(e:k<7)(d:0<=x/\x<23)(c:0<=y/\y<23)(h:m%23=0):(m+((1+k:Nat):Int)*(y-x))%23=0 ↔ y=x:=by
 have q:∀k:_root_.Fin 7,∀x y:_root_.Fin 23,(((1+k.val:Nat):Int)*((y.val:Int)-(x.val:Int)))%23=0 ↔ y.val=x.val:=by right
 obtain⟨a,rfl⟩:∃a:Nat,x=_:=⟨x.toNat,(Int.toNat_of_nonneg d.1).symm⟩;obtain⟨b,rfl⟩:∃b:Nat,y=_:=⟨y.toNat,(Int.toNat_of_nonneg c.1).symm⟩;rw[Int.add_emod,h,Int.zero_add,Int.emod_emod];exact(q ⟨k,e⟩ ⟨a,Int.ofNat_lt.mp d.2⟩ ⟨b,Int.ofNat_lt.mp c.2⟩).trans Int.ofNat_inj.symm
noncomputable def kX(cs:List Nat):Bool:=decide (jO cs cs.length%23=0)
noncomputable def xT(cs:List Nat):Bool:=decide (1<cs.length)&&kX cs
def wO(a:k<cs.length):(cs.set k d).getD i 0=if i=k then d else cs.getD i 0:=by grind
def Ld(e:∀d∈cs,aZ d){c:Nat}(b:aZ c):∀d∈cs.set k c,aZ d:=λd a=>by grind
def uS{k d:Nat}(a:k<cs.length):jO (cs.set k d) cs.length=jO cs cs.length+((1+k:Nat):Int)*(((d-97:Nat):Int)-((cs.getD k 0-97:Nat):Int)):=by
 have e:(cs.set k d).getD k 0=d:=by rw[wO a,if_pos rfl]
 rw[R5 (cs:=cs)   a (λi c b=>by rw[wO a,if_neg b]),e]
def Kw(g:cs.length<=7)(f:∀d∈cs,aZ d){k d:Nat}(a:k<cs.length)(e:aZ d)(h:kX cs=true):kX (cs.set k d)=decide (d=cs.getD k 0):=by
 unfold kX at h ⊢;have b:=Bf h
 have c:=mM f a
 unfold aZ at e c;rw[Cg,uS a];refine Cu.mpr ((GU (by omega) ⟨by omega,by omega⟩ ⟨by omega,by omega⟩ b).trans ?_)
 omega
def QK(n:cs.length<=7){k:Nat}(h:k<cs.length):∃d,aZ d/\kX (cs.set k d)=true:=by
 have q:∀k:_root_.Fin 7,∀m:_root_.Fin 23,∃d:_root_.Fin 23,(m.val+(1+k.val)*d.val)%23=0:=by right
 have b:=uS (cs:=cs) (k:=k) (d:=97) h
 have g:=Dq (jO (cs.set k 97) cs.length) (show (23:Int)≠0 by decide)
 have f:=Du (jO (cs.set k 97) cs.length) (show (0:Int)<23 by decide)
 obtain⟨a,c⟩:∃a:Nat,jO (cs.set k 97) cs.length%23=(a:Int):=⟨_,(Int.toNat_of_nonneg g).symm⟩;obtain⟨d,j⟩:=q ⟨k,Bi h n⟩ ⟨a,Int.ofNat_lt.mp (c▸f)⟩;refine⟨97+d.val,⟨Gv ..,Nat.add_le_add_left (Nat.le_of_lt_succ d.isLt) 97⟩,?_⟩;unfold kX;rw[Cg];have e:=uS (cs:=cs) (k:=k) (d:=97+d.val) h
 rw[Ds,Int.mul_sub]at e;rw[Ga,Int.mul_sub]at b;have l:jO (cs.set k (97+d.val)) cs.length=jO (cs.set k 97) cs.length+(((1+k)*d.val:Nat):Int):=by
  rw[e,b,Int.natCast_mul,show ((0:Nat):Int)=0 from rfl,Int.mul_zero];generalize ((1+k:Nat):Int)*(d.val:Int)=P;generalize ((1+k:Nat):Int)*((cs.getD k 0-97:Nat):Int)=R;clear b e c j g f;omega
 refine An ?_;rw[l,<-Int.emod_add_emod,c];have i:(a+(1+k)*d.val)%23=0:=j
 generalize (1+k)*d.val=P at i;clear b e l c j g f;omega
def Jv(b:∀d∈cs,aZ d):(aU cs).cps.all (· < 128)=true:=by
 rw[Array.all_eq_true];intro i a;have c:(aU cs).cps[i]∈cs:=by
  have:=Array.getElem_mem a
  rwa[<-Fm]at this
 have:=b _ c
 unfold aZ at this;grind
def BV(b:∀d∈cs,aZ d)(c:cs.length<=7):pC (aU cs)=decide (1<=cs.length):=by
 unfold pC;rw[cG];by_cases h:1<=cs.length
 .rw[if_neg (by omega),An h]
  unfold SG;rw[gY,Di];intro d a;exact An (ZM.mpr (b d a))
 grind
def Y7(H:Hp)(r:Addr)(c:List (Str×Str)):Prop:=∃a:List Addr,H r=some (.lst (a.map V.ref))/\a.length=c.length/\∀(j:Nat) p b,a[j]?=some p->c[j]?=some b->H p=some (.tup [.str b.1,.str b.2])
def UZ(K:W.Frag)(d:Addr):Sp:=λc H Q _=>∃(a:Addr) (b:List Int),c=[.ref a]/\Zo K H a (b.map V.int)/\b.length<=63/\H d=some (.tbl #[])/\∀e,Q (.bl true) e
def uQ:Sp:=λa H Q _=>∃z,a=[.str z]/\z.length<=1000/\Q (.bl (kU z)) H
def rD:Sp:=λa H Q _=>∃z p,a=[.str z,.int p]/\z.length<=1000/\Q (.bl (dE z p)) H
def tK:Sp:=λd H Q _=>∃a b,d=[.ref a]/\Z2 H a=some (b.map V.str)/\b.length<=1000/\(∀z∈b,z.length<=1000)/\∀c,Z_ H c->Q (.bl (cW b)) c
def uP(e:Addr):Sp:=λd H Q E=>∃a b,d=[.ref a]/\Z2 H a=some (b.map V.str)/\b.length<=1000/\(∀z∈b,z.length<=1000)/\(cW b=true->∀c,Z_ H c->Q (.str (So b)) c)/\(cW b=false->∀c,Z_ H c->E (.ref e) none c)
def gP{j:Int}(e:j=(k:Int))(h:k<cw.length):YQ (aU cw).cps.toList j=some (cw.getD k 0):=by
 rw[e];exact Mn h
def dS{i:Int}(e:H p=some (.tup xs))(b:YQ xs i=some v)(h:Q v H):WY (.ref p) (.int i) H Q:=by
 have a:Z2 H p=none:=by unfold Z2;rw[e];rfl
 unfold WY;simp only[a,cO e,b];exact h
section
variable {P:Program} {w:World} {K:W.Frag} {base:Heap}
def oK(c:Addr):Sp:=λd H Q _=>∃a v,d=[.ref a,v]/\H a=some (eP a c none)/\∀b,H b=none->Q .non (upd (upd H a (eP a c (some b))) b (YT b [("flag",v)]))
def yA:Z9 ["self", "flag"] ["self", "flag"] (aK jW):=by fail "sc"
variable(G:Gs K mg w Zt Zz Zu Zx Z0 Zv Zy Zw)
def yD(F:ZR K "__init__" "Short.__init__" jW f fd):Z6 P w K mg base ZP 1 f fd ["self", "flag"] (oK Zu):=by
 refine F.ok yA (λd H Q E h=>?_) (λe A a s H d Q E i h=>?_)
 .obtain⟨b,v,rfl,_⟩:=h;rfl
 obtain⟨b,v,rfl,c,q⟩:=h;refine⟨_,(@aE _ _ _ _ _ (cP (vJ rfl G.c_TowerError G.t1_TowerError G.t2_TowerError G.t3_TowerError (aA (mv 0) (aA (mv 1) aB)))) (@aH _ _ _ (tZ (mv 0) (mv 1) rfl))),?_⟩;refine⟨b,[v],Zu,Zz,none,rfl,r0,c,(λ_ z=>nomatch z),G.X9,?_⟩
 exact⟨b,Zu,Zz,rfl,G.X9,G.xn_Short_flag,.inl ⟨c,q⟩⟩
def HH{h f:HO}(s:Z_ H H1)(h1:H1 a=none)(d:upd H1 a o dx=none):Z_ H (del (upd (upd (upd H1 a o) a h) dx f) a):=λb u e=>by
 have g:=s b u e
 have c:=bM g h1
 have i:b≠dx:=λz=>by rw[<-z,aI c,g]at d;cases d
 rwa[eG c,aI i,aI c,aI c]
def OK{c b:HO}(e:upd H1 a o dx=none):upd (upd (upd H1 a o) a c) dx b a=some c/\del (upd (upd (upd H1 a o) a c) dx b) a dx=some b:=by
 have d:dx≠a:=λz=>by rw[z,aD]at e;cases e
 exact⟨by rw[aI d.symm,aD],by rw[eG d,aD]⟩
structure Lk (kvs:List (Key×V)) (f:Nat->Option Int):Prop where
 nd:(kvs.map (·.1)).Nodup
 ks:∀kv∈kvs,∃(c:Nat) (n:Int),kv=(Sum.inr (one c),V.int n)
 val:∀c,cD kvs (Sum.inr (one c))=(f c).map V.int
def Lk.nil:Lk [] (λ_=>none):=⟨List.nodup_nil,(λa h=>nomatch h),λc=>rfl⟩
def Y1{a b:Nat}:((Sum.inr (one a):Key)=Sum.inr (one b)) ↔ a=b:=⟨λh=>one_inj.mp (Sum.inr.inj h),λh=>by rw[h]⟩
def K2:∀ {l:List α} {k:α},l.Nodup->¬k∈l->(l++[k]).Nodup
 |[],k,_,_=>by simp
 |a::r,k,h,hk=>by
  grind
def GB{k:Key}(h:cD kvs k=none):¬k∈kvs.map (·.1):=λm=>by
 obtain⟨p,b,e⟩:=Bg.mp m;have q:(kvs.any λa=>decide (a.1=k))=true:=List.any_eq_true.mpr ⟨p,b,An e⟩
 rw[fV,h]at q;cases q
def N3(a:List (Key×V))(k:Key)(v:V)(h:cD a k≠none):(dY a k v).map (·.1)=a.map (·.1):=by
 unfold dY;have e:(a.any λb=>decide (b.1=k))=true:=by
  rw[fV];cases q:cD a k with
  |none=>exact absurd q h
  |some _=>rfl
 rw[if_pos e,Bz];refine Dp λb _=>?_;grind
def Lk.put{f:Nat->Option Int}(h:Lk kvs f)(c:Nat)(n:Int):Lk (dY kvs (Sum.inr (one c)) (.int n)) (λd=>if d=c then some n else f d) where
 nd:=by
  cases e:cD kvs (Sum.inr (one c)) with
  |none=>rw[mS _ e,Aw];exact K2 h.nd (GB e)
  |some v=>rw[N3 _ _ _ (by rw[e];exact λz=>nomatch z)];exact h.nd
 ks:=λj a=>by
  unfold dY at a;split at a
  .obtain⟨b,k,e⟩:=Bg.mp a;obtain⟨g,i,l⟩:=h.ks b k;subst l;dsimp only at e;split at e
   .exact⟨g,n,e.symm⟩
   .exact⟨g,i,e.symm⟩
  .rcases Bs.mp a with q|q
   .exact h.ks j q
   .exact⟨c,n,Aj.mp q⟩
 val:=λd=>by
  rw[OV];by_cases e:d=c
  .rw[if_pos (Y1.mpr e),if_pos e];rfl
  .rw[if_neg (λz=>e (Y1.mp z)),if_neg e];exact h.val d
def AS(b:(kvs.map (·.1)).Nodup){a:Key×V}(h:a∈kvs):cD kvs a.1=some a.2:=by
 induction kvs with
 |nil=>cases h
 |cons p r f=>
  obtain⟨d,c⟩:=Co.mp b;rcases Bb.mp h with e|e
  .subst e;exact cI rfl
  .rw[cB λz=>d (by grind)]
   exact f c e
def SM[DecidableEq α]:∀ {l m:List α},l.Nodup->(∀x∈l,x∈m)->l.length<=m.length
 |[],m,_,_=>Ci _
 |a::r,m,h,s=>by
  obtain⟨e,d⟩:=Co.mp h;have q:=SM  (m:=m.erase a) d λx b=>(List.mem_erase_of_ne λz=>e (by simp_all)).mpr (s x (Ao _ b))
  grind
def Lk.Xe{f:Nat->Option Int}(h:Lk kvs f){b:Key×V}(a:b∈kvs):∃c n,b=(Sum.inr (one c),V.int n)/\f c=some n:=by
 obtain⟨c,n,e⟩:=h.ks b a;have v:=AS h.nd a
 rw[e]at v;have d:=h.val c
 rw[d]at v;cases q:f c with
 |none=>rw[q]at v;cases v
 |some m=>rw[q]at v;cases v;exact⟨c,_,e,q⟩
noncomputable def aO(f:Nat->Option Int)(c:Nat):Int:=(f c).getD 0
def eO(c:Nat):Prop:=aZ c\/eV c
noncomputable instance (c:Nat):Decidable (eO c):=inferInstanceAs (Decidable (_\/_))
noncomputable def bK(n:Nat->Int)(c:Nat):Option Int:=if eO c/\0<n c then some (n c) else none
def rC{m n:Nat->Int}(h:∀c,eO c->m c=n c):bK m=bK n:=by
 funext c
 unfold bK;by_cases q:eO c
 .rw[h c q]
 simp_all
def dF{n:Nat->Int}{c:Nat}(a:eO c)(h:0<=n c):aO (bK n) c=n c:=by
 unfold aO bK;grind
def Lk.ext{f:Nat->Option Int}(h:Lk kvs f)(e:f=g):Lk kvs g:=e▸h
def kS(f:Nat->Option Int)(c:Nat):((f c).map V.int).getD (.int 0)=.int (aO f c):=by
 unfold aO;simp_all
def ZG:c∈ZY.cps.toList ↔ eO c:=zS
noncomputable def Zm(g:Nat->Int)(L:List Nat):List (Key×V):=L.map λc=>(Sum.inr (one c),V.int (g c))
noncomputable def bI(n:Nat->Int)(i:Nat):List Nat:=(ZY.cps.toList.take i).filter λc=>decide (0<n c)
def P7{g:Nat->Int}{L:List Nat}{c:Nat}(h:c∉L):cD (Zm g L) (Sum.inr (one c))=none:=by
 induction L with
 |nil=>rfl
 |cons d r a=>
  show cD (_::Zm g r) _=none
  rw[cB (λz=>h (by rw[Y1.mp z];exact Al)),a λz=>h (Ao _ z)]
def Yf:ZY.cps.toList.Nodup:=by right
def ZE{n:Nat->Int}{c:Nat}:c∈bI n i ↔ c∈ZY.cps.toList.take i/\0<n c:=by
 unfold bI;rw[Ff,Ca]
def DY{n:Nat->Int}{c:Nat}(h:ZY.cps.toList[i]?=some c):c∉bI n i:=λz=>by
 have m:=(ZE.mp z).1
 obtain⟨j,a,e⟩:=Ct.mp m;rw[Ce]at a;rw[List.getElem_take]at e;obtain⟨d,b⟩:=Ae.mp h;have:=(Ht Yf).mp (e.trans b.symm)
 omega
def NB{n:Nat->Int}{c:Nat}(h:ZY.cps.toList[i]?=some c)(p:0<n c):bI n (i+1)=bI n i++[c]:=by
 unfold bI;rw[Bl,h,Hb];simp_all
def Ll{n:Nat->Int}{c:Nat}(h:ZY.cps.toList[i]?=some c)(p:¬0<n c):bI n (i+1)=bI n i:=by
 unfold bI;rw[Bl,h,Hb];grind
def iC(n:Nat->Int)(i:Nat):(bI n i).length<=27:=by
 exact Bo (List.length_filter_le ..) (by rw[Ce];exact Bo (Nat.min_le_right ..) (by decide))
def zL(n:Nat->Int)(i:Nat):(bI n i).Nodup:=(Yf.sublist (Iy ..)).filter _
noncomputable def VR(g:Nat->Int)(L:List Nat)(d:Nat):Option Int:=if d∈L then some (g d) else none
def zw(g:Nat->Int){r:List Nat}{c:Nat}(f:c∉r)(h:Lk (Zm g r) (VR g r)):Lk (Zm g (r++[c])) (VR g (r++[c])):=by
 have l:=h.put c (g c)
 rw[mS _ (P7 f)]at l;have e:Zm g (r++[c])=Zm g r++[(Sum.inr (one c),V.int (g c))]:=by unfold Zm;rw[Aw];rfl
 rw[e];refine l.ext ?_;funext d
 unfold VR;grind
theorem Qu(g:Nat->Int):∀L r,(r++L).Nodup->Lk (Zm g r) (VR g r)->Lk (Zm g (r++L)) (VR g (r++L))
 |[],r,_,h=>by rw[Be];exact h
 |c::L,r,nd,h=>by
  have e:r++c::L=(r++[c])++L:=by rw[Gi];rfl
  have a:=λz=>(Eb.mp nd).2.2 c z c Al rfl
  rw[e]at nd ⊢;exact Qu g L _ nd (zw g a h)
def A8(g:Nat->Int){L:List Nat}(a:L.Nodup):Lk (Zm g L) (λd=>if d∈L then some (g d) else none):=by
 have r:=Qu g L [] a (Lk.nil.ext (by funext d;unfold VR;rw[if_neg (λz=>nomatch z)]))
 exact r
def eU(n:Nat->Int):Lk (Zm n (bI n 27)) (bK n):=by
 refine(A8 n (zL n 27)).ext ?_;funext d
 unfold bK;have e:d∈bI n 27 ↔ eO d/\0<n d:=by
  rw[ZE,Cz (by decide),ZG]
 grind
def cQ:Sp:=λd H Q _=>∃a b f,d=[.ref a]/\Rd H a (.dK b)/\Lk b f/\
 ∀r c,H r=none->Z_ H c->c r=some (.dK (Zm (aO f) (bI (aO f) 27)))->Q (.ref r) c
def m7:Z9 ["locker", "plain", "flag"] ["locker"] (aK hZ):=by fail "sc"
def tY(F:ZR K "plain_locker" "plain_locker" hZ f fd):Z6 P w K mg base ZP 1 f fd ["locker"] cQ:=by
 refine F.ok m7 (λL H Q E h=>?_) (λO A t s H L Q E u h=>?_)
 .obtain⟨a,j,f,rfl,_⟩:=h;rfl
 obtain⟨a,j,f,rfl,N,D,q⟩:=h;refine⟨_,(@aE _ _ _ _ _ (aQ 1 m7.nd vY) (@aE _ _ _ _ _ (cK Bp rfl (sQ (fO rfl G.s_FLAGS)) (bB (i:=2) m7.nd rfl (Or.inl rfl)) (@aH _ _ _ (bS (aY VS (eW Cc Do (vL (Z7.u1 u)) (mv 0) (aA (mv 2) (aA aJ aB))) aJ (bA _)) (@aH _ _ _ (fN (Z7.u1 u) (mv 1) (mv 2) (iM (Z7.u1 u) (mv 0) (mv 2) (λ_ _=>rfl)) rfl)) bC))) (@aH _ _ _ (aR (mv 1))))),?_⟩;left;intro p y;left;refine Tn (λi U J=>∃v,U=[some (.ref a),some (.ref p),v]/\Z_ H J/\J p=some (.dK (Zm (aO f) (bI (aO f) i))))
  ⟨none,rfl,aG y _,aD⟩ ?_ ?_
 .rintro i c U r l ⟨v,rfl,d,m⟩;have R:i<27:=(Ae.mp l).1
  have b:Rd r a (.dK j):=N.elim (λe=>.inl (d _ _ e)) λ⟨o,e⟩=>.inr ⟨o,d _ _ e⟩
  have M:=b.elim jU λ⟨o,e⟩=>TR e
  have x:(Zm (aO f) (bI (aO f) i)).length<sizeLine:=bG (by unfold Zm;rw[Ab];have:=iC (aO f) i;omega)
  left;refine uK (z:=one c) b ?_;rw[D.val c,kS];left;refine fF (λB=>?_) (λB=>?_)
  .have k:=Bf B
   obtain⟨n,I⟩:∃n,f c=some n:=by
    cases e:f c with
    |none=>rw[show aO f c=0 by unfold aO;rw[e];rfl]at k;omega
    |some n=>exact⟨n,rfl⟩
   have C:aO f c=n:=by unfold aO;rw[I];rfl
   left;refine vE (z:=one c) b (by rw[D.val c,I];rfl) ?_
   left;refine iL (z:=one c) m x ?_;refine⟨_,rfl,bL y d,?_⟩;rw[aD,mS _ (P7 (DY l)),NB l (by omega)]
   unfold Zm;rw[Aw,<-C];rfl
  .have k:=Bv (Cd.mpr B)
   exact⟨_,rfl,d,by rw[m,Ll l (by omega)]⟩
 .rintro U r ⟨v,rfl,d,m⟩;exact q p r y d m
noncomputable def cnt(cs:List Nat)(c:Nat):Int:=((cs.countP (· == c):Nat):Int)
def mP(h:cs[i]?=some c)(d:Nat):cnt (cs.take (i+1)) d=cnt (cs.take i) d+if d=c then 1 else 0:=by
 unfold cnt;rw[Bl,h,List.countP_append];grind
def MF(h:cs[i]?=some c):cnt (cs.take i) c+1<=cnt cs c:=by
 have e:=mP h c
 rw[if_pos rfl]at e;rw[<-e];unfold cnt;have:(cs.take (i+1)).countP _<=cs.countP (· == c):=List.Sublist.countP_le (Iy _ _)
 omega
def pH(cs:List Nat)(c:Nat):0<=cnt cs c:=by unfold cnt;omega
def UL(f:Nat->Option Int)(cs:List Nat)(k:Nat):Prop:=∀j d,j<k->cs[j]?=some d->cnt (cs.take j) d<aO f d
theorem zF{f:Nat->Option Int}(c:Nat)(a:0<=aO f c):∀ {k:Nat},UL f cs k->cnt (cs.take k) c<=aO f c
 |0,_=>by rw[Gw];exact a
 |k+1,h=>by
  have b:=zF c a (k:=k) λj d g=>h j d (by omega)
  cases e:cs[k]? with
  |none=>rw[List.take_add_one,e];simpa using b
  |some d=>
   rw[mP e];have i:=h k d (by omega) e
   grind
inductive O9(l:Addr)(k:List V)(H:Hp)(Q:VK)(E:XK):Prop|mk(a b h f d:_)(_:k=[.ref a,.ref b])(_:H a=some (.dK h))(_:Lk h f)(_:(∀c,0<=aO f c))(_:Z2 H b=some ((d.map one).map V.str))(_:d.length<=1000)(_:(∀c∈d,eO c))(_:(UL f d d.length->∀r g e,H r=none->Z_ H e->e r=some (.dK g)->Lk g (bK λc=>aO f c-cnt d c)->Q (.ref r) e))(_:(∀i c,d[i]?=some c->UL f d i->aO f c<=cnt (d.take i) c->∀j e,Z_ H e->e j=some (YT j [("flag",.str (one c))])->E (.ref l) (some j) e)):O9 l k H Q E
def m9:Z9 ["locker", "flags", "left", "flag"] ["locker", "flags"] (aK Sx):=by fail "sc"
def DQ(F:ZR K "taken" "taken" Sx f fd)(y4:ZJ P w K mg base 1 "plain_locker" ["locker"] cQ)(l0:Wq P w K mg base 1 Zu ["self", "flag"] (oK Zu)):Z6 P w K mg base (Y3 P w) 3 f fd ["locker", "flags"] (O9 Zu):=by
 refine F.W3 m9 (λvs H Q E h=>?_) (λcdv A outer s H vs Q E hr h=>?_)
 .obtain⟨a,b,kvs,f,cs,rfl,_⟩:=h;rfl
 obtain⟨a,b,kvs,f,cs,rfl,ha,lk,hf0,hb,hcs,hfl,q,qe⟩:=h;refine⟨_,(@aE _ _ _ _ _ (aQ 2 m9.nd (bF y4 hr (by decide) rfl (aA (mv 0) aB))) (@aE _ _ _ _ _ (cK PassesOwn.leaving rfl (dD (mv 1)) (bB (i:=3) m9.nd rfl (Or.inl rfl)) (@aE _ _ _ _ _ (bS (aY lG (eW Cc Do (vL (Z7.u1 hr)) (mv 2) (aA (mv 3) (aA aJ aB))) aJ (bA _)) (@aH _ _ _ (nH kZ rfl rfl rfl G.c_Short G.W_ l0 hr (by decide) (aA (mv 3) aB))) bC) (@aH _ _ _ (fN (Z7.u1 hr) (mv 2) (mv 3) (aV iK (iM (Z7.u1 hr) (mv 2) (mv 3) (λ_ _=>rfl)) aJ) rfl)))) (@aH _ _ _ (aR (bF y4 hr (by decide) rfl (aA (mv 2) aB)))))),?_⟩
 left;refine⟨a,kvs,f,rfl,.inl ha,lk,λp H1 hp s1 hp1=>?_⟩;have lw:=eU (aO f)
 have hwl:(Zm (aO f) (bI (aO f) 27)).length<=27:=by unfold Zm;rw[Ab];exact iC _ _
 generalize Zm (aO f) (bI (aO f) 27)=kws at hp1 lw hwl;have hb1:=aM s1 hb
 left;refine fP (xs:=(cs.map one).map V.str) (λi U H'=>∃kvs' g v,U=[some (.ref a),some (.ref b),some (.ref p),v]/\Z_ H H'/\H' p=some (.dK kvs')/\Lk kvs' g/\(∀c,aO g c=aO (bK (aO f)) c-cnt (cs.take i) c)/\kvs'.length<=27+i/\UL f cs i)
  ⟨kws,_,_,rfl,s1,hp1,lw,λc=>by rw[Gw];show _=_-((0:Nat):Int);omega,by omega,λj d hj=>by omega⟩ (λi U H' _ ⟨_,_,_,_,e,_⟩=>aM e hb) ?_ ?_
 .rintro i x U H2 hx ⟨kvs',g,v,rfl,s2,hH,lg,hg,hl,hen⟩;have hi:i<cs.length:=by have:=(Ae.mp hx).1;rwa[Ab,Ab]at this
  obtain⟨c,hc⟩:∃c,cs[i]?=some c:=⟨_,Aa hi⟩;obtain rfl:x=V.str (one c):=by rw[Ai,Ai,hc]at hx;cases hx;rfl
  have hpl:kvs'.length<sizeLine:=bG (by omega)
  have hfc:=hfl c (Ap hc)
  have hgc:=hg c
  rw[dF hfc (hf0 c)]at hgc;have hle:=zF c (hf0 c) hen
  left;refine uK (z:=one c) (.inl hH) ?_;rw[lg.val c,kS];left;refine fF (λhd=>?_) (λhd=>?_)
  .have hd':=Bf hd
   left;refine⟨r0,λea hea=>⟨ea,_,rfl,aD,λdx hdx=>⟨rfl,some dx,(OK hdx).1,?_⟩⟩⟩
   exact qe i c hc hen (by omega) dx _ (HH s2 hea hdx) (OK hdx).2
  .have hd':=Bv (Cd.mpr hd)
   obtain⟨n,hn⟩:∃n,g c=some n:=by
    cases e:g c with
    |none=>exact absurd (show aO g c=0 by unfold aO;rw[e];rfl) hd'
    |some n=>exact⟨n,rfl⟩
   have hcn:aO g c=n:=by unfold aO;rw[hn];rfl
   left;refine vE (z:=one c) (.inl hH) (by rw[lg.val c,hn];rfl) ?_
   left;refine iL (z:=one c) hH hpl ?_;refine⟨_,_,_,rfl,bL hp s2,aD,lg.put c (n-1),λd=>?_,by have:=fX kvs' (Sum.inr (one c)) (.int (n-1));omega,λj d hj hjd=>?_⟩
   .rw[mP hc];have:=hg d
    by_cases e:d=c
    .subst e;show ((if d=d then some (n-1) else g d):Option Int).getD 0=_
     rw[if_pos rfl,if_pos rfl];show n-1=_
     omega
    .show ((if d=c then some (n-1) else g d):Option Int).getD 0=_
     rw[if_neg e,if_neg e];show aO g d=_
     omega
   .by_cases e:j=i
    .subst e;rw[hc]at hjd;cases hjd;omega
    .exact hen j d (by omega) hjd
 .rintro U H2 ⟨kvs',g,v,rfl,s2,hH,lg,hg,hl,hen⟩;have ecs:((cs.map one).map V.str).length=cs.length:=by rw[Ab,Ab]
  rw[ecs]at hg hl hen;left;refine⟨p,kvs',g,rfl,.inl hH,lg,λr H3 hr s3 hr3=>?_⟩;have l3:=eU (aO g)
  generalize Zm (aO g) (bI (aO g) 27)=kws' at hr3 l3;refine q hen r kws' H3 (none_of s2 hr) (s2.trans s3) hr3 (l3.ext (rC λc hc=>?_));rw[hg c,dF hc (hf0 c),Cz (Ah _)]
inductive nI(i:List V)(H:Hp)(Q:VK)(zz3:XK):Prop|mk(a b e f g:_)(_:i=[.ref a,.ref b])(_:H a=some (.dK e))(_:Lk e f)(_:(∀c,0<=aO f c))(_:Z2 H b=some ((g.map one).map V.str))(_:g.length<=1000)(_:∀r d h,H r=none->Z_ H h->h r=some (.dK d)->Lk d (bK λc=>aO f c+cnt g c)->Q (.ref r) h):nI i H Q zz3
def l5:Z9 ["locker", "flags", "more", "flag"] ["locker", "flags"] (aK uL):=by fail "sc"
def J3(F:ZR K "put_in" "put_in" uL f fd)(G:Gs K mg w Zt Zz Zu Zx Z0 Zv Zy Zw)(y4:ZJ P w K mg base 1 "plain_locker" ["locker"] cQ):Z6 P w K mg base ZP 2 f fd ["locker", "flags"] nI:=by
 refine F.ok l5 (λvs H Q E h=>?_) (λcdv A outer s H vs Q E hr h=>?_)
 .obtain⟨a,b,kvs,f,cs,rfl,_⟩:=h;rfl
 obtain⟨a,b,kvs,f,cs,rfl,ha,lk,hf0,hb,hcs,q⟩:=h;refine⟨_,(@aE _ _ _ _ _ (aQ 2 l5.nd (bF y4 hr (by decide) rfl (aA (mv 0) aB))) (@aE _ _ _ _ _ (cK Bp rfl (dD (mv 1)) (bB (i:=3) l5.nd rfl (Or.inl rfl)) (@aH _ _ _ (fN (Z7.u1 hr) (mv 2) (mv 3) (aV cE (eW Cc Do (vL (Z7.u1 hr)) (mv 2) (aA (mv 3) (aA aJ aB))) aJ) rfl))) (@aH _ _ _ (aR (bF y4 hr (by decide) rfl (aA (mv 2) aB)))))),?_⟩
 left;refine⟨a,kvs,f,rfl,.inl ha,lk,λp H1 hp s1 hp1=>?_⟩;have lw:=eU (aO f)
 have hwl:(Zm (aO f) (bI (aO f) 27)).length<=27:=by unfold Zm;rw[Ab];exact iC _ _
 generalize Zm (aO f) (bI (aO f) 27)=kws at hp1 lw hwl;have hb1:=aM s1 hb
 left;refine fP (xs:=(cs.map one).map V.str) (λi U H'=>∃kvs' g v,U=[some (.ref a),some (.ref b),some (.ref p),v]/\Z_ H H'/\H' p=some (.dK kvs')/\Lk kvs' g/\(∀c,aO g c=aO (bK (aO f)) c+cnt (cs.take i) c)/\kvs'.length<=27+i)
  ⟨kws,_,_,rfl,s1,hp1,lw,λc=>by rw[Gw];show _=_+((0:Nat):Int);omega,by omega⟩ (λi U H' _ ⟨_,_,_,_,e,_⟩=>aM e hb) ?_ ?_
 .rintro i x U H2 hx ⟨kvs',g,v,rfl,s2,hH,lg,hg,hl⟩;have hi:i<cs.length:=by have:=(Ae.mp hx).1;rwa[Ab,Ab]at this
  obtain⟨c,hc⟩:∃c,cs[i]?=some c:=⟨_,Aa hi⟩;obtain rfl:x=V.str (one c):=by rw[Ai,Ai,hc]at hx;cases hx;rfl
  have hpl:kvs'.length<sizeLine:=bG (by omega)
  left;refine uK (z:=one c) (.inl hH) ?_;rw[lg.val c,kS];left;refine iL (z:=one c) hH hpl ?_;refine⟨_,_,_,rfl,bL hp s2,aD,lg.put c (aO g c+1),λd=>?_,by have:=fX kvs' (Sum.inr (one c)) (.int (aO g c+1));omega⟩
  rw[mP hc];have:=hg d
  by_cases e:d=c
  .subst e;show ((if d=d then some (aO g d+1) else g d):Option Int).getD 0=_
   rw[if_pos rfl,if_pos rfl];show aO g d+1=_
   omega
  .show ((if d=c then some (aO g c+1) else g d):Option Int).getD 0=_
   rw[if_neg e,if_neg e];show aO g d=_
   omega
 .rintro U H2 ⟨kvs',g,v,rfl,s2,hH,lg,hg,hl⟩;refine⟨p,kvs',g,rfl,.inl hH,lg,λr H3 hr s3 hr3=>?_⟩;refine q r _ H3 (none_of s2 hr) (s2.trans s3) hr3 ((eU (aO g)).ext (rC λc hc=>?_));rw[hg c,dF hc (hf0 c),Cz (by rw[Ab,Ab];exact Ah _)]
def oC:Sp:=λc H Q _=>∃(a:List Nat) (k:Nat) (p:Int),c=[.str (aU a),.int p]/\p=(k:Int)+1/\k<a.length/\a.length<=7/\
 ∀r b,H r=none->Z_ H b->b r=some (.lst (((X6 a k).map one).map V.str))->Q (.ref r) b
def K_(G:Nat->Option β)(k:Nat):[0,1,2,3].filterMap (λn=>if n<k then G n else none)=(List.range (min k 4)).filterMap G:=by
 match k with
 |0=>rfl
 |1=>rfl
 |2=>rfl
 |3=>rfl
 |k+4=>
  rw[Jj (by omega)]
  exact jJ λn a=>if_pos (by grind)
noncomputable def Vl(cw:List Nat)(k:Nat)(c:Nat):Option V:=if c-49<k then (if cw.getD (c-49) 0=cw.getD k 0 then some (.str (one c)) else none) else none
def Md(cw:List Nat)(k:Nat):YE.cps.toList.filterMap (Vl cw k)=(((List.range (min k 4)).filterMap (X5 cw k)).map one).map V.str:=by
 rw[DA,show [49,50,51,52]=[0,1,2,3].map (49+·) from rfl,List.filterMap_map,Bz,List.map_filterMap,<-K_];refine jJ λn _=>?_
 unfold Vl X5;grind
def l6:Z9 ["word", "place", "letter", "above"] ["word", "place"] (aK gM):=by fail "sc"
def xP(F:ZR K "choices_at" "choices_at" gM f fd):Z6 P w K mg base ZP 1 f fd ["word", "place"] oC:=by
 refine F.ok l6 (λO H Q E h=>?_) (λU A o s H O Q E j h=>?_)
 .obtain⟨a,k,p,rfl,_⟩:=h;rfl
 obtain⟨a,k,W,rfl,R,S,X,q⟩:=h;refine⟨_,(@aE _ _ _ _ _ (aQ 2 l6.nd (bJ cA (mv 0) (aV iK (mv 1) aJ) (λ_ _=>rfl))) (@aE _ _ _ _ _ (kM (i:=3) l6.nd rfl (Or.inl rfl) rfl (sQ (fO rfl G.s_SUBSTITUTES)) (iQ (N:=["sign", "place", "letter", "word"]) ["word", "place", "letter", "above"] (aK gM) [none,some 1,some 2,some 0] rfl rfl rfl (λx h=>cH h) (by right)) (by right) rfl (by right) (λ_ _ _ _=>(bB (i:=0) (show List.Nodup (["sign", "place", "letter", "word"]:List Str) by right) rfl (Or.inl rfl))) (λ_ _ _ _=>(lX (PW.pt (kA (aY WK (bN Vb rfl G.b_int vG (aA (mv 0) aB)) (mv 1) (bA _)) (iO (aY lG (bJ cA (mv 3) (aV iK (bN Vb rfl G.b_int vG (aA (mv 0) aB)) aJ) (λ_ _=>rfl)) (mv 2) (bA _))))))) (λ_ _ _ _=>(mv 0))) (@aH _ _ _ (aR (aV cE (bZ (aA (mv 2) aB)) (mv 3)))))),?_⟩
 have e:=cG a
 left;refine lZ (by rw[e];exact bH (by omega)) (gP (k:=k) (by omega) S) ?_
 left;refine N0 (Vl a k) (bG (by decide)) (λi c Y A B I b=>?_) (λD M=>?_)
 .have t:=YG.mp (Ap I)
  have T:=t.1
  left;refine⟨Wk.set rfl (Wk.refl _),?_⟩;left;refine U3 (uC t) (by show 1<=640;decide) ?_
  left;unfold Vl at b;refine fF (λC=>?_) (λC=>?_)
  .have y:=Bf C
   have d:c-49<k:=by omega
   rw[if_pos d]at b;left;refine U3 (uC t) (by show 1<=640;decide) ?_
   left;refine lZ (by rw[e];exact bH (by omega)) (gP (k:=c-49) (by omega) (by omega)) ?_
   left;rw[show decide (({cps:=#[a.getD (c-49) 0]}:Str)={cps:=#[a.getD k 0]})=decide (a.getD (c-49) 0=a.getD k 0) from uA _ _];by_cases n:a.getD (c-49) 0=a.getD k 0
   .rw[An n];rw[if_pos n]at b;left;exact b
   .rw[As n];rw[if_neg n]at b;left;exact b
  .have y:=Bv (Cd.mpr C)
   have d:¬c-49<k:=by omega
   rw[if_neg d]at b;left;exact b
 .rw[show (Str.ofString "1234").cps.toList.filterMap (Vl a k)=_ from Md a k];left;refine⟨r0,λp l=>?_⟩
  have m:D≠p:=λz=>by rw[z,aD]at l;cases l
  have v:H p=none:=by rw[aI (Ne.symm m)]at l;exact l
  have L:((((List.range (min k 4)).filterMap (X5 a k)).map one).map V.str).length<=4:=by grind
  left;refine sF (xs:=[V.str (one (a.getD k 0))]) (ys:=(((List.range (min k 4)).filterMap (X5 a k)).map one).map V.str) rP (by rw[Nb m];exact rP) (bH (by show 1+_<=_;omega)) λr j=>?_
  have u:H r=none:=by
   by_cases z:r=p
   .rw[z];exact v
   .rw[aI z]at j;by_cases J:r=D
    .rw[J];exact M
    .rwa[aI J]at j
  left;exact q r _ u ((aG M _).trans ((aG l _).trans (aG j _))) aD
noncomputable def Wv(cws:List (List Nat))(k:Nat):List (List V):=(List.range (cws.getD k []).length).map λj:Nat=>[V.int (k:Int),V.int (1+(j:Int))]
noncomputable def pB(cws:List (List Nat))(i:Nat):List (List V):=((List.range i).map (Wv cws)).flatten
def lK(cws:Q6)(i:Nat):pB cws (i+1)=pB cws i++Wv cws i:=by
 unfold pB;rw[Bx,Aw,List.flatten_append];simp
def L9(a:∀c∈cws,c.length<=7):(Wv cws k).length<=7:=by
 unfold Wv;rw[Ab,Bw,Ad];cases e:cws[k]? with
 |none=>exact Ci _
 |some c=>exact a c (Ap e)
theorem pT(a:∀c∈cws,c.length<=7):∀i,(pB cws i).length<=7*i
 |0=>Ah _
 |i+1=>by
  rw[lK,Ak];have:=pT a i
  have:=L9 (k:=i) a
  omega
def QQ{x:V}(h:((cws.map aU).map V.str)[i]?=some x):∃c,cws[i]?=some c/\c∈cws/\x=.str (aU c):=by
 rw[Ai,Ai]at h;cases e:cws[i]? with
 |none=>rw[e]at h;cases h
 |some c=>rw[e]at h;cases h;exact⟨c,rfl,Ap e,rfl⟩
def z4(h:xs.all bY=true):mC xs xs=true:=by
 rw[nA rfl,Di];intro j a;exact jI (gW h j)
def tB:Sp:=λf H Q _=>∃a b,f=[.ref a]/\Z2 H a=some ((b.map aU).map V.str)/\b.length<=8/\(∀c∈b,c.length<=7)/\
 ∀r e d,H r=none->Z_ H d->d r=some (.lst (e.map V.ref))->Zq H d e (pB b b.length)->Q (.ref r) d
def l7:Z9 ["words", "wants", "number", "word"] ["words"] (aK kW):=by fail "sc"
def CC(F:ZR K "wants_of" "wants_of" kW f fd):Z6 P w K mg base ZP 1 f fd ["words"] tB:=by
 refine F.ok l7 (λY H Q E h=>?_) (λa6 A I s H Y Q E hr h=>?_)
 .obtain⟨a,b,rfl,_⟩:=h;rfl
 obtain⟨a,b,rfl,W,h8,X,q⟩:=h;refine⟨_,(@aE _ _ _ _ _ (aQ 1 l7.nd (bZ aB)) (@aE _ _ _ _ _ (cK Bp rfl (kK rfl G.b_enumerate (aA (mv 0) aB)) (eC (K:=K) (i:=2) (j:=3) (by rfl) (by rfl) l7.nd (by rfl) (by exact(Or.inr rfl)) (Or.inl rfl) (by rfl) (by exact(Or.inl rfl)) (Or.inl rfl)) (@aH _ _ _ (cP (cX Cq Fk Fl Vp (mv 1) (aA (dB rfl (zI rfl G.b_range (aA aJ (aA (aV cE (aX dA rfl G.b_len cC (aA (mv 3) aB)) aJ) aB))) (iQ (N:=["place", "number"]) ["words", "wants", "number", "word"] (aK kW) [none,some 2] rfl rfl rfl (λx h=>cH h) (by right)) (by right) rfl (by right) (λ_ _ _ _=>(bB (i:=0) (show List.Nodup (["place", "number"]:List Str) by right) rfl (Or.inl rfl))) (λ_ _ _ _=>dP) (λ_ _ _ _=>(gI (aA (mv 1) (aA (mv 0) aB))))) aB))))) (@aH _ _ _ (aR (mv 1))))),?_⟩
 left;refine⟨by decide,λp r=>?_⟩
 have a4:=aM (aG r (HO.lst [])) W
 left;refine kD (xs:=(b.map aU).map V.str) (λi U t=>∃(d:List Addr) (v u:Option V),U=[some (.ref a),some (.ref p),v,u]/\Z_ H t/\t p=some (.lst (d.map V.ref))/\Zq H t d (pB b i))
  ⟨[],_,_,rfl,aG r _,aD,.nil⟩ (λj U t _ ⟨_,_,_,_,e,_⟩=>aM e W) ?_ ?_
 .rintro i x U R pt T ⟨d,v,u,rfl,C,O,m⟩ k;have hi:i<b.length:=by have:=(Ae.mp T).1;rwa[Ab,Ab]at this
  obtain⟨c,M,hm,rfl⟩:=QQ T;have a3:=X c hm
  have J:=cG c
  left;rw[J];refine⟨⟨by omega,by omega,by omega,by omega⟩,?_⟩
  rw[show ((c.length:Int)+1-1).toNat=c.length by omega]
  have z:=C.trans (aG k (HO.tup [V.int ((0+i:Nat):Int),V.str (aU c)]))
  have o:=aG k (HO.tup [V.int ((0+i:Nat):Int),V.str (aU c)]) _ _ O
  have l:=m.keep (aG k (HO.tup [V.int ((0+i:Nat):Int),V.str (aU c)]))
  generalize upd R pt (HO.tup [V.int ((0+i:Nat):Int),V.str (aU c)])=H3 at z o l ⊢;refine E4 (λj=>[V.int ((0+i:Nat):Int),V.int (1+(j:Int))]) (bG (by omega)) (λj Hc A B hj hs hA=>?_) (λD Hd Z hD y a5 a1 S=>?_)
  .left;refine⟨Wk.set rfl (Wk.refl _),?_⟩;left;exact⟨q0,λpp n=>hA pp _ n (aG n _) aD⟩
  .have L:=y _ _ o
   have a2:d.length<=7*i:=by rw[m.1];exact pT X i
   have e:(List.range c.length).map (λj:Nat=>[V.int ((0+i:Nat):Int),V.int (1+(j:Int))])=Wv b i:=by
    unfold Wv;rw[Ad,M,Hw];rfl
   rw[e]at S;left;refine⟨d++Z,_,_,rfl,bL r (z.trans y),by rw[aD,Aw],?_⟩
   rw[lK];exact((l.keep y).app (S.Yd z)).put L
 .rintro U R ⟨d,v,u,rfl,C,O,m⟩;rw[show ((b.map aU).map V.str).length=b.length by rw[Ab,Ab]]at m
  exact q p d R r C O m
noncomputable def gH(cws:List (List Nat))(i:Nat):Nat:=((cws.take i).map List.length).sum
noncomputable def pR(cws:List (List Nat))(cs:List Nat)(i:Nat):List V:=(((cs.drop (gH cws i)).take (cws.getD i []).length).map one).map V.str
def zE(h:cws[i]?=some cw):gH cws (i+1)=gH cws i+cw.length:=by
 unfold gH;rw[Bl,h,Aw,List.sum_append];simp
def C_(c:i<=j):rO xs (some (i:Int)) (some (j:Int))=(xs.drop i).take (j-i):=by
 show (xs.drop (if (i:Int)<0 then ((i:Int)+(xs.length:Int)).toNat else min (i:Int).toNat xs.length)).take ((if (j:Int)<0 then ((j:Int)+(xs.length:Int)).toNat else min (j:Int).toNat xs.length)-(if (i:Int)<0 then ((i:Int)+(xs.length:Int)).toNat else min (i:Int).toNat xs.length))=_
 rw[if_neg (by omega),if_neg (by omega),Cr,Cr]
 by_cases b:i<=xs.length
 .rw[Nat.min_eq_left b];by_cases a:j<=xs.length
  .rw[Nat.min_eq_left a]
  .rw[Jj (by omega),Cz (by simp_all),Cz (by rw[Dr];omega)]
 .rw[Jj (show xs.length<=i by omega),List.drop_of_length_le (Ah _),List.drop_of_length_le (by omega),List.take_nil,List.take_nil]
def pY:Sp:=λh H Q _=>∃a b d g,h=[.ref a,.ref b]/\Z2 H a=some ((d.map aU).map V.str)/\Z2 H b=some ((g.map one).map V.str)/\d.length<=8/\(∀c∈d,c.length<=7)/\
 ∀r f e,H r=none->Z_ H e->e r=some (.lst (f.map V.ref))->(∀p∈f,p≠r)->ZQ H e f ((List.range d.length).map (pR d g))->Q (.ref r) e
def wS:Z9 ["words", "flags", "hoists", "start", "word", "end"] ["words", "flags"] (aK mT):=by fail "sc"
def MO(F:ZR K "hoists_of" "hoists_of" mT f fd):Z6 P w K mg base ZP 1 f fd ["words", "flags"] pY:=by
 refine F.ok wS (λvs H Q E h=>?_) (λa7 A Y s H vs Q E hr h=>?_)
 .obtain⟨a,b,c,d,rfl,_⟩:=h;rfl
 obtain⟨a,b,c,d,rfl,ha,hb,h8,h7,q⟩:=h;refine⟨_,(@aE _ _ _ _ _ (aQ 2 wS.nd (bZ aB)) (@aE _ _ _ _ _ (aQ 3 wS.nd aJ) (@aE _ _ _ _ _ (cK Bp rfl (dD (mv 0)) (bB (i:=4) wS.nd rfl (Or.inl rfl)) (@aE _ _ _ _ _ (aQ 5 wS.nd (aV cE (mv 3) (aX dA rfl G.b_len cC (aA (mv 4) aB)))) (@aE _ _ _ _ _ (cP (cX Cq Eo Ep yU (mv 2) (aA (bN jC rfl G.b_list dH (aA (qH Se (mv 1) (kI (mv 3)) (kI (mv 5))) aB)) aB))) (@aH _ _ _ (aQ 3 wS.nd (mv 5)))))) (@aH _ _ _ (aR (mv 2)))))),?_⟩;have J:((c.map aU).map V.str).length=c.length:=by rw[Ab,Ab]
 left;refine⟨by decide,λp O=>?_⟩
 have a6:=aM (aG O (HO.lst [])) ha
 left;refine fP (xs:=(c.map aU).map V.str) (λi U S=>∃l W T,U=[some (.ref a),some (.ref b),some (.ref p),some (.int ((gH c i:Nat):Int)),W,T]/\Z_ H S/\S p=some (.lst (l.map V.ref))/\(∀x∈l,x≠p)/\l.length=i/\ZQ H S l ((List.range i).map (pR c d)))
  ⟨[],_,_,rfl,aG O _,aD,(λx y=>nomatch y),rfl,.nil⟩ (λj U S _ ⟨_,_,_,_,e,_⟩=>aM e ha) ?_ ?_
 .rintro i x U v y ⟨l,W,T,rfl,B,R,u,I,M⟩;have hi:i<c.length:=by have:=(Ae.mp y).1;rw[J]at this;exact this
  obtain⟨k,L,hm,rfl⟩:=QQ y;have a4:=h7 k hm
  have Z:=cG k
  have a5:=aM B hb
  left;rw[Z];intro X t;rw[show ((gH c i:Nat):Int)+((k.length:Nat):Int)=((gH c i+k.length:Nat):Int) by push_cast;rfl,C_ (by omega),show gH c i+k.length-gH c i=k.length by omega]
  have m:(((d.map one).map V.str).drop (gH c i)).take k.length=pR c d i:=by
   unfold pR;rw[Ad,L,List.map_take,List.map_take,List.map_drop,List.map_drop];rfl
  rw[m];left;intro n r;have a1:n≠p:=λz=>by
   have:=aG t (HO.lst (pR c d i)) _ _ R
   rw[<-z,r]at this;cases this
  have N:Z_ v (upd (upd v X (HO.lst (pR c d i))) n (HO.lst (pR c d i))):=(aG t _).trans (aG r _)
  have C:(upd (upd v X (HO.lst (pR c d i))) n (HO.lst (pR c d i))) n=some (.lst (pR c d i)):=aD
  have D:=none_of (aG t _) r
  generalize upd (upd v X (HO.lst (pR c d i))) n (HO.lst (pR c d i))=H3 at N C ⊢;have a2:=N _ _ R
  have a3:=bP a2
  left;have o:∀x∈l++[n],x≠p:=λx y=>by
   rcases Bs.mp y with e|e
   .exact u x e
   .rw[Aj.mp e];exact a1
  refine⟨l++[n],some (.str (aU k)),some (.int ((gH c i+k.length:Nat):Int)),?_,bL O (B.trans N),by rw[aD,Aw];rfl,o,by rw[Ak,I];rfl,?_⟩
  .rw[zE L];rfl
  .rw[Bx,Aw];exact((M.keep N).snoc (none_of B D) C).put o
 .rintro U v ⟨l,W,T,rfl,B,R,u,I,M⟩;left;rw[J]at M;exact q p l v O B R u M
def zj:Z9 ["text"] ["text"] (aK rT):=by fail "sc"
def IE(F:ZR K "is_flag" "is_flag" rT f fd):Z6 P w K mg base ZP 1 f fd ["text"] uQ:=by
 refine F.ok zj (λc H Q E h=>?_) (λd A a s H c Q E i h=>?_)
 .obtain⟨z,rfl,_⟩:=h;rfl
 obtain⟨z,rfl,j,q⟩:=h;refine⟨_,(@aH _ _ _ (aR (Tf (fM lG (aX dA rfl G.b_len cC (aA (mv 0) aB)) aJ (bA _)) (Uc (fM UB (mv 0) (fO rfl G.s_FLAGS) (by rfl)))))),?_⟩
 left;refine fF (λb=>?_) (λb=>?_)
 .have e:kU z=subIn z ZY:=if_pos (by grind)
  rw[e]at q;left;exact q
 .have e:kU z=false:=tH (by grind)
  rw[e]at q;exact q
def DX:Z9 ["text", "place"] ["text", "place"] (aK lP):=by fail "sc"
def LW(F:ZR K "may_stand" "may_stand" lP f fd)(r:ZJ P w K mg base 1 "is_flag" ["text"] uQ):Z6 P w K mg base ZP 2 f fd ["text", "place"] rD:=by
 refine F.ok DX (λo H Q E h=>?_) (λv A i s H o Q E t h=>?_)
 .obtain⟨z,p,rfl,_⟩:=h;rfl
 obtain⟨z,p,rfl,u,q⟩:=h;refine⟨_,(@aE _ _ _ _ _ (bS (gG (cT (bF r t (by decide) rfl (aA (mv 0) aB)))) (@aH _ _ _ (aR eI)) bC) (@aE _ _ _ _ _ (bS (aY UB (mv 0) (fO rfl G.s_SUBSTITUTES) (by rfl)) (@aH _ _ _ (aR (fM WK (bN Vb rfl G.b_int vG (aA (mv 0) aB)) (mv 1) (bA _)))) bC) (@aH _ _ _ (aR eI)))),?_⟩
 left;refine⟨z,rfl,u,?_⟩;left;refine fF (λm=>?_) (λm=>?_)
 .have a:kU z=false:=by simpa using m
  have e:dE z p=false:=by
   by_cases n:z.length=1
   .obtain⟨c,rfl⟩:=xA n;rw[wA]at a;have a:=Bv a
    rw[qF];exact As λd=>a (d.elim .inl λz=>.inr z.1)
   .exact if_neg n
  rw[e]at q;left;exact q
 .have a:kU z=true:=by simpa using m
  obtain⟨c,rfl,k⟩:=J1 a;left;rw[if_neg Av,show subIn (one c) "1234"=decide (eV c) from vU c];rw[qF]at q;refine fF (λj=>?_) (λj=>?_)
  .have b:=Bf j
   left;refine U3 (uC b) (by show 1<=640;decide) ?_
   rw[show decide (mD c p)=decide ((c:Int)-48<p) from Cu.mpr ⟨λd=>d.elim (λl=>absurd b (iH l)) (·.2),λl=>.inr ⟨b,l⟩⟩]at q;exact q
  .have b:=Bv (Cd.mpr j)
   rwa[An (show mD c p from .inl (k.resolve_right b))]at q
def DZ:Z9 ["flags"] ["flags"] (aK pG):=by fail "sc"
def E7(F:ZR K "is_hoist" "is_hoist" pG f fd)(v:ZJ P w K mg base 2 "may_stand" ["text", "place"] rD):Z6 P w K mg base ZP 3 f fd ["flags"] tK:=by
 refine F.ok DZ (λt H Q E h=>?_) (λT A l s H t Q E k h=>?_)
 .obtain⟨a,b,rfl,_⟩:=h;rfl
 obtain⟨a,b,rfl,M,X,y,q⟩:=h;refine⟨_,(@aE _ _ _ _ _ (bS (PW.pt (gJ (aY WK (aX dA rfl G.b_len cC (aA (mv 0) aB)) aJ (bA _)) (gB (aY VS (aX dA rfl G.b_len cC (aA (mv 0) aB)) (OU rfl G.s_MOST_PLACES) (bA _))))) (@aH _ _ _ (aR eI)) bC) (@aH _ _ _ (aR (aX (Pz rfl) rfl G.b_all Ow (aA (dB rfl (Mw rfl G.b_enumerate (aA (mv 0) aB) (Tt aJ Ua)) (mU (N:=["place", "text"]) (by right) (by right)) (by right) rfl (by right) (λ_ _ _ _=>(eC (K:=K) (i:=0) (j:=1) (by rfl) (by rfl) (show List.Nodup (["place", "text"]:List Str) by right) (by rfl) (by exact Or.inl rfl) (Or.inr rfl) (by rfl) (Or.inl rfl) (Or.inr rfl))) (λ_ _ _ _=>dP) (λ_ _ _ _=>(bF v k (by decide) rfl (aA (mv 1) (aA (mv 0) aB))))) aB))))),?_⟩
 have c:(b.map V.str).length=b.length:=Ab ..
 left;rw[c];refine fF (λo=>?_) (λo=>?_)
 .left;have e:cW b=false:=if_pos (.inl (by have:=Bf o;omega))
  have r:=q H (Z_.refl H)
  rwa[e]at r
 .have L:=Bv (Cd.mpr o)
  left;rw[c];refine fF (λn=>?_) (λn=>?_)
  .left;have e:cW b=false:=if_pos (.inr (by have:=Bf n;omega))
   have r:=q H (Z_.refl H)
   rwa[e]at r
  .have J:=Bv (Cd.mpr n)
   left;refine⟨⟨by omega,by omega⟩,?_⟩
   left;refine Pd (λi x=>match x with|.str z=>some (.bl (dE z ((1+i:Nat):Int)))|_=>none) M (by rw[c];exact bG (by omega)) (λi x Hc p A B C U W O=>?_) (λD Z Y u k=>?_)
   .obtain⟨z,m,rfl⟩:=jT C;left;refine⟨Wk.set rfl (Wk.set rfl (Wk.refl _)),?_⟩;left;refine⟨z,_,rfl,y z (Ap m),?_⟩;exact O _ (Z_.refl _)
   .have S:((List.range (b.map V.str).length).filterMap λi=>(λi x=>match x with | .str z=>some (V.bl (dE z ((1+i:Nat):Int))) | _=>none:Nat->V->Option V) i ((b.map V.str).getD i .non))=((List.range b.length).map λi=>dE (b.getD i ⟨#[]⟩) ((1+i:Nat):Int)).map V.bl:=by
     rw[c,Bz];refine(jJ (g:=λi=>some (V.bl (dE (b.getD i ⟨#[]⟩) ((1+i:Nat):Int)))) λi I=>?_).trans (uD _ _);have d:=Bh.mp I
     rw[Ad,Ai,Aa d,Ad,Aa d];rfl
    rw[S]at k;left;refine Qh k ?_;have R:cW b=((List.range b.length).map λi=>dE (b.getD i ⟨#[]⟩) ((1+i:Nat):Int)).all id:=by
     unfold cW;rw[if_neg (by omega),List.all_map]
     rfl
    have r:=q _ u
    rwa[R]at r
def o3:Z9 ["flags", "word", "flag"] ["flags"] (aK sT):=by fail "sc"
def F6(F:ZR K "read_of" "read_of" sT f fd)(N:ZJ P w K mg base 3 "is_hoist" ["flags"] tK):Z6 P w K mg base (Y3 P w) 4 f fd ["flags"] (uP Zx):=by
 refine F.W3 o3 (λL H Q E h=>?_) (λa1 A t s H L Q E S h=>?_)
 .obtain⟨a,b,rfl,_⟩:=h;rfl
 obtain⟨a,b,rfl,I,X,O,q,M⟩:=h;refine⟨_,(@aE _ _ _ _ _ (bS (gG (cT (bF N S (by decide) rfl (aA (mv 0) aB)))) (@aH _ _ _ (wD kZ rfl rfl rfl G.c_NoHoist G.XD Fc (@gE _ _ _ _ _ _ aB))) bC) (@aE _ _ _ _ _ (aQ 1 o3.nd fK) (@aE _ _ _ _ _ (PS.WA (cK Bp rfl (dD (mv 0)) (bB (i:=2) o3.nd rfl (Or.inl rfl)) (@aH _ _ _ (bS (aY UB (mv 2) (fO rfl G.s_SUBSTITUTES) (by rfl)) (@aH _ _ _ (aQ 1 o3.nd (aV cE (mv 1) (bJ cA (mv 1) (aV iK (bN Vb rfl G.b_int vG (aA (mv 2) aB)) aJ) (λ_ _=>rfl))))) (@aH _ _ _ (aQ 1 o3.nd (aV cE (mv 1) (mv 2)))))))) (@aH _ _ _ (aR (mv 1)))))),?_⟩
 left;refine⟨a,b,rfl,I,X,O,λJ r=>?_⟩;have D:=aM r I
 left;cases o:cW b with
 |false=>
  left;exact⟨r0,M o J r⟩
 |true=>
  left;have h7:=gR o
  refine fP (xs:=b.map V.str) (λi U p=>∃v,U=[some (.ref a),some (.str (aU (Y9 ((b.map lM).take i)))),v]/\p=J)
   ⟨none,rfl,rfl⟩ (λi U p _ ⟨_,_,e⟩=>by rw[e];exact D) ?_ ?_
  .rintro i x U p R ⟨v,rfl,rfl⟩;obtain⟨z,u,rfl⟩:=jT R;obtain⟨c,rfl,n,C⟩:=pD o u;have hi:=(Ae.mp n).1
   have W:(b.map lM).length=b.length:=Ab ..
   have m:(Y9 ((b.map lM).take i)).length=i:=rE (by omega)
   have j:=qR n
   generalize Y9 ((b.map lM).take i)=d at m j ⊢;have y:=(cG d).trans m
   left;rw[if_neg Av,show subIn (one c) "1234"=decide (eV c) from vU c];refine fF (λB=>?_) (λB=>?_)
   .have k:=Bf B
    have T:=(C.resolve_left λl=>iH l k).2
    have Y:=k.1
    left;refine U3 (uC k) (by show 1<=640;decide) ?_
    left;have e1:YQ (aU d).cps.toList ((c:Int)-48-1)=some (d.getD (c-49) 0):=by
     rw[show ((c:Int)-48-1)=((c-49:Nat):Int) by omega]
     refine bO ?_;rw[gY,Ad,Aa (by omega)]
     rfl
    have Z:(⟨#[d.getD (c-49) 0]⟩:Str).length=1:=rfl
    refine lZ (by rw[y];exact bH (by omega)) e1 ?_
    left;refine⟨some (.str (one c)),?_,rfl⟩;rw[j,show Wx d c=d.getD (c-49) 0 from if_pos k,<-nS];rfl
   .have k:=Bv (Cd.mpr B)
    have Z:(one c).length=1:=rfl
    left;refine⟨some (.str (one c)),?_,rfl⟩;rw[j,show Wx d c=c from if_neg k,<-nS];rfl
  .rintro U p ⟨v,rfl,rfl⟩;left;have e:(b.map lM).take (b.map V.str).length=b.map lM:=Cz (by rw[Ab,Ab];exact Ah _)
   rw[e];exact q o _ r
abbrev Wt:=Nat×Nat
noncomputable def dM(w:Wt):List Key:=[Sum.inl (w.1:Int),Sum.inl (w.2:Int)]
def qW{a b:Wt}(h:dM a=dM b):a=b:=by
 unfold dM at h;grind
noncomputable def dJ(m:List (Wt×Nat))(w:Wt):Option Nat:=(m.find? λx=>decide (x.1=w)).map (·.2)
noncomputable def eT(m:List (Wt×Nat))(f:Nat):List Wt:=(m.filter λx=>decide (x.2=f)).map (·.1)
noncomputable def YC(m:List (Wt×Nat))(f:Nat):Nat:=m.countP λx=>decide (x.2=f)
def fI{x:Wt×Nat}{m:List (Wt×Nat)}{w:Wt}:dJ (x::m) w=if x.1=w then some x.2 else dJ m w:=by
 unfold dJ;grind
def Oo{w:Wt}{f:Nat}(h:dJ m w=some f):(w,f)∈m:=by
 induction m with
 |nil=>cases h
 |cons x m a=>
  rw[fI]at h;grind
def qK(a:(m.map (·.1)).Nodup){w:Wt}{f:Nat}(h:(w,f)∈m):dJ m w=some f:=by
 induction m with
 |nil=>cases h
 |cons x m b=>
  rw[fI];grind
def Yy{w:Wt}:dJ m w=none ↔ w∉m.map (·.1):=by
 induction m with
 |nil=>exact⟨λ_ z=>(nomatch z),λ_=>rfl⟩
 |cons x m a=>
  rw[fI,Ax,Bb];grind
def Xm{f:Nat}{w:Wt}:w∈eT m f ↔ (w,f)∈m:=by
 unfold eT;simp_all
def SV(m:List (Wt×Nat))(f:Nat):(eT m f).length=YC m f:=by
 unfold eT YC;rw[Ab,He]
structure Asking (ch:Wt->List Nat) (m:List (Wt×Nat)) (first:Wt) (A:List (Nat×Wt)):Prop where
 nd:(A.map (·.1)).Nodup
 ok:∀(j:Nat) f w,A[j]?=some (f,w)->f∈ch w/\(w=first\/∃(g:Nat) (i:Nat) (v:Wt),i<j/\A[i]?=some (g,v)/\dJ m w=some g)
noncomputable def cL(m:List (Wt×Nat))(first:Wt)(A:List (Nat×Wt)):List Wt:=first::(A.map (·.1)).flatMap (eT m)
def oR(m:List (Wt×Nat))(first:Wt)(A:List (Nat×Wt))(f:Nat)(w:Wt):cL m first (A++[(f,w)])=cL m first A++eT m f:=by
 unfold cL;simp_all
def Y_{w:Wt}:w∈cL m first A ↔ w=first\/∃f∈A.map (·.1),(w,f)∈m:=by
 unfold cL;rw[Bb,Hz];constructor
 .rintro(h|⟨f,hf,h⟩)
  .exact .inl h
  .exact .inr ⟨f,hf,Xm.mp h⟩
 .rintro(h|⟨f,hf,h⟩)
  .exact .inl h
  .exact .inr ⟨f,hf,Xm.mpr h⟩
theorem vQ(m:List _):∀ {b:List Nat},b.Nodup->(b.flatMap (eT m)).length=m.countP (λx=>decide (x.2∈b))
 |[],_=>by simp
 |f::b,nd=>by
  rw[Hm,Ak,SV,vQ m (Co.mp nd).2]
  unfold YC;induction m with
  |nil=>rfl
  |cons x m d=>
   rw[Fa,Fa,Fa,<-d];grind
def yW(a:(A.map (·.1)).Nodup):(cL m first A).length<=1+m.length:=by
 unfold cL;rw[Az,vQ m a];grind
def Asking.snoc{first w:Wt}{A:List (Nat×Wt)}{f:Nat}(d:(m.map (·.1)).Nodup)(h:Asking ch m first A)(t:f∉A.map (·.1))(u:f∈ch w)(r:w∈cL m first A):Asking ch m first (A++[(f,w)]):=by
 refine⟨?_,λj g v a=>?_⟩
 .rw[Aw];exact List.nodup_append.mpr ⟨h.nd,by simp,λx c y q=>by rw[List.mem_singleton.mp q];intro z;have p:=z;rw[p]at c;exact t c⟩
 .by_cases k:j<A.length
  .rw[Ay k]at a;obtain⟨C,B⟩:=h.ok j g v a;refine⟨C,B.imp id ?_⟩;rintro⟨o,i,v',b,hA,hg⟩;exact⟨o,i,v',b,by rw[Ay (by omega)];exact hA,hg⟩
  .have l:j=A.length:=by
    have:=(Ae.mp a).1
    rw[Ak]at this;have:j<A.length+1:=this
    omega
   subst l;rw[Ba (Ah _),Ga]at a;cases a;refine⟨u,?_⟩;rcases Y_.mp r with e|⟨o,n,s⟩
   .exact .inl e
   .obtain⟨x,c,rfl⟩:=Bg.mp n;obtain⟨i,b,D⟩:=Ct.mp c;exact .inr ⟨x.1,i,x.2,b,by rw[Ay b,Aa b,D],qK d s⟩
structure Xg (ch:Wt->List Nat) (m:List (Wt×Nat)) (first:Wt) (A:List (Nat×Wt)):Prop extends Asking ch m first A where
 all1:∀f∈ch first,f∈A.map (·.1)
 all:∀w g,(w,g)∈m->g∈A.map (·.1)->∀f∈ch w,f∈A.map (·.1)
def Asking.done(h:Asking ch m first A)(a:∀w∈cL m first A,∀f∈ch w,f∈A.map (·.1)):Xg ch m first A:=
 ⟨h,a first (Y_.mpr (.inl rfl)),λw g b c=>a w (Y_.mpr (.inr ⟨g,c,b⟩))⟩
noncomputable def VW(m:List (Wt×Nat))(w:Wt)(f:Nat):List (Wt×Nat):=if (dJ m w).isSome=true then m.map λx=>if x.1=w then (x.1,f) else x else m++[(w,f)]
def E_{w v:Wt}{f:Nat}:dJ (m.map λx=>if x.1=w then (x.1,f) else x) v=(dJ m v).map λg=>if v=w then f else g:=by
 induction m with
 |nil=>rfl
 |cons x m b=>
  rw[Ax,fI,fI,b];grind
def keys_map{m:List (Wt×Nat)}{w:Wt}{f:Nat}:(m.map λx=>if x.1=w then (x.1,f) else x).map (·.1)=m.map (·.1):=by
 rw[Bz];refine Dp λx _=>?_;grind
def BF{w:Wt}{f g:Nat}(a:(m.map (·.1)).Nodup)(h:dJ m w=some g)(c:Nat):YC (m.map λx=>if x.1=w then (x.1,f) else x) c+(if c=g then 1 else 0)=YC m c+(if c=f then 1 else 0):=by
 induction m with
 |nil=>cases h
 |cons x m b=>
  rw[Ax,Co]at a;rw[fI]at h;unfold YC at b ⊢;rw[Ax,Fa,Fa];by_cases e:x.1=w
  .rw [if_pos e] at h;cases h;have i:(m.map λx=>if x.1=w then (x.1,f) else x)=m:=by
    refine(Dp λy d=>?_).trans (List.map_id _);show (if y.1=w then (y.1,f) else y)=y
    rw[if_neg (λz=>a.1 (by rw[e,<-z];exact Bg.mpr ⟨y,d,rfl⟩))]
   rw[if_pos e,i];have k:(decide ((x.1,f).2=c)=true)=(c=f):=by rw[Ca];exact propext ⟨λz=>z.symm,λz=>z.symm⟩
   have j:(decide (x.2=c)=true)=(c=x.2):=by rw[Ca];exact propext ⟨λz=>z.symm,λz=>z.symm⟩
   simp only[k,j];omega
  .rw[if_neg e]at h;rw[if_neg e];have r:=b a.2 h
   omega
structure Yu (ch:Wt->List Nat) (m0:List (Wt×Nat)) (A:List (Nat×Wt)) (f0:Nat) (m:List (Wt×Nat)) (c j:Nat) (w:Wt):Prop where
 keys:m.map (·.1)=m0.map (·.1)
 ok:∀v f,(v,f)∈m->f∈ch v
 ct:∀f,YC m f+(if f=c then 1 else 0)=YC m0 f+(if f=f0 then 1 else 0)
 at_:A[j]?=some (c,w)
 same:∀v g i u,dJ m0 v=some g->A[i]?=some (g,u)->i<j->dJ m v=some g
def CH{A:List (Nat×Wt)}(a:(A.map (·.1)).Nodup){g:Nat}{u v:Wt}(c:A[i]?=some (g,u))(b:A[j]?=some (g,v)):i=j:=by
 obtain⟨e,h⟩:=Ae.mp c;obtain⟨d,f⟩:=Ae.mp b;refine(Ht (h₀:=by rw[Ab];exact e) (h₁:=by simp_all) a).mp ?_
 rw[El,El,h,f]
def Yu.step{A:List (Nat×Wt)}{s c g:Nat}{first w v:Wt}(q:Asking ch a first A)(b:(a.map (·.1)).Nodup)(h:Yu ch a A s m c j w)(p:dJ a w=some g)(k:A[i]?=some (g,v))(d:i<j):dJ m w=some g/\Yu ch a A s (m.map λx=>if x.1=w then (x.1,c) else x) g i v:=by
 have y:(m.map (·.1)).Nodup:=by rw[h.keys];exact b
 have o:=h.same w g i v p k d
 refine⟨o,keys_map.trans h.keys,λu f C=>?_,λf=>?_,k,λu D z t l r G=>?_⟩
 .obtain⟨x,B,e⟩:=Bg.mp C;by_cases n:x.1=w
  .rw[if_pos n]at e;cases e;rw[n];exact(q.ok j c w h.at_).1
  .rw[if_neg n]at e;exact h.ok u f (e▸B)
 .have F:=BF (f:=c) y o f
  have E:=h.ct f
  omega
 .rw[E_,h.same u D z t l r (by omega),Gg]
  by_cases e:u=w
  .subst e;rw[p]at l;cases l;exact absurd (CH q.nd k r) (by omega)
  .rw[if_neg e]
def Yu.last{A:List (Nat×Wt)}{b c:Nat}{first:Wt}(i:Asking ch a first A)(g:first∉a.map (·.1))(h:Yu ch a A b m c j first):dJ m first=none/\(m++[(first,c)]).map (·.1)=a.map (·.1)++[first]/\(∀v f,(v,f)∈m++[(first,c)]->f∈ch v)/\∀f,YC (m++[(first,c)]) f=YC a f+(if f=b then 1 else 0):=by
 refine⟨Yy.mpr (by rw[h.keys];exact g),by rw[Aw,h.keys];rfl,λv f d=>?_,λf=>?_⟩
 .rcases Bs.mp d with e|e
  .exact h.ok v f e
  .cases Aj.mp e;exact(i.ok j c first h.at_).1
 .have r:=h.ct f
  unfold YC at r ⊢;grind
noncomputable def lU(m:List (Wt×Nat))(first:Wt)(A:List (Nat×Wt))(a:List Wt):List Wt:=a.filter λw=>decide (w=first) || (match dJ m w with|some g=>decide (g∈A.map (·.1))|none=>false)
noncomputable def lB(m:List (Wt×Nat))(first:Wt)(A:List (Nat×Wt))(w:Wt):Bool:=decide (w=first) || (match dJ m w with|some g=>decide (g∈A.map (·.1))|none=>false)
def IQ{first w:Wt}{A:List (Nat×Wt)}(h:w=first):lB m first A w=true:=by
 unfold lB;simp_all
def wB{first w:Wt}{A:List (Nat×Wt)}(h:w≠first)(e:dJ m w=none):lB m first A w=false:=by
 unfold lB;simp_all
def wJ{first w:Wt}{A:List (Nat×Wt)}{g:Nat}(h:w≠first)(e:dJ m w=some g):lB m first A w=decide (g∈A.map (·.1)):=by
 unfold lB;simp_all
def uJ{w:Wt}:lU m first A (ws++[w])=lU m first A ws++if lB m first A w=true then [w] else []:=by
 have e:∀l,lU m first A l=l.filter (lB m first A):=λl=>rfl
 rw[e,e,Hb,Hv];rfl
def Xu{first w:Wt}{A:List (Nat×Wt)}{ws:List Wt}:w∈lU m first A ws ↔ w∈ws/\lB m first A w=true:=by
 have e:∀l,lU m first A l=l.filter (lB m first A):=λl=>rfl
 rw[e,Ff]
def Kh{first:Wt}{A:List (Nat×Wt)}{l r:List Wt}(c:m.map (·.1)=l)(b:(l++first::r).Nodup):(lU m first A (l++first::r)).length=1+m.countP (λx=>decide (x.2∈A.map (·.1))):=by
 have k:(m.map (·.1)).Nodup:=by rw[c];exact(Eb.mp b).1
 have i:=λz=>(Eb.mp b).2.2 first z first Al rfl
 have h:=(Co.mp (Eb.mp b).2.1).1
 have d:=λw a z=>(Eb.mp b).2.2 w z w (Ao _ a) rfl
 unfold lU;rw[Hb,Ak,Hv,if_pos (by rw[An rfl];rfl),Az]
 have n:r.filter (λw=>decide (w=first) || (match dJ m w with|some g=>decide (g∈A.map (·.1))|none=>false))=[]:=by
  refine List.filter_eq_nil_iff.mpr λw a=>?_;have e:=Yy.mpr (by rw[c];exact d w a)
  rw[As (show ¬w=first from λz=>by rw[z]at a;exact h a),e,Ig]
  exact Av
 have o:(l.filter (λw=>decide (w=first) || (match dJ m w with|some g=>decide (g∈A.map (·.1))|none=>false))).length=m.countP (λx=>decide (x.2∈A.map (·.1))):=by
  rw[<-c,List.filter_map,Ab,<-He];refine List.countP_congr λx j=>?_;show (decide (x.1=first) || (match dJ m x.1 with|some g=>decide (g∈A.map (·.1))|none=>false))=true ↔ _
  rw[qK k (w:=x.1) (f:=x.2) j,As (λz=>i (by rw[<-z,<-c];exact Bg.mpr ⟨x,j,rfl⟩)),Ig]
 rw[n,o,List.length_nil];omega
def BH(m:List (Wt×Nat)):∀ {a:List Nat},a.Nodup->m.countP (λx=>decide (x.2∈a))=(a.map (YC m)).sum:=fun {a} b=>by
 rw[<-vQ m b];induction a with
 |nil=>rfl
 |cons f a c=>rw[Hm,Ak,SV,Ax,Dm,c (Co.mp b).2]
noncomputable def lS(cws:List (List Nat))(k:Nat):List Wt:=(List.range (cws.getD k []).length).map λj=>(k,1+j)
noncomputable def XZ(cws:List (List Nat))(i:Nat):List Wt:=(List.range i).flatMap (lS cws)
noncomputable def wl(cws:List (List Nat)):List Wt:=XZ cws cws.length
noncomputable def wV(w:Wt):List V:=[.int (w.1:Int),.int (w.2:Int)]
def jQ(cws:Q6)(i:Nat):XZ cws (i+1)=XZ cws i++lS cws i:=by
 unfold XZ;rw[Bx,Gp];simp
theorem xD(cws:Q6):∀i,pB cws i=(XZ cws i).map wV
 |0=>rfl
 |i+1=>by
  rw[lK,jQ,Aw,xD cws i];congr 1
  unfold Wv lS;rw[Bz];refine Dp λj _=>?_;show [V.int _,V.int _]=[V.int _,V.int _]
  grind
def Y8{w:Wt}:∀ {i:Nat},w∈XZ cws i ↔ w.1<i/\1<=w.2/\w.2<=(cws.getD w.1 []).length:=fun {i}=>by
 unfold XZ lS;rw[Hz];constructor
 .rintro⟨k,hk,h⟩;obtain⟨j,a,rfl⟩:=Bg.mp h;have:=Bh.mp hk
  grind
 .rintro⟨h1,h2,h3⟩;refine⟨w.1,Bh.mpr h1,Bg.mpr ⟨w.2-1,Bh.mpr (by omega),?_⟩⟩
  exact Prod.ext rfl (by show 1+(w.2-1)=w.2;omega)
theorem oW(cws:Q6):∀i,(XZ cws i).Nodup
 |0=>List.nodup_nil
 |i+1=>by
  rw[jQ];refine Eb.mpr ⟨oW cws i,?_,λa d b c e=>?_⟩
  .unfold lS;exact List.Pairwise.map _ (λa b h=>λz=>h (by have:=Dk Prod.snd z;have e:=this;omega)) Hy
  .subst e;have f:=(Y8.mp d).1
   unfold lS at c;obtain⟨j,_,rfl⟩:=Bg.mp c;simp_all
def T4(a:∀c∈cws,c.length<=7)(i:Nat):(XZ cws i).length<=7*i:=by
 have:=pT a i
 rw[xD,Ab]at this;omega
noncomputable def Zd(cws:List (List Nat))(w:Wt):List Nat:=X6 (cws.getD w.1 []) (w.2-1)
noncomputable def eJ(ws:List Wt)(ds:List Addr):List (List Key×V):=List.zipWith (λw d=>(dM w,V.ref d)) ws ds
def Qg(H:Hp)(r:Addr)(cws:List (List Nat))(i:Nat):Prop:=∃a,a.length=i/\H r=some (.dT (eJ ((wl cws).take i) a))/\∀j w d,j<i->(wl cws)[j]?=some w->a[j]?=some d->H d=some (.lst (((Zd cws w).map one).map V.str))
def IK(b:ws.Nodup)(c:ds.length=ws.length){w:Wt}{d:Addr}(a:ws[j]?=some w)(f:ds[j]?=some d):cD (eJ ws ds) (dM w)=some (.ref d):=by
 induction ws generalizing ds j with
 |nil=>cases a
 |cons x ws g=>
  cases ds with
  |nil=>cases c
  |cons e ds=>
   show cD ((dM x,V.ref e)::eJ ws ds) _=_
   cases j with
   |zero=>cases a;cases f;exact cI rfl
   |succ j=>
    have h:=Ap (show ws[j]?=some w from a)
    rw[cB (λz=>(Co.mp b).1 (by rw[qW z];exact h))]
    exact g (List.nodup_cons.mp b).2 (by simpa using c) a f
def F8{ws:List Wt}{w:Wt}(h:w∉ws):cD (eJ ws a) (dM w)=none:=by
 induction ws generalizing a with
 |nil=>rfl
 |cons x ws b=>
  cases a with
  |nil=>rfl
  |cons e a=>
   show cD (_::eJ ws a) _=_
   rw[cB (λz=>h (by rw[qW z];exact Al))]
   simp_all
def yM(a:ds.length=ws.length):(eJ ws ds).length=ws.length:=by
 unfold eJ;grind
def MX{w:Wt}{d:Addr}(a:ds.length=ws.length):eJ (ws++[w]) (ds++[d])=eJ ws ds++[(dM w,V.ref d)]:=by
 unfold eJ;rw[List.zipWith_append (by omega)]
 rfl
def nY:Sp:=λe H Q _=>∃a b,e=[.ref a]/\Z2 H a=some ((b.map aU).map V.str)/\b.length<=8/\(∀c∈b,c.length<=7)/\
 ∀r d,H r=none->Z_ H d->Qg d r b (wl b).length->Q (.ref r) d
def j4:Z9 ["words", "choices", "want"] ["words"] (aK kC):=by fail "sc"
def xZ(F:ZR K "choices_of" "choices_of" kC f fd)(G:Gs K mg w Zt Zz Zu Zx Z0 Zv Zy Zw)(j5:ZJ P w K mg base 1 "wants_of" ["words"] tB)(j6:ZJ P w K mg base 1 "choices_at" ["word", "place"] oC):Z6 P w K mg base ZP 2 f fd ["words"] nY:=by
 refine F.ok j4 (λvs H Q E h=>?_) (λb4 A a3 s H vs Q E C h=>?_)
 .obtain⟨a,c,rfl,_⟩:=h;rfl
 obtain⟨a,c,rfl,ha,h8,h7,q⟩:=h;refine⟨_,(@aE _ _ _ _ _ (@SQ _ _ 1 _ _ _ _ j4.nd (by rfl) (by exact(Or.inl rfl)) Oe (by rfl) (by fail "o")) (@aE _ _ _ _ _ (cK Bp rfl (dD (bF j5 C (by decide) rfl (aA (mv 0) aB))) (bB (i:=2) j4.nd rfl (Or.inl rfl)) (@aH _ _ _ (fN (Z7.u1 C) (mv 1) (mv 2) (bF j6 C (by decide) rfl (aA (bJ cA (mv 0) (bJ cA (mv 2) aJ (λ_ _=>rfl)) (λ_ _=>rfl)) (aA (bJ cA (mv 2) aJ (λ_ _=>rfl)) aB))) rfl))) (@aH _ _ _ (aR (mv 1))))),?_⟩
 left;intro y n;left;refine⟨a,c,rfl,aM (aG n _) ha,h8,h7,λr I H1 C s1 e1 tp=>?_⟩;have a2:=(aG n (.dT [])).trans s1
 have S:=s1 _ _ (aD (H:=H) (a:=y) (o:=.dT []))
 have b3:(wl c).length<=56:=Bo (T4 h7 _) (by omega)
 rw[xD]at tp;have N:I.length=(wl c).length:=by rw[tp.1,Ab];rfl
 have a4:(I.map V.ref).length=(wl c).length:=by rw[Ab,N]
 have a1:∀j p w,I[j]?=some p->(wl c)[j]?=some w->H1 p=some (.tup (wV w)):=λj p w hp hw=>(tp.2 j p _ hp (by rw[Ai];exact Dk (Option.map wV) hw)).2
 have r1:=aP e1
 have a9:y≠r:=λz=>by rw[<-z,aD]at C;cases C
 left;refine fP (xs:=I.map V.ref) (λi U H'=>∃v,U=[some (.ref a),some (.ref y),v]/\Z_ H H'/\(∀b u,b≠y->H1 b=some u->H' b=some u)/\Qg H' y c i)
  ⟨_,rfl,a2,λb u _ h=>h,[],rfl,S,λj w d Y=>absurd Y (Eu _)⟩ (λi U H' _ ⟨_,_,_,k,_⟩=>aP (k _ _ (Ne.symm a9) e1)) ?_ ?_
 .rintro i x U H2 J ⟨v,rfl,W,k2,ds,dl,ed,a7⟩;rw[Ai]at J;cases e:I[i]? with
  |none=>rw[e]at J;cases J
  |some p=>
   rw[e]at J;cases J;have hi:i<(wl c).length:=by rw[<-N];exact(Ae.mp e).1
   have Z:=Aa hi
   have hm:=Y8.mp (Br hi)
   have l:=a1 i p _ e Z
   have M:p≠y:=λz=>by rw[z,S]at l;cases l
   have X:=k2 _ _ M l
   have B:(wl c)[i]∉(wl c).take i:=λz=>by
    obtain⟨j,Y,ej⟩:=Ct.mp z;rw[Ce]at Y;rw[List.getElem_take]at ej;have:=(Ht (oW c c.length)).mp ej
    omega
   have L:(wl c).take (i+1)=(wl c).take i++[(wl c)[i]]:=by rw[Bl,Z];rfl
   generalize hw:(wl c)[i]=w at hm X B L Z;obtain⟨h1,h2,h3⟩:=hm;have R:c[w.1]?=some (c.getD w.1 []):=by rw[Ad,Aa h1];rfl
   have b2:=h7 _ (Ap R)
   have b1:=aM W ha
   left;refine dS X (v:=.int (w.1:Int)) rfl ?_;left;refine eY b1 (v:=.str (aU (c.getD w.1 []))) (bO (by rw[Ai,Ai,R];rfl)) ?_
   left;refine dS X (v:=.int (w.2:Int)) rfl ?_;left;refine⟨c.getD w.1 [],w.2-1,_,rfl,by omega,by omega,b2,λd H3 hd D e3=>?_⟩
   left;have T:ds.length=((wl c).take i).length:=by rw[dl,Ce];omega
   refine SU (k:=dM w) (D _ _ ed) (D _ _ X) (bG (by rw[yM T,Ce];omega)) ?_
   have a8:d≠y:=λz=>by rw[z,ed]at hd;cases hd
   refine⟨_,rfl,bL n (W.trans D),λb u hb hu=>by rw[aI hb];exact D _ _ (k2 b u hb hu),ds++[d],by rw[Ak,dl];rfl,?_,λj v' d' Y hv t=>?_⟩
   .rw[aD,mS _ (F8 B),L,MX T]
   .by_cases a5:j<i
    .rw[Ay (by omega)]at t
     have m:=a7 j v' d' a5 hv t
     rw[aI (λz=>by rw[z,ed]at m;cases m)]
     exact D _ _ m
    .have a6:j=i:=by omega
     subst a6;rw[Z]at hv;cases hv;rw[Ba (by omega),dl,Ga]at t
     cases t;rwa[aI a8]
 .rintro U H2 ⟨v,rfl,W,k2,O⟩;rw[a4]at O;exact q y H2 n W O
noncomputable def iE(m:List (Wt×Nat)):List (List Key×V):=m.map λx=>(dM x.1,V.str (one x.2))
def mG(m:List (Wt×Nat))(w:Wt):cD (iE m) (dM w)=(dJ m w).map λf=>V.str (one f):=by
 induction m with
 |nil=>rfl
 |cons x m a=>
  show cD (_::iE m) _=_
  rw[fI];by_cases e:x.1=w
  .rw[if_pos e,cI (by grind)]
   rfl
  .rw[if_neg e,cB (λz=>e (qW z)),a]
noncomputable def gF(A:List (Nat×Wt))(bs:List Addr):List (Key×V):=List.zipWith (λx b=>(Sum.inr (one x.1),V.ref b)) A bs
def mZ{A:List (Nat×Wt)}(c:a.length=A.length)(f:Nat):(cD (gF A a) (Sum.inr (one f))).isSome=decide (f∈A.map (·.1)):=by
 induction A generalizing a with
 |nil=>rfl
 |cons x A d=>
  cases a with
  |nil=>cases c
  |cons b a=>
   show (cD ((Sum.inr (one x.1),V.ref b)::gF A a) _).isSome=_
   by_cases e:x.1=f
   .rw[cI (by show (Sum.inr (one x.1):Key)=Sum.inr (one f);rw[e]),An (by rw[<-e];exact Al)]
    rfl
   .rw[cB (λz=>e (Y1.mp z)),d (by simpa using c)]
    grind
def AK(a:bs.length=A.length){f:Nat}(h:f∉A.map (·.1)):cD (gF A bs) (Sum.inr (one f))=none:=by
 have r:=mZ a f
 simp_all
def FK{x:Nat×Wt}(a:bs.length=A.length):gF (A++[x]) (bs++[b])=gF A bs++[(Sum.inr (one x.1),V.ref b)]:=by
 unfold gF;rw[List.zipWith_append (by omega)]
 rfl
def vT(a:bs.length=A.length):(gF A bs).length=A.length:=by
 unfold gF;grind
def MY(c:(A.map (·.1)).Nodup)(d:bs.length=A.length){f:Nat}{w:Wt}(a:A[j]?=some (f,w))(g:bs[j]?=some b):cD (gF A bs) (Sum.inr (one f))=some (.ref b):=by
 induction A generalizing bs j with
 |nil=>cases a
 |cons x A h=>
  cases bs with
  |nil=>cases d
  |cons e bs=>
   show cD ((Sum.inr (one x.1),V.ref e)::gF A bs) _=_
   rw[Ax,Co]at c;cases j with
   |zero=>cases a;cases g;exact cI rfl
   |succ j=>
    have i:f∈A.map (·.1):=Bg.mpr ⟨(f,w),Ap (show A[j]?=some (f,w) from a),rfl⟩
    rw[cB (λz=>c.1 (by rw[Y1.mp z];exact i))]
    exact h c.2 (by simpa using d) a g
def ZV(H:Hp)(a:List Addr)(ws:List Wt):Prop:=a.length=ws.length/\∀(j:Nat) r w,a[j]?=some r->ws[j]?=some w->H r=some (.tup (wV w))
def ZV.keep(h:ZV H a ws)(k:∀r w,H r=some (.tup (wV w))->H' r=some (.tup (wV w))):ZV H' a ws:=⟨h.1,λj r w c b=>k _ _ (h.2 j r w c b)⟩
def ZV.app{c d:List Addr}{ws vs:List Wt}(h:ZV H c ws)(g:ZV H d vs):ZV H (c++d) (ws++vs):=by
 refine⟨by rw[Ak,Ak,h.1,g.1],λj r w b a=>?_⟩
 by_cases e:j<c.length
 .rw[Ay e]at b;rw[Ay (by rwa[<-h.1])]at a
  exact h.2 j r w b a
 .rw[Ba (by omega)]at b
  rw[Ba (by rw[<-h.1];omega),<-h.1]at a
  exact g.2 _ r w b a
def ZV.one{w:Wt}(h:H r=some (.tup (wV w))):ZV H [r] [w]:=⟨rfl,λj q v a b=>by
 cases j with
 |zero=>cases a;cases b;exact h
 |succ j=>cases a⟩
def Xa(H:Hp)(r:Addr)(cws:List (List Nat)):Prop:=∃a,a.length=(wl cws).length/\Rd H r (.dT (eJ (wl cws) a))/\∀(j:Nat) w d,(wl cws)[j]?=some w->a[j]?=some d->H d=some (.lst (((Zd cws w).map one).map V.str))
structure YI (cws:List (List Nat)) (m:List (Wt×Nat)):Prop where
 nd:(m.map (·.1)).Nodup
 sub:∀x∈m,x.1∈wl cws
def OJ(h:∀c∈cws,c.length<=7/\∀d∈c,aZ d){w:Wt}(b:w∈wl cws){f:Nat}(g:f∈Zd cws w):eO f:=by
 obtain⟨i,l,k⟩:=Y8.mp b;have a:cws[w.1]?=some (cws.getD w.1 []):=by simp_all
 rcases Yo.mp g with e|⟨n,_,j,_,e⟩
 .rw[e];exact .inl (mM (h _ (Ap a)).2 (by omega))
 .rw[e];exact .inr ⟨by omega,by omega⟩
def Rg(b:YI cws m)(a:first∈wl cws)(h:Asking (Zd cws) m first A){f:Nat}{w:Wt}(c:A[j]?=some (f,w)):w∈wl cws:=by
 rcases (h.ok j f w c).2 with e|⟨g,i,v,_,_,d⟩
 .rwa[e]
 .exact b.sub _ (Oo d)
def Qr(i:YI cws m)(b:first∈wl cws)(n:∀c∈cws,c.length<=7/\∀d∈c,aZ d)(h:Asking (Zd cws) m first A):A.length<=27:=by
 have r:=SM  h.nd λf l=>by
  obtain⟨x,g,rfl⟩:=Bg.mp l;obtain⟨j,k,e⟩:=Ct.mp g;have a:A[j]?=some (x.1,x.2):=by rw[Aa k,e]
  exact ZG.mpr (OJ n (Rg i b h a) (h.ok j _ _ a).1)
 rwa[Ab]at r
inductive oB(i:List V)(H:Hp)(Q:VK)(zz3:XK):Prop|mk(f h g a m first:_)(_:i=[.ref f,.ref h,.ref g])(_:H f=some (.tup (wV first)))(_:first∈wl a)(_:Xa H h a)(_:H g=some (.dT (iE m)))(_:YI a m)(_:m.length<=56)(_:a.length<=8)(_:(∀c∈a,c.length<=7/\∀d∈c,aZ d))(_:∀r A e b,H r=none->Z_ H b->b r=some (.dK (gF A e))->ZV b e (A.map (·.2))->Xg (Zd a) m first A->Q (.ref r) b):oB i H Q zz3
def x8:Z9 ["first", "choices", "hung", "asked", "reached", "at", "asking", "flag"] ["first", "choices", "hung"] (aK gO):=by fail "sc"
def xU(F:ZR K "asked_from" "asked_from" gO f fd):Z6 P w K mg base ZP 1 f fd ["first", "choices", "hung"] oB:=by
 refine F.ok x8 (λvs H Q E h=>?_) (λk3 A e8 s H vs Q E hr h=>?_)
 .obtain⟨bf,ac,ah,a,m,first,rfl,_⟩:=h;rfl
 obtain⟨bf,ac,ah,a,m,first,rfl,h3,d5,h1,h5,hm,f2,h8,hL,q⟩:=h
 refine⟨_,(@aE _ _ _ _ _ (aQ 3 x8.nd vY) (@aE _ _ _ _ _ (aQ 4 x8.nd (bZ (aA (mv 0) aB))) (@aE _ _ _ _ _ (aQ 5 x8.nd aJ) (@aE _ _ _ _ _ (Pw Bp (aY WK (mv 5) (aX dA rfl G.b_len cC (aA (mv 4) aB)) (bA _)) (@aE _ _ _ _ _ (aQ 6 x8.nd (bJ cA (mv 4) (mv 5) (λ_ _=>rfl))) (@aE _ _ _ _ _ (cK Bp rfl (dD (iM (Z7.u1 hr) (mv 1) (mv 6) (λ_ _=>rfl))) (bB (i:=7) x8.nd rfl (Or.inr rfl)) (@aH _ _ _ (bS (aY (MM (Z7.u1 hr)) (mv 7) (mv 3) (by rfl)) (@aE _ _ _ _ _ (fN (Z7.u1 hr) (mv 3) (mv 7) (mv 6) rfl) (@aH _ _ _ (cP (cX Cq Fk Fl Vp (mv 4) (aA (SD (dB rfl (qN (mv 2)) (iQ (N:=["want", "flag", "hung"]) ["first", "choices", "hung", "asked", "reached", "at", "asking", "flag"] (aK gO) [none,some 7,some 2] rfl rfl rfl (λx h=>cH h) (by right)) (by right) rfl (by right) (λ_ _ _ _=>(bB (i:=0) (show List.Nodup (["want", "flag", "hung"]:List Str) by right) rfl (Or.inl rfl))) (λ_ _ _ _=>(lX (aY lG (iM (Z7.u1 hr) (mv 2) (mv 0) (λ_ _=>rfl)) (mv 1) (bA _)))) (λ_ _ _ _=>(mv 0)))) aB))))) bC))) (@aH _ _ _ (aQ 5 x8.nd (aV cE (mv 5) aJ)))))) (@aH _ _ _ (aR (mv 3))))))),?_⟩
 left;intro I a3;left;refine⟨r0,λM a2=>?_⟩
 have s1:=(aG a3 (.dK [])).trans (aG a2 (.lst [.ref bf]))
 have b3:I≠M:=λz=>by rw[<-z,aD]at a2;cases a2
 have e3:(upd (upd H I (.dK [])) M (.lst [.ref bf])) I=some (.dK []):=by rw[aI b3,aD]
 have d9:(upd (upd H I (.dK [])) M (.lst [.ref bf])) M=_:=aD
 have c8:=none_of (aG a3 _) a2
 generalize upd (upd H I (.dK [])) M (.lst [.ref bf])=H1 at s1 e3 d9 ⊢;left;refine ⟨λn U d=>E_6 λ(A:List (Nat×Wt))(y l:List Addr)(t:Nat)(v1 v2:Option V)=>U=[some (.ref bf),some (.ref ac),some (.ref ah),some (.ref I),some (.ref M),some (.int (t:Int)),v1,v2]/\Z_ H d/\d I=some (.dK (gF A y))/\ZV d y (A.map (·.2))/\d M=some (.lst (l.map V.ref))/\ZV d l (cL m first A)/\
     Asking (Zd a) m first A/\t<=(cL m first A).length/\(∀j w,j<t->(cL m first A)[j]?=some w->∀f∈Zd a w,f∈A.map (·.1))/\n=1+m.length-t,⟨_,[],[],[bf],0,_,_,rfl,s1,e3,⟨rfl,λj r w hr=>(nomatch hr)⟩,d9,.one (s1 _ _ h3),⟨List.nodup_nil,λj f w hj=>(nomatch hj)⟩,Ci _,λj w hj=>absurd hj (Eu _),rfl⟩,?_⟩
 rintro n U H2 ⟨A,y,l,t,v1,v2,rfl,s2,a6,Z,a5,O,c,c5,C,rfl⟩;have b4:(l.map V.ref).length=(cL m first A).length:=by rw[Ab,O.1]
 have b1:=aP a5
 left;rw[b4];refine fF (λY=>?_) (λY=>?_)
 .have d7:=Bf Y
  have ht:t<(cL m first A).length:=by omega
  have c7:=yW (m:=m) (first:=first) c.nd
  have f1:t<l.length:=by rw[O.1];exact ht
  have R:=Aa ht
  have X:l[t]?=some l[t]:=Aa f1
  have a1:=O.2 t _ _ X R
  have c4:(cL m first A)[t]∈wl a:=by
   rcases Y_.mp (Br ht) with e|⟨f,_,f3⟩
   .rw[e];exact d5
   .exact hm.sub _ f3
  generalize h2:l[t]=b at a1 X;generalize e9:(cL m first A)[t]=w at a1 c4 R
  clear h2 e9 Y d7;obtain⟨ds,d1,d2,d3⟩:=id h1;obtain⟨jw,f5,h9⟩:=Ct.mp c4;have a7:(wl a)[jw]?=some w:=by rw[Aa f5,h9]
  have e1:ds[jw]?=some (ds[jw]'(by omega)):=Aa (by omega)
  have T:=d3 jw w _ a7 e1
  have d6:=IK (oW a a.length) d1 a7 e1
  generalize (ds[jw]'(by omega))=dl at T d6
  have f9:=s2 _ _ T
  have j1:Rd H2 ac (.dT (eJ (wl a) ds)):=d2.elim (λe=>.inl (s2 _ _ e)) λ⟨o,e⟩=>.inr ⟨o,s2 _ _ e⟩
  refine⟨λU' d=>E_5 λ(A:List (Nat×Wt))(y l:List Addr)(v1 v2:Option V)=>U'=[some (.ref bf),some (.ref ac),some (.ref ah),some (.ref I),some (.ref M),some (.int ((t+1:Nat):Int)),v1,v2]/\Z_ H d/\d I=some (.dK (gF A y))/\ZV d y (A.map (·.2))/\d M=some (.lst (l.map V.ref))/\ZV d l (cL m first A)/\
   Asking (Zd a) m first A/\t+1<=(cL m first A).length/\(∀j w,j<t+1->(cL m first A)[j]?=some w->∀f∈Zd a w,f∈A.map (·.1)),?_,?_⟩
  .rintro U' d ⟨A',j2,e7,e6,e5,rfl,g1,g2,g3,g4,g5,g6,g7,g8⟩;exact⟨1+m.length-(t+1),by omega,A',j2,e7,t+1,e6,e5,rfl,g1,g2,g3,g4,g5,g6,g7,g8,rfl⟩
  left;refine eY b1 (v:=.ref b) (bO (by rw[Ai,X];rfl)) ?_
  left;refine SW (k:=dM w) j1 a1 d6 ?_;have j5:=aP f9
  have j4:=(BA (a.getD w.1 []) (w.2-1)).2
  have g9:(((Zd a w).map one).map V.str).length=(Zd a w).length:=by rw[Ab,Ab]
  left;have kt:∀ {d:Hp} {p:Addr} {u u':HO},d p=some u->(∀ws,u≠.tup ws)->∀r w,d r=some (.tup (wV w))->(upd d p u') r=some (.tup (wV w)):=fun {d p u u'} e ne r w h=>by
   rw[aI (λz=>by rw[z,e]at h;cases h;exact ne _ rfl)]
   exact h
  refine fP (xs:=((Zd a w).map one).map V.str) (λi U d=>E_4 λA y l v2=>U=[some (.ref bf),some (.ref ac),some (.ref ah),some (.ref I),some (.ref M),some (.int (t:Int)),some (.ref b),v2]/\Z_ H d/\d I=some (.dK (gF A y))/\ZV d y (A.map (·.2))/\d M=some (.lst (l.map V.ref))/\ZV d l (cL m first A)/\
      d b=some (.tup (wV w))/\Asking (Zd a) m first A/\(cL m first A)[t]?=some w/\(∀j v,j<t->(cL m first A)[j]?=some v->∀f∈Zd a v,f∈A.map (·.1))/\∀f∈(Zd a w).take i,f∈A.map (·.1))
   ⟨A,y,l,_,rfl,s2,a6,Z,a5,O,a1,c,R,C,λf hf=>(nomatch hf)⟩ (λi U d _ ⟨_,_,_,_,_,e,_⟩=>aP (e _ _ T)) ?_ ?_
  .clear c R C c7 c5 b4 b1 O a5 Z a6 X;rintro i x U H3 hx ⟨A,y,l,v2,rfl,s3,ea,wb,X,wr,hb,c,R,C,J⟩;rw[Ai,Ai]at hx;cases ef:(Zd a w)[i]? with
   |none=>rw[ef]at hx;cases hx
   |some f=>
    rw[ef]at hx;cases hx;have f8:=Ap ef
    have c6:(Zd a w).take (i+1)=(Zd a w).take i++[f]:=by rw[Bl,ef];rfl
    have a4:y.length=A.length:=by rw[wb.1,Ab]
    have k2:=Qr hm d5 hL c
    left;refine Qe (neg:=true) (z:=one f) (.inl ea) ?_;rw[if_pos rfl,mZ a4];refine fF (λY=>?_) (λY=>?_)
    .have c9:f∉A.map (·.1):=λz=>by rw[An z]at Y;cases Y
     left;refine iL (z:=one f) ea (bG (by rw[vT a4];omega)) ?_
     rw[mS _ (AK a4 c9),<-FK (x:=(f,w)) a4];have s4:Z_ H (upd H3 I (.dK (gF (A++[(f,w)]) (y++[b])))):=bL a3 s3
     have e2:(upd H3 I (.dK (gF (A++[(f,w)]) (y++[b])))) I=_:=aD
     have c2:(upd H3 I (.dK (gF (A++[(f,w)]) (y++[b])))) M=_:=(aI (Ne.symm b3)).trans X
     have k4:=kt (u':=.dK (gF (A++[(f,w)]) (y++[b]))) ea (λws z=>nomatch z)
     have c3:=wb.keep k4
     have a8:=wr.keep k4
     have b8:=k4 _ _ hb
     generalize upd H3 I (.dK (gF (A++[(f,w)]) (y++[b])))=H4 at s4 e2 c2 c3 a8 b8 ⊢;have e4:=s4 _ _ h5
     clear k4 wb wr X ea s3 hb;left;refine Tv e4 λo=>?_;have fz:(upd H4 ah (.frz o (.dT (iE m)))) ah=_:=aD
     have f4:(iE m).length=m.length:=by unfold iE;rw[Ab]
     refine iB (n:=m.length) (λD i ys Hc=>Z_ (upd H4 ah (.frz o (.dT (iE m)))) Hc/\∃S,ys=S.map V.ref/\ZV Hc S (eT (m.take i) f)) (bG (by omega)) (λD hD=>⟨aG hD _,[],rfl,rfl,λj r w hr=>(nomatch hr)⟩) (λD i ys Hc _ r h=>⟨r.1 _ _ fz,by omega⟩) (λD ys Hc _ r=>⟨r.1 _ _ fz,f4⟩) ?_ ?_
     .rintro D L ys Hc x d A' B' hD d4 ⟨sm,S,rfl,wq⟩ W ⟨rfl,kv,b2,b5,rfl,h4⟩ c1 b9;have em:m[L]?=some m[L]:=Aa d4
      unfold iE at b5;rw[Ai,em]at b5;cases b5;have b7:d b2=some (.tup (wV m[L].1)):=h4
      have hv:cD (iE m) (dM m[L].1)=some (.str (one m[L].2)):=by
       rw[mG,qK hm.nd (w:=m[L].1) (f:=m[L].2) (Br d4)];rfl
      have tk:m.take (L+1)=m.take L++[m[L]]:=by rw[Bl,em];rfl
      rw[tk]at c1 b9;generalize m[L]=x2 at b7 hv c1 b9;left;refine⟨Wk.set rfl (Wk.refl _),?_⟩;left;refine SW (k:=dM x2.1) (.inr ⟨o,sm _ _ fz⟩) b7 hv ?_;left;rw[show decide (one x2.2=one f)=decide (x2.2=f) from uA _ _];refine fF (λhe=>?_) (λhe=>?_)
      .have b6:=Bf he
       left;refine c1 _ _ W ⟨bL hD sm,S++[b2],by rw[Aw];rfl,?_⟩
       rw[show eT (m.take L++[x2]) f=eT (m.take L) f++[x2.1] by unfold eT;rw[List.filter_append,List.map_append];simp[b6]]
       exact(wq.app (.one b7)).keep (kt W (λws z=>nomatch z))
      .have b6:=Bv (Cd.mpr he)
       left;refine b9 _ W ⟨sm,S,rfl,?_⟩;rw[show eT (m.take L++[x2]) f=eT (m.take L) f by unfold eT;rw[List.filter_append,List.map_append];simp[b6]]
       exact wq
     .rintro D ys Hc hD ⟨sm,S,rfl,wq⟩ W _;rw [Bq] at wq;have h7:H4 D=none:=by
       by_cases z:D=ah
       .rw[z,aD]at hD;cases hD
       .rw[aI z]at hD;exact hD
      have su:=pV e4 (λo v z=>nomatch z) sm
      have eu:=dO (Hs:=H4) W (λo v z=>nomatch z)
      have a9:ZV (Zk H4 Hc) S (eT m f):=wq.keep λr w h=>dO h (λo v z=>nomatch z)
      generalize Zk H4 Hc=Hu at su eu a9;have d8:=su _ _ c2
      have j9:=bP d8
      have k1:=bP eu
      have j6:M≠D:=bM c2 h7
      have j8:S.length<=56:=by rw[a9.1,SV];unfold YC;exact Bo List.countP_le_length f2
      have j7:l.length<=57:=by rw[a8.1];exact Bo (yW c.nd) (by omega)
      have j3:(l.map V.ref).length+(S.map V.ref).length<=sizeLine:=bH (by rw[Ab,Ab];omega)
      left;have kr:=kt (u':=.lst (l.map V.ref++S.map V.ref)) d8 (λws z=>nomatch z)
      have h6:=(Ae.mp R).1
      refine⟨A++[(f,w)],y++[b],l++S,_,rfl,bL c8 (s4.trans su),?_,?_,?_,?_,?_,c.snoc hm.nd c9 f8 (Ap R),?_,λj v hj hv=>?_,λg hg=>?_⟩
      .rw[aI b3];exact su _ _ e2
      .rw[Aw];exact((c3.keep λr w h=>su _ _ h).app (.one (su _ _ b8))).keep kr
      .rw[aD,Aw]
      .rw[oR];exact((a8.keep λr w h=>su _ _ h).app a9).keep kr
      .exact kr _ _ (su _ _ b8)
      .rw[oR,Ay h6];exact R
      .rw[oR,Ay (by omega)]at hv
       intro g hg;rw[Aw];exact Cm _ (C j v hj hv g hg)
      .rw[c6]at hg;rw[Aw];rcases Bs.mp hg with z|z
       .exact Cm _ (J g z)
       .rw[Aj.mp z];exact Bd _ (Aj.mpr rfl)
    .have f7:f∈A.map (·.1):=by
      rw[Bool.not_eq_true,Bool.not_eq_false']at Y;exact Bf Y
     left;refine⟨A,y,l,_,rfl,s3,ea,wb,X,wr,hb,c,R,C,λg hg=>?_⟩;rw[c6]at hg;rcases Bs.mp hg with z|z
     .exact J g z
     .rw[Aj.mp z];exact f7
  .clear c R C c7 c5 b4 b1 O a5 Z a6 X;rintro U H3 ⟨A,y,l,v2,rfl,s3,ea,wb,X,wr,hb,c,R,C,J⟩;rw[g9,Bq]at J;left;refine⟨A,y,l,_,_,rfl,s3,ea,wb,X,wr,c,(Ae.mp R).1,λj v hj hv=>?_⟩;by_cases f6:j<t
   .exact C j v f6 hv
   .have:j=t:=by omega
    subst this;rw[R]at hv;cases hv;exact J
 .have d7:=Bv (Cd.mpr Y)
  left;refine q I A y H2 a3 s2 a6 Z (c.done λw hw f hf=>?_);obtain⟨j,hj,ej⟩:=Ct.mp hw;exact C j w (by omega) (by rw[Aa hj,ej]) f hf
def Ol{w:Wt}{f:Nat}:dY (iE m) (dM w) (.str (one f))=iE (VW m w f):=by
 have e:((iE m).any λkv=>decide (kv.1=dM w))=(dJ m w).isSome:=by
  rw[fV,mG];cases dJ m w<;>rfl
 unfold dY VW;rw[e];by_cases h:(dJ m w).isSome=true
 .rw[if_pos h,if_pos h];unfold iE;rw[Bz,Bz];refine Dp λx _=>?_;show (if dM x.1=dM w then (dM x.1,V.str (one f)) else (dM x.1,V.str (one x.2)))=(λx=>(dM x.1,V.str (one x.2))) (if x.1=w then (x.1,f) else x)
  by_cases ex:x.1=w
  .rw[if_pos ex,if_pos (by rw[ex])]
  .rw[if_neg ex,if_neg (λz=>ex (qW z))]
 .rw[if_neg h,if_neg h];unfold iE;rw[Aw];rfl
inductive oH(j:List V)(H:Hp)(Q:VK)(zz3:XK):Prop|mk(i d a m first A h e:_)(_:j=[.str (one e),.ref i,.ref d])(_:H i=some (.dK (gF A h)))(_:ZV H h (A.map (·.2)))(_:Asking (Zd a) m first A)(_:H d=some (.dT (iE m)))(_:(m.map (·.1)).Nodup)(_:first∉m.map (·.1))(_:(∀v f,(v,f)∈m->f∈Zd a v))(_:e∈A.map (·.1))(_:m.length<=56)(_:∀c g,(∀b u,b≠d->H b=some u->g b=some u)->g d=some (.dT (iE c))->c.map (·.1)=m.map (·.1)++[first]->(∀v f,(v,f)∈c->f∈Zd a v)->(∀f,YC c f=YC m f+(if f=e then 1 else 0))->Q .non g):oH j H Q zz3
def o6:Z9 ["flag", "asked", "hung", "want", "given"] ["flag", "asked", "hung"] (aK kH):=by fail "sc"
def xI(F:ZR K "hang_along" "hang_along" kH f fd)(G:Gs K mg w Zt Zz Zu Zx Z0 Zv Zy Zw):Z6 P w K mg base ZP 1 f fd ["flag", "asked", "hung"] oH:=by
 refine F.ok o6 (λvs H Q E h=>?_) (λb6 A a1 s H vs Q E hr h=>?_)
 .obtain⟨aa,d,y,m,first,A,Y,W,rfl,_⟩:=h;rfl
 obtain⟨aa,d,y,m,first,A,Y,W,rfl,t,M,a,r,nd,a4,a5,a8,b3,q⟩:=h
 refine⟨_,(@aH _ _ _ (Pw Bp (aY kQ (mv 0) cF (bA _)) (@aE _ _ _ _ _ (aQ 3 o6.nd (iM (Z7.u1 hr) (mv 1) (mv 0) (λ_ _=>rfl))) (@aE _ _ _ _ _ (aQ 4 o6.nd (eW Cc Do (NX (Z7.u1 hr)) (mv 2) (aA (mv 3) aB))) (@aE _ _ _ _ _ (fN (Z7.u1 hr) (mv 2) (mv 3) (mv 0) rfl) (@aH _ _ _ (aQ 0 o6.nd (mv 4)))))))),?_⟩;have b1:Y.length=A.length:=by rw[M.1,Ab]
 have a2:aa≠d:=λz=>by rw[z,r]at t;cases t
 obtain⟨x0,a3,e0⟩:=Bg.mp a8;obtain⟨j0,a6,b2⟩:=Ct.mp a3;have ej:A[j0]?=some (W,x0.2):=by rw[Aa a6,b2,<-e0]
 left;refine ⟨λn U Z=>(E_6 λe c j w J I=>U=[some (.str (one c)),some (.ref aa),some (.ref d),J,I]/\(∀ b u,b≠d->H b=some u->Z b=some u)/\Z d=some (.dT (iE e))/\Yu (Zd y) m A W e c j w/\n=j+1)\/
     (∃C J I,U=[some .non,some (.ref aa),some (.ref d),J,I]/\(∀b u,b≠d->H b=some u->Z b=some u)/\Z d=some (.dT (iE C))/\C.map (·.1)=m.map (·.1)++[first]/\(∀v f,(v,f)∈C->f∈Zd y v)/\(∀f,YC C f=YC m f+(if f=W then 1 else 0))/\n=0),
  ⟨_,.inl ⟨m,W,j0,x0.2,none,none,rfl,λb u _ h=>h,r,⟨rfl,a5,λf=>rfl,ej,λv g i u hg _ _=>hg⟩,rfl⟩⟩,?_⟩
 rintro n U H2 (⟨e,c,j,w,J,I,rfl,T,D,B,rfl⟩|⟨C,J,I,rfl,T,D,hk,hc,a9,rfl⟩)
 .left;rw[show (!decide (V.str (one c)=V.non))=true from rfl];left;have b4:=(Ae.mp B.at_).1
  have X:Y[j]?=some (Y[j]'(by omega)):=Aa (by omega)
  have l:=M.2 j _ w X (by rw[Ai,B.at_];rfl)
  have O:=MY a.nd b1 B.at_ X
  generalize (Y[j]'(by omega))=b at l O
  have nb:b≠d:=λz=>by rw[z,r]at l;cases l
  have R:=T _ _ a2 t
  have p:=T _ _ nb l
  have N:(iE e).length<sizeLine:=by
   have:e.length=m.length:=by rw[<-Ab (f:=(·.1)) (as:=e),B.keys,Ab]
   unfold iE;rw[Ab];exact bG (by omega)
  have b5:XQ H2 d=true:=by unfold XQ;rw[D]
  refine⟨_,λU' Z h=>h,?_⟩;left;refine vE (z:=one c) (.inl R) O ?_;left;refine O8 (k:=dM w) (.inl D) p ?_;rw[mG];have S:∀o,∀b u,b≠d->H b=some u->(upd H2 d o) b=some u:=λo b u hb hu=>by rw[aI hb];exact T b u hb hu
  rcases (a.ok j c w B.at_).2 with rfl|⟨g,i,v,a7,hi,hg⟩
  .obtain⟨L,l2,l3,l4⟩:=B.last a a4;rw[L];refine SU (k:=dM w) D p N ?_;rw[Ol,show VW e w c=e++[(w,c)] by unfold VW;rw[L];rfl]
   exact⟨0,by omega,.inr ⟨e++[(w,c)],_,_,rfl,S _,aD,l2,l3,l4,rfl⟩⟩
  .obtain⟨L,l2⟩:=B.step a nd hg hi a7;rw[L];refine SU (k:=dM w) D p N ?_;rw[Ol,show VW e w c=e.map λx=>if x.1=w then (x.1,c) else x by unfold VW;rw[L];rfl]
   exact⟨i+1,by omega,.inl ⟨_,g,i,v,_,_,rfl,S _,aD,l2,rfl⟩⟩
 exact q C H2 T D hk hc a9
inductive jS(i:Addr)(j:List V)(H:Hp)(Q:VK)(zz3:XK):Prop|mk(a p q h g:_)(_:j=[.ref a,.ref p,.ref q])(_:H a=some (eP a i none))(_:Z2 H p=some h)(_:Z2 H q=some g)(_:∀d f e c,(∀b u,b≠a->H b=some u->c b=some u)->H d=none->d≠a->c a=some (eP a i (some d))->c d=some (YT d [("flags",.ref e),("wants",.ref f)])->c f=some (.lst h)->c e=some (.lst g)->H f=none->H e=none->Q .non c):jS i j H Q zz3
def A7:Z9 ["self", "wants", "flags"] ["self", "wants", "flags"] (aK mL):=by fail "sc"
def C9(F:ZR K "__init__" "Lack.__init__" mL f fd):Z6 P w K mg base ZP 1 f fd ["self", "wants", "flags"] (jS Zt):=by
 refine F.ok A7 (λvs H Q E h=>?_) (λa8 A V s H vs Q E hr h=>?_)
 .obtain⟨c,p,q,n,m,rfl,_⟩:=h;rfl
 obtain⟨c,p,q,n,m,rfl,he,hp,C,qq⟩:=h;refine⟨_,(@aE _ _ _ _ _ (cP (vJ rfl G.c_TowerError G.t1_TowerError G.t2_TowerError G.t3_TowerError (aA (mv 0) (aA (bN jC rfl G.b_list dH (aA (mv 1) aB)) (aA (bN jC rfl G.b_list dH (aA (mv 2) aB)) aB))))) (@aE _ _ _ _ _ (tZ (mv 0) (bN jC rfl G.b_list dH (aA (mv 1) aB)) rfl) (@aH _ _ _ (tZ (mv 0) (bN jC rfl G.b_list dH (aA (mv 2) aB)) rfl)))),?_⟩;left;intro l1 a3;have U:=aG a3 (.lst n)
 generalize upd H l1 (.lst n)=H1 at U ⊢;have a6:=aM U C
 left;intro l2 a2;have L:=U.trans (aG a2 (.lst m))
 generalize upd H1 l2 (.lst m)=H2 at L ⊢;have a4:=L _ _ he
 left;refine⟨c,[.ref l1,.ref l2],Zt,Zz,none,rfl,q0,a4,(λ_ z=>nomatch z),G.Yn,?_⟩
 have a7:=aM L hp
 left;intro j N;have B:=L.trans (aG N (.lst n))
 have D:(upd H2 j (.lst n)) j=_:=aD
 generalize upd H2 j (.lst n)=I at B D ⊢;have r:=B _ _ he
 left;refine⟨c,Zt,Zz,rfl,G.Yn,G.xn_Lack_wants,.inl ⟨r,λa i=>?_⟩⟩;have o:a≠c:=λz=>by rw[z,r]at i;cases i
 have t:∀b u,b≠c->H b=some u->(upd (upd I c (eP c Zt (some a))) a (YT a [("wants",.ref j)])) b=some u:=λb u hb T=>by
  have e:=B _ _ T
  rw[aI (λz=>by rw[z,i]at e;cases e),aI hb]
  exact e
 have x:(upd (upd I c (eP c Zt (some a))) a (YT a [("wants",.ref j)])) c=some (eP c Zt (some a)):=by rw[aI o.symm,aD]
 have y:(upd (upd I c (eP c Zt (some a))) a (YT a [("wants",.ref j)])) a=_:=aD
 have Y:j≠c:=λz=>by rw[z,r]at D;cases D
 have M:j≠a:=λz=>by rw[z,i]at D;cases D
 have R:(upd (upd I c (eP c Zt (some a))) a (YT a [("wants",.ref j)])) j=some (.lst n):=by rw[aI M,aI Y];exact D
 have Z:q≠c:=λz=>by rw[z]at C;unfold Z2 at C;rw[he]at C;cases C
 have a1:Z2 (upd (upd I c (eP c Zt (some a))) a (YT a [("wants",.ref j)])) q=some m:=by
  have k:=aM B C
  rwa[Tg (λz=>by rw[z]at k;unfold Z2 at k;rw[i]at k;cases k),Tg Z]
 generalize upd (upd I c (eP c Zt (some a))) a (YT a [("wants",.ref j)])=H4 at t x y R a1 ⊢;left;intro l d;have J:=aG d (.lst m)
 have e5:(upd H4 l (.lst m)) l=_:=aD
 have v:=J _ _ x
 have S:=J _ _ y
 have O:=J _ _ R
 have X:l≠a:=λz=>by rw[z,y]at d;cases d
 have W:l≠c:=λz=>by rw[z,x]at d;cases d
 have a5:H l=none:=by
  cases e:H l with
  |none=>rfl
  |some u=>rw[t _ _ W e]at d;cases d
 generalize upd H4 l (.lst m)=H5 at J e5 v S O ⊢;left;refine⟨c,Zt,Zz,rfl,G.Yn,G.xn_Lack_flags,.inr ⟨a,_,v,S,(by show 1<100;decide),?_⟩⟩
 refine qq a j l _ (λb u hb T=>?_) (none_of B i) o (by rwa[aI o.symm]) aD (by rwa[aI M]) (by rwa[aI X]) (none_of L N) a5
 have e:=J _ _ (t b u hb T)
 rwa[aI (λz=>by have q9:=B _ _ T;rw[z,i]at q9;cases q9)]
structure Zs (cws:List (List Nat)) (n:Nat->Int) (W:List Wt) (F:List Nat):Prop where
 sub:W.Sublist (wl cws)
 flags:∃p:Nat->Bool,F=ZY.cps.toList.filter p
 all:∀w∈W,∀f∈Zd cws w,f∈F
 Od:(F.map n).sum<(W.length:Int)
noncomputable def Xq(fs:List Nat)(c:Nat):Nat:=fs.countP λx=>decide (x=c)
theorem sG(g:Nat->Nat):∀L:List Nat,(L.map λc=>((g c:Nat):Int)).sum=(((L.map g).sum:Nat):Int)
 |[]=>rfl
 |c::r=>by
  rw[Ax,Dm,Ax,Dm,sG g r];omega
def CT{o:Nat->Int}{m:List (Wt×Nat)}{first:Wt}{A:List (Nat×Wt)}{fl:Nat->Option Int}{l r:List Wt}(D:wl cws=l++first::r)(E:m.map (·.1)=l)(G:∀c∈cws,c.length<=7/\∀d∈c,aZ d)(q:YI cws m)(s:first∈wl cws)(k:Xg (Zd cws) m first A)(t:∀c,aO fl c=o c-(YC m c:Int)/\0<=aO fl c)(H:∀c∈A.map (·.1),¬0<aO fl c):Zs cws o (lU m first A (wl cws)) (ZY.cps.toList.filter λc=>decide (c∈A.map (·.1))):=by
 have y:∀c∈A.map (·.1),eO c:=λc u=>by
  obtain⟨x,C,rfl⟩:=Bg.mp u;obtain⟨j,F,e⟩:=Ct.mp C;have a:A[j]?=some (x.1,x.2):=by rw[Aa F,e]
  exact OJ G (Rg q s k.toAsking a) (k.ok j _ _ a).1
 have v:∀c,c∈ZY.cps.toList.filter (λc=>decide (c∈A.map (·.1))) ↔ c∈A.map (·.1):=λc=>by
  rw[Ff,Ca];exact⟨λh=>h.2,λh=>⟨ZG.mpr (y c h),h⟩⟩
 have n:(ZY.cps.toList.filter λc=>decide (c∈A.map (·.1))).Nodup:=List.Nodup.sublist Gq (by decide)
 have i:=oW cws cws.length
 replace i:(wl cws).Nodup:=i
 refine⟨Gq,⟨_,rfl⟩,λw p f B=>?_,?_⟩
 .refine(v f).mpr ?_;have b:=(Xu.mp p).2
  by_cases e:w=first
  .subst e;exact k.all1 f B
  .cases z:dJ m w with
   |none=>rw[wB e z]at b;cases b
   |some g=>
    rw[wJ e z]at b;exact k.all w g (Oo z) (Bf b) f B
 .have L:(lU m first A (wl cws)).length=1+m.countP (λx=>decide (x.2∈A.map (·.1))):=by
   rw[D]at i ⊢;exact Kh E i
  have K:m.countP (λx=>decide (x.2∈A.map (·.1)))=m.countP (λx=>decide (x.2∈ZY.cps.toList.filter λc=>decide (c∈A.map (·.1)))):=by
   congr 1
   funext x
   exact Cu.mpr (v x.2).symm
  have J:=BH m n
  have I:(ZY.cps.toList.filter λc=>decide (c∈A.map (·.1))).map o=(ZY.cps.toList.filter λc=>decide (c∈A.map (·.1))).map λc=>((YC m c:Nat):Int):=Dp λc u=>by
   have M:=t c
   have b:=H c ((v c).mp u)
   omega
  rw[I,sG,L,K,J];omega
inductive mJ(t:Addr)(s:List V)(H:Hp)(Q:VK)(E:XK):Prop|mk(a b i f e:_)(_:s=[.ref a,.ref b])(_:Rd H a (.dK i))(_:Lk i f)(_:Z2 H b=some ((e.map aU).map V.str))(_:e.length<=8)(_:(∀c∈e,c.length<=7/\∀d∈c,aZ d))(_:(∀r l k h,H r=none->Z_ H h->h r=some (.lst (l.map V.ref))->(∀p∈l,p≠r)->ZQ H h l ((List.range e.length).map (pR e k))->k.length=(wl e).length->(∀(j:Nat) w g,(wl e)[j]?=some w->k[j]?=some g->g∈Zd e w)->(∀c,(Xq k c:Int)<=aO (bK (aO f)) c)->Q (.ref r) h))(_:(∀o n m q W F h,Z_ H h->h o=some (YT o [("flags",.ref m),("wants",.ref n)])->h n=some (.lst (q.map V.ref))->ZV h q W->h m=some (.lst ((F.map one).map V.str))->Zs e (aO (bK (aO f))) W F->H n=none->H m=none->E (.ref t) (some o) h)):mJ t s H Q E
def z7:Z9 ["locker", "words", "choices", "left", "hung", "first", "asked", "free", "wants"] ["locker", "words"] (aK eQ):=by fail "sc"
def Kz(F:ZR K "hang_all" "hang_all" eQ f fd)(j8:ZJ P w K mg base 2 "choices_of" ["words"] nY)(y4:ZJ P w K mg base 1 "plain_locker" ["locker"] cQ)(j9:ZJ P w K mg base 1 "hoists_of" ["words", "flags"] pY)(i0:ZJ P w K mg base 1 "asked_from" ["first", "choices", "hung"] oB)(i4:ZJ P w K mg base 1 "hang_along" ["flag", "asked", "hung"] oH)(wT:Wq P w K mg base 1 Zt ["self", "wants", "flags"] (jS Zt)):Z6 P w K mg base (Y3 P w) 3 f fd ["locker", "words"] (mJ Zt):=by
 refine F.W3 z7 (λvs H Q E h=>?_) (λr8 A n6 s H vs Q E hr h=>?_)
 .obtain⟨a,b,j1,f,t,rfl,_⟩:=h;rfl
 obtain⟨a,b,j1,f,t,rfl,ha,lk,hb,h8,hL,q,qe⟩:=h;refine⟨_,(@aE _ _ _ _ _ (aQ 2 z7.nd (bF j8 hr (by decide) rfl (aA (mv 1) aB))) (@aE _ _ _ _ _ (aQ 3 z7.nd (bF y4 hr (by decide) rfl (aA (mv 0) aB))) (@aE _ _ _ _ _ (@SQ _ _ 4 _ _ _ _ z7.nd (by rfl) (by exact(Or.inr rfl)) Oe (by rfl) (by fail "o")) (@aE _ _ _ _ _ (UC (cK PassesOwn.leaving rfl (qN (mv 2)) (bB (i:=5) z7.nd rfl (Or.inr rfl)) (@aE _ _ _ _ _ (aQ 6 z7.nd (bF i0 hr (by decide) rfl (aA (mv 5) (aA (mv 2) (aA (mv 4) aB))))) (@aE _ _ _ _ _ (UC (kM (i:=7) z7.nd rfl (Or.inl rfl) rfl (PZ (mv 6)) (iQ (N:=["flag", "left"]) ["locker", "words", "choices", "left", "hung", "first", "asked", "free", "wants"] (aK eQ) [none,some 3] rfl rfl rfl (λx h=>cH h) (by right)) (by right) rfl (by right) (λ_ _ _ _=>(bB (i:=0) (show List.Nodup (["flag", "left"]:List Str) by right) rfl (Or.inl rfl))) (λ_ _ _ _=>(lX (aY VS (eW Cc Do (vL (Z7.u1 hr)) (mv 1) (aA (mv 0) (aA aJ aB))) aJ (bA _)))) (λ_ _ _ _=>(mv 0)))) (@aE _ _ _ _ _ (bS (aY (Sd hr.YU) (mv 7) (bZ aB) (bA _)) (@aE _ _ _ _ _ (UC (kM (i:=8) z7.nd rfl (Or.inl rfl) rfl (qN (mv 2)) (iQ (N:=["want", "first", "asked", "hung"]) ["locker", "words", "choices", "left", "hung", "first", "asked", "free", "wants"] (aK eQ) [none,some 5,some 6,some 4] rfl rfl rfl (λx h=>cH h) (by right)) (by right) rfl (by right) (λ_ _ _ _=>(bB (i:=0) (show List.Nodup (["want", "first", "asked", "hung"]:List Str) by right) rfl (Or.inl rfl))) (λ_ _ _ _=>(lX (PW.pt (gJ (aY (J4 hr.YU) (mv 0) (mv 1) (bA _)) (gB (aY (DL (Z7.u1 hr)) (eW Cc Do (NX (Z7.u1 hr)) (mv 3) (aA (mv 0) aB)) (mv 2) (by rfl))))))) (λ_ _ _ _=>(mv 0)))) (@aH _ _ _ (nH kZ rfl rfl rfl G.YH G.XI wT hr (by decide) (aA (mv 8) (aA (dB rfl (sQ (fO rfl G.s_FLAGS)) (iQ (N:=["flag", "asked"]) ["locker", "words", "choices", "left", "hung", "first", "asked", "free", "wants"] (aK eQ) [none,some 6] rfl rfl rfl (λx h=>cH h) (by right)) (by right) rfl (by right) (λ_ _ _ _=>(bB (i:=0) (show List.Nodup (["flag", "asked"]:List Str) by right) rfl (Or.inl rfl))) (λ_ _ _ _=>(lX (aY (HU (Z7.u1 hr)) (mv 0) (mv 1) (by rfl)))) (λ_ _ _ _=>(mv 0))) aB))))) bC) (@aE _ _ _ _ _ (fN (Z7.u1 hr) (mv 3) (bJ cA (mv 7) aJ (λ_ _=>rfl)) (aV iK (iM (Z7.u1 hr) (mv 3) (bJ cA (mv 7) aJ (λ_ _=>rfl)) (λ_ _=>rfl)) aJ) rfl) (@aH _ _ _ (cP (bF i4 hr (by decide) rfl (aA (bJ cA (mv 7) aJ (λ_ _=>rfl)) (aA (mv 6) (aA (mv 4) aB)))))))))))) (@aH _ _ _ (aR (bF j9 hr (by decide) rfl (aA (mv 1) (aA (SD (dB rfl (qN (mv 2)) (iQ (N:=["want", "hung"]) ["locker", "words", "choices", "left", "hung", "first", "asked", "free", "wants"] (aK eQ) [none,some 4] rfl rfl rfl (λx h=>cH h) (by right)) (by right) rfl (by right) (λ_ _ _ _=>(bB (i:=0) (show List.Nodup (["want", "hung"]:List Str) by right) rfl (Or.inl rfl))) (λ_ _ _ _=>dP) (λ_ _ _ _=>(iM (Z7.u1 hr) (mv 1) (mv 0) (λ_ _=>rfl))))) aB))))))))),?_⟩
 have h7:∀c∈t,c.length<=7:=λc hc=>(hL c hc).1
 have r3:(wl t).length<=56:=Bo (T4 h7 _) (by omega)
 left;refine⟨b,t,rfl,hb,h8,h7,λac H1 k7 s1 q3=>?_⟩;left;refine⟨a,j1,f,rfl,ha.elim (λe=>.inl (s1 _ _ e)) (λ⟨o,e⟩=>.inr ⟨o,s1 _ _ e⟩),lk,λX H2 e7 s2 el=>?_⟩;left;intro ah c6;have s3:=s2.trans (aG c6 (.dT []))
 have f6:(upd H2 ah (.dT [])) ah=_:=aD
 have a6:=aG c6 (.dT []) _ _ el
 generalize upd H2 ah (.dT [])=H3 at s3 f6 a6 ⊢;obtain⟨ds,dl,ed,p9⟩:=q3;rw[Bq]at ed;have f7:=s3 _ _ ed
 left;refine Tv f7 λo=>?_;have fz:(upd H3 ac (.frz o (.dT (eJ (wl t) ds)))) ac=_:=aD
 have kl:(eJ (wl t) ds).length=(wl t).length:=yM dl
 have d5:ah≠ac:=λz=>by have e:=s2 _ _ ed;rw[<-z,c6]at e;cases e
 have h9:X≠ac:=λz=>by rw[z,f7]at a6;cases a6
 have h6:X≠ah:=λz=>by rw[z,f6]at a6;cases a6
 have g8:Z_ H1 H3:=s3
 have b3:H1 ah=none:=none_of s2 c6
 generalize b9:aO (bK (aO f))=n0;refine JI (λi U H'=>E_7 λm M fl v5 v6 v7 v8=>U=[some (.ref a),some (.ref b),some (.ref ac),some (.ref X),some (.ref ah),v5,v6,v7,v8]/\(∀p u,p≠ac->p≠X->p≠ah->H1 p=some u->H' p=some u)/\H' ac=some (.frz o (.dT (eJ (wl t) ds)))/\H' ah=some (.dT (iE m))/\H' X=some (.dK M)/\Lk M fl/\M.length<=27/\m.map (·.1)=(wl t).take i/\(∀v g,(v,g)∈m->g∈Zd t v)/\(∀c,aO fl c=n0 c-(YC m c:Int)/\0<=aO fl c))
  ⟨[],_,bK (aO f),_,_,_,_,rfl,λp u T h2 h3 W=>by rw[aI T];exact g8 _ _ W,fz,by rw[aI d5];exact f6,by rw[aI h9];exact a6,eU _,by unfold Zm;rw[Ab];exact iC _ _,rfl,(λv g hv=>nomatch hv),λc=>?_⟩ (λi U H' _ ⟨_,_,_,_,_,_,_,_,_,e,_⟩=>e) ?_ ?_
 .rw[b9];refine⟨by show n0 c=n0 c-((0:Nat):Int);omega,?_⟩
  rw[<-b9];show 0<=(bK (aO f) c).getD 0
  unfold bK;split
  .rename_i h;exact Int.le_of_lt h.2
  .exact Jn 0
 .rintro i kv bf U H4 C a5 ⟨m,M,fl,v5,v6,v7,v8,rfl,fr,ec,eh,Z,a7,p3,hk,e5,c4⟩;have hi:i<(wl t).length:=by rw[<-kl];exact(Ae.mp C).1
  have ew:(wl t)[i]?=some (wl t)[i]:=Aa hi
  have a2:kv=(dM (wl t)[i],V.ref (ds[i]'(by omega))):=by
   unfold eJ at C;rw[Hk,ew,Aa (show i<ds.length by omega)]at C
   exact(Bm C).symm
  rw[a2]at a5;have b8:=oW t t.length
  have c2:(wl t)[i]∈wl t:=Br hi
  have d7:(wl t).take (i+1)=(wl t).take i++[(wl t)[i]]:=by rw[Bl,ew];rfl
  have j7:(wl t)[i]∉m.map (·.1):=by
   rw[hk];intro z;obtain⟨j,hj,ej⟩:=Ct.mp z;rw[Ce]at hj;rw[List.getElem_take]at ej;have:=(Ht b8).mp ej
   omega
  have a9:m.length<=56:=by
   have e:m.length=(m.map (·.1)).length:=(Ab _).symm
   rw[e,hk,Ce];omega
  have c1:YI t m:=⟨by rw[hk];exact b8.sublist (Iy ..),λx hx=>Fo (by rw[<-hk];exact Bg.mpr ⟨x,hx,rfl⟩)⟩
  have q2:Xa H4 ac t:=⟨ds,dl,.inr ⟨o,ec⟩,λj w d hw hd=>by
   have T:=p9 j w d (Ae.mp hw).1 hw hd
   exact fr d _ (λz=>by rw[z,ed]at T;cases T) (λz=>by rw[z,e7]at T;cases T) (λz=>by rw[z,b3]at T;cases T) T⟩
  replace a5:H4 bf=some (.tup (wV (wl t)[i])):=a5
  clear a2 C;generalize (wl t)[i]=first at a5 ew c2 d7 j7
  left;refine⟨bf,ac,ah,t,m,first,rfl,a5,c2,q2,eh,c1,a9,h8,hL,λpa A bs H5 b7 s5 ea wb b2=>?_⟩
  have f4:=s5 _ _ Z
  have c5:bs.length=A.length:=by rw[wb.1,Ab]
  have r2:=Qr c1 c2 hL b2.toAsking
  have k4:=jU f4
  left;refine S9 ea λoa=>?_;have e9:(upd H5 pa (.frz oa (.dK (gF A bs)))) pa=_:=aD
  have g9:X≠pa:=λz=>by rw[z,b7]at Z;cases Z
  have m2:(upd H5 pa (.frz oa (.dK (gF A bs)))) X=_:=(aI g9).trans f4
  refine iB (n:=A.length) (λD i ys Y=>Z_ (upd H5 pa (.frz oa (.dK (gF A bs)))) Y/\ys=((((A.take i).map (·.1)).filter λc=>decide (0<aO fl c)).map one).map V.str) (bG (by omega)) (λD hD=>⟨aG hD _,rfl⟩) (λD i ys Y _ r h=>⟨r.1 _ _ e9,by rw[vT c5];exact h⟩) (λD ys Y _ r=>⟨r.1 _ _ e9,vT c5⟩) ?_ ?_
  .rintro D y ys Y x H' A' B' hD b1 ⟨sm,rfl⟩ I ⟨rfl,kv,C,rfl⟩ R a1;have eA:A[y]?=some A[y]:=Aa b1
   unfold gF at C;rw[Hk,eA,Aa (show y<bs.length by omega)]at C
   cases C;have tk:A.take (y+1)=A.take y++[A[y]]:=by rw[Bl,eA];rfl
   rw[tk,Aw,Hb]at R a1;generalize A[y]=xa at R a1;have m3:=sm _ _ m2
   have r6:=jU m3
   dsimp only[kV];left;refine⟨Wk.set rfl (Wk.refl _),?_⟩;left;refine uK (z:=one xa.1) (.inl m3) ?_;rw[a7.val xa.1,kS];left;refine fF (λhe=>?_) (λhe=>?_)
   .have k3:=Bf he
    left;refine R _ _ I ⟨bL hD sm,?_⟩;rw[show ([xa].map (·.1)).filter (λc=>decide (0<aO fl c))=[xa.1] by simp[k3],List.map_append,List.map_append]
    rfl
   .have k3:=Bv (Cd.mpr he)
    left;refine a1 _ I ⟨sm,?_⟩;rw[show ([xa].map (·.1)).filter (λc=>decide (0<aO fl c))=[] by simp;omega,List.append_nil]
  .rintro D ys Y hD ⟨sm,rfl⟩ I _;rw[Bq]at I;have su:=pV ea (λo v z=>nomatch z) sm
   have eu:=dO (Hs:=H5) I (λo v z=>nomatch z)
   refine Sr ?_;unfold VU;dsimp only;generalize Zk H5 Y=H6 at su eu ⊢;have a4:=s5.trans su
   have g1:=su _ _ ea
   have g6:ZV H6 bs (A.map (·.2)):=wb.keep λr w h=>su _ _ h
   have f8:=a4 _ _ ec
   have b4:=a4 _ _ eh
   have m5:=a4 _ _ Z
   have d4:=a4 _ _ a5
   have f2:∀p u,p≠ac->p≠X->p≠ah->H1 p=some u->H6 p=some u:=λp u T h2 h3 W=>a4 _ _ (fr p u T h2 h3 W)
   have e8:H4 D=none:=by
    have h5:H5 D=none:=by
     by_cases z:D=pa
     .rw[z,aD]at hD;cases hD
     .rw[aI z]at hD;exact hD
    exact none_of s5 h5
   clear sm I hD e9 m2 k4 f4;left;refine⟨by decide,λpe d8=>?_⟩
   refine Ux (neg:=false) (aM (aG d8 _) (aP eu)) cV (cU _) rfl ?_;have O:=aG d8 (.lst [])
   generalize upd H6 pe (.lst [])=H7 at O ⊢;have en:∀xs,mC xs []=xs.isEmpty:=λxs=>by cases xs<;>rfl
   rw[if_neg (by decide),en]
   cases c3:(A.map (·.1)).filter (λc=>decide (0<aO fl c)) with
   |nil=>
    rw[c3]at eu;rw[show (List.map V.str (List.map one [])).isEmpty=true from rfl];have b5:=O _ _ f8
    have f5:=O _ _ b4
    have d1:=O _ _ g1
    have k6:=O _ _ d4
    have q6:∀p u,p≠ac->p≠X->p≠ah->H1 p=some u->H7 p=some u:=λp u T h2 h3 W=>O _ _ (f2 p u T h2 h3 W)
    clear eu g6 d8 O f2 fr f8 b4 g1 d4 m5 su e8 a4 b7 s5 ea wb Z g9;left;refine IF b5 ?_;refine iB (n:=(wl t).length) (λD i ys Y=>Z_ H7 Y/\∃rs,ys=rs.map V.ref/\ZV Y rs (lU m first A ((wl t).take i))) (bG (by omega)) (λD hD=>⟨aG hD _,[],rfl,rfl,λj r w hr=>nomatch hr⟩) (λD i ys Y _ r h=>⟨r.1 _ _ b5,by rw[kl];exact h⟩) (λD ys Y _ r=>⟨r.1 _ _ b5,kl⟩) ?_ ?_
    .rintro D y ys Y x H' A' B' hD b1 ⟨sm,rs,rfl,a8⟩ I ⟨rfl,kv,bk,C,rfl,S⟩ R a1;have a3:(wl t)[y]?=some (wl t)[y]:=Aa b1
     have a2:kv=(dM (wl t)[y],V.ref (ds[y]'(by omega))):=by
      unfold eJ at C;rw[Hk,a3,Aa (show y<ds.length by omega)]at C
      exact(Bm C).symm
     rw[a2]at S;replace S:H' bk=some (.tup (wV (wl t)[y])):=S
     have tk:(wl t).take (y+1)=(wl t).take y++[(wl t)[y]]:=by rw[Bl,a3];rfl
     rw[tk]at R a1;clear a2 C a3 tk;generalize (wl t)[y]=wx at S R a1;have c8:=sm _ _ f5
     have m9:=sm _ _ d1
     have p8:=sm _ _ k6
     have g4:lB m first A wx=true->A' (.ref bk) H':=λhb=>by
      refine R _ _ I ⟨bL hD sm,rs++[bk],by rw[Aw];rfl,?_⟩
      rw[uJ,hb,if_pos rfl];refine ZV.keep (a8.app (.one S)) λr w h=>?_;rw[aI (λz=>by rw[z,I]at h;cases h)]
      exact h
     have no:lB m first A wx=false->B' H':=λhb=>by
      refine a1 _ I ⟨sm,rs,rfl,?_⟩;rw[uJ,hb,if_neg (by decide),Be]
      exact a8
     clear R a1;left;refine⟨Wk.set rfl (Wk.refl _),?_⟩;left;refine HR S p8 ?_;have q1:decide ((wx.1:Int)=(first.1:Int)/\(wx.2:Int)=(first.2:Int))=decide (wx=first):=Cu.mpr ⟨λh=>Prod.ext (by omega) (by omega),λh=>by rw[h];exact⟨rfl,rfl⟩⟩
     rw[q1];by_cases e:wx=first
     .rw[An e];left;exact g4 (IQ e)
     .rw[As e];have r5:XQ H' ah=true:=by unfold XQ;rw[c8]
      left;refine O8 (k:=dM wx) (.inl c8) S ?_;rw[mG];cases eg:dJ m wx with
      |none=>
       refine Kt (.inl m9) ?_;left;exact no (wB e eg)
      |some g=>
       have j4:=wJ (A:=A) e eg
       refine C5 (z:=one g) (.inl m9) ?_;rw[mZ c5];refine fF (λhg=>?_) (λhg=>?_)
       .left;exact g4 (j4.trans hg)
       .left;exact no (j4.trans (Cd.mpr hg))
    .rintro D ys Y hD ⟨sm,rs,rfl,a8⟩ I _;rw[Bq]at a8;have su:=LO sm
     have eu:=dO (Hs:=H7) I (λo v z=>nomatch z)
     have j2:ZV (Zk H7 Y) rs (lU m first A (wl t)):=a8.keep λr w h=>dO h λo v z=>nomatch z
     refine Sr ?_;unfold VU;dsimp only;generalize Zk H7 Y=H8 at su eu j2 ⊢;have c9:=su _ _ d1
     left;refine zy (λc=>if decide (c∈A.map (·.1))=true then some (.str (one c)) else none) (by decide) (λi3 c r9 A' B' hc n5 R=>?_) (λD2 H9 r7 s9 j3=>?_)
     .have r:=R _ (Z_.refl _)
      left;refine⟨Wk.set rfl (Wk.refl _),?_⟩;left;refine Qe (z:=one c) (neg:=false) (.inl (n5 _ _ c9)) ?_;rw[if_neg (by decide),mZ c5]
      refine fF (λhg=>?_) (λhg=>?_)
      .rw[if_pos hg]at r;left;exact r
      .rw[if_neg hg]at r;exact r
     .have ef:(Str.ofString "abcdefghijklmnopqrstuvw1234").cps.toList.filterMap (λc=>if decide (c∈A.map (·.1))=true then some (V.str (one c)) else none)=((ZY.cps.toList.filter λc=>decide (c∈A.map (·.1))).map one).map V.str:=by
       rw[show "abcdefghijklmnopqrstuvw1234"=ZY from rfl];generalize ZY.cps.toList=L;induction L with
       |nil=>rfl
       |cons c r ih=>
        rw[Fy,Hv];by_cases hg:decide (c∈A.map (·.1))=true
        .rw[if_pos hg,if_pos hg,Ax,Ax,<-ih]
        .rw[if_neg hg,if_neg hg,<-ih]
      rw[ef]at j3;have q8:=s9 _ _ eu
      left;refine⟨q0,λea e6=>⟨ea,D,D2,_,_,rfl,aD,aM (aG e6 _) (aP q8),aM (aG e6 _) (aP j3),λdx l1 l2 H' q5 r4 n9 e1 e2 e3 e4 j6 j5=>⟨rfl,some dx,e1,?_⟩⟩⟩
      have n1:l1≠ea:=λz=>by rw[z,e1]at e3;cases e3
      have n2:l2≠ea:=λz=>by rw[z,e1]at e4;cases e4
      have k8:∀b u,H9 b=some u->(del H' ea) b=some u:=λb u W=>by
       have nb:b≠ea:=λz=>by rw[z,e6]at W;cases W
       rw[eG nb];exact q5 b u nb (by rw[aI nb];exact W)
      have d6:∀b u,H b=some u->H9 b=some u:=λb u W=>by
       refine s9 _ _ (su _ _ (q6 b u (λz=>by rw[z,k7]at W;cases W) (λz=>?_) (λz=>?_) (s1 _ _ W)))
       .have:=s1 _ _ W
        rw[z,e7]at this;cases this
       .have:=s1 _ _ W
        rw[z,b3]at this;cases this
      refine qe dx l1 l2 rs _ _ (del H' ea) (λb u W=>k8 _ _ (d6 b u W)) ((eG n9).trans e2) ((eG n1).trans e3) (j2.keep λr w h=>k8 _ _ (s9 _ _ h)) ((eG n2).trans e4) ?_ (none_of d6 (by rw[aI n1]at j6;exact j6)) (none_of d6 (by rw[aI n2]at j5;exact j5))
      .rw[b9];refine CT (l:=(wl t).take i) (r:=(wl t).drop (i+1)) (fl:=fl) ?_ hk hL c1 c2 b2 c4 (λc hc=>?_)
       .have e:=Hj (i+1) (wl t)
        rw[d7,Gi]at e;exact e.symm
       .have:=List.filter_eq_nil_iff.mp c3 c hc
        rw[Ca]at this;exact this
   |cons J f3=>
    rw[c3]at eu;rw[show (List.map V.str (List.map one (J::f3))).isEmpty=false from rfl];have d3:J∈(A.map (·.1)).filter (λc=>decide (0<aO fl c)):=by rw[c3];exact Al
    rw[Ff,Ca]at d3;obtain⟨k2,k1⟩:=d3;obtain⟨n1,d9⟩:∃n1,fl J=some n1:=by
     cases e:fl J with
     |none=>rw[show aO fl J=0 by unfold aO;rw[e];rfl]at k1;omega
     |some n=>exact⟨n,rfl⟩
    have r1:aO fl J=n1:=by unfold aO;rw[d9];rfl
    have c7:=O _ _ m5
    have d1:=O _ _ g1
    have f5:=O _ _ b4
    have b5:=O _ _ f8
    have g2:=O _ _ eu
    have n4:ZV H7 bs (A.map (·.2)):=g6.keep λr w h=>O _ _ h
    have q9:=jU c7
    have g3:YQ (List.map V.str (List.map one (J::f3))) 0=some (V.str (one J)):=bO (show (List.map V.str (List.map one (J::f3)))[0]?=some (V.str (one J)) from rfl)
    left;refine eY (aP g2) (v:=.str (one J)) g3 ?_;left;refine vE (z:=one J) (.inl c7) (by rw[a7.val J,d9];rfl) ?_
    left;refine eY (aP g2) (v:=.str (one J)) g3 ?_;left;refine iL (z:=one J) c7 (bG (by omega)) ?_
    have p2:D≠X:=λz=>by rw[z]at e8;rw[e8]at Z;cases Z
    have n7:pa≠X:=λz=>by rw[z]at b7;rw[b7]at Z;cases Z
    have n8:ah≠X:=Ne.symm h6
    have p1:ac≠X:=Ne.symm h9
    have m4:(upd H7 X (.dK (dY M (Sum.inr (one J)) (V.int (n1-1))))) X=_:=aD
    have c9:(upd H7 X (.dK (dY M (Sum.inr (one J)) (V.int (n1-1))))) pa=_:=(aI n7).trans d1
    have m6:(upd H7 X (.dK (dY M (Sum.inr (one J)) (V.int (n1-1))))) ah=_:=(aI n8).trans f5
    have m8:(upd H7 X (.dK (dY M (Sum.inr (one J)) (V.int (n1-1))))) ac=_:=(aI p1).trans b5
    have n3:(upd H7 X (.dK (dY M (Sum.inr (one J)) (V.int (n1-1))))) D=_:=(aI p2).trans g2
    have g5:ZV (upd H7 X (.dK (dY M (Sum.inr (one J)) (V.int (n1-1))))) bs (A.map (·.2)):=n4.keep λr w h=>by
     rw[aI (λz=>by rw[z,c7]at h;cases h)]
     exact h
    have m1:∀p u,p≠ac->p≠X->p≠ah->H1 p=some u->(upd H7 X (.dK (dY M (Sum.inr (one J)) (V.int (n1-1))))) p=some u:=λp u T h2 h3 W=>by
     rw[aI h2];exact O _ _ (f2 p u T h2 h3 W)
    generalize upd H7 X (.dK (dY M (Sum.inr (one J)) (V.int (n1-1))))=H8 at m4 c9 m6 m8 n3 g5 m1 ⊢;left;refine eY (aP n3) (v:=.str (one J)) g3 ?_;left;refine⟨pa,ah,t,m,first,A,bs,J,rfl,c9,g5,b2.toAsking,m6,c1.nd,j7,e5,k2,a9,λm' H9 f1 q7 p7 q4 k5=>?_⟩
    left;refine⟨m',_,_,_,_,_,_,rfl,λp u T h2 h3 W=>f1 p u h3 (m1 p u T h2 h3 W),f1 _ _ (Ne.symm d5) m8,q7,f1 _ _ h6 m4,a7.put J (n1-1),?_,?_,q4,λc=>?_⟩
    .have hv:cD M (Sum.inr (one J))≠none:=by rw[a7.val J,d9];exact λz=>nomatch z
     have e:=Dk List.length (N3 M (Sum.inr (one J)) (.int (n1-1)) hv)
     rw[Ab,Ab]at e;omega
    .rw[p7,hk,d7]
    .have T:=c4 c
     have h2:=k5 c
     have h3:aO (λd=>if d=J then some (n1-1) else fl d) c=if c=J then n1-1 else aO fl c:=by
      show ((if c=J then some (n1-1) else fl c):Option Int).getD 0=_
      by_cases z:c=J
      .rw[if_pos z,if_pos z];rfl
      .rw[if_neg z,if_neg z];rfl
     rw[h3];by_cases z:c=J
     .subst z;rw[if_pos rfl]at h2 ⊢;omega
     .rw[if_neg z]at h2 ⊢;omega
 .rintro U H4 ⟨m,M,fl,v5,v6,v7,v8,rfl,fr,ec,eh,Z,a7,p3,hk,e5,c4⟩;rw[kl,Bq]at hk;have f9:=uF (Hs:=H3) ec (λo v z=>by rw[f7]at z;cases z)
  have m7:=dO (Hs:=H3) eh (λo v z=>nomatch z)
  have g7:Z_ H (Zk H3 H4):=λb u W=>by
   have T:=s1 _ _ W
   have h4:=fr b u (λz=>by rw[z,k7]at W;cases W) (λz=>by rw[z,e7]at T;cases T) (λz=>by rw[z,b3]at T;cases T) T
   by_cases hf:∃o v,u=.frz o v
   .obtain⟨o',v',rfl⟩:=hf;exact nJ h4 (g8 _ _ T)
   .exact dO h4 λo v z=>hf ⟨o,v,z⟩
  unfold VU;dsimp only;generalize Zk H3 H4=H5 at f9 m7 g7 ⊢;have a9:m.length=(wl t).length:=by rw[<-hk,Ab]
  have b8:(m.map (·.1)).Nodup:=by rw[hk];exact oW t t.length
  left;refine Tv f9 λo2=>?_;have k9:(upd H5 ac (.frz o2 (.dT (eJ (wl t) ds)))) ac=_:=aD
  have b4:(upd H5 ac (.frz o2 (.dT (eJ (wl t) ds)))) ah=_:=(aI d5).trans m7
  refine iB (n:=(wl t).length) (λD i ys Y=>Z_ (upd H5 ac (.frz o2 (.dT (eJ (wl t) ds)))) Y/\ys=(((m.take i).map (·.2)).map one).map V.str) (bG (by omega)) (λD hD=>⟨aG hD _,rfl⟩) (λD i ys Y _ r h=>⟨r.1 _ _ k9,by rw[kl];exact h⟩) (λD ys Y _ r=>⟨r.1 _ _ k9,kl⟩) ?_ ?_
  .rintro D y ys Y x H' A' B' hD b1 ⟨sm,rfl⟩ I ⟨rfl,kv,bk,C,rfl,S⟩ R a1;have a3:(wl t)[y]?=some (wl t)[y]:=Aa b1
   have a2:kv=(dM (wl t)[y],V.ref (ds[y]'(by omega))):=by
    unfold eJ at C;rw[Hk,a3,Aa (show y<ds.length by omega)]at C
    exact(Bm C).symm
   rw[a2]at S;have em:m[y]?=some m[y]:=Aa (by omega)
   have e1:m[y].1=(wl t)[y]:=by
    have e0:(m.map (·.1))[y]?=some (wl t)[y]:=by rw[hk];exact a3
    rw[Ai,em]at e0;exact Bm e0
   have tk:m.take (y+1)=m.take y++[m[y]]:=by rw[Bl,em];rfl
   rw[tk]at R;replace S:H' bk=some (.tup ((dM m[y].1).map kV)):=by rw[e1];exact S
   have d2:cD (iE m) (dM m[y].1)=some (.str (one m[y].2)):=by
    have p5:(m[y].1,m[y].2)∈m:=Ap em
    rw[mG,qK b8 p5];rfl
   clear a2 C a3 tk e1 em;generalize m[y]=mx at S R d2;have c8:=sm _ _ b4
   left;refine⟨Wk.set rfl (Wk.refl _),?_⟩;left;refine SW (k:=dM mx.1) (.inl c8) S d2 ?_;refine R _ _ I ⟨bL hD sm,?_⟩;rw[Aw,Aw,Aw];rfl
  .rintro D ys Y hD ⟨sm,rfl⟩ I _;rw[<-a9,Bq]at I;have su:=pV f9 (λo v z=>nomatch z) sm
   have eu:=dO (Hs:=H5) I (λo v z=>nomatch z)
   generalize Zk H5 Y=H6 at su eu ⊢;have b6:=g7.trans su
   refine⟨b,D,t,m.map (·.2),rfl,aM b6 hb,aP eu,h8,h7,λr ps H7 hr s7 er p4 p6=>?_⟩;refine q r ps (m.map (·.2)) H7 (none_of b6 hr) (b6.trans s7) er p4 (p6.Yd b6) (by rw[Ab,a9]) (λj w g hw hg=>?_) (λc=>?_)
   .rw[<-hk,Ai]at hw;rw[Ai]at hg;cases em:m[j]? with
    |none=>rw[em]at hw;cases hw
    |some x=>
     rw[em]at hw hg;cases hw;cases hg;exact e5 x.1 x.2 (Ap em)
   .rw[b9];have T:=c4 c
    have h2:Xq (m.map (·.2)) c=YC m c:=by
     unfold Xq YC;rw[List.countP_map];rfl
    rw[h2];omega
def Xw(n:Nat->Int)(cws:List (List Nat)):Prop:=∃a,a.length=(wl cws).length/\(∀(j:Nat) w g,(wl cws)[j]?=some w->a[j]?=some g->g∈Zd cws w)/\∀c,(Xq a c:Int)<=n c
theorem Q0(x:Nat):∀ {F:List Nat},F.Nodup->(F.map λc=>if x=c then 1 else 0).sum=if x∈F then 1 else 0
 |[],_=>rfl
 |c::r,h=>by
  have a:=Co.mp h
  rw[Ax,Dm,Q0 x a.2];grind
theorem RV(g h:Nat->Nat):∀F:List Nat,(F.map λc=>g c+h c).sum=(F.map g).sum+(F.map h).sum
 |[]=>rfl
 |c::r=>by
  rw[Ax,Dm,RV g h r,Ax,Dm,Ax,Dm];omega
theorem Sk(a:F.Nodup):∀b,(F.map (Xq b)).sum=b.countP λx=>decide (x∈F)
 |[]=>by
  have:∀F:List Nat,(F.map (Xq [])).sum=0:=λF=>by
   induction F with
   |nil=>rfl
   |cons c r d=>rw[Ax,Dm,d];rfl
  rw[this];rfl
 |x::r=>by
  have e:Xq (x::r)=λc=>Xq r c+if x=c then 1 else 0:=by
   funext c
   unfold Xq;grind
  rw[e,RV,Sk a r,Q0 x a,Fa];grind
theorem wC{p:α->Bool}{q:β->Bool}:∀(L:List α) (M:List β),L.length=M.length->(∀(j:Nat) a b,L[j]?=some a->M[j]?=some b->p a=true->q b=true)->L.countP p<=M.countP q
 |[],_,_,_=>Ci _
 |a::L,[],h,_=>by cases h
 |a::L,b::M,h,hpq=>by
  rw[Fa,Fa];have g:=wC L M (by simpa using h) λj x y e d=>hpq (j+1) x y e d
  have f:=hpq 0 a b rfl rfl
  by_cases c:p a=true
  .rw[if_pos c,if_pos (f c)];omega
  .rw[if_neg c];omega
theorem Ql{g h:Nat->Int}(e:∀c,g c<=h c):∀F:List Nat,(F.map g).sum<=(F.map h).sum
 |[]=>Jn _
 |c::r=>by
  rw[Ax,Dm,Ax,Dm];have:=Ql e r
  grind
def BB{W L:List Wt}(s:W.Sublist L):W.length<=L.countP λw=>decide (w∈W):=by
 have h:=s.countP_le (p:=λw=>decide (w∈W))
 have e:W.countP _=W.length:=List.countP_eq_length.mpr λw a=>An a
 omega
def Nj{n:Nat->Int}{W:List Wt}(h:Zs cws n W F):F.Nodup:=by
 obtain⟨p,rfl⟩:=h.flags;exact List.Nodup.sublist Gq (by decide)
def O3{n:Nat->Int}{W:List Wt}(h:Zs cws n W F):¬Xw n cws:=by
 rintro⟨fs,hl,hch,hct⟩;have k:=BB h.sub
 have i:=wC _ _ hl.symm λj w g a c b=>An (h.all w (Bf b) g (hch j w g a c))
 have f:=Sk (Nj h) fs
 have d:=Ql hct F
 rw[sG _ F]at d;have e:=h.Od
 omega
inductive wI(l:List V)(H:Hp)(Q:VK)(zz3:XK):Prop|mk(a b h f e:_)(_:l=[.ref a,.ref b])(_:Rd H a (.dK h))(_:Lk h f)(_:Z2 H b=some ((e.map aU).map V.str))(_:e.length<=8)(_:(∀c∈e,c.length<=7/\∀d∈c,aZ d))(_:(Xw (aO (bK (aO f))) e->∀g,Z_ H g->Q .non g))(_:(∀t j i k W F g,Z_ H g->H t=none->g t=some (.tup [.ref j,.ref i])->g j=some (.lst (k.map V.ref))->ZV g k W->g i=some (.lst ((F.map one).map V.str))->Zs e (aO (bK (aO f))) W F->H j=none->H i=none->Q (.ref t) g)):wI l H Q zz3
def Px:Z9 ["locker", "words", "lack"] ["locker", "words"] (aK rN):=by fail "sc"
def KG(F:ZR K "lack_of" "lack_of" rN f fd)(w4:lY P w K mg base 3 "hang_all" ["locker", "words"] (mJ Zt)):Z6 P w K mg base ZP 4 f fd ["locker", "words"] wI:=by
 refine F.ok Px (λvs H Q E h=>?_) (λcdv A outer s H vs Q E hr h=>?_)
 .obtain⟨a,b,kvs,f,cws,rfl,_⟩:=h;rfl
 obtain⟨a,b,kvs,f,cws,rfl,ha,lk,hb,h8,hL,q1,q2⟩:=h;refine⟨_,(@aE _ _ _ _ _ (JC (i:=2) rfl rfl rfl Px.nd rfl rfl rfl G.YH (λy3 R=>(@aH _ _ _ (cP (Oc w4 (oX rfl) hr (by decide) rfl (aA (mv 0) (aA (mv 1) aB)))))) (λy3 ea=>(@aH _ _ _ (aR (gI (aA (Q8 (K:=K) rfl (mv 2) rfl) (aA (Q8 (K:=K) rfl (mv 2) rfl) aB))))))) (@aH _ _ _ (aR cF))),?_⟩
 refine⟨a,b,kvs,f,cws,rfl,ha,lk,hb,h8,hL,λrh ps fs H1 hrh s1 er hne hls hfl hch hct=>?_,λdx l1 l2 rs W F H1 s1 ed el1 hwt el2 hlo hn1 hn2=>⟨G.X0,λea hea=>?_⟩⟩
 exact q1 ⟨fs,hfl,hch,hct⟩ _ s1
 .have k2:=aG hea (jX ea (.ref Zt) (some dx))
  have e2:(upd H1 ea (jX ea (.ref Zt) (some dx))) ea=_:=aD
  have ed2:=k2 _ _ ed
  refine⟨ea,Zt,dx,_,_,rfl,.inl e2,ed2,G.Y0,G.xn_Lack_wants,rfl,?_⟩;refine⟨ea,Zt,dx,_,_,rfl,.inl e2,ed2,G.Y0,G.xn_Lack_flags,rfl,?_⟩;refine⟨q0,λt ht=>?_⟩
  have s3:=k2.trans (aG ht (.tup [.ref l1,.ref l2]))
  exact q2 t l1 l2 rs W F _ (s1.trans s3) (none_of (s1.trans k2) ht) aD (s3 _ _ el1) ⟨hwt.1,λj p w hp hw=>s3 _ _ (hwt.2 j p w hp hw)⟩ (s3 _ _ el2) hlo hn1 hn2
def uE{x:V}(h:(ks.map λk=>V.int ((k:Nat):Int))[j]?=some x):∃k,ks[j]?=some k/\x=.int ((k:Nat):Int):=by
 rw[Ai]at h;cases e:ks[j]? with
 |none=>rw[e]at h;cases h
 |some k=>rw[e]at h;cases h;exact⟨k,rfl,rfl⟩
noncomputable def cN:List Nat->Nat->List (List Nat)
 |_,0=>[[]]
 |ks,m+1=>(List.range ks.length).flatMap λj=>(cN (ks.drop (j+1)) m).map λl=>ks.getD j 0::l
def kN(ks:List Nat):cN ks 0=[[]]:=by cases ks<;>rfl
def kG(ks:List Nat)(m:Nat):cN ks (m+1)=(List.range ks.length).flatMap λj=>(cN (ks.drop (j+1)) m).map λl=>ks.getD j 0::l:=by rw[cN]
theorem PD{x:Nat}{l:List Nat}:∀ {a:List Nat},(x::l).Sublist a->∃j,j<a.length/\a.getD j 0=x/\l.Sublist (a.drop (j+1))
 |[],h=>by cases h
 |k::a,h=>by
  rcases List.sublist_cons_iff.mp h with e|⟨r,e,b⟩
  .obtain⟨j,f,d,c⟩:=PD e;exact⟨j+1,Nat.succ_lt_succ f,d,c⟩
  .cases e;exact⟨0,Jo _,rfl,b⟩
theorem ZI:∀ {m:Nat} {a l:List Nat},l∈cN a m ↔ l.Sublist a/\l.length=m
 |0,a,l=>by
  rw[kN,Aj];constructor
  .rintro rfl;exact⟨List.nil_sublist _,rfl⟩
  .exact λh=>Gx h.2
 |m+1,a,l=>by
  rw[kG,Hz];constructor
  .rintro⟨j,hj,hl⟩;rw[Bh]at hj;obtain⟨g,f,rfl⟩:=Bg.mp hl;obtain⟨c,d⟩:=ZI.mp f;refine⟨?_,by rw[Az,d]⟩
   have e:a.getD j 0::a.drop (j+1)=a.drop j:=by
    rw[Ad,Aa hj];exact(Ia hj).symm
   have b:(a.getD j 0::g).Sublist (a.getD j 0::a.drop (j+1)):=c.cons_cons _
   rw[e]at b;exact b.trans (List.drop_sublist _ _)
  .rintro⟨f,c⟩;cases l with
   |nil=>cases c
   |cons x l=>
    obtain⟨j,d,b,i⟩:=PD f;exact⟨j,List.mem_range.mpr d,List.mem_map.mpr ⟨l,ZI.mpr ⟨i,by simpa using c⟩,by rw[b]⟩⟩
theorem rZ(f:α->List β)(b:Nat):∀(L:List α),(∀x∈L,(f x).length<=b)->(L.flatMap f).length<=L.length*b
 |[],_=>Ci _
 |x::r,h=>by
  rw[Hm,Ak,Az,Nat.succ_mul];have d:=rZ f b r λy a=>h y (Ao _ a)
  grind
theorem jG:∀ {m:Nat} {a:List Nat},a.length<=6->(cN a m).length<=6^m
 |0,a,_=>by rw[kN];decide
 |m+1,a,h=>by
  refine Bo (rZ _ (6^m) _ λj _=>?_) ?_
  .rw[Ab];exact jG (by grind)
  .rw[Bw,Nat.pow_succ,Nat.mul_comm];exact Nat.mul_le_mul_left _ h
def DM(ks:List Nat)(j:Nat):(ks.map λk=>V.int ((k:Nat):Int)).drop j=((ks.drop j).map λk=>V.int ((k:Nat):Int)):=(List.map_drop ..).symm
def JO:rO xs (some ((k:Nat):Int)) none=xs.drop k:=by
 show (xs.drop (if ((k:Nat):Int)<0 then (((k:Nat):Int)+(xs.length:Int)).toNat else min (_:Int).toNat xs.length)).take (xs.length-(if ((k:Nat):Int)<0 then (((k:Nat):Int)+(xs.length:Int)).toNat else min (_:Int).toNat xs.length))=_
 rw[if_neg (by omega),Cr]
 by_cases h:k<=xs.length
 .rw[Nat.min_eq_left h,Cz (by simp_all)]
 .rw[Jj (by omega),List.drop_length,List.take_nil,List.drop_eq_nil_of_le (by omega)]
noncomputable def rW(ks:List Nat)(m i:Nat):List (List Nat):=(List.range i).flatMap λj=>(cN (ks.drop (j+1)) m).map λl=>ks.getD j 0::l
def zx(ks:List Nat)(m i:Nat):rW ks m (i+1)=rW ks m i++(cN (ks.drop (i+1)) m).map λl=>ks.getD i 0::l:=by
 unfold rW;rw[Bx,Gp,Hm,List.flatMap_nil,Be]
def JD(h:m<=7):6^m<=279936:=Bo (Nat.pow_le_pow_right (by decide) h) (by decide)
def B7{m i:Nat}(h:ks.length<=6):(rW ks m i).length<=i*6^m:=by
 have:=rZ (λj=>(cN (ks.drop (j+1)) m).map λl=>ks.getD j 0::l) _ (List.range i) λj _=>by
  rw[Ab];exact jG (by rw[Dr];omega)
 rwa [Bw]at this
def SR{ps:List Addr}{x:V}(h:(ps.map V.ref)[j]?=some x):∃p,ps[j]?=some p/\x=.ref p:=by
 rw[Ai]at h;cases e:ps[j]? with
 |none=>rw[e]at h;cases h
 |some p=>rw[e]at h;cases h;exact⟨p,rfl,rfl⟩
def Mg(k:Nat)(L:Q6):(List.range L.length).map (λj=>V.int ((k:Nat):Int)::((L.getD j []).map λk=>V.int ((k:Nat):Int)))=(L.map λl=>k::l).map λl=>(l.map λk=>V.int ((k:Nat):Int)):=by
 rw[Bz];have h:∀n,n<=L.length->(List.range n).map (λj=>V.int ((k:Nat):Int)::((L.getD j []).map λk=>V.int ((k:Nat):Int)))=(L.take n).map ((λl=>(l.map λk=>V.int ((k:Nat):Int))) ∘ λl=>k::l):=λn=>by
  induction n with
  |zero=>intro _;rfl
  |succ n a=>
   intro b;have e:L[n]?=some L[n]:=Aa (by omega)
   rw[Bx,Aw,a (by omega),Bl,e,Aw]
   grind
 have r:=h L.length (Ah _)
 rwa [Bq]at r
def cR(n:Nat):Sp:=λe H Q _=>∃b d m,e=[.ref b,.int ((m:Nat):Int)]/\Z2 H b=some (d.map λk=>V.int ((k:Nat):Int))/\d.length<=6/\m<n/\m<=7/\
 ∀r c a,H r=none->Z_ H a->a r=some (.lst (c.map V.ref))->ZQ H a c ((cN d m).map λl=>(l.map λk=>V.int ((k:Nat):Int)))->(∀p∈c,p≠r)->Q (.ref r) a
def sK:∀a H Q E,¬cR 0 a H Q E:=λa H Q E ⟨_,_,_,_,_,_,h,_⟩=>Eu _ h
def o7:Z9 ["numbers", "many", "lists", "at", "number", "behind"] ["numbers", "many"] (aK dL):=by fail "sc"
def tT(F:ZR K "rising_lists" "rising_lists" dL f fd)(o4:ZJ P w K mg base (d+1) "rising_lists" ["numbers", "many"] (cR n)):Z6 P w K mg base ZP (d+2) f fd ["numbers", "many"] (cR (n+1)):=by
 refine F.ok o7 (λvs H Q E h=>?_) (λcdv A outer s H vs Q E hr h=>?_)
 .obtain⟨b,ks,m,rfl,_⟩:=h;rfl
 obtain⟨b,ks,m,rfl,hb,h6,hmn,h7,q⟩:=h;refine⟨_,(@aE _ _ _ _ _ (bS (aY lG (mv 1) aJ (bA _)) (@aH _ _ _ (aR (bZ (aA (bZ aB) aB)))) bC) (@aE _ _ _ _ _ (aQ 2 o7.nd (bZ aB)) (@aE _ _ _ _ _ (cK Bp rfl (kK rfl G.b_enumerate (aA (mv 0) aB)) (eC (K:=K) (i:=3) (j:=4) (by rfl) (by rfl) o7.nd (by rfl) (by exact(Or.inl rfl)) (by exact Or.inl rfl) (by rfl) (by exact(Or.inr rfl)) (by exact Or.inl rfl)) (@aE _ _ _ _ _ (aQ 5 o7.nd (bF o4 hr (Ah _) rfl (aA (qH Se (mv 0) (kI (aV cE (mv 3) aJ)) zc) (aA (aV iK (mv 1) aJ) aB)))) (@aH _ _ _ (cP (cX Cq Fk Fl Vp (mv 2) (aA (dB rfl (dD (mv 5)) (iQ (N:=["rest", "number"]) ["numbers", "many", "lists", "at", "number", "behind"] (aK dL) [none,some 4] rfl rfl rfl (λx h=>cH h) (by right)) (by right) rfl (by right) (λ_ _ _ _=>(bB (i:=0) (show List.Nodup (["rest", "number"]:List Str) by right) rfl (Or.inl rfl))) (λ_ _ _ _=>dP) (λ_ _ _ _=>(aV cE (bZ (aA (mv 1) aB)) (mv 0)))) aB)))))) (@aH _ _ _ (aR (mv 2)))))),?_⟩
 cases m with
 |zero=>
  left;rw[show decide (((0:Nat):Int)=0)=true from rfl];left;refine⟨by decide,λp hp=>?_⟩
  have s1:=aG hp (.lst [])
  have e1:(upd H p (.lst [])) p=some (.lst ((([]:List Nat)).map λk=>V.int ((k:Nat):Int))):=aD
  generalize upd H p (.lst [])=H1 at s1 e1 ⊢;left;refine⟨r0,λr hr=>?_⟩
  have s2:=aG hr (.lst [.ref p])
  have npr:p≠r:=λz=>by rw[z,hr]at e1;cases e1
  refine q r [p] _ (none_of s1 hr) (s1.trans s2) aD ?_ (λz hz=>by rw[Aj.mp hz];exact npr)
  rw[kN];exact ZQ.snoc (ps:=[]) (fs:=[]) .nil hp (s2 _ _ e1)
 |succ m=>
  have h6m:=JD (m:=m+1) h7
  rw[Nat.pow_succ]at h6m;left;rw[show decide (((m+1:Nat):Int)=0)=false from As (by omega)]
  left;refine⟨by decide,λp hp=>?_⟩
  have s1:=aG hp (.lst [])
  have e1:(upd H p (.lst [])) p=some (.lst (([]:List Addr).map V.ref)):=aD
  generalize upd H p (.lst [])=H1 at s1 e1 ⊢;have hb1:=aM s1 hb
  left;refine kD (xs:=(ks.map λk=>V.int ((k:Nat):Int))) (λi U H'=>E_4 λps v3 v4 v5=>U=[some (.ref b),some (.int ((m+1:Nat):Int)),some (.ref p),v3,v4,v5]/\Z_ H H'/\H' p=some (.lst (ps.map V.ref))/\ZQ H H' ps ((rW ks m i).map λl=>(l.map λk=>V.int ((k:Nat):Int)))/\∀z∈ps,z≠p)
   ⟨[],_,_,_,rfl,s1,e1,.nil,λz hz=>nomatch hz⟩ (λi U H' _ ⟨_,_,_,_,_,e,_⟩=>aM e hb) ?_ ?_
  .rintro i x U H2 pt hx ⟨ps,v3,v4,v5,rfl,s2,e2,ls,nd⟩ hpt;obtain⟨k,ek,rfl⟩:=uE hx;have hi:=(Ae.mp ek).1
   have hps:ps.length=(rW ks m i).length:=by rw[ls.1,Ab]
   have hpl:=B7 (m:=m) (i:=i) h6
   have hpl2:i*6^m<=5*6^m:=Nat.mul_le_mul_right _ (by omega)
   have s3:=s2.trans (aG hpt (.tup [.int ((0+i:Nat):Int),.int ((k:Nat):Int)]))
   have s23:=aG hpt (.tup [.int ((0+i:Nat):Int),.int ((k:Nat):Int)])
   have et3:(upd H2 pt (.tup [.int ((0+i:Nat):Int),.int ((k:Nat):Int)])) pt=some (.tup [.int ((0+i:Nat):Int),.int ((k:Nat):Int)]):=aD
   generalize upd H2 pt (.tup [.int ((0+i:Nat):Int),.int ((k:Nat):Int)])=H3 at s3 s23 et3 ⊢;have hb3:=aM s3 hb
   have tt3:=cO et3
   left;rw[show ((0+i:Nat):Int)+1=((i+1:Nat):Int) by omega]
   intro ra hra;rw[JO,DM];have s4:=aG hra (.lst ((ks.drop (i+1)).map λk=>V.int ((k:Nat):Int)))
   have e4:Z2 (upd H3 ra (.lst ((ks.drop (i+1)).map λk=>V.int ((k:Nat):Int)))) ra=some ((ks.drop (i+1)).map λk=>V.int ((k:Nat):Int)):=cV
   generalize upd H3 ra (.lst ((ks.drop (i+1)).map λk=>V.int ((k:Nat):Int)))=H4 at s4 e4 ⊢;have s24:=s23.trans s4
   left;rw[show ((m+1:Nat):Int)-1=((m:Nat):Int) by omega]
   refine⟨ra,ks.drop (i+1),m,rfl,e4,by rw[Dr];omega,by omega,by omega,λrb qs H5 hrb s5 e5 lq nq=>?_⟩
   have s25:=s24.trans s5
   have rb5:=aP e5
   have rp5:=aP (s25 _ _ e2)
   have hqs:qs.length=(cN (ks.drop (i+1)) m).length:=by rw[lq.1,Ab]
   have hql:(cN (ks.drop (i+1)) m).length<=6^m:=jG (by rw[Dr];omega)
   left;refine Nn (λj=>V.int ((k:Nat):Int)::(((cN (ks.drop (i+1)) m).getD j []).map λk=>V.int ((k:Nat):Int))) rb5 (by rw[Ab,hqs];exact Ik (Bo hql (Bo (Nat.le_mul_of_pos_right _ (by decide:0<6)) h6m)) (by decide)) (λj x Hc A B hx sm hA=>?_) (λD Hd us hD sd eD hul lu nu=>?_)
   .obtain⟨u,eu,rfl⟩:=SR hx;have hj:j<(cN (ks.drop (i+1)) m).length:=by rw[<-hqs];exact(Ae.mp eu).1
    obtain⟨l,el⟩:∃l,(cN (ks.drop (i+1)) m)[j]?=some l:=⟨_,Aa hj⟩;have hu:=sm _ _ (lq.2 j u (l.map λk=>V.int ((k:Nat):Int)) eu (by rw[Ai,el];rfl)).2
    have hll:l.length=m:=(ZI.mp (Ap el)).2
    have hgl:(cN (ks.drop (i+1)) m).getD j []=l:=by rw[Ad,el];rfl
    rw[hgl]at hA;left;refine⟨Wk.set rfl (Wk.refl _),?_⟩;left;refine⟨r0,λp6 hp6=>?_⟩
    have s6:=aG hp6 (.lst [V.int ((k:Nat):Int)])
    have e6:(upd Hc p6 (.lst [V.int ((k:Nat):Int)])) p6=some (.lst [V.int ((k:Nat):Int)]):=aD
    have hu6:=s6 _ _ hu
    generalize upd Hc p6 (.lst [V.int ((k:Nat):Int)])=H6 at s6 e6 hu6 ⊢;refine sF (bP e6) (bP hu6) (bH (by rw[Ab];show 1+_<=_;omega)) λp7 hp7=>?_
    exact hA p7 _ (none_of s6 hp7) (s6.trans (aG hp7 _)) aD
   .rw[Ab,hqs,Mg]at lu;rw[Ab]at hul;have s2d:=s25.trans sd
    have e2d:=s2d _ _ e2
    have npD:∀z∈us,z≠p:=λz hz zp=>by
     obtain⟨g,_,h1,_⟩:=lu.mem hz;rw[zp,s25 _ _ e2]at h1;cases h1
    have hek:ks.getD i 0=k:=by rw[Ad,ek];rfl
    left;refine O1 (bP e2d) (bP eD) (Bo (by rw[Ab,Ab,hps,hul,hqs];omega:_<=279936) (by decide)) ?_
    left;refine⟨ps++us,_,_,_,rfl,bL hp (s2.trans s2d),by rw[Aw];exact aD,?_,λz hz=>?_⟩
    .rw[zx,Aw,hek];refine ZQ.put ?_ λz hz=>?_
     .exact(ls.keep s2d).app (lu.Yd (s2.trans s25))
     .rcases Bs.mp hz with e|e
      .exact nd z e
      .exact npD z e
    .rcases Bs.mp hz with e|e
     .exact nd z e
     .exact npD z e
  .rintro U H2 ⟨ps,v3,v4,v5,rfl,s2,e2,ls,nd⟩;left;refine q p ps H2 hp s2 e2 ?_ nd;rw[kG];rw[Ab]at ls;exact ls
theorem zY(sep:Array Nat):∀(b:List Str) (a:Array Nat),(b.foldl (λa p=>a++sep++p.cps) a).toList=a.toList++(b.map λy=>sep.toList++y.cps.toList).flatten
 |[],a=>by simp
 |y::r,a=>by
  rw[List.foldl_cons,zY sep r];simp
def JK(sep y:Str)(r:List Str):(Txt.join sep (y::r)).cps.toList=y.cps.toList++(r.map λy=>sep.cps.toList++y.cps.toList).flatten:=by
 have e:=zY sep.cps r y.cps
 rw[<-e];rfl
def Ki{n:Nat}:∀ {L:List Str},(∀z∈L,z.length<=n)->(Txt.join sep L).length<=(n+sep.length)*L.length
 |[],_=>Ci _
 |y::r,h=>by
  have c:∀r:List Str,(∀z∈r,z.length<=n)->(r.map λy=>sep.cps.toList++y.cps.toList).flatten.length<=(n+sep.length)*r.length:=λr h=>by
   induction r with
   |nil=>exact Ah _
   |cons u v b=>
    rw[Ax,Ea,Ak,Ak,Az,fJ,fJ];grind
  rw[<-fJ,JK,Ak,fJ,Az,Nat.mul_succ];grind
def kO(F:α->V):∀a:List α,(List.range a.length).filterMap (λj=>(a[j]?).map F)=a.map F:=λa=>by
 have h:∀n,n<=a.length->(List.range n).filterMap (λj=>(a[j]?).map F)=(a.take n).map F:=λn=>by
  induction n with
  |zero=>intro _;rfl
  |succ n b=>
   intro c;have e:a[n]?=some a[n]:=Aa (by omega)
   rw[fS (y:=F a[n]) (by rw[e];rfl),b (by omega),Bl,e,Aw]
   rfl
 have r:=h a.length (Ah _)
 rw[Bq]at r;exact r
def Y4(H:Hp)(v:V):Option (List Nat)->Prop
 |none=>v=.non
 |some a=>∃p,v=.ref p/\H p=some (.lst ((a.map one).map V.str))
def fG(hs:List (Option (List Nat))):Prop:=∀a,some a∈hs->cW (a.map one)=true
structure Z5 (H:Hp) (vs:List V) (hs:List (Option (List Nat))):Prop where
 len:vs.length=hs.length
 val:∀(j:Nat) v h,vs[j]?=some v->hs[j]?=some h->Y4 H v h
def Y4.keep(a:Y4 H v h)(s:∀p b,H p=some (.lst b)->v=.ref p->H' p=some (.lst b)):Y4 H' v h:=by
 cases h with
 |none=>exact a
 |some d=>
  obtain⟨p,e,c⟩:=a;exact⟨p,e,s p _ c e⟩
def Z5.keep(a:Z5 H vs hs)(s:Z_ H H'):Z5 H' vs hs:=⟨a.len,λj v h b d=>(a.val j v h b d).keep λp e c _=>s _ _ c⟩
def Z5.nil:Z5 H [] []:=⟨rfl,λj v h a=>nomatch a⟩
def Z5.snoc(a:Z5 H vs hs)(b:Y4 H v h):Z5 H (vs++[v]) (hs++[h]):=by
 refine⟨by rw[Ak,Ak,a.len];rfl,λj x g c d=>?_⟩
 by_cases f:j<vs.length
 .rw[Ay f]at c;rw[Ay (by rw[<-a.len];exact f)]at d
  exact a.val j x g c d
 .have e:j=vs.length:=by
   have:=(Ae.mp c).1;rw[Ak]at this;have:j<vs.length+1:=this;omega
  subst e;rw[Ba (Ah _),Ga]at c;rw[a.len,Ba (Ah _),Ga]at d;cases c;cases d;exact b
def Y4.ne{j:Nat}(d:H r=some (.lst vs))(f:vs[j]?=some v)(a:Y4 H v h):v≠.ref r:=λz=>by
 cases h with
 |none=>rw[show v=.non from a]at z;cases z
 |some g=>
  obtain⟨p,e,c⟩:=a;simp_all
def Z5.put(d:H r=some (.lst vs))(a:Z5 H vs hs):Z5 (upd H r (.lst us)) vs hs:=⟨a.len,λj v h b c=>(a.val j v h b c).keep λp g f e=>by
 rw[aI (λz=>(a.val j v h b c).ne d b (by simp_all))]
 exact f⟩
def Z5.at(a:Z5 H vs hs)(b:vs[j]?=some v):∃h,hs[j]?=some h/\Y4 H v h:=by
 have c:j<hs.length:=by rw[<-a.len];exact(Ae.mp b).1
 exact⟨hs[j],Aa c,a.val j v _ b (Aa c)⟩
def Z5.Jq(a:Z5 H vs hs)(b:Z5 H us hs)(i:Z2 H p=some vs)(g:Z2 H q=some us):Yi H 2 (.ref p) (.ref q):=by
 refine .lst i g (by rw[a.len,b.len]) λj x y f e=>?_
 obtain⟨h,k,d⟩:=a.at f;have c:=b.val j y h e k
 cases h with
 |none=>
  rw[show x=.non from d,show y=.non from c];exact Yi.flat rfl
 |some r=>
  obtain⟨o,rfl,m⟩:=d;obtain⟨n,rfl,l⟩:=c;exact .lst (aP m) (aP l) rfl (Yi.Vt (cU _))
def Ud{g:TG}{d:TT}{J:TE}{I:St}{a:Addr}{hs:Q4}(C:Z2 H1 a=some xs)(S:xs.length<sizeLine)(P:xs.length=hs.length)(o:∀(i:Nat) x h c A (B:Hp->Prop),xs[i]?=some x->hs[i]?=some h->Z_ H1 c->(∀v k,Z_ c k->Y4 k v h->(∀p,v=.ref p->c p=none)->A v k)->
 g x I c λG T=>Wk I G/\d G T λb N=>if b=true then J G N A else B N)(F:∀D k u,H1 D=none->Z_ H1 k->k D=some (.lst u)->Z5 k u hs->(∀p,V.ref p∈u->H1 p=none)->Q (.ref D) k):dQ g d J I Q (Xd K a) H1:=by
 refine iB (n:=xs.length) (λD i l c=>Z_ H1 c/\Z5 c l (hs.take i)/\∀p,V.ref p∈l->H1 p=none) S (λD s=>⟨aG s _,.nil,λp q=>nomatch q⟩)
  (λD i l c _ r h=>⟨xs,xs[i],bD (aM r.1 C),by simp[h]⟩) (λD l c _ r=>⟨xs,bD (aM r.1 C),Nat.le_refl _⟩) ?_ ?_
 .rintro D i l c x U A B s Y ⟨m,j,E⟩ f ⟨rfl,O⟩ y Z;have w:i<hs.length:=by omega
  have M:=Aa w
  refine o i x hs[i] U A B (O xs (bD (aM m C))) M m (λv k t R L=>?_);refine y _ _ (t _ _ f) ⟨bL s (m.trans t),?_,λp q=>?_⟩
  .rw[Bl,M];refine Z5.snoc ((j.keep t).put (t _ _ f)) (R.keep λp X q e=>?_);rw[aI (λz=>by have:=L p e;rw[z,f]at this;cases this)]
   exact q
  .rcases Bs.mp q with e|e
   .exact E p e
   .exact none_of m (L p (Aj.mp e).symm)
 .rintro D l c s ⟨m,j,E⟩ f _;rw[P,Bq]at j;exact F D c l s m f j E
def GO{f:Nat->Option Int}(a:∀c,0<=aO f c)(c:Nat):aO (bK (aO f)) c<=aO f c:=by
 show (bK _ c).getD 0<=_
 unfold bK;split
 .exact Jn _
 .exact a c
theorem lW:∀i,i<=cws.length->(XZ cws i).length=gH cws i
 |0,_=>rfl
 |i+1,h=>by
  have e:cws[i]?=some cws[i]:=Aa (by omega)
  rw[jQ,Ak,lW i (by omega),zE e]
  unfold lS;rw[Ab,Bw,Ad,e];rfl
def GD(b:cws[i]?=some cw)(f:k<cw.length):(wl cws)[gH cws i+k]?=some (i,1+k):=by
 have a:=(Ae.mp b).1
 have h:∀n,i<n->n<=cws.length->(XZ cws n)[gH cws i+k]?=some (i,1+k):=λn=>by
  induction n with
  |zero=>intro h;omega
  |succ n c=>
   intro j g;rw[jQ];by_cases d:i=n
   .subst d;have e:=lW (cws:=cws) i (by omega)
    rw[Ba (by omega),show gH cws i+k-(XZ cws i).length=k by omega]
    unfold lS;simp_all
   have r:=c (by omega) (by omega);rw[Ay (Ae.mp r).1];exact r
 exact h cws.length a (Ah _)
def Hg(cw h:List Nat):Prop:=h.length=cw.length/\∀k g,h[k]?=some g->g∈X6 cw k
inductive Yh:List (List Nat)->List (List Nat)->Prop
 |nil:Yh [] []
 |cons {cw h:List Nat} {cws hs:Q6}:Hg cw h->Yh cws hs->Yh (cw::cws) (h::hs)
def Yh.len{hs:Q6}(h:Yh cws hs):hs.length=cws.length:=by
 induction h with
 |nil=>rfl
 |cons _ _ a=>rw[Az,Az,a]
def Yh.at{hs:Q6}(h:Yh cws hs):∀ {i:Nat} {c:List Nat},cws[i]?=some c->∃g,hs[i]?=some g/\Hg c g:=by
 induction h with
 |nil=>intro i c e;cases e
 |cons a b d=>
  intro i c e;cases i with
  |zero=>cases e;exact⟨_,rfl,a⟩
  |succ i=>exact d e
noncomputable def tW:List (List Nat)->List Nat->List (List Nat)
 |[],_=>[]
 |cw::r,fs=>fs.take cw.length::tW r (fs.drop cw.length)
theorem zR:∀ {b:Q6} {a:List Nat},a.length=(b.map List.length).sum->(tW b a).flatten=a
 |[],a,h=>by rw[Gx h];rfl
 |cw::r,a,h=>by
  rw[Ax,Dm]at h;rw[tW,Ea,zR (by grind),Hj]
theorem Qb:∀ {a:Q6} {e:List Nat},e.length=(a.map List.length).sum->(∀i k g b,a[i]?=some b->k<b.length->e[gH a i+k]?=some g->g∈X6 b k)->Yh a (tW a e)
 |[],e,h,_=>.nil
 |b::r,e,h,hc=>by
  rw[Ax,Dm]at h;refine .cons ⟨by rw[Ce];omega,λk g d=>?_⟩ (Qb (by rw[Dr];omega) λi k g f l d j=>?_)
  .have c:k<b.length:=by
    grind
   rw[List.getElem?_take,if_pos c]at d;exact hc 0 k g b rfl c (by rw[show gH (b::r) 0=0 from rfl,Hw];exact d)
  .refine hc (i+1) k g f l d ?_;rw[List.getElem?_drop]at j;rw[show gH (b::r) (i+1)=b.length+gH r i by unfold gH;rw[Ib,Ax,Dm],Nat.add_assoc]
   exact j
def Q_(cws:Q6):(wl cws).length=(cws.map List.length).sum:=by
 have h:=lW  cws.length (Ah _)
 unfold gH at h;rwa[Bq]at h
def MV(c:fs.length=(wl cws).length)(a:∀(j:Nat) w g,(wl cws)[j]?=some w->fs[j]?=some g->g∈Zd cws w):Yh cws (tW cws fs):=by
 refine Qb (c.trans (Q_ cws)) λi k g f b d e=>?_;have h:=a _ _ g (GD b d) e
 unfold Zd at h;grind
def Z5.get(a:Z5 H vs hs)(c:k<hs.length):∃v,YQ vs (k:Int)=some v/\vs[k]?=some v/\Y4 H v (hs.getD k none):=by
 have b:k<vs.length:=by rwa[a.len]
 refine⟨vs[k],bO (Aa b),Aa b,?_⟩;refine a.val k _ _ (Aa b) ?_;simp_all
noncomputable def aW(hs:List (Option (List Nat)))(n:Nat):List Nat:=(List.range hs.length).filter λk=>(hs.getD k none).isSome && !decide (k=n)
def dZ(h:k∈aW hs n):k<hs.length/\(hs.getD k none).isSome=true/\k≠n:=by
 obtain⟨b,a⟩:=Ff.mp h;simp_all
def pK{n:Nat}(b:n<hs.length):(aW hs n).length+1<=hs.length:=by
 have d:(aW hs n).Sublist ((List.range hs.length).filter λk=>!decide (k=n)):=by
  have e:aW hs n=((List.range hs.length).filter λk=>!decide (k=n)).filter λk=>(hs.getD k none).isSome:=by
   unfold aW;rw[List.filter_filter]
  rw[e];exact Gq
 have i:=d.length_le
 have c:=List.length_eq_countP_add_countP (p:=λk=>decide (k=n)) (l:=List.range hs.length)
 rw[Bw]at c;have h:1<=(List.range hs.length).countP λk=>decide (k=n):=by
  refine List.countP_pos_iff.mpr ⟨n,Bh.mpr b,An rfl⟩
 have g:((List.range hs.length).filter λk=>!decide (k=n)).length=(List.range hs.length).countP λk=>!decide (k=n):=He.symm
 have f:((List.range hs.length).countP λa=>¬(decide (a=n))=true)=(List.range hs.length).countP λk=>!decide (k=n):=by
  congr 1
  funext k
  cases decide (k=n)<;>rfl
 omega
noncomputable def Wg(hs:List (Option (List Nat)))(n:Nat)(i:Nat):Option V:=if ((hs.getD i none).isSome && !decide (i=n))=true then some (V.int ((i:Nat):Int)) else none
def C8(hs:Q4)(n m:Nat):(List.range m).filterMap (Wg hs n)=((List.range m).filter λk=>(hs.getD k none).isSome && !decide (k=n)).map λk=>V.int ((k:Nat):Int):=by
 induction List.range m with
 |nil=>rfl
 |cons a r c=>
  by_cases h:((hs.getD a none).isSome && !decide (a=n))=true
  .rw[Cj  (by unfold Wg;rw[if_pos h]),Iv (p:=λk=>(hs.getD k none).isSome && !decide (k=n)) h,Ax,c]
  .rw[De (by unfold Wg;rw[if_neg h]),Ft (p:=λk=>(hs.getD k none).isSome && !decide (k=n)) h,c]
def lI:Sp:=λe H Q _=>∃a d b n,e=[.ref a,.int ((n:Nat):Int)]/\Z2 H a=some d/\Z5 H d b/\b.length<=7/\
 ∀r c,H r=none->Z_ H c->c r=some (.lst ((aW b n).map λk=>V.int ((k:Nat):Int)))->Q (.ref r) c
def vD:Z9 ["halyards", "number"] ["halyards", "number"] (aK fQ):=by fail "sc"
def wW(F:ZR K "others_hung" "others_hung" fQ f fd):Z6 P w K mg base ZP 1 f fd ["halyards", "number"] lI:=by
 refine F.ok vD (λy H Q E h=>?_) (λR A l s H y Q E W h=>?_)
 .obtain⟨a,o,c,n,rfl,_⟩:=h;rfl
 obtain⟨a,o,c,n,rfl,M,d,Y,q⟩:=h;refine⟨_,(@aH _ _ _ (aR (dB rfl (kK rfl G.b_enumerate (aA (mv 0) aB)) (iQ (N:=["other", "hoist", "number"]) ["halyards", "number"] (aK fQ) [none,none,some 1] rfl rfl rfl (λx h=>cH h) (by right)) (by right) rfl (by right) (λ_ _ _ _=>(eC (K:=K) (i:=0) (j:=1) (by rfl) (by rfl) (show List.Nodup (["other", "hoist", "number"]:List Str) by right) (by rfl) (Or.inl rfl) (Or.inr rfl) (by rfl) (Or.inl rfl) (Or.inr rfl))) (λ_ _ _ _=>(lX (PW.pt (kA (aY kQ (mv 1) cF (bA _)) (iO (aY WE (mv 0) (mv 2) (bA _))))))) (λ_ _ _ _=>(mv 0))))),?_⟩
 have b:=d.len
 left;refine GC (xs:=o) (Wg c n) M (bG (by omega)) (λi x T p A B r U X v m=>?_) (λD S O I u=>?_)
 .have L:i<c.length:=by rw[<-b];exact(Ae.mp r).1
  have k:=d.val i x (c.getD i none) r (by rw[Ad,Aa L];rfl)
  have C:nV (upd T p (.tup [.int ((0+i:Nat):Int),x])) p=some [.int ((0+i:Nat):Int),x]:=sP
  rw[Hw]at C v m ⊢;left;refine⟨Wk.set rfl (Wk.set rfl (Wk.refl _)),?_⟩;left;cases e:c.getD i none with
  |none=>
   rw[e]at k;obtain rfl:x=V.non:=k;exact m (by unfold Wg;rw[e];rfl) _ (Z_.refl _)
  |some Z=>
   rw[e]at k;obtain⟨J,rfl,_⟩:=k;rw[show decide (V.ref J=V.non)=false from As (λz=>nomatch z)]
   left;by_cases t:i=n
   .rw[An (show ((i:Nat):Int)=((n:Nat):Int) by omega)]
    exact m (by unfold Wg;rw[e,An t];rfl) _ (Z_.refl _)
   .rw[As (show ¬((i:Nat):Int)=((n:Nat):Int) by omega)]
    exact v _ (by unfold Wg;rw[e,As t];rfl) _ (Z_.refl _)
 .rw[b,C8]at u;exact q D S O I u
noncomputable def aT(hs:List (Option (List Nat)))(ks:List Nat):List Nat:=ks.flatMap λk=>(hs.getD k none).getD []
def jR(hs:Q4)(A B:List Nat):aT hs (A++B)=aT hs A++aT hs B:=Gp ..
def R0(ok:fG hs)(k:Nat):((hs.getD k none).getD []).length<=7:=by
 cases e:hs[k]? with
 |none=>rw[Ad,e];exact Ci _
 |some h=>
  rw[Ad,e];cases h with
  |none=>exact Ci _
  |some a=>
   have:=gR (ok a (Ap e))
   simp_all
theorem gU(ok:fG hs):∀a,(aT hs a).length<=7*a.length
 |[]=>Ci _
 |k::r=>by
  show (((hs.getD k none).getD [])++aT hs r).length<=_
  rw[Ak,Az];have:=R0 ok k
  have:=gU ok r
  omega
inductive iT(g:List V)(H:Hp)(Q:VK)(zz3:XK):Prop|mk(a b f d c:_)(_:g=[.ref a,.ref b])(_:Z2 H a=some f)(_:Z5 H f d)(_:fG d)(_:Z2 H b=some (c.map λk=>V.int ((k:Nat):Int)))(_:c.length<=7)(_:(∀k∈c,k<d.length))(_:∀r e,H r=none->Z_ H e->e r=some (.lst (((aT d c).map one).map V.str))->Q (.ref r) e):iT g H Q zz3
def i5:Z9 ["halyards", "numbers", "flags", "number"] ["halyards", "numbers"] (aK oQ):=by fail "sc"
def Lh(F:ZR K "flags_on" "flags_on" oQ f fd)(G:Gs K mg w Zt Zz Zu Zx Z0 Zv Zy Zw):Z6 P w K mg base ZP 1 f fd ["halyards", "numbers"] iT:=by
 refine F.ok i5 (λW H Q E h=>?_) (λa3 A t s H W Q E hr h=>?_)
 .obtain⟨a,b,X,d,c,rfl,_⟩:=h;rfl
 obtain⟨a,b,X,d,c,rfl,ha,D,M,N,h7,hk,q⟩:=h;refine⟨_,(@aE _ _ _ _ _ (aQ 2 i5.nd (bZ aB)) (@aE _ _ _ _ _ (cK Bp rfl (dD (mv 1)) (bB (i:=3) i5.nd rfl (Or.inl rfl)) (@aH _ _ _ (bS (aY kQ (bJ cA (mv 0) (mv 3) (λ_ _=>rfl)) cF (bA _)) (@aH _ _ _ (cP (cX Cq Fk Fl Vp (mv 2) (aA (bJ cA (mv 0) (mv 3) (λ_ _=>rfl)) aB)))) bC))) (@aH _ _ _ (aR (mv 2))))),?_⟩;left;refine⟨by decide,λp B=>?_⟩
 have J:=aG B (.lst [])
 have a2:=aM J N
 left;refine fP (xs:=(c.map λk=>V.int ((k:Nat):Int))) (λi U I=>∃v,U=[some (.ref a),some (.ref b),some (.ref p),v]/\Z_ H I/\I p=some (.lst (((aT d (c.take i)).map one).map V.str)))
  ⟨_,rfl,J,aD⟩ (λi U I _ ⟨_,_,e,_⟩=>aM e N) ?_ ?_
 .rintro i x U T hx ⟨v,rfl,j,n⟩;obtain⟨k,l,rfl⟩:=uE hx;have C:=hk k (Ap l)
  obtain⟨u,S,_,o⟩:=(D.keep j).get C;have L:=aM j ha
  have r:aT d (c.take (i+1))=aT d (c.take i)++(d.getD k none).getD []:=by
   rw[Bl,l,jR];show _++(_++[])=_
   rw[Be]
  left;refine eY L S ?_;left;cases O:d.getD k none with
  |none=>
   rw[O]at o r;rw[show u=.non from o,show decide (V.non=V.non)=true from rfl];left;exact⟨_,rfl,j,by rw[r];show _=some (HO.lst (((_++[]).map one).map V.str));rwa[Be]⟩
  |some R=>
   have m:=R0 M k
   rw[O]at o r m;obtain⟨Y,rfl,y⟩:=o;rw[show decide (V.ref Y=V.non)=false from As (λz=>nomatch z)]
   have Z:=gU M (c.take i)
   rw[Ce]at Z;have a1:(((aT d (c.take i)).map one).map V.str).length+((R.map one).map V.str).length<=sizeLine:=bH (by rw[Ab,Ab,Ab,Ab];have:R.length<=7:=m;omega)
   left;refine eY L S ?_;left;refine⟨_,rfl,bL B j,?_⟩;rw[aD,r,Aw,Aw];rfl
 .rintro U T ⟨v,rfl,j,n⟩;rw[Cz (by rw[Ab];exact Ah _)]at n
  exact q p T B j n
def BI(h:os.length<m):cN os m=[]:=by
 cases e:cN os m with
 |nil=>rfl
 |cons l r=>
  have:=ZI.mp (show l∈cN os m by simp_all)
  grind
theorem wF:∀a,cN a a.length=[a]
 |[]=>kN []
 |k::r=>by
  rw[Az,kG,Az,List.range_succ_eq_map,Hm];have d:((cN ((k::r).drop (0+1)) r.length).map λl=>(k::r).getD 0 0::l)=[k::r]:=by
   show ((cN r r.length).map λl=>k::l)=_
   rw[wF r];rfl
  rw[d,List.flatMap_map];have c:((List.range r.length).flatMap λj=>(cN ((k::r).drop (j.succ+1)) r.length).map λl=>(k::r).getD j.succ 0::l)=[]:=by
   rw[List.flatMap_eq_nil_iff];intro j b;rw[BI (by rw[Dr,Az];have:=Bh.mp b;omega)]
   rfl
  rw[c];rfl
noncomputable def dG(os:List Nat):List (List Nat):=(List.range (os.length+1)).flatMap λm=>cN os m
noncomputable def tP(os:List Nat)(i:Nat):List (List Nat):=(List.range i).flatMap λm=>cN os m
def pM(os:List Nat)(i:Nat):tP os (i+1)=tP os i++cN os i:=by
 unfold tP;rw[Bx,Gp];simp_all
def Zc{l:List Nat}:l∈dG os ↔ l.Sublist os:=by
 unfold dG;rw[Hz];constructor
 .rintro⟨m,_,h⟩;exact(ZI.mp h).1
 .intro h;exact⟨l.length,Bh.mpr (Nat.lt_succ_of_le h.length_le),ZI.mpr ⟨h,rfl⟩⟩
theorem sB:∀ {i:Nat},os.length<=6->i<=6->(tP os i).length<=i*6^5
 |0,_,_=>Ci _
 |i+1,h,hi=>by
  rw[pM,Ak,Nat.succ_mul];have b:=sB (i:=i) h (by omega)
  have a:(cN os i).length<=6^5:=Bo (jG h) (Nat.pow_le_pow_right (by decide) (by omega))
  omega
def wX:Sp:=λe H Q _=>∃b d,e=[.ref b]/\Z2 H b=some (d.map λk=>V.int ((k:Nat):Int))/\d.length<=5/\
 ∀r c a,H r=none->Z_ H a->a r=some (.lst (c.map V.ref))->ZQ H a c ((dG d).map λl=>(l.map λk=>V.int ((k:Nat):Int)))->(∀p∈c,p≠r)->Q (.ref r) a
def i6:Z9 ["others", "sets", "many"] ["others"] (aK rL):=by fail "sc"
def AN(F:ZR K "sets_of" "sets_of" rL f fd)(X:ZJ P w K mg base 9 "rising_lists" ["numbers", "many"] (cR 8)):Z6 P w K mg base ZP 10 f fd ["others"] wX:=by
 refine F.ok i6 (λW H Q E h=>?_) (λa6 A t s H W Q E Z h=>?_)
 .obtain⟨b,os,rfl,_⟩:=h;rfl
 obtain⟨b,os,rfl,N,h5,q⟩:=h;refine⟨_,(@aE _ _ _ _ _ (aQ 1 i6.nd (bZ aB)) (@aE _ _ _ _ _ (cK Bp rfl (mY rfl G.b_range (aA (aV cE (aX dA rfl G.b_len cC (aA (mv 0) aB)) aJ) aB)) (bB (i:=2) i6.nd rfl (Or.inl rfl)) (@aH _ _ _ (cP (cX Cq Fk Fl Vp (mv 1) (aA (bF X Z (by decide) rfl (aA (mv 0) (aA (mv 2) aB))) aB))))) (@aH _ _ _ (aR (mv 1))))),?_⟩
 have I:((os.map λk=>V.int ((k:Nat):Int))).length=os.length:=Ab ..
 left;refine⟨by decide,λp D=>?_⟩
 have r:=aG D (.lst [])
 have R:(upd H p (.lst [])) p=some (.lst (([]:List Addr).map V.ref)):=aD
 generalize upd H p (.lst [])=H1 at r R ⊢;have a5:=aM r N
 left;rw[I];refine⟨⟨by omega,by omega⟩,?_⟩
 refine qQ (λi U M=>∃a v,U=[some (.ref b),some (.ref p),v]/\Z_ H M/\M p=some (.lst (a.map V.ref))/\ZQ H M a ((tP os i).map λl=>(l.map λk=>V.int ((k:Nat):Int)))/\∀z∈a,z≠p)
  ⟨[],_,rfl,r,R,.nil,λz m=>nomatch m⟩ ?_ ?_
 .rintro i U S hi ⟨a,v,rfl,c,n,j,x⟩;have a4:i<=os.length:=by omega
  have J:=aM c N
  have C:a.length=(tP os i).length:=by rw[j.1,Ab]
  have a2:=sB (os:=os) (i:=i) (by omega) (by omega)
  left;rw[show (0:Int)+(i:Int)=((i:Nat):Int) by omega]
  refine⟨b,os,i,rfl,J,by omega,by omega,by omega,λrb d H5 Y o e5 y nq=>?_⟩
  have B:d.length=(cN os i).length:=by rw[y.1,Ab]
  have a1:(cN os i).length<=6^5:=Bo (jG (by omega)) (Nat.pow_le_pow_right (by decide) (by omega))
  have L:=o _ _ n
  have m5:=bP L
  have r5:=aP e5
  have a3:(a.map V.ref).length+(d.map V.ref).length<=sizeLine:=bH (by rw[Ab,Ab,C,B];omega)
  left;have u:∀z∈d,z≠p:=λz m T=>by
   obtain⟨g,_,O,_⟩:=y.mem m;rw[T,n]at O;cases O
  have e:=λz m=>(Bs.mp m).elim (x z) (u z)
  refine⟨a++d,_,rfl,bL D (c.trans o),?_,?_,e⟩
  .rw[aD,Aw]
  .rw[pM,Aw];exact((j.keep o).app (y.Yd c)).put e
 .rintro U S ⟨a,v,rfl,c,n,j,x⟩;rw[show ((os.length:Int)+1).toNat=os.length+1 by omega]at j
  exact q p a S D c n j x
noncomputable def bQ(hs:List (Option (List Nat)))(cw ks:List Nat):List (List Nat):=cw::ks.map λk=>Y9 ((hs.getD k none).getD [])
def qJ(ks:List Nat):((ks.map λk=>V.int ((k:Nat):Int))).length=ks.length:=Ab ..
inductive iY(h:List V)(H:Hp)(Q:VK)(zz3:XK):Prop|mk(a b f c g d:_)(_:h=[.ref a,.str (aU g),.ref b])(_:Z2 H a=some f)(_:Z5 H f c)(_:fG c)(_:Z2 H b=some (d.map λk=>V.int ((k:Nat):Int)))(_:d.length<=7)(_:(∀k∈d,k<c.length/\(c.getD k none).isSome=true))(_:∀r e,H r=none->Z_ H e->e r=some (.lst (((bQ c g d).map aU).map V.str))->Q (.ref r) e):iY h H Q zz3
def xK:Z9 ["halyards", "word", "lowered"] ["halyards", "word", "lowered"] (aK gQ):=by fail "sc"
def xJ(F:ZR K "words_with" "words_with" gQ f fd)(G:Gs K mg w Zt Zz Zu Zx Z0 Zv Zy Zw)(i7:lY P w K mg base 4 "read_of" ["flags"] (uP Zx)):Z6 P w K mg base ZP 5 f fd ["halyards", "word", "lowered"] iY:=by
 refine F.ok xK (λZ H Q E h=>?_) (λa2 A L s H Z Q E z h=>?_)
 .obtain⟨a,b,us,c,y,n,rfl,_⟩:=h;rfl
 obtain⟨a,b,us,c,y,n,rfl,ha,R,ok,C,h7,hk,q⟩:=h;refine⟨_,(@aH _ _ _ (aR (aV cE (bZ (aA (mv 1) aB)) (dB rfl (dD (mv 2)) (iQ (N:=["other", "halyards"]) ["halyards", "word", "lowered"] (aK gQ) [none,some 0] rfl rfl rfl (λx h=>cH h) (by right)) (by right) rfl (by right) (λ_ _ _ _=>(bB (i:=0) (show List.Nodup (["other", "halyards"]:List Str) by right) rfl (Or.inl rfl))) (λ_ _ _ _=>dP) (λ_ _ _ _=>(dX i7 zD z (by decide) rfl (aA (bJ cA (mv 1) (mv 0) (λ_ _=>rfl)) aB))))))),?_⟩
 left;refine⟨r0,λp hp=>?_⟩
 have l:=aG hp (.lst [V.str (aU y)])
 have Y:(upd H p (.lst [V.str (aU y)])) p=some (.lst [V.str (aU y)]):=aD
 generalize upd H p (.lst [V.str (aU y)])=H1 at l Y ⊢;have O:=aM l C
 have S:=aM l ha
 left;refine jL (xs:=(n.map λk=>V.int ((k:Nat):Int))) (λj=>(n[j]?).map λk=>V.str (aU (Y9 ((c.getD k none).getD [])))) O (bG (by rw[qJ];omega)) (λj x Hc A B hx T hA hB=>?_) (λD Hd hD J X=>?_)
 .obtain⟨k,t,rfl⟩:=uE hx;obtain⟨d,o⟩:=hk k (Ap t);obtain⟨u,au,_,U⟩:=(R.keep (l.trans T)).get d;have v:=hA (V.str (aU (Y9 ((c.getD k none).getD [])))) (by rw[t];rfl)
  have r2:=aM T S
  cases I:c.getD k none with
  |none=>rw[I]at o;cases o
  |some m=>
   rw[I]at U v;obtain⟨pc,rfl,M⟩:=U;have C:=ok m (by
    rw[Ad,Aa d]at I;rw[<-show c[k]=some m from I];exact Br d)
   have a1:=gR C
   left;refine⟨Wk.set rfl (Wk.refl _),?_⟩;left;refine eY r2 au ?_;left;refine⟨pc,m.map one,rfl,aP M,by omega,A2 m,λ_ H3 s3=>?_,λW=>?_⟩
   .have e:So (m.map one)=aU (Y9 m):=by unfold So;rw[D8]
    rw[e];exact v _ s3
   .rw[C]at W;cases W
 .rw[qJ,kO,show n.map (λk=>V.str (aU (Y9 ((c.getD k none).getD []))))=((n.map λk=>Y9 ((c.getD k none).getD [])).map aU).map V.str by rw[Bz,Bz];rfl]at X
  refine sF (bP (J _ _ Y)) (bP X) (bH (by rw[Ab,Ab,Ab];show 1+_<=_;omega)) λr z=>?_
  exact q r _ (none_of (l.trans J) z) (l.trans (J.trans (aG z _))) aD
noncomputable def gL(f:Nat->Option Int)(hs:List (Option (List Nat)))(L:List Nat):Nat->Option Int:=bK λc=>aO f c+cnt (aT hs L) c
noncomputable def lR(f:Nat->Option Int)(hs:List (Option (List Nat)))(L:List Nat)(c:Nat):Int:=aO (bK (aO (gL f hs L))) c
def xH(f:Nat->Option Int)(hs:List (Option (List Nat)))(n:Nat)(cw ks:List Nat):Prop:=Xw (lR f hs (n::ks)) (bQ hs cw ks)
def Ze(H:Hp)(f:Nat->Option Int)(hs:List (Option (List Nat)))(n:Nat)(cw ks:List Nat)(t:Addr):Prop:=∃c d b a W F,H t=some (.tup [.ref c,.ref d,.ref b])/\H c=some (.lst (ks.map λk=>V.int ((k:Nat):Int)))/\H d=some (.lst (a.map V.ref))/\ZV H a W/\H b=some (.lst ((F.map one).map V.str))/\Zs (bQ hs cw ks) (lR f hs (n::ks)) W F
def Ze.keep{f:Nat->Option Int}{t:Addr}(h:Ze H f hs n cw ks t)(s:Z_ H H'):Ze H' f hs n cw ks t:=by
 obtain⟨c,e,d,b,W,F,q,o,m,a,l,k⟩:=h;exact⟨c,e,d,b,W,F,s _ _ q,s _ _ o,s _ _ m,⟨a.1,λj p w i g=>s _ _ (a.2 j p w i g)⟩,s _ _ l,k⟩
def Ze.put{f:Nat->Option Int}{t:Addr}{o:HO}(h:Ze H f hs n cw ks t)(C:∀c b a,H t=some (.tup [.ref c,.ref b,.ref a])->c≠p/\b≠p/\a≠p)(g:∀k,H p≠some (.tup k)):Ze (upd H p o) f hs n cw ks t:=by
 obtain⟨c,b,a,l,W,F,d,B,A,i,y,x⟩:=h;obtain⟨s,r,m⟩:=C _ _ _ d;refine⟨c,b,a,l,W,F,?_,?_,?_,⟨i.1,λj q w v u=>?_⟩,?_,x⟩
 .rw[aI λz=>g _ (by rw[<-z];exact d)];exact d
 .rw[aI s];exact B
 .rw[aI r];exact A
 .have e:=i.2 j q w v u
  rw[aI λz=>g _ (by rw[<-z];exact e)];exact e
 .rw[aI m];exact y
def kJ(f:Nat->Option Int)(hs:List (Option (List Nat)))(n:Nat)(cw ks:List Nat)(j:Nat):Prop:=(dG (aW hs n))[j]?=some ks/\xH f hs n cw ks/\∀i l,i<j->(dG (aW hs n))[i]?=some l->¬xH f hs n cw l
def AJ(k:cW (cs.map one)=true):∀d∈Y9 cs,aZ d:=by
 have h:∀i,i<=cs.length->∀d∈Y9 (cs.take i),aZ d:=λi=>by
  induction i with
  |zero=>intro _ d a;rw[Gw]at a;cases a
  |succ i f=>
   intro q d a;have b:cs[i]?=some cs[i]:=Aa (by omega)
   have j:(Y9 (cs.take i)).length=i:=rE (by omega)
   rw[qR b]at a;obtain⟨c,o,s,n⟩:=pD k (i:=i) (z:=one cs[i]) (by rw[Ai,b];rfl)
   have m:=one_inj.mp o
   rcases Bs.mp a with e|e
   .exact f (by omega) d e
   .rw[Aj.mp e,m];unfold Wx;rcases n with l|⟨g,p⟩
    .rw[if_neg (iH l)];exact l
    .rw[if_pos g,Ad,Aa (by omega)]
     exact f (by omega) _ (Br _)
 have r:=h cs.length (Ah _)
 rwa [Bq]at r
def My{xs:List Addr}{u:Addr}(h:xs[xs.length-1]?=some u):YQ (xs.map V.ref) (-1)=some (.ref u):=by
 have a:0<xs.length:=by grind
 unfold YQ;rw[show Xr (xs.map V.ref).length (-1)=some (xs.length-1) by
  rw[Ab];unfold Xr;rw[if_neg (by omega),if_pos (by omega)]
  exact Dk some (by omega)]
 simp_all
def BR(os:List Nat):∃A,dG os=A++[os]:=by
 refine⟨tP os os.length,?_⟩;show tP os _=_
 rw[pM];congr 1
 exact wF os
def YN(H:Hp)(f:Nat->Option Int)(hs:List (Option (List Nat)))(n:Nat)(cw:List Nat)(p:Addr)(l:List Nat)(u:Addr):Prop:=Ze H f hs n cw l u/\∀c b a,H u=some (.tup [.ref c,.ref b,.ref a])->c≠p/\b≠p/\a≠p
def YN.keep{f:Nat->Option Int}{l:List Nat}{u:Addr}(h:YN H f hs n cw p l u)(s:Z_ H H'):YN H' f hs n cw p l u:=by
 refine⟨h.1.keep s,λc d b e=>?_⟩;obtain⟨j,i,g,_,_,_,a,_⟩:=h.1;have:=s _ _ a
 rw[this]at e;cases e;exact h.2 _ _ _ a
def YN.put{f:Nat->Option Int}{l:List Nat}{u:Addr}{ys:List V}(h:YN H f hs n cw p l u)(d:H p=some (.lst xs)):YN (upd H p (.lst ys)) f hs n cw p l u:=by
 have b:∀a,H p≠some (.tup a):=λa z=>by grind
 refine⟨h.1.put h.2 b,λc j i e=>?_⟩;obtain⟨o,m,k,_,_,_,g,_⟩:=h.1;rw[aI λz=>b _ (by rwa[<-z])]at e
 exact h.2 _ _ _ e
def nO(ok:fG hs)(n:cw.length<=7/\∀d∈cw,aZ d)(m:∀k∈ks,k<hs.length/\(hs.getD k none).isSome=true):∀c∈bQ hs cw ks,c.length<=7/\∀d∈c,aZ d:=λc h=>by
 rcases Bb.mp h with e|e
 .rw[e];exact n
 .obtain⟨k,g,rfl⟩:=Bg.mp e;obtain⟨b,a⟩:=m k g;cases i:hs.getD k none with
  |none=>rw[i]at a;cases a
  |some j=>
   have l:=ok j (by grind)
   have f:=gR l
   rw[Ab]at f;refine⟨by show (Y9 j).length<=7;rw[SS];exact f.2,?_⟩
   exact AJ l
inductive qV(z:Addr)(y:List V)(H:Hp)(Q:VK)(E:XK):Prop|mk(a b:Addr)(m:List (Key×V))(f:Nat->Option Int)(v:List V)(e:List (Option (List Nat)))(n:Nat)(h:List Nat)(_:y=[.ref a,.ref b,.int ((n:Nat):Int),.str (aU h)])(_:H a=some (.dK m))(_:Lk m f)(_:(∀c,0<=aO f c))(_:Z2 H b=some v)(_:Z5 H v e)(_:fG e)(_:e.length<=6)(_:n<e.length)(_:h.length<=7)(_:(∀d∈h,aZ d))(_:(∀t L p (o:List Addr) (x:List Nat) (j:Nat) (g:Hp),Z_ H g->H t=none->g t=some (.tup [.ref L,.ref p])->H L=none->g L=some (.lst (x.map λk=>V.int ((k:Nat):Int)))->kJ f e n h x j->H p=none->g p=some (.lst (o.map V.ref))->o.length=j->(∀(i:Nat) u l,o[i]?=some u->(dG (aW e n))[i]?=some l->Ze g f e n h l u)->Q (.ref t) g))(_:((∀l,l.Sublist (aW e n)->¬xH f e n h l)->∀(s r q:Addr) (w:List Addr) (W:List Wt) (F:List Nat) (g:Hp),Z_ H g->g s=some (YT s [("flags",.ref q),("wants",.ref r)])->g r=some (.lst (w.map V.ref))->ZV g w W->g q=some (.lst ((F.map one).map V.str))->Zs (bQ e h (aW e n)) (lR f e (n::aW e n)) W F->H r=none->H q=none->E (.ref z) (some s) g)):qV z y H Q E
def o5:Z9 ["locker", "halyards", "number", "word", "papers", "lowered", "more", "lack"] ["locker", "halyards", "number", "word"] (aK lT):=by fail "sc"
def BZ(F:ZR K "least_set" "least_set" lT f fd)(i8:ZJ P w K mg base 10 "sets_of" ["others"] wX)(wT:Wq P w K mg base 1 Zt ["self", "wants", "flags"] (jS Zt))(i9:ZJ P w K mg base 1 "others_hung" ["halyards", "number"] lI)(z5:ZJ P w K mg base 2 "put_in" ["locker", "flags"] nI)(gV:ZJ P w K mg base 4 "lack_of" ["locker", "words"] wI)(y6:ZJ P w K mg base 1 "flags_on" ["halyards", "numbers"] iT)(w6:ZJ P w K mg base 5 "words_with" ["halyards", "word", "lowered"] iY):Z6 P w K mg base (Y3 P w) 11 f fd ["locker", "halyards", "number", "word"] (qV Zt):=by
 refine F.W3 o5 (λvs H Q E h=>?_) (λk4 A d4 s H vs Q E hr h=>?_)
 .obtain⟨a,b,b4,f,us,d,n,cw,rfl,_⟩:=h;rfl
 obtain⟨a,b,b4,f,us,d,n,cw,rfl,ha,lk,f5,hb,c8,ok,h6,hn,f8,f7,q,qe⟩:=h;refine⟨_,(@aE _ _ _ _ _ (aQ 4 o5.nd (bZ aB)) (@aE _ _ _ _ _ (PS.WA (cK Bp rfl (dD (bF i8 hr (by decide) rfl (aA (bF i9 hr (by decide) rfl (aA (mv 1) (aA (mv 2) aB))) aB))) (bB (i:=5) o5.nd rfl (Or.inl rfl)) (@aE _ _ _ _ _ (aQ 6 o5.nd (bF z5 hr (by decide) rfl (aA (mv 0) (aA (bF y6 hr (by decide) rfl (aA (mv 1) (aA (aV cE (bZ (aA (mv 2) aB)) (mv 5)) aB))) aB)))) (@aE _ _ _ _ _ (aQ 7 o5.nd (bF gV hr (by decide) rfl (aA (mv 6) (aA (bF w6 hr (by decide) rfl (aA (mv 1) (aA (mv 3) (aA (mv 5) aB)))) aB)))) (@aE _ _ _ _ _ (bS (aY uR (mv 7) cF (bA _)) (@aH _ _ _ (aR (gI (aA (mv 5) (aA (mv 4) aB))))) bC) (@aH _ _ _ (cP (cX Cq Eo Ep yU (mv 4) (aA (gI (aA (mv 5) (aA (bJ cA (mv 7) aJ (λ_ _=>rfl)) (aA (bJ cA (mv 7) aJ (λ_ _=>rfl)) aB)))) aB))))))))) (@aH _ _ _ (nH kZ rfl rfl rfl G.YH G.XI wT hr (by decide) (aA (bJ cA (bJ cA (mv 4) (TV TY aJ) (λ_ _=>rfl)) aJ (λ_ _=>rfl)) (aA (bJ cA (bJ cA (mv 4) (TV TY aJ) (λ_ _=>rfl)) aJ (λ_ _=>rfl)) aB)))))),?_⟩
 have j7:=pK hn
 left;refine⟨by decide,λp hp=>?_⟩
 have s1:=aG hp (.lst [])
 have e1:(upd H p (.lst [])) p=some (.lst (([]:List Addr).map V.ref)):=aD
 generalize upd H p (.lst [])=H1 at s1 e1 ⊢;left;refine⟨b,us,d,n,rfl,aM s1 hb,c8.keep s1,by omega,λro H2 j3 s2 eo=>?_⟩
 left;refine⟨ro,aW d n,rfl,aP eo,by omega,λrS ps H3 b6 s3 eS ls nd=>?_⟩
 have b1:=s2.trans s3
 left;have f1:ps.length=(dG (aW d n)).length:=by rw[ls.1,Ab]
 have b8:(ps.map V.ref).length=(dG (aW d n)).length:=by rw[Ab,f1]
 have j2:(dG (aW d n)).length<=6*6^5:=Bo (sB (i:=(aW d n).length+1) (by omega) (by omega)) (Nat.mul_le_mul_right _ (by omega))
 have g8:=b1 _ _ e1
 have d3:=s1.trans b1
 have d9:∀(j:Nat) c l,ps[j]?=some c->(dG (aW d n))[j]?=some l->H3 c=some (.lst (l.map λk=>V.int ((k:Nat):Int)))/\c≠p/\H c=none:=λj c l hc O=>by
  obtain⟨h1,h2⟩:=ls.2 j c (l.map λk=>V.int ((k:Nat):Int)) hc (by rw[Ai,O];rfl)
  exact⟨h2,(λz=>by rw[z,s2 _ _ e1]at h1;cases h1),none_of (s1.trans s2) h1⟩
 have d5:rS≠p:=λz=>by rw[z,s2 _ _ e1]at b6;cases b6
 have T:∀(j:Nat) l,(dG (aW d n))[j]?=some l->l.Sublist (aW d n):=λj l h=>Zc.mp (Ap h)
 refine fP (xs:=ps.map V.ref) (λi U Z=>E_4 λ(y:List Addr)(v5 v6 v7:Option V)=>U=[some (.ref a),some (.ref b),some (.int ((n:Nat):Int)),some (.str (aU cw)),some (.ref p),v5,v6,v7]/\Z_ H Z/\(∀ z u,z≠p->H3 z=some u->Z z=some u)/\Z p=some (.lst (y.map V.ref))/\y.length=i/\
     (∀(j:Nat) u l,y[j]?=some u->(dG (aW d n))[j]?=some l->YN Z f d n cw p l u)/\∀j l,j<i->(dG (aW d n))[j]?=some l->¬xH f d n cw l)
  ⟨[],_,_,_,rfl,d3,λz u _ h=>h,g8,rfl,λj u l B=>(nomatch B),λj l hj=>absurd hj (Eu _)⟩ (λi U Z _ ⟨_,_,_,_,_,_,fr,_⟩=>aP (fr _ _ d5 eS)) ?_ ?_
 .rintro i x U H4 hx ⟨y,v5,v6,v7,rfl,L,a6,Y,D,I,J⟩;have hi:i<(dG (aW d n)).length:=by rw[<-b8];exact(Ae.mp hx).1
  obtain⟨l,O⟩:∃l,(dG (aW d n))[i]?=some l:=⟨_,Aa hi⟩;obtain⟨c,hc,rfl⟩:=SR hx;obtain⟨d8,b3,f6⟩:=d9 i c l hc O;have lc:=a6 _ _ b3 d8
  have a3:∀k∈l,k<d.length/\(d.getD k none).isSome=true:=λk hk=>by
   have:=dZ ((T i l O).subset hk)
   exact⟨this.1,this.2.1⟩
  have j9:l.length<=5:=by have:=(T i l O).length_le;omega
  have c7:=aM L hb
  have X:=c8.keep L
  left;refine⟨r0,λp5 f3=>?_⟩
  have s5:=aG f3 (.lst [V.int ((n:Nat):Int)])
  have e5:(upd H4 p5 (.lst [V.int ((n:Nat):Int)])) p5=some (.lst [V.int ((n:Nat):Int)]):=aD
  generalize upd H4 p5 (.lst [V.int ((n:Nat):Int)])=H5 at s5 e5 ⊢;left;refine sF (bP e5) (bP (s5 _ _ lc)) (bH (by rw[qJ];show 1+_<=_;omega)) λp6 f2=>?_
  have s6:=aG f2 (.lst ((n::l).map λk=>V.int ((k:Nat):Int)))
  have e6:Z2 (upd H5 p6 (.lst ((n::l).map λk=>V.int ((k:Nat):Int)))) p6=some ((n::l).map λk=>V.int ((k:Nat):Int)):=cV
  change vP _ (upd H5 p6 (.lst ((n::l).map λk=>V.int ((k:Nat):Int)))) _
  generalize upd H5 p6 (.lst ((n::l).map λk=>V.int ((k:Nat):Int)))=H6 at s6 e6 ⊢;have a1:=s5.trans s6
  left;refine⟨b,p6,us,d,n::l,rfl,aM a1 c7,X.keep a1,ok,e6,by show l.length+1<=7;omega,λk hk=>by rcases Bb.mp hk with e|e;(· rw[e];exact hn);(· exact(a3 k e).1),λr7 H7 j6 s7 e7=>?_⟩
  have a9:=a1.trans s7
  have g5:=gU ok (n::l)
  left;refine⟨a,r7,b4,f,aT d (n::l),rfl,a9 _ _ (L _ _ ha),lk,f5,aP e7,by rw[Az]at g5;omega,λr8 e2 H8 j5 s8 e8 d7=>?_⟩
  have S:=a9.trans s8
  left;refine⟨b,c,us,d,cw,l,rfl,aM S c7,X.keep S,ok,aP (S _ _ lc),by omega,a3,λr9 H9 j4 s9 e9=>?_⟩
  have R:=S.trans s9
  left;refine⟨r8,r9,e2,gL f d (n::l),bQ d cw l,rfl,.inl (s9 _ _ e8),d7,aP e9,by unfold bQ;rw[Az,Ab];omega,nO ok ⟨f8,f7⟩ a3,λc6 a8 a2=>?_,λt0 N M rs W F a8 a2 j1 d2 g7 b5 g6 c2 c1 b9=>?_⟩
  .have o:=R.trans a2
   left;rw[show decide (V.non=V.non)=true from rfl];left;refine⟨q0,λt ht=>?_⟩
   have m:=o.trans (aG ht (.tup [.ref c,.ref p]))
   exact q t c p y l i _ (L.trans m) (none_of (L.trans o) ht) aD f6 (m _ _ lc) ⟨O,c6,J⟩ hp (m _ _ Y) D λj u l' B r=>((I j u l' B r).1.keep m)
  .have o:=R.trans a2
   have n1:N≠p:=λz=>by rw[z,R _ _ Y]at c1;cases c1
   have n2:M≠p:=λz=>by rw[z,R _ _ Y]at b9;cases b9
   have h9:=bP (o _ _ Y)
   have h7:=aP (o _ _ Y)
   have j8:(y.map V.ref).length<sizeLine:=bG (by rw[Ab,D];omega)
   left;rw[show decide (V.ref t0=V.non)=false from As (λz=>nomatch z)]
   left;refine dS d2 (v:=.ref N) rfl ?_;left;refine dS d2 (v:=.ref M) rfl ?_;left;refine⟨o0,λtp e3=>?_⟩
   have m:=aG e3 (.tup [.ref c,.ref N,.ref M])
   have a7:(upd a8 tp (.tup [.ref c,.ref N,.ref M])) tp=some (.tup [.ref c,.ref N,.ref M]):=aD
   generalize upd a8 tp (.tup [.ref c,.ref N,.ref M])=g9 at m a7 ⊢;have C:=o.trans m
   have ep:=C _ _ Y
   have h8:=bP ep
   left;have b2:YN g9 f d n cw p l tp:=⟨⟨c,N,M,rs,W,F,a7,C _ _ lc,m _ _ g7,⟨b5.1,λj q w hq hw=>m _ _ (b5.2 j q w hq hw)⟩,m _ _ g6,c2⟩,λc' k1 k2 e=>by rw[a7]at e;cases e;exact⟨b3,n1,n2⟩⟩
   refine⟨y++[tp],_,_,_,rfl,bL hp (L.trans C),λz u hz h=>by rw[aI hz];exact C _ _ (a6 z u hz h),by rw[aD,Aw];rfl,by rw[Ak,D];rfl,λj u l' B r=>?_,λj l' hj r=>?_⟩
   .by_cases f4:j<y.length
    .rw[Ay f4]at B;exact((I j u l' B r).keep C).put ep
    .have ej:j=y.length:=by
      have:=(Ae.mp B).1
      rw[Ak]at this;have:j<y.length+1:=this
      omega
     rw[ej,Ba (Ah _),Ga]at B;cases B;rw[ej,D,O]at r;cases r;exact b2.put ep
   .by_cases ej:j=i
    .rw[ej,O]at r;cases r;exact O3 c2
    .exact J j l' (by omega) r
 .rintro U H4 ⟨y,v5,v6,v7,rfl,L,a6,Y,D,I,J⟩;rw[b8]at D J;obtain⟨A0,c9⟩:=BR (aW d n);have c3:(dG (aW d n)).length=A0.length+1:=by rw[c9,Ak];rfl
  have a4:(dG (aW d n))[y.length-1]?=some (aW d n):=by
   rw[D,c3,c9,Io,Ba (Ah _),Ga];rfl
  have B:y[y.length-1]?=some (y[y.length-1]'(by omega)):=Aa (by omega)
  have b7:=I _ _ _ B a4
  have au:=My B
  generalize y[y.length-1]'(by omega)=u at b7 au
  obtain⟨⟨c,N,M,rs,W,F,h1,h2,h3,h4,h5,h6⟩,_⟩:=b7;have r4:=aP Y
  left;refine eY r4 au ?_;left;refine dS h1 (v:=.ref N) rfl ?_;left;refine eY r4 au ?_;left;refine dS h1 (v:=.ref M) rfl ?_;left;refine⟨q0,λea a5=>⟨ea,N,M,_,_,rfl,aD,aM (aG a5 _) (aP h3),aM (aG a5 _) (aP h5),λdx k1 k2 Z f9 k3 d6 g1 g2 g3 g4 c5 c4=>⟨rfl,some dx,g1,?_⟩⟩⟩
  have n1:k1≠ea:=λz=>by rw[z,g1]at g3;cases g3
  have n2:k2≠ea:=λz=>by rw[z,g1]at g4;cases g4
  have d1:∀b u,H4 b=some u->(del Z ea) b=some u:=λb u B=>by
   have nb:b≠ea:=λz=>by rw[z,a5]at B;cases B
   rw[eG nb];exact f9 b u nb (by rw[aI nb];exact B)
  refine qe (λl O=>?_) dx k1 k2 rs W F (del Z ea) (λb u B=>d1 _ _ (L _ _ B)) ((eG d6).trans g2) ((eG n1).trans g3) ⟨h4.1,λj q w hq hw=>d1 _ _ (h4.2 j q w hq hw)⟩ ((eG n2).trans g4) h6 (none_of L (by rw[aI n1]at c5;exact c5)) (none_of L (by rw[aI n2]at c4;exact c4))
  obtain⟨j,hj,ej⟩:=Ct.mp (Zc.mpr O);exact J j l hj (by rw[Aa hj,ej])
theorem N2:∀ {a:Q6} {b:List Nat} {i:Nat} {d:List Nat},a[i]?=some d->(tW a b)[i]?=some ((b.drop (gH a i)).take d.length)
 |c::r,b,0,d,h=>by cases h;rfl
 |c::r,b,i+1,d,h=>by
  show (tW r _)[i]?=_
  rw[N2 (show r[i]?=some d from h),List.drop_drop];rfl
def HI(cs:List Nat)(c:Nat):cnt cs c=(Xq cs c:Int):=by
 unfold cnt Xq;grind
def mE{p:List α->Prop}(c:p [])(h1:∀l a,p l->p (l++[a])):∀l,p l:=λl=>by
 have h:∀r:List α,p r.reverse:=λr=>by
  induction r with
  |nil=>exact c
  |cons a r b=>rw[List.reverse_cons];exact h1 _ _ b
 have:=h l.reverse
 grind
noncomputable def iW(hs:List (Option (List Nat)))(a:List (Nat×List Nat)):List (Option (List Nat)):=a.foldl (λh z=>h.set z.1 (some z.2)) hs
def gS(hs:Q4)(a:List (Nat×List Nat))(z:Nat×List Nat):iW hs (a++[z])=(iW hs a).set z.1 (some z.2):=by
 unfold iW;simp_all
def fZ(hs:Q4):∀a,(iW hs a).length=hs.length:=λa=>by
 refine mE (p:=λa=>(iW hs a).length=hs.length) rfl (λa z b=>?_) a;rw[gS,Cg,b]
def pL(hs:Q4):∀a,(∀z∈a,z.1≠k)->(iW hs a).getD k none=hs.getD k none:=λa=>by
 refine mE (p:=λa=>(∀z∈a,z.1≠k)->(iW hs a).getD k none=hs.getD k none) (λ_=>rfl) (λa z b=>?_) a
 .intro h;rw[gS,Ad,Ec (h z (Bd _ Al)),<-Ad];exact b λy c=>h y (Cm _ c)
def P6(hs:Q4):∀a,(a.map (·.1)).Nodup->(∀z∈a,z.1<hs.length)->∀z∈a,(iW hs a).getD z.1 none=some z.2:=λa=>by
 refine mE (p:=λa=>(a.map (·.1)).Nodup->(∀z∈a,z.1<hs.length)->∀z∈a,(iW hs a).getD z.1 none=some z.2) (λ_ _ z c=>nomatch c) (λa y g=>?_) a
 .intro b d z c;rw[Aw,Ax,Ja]at b;rw[gS];rcases Bs.mp c with e|e
  .have f:y.1≠z.1:=λq=>(Eb.mp b).2.2 z.1 (List.mem_map_of_mem e) y.1 Al q.symm
   rw[Ad,Ec f,<-Ad];exact g (Eb.mp b).1 (λw h=>d w (Cm _ h)) z e
  .rw[Aj.mp e,Ad,Ei (by rw[fZ];exact d y (Bd _ Al))]
   rfl
def QV(ok:fG hs):∀a,(∀z∈a,cW (z.2.map one)=true)->fG (iW hs a):=λa=>by
 refine mE (p:=λa=>(∀z∈a,cW (z.2.map one)=true)->fG (iW hs a)) (λ_=>ok) (λa z c=>?_) a;intro h f b;rw[gS]at b;rcases Gf b with e|e
 .exact c (λy d=>h y (Cm _ d)) f e
 .cases e;exact h z (Bd _ Al)
theorem PR:∀ {L:List Nat} {a:Q6},L.length=a.length->(∀z∈L.zip a,hs.getD z.1 none=some z.2)->aT hs L=a.flatten
 |[],[],_,_=>rfl
 |k::L,g::a,hl,h=>by
  show ((hs.getD k none).getD [])++aT hs L=g++a.flatten
  rw[show hs.getD k none=some g from h _ List.mem_cons_self,PR (by simp_all) λz b=>h z (List.mem_cons_of_mem _ b)]
  rfl
def Z5.set(a:Z5 H vs hs)(b:Y4 H v h):Z5 H (vs.set k v) (hs.set k h):=by
 refine⟨by rw[Cg,Cg,a.len],λj u g c d=>?_⟩
 by_cases e:k=j
 .subst e;have i:=(Ae.mp c).1
  have f:=(Ae.mp d).1
  simp_all
 .rw[Ec e]at c d;exact a.val j u g c d
def UA(h:Z2 H p=some xs)(n:p≠D)(b:∀z u,z≠D->H z=some u->H' z=some u):Z2 H' p=some xs:=by
 refine aM (H:=λz=>if z=p then H z else none) (λz u e=>?_) ?_
 .dsimp only at e;by_cases a:z=p
  .rw[if_pos a]at e;rw[a]at e ⊢;exact b p u n e
  grind
 .unfold Z2 at h ⊢;grind
def JF{L:List α}{M:List β}{a:α}{b:β}(h1:L[i]?=some a)(c:M[i]?=some b):(L.zip M).take (i+1)=(L.zip M).take i++[(a,b)]:=by
 rw[Bl];congr 1
 have:(L.zip M)[i]?=some (a,b):=by rw[List.getElem?_zip_eq_some];exact⟨h1,c⟩
 rw[this];rfl
def P1(b:∀d∈cw,aZ d)(a:k<cw.length)(h:c∈X6 cw k):eO c:=by
 rcases Yo.mp h with e|⟨m,_,f,_,e⟩
 .apply Or.inl
  simp_all
 .apply Or.inr
  unfold eV;omega
theorem Ul:∀ {f m:Q6},Yh f m->(∀c∈f,1<=c.length/\c.length<=7/\∀d∈c,aZ d)->(∀g∈m,cW (g.map one)=true/\∀c∈g,eO c)
 |_,_,.nil,_,g,hg=>nomatch hg
 |_,_,.cons (cw:=cw) (h:=h) a b,hW,g,hg=>by
  rcases Bb.mp hg with e|e
  .rw[e];obtain⟨o,n,l⟩:=hW cw Al;refine⟨BJ l (by rw[a.1];exact o) (by rw[a.1];exact n) (by rw[a.1];exact Ah _) λk i=>?_,λc j=>?_⟩
   .exact a.2 k _ (by rw[Ad,Aa i];rfl)
   .obtain⟨k,i,p⟩:=Ct.mp j;exact P1 l (by rw[<-a.1];exact i) (a.2 k c (by rw[Aa i,p]))
  .exact Ul b (λc j=>hW c (Ao _ j)) g e
theorem Yh.VA:∀ {a c:Q6},Yh a c->c.length=a.length
 |_,_,.nil=>rfl
 |_,_,.cons _ b=>by rw[Az,Az,b.VA]
def tJ(f:Nat->Option Int)(hs:Q4)(L:List Nat)(c:Nat):0<=aO (gL f hs L) c:=by
 show 0<=(bK _ c).getD 0
 unfold bK;split
 .rename_i h;exact Int.le_of_lt h.2
 .exact Jn _
def L5(hs:Q4)(n:Nat):(aW hs n).Nodup:=List.Nodup.sublist Gq Hy
def rG(h:ks.Sublist (aW hs n)):(n::ks).Nodup:=Co.mpr ⟨λz=>(dZ (h.subset z)).2.2 rfl,(L5 hs n).sublist h⟩
def xF(ok:fG hs)(h1:1<=cw.length)(m:cw.length<=7/\∀d∈cw,aZ d)(l:∀k∈ks,k<hs.length/\(hs.getD k none).isSome=true):∀c∈bQ hs cw ks,1<=c.length/\c.length<=7/\∀d∈c,aZ d:=λc f=>by
 refine⟨?_,nO ok m l c f⟩;rcases Bb.mp f with e|e
 .rw[e];exact h1
 .obtain⟨k,h,rfl⟩:=Bg.mp e;obtain⟨b,a⟩:=l k h;cases i:hs.getD k none with
  |none=>rw[i]at a;cases a
  |some j=>
   have n:=ok j (by grind)
   have g:=gR n
   rw[Ab]at g;show 1<=(Y9 j).length
   rw[SS];exact g.1
def HN(H:Hp)(a b:Addr)(e:List (Key×V))(f:Nat->Option Int)(us:List V)(hs:List (Option (List Nat)))(n:Nat)(cw:List Nat):Prop:=H a=some (.dK e)/\Lk e f/\(∀c,0<=aO f c)/\Z2 H b=some us/\Z5 H us hs/\fG hs/\hs.length<=6/\n<hs.length/\1<=cw.length/\cw.length<=7/\(∀d∈cw,aZ d)
inductive rK(x:Addr)(v:List V)(H:Hp)(Q:VK)(E:XK):Prop|mk(a b r f w e n h:_)(_:v=[.ref a,.ref b,.int ((n:Nat):Int),.str (aU h)])(_:HN H a b r f w e n h)(_:(∀t L B R g (o:Q6) j i m d,Z_ H d->H t=none->d t=some (.tup [.ref L,.ref B,.ref R])->H L=none->d L=some (.lst (g.map λk=>V.int ((k:Nat):Int)))->kJ f e n h g j->Yh (bQ e h g) o->(∀c,cnt o.flatten c<=aO (gL f e (n::g)) c)->H B=none->d B=some (.lst i)->Z5 d i (iW e ((n::g).zip o))->H R=none->d R=some (.dK m)->Lk m (bK λc=>aO (gL f e (n::g)) c-cnt o.flatten c)->Q (.ref t) d))(_:((∀l,l.Sublist (aW e n)->¬xH f e n h l)->∀s q p u W F d,Z_ H d->d s=some (YT s [("flags",.ref p),("wants",.ref q)])->d q=some (.lst (u.map V.ref))->ZV d u W->d p=some (.lst ((F.map one).map V.str))->Zs (bQ e h (aW e n)) (lR f e (n::aW e n)) W F->H q=none->H p=none->E (.ref x) (some s) d)):rK x v H Q E
def w8:Z9 ["locker", "halyards", "number", "word", "lowered", "rehung", "more", "behind", "at", "hoist"] ["locker", "halyards", "number", "word"] (aK vI):=by fail "sc"
def L1(F:ZR K "hauled" "hauled" vI f fd)(z5:ZJ P w K mg base 2 "put_in" ["locker", "flags"] nI)(g9:lY P w K mg base 11 "least_set" ["locker", "halyards", "number", "word"] (qV Zt))(y6:ZJ P w K mg base 1 "flags_on" ["halyards", "numbers"] iT)(w4:lY P w K mg base 3 "hang_all" ["locker", "words"] (mJ Zt))(f8:lY P w K mg base 3 "taken" ["locker", "flags"] (O9 Zu))(w6:ZJ P w K mg base 5 "words_with" ["halyards", "word", "lowered"] iY):Z6 P w K mg base (Y3 P w) 12 f fd ["locker", "halyards", "number", "word"] (rK Zt):=by
 refine F.W3 w8 (λvs H Q E h=>?_) (λn2 A g5 s H vs Q E hr h=>?_)
 .obtain⟨a,b,c1,f,us,hs,n,I,rfl,_⟩:=h;rfl
 obtain⟨a,b,c1,f,us,hs,n,I,rfl,⟨ha,lk,f6,hb,c9,ok,h6,hn,j9,c6,c5⟩,q,qe⟩:=h;refine⟨_,(@aE _ _ _ _ _ (aQ 4 w8.nd (bJ cA (dX g9 cS hr (by decide) rfl (aA (mv 0) (aA (mv 1) (aA (mv 2) (aA (mv 3) aB))))) aJ (λ_ _=>rfl))) (@aE _ _ _ _ _ (aQ 5 w8.nd (aV cE (bZ (aA (mv 2) aB)) (mv 4))) (@aE _ _ _ _ _ (aQ 6 w8.nd (bF z5 hr (by decide) rfl (aA (mv 0) (aA (bF y6 hr (by decide) rfl (aA (mv 1) (aA (mv 5) aB))) aB)))) (@aE _ _ _ _ _ (kM (i:=7) w8.nd rfl (Or.inl rfl) rfl (dD (mv 1)) (mU (N:=["hoist"]) (by right) (by right)) (by right) rfl (by right) (λ_ _ _ _=>(bB (i:=0) (show List.Nodup (["hoist"]:List Str) by right) rfl (Or.inl rfl))) (λ_ _ _ _=>dP) (λ_ _ _ _=>(vC (aY uR (mv 0) cF (bA _)) cF (bN jC rfl G.b_list dH (aA (mv 0) aB))))) (@aE _ _ _ _ _ (cK PassesOwn.leaving rfl (OH rfl G.b_zip (aA (mv 5) (aA (dX w4 cS hr (by decide) rfl (aA (mv 6) (aA (bF w6 hr (by decide) rfl (aA (mv 1) (aA (mv 3) (aA (mv 4) aB)))) aB))) aB))) (eC (K:=K) (i:=8) (j:=9) (by rfl) (by rfl) w8.nd (by rfl) (by exact(Or.inl rfl)) (by exact Or.inl rfl) (by rfl) (by exact(Or.inl rfl)) (by exact Or.inl rfl)) (@aH _ _ _ (wU (mv 9) (UN (mv 7) (mv 8) qM)))) (@aH _ _ _ (aR (gI (aA (mv 4) (aA (mv 7) (aA (dX f8 cS hr (by decide) rfl (aA (mv 6) (aA (bF y6 hr (by decide) rfl (aA (mv 7) (aA (mv 5) aB))) aB))) aB))))))))))),?_⟩
 have m6:=pK hn
 left;refine⟨a,b,c1,f,us,hs,n,I,rfl,ha,lk,f6,hb,c9,ok,h6,hn,c6,c5,λt0 L p0 ts d j H1 s1 m2 et hL eL a1 _ _ _ _=>?_,qe⟩;have c3:=Zc.mp (Ap a1.1)
 have S:∀k∈d,k<hs.length/\(hs.getD k none).isSome=true:=λk hk=>by
  have:=dZ (c3.subset hk)
  exact⟨this.1,this.2.1⟩
 have m9:d.length<=5:=by have:=c3.length_le;omega
 have c7:=aM s1 hb
 have a5:=c9.keep s1
 refine dS et (v:=.ref L) rfl ?_;left;refine⟨r0,λp5 j3=>?_⟩
 have s5:=aG j3 (.lst [V.int ((n:Nat):Int)])
 have e5:(upd H1 p5 (.lst [V.int ((n:Nat):Int)])) p5=some (.lst [V.int ((n:Nat):Int)]):=aD
 generalize upd H1 p5 (.lst [V.int ((n:Nat):Int)])=H5 at s5 e5 ⊢;left;refine sF (bP e5) (bP (s5 _ _ eL)) (bH (by rw[qJ];show 1+_<=_;omega)) λp6 j2=>?_
 have s6:=aG j2 (.lst ((n::d).map λk=>V.int ((k:Nat):Int)))
 have e6:Z2 (upd H5 p6 (.lst ((n::d).map λk=>V.int ((k:Nat):Int)))) p6=some ((n::d).map λk=>V.int ((k:Nat):Int)):=cV
 change lD _ _ _ (upd H5 p6 (.lst ((n::d).map λk=>V.int ((k:Nat):Int)))) _
 generalize upd H5 p6 (.lst ((n::d).map λk=>V.int ((k:Nat):Int)))=H6 at s6 e6 ⊢;have b8:=s5.trans s6
 left;refine⟨b,p6,us,hs,n::d,rfl,aM b8 c7,a5.keep b8,ok,e6,by show d.length+1<=7;omega,λk hk=>by rcases Bb.mp hk with e|e;(· rw[e];exact hn);(· exact(S k e).1),λr7 H7 m5 s7 e7=>?_⟩
 have d3:=b8.trans s7
 have k2:=gU ok (n::d)
 left;refine⟨a,r7,c1,f,aT hs (n::d),rfl,d3 _ _ (s1 _ _ ha),lk,f6,aP e7,by rw[Az]at k2;omega,λr8 b9 H8 m4 s8 e8 d9=>?_⟩
 have R:=d3.trans s8
 have a6:=aM (s7.trans s8) e6
 have k1:=aM R c7
 have f9:=a5.keep R
 have h7:=c9.len
 left;refine Ud (hs:=hs) k1 (bG (by omega)) h7 (λi x h Hc A B hx hh sm hA=>?_) (λD Hd vs hD sD hd f7 n1=>?_)
 .have hv:=(f9.keep sm).val i x h hx hh
  cases h with
  |none=>
   obtain rfl:x=V.non:=hv;left;refine⟨Wk.set rfl (Wk.refl _),?_⟩;left;rw[show decide (V.non=V.non)=true from rfl];left;exact hA .non _ (Z_.refl _) rfl λp z=>nomatch z
  |some cs=>
   obtain⟨pc,rfl,j1⟩:=hv;have rc:=aP j1
   left;refine⟨Wk.set rfl (Wk.refl _),?_⟩;left;rw[show decide (V.ref pc=V.non)=false from As (λz=>nomatch z)]
   left;intro l2 f2;exact hA (.ref l2) _ (aG f2 _) ⟨l2,rfl,aD⟩ λp z=>by cases z;exact f2
 .have b7:=R.trans sD
  have k6:=aM sD a6
  have k3:=b7 _ _ eL
  left;refine⟨b,L,us,hs,I,d,rfl,aM b7 c7,a5.keep b7,ok,aP k3,by omega,S,λr9 H9 m3 s9 e9=>?_⟩
  left;refine⟨r8,r9,b9,gL f hs (n::d),bQ hs I d,rfl,.inl (s9 _ _ (sD _ _ e8)),d9,aP e9,by unfold bQ;rw[Az,Ab];omega,nO ok ⟨c6,c5⟩ S,λrh ps fs d1 e3 d5 er m7 f1 f5 j7 j6=>?_,λdx l1 l2 rs W F d1 d5 _ _ _ _ j4 _ _=>absurd a1.2.1 (O3 j4)⟩
  have J:=s9.trans d5
  have a8:=MV f5 j7
  have a2:=zR (f5.trans (Q_ (bQ hs I d)))
  have a9:=a8.VA
  have e4:∀(i:Nat) p g,ps[i]?=some p->(tW (bQ hs I d) fs)[i]?=some g->d1 p=some (.lst ((g.map one).map V.str))/\p≠D:=λi p g hp hg=>by
   have hi:i<(bQ hs I d).length:=by rw[<-a9];exact(Ae.mp hg).1
   have ec:(bQ hs I d)[i]?=some (bQ hs I d)[i]:=Aa hi
   rw[N2 ec]at hg;obtain⟨h1,h2⟩:=f1.2 i p (pR (bQ hs I d) fs i) hp (by rw[Ai,List.getElem?_range hi];rfl)
   refine⟨?_,λz=>by rw[z,s9 _ _ hd]at h1;cases h1⟩
   unfold pR at h2;rw[Ad,ec]at h2;cases hg;exact h2
  have a3:∀c,cnt (tW (bQ hs I d) fs).flatten c<=aO (gL f hs (n::d)) c:=λc=>by
   rw[a2,HI];exact Int.le_trans (j6 c) (GO (tJ f hs (n::d)) c)
  have c2:=xF ok j9 ⟨c6,c5⟩ S
  have c4:=Ul a8 c2
  have Z:ps.length=(tW (bQ hs I d) fs).length:=by rw[f1.1,Ab,Bw,a9]
  have r:(tW (bQ hs I d) fs).length=(n::d).length:=by rw[a9];show ((d.map _).length+1)=d.length+1;rw[Ab]
  generalize tW (bQ hs I d) fs=C at a8 a2 a9 e4 a3 c4 Z r;have b6:=aM J k6
  have g1:=aP er
  have g2:=J _ _ hd
  have c8:=f7.keep J
  have d8:p6≠D:=λz=>by rw[z]at a6;unfold Z2 at a6;rw[hD]at a6;cases a6
  have g7:rh≠D:=λz=>by rw[z,s9 _ _ hd]at e3;cases e3
  have d2:=sD.trans J
  left;refine OT (xs:=((n::d).map λk=>V.int ((k:Nat):Int))) (ys:=ps.map V.ref) (λi U H'=>∃v8 v9 ws,U=[some (.ref a),some (.ref b),some (.int ((n:Nat):Int)),some (.str (aU I)),some (.ref L),some (.ref p6),some (.ref r8),some (.ref D),v8,v9]/\Z_ H8 H'/\(∀z u,z≠D->d1 z=some u->H' z=some u)/\H' D=some (.lst ws)/\Z5 H' ws (iW hs (((n::d).zip C).take i)))
   ⟨_,_,vs,rfl,d2,λz u _ h=>h,g2,c8⟩ (λi U H' _ _ ⟨_,_,_,_,_,fr,_⟩=>⟨UA b6 d8 fr,UA g1 g7 fr⟩) ?_ ?_
  .rintro i x y U a7 pt hx hy ⟨v8,v9,ws,rfl,Y,O,b1,l⟩ h9;obtain⟨k,hk,rfl⟩:=uE hx;obtain⟨pg,b2,rfl⟩:=SR hy;have j5:i<C.length:=by rw[<-Z];exact(Ae.mp b2).1
   have eg:C[i]?=some C[i]:=Aa j5
   obtain⟨b5,d7⟩:=e4 i pg _ b2 eg;have b4:=O _ _ d7 b5
   have k9:k<hs.length:=by rcases Bb.mp (Ap hk) with e|e;(· rw[e];exact hn);(· exact(S k e).1)
   have h5:ws.length=hs.length:=by rw[l.len,fZ]
   have tk:=JF hk eg
   generalize C[i]=g at eg b5 b4 tk;have m:=aG h9 (.tup [.int ((k:Nat):Int),.ref pg])
   have g3:nV (upd a7 pt (.tup [.int ((k:Nat):Int),.ref pg])) pt=some [.int ((k:Nat):Int),.ref pg]:=sP
   have T:=m _ _ b1
   have a4:=l.keep m
   have b3:=m _ _ b4
   generalize upd a7 pt (.tup [.int ((k:Nat):Int),.ref pg])=k7 at m g3 T a4 b3 ⊢;left;refine U_ (o:=.non) (bP T) (UR (by omega) (by rw[h5];omega)) ?_
   rw[show ((k:Nat):Int).toNat=k from rfl];refine⟨_,_,ws.set k (.ref pg),rfl,bL hD (Y.trans m),λz u hz h=>by rw[aI hz];exact m _ _ (O z u hz h),aD,?_⟩
   rw[tk,gS];exact(a4.put T).set ⟨pg,rfl,by rw[aI d7];exact b3⟩
  .rintro U a7 ⟨v8,v9,ws,rfl,Y,O,b1,l⟩;have h4:((n::d).zip C).length=(n::d).length:=by rw[List.length_zip,r,Nat.min_self]
   rw[qJ,Ab,Z,r,Nat.min_self,<-h4,Bq]at l;have e2:∀z∈(n::d).zip C,z.1∈n::d/\z.2∈C:=λz hz=>Er hz
   have d6:fG (iW hs ((n::d).zip C)):=QV ok _ λz hz=>(c4 z.2 (e2 z hz).2).1
   have f3:∀k∈n::d,k<hs.length:=λk hk=>by rcases Bb.mp hk with e|e;(· rw[e];exact hn);(· exact(S k e).1)
   have g6:(((n::d).zip C).map (·.1)).Nodup:=by
    rw[show ((n::d).zip C).map (·.1)=n::d from List.map_fst_zip (by rw[r];exact Ah _)]
    exact rG c3
   have f4:aT (iW hs ((n::d).zip C)) (n::d)=C.flatten:=PR r.symm (P6 hs _ g6 λz hz=>f3 z.1 (e2 z hz).1)
   have k5:=UA b6 d8 O
   have k4:a7 r8=some (.dK b9):=Y _ _ e8
   left;refine⟨D,p6,ws,_,n::d,rfl,aP b1,l,d6,k5,by show d.length+1<=7;omega,λk hk=>by rw[fZ];exact f3 k hk,λg4 k7 k8 m T=>?_⟩
   rw[f4]at T;have m1:C.flatten.length<=42:=by
    have:=gU d6 (n::d)
    rw[f4,Az]at this;omega
   left;refine⟨r8,g4,b9,gL f hs (n::d),C.flatten,rfl,m _ _ k4,d9,tJ f hs (n::d),aP T,by omega,λc hc=>by obtain⟨g,hg,j8⟩:=List.mem_flatten.mp hc;exact(c4 g hg).2 c j8,λ_ rR h3 n3 h8 d4 eR g8=>?_,λi c hi _ m8=>?_⟩
   .left;refine⟨o0,λt ht=>?_⟩
    have e1:=aG ht (.tup [.ref L,.ref D,.ref rR])
    have M:=m.trans (d4.trans e1)
    have X:Z_ H a7:=s1.trans (R.trans Y)
    refine q t L D rR d C j ws h3 _ (X.trans M) (none_of (X.trans (m.trans d4)) ht) aD hL (M _ _ (Y _ _ (R _ _ eL))) a1 a8 a3 (none_of (s1.trans R) hD) (M _ _ b1) (l.keep M) (none_of (X.trans m) h8) (e1 _ _ eR) g8
   .have h1:=MF hi
    have h2:=a3 c
    omega
def mF(c:Addr):Sp:=λd H Q _=>∃a v,d=[.ref a,v]/\H a=some (eP a c none)/\∀b,H b=none->Q .non (upd (upd H a (eP a c (some b))) b (YT b [("at",v)]))
def uZ:Z9 ["self", "at"] ["self", "at"] (aK iU):=by fail "sc"
def vV(F:ZR K "__init__" "NoWord.__init__" iU f fd):Z6 P w K mg base ZP 1 f fd ["self", "at"] (mF Zw):=by
 refine F.ok uZ (λd H Q E h=>?_) (λe A a s H d Q E i h=>?_)
 .obtain⟨b,v,rfl,_⟩:=h;rfl
 obtain⟨b,v,rfl,c,q⟩:=h;refine⟨_,(@aE _ _ _ _ _ (cP (vJ rfl G.c_TowerError G.t1_TowerError G.t2_TowerError G.t3_TowerError (aA (mv 0) (aA (mv 1) aB)))) (@aH _ _ _ (tZ (mv 0) (mv 1) rfl))),?_⟩;refine⟨b,[v],Zw,Zz,none,rfl,r0,c,(λ_ z=>nomatch z),G.Yv,?_⟩
 exact⟨b,Zw,Zz,rfl,G.Yv,G.xn_NoWord_at,.inl ⟨c,q⟩⟩
def vR:Sp:=λa H Q _=>∃c,a=[.str (one c)]/\aZ c/\Q (.int ((c-97:Nat):Int)) H
def vA:Sp:=λb H Q _=>∃z,b=[.str z]/\z.length<=1000/\∀a,Z_ H a->Q (.bl (pC z)) a
def nZ:Sp:=λc H Q _=>∃b,(c=[.str (aU b)]\/∃a,c=[.ref a]/\Z2 H a=some ((b.map one).map V.str))/\b.length<=1000/\(∀d∈b,aZ d)/\∀e,Z_ H e->Q (.bl (kX b)) e
def oM:Sp:=λc H Q _=>∃a,c=[.str (aU a)]/\a.length<=7/\(∀d∈a,aZ d)/\∀b,Z_ H b->Q (.bl (xT a)) b
def EX:Z9 ["letter"] ["letter"] (aK rH):=by fail "sc"
def KQ(F:ZR K "rank_of" "rank_of" rH f fd):Z6 P w K mg base ZP 1 f fd ["letter"] vR:=by
 refine F.ok EX (λb H Q E h=>?_) (λe A a s H b Q E i h=>?_)
 .obtain⟨c,rfl,_⟩:=h;rfl
 obtain⟨c,rfl,d,q⟩:=h;refine⟨_,(@aH _ _ _ (aR (cX Gb PySem.F.slot_str_index PySem.F.type_str_index Jy (fO rfl G.s_LETTERS) (aA (mv 0) aB)))),?_⟩;left;exact M6 (JR d) q
def Kv:Z9 ["text"] ["text"] (aK rX):=by fail "sc"
def Jr(F:ZR K "is_word" "is_word" rX f fd):Z6 P w K mg base ZP 1 f fd ["text"] vA:=by
 refine F.ok Kv (λk H Q E h=>?_) (λt A a s H k Q E v h=>?_)
 .obtain⟨z,rfl,_⟩:=h;rfl
 obtain⟨z,rfl,x,q⟩:=h;refine⟨_,(@aE _ _ _ _ _ (bS (PW.pt (gJ (aY WK (aX dA rfl G.b_len cC (aA (mv 0) aB)) aJ (bA _)) (gB (aY VS (aX dA rfl G.b_len cC (aA (mv 0) aB)) (OU rfl G.s_MOST_PLACES) (bA _))))) (@aH _ _ _ (aR eI)) bC) (@aH _ _ _ (aR (aX (Pz rfl) rfl G.b_all Ow (aA (dB rfl (sQ (mv 0)) (mU (N:=["sign"]) (by right) (by right)) (by right) rfl (by right) (λ_ _ _ _=>(bB (i:=0) (show List.Nodup (["sign"]:List Str) by right) rfl (Or.inl rfl))) (λ_ _ _ _=>dP) (λ_ _ _ _=>(fM UB (mv 0) (fO rfl G.s_LETTERS) (by rfl)))) aB))))),?_⟩
 left;refine fF (λj=>?_) (λj=>?_)
 .left;have e:pC z=false:=if_pos (.inl (by have:=Bf j;omega))
  have r:=q H (Z_.refl H)
  rwa[e]at r
 .have d:=Bv (Cd.mpr j)
  left;refine fF (λb=>?_) (λb=>?_)
  .left;have e:pC z=false:=if_pos (.inr (by have:=Bf b;omega))
   have r:=q H (Z_.refl H)
   rwa[e]at r
  .have m:=Bv (Cd.mpr b)
   left;refine N0 (λc=>some (.bl (decide (c∈Z8.cps.toList)))) (bG (by omega)) (λi c u A B d o=>?_) (λD n=>?_)
   .left;refine⟨Wk.set rfl (Wk.refl _),?_⟩;left;have e:subIn ⟨#[c]⟩ Z8=decide (c∈Z8.cps.toList):=sO _ _
    show A (.bl (subIn ⟨#[c]⟩ Z8)) u
    rwa[e]
   .left;have e:z.cps.toList.filterMap (λc=>some (V.bl (decide (c∈Z8.cps.toList))))=(z.cps.toList.map λc=>decide (c∈Z8.cps.toList)).map V.bl:=by
     rw[Bz];exact uD _ _
    rw[e];have l:Z_ H (upd H D (.lst ((z.cps.toList.map λc=>decide (c∈Z8.cps.toList)).map V.bl))):=aG n _
    refine Qh (bs:=z.cps.toList.map λc=>decide (c∈Z8.cps.toList)) cV ?_;have p:pC z=(z.cps.toList.map λc=>decide (c∈Z8.cps.toList)).all id:=by
     unfold pC SG;rw[if_neg (by omega),List.all_map]
     rfl
    have r:=q _ l
    rwa[p]at r
noncomputable def W7(cs:List Nat)(i:Nat):Int:=((1+i:Nat):Int)*((cs.getD i 0-97:Nat):Int)
def RG(g:cs.length<=1000)(f:∀d∈cs,aZ d):∀n∈(List.range cs.length).map (W7 cs),0<=n/\n<=1000000:=λn b=>by
 obtain⟨i,c,rfl⟩:=Bg.mp b;have a:=Bh.mp c
 have e:=mM f a
 unfold aZ at e;unfold W7;have h:_*((cs.getD i 0-97:Nat):Int)<=((1+i:Nat):Int)*22:=Int.mul_le_mul_of_nonneg_left (by omega) (by omega)
 exact⟨Int.mul_nonneg (by omega) (by omega),by omega⟩
def f9:Z9 ["letters", "weighed"] ["letters"] (aK kT):=by fail "sc"
def xN(F:ZR K "is_divided" "is_divided" kT f fd)(L:ZJ P w K mg base 1 "rank_of" ["letter"] vR):Z6 P w K mg base ZP 2 f fd ["letters"] nZ:=by
 refine F.ok f9 (λR H Q E h=>?_) (λa1 A v s H R Q E M h=>?_)
 .obtain⟨b,rfl|⟨a,rfl,_⟩,_⟩:=h<;>rfl
 obtain⟨b,W,Y,u,q⟩:=h;have t:∀D d,Z_ H d->Z2 d D=some (((List.range b.length).map (W7 b)).map V.int)->∀J,(J (.int (jO b b.length)) d)->Va [.ref D] d J:=λD d l C J T=>
  T5 C (RG Y u) (by rw[Ab,Bw];omega) T
 have O:∀G,(∀i,i<b.length->G i=some (V.int (W7 b i)))->(List.range b.length).filterMap G=((List.range b.length).map (W7 b)).map V.int:=λG hG=>by
  rw[Bz,<-uD];exact jJ λi m=>hG i (Bh.mp m)
 rcases W with rfl|⟨a,rfl,Z⟩
 .refine⟨_,(@aE _ _ _ _ _ (kM (i:=1) f9.nd rfl (Or.inl rfl) rfl (P4 rfl G.b_enumerate (aA (mv 0) aB) (Tt aJ Ua)) (mU (N:=["place", "letter"]) (by right) (by right)) (by right) rfl (by right) (λ_ _ _ _=>(eC (K:=K) (i:=0) (j:=1) (by rfl) (by rfl) (show List.Nodup (["place", "letter"]:List Str) by right) (by rfl) (by exact Or.inl rfl) (by exact Or.inr rfl) (by rfl) (by exact Or.inl rfl) (Or.inr rfl))) (λ_ _ _ _=>dP) (λ_ _ _ _=>(aV oA (mv 0) (bF L M (by decide) rfl (aA (mv 1) aB))))) (@aH _ _ _ (aR (fM lG (aV eE (aX (Sm rfl) rfl G.b_sum UW (aA (mv 1) aB)) (aX dA rfl G.b_len cC (aA (fO rfl G.s_LETTERS) aB))) aJ (bA _))))),?_⟩
  left;refine⟨⟨by omega,by omega⟩,Jv u,?_⟩
  refine E6 (k:=1) (λi c=>some (V.int (((1+i:Nat):Int)*((c-97:Nat):Int)))) (by rw[cG];exact bG (by omega)) (λi c Hc p A B y S X I=>?_) (λD d C l n=>?_)
  .have m:=(Ae.mp y).1
   rw[gY]at m;left;refine⟨Wk.set rfl (Wk.set rfl (Wk.refl _)),?_⟩;left;refine⟨c,rfl,u c (by rw[gY]at y;exact Ap y),?_⟩
   left;exact I _ (Z_.refl _)
  .rw[cG,gY]at n;rw[O (λi=>some (V.int (((1+i:Nat):Int)*((b.getD i 0-97:Nat):Int)))) (λi _=>rfl)]at n;left;refine t D d l n _ ?_;left;have r:=q d l
   exact r
 .refine⟨_,(@aE _ _ _ _ _ (kM (i:=1) f9.nd rfl (Or.inl rfl) rfl (P4 rfl G.b_enumerate (aA (mv 0) aB) (Tt aJ Ua)) (mU (N:=["place", "letter"]) (by right) (by right)) (by right) rfl (by right) (λ_ _ _ _=>(eC (K:=K) (i:=0) (j:=1) (by rfl) (by rfl) (show List.Nodup (["place", "letter"]:List Str) by right) (by rfl) (Or.inl rfl) (Or.inr rfl) (by rfl) (Or.inl rfl) (Or.inr rfl))) (λ_ _ _ _=>dP) (λ_ _ _ _=>(aV oA (mv 0) (bF L M (by decide) rfl (aA (mv 1) aB))))) (@aH _ _ _ (aR (fM lG (aV eE (aX (Sm rfl) rfl G.b_sum UW (aA (mv 1) aB)) (aX dA rfl G.b_len cC (aA (fO rfl G.s_LETTERS) aB))) aJ (bA _))))),?_⟩
  left;refine⟨⟨by omega,by omega⟩,?_⟩
  left;refine Pd (k:=1) (xs:=(b.map one).map V.str) (λi x=>match x with|.str z=>some (V.int (((1+i:Nat):Int)*((lM z-97:Nat):Int)))|_=>none) Z (by rw[Ab,Ab];exact bG (by omega)) (λi x Hc p A B U S X I=>?_) (λD d C l n=>?_)
  .obtain⟨z,o,rfl⟩:=jT U;rw[Ai]at o;cases e:b[i]? with
   |none=>rw[e]at o;cases o
   |some c=>
    have m:=(Ae.mp e).1
    rw[e]at o;cases o;left;refine⟨Wk.set rfl (Wk.set rfl (Wk.refl _)),?_⟩;left;refine⟨c,rfl,u c (Ap e),?_⟩;left;exact I _ (Z_.refl _)
  .rw[Ab,Ab,O _ (λi m=>?_)]at n
   .left;refine t D d l n _ ?_;left;have r:=q d l
    exact r
   .have e:((b.map one).map V.str).getD i .non=.str (one (b.getD i 0)):=by
     rw[Ad,Ai,Ai,Ad,Aa m];rfl
    rw[e];rfl
def xQ:Z9 ["word"] ["word"] (aK jV):=by fail "sc"
def yE(F:ZR K "is_checked" "is_checked" jV f fd)(x:ZJ P w K mg base 1 "is_word" ["text"] vA)(v:ZJ P w K mg base 2 "is_divided" ["letters"] nZ):Z6 P w K mg base ZP 3 f fd ["word"] oM:=by
 refine F.ok xQ (λn H Q E h=>?_) (λu A c s H n Q E j h=>?_)
 .obtain⟨a,rfl,_⟩:=h;rfl
 obtain⟨a,rfl,t,l,q⟩:=h;refine⟨_,(@aH _ _ _ (aR (Tf (bF x j (by decide) rfl (aA (mv 0) aB)) (Tf (fM VS (aX dA rfl G.b_len cC (aA (mv 0) aB)) aJ (bA _)) (Uc (bF v j (by decide) rfl (aA (mv 0) aB))))))),?_⟩
 have d:=cG a
 left;refine⟨_,rfl,by omega,λm b=>?_⟩
 rw[BV l t];left;refine fF (λk=>?_) (λk=>?_)
 .left;rw[d];refine fF (λi=>?_) (λi=>?_)
  .have e:=Bf i
   left;refine⟨a,.inl rfl,by omega,l,λy o=>?_⟩
   have r:=q y (b.trans o)
   unfold xT at r;rw[An (by omega),Bool.true_and]at r
   exact r
  .have e:=Bv (Cd.mpr i)
   have r:=q m b
   unfold xT at r;rw[As (by omega),Bool.false_and]at r
   exact r
 .have p:=Bv (Cd.mpr k)
  have r:=q m b
  unfold xT at r;rw[As (by omega),Bool.false_and]at r
  exact r
def MD(g:cs.length<=7)(f:∀d∈cs,aZ d){k d c:Nat}(a:k<cs.length)(b:aZ d)(h:kX (cs.set k d)=true)(e:aZ c):kX (cs.set k c)=decide (c=d):=by
 have q:=Kw  (by simp_all) (Ld f b) (k:=k)  (by simp_all) e h
 simp_all
def qB{x:Nat}:(cs++[x]).set cs.length d=cs++[d]:=by grind
def Mq(e:∀d∈cs,aZ d){c:Nat}(b:aZ c):∀d∈cs++[c],aZ d:=λd a=>by grind
def Ri(g:cs.length<=6)(e:∀d∈cs,aZ d){c:Nat}(a:aZ d)(h:kX (cs++[d])=true)(b:aZ c):kX (cs++[c])=decide (c=d):=by
 have f:(cs++[97]).length=cs.length+1:=by rw[Ak];rfl
 have q:=MD (cs:=cs++[97]) (by omega) (Mq e (by decide)) (k:=cs.length)   (by omega) a (by rwa[qB]) b
 rwa[qB]at q
noncomputable def Yl(cs:List Nat):Nat:=(Z8.cps.toList.find? λd=>kX (cs++[d])).getD 0
def QI(j:cs.length<=6)(i:∀d∈cs,aZ d)(b:aZ d)(h:kX (cs++[d])=true):Yl cs=d:=by
 unfold Yl;cases e:Z8.cps.toList.find? λd=>kX _ with
 |none=>exact absurd h (by have:=List.find?_eq_none.mp e d (ZM.mpr b);exact this)
 |some c=>
  have f:=ZM.mp (List.mem_of_find?_eq_some e)
  have r:=Ri j i b h f
  grind
def Nw(e:cs.length<=6)(c:∀d∈cs,aZ d):aZ (Yl cs)/\kX (cs++[Yl cs])=true:=by
 obtain⟨d,b,a⟩:=QK (cs:=cs++[97]) (by simp_all) (k:=cs.length) (by simp_all)
 rw[qB]at a;rw[QI e c b a];exact⟨b,a⟩
def UJ(c:List (Str×Str))(cws:List (List Nat)):Prop:=cws.length=c.length/\∀(j:Nat) b a,c[j]?=some b->cws[j]?=some a->b.1=aU a/\1<=a.length/\a.length<=6/\∀d∈a,aZ d
def ZT(f:Nat->Option Int):Prop:=∀c,(f c).isSome=true->eO c
def ZT.put{f:Nat->Option Int}{x:Int}(h:ZT f)(b:eO d):ZT (λe=>if e=d then some x else f e):=λc a=>by
 by_cases e:c=d
 .rwa[e]
 .dsimp only at a;rw[if_neg e]at a;exact h c a
noncomputable def bW(hs:List (Option (List Nat)))(n:Nat):List Nat:=(hs.getD n none).getD []
def RD{h:Option (List Nat)}(f:Y4 H1 v h)(q:∀p d,Z_ H1 d->Z2 d p=some (((h.getD []).map one).map V.str)->Q (.ref p) d):(v=.non/\Vw vP U H1 Q)\/∃p c,v=.ref p/\Z2 H1 p=some c/\(c≠[]->Q (.ref p) H1)/\(c=[]->Vw vP U H1 Q):=by
 have g:h.getD []=[]->Vw vP U H1 Q:=λe=>⟨Ci _,λp b=>q p _ (aG b _) (by rw[e];exact cV)⟩
 cases h with
 |none=>exact .inl ⟨f,g rfl⟩
 |some i=>
  obtain⟨p,e,b⟩:=f;exact .inr ⟨p,_,e,aP b,λ_=>q p H1 (Z_.refl _) (aP b),λz=>g (by simp_all)⟩
def NS{f:Nat->Option Int}{c:Nat}{x:Int}:aO (λe=>if e=d then some x else f e) c=if c=d then x else aO f c:=by
 unfold aO;grind
def iF(xs ys:List Nat)(c:Nat):cnt (xs++ys) c=cnt xs c+cnt ys c:=by
 unfold cnt;simp_all
def mH(h:c∉cs):cnt cs c=0:=by
 unfold cnt;rw[List.countP_eq_zero.mpr λx a z=>h (by simp_all)]
 rfl
def LQ{x:V}(h:((F.map one).map V.str)[i]?=some x):∃c,F[i]?=some c/\x=V.str (one c):=by
 rw[Ai,Ai]at h;cases e:F[i]? with
 |none=>rw[e]at h;cases h
 |some c=>rw[e]at h;cases h;exact⟨c,rfl,rfl⟩
def IY(ok:fG hs)(h:d∈bW hs k):eO d:=by
 unfold bW at h;cases e:hs.getD k none with
 |none=>rw[e]at h;cases h
 |some b=>
  rw[e]at h;have g:some b∈hs:=by grind
  obtain⟨i,j⟩:=Dh.mp (show d∈b from h);obtain⟨m,l,_,a⟩:=pD (ok b g) (i:=i) (z:=one d) (by simp_all)
  rw[<-one_inj.mp l]at a;exact a.imp id And.left
noncomputable def YR:Option (List Nat)->V
 |none=>.non
 |some a=>.str (aU a)
def H0:Option (List Nat)->Option (List Nat)->Prop
 |none,none=>True
 |some b,some a=>Hg a b/\1<=a.length/\a.length<=7/\∀d∈a,aZ d
 |_,_=>False
def Fits(hs a:List (Option (List Nat))):Prop:=hs.length=a.length/\∀k,k<hs.length->H0 (hs.getD k none) (a.getD k none)
def nK{o:Nat}(e:o≠k):(hs.set o h).getD k none=hs.getD k none:=by simp_all
def nN{o:Nat}(e:o<hs.length):(hs.set o h).getD o none=h:=by
 rw[Ad,Ei e];rfl
def Fits.lower(h:Fits hs wv)(a:n<hs.length):Fits (hs.set n none) (wv.set n none):=by
 refine⟨by rw[Cg,Cg,h.1],λk b=>?_⟩
 rw[Cg]at b;by_cases e:n=k
 .subst e;rw[nN a,nN (by rwa[<-h.1])]
  trivial
 .rw[nK e,nK e];exact h.2 k b
def Fits.read(h:Fits hs wv)(i:k<hs.length)(a:(hs.getD k none).isSome=true):wv.getD k none=some (Y9 ((hs.getD k none).getD [])):=by
 have f:=h.2 k i
 cases g:hs.getD k none with
 |none=>rw[g]at a;cases a
 |some b=>
  rw[g]at f;cases e:wv.getD k none with
  |none=>rw[e]at f;exact f.elim
  |some n=>
   rw[e]at f;obtain⟨c,_,_,m⟩:=f;show some n=some (Y9 b)
   rw[LM m c.1 λj l=>?_];have d:=Aa l
   rw[Ad,d];exact c.2 j _ d
def Fits.Za(h:Fits hs wv){b:Q6}(D:n<hs.length)(a:ks.Sublist (aW hs n))(F:Yh (bQ hs cw ks) b)(A:1<=cw.length)(y:cw.length<=7)(x:∀d∈cw,aZ d):Fits (iW hs ((n::ks).zip b)) (wv.set n (some cw)):=by
 have l:(n::ks).length=b.length:=by
  rw[F.len];show _=(ks.map _).length+1
  rw[Ab];rfl
 have u:∀z∈(n::ks).zip b,z.1<hs.length:=λz r=>by
  rcases Bb.mp (Er r).1 with e|e
  .rw[e];exact D
  .exact(dZ (a.subset e)).1
 have p:(((n::ks).zip b).map (·.1)).Nodup:=by
  rw[show ((n::ks).zip b).map (·.1)=n::ks from List.map_fst_zip (by rw[l];exact Ah _)]
  exact rG a
 have m:∀i k c,(n::ks)[i]?=some k->(bQ hs cw ks)[i]?=some c->∃g,(iW hs ((n::ks).zip b)).getD k none=some g/\Hg c g:=λi k c j H=>by
  obtain⟨g,I,v⟩:=F.at H;refine⟨g,?_,v⟩;exact P6 hs _ p u (k,g) (Ap (i:=i) (by rw[List.getElem?_zip_eq_some];exact⟨j,I⟩))
 refine⟨by rw[fZ,Cg,h.1],λk j=>?_⟩
 rw[fZ]at j;by_cases e:n=k
 .subst e;obtain⟨g,C,o⟩:=m 0 n cw rfl rfl;rw[C,nN (by rw[<-h.1];exact D)]
  exact⟨o,A,y,x⟩
 .rw[nK e];by_cases t:k∈ks
  .obtain⟨i,E⟩:=Dh.mp t;have s:=dZ (a.subset t)
   obtain⟨g,C,o⟩:=m (i+1) k (Y9 ((hs.getD k none).getD [])) E (by show (ks.map _)[i]?=_;rw[Ai,E];rfl)
   have f:=h.2 k j
   have G:=h.read j s.2.1
   rw[C,G];cases B:hs.getD k none with
   |none=>rw[B]at s;cases s.2.1
   |some J=>
    rw[G,B]at f;rw[B]at o;exact⟨o,f.2⟩
  .rw [pL hs _ λz r=>λq=>by
    rcases Bb.mp (Er r).1 with w|w
    .exact e (w.symm.trans q)
    .exact t (by rw[<-q];exact w)]
   exact h.2 k j
theorem Ug(a:k<hs.length)(c:Nat):∀m,cnt (aT (hs.set k h) (List.range m)) c=cnt (aT hs (List.range m)) c+if k<m then cnt (h.getD []) c-cnt (bW hs k) c else 0
 |0=>rfl
 |m+1=>by
  have e:∀g,aT g [m]=bW g m:=λg=>Be _
  rw[Bx,jR,jR,iF,iF,Ug a c m,e,e];by_cases q:k=m
  .subst q;show _+cnt (((hs.set k h).getD k none).getD []) c=_
   grind
  .have b:bW (hs.set k h) m=bW hs m:=by unfold bW;rw[nK q]
   grind
def GX(c:Nat):∀a,(a.map (·.1)).Nodup->(∀z∈a,z.1<hs.length)->cnt (aT (iW hs a) (List.range hs.length)) c+cnt (aT hs (a.map (·.1))) c=cnt (aT hs (List.range hs.length)) c+cnt (a.map (·.2)).flatten c:=λa=>by
 refine mE (p:=λa=>(a.map (·.1)).Nodup->(∀z∈a,z.1<hs.length)->cnt (aT (iW hs a) (List.range hs.length)) c+cnt (aT hs (a.map (·.1))) c=cnt (aT hs (List.range hs.length)) c+cnt (a.map (·.2)).flatten c) (λ_ _=>rfl) (λa z h b g=>?_) a;rw[Aw,Ax,Ja]at b;have f:=g z (Bd _ Al)
 have i:=h (Eb.mp b).1 λw d=>g w (Cm _ d)
 have e:∀w∈a,w.1≠z.1:=λw d q=>(Eb.mp b).2.2 w.1 (List.mem_map_of_mem d) z.1 Al q
 have k:bW (iW hs a) z.1=bW hs z.1:=by unfold bW;rw[pL hs _ e]
 have j:aT hs [z.1]=bW hs z.1:=Be _
 rw[gS,Ug (by rw[fZ];exact f),if_pos f,k,List.map_append,List.map_append,jR,iF,List.map_cons,List.map_nil,j,List.flatten_append,iF,show ([z].map (·.2)).flatten=z.2 by simp]
 show _+(cnt z.2 c-_)+_=_
 omega
noncomputable def lF(f:Nat->Option Int)(hs:List (Option (List Nat)))(c:Nat):Int:=aO f c+cnt (aT hs (List.range hs.length)) c
def gN{f:Nat->Option Int}(h:ZT f){c:Nat}(a:¬eO c):aO f c=0:=by
 unfold aO;cases e:f c with
 |none=>rfl
 |some x=>exact absurd (h c (by rw[e];rfl)) a
def kB(ok:fG hs)(h:d∈aT hs ks):eO d:=by
 obtain⟨k,_,a⟩:=Hz.mp h;exact IY ok a
def C6{f:Nat->Option Int}(a:n<hs.length)(b:∀c,aO g c=aO f c+cnt (aT hs [n]) c)(c:Nat):lF g (hs.set n none) c=lF f hs c:=by
 unfold lF;rw[Cg,Ug a,if_pos a,b c,show aT hs [n]=bW hs n from Be _];show _+(_+(((0:Nat):Int)-_))=_
 omega
def DD{f:Nat->Option Int}{a:Q6}(m:∀c,0<=aO f c)(l:ZT f)(ok:fG hs)(s:n<hs.length)(h:ks.Sublist (aW hs n))(t:Yh (bQ hs cw ks) a)(k:∀g∈a,∀c∈g,eO c)(i:∀c,cnt a.flatten c<=aO (gL f hs (n::ks)) c)(c:Nat):lF (bK λc=>aO (gL f hs (n::ks)) c-cnt a.flatten c) (iW hs ((n::ks).zip a)) c=lF f hs c:=by
 have b:(n::ks).length=a.length:=by
  rw[t.len];show _=(ks.map _).length+1
  rw[Ab];rfl
 have j:∀z∈(n::ks).zip a,z.1<hs.length:=λz p=>by
  rcases Bb.mp (Er p).1 with e|e
  .rw[e];exact s
  .exact(dZ (h.subset e)).1
 have o:((n::ks).zip a).map (·.1)=n::ks:=List.map_fst_zip (by rw[b];exact Ah _)
 have x:((n::ks).zip a).map (·.2)=a:=List.map_snd_zip (by rw[b];exact Ah _)
 have r:=GX c ((n::ks).zip a) (by rw[o];exact rG h) j
 rw[o,x]at r;unfold lF;rw[fZ];have y:=i c
 by_cases d:eO c
 .have q:aO (gL f hs (n::ks)) c=aO f c+cnt (aT hs (n::ks)) c:=dF (n:=λc=>aO f c+cnt (aT hs (n::ks)) c) d (by have:=m c;have:=pH (aT hs (n::ks)) c;show 0<=_+_;omega)
  rw[dF d (by omega),q]
  omega
 .rw [gN l d,mH λz=>d (kB ok z)];have w:aO (bK λc=>aO (gL f hs (n::ks)) c - cnt a.flatten c) c=0:=by
   show (bK _ c).getD 0=0
   unfold bK;rw[if_neg λz=>d z.1];rfl
  have C:cnt (aT hs (n::ks)) c=0:=mH λz=>d (kB ok z)
  have B:=mH λz=>by
   obtain⟨g,v,u⟩:=List.mem_flatten.mp z;exact d (k g v c u)
  have A:cnt (aT hs (List.range hs.length)) c=0:=mH λz=>d (kB ok z)
  rw[w];omega
def eF(e:Addr):Sp:=λd H Q E=>∃b a n,d=[.ref b,.int n]/\Z2 H b=some a/\a.length<=1000/\((0<=n/\n<(a.length:Int))->Q .non H)/\(¬(0<=n/\n<(a.length:Int))->∀c,Z_ H c->E (.ref e) none c)
def nW:Z9 ["halyards", "number"] ["halyards", "number"] (aK eM):=by fail "sc"
def nU(F:ZR K "look_for_halyard" "look_for_halyard" eM f fd):Z6 P w K mg base (Y3 P w) 1 f fd ["halyards", "number"] (eF Zy):=by
 refine F.W3 nW (λj H Q E h=>?_) (λo A a s H j Q E p h=>?_)
 .obtain⟨b,e,n,rfl,_⟩:=h;rfl
 obtain⟨b,e,n,rfl,r,q,k,i⟩:=h;refine⟨_,(@aH _ _ _ (bS (PW.pt (gJ (aY WK (mv 1) aJ (bA _)) (gB (aY Ls (mv 1) (aX dA rfl G.b_len cC (aA (mv 0) aB)) (bA _))))) (@aH _ _ _ (wD kZ rfl rfl rfl G.c_NoHalyard G.x_NoHalyard Fc (@gE _ _ _ _ _ _ aB))) bC)),?_⟩;left;refine fF (λd=>?_) (λd=>?_)
 .have l:=Bf d
  left;exact⟨r0,i (λz=>by omega) _ (Z_.refl _)⟩
 .have l:¬n<0:=λz=>d (An z)
  left;refine fF (λc=>?_) (λc=>?_)
  .have m:=Bf c
   left;exact⟨r0,i (λz=>by omega) _ (Z_.refl _)⟩
  .have m:¬(e.length:Int)<=n:=λz=>c (An z)
   left;grind
def nT(m:Nat->Int)(c:Nat):0<=aO (bK m) c:=by
 unfold aO bK;split
 .rename_i h
  exact Int.le_of_lt (by simp_all)
 .exact Jn _
structure XW (H:Hp) (B R:Addr) (hs:List (Option (List Nat))) (f:Nat->Option Int):Prop where
 QE:∃us,H B=some (.lst us)/\Z5 H us hs
 ok:fG hs
 loc:∃kvs,H R=some (.dK kvs)/\Lk kvs f
 pos:∀c,0<=aO f c
def nX:Sp:=λ_ _ _ _=>False
def xM(F:ZR K "behind_say" "behind_say" qI f fd)(G:Gs K mg w Zt Zz Zu Zx Z0 Zv Zy Zw):Z6 P w K mg base (Y3 P w) 1 f fd ["book", "halyards", "locker", "text"] nX:=⟨λ_ _ _ _ h=>h.elim,λ_ _ _ _ _ _ _ _ _ _ _ _ _ h=>h.elim⟩
def lL:Sp:=λ_ _ _ _=>False
def vM(F:ZR K "behind_lose" "behind_lose" oJ f fd)(G:Gs K mg w Zt Zz Zu Zx Z0 Zv Zy Zw):Z6 P w K mg base (Y3 P w) 1 f fd ["halyards", "locker", "flag"] lL:=⟨λ_ _ _ _ h=>h.elim,λ_ _ _ _ _ _ _ _ _ _ _ _ _ h=>h.elim⟩
def mV:Sp:=λ_ _ _ _=>False
def vW(F:ZR K "behind_find" "behind_find" oO f fd)(G:Gs K mg w Zt Zz Zu Zx Z0 Zv Zy Zw):Z6 P w K mg base (Y3 P w) 1 f fd ["halyards", "locker", "flag"] mV:=⟨λ_ _ _ _ h=>h.elim,λ_ _ _ _ _ _ _ _ _ _ _ _ _ h=>h.elim⟩
def gX(m:Nat->Int):ZT (bK m):=λc a=>by
 unfold bK at a;grind
def KC{f:Nat->Option Int}(g:ZT f)(a:∀c,0<=aO f c)(ok:fG hs)(ks:List Nat)(d:Nat):aO (bK λe=>aO f e+cnt (aT hs ks) e) d=aO f d+cnt (aT hs ks) d:=by
 have i:=a d
 have h:=pH (aT hs ks) d
 by_cases b:eO d
 .rw[dF b (by omega)]
 .rw[gN (gX _) b,gN g b,mH λz=>b (kB ok z)];rfl
inductive Dd where
 |Za (n:Nat) (cw:List Nat)
 |lower (n:Nat)
noncomputable def Dd.vs:Dd->List V
 |.Za n a=>[.str "haul",.int ((n:Nat):Int),.str (aU a)]
 |.lower n=>[.str "lower",.int ((n:Nat):Int)]
def Dd.ok(m:Nat):Dd->Prop
 |.Za n a=>n<m/\a.length<=7/\(∀d∈a,aZ d)/\xT a=true
 |.lower n=>n<m
def Dd.done(hs:List (Option (List Nat)))(f:Nat->Option Int)(a:List (Option (List Nat)))(e:Nat->Option Int):Dd->Prop
 |.Za n g=>a.length=hs.length/\(∀b,Fits hs b->Fits a (b.set n (some g)))/\(∀c,lF e a c=lF f hs c)/\∃d j,kJ f hs n g d j/\∀k,k≠n->k∉d->a.getD k none=hs.getD k none
 |.lower n=>a=hs.set n none/\∀c,lF e a c=lF f hs c
def Dd.no(h:Addr)(hs:List (Option (List Nat)))(f:Nat->Option Int)(E:XK)(H:Hp):Dd->Prop
 |.Za n g=>(∀l,l.Sublist (aW hs n)->¬xH f hs n g l)->∀b e d c W F a,Z_ H a->a b=some (YT b [("flags",.ref d),("wants",.ref e)])->a e=some (.lst (c.map V.ref))->ZV a c W->a d=some (.lst ((F.map one).map V.str))->Zs (bQ hs g (aW hs n)) (lR f hs (n::aW hs n)) W F->E (.ref h) (some b) a
 |.lower _=>True
def Dd.no.keep{f:Nat->Option Int}{E:XK}{d:Dd}(h:d.no a hs f E H)(s:Z_ H H1):d.no a hs f E H1:=by
 cases d with
 |Za n l=>exact λi j g e c W F k b=>h i j g e c W F k (s.trans b)
 |lower n=>trivial
def W8(H:Hp)(B R:Addr)(hs:List (Option (List Nat)))(f:Nat->Option Int):Prop:=XW H B R hs f/\ZT f
inductive lE(h:List V)(H:Hp)(Q:VK)(zz3:XK):Prop|mk(B R a f n:_)(_:h=[.ref B,.ref R,.int ((n:Nat):Int)])(_:W8 H B R a f)(_:a.length<=6)(_:n<a.length)(_:∀t e d g b,Z_ H b->H t=none->b t=some (.tup [.ref e,.ref d])->H e=none->H d=none->(∀c,lF g (a.set n none) c=lF f a c)->W8 b e d (a.set n none) g->Q (.ref t) b):lE h H Q zz3
def Sb:Z9 ["halyards", "locker", "number", "behind"] ["halyards", "locker", "number"] (aK hU):=by fail "sc"
def tX(F:ZR K "behind_lower" "behind_lower" hU f fd)(v0:lY P w K mg base 1 "look_for_halyard" ["halyards", "number"] (eF Zy))(z5:ZJ P w K mg base 2 "put_in" ["locker", "flags"] nI)(y6:ZJ P w K mg base 1 "flags_on" ["halyards", "numbers"] iT):Z6 P w K mg base (Y3 P w) 3 f fd ["halyards", "locker", "number"] lE:=by
 refine F.W3 Sb (λvs H Q E h=>?_) (λcdv A outer s H vs Q E hr h=>?_)
 .obtain⟨B,R,hs,f,n,rfl,_⟩:=h;rfl
 obtain⟨B,R,hs,f,n,rfl,⟨tw,hfo⟩,h6,hn,q⟩:=h;refine⟨_,(@aE _ _ _ _ _ (cP (dX v0 cS hr (by decide) rfl (aA (mv 0) (aA (mv 2) aB)))) (@aE _ _ _ _ _ (aQ 3 Sb.nd (bN jC rfl G.b_list dH (aA (mv 0) aB))) (@aE _ _ _ _ _ (wU cF (UN (mv 3) (mv 2) qM)) (@aH _ _ _ (aR (gI (aA (mv 3) (aA (bF z5 hr (by decide) rfl (aA (mv 1) (aA (bF y6 hr (by decide) rfl (aA (mv 0) (aA (bZ (aA (mv 2) aB)) aB))) aB))) aB)))))))),?_⟩
 obtain⟨⟨us,hB,hat⟩,ok,⟨kvs,hR,lk⟩,hpos⟩:=tw;have rB:=aP hB
 have hul:=hat.len
 left;refine⟨B,us,_,rfl,rB,by omega,λ_=>?_,λz=>absurd ⟨by omega,by omega⟩ z⟩
 left;intro B' hB';have k1:=aG hB' (.lst us)
 have e1:(upd H B' (.lst us)) B'=some (.lst us):=aD
 generalize upd H B' (.lst us)=H1 at k1 e1 ⊢;have m1:=bP e1
 left;have hnu:n<us.length:=by omega
 refine U_ (o:=us[n]) m1 (UR (by omega) (by omega)) ?_
 rw[show ((n:Nat):Int).toNat=n from rfl];have s2:Z_ H (upd H1 B' (.lst (us.set n .non))):=bL hB' k1
 have e2:(upd H1 B' (.lst (us.set n .non))) B'=some (.lst (us.set n .non)):=aD
 generalize upd H1 B' (.lst (us.set n .non))=H2 at s2 e2 ⊢;left;refine⟨r0,λp3 hp3=>?_⟩
 have k3:=aG hp3 (.lst [V.int ((n:Nat):Int)])
 have e3:(upd H2 p3 (.lst [V.int ((n:Nat):Int)])) p3=some (.lst (([n]).map λk=>V.int ((k:Nat):Int))):=aD
 generalize upd H2 p3 (.lst [V.int ((n:Nat):Int)])=H3 at k3 e3 ⊢;have s3:=s2.trans k3
 left;refine⟨B,p3,us,hs,[n],rfl,aM s3 rB,hat.keep s3,ok,aP e3,by show 1<=7;decide,(λk hk=>by rwa[Aj.mp hk]),λr4 H4 hr4 s4 e4=>?_⟩
 have s04:=s3.trans s4
 have fl:(aT hs [n]).length<=7*1:=gU ok [n]
 left;refine⟨R,r4,kvs,f,aT hs [n],rfl,s04 _ _ hR,lk,hpos,aP e4,by omega,λR' kws H5 hR' s5 e5 lk5=>?_⟩
 have s05:=s04.trans s5
 have e25:=(k3.trans (s4.trans s5)) _ _ e2
 left;refine⟨q0,λt ht=>?_⟩
 have k6:=aG ht (.tup [.ref B',.ref R'])
 have s06:=s05.trans k6
 refine q t B' R' _ _ s06 (none_of s05 ht) aD hB' (none_of s04 hR') (C6 hn (KC hfo hpos ok [n])) ⟨⟨⟨us.set n .non,k6 _ _ e25,?_⟩,?_,⟨kws,k6 _ _ e5,lk5⟩,?_⟩,gX _⟩
 .refine⟨by rwa[Cg,Cg],λj v h hv hh=>?_⟩
  rw[List.getElem?_set]at hv hh;by_cases e:n=j
  .subst e;rw[if_pos rfl,if_pos hnu]at hv;rw[if_pos rfl,if_pos hn]at hh;cases hv;cases hh;rfl
  .rw[if_neg e]at hv hh;exact(hat.keep s06).val j v h hv hh
 .intro cs hc;rcases Gf hc with z|z
  .exact ok cs z
  .cases z
 .intro c;exact nT _ c
inductive mW(j:Addr)(i:List V)(H:Hp)(Q:VK)(E:XK):Prop|mk(B R:Addr)(b:List (Option (List Nat)))(f:Nat->Option Int)(n:Nat)(c:List Nat)(_:i=[.ref B,.ref R,.int ((n:Nat):Int),.str (aU c)])(_:W8 H B R b f)(_:b.length<=6)(_:(Dd.Za n c).ok b.length)(_:(∀t g e (a:Q4) h d,Z_ H d->H t=none->d t=some (.tup [.ref g,.ref e])->H g=none->H e=none->(Dd.Za n c).done b f a h->W8 d g e a h->Q (.ref t) d))(_:(Dd.Za n c).no j b f E H):mW j i H Q E
def Pn:Z9 ["halyards", "locker", "number", "word", "told"] ["halyards", "locker", "number", "word"] (aK iX):=by fail "sc"
def wG(F:ZR K "behind_haul" "behind_haul" iX f fd)(v0:lY P w K mg base 1 "look_for_halyard" ["halyards", "number"] (eF Zy))(u0:lY P w K mg base 12 "hauled" ["locker", "halyards", "number", "word"] (rK Zt))(c7:ZJ P w K mg base 3 "is_checked" ["word"] oM)(c8:Wq P w K mg base 1 Zw ["self", "at"] (mF Zw)):Z6 P w K mg base (Y3 P w) 13 f fd ["halyards", "locker", "number", "word"] (mW Zt):=by
 refine F.W3 Pn (λvs H Q E h=>?_) (λb5 A V s H vs Q E O h=>?_)
 .obtain⟨B,R,l,f,n,S,rfl,_⟩:=h;rfl
 obtain⟨B,R,l,f,n,S,rfl,⟨tw,b1⟩,h6,⟨hn,b,a,p⟩,q,qe⟩:=h;refine⟨_,(@aE _ _ _ _ _ (cP (dX v0 cS O (by decide) rfl (aA (mv 0) (aA (mv 2) aB)))) (@aE _ _ _ _ _ (bS (gG (cT (bF c7 O (by decide) rfl (aA (mv 3) aB)))) (@aH _ _ _ (nH kZ rfl rfl rfl G.c_NoWord G.Xz c8 O (by decide) (aA aJ aB))) bC) (@aE _ _ _ _ _ (aQ 4 Pn.nd (dX u0 cS O (by decide) rfl (aA (mv 1) (aA (mv 0) (aA (mv 2) (aA (mv 3) aB)))))) (@aH _ _ _ (aR (gI (aA (bJ cA (mv 4) aJ (λ_ _=>rfl)) (aA (bJ cA (mv 4) aJ (λ_ _=>rfl)) aB)))))))),?_⟩
 obtain⟨⟨us,hB,I⟩,M,⟨Z,hR,lk⟩,d⟩:=tw;have rB:=aP hB
 have b4:=I.len
 have r:1<=S.length:=by
  unfold xT at p;rw[Ez,Ca]at p;omega
 left;refine⟨B,us,_,rfl,rB,by omega,λ_=>?_,λz=>absurd ⟨by omega,by omega⟩ z⟩
 left;refine⟨S,rfl,b,a,λH1 c=>?_⟩;rw[p];left;refine⟨R,B,Z,f,us,l,n,S,rfl,⟨c _ _ hR,lk,d,aM c rB,I.keep c,M,h6,hn,r,b,a⟩,λt L B2 R2 ks gs j T Y H2 J ht et hL eL i o C b3 eB D b2 eR X=>?_,λa6 dx l1 l2 rs W F H2 J a1 a2 a3 a4 a5 _ _=>qe a6 dx l1 l2 rs W F H2 (c.trans J) a1 a2 a3 a4 a5⟩;have tt:=cO et
 left;refine dS et (v:=.ref B2) (bO (j:=1) rfl) ?_;left;refine dS et (v:=.ref R2) (bO (j:=2) rfl) ?_;left;refine⟨q0,λt3 u=>?_⟩
 have N:=aG u (.tup [.ref B2,.ref R2])
 have U:=c.trans (J.trans N)
 have m:=Zc.mp (Ap i.1)
 have a7:∀k∈ks,k<l.length/\(l.getD k none).isSome=true:=λk hk=>by
  have:=dZ (m.subset hk)
  exact⟨this.1,this.2.1⟩
 have x:=Ul o (xF M r ⟨b,a⟩ a7)
 exact q t3 B2 R2 _ _ _ U (none_of (c.trans J) u) aD (none_of c b3) (none_of c b2) ⟨fZ l _,λwv hf=>hf.Za hn m o r b a,DD d b1 M hn m o (λg hg=>(x g hg).2) C,ks,j,i,λk a9 a8=>pL l _ λz hz=>by
  rcases Bb.mp (Er hz).1 with e|e
  .rw[e];exact Ne.symm a9
  .exact λy=>a8 (by rwa[<-y])⟩ ⟨⟨⟨T,N _ _ eB,D.keep N⟩,QV M _ λz hz=>(x z.2 (Er hz).2).1,⟨Y,N _ _ eR,X⟩,nT _⟩,gX _⟩
def dR(n o p:Addr):Sp:=λm H Q E=>E_7 λ(b h j l:Addr)(c:List (Option (List Nat)))(f:Nat->Option Int)(d:Dd)=>m=[.ref b,.ref h,.ref j,.ref l]/\W8 H h j c f/\c.length<=6/\H l=some (.tup d.vs)/\d.ok c.length/\
 (∀t g i (a:Q4) k e,Z_ H e->H t=none->e t=some (.tup [.ref g,.ref i])->(g=h\/H g=none)->H i=none->d.done c f a k->W8 e g i a k->Q (.ref t) e)/\d.no n c f E H
def Mp{g c i:Addr}{vs:List V}{j:VK}{E:XK}(h:∀v H,Q v H->j v H)(q:dR g c i vs H Q E):dR g c i vs H j E:=by
 obtain⟨b,o,k,r,n,f,d,e,G,F,D,C,m,l⟩:=q;exact⟨b,o,k,r,n,f,d,e,G,F,D,C,λt K I a p J A z y x w u s=>h _ _ (m t K I a p J A z y x w u s),l⟩
def xB:Z9 ["book", "halyards", "locker", "deed"] ["book", "halyards", "locker", "deed"] (aK jA):=by fail "sc"
def uM(F:ZR K "behind_deed" "behind_deed" jA f fd)(G:Gs K mg w Zt Zz Zu Zx Z0 Zv Zy Zw)(c9:lY P w K mg base 1 "behind_say" ["book", "halyards", "locker", "text"] nX)(m:lY P w K mg base 13 "behind_haul" ["halyards", "locker", "number", "word"] (mW Zt))(l:lY P w K mg base 3 "behind_lower" ["halyards", "locker", "number"] lE)(k:lY P w K mg base 1 "behind_lose" ["halyards", "locker", "flag"] lL)(i:lY P w K mg base 1 "behind_find" ["halyards", "locker", "flag"] mV):Z6 P w K mg base (Y3 P w) 14 f fd ["book", "halyards", "locker", "deed"] (dR Zt Zu Zu):=by
 refine F.W3 xB (λX H Q E h=>?_) (λa1 A p s H X Q E c h=>?_)
 .obtain⟨b,x,o,z,u,f,d,rfl,_⟩:=h;rfl
 obtain⟨b,x,o,z,u,f,d,rfl,V,W,a,e,q,Z⟩:=h;refine⟨_,(@aE _ _ _ _ _ (bS (aY lG (bJ cA (mv 3) aJ (λ_ _=>rfl)) fK (bA _)) (@aH _ _ _ (aR (dX m cS c (by decide) rfl (aA (mv 1) (aA (mv 2) (aA (bJ cA (mv 3) aJ (λ_ _=>rfl)) (aA (bJ cA (mv 3) aJ (λ_ _=>rfl)) aB))))))) bC) (@aE _ _ _ _ _ (bS (aY lG (bJ cA (mv 3) aJ (λ_ _=>rfl)) fK (bA _)) (@aH _ _ _ (aR (dX l cS c (by decide) rfl (aA (mv 1) (aA (mv 2) (aA (bJ cA (mv 3) aJ (λ_ _=>rfl)) aB)))))) bC) (@aE _ _ _ _ _ (bS (aY lG (bJ cA (mv 3) aJ (λ_ _=>rfl)) fK (bA _)) (@aH _ _ _ (aR (dX k cS c (by decide) rfl (aA (mv 1) (aA (mv 2) (aA (bJ cA (mv 3) aJ (λ_ _=>rfl)) aB)))))) bC) (@aE _ _ _ _ _ (bS (aY lG (bJ cA (mv 3) aJ (λ_ _=>rfl)) fK (bA _)) (@aH _ _ _ (aR (dX i cS c (by decide) rfl (aA (mv 1) (aA (mv 2) (aA (bJ cA (mv 3) aJ (λ_ _=>rfl)) aB)))))) bC) (@aH _ _ _ (aR (dX c9 cS c (by decide) rfl (aA (mv 0) (aA (mv 1) (aA (mv 2) (aA (bJ cA (mv 3) aJ (λ_ _=>rfl)) aB))))))))))),?_⟩
 cases d with
 |Za n C=>
  replace a:H z=some (.tup [.str "haul",.int ((n:Nat):Int),.str (aU C)]):=a
  have Y:=cO a
  left;refine dS a (v:=.str "haul") (bO (j:=0) rfl) ?_;left;rw[show decide ("haul"=(Str.ofString "haul"))=true from An rfl];left;refine dS a (v:=.int ((n:Nat):Int)) (bO (j:=1) rfl) ?_;left;refine dS a (v:=.str (aU C)) (bO (j:=2) rfl) ?_;left;exact⟨x,o,u,f,n,C,rfl,V,W,e,λt U S r y T O N M L J I D=>q t U S r y T O N M (.inr L) J I D,Z⟩
 |lower n=>
  replace a:H z=some (.tup [.str "lower",.int ((n:Nat):Int)]):=a
  have Y:=cO a
  left;refine dS a (v:=.str (Str.ofString "lower")) (bO (j:=0) rfl) ?_;left;rw[show decide ((Str.ofString "lower")=(Str.ofString "haul"))=false from by right]
  left;refine dS a (v:=.str (Str.ofString "lower")) (bO (j:=0) rfl) ?_;left;rw[show decide ((Str.ofString "lower")=(Str.ofString "lower"))=true from An rfl];left;refine dS a (v:=.int ((n:Nat):Int)) (bO (j:=1) rfl) ?_;left;exact⟨x,o,u,f,n,rfl,V,W,e,λt U S y T O N M L J I D=>q t U S _ y T O N M (.inr L) J ⟨rfl,I⟩ D⟩
noncomputable def Y2(b:Addr)(m:Int)(a st c dd:Addr):List (Str×V):=[("book",.ref b),("many",.int m),("stock_at_first",.ref a),("stock",.ref st),("hung",.ref c),("deeds",.ref dd)]
noncomputable def V8(b:Addr):List (Str×V):=[("book",.ref b)]
noncomputable def Ws(b:Addr)(m:Int):List (Str×V):=[("book",.ref b),("many",.int m)]
noncomputable def WC(b:Addr)(m:Int)(a:Addr):List (Str×V):=[("book",.ref b),("many",.int m),("stock_at_first",.ref a)]
noncomputable def WU(b:Addr)(m:Int)(a st:Addr):List (Str×V):=[("book",.ref b),("many",.int m),("stock_at_first",.ref a),("stock",.ref st)]
noncomputable def W2(b:Addr)(m:Int)(a st c:Addr):List (Str×V):=[("book",.ref b),("many",.int m),("stock_at_first",.ref a),("stock",.ref st),("hung",.ref c)]
def D3:gC "book" (.ref b) []=V8 b:=rfl
def M0:gC "many" (.int m) (V8 b)=Ws b m:=rfl
def IX:gC "stock_at_first" (.ref s0) (Ws b m)=WC b m s0:=rfl
def LJ:gC "stock" (.ref st) (WC b m s0)=WU b m s0 st:=rfl
def HM:gC "hung" (.ref hg) (WU b m s0 st)=W2 b m s0 st hg:=rfl
def Kc:gC "deeds" (.ref dd) (W2 b m s0 st hg)=Y2 b m s0 st hg dd:=rfl
def JT:(Y2 b m s0 st hg dd).lookup ("book" : Str)=some (.ref b):=rfl
def RK:(Y2 b m s0 st hg dd).lookup ("stock" : Str)=some (.ref st):=rfl
def TM:(Y2 b m s0 st hg dd).lookup ("hung" : Str)=some (.ref hg):=rfl
def FW:(Y2 b m s0 st hg dd).lookup ("deeds" : Str)=some (.ref dd):=rfl
def vZ:(Y2 b m s0 st hg dd).lookup ("do" : Str)=none:=rfl
def qT:(Y2 b m s0 st hg dd).lookup ("locker" : Str)=none:=rfl
def cZ:(Y2 b m s0 st hg dd).lookup ("halyards" : Str)=none:=rfl
def C4{h':Addr}:gC "hung" (.ref h') (Y2 b m s0 st hg dd)=Y2 b m s0 st h' dd:=rfl
def JA{s':Addr}:gC "stock" (.ref s') (Y2 b m s0 st hg dd)=Y2 b m s0 s' hg dd:=rfl
def ZU(l:List Addr)(H a:Hp):Prop:=∀b o,b∉l->H b=some o->a b=some o
def ZU.of(s:Z_ H H'):ZU l H H':=λb o _ e=>s b o e
def ZU.trans(s:ZU l H H')(t:ZU l H' a):ZU l H a:=λb o n e=>t b o n (s b o n e)
def ZU.put(a:x∈l)(s:ZU l H H'):ZU l H (upd H' x o):=λb u n e=>by rw[aI (λz=>n (by simp_all))];exact s b u n e
def Rv(s:ZU l H H')(n:a∉l)(h:Rd H a u):Rd H' a u:=by
 rcases h with h|⟨o,h⟩
 .exact .inl (s _ _ n h)
 .exact .inr ⟨o,s _ _ n h⟩
def ZU.none(s:ZU l H H')(n:x∉l)(h:H' x=none):H x=none:=by
 cases e:H x with
 |none=>rfl
 |some o=>rw[s x o n e]at h;cases h
def RM(m:Nat):(List.replicate ((m:Int)).toNat [V.non]).flatten=List.replicate m V.non:=by simp_all
inductive jD(C:Addr)(n:List V)(H:Hp)(Q:VK)(zz3:XK):Prop|mk(x b l k:Addr)(i:List V)(c:List (Key×V))(f:Nat->Option Int)(m:Nat)(_:n=[.ref x,.ref b,.ref l,.int (m:Int)])(_:H x=some (.ins C k []))(_:Z2 H b=some i)(_:Rd H l (.dK c))(_:Lk c f)(_:m<=6)(_:∀g j h e d a,H g=none->H e=none->H d=none->H h=none->e≠d->g≠d->ZU [x] H a->a x=some (.ins C k (Y2 g m j h e d))->a g=some (.lst i)->a j=some (.dK (Zm (aO f) (bI (aO f) 27)))->a h=some (.dK (Zm (aO f) (bI (aO f) 27)))->a e=some (.lst (List.replicate m V.non))->a d=some (.lst [])->Q .non a):jD C n H Q zz3
def xW:Z9 ["self", "book", "locker", "many"] ["self", "book", "locker", "many"] (aK kL):=by fail "sc"
def xV(F:ZR K "__init__" "Tower.__init__" kL f fd)(y4:ZJ P w K mg base 1 "plain_locker" ["locker"] cQ):Z6 P w K mg base ZP 2 f fd ["self", "book", "locker", "many"] (jD Z0):=by
 refine F.ok xW (λvs H Q E h=>?_) (λcdv A outer s H vs Q E hr h=>?_)
 .obtain⟨x,b,l,dx,xs,kvs,f,m,rfl,_⟩:=h;rfl
 obtain⟨x,b,l,dx,xs,kvs,f,m,rfl,hx,hb,hl,hk,hm,q⟩:=h;refine⟨_,(@aE _ _ _ _ _ (mO (mv 0) (bN jC rfl G.b_list dH (aA (mv 1) aB)) rfl) (@aE _ _ _ _ _ (mO (mv 0) (mv 3) rfl) (@aE _ _ _ _ _ (mO (mv 0) (bF y4 hr (by decide) rfl (aA (mv 2) aB)) rfl) (@aE _ _ _ _ _ (mO (mv 0) (bF y4 hr (by decide) rfl (aA (mv 2) aB)) rfl) (@aE _ _ _ _ _ (mO (mv 0) (aV Qk (bZ (aA cF aB)) (mv 3)) rfl) (@aH _ _ _ (mO (mv 0) (bZ aB) rfl))))))),?_⟩
 left;intro b' hb';have nx:b'≠x:=λz=>by rw[z,hx]at hb';cases hb'
 have nl:l∉[x]:=λz=>by
  rw[Aj.mp z]at hl;rcases hl with h|⟨_,h⟩ <;> (rw[hx]at h;cases h)
 have sE1:ZU [x] H (upd H b' (.lst xs)):=.of (aG hb' (.lst xs))
 have e1:(upd H b' (.lst xs)) b'=some (.lst xs):=aD
 have x1:=aG hb' (.lst xs) _ _ hx
 generalize upd H b' (.lst xs)=H1 at sE1 e1 x1 ⊢;have nin:∀ {y:Addr} {o:HO} {H':Hp} {fs:List (Str×V)},H' y=some o->H' x=some (.ins Z0 dx fs)->(∀fs',o≠.ins Z0 dx fs')->y≠x:=λe1 e2 n z=>by rw[z,e2]at e1;cases e1;exact n _ rfl
 left;refine⟨x,Z0,dx,[],rfl,x1,G.Z3,G.na_Tower_book,by decide,?_⟩
 rw[D3];have sE2:=sE1.put (o:=.ins Z0 dx (V8 b')) (Aj.mpr rfl)
 have x2:(upd H1 x (.ins Z0 dx (V8 b'))) x=some (.ins Z0 dx (V8 b')):=aD
 have e2:(upd H1 x (.ins Z0 dx (V8 b'))) b'=some (.lst xs):=by rw[aI nx];exact e1
 generalize upd H1 x (.ins Z0 dx (V8 b'))=H2 at sE2 x2 e2 ⊢;left;refine⟨x,Z0,dx,_,rfl,x2,G.Z3,G.na_Tower_many,by show 1<1000;decide,?_⟩
 rw[M0];have sE3:=sE2.put (o:=.ins Z0 dx (Ws b' (m:Int))) (Aj.mpr rfl)
 have x3:(upd H2 x (.ins Z0 dx (Ws b' (m:Int)))) x=some (.ins Z0 dx (Ws b' (m:Int))):=aD
 have e3:(upd H2 x (.ins Z0 dx (Ws b' (m:Int)))) b'=some (.lst xs):=by rw[aI nx];exact e2
 generalize upd H2 x (.ins Z0 dx (Ws b' (m:Int)))=H3 at sE3 x3 e3 ⊢;left;refine⟨l,kvs,f,rfl,Rv sE3 nl hl,hk,λs0 H4 hs0 s4 d4=>?_⟩;have sE4:=sE3.trans (.of s4)
 have x4:=s4 _ _ x3
 have e4:=s4 _ _ e3
 have n0:=nin d4 x4 λ_=>nofun
 left;refine⟨x,Z0,dx,_,rfl,x4,G.Z3,G.na_Tower_stock_at_first,by show 2<1000;decide,?_⟩
 rw[IX];have sE5:=sE4.put (o:=.ins Z0 dx (WC b' (m:Int) s0)) (Aj.mpr rfl)
 have x5:(upd H4 x (.ins Z0 dx (WC b' (m:Int) s0))) x=some (.ins Z0 dx (WC b' (m:Int) s0)):=aD
 have e5:(upd H4 x (.ins Z0 dx (WC b' (m:Int) s0))) b'=some (.lst xs):=by rw[aI nx];exact e4
 have d5:(upd H4 x (.ins Z0 dx (WC b' (m:Int) s0))) s0=some (.dK (Zm (aO f) (bI (aO f) 27))):=by rw[aI n0];exact d4
 generalize upd H4 x (.ins Z0 dx (WC b' (m:Int) s0))=H5 at sE5 x5 e5 d5 ⊢;left;refine⟨l,kvs,f,rfl,Rv sE5 nl hl,hk,λst H6 hst s6 d6=>?_⟩;have sE6:=sE5.trans (.of s6)
 have x6:=s6 _ _ x5
 have e6:=s6 _ _ e5
 have d06:=s6 _ _ d5
 have n1:=nin d6 x6 λ_=>nofun
 left;refine⟨x,Z0,dx,_,rfl,x6,G.Z3,G.na_Tower_stock,by show 3<1000;decide,?_⟩
 rw[LJ];have sE7:=sE6.put (o:=.ins Z0 dx (WU b' (m:Int) s0 st)) (Aj.mpr rfl)
 have x7:(upd H6 x (.ins Z0 dx (WU b' (m:Int) s0 st))) x=some (.ins Z0 dx (WU b' (m:Int) s0 st)):=aD
 have e7:(upd H6 x (.ins Z0 dx (WU b' (m:Int) s0 st))) b'=some (.lst xs):=by rw[aI nx];exact e6
 have d07:(upd H6 x (.ins Z0 dx (WU b' (m:Int) s0 st))) s0=some (.dK (Zm (aO f) (bI (aO f) 27))):=by rw[aI n0];exact d06
 have d17:(upd H6 x (.ins Z0 dx (WU b' (m:Int) s0 st))) st=some (.dK (Zm (aO f) (bI (aO f) 27))):=by rw[aI n1];exact d6
 generalize upd H6 x (.ins Z0 dx (WU b' (m:Int) s0 st))=H7 at sE7 x7 e7 d07 d17 ⊢;left;refine⟨r0,λp0 hp0=>?_⟩
 have k8:=aG hp0 (.lst [V.non])
 have e8:(upd H7 p0 (.lst [V.non])) p0=some (.lst [V.non]):=aD
 generalize upd H7 p0 (.lst [V.non])=H8 at k8 e8 ⊢;left;refine⟨p0,_,[V.non],rfl,rfl,e8,by omega,by omega,by show 1*((m:Int)).toNat<=sizeLine;exact bH (by omega),λhg hhg=>?_⟩
 rw[RM];have k9:=k8.trans (aG hhg (.lst (List.replicate m V.non)))
 have h9:(upd H8 hg (.lst (List.replicate m V.non))) hg=some (.lst (List.replicate m V.non)):=aD
 have hg7:H7 hg=none:=none_of k8 hhg
 generalize upd H8 hg (.lst (List.replicate m V.non))=H9 at k9 h9 ⊢;have x9:=k9 _ _ x7
 have n2:=nin h9 x9 λ_=>nofun
 have nin1:∀ {y:Addr},y≠x->y∉[x]:=λn z=>n (Aj.mp z)
 have hgH:=sE7.none (nin1 n2) hg7
 have stH:=sE5.none (nin1 n1) hst
 left;refine⟨x,Z0,dx,_,rfl,x9,G.Z3,G.na_Tower_hung,by show 4<1000;decide,?_⟩
 rw[HM];have sE10:=(sE7.trans (.of k9)).put (o:=.ins Z0 dx (W2 b' (m:Int) s0 st hg)) (Aj.mpr rfl)
 have x10:(upd H9 x (.ins Z0 dx (W2 b' (m:Int) s0 st hg))) x=some (.ins Z0 dx (W2 b' (m:Int) s0 st hg)):=aD
 have e10:(upd H9 x (.ins Z0 dx (W2 b' (m:Int) s0 st hg))) b'=some (.lst xs):=by rw[aI nx];exact k9 _ _ e7
 have d010:(upd H9 x (.ins Z0 dx (W2 b' (m:Int) s0 st hg))) s0=some (.dK (Zm (aO f) (bI (aO f) 27))):=by rw[aI n0];exact k9 _ _ d07
 have d110:(upd H9 x (.ins Z0 dx (W2 b' (m:Int) s0 st hg))) st=some (.dK (Zm (aO f) (bI (aO f) 27))):=by rw[aI n1];exact k9 _ _ d17
 have h10:(upd H9 x (.ins Z0 dx (W2 b' (m:Int) s0 st hg))) hg=some (.lst (List.replicate m V.non)):=by rw[aI n2];exact h9
 generalize upd H9 x (.ins Z0 dx (W2 b' (m:Int) s0 st hg))=H10 at sE10 x10 e10 d010 d110 h10 ⊢;left;refine⟨by decide,λdd hdd=>?_⟩
 have k11:=aG hdd (.lst [])
 have f11:(upd H10 dd (.lst [])) dd=some (.lst []):=aD
 have nhd:hg≠dd:=λz=>by rw[<-z,h10]at hdd;cases hdd
 have nbd:b'≠dd:=λz=>by rw[<-z,e10]at hdd;cases hdd
 have x11:=k11 _ _ x10
 have ndx:dd≠x:=λz=>by rw[z,x10]at hdd;cases hdd
 have ddH:=sE10.none (nin1 ndx) hdd
 generalize upd H10 dd (.lst [])=H11 at k11 f11 x11 ⊢;left;refine⟨x,Z0,dx,_,rfl,x11,G.Z3,G.na_Tower_deeds,by show 5<1000;decide,?_⟩
 rw[Kc];refine q b' s0 st hg dd _ hb' hgH ddH stH nhd nbd ((sE10.trans (.of k11)).put (Aj.mpr rfl)) aD ?_ ?_ ?_ ?_ ?_
 .rw[aI nx];exact k11 _ _ e10
 .rw[aI n0];exact k11 _ _ d010
 .rw[aI n1];exact k11 _ _ d110
 .rw[aI n2];exact k11 _ _ h10
 .rw[aI ndx];exact f11
def CS(e:H p=some (.tup xs))(h:Q (.int (xs.length:Int)) H):L2.Wm [.ref p] H Q:=by
 have a:Z2 H p=none:=by unfold Z2;rw[e];rfl
 unfold L2.Wm;simp only[a,cO e];exact h
noncomputable def things:List (Str×Int):=[("haul",3),("lower",2),("lose",2),("find",2),("say",2)]
inductive iG(C t s u:Addr)(r:List V)(H:Hp)(Q:VK)(E:XK):Prop|mk(a b j i k c h l m z n g:_)(_:r=[.ref a,.ref h])(_:H a=some (.ins C l (Y2 b m j i k c)))(_:H h=some (.tup (.str z::n)))(_:things.lookup z=some (((V.str z::n).length:Nat):Int))(_:H c=some (.lst g))(_:g.length<=1000)(_:∀o,H o=none->dR t s u [.ref b,.ref k,.ref i,.ref h] (upd H o (.tup [])) (λv f=>∃p e d,v=.ref p/\f p=some (.tup [.ref e,.ref d])/\f a=some (.ins C l (Y2 b m j i k c))/\f c=some (.lst g)/\(∀q,f a≠some (.lst q))/\Q .non (upd (upd f a (.ins C l (Y2 b m j d e c))) c (.lst (g++[.ref h])))) E):iG C t s u r H Q E
def OP:Z9 ["self", "deed", "behind"] ["self", "deed"] (aK pJ):=by fail "sc"
def KD(F:ZR K "do" "Tower.do" pJ f fd)(J:lY P w K mg base 14 "behind_deed" ["book", "halyards", "locker", "deed"] (dR Zt Zu Zu)):Z6 P w K mg base (Y3 P w) 15 f fd ["self", "deed"] (iG Z0 Zt Zu Zu):=by
 refine F.W3 OP (λY H Q E h=>?_) (λa8 A L s H Y Q E W h=>?_)
 .obtain⟨a,b,l,D,hg,k,dp,d,m,z,x,X,rfl,_⟩:=h;rfl
 obtain⟨a,b,l,D,hg,k,dp,d,m,z,x,X,rfl,ha,n,hz,M,a7,q⟩:=h;refine⟨_,(@aE _ _ _ _ _ (bS (PW.pt (gJ (aY (Jz W.YU) (mv 1) (gI aB) (bA _)) (gB (aY WE (Mh rfl G.d_THINGS_IN (aA (bJ cA (mv 1) aJ (λ_ _=>rfl)) aB)) (aX dA rfl G.b_len cC (aA (mv 1) aB)) (bA _))))) (@aH _ _ _ (wD kZ rfl rfl rfl G.c_NoDeed G.x_NoDeed Fc (@gE _ _ _ _ _ _ aB))) bC) (@aE _ _ _ _ _ (aQ 2 OP.nd (dX J cS W (by decide) rfl (aA (oU (mv 0) rfl) (aA (oU (mv 0) rfl) (aA (oU (mv 0) rfl) (aA (mv 1) aB)))))) (@aE _ _ _ _ _ (mO (mv 0) (bJ cA (mv 2) aJ (λ_ _=>rfl)) rfl) (@aE _ _ _ _ _ (mO (mv 0) (bJ cA (mv 2) aJ (λ_ _=>rfl)) rfl) (@aH _ _ _ (cP (cX Cq Eo Ep yU (oU (mv 0) rfl) (aA (mv 1) aB)))))))),?_⟩
 have a5:=cO n
 left;refine⟨by decide,λU B=>?_⟩
 have y:=aG B (.tup [])
 refine J0 (y _ _ n) aD ?_;have T:=q U B
 have I:=y _ _ ha
 have i:=y _ _ n
 have R:=y _ _ M
 generalize upd H U (.tup [])=H1 at y I i R T ⊢;have S:=cO i
 left;rw[show (V.str z::x).isEmpty=false from rfl];left;refine dS i (v:=.str z) (bO (j:=0) rfl) ?_;left;refine⟨z,rfl,?_⟩;rw[show List.lookup z [("haul",3),("lower",2),("lose",2),("find",2),("say",2)]=some (((V.str z::x).length:Nat):Int) from hz];left;refine CS i ?_;left;rw[show (!decide ((((V.str z::x).length:Nat):Int)=(((V.str z::x).length:Nat):Int)))=false by rw[An rfl];rfl]
 left;refine⟨a,Z0,d,_,_,rfl,I,G.Z3,G.na_Tower_book,JT,?_⟩;left;refine⟨a,Z0,d,_,_,rfl,I,G.Z3,G.na_Tower_hung,TM,?_⟩;left;refine⟨a,Z0,d,_,_,rfl,I,G.Z3,G.na_Tower_stock,RK,?_⟩;left;refine Mp (λv t hv=>?_) T;obtain⟨p,c,e,rfl,C,N,r,_,qq⟩:=hv;have nd:k≠a:=λz=>by rw[z,N]at r;cases r
 have np:p≠a:=λz=>by rw[z,N]at C;cases C
 have Z:∀o u,upd (upd t a o) a u=upd t a u:=λo u=>QJ
 have a2:=cO C
 left;refine dS C (v:=.ref c) (bO (j:=0) rfl) ?_;left;refine⟨a,Z0,d,_,rfl,N,G.Z3,G.na_Tower_hung,by show 6<1000;decide,?_⟩
 rw[C4];have a3:(upd t a (.ins Z0 d (Y2 b m l D c k))) a=some (.ins Z0 d (Y2 b m l D c k)):=aD
 have p3:(upd t a (.ins Z0 d (Y2 b m l D c k))) p=some (.tup [.ref c,.ref e]):=by rw[aI np];exact C
 left;refine dS p3 (v:=.ref e) (bO (j:=1) rfl) ?_;left;refine⟨a,Z0,d,_,rfl,a3,G.Z3,G.na_Tower_stock,by show 6<1000;decide,?_⟩
 rw[JA,Z];have a4:(upd t a (.ins Z0 d (Y2 b m l e c k))) a=some (.ins Z0 d (Y2 b m l e c k)):=aD
 have O:(upd t a (.ins Z0 d (Y2 b m l e c k))) k=some (.lst X):=by rwa[aI nd]
 have a6:=bP O
 left;refine⟨a,Z0,d,_,_,rfl,a4,G.Z3,G.na_Tower_deeds,FW,?_⟩;left;exact qq
inductive gD(C:Addr)(g:List V)(H:Hp)(Q:VK)(zz3:XK):Prop|mk(a b h e i k j m c f:_)(_:g=[.ref a])(_:H a=some (.ins C j (Y2 b m h e i k)))(_:Rd H e (.dK c))(_:Lk c f)(_:∀r d,H r=none->Z_ H d->d r=some (.dK (Zm (aO f) (bI (aO f) 27)))->Q (.ref r) d):gD C g H Q zz3
def tS:Z9 ["self"] ["self"] (aK hX):=by fail "sc"
def tV(F:ZR K "locker" "Tower.locker" hX f fd)(n:ZJ P w K mg base 1 "plain_locker" ["locker"] cQ):Z6 P w K mg base ZP 2 f fd ["self"] (gD Z0):=by
 refine F.ok tS (λo H Q E h=>?_) (λz A d s H o Q E j h=>?_)
 .obtain⟨a,b,p,k,v,y,l,m,c,f,rfl,_⟩:=h;rfl
 obtain⟨a,b,p,k,v,y,l,m,c,f,rfl,x,i,u,q⟩:=h;refine⟨_,(@aH _ _ _ (aR (bF n j (by decide) rfl (aA (oU (mv 0) rfl) aB)))),?_⟩
 refine⟨a,Z0,l,_,_,rfl,x,G.Z3,G.na_Tower_stock,RK,?_⟩;exact⟨k,c,f,rfl,i,u,λr B j t e=>q r B j t e⟩
inductive bX(C:Addr)(h:List V)(H:Hp)(Q:VK)(zz3:XK):Prop|mk(a b j i g l k m e f:_)(_:h=[.ref a])(_:H a=some (.ins C k (Y2 b m j i g l)))(_:Z2 H g=some e)(_:Z5 H e f)(_:e.length<=1000)(_:∀r c d,H r=none->Z_ H d->d r=some (.lst c)->Z5 d c f->(∀p,V.ref p∈c->H p=none)->Q (.ref r) d):bX C h H Q zz3
def iS:Z9 ["self"] ["self"] (aK cY):=by fail "sc"
def pW(F:ZR K "halyards" "Tower.halyards" cY f fd):Z6 P w K mg base ZP 1 f fd ["self"] (bX Z0):=by
 refine F.ok iS (λj H Q E h=>?_) (λZ A k s H j Q E hr h=>?_)
 .obtain⟨a,b,L,C,T,Y,v,m,y,hs,rfl,_⟩:=h;rfl
 obtain⟨a,b,L,C,T,Y,v,m,y,hs,rfl,W,n,e,R,q⟩:=h;refine⟨_,(@aH _ _ _ (aR (dB rfl (dD (oU (mv 0) rfl)) (mU (N:=["hoist"]) (by right) (by right)) (by right) rfl (by right) (λ_ _ _ _=>(bB (i:=0) (show List.Nodup (["hoist"]:List Str) by right) rfl (Or.inl rfl))) (λ_ _ _ _=>dP) (λ_ _ _ _=>(vC (aY uR (mv 0) cF (bA _)) cF (bN jC rfl G.b_list dH (aA (mv 0) aB))))))),?_⟩
 refine⟨a,Z0,v,_,_,rfl,W,G.Z3,G.na_Tower_hung,TM,?_⟩;left;refine Ud (hs:=hs) n (bG (by omega)) e.len (λi x h Hc A B O S I u=>?_) (λD Hd j X J U d o=>?_)
 .have t:=(e.keep I).val i x h O S
  cases h with
  |none=>
   obtain rfl:x=V.non:=t;refine⟨Wk.set rfl (Wk.refl _),?_⟩;exact u .non _ (Z_.refl _) rfl λp z=>nomatch z
  |some cs=>
   obtain⟨M,rfl,l⟩:=t
   refine⟨Wk.set rfl (Wk.refl _),?_⟩;left;rw[show decide (V.ref M=V.non)=false from As (λz=>nomatch z)]
   left;intro r c;exact u (.ref r) _ (aG c _) ⟨r,rfl,aD⟩ λp z=>by cases z;exact c
 .exact q D j Hd X J U d o
def RP(y:Str)(a:List Str):XM (.str y) (a.map V.str)=decide (y∈a):=by
 unfold XM;rw[List.any_map,Ij,List.any_eq_true,Ca];constructor
 .rintro⟨z,hz,e⟩;have b:=e
  rwa[<-Ji b]
 .intro h;exact⟨y,h,show _=true from Gd _⟩
def lA:Sp:=λa H Q _=>∃c k,a=[.int c,.int k]/\0<=k/\k<=1000/\∀n,0<=n->Q (.int n) H
def sS:Sp:=λc H Q _=>∃n m,c=[.int n,.int m]/\0<=n/\1<=m/\m<=7/\∀a b,Z_ H b->1<=a.length->(a.length:Int)<=m->(∀d∈a,aZ d)->Q (.str (aU a)) b
def Mz:Z9 ["_law_cell", "_law_k"] ["_law_cell", "_law_k"] (aK sI):=by fail "sc"
def BO(F:ZR K "_law_mixed" "_law_mixed" sI f fd)(G:Gs K mg w Zt Zz Zu Zx Z0 Zv Zy Zw):Z6 P w K mg base ZP 1 f fd ["_law_cell", "_law_k"] lA:=by
 refine F.ok Mz (λb H Q E h=>?_) (λd A a s H b Q E e h=>?_)
 .obtain⟨c,k,rfl,_⟩:=h;rfl
 obtain⟨c,k,rfl,j,i,q⟩:=h;refine⟨_,(@aH _ _ _ (aR (aV eE (aV oA (aV cE (aV cE (aV cE (aV eE (mv 0) aJ) (aV oA (aV oA aJ (mv 1)) (mv 1))) (mv 1)) aJ) aJ) aJ))),?_⟩;left;exact q _ (Dq _ (by decide))
def z8:Z9 ["_law_number", "_law_most", "_law_letters", "_law_kinds", "_law_base", "_law_word_here", "_law_k"] ["_law_number", "_law_most"] (aK vH):=by fail "sc"
def KZ(F:ZR K "_law_word" "_law_word" vH f fd):Z6 P w K mg base ZP 1 f fd ["_law_number", "_law_most"] sS:=by
 refine F.ok z8 (λL H Q E h=>?_) (λX A e s H L Q E hr h=>?_)
 .obtain⟨n,m,rfl,_⟩:=h;rfl
 obtain⟨n,m,rfl,W,R,O,q⟩:=h;refine⟨_,(@aE _ _ _ _ _ (aQ 2 z8.nd fK) (@aE _ _ _ _ _ (aQ 3 z8.nd (@bJ _ _ _ _ _ _ _ cA (@bZ _ _ _ _ (aA aJ (aA aJ (aA aJ (aA aJ aB))))) (aV eE (mv 0) aJ) (λ_ _=>rfl))) (@aE _ _ _ _ _ (aQ 4 z8.nd (aV eE (aV jB (mv 0) aJ) aJ)) (@aE _ _ _ _ _ (aQ 5 z8.nd fK) (@aE _ _ _ _ _ (cK Bp rfl (mY rfl G.b_range (aA (aV cE aJ (aV eE (aV jB (mv 0) aJ) (mv 1))) aB)) (bB (i:=6) z8.nd rfl (Or.inl rfl)) (@aE _ _ _ _ _ (aQ 0 z8.nd (aV eE (aV oA (aV cE (aV cE (mv 0) (mv 6)) aJ) aJ) aJ)) (@aH _ _ _ (aQ 5 z8.nd (aV cE (mv 5) (bJ cA (mv 2) (aV eE (aV cE (mv 4) (aV oA (aV eE (aV jB (mv 0) aJ) (mv 3)) aJ)) aJ) (λ_ _=>rfl))))))) (@aH _ _ _ (aR (mv 5)))))))),?_⟩;left;refine⟨by decide,λp N=>?_⟩
 left;obtain⟨b,c,t⟩:=R_ (ns:=[1,2,3,23]) (i:=n%4) (by omega) (by show n%4<4;omega)
 have hk:=(by decide:∀x∈([1,2,3,23]:List Int),1<=x) b c
 have S:=(by decide:∀x∈([1,2,3,23]:List Int),x<=23) b c
 refine eY (xs:=([1,2,3,23]:List Int).map V.int) cV t ?_;have J:=Dq (n / 92) (show m≠0 by omega)
 have I:=Du (n / 92) (show 0<m by omega)
 left;generalize n / 92%m=l at J I ⊢;refine⟨⟨by omega,by omega⟩,?_⟩
 have B:Z_ H (upd H p (.lst [V.int 1,V.int 2,V.int 3,V.int 23])):=aG N _
 generalize upd H p (.lst [V.int 1,V.int 2,V.int 3,V.int 23])=Y at B ⊢;refine qQ (λi U u=>∃x a v,U=[some (.int x),some (.int m),some (.str "abcdefghijklmnopqrstuvw"),some (.int b),some (.int (n / 4%23)),some (.str (aU a)),v]/\0<=x/\a.length=i/\(∀d∈a,aZ d)/\u=Y)
  ⟨n,[],none,rfl,W,rfl,(λd o=>nomatch o),rfl⟩ ?_ ?_
 .rintro i U u hi ⟨x,a,v,rfl,j,C,r,rfl⟩;have M:=cG a
  left;generalize (x+(0+(i:Int))+1)*69621%2147483647 / 7%b*5=y;have y0:=Dq (n / 4%23+y) (show (23:Int)≠0 by decide)
  have Z:=Du (n / 4%23+y) (show (0:Int)<23 by decide)
  have D:=A5 (k:=((n / 4%23+y)%23).toNat) (by omega)
  rw[show ((((n / 4%23+y)%23).toNat:Nat):Int)=(n / 4%23+y)%23 by omega]at D
  refine lZ (by decide) D ?_
  have T:(⟨#[97+((n / 4%23+y)%23).toNat]⟩:Str).length=1:=rfl
  left;refine⟨(x+(0+(i:Int))+1)*69621%2147483647,a++[97+((n / 4%23+y)%23).toNat],some (.int (0+(i:Int))),?_,Dq _ (show (2147483647:Int)≠0 by decide),by rw[Ak,C];rfl,λd o=>?_,rfl⟩
  .rw[<-nS];rfl
  .rcases Bs.mp o with z|z
   .exact r d z
   .rw[Aj.mp z];exact⟨by omega,by omega⟩
 .rintro U u ⟨x,a,v,rfl,j,C,r,rfl⟩;left;exact q a _ B (by omega) (by omega) r
def qX(K:W.Frag):Sp:=λb H Q _=>∃(a:Addr) (c:List Int) (k:Int),b=[.ref a,.int k]/\Zo K H a (c.map V.int)/\0<=k/\∀n,Q (.int n) H
def IH:Z9 ["_law_script", "_law_k"] ["_law_script", "_law_k"] (aK lN):=by fail "sc"
def FN(F:ZR K "_law_cell_at" "_law_cell_at" lN f fd):Z6 P w K mg base ZP 1 f fd ["_law_script", "_law_k"] (qX K):=by
 refine F.ok IH (λl H Q E h=>?_) (λo A b s H l Q E r h=>?_)
 .obtain⟨a,ns,k,rfl,_⟩:=h;rfl
 obtain⟨a,ns,k,rfl,j,m,q⟩:=h;refine⟨_,(@aE _ _ _ _ _ (bS (aY WK (mv 1) (aX Mr rfl G.b_len cC (aA (mv 0) aB)) (bA _)) (@aH _ _ _ (aR (bJ XJ (mv 0) (mv 1) (λ_ _=>rfl)))) bC) (@aH _ _ _ (aR aJ))),?_⟩;refine⟨_,_,rfl,.inl j,?_⟩;have c:(ns.map V.int).length=ns.length:=Ab ..
 rw[c];refine fF (λe=>?_) (λe=>?_)
 .have d:=Bf e
  obtain⟨n,_,p⟩:=R_ (ns:=ns) (i:=k) m d;exact Ln j p (q n)
 exact q 0
def kR:Sp:=λc H Q _=>∃a,c=[.str (aU a)]/\1<=a.length/\a.length<=6/\(∀d∈a,aZ d)/\∀b,Z_ H b->aZ (Yl a)->kX (a++[Yl a])=true->Q (.str (aU (a++[Yl a]))) b
def IL:jO (cs++[d]) (cs++[d]).length=jO cs cs.length+((1+cs.length:Nat):Int)*((d-97:Nat):Int):=by
 rw[Ak,show [d].length=1 from rfl,jK,pA (ds:=cs) (λi a=>by rw[Ad,Ay a,<-Ad])]
 simp_all
noncomputable def LU:Bool:=(List.range 23).all λi=>Txt.find Z8 ⟨#[97+i]⟩ == (i:Int)
def Mu:LU=true:=by right
def Rq(h:aZ d):Txt.find Z8 (one d)=((d-97:Nat):Int):=by
 unfold aZ at h;have a:=Di.mp Mu (d-97) (Bh.mpr (by omega))
 simp_all
noncomputable def B5:Bool:=(List.range 23).all λi=>(Str.ofString "abcdefghijklmnopqrstuvw").cps.toList[i]? == some (97+i)
def Ml:B5=true:=by right
def MI(h:i<23)(e:(Str.ofString "abcdefghijklmnopqrstuvw").cps.toList[i]?=some c):c=97+i:=by
 have a:=Ji (Di.mp Ml i (Bh.mpr h))
 simp_all
def o9:Z9 ["_law_word_here", "_law_letters", "_law_total", "_law_letter"] ["_law_word_here"] (aK iI):=by fail "sc"
def CA(F:ZR K "_law_checked" "_law_checked" iI f fd):Z6 P w K mg base ZP 1 f fd ["_law_word_here"] kR:=by
 refine F.ok o9 (λM H Q E h=>?_) (λZ A u s H M Q E hr h=>?_)
 .obtain⟨cs,rfl,_⟩:=h;rfl
 obtain⟨cs,rfl,h1,L,p,q⟩:=h;refine⟨_,(@aE _ _ _ _ _ (aQ 1 o9.nd fK) (@aE _ _ _ _ _ (aQ 2 o9.nd (aX (Sm rfl) rfl G.b_sum UW (aA (dB rfl (mY rfl G.b_range (aA (aX dA rfl G.b_len cC (aA (mv 0) aB)) aB)) (iQ (N:=["_law_k", "_law_letters", "_law_word_here"]) ["_law_word_here", "_law_letters", "_law_total", "_law_letter"] (aK iI) [none,some 1,some 0] rfl rfl rfl (λx h=>cH h) (by right)) (by right) rfl (by right) (λ_ _ _ _=>(bB (i:=0) (show List.Nodup (["_law_k", "_law_letters", "_law_word_here"]:List Str) by right) rfl (Or.inl rfl))) (λ_ _ _ _=>dP) (λ_ _ _ _=>(aV oA (aV cE (mv 0) aJ) (cX Gb PySem.F.slot_str_find PySem.F.type_str_find Sn (mv 1) (aA (bJ cA (mv 2) (mv 0) (λ_ _=>rfl)) aB))))) aB))) (@aE _ _ _ _ _ (cK Bp rfl (sQ (mv 1)) (bB (i:=3) o9.nd rfl (Or.inl rfl)) (@aH _ _ _ (bS (aY lG (aV eE (aV cE (mv 2) (aV oA (aV cE (aX dA rfl G.b_len cC (aA (mv 0) aB)) aJ) (cX Gb PySem.F.slot_str_find PySem.F.type_str_find Sn (mv 1) (aA (mv 3) aB)))) aJ) aJ (bA _)) (@aH _ _ _ (aR (aV cE (mv 0) (mv 3)))) bC))) (@aH _ _ _ (aR (mv 0)))))),?_⟩
 have e:=cG cs
 left;rw[e];refine⟨⟨by omega,by omega⟩,?_⟩
 rw[show ((cs.length:Int)).toNat=cs.length from rfl];refine HJ (λi=>some (V.int (W7 cs i))) (bG (by omega)) (λi Hc A B J sm W=>?_) (λD C hD O T=>?_)
 .have S:=mM p J
  have r:=W _ (Z_.refl _)
  left;refine⟨Wk.set rfl (Wk.refl _),?_⟩;left;refine lZ (by rw[e];exact bH (by omega)) (gP (k:=i) (by omega) J) ?_
  left;refine SX ?_;rw[show (⟨#[cs.getD i 0]⟩:Str)=one (cs.getD i 0) from rfl];rw[show Txt.find "abcdefghijklmnopqrstuvw" (one (cs.getD i 0))=((cs.getD i 0-97:Nat):Int) from Rq S];left;rw[show (0+(i:Int)+1)*((cs.getD i 0-97:Nat):Int)=W7 cs i by unfold W7;rw[show ((1+i:Nat):Int)=0+(i:Int)+1 by omega]]
  exact r
 .have y:C D=some (.lst (((List.range cs.length).map (W7 cs)).map V.int)):=by
   rw[T,Bz];congr 2
   exact List.filterMap_eq_map (f:=λi=>V.int (W7 cs i))▸rfl
  left;refine T5 (aP y) (RG (by omega) p) (by rw[Ab,Bw];omega) ?_
  rw[show ((List.range cs.length).map (W7 cs)).sum=jO cs cs.length from rfl];obtain⟨d,b,a⟩:=QK (cs:=cs++[97]) (by rw[Ak];show _+1<=_;omega) (k:=cs.length) (by rw[Ak];show _<_+1;omega)
  rw[qB]at a;have Y:=QI L p b a
  rw[Y]at q;have R:=q C O b a
  have v:=b
  unfold aZ at v;left;refine Tn (λi U I=>∃t,U=[some (.str (aU cs)),some (.str "abcdefghijklmnopqrstuvw"),some (.int (jO cs cs.length)),t]/\I=C/\i<=d-97) ⟨_,rfl,rfl,Ci _⟩ ?_ ?_
  .rintro i c U I j ⟨t,rfl,rfl,l⟩;have n:i<23:=by have:=(Ae.mp j).1;exact this
   have z:=MI n j
   subst z;have m:aZ (97+i):=⟨by omega,by omega⟩
   have r:=Ri L p b a m
   unfold kX at r;rw[IL,show 97+i-97=i by omega]at r
   left;rw[e];refine SX ?_;rw[show Txt.find "abcdefghijklmnopqrstuvw" ⟨#[97+i]⟩=((97+i-97:Nat):Int) from Rq m,show 97+i-97=i by omega]
   left;rw[show ((1+cs.length:Nat):Int)=(cs.length:Int)+1 by omega]at r
   rw[r];refine fF (λj=>?_) (λj=>?_)
   .have o:=Bf j
    have X:(⟨#[97+i]⟩:Str).length=1:=rfl
    left;rw[show aU cs++⟨#[97+i]⟩=aU (cs++[97+i]) from nS cs (97+i),o];exact R
   .have o:=Bv (Cd.mpr j)
    left;exact⟨_,rfl,rfl,by omega⟩
  .rintro U I ⟨t,rfl,rfl,l⟩;exact absurd (show 23<=d-97 from l) (by omega)
def Oj{ss:List Str}{i:Int}(b:0<=i)(h1:i<(ss.length:Int)):∃z,z∈ss/\YQ (ss.map V.str) i=some (.str z):=by
 obtain⟨k,rfl⟩:∃k:Nat,i=(k:Int):=⟨i.toNat,by omega⟩
 have a:k<ss.length:=by omega
 exact⟨ss[k],Br _,bO (by simp_all)⟩
def zP:Sp:=λf H Q _=>∃(a:Addr) (e:List Int),f=[.ref a]/\Z2 H a=some (e.map V.int)/\e.length<=7/\
 ∀r c (b:Q6) d,H r=none->Z_ H d->Y7 d r c->UJ c b->b.Nodup->1<=c.length->c.length<=8->Q (.ref r) d
def z9:Z9 ["_law_cells", "_law_terms", "_law_book_here", "_law_k", "_law_cell", "_law_number", "_law_word_here", "_law_meaning"] ["_law_cells"] (aK vB):=by fail "sc"
def GS(F:ZR K "_law_book" "_law_book" vB f fd)(z6:ZJ P w K mg base 1 "_law_mixed" ["_law_cell", "_law_k"] lA)(u5:ZJ P w K mg base 1 "_law_word" ["_law_number", "_law_most"] sS):Z6 P w K mg base ZP 2 f fd ["_law_cells"] zP:=by
 refine F.ok z9 (λvs H Q E h=>?_) (λcdv A outer s H vs Q E hr h=>?_)
 .obtain⟨a,ns,rfl,_⟩:=h;rfl
 obtain⟨a,ns,rfl,hns,h7,q⟩:=h;refine⟨_,(@aE _ _ _ _ _ (aQ 1 z9.nd (@bZ _ _ _ _ (@gE _ _ _ _ _ _ (@gE _ _ _ _ _ _ (@gE _ _ _ _ _ _ (@gE _ _ _ _ _ _ (@gE _ _ _ _ _ _ aB))))))) (@aE _ _ _ _ _ (aQ 2 z9.nd (bZ (aA (gI (@gE _ _ _ _ _ _ (@gE _ _ _ _ _ _ aB))) aB))) (@aE _ _ _ _ _ (cK Bp rfl (kK rfl G.b_enumerate (aA (mv 0) aB)) (eC (K:=K) (i:=3) (j:=4) (by rfl) (by rfl) z9.nd (by rfl) (by exact(Or.inl rfl)) (by exact Or.inl rfl) (by rfl) (by exact(Or.inl rfl)) (by exact Or.inl rfl)) (@aE _ _ _ _ _ (aQ 5 z9.nd (bF z6 hr (by decide) rfl (aA (mv 4) (aA (mv 3) aB)))) (@aE _ _ _ _ _ (aQ 6 z9.nd (bF u5 hr (by decide) rfl (aA (mv 5) (aA aJ aB)))) (@aE _ _ _ _ _ (aQ 7 z9.nd (bJ cA (mv 1) (aV eE (aV jB (mv 5) aJ) aJ) (λ_ _=>rfl))) (@aE _ _ _ _ _ (bS (aY lG (aV eE (aV jB (mv 5) aJ) aJ) aJ (bA _)) (@aH _ _ _ (aQ 7 z9.nd (aV cE (aV cE (mv 7) fK) (bJ cA (mv 1) (aV eE (aV jB (mv 5) aJ) aJ) (λ_ _=>rfl))))) bC) (@aH _ _ _ (bS (PW.pt (kA (aY mR (mv 6) (dB rfl (dD (mv 2)) (mU (N:=["_law_page"]) (by right) (by right)) (by right) rfl (by right) (λ_ _ _ _=>(bB (i:=0) (show List.Nodup (["_law_page"]:List Str) by right) rfl (Or.inl rfl))) (λ_ _ _ _=>dP) (λ_ _ _ _=>(bJ cA (mv 0) aJ (λ_ _=>rfl)))) (by rfl)) (iO (aY mR (mv 7) (dB rfl (dD (mv 2)) (mU (N:=["_law_page"]) (by right) (by right)) (by right) rfl (by right) (λ_ _ _ _=>(bB (i:=0) (show List.Nodup (["_law_page"]:List Str) by right) rfl (Or.inl rfl))) (λ_ _ _ _=>dP) (λ_ _ _ _=>(bJ cA (mv 0) aJ (λ_ _=>rfl)))) (by rfl))))) (@aH _ _ _ (cP (cX Cq Eo Ep yU (mv 2) (aA (gI (aA (mv 6) (aA (mv 7) aB))) aB)))) bC))))))) (@aH _ _ _ (aR (mv 2)))))),?_⟩
 left;refine⟨by show 5<=sizeLine;decide,λrt hrt=>?_⟩
 have k1:=aG hrt (.lst ((["sail", "fog", "wind", "calm", "x"]:List Str).map V.str))
 have e1:Z2 (upd H rt (.lst ((["sail", "fog", "wind", "calm", "x"]:List Str).map V.str))) rt=some ((["sail", "fog", "wind", "calm", "x"]:List Str).map V.str):=cV
 change lD 1 (V.ref rt) _ (upd H rt (.lst ((["sail", "fog", "wind", "calm", "x"]:List Str).map V.str))) _
 have htl:(["sail", "fog", "wind", "calm", "x"]:List Str).length=5:=rfl
 have hts:∀z∈(["sail", "fog", "wind", "calm", "x"]:List Str),z.length<=10:=by right
 generalize (["sail", "fog", "wind", "calm", "x"]:List Str)=ts at k1 e1 htl hts ⊢;generalize upd H rt (.lst (ts.map V.str))=H1 at k1 e1 ⊢;left;refine⟨q0,λp2 hp2=>?_⟩
 have k2:=aG hp2 (.tup [V.str (Str.ofString "ab"),V.str (Str.ofString "sail")])
 have t2:(upd H1 p2 (.tup [V.str (Str.ofString "ab"),V.str (Str.ofString "sail")])) p2=some (.tup [V.str (Str.ofString "ab"),V.str (Str.ofString "sail")]):=aD
 generalize upd H1 p2 (.tup [V.str (Str.ofString "ab"),V.str (Str.ofString "sail")])=H2 at k2 t2 ⊢;left;refine⟨r0,λrb hrb=>?_⟩
 have nrt:rt≠rb:=λz=>by
  have:=aM k2 e1
  rw[z]at this;unfold Z2 at this;rw[hrb]at this;cases this
 have k3:=aG hrb (.lst [V.ref p2])
 have e3:Y7 (upd H2 rb (.lst [V.ref p2])) rb [(Str.ofString "ab",Str.ofString "sail")]:=⟨[p2],aD,rfl,λj p b hp hb=>by
  match j,hp,hb with
  |0,hp,hb=>cases hp;cases hb;exact k3 _ _ t2
  |j+1,hp,_=>cases hp⟩
 have s03:=k1.trans (k2.trans k3)
 have hrbH:H rb=none:=none_of (k1.trans k2) hrb
 have et3:=aM (k2.trans k3) e1
 generalize upd H2 rb (.lst [V.ref p2])=H3 at k3 e3 s03 et3 ⊢;have hns3:=aM s03 hns
 left;refine kD (xs:=ns.map V.int) (λi U H'=>E_7 λbk cws v3 v4 v5 v6 v7=>U=[some (.ref a),some (.ref rt),some (.ref rb),v3,v4,v5,v6,v7]/\Z_ H H'/\Z2 H' rt=some (ts.map V.str)/\Y7 H' rb bk/\UJ bk cws/\cws.Nodup/\1<=bk.length/\bk.length<=1+i)
  ⟨_,[[97,98]],_,_,_,_,_,rfl,s03,et3,e3,⟨rfl,λj b cw hb hc=>by
   match j,hb,hc with
   |0,hb,hc=>cases hb;cases hc;exact⟨rfl,by decide,by decide,by unfold aZ;decide⟩
   |j+1,hb,_=>cases hb⟩,by simp,Nat.le_refl _,Nat.le_refl _⟩ (λi U H' _ ⟨_,_,_,_,_,_,_,_,e,_⟩=>aM e hns) ?_ ?_
 .rintro i x U H4 pe hx ⟨bk,cws,v3,v4,v5,v6,v7,rfl,s4,et4,hbk,hcw,ZH,hb1,hbl⟩ hpe;have hi:i<7:=by have:=(Ae.mp hx).1;rw[Ab]at this;omega
  obtain⟨c,_,rfl⟩:=BX hx;have k5:=aG hpe (.tup [V.int ((0+i:Nat):Int),V.int c])
  have te5:(upd H4 pe (.tup [V.int ((0+i:Nat):Int),V.int c])) pe=some (.tup [V.int ((0+i:Nat):Int),V.int c]):=aD
  have s5:=s4.trans k5
  have et5:=aM k5 et4
  obtain⟨qs,b1,b2,b3⟩:=id hbk;generalize upd H4 pe (.tup [V.int ((0+i:Nat):Int),V.int c])=H5 at k5 te5 s5 et5 ⊢;have tt5:=cO te5
  left;refine⟨c,_,rfl,by omega,by omega,λN hN=>?_⟩
  left;refine⟨N,6,rfl,hN,by decide,by decide,λcw H6 s6 hc1 hc6 hcL=>?_⟩
  have y0:=Dq (N / 5) (show (5:Int)≠0 by decide)
  have y1:=Du (N / 5) (show (0:Int)<5 by decide)
  have et6:=aM s6 et5
  left;obtain⟨z1,hz1,az1⟩:=Oj (ss:=ts) y0 (by rw[htl];exact y1)
  have hzl:=hts z1 hz1
  refine eY et6 az1 ?_;have s06:=s5.trans s6
  have hbk6:Y7 H6 rb bk:=⟨qs,(k5.trans s6) _ _ b1,b2,λj p b hp hb=>(k5.trans s6) _ _ (b3 j p b hp hb)⟩
  fail "u"
  with_reducible refine QH (λU' H'=>∃z:Str,U'=[some (.ref a),some (.ref rt),some (.ref rb),some (.int ((0+i:Nat):Int)),some (.int c),some (.int N),some (.str (aU cw)),some (.str z)]/\z.length<=30/\H'=H6) (λU' H' j7=>?_) (λM hM=>?_)
  .obtain⟨z,rfl,hz,rfl⟩:=j7;obtain⟨qs',c1,c2,c3⟩:=id hbk6;have rq:=aP c1
   have hql:(qs'.map V.ref).length=bk.length:=by rw[Ab,c2]
   have words:bk.map (·.1)=cws.map aU:=by
    refine List.ext_getElem (by rw[Ab,Ab,hcw.1]) λj j1 j2=>?_
    rw[Ab]at j1 j2;rw[El,El];exact(hcw.2 j _ _ (Aa j1) (Aa j2)).1
   left;refine jL (xs:=qs'.map V.ref) (λj=>(bk[j]?).map λb=>V.str b.1) rq (by rw[hql];exact bG (by omega)) (λj x Hc A B hx sm hA hB=>?_) (λD Hd hD sD hd=>?_)
   .rw[Ai]at hx;obtain⟨p,ep,rfl⟩:=Bt.mp hx;have hjb:j<bk.length:=by rw[<-c2];exact(Ae.mp ep).1
    have eb:=Aa hjb
    have tp:=sm _ _ (c3 j p _ ep eb)
    left;refine⟨Wk.set rfl (Wk.refl _),?_⟩;left;exact dS tp (v:=.str bk[j].1) (bO (j:=0) rfl) (hA _ (by rw[eb];rfl) _ (Z_.refl _))
   rw[hql,kO (λb:Str×Str=>V.str b.1),show bk.map (λb=>V.str b.1)=(bk.map (·.1)).map V.str by rw[Bz];rfl]at hd
   refine yN (neg:=true) (aP hd) rfl (cU _) ?_;rw[if_pos rfl,RP];have keep:∀H9,Z_ H' H9->Z2 H9 rt=some (ts.map V.str)/\Y7 H9 rb bk:=λH9 k=>⟨aM k et6,⟨qs',k _ _ c1,c2,λj p b hp hb=>k _ _ (c3 j p b hp hb)⟩⟩
   by_cases hw:aU cw∈bk.map (·.1)
   .rw[An hw];left;exact⟨bk,cws,_,_,_,_,_,rfl,s06.trans sD,(keep _ sD).1,(keep _ sD).2,hcw,ZH,hb1,by omega⟩
   .rw[As hw];have rqD:=aM sD rq
    left;refine jL (xs:=qs'.map V.ref) (λj=>(bk[j]?).map λb=>V.str b.2) rqD (by rw[hql];exact bG (by omega)) (λj x Hc A B hx sm hA hB=>?_) (λD2 Hd2 hD2 sD2 hd2=>?_)
    .rw[Ai]at hx;obtain⟨p,ep,rfl⟩:=Bt.mp hx;have hjb:j<bk.length:=by rw[<-c2];exact(Ae.mp ep).1
     have eb:=Aa hjb
     have tp:=sm _ _ (sD _ _ (c3 j p _ ep eb))
     left;refine⟨Wk.set rfl (Wk.refl _),?_⟩;left;exact dS tp (v:=.str bk[j].2) (bO (j:=1) rfl) (hA _ (by rw[eb];rfl) _ (Z_.refl _))
    rw[hql,kO (λb:Str×Str=>V.str b.2),show bk.map (λb=>V.str b.2)=(bk.map (·.2)).map V.str by rw[Bz];rfl]at hd2
    refine yN (neg:=true) (aP hd2) rfl (cU _) ?_;rw[if_pos rfl,RP];have s62:=sD.trans sD2
    by_cases hm:z∈bk.map (·.2)
    .rw[An hm];left;exact⟨bk,cws,_,_,_,_,_,rfl,s06.trans s62,(keep _ s62).1,(keep _ s62).2,hcw,ZH,hb1,by omega⟩
    .rw[As hm];have c1':=s62 _ _ c1
     left;refine⟨q0,λpt hpt=>?_⟩
     have k8:=aG hpt (.tup [.str (aU cw),.str z])
     have t8:(upd Hd2 pt (.tup [.str (aU cw),.str z])) pt=some (.tup [.str (aU cw),.str z]):=aD
     have s68:=s62.trans k8
     have c18:=k8 _ _ c1'
     have et8:=(keep _ s68).1
     have c38:∀(j:Nat) p b,qs'[j]?=some p->bk[j]?=some b->(upd Hd2 pt (.tup [.str (aU cw),.str z])) p=some (.tup [.str b.1,.str b.2]):=λj p b hp hb=>s68 _ _ (c3 j p b hp hb)
     generalize upd Hd2 pt (.tup [.str (aU cw),.str z])=H8 at k8 t8 s68 c18 et8 c38 ⊢;have m8:=bP c18
     left;have ne:∀p xs,H8 p=some (.tup xs)->p≠rb:=λp xs e z=>by rw[z,c18]at e;cases e
     refine⟨bk++[(aU cw,z)],cws++[cw],_,_,_,_,_,rfl,bL hrbH (s06.trans s68),?_,?_,?_,?_,by rw[Ak];omega,by rw[Ak];show _+1<=_;omega⟩
     .rw[Tg nrt];exact et8
     .refine⟨qs'++[pt],by rw[aD,Aw];rfl,by rw[Ak,Ak,c2];rfl,λj p b hp hb=>?_⟩
      rcases Nat.lt_or_ge j qs'.length with zz|zz
      .rw[Ay zz]at hp;rw[Ay (by omega)]at hb
       have:=c38 j p b hp hb
       rw[aI (ne _ _ this)];exact this
      .rw[Ba zz]at hp;rw[Ba (by omega)]at hb
       have w1:=(Ae.mp hp).1
       have eu:j-qs'.length=0:=by have:j-qs'.length<1:=w1;omega
       have ev:j-bk.length=0:=by omega
       rw[eu]at hp;rw[ev]at hb;cases hp;cases hb;rw[aI (ne _ _ t8)];exact t8
     .refine⟨by rw[Ak,Ak,hcw.1];rfl,λj b cw' hb hc=>?_⟩
      have hcl:=hcw.1
      rcases Nat.lt_or_ge j bk.length with zz|zz
      .rw[Ay zz]at hb;rw[Ay (by omega)]at hc
       exact hcw.2 j b cw' hb hc
      .rw[Ba zz]at hb;rw[Ba (by omega)]at hc
       have w1:=(Ae.mp hb).1
       have eu:j-bk.length=0:=by have:j-bk.length<1:=w1;omega
       have ev:j-cws.length=0:=by omega
       rw[eu]at hb;rw[ev]at hc;cases hb;cases hc;exact⟨rfl,hc1,by omega,hcL⟩
     .rw[words]at hw;refine List.nodup_append.mpr ⟨ZH,by simp,λu hu v hv e=>?_⟩
      rw[Aj.mp hv]at e;exact hw (Bg.mpr ⟨u,hu,by rw[e]⟩)
  .left;refine fF (λhg=>?_) (λhg=>?_)
   .have w0:=Dq (N / 50) (show (5:Int)≠0 by decide)
    have w1:=Du (N / 50) (show (0:Int)<5 by decide)
    obtain⟨z2,hz2,az2⟩:=Oj (ss:=ts) w0 (by rw[htl];exact w1)
    have hzl2:=hts z2 hz2
    have hsp:(Str.ofString " ").length=1:=rfl
    have hl1:(z1++Str.ofString " ").length=z1.length+1:=by rw[Str.length_append];rfl
    left;refine eY et6 az2 ?_;left;exact hM _ _ ⟨_,rfl,by rw[Str.length_append,hl1];omega,rfl⟩
   .left;exact hM _ _ ⟨z1,rfl,by omega,rfl⟩
 .rintro U H4 ⟨bk,cws,v3,v4,v5,v6,v7,rfl,s4,et4,hbk,hcw,ZH,hb1,hbl⟩;rw[Ab]at hbl;left;exact q rb bk cws H4 hrbH s4 hbk hcw ZH hb1 (by omega)
def LX(a:List (Key×V))(k:Key)(v:V):1<=(dY a k v).length:=by
 cases e:dY a k v with
 |nil=>
  have h:=OV a k k v
  rw[e,if_pos rfl]at h;cases h
 |cons x l=>rw[Az];omega
def uU:Sp:=λh H Q _=>∃c b e d,h=[.int c,.ref b]/\Y7 H b e/\UJ e d/\e.length<=8/\
 ∀p a f g,H p=none->Z_ H g->g p=some (.dK a)->Lk a f->(∀c,0<=aO f c/\aO f c<=9)->ZT f->1<=a.length->Q (.ref p) g
def u6:Z9 ["_law_cell", "_law_book_here", "_law_number", "_law_most", "_law_locker", "_law_flag"] ["_law_cell", "_law_book_here"] (aK rY):=by fail "sc"
def JN(F:ZR K "_law_flags" "_law_flags" rY f fd)(G:Gs K mg w Zt Zz Zu Zx Z0 Zv Zy Zw)(z6:ZJ P w K mg base 1 "_law_mixed" ["_law_cell", "_law_k"] lA)(u7:ZJ P w K mg base 1 "_law_checked" ["_law_word_here"] kR):Z6 P w K mg base ZP 2 f fd ["_law_cell", "_law_book_here"] uU:=by
 refine F.ok u6 (λvs H Q E h=>?_) (λc1 A a6 s H vs Q E hr h=>?_)
 .obtain⟨c,b,bk,a,rfl,_⟩:=h;rfl
 obtain⟨c,b,bk,a,rfl,b6,k,h8,q⟩:=h;refine⟨_,(@aE _ _ _ _ _ (aQ 2 u6.nd (bF z6 hr (by decide) rfl (aA (mv 0) (aA aJ aB)))) (@aE _ _ _ _ _ (aQ 3 u6.nd (aV cE aJ (aV eE (mv 2) aJ))) (@aE _ _ _ _ _ (aQ 4 u6.nd vY) (@aE _ _ _ _ _ (cK Bp rfl (sQ (aV cE (cX Gb PySem.F.slot_str_join PySem.F.type_str_join Mf fK (aA (dB rfl (dD (mv 1)) (mU (N:=["_law_page"]) (by right) (by right)) (by right) rfl (by right) (λ_ _ _ _=>(bB (i:=0) (show List.Nodup (["_law_page"]:List Str) by right) rfl (Or.inl rfl))) (λ_ _ _ _=>dP) (λ_ _ _ _=>(bF u7 hr (by decide) rfl (aA (bJ cA (mv 0) aJ (λ_ _=>rfl)) aB)))) aB)) fK)) (bB (i:=5) u6.nd rfl (Or.inl rfl)) (@aE _ _ _ _ _ (aQ 2 u6.nd (aV eE (aV oA (aV cE (mv 2) aJ) aJ) aJ)) (@aH _ _ _ (fN (Z7.u1 hr) (mv 4) (mv 5) (aV eE (aV jB (mv 2) aJ) (aV cE (mv 3) aJ)) rfl)))) (@aH _ _ _ (aR (mv 4))))))),?_⟩
 obtain⟨qs,b1,b2,b3⟩:=id b6;have a3:(qs.map V.ref).length=bk.length:=by rw[Ab,b2]
 left;refine⟨c,90,rfl,by omega,by omega,λn hn=>?_⟩
 have y0:=Dq n (show (8:Int)≠0 by decide)
 have y1:=Du n (show (0:Int)<8 by decide)
 left;generalize n%8=O at y0 y1 ⊢;intro X R;have W:=aG R (HO.dK [])
 have e1:(upd H X (HO.dK [])) X=some (.dK []):=aD
 generalize upd H X (HO.dK [])=H1 at W e1 ⊢;have rq:=aP (W _ _ b1)
 left;refine jL (xs:=qs.map V.ref) (λj=>(a[j]?).map λe=>V.str (aU (e++[Yl e]))) rq (by rw[a3];exact bG (by omega)) (λj x Hc A B hx sm hA hB=>?_) (λD Hd hD sD r=>?_)
 .rw[Ai]at hx;obtain⟨p,ep,rfl⟩:=Bt.mp hx;have I:j<bk.length:=by rw[<-b2];exact(Ae.mp ep).1
  have ec:a[j]?=some (a[j]'(by rw[k.1];exact I)):=Aa _
  obtain⟨hw,b5,b4,a9⟩:=k.2 j _ _ (Aa I) ec;have tp:=sm _ _ (W _ _ (b3 j p _ ep (Aa I)))
  rw[hw]at tp;left;refine⟨Wk.set rfl (Wk.refl _),?_⟩;left;refine dS tp (v:=.str (aU (a[j]'(by rw[k.1];exact I)))) (bO (j:=0) rfl) ?_
  left;exact⟨_,rfl,b5,b4,a9,λH' s' _ _=>hA _ (by rw[ec];rfl) H' s'⟩
 rw[a3,<-k.1,kO (λe=>V.str (aU (e++[Yl e]))),show a.map (λe=>V.str (aU (e++[Yl e])))=((a.map λe=>e++[Yl e]).map aU).map V.str by rw[Bz,Bz];rfl]at r
 have h7:∀c∈a.map (λe=>e++[Yl e]),c.length<=7:=λc T=>by
  obtain⟨e,hm,rfl⟩:=Bg.mp T;obtain⟨j,hj⟩:=Dh.mp hm;have C:=(Ae.mp hj).1
  have:=(k.2 j _ _ (Aa (by rw[<-k.1];exact C)) hj).2.2.1
  rw[Ak];show _+1<=7
  omega
 have a5:∀c∈a.map (λe=>e++[Yl e]),∀d∈c,aZ d:=λc T d r=>by
  obtain⟨e,hm,rfl⟩:=Bg.mp T;obtain⟨j,hj⟩:=Dh.mp hm;have C:=(Ae.mp hj).1
  have hh:=(k.2 j _ _ (Aa (by rw[<-k.1];exact C)) hj).2.2
  rcases Bs.mp r with z|z
  .exact hh.2 d z
  .rw[Aj.mp z];exact(Nw hh.1 hh.2).1
 have h8:(a.map (λe=>e++[Yl e])).length<=8:=by rw[Ab,k.1];exact h8
 generalize a.map (λe=>e++[Yl e])=a at r h7 h8 a5;have b7:=aP r
 have e1:=sD _ _ e1
 have W:=W.trans sD
 have t:∀z∈a.map aU,z.length<=7:=λz hz=>by
  obtain⟨c,T,rfl⟩:=Bg.mp hz;rw[cG];exact h7 c T
 have C:(Txt.join "" (a.map aU)).length<=56:=by
  have:=Ki (sep:=Str.ofString "") (n:=7) (L:=a.map aU) t
  rw[Ab,show (Str.ofString "").length=0 from rfl]at this;omega
 have a2:((a.map aU).map (·.length)).sum<=7*(a.map aU).length:=by
  generalize a.map aU=L at t;induction L with
  |nil=>exact Ah _
  |cons u v ih=>
   have h1:=t u Al
   have h2:=ih λx hx=>t x (Ao _ hx)
   rw[Ax,Dm,Az];omega
 rw[Ab]at a2;left;refine BS (ss:=a.map aU) b7 (by rw[show (Str.ofString "").length=0 from rfl];omega) ?_
 have b9:(Str.ofString "1234aw").length=6:=rfl
 left;have a7:(Txt.join "" (a.map aU)++Str.ofString "1234aw").length<=62:=by rw[Str.length_append];omega
 have M:(Txt.join "" (a.map aU)).cps.toList=a.flatten:=by
  have:=FlT.W5 (a.map aU)
  rw[Bz]at this;have e2:a.map ((λy=>y.cps.toList) ∘ aU)=a:=(Dp λc _=>show (aU c).cps.toList=c from rfl).trans (List.map_id a)
  rw[e2]at this;exact this
 have Z:∀d∈(Txt.join "" (a.map aU)++Str.ofString "1234aw").cps.toList,eO d:=λd r=>by
  rw[show (Txt.join "" (a.map aU)++Str.ofString "1234aw").cps.toList=a.flatten++[49,50,51,52,97,119] by rw[<-M];exact Ic]at r
  rcases Bs.mp r with z|z
  .obtain⟨l,h1,h2⟩:=List.mem_flatten.mp z;exact .inl (a5 l h1 d h2)
  .exact(show ∀d∈[49,50,51,52,97,119],eO d by unfold eO;decide) d z
 have a1:1<=(Txt.join "" (a.map aU)++Str.ofString "1234aw").cps.toList.length:=by
  rw[show (Txt.join "" (a.map aU)++Str.ofString "1234aw").cps.toList=a.flatten++[49,50,51,52,97,119] by rw[<-M];exact Ic,Ak]
  show 1<=_+6
  omega
 generalize Txt.join "" (a.map aU)++Str.ofString "1234aw"=zz at a7 Z a1 ⊢;refine Tn (λi U H'=>E_4 λY m f v5=>U=[some (.int c),some (.ref b),some (.int Y),some (.int (1+O)),some (.ref X),v5]/\0<=Y/\Z_ H H'/\H' X=some (.dK m)/\Lk m f/\m.length<=i/\ZT f/\(1<=i->1<=m.length)/\∀c,0<=aO f c/\aO f c<=9)
  ⟨n,[],_,_,rfl,hn,W,e1,.nil,Ah _,(λc T=>nomatch T),(λh=>absurd h (by decide)),λc=>⟨Jn _,(by decide:(0:Int)<=9)⟩⟩ ?_ ?_
 .rintro i d U H2 r ⟨Y,m,f,v5,rfl,a8,s2,e2,lk,a4,S,J,hf⟩;have b8:i<62:=by have:=(Ae.mp r).1;rw[fJ]at this;omega
  have x0:=Dq ((Y+11)*69621) (show (2147483647:Int)≠0 by decide)
  left;generalize (Y+11)*69621%2147483647=o at x0 ⊢;have x1:=Dq (o / 7) (show 1+O+1≠0 by omega)
  have x2:=Du (o / 7) (show 0<1+O+1 by omega)
  left;refine iL (z:=one d) e2 (bG (by omega)) ?_
  refine⟨o,_,_,_,rfl,x0,bL R s2,aD,lk.put d _,?_,S.put (Z d (Ap r)),λ_=>?_,λc=>?_⟩
  .have:=fX m (Sum.inr (one d)) (.int (o / 7%(1+O+1)))
   omega
  .exact LX _ _ _
  .show 0<=((if c=d then some (o / 7%(1+O+1)) else f c):Option Int).getD 0/\((if c=d then some (o / 7%(1+O+1)) else f c):Option Int).getD 0<=9
   by_cases z:c=d
   .rw[if_pos z];exact⟨x1,by show o / 7%(1+O+1)<=9;omega⟩
   .rw[if_neg z];exact hf c
 .rintro U H2 ⟨Y,m,f,v5,rfl,a8,s2,e2,lk,a4,S,J,hf⟩;have J:=J a1
  rw[fJ]at a4;left;exact q X m f H2 R s2 e2 lk hf S J
def yK(ns:List Int)(c m:Int)(h:0<=c)(d:0<=m):∃e:List Int,rO (ns.map V.int) (some c) (some (c+m))=e.map V.int/\e.length<=m.toNat:=by
 refine⟨(ns.drop (min c.toNat ns.length)).take (min (c+m).toNat ns.length-min c.toNat ns.length),?_,?_⟩
 .unfold rO;rw[List.map_take,List.map_drop];show ((ns.map V.int).drop (if c<0 then (c+((ns.map V.int).length:Int)).toNat else min c.toNat (ns.map V.int).length)).take ((if c+m<0 then (c+m+((ns.map V.int).length:Int)).toNat else min (c+m).toNat (ns.map V.int).length)-(if c<0 then (c+((ns.map V.int).length:Int)).toNat else min c.toNat (ns.map V.int).length))=_
  rw[if_neg (Int.not_lt.mpr h),if_neg (Int.not_lt.mpr (Int.add_nonneg h d)),Ab]
 .rw[Ce,Int.toNat_add h d];refine Bo (Nat.min_le_left ..) ?_;generalize c.toNat=a;generalize m.toNat=b;generalize ns.length=L;clear h d;omega
def uO(K:W.Frag)(C:Addr):Sp:=λp H Q _=>∃(a:Addr) (o:List Int),p=[.ref a]/\Zo K H a (o.map V.int)/\o.length<=63/\
 ∀(r x s n i rw l q k j f:Addr) (h:List (Str×Str)) (g:Q6) (t:Nat->Option Int) (e:List (Key×V)) (m:Nat) (d:Hp),Z_ H d->d r=some (.lst [.ref x,.ref n,.ref i,.ref rw])->Y7 d n h->UJ h g->g.Nodup->1<=h.length->h.length<=8->1<=m->m<=6->
  d x=some (.ins C s (Y2 l m q k j f))->Y7 d l h->W8 d j k (List.replicate m none) (bK (aO t))->d i=some (.dK e)->Lk e t->(∀c,0<=aO t c/\aO t c<=9)->ZT t->1<=e.length->k≠i->d f=some (.lst [])->j≠f->l≠f->d rw=some (.lst (List.replicate m V.non))->rw≠f->j≠rw->H x=none->H f=none->H i=none->H rw=none->Q (.ref r) d
def n4:Z9 ["_law_script", "_law_book_here", "_law_totals", "_law_many"] ["_law_script"] (aK rQ):=by fail "sc"
def BP(F:ZR K "_law_begun" "_law_begun" rQ f fd)(yA5:ZJ P w K mg base 2 "_law_book" ["_law_cells"] zP)(yA6:ZJ P w K mg base 2 "_law_flags" ["_law_cell", "_law_book_here"] uU)(n5:ZJ P w K mg base 1 "_law_cell_at" ["_law_script", "_law_k"] (qX K))(yA7:T_ ZP P w K mg base 2 Z0 ["self", "book", "locker", "many"] (jD Z0)):Z6 P w K mg base ZP 4 f fd ["_law_script"] (uO K Z0):=by
 refine F.ok n4 (λvs H Q E h=>?_) (λcdv A outer s H vs Q E hr h=>?_)
 .obtain⟨a,ns,rfl,_⟩:=h;rfl
 obtain⟨a,ns,rfl,hS,h63,q⟩:=h;refine⟨_,(@aE _ _ _ _ _ (aQ 1 n4.nd (bF yA5 hr (by decide) rfl (aA (qH Yp (mv 0) (kI aJ) (kI aJ)) aB))) (@aE _ _ _ _ _ (aQ 2 n4.nd (bF yA6 hr (by decide) rfl (aA (bF n5 hr (by decide) rfl (aA (mv 0) (aA aJ aB))) (aA (mv 1) aB)))) (@aE _ _ _ _ _ (aQ 3 n4.nd (aV cE aJ (aV eE (bF n5 hr (by decide) rfl (aA (mv 0) (aA aJ aB))) aJ))) (@aH _ _ _ (aR (@bZ _ _ _ _ (aA (GI yA7 hr (by decide) rfl G.c_Tower (aA (mv 1) (aA (mv 2) (aA (mv 3) aB)))) (aA (mv 1) (aA (mv 2) (aA (aV Qk (bZ (aA cF aB)) (mv 3)) aB)))))))))),?_⟩
 left;refine Si hS λrc hrc=>?_;obtain⟨ms,em,hml⟩:=yK ns 2 7 (by decide) (by decide)
 rw[show (2:Int)+7=9 from rfl]at em;rw[em];have k1:=aG hrc (.lst (ms.map V.int))
 have e1:Z2 (upd H rc (.lst (ms.map V.int))) rc=some (ms.map V.int):=cV
 generalize upd H rc (.lst (ms.map V.int))=H1 at k1 e1 ⊢;left;refine⟨rc,ms,rfl,e1,hml,λrb bk cws H2 hrb s2 hbk hcw ZH hb1 hb8=>?_⟩;have s02:=k1.trans s2
 left;refine⟨a,ns,1,rfl,s02.seq hS,by omega,λn1=>?_⟩
 left;refine⟨n1,rb,bk,cws,rfl,hbk,hcw,hb8,λrl kvs f H3 hrl s3 el lk hf hfo h1k=>?_⟩;have s03:=s02.trans s3
 left;refine⟨a,ns,0,rfl,s03.seq hS,by omega,λn0=>?_⟩
 have y0:=Dq n0 (show (6:Int)≠0 by decide)
 have y1:=Du n0 (show (0:Int)<6 by decide)
 obtain⟨m,em,m1,m6⟩:∃m:Nat,1+n0%6=(m:Int)/\1<=m/\m<=6:=⟨(1+n0%6).toNat,by omega,by omega,by omega⟩
 left;rw[em];left;intro x dx hx hdx hne;obtain⟨qs,b1,b2,b3⟩:=id hbk;have hkk:=(aG hdx (.own x)).trans (aG (show (upd H3 dx (.own x)) x=none by rw[aI (Ne.symm hne)];exact hx) (.ins Z0 dx []))
 refine⟨x,rb,rl,dx,qs.map V.ref,kvs,f,m,rfl,aD,aP (hkk _ _ (s3 _ _ b1)),.inl (hkk _ _ el),lk,m6,λb' s0 st hg dd H4 hb' hhg hdd hst nhd nbd sE x4 e4 d04 d14 h4 f4=>⟨rfl,?_⟩⟩;have s34:=λb o e=>sE b o (λz=>by rw[Aj.mp z,hx]at e;cases e) (hkk _ _ e)
 have s04:=s03.trans s34
 left;refine⟨r0,λp0 hp0=>?_⟩
 have k5:=aG hp0 (.lst [V.non])
 have e5:(upd H4 p0 (.lst [V.non])) p0=some (.lst [V.non]):=aD
 generalize upd H4 p0 (.lst [V.non])=H5 at k5 e5 ⊢;left;refine⟨p0,_,[V.non],rfl,rfl,e5,by omega,by omega,by show 1*((m:Int)).toNat<=sizeLine;exact bH (by omega),λrw' hrw=>?_⟩
 rw[RM];have k6:=k5.trans (aG hrw (.lst (List.replicate m V.non)))
 have e6:(upd H5 rw' (.lst (List.replicate m V.non))) rw'=some (.lst (List.replicate m V.non)):=aD
 have nrw:rw'≠dd:=λz=>by rw[z,k5 _ _ f4]at hrw;cases hrw
 have nhw:hg≠rw':=λz=>by rw[<-z,k5 _ _ h4]at hrw;cases hrw
 generalize upd H5 rw' (.lst (List.replicate m V.non))=H6 at k6 e6 ⊢;left;refine⟨by show 4<=sizeLine;decide,λr hr=>?_⟩
 have k7:=aG hr (.lst [.ref x,.ref rb,.ref rl,.ref rw'])
 have k47:=k6.trans k7
 have s07:=s04.trans k47
 have bkk:∀y,H4 y=some (.lst (qs.map V.ref))->Y7 (upd H6 r (.lst [.ref x,.ref rb,.ref rl,.ref rw'])) y bk:=λy hy=>⟨qs,k47 _ _ hy,b2,λj p b hp hb=>k47 _ _ (s34 _ _ (s3 _ _ (b3 j p b hp hb)))⟩
 refine q r x dx rb rl rw' b' s0 st hg dd bk cws f kvs m _ s07 aD (bkk rb (s34 _ _ (s3 _ _ b1))) hcw ZH hb1 hb8 m1 m6 (k47 _ _ x4) (bkk b' e4) ⟨⟨⟨_,k47 _ _ h4,?_⟩,?_,⟨_,k47 _ _ d14,eU _⟩,nT _⟩,gX _⟩ (k47 _ _ (s34 _ _ el)) lk hf hfo h1k (λz=>by rw[z,hkk _ _ el]at hst;cases hst) (k47 _ _ f4) nhd nbd (k7 _ _ e6) nrw (λz=>nhw z) (none_of s03 hx) (none_of (s03.trans hkk) hdd) (none_of s02 hrl) (none_of (s04.trans k5) hrw)
 .refine⟨by rw[Hf,Hf],λj v h hv hh=>?_⟩
  rw[Gr]at hv hh;split at hv
  .rename_i hj
   rw[if_pos hj]at hh;cases hv;cases hh;rfl
  .cases hv
 .intro cs hc;cases (List.mem_replicate.mp hc).2
def eZ:Sp:=λc H Q _=>∃(a:List Nat) (k:Nat) (p:Int),c=[.str (aU a),.int p]/\p=(k:Int)+1/\k<a.length/\a.length<=7/\
 ∀r b,H r=none->Z_ H b->b r=some (.lst (((X6 a k).map one).map V.str))->Q (.ref r) b
def RL:∀n:Nat,n<4->Str.ofString (toString (1+(n:Int)))=one (49+n)
 |0,_=>by right
 |1,_=>by right
 |2,_=>by right
 |3,_=>by right
 |n+4,h=>absurd h (by omega)
def u8:Z9 ["_law_word_here", "_law_place", "_law_found", "_law_n"] ["_law_word_here", "_law_place"] (aK fW):=by fail "sc"
def zl(F:ZR K "_law_choices" "_law_choices" fW f fd):Z6 P w K mg base ZP 1 f fd ["_law_word_here", "_law_place"] eZ:=by
 refine F.ok u8 (λu H Q E h=>?_) (λC A l s H u Q E D h=>?_)
 .obtain⟨a,k,p,rfl,_⟩:=h;rfl
 obtain⟨a,k,j,rfl,x,t,J,q⟩:=h;refine⟨_,(@aE _ _ _ _ _ (aQ 2 u8.nd (bZ (aA (bJ cA (mv 0) (aV iK (mv 1) aJ) (λ_ _=>rfl)) aB))) (@aE _ _ _ _ _ (cK Bp rfl (zI rfl G.b_range (aA aJ (aA (aX (HF rfl) rfl G.b_min Ob (aA aJ (aA (mv 1) aB))) aB))) (bB (i:=3) u8.nd rfl (Or.inl rfl)) (@aH _ _ _ (bS (aY lG (bJ cA (mv 0) (aV iK (mv 3) aJ) (λ_ _=>rfl)) (bJ cA (mv 0) (aV iK (mv 1) aJ) (λ_ _=>rfl)) (bA _)) (@aH _ _ _ (cP (cX Cq Eo Ep yU (mv 2) (aA (bN Q9 rfl G.b_str N8 (aA (mv 3) aB)) aB)))) bC))) (@aH _ _ _ (aR (mv 2))))),?_⟩;have b:=cG a
 left;refine lZ (by rw[b];exact bH (by omega)) (gP (k:=k) (by omega) t) ?_
 left;refine⟨r0,λp m=>?_⟩
 left;have B:(if j<(5:Int) then j else 5)=1+((min k 4:Nat):Int):=by split<;>omega
 rw[B];refine⟨⟨by omega,by omega,by omega,by omega⟩,?_⟩
 rw[show (1+((min k 4:Nat):Int)-1).toNat=min k 4 by omega]
 refine qQ (λi U c=>∃v,U=[some (.str (aU a)),some (.int j),some (.ref p),v]/\Z_ H c/\c p=some (.lst (((a.getD k 0::(List.range i).filterMap (X5 a k)).map one).map V.str)))
  ⟨none,rfl,aG m _,aD⟩ ?_ ?_
 .rintro i U c z ⟨v,rfl,d,e⟩;have y:=z
  have I:=bP e
  have r:((((a.getD k 0::(List.range i).filterMap (X5 a k)).map one).map V.str)).length<sizeLine:=by
   have:=Dc (X5 a k) (List.range i)
   rw[Bw]at this;rw[Ab,Ab,Az];exact bG (by omega)
  left;refine lZ (by rw[b];exact bH (by omega)) (gP (k:=i) (by omega) (by omega)) ?_
  left;refine lZ (by rw[b];exact bH (by omega)) (gP (k:=k) (by omega) t) ?_
  left;rw[show decide (({cps:=#[a.getD i 0]}:Str)={cps:=#[a.getD k 0]})=decide (a.getD i 0=a.getD k 0) from uA _ _];refine fF (λo=>?_) (λo=>?_)
  .have n:=Bf o
   left
   refine s_str (by have : (1 + (i : Int)).natAbs = 1 + i := by omega
                    rw[this];exact Ik (Nat.log2_le_self _) (by omega)) ?_
   rw[RL i (by omega)]
   left;refine⟨_,rfl,bL m d,?_⟩;rw[aD,oP (F:=X5 a k) (if_pos n),<-List.cons_append,Aw,Aw];rfl
  .have n:=Bv (Cd.mpr o)
   left;refine⟨_,rfl,d,?_⟩;rw[e,oE (F:=X5 a k) (if_neg n)]
 .rintro U c ⟨v,rfl,d,e⟩;exact q p c m d e
def yG(F:ZR K "_law_choices" "_law_choices" fW f fd):Yw P w K mg base 1 f fd ["_law_word_here", "_law_place"] eZ:=by
 refine F.SK u8 (λx H Q E h=>?_) (λI A D m s H x Q J c h=>?_)
 .obtain⟨a,k,p,rfl,_⟩:=h;rfl
 obtain⟨a,k,l,rfl,y,u,M,q⟩:=h;refine⟨_,(@aE _ _ _ _ _ (aQ 2 u8.nd (bZ (aA (bJ cA (mv 0) (aV iK (mv 1) aJ) (λ_ _=>rfl)) aB))) (@aE _ _ _ _ _ (T2 Bp (dW c) (DB rfl G.b_range (aA aJ (aA (aX (KH (dW c)) rfl G.b_min Ob (aA aJ (aA (mv 1) aB))) aB))) (bB (i:=3) u8.nd rfl (Or.inl rfl)) (@aH _ _ _ (bS (aY lG (bJ cA (mv 0) (aV iK (mv 3) aJ) (λ_ _=>rfl)) (bJ cA (mv 0) (aV iK (mv 1) aJ) (λ_ _=>rfl)) (bA _)) (@aH _ _ _ (cP (cX Cq Eo Ep yU (mv 2) (aA (bN Q9 rfl G.b_str N8 (aA (mv 3) aB)) aB)))) bC))) (@aH _ _ _ (aR (mv 2))))),?_⟩;have b:=cG a
 left;refine lZ (by rw[b];exact bH (by omega)) (gP (k:=k) (by omega) u) ?_
 left;refine⟨r0,λp n=>?_⟩
 left;have C:(if l<(5:Int) then l else 5)=1+((min k 4:Nat):Int):=by split<;>omega
 rw[C];refine⟨⟨by omega,by omega,by omega,by omega⟩,?_⟩
 rw[show (1+((min k 4:Nat):Int)-1).toNat=min k 4 by omega]
 refine qQ (λi U d=>∃v,U=[some (.str (aU a)),some (.int l),some (.ref p),v]/\Z_ H d/\d p=some (.lst (((a.getD k 0::(List.range i).filterMap (X5 a k)).map one).map V.str)))
  ⟨none,rfl,aG n _,aD⟩ ?_ ?_
 .rintro i U d B ⟨v,rfl,e,j⟩;have z:=B
  have L:=bP j
  have t:((((a.getD k 0::(List.range i).filterMap (X5 a k)).map one).map V.str)).length<sizeLine:=by
   have:=Dc (X5 a k) (List.range i)
   rw[Bw]at this;rw[Ab,Ab,Az];exact bG (by omega)
  left;refine lZ (by rw[b];exact bH (by omega)) (gP (k:=i) (by omega) (by omega)) ?_
  left;refine lZ (by rw[b];exact bH (by omega)) (gP (k:=k) (by omega) u) ?_
  left;rw[show decide (({cps:=#[a.getD i 0]}:Str)={cps:=#[a.getD k 0]})=decide (a.getD i 0=a.getD k 0) from uA _ _];refine fF (λr=>?_) (λr=>?_)
  .have o:=Bf r
   left
   refine s_str (by have : (1 + (i : Int)).natAbs = 1 + i := by omega
                    rw[this];exact Ik (Nat.log2_le_self _) (by omega)) ?_
   rw[RL i (by omega)]
   left;refine⟨_,rfl,bL n e,?_⟩;rw[aD,oP (F:=X5 a k) (if_pos o),<-List.cons_append,Aw,Aw];rfl
  .have o:=Bv (Cd.mpr r)
   left;refine⟨_,rfl,e,?_⟩;rw[j,oE (F:=X5 a k) (if_neg o)]
 .rintro U d ⟨v,rfl,e,j⟩;exact q p d n e j
def oY(F:ZR K "halyards" "Tower.halyards" cY f fd):Yw P w K mg base 1 f fd ["self"] (bX Z0):=by
 refine F.SK iS (λl H Q E h=>?_) (λa2 A a1 n s H l Q hr o h=>?_)
 .obtain⟨a,b,U,R,hg,dd,M,m,O,hs,rfl,_⟩:=h;rfl
 obtain⟨a,b,U,R,hg,dd,M,m,O,hs,rfl,ha,t,k,Y,q⟩:=h;refine⟨_,(@aH _ _ _ (aR (Qj (dW o) (mK (oU (mv 0) rfl)) (mU  (by right) (by right)) (by right) rfl (by right) (λC c d L v=>(bB (i:=0) (show List.Nodup (["hoist"]:List Str) by right) rfl (Or.inl rfl))) (λC c d L v=>dP) (λC c d L v=>(vC (aY uR (mv 0) cF (bA _)) cF (bN jC rfl G.b_list dH (aA (mv 0) aB))))))),?_⟩
 refine⟨a,Z0,M,_,_,rfl,ha,G.Z3,G.na_Tower_hung,TM,?_⟩;left;refine Ud (hs:=hs) t (bG (by omega)) k.len (λi x h Hc A B X Z S J=>?_) (λD Hd l hD T hd j u=>?_)
 .have I:=(k.keep S).val i x h X Z
  cases h with
  |none=>
   obtain rfl:x=V.non:=I;refine⟨Wk.set rfl (Wk.refl _),?_⟩;exact J .non _ (Z_.refl _) rfl λp z=>nomatch z
  |some cs=>
   obtain⟨W,rfl,r⟩:=I
   refine⟨Wk.set rfl (Wk.refl _),?_⟩;left;rw[show decide (V.ref W=V.non)=false from As (λz=>nomatch z)]
   left;intro y e;exact J (.ref y) _ (aG e _) ⟨y,rfl,aD⟩ λp z=>by cases z;exact e
 .exact q D l Hd hD T hd j u
def UT(ws:List (Option (List Nat))):Prop:=∀a,some a∈ws->2<=a.length
def Um:Option (List Nat)->Prop
 |none=>True
 |some a=>a.length<=7/\(∀d∈a,aZ d)/\xT a=true
def OY(h:xT cw=true):2<=cw.length:=by
 unfold xT at h;grind
def AO(h1:1<=cs.length)(e:cs.length<=6)(c:∀d∈cs,aZ d)(b:aZ (Yl cs))(h:kX (cs++[Yl cs])=true):Um (some (cs++[Yl cs])):=by
 refine⟨by rw[Ak];show _+1<=_;omega,λd a=>?_,?_⟩
 .rcases Bs.mp a with z|z
  .exact c d z
  simp_all
 .unfold xT;grind
def HW(b:Z5 H us hs)(ok:fG hs)(f:us[j]?=some (V.ref p))(d:hs[j]?=some h):∃c a,h=some (c::a)/\H p=some (.lst (V.str (one c)::(a.map one).map V.str)):=by
 have r:=b.val j _ _ f d
 cases h with
 |none=>cases r
 |some a=>
  obtain⟨q,e,g⟩:=r;cases e;have:=(gR (ok a (Ap d))).1
  cases a with
  |nil=>exact absurd this (by decide)
  |cons c a=>exact⟨c,a,rfl,g⟩
def XW.Yb{f:Nat->Option Int}(t:XW H B R hs f)(s:ZU l H H')(y:B∉l)(w:∀a,H R=some (.dK a)->R∉l)(x:∀p c m,H p=some (.lst (V.str (one c)::m))->p∉l):XW H' B R hs f:=by
 obtain⟨⟨o,q,b⟩,g,⟨a,d,n⟩,u⟩:=t;refine⟨⟨o,s _ _ y q,b.len,λj v h i k=>?_⟩,g,⟨a,s _ _ (w _ d) d,n⟩,u⟩;have r:=b.val j v h i k
 cases h with
 |none=>exact r
 |some m=>
  obtain⟨p,rfl,A⟩:=r;obtain⟨c,C,e,z⟩:=HW b g i k;exact⟨p,rfl,s _ _ (x p c _ z) A⟩
def NK{ws:Q4}(t:UT ws){c:Nat}{cs:List V}:ws.map YR≠V.str (one c)::cs:=by
 intro z;cases ws with
 |nil=>cases z
 |cons w ws=>
  have a:YR w=V.str (one c):=by injection z
  cases w with
  |none=>cases a
  |some b=>
   have e:aU b=one c:=by injection a
   have d:=Dk Str.length e
   rw[cG]at d;have:=t b (Al ..)
   have f:(one c).length=1:=rfl
   omega
def Y7.Yb(h:Y7 H r bk)(s:ZU l H H')(i:r∉l)(g:∀p e,H p=some (.tup e)->p∉l):Y7 H' r bk:=by
 obtain⟨f,m,k,d⟩:=h;exact⟨f,s _ _ i m,k,λj p b a c=>s _ _ (g p _ (d j p b a c)) (d j p b a c)⟩
def Y7.YW(h:Y7 H r bk)(s:Z_ H H'):Y7 H' r bk:=by
 obtain⟨a,g,f,e⟩:=h;exact⟨a,s _ _ g,f,λj p b c d=>s _ _ (e j p b c d)⟩
def Sy{y z:Addr}(h1:p≠x)(b:p≠y)(a:p≠z):p∉[x,y,z]:=λe=>by grind
def OO{n:Int}{m:Nat}(h:0<m):∃k:Nat,n%((m:Nat):Int)=(k:Int)/\k<m:=by
 have b:=Dq n (show ((m:Nat):Int)≠0 by omega)
 have a:=Du n (show _<((m:Nat):Int) by omega)
 exact⟨(n%((m:Nat):Int)).toNat,by omega,by omega⟩
def XW.YW{f:Nat->Option Int}(h:XW H B R hs f)(k:Z_ H H'):XW H' B R hs f:=by
 obtain⟨⟨d,g,e⟩,j,⟨a,c,b⟩,i⟩:=h;exact⟨⟨d,k _ _ g,e.keep k⟩,j,⟨a,k _ _ c,b⟩,i⟩
def VE(h1:p≠x)(a:p≠y):p∉[x,y]:=λe=>by grind
def OE{ws:Q4}{o:Option (List Nat)}(t:UT ws)(w:Um o):UT (ws.set n o):=λb a=>by
 rcases Gf a with z|z
 .exact t b z
 .subst z;exact OY w.2.2
def Uo{f:Nat->Option Int}(a:Lk kvs f)(h:ZT f):kvs.length<=27:=by
 have r:=SM  a.nd λx b=>by
  obtain⟨i,d,rfl⟩:=Bg.mp b;obtain⟨c,n,e,g⟩:=a.Xe d;rw[e];exact Bg.mpr ⟨c,ZG.mpr (h c (by rw[g];rfl)),rfl⟩
 rwa[Ab,Ab]at r
structure Xp (C:Addr) (H:Hp) (x rw' rl dx b' s0 dd:Addr) (m k:Nat) (hs:List (Option (List Nat))) (f t:Nat->Option Int) (wv:List (Option (List Nat))):Prop where
 tw:∃(st hg:Addr) (dps:List Addr),H x=some (.ins C dx (Y2 b' m s0 st hg dd))/\W8 H hg st hs f/\hg≠dd/\hg≠rw'/\st≠rl/\H dd=some (.lst (dps.map V.ref))/\dps.length<=k
 yv:hs.length=m
 m6:m<=6
 wd:H rw'=some (.lst (wv.map YR))
 yt:rw'≠dd
 two:UT wv
 fit:Fits hs wv
 yx:∃kvs,H rl=some (.dK kvs)/\Lk kvs t
 yu:ZT t
 eq:∀c,aO t c=lF f hs c
def Xp.keep{d e:Addr}{m:Nat}{f:Nat->Option Int}(h:Xp C H x rw' d dx e s0 dd m k hs f t wv)(s:Z_ H H'):Xp C H' x rw' d dx e s0 dd m k hs f t wv:=by
 obtain⟨⟨i,j,c,F,g,E,D,B,A,z⟩,y,w,v,u,r,q,⟨a,n,l⟩,p,o⟩:=h;exact⟨⟨i,j,c,s _ _ F,⟨g.1.YW s,g.2⟩,E,D,B,s _ _ A,z⟩,y,w,s _ _ v,u,r,q,⟨a,s _ _ n,l⟩,p,o⟩
def GK{f:Nat->Option Int}(b:ZT f)(a:∀c,0<=aO f c){c:Nat}(h:c∉bI (aO f) 27):aO f c=0:=by
 by_cases d:eO c
 .have g:=a c
  have e:¬0<aO f c:=λz=>h (ZE.mpr ⟨ZG.mpr d,z⟩)
  omega
 .exact gN b d
def FX{u:HO}(h:H b=some u)(e:Hs b=some u):Zk Hs H b=some u:=by
 by_cases a:∃o v,u=.frz o v
 .obtain⟨o,v,rfl⟩:=a;exact nJ h e
 .exact dO h λo v z=>a ⟨o,v,z⟩
inductive uY(C:Addr)(g:List V)(H:Hp)(Q:VK)(zz3:XK):Prop|mk(x a c j n h l m k i f t e:_)(_:g=[.ref x,.ref a,.ref c])(_:Xp C H x a c j n h l m k i f t e)(_:∀d,Z_ H d->Q (.bl true) d):uY C g H Q zz3
def wE:Z9 ["_law_tower", "_law_words", "_law_totals", "_law_halyards", "_law_locker", "_law_left", "_law_flag", "_law_many", "_law_hoist", "_law_word_here", "_law_k"] ["_law_tower", "_law_words", "_law_totals"] (aK nG):=by fail "sc"
def Ky(F:ZR K "_law_holds" "_law_holds" nG f fd)(y8:uN ZP P w K mg base 1 Z0 "halyards" ["self"] (bX Z0))(u9:uN ZP P w K mg base 2 Z0 "locker" ["self"] (gD Z0))(g7:ZJ P w K mg base 1 "_law_choices" ["_law_word_here", "_law_place"] eZ):Z6 P w K mg base ZP 4 f fd ["_law_tower", "_law_words", "_law_totals"] (uY Z0):=by
 refine F.ok wE (λvs H Q E h=>?_) (λq5 A h5 s H vs Q E hr h=>?_)
 .obtain⟨x,T,rl,dx,b',s0,dd,m,k,M,f,t,wv,rfl,_⟩:=h;rfl
 obtain⟨x,T,rl,dx,b',s0,dd,m,k,M,f,t,wv,rfl,S,q⟩:=h;refine⟨_,(@aE _ _ _ _ _ (aQ 3 wE.nd (nE y8 G.Z3 hr (by decide) (mv 0))) (@aE _ _ _ _ _ (aQ 4 wE.nd (nE u9 G.Z3 hr (by decide) (mv 0))) (@aE _ _ _ _ _ (bS (PW.pt (gJ (gG (cT (aX tR rfl G.b_isinstance cM (aA (mv 3) (aA (mQ rfl G.b_list dH) aB))))) (gJ (aY WE (aX dA rfl G.b_len cC (aA (mv 3) aB)) (aX dA rfl G.b_len cC (aA (mv 1) aB)) (bA _)) (gB (gG (cT (aX tR rfl G.b_isinstance cM (aA (mv 4) (aA (mQ rfl G.b_dict Qp) aB))))))))) (@aH _ _ _ (aR eI)) bC) (@aE _ _ _ _ _ (aQ 5 wE.nd (bN F7 rfl G.b_dict Qp (aA (mv 2) aB))) (@aE _ _ _ _ _ (UC (cK Bp rfl (EV (mv 4)) (eC (K:=K) (i:=6) (j:=7) (by rfl) (by rfl) wE.nd (by rfl) (by exact(Or.inl rfl)) (by exact Or.inl rfl) (by rfl) (by exact(Or.inl rfl)) (by exact Or.inl rfl)) (@aE _ _ _ _ _ (bS (PW.pt (gJ (gG (cT (aX tR rfl G.b_isinstance cM (aA (mv 7) (aA (mQ rfl G.b_int vG) aB))))) (gJ (cT (aX tR rfl G.b_isinstance cM (aA (mv 7) (aA (mQ rfl G.b_bool RF) aB)))) (gB (aY WK (mv 7) aJ (bA _)))))) (@aH _ _ _ (aR eI)) bC) (@aH _ _ _ (fN (Z7.u1 hr) (mv 5) (mv 6) (aV iK (eW Cc Do (vL (Z7.u1 hr)) (mv 5) (aA (mv 6) (aA aJ aB))) (mv 7)) rfl))))) (@aE _ _ _ _ _ (cK Bp rfl (OH rfl G.b_zip (aA (mv 3) (aA (mv 1) aB))) (eC (K:=K) (i:=8) (j:=9) (by rfl) (by rfl) wE.nd (by rfl) (by exact(Or.inl rfl)) (by exact Or.inl rfl) (by rfl) (by exact(Or.inl rfl)) (by exact Or.inl rfl)) (@aE _ _ _ _ _ (bS (PW.pt (gJ (PW.pt (kA (aY uR (mv 9) cF (bA _)) (iO (aY kQ (mv 8) cF (bA _))))) (gB (PW.pt (kA (aY kQ (mv 9) cF (bA _)) (iO (gG (cT (aX tR rfl G.b_isinstance cM (aA (mv 8) (aA (mQ rfl G.b_list dH) aB))))))))))) (@aH _ _ _ (aR eI)) bC) (@aE _ _ _ _ _ (bS (PW.pt (kA (aY kQ (mv 9) cF (bA _)) (iO (aY WE (aX dA rfl G.b_len cC (aA (mv 8) aB)) (aX dA rfl G.b_len cC (aA (mv 9) aB)) (bA _))))) (@aH _ _ _ (aR eI)) bC) (@aH _ _ _ (cK Bp rfl (kK rfl G.b_enumerate (aA (DI (mv 8) (Uc (bZ aB))) aB)) (eC (K:=K) (i:=10) (j:=6) (by rfl) (by rfl) wE.nd (by rfl) (by exact(Or.inl rfl)) (by exact Or.inl rfl) (by rfl) (by exact(Or.inl rfl)) (by exact Or.inl rfl)) (@aE _ _ _ _ _ (bS (aY mR (mv 6) (bF g7 hr (by decide) rfl (aA (mv 9) (aA (aV cE (mv 10) aJ) aB))) (by rfl)) (@aH _ _ _ (aR eI)) bC) (@aH _ _ _ (fN (Z7.u1 hr) (mv 5) (mv 6) (aV iK (eW Cc Do (vL (Z7.u1 hr)) (mv 5) (aA (mv 6) (aA aJ aB))) aJ) rfl)))))))) (@aH _ _ _ (aR (fM (Sd hr.YU) (SD (dB rfl (PZ (mv 5)) (iQ (N:=["_law_flag", "_law_left"]) ["_law_tower", "_law_words", "_law_totals", "_law_halyards", "_law_locker", "_law_left", "_law_flag", "_law_many", "_law_hoist", "_law_word_here", "_law_k"] (aK nG) [none,some 5] rfl rfl rfl (λx h=>cH h) (by right)) (by right) rfl (by right) (λ_ _ _ _=>(bB (i:=0) (show List.Nodup (["_law_flag", "_law_left"]:List Str) by right) rfl (Or.inl rfl))) (λ_ _ _ _=>(lX (aY WE (iM (Z7.u1 hr) (mv 1) (mv 0) (λ_ _=>rfl)) aJ (bA _)))) (λ_ _ _ _=>(mv 0)))) (bZ aB) (bA _)))))))))),?_⟩
 obtain⟨⟨st,J,q4,ex,⟨tw,j9⟩,n7,n6,n4,q3,p6⟩,p1,m6,erw,n5,m9,b5,⟨W,m3,d8⟩,d5,k1⟩:=S;obtain⟨⟨us,hB,f8⟩,ok,⟨h7,hR,lk⟩,f2⟩:=tw;have n9:=f8.len
 left;refine⟨x,dx,_,rfl,ex,cZ,?_⟩;left;refine⟨x,b',s0,st,J,dd,dx,m,us,M,rfl,ex,aP hB,f8,by omega,λr1 g8 H1 p4 s1 e1 b6 _=>?_⟩
 have a1:=b6.len
 left;refine⟨x,dx,_,rfl,s1 _ _ ex,qT,?_⟩;left;refine⟨x,b',s0,st,J,dd,dx,m,h7,f,rfl,s1 _ _ ex,.inl (s1 _ _ hR),lk,λr2 H2 p3 s2 e2=>?_⟩;have a4:=s1.trans s2
 have lw:=eU (aO f)
 have n3:=aP (s2 _ _ e1)
 have n2:=aP (a4 _ _ erw)
 have d9:(wv.map YR).length=M.length:=by rw[Ab,b5.1]
 have g5:=s2 _ _ e1
 left;rw[a1,d9,show (!decide (((M.length:Nat):Int)=((M.length:Nat):Int)))=false by rw[An rfl];rfl]
 left;refine K7 (.inl (a4 _ _ m3)) λl Y=>?_;have k3:=aG Y (.dK W)
 have b9:=a4.trans k3
 have e3:(upd H2 l (.dK W)) l=some (.dK W):=aD
 have a9:=k3 _ _ e2
 have a2:H l=none:=none_of a4 Y
 have c1:r2≠l:=λz=>by rw[<-z,e2]at Y;cases Y
 have c9:=k3 _ _ g5
 have b2:r1≠l:=λz=>by rw[<-z,g5]at Y;cases Y
 generalize upd H2 l (.dK W)=H3 at k3 b9 e3 a9 c9 ⊢;have f7:=(b6.keep s2).keep k3
 have n8:=Uo d8 d5
 left;refine S9 a9 λo2=>?_;have j4:(Zm (aO f) (bI (aO f) 27)).length=(bI (aO f) 27).length:=by unfold Zm;rw[Ab]
 have fz:(upd H3 r2 (.frz o2 (.dK (Zm (aO f) (bI (aO f) 27))))) r2=_:=aD
 have m5:(upd H3 r2 (.frz o2 (.dK (Zm (aO f) (bI (aO f) 27))))) l=some (.dK W):=by rw[aI (Ne.symm c1)];exact e3
 have j6:=zL (aO f) 27
 have j3:(bI (aO f) 27).length<=27:=iC _ _
 refine KO (λi U O=>E_7 λa g v6 v7 v8 v9 I=>U=[some (.ref x),some (.ref T),some (.ref rl),some (.ref r1),some (.ref r2),some (.ref l),v6,v7,v8,v9,I]/\(∀b u,b≠l->(upd H3 r2 (.frz o2 (.dK (Zm (aO f) (bI (aO f) 27))))) b=some u->O b=some u)/\O l=some (.dK a)/\Lk a g/\ZT g/\∀c,aO g c=aO t c-(if c∈(bI (aO f) 27).take i then aO f c else 0))
  ⟨W,t,_,_,_,_,_,rfl,λb u _ e=>e,m5,d8,d5,λc=>by rw[Gw,if_neg List.not_mem_nil];omega⟩ (λi U O _ ⟨_,_,_,_,_,_,_,_,e,_⟩=>e _ _ c1 fz) ?_ ?_
 .rintro i kv U H4 p a3 ⟨a,g,v6,v7,v8,v9,I,rfl,a8,e4,L,C,J⟩ hp;unfold Zm at a3;rw[Ai]at a3;obtain⟨c,hc,rfl⟩:=Bt.mp a3;have f6:c∈bI (aO f) 27:=Ap hc
  have p8:=(ZE.mp f6).2
  have k8:eO c:=ZG.mp (Fo (ZE.mp f6).1)
  have k5:=aG hp (.tup [V.str (one c),V.int (aO f c)])
  have t5:(upd H4 p (.tup [V.str (one c),V.int (aO f c)])) p=_:=aD
  have np:p≠l:=λz=>by rw[z,e4]at hp;cases hp
  have e5:=k5 _ _ e4
  have g1:∀b u,b≠l->(upd H3 r2 (.frz o2 (.dK (Zm (aO f) (bI (aO f) 27))))) b=some u->(upd H4 p (.tup [V.str (one c),V.int (aO f c)])) b=some u:=λb u n e=>k5 _ _ (a8 b u n e)
  dsimp only[kV];generalize upd H4 p (.tup [V.str (one c),V.int (aO f c)])=H5 at k5 t5 e5 g1 ⊢;have n1:=cO t5
  have q1:=jU e5
  have b4:=Uo L C
  left;rw[show decide (aO f c<1)=false from As (by omega)]
  left;refine uK (z:=one c) (.inl e5) ?_;rw[L.val c,kS];left;refine iL (z:=one c) e5 (bG (by omega)) ?_
  refine⟨_,_,_,_,_,_,_,rfl,λb u n e=>by rw[aI n];exact g1 b u n e,aD,L.put c _,C.put k8,λd=>?_⟩
  rw[NS];have f5:=J d
  have k4:c∉(bI (aO f) 27).take i:=λz=>by
   obtain⟨j,hj⟩:=Dh.mp z;rw[List.getElem?_take]at hj;split at hj
   .rename_i j8
    obtain⟨h1,h2⟩:=Ae.mp hj;obtain⟨h3,h4⟩:=Ae.mp hc;exact By.mp j6 j i h1 h3 j8 (h2.trans h4.symm)
   .cases hj
  rw[Bl,hc,Option.toList_some];by_cases z:d=c
  .subst z;rw[if_neg k4]at f5;rw[if_pos rfl,if_pos (Bd _ (Aj.mpr rfl))];omega
  .rw[if_neg z,f5];congr 1
   by_cases y:d∈(bI (aO f) 27).take i
   .rw[if_pos y,if_pos (Cm _ y)]
   .rw[if_neg y,if_neg λw=>(Bs.mp w).elim y λw2=>z (Aj.mp w2)]
 .rintro U H4 ⟨a,g,v6,v7,v8,v9,I,rfl,a8,e4,L,C,J⟩;rw [j4,Bq] at J;replace J:∀ c,aO g c=aO t c - aO f c:=λc=>by
   rw[J c];by_cases y:c∈bI (aO f) 27
   .rw[if_pos y]
   .rw[if_neg y,GK j9 f2 y]
  have c6:∀b u,b≠l->H3 b=some u->(Zk H3 H4) b=some u:=λb u n e=>by
   by_cases z:b=r2
   .subst z;rw[a9]at e;cases e;exact uF (a8 _ _ c1 fz) λo v z=>by rw[a9]at z;cases z
   .exact FX (a8 b u n (by rw[aI z];exact e)) e
  have g4:(Zk H3 H4) l=some (.dK a):=dO e4 λ_ _=>nofun
  unfold VU;dsimp only;generalize Zk H3 H4=H5 at c6 g4 ⊢;have mk:∀ {p xs},p≠l->H3 p=some (.lst xs)->Z2 H5 p=some xs:=λn e=>aP (c6 _ _ n e)
  have d7:T≠l:=λz=>by rw[<-z,erw]at a2;cases a2
  have b8:=b9 _ _ erw
  have j2:∀ {p:Addr} {xs:List V},H3 p=some (.lst xs)->p≠l:=λe z=>by rw[z,e3]at e;cases e
  have z1:=mk b2 c9
  have z2:=mk d7 b8
  left;refine OT (xs:=g8) (ys:=wv.map YR) (λi U O=>E_7 λa g v6 v7 v8 v9 I=>U=[some (.ref x),some (.ref T),some (.ref rl),some (.ref r1),some (.ref r2),some (.ref l),v6,v7,v8,v9,I]/\(∀b u,b≠l->H3 b=some u->O b=some u)/\O l=some (.dK a)/\Lk a g/\ZT g/\∀c,aO g c=aO t c-aO f c-cnt (aT M (List.range i)) c)
   ⟨a,g,_,_,_,_,_,rfl,c6,g4,L,C,λc=>by rw[J c];show _=_-((0:Nat):Int);omega⟩ (λi U O _ _ ⟨_,_,_,_,_,_,_,_,e,_⟩=>⟨aP (e _ _ b2 c9),aP (e _ _ d7 b8)⟩) ?_ ?_
  .rintro i xv y U H6 pt hx hy ⟨a,g,v6,v7,v8,v9,I,rfl,c8,e6,L,C,J⟩ j1;have hi:i<M.length:=by rw[<-a1];exact(Ae.mp hx).1
   have k7:=aG j1 (.tup [xv,y])
   have t7:=cO (show (upd H6 pt (.tup [xv,y])) pt=_ from aD)
   have a7:∀b u,b≠l->H3 b=some u->(upd H6 pt (.tup [xv,y])) b=some u:=λb u n e=>k7 _ _ (c8 b u n e)
   have e7:=k7 _ _ e6
   generalize upd H6 pt (.tup [xv,y])=H7 at k7 t7 a7 e7 ⊢;have hv:=f7.val i xv (M.getD i none) hx (by rw[Ad,Aa hi];rfl)
   have a5:y=YR (wv.getD i none):=by
    rw[Ai]at hy;rw[Ad];cases e:wv[i]? with
    |none=>rw[e]at hy;cases hy
    |some o=>rw[e]at hy;cases hy;rfl
   have ff:=b5.2 i hi
   have f1:∀c,cnt (aT M (List.range (i+1))) c=cnt (aT M (List.range i)) c+cnt (bW M i) c:=λc=>by
    rw[Bx,jR,iF,show aT M [i]=bW M i from Be _]
   cases R:M.getD i none with
   |none=>
    cases Z:wv.getD i none with
    |some cw=>rw[R,Z]at ff;exact ff.elim
    |none=>
     rw[R]at hv;rw[Z]at a5;obtain rfl:xv=V.non:=hv;obtain rfl:y=V.non:=a5;have d1:decide (V.non=V.non)=true:=rfl
     have d2:(!decide (V.non=V.non))=false:=rfl
     left;rw[d1];left;rw[d2];left;rw[d2];left;rw[d2];left;refine RD (h:=none) rfl λp H8 s8 e8=>?_;left;refine kD (xs:=[]) (λX U O=>U=[some (.ref x),some (.ref T),some (.ref rl),some (.ref r1),some (.ref r2),some (.ref l),v6,v7,some .non,some .non,I]/\O=H8) ⟨rfl,rfl⟩ (λX U O _ ⟨_,e⟩=>by rw[e];exact e8) (λX xx U O p' h9=>nomatch h9) ?_
     rintro U O ⟨rfl,rfl⟩;refine⟨a,g,_,_,_,_,_,rfl,λb u n e=>s8 _ _ (a7 b u n e),s8 _ _ e7,L,C,λc=>?_⟩;rw[J c,f1 c,show cnt (bW M i) c=0 by unfold bW;rw[R];rfl]
     omega
   |some cs=>
    cases Z:wv.getD i none with
    |none=>rw[R,Z]at ff;exact ff.elim
    |some cw=>
     rw[R]at hv;rw[Z]at a5;rw[R,Z]at ff;obtain⟨a6,p7,m1,k9⟩:=ff;obtain⟨pc,rfl,f3⟩:=hv;obtain rfl:y=V.str (aU cw):=a5;have d1:decide (V.str (aU cw)=V.non)=false:=As (λz=>nomatch z)
     have d3:(!decide (V.str (aU cw)=V.non))=true:=by rw[d1];rfl
     have b3:=a7 _ _ (j2 f3) f3
     have m7:=aP b3
     have b1:((cs.map one).map V.str).length=cw.length:=by rw[Ab,Ab,a6.1]
     have k6:(aU cw).length=cw.length:=cG cw
     left;rw[d1];left;rw[d3];left;rw[d3];left;rw[b1,k6,show (!decide (((cw.length:Nat):Int)=((cw.length:Nat):Int)))=false by rw[An rfl];rfl]
     left;refine RD (h:=some cs) ⟨pc,rfl,b3⟩ λp H8 s8 e8=>?_;have g3:=s8 _ _ e7
     have h6:p≠l:=λz=>by unfold Z2 at e8;rw[z,g3]at e8;cases e8
     left;refine kD (xs:=(cs.map one).map V.str) (λX U O=>E_4 λa g v6 I=>U=[some (.ref x),some (.ref T),some (.ref rl),some (.ref r1),some (.ref r2),some (.ref l),v6,v7,some (.ref pc),some (.str (aU cw)),I]/\(∀b u,b≠l->H8 b=some u->O b=some u)/\O l=some (.dK a)/\Lk a g/\ZT g/\∀c,aO g c=aO t c-aO f c-cnt (aT M (List.range i)) c-cnt (cs.take X) c)
      ⟨a,g,_,_,rfl,λb u _ e=>e,g3,L,C,λc=>by rw[J c,Gw];show _=_-((0:Nat):Int);omega⟩ (λX U O _ ⟨_,_,_,_,_,fr,_⟩=>UA e8 h6 fr) ?_ ?_
     .rintro X xx U H9 pk h8 ⟨a,g,v6,I,rfl,c7,e9,L,C,J⟩ j5;obtain⟨d,hd,rfl⟩:=LQ h8;have f4:X < cw.length:=by rw[<-a6.1];exact(Ae.mp hd).1
      have c3:=a6.2 X d hd
      have k2:eO d:=P1 k9 f4 c3
      have b4:=Uo L C
      have c2:=aG j5 (.tup [.int ((0+X:Nat):Int),.str (one d)])
      have g9:=cO (show (upd H9 pk (.tup [.int ((0+X:Nat):Int),.str (one d)])) pk=_ from aD)
      have g6:=c2 _ _ e9
      have b7:∀b u,b≠l->H8 b=some u->(upd H9 pk (.tup [.int ((0+X:Nat):Int),.str (one d)])) b=some u:=λb u n e=>c2 _ _ (c7 b u n e)
      generalize upd H9 pk (.tup [.int ((0+X:Nat):Int),.str (one d)])=q7 at c2 g9 g6 b7 ⊢;left;refine⟨cw,X,_,rfl,by omega,f4,m1,λrc q6 p2 d6 g2=>?_⟩
      refine yN (neg:=true) (aP g2) rfl (cU _) ?_;rw[R9,An c3,show (if true=true then !true else true)=false from rfl]
      have d4:=d6 _ _ g6
      have m8:=jU d4
      left;refine uK (z:=one d) (.inl d4) ?_;rw[L.val d,kS];left;refine iL (z:=one d) d4 (bG (by omega)) ?_
      refine⟨_,_,_,_,rfl,λb u n e=>by rw[aI n];exact d6 _ _ (b7 b u n e),aD,L.put d _,C.put k2,λc=>?_⟩
      rw[NS,mP hd c];have h1:=J c
      by_cases z:c=d
      .subst z;rw[if_pos rfl,if_pos rfl];omega
      .rw[if_neg z,if_neg z];omega
     .rintro U H9 ⟨a,g,v6,I,rfl,c7,e9,L,C,J⟩;rw[b1,<-a6.1,Bq]at J;refine⟨a,g,_,_,_,_,_,rfl,λb u n e=>c7 b u n (s8 _ _ (a7 b u n e)),e9,L,C,λc=>?_⟩;rw[J c,f1 c,show bW M i=cs by unfold bW;rw[R];rfl]
      omega
  .rintro U H6 ⟨a,g,v6,v7,v8,v9,I,rfl,c8,e6,L,C,J⟩;rw [a1,d9,Nat.min_self] at J;have hz:∀ c,aO g c=0:=λc=>by
    have:=J c
    have:=k1 c
    unfold lF at this;omega
   have b4:=Uo L C
   left;refine S9 e6 λo=>?_;have c5:(upd H6 l (.frz o (.dK a))) l=_:=aD
   refine iB (n:=a.length) (λD i ys Hc=>Z_ (upd H6 l (.frz o (.dK a))) Hc/\ys=[]) (bG (by omega)) (λD hD=>⟨aG hD _,rfl⟩) (λD i ys Hc _ r h=>⟨r.1 _ _ c5,h⟩) (λD ys Hc _ r=>⟨r.1 _ _ c5,rfl⟩) ?_ ?_
   .rintro D i2 ys Hc v O A' B' hD p5 ⟨sm,rfl⟩ c4 ⟨rfl,kv,a3,rfl⟩ q2 m2;obtain⟨c,n,m4,hn⟩:=L.Xe (Ap a3);have j7:n=0:=by have:=hz c;unfold aO at this;rw[hn]at this;exact this
    subst j7;rw[m4];dsimp only[kV];have f9:=sm _ _ c5
    have c3:=TR f9
    left;refine⟨Wk.set rfl (Wk.refl _),?_⟩;left;refine vE (z:=one c) (.inr ⟨o,f9⟩) (by rw[L.val c,hn];rfl) ?_
    left;rw[show (!decide ((0:Int)=0))=false from rfl];left;exact m2 _ c4 ⟨sm,rfl⟩
   .rintro D ys Hc hD ⟨sm,rfl⟩ c4 _;have p9:H6 D=none:=by
     by_cases z:D=l
     .rw[z,aD]at hD;cases hD
     .rw[aI z]at hD;exact hD
    have sU:Z_ H6 (Zk H6 Hc):=pV e6 (λo v z=>nomatch z) sm
    have eD:(Zk H6 Hc) D=some (.lst []):=dO c4 λ_ _=>nofun
    generalize Zk H6 Hc=H7 at sU eD ⊢;refine⟨by decide,λp hp=>?_⟩
    refine Ux (aM (aG hp _) (aP eD)) cV rfl rfl ?_;exact q _ λb u e=>aG hp _ b u (sU _ _ (c8 b u (λz=>by rw[z,a2]at e;cases e) (b9 _ _ e)))
def T8{x:V}(h:((F.map one).map V.str)[j]?=some x):∃d,F[j]?=some d/\x=.str (one d):=by
 rw[Ai,Ai]at h;cases e:F[j]? with
 |none=>rw[e]at h;cases h
 |some d=>rw[e]at h;cases h;exact⟨d,rfl,rfl⟩
def of_refs{ps:List Addr}{x:V}(h:(ps.map V.ref)[j]?=some x):∃p,ps[j]?=some p/\x=.ref p:=by
 rw[Ai]at h;cases e:ps[j]? with
 |none=>rw[e]at h;cases h
 |some p=>rw[e]at h;cases h;exact⟨p,rfl,rfl⟩
def O4(F:List Nat)(g:Nat->Int)(n:Nat):(List.range n).filterMap (λj=>(F[j]?).map λc=>V.int (g c))=((F.take n).map g).map V.int:=by
 rw[Bz];induction n with
 |zero=>rfl
 |succ n a=>
  rw[Bx,Bu,a,Bl,Aw]
  cases e:F[n]? with
  |none=>simp[e]
  |some c=>simp[e]
noncomputable def Xn(c:Nat):Nat:=ZY.cps.toList.idxOf c
def Kq:ZY.cps.toList.map Xn=List.range 27:=by right
def EI:∀c∈ZY.cps.toList,Txt.find ZY (one c)=((Xn c:Nat):Int):=by right
def LH{p:Nat->Bool}(h:F=ZY.cps.toList.filter p):(F.map Xn).Pairwise (· < ·)/\(∀k∈F.map Xn,k<27)/\F.length<=27:=by
 have s:(F.map Xn).Sublist (List.range 27):=by
  rw[<-Kq,h];exact List.filter_sublist.map Xn
 refine⟨List.pairwise_lt_range.sublist s,λk a=>Bh.mp (s.subset a),?_⟩;have:=s.length_le
 simp_all
theorem QP(cws:Q6):∀i,(∀c∈cws,c.length<=7)->(XZ cws i).Pairwise λa b=>a.1*8+a.2<b.1*8+b.2
 |0,_=>List.Pairwise.nil
 |i+1,h7=>by
  rw[jQ];refine List.pairwise_append.mpr ⟨QP cws i h7,?_,λa f b d=>?_⟩
  .unfold lS;refine Fs.mpr (Ha.imp fun {a b} h=>?_);show i*8+(1+a)<i*8+(1+b)
   omega
  .obtain ⟨l,j,g⟩:=Y8.mp f;have e:(cws.getD a.1 []).length<=7:=by
    by_cases z:a.1<cws.length
    .rw[Ad,Aa z];exact h7 _ (Br z)
    grind
   unfold lS at d;grind
theorem RW:∀ {c:List Addr} {W:List Wt},ZV H c W->(W.Pairwise λa b=>a.1*8+a.2<b.1*8+b.2)->c.Pairwise λx y=>YA H x<YA H y
 |[],[],_,_=>.nil
 |r::c,w::W,h,hp=>by
  obtain⟨o,n⟩:=Ip.mp hp;have d:ZV H c W:=⟨by simpa using h.1,λj g f l k=>h.2 (j+1) g f l k⟩
  have q:=TX (h.2 0 r w rfl rfl)
  refine Ip.mpr ⟨λy i=>?_,RW d n⟩;obtain⟨j,e⟩:=Dh.mp i;have m:=(Ae.mp e).1
  have s:=d.1
  have p:W[j]?=some W[j]:=Aa (by omega)
  rw[q,TX (d.2 j y _ e p)];exact o _ (Br _)
inductive pI(k:List V)(H:Hp)(Q:VK)(zz3:XK):Prop|mk(a b i h e f d g W F:_)(_:k=[.ref a,.ref b,.ref i,.ref h])(_:H a=some (.dK e))(_:Lk e f)(_:(∀c,0<=aO f c/\aO f c<=1000))(_:Z2 H b=some ((d.map aU).map V.str))(_:d.length<=8)(_:(∀c∈d,c.length<=7))(_:H i=some (.lst (g.map V.ref)))(_:ZV H g W)(_:H h=some (.lst ((F.map one).map V.str)))(_:Zs d (aO f) W F)(_:∀j,Z_ H j->Q (.bl true) j):pI k H Q zz3
def Nk:XM (V.int (-1)) (ks.map λk=>V.int ((k:Nat):Int))=false:=by
 unfold XM;rw[List.any_eq_false];intro x a;obtain⟨k,_,rfl⟩:=Bg.mp a;show ¬(_ == -1)=true
 grind
def pU(ks:List Nat):(ks.map λk=>V.int ((k:Nat):Int)).all bY=true:=by
 rw[Di];intro x a;obtain⟨k,_,rfl⟩:=Bg.mp a;rfl
def ML(ks:List Nat):mC (ks.map λk=>V.int ((k:Nat):Int)) (ks.map λk=>V.int ((k:Nat):Int))=true:=by
 rw[nA rfl,Di];intro j a;exact jI (gW (pU ks) j)
def n6:Z9 ["_law_locker", "_law_words", "_law_wants", "_law_flags_here", "_law_order", "_law_number", "_law_place", "_law_flag"] ["_law_locker", "_law_words", "_law_wants", "_law_flags_here"] (aK jP):=by fail "sc"
def EG(F:ZR K "_law_lacks" "_law_lacks" jP f fd)(t:VQ P w K mg base 1 "_law_choices" ["_law_word_here", "_law_place"] eZ):Yw P w K mg base 2 f fd ["_law_locker", "_law_words", "_law_wants", "_law_flags_here"] pI:=by
 refine F.SK n6 (λvs H Q E h=>?_) (λh1 A g9 d2 s H vs Q Y o h=>?_)
 .obtain⟨a,b,l1,l2,d3,f,l,M,W,F,rfl,_⟩:=h;rfl
 obtain⟨a,b,l1,l2,d3,f,l,M,W,F,rfl,ha,lk,hf,hb,h8,h7,f3,I,f2,J,q⟩:=h;refine⟨_,(@aE _ _ _ _ _ (bS (PW.pt (gJ (gG (cT (aX tR rfl G.b_isinstance cM (aA (mv 2) (aA (mQ rfl G.b_list dH) aB))))) (gB (gG (cT (aX tR rfl G.b_isinstance cM (aA (mv 3) (aA (mQ rfl G.b_list dH) aB)))))))) (@aH _ _ _ (aR eI)) bC) (@aE _ _ _ _ _ (B8 (i:=4) n6.nd rfl (Or.inl rfl) (dW o) (mK (mv 3)) (mU (N:=["_law_flag"]) (by right) (by right)) (by right) rfl (by right) (λC u D ex sx=>(bB (i:=0) (show List.Nodup (["_law_flag"]:List Str) by right) rfl (Or.inl rfl))) (λC u D ex sx=>dP) (λC u D ex sx=>(cX Gb PySem.F.slot_str_find PySem.F.type_str_find Sn fK (aA (mv 0) aB)))) (@aE _ _ _ _ _ (bS (PW.pt (gJ (aY (EH (Z7.Xl Y)) (mv 2) (aX (HS (dW o)) rfl G.b_sorted zG (aA (bN (IA (Z7.Xl Y) (dW o)) rfl G.b_set (by right) (aA (mv 2) aB)) aB)) (bA _)) (gJ (aY (Rc (Z7.WT Y)) (mv 4) (aX (Mi (dW o)) rfl G.b_sorted zG (aA (bN (GG (dW o)) rfl G.b_set (by right) (aA (mv 4) aB)) aB)) (bA _)) (gB (aY IS (TV TY aJ) (mv 4) (by rfl)))))) (@aH _ _ _ (aR eI)) bC) (@aE _ _ _ _ _ (T2 Bp (dW o) (mK (mv 2)) (DG (K:=K) (i:=5) (j:=6) (by rfl) (dW o) n6.nd (by rfl) (by exact(Or.inl rfl)) (by exact Or.inl rfl) (by rfl) (by exact(Or.inl rfl)) (by exact Or.inl rfl)) (@aE _ _ _ _ _ (bS (PW.pt (gJ (cT (aX tR rfl G.b_isinstance cM (aA (mv 5) (aA (mQ rfl G.b_bool RF) aB)))) (gJ (aY Qt (mv 5) (bN Rn rfl G.b_range QL (aA (aX dA rfl G.b_len cC (aA (mv 1) aB)) aB)) (by rfl)) (gB (aY Qt (mv 6) (bN Rn rfl G.b_range QL (aA aJ (aA (aV cE (aX dA rfl G.b_len cC (aA (bJ cA (mv 1) (mv 5) (λ_ _=>rfl)) aB)) aJ) aB))) (by rfl)))))) (@aH _ _ _ (aR eI)) bC) (@aH _ _ _ (T2 Bp (dW o) (mK (G9 t (A3 o) Y (by decide) rfl (aA (bJ cA (mv 1) (mv 5) (λ_ _=>rfl)) (aA (mv 6) aB)))) (bB (i:=7) n6.nd rfl (Or.inl rfl)) (@aH _ _ _ (bS (aY mR (mv 7) (mv 3) (by rfl)) (@aH _ _ _ (aR eI)) bC)))))) (@aH _ _ _ (aR (fM VS (aX dA rfl G.b_len cC (aA (mv 2) aB)) (aX (F9 (dW o)) rfl G.b_sum UW (aA (Qj (dW o) (mK (mv 3)) (iQ (N:=["_law_flag", "_law_locker"]) ["_law_locker", "_law_words", "_law_wants", "_law_flags_here", "_law_order", "_law_number", "_law_place", "_law_flag"] (aK jP) [none,some 0] rfl rfl rfl (λx h=>cH h) (by right)) (by right) rfl (by right) (λC u D ex sx=>(bB (i:=0) (show List.Nodup (["_law_flag", "_law_locker"]:List Str) by right) rfl (Or.inl rfl))) (λC u D ex sx=>dP) (λC u D ex sx=>(eW Cc Do (vL (Z7.FJ Y)) (mv 1) (aA (mv 0) (aA aJ aB))))) aB)) (bA _)))))))),?_⟩
 have d5:(M.map V.ref).length=W.length:=by rw[Ab,I.1]
 have Z:((F.map one).map V.str).length=F.length:=by rw[Ab,Ab]
 have a6:(wl l).length<=56:=Bo (T4 h7 _) (by omega)
 have f6:W.length<=56:=Bo J.sub.length_le a6
 obtain⟨pF,b9⟩:=J.flags;obtain⟨a8,a1,f7⟩:=LH b9;have e9:∀c∈F,c∈ZY.cps.toList:=λc hc=>by rw[b9]at hc;exact(Ff.mp hc).1
 have r1:=aP f3
 have r2:=aP f2
 left;refine jL (xs:=(F.map one).map V.str) (λj=>(F[j]?).map λc=>V.int ((Xn c:Nat):Int)) r2 (by rw[Z];exact bG (by omega)) (λj x Hc A B O sm hA hB=>?_) (λD1 H1 g6 s1 a7=>?_)
 .obtain⟨d,hd,rfl⟩:=T8 O;have r:=hA (.int ((Xn d:Nat):Int)) (by rw[hd];rfl)
  left;refine⟨Wk.set rfl (Wk.refl _),?_⟩;left;refine SX ?_;rw[show Txt.find (Str.ofString "abcdefghijklmnopqrstuvw1234") (one d)=((Xn d:Nat):Int) from EI d (e9 d (Ap hd))];exact r _ (Z_.refl _)
 have ek:((F.map λc=>((Xn c:Nat):Int)).map V.int)=((F.map Xn).map λk=>V.int ((k:Nat):Int)):=by rw[Bz,Bz];rfl
 rw[O4,Z,Bq,ek]at a7;generalize F.map Xn=ks at a7 a8 a1 ek;have g2:ks.length<=27:=by
  have:=Dk List.length ek
  rw[Ab,Ab,Ab]at this;omega
 have d1:=aM s1 r1
 have a2:=I.keep λr w e=>s1 _ _ e
 have L:=J.sub
 have b8:∀w∈W,w.1<8/\w.2<8:=λw hw=>by
  obtain⟨m1,m2,m3⟩:=Y8.mp (L.subset hw);have:(l.getD w.1 []).length<=7:=by rw[Ad,Aa m1];exact h7 _ (Br m1)
  omega
 have d4:W.Pairwise λa b=>a.1*8+a.2<b.1*8+b.2:=(QP l l.length h7).sublist L
 left;refine Nu (ws:=W) d1 a2.1 (λj r w Y hw=>a2.2 j r w Y hw) (by omega) b8 ((oW l l.length).sublist L) λT e1=>?_
 have s2:=aG e1 (yC w T M)
 have e2:(upd H1 T (yC w T M)) T=some (yC w T M):=aD
 have c4:=s2 _ _ a7
 change vP _ (upd H1 T (yC w T M)) _
 generalize upd H1 T (yC w T M)=H2 at s2 e2 c4 ⊢;have b1:=a2.keep λr w e=>s2 _ _ e
 left;refine KU e2 (λr Y=>?_) (by rw[I.1];omega) (RW b1 d4) λp3 d9=>?_
 .obtain⟨j,hj⟩:=Dh.mp Y;have e5:=(Ae.mp hj).1
  have ew:W[j]?=some (W[j]'(by rw[<-I.1];exact e5)):=Aa _
  exact⟨_,_,b1.2 j r _ hj ew,(b8 _ (Ap ew)).2⟩
 have s3:=aG d9 (.lst (M.map V.ref))
 have a4:=s1.trans (s2.trans s3)
 have a9:=s3 _ _ c4
 refine MN 0 (aM a4 r1) cV rfl (λj x y O hy=>?_) ?_
 .rw[O]at hy;cases hy;obtain⟨p,_,rfl⟩:=of_refs O;exact Wb.same (.inr ⟨p,rfl⟩)
 generalize upd H2 p3 (.lst (M.map V.ref))=H3 at s3 a4 a9 ⊢;have c7:=aP a9
 left;refine MA c7 (by omega) (λk hk=>by have:=a1 k hk;omega) (a8.imp λh=>Bc h) λS d8=>?_
 have s4:=aG d8 (yI w S ks)
 have e4:(upd H3 S (yI w S ks)) S=some (yI w S ks):=aD
 have c3:=s4 _ _ a9
 change vP _ (upd H3 S (yI w S ks)) _
 generalize upd H3 S (yI w S ks)=H4 at s4 e4 c3 ⊢;left;refine FI e4 (by omega) a8 λp5 d7=>?_
 have s5:=aG d7 (.lst (ks.map λk=>V.int ((k:Nat):Int)))
 have a3:=a4.trans (s4.trans s5)
 have a5:=aM s5 (aP c3)
 refine Ux a5 cV (pU _) (pU _) ?_;rw[if_pos rfl,ML];generalize upd H4 p5 (.lst (ks.map λk=>V.int ((k:Nat):Int)))=H5 at s5 a3 a5 ⊢;left;refine yN (neg:=false) a5 rfl (pU _) ?_;rw[if_neg (by decide),Nk]
 have f9:=aM a3 r1
 left;refine fP (xs:=M.map V.ref) (λi U H'=>∃v5 v6 v7,U=[some (.ref a),some (.ref b),some (.ref l1),some (.ref l2),some (.ref D1),v5,v6,v7]/\Z_ H H') ⟨_,_,_,rfl,a3⟩ (λi U H' _ ⟨_,_,_,_,e⟩=>aM e r1) ?_ ?_
 .rintro i x U H6 O ⟨v5,v6,v7,rfl,s6⟩;obtain⟨p,ep,rfl⟩:=of_refs O;have hi:i<W.length:=by rw[<-I.1];exact(Ae.mp ep).1
  obtain⟨m,ew⟩:∃w,W[i]?=some w:=⟨_,Aa hi⟩;have b7:=Ap ew
  obtain⟨m1,m2,m3⟩:=Y8.mp (J.sub.subset b7);have c1:=J.all m b7
  have tt:nV H6 p=some [V.int ((m.1:Nat):Int),V.int ((m.2:Nat):Int)]:=cO (s6 _ _ (I.2 i p m ep ew))
  have g4:=aM s6 hb
  have ec:l[m.1]?=some l[m.1]:=Aa m1
  have eg:l.getD m.1 []=l[m.1]:=by rw[Ad,ec];rfl
  rw[eg]at m3;have f1:=h7 _ (Br m1)
  have e3:((l.map aU).map V.str).length=l.length:=by rw[Ab,Ab]
  left;rw[e3];refine CD λr7 X=>?_;have s7:=aG X (HO.rng 0 ((l.length:Nat):Int))
  have g7:(upd H6 r7 (HO.rng 0 ((l.length:Nat):Int))) r7=some (HO.rng 0 ((l.length:Nat):Int)):=aD
  generalize upd H6 r7 (HO.rng 0 ((l.length:Nat):Int))=H7 at s7 g7 ⊢;refine Oa g7 ?_;rw[An (show (0:Int)<=((m.1:Nat):Int)/\((m.1:Nat):Int)<((l.length:Nat):Int) from⟨by omega,by omega⟩)]
  have b4:=s6.trans s7
  have e8:=aM b4 hb
  left;refine eY e8 (v:=V.str (aU l[m.1])) (bO (by rw[Ai,Ai,ec];rfl)) ?_
  have e6:(aU l[m.1]).length=l[m.1].length:=cG _
  left;rw[e6];refine MB λr8 d6=>?_;have s8:=aG d6 (HO.rng 1 ((l[m.1].length:Int)+1))
  have g8:(upd H7 r8 (HO.rng 1 ((l[m.1].length:Int)+1))) r8=some (HO.rng 1 ((l[m.1].length:Int)+1)):=aD
  generalize upd H7 r8 (HO.rng 1 ((l[m.1].length:Int)+1))=H8 at s8 g8 ⊢;refine Oa g8 ?_;rw[An (show (1:Int)<=((m.2:Nat):Int)/\((m.2:Nat):Int)<(l[m.1].length:Int)+1 from⟨by omega,by omega⟩)]
  have b3:=b4.trans s8
  have e7:=aM b3 hb
  left;refine eY e7 (v:=V.str (aU l[m.1])) (bO (by rw[Ai,Ai,ec];rfl)) ?_
  left;refine⟨l[m.1],m.2-1,_,rfl,by omega,by omega,f1,λrc H9 g1 s9 f4=>?_⟩
  have b2:=b3.trans s9
  have c5:H9 rc=some (.lst (((Zd l m).map one).map V.str)):=by unfold Zd;rw[eg];exact f4
  have c8:=aP c5
  left;refine fP (xs:=((Zd l m).map one).map V.str) (λj U H'=>∃v7,U=[some (.ref a),some (.ref b),some (.ref l1),some (.ref l2),some (.ref D1),some (.int ((m.1:Nat):Int)),some (.int ((m.2:Nat):Int)),v7]/\Z_ H9 H') ⟨_,rfl,Z_.refl _⟩ (λj U H' _ ⟨_,_,e⟩=>aM e c8) ?_ ?_
  .rintro j x U f5 O ⟨c6,rfl,R⟩;obtain⟨c,hc,rfl⟩:=T8 O;have b5:=b2.trans R
   have b6:=aM b5 r2
   left;refine yN (neg:=true) b6 rfl (cU _) ?_;rw[if_pos rfl,R9,An (c1 c (Ap hc))];rw[show (!true)=false from rfl];left;exact⟨_,rfl,R⟩
  .rintro U f5 ⟨c6,rfl,R⟩;exact⟨_,_,_,rfl,b2.trans R⟩
 .rintro U H6 ⟨v5,v6,v7,rfl,s6⟩;have f8:=aM s6 r1
  have c9:=aM s6 r2
  left;refine jL (xs:=(F.map one).map V.str) (λj=>(F[j]?).map λc=>V.int (aO f c)) c9 (by rw[Z];exact bG (by omega)) (λj x Hc A B O sm hA hB=>?_) (λD7 H7 g5 s7 X=>?_)
  .obtain⟨d,hd,rfl⟩:=T8 O;have r:=hA (.int (aO f d)) (by rw[hd];rfl)
   have c2:=sm _ _ (s6 _ _ ha)
   left;refine⟨Wk.set rfl (Wk.refl _),?_⟩;have g3:=jU c2
   left;refine uK (z:=one d) (.inl c2) ?_;rw[lk.val d,kS];exact r _ (Z_.refl _)
  .rw[O4,Z,Bq]at X;left;refine T5 (aP X) (λn hn=>by obtain⟨c,_,rfl⟩:=Bg.mp hn;exact⟨by have:=(hf c).1;omega,by have:=(hf c).2;omega⟩) (by rw[Ab];omega) ?_
   left;rw[d5,An (show (F.map (aO f)).sum<((W.length:Nat):Int) from J.Od)];exact q _ (s6.trans s7)
def TK{aL aS aF I k:Addr}{m:Nat}{f:Nat->Option Int}{a:List Addr}{d:Dd}{E:XK}(ex:H x=some (.ins C dx (Y2 I m s0 st hg dd)))(Y:W8 H hg st hs f)(u:hs.length=m)(hm:m<=6)(T:H k=some (.tup d.vs))(P:d.ok m)(w:H dd=some (.lst (a.map V.ref)))(S:a.length<=1000)(M:hg≠dd)(q:∀g L r i J,ZU [x,dd] H J->J x=some (.ins C dx (Y2 I m s0 r i dd))->J dd=some (.lst ((a++[k]).map V.ref))->g.length=m->i≠dd->(i=hg\/H i=none)->H r=none->d.done hs f g L->W8 J i r g L->Q .non J)(qe:d.no aL hs f E H):iG C aL aS aF [.ref x,.ref k] H Q E:=by
 obtain⟨z,K,U,e2⟩:∃z K,H k=some (.tup (.str z::K))/\things.lookup z=some (((V.str z::K).length:Nat):Int):=by
  cases d with
  |Za n cw=>exact⟨_,_,T,rfl⟩
  |lower n=>exact⟨_,_,T,rfl⟩
 refine⟨x,I,s0,st,hg,dd,k,dx,m,z,K,_,rfl,ex,U,e2,w,by rw[Ab];exact S,λp0 O=>?_⟩
 have A:=aG O (.tup [])
 refine⟨I,hg,st,k,hs,f,d,rfl,⟨Y.1.YW A,Y.2⟩,by omega,A _ _ T,by rw[u];exact P,λt D W g L H1 s1 _ et hB hR v l=>?_,qe.keep A⟩
 have s:=A.trans s1
 have h:=s _ _ ex
 have j:=s _ _ w
 have N:dd≠x:=λz=>by rw[z,h]at j;cases j
 have G:=hB.imp id λz=>none_of A z
 have F:D≠dd:=by
  rcases G with z|z
  .rw[z];exact M
  .exact λy=>by rw[y,w]at z;cases z
 refine⟨t,D,W,rfl,et,h,j,(λys z=>by rw[h]at z;cases z),?_⟩
 rw[show a.map V.ref++[V.ref k]=(a++[k]).map V.ref by rw[Aw];rfl]
 have Z:ZU [x,dd] H1 (upd (upd H1 x (.ins C dx (Y2 I m s0 W D dd))) dd (.lst ((a++[k]).map V.ref))):=λb o nb e=>by
  rw[aI (λz=>nb (by rw[z];exact Ao _ (Al ..))),aI (λz=>nb (by rw[z];exact Al ..))]
  exact e
 obtain⟨us,X,u2⟩:=id l.1.QE;have hl:g.length=m:=by
  cases d with
  |Za n cw=>rw[v.1,u]
  |lower n=>rw[v.1,Cg,u]
 refine q g L W D _ ((ZU.of s).trans Z) (by rw[aI (Ne.symm N)];exact aD) aD hl F G (none_of A hR) v ⟨l.1.Yb Z (VE (λz=>by rw[z,h]at X;cases X) F) (λa1 e=>VE (λz=>by rw[z,h]at e;cases e) (λz=>by rw[z,j]at e;cases e)) (λp c cs e=>VE (λz=>by rw[z,h]at e;cases e) (λz=>?_)),l.2⟩
 rw[z,j]at e;have e':a.map V.ref=V.str (one c)::cs:=by injection Bm e
 cases a with
 |nil=>cases e'
 |cons d ds=>injection e' with U _;cases U
def G8{fs:List (Str×V)}{ys a:List V}(b:H x=some (.ins C dx fs))(d:H dd=some (.lst ys))(c:H rw'=some (.lst a))(e:H p=some (.tup xs)):p∉[x,dd,rw']:=
 Sy (λz=>by grind) (λz=>by grind) (λz=>by grind)
def Ng{fs:List (Str×V)}{m:Nat}(g:H x=some (.ins C dx fs))(j:H dd=some (.lst []))(i:H rw'=some (.lst (List.replicate m V.non)))(b:1<=bk.length)(l:1<=m)(h:Y7 H p bk):p∉[x,dd,rw']:=by
 obtain⟨c,a,f,_⟩:=h;refine Sy (λz=>by rw[z,g]at a;cases a) (λz=>?_) (λz=>?_)
 .rw[z,j]at a;have d:([]:List V)=c.map V.ref:=by injection Bm a
  cases c with
  |nil=>rw[<-f]at b;exact absurd b (by decide)
  |cons _ _=>cases d
 .rw[z,i]at a;have d:List.replicate m V.non=c.map V.ref:=by injection Bm a
  cases m with
  |zero=>omega
  |succ m=>
   cases c with
   |nil=>cases d
   |cons _ _=>injection d with k _;cases k
def Xp.more{a d:Addr}{m c:Nat}{f:Nat->Option Int}(h:Xp C H x rw' a dx d s0 dd m k hs f t wv)(E:k<=c):Xp C H x rw' a dx d s0 dd m c hs f t wv:=by
 obtain⟨⟨D,A,z,y,w,v,u,s,r,B⟩,q,p,o,n,l,j,i,g,e⟩:=h;exact⟨⟨D,A,z,y,w,v,u,s,r,by omega⟩,q,p,o,n,l,j,i,g,e⟩
theorem qE:∀a,aT (List.replicate m none) a=[]
 |[]=>rfl
 |k::r=>by
  show ((List.replicate m none).getD k none).getD []++aT _ r=[]
  rw[qE r,Be,Ad,Gr];split<;>rfl
def L4(a:ZT t)(d:∀c,0<=aO t c)(m c:Nat):aO t c=lF (bK (aO t)) (List.replicate m none) c:=by
 unfold lF;rw[qE];show _=_+((0:Nat):Int)
 by_cases b:eO c
 .rw[dF b (d c)];omega
 .rw[gN a b,gN (gX _) b];rfl
def FR(m:Nat):Fits (List.replicate m none) (List.replicate m none):=by
 refine⟨rfl,λk a=>?_⟩;rw[Ad,Gr];split<;>trivial
def Ka{ns:List Nat}:XM (.int ((n:Nat):Int)) (ns.map λk=>V.int ((k:Nat):Int))=decide (n∈ns):=by
 induction ns with
 |nil=>rfl
 |cons d r a=>
  show ((_==_) || XM _ _)=_
  grind
def zA{f:Nat->Option Int}(h:kJ f hs n cw ks j):ks.Sublist (aW hs n):=Zc.mp (Ap h.1)
def FF{f:Nat->Option Int}(hf0:∀c,0<=aO f c)(hs:Q4)(L:List Nat)(c:Nat):lR f hs L c=if eO c then aO f c+cnt (aT hs L) c else 0:=by
 by_cases hc:eO c
 .rw[if_pos hc];have h0:0<=aO f c+cnt (aT hs L) c:=by have:=hf0 c;have:=pH (aT hs L) c;omega
  have e:aO (gL f hs L) c=aO f c+cnt (aT hs L) c:=dF (n:=λc=>aO f c+cnt (aT hs L) c) hc h0
  unfold lR;rw[dF hc (by simp_all),e]
 .rw[if_neg hc];show (bK _ c).getD 0=0
  unfold bK;simp_all
def zd{f:Nat->Option Int}{a:List Nat}{b:Nat}(h:kJ f hs n cw ks j)(h':kJ f hs n cw a b):ks=a:=by
 rcases Jh j b with l|rfl|l
 .exact absurd h.2.1 (h'.2.2 j ks l h.1)
 .have e:=h.1
  rw[h'.1]at e;simp_all
 .exact absurd h'.2.1 (h.2.2 b a l h'.1)
def B4{f:Nat->Option Int}(h:∀c,aO f c=aO g c):lR f=lR g:=by
 have e:gL f=gL g:=by
  unfold gL;simp_all
 unfold lR;rw[e]
def pS{f:Nat->Option Int}(h:∀c,aO f c=aO g c)(z:xH f hs n cw ks):xH g hs n cw ks:=by
 unfold xH at z ⊢;rwa[<-B4 h]
def GH{f:Nat->Option Int}(h:∀c,aO f c=aO g c)(z:kJ f hs n cw ks j):kJ g hs n cw ks j:=
 ⟨z.1,pS h z.2.1,λi l a b c=>z.2.2 i l a b (pS (λc=>(h c).symm) c)⟩
def Kl{f:Nat->Option Int}(b:ZT f)(a:∀c,0<=aO f c)(c:Nat):aO (bK (aO f)) c=aO f c:=by
 by_cases d:eO c
 .exact dF d (a c)
 .rw[gN (gX _) d,gN b d]
inductive qD(C:Addr)(o:List V)(H:Hp)(Q:VK)(zz3:XK):Prop|mk(x q s p g i r m a f n c:_)(_:o=[.ref x,.int ((n:Nat):Int),.str (aU c)])(_:H x=some (.ins C q (Y2 s m p g i r)))(_:W8 H i g a f)(_:a.length<=6)(_:n<a.length)(_:1<=c.length)(_:c.length<=7)(_:(∀d∈c,aZ d))(_:(∀L h j e,Z_ H e->H L=none->e L=some (.lst (h.map λk=>V.int ((k:Nat):Int)))->kJ f a n c h j->Q (.ref L) e))(_:((∀l,l.Sublist (aW a n)->¬xH f a n c l)->∀e,Z_ H e->Q .non e)):qD C o H Q zz3
def RX:Z9 ["_law_tower", "_law_at", "_law_word_here", "_law_found"] ["_law_tower", "_law_at", "_law_word_here"] (aK lO):=by fail "sc"
def G2(F:ZR K "_law_lowered" "_law_lowered" lO f fd)(u0:lY P w K mg base 12 "hauled" ["locker", "halyards", "number", "word"] (rK Zt))(u9:uN ZP P w K mg base 2 Z0 "locker" ["self"] (gD Z0))(y8:uN ZP P w K mg base 1 Z0 "halyards" ["self"] (bX Z0)):Z6 P w K mg base ZP 13 f fd ["_law_tower", "_law_at", "_law_word_here"] (qD Z0):=by
 refine F.ok RX (λvs H Q E h=>?_) (λb3 A I s H vs Q E N h=>?_)
 .obtain⟨x,p,Z,D,y,S,Y,m,M,f,n,cw,rfl,_⟩:=h;rfl
 obtain⟨x,p,Z,D,y,S,Y,m,M,f,n,cw,rfl,r,⟨tw,T⟩,h6,hn,X,V,U,q,qn⟩:=h;refine⟨_,(@aE _ _ _ _ _ (AB rfl rfl rfl rfl G.YH (λy3 R=>(@aH _ _ _ (aQ 3 RX.nd (Oc u0 (oX rfl) N (by decide) rfl (aA (nE u9 G.Z3 N (by decide) (mv 0)) (aA (nE y8 G.Z3 N (by decide) (mv 0)) (aA (mv 1) (aA (mv 2) aB)))))))) (λy3 ea=>(@aH _ _ _ (aR cF)))) (@aH _ _ _ (aR (bJ cA (mv 3) aJ (λ_ _=>rfl))))),?_⟩
 obtain⟨⟨us,hB,o⟩,ok,⟨J,hR,lk⟩,e⟩:=tw;have a6:=o.len
 have e0:=Kl T e
 left;refine⟨x,p,_,rfl,r,qT,?_⟩;left;refine⟨x,Z,D,y,S,Y,p,m,J,f,rfl,r,.inl hR,lk,λr1 H1 a8 d e1=>?_⟩;left;refine⟨x,p,_,rfl,d _ _ r,cZ,?_⟩;refine⟨x,Z,D,y,S,Y,p,m,us,M,rfl,d _ _ r,aP (d _ _ hB),o.keep d,by omega,λr2 u H2 a7 s2 e2 k _=>?_⟩
 have a:=d.trans s2
 refine⟨r1,r2,_,bK (aO f),u,M,n,cw,rfl,⟨s2 _ _ e1,eU (aO f),nT _,aP e2,k,ok,h6,hn,X,V,U⟩,λt L B R ks gs j a3 a5 H3 C ht et hL eL i a9 a1 b2 eB a2 b1 eR a4=>?_,λO dy l1 l2 rs W F H3 C _ _ _ _ _ _ _=>⟨G.X0,?_⟩⟩
 .have tt:=cO et
  refine dS et (v:=.ref L) (bO (j:=0) rfl) ?_;exact q L ks j H3 (a.trans C) (none_of a hL) eL (GH e0 i)
 exact qn (λl hl z=>O l hl (pS (λc=>(e0 c).symm) z)) H3 (a.trans C)
noncomputable def Wy(a:List (Option (List Nat)))(n k:Nat):Option V:=if k=n then none else (a.getD k none).map λb=>V.str (aU b)
def Kk(g:Fits hs wv)(n:Nat):(List.range hs.length).filterMap (Wy wv n)=(((aW hs n).map λk=>Y9 ((hs.getD k none).getD [])).map aU).map V.str:=by
 have h:∀L:List Nat,(∀k∈L,k<hs.length)->L.filterMap (Wy wv n)=(((L.filter λk=>(hs.getD k none).isSome && !decide (k=n)).map λk=>Y9 ((hs.getD k none).getD [])).map aU).map V.str:=λL=>by
  induction L with
  |nil=>exact λ_=>rfl
  |cons k r i=>
   intro h;have d:=h k Al
   have a:=i λj l=>h j (Ao _ l)
   by_cases e:k=n
   .rw[De (by unfold Wy;rw[if_pos e]),Ft (by rw[An e,Bool.not_true,Iz];decide),a]
   .cases c:hs.getD k none with
    |none=>
     have f:wv.getD k none=none:=by
      have r:=g.2 k d
      rw[c]at r;cases m:wv.getD k none with
      |none=>rfl
      |some x=>rw[m]at r;exact r.elim
     rw[De (by unfold Wy;rw[if_neg e,f];rfl),Ft (by rw[c];exact λz=>nomatch z),a]
    |some o=>
     have f:=g.read d (by rw[c];rfl)
     rw[Cj (b:=V.str (aU (Y9 ((hs.getD k none).getD [])))) (by unfold Wy;rw[if_neg e,f];rfl),Iv (by rw[c,As e];rfl),a]
     rfl
 exact h _ λk d=>Bh.mp d
theorem tM{hs:Q4}(n c:Nat):∀L,L.Nodup->cnt (aT hs L) c=cnt (aT hs (L.filter λk=>(hs.getD k none).isSome && !decide (k=n))) c+if n∈L then cnt (bW hs n) c else 0
 |[],_=>rfl
 |k::r,nd=>by
  obtain⟨g,f⟩:=Co.mp nd;have b:=tM (hs:=hs) n c r f
  have i:aT hs (k::r)=bW hs k++aT hs r:=rfl
  rw[i,iF,b];by_cases e:k=n
  .subst e;rw[Ft (by rw[An rfl,Bool.not_true,Iz];decide),if_neg g,if_pos Al]
   omega
  .have d:(n∈k::r)=(n∈r):=by
    grind
   simp only[d];cases a:hs.getD k none with
   |none=>
    rw[Ft (by rw[a];exact λz=>nomatch z)]
    unfold bW;rw[a];show (0:Int)+_=_
    omega
   |some j=>
    rw[Iv (by rw[a,As e];rfl)]
    have h:∀M,aT hs (k::M)=bW hs k++aT hs M:=λ_=>rfl
    rw[h,iF];omega
def FY{f:Nat->Option Int}(b:∀c,0<=aO f c)(a:ZT t)(d:∀c,aO t c=lF f hs c)(h:n<hs.length):lR f hs (n::aW hs n)=aO t:=by
 funext c
 rw[FF b];by_cases g:eO c
 .rw[if_pos g,d];unfold lF;rw[tM n c _ Hy,if_pos (Bh.mpr h)];have e:aT hs (n::aW hs n)=bW hs n++aT hs _:=rfl
  rw[e,iF];unfold aW;omega
 .rw[if_neg g,gN a g]
def OL{y z:Addr}(h:p∈[x,y]):p∈[x,y,z]:=by grind
def Z5.frame{X:Addr->Prop}(a:Z5 H us hs)(h:∀p u,¬X p->H p=some u->H' p=some u)(e:∀p d,V.ref p∈us->H p=some (.lst d)->¬X p):Z5 H' us hs:=
 ⟨a.len,λj v o b f=>by
  have r:=a.val j v o b f
  cases o with
  |none=>exact r
  |some g=>
   obtain⟨p,rfl,c⟩:=r;exact⟨p,rfl,h p _ (e p _ (Ap b) c) c⟩⟩
inductive sZ(C:Addr)(r:List V)(H:Hp)(Q:VK)(zz3:XK):Prop|mk(x a e l p j h:Addr)(m k n:Nat)(s:List (Option (List Nat)))(f t:Nat->Option Int)(q:List (Option (List Nat)))(o:List Nat)(_:r=[.ref x,.ref a,.ref e,.int ((n:Nat):Int),.str (aU o)])(_:Xp C H x a e l p j h m k s f t q)(_:k<=500)(_:n<m)(_:Um (some o))(_:(∀c,0<=aO t c/\aO t c<=1000))(_:∀(g:Q4) u (d:Q4) i,ZU [x,h,a] H i->Xp C i x a e l p j h m (k+1) g u t d->Q (.bl true) i):sZ C r H Q zz3
def wP:Z9 ["_law_tower", "_law_words", "_law_totals", "_law_at", "_law_word_here", "_law_others", "_law_lowered_here", "_law_hoists", "_law_found", "e", "_law_k", "_law_hoist"] ["_law_tower", "_law_words", "_law_totals", "_law_at", "_law_word_here"] (aK kY):=by fail "sc"
def EN(F:ZR K "_law_hauled" "_law_hauled" kY f fd)(j6:ZJ P w K mg base 13 "_law_lowered" ["_law_tower", "_law_at", "_law_word_here"] (qD Z0))(y8:uN ZP P w K mg base 1 Z0 "halyards" ["self"] (bX Z0))(J:SJ P w K mg base 1 Z0 "halyards" ["self"] (bX Z0))(t9:uN (Y3 P w) P w K mg base 15 Z0 "do" ["self", "deed"] (iG Z0 Zt Zu Zu))(a2:VQ P w K mg base 2 "_law_lacks" ["_law_locker", "_law_words", "_law_wants", "_law_flags_here"] pI):Z6 P w K mg base ZP 17 f fd ["_law_tower", "_law_words", "_law_totals", "_law_at", "_law_word_here"] (sZ Z0):=by
 refine F.ok wP (λvs H Q E h=>?_) (λt1 A k2 s H vs Q E hr h=>?_)
 .obtain⟨x,O,rl,dx,b',s0,dd,m,k,n,hs,f,t,Y,C,rfl,_⟩:=h;rfl
 obtain⟨x,O,rl,dx,b',s0,dd,m,k,n,hs,f,t,Y,C,rfl,S,hk,hn,⟨b3,b2,c3⟩,m7,q⟩:=h;refine⟨_,(@aE _ _ _ _ _ (kM (i:=5) wP.nd rfl (Or.inl rfl) rfl (mY rfl G.b_range (aA (aX dA rfl G.b_len cC (aA (mv 1) aB)) aB)) (iQ (N:=["_law_k", "_law_words", "_law_at"]) ["_law_tower", "_law_words", "_law_totals", "_law_at", "_law_word_here", "_law_others", "_law_lowered_here", "_law_hoists", "_law_found", "e", "_law_k", "_law_hoist"] (aK kY) [none,some 1,some 3] rfl rfl rfl (λx h=>cH h) (by right)) (by right) rfl (by right) (λ_ _ _ _=>(bB (i:=0) (show List.Nodup (["_law_k", "_law_words", "_law_at"]:List Str) by right) rfl (Or.inl rfl))) (λ_ _ _ _=>(lX (PW.pt (kA (aY WE (mv 0) (mv 2) (bA _)) (iO (aY kQ (bJ cA (mv 1) (mv 0) (λ_ _=>rfl)) cF (bA _))))))) (λ_ _ _ _=>(bJ cA (mv 1) (mv 0) (λ_ _=>rfl)))) (@aE _ _ _ _ _ (aQ 6 wP.nd (bF j6 hr (by decide) rfl (aA (mv 0) (aA (mv 3) (aA (mv 4) aB))))) (@aE _ _ _ _ _ (aQ 7 wP.nd (nE y8 G.Z3 hr (by decide) (mv 0))) (@aE _ _ _ _ _ (AG (i:=9) rfl rfl rfl wP.nd rfl rfl rfl G.YH (λy3 R=>(@aH _ _ _ (aQ 8 wP.nd (AE t9 G.Z3 (oX rfl) hr (by decide) (mv 0) (aA (gI (@gE _ _ _ _ _ _ (aA (mv 3) (aA (mv 4) aB)))) aB))))) (λy3 ea=>(@aE _ _ _ _ _ (bS (PW.pt (gJ (aY kQ (mv 6) cF (bA _)) (gB (aY (AV hr.units) (C3 J G.Z3 hr (by decide) (mv 0)) (mv 7) (bA _))))) (@aH _ _ _ (aR eI)) bC) (@aH _ _ _ (aR (Nc a2 hr (by decide) rfl (aA (mv 2) (aA (aV cE (bZ (aA (mv 4) aB)) (mv 5)) (aA (Qx (K:=K) rfl (mv 9) rfl) (aA (Qx (K:=K) rfl (mv 9) rfl) aB)))))))))) (@aE _ _ _ _ _ (bS (aY uR (mv 6) cF (bA _)) (@aH _ _ _ (aR eI)) bC) (@aE _ _ _ _ _ (cK Bp rfl (kK rfl G.b_enumerate (aA (nE y8 G.Z3 hr (by decide) (mv 0)) aB)) (eC (K:=K) (i:=10) (j:=11) (by rfl) (by rfl) wP.nd (by rfl) (by exact(Or.inl rfl)) (by exact Or.inl rfl) (by rfl) (by exact(Or.inl rfl)) (by exact Or.inl rfl)) (@aH _ _ _ (bS (PW.pt (kA (aY WE (mv 10) (mv 3) (bA _)) (kA (aY mR (mv 10) (mv 6) (by rfl)) (iO (aY (AU hr.YU) (mv 11) (bJ cA (mv 7) (mv 10) (λ_ _=>rfl)) (bA _)))))) (@aH _ _ _ (aR eI)) bC))) (@aE _ _ _ _ _ (wU (mv 4) (UN (mv 1) (mv 3) qM)) (@aH _ _ _ (aR (fM uR (mv 8) cF (bA _))))))))))),?_⟩
 have S0:=S
 obtain⟨⟨st,hg,q2,ex,⟨tw,e1⟩,g2,k5,q8,a7,r9⟩,g8,m6,erw,d2,f5,a3,⟨g5,b6,g4⟩,f6,h9⟩:=S;obtain⟨⟨us,hB,c4⟩,ok,⟨m1,hR,lk⟩,h3⟩:=id tw;have n8:1<=C.length:=by have:=OY c3;omega
 have k1:=aP erw
 have r1:=c4.len
 have g7:(Y.map YR).length=hs.length:=by rw[Ab,a3.1]
 have r5:=pK (hs:=hs) (n:=n) (by omega)
 left;refine⟨⟨by omega,by omega⟩,?_⟩
 rw[g7,show ((hs.length:Nat):Int).toNat=hs.length from Cr _];refine LR (Wy Y n) (bG (by omega)) (λj Hc A B hj sm hA j2=>?_) (λD H1 hD s1 hd=>?_)
 .have f8:=aM sm k1
  have n5:j<Y.length:=by rw[<-a3.1];exact hj
  have av:YQ (Y.map YR) ((j:Nat):Int)=some (YR (Y.getD j none)):=bO (by rw[Ai,Ad,Aa n5];rfl)
  rw[show (0:Int)+(j:Int)=((j:Nat):Int) by omega]
  left;refine⟨Wk.set rfl (Wk.refl _),?_⟩;left;by_cases e:j=n
  .rw[An (show ((j:Nat):Int)=((n:Nat):Int) by omega)]
   left;exact j2 (if_pos e) _ (Z_.refl _)
  .rw[As (show ¬((j:Nat):Int)=((n:Nat):Int) by omega)]
   left;refine eY f8 av ?_;left;cases eh:Y.getD j none with
   |none=>
    rw[show decide (YR none=V.non)=true from rfl];left;exact j2 (by unfold Wy;rw[if_neg e,eh];rfl) _ (Z_.refl _)
   |some q3=>
    rw[eh]at av;rw[show decide (YR (some q3)=V.non)=false from As (λz=>nomatch z)]
    left;refine eY f8 av ?_;exact hA _ (by unfold Wy;rw[if_neg e,eh];rfl) _ (Z_.refl _)
 rw[Kk a3]at hd;left;refine⟨x,dx,b',s0,st,hg,dd,m,hs,f,n,C,rfl,s1 _ _ ex,⟨tw.YW s1,e1⟩,by omega,by omega,n8,b3,b2,λL ks j H2 s2 hL eL T=>?_,λd8 H2 s2=>?_⟩
 .have M:=s1.trans s2
  left;refine⟨x,dx,_,rfl,M _ _ ex,cZ,?_⟩;left;refine⟨x,b',s0,st,hg,dd,dx,m,us,hs,rfl,M _ _ ex,aP (M _ _ hB),c4.keep M,by omega,λr3 f4 H3 g9 s3 e3 b4 c5=>?_⟩
  have a6:=M.trans s3
  left;refine⟨x,dx,_,rfl,a6 _ _ ex,vZ,?_⟩;left;refine⟨o0,λdp e5=>?_⟩
  have k4:=aG e5 (.tup [.str "haul",.int ((n:Nat):Int),.str (aU C)])
  have e4:(upd H3 dp (.tup [.str "haul",.int ((n:Nat):Int),.str (aU C)])) dp=some (.tup (Dd.Za n C).vs):=aD
  generalize upd H3 dp (.tup [.str "haul",.int ((n:Nat):Int),.str (aU C)])=H4 at k4 e4 ⊢;have I:=a6.trans k4
  left;refine TK (d:=.Za n C) (I _ _ ex) ⟨tw.YW I,e1⟩ g8 m6 e4 ⟨hn,b3,b2,c3⟩ (I _ _ a7) (by omega) g2 (λd6 f' b8 c2 H5 Z x5 d5 h7 g3 h8 d4 f1 b7=>?_) (λd8=>absurd T.2.1 (d8 _ (zA T)))
  left;rw[show decide (V.ref L=V.non)=false from As (λz=>nomatch z)]
  obtain⟨_,e2,d3,q9,j',d9,h4⟩:=f1;obtain rfl:=zd T d9;obtain⟨j8,u1,u2⟩:=id b7.1.QE;have g6:=s3.trans k4
  have b9:∀ {y:Addr} {u:HO},H4 y=some u->(∀fs,u≠.ins Z0 dx fs)->y≠dd->y∉[x,dd]:=λe n1 n2=>VE (λz=>by rw[z,I _ _ ex]at e;cases e;exact n1 _ rfl) n2
  have nL:L≠dd:=λz=>by rw[z,s1 _ _ a7]at hL;cases hL
  have n3:∀ {y:Addr},H2 y=none->y≠dd:=λe z=>by rw[z,M _ _ a7]at e;cases e
  have p6:=Z _ _ (b9 (g6 _ _ eL) (λ_=>nofun) nL) (g6 _ _ eL)
  have q1:=Z _ _ (b9 (k4 _ _ e3) (λ_=>nofun) (n3 g9)) (k4 _ _ e3)
  have f3:Z5 H5 f4 hs:=(b4.keep k4).frame (X:=λp=>p∈[x,dd]) (λp u n e=>Z _ _ n e) (λp xs hp e=>b9 e (λ_=>nofun) (n3 (c5 p hp)))
  left;refine⟨x,dx,_,rfl,x5,cZ,?_⟩;left;refine⟨x,b',s0,b8,c2,dd,dx,m,j8,d6,rfl,x5,aP u1,u2,by have:=u2.len;omega,λr6 j7 H6 r4 s6 e6 c6 _=>?_⟩
  have q5:=c6.len
  have f2:=f3.keep s6
  have p5:=s6 _ _ p6
  have p7:=s6 _ _ q1
  left;refine kD (xs:=j7) (λi U H'=>∃c9 c8,U=[some (.ref x),some (.ref O),some (.ref rl),some (.int ((n:Nat):Int)),some (.str (aU C)),some (.ref D),some (.ref L),some (.ref r3),some .non,none,c9,c8]/\Z_ H6 H')
   ⟨_,_,rfl,Z_.refl _⟩ (λi U H' _ ⟨_,_,_,sm⟩=>aP (sm _ _ e6)) ?_ ?_
  .rintro i v U H7 pt hv ⟨c9,c8,rfl,s7⟩ m8;have hi:i<hs.length:=by have:=(Ae.mp hv).1;omega
   have k8:=aG m8 (.tup [.int ((0+i:Nat):Int),v])
   have t8:=cO (show (upd H7 pt (.tup [.int ((0+i:Nat):Int),v])) pt=_ from aD)
   generalize upd H7 pt (.tup [.int ((0+i:Nat):Int),v])=H8 at k8 t8 ⊢;have a1:=s7.trans k8
   rw[show ((0+i:Nat):Int)=((i:Nat):Int) by rw[Hw]]at t8
   fail "u";by_cases e:i=n
   .rw[An (show ((i:Nat):Int)=((n:Nat):Int) by omega)]
    fail "u";exact⟨_,_,rfl,a1⟩
   .rw[As (show ¬((i:Nat):Int)=((n:Nat):Int) by omega)]
    fail "u";refine yN (neg:=true) (aP (a1 _ _ p5)) rfl (pU _) ?_;rw[if_pos rfl,Ka];by_cases hm:i∈ks
    .rw[An hm];fail "u";exact⟨_,_,rfl,a1⟩
    .rw [As hm];fail "u";obtain ⟨u,av,_,m5⟩:=(f2.keep a1).get hi;refine eY (aP (a1 _ _ p7)) av ?_;have m4:Y4 H8 v (hs.getD i none):=by
      rw[<-h4 i e hm];refine(c6.keep a1).val i v _ hv ?_;rw[Ad,Aa (by omega)]
      rfl
     have n9:∀ {v u:V},Y4 H8 v (hs.getD i none)->Y4 H8 u (hs.getD i none)->∀ {R:VK},R (.bl false) H8->L2.PY v u H8 R:=fun {v u} a b {R} r=>by
      cases ec:hs.getD i none with
      |none=>
       rw[ec]at a b;obtain rfl:v=V.non:=a;obtain rfl:u=V.non:=b;exact .inl ⟨rfl,rfl,r⟩
      |some cs=>
       rw[ec]at a b;obtain⟨p1,rfl,h1⟩:=a;obtain⟨p2,rfl,h2⟩:=b;refine .inr (Ux (aP h1) (aP h2) (cU _) (cU _) ?_);rw[if_pos rfl,z4 (cU _)];exact r
     refine n9 m4 m5 ?_;fail "u";exact⟨_,_,rfl,a1⟩
  .rintro U H7 ⟨c9,c8,rfl,s7⟩;have a4:=s6.trans s7
   have f9:∀ {y:Addr} {u:HO},H4 y=some u->(∀fs,u≠.ins Z0 dx fs)->y≠dd->y∉[x,dd]:=λe n1 n2=>b9 e n1 n2
   have j3:=Z _ _ (f9 (I _ _ erw) (λ_=>nofun) d2) (I _ _ erw)
   have j4:=Z _ _ (f9 (I _ _ b6) (λ_=>nofun) (λz=>by rw[<-z,b6]at a7;cases a7)) (I _ _ b6)
   have b5:=a4 _ _ j3
   have c7:=a4 _ _ j4
   have x7:=a4 _ _ x5
   have d7:=a4 _ _ d5
   have k7:=bP b5
   have g1:c2≠O:=by
    rcases h8 with z|z
    .rw[z];exact k5
    .exact λy=>by rw[y,I _ _ erw]at z;cases z
   have k3:b8≠rl:=λz=>by rw[z,I _ _ b6]at d4;cases d4
   fail "u";have r8:n<(Y.map YR).length:=by rw[g7];omega
   refine U_ (o:=(Y.map YR)[n]) k7 (UR (by omega) (by omega)) ?_
   rw[show ((n:Nat):Int).toNat=n from rfl,show (Y.map YR).set n (.str (aU C))=(Y.set n (some C)).map YR by rw[List.map_set];rfl]
   have a8:∀ {y:Addr},y≠O->y∉[O]:=λn z=>n (Aj.mp z)
   have sX:ZU [O] H7 (upd H7 O (.lst ((Y.set n (some C)).map YR))):=λb o nb e=>by rw[aI (λz=>nb (by rw[z];exact Aj.mpr rfl))];exact e
   have e8:(upd H7 O (.lst ((Y.set n (some C)).map YR))) O=_:=aD
   generalize upd H7 O (.lst ((Y.set n (some C)).map YR))=H8 at sX e8 ⊢;have nk:∀ {y:Addr} {u:HO},H7 y=some u->(∀l,u≠.lst l)->y∉[O]:=λe n=>a8 λz=>by rw[z,b5]at e;cases e;exact n _ rfl
   have j9:=(b7.1.YW a4).Yb sX (a8 g1) (λm1 e=>nk e λ_=>nofun) (λp c cs e=>a8 λz=>by
    rw[z,b5]at e;exact NK f5 (by injection Bm e))
   fail "u";refine q d6 f' (Y.set n (some C)) _ (((ZU.of I).trans λb o nb e=>a4 _ _ (Z _ _ (λz=>nb (OL z)) e)).trans λb o nb e=>sX _ _ (a8 λz=>nb (by rw[z];simp)) e) ⟨⟨b8,c2,q2++[dp],sX _ _ (nk x7 λ_=>nofun) x7,⟨j9,b7.2⟩,g3,g1,k3,sX _ _ (a8 (Ne.symm d2)) d7,by rw[List.length_append];show _+1<=_;omega⟩,h7,m6,e8,d2,OE f5 ⟨b3,b2,c3⟩,e2 Y a3,⟨g5,sX _ _ (nk c7 λ_=>nofun) c7,g4⟩,f6,λc=>by rw[h9 c,<-d3 c]⟩
 .have M:=s1.trans s2
  left;refine⟨x,dx,_,rfl,M _ _ ex,cZ,?_⟩;left;refine⟨x,b',s0,st,hg,dd,dx,m,us,hs,rfl,M _ _ ex,aP (M _ _ hB),c4.keep M,by omega,λr3 f4 H3 g9 s3 e3 b4 c5=>?_⟩
  have a6:=M.trans s3
  left;refine⟨x,dx,_,rfl,a6 _ _ ex,vZ,?_⟩;left;refine⟨o0,λdp e5=>?_⟩
  have k4:=aG e5 (.tup [.str "haul",.int ((n:Nat):Int),.str (aU C)])
  have e4:(upd H3 dp (.tup [.str "haul",.int ((n:Nat):Int),.str (aU C)])) dp=some (.tup (Dd.Za n C).vs):=aD
  generalize upd H3 dp (.tup [.str "haul",.int ((n:Nat):Int),.str (aU C)])=H4 at k4 e4 ⊢;have I:=a6.trans k4
  left;refine TK (d:=.Za n C) (I _ _ ex) ⟨tw.YW I,e1⟩ g8 m6 e4 ⟨hn,b3,b2,c3⟩ (I _ _ a7) (by omega) g2 (λd6 f' b8 c2 H5 Z x5 d5 h7 g3 h8 d4 f1 b7=>?_) (λ_ dy l1 l2 rs W F H5 s5 j5 p4 m2 p3 h6=>⟨G.X0,λea oe h5 n6=>?_⟩)
  .obtain⟨_,_,_,ks,j,T,_⟩:=f1;exact absurd T.2.1 (d8 _ (zA T))
  .have k6:=aG n6 (.frz oe (jX ea (.ref Zt) (some dy)))
   have e6:(upd H5 ea (.frz oe (jX ea (.ref Zt) (some dy)))) ea=some (.frz oe (jX ea (.ref Zt) (some dy))):=aD
   generalize upd H5 ea (.frz oe (jX ea (.ref Zt) (some dy)))=H6 at k6 e6 ⊢;have c1:=k4.trans (s5.trans k6)
   have a5:=a6.trans c1
   left;rw[show (!decide (V.non=V.non))=false from rfl];left;refine⟨x,dx,_,rfl,a5 _ _ ex,cZ,⟨_,_,e6,h5⟩,?_⟩;refine⟨x,b',s0,st,hg,dd,dx,m,us,hs,rfl,a5 _ _ ex,aP (a5 _ _ hB),c4.keep a5,by omega,λr7 q6 H7 r2 s7 e7 j1 _=>?_⟩
   left;refine DU 1 (j1.Jq (b4.keep (c1.trans s7)) (aP e7) (aP ((c1.trans s7) _ _ e3))) ?_;have q7:=a5.trans s7
   left;refine⟨r0,λp8 n4=>?_⟩
   have k8:=aG n4 (.lst [V.str (aU C)])
   have e8:(upd H7 p8 (.lst [V.str (aU C)])) p8=some (.lst [V.str (aU C)]):=aD
   generalize upd H7 p8 (.lst [V.str (aU C)])=H8 at k8 e8 ⊢;have n7:=(s2.trans (s3.trans (c1.trans (s7.trans k8)))) _ _ hd
   left;refine sF (bP e8) (bP n7) (bH (by rw[Ab,Ab,Ab];show 1+_<=_;omega)) λp9 m9=>?_
   rw[show [V.str (aU C)]++(((aW hs n).map λk=>Y9 ((hs.getD k none).getD [])).map aU).map V.str=((bQ hs C (aW hs n)).map aU).map V.str from rfl];have k9:=aG m9 (.lst (((bQ hs C (aW hs n)).map aU).map V.str))
   have e9:Z2 (upd H8 p9 (.lst (((bQ hs C (aW hs n)).map aU).map V.str))) p9=some (((bQ hs C (aW hs n)).map aU).map V.str):=cV
   change VJ _ _ _ (upd H8 p9 (.lst (((bQ hs C (aW hs n)).map aU).map V.str))) _
   generalize upd H8 p9 (.lst (((bQ hs C (aW hs n)).map aU).map V.str))=H9 at k9 e9 ⊢;have a9:=s7.trans (k8.trans k9)
   have b1:=k6.trans a9
   have d1:=a5.trans a9
   left;refine⟨ea,Zt,dy,_,_,oe,rfl,a9 _ _ e6,b1 _ _ j5,G.Y0,G.xn_Lack_wants,rfl,?_⟩;left;refine⟨ea,Zt,dy,_,_,oe,rfl,a9 _ _ e6,b1 _ _ j5,G.Y0,G.xn_Lack_flags,rfl,?_⟩;left;rw[FY h3 f6 h9 (by omega)]at h6
   have m3:=nO ok ⟨b3,b2⟩ (ks:=aW hs n) λk hk=>⟨(dZ hk).1,(dZ hk).2.1⟩
   refine⟨⟨_,_,a9 _ _ e6,h5⟩,rl,p9,l1,l2,g5,t,bQ hs C (aW hs n),rs,W,F,rfl,d1 _ _ b6,g4,m7,e9,?_,λc hc=>(m3 c hc).1,b1 _ _ p4,m2.keep λr w e=>b1 _ _ e,b1 _ _ p3,h6,λq4 f7=>?_⟩
   .unfold bQ;rw[Az,Ab];omega
   .exact q hs f Y q4 (.of (d1.trans f7)) ((S0.keep (d1.trans f7)).more (Iq k))
def y9:Z9 ["_law_script", "_law_tower", "_law_book_here", "_law_totals", "_law_words", "_law_k", "_law_cell", "_law_number", "_law_at", "_law_word_here"] ["_law_script"] (aK wY):=by fail "sc"
def Kf(F:ZR K "law" "law" wY f fd)(e7:ZJ P w K mg base 4 "_law_begun" ["_law_script"] (uO K Z0))(n8:ZJ P w K mg base 4 "_law_holds" ["_law_tower", "_law_words", "_law_totals"] (uY Z0))(z6:ZJ P w K mg base 1 "_law_mixed" ["_law_cell", "_law_k"] lA)(t9:uN (Y3 P w) P w K mg base 15 Z0 "do" ["self", "deed"] (iG Z0 Zt Zu Zu))(u5:ZJ P w K mg base 1 "_law_word" ["_law_number", "_law_most"] sS)(e5:ZJ P w K mg base 17 "_law_hauled" ["_law_tower", "_law_words", "_law_totals", "_law_at", "_law_word_here"] (sZ Z0))(u7:ZJ P w K mg base 1 "_law_checked" ["_law_word_here"] kR):Z6 P w K mg base ZP 18 f fd ["_law_script"] (UZ K Pt):=by
 refine F.ok y9 (λvs H Q E h=>?_) (λp7 A f4 s H vs Q E hr h=>?_)
 .obtain⟨a,ns,rfl,_⟩:=h;rfl
 obtain⟨a,ns,rfl,hS,j9,hP,q⟩:=h;refine⟨_,(@aE _ _ _ _ _ (wU (bF e7 hr (by decide) rfl (aA (mv 0) aB)) (ES rfl (fY (bB (i:=1) y9.nd rfl (Or.inl rfl)) (fY (bB (i:=2) y9.nd rfl (Or.inl rfl)) (fY (bB (i:=3) y9.nd rfl (Or.inl rfl)) (fY (bB (i:=4) y9.nd rfl (Or.inl rfl)) Tu)))))) (@aE _ _ _ _ _ (bS (gG (cT (bF n8 hr (by decide) rfl (aA (mv 1) (aA (mv 4) (aA (mv 3) aB)))))) (@aH _ _ _ (aR eI)) bC) (@aE _ _ _ _ _ (cK Bp rfl (kK rfl G.b_enumerate (aA (qH Yp (mv 0) (kI aJ) (kI aJ)) aB)) (eC (K:=K) (i:=5) (j:=6) (by rfl) (by rfl) y9.nd (by rfl) (by exact(Or.inl rfl)) (by exact Or.inl rfl) (by rfl) (by exact(Or.inl rfl)) (by exact Or.inl rfl)) (@aE _ _ _ _ _ (aQ 7 y9.nd (bF z6 hr (by decide) rfl (aA (mv 6) (aA (mv 5) aB)))) (@aE _ _ _ _ _ (aQ 8 y9.nd (aV eE (aV jB (mv 7) aJ) (aX dA rfl G.b_len cC (aA (mv 4) aB)))) (@aE _ _ _ _ _ (bS (aY lG (aV eE (mv 7) aJ) aJ (bA _)) (@aE _ _ _ _ _ (bS (aY kQ (IV t9 G.Z3 zD hr (by decide) (mv 1) (aA (gI (@gE _ _ _ _ _ _ (aA (mv 8) aB))) aB)) cF (bA _)) (@aH _ _ _ (aR eI)) bC) (@aH _ _ _ (wU cF (UN (mv 4) (mv 8) qM)))) (@aE _ _ _ _ _ (aQ 9 y9.nd (bJ cA (bJ cA (mv 2) (aV eE (aV jB (mv 7) aJ) (aX dA rfl G.b_len cC (aA (mv 2) aB))) (λ_ _=>rfl)) aJ (λ_ _=>rfl))) (@aE _ _ _ _ _ (bS (aY lG (aV eE (mv 7) aJ) aJ (bA _)) (@aH _ _ _ (aQ 9 y9.nd (bF u5 hr (by decide) rfl (aA (aV jB (mv 7) aJ) (aA aJ aB))))) bC) (@aH _ _ _ (bS (gG (cT (bF e5 hr (by decide) rfl (aA (mv 1) (aA (mv 4) (aA (mv 3) (aA (mv 8) (aA (bF u7 hr (by decide) rfl (aA (mv 9) aB)) aB)))))))) (@aH _ _ _ (aR eI)) bC))))) (@aH _ _ _ (bS (gG (cT (bF n8 hr (by decide) rfl (aA (mv 1) (aA (mv 4) (aA (mv 3) aB)))))) (@aH _ _ _ (aR eI)) bC)))))) (@aH _ _ _ (aR eI))))),?_⟩
 fail "u"
 with_reducible refine oN ?_
 fail "u";refine⟨a,ns,rfl,hS,j9,λr x dx rb rl k b' s0 f3 h8 J bk c3 t d1 m H1 s1 er e4 b9 n9 j7 p4 m1 m6 ex m7 f2 k1 g8 b8 a8 p6 f7 a2 g3 n3 erw f8 g2 n4 e1 n6 n5=>?_⟩;have rr:=aP er
 have j8:=s1.seq hS
 have S1:Xp Z0 H1 x k rl dx b' s0 J m 0 (List.replicate m none) (bK (aO t)) t (List.replicate m none):=by
  refine⟨⟨f3,h8,[],ex,f2,g3,g2,f7,a2,Ah _⟩,Hf ..,m6,by rw[List.map_replicate];exact erw,f8,(λcs hc=>by cases (List.mem_replicate.mp hc).2),FR m,⟨d1,k1,g8⟩,a8,L4 a8 (λc=>(b8 c).1) m⟩
 fail "u"
 with_reducible refine oN ?_
 fail "u";refine⟨x,k,rl,dx,b',s0,J,m,0,_,_,t,_,rfl,S1,λH2 s2=>?_⟩;fail "u"
 with_reducible refine oN ?_
 fail "u";refine Si (s2.seq j8) λrc C=>?_;obtain⟨ms,em,h6⟩:=yK ns 9 16 (by decide) (by decide)
 rw[show (9:Int)+16=25 from rfl]at em;rw[em];have h5:ms.length<=16:=h6
 have k3:=aG C (.lst (ms.map V.int))
 have e3:(upd H2 rc (.lst (ms.map V.int))) rc=some (.lst (ms.map V.int)):=aD
 generalize upd H2 rc (.lst (ms.map V.int))=H3 at k3 e3 ⊢;have O:=s2.trans k3
 have S3:=S1.keep O
 have f9:rc∉[x,J,k]:=Sy (λz=>by rw[z,s2 _ _ ex]at C;cases C) (λz=>by rw[z,s2 _ _ a2]at C;cases C) (λz=>by rw[z,s2 _ _ erw]at C;cases C)
 have g1:rb∉[x,J,k]:=Ng ex a2 erw j7 m1 e4
 have f5:∀p xs,H3 p=some (.tup xs)->p∉[x,J,k]:=λp xs e=>G8 (O _ _ ex) (O _ _ a2) (O _ _ erw) e
 have e2:=e4.YW O
 have m9:=aP e3
 fail "u";refine kD (xs:=ms.map V.int) (λi U H'=>E_8 λ(hs:Q4)(f:Nat->Option Int)(L:Q4)(v5 v6 v7 v8 v9:Option V)=>U=[some (.ref a),some (.ref x),some (.ref rb),some (.ref rl),some (.ref k),v5,v6,v7,v8,v9]/\ZU [x,J,k] H3 H'/\Xp Z0 H' x k rl dx b' s0 J m i hs f t L)
  ⟨_,_,_,_,_,_,_,_,rfl,λb o _ e=>e,S3⟩ (λi U H' _ ⟨_,_,_,_,_,_,_,_,_,sE,_⟩=>aP (sE _ _ f9 e3)) ?_ ?_
 .rintro i v U H4 pt hv ⟨hs,f,L,v5,v6,v7,v8,v9,rfl,c7,S4⟩ h4;rw[Ai]at hv;obtain⟨B,c1,rfl⟩:=Bt.mp hv;have m5:i<16:=by have:=(Ae.mp c1).1;omega
  have k5:=aG h4 (.tup [.int ((0+i:Nat):Int),.int B])
  have t5:=cO (show (upd H4 pt (.tup [.int ((0+i:Nat):Int),.int B])) pt=_ from aD)
  generalize upd H4 pt (.tup [.int ((0+i:Nat):Int),.int B])=H5 at k5 t5 ⊢;have S5:=S4.keep k5
  have b5:=c7.trans (.of k5)
  obtain⟨⟨st,hg,k4,c2,⟨f1,d9⟩,g5,g4,m4,Y,p2⟩,d5,_,D,b7,c4,a5,⟨g9,I,c9⟩,_,j1⟩:=id S5;have m3:=aP D
  have d2:(L.map YR).length=m:=by rw[Ab,<-a5.1,d5]
  have p1:(0:Int)<((m:Nat):Int):=by omega
  fail "u"
  with_reducible refine oN ?_
  fail "u";refine⟨B,_,rfl,by omega,by omega,λb6 d6=>?_⟩
  fail "u"
  with_reducible refine oN ?_
  fail "u";rw[d2];fail "u";obtain⟨n,en,hn⟩:∃n:Nat,b6 / 8%((m:Nat):Int)=(n:Int)/\n<m:=OO (by omega)
  rw[en]
  with_reducible refine oN ?_
  fail "u";refine fF (λh1=>?_) (λh1=>?_)
  .fail "u"
   with_reducible refine oN ?_
   fail "u";refine⟨x,dx,_,rfl,c2,vZ,?_⟩;fail "u";refine⟨q0,λdp j3=>?_⟩
   have M:=aG j3 (.tup [.str (Str.ofString "lower"),.int ((n:Nat):Int)])
   have e6:(upd H5 dp (.tup [.str (Str.ofString "lower"),.int ((n:Nat):Int)])) dp=some (.tup (Dd.lower n).vs):=aD
   generalize upd H5 dp (.tup [.str (Str.ofString "lower"),.int ((n:Nat):Int)])=H6 at M e6 ⊢;fail "u";refine TK (d:=.lower n) (M _ _ c2) ⟨f1.YW M,d9⟩ d5 m6 e6 hn (M _ _ Y) (by omega) g5 (λa1 f' c6 d8 H7 b4 x7 d7 h7 g6 h9 d4 e1 c5=>?_) trivial
   obtain⟨k2,d3⟩:=e1;have c8:∀ {y:Addr} {u:HO},H6 y=some u->(∀fs,u≠.ins Z0 dx fs)->y≠J->y∉[x,J]:=λe n1 n2=>VE (λz=>by rw[z,M _ _ c2]at e;cases e;exact n1 _ rfl) n2
   have X:=b4 _ _ (c8 (M _ _ D) (λ_=>nofun) b7) (M _ _ D)
   have a6:=b4 _ _ (c8 (M _ _ I) (λ_=>nofun) (λz=>by rw[<-z,I]at Y;cases Y)) (M _ _ I)
   have g7:=bP X
   have a3:d8≠k:=by
    rcases h9 with z|z
    .rw[z];exact g4
    .exact λy=>by rw[y,M _ _ D]at z;cases z
   have f6:c6≠rl:=λz=>by rw[z,M _ _ I]at d4;cases d4
   fail "u";have n7:n<(L.map YR).length:=by rw[d2];exact hn
   refine U_ (o:=(L.map YR)[n]) g7 (UR (by omega) (by omega)) ?_
   rw[show ((n:Nat):Int).toNat=n from rfl,show (L.map YR).set n .non=(L.set n none).map YR by rw[List.map_set];rfl]
   have R:∀ {y:Addr},y≠k->y∉[k]:=λn z=>n (Aj.mp z)
   have sX:ZU [k] H7 (upd H7 k (.lst ((L.set n none).map YR))):=λb o nb e=>by rw[aI (λz=>nb (by rw[z];exact Aj.mpr rfl))];exact e
   have e8:(upd H7 k (.lst ((L.set n none).map YR))) k=_:=aD
   generalize upd H7 k (.lst ((L.set n none).map YR))=H8 at sX e8 ⊢;have nk:∀ {y:Addr} {u:HO},H7 y=some u->(∀l,u≠.lst l)->y∉[k]:=λe n=>R λz=>by rw[z,X]at e;cases e;exact n _ rfl
   have e9:=c5.1.Yb sX (R a3) (λd1 e=>nk e λ_=>nofun) (λp c cs e=>R λz=>by
    rw[z,X]at e;exact NK c4 (by injection Bm e))
   have S8:Xp Z0 H8 x k rl dx b' s0 J m (i+1) a1 f' t (L.set n none):=⟨⟨c6,d8,k4++[dp],sX _ _ (nk x7 λ_=>nofun) x7,⟨e9,c5.2⟩,g6,a3,f6,sX _ _ (R (Ne.symm b7)) d7,by rw[Ak];show _+1<=_;omega⟩,h7,m6,e8,b7,OE c4 trivial,by rw[k2];exact a5.lower (by omega),⟨g9,sX _ _ (nk a6 λ_=>nofun) a6,c9⟩,a8,λc=>by rw[j1 c,<-d3 c]⟩
   have a9:ZU [x,J,k] H3 H8:=(b5.trans λb o nb e=>b4 _ _ (λz=>nb (OL z)) (M _ _ e)).trans λb o nb e=>sX _ _ (R λz=>nb (by rw[z];simp)) e
   fail "u";refine⟨x,k,rl,dx,b',s0,J,m,i+1,a1,f',t,_,rfl,S8,λH9 s9=>?_⟩;fail "u";exact⟨_,_,_,_,_,_,_,_,rfl,a9.trans (.of s9),S8.keep s9⟩
  .have m2:=e2.Yb b5 g1 f5
   obtain⟨qs,b1,b2,b3⟩:=id m2;have h3:(qs.map V.ref).length=bk.length:=by rw[Ab,b2]
   have rq:=aP b1
   have p5:(0:Int)<((bk.length:Nat):Int):=by omega
   fail "u"
   with_reducible refine oN ?_
   fail "u";rw[h3];fail "u";obtain⟨j,ej,hj⟩:∃j:Nat,b6 / 48%((bk.length:Nat):Int)=(j:Int)/\j<bk.length:=OO (by omega)
   rw[ej];have ec:c3[j]?=some (c3[j]'(by rw[b9.1];exact hj)):=Aa _
   obtain⟨hw,W,T,S⟩:=b9.2 j _ _ (Aa hj) ec;have ep:qs[j]?=some (qs[j]'(by omega)):=Aa _
   have a7:=b3 j _ _ ep (Aa hj)
   rw[hw]at a7;generalize c3[j]'(by rw[b9.1];exact hj)=Z at W T S a7
   refine eY rq (v:=.ref (qs[j]'(by omega))) (bO (by rw[Ai,ep];rfl)) ?_
   fail "u";refine dS a7 (v:=.str (aU Z)) (bO (j:=0) rfl) ?_;fail "u"
   with_reducible refine QH (λU' H'=>∃Z:List Nat,1<=Z.length/\Z.length<=6/\(∀d∈Z,aZ d)/\Z_ H5 H'/\U'=[some (.ref a),some (.ref x),some (.ref rb),some (.ref rl),some (.ref k),some (.int ((0+i:Nat):Int)),some (.int B),some (.int b6),some (.int ((n:Nat):Int)),some (.str (aU Z))]) ?_ ?_
   .rintro U' H6 ⟨Z,W,T,S,s6,rfl⟩;fail "u";refine⟨Z,rfl,W,T,S,λH7 s7 j6 j2=>?_⟩;have k7:=s6.trans s7
    have a4:=AO W T S j6 j2
    generalize Z++[Yl Z]=k9 at a4;fail "u";refine⟨x,k,rl,dx,b',s0,J,m,i,n,hs,f,t,L,k9,rfl,S5.keep k7,by omega,hn,a4,λc=>⟨(b8 c).1,by have:=(b8 c).2;omega⟩,λa1 f' m8 H8 a9 S8=>?_⟩
    fail "u";refine⟨x,k,rl,dx,b',s0,J,m,i+1,a1,f',t,_,rfl,S8,λH9 s9=>?_⟩;fail "u";exact⟨_,_,_,_,_,_,_,_,rfl,((b5.trans (.of k7)).trans a9).trans (.of s9),S8.keep s9⟩
   .intro N hN;fail "u";refine fF (λh2=>?_) (λh2=>?_)
    .fail "u";refine⟨_,6,rfl,Int.ediv_nonneg d6 (by decide),by decide,by decide,λk8 H6 s6 j5 p3 j4=>?_⟩
     fail "u";exact hN _ _ ⟨k8,j5,by omega,j4,s6,rfl⟩
    .fail "u";exact hN _ _ ⟨Z,W,T,S,Z_.refl _,rfl⟩
 .rintro U H4 ⟨hs,f,L,v5,v6,v7,v8,v9,rfl,c7,S4⟩;left;exact q _
end
variable {A:List (Nat×Wt)}{ch:Wt->List Nat}{first w:Wt}{m:List (Wt×Nat)}{ws:List Wt}
def Vg(K:W.Frag)(x q:Str)(st:Stmt)(f:Addr):Prop:=∃e d b g h c j a i,K.lookup f=some ⟨e,d,.func (W.fnOf x q (jZ st) (fR st) (aK st) .none g h c j a i),b⟩/\W.codeIn K a q=true/\W.keepIn K (.ref f)=true
abbrev ZF(K:W.Frag)(x:Str)(st:Stmt)(f:Addr):Prop:=W.nsIn K mainGlobals x=some (some (.ref f))/\Vg K x x st f
abbrev Vu(K:W.Frag)(C:Addr)(x q:Str)(st:Stmt)(f:Addr):Prop:=W.findIn K (.ref C) x=some (some (.ref f))/\W.isFn K (.ref f)=true/\Vg K x q st f
abbrev Vf(K:W.Frag)(C:Addr)(q:Str)(st:Stmt)(f:Addr):Prop:=W.findIn K (.ref C) "__init__"=some (some (.ref f))/\W.typeIn K (.ref f)=some (.type "function")/\Vg K "__init__" q st f
abbrev U2(x q:Str)(st:Stmt)(ps:List Str):Prop:=∀(kV doc pm:Value) (an:Option Addr) (cdv ct:Value) (us:List Value),us.length=ps.length->bindArgs (W.fnOf x q (jZ st) (fR st) (aK st) .none kV doc pm an cdv ct) ⟨us,[]⟩=pure (ps.zip us)
def Vg.c{w:World}{K:W.Frag}{a:Heap}{CX:XX}{x q:Str}{st:Stmt}{ps:List Str}{sp:Sp}(p:Vg K x q st f)(o:∀ {b:FuncData},ZR K x q st f b->Z6 P w K mg a CX k f b ps sp)(d:U2 x q st ps):∃b,Z6 P w K mg a CX k f b ps sp/\W.keepIn K (.ref f)=true/\Binds K b ps []:=by
 obtain⟨_,_,_,_,_,_,_,_,_,l,c,k⟩:=p;have F:=sL  l c k
 exact⟨_,o F,k,F.binds d⟩
local macro_rules | `(tactic| fail "bd") => `(tactic| (intro a1 a2 a3 a4 a5 a6 us hl; iterate 7 (all_goals try (rcases us with _ | ⟨u,us⟩; (· first | rfl | (simp at hl)))); all_goals (simp at hl)))
def all_mk{l:W.OpenLaw}{w:World}{K:W.Frag}{h:Heap}{fa:Addr}{u8 u6 u4 u3 u2 u1 t8 t7 t6 t5 q1 p9 p8 p7 p6 p5 p4 p3 p2 p1 n9 n7 n6 n4 n3 n2 n1 m9 m8 m7 m6 m5 m4 m3 m2 m1 k9 k8 k7 k6 k5 k4 k3 k2 k1 j7 j4 j2 j1 h9 h8 h7 h6:Addr}{a1 r t Q:Tok}{i:Addr}{j:Array DictEntry}{I:Nat}{c Pt:Addr}(X:K.In h)(Gn:h.Ns mainGlobals mg)(t4:mg "law"=some (.ref fa))(TH:Sv h mg "longest_on" c)(b1:W.nsIn K mainGlobals "Lack"=some (some (.ref Zt)))(E:W.nsIn K mainGlobals "TowerError"=some (some (.ref Zz)))(a3:W.nsIn K mainGlobals "Short"=some (some (.ref Zu)))(R:W.nsIn K mainGlobals "NoHoist"=some (some (.ref Zx)))(a2:W.nsIn K mainGlobals "Tower"=some (some (.ref Z0)))(Y:W.nsIn K mainGlobals "NoDeed"=some (some (.ref Zv)))(O:W.nsIn K mainGlobals "NoHalyard"=some (some (.ref Zy)))(V:W.nsIn K mainGlobals "NoWord"=some (some (.ref Zw)))(t3:ZF K "_law_mixed" sI u8)(t2:ZF K "_law_word" vH u6)(t1:ZF K "_law_book" vB u4)(r9:ZF K "_law_checked" iI u3)(r8:ZF K "_law_flags" rY u2)(r7:ZF K "_law_cell_at" lN u1)(r6:ZF K "plain_locker" hZ t8)(c4:Vu K Z0 "__init__" "Tower.__init__" kL t7)(r5:ZF K "_law_begun" rQ t6)(b2:Vu K Z0 "halyards" "Tower.halyards" cY t5)(h5:Vu K Z0 "locker" "Tower.locker" hX q1)(a5:ZF K "_law_choices" fW p9)(h4:ZF K "_law_holds" nG p8)(h3:ZF K "behind_say" qI p7)(h2:ZF K "look_for_halyard" eM p6)(h1:ZF K "put_in" uL p5)(a4:ZF K "rising_lists" dL p4)(g8:ZF K "sets_of" rL p3)(g7:Vf K Zt "Lack.__init__" mL p2)(g6:ZF K "others_hung" fQ p1)(g5:ZF K "wants_of" kW n9)(g4:ZF K "choices_at" gM n7)(g3:ZF K "choices_of" kC n6)(g2:ZF K "hoists_of" mT n4)(g1:ZF K "asked_from" gO n3)(f9:ZF K "hang_along" kH n2)(f7:ZF K "hang_all" eQ n1)(f6:ZF K "lack_of" rN m9)(f5:ZF K "flags_on" oQ m8)(f4:ZF K "is_flag" rT m7)(f3:ZF K "may_stand" lP m6)(f2:ZF K "is_hoist" pG m5)(f1:ZF K "read_of" sT m4)(e9:ZF K "words_with" gQ m3)(e8:ZF K "least_set" lT m2)(e7:Vf K Zu "Short.__init__" jW m1)(e6:ZF K "taken" Sx k9)(e5:ZF K "hauled" vI k8)(e4:ZF K "is_word" rX k7)(e3:ZF K "rank_of" rH k6)(e2:ZF K "is_divided" kT k5)(e1:ZF K "is_checked" jV k4)(d9:Vf K Zw "NoWord.__init__" iU k3)(d8:ZF K "behind_haul" iX k2)(d7:ZF K "behind_lower" hU k1)(d6:ZF K "behind_lose" oJ j7)(d5:ZF K "behind_find" oO j4)(d4:ZF K "behind_deed" jA j2)(d3:Vu K Z0 "do" "Tower.do" pJ j1)(d2:ZF K "_law_lowered" lO h9)(b4:ZF K "_law_lacks" jP h8)(d1:ZF K "_law_hauled" kY h7)(b3:ZF K "law" wY h6)(Z:W.nsIn K mainGlobals "range"=some none)(L:W.nsIn K mainGlobals "enumerate"=some none)(b6:W.nsIn K mainGlobals "sum"=some none)(c1:W.nsIn K mainGlobals "len"=some none)(a7:W.nsIn K mainGlobals "list"=some none)(b9:W.nsIn K mainGlobals "min"=some none)(b7:W.nsIn K mainGlobals "str"=some none)(a8:W.nsIn K mainGlobals "dict"=some none)(b5:W.nsIn K mainGlobals "zip"=some none)(A:W.nsIn K mainGlobals "isinstance"=some none)(a9:W.nsIn K mainGlobals "bool"=some none)(c2:W.nsIn K mainGlobals "int"=some none)(c3:W.nsIn K mainGlobals "all"=some none)(U:W.nsIn K mainGlobals "sorted"=some none)(b8:W.nsIn K mainGlobals "set"=some none)(a6:W.nsIn K mainGlobals "FLAGS"=some (some (.str "abcdefghijklmnopqrstuvw1234" a1)))(u:W.nsIn K mainGlobals "SUBSTITUTES"=some (some (.str "1234" r)))(y:W.nsIn K mainGlobals "MOST_PLACES"=some (some (.int 7 t)))(T:W.nsIn K mainGlobals "LETTERS"=some (some (.str "abcdefghijklmnopqrstuvw" Q)))(KF:Qw K Zt Zz Zu Zx Z0 Zv Zy Zw)(D:W.nsIn K mainGlobals "THINGS_IN"=some (some (.ref i)))(H:K.lookup i=some ⟨.type "dict",none,.dict j I,#[]⟩)(B:(i==sysModules)=false)(J:UG w j.toList [("haul",3),("lower",2),("lose",2),("find",2),("say",2)]):∃z:FuncData,(∀(s:Shared) (v:Value),BindsTo s z ⟨[v],[]⟩ [("_law_script",v)])/\∀g:Heap,K.In g->g.Ns mainGlobals mg->Xj mg g c Pt->Z6 l.prog w K mg g ZP 18 fa z ["_law_script"] (UZ K Pt):=by
 have M:∀ {x:Str} {v:Value},W.nsIn K mainGlobals x=some (some v)->mg x=some v:=λh=>W.mg_of X Gn h
 have N:∀ {x:Str},W.nsIn K mainGlobals x=some none->mg x=none:=λh=>W.mg_none_of X Gn h
 have e:=t4.symm.trans (M b3.1)
 cases e;have G:Gs K mg w Zt Zz Zu Zx Z0 Zv Zy Zw:=⟨KF,M b1,M E,M a3,M R,M a2,M Y,M O,M V,⟨_,_,_,M D,H,B,J,by right⟩,N Z,N L,N b6,N c1,N a7,N b9,N b7,N a8,N b5,N A,N a9,N c2,N c3,N U,N b8,⟨_,M a6⟩,⟨_,M u⟩,⟨_,M y⟩,⟨_,M T⟩⟩
 obtain⟨_,_,_,kV,dc,pm,an,cd,ct,lk,hc,hk⟩:=b3.2;have F:=sL (st:=wY) lk hc hk
 refine⟨W.fnOf "law" "law" (jZ wY) (fR wY) (aK wY) .none kV dc pm an cd ct,λs v=>.of_eq rfl,λg _ _ LB=>?_⟩;have mk:∀ {CX:XX} {k:Nat} {x:Str} {st:Stmt} {f:Addr} {ps:List Str} {sp:Sp},ZF K x st f->(∀ {z:FuncData},ZR K x x st f z->Z6 l.prog w K mg g CX k f z ps sp)->U2 x x st ps->∃(f:Addr) (z:FuncData),Z6 l.prog w K mg g CX k f z ps sp/\mg x=some (.ref f)/\W.keepIn K (.ref f)=true/\Binds K z ps []:=λp o hb=>by
  obtain⟨z,a,b,c⟩:=p.2.c o hb;exact⟨_,z,a,M p.1,b,c⟩
 have mt:∀ {CX:XX} {k:Nat} {x:Str} {st:Stmt} {f:Addr} {ps:List Str} {sp:Sp} {C:Addr} {q:Str},Vu K C x q st f->(∀ {z:FuncData},ZR K x q st f z->Z6 l.prog w K mg g CX k f z ps sp)->U2 x q st ps->uN CX l.prog w K mg g k C x ps sp:=λp o hb=>by
  obtain⟨z,a,b,c⟩:=p.2.2.c o hb;exact⟨_,z,a,⟨p.1,p.2.1,b⟩,c⟩
 have mi:∀ {k:Nat} {st:Stmt} {f:Addr} {ps:List Str} {sp:Sp} {C:Addr} {q:Str},Vf K C q st f->(∀ {z:FuncData},ZR K "__init__" q st f z->Z6 l.prog w K mg g ZP k f z ps sp)->U2 "__init__" q st ps->Wq l.prog w K mg g k C ps sp:=λp o hb=>by
  obtain⟨z,a,b,c⟩:=p.2.2.c o hb;exact⟨_,z,a,p.1,p.2.1,c⟩
 have z6:=mk t3 (λF=>BO F G ) (by fail "bd")
 have u5:=mk t2 (λF=>KZ G F ) (by fail "bd")
 have q8:=mk t1 (λF=>GS G F z6 u5) (by fail "bd")
 have u7:=mk r9 (λF=>CA G F ) (by fail "bd")
 have q7:=mk r8 (λF=>JN F G z6 u7) (by fail "bd")
 have n5:=mk r7 (λF=>FN G F ) (by fail "bd")
 have y4:=mk r6 (λF=>tY G F ) (by fail "bd")
 have q6:T_ ZP l.prog w K mg g 2 Z0 ["self", "book", "locker", "many"] (jD Z0):=by
  obtain⟨z,a,b,c⟩:=c4.2.2.c (λF=>xV G F y4) (by fail "bd")
  exact⟨_,z,a,⟨G.mk1_Tower,c4.1,c4.2.1,G.mk2_Tower⟩,c⟩
 have q3:=mk r5 (λF=>BP G F q8 q7 n5 q6) (by fail "bd")
 have m:SJ l.prog w K mg g 1 Z0 "halyards" ["self"] (bX Z0):=by
  obtain⟨_,_,_,_,_,_,_,_,_,l,c,k⟩:=b2.2.2;have F:=sL (st:=cY) l c k
  exact⟨_,_,oY G F ,⟨b2.1,b2.2.1,k⟩,F.binds (by fail "bd")⟩
 have y8:=mt b2 (λF=>pW G F ) (by fail "bd")
 have u9:=mt h5 (λF=>tV G F y4) (by fail "bd")
 have P:VQ l.prog w K mg g 1 "_law_choices" ["_law_word_here", "_law_place"] eZ:=by
  obtain⟨_,_,_,_,_,_,_,_,_,l,c,k⟩:=a5.2;have F:=sL (st:=fW) l c k
  exact⟨_,_,yG G F ,M a5.1,k,F.binds (by fail "bd")⟩
 have q5:=mk a5 (λF=>zl G F ) (by fail "bd")
 have n8:=mk h4 (λF=>Ky G F y8 u9 q5) (by fail "bd")
 have c9:=mk h3 (λF=>xM F G ) (by fail "bd")
 have v0:=mk h2 (λF=>nU G F ) (by fail "bd")
 have z5:=mk h1 (λF=>J3 F G y4) (by fail "bd")
 have o4:ZJ l.prog w K mg g 9 "rising_lists" ["numbers", "many"] (cR 8):=by
  obtain⟨_,_,_,_,_,_,_,_,_,l,c,k⟩:=a4.2;have F:=sL (st:=dL) l c k
  have b:=F.binds (ps:=["numbers", "many"]) (by fail "bd")
  exact⟨_,_,N1 cR sK (M a4.1) k b (λd n c=>tT G F c) 8,M a4.1,k,b⟩
 have i8:=mk g8 (λF=>AN G F o4) (by fail "bd")
 have wT:=mi g7 (λF=>C9 G F ) (by fail "bd")
 have i9:=mk g6 (λF=>wW G F ) (by fail "bd")
 have j5:=mk g5 (λF=>CC G F ) (by fail "bd")
 have j6:=mk g4 (λF=>xP G F ) (by fail "bd")
 have j8:=mk g3 (λF=>xZ F G j5 j6) (by fail "bd")
 have j9:=mk g2 (λF=>MO G F ) (by fail "bd")
 have i0:=mk g1 (λF=>xU G F ) (by fail "bd")
 have i4:=mk f9 (λF=>xI F G ) (by fail "bd")
 have w4:=mk f7 (λF=>Kz G F j8 y4 j9 i0 i4 wT) (by fail "bd")
 have gV:=mk f6 (λF=>KG G F w4) (by fail "bd")
 have y6:=mk f5 (λF=>Lh F G ) (by fail "bd")
 have l8:=mk f4 (λF=>IE G F ) (by fail "bd")
 have l9:=mk f3 (λF=>LW G F l8) (by fail "bd")
 have j3:=mk f2 (λF=>E7 G F l9) (by fail "bd")
 have i7:=mk f1 (λF=>F6 G F j3) (by fail "bd")
 have w6:=mk e9 (λF=>xJ F G i7) (by fail "bd")
 have g9:=mk e8 (λF=>BZ G F i8 wT i9 z5 gV y6 w6) (by fail "bd")
 have l0:=mi e7 (λF=>yD G F ) (by fail "bd")
 have f8:=mk e6 (λF=>DQ G F y4 l0) (by fail "bd")
 have u0:=mk e5 (λF=>L1 G F z5 g9 y6 w4 f8 w6) (by fail "bd")
 have c5:=mk e4 (λF=>Jr G F ) (by fail "bd")
 have o8:=mk e3 (λF=>KQ G F ) (by fail "bd")
 have c6:=mk e2 (λF=>xN G F o8) (by fail "bd")
 have c7:=mk e1 (λF=>yE G F c5 c6) (by fail "bd")
 have c8:=mi d9 (λF=>vV G F ) (by fail "bd")
 have r4:=mk d8 (λF=>wG G F v0 u0 c7 c8) (by fail "bd")
 have r3:=mk d7 (λF=>tX G F v0 z5 y6) (by fail "bd")
 have r2:=mk d6 (λF=>vM F G ) (by fail "bd")
 have r1:=mk d5 (λF=>vW F G ) (by fail "bd")
 have q9:=mk d4 (λF=>uM F G c9 r4 r3 r2 r1) (by fail "bd")
 have t9:=mt d3 (λF=>KD G F q9) (by fail "bd")
 have q4:=mk d2 (λF=>G2 G F u0 u9 y8) (by fail "bd")
 have S:VQ l.prog w K mg g 2 "_law_lacks" ["_law_locker", "_law_words", "_law_wants", "_law_flags_here"] pI:=by
  obtain⟨_,_,_,_,_,_,_,_,_,l,c,k⟩:=b4.2;have F:=sL (st:=jP) l c k
  exact⟨_,_,EG G F P,M b4.1,k,F.binds (by fail "bd")⟩
 have q2:=mk d1 (λF=>EN G F q4 y8 m t9 S) (by fail "bd")
 exact Kf G F q3 n8 z6 t9 u5 q2 u7
def walk{l:W.OpenLaw}{q:Program}{i:List Str}{O:(Q5)->Heap->Prop}{v:World->Heap->Prop}{d:DefRec}{K:Params->W.Frag}(B:l.most=some 63)(p:d.params.defaults=[])(r:((PyProof.Rows.recsOf q).find? λe=>e.name==PySem.Str.ofString "longest_on").isSome=true)(o:∀w:World,W.noTabs (K w.params)=true)(D:∀(w:World) (h:Heap),v w h->(K w.params).In h)(F:∀(w:World) (g:Q5) (m:Addr) (h:Heap) (c j:Addr),(K w.params).In h->h.Ns mainGlobals g->g d.name=some (.ref m)->Sv h g "longest_on" c->
 ∃t:FuncData,(∀(s:Shared) (u:Value),BindsTo s t ⟨[u],[]⟩ [("_law_script",u)])/\∀b:Heap,(K w.params).In b->b.Ns mainGlobals g->Xj g b c j->Z6 l.prog w (K w.params) g b ZP 18 m t ["_law_script"] (UZ (K w.params) j)):W.WalkO q i O v l.row.toRowW d [] (λf y=>PySem.call f y):=by
 obtain⟨d2,e⟩:=Fj.mp r;have H:=List.find?_some e
 have I:d2.name=PySem.Str.ofString "longest_on" := Ji H
 exact L2.NA (d2:=d2) (n:=63) (k:=18) (x := "_law_script") (CX:=λ_=>ZP) (sp:=λw=>UZ (K w.params)) B (by decide) p ⟨rfl,by decide,by decide⟩ (List.mem_of_find?_eq_some e) o D (λw g m h c j N M L J=>F w g m h c j N M L (I▸J)) (λ_ _ a j A C G E=>⟨a,A,rfl,E,C,G,λ_=>rfl⟩) λ_ _ _ _ _ z=>z
end Mine
structure PySem.W.Fast:Prop where
(tw1804629416054184821 tw13356631571861400217 tw3509462137720820642 tw10770125965815395687 tw2139808497759070740 tw4205019021449476421 tw3176689619005032788 tw675841654596557749 tw16845362145912201232 tw14213689150519696065 tw2252704043692149097 tw8244161543024952730 tw9023728677693455057 tw3338896897111460810 tw2892002242667909880 tw3463416817852542994 tw10279694443956989957 tw10543191045827854387 tw2790840670953020507 tw899075129564825563
tw929863144310543704 tw9106130069808511544 tw4125005568913708426 tw16892922644743074321 tw11587676104945760156 tw6831724259529536260 tw18285826064139682224 tw3979229228190837494 tw2720352533627030817 tw1879057854299771562 tw9469707615843061023 tw2467352200685577460 tw14410115869677072371 tw14416943514467966430 tw16080542250232840587 tw5352315711974611450 tw13917272334004271687 tw588686803241405508 tw8091116933001098463 tw9898803062687234396
tw9849397873877436926 tw13129951387483462089 tw1727341003757380156 tw9271970336588398199 tw16726203909074583983 tw7216115193390031492 tw11951733685424132367 tw13912816291719483871 tw9172340837739175939 tw1106674879594227873 tw6391746651973517404 tw7504100309457862416 tw15719549311580097112 tw18104868864427083622 tw9543640880308861773 tw4905647825674385833 tw13768221015046321893 tw11197368797003688354 tw4587431378465257956 tw13740155345877188875
tw8802563238155016816 tw11921139831260964644 tw7139066636344254485 tw12167876320322689500 tw17604158733810249589 tw17229655482809143097 tw8531415331669999618 tw15967907409920851187 tw6440751883742537547 tw3696097801195307018 tw7806939001268459787 tw318623928226782515 tw2968283709962563904 tw11719940793710037685 tw17961053640619007687 tw208516394914689477 tw2092190043119564782 tw832751171465615137 tw16072176463256159013 tw1690008175693726853
tw1973526468384340989 tw18375990345624694818 tw3423931522034536538 tw17672822076462999143 tw13326430094377087469 tw2615621609543198337 tw17999296678666794981 tw11002535446472240211 tw12385688899619646053 tw14746727990483397064 tw9884846702014148717 tw6638963402533143007 tw5730889889500408558 tw9915181427292083382 tw12788146728799286544 tw7860810861148269898 tw14465742249558801254 tw11819226539742884859 tw16983313677053245175 tw8284301680364773165
tw1224798519529162418 tw11606052943275120132 tw9112444655111789624 tw11443106155228427614 tw10641230674402816013 tw14855076848578577543 tw3837785459149929657 tw10742650392426733055 tw8088886627082439015 tw6390468855368759925 tw5680698952191647091 tw4622542269899352189 tw1922210089257122224 tw16905552383282960586 tw12294683726813843930 tw543102623927928416 tw14716794551628947276 tw3995364657615795243 tw10886131279404507818 tw11224023672965389907
tw8657088538534023036 tw10112793014088902901 tw8908448140846344161 tw6211596726225328319 tw10582171404661284146 tw11616085702409036757 tw254746875744430319 tw12047767462107637516 tw15226844273272095281 tw17243960967569087692 tw3288425834113414518 tw13029772026044171925 tw10110704349092664440 tw9882496443911837403 tw9683740977112266375 tw16840105346908351550 tw15703143870143715572 tw11707950252209212596 tw778036206322713335 tw16816643602328283165
tw7683908654137444116 tw10681108652538363972 tw5901824515754915888 tw970469002845039803 tw7230117031345876541 tw151813242653639812 tw12692023588738211674 tw16359279445922660837 tw5830503362896921368 tw10583138913995512714 tw6473571149344522925 tw4240190426607074793 tw6661048779427897507 tw8817084332441989597 tw8402125563702128217 tw6289691292301093937 tw16102454353411927236 tw7315231742795805124 tw17483647337729743324 tw16611874815749841608
tw13157700084427368821 tw18146002680312629438 tw1995712676962346516 tw5663355791605373026 tw6017482626541883938 tw1085896534627319812 tw13680536339963029125 tw15194358861669670224 tw6501072206229111235 tw13362569876696319629 tw18297984284896349781 tw618616755747183185 tw12763425530003945923 tw12277832622584425513 tw12421075100731842370 tw11894324991054047537 tw4015458556525005437 tw12930794497867952127 tw6313630229018249162 tw9332109559327982239
tw5669275848301198419 tw9504646092860366384 tw3835358770404550988 tw12751589246172051514 tw1094532853187531911 tw7242871538752086141 tw6451065535332176229 tw10048603163026631073 tw13329619990659846055 tw8795053117446275841 tw15322945211352093634 tw15837231909614920022 tw7938451528568150658 tw10611246775125223767 tw4602488119329549937 tw6677315171023831351 tw8671854024255126314 tw2642268995143568337 tw13792368095415451396 tw16436433216211766925
tw3734421312795241196 tw5504643910078328944 tw13713974049711862411 tw17259995033778560062 tw17720018541212889927 tw14225240936943925674 tw3490587629332341238 tw8425493642240248115 tw11926927843327234579 tw13396970118967967624 tw2465858759081469221 tw1869305337057576036 tw10603958463870706043 tw17290626249337060027 tw13045730763776399114 tw11928600577582832724 tw6409654971753011243 tw2747317513794007886 tw2172938708916494807 tw9234170489622109026
tw2667460808106184376 tw13174623133990332668 tw8667860828125208111 tw807986324792544039 tw12469417578982947996 tw16882099712384492044 tw10290867719246940745 tw13094955710320463492 tw15900927503254518582 tw14156656176064682861 tw11706476220885481854 tw16889303943193643663 tw5778706356733585963 tw9588126506637593906 tw18224152810197047347 tw14078586426465805600 tw13362109356998836899 tw4339082485078770468 tw16720587049992270239 tw17400955727585419513
tw14750709192776618202 tw15108421303255915900 tw11105661849627058465 tw2844487930507664993 tw930230339736759063 tw2274166655428943121 tw12021401694652204295 tw12638405597818307372 tw11217289265365372089 tw2567379611682090488 tw10072337284433651172 tw3609100092678290143 tw460122973982865433 tw11862456814995605032 tw6961936988625368521 tw8464367816010328853 tw8113725414040780888 tw9778015182530701064 tw16942051462367642184 tw9045882357921071164
tw12708765489467099970 tw1755287969754336900 tw12986510780819455359 tw9298983319136300137 tw14813300651909880451 tw13675902173987415497 tw7912116346728902167 tw17186536621915087627 tw14915479894709277649 tw17745115447332318899 tw16257528548712951498 tw8355648142191562186 tw14864039855763711801 tw3184212231166907730 tw8962729848808822128 tw13628743258590292488 tw9292456601210361359 tw719648199478738581 tw561196222859916313 tw1026171631023882075
tw11489704131749341915 tw2424250911193149683 tw2611327301670941932 tw14545366715166247668 tw5747166504885893149 tw8453349382519083612 tw6625295874334979086 tw18134087180268989508 tw13979189049025265894 tw5935002930423919574 tw6014495796313123558 tw17859467594825912306 tw6926458439408378413 tw277331575601242597 tw13055584514715486246 tw16860048832228179595 tw474569676119520273 tw2347269415225278026 tw10956612584798190951 tw18412765117311301305
tw7946055407715622578 tw1441950197411694461 tw2755841081084429092 tw3846504225854964076 tw16456372611854067594 tw9857002306420534098 tw14586698665075292118 tw15417910958847474725 tw13130328203183773259 tw13147966433536363110 tw2394265612242789242 tw4006726301509817385 tw7164625078109169039 tw3658356097583073321 tw13239688691685352845 tw5524014605694748262 tw7444791959789176437 tw13421953399405801445 tw3530761389009438710 tw2299835363075012805
tw921515885056971147 tw8631216627556207588 tw3655296112633929854 tw6104547014527393915 tw1309941379876494960 tw5911581583372184324 tw15518820718521635795 tw7436803270679646418 tw17962853258782328065 tw10443148912311491854 tw7296308292282867452 tw17395863836300678130 tw13827297389647544244 tw15273330717222039297 tw13059608161141792648 tw4615105298699200020 tw17419399182450644052 tw12728388561101564912 tw8611159119237152940 tw2455449213704686257
tw17203762054923906894 tw12196635891011898573 tw5484710663578372647 tw3730646834864981766 tw5363529712928974732 tw14378072152111071302 tw5149933899569422714 tw4887048825487099579 tw8011326211389464495 tw15644722458381793124 tw241192237116931235 tw3249410263504470566 tw18142342794193883596 tw2233878624112365645 tw14326216981844286804 tw14578951317896429543 tw6054520716722454210 tw4141033000453899081 tw11703848944562978214 tw18269664095430006662
tw14902570231223812376 tw15138160455022015006 tw8869326968292159720 tw16692067620187667647 tw17501617690705827117 tw5774763093588805935 tw598057601653173366 tw17287521844502030033 tw3119786097526280518 tw588563832356445337 tw18032889552674004835:True)
open PySem PySem.W PyProof.Rows
set_option maxRecDepth 100000 in
set_option maxHeartbeats 0 in
theorem PySem.Challenge.cw_flaglocker_k53_haul_and_lower_holds : PySem.Challenge.rw_flaglocker_k53_haul_and_lower.Holds := by
  w_on; o_law; k_head; (case hw => w_witness2)
  k_fill
  refine Mine.walk (l:=PySem.Challenge.rw_flaglocker_k53_haul_and_lower) rfl rfl ?hd2 ?hno (fun w h Y => PySem.W.km_in_of Y) ?F
  case hd2 => kernel_rfl!
  case hno => intro w; kernel_rfl!
  case F =>
    intro w mg fa h c Pt KX G hmg TH
    apply Mine.all_mk KX G hmg TH
    all_goals first | exact ⟨by k_is,_,_,_,_,_,_,_,_,_,by k_is,by k_is,by k_is⟩ | exact ⟨by k_is,by k_is,_,_,_,_,_,_,_,_,_,by k_is,by k_is,by k_is⟩ | k_is | kernel_rfl! | (constructor <;> first | k_is | k_exc | kts_exm | kit_is | kernel_rfl!) | exact ⟨rfl,⟨_,rfl⟩,⟨_,rfl⟩,rfl,⟨_,rfl⟩,⟨_,rfl⟩,rfl,⟨_,rfl⟩,⟨_,rfl⟩,rfl,⟨_,rfl⟩,⟨_,rfl⟩,rfl,⟨_,rfl⟩,⟨_,rfl⟩,trivial⟩
