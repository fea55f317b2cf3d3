import PyProof.Rows.All
import Wide.All
import OpenK.AllK
import Wide.FinOn
import Lean
import PyProof.EqAt
import PyProof.EqKinds
import PyProof.TupleCall
import PyProof.NeKinds
import PyProof.TupleKey
import PyProof.AttrMissHeap
import PySem.Challenge.RW_crosswright_k44_floors_refused
open PySem.W(Frag findIn nsIn keepIn kitOne instObj emptyDict fnOf specialIn makesIn codeIn clsIn plainGet takesIn methodObj hasDictIn isFn lookIn plainOver Looks mroIn takerIn OpenLaw)
set_option Elab.async false
set_option linter.all false
set_option compiler.extract_closed false
set_option maxRecDepth 100000
section
open PySem PySem.Spec PyProof.Rows PySem.W
def ah:=@wpAny_bind
def au:=@if_neg
def av:=@List.length_map
def aC:=@if_pos
def aE:=@wpAny_pure
def aP:=@Ne.symm
def aQ:=@Nat.le_refl
def aU:=@decide_eq_true
def bf:=@decide_eq_false
def bq:=@Heap.get?_push_of_some
def br:=@List.size_toArray
def bt:=@List.getElem?_eq_getElem
def bx:=@Heap.lt_size
def bF:=@List.getElem?_map
def bK:=@List.mem_cons_self
def bL:=@Nat.le_trans
def bM:=@List.mem_of_getElem?
def bR:=@List.getElem?_eq_some_iff
def bV:=@Nat.ne_of_lt
def bW:=@Nat.zero_le
def cx:=@List.mem_cons
def cy:=@Bool.false_ne_true
def cz:=@List.getD_eq_getElem?_getD
def cC:=@List.mem_map
def cF:=@List.map_cons
def cJ:=@List.mem_singleton
def cQ:=@Heap.get?_push_size
def cW:=@List.mem_cons_of_mem
def da:=@List.mem_filter
def dh:=@Option.some.inj
def di:=@List.getElem?_eq_none
def dj:=@PySem.W.mg_of
def dR:=@List.mem_append
def dS:=@List.append_nil
def d6:=@List.length_append
def d7:=@Bool.and_eq_true
def eJ:=@List.length_cons
def eK:=@wpAny_field
def eS:=@List.getElem?_of_mem
def eX:=@congrArg
def fC:=@wpAny_mono
def fE:=@wpAny_holding
def fF:=@Nat.le_succ
def fG:=@List.map_append
def fH:=@List.filter_cons
def fU:=@List.not_mem_nil
def gq:=@Nat.lt_of_lt_of_le
def gr:=@of_decide_eq_true
def gs:=@List.take_of_length_le
def gR:=@Paired.length
def gS:=@beq_iff_eq
def gT:=@Heap.get?_update_other
def ic:=@List.mem_range
def ie:=@List.mem_append_right
def ig:=@List.nodup_cons
def ij:=@List.length_take
def ik:=@List.take_add_one
def il:=@Bool.eq_false_iff
def iZ:=@Int.toNat_natCast
def i0:=@Option.map_some
def i3:=@Option.map_eq_some_iff
def i4:=@List.nodup_nil
def i5:=@List.length_range
def i6:=@List.ext_getElem?
def i7:=@Bool.or_true
def i8:=@Nat.mul_one
def jw:=@wpAny_call
def jz:=@Nat.not_lt_zero
def jA:=@List.contains_cons
def jB:=@PySem.W.mg_none_of
def j0:=@List.mem_append_left
def j3:=@Heap.size_push
def j4:=@if_true
def j5:=@List.getElem_mem
def j6:=@PySem.F.plainAttrs_list
def lj:=@Bool.false_and
def ll:=@PySem.W.kia_one
def lr:=@Nat.lt_of_le_of_lt
def lu:=@Nat.succ_le_succ
def lz:=@Nat.succ_mul
def lA:=@PySem.F.slot_list_append
def lB:=@PySem.F.type_list_append
def mR:=@wpAny_newObj_type
def mS:=@List.take_zero
def mT:=@wpAny_loadPart_at
def mU:=@Prod.mk.injEq
def mV:=@List.map_map
def nW:=@wpAny_Call_Name_kw
def nX:=@Heap.get?_update_self
def nY:=@List.length_filter_le
def nZ:=@wpAny_attempt
def n5:=@wpAny_seqItems
def n6:=@or_false
def n8:=@List.sum_cons
def n9:=@List.append_assoc
def qb:=@Nat.lt_irrefl
def qf:=@wpAny_truthy_bool
def qg:=@wpAny_call_entry
def qh:=@Paired.snoc
def qi:=@Option.getD_some
def qj:=@Nat.mul_zero
def rP:=@List.getElem?_set_self
def rQ:=@PySem.W.looks_findIn
def rR:=@if_false
def rS:=@List.length_drop
def rT:=@List.lookup_cons
def rV:=@Nat.lt_succ_of_lt
def rW:=@wpAny_of_eq
def rX:=@Obj.data_mapFields
def rY:=@List.getElem?_range
def rZ:=@List.nodup_append
def r6:=@Nat.lt_succ_iff_lt_or_eq
def r8:=@List.mem_map_of_mem
def uV:=@beq_eq_false_iff_ne
def uW:=@List.getElem?_set_ne
def uX:=@Array.length_toList
def uY:=@Nat.ne_of_gt
def uZ:=@Nat.lt_succ_self
def u6:=@List.getElem?_take_of_lt
def u9:=@List.any_cons
def vc:=@Bool.and_false
def ve:=@List.find?_cons
def vf:=@List.any_eq_true
def vg:=@List.range_succ
def vh:=@List.filter_append
def vi:=@wpAny_setField
def vj:=@wpAny_rule
def vk:=@Option.bind_some
def vm:=@Int.eq_ofNat_of_zero_le
def xA:=@wpAny_standAt
def xB:=@wpAny_passesOwn
def xC:=@codeAny_mono
def xD:=@PySem.W.callWith_K
def xE:=@wpAny_callSpecial?_slot
def xF:=@wpAny_letGo
def xG:=@F.plain_min_loop
def xH:=@Int.le_refl
def AO:=@Nat.le_of_lt
def AQ:=@wpAny_pyIter_list
def AR:=@List.getElem?_append_right
def AS:=@List.take_sublist
def AU:=@List.length_nil
def AV:=@List.length_set
def AW:=@tupleKind_room_in1
def AX:=@Bool.false_eq_true
def AY:=@Bool.not_eq_true'
def AZ:=@List.filter_nil
def A0:=@Int.zero_add
def A3:=@Heap.SameBut.update
def A4:=@size_push'
def A5:=@wpAny_setField_rec
def A6:=@Nat.le_add_right
def A7:=@Nat.zero_add
def A8:=@plainId_quiet
def A9:=@codeAny_call_builtin
def Ba:=@wpAny_isSubtype_exc
def Bb:=@List.mem_flatMap
def Bc:=@Nat.mul_le_mul
def Bd:=@List.mem_of_mem_take
def Be:=@List.nil_append
def EB:=@wpAny_execs_nil
def EC:=@PyProof.Rows.callWith_type1
def ED:=@Bool.eq_iff_iff
def EE:=@Calls.spliced_cons
def EF:=@PySem.mem_of_lookup
def EG:=@PyProof.Rows.slot_tuple_getitem
def EH:=@List.length_singleton
def EI:=@List.map_nil
def EJ:=@beq_self_eq_true
def EK:=@List.all_eq_true
def EL:=@Bool.or_eq_true
def EM:=@Bool.and_true
def EN:=@Txt.slice_le
def EO:=@List.filter_map
def ER:=@Obj.isFreed_of_fields
def ES:=@List.getElem?_reverse
def ET:=@List.length_reverse
def EU:=@List.take_length
def EV:=@wpAny_onRaise
def EW:=@codeAny_builtin
def EX:=@Around.under_plainId
def EY:=@wpAny_tryCatch
def EZ:=@PySem.W.check_slot
def E2:=@Classical.byContradiction
def E3:=@Nat.mul_le_mul_right
def E4:=@Nat.mul_comm
def E5:=@Bool.true_and
def E6:=@Prod.ext_iff
def E7:=@Int.emod_nonneg
def E8:=@Int.emod_lt_of_pos
def Lr:=@wpAny_pyIter_tuple
def Ls:=@PySem.W.plainGet_of
def Lu:=@wpAny_loadPart
def Lv:=@List.getElem?_append_left
def Lw:=@wpAny_specialOf
def Lx:=@Nat.le_of_not_lt
def Ly:=@typeLookup_type
def Lz:=@builtinLookup_eq_fast
def LA:=@isSubtype_type
def LB:=@F.slot_zip_next
def LC:=@F.slot_tuple_iterator_next
def LD:=@Heap.get?_update_ne
def LF:=@Code.quiet_builtin
def LG:=@PySem.W.looks_mroIn
def LH:=@PySem.W.isNs_of_in
def LI:=@List.getElem?_drop
def LJ:=@List.flatMap_append
def LK:=@List.mem_or_eq_of_mem_set
def LL:=@List.count_eq_zero
def LM:=@PySem.F.plainAttrs_str
def LN:=@Nat.min_eq_left
def LO:=@List.mem_reverse
def LP:=@List.count_append
def Tv:=@PySem.W.methodCall_KW
def Tw:=@Calls.callWith_builtin
def Tx:=@Calls.evalArgs_plain
def Tz:=@PySem.F.slot_dict_get
def TC:=@List.range_succ_eq_map
def TF:=@Array.getElem?_eq_some_iff
def TH:=@wpAny_updateSeq_pair
def TJ:=@AutoSeq1.wpAny_loadPart'
def TK:=@F.slot_list_getattribute
def TL:=@List.length_pos_of_mem
def TM:=@PySem.W.handedOut_of
def TN:=@Nat.div_lt_of_lt_mul
def TQ:=@List.pairwise_iff_getElem
def TR:=@PySem.F.slot_str_join
def TV:=@PySem.F.type_str_join
def TX:=@List.dropLast_concat_getLast
end
namespace L2
open PySem PySem.Spec PyProof.Rows
variable{vs xs:List V}{its us:List Value}{H:Hp}{C a b dx it:Addr}{o:Obj}{cd u:Value}{P prog:Program}{w:World}{base h:Heap}{g':Array GenState}{i j n t':Nat}{d':Drawn}{ch fp:List Addr}{pins vp:List (Addr×Obj)}{N ns ps:List Str}{x:Str}{M:Model}{A:Around}{E Q:Value->Shared->Prop}{v y:V}{s s':Shared}{X:Cx}{c e iter l tg:Expr}{α κ:Type}{pos:Pos}{O:St}{K:Frag}{body st:List Stmt}{tc:TT}{es:List Expr}{te tl:TE}{g:Int->Int->Int}{tb:TS}{R:Result->Shared->Prop}{lo:Int}{p:Addr×Obj}{pl:Sem Bool}{f:Value->Value->Sem Value}{r r':R2}{sL:CmpOp}{mA mg:Str->Option Value}{expr:Bool}{kw:List (Str×Value)}{outer:List Env}{fd:FuncData}{sc scope:Scope}
abbrev Key:=Sum Int Str
noncomputable def oa:Key->Value->Bool
 |.inl k,v=>Value.isInt k v
 |.inr x,v=>Value.isStrOf x v
noncomputable def TY(w:World):Key->Int
 |.inl k=>hashInt k
 |.inr x=>hashStr w x
theorem lC:∀{k:Key}{v:Value},oa k v=true->(∃i t,k=Sum.inl i/\v=Value.int i t)\/(∃x t,k=Sum.inr x/\v=Value.str x t)
 |.inl i,v,h=>by
  obtain⟨t,e⟩:=Value.isInt_shape (k:=i) (v:=v) h
  exact .inl ⟨i,t,rfl,e⟩
 |.inr x,v,h=>by
  obtain⟨t,e⟩:=Value.isStrOf_shape (x:=x) (v:=v) h
  exact .inr ⟨x,t,rfl,e⟩
def TZ(i:Int)(t:Tok):oa (.inl i) (.int i t)=true:=by simp[oa,Value.isInt]
def LQ(x:Str)(t:Tok):oa (.inr x) (.str x t)=true:=by simp[oa,Value.isStrOf]
def T8(a b:Int):decide ((Sum.inl a:Key)=Sum.inl b)=(a==b):=by
 by_cases e:a=b
 .subst e;simp
 .have h:¬(Sum.inl a:Key)=Sum.inl b:=λq=>e (Sum.inl.inj q)
  rw[bf h]
  exact(uV.mpr e).symm
def T9(a b:Str):decide ((Sum.inr a:Key)=Sum.inr b)=decide (a=b):=by
 by_cases e:a=b
 .subst e;simp
 .have h:¬(Sum.inr a:Key)=Sum.inr b:=λq=>e (Sum.inr.inj q)
  rw[bf h,bf e]
def Ua(a:Int)(b:Str):decide ((Sum.inl a:Key)=Sum.inr b)=false:=bf (λq=>nomatch q)
def Ub(a:Str)(b:Int):decide ((Sum.inr a:Key)=Sum.inl b)=false:=bf (λq=>nomatch q)
noncomputable def d8(prog:Program)(w:World):PySem.KeyKind prog w Key where
 is:=oa
 hash:=TY w
 inj:=λv a b ha hb=>by
  rcases lC ha with ⟨i,t,rfl,rfl⟩ | ⟨x,t,rfl,rfl⟩
  .rcases lC hb with ⟨j,u,rfl,e⟩ | ⟨y,u,rfl,e⟩
   .injection e with e1 _;rw[e1]
   .exact nomatch e
  .rcases lC hb with ⟨j,u,rfl,e⟩ | ⟨y,u,rfl,e⟩
   .exact nomatch e
   .injection e with e1 _;rw[e1]
 byValue:=λk v h=>by
  rcases lC h with ⟨i,t,rfl,rfl⟩ | ⟨x,t,rfl,rfl⟩ <;> rfl
 pyHash:=λhv h=>by
  rcases lC hv with ⟨i,t,rfl,rfl⟩ | ⟨x,t,rfl,rfl⟩
  .exact wpAny_pyHash_int h
  .exact wpAny_pyHash_str h
 eqBool:=λhu hv h=>by
  rcases lC hu with ⟨i,t,rfl,rfl⟩ | ⟨x,t,rfl,rfl⟩
  .rcases lC hv with ⟨j,u,rfl,rfl⟩ | ⟨y,u,rfl,rfl⟩
   .rw[T8] at h;exact wpAny_eqBool_int h
   .rw[Ua] at h;exact SeqAt.EqAt.int_str i t y u _ _ _ _ h
  .rcases lC hv with ⟨j,u,rfl,rfl⟩ | ⟨y,u,rfl,rfl⟩
   .rw[Ub] at h;exact SeqAt.EqAt.str_int x t j u _ _ _ _ h
   .rw[T9] at h;exact wpAny_eqBool_str h
 «strs»:=λk x t v h=>by
  rcases lC h with ⟨i,u,rfl,e⟩ | ⟨y,u,rfl,e⟩
  .exact nomatch e
  .injection e with e1 _
   subst e1
   cases v <;> rfl
def Uc(prog:Program)(w:World)(i:Int)(t:Tok):(d8 prog w).is (.inl i) (.int i t)=true:=TZ i t
def Ud(prog:Program)(w:World)(x:Str)(t:Tok):(d8 prog w).is (.inr x) (.str x t)=true:=LQ x t
inductive V where
 |aw | bl (b:Bool) | int (i:Int) | str (x:Str) | i9 (b:Array UInt8) | r9 (b:UInt64) | ref (a:Addr) | ty (n:String)
 deriving DecidableEq
def RelV:V->Value->Prop
 |.aw,u=>u=Value.none
 |.bl b,u=>u=Value.bool b
 |.int i,u=>∃t,u=Value.int i t
 |.str x,u=>∃t,u=Value.str x t
 |.i9 b,u=>∃t,u=Value.bytes b t
 |.r9 b,u=>∃t,u=Value.float b t
 |.ref a,u=>u=Value.ref a
 |.ty n,u=>u=Value.type n
abbrev Vals:List V->List Value->Prop:=Paired RelV
theorem Vals.length(r:Vals xs us):xs.length=us.length:=gR r
theorem Vals.get:∀{xs:List V}{us:List Value}{i:Nat}{x:V},Vals xs us->xs[i]? = some x->∃u,us[i]? = some u/\RelV x u
 |_,_,_,_,.nil,e=>by simp at e
 |_,_,0,_,.cons r _,e=>by simp at e;subst e;exact⟨_,rfl,r⟩
 |_,_,i+1,x,.cons _ t,e=>by
  obtain⟨u,h1,h2⟩:=Vals.get (i:=i) (x:=x) t (by simpa using e)
  exact⟨u,by simpa using h1,h2⟩
theorem Vals.set{x:V}{u:Value}(r:RelV x u):∀{xs:List V}{us:List Value}(i:Nat),Vals xs us->Vals (xs.set i x) (us.set i u)
 |_,_,_,.nil=>.nil
 |_,_,0,.cons _ t=>.cons r t
 |_,_,i+1,.cons q t=>.cons q (Vals.set r i t)
theorem Vals.append:∀{xs ys:List V}{us ws:List Value},Vals xs us->Vals ys ws->Vals (xs++ys) (us++ws)
 |_,_,_,_,.nil,s=>s
 |_,_,_,_,.cons r t,s=>.cons r (Vals.append t s)
theorem Vals.take:∀{xs:List V}{us:List Value}(n:Nat),Vals xs us->Vals (xs.take n) (us.take n)
 |_,_,0,_=>.nil
 |_,_,_+1,.nil=>.nil
 |_,_,n+1,.cons r t=>.cons r (Vals.take n t)
theorem Vals.drop:∀{xs:List V}{us:List Value}(n:Nat),Vals xs us->Vals (xs.drop n) (us.drop n)
 |_,_,0,r=>r
 |_,_,_+1,.nil=>.nil
 |_,_,n+1,.cons _ t=>Vals.drop n t
def eT:Option V->Option Value->Prop
 |some v,some u=>RelV v u
 |none,none=>True
 |_,_=>False
def KV{κ:Type}:List (κ×V)->List (κ×Value)->Prop:=Paired λ(p:κ×V) (q:κ×Value)=>p.1=q.1/\RelV p.2 q.2
noncomputable def kV:Key->V
 |.inl i=>.int i
 |.inr x=>.str x
inductive HO where
 |lst (xs:List V)
 |tup (xs:List V)
 |dK (kvs:List (Key×V)) | dT (kvs:List (List Key×V))
 |set (S:Int->Bool) (n:Nat)
 |ins (C dx:Addr) (fs:List (Str×V))
 |own (x:Addr)
 |xd (fs:List (Str×V))
 |met (f x:Addr)
 |og (lo hi:Int)
 |eC (o:Obj) (u:HO)
 |oh (ps:Array Value)
 |ext (φ:Heap->Prop)
abbrev Hp:=Addr->Option HO
noncomputable def upd(H:Hp)(a:Addr)(o:HO):Hp:=λb=>if b=a then some o else H b
def ao{o:HO}:upd H a o a=some o:=by unfold upd;rw[aC rfl]
def ak{o:HO}(h:b≠a):upd H a o b=H b:=by unfold upd;rw[au h]
def Ue{o u:HO}:upd (upd H a o) a u=upd H a u:=by
 funext b;unfold upd;split <;> rfl
def bS{o u:HO}(h:H a=some o)(h':H b=some u)(d:o≠u):a≠b:=by
 intro e;subst e;rw[h] at h';exact d (dh h')
def bh{o:HO}(h:H a=some o)(h':H b=none):a≠b:=by
 intro e;subst e;rw[h] at h';cases h'
section
variable(P:Program)(w:World)
def dk(H:Hp)(h:Heap)(a:Addr):HO->Prop
 |.lst xs=>xs.length<=sizeLine/\∃(its:List Value) (n:Nat),Vals xs its/\h.get? a=some { cls := .type "list",data := .seq its.toArray n }
 |.tup xs=>xs.length<=sizeLine/\∃its:List Value,Vals xs its/\IsTup h a its.toArray
 |.dK kvs=>kvs.length<=sizeLine/\(a==sysModules)=false/\∃vs,KV kvs vs/\h.DictOf (d8 P w) a vs
 |.dT kvs=>kvs.length<=sizeLine/\(a==sysModules)=false/\∃xs:List (List Key×Addr×Value),
   Paired (λ(p:List Key×V) (q:List Key×Addr×Value)=>p.1=q.1/\H q.2.1=some (.tup (p.1.map kV))/\RelV p.2 q.2.2) kvs xs/\
   ∃o es ep,h.get? a=some o/\o.ExactDict/\o.data = .dict es ep/\es.toList=xs.map (entryOfKey (tupleKind (d8 P w)))/\(xs.map (·.1)).Nodup
 |.set S n=>h.SetOf (intKind P w) a S n
 |.ins C dx fs=>H dx=some (.own a)/\fs.length<=1000/\dx≠a/\h.get? a=some (instObj C dx)/\
   ∃mA,h.Ns1 dx mA/\(∀f,eT (fs.lookup f) (mA f))/\PySem.Within mA (fs.map (·.1))
 |.own _=>∃o,h.get? a=some o
 |.xd fs=>∃mA,h.Ns1 a mA/\∀f,eT (fs.lookup f) (mA f)
 |.og lo hi=>∃t u v,h.get? a=some { cls := .type "range",data := .fields #[.int lo t,.int hi u,.int 1 v] }
 |.eC o u=>h.get? a=some o/\dk H h a u
 |.oh ps=>h.get? a=some { cls := .none,data := .fields ps }
 |.met f x=>h.get? a=some (methodObj (.ref f) (.ref x))
 |.ext φ=>φ h/\(∃o,h.get? a=some o)/\∀h1 h2:Heap,φ h1->(∀o,h1.get? a=some o->h2.get? a=some o)->φ h2
def dB(H:Hp)(h:Heap):Prop := ∀a o,H a=some o->dk P w H h a o
end
section
variable{P:Program}{w:World}{H H':Hp}{h h':Heap}{a:Addr}{o:HO}
theorem dk.lt(x:dk P w H h a o):a<h.objs.size:=by
 cases o with
 |lst xs=>obtain⟨_,_,_,_,e⟩:=x;exact bx e
 |tup xs=>obtain⟨_,_,_,p⟩:=x;exact p.lt
 |dK kvs=>obtain⟨_,_,_,_,o,_,_,e,_⟩:=x;exact bx e
 |dT kvs=>obtain⟨_,_,_,_,o,_,_,e,_⟩:=x;exact bx e
 |set S n=>obtain⟨o,_,_,_,e,_⟩:=x;exact bx e
 |ins C dx fs=>obtain⟨_,_,_,e,_⟩:=x;exact bx e
 |own y=>obtain⟨_,e⟩:=x;exact bx e
 |xd fs=>obtain⟨_,⟨_,_,_,e,_⟩,_⟩:=x;exact bx e
 |og lo hi=>obtain⟨_,_,_,e⟩:=x;exact bx e
 |eC ob u=>obtain⟨e,_⟩:=x;exact bx e
 |oh ps=>exact bx (show h.get? a=some _ from x)
 |met f y=>exact bx (show h.get? a=some _ from x)
 |ext φ=>obtain⟨_,⟨_,e⟩,_⟩:=x;exact bx e
theorem Paired.bE{α β:Type}{F G:α->β->Prop}:∀{l₁:List α}{l₂:List β},Paired F l₁ l₂->(∀a b,F a b->G a b)->Paired G l₁ l₂
 |_,_,.nil,_=>.nil
 |_,_,.cons r t,f=>.cons (f _ _ r) (Paired.bE t f)
def dk.ja(x:dk P w H h a o)(k:∀b u,(b=a\/H b=some (.own a))->h.get? b=some u->h'.get? b=some u)
  (ho:∀b,H b=some (.own a)->H' b=some (.own a)) (ht:∀b xs,H b=some (.tup xs)->H' b=some (.tup xs)):dk P w H' h' a o:=by
 induction o with
 |lst xs=>obtain⟨z,its,n,r,e⟩:=x;exact⟨z,its,n,r,k _ _ (.inl rfl) e⟩
 |tup xs=>obtain⟨z,its,r,ob,e,c⟩:=x;exact⟨z,its,r,ob,k _ _ (.inl rfl) e,c⟩
 |dK kvs=>obtain⟨z,y,vs,r,ob,es,ep,e,c⟩:=x;exact⟨z,y,vs,r,ob,es,ep,k _ _ (.inl rfl) e,c⟩
 |dT kvs=>
  obtain⟨z,y,xs,r,ob,es,ep,e,c⟩:=x
  exact⟨z,y,xs,Paired.bE r λp q z=>⟨z.1,ht _ _ z.2.1,z.2.2⟩,ob,es,ep,k _ _ (.inl rfl) e,c⟩
 |set S n=>obtain⟨ob,es,ep,t,e,c⟩:=x;exact⟨ob,es,ep,t,k _ _ (.inl rfl) e,c⟩
 |ins C dx fs=>
  obtain⟨d,z,ne,e,mA,⟨od,es,ep,e2,c⟩,r⟩:=x
  exact⟨ho _ d,z,ne,k _ _ (.inl rfl) e,mA,⟨od,es,ep,k _ _ (.inr d) e2,c⟩,r⟩
 |own y=>obtain⟨ob,e⟩:=x;exact⟨ob,k _ _ (.inl rfl) e⟩
 |xd fs=>obtain⟨mA,⟨od,es,ep,e,c⟩,r⟩:=x;exact⟨mA,⟨od,es,ep,k _ _ (.inl rfl) e,c⟩,r⟩
 |og lo hi=>obtain⟨t,u,v,e⟩:=x;exact⟨t,u,v,k _ _ (.inl rfl) e⟩
 |eC ob u ih=>obtain⟨e,q⟩:=x;exact⟨k _ _ (.inl rfl) e,ih q⟩
 |oh ps=>
  have e:h.get? a=some { cls := .none,data := .fields ps }:=x
  show h'.get? a=some { cls := .none,data := .fields ps }
  exact k a _ (.inl rfl) e
 |met f y=>
  have e:h.get? a=some (methodObj (.ref f) (.ref y)):=x
  show h'.get? a=some (methodObj (.ref f) (.ref y))
  exact k a _ (.inl rfl) e
 |ext φ=>obtain⟨p,⟨o,e⟩,st⟩:=x;exact⟨st _ _ p λo q=>k _ _ (.inl rfl) q,⟨o,k _ _ (.inl rfl) e⟩,st⟩
theorem dB.lt(x:dB P w H h)(e:H a=some o):a<h.objs.size:=(x a o e).lt
def dB.fresh(x:dB P w H h)(e:h.objs.size<=a):H a=none:=by
 cases q:H a with
 |none=>rfl
 |some u=>exact absurd (gq (x.lt q) e) (qb _)
def dB.kept(x:dB P w H h)(k:∀b u,h.get? b=some u->h'.get? b=some u):dB P w H h':=λa o e=>
 (x a o e).ja (λb u _ q=>k b u q) (λ_ q=>q) λ_ _ q=>q
def dB.laid(x:dB P w H h)(k:∀b u,h.get? b=some u->h'.get? b=some u)(hp:h.objs.size<=a)(new:dk P w (upd H a o) h' a o):dB P w (upd H a o) h':=λb u e=>by
 have hn:=x.fresh hp
 by_cases hb:b=a
 .subst hb;rw[ao] at e;cases e;exact new
 .rw[ak hb] at e
  exact(x b u e).ja (λc v _ q=>k c v q) (λc q=>by rw[ak (bh q hn)];exact q) λc xs q=>by rw[ak (bh q hn)];exact q
end
def Rd(H:Hp)(a:Addr)(u:HO):Prop:=H a=some u\/∃o,H a=some (.eC o u)
def Rd.ok{u:HO}(r:Rd H a u)(x:dB P w H h):dk P w H h a u:=by
 rcases r with r | ⟨o,r⟩
 .exact x a u r
 .obtain⟨_,q⟩:=x a _ r
  exact q
def xI:Option HO->Prop
 |some (.lst _)=>True
 |some (.dK _)=>True
 |some (.dT _)=>True
 |some (.set _ _)=>True
 |some (.ins _ _ _)=>True
 |some (.ext _)=>True
 |_=>False
section
variable{P:Program}{w:World}{H:Hp}{h h':Heap}{x e:Addr}{o':HO}
def dB.write(ok:dB P w H h)(mu:xI (H x))(he:e=x\/H e=some (.own x))(k:∀b u,b≠e->h.get? b=some u->h'.get? b=some u)(vn:∃u,h'.get? e=some u)
  (new:dk P w (upd H x o') h' x o'):dB P w (upd H x o') h':=λb u q=>by
 have LR:∀c y,H c=some (.own y)->c≠x:=λc y r z=>by subst z;rw[r] at mu;exact mu
 have Ug:∀c xs,H c=some (.tup xs)->c≠x:=λc xs r z=>by subst z;rw[r] at mu;exact mu
 by_cases hb:b=x
 .subst hb;rw[ao] at q;cases q;exact new
 .rw[ak hb] at q
  by_cases jC:b=e
  .have q':H b=some (.own x):=by
    rcases he with z | z
    .exact absurd (jC.trans z) hb
    .rw[jC];exact z
   rw[q] at q';cases q'
   obtain⟨v,hv⟩:=vn
   exact⟨v,by rw[jC];exact hv⟩
  .refine(ok b u q).ja (λc v hc r=>k c v ?_ r) (λc r=>by rw[ak (LR c b r)];exact r) λc xs r=>by rw[ak (Ug c xs r)];exact r
   rcases hc with rfl | hc
   .exact jC
   .rintro rfl
    rcases he with z | z
    .exact LR c b hc z
    .rw[hc] at z;cases z;exact hb rfl
end
structure Un(fs ex:List Addr)(H H':Hp)(h h':Heap):Prop where
 keep:∀b o,h.get? b=some o->H b=none->b∉fs->b∉ex->h'.get? b=some o
 slot:∀b o,h.get? b=some o->H b=none->b∈fs->b∉ex->∃sl,h'.get? b=some { o with slots:=sl }
 free:∀b o,h.get? b=some o->H b=none->b∉ex->H' b=none
 there:∀b o,h.get? b=some o->b∉ex->∃o',h'.get? b=some o'
 fJ:∀b xs,H b=some (.tup xs)->H' b=some (.tup xs)
 jb:∀b o u,H b=some (.eC o u)->H' b=some (.eC o u)
 jD:∀b ps,H b=some (.oh ps)->∃more,H' b=some (.oh (ps++more))
section
variable{fs se ex ex':List Addr}{H H1 H2:Hp}{h h1 h2 h':Heap}{a x e:Addr}{o:HO}
def Un.any(u:Un fs ex H H1 h h1){ob:Obj}(q:h.get? b=some ob)(n:H b=none)(hx:b∉ex):∃sl,h1.get? b=some { ob with slots:=sl }:=by
 by_cases hb:b∈fs
 .exact u.slot b ob q n hb hx
 .exact⟨ob.slots,u.keep b ob q n hb hx⟩
def Un.kept(k:∀b u,h.get? b=some u->h'.get? b=some u):Un fs ex H H h h':=
 ⟨λb ob q _ _ _=>k b ob q,λb ob q _ _ _=>⟨ob.slots,k b ob q⟩,λ_ _ _ n _=>n,λb ob q _=>⟨ob,k b ob q⟩,λ_ _ q=>q,λ_ _ _ q=>q,λ_ ps q=>⟨#[],by rw[q];simp⟩⟩
def Un.refl:Un fs ex H H h h:=Un.kept λ_ _ q=>q
def Un.laid(k:∀b u,h.get? b=some u->h'.get? b=some u)(hp:h.objs.size<=a)(hn:H a=none):Un fs ex H (upd H a o) h h' where
 keep:=λb u q _ _ _=>k b u q
 slot:=λb u q _ _ _=>⟨u.slots,k b u q⟩
 free:=λb u q n _=>by rw[ak (bV (gq (bx q) hp))];exact n
 there:=λb u q _=>⟨u,k b u q⟩
 fJ:=λb xs q=>by rw[ak (bh q hn)];exact q
 jb:=λb u xs q=>by rw[ak (bh q hn)];exact q
 jD:=λb ps q=>⟨#[],by rw[ak (bh q hn),q];simp⟩
def Un.write(mu:xI (H x))(he:e=x\/H e=some (.own x))(k:∀b u,b≠e->h.get? b=some u->h'.get? b=some u)(vn:∃u,h'.get? e=some u):Un fs ex H (upd H x o) h h':=by
 have hx:∀b,H b=none->b≠x:=λb n z=>by subst z;rw[n] at mu;exact mu
 have hb:∀b,H b=none->b≠e:=λb n z=>by
  subst z
  rcases he with r | r
  .exact hx b n r
  .rw[n] at r;cases r
 have hm:∀b u,H b=some u->¬xI (some u)->b≠x:=λb u q nm z=>by subst z;rw[q] at mu;exact nm mu
 refine⟨λb u q n _ _=>k b u (hb b n) q,λb u q n _ _=>⟨u.slots,k b u (hb b n) q⟩,λb u q n _=>by rw[ak (hx b n)];exact n,λb u q _=>?_,
  λb xs q=>by rw[ak (hm b _ q λz=>z)];exact q,λb u xs q=>by rw[ak (hm b _ q λz=>z)];exact q,λb ps q=>⟨#[],by rw[ak (hm b _ q λz=>z),q];simp⟩⟩
 by_cases jC:b=e
 .subst jC;exact vn
 .exact⟨u,k b u jC q⟩
end
noncomputable def Bf(h:Heap)(H:Hp):List Addr:=(List.range h.objs.size).filter λa=>(H a).isSome
noncomputable def oi(h:Heap)(H:Hp):Heap:=PySem.W.hideAll h (Bf h H)
def Uh(h:Heap)(H:Hp):(oi h H).objs.size=h.objs.size:=PySem.W.hideAll_size _ _
def Ui(e:h.get? b=some o)(n:H b=none):(oi h H).get? b=some o:=
 PySem.W.hideAll_get _ e λhm=>by
  have q:(H b).isSome=true:=(da.mp hm).2
  rw[n] at q;simp at q
def Uj(e:(oi h H).get? b=some o):h.get? b=some o/\H b=none:=by
 have e':h.get? b=some o:=PySem.W.of_hideAll (Bf h H) e
 refine⟨e',?_⟩
 cases q:H b with
 |none=>rfl
 |some x=>
  have hm:b∈Bf h H:=da.mpr ⟨ic.mpr (bx e'),by simp[q]⟩
  have z:(oi h H).get? b=none:=PySem.W.hideAll_none (Bf h H) hm
  rw[z] at e;cases e
structure Mod(K:Frag)(mg:Str->Option Value)(base:Heap):Prop where
 lD:K.In base
 glob:base.Ns mainGlobals mg
 blt:∃mb,base.Ns builtinsNs mb/\∀x:Str,x≠"__name__"->mb x=bootBuiltins x
 nolimit:base.NoLimit
structure Cx where
 prog:Program
 w:World
 K:Frag
 mg:Str->Option Value
 base:Heap
 A:Around
 N:List Str
 s₀:Shared
 H₀:Hp
 env:Env
 outer:List Env
 stack:List Env
 ex:List Addr
 fn:Str->Bool
 calm:Bool
 pn:List (Addr×Obj)
 xe:Value->Shared->Prop
noncomputable def fV(l:List Env):List Addr:=l.filterMap (·.frame)
noncomputable abbrev Cx.fs(X:Cx):List Addr:=fV X.outer
def E9(sc:Scope)(x:Str):Prop:=sc.names.lookup x=some .local\/sc.names.lookup x=some .cell\/sc.names.lookup x=some .free
def Loc(sc:Scope)(x:Str):Prop:=sc.names.lookup x=some .local\/sc.names.lookup x=some .cell
def Look(env:Env)(h:Heap)(m:Str->Option Value)(x:Str)(u:Value):Prop:=
 (env.kindOf x=some .local/\m x=some u)\/((env.kindOf x=some .cell\/env.kindOf x=some .free)/\∃c,env.cells.lookup x=some c/\h.IsCell c (some u))
structure Cx.Ok(X:Cx):Prop where
 mod:Mod X.K X.mg X.base
 kind:X.env.scope.kind = .function
 glob:X.env.globals=mainGlobals
 blt:X.env.builtins=builtinsNs
 above:X.s₀.heap.objs.size<=X.env.locals
 inj:∀x y c,X.env.cells.lookup x=some c->X.env.cells.lookup y=some c->x=y
 has:∀x,(X.env.kindOf x=some .cell\/X.env.kindOf x=some .free)->∃c,X.env.cells.lookup x=some c
 qk:∀x c,X.fn x=true->X.env.cells.lookup x=some c->X.s₀.heap.objs.size<=c
 hd:X.calm=true->X.A.handled=none
 frames:X.A.frames=some X.stack
 sf:X.stack=X.outer\/(X.stack=X.env::X.outer/\X.env.frame=some X.env.locals)
 xJ:∀b∈X.ex,b≠X.env.locals/\∀x c,X.env.cells.lookup x=some c->c≠b
 bs:∀b o,X.base.get? b=some o->X.s₀.heap.get? b=some o/\X.H₀ b=none
 j7:X.base.objs.size<=X.s₀.heap.objs.size
 mW:∀b o,X.base.get? b=some o->b∉X.ex
 si:∀b∈X.ex,b∉X.fs
 ip:X.s₀.heap.FunFrames X.base X.outer
 lE:∀b∈X.fs,X.H₀ b=none
structure Inv(X:Cx)(pins:List (Addr×Obj))(O:List (Option V))(H:Hp)(s:Shared):Prop where
 ok:X.Ok
 os:s.os=X.s₀.os
 bare:AllBare s.gens
 base:Un X.fs X.ex X.H₀ H X.s₀.heap s.heap
 loc:∃m,s.heap.Ns X.env.locals m/\∀(i:Nat) (x:Str) (v:V),X.N[i]? = some x->O[i]? = some (some v)->E9 X.env.scope x->∃u,RelV v u/\Look X.env s.heap m x u
 cell:∀x c,X.env.cells.lookup x=some c->∃v,s.heap.IsCell c v
 free:H X.env.locals=none
 dm:∀x c,X.env.cells.lookup x=some c->H c=none
 pin:∀p∈X.pn++pins,s.heap.get? p.1=some p.2/\H p.1=none/\p.1≠X.env.locals/\p.1∉X.fs/\∀v,p.2.data ≠ .cell v
 ar:dB X.prog X.w H s.heap
 len:O.length=X.N.length
section
variable{X:Cx}{pins:List (Addr×Obj)}{O:List (Option V)}{H H':Hp}{s:Shared}{h':Heap}
def Cx.Ok.Uk(ok:X.Ok)(e:X.base.get? b=some o):b∉X.fs:=λhb=>by
 have:=(ok.ip.mem hb).1
 rw[e] at this;cases this
theorem Inv.bs(I:Inv X pins O H s):∀b o,X.base.get? b=some o->s.heap.get? b=some o/\H b=none:=λb o e=>
 ⟨I.base.keep b o (I.ok.bs b o e).1 (I.ok.bs b o e).2 (I.ok.Uk e) (I.ok.mW b o e),I.base.free b o (I.ok.bs b o e).1 (I.ok.bs b o e).2 (I.ok.mW b o e)⟩
def Inv.bk(I:Inv X pins O H s):∀b o,X.base.get? b=some o->s.heap.get? b=some o:=λb o e=>(I.bs b o e).1
theorem Inv.mod(I:Inv X pins O H s):Mod X.K X.mg X.base:=I.ok.mod
def Inv.bN(I:Inv X pins O H s):X.K.In s.heap:=I.ok.mod.lD.keeps I.bk
theorem Inv.lt(I:Inv X pins O H s):X.env.locals<s.heap.objs.size:=let ⟨_,hn,_⟩:=I.loc;hn.lt
def Inv.sz(I:Inv X pins O H s):X.s₀.heap.objs.size<=s.heap.objs.size:=bL I.ok.above (AO I.lt)
def Inv.Ul(I:Inv X pins O H s)(h:s.heap.objs.size<=a):a∉X.fs:=λhb=>by
 obtain⟨_,o,ho,_⟩:=I.ok.ip.mem hb
 exact absurd (gq (bx ho) (bL I.sz h)) (qb _)
def Inv.qm(I:Inv X pins O H s):∀x c,X.env.cells.lookup x=some c->c≠X.env.locals:=λx c e z=>by
 obtain⟨v,o,ho,hd⟩:=I.cell x c e
 obtain⟨m,⟨o',es,ep,lF,vo,_⟩,_⟩:=I.loc
 rw[z,lF] at ho;cases ho;rw[vo] at hd;cases hd
theorem Inv.ip(I:Inv X pins O H s):s.heap.FunFrames X.base X.outer:=by
 have all:∀(l:List Env),(∀b∈fV l,b∈X.fs)->X.s₀.heap.FunFrames X.base l->s.heap.FunFrames X.base l:=by
  intro l
  induction l with
  |nil=>intro _ _;trivial
  |cons env r ih=>
   intro hs hl
   obtain⟨hk,⟨L,o,hf,hn,ho,hd⟩,hr⟩:=hl
   have hL:L∈X.fs:=hs L (by unfold fV;rw[List.filterMap_cons,hf];exact bK)
   obtain⟨sl,e⟩:=I.base.slot L o ho (I.ok.lE L hL) hL λz=>I.ok.si L z hL
   exact⟨hk,⟨L,_,hf,hn,e,hd⟩,ih (λb hb=>hs b (by unfold fV;rw[List.filterMap_cons,hf];exact cW _ hb)) hr⟩
 exact all X.outer (λ_ hb=>hb) I.ok.ip
theorem Inv.stack(I:Inv X pins O H s):s.heap.FunFrames X.base X.stack:=by
 rcases I.ok.sf with e | ⟨e,hf⟩
 .rw[e];exact I.ip
 .rw[e]
  obtain⟨m,hn,_⟩:=I.loc
  refine .cons (by rw[I.ok.kind];decide) hf hn ?_ I.ip
  exact Heap.get?_none_of_le (bL I.ok.j7 I.ok.above)
def Inv.xK(I:Inv X pins O H s):∀b∈fV X.stack,b∈X.env.locals::X.fs:=λb hb=>by
 rcases I.ok.sf with e | ⟨e,hf⟩
 .rw[e] at hb;exact cW _ hb
 .rw[e] at hb
  unfold fV at hb
  rw[List.filterMap_cons,hf] at hb
  exact hb
def Inv.Bg(I:Inv X pins O H s):∀b∈fV X.stack,H b=none:=λb hb=>by
 rcases cx.mp (I.xK b hb) with e | hb
 .rw[e];exact I.free
 .obtain⟨_,o,ho,_⟩:=I.ok.ip.mem hb
  exact I.base.free b o ho (I.ok.lE b hb) λz=>I.ok.si b z hb
def Inv.step(I:Inv X pins O H s)
  (hch:∀b∈ch,(b∈X.ex\/X.s₀.heap.objs.size<=b)/\b≠X.env.locals/\(∀x c,X.env.cells.lookup x=some c->c≠b)/\∀p∈X.pn++pins,p.1≠b)
  (keep:∀b o,b≠X.env.locals->b∉X.fs->b∉ch->s.heap.get? b=some o->H b=none->h'.get? b=some o)
  (slot:∀b o,b≠X.env.locals->b∈X.fs->b∉ch->s.heap.get? b=some o->H b=none->∃sl,h'.get? b=some { o with slots:=sl }) (free:∀b o,b∉ch->s.heap.get? b=some o->H b=none->H' b=none)
  (there:∀b o,b∉ch->s.heap.get? b=some o->∃o',h'.get? b=some o')
  (fJ:∀b xs,H b=some (.tup xs)->H' b=some (.tup xs)) (jb:∀b o u,H b=some (.eC o u)->H' b=some (.eC o u)) (jD:∀b ps,H b=some (.oh ps)->∃more,H' b=some (.oh (ps++more)))
  (ns:∀m,s.heap.Ns X.env.locals m->h'.Ns X.env.locals m) (ar:dB X.prog X.w H' h') (hg:AllBare g') :
  Inv X pins O H' { s with heap:=h',gens:=g',drawn:=d',toks:=t' }:=by
 have LS:∀b o,X.s₀.heap.get? b=some o->b≠X.env.locals:=λb o e=>bV (gq (bx e) I.ok.above)
 have Bh:∀b o,X.s₀.heap.get? b=some o->b∉X.ex->b∉ch:=λb o e hx hb=>by
  rcases(hch b hb).1 with z | z
  .exact hx z
  .exact absurd (gq (bx e) z) (qb _)
 have cellK:∀x c,X.env.cells.lookup x=some c->∀v,s.heap.IsCell c v->h'.IsCell c v:=λx c e v ⟨o,ho,hd⟩=>by
  have xM:c∉ch:=λz=>(hch c z).2.2.1 x c e rfl
  by_cases hc:c∈X.fs
  .obtain⟨sl,q⟩:=slot c o (I.qm x c e) hc xM ho (I.dm x c e)
   exact⟨_,q,hd⟩
  .exact⟨o,keep c o (I.qm x c e) hc xM ho (I.dm x c e),hd⟩
 refine⟨I.ok,I.os,hg,⟨λb o e n hb hx=>?_,λb o e n hb hx=>?_,λb o e n hx=>?_,λb o e hx=>?_,λb xs e=>fJ b xs (I.base.fJ b xs e),λb o xs e=>jb b o xs (I.base.jb b o xs e),λb ps e=>?_⟩,?_,λx c e=>?_,?_,λx c e=>?_,λp hp=>?_,ar,I.len⟩
 .exact keep b o (LS b o e) hb (Bh b o e hx) (I.base.keep b o e n hb hx) (I.base.free b o e n hx)
 .obtain⟨sl,e1⟩:=I.base.slot b o e n hb hx
  obtain⟨sj,e2⟩:=slot b _ (LS b o e) hb (Bh b o e hx) e1 (I.base.free b o e n hx)
  exact⟨sj,e2⟩
 .obtain⟨o',e1⟩:=I.base.there b o e hx
  exact free b o' (Bh b o e hx) e1 (I.base.free b o e n hx)
 .obtain⟨o',e1⟩:=I.base.there b o e hx
  exact there b o' (Bh b o e hx) e1
 .obtain⟨m1,e1⟩:=I.base.jD b ps e
  obtain⟨m2,e2⟩:=jD b _ e1
  exact⟨m1++m2,by rw[e2,Array.append_assoc]⟩
 .obtain⟨m,hn,hl⟩:=I.loc
  refine⟨m,ns m hn,λi x v e1 e2 e3=>?_⟩
  obtain⟨u,r,l⟩:=hl i x v e1 e2 e3
  refine⟨u,r,?_⟩
  rcases l with l | ⟨k,c,e,z⟩
  .exact .inl l
  .exact .inr ⟨k,c,e,cellK x c e _ z⟩
 .obtain⟨v,z⟩:=I.cell x c e
  exact⟨v,cellK x c e v z⟩
 .obtain⟨m,⟨o,_,_,ho,_⟩,_⟩:=I.loc
  exact free _ o (λz=>(hch _ z).2.1 rfl) ho I.free
 .obtain⟨v,o,ho,hd⟩:=I.cell x c e
  exact free c o (λz=>(hch c z).2.2.1 x c e rfl) ho (I.dm x c e)
 .obtain⟨e,n,ne,nf,d⟩:=I.pin p hp
  have xM:p.1∉ch:=λz=>(hch p.1 z).2.2.2 p hp rfl
  exact⟨keep p.1 p.2 ne nf xM e n,free p.1 p.2 xM e n,ne,nf,d⟩
def Inv.un(I:Inv X pins O H s)(u:Un X.fs [] H H' s.heap h')(ar:dB X.prog X.w H' h'):Inv X pins O H' { s with heap:=h',toks:=t' }:=by
 obtain⟨m,⟨o,es,ep,ho,r⟩,_⟩:=id I.loc
 obtain⟨sl,hL⟩:=u.any ho I.free (by simp)
 exact I.step (g':=s.gens) (d':=s.drawn) (ch:=[]) (λ_ z=>nomatch z) (λb o _ hb _ e n=>u.keep b o e n hb (by simp)) (λb o _ hb _ e n=>u.slot b o e n hb (by simp)) (λb o _ e n=>u.free b o e n (by simp)) (λb o _ e=>u.there b o e (by simp)) u.fJ u.jb u.jD (λm' hm=>by
  obtain⟨o',Fb,Fc,lF,r'⟩:=hm
  rw[ho] at lF;cases lF
  exact⟨_,Fb,Fc,hL,r'⟩) ar I.bare
def Inv.call(I:Inv X pins O H s)(u:Un (fV X.stack) ch H H' s.heap h')(ar:dB X.prog X.w H' h')(hg:AllBare g')
  (hch:∀b∈ch,(b∈X.ex\/X.s₀.heap.objs.size<=b)/\b≠X.env.locals/\(∀x c,X.env.cells.lookup x=some c->c≠b)/\∀p∈X.pn++pins,p.1≠b) :
  Inv X pins O H' { s with heap:=h',gens:=g',drawn:=d',toks:=t' }:=by
 obtain⟨m,⟨o,es,ep,ho,r⟩,_⟩:=id I.loc
 obtain⟨sl,hL⟩:=u.any ho I.free λz=>(hch _ z).2.1 rfl
 exact I.step (ch:=ch) hch (λb o hL hb hc e n=>u.keep b o e n (λz=>(cx.mp (I.xK b z)).elim hL hb) hc) (λb o _ _ hc e n=>u.any e n hc) (λb o hc e n=>u.free b o e n hc) (λb o hc e=>u.there b o e hc) u.fJ u.jb u.jD (λm' hm=>by
  obtain⟨o',Fb,Fc,lF,r'⟩:=hm
  rw[ho] at lF;cases lF
  exact⟨_,Fb,Fc,hL,r'⟩) ar hg
def Inv.turned(I:Inv X pins O H s)(k:∀b o,b≠it->s.heap.get? b=some o->h'.get? b=some o)(hn:H it=none)(hL:it≠X.env.locals)
  (h1:it∈X.ex\/X.s₀.heap.objs.size<=it) (h2:∀x c,X.env.cells.lookup x=some c->c≠it) (h3:∀p∈X.pn++pins,p.1≠it):Inv X pins O H { s with heap:=h',toks:=t' }:=by
 have LU:∀b u,H b=some u->b≠it:=λb u e z=>by rw[z,hn] at e;cases e
 refine I.step (g':=s.gens) (d':=s.drawn) (ch:=[it]) (λb hb=>?_) (λb o _ _ hc e _=>k b o (λz=>hc (by simp[z])) e) (λb o _ _ hc e _=>⟨o.slots,k b o (λz=>hc (by simp[z])) e⟩) (λ_ _ _ _ n=>n)
  (λb o hc e=>⟨o,k b o (λz=>hc (by simp[z])) e⟩) (λ_ _ e=>e) (λ_ _ _ e=>e) (λb ps e=>⟨#[],by rw[e];simp⟩) (λm hm=>?_) (λb u e=>?_) I.bare
 .have e:b=it:=by simpa using hb
  subst e
  exact⟨h1,hL,h2,h3⟩
 .obtain⟨o,es,ep,ho,r⟩:=hm
  exact⟨o,es,ep,k _ o (aP hL) ho,r⟩
 .refine(I.ar b u e).ja (λc v hc q=>k c v ?_ q) (λ_ q=>q) λ_ _ q=>q
  rcases hc with z | z
  .rw[z];exact LU b u e
  .exact LU c _ z
def Inv.tok(I:Inv X pins O H s)(t:Nat):Inv X pins O H { s with toks:=t }:=I.un (h':=s.heap) (t':=t) Un.refl I.ar
theorem Inv.kept{t':Nat}(I:Inv X pins O H s)(k:∀b u,s.heap.get? b=some u->h'.get? b=some u):Inv X pins O H { s with heap:=h',toks:=t' }:=I.un (Un.kept k) (I.ar.kept k)
theorem Inv.laid{a:Addr}{o:HO}{t':Nat}(I:Inv X pins O H s)(k:∀b u,s.heap.get? b=some u->h'.get? b=some u)(hp:s.heap.objs.size<=a)(new:dk X.prog X.w (upd H a o) h' a o) :
  Inv X pins O (upd H a o) { s with heap:=h',toks:=t' }:=I.un (Un.laid k hp (I.ar.fresh hp)) (I.ar.laid k hp new)
theorem Inv.write{x e:Addr}{o:HO}{t':Nat}(I:Inv X pins O H s)(mu:xI (H x))(he:e=x\/H e=some (.own x))(k:∀b u,b≠e->s.heap.get? b=some u->h'.get? b=some u)(vn:∃u,h'.get? e=some u)
  (new:dk X.prog X.w (upd H x o) h' x o):Inv X pins O (upd H x o) { s with heap:=h',toks:=t' }:=I.un (Un.write mu he k vn) (I.ar.write mu he k vn new)
def Inv.xN(I:Inv X pins O H s)(h:∀p∈vp,s.heap.get? p.1=some p.2/\H p.1=none/\p.1≠X.env.locals/\p.1∉X.fs/\∀v,p.2.data ≠ .cell v):Inv X vp O H s:=
 ⟨I.ok,I.os,I.bare,I.base,I.loc,I.cell,I.free,I.dm,λp hp=>(dR.mp hp).elim (λz=>I.pin p (j0 _ z)) (h p),I.ar,I.len⟩
def Fd(hN:N.Nodup)(a:N[i]? = some x)(b:N[j]? = some x):i=j:=by
 obtain⟨h1,e1⟩:=bR.mp a
 obtain⟨h2,e2⟩:=bR.mp b
 exact(List.getElem_inj hN).mp (e1.trans e2.symm)
def Um{Q:Unit->Shared->Prop}(I:Inv X pins O H s)(hN:X.N.Nodup)(hi:X.N[i]? = some x)(hx:Loc X.env.scope x)(r:RelV v u)
  (h:∀s',Inv X pins (O.set i (some v)) H s'->(∃a,Heap.SameBut a s.heap s'.heap/\(a=X.env.locals\/X.env.cells.lookup x=some a))->Q () s') (hf:X.fn x=true\/X.env.scope.names.lookup x=some .local:=by first | exact .inl rfl | exact .inr rfl | assumption):wpAny M A (storeName X.env x u) Q E s:=by
 obtain⟨m,hn,hl⟩:=id I.loc
 have Fe:(X.env.scope.kind == .class||(X.env.scope.kind == .module&&X.env.locals != X.env.globals))=false:=by rw[I.ok.kind];rfl
 have xO:i<O.length:=by rw[I.len];exact(bR.mp hi).1
 have qm:=I.qm
 have tracked:∀{a:Addr}{h':Heap},(∃o,s.heap.get? a=some o/\H a=none)->Heap.SameBut a s.heap h'->dB X.prog X.w H h':=λ{a h'} ha hs b ob e=>by
  obtain⟨_,_,LV⟩:=ha
  refine(I.ar b ob e).ja (λc w' hc q=>(hs.2 c ?_).trans q) (λ_ q=>q) λ_ _ q=>q
  rintro rfl
  rcases hc with rfl | hc
  .rw[LV] at e;cases e
  .rw[LV] at hc;cases hc
 rcases hx with hk | hk
 .refine wpAny_storeName_local hk hn (λh' Uo hs=>?_) Fe
  obtain⟨oL,_,_,xP,_⟩:=id hn
  refine h _ ⟨I.ok,I.os,I.bare,⟨λb o e n hb hx=>?_,λb o e n hb hx=>?_,I.base.free,λb o e hx=>?_,I.base.fJ,I.base.jb,I.base.jD⟩,⟨_,Uo,λj y v' e1 e2 e3=>?_⟩,λy c e=>?_,I.free,I.dm,λp hp=>?_,tracked ⟨oL,xP,I.free⟩ hs,by simpa using I.len⟩ ⟨_,hs,.inl rfl⟩
  .exact(hs.2 b (bV (gq (bx e) I.ok.above))).trans (I.base.keep b o e n hb hx)
  .obtain⟨sl,e1⟩:=I.base.slot b o e n hb hx
   exact⟨sl,(hs.2 b (bV (gq (bx e) I.ok.above))).trans e1⟩
  .obtain⟨o',e1⟩:=I.base.there b o e hx
   exact⟨o',(hs.2 b (bV (gq (bx e) I.ok.above))).trans e1⟩
  .by_cases hj:j=i
   .subst hj
    rw[hi] at e1;cases e1
    rw[rP xO] at e2
    cases e2
    exact⟨u,r,.inl ⟨hk,by simp⟩⟩
   .rw[uW (aP hj)] at e2
    obtain⟨u',r',q⟩:=hl j y v' e1 e2 e3
    refine⟨u',r',?_⟩
    rcases q with ⟨k,e⟩ | ⟨k,c,e,z⟩
    .refine .inl ⟨k,?_⟩
     have:y≠x:=λe=>hj (Fd hN e1 (e ▸ hi))
     simp[this,e]
    .exact .inr ⟨k,c,e,z.sameBut hs (qm y c e)⟩
  .obtain⟨w',z⟩:=I.cell y c e
   exact⟨w',z.sameBut hs (qm y c e)⟩
  .obtain⟨e,n,ne,nf,d⟩:=I.pin p hp
   exact⟨(hs.2 p.1 ne).trans e,n,ne,nf,d⟩
 .have Ff:X.fn x=true:=by
   rcases hf with z | z
   .exact z
   .rw[z] at hk;cases hk
  obtain⟨c,hc⟩:=I.ok.has x (.inl hk)
  obtain⟨w',z⟩:=I.cell x c hc
  refine wpAny_storeName_cell I.ok.kind hk hc z (λh' gU hs=>?_)
  obtain⟨oc,qo,Up⟩:=id z
  refine h { s with heap:=h' } ⟨I.ok,I.os,I.bare,⟨λb o e n hb hx=>?_,λb o e n hb hx=>?_,I.base.free,λb o e hx=>?_,I.base.fJ,I.base.jb,I.base.jD⟩,⟨m,hn.sameBut hs (aP (qm x c hc)),λj y v' e1 e2 e3=>?_⟩,λy c' e=>?_,I.free,I.dm,λp hp=>?_,tracked ⟨oc,qo,I.dm x c hc⟩ hs,by simpa using I.len⟩ ⟨c,hs,.inr hc⟩
  .exact(hs.2 b (bV (gq (bx e) (I.ok.qk x c Ff hc)))).trans (I.base.keep b o e n hb hx)
  .obtain⟨sl,e1⟩:=I.base.slot b o e n hb hx
   exact⟨sl,(hs.2 b (bV (gq (bx e) (I.ok.qk x c Ff hc)))).trans e1⟩
  .obtain⟨o',e1⟩:=I.base.there b o e hx
   exact⟨o',(hs.2 b (bV (gq (bx e) (I.ok.qk x c Ff hc)))).trans e1⟩
  .by_cases hj:j=i
   .subst hj
    rw[hi] at e1;cases e1
    rw[rP xO] at e2
    cases e2
    exact⟨u,r,.inr ⟨.inl hk,c,hc,gU⟩⟩
   .rw[uW (aP hj)] at e2
    obtain⟨u',r',q⟩:=hl j y v' e1 e2 e3
    refine⟨u',r',?_⟩
    rcases q with q | ⟨k,c',e,z'⟩
    .exact .inl q
    .refine .inr ⟨k,c',e,z'.sameBut hs ?_⟩
     rintro rfl
     exact hj (Fd hN e1 (I.ok.inj _ _ _ e hc ▸ hi))
  .by_cases hcc:c'=c
   .subst hcc;exact⟨_,gU⟩
   .obtain⟨w2,z2⟩:=I.cell y c' e
    exact⟨w2,z2.sameBut hs hcc⟩
  .obtain⟨e,n,ne,nf,d⟩:=I.pin p hp
   refine⟨(hs.2 p.1 ?_).trans e,n,ne,nf,d⟩
   intro q
   rw[q,qo] at e
   have q':oc=p.2:=dh e
   exact d w' (by rw[<-q'];exact Up)
def xQ{Q:Unit->Shared->Prop}(I:Inv X pins O H s)(hN:X.N.Nodup)(hi:X.N[i]? = some x)(hx:Loc X.env.scope x)(r:RelV v u)
  (h:∀s',Inv X pins (O.set i (some v)) H s'->Q () s') (hf:X.fn x=true\/X.env.scope.names.lookup x=some .local:=by first | exact .inl rfl | exact .inr rfl | assumption):wpAny M A (storeName X.env x u) Q E s:=
 Um I hN hi hx r (λs' I' _=>h s' I') hf
def Inv.vq(I:Inv X pins O H s)(ho:s'.os=s.os)(u:Un (fV X.stack) ch H H' s.heap s'.heap)(ar:dB X.prog X.w H' s'.heap)(hg:AllBare s'.gens)
  (hch:∀b∈ch,(b∈X.ex\/X.s₀.heap.objs.size<=b)/\b≠X.env.locals/\(∀x c,X.env.cells.lookup x=some c->c≠b)/\∀p∈X.pn++pins,p.1≠b):Inv X pins O H' s':=by
 obtain⟨h',g',d',t',o'⟩:=s'
 have e:o'=s.os:=ho
 subst e
 exact I.call (g':=g') (t':=t') (d':=d') u ar hg hch
end
abbrev XK:=Value->Option Addr->Hp->Prop
abbrev St:=List (Option V)
abbrev VK:=V->Hp->Prop
abbrev TE:=St->Hp->VK->Prop
abbrev TT:=St->Hp->(Bool->Hp->Prop)->Prop
abbrev TA:=St->Hp->(List V->Hp->Prop)->Prop
structure Ends where
 nx:St->Hp->Prop
 rt:VK
 bk:St->Hp->Prop:=λ_ _=>False
 ct:St->Hp->Prop:=λ_ _=>False
abbrev TS:=Ends->St->Hp->Prop
def EP(X:Cx)(pins:List (Addr×Obj))(O:St)(Q:VK)(u:Value)(s':Shared):Prop := ∃v H',Inv X pins O H' s'/\RelV v u/\Q v H'
def TP(X:Cx)(pins:List (Addr×Obj))(O:St)(Q:Bool->Hp->Prop)(b:Bool)(s':Shared):Prop := ∃H',Inv X pins O H' s'/\Q b H'
def AP(X:Cx)(pins:List (Addr×Obj))(O:St)(Q:List V->Hp->Prop)(us:List Value)(s':Shared):Prop := ∃vs H',Inv X pins O H' s'/\Vals vs us/\Q vs H'
def SP(X:Cx)(pins:List (Addr×Obj))(D:Ends)(f:Flow)(s':Shared):Prop:=
 match f with
 |.next=>∃O' H',Inv X pins O' H' s'/\D.nx O' H'
 |.brk=>∃O' H',Inv X pins O' H' s'/\D.bk O' H'
 |.cont=>∃O' H',Inv X pins O' H' s'/\D.ct O' H'
 |.ret u=>∃v O' H',Inv X pins O' H' s'/\RelV v u/\D.rt v H'
def PE(X:Cx)(e:Expr)(t:TE):Prop:=
 ∀(pins:List (Addr×Obj)) (s:Shared) (O:St) (H:Hp) (Q:VK),Inv X pins O H s->t O H Q->wpAny (model X.prog X.w) X.A (eval e X.env) (EP X pins O Q) X.xe s
def PT(X:Cx)(e:Expr)(t:TT):Prop:=
 ∀(pins:List (Addr×Obj)) (s:Shared) (O:St) (H:Hp) (Q:Bool->Hp->Prop),Inv X pins O H s->t O H Q->wpAny (model X.prog X.w) X.A (isTrue e X.env (eval e X.env)) (TP X pins O Q) X.xe s
def PW(X:Cx)(e:Expr)(t:TT):Prop:=
 ∀(whole:Sem Value) (pins:List (Addr×Obj)) (s:Shared) (O:St) (H:Hp) (Q:Bool->Hp->Prop),Inv X pins O H s->t O H Q->wpAny (model X.prog X.w) X.A (isTrue e X.env whole) (TP X pins O Q) X.xe s
def PW.pt{t:TT}(h:PW X e t):PT X e t:=h _
def PA(X:Cx)(es:List Expr)(t:TA):Prop:=
 ∀(pos:Pos) (pins:List (Addr×Obj)) (s:Shared) (O:St) (H:Hp) (Q:List V->Hp->Prop),Inv X pins O H s->t O H Q->wpAny (model X.prog X.w) X.A (spliced (backTo pos (starEach es X.env))) (AP X pins O Q) X.xe s
def PS(X:Cx)(st:Stmt)(t:TS):Prop:=
 ∀(pins:List (Addr×Obj)) (s:Shared) (O:St) (H:Hp) (D:Ends),Inv X pins O H s->t D O H->wpAny (model X.prog X.w) X.A (exec st X.env) (SP X pins D) X.xe s
def eU(X:Cx)(st:List Stmt)(t:TS):Prop:=
 ∀(pins:List (Addr×Obj)) (s:Shared) (O:St) (H:Hp) (D:Ends),Inv X pins O H s->t D O H->wpAny (model X.prog X.w) X.A (execs st X.env) (SP X pins D) X.xe s
def aD{t:Sem α}{Q Q':α->Shared->Prop}(h:wpAny M A t Q E s)(hQ:∀a s,Q a s->Q' a s):wpAny M A t Q' E s:=fC h hQ λ_ _ x=>x
section
variable{X:Cx}
def vt(i:Nat):TE:=λO H Q=>∃v,O[i]? = some (some v)/\Q v H
def tC(v:V):TE:=λ_ H Q=>Q v H
def Uq(hN:X.N[i]? = some x)(hv:E9 X.env.scope x)(hd:(x==("__debug__":Str))=false:=by decide)(gu:(x==("__classdict__":Str))=false:=by decide):PE X (.Name x pos) (vt i):=by
 intro pins s O H Q I h
 obtain⟨v,e,h⟩:=h
 obtain⟨m,hn,hl⟩:=I.loc
 obtain⟨u,r,l⟩:=hl i x v hN e hv
 have fin:EP X pins O Q u s:=⟨v,H,I,r,h⟩
 rcases l with ⟨hk,hm⟩ | ⟨hk,c,hc,LW⟩
 .exact wpAny_Name (wpAny_loadName_local I.ok.kind hk hn hm fin) hd
 .rcases hk with hk | hk
  .exact wpAny_Name (wpAny_loadName_cell I.ok.kind hk hc LW fin) hd
  .exact wpAny_Name (wpAny_loadName_free I.ok.kind hk hc LW fin gu) hd
def aI{i j pos}:PE X (.Constant (.int i) j pos) (tC (.int i)):=λ_ _ _ H _ I h=>wpAny_Constant_int ⟨.int i,H,I.tok _,⟨_,rfl⟩,h⟩
def jc{b j pos}:PE X (.Constant (.bool b) j pos) (tC (.bl b)):=λ_ _ _ H _ I h=>Constant_bool ⟨.bl b,H,I,rfl,h⟩
def gv{j pos}:PE X (.Constant .none j pos) (tC .aw):=λ_ _ _ H _ I h=>Constant_none ⟨.aw,H,I,rfl,h⟩
def fW{x j pos}:PE X (.Constant (.str x) j pos) (tC (.str x)):=λ_ _ _ H _ I h=>Calls.Constant_str ⟨.str x,H,I.tok _,⟨_,rfl⟩,h⟩
def Gl(X:Cx)(x:Str):Prop:=X.env.kindOf x=some .globalImplicit
def lG(I:Inv X pins O H s)(hg:Gl X x)(hm:X.mg x=some u)(h:Q u s)
  (hd:(x==("__debug__":Str))=false:=by decide):wpAny (model X.prog X.w) X.A (eval (.Name x pos) X.env) Q E s:=
 Calls.Name_function_global I.ok.kind hg (Calls.loadGlobal_global (by rw[I.ok.glob];exact I.mod.glob.keeps I.bk) hm h) hd
def qr(I:Inv X pins O H s)(hg:Gl X x)(hm:X.mg x=none)(hv:bootBuiltins x=some u)(h:Q u s)
  (hn:x≠"__name__":=by decide) (hd:(x==("__debug__":Str))=false:=by decide):wpAny (model X.prog X.w) X.A (eval (.Name x pos) X.env) Q E s:=by
 obtain⟨mb,h1,h2⟩:=I.mod.blt
 exact Calls.Name_function_global I.ok.kind hg (Calls.loadGlobal_builtin (by rw[I.ok.glob];exact I.mod.glob.keeps I.bk) hm (by rw[I.ok.blt];exact h1.keeps I.bk) ((h2 x hn).trans hv) h) hd
def Ur(hg:Gl X x)(hm:X.mg x=some u)(r:RelV v u)(hd:(x==("__debug__":Str))=false:=by decide):PE X (.Name x pos) (tC v):=
 λ_ _ _ H _ I h=>lG I hg hm ⟨v,H,I,r,h⟩ hd
def Fg(hg:Gl X x)(hm:X.mg x=none)(hv:bootBuiltins x=some u)(r:RelV v u)(hn:x≠"__name__":=by decide)(hd:(x==("__debug__":Str))=false:=by decide):PE X (.Name x pos) (tC v):=
 λ_ _ _ H _ I h=>qr I hg hm hv ⟨v,H,I,r,h⟩ hn hd
variable{a b:Expr}{ta tb:TE}{pos:Pos}
def PC(X:Cx)(op:CmpOp)(a b:Expr)(t:TE):Prop:=
 ∀(pins:List (Addr×Obj)) (s:Shared) (O:St) (H:Hp) (Q:VK),Inv X pins O H s->t O H Q->
  wpAny (model X.prog X.w) X.A (eval a X.env) (λv s₁=>wpAny (model X.prog X.w) X.A (eval b X.env) (λu s₂=>wpAny (model X.prog X.w) X.A (compareOp op v u) (EP X pins O Q) X.xe s₂) X.xe s₁) X.xe s
def tB(t:TE):TT:=λO H Q=>t O H λx H1=>∃c,x = .bl c/\Q c H1
def Us{op:CmpOp}{t:TE}(h:PC X op a b t)(h1:behindInMarks op b=false:=by first | exact Ut _ (by decide) (by decide) | rfl):PE X (.Compare a [op] [b] pos) t:=λpins s O H Q I hw=>wpAny_Compare1 (h pins s O H Q I hw) h1
def xR{op:CmpOp}{t:TE}(h:PC X op a b t)(h1:behindInMarks op b=false:=by first | exact Ut _ (by decide) (by decide) | rfl):PT X (.Compare a [op] [b] pos) (tB t):=by
 intro pins s O H Q I hw
 refine wpAny_isTrue_Compare1 (aD (h pins s O H _ I hw) λv s1 h1=>aD h1 λu s2 h2=>aD h2 λc s3 ⟨x,H1,I1,r1,q1⟩=>?_) h1
 obtain⟨d,rfl,q⟩:=q1
 cases r1
 exact qf ⟨H1,I1,q⟩
def jE{t:TE}(h:PE X e t)(he:∀whole,isTrue e X.env whole=(do let v<-whole;standAt e.pos;holding [v] (truthy v)):=by intro _;rfl):PT X e (tB t):=by
 intro pins s O H Q I hw
 refine isTrue_plain (aD (h pins s O H _ I hw) λv s1 ⟨x,H1,I1,r1,q1⟩=>?_) (he _)
 obtain⟨d,rfl,q⟩:=q1
 cases r1
 exact qf ⟨H1,I1,q⟩
variable{tA Bi:TT}{rest:List Expr}
def Fh(t u:TT):TT:=λO H Q=>t O H λc H1=>if c=true then u O H1 Q else Q false H1
def Uu(t u:TT):TT:=λO H Q=>t O H λc H1=>if c=true then Q true H1 else u O H1 Q
def Uv(t:TT):TT:=λO H Q=>t O H λc H1=>Q (!c) H1
def Fi(ha:PT X a tA):PW X (.BoolOp .And [a] pos) tA:=by
 intro wh pins s O H Q I h
 refine isTrue_and (aD (ha pins s O H Q I h) λc s1 e=>?_)
 cases c with
 |true=>exact isTrue_and_nil e
 |false=>exact e
def sk(ha:PT X a tA):PW X (.BoolOp .Or [a] pos) tA:=by
 intro wh pins s O H Q I h
 refine isTrue_or (aD (ha pins s O H Q I h) λc s1 e=>?_)
 cases c with
 |false=>exact isTrue_or_nil e
 |true=>exact e
def xS(ha:PT X a tA)(hb:PW X (.BoolOp .And (b::rest) pos) Bi):PW X (.BoolOp .And (a::b::rest) pos) (Fh tA Bi):=by
 intro wh pins s O H Q I h
 refine isTrue_and (aD (ha pins s O H _ I h) λc s1 ⟨H1,I1,q1⟩=>?_)
 cases c with
 |true=>exact hb wh pins s1 O H1 Q I1 q1
 |false=>exact⟨H1,I1,q1⟩
def qt(ha:PT X a tA)(hb:PW X (.BoolOp .Or (b::rest) pos) Bi):PW X (.BoolOp .Or (a::b::rest) pos) (Uu tA Bi):=by
 intro wh pins s O H Q I h
 refine isTrue_or (aD (ha pins s O H _ I h) λc s1 ⟨H1,I1,q1⟩=>?_)
 cases c with
 |true=>exact⟨H1,I1,q1⟩
 |false=>exact hb wh pins s1 O H1 Q I1 q1
def j8(ha:PT X a tA):PT X (.UnaryOp .Not a pos) (Uv tA):=by
 intro pins s O H Q I h
 exact isTrue_not (ha pins s O H (λc H1=>Q (!c) H1) I h)
def Uw(ta tb:TE):TE:=λO H Q=>ta O H λx H1=>∃c,x = .bl c/\if c=true then tb O H1 Q else Q (.bl false) H1
def Fj{op}{t:TE}(h:PE X a t):PE X (.BoolOp op [a] pos) t:=λpins s O H Q I hw=>BoolOp_one (h pins s O H Q I hw)
def Bj(ha:PE X a ta)(hb:PE X (.BoolOp .And (b::rest) pos) tb):PE X (.BoolOp .And (a::b::rest) pos) (Uw ta tb):=by
 intro pins s O H Q I h
 refine BoolOp_and (aD (ha pins s O H _ I h) λv s1 ⟨x,H1,I1,r1,q1⟩=>?_)
 obtain⟨c,rfl,q1⟩:=q1
 cases r1
 refine qf ?_
 cases c with
 |true=>exact hb pins s1 O H1 Q I1 q1
 |false=>exact⟨.bl false,H1,I1,rfl,q1⟩
def Ux(t:TT)(ta tb:TE):TE:=λO H Q=>t O H λc H1=>if c=true then ta O H1 Q else tb O H1 Q
def Uy(hc:PT X c tA)(ha:PE X a ta)(hb:PE X b tb):PE X (.IfExp c a b pos) (Ux tA ta tb):=by
 intro pins s O H Q I h
 refine wpAny_IfExp (aD (hc pins s O H _ I h) λd s1 ⟨H1,I1,q1⟩=>?_)
 cases d with
 |true=>exact ha pins s1 O H1 Q I1 q1
 |false=>exact hb pins s1 O H1 Q I1 q1
end
def aq(K:Frag)(H:Hp)(a:Addr)(xs:List V):Prop:=
 Rd H a (.lst xs)\/
  ∃(o:Obj) (its:Array Value) (n:Nat),K.lookup a=some o/\o.cls = .type "list"/\o.dict=none/\o.data = .seq its n/\its.size<=sizeLine/\Vals xs its.toList
def aA(K:Frag)(H:Hp)(a:Addr)(xs:List V):Prop:=
 Rd H a (.tup xs)\/
  ∃(o:Obj) (its:Array Value) (n:Nat),K.lookup a=some o/\o.cls = .type "tuple"/\o.data = .seq its n/\its.size<=sizeLine/\Vals xs its.toList
noncomputable def Uz:Value->Option V
 |.none=>some .aw
 |.bool b=>some (.bl b)
 |.int i _=>some (.int i)
 |.str x _=>some (.str x)
 |.bytes b _=>some (.i9 b)
 |.float b _=>some (.r9 b)
 |.ref a=>some (.ref a)
 |.type n=>some (.ty n)
 |_=>none
def RelV.abs{x:V}(r:RelV x u):Uz u=some x:=by
 cases x with
 |aw=>cases r;rfl
 |bl _=>cases r;rfl
 |int _=>obtain⟨t,rfl⟩:=r;rfl
 |str _=>obtain⟨t,rfl⟩:=r;rfl
 |i9 _=>obtain⟨t,rfl⟩:=r;rfl
 |r9 _=>obtain⟨t,rfl⟩:=r;rfl
 |ref _=>cases r;rfl
 |ty _=>cases r;rfl
def RelV.inj{x:V}(r:RelV x u)(q:RelV y u):x=y:=dh (r.abs.symm.trans q.abs)
theorem Vals.inj:∀{xs ys:List V}{us:List Value},Vals xs us->Vals ys us->xs=ys
 |_,_,_,.nil,.nil=>rfl
 |_,_,_,.cons r t,.cons r' t'=>by rw[r.inj r',Vals.inj t t']
section
variable{X:Cx}{pins:List (Addr×Obj)}{O:St}{H:Hp}{s:Shared}{a:Addr}{xs ys:List V}
def aq.of(h:H a=some (.lst xs)):aq K H a xs := .inl (.inl h)
def aA.of(h:H a=some (.tup xs)):aA K H a xs := .inl (.inl h)
theorem Inv.list(I:Inv X pins O H s)(h:aq X.K H a xs):∃its:List Value,Vals xs its/\PlainL s.heap a its.toArray/\xs.length<=sizeLine:=by
 rcases h with h | ⟨o,its,n,hk,hc,hd,hs,hz,r⟩
 .obtain⟨z,its,n,r,e⟩:=h.ok I.ar
  exact⟨its,r,⟨_,n,e,rfl,rfl,rfl⟩,z⟩
 .refine⟨its.toList,r,⟨o,n,I.bN a o hk,hc,hd,by simpa using hs⟩,?_⟩
  have e:=r.length
  simp only[uX] at e
  lia
theorem Inv.tuple(I:Inv X pins O H s)(h:aA X.K H a xs):∃its:List Value,Vals xs its/\IsTup s.heap a its.toArray/\xs.length<=sizeLine:=by
 rcases h with h | ⟨o,its,n,hk,hc,hs,hz,r⟩
 .obtain⟨z,its,r,p⟩:=h.ok I.ar
  exact⟨its,r,p,z⟩
 .refine⟨its.toList,r,⟨o,I.bN a o hk,hc,n,by simpa using hs⟩,?_⟩
  have e:=r.length
  simp only[uX] at e
  lia
def Inv.Fl(I:Inv X pins O H s)(h:aq X.K H a xs)(h':aq X.K H a ys):xs=ys:=by
 obtain⟨its,r,⟨o,n,e,_,_,d⟩,_⟩:=I.list h
 obtain⟨cG,r',⟨o',n',e',_,_,d'⟩,_⟩:=I.list h'
 rw[e] at e';cases e'
 rw[d] at d'
 injection d' with d1 _
 have:its=cG:=by simpa using eX Array.toList d1
 subst this
 exact r.inj r'
def Inv.Fp(I:Inv X pins O H s)(h:aA X.K H a xs)(h':aA X.K H a ys):xs=ys:=by
 obtain⟨its,r,⟨o,e,_,n,d⟩,_⟩:=I.tuple h
 obtain⟨cG,r',⟨o',e',_,n',d'⟩,_⟩:=I.tuple h'
 rw[e] at e';cases e'
 rw[d] at d'
 injection d' with d1 _
 have:its=cG:=by simpa using eX Array.toList d1
 subst this
 exact r.inj r'
end
noncomputable abbrev Cx.cj(X:Cx)(E:Value->Shared->Prop):Cx:={ X with xe:=E }
noncomputable abbrev Cx.so(X:Cx):Cx:=X.cj λ_ _=>False
theorem Cx.Ok.cj(ok:X.Ok)(E:Value->Shared->Prop):(X.cj E).Ok:=
 ⟨ok.mod,ok.kind,ok.glob,ok.blt,ok.above,ok.inj,ok.has,ok.qk,ok.hd,ok.frames,ok.sf,ok.xJ,ok.bs,ok.j7,ok.mW,ok.si,ok.ip,ok.lE⟩
def Cx.Ok.gw(ok:(X.cj E).Ok):X.Ok:=
 ⟨ok.mod,ok.kind,ok.glob,ok.blt,ok.above,ok.inj,ok.has,ok.qk,ok.hd,ok.frames,ok.sf,ok.xJ,ok.bs,ok.j7,ok.mW,ok.si,ok.ip,ok.lE⟩
section
variable{X:Cx}{pins:List (Addr×Obj)}{O:St}{H:Hp}{s:Shared}{E:Value->Shared->Prop}
theorem Inv.cj(I:Inv X pins O H s)(E:Value->Shared->Prop):Inv (X.cj E) pins O H s:=⟨I.ok.cj E,I.os,I.bare,I.base,I.loc,I.cell,I.free,I.dm,I.pin,I.ar,I.len⟩
theorem Inv.gw(I:Inv (X.cj E) pins O H s):Inv X pins O H s:=⟨I.ok.gw,I.os,I.bare,I.base,I.loc,I.cell,I.free,I.dm,I.pin,I.ar,I.len⟩
theorem SP.gw{D:Ends}{f:Flow}{s':Shared}(h:SP (X.cj E) pins D f s'):SP X pins D f s':=by
 cases f with
 |next=>obtain⟨O',H',I,q⟩:=h;exact⟨O',H',I.gw,q⟩
 |brk=>obtain⟨O',H',I,q⟩:=h;exact⟨O',H',I.gw,q⟩
 |cont=>obtain⟨O',H',I,q⟩:=h;exact⟨O',H',I.gw,q⟩
 |ret u=>obtain⟨v,O',H',I,r,q⟩:=h;exact⟨v,O',H',I.gw,r,q⟩
theorem eU.so{t:TS}(h:eU X.so st t):eU X st t:=λpins s O H D I hw=>
 fC (h pins s O H D (I.cj _) hw) (λ_ _ q=>q.gw) λ_ _ z=>False.elim z
end
section
variable{X:Cx}{st:Stmt}{rest:List Stmt}{t u:TS}{e:Expr}{te:TE}{pos:Pos}
def UA:TS:=λD O H=>D.nx O H
def UB(t u:TS):TS:=λD O H=>t { D with nx:=u D } O H
def cH:eU X [] UA:=λ_ _ O H _ I h=>EB ⟨O,H,I,h⟩
def az(h1:PS X st t)(h2:eU X rest u):eU X (st::rest) (UB t u):=by
 intro pins s O H D I h
 refine wpAny_execs_cons (aD (h1 pins s O H { D with nx:=u D } I h) λf s1 q=>?_)
 cases f with
 |next=>
  obtain⟨O',H',I',q⟩:=q
  exact h2 pins s1 O' H' D I' q
 |ret v=>exact q
 |brk=>exact q
 |cont=>exact q
def aB(h1:PS X st t):eU X [st] t:=by
 intro pins s O H D I h
 refine wpAny_execs_cons (aD (h1 pins s O H D I h) λf s1 q=>?_)
 cases f with
 |next=>exact EB q
 |ret v=>exact q
 |brk=>exact q
 |cont=>exact q
def Inv.quiet(I:Inv X pins O H s):interactive X.env=false:=by simp[interactive,I.ok.kind]
def UC(te:TE):TS:=λD O H=>te O H λ_ H1=>D.nx O H1
def dZ(he:PE X e te)(hs:swapsWith e none pos.line X.env=pure false:=by rfl):PS X (.Expr e pos) (UC te):=by
 intro pins s O H D I h
 exact wpAny_Expr_any (aD (he pins s O H _ I h) λv s1 ⟨x,H1,I1,r1,q1⟩=>⟨O,H1,I1,q1⟩) I.quiet hs
def UD(te:TE):TS:=λD O H=>te O H D.rt
def bg(he:PE X e te):PS X (.Return (some e) pos) (UD te):=by
 intro pins s O H D I h
 exact wpAny_Return_some (aD (he pins s O H _ I h) λv s1 ⟨x,H1,I1,r1,q1⟩=>⟨x,O,H1,I1,r1,q1⟩)
def UE(c:TT)(t u:TS):TS:=λD O H=>c O H λb H1=>if b=true then t D O H1 else u D O H1
def cn{a b:List Stmt}(hc:PT X c tc)(ha:eU X a t)(hb:eU X b u):PS X (.If c a b pos) (UE tc t u):=by
 intro pins s O H D I h
 refine wpAny_If (aD (hc pins s O H _ I h) λd s1 ⟨H1,I1,q1⟩=>?_)
 cases d with
 |true=>exact ha pins s1 O H1 D I1 q1
 |false=>exact hb pins s1 O H1 D I1 q1
def UG:TS:=λ_ _ _=>False
def Fq:PS X st UG:=λ_ _ _ _ _ _ h=>h.elim
end
abbrev TG:=V->St->Hp->(St->Hp->Prop)->Prop
abbrev sr:=List V->St->Hp->(St->Hp->Prop)->Prop
def PG(X:Cx)(target:Expr)(t:TG):Prop:=
 ∀(pins:List (Addr×Obj)) (s:Shared) (O:St) (H:Hp) (v:V) (u:Value) (Q:St->Hp->Prop),Inv X pins O H s->RelV v u->t v O H Q->
  wpAny (model X.prog X.w) X.A (assign target X.env u) (λ_ s' =>∃O' H',Inv X pins O' H' s'/\Q O' H') X.xe s
def Bk(X:Cx)(ts:List Expr)(t:sr):Prop:=
 ∀(pins:List (Addr×Obj)) (s:Shared) (O:St) (H:Hp) (vs:List V) (us:List Value) (Q:St->Hp->Prop),Inv X pins O H s->Vals vs us->t vs O H Q->
  wpAny (model X.prog X.w) X.A (assignInOrder ((assignEach ts X.env).map (·.2)) us) (λ_ s' =>∃O' H',Inv X pins O' H' s'/\Q O' H') X.xe s
abbrev Fs:=V->V->V->Hp->(Hp->Prop)->Prop
def LX(X:Cx)(t:Fs):Prop:=
 ∀(pins:List (Addr×Obj)) (s:Shared) (O:St) (H:Hp) (o i v:V) (ov iv u:Value) (Q:Hp->Prop),Inv X pins O H s->RelV o ov->RelV i iv->RelV v u->t o i v H Q->
  wpAny (model X.prog X.w) X.A (setItem ov iv u) (λ_ s' =>∃H',Inv X pins O H' s'/\Q H') X.xe s
section
variable{X:Cx}{pos:Pos}
def sx(i:Nat):TG:=λv O H Q=>Q (O.set i (some v)) H
def cD(i:Nat)(hN:X.N.Nodup)(hi:X.N[i]? = some x:=by rfl)(hx:Loc X.env.scope x:=by first | exact .inl rfl | exact .inr rfl)(hf:X.fn x=true\/X.env.scope.names.lookup x=some .local:=by first | exact .inl rfl | exact .inr rfl | assumption):PG X (.Name x pos) (sx i):=by
 intro pins s O H v u Q I r h
 exact wpAny_assign_Name (xQ I hN hi hx r (λs' I'=>⟨_,H,I',h⟩) hf)
def LY:sr:=λvs O H Q=>vs=[]/\Q O H
def Ft(t:TG)(u:sr):sr:=λvs O H Q=>∃v r,vs=v::r/\t v O H λO' H'=>u r O' H' Q
def oj:Bk X [] LY:=by
 intro pins s O H vs us Q I r h
 obtain⟨e,h⟩:=h
 subst e
 cases r
 exact assignInOrder_nil ⟨O,H,I,h⟩
def gy{t:TG}{u:sr}(h1:PG X e t)(h2:Bk X es u)
  (hs:(assignEach (e::es) X.env).map (·.2)=assign e X.env::(assignEach es X.env).map (·.2):=by rfl):Bk X (e::es) (Ft t u):=by
 intro pins s O H vs us Q I r h
 obtain⟨v,vr,e1,h⟩:=h
 subst e1
 cases r with
 |cons r rr=>
  rw[hs]
  refine assignInOrder_cons (aD (h1 pins s O H _ _ _ I r h) λ_ s1 ⟨O1,H1,I1,q1⟩=>?_)
  exact h2 pins s1 O1 H1 _ _ Q I1 rr q1
def LZ(K:Frag)(n:Nat)(t:sr):TG:=λv O H Q=>∃a xs,v = .ref a/\aA K H a xs/\xs.length=n/\t xs O H Q
def om{k:Nat}{t:sr}(hc:X.calm=true)(h:Bk X es t)
  (hn:(assignEach es X.env).length=n:=by rfl) (d9:(assignEach es X.env).findIdx? (·.1)=none:=by rfl):PG X (.Tuple es k pos) (LZ X.K n t):=by
 intro pins s O H v u Q I r hw
 obtain⟨a,xs,e1,hq,hl,hw⟩:=hw
 subst e1
 cases r
 obtain⟨its,rv,ht,hz⟩:=I.tuple hq
 refine assign_Tuple_tuple (I.ok.hd hc) ht (by simp[hn,<-hl,rv.length]) d9 λh' hx=>?_
 have I1:Inv X pins O H { s with heap:=h' }:=I.kept (t':=s.toks) λb o e=>hx b o (bV (bx e)) e
 exact h pins _ O H xs _ Q I1 (by simpa using rv) hw
def UH(to ti:TE)(t:Fs):TG:=λv O H Q=>to O H λo H1=>ti O H1 λi H2=>t o i v H2 λH3=>Q O H3
def vv{o i:Expr}{to ti:TE}{t:Fs}(ho:PE X o to)(hi:PE X i ti)(hs:LX X t)
  (ha:∀v,assign (.Subscript o i pos) X.env v=(do
   let ov<-holding [v] (eval o X.env)
   let iv<-holding [v,ov] (eval i X.env)
   standAt pos
   holding [v,ov,iv] (setItem ov iv v)
   release [v,ov,iv] []):=by intro _;rfl):PG X (.Subscript o i pos) (UH to ti t):=by
 intro pins s O H v u Q I r h
 rw[ha]
 refine ah (fE (aD (ho pins s O H _ I h) λov s1 ⟨x,H1,I1,r1,q1⟩=>?_))
 refine ah (fE (aD (hi pins s1 O H1 _ I1 q1) λiv s2 ⟨y,H2,I2,r2,q2⟩=>?_))
 refine ah (xA (ah (fE (aD (hs pins s2 O H2 x y v ov iv u _ I2 r1 r2 r q2) λ_ s3 ⟨H3,I3,q3⟩=>?_))))
 exact wpAny_release ⟨O,H3,I3,q3⟩
def Bm(te:TE)(g:TG):TS:=λD O H=>te O H λx H1=>g x O H1 D.nx
def sy{g:TG}(he:PE X e te)(hg:PG X tg g)(hs:swapsWithSole [tg] e pos.line X.env=pure false:=by rfl)(hw:swappedStores [tg] e X.env=pure none:=by rfl)
  (h1:(assignEach [tg] X.env).map (·.2)=[assign tg X.env]:=by rfl):PS X (.Assign [tg] e pos) (Bm te g):=by
 intro pins s O H D I h
 refine wpAny_Assign_stores (aD (he pins s O H _ I h) λv s1 ⟨x,H1,I1,r1,q1⟩=>?_) hs hw
 rw[h1]
 exact aD (hg pins s1 O H1 x v _ I1 r1 q1) λ_ s2 q=>q
def aX(i:Nat){pos':Pos}(hN:X.N.Nodup)(he:PE X e te)(hi:X.N[i]? = some x:=by rfl)(hx:Loc X.env.scope x:=by first | exact .inl rfl | exact .inr rfl)(hs:swapsWith e (some (.Name x pos')) pos.line X.env=pure false:=by rfl)(hf:X.fn x=true\/X.env.scope.names.lookup x=some .local:=by first | exact .inl rfl | exact .inr rfl | assumption) :
  PS X (.Assign [.Name x pos'] e pos) (Bm te (sx i)):=by
 intro pins s O H D I h
 refine wpAny_Assign_Name (aD (he pins s O H _ I h) λv s1 ⟨y,H1,I1,r1,q1⟩=>?_) hs
 exact xQ I1 hN hi hx r1 (λs2 I2=>⟨_,H1,I2,q1⟩) hf
def UI(c:TT)(tb:TS):TS:=λD O H=>∃W:Nat->St->Hp->Prop,(∃m,W m O H)/\∀m O H,W m O H->
 c O H λb H1=>if b=true then ∃N:St->Hp->Prop,(∀O' H',N O' H'->∃m',m'<m/\W m' O' H')/\tb { D with nx:=N,ct:=N,bk:=D.nx } O H1 else D.nx O H1
def L4(hp:PassesOwn (model X.prog X.w) X.A X.env X.xe)(hc:PT X c tc)(hb:eU X body tb):PS X (.While c body [] pos) (UI tc tb):=by
 intro pins s O H D I h
 obtain⟨W,⟨m0,w0⟩,turn⟩:=h
 refine wpAny_While (codeAny_whileLoop (λn s' =>∃O' H',Inv X pins O' H' s'/\W n O' H') ?_ m0 ⟨O,H,I,w0⟩)
 rintro n s1 ⟨O1,H1,I1,w1⟩
 refine xB hp (aD (hc pins s1 O1 H1 _ I1 (turn n O1 H1 w1)) λb s2 ⟨H2,I2,q2⟩=>?_)
 cases b with
 |true=>
  obtain⟨N,hN,q2⟩:=q2
  rw[aC rfl]
  refine xB hp (aD (hb pins s2 O1 H2 _ I2 q2) λf s3 q3=>?_)
  cases f with
  |next=>
   obtain⟨O3,H3,I3,n3⟩:=q3
   obtain⟨m',hm,w3⟩:=hN O3 H3 n3
   exact⟨m',hm,O3,H3,I3,w3⟩
  |cont=>
   obtain⟨O3,H3,I3,n3⟩:=q3
   obtain⟨m',hm,w3⟩:=hN O3 H3 n3
   exact⟨m',hm,O3,H3,I3,w3⟩
  |brk=>exact q3
  |ret v=>exact q3
 |false=>
  rw[au cy]
  exact EB ⟨O1,H2,I2,q2⟩
end
structure It where
 go:Nat->Hp->Prop
 gB:Nat->Hp->V->Hp->Prop
 stop:Nat->Hp->Prop
def fK(X:Cx)(pins:List (Addr×Obj))(H:Hp)(b:Addr):Prop:=
 H b=none/\b≠X.env.locals/\b∉X.fs/\(b∈X.ex\/X.s₀.heap.objs.size<=b)/\(∀x c,X.env.cells.lookup x=some c->c≠b)/\∀p∈X.pn++pins,p.1≠b
def Inv.j9{H':Hp}(I:Inv X pins O H s)(hb:s.heap.objs.size<=b)(hn:H' b=none):fK X pins H' b:=by
 refine⟨hn,uY (gq I.lt hb),I.Ul hb,.inr (bL I.sz hb),λx c e z=>?_,λp hp z=>?_⟩
 .obtain⟨v,q⟩:=I.cell x c e
  exact absurd (gq q.lt (by rw[z];exact hb)) (qb _)
 .exact absurd (gq (bx (I.pin p hp).1) (by rw[z];exact hb)) (qb _)
structure Turn(P:Program)(w:World)(K:Frag)(tg:Expr)(J:It)(fp:List Addr)(it:Addr)(tn:Nat->Heap->Prop):Prop where
 mem:it∈fp
 obj:∀i h,tn i h->∀b∈fp,∃o,h.get? b=some o/\∀v,o.data ≠ .cell v
 keep:∀i h h',tn i h->(∀b∈fp,∀o,h.get? b=some o->h'.get? b=some o)->tn i h'
 item:∀(X:Cx),X.prog=P->X.w=w->X.K=K->X.calm=true->∀(i:Nat) (pins:List (Addr×Obj)) (s:Shared) (O:St) (H:Hp) (E:Value->Shared->Prop),Inv X pins O H s->(∀b∈fp,fK X pins H b)->tn i s.heap->J.go i H->
  wpAny (model P w) X.A (pyNext (.ref it)) (λr s1=>∃u,r=some u/\
   wpAny (model P w) X.A (letOwnedTupleGo tg (.ref it) u) (λ_ s2=>∃x H',Inv X pins O H' s2/\RelV x u/\J.gB i H x H'/\tn (i+1) s2.heap/\∀b∈fp,H' b=none) E s1) E s
 done:∀(X:Cx),X.prog=P->X.w=w->X.K=K->X.calm=true->∀(i:Nat) (pins:List (Addr×Obj)) (s:Shared) (O:St) (H:Hp) (E:Value->Shared->Prop),Inv X pins O H s->(∀b∈fp,fK X pins H b)->tn i s.heap->J.stop i H->
  wpAny (model P w) X.A (pyNext (.ref it)) (λr s1=>r=none/\Inv X pins O H s1) E s
 self:∀(A:Around) (i:Nat) (s:Shared) (Q:Value->Shared->Prop) (E:Value->Shared->Prop),tn i s.heap->Q (.ref it) s->wpAny (model P w) A (pyIter (.ref it)) Q E s
abbrev TI:=St->Hp->(It->Hp->Prop)->Prop
def L5(X:Cx)(pins:List (Addr×Obj))(O:St)(tg:Expr)(R:It->Hp->Prop)(Bn:Value)(s2:Shared):Prop:=
 ∃(it:Addr) (fp:List Addr) (tn:Nat->Heap->Prop) (J:It) (H':Hp),Bn = .ref it/\Inv X pins O H' s2/\Turn X.prog X.w X.K tg J fp it tn/\tn 0 s2.heap/\(∀b∈fp,fK X pins H' b)/\R J H'
def PI(X:Cx)(tg iter:Expr)(wi:TI):Prop:=
 ∀(pins:List (Addr×Obj)) (s:Shared) (O:St) (H:Hp) (R:It->Hp->Prop),Inv X pins O H s->wi O H R->
  wpAny (model X.prog X.w) X.A (eval iter X.env) (λv s1=>wpAny (model X.prog X.w) X.A (pyIter v) (L5 X pins O tg R) X.xe s1) X.xe s
def vw{n:String}{vs:Array Value}{Q:Unit->Shared->Prop}(ho:s.heap.get? it=some o)(hc:o.cls = .type n)(hd:o.data = .fields vs)
  (hn:["enumerate","zip","dict_itemiterator","dict_reverseitemiterator","odict_iterator","itertools.zip_longest","itertools.pairwise"].contains n=false) (hQ:Q () s):wpAny M A (letOwnedTupleGo tg (.ref it) u) Q E s:=by
 unfold letOwnedTupleGo
 cases tg <;> first
  |exact aE hQ
  |(cases u <;> first
    |exact aE hQ
    |(refine ah (wpAny_load ho ?_)
      rw[hc,hd]
      show wpAny M A (if (["enumerate","zip","dict_itemiterator","dict_reverseitemiterator","odict_iterator","itertools.zip_longest","itertools.pairwise"].contains n&&vs[0]? == some (rawInt _))=true then _ else _) Q E s
      rw[au (by intro h;rw[hn,lj] at h;cases h)]
      exact aE hQ))
noncomputable def vx(K:Frag)(a:Addr):It:=
 ⟨λi H=>∃xs x,aq K H a xs/\xs[i]? = some x,λi H x H'=>H'=H/\∀xs,aq K H a xs->xs[i]? = some x,λi H=>∃xs,aq K H a xs/\xs.length<=i⟩
noncomputable def vy(K:Frag)(a:Addr):It:=
 ⟨λi H=>∃xs x,aA K H a xs/\xs[i]? = some x,λi H x H'=>H'=H/\∀xs,aA K H a xs->xs[i]? = some x,λi H=>∃xs,aA K H a xs/\xs.length<=i⟩
noncomputable def mX(lo:Int)(n:Nat):It:=⟨λi _=>i<n,λi H x H'=>H'=H/\x = .int (lo+i),λi _=>n<=i⟩
theorem UJ(a it:Addr):Turn P w K tg (vx K a) [it] it (λi h=>h.IsListIter it a i) where
 mem:=by simp
 obj:=λi h st b hb=>by
  have e:b=it:=by simpa using hb
  subst e
  obtain⟨o,e,c,d⟩:=st
  exact⟨o,e,λv z=>by rw[d] at z;cases z⟩
 keep:=λi h h' st k=>st.at λo e=>k it (by simp) o e
 item:=by
  intro X hP hw hK hc i pins s O H E I hf st hg
  subst hP hw hK
  obtain⟨xs,x,hq,hx⟩:=hg
  obtain⟨its,rv,p,hz⟩:=I.list hq
  obtain⟨u,hu,ru⟩:=rv.get hx
  obtain⟨f0,f1,f2,f3,f4,f5⟩:=hf it (by simp)
  refine wpAny_pyNext_list_item st p.isList (x:=u) (by simpa using hu) λh' eY sb=>?_
  have I1:Inv X pins O H { s with heap:=h' }:=I.turned (t':=s.toks) (λb o hb e=>(sb.2 b hb).trans e) f0 f1 f3 f4 f5
  obtain⟨o,e,c,d⟩:=id eY
  exact⟨u,rfl,vw (s:={ s with heap:=h' }) e c d (by decide) ⟨x,H,I1,ru,⟨rfl,λys hy=>by rw[I.Fl hy hq];exact hx⟩,eY,λb hb=>(hf b hb).1⟩⟩
 done:=by
  intro X hP hw hK hc i pins s O H E I hf st hg
  subst hP hw hK
  obtain⟨xs,hq,hx⟩:=hg
  obtain⟨its,rv,p,hz⟩:=I.list hq
  obtain⟨f0,f1,f2,f3,f4,f5⟩:=hf it (by simp)
  have hl:=rv.length
  exact wpAny_pyNext_list_end (I.ok.hd hc) st p.isList (by simp;lia) λh' eb=>⟨rfl,I.turned (t':=s.toks) (λb o hb e=>eb b o hb e) f0 f1 f3 f4 f5⟩
 self:=λ_ _ _ _ _ st h=>wpAny_pyIter_listiter st h
theorem UK(a it:Addr):Turn P w K tg (vy K a) [it] it (λi h=>h.IsTupleIter it a i) where
 mem:=by simp
 obj:=λi h st b hb=>by
  have e:b=it:=by simpa using hb
  subst e
  obtain⟨o,e,c,d⟩:=st
  exact⟨o,e,λv z=>by rw[d] at z;cases z⟩
 keep:=λi h h' st k=>st.at λo e=>k it (by simp) o e
 item:=by
  intro X hP hw hK hc i pins s O H E I hf st hg
  subst hP hw hK
  obtain⟨xs,x,hq,hx⟩:=hg
  obtain⟨its,rv,p,hz⟩:=I.tuple hq
  obtain⟨u,hu,ru⟩:=rv.get hx
  obtain⟨f0,f1,f2,f3,f4,f5⟩:=hf it (by simp)
  refine wpAny_pyNext_tuple_item st (show s.heap.IsTuple a its.toArray from p) (x:=u) (by simpa using hu) λh' eY sb=>?_
  have I1:Inv X pins O H { s with heap:=h' }:=I.turned (t':=s.toks) (λb o hb e=>(sb.2 b hb).trans e) f0 f1 f3 f4 f5
  obtain⟨o,e,c,d⟩:=id eY
  exact⟨u,rfl,vw (s:={ s with heap:=h' }) e c d (by decide) ⟨x,H,I1,ru,⟨rfl,λys hy=>by rw[I.Fp hy hq];exact hx⟩,eY,λb hb=>(hf b hb).1⟩⟩
 done:=by
  intro X hP hw hK hc i pins s O H E I hf st hg
  subst hP hw hK
  obtain⟨xs,hq,hx⟩:=hg
  obtain⟨its,rv,p,hz⟩:=I.tuple hq
  obtain⟨f0,f1,f2,f3,f4,f5⟩:=hf it (by simp)
  have hl:=rv.length
  exact wpAny_pyNext_tuple_end (I.ok.hd hc) st (show s.heap.IsTuple a its.toArray from p) (by simp;lia) λh' eb=>⟨rfl,I.turned (t':=s.toks) (λb o hb e=>eb b o hb e) f0 f1 f3 f4 f5⟩
 self:=λ_ _ _ _ _ st h=>wpAny_pyIter_tupleiter st h
theorem UL(it:Addr)(lo:Int)(n:Nat):Turn P w K tg (mX lo n) [it] it (λi h=>IsRangeIter h it (lo+(i:Nat)*1) ((n:Int) - (i:Nat)) 1) where
 mem:=by simp
 obj:=λi h st b hb=>by
  have e:b=it:=by simpa using hb
  subst e
  exact⟨_,st,λv z=>by
   have z':Data.fields _=Data.cell v:=z
   cases z'⟩
 keep:=λi h h' st k=>k it (by simp) _ st
 item:=by
  intro X hP hw hK hc i pins s O H E I hf st hg
  subst hP hw hK
  obtain⟨f0,f1,f2,f3,f4,f5⟩:=hf it (by simp)
  have W:=Walks.range (prog:=X.prog) (w:=X.w) (I.ok.hd hc) it lo 1 n
  refine W.item i s _ _ hg st λv h' tk hv eY kk=>?_
  obtain⟨t,rfl⟩:=hv
  have I1:Inv X pins O H { s with heap:=h',toks:=tk }:=I.turned (λb o hb e=>kk b o (by simpa using hb) e) f0 f1 f3 f4 f5
  refine⟨_,rfl,vw (s:={ s with heap:=h',toks:=tk }) (n:="range_iterator") eY rfl rfl (by decide) ⟨.int (lo+i),H,I1,⟨t,?_⟩,⟨rfl,rfl⟩,eY,λb hb=>(hf b hb).1⟩⟩
  rw[Int.mul_one]
 done:=by
  intro X hP hw hK hc i pins s O H E I hf st hg
  subst hP hw hK
  obtain⟨f0,f1,f2,f3,f4,f5⟩:=hf it (by simp)
  exact wpAny_pyNext_range_end (I.ok.hd hc) st (by have:n<=i:=hg;lia) λh' eb=>⟨rfl,I.turned (t':=s.toks) (λb o hb e=>eb b o hb e) f0 f1 f3 f4 f5⟩
 self:=λ_ _ _ _ _ st h=>wpAny_pyIter_rangeiter st h
section
variable{X:Cx}{tg:Expr}
def UM(K:Frag)(tl:TE):TI:=λO H R=>tl O H λx H1=>∃a,x = .ref a/\(∃xs,aq K H1 a xs)/\R (vx K a) H1
def UN(K:Frag)(tl:TE):TI:=λO H R=>tl O H λx H1=>∃a,x = .ref a/\(∃xs,aA K H1 a xs)/\R (vy K a) H1
def eD(hl:PE X l tl):PI X tg l (UM X.K tl):=by
 intro pins s O H R I h
 refine aD (hl pins s O H _ I h) λv s1 ⟨x,H1,I1,r1,q1⟩=>?_
 obtain⟨a,e,⟨xs,hq⟩,q⟩:=q1
 subst e
 cases r1
 obtain⟨its,rv,p,hz⟩:=I1.list hq
 refine AQ p.isList ?_
 refine⟨s1.heap.objs.size,[s1.heap.objs.size],_,_,H1,rfl,I1.kept (t':=s1.toks) λb o e=>bq _ e,UJ a _,⟨_,cQ _ rfl,rfl,rfl⟩,λb hb=>?_,q⟩
 have e:b=s1.heap.objs.size:=by simpa using hb
 subst e
 exact I1.j9 (aQ _) (I1.ar.fresh (aQ _))
def Fu(hl:PE X l tl):PI X tg l (UN X.K tl):=by
 intro pins s O H R I h
 refine aD (hl pins s O H _ I h) λv s1 ⟨x,H1,I1,r1,q1⟩=>?_
 obtain⟨a,e,⟨xs,hq⟩,q⟩:=q1
 subst e
 cases r1
 obtain⟨its,rv,p,hz⟩:=I1.tuple hq
 refine Lr (show s1.heap.IsTuple a its.toArray from p) ?_
 refine⟨s1.heap.objs.size,[s1.heap.objs.size],_,_,H1,rfl,I1.kept (t':=s1.toks) λb o e=>bq _ e,UK a _,⟨_,cQ _ rfl,rfl,rfl⟩,λb hb=>?_,q⟩
 have e:b=s1.heap.objs.size:=by simpa using hb
 subst e
 exact I1.j9 (aQ _) (I1.ar.fresh (aQ _))
theorem UO{R:It->Hp->Prop}{hi:Int}{t u v:Tok}{tk:Nat}(I:Inv X pins O H s)(h1 : -(2 ^ 62)<=lo)(h2:lo<2 ^ 62)(h3 : -(2 ^ 62)<=hi)(h4:hi<2 ^ 62)
  (q:R (mX lo (hi - lo).toNat) H):wpAny (model X.prog X.w) X.A (pyIter (.ref s.heap.objs.size)) (L5 X pins O tg R) E { s with heap:=s.heap.push { cls := .type "range",data := .fields #[.int lo t,.int hi u,.int 1 v] },toks:=tk }:=by
 refine wpAny_pyIter_range (IsRange.new ..) (small_one h1 h2 h3 h4) ?_
 have I1:Inv X pins O H { s with heap:=s.heap.push { cls := .type "range",data := .fields #[.int lo t,.int hi u,.int 1 v] },toks:=tk }:=I.kept λb o e=>bq _ e
 refine⟨(s.heap.push { cls := .type "range",data := .fields #[.int lo t,.int hi u,.int 1 v] }).objs.size,[(s.heap.push { cls := .type "range",data := .fields #[.int lo t,.int hi u,.int 1 v] }).objs.size],_,_,H,rfl,
  I1.kept (t':=tk) λb o e=>bq _ e,UL _ lo (hi - lo).toNat,?_,λb hb=>?_,q⟩
 .have e1:lo+((0:Nat):Int)*1=lo:=by simp
  have e2:(((hi - lo).toNat:Nat):Int) - ((0:Nat):Int)=Builtin.Range.rangeSize lo hi 1:=by rw[rangeSize_one];split <;> lia
  show IsRangeIter _ _ (lo+((0:Nat):Int)*1) ((((hi - lo).toNat:Nat):Int) - ((0:Nat):Int)) 1
  rw[e1,e2]
  exact cQ _ rfl
 .have e:b=(s.heap.push { cls := .type "range",data := .fields #[.int lo t,.int hi u,.int 1 v] }).objs.size:=by simpa using hb
  subst e
  exact I1.j9 (aQ _) (I1.ar.fresh (aQ _))
def UP(ta:TA):TI:=λO H R=>ta O H λvs H1=>∃j:Int,vs=[.int j]/\ -(2 ^ 62)<=j/\j<2 ^ 62/\R (mX 0 j.toNat) H1
theorem lH{a:Expr}{ta:TA}{p:Pos}(hg:Gl X "range")(hm:X.mg "range"=none)(ha:PA X [a] ta)(hs:starEach [a] X.env=[(false,eval a X.env)]:=by rfl):PI X tg (.Call (.Name "range" p) [a] [] pos) (UP ta):=by
 intro pins s O H R I h
 refine Call_ (qr I hg hm boot_range (EC (aD (ha pos pins s O H _ I h) λus s1 ⟨vs,H1,I1,r1,q1⟩=>?_) hs rfl))
 obtain⟨j,e,q1,q2,q⟩:=q1
 subst e
 cases r1 with
 |cons r rr=>
  cases rr
  obtain⟨t,rfl⟩:=r
  exact call_range_1 (UO I1 (by lia) (by lia) q1 q2 (by simpa using q))
def UQ(wi:TI)(g:TG)(tb:TS):TS:=λD O H=>wi O H λJ H1=>∃W:Nat->Nat->St->Hp->Prop,(∃m,W 0 m O H1)/\∀i m O H,W i m O H->
 (J.stop i H/\D.nx O H)\/(J.go i H/\∃N:St->Hp->Prop,(∀O' H',N O' H'->∃m',m'<m/\W (i+1) m' O' H')/\∀x H',J.gB i H x H'->g x O H' λO2 H2=>tb { D with nx:=N,ct:=N,bk:=D.nx } O2 H2)
noncomputable def xT(fp:List Addr)(h:Heap):List (Addr×Obj):=fp.filterMap λb=>(h.get? b).map λo=>(b,o)
def Bo(hb:b∈fp)(e:h.get? b=some o):(b,o)∈xT fp h:=List.mem_filterMap.mpr ⟨b,hb,by rw[e];rfl⟩
def UR(hp:p∈xT fp h):p.1∈fp/\h.get? p.1=some p.2:=by
 obtain⟨b,hb,e⟩:=List.mem_filterMap.mp hp
 cases q:h.get? b with
 |none=>rw[q] at e;cases e
 |some o=>
  rw[q] at e
  have e':(b,o)=p:=dh e
  subst e'
  exact⟨hb,q⟩
def Inv.pinned(I:Inv X pins O H s)(hf:∀b∈fp,fK X pins H b)(ho:∀b∈fp,∃o,s.heap.get? b=some o/\∀v,o.data ≠ .cell v):Inv X (pins++xT fp s.heap) O H s:=
 I.xN λp hp=>(dR.mp hp).elim (λz=>I.pin p (ie _ z)) λz=>by
  obtain⟨hb,e⟩:=UR z
  obtain⟨f0,f1,f2,_⟩:=hf p.1 hb
  obtain⟨o,e',d⟩:=ho p.1 hb
  rw[e] at e';cases e'
  exact⟨e,f0,f1,f2,d⟩
def Inv.vz{pl:List (Addr×Obj)}(I:Inv X (pins++pl) O H s):Inv X pins O H s:=I.xN λp hp=>I.pin p (ie _ (j0 _ hp))
def dJ{wi:TI}{g:TG}(hi:PI X tg iter wi)(hg:PG X tg g)(hb:eU X body tb)(hp:PassesOwn (model X.prog X.w) X.A X.env X.xe:=by exact PassesOwn.never)(hc:X.calm=true:=by rfl)
  (hs:∀x,foldedSetIterable iter X.env x=pure x:=by intro _;rfl):PS X (.For tg iter body [] pos) (UQ wi g tb):=by
 intro pins s O H D I h
 refine wpAny_For (aD (hi pins s O H _ I h) λv s1 h1=>aD h1 λBn s2 h2=>?_) hs
 obtain⟨it,fp,tn,J,H2,e,I2,T,kd,f2,W,⟨m0,w0⟩,turn⟩:=h2
 subst e
 have Fv:∀{H':Hp},(∀b∈fp,H' b=none)->∀b∈fp,fK X pins H' b:=λhn b hb=>⟨hn b hb,(f2 b hb).2⟩
 refine codeAny_forLoop_any (λn s' =>∃i O' H',Inv X pins O' H' s'/\tn i s'.heap/\(∀b∈fp,H' b=none)/\W i n O' H') ?_ m0 ⟨0,O,H2,I2,kd,λb hb=>(f2 b hb).1,w0⟩
 rintro n s3 ⟨i,O3,H3,I3,xU,L6,w3⟩
 rcases turn i n O3 H3 w3 with ⟨stop,qn⟩ | ⟨go,N,hN,step⟩
 .refine xB hp (aD (T.done X rfl rfl rfl hc i pins s3 O3 H3 X.xe I3 (Fv L6) xU stop) λr s4 ⟨hr,I4⟩=>?_)
  subst hr
  exact EB ⟨O3,H3,I4,qn⟩
 .refine xB hp (aD (T.item X rfl rfl rfl hc i pins s3 O3 H3 X.xe I3 (Fv L6) xU go) λr s4 ⟨u,hr,h4⟩=>?_)
  subst hr
  refine xB hp (aD h4 λ_ s5 ⟨x,H5,I5,r5,y5,vA,Bp⟩=>?_)
  have US:=I5.pinned (Fv Bp) (T.obj _ _ vA)
  refine xB hp (aD (hg _ s5 O3 H5 x u _ US r5 (step x H5 y5)) λ_ s6 ⟨O6,H6,I6,q6⟩=>?_)
  refine xB hp (aD (hb _ s6 O6 H6 _ I6 q6) λf s7 q7=>?_)
  have again:∀{O7:St}{H7:Hp},Inv X (pins++xT fp s5.heap) O7 H7 s7->N O7 H7->∃m,m<n/\∃i O' H',Inv X pins O' H' s7/\tn i s7.heap/\(∀b∈fp,H' b=none)/\W i m O' H':=λ{O7 H7} I7 n7=>by
   obtain⟨m',hm,w7⟩:=hN O7 H7 n7
   refine⟨m',hm,i+1,O7,H7,I7.vz,T.keep _ _ _ vA λb hb o e=>(I7.pin (b,o) (ie _ (ie _ (Bo hb e)))).1,λb hb=>?_,w7⟩
   obtain⟨o,e,d⟩:=T.obj _ _ vA b hb
   exact(I7.pin (b,o) (ie _ (ie _ (Bo hb e)))).2.1
  cases f with
  |next=>obtain⟨O7,H7,I7,n7⟩:=q7;exact again I7 n7
  |cont=>obtain⟨O7,H7,I7,n7⟩:=q7;exact again I7 n7
  |brk=>obtain⟨O7,H7,I7,q7⟩:=q7;exact⟨O7,H7,I7.vz,q7⟩
  |ret v=>obtain⟨x7,O7,H7,I7,r7,q7⟩:=q7;exact⟨x7,O7,H7,I7.vz,r7,q7⟩
end
theorem ke{g:TG}{D:Ends}(Pv:Nat->St->Hp->Prop)(h0:Pv 0 O H)(hl:∀i O H,i<=xs.length->Pv i O H->aq K H a xs)
  (hs:∀i x O H,xs[i]? = some x->Pv i O H->g x O H λO2 H2=>tb { D with nx:=Pv (i+1),ct:=Pv (i+1),bk:=D.nx } O2 H2) (hd:∀O H,Pv xs.length O H->D.nx O H) :
  ∃W:Nat->Nat->St->Hp->Prop,(∃m,W 0 m O H)/\∀i m O H,W i m O H->
   ((vx K a).stop i H/\D.nx O H)\/((vx K a).go i H/\∃N:St->Hp->Prop,(∀O' H',N O' H'->∃m',m'<m/\W (i+1) m' O' H')/\∀x H',(vx K a).gB i H x H'->g x O H' λO2 H2=>tb { D with nx:=N,ct:=N,bk:=D.nx } O2 H2):=by
 refine⟨λi m O H=>m=xs.length - i/\i<=xs.length/\Pv i O H,⟨xs.length,by simp,bW _,h0⟩,?_⟩
 rintro i m O H ⟨rfl,hi,p⟩
 have q:=hl i O H hi p
 by_cases aY:i<xs.length
 .refine .inr ⟨⟨xs,xs[i],q,by simp[aY]⟩,Pv (i+1),λO' H' p'=>⟨xs.length - (i+1),by lia,rfl,aY,p'⟩,λx H' y=>?_⟩
  obtain⟨e,y⟩:=y
  subst e
  exact hs i x O _ (y xs q) p
 .have e:i=xs.length:=by lia
  subst e
  exact .inl ⟨⟨xs,q,aQ _⟩,hd O H p⟩
theorem UT{g:TG}{D:Ends}(Pv:Nat->St->Hp->Prop)(h0:Pv 0 O H)(hl:∀i O H,i<=xs.length->Pv i O H->aA K H a xs)
  (hs:∀i x O H,xs[i]? = some x->Pv i O H->g x O H λO2 H2=>tb { D with nx:=Pv (i+1),ct:=Pv (i+1),bk:=D.nx } O2 H2) (hd:∀O H,Pv xs.length O H->D.nx O H) :
  ∃W:Nat->Nat->St->Hp->Prop,(∃m,W 0 m O H)/\∀i m O H,W i m O H->
   ((vy K a).stop i H/\D.nx O H)\/((vy K a).go i H/\∃N:St->Hp->Prop,(∀O' H',N O' H'->∃m',m'<m/\W (i+1) m' O' H')/\∀x H',(vy K a).gB i H x H'->g x O H' λO2 H2=>tb { D with nx:=N,ct:=N,bk:=D.nx } O2 H2):=by
 refine⟨λi m O H=>m=xs.length - i/\i<=xs.length/\Pv i O H,⟨xs.length,by simp,bW _,h0⟩,?_⟩
 rintro i m O H ⟨rfl,hi,p⟩
 have q:=hl i O H hi p
 by_cases aY:i<xs.length
 .refine .inr ⟨⟨xs,xs[i],q,by simp[aY]⟩,Pv (i+1),λO' H' p'=>⟨xs.length - (i+1),by lia,rfl,aY,p'⟩,λx H' y=>?_⟩
  obtain⟨e,y⟩:=y
  subst e
  exact hs i x O _ (y xs q) p
 .have e:i=xs.length:=by lia
  subst e
  exact .inl ⟨⟨xs,q,aQ _⟩,hd O H p⟩
theorem UU{g:TG}{D:Ends}(Pv:Nat->St->Hp->Prop)(h0:Pv 0 O H)
  (hs:∀i O H,i<n->Pv i O H->g (.int (lo+i)) O H λO2 H2=>tb { D with nx:=Pv (i+1),ct:=Pv (i+1),bk:=D.nx } O2 H2) (hd:∀O H,Pv n O H->D.nx O H) :
  ∃W:Nat->Nat->St->Hp->Prop,(∃m,W 0 m O H)/\∀i m O H,W i m O H->
   ((mX lo n).stop i H/\D.nx O H)\/((mX lo n).go i H/\∃N:St->Hp->Prop,(∀O' H',N O' H'->∃m',m'<m/\W (i+1) m' O' H')/\∀x H',(mX lo n).gB i H x H'->g x O H' λO2 H2=>tb { D with nx:=N,ct:=N,bk:=D.nx } O2 H2):=by
 refine⟨λi m O H=>m=n - i/\i<=n/\Pv i O H,⟨n,by simp,bW _,h0⟩,?_⟩
 rintro i m O H ⟨rfl,hi,p⟩
 by_cases aY:i<n
 .refine .inr ⟨aY,Pv (i+1),λO' H' p'=>⟨n - (i+1),by lia,rfl,aY,p'⟩,λx H' y=>?_⟩
  obtain⟨e,y⟩:=y
  subst e y
  exact hs i O _ aY p
 .have e:i=n:=by lia
  subst e
  exact .inl ⟨aQ _,hd O H p⟩
abbrev R2:=V->V->Hp->VK->Prop
def dC(X:Cx)(f:Value->Value->Sem Value)(r:R2):Prop:=
 ∀(pins:List (Addr×Obj)) (s:Shared) (O:St) (H:Hp) (x y:V) (v u:Value) (Q:VK),Inv X pins O H s->RelV x v->RelV y u->r x y H Q->
  wpAny (model X.prog X.w) X.A (f v u) (EP X pins O Q) X.xe s
def Fw(X:Cx)(f:Value->Sem Value)(r:V->Hp->VK->Prop):Prop:=
 ∀(pins:List (Addr×Obj)) (s:Shared) (O:St) (H:Hp) (x:V) (v:Value) (Q:VK),Inv X pins O H s->RelV x v->r x H Q->
  wpAny (model X.prog X.w) X.A (f v) (EP X pins O Q) X.xe s
def gV(X:Cx)(f:Value)(r:List V->Hp->VK->Prop):Prop:=
 ∀(pins:List (Addr×Obj)) (s:Shared) (O:St) (H:Hp) (xs:List V) (us:List Value) (Q:VK),Inv X pins O H s->Vals xs us->r xs H Q->
  wpAny (model X.prog X.w) X.A (call f us) (EP X pins O Q) X.xe s
def UW(X:Cx)(r:V->Hp->(Bool->Hp->Prop)->Prop):Prop:=
 ∀(pins:List (Addr×Obj)) (s:Shared) (O:St) (H:Hp) (x:V) (v:Value) (Q:Bool->Hp->Prop),Inv X pins O H s->RelV x v->r x H Q->
  wpAny (model X.prog X.w) X.A (truthy v) (TP X pins O Q) X.xe s
def mY(r:R2)(ta tb:TE):TE:=λO H Q=>ta O H λx H1=>tb O H1 λy H2=>r x y H2 Q
def L7(r:V->Hp->VK->Prop)(ta:TE):TE:=λO H Q=>ta O H λx H1=>r x H1 Q
def rI(C:Int->Int->Prop)(g:Int->Int->V):R2:=λx y H Q=>∃i j,x = .int i/\y = .int j/\C i j/\Q (g i j) H
def oo(g:Int->Int->V):R2:=λx y H Q=>∃i j,x = .int i/\y = .int j/\Q (g i j) H
def rU(g:Int->V):V->Hp->VK->Prop:=λx H Q=>∃i,x = .int i/\Q (g i) H
section
variable{X:Cx}{a b c:Expr}{ta tb tc:TE}{pos:Pos}
def Fy(ha:PE X a ta)(hb:PE X b tb){R:V->V->Hp->Prop}(I:Inv X pins O H s)
  (h:ta O H λx H1=>tb O H1 λy H2=>R x y H2) 
  (hf:∀v u s2 x y H2,Inv X pins O H2 s2->RelV x v->RelV y u->R x y H2->wpAny (model X.prog X.w) X.A (f v u) Q X.xe s2) :
  wpAny (model X.prog X.w) X.A (eval a X.env) (λv s₁=>wpAny (model X.prog X.w) X.A (eval b X.env) (λu s₂=>wpAny (model X.prog X.w) X.A (f v u) Q X.xe s₂) X.xe s₁) X.xe s:=by
 refine aD (ha pins s O H _ I h) λv s1 ⟨x,H1,I1,r1,q1⟩=>?_
 refine aD (hb pins s1 O H1 _ I1 q1) λu s2 ⟨y,H2,I2,r2,q2⟩=>?_
 exact hf v u s2 x y H2 I2 r1 r2 q2
def bz{op:Operator}(ho:dC X (binaryOp op) r)(ha:PE X a ta)(hb:PE X b tb):PE X (.BinOp a op b pos) (mY r ta tb):=by
 intro pins s O H Q I h
 exact wpAny_BinOp (Fy ha hb I h λv u s2 x y H2 I2 rx ry q=>ho pins s2 O H2 x y v u Q I2 rx ry q)
def Bq{op:UnaryOp}{r:V->Hp->VK->Prop}(ho:Fw X (unaryOp op) r)(ha:PE X a ta):PE X (.UnaryOp op a pos) (L7 r ta):=by
 intro pins s O H Q I h
 exact UnaryOp_ (aD (ha pins s O H _ I h) λv s1 ⟨x,H1,I1,r1,q1⟩=>ho pins s1 O H1 x v Q I1 r1 q1)
def jF{C:Int->Int->Prop}
  (rule:∀(i j:Int) (t u:Tok) (s:Shared) (Q:Value->Shared->Prop) (E:Value->Shared->Prop),C i j->Q (.int (g i j) s.toks) { s with toks:=s.toks+1 }->wpAny (model X.prog X.w) X.A (f (.int i t) (.int j u)) Q E s) :
  dC X f (rI C λi j=>.int (g i j)):=by
 intro pins s O H x y v u Q I rx ry h
 obtain⟨i,j,rfl,rfl,hc,q⟩:=h
 obtain⟨t,rfl⟩:=rx
 obtain⟨t',rfl⟩:=ry
 exact rule i j t t' s _ _ hc ⟨.int (g i j),H,I.tok _,⟨_,rfl⟩,q⟩
def L8
  (rule:∀(i j:Int) (t u:Tok) (s:Shared) (Q:Value->Shared->Prop) (E:Value->Shared->Prop),Q (.int (g i j) s.toks) { s with toks:=s.toks+1 }->wpAny (model X.prog X.w) X.A (f (.int i t) (.int j u)) Q E s) :
  dC X f (oo λi j=>.int (g i j)):=by
 intro pins s O H x y v u Q I rx ry h
 obtain⟨i,j,rfl,rfl,q⟩:=h
 obtain⟨t,rfl⟩:=rx
 obtain⟨t',rfl⟩:=ry
 exact rule i j t t' s _ _ ⟨.int (g i j),H,I.tok _,⟨_,rfl⟩,q⟩
def Br{g:Int->Int->Bool}
  (rule:∀(i j:Int) (t u:Tok) (s:Shared) (Q:Value->Shared->Prop) (E:Value->Shared->Prop),Q (.bool (g i j)) s->wpAny (model X.prog X.w) X.A (f (.int i t) (.int j u)) Q E s) :
  dC X f (oo λi j=>.bl (g i j)):=by
 intro pins s O H x y v u Q I rx ry h
 obtain⟨i,j,rfl,rfl,q⟩:=h
 obtain⟨t,rfl⟩:=rx
 obtain⟨t',rfl⟩:=ry
 exact rule i j t t' s _ _ ⟨.bl (g i j),H,I,rfl,q⟩
def L9(i j:Int):Prop:=0<j/\j<1073741824
def vB(i j:Int):Prop:=(-(2 ^ 64)<i/\i<2 ^ 64)\/(-(2 ^ 64)<j/\j<2 ^ 64)
def vB.ok{i j:Int}(h:vB i j):IntMulOk i j:=by
 rcases h with ⟨h1,h2⟩ | ⟨h1,h2⟩
 .exact .of_left (intBits_le_64 h1 h2)
 .exact .of_right (intBits_le_64 h1 h2)
def gC:dC X (binaryOp .Add) (oo λi j=>.int (i+j)):=L8 λ_ _ _ _ _ _ _ q=>add_int q
def lI:dC X (binaryOp .Sub) (oo λi j=>.int (i - j)):=L8 λ_ _ _ _ _ _ _ q=>sub_int q
def vC:dC X (binaryOp .Mult) (rI vB λi j=>.int (i*j)):=jF λ_ _ _ _ _ _ _ hc q=>mul_int q hc.ok
theorem sI:dC X (binaryOp .FloorDiv) (rI L9 λi j=>.int (i / j)):=jF λi j _ _ _ _ _ hc q=>by
 have h1:(0:Int)<j:=hc.1
 have h2:j<1073741824:=hc.2
 exact floordiv_int (by lia) (by rw[Int.fdiv_eq_ediv_of_nonneg i (by lia)];exact q) (.inl (PyProof.noPylong_small (by lia)))
theorem mZ:dC X (binaryOp .Mod) (rI (λ_ j=>0<j) λi j=>.int (i % j)):=jF λi j _ _ _ _ _ hc q=>by
 have h1:(0:Int)<j:=hc
 exact mod_int' (by lia) (by rw[Int.fmod_eq_emod_of_nonneg i (by lia)];exact q)
def UX{f:Value->Sem Value}{g:Int->Int}
  (rule:∀(i:Int) (t:Tok) (s:Shared) (Q:Value->Shared->Prop) (E:Value->Shared->Prop),Q (.int (g i) s.toks) { s with toks:=s.toks+1 }->wpAny (model X.prog X.w) X.A (f (.int i t)) Q E s) :
  Fw X f (rU λi=>.int (g i)):=by
 intro pins s O H x v Q I rx h
 obtain⟨i,rfl,q⟩:=h
 obtain⟨t,rfl⟩:=rx
 exact rule i t s _ _ ⟨.int (g i),H,I.tok _,⟨_,rfl⟩,q⟩
def Bs:Fw X (unaryOp .USub) (rU λi=>.int (-i)):=UX λ_ _ _ _ _ q=>neg_int q
end
noncomputable def Ma:V->V->Bool
 |.aw,.aw=>true | .aw,.int _=>true | .int _,.aw=>true | .aw,.bl _=>true | .bl _,.aw=>true | .aw,.str _=>true | .str _,.aw=>true
 |.int _,.int _=>true | .bl _,.bl _=>true | .str _,.str _=>true | .i9 _,.i9 _=>true
 |.int _,.str _=>true | .str _,.int _=>true | .bl _,.str _=>true | .str _,.bl _=>true
 |_,_=>false
def UY:R2:=λx y H Q=>Ma x y=true/\Q (.bl (decide (x=y))) H
def UZ:R2:=λx y H Q=>Ma x y=true/\Q (.bl (!decide (x=y))) H
def Mb{i j:Int}:decide (V.int i=V.int j)=(i==j):=by
 rw[ED]
 simp
def Mc{i j:Bool}:decide (V.bl i=V.bl j)=(i==j):=by
 rw[ED]
 simp
def Md{i j:Str}:decide (V.str i=V.str j)=(i==j):=by
 rw[ED]
 simp
def Me{i j:Array UInt8}:decide (V.i9 i=V.i9 j)=(i.toList==j.toList):=by
 rw[ED]
 cases i
 cases j
 simp
section
variable{X:Cx}{a b c:Expr}{ta tb tc:TE}{pos:Pos}
def dn{Q:VK}{k k':Bool}(I:Inv X pins O H s)(q:Q (.bl k) H)(e:k=k'):EP X pins O Q (.bool k') s:=by
 subst e
 exact⟨.bl k,H,I,rfl,q⟩
def m4:dC X (compareOp .Eq) UY:=by
 intro pins s O H x y v u Q I rx ry h
 obtain⟨hs,q⟩:=h
 cases x with
 |aw=>
  cases rx
  cases y with
  |aw=>cases ry;exact PySem.EqNone.eq_none_none (dn I q (by simp))
  |bl j=>cases ry;exact PySem.EqNone.eq_none_bool (dn I q (by simp))
  |int j=>obtain⟨t',rfl⟩:=ry;exact PySem.EqNone.eq_none_int (dn I q (by simp))
  |str j=>obtain⟨t',rfl⟩:=ry;exact PySem.EqNone.eq_none_str (dn I q (by simp))
  |_=>exact absurd (show false=true from hs) cy
 |bl i=>
  cases rx
  cases y with
  |aw=>cases ry;exact PySem.EqNone.eq_bool_none (dn I q (by simp))
  |bl j=>cases ry;exact eq_bool (dn I q Mc)
  |str j=>obtain⟨t',rfl⟩:=ry;exact PySem.EqMixed.eq_bool_str (dn I q (by simp))
  |_=>exact absurd (show false=true from hs) cy
 |int i=>
  obtain⟨t,rfl⟩:=rx
  cases y with
  |aw=>cases ry;exact PySem.EqNone.eq_int_none (dn I q (by simp))
  |int j=>obtain⟨t',rfl⟩:=ry;exact eq_int (dn I q Mb)
  |str j=>obtain⟨t',rfl⟩:=ry;exact PySem.EqMixed.eq_int_str (dn I q (by simp))
  |_=>exact absurd (show false=true from hs) cy
 |str i=>
  obtain⟨t,rfl⟩:=rx
  cases y with
  |aw=>cases ry;exact PySem.EqNone.eq_str_none (dn I q (by simp))
  |bl j=>cases ry;exact PySem.EqMixed.eq_str_bool (dn I q (by simp))
  |int j=>obtain⟨t',rfl⟩:=ry;exact PySem.EqMixed.eq_str_int (dn I q (by simp))
  |str j=>obtain⟨t',rfl⟩:=ry;exact eq_str (dn I q Md)
  |_=>exact absurd (show false=true from hs) cy
 |i9 i=>
  obtain⟨t,rfl⟩:=rx
  cases y with
  |i9 j=>obtain⟨t',rfl⟩:=ry;exact PySem.W.eq_bytes (dn I q Me)
  |_=>exact absurd (show false=true from hs) cy
 |_=>cases y <;> exact absurd (show false=true from hs) cy
def qu:dC X (compareOp .NotEq) UZ:=by
 intro pins s O H x y v u Q I rx ry h
 obtain⟨hs,q⟩:=h
 cases x with
 |aw=>
  cases rx
  cases y with
  |aw=>cases ry;exact PySem.EqNone.ne_none_none (dn I q (by simp))
  |bl j=>cases ry;exact PySem.EqNone.ne_none_bool (dn I q (by simp))
  |int j=>obtain⟨t',rfl⟩:=ry;exact PySem.EqNone.ne_none_int (dn I q (by simp))
  |str j=>obtain⟨t',rfl⟩:=ry;exact PySem.EqNone.ne_none_str (dn I q (by simp))
  |_=>exact absurd (show false=true from hs) cy
 |bl i=>
  cases rx
  cases y with
  |aw=>cases ry;exact PySem.EqNone.ne_bool_none (dn I q (by simp))
  |bl j=>cases ry;exact ne_bool (dn I q (eX not Mc))
  |str j=>obtain⟨t',rfl⟩:=ry;exact PySem.EqMixed.ne_bool_str (dn I q (by simp))
  |_=>exact absurd (show false=true from hs) cy
 |int i=>
  obtain⟨t,rfl⟩:=rx
  cases y with
  |aw=>cases ry;exact PySem.EqNone.ne_int_none (dn I q (by simp))
  |int j=>obtain⟨t',rfl⟩:=ry;exact ne_int (dn I q (eX not Mb))
  |str j=>obtain⟨t',rfl⟩:=ry;exact PySem.EqMixed.ne_int_str (dn I q (by simp))
  |_=>exact absurd (show false=true from hs) cy
 |str i=>
  obtain⟨t,rfl⟩:=rx
  cases y with
  |aw=>cases ry;exact PySem.EqNone.ne_str_none (dn I q (by simp))
  |bl j=>cases ry;exact PySem.EqMixed.ne_str_bool (dn I q (by simp))
  |int j=>obtain⟨t',rfl⟩:=ry;exact PySem.EqMixed.ne_str_int (dn I q (by simp))
  |str j=>obtain⟨t',rfl⟩:=ry;exact ne_str (dn I q (eX not Md))
  |_=>exact absurd (show false=true from hs) cy
 |i9 i=>
  obtain⟨t,rfl⟩:=rx
  cases y with
  |i9 j=>obtain⟨t',rfl⟩:=ry;exact PySem.W.ne_bytes (dn I q (eX not Me))
  |_=>exact absurd (show false=true from hs) cy
 |_=>cases y <;> exact absurd (show false=true from hs) cy
def qv:dC X (compareOp .Lt) (oo λi j=>.bl (decide (i<j))):=Br λ_ _ _ _ _ _ _ q=>lt_int q
def sJ:dC X (compareOp .LtE) (oo λi j=>.bl (decide (i<=j))):=Br λ_ _ _ _ _ _ _ q=>le_int q
def Mf:dC X (compareOp .Gt) (oo λi j=>.bl (decide (j<i))):=Br λ_ _ _ _ _ _ _ q=>gt_int q
def U0:dC X (compareOp .GtE) (oo λi j=>.bl (decide (j<=i))):=Br λ_ _ _ _ _ _ _ q=>ge_int q
def Mg:dC X (compareOp .In) (λx y H Q=>∃i j,x = .str i/\y = .str j/\Q (.bl (!(Builtin.Str.occurrences j i 0 j.length 1).isEmpty)) H):=by
 intro pins s O H x y v u Q I rx ry h
 obtain⟨i,j,rfl,rfl,q⟩:=h
 obtain⟨t,rfl⟩:=rx
 obtain⟨t',rfl⟩:=ry
 exact in_str (dn I q rfl)
def vD:dC X (compareOp .Is) (λx y H Q=>y = .aw/\Q (.bl (decide (x = .aw))) H):=by
 intro pins s O H x y v u Q I rx ry h
 obtain⟨rfl,q⟩:=h
 cases ry
 refine is_none_gen (dn I q ?_)
 cases x <;> first
  |(cases rx;rfl)
  |(obtain⟨t,rfl⟩:=rx;rfl)
def Fz:dC X (compareOp .IsNot) (λx y H Q=>y = .aw/\Q (.bl (!decide (x = .aw))) H):=by
 intro pins s O H x y v u Q I rx ry h
 obtain⟨rfl,q⟩:=h
 cases ry
 refine isnot_none_gen (dn I q ?_)
 cases x <;> first
  |(cases rx;rfl)
  |(obtain⟨t,rfl⟩:=rx;rfl)
def FA(b:Expr){op:CmpOp}(h:op ≠ .In:=by decide)(h2:op ≠ .NotIn:=by decide):behindInMarks op b=false:=by
 have e1:(op==CmpOp.In)=false:=by cases op <;> first | rfl | exact absurd rfl h
 have e2:(op==CmpOp.NotIn)=false:=by cases op <;> first | rfl | exact absurd rfl h2
 cases b <;> simp[behindInMarks,e1,e2]
def vE{op:CmpOp}(ho:dC X (compareOp op) r)(ha:PE X a ta)(hb:PE X b tb)(hm:behindInMarks op b=false:=by first | exact FA _ | rfl):PE X (.Compare a [op] [b] pos) (mY r ta tb):=by
 intro pins s O H Q I h
 exact wpAny_Compare1 (Fy ha hb I h λv u s2 x y H2 I2 rx ry q=>ho pins s2 O H2 x y v u Q I2 rx ry q) hm
def xV(t:TE):TT:=λO H Q=>t O H λx H' =>∃k,x = .bl k/\Q k H'
def cK{op:CmpOp}(ho:dC X (compareOp op) r)(ha:PE X a ta)(hb:PE X b tb)(hm:behindInMarks op b=false:=by first | exact FA _ | rfl):PT X (.Compare a [op] [b] pos) (xV (mY r ta tb)):=by
 intro pins s O H Q I h
 refine wpAny_isTrue_Compare1 (aD (ha pins s O H _ I h) λv s1 ⟨x,H1,I1,r1,q1⟩=>aD (hb pins s1 O H1 _ I1 q1) λu s2 ⟨y,H2,I2,r2,q2⟩=>
  aD (ho pins s2 O H2 x y v u _ I2 r1 r2 q2) λc s3 ⟨z,H3,I3,r3,k,e,q3⟩=>?_) hm
 subst e
 cases r3
 exact qf ⟨H3,I3,q3⟩
def Mh(r r':R2)(ta tb tc:TE):TE:=λO H Q=>ta O H λx H1=>tb O H1 λy H2=>r x y H2 λz H3=>∃k,z = .bl k/\
 (if k=true then tc O H3 λw' H4=>r' y w' H4 Q else Q (.bl false) H3)
def U1{op:CmpOp}(ho:dC X (compareOp op) r)(lF:dC X (compareOp sL) r')(ha:PE X a ta)(hb:PE X b tb)(hc:PE X c tc)
  (hm:lastMarks [op,sL] [b,c]=false:=by with_unfolding_all rfl):PE X (.Compare a [op,sL] [b,c] pos) (Mh r r' ta tb tc):=by
 intro pins s O H Q I h
 refine Compare_chain (aD (ha pins s O H _ I h) λv s1 ⟨x,H1,I1,r1,q1⟩=>chain_link (aD (hb pins s1 O H1 _ I1 q1) λu s2 ⟨y,H2,I2,r2,q2⟩=>
  aD (ho pins s2 O H2 x y v u _ I2 r1 r2 q2) λd s3 ⟨z,H3,I3,r3,k,e,q3⟩=>?_)) hm
 subst e
 cases r3
 refine qf ?_
 cases k with
 |false=>exact ite_ff ⟨.bl false,H3,I3,rfl,q3⟩
 |true=>exact ite_tt (chain_last (aD (hc pins s3 O H3 _ I3 q3) λw' s4 ⟨z',H4,I4,r4,q4⟩=>lF pins s4 O H4 y z' u w' Q I4 r2 r4 q4))
def Bt{op:CmpOp}(ho:dC X (compareOp op) r)(lF:dC X (compareOp sL) r')(ha:PE X a ta)(hb:PE X b tb)(hc:PE X c tc)
  (hm:lastMarks [op,sL] [b,c]=false:=by with_unfolding_all rfl):PT X (.Compare a [op,sL] [b,c] pos) (xV (Mh r r' ta tb tc)):=by
 intro pins s O H Q I h
 refine isTrue_chain (aD (ha pins s O H _ I h) λv s1 ⟨x,H1,I1,r1,q1⟩=>test_link (aD (hb pins s1 O H1 _ I1 q1) λu s2 ⟨y,H2,I2,r2,q2⟩=>
  aD (ho pins s2 O H2 x y v u _ I2 r1 r2 q2) λd s3 ⟨z,H3,I3,r3,k,e,q3⟩=>?_)) hm
 subst e
 cases r3
 refine qf ?_
 cases k with
 |false=>
  obtain⟨k',e',q'⟩:=q3
  cases e'
  exact ite_ff ⟨H3,I3,q'⟩
 |true=>
  refine ite_tt (test_last (aD (hc pins s3 O H3 _ I3 q3) λw' s4 ⟨z',H4,I4,r4,q4⟩=>aD (lF pins s4 O H4 y z' u w' _ I4 r2 r4 q4) λd' s5 ⟨z2,H5,I5,r5,k2,e2,q5⟩=>?_))
  subst e2
  cases r5
  exact qf ⟨H5,I5,q5⟩
def xW(K:Frag)(x:V)(H:Hp)(k:Bool):Prop:=
 match x with
 |.aw=>k=false
 |.bl b=>k=b
 |.int i=>k=(i != 0)
 |.str y=>y.length<=sizeLine/\k=((y.length:Int) != 0)
 |.i9 y=>y.size<=sizeLine/\k=((y.size:Int) != 0)
 |.ref p=>(∃xs,aq K H p xs/\k = !xs.isEmpty)\/(∃xs,aA K H p xs/\k = !xs.isEmpty)\/∃kvs,H p=some (.dK kvs)/\k = !kvs.isEmpty
 |_=>False
def U2{kvs:List (κ×V)}{vs:List (κ×Value)}(r:KV kvs vs):(!vs.isEmpty) = !kvs.isEmpty:=by
 cases r <;> rfl
def Mi(r:Vals xs its):(!its.toArray.isEmpty) = !xs.isEmpty:=by
 cases r <;> simp
def oq:(sizeLine:Nat)<2 ^ 63:=by rw[sizeLine_eq];decide
theorem Mj:UW X (λx H Q=>∃k,xW X.K x H k/\Q k H):=by
 intro pins s O H x v Q I rx h
 obtain⟨k,e,q⟩:=h
 have hl:=oq
 have hs:sizeLine=16777216:=sizeLine_eq
 cases x with
 |aw=>
  cases rx
  have e':k=false:=e
  subst e'
  exact truthy_none ⟨H,I,q⟩
 |bl b=>
  cases rx
  have e':k=b:=e
  subst e'
  exact qf ⟨H,I,q⟩
 |int i=>
  obtain⟨t,rfl⟩:=rx
  have e':k=(i != 0):=e
  subst e'
  exact PySem.P.truthy_int ⟨H,I,q⟩
 |str y=>
  obtain⟨t,rfl⟩:=rx
  obtain⟨hy,e'⟩:y.length<=sizeLine/\k=((y.length:Int) != 0):=e
  subst e'
  exact PySem.P.truthy_str (by lia) ⟨H,I.tok _,q⟩
 |i9 y=>
  obtain⟨t,rfl⟩:=rx
  obtain⟨hy,e'⟩:y.size<=sizeLine/\k=((y.size:Int) != 0):=e
  subst e'
  exact PySem.W.truthy_bytes (by lia) ⟨H,I.tok _,q⟩
 |ref p=>
  cases rx
  have e':(∃xs,aq X.K H p xs/\k = !xs.isEmpty)\/(∃xs,aA X.K H p xs/\k = !xs.isEmpty)\/∃kvs,H p=some (.dK kvs)/\k = !kvs.isEmpty:=e
  rcases e' with ⟨xs,hx,e'⟩ | ⟨xs,hx,e'⟩ | ⟨kvs,hx,e'⟩
  .subst e'
   obtain⟨its,r,pl,hz⟩:=I.list hx
   have hlen:=r.length
   exact wpAny_truthy_list pl.isList (by simp only[br];lia) ⟨H,I.tok _,by rw[Mi r];exact q⟩
  .subst e'
   obtain⟨its,r,pl,hz⟩:=I.tuple hx
   have hlen:=r.length
   exact truthy_tuple pl (by simp only[br];lia) ⟨H,I.tok _,by rw[Mi r];exact q⟩
  .subst e'
   obtain⟨hz,hS,vs,r,m⟩:kvs.length<=sizeLine/\(p==sysModules)=false/\∃vs,KV kvs vs/\s.heap.DictOf (d8 X.prog X.w) p vs:=I.ar p _ hx
   have hlen:kvs.length=vs.length:=gR r
   exact wpAny_truthy_dict hS m (by lia) ⟨H,I.tok _,by rw[U2 r];exact q⟩
 |_=>exact(show False from e).elim
def ot(ha:PE X a ta)(he:∀whole,isTrue a X.env whole=(do let v<-whole;standAt a.pos;holding [v] (truthy v))) :
  PT X a (λO H Q=>ta O H λx H' =>∃k,xW X.K x H' k/\Q k H'):=by
 intro pins s O H Q I h
 exact isTrue_plain (aD (ha pins s O H _ I h) λv s1 ⟨x,H1,I1,r1,q1⟩=>Mj pins s1 O H1 x v Q I1 r1 q1) (he _)
def xX:dC X (binaryOp .Add) (λx y H Q=>∃i j,x = .str i/\y = .str j/\i.length+j.length<=sizeLine/\Q (.str (i++j)) H):=by
 intro pins s O H x y v u Q I rx ry h
 obtain⟨i,j,rfl,rfl,hz,q⟩:=h
 obtain⟨t,rfl⟩:=rx
 obtain⟨t',rfl⟩:=ry
 exact add_str (λt' tk=>⟨.str (i++j),H,I.tok _,⟨_,rfl⟩,q⟩) hz
def vals1{x:V}(r:Vals [x] us):∃u,us=[u]/\RelV x u:=by
 cases r with
 |cons r1 r2=>cases r2;exact⟨_,rfl,r1⟩
def vals2{x:V}(r:Vals [x,y] us):∃u w',us=[u,w']/\RelV x u/\RelV y w':=by
 cases r with
 |cons r1 r2=>
  cases r2 with
  |cons r3 r4=>cases r4;exact⟨_,_,rfl,r1,r3⟩
end
structure sM(h:Heap)(x dx C:Addr)(mA:Str->Option Value):Prop where
 obj:h.get? x=some (instObj C dx)
 ns:h.Ns1 dx mA
 ne:dx≠x
def Ml(n:h.Ns1 dx mA):∃od,h.get? dx=some od/\∀name,lookIn name od=some (mA name):=by
 obtain⟨o,es,ep,ho,hd,hk,_,hm⟩:=n
 refine⟨o,ho,λname=>?_⟩
 have e:=hm name
 unfold nsFind findBy at e
 rw[<-Array.find?_toList] at e
 unfold lookIn
 rw[hd]
 dsimp only
 split
 .rename_i y q
  rw[q] at e
  exact eX some e
 .rename_i q
  rw[q] at e
  have a:es.toList.any (·.refKey)=false:=by
   rw[List.any_eq_false]
   intro y hy
   obtain⟨z,t,xY⟩:=hk y (Array.mem_toList_iff.mp hy)
   simp[DictEntry.refKey,xY]
  have a':¬es.toList.any (·.refKey)=true:=by rw[a];exact cy
  rw[au a']
  exact eX some e
def sM.look{x:Addr}(I:sM h x dx C mA):∃od,PySem.W.InstAt h x (instObj C dx) C (some od)/\∀name,lookIn name od=some (mA name):=
 let ⟨od,ho,hl⟩:=Ml I.ns
 ⟨od,⟨I.obj,rfl,rfl,ho⟩,hl⟩
section
variable{prog:Program}{w:World}{A:Around}{E:Value->Shared->Prop}{s:Shared}{K:Frag}{x dx C f:Addr}{mA:Str->Option Value}{name:Str}{v:Value}
def get_map(X:K.In s.heap)(I:sM s.heap x dx C mA)(hg:plainGet K C name=true)(hh:hasDictIn K C=true)
  (ha:findIn K (.ref C) name=some none) (hv:mA name=some v) (FC:PySem.W.handedIn v=true) (h:Q v { s with toks:=s.toks+1 }) :
  wpAny (model prog w) A (getAttr (.ref x) name expr) Q E s:=by
 obtain⟨od,J,hl⟩:=I.look
 exact PySem.W.get_value X J (Ls hg).1 (PySem.W.findObj_own hh ha rfl (by rw[hl,hv])) FC h
def U3{Q:Value×List Value->Shared->Prop}(X:K.In s.heap)(I:sM s.heap x dx C mA)(hg:plainGet K C name=true)
  (hf:findIn K (.ref C) name=some (some (.ref f))) (ht:isFn K (.ref f)=true) (hv:mA name=none) (h:Q (.ref f,[.ref x]) s) :
  wpAny (model prog w) A (getMethod (.ref x) name pl) Q E s:=by
 obtain⟨od,J,hl⟩:=I.look
 exact PySem.W.method_fn X J (Ls hg).1 (Ls hg).2 hf (gS.mp ht) (by show(lookIn name od).map (·.isSome)=some false;rw[hl,hv];rfl) h
theorem U4{Q:Unit->Shared->Prop}(X:K.In s.heap)(I:sM s.heap x dx C mA)
  (hs:findIn K (.ref C) "__setattr__"=some (some (.builtin "object.__setattr__"))) (hp:plainOver K C=true) (ht:takerIn K C name=some none) (hh:hasDictIn K C=true)
  (hw:PySem.Within mA ns) (hsz:ns.length<=sizeLine)
  (h:∀h',sM h' x dx C (λy=>if y=name then some v else mA y)->Heap.SameBut dx s.heap h'->Q () { s with heap:=h',toks:=s.toks+2 }) :
  wpAny (model prog w) A (setAttr (.ref x) name v) Q E s:=by
 obtain⟨od,J,hl⟩:=I.look
 refine PySem.W.set_plain X J hs (PySem.W.osa_open (s:={ s with toks:=s.toks+1 }) (r:=none) X J hp ht λb=>?_)
 obtain⟨cd,hc,vo⟩:=PySem.W.any_some hh
 have hx:s.heap.get? x=some ⟨.ref C,some dx,.plain,#[]⟩:=I.obj
 refine ah (aE (ah (ah (Lu hx (ah (Looks.here (s:={ s with toks:=s.toks+1 }) (PySem.W.looks_clsIn X hc) ?_))))))
 rw[vo]
 refine aE (a:=some dx) (ah (aE (ah ?_)))
 refine wpAny_nsSet1 (s:={ s with toks:=s.toks+1 }) I.ns λh' sN xZ=>?_
 obtain⟨oD,U5,U6,U7,U8,U9⟩:=sN.count (PySem.Within.cons name v hw)
 refine ah (wpAny_lookBehind U7 (by rw[U8];exact pastItsLine_dict (bL U9 (by rw[eJ];lia))) ?_)
 exact aE (h _ ⟨(xZ.2 _ (aP I.ne)).trans I.obj,sN,I.ne⟩ xZ)
def Va{vs:List Value}(X:K.In s.heap)(hm:makesIn K C=true)
  (hi:findIn K (.ref C) "__init__"=some (some (.ref f))) (hf:PySem.W.typeIn K (.ref f)=some (.type "function"))
  (h:codeAny (model prog w) (A.under (.builtin "type.__call__" ⟨.ref C::vs,kw⟩)) (.call (.ref f) ⟨.ref (s.heap.objs.size+1)::vs,kw⟩) (PySem.W.InitBack (s.heap.objs.size+1) R)
   { s with heap:=(s.heap.push emptyDict).push (instObj C s.heap.objs.size) }) :
  codeAny (model prog w) A (.call (.ref C) ⟨vs,kw⟩) R s:=by
 obtain⟨hh,g,d,t,os⟩:=s
 exact PySem.W.make_core (PySem.W.makes_of X hm) (rQ X hi) (λself=>PySem.W.bind_fn X self hf) (.inl rfl) h
def Vb(X:K.In s.heap)(hm:makesIn K C=true)
  (hi:findIn K (.ref C) "__init__"=some (some (.builtin "object.__init__")))
  (hb:∀self,Looks (model prog w) s.heap (bindSpecial (.builtin "object.__init__") self) (.builtin "object.__init__",[self]))
  (h:codeAny (model prog w) (A.under (.builtin "type.__call__" ⟨[.ref C],[]⟩)) (.call (.builtin "object.__init__") ⟨[.ref (s.heap.objs.size+1)],[]⟩) (PySem.W.InitBack (s.heap.objs.size+1) R)
   { s with heap:=(s.heap.push emptyDict).push (instObj C s.heap.objs.size) }) :
  codeAny (model prog w) A (.call (.ref C) ⟨[],[]⟩) R s:=by
 obtain⟨hh,g,d,t,os⟩:=s
 exact PySem.W.make_core (PySem.W.makes_of X hm) (rQ X hi) hb (.inr ⟨rfl,rfl⟩) h
end
noncomputable def aR(f:Str)(v:V):List (Str×V)->List (Str×V)
 |[]=>[(f,v)]
 |(g,x)::r=>if g=f then (g,v)::r else (g,x)::aR f v r
theorem de(f g:Str)(v:V):∀fs:List (Str×V),(aR f v fs).lookup g=if g=f then some v else fs.lookup g
 |[]=>by
  show List.lookup g [(f,v)]=_
  by_cases h:g=f
  .have hb:(g==f)=true:=gS.mpr h
   simp only[List.lookup,hb,aC h]
  .have hb:(g==f)=false:=uV.mpr h
   simp only[List.lookup,hb,au h]
 |(k,x)::r=>by
  have ih:=de f g v r
  rw[show aR f v ((k,x)::r)=(if k=f then (k,v)::r else (k,x)::aR f v r) from rfl]
  by_cases hk:k=f
  .rw[aC hk]
   by_cases h:g=k
   .have hb:(g==k)=true:=gS.mpr h
    simp only[List.lookup,hb,aC (h.trans hk)]
   .have hb:(g==k)=false:=uV.mpr h
    simp only[List.lookup,hb,au (λe:g=f=>h (e.trans hk.symm))]
  .rw[au hk]
   by_cases h:g=k
   .have hb:(g==k)=true:=gS.mpr h
    simp only[List.lookup,hb,au (λe:g=f=>hk (h.symm.trans e))]
   .have hb:(g==k)=false:=uV.mpr h
    simp only[List.lookup,hb]
    exact ih
theorem FD(f:Str)(v:V):∀fs:List (Str×V),f∈(aR f v fs).map (·.1)/\∀g,g∈fs.map (·.1)->g∈(aR f v fs).map (·.1)
 |[]=>⟨by simp[aR],λg h=>by simp at h⟩
 |(k,x)::r=>by
  obtain⟨i1,i2⟩:=FD f v r
  rw[show aR f v ((k,x)::r)=(if k=f then (k,v)::r else (k,x)::aR f v r) from rfl]
  by_cases hk:k=f
  .rw[aC hk]
   subst hk
   exact⟨by simp,λg h=>by simpa using h⟩
  .rw[au hk]
   refine⟨?_,λg h=>?_⟩
   .rw[cF]
    exact cW _ i1
   .rw[cF] at h ⊢
    rcases cx.mp h with e | e
    .exact cx.mpr (.inl e)
    .exact cW _ (i2 g e)
theorem Mm(f:Str)(v:V):∀fs:List (Str×V),(aR f v fs).length<=fs.length+1
 |[]=>by simp[aR]
 |(k,x)::r=>by
  have ih:=Mm f v r
  rw[show aR f v ((k,x)::r)=(if k=f then (k,v)::r else (k,x)::aR f v r) from rfl]
  by_cases hk:k=f
  .rw[aC hk,eJ,eJ];lia
  .rw[au hk,eJ,eJ];lia
def eT.some_of{o:Option Value}(r:eT (some v) o):∃u,o=some u/\RelV v u:=by
 cases o with
 |none=>exact(show False from r).elim
 |some u=>exact⟨u,rfl,r⟩
def eT.none_of{o:Option Value}(r:eT none o):o=none:=by
 cases o with
 |none=>rfl
 |some u=>exact(show False from r).elim
def Mn(r:RelV v u):PySem.W.handedIn u=true:=by
 cases v with
 |aw=>cases(show u=Value.none from r);rfl
 |bl b=>cases(show u=Value.bool b from r);rfl
 |int i=>obtain⟨t,e⟩:=(show ∃t,u=Value.int i t from r);cases e;rfl
 |str x=>obtain⟨t,e⟩:=(show ∃t,u=Value.str x t from r);cases e;rfl
 |i9 b=>obtain⟨t,e⟩:=(show ∃t,u=Value.bytes b t from r);cases e;rfl
 |r9 b=>obtain⟨t,e⟩:=(show ∃t,u=Value.float b t from r);cases e;rfl
 |ref a=>cases(show u=Value.ref a from r);rfl
 |ty n=>cases(show u=Value.type n from r);rfl
section
variable{P:Program}{w:World}{H H':Hp}{h h':Heap}{a C dx:Addr}{fs se:List (Str×V)}
def x2(ar:dB P w H h)(e:H a=some (.ins C dx fs)):∃mA,sM h a dx C mA/\(∀f,eT (fs.lookup f) (mA f))/\PySem.Within mA (fs.map (·.1))/\fs.length<=1000/\H dx=some (.own a):=by
 obtain⟨d,z,ne,ob,mA,n,r,q⟩:=(show dk P w H h a (.ins C dx fs) from ar a _ e)
 exact⟨mA,⟨ob,n,ne⟩,r,q,z,d⟩
end
structure cS(K:Frag)(C:Addr):Prop where
 pg:plainGet K C Str.empty=true
 hd:hasDictIn K C=true
 po:plainOver K C=true
 sa:findIn K (.ref C) "__setattr__"=some (some (.builtin "object.__setattr__"))
def cS.get(c:cS K C)(f:Str):plainGet K C f=true:=c.pg
def bQ(K:Frag)(C:Addr)(f:Str):Prop:=findIn K (.ref C) f=some none
def bQ.Vc{f:Str}(n:bQ K C f):takerIn K C f=some none:=by
 unfold takerIn
 rw[show findIn K (.ref C) f=some none from n]
 rfl
structure Meth(K:Frag)(C:Addr)(m:Str)(f:Addr):Prop where
 at_:findIn K (.ref C) m=some (some (.ref f))
 fn:isFn K (.ref f)=true
 kp:keepIn K (.ref f)=true
section
variable{X:Cx}{pins:List (Addr×Obj)}{O:St}{H:Hp}{s:Shared}{a C dx:Addr}{fs:List (Str×V)}{f:Str}{v:V}{A:Around}{E:Value->Shared->Prop}
def Vd{b:Bool}(I:Inv X pins O H s)(e:H a=some (.ins C dx fs))(c:cS X.K C)(n:bQ X.K C f)(l:fs.lookup f=some v)
  (h:∀u s',Inv X pins O H s'->RelV v u->Q u s'):wpAny (model X.prog X.w) A (getAttr (.ref a) f b) Q E s:=by
 obtain⟨mA,σ,r,_,_,_⟩:=x2 I.ar e
 obtain⟨u,hu,ru⟩:=eT.some_of (v:=v) (o:=mA f) (by rw[<-l];exact r f)
 exact get_map I.bN σ (c.get f) c.hd n hu (Mn ru) (h u _ (I.tok _) ru)
def Mo{m:Str}{g:Addr}{Q:Value×List Value->Shared->Prop}(I:Inv X pins O H s)(e:H a=some (.ins C dx fs))(c:cS X.K C)(k:Meth X.K C m g)(l:fs.lookup m=none)
  (h:Q (.ref g,[.ref a]) s):wpAny (model X.prog X.w) A (getMethod (.ref a) m pl) Q E s:=by
 obtain⟨mA,σ,r,_,_,_⟩:=x2 I.ar e
 have hn:mA m=none:=eT.none_of (by rw[<-l];exact r m)
 exact U3 I.bN σ (c.get m) k.at_ k.fn hn h
theorem Ve{Q:Unit->Shared->Prop}(I:Inv X pins O H s)(e:H a=some (.ins C dx fs))(c:cS X.K C)(n:bQ X.K C f)(hl:fs.length<1000)(ry:RelV y u)
  (h:∀s',Inv X pins O (upd H a (.ins C dx (aR f y fs))) s'->Q () s'):wpAny (model X.prog X.w) A (setAttr (.ref a) f u) Q E s:=by
 obtain⟨mA,σ,r,wi,_,ho⟩:=x2 I.ar e
 have hz:(fs.map (·.1)).length<=sizeLine:=by rw[av,sizeLine_eq];lia
 refine U4 I.bN σ c.sa c.po n.Vc c.hd wi hz λh' σ' sb=>h _ ?_
 have hd:∃o,h'.get? dx=some o:=let ⟨o,_,_,e',_⟩:=σ'.ns;⟨o,e'⟩
 refine I.write (x:=a) (e:=dx) (by rw[e];exact True.intro) (.inr ho) (λb q hb z=>(sb.2 b hb).trans z) hd ?_
 refine⟨by rw[ak σ.ne];exact ho,?_,σ.ne,σ'.obj,_,σ'.ns,λg=>?_,λg hg=>?_⟩
 .have:=Mm f y fs;lia
 .show eT ((aR f y fs).lookup g) (if g=f then some u else mA g)
  rw[de]
  by_cases q:g=f
  .rw[aC q,aC q];exact ry
  .rw[au q,au q];exact r g
 .by_cases q:g=f
  .rw[q];exact(FD f y fs).1
  .refine(FD f y fs).2 g (wi g λz=>hg ?_)
   show(if g=f then some u else mA g)=none
   rw[au q];exact z
def Inv.made(I:Inv X pins O H s):Inv X pins O (upd (upd H s.heap.objs.size (.own (s.heap.objs.size+1))) (s.heap.objs.size+1) (.ins C s.heap.objs.size []))
  { s with heap:=(s.heap.push emptyDict).push (instObj C s.heap.objs.size) }:=by
 have e1:(s.heap.push emptyDict).get? s.heap.objs.size=some emptyDict:=cQ s.heap rfl
 have e2:((s.heap.push emptyDict).push (instObj C s.heap.objs.size)).get? (s.heap.objs.size+1)=some (instObj C s.heap.objs.size):=by
  have:=cQ (s.heap.push emptyDict) (o:=instObj C s.heap.objs.size) rfl
  rwa [j3] at this
 have e3:(s.heap.push emptyDict).Ns s.heap.objs.size (λ_=>none):=⟨emptyDict,#[],_,e1,rfl,(λe he=>absurd he (by simp)),λ_=>rfl⟩
 have I1:=I.laid (a:=s.heap.objs.size) (o := .own (s.heap.objs.size+1)) (h':=s.heap.push emptyDict) (t':=s.toks) (λb u q=>bq _ q) (aQ _) ⟨_,e1⟩
 refine I1.laid (a:=s.heap.objs.size+1) (o := .ins C s.heap.objs.size []) (t':=s.toks) (λb u q=>bq _ q) (Nat.le_of_eq (j3 _ _)) ?_
 have ne:s.heap.objs.size≠s.heap.objs.size+1:=bV (uZ _)
 refine⟨by rw[ak ne,ao],bW _,ne,e2,λ_=>none,(Heap.Ns1.of_empty e3).at λo q=>bq _ q,λ_=>True.intro,λy hy=>absurd rfl hy⟩
def FE{env:Env}{f:Str}{s:Shared}(hb:attributeBase e f env (eval e env)=eval e env)
  (h:wpAny (model prog w) A (eval e env) (λo s₁=>wpAny (model prog w) A (getAttr o f true) Q E s₁) E s):wpAny (model prog w) A (eval (.Attribute e f pos) env) Q E s:=
 Attribute_any_ h (by rw[arm_eval_Attribute,hb])
end
def Mp(K:Frag)(ta:TE)(f:Str):TE:=λO H Q=>ta O H λx H1=>∃a C dx fs v,x = .ref a/\H1 a=some (.ins C dx fs)/\cS K C/\bQ K C f/\fs.lookup f=some v/\Q v H1
def Vf(K:Frag)(ta tv:TE)(f:Str):TS:=λD O H=>tv O H λy H1=>ta O H1 λx H2=>∃a C dx fs,x = .ref a/\H2 a=some (.ins C dx fs)/\cS K C/\bQ K C f/\fs.length<1000/\
 D.nx O (upd H2 a (.ins C dx (aR f y fs)))
section
variable{X:Cx}{o e value:Expr}{f:Str}{pos pos' ou:Pos}{ta tv:TE}
def du(he:PE X e ta)(hb:attributeBase e f X.env (eval e X.env)=eval e X.env):PE X (.Attribute e f pos) (Mp X.K ta f):=by
 intro pins s O H Q I h
 refine FE hb (aD (he pins s O H _ I h) λu s1 h_=>?_)
 obtain⟨x,H1,I1,rx,a,C,dx,fs,v,ex,ea,c,n,l,q⟩:=h_
 subst ex
 obtain rfl:u=Value.ref a:=rx
 exact Vd I1 ea c n l λu' s2 I2 ru=>⟨v,H1,I2,ru,q⟩
def lJ(ha:PE X o ta)(hv:PE X value tv)(hs:swapsWith value (some (.Attribute o f pos')) pos.line X.env=pure false):PS X (.Assign [.Attribute o f pos'] value pos) (Vf X.K ta tv f):=by
 intro pins s O H D I h
 refine plainObj_wpAny_Assign_Attribute (aD (hv pins s O H _ I h) λu s1 ⟨y,H1,I1,ry,q⟩=>aD (ha pins s1 O H1 _ I1 q) λov s2 ⟨x,H2,I2,rx,a,C,dx,fs,ex,ea,c,n,l,q2⟩=>?_) hs
 subst ex
 obtain rfl:ov=Value.ref a:=rx
 exact Ve I2 ea c n l ry λs3 I3=>⟨O,_,I3,q2⟩
end
section
variable{X:Cx}{pins:List (Addr×Obj)}{O:St}{H:Hp}{s:Shared}{A:Around}{E:Value->Shared->Prop}{Q:Value->Shared->Prop}{c:Value}{b:Bool}
inductive jd(K:Frag)(H:Hp):V->Value->Prop where
 |aw:jd K H .aw (.type "NoneType")
 |bl (x:Bool):jd K H (.bl x) (.type "bool")
 |int (i:Int):jd K H (.int i) (.type "int")
 |str (x:Str):jd K H (.str x) (.type "str")
 |r9 (x:UInt64):jd K H (.r9 x) (.type "float")
 |lst {a:Addr}{xs:List V}(e:H a=some (.lst xs)):jd K H (.ref a) (.type "list")
 |eC {a:Addr}{o:Obj}{xs:List V}(e:H a=some (.eC o (.lst xs))):jd K H (.ref a) (.type "list")
 |tup {a:Addr}{xs:List V}(e:H a=some (.tup xs)):jd K H (.ref a) (.type "tuple")
 |dK {a:Addr}{kvs:List (Key×V)}(e:H a=some (.dK kvs)):jd K H (.ref a) (.type "dict")
 |dT {a:Addr}{kvs:List (List Key×V)}(e:H a=some (.dT kvs)):jd K H (.ref a) (.type "dict")
 |ins {a C dx:Addr}{fs:List (Str×V)}(e:H a=some (.ins C dx fs)) (cl:cS K C) (ha:findIn K (.ref C) "__class__"=some (some (.builtin "object.__class__")))
   (hn:specialIn K (.builtin "object.__class__") "__get__"=some (some (.builtin "getset_descriptor.__get__"))) (gW:takesIn K (.builtin "object.__class__")=some true)
   (hm:mroIn K C (.type "object")=some true):jd K H (.ref a) (.ref C)
def Vg{x:V}{t:Value}(I:Inv X pins O H s)(rx:RelV x u)(ty:jd X.K H x t)(e:kitOne X.K t c=some b)(h:∀tk,Q (.bool b) { s with toks:=tk }) :
  wpAny (model X.prog X.w) A (call (.builtin "isinstance") [u,c]) Q E s:=by
 cases ty with
 |aw=>cases(show u=Value.none from rx);exact ll PySem.W.kitx_none I.bN True.intro e (λz=>nomatch z) h
 |bl y=>cases(show u=Value.bool y from rx);exact ll PySem.W.kitx_bool I.bN True.intro e (λz=>nomatch z) h
 |int i=>obtain⟨t,q⟩:=(show ∃t,u=Value.int i t from rx);cases q;exact ll PySem.W.kitx_int I.bN True.intro e (λz=>nomatch z) h
 |str y=>obtain⟨t,q⟩:=(show ∃t,u=Value.str y t from rx);cases q;exact ll PySem.W.kitx_str I.bN True.intro e (λz=>nomatch z) h
 |r9 y=>obtain⟨t,q⟩:=(show ∃t,u=Value.float y t from rx);cases q;exact ll PySem.W.kitx_float I.bN True.intro e (λz=>nomatch z) h
 |@lst a xs ea=>
  cases(show u=Value.ref a from rx)
  obtain⟨_,_,n,_,h1⟩:=(show dk X.prog X.w H s.heap a (.lst xs) from I.ar a _ ea)
  exact ll PySem.W.kitx_list I.bN ⟨_,h1,rfl⟩ e (λz=>nomatch z) h
 |@eC a ob xs ea=>
  cases(show u=Value.ref a from rx)
  obtain⟨_,_,_,n,_,h1⟩:=(show dk X.prog X.w H s.heap a (.eC ob (.lst xs)) from I.ar a _ ea)
  exact ll PySem.W.kitx_list I.bN ⟨_,h1,rfl⟩ e (λz=>nomatch z) h
 |@tup a xs ea=>
  cases(show u=Value.ref a from rx)
  obtain⟨_,_,_,p⟩:=(show dk X.prog X.w H s.heap a (.tup xs) from I.ar a _ ea)
  obtain⟨o,h1,h2,_⟩:=p
  exact ll PySem.W.kitx_tuple I.bN ⟨o,h1,h2⟩ e (λz=>nomatch z) h
 |@dK a kvs ea=>
  cases(show u=Value.ref a from rx)
  obtain⟨_,_,vs,_,p⟩:=(show dk X.prog X.w H s.heap a (.dK kvs) from I.ar a _ ea)
  obtain⟨o,es,ep,h1,h2,_⟩:=p
  exact ll PySem.W.kitx_dict I.bN ⟨o,h1,h2.1⟩ e (λz=>nomatch z) h
 |@dT a kvs ea=>
  cases(show u=Value.ref a from rx)
  obtain⟨_,_,xs,_,o,es,ep,h1,h2,_⟩:=(show dk X.prog X.w H s.heap a (.dT kvs) from I.ar a _ ea)
  exact ll PySem.W.kitx_dict I.bN ⟨o,h1,h2.1⟩ e (λz=>nomatch z) h
 |@ins a C dx fs ea cl ha hn gW hm=>
  cases(show u=Value.ref a from rx)
  obtain⟨mA,σ,_⟩:=x2 I.ar ea
  obtain⟨od,J,_⟩:=σ.look
  exact ll (PySem.W.kitx_own (cl.get _) cl.hd ha hn gW hm) I.bN J e (λz=>nomatch z) h
end
structure bT(k:Nat)(A:Around):Prop where
 hd:A.handled=none
 dp:A.depth+3*k+5<recursionLimit
 un:A.units+16*k+200<cLine
 gd:A.guards=some []
theorem bT.mono{k:Nat}(r:bT k A)(h:j<=k):bT j A:=⟨r.hd,by have:=r.dp;lia,by have:=r.un;lia,r.gd⟩
theorem bT.deeper{k:Nat}(r:bT (k+1) A)(env:Env):bT k (A.deeper env):=
 ⟨r.hd,by have:=r.dp;show A.depth+1+3*k+5<_;lia,by have:=r.un;show A.units+3+16*k+200<_;lia,r.gd⟩
theorem bT.in1{k:Nat}(r:bT (k+1) A):bT k A.in1:=
 ⟨r.hd,by have:=r.dp;show A.depth+3*k+5<_;lia,by have:=r.un;show A.units+1+16*k+200<_;lia,r.gd⟩
def Vh:(A.under (.builtin "type.__call__" ⟨.ref C::us,kw⟩)).depth=A.depth+1:=by
 first | rfl | simp[Around.under,Code.weight,Code.isCreation,Code.isGuard,Code.isCaller,Code.frames,Code.isFrame,guardIds]
def Vi:(A.under (.builtin "type.__call__" ⟨.ref C::us,kw⟩)).units=A.units+1:=by
 first | rfl | simp[Around.under,Code.cUnits,Code.frames,Code.isFrame]
theorem bT.make{k:Nat}(r:bT (k+1) A)(C:Addr)(us:List Value)(kw:List (Str×Value)):bT k (A.under (.builtin "type.__call__" ⟨.ref C::us,kw⟩)):=
 ⟨r.hd,by have:=r.dp;rw[Vh];lia,by have:=r.un;rw[Vi];lia,r.gd⟩
theorem bT.depth{k:Nat}(r:bT k A):A.depth<recursionLimit:=by have:=r.dp;lia
theorem bT.units{k:Nat}(r:bT k A):A.units+64<cLine:=by have:=r.un;lia
def sO:TA:=λ_ H Q=>Q [] H
def FF(ta:TE)(tr:TA):TA:=λO H Q=>ta O H λx H1=>tr O H1 λxs H2=>Q (x::xs) H2
section
variable{X:Cx}{e:Expr}{es:List Expr}{te:TE}{t:TA}{pos:Pos}
def aj:PA X [] sO:=λ_ _ _ _ H Q I h=>Calls.spliced_nil ⟨[],H,I,.nil,h⟩
def af(ha:PE X e te)(hr:PA X es t)(hs:starEach (e::es) X.env=(false,eval e X.env)::starEach es X.env:=by rfl):PA X (e::es) (FF te t):=by
 intro pos pins s O H Q I h
 rw[hs]
 show wpAny _ _ (spliced ((false,eval e X.env)::backTo pos (starEach es X.env))) _ _ s
 refine EE (aD (ha pins s O H _ I h) λu s1 ⟨x,H1,I1,r1,q1⟩=>?_)
 exact aD (hr pos pins s1 O H1 _ I1 q1) λus s2 ⟨xs,H2,I2,r2,q2⟩=>⟨x::xs,H2,I2,.cons r1 r2,q2⟩
def Vj(t:TA):TE:=λO H Q=>t O H λxs H1=>xs.length<=sizeLine/\∀p,H1 p=none->Q (.ref p) (upd H1 p (.tup xs))
def Vk(t:TA):TE:=λO H Q=>t O H λxs H1=>xs.length<=sizeLine/\∀p,H1 p=none->Q (.ref p) (upd H1 p (.lst xs))
def eZ{x1}(h:PA X es t):PE X (.Tuple es x1 pos) (Vj t):=by
 intro pins s O H Q I hq
 refine wpAny_Tuple_spliced (aD (h pos pins s O H _ I hq) λus s1 ⟨xs,H1,I1,r,z,q⟩=>⟨by rw[<-r.length];exact z,?_⟩)
 have hf:H1 s1.heap.objs.size=none:=I1.ar.fresh (aQ _)
 refine⟨.ref s1.heap.objs.size,upd H1 s1.heap.objs.size (.tup xs),I1.laid (t':=s1.toks) (λb u e=>bq _ e) (aQ _) ?_,rfl,q _ hf⟩
 exact⟨z,us,r,⟨_,cQ _ rfl,rfl,_,rfl⟩⟩
def eE(h:PA X es t):PE X (.List es pos) (Vk t):=by
 intro pins s O H Q I hq
 refine wpAny_List_spliced (aD (h pos pins s O H _ I hq) λus s1 ⟨xs,H1,I1,r,z,q⟩=>⟨by rw[<-r.length];exact z,?_⟩)
 have hf:H1 s1.heap.objs.size=none:=I1.ar.fresh (aQ _)
 refine⟨.ref s1.heap.objs.size,upd H1 s1.heap.objs.size (.lst xs),I1.laid (t':=s1.toks) (λb u e=>bq _ e) (aQ _) ?_,rfl,q _ hf⟩
 exact⟨z,us,0,r,cQ _ rfl⟩
end
abbrev Sp:=List V->Hp->VK->XK->Prop
abbrev lK:=List Env->Hp->Shared->XK->Value->Shared->Prop
structure lL(P:Program)(w:World)(K:Frag)(mg:Str->Option Value)(base:Heap)(A:Around)(outer:List Env)(s:Shared)(H:Hp):Prop where
 frames:A.frames=some outer
 mod:Mod K mg base
 bs:∀b o,base.get? b=some o->s.heap.get? b=some o/\H b=none
 j7:base.objs.size<=s.heap.objs.size
 ip:s.heap.FunFrames base outer
 lE:∀b∈fV outer,H b=none
 ar:dB P w H s.heap
 bare:AllBare s.gens
def CE(outer:List Env)(P:Program)(w:World)(H:Hp)(s:Shared)(Q:VK)(u:Value)(s':Shared):Prop:=
 ∃v H',s'.os=s.os/\AllBare s'.gens/\Un (fV outer) [] H H' s.heap s'.heap/\dB P w H' s'.heap/\RelV v u/\Q v H'
def CR(CX:lK)(outer:List Env)(P:Program)(w:World)(H:Hp)(s:Shared)(Q:VK)(E:XK)(r:Result)(s':Shared):Prop:=
 match r with
 |.ok (.ret u)=>CE outer P w H s Q u s'
 |.ok _=>False
 |.error e=>CX outer H s E e s'
structure aK(P:Program)(w:World)(K:Frag)(mg:Str->Option Value)(base:Heap)(CX:lK)(k:Nat)(f:Addr)(fd:FuncData)(ps:List Str)(sp:Sp):Prop where
 len:∀vs H Q E,sp vs H Q E->vs.length=ps.length
 run:∀(A:Around) (outer:List Env) (s:Shared) (H:Hp) (args:Args) (us:List Value) (vs:List V) (Q:VK) (E:XK),bT k A->lL P w K mg base A outer s H->BindsTo s fd args (ps.zip us)->Vals vs us->sp vs H Q E->
  codeAny (model P w) A (.call (.ref f) args) (CR CX outer P w H s Q E) s
def lL.make(e:lL P w K mg base A outer s H)(C:Addr)(us:List Value)(kw:List (Str×Value)) :
  lL P w K mg base (A.under (.builtin "type.__call__" ⟨.ref C::us,kw⟩)) outer s H:=⟨by first | exact e.frames | (simpa[Around.under,Code.envs,Code.isFrame,pushEnvs] using e.frames),e.mod,e.bs,e.j7,e.ip,e.lE,e.ar,e.bare⟩
theorem lL.in1(e:lL P w K mg base A outer s H) :
  lL P w K mg base A.in1 outer s H:=⟨e.frames,e.mod,e.bs,e.j7,e.ip,e.lE,e.ar,e.bare⟩
section
variable{X:Cx}{pins:List (Addr×Obj)}{O:St}{H:Hp}{s s':Shared}
def Inv.x4(I:Inv X pins O H s):lL X.prog X.w X.K X.mg X.base X.A X.stack s H:=
 ⟨I.ok.frames,I.ok.mod,I.bs,bL I.ok.j7 I.sz,I.stack,I.Bg,I.ar,I.bare⟩
def Inv.after{Q:VK}(I:Inv X pins O H s)(h:CE X.stack X.prog X.w H s Q u s'):EP X pins O Q u s':=by
 obtain⟨v,H',os,bare,un,ar,r,q⟩:=h
 obtain⟨hh,g,d,t,Vl⟩:=s'
 obtain rfl:Vl=s.os:=os
 exact⟨v,H',I.call (h':=hh) (g':=g) (d':=d) (t':=t) (ch:=[]) un ar bare (λb z=>absurd z (by simp)),r,q⟩
end
def x5(sp:Sp)(cw:List V)(E:XK)(t:TA):TE:=λO H Q=>t O H λvs H1=>sp (vs++cw) H1 Q E
def Bu(C:Addr)(m:Str)(sp:Sp)(cw:List V)(E:XK)(ta:TE)(t:TA):TE:=λO H Q=>ta O H λx H1=>∃a dx fs,x = .ref a/\H1 a=some (.ins C dx fs)/\fs.lookup m=none/\
 t O H1 λvs H2=>sp (x::(vs++cw)) H2 Q E
def Bv(C:Addr)(sp:Sp)(cw:List V)(E:XK)(t:TA):TE:=λO H Q=>t O H λvs H1=>∀x dx,H1 x=none->H1 dx=none->dx≠x->
 sp (.ref x::(vs++cw)) (upd (upd H1 dx (.own x)) x (.ins C dx [])) (λv H2=>v = .aw/\Q (.ref x) H2) E
def Binds(K:Frag)(fd:FuncData)(ps:List Str)(ds:List Value):Prop:=
 ∀(s:Shared) (us:List Value),K.In s.heap->(us++ds).length=ps.length->BindsTo s fd ⟨us,[]⟩ (ps.zip (us++ds))
def Binds.all(h:∀us:List Value,us.length=ps.length->bindArgs fd ⟨us,[]⟩=pure (ps.zip us)):Binds K fd ps []:=λs us _ hl=>by
 rw[dS] at hl ⊢
 exact .of_eq (h us hl)
def Passes(CX:lK)(X:Cx)(E:XK):Prop := ∀(pins:List (Addr×Obj)) (O:St) (H:Hp) (s:Shared) (e:Value) (s':Shared),Inv X pins O H s->CX X.stack H s E e s'->X.xe e s'
section
variable{X:Cx}{CX:lK}{k:Nat}{f C:Addr}{fd:FuncData}{ps:List Str}{sp:Sp}{cw:List V}{ds:List Value}{E:XK}{x m:Str}{p pos apos:Pos}{e o:Expr}{es:List Expr}{ta:TE}{t:TA}
def FG{Q:VK}(F:aK X.prog X.w X.K X.mg X.base CX k f fd ps sp)(hr:bT k X.A)(hb:Binds X.K fd ps ds)(hd:Vals cw ds)(hx:Passes CX X E)
  (I:Inv X pins O H s) (r:Vals vs us) (h:sp (vs++cw) H Q E):wpAny (model X.prog X.w) X.A (call (.ref f) us) (EP X pins O Q) X.xe s:=by
 have r2:Vals (vs++cw) (us++ds):=r.append hd
 have hl:(us++ds).length=ps.length:=by rw[<-r2.length];exact F.len _ _ _ _ h
 refine jw (xC (F.run X.A X.stack s H ⟨us,[]⟩ (us++ds) (vs++cw) Q E hr I.x4 (hb s us I.bN hl) r2 h) λr s' hq=>?_)
 cases r with
 |error e=>exact hx pins O H s e s' I hq
 |ok fl=>
  cases fl with
  |ret u=>exact I.after hq
  |next=>exact False.elim hq
  |brk=>exact False.elim hq
  |cont=>exact False.elim hq
def Bw(F:aK X.prog X.w X.K X.mg X.base CX k f fd ps sp)(hr:bT k X.A)(hg:Gl X x)(hm:X.mg x=some (.ref f))(hk:keepIn X.K (.ref f)=true)(hb:Binds X.K fd ps ds)(hd:Vals cw ds)(hx:Passes CX X E)
  (ha:PA X (e::es) t) (cU:(x==("__debug__":Str))=false:=by decide) (he:starEach (e::es) X.env=(false,eval e X.env)::starEach es X.env:=by rfl) (aL:(backTo pos (starEach es X.env)).any (·.1)=false:=by rfl) :
  PE X (.Call (.Name x p) (e::es) [] pos) (x5 sp cw E t):=by
 intro pins s O H Q I h
 refine nW (lG I hg hm ?_ cU)
 refine xD (h₀:=X.base) I.ok.mod.lD hk (aD (ha pos pins s O H _ I h) λus s1 ⟨vs,H1,I1,r,q⟩=>⟨I1.bN,?_⟩) he aL
 exact FG F hr hb hd hx I1 r q
def Vm(he:PE X o ta)(c:cS X.K C)(hm:Meth X.K C m f)(F:aK X.prog X.w X.K X.mg X.base CX k f fd ps sp)(hr:bT k X.A)(hb:Binds X.K fd ps ds)(hd:Vals cw ds)(hx:Passes CX X E)(ha:PA X (e::es) t)
  (d9:starEach (e::es) X.env=(false,eval e X.env)::starEach es X.env:=by rfl) (aL:(backTo pos (starEach es X.env)).any (·.1)=false:=by rfl)
  (ht:eval (.Call (.Attribute o m apos) (e::es) [] pos) X.env=(do
   let ov<-eval o X.env
   standAt apos.atName
   let (f,first)<-holding [ov] (getMethod ov m pl)
   callWith pos f first (backTo pos (starEach (e::es) X.env)) (backToKw pos (keywordEach [] X.env))):=by rfl) :
  PE X (.Call (.Attribute o m apos) (e::es) [] pos) (Bu C m sp cw E ta t):=by
 intro pins s O H Q I h
 refine Tv (pl:=pl) (aD (he pins s O H _ I h) λu s1 ⟨x,H1,I1,rx,a,dx,fs,ex,ea,l,q⟩=>?_) ht
 subst ex
 obtain rfl:u=Value.ref a:=rx
 refine Mo I1 ea c hm l ?_
 refine xD (first:=[.ref a]) (h₀:=X.base) I.ok.mod.lD hm.kp (aD (ha pos pins s1 O H1 _ I1 q) λus s2 ⟨vs,H2,I2,r,q2⟩=>⟨I2.bN,?_⟩) d9 aL
 exact FG (us := .ref a::us) (vs := .ref a::vs) F hr hb hd hx I2 (.cons rfl r) q2
def Vn(he:PE X o ta)(c:cS X.K C)(hm:Meth X.K C m f)(F:aK X.prog X.w X.K X.mg X.base CX k f fd ps sp)(hr:bT k X.A)(hb:Binds X.K fd ps ds)(hd:Vals cw ds)(hx:Passes CX X E)
  (ht:eval (.Call (.Attribute o m apos) [] [] pos) X.env=(do
   let ov<-eval o X.env
   standAt apos.atName
   let (f,first)<-holding [ov] (getMethod ov m pl)
   callWith pos f first (backTo pos (starEach [] X.env)) (backToKw pos (keywordEach [] X.env))):=by rfl) :
  PE X (.Call (.Attribute o m apos) [] [] pos) (Bu C m sp cw E ta sO):=by
 intro pins s O H Q I h
 refine Tv (pl:=pl) (aD (he pins s O H _ I h) λu s1 ⟨x,H1,I1,rx,a,dx,fs,ex,ea,l,q⟩=>?_) ht
 subst ex
 obtain rfl:u=Value.ref a:=rx
 refine Mo I1 ea c hm l ?_
 exact PySem.W.callWith_K0 (first:=[.ref a]) I1.bN hm.kp (FG (us:=[.ref a]) (vs:=[.ref a]) F hr hb hd hx I1 (.cons rfl .nil) q)
structure Mk(K:Frag)(C f:Addr):Prop where
 makes:makesIn K C=true
 init:findIn K (.ref C) "__init__"=some (some (.ref f))
 fn:isFn K (.ref f)=true
 kp:keepIn K (.ref C)=true
def Mq{Q:VK}(M:Mk X.K C f)(F:aK X.prog X.w X.K X.mg X.base CX k f fd ps sp)(hr:bT (k+1) X.A)(hb:Binds X.K fd ps ds)(hd:Vals cw ds)
  (hx:Passes CX X E) (I:Inv X pins O H s) (r:Vals vs us)
  (h:∀x dx,H x=none->H dx=none->dx≠x->sp (.ref x::(vs++cw)) (upd (upd H dx (.own x)) x (.ins C dx [])) (λv H2=>v = .aw/\Q (.ref x) H2) E) :
  wpAny (model X.prog X.w) X.A (call (.ref C) us) (EP X pins O Q) X.xe s:=by
 have hq:=h (s.heap.objs.size+1) s.heap.objs.size (I.ar.fresh (fF _)) (I.ar.fresh (aQ _)) (bV (uZ _))
 have I2:=Inv.made (C:=C) I
 have r2:Vals (V.ref (s.heap.objs.size+1)::(vs++cw)) (Value.ref (s.heap.objs.size+1)::(us++ds)) := .cons rfl (r.append hd)
 have hl:(Value.ref (s.heap.objs.size+1)::us++ds).length=ps.length:=by
  have e:=r2.length
  rw[F.len _ _ _ _ hq] at e
  exact e.symm
 refine jw (Va (f:=f) I.bN M.makes M.init (gS.mp M.fn) (xC (F.run _ X.stack _ _ ⟨Value.ref (s.heap.objs.size+1)::us,[]⟩ (Value.ref (s.heap.objs.size+1)::(us++ds)) _ _ E (hr.make C us [])
  (I2.x4.make C us []) (hb _ (Value.ref (s.heap.objs.size+1)::us) I2.bN hl) r2 hq) λr s' fX=>?_))
 cases r with
 |error e=>exact hx pins O _ _ e s' I2 fX
 |ok fl=>
  cases fl with
  |ret u=>
   obtain⟨v,H',I3,rv,ev,q3⟩:=I2.after fX
   subst ev
   exact⟨rv,⟨V.ref (s.heap.objs.size+1),H',I3,rfl,q3⟩⟩
  |next=>exact False.elim fX
  |brk=>exact False.elim fX
  |cont=>exact False.elim fX
def Vo(M:Mk X.K C f)(F:aK X.prog X.w X.K X.mg X.base CX k f fd ps sp)(hr:bT (k+1) X.A)(hg:Gl X x)(hm:X.mg x=some (.ref C))(hb:Binds X.K fd ps ds)(hd:Vals cw ds)(hx:Passes CX X E)
  (ha:PA X (e::es) t) (cU:(x==("__debug__":Str))=false:=by decide) (he:starEach (e::es) X.env=(false,eval e X.env)::starEach es X.env:=by rfl) (aL:(backTo pos (starEach es X.env)).any (·.1)=false:=by rfl) :
  PE X (.Call (.Name x p) (e::es) [] pos) (Bv C sp cw E t):=by
 intro pins s O H Q I h
 refine nW (lG I hg hm ?_ cU)
 refine xD (h₀:=X.base) I.ok.mod.lD M.kp (aD (ha pos pins s O H _ I h) λus s1 ⟨vs,H1,I1,r,q⟩=>⟨I1.bN,?_⟩) he aL
 exact Mq M F hr hb hd hx I1 r q
def Vp(M:Mk X.K C f)(F:aK X.prog X.w X.K X.mg X.base CX k f fd ps sp)(hr:bT (k+1) X.A)(hg:Gl X x)(hm:X.mg x=some (.ref C))(hb:Binds X.K fd ps ds)(hd:Vals cw ds)(hx:Passes CX X E)
  (cU:(x==("__debug__":Str))=false:=by decide):PE X (.Call (.Name x p) [] [] pos) (Bv C sp cw E sO):=by
 intro pins s O H Q I h
 refine nW (lG I hg hm ?_ cU)
 exact PySem.W.callWith_K0 I.bN M.kp (Mq (us:=[]) M F hr hb hd hx I .nil h)
end
structure bu(N P:List Str)(sc:Scope):Prop where
 kind:sc.kind = .function:=by first | rfl | decide +kernel
 co:sc.isCoroutine=false:=by first | rfl | decide +kernel
 gen:sc.isGenerator=false:=by first | rfl | decide +kernel
 nd:N.Nodup:=by first | rfl | decide +kernel
 pre:N.take P.length=P:=by first | rfl | decide +kernel
 par:∀x∈P,sc.names.lookup x=some .local\/sc.names.lookup x=some .cell:=by first | rfl | decide +kernel
 Vq:∀y∈sc.names,y.2 ≠ .free:=by first | rfl | decide +kernel
theorem Mr{kindOf:Str->Option NameKind}{x:Str}:∀{binds:List (Str×Value)}{m:Str->Option Value},(∀v,(x,v)∉binds)->bindL kindOf binds m x=m x
 |[],_,_=>rfl
 |(n,v)::r,m,h=>by
  unfold bindL
  rw[Mr λw hw=>h w (cW _ hw)]
  split
  .have:x≠n:=by rintro rfl;exact h v bK
   simp[this]
  .rfl
theorem Ms{kindOf:Str->Option NameKind}{x:Str}:∀{binds:List (Str×Value)}{m:Str->Option Value},(∀v,(x,v)∉binds)->bindC kindOf binds m x=m x
 |[],_,_=>rfl
 |(n,v)::r,m,h=>by
  unfold bindC
  rw[Ms λw hw=>h w (cW _ hw)]
  split
  .rfl
  .have:x≠n:=by rintro rfl;exact h v bK
   simp[this]
theorem Mu{kindOf:Str->Option NameKind}{x:Str}{v:Value}:∀{P:List Str}{vs:List Value}{i:Nat}{m:Str->Option Value},P.Nodup->P[i]? = some x->vs[i]? = some v->kindOf x=some .local->
  bindL kindOf (P.zip vs) m x=some v
 |[],_,_,_,_,h,_,_=>by simp at h
 |_::_,[],_,_,_,_,h,_=>by simp at h
 |p::P,w::vs,0,m,nd,h1,h2,hk=>by
  simp at h1 h2;subst h1;subst h2
  show bindL kindOf ((p,w)::P.zip vs) m p=_
  unfold bindL
  rw[Mr λv hv=>(ig.mp nd).1 (List.of_mem_zip hv).1,aC hk]
  simp
 |p::P,w::vs,i+1,m,nd,h1,h2,hk=>by
  show bindL kindOf ((p,w)::P.zip vs) m x=_
  unfold bindL
  exact Mu (i:=i) (ig.mp nd).2 (by simpa using h1) (by simpa using h2) hk
theorem Mv{kindOf:Str->Option NameKind}{x:Str}{v:Value}:∀{P:List Str}{vs:List Value}{i:Nat}{m:Str->Option Value},P.Nodup->P[i]? = some x->vs[i]? = some v->kindOf x≠some .local->
  bindC kindOf (P.zip vs) m x=some v
 |[],_,_,_,_,h,_,_=>by simp at h
 |_::_,[],_,_,_,_,h,_=>by simp at h
 |p::P,w::vs,0,m,nd,h1,h2,hk=>by
  simp at h1 h2;subst h1;subst h2
  show bindC kindOf ((p,w)::P.zip vs) m p=_
  unfold bindC
  rw[Ms λv hv=>(ig.mp nd).1 (List.of_mem_zip hv).1,au hk]
  simp
 |p::P,w::vs,i+1,m,nd,h1,h2,hk=>by
  show bindC kindOf ((p,w)::P.zip vs) m x=_
  unfold bindC
  exact Mv (i:=i) (ig.mp nd).2 (by simpa using h1) (by simpa using h2) hk
noncomputable def start(N:List Str)(vs:List V):St:=vs.map some++List.replicate (N.length - vs.length) none
noncomputable def gX(CX:lK)(P:Program)(w:World)(K:Frag)(mg:Str->Option Value)(base:Heap)(N:List Str)(qual:Str)(scope:Scope)(f:Addr)(cd:Value)(A:Around)(outer:List Env)(s:Shared)(H:Hp)(E:XK):Cx where
 prog:=P
 w:=w
 K:=K
 mg:=mg
 base:=base
 A:=A.deeper (envOfC qual scope s.heap.objs.size f cd)
 N:=N
 s₀:=s
 H₀:=H
 env:=envOfC qual scope s.heap.objs.size f cd
 outer:=outer
 stack:=envOfC qual scope s.heap.objs.size f cd::outer
 ex:=[]
 calm:=true
 fn:=λ_=>true
 pn:=[]
 xe:=λe s'=>wpAny (model P w) (A.deeper (envOfC qual scope s.heap.objs.size f cd)) (leaving (envOfC qual scope s.heap.objs.size f cd) e) (λ_ FH=>CX outer H s E e FH) (λe' FH=>CX outer H s E e' FH) s'
def Mw(h:sc.names.lookup x=some .cell):∃c,(cellsFrom n sc.names []).lookup x=some c:=by
 have q:=PySem.W.cellsFrom_some sc.names n [] (.inl h)
 exact Option.isSome_iff_exists.mp q
theorem Vr{CX:lK}{qual:Str}{f:Addr}{s1:Shared}{E:XK}
  (S:bu N ps scope) (hd:A.handled=none) (e0:lL P w K mg base A outer s H) (hl:vs.length=ps.length) (r:Vals vs us)
  (x:InCallC s s.heap.objs.size (bindL (envOfC qual scope s.heap.objs.size f cd).kindOf (ps.zip us) λ_=>none) (cellsFrom (s.heap.objs.size+1) scope.names []) (bindC (envOfC qual scope s.heap.objs.size f cd).kindOf (ps.zip us) λ_=>none) s1) :
  Inv (gX CX P w K mg base N qual scope f cd A outer s H E) [] (start N vs) H s1:=by
 have aL:ps.length<=N.length:=by have:=eX List.length S.pre;rw[ij] at this;lia
 obtain⟨h1,tk,rfl,hk⟩:=x.done
 have x6:∀b:Addr,b∉(gX CX P w K mg base N qual scope f cd A outer s H E).ex:=λb z=>absurd (show b∈([]:List Addr) from z) (by simp)
 refine⟨⟨e0.mod,S.kind,rfl,rfl,aQ _,λy z c h1 h2=>?_,λy hy=>?_,λy c _ h=>?_,λ_=>hd,Around.frames_deeper e0.frames,.inr ⟨rfl,rfl⟩,λb z=>absurd z (x6 b),e0.bs,e0.j7,λb _ _=>x6 b,λb z=>absurd z (x6 b),e0.ip,e0.lE⟩,
  rfl,e0.bare,Un.kept hk,⟨_,x.toInCall.ns,λi y v h1 h2 h3=>?_⟩,λy c h=>⟨_,x.cell y c h⟩,e0.ar.fresh (aQ _),λy c h=>?_,λp hp=>absurd (show p∈([]:List (Addr×Obj)) from hp) (by simp),e0.ar.kept hk,?_⟩
 .exact name_of_addr x.apart (EF h1) (EF h2)
 .have hy:scope.names.lookup y=some .cell\/scope.names.lookup y=some .free:=hy
  rcases hy with hy | hy
  .exact Mw hy
  .exact absurd rfl (S.Vq _ (EF hy))
 .exact AO (x.above y c (EF h))
 .have hi:i<vs.length:=by
   unfold start at h2
   by_cases hi:i<vs.length
   .exact hi
   .rw[AR (by simpa using hi)] at h2
    rw[List.getElem?_replicate] at h2
    split at h2 <;> cases h2
  have ha:vs[i]? = some v:=by
   unfold start at h2
   rw[Lv (by simpa using hi),bF] at h2
   cases e:vs[i]? with
   |none=>rw[e] at h2;cases h2
   |some a=>rw[e] at h2;cases h2;rfl
  obtain⟨u,hu,rv⟩:=r.get ha
  have hp:ps[i]? = some y:=by
   rw[<-S.pre,u6 (by lia)];exact h1
  have Mx:ps.Nodup:=by rw[<-S.pre];exact S.nd.sublist (AS _ _)
  refine⟨u,rv,?_⟩
  rcases S.par y (bM hp) with k | k
  .exact .inl ⟨k,Mu Mx hp hu k⟩
  .obtain⟨c,e⟩:=Mw (n:=s.heap.objs.size+1) k
   refine .inr ⟨.inl k,c,e,?_⟩
   have q:=x.cell y c e
   rw[Mv Mx hp hu (by show scope.names.lookup y≠_;rw[k];decide)] at q
   exact q
 .exact e0.ar.fresh (AO (x.above y c (EF h)))
 .unfold start
  show _=N.length
  rw[d6,av,List.length_replicate]
  lia
def vF{CX:lK}{P:Program}{w:World}{K:Frag}{mg:Str->Option Value}{base:Heap}{k:Nat}{f:Addr}{name qual:Str}{params:Arguments}{body:List Stmt}{scope:Scope}{dV kV doc pm aF ct oc:Value}{an od:Option Addr}
  {je:Array (Option Value)}{N ps:List Str}{sp:Sp}(lk:K.lookup f=some ⟨oc,od,.func (fnOf name qual params body scope dV kV doc pm an aF ct),je⟩) (gu:codeIn K aF qual=true) (S:bu N ps scope)
  (len:∀vs H Q E,sp vs H Q E->vs.length=ps.length)
  (lM:∀(A:Around) (outer:List Env) (s:Shared) (H:Hp) (vs:List V) (Q:VK) (E:XK),bT k (A.deeper (envOfC qual scope s.heap.objs.size f aF))->sp vs H Q E->
   ∃t,eU (gX CX P w K mg base N qual scope f aF A outer s H E) body t/\t { nx:=λ_ H'=>Q .aw H',rt:=Q } (start N vs) H) :
  aK P w K mg base CX (k+1) f (fnOf name qual params body scope dV kV doc pm an aF ct) ps sp:=by
 refine⟨len,λA outer s H args us vs Q E hr e0 hb r iq=>?_⟩
 have hl:=len _ _ _ _ iq
 have KX:K.In s.heap:=e0.mod.lD.keeps λb o e=>(e0.bs b o e).1
 have lim:s.heap.NoLimit:=e0.mod.nolimit.keeps λb o e=>(e0.bs b o e).1
 have Vs:∀y∈ps.zip us,scope.names.lookup y.1=some .local\/(scope.names.lookup y.1=some .cell/\((cellsFrom (s.heap.objs.size+1) scope.names []).lookup y.1).isSome=true):=λ⟨n,v⟩ hy=>by
  rcases S.par n (List.of_mem_zip hy).1 with q | q
  .exact .inl q
  .exact .inr ⟨q,PySem.W.cellsFrom_some _ _ _ (.inl q)⟩
 refine codeAny_call_function hr.depth (KX _ _ lk) rfl S.co S.gen rfl (PySem.W.codeRec_of KX gu) (hb _ _ _ _ ?_)
 refine wpAny_newFunctionEnv_cells S.kind Vs λenv he s1 x=>?_
 subst he
 refine⟨lim.keeps x.toInCall.keep,codeAny_func ?_⟩
 obtain⟨t,ht,hq⟩:=lM A outer s H vs Q E (hr.deeper _) iq
 have I:Inv (gX CX P w K mg base N qual scope f aF A outer s H E) [] (start N vs) H s1:=Vr S hr.hd e0 hl r x
 refine fC (ht [] s1 (start N vs) H _ I hq) (λfl s' hs=>?_) λe s' hs=>hs
 have fin:∀{O':St}{H':Hp}{v:V}{u:Value},Inv (gX CX P w K mg base N qual scope f aF A outer s H E) [] O' H' s'->RelV v u->Q v H'->CE outer P w H s Q u s':=
  λ{O' H' v u} J rv q=>⟨v,H',J.os,J.bare,J.base,J.ar,rv,q⟩
 cases fl with
 |ret u=>
  obtain⟨v,O',H',J,rv,q⟩:=hs
  exact fin J rv q
 |next=>
  obtain⟨O',H',J,q⟩:=hs
  exact fin (v:=V.aw) (u:=Value.none) J rfl q
 |brk=>
  obtain⟨_,_,_,q⟩:=hs
  exact False.elim q
 |cont=>
  obtain⟨_,_,_,q⟩:=hs
  exact False.elim q
section
variable{X:Cx}{x:Str}{p pos:Pos}{e:Expr}{es:List Expr}{t:TA}{id T:String}{r:List V->Hp->VK->Prop}
def My(r:List V->Hp->VK->Prop)(t:TA):TE:=λO H Q=>t O H λvs H1=>r vs H1 Q
def cL(hc:gV X (.builtin id) r)(hg:Gl X x)(hm:X.mg x=none)(hv:bootBuiltins x=some (.builtin id))(ha:PA X (e::es) t)(hn:x≠"__name__":=by decide)(cU:(x==("__debug__":Str))=false:=by decide)
  (he:starEach (e::es) X.env=(false,eval e X.env)::starEach es X.env:=by rfl) (aL:(backTo pos (starEach es X.env)).any (·.1)=false:=by rfl):PE X (.Call (.Name x p) (e::es) [] pos) (My r t):=by
 intro pins s O H Q I h
 refine nW (qr I hg hm hv ?_ hn cU)
 exact PyProof.Rows.callWith_builtin1 (aD (ha pos pins s O H _ I h) λus s1 ⟨vs,H1,I1,r1,q1⟩=>hc pins s1 O H1 vs us Q I1 r1 q1) he aL
def m5(hc:gV X (.type T) r)(hg:Gl X x)(hm:X.mg x=none)(hv:bootBuiltins x=some (.type T))(ha:PA X (e::es) t)(hn:x≠"__name__":=by decide)(cU:(x==("__debug__":Str))=false:=by decide)
  (he:starEach (e::es) X.env=(false,eval e X.env)::starEach es X.env:=by rfl) (aL:(backTo pos (starEach es X.env)).any (·.1)=false:=by rfl):PE X (.Call (.Name x p) (e::es) [] pos) (My r t):=by
 intro pins s O H Q I h
 refine nW (qr I hg hm hv ?_ hn cU)
 exact EC (aD (ha pos pins s O H _ I h) λus s1 ⟨vs,H1,I1,r1,q1⟩=>hc pins s1 O H1 vs us Q I1 r1 q1) he aL
end
end L2
namespace HT
open PySem PyProof.Rows
variable{items m6:Array Value}{Q:Value->Shared->Prop}{v vl vu:Value}{hi lo o:Option Int}{sl:Addr}
noncomputable def lexLt:List Int->List Int->Bool
 |[],[]=>false
 |[],_::_=>true
 |_::_,[]=>false
 |x::xs,y::ys=>if x=y then lexLt xs ys else decide (x<y)
def Mz(x y:Int)(xs ys:List Int):lexLt (x::xs) (y::ys)=if x=y then lexLt xs ys else decide (x<y):=rfl
def Vt:lexLt [] []=false:=rfl
def Vu(y:Int)(ys:List Int):lexLt [] (y::ys)=true:=rfl
def Vv(x:Int)(xs:List Int):lexLt (x::xs) []=false:=rfl
def Vw(A:Around)(s:Shared)(a:Int)(t:Tok)(c:Int)(u:Tok):∃e,SeqAt.EqAt A s (.int a t) (.int c u) e/\(e=true↔a=c):=
 ⟨(a==c),SeqAt.EqAt.int_int a t c u,by simp⟩
def Vx(A:Around)(s:Shared)(a:Int)(t:Tok)(c:Int)(u:Tok)(prog:Program)(w:World)(E:Value->Shared->Prop)(Q:Value->Shared->Prop)(h:Q (.bool (decide (a<c))) s) :
  wpAny (model prog w) A (richCompare .Lt (.int a t) (.int c u)) Q E s:=
 (PyProof.Rows.lt_int h:wpAny (model prog w) A (compareOp .Lt (.int a t) (.int c u)) Q E s)
section
open PySem.SeqAt
open PySem.AutoSeq1 (wpAny_loadPart')
open PySem.MeetsSeq PySem.MeetsSeq2 PySem.MeetsSeq3
theorem Vy(l b:Addr)(items m6:Array Value)(n n2:Nat)(dd FI:Option Addr)(sl FJ:Array (Option Value))(ns ms:List Int)(hi:IntsAre items.toList ns)(hj:IntsAre m6.toList ms) :
  Meets (Builtin.«tuple.__lt__» ⟨[.ref l,.ref b],[]⟩)
   (λ_ R s=>s.heap.get? l=some { cls := .type "tuple",dict:=dd,data := .seq items n,slots:=sl }/\s.heap.get? b=some { cls := .type "tuple",dict:=FI,data := .seq m6 n2,slots:=FJ } /\
    R (.ok (.ret (.bool (lexLt ns ms)))) s):=
 .of_wp λprog w A R s h=>by
  obtain⟨hp,g,d,tk,os⟩:=s;obtain⟨hl,hb,h⟩:=h
  have f2:=AutoSeq1.sub_tuple_tuple
  have z1:items.size=ns.length:=by rw[<-hi.length];simp
  have z2:m6.size=ms.length:=by rw[<-hj.length];simp
  wp_walk using wpAny_loadPart' hl,wpAny_loadPart' hb,wpAny_forIn_list _ (λrest b s'=>b.1=none/\s'=⟨hp,g,d,tk,os⟩/\∃(vs ws:List Value) (vG vH:List Int),rest=vs.zip ws/\
   IntsAre vs vG/\IntsAre ws vH/\vG.length+m6.size=vH.length+items.size/\R (.ok (.ret (.bool (lexLt vG vH)))) ⟨hp,g,d,tk,os⟩) _
  case turn=>
   rintro⟨y,x⟩ rest b s' ⟨ir,rfl,vs,ws,vG,vH,hz,FN,Bx,hlen,hR⟩
   cases FN with
   |nil=>rw[List.zip_nil_left] at hz;cases hz
   |cons a t Vz=>
    cases Bx with
    |nil=>rw[List.zip_nil_right] at hz;cases hz
    |cons c u VA=>
     rw[List.zip_cons_cons] at hz
     injection hz with VB VC
     injection VB with hy hx
     subst hy hx
     rw[Mz] at hR
     simp only[eJ] at hlen
     obtain⟨e,he,MA⟩:=Vw A.in1 ⟨hp,g,d,tk,os⟩ a t c u
     refine ah (he prog w _ _ ?_)
     cases e with
     |true=>
      rw[aC (MA.mp rfl)] at hR
      wp_walk
      exact⟨rfl,rfl,_,_,_,_,VC,Vz,VA,by lia,hR⟩
     |false=>
      rw[au (λq=>absurd (MA.mpr q) cy)] at hR
      have VD:=Vx A.in1 ⟨hp,g,d,tk,os⟩ a t c u prog w
      wp_walk using VD
      exact⟨_,rfl,by simpa using hR⟩
  case fin=>
   rintro⟨b1,b2⟩ s' ⟨ir,rfl,vs,ws,vG,vH,hz,FN,Bx,hlen,hR⟩
   simp only at ir
   subst ir
   have hv:lexLt vG vH=decide (items.size<m6.size):=by
    cases FN with
    |nil=>
     cases Bx with
     |nil=>
      simp only[AU] at hlen
      rw[Vt]
      exact(bf (by lia)).symm
     |cons c u hw=>
      simp only[AU,eJ] at hlen
      rw[Vu]
      exact(aU (by lia)).symm
    |cons a t hv=>
     cases Bx with
     |nil=>
      simp only[AU,eJ] at hlen
      rw[Vv]
      exact(bf (by lia)).symm
     |cons c u hw=>
      rw[List.zip_cons_cons] at hz
      cases hz
   rw[hv] at hR
   wp_walk
   exact⟨_,rfl,by simpa[Builtin.Tuple.tupleCompareSizes] using hR⟩
  case h=>
   exact⟨rfl,rfl,items.toList,m6.toList,ns,ms,rfl,hi,hj,by lia,h⟩
end
section
variable{prog:Program}{w:World}{A:Around}{E:Value->Shared->Prop}{s:Shared}
def VE{l b:Addr}{ns ms:List Int}(hl:IsTup s.heap l items)(hb:IsTup s.heap b m6)(hi:IntsAre items.toList ns)(hj:IntsAre m6.toList ms)
  (hu:A.units<cLine) (h:Q (.bool (lexLt ns ms)) s):wpAny (model prog w) A (compareOp .Lt (.ref l) (.ref b)) Q E s:=by
 obtain⟨⟨cls,dd,data,sl⟩,ho,hc,n,hd⟩:=id hl
 obtain⟨⟨agU,FI,data2,FJ⟩,jG,By,n2,hd2⟩:=id hb
 simp only at hc hd By hd2
 subst hc hd By hd2
 exact richCompare_meets_room (op := .Lt) ⟨_,ho,rfl⟩ ⟨_,jG,rfl⟩ PySem.F.slot_tuple_lt PySem.F.entry_tuple_lt (PySem.F.args_tuple_lt_2 _ _) (Vy l b items m6 n n2 dd FI sl FJ ns ms hi hj)
  ⟨ho,jG,show Value.bool (lexLt ns ms)≠Value.notImplemented/\Q (.bool (lexLt ns ms)) s from⟨(λx=>nomatch x),h⟩⟩ hu
noncomputable def bI(n d:Nat):Option Int->Nat
 |none=>d
 |some v=>if v<0 then (v+(n:Int)).toNat else min v.toNat n
def MB(n d:Nat):bI n d none=d:=rfl
theorem Bz(n d k:Nat):bI n d (some (k:Int))=min k n:=by
 show(if (k:Int)<0 then ((k:Int)+(n:Int)).toNat else min (k:Int).toNat n)=min k n
 rw[au (by lia),iZ]
theorem VF(n d:Nat)(hd:d<=n)(o:Option Int):bI n d o<=n:=by
 cases o with
 |none=>exact hd
 |some v=>
  show(if v<0 then (v+(n:Int)).toNat else min v.toNat n)<=n
  by_cases hv:v<0
  .rw[aC hv];lia
  .rw[au hv];exact Nat.min_le_right _ _
theorem MC(v:Int)(n d:Nat):(if v<0 then max (v+(n:Int)) 0 else min v (n:Int))=((bI n d (some v):Nat):Int):=by
 show(if v<0 then max (v+(n:Int)) 0 else min v (n:Int))=(((if v<0 then (v+(n:Int)).toNat else min v.toNat n):Nat):Int)
 by_cases hv:v<0
 .simp only[aC hv];lia
 .simp only[au hv];lia
theorem VG(lo hi:Option Int)(n:Nat):Builtin.Slice.sliceAdjust lo hi 1 (n:Int)=(((bI n 0 lo:Nat):Int),((bI n n hi:Nat):Int)):=by
 have h1:¬((1:Int)<0):=by lia
 unfold Builtin.Slice.sliceAdjust
 simp only[h1,rR]
 refine Prod.ext ?_ ?_
 .cases lo with
  |none=>rfl
  |some v=>exact MC v n 0
 .cases hi with
  |none=>rfl
  |some v=>exact MC v n n
theorem VH(i j:Nat):Builtin.Slice.slicePlaces (i:Int) (j:Int) 1=j - i:=by
 unfold Builtin.Slice.slicePlaces
 have h1:(1:Int)>0:=by lia
 simp only[h1,j4,Int.ediv_one]
 split <;> lia
def MD{Q:Option Int->Shared->Prop}(p:IsPart v o)(h:Q o s):wpAny (model prog w) A (Builtin.Slice.slicePartIndex v) Q E s:=by
 cases p with
 |none=>exact slicePart_none h
 |int i t=>exact slicePart_int h
def VI{n:Nat}{Q:Int×Int×Nat->Shared->Prop}(hs:s.heap.IsSliceOf sl vl vu .none)(pl:IsPart vl lo)(pu:IsPart vu hi)
  (h:Q (((bI n 0 lo:Nat):Int),1,bI n n hi - bI n 0 lo) s):wpAny (model prog w) A (Builtin.Slice.sliceApplied (.ref sl) (pure (n:Int))) Q E s:=by
 obtain⟨os,m7,gD,BA⟩:=id hs
 unfold Builtin.Slice.sliceApplied Builtin.Slice.sliceFields
 refine ah (ah (eK m7 BA (x:=vl) rfl (ah (eK m7 BA (x:=vu) rfl (ah (eK m7 BA (x := .none) rfl (aE ?_)))))))
 refine ah (slicePart_none ?_)
 show wpAny _ _ (if ((1:Int)==0)=true then _ else _) _ _ s
 rw[au (by decide)]
 refine ah (MD pl (ah (MD pu (ah (aE ?_)))))
 show wpAny _ _ (match Builtin.Slice.sliceAdjust lo hi 1 (n:Int) with | (lo,hi)=>pure (lo,(1:Int),Builtin.Slice.slicePlaces lo hi 1)) _ _ s
 rw[VG lo hi n]
 show wpAny _ _ (pure (((bI n 0 lo:Nat):Int),(1:Int),Builtin.Slice.slicePlaces ((bI n 0 lo:Nat):Int) ((bI n n hi:Nat):Int) 1)) _ _ s
 rw[VH]
 exact aE h
theorem VJ(xs:Array Value)(i k:Nat):((List.range k).filterMap λ(m:Nat)=>xs[((i:Int)+(m:Int)*1).toNat]?).toArray=((xs.toList.drop i).take k).toArray:=by
 have e:(λ(m:Nat)=>xs[((i:Int)+(m:Int)*1).toNat]?)=λm=>xs[i+m]? :=by
  funext m
  have:((i:Int)+(m:Int)*1).toNat=i+m:=by lia
  rw[this]
 rw[e]
 have:=pick_run xs i k
 rw[List.filterMap_map] at this
 have e2:((λx=>xs[x]?)∘λx=>i+x)=λm=>xs[i+m]? :=rfl
 rw[e2] at this
 rw[this]
theorem VL{t:Addr}(ht:IsTup s.heap t items)(hs:s.heap.IsSliceOf sl vl vu .none)(pl:IsPart vl lo)(pu:IsPart vu hi)
  (hw:¬(bI items.size 0 lo=0/\bI items.size items.size hi=items.size))
  (h:Q (.ref s.heap.objs.size) { s with heap:=s.heap.push { cls := .type "tuple",data := .seq ((items.toList.drop (bI items.size 0 lo)).take (bI items.size items.size hi - bI items.size 0 lo)).toArray } })
  (hsz:items.size<=sizeLine):wpAny (model prog w) A (getItem (.ref t) (.ref sl)) Q E s:=by
 have BB:sizeOk (.seq ((items.toList.drop (bI items.size 0 lo)).take (bI items.size items.size hi - bI items.size 0 lo)).toArray):=by
  show((items.toList.drop (bI items.size 0 lo)).take (bI items.size items.size hi - bI items.size 0 lo)).toArray.size<=sizeLine
  rw[br,ij,rS,uX]
  lia
 have hj:bI items.size items.size hi<=items.size:=VF _ _ (aQ _) hi
 obtain⟨os,m7,gD,BA⟩:=id hs
 have VM:s.TypeIs (.ref sl) "slice":=⟨os,m7,gD⟩
 unfold getItem
 try with_reducible refine fE ?_
 first | refine ah (aE ?_) | skip
 refine ah (wpAny_sequenceKey ht.typeIs (by decide) ?_)
 refine ah (xE (name:=Str.ofString "__getitem__") ht.typeIs EG
  (qg EG ht.typeIs entry_tuple_getitem ?_ (args_tuple_getitem _ _)))
 show wpAny _ _ (Builtin.Tuple.tupleItemsOf (.ref t) >>= _) _ _ s
 refine ah (tupleItemsOf_ ht ?_)
 refine ah (wpAny_typeOf VM ?_)
 rw[aC (by decide)]
 refine ah (VI hs pl pu ?_)
 have iN:¬((((bI items.size 0 lo:Nat):Int)==0&&(1:Int)==1&&(bI items.size items.size hi - bI items.size 0 lo)==items.size)=true):=by
  intro q
  rw[d7,d7] at q
  have q1:((bI items.size 0 lo:Nat):Int)=0:=eq_of_beq q.1.1
  have q2:bI items.size items.size hi - bI items.size 0 lo=items.size:=eq_of_beq q.2
  exact hw ⟨by lia,by lia⟩
 show wpAny _ _ (if (((bI items.size 0 lo:Nat):Int)==0&&(1:Int)==1&&(bI items.size items.size hi - bI items.size 0 lo)==items.size)=true then _ else _) _ _ s
 rw[au iN,VJ]
 first
  |exact ah (m:=Builtin.Tuple.tupleExact _) (mR (aE ⟨_,rfl,aE h⟩) BB)
  |exact ah (m:=Builtin.Tuple.tupleExact _) (mR (ah (aE (aE ⟨_,rfl,aE h⟩))) BB)
  |exact ah (ah (m:=Builtin.Tuple.tupleExact _) (mR (aE (aE ⟨_,rfl,aE h⟩)) BB))
  |exact ah (ah (m:=Builtin.Tuple.tupleExact _) (mR (aE ⟨_,rfl,aE h⟩) BB))
end
end HT
namespace L2
open PySem PySem.Spec PyProof.Rows
variable{r:V->Option Int->Option Int->Hp->VK->Prop}{j n t':Nat}{i:Int}{α:Type}{pins:List (Addr×Obj)}{O:St}{H H':Hp}{s:Shared}{a b p:Addr}{xs:List (List Key×Addr×Value)}{cG its:List Value}{f:Array Value->Array Value}{A:Around}{x y:V}{d' u v:Value}{T:String}{o:Option V}{P prog:Program}{w:World}{kvs:List (List Key×V)}{ks:List Key}{E Q:Value->Shared->Prop}{h':Heap}{vs:List (Key×Value)}{X:Cx}
abbrev TO:=St->Hp->(Option Int->Hp->Prop)->Prop
def PO(X:Cx)(e:Option Expr)(t:TO):Prop:=
 ∀(pins:List (Addr×Obj)) (s:Shared) (O:St) (H:Hp) (Q:Option Int->Hp->Prop),Inv X pins O H s->t O H Q->
  wpAny (model X.prog X.w) X.A (evalPart e X.env) (λu s' =>∃o H',Inv X pins O H' s'/\IsPart u o/\Q o H') X.xe s
noncomputable def VN:TO:=λ_ H Q=>Q none H
noncomputable def VO(t:TE):TO:=λO H Q=>t O H λx H1=>∃i,x = .int i/\Q (some i) H1
section
variable{X:Cx}{e:Expr}{te:TE}{lo hi:Option Expr}{tl th:TO}{pos p2:Pos}
def m8:PO X none VN:=by
 intro pins s O H Q I h
 rw[evalPart_none]
 exact aE ⟨none,H,I,.none,h⟩
def m9(h:PE X e te):PO X (some e) (VO te):=by
 intro pins s O H Q I hw
 rw[evalPart_some]
 refine aD (h pins s O H _ I hw) λu s1 ⟨x,H1,I1,r1,q1⟩=>?_
 obtain⟨i,rfl,q⟩:=q1
 obtain⟨t,rfl⟩:=r1
 exact⟨some i,H1,I1,.int i t,q⟩
def x8(X:Cx)(r:V->Option Int->Option Int->Hp->VK->Prop):Prop:=
 ∀(pins:List (Addr×Obj)) (s:Shared) (O:St) (H:Hp) (x:V) (v vl vu:Value) (lo hi:Option Int) (sl:Addr) (Q:VK),Inv X pins O H s->RelV x v->s.heap.IsSliceOf sl vl vu .none->IsPart vl lo->IsPart vu hi->r x lo hi H Q->
  ∃T id,typeLookup (.type T) "__getitem__"=pure (some (.builtin id))/\s.TypeIs v T/\wpAny (model X.prog X.w) X.A (getItem v (.ref sl)) (EP X pins O Q) X.xe s
def VP(r:V->Option Int->Option Int->Hp->VK->Prop)(te:TE)(tl th:TO):TE:=λO H Q=>te O H λx H1=>tl O H1 λl H2=>th O H2 λu H3=>r x l u H3 Q
def ow(hr:x8 X r)(he:PE X e te)(hl:PO X lo tl)(hu:PO X hi th):PE X (.Subscript e (.Slice lo hi none p2) pos) (VP r te tl th):=by
 intro pins s O H Q I h
 refine Subscript_ (aD (he pins s O H _ I h) λv s1 ⟨x,H1,I1,r1,q1⟩=>?_)
 refine wpAny_Slice (aD (hl pins s1 O H1 _ I1 q1) λvl s2 ⟨l,H2,I2,pl,q2⟩=>aD (hu pins s2 O H2 _ I2 q2) λvu s3 ⟨u,H3,I3,pu,q3⟩=>?_)
 rw[evalPart_none]
 refine aE ?_
 have I4:Inv X pins O H3 { s3 with heap:=s3.heap.push { cls := .type "slice",data := .fields #[vl,vu,.none] } }:=I3.kept (t':=s3.toks) λb ob q=>bq _ q
 obtain⟨T,id,hT,ht,hg⟩:=hr pins { s3 with heap:=s3.heap.push { cls := .type "slice",data := .fields #[vl,vu,.none] } } O H3 x v vl vu l u s3.heap.objs.size Q I4 r1 (Heap.IsSliceOf.new ..) pl pu q3
 show wpAny (model X.prog X.w) X.A (subscriptTail e (.Slice lo hi none p2) v (.ref s3.heap.objs.size)) (EP X pins O Q) X.xe { s3 with heap:=s3.heap.push { cls := .type "slice",data := .fields #[vl,vu,.none] } }
 exact tail_any (ops:=[.ref s3.heap.objs.size,v]) ht hT hg (by with_unfolding_all rfl)
noncomputable def jH(xs:List V)(lo hi:Option Int):List V:=(xs.drop (HT.bI xs.length 0 lo)).take (HT.bI xs.length xs.length hi - HT.bI xs.length 0 lo)
theorem ME(xs:List V)(lo hi:Option Int):(jH xs lo hi).length<=xs.length:=by
 unfold jH
 rw[ij,rS]
 lia
def VQ(K:Frag):V->Option Int->Option Int->Hp->VK->Prop:=λx lo hi H Q=>∃a xs,x = .ref a/\aA K H a xs/\
 ¬(HT.bI xs.length 0 lo=0/\HT.bI xs.length xs.length hi=xs.length)/\∀p,H p=none->Q (.ref p) (upd H p (.tup (jH xs lo hi)))
def VR:x8 X (VQ X.K):=by
 intro pins s O H x v vl vu lo hi sl Q I rx hs pl pu h
 obtain⟨a,xs,rfl,hx,hw,q⟩:=h
 cases rx
 obtain⟨its,r,ht,hz⟩:=I.tuple hx
 have hlen:its.toArray.size=xs.length:=by rw[br];exact r.length.symm
 refine⟨"tuple",_,EG.lookup,ht.typeIs,?_⟩
 refine HT.VL ht hs pl pu (by rw[hlen];exact hw) ?_ (by rw[hlen];exact hz)
 rw[hlen]
 refine⟨.ref s.heap.objs.size,_,I.laid (t':=s.toks) (o := .tup (jH xs lo hi)) (λb ob q=>bq _ q) (aQ _) ?_,rfl,q _ (I.ar.fresh (aQ _))⟩
 exact⟨bL (ME xs lo hi) hz,_,(r.drop (HT.bI xs.length 0 lo)).take (HT.bI xs.length xs.length hi - HT.bI xs.length 0 lo),IsTup.new _ _⟩
end
noncomputable def lN(n:Nat)(i:Int):Option Nat:=if 0<=i then (if i<n then some i.toNat else none) else if -(n:Int)<=i then some (i+n).toNat else none
noncomputable def gY{α:Type}(xs:List α)(i:Int):Option α:=(lN xs.length i).bind λj=>xs[j]?
theorem MF(h:lN n i=some j):seqIndex? i n=some j/\j<n/\ -(n:Int)<=i/\i<n:=by
 unfold lN at h
 by_cases h0:0<=i
 .rw[aC h0] at h
  by_cases h1:i<n
  .rw[aC h1] at h
   have e:i.toNat=j:=dh h
   exact⟨by rw[seqIndex_of h0 h1,e],by lia,by lia,h1⟩
  .rw[au h1] at h;cases h
 .rw[au h0] at h
  by_cases h1 : -(n:Int)<=i
  .rw[aC h1] at h
   have e:(i+n).toNat=j:=dh h
   exact⟨by rw[seqIndex_neg (by lia) h1,e],by lia,h1,by lia⟩
  .rw[au h1] at h;cases h
def FO{xs:List α}{v:α}(h:gY xs i=some v):∃j,seqIndex? i xs.length=some j/\xs[j]? = some v/\j<xs.length/\ -(xs.length:Int)<=i/\i<xs.length:=by
 unfold gY at h
 cases e:lN xs.length i with
 |none=>rw[e] at h;cases h
 |some j=>
  rw[e] at h
  obtain⟨h1,h2,h3,h4⟩:=MF e
  exact⟨j,h1,h,h2,h3,h4⟩
theorem eF{xs:List α}{v:α}(h:xs[j]? = some v):gY xs (j:Int)=some v:=by
 have hj:j<xs.length:=(bR.mp h).1
 have e:lN xs.length (j:Int)=some j:=by
  unfold lN
  rw[aC (by lia),aC (by lia)];simp
 unfold gY;rw[e];exact h
theorem MG(xs:List α)(v:α):gY (xs++[v]) (-1)=some v:=by
 have hl:(xs++[v]).length=xs.length+1:=by simp
 have e:lN (xs++[v]).length (-1)=some xs.length:=by
  unfold lN
  rw[hl,au (by decide),aC (by lia)]
  congr 1
  lia
 unfold gY
 rw[e]
 show(xs++[v])[xs.length]? = some v
 simp
def MH(b:Expr):Prop := ∀o i,subscripted b false o i=operate [o,i] (getItem o i)
def x9(X:Cx)(r:R2):Prop:=
 ∀(value slice:Expr) (pins:List (Addr×Obj)) (s:Shared) (O:St) (H:Hp) (x y:V) (v u:Value) (Q:VK),Inv X pins O H s->RelV x v->RelV y u->r x y H Q->
  subscripted slice false v u=operate [v,u] (getItem v u)->wpAny (model X.prog X.w) X.A (subscriptTail value slice v u) (EP X pins O Q) X.xe s
def BC(X:Cx)(id:String)(r:V->List V->Hp->VK->Prop):Prop:=
 ∀(pins:List (Addr×Obj)) (s:Shared) (O:St) (H:Hp) (x:V) (xs:List V) (v:Value) (us:List Value) (Q:VK),Inv X pins O H s->RelV x v->Vals xs us->r x xs H Q->
  wpAny (model X.prog X.w) X.A (call (.builtin id) (v::us)) (EP X pins O Q) X.xe s
section
variable{X:Cx}{a b:Expr}{ta tb:TE}{pos:Pos}
def bG{r:R2}(hr:x9 X r)(ha:PE X a ta)(hb:PE X b tb)(hs:MH b:=by exact λ_ _=>rfl):PE X (.Subscript a b pos) (mY r ta tb):=by
 intro pins s O H Q I h
 exact Subscript_ (Fy ha hb I h λv u s2 x y H2 I2 rx ry q=>hr a b pins s2 O H2 x y v u Q I2 rx ry q (hs _ _))
def BD(K:Frag):R2:=λx y H Q=>∃p xs i v,x = .ref p/\y = .int i/\aq K H p xs/\gY xs i=some v/\Q v H
def ya(K:Frag):R2:=λx y H Q=>∃p xs i v,x = .ref p/\y = .int i/\aA K H p xs/\gY xs i=some v/\Q v H
def VS:R2:=λx y H Q=>∃z i c,x = .str z/\y = .int i/\z.length<=sizeLine/\gY z.cps.toList i=some c/\Q (.str ⟨#[c]⟩) H
theorem iu:x9 X (BD X.K):=by
 intro value slice pins s O H x y v u Q I rx ry h hs
 obtain⟨p,xs,i,z,rfl,rfl,hq,he,q⟩:=h
 cases rx
 obtain⟨t,rfl⟩:=ry
 obtain⟨its,r,pl,hz⟩:=I.list hq
 obtain⟨j,h1,h2,h3,h4,h5⟩:=FO he
 obtain⟨w,ew,lO⟩:=r.get h2
 have hl:=r.length
 have hn:=oq
 have fin:EP X pins O Q w s:=⟨z,H,I,lO,q⟩
 by_cases h0:0<=i
 .have hj:i.toNat=j:=by
   rw[seqIndex_of h0 h5] at h1
   exact dh h1
  exact item_listR pl.isList h0 (by lia) (by rw[hj];simpa using ew) fin hs
 .have hj:(i+(its.toArray.size:Int)).toNat=j:=by
   rw[seqIndex_neg (by lia) h4] at h1
   rw[br,<-hl]
   exact dh h1
  exact subscriptTail_builtinR (x:=w) pl.isList.typeIs slot_list_getitem.lookup
   (wpAny_getItem_list_neg (Q:=λr s'=>r=w/\EP X pins O Q r s') pl.isList (by lia) (by rw[br] <;> lia) (by lia) (by rw[hj];simpa using ew) ⟨rfl,fin⟩) hs
theorem cY:x9 X (ya X.K):=by
 intro value slice pins s O H x y v u Q I rx ry h hs
 obtain⟨p,xs,i,z,rfl,rfl,hq,he,q⟩:=h
 cases rx
 obtain⟨t,rfl⟩:=ry
 obtain⟨its,r,pl,hz⟩:=I.tuple hq
 obtain⟨j,h1,h2,h3,h4,h5⟩:=FO he
 obtain⟨w,ew,lO⟩:=r.get h2
 have hl:=r.length
 have hn:=oq
 have fin:EP X pins O Q w s:=⟨z,H,I,lO,q⟩
 exact subscriptTail_builtinR (x:=w) pl.typeIs slot_tuple_getitem.lookup
  (getItem_tuple (j:=j) (Q:=λr s'=>r=w/\EP X pins O Q r s') pl (by lia) (by lia) (by rw[br,<-hl];exact h1) (by simpa using ew) ⟨rfl,fin⟩) hs
theorem oy:x9 X VS:=by
 intro value slice pins s O H x y v u Q I rx ry h hs
 obtain⟨z,i,c,rfl,rfl,hz,he,q⟩:=h
 obtain⟨t,rfl⟩:=rx
 obtain⟨t',rfl⟩:=ry
 obtain⟨j,h1,h2,h3,h4,h5⟩:=FO he
 have hl:z.cps.toList.length=z.length:=by simp[Str.length]
 rw[hl] at h1 h4 h5
 have hn:=oq
 exact tail_any (typeIs_str s z t) slot_str_getitem.lookup (getItem_str (c:=c) (by
  have e1:decide (i < -(2 ^ 63:Int))=false:=bf (by lia)
  have e2:decide (i>=2 ^ 63)=false:=bf (by lia)
  rw[e1,e2,Bool.or_false]) (by rw[h1];simpa using h2) ⟨.str ⟨#[c]⟩,H,I.tok _,⟨_,rfl⟩,q⟩) hs
def VT(its:List Value)(n j:Nat)(u:Value):Obj.mapSeq (·.setIfInBounds j u) { cls := .type "list",data := .seq its.toArray n }={ cls := .type "list",data := .seq (its.set j u).toArray n }:=by
 simp[Obj.mapSeq]
theorem Inv.lst{xs:List V}(I:Inv X pins O H s)(h:H p=some (.lst xs)) :
  ∃(its:List Value) (n:Nat),Vals xs its/\s.heap.get? p=some { cls := .type "list",data := .seq its.toArray n }/\xs.length<=sizeLine:=by
 obtain⟨z,its,n,r,e⟩:=I.ar p _ h
 exact⟨its,n,r,e,z⟩
def Inv.VU{xs ys:List V}{n':Nat}{f:Obj->Obj}(I:Inv X pins O H s)(h:H p=some (.lst xs))
  (ho:s.heap.get? p=some { cls := .type "list",data := .seq its.toArray n }) (hf:f { cls := .type "list",data := .seq its.toArray n }={ cls := .type "list",data := .seq cG.toArray n' }) (r:Vals ys cG) (hz:ys.length<=sizeLine) (t:Nat) :
  Inv X pins O (upd H p (.lst ys)) { s with heap:=s.heap.update p f,toks:=t }:=by
 have e:(s.heap.update p f).get? p=some { cls := .type "list",data := .seq cG.toArray n' }:=by
  rw[nX f ho (by rw[hf] <;> rfl),hf]
 refine I.write (x:=p) (e:=p) (by rw[h];trivial) (.inl rfl) (λb u hb q=>(gT _ _ (aP hb)).trans q) ⟨_,e⟩ ?_
 exact⟨hz,cG,n',r,e⟩
def VV:V->V->V->Hp->(Hp->Prop)->Prop:=λo i v H Q=>∃p xs k j,o = .ref p/\i = .int k/\H p=some (.lst xs)/\lN xs.length k=some j/\Q (upd H p (.lst (xs.set j v)))
theorem set_list:LX X VV:=by
 intro pins s O H o i v ov iv u Q I ro ri rv h
 obtain⟨p,xs,k,j,rfl,rfl,hp,hj,q⟩:=h
 cases ro
 obtain⟨t,rfl⟩:=ri
 obtain⟨its,n,r,ho,hz⟩:=I.lst hp
 obtain⟨h1,h2,h3,h4⟩:=MF hj
 have hl:=r.length
 have hn:=oq
 have I':Inv X pins O (upd H p (.lst (xs.set j v))) { s with heap:=s.heap.update p (Obj.mapSeq (·.setIfInBounds j u)) } :=
  I.VU hp ho (VT its n j u) (r.set rv j) (by rw[AV];exact hz) s.toks
 by_cases h0:0<=k
 .have hk:k.toNat=j:=by
   rw[seqIndex_of h0 h4] at h1
   exact dh h1
  exact PySem.W.ki_setAt ho h0 (by lia) (by rw[br,<-hl];exact h4) (by rw[hk];exact⟨_,I',q⟩)
 .have hk:(k+(its.toArray.size:Int)).toNat=j:=by
   rw[seqIndex_neg (by lia) h3] at h1
   rw[br,<-hl]
   exact dh h1
  exact PySem.W.ki_setBack ho (by lia) (by rw[br,<-hl];exact h3) (by lia) (by rw[hk];exact⟨_,I',q⟩)
theorem VW(lo hi:Option Int)(n:Nat):(sliceBounds lo hi none n).1=((HT.bI n 0 lo:Nat):Int)/\(sliceBounds lo hi none n).2.1=((HT.bI n n hi:Nat):Int)/\(sliceBounds lo hi none n).2.2=1:=by
 refine⟨?_,?_,rfl⟩
 .cases lo with
  |none=>simp[sliceBounds,HT.bI]
  |some i=>
   simp only[sliceBounds,HT.bI,Option.getD_none,show(1:Int)>0 by decide,j4]
   by_cases h:i<0
   .simp only[h,j4] <;> lia
   .simp only[h,rR] <;> lia
 .cases hi with
  |none=>simp[sliceBounds,HT.bI]
  |some i=>
   simp only[sliceBounds,HT.bI,Option.getD_none,show(1:Int)>0 by decide,j4]
   by_cases h:i<0
   .simp only[h,j4] <;> lia
   .simp only[h,rR] <;> lia
def VX(its:List Value)(lo hi:Option Int):slicePick its.toArray lo hi none=((its.drop (HT.bI its.length 0 lo)).take (HT.bI its.length its.length hi - HT.bI its.length 0 lo)).toArray:=by
 obtain⟨h1,h2,h3⟩:=VW lo hi its.toArray.size
 unfold slicePick
 rw[h1,h2,h3]
 simp only[sliceRange_one,pick_run,br] <;> rfl
def MI(K:Frag):V->Option Int->Option Int->Hp->VK->Prop:=λx lo hi H Q=>∃a xs,x = .ref a/\aq K H a xs/\∀p,H p=none->Q (.ref p) (upd H p (.lst (jH xs lo hi)))
theorem FP:x8 X (MI X.K):=by
 intro pins s O H x v vl vu lo hi sl Q I rx hs pl pu h
 obtain⟨a,xs,rfl,hx,q⟩:=h
 cases rx
 obtain⟨its,r,ht,hz⟩:=I.list hx
 have hlen:=r.length
 refine⟨"list",_,slot_list_getitem.lookup,ht.isList.typeIs,?_⟩
 refine wpAny_getItem_list_slice ht.isList hs pl pu .none (by simp) ?_ (by rw[br] <;> lia)
 rw[VX,<-hlen]
 refine⟨.ref s.heap.objs.size,_,I.laid (t':=s.toks) (o := .lst (jH xs lo hi)) (λb ob q=>bq _ q) (aQ _) ?_,rfl,q _ (I.ar.fresh (aQ _))⟩
 exact⟨bL (ME xs lo hi) hz,_,0,(r.drop (HT.bI xs.length 0 lo)).take (HT.bI xs.length xs.length hi - HT.bI xs.length 0 lo),cQ _ rfl⟩
noncomputable def oz:V->Bool
 |.aw=>true
 |.bl _=>true
 |.int _=>true
 |.str _=>true
 |_=>false
noncomputable def lP:V->V->Bool
 |.aw,.aw=>true
 |.bl a,.bl b=>a==b
 |.bl a,.int b=>(if a then 1 else 0)==b
 |.int a,.bl b=>a==(if b then 1 else 0)
 |.int a,.int b=>a==b
 |.str a,.str b=>a==b
 |_,_=>false
def gZ(ry:RelV y u)(rx:RelV x v)(fy:oz y=true)(fx:oz x=true):SeqAt.EqAt A s u v (lP y x):=by
 cases y with
 |aw=>
  cases ry
  cases x with
  |aw=>cases rx;exact SeqAt.EqAt.same _
  |bl b=>cases rx;exact SeqAt.EqAt.none_bool b
  |int b=>obtain⟨t,rfl⟩:=rx;exact SeqAt.EqAt.none_int b t
  |str b=>obtain⟨t,rfl⟩:=rx;exact SeqAt.EqAt.none_str b t
  |_=>exact absurd (show false=true from fx) cy
 |bl a=>
  cases ry
  cases x with
  |aw=>cases rx;exact SeqAt.EqAt.bool_none a
  |bl b=>cases rx;exact SeqAt.EqAt.bool_bool a b
  |int b=>obtain⟨t,rfl⟩:=rx;exact SeqAt.EqAt.bool_int a b t
  |str b=>obtain⟨t,rfl⟩:=rx;exact SeqAt.EqAt.bool_str a b t
  |_=>exact absurd (show false=true from fx) cy
 |int a=>
  obtain⟨t',rfl⟩:=ry
  cases x with
  |aw=>cases rx;exact SeqAt.EqAt.int_none a t'
  |bl b=>cases rx;exact SeqAt.EqAt.int_bool a t' b
  |int b=>obtain⟨t,rfl⟩:=rx;exact SeqAt.EqAt.int_int a t' b t
  |str b=>obtain⟨t,rfl⟩:=rx;exact SeqAt.EqAt.int_str a t' b t
  |_=>exact absurd (show false=true from fx) cy
 |str a=>
  obtain⟨t',rfl⟩:=ry
  cases x with
  |aw=>cases rx;exact SeqAt.EqAt.str_none a t'
  |bl b=>cases rx;exact SeqAt.EqAt.str_bool a t' b
  |int b=>obtain⟨t,rfl⟩:=rx;exact SeqAt.EqAt.str_int a t' b t
  |str b=>obtain⟨t,rfl⟩:=rx;exact SeqAt.EqAt.str_str a t' b t
  |_=>exact absurd (show false=true from fx) cy
 |_=>exact absurd (show false=true from fy) cy
noncomputable def oB(x:V)(u:Value):Bool:=match u with
 |.none=>lP .aw x
 |.bool b=>lP (.bl b) x
 |.int i _=>lP (.int i) x
 |.str z _=>lP (.str z) x
 |_=>false
def MJ(r:RelV y u)(f:oz y=true):oB x u=lP y x:=by
 cases y with
 |aw=>cases r;rfl
 |bl b=>cases r;rfl
 |int i=>obtain⟨t,rfl⟩:=r;rfl
 |str z=>obtain⟨t,rfl⟩:=r;rfl
 |_=>exact absurd (show false=true from f) cy
theorem FQ{x:V}:∀{xs:List V}{us:List Value},Vals xs us->xs.all oz=true->us.any (oB x)=xs.any λy=>lP y x
 |_,_,.nil,_=>rfl
 |y::xs,u::us,.cons r t,f=>by
  rw[List.all_cons,d7] at f
  rw[u9,u9,MJ r f.1,FQ t f.2]
theorem FR{A:Around}{s:Shared}{x:V}{v:Value}(rx:RelV x v)(fx:oz x=true):∀{xs:List V}{us:List Value},Vals xs us->xs.all oz=true->∀u∈us,SeqAt.EqAt A s u v (oB x u)
 |_,_,.nil,_=>λu hu=>by cases hu
 |y::xs,u::us,.cons r t,f=>λu' hu=>by
  rw[List.all_cons,d7] at f
  rcases cx.mp hu with rfl | hu
  .rw[MJ r f.1];exact gZ r rx f.1 fx
  .exact FR rx fx t f.2 u' hu
noncomputable def qw(x:V)(xs:List V):Bool:=xs.any λy=>lP y x
def MK(K:Frag)(neg:Bool):R2:=λx y H Q=>∃p xs,y = .ref p/\(aq K H p xs\/aA K H p xs)/\oz x=true/\xs.all oz=true/\Q (.bl (if neg then !qw x xs else qw x xs)) H
def VY:dC X (compareOp .NotIn) (MK X.K true):=by
 intro pins s O H x y v u Q I rx ry h
 obtain⟨p,xs,rfl,hq,fx,fs,q⟩:=h
 cases ry
 rcases hq with hq | hq
 .obtain⟨its,r,pl,hz⟩:=I.list hq
  refine SeqAt.notIn_listAt (oB x) pl.isList (λw hw=>FR rx fx r fs w (by simpa using hw)) ⟨.bl _,H,I,rfl,?_⟩
  rw[show its.toArray.any (oB x)=its.any (oB x) by simp,FQ r fs]
  exact q
 .obtain⟨its,r,pl,hz⟩:=I.tuple hq
  refine SeqAt.notIn_tupleAt (oB x) pl (λw hw=>FR rx fx r fs w (by simpa using hw)) ⟨.bl _,H,I,rfl,?_⟩
  rw[show its.toArray.any (oB x)=its.any (oB x) by simp,FQ r fs]
  exact q
theorem lQ:gV X (.builtin "len") (λxs H Q=>∃p ys,xs=[.ref p]/\(aq X.K H p ys\/aA X.K H p ys)/\Q (.int ys.length) H):=by
 intro pins s O H xs us Q I r h
 obtain⟨p,ys,rfl,hq,q⟩:=h
 obtain⟨u,rfl,rx⟩:=vals1 r
 cases rx
 have hn:=oq
 rcases hq with hq | hq
 .obtain⟨its,r',pl,hz⟩:=I.list hq
  have hlen:=r'.length
  exact Calls.call_len_list pl.isList (by simp only[br] <;> lia) ⟨.int ys.length,H,I.tok _,⟨s.toks+1,by rw[br,hlen]⟩,q⟩
 .obtain⟨its,r',pl,hz⟩:=I.tuple hq
  have hlen:=r'.length
  exact len_tuple pl (by simp only[br] <;> lia) ⟨.int ys.length,H,I.tok _,⟨s.toks+1,by rw[br,hlen]⟩,q⟩
theorem qx:gV X (.builtin "len") (λxs H Q=>∃z,xs=[.str z]/\z.length<=sizeLine/\Q (.int z.length) H):=by
 intro pins s O H xs us Q I r h
 obtain⟨z,rfl,hz,q⟩:=h
 obtain⟨u,rfl,t,rfl⟩:=vals1 r
 have hn:=oq
 exact len_str (by lia) ⟨.int z.length,H,I.tok _,⟨_,rfl⟩,q⟩
theorem yb:gV X (.type "list") (λxs H Q=>∃p ys,xs=[.ref p]/\(aq X.K H p ys\/aA X.K H p ys)/\∀l,H l=none->Q (.ref l) (upd H l (.lst ys))):=by
 intro pins s O H xs us Q I r h
 obtain⟨p,ys,rfl,hq,q⟩:=h
 obtain⟨u,rfl,rx⟩:=vals1 r
 cases rx
 have fin:∀(its:List Value),Vals ys its->ys.length<=sizeLine->∀(h':Heap) (c':Nat),(∀b o',s.heap.get? b=some o'->h'.get? b=some o')->
   h'.get? s.heap.objs.size=some { cls := .type "list",dict:=none,data := .seq its.toArray c',slots := #[] }->EP X pins O Q (.ref s.heap.objs.size) { s with heap:=h' }:=λits r' hz h' c' kp e=>
  ⟨.ref s.heap.objs.size,_,I.laid (t':=s.toks) kp (aQ _) (show dk X.prog X.w _ h' _ (.lst ys) from⟨hz,its,c',r',e⟩),rfl,q _ (I.ar.fresh (aQ _))⟩
 rcases hq with hq | hq
 .obtain⟨its,r',pl,hz⟩:=I.list hq
  have hlen:=r'.length
  obtain⟨o,ho,hc,n,hd⟩:=pl.isList
  exact call_list_seq p (.inl rfl) ho hc hd (λh' c' kp e=>fin its r' hz h' c' kp e) (by simp only[br] <;> lia)
 .obtain⟨its,r',pl,hz⟩:=I.tuple hq
  have hlen:=r'.length
  obtain⟨o,ho,hc,n,hd⟩:=pl
  exact call_list_seq p (.inr rfl) ho hc hd (λh' c' kp e=>fin its r' hz h' c' kp e) (by simp only[br] <;> lia)
theorem BE:gV X (.type "tuple") (λxs H Q=>∃p ys,xs=[.ref p]/\((aq X.K H p ys/\∀l,H l=none->Q (.ref l) (upd H l (.tup ys)))\/(aA X.K H p ys/\Q (.ref p) H))):=by
 intro pins s O H xs us Q I r h
 obtain⟨p,ys,rfl,h⟩:=h
 obtain⟨u,rfl,rx⟩:=vals1 r
 cases rx
 rcases h with ⟨hq,q⟩ | ⟨hq,q⟩
 .obtain⟨its,r',pl,hz⟩:=I.list hq
  have hlen:=r'.length
  refine call_tuple_list pl.isList (λh' kp=>?_) (by simp only[br] <;> lia)
  have I1:Inv X pins O H { s with heap:=h' }:=I.kept (t':=s.toks) kp
  have I2:Inv X pins O (upd H h'.objs.size (.tup ys)) { s with heap:=h'.push { cls := .type "tuple",data := .seq its.toArray } } :=
   I1.laid (t':=s.toks) (λb o e=>bq _ e) (aQ _) (show dk X.prog X.w _ _ _ (.tup ys) from⟨hz,its,r',IsTup.new _ _⟩)
  exact⟨.ref h'.objs.size,_,I2,rfl,q _ (I1.ar.fresh (aQ _))⟩
 .obtain⟨its,r',pl,hz⟩:=I.tuple hq
  exact call_tuple_same pl ⟨.ref p,H,I,rfl,q⟩
def ML(K:Frag)(T:String)(x:V)(H:Hp):Prop:=match x with
 |.str _=>T="str"
 |.int _=>T="int"
 |.ref p=>(T="list" /\∃xs,aq K H p xs)\/(T="tuple" /\∃o,K.lookup p=some o/\o.cls = .type "tuple"/\o.dict=none)\/
   (T="dict"/\((∃kvs,H p=some (.dK kvs))\/∃kvs,H p=some (.dT kvs)))\/(T="set" /\∃S n,H p=some (.set S n))
 |_=>False
def VZ(I:Inv X pins O H s)(r:RelV x v)(ty:ML X.K T x H) :
  s.TypeIs v T/\∀a,v = .ref a->∃ob,s.heap.get? a=some ob/\ob.dict=none:=by
 cases x with
 |str z=>
  obtain⟨t,rfl⟩:=r
  cases(show T="str" from ty)
  exact⟨typeIs_str s z t,λ_ e=>nomatch e⟩
 |int i=>
  obtain⟨t,rfl⟩:=r
  cases(show T="int" from ty)
  exact⟨typeIs_int s i t,λ_ e=>nomatch e⟩
 |ref p=>
  cases r
  rcases ty with ⟨rfl,xs,hq⟩ | ⟨rfl,o,hk,hc,hd⟩ | ⟨rfl,hk⟩ | ⟨rfl,S,n,hk⟩
  .obtain⟨its,_,pl,_⟩:=I.list hq
   refine⟨pl.isList.typeIs,λa e=>?_⟩
   cases e
   obtain⟨o,n,e,c,hd,_⟩:=pl
   exact⟨o,e,hd⟩
  .refine⟨⟨o,I.bN p o hk,hc⟩,λa e=>?_⟩
   cases e
   exact⟨o,I.bN _ o hk,hd⟩
  .have z:∃o,s.heap.get? p=some o/\o.ExactDict:=by
    rcases hk with ⟨kvs,hk⟩ | ⟨kvs,hk⟩
    .obtain⟨_,_,_,_,o,_,_,e,ex,_⟩:=I.ar p _ hk
     exact⟨o,e,ex⟩
    .obtain⟨_,_,_,_,o,_,_,e,ex,_⟩:=I.ar p _ hk
     exact⟨o,e,ex⟩
   obtain⟨o,e,ex⟩:=z
   refine⟨⟨o,e,ex.1⟩,λa e2=>?_⟩
   cases e2
   exact⟨o,e,ex.2.1⟩
  .obtain⟨o,_,_,_,e,ex,_⟩:=I.ar p _ hk
   refine⟨⟨o,e,ex.1⟩,λa e2=>?_⟩
   cases e2
   exact⟨o,e,ex.2.1⟩
 |_=>exact False.elim ty
def MM(K:Frag)(T:String)(r:V->List V->Hp->VK->Prop)(to:TE)(t:TA):TE:=λO H Q=>to O H λx H1=>ML K T x H1/\t O H1 λxs H2=>r x xs H2 Q
variable{o e:Expr}{es:List Expr}{to:TE}{t:TA}{name:Str}{apos cZ:Pos}{T id:String}{r:V->List V->Hp->VK->Prop}
def gE(pa:PlainAttrs T)(slot:Slot T name id)(FT:typeOf (.builtin id)=pure (.type "method_descriptor"))(hm:BC X id r)(ho:PE X o to)(ha:PA X (e::es) t)
  (sP:attributeBase o name X.env (eval o X.env)=eval o X.env:=by rfl)
  (vI:((backTo cZ (starEach (e::es) X.env)).all (λx=>!x.1)&&(backToKw cZ (keywordEach [] X.env)).all (λx=>x.1.isSome)
   && decide ((e::es).length+([]:List Keyword).length+(if ([]:List Keyword).isEmpty then 0 else 1)<30))=true:=by rfl)
  (FU:(apos.endLine==cZ.line)=true:=by rfl) (hs:starEach (e::es) X.env=(false,eval e X.env)::starEach es X.env:=by rfl) (FV:(backTo cZ (starEach es X.env)).any (·.1)=false:=by rfl) :
  PE X (.Call (.Attribute o name apos) (e::es) [] cZ) (MM X.K T r to t):=by
 intro pins s O H Q I h
 refine wpAny_Call_method_late sP vI FU rfl (aD (ho pins s O H _ I h) λv s1 ⟨x,H1,I1,r1,ty,q1⟩=>?_)
 obtain⟨h1,h2⟩:=VZ I1 r1 ty
 refine⟨T,id,pa,slot,FT,h1,h2,?_⟩
 have hA:=ha cZ pins s1 O H1 _ I1 q1
 rw[hs] at hA ⊢
 refine Tw (by show(false||(backTo cZ (starEach es X.env)).any (·.1))=false;rw[FV] <;> rfl) (Tx ?_)
 exact aD hA λus s2 ⟨vs,H2,I2,r2,q2⟩=>hm pins s2 O H2 x vs v us Q I2 r1 r2 q2
end
def MN(X:Cx)(id:String)(r:V->List V->Hp->VK->Prop):Prop:=
 ∀(pins:List (Addr×Obj)) (s:Shared) (O:St) (H:Hp) (x:V) (xs:List V) (v:Value) (us:List Value) (Q:VK),Inv X pins O H s->RelV x v->Vals xs us->r x xs H Q->
  wpAny (model X.prog X.w) X.A (call (.builtin id) (v::us)) (EP X pins O Q) X.xe s
theorem Vals.one:∀{x:V}{us:List Value},Vals [x] us->∃u,us=[u]/\RelV x u
 |_,_,.cons r .nil=>⟨_,rfl,r⟩
section
variable{X:Cx}{pins:List (Addr×Obj)}{O:St}{H:Hp}{s:Shared}{l b:Addr}{xs ys zs:List V}
def Inv.MO(I:Inv X pins O H s)(hH:H l=some (.lst xs))
  (e:s.heap.get? l=some { cls := .type "list",data := .seq its.toArray n }) (hf:f its.toArray=cG.toArray) (hv:Vals ys cG) (hz:ys.length<=sizeLine) :
  Inv X pins O (upd H l (.lst ys)) { s with heap:=s.heap.update l (Obj.mapSeq f),toks:=t' }:=by
 have q:=PySem.IsL.update e f
 rw[hf] at q
 refine I.write (x:=l) (e:=l) (by rw[hH];exact trivial) (.inl rfl) (λb' u hb hu=>(gT s.heap (Obj.mapSeq f) (aP hb)).trans hu) ⟨_,q⟩ ?_
 exact⟨hz,cG,_,hv,q⟩
def Inv.MP(I:Inv X pins O H s)(hv:Vals ys its)(hz:ys.length<=sizeLine) :
  Inv X pins O (upd H s.heap.objs.size (.lst ys)) { s with heap:=s.heap.push { cls := .type "list",data := .seq its.toArray },toks:=t' } :=
 I.laid (λ_ _ q=>bq _ q) (aQ _) ⟨hz,its,0,hv,cQ _ rfl⟩
theorem Inv.fresh(I:Inv X pins O H s):H s.heap.objs.size=none:=I.ar.fresh (aQ _)
def Inv.sQ(I:Inv X pins O H s)(hH:H l=some (.lst xs)):xs.length<=sizeLine/\∃(its:List Value) (n:Nat),Vals xs its/\xs.length=its.length/\s.heap.get? l=some { cls := .type "list",data := .seq its.toArray n }:=by
 obtain⟨z,its,n,r,e⟩:=I.ar l _ hH
 exact⟨z,its,n,r,r.length,e⟩
theorem V0(h:n<=sizeLine):Builtin.List.listTooLong n=false:=by
 unfold Builtin.List.listTooLong
 exact bf (by lia)
end
section
variable{X:Cx}
def V1:V->List V->Hp->VK->Prop:=λx vs H Q=>∃l xs y,x = .ref l/\vs=[y]/\H l=some (.lst xs)/\xs.length<sizeLine/\Q .aw (upd H l (.lst (xs++[y])))
theorem jf:MN X "list.append" V1:=by
 intro pins s O H x vs v us Q I rx rv h
 obtain⟨l,xs,y,rfl,rfl,hH,hz,q⟩:=h
 cases rx
 obtain⟨u,rfl,ru⟩:=rv.one
 obtain⟨z,its,n,r,hl,e⟩:=I.sQ hH
 refine call_meets F.slot_list_append ⟨_,e,rfl⟩ F.entry_list_append (F.args_list_append_2 _ _) (PySem.list_append l its.toArray n u (by rw[br];lia)) ⟨e,?_⟩
 refine⟨.aw,_,I.MO (cG:=its++[u]) hH e (by simp) (r.append (.cons ru .nil)) ?_,rfl,q⟩
 rw[d6,EH]
 lia
def V2:V->List V->Hp->VK->Prop:=λx vs H Q=>∃l b xs zs,x = .ref l/\vs=[.ref b]/\H l=some (.lst xs)/\H b=some (.lst zs)/\xs.length+zs.length<=sizeLine/\Q .aw (upd H l (.lst (xs++zs)))
theorem V3:MN X "list.extend" V2:=by
 intro pins s O H x vs v us Q I rx rv h
 obtain⟨l,b,xs,zs,rfl,rfl,hH,hB,hz,q⟩:=h
 cases rx
 obtain⟨u,rfl,ru⟩:=rv.one
 cases ru
 obtain⟨z,its,n,r,hl,e⟩:=I.sQ hH
 obtain⟨z2,sR,n2,r2,vJ,e2⟩:=I.sQ hB
 have hsz:its.toArray.size+sR.toArray.size<=sizeLine:=by rw[br,br];lia
 have V4:¬(!its.toArray.isEmpty&&Builtin.List.listTooLong (its.toArray.size+sR.toArray.size))=true:=by
  rw[V0 hsz,vc]
  exact cy
 refine call_meets F.slot_list_extend ⟨_,e,rfl⟩ F.entry_list_extend (F.args_list_extend_2 _ _)
  (AutoSeq1.list_extend_list_list_0 l its.toArray n b sR.toArray n2 V4 (by rw[br];lia) (by lia)) ⟨e,e2,?_⟩
 refine⟨.aw,_,I.MO (cG:=its++sR) hH e (by simp) (r.append r2) ?_,rfl,q⟩
 rw[d6]
 lia
def V5:R2:=λx y H Q=>∃l b xs zs,x = .ref l/\y = .ref b/\H l=some (.lst xs)/\H b=some (.lst zs)/\xs.length+zs.length<=sizeLine/\∀p,H p=none->Q (.ref p) (upd H p (.lst (xs++zs)))
theorem BF:dC X (binaryOp .Add) V5:=by
 intro pins s O H x y v u Q I rx ry h
 obtain⟨l,b,xs,zs,rfl,rfl,hH,hB,hz,q⟩:=h
 cases rx
 cases ry
 obtain⟨z,its,n,r,hl,e⟩:=I.sQ hH
 obtain⟨z2,sR,n2,r2,vJ,e2⟩:=I.sQ hB
 refine PySem.P.add_list e e2 ?_ (by rw[br,br];lia)
 have ea:its.toArray++sR.toArray=(its++sR).toArray:=by simp
 rw[ea]
 exact⟨.ref _,_,I.MP (t':=s.toks) (r.append r2) (by rw[d6];lia),rfl,q _ I.fresh⟩
end
section
variable{κ:Type}[DecidableEq κ]
noncomputable def aM(kvs:List (κ×V))(k:κ):Option V:=(kvs.find? λkv=>decide (kv.1=k)).map (·.2)
noncomputable def putK(kvs:List (κ×V))(k:κ)(v:V):List (κ×V):=
 if (kvs.any λkv=>decide (kv.1=k))=true then kvs.map (λkv=>if kv.1=k then (kv.1,v) else kv) else kvs++[(k,v)]
def lR{p:κ×V}{r:List (κ×V)}{k:κ}(e:p.1=k):aM (p::r) k=some p.2:=by simp[aM,ve,e]
def lS{p:κ×V}{r:List (κ×V)}{k:κ}(e:¬p.1=k):aM (p::r) k=aM r k:=by simp[aM,ve,e]
theorem sS(k:κ):∀kvs:List (κ×V),(kvs.any λkv=>decide (kv.1=k))=(aM kvs k).isSome
 |[]=>rfl
 |p::r=>by
  rw[u9]
  by_cases e:p.1=k
  .simp only[lR e,aU e,Bool.true_or,Option.isSome_some]
  .rw[lS e,bf e,Bool.false_or];exact sS k r
theorem MQ(k j:κ)(y:V):∀kvs:List (κ×V),aM (kvs.map λkv=>if kv.1=k then (kv.1,y) else kv) j=(aM kvs j).map λx=>if j=k then y else x
 |[]=>rfl
 |p::r=>by
  have ih:=MQ k j y r
  rw[cF]
  by_cases h:p.1=k
  .rw[aC h]
   by_cases e:p.1=j
   .rw[lR (p:=(p.1,y)) e,lR e,i0,aC (e.symm.trans h)]
   .rw[lS (p:=(p.1,y)) e,lS e,ih]
  .rw[au h]
   by_cases e:p.1=j
   .rw[lR (p:=p) e,lR e,i0,au (λz=>h (e.trans z))]
   .rw[lS (p:=p) e,lS e,ih]
theorem MR(k j:κ)(y:V):∀kvs:List (κ×V),aM kvs k=none->aM (kvs++[(k,y)]) j=if j=k then some y else aM kvs j
 |[],_=>by
  by_cases e:k=j
  .rw[aC e.symm];exact lR (p:=(k,y)) e
  .rw[au (λz=>e z.symm)];exact lS (p:=(k,y)) e
 |p::r,hn=>by
  rw[List.cons_append]
  have hk:¬p.1=k:=λz=>by rw[lR z] at hn;cases hn
  rw[lS hk] at hn
  have ih:=MR k j y r hn
  by_cases e:p.1=j
  .rw[lR e,lR e,au (λz=>hk (e.trans z))]
  .rw[lS e,lS e,ih]
def oE(kvs:List (κ×V))(k j:κ)(y:V):aM (putK kvs k y) j=if j=k then some y else aM kvs j:=by
 unfold putK
 by_cases a:(kvs.any λkv=>decide (kv.1=k))=true
 .rw[aC a,MQ]
  rw[sS] at a
  by_cases e:j=k
  .obtain⟨x,hx⟩:=Option.isSome_iff_exists.mp a
   rw[aC e,e,hx,i0,aC rfl]
  .rw[au e]
   cases aM kvs j with
   |none=>rfl
   |some x=>rw[i0,au e]
 .rw[au a]
  refine MR k j y kvs ?_
  rw[sS] at a
  cases q:aM kvs k with
  |none=>rfl
  |some x=>rw[q] at a;exact(a rfl).elim
theorem sT(kvs:List (κ×V))(k:κ)(v:V):(putK kvs k v).length<=kvs.length+1:=by
 unfold putK
 split
 .rw[av];lia
 .rw[d6,eJ,AU];lia
def vK{kvs:List (κ×V)}{k:κ}(v:V)(h:aM kvs k=none):putK kvs k v=kvs++[(k,v)]:=by
 unfold putK
 rw[sS,h]
 exact au (by decide)
def eT.ye{u:Option Value}(r:eT o u):o.isSome=u.isSome:=by
 cases o with
 |none=>cases u with
  |none=>rfl
  |some _=>exact(show False from r).elim
 |some _=>cases u with
  |none=>exact(show False from r).elim
  |some _=>rfl
theorem eT.getD{u:Option Value}{d:V}(r:eT o u)(rd:RelV d d'):RelV (o.getD d) (u.getD d'):=by
 cases o with
 |none=>cases u with
  |none=>exact rd
  |some _=>exact(show False from r).elim
 |some _=>cases u with
  |none=>exact(show False from r).elim
  |some _=>exact r
def KV.val{kvs:List (κ×V)}{vs:List (κ×Value)}(r:KV kvs vs)(k:κ):eT (aM kvs k) (valueAt vs k):=by
 unfold KV at r
 induction r with
 |nil=>exact True.intro
 |@cons p q ps qs h t ih=>
  obtain⟨h1,h2⟩:=h
  by_cases e:p.1=k
  .have e':q.1=k:=h1.symm.trans e
   have b:valueAt (q::qs) k=some q.2:=by simp[valueAt,ve,e']
   rw[lR e,b];exact h2
  .have e':¬q.1=k:=λz=>e (h1.trans z)
   have b:valueAt (q::qs) k=valueAt qs k:=by simp[valueAt,ve,e']
   rw[lS e,b];exact ih
theorem KV.any{kvs:List (κ×V)}{vs:List (κ×Value)}(r:KV kvs vs)(k:κ):(kvs.any λkv=>decide (kv.1=k))=vs.any λkv=>decide (kv.1=k):=by
 unfold KV at r
 induction r with
 |nil=>rfl
 |cons h t ih=>rw[u9,u9,ih,h.1]
def KV.FW{kvs:List (κ×V)}{vs:List (κ×Value)}(r:KV kvs vs)(k:κ)(ry:RelV y u) :
  KV (kvs.map λkv=>if kv.1=k then (kv.1,y) else kv) (vs.map λkv=>if kv.1=k then (kv.1,u) else kv):=by
 unfold KV at r ⊢
 induction r with
 |nil=>exact .nil
 |@cons p q ps qs h t ih=>
  rw[cF,cF]
  refine .cons ?_ ih
  obtain⟨h1,h2⟩:=h
  by_cases e:p.1=k
  .rw[aC e,aC (h1.symm.trans e)];exact⟨h1,ry⟩
  .rw[au e,au (λz=>e (h1.trans z))];exact⟨h1,h2⟩
def KV.put{kvs:List (κ×V)}{vs:List (κ×Value)}(r:KV kvs vs)(k:κ)(ry:RelV y u):KV (putK kvs k y) (stored vs k u):=by
 unfold putK stored
 rw[r.any k]
 by_cases e:(vs.any λkv=>decide (kv.1=k))=true
 .rw[aC e,aC e];exact r.FW k ry
 .rw[au e,au e];exact qh r ⟨rfl,ry⟩
theorem KV.length{kvs:List (κ×V)}{vs:List (κ×Value)}(r:KV kvs vs):kvs.length=vs.length:=gR r
end
def vL{k:Key}(r:RelV (kV k) u):(d8 P w).is k u=true:=by
 cases k with
 |inl i=>obtain⟨t,e⟩:=(show ∃t,u=Value.int i t from r);subst e;exact Uc P w i t
 |inr x=>obtain⟨t,e⟩:=(show ∃t,u=Value.str x t from r);subst e;exact Ud P w x t
theorem MS{P:Program}{w:World}:∀{ks:List Key}{us:List Value},Vals (ks.map kV) us->ItemsAre (d8 P w) ks us
 |[],_,r=>by rw[EI] at r;cases r;exact .nil
 |k::ks,_,r=>by
  rw[cF] at r
  cases r with
  |cons h t=>exact .cons (vL h) (MS t)
abbrev KT(H:Hp):List (List Key×V)->List (List Key×Addr×Value)->Prop:=Paired λp q=>p.1=q.1/\H q.2.1=some (.tup (p.1.map kV))/\RelV p.2 q.2.2
def KT.val(r:KT H kvs xs)(k:List Key):eT (aM kvs k) ((atKey xs k).map (·.2)):=by
 induction r with
 |nil=>exact True.intro
 |@cons p q ps qs h t ih=>
  obtain⟨h1,_,h2⟩:=h
  by_cases e:p.1=k
  .have e':q.1=k:=h1.symm.trans e
   have b:atKey (q::qs) k=some q.2:=by simp[atKey,ve,e']
   rw[lR e,b];exact h2
  .have e':¬q.1=k:=λz=>e (h1.trans z)
   have b:atKey (q::qs) k=atKey qs k:=by simp[atKey,ve,e']
   rw[lS e,b];exact ih
def KT.FW(r:KT H kvs xs)(k:List Key)(ry:RelV y u) :
  KT H (kvs.map λkv=>if kv.1=k then (kv.1,y) else kv) (xs.map (putAt k u)):=by
 induction r with
 |nil=>exact .nil
 |@cons p q ps qs h t ih=>
  rw[cF,cF]
  refine .cons ?_ ih
  obtain⟨h1,h2,h3⟩:=h
  unfold putAt
  by_cases e:p.1=k
  .rw[aC e,aC (h1.symm.trans e)];exact⟨h1,h2,ry⟩
  .rw[au e,au (λz=>e (h1.trans z))];exact⟨h1,h2,h3⟩
def KT.put(r:KT H kvs xs)(k:List Key)(hb:H b=some (.tup (k.map kV)))(ry:RelV y u) :
  KT H (putK kvs k y) (storedH xs k b u):=by
 have e:(kvs.any λkv=>decide (kv.1=k))=(atKey xs k).isSome:=by
  rw[sS,(r.val k).ye,Option.isSome_map]
 unfold putK storedH
 rw[e]
 by_cases q:(atKey xs k).isSome=true
 .rw[aC q,aC q];exact r.FW k ry
 .rw[au q,au q];exact qh r ⟨rfl,hb,ry⟩
def KT.keeps(r:KT H kvs xs)(ht:∀b ys,H b=some (.tup ys)->H' b=some (.tup ys)):KT H' kvs xs:=
 Paired.bE r λ_ _ z=>⟨z.1,ht _ _ z.2.1,z.2.2⟩
section
variable{P:Program}{w:World}{H:Hp}{h:Heap}{a:Addr}
def MT{u:HO}(ok:dB P w H h)(e:Rd H a u):dk P w H h a u:=e.ok ok
def sV{kvs:List (Key×V)}(ok:dB P w H h)(e:Rd H a (.dK kvs)):kvs.length<=sizeLine/\(a==sysModules)=false/\∃vs,KV kvs vs/\h.DictOf (d8 P w) a vs:=
 show dk P w H h a (.dK kvs) from MT ok e
def V6{kvs:List (Key×V)}(ok:dB P w H h)(e:H a=some (.dK kvs)):kvs.length<=sizeLine/\(a==sysModules)=false/\∃vs,KV kvs vs/\h.DictOf (d8 P w) a vs:=sV ok (.inl e)
def sW(ok:dB P w H h)(e:H a=some (.tup (ks.map kV))):(tupleKind (d8 P w)).is h ks a:=by
 obtain⟨_,its,r,o,h1,h2,n,h3⟩:=(show dk P w H h a (.tup (ks.map kV)) from ok a _ e)
 exact⟨o,its.toArray,n,h1,h2,h3,by simpa using MS r⟩
def sX(ok:dB P w H h)(e:Rd H a (.dT kvs)):kvs.length<=sizeLine/\(a==sysModules)=false/\
  ∃xs,KT H kvs xs/\h.DictOfH (tupleKind (d8 P w)) a xs:=by
 obtain⟨z,y,xs,r,o,es,ep,h1,h2,h3,h4,h5⟩:=(show dk P w H h a (.dT kvs) from MT ok e)
 refine⟨z,y,xs,r,o,es,ep,h1,h2,h3,h4,λx hx=>?_,h5⟩
 have all:∀{l:List (List Key×V)}{m:List (List Key×Addr×Value)},KT H l m->∀x∈m,(tupleKind (d8 P w)).is h x.1 x.2.1:=by
  intro l m q
  induction q with
  |nil=>intro x hx;exact nomatch hx
  |@cons p q ps qs hq t ih=>
   intro x hx
   rcases cx.mp hx with e | hx
   .subst e
    exact sW ok (by rw[<-hq.1];exact hq.2.1)
   .exact ih x hx
 exact all r x hx
def MU(ok:dB P w H h)(e:H a=some (.dT kvs)):kvs.length<=sizeLine/\(a==sysModules)=false/\
  ∃xs,KT H kvs xs/\h.DictOfH (tupleKind (d8 P w)) a xs:=sX ok (.inl e)
end
def dQ(H:Hp)(a:Addr)(y:V)(r:Option V):Prop:=
 (∃kvs k,Rd H a (.dK kvs)/\y=kV k/\r=aM kvs k)\/∃kvs k b,Rd H a (.dT kvs)/\y = .ref b/\H b=some (.tup (k.map kV))/\r=aM kvs k
def kf(H:Hp)(a:Addr)(y v:V)(H':Hp):Prop:=
 (∃kvs k,H a=some (.dK kvs)/\y=kV k/\kvs.length<sizeLine/\H'=upd H a (.dK (putK kvs k v)))\/
 ∃kvs k b,H a=some (.dT kvs)/\y = .ref b/\H b=some (.tup (k.map kV))/\kvs.length<sizeLine/\H'=upd H a (.dT (putK kvs k v))
theorem dQ.k{H:Hp}{a:Addr}{kvs:List (Key×V)}{k:Key}(e:H a=some (.dK kvs)):dQ H a (kV k) (aM kvs k) := .inl ⟨kvs,k,.inl e,rfl,rfl⟩
def dQ.t{k:List Key}(e:H a=some (.dT kvs))(eb:H b=some (.tup (k.map kV))):dQ H a (.ref b) (aM kvs k) := .inr ⟨kvs,k,b,.inl e,rfl,eb,rfl⟩
theorem kf.k{H:Hp}{a:Addr}{kvs:List (Key×V)}{k:Key}{v:V}(e:H a=some (.dK kvs))(hl:kvs.length<sizeLine):kf H a (kV k) v (upd H a (.dK (putK kvs k v))) := .inl ⟨kvs,k,e,rfl,hl,rfl⟩
def kf.t{k:List Key}{v:V}(e:H a=some (.dT kvs))(eb:H b=some (.tup (k.map kV)))(hl:kvs.length<sizeLine) :
  kf H a (.ref b) v (upd H a (.dT (putK kvs k v))) := .inr ⟨kvs,k,b,e,rfl,eb,hl,rfl⟩
section
variable{X:Cx}{pins:List (Addr×Obj)}{O:St}{H:Hp}{s:Shared}{a:Addr}{y v:V}{u r:Value}{o:Option V}{A:Around}{E:Value->Shared->Prop}
def Inv.big(I:Inv X pins O H s):sysModules<s.heap.objs.size:=by
 have h:mainGlobals<s.heap.objs.size:=(I.mod.glob.keeps I.bk).lt
 exact Nat.lt_trans (by decide) h
def V7(hu:A.units+1<cLine)(I:Inv X pins O H s)(g:dQ H a y (some v))(ry:RelV y u)(h:∀w' s',Inv X pins O H s'->RelV v w'->Q w' s') :
  wpAny (model X.prog X.w) A (getItem (.ref a) u) Q E s:=by
 rcases g with ⟨kvs,k,e,ey,l⟩ | ⟨kvs,k,b,e,ey,eb,l⟩
 .subst ey
  obtain⟨z,hd,vs,rel,dd⟩:=sV I.ar e
  obtain⟨w',hw,lO⟩:=eT.some_of (v:=v) (o:=valueAt vs k) (by rw[l];exact rel.val k)
  exact wpAny_getItem_of (vL ry) dd.mapOf hw (h w' _ (I.tok _) lO)
 .subst ey
  cases(show u=Value.ref b from ry)
  obtain⟨z,hd,xs,rel,dd⟩:=sX I.ar e
  obtain⟨w',hw,lO⟩:=eT.some_of (v:=v) (o:=(atKey xs k).map (·.2)) (by rw[l];exact rel.val k)
  obtain⟨p,hp,gF⟩:=i3.mp hw
  refine wpAny_getItem_heap (AW hu) (sW I.ar eb) dd hp ?_
  rw[gF]
  exact h w' _ (I.tok _) lO
def V8(hu:A.units+1<cLine)(I:Inv X pins O H s)(g:dQ H a y o)(ry:RelV y u)(h:∀s',Inv X pins O H s'->Q (.bool o.isSome) s') :
  wpAny (model X.prog X.w) A (compareOp .In u (.ref a)) Q E s:=by
 rcases g with ⟨kvs,k,e,ey,l⟩ | ⟨kvs,k,b,e,ey,eb,l⟩
 .subst ey
  obtain⟨z,hd,vs,rel,dd⟩:=sV I.ar e
  refine wpAny_in_of (vL ry) hd dd.mapOf ?_
  rw[<-(rel.val k).ye,<-l]
  exact h _ (I.tok _)
 .subst ey
  cases(show u=Value.ref b from ry)
  obtain⟨z,hd,xs,rel,dd⟩:=sX I.ar e
  refine wpAny_in_heap (AW hu) (sW I.ar eb) hd dd ?_
  have q:=(rel.val k).ye
  rw[Option.isSome_map] at q
  rw[<-q,<-l]
  exact h _ (I.tok _)
def V9(hu:A.units+1<cLine)(I:Inv X pins O H s)(g:dQ H a y o)(ry:RelV y u)(h:∀s',Inv X pins O H s'->Q (.bool (!o.isSome)) s') :
  wpAny (model X.prog X.w) A (compareOp .NotIn u (.ref a)) Q E s:=by
 rcases g with ⟨kvs,k,e,ey,l⟩ | ⟨kvs,k,b,e,ey,eb,l⟩
 .subst ey
  obtain⟨z,hd,vs,rel,dd⟩:=sV I.ar e
  refine wpAny_notIn_of (vL ry) hd dd.mapOf ?_
  rw[<-(rel.val k).ye,<-l]
  exact h _ (I.tok _)
 .subst ey
  cases(show u=Value.ref b from ry)
  obtain⟨z,hd,xs,rel,dd⟩:=sX I.ar e
  refine wpAny_notIn_heap (AW hu) (sW I.ar eb) hd dd ?_
  have q:=(rel.val k).ye
  rw[Option.isSome_map] at q
  rw[<-q,<-l]
  exact h _ (I.tok _)
def FX{ob:HO}(I:Inv X pins O H s)(mu:xI (H a))(hs:Heap.SameBut a s.heap h')(he:∃q,h'.get? a=some q)(new:dk X.prog X.w (upd H a ob) h' a ob) :
  Inv X pins O (upd H a ob) { s with heap:=h',toks:=t' } :=
 I.write (x:=a) (e:=a) mu (.inl rfl) (λb q hb z=>(hs.2 b hb).trans z) he new
def MV{kvs:List (Key×V)}(z:kvs.length<=sizeLine)(hd:(a==sysModules)=false)(rel:KV kvs vs)(dd:h'.DictOf (d8 P w) a vs) :
  dk P w H' h' a (.dK kvs):=⟨z,hd,vs,rel,dd⟩
theorem Wa{Q:Unit->Shared->Prop}(hu:A.units+1<cLine)(I:Inv X pins O H s)(g:kf H a y v H')(ry:RelV y u)(rv:RelV v r)(h:∀s',Inv X pins O H' s'->Q () s') :
  wpAny (model X.prog X.w) A (setItem (.ref a) u r) Q E s:=by
 rcases g with ⟨kvs,k,e,ey,l,eH⟩ | ⟨kvs,k,b,e,ey,eb,l,eH⟩
 .subst ey eH
  obtain⟨z,hd,vs,rel,dd⟩:=V6 I.ar e
  have hz:vs.length<=sizeLine:=by rw[<-rel.length];exact z
  have hl:(putK kvs k v).length<=sizeLine:=by have:=sT kvs k v;lia
  refine wpAny_setItem_pairs (hsz:=hz) (vL ry) dd λh' sY hs=>h _ ?_
  have he:∃q,h'.get? a=some q:=let ⟨q,_,_,hq,_⟩:=sY;⟨q,hq⟩
  exact FX I (by rw[e];exact True.intro) hs he (MV hl hd (rel.put k rv) sY)
 .subst ey eH
  cases(show u=Value.ref b from ry)
  obtain⟨z,hd,xs,rel,dd⟩:=MU I.ar e
  have hz:xs.length<=sizeLine:=by rw[<-gR rel];exact z
  have hl:(putK kvs k v).length<=sizeLine:=by have:=sT kvs k v;lia
  refine wpAny_setItem_heap (hsz:=hz) (AW hu) (sW I.ar eb) dd λh' sY hs=>h _ ?_
  obtain⟨q,es,ep,hq,h2,h3,h4,_,h5⟩:=sY
  refine FX I (by rw[e];exact True.intro) hs ⟨q,hq⟩ ⟨hl,hd,_,(rel.put k eb rv).keeps λc ys ec=>?_,q,es,ep,hq,h2,h3,h4,h5⟩
  rw[ak (bS ec e (λz=>nomatch z))]
  exact ec
end
def MW(i:Expr):Prop := ∀ov iv,subscripted i false ov iv=operate [ov,iv] (getItem ov iv)
def Wb{env:Env}{value slice:Expr}{pos:Pos}{id:String}
  (hl:typeLookup (.type T) "__getitem__"=pure (some (.builtin id))) (hs:MW slice)
  (h:wpAny (model prog w) A (eval value env) (λo s₁=>wpAny (model prog w) A (eval slice env) (λi s₂=>s₂.TypeIs o T/\wpAny (model prog w) A (getItem o i) Q E s₂) E s₁) E s) :
  wpAny (model prog w) A (eval (.Subscript value slice pos) env) Q E s:=by
 refine Subscript_ (fC h (λo s₁ h₁=>fC h₁ (λi s₂ h₂=>?_) λ_ _ x=>x) λ_ _ x=>x)
 obtain⟨hT,h₂⟩:=h₂
 unfold subscriptTail
 refine ah ?_
 rw[getitemInPython_of_ne hT.not_modules]
 refine ah (Lw hT hl ?_)
 have fin:wpAny (model prog w) A (subscripted slice false o i) (λr s₃=>wpAny (model prog w) A (letTemporaryGo value o r >>= λ_=>pure r) Q E s₃) E s₂:=by
  rw[hs o i]
  exact wpAny_operating (fC h₂ (λr s₃ h₃=>ah (wpAny_letTemporaryGo (aE h₃))) λ_ _ x=>x)
 first
  |exact aE (ah fin)
  |exact ah (aE (ah fin))
  |exact ah fin
def Wc(I:Inv X pins O H s)(g:dQ H a y o):s.TypeIs (.ref a) "dict":=by
 rcases g with ⟨kvs,k,e,_,_⟩ | ⟨kvs,k,b,e,_,_,_⟩
 .obtain⟨_,_,vs,_,dd⟩:=sV I.ar e
  exact dd.typeIs
 .obtain⟨_,_,xs,_,dd⟩:=sX I.ar e
  exact dd.typeIs
def Wd(td ty:TE):TE:=λO H Q=>td O H λx H1=>ty O H1 λy H2=>∃a v,x = .ref a/\dQ H2 a y (some v)/\Q v H2
def We(ty td:TE):TE:=λO H Q=>ty O H λy H1=>td O H1 λx H2=>∃a o,x = .ref a/\dQ H2 a y o/\Q (.bl o.isSome) H2
def Wf(ty td:TE):TE:=λO H Q=>ty O H λy H1=>td O H1 λx H2=>∃a o,x = .ref a/\dQ H2 a y o/\Q (.bl (!o.isSome)) H2
def Wg(td ty tv:TE):TS:=λD O H=>tv O H λv H1=>td O H1 λx H2=>ty O H2 λy H3=>∃a H4,x = .ref a/\kf H3 a y v H4/\D.nx O H4
section
variable{X:Cx}{o i e value:Expr}{pos pos' ou:Pos}{td ty tv:TE}
def BG(hu:X.A.units+1<cLine)(ho:PE X o td)(hi:PE X i ty)(hs:MW i):PE X (.Subscript o i pos) (Wd td ty):=by
 intro pins s O H Q I h
 refine Wb PySem.F.slot_dict_getitem.lookup hs (aD (ho pins s O H _ I h) λu s1 ⟨x,H1,I1,rx,q1⟩=>aD (hi pins s1 O H1 _ I1 q1) λiv s2 h_=>?_)
 obtain⟨y,H2,I2,ry,a,v,ex,g,q2⟩:=h_
 subst ex
 obtain rfl:u=Value.ref a:=rx
 exact⟨Wc I2 g,V7 hu I2 g ry λw' s3 I3 lO=>⟨v,H2,I3,lO,q2⟩⟩
def BH(hu:X.A.units+1<cLine)(hi:PE X i ty)(ho:PE X o td):PC X .In i o (We ty td):=by
 intro pins s O H Q I h
 refine aD (hi pins s O H _ I h) λiv s1 ⟨y,H1,I1,ry,q1⟩=>aD (ho pins s1 O H1 _ I1 q1) λu s2 h_=>?_
 obtain⟨x,H2,I2,rx,a,ov,ex,g,q2⟩:=h_
 subst ex
 obtain rfl:u=Value.ref a:=rx
 exact V8 hu I2 g ry λs3 I3=>⟨.bl ov.isSome,H2,I3,rfl,q2⟩
def MX(hu:X.A.units+1<cLine)(hi:PE X i ty)(ho:PE X o td):PC X .NotIn i o (Wf ty td):=by
 intro pins s O H Q I h
 refine aD (hi pins s O H _ I h) λiv s1 ⟨y,H1,I1,ry,q1⟩=>aD (ho pins s1 O H1 _ I1 q1) λu s2 h_=>?_
 obtain⟨x,H2,I2,rx,a,ov,ex,g,q2⟩:=h_
 subst ex
 obtain rfl:u=Value.ref a:=rx
 exact V9 hu I2 g ry λs3 I3=>⟨.bl (!ov.isSome),H2,I3,rfl,q2⟩
def vM(hu:X.A.units+1<cLine)(ho:PE X o td)(hi:PE X i ty)(hv:PE X value tv)(hs:swapsWith value (some (.Subscript o i pos')) pos.line X.env=pure false) :
  PS X (.Assign [.Subscript o i pos'] value pos) (Wg td ty tv):=by
 intro pins s O H D I h
 refine wpAny_Assign_Subscript (aD (hv pins s O H _ I h) λr s1 ⟨v,H1,I1,rv,q1⟩=>aD (ho pins s1 O H1 _ I1 q1) λu s2 ⟨x,H2,I2,rx,q2⟩=>aD (hi pins s2 O H2 _ I2 q2) λiv s3 ⟨y,H3,I3,ry,a,H4,ex,g,q3⟩=>?_) hs
 subst ex
 obtain rfl:u=Value.ref a:=rx
 exact Wa hu I3 g ry rv λs4 I4=>⟨O,H4,I4,q3⟩
end
def Wh(h:Heap)(hb:sysModules<h.objs.size):dk P w H (h.push { cls := .type "dict",data := .dict #[] }) h.objs.size (.dK []):=
 ⟨bW _,uV.mpr (aP (bV hb)),[],.nil,Heap.DictOf.new h⟩
def Wi(h:Heap)(hb:sysModules<h.objs.size):dk P w H (h.push { cls := .type "dict",data := .dict #[] }) h.objs.size (.dT []):=
 ⟨bW _,uV.mpr (aP (bV hb)),[],.nil,_,#[],0,cQ _ rfl,⟨rfl,rfl,rfl⟩,rfl,rfl,i4⟩
def Wj:TE:=λ_ H Q=>∀p,H p=none->Q (.ref p) (upd H p (.dK []))
def Wk:TE:=λ_ H Q=>∀p,H p=none->Q (.ref p) (upd H p (.dT []))
section
variable{X:Cx}{pos:Pos}
def BJ:PE X (.Dict [] [] pos) Wj:=λpins s O H Q I h=>
 wpAny_Dict_empty ⟨.ref s.heap.objs.size,_,I.laid (a:=s.heap.objs.size) (o := .dK []) (t':=s.toks) (λ_ _ q=>bq _ q) (aQ _) (Wh s.heap I.big),rfl,h _ (I.ar.fresh (aQ _))⟩
def FY:PE X (.Dict [] [] pos) Wk:=λpins s O H Q I h=>
 wpAny_Dict_empty ⟨.ref s.heap.objs.size,_,I.laid (a:=s.heap.objs.size) (o := .dT []) (t':=s.toks) (λ_ _ q=>bq _ q) (aQ _) (Wi s.heap I.big),rfl,h _ (I.ar.fresh (aQ _))⟩
end
structure M2(X:Cx)(o:Expr)(m:Str)(apos:Pos)(e f:Expr)(cZ:Pos):Prop where
 base:attributeBase o m X.env (eval o X.env)=eval o X.env
 iw:((backTo cZ (starEach [e,f] X.env)).all (λx=>!x.1)&&(backToKw cZ (keywordEach [] X.env)).all (λx=>x.1.isSome)
  && decide (([e,f]:List Expr).length+([]:List Keyword).length+(if ([]:List Keyword).isEmpty then 0 else 1)<30))=true
 line:(apos.endLine==cZ.line)=true
 trees:backTo cZ (starEach [e,f] X.env)=[(false,eval e X.env),(false,eval f X.env)]
def FZ(H:Hp)(a:Addr):Prop:=(∃kvs,Rd H a (.dK kvs))\/∃kvs,Rd H a (.dT kvs)
def MY(I:Inv X pins O H s)(d:FZ H a) :
  s.TypeIs (.ref a) "dict"/\(∀b,Value.ref a = .ref b->∃ob,s.heap.get? b=some ob/\ob.dict=none)/\(a==sysModules)=false:=by
 rcases d with ⟨kvs,e⟩ | ⟨kvs,e⟩
 .obtain⟨_,hd,vs,_,dd⟩:=sV I.ar e
  refine⟨dd.typeIs,λb q=>?_,hd⟩
  cases q
  obtain⟨ob,_,_,h1,h2,_⟩:=dd
  exact⟨ob,h1,h2.2.1⟩
 .obtain⟨_,hd,xs,_,dd⟩:=sX I.ar e
  refine⟨dd.typeIs,λb q=>?_,hd⟩
  cases q
  obtain⟨ob,_,_,h1,h2,_⟩:=dd
  exact⟨ob,h1,h2.2.1⟩
section
variable{X:Cx}{pins:List (Addr×Obj)}{O:St}{H:Hp}{s:Shared}{a:Addr}{y d:V}{u r:Value}{o:Option V}{A:Around}{E:Value->Shared->Prop}
def Wl(hu:A.units+1<cLine)(I:Inv X pins O H s)(g:dQ H a y o)(ry:RelV y u)(rd:RelV d r)(h:∀w' s',Inv X pins O H s'->RelV (o.getD d) w'->Q w' s') :
  wpAny (model X.prog X.w) A (call (.builtin "dict.get") [.ref a,u,r]) Q E s:=by
 rcases g with ⟨kvs,k,e,ey,l⟩ | ⟨kvs,k,b,e,ey,eb,l⟩
 .subst ey
  obtain⟨z,hd,vs,rel,dd⟩:=sV I.ar e
  refine call_meetsIn Tz dd.typeIs PySem.F.entry_dict_get (PySem.F.args_dict_get_3 _ _ _) (meets_dict_get_default (d8 X.prog X.w) a (vL ry) hd r) ⟨_,dd.mapOf,h _ _ (I.tok _) ?_⟩
  rw[l]
  exact(rel.val k).getD rd
 .subst ey
  cases(show u=Value.ref b from ry)
  obtain⟨z,hd,xs,rel,dd⟩:=sX I.ar e
  refine call_meetsIn Tz dd.typeIs PySem.F.entry_dict_get (PySem.F.args_dict_get_3 _ _ _) (meetsH_dict_get_default (tupleKind (d8 X.prog X.w)) a b hd r) ⟨AW hu,k,xs,sW I.ar eb,dd,h _ _ (I.tok _) ?_⟩
  rw[l]
  exact(rel.val k).getD rd
end
def Wm(td ty tx:TE):TE:=λO H Q=>td O H λx H1=>∃a,x = .ref a/\FZ H1 a/\ty O H1 λy H2=>tx O H2 λz H3=>∃o,dQ H3 a y o/\Q (o.getD z) H3
section
variable{X:Cx}{o e f:Expr}{apos cZ:Pos}{td ty tx:TE}
def BK(hu:X.A.units+1<cLine)(ho:PE X o td)(he:PE X e ty)(hf:PE X f tx)(m:M2 X o "get" apos e f cZ):PE X (.Call (.Attribute o "get" apos) [e,f] [] cZ) (Wm td ty tx):=by
 intro pins s O H Q I h
 refine wpAny_Call_method m.base m.iw m.line PySem.F.plainAttrs_dict Tz PySem.F.type_dict_get (aD (ho pins s O H _ I h) λu s1 h_=>?_)
 obtain⟨x,H1,I1,rx,a,ex,d,q1⟩:=h_
 subst ex
 obtain rfl:u=Value.ref a:=rx
 obtain⟨t1,t2,_⟩:=MY I1 d
 refine⟨t1,t2,?_⟩
 rw[m.trees]
 refine Tw rfl (Tx (EE (aD (he pins s1 O H1 _ I1 q1) λiv s2 ⟨y,H2,I2,ry,q2⟩=>
  EE (aD (hf pins s2 O H2 _ I2 q2) λfv s3 ⟨z,H3,I3,rz,ov,g,q3⟩=>Calls.spliced_nil ?_))))
 exact Wl hu I3 g ry rz λw' s4 I4 lO=>⟨_,H3,I4,lO,q3⟩
end
end L2
namespace kg
open PySem PySem.W PySem.Calls PyProof.Rows
variable{P:Params}{h:Heap}{l:OpenLaw}{n:Nat}{args:List WData}{vals:List Value}{q:Program}{loose:List Str}{XP:(Str->Option Value)->Heap->Prop}{YP:World->Heap->Prop}{d:DefRec}{L:Addr}{m:Str->Option Value}
def Wn:∀(ns:List Int) (vs:List Value),WellAll P h vs (ns.map WData.int)->IntsAre vs ns:=by
 intro ns
 induction ns with
 |nil=>
  intro vs w
  rw[EI] at w
  cases w
  exact .nil
 |cons n ns ih=>
  intro vs w
  rw[cF] at w
  cases w with
  |cons a b=>
   cases a
   exact .cons _ _ (ih _ b)
theorem Wo(hn:l.most=some n)
  (BL:l.row.toRowW.claim.pre args=true) (yf:WellAll P h vals args) :
  ∃a vs ns,vals=[Value.ref a]/\args=[WData.list (ns.map WData.int)]/\h.get? a=some { cls := .type "list",data := .seq vs.toArray }/\IntsAre vs ns/\ns.length<=n:=by
 have Wq:WShape.hasAll [] args [.list .int]=true:=(pre_splitW BL).1
 have hc:l.pre.holds [] { args:=args }=true:=(pre_splitW BL).2
 obtain⟨d,r,rfl,h1,h2⟩:=hasAllW_cons Wq
 obtain rfl:=hasAllW_nil h2
 obtain⟨xs,rfl,h3⟩:=hasW_list h1
 obtain⟨ns,rfl⟩:=items_int h3
 have hlen:ns.length<=n:=by
  unfold OpenLaw.pre at hc
  have h4:(WTm.not (.lt (.lit (.int (n:Int))) (.len (.arg 0)))).holds [] { args:=[.list (ns.map .int)] }=true:=by
   have h4:=(holds_andW hc).1
   rw[hn] at h4
   exact h4
  have h5:=condW_of h4 (w_not (w_lt w_lit (w_len_list (w_arg rfl))))
  rw[av] at h5
  refine Lx λq=>?_
  have q':(n:Int)<((ns.length:Nat):Int):=by lia
  first
   |(rw[aU q'] at h5;exact absurd h5 (by decide))
   |(simp at h5;lia)
 cases yf with
 |cons w1 w2=>
  cases w2
  cases w1 with
  |list ho fY=>exact⟨_,_,ns,rfl,rfl,ho,Wn ns _ fY,hlen⟩
def Wr(l:OpenLaw)(args:List WData):l.row.toRowW.claim.post args (.bool true) args=true:=
 postW_of (r:=l.row.toRowW) (X:=(true==true))
  (show WShape.has [] (.bool true) .bool=true by first | rfl | decide | simp[WShape.has,WShape.arms,WShape.armsAll])
  (show(WTm.eq .res (.lit (.bool true))).value [] { args:=args,res:=some (.bool true),after:=args }=some (.bool (true==true)) from w_eq_bool (w_res rfl) w_lit) rfl
def Ws
  (hn:l.most=some n) (yg:d.params.defaults=[])
  (call:∀(w:World) (s₀ s₁:Shared) (mg mb:Str->Option Value) (fa:Addr) (o:Obj) (pm cd doc:Value) (a:Addr) (vs:List Value) (ns:List Int),
   Ground q loose [] XP w s₀ mg mb s₁.heap->YP w s₁.heap->
   s₁.heap.get? fa=some o->o.data = .func (docDef d.name d.params d.body d.scope pm cd doc)->s₁.heap.CodeRec cd d.name->mg d.name=some (.ref fa)->
   s₁.heap.get? a=some { cls := .type "list",data := .seq vs.toArray }->IntsAre vs ns->ns.length<=n->s₁.gens = #[]->
   codeAny (model l.prog w) callerA (.call (.ref fa) ⟨[.ref a],[]⟩) (λr s'=>r = .ok (.ret (.bool true))/\OldK s₁.heap s'.heap/\s'.os=s₁.os/\AllBare s'.gens) s₁) :
  WalkO q loose XP YP l.row.toRowW d [] (λf vs=>PySem.call f vs):=by
 intro w s₀ s₁ mg mb G Y fa o pm cd doc dV kV ho hd gu hD hmg hg args vals as BL agV hrd yf lT
 obtain rfl:dV = .none:=Dflts.none hD yg
 obtain rfl:kV = .none:=Dflts.noKw hD
 obtain⟨a,vs,ns,rfl,rfl,F0,hints,hlen⟩:=Wo hn BL yf
 refine enter_call (xC (call w s₀ s₁ mg mb fa o pm cd doc a vs ns G Y ho (fd_plain hd) gu hmg F0 hints hlen hg) λr s' hq=>?_)
 obtain⟨rfl,h2,h3,h4⟩:=hq
 exact⟨.inl ⟨.bool true,.bool true,[],rfl,λ_=>rfl,.bool true,Wr l _,λ_=>⟨List.Pairwise.nil,λ_ hm=>(nomatch hm)⟩⟩,h2,h3,h4⟩
section
variable{prog:Program}{w:World}{A:Around}{E:Value->Shared->Prop}{s:Shared}{K:Frag}
noncomputable def BM(h:Heap):Heap:={ h with objs := #[] }
def BN(h:Heap)(b:Addr):(BM h).get? b=none:=by
 cases e:(BM h).get? b with
 |none=>rfl
 |some o=>exact absurd (bx e) (jz _)
noncomputable def ledger(h:Heap)(L d:Addr):List (Addr×Obj):=(List.range h.objs.size).filterMap λa=>if a=L\/a=d then none else (h.get? a).map λo=>(a,o)
def F1{d a:Addr}{o:Obj}:(a,o)∈ledger h L d↔a≠L/\a≠d/\h.get? a=some o:=by
 unfold ledger
 rw[List.mem_filterMap]
 constructor
 .rintro⟨b,_,e⟩
  split at e
  .cases e
  .rename_i hb
   obtain⟨o',ho,e'⟩:=i3.mp e
   cases e'
   exact⟨λq=>hb (.inl q),λq=>hb (.inr q),ho⟩
 .rintro⟨n1,n2,ho⟩
  refine⟨a,ic.mpr (bx ho),?_⟩
  rw[au (show ¬(a=L\/a=d) from λq=>q.elim n1 n2),ho] <;> rfl
def Wt(n:h.Ns L m):Fr (BM h) L h m:=
 ⟨n,λb o e=>(by rw[BN] at e;cases e),bW _⟩
end
end kg
namespace L2
open PySem PySem.Spec PyProof.Rows
variable{P q:Program}{w:World}{K:Frag}{mb mg:Str->Option Value}{CX:World->lK}{a f:Addr}{fd:FuncData}{qual x:Str}{sp:Sp}{s₁:Shared}{vs:List Value}{ns:List Int}{l:OpenLaw}{n:Nat}{loose ps:List Str}{XP:(Str->Option Value)->Heap->Prop}{YP:World->Heap->Prop}{d:DefRec}{st:Stmt}{oc:Value}{an od:Option Addr}{je:Array (Option Value)}{A B:Prop}{H H':Hp}{xs:List V}
theorem MZ:∀{vs:List Value}{ns:List Int},IntsAre vs ns->Vals (ns.map V.int) vs
 |_,_,.nil=>.nil
 |_,_,.cons n t h=>.cons ⟨t,rfl⟩ (MZ h)
def F2(H:Hp):Prop := ∀b,H b=none\/∃o xs,H b=some (.eC o (.lst xs))
def Wu{CX:lK}{k:Nat}{fa:Addr}
  (KX:K.In s₁.heap) (M0:s₁.heap.Ns mainGlobals mg) (hb:s₁.heap.Ns builtinsNs mb) (qy:∀x:Str,x≠"__name__"->mb x=bootBuiltins x) (Wv:s₁.heap.NoLimit) (hg:s₁.gens = #[])
  (ha:s₁.heap.get? a=some { cls := .type "list",data := .seq vs.toArray }) (hi:IntsAre vs ns) (hl:ns.length<=sizeLine) (hr:bT k callerA)
  (F:∀base:Heap,K.In base->base.Ns mainGlobals mg->aK P w K mg base CX k fa fd [x] sp) (Ww:∀(s:Shared) (u:Value),BindsTo s fd ⟨[u],[]⟩ [(x,u)])
  (iq:∀H:Hp,F2 H->aq K H a (ns.map V.int)->sp [.ref a] H (λv _=>v = .bl true) λ_ _ _=>False)
  (F3:∀H e s',CX [] H s₁ (λ_ _ _=>False) e s'->False) :
  codeAny (model P w) callerA (.call (.ref fa) ⟨[.ref a],[]⟩) (λr s'=>r = .ok (.ret (.bool true))/\OldK s₁.heap s'.heap/\s'.os=s₁.os/\AllBare s'.gens) s₁:=by
 have rv:=MZ hi
 have Wx:=hi.length
 have core:∀H:Hp,F2 H->aq K H a (ns.map V.int)->dB P w H s₁.heap->(∀b,H b≠none->b=a)->(H a≠none->K.lookup a=none)->
   codeAny (model P w) callerA (.call (.ref fa) ⟨[.ref a],[]⟩) (λr s'=>r = .ok (.ret (.bool true))/\OldK s₁.heap s'.heap/\s'.os=s₁.os/\AllBare s'.gens) s₁:=by
  intro H hO hS ar hA hK
  have M1:∀{b:Addr}{o:Obj},s₁.heap.get? b=some o->H b=none->(oi s₁.heap H).get? b=some o:=λe n=>Ui e n
  have x6:∀{b:Addr}{o:Obj}{es:Array DictEntry}{ep:Nat},s₁.heap.get? b=some o->o.data = .dict es ep->H b=none:=λ{b o es ep} e d=>by
   cases q:H b with
   |none=>rfl
   |some u=>
    have e':b=a:=hA b (by rw[q];simp)
    subst e'
    rw[ha] at e;cases e
    have d':Data.seq vs.toArray _=Data.dict es ep:=d
    cases d'
  have BO:∀{b:Addr}{m:Str->Option Value},s₁.heap.Ns b m->(oi s₁.heap H).Ns b m:=λ{b m} ⟨o,es,ep,e,d,r⟩=>⟨o,es,ep,M1 e (x6 e d),d,r⟩
  have M3:K.In (oi s₁.heap H):=λb o e=>M1 (KX b o e) (by
   cases q:H b with
   |none=>rfl
   |some u=>
    have e':b=a:=hA b (by rw[q];simp)
    subst e'
    rw[hK (by rw[q];simp)] at e;cases e)
  have hM:Mod K mg (oi s₁.heap H):=⟨M3,BO M0,⟨mb,BO hb,qy⟩,let ⟨mc,h1,h2⟩:=Wv;⟨mc,BO h1,h2⟩⟩
  have e0:lL P w K mg (oi s₁.heap H) callerA [] s₁ H:=⟨rfl,hM,λb o e=>Uj e,Nat.le_of_eq (Uh _ _),trivial,λb hb=>absurd (show b∈([]:List Addr) from hb) (by simp),ar,.of_eq hg⟩
  refine xC ((F _ M3 (BO M0)).run callerA [] s₁ H ⟨[.ref a],[]⟩ [.ref a] [.ref a] _ _ hr e0 (Ww s₁ (.ref a)) (.cons rfl .nil) (iq H hO hS)) λr s' h=>?_
  cases r with
  |error e=>exact(F3 H e s' h).elim
  |ok fl=>
   cases fl with
   |next=>exact False.elim h
   |brk=>exact False.elim h
   |cont=>exact False.elim h
   |ret u=>
    obtain⟨v,H',os,bare,un,Wy,r',q⟩:=h
    have q':v = .bl true:=q
    subst q'
    obtain rfl:u=Value.bool true:=r'
    refine⟨rfl,OldK.of_keep λb o e=>?_,os,bare⟩
    cases q:H b with
    |none=>exact un.keep b o e q (by intro z;exact absurd (show b∈([]:List Addr) from z) (by simp)) (by simp)
    |some u=>
     rcases hO b with z | ⟨ob,xs,z⟩
     .rw[q] at z;cases z
     .have z2:=un.jb b ob _ z
      obtain⟨e1,_⟩:=ar b _ z
      obtain⟨e2,_⟩:=Wy b _ z2
      rw[e] at e1;cases e1
      exact e2
 cases hk:K.lookup a with
 |some o=>
  have e:=KX a o hk
  rw[ha] at e
  cases e
  refine core (λ_=>none) (λ_=>.inl rfl) (.inr ⟨_,vs.toArray,_,hk,rfl,rfl,rfl,by rw[br,Wx];exact hl,by simpa using rv⟩) (λb u z=>by have z':(none:Option HO)=some u:=z;cases z') (λb z=>absurd rfl z) λz=>absurd rfl z
 |none=>
  refine core (λb=>if b=a then some (.eC { cls := .type "list",data := .seq vs.toArray } (.lst (ns.map V.int))) else none) (λb=>?_) (.inl (.inr ⟨{ cls := .type "list",data := .seq vs.toArray },aC rfl⟩)) (λb u z=>?_) (λb z=>?_) λ_=>hk
  .by_cases hb:b=a
   .exact .inr ⟨_,_,aC hb⟩
   .exact .inl (au hb)
  .by_cases hb:b=a
   .have z':=(aC hb).symm.trans z
    cases z'
    subst hb
    exact⟨ha,by rw[av];exact hl,vs,_,rv,ha⟩
   .have z':=(au hb).symm.trans z
    cases z'
  .by_cases hb:b=a
   .exact hb
   .exact absurd (au hb) z
def Wz{k:Nat}{K:Params->Frag}{sp:World->Sp}
  (hn:l.most=some n) (sN:n<=sizeLine) (yg:d.params.defaults=[]) (hr:bT k callerA)
  (hY:∀(w:World) (h:Heap),YP w h->(K w.params).In h)
  (F:∀(w:World) (mg:Str->Option Value) (fa:Addr) (h:Heap),(K w.params).In h->h.Ns mainGlobals mg->mg d.name=some (.ref fa)->
   ∃fd:FuncData,(∀(s:Shared) (u:Value),BindsTo s fd ⟨[u],[]⟩ [(x,u)])/\
    ∀base:Heap,(K w.params).In base->base.Ns mainGlobals mg->aK l.prog w (K w.params) mg base (CX w) k fa fd [x] (sp w))
  (iq:∀(w:World) (H:Hp) (a:Addr) (ns:List Int),ns.length<=n->F2 H->aq (K w.params) H a (ns.map V.int)->sp w [.ref a] H (λv _=>v = .bl true) λ_ _ _=>False)
  (F3:∀(w:World) (H:Hp) (s:Shared) (e:Value) (s':Shared),CX w [] H s (λ_ _ _=>False) e s'->False) :
  PySem.W.WalkO q loose XP YP l.row.toRowW d [] (λf vs=>PySem.call f vs):=by
 refine kg.Ws hn yg λw s₀ s₁ mg mb fa o pm cd doc a vs ns G Y ho hd gu hmg F0 hints hlen hg=>?_
 have KX:=hY w _ Y
 obtain⟨fd,hb,hF⟩:=F w mg fa _ KX G.T.g hmg
 exact Wu KX G.T.g G.T.b G.T.builtins G.T.nolimit hg F0 hints (bL hlen sN) hr hF hb (λH hO hS=>iq w H a ns hlen hO hS) λH e s'=>F3 w H s₁ e s'
noncomputable def inClass(s:Stmt)(j:Nat):Stmt:=match s with
 |.ClassDef _ _ _ body _ _ _ _ _ _ _=>body.getD j (.Pass ⟨0,0,0,0⟩)
 |_=>.Pass ⟨0,0,0,0⟩
noncomputable def qz(s:Stmt):Arguments:=match s with
 |.FunctionDef _ a _ _ _ _ _ _ _ _=>a
 |_=>{ posonlyargs:=[],args:=[],vararg:=none,kwonlyargs:=[],kw_defaults:=[],kwarg:=none,defaults:=[] }
noncomputable def jI(s:Stmt):List Stmt:=match s with
 |.FunctionDef _ _ b _ _ _ _ _ _ _=>b
 |_=>[]
noncomputable def aN(s:Stmt):Scope:=match s with
 |.FunctionDef _ _ _ _ _ _ sc _ _ _=>sc
 |_=>{ kind := .function,names:=[],isGenerator:=false,isCoroutine:=false }
noncomputable abbrev aS:lK:=λ_ _ _ _ _ _=>False
abbrev E0:XK:=λ_ _ _=>False
def yh{X:Cx}:Passes aS X E0:=λ_ _ _ _ _ _ _ h=>h.elim
structure aZ(K:Frag)(x qual:Str)(st:Stmt)(f:Addr)(fd:FuncData):Prop where
 ex:∃(oc:Value) (od:Option Addr) (kV doc pm:Value) (an:Option Addr) (aF ct:Value) (je:Array (Option Value)),
  fd=fnOf x qual (qz st) (jI st) (aN st) .none kV doc pm an aF ct/\K.lookup f=some ⟨oc,od,.func fd,je⟩/\codeIn K aF qual=true
 kp:keepIn K (.ref f)=true
section
variable{P:Program}{w:World}{K:Frag}{mg:Str->Option Value}{base:Heap}
def aZ.ok{N:List Str}{k:Nat}(F:aZ K x qual st f fd)(S:bu N ps (aN st))(len:∀vs H Q E,sp vs H Q E->vs.length=ps.length)
  (lM:∀(aF:Value) (A:Around) (outer:List Env) (s:Shared) (H:Hp) (vs:List V) (Q:VK) (E:XK),bT k (A.deeper (envOfC qual (aN st) s.heap.objs.size f aF))->sp vs H Q E->
   ∃t,eU (gX aS P w K mg base N qual (aN st) f aF A outer s H E).so (jI st) t/\t { nx:=λ_ H'=>Q .aw H',rt:=Q } (start N vs) H):aK P w K mg base aS (k+1) f fd ps sp:=by
 obtain⟨oc,od,kV,doc,pm,an,aF,ct,je,rfl,lk,gu⟩:=F.ex
 refine vF lk gu S len λA outer s H vs Q E hr iq=>?_
 obtain⟨t,h,q⟩:=lM aF A outer s H vs Q E hr iq
 exact⟨t,h.so,q⟩
def aZ.binds(F:aZ K x qual st f fd)
  (h:∀(kV doc pm:Value) (an:Option Addr) (aF ct:Value) (us:List Value),us.length=ps.length->bindArgs (fnOf x qual (qz st) (jI st) (aN st) .none kV doc pm an aF ct) ⟨us,[]⟩=pure (ps.zip us)):Binds K fd ps []:=by
 obtain⟨oc,od,kV,doc,pm,an,aF,ct,je,rfl,lk,gu⟩:=F.ex
 exact .all (h kV doc pm an aF ct)
def vN{kV doc pm aF ct:Value}(l:K.lookup f=some ⟨oc,od,.func (fnOf x qual (qz st) (jI st) (aN st) .none kV doc pm an aF ct),je⟩)
  (c:codeIn K aF qual=true) (k:keepIn K (.ref f)=true):aZ K x qual st f (fnOf x qual (qz st) (jI st) (aN st) .none kV doc pm an aF ct):=⟨⟨oc,od,kV,doc,pm,an,aF,ct,je,rfl,l,c⟩,k⟩
end
def iy{A:Around}{k:Nat}(hr:bT k A):A.units+1<cLine:=lr (Nat.add_le_add_left (by decide:1<=64) _) hr.units
def M4(h:n<=1000):n<sizeLine:=lr h (by decide)
section
variable{X:Cx}
def pv(i:Nat){pos:Pos}(hN:X.N[i]? = some x:=by rfl)(hv:E9 X.env.scope x:=by first | exact Or.inl rfl | exact Or.inr (Or.inl rfl) | exact Or.inr (Or.inr rfl))(hd:(x==("__debug__":Str))=false:=by decide)
  (gu:(x==("__classdict__":Str))=false:=by decide):PE X (.Name x pos) (vt i):=Uq hN hv hd gu
end
def bj(h:B):if false=true then A else B:=by
 rw[au cy]
 exact h
def bA(h:A):if true=true then A else B:=by
 rw[aC rfl]
 exact h
def iz{c:Prop}[Decidable c](h1:c->A)(h2:¬c->B):if c then A else B:=by
 by_cases h:c
 .rw[aC h]
  exact h1 h
 .rw[au h]
  exact h2 h
def ag(H H':Hp):Prop := ∀b o,H b=some o->H' b=some o
def ag.refl(H:Hp):ag H H:=λ_ _ h=>h
def ag.trans{H1 H2:Hp}(a:ag H H1)(b:ag H1 H2):ag H H2:=λc o h=>b c o (a c o h)
def ag.free(e:ag H H'){l:Addr}(h:H' l=Option.none):H l=Option.none:=by
 cases q:H l with
 |none=>rfl
 |some o=>
  rw[e l o q] at h
  cases h
def ag.seq(e:ag H H')(h:aq K H a xs):aq K H' a xs:=by
 rcases h with (h | ⟨o,h⟩) | h
 .exact .inl (.inl (e _ _ h))
 .exact .inl (.inr ⟨o,e _ _ h⟩)
 .exact .inr h
section
variable{κ:Type}[DecidableEq κ]
def M5{kvs:List (κ×V)}{k:κ}(h:aM kvs k=none):¬k∈kvs.map (·.1):=by
 intro m
 obtain⟨p,hp,e⟩:=cC.mp m
 have q:(kvs.any λkv=>decide (kv.1=k))=true:=vf.mpr ⟨p,hp,aU e⟩
 rw[sS,h] at q
 exact absurd q (by simp)
def M6{kvs:List (κ×V)}{k:κ}{v:V}(h:aM kvs k=some v):k∈kvs.map (·.1):=by
 have q:(kvs.any λkv=>decide (kv.1=k))=true:=by
  rw[sS,h]
  all_goals rfl
 obtain⟨p,hp,e⟩:=vf.mp q
 exact cC.mpr ⟨p,hp,gr e⟩
theorem F4:∀{l:List κ}{k:κ},l.Nodup->¬k∈l->(l++[k]).Nodup
 |[],k,_,_=>by simp
 |a::r,k,h,hk=>by
  obtain⟨h1,h2⟩:=ig.mp h
  show(a::(r++[k])).Nodup
  refine ig.mpr ⟨λm=>?_,F4 h2 λm=>hk (cx.mpr (Or.inr m))⟩
  rcases dR.mp m with q | q
  .exact h1 q
  .exact hk (cx.mpr (Or.inl (cJ.mp q).symm))
def WA{kvs:List (κ×V)}{k:κ}(v:V)(hn:(kvs.map (·.1)).Nodup)(h:aM kvs k=none):((putK kvs k v).map (·.1)).Nodup:=by
 rw[vK v h,fG]
 exact F4 hn (M5 h)
end
end L2
set_option maxHeartbeats 4000000
namespace L2
open PySem PySem.Spec PyProof.Rows
variable{H H':Hp}{a c globals it:Addr}{o:HO}{K:Frag}{ns own xs:List Str}{prog:Program}{w:World}{A:Around}{R:Result->Shared->Prop}{s s₂:Shared}{ifs:List Expr}{scope:Scope}{env:Env}{x y z:Str}{h h' h2:Heap}{M:Model}{E:Value->Shared->Prop}{cl:List (Str×Addr)}{Q:Env->Shared->Prop}{ck i n:Nat}{X:Cx}{pins vp:List (Addr×Obj)}{O:List (Option V)}{js:List Nat}{fp:List Addr}{m:Str->Option Value}{px py pz tp ym:Pos}{tn:Nat->Heap->Prop}{RR:Value->Addr->Result->Shared->Prop}
def ag.dM(H:Hp):ag H H:=λ_ _ h=>h
theorem ag.upd(h:H a=none):ag H (upd H a o):=λb u e=>by rw[ak (bh e h)];exact e
def ag.nh(s:ag H H')(h:H a=none):ag H (L2.upd H' a o):=λb u e=>by rw[ak (bh e h)];exact s b u e
def ag.tup{xs:List V}(e:ag H H')(h:aA K H a xs):aA K H' a xs:=by
 rcases h with (h | ⟨o,h⟩) | h
 .exact .inl (.inl (e _ _ h))
 .exact .inl (.inr ⟨o,e _ _ h⟩)
 .exact .inr h
theorem WB{elt target iter:Expr}{pos:Pos}{it acc:Value}(I:Nat->Shared->Prop)
  (turn:∀n s,I n s->wpAny (model prog w) A (pyNext it) (λr s₁=>match r with
   |none=>R (.ok .next) s₁
   |some v=>wpAny (model prog w) A (letOwnedTupleGo target it v) (λ_ s₂=>wpAny (model prog w) A (assign target env v) (λ_ s₃=>
     wpAny (model prog w) A (forIn ifs true λc r=>if r=true then do let ok<-isTrue c env (eval c env);pure (ForInStep.yield ok) else pure (ForInStep.yield r)) (λok s₄=>
      if ok=true then wpAny (model prog w) A (eval elt env) (λx s₅=>
       wpAny (model prog w) A (call (.builtin "list.append") [acc,x]) (λ_ s₆=>∃m,m<n/\I m s₆) (λ_ _=>False) s₅) (λ_ _=>False) s₄
      else ∃m,m<n/\I m s₄) (λ_ _=>False) s₃) (λ_ _=>False) s₂) (λ_ _=>False) s₁) (λ_ _=>False) s)
  (n:Nat) (h:I n s) :
  codeAny (model prog w) A (.compLoop (.ListComp elt [⟨target,iter,ifs,0⟩] scope pos) 0 it acc env) R s:=by
 refine codeAny_loop rfl I (λn s hI=>?_) n h
 show wpAny _ A ((compTurn (.ListComp elt [⟨target,iter,ifs,0⟩] scope pos) 0 it acc env).onRaise (λx=>do noteFrame x env;theTreesLotGoes x)) _ _ s
 refine wpAny_noted ?_
 rw[compTurn_list]
 refine ah (xA (ah (fC (turn n s hI) (λr s₁ h₁=>?_) λ_ _ f=>f.elim)))
 cases r with
 |none=>exact aE h₁
 |some v=>
  refine ah (fC h₁ (λ_ s₂ h₂=>ah (fC h₂ (λ_ s₃ h₃=>ah (fC h₃ (λok s₄ h₄=>?_) λ_ _ f=>f.elim)) λ_ _ f=>f.elim)) λ_ _ f=>f.elim)
  cases ok with
  |false=>exact aE ⟨rfl,h₄⟩
  |true=>
   exact ah (ah (fC h₄ (λx s₅ h₅=>ah (fC h₅ (λ_ s₆ h₆=>aE (aE ⟨rfl,h₆⟩)) λ_ _ f=>f.elim)) λ_ _ f=>f.elim))
noncomputable def oG(own:List Str)(n:Nat):List (Str×Addr):=own.map λx=>(x,n+1)
noncomputable def fc(X:Cx)(xs own ns:List Str)(scope:Scope)(cl:List (Str×Addr))(fp:List Addr)(pins:List (Addr×Obj))(s:Shared)(H:Hp):Cx:=
 { X with N:=xs++ns,s₀:=s,H₀:=H,env:=compEnvC scope (oG own s.heap.objs.size++cl) s.heap.objs.size X.env,outer:=X.stack,ex:=fp,fn:=λy=>own.contains y,pn:=X.pn++pins,xe:=λ_ _=>False }
structure F5(X:Cx)(own:List Str)(scope:Scope)(cl:List (Str×Addr)):Prop where
 M7:closureFor scope X.env=pure cl
 sub:∀x c,cl.lookup x=some c->X.env.cells.lookup x=some c
 all:∀x,((relabel scope X.env).names.lookup x=some .cell\/(relabel scope X.env).names.lookup x=some .free)->x∉own->∃c,cl.lookup x=some c
 kind:scope.kind = .function
 cell:(scope.names.filter λy=>y.2 == .cell).map (·.1)=own
 iw:own.length<=1
 names:∀y∈scope.names,y.2 = .local->scope.names.lookup y.1=some .local
noncomputable def fL(cells:List (Str×Addr)):List (Str×NameKind)->List (Str×Addr)->List (Str×Addr)
 |[],acc=>acc
 |(n,k)::r,acc=>if k == .free then fL cells r ((n,(cells.lookup n).getD 0)::acc) else fL cells r acc
def WC(h:∀y∈scope.names,y.2 = .free->∃c,env.cells.lookup y.1=some c):closureFor scope env=pure (fL env.cells scope.names []):=by
 unfold closureFor
 suffices H:∀(l:List (Str×NameKind)) (acc:List (Str×Addr)),(∀y∈l,y.2 = .free->∃c,env.cells.lookup y.1=some c)->
   (forIn l acc (λ(x:Str×NameKind) (r:List (Str×Addr))=>(do
    let (name,kind):=x
    let cs:=r
    if (kind==NameKind.free)=true then do
     let a<-cellOf env name
     pure (ForInStep.yield ((name,a)::cs))
    else pure (ForInStep.yield cs):Sem (ForInStep (List (Str×Addr))))):Sem (List (Str×Addr)))=pure (fL env.cells l acc) by
  have:=H scope.names [] h
  simp only at this ⊢
  first | (rw[this];rfl) | exact this | (simp only[this];rfl)
 intro l
 induction l with
 |nil=>intro acc _;rfl
 |cons y r ih=>
  intro acc hy
  obtain⟨n,k⟩:=y
  rw[List.forIn_cons]
  have hr:∀y∈r,y.2 = .free->∃c,env.cells.lookup y.1=some c:=λy m=>hy y (cW _ m)
  cases hk:(k==NameKind.free) with
  |false=>
   simp only[hk,AX,rR,fL]
   exact ih acc hr
  |true=>
   obtain⟨c,ec⟩:=hy (n,k) bK (gS.mp hk)
   simp only[hk,j4,fL,ec,qi]
   have e:cellOf env n=pure c:=by
    unfold cellOf
    rw[show env.cells.lookup n=some c from ec]
   rw[e]
   exact ih ((n,c)::acc) hr
theorem BQ(cells:List (Str×Addr))(x:Str):∀(l:List (Str×NameKind)) (acc:List (Str×Addr)),(∀y∈l,y.2 = .free->∃c,cells.lookup y.1=some c)->(∀c,acc.lookup x=some c->cells.lookup x=some c)->
  (∀c,(fL cells l acc).lookup x=some c->cells.lookup x=some c)/\(((x,NameKind.free)∈l\/∃c,acc.lookup x=some c)->∃c,(fL cells l acc).lookup x=some c)
 |[],acc,_,ha=>⟨ha,λh=>h.elim (λz=>nomatch z) id⟩
 |(n,k)::r,acc,hy,ha=>by
  have hr:∀y∈r,y.2 = .free->∃c,cells.lookup y.1=some c:=λy m=>hy y (cW _ m)
  unfold fL
  cases hk:(k==NameKind.free) with
  |false=>
   rw[au cy]
   obtain⟨h1,h2⟩:=BQ cells x r acc hr ha
   refine⟨h1,λh=>h2 ?_⟩
   rcases h with h | h
   .rcases cx.mp h with z | z
    .cases z
     exact absurd hk (by decide)
    .exact .inl z
   .exact .inr h
  |true=>
   rw[aC rfl]
   obtain⟨c,ec⟩:=hy (n,k) bK (gS.mp hk)
   have ec:cells.lookup n=some c:=ec
   rw[ec,qi]
   have WD:∀d,List.lookup x ((n,c)::acc)=some d->cells.lookup x=some d:=λd e=>by
    rw[rT] at e
    cases hx:x==n with
    |true=>rw[hx] at e;cases e;rw[eq_of_beq hx];exact ec
    |false=>rw[hx] at e;exact ha d e
   obtain⟨h1,h2⟩:=BQ cells x r ((n,c)::acc) hr WD
   refine⟨h1,λh=>h2 ?_⟩
   rcases h with h | ⟨d,h⟩
   .rcases cx.mp h with z | z
    .cases z
     exact .inr ⟨c,by simp[rT]⟩
    .exact .inl z
   .refine .inr ?_
    rw[rT]
    cases hx:x==n with
    |true=>exact⟨c,rfl⟩
    |false=>exact⟨d,h⟩
theorem mem_of_lookupK:∀{l:List (Str×NameKind)}{x:Str}{k:NameKind},l.lookup x=some k->(x,k)∈l
 |[],_,_,h=>by simp at h
 |(n,k')::r,x,k,h=>by
  rw[rT] at h
  cases hx:x==n with
  |true=>rw[hx] at h;cases h;rw[eq_of_beq hx];exact bK
  |false=>rw[hx] at h;exact cW _ (mem_of_lookupK h)
def BR:(∀k,(relabel scope env).names.lookup x=some k->scope.names.lookup x=some k\/(k = .cell/\scope.names.lookup x=some .free))/\
  (∀k,scope.names.lookup x=some k->(relabel scope env).names.lookup x=some k\/(k = .free/\(relabel scope env).names.lookup x=some .cell)):=by
 show(∀k,(scope.names.map λ(n,k)=>if (k==NameKind.free&&env.scope.kind == .function&&env.kindOf n==some .cell) then (n,NameKind.cell) else (n,k)).lookup x=some k->_)/\(∀k,_->(scope.names.map λ(n,k)=>if (k==NameKind.free&&env.scope.kind == .function&&env.kindOf n==some .cell) then (n,NameKind.cell) else (n,k)).lookup x=some k\/(_/\(scope.names.map λ(n,k)=>if (k==NameKind.free&&env.scope.kind == .function&&env.kindOf n==some .cell) then (n,NameKind.cell) else (n,k)).lookup x=some .cell))
 generalize scope.names=l
 induction l with
 |nil=>exact⟨λk h=>by simp at h,λk h=>by simp at h⟩
 |cons y r ih=>
  obtain⟨n,k0⟩:=y
  rw[cF]
  cases hc:(k0==NameKind.free&&env.scope.kind == .function&&env.kindOf n==some .cell) with
  |true=>
   simp only[hc,j4,rT]
   have hf:k0 = .free:=by
    rw[d7,d7] at hc
    exact gS.mp hc.1.1
   cases hx:x==n with
   |true=>exact⟨λk h=>by cases h;exact .inr ⟨rfl,by rw[hf]⟩,λk h=>by cases h;exact .inr ⟨hf,rfl⟩⟩
   |false=>exact ih
  |false=>
   simp only[hc,AX,rR,rT]
   cases hx:x==n with
   |true=>exact⟨λk h=>by cases h;exact .inl rfl,λk h=>by cases h;exact .inl rfl⟩
   |false=>exact ih
theorem yi(n:Nat):∀(l:List (Str×NameKind)) (acc:List (Str×Addr)),((l.filter λy=>y.2 == .cell).map (·.1)=[])->cellsFrom n l acc=acc/\∀h:Heap,pushCells h l=h
 |[],_,_=>⟨rfl,λ_=>rfl⟩
 |(y,k)::r,acc,e=>by
  cases hk:(k==NameKind.cell) with
  |true=>
   rw[fH] at e
   simp only[hk,j4,cF] at e
   cases e
  |false=>
   rw[fH] at e
   simp only[hk,AX,rR] at e
   obtain⟨h1,h2⟩:=yi n r acc e
   unfold cellsFrom
   refine⟨by rw[au (by rw[hk];exact cy)];exact h1,λh=>?_⟩
   unfold pushCells
   rw[au (by rw[hk];exact cy)]
   exact h2 h
theorem F6(n:Nat)(x:Str):∀(l:List (Str×NameKind)) (acc:List (Str×Addr)),((l.filter λy=>y.2 == .cell).map (·.1)=[x])->cellsFrom n l acc=(x,n)::acc/\∀h:Heap,pushCells h l=h.push { cls := .type "cell",data := .cell none }
 |[],_,e=>by cases e
 |(y,k)::r,acc,e=>by
  cases hk:(k==NameKind.cell) with
  |true=>
   rw[fH] at e
   simp only[hk,j4,cF] at e
   have e1:y=x:=(List.cons.inj e).1
   have e2:=(List.cons.inj e).2
   subst e1
   obtain⟨h1,_⟩:=yi (n+1) r ((y,n)::acc) e2
   unfold cellsFrom
   refine⟨by rw[aC hk];exact h1,λh=>?_⟩
   unfold pushCells
   rw[aC hk]
   exact(yi 0 r [] e2).2 _
  |false=>
   rw[fH] at e
   simp only[hk,AX,rR] at e
   obtain⟨h1,h2⟩:=F6 n x r acc e
   unfold cellsFrom
   refine⟨by rw[au (by rw[hk];exact cy)];exact h1,λh=>?_⟩
   unfold pushCells
   rw[au (by rw[hk];exact cy)]
   exact h2 h
noncomputable def BS(h:Heap):List Str->Heap
 |[]=>h
 |_::_=>h.push { cls := .type "cell",data := .cell none }
theorem M8:∀{own:List Str}{b:Addr}{o:Obj},h.get? b=some o->(BS h own).get? b=some o
 |[],_,_,e=>e
 |_::_,_,_,e=>bq _ e
def WE{qual:Str}{outer:Env}
  (hx:(scope.names.filter λy=>y.2 == .cell).map (·.1)=own) (hl:own.length<=1)
  (hQ:Q (newEnv scope s.heap.objs.size globals (oG own s.heap.objs.size++cl) qual none .none (some outer) builtinsNs) { s with heap:=BS (s.heap.push { cls := .type "dict",data := .dict #[] }) own }) :
  wpAny M A (newFunctionEnv scope globals cl [] qual none .none (some outer)) Q E s:=by
 simp only[newFunctionEnv,Option.isSome_some,j4]
 refine ah (wpAny_alloc ?_)
 refine ah (wpAny_layCells _ (λname kind cells=>by cases WG:kind==NameKind.cell <;> simp[WG]) _ _ _ _ ?_)
 refine ah ?_
 rw[List.forIn_nil]
 refine aE (aE ?_)
 have e:(s.heap.push { cls := .type "dict",data := .dict #[] }:Heap).objs.size=s.heap.objs.size+1:=j3 ..
 match own,hl,hx,hQ with
 |[],_,hx,hQ=>
  rw[(yi _ scope.names cl hx).1,(yi 0 scope.names [] hx).2]
  exact hQ
 |[x],_,hx,hQ=>
  rw[(F6 _ x scope.names cl hx).1,(F6 0 x scope.names [] hx).2]
  dsimp only
  rw[e]
  exact hQ
 |_::_::_,hl,_,_=>simp at hl
def sZ(e:List.lookup y (oG own n++cl)=some c):(y∈own/\c=n+1)\/(y∉own/\cl.lookup y=some c):=by
 induction own with
 |nil=>exact .inr ⟨fU,e⟩
 |cons x r ih=>
  have e:List.lookup y ((x,n+1)::(oG r n++cl))=some c:=e
  rw[rT] at e
  cases h:y==x with
  |true=>rw[h] at e;cases e;exact .inl ⟨cx.mpr (.inl (eq_of_beq h)),rfl⟩
  |false=>
   rw[h] at e
   have hn:y≠x:=by intro z;rw[z,EJ] at h;cases h
   rcases ih e with ⟨a,b⟩ | ⟨a,b⟩
   .exact .inl ⟨cW _ a,b⟩
   .exact .inr ⟨λz=>(cx.mp z).elim hn a,b⟩
def Na(h:y∉own):List.lookup y (oG own n++cl)=cl.lookup y:=by
 induction own with
 |nil=>rfl
 |cons x r ih=>
  show List.lookup y ((x,n+1)::(oG r n++cl))=_
  rw[rT,uV.mpr λz=>h (by rw[z];exact bK)]
  exact ih λz=>h (cW _ z)
def WH(h:y∈own):List.lookup y (oG own n++cl)=some (n+1):=by
 induction own with
 |nil=>cases h
 |cons x r ih=>
  show List.lookup y ((x,n+1)::(oG r n++cl))=_
  rw[rT]
  cases hb:y==x with
  |true=>rfl
  |false=>exact ih ((cx.mp h).resolve_left λz=>by rw[z,EJ] at hb;cases hb)
noncomputable def tf(xs own ns:List Str)(names outer:List (Str×NameKind)):Bool:=
 names.all (λy=>(y.2 != .cell||own.contains y.1)&&(y.2 != .free||outer.lookup y.1==some .cell)&&(y.2 != .local||names.lookup y.1==some .local))&&((names.filter λy=>y.2 == .cell).map (·.1)==own)&&decide (own.length<=1)&&xs.all (λx=>names.lookup x==some (if own.contains x then .cell else .local))&&ns.all (λy=>names.lookup y==some .free && !own.contains y)&&decide (xs++ns).Nodup
def Nb(I:Inv X pins O H s)(hk:scope.kind = .function)(ho:tf xs own ns scope.names X.env.scope.names=true) :
  F5 X own scope (fL X.env.cells scope.names [])/\(∀y∈ns,X.env.scope.names.lookup y=some .cell)/\(∀y∈ns,((relabel scope X.env).names.lookup y=some .cell\/(relabel scope X.env).names.lookup y=some .free)/\y∉own)/\(∀x∈xs,scope.names.lookup x=some .local\/(scope.names.lookup x=some .cell/\own.contains x=true))/\(xs++ns).Nodup:=by
 unfold tf at ho
 simp only[d7,EK,EL,bne_iff_ne,gS,decide_eq_true_eq,AY,List.contains_eq_mem,decide_eq_false_iff_not] at ho
 obtain⟨⟨⟨⟨⟨h1,h0⟩,hl⟩,h2⟩,h3⟩,h4⟩:=ho
 have jJ:∀y∈scope.names,y.2 = .free->∃c,X.env.cells.lookup y.1=some c:=λy m e=>by
  rcases(h1 y m).1.2 with z | z
  .exact absurd e z
  .exact I.ok.has y.1 (.inl z)
 refine⟨⟨WC jJ,λy c e=>(BQ X.env.cells y scope.names [] jJ (by simp)).1 c e,λy hy aT=>?_,hk,h0,hl,λy m e=>?_⟩,λy m=>?_,λy m=>⟨?_,(h3 y m).2⟩,λx m=>?_,h4⟩
 .refine(BQ X.env.cells y scope.names [] jJ (by simp)).2 (.inl ?_)
  rcases hy with hy | hy
  .rcases BR.1 _ hy with z | ⟨_,z⟩
   .rcases(h1 _ (mem_of_lookupK z)).1.1 with q | q
    .exact absurd rfl q
    .exact absurd q aT
   .exact mem_of_lookupK z
  .rcases BR.1 _ hy with z | ⟨z,_⟩
   .exact mem_of_lookupK z
   .cases z
 .rcases(h1 y m).2 with z | z
  .exact absurd e z
  .exact z
 .rcases(h1 _ (mem_of_lookupK (h3 y m).1)).1.2 with z | z
  .exact absurd rfl z
  .exact z
 .rcases BR.2 _ (h3 y m).1 with z | ⟨_,z⟩
  .exact .inr z
  .exact .inl z
 .have:=h2 x m
  by_cases hx:x∈own
  .rw[aC hx] at this
   exact .inr ⟨this,by simpa using hx⟩
  .rw[au hx] at this
   exact .inl this
noncomputable def fM(js:List Nat)(O:St):St:=js.map λj=>(O[j]?).join
theorem WI{O:St}{tk:Nat}(I:Inv X pins O H s)
  (L:F5 X own scope cl) (hj:js.map (λj=>X.N[j]?)=ns.map some) (qA:∀y∈ns,X.env.scope.names.lookup y=some .cell)
  (cI:∀y∈ns,((relabel scope X.env).names.lookup y=some .cell\/(relabel scope X.env).names.lookup y=some .free)/\y∉own) (yj:∀y∈own,h'.IsCell (s.heap.objs.size+1) none)
  (hf:∀b∈fp,fK X pins H b) (dN:∀b∈fp,b<s.heap.objs.size) (hn:h'.Ns s.heap.objs.size m) (hk:∀b o,s.heap.get? b=some o->h'.get? b=some o) :
  Inv (fc X xs own ns scope cl fp pins s H) [] (xs.map (λ_=>none)++fM js O) H { s with heap:=h',toks:=tk }:=by
 have Nc:∀y c,cl.lookup y=some c->c<s.heap.objs.size:=λy c e=>by
  obtain⟨v,z⟩:=I.cell y c (L.sub _ _ e)
  exact z.lt
 have len:js.length=ns.length:=by have:=eX List.length hj;simpa using this
 refine⟨⟨I.ok.mod,L.kind,I.ok.glob,I.ok.blt,aQ _,λy z c h1 h2=>?_,λy hy=>?_,λy c z h1=>?_,I.ok.hd,I.ok.frames,.inl rfl,
  λb hb=>⟨bV (dN b hb),λy c e=>?_⟩,I.bs,bL I.ok.j7 I.sz,λb o e hb=>?_,λb hb z=>?_,I.stack,I.Bg⟩,
  rfl,I.bare,Un.kept hk,⟨m,hn,λi y v e1 e2 _=>?_⟩,λy c e=>?_,I.fresh,λy c e=>?_,λp hp=>?_,I.ar.kept hk,?_⟩
 .rcases sZ h1 with ⟨a,e⟩ | ⟨a,e⟩ <;> rcases sZ h2 with ⟨a',e'⟩ | ⟨a',e'⟩
  .have hl:=L.iw
   match own,hl,a,a' with
   |[x],_,a,a'=>rw[cJ.mp a,cJ.mp a']
   |[],_,a,_=>cases a
   |_::_::_,hl,_,_=>simp at hl
  .exact absurd (Nc z c e') (by rw[e];exact Nat.not_lt.mpr (fF _))
  .exact absurd (Nc y c e) (by rw[e'];exact Nat.not_lt.mpr (fF _))
  .exact I.ok.inj y z c (L.sub _ _ e) (L.sub _ _ e')
 .by_cases z:y∈own
  .exact⟨_,WH z⟩
  .obtain⟨c,e⟩:=L.all y hy z
   exact⟨c,(Na z).trans e⟩
 .rcases sZ h1 with ⟨_,e⟩ | ⟨a,_⟩
  .rw[e];exact fF _
  .exact absurd (by simpa using(show own.contains y=true from z)) a
 .rcases sZ e with ⟨_,e⟩ | ⟨_,e⟩
  .rw[e];exact λz=>absurd (dN b hb) (by rw[<-z];exact Nat.not_lt.mpr (fF _))
  .exact(hf b hb).2.2.2.2.1 y c (L.sub _ _ e)
 .rcases(hf b hb).2.2.2.1 with z | z
  .exact I.ok.mW b o e z
  .exact absurd (gq (bx (I.ok.bs b o e).1) z) (qb _)
 .rcases cx.mp (I.xK b z) with z | z
  .exact(hf b hb).2.1 z
  .exact(hf b hb).2.2.1 z
 .have e1:(xs++ns)[i]? = some y:=e1
  by_cases hi:i<xs.length
  .rw[Lv (by rw[av];exact hi),bF,bt hi] at e2
   cases e2
  .rw[AR (by lia)] at e1
   rw[AR (by rw[av];lia),av] at e2
   generalize i - xs.length=k at e1 e2
   unfold fM at e2
   rw[bF] at e2
   cases ej:js[k]? with
   |none=>rw[ej] at e2;cases e2
   |some j=>
    rw[ej] at e2
    have e2:(O[j]?).join=some v:=dh e2
    have e3:O[j]? = some (some v):=by
     cases q:O[j]? with
     |none=>rw[q] at e2;cases e2
     |some o=>rw[q] at e2;rw[show o=some v from e2]
    have e4:X.N[j]? = some y:=by
     have q:=eX (λl=>l[k]?) hj
     simp only[bF,ej,e1,i0] at q
     exact dh q
    have my:y∈ns:=bM e1
    obtain⟨m0,tj,hl⟩:=I.loc
    obtain⟨u,r,lk⟩:=hl j y v e4 e3 (.inr (.inl (qA y my)))
    refine⟨u,r,.inr ⟨(cI y my).1,?_⟩⟩
    obtain⟨c,ec⟩:=L.all y (cI y my).1 (cI y my).2
    rcases lk with ⟨k1,_⟩ | ⟨_,c',e5,e6⟩
    .have k2:X.env.scope.names.lookup y=some .local:=k1
     rw[qA y my] at k2;cases k2
    .have:=L.sub _ _ ec
     rw[e5] at this;cases this
     obtain⟨o,ho,hd⟩:=e6
     exact⟨c,(Na (cI y my).2).trans ec,o,hk _ _ ho,hd⟩
 .rcases sZ e with ⟨a,e⟩ | ⟨_,e⟩
  .rw[e];exact⟨none,yj y a⟩
  .obtain⟨v,o,ho,hd⟩:=I.cell y c (L.sub _ _ e)
   exact⟨v,o,hk _ _ ho,hd⟩
 .rcases sZ e with ⟨_,e⟩ | ⟨_,e⟩
  .rw[e];exact I.ar.fresh (fF _)
  .exact I.dm y c (L.sub _ _ e)
 .have hp:p∈X.pn++pins:=by
   have hp:p∈(X.pn++pins)++[]:=hp
   simpa using hp
  obtain⟨e,n,nl,nf,d⟩:=I.pin p hp
  refine⟨hk _ _ e,n,bV (bx e),λz=>?_,d⟩
  rcases cx.mp (I.xK _ z) with z | z
  .exact nl z
  .exact nf z
 .show(xs.map (λ_=>(none:Option V))++fM js O).length=(xs++ns).length
  unfold fM
  rw[d6,d6,av,av,len]
def Inv.WJ{O O':St}{s':Shared}(I:Inv X pins O H s)
  (hf:∀b∈fp,fK X pins H b) (J:Inv (fc X xs own ns scope cl fp pins s H) vp O' H' s') (hk:∀b o,b≠s.heap.objs.size->s'.heap.get? b=some o->h2.get? b=some o) :
  Inv X pins O H' { s' with heap:=h2 }:=by
 have u:Un (fV X.stack) fp H H' s.heap s'.heap:=J.base
 have ne:∀b o,s.heap.get? b=some o->b≠s.heap.objs.size:=λb o e=>bV (bx e)
 have fr:H' s.heap.objs.size=none:=J.free
 refine I.vq (s':={ s' with heap:=h2 }) (ch:=fp) J.os ⟨λb o e n h1 h2=>hk b o (ne b o e) (u.keep b o e n h1 h2),λb o e n h1 h2=>?_,u.free,λb o e hx=>?_,u.fJ,u.jb,u.jD⟩ (λb o e=>?_) J.bare
  (λb hb=>⟨(hf b hb).2.2.2.1,(hf b hb).2.1,(hf b hb).2.2.2.2.1,(hf b hb).2.2.2.2.2⟩)
 .obtain⟨sl,q⟩:=u.slot b o e n h1 h2
  exact⟨sl,hk _ _ (ne b o e) q⟩
 .obtain⟨o',q⟩:=u.there b o e hx
  exact⟨o',hk _ _ (ne b o e) q⟩
 .refine(J.ar b o e).ja (λc v hc q=>hk c v ?_ q) (λ_ q=>q) λ_ _ q=>q
  rcases hc with z | z
  .rw[z];exact bh e fr
  .exact bh z fr
def qB(X:Cx)(ifs:List Expr)(t:TT):Prop:=
 ∀(pins:List (Addr×Obj)) (s:Shared) (O:St) (H:Hp) (Q:Bool->Hp->Prop),Inv X pins O H s->t O H Q->
  wpAny (model X.prog X.w) X.A (forIn ifs true λc r=>if r=true then do let ok<-isTrue c X.env (eval c X.env);pure (ForInStep.yield ok) else pure (ForInStep.yield r)) (TP X pins O Q) X.xe s
def Nd:TT:=λ_ H Q=>Q true H
def lU:qB X [] Nd:=λ_ _ _ H _ I h=>wpAny_tests_nil ⟨H,I,h⟩
def oH{c:Expr}{t:TT}(h:PT X c t):qB X [c] t:=λpins s O H Q I q=>wpAny_tests_one (h pins s O H Q I q)
def BU(js:List Nat)(tt:TT)(te:TE)(O:St)(J:It)(H1:Hp)(Q:VK):Prop:=
 ∀D,H1 D=none->∃W:Nat->Nat->Hp->Prop,(∃m,W 0 m (upd H1 D (.lst [])))/\∀i m H,W i m H->
  (J.stop i H/\Q (.ref D) H)\/(J.go i H/\∀x H',J.gB i H x H'->tt (some x::fM js O) H' λb H2=>if b=true then te (some x::fM js O) H2 λy H3=>∃ys,H3 D=some (.lst ys)/\ys.length<sizeLine/\∃m',m'<m/\W (i+1) m' (upd H3 D (.lst (ys++[y])))
   else ∃m',m'<m/\W (i+1) m' H2)
def Nf(js:List Nat)(wi:TI)(tt:TT)(te:TE):TE:=λO H Q=>wi O H λJ H1=>BU js tt te O J H1 Q
def Ng(K:Frag)(js:List Nat)(tt:TT)(te:TE)(O:St)(J:It)(H1:Hp)(Q:VK):Prop:=
 ∀D,H1 D=none->∃W:Nat->Nat->Hp->Prop,(∃m,W 0 m (upd H1 D (.lst [])))/\∀i m H,W i m H->
  (J.stop i H/\Q (.ref D) H)\/(J.go i H/\∀x H',J.gB i H x H'->∃a v1 v2,x = .ref a/\aA K H' a [v1,v2]/\tt (some v1::some v2::fM js O) H' λb H2=>if b=true then te (some v1::some v2::fM js O) H2 λy H3=>∃ys,H3 D=some (.lst ys)/\ys.length<sizeLine/\∃m',m'<m/\W (i+1) m' (upd H3 D (.lst (ys++[y])))
   else ∃m',m'<m/\W (i+1) m' H2)
def WK(K:Frag)(js:List Nat)(wi:TI)(tt:TT)(te:TE):TE:=λO H Q=>wi O H λJ H1=>Ng K js tt te O J H1 Q
abbrev TU:=V->Hp->(List V->Hp->Prop)->Prop
def F7(G:TU)(js:List Nat)(tt:TT)(te:TE)(O:St)(J:It)(H1:Hp)(Q:VK):Prop:=
 ∀D,H1 D=none->∃W:Nat->Nat->Hp->Prop,(∃m,W 0 m (upd H1 D (.lst [])))/\∀i m H,W i m H->
  (J.stop i H/\Q (.ref D) H)\/(J.go i H/\∀x H',J.gB i H x H'->G x H' λus H0=>tt (us.map some++fM js O) H0 λb H2=>if b=true then te (us.map some++fM js O) H2 λy H3=>∃ys,H3 D=some (.lst ys)/\ys.length<sizeLine/\∃m',m'<m/\W (i+1) m' (upd H3 D (.lst (ys++[y])))
   else ∃m',m'<m/\W (i+1) m' H2)
def yk(K:Frag)(xs:List Str)(tg:Expr)(G:TU):Prop:=
 ∀(Y:Cx) (ns:List Str),Y.N=xs++ns->Y.N.Nodup->(∀x∈xs,Loc Y.env.scope x/\(Y.fn x=true\/Y.env.scope.names.lookup x=some .local))->Y.K=K->Y.calm=true->∀(pins:List (Addr×Obj)) (s:Shared) (vs O:St) (H:Hp) (v:V) (u:Value) (R:List V->Hp->Prop),vs.length=xs.length->Inv Y pins (vs++O) H s->RelV v u->G v H R->
  wpAny (model Y.prog Y.w) Y.A (assign tg Y.env u) (λ_ s' =>∃us H',us.length=xs.length/\Inv Y pins (us.map some++O) H' s'/\R us H') Y.xe s
def Nh:yk K [x] (.Name x px) (λv H R=>R [v] H):=by
 intro Y ns hN dw hl _ _ pins s vs O H v u R hv I r h
 match vs,hv,I with
 |[a],_,I=>
  obtain⟨h1,h2⟩:=hl x bK
  have hg:PG Y (.Name x px) (sx 0):=cD 0 dw (by rw[hN];rfl) h1 h2
  refine aD (hg pins s (a::O) H v u (λO' H'=>O'=some v::O/\H'=H) I r ⟨rfl,rfl⟩) λ_ s' ⟨O',H',J,e1,e2⟩=>?_
  subst e1 e2
  exact⟨[v],_,rfl,J,h⟩
def WL:yk K [x,z] (.Tuple [.Name x px,.Name z pz] ck tp) (λv H R=>∃a v1 v2,v = .ref a/\aA K H a [v1,v2]/\R [v1,v2] H):=by
 intro Y ns hN dw hl hK vO pins s vs O H v u R hv I r h
 subst hK
 match vs,hv,I with
 |[a,b],_,I=>
  obtain⟨h1,h2⟩:=hl x bK
  obtain⟨h3,h4⟩:=hl z (cW _ bK)
  obtain⟨ad,v1,v2,e,hq,h⟩:=h
  have hg:PG Y (.Tuple [.Name x px,.Name z pz] ck tp) (LZ Y.K 2 (Ft (sx 0) (Ft (sx 1) LY))):=om vO (gy (cD 0 dw (by rw[hN];rfl) h1 h2) (gy (cD 1 dw (by rw[hN];rfl) h3 h4) oj))
  refine aD (hg pins s (a::b::O) H v u (λO' H'=>O'=some v1::some v2::O/\H'=H) I r ⟨ad,[v1,v2],e,hq,rfl,v1,[v2],rfl,v2,[],rfl,rfl,rfl,rfl⟩) λ_ s' ⟨O',H',J,e1,e2⟩=>?_
  subst e1 e2
  exact⟨[v1,v2],_,rfl,J,h⟩
section
variable{X:Cx}{xs own:List Str}{tg:Expr}{G:TU}{iter elt:Expr}{ifs:List Expr}{scope:Scope}{pos:Pos}{ns:List Str}{js:List Nat}{cl:List (Str×Addr)}{wi:TI}{tt:TT}{te:TE}
def Ni{O:St}{H₂:Hp}{J:It}{Q:VK}
  (L:F5 X own scope cl) (hc:X.calm=true) (hj:js.map (λj=>X.N[j]?)=ns.map some) (qA:∀y∈ns,X.env.scope.names.lookup y=some .cell)
  (cI:∀y∈ns,((relabel scope X.env).names.lookup y=some .cell\/(relabel scope X.env).names.lookup y=some .free)/\y∉own) (hx:∀x∈xs,scope.names.lookup x=some .local\/(scope.names.lookup x=some .cell/\own.contains x=true)) (dw:(xs++ns).Nodup) (TG:yk X.K xs tg G)
  (ht:∀fp pins s H,qB (fc X xs own ns scope cl fp pins s H) ifs tt) (he:∀fp pins s H,PE (fc X xs own ns scope cl fp pins s H) elt te)
  (I2:Inv X pins O H₂ s₂) (T:Turn X.prog X.w X.K tg J fp it tn) (kd:tn 0 s₂.heap) (f2:∀b∈fp,fK X pins H₂ b) (hq:F7 G js tt te O J H₂ Q)
  (WM:∀D H3 s',(∃m,s'.heap.Ns (s₂.heap.objs.size+1) m)->H3 (s₂.heap.objs.size+1)=none->(∀h2,(∀b o,b≠s₂.heap.objs.size+1->s'.heap.get? b=some o->h2.get? b=some o)->Inv X pins O H3 { s' with heap:=h2 })->Q (.ref D) H3->RR (.ref D) (s₂.heap.objs.size+1) (.ok .next) s') :
  wpAny (model X.prog X.w) X.A (newList []) (λacc s₃=>wpAny (model X.prog X.w) X.A (newFunctionEnv scope X.env.globals cl [] X.env.qual none .none (some X.env)) (λNj s₄=>
   codeAny (model X.prog X.w) X.A (.compStart (.ListComp elt [⟨tg,iter,ifs,0⟩] scope pos) 0 (.ref it) acc { Nj with scope:=relabel scope X.env }) (RR acc Nj.locals) s₄) E s₃) E s₂:=by
 have hD:H₂ s₂.heap.objs.size=none:=I2.fresh
 have I3:Inv X pins O (upd H₂ s₂.heap.objs.size (.lst [])) { s₂ with heap:=s₂.heap.push { cls := .type "list",data := .seq ([]:List Value).toArray } }:=I2.MP (ys:=[]) (its:=[]) (t':=s₂.toks) .nil (bW _)
 obtain⟨W,⟨m0,w0⟩,turn⟩:=hq _ hD
 refine mR (WE L.cell L.iw ?_)
 have yl:∀b∈fp,b<s₂.heap.objs.size:=λb hb=>let ⟨_,e,_⟩:=T.obj 0 _ kd b hb;bx e
 have Nk:(s₂.heap.push { cls := .type "list",data := .seq ([]:List Value).toArray }).objs.size=s₂.heap.objs.size+1:=j3 ..
 obtain⟨h₁,BV⟩:∃h₁,h₁=BS ((s₂.heap.push { cls := .type "list",data := .seq ([]:List Value).toArray }).push { cls := .type "dict",data := .dict #[] }) own:=⟨_,rfl⟩
 have eA:∀b o,(s₂.heap.push { cls := .type "list",data := .seq ([]:List Value).toArray }).get? b=some o->h₁.get? b=some o:=λb o e=>by rw[BV];exact M8 (bq _ e)
 have WN:h₁.Ns (s₂.heap.push { cls := .type "list",data := .seq ([]:List Value).toArray }).objs.size (λ_=>none):=by rw[BV];exact(Heap.Ns.new _ (.type "dict")).keeps λb o e=>M8 e
 have yj:∀y∈own,h₁.IsCell ((s₂.heap.push { cls := .type "list",data := .seq ([]:List Value).toArray }).objs.size+1) none:=λy my=>by
  rw[BV,<-j3 (s₂.heap.push { cls := .type "list",data := .seq ([]:List Value).toArray }) { cls := .type "dict",data := .dict #[] }]
  match own,my with
  |_::_,_=>exact⟨{ cls := .type "cell",data := .cell none },cQ _ rfl,rfl⟩
 show codeAny _ _ _ _ { s₂ with heap:=BS ((s₂.heap.push { cls := .type "list",data := .seq ([]:List Value).toArray }).push { cls := .type "dict",data := .dict #[] }) own }
 rw[<-BV]
 have f3:∀b∈fp,fK X pins (upd H₂ s₂.heap.objs.size (.lst [])) b:=λb hb=>⟨by rw[ak (bV (yl b hb))];exact(f2 b hb).1,(f2 b hb).2⟩
 have C0:=WI (xs:=xs) (tk:=s₂.toks) I3 L hj qA cI yj f3 (λb hb=>gq (yl b hb) (by rw[Nk];exact fF _)) WN eA
 have xU:tn 0 h₁:=T.keep _ _ _ kd λb hb o e=>eA b o (bq _ e)
 generalize F8:({ s₂ with heap:=s₂.heap.push { cls := .type "list",data := .seq ([]:List Value).toArray } }:Shared)=s₃ at *
 have hsz:s₃.heap.objs.size=s₂.heap.objs.size+1:=by rw[<-F8];exact Nk
 have loop:∀s₄:Shared,s₄={ s₃ with heap:=h₁ } ->
   codeAny (model X.prog X.w) X.A (.compLoop (.ListComp elt [⟨tg,iter,ifs,0⟩] scope pos) 0 (.ref it) (.ref s₂.heap.objs.size) (compEnvC scope (oG own s₃.heap.objs.size++cl) s₃.heap.objs.size X.env)) (RR (.ref s₂.heap.objs.size) s₃.heap.objs.size) s₄:=by
  rintro s₄ rfl
  refine WB (λn s' =>∃i vs H',vs.length=xs.length/\Inv (fc X xs own ns scope cl fp pins s₃ (upd H₂ s₂.heap.objs.size (.lst []))) [] (vs++fM js O) H' s'/\tn i s'.heap/\(∀b∈fp,H' b=none)/\W i n H') ?_ m0
   ⟨0,_,_,av _,by subst F8;exact C0,xU,λb hb=>(f3 b hb).1,w0⟩
  rintro n s5 ⟨i,v5,H5,l5,J5,vA,Bp,w5⟩
  have F9:∀{H':Hp},(∀b∈fp,H' b=none)->∀b∈fp,fK (fc X xs own ns scope cl fp pins s₃ (upd H₂ s₂.heap.objs.size (.lst []))) [] H' b:=λhn b hb=>by
   refine⟨hn b hb,?_,?_,.inl hb,λy c e=>?_,λp hp=>?_⟩
   .show b≠s₃.heap.objs.size
    rw[hsz]
    exact bV (rV (yl b hb))
   .intro z
    rcases cx.mp (I2.xK b z) with z | z
    .exact(f2 b hb).2.1 z
    .exact(f2 b hb).2.2.1 z
   .rcases sZ e with ⟨_,e⟩ | ⟨_,e⟩
    .rw[e];exact λz=>absurd (yl b hb) (by rw[<-z,hsz];exact Nat.not_lt.mpr (bL (fF _) (fF _)))
    .exact(f2 b hb).2.2.2.2.1 y c (L.sub _ _ e)
   .have hp:p∈(X.pn++pins)++[]:=hp
    exact(f2 b hb).2.2.2.2.2 p (by simpa using hp)
  rcases turn i n H5 w5 with ⟨stop,qn⟩ | ⟨go,step⟩
  .refine aD (T.done (fc X xs own ns scope cl fp pins s₃ _) rfl rfl rfl hc i [] s5 _ H5 (λ_ _=>False) J5 (F9 Bp) vA stop) λr s6 ⟨hr,J6⟩=>?_
   subst hr
   show RR _ _ (.ok .next) s6
   rw[hsz]
   refine WM _ H5 s6 ?_ (by rw[<-hsz];exact J6.free) (λh2 lV=>?_) qn
   .obtain⟨mm,hn,_⟩:=J6.loc
    exact⟨mm,by rw[<-hsz];exact hn⟩
   .refine Inv.WJ I3 f3 J6 λb o hb e=>lV b o ?_ e
    rw[<-hsz];exact hb
  .refine aD (T.item (fc X xs own ns scope cl fp pins s₃ _) rfl rfl rfl hc i [] s5 _ H5 (λ_ _=>False) J5 (F9 Bp) vA go) λr s6 ⟨u,hr,h6⟩=>?_
   subst hr
   refine aD h6 λ_ s7 ⟨xv,H7,J7,r7,y7,Ga,WO⟩=>?_
   have WQ:=J7.pinned (F9 WO) (T.obj _ _ Ga)
   have hl:∀x∈xs,Loc (relabel scope X.env) x/\(own.contains x=true\/(relabel scope X.env).names.lookup x=some .local):=λx mx=>by
    rcases hx x mx with z | ⟨z,z'⟩
    .exact⟨.inl (lookup_relabel_local z),.inr (lookup_relabel_local z)⟩
    .exact⟨.inr ((BR.2 _ z).elim id λq=>nomatch q.1),.inl z'⟩
   refine aD (TG (fc X xs own ns scope cl fp pins s₃ (upd H₂ s₂.heap.objs.size (.lst []))) ns rfl dw hl rfl hc _ s7 v5 _ H7 xv u _ l5 WQ r7 (step xv H7 y7)) λ_ s8 ⟨us,H8,l8,J8,q8⟩=>?_
   have fin:∀{H':Hp}{s':Shared},Inv (fc X xs own ns scope cl fp pins s₃ (upd H₂ s₂.heap.objs.size (.lst []))) ([]++xT fp s7.heap) (us.map some++fM js O) H' s'->(∃m',m'<n/\W (i+1) m' H')->
     ∃m',m'<n/\∃i vs H',vs.length=xs.length/\Inv (fc X xs own ns scope cl fp pins s₃ (upd H₂ s₂.heap.objs.size (.lst []))) [] (vs++fM js O) H' s'/\tn i s'.heap/\(∀b∈fp,H' b=none)/\W i m' H':=λ{H' s'} J9 ⟨m',hm,w9⟩=>by
    refine⟨m',hm,i+1,us.map some,H',(av _).trans l8,J9.vz,T.keep _ _ _ Ga λb hb o e=>(J9.pin (b,o) (ie _ (ie _ (Bo hb e)))).1,λb hb=>?_,w9⟩
    obtain⟨o,e,d⟩:=T.obj _ _ Ga b hb
    exact(J9.pin (b,o) (ie _ (ie _ (Bo hb e)))).2.1
   refine aD (ht fp pins s₃ _ _ s8 _ H8 _ J8 q8) λok s9 ⟨H9,J9,q9⟩=>?_
   cases ok with
   |false=>
    rw[au cy] at q9 ⊢
    exact fin J9 q9
   |true=>
    rw[aC rfl] at q9 ⊢
    refine aD (he fp pins s₃ _ _ s9 _ H9 _ J9 q9) λyv WR h_=>?_
    obtain⟨y,Nl,WS,WT,ys,WU,hz,m',hm,WV⟩:=h_
    refine aD (jf _ WR _ Nl (.ref s₂.heap.objs.size) [y] _ [yv] (λ_ H'=>H'=upd Nl s₂.heap.objs.size (.lst (ys++[y]))) WS rfl (.cons WT .nil) ⟨_,ys,y,rfl,rfl,WU,hz,rfl⟩) λ_ s11 ⟨_,H11,WW,_,Nm⟩=>?_
    subst Nm
    exact fin WW ⟨m',hm,WV⟩
 have dG:=loop _ rfl
 subst F8
 exact codeAny_compStart_list dG (T.self _ 0 _ _ _ xU dG)
def Nn(TG:yk X.K xs tg G)(hi:PI X tg iter wi)(hc:X.calm=true)(hk:scope.kind = .function)(hj:js.map (λj=>X.N[j]?)=ns.map some)(ho:tf xs own ns scope.names X.env.scope.names=true)
  (ht:∀fp pins s H,qB (fc X xs own ns scope (fL X.env.cells scope.names []) fp pins s H) ifs tt) (he:∀fp pins s H,PE (fc X xs own ns scope (fL X.env.cells scope.names []) fp pins s H) elt te) (hs:∀x,foldedSetIterable iter X.env x=pure x:=by intro _;rfl) :
  PE X (.ListComp elt [⟨tg,iter,ifs,0⟩] scope pos) (λO H Q=>wi O H λJ H1=>F7 G js tt te O J H1 Q):=by
 intro pins s O H Q I h
 obtain⟨L,qA,cI,hx,dw⟩:=Nb I hk ho
 rw[eval_ListComp]
 refine wpAny_comprehension_free (use:=none) rfl hs L.M7 L.kind L.names (aD (hi pins s O H _ I h) λv s1 h1=>aD h1 λBn s2 h2=>?_)
 obtain⟨it,fp,tn,J,H2,e,I2,T,kd,f2,hq⟩:=h2
 subst e
 refine Ni (RR:=λacc C=>compPost (model X.prog X.w) X.A X.xe none (EP X pins O Q) acc C) L hc hj qA cI hx dw TG ht he I2 T kd f2 hq ?_
 intro D H3 s' ⟨m,hn⟩ jJ hI q
 exact⟨m,hn,λh' sb=>⟨.ref D,H3,hI h' λb o hb e=>sb.extBut b o hb e,rfl,q⟩⟩
def WX(TG:yk X.K xs tg G)(hN:X.N.Nodup)(hy:X.N[i]? = some y)(tm:Loc X.env.scope y)(hi:PI X tg iter wi)(hc:X.calm=true)(hk:scope.kind = .function)(hj:js.map (λj=>X.N[j]?)=ns.map some)(ho:tf xs own ns scope.names X.env.scope.names=true)
  (ht:∀fp pins s H,qB (fc X xs own ns scope (fL X.env.cells scope.names []) fp pins s H) ifs tt) (he:∀fp pins s H,PE (fc X xs own ns scope (fL X.env.cells scope.names []) fp pins s H) elt te)
  (yn:swapsWith (.ListComp elt [⟨tg,iter,ifs,0⟩] scope pos) (some (.Name y py)) ym.line X.env=pure true:=by rfl) (hs:∀x,foldedSetIterable iter X.env x=pure x:=by intro _;rfl)
  (hf:X.fn y=true\/X.env.scope.names.lookup y=some .local:=by first | exact .inl rfl | exact .inr rfl | assumption) :
  PS X (.Assign [.Name y py] (.ListComp elt [⟨tg,iter,ifs,0⟩] scope pos) ym) (Bm (λO H Q=>wi O H λJ H1=>F7 G js tt te O J H1 Q) (sx i)):=by
 intro pins s O H D I h
 obtain⟨L,qA,cI,hx,dw⟩:=Nb I hk ho
 rw[exec_Assign_Name_used _ _ _ _ yn]
 refine ah (xA (ah ?_))
 show wpAny _ X.A (do let _<-comprehension (.ListComp elt [⟨tg,iter,ifs,0⟩] scope pos) scope X.env _ (newList []) false (eval iter X.env) (some (assign (.Name y py) X.env))) _ _ s
 refine ah (aD (wpAny_comprehension_free (use:=some (assign (.Name y py) X.env)) (Q:=λ_ s'=>SP X pins D .next s') rfl hs L.M7 L.kind L.names
  (aD (hi pins s O H _ I h) λv s1 h1=>aD h1 λBn s2 h2=>?_)) λ_ s' hq=>aE (aE hq))
 obtain⟨it,fp,tn,J,H2,e,I2,T,kd,f2,hq⟩:=h2
 subst e
 refine Ni (Q:=λz H1=>D.nx (O.set i (some z)) H1) (RR:=λacc C=>compPost (model X.prog X.w) X.A X.xe (some (assign (.Name y py) X.env)) (λ_ s'=>SP X pins D .next s') acc C) L hc hj qA cI hx dw TG ht he I2 T kd f2 hq ?_
 intro Dd H3 s' ⟨m,hn⟩ jJ hI q
 have I3:Inv X pins O H3 s':=hI s'.heap λ_ _ _ e=>e
 have vP:fK X pins H3 (s2.heap.objs.size+1):=I2.j9 (fF _) jJ
 obtain⟨o,es,ep,ho,hd,r⟩:=hn
 have I4:Inv X (pins++[(s2.heap.objs.size+1,o)]) O H3 s':=I3.xN λp hp=>(dR.mp hp).elim (λz=>I3.pin p (ie _ z)) λz=>by
  have e:p=(s2.heap.objs.size+1,o):=by simpa using z
  subst e
  exact⟨ho,jJ,vP.2.1,vP.2.2.1,λv z=>by rw[hd] at z;cases z⟩
 show wpAny _ X.A (assign (.Name y py) X.env (.ref Dd)) _ _ s'
 refine wpAny_assign_Name (xQ I4 hN hy tm (v := .ref Dd) rfl (λs4 I5=>?_) hf)
 have hp:=I5.pin (s2.heap.objs.size+1,o) (by simp)
 refine⟨m,⟨o,es,ep,hp.1,hd,r⟩,λh' sb=>⟨_,H3,?_,q⟩⟩
 refine(I5.vz (pl:=[(s2.heap.objs.size+1,o)])).turned (t':=s4.toks) (it:=s2.heap.objs.size+1) (λb o' hb e=>sb.extBut b o' hb e) jJ vP.2.1 vP.2.2.2.1 vP.2.2.2.2.1 vP.2.2.2.2.2
def jg(hi:PI X (.Name x px) iter wi)(hc:X.calm=true)(hk:scope.kind = .function)(hj:js.map (λj=>X.N[j]?)=ns.map some)(ho:tf [x] [] ns scope.names X.env.scope.names=true)
  (ht:∀fp pins s H,qB (fc X [x] [] ns scope (fL X.env.cells scope.names []) fp pins s H) ifs tt) (he:∀fp pins s H,PE (fc X [x] [] ns scope (fL X.env.cells scope.names []) fp pins s H) elt te) (hs:∀x,foldedSetIterable iter X.env x=pure x:=by intro _;rfl) :
  PE X (.ListComp elt [⟨.Name x px,iter,ifs,0⟩] scope pos) (Nf js wi tt te):=Nn Nh hi hc hk hj ho ht he hs
def yo(hN:X.N.Nodup)(hy:X.N[i]? = some y)(tm:Loc X.env.scope y)(hi:PI X (.Name x px) iter wi)(hc:X.calm=true)(hk:scope.kind = .function)(hj:js.map (λj=>X.N[j]?)=ns.map some)(ho:tf [x] [] ns scope.names X.env.scope.names=true)
  (ht:∀fp pins s H,qB (fc X [x] [] ns scope (fL X.env.cells scope.names []) fp pins s H) ifs tt) (he:∀fp pins s H,PE (fc X [x] [] ns scope (fL X.env.cells scope.names []) fp pins s H) elt te)
  (yn:swapsWith (.ListComp elt [⟨.Name x px,iter,ifs,0⟩] scope pos) (some (.Name y py)) ym.line X.env=pure true:=by rfl) (hs:∀x,foldedSetIterable iter X.env x=pure x:=by intro _;rfl)
  (hf:X.fn y=true\/X.env.scope.names.lookup y=some .local:=by first | exact .inl rfl | exact .inr rfl | assumption) :
  PS X (.Assign [.Name y py] (.ListComp elt [⟨.Name x px,iter,ifs,0⟩] scope pos) ym) (Bm (Nf js wi tt te) (sx i)):=WX Nh hN hy tm hi hc hk hj ho ht he yn hs hf
def WY(hi:PI X (.Tuple [.Name x px,.Name z pz] ck tp) iter wi)(hc:X.calm=true)(hk:scope.kind = .function)(hj:js.map (λj=>X.N[j]?)=ns.map some)(ho:tf [x,z] [] ns scope.names X.env.scope.names=true)
  (ht:∀fp pins s H,qB (fc X [x,z] [] ns scope (fL X.env.cells scope.names []) fp pins s H) ifs tt) (he:∀fp pins s H,PE (fc X [x,z] [] ns scope (fL X.env.cells scope.names []) fp pins s H) elt te) (hs:∀x,foldedSetIterable iter X.env x=pure x:=by intro _;rfl) :
  PE X (.ListComp elt [⟨.Tuple [.Name x px,.Name z pz] ck tp,iter,ifs,0⟩] scope pos) (WK X.K js wi tt te):=Nn WL hi hc hk hj ho ht he hs
end
inductive D where
 |aw
 |bl (b:Bool)
 |int (i:Int)
 |str (x:Str)
 |tup (ds:List D)
 |lst (ds:List D)
mutual
def At(K:Frag)(H:Hp):D->V->Prop
 |.aw,v=>v = .aw
 |.bl b,v=>v = .bl b
 |.int i,v=>v = .int i
 |.str x,v=>v = .str x
 |.tup ds,v=>∃a xs,v = .ref a/\aA K H a xs/\dU K H ds xs
 |.lst ds,v=>∃a xs,v = .ref a/\aq K H a xs/\dU K H ds xs
def dU(K:Frag)(H:Hp):List D->List V->Prop
 |[],xs=>xs=[]
 |d::ds,xs=>∃x r,xs=x::r/\At K H d x/\dU K H ds r
end
mutual
theorem At.mono{K:Frag}{H H':Hp}(s:ag H H'):∀(d:D) (v:V),At K H d v->At K H' d v
 |.aw,_,h=>h
 |.bl _,_,h=>h
 |.int _,_,h=>h
 |.str _,_,h=>h
 |.tup ds,_,⟨a,xs,e,q,l⟩=>⟨a,xs,e,s.tup q,dU.mono s ds xs l⟩
 |.lst ds,_,⟨a,xs,e,q,l⟩=>⟨a,xs,e,s.seq q,dU.mono s ds xs l⟩
theorem dU.mono{K:Frag}{H H':Hp}(s:ag H H'):∀(ds:List D) (xs:List V),dU K H ds xs->dU K H' ds xs
 |[],_,h=>h
 |d::ds,_,⟨x,r,e,h,t⟩=>⟨x,r,e,At.mono s d x h,dU.mono s ds r t⟩
end
theorem dU.length{K:Frag}{H:Hp}:∀{ds:List D}{xs:List V},dU K H ds xs->xs.length=ds.length
 |[],_,h=>by rw[show _=[] from h];rfl
 |_::ds,_,⟨x,r,e,_,t⟩=>by rw[e,eJ,eJ,dU.length t]
mutual
noncomputable def fg:D->D->Bool
 |.aw,.aw=>true
 |.bl a,.bl b=>a==b
 |.bl a,.int b=>(if a then 1 else 0)==b
 |.int a,.bl b=>a==(if b then 1 else 0)
 |.int a,.int b=>a==b
 |.str a,.str b=>a==b
 |.tup a,.tup b=>iO a b
 |.lst a,.lst b=>iO a b
 |_,_=>false
noncomputable def iO:List D->List D->Bool
 |[],[]=>true
 |a::r,b::t=>fg a b&&iO r t
 |_,_=>false
end
mutual
noncomputable def dep:D->Nat
 |.tup ds=>fN ds+1
 |.lst ds=>fN ds+1
 |_=>0
noncomputable def fN:List D->Nat
 |[]=>0
 |d::r=>max (dep d) (fN r)
end
mutual
theorem oJ:∀d:D,fg d d=true
 |.aw=>rfl
 |.bl b=>by simp[fg]
 |.int i=>by simp[fg]
 |.str x=>by simp[fg]
 |.tup ds=>by rw[fg];exact Gb ds
 |.lst ds=>by rw[fg];exact Gb ds
theorem Gb:∀ds:List D,iO ds ds=true
 |[]=>rfl
 |d::r=>by rw[iO,oJ d,Gb r];rfl
end
noncomputable def oK:List D->List D->List Bool
 |a::r,b::t=>fg a b::oK r t
 |_,_=>[]
theorem oN:∀(ds es:List D),((List.range (min ds.length es.length)).all (λj=>(oK ds es).getD j true)&&ds.length==es.length)=iO ds es
 |[],[]=>rfl
 |[],_::_=>rfl
 |_::_,[]=>by simp[iO]
 |a::r,b::t=>by
  have ih:=oN r t
  have e:min (a::r).length (b::t).length=min r.length t.length+1:=by simp only[eJ];lia
  rw[e,TC,List.all_cons,List.all_map,iO,<-ih]
  have e2:((a::r).length==(b::t).length)=(r.length==t.length):=by simp
  rw[e2]
  show(fg a b&&_&&_)=_
  rw[Bool.and_assoc]
  rfl
section
variable{X:Cx}{pins:List (Addr×Obj)}{O:St}{H:Hp}{s:Shared}
mutual
theorem At.inj(I:Inv X pins O H s):∀(d e:D) (x:V),At X.K H d x->At X.K H e x->d=e
 |.aw,e,x,h,g=>by
  cases(show x = .aw from h)
  cases e with
  |aw=>rfl
  |tup ds=>obtain⟨a,xs,z,_⟩:=g;cases z
  |lst ds=>obtain⟨a,xs,z,_⟩:=g;cases z
  |bl b=>cases(show V.aw = .bl b from g)
  |int b=>cases(show V.aw = .int b from g)
  |str b=>cases(show V.aw = .str b from g)
 |.bl k,e,x,h,g=>by
  cases(show x = .bl k from h)
  cases e with
  |aw=>cases(show V.bl k = .aw from g)
  |tup ds=>obtain⟨a,xs,z,_⟩:=g;cases z
  |lst ds=>obtain⟨a,xs,z,_⟩:=g;cases z
  |bl b=>cases(show V.bl k = .bl b from g);rfl
  |int b=>cases(show V.bl k = .int b from g)
  |str b=>cases(show V.bl k = .str b from g)
 |.int k,e,x,h,g=>by
  cases(show x = .int k from h)
  cases e with
  |aw=>cases(show V.int k = .aw from g)
  |tup ds=>obtain⟨a,xs,z,_⟩:=g;cases z
  |lst ds=>obtain⟨a,xs,z,_⟩:=g;cases z
  |bl b=>cases(show V.int k = .bl b from g)
  |int b=>cases(show V.int k = .int b from g);rfl
  |str b=>cases(show V.int k = .str b from g)
 |.str k,e,x,h,g=>by
  cases(show x = .str k from h)
  cases e with
  |aw=>cases(show V.str k = .aw from g)
  |tup ds=>obtain⟨a,xs,z,_⟩:=g;cases z
  |lst ds=>obtain⟨a,xs,z,_⟩:=g;cases z
  |bl b=>cases(show V.str k = .bl b from g)
  |int b=>cases(show V.str k = .int b from g)
  |str b=>cases(show V.str k = .str b from g);rfl
 |.tup ds,e,x,h,g=>by
  obtain⟨a,xs,z,q,l⟩:=h
  subst z
  cases e with
  |aw=>cases(show V.ref a = .aw from g)
  |bl b=>cases(show V.ref a = .bl b from g)
  |int b=>cases(show V.ref a = .int b from g)
  |str b=>cases(show V.ref a = .str b from g)
  |tup es=>
   obtain⟨b,ys,z,q',l'⟩:=g
   cases z
   have e:=I.Fp q q'
   subst e
   rw[dU.inj I ds es xs l l']
  |lst es=>
   obtain⟨b,ys,z,q',l'⟩:=g
   cases z
   obtain⟨_,_,p1,_⟩:=I.tuple q
   obtain⟨_,_,p2,_⟩:=I.list q'
   exact absurd rfl (SeqAt.ne_of_list_tuple p2.isList p1)
 |.lst ds,e,x,h,g=>by
  obtain⟨a,xs,z,q,l⟩:=h
  subst z
  cases e with
  |aw=>cases(show V.ref a = .aw from g)
  |bl b=>cases(show V.ref a = .bl b from g)
  |int b=>cases(show V.ref a = .int b from g)
  |str b=>cases(show V.ref a = .str b from g)
  |lst es=>
   obtain⟨b,ys,z,q',l'⟩:=g
   cases z
   have e:=I.Fl q q'
   subst e
   rw[dU.inj I ds es xs l l']
  |tup es=>
   obtain⟨b,ys,z,q',l'⟩:=g
   cases z
   obtain⟨_,_,p1,_⟩:=I.tuple q'
   obtain⟨_,_,p2,_⟩:=I.list q
   exact absurd rfl (SeqAt.ne_of_list_tuple p2.isList p1)
theorem dU.inj(I:Inv X pins O H s):∀(ds es:List D) (xs:List V),dU X.K H ds xs->dU X.K H es xs->ds=es
 |[],[],_,_,_=>rfl
 |[],_::_,xs,h,⟨x,r,e,_⟩=>by rw[show xs=[] from h] at e;cases e
 |_::_,[],xs,⟨x,r,e,_⟩,h=>by rw[show xs=[] from h] at e;cases e
 |d::ds,e::es,xs,⟨x,r,z,h,t⟩,⟨y,q,z',h',t'⟩=>by
  subst z
  cases z'
  rw[At.inj I d e x h h',dU.inj I ds es r t t']
end
mutual
theorem Np(I:Inv X pins O H s):∀(d e:D) (x y:V) (u v:Value) (A:Around) (n:Nat),dep d<=n->A.units+n<cLine->At X.K H d x->At X.K H e y->RelV x u->RelV y v->SeqAt.EqAt A s u v (fg d e)
 |.tup ds,.tup es,x,y,u,v,A,n,hn,hu,h,g,rx,ry=>by
  by_cases same:x=y
  .subst same
   cases At.inj I _ _ x h g
   rw[oJ]
   obtain⟨a,xs,rfl,_⟩:=h
   cases rx
   cases ry
   exact SeqAt.EqAt.same _
  .obtain⟨a,xs,rfl,q,l⟩:=h
   obtain⟨b,ys,rfl,q',l'⟩:=g
   cases rx
   cases ry
   obtain⟨its,r,p,_⟩:=I.tuple q
   obtain⟨cG,r',p',_⟩:=I.tuple q'
   have hn:fN ds+1<=n:=hn
   have l1:its.length=ds.length:=by rw[<-r.length,l.length]
   have l2:cG.length=es.length:=by rw[<-r'.length,l'.length]
   have R:=SeqAt.RcAt.tuples (A:=A) (s:=s) (e:=λj=>(oK ds es).getD j true) p p' (by lia) λj h1 h2=>by
    have lW:j<its.length:=by simpa using h1
    have iP:j<cG.length:=by simpa using h2
    have:=tq I ds es xs ys its cG A.in1 (n - 1) (by lia) (by show A.units+1+(n - 1)<cLine;lia) l l' r r' j lW iP
    simpa using this
   have E:=SeqAt.EqAt.of_refs (λz=>same (by rw[z])) R
   rw[br,br,l1,l2,oN] at E
   exact E
 |.lst ds,.lst es,x,y,u,v,A,n,hn,hu,h,g,rx,ry=>by
  by_cases same:x=y
  .subst same
   cases At.inj I _ _ x h g
   rw[oJ]
   obtain⟨a,xs,rfl,_⟩:=h
   cases rx
   cases ry
   exact SeqAt.EqAt.same _
  .obtain⟨a,xs,rfl,q,l⟩:=h
   obtain⟨b,ys,rfl,q',l'⟩:=g
   cases rx
   cases ry
   obtain⟨its,r,p,_⟩:=I.list q
   obtain⟨cG,r',p',_⟩:=I.list q'
   have hn:fN ds+1<=n:=hn
   have l1:its.length=ds.length:=by rw[<-r.length,l.length]
   have l2:cG.length=es.length:=by rw[<-r'.length,l'.length]
   refine SeqAt.EqAt.of_refs (λz=>same (by rw[z])) ?_
   show SeqAt.RcAt A s (.ref a) (.ref b) (iO ds es)
   rw[<-oN ds es]
   by_cases hl:ds.length=es.length
   .have R:=SeqAt.RcAt.lists (A:=A) (s:=s) (e:=λj=>(oK ds es).getD j true) p.isList p'.isList (by rw[br,br,l1,l2,hl]) (by lia) λj h1 h2=>by
     have lW:j<its.length:=by simpa using h1
     have iP:j<cG.length:=by simpa using h2
     have:=tq I ds es xs ys its cG A.in1 (n - 1) (by lia) (by show A.units+1+(n - 1)<cLine;lia) l l' r r' j lW iP
     simpa using this
    rw[br,l1] at R
    rw[<-hl,Nat.min_self,EJ,EM]
    exact R
   .have R:=SeqAt.RcAt.lists_lengths (A:=A) (s:=s) p.isList p'.isList (by rw[br,br,l1,l2];simpa using hl) (by lia)
    rw[show(ds.length==es.length)=false by simpa using hl,vc]
    exact R
 |.tup ds,.lst es,x,y,u,v,A,n,hn,hu,h,g,rx,ry=>by
  obtain⟨a,xs,rfl,q,l⟩:=h
  obtain⟨b,ys,rfl,q',l'⟩:=g
  cases rx
  cases ry
  obtain⟨its,r,p,_⟩:=I.tuple q
  obtain⟨cG,r',p',_⟩:=I.list q'
  exact SeqAt.EqAt.tuple_list p p'.isList (by lia)
 |.lst ds,.tup es,x,y,u,v,A,n,hn,hu,h,g,rx,ry=>by
  obtain⟨a,xs,rfl,q,l⟩:=h
  obtain⟨b,ys,rfl,q',l'⟩:=g
  cases rx
  cases ry
  obtain⟨its,r,p,_⟩:=I.list q
  obtain⟨cG,r',p',_⟩:=I.tuple q'
  exact SeqAt.EqAt.list_tuple p.isList p' (by lia)
 |.aw,.aw,x,y,u,v,A,n,hn,hu,h,g,rx,ry=>by cases(show x=_ from h);cases(show y=_ from g);exact gZ rx ry rfl rfl
 |.aw,.bl _,x,y,u,v,A,n,hn,hu,h,g,rx,ry=>by cases(show x=_ from h);cases(show y=_ from g);exact gZ rx ry rfl rfl
 |.aw,.int _,x,y,u,v,A,n,hn,hu,h,g,rx,ry=>by cases(show x=_ from h);cases(show y=_ from g);exact gZ rx ry rfl rfl
 |.aw,.str _,x,y,u,v,A,n,hn,hu,h,g,rx,ry=>by cases(show x=_ from h);cases(show y=_ from g);exact gZ rx ry rfl rfl
 |.bl _,.aw,x,y,u,v,A,n,hn,hu,h,g,rx,ry=>by cases(show x=_ from h);cases(show y=_ from g);exact gZ rx ry rfl rfl
 |.bl _,.bl _,x,y,u,v,A,n,hn,hu,h,g,rx,ry=>by cases(show x=_ from h);cases(show y=_ from g);exact gZ rx ry rfl rfl
 |.bl _,.int _,x,y,u,v,A,n,hn,hu,h,g,rx,ry=>by cases(show x=_ from h);cases(show y=_ from g);exact gZ rx ry rfl rfl
 |.bl _,.str _,x,y,u,v,A,n,hn,hu,h,g,rx,ry=>by cases(show x=_ from h);cases(show y=_ from g);exact gZ rx ry rfl rfl
 |.int _,.aw,x,y,u,v,A,n,hn,hu,h,g,rx,ry=>by cases(show x=_ from h);cases(show y=_ from g);exact gZ rx ry rfl rfl
 |.int _,.bl _,x,y,u,v,A,n,hn,hu,h,g,rx,ry=>by cases(show x=_ from h);cases(show y=_ from g);exact gZ rx ry rfl rfl
 |.int _,.int _,x,y,u,v,A,n,hn,hu,h,g,rx,ry=>by cases(show x=_ from h);cases(show y=_ from g);exact gZ rx ry rfl rfl
 |.int _,.str _,x,y,u,v,A,n,hn,hu,h,g,rx,ry=>by cases(show x=_ from h);cases(show y=_ from g);exact gZ rx ry rfl rfl
 |.str _,.aw,x,y,u,v,A,n,hn,hu,h,g,rx,ry=>by cases(show x=_ from h);cases(show y=_ from g);exact gZ rx ry rfl rfl
 |.str _,.bl _,x,y,u,v,A,n,hn,hu,h,g,rx,ry=>by cases(show x=_ from h);cases(show y=_ from g);exact gZ rx ry rfl rfl
 |.str _,.int _,x,y,u,v,A,n,hn,hu,h,g,rx,ry=>by cases(show x=_ from h);cases(show y=_ from g);exact gZ rx ry rfl rfl
 |.str _,.str _,x,y,u,v,A,n,hn,hu,h,g,rx,ry=>by cases(show x=_ from h);cases(show y=_ from g);exact gZ rx ry rfl rfl
 |.tup ds,.aw,x,y,u,v,A,n,hn,hu,⟨a,xs,z,q,l⟩,g,rx,ry=>by subst z;cases rx;cases(show y=_ from g);cases ry;obtain⟨its,r,p,_⟩:=I.tuple q;exact SeqAt.EqAt.tuple_none p (by lia)
 |.tup ds,.bl _,x,y,u,v,A,n,hn,hu,⟨a,xs,z,q,l⟩,g,rx,ry=>by subst z;cases rx;cases(show y=_ from g);cases ry;obtain⟨its,r,p,_⟩:=I.tuple q;exact SeqAt.EqAt.tuple_bool _ p (by lia)
 |.tup ds,.int _,x,y,u,v,A,n,hn,hu,⟨a,xs,z,q,l⟩,g,rx,ry=>by subst z;cases rx;cases(show y=_ from g);obtain⟨t,rfl⟩:=ry;obtain⟨its,r,p,_⟩:=I.tuple q;exact SeqAt.EqAt.tuple_int _ _ p (by lia)
 |.tup ds,.str _,x,y,u,v,A,n,hn,hu,⟨a,xs,z,q,l⟩,g,rx,ry=>by subst z;cases rx;cases(show y=_ from g);obtain⟨t,rfl⟩:=ry;obtain⟨its,r,p,_⟩:=I.tuple q;exact SeqAt.EqAt.tuple_str _ _ p (by lia)
 |.lst ds,.aw,x,y,u,v,A,n,hn,hu,⟨a,xs,z,q,l⟩,g,rx,ry=>by subst z;cases rx;cases(show y=_ from g);cases ry;obtain⟨its,r,p,_⟩:=I.list q;exact SeqAt.EqAt.list_none p.isList (by lia)
 |.lst ds,.bl _,x,y,u,v,A,n,hn,hu,⟨a,xs,z,q,l⟩,g,rx,ry=>by subst z;cases rx;cases(show y=_ from g);cases ry;obtain⟨its,r,p,_⟩:=I.list q;exact SeqAt.EqAt.list_bool _ p.isList (by lia)
 |.lst ds,.int _,x,y,u,v,A,n,hn,hu,⟨a,xs,z,q,l⟩,g,rx,ry=>by subst z;cases rx;cases(show y=_ from g);obtain⟨t,rfl⟩:=ry;obtain⟨its,r,p,_⟩:=I.list q;exact SeqAt.EqAt.list_int _ _ p.isList (by lia)
 |.lst ds,.str _,x,y,u,v,A,n,hn,hu,⟨a,xs,z,q,l⟩,g,rx,ry=>by subst z;cases rx;cases(show y=_ from g);obtain⟨t,rfl⟩:=ry;obtain⟨its,r,p,_⟩:=I.list q;exact SeqAt.EqAt.list_str _ _ p.isList (by lia)
 |.aw,.tup ds,x,y,u,v,A,n,hn,hu,g,⟨a,xs,z,q,l⟩,rx,ry=>by subst z;cases ry;cases(show x=_ from g);cases rx;obtain⟨its,r,p,_⟩:=I.tuple q;exact SeqAt.EqAt.none_tuple p (by lia)
 |.bl _,.tup ds,x,y,u,v,A,n,hn,hu,g,⟨a,xs,z,q,l⟩,rx,ry=>by subst z;cases ry;cases(show x=_ from g);cases rx;obtain⟨its,r,p,_⟩:=I.tuple q;exact SeqAt.EqAt.bool_tuple _ p (by lia)
 |.int _,.tup ds,x,y,u,v,A,n,hn,hu,g,⟨a,xs,z,q,l⟩,rx,ry=>by subst z;cases ry;cases(show x=_ from g);obtain⟨t,rfl⟩:=rx;obtain⟨its,r,p,_⟩:=I.tuple q;exact SeqAt.EqAt.int_tuple _ _ p (by lia)
 |.str _,.tup ds,x,y,u,v,A,n,hn,hu,g,⟨a,xs,z,q,l⟩,rx,ry=>by subst z;cases ry;cases(show x=_ from g);obtain⟨t,rfl⟩:=rx;obtain⟨its,r,p,_⟩:=I.tuple q;exact SeqAt.EqAt.str_tuple _ _ p (by lia)
 |.aw,.lst ds,x,y,u,v,A,n,hn,hu,g,⟨a,xs,z,q,l⟩,rx,ry=>by subst z;cases ry;cases(show x=_ from g);cases rx;obtain⟨its,r,p,_⟩:=I.list q;exact SeqAt.EqAt.none_list p.isList (by lia)
 |.bl _,.lst ds,x,y,u,v,A,n,hn,hu,g,⟨a,xs,z,q,l⟩,rx,ry=>by subst z;cases ry;cases(show x=_ from g);cases rx;obtain⟨its,r,p,_⟩:=I.list q;exact SeqAt.EqAt.bool_list _ p.isList (by lia)
 |.int _,.lst ds,x,y,u,v,A,n,hn,hu,g,⟨a,xs,z,q,l⟩,rx,ry=>by subst z;cases ry;cases(show x=_ from g);obtain⟨t,rfl⟩:=rx;obtain⟨its,r,p,_⟩:=I.list q;exact SeqAt.EqAt.int_list _ _ p.isList (by lia)
 |.str _,.lst ds,x,y,u,v,A,n,hn,hu,g,⟨a,xs,z,q,l⟩,rx,ry=>by subst z;cases ry;cases(show x=_ from g);obtain⟨t,rfl⟩:=rx;obtain⟨its,r,p,_⟩:=I.list q;exact SeqAt.EqAt.str_list _ _ p.isList (by lia)
theorem tq(I:Inv X pins O H s):∀(ds es:List D) (xs ys:List V) (us vs:List Value) (A:Around) (n:Nat),fN ds<=n->A.units+n<cLine->dU X.K H ds xs->dU X.K H es ys->Vals xs us->Vals ys vs->
  ∀(j:Nat) (h1:j<us.length) (h2:j<vs.length),SeqAt.EqAt A s us[j] vs[j] ((oK ds es).getD j true)
 |[],es,xs,ys,us,vs,A,n,hn,hu,h,g,r,r',j,h1,h2=>by
  rw[show xs=[] from h] at r
  cases r
  cases h1
 |d::ds,[],xs,ys,us,vs,A,n,hn,hu,h,g,r,r',j,h1,h2=>by
  rw[show ys=[] from g] at r'
  cases r'
  cases h2
 |d::ds,e::es,xs,ys,us,vs,A,n,hn,hu,⟨x,q,z,h,t⟩,⟨y,q',z',h',t'⟩,r,r',j,h1,h2=>by
  subst z
  subst z'
  have hn:max (dep d) (fN ds)<=n:=hn
  cases r with
  |cons r0 r1=>
   cases r' with
   |cons WZ W0=>
    cases j with
    |zero=>exact Np I d e x y _ _ A n (by lia) hu h h' r0 WZ
    |succ j=>exact tq I ds es q q' _ _ A n (by lia) hu t t' r1 W0 j (Nat.lt_of_succ_lt_succ h1) (Nat.lt_of_succ_lt_succ h2)
end
def Nq(K:Frag)(neg:Bool):R2:=λx y H Q=>∃d e,At K H d x/\At K H e y/\((∃ds es,d = .tup ds/\e = .tup es)\/(∃ds es,d = .lst ds/\e = .lst es))/\dep d<=50/\Q (.bl (if neg then !fg d e else fg d e)) H
end
section
variable{X:Cx}
theorem Nr(hu:X.A.units+64<cLine):dC X (compareOp .Eq) (Nq X.K false):=by
 intro pins s O H x y v u Q I rx ry h
 obtain⟨d,e,h1,h2,hk,hd,q⟩:=h
 have q:Q (.bl (fg d e)) H:=q
 rcases hk with ⟨ds,es,rfl,rfl⟩ | ⟨ds,es,rfl,rfl⟩
 .obtain⟨a,xs,rfl,p,l⟩:=h1
  obtain⟨b,ys,rfl,p',l'⟩:=h2
  cases rx
  cases ry
  obtain⟨its,r,t,_⟩:=I.tuple p
  obtain⟨cG,r',t',_⟩:=I.tuple p'
  have hd:fN ds+1<=50:=hd
  have l1:its.length=ds.length:=by rw[<-r.length,l.length]
  have l2:cG.length=es.length:=by rw[<-r'.length,l'.length]
  refine SeqAt.eq_tupleAt (e:=λj=>(oK ds es).getD j true) t t' (by lia) (λj h1 h2=>?_) ⟨.bl (iO ds es),H,I,?_,q⟩
  .have lW:j<its.length:=by simpa using h1
   have iP:j<cG.length:=by simpa using h2
   have:=tq I ds es xs ys its cG X.A.in1 49 (by lia) (by show X.A.units+1+49<cLine;lia) l l' r r' j lW iP
   simpa using this
  .show Value.bool _=Value.bool _
   rw[br,br,l1,l2,oN]
 .obtain⟨a,xs,rfl,p,l⟩:=h1
  obtain⟨b,ys,rfl,p',l'⟩:=h2
  cases rx
  cases ry
  obtain⟨its,r,t,_⟩:=I.list p
  obtain⟨cG,r',t',_⟩:=I.list p'
  have hd:fN ds+1<=50:=hd
  have l1:its.length=ds.length:=by rw[<-r.length,l.length]
  have l2:cG.length=es.length:=by rw[<-r'.length,l'.length]
  by_cases hl:ds.length=es.length
  .refine SeqAt.eq_listAt (e:=λj=>(oK ds es).getD j true) t.isList t'.isList (by rw[br,br,l1,l2,hl]) (by lia) (λj h1 h2=>?_) ⟨.bl (iO ds es),H,I,?_,q⟩
   .have lW:j<its.length:=by simpa using h1
    have iP:j<cG.length:=by simpa using h2
    have:=tq I ds es xs ys its cG X.A.in1 49 (by lia) (by show X.A.units+1+49<cLine;lia) l l' r r' j lW iP
    simpa using this
   .show Value.bool _=Value.bool _
    rw[br,l1,<-oN ds es,<-hl,Nat.min_self,EJ,EM]
  .refine SeqAt.eq_list_lengthsAt t.isList t'.isList (by rw[br,br,l1,l2];simpa using hl) (by lia) ⟨.bl (iO ds es),H,I,?_,q⟩
   show Value.bool _=Value.bool _
   rw[<-oN ds es,show(ds.length==es.length)=false by simpa using hl,vc]
theorem Gd(hu:X.A.units+64<cLine):dC X (compareOp .NotEq) (Nq X.K true):=by
 intro pins s O H x y v u Q I rx ry h
 obtain⟨d,e,h1,h2,hk,hd,q⟩:=h
 have q:Q (.bl (!fg d e)) H:=q
 rcases hk with ⟨ds,es,rfl,rfl⟩ | ⟨ds,es,rfl,rfl⟩
 .obtain⟨a,xs,rfl,p,l⟩:=h1
  obtain⟨b,ys,rfl,p',l'⟩:=h2
  cases rx
  cases ry
  obtain⟨its,r,t,_⟩:=I.tuple p
  obtain⟨cG,r',t',_⟩:=I.tuple p'
  have hd:fN ds+1<=50:=hd
  have l1:its.length=ds.length:=by rw[<-r.length,l.length]
  have l2:cG.length=es.length:=by rw[<-r'.length,l'.length]
  refine SeqAt.RcNeAt.tuples (e:=λj=>(oK ds es).getD j true) t t' (by lia) (λj h1 h2=>?_) X.prog X.w X.xe _ ⟨.bl (!iO ds es),H,I,?_,q⟩
  .have lW:j<its.length:=by simpa using h1
   have iP:j<cG.length:=by simpa using h2
   have:=tq I ds es xs ys its cG X.A.in1 49 (by lia) (by show X.A.units+1+49<cLine;lia) l l' r r' j lW iP
   simpa using this
  .show Value.bool _=Value.bool _
   rw[br,br,l1,l2,oN]
 .obtain⟨a,xs,rfl,p,l⟩:=h1
  obtain⟨b,ys,rfl,p',l'⟩:=h2
  cases rx
  cases ry
  obtain⟨its,r,t,_⟩:=I.list p
  obtain⟨cG,r',t',_⟩:=I.list p'
  have hd:fN ds+1<=50:=hd
  have l1:its.length=ds.length:=by rw[<-r.length,l.length]
  have l2:cG.length=es.length:=by rw[<-r'.length,l'.length]
  by_cases hl:ds.length=es.length
  .refine SeqAt.RcNeAt.lists (e:=λj=>(oK ds es).getD j true) t.isList t'.isList (by rw[br,br,l1,l2,hl]) (by lia) (λj h1 h2=>?_) X.prog X.w X.xe _ ⟨.bl (!iO ds es),H,I,?_,q⟩
   .have lW:j<its.length:=by simpa using h1
    have iP:j<cG.length:=by simpa using h2
    have:=tq I ds es xs ys its cG X.A.in1 49 (by lia) (by show X.A.units+1+49<cLine;lia) l l' r r' j lW iP
    simpa using this
   .show Value.bool _=Value.bool _
    rw[br,l1,<-oN ds es,<-hl,Nat.min_self,EJ,EM]
  .refine SeqAt.RcNeAt.lists_lengths t.isList t'.isList (by rw[br,br,l1,l2];simpa using hl) (by lia) X.prog X.w X.xe _ ⟨.bl (!iO ds es),H,I,?_,q⟩
   show Value.bool _=Value.bool _
   rw[<-oN ds es,show(ds.length==es.length)=false by simpa using hl,vc]
   rfl
end
def fZ:bootBuiltins "len"=some (.builtin "len"):=by decide +kernel
def W2:bootBuiltins "all"=some (.builtin "all"):=by decide +kernel
def iQ:bootBuiltins "isinstance"=some (.builtin "isinstance"):=by decide +kernel
def Ge:bootBuiltins "sorted"=some (.builtin "sorted"):=by decide +kernel
def yp:bootBuiltins "tuple"=some (.type "tuple"):=by decide +kernel
def yq:bootBuiltins "list"=some (.type "list"):=by decide +kernel
def W3:bootBuiltins "str"=some (.type "str"):=by decide +kernel
structure Fn(P:Program)(w:World)(K:Frag)(mg:Str->Option Value)(base:Heap)(x:Str)(k:Nat)(sp:Sp):Prop where
 ex:∃(f:Addr) (fd:FuncData) (ps:List Str),aK P w K mg base aS k f fd ps sp/\mg x=some (.ref f)/\keepIn K (.ref f)=true/\Binds K fd ps []
section
variable{X:Cx}{x:Str}{p pos:Pos}{e:Expr}{es:List Expr}{t:TA}{sp:Sp}{k:Nat}
theorem bD{m:Nat}(F:Fn X.prog X.w X.K X.mg X.base x k sp)(hr:bT m X.A)(ha:PA X (e::es) t)(hle:k<=m:=by first | decide | lia)(hg:Gl X x:=by rfl)(cU:(x==("__debug__":Str))=false:=by decide)
  (he:starEach (e::es) X.env=(false,eval e X.env)::starEach es X.env:=by rfl) (aL:(backTo pos (starEach es X.env)).any (·.1)=false:=by rfl):PE X (.Call (.Name x p) (e::es) [] pos) (x5 sp [] E0 t):=by
 obtain⟨f,fd,ps,G,hm,hk,hb⟩:=F.ex
 exact Bw G (hr.mono hle) hg hm hk hb .nil yh ha cU he aL
end
def Cn(mg:Str->Option Value)(x:Str)(v:V):Prop := ∃u,mg x=some u/\RelV v u
def eM{X:Cx}{x:Str}{v:V}{pos:Pos}(h:Cn X.mg x v)(hg:Gl X x)(hd:(x==("__debug__":Str))=false:=by decide):PE X (.Name x pos) (tC v):=by
 obtain⟨u,hm,r⟩:=h
 exact Ur hg hm r hd
def Nt{X:Cx}:gV X (.builtin "isinstance") (λxs H Q=>∃x c t b,(xs=[x,.ty c]/\jd X.K H x t/\kitOne X.K t (.type c)=some b)/\Q (.bl b) H):=by
 intro pins s O H xs us Q I r h
 obtain⟨x,c,t,b,⟨rfl,ty,e⟩,q⟩:=h
 obtain⟨u,v,rfl,ru,rv⟩:=vals2 r
 cases rv
 exact Vg I ru ty e λtk=>⟨.bl b,H,I.tok tk,rfl,q⟩
def W4{K:Frag}{t:String}:kitOne K (.type t) (.type t)=some true:=by
 unfold kitOne
 rw[aC (by simp)]
def W5{X:Cx}(hc:X.calm=true):gV X (.builtin "all") (λxs H Q=>∃(a:Addr) (bs:List Bool),xs=[.ref a]/\aq X.K H a (bs.map V.bl)/\Q (.bl (bs.all id)) H):=by
 intro pins s O H xs us Q I r h
 obtain⟨l,bs,rfl,hq,q⟩:=h
 obtain⟨u,rfl,ru⟩:=vals1 r
 cases ru
 obtain⟨its,rv,pl,hz⟩:=I.list hq
 have hl:=pl.isList
 have hh:X.A.handled=none:=I.ok.hd hc
 have aY:l<s.heap.objs.size:=by obtain⟨_,e,_⟩:=hl;exact bx e
 have hlen:its.length=bs.length:=by rw[<-rv.length,av]
 refine call_all_walk (AQ hl ?_)
 refine⟨s.heap.objs.size,[s.heap.objs.size,l],[s.heap.objs.size],its.toArray.size,_,_,λi=>(bs[i]?).getD true,rfl,Walks.list (A:=X.A.in1) hh _ l (bV aY) its.toArray,
  ⟨⟨_,cQ _ rfl,rfl,rfl⟩,hl.push _⟩,λi v s' Q' E' hP hQ=>?_,λh' tk hk=>?_⟩
 .have hv:its[i]? = some v:=by simpa using hP
  have hi:i<bs.length:=by rw[<-hlen];exact(bR.mp hv).1
  obtain⟨u',e1,e2⟩:=rv.get (i:=i) (x:=V.bl bs[i]) (by simp[hi])
  rw[hv] at e1
  cases e1
  have e2:v=Value.bool bs[i]:=e2
  subst e2
  simp only[bt hi,qi] at hQ
  exact qf hQ
 .have e:((List.range its.toArray.size).all λi=>(bs[i]?).getD true)=bs.all id:=by
   rw[br,hlen];exact LSm.range_all bs
  rw[e]
  exact⟨.bl _,H,I.kept λb o e=>LSm.kept_iter hk b o e,rfl,q⟩
def Gf{xs:List Str}:∀{us:List Value},Vals (xs.map V.str) us->StrsAre us xs:=by
 induction xs with
 |nil=>intro us h;cases h;exact .nil
 |cons x r ih=>
  intro us h
  cases h with
  |cons q t=>
   obtain⟨t',rfl⟩:=q
   exact .cons _ _ (ih t)
def rJoin(K:Frag):V->List V->Hp->VK->Prop:=λx vs H Q=>∃y a zs,x = .str y/\vs=[.ref a]/\(aq K H a (zs.map V.str)\/aA K H a (zs.map V.str))/\(zs.map (·.length)).sum+zs.length*y.length<=16777216/\Q (.str (Str.join y zs)) H
def Gg{X:Cx}:BC X "str.join" (rJoin X.K):=by
 intro pins s O H x vs v us Q I rx rv h
 obtain⟨y,a,zs,rfl,rfl,hq,hz,q⟩:=h
 obtain⟨t,rfl⟩:=rx
 obtain⟨u,rfl,ru⟩:=rv.one
 cases ru
 have e:Txt.join y zs=Str.join y zs:=StrLaws.glued_eq_join y zs
 rcases hq with hq | hq
 .obtain⟨its,r,pl,_⟩:=I.list hq
  refine join_list pl.isList (by simpa using Gf r) hz λt' k=>⟨.str (Str.join y zs),H,I.tok k,⟨t',by rw[e]⟩,q⟩
 .obtain⟨its,r,pl,_⟩:=I.tuple hq
  refine join_tuple pl (by simpa using Gf r) hz λt' k=>⟨.str (Str.join y zs),H,I.tok k,⟨t',by rw[e]⟩,q⟩
noncomputable def Gh(x:Str):It:=⟨λi _=>i<x.cps.size,λi H v H'=>H'=H/\∃c,x.cps.toList[i]? = some c/\v = .str ⟨#[c]⟩,λi _=>i=x.cps.size⟩
def W6(x:Str):["enumerate","zip","dict_itemiterator","dict_reverseitemiterator","odict_iterator","itertools.zip_longest","itertools.pairwise"].contains (strIterType x)=false:=by
 unfold strIterType
 split <;> decide
def Nu{prog:Program}{w:World}{A:Around}(hh:A.handled=none)(I:Addr)(x:Str)(t:Tok):Walks prog w A I [I] [I] x.cps.size (SignAt x) (λi h=>h.IsStrIter I (strIterType x) x t i):=by
 unfold strIterType
 split
 .exact Walks.strAscii hh I x t
 .exact Walks.strWide hh I x t
def W7{prog:Program}{w:World}{A:Around}{I:Addr}{x:Str}{t:Tok}{i:Nat}{s:Shared}{Q:Value->Shared->Prop}{E:Value->Shared->Prop}(h:s.heap.IsStrIter I (strIterType x) x t i)(q:Q (.ref I) s):wpAny (model prog w) A (pyIter (.ref I)) Q E s:=by
 unfold strIterType at h
 split at h
 .exact wpAny_pyIter_striter_ascii h q
 .exact wpAny_pyIter_striter_wide h q
def W8{P:Program}{w:World}{K:Frag}{tg:Expr}(x:Str)(t:Tok)(it:Addr):Turn P w K tg (Gh x) [it] it (λi h=>h.IsStrIter it (strIterType x) x t i) where
 mem:=by simp
 obj:=λi h st b hb=>by
  have e:b=it:=by simpa using hb
  subst e
  obtain⟨o,e,c,d⟩:=st
  exact⟨o,e,λv z=>by rw[d] at z;cases z⟩
 keep:=λi h h' st k=>let ⟨o,ho,r⟩:=st;⟨o,k it (by simp) o ho,r⟩
 item:=by
  intro X hP hw hK hc i pins s O H E I hf st hg
  subst hP hw hK
  obtain⟨f0,f1,f2,f3,f4,f5⟩:=hf it (by simp)
  have W:=Nu (prog:=X.prog) (w:=X.w) (I.ok.hd hc) it x t
  refine W.item i s _ _ hg st λv h' tk hv eY kk=>?_
  obtain⟨c,u,yr,rfl⟩:=hv
  have I1:Inv X pins O H { s with heap:=h',toks:=tk }:=I.turned (λb o hb e=>kk b o (by simpa using hb) e) f0 f1 f3 f4 f5
  obtain⟨o,e1,e2,e3⟩:=id eY
  refine⟨_,rfl,vw (s:={ s with heap:=h',toks:=tk }) (n:=strIterType x) e1 e2 e3 (W6 x) ⟨.str ⟨#[c]⟩,H,I1,⟨u,rfl⟩,⟨rfl,c,by simpa using yr,rfl⟩,eY,λb hb=>(hf b hb).1⟩⟩
 done:=by
  intro X hP hw hK hc i pins s O H E I hf st hg
  subst hP hw hK
  obtain⟨f0,f1,f2,f3,f4,f5⟩:=hf it (by simp)
  have hg:i=x.cps.size:=hg
  subst hg
  have W:=Nu (prog:=X.prog) (w:=X.w) (I.ok.hd hc) it x t
  exact W.done s _ _ st λh' tk kk=>⟨rfl,I.turned (λb o hb e=>kk b o (by simpa using hb) e) f0 f1 f3 f4 f5⟩
 self:=λ_ _ _ _ _ st h=>W7 st h
def W9(tl:TE):TI:=λO H R=>tl O H λx H1=>∃z,x = .str z/\R (Gh z) H1
def Xa{X:Cx}{tg l:Expr}{tl:TE}(hl:PE X l tl):PI X tg l (W9 tl):=by
 intro pins s O H R I h
 refine aD (hl pins s O H _ I h) λv s1 ⟨x,H1,I1,r1,q1⟩=>?_
 obtain⟨z,e,q⟩:=q1
 subst e
 obtain⟨t,rfl⟩:=r1
 refine wpAny_pyIter_strU ?_
 refine⟨s1.heap.objs.size,[s1.heap.objs.size],_,_,H1,rfl,I1.kept (t':=s1.toks) λb o e=>bq _ e,W8 z t _,⟨_,cQ _ rfl,rfl,rfl⟩,λb hb=>?_,q⟩
 have e:b=s1.heap.objs.size:=by simpa using hb
 subst e
 exact I1.j9 (aQ _) I1.fresh
structure ni(J:It)(Ok:Hp->Prop)(vs:List V):Prop where
 go:∀i H,Ok H->i<vs.length->J.go i H
 gB:∀i H x H',Ok H->i<vs.length->J.gB i H x H'->H'=H/\vs[i]? = some x
 stop:∀H,Ok H->J.stop vs.length H
def kh{K:Frag}{a:Addr}{xs:List V}:ni (vx K a) (λH=>aq K H a xs) xs:=
 ⟨λi H h hi=>⟨xs,xs[i],h,by simp[hi]⟩,λi H x H' h _ y=>⟨y.1,y.2 xs h⟩,λH h=>⟨xs,h,aQ _⟩⟩
def Nv{K:Frag}{a:Addr}{xs:List V}:ni (vy K a) (λH=>aA K H a xs) xs:=
 ⟨λi H h hi=>⟨xs,xs[i],h,by simp[hi]⟩,λi H x H' h _ y=>⟨y.1,y.2 xs h⟩,λH h=>⟨xs,h,aQ _⟩⟩
def Gi{lo:Int}{n:Nat}:ni (mX lo n) (λ_=>True) ((List.range n).map λ(i:Nat)=>V.int (lo+(i:Int))):=
 ⟨λi H _ hi=>(by simpa using hi:i<n),λi H x H' _ hi y=>⟨y.1,by
  obtain⟨_,e⟩:=y
  subst e
  have hi:i<n:=by simpa using hi
  simp[hi]⟩,λH _=>(by simp:n<=((List.range n).map λ(i:Nat)=>V.int (lo+(i:Int))).length)⟩
def Xb{x:Str}:ni (Gh x) (λ_=>True) (x.cps.toList.map λc=>V.str ⟨#[c]⟩):=
 ⟨λi H _ hi=>(by simpa using hi:i<x.cps.size),λi H v H' _ _ y=>⟨y.1,by
  obtain⟨_,c,e1,e2⟩:=y
  rw[bF,e1,e2]
  all_goals rfl⟩,λH _=>(by simp:(x.cps.toList.map λc=>V.str ⟨#[c]⟩).length=x.cps.size)⟩
theorem Xc{J:It}{Ok:Hp->Prop}{vs:List V}{g:TG}{tb:TS}{D:Ends}{O:St}{H:Hp}(S:ni J Ok vs)(Pv:Nat->St->Hp->Prop)(h0:Pv 0 O H)(ar:∀i O H,i<=vs.length->Pv i O H->Ok H)
  (hs:∀i x O H,vs[i]? = some x->Pv i O H->g x O H λO2 H2=>tb { D with nx:=Pv (i+1),ct:=Pv (i+1),bk:=D.nx } O2 H2) (hd:∀O H,Pv vs.length O H->D.nx O H) :
  ∃W:Nat->Nat->St->Hp->Prop,(∃m,W 0 m O H)/\∀i m O H,W i m O H->
   (J.stop i H/\D.nx O H)\/(J.go i H/\∃N:St->Hp->Prop,(∀O' H',N O' H'->∃m',m'<m/\W (i+1) m' O' H')/\∀x H',J.gB i H x H'->g x O H' λO2 H2=>tb { D with nx:=N,ct:=N,bk:=D.nx } O2 H2):=by
 refine⟨λi m O H=>m=vs.length - i/\i<=vs.length/\Pv i O H,⟨vs.length,by simp,bW _,h0⟩,?_⟩
 rintro i m O H ⟨rfl,hi,p⟩
 have q:=ar i O H hi p
 by_cases aY:i<vs.length
 .refine .inr ⟨S.go i H q aY,Pv (i+1),λO' H' p'=>⟨vs.length - (i+1),by lia,rfl,aY,p'⟩,λx H' y=>?_⟩
  obtain⟨e,yy⟩:=S.gB i H x H' q aY y
  subst e
  exact hs i x O _ yy p
 .have e:i=vs.length:=by lia
  subst e
  exact .inl ⟨S.stop H q,hd O H p⟩
theorem nj{J:It}{Ok:Hp->Prop}{vs:List V}{js:List Nat}{tt:TT}{te:TE}{O:St}{H1:Hp}{Q:VK}(S:ni J Ok vs)(hn:vs.length<=15752961)(p:Nat->Bool)(F:Addr->Nat->V->Hp->Prop)(ar:∀H,ag H1 H->Ok H)
  (mono:∀D i y H H',H1 D=none->(∃o,H D=some (.lst o))->(∀b o,b≠D->H b=some o->H' b=some o)->F D i y H->F D i y H')
  (hs:∀D i x H (Z0:Hp->Prop) (Z:V->Hp->Prop),H1 D=none->vs[i]? = some x->ag H1 H->(∃o,H D=some (.lst o))->(∀H2,ag H H2->p i=false->Z0 H2)->(∀y H2,ag H H2->p i=true->F D i y H2->Z y H2)->
   tt (some x::fM js O) H λb H2=>if b=true then te (some x::fM js O) H2 Z else Z0 H2)
  (hd:∀D ys H,H1 D=none->H D=some (.lst ys)->ag H1 H->Paired (λi y=>F D i y H) ((List.range vs.length).filter p) ys->Q (.ref D) H):BU js tt te O J H1 Q:=by
 intro D hD
 have hz:15752961<sizeLine:=by decide
 refine⟨λi m H=>m=vs.length - i/\i<=vs.length/\∃ys,H D=some (.lst ys)/\ag H1 H/\Paired (λi y=>F D i y H) ((List.range i).filter p) ys,⟨vs.length,by simp,bW _,[],ao,ag.upd hD,.nil⟩,?_⟩
 rintro i m H ⟨rfl,hi,ys,bO,sm,pr⟩
 have q:=ar H sm
 by_cases aY:i<vs.length
 .refine .inr ⟨S.go i H q aY,λx H' y=>?_⟩
  obtain⟨e,yy⟩:=S.gB i H x H' q aY y
  subst e
  have og:List.range (i+1)=List.range i++[i]:=vg
  have ln:ys.length<=i:=by
   have h1:=pr.length
   have h2:((List.range i).filter p).length<=(List.range i).length:=nY _ _
   rw[i5] at h2
   lia
  refine hs D i x H' _ _ hD yy sm ⟨ys,bO⟩ (λH2 s2 hp=>?_) (λz H2 s2 hp hF=>?_)
  .refine⟨vs.length - (i+1),by lia,rfl,aY,ys,s2 _ _ bO,sm.trans s2,?_⟩
   rw[og,vh,fH,au (by rw[hp];exact cy),AZ,dS]
   exact Paired.bE pr λj z f=>mono D j z H' H2 hD ⟨ys,bO⟩ (λb o _ e=>s2 b o e) f
  .refine⟨ys,s2 _ _ bO,by lia,vs.length - (i+1),by lia,rfl,aY,ys++[z],ao,(sm.trans s2).nh hD,?_⟩
   have up:∀b o,b≠D->H2 b=some o->upd H2 D (.lst (ys++[z])) b=some o:=λb o hb e=>by rw[ak hb];exact e
   rw[og,vh,fH,aC hp,AZ]
   refine qh (Paired.bE pr λj z' f=>?_) (mono D i z H2 _ hD ⟨ys,s2 _ _ bO⟩ up hF)
   exact mono D j z' H2 _ hD ⟨ys,s2 _ _ bO⟩ up (mono D j z' H' H2 hD ⟨ys,bO⟩ (λb o _ e=>s2 b o e) f)
 .have e:i=vs.length:=by lia
  subst e
  exact .inl ⟨S.stop H q,hd D ys H hD bO sm pr⟩
def comp_map{J:It}{Ok:Hp->Prop}{vs:List V}{js:List Nat}{te:TE}{O:St}{H1:Hp}{Q:VK}(S:ni J Ok vs)(hn:vs.length<=15752961)(F:Addr->Nat->V->Hp->Prop)(ar:∀H,ag H1 H->Ok H)
  (mono:∀D i y H H',H1 D=none->(∃o,H D=some (.lst o))->(∀b o,b≠D->H b=some o->H' b=some o)->F D i y H->F D i y H')
  (hs:∀D i x H (Z:V->Hp->Prop),H1 D=none->vs[i]? = some x->ag H1 H->(∃o,H D=some (.lst o))->(∀y H2,ag H H2->F D i y H2->Z y H2)->te (some x::fM js O) H Z)
  (hd:∀D ys H,H1 D=none->H D=some (.lst ys)->ag H1 H->Paired (λi y=>F D i y H) (List.range vs.length) ys->Q (.ref D) H):BU js Nd te O J H1 Q:=by
 refine nj S hn (λ_=>true) F ar mono (λD i x H Z0 Z h1 h2 h3 h4 _ k1=>bA (B:=Z0 H) (hs D i x H Z h1 h2 h3 h4 λy H2 s f=>k1 y H2 s rfl f)) λD ys H h1 h2 h3 pr=>hd D ys H h1 h2 h3 ?_
 rw[List.filter_eq_self.mpr (λ_ _=>rfl)] at pr
 exact pr
def Xd:V->Option Int->Option Int->Hp->VK->Prop:=λx lo hi H Q=>∃z,x = .str z/\z.length<=sizeLine/\Q (.str (Txt.slice z lo hi)) H
def part_of{v:Value}{o:Option Int}(p:IsPart v o):∃l:Option (Int×Tok),v=partValue l/\l.map (·.1)=o:=by
 cases p with
 |none=>exact⟨none,rfl,rfl⟩
 |int i t=>exact⟨some (i,t),rfl,rfl⟩
def yt{X:Cx}:x8 X Xd:=by
 intro pins s O H x v vl vu lo hi sl Q I rx hs pl pu h
 obtain⟨z,rfl,hz,q⟩:=h
 obtain⟨t,rfl⟩:=rx
 obtain⟨l,rfl,rfl⟩:=part_of pl
 obtain⟨u,rfl,rfl⟩:=part_of pu
 exact⟨"str",_,F.slot_str_getitem.lookup,typeIs_str _ _ _,wpAny_getItem_str_slice (l:=l) (u:=u) (st:=none) hs rfl
  (post_val_or_str ⟨bL (EN z _ _) hz,λt' k=>⟨.str (Txt.slice z _ _),H,I.tok k,⟨t',rfl⟩,q⟩⟩)⟩
def qC{n:Nat}{g:TG}{tb:TS}{D:Ends}{O:St}{H:Hp}(Pv:Nat->St->Hp->Prop)(h0:Pv 0 O H)
  (hs:∀(i:Nat) O H,i<n->Pv i O H->g (.int (i:Int)) O H λO2 H2=>tb { D with nx:=Pv (i+1),ct:=Pv (i+1),bk:=D.nx } O2 H2) (hd:∀O H,Pv n O H->D.nx O H) :
  ∃W:Nat->Nat->St->Hp->Prop,(∃m,W 0 m O H)/\∀i m O H,W i m O H->
   ((mX 0 n).stop i H/\D.nx O H)\/((mX 0 n).go i H/\∃N:St->Hp->Prop,(∀O' H',N O' H'->∃m',m'<m/\W (i+1) m' O' H')/\∀x H',(mX 0 n).gB i H x H'->g x O H' λO2 H2=>tb { D with nx:=N,ct:=N,bk:=D.nx } O2 H2):=
 UU Pv h0 (λi O H hi p=>by rw[A0];exact hs i O H hi p) hd
theorem tu{n k:Nat}(h:k<n):lN n (k:Int)=some k:=by
 unfold lN
 rw[aC (by lia),aC (by lia),iZ]
theorem Paired.get{α β:Type}{R:α->β->Prop}:∀{l:List α}{m:List β}{i:Nat}{y:β},Paired R l m->m[i]? = some y->∃x,l[i]? = some x/\R x y
 |_,_,_,_,.nil,e=>by simp at e
 |_,_,0,_,.cons r _,e=>by simp at e;subst e;exact⟨_,rfl,r⟩
 |_,_,i+1,y,.cons _ t,e=>by
  obtain⟨x,h1,h2⟩:=Paired.get (i:=i) (y:=y) t (by simpa using e)
  exact⟨x,by simpa using h1,h2⟩
theorem Paired.getL{α β:Type}{R:α->β->Prop}:∀{l:List α}{m:List β}{i:Nat}{x:α},Paired R l m->l[i]? = some x->∃y,m[i]? = some y/\R x y
 |_,_,_,_,.nil,e=>by simp at e
 |_,_,0,_,.cons r _,e=>by simp at e;subst e;exact⟨_,rfl,r⟩
 |_,_,i+1,x,.cons _ t,e=>by
  obtain⟨y,h1,h2⟩:=Paired.getL (i:=i) (x:=x) t (by simpa using e)
  exact⟨y,by simpa using h1,h2⟩
theorem Paired.Gj{α β γ:Type}{R:α->β->Prop}{g:γ->α}:∀{l:List γ}{m:List β},Paired R (l.map g) m->Paired (λc y=>R (g c) y) l m
 |[],_,h=>by cases h;exact .nil
 |_::r,_,h=>by
  cases h with
  |cons h1 h2=>exact .cons h1 (Paired.Gj h2)
theorem Paired.pick{α β:Type}{R:α->β->Prop}:∀{cs:List α}{xs:List β}(_:Paired R cs xs) (q:α->Bool) (p:Nat->Bool) (_:∀i c,cs[i]? = some c->p i=q c) {ys:List β}
  (_:Paired (λ(i:Nat) y=>xs[i]? = some y) ((List.range xs.length).filter p) ys),Paired R (cs.filter q) ys
 |_,_,.nil,q,p,hp,ys,pr=>by
  have:ys=[]:=by cases pr;rfl
  rw[this]
  exact .nil
 |c::cs,x::xs,.cons h t,q,p,hp,ys,pr=>by
  have e0:p 0=q c:=hp 0 c rfl
  rw[eJ,TC,fH,EO] at pr
  have fO:∀i c',cs[i]? = some c'->(p∘Nat.succ) i=q c':=λi c' e=>hp (i+1) c' (by simpa using e)
  rw[fH]
  by_cases hq:q c=true
  .rw[e0,aC hq] at pr
   rw[aC hq]
   cases pr with
   |cons h1 h2=>
    have h1:some x=some _:=h1
    cases h1
    exact .cons h (Paired.pick t q (p∘Nat.succ) fO (Paired.bE (Paired.Gj h2) λi y e=>by simpa using e))
  .rw[e0,au hq] at pr
   rw[au hq]
   exact Paired.pick t q (p∘Nat.succ) fO (Paired.bE (Paired.Gj pr) λi y e=>by simpa using e)
def Xe(t:TS):TS:=λD O H=>∃I:St->Hp->Prop,(∀O' H',I O' H'->D.nx O' H')/\t { D with nx:=I } O H
def BW{X:Cx}{st:Stmt}{t:TS}(h:PS X st t):PS X st (Xe t):=by
 intro pins s O H D I q
 obtain⟨J,hJ,q⟩:=q
 refine aD (h pins s O H _ I q) λf s' hs=>?_
 cases f with
 |next=>obtain⟨O',H',I',z⟩:=hs;exact⟨O',H',I',hJ _ _ z⟩
 |brk=>exact hs
 |cont=>exact hs
 |ret u=>exact hs
def yu:Slot "reversed" "__next__" "reversed.__next__" :=
 .of (owner:="reversed") (n:="__next__") (by rw[Ly,Lz];kernel_rfl) (by decide +kernel) (by decide +kernel) (by decide +kernel)
  (by first | exact .inl (by decide +kernel) | exact .inr (by decide +kernel)) (by rw[LA];kernel_rfl)
def Nx:entryFor table "reversed.__next__"=some Builtin.«reversed.__next__»:=entryFor_of_tree (by kernel_rfl)
def Ny(a:Value):argsOk "reversed.__next__" ⟨[a],[]⟩:=by unfold argsOk;kernel_rfl
def Nz:Slot "reversed" "__iter__" "reversed.__iter__" :=
 .of (owner:="reversed") (n:="__iter__") (by rw[Ly,Lz];kernel_rfl) (by decide +kernel) (by decide +kernel) (by decide +kernel)
  (by first | exact .inl (by decide +kernel) | exact .inr (by decide +kernel)) (by rw[LA];kernel_rfl)
def Xf(a:Value):argsOk "reversed.__iter__" ⟨[a],[]⟩:=by unfold argsOk;kernel_rfl
def Xg:entryFor table "reversed.__iter__"=some Builtin.«dict_keyiterator.__iter__» :=
 entryFor_alias (id':="dict_keyiterator.__iter__") (by kernel_rfl) (by first | rfl | decide +kernel | (unfold String.splitOn;simp +decide [String.splitOnAux])) (by decide +kernel) (by kernel_rfl)
def Xh:Slot "reversed" "__init__" "object.__init__" :=
 .of (owner:="object") (n:="__init__") (by rw[Ly,Lz];kernel_rfl) (by decide +kernel) (by decide +kernel) (by decide +kernel)
  (by first | exact .inl (by decide +kernel) | exact .inr (by decide +kernel)) (by rw[LA];kernel_rfl)
def Xi:TypeCalled "reversed" "reversed.__new__" "object.__init__" :=
 ⟨by decide +kernel,by decide +kernel,⟨_,_,F.mro_reversed⟩,F.made_reversed,by decide +kernel,F.sub_reversed_self,Xh⟩
def Xj:typeLookup (.type "tuple") "__reversed__"=pure none:=by rw[Ly,Lz];kernel_rfl
def Xk:isSubtype (.type "tuple") (.type "dict")=pure false:=by rw[LA];kernel_rfl
noncomputable def yw(l:Addr)(i:Int):Obj:={ cls := .type "reversed",data := .fields #[.ref l,rawInt i] }
def lX(h:Heap)(a l:Addr)(i:Int):Prop := ∃o,h.get? a=some o/\o.cls = .type "reversed"/\o.data = .fields #[.ref l,rawInt i]
def lX.typeIs{s:Shared}{a l:Addr}{i:Int}(x:lX s.heap a l i):s.TypeIs (.ref a) "reversed":=let ⟨o,ho,hc,_⟩:=x;⟨o,ho,hc⟩
def lX.at{h h':Heap}{a l:Addr}{i:Int}(x:lX h a l i)(e:∀o,h.get? a=some o->h'.get? a=some o):lX h' a l i:=let ⟨o,ho,r⟩:=x;⟨o,e _ ho,r⟩
theorem Xl(t:Addr)(items:Array Value)(hz:items.size<=sizeLine):Meets (Builtin.«reversed.__new__» ⟨[.type "reversed",.ref t],[]⟩) (λ_ R s=>IsTup s.heap t items/\
  ∀tk,R (.ok (.ret (.ref s.heap.objs.size))) { s with heap:=s.heap.push (yw t ((items.size:Int) - 1)),toks:=tk }):=
 .of_wp λprog w A R s h=>by
  obtain⟨hT,h⟩:=h
  unfold Builtin.«reversed.__new__»
  refine ah (rW (newClass_reversed _) ?_)
  try dsimp only
  refine ah (rW (a:=()) (by first | rfl | kernel_rfl) ?_)
  refine ah (rW (a:=()) (by first | rfl | kernel_rfl) ?_)
  try dsimp only
  refine ah (Lw hT.typeIs Xj ?_)
  try dsimp only
  refine ah ?_
  show wpAny _ _ (isInstance (.ref t) (.type "dict") >>= _) _ _ _
  refine ah (wpAny_isInstance hT.typeIs Xk ?_)
  show wpAny _ _ (specialOf (.ref t) "__getitem__" >>= _) _ _ _
  refine ah (Lw hT.typeIs EG.lookup ?_)
  show wpAny _ _ (pure true) _ _ _
  refine aE ?_
  show wpAny _ _ (call (.builtin "len") [.ref t] >>= _) _ _ _
  refine ah (len_tuple hT (by have:=oq;lia) ?_)
  refine ah (rW (a:=some (items.size:Int)) rfl ?_)
  show wpAny _ _ (newObj (.type "reversed") (.fields #[.ref t,rawInt ((items.size:Int) - 1)]) none >>= _) _ _ _
  exact ah (mR (aE ⟨_,rfl,h _⟩))
section
variable{prog:Program}{w:World}{A:Around}{E:Value->Shared->Prop}{s:Shared}
def Xm{t:Addr}{items:Array Value}{Q:Value->Shared->Prop}(hT:IsTup s.heap t items)(hz:items.size<=sizeLine)
  (h:∀tk,Q (.ref s.heap.objs.size) { s with heap:=s.heap.push (yw t ((items.size:Int) - 1)),toks:=tk }):wpAny (model prog w) A (call (.type "reversed") [.ref t]) Q E s:=
 callType_new Xi (by decide) (F.typeCall_reversed_1 _) (F.newCall_reversed_1 _) (λobj=>F.args_object_init_2 obj _) F.entry_reversed_new (Xl t items hz) ⟨hT,λtk=>⟨⟨_,cQ _ rfl,rfl⟩,h tk⟩⟩
theorem Xn{it t:Addr}{i:Nat}{items:Array Value}{x:Value}{Q:Option Value->Shared->Prop}(hit:lX s.heap it t (i:Int))(hT:IsTup s.heap t items)(hz:items.size<=sizeLine)(hx:items[i]? = some x)
  (hQ:∀h' tk,lX h' it t ((i:Int) - 1)->Heap.SameBut it s.heap h'->Q (some x) { s with heap:=h',toks:=tk }):wpAny (model prog w) A (pyNext (.ref it)) Q E s:=by
 obtain⟨o,ho,hc,hd⟩:=id hit
 have hi:i<items.size:=(TF.mp hx).1
 have hl:=oq
 unfold pyNext
 refine ah (nZ (xE (name:=Str.ofString "__next__") hit.typeIs yu
  (qg yu hit.typeIs Nx ?_ (Ny _))))
 unfold Builtin.«reversed.__next__»
 refine ah (rW (a:=(Value.ref it,[])) rfl ?_)
 try dsimp only
 refine ah (eK ho hd (x := .ref t) rfl ?_)
 refine ah (eK ho hd (x:=rawInt (i:Int)) rfl ?_)
 show wpAny _ _ (if (i:Int)<0 then _ else _) _ _ s
 rw[au (by lia)]
 show wpAny _ _ (specialOf (.ref t) "__getitem__" >>= _) _ _ _
 refine ah (Lw hT.typeIs EG.lookup ?_)
 show wpAny _ _ (mkInt (i:Int) >>= _) _ _ _
 refine ah (wpAny_mkInt ?_)
 refine ah (nZ (getItem_tuple (j:=i) hT (by lia) (by lia) (seqIndex_of (by lia) (by lia)) hx ?_))
 try dsimp only
 refine ah (eK ho hd (x:=rawInt (i:Int)) rfl ?_)
 show wpAny _ _ (setField (.ref it) 1 (rawInt ((i:Int) - 1)) >>= _) _ _ _
 refine ah (vi ho hd (by simp) ?_)
 refine aE ⟨x,rfl,aE (hQ _ _ ?_ (A3 ..))⟩
 exact⟨_,nX _ ho (ER (rX hd _)),(Obj.cls_mapFields ..).trans hc,by
  rw[rX hd];simp⟩
def Xo{it t:Addr}{Q:Option Value->Shared->Prop}(hh:A.handled=none)(hit:lX s.heap it t (-1))
  (hQ:∀h',Heap.ExtBut it s.heap h'->Q none { s with heap:=h' }):wpAny (model prog w) A (pyNext (.ref it)) Q E s:=by
 obtain⟨o,ho,hc,hd⟩:=id hit
 unfold pyNext
 refine ah (nZ (xE (name:=Str.ofString "__next__") hit.typeIs yu
  (qg yu hit.typeIs Nx ?_ (Ny _))))
 unfold Builtin.«reversed.__next__»
 refine ah (rW (a:=(Value.ref it,[])) rfl ?_)
 try dsimp only
 refine ah (eK ho hd (x := .ref t) rfl ?_)
 refine ah (eK ho hd (x:=rawInt (-1)) rfl ?_)
 show wpAny _ _ (if (-1:Int)<0 then _ else _) _ _ s
 rw[aC (by decide)]
 refine ah (vj ?_)
 refine ah ?_
 show wpAny _ _ (setField (.ref it) 1 (rawInt (-1)) >>= λ_=>setField (.ref it) 0 .none) _ _ _
 refine ah (vi ho hd (by simp) ?_)
 refine vi (nX _ ho (ER (rX hd _))) (rX hd _) (by simp) ?_
 refine ah ?_
 show wpAny _ _ (newExc (.type "StopIteration") [] >>= _) _ _ _
 refine ah ?_
 simp only[newExc,newTuple]
 refine ah (mR ?_ (by size_fits))
 refine ah (m:=firstArgMember _ _) (rW (a:=Value.none) (by first | rfl | (simp only[firstArgMember];rfl)) ?_)
 refine mR ?_ (by size_fits)
 simp only[raiseNew]
 refine ah (wpAny_handled ?_)
 first | rw[show A.in1.handled=none from hh] | rw[hh]
 refine ah (aE (wpAny_throw ?_))
 refine ah (wpAny_isInstance (T:="StopIteration") (b:=true) ⟨_,cQ _ rfl,rfl⟩ isSubtype_stop ?_)
 refine aE (hQ _ λb ob hb e=>?_)
 refine bq _ (bq _ ?_)
 exact(gT _ _ (aP hb)).trans ((gT _ _ (aP hb)).trans e)
def NA{it t:Addr}{i:Int}{Q:Value->Shared->Prop}(hit:lX s.heap it t i)(h:Q (.ref it) s):wpAny (model prog w) A (pyIter (.ref it)) Q E s:=by
 refine wpAny_pyIter_slot hit.typeIs Nz (qg Nz hit.typeIs Xg ?_ (Xf _))
 show wpAny _ _ (ret (.ref it)) _ _ s
 exact aE ⟨_,rfl,"reversed",_,hit.typeIs,yu.lookup,h⟩
end
noncomputable def Gm(K:Frag)(a:Addr)(xs:List V):It:=
 ⟨λi H=>aA K H a xs/\i<xs.length,λi H x H'=>H'=H/\xs.reverse[i]? = some x,λi H=>aA K H a xs/\i=xs.length⟩
theorem Xp{P:Program}{w:World}{K:Frag}{tg:Expr}(a it:Addr)(xs:List V):Turn P w K tg (Gm K a xs) [it] it (λi h=>lX h it a ((xs.length:Int) - 1 - (i:Nat))) where
 mem:=by simp
 obj:=λi h st b hb=>by
  have e:b=it:=by simpa using hb
  subst e
  obtain⟨o,e,c,d⟩:=st
  exact⟨o,e,λv z=>by rw[d] at z;cases z⟩
 keep:=λi h h' st k=>st.at λo e=>k it (by simp) o e
 item:=by
  intro X hP hw hK hc i pins s O H E I hf st hg
  subst hP hw hK
  obtain⟨hq,hi⟩:=hg
  obtain⟨its,rv,p,hz⟩:=I.tuple hq
  have hl:=rv.length
  obtain⟨f0,f1,f2,f3,f4,f5⟩:=hf it (by simp)
  have e1:(xs.length:Int) - 1 - (i:Nat)=((xs.length - 1 - i:Nat):Int):=by lia
  have hx:xs[xs.length - 1 - i]? = some (xs[xs.length - 1 - i]'(by lia)):=bt (by lia)
  obtain⟨u,hu,ru⟩:=rv.get hx
  rw[e1] at st
  refine Xn st p (by rw[br];lia) (x:=u) (by simpa using hu) λh' tk eY sb=>?_
  have I1:Inv X pins O H { s with heap:=h',toks:=tk }:=I.turned (λb o hb e=>(sb.2 b hb).trans e) f0 f1 f3 f4 f5
  obtain⟨o,e,c,d⟩:=id eY
  refine⟨u,rfl,vw (s:={ s with heap:=h',toks:=tk }) e c d (by decide) ⟨_,H,I1,ru,⟨rfl,?_⟩,?_,λb hb=>(hf b hb).1⟩⟩
  .rw[ES hi]
   exact hx
  .have e2:((xs.length - 1 - i:Nat):Int) - 1=(xs.length:Int) - 1 - ((i+1:Nat):Int):=by lia
   rw[e2] at eY
   exact eY
 done:=by
  intro X hP hw hK hc i pins s O H E I hf st hg
  subst hP hw hK
  obtain⟨hq,hi⟩:=hg
  obtain⟨f0,f1,f2,f3,f4,f5⟩:=hf it (by simp)
  have e1:(xs.length:Int) - 1 - (i:Nat) = -1:=by lia
  rw[e1] at st
  exact Xo (I.ok.hd hc) st λh' eb=>⟨rfl,I.turned (t':=s.toks) (λb o hb e=>eb b o hb e) f0 f1 f3 f4 f5⟩
 self:=λ_ _ _ _ _ st h=>NA st h
def Xq(K:Frag)(ta:TA):TI:=λO H R=>ta O H λvs H1=>∃a xs,vs=[.ref a]/\aA K H1 a xs/\R (Gm K a xs) H1
def Xr:bootBuiltins "reversed"=some (.type "reversed"):=by decide +kernel
theorem Xt{X:Cx}{tg a:Expr}{ta:TA}{p pos:Pos}(hg:Gl X "reversed")(hm:X.mg "reversed"=none)(ha:PA X [a] ta)(hs:starEach [a] X.env=[(false,eval a X.env)]:=by rfl) :
  PI X tg (.Call (.Name "reversed" p) [a] [] pos) (Xq X.K ta):=by
 intro pins s O H R I h
 refine Call_ (qr I hg hm Xr (EC (aD (ha pos pins s O H _ I h) λus s1 ⟨vs,H1,I1,r1,q1⟩=>?_) hs rfl))
 obtain⟨t,xs,e,hq,q⟩:=q1
 subst e
 obtain⟨u,rfl,ru⟩:=vals1 r1
 cases ru
 obtain⟨its,rv,pl,hz⟩:=I1.tuple hq
 have hl:=rv.length
 refine Xm pl (by rw[br];lia) λtk=>?_
 have I2:Inv X pins O H1 { s1 with heap:=s1.heap.push (yw t ((its.toArray.size:Int) - 1)),toks:=tk }:=I1.kept λb o e=>bq _ e
 have NB:lX (s1.heap.push (yw t ((its.toArray.size:Int) - 1))) s1.heap.objs.size t ((xs.length:Int) - 1 - ((0:Nat):Int)):=by
  have e:(its.toArray.size:Int) - 1=(xs.length:Int) - 1 - ((0:Nat):Int):=by rw[br];lia
  rw[<-e]
  exact⟨_,cQ _ rfl,rfl,rfl⟩
 refine NA (s:={ s1 with heap:=s1.heap.push (yw t ((its.toArray.size:Int) - 1)),toks:=tk }) NB ?_
 refine⟨s1.heap.objs.size,[s1.heap.objs.size],_,_,H1,rfl,I2,Xp t _ xs,NB,λb hb=>?_,q⟩
 have e:b=s1.heap.objs.size:=by simpa using hb
 subst e
 exact I1.j9 (aQ _) I1.fresh
def Xu{K:Frag}{a:Addr}{xs:List V}:ni (Gm K a xs) (λH=>aA K H a xs) xs.reverse:=
 ⟨λi H h hi=>⟨h,by simpa using hi⟩,λi H x H' h _ y=>y,λH h=>⟨h,by simp⟩⟩
noncomputable def lY(x:Str):Str:=⟨x.cps.toList.reverse.toArray⟩
theorem rev_eq(x:Str)(u:Tok):Txt.sliceBy x none none (-1,u)=lY x:=by
 have h:=step_rev_list x u
 have e:(List.range x.length).map (λk=>x.cps.getD (x.length - 1 - k) 0)=x.cps.toList.reverse:=by
  apply i6
  intro i
  have hl:x.cps.toList.length=x.length:=by simp[Str.length]
  rw[bF]
  by_cases hi:i<x.length
  .rw[rY hi,ES (by rw[hl];exact hi),hl]
   have hb:x.length - 1 - i<x.cps.size:=by show _<x.length;lia
   simp[Array.getD,hb]
  .rw[di (by simpa using hi),di (by rw[ET,hl];lia)]
   rfl
 rw[e] at h
 generalize Txt.sliceBy x none none (-1,u)=y at h
 cases y with
 |mk c=>
  unfold lY
  rw[<-h]
def Xv(te ts:TE):TE:=λO H Q=>te O H λx H1=>ts O H1 λy H2=>∃z,x = .str z/\y = .int (-1)/\z.length<=sizeLine/\Q (.str (lY z)) H2
def Xw{X:Cx}{e st:Expr}{te ts:TE}{pos p2:Pos}(he:PE X e te)(d9:PE X st ts):PE X (.Subscript e (.Slice none none (some st) p2) pos) (Xv te ts):=by
 intro pins s O H Q I h
 refine Subscript_ (aD (he pins s O H _ I h) λv s1 ⟨x,H1,I1,r1,q1⟩=>?_)
 refine wpAny_Slice (aD (m8 pins s1 O H1 (λo H'=>o=none/\H'=H1) I1 ⟨rfl,rfl⟩) λvl s2 ⟨l,H2,I2,pl,el,eh⟩=>?_)
 subst el eh
 refine aD (m8 pins s2 O H2 (λo H'=>o=none/\H'=H2) I2 ⟨rfl,rfl⟩) λvu s3 ⟨u,H3,I3,pu,eu,eh⟩=>?_
 subst eu eh
 rw[evalPart_some]
 refine aD (d9 pins s3 O H3 _ I3 q1) λvs s4 h_=>?_
 obtain⟨y,H4,I4,r4,z,e1,e2,hz,q⟩:=h_
 subst e1 e2
 obtain⟨t,rfl⟩:=r1
 obtain⟨t4,rfl⟩:=r4
 cases pl
 cases pu
 have I5:Inv X pins O H4 { s4 with heap:=s4.heap.push { cls := .type "slice",data := .fields #[.none,.none,.int (-1) t4] } }:=I4.kept (t':=s4.toks) λb ob q=>bq _ q
 show wpAny (model X.prog X.w) X.A (subscriptTail e (.Slice none none (some st) p2) (.str z t) (.ref s4.heap.objs.size)) (EP X pins O Q) X.xe { s4 with heap:=s4.heap.push { cls := .type "slice",data := .fields #[.none,.none,.int (-1) t4] } }
 refine tail_any (ops:=[.ref s4.heap.objs.size,.str z t]) (typeIs_str _ _ _) F.slot_str_getitem.lookup (wpAny_getItem_str_slice (l:=none) (u:=none) (st:=some (-1,t4)) ⟨_,cQ _ rfl,rfl,rfl⟩ rfl
  (post_val_or_str ⟨bL (Txt.sliceBy_le z _ _ (-1,t4) (show(-1:Int)≠0 by decide)) hz,λt' k=>?_⟩)) (by with_unfolding_all rfl)
 exact⟨.str (lY z),H4,I5.tok k,⟨t',by show Value.str (Txt.sliceBy z none none (-1,t4)) t'=_;rw[rev_eq]⟩,q⟩
end L2
namespace L2
open PySem
variable{p:Prop}{α:Type}{P:Program}{w:World}{K:Frag}{mg:Str->Option Value}{base:Heap}{st:Stmt}{f:Addr}{fd:FuncData}
structure Hid(p G:Prop):Prop where
 k:p->G
def hide(h:∀G:Prop,Hid p G->G):p:=h p ⟨id⟩
theorem yx{P:List α->Prop}(h:∀a,P [a]):∀us:List α,us.length=1->P us
 |[a],_=>h a
theorem qD{P:List α->Prop}(h:∀a b,P [a,b]):∀us:List α,us.length=2->P us
 |[a,b],_=>h a b
theorem tw{P:List α->Prop}(h:∀a b c,P [a,b,c]):∀us:List α,us.length=3->P us
 |[a,b,c],_=>h a b c
theorem yz{P:List α->Prop}(h:∀a b c d,P [a,b,c,d]):∀us:List α,us.length=4->P us
 |[a,b,c,d],_=>h a b c d
theorem yA{P:List α->Prop}(h:∀a b c d e,P [a,b,c,d,e]):∀us:List α,us.length=5->P us
 |[a,b,c,d,e],_=>h a b c d e
def aZ.bU{x qual:Str}{N ps:List Str}{k:Nat}{sp:Sp}(F:aZ K x qual st f fd)(S:bu N ps (aN st))
  (lM:∀(aF:Value) (A:Around) (outer:List Env) (s:Shared) (H:Hp) (vs:List V) (Q:VK) (E:XK),bT k (A.deeper (PyProof.Rows.envOfC qual (aN st) s.heap.objs.size f aF))->sp vs H Q E->
   ∃t,eU (gX aS P w K mg base N qual (aN st) f aF A outer s H E).so (jI st) t/\t { nx:=λ_ H'=>Q .aw H',rt:=Q } (start N vs) H)
  (len:∀vs H Q E,sp vs H Q E->vs.length=ps.length:=by intro vs H Q E h;repeat (first | (obtain⟨rfl,_⟩:=h;rfl) | obtain⟨_,h⟩:=h)):aK P w K mg base aS (k+1) f fd ps sp:=F.ok S len lM
end L2
namespace L2
open PySem PySem.Spec PyProof.Rows
variable{kk l n q:Nat}{X:Cx}{b qual x:Str}{st:Stmt}{C a f i y:Addr}{fd:FuncData}{d u v1 v2:Value}{ps ss:List Str}{sp:Sp}{ds us vs:List Value}{rr:Frag->R2}{ta:TA}{v:V}{P prog:Program}{w:World}{K K':Frag}{e tg:Expr}{o1 o2 ob:Obj}{kvs:List (Key×V)}{h h':Heap}{U:Nat->Heap->Prop}{E Q:Value->Shared->Prop}{K1 K2:Shared->Prop}{A:Around}{pins:List (Addr×Obj)}{O:St}{H:Hp}{s:Shared}{xs ys:List V}{elts es:List Expr}{ou p pos:Pos}{g:TG}{items:Array Value}{W:List V->Hp->(It->Hp->Prop)->Prop}{js:List Nat}{expr:Bool}{kz:Str->Int}
def iA(h:n<=10000):n<=sizeLine:=bL h (by decide)
def ki(h:n<=10000):n<sizeLine:=lr h (by decide)
def Xx:bootBuiltins "sum"=some (.builtin "sum"):=by decide +kernel
def Xy:bootBuiltins "min"=some (.builtin "min"):=by decide +kernel
theorem Xz(is:List Int):∀n,n<=is.length->preSum (λi=>(is[i]?).getD 0) n=(is.take n).sum:=by
 intro n
 induction n with
 |zero=>intro _;rfl
 |succ n ih=>
  intro h
  have e:is[n]? = some (is[n]'(by lia)):=bt _
  rw[ik,List.sum_append,<-ih (by lia)]
  show preSum _ n+(is[n]?).getD 0=_
  rw[e]
  simp
def XA(hc:X.calm=true):gV X (.builtin "sum") (λxs H Q=>∃(a:Addr) (is:List Int),xs=[.ref a]/\aq X.K H a (is.map V.int)/\Q (.int is.sum) H):=by
 intro pins s O H xs us Q I r h
 obtain⟨l,is,rfl,hq,q⟩:=h
 obtain⟨u,rfl,ru⟩:=vals1 r
 cases ru
 obtain⟨its,rv,pl,hz⟩:=I.list hq
 have hl:=pl.isList
 have hh:X.A.handled=none:=I.ok.hd hc
 have aY:l<s.heap.objs.size:=by obtain⟨_,e,_⟩:=hl;exact bx e
 have hlen:its.length=is.length:=by rw[<-rv.length,av]
 refine call_sum_walkG (AQ hl ?_)
 refine⟨s.heap.objs.size,[s.heap.objs.size,l],[s.heap.objs.size],its.toArray.size,_,_,λi=>(is[i]?).getD 0,rfl,Walks.list (A:=X.A.in1) hh _ l (bV aY) its.toArray,
  ⟨⟨_,cQ _ rfl,rfl,rfl⟩,hl.push _⟩,λb hb=>?_,λi v hP=>?_,λh' tk t' hk=>?_⟩
 .have z:b=s.heap.objs.size\/b=l:=by simpa using hb
  show b<(s.heap.push _).objs.size
  rw[A4]
  rcases z with z | z
  .rw[z];exact uZ _
  .rw[z];exact rV aY
 .have hv:its[i]? = some v:=by simpa using hP
  have hi:i<is.length:=by rw[<-hlen];exact(bR.mp hv).1
  obtain⟨u',e1,e2⟩:=rv.get (i:=i) (x:=V.int is[i]) (by simp[hi])
  rw[hv] at e1
  cases e1
  obtain⟨t,rfl⟩:=e2
  exact⟨t,by simp[hi]⟩
 .have e:preSum (λi=>(is[i]?).getD 0) its.toArray.size=is.sum:=by
   rw[br,hlen,Xz is _ (aQ _),EU]
  rw[e]
  exact⟨.int _,H,I.kept λb o e=>LSm.kept_iter hk b o e,⟨_,rfl⟩,q⟩
structure nt(K:Frag)(x qual:Str)(st:Stmt)(f:Addr)(fd:FuncData)(d:Value):Prop where
 ex:∃(oc:Value) (od:Option Addr) (T:Addr) (kV doc pm:Value) (an:Option Addr) (aF ct:Value) (je:Array (Option Value)),
  fd=fnOf x qual (qz st) (jI st) (aN st) (.ref T) kV doc pm an aF ct/\K.lookup f=some ⟨oc,od,.func fd,je⟩/\codeIn K aF qual=true/\
  ∃(yB:Option Addr) (n:Nat) (sj:Array (Option Value)),K.lookup T=some ⟨.type "tuple",yB,.seq #[d] n,sj⟩
 kp:keepIn K (.ref f)=true
section
variable{P:Program}{w:World}{K:Frag}{mg:Str->Option Value}{base:Heap}
def nt.ok{N:List Str}{k:Nat}(F:nt K x qual st f fd d)(S:bu N ps (aN st))(len:∀vs H Q E,sp vs H Q E->vs.length=ps.length)
  (lM:∀(aF:Value) (A:Around) (outer:List Env) (s:Shared) (H:Hp) (vs:List V) (Q:VK) (E:XK),bT k (A.deeper (envOfC qual (aN st) s.heap.objs.size f aF))->sp vs H Q E->
   ∃t,eU (gX aS P w K mg base N qual (aN st) f aF A outer s H E).so (jI st) t/\t { nx:=λ_ H'=>Q .aw H',rt:=Q } (start N vs) H):aK P w K mg base aS (k+1) f fd ps sp:=by
 obtain⟨oc,od,T,kV,doc,pm,an,aF,ct,je,rfl,lk,gu,_⟩:=F.ex
 refine vF lk gu S len λA outer s H vs Q E hr iq=>?_
 obtain⟨t,h,q⟩:=lM aF A outer s H vs Q E hr iq
 exact⟨t,h.so,q⟩
def nt.binds(F:nt K x qual st f fd d)
  (h:∀(T:Addr) (kV doc pm:Value) (an:Option Addr) (aF ct:Value) (s:Shared) (us:List Value) (yB:Option Addr) (n:Nat) (sj:Array (Option Value)),s.heap.get? T=some ⟨.type "tuple",yB,.seq #[d] n,sj⟩->(us++ds).length=ps.length->
   BindsTo s (fnOf x qual (qz st) (jI st) (aN st) (.ref T) kV doc pm an aF ct) ⟨us,[]⟩ (ps.zip (us++ds))):Binds K fd ps ds:=by
 obtain⟨oc,od,T,kV,doc,pm,an,aF,ct,je,rfl,lk,gu,yB,n,sj,hT⟩:=F.ex
 intro s us KX hl
 exact h T kV doc pm an aF ct s us yB n sj (KX _ _ hT) hl
structure Mt(P:Program)(w:World)(K:Frag)(mg:Str->Option Value)(base:Heap)(C:Addr)(m:Str)(k:Nat)(sp:Sp)(cw:List V):Prop where
 cl:cS K C
 ex:∃(f:Addr) (fd:FuncData) (ps:List Str) (ds:List Value),Meth K C m f/\aK P w K mg base aS k f fd ps sp/\Binds K fd ps ds/\Vals cw ds
structure Nw(P:Program)(w:World)(K:Frag)(mg:Str->Option Value)(base:Heap)(x:Str)(C:Addr)(k:Nat)(sp:Sp):Prop where
 ex:∃(f:Addr) (fd:FuncData) (ps:List Str),Mk K C f/\aK P w K mg base aS k f fd ps sp/\Binds K fd ps []/\mg x=some (.ref C)
end
section
variable{X:Cx}{C:Addr}{x m:Str}{p pos apos:Pos}{e o:Expr}{es:List Expr}{t:TA}{ta:TE}{sp:Sp}{k:Nat}{cw:List V}{pl:Sem Bool}
theorem kj(M:Mt X.prog X.w X.K X.mg X.base C m k sp cw)(hr:bT l X.A)(he:PE X o ta)(ha:PA X (e::es) t)(hle:k<=l:=by first | decide | lia)
  (d9:starEach (e::es) X.env=(false,eval e X.env)::starEach es X.env:=by rfl) (aL:(backTo pos (starEach es X.env)).any (·.1)=false:=by rfl)
  (ht:eval (.Call (.Attribute o m apos) (e::es) [] pos) X.env=(do
   let ov<-eval o X.env
   standAt apos.atName
   let (f,first)<-holding [ov] (getMethod ov m pl)
   callWith pos f first (backTo pos (starEach (e::es) X.env)) (backToKw pos (keywordEach [] X.env))):=by rfl):PE X (.Call (.Attribute o m apos) (e::es) [] pos) (Bu C m sp cw E0 ta t):=by
 obtain⟨f,fd,ps,ds,hm,G,hb,hd⟩:=M.ex
 exact Vm he M.cl hm G (hr.mono hle) hb hd yh ha d9 aL ht
theorem vQ(M:Mt X.prog X.w X.K X.mg X.base C m k sp cw)(hr:bT l X.A)(he:PE X o ta)(hle:k<=l:=by first | decide | lia)
  (ht:eval (.Call (.Attribute o m apos) [] [] pos) X.env=(do
   let ov<-eval o X.env
   standAt apos.atName
   let (f,first)<-holding [ov] (getMethod ov m pl)
   callWith pos f first (backTo pos (starEach [] X.env)) (backToKw pos (keywordEach [] X.env))):=by rfl):PE X (.Call (.Attribute o m apos) [] [] pos) (Bu C m sp cw E0 ta sO):=by
 obtain⟨f,fd,ps,ds,hm,G,hb,hd⟩:=M.ex
 exact Vn he M.cl hm G (hr.mono hle) hb hd yh ht
theorem XB(N:Nw X.prog X.w X.K X.mg X.base x C k sp)(hr:bT l X.A)(hle:k+1<=l:=by first | decide | lia)(hg:Gl X x:=by rfl)(cU:(x==("__debug__":Str))=false:=by decide):PE X (.Call (.Name x p) [] [] pos) (Bv C sp [] E0 sO):=by
 obtain⟨f,fd,ps,M,G,hb,hm⟩:=N.ex
 exact Vp M G (hr.mono hle) hg hm hb .nil yh cU
end
section
variable{X:Cx}{K:Frag}{o e:Expr}{es:List Expr}{to:TE}{t:TA}{name:Str}{apos cZ pos:Pos}{T id:String}
def XD{rr:Frag->V->List V->Hp->VK->Prop}(hK:X.K=K)(pa:PlainAttrs T)(slot:Slot T name id)(FT:typeOf (.builtin id)=pure (.type "method_descriptor"))(hm:BC X id (rr X.K))(ho:PE X o to)(ha:PA X (e::es) t)
  (sP:attributeBase o name X.env (eval o X.env)=eval o X.env:=by rfl)
  (vI:((backTo cZ (starEach (e::es) X.env)).all (λx=>!x.1)&&(backToKw cZ (keywordEach [] X.env)).all (λx=>x.1.isSome)
   && decide ((e::es).length+([]:List Keyword).length+(if ([]:List Keyword).isEmpty then 0 else 1)<30))=true:=by rfl)
  (FU:(apos.endLine==cZ.line)=true:=by rfl) (hs:starEach (e::es) X.env=(false,eval e X.env)::starEach es X.env:=by rfl) (FV:(backTo cZ (starEach es X.env)).any (·.1)=false:=by rfl) :
  PE X (.Call (.Attribute o name apos) (e::es) [] cZ) (MM K T (rr K) to t):=by
 subst hK
 exact gE pa slot FT hm ho ha sP vI FU hs FV
def yC{a i:Expr}{ta ti:TE}(hK:X.K=K)(hr:x9 X (rr X.K))(ha:PE X a ta)(hi:PE X i ti)(hp:MH i:=by exact λ_ _=>rfl):PE X (.Subscript a i pos) (mY (rr K) ta ti):=by
 subst hK
 exact bG hr ha hi hp
end
section
variable{X:Cx}{K:Frag}{a b:Expr}{ta tb:TE}{pos:Pos}
def XF{op:CmpOp}(hK:X.K=K)(hr:dC X (compareOp op) (rr X.K))(ha:PE X a ta)(hb:PE X b tb)(hm:behindInMarks op b=false:=by first | exact FA _ | rfl):PT X (.Compare a [op] [b] pos) (xV (mY (rr K) ta tb)):=by
 subst hK
 exact cK hr ha hb hm
end
noncomputable def gG(a b:Str):Bool := !ltCps b.cps.toList a.cps.toList
def tE{a:Str}:gG a b=true↔a.cps.toList<=b.cps.toList:=by
 unfold gG
 rw[ltCps_eq]
 by_cases h:b.cps.toList<a.cps.toList
 .rw[aU h]
  exact⟨(λz=>nomatch z),(λz=>absurd h (List.not_lt.mpr z))⟩
 .rw[bf h]
  exact⟨λ_=>List.not_lt.mp h,λ_=>rfl⟩
def XG{a:Str}(h1:gG a b=true)(h2:gG b a=true):a=b:=by
 have e:=List.le_antisymm (tE.mp h1) (tE.mp h2)
 cases a;cases b
 exact eX Str.mk (Array.toList_inj.mp e)
def NC{a c:Str}(h1:gG a b=true)(h2:gG b c=true):gG a c=true:=tE.mpr (List.le_trans (tE.mp h1) (tE.mp h2))
def XH(a b:Str):(gG a b||gG b a)=true:=by
 rcases List.le_total a.cps.toList b.cps.toList with h | h
 .rw[tE.mpr h,Bool.true_or]
 .rw[tE.mpr h,i7]
noncomputable def dg(l:List Str):List Str:=l.mergeSort gG
def km(l:List Str):(dg l).Perm l:=List.mergeSort_perm l gG
def ND(l:List Str):(dg l).Pairwise (λa b=>gG a b=true):=List.pairwise_mergeSort (le:=gG) (λ_ _ _ h1 h2=>NC h1 h2) XH l
theorem NF:∀{p:Str}{l:List Str},risingS p l=true->(p::l).Pairwise (λa b=>gG a b=true)
 |p,[],_=>List.pairwise_singleton _ _
 |p,x::r,h=>by
  unfold risingS at h
  rw[d7] at h
  have ih:=NF h.2
  have h1:gG p x=true:=h.1
  refine List.Pairwise.cons (λy hy=>?_) ih
  rcases cx.mp hy with z | z
  .rw[z];exact h1
  .exact NC h1 ((List.pairwise_cons.mp ih).1 y z)
def NG{l:List Str}(h:sortedS l=true):l.Pairwise (λa b=>gG a b=true):=by
 cases l with
 |nil=>exact List.Pairwise.nil
 |cons p r=>exact NF h
def Gn{l m:List Str}(hp:l.Perm m)(h:l.Pairwise (λa b=>gG a b=true)):dg m=l:=
 (List.Perm.eq_of_pairwise (le:=λa b=>gG a b=true) (λ_ _ _ _=>XG) h (ND m) (hp.trans (km m).symm)).symm
def NH:∀{us:List Value},StrsAre us ss->Vals (ss.map V.str) us:=by
 induction ss with
 |nil=>intro us h;cases h;exact .nil
 |cons x r ih=>
  intro us h
  cases h with
  |cons _ t q=>exact .cons ⟨t,rfl⟩ (ih q)
section
variable{X:Cx}
theorem XJ:gV X (.builtin "sorted") (λxs H Q=>∃(a:Addr) (ss:List Str),xs=[.ref a]/\aq X.K H a (ss.map V.str)/\ss.length<64/\∀p,H p=none->Q (.ref p) (upd H p (.lst ((dg ss).map V.str)))):=by
 intro pins s O H xs us Q I r h
 obtain⟨l,ss,rfl,hq,dW,q⟩:=h
 obtain⟨u,rfl,ru⟩:=vals1 r
 cases ru
 obtain⟨its,rv,pl,hz⟩:=I.list hq
 have hS:StrsAre its ss:=Gf rv
 have hlen:its.length=ss.length:=by rw[<-rv.length,av]
 refine sorted_strs pl.isList hS (by lia) λout Gp a1 a2 a3=>?_
 obtain⟨e,he⟩:=sortedAll_at s.heap its out
 have e1:dg ss=Gp:=Gn a2 (NG a3)
 have hf:H (s.heap.objs.size+1)=none:=I.ar.fresh (fF _)
 refine⟨.ref (s.heap.objs.size+1),_,I.laid (a:=s.heap.objs.size+1) (o := .lst ((dg ss).map V.str)) (t':=s.toks) (λb o z=>sortedAll_old z) (fF _) ?_,rfl,q _ hf⟩
 have vJ:(dg ss).length=ss.length:=(km ss).length_eq
 have XM:(64:Nat)<=sizeLine:=by decide
 refine⟨by rw[av];lia,out.toList,e,?_,by simpa using he⟩
 rw[e1]
 exact NH a1
theorem NI:∀{ss:List Str}{vs:List Value},vs.length=ss.length->(∀(j:Nat) (v:Value),vs[j]? = some v->∃x t,ss[j]? = some x/\v = .str x t)->StrsAre vs ss
 |[],[],_,_=>.nil
 |[],_::_,h,_=>by simp at h
 |_::_,[],h,_=>by simp at h
 |x::r,v::t,h,f=>by
  obtain⟨y,tk,e1,e2⟩:=f 0 v rfl
  simp at e1
  subst e1 e2
  exact .cons _ _ (NI (by simpa using h) λj u hu=>by simpa using f (j+1) u (by simpa using hu))
noncomputable def aJ(kvs:List (Key×V)):List Str:=kvs.map λq=>match q.1 with | .inr x=>x | .inl _=>⟨#[]⟩
def lZ(kvs:List (Key×V)):Prop := ∀q∈kvs,∃x,q.1=Sum.inr x
theorem XN(hc:X.calm=true):gV X (.builtin "sorted") (λxs H Q=>∃(a:Addr) (kvs:List (Key×V)),xs=[.ref a]/\H a=some (.dK kvs)/\lZ kvs/\kvs.length<64/\∀p,H p=none->Q (.ref p) (upd H p (.lst ((dg (aJ kvs)).map V.str)))):=by
 intro pins s O H xs us Q I r h
 obtain⟨d,kvs,rfl,hd,hk,dW,q⟩:=h
 obtain⟨u,rfl,ru⟩:=vals1 r
 cases ru
 have XM:(64:Nat)<=sizeLine:=by decide
 obtain⟨hz,hS,vs,rel,dd⟩:kvs.length<=sizeLine/\(d==sysModules)=false/\∃vs,KV kvs vs/\s.heap.DictOf (d8 X.prog X.w) d vs:=I.ar d _ hd
 obtain⟨ep,oO⟩:=dd.dictAt
 have yD:vs.length=kvs.length:=(gR rel).symm
 have hh:X.A.handled=none:=I.ok.hd hc
 refine Calls.call_function_entry kind_sorted plain_sorted entry_sorted (args_sorted1 _) ?_
 unfold Builtin.«sorted»
 refine ah (m:=checkCount "sorted" 1 1 _) (aE ?_)
 refine ah (PySem.W.kdu_collect (A:=X.A.in1) (PySem.W.kdl_dict (knd:=d8 X.prog X.w) (kvs:=vs) (ep:=ep) hS) hh oO (by lia) λh' tk acc XO NJ=>?_)
 have hl:acc.toList.length=kvs.length:=by rw[uX,<-yD];exact NJ.1
 have Gq:StrsAre acc.toList (aJ kvs):=by
  refine NI (by rw[hl];unfold aJ;rw[av]) λj v e=>?_
  obtain⟨k,x,hx,tF⟩:=NJ.2 j v (by rw[<-Array.getElem?_toList];exact e)
  obtain⟨y,hy,e1,_⟩:=Paired.get rel hx
  obtain⟨z,NK⟩:=hk y (bM hy)
  have e1:y.1=k:=e1
  rw[NK] at e1
  subst e1
  rcases lC (show oa (Sum.inr z) v=true from tF) with ⟨i,t,e2,e3⟩ | ⟨x',t,e2,e3⟩
  .cases e2
  .cases e2
   refine⟨z,t,?_,e3⟩
   unfold aJ
   rw[bF,hy]
   simp[NK]
 refine ah (wpAny_newList ?_ (by rw[hl];lia))
 have xP:(h'.push (seqObj "list" acc.toList.toArray 0)).get? h'.objs.size=some (seqObj "list" acc.toList.toArray 0):=cQ _ rfl
 refine ah (fE (qg slot_list_sort ⟨_,xP,rfl⟩ entry_list_sort (list_sort_treeK strKind_oneLt xP Gq.keysOf (λv₁ v₂ rest e=>keyKind_strs (by rw[<-e];exact Gq)) (by lia) λeY hp hs=>⟨_,rfl,?_⟩) (args_list_sort _)))
 refine aE ⟨_,rfl,?_⟩
 obtain⟨Gp,a1,a2,a3⟩:=sorted_out_str Gq hp hs
 obtain⟨e,he⟩:=sortedHeap_at (out:=(arrOf eY).map (·.2)) xP
 have e1:dg (aJ kvs)=Gp:=Gn a2 (NG a3)
 have I1:Inv X pins O H { s with heap:=h',toks:=tk }:=I.kept XO
 have hf:H h'.objs.size=none:=I1.ar.fresh (aQ _)
 refine⟨.ref h'.objs.size,_,I1.laid (a:=h'.objs.size) (o := .lst ((dg (aJ kvs)).map V.str)) (t':=tk) (λb o z=>?_) (aQ _) ?_,rfl,q _ hf⟩
 .have z:h'.get? b=some o:=z
  have hb:b<h'.objs.size:=bx z
  rw[sortedHeap_old (bV hb) (by rw[A4];exact rV hb),Heap.get?_push_ne _ _ _ (bV hb)]
  exact z
 .have vJ:(dg (aJ kvs)).length=kvs.length:=by rw[(km _).length_eq];unfold aJ;rw[av]
  refine⟨by rw[av];lia,((arrOf eY).map (·.2)).toList,e,?_,by rw[Array.toArray_toList];exact he⟩
  rw[e1]
  exact NH a1
end
section
variable{X:Cx}{pins:List (Addr×Obj)}{O:St}{H:Hp}{s:Shared}
def Inv.NL{o u:HO}(I:Inv X pins O H s)(ha:H a=some o)(new:dk X.prog X.w (upd H a u) s.heap a u)(h0:∀ob v,X.H₀ a≠some (.eC ob v))(h1:∀xs,X.H₀ a≠some (.tup xs))(h2:∀ps,X.H₀ a≠some (.oh ps))
  (n1:∀xs,o ≠ .tup xs) (n2:∀y,o ≠ .own y):Inv X pins O (upd H a u) s:=by
 have no:∀b,H b=none->upd H a u b=none:=λb hb=>by rw[ak (λz=>by rw[z,ha] at hb;cases hb)];exact hb
 refine⟨I.ok,I.os,I.bare,⟨I.base.keep,I.base.slot,λb ob e n hx=>no b (I.base.free b ob e n hx),I.base.there,λb xs e=>?_,λb ob v e=>?_,λb ps e=>?_⟩,I.loc,I.cell,no _ I.free,λx c e=>no c (I.dm x c e),λp hp=>?_,λb v q=>?_,I.len⟩
 .rw[ak (λz=>h1 xs (by rw[<-z];exact e))];exact I.base.fJ b xs e
 .rw[ak (λz=>h0 ob v (by rw[<-z];exact e))];exact I.base.jb b ob v e
 .rw[ak (λz=>h2 ps (by rw[<-z];exact e))];exact I.base.jD b ps e
 .obtain⟨p1,p2,p3,p4,p5⟩:=I.pin p hp
  exact⟨p1,no _ p2,p3,p4,p5⟩
 .by_cases hb:b=a
  .subst hb
   rw[ao] at q
   cases q
   exact new
  .rw[ak hb] at q
   refine(I.ar b v q).ja (λc w _ e=>e) (λc e=>?_) λc xs e=>?_
   .rw[ak (λz=>n2 b (by rw[z,ha] at e;exact dh e))];exact e
   .rw[ak (λz=>n1 xs (by rw[z,ha] at e;exact dh e))];exact e
end
noncomputable def Gr(a:Addr)(ob:Obj)(kvs:List (Key×V)):It:=
 ⟨λi H=>H a=some (.eC ob (.dK kvs))/\i<kvs.length,λi H x H'=>H'=H/\∃q,kvs[i]? = some q/\x=kV q.1,λi H=>H a=some (.eC ob (.dK kvs))/\i=kvs.length⟩
def XQ{k:Key}{v:Value}(h:oa k v=true):RelV (kV k) v:=by
 rcases lC h with ⟨i,t,rfl,rfl⟩ | ⟨x,t,rfl,rfl⟩
 .exact⟨t,rfl⟩
 .exact⟨t,rfl⟩
theorem XS{it:Addr}{vs:List (Key×Value)}{ep:Nat}(aT:a≠it)(rel:KV kvs vs)(hD:∀h:Heap,h.get? a=some ob->h.DictAt (d8 P w) a vs ep) :
  Turn P w K tg (Gr a ob kvs) [it] it (λi h=>h.IsKeyIter it a i vs.length ep) where
 mem:=by simp
 obj:=λi h st b hb=>by
  obtain rfl:b=it:=by simpa using hb
  obtain⟨o,e,c,d⟩:=st
  exact⟨o,e,λv z=>by rw[d] at z;cases z⟩
 keep:=λi h h' st k=>st.at λo e=>k it (by simp) o e
 item:=by
  intro X hP hw hK hc i pins s O H E I hf st hg
  subst hP hw hK
  obtain⟨f0,f1,f2,f3,f4,f5⟩:=hf it (by simp)
  obtain⟨ha,hi⟩:=hg
  have W:=Walks.dictKeys (knd:=d8 X.prog X.w) (A:=X.A) (I.ok.hd hc) it a aT vs ep
  have yD:kvs.length=vs.length:=gR rel
  refine W.item i s _ _ (by lia) ⟨st,hD _ (I.ar a _ ha).1⟩ λv h' tk hv eY kk=>?_
  obtain⟨k,x,hx,hk⟩:=hv
  obtain⟨q,hq,e1,_⟩:=Paired.get rel hx
  have I1:Inv X pins O H { s with heap:=h',toks:=tk }:=I.turned (λb o hb e=>kk b o (by simpa using hb) e) f0 f1 f3 f4 f5
  obtain⟨o,e4,e5,e6⟩:=id eY.1
  have hk:oa k v=true:=hk
  refine⟨_,rfl,vw (s:={ s with heap:=h',toks:=tk }) e4 e5 e6 (by decide) ⟨kV k,H,I1,XQ hk,⟨rfl,q,hq,by rw[show q.1=k from e1]⟩,eY.1,λb hb=>(hf b hb).1⟩⟩
 done:=by
  intro X hP hw hK hc i pins s O H E I hf st hg
  subst hP hw hK
  obtain⟨f0,f1,f2,f3,f4,f5⟩:=hf it (by simp)
  obtain⟨ha,hi⟩:=hg
  have W:=Walks.dictKeys (knd:=d8 X.prog X.w) (A:=X.A) (I.ok.hd hc) it a aT vs ep
  have yD:kvs.length=vs.length:=gR rel
  have hi:i=vs.length:=by lia
  subst hi
  exact W.done s _ _ ⟨st,hD _ (I.ar a _ ha).1⟩ λh' tk kk=>⟨rfl,I.turned (λb o hb e=>kk b o (by simpa using hb) e) f0 f1 f3 f4 f5⟩
 self:=λ_ _ _ _ _ st h=>wpAny_pyIter_keyiter st h
def XT(tl:TE):TI:=λO H R=>tl O H λx H1=>∃a ob kvs,x = .ref a/\H1 a=some (.eC ob (.dK kvs))/\R (Gr a ob kvs) H1
def XU{l:Expr}{tl:TE}(hl:PE X l tl):PI X tg l (XT tl):=by
 intro pins s O H R I h
 refine aD (hl pins s O H _ I h) λv s1 ⟨x,H1,I1,r1,q1⟩=>?_
 obtain⟨a,ob,kvs,rfl,ha,q⟩:=q1
 cases r1
 obtain⟨nv,hz,hS,vs,rel,dd⟩:=I1.ar a _ ha
 obtain⟨ep,oO⟩:=dd.dictAt
 have aY:a<s1.heap.objs.size:=bx nv
 refine wpAny_pyIter_dict hS oO ?_
 refine⟨s1.heap.objs.size,[s1.heap.objs.size],_,_,H1,rfl,I1.kept (t':=s1.toks) λb o e=>bq _ e,XS (bV aY) rel (λh' e=>?_),⟨_,cQ _ rfl,rfl,rfl⟩,λb hb=>?_,q⟩
 .exact oO.at' λo e'=>by rw[nv] at e';cases e';exact e
 .obtain rfl:b=s1.heap.objs.size:=by simpa using hb
  exact I1.j9 (aQ _) I1.fresh
def XW:ni (Gr a ob kvs) (λH=>H a=some (.eC ob (.dK kvs))) (kvs.map λq=>kV q.1):=
 ⟨λi H h hi=>⟨h,by simpa using hi⟩,λi H x H' h _ y=>⟨y.1,by
  obtain⟨_,q,e1,e2⟩:=y
  rw[bF,e1,e2]
  rfl⟩,λH h=>⟨h,by simp⟩⟩
def XX(t:TS):TS:=λD O H=>∃a kvs,H a=some (.dK kvs)/\∀ob,t { nx:=λO' H'=>H' a=some (.eC ob (.dK kvs))/\D.nx O' (upd H' a (.dK kvs)),bk:=λ_ _=>False,ct:=λ_ _=>False,rt:=λ_ _=>False } O (upd H a (.eC ob (.dK kvs)))
def XY{t:TS}(h:PS X st t):PS X st (XX t):=by
 intro pins s O H D I hq
 obtain⟨a,kvs,ha,hq⟩:=hq
 have ok:=I.ar a _ ha
 obtain⟨z,y,vs,r,ob,es,ep,nv,rest⟩:=id ok
 have h0:∀ob v,X.H₀ a≠some (.eC ob v):=λob v e=>by have:=I.base.jb a ob v e;rw[ha] at this;cases this
 have h1:∀xs,X.H₀ a≠some (.tup xs):=λxs e=>by have:=I.base.fJ a xs e;rw[ha] at this;cases this
 have h2:∀ps,X.H₀ a≠some (.oh ps):=λps e=>by obtain⟨m,this⟩:=I.base.jD a ps e;rw[ha] at this;cases this
 have I1:Inv X pins O (upd H a (.eC ob (.dK kvs))) s:=I.NL ha ⟨nv,ok⟩ h0 h1 h2 (λ_ z=>by cases z) (λ_ z=>by cases z)
 refine aD (h pins s O _ _ I1 (hq ob)) λf s1 hs=>?_
 cases f with
 |next=>
  obtain⟨O',H1,J,e1,q⟩:=hs
  exact⟨O',upd H1 a (.dK kvs),J.NL e1 (J.ar a _ e1).2 h0 h1 h2 (λ_ z=>by cases z) (λ_ z=>by cases z),q⟩
 |brk=>obtain⟨_,_,_,q⟩:=hs;exact q.elim
 |cont=>obtain⟨_,_,_,q⟩:=hs;exact q.elim
 |ret u=>obtain⟨_,_,_,_,_,q⟩:=hs;exact q.elim
structure qE(z ti to i j:Addr)(f g:List Addr):Prop where
 a1:ti≠z
 a2:to≠z
 a3:i≠z
 a4:j≠z
 a6:to≠i
 a7:to≠j
 a8:i≠j
 b1:z∉f
 b2:to∉f
 b3:j∉f
 c1:z∉g
 c2:to∉g
 c3:i∉g
section
variable{prog:Program}{w:World}{A:Around}{E:Value->Shared->Prop}{s:Shared}{z ti to i j:Addr}{f g:List Addr}{n m k:Nat}{P R:Nat->Value->Prop}{S T:Nat->Heap->Prop}{a b:Value}
def mv{l:List Addr}(fr:∀i h h',U i h->(∀b∈l,∀o,h.get? b=some o->h'.get? b=some o)->U i h')(hy:y∉l)(hs:Heap.SameBut y h h')(u:U q h):U q h':=
 fr q h h' u λb hb o e=>hs.extBut b o (λx=>hy (x ▸ hb)) e
def XZ(D1:Draws prog w A i f n P S)(D2:Draws prog w A j g m R T)(Z:qE z ti to i j f g)(hz:IsZip s.heap z ti to .none)(ht:IsPair s.heap ti (.ref i) (.ref j))(ho:IsPair s.heap to a b)
  (s1:S k s.heap) (s2:T k s.heap) (l1:k<n) (l2:k<m)
  (fin:∀h' tk x y,P k x->R k y->IsZip h' z ti to (rawInt s.heap.objs.size)->IsPair h' to x y->S (k+1) h'->T (k+1) h'->IsPair h' s.heap.objs.size x y->h'.objs.size=s.heap.objs.size+1->
   (∀c o,c≠z->c≠to->c≠i->c≠j->s.heap.get? c=some o->h'.get? c=some o)->Q (.ref s.heap.objs.size) { s with heap:=h',toks:=tk }) :
  wpAny (model prog w) A (Builtin.«zip.__next__» ⟨[.ref z],[]⟩) (λr s' =>∃v,r = .done (.ret v)/\Q v s') E s:=by
 show wpAny _ _ (field (Value.ref z) 2 >>= _) _ _ s
 refine ah (eK (i:=2) hz rfl (x := .bool false) rfl ?_)
 show wpAny _ _ (field (Value.ref z) 3 >>= _) _ _ s
 refine ah (eK (i:=3) hz rfl (x := .ref ti) rfl (ah (n5 ht rfl ?_)))
 show wpAny _ _ (Builtin.SmallTypes.ownedTupleIsFree (Value.ref z) >>= _) _ _ s
 refine ah ?_
 unfold Builtin.SmallTypes.ownedTupleIsFree
 refine ah (eK (i:=0) hz rfl (x := .none) rfl (aE ?_))
 simp only[j4]
 refine ah (vj (ah (eK (i:=4) hz rfl (x := .ref to) rfl (ah (A5 hz (by simp) λg1 y1 u1=>?_)))))
 have y1:IsZip g1 z ti to .ellipsis:=y1
 refine ah ?_
 simp only[List.zipIdx_cons,List.zipIdx_nil,List.forIn_cons,List.forIn_nil]
 refine ah (ah (EV ?_))
 show wpAny _ _ (Builtin.SmallTypes.nextOf (Value.ref i) >>= _) _ _ _
 refine ah (D1.item k { s with heap:=g1 } _ _ l1 (mv D1.frame Z.b1 u1 s1) λx g2 jK px NM u2=>aE ?_)
 have o2:IsPair g2 to a b:=u2.extBut _ _ Z.a6 (u1.extBut _ _ Z.a2 ho)
 refine ah (n5 o2 rfl (ah (TH (s:={ s with heap:=g2,toks:=jK }) o2 λg3 o3 u3=>?_)))
 have o3:IsPair g3 to x b:=o3
 refine ah (xF (aE ?_))
 refine ah (ah (EV ?_))
 show wpAny _ _ (Builtin.SmallTypes.nextOf (Value.ref j) >>= _) _ _ _
 refine ah (D2.item k { s with heap:=g3,toks:=jK } _ _ l2 (mv D2.frame Z.c2 u3 (mv D2.frame Z.c3 u2 (mv D2.frame Z.c1 u1 s2))) λy g4 yE py yF u4=>aE ?_)
 have o4:IsPair g4 to x b:=u4.extBut _ _ Z.a7 o3
 refine ah (n5 o4 rfl (ah (TH (s:={ s with heap:=g4,toks:=yE }) o4 λg5 o5 u5=>?_)))
 have o5:IsPair g5 to x y:=o5
 refine ah (xF (aE (aE ?_)))
 refine ah (n5 o5 rfl (ah (wpAny_newTuple ?_)))
 have sz:g5.objs.size=s.heap.objs.size:=by rw[u5.1,u4.1,u3.1,u2.1,u1.1]
 have y5:IsZip g5 z ti to .ellipsis:=u5.extBut _ _ (aP Z.a2) (u4.extBut _ _ (aP Z.a4) (u3.extBut _ _ (aP Z.a2) (u2.extBut _ _ (aP Z.a3) y1)))
 have zl:z<g5.objs.size:=bx y5
 have kp:∀c o,c≠z->c≠to->c≠i->c≠j->s.heap.get? c=some o->g5.get? c=some o:=λc o d1 d2 d3 d4 q=>
  u5.extBut _ _ d2 (u4.extBut _ _ d4 (u3.extBut _ _ d2 (u2.extBut _ _ d3 (u1.extBut _ _ d1 q))))
 have r1:S (k+1) g5:=mv D1.frame Z.b2 u5 (mv D1.frame Z.b3 u4 (mv D1.frame Z.b2 u3 NM))
 have r2:T (k+1) g5:=mv D2.frame Z.c2 u5 yF
 show wpAny _ _ (Builtin.SmallTypes.ownedTupleHandOut (Value.ref z) (.ref g5.objs.size) >>= _) _ _ _
 refine ah ?_
 unfold Builtin.SmallTypes.ownedTupleHandOut
 have y6:IsZip (g5.push { cls := .type "tuple",data := .seq #[x,y] }) z ti to .ellipsis:=bq _ y5
 refine ah (A5 (s:={ s with heap:=g5.push { cls := .type "tuple",data := .seq #[x,y] },toks:=yE }) y6 (by simp) λg7 y7 u7=>?_)
 have y7:IsZip g7 z ti to (rawInt g5.objs.size):=y7
 refine A5 (s:={ s with heap:=g7,toks:=yE }) y7 (by simp) λg8 y8 u8=>?_
 have y8:IsZip g8 z ti to (rawInt g5.objs.size):=y8
 have up:∀c o,c≠z->g5.get? c=some o->g8.get? c=some o:=λc o d q=>u8.extBut _ _ d (u7.extBut _ _ d (bq _ q))
 have t8:IsPair g8 g5.objs.size x y:=u8.extBut _ _ (uY zl) (u7.extBut _ _ (uY zl) (cQ _ rfl))
 have z8:g8.objs.size=g5.objs.size+1:=by rw[u8.1,u7.1,j3]
 have w1:S (k+1) g8:=D1.frame _ g5 g8 r1 λc hc o q=>up c o (λv=>Z.b1 (v ▸ hc)) q
 have w2:T (k+1) g8:=D2.frame _ g5 g8 r2 λc hc o q=>up c o (λv=>Z.c1 (v ▸ hc)) q
 refine aE ⟨_,rfl,?_⟩
 show Q (.ref g5.objs.size) { s with heap:=g8,toks:=yE }
 rw[sz] at y8 t8 z8 ⊢
 exact fin g8 yE x y px py y8 (up _ _ Z.a2 o5) w1 w2 t8 z8 λc o d1 d2 d3 d4 q=>up c o d1 (kp c o d1 d2 d3 d4 q)
def X0{Q:Fin->Shared->Prop}(D1:Draws prog w A i f n P S)(D2:Draws prog w A j g m R T)(Z:qE z ti to i j f g)(hz:IsZip s.heap z ti to .none)(ht:IsPair s.heap ti (.ref i) (.ref j))(ho:IsPair s.heap to a b)
  (s1:S k s.heap) (s2:T k s.heap) (l:k=n\/(k<n/\k=m))
  (fin:∀h' tk e,(∀c o,c≠z->c≠to->c≠i->c≠j->s.heap.get? c=some o->h'.get? c=some o)->(∃o,h'.get? e=some o/\o.cls = .type "StopIteration")->E (.ref e) { s with heap:=h',toks:=tk }) :
  wpAny (model prog w) A (Builtin.«zip.__next__» ⟨[.ref z],[]⟩) Q E s:=by
 show wpAny _ _ (field (Value.ref z) 2 >>= _) _ _ s
 refine ah (eK (i:=2) hz rfl (x := .bool false) rfl ?_)
 show wpAny _ _ (field (Value.ref z) 3 >>= _) _ _ s
 refine ah (eK (i:=3) hz rfl (x := .ref ti) rfl (ah (n5 ht rfl ?_)))
 show wpAny _ _ (Builtin.SmallTypes.ownedTupleIsFree (Value.ref z) >>= _) _ _ s
 refine ah ?_
 unfold Builtin.SmallTypes.ownedTupleIsFree
 refine ah (eK (i:=0) hz rfl (x := .none) rfl (aE ?_))
 simp only[j4]
 refine ah (vj (ah (eK (i:=4) hz rfl (x := .ref to) rfl (ah (A5 hz (by simp) λg1 y1 u1=>?_)))))
 have y1:IsZip g1 z ti to .ellipsis:=y1
 refine ah ?_
 simp only[List.zipIdx_cons,List.zipIdx_nil,List.forIn_cons,List.forIn_nil]
 refine ah (ah (EV ?_))
 show wpAny _ _ (Builtin.SmallTypes.nextOf (Value.ref i) >>= _) _ _ _
 rcases l with l | ⟨l,l'⟩
 .subst l
  refine ah (D1.done { s with heap:=g1 } _ _ (mv D1.frame Z.b1 u1 s1) λg2 e u2 he=>?_)
  obtain⟨oe,e1,e2⟩:=he
  have y2:IsZip g2 z ti to .ellipsis:=u2 _ _ (aP Z.a3) y1
  have ez:e≠z:=λv=>by
   subst v
   rw[y2] at e1
   cases e1
   simp at e2
  refine A5 (s:={ s with heap:=g2 }) y2 (by simp) λg3 _ u3=>fin g3 s.toks e (λc o d1 _ d3 _ q=>u3.extBut _ _ d1 (u2 _ _ d3 (u1.extBut _ _ d1 q))) ⟨oe,u3.extBut _ _ ez e1,e2⟩
 .subst l'
  refine ah (D1.item k { s with heap:=g1 } _ _ l (mv D1.frame Z.b1 u1 s1) λx g2 jK px NM u2=>aE ?_)
  have o2:IsPair g2 to a b:=u2.extBut _ _ Z.a6 (u1.extBut _ _ Z.a2 ho)
  refine ah (n5 o2 rfl (ah (TH (s:={ s with heap:=g2,toks:=jK }) o2 λg3 o3 u3=>?_)))
  refine ah (xF (aE ?_))
  refine ah (ah (EV ?_))
  show wpAny _ _ (Builtin.SmallTypes.nextOf (Value.ref j) >>= _) _ _ _
  refine ah (D2.done { s with heap:=g3,toks:=jK } _ _ (mv D2.frame Z.c2 u3 (mv D2.frame Z.c3 u2 (mv D2.frame Z.c1 u1 s2))) λg4 e u4 he=>?_)
  obtain⟨oe,e1,e2⟩:=he
  have y4:IsZip g4 z ti to .ellipsis:=u4 _ _ (aP Z.a4) (u3.extBut _ _ (aP Z.a2) (u2.extBut _ _ (aP Z.a3) y1))
  have ez:e≠z:=λv=>by
   subst v
   rw[y4] at e1
   cases e1
   simp at e2
  refine A5 (s:={ s with heap:=g4,toks:=jK }) y4 (by simp) λg5 _ u5=>fin g5 jK e (λc o d1 d2 d3 d4 q=>u5.extBut _ _ d1 (u4 _ _ d4 (u3.extBut _ _ d2 (u2.extBut _ _ d3 (u1.extBut _ _ d1 q))))) ⟨oe,u5.extBut _ _ ez e1,e2⟩
def X1{Q:Option Value->Shared->Prop}(D1:Draws prog w A.in1 i f n P S)(D2:Draws prog w A.in1 j g m R T)(Z:qE z ti to i j f g)(hz:IsZip s.heap z ti to .none)(ht:IsPair s.heap ti (.ref i) (.ref j))(ho:IsPair s.heap to a b)
  (s1:S k s.heap) (s2:T k s.heap) (l1:k<n) (l2:k<m)
  (fin:∀h' tk x y,P k x->R k y->IsZip h' z ti to (rawInt s.heap.objs.size)->IsPair h' to x y->S (k+1) h'->T (k+1) h'->IsPair h' s.heap.objs.size x y->h'.objs.size=s.heap.objs.size+1->
   (∀c o,c≠z->c≠to->c≠i->c≠j->s.heap.get? c=some o->h'.get? c=some o)->Q (some (.ref s.heap.objs.size)) { s with heap:=h',toks:=tk }) :
  wpAny (model prog w) A (pyNext (.ref z)) Q E s:=by
 have tz:s.TypeIs (.ref z) "zip":=⟨_,hz,rfl⟩
 unfold pyNext
 refine ah (nZ (xE (name:=Str.ofString "__next__") tz LB (qg LB tz F.entry_zip_next
   (XZ D1 D2 Z hz ht ho s1 s2 l1 l2 λh' tk x y p1 p2 p3 p4 p5 p6 p7 p8 p9=>aE (fin h' tk x y p1 p2 p3 p4 p5 p6 p7 p8 p9)) (F.args_zip_next_1 _))))
def X2{Q:Option Value->Shared->Prop}(D1:Draws prog w A.in1 i f n P S)(D2:Draws prog w A.in1 j g m R T)(Z:qE z ti to i j f g)(hz:IsZip s.heap z ti to .none)(ht:IsPair s.heap ti (.ref i) (.ref j))(ho:IsPair s.heap to a b)
  (s1:S k s.heap) (s2:T k s.heap) (l:k=n\/(k<n/\k=m))
  (fin:∀h' tk,(∀c o,c≠z->c≠to->c≠i->c≠j->s.heap.get? c=some o->h'.get? c=some o)->Q none { s with heap:=h',toks:=tk }):wpAny (model prog w) A (pyNext (.ref z)) Q E s:=by
 have tz:s.TypeIs (.ref z) "zip":=⟨_,hz,rfl⟩
 unfold pyNext
 refine ah (nZ (xE (name:=Str.ofString "__next__") tz LB (qg LB tz F.entry_zip_next (X0 D1 D2 Z hz ht ho s1 s2 l λh' tk e kp he=>?_) (F.args_zip_next_1 _))))
 obtain⟨o,e1,e2⟩:=he
 exact ah (wpAny_isInstance (T:="StopIteration") (b:=true) ⟨o,e1,e2⟩ isSubtype_stop (aE (fin h' tk kp)))
noncomputable abbrev zA(h:Heap)(o1 o2:Obj):Heap:=(h.push o1).push o2
noncomputable abbrev zB(h:Heap)(o1 o2:Obj):Heap:=(zA h o1 o2).push { cls := .type "tuple",data := .seq #[.ref h.objs.size,.ref (h.push o1).objs.size] }
noncomputable abbrev zC(h:Heap)(o1 o2:Obj):Heap:=(zB h o1 o2).push { cls := .type "tuple",data := .seq #[.none,.none] }
noncomputable abbrev zD(h:Heap)(o1 o2:Obj):Heap:=(zC h o1 o2).push { cls := .type "zip",data := .fields #[.none,.bool false,.bool false,.ref (zA h o1 o2).objs.size,.ref (zB h o1 o2).objs.size] }
def X3(h1:∀(prog:Program) (w:World) (A:Around) (E:Value->Shared->Prop) (s:Shared) (Q:Value->Shared->Prop),K1 s->Q (.ref s.heap.objs.size) { s with heap:=s.heap.push o1 }->wpAny (model prog w) A (pyIter v1) Q E s)
  (h2:∀(prog:Program) (w:World) (A:Around) (E:Value->Shared->Prop) (s:Shared) (Q:Value->Shared->Prop),K2 s->Q (.ref s.heap.objs.size) { s with heap:=s.heap.push o2 }->wpAny (model prog w) A (pyIter v2) Q E s) :
  Meets (Builtin.«zip.__new__» ⟨[.type "zip",v1,v2],[]⟩) (λ_ R s=>K1 s/\K2 { s with heap:=s.heap.push o1 }/\R (.ok (.ret (.ref (zC s.heap o1 o2).objs.size))) { s with heap:=zD s.heap o1 o2 }):=
 .of_wp λprog w A R s h=>by
  obtain⟨hp,gg,dd,tk,os⟩:=s
  obtain⟨k1,k2,h⟩:=h
  have sz:=sub_zip
  have i1:=λ(E:Value->Shared->Prop) (A:Around) (Q:Value->Shared->Prop)=>h1 prog w A E ⟨hp,gg,dd,tk,os⟩ Q k1
  have i2:=λ(E:Value->Shared->Prop) (A:Around) (Q:Value->Shared->Prop)=>h2 prog w A E ⟨hp.push o1,gg,dd,tk,os⟩ Q k2
  wp_walk using i1 _ _ _,i2 _ _ _
  exact⟨_,rfl,h⟩
end
section
variable{prog:Program}{w:World}{A:Around}{E:Value->Shared->Prop}{s:Shared}
def X4(h1:∀(prog:Program) (w:World) (A:Around) (E:Value->Shared->Prop) (s:Shared) (Q:Value->Shared->Prop),K1 s->Q (.ref s.heap.objs.size) { s with heap:=s.heap.push o1 }->wpAny (model prog w) A (pyIter v1) Q E s)
  (h2:∀(prog:Program) (w:World) (A:Around) (E:Value->Shared->Prop) (s:Shared) (Q:Value->Shared->Prop),K2 s->Q (.ref s.heap.objs.size) { s with heap:=s.heap.push o2 }->wpAny (model prog w) A (pyIter v2) Q E s)
  (k1:K1 s) (k2:K2 { s with heap:=s.heap.push o1 }) (Gs:o1.isFreed=false) (jG:o2.isFreed=false)
  (fin:∀h',IsZip h' (s.heap.objs.size+4) (s.heap.objs.size+2) (s.heap.objs.size+3) .none->IsPair h' (s.heap.objs.size+2) (.ref s.heap.objs.size) (.ref (s.heap.objs.size+1))->IsPair h' (s.heap.objs.size+3) .none .none->
   h'.get? s.heap.objs.size=some o1->h'.get? (s.heap.objs.size+1)=some o2->(∀c o,s.heap.get? c=some o->h'.get? c=some o)->Q (.ref (s.heap.objs.size+4)) { s with heap:=h' }) :
  wpAny (model prog w) A (call (.type "zip") [v1,v2]) Q E s:=by
 refine callType_new F.called_zip (by decide) (F.typeCall_zip_2 _ _) (F.newCall_zip_2 _ _) (λobj=>F.args_object_init_3 obj _ _) F.entry_zip_new (X3 h1 h2) ⟨k1,k2,?_⟩
 have y1:(s.heap.push o1).objs.size=s.heap.objs.size+1:=j3 ..
 have y2:(zA s.heap o1 o2).objs.size=s.heap.objs.size+2:=by rw[j3,y1]
 have y3:(zB s.heap o1 o2).objs.size=s.heap.objs.size+3:=by rw[j3,y2]
 have y4:(zC s.heap o1 o2).objs.size=s.heap.objs.size+4:=by rw[j3,y3]
 have e5:(zD s.heap o1 o2).get? (zC s.heap o1 o2).objs.size=some _:=cQ _ rfl
 have e4:(zD s.heap o1 o2).get? (zB s.heap o1 o2).objs.size=some _:=bq _ (cQ _ rfl)
 have Gu:∀{c o},(zA s.heap o1 o2).get? c=some o->(zD s.heap o1 o2).get? c=some o:=λq=>bq _ (bq _ (bq _ q))
 have e3:(zD s.heap o1 o2).get? (zA s.heap o1 o2).objs.size=some _:=bq _ (bq _ (cQ _ rfl))
 have e2:(zD s.heap o1 o2).get? (s.heap.push o1).objs.size=some o2:=Gu (cQ _ jG)
 have e1:(zD s.heap o1 o2).get? s.heap.objs.size=some o1:=Gu (bq _ (cQ _ Gs))
 show _/\_
 rw[y2,y3,y4] at e5
 rw[y1,y2] at e3
 rw[y3] at e4
 rw[y1] at e2
 rw[y4]
 exact⟨⟨_,e5,rfl⟩,fin _ e5 e3 e4 e1 e2 λc o q=>Gu (bq _ (bq _ q))⟩
end
def X5(hh:A.handled=none)(it:Addr)(x:Str)(t:Tok):Draws prog w A it [it] x.cps.size (λi v=>∃c u,x.cps[i]? = some c/\v = .str ⟨#[c]⟩ u) (λi h=>h.IsStrIter it (strIterType x) x t i):=by
 unfold strIterType
 split
 .exact Draws.strAscii hh it x t
 .exact Draws.strWide hh it x t
theorem BX(n:Nat):qE (n+4) (n+2) (n+3) n (n+1) [n] [n+1]/\(n+2:Nat)≠n+3/\(n+2:Nat)≠n/\(n+2:Nat)≠n+1:=by
 have ne:∀a b:Nat,a≠b->(n+a:Nat)≠n+b:=λa b h=>by lia
 have m1:∀a b:Nat,a≠b->(n+a:Nat)∉[n+b]:=λa b h hm=>ne a b h (cJ.mp hm)
 exact⟨⟨ne 2 4 (by decide),ne 3 4 (by decide),ne 0 4 (by decide),ne 1 4 (by decide),ne 3 0 (by decide),ne 3 1 (by decide),ne 0 1 (by decide),m1 4 0 (by decide),m1 3 0 (by decide),m1 1 0 (by decide),m1 4 1 (by decide),m1 3 1 (by decide),m1 0 1 (by decide)⟩,ne 2 3 (by decide),ne 2 0 (by decide),ne 2 1 (by decide)⟩
def X6:bootBuiltins "zip"=some (.type "zip"):=by decide +kernel
section
variable{prog:Program}{w:World}{A:Around}{E:Value->Shared->Prop}{s:Shared}{it l:Addr}{i:Nat}{items:Array Value}
def X7{x:Value}(hit:s.heap.IsTupleIter it l i)(hl:s.heap.IsTuple l items)(hx:items[i]? = some x)(hQ:∀h',h'.IsTupleIter it l (i+1)->Heap.SameBut it s.heap h'->Q x { s with heap:=h' }):wpAny (model prog w) A (Builtin.SmallTypes.nextOf (.ref it)) Q E s:=by
 obtain⟨o,ho,hc,hd⟩:=id hit;obtain⟨ol,Gv,_,nl,Gw⟩:=hl
 unfold Builtin.SmallTypes.nextOf;refine ah (xE (name:=Str.ofString "__next__") hit.typeIs LC (qg LC hit.typeIs F.entry_tuple_iterator_next ?_ (F.args_tuple_iterator_next_1 _)))
 show wpAny _ _ (field (.ref it) 0 >>= _) _ _ s;refine ah (eK ho hd (x := .ref l) rfl ?_)
 show wpAny _ _ (if (Value.ref l==Value.none)=true then _ else _) _ _ s;rw[au (show ¬((Value.ref l==Value.none)=true) from cy)]
 show wpAny _ _ (field (.ref it) 1 >>= _) _ _ s;refine ah (eK ho hd (x := .int i 0) rfl ?_)
 show wpAny _ _ (seqItems? (.ref l) >>= _) _ _ s;refine ah (n5 Gv Gw ?_);simp only[iZ,hx]
 refine ah (vi ho hd (by simp) (aE ⟨x,rfl,aE (hQ _ ⟨_,nX _ ho (ER (rX hd _)),(Obj.cls_mapFields ..).trans hc,?_⟩ (A3 ..))⟩))
 rw[rX hd];simp[rawInt]
def X8(hh:A.handled=none)(hit:s.heap.IsTupleIter it l i)(hl:s.heap.IsTuple l items)(hx:items[i]? = none)(hE:∀h' e,Heap.ExtBut it s.heap h'->(∃o,h'.get? e=some o/\o.cls = .type "StopIteration")->E (.ref e) { s with heap:=h' }):wpAny (model prog w) A (Builtin.SmallTypes.nextOf (.ref it)) Q E s:=by
 obtain⟨o,ho,hc,hd⟩:=id hit;obtain⟨ol,Gv,_,nl,Gw⟩:=hl
 unfold Builtin.SmallTypes.nextOf;refine ah (xE (name:=Str.ofString "__next__") hit.typeIs LC (qg LC hit.typeIs F.entry_tuple_iterator_next ?_ (F.args_tuple_iterator_next_1 _)))
 show wpAny _ _ (field (.ref it) 0 >>= _) _ _ s;refine ah (eK ho hd (x := .ref l) rfl ?_)
 show wpAny _ _ (if (Value.ref l==Value.none)=true then _ else _) _ _ s;rw[au (show ¬((Value.ref l==Value.none)=true) from cy)]
 show wpAny _ _ (field (.ref it) 1 >>= _) _ _ s;refine ah (eK ho hd (x := .int i 0) rfl ?_)
 show wpAny _ _ (seqItems? (.ref l) >>= _) _ _ s;refine ah (n5 Gv Gw ?_);simp only[iZ,hx]
 refine ah (vj (ah (vi ho hd (by simp) ?_)));show wpAny _ _ (newExc (.type "StopIteration") [] >>= _) _ _ _
 refine ah ?_;simp only[newExc,newTuple];refine ah (mR ?_ (by size_fits))
 refine ah (m:=firstArgMember _ _) (rW (a:=Value.none) (by first | rfl | (simp only[firstArgMember];rfl)) (mR ?_ (by size_fits)))
 simp only[raiseNew];refine ah (wpAny_handled ?_)
 first | rw[show A.in1.handled=none from hh];refine ah (aE (wpAny_throw ?_)) | rw[hh];refine ah (aE (wpAny_throw ?_))
 exact hE _ _ (((A3 ..).extBut.push _).push _) ⟨_,cQ _ rfl,rfl⟩
end
def X9(hh:A.handled=none)(it l:Addr)(aT:l≠it)(items:Array Value) :
  Draws prog w A it [it,l] items.size (λi v=>items[i]? = some v) (λi h=>h.IsTupleIter it l i/\h.IsTuple l items) where
 live:=λ_ _ st=>by obtain⟨⟨o,ho,_⟩,_⟩:=st;exact⟨o,ho⟩
 frame:=λ_ _ _ st hk=>by obtain⟨⟨o,ho,r⟩,⟨p,hp,q⟩⟩:=st;exact⟨⟨o,hk it (by simp) o ho,r⟩,⟨p,hk l (by simp) p hp,q⟩⟩
 item:=λi s Q E hi st hQ=>X7 st.1 st.2 (x:=items[i]) (by simp[hi]) λh' a b=>hQ _ h' s.toks (by simp[hi]) ⟨a,st.2.extBut b.extBut aT⟩ b
 done:=λs Q E st hE=>X8 hh st.1 st.2 (by simp) hE
def Ya{b:Addr}(I:Inv X pins O H s)(h:aA X.K H a xs)(f:fK X pins H b):a≠b:=by
 intro z
 subst z
 rcases h with (h | ⟨o,h⟩) | ⟨o,its,n,hk,_⟩
 .rw[f.1] at h;cases h
 .rw[f.1] at h;cases h
 .have e:=I.mod.lD a o hk
  rcases f.2.2.2.1 with h | h
  .exact I.ok.mW a o e h
  .exact absurd (gq (bx (I.ok.bs a o e).1) h) (qb _)
def Yb{b:Addr}(I:Inv X pins O H s)(h:aq X.K H a xs)(f:fK X pins H b):a≠b:=by
 intro z
 subst z
 rcases h with (h | ⟨o,h⟩) | ⟨o,its,n,hk,_⟩
 .rw[f.1] at h;cases h
 .rw[f.1] at h;cases h
 .have e:=I.mod.lD a o hk
  rcases f.2.2.2.1 with h | h
  .exact I.ok.mW a o e h
  .exact absurd (gq (bx (I.ok.bs a o e).1) h) (qb _)
inductive ZK where
 |L | T | S
def zq(k:ZK)(K:Frag)(H:Hp)(v:V)(xs:List V):Prop:=match k with
 |.L=>∃a,v = .ref a/\aq K H a xs
 |.T=>∃a,v = .ref a/\aA K H a xs
 |.S=>∃x:Str,v = .str x/\xs=x.cps.toList.map λc=>V.str ⟨#[c]⟩
def ny(k:ZK)(v:V)(t:Tok)(h:Heap)(i:Addr)(q:Nat):Prop:=match k with
 |.L=>∃a,v = .ref a/\h.IsListIter i a q
 |.T=>∃a,v = .ref a/\h.IsTupleIter i a q
 |.S=>∃x:Str,v = .str x/\h.IsStrIter i (strIterType x) x t q
def vR{k:ZK}{t:Tok}(z:ny k v t h i q):∃o,h.get? i=some o/\∀v,o.data ≠ .cell v:=by
 cases k <;> obtain⟨_,_,o,h1,_,h3⟩:=z <;> exact⟨o,h1,λv e=>by rw[h3] at e;cases e⟩
def vS{k:ZK}{t:Tok}(z:ny k v t h i q)(m:∀o,h.get? i=some o->h'.get? i=some o):ny k v t h' i q:=by
 cases k <;> obtain⟨a,e,o,h1,r⟩:=z <;> exact⟨a,e,o,m o h1,r⟩
def NN{k:ZK}(I:Inv X pins O H s)(h:zq k X.K H v xs)(g:zq k X.K H v ys):xs=ys:=by
 cases k with
 |L=>obtain⟨a,rfl,h⟩:=h;obtain⟨_,e,g⟩:=g;cases e;exact I.Fl h g
 |T=>obtain⟨a,rfl,h⟩:=h;obtain⟨_,e,g⟩:=g;cases e;exact I.Fp h g
 |S=>obtain⟨a,rfl,rfl⟩:=h;obtain⟨_,e,rfl⟩:=g;cases e;rfl
def vT{k:ZK}{t:Tok}(I:Inv X pins O H s)(hh:X.A.in1.handled=none)(hq:zq k X.K H v xs)(st:ny k v t s.heap i q)(hi:fK X pins H i) :
  ∃(f:List Addr) (P:Nat->Value->Prop) (S:Nat->Heap->Prop),Draws X.prog X.w X.A.in1 i f xs.length P S/\S q s.heap/\(∀b,b≠i->fK X pins H b->b∉f)/\(∀n u x,P n u->xs[n]? = some x->RelV x u)/\∀n h,S n h->ny k v t h i n:=by
 cases k with
 |L=>
  obtain⟨a,rfl,hq⟩:=hq
  obtain⟨_,e,st⟩:=st
  cases e
  obtain⟨ia,ra,pa,_⟩:=I.list hq
  have na:=λb (hb:fK X pins H b)=>Yb I hq hb
  have la:ia.toArray.size=xs.length:=by rw[br];exact ra.length.symm
  refine⟨_,_,_,la ▸ Draws.list hh i a (na i hi) ia.toArray,⟨st,pa.isList⟩,λb hb f m=>?_,λn u x p hx=>?_,λn h s=>⟨a,rfl,s.1⟩⟩
  .rcases cx.mp m with z | z
   .exact hb z
   .exact na b f (cJ.mp z).symm
  .obtain⟨u',e1,e2⟩:=ra.get hx
   have p:ia.toArray[n]? = some u:=p
   obtain rfl:u'=u:=by simpa[e1] using p
   exact e2
 |T=>
  obtain⟨a,rfl,hq⟩:=hq
  obtain⟨_,e,st⟩:=st
  cases e
  obtain⟨ia,ra,pa,_⟩:=I.tuple hq
  have na:=λb (hb:fK X pins H b)=>Ya I hq hb
  have la:ia.toArray.size=xs.length:=by rw[br];exact ra.length.symm
  refine⟨_,_,_,la ▸ X9 hh i a (na i hi) ia.toArray,⟨st,pa⟩,λb hb f m=>?_,λn u x p hx=>?_,λn h s=>⟨a,rfl,s.1⟩⟩
  .rcases cx.mp m with z | z
   .exact hb z
   .exact na b f (cJ.mp z).symm
  .obtain⟨u',e1,e2⟩:=ra.get hx
   have p:ia.toArray[n]? = some u:=p
   obtain rfl:u'=u:=by simpa[e1] using p
   exact e2
 |S=>
  obtain⟨x,rfl,rfl⟩:=hq
  obtain⟨_,e,st⟩:=st
  cases e
  refine⟨_,_,_,(show x.cps.size=(x.cps.toList.map λc=>V.str ⟨#[c]⟩).length by rw[av,uX]) ▸ X5 hh i x t,st,λb hb f m=>hb (cJ.mp m),λn u y p hy=>?_,λn h s=>⟨x,rfl,s⟩⟩
  obtain⟨c,u1,h1,rfl⟩:=p
  rw[bF,Array.getElem?_toList,h1] at hy
  cases hy
  exact⟨u1,rfl⟩
def NO{k:ZK}(I:Inv X pins O H s)(hq:zq k X.K H v xs)(r:RelV v u) :
  ∃(o1:Obj) (K1:Shared->Prop) (t:Tok),(∀(prog:Program) (w:World) (A:Around) (E:Value->Shared->Prop) (s:Shared) (Q:Value->Shared->Prop),K1 s->Q (.ref s.heap.objs.size) { s with heap:=s.heap.push o1 }->wpAny (model prog w) A (pyIter u) Q E s)/\K1 s/\(∀o,K1 { s with heap:=s.heap.push o })/\o1.isFreed=false/\∀h i,h.get? i=some o1->ny k v t h i 0:=by
 cases k with
 |L=>
  obtain⟨a,rfl,hq⟩:=hq
  cases r
  obtain⟨ia,ra,pa,_⟩:=I.list hq
  exact⟨{ cls := .type "list_iterator",data := .fields #[.ref a,.int 0 0] },λs=>s.heap.IsList a ia.toArray,0,λ_ _ _ _ _ _ hk hq=>AQ hk hq,pa.isList,λo=>pa.isList.push o,rfl,λh i e=>⟨a,rfl,_,e,rfl,rfl⟩⟩
 |T=>
  obtain⟨a,rfl,hq⟩:=hq
  cases r
  obtain⟨ia,ra,pa,_⟩:=I.tuple hq
  exact⟨{ cls := .type "tuple_iterator",data := .fields #[.ref a,.int 0 0] },λs=>s.heap.IsTuple a ia.toArray,0,λ_ _ _ _ _ _ hk hq=>Lr hk hq,pa,λo=>pa.push o,rfl,λh i e=>⟨a,rfl,_,e,rfl,rfl⟩⟩
 |S=>
  obtain⟨x,rfl,_⟩:=hq
  obtain⟨t,rfl⟩:=r
  exact⟨{ cls := .type (strIterType x),data := .fields #[.str x t,.int 0 0] },λ_=>True,t,λ_ _ _ _ _ _ _ hq=>wpAny_pyIter_strU hq,trivial,λ_=>trivial,rfl,λh i e=>⟨x,rfl,_,e,rfl,rfl⟩⟩
noncomputable def yG(k1 k2:ZK)(K:Frag)(va vb:V):It:=
 ⟨λi H=>∃xs ys x y,zq k1 K H va xs/\zq k2 K H vb ys/\xs[i]? = some x/\ys[i]? = some y,
  λi H v H' =>∃p x y,H p=none/\v = .ref p/\(∀xs,zq k1 K H va xs->xs[i]? = some x)/\(∀ys,zq k2 K H vb ys->ys[i]? = some y)/\H'=upd H p (.tup [x,y]),
  λi H=>∃xs ys,zq k1 K H va xs/\zq k2 K H vb ys/\i=min xs.length ys.length⟩
theorem Yc(k1 k2:ZK)(va vb:V)(t1 t2:Tok)(z ti to i j:Addr)(Z:qE z ti to i j [i] [j])(Yd:ti≠to)(Ye:ti≠i)(Yf:ti≠j) :
  Turn P w K (.Tuple elts kk pos) (yG k1 k2 K va vb) [z,ti,to,i,j] z (λq h=>IsZip h z ti to .none/\IsPair h ti (.ref i) (.ref j)/\(∃a b,IsPair h to a b)/\ny k1 va t1 h i q/\ny k2 vb t2 h j q) where
 mem:=by simp
 obj:=λq h st b hb=>by
  obtain⟨h1,h2,⟨a,b',h3⟩,h4,h5⟩:=st
  simp only[cx,fU,n6] at hb
  rcases hb with rfl | rfl | rfl | rfl | rfl
  .exact⟨_,h1,λv e=>by have e:Data.fields _=Data.cell v:=e;cases e⟩
  .exact⟨_,h2,λv e=>by have e:Data.seq _ _=Data.cell v:=e;cases e⟩
  .exact⟨_,h3,λv e=>by have e:Data.seq _ _=Data.cell v:=e;cases e⟩
  .exact vR h4
  .exact vR h5
 keep:=λq h h' st k=>by
  obtain⟨h1,h2,⟨a,b',h3⟩,h4,h5⟩:=st
  exact⟨k z (by simp) _ h1,k ti (by simp) _ h2,⟨a,b',k to (by simp) _ h3⟩,vS h4 (k i (by simp)),vS h5 (k j (by simp))⟩
 item:=by
  intro X hP hw hK hc q pins s O H E I hf st hg
  subst hP hw hK
  obtain⟨h1,h2,⟨a,b',h3⟩,h4,h5⟩:=st
  obtain⟨xs,ys,c,d,jL,BY,Gx,Gy⟩:=hg
  have Yg:=(bR.mp Gx).1
  have Yh:=(bR.mp Gy).1
  have hh:X.A.in1.handled=none:=I.ok.hd hc
  obtain⟨f1,P1,S1,D1,Gz,n1,NP,up1⟩:=vT I hh jL h4 (hf i (by simp))
  obtain⟨f2,P2,S2,D2,kd,n2,NQ,NR⟩:=vT I hh BY h5 (hf j (by simp))
  have Z2:qE z ti to i j f1 f2:=⟨Z.a1,Z.a2,Z.a3,Z.a4,Z.a6,Z.a7,Z.a8,n1 z (aP Z.a3) (hf z (by simp)),n1 to Z.a6 (hf to (by simp)),n1 j (aP Z.a8) (hf j (by simp)),n2 z (aP Z.a4) (hf z (by simp)),n2 to Z.a7 (hf to (by simp)),n2 i Z.a8 (hf i (by simp))⟩
  refine X1 D1 D2 Z2 h1 h2 h3 Gz kd Yg Yh λh' tk u1 u2 p1 p2 g1 g2 g3 g4 g5 g6 kp=>?_
  have r1:=NP _ _ _ p1 Gx
  have r2:=NQ _ _ _ p2 Gy
  have fr:H s.heap.objs.size=none:=I.fresh
  have fz:=hf z (by simp)
  have ft:=hf ti (by simp)
  have fo:=hf to (by simp)
  have fi:=hf i (by simp)
  have fj:=hf j (by simp)
  have l6:∀b o,b∉[z,to,i,j]->s.heap.get? b=some o->h'.get? b=some o:=λb o hb e=>kp b o (λv=>hb (by simp[v])) (λv=>hb (by simp[v])) (λv=>hb (by simp[v])) (λv=>hb (by simp[v])) e
  have yH:∀b o,H b=some o->b∉[z,to,i,j]:=λb o e hb=>by
   simp only[cx,fU,n6] at hb
   rcases hb with v | v | v | v
   .exact bh e fz.1 v
   .exact bh e fo.1 v
   .exact bh e fi.1 v
   .exact bh e fj.1 v
  have I1:Inv X pins O (upd H s.heap.objs.size (.tup [c,d])) { s with heap:=h',toks:=tk }:=by
   refine I.vq (s':={ s with heap:=h',toks:=tk }) (ch:=[z,to,i,j]) rfl ⟨λb o e n _ hx=>l6 b o hx e,λb o e n _ hx=>⟨o.slots,l6 b o hx e⟩,
    λb o e n hx=>by rw[ak (bV (bx e))];exact n,λb o e hx=>⟨o,l6 b o hx e⟩,
    λb ys e=>by rw[ak (bh e fr)];exact e,λb ob ys e=>by rw[ak (bh e fr)];exact e,λb ps e=>⟨#[],by rw[ak (bh e fr),e];simp⟩⟩ (λb o e=>?_) I.bare (λb hb=>?_)
   .by_cases hb:b=s.heap.objs.size
    .subst hb
     rw[ao] at e
     cases e
     exact⟨by show 2<=sizeLine;decide,[u1,u2],.cons r1 (.cons r2 .nil),⟨_,g5,rfl,_,rfl⟩⟩
    .rw[ak hb] at e
     refine(I.ar b o e).ja (λc' v gU e' =>?_) (λc' e'=>by rw[ak (bh e' fr)];exact e') λc' ys e'=>by rw[ak (bh e' fr)];exact e'
     rcases gU with v' | v'
     .subst v'
      exact l6 c' v (yH c' o e) e'
     .exact l6 c' v (yH c' _ v') e'
   .simp only[cx,fU,n6] at hb
    rcases hb with v | v | v | v <;> subst v
    .exact⟨fz.2.2.2.1,fz.2.1,fz.2.2.2.2.1,fz.2.2.2.2.2⟩
    .exact⟨fo.2.2.2.1,fo.2.1,fo.2.2.2.2.1,fo.2.2.2.2.2⟩
    .exact⟨fi.2.2.2.1,fi.2.1,fi.2.2.2.2.1,fi.2.2.2.2.2⟩
    .exact⟨fj.2.2.2.1,fj.2.1,fj.2.2.2.2.1,fj.2.2.2.2.2⟩
  have lt:∀{b o},s.heap.get? b=some o->b≠s.heap.objs.size:=λe=>bV (bx e)
  have g9:∀b∈[z,ti,to,i,j],upd H s.heap.objs.size (.tup [c,d]) b=none:=λb hb=>by
   have ir:∃o,s.heap.get? b=some o:=by
    obtain⟨o4,e4,_⟩:=vR h4
    obtain⟨o5,e5,_⟩:=vR h5
    simp only[cx,fU,n6] at hb
    rcases hb with v | v | v | v | v <;> subst v
    .exact⟨_,h1⟩
    .exact⟨_,h2⟩
    .exact⟨_,h3⟩
    .exact⟨_,e4⟩
    .exact⟨_,e5⟩
   obtain⟨o,e⟩:=ir
   rw[ak (lt e)]
   exact(hf b hb).1
  have GA:IsPair h' ti (.ref i) (.ref j):=kp ti _ Z.a1 Yd Ye Yf h2
  refine⟨_,rfl,wpAny_letOwnedTupleGo_zip (s:={ s with heap:=h',toks:=tk }) g1 λiP y1 sb=>?_⟩
  have I2:Inv X pins O (upd H s.heap.objs.size (.tup [c,d])) { s with heap:=iP,toks:=tk } :=
   Inv.turned (s:={ s with heap:=h',toks:=tk }) (h':=iP) (t':=tk) (it:=z) I1 (λb o hb e=>(sb.2 b hb).trans e) (g9 z (by simp)) fz.2.1 fz.2.2.2.1 fz.2.2.2.2.1 fz.2.2.2.2.2
  have BZ:∀b o,b≠z->h'.get? b=some o->iP.get? b=some o:=λb o hb e=>(sb.2 b hb).trans e
  exact⟨.ref s.heap.objs.size,_,I2,rfl,⟨_,c,d,fr,rfl,λYi h=>by rw[NN I h jL];exact Gx,λYi h=>by rw[NN I h BY];exact Gy,rfl⟩,⟨y1,BZ _ _ Z.a1 GA,⟨_,_,BZ _ _ Z.a2 g2⟩,vS (up1 _ _ g3) λo e=>BZ _ _ Z.a3 e,vS (NR _ _ g4) λo e=>BZ _ _ Z.a4 e⟩,g9⟩
 done:=by
  intro X hP hw hK hc q pins s O H E I hf st hg
  subst hP hw hK
  obtain⟨h1,h2,⟨a,b',h3⟩,h4,h5⟩:=st
  obtain⟨xs,ys,jL,BY,hg⟩:=hg
  have hh:X.A.in1.handled=none:=I.ok.hd hc
  obtain⟨f1,P1,S1,D1,Gz,n1,NP,up1⟩:=vT I hh jL h4 (hf i (by simp))
  obtain⟨f2,P2,S2,D2,kd,n2,NQ,NR⟩:=vT I hh BY h5 (hf j (by simp))
  have Z2:qE z ti to i j f1 f2:=⟨Z.a1,Z.a2,Z.a3,Z.a4,Z.a6,Z.a7,Z.a8,n1 z (aP Z.a3) (hf z (by simp)),n1 to Z.a6 (hf to (by simp)),n1 j (aP Z.a8) (hf j (by simp)),n2 z (aP Z.a4) (hf z (by simp)),n2 to Z.a7 (hf to (by simp)),n2 i Z.a8 (hf i (by simp))⟩
  have fz:=hf z (by simp)
  have fo:=hf to (by simp)
  have fi:=hf i (by simp)
  have fj:=hf j (by simp)
  refine X2 D1 D2 Z2 h1 h2 h3 Gz kd (by lia) λh' tk kp=>⟨rfl,?_⟩
  have l6:∀b o,b∉[z,to,i,j]->s.heap.get? b=some o->h'.get? b=some o:=λb o hb e=>kp b o (λv=>hb (by simp[v])) (λv=>hb (by simp[v])) (λv=>hb (by simp[v])) (λv=>hb (by simp[v])) e
  have yH:∀b o,H b=some o->b∉[z,to,i,j]:=λb o e hb=>by
   simp only[cx,fU,n6] at hb
   rcases hb with v | v | v | v
   .exact bh e fz.1 v
   .exact bh e fo.1 v
   .exact bh e fi.1 v
   .exact bh e fj.1 v
  refine I.vq (s':={ s with heap:=h',toks:=tk }) (ch:=[z,to,i,j]) rfl ⟨λb o e n _ hx=>l6 b o hx e,λb o e n _ hx=>⟨o.slots,l6 b o hx e⟩,λb o e n hx=>n,λb o e hx=>⟨o,l6 b o hx e⟩,
    λb ys e=>e,λb ob ys e=>e,λb ps e=>⟨#[],by rw[e];simp⟩⟩ (λb o e=>?_) I.bare (λb hb=>?_)
  .refine(I.ar b o e).ja (λc' v gU e' =>?_) (λc' e'=>e') λc' ys e'=>e'
   rcases gU with v' | v'
   .subst v'
    exact l6 c' v (yH c' o e) e'
   .exact l6 c' v (yH c' _ v') e'
  .simp only[cx,fU,n6] at hb
   rcases hb with v | v | v | v <;> subst v
   .exact⟨fz.2.2.2.1,fz.2.1,fz.2.2.2.2.1,fz.2.2.2.2.2⟩
   .exact⟨fo.2.2.2.1,fo.2.1,fo.2.2.2.2.1,fo.2.2.2.2.2⟩
   .exact⟨fi.2.2.2.1,fi.2.1,fi.2.2.2.2.1,fi.2.2.2.2.2⟩
   .exact⟨fj.2.2.2.1,fj.2.1,fj.2.2.2.2.1,fj.2.2.2.2.2⟩
 self:=λ_ _ _ _ _ st h=>wpAny_pyIter_zip st.1 h
def Yj(k1 k2:ZK)(K:Frag)(ta:TA):TI:=λO H R=>ta O H λvs H1=>∃a b,vs=[a,b]/\(∃xs,zq k1 K H1 a xs)/\(∃ys,zq k2 K H1 b ys)/\R (yG k1 k2 K a b) H1
def GB(k1 k2:ZK){k:Nat}{a b:Expr}(hg:Gl X "zip")(hm:X.mg "zip"=none)(ha:PA X [a,b] ta)(hs:starEach [a,b] X.env=(false,eval a X.env)::starEach [b] X.env:=by rfl)(aL:(backTo pos (starEach [b] X.env)).any (·.1)=false:=by rfl) :
  PI X (.Tuple elts k ou) (.Call (.Name "zip" p) [a,b] [] pos) (Yj k1 k2 X.K ta):=by
 intro pins s O H R I h
 refine Call_ (qr I hg hm X6 (EC (aD (ha pos pins s O H _ I h) λus s1 ⟨vs,H1,I1,r1,q1⟩=>?_) hs aL))
 obtain⟨ta,tb,e,⟨xs,hx⟩,⟨ys,hy⟩,q⟩:=q1
 subst e
 obtain⟨u1,u2,rfl,ru,rv⟩:=vals2 r1
 obtain⟨o1,K1,t1,a1,a2,a3,a4,a5⟩:=NO I1 hx ru
 obtain⟨o2,K2,t2,b1,b2,b3,b4,b5⟩:=NO I1 hy rv
 refine X4 a1 b1 a2 (b3 _) a4 b4 λh' g1 g2 g3 g4 g5 kp=>?_
 have I2:Inv X pins O H1 { s1 with heap:=h' }:=I1.kept (t':=s1.toks) kp
 refine wpAny_pyIter_zip (s:={ s1 with heap:=h' }) g1 ?_
 refine⟨s1.heap.objs.size+4,[s1.heap.objs.size+4,s1.heap.objs.size+2,s1.heap.objs.size+3,s1.heap.objs.size,s1.heap.objs.size+1],_,_,H1,rfl,I2,
  Yc k1 k2 ta tb t1 t2 _ _ _ _ _ (BX s1.heap.objs.size).1 (BX s1.heap.objs.size).2.1 (BX s1.heap.objs.size).2.2.1 (BX s1.heap.objs.size).2.2.2,
  ⟨g1,g2,⟨_,_,g3⟩,a5 _ _ g4,b5 _ _ g5⟩,λb hb=>?_,q⟩
 have l7:s1.heap.objs.size<=b:=by
  simp only[cx,fU,n6] at hb
  rcases hb with v | v | v | v | v <;> rw[v]
  .exact A6 _ _
  .exact A6 _ _
  .exact A6 _ _
  .exact aQ _
  .exact A6 _ _
 exact I1.j9 l7 (I1.ar.fresh l7)
theorem GC{k1 k2:ZK}{ta tb:V}{NS:TS}{D:Ends}(Pv:Nat->St->Hp->Prop)(h0:Pv 0 O H)(hl:∀i O H,i<=min xs.length ys.length->Pv i O H->zq k1 K H ta xs/\zq k2 K H tb ys)
  (hs:∀i x y p O H,xs[i]? = some x->ys[i]? = some y->Pv i O H->H p=none->g (.ref p) O (upd H p (.tup [x,y])) λO2 H2=>NS { D with nx:=Pv (i+1),ct:=Pv (i+1),bk:=D.nx } O2 H2) (hd:∀O H,Pv (min xs.length ys.length) O H->D.nx O H) :
  ∃W:Nat->Nat->St->Hp->Prop,(∃m,W 0 m O H)/\∀i m O H,W i m O H->
   ((yG k1 k2 K ta tb).stop i H/\D.nx O H)\/((yG k1 k2 K ta tb).go i H/\∃N:St->Hp->Prop,(∀O' H',N O' H'->∃m',m'<m/\W (i+1) m' O' H')/\∀v H',(yG k1 k2 K ta tb).gB i H v H'->g v O H' λO2 H2=>NS { D with nx:=N,ct:=N,bk:=D.nx } O2 H2):=by
 refine⟨λi m O H=>m=min xs.length ys.length - i/\i<=min xs.length ys.length/\Pv i O H,⟨_,rfl,bW _,h0⟩,?_⟩
 rintro i m O H ⟨rfl,hi,p⟩
 obtain⟨q1,q2⟩:=hl i O H hi p
 by_cases aY:i<min xs.length ys.length
 .have e1:=bt (l:=xs) (i:=i) (by lia)
  have e2:=bt (l:=ys) (i:=i) (by lia)
  refine .inr ⟨⟨xs,ys,_,_,q1,q2,e1,e2⟩,Pv (i+1),λO' H' p'=>⟨min xs.length ys.length - (i+1),by lia,rfl,aY,p'⟩,λv H' yy=>?_⟩
  obtain⟨pp,x,y,hn,rfl,f1,f2,rfl⟩:=yy
  exact hs i x y pp O H (f1 xs q1) (f2 ys q2) p hn
 .have e:i=min xs.length ys.length:=by lia
  subst e
  exact .inl ⟨⟨xs,ys,q1,q2,rfl⟩,hd O H p⟩
set_option maxRecDepth 100000 in
theorem Yk(l:Addr)(items:Array Value)(n:Nat)(GD:Option Addr)(sl:Array (Option Value)) :
  Meets (Builtin.«enumerate.__new__» ⟨[.type "enumerate",.ref l],[]⟩) (λ_ R s=>s.heap.get? l=some ⟨.type "tuple",GD,.seq items n,sl⟩/\
   R (.ok (.ret (.ref (s.heap.push ⟨.type "tuple_iterator",none,.fields #[.ref l,.int 0 0],#[]⟩).objs.size)))
    { s with heap:=(s.heap.push ⟨.type "tuple_iterator",none,.fields #[.ref l,.int 0 0],#[]⟩).push ⟨.type "enumerate",none,.fields #[.none,.bool false,.ref s.heap.objs.size,rawInt 0,.none,.none],#[]⟩ }):=
 .of_wp λprog w A R s h=>by
  obtain⟨hp,g,d,tk,os⟩:=s;obtain⟨hl,h⟩:=h
  have agW:=sub_enumerate
  have hL:Heap.IsTuple (Shared.heap ⟨hp,g,d,tk,os⟩) l items:=⟨_,hl,rfl,n,rfl⟩
  wp_walk using TJ hl
  refine wpAny_stack_any λst=>aE ?_
  split
  .rename_i c _ _ _ _ _
   cases(c==Value.type "enumerate") <;> (wp_walk using TJ hl,Lr hL;exact⟨_,rfl,h⟩)
  .wp_walk using TJ hl,Lr hL
   exact⟨_,rfl,h⟩
def Yl{l:Addr}(hL:IsTup s.heap l items)
  (h:∀h',IsEnum h' (s.heap.objs.size+1) s.heap.objs.size 0 .none->h'.IsTupleIter s.heap.objs.size l 0->h'.objs.size=s.heap.objs.size+2->(∀b o,s.heap.get? b=some o->h'.get? b=some o)->Q (.ref (s.heap.objs.size+1)) { s with heap:=h' }) :
  wpAny (model prog w) A (call (.type "enumerate") [.ref l]) Q E s:=by
 obtain⟨⟨c,GD,dt,sl⟩,hl,hc,n,hd⟩:=hL
 have hc:c = .type "tuple":=hc
 have hd:dt = .seq items n:=hd
 subst hc hd
 refine callType_new F.called_enumerate (by decide) (F.typeCall_enumerate_1 _) (F.newCall_enumerate_1 _) (λobj=>F.args_object_init_2 obj _) F.entry_enumerate_new (Yk l items n GD sl) ⟨hl,?_⟩
 have hz:(s.heap.push ⟨.type "tuple_iterator",none,.fields #[.ref l,.int 0 0],#[]⟩).objs.size=s.heap.objs.size+1:=j3 ..
 show _/\_
 rw[hz]
 have he:IsEnum ((s.heap.push ⟨.type "tuple_iterator",none,.fields #[.ref l,.int 0 0],#[]⟩).push ⟨.type "enumerate",none,.fields #[.none,.bool false,.ref s.heap.objs.size,rawInt 0,.none,.none],#[]⟩) (s.heap.objs.size+1) s.heap.objs.size 0 .none:=by
  have e:=cQ (s.heap.push ⟨.type "tuple_iterator",none,.fields #[.ref l,.int 0 0],#[]⟩) (o:=⟨.type "enumerate",none,.fields #[.none,.bool false,.ref s.heap.objs.size,rawInt 0,.none,.none],#[]⟩) rfl
  rw[hz] at e;exact e
 exact⟨⟨_,he,rfl⟩,h _ he ⟨_,bq _ (cQ _ rfl),rfl,rfl⟩ (by rw[j3,hz]) λb o x=>bq _ (bq _ x)⟩
noncomputable def qF(k:ZK)(K:Frag)(va:V)(xs:List V):It:=
 ⟨λi H=>zq k K H va xs/\i<xs.length,λi H x H' =>∃p v,H p=none/\x = .ref p/\xs[i]? = some v/\H'=upd H p (.tup [.int i,v]),λi H=>zq k K H va xs/\i=xs.length⟩
theorem Ym(k:ZK)(va:V)(t:Tok)(it e:Addr)(xs:List V)(GF:e≠it) :
  Turn P w K (.Tuple elts kk pos) (qF k K va xs) [e,it] e (λi h=>(∃old,IsEnum h e it i old)/\ny k va t h it i) where
 mem:=by simp
 obj:=λi h st b hb=>by
  obtain⟨⟨old,he⟩,hz⟩:=st
  rcases cx.mp hb with z | z
  .subst z
   exact⟨_,he,λv z=>by
    have z':Data.fields _=Data.cell v:=z
    cases z'⟩
  .have z:b=it:=by simpa using z
   subst z
   exact vR hz
 keep:=λi h h' st kk=>by
  obtain⟨⟨old,he⟩,hit⟩:=st
  exact⟨⟨old,kk e (by simp) _ he⟩,vS hit λo q=>kk it (by simp) o q⟩
 item:=by
  intro X hP hw hK hc i pins s O H E I hf st hg
  subst hP hw hK
  obtain⟨⟨old,he⟩,hit⟩:=st
  obtain⟨hq,aY⟩:=hg
  have fe:=hf e (by simp)
  have fi:=hf it (by simp)
  obtain⟨ff,PP,SS,D1,d1,nf,rel,zi⟩:=vT I (I.ok.hd hc) hq hit fi
  refine wpAny_pyNext_enum_itemD D1 he d1 aY GF (nf e GF fe) λv h' tk Yn ho oP hT hsz hk=>?_
  obtain⟨c,dG⟩:∃c,xs[i]? = some c:=⟨_,bt aY⟩
  have ru:=rel i v c Yn dG
  have fr:H s.heap.objs.size=none:=I.fresh
  have neT:∀b o,H b=some o->b≠e/\b≠it:=λb o q=>⟨bh q fe.1,bh q fi.1⟩
  have I1:Inv X pins O (upd H s.heap.objs.size (.tup [.int i,c])) { s with heap:=h',toks:=tk+1 }:=by
   refine I.vq (s':={ s with heap:=h',toks:=tk+1 }) (ch:=[e,it]) rfl ⟨λb o q n _ hx=>hk b o (λz=>hx (by simp[z])) (λz=>hx (by simp[z])) q,λb o q n _ hx=>⟨o.slots,hk b o (λz=>hx (by simp[z])) (λz=>hx (by simp[z])) q⟩,
    λb o q n hx=>by rw[ak (bV (bx q))];exact n,λb o q hx=>⟨o,hk b o (λz=>hx (by simp[z])) (λz=>hx (by simp[z])) q⟩,
    λb ys q=>by rw[ak (bh q fr)];exact q,λb ob ys q=>by rw[ak (bh q fr)];exact q,λb ps q=>⟨#[],by rw[ak (bh q fr),q];simp⟩⟩ (λb o q=>?_) I.bare (λb hb=>?_)
   .by_cases hb:b=s.heap.objs.size
    .subst hb
     rw[ao] at q
     cases q
     exact⟨by show 2<=sizeLine;decide,[.int i tk,v],.cons ⟨tk,rfl⟩ (.cons ru .nil),⟨_,hT,rfl,_,rfl⟩⟩
    .rw[ak hb] at q
     refine(I.ar b o q).ja (λc v hc q' =>?_) (λc q'=>by rw[ak (bh q' fr)];exact q') λc ys q'=>by rw[ak (bh q' fr)];exact q'
     rcases hc with z | z
     .subst z
      exact hk c v (neT c o q).1 (neT c o q).2 q'
     .exact hk c v (neT c _ z).1 (neT c _ z).2 q'
   .have z:b=e\/b=it:=by simpa using hb
    rcases z with z | z
    .subst z
     exact⟨fe.2.2.2.1,fe.2.1,fe.2.2.2.2.1,fe.2.2.2.2.2⟩
    .subst z
     exact⟨fi.2.2.2.1,fi.2.1,fi.2.2.2.2.1,fi.2.2.2.2.2⟩
  have g9:∀b∈[e,it],upd H s.heap.objs.size (.tup [.int i,c]) b=none:=λb hb=>by
   have z:b=e\/b=it:=by simpa using hb
   have GG:b<s.heap.objs.size:=by
    rcases z with z | z
    .subst z;exact bx he
    .subst z;obtain⟨o,q,_⟩:=vR hit;exact bx q
   rw[ak (bV GG)]
   rcases z with z | z
   .subst z;exact fe.1
   .subst z;exact fi.1
  refine⟨_,rfl,wpAny_letOwnedTupleGo_enum (s:={ s with heap:=h',toks:=tk+1 }) ho λh2 Yo xZ=>?_⟩
  have I2:Inv X pins O (upd H s.heap.objs.size (.tup [.int i,c])) { s with heap:=h2,toks:=tk+1 } :=
   Inv.turned (s:={ s with heap:=h',toks:=tk+1 }) (h':=h2) (t':=tk+1) (it:=e) I1 (λb o hb q=>(xZ.2 b hb).trans q) (g9 e (by simp)) fe.2.1 fe.2.2.2.1 fe.2.2.2.2.1 fe.2.2.2.2.2
  refine⟨.ref s.heap.objs.size,_,I2,rfl,⟨_,_,fr,rfl,dG,rfl⟩,⟨⟨v,?_⟩,vS (zi _ _ oP) λo q=>(xZ.2 it (aP GF)).trans q⟩,g9⟩
  have e1:((i+1:Nat):Int)=(i:Int)+1:=by lia
  rw[e1]
  exact Yo
 done:=by
  intro X hP hw hK hc i pins s O H E I hf st hg
  subst hP hw hK
  obtain⟨⟨old,he⟩,hit⟩:=st
  obtain⟨hq,ei⟩:=hg
  have fi:=hf it (by simp)
  obtain⟨ff,PP,SS,D1,d1,nf,rel,zi⟩:=vT I (I.ok.hd hc) hq hit fi
  refine wpAny_pyNext_enum_endD D1 he (by rw[<-ei];exact d1) λh' eb=>⟨rfl,?_⟩
  exact I.turned (t':=s.toks) (it:=it) (λb o hb q=>eb b o hb q) fi.1 fi.2.1 fi.2.2.2.1 fi.2.2.2.2.1 fi.2.2.2.2.2
 self:=λ_ _ _ _ _ st h=>by
  obtain⟨⟨old,he⟩,_⟩:=st
  exact wpAny_pyIter_enum he h
def Yp{k:ZK}(I:Inv X pins O H s)(hq:zq k X.K H v xs)(r:RelV v u) :
  ∃t:Tok,∀(A:Around) (E:Value->Shared->Prop) (Q:Value->Shared->Prop),(∀h',IsEnum h' (s.heap.objs.size+1) s.heap.objs.size 0 .none->ny k v t h' s.heap.objs.size 0->(∀b o,s.heap.get? b=some o->h'.get? b=some o)->Q (.ref (s.heap.objs.size+1)) { s with heap:=h' })->
   wpAny (model X.prog X.w) A (call (.type "enumerate") [u]) Q E s:=by
 cases k with
 |L=>
  obtain⟨a,rfl,hq⟩:=hq
  cases r
  obtain⟨ia,ra,pa,_⟩:=I.list hq
  exact⟨0,λA E Q h=>call_enumerate_list pa.isList λh' he tG _ hk=>h h' he ⟨a,rfl,tG⟩ hk⟩
 |T=>
  obtain⟨a,rfl,hq⟩:=hq
  cases r
  obtain⟨ia,ra,pa,_⟩:=I.tuple hq
  exact⟨0,λA E Q h=>Yl pa λh' he tG _ hk=>h h' he ⟨a,rfl,tG⟩ hk⟩
 |S=>
  obtain⟨x,rfl,_⟩:=hq
  obtain⟨t,rfl⟩:=r
  exact⟨t,λA E Q h=>call_enumerate_str λh' he tG _ hk=>h h' he ⟨x,rfl,tG⟩ hk⟩
def GH(k:ZK){a:Expr}(hW:∀vs H R,W vs H R->∃va xs,vs=[va]/\zq k X.K H va xs/\R (qF k X.K va xs) H)(hg:Gl X "enumerate")(hm:X.mg "enumerate"=none)(ha:PA X [a] ta)(hs:starEach [a] X.env=[(false,eval a X.env)]:=by rfl) :
  PI X (.Tuple elts kk ou) (.Call (.Name "enumerate" p) [a] [] pos) (λO H R=>ta O H λvs H1=>W vs H1 R):=by
 intro pins s O H R I h
 refine Call_ (qr I hg hm boot_enumerate (EC (aD (ha pos pins s O H _ I h) λus s1 ⟨vs,H1,I1,r1,q1⟩=>?_) hs rfl))
 obtain⟨va,xs,e,hq,q⟩:=hW _ _ _ q1
 subst e
 obtain⟨u,rfl,ru⟩:=vals1 r1
 obtain⟨t,hz⟩:=Yp I1 hq ru
 refine hz _ _ _ λh' he tG hk=>?_
 have I2:Inv X pins O H1 { s1 with heap:=h' }:=I1.kept (t':=s1.toks) hk
 refine wpAny_pyIter_enum (s:={ s1 with heap:=h' }) he ?_
 refine⟨s1.heap.objs.size+1,[s1.heap.objs.size+1,s1.heap.objs.size],_,_,H1,rfl,I2,Ym k va t s1.heap.objs.size (s1.heap.objs.size+1) xs (Nat.succ_ne_self _),⟨⟨.none,he⟩,tG⟩,λb hb=>?_,q⟩
 have z:b=s1.heap.objs.size+1\/b=s1.heap.objs.size:=by simpa using hb
 rcases z with z | z
 .subst z;exact I1.j9 (fF _) (I1.ar.fresh (fF _))
 .subst z;exact I1.j9 (aQ _) I1.fresh
theorem GI{k:ZK}{va:V}{tb:TS}{D:Ends}(Pv:Nat->St->Hp->Prop)(h0:Pv 0 O H)(hl:∀i O H,i<=xs.length->Pv i O H->zq k K H va xs)
  (hs:∀i x p O H,xs[i]? = some x->Pv i O H->H p=none->g (.ref p) O (upd H p (.tup [.int i,x])) λO2 H2=>tb { D with nx:=Pv (i+1),ct:=Pv (i+1),bk:=D.nx } O2 H2) (hd:∀O H,Pv xs.length O H->D.nx O H) :
  ∃W:Nat->Nat->St->Hp->Prop,(∃m,W 0 m O H)/\∀i m O H,W i m O H->
   ((qF k K va xs).stop i H/\D.nx O H)\/((qF k K va xs).go i H/\∃N:St->Hp->Prop,(∀O' H',N O' H'->∃m',m'<m/\W (i+1) m' O' H')/\∀x H',(qF k K va xs).gB i H x H'->g x O H' λO2 H2=>tb { D with nx:=N,ct:=N,bk:=D.nx } O2 H2):=by
 refine⟨λi m O H=>m=xs.length - i/\i<=xs.length/\Pv i O H,⟨xs.length,by simp,bW _,h0⟩,?_⟩
 rintro i m O H ⟨rfl,hi,p⟩
 have q:=hl i O H hi p
 by_cases aY:i<xs.length
 .refine .inr ⟨⟨q,aY⟩,Pv (i+1),λO' H' p'=>⟨xs.length - (i+1),by lia,rfl,aY,p'⟩,λx H' y=>?_⟩
  obtain⟨pp,v,hn,e1,e2,e3⟩:=y
  subst e1 e3
  exact hs i v pp O H e2 p hn
 .have e:i=xs.length:=by lia
  subst e
  exact .inl ⟨⟨q,rfl⟩,hd O H p⟩
noncomputable abbrev B2(K:Frag)(a:Addr)(xs:List V):It:=qF .L K (.ref a) xs
noncomputable abbrev GJ(K:Frag)(a:Addr)(xs:List V):It:=qF .T K (.ref a) xs
noncomputable abbrev GK(K:Frag)(x:Str):It:=qF .S K (.str x) (x.cps.toList.map λc=>V.str ⟨#[c]⟩)
def Yq(K:Frag)(ta:TA):TI:=λO H R=>ta O H λvs H1=>∃a xs,vs=[.ref a]/\aq K H1 a xs/\R (B2 K a xs) H1
def Yr(K:Frag)(ta:TA):TI:=λO H R=>ta O H λvs H1=>∃a xs,vs=[.ref a]/\aA K H1 a xs/\R (GJ K a xs) H1
def Ys(K:Frag)(ta:TA):TI:=λO H R=>ta O H λvs H1=>∃x,vs=[.str x]/\R (GK K x) H1
section
variable{X:Cx}{elts:List Expr}{kk:Nat}{ou:Pos}{a:Expr}{ta:TA}{p pos:Pos}
def GL(hg:Gl X "enumerate")(hm:X.mg "enumerate"=none)(ha:PA X [a] ta)(hs:starEach [a] X.env=[(false,eval a X.env)]:=by rfl):PI X (.Tuple elts kk ou) (.Call (.Name "enumerate" p) [a] [] pos) (Yq X.K ta):=
 GH .L (W:=λvs H1 R=>∃a xs,vs=[.ref a]/\aq X.K H1 a xs/\R (B2 X.K a xs) H1) (λ_ _ _ ⟨a,xs,e,q,r⟩=>⟨.ref a,xs,e,⟨a,rfl,q⟩,r⟩) hg hm ha hs
def Yt(hg:Gl X "enumerate")(hm:X.mg "enumerate"=none)(ha:PA X [a] ta)(hs:starEach [a] X.env=[(false,eval a X.env)]:=by rfl):PI X (.Tuple elts kk ou) (.Call (.Name "enumerate" p) [a] [] pos) (Yr X.K ta):=
 GH .T (W:=λvs H1 R=>∃a xs,vs=[.ref a]/\aA X.K H1 a xs/\R (GJ X.K a xs) H1) (λ_ _ _ ⟨a,xs,e,q,r⟩=>⟨.ref a,xs,e,⟨a,rfl,q⟩,r⟩) hg hm ha hs
def Yu(hg:Gl X "enumerate")(hm:X.mg "enumerate"=none)(ha:PA X [a] ta)(hs:starEach [a] X.env=[(false,eval a X.env)]:=by rfl):PI X (.Tuple elts kk ou) (.Call (.Name "enumerate" p) [a] [] pos) (Ys X.K ta):=
 GH .S (W:=λvs H1 R=>∃x,vs=[.str x]/\R (GK X.K x) H1) (λ_ _ _ ⟨x,e,r⟩=>⟨.str x,_,e,⟨x,rfl,rfl⟩,r⟩) hg hm ha hs
end
section
variable{K:Frag}{a:Addr}{xs:List V}{g:TG}{tb:TS}{D:Ends}{O:St}{H:Hp}
def GN(J:It)(g:TG)(tb:TS)(D:Ends)(O:St)(H:Hp):Prop := ∃W:Nat->Nat->St->Hp->Prop,(∃m,W 0 m O H)/\∀i m O H,W i m O H->
   (J.stop i H/\D.nx O H)\/(J.go i H/\∃N:St->Hp->Prop,(∀O' H',N O' H'->∃m',m'<m/\W (i+1) m' O' H')/\∀x H',J.gB i H x H'->g x O H' λO2 H2=>tb { D with nx:=N,ct:=N,bk:=D.nx } O2 H2)
def NT(Pv:Nat->St->Hp->Prop)(h0:Pv 0 O H)(hl:∀i O H,i<=xs.length->Pv i O H->aq K H a xs)
  (hs:∀i x p O H,xs[i]? = some x->Pv i O H->H p=none->g (.ref p) O (upd H p (.tup [.int i,x])) λO2 H2=>tb { D with nx:=Pv (i+1),ct:=Pv (i+1),bk:=D.nx } O2 H2) (hd:∀O H,Pv xs.length O H->D.nx O H):GN (B2 K a xs) g tb D O H:=
 GI Pv h0 (λi O H hi p=>⟨a,rfl,hl i O H hi p⟩) hs hd
def Yv(Pv:Nat->St->Hp->Prop)(h0:Pv 0 O H)(hl:∀i O H,i<=xs.length->Pv i O H->aA K H a xs)
  (hs:∀i x p O H,xs[i]? = some x->Pv i O H->H p=none->g (.ref p) O (upd H p (.tup [.int i,x])) λO2 H2=>tb { D with nx:=Pv (i+1),ct:=Pv (i+1),bk:=D.nx } O2 H2) (hd:∀O H,Pv xs.length O H->D.nx O H):GN (GJ K a xs) g tb D O H:=
 GI Pv h0 (λi O H hi p=>⟨a,rfl,hl i O H hi p⟩) hs hd
def Yw(Pv:Nat->St->Hp->Prop)(h0:Pv 0 O H)
  (hs:∀i c p O H,x.cps.toList[i]? = some c->Pv i O H->H p=none->g (.ref p) O (upd H p (.tup [.int i,.str ⟨#[c]⟩])) λO2 H2=>tb { D with nx:=Pv (i+1),ct:=Pv (i+1),bk:=D.nx } O2 H2) (hd:∀O H,Pv x.cps.size O H->D.nx O H):GN (GK K x) g tb D O H:=
 GI Pv h0 (λ_ _ _ _ _=>⟨x,rfl,rfl⟩) (λi y p O H hy pv hn=>by
  rw[bF] at hy
  obtain⟨c,hc,rfl⟩:=i3.mp hy
  exact hs i c p O H hc pv hn) (λO H h=>hd O H (by rw[av,uX] at h;exact h))
end
theorem Yx{tt:TT}{te:TE}{H1:Hp}{Q:VK}(hn:xs.length<=10000)(ha:aq K H1 a xs)(p:Nat->Bool)(F:Addr->Nat->V->Hp->Prop)
  (mono:∀D i y H H',H1 D=none->(∃o,H D=some (.lst o))->(∀b o,b≠D->H b=some o->H' b=some o)->F D i y H->F D i y H')
  (hs:∀D i x H (Z0:Hp->Prop) (Z:V->Hp->Prop),H1 D=none->xs[i]? = some x->ag H1 H->(∃o,H D=some (.lst o))->(∀H2,ag H H2->p i=false->Z0 H2)->(∀y H2,ag H H2->p i=true->F D i y H2->Z y H2)->
   tt (some (.int i)::some x::fM js O) H λb H2=>if b=true then te (some (.int i)::some x::fM js O) H2 Z else Z0 H2)
  (hd:∀D ys H,H1 D=none->H D=some (.lst ys)->ag H1 H->Paired (λi y=>F D i y H) ((List.range xs.length).filter p) ys->Q (.ref D) H):Ng K' js tt te O (B2 K a xs) H1 Q:=by
 intro D hD
 have hz:10000<sizeLine:=by decide
 refine⟨λi m H=>m=xs.length - i/\i<=xs.length/\∃ys,H D=some (.lst ys)/\ag H1 H/\Paired (λi y=>F D i y H) ((List.range i).filter p) ys,⟨xs.length,by simp,bW _,[],ao,ag.upd hD,.nil⟩,?_⟩
 rintro i m H ⟨rfl,hi,ys,bO,sm,pr⟩
 have q:=sm.seq ha
 by_cases aY:i<xs.length
 .refine .inr ⟨⟨⟨a,rfl,q⟩,aY⟩,λx H' y=>?_⟩
  obtain⟨pp,v,yI,rfl,yy,rfl⟩:=y
  have og:List.range (i+1)=List.range i++[i]:=vg
  have ln:ys.length<=i:=by
   have h1:=pr.length
   have h2:((List.range i).filter p).length<=(List.range i).length:=nY _ _
   rw[i5] at h2
   lia
  have sp:ag H (upd H pp (.tup [.int i,v])):=ag.upd yI
  refine⟨pp,.int i,v,rfl,aA.of ao,hs D i v _ _ _ hD yy (sm.trans sp) ⟨ys,sp _ _ bO⟩ (λH2 s2 hp=>?_) (λz H2 s2 hp hF=>?_)⟩
  .refine⟨xs.length - (i+1),by lia,rfl,aY,ys,s2 _ _ (sp _ _ bO),sm.trans (sp.trans s2),?_⟩
   rw[og,vh,fH,au (by rw[hp];exact cy),AZ,dS]
   exact Paired.bE pr λj z f=>mono D j z H H2 hD ⟨ys,bO⟩ (λb o _ e=>s2 b o (sp b o e)) f
  .refine⟨ys,s2 _ _ (sp _ _ bO),by lia,xs.length - (i+1),by lia,rfl,aY,ys++[z],ao,(sm.trans (sp.trans s2)).nh hD,?_⟩
   have up:∀b o,b≠D->H2 b=some o->upd H2 D (.lst (ys++[z])) b=some o:=λb o hb e=>by rw[ak hb];exact e
   rw[og,vh,fH,aC hp,AZ]
   refine qh (Paired.bE pr λj z' f=>?_) (mono D i z H2 _ hD ⟨ys,s2 _ _ (sp _ _ bO)⟩ up hF)
   exact mono D j z' H2 _ hD ⟨ys,s2 _ _ (sp _ _ bO)⟩ up (mono D j z' H H2 hD ⟨ys,bO⟩ (λb o _ e=>s2 b o (sp b o e)) f)
 .have e:i=xs.length:=by lia
  subst e
  exact .inl ⟨⟨⟨a,rfl,q⟩,rfl⟩,hd D ys H hD bO sm pr⟩
theorem yJ{t:TA}{k:Nat}(N:Nw X.prog X.w X.K X.mg X.base x C k sp)(hr:bT l X.A)(ha:PA X (e::es) t)(hle:k+1<=l:=by first | decide | lia)(hg:Gl X x:=by rfl)(cU:(x==("__debug__":Str))=false:=by decide)
  (he:starEach (e::es) X.env=(false,eval e X.env)::starEach es X.env:=by rfl) (aL:(backTo pos (starEach es X.env)).any (·.1)=false:=by rfl):PE X (.Call (.Name x p) (e::es) [] pos) (Bv C sp [] E0 t):=by
 obtain⟨f,fd,ps,M,G,hb,hm⟩:=N.ex
 exact Vo M G (hr.mono hle) hg hm hb .nil yh ha cU he aL
def tH(q f a:Addr):Heap->Prop:=λh=>h.get? q=some (methodObj (.ref f) (.ref a))
def Yy{q:Addr}(e:h.get? q=some (methodObj (.ref f) (.ref a))):dk P w H h q (.ext (tH q f a)):=⟨e,⟨_,e⟩,λ_ _ x k=>k _ x⟩
structure NU(K:Frag)(f:Addr):Prop where
 gf:specialIn K (.ref f) "__get__"=some (some (.builtin "function.__get__"))
 tk:takesIn K (.ref f)=some false
section
variable{X:Cx}{pins:List (Addr×Obj)}{O:St}{H:Hp}{s:Shared}{a C dx g q l:Addr}{fs:List (Str×V)}{m:Str}{A:Around}{E:Value->Shared->Prop}
def Yz(I:Inv X pins O H s)(e:H a=some (.ins C dx fs))(c:cS X.K C)(k:Meth X.K C m g)(b:NU X.K g)(hc:PySem.W.copiedNames.contains m=false)(hl:fs.lookup m=none)
  (h:∀q s',H q=none->Inv X pins O (upd H q (.ext (tH q g a))) s'->Q (.ref q) s'):wpAny (model X.prog X.w) A (getAttr (.ref a) m expr) Q E s:=by
 obtain⟨mA,σ,r,_,_,_⟩:=x2 I.ar e
 have hn:mA m=none:=eT.none_of (by rw[<-hl];exact r m)
 obtain⟨od,J,kq⟩:=σ.look
 have hp:=Ls (c.get m)
 refine PySem.W.get_bind I.bN J hp.1 (PySem.W.findObj_fn c.hd k.at_ b.gf b.tk hc (by rw[kq,hn])) hp.2 (jw (PySem.W.fn_get (s:={ s with toks:=s.toks+1 }) I.bN (gS.mp k.fn) (PySem.W.handed_on rfl ?_)))
 exact h s.heap.objs.size _ I.fresh (I.laid (t':=s.toks+1) (λ_ _ z=>bq _ z) (aQ _) (Yy (cQ _ rfl)))
theorem NV:∀{vs:List Value}{ns:List Int},Vals (ns.map V.int) vs->IntsAre vs ns
 |_,[],.nil=>.nil
 |_,n::_,.cons h t=>by
  obtain⟨t',rfl⟩:=h
  exact .cons n t' (NV t)
theorem NW{kz:Str->Int}:∀{ss:List Str}{vs:List Value}{ps:List (Int×Value)},Vals (ss.map V.str) vs->(∀p∈ps,p∈(ss.map kz).zip vs)->∃ts:List Str,Vals (ts.map V.str) (ps.map Prod.snd)/\ts.map kz=ps.map Prod.fst
 |_,_,[],_,_=>⟨[],.nil,rfl⟩
 |ss,vs,p::r,hv,h=>by
  obtain⟨ts,h1,h2⟩:=NW (ps:=r) hv λq hq=>h q (cW _ hq)
  obtain⟨i,hi⟩:=eS (h p bK)
  rw[List.getElem?_zip_eq_some] at hi
  obtain⟨e1,e2⟩:=hi
  rw[bF] at e1
  cases es:ss[i]? with
  |none=>rw[es] at e1;cases e1
  |some x=>
   rw[es] at e1
   have e1:kz x=p.1:=dh e1
   obtain⟨u,hu,ru⟩:=hv.get (i:=i) (x:=V.str x) (by rw[bF,es];rfl)
   rw[e2] at hu
   cases hu
   exact⟨x::ts,.cons ru h1,by rw[cF,cF,h2,e1]⟩
theorem NX:∀{ss ts:List Str},ss.map V.str=ts.map V.str->ss=ts
 |[],[],_=>rfl
 |[],_::_,h=>by cases h
 |_::_,[],h=>by cases h
 |x::r,y::t,h=>by
  rw[cF,cF] at h
  obtain⟨h1,h2⟩:=List.cons.inj h
  cases h1
  rw[NX h2]
def YA(h:Vals (ss.map V.str) vs)(p:us.Perm vs):∃ts:List Str,Vals (ts.map V.str) us/\ts.Perm ss:=by
 induction p generalizing ss with
 |nil=>exact⟨ss,h,List.Perm.refl _⟩
 |cons x _ ih=>
  cases ss with
  |nil=>cases h
  |cons y r=>
   cases h with
   |cons h1 h2=>
    obtain⟨ts,a,b⟩:=ih h2
    exact⟨y::ts,.cons h1 a,b.cons y⟩
 |swap x y l=>
  match ss,h with
  |u::v::r,.cons h1 (.cons h2 h3)=>exact⟨v::u::r,.cons h2 (.cons h1 h3),List.Perm.swap ..⟩
 |trans _ _ YB YC=>
  obtain⟨ts,a,b⟩:=YC h
  obtain⟨us,c,d⟩:=YB a
  exact⟨us,c,d.trans b⟩
def YD{k:Nat}{Q:VK}(F:aK X.prog X.w X.K X.mg X.base aS k f fd ps sp)(hr:bT k A)(he:lL X.prog X.w X.K X.mg X.base A X.stack s H)(hb:Binds X.K fd ps [])(I:Inv X pins O H s)(hq:H q=some (.ext (tH q f a)))
  (rv:RelV v u) (h:sp [.ref a,v] H Q E0):wpAny (model X.prog X.w) A (call (.ref q) [u]) (EP X pins O Q) (λ_ _=>False) s:=by
 have hm:tH q f a s.heap:=(I.ar q _ hq).1
 have hl:([.ref a,u]++([]:List Value)).length=ps.length:=(F.len _ _ _ _ h)
 refine jw (ks_codeAny_call_bound hm ?_)
 refine xC (F.run A X.stack s H ⟨[.ref a,u],[]⟩ [.ref a,u] [.ref a,v] Q E0 hr he (hb s [.ref a,u] I.bN hl) (.cons rfl (.cons rv .nil)) h) λr s' z=>?_
 cases r with
 |error e=>exact z
 |ok fl=>
  cases fl with
  |ret w'=>exact I.after z
  |next=>exact False.elim z
  |brk=>exact False.elim z
  |cont=>exact False.elim z
theorem sorted_out{out:List Value}(hv:Vals (ss.map V.str) vs)(h:KskOut true (ss.map kz) vs out):∃ts:List Str,Vals (ts.map V.str) out/\ts.Perm ss/\ts.Pairwise λx y=>kz y<=kz x:=by
 obtain⟨ps,hp,rfl,ho⟩:=h
 obtain⟨ts,h1,h2⟩:=NW (kz:=kz) hv λp hm=>hp.mem_iff.mp hm
 have hl:ss.length=vs.length:=by rw[<-hv.length,av]
 have kr:(ps.map Prod.snd).Perm vs:=by
  have:=hp.map Prod.snd
  rw[List.map_snd_zip (by rw[av];lia)] at this
  exact this
 obtain⟨bX,h3,h4⟩:=YA hv kr
 have e:ts=bX:=NX (Vals.inj h1 h3)
 subst e
 refine⟨ts,h1,h4,?_⟩
 have h5:(ps.map Prod.fst).Pairwise (λx y:Int=>y<=x):=by
  rw[List.pairwise_map]
  exact ho.imp λ{a b} z=>by simpa using z
 rw[<-h2,List.pairwise_map] at h5
 exact h5
theorem YE{k:Nat}(I:Inv X pins O H s)(hq:H q=some (.ext (tH q f a)))(F:aK X.prog X.w X.K X.mg X.base aS k f fd ps sp)(hr:bT (k+2) X.A)(hb:Binds X.K fd ps [])
  (hl:aq X.K H l (ss.map V.str)) (dW:ss.length<64) (turn:∀x∈ss,∀H3,ag H H3->∀Q':VK,(∀H4,ag H3 H4->Q' (.int (kz x)) H4)->sp [.ref a,.str x] H3 Q' E0)
  (fin:∀(p:Addr) (out:List Str) (H5:Hp) (s':Shared),H p=none->ag H H5->H5 p=some (.lst (out.map V.str))->out.Perm ss->(out.Pairwise λx y=>kz y<=kz x)->Inv X pins O H5 s'->Q (.ref p) s') :
  wpAny (model X.prog X.w) X.A (call (.builtin "sorted") [.ref l] [(Str.ofString "key",.ref q),(Str.ofString "reverse",.bool true)]) Q E s:=by
 obtain⟨its,rv,pl,hz⟩:=I.list hl
 have hL:=pl.isList
 have hlen:its.length=ss.length:=by rw[<-rv.length,av]
 have oQ:(64:Nat)<=sizeLine:=by decide
 refine call_function_entry_kw kind_sorted plain_sorted entry_sorted (ksk_s2 _ _ _) ?_
 unfold Builtin.«sorted»
 refine ah (m:=checkCount "sorted" 1 1 _) (aE ?_)
 refine ah (collect_list hL ?_ (by lia))
 refine ah (wpAny_newList ?_ (by lia))
 generalize GO:(s.heap.push (seqObj "list" #[] 0)).update s.heap.objs.size (Obj.mapSeq (· ++ its.toArray))=g1
 have z1:g1.objs.size=s.heap.objs.size+1:=by rw[<-GO,Heap.size_update,A4]
 have k1:∀b o,s.heap.get? b=some o->g1.get? b=some o:=λb o e=>by
  have aY:=bx e
  rw[<-GO,LD _ _ _ _ (bV aY),Heap.get?_push_ne _ _ _ (bV aY)]
  exact e
 show wpAny _ _ _ _ _ { s with heap:=g1.push (seqObj "list" its.toArray 0) }
 have jG:(g1.push (seqObj "list" its.toArray 0)).get? (s.heap.objs.size+1)=some (seqObj "list" its.toArray 0):=by
  have:(g1.push (seqObj "list" its.toArray 0)).get? g1.objs.size=some (seqObj "list" its.toArray 0):=cQ _ rfl
  rwa [z1] at this
 have k2:∀b o,s.heap.get? b=some o->(g1.push (seqObj "list" its.toArray 0)).get? b=some o:=λb o e=>bq _ (k1 b o e)
 have z2:(g1.push (seqObj "list" its.toArray 0)).objs.size=s.heap.objs.size+2:=by rw[A4,z1]
 rw[show(Value.ref g1.objs.size) = .ref (s.heap.objs.size+1) by rw[z1]]
 generalize g1.push (seqObj "list" its.toArray 0)=g2 at jG k2 z2
 generalize qy:s.heap.objs.size+1=b at jG
 have tI:s.heap.objs.size<=b:=by rw[<-qy];exact fF _
 clear GO z1 k1
 refine ah (fE (wpAny_call_entry_kw slot_list_sort ⟨_,jG,rfl⟩ entry_list_sort ?body (ksk_l2 _ _ _)))
 case body=>
  rw[ksk_t2]
  unfold ksk_tree
  refine ah (listItems_at jG rfl ?_)
  refine ah (listUpdate_at jG rfl ?_ (by rw[br];lia) (bW _))
  obtain⟨e1,vU⟩:∃e1,(g2.update b (Obj.mapSeq λ_=>(#[]:Array Value))).get? b=some (seqObj "list" #[] e1):=⟨_,get?_update_seq jG λ_=>#[]⟩
  have k3:∀c o,s.heap.get? c=some o->(g2.update b (Obj.mapSeq λ_=>(#[]:Array Value))).get? c=some o:=λc o e=>by
   have aY:=bx e
   rw[LD _ _ _ _ (bV (by rw[<-qy];exact rV aY))]
   exact k2 c o e
  have z3:(g2.update b (Obj.mapSeq λ_=>(#[]:Array Value))).objs.size=s.heap.objs.size+2:=by rw[Heap.size_update,z2]
  show wpAny _ _ _ _ _ { s with heap:=g2.update b (Obj.mapSeq λ_=>(#[]:Array Value)) }
  generalize g2.update b (Obj.mapSeq λ_=>(#[]:Array Value))=g3 at vU k3 z3
  refine ah (seqEpoch_at vU rfl ?_)
  refine ah (wpAny_newTuple ?_ (by show its.length<=_;lia))
  refine ah (wpAny_newList ?_ (bW _))
  refine fE ?_
  have z4:(g3.push { cls := .type "tuple",data := .seq its.toArray }).objs.size=s.heap.objs.size+3:=by rw[A4,z3]
  have GP:((g3.push { cls := .type "tuple",data := .seq its.toArray }).push { cls := .type "list",data := .seq ([]:List Value).toArray }).get? (s.heap.objs.size+3)=some (seqObj "list" #[] 0):=by
   have:((g3.push { cls := .type "tuple",data := .seq its.toArray }).push { cls := .type "list",data := .seq ([]:List Value).toArray }).get? (g3.push { cls := .type "tuple",data := .seq its.toArray }).objs.size=some (seqObj "list" #[] 0):=cQ _ rfl
   rwa [z4] at this
  have k5:∀c o,g3.get? c=some o->((g3.push { cls := .type "tuple",data := .seq its.toArray }).push { cls := .type "list",data := .seq ([]:List Value).toArray }).get? c=some o:=λc o e=>bq _ (bq _ e)
  show wpAny _ _ (ksk_rest b (.ref q) true its.toArray e1 (.ref (g3.push { cls := .type "tuple",data := .seq its.toArray }).objs.size)) _ _ { s with heap:=(g3.push { cls := .type "tuple",data := .seq its.toArray }).push { cls := .type "list",data := .seq ([]:List Value).toArray } }
  rw[z4]
  have NY:=k5 _ _ vU
  have I5:Inv X pins O H { s with heap:=(g3.push { cls := .type "tuple",data := .seq its.toArray }).push { cls := .type "list",data := .seq ([]:List Value).toArray } }:=I.kept (t':=s.toks) λc o e=>k5 c o (k3 c o e)
  have GQ:H b=none:=I.ar.fresh tI
  have NZ:H (s.heap.objs.size+3)=none:=I.ar.fresh (A6 _ _)
  have fb:∀{H':Hp},H' b=none->fK X pins H' b:=λh=>I.j9 tI h
  have fk:∀{H':Hp},H' (s.heap.objs.size+3)=none->fK X pins H' (s.heap.objs.size+3):=λh=>I.j9 (A6 _ _) h
  have qG:b≠s.heap.objs.size+3:=by rw[<-qy];exact bV (rV (uZ _))
  generalize (g3.push { cls := .type "tuple",data := .seq its.toArray }).push { cls := .type "list",data := .seq ([]:List Value).toArray }=g5 at GP NY I5
  clear z4 k5 k3 z3 k2 z2 vU
  generalize s.heap.objs.size+3=kS at GP NZ fk qG
  have N0:∀{H':Hp}{s':Shared}{ok:Obj},Inv X pins O H' s'->H' b=none->H' kS=none->s'.heap.get? b=some (seqObj "list" #[] e1)->s'.heap.get? kS=some ok->(∀v,ok.data ≠ .cell v)->Inv X (pins++[(b,seqObj "list" #[] e1),(kS,ok)]) O H' s':=λJ nb nk eb ek hd=>
   J.xN λp hp=>(dR.mp hp).elim (λz=>J.pin p (ie _ z)) λz=>by
    rcases cx.mp z with z | z
    .subst z
     exact⟨eb,nb,(fb nb).2.1,(fb nb).2.2.1,λv z=>nomatch z⟩
    .have z:=cJ.mp z
     subst z
     exact⟨ek,nk,(fk nk).2.1,(fk nk).2.2.1,hd⟩
  have N1:∀{H':Hp}{s':Shared}{l2:List (Addr×Obj)},Inv X (pins++l2) O H' s'->Inv X pins O H' s':=λJ=>J.vz
  unfold ksk_rest
  refine ah (vj ?_)
  rw[List.forIn_toArray]
  refine ah (ksk_fold (λi s' =>∃(H':Hp) (kA:Array Value) (e:Nat),Inv X (pins++[(b,seqObj "list" #[] e1),(kS,seqObj "list" kA e)]) O H' s'/\ag H H'/\Vals (((ss.take i).map kz).map V.int) kA.toList) its 0 _
   ⟨H,#[],0,N0 I5 GQ NZ NY GP (λv z=>nomatch z),ag.refl _,by rw[mS];exact .nil⟩ ?step ?done)
  case step=>
   rintro j x s' hx ⟨H',kA,e,J,sm,hk⟩
   rw[A7] at hk ⊢
   have hj:j<ss.length:=by rw[<-hlen];exact(bR.mp hx).1
   obtain⟨y,hy⟩:∃y,ss[j]? = some y:=⟨_,bt hj⟩
   obtain⟨u,hu,ru⟩:=rv.get (i:=j) (x:=V.str y) (by rw[bF,hy];rfl)
   rw[hx] at hu
   cases hu
   have GR:bT k X.A.in1.in1:=hr.in1.in1
   refine ah (nZ (fC (YD (Q:=λv H4=>v = .int (kz y)/\ag H' H4) F GR J.x4.in1.in1 hb J (sm _ _ hq) ru (turn y (bM hy) H' sm _ λH4 s4=>⟨rfl,s4⟩)) (λv s2 he=>?_) λ_ _ hF=>hF.elim))
   obtain⟨v',H4,J4,r4,rfl,s4⟩:=he
   obtain⟨t4,rfl⟩:=r4
   dsimp only
   have pb:=J4.pin (b,seqObj "list" #[] e1) (by simp)
   have pk:=J4.pin (kS,seqObj "list" kA e) (by simp)
   have nz:kA.size<=64:=by
    have h1:=hk.length
    have h2:kA.toList.length=kA.size:=uX
    rw[av,av,ij] at h1
    lia
   refine ah (listUpdate_at pk.1 rfl ?_ (by lia) (by rw[Array.size_push];lia))
   have ek:(s2.heap.update kS (Obj.mapSeq (·.push (.int (kz y) t4)))).get? kS=some (seqObj "list" (kA.push (.int (kz y) t4)) _):=get?_update_seq pk.1 (·.push (.int (kz y) t4))
   have eb:(s2.heap.update kS (Obj.mapSeq (·.push (.int (kz y) t4)))).get? b=some (seqObj "list" #[] e1):=by
    rw[LD _ _ _ _ qG]
    exact pb.1
   have B3:=fk pk.2.1
   have J5:Inv X pins O H4 { s2 with heap:=s2.heap.update kS (Obj.mapSeq (·.push (.int (kz y) t4))) }:=(N1 J4).turned (t':=s2.toks) (it:=kS) (λc o hc e=>by rw[LD _ _ _ _ hc];exact e) pk.2.1 B3.2.1 B3.2.2.2.1 B3.2.2.2.2.1 B3.2.2.2.2.2
   refine aE ⟨rfl,H4,_,_,N0 J5 pb.2.1 pk.2.1 eb ek (λv z=>nomatch z),sm.trans s4,?_⟩
   rw[ik,hy,fG,fG,Array.toList_push]
   exact hk.append (.cons ⟨t4,rfl⟩ .nil)
  case done=>
   rintro s' ⟨H',kA,e,J,sm,hk⟩
   rw[A7,hlen,gs (aQ _)] at hk
   have pb:=J.pin (b,seqObj "list" #[] e1) (by simp)
   have pk:=J.pin (kS,seqObj "list" kA e) (by simp)
   refine ah (listItems_at pk.1 rfl ?_)
   obtain⟨mL,N2,_⟩:=id J.loc
   have YF:=(fb pb.2.1).2.1
   have YG:=(fk pk.2.1).2.1
   have YH:∀{c:Addr}{o:Obj},c≠X.env.locals->c≠kS->c≠b->s'.heap.get? c=some o->(c,o)∈(kg.ledger s'.heap X.env.locals kS).filter λp=>decide (p.1≠b):=λh1 h2 h3 h4=>da.mpr ⟨kg.F1.mpr ⟨h1,h2,h4⟩,aU h3⟩
   refine ksk_end_ (h₀:=kg.BM s'.heap) (L:=X.env.locals) (m:=mL) (news:=(kg.ledger s'.heap X.env.locals kS).filter λp=>decide (p.1≠b)) (e:=e) (kz:=ss.map kz) (kg.Wt N2) (λp hp=>?_) (aP qG) (λp hp=>?_) (λp hp=>?_) (NV hk) (by rw[av,hlen]) (by lia) λh' tk out c N3 N' ko=>?_
   .rcases dR.mp hp with hp | hp
    .obtain⟨h1,_⟩:=da.mp hp
     obtain⟨n1,n2,h3⟩:=kg.F1.mp h1
     exact⟨h3,n1,kg.BN _ _⟩
    .rcases cx.mp hp with z | z
     .subst z
      exact⟨pk.1,YG,kg.BN _ _⟩
     .have z:=cJ.mp z
      subst z
      exact⟨pb.1,YF,kg.BN _ _⟩
   .exact(kg.F1.mp (da.mp hp).1).2.1
   .exact gr (da.mp hp).2
   .obtain⟨ts,v1,v2,v3⟩:=sorted_out rv ko
    have nv:h'.get? b=some (seqObj "list" out c):=(N' (b,seqObj "list" out c) bK).1
    have kp:∀{x:Addr}{o:Obj},x≠X.env.locals->x≠kS->x≠b->s'.heap.get? x=some o->h'.get? x=some o:=λh1 h2 h3 h4=>(N' _ (cW _ (YH h1 h2 h3 h4))).1
    have tl:∀x u,H' x=some u->x≠X.env.locals/\x≠kS/\x≠b:=λx u z=>⟨λy=>(by rw[y,J.free] at z;cases z),λy=>(by rw[y,pk.2.1] at z;cases z),λy=>(by rw[y,pb.2.1] at z;cases z)⟩
    have FB:=fb pb.2.1
    have FK:=fk pk.2.1
    have lT:(ts.map V.str).length<=sizeLine:=by rw[av,v2.length_eq];lia
    have J6:Inv X pins O (upd H' b (.lst (ts.map V.str))) { s' with heap:=h',toks:=tk }:=by
     refine(N1 J).step (g':=s'.gens) (d':=s'.drawn) (ch:=[kS,b]) (λx hx=>?_) (λx o n1 _ hc e _=>kp n1 (λz=>hc (by simp[z])) (λz=>hc (by simp[z])) e) (λx o n1 _ hc e _=>⟨o.slots,kp n1 (λz=>hc (by simp[z])) (λz=>hc (by simp[z])) e⟩)
      (λx o hc _ n=>by rw[ak (λz=>hc (by simp[z]))];exact n) (λx o hc e=>?_) (λx xs z=>by rw[ak (tl x _ z).2.2];exact z) (λx o u z=>by rw[ak (tl x _ z).2.2];exact z) (λx ps z=>⟨#[],by rw[ak (tl x _ z).2.2,z];simp⟩) (λm' YI=>?_) (λx u z=>?_) J.bare
     .have hx:x=kS\/x=b:=by simpa using hx
      rcases hx with rfl | rfl
      .exact⟨FK.2.2.2.1,FK.2.1,FK.2.2.2.2.1,FK.2.2.2.2.2⟩
      .exact⟨FB.2.2.2.1,FB.2.1,FB.2.2.2.2.1,FB.2.2.2.2.2⟩
     .by_cases y:x=X.env.locals
      .obtain⟨oL,_,_,eL,_⟩:=N3.ns
       exact⟨oL,by rw[y];exact eL⟩
      .exact⟨o,kp y (λz=>hc (by simp[z])) (λz=>hc (by simp[z])) e⟩
     .have:m'=mL:=funext λnm=>YI.agree N2 nm
      rw[this]
      exact N3.ns
     .by_cases y:x=b
      .subst y
       rw[ao] at z
       cases z
       exact⟨lT,out.toList,c,v1,by rw[Array.toArray_toList];exact nv⟩
      .rw[ak y] at z
       obtain⟨n1,n2,n3⟩:=tl x u z
       refine(J.ar x u z).ja (λd v hd e=>?_) (λdd e=>by rw[ak (tl dd _ e).2.2];exact e) λdd u' e=>by rw[ak (tl dd _ e).2.2];exact e
       rcases hd with rfl | hd
       .exact kp n1 n2 n3 e
       .obtain⟨m1,m2,m3⟩:=tl d _ hd
        exact kp m1 m2 m3 e
    refine⟨_,rfl,?_⟩
    exact aE ⟨_,rfl,fin b ts _ _ GQ (λx o z=>by rw[ak (λy=>by rw[y,GQ] at z;cases z)];exact sm x o z) ao v2 v3 J6⟩
end
section
variable{X:Cx}{K:Frag}{C g:Addr}{m:Str}{o e:Expr}{to tl:TE}{sp:Sp}{k:Nat}{p pos ap YJ YK cp:Pos}{ck:Nat}
structure GS(K:Frag)(C:Addr)(m:Str):Prop where
 ex:∃f,findIn K (.ref C) m=some (some (.ref f))/\NU K f
 nm:PySem.W.copiedNames.contains m=false
def GU(K:Frag)(C:Addr)(m:Str)(sp:Sp)(to:TE)(O:St)(Q:VK)(x:V)(H1:Hp):Prop:=to O H1 λy H2=>∃(l:Addr) (ss:List Str) (a dx:Addr) (fs:List (Str×V)) (kz:Str->Int),x = .ref l/\y = .ref a/\aq K H2 l (ss.map V.str)/\ss.length<64/\H2 a=some (.ins C dx fs)/\fs.lookup m=none/\
 (∀x∈ss,∀H3,ag H2 H3->∀Q':VK,(∀H4,ag H3 H4->Q' (.int (kz x)) H4)->sp [.ref a,.str x] H3 Q' E0)/\
 ∀(p:Addr) (out:List Str) (H5:Hp),H2 p=none->ag H2 H5->H5 p=some (.lst (out.map V.str))->out.Perm ss->(out.Pairwise λx y=>kz y<=kz x)->Q (.ref p) H5
def YL(K:Frag)(C:Addr)(m:Str)(sp:Sp)(tl to:TE):TE:=λO H Q=>tl O H (GU K C m sp to O Q)
def YM(k:V->Hp->Prop):List V->Hp->Prop
 |[x],H=>k x H
 |_,_=>False
def YN(hK:X.K=K)(M:Mt X.prog X.w X.K X.mg X.base C m k sp [])(hM:GS X.K C m)(hr:bT (k+2) X.A)(hg:Gl X "sorted")(hm:X.mg "sorted"=none)(hv:bootBuiltins "sorted"=some (.builtin "sorted"))(ha:PA X [e] (FF tl sO))(ho:PE X o to)
  (hb:attributeBase o m X.env (eval o X.env)=eval o X.env) (he:backTo pos (starEach [e] X.env)=(false,eval e X.env)::backTo pos (starEach [] X.env):=by rfl) (hp:(backTo pos (starEach [e] X.env)).any (·.1)=false:=by rfl) :
  PE X (.Call (.Name "sorted" p) [e] [⟨some "key",.Attribute o m ap,YJ⟩,⟨some "reverse",.Constant (.bool true) ck cp,YK⟩] pos) (YL K C m sp tl to):=by
 subst hK
 intro pins s O H Q I h
 obtain⟨f,fd,ps,ds,mt,F,bn,vd⟩:=M.ex
 cases vd
 obtain⟨f',YO,bd⟩:=hM.ex
 have ef:f'=f:=by
  have:=YO.symm.trans mt.at_
  injection this with this
  injection this with this
  injection this with this
 subst ef
 refine nW (qr I hg hm hv ?_ (by decide) (by decide))
 have h':FF tl sO O H (YM (GU X.K C m sp to O Q)):=h
 refine callWith_kw (aD (ha pos pins s O H _ I h') λus s1 ⟨vs,H1,I1,r1,q1⟩=>?_) he hp
 obtain⟨x,rfl,q1⟩:∃x,vs=[x]/\GU X.K C m sp to O Q x H1:=by
  match vs,q1 with
  |[x],q1=>exact⟨x,rfl,q1⟩
 obtain⟨u,rfl,ru⟩:∃u,us=[u]/\RelV _ u:=vals1 r1
 refine kws_cons (FE hb (aD (ho pins s1 O H1 _ I1 q1) λw' s2 ⟨y,H2,I2,ry,q2⟩=>?_))
 obtain⟨l,ss,a,dx,fs,kz,rfl,rfl,hl,dW,YQ,kq,turn,fin⟩:=q2
 cases ru
 cases ry
 refine Yz I2 YQ M.cl mt bd hM.nm kq λq s3 hq I3=>?_
 have sq:=ag.upd (o:=HO.ext (tH q f' a)) hq
 refine kws_cons (aD (jc pins s3 O _ (λv H'=>v = .bl true/\H'=upd H2 q (.ext (tH q f' a))) I3 ⟨rfl,rfl⟩) λb s4 ⟨v4,H4,I4,r4,e4,e5⟩=>?_)
 subst e4 e5
 cases r4
 refine kws_nil ?_
 refine YE (a:=a) (q:=q) I4 ao F hr bn (sq.seq hl) dW (λx mx H3 s3=>turn x mx H3 (sq.trans s3)) λp out H5 s5 hp s6 h5 h6 h7 I5=>?_
 exact⟨.ref p,H5,I5,rfl,fin p out H5 (sq.free hp) (sq.trans s6) h5 h6 h7⟩
end
def YR:typeLookup (.type "list") "keys"=pure none:=am_miss_of_fast (by kernel_rfl)
def B4:plainId "dict.update.loop"=true:=by decide +kernel
def N4:entryFor table "dict.update.loop"=some Builtin.«dict.update.loop»:=entryFor_of_fast (by kernel_rfl)
section
variable{prog:Program}{w:World}{A:Around}{E:Value->Shared->Prop}{s:Shared}
def YS{xs:Array Value}{k:Nat}{Q:Option Value->Shared->Prop}(hx:s.heap.get? a=some { cls := .type "list",data := .seq xs k })(hA:A.handled=none)
  (h:∀h' tk,(∀b o,s.heap.get? b=some o->h'.get? b=some o)->Q none { s with heap:=h',toks:=tk }):wpAny (model prog w) A (getAttr? (.ref a) "keys") Q E s:=by
 obtain⟨hp,g,d,tk,os⟩:=s
 have hT:∀n,(⟨hp,g,d,n,os⟩:Shared).TypeIs (.ref a) "list":=λ_=>⟨_,hx,rfl⟩
 have g1:=sub_AttributeError
 have g2:=TK.lookup;have g3:=TK.bind (.ref a);have g4:=am_list_getattr_none
 unfold getAttr? getAttrBy? getAttrBy
 repeat (any_goals (first | assumption | exact hT _ | ((with_reducible show wpAny _ _ (call (Value.builtin "list.__getattribute__") _ _) _ _ _);refine call_meets TK (hT _) am_entry_list_getattribute (F.args_list_getattribute_2 _ _) (meets_getattribute_miss_list a xs k _ "keys" _ YR (by decide +kernel) (by decide)) ⟨hx,hA,λh' n e hn=>?_⟩) | wp_step))
 obtain⟨t',u',he⟩:=hn.there
 show wpAny _ _ (getattributeRaised _ _ _ _ _ _ _) _ _ _
 unfold getattributeRaised
 repeat (any_goals (first | assumption | wp_step))
 exact h _ _ hn.keeps
end
section
variable{prog:Program}{w:World}{A:Around}{R:Result->Shared->Prop}{I:Addr}{fp wr:List Addr}{n:Nat}{P:Nat->Value->Prop}{St:Nat->Heap->Prop}{KK:Type}[DecidableEq KK]{knd:KeyKind prog w KK}
theorem YT(W:Walks prog w A.in1 I fp wr n P St)(D:Addr)(N5:D∉fp)(ks:Nat->KK)(ky vl:Nat->Value)(tt:Nat->Addr)(hP:∀i v,P i v->v = .ref (tt i))(hk:∀i,i<n->knd.is (ks i) (ky i)=true)(ht:∀i,i<n->tt i∉wr/\tt i≠D)
  (L:Nat->List (KK×Value)) (hL:∀i,i<n->L (i+1)=stored (L i) (ks i) (vl i)) (hz:∀i,i<=n->(L i).length<=sizeLine) :
  ∀(k i:Nat) (s:Shared) (it:Tok),n - i=k->i<=n->St i s.heap->s.heap.DictOf knd D (L i)->(∀i,i<n->∃o c,s.heap.get? (tt i)=some o/\o.cls = .type "tuple"/\o.data = .seq #[ky i,vl i] c)->
  (∀h' tk,(∀b o,b∉wr->b≠D->s.heap.get? b=some o->h'.get? b=some o)->h'.DictOf knd D (L n)->R (.ok (.ret .none)) { s with heap:=h',toks:=tk })->
  codeAny (model prog w) A (.builtin "dict.update.loop" ⟨[.ref D,.ref I,.int i it,.none],[]⟩) R s:=by
 have N6:D∉wr:=λh=>N5 (W.sub _ h)
 intro k
 induction k with
 |zero=>
  intro i s it YU hi d9 hD GV hR
  have cI:i=n:=by lia
  subst cI
  refine EW N4 ?_
  rw[EX B4 _]
  show wpAny _ A.in1 (pyNext (.ref I) >>= _) _ _ s
  refine ah (W.done s _ _ d9 λh' tk ku=>?_)
  obtain⟨o,es,ep,ho,r⟩:=hD
  show wpAny _ A.in1 (Builtin.Dict.addKeywords D [] >>= _) _ _ _
  exact ah (aE (aE (hR h' tk (λb o hb _ e=>ku b o hb e) ⟨o,es,ep,ku D o N6 ho,r⟩)))
 |succ k ih=>
  intro i s it YU hi d9 hD GV hR
  have aY:i<n:=by lia
  refine EW N4 ?_
  rw[EX B4 _]
  show wpAny _ A.in1 (pyNext (.ref I) >>= _) _ _ s
  refine ah (W.item i s _ _ aY d9 λv h' tk hv vV ku=>?_)
  have vW:h'.DictOf knd D (L i):=by
   obtain⟨o,es,ep,ho,r⟩:=hD
   exact⟨o,es,ep,ku D o N6 ho,r⟩
  rw[hP i v hv]
  obtain⟨oT,cT,GW,B5,YV⟩:=GV i aY
  have N7:=ku _ _ (ht i aY).1 GW
  show wpAny _ A.in1 (holding _ _ >>= _) _ _ _
  refine ah (fE (ah (EY ?_)))
  unfold Builtin.Dict.pairItems
  refine ah (wpAny_typeOf (s:={ s with heap:=h',toks:=tk }) ⟨_,N7,B5⟩ ?_)
  rw[aC (by decide)]
  unfold seqItems?
  refine ah (ah (wpAny_load (s:={ s with heap:=h',toks:=tk }) N7 ?_))
  rw[YV]
  refine aE (aE ?_)
  refine fE (wpAny_dictSet_pairs (s:={ s with heap:=h',toks:=tk }) (hk i aY) vW (λh2 hd2 GX=>?_) (hz i (AO aY)))
  rw[<-hL i aY] at hd2
  refine aE ⟨A8 B4 _,ih (i+1) _ _ (by lia) aY (W.frame _ _ _ vV λb hb o e=>?_) hd2 (λj hj=>?_) λh3 GY eA gb=>?_⟩
  .exact GX.extBut b o (λz=>N5 (z ▸ hb)) e
  .obtain⟨o,c,h1,h2,h3⟩:=GV j hj
   exact⟨o,c,GX.extBut _ _ (ht j hj).2 (ku _ _ (ht j hj).1 h1),h2,h3⟩
  .exact hR h3 GY (λb o tJ N8 e=>eA b o tJ N8 (GX.extBut b o N8 (ku b o tJ e))) gb
end
section
variable{prog:Program}{w:World}{A:Around}{E:Value->Shared->Prop}{s:Shared}
def YW{l:Addr}{xs:Array Value}{k:Nat}(hx:s.heap.get? l=some { cls := .type "list",data := .seq xs k })(hA:A.handled=none)
  (h:∀h' tk,(∀b o,s.heap.get? b=some o->h'.get? b=some o)->h'.get? s.heap.objs.size=some { cls := .type "dict",data := .dict #[] }->wpAny (model prog w) A.in1.in1 (pyIter (.ref l)) (λit s1=>codeAny (model prog w) A.in1 (.builtin "dict.update.loop" ⟨[.ref s.heap.objs.size,it,rawInt 0,.none],[]⟩) (wants (λr s2=>r = .none/\Q (.ref s.heap.objs.size) s2) E) s1) E { s with heap:=h',toks:=tk }) :
  wpAny (model prog w) A (call (.type "dict") [.ref l]) Q E s:=by
 refine callType_codes (Q₁:=λobj s₁=>obj = .ref s.heap.objs.size/\s₁={ s with heap:=s.heap.push { cls := .type "dict",data := .dict #[] } }) F.kt_called_dict (F.kt_typeCall_dict_1 _) F.entry_dict_init (kt_code_dict_new _ ⟨rfl,rfl⟩) λobj s1 hq=>?_
 obtain⟨rfl,rfl⟩:=hq
 have N9:(s.heap.push { cls := .type "dict",data := .dict #[] }).get? s.heap.objs.size=some { cls := .type "dict",data := .dict #[] }:=cQ _ rfl
 have hT:Shared.TypeIs { s with heap:=s.heap.push { cls := .type "dict",data := .dict #[] } } (.ref s.heap.objs.size) "dict":=⟨_,N9,rfl⟩
 have nA:(s.heap.push { cls := .type "dict",data := .dict #[] }).get? l=some { cls := .type "list",data := .seq xs k }:=bq _ hx
 refine⟨hT,F.args_dict_init_2 _ _,?_⟩
 unfold Builtin.«dict.__init__» Builtin.Dict.selfAndRest
 refine ah (ah (wpAny_notOrdered_dict hT ?_))
 show wpAny _ _ (pure (s.heap.objs.size,[Value.ref l])) _ _ _
 refine aE ?_
 show wpAny _ _ (Builtin.Dict.updateFrom "dict.__init__" s.heap.objs.size (.ref l) [] .none) _ _ _
 unfold Builtin.Dict.updateFrom
 refine ah (wpAny_typeOf (s:={ s with heap:=s.heap.push { cls := .type "dict",data := .dict #[] } }) ⟨_,nA,rfl⟩ ?_)
 rw[aC (by decide)]
 refine ah (YS (s:={ s with heap:=s.heap.push { cls := .type "dict",data := .dict #[] } }) nA hA λh' tk kp=>?_)
 rw[aC (show(none:Option Value).isNone=true from rfl)]
 refine ah (vj ?_)
 refine ah (fC (h h' tk (λb o e=>kp b o (bq _ e)) (kp _ _ N9)) (λit s1 z=>aE ⟨A8 B4 _,z⟩) λ_ _ z=>z)
end
noncomputable def jh(ps:List (Str×V)):List (Key×V):=ps.foldl (λkvs p=>putK kvs (Sum.inr p.1) p.2) []
def Oa(ps:List (Str×V))(p:Str×V):jh (ps++[p])=putK (jh ps) (Sum.inr p.1) p.2:=by unfold jh;rw[List.foldl_append];rfl
noncomputable def strN(ks:Nat->Key)(vl:Nat->Value):Nat->List (Key×Value)
 |0=>[]
 |i+1=>stored (strN ks vl i) (ks i) (vl i)
theorem YX(kvs:List (Key×Value))(k:Key)(v:Value):(stored kvs k v).length<=kvs.length+1:=by
 unfold stored
 split
 .rw[av];lia
 .rw[d6];exact aQ _
theorem GZ(ks:Nat->Key)(vl:Nat->Value):∀i,(strN ks vl i).length<=i
 |0=>aQ _
 |i+1=>bL (YX _ _ _) (lu (GZ ks vl i))
theorem Ob{H:Hp}:∀{ts:List Addr}{ps:List (Str×V)},Paired (λt p=>H t=some (.tup [.str p.1,p.2])) ts ps->∀{i:Nat}{t:Addr},ts[i]? = some t->∃p,ps[i]? = some p/\H t=some (.tup [.str p.1,p.2])
 |_,_,.nil,_,_,h=>by cases h
 |_,_,.cons h1 h2,0,_,h=>⟨_,rfl,by cases h;exact h1⟩
 |_,_,.cons h1 h2,i+1,_,h=>Ob h2 (i:=i) (by simpa using h)
theorem YY(hc:X.calm=true):gV X (.type "dict") (λxs H Q=>∃(a:Addr) (ts:List Addr) (ps:List (Str×V)),xs=[.ref a]/\H a=some (.lst (ts.map V.ref))/\Paired (λt p=>H t=some (.tup [.str p.1,p.2])) ts ps/\ps.length<=10000/\
  ∀d,H d=none->Q (.ref d) (upd H d (.dK (jh ps)))):=by
 intro pins s O H xs us Q I r h
 obtain⟨l,ts,ps,rfl,hl,hp,hn,q⟩:=h
 obtain⟨u,rfl,ru⟩:=vals1 r
 cases ru
 obtain⟨z,its,n,rv,hlen,e⟩:=I.sQ hl
 have hh:X.A.handled=none:=I.ok.hd hc
 have tK:=gR hp
 rw[av] at hlen
 have yK:l<s.heap.objs.size:=bx e
 have ex:∀i:Nat,∃kv:Value×Value,∀(t:Addr) (p:Str×V),ts[i]? = some t->ps[i]? = some p->(d8 X.prog X.w).is (Sum.inr p.1) kv.1=true/\RelV p.2 kv.2/\IsTup s.heap t #[kv.1,kv.2]:=by
  intro i
  by_cases hi:i<ts.length
  .have e1:ts[i]? = some ts[i]:=bt hi
   have e2:ps[i]? = some ps[i]:=bt (by lia)
   obtain⟨p,gF,ht⟩:=Ob hp e1
   obtain⟨YZ,G0,hT,_⟩:=I.tuple (aA.of ht)
   obtain⟨a1,a2,rfl,r1,r2⟩:=vals2 G0
   obtain⟨tk,rfl⟩:=r1
   refine⟨(.str p.1 tk,a2),λt p' h1 h2=>?_⟩
   rw[e1] at h1
   rw[gF] at h2
   cases h1
   cases h2
   exact⟨LQ p.1 tk,r2,hT⟩
  .exact⟨(.none,.none),λt p h1=>by rw[di (by lia)] at h1;cases h1⟩
 obtain⟨f,hf⟩:=Classical.axiomOfChoice ex
 refine YW e hh λh' tk kp gH=>?_
 have e':=kp _ _ e
 have hD:h'.DictOf (d8 X.prog X.w) s.heap.objs.size (strN (λi=>Sum.inr (ps.getD i (⟨#[]⟩,.aw)).1) (λi=>(f i).2) 0):=⟨_,#[],0,gH,⟨rfl,rfl,rfl⟩,rfl,(λe he=>by simp at he),.nil,i4⟩
 have yL:h'.IsList l its.toArray:=⟨_,e',rfl,n,rfl⟩
 refine AQ (s:={ s with heap:=h',toks:=tk }) yL ?_
 have hsz:s.heap.objs.size<h'.objs.size:=bx gH
 have aY:l<h'.objs.size:=Nat.lt_trans yK hsz
 have gt:∀i,i<its.toArray.size->∃(t:Addr) (p:Str×V),ts[i]? = some t/\ps[i]? = some p/\its[i]? = some (.ref t):=λi hi=>by
  rw[br] at hi
  have e1:ts[i]? = some ts[i]:=bt (by lia)
  have e2:ps[i]? = some ps[i]:=bt (by lia)
  obtain⟨u,hu,ru⟩:=rv.get (i:=i) (x:=V.ref ts[i]) (by rw[bF,e1];rfl)
  cases ru
  exact⟨_,_,e1,e2,hu⟩
 refine YT (knd:=d8 X.prog X.w) (Walks.list (A:=X.A.in1.in1) hh _ l (bV aY) its.toArray) s.heap.objs.size ?_ (λi=>Sum.inr (ps.getD i (⟨#[]⟩,.aw)).1) (λi=>(f i).1) (λi=>(f i).2) (λi=>ts.getD i 0) (λi v hP=>?_) (λi hi=>?_) (λi hi=>?_)
  (strN (λi=>Sum.inr (ps.getD i (⟨#[]⟩,.aw)).1) (λi=>(f i).2)) (λi _=>rfl) (λi hi=>?_) its.toArray.size 0 _ _ (by lia) (bW _) ⟨⟨_,cQ _ rfl,rfl,rfl⟩,yL.push _⟩ (hD.push _) (λi hi=>?_) λh3 GY k3 d3=>⟨rfl,?_⟩
 .intro m
  have m:s.heap.objs.size=h'.objs.size\/s.heap.objs.size=l:=by simpa using m
  rcases m with m | m
  .exact bV hsz m
  .exact uY yK m
 .have hP:its[i]? = some v:=by simpa using hP
  have hi:i<its.toArray.size:=by rw[br];exact(bR.mp hP).1
  obtain⟨t,p,e1,_,e3⟩:=gt i hi
  rw[hP] at e3
  cases e3
  show _=Value.ref (ts.getD i 0)
  rw[cz,e1]
  rfl
 .obtain⟨t,p,e1,e2,_⟩:=gt i hi
  have:=(hf i t p e1 e2).1
  show(d8 X.prog X.w).is (Sum.inr (ps.getD i (⟨#[]⟩,.aw)).1) (f i).1=true
  rw[cz,e2]
  exact this
 .obtain⟨t,p,e1,e2,_⟩:=gt i hi
  obtain⟨o,ho,_⟩:=(hf i t p e1 e2).2.2
  have lT:=bx ho
  show ts.getD i 0∉[h'.objs.size]/\ts.getD i 0≠s.heap.objs.size
  rw[cz,e1]
  refine⟨λm=>?_,bV lT⟩
  exact bV (Nat.lt_trans lT hsz) (cJ.mp m)
 .have:=GZ (λi=>Sum.inr (ps.getD i (⟨#[]⟩,.aw)).1) (λi=>(f i).2) i
  rw[br] at hi
  have Oc:(10000:Nat)<=sizeLine:=by decide
  lia
 .obtain⟨t,p,e1,e2,_⟩:=gt i hi
  obtain⟨o,ho,By,c,hd2⟩:=(hf i t p e1 e2).2.2
  refine⟨o,c,?_,By,hd2⟩
  show(h'.push _).get? (ts.getD i 0)=_
  rw[cz,e1]
  exact bq _ (kp _ _ ho)
 .have kv:∀i,i<=ps.length->KV (jh (ps.take i)) (strN (λi=>Sum.inr (ps.getD i (⟨#[]⟩,.aw)).1) (λi=>(f i).2) i):=by
   intro i
   induction i with
   |zero=>intro _;rw[mS];exact .nil
   |succ i ih=>
    intro hi
    have e2:ps[i]? = some ps[i]:=bt hi
    obtain⟨t,p,e1,e3,_⟩:=gt i (by rw[br];lia)
    rw[e2] at e3
    cases e3
    rw[ik,e2]
    show KV (jh (ps.take i++[ps[i]])) (stored _ _ _)
    have eg:(ps.getD i (⟨#[]⟩,.aw))=ps[i]:=by rw[cz,e2];rfl
    dsimp only
    rw[Oa,eg]
    exact(ih (by lia)).put _ (hf i t _ e1 e2).2.1
  have G1:=kv ps.length (aQ _)
  rw[gs (aQ _)] at G1
  have en:its.toArray.size=ps.length:=by rw[br];lia
  rw[en] at d3
  have vX:(jh ps).length<=sizeLine:=by
   rw[G1.length]
   exact bL (GZ _ _ _) (bL hn (by decide))
  have fr:=I.fresh
  refine⟨.ref s.heap.objs.size,_,I.laid (a:=s.heap.objs.size) (o := .dK (jh ps)) (t':=GY) (λb o hb=>?_) (aQ _) (MV vX (uV.mpr (aP (bV I.big))) G1 d3),rfl,q _ fr⟩
  have ir:=bx hb
  refine k3 b o (λm=>?_) (bV ir) (bq _ (kp _ _ hb))
  exact bV (Nat.lt_trans ir hsz) (cJ.mp m)
def Y0:bootBuiltins "dict"=some (.type "dict"):=by decide +kernel
section
variable{prog:Program}{w:World}{KK:Type}[DecidableEq KK]{knd:HeapKind prog w KK}{A:Around}{E:Value->Shared->Prop}{s:Shared}
theorem Y1{d:Addr}{xs:List (KK×Addr×Value)}{k:KK}{v:Value}(hu:knd.room A)(xY:knd.is s.heap k a)(hm:s.heap.DictOfH knd d xs)(hz:xs.length<=sizeLine)
  (old:∀p,atKey xs k=some p->Q p.2 { s with toks:=s.toks+knd.draws k })
  (new:atKey xs k=none->∀h',h'.DictOfH knd d (storedH xs k a v)->Heap.SameBut d s.heap h'->Q v { s with heap:=h',toks:=s.toks+knd.draws k }):wpAny (model prog w) A (dictSetDefault d (.ref a) v) Q E s:=by
 obtain⟨o,es,ep,ho,hc,hd,he,Od,hn⟩:=hm
 unfold dictSetDefault
 refine fE (ah (knd.pyHash hu xY (ah (wpAny_dictFind_heap (s:={ s with toks:=s.toks+knd.draws k }) hu xY ho hd he Od hn (λiN=>?_) λj p hj=>?_))))
 .have e0:=atKey_none_of_get iN
  have Y2:k∉xs.map (·.1):=not_mem_keys_of_get iN
  have ez:=size_of_entries he
  have nw:=new e0
  rw[storedH_new e0] at nw
  refine ah (vj (ah (wpAny_updateDictKeys (hz:=by lia) (s:={ s with toks:=s.toks+knd.draws k }) ho hd (aE (nw _ ⟨_,_,ep+1,nX _ ho (Obj.isFreed_of_dict (Obj.data_mapDictKeys hd _)),hc.mapDictKeys _,Obj.data_mapDictKeys hd _,?_,λx hx=>?_,?_⟩ (A3 ..))))))
  .simp[he,entryOfKey]
  .rcases dR.mp hx with hx | hx
   .exact knd.keeps (Od x hx) ho hd (A3 ..)
   .rw[cJ.mp hx]
    exact knd.keeps xY ho hd (A3 ..)
  .rw[fG,rZ]
   exact⟨hn,by simp,λx hx y hy z=>Y2 (by rw[<-show y=k by simpa using hy,<-z];exact hx)⟩
 .refine ah (wpAny_dictEntries (s:={ s with toks:=s.toks+knd.draws k }) ho hd ?_)
  rw[entry_at he j,hj]
  exact ah (vj (aE (old p (atKey_of_get hn hj))))
end
section
variable{X:Cx}{pins:List (Addr×Obj)}{O:St}{H:Hp}{s:Shared}{a b:Addr}{A:Around}{E:Value->Shared->Prop}{kvs:List (List Key×V)}{k:List Key}{z:V}{r:Value}
theorem Y3(hu:A.units+1<cLine)(I:Inv X pins O H s)(e:H a=some (.dT kvs))(eb:H b=some (.tup (k.map kV)))(hl:kvs.length<sizeLine)(rz:RelV z r)
  (old:∀v,aM kvs k=some v->∀u s',Inv X pins O H s'->RelV v u->Q u s') (new:aM kvs k=none->∀s',Inv X pins O (upd H a (.dT (putK kvs k z))) s'->Q r s') :
  wpAny (model X.prog X.w) A (call (.builtin "dict.setdefault") [.ref a,.ref b,r]) Q E s:=by
 obtain⟨hz,hd,xs,rel,dd⟩:=MU I.ar e
 refine qg PySem.F.slot_dict_setdefault dd.typeIs PySem.F.entry_dict_setdefault ?_ (PySem.F.args_dict_setdefault_3 _ _ _)
 unfold Builtin.«dict.setdefault» Builtin.Dict.keyAndDefault
 refine ah (ah (wpAny_notOrdered_dict dd.typeIs ?_))
 show wpAny _ A.in1 (pure (a,Value.ref b,some r)) _ _ s
 refine aE ?_
 show wpAny _ A.in1 (if (a==sysModules)=true then _ else (dictSetDefault a (.ref b) r >>= λv=>ret v)) _ _ s
 rw[au (show ¬(a==sysModules)=true by rw[hd];decide)]
 refine ah (Y1 (AW hu) (sW I.ar eb) dd (by rw[<-gR rel];exact hz) (λp hp=>?_) λhp h' sY hs=>?_)
 .obtain⟨v,hv,rv⟩:∃v,aM kvs k=some v/\RelV v p.2:=by
   have:=rel.val k
   rw[hp] at this
   cases hv:aM kvs k with
   |none=>rw[hv] at this;exact this.elim
   |some v=>rw[hv] at this;exact⟨v,rfl,this⟩
  exact aE ⟨_,rfl,old v hv _ _ (I.tok _) rv⟩
 .have hv:aM kvs k=none:=by
   have:=rel.val k
   rw[hp] at this
   cases hv:aM kvs k with
   |none=>rfl
   |some v=>rw[hv] at this;exact this.elim
  have vJ:(putK kvs k z).length<=sizeLine:=by have:=sT kvs k z;lia
  refine aE ⟨_,rfl,new hv _ ?_⟩
  obtain⟨q,es,ep,hq,h2,h3,h4,_,h5⟩:=sY
  refine FX I (by rw[e];exact True.intro) hs ⟨q,hq⟩ ⟨vJ,hd,_,(rel.put k eb rz).keeps λc ys ec=>?_,q,es,ep,hq,h2,h3,h4,h5⟩
  rw[ak (bS ec e (λz=>nomatch z))]
  exact ec
end
section
variable{X:Cx}{o e f:Expr}{td ty tx:TE}{apos cZ:Pos}
def Y4(td ty tx:TE):TE:=λO H Q=>td O H λx H1=>∃a,x = .ref a/\FZ H1 a/\ty O H1 λy H2=>tx O H2 λz H3=>∃kvs k b,H3 a=some (.dT kvs)/\y = .ref b/\H3 b=some (.tup (k.map kV))/\kvs.length<sizeLine/\
 (∀v,aM kvs k=some v->Q v H3)/\(aM kvs k=none->Q z (upd H3 a (.dT (putK kvs k z))))
def Y5(hu:X.A.units+1<cLine)(ho:PE X o td)(he:PE X e ty)(hf:PE X f tx)(m:M2 X o "setdefault" apos e f cZ):PE X (.Call (.Attribute o "setdefault" apos) [e,f] [] cZ) (Y4 td ty tx):=by
 intro pins s O H Q I h
 refine wpAny_Call_method m.base m.iw m.line PySem.F.plainAttrs_dict PySem.F.slot_dict_setdefault PySem.F.type_dict_setdefault (aD (ho pins s O H _ I h) λu s1 h_=>?_)
 obtain⟨x,H1,I1,rx,a,ex,d,q1⟩:=h_
 subst ex
 obtain rfl:u=Value.ref a:=rx
 obtain⟨t1,t2,_⟩:=MY I1 d
 refine⟨t1,t2,?_⟩
 rw[m.trees]
 refine Tw rfl (Tx (EE (aD (he pins s1 O H1 _ I1 q1) λiv s2 ⟨y,H2,I2,ry,q2⟩=>EE (aD (hf pins s2 O H2 _ I2 q2) λfv s3 ⟨z,H3,I3,rz,kvs,k,b,ea,ey,eb,hl,q3,q4⟩=>Calls.spliced_nil ?_))))
 subst ey
 obtain rfl:iv=Value.ref b:=ry
 exact Y3 hu I3 ea eb hl rz (λv hv u s4 I4 ru=>⟨v,H3,I4,ru,q3 v hv⟩) λhv s4 I4=>⟨z,_,I4,rz,q4 hv⟩
end
section
variable{prog:Program}{w:World}{A:Around}{R:Result->Shared->Prop}{I:Addr}{fp wr:List Addr}{n:Nat}{P:Nat->Value->Prop}{St:Nat->Heap->Prop}
def nB(h:Heap)(t:Addr)(a b:Int):Prop := ∃u v:Tok,IsTup h t #[.int a u,.int b v]
def nB.ext{t:Addr}{a b:Int}(x:nB h t a b)(k:∀o,h.get? t=some o->h'.get? t=some o):nB h' t a b:=let ⟨u,v,o,ho,r⟩:=x;⟨u,v,o,k o ho,r⟩
def Y6{t t':Addr}{a b a' b':Int}(x:nB s.heap t a b)(y:nB s.heap t' a' b')(hu:A.units<cLine)(h:Q (.bool (HT.lexLt [a,b] [a',b'])) s) :
  wpAny (model prog w) A (richCompare .Lt (.ref t) (.ref t')) Q E s:=by
 obtain⟨u,v,p⟩:=x
 obtain⟨u',v',p'⟩:=y
 exact HT.VE p p' (.cons a u (.cons b v .nil)) (.cons a' u' (.cons b' v' .nil)) hu h
theorem Oe{a b a' b':Int}:(HT.lexLt [a,b] [a',b']=true->a<=a')/\(HT.lexLt [a,b] [a',b']=false->a'<=a):=by
 rw[HT.Mz]
 by_cases e:a=a'
 .exact⟨λ_=>by lia,λ_=>by lia⟩
 .rw[au e]
  exact⟨λh=>by have:=gr h;lia,λh=>by have:=of_decide_eq_false h;lia⟩
theorem Y7(W:Walks prog w A.in1 I fp wr n P St)(bs:Addr)(vY:bs∉fp)(hu:A.in1.units<cLine)(tt:Nat->Addr)(fa fb:Nat->Int)(hP:∀i v,P i v->v = .ref (tt i))(ht:∀i,i<n->tt i∉wr/\tt i≠bs) :
  ∀(k j:Nat) (s:Shared) (b c:Nat),n - (j+1)=k->j+1<=n->St (j+1) s.heap->b<=j->(∀i,i<=j->fa b<=fa i)->s.heap.get? bs=some { cls := .type "list",data := .seq #[.ref (tt b),.ref (tt b)] c }->(∀i,i<n->nB s.heap (tt i) (fa i) (fb i))->
  (∀b h' tk,b<n->(∀i,i<n->fa b<=fa i)->(∀x o,x∉wr->x≠bs->s.heap.get? x=some o->h'.get? x=some o)->R (.ok (.ret (.ref (tt b)))) { s with heap:=h',toks:=tk })->
  codeAny (model prog w) A (.builtin "min.loop" ⟨[.ref I,.none,.ref bs],[]⟩) R s:=by
 have tJ:bs∉wr:=λh=>vY (W.sub _ h)
 have vZ:(toString "min"++toString ".loop":String)="min.loop":=by decide
 intro k
 induction k with
 |zero=>
  intro j s b c hk hj d9 hb kD hS hT hR
  have cI:j+1=n:=by lia
  refine EW F.entry_min_loop ?_
  rw[EX xG _]
  show wpAny _ A.in1 (seqItems? (.ref bs) >>= _) _ _ s
  refine ah (n5 hS rfl ?_)
  show wpAny _ A.in1 (tryCatch (pyNext (.ref I)) _ >>= _) _ _ s;refine ah (EY (W.done s _ _ (by rw[<-cI];exact d9) λh' tk kp=>?_))
  have qH:=kp bs _ tJ hS
  show wpAny _ A.in1 (updateSeq bs (λ_=>#[]) >>= _) _ _ _
  refine ah (wpAny_updateSeq qH rfl (ah (xF (aE (hR b _ tk (by lia) (λi hi=>kD i (by lia)) λx o h1 h2 e=>(gT _ _ (aP h2)).trans (kp x o h1 e))))))
 |succ k ih=>
  intro j s b c hk hj d9 hb kD hS hT hR
  have aY:j+1<n:=by lia
  refine EW F.entry_min_loop ?_
  rw[EX xG _]
  show wpAny _ A.in1 (seqItems? (.ref bs) >>= _) _ _ s
  refine ah (n5 hS rfl ?_)
  show wpAny _ A.in1 (tryCatch (pyNext (.ref I)) _ >>= _) _ _ s;refine ah (EY (W.item (j+1) s _ _ aY d9 λv h' tk hv vV kp=>?_))
  have qH:=kp bs _ tJ hS
  have B6:∀i,i<n->nB h' (tt i) (fa i) (fb i):=λi hi=>(hT i hi).ext λo e=>kp _ o (ht i hi).1 e
  rw[hP _ v hv]
  show wpAny _ A.in1 (tryCatch (holding _ (richCompare .Lt (.ref (tt (j+1))) (.ref (tt b)) >>= _)) _ >>= _) _ _ _
  refine ah (EY (fE (ah (Y6 (s:={ s with heap:=h',toks:=tk }) (B6 _ aY) (B6 b (by lia)) hu ?_))))
  refine ah (fE (qf (ah (xF (aE ?_)))))
  cases hc:HT.lexLt [fa (j+1),fb (j+1)] [fa b,fb b] with
  |true=>
   have h1:=Oe.1 hc
   simp only[j4]
   refine ah (wpAny_updateSeq qH rfl (ah (xF ?_)))
   rw[vZ]
   refine aE ⟨A8 xG _,ih (j+1) _ (j+1) _ (by lia) aY (W.frame _ _ _ vV λx hx o e=>?_) (aQ _) (λi hi=>?_) (nX _ qH rfl) (λi hi=>(B6 i hi).ext λo e=>(gT _ _ (aP (ht i hi).2)).trans e) λb' h2 jK q1 q2 q3=>hR b' h2 jK q1 q2 λx o h1 h2 e=>q3 x o h1 h2 ((gT _ _ (aP h2)).trans (kp x o h1 e))⟩
   .exact(gT _ _ (λz:bs=x=>vY (by rw[z];exact hx))).trans e
   .rcases Nat.lt_or_ge j i with z | z
    .rw[show i=j+1 by lia];exact xH _
    .have:=kD i z;lia
  |false=>
   have h1:=Oe.2 hc
   simp only[AX,rR]
   refine ah (xF ?_)
   rw[vZ]
   refine aE ⟨A8 xG _,ih (j+1) _ b c (by lia) aY vV (by lia) (λi hi=>?_) qH B6 λb' h2 jK q1 q2 q3=>hR b' h2 jK q1 q2 λx o h1 h2 e=>q3 x o h1 h2 (kp x o h1 e)⟩
   rcases Nat.lt_or_ge j i with z | z
   .rw[show i=j+1 by lia];exact h1
   .exact kD i z
theorem Y8(W:Walks prog w A.in1 I fp wr n P St)(bs:Addr)(vY:bs∉fp)(hu:A.in1.units<cLine)(tt:Nat->Addr)(fa fb:Nat->Int)(hP:∀i v,P i v->v = .ref (tt i))(ht:∀i,i<n->tt i∉wr/\tt i≠bs)(hn:0<n){c:Nat}(d9:St 0 s.heap)
  (hS:s.heap.get? bs=some { cls := .type "list",data := .seq #[] c }) (hT:∀i,i<n->nB s.heap (tt i) (fa i) (fb i))
  (hR:∀b h' tk,b<n->(∀i,i<n->fa b<=fa i)->(∀x o,x∉wr->x≠bs->s.heap.get? x=some o->h'.get? x=some o)->R (.ok (.ret (.ref (tt b)))) { s with heap:=h',toks:=tk }) :
  codeAny (model prog w) A (.builtin "min.loop" ⟨[.ref I,.none,.ref bs],[]⟩) R s:=by
 have tJ:bs∉wr:=λh=>vY (W.sub _ h)
 have vZ:(toString "min"++toString ".loop":String)="min.loop":=by decide
 refine EW F.entry_min_loop ?_
 rw[EX xG _]
 show wpAny _ A.in1 (seqItems? (.ref bs) >>= _) _ _ s
 refine ah (n5 hS rfl ?_)
 show wpAny _ A.in1 (tryCatch (pyNext (.ref I)) _ >>= _) _ _ s;refine ah (EY (W.item 0 s _ _ hn d9 λv h' tk hv vV kp=>?_))
 have qH:=kp bs _ tJ hS
 rw[hP _ v hv]
 show wpAny _ A.in1 (updateSeq bs (λ_=>#[.ref (tt 0),.ref (tt 0)]) >>= _) _ _ _
 refine ah (wpAny_updateSeq qH rfl ?_)
 rw[vZ]
 refine aE ⟨A8 xG _,Y7 W bs vY hu tt fa fb hP ht _ 0 _ 0 _ rfl hn (W.frame _ _ _ vV λx hx o e=>?_) (aQ _) (λi hi=>?_) (nX _ qH rfl) (λi hi=>((hT i hi).ext λo e=>kp _ o (ht i hi).1 e).ext λo e=>(gT _ _ (aP (ht i hi).2)).trans e)
  λb' h2 jK q1 q2 q3=>hR b' h2 jK q1 q2 λx o h1 h2 e=>q3 x o h1 h2 ((gT _ _ (aP h2)).trans (kp x o h1 e))⟩
 .exact(gT _ _ (λz:bs=x=>vY (by rw[z];exact hx))).trans e
 .rw[show i=0 by lia];exact xH _
end
section
variable{X:Cx}
theorem Y9(hc:X.calm=true)(hu:X.A.units+4<cLine):gV X (.builtin "min") (λxs H Q=>∃(a:Addr) (ts:List Addr) (ps:List (Int×Int)),xs=[.ref a]/\H a=some (.lst (ts.map V.ref))/\Paired (λt p=>H t=some (.tup [.int p.1,.int p.2])) ts ps/\0<ps.length/\
  ∀(b:Nat) (t:Addr) (p:Int×Int),ts[b]? = some t->ps[b]? = some p->(∀q∈ps,p.1<=q.1)->Q (.ref t) H):=by
 intro pins s O H xs us Q I r h
 obtain⟨l,ts,ps,rfl,hl,hp,hn,q⟩:=h
 obtain⟨u,rfl,ru⟩:=vals1 r
 cases ru
 obtain⟨z,its,n,rv,hlen,e⟩:=I.sQ hl
 have hh:X.A.handled=none:=I.ok.hd hc
 have tK:=gR hp
 rw[av] at hlen
 have yK:l<s.heap.objs.size:=bx e
 have yL:s.heap.IsList l its.toArray:=⟨_,e,rfl,n,rfl⟩
 have gt:∀i,i<ts.length->∃(t:Addr) (p:Int×Int),ts[i]? = some t/\ps[i]? = some p/\its[i]? = some (.ref t)/\nB s.heap t p.1 p.2:=λi hi=>by
  have e1:ts[i]? = some ts[i]:=bt hi
  obtain⟨p,gF,ht⟩:=Paired.getL hp e1
  obtain⟨u,hu,ru⟩:=rv.get (i:=i) (x:=V.ref ts[i]) (by rw[bF,e1];rfl)
  cases ru
  obtain⟨YZ,G0,hT,_⟩:=I.tuple (aA.of ht)
  obtain⟨a1,a2,rfl,r1,r2⟩:=vals2 G0
  obtain⟨t1,rfl⟩:=r1
  obtain⟨t2,rfl⟩:=r2
  exact⟨_,p,e1,gF,hu,t1,t2,hT⟩
 refine call_function_tree F.kind_min F.plain_min F.entry_min (F.args_min1 _) ?_
 show wpAny _ X.A.in1 (Builtin.Builtins.bindParams "min" ["key","default"] 0 ⟨[],[]⟩ >>= _) _ _ s
 refine ah (rW (a:=[none,none]) rfl (ah (aE (ah (AQ yL ?_)))))
 refine ah (mR ?_)
 have vZ:(toString "min"++toString ".loop":String)="min.loop":=by decide
 rw[vZ]
 have z1:(s.heap.push { cls := .type "list_iterator",data := .fields #[.ref l,.int 0 0] }).objs.size=s.heap.objs.size+1:=A4 _ _
 refine aE ⟨A8 xG _,Y8 (Walks.list (A:=X.A.in1) hh s.heap.objs.size l (bV yK) its.toArray) _ ?_ (by show X.A.units+1<cLine;lia) (λi=>ts.getD i 0) (λi=>(ps.getD i (0,0)).1) (λi=>(ps.getD i (0,0)).2) (λi v hP=>?_) (λi hi=>?_) (by rw[br];lia)
  ⟨⟨_,bq _ (cQ _ rfl),rfl,rfl⟩,(yL.push _).push _⟩ (cQ _ rfl) (λi hi=>?_) λb h' tk hb hm kp=>?_⟩
 .intro m
  have m:(s.heap.push { cls := .type "list_iterator",data := .fields #[.ref l,.int 0 0] }).objs.size=s.heap.objs.size\/(s.heap.push { cls := .type "list_iterator",data := .fields #[.ref l,.int 0 0] }).objs.size=l:=by simpa using m
  rw[z1] at m
  rcases m with m | m
  .exact uY (uZ _) m
  .exact uY (rV yK) m
 .have hP:its[i]? = some v:=by simpa using hP
  obtain⟨t,p,e1,_,e3,_⟩:=gt i (by have:=(bR.mp hP).1;lia)
  rw[hP] at e3
  cases e3
  show _=Value.ref (ts.getD i 0)
  rw[cz,e1]
  rfl
 .obtain⟨t,p,e1,e2,_,x,y,o,ho,_⟩:=gt i (by rw[br] at hi;lia)
  have lT:=bx ho
  show ts.getD i 0∉[s.heap.objs.size]/\ts.getD i 0≠(s.heap.push _).objs.size
  rw[cz,e1,z1]
  exact⟨λm=>bV lT (cJ.mp m),bV (rV lT)⟩
 .obtain⟨t,p,e1,e2,_,hT⟩:=gt i (by rw[br] at hi;lia)
  show nB _ (ts.getD i 0) (ps.getD i (0,0)).1 (ps.getD i (0,0)).2
  rw[cz,cz,e1,e2]
  exact hT.ext λo e=>bq _ (bq _ e)
 .obtain⟨t,p,e1,e2,_⟩:=gt b (by rw[br] at hb;lia)
  have et:ts.getD b 0=t:=by rw[cz,e1];rfl
  have ep:ps.getD b (0,0)=p:=by rw[cz,e2];rfl
  show EP X pins O Q (.ref (ts.getD b 0)) _
  rw[et]
  refine⟨.ref t,H,I.kept (t':=tk) (λx o hx=>?_),rfl,q b t p e1 e2 λp' fO=>?_⟩
  .have qI:=bx hx
   exact kp x o (λm=>bV qI (cJ.mp m)) (by show x≠(s.heap.push _).objs.size;rw[z1];exact bV (rV qI)) (bq _ (bq _ hx))
  .obtain⟨i,hi⟩:=eS fO
   have Of:=(bR.mp hi).1
   have:=hm i (by rw[br];lia)
   rw[ep,cz,hi] at this
   exact this
end
structure tL(K:Frag)(mg:Str->Option Value)(x:Str)(C:Addr):Prop where
 Og:makesIn K C=true
 it:findIn K (.ref C) "__init__"=some (some (.builtin "object.__init__"))
 kp:keepIn K (.ref C)=true
 gl:mg x=some (.ref C)
def Za(C:Addr):TE:=λ_ H Q=>∀x dx,H x=none->H dx=none->dx≠x->Q (.ref x) (upd (upd H dx (.own x)) x (.ins C dx []))
def G2(N:tL X.K X.mg x C)(hg:Gl X x)(cU:(x==("__debug__":Str))=false:=by decide):PE X (.Call (.Name x p) [] [] pos) (Za C):=by
 intro pins s O H Q I h
 refine nW (lG I hg N.gl ?_ cU)
 refine PySem.W.callWith_K0 I.bN N.kp (jw (Vb I.bN N.Og N.it (λself=>Looks.of_pure (PySem.W.oi_bind self)) ?_))
 have I2:=Inv.made (C:=C) I
 have q:=h (s.heap.objs.size+1) s.heap.objs.size (I.ar.fresh (fF _)) (I.ar.fresh (aQ _)) (bV (uZ _))
 have Y:=PySem.W.makes_of (M:=model X.prog X.w) I.bN N.Og
 have e2:((s.heap.push emptyDict).push (instObj C s.heap.objs.size)).get? (s.heap.objs.size+1)=some (instObj C s.heap.objs.size):=by
  have:((s.heap.push emptyDict).push (instObj C s.heap.objs.size)).get? (s.heap.push emptyDict).objs.size=some (instObj C s.heap.objs.size):=cQ _ rfl
  rwa [j3] at this
 have lt:Looks (model X.prog X.w) ((s.heap.push emptyDict).push (instObj C s.heap.objs.size)) (typeOf (.ref (s.heap.objs.size+1))) (.ref C):=(Looks.ld e2).andThen .now
 have lk:Looks (model X.prog X.w) ((s.heap.push emptyDict).push (instObj C s.heap.objs.size)) (isInstance (.ref (s.heap.objs.size+1)) (.type "object")) true:=lt.andThen (Y.top.keeps λb o e=>bq _ (bq _ e))
 refine A9 PySem.W.oi_plain PySem.W.entry_oi (@EZ (model X.prog X.w) _ _ _ "object.__init__" "object" "__init__" (.ref (s.heap.objs.size+1)) [] [] _ PySem.W.oi_kind PySem.W.oi_split lk (PySem.W.oi_args _) ?_)
 rw[PySem.W.oi_run]
 exact aE ⟨rfl,.ref (s.heap.objs.size+1),_,I2,rfl,q⟩
structure Zb(K:Frag)(C:Addr):Prop where
 cl:cS K C
 ha:findIn K (.ref C) "__class__"=some (some (.builtin "object.__class__"))
 hn:specialIn K (.builtin "object.__class__") "__get__"=some (some (.builtin "getset_descriptor.__get__"))
 ht:takesIn K (.builtin "object.__class__")=some true
 hm:mroIn K C (.type "object")=some true
section
variable{X:Cx}{pins:List (Addr×Obj)}{O:St}{H:Hp}{s:Shared}
noncomputable def fD(K:Frag)(H:Hp)(e:D)(u:Value):Bool :=@decide (∃d x,At K H d x/\RelV x u/\fg d e=true) (Classical.propDecidable _)
def Zc(I:Inv X pins O H s){d e:D}{x:V}(a:At X.K H d x)(r:RelV x u):fD X.K H e u=fg d e:=by
 unfold fD
 rw[ED]
 constructor
 .intro hh
  obtain⟨d',x',a',r',h⟩ :=@gr _ (Classical.propDecidable _) hh
  have ex:=r.inj r'
  subst ex
  rw[At.inj I d d' x a a']
  exact h
 .intro h
  exact @aU _ (Classical.propDecidable _) ⟨d,x,a,r,h⟩
theorem Oh(I:Inv X pins O H s){e:D}{y:V}{v:Value}{A:Around}(hu:A.units+50<cLine)(ae:At X.K H e y)(ry:RelV y v):∀{ds:List D}{xs:List V}{us:List Value},dU X.K H ds xs->Vals xs us->fN ds<=50->(∀u∈us,SeqAt.EqAt A s u v (fD X.K H e u))/\us.any (fD X.K H e)=ds.any λd=>fg d e
 |[],xs,us,a,r,_=>by
  rw[dU] at a
  subst a
  cases r
  exact⟨λu m=>by(cases m),rfl⟩
 |d::ds,xs,us,a,r,hd=>by
  rw[dU] at a
  obtain⟨x,xr,rfl,a1,a2⟩:=a
  cases r with
  |cons r1 r2=>
   rw[fN] at hd
   obtain⟨i1,i2⟩:=Oh I hu ae ry a2 r2 (by lia)
   have ef:=Zc I (e:=e) a1 r1
   refine⟨λu m=>?_,?_⟩
   .rcases cx.mp m with z | z
    .subst z
     rw[ef]
     exact Np I d e x y _ v A 50 (by lia) hu a1 ae r1 ry
    .exact i1 u z
   .rw[u9,u9,ef,i2]
def Zd(K:Frag)(neg:Bool):R2:=λx y H Q=>∃p xs ds e,y = .ref p/\aq K H p xs/\dU K H ds xs/\At K H e x/\fN ds<=50/\Q (.bl (if neg then !(ds.any λd=>fg d e) else ds.any λd=>fg d e)) H
theorem Oi(hu:X.A.units+64<cLine):dC X (compareOp .In) (Zd X.K false):=by
 intro pins s O H x y v u Q I rx ry h
 obtain⟨p,xs,ds,e,rfl,hq,ad,ae,hd,q⟩:=h
 cases ry
 obtain⟨its,r,pl,hz⟩:=I.list hq
 obtain⟨h1,h2⟩:=Oh I (A:=X.A.in1) (by show X.A.units+1+50<cLine;lia) ae rx ad r hd
 refine SeqAt.in_listAt (fD X.K H e) pl.isList (λw hw=>h1 w (by simpa using hw)) ⟨.bl _,H,I,rfl,?_⟩
 rw[show its.toArray.any (fD X.K H e)=its.any (fD X.K H e) by simp,h2]
 exact q
end
end L2
namespace L2
open PySem
theorem oU{α:Type}[DecidableEq α]:∀{l m:List α},l.Nodup->(∀x∈l,x∈m)->l.length<=m.length
 |[],m,_,_=>bW _
 |a::l,m,nd,h=>by
  have ha:=h a bK
  have h1:=oU (ig.mp nd).2 (m:=m.erase a) λx mx=>(List.mem_erase_of_ne λz:x=a=>(ig.mp nd).1 (by rw[<-z];exact mx)).mpr (h x (cW _ mx))
  rw[List.length_erase_of_mem ha] at h1
  have:=TL ha
  rw[eJ]
  lia
end L2
namespace L2
open PySem PySem.Spec PyProof.Rows
variable{vs:Array Value}{js:List Nat}{O:St}{E Q:Value->Shared->Prop}{m mN mg:Str->Option Value}{C S e f fI u:Addr}{oI ox:Obj}{dx od:Option Addr}{cd d v:Value}{expr:Bool}{P:Program}{w:World}{H H':Hp}{base h:Heap}{ch:List Addr}{M:Model}{A:Around}{fl g:Value->Prop}{pins pm pn vp:List (Addr×Obj)}{n qual:Str}{X:Cx}{s s':Shared}{K:Frag}{N ps:List Str}{scope:Scope}{outer:List Env}{st:Stmt}{x:Sem Value}{fd:FuncData}{sp:Sp}{pl:Sem Bool}{pos:Pos}{bm tP us wc:List Value}{a o:Expr}{ta:TE}
theorem Ze{J:It}{Ok:Hp->Prop}{vs:List V}{tt:TT}{te:TE}{H1:Hp}{Q:VK}(S:ni J Ok vs)(hn:vs.length<=10000)(R:Addr->Nat->List V->Hp->Prop)
  (h0:∀D,H1 D=none->R D 0 [] (upd H1 D (.lst []))) (hR:∀D i ys H,R D i ys H->Ok H/\ys.length<=i)
  (hs:∀D i x ys H (Z0:Hp->Prop) (Z:V->Hp->Prop),H1 D=none->vs[i]? = some x->R D i ys H->(∀H2,R D (i+1) ys H2->Z0 H2)->(∀y H3,H3 D=some (.lst ys)->R D (i+1) (ys++[y]) (upd H3 D (.lst (ys++[y])))->Z y H3)->
   tt (some x::fM js O) H λb H2=>if b=true then te (some x::fM js O) H2 Z else Z0 H2)
  (hd:∀D ys H,H1 D=none->R D vs.length ys H->Q (.ref D) H):BU js tt te O J H1 Q:=by
 intro D hD
 have hz:10000<sizeLine:=by decide
 refine⟨λi m H=>m=vs.length - i/\i<=vs.length/\∃ys,R D i ys H,⟨vs.length,by simp,bW _,[],h0 D hD⟩,?_⟩
 rintro i m H ⟨rfl,hi,ys,r⟩
 obtain⟨ok,ln⟩:=hR D i ys H r
 by_cases aY:i<vs.length
 .refine .inr ⟨S.go i H ok aY,λx H' y=>?_⟩
  obtain⟨e,yy⟩:=S.gB i H x H' ok aY y
  subst e
  refine hs D i x ys H' _ _ hD yy r (λH2 h=>?_) (λz H3 h1 h2=>?_)
  .exact⟨vs.length - (i+1),by lia,rfl,aY,ys,h⟩
  .exact⟨ys,h1,by lia,vs.length - (i+1),by lia,rfl,aY,_,h2⟩
 .have e:i=vs.length:=by lia
  subst e
  exact .inl ⟨S.stop H ok,hd D ys H hD r⟩
section
variable{prog:Program}{w:World}{A:Around}{E:Value->Shared->Prop}{h:Heap}{g:Array GenState}{d:Drawn}{t:Nat}{os:OsState}
variable{nm q:Str}{C N:Addr}{bs bm tM:List Value}{fh:Bool}{sn:List Str}{sub:List Value}{ab:Bool}{col:Option Bool}{dd:Option Addr}{k0 k1 k2 k3 k5:Option Value}{B newId yM:String}
noncomputable abbrev kE(C:Addr)(u:Addr):Obj:={ cls := .ref C,data := .fields #[.ref u,.none,.none,.none,.bool false,.none] }
noncomputable abbrev jM(vs:List Value):Obj:={ cls := .type "tuple",data := .seq vs.toArray }
def Zf(F:ExcBaseFacts B newId yM tM)(T:OwnTail h tM bm){vs:List Value}{Q:Fin->Shared->Prop}
  (hC:h.get? C=some (excClassObj nm q C N bs bm fh sn sub ab col dd k0 k1 k2 k3 k5 newId)) (hn:h.Ns N mN) (hi:mN "__init__"=some (.ref fI)) (hf:h.get? fI=some oI) (yN:oI.cls = .type "function") (hz:vs.length<=sizeLine)
  (fin:wpAny (model prog w) A (call (.ref fI) (.ref (h.objs.size+1)::vs)) (λr s'=>r = .none/\Q (.done (.ret (.ref (h.objs.size+1)))) s') E ⟨(h.push (jM vs)).push (kE C h.objs.size),g,d,t,os⟩) :
  wpAny (model prog w) A (Builtin.«type.__call__» ⟨.ref C::vs,[]⟩) Q E ⟨h,g,d,t,os⟩:=by
 repeat (first | with_reducible refine mT hC ?_ | with_reducible refine wpAny_madeBy_exc hC ?_ | wp_step)
 refine codeAny_call_builtin_code (LF _ F.quiet) (wpAny_check_new_subT F T hC (codeAny_exc_new_subT F T hC ?_ hz))
 show wpAny _ _ _ _ _ _
 have up:∀b o,h.get? b=some o->((h.push (jM vs)).push (kE C h.objs.size)).get? b=some o:=λb o e=>bq _ (bq _ e)
 have c1:=up _ _ hC
 have f1:=up _ _ hf
 have n1:((h.push (jM vs)).push (kE C h.objs.size)).Ns N mN:=hn.keeps up
 have e1:((h.push (jM vs)).push (kE C h.objs.size)).get? (h.objs.size+1)=some (kE C h.objs.size):=by heap_get
 have cc:(Value.ref C::bm).contains (.ref C)=true:=by simp
 have T1:=T.keeps up
 unfold isInstance
 repeat (first | with_reducible refine mT e1 ?_ | (with_reducible refine Ba c1 ?_;rw[cc]) | wp_step)
 show wpAny _ _ (typeLookup (.ref C) _) _ _ _
 refine wpAny_typeLookup_tail c1 n1 T1 F.mroIs F.init.lookup ?_
 rw[hi]
 refine fE (ah ?_)
 unfold bindSpecial
 refine ah (wpAny_typeOf (T:="function") ⟨_,f1,yN⟩ ?_)
 rw[aC (by decide)]
 refine aE (ah (fC fin (λr s' hr=>?_) λ_ _ x=>x))
 obtain⟨rfl,hQ⟩:=hr
 wp_walk
 exact hQ
def Zg(F:ExcBaseFacts B newId yM tM)(T:OwnTail h tM bm){vs:List Value}
  (hC:h.get? C=some (excClassObj nm q C N bs bm fh sn sub ab col dd k0 k1 k2 k3 k5 newId)) (hn:h.Ns N mN) (hi:mN "__init__"=some (.ref fI)) (hf:h.get? fI=some oI) (yN:oI.cls = .type "function") (hz:vs.length<=sizeLine)
  (fin:wpAny (model prog w) (A.under (.builtin "type.__call__" ⟨.ref C::vs,[]⟩)) (call (.ref fI) (.ref (h.objs.size+1)::vs)) (λr s'=>r = .none/\Q (.ref (h.objs.size+1)) s') E ⟨(h.push (jM vs)).push (kE C h.objs.size),g,d,t,os⟩) :
  wpAny (model prog w) A (call (.ref C) vs) Q E ⟨h,g,d,t,os⟩:=by
 have f1:=tc_lookup
 have f2:=tc_bind (.ref C)
 have hT:(⟨h,g,d,t,os⟩:Shared).TypeIs (.ref C) "type":=⟨_,hC,rfl⟩
 refine jw (codeAny_of_tree ?_)
 show wpAny _ _ (callAny (.ref C) _) _ _ _
 repeat (any_goals (first | assumption | with_reducible refine mT hC ?_ | wp_step))
 refine⟨rfl,codeAny_call_builtin_at (LF _ (by decide +kernel)) entry_typeCall (wpAny_check_type_call_sub hC (Zf F T hC hn hi hf yN hz fin))⟩
end
section
variable{prog:Program}{w:World}{A:Around}{E:Value->Shared->Prop}{h:Heap}{g:Array GenState}{d:Drawn}{t:Nat}{os:OsState}
variable{nm q:Str}{C N:Addr}{bs bm tM:List Value}{fh:Bool}{sn:List Str}{sub:List Value}{ab:Bool}{col:Option Bool}{dd:Option Addr}{k0 k1 k2 k3 k5:Option Value}{B newId yM nid:String}
noncomputable abbrev gI(C:Addr)(od:Option Addr)(u:Addr):Obj:={ cls := .ref C,dict:=od,data := .fields #[.ref u,.none,.none,.none,.bool false,.none] }
def Oj(F:ExcBaseFacts B newId yM tM)(T:OwnTail h tM bm)
  (hC:h.get? C=some (excClassObj nm q C N bs bm fh sn sub ab col dd k0 k1 k2 k3 k5 newId)) (he:h.get? e=some (gI C od u))
  (fin:∀h',h'.get? e=some (gI C od h.objs.size)->h'.get? h.objs.size=some (jM [v])->(∀b o,b≠e->h.get? b=some o->h'.get? b=some o)->Q .none ⟨h',g,d,t,os⟩) :
  wpAny (model prog w) A (call (.builtin yM) [.ref e,v]) Q E ⟨h,g,d,t,os⟩:=by
 refine jw (A9 F.init.plain F.initEntry (wpAny_check_init_subT F T hC he rfl ?_))
 have e1:(h.push (jM [v])).get? e=some (gI C od u):=bq _ he
 wp_walk
 refine fin _ ?_ ?_ λb o hb z=>?_
 .rw[nX _ e1 rfl]
  rfl
 .rw[gT _ _ (bV (bx he))]
  exact cQ _ rfl
 .rw[gT _ _ (aP hb)]
  exact bq _ z
end
noncomputable abbrev cM:List Value:=[.type "ValueError",.type "Exception",.type "BaseException",.type "object"]
section
variable{prog:Program}{w:World}{A:Around}{E:Value->Shared->Prop}{s:Shared}{K:Frag}{C CE e u:Addr}{cd:ClassData}{name:Str}{v:Value}
def Zh(self:Value):refuseLoop self "__setattr__" cM=pure ():=by kernel_rfl
def Zi(self:Value):refuseLoop self "__setattr__" (.ref C :: .ref CE::cM)=pure ():=by
 rw[refuseLoop_ref,refuseLoop_ref]
 exact Zh self
def Zj{Q:Unit->Shared->Prop}(X:K.In s.heap)(hc:clsIn K C=some cd)(hm:cd.mro = .ref C :: .ref CE::cM)(hd:cd.hasDict=true)(hs:findIn K (.ref C) "__setattr__"=some (some (.builtin "object.__setattr__")))
  (ht:takerIn K C name=some none) (he:s.heap.get? e=some (gI C none u))
  (fin:∀h',h'.get? e=some (gI C (some s.heap.objs.size) u)->h'.Ns1 s.heap.objs.size (λy=>if y=name then some v else none)->(∀b o,b≠e->s.heap.get? b=some o->h'.get? b=some o)->Q () { s with heap:=h',toks:=s.toks+2 }) :
  wpAny (model prog w) A (setAttr (.ref e) name v) Q E s:=by
 have J:PySem.W.InstAt s.heap e (gI C none u) C none:=⟨he,rfl,rfl,trivial⟩
 refine PySem.W.set_plain X J hs ?_
 have SF:=PySem.F.store_object
 have sub:Looks (model prog w) s.heap (isInstance (.ref e) (.type "object")) true:=J.type.andThen (LG X (by unfold mroIn;rw[hc,vk,hm];rfl))
 refine A9 SF.slot.plain SF.entry (@EZ (model prog w) _ _ { s with toks:=s.toks+1 } "object.__setattr__" "object" "__setattr__" (.ref e) [.str name s.toks,v] [] _ SF.kind SF.split sub (SF.args (.ref e) (.str name s.toks) v) ?_)
 obtain⟨attr,ha,hr⟩:=Option.bind_eq_some_iff.mp ht
 have lm:Looks (model prog w) s.heap (mroOf (.ref C)) cd.mro:=(PySem.W.looks_clsIn X hc).andThen .now
 have lt:Looks (model prog w) s.heap (Builtin.ObjectAttr.storeTaker? attr) none:=by
  cases attr with
  |none=>cases hr;exact .now
  |some a=>
   obtain⟨b,hb,l7⟩:=i3.mp hr
   refine(PySem.W.looks_takesIn X hb).andThen ?_
   cases b
   .exact .now
   .cases l7
 rw[PySem.W.osa_eq,refuse_eq]
 refine ah (ah (J.type.here (s:={ s with toks:=s.toks+1 }) (ah (lm.here (s:={ s with toks:=s.toks+1 }) ?_))))
 rw[hm,Zi]
 refine aE (ah (J.type.here (s:={ s with toks:=s.toks+1 }) (ah ((rQ X ha).here (s:={ s with toks:=s.toks+1 }) (ah (lt.here (s:={ s with toks:=s.toks+1 }) ?_))))))
 refine ah (aE (ah (ah (Lu he (ah (Looks.here (s:={ s with toks:=s.toks+1 }) (PySem.W.looks_clsIn X hc) ?_))))))
 rw[hd]
 rw[au (by decide)]
 refine ah (wpAny_alloc (ah (wpAny_update (o:=gI C none u) (bq _ he) (aE ?_))))
 have aY:e<s.heap.objs.size:=bx he
 have e1:((s.heap.push { cls := .type "dict",data := .dict #[] }).update e λo=>{ o with dict:=some s.heap.objs.size }).get? e=some (gI C (some s.heap.objs.size) u):=by
  rw[nX _ (bq _ he) rfl]
 have e2:((s.heap.push { cls := .type "dict",data := .dict #[] }).update e λo=>{ o with dict:=some s.heap.objs.size }).get? s.heap.objs.size=some { cls := .type "dict",data := .dict #[] }:=by
  rw[gT _ _ (bV aY)]
  exact cQ _ rfl
 have e3:∀b o,b≠e->s.heap.get? b=some o->((s.heap.push { cls := .type "dict",data := .dict #[] }).update e λo=>{ o with dict:=some s.heap.objs.size }).get? b=some o:=λb o hb z=>by
  rw[gT _ _ (aP hb)]
  exact bq _ z
 have n0:((s.heap.push { cls := .type "dict",data := .dict #[] }).update e λo=>{ o with dict:=some s.heap.objs.size }).Ns1 s.heap.objs.size (λ_=>none):=
  Heap.Ns1.of_empty ⟨_,#[],_,e2,rfl,(λx hx=>absurd hx (by simp)),λ_=>rfl⟩
 revert e1 e2 e3 n0
 generalize ((s.heap.push { cls := .type "dict",data := .dict #[] }).update e λo=>{ o with dict:=some s.heap.objs.size })=h1
 intro e1 e2 e3 n0
 refine ah (aE (ah ?_))
 refine wpAny_nsSet1 (s:={ s with heap:=h1,toks:=s.toks+1 }) n0 λh' n1 sb=>?_
 obtain⟨oD,U5,U6,g1,g2,g3⟩:=n1.count (PySem.Within.cons name v PySem.Within.nil)
 refine ah (wpAny_lookBehind g1 (by rw[g2];exact pastItsLine_dict (bL g3 (by show 1<=sizeLine+1;exact Nat.le_add_left _ _))) ?_)
 exact aE (fin h' ((sb.2 _ (bV aY)).trans e1) n1 λb o hb z=>(sb.2 b (bV (bx z))).trans (e3 b o hb z))
end
noncomputable abbrev kF(C:Addr)(od:Option Addr)(vs:Array Value):Obj:={ cls := .ref C,dict:=od,data := .fields vs }
section
variable{prog:Program}{w:World}{A:Around}{E:Value->Shared->Prop}{s:Shared}{K:Frag}{C CE e dx:Addr}{vs:Array Value}{cd:ClassData}{name:Str}{v:Value}{mA:Str->Option Value}
def G3(self:Value):bindSpecial (.builtin "BaseException.__getattribute__") self=pure (.builtin "BaseException.__getattribute__",[self]):=by kernel_rfl
def Zl(X:K.In s.heap)(hc:clsIn K C=some cd)(hm:cd.mro = .ref C :: .ref CE::cM)(hd:hasDictIn K C=true)
  (hg:findIn K (.ref C) "__getattribute__"=some (some (.builtin "BaseException.__getattribute__"))) (yO:findIn K (.ref C) "__getattr__"=some none)
  (ha:findIn K (.ref C) name=some none) (he:s.heap.get? e=some (kF C (some dx) vs)) (hn:s.heap.Ns1 dx mA) (hv:mA name=some v) (FC:PySem.W.handedIn v=true) (h:Q v { s with toks:=s.toks+1 }) :
  wpAny (model prog w) A (getAttr (.ref e) name expr) Q E s:=by
 obtain⟨od,ho,hl⟩:=Ml hn
 have J:PySem.W.InstAt s.heap e (kF C (some dx) vs) C (some od):=⟨he,rfl,rfl,ho⟩
 have L0:=J.type (M:=model prog w)
 have L1:=rQ (M:=model prog w) X hg
 have yP:=rQ (M:=model prog w) X yO
 have L3:=PySem.W.looks_find (M:=model prog w) X J (PySem.W.findObj_own hd ha rfl (by rw[hl,hv]))
 have sub:Looks (model prog w) s.heap (isInstance (.ref e) (.type "BaseException")) true:=J.type.andThen (LG X (by unfold mroIn;rw[hc,vk,hm];rfl))
 have hk:builtinKind "BaseException.__getattribute__"=some .slot:=by decide +kernel
 have yQ:splitId "BaseException.__getattribute__"=some ("BaseException","__getattribute__"):=by decide +kernel
 have oV:(expr&&onTheHeap (Value.builtin "BaseException.__getattribute__"))=false:=by cases expr <;> rfl
 have yR:(Value.builtin "BaseException.__getattribute__"==Value.builtin "object.__getattribute__")=false:=by decide +kernel
 have yS:(onTheHeap (Value.ref C)&&Value.builtin "BaseException.__getattribute__"==Value.builtin "object.__getattribute__")=false:=by rw[yR];rfl
 obtain⟨hh,g,d,t,os⟩:=s
 unfold getAttr getAttrBy
 refine ah (wpAny_mkText (fE (ah (L0.at (ah (L1.at ?_))))))
 dsimp only
 rw[yS]
 show wpAny _ _ (getAttrByItsOwn _ _ _ _ _ _) _ _ _
 unfold getAttrByItsOwn hookBefore
 refine ah ?_
 rw[aC (show onTheHeap (Value.ref C)=true from rfl)]
 refine yP.at (ah (nZ (fE ?_)))
 unfold callGetattribute
 rw[oV,au (by decide)]
 unfold boundAndCalled
 rw[G3]
 refine ah (aE (jw ?_))
 refine A9 (by decide +kernel) F.entry_bexc_ga (@EZ (model prog w) _ _ ⟨hh,g,d,t+1,os⟩ "BaseException.__getattribute__" "BaseException" "__getattribute__" (.ref e) [.str name t] [] _ hk yQ sub (F.args_bexc_ga _ _) ?_)
 refine ah (aE (ah (aE (ah (L0.at (ah (L3.at ?_)))))))
 refine aE ?_
 show wpAny _ _ (handedOut v) _ _ _
 rw[TM FC];exact aE h
end
noncomputable abbrev iR(C:Addr)(dx:Option Addr)(e:Addr):HO := .ext λh=>∃vs:Array Value,vs.size=6/\h.get? e=some (kF C dx vs)
noncomputable abbrev ji(C dx e:Addr):HO:=iR C (some dx) e
def G4(hs:vs.size=6)(he:h.get? e=some (kF C dx vs)):dk P w H h e (iR C dx e):=
 ⟨⟨vs,hs,he⟩,⟨_,he⟩,λ_ _ ⟨Ol,oP,oY⟩ k=>⟨Ol,oP,k _ oY⟩⟩
def G5(h:Heap)(e C:Addr)(dx:Option Addr):Prop := ∃vs:Array Value,vs.size=6/\h.get? e=some (kF C dx vs)/\vs[1]? = some .none
def oZ(pn:List (Addr×Obj))(n₀:Nat)(H:Hp)(h:Heap)(e C:Addr)(dx:Option Addr)(fl:Value->Prop):Prop:=
 ∃(vs:Array Value) (T:Addr) (oT:Obj) (ts:Array Value) (v:Value),(∀p∈pn,p.1≠T)/\vs.size=6/\h.get? e=some (kF C dx vs)/\vs[1]? = some (.ref T)/\n₀<=T/\H T=none/\T≠e/\h.get? T=some oT/\oT.data = .fields ts/\ts[3]? = some v/\fl v
section
variable{X:Cx}{O:St}{H:Hp}{s:Shared}{e C:Addr}{dx:Option Addr}{h':Heap}
def Inv.G6(I:Inv X [] O H s)(he:H e=some (iR C dx e))(hch:∀b∈ch,(∀p∈X.pn,p.1≠b)/\X.s₀.heap.objs.size<=b/\H b=none/\∃o vs,s.heap.get? b=some o/\o.data = .fields vs)
  (k1:∀b o,b∉fV X.stack->b≠e->b∉ch->s.heap.get? b=some o->h'.get? b=some o) (k2:∀b o,b∈fV X.stack->b≠e->b∉ch->s.heap.get? b=some o->∃sl,h'.get? b=some { o with slots:=sl })
  (hs:vs.size=6) (hn:h'.get? e=some (kF C dx vs)):Inv X [] O H { s with heap:=h' }:=by
 have aT:∀b,H b=none->b≠e:=λb z y=>by rw[y,he] at z;cases z
 have Om:∀b u,H b=some u->b∉ch:=λb u z y=>by rw[(hch b y).2.2.1] at z;cases z
 refine I.call (g':=s.gens) (d':=s.drawn) (t':=s.toks) (ch:=ch) ⟨λb o q n hb hc=>k1 b o hb (aT b n) hc q,λb o q n hb hc=>k2 b o hb (aT b n) hc q,λ_ _ _ n _=>n,λb o q hc=>?_,λ_ _ z=>z,λ_ _ _ z=>z,λb ps z=>⟨#[],by rw[z];simp⟩⟩ (λb u z=>?_) I.bare λb hb=>?_
 .by_cases h1:b=e
  .subst h1;exact⟨_,hn⟩
  .by_cases h2:b∈fV X.stack
   .obtain⟨sl,z⟩:=k2 b o h2 h1 hc q
    exact⟨_,z⟩
   .exact⟨_,k1 b o h2 h1 hc q⟩
 .by_cases h1:b=e
  .subst h1
   rw[he] at z;cases z
   exact G4 hs hn
  .have nf:∀c v,H c=some v->c∉fV X.stack:=λc v y m=>by rw[I.Bg c m] at y;cases y
   refine(I.ar b u z).ja (λc v hc q=>?_) (λ_ q=>q) λ_ _ q=>q
   rcases hc with y | y
   .subst y;exact k1 c v (nf c u z) h1 (Om c u z) q
   .exact k1 c v (nf c _ y) (λm=>by rw[m,he] at y;cases y) (Om c _ y) q
 .obtain⟨h0,h1,h2,o,Ol,h3,h4⟩:=hch b hb
  refine⟨.inr h1,?_,λx c q m=>?_,λp hp=>?_⟩
  .intro m
   obtain⟨m',⟨oL,es,ep,q,d,_⟩,_⟩:=I.loc
   rw[<-m,h3] at q;cases q
   rw[h4] at d;cases d
  .obtain⟨v,oc,q2,d⟩:=I.cell x c q
   rw[m,h3] at q2;cases q2
   rw[h4] at d;cases d
  .rw[dS] at hp;exact h0 p hp
theorem G7{Q:Unit->Shared->Prop}(I:Inv X [] O H s)(d9:X.stack=X.env::X.outer)(hf:X.env.frame=some X.env.locals)(he:H e=some (iR C dx e))
  (hx:G5 s.heap e C dx\/oZ X.pn X.s₀.heap.objs.size H s.heap e C dx (λ_=>True))
  (fin:∀s',Inv X [] O H s'->oZ X.pn X.s₀.heap.objs.size H s'.heap e C dx (λv=>v=rawInt X.env.locals)->Q () s'):wpAny M X.A (noteFrame (.ref e) X.env) Q E s:=by
 have core:∀(s:Shared) (head:Value) (vs:Array Value) (Oo:Bool),Inv X [] O H s->vs.size=6->s.heap.get? e=some (kF C dx vs)->
   wpAny M X.A (do setField (.ref e) 1 (<- EntryCells.newEntry head (<- frameOf X.env) .none (rawInt X.env.locals) .none (<- entryPlaceOf X.env.locals Oo))) Q E s:=by
  intro s head vs Oo I hs hv
  have hl:=I.stack
  rw[d9] at hl
  refine ah (wpAny_frameOf_fun (by rw[<-d9];exact I.ok.frames) hl hf λh₁ yT=>?_)
  refine ah (wpAny_entryPlaceOf λpl aL=>?_)
  unfold EntryCells.newEntry newFields
  refine ah (mR ?_ (aL.sizeOk5 _ _ _ _ _))
  have fr:(X.env::X.outer).filterMap (·.frame)=fV X.stack:=by rw[d9];rfl
  rw[fr] at yT
  have Zm:e∉fV X.stack:=λhm=>by rw[I.Bg e hm] at he;cases he
  have Oq:h₁.get? e=some (kF C dx vs):=(yT.2.1 e Zm).trans hv
  have hsz:h₁.objs.size=s.heap.objs.size:=yT.1
  generalize hO:({ cls := .type "traceback",dict:=none,data := .fields ([head,.ref X.env.locals,.none,rawInt X.env.locals,.none]++(if pl.isEmpty then List.replicate 6 Value.none else pl)).toArray }:Obj)=oT
  have dT:∃ts:Array Value,oT.data = .fields ts/\ts[3]? = some (rawInt X.env.locals):=by
   subst hO;exact⟨_,rfl,by first | (simp;done) | (rcases aL with rfl | ⟨_,_,_,_,_,_,_,rfl⟩ <;> simp)⟩
  have fT:oT.isFreed=false:=by subst hO;rfl
  have Ot:=bq (h:=h₁) oT Oq
  refine vi Ot rfl (by lia) ?_
  have nC:h₁.objs.size≠e:=uY (bx Oq)
  have yU:=nX (Obj.mapFields (·.setIfInBounds 1 (Value.ref h₁.objs.size))) Ot (ER (rX (o:=kF C dx vs) rfl (·.setIfInBounds 1 (Value.ref h₁.objs.size))))
  have G8:=(gT (h₁.push oT) (Obj.mapFields (·.setIfInBounds 1 (Value.ref h₁.objs.size))) (aP nC)).trans (cQ h₁ fT)
  have Zn:Obj.mapFields (·.setIfInBounds 1 (Value.ref h₁.objs.size)) (kF C dx vs)=kF C dx (vs.setIfInBounds 1 (Value.ref h₁.objs.size)):=rfl
  rw[Zn] at yU
  have keep:∀b o,b≠e->h₁.get? b=some o->((h₁.push oT).update e (Obj.mapFields (·.setIfInBounds 1 (Value.ref h₁.objs.size)))).get? b=some o:=λb o jC hb=>by
   rw[gT _ _ (aP jC)]
   exact bq _ hb
  revert yU G8 keep
  generalize ((h₁.push oT).update e (Obj.mapFields (·.setIfInBounds 1 (Value.ref h₁.objs.size))))=h₃
  intro yU G8 keep
  refine fin _ (I.G6 he (ch:=[]) (λ_ z=>nomatch z) (λb o hb jC _ q=>keep b o jC ((yT.2.1 b hb).trans q)) (λb o hb jC _ q=>?_) (by simpa using hs) yU) ?_
  .obtain⟨sl,z⟩:=yT.2.2 b o q
   exact⟨sl,keep b _ jC z⟩
  .obtain⟨ts,d1,d2⟩:=dT
   exact⟨_,h₁.objs.size,oT,ts,_,λp hp m=>qb _ (m ▸ hsz ▸ bx (I.pin p (j0 _ hp)).1),by simpa using hs,yU,by simp[hs],by rw[hsz];exact I.sz,I.ar.fresh (Nat.le_of_eq hsz.symm),nC,G8,d1,d2,rfl⟩
 unfold noteFrame
 simp only[hf]
 rcases hx with ⟨vs,hs,hv,h1⟩ | ⟨vs,T,oT,ts,v,hp,hs,hv,h1,hn,yV,nC,hT,hd,h3,dN⟩
 .refine ah (eK hv rfl h1 ?_)
  rw[au (by decide)]
  exact core s _ vs _ I hs hv
 .refine ah (eK hv rfl h1 ?_)
  rw[aC (show(Value.ref T != Value.none)=true from by simp)]
  refine ah (eK hT hd h3 ?_)
  by_cases G9:v=rawInt X.env.locals
  .rw[aC (by rw[G9];simp)]
   exact aE (fin s I ⟨vs,T,oT,ts,v,hp,hs,hv,h1,hn,yV,nC,hT,hd,h3,G9⟩)
  .rw[au (by simpa using G9)]
   refine ah (vi hT hd (TF.mp h3).1 ?_)
   have other:∀b,b≠T->(s.heap.update T (Obj.mapFields (·.setIfInBounds 3 Value.none))).get? b=s.heap.get? b:=λb hb=>gT _ _ (aP hb)
   refine core { s with heap:=s.heap.update T (Obj.mapFields (·.setIfInBounds 3 Value.none)) } _ vs _ (I.G6 he (ch:=[T]) (λb hb=>?_) (λb o _ _ hc q=>(other b λz=>hc (by simp[z])).trans q)
    (λb o _ _ hc q=>⟨o.slots,(other b λz=>hc (by simp[z])).trans q⟩) hs ((other e (aP nC)).trans hv)) hs ((other e (aP nC)).trans hv)
   have z:b=T:=by simpa using hb
   subst z
   exact⟨hp,hn,yV,oT,ts,hT,hd⟩
def B7{Q:Unit->Shared->Prop}(fr:Option Addr)(I:Inv X [] O H s)(he:H e=some (iR C dx e))
  (hx:oZ X.pn X.s₀.heap.objs.size H s.heap e C dx fl)
  (fin:∀s',Inv X [] O H s'->oZ X.pn X.s₀.heap.objs.size H s'.heap e C dx (λv=>v=fr.elim .none λf=>rawInt f)->Q () s'):wpAny M A (setFlight (.ref e) fr) Q E s:=by
 obtain⟨vs,T,oT,ts,v,hp,hs,hv,h1,hn,yV,nC,hT,hd,h3,dN⟩:=hx
 have Ou:=(TF.mp h3).1
 unfold setFlight
 refine ah (eK hv rfl h1 ?_)
 rw[aC (show(Value.ref T != Value.none)=true from by simp)]
 refine vi hT hd Ou ?_
 have other:∀b,b≠T->(s.heap.update T (Obj.mapFields (·.setIfInBounds 3 (fr.elim Value.none λf=>rawInt f)))).get? b=s.heap.get? b:=λb hb=>gT _ _ (aP hb)
 refine fin _ (I.G6 he (ch:=[T]) (λb hb=>?_) (λb o _ _ hc q=>(other b λz=>hc (by simp[z])).trans q)
  (λb o _ _ hc q=>⟨o.slots,(other b λz=>hc (by simp[z])).trans q⟩) hs ((other e (aP nC)).trans hv)) ?_
 .have z:b=T:=by simpa using hb
  subst z
  exact⟨hp,hn,yV,oT,ts,hT,hd⟩
 .exact⟨vs,T,_,_,_,hp,hs,(other e (aP nC)).trans hv,h1,hn,yV,nC,nX _ hT (ER (rX hd _)),rX hd _,by simp[Ou],rfl⟩
end
def kG(X:Cx)(E:St->XK)(v:Value)(s:Shared):Prop:=
 ∃(e C:Addr) (dx:Option Addr) (O:St) (H:Hp),v = .ref e/\Inv X [] O H s/\H e=some (iR C dx e)/\(G5 s.heap e C dx\/oZ X.pn X.s₀.heap.objs.size H s.heap e C dx (λ_=>True))/\E O (.ref C) (some e) H
abbrev Fx(X:Cx)(E:XK):Value->Shared->Prop:=kG X λ_=>E
noncomputable def eN(P:Program)(w:World):lK:=λouter H s E v s' =>∃(e C:Addr) (dx:Option Addr) (H':Hp),v = .ref e/\s'.os=s.os/\AllBare s'.gens/\Un (fV outer) [] H H' s.heap s'.heap/\dB P w H' s'.heap/\H' e=some (iR C dx e)/\
 oZ [] s.heap.objs.size H' s'.heap e C dx (λv=>v = .none)/\E (.ref C) (some e) H'
def oZ.imp{n m:Nat}{f:Value->Prop}(x:oZ pn n H h e C dx f)(hm:m<=n)(k:∀v,f v->g v)(hp:(∀p∈pm,p.1<n)\/pm=pn):oZ pm m H h e C dx g:=by
 obtain⟨vs,T,oT,ts,v,a0,a1,a2,a3,a4,a5,a6,a7,a8,a9,Hc⟩:=x
 refine⟨vs,T,oT,ts,v,?_,a1,a2,a3,bL hm a4,a5,a6,a7,a8,a9,k v Hc⟩
 rcases hp with hp | rfl
 .exact λp hq m=>qb _ (gq (m ▸ hp p hq) a4)
 .exact a0
def Inv.B8(I:Inv X pins O H s):Inv X [] O H s:=I.xN λ_ z=>nomatch z
section
variable{X:Cx}{E:XK}
def Zo{E':XK}(hE:∀c o H,E' c o H->E c o H):Passes (eN X.prog X.w) (X.cj (Fx X E)) E':=by
 intro pins O H s v s' I h
 obtain⟨e,C,dx,H',ev,ho,hb,un,ar,he,tb,q⟩:=h
 subst ev
 have I1:Inv X pins O H s:=I.gw
 exact⟨e,C,dx,O,H',rfl,(I1.vq (ch:=[]) ho un ar hb λ_ z=>nomatch z).B8,he,.inr (tb.imp I1.sz (λ_ _=>trivial) (.inl λp hp=>bx (I1.pin p (j0 _ hp)).1)),hE _ _ _ q⟩
def Ov:Passes (eN P w) X E0:=by
 intro pins O H s v s' I h
 obtain⟨e,C,dx,H',_,_,_,_,_,_,_,q⟩:=h
 exact q.elim
def Hd{E:St->XK}(d9:X.stack=X.env::X.outer)(hf:X.env.frame=some X.env.locals):PassesOwn M X.A X.env (kG X E):=by
 intro v s ⟨e,C,dx,O,H,ev,I,he,hx,q⟩
 subst ev
 refine G7 I d9 hf he hx λs1 I1 t1=>?_
 unfold cameBackBy
 obtain⟨vs,T,oT,ts,v,_,a1,a2,a3,a4⟩:=id t1
 refine ah (eK a2 rfl a3 ?_)
 rw[au (by simp)]
 refine B7 _ I1 he t1 λs2 I2 t2=>?_
 exact⟨e,C,dx,O,H,rfl,I2,he,.inr (t2.imp (aQ _) (λ_ _=>trivial) (.inr rfl)),q⟩
end
def Zp{E:XK}
  (h:Fx (gX (eN P w) P w K mg base N qual scope f cd A outer s H E) E v s'):(gX (eN P w) P w K mg base N qual scope f cd A outer s H E).xe v s':=by
 obtain⟨e,C,dx,O,H',ev,I,he,hx,q⟩:=h
 subst ev
 show wpAny _ _ (leaving _ _) _ _ _
 unfold leaving
 refine ah (G7 I rfl rfl he hx λs1 I1 t1=>?_)
 refine B7 _ I1 he t1 λs2 I2 t2=>?_
 exact⟨e,C,dx,H',rfl,I2.os,I2.bare,I2.base,I2.ar,he,t2,q⟩
def eU.out{E:XK}{st:List Stmt}{t:TS}
  (h:eU ((gX (eN P w) P w K mg base N qual scope f cd A outer s H E).cj (Fx (gX (eN P w) P w K mg base N qual scope f cd A outer s H E) E)) st t):eU (gX (eN P w) P w K mg base N qual scope f cd A outer s H E) st t:=λpins s O H D I hw=>
 fC (h pins s O H D (I.cj _) hw) (λ_ _ q=>q.gw) λ_ _ z=>Zp z
section
variable{P:Program}{w:World}{K:Frag}{mg:Str->Option Value}{base:Heap}
def aZ.wa{x:Str}{k:Nat}(F:aZ K x qual st f fd)(S:bu N ps (aN st))(len:∀vs H Q E,sp vs H Q E->vs.length=ps.length)
  (lM:∀(aF:Value) (A:Around) (outer:List Env) (s:Shared) (H:Hp) (vs:List V) (Q:VK) (E:XK),bT k (A.deeper (envOfC qual (aN st) s.heap.objs.size f aF))->sp vs H Q E->
   ∃t,eU ((gX (eN P w) P w K mg base N qual (aN st) f aF A outer s H E).cj (Fx (gX (eN P w) P w K mg base N qual (aN st) f aF A outer s H E) E)) (jI st) t/\t { nx:=λ_ H'=>Q .aw H',rt:=Q } (start N vs) H) :
  aK P w K mg base (eN P w) (k+1) f fd ps sp:=by
 obtain⟨oc,od,kV,doc,pm,an,aF,ct,je,rfl,lk,gu⟩:=F.ex
 refine vF lk gu S len λA outer s H vs Q E hr iq=>?_
 obtain⟨t,h,q⟩:=lM aF A outer s H vs Q E hr iq
 exact⟨t,h.out,q⟩
end
structure kH(P:Program)(w:World)(K:Frag)(mg:Str->Option Value)(base:Heap)(x:Str)(k:Nat)(sp:Sp):Prop where
 ex:∃(f:Addr) (fd:FuncData) (ps:List Str),aK P w K mg base (eN P w) k f fd ps sp/\mg x=some (.ref f)/\keepIn K (.ref f)=true/\Binds K fd ps []
section
variable{X:Cx}{x:Str}{p pos:Pos}{e:Expr}{es:List Expr}{t:TA}{sp:Sp}{k:Nat}{E E':XK}
def B9(F:kH X.prog X.w X.K X.mg X.base x k sp)(hE:∀c o H,E' c o H->E c o H)(hr:bT k X.A)(hg:Gl X x)(ha:PA (X.cj (Fx X E)) (e::es) t)(cU:(x==("__debug__":Str))=false:=by decide)
  (he:starEach (e::es) X.env=(false,eval e X.env)::starEach es X.env:=by rfl) (aL:(backTo pos (starEach es X.env)).any (·.1)=false:=by rfl):PE (X.cj (Fx X E)) (.Call (.Name x p) (e::es) [] pos) (x5 sp [] E' t):=by
 obtain⟨f,fd,ps,G,hm,hk,hb⟩:=F.ex
 exact Bw (X:=X.cj (Fx X E)) G hr hg hm hk hb .nil (Zo hE) ha cU he aL
def Zq(F:kH X.prog X.w X.K X.mg X.base x k sp)(hr:bT k X.A)(hg:Gl X x)(ha:PA X (e::es) t)(cU:(x==("__debug__":Str))=false:=by decide)
  (he:starEach (e::es) X.env=(false,eval e X.env)::starEach es X.env:=by rfl) (aL:(backTo pos (starEach es X.env)).any (·.1)=false:=by rfl):PE X (.Call (.Name x p) (e::es) [] pos) (x5 sp [] E0 t):=by
 obtain⟨f,fd,ps,G,hm,hk,hb⟩:=F.ex
 exact Bw G hr hg hm hk hb .nil Ov ha cU he aL
end
noncomputable def tN(K:Frag)(C CE fI:Addr):Bool:=match K.lookup C with
 |some ⟨.type "type",_,.cls cd,sl⟩=>(match cd.mro,sl.toList with
  |.ref C'::bm,[_,_,_,_,some (.builtin n),_]=>C'==C&&n=="ValueError.__new__" && !cd.hasDel&&PySem.W.tailIn K cM bm&&bm == .ref CE::cM&&PySem.W.nsOkIn K cd.ns&&nsIn K cd.ns "__init__"==some (some (.ref fI))&&cd.hasDict
  |_,_=>false)
 |_=>false
def Zr{N:Addr}(X:K.In h)(G:h.Ns N m)(e:nsIn K N n=some (some v)):m n=some v:=by
 obtain⟨ob,es,ep,h1,h2,_,h3⟩:=G
 unfold nsIn at e
 split at e
 .rename_i q
  have z:=X _ _ q
  rw[h1] at z
  cases z
  cases h2
  split at e
  .rename_i he
   cases e
   rw[<-h3]
   unfold nsFind findBy
   rw[<-Array.find?_toList,he]
   rfl
  .split at e <;> cases e
 .cases e
structure Zs(h:Heap)(K:Frag)(C CE fI:Addr):Prop where
 ex:∃(nm q:Str) (N:Addr) (bs:List Value) (sn:List Str) (sub:List Value) (ab:Bool) (col:Option Bool) (dd:Option Addr) (k0 k1 k2 k3 k5:Option Value) (mN:Str->Option Value) (cd:ClassData),
  h.get? C=some (excClassObj nm q C N bs (.ref CE::cM) true sn sub ab col dd k0 k1 k2 k3 k5 "ValueError.__new__")/\h.Ns N mN/\mN "__init__"=some (.ref fI)/\OwnTail h cM (.ref CE::cM)/\
  clsIn K C=some cd/\cd.mro = .ref C :: .ref CE::cM/\cd.hasDict=true
def wb{CE:Addr}(X:K.In h)(q:tN K C CE fI=true):Zs h K C CE fI:=by
 unfold tN at q
 split at q
 .rename_i dd cd sl ho
  split at q
  .rename_i C' bm k0 k1 k2 k3 n k5 hm hs
   simp only[d7,gS,AY] at q
   obtain⟨⟨⟨⟨⟨⟨⟨rfl,rfl⟩,kI⟩,ht⟩,o8⟩,ar⟩,tO⟩,qJ⟩:=q
   have dG:clsIn K C'=some cd:=by unfold clsIn;rw[ho]
   obtain⟨nm,bs,mro,ns,qn,hd,sn,sub,ab,col,del⟩:=cd
   dsimp only at hm kI ar tO qJ
   subst hm kI o8 qJ
   have oQ:sl = #[k0,k1,k2,k3,some (.builtin "ValueError.__new__"),k5]:=by
    obtain⟨l⟩:=sl
    simp only at hs
    rw[hs]
   subst oQ
   exact⟨nm,qn,ns,bs,sn,sub,ab,col,dd,k0,k1,k2,k3,k5,h.nsMap ns,_,X _ _ ho,.of_isNs (LH X ar),Zr X (.of_isNs (LH X ar)) tO,PySem.W.tail_of_in X ht,dG,rfl,rfl⟩
  .cases q
 .cases q
structure XC(K:Frag)(C CE fI:Addr)(name:Str):Prop where
 cls:tN K C CE fI=true
 fn:isFn K (.ref fI)=true
 set:findIn K (.ref C) "__setattr__"=some (some (.builtin "object.__setattr__"))
 tk:takerIn K C name=some none
 get:findIn K (.ref C) "__getattribute__"=some (some (.builtin "BaseException.__getattribute__"))
 yW:findIn K (.ref C) "__getattr__"=some none
 fld:findIn K (.ref C) name=some none
 kp:keepIn K (.ref C)=true
structure XE(K:Frag)(CE:Addr):Prop where
 ga:specialIn K (.ref CE) "__getattribute__"=some (some (.builtin "type.__getattribute__"))
 rd:PySem.W.readsIn K CE (.type "type")=true
 fd:PySem.W.findCls K (.ref CE) (.type "type") "__init__"=some (.val (.builtin "ValueError.__init__"))
noncomputable abbrev nE(C e:Addr):HO := .ext λh=>∃u,h.get? e=some (gI C none u)
noncomputable abbrev qK(C dx e:Addr):HO := .ext λh=>∃u,h.get? e=some (gI C (some dx) u)
def Ow(he:h.get? e=some (gI C none u)):dk P w H h e (nE C e):=
 ⟨⟨u,he⟩,⟨_,he⟩,λ_ _ ⟨u',oY⟩ k=>⟨u',k _ oY⟩⟩
def Zt{dx:Addr}(he:h.get? e=some (gI C (some dx) u)):dk P w H h e (qK C dx e):=
 ⟨⟨u,he⟩,⟨_,he⟩,λ_ _ ⟨u',oY⟩ k=>⟨u',k _ oY⟩⟩
section
variable{X:Cx}{C CE fI:Addr}{ce name:Str}{o e1 e2 value:Expr}{te tv:TE}{p pos apos pos':Pos}
def Zu(C:Addr)(t:TA):TE:=λO H Q=>t O H λvs H1=>∃e x,vs=[.ref e,x]/\H1 e=some (nE C e)/\Q .aw H1
def Zv{t:TA}(hc:tN X.K C CE fI=true)(hb:XE X.K CE)(hg:Gl X ce)(hm:X.mg ce=some (.ref CE))(ha:PA X [e1,e2] t)(cU:(ce==("__debug__":Str))=false:=by decide)
  (he:starEach [e1,e2] X.env=(false,eval e1 X.env)::starEach [e2] X.env:=by rfl) (aL:(backTo pos (starEach [e2] X.env)).any (·.1)=false:=by rfl)
  (ht:eval (.Call (.Attribute (.Name ce p) "__init__" apos) [e1,e2] [] pos) X.env=(do
   let ov<-eval (.Name ce p) X.env
   standAt apos.atName
   let (f,first)<-holding [ov] (getMethod ov "__init__" pl)
   callWith pos f first (backTo pos (starEach [e1,e2] X.env)) (backToKw pos (keywordEach [] X.env))):=by rfl) :
  PE X (.Call (.Attribute (.Name ce p) "__init__" apos) [e1,e2] [] pos) (Zu C t):=by
 intro pins s O H Q I h
 refine Tv (pl:=pl) (lG I hg hm ?_ cU) ht
 refine PySem.W.method_cls I.bN hb.ga (PySem.W.cls_value I.bN hb.rd hb.fd (by rfl) ?_)
 refine PyProof.Rows.callWith_builtin1 (aD (ha pos pins _ O H _ (I.tok _) h) λus s2 ⟨vs,H2,I2,r,q⟩=>?_) he aL
 obtain⟨e,x,rfl,hx,q⟩:=q
 obtain⟨u,v,rfl,ru,rv⟩:=vals2 r
 cases ru
 obtain⟨nm,qn,N,bs,sn,sub,ab,col,dd,k0,k1,k2,k3,k5,mN,cd,hC,hN,hi,hT,_⟩:=(wb I2.bN hc).ex
 obtain⟨⟨u0,g9⟩,_,_⟩:=I2.ar e _ hx
 obtain⟨hh,g,d,tk,os⟩:=s2
 refine Oj F.excBase_ValueError hT hC g9 λh' Ox e2' k=>?_
 have I3:=I2.write (x:=e) (e:=e) (o:=nE C e) (h':=h') (t':=tk) (by rw[hx];trivial) (.inl rfl) (λb u hb z=>k b u hb z) ⟨_,Ox⟩ (Ow Ox)
 have Ca:upd H2 e (nE C e)=H2:=by
  funext b
  unfold upd
  split
  .rename_i z;rw[z,hx]
  .rfl
 rw[Ca] at I3
 exact⟨.aw,H2,I3,rfl,q⟩
def Zw(C:Addr)(name:Str)(te tv:TE):TS:=λD O H=>tv O H λy H1=>te O H1 λx H2=>∃e,x = .ref e/\H2 e=some (nE C e)/\
 ∀dx,H2 dx=none->dx≠e->D.nx O (upd (upd H2 dx (.xd [(name,y)])) e (qK C dx e))
def Zx(hc:XC X.K C CE fI name)(ha:PE X o te)(hv:PE X value tv)(hs:swapsWith value (some (.Attribute o name pos')) pos.line X.env=pure false):PS X (.Assign [.Attribute o name pos'] value pos) (Zw C name te tv):=by
 intro pins s O H D I h
 refine plainObj_wpAny_Assign_Attribute (aD (hv pins s O H _ I h) λu s1 ⟨y,H1,I1,ry,q⟩=>aD (ha pins s1 O H1 _ I1 q) λov s2 ⟨x,H2,I2,rx,e,ex,hx,q2⟩=>?_) hs
 subst ex
 obtain rfl:ov=Value.ref e:=rx
 obtain⟨⟨u0,g9⟩,_,_⟩:=I2.ar e _ hx
 obtain⟨nm,qn,N,bs,sn,sub,ab,col,dd,k0,k1,k2,k3,k5,mN,cd,hC,hN,hi,hT,dG,o9,qJ⟩:=(wb I2.bN hc.cls).ex
 refine Zj I2.bN dG o9 qJ hc.set hc.tk g9 λh' e1 n1 k=>?_
 have jJ:=I2.ar.fresh (aQ s2.heap.objs.size)
 have aT:s2.heap.objs.size≠e:=uY (bx g9)
 have q3:=q2 s2.heap.objs.size jJ aT
 refine⟨O,_,?_,q3⟩
 have un:Un X.fs [] H2 (upd (upd H2 s2.heap.objs.size (.xd [(name,y)])) e (qK C s2.heap.objs.size e)) s2.heap h':=by
  have ee:∀b,H2 b=none->b≠e:=λb z m=>by rw[m,hx] at z;cases z
  have es:∀b (o:Obj),s2.heap.get? b=some o->b≠s2.heap.objs.size:=λb o z=>bV (bx z)
  have up:∀b,b≠e->b≠s2.heap.objs.size->upd (upd H2 s2.heap.objs.size (.xd [(name,y)])) e (qK C s2.heap.objs.size e) b=H2 b:=λb n1 n2=>by rw[ak n1,ak n2]
  have tr:∀b u,H2 b=some u->b≠s2.heap.objs.size:=λb u z m=>by rw[m,jJ] at z;cases z
  have te:∀b u,H2 b=some u->(∀φ,u ≠ .ext φ)->b≠e:=λb u z n m=>by rw[m,hx] at z;cases z;exact n _ rfl
  refine⟨λb o z n _ _=>k b o (ee b n) z,λb o z n _ _=>⟨o.slots,k b o (ee b n) z⟩,λb o z n _=>by rw[up b (ee b n) (es b o z)];exact n,λb o z _=>?_,λb xs z=>?_,λb o u z=>?_,λb ps z=>?_⟩
  .by_cases m:b=e
   .subst m;exact⟨_,e1⟩
   .exact⟨o,k b o m z⟩
  .rw[up b (te b _ z λ_ m=>by cases m) (tr b _ z)];exact z
  .rw[up b (te b _ z λ_ m=>by cases m) (tr b _ z)];exact z
  .exact⟨#[],by rw[up b (te b _ z λ_ m=>by cases m) (tr b _ z),z];simp⟩
 refine I2.un un λb u z=>?_
 by_cases m:b=e
 .subst m
  rw[ao] at z;cases z
  exact Zt e1
 .rw[ak m] at z
  by_cases m2:b=s2.heap.objs.size
  .subst m2
   rw[ao] at z;cases z
   refine⟨_,n1,λf=>?_⟩
   by_cases hf:f=name
   .subst hf
    simp[List.lookup,eT,ry]
   .have:(f==name)=false:=by simp[hf]
    simp[List.lookup,this,eT,hf]
  .rw[ak m2] at z
   refine(I2.ar b u z).ja (λc v hc q=>k c v ?_ q) (λc q=>?_) λc xs q=>?_
   .rcases hc with y | y
    .rw[y];exact m
    .intro w;rw[w,hx] at y;cases y
   .rw[ak (λw=>by rw[w,hx] at q;cases q),ak (λw=>by rw[w,jJ] at q;cases q)];exact q
   .rw[ak (λw=>by rw[w,hx] at q;cases q),ak (λw=>by rw[w,jJ] at q;cases q)];exact q
end
section
variable{M:Model}{A:Around}{E:Value->Shared->Prop}{env:Env}
variable{nm q:Str}{C N:Addr}{bs bm:List Value}{fh:Bool}{sn:List Str}{sub:List Value}{ab:Bool}{col:Option Bool}{dd:Option Addr}{k0 k1 k2 k3 k5:Option Value}{newId:String}
def Zy{Q:Flow->Shared->Prop}(sP:bm.contains (.type "BaseException")=true)(hh:A.handled=none)
  (h:wpAny M A x (λv s₁=>∃e t dx nm q N bs fh sn sub ab col dd k0 k1 k2 k3 k5 newId,v = .ref e/\s₁.heap.get? C=some (excClassObj nm q C N bs bm fh sn sub ab col dd k0 k1 k2 k3 k5 newId)/\
   s₁.heap.get? e=some (gI C (some dx) t)/\E (.ref e) s₁) E s) :
  wpAny M A (raiseStmt env (some x) none) Q E s:=by
 have yX:(Value.ref C::bm).contains (.type "BaseException")=true:=by rw[jA,sP,i7]
 unfold raiseStmt
 refine ah (fC h (λv s₁ h₁=>?_) λ_ _ x=>x)
 obtain⟨e,t,dx,nm,q,N,bs,fh,sn,sub,ab,col,dd,k0,k1,k2,k3,k5,newId,rfl,hC,he,hE⟩:=h₁
 obtain⟨hp,g,d,tk,os⟩:=s₁
 repeat (first | with_reducible refine mT he ?_ | with_reducible refine mT hC ?_ | (with_reducible refine Ba hC ?_;rw[yX]) | wp_step)
 exact wpAny_raiseNew_none hh hE
end
def Zz(X:K.In h)(e:isFn K (.ref f)=true):∃oI,h.get? f=some oI/\oI.cls = .type "function":=by
 have e':(K.lookup f).map (·.cls)=some (.type "function"):=gS.mp e
 obtain⟨o,ho,hc⟩:=i3.mp e'
 exact⟨o,X _ _ ho,hc⟩
def ZA(c:List V->Hp->Prop)(t:TA):TS:=λ_ O H=>t O H c
section
variable{X:Cx}{C CE fI:Addr}{x name:Str}{e0:Expr}{es:List Expr}{t:TA}{np cZ pos:Pos}{E:XK}{k:Nat}{fd:FuncData}{ps:List Str}{sp:Sp}{c:List V->Hp->Prop}
theorem ZC(hc:XC X.K C CE fI name)(F:aK X.prog X.w X.K X.mg X.base aS k fI fd ps sp)(hb:Binds X.K fd ps [])(ma:ps.length<=64)(hr:bT (k+1) X.A)(yY:X.calm=true)(hg:Gl X x)(hm:X.mg x=some (.ref C))(ha:PA (X.cj (Fx X E)) (e0::es) t)
  (hcc:∀vs H1,c vs H1->∀e,H1 e=none->sp (.ref e::vs) (upd H1 e (nE C e)) (λv H2=>v = .aw/\∃dx,H2 e=some (qK C dx e)/\E (.ref C) (some e) (upd H2 e (ji C dx e))) E0)
  (cU:(x==("__debug__":Str))=false:=by decide) (he:starEach (e0::es) X.env=(false,eval e0 X.env)::starEach es X.env:=by rfl) (aL:(backTo cZ (starEach es X.env)).any (·.1)=false:=by rfl) :
  PS (X.cj (Fx X E)) (.Raise (some (.Call (.Name x np) (e0::es) [] cZ)) none pos) (ZA c t):=by
 intro pins s O H D I h
 have hh:X.A.handled=none:=I.ok.hd yY
 rw[arm_exec_Raise]
 refine ah (xA ?_)
 simp only[evalOpt,Option.map]
 refine Zy (C:=C) (bm := .ref CE::cM) (by rw[jA,show cM.contains (.type "BaseException")=true from by decide +kernel,i7]) hh (ah ?_)
 refine fC (Q:=λv s₁=>∃e t dx nm q N bs fh sn sub ab col dd k0 k1 k2 k3 k5 newId,v = .ref e/\s₁.heap.get? C=some (excClassObj nm q C N bs (.ref CE::cM) fh sn sub ab col dd k0 k1 k2 k3 k5 newId)/\
   s₁.heap.get? e=some (gI C (some dx) t)/\Fx X E (.ref e) s₁) ?_ (λv s3 h3=>ah (xA (aE h3))) λ_ _ z=>z
 refine nW (lG (X:=X.cj (Fx X E)) I hg hm ?_ cU)
 refine xD (h₀:=X.base) I.ok.mod.lD hc.kp (aD (ha cZ pins s O H _ I h) λus s1 ⟨vs,H1,I1,r,q0⟩=>⟨I1.bN,?_⟩) he aL
 have q:=hcc vs H1 q0
 obtain⟨nm,qn,N,bs,sn,sub,ab,col,dd,k0,k1,k2,k3,k5,mN,cd,hC,hN,hi,hT,dG,o9,qJ⟩:=(wb I1.bN hc.cls).ex
 obtain⟨oI,ZD,yN⟩:∃oI,s1.heap.get? fI=some oI/\oI.cls = .type "function":=Zz I1.bN hc.fn
 obtain⟨hp,g,d,tk,os⟩:=s1
 have hlen:us.length<=sizeLine:=by
  have e1:=F.len _ _ _ _ (q (hp.objs.size+1) (I1.ar.fresh (fF _)))
  have e2:=r.length
  have e3:vs.length+1=ps.length:=e1
  exact bL (show us.length<=64 by lia) (by decide)
 refine Zg PySem.F.excBase_ValueError hT hC hN hi ZD yN hlen ?_
 have I2:=(I1.kept (h':=hp.push (jM us)) (t':=tk) λb u z=>bq _ z).laid (a:=hp.objs.size+1) (o:=nE C (hp.objs.size+1)) (h':=(hp.push (jM us)).push (kE C hp.objs.size)) (t':=tk)
  (λb u z=>bq _ z) (by simp[j3]) (Ow (u:=hp.objs.size) (by heap_get))
 have tj:H1 (hp.objs.size+1)=none:=I1.ar.fresh (fF _)
 have hq:=q (hp.objs.size+1) tj
 have r2:Vals (V.ref (hp.objs.size+1)::vs) (Value.ref (hp.objs.size+1)::us) := .cons rfl r
 have hl:(Value.ref (hp.objs.size+1)::us).length=ps.length:=by rw[<-r2.length];exact F.len _ _ _ _ hq
 have qy:=hb ⟨(hp.push (jM us)).push (kE C hp.objs.size),g,d,tk,os⟩ (Value.ref (hp.objs.size+1)::us) I2.bN (by rw[dS];exact hl)
 rw[dS] at qy
 refine jw (xC (F.run _ X.stack _ _ ⟨Value.ref (hp.objs.size+1)::us,[]⟩ (Value.ref (hp.objs.size+1)::us) _ _ E0 (hr.make C us [])
  (I2.x4.make C us []) qy r2 hq) λr s' fX=>?_)
 cases r with
 |error e=>exact fX.elim
 |ok fl=>
  cases fl with
  |ret u=>
   obtain⟨v,H',I3,rv,ev,dx,hx,q3⟩:=I2.after fX
   subst ev
   refine⟨rv,?_⟩
   obtain⟨⟨u0,g9⟩,_,_⟩:=I3.ar _ _ hx
   have raw:G5 s'.heap (hp.objs.size+1) C (some dx):=⟨_,rfl,g9,rfl⟩
   obtain⟨nm,qn,N,bs,sn,sub,ab,col,dd,k0,k1,k2,k3,k5,mN,cd,hC,_⟩:=(wb I3.bN hc.cls).ex
   have I4:=I3.write (x:=hp.objs.size+1) (e:=hp.objs.size+1) (o:=ji C dx (hp.objs.size+1)) (h':=s'.heap) (t':=s'.toks) (by rw[hx];trivial) (.inl rfl) (λb u _ z=>z) ⟨_,g9⟩ (G4 rfl g9)
   exact⟨_,_,dx,_,_,_,_,_,_,_,_,_,_,_,_,_,_,_,_,rfl,hC,g9,hp.objs.size+1,C,dx,O,_,rfl,I4.gw.B8,ao,.inl raw,q3⟩
  |next=>exact False.elim fX
  |brk=>exact False.elim fX
  |cont=>exact False.elim fX
end
section
variable{X:Cx}{pins:List (Addr×Obj)}{O:St}{H:Hp}{s:Shared}
def Cb{i:Nat}{Q:Unit->Shared->Prop}(I:Inv X pins O H s)(hN:X.N.Nodup)(hi:X.N[i]? = some n)(hl:X.env.kindOf n=some .local)
  (h:∀s',Inv X pins (O.set i none) H s'->Q () s'):wpAny M A (do bindName X.env n .none;unbindBehindTheSuite X.env n pos) Q E s:=by
 have Fe:(X.env.scope.kind == .class||(X.env.scope.kind == .module&&X.env.locals != X.env.globals))=false:=by rw[I.ok.kind];rfl
 refine ah (wpAny_bindName (xQ (v := .aw) I hN hi (.inl hl) rfl (λs1 I1=>?_) (.inr hl)))
 obtain⟨m,hn,lT⟩:=id I1.loc
 have xO:i<O.length:=by rw[I.len];exact(bR.mp hi).1
 have He:∃u,m n=some u:=by
  obtain⟨u,_,l⟩:=lT i n .aw hi (rP xO) (.inl hl)
  rcases l with ⟨_,e⟩ | ⟨k,_⟩
  .exact⟨u,e⟩
  .rw[hl] at k;rcases k with k | k <;> cases k
 unfold unbindBehindTheSuite
 refine EV ?_
 unfold unbindName
 refine ah (wpAny_point (ah ?_))
 unfold deleteName
 simp only[hl,Fe]
 rw[au (by decide)]
 refine ah (wpAny_nsDel_keeps hn λh₂ v ZE hs=>?_)
 obtain⟨u0,ZF⟩:=He
 rw[ZF]
 simp only[j4,Option.isSome_some,Bool.not_true,AX,rR]
 refine aE (wpAny_point (h _ ?_))
 have same:∀b o,b≠X.env.locals->s1.heap.get? b=some o->h₂.get? b=some o:=λb o hb e=>(hs.2 b hb).trans e
 have old:∀b o,X.s₀.heap.get? b=some o->b≠X.env.locals:=λb o e=>bV (gq (bx e) I1.ok.above)
 have Oy:∀b u,H b=some u->b≠X.env.locals:=λb u e z=>by rw[z,I1.free] at e;cases e
 have cl:∀y c v,X.env.cells.lookup y=some c->s1.heap.IsCell c v->h₂.IsCell c v:=λy c v e z=>z.sameBut hs (I1.qm y c e)
 exact
  {
   ok:=I1.ok,os:=I1.os,bare:=I1.bare,free:=I1.free,dm:=I1.dm
   len:=by rw[AV];exact I.len
   base:=
    {
     keep:=λb o e n hb hx=>same b o (old b o e) (I1.base.keep b o e n hb hx)
     slot:=λb o e n hb hx=>(I1.base.slot b o e n hb hx).imp λsl z=>same b _ (old b o e) z
     free:=I1.base.free
     there:=λb o e hx=>(I1.base.there b o e hx).imp λo' z=>same b o' (old b o e) z
     fJ:=I1.base.fJ,jb:=I1.base.jb,jD:=I1.base.jD }
   cell:=λy c e=>(I1.cell y c e).imp λv z=>cl y c v e z
   pin:=λp hp=>⟨same p.1 p.2 (I1.pin p hp).2.2.1 (I1.pin p hp).1,(I1.pin p hp).2⟩
   ar:=λb u e=>(I1.ar b u e).ja (λc v hc z=>same c v (by rcases hc with rfl | hc;exact Oy _ _ e;exact Oy _ _ hc) z) (λ_ z=>z) λ_ _ z=>z
   loc:=by
    refine⟨_,ZE,λj y v' e1 e2 e3=>?_⟩
    have hj:j≠i:=λz=>by rw[z,rP xO] at e2;cases e2
    rw[uW (aP hj)] at e2
    obtain⟨u',r',w⟩:=lT j y v' e1 (by rw[uW (aP hj)];exact e2) e3
    refine⟨u',r',w.imp (λk=>⟨k.1,?_⟩) λ⟨k,c,e,z⟩=>⟨k,c,e,cl y c _ e z⟩⟩
    have hy:¬y=n:=λz=>hj (Fd hN e1 (by rw[z];exact hi))
    show(if y=n then v else m y)=some u'
    rw[au hy]
    exact k.2 }
end
noncomputable def jj(K:Frag)(S:Addr)(bm:List Value):Bool:=match K.lookup S with
 |some ⟨.type "type",_,.cls cd,sl⟩=>(match cd.mro,sl.toList with
  |.ref S'::Oz,[_,_,_,_,some (.builtin _),_]=>S'==S && !cd.hasDel&&Oz==bm
  |_,_=>false)
 |_=>false
def OA(X:K.In h)(q:jj K S bm=true) :
  ∃(nm q:Str) (N:Addr) (bs:List Value) (hd:Bool) (sn:List Str) (sub:List Value) (ab:Bool) (col:Option Bool) (dd:Option Addr) (k0 k1 k2 k3 k5:Option Value) (n:String),
   h.get? S=some (excClassObj nm q S N bs bm hd sn sub ab col dd k0 k1 k2 k3 k5 n):=by
 unfold jj at q
 split at q
 .rename_i dd cd sl ho
  split at q
  .rename_i S' Oz k0 k1 k2 k3 n k5 hm hs
   simp only[d7,gS,AY] at q
   obtain⟨⟨rfl,kI⟩,o8⟩:=q
   obtain⟨nm,bs,mro,ns,qn,hd,sn,sub,ab,col,del⟩:=cd
   dsimp only at hm kI
   subst hm kI o8
   have oQ:sl = #[k0,k1,k2,k3,some (.builtin n),k5]:=by
    obtain⟨l⟩:=sl
    simp only at hs
    rw[hs]
   subst oQ
   exact⟨nm,qn,ns,bs,hd,sn,sub,ab,col,dd,k0,k1,k2,k3,k5,n,X _ _ ho⟩
  .cases q
 .cases q
def ZG{oe:Obj}{Q:Bool->Shared->Prop}(X:K.In s.heap)(hC:jj K C tP=true)(hS:jj K S wc=true)
  (hb:wc.contains (.type "BaseException")=true) (he:s.heap.get? e=some oe) (hc:oe.cls = .ref C) (h:Q ((Value.ref C::tP).contains (.ref S)) s):wpAny M A (excMatches (.ref e) (.ref S)) Q E s:=by
 obtain⟨nm,q,N,bs,hd,sn,sub,ab,col,dd,k0,k1,k2,k3,k5,n,oC⟩:=OA X hC
 obtain⟨nm',q',N',bs',vo,sn',agX,ab',agY,sY,k0',k1',k2',k3',k5',n',oS⟩:=OA X hS
 obtain⟨hp,g,d,tk,os⟩:=s
 have yX:(Value.ref S::wc).contains (.type "BaseException")=true:=by rw[jA,hb,i7]
 have f1:=tc_notTuple
 have hT:(⟨hp,g,d,tk,os⟩:Shared).TypeIs (.ref S) "type":=⟨_,oS,rfl⟩
 unfold excMatches
 repeat (any_goals (first | assumption | (with_reducible refine mT he ?_;rw[hc]) | with_reducible refine mT oS ?_ | (with_reducible refine Ba oS ?_;rw[yX]) | with_reducible refine Ba oC ?_ | wp_step))
 revert h
 generalize (Value.ref C::tP).contains (Value.ref S)=b
 intro h
 cases b with
 |true=>
  rw[aC rfl]
  exact aE (aE (aE h))
 |false=>
  rw[au (by decide)]
  exact aE (aE (aE h))
noncomputable abbrev Cx.pe(X:Cx)(pn:List (Addr×Obj)):Cx:={ X with pn:=X.pn++pn }
noncomputable abbrev Cx.dw(X:Cx)(e:Addr):Cx:={ X with A:=X.A.mark (some (.ref e)),calm:=false,xe:=λ_ _=>False }
section
variable{X:Cx}{pins:List (Addr×Obj)}{O:St}{H:Hp}{s:Shared}{e:Addr}
theorem Inv.pe(I:Inv X pins O H s):Inv (X.pe pins) [] O H s:=
 ⟨⟨I.ok.mod,I.ok.kind,I.ok.glob,I.ok.blt,I.ok.above,I.ok.inj,I.ok.has,I.ok.qk,I.ok.hd,I.ok.frames,I.ok.sf,I.ok.xJ,I.ok.bs,I.ok.j7,I.ok.mW,I.ok.si,I.ok.ip,I.ok.lE⟩,
  I.os,I.bare,I.base,I.loc,I.cell,I.free,I.dm,λp hp=>I.pin p (by rw[dS] at hp;exact hp),I.ar,I.len⟩
def Inv.we(I:Inv (X.pe pins) [] O H s):Inv X pins O H s:=
 ⟨⟨I.ok.mod,I.ok.kind,I.ok.glob,I.ok.blt,I.ok.above,I.ok.inj,I.ok.has,I.ok.qk,I.ok.hd,I.ok.frames,I.ok.sf,I.ok.xJ,I.ok.bs,I.ok.j7,I.ok.mW,I.ok.si,I.ok.ip,I.ok.lE⟩,
  I.os,I.bare,I.base,I.loc,I.cell,I.free,I.dm,λp hp=>I.pin p (by rw[dS];exact hp),I.ar,I.len⟩
theorem Inv.dw(I:Inv X pins O H s)(e:Addr):Inv (X.dw e) pins O H s:=
 ⟨⟨I.ok.mod,I.ok.kind,I.ok.glob,I.ok.blt,I.ok.above,I.ok.inj,I.ok.has,I.ok.qk,(λz=>nomatch z),I.ok.frames,I.ok.sf,I.ok.xJ,I.ok.bs,I.ok.j7,I.ok.mW,I.ok.si,I.ok.ip,I.ok.lE⟩,
  I.os,I.bare,I.base,I.loc,I.cell,I.free,I.dm,I.pin,I.ar,I.len⟩
def Inv.Cc{Y:Cx}{O':St}(I:Inv (X.dw e) pins O H s)(J:Inv X vp O' H' s'):Inv X pins O H s:=
 ⟨J.ok,I.os,I.bare,I.base,I.loc,I.cell,I.free,I.dm,I.pin,I.ar,I.len⟩
end
noncomputable abbrev Ends.out(D:Ends)(i:Nat):Ends:={ nx:=λO H=>D.nx (O.set i none) H,rt:=D.rt,bk:=λO H=>D.bk (O.set i none) H,ct:=λO H=>D.ct (O.set i none) H }
def ZH(K:Frag)(S:Addr)(i:Nat)(tb:(St->XK)->TS)(th:TS):TS:=λD O H=>
 tb (λO' c o H' =>∃C e tP,c = .ref C/\o=some e/\jj K C tP=true/\(Value.ref C::tP).contains (.ref S)=true/\th (D.out i) (O'.set i (some (.ref e))) H') D O H
section
variable{X:Cx}{W:Value->Shared->Prop}{x n:Str}{i:Nat}{S:Addr}{wc:List Value}{body OB:List Stmt}{b0:Stmt}{ZI np pos:Pos}{tb:(St->XK)->TS}{th:TS}
def ZJ(d9:X.stack=X.env::X.outer)(hf:X.env.frame=some X.env.locals)(hN:X.N.Nodup)(hi:X.N[i]? = some n)(hl:X.env.kindOf n=some .local)(hS:jj X.K S wc=true)(ZL:wc.contains (.type "BaseException")=true)
  (hg:Gl X x) (hm:X.mg x=some (.ref S)) (hb:∀(pn:List (Addr×Obj)) (E1:St->XK),eU ((X.pe pn).cj (kG (X.pe pn) E1)) body (tb E1)) (hh:∀e,eU (X.dw e) (b0::OB) th) (cU:(x==("__debug__":Str))=false:=by decide) :
  PS (X.cj W) (.Try body [.ExceptHandler (some (.Name x np)) (some n) (b0::OB) ZI] [] [] pos) (ZH X.K S i tb th):=by
 intro pins s O H D I h
 have I0:Inv X pins O H s:=I.gw
 refine wpAny_Try_except (fC (hb pins _ [] s O H D (I0.pe.cj _) h) (λf s1 q=>?_) λv s1 q=>?_)
 .cases f with
  |next=>
   obtain⟨O',H',I1,q⟩:=q
   exact EB ⟨O',H',(I1.gw.we).cj W,q⟩
  |brk=>obtain⟨O',H',I1,q⟩:=q;exact⟨O',H',(I1.gw.we).cj W,q⟩
  |cont=>obtain⟨O',H',I1,q⟩:=q;exact⟨O',H',(I1.gw.we).cj W,q⟩
  |ret u=>obtain⟨v,O',H',I1,r,q⟩:=q;exact⟨v,O',H',(I1.gw.we).cj W,r,q⟩
 .obtain⟨e,C,dx,O',H',ev,I1,he,hx,C',e',tP,hc,ho,ZM,pf,ZN⟩:=q
  subst ev
  cases hc
  cases ho
  refine G7 (X:=X.pe pins) I1 d9 hf he hx λs2 I2 t2=>?_
  refine B7 (X:=X.pe pins) none I2 he t2 λs3 I3 t3=>?_
  refine wpAny_handleBy_cons (codeAny_handlers_test ?_) (by intro q;cases q)
  refine lG (X:=X.dw e) (I3.we.dw e) hg hm ?_ cU
  obtain⟨⟨vs,_,g9⟩,_,_⟩:=I3.ar e _ he
  refine ZG (K:=X.K) I3.bN ZM hS ZL g9 rfl ?_
  rw[pf]
  refine codeAny_handlers_suite_as ?_
  refine B7 (X:=X.pe pins) none I3 he t3 λs4 I4 t4=>?_
  refine xQ (X:=X.dw e) (v := .ref e) (I4.we.dw e) hN hi (.inl hl) rfl (λs5 I5=>?_) (.inr hl)
  refine fC (hh e pins s5 _ H' (D.out i) I5 ZN) (λf s6 q=>?_) λ_ _ z=>z.elim
  cases f with
  |next=>
   obtain⟨O6,H6,I6,q⟩:=q
   exact Cb (X:=X) (I6.Cc (Y:=X) I0) hN hi hl λs7 I7=>⟨_,H6,I7.cj W,q⟩
  |brk=>
   obtain⟨O6,H6,I6,q⟩:=q
   exact Cb (X:=X) (I6.Cc (Y:=X) I0) hN hi hl λs7 I7=>⟨_,H6,I7.cj W,q⟩
  |cont=>
   obtain⟨O6,H6,I6,q⟩:=q
   exact Cb (X:=X) (I6.Cc (Y:=X) I0) hN hi hl λs7 I7=>⟨_,H6,I7.cj W,q⟩
  |ret u=>
   obtain⟨v,O6,H6,I6,r,q⟩:=q
   exact Cb (X:=X) (I6.Cc (Y:=X) I0) hN hi hl λs7 I7=>⟨v,_,H6,I7.cj W,r,q⟩
end
section
variable{X:Cx}{x:Str}{p pos:Pos}{e:Expr}{es:List Expr}{t:TA}{sp:Sp}{k:Nat}{E1:St->XK}{f:Addr}{fd:FuncData}{ps:List Str}{cw:List V}{ds:List Value}
def OC{Q:VK}{vs:List V}(F:aK X.prog X.w X.K X.mg X.base (eN X.prog X.w) k f fd ps sp)(hr:bT k X.A)(hb:Binds X.K fd ps ds)(hd:Vals cw ds)
  (I:Inv (X.cj (kG X E1)) pins O H s) (r:Vals vs us) (h:sp (vs++cw) H Q (E1 O)):wpAny (model X.prog X.w) X.A (call (.ref f) us) (EP (X.cj (kG X E1)) pins O Q) (kG X E1) s:=by
 have r2:Vals (vs++cw) (us++ds):=r.append hd
 have hl:(us++ds).length=ps.length:=by rw[<-r2.length];exact F.len _ _ _ _ h
 refine jw (xC (F.run X.A X.stack s H ⟨us,[]⟩ (us++ds) (vs++cw) Q (E1 O) hr I.x4 (hb s us I.bN hl) r2 h) λr s' hq=>?_)
 cases r with
 |error v=>
  obtain⟨e,C,dx,H',ev,ho,hb,un,ar,he,tb,q⟩:=(show eN X.prog X.w X.stack H s (E1 O) v s' from hq)
  subst ev
  have I1:Inv X pins O H s:=I.gw
  exact⟨e,C,dx,O,H',rfl,(I1.vq (ch:=[]) ho un ar hb λ_ z=>nomatch z).B8,he,.inr (tb.imp I1.sz (λ_ _=>trivial) (.inl λp hp=>bx (I1.pin p (j0 _ hp)).1)),q⟩
 |ok fl=>
  cases fl with
  |ret u=>exact I.after hq
  |next=>exact False.elim hq
  |brk=>exact False.elim hq
  |cont=>exact False.elim hq
def OD(sp:Sp)(cw:List V)(E:St->XK)(t:TA):TE:=λO H Q=>t O H λvs H1=>sp (vs++cw) H1 Q (E O)
def OE(F:kH X.prog X.w X.K X.mg X.base x k sp)(hr:bT k X.A)(hg:Gl X x)(ha:PA (X.cj (kG X E1)) (e::es) t)(cU:(x==("__debug__":Str))=false:=by decide)
  (he:starEach (e::es) X.env=(false,eval e X.env)::starEach es X.env:=by rfl) (aL:(backTo pos (starEach es X.env)).any (·.1)=false:=by rfl):PE (X.cj (kG X E1)) (.Call (.Name x p) (e::es) [] pos) (OD sp [] E1 t):=by
 intro pins s O H Q I h
 obtain⟨f,fd,ps,G,hm,hk,hb⟩:=F.ex
 refine nW (lG (X:=X.cj (kG X E1)) I hg hm ?_ cU)
 refine xD (h₀:=X.base) I.ok.mod.lD hk (aD (ha pos pins s O H _ I h) λus s1 ⟨vs,H1,I1,r,q⟩=>⟨I1.bN,?_⟩) he aL
 exact OC G hr hb .nil I1 r q
end
section
variable{prog:Program}{w:World}{A:Around}{E:Value->Shared->Prop}{s:Shared}{K:Frag}{C e dx:Addr}{vs:Array Value}{bm:List Value}{cd:ClassData}
structure XI(K:Frag)(C:Addr):Prop where
 ec:∃cd,clsIn K C=some cd/\cd.mro.contains (.type "BaseException")=true/\cd.mro.contains (.type "object")=true/\cd.mro.isEmpty=false
 get:findIn K (.ref C) "__getattribute__"=some (some (.builtin "BaseException.__getattribute__"))
 yW:findIn K (.ref C) "__getattr__"=some none
 cl:findIn K (.ref C) "__class__"=some (some (.builtin "object.__class__"))
 cg:specialIn K (.builtin "object.__class__") "__get__"=some (some (.builtin "getset_descriptor.__get__"))
 ct:takesIn K (.builtin "object.__class__")=some true
def ZO{od:Obj}{Q:Option Value->Shared->Prop}(X:K.In s.heap)(hI:XI K C)(J:PySem.W.InstAt s.heap e ox C (some od))(h:Q (some (.ref C)) { s with toks:=s.toks+1 }) :
  wpAny (model prog w) A (getAttr? (.ref e) "__class__") Q E s:=by
 obtain⟨⟨cd,hc,Hf,Hg,aT⟩,hg,yO,dG,tQ,pf⟩:=hI
 have hf:PySem.W.findObj K C (some od) "__class__"=some (.bind (.builtin "getset_descriptor.__get__") (.builtin "object.__class__")):=PySem.W.findObj_data (by rw[hc];rfl) dG tQ pf
 have L0:=J.type (M:=model prog w)
 have L1:=rQ (M:=model prog w) X hg
 have yP:=rQ (M:=model prog w) X yO
 have L3:=PySem.W.looks_find (M:=model prog w) X J hf
 have sub:Looks (model prog w) s.heap (isInstance (.ref e) (.type "BaseException")) true:=J.type.andThen (LG X (by unfold mroIn;rw[hc,vk,au (by rw[aT];decide),Hf]))
 have o9:mroIn K C (.type "object")=some true:=by unfold mroIn;rw[hc,vk,au (by rw[aT];decide),Hg]
 have hk:builtinKind "BaseException.__getattribute__"=some .slot:=by decide +kernel
 have yQ:splitId "BaseException.__getattribute__"=some ("BaseException","__getattribute__"):=by decide +kernel
 have yR:(Value.builtin "BaseException.__getattribute__"==Value.builtin "object.__getattribute__")=false:=by decide +kernel
 have yS:(onTheHeap (Value.ref C)&&Value.builtin "BaseException.__getattribute__"==Value.builtin "object.__getattribute__")=false:=by rw[yR];rfl
 obtain⟨hh,g,d,t,os⟩:=s
 unfold getAttr? getAttrBy? getAttrBy
 refine ah (wpAny_mkText (ah (nZ (fE (ah (L0.at (ah (L1.at ?_))))))))
 dsimp only
 rw[yS]
 show wpAny _ _ (getAttrByItsOwn _ _ _ _ _ _) _ _ _
 unfold getAttrByItsOwn hookBefore
 refine ah ?_
 rw[aC (show onTheHeap (Value.ref C)=true from rfl)]
 refine yP.at (ah (nZ (fE ?_)))
 unfold callGetattribute
 rw[au (by decide)]
 unfold boundAndCalled
 rw[G3]
 refine ah (aE (jw ?_))
 refine A9 (by decide +kernel) F.entry_bexc_ga (@EZ (model prog w) _ _ ⟨hh,g,d,t+1,os⟩ "BaseException.__getattribute__" "BaseException" "__getattribute__" (.ref e) [.str "__class__" t] [] _ hk yQ sub (F.args_bexc_ga _ _) ?_)
 refine ah (aE (ah (aE (ah (L0.at (ah (L3.at ?_)))))))
 show wpAny _ _ (holding [Value.builtin "object.__class__"] (call (.builtin "getset_descriptor.__get__") [.builtin "object.__class__",.ref e,.ref C]) >>= ret) _ _ _
 refine ah (fE (jw (PySem.W.class_get (s:=⟨hh,g,d,t+1,os⟩) (ox:=ox) (od:=some od) X J o9 ?_)))
 refine aE ?_
 show wpAny _ _ (handedOut (.ref C)) _ _ _
 rw[TM rfl]
 exact aE (aE h)
def Cd(X:K.In h)(hc:clsIn K C=some cd):∃o,h.get? C=some o/\o.data = .cls cd:=by
 cases q:K.lookup C with
 |none=>unfold clsIn at hc;rw[q] at hc;cases hc
 |some o=>
  obtain⟨oc,od,dt,os⟩:=o
  unfold clsIn at hc
  rw[q] at hc
  cases dt <;> cases hc
  exact⟨_,X _ _ q,rfl⟩
def ZP(hI:XI K C):PySem.W.KitX K (.ref e) (.ref C) (λh=>∃ox od,PySem.W.InstAt h e ox C (some od)) where
 ty:=λ_ _ _ ⟨_,_,J⟩=>J.type
 it:=λM h X _ A' Q' E' s' k q=>by
  obtain⟨Hh,gU,_⟩:=hI.ec
  obtain⟨o,ho,hd⟩:=Cd X gU
  unfold isType loadHead
  refine ah (Lu (k _ _ ho) ?_)
  rw[hd]
  exact aE q
 ne:=λh tp dd its n sl X yZ=>by
  obtain⟨Hh,gU,_⟩:=hI.ec
  obtain⟨o,ho,hd⟩:=Cd X gU
  cases hq:(Value.ref C==Value.ref tp) with
  |false=>rfl
  |true=>
   cases Value.ref.inj (gS.mp hq)
   rw[ho] at yZ
   cases yZ
   cases hd
 ca:=λX ⟨_,_,J⟩ k=>ZO X hI J k
end
section
variable{X:Cx}{C e dx:Addr}
def Inv.inst(I:Inv X pins O H s){fs:List (Str×V)}(he:H e=some (ji C dx e))(hd:H dx=some (.xd fs)):∃ox od,PySem.W.InstAt s.heap e ox C (some od):=by
 obtain⟨⟨vs,_,h1⟩,_,_⟩:=I.ar e _ he
 obtain⟨mA,⟨o,_,_,h2,_⟩,_⟩:=I.ar dx _ hd
 exact⟨_,o,h1,rfl,rfl,h2⟩
def ZQ:gV X (.builtin "isinstance") (λxs H Q=>∃e C dx fs c v b,xs=[.ref e,c]/\H e=some (ji C dx e)/\H dx=some (.xd fs)/\XI X.K C/\(∀u,RelV c u->u=v)/\kitOne X.K (.ref C) v=some b/\Q (.bl b) H):=by
 intro pins s O H xs us Q I r h
 obtain⟨e,C,dx,fs,c,v,b,rfl,he,hd,hI,hv,hk,q⟩:=h
 obtain⟨u,u2,rfl,ru,Hj⟩:=vals2 r
 cases ru
 cases hv _ Hj
 exact ll (ZP hI) I.bN (I.inst he hd) hk (λz=>nomatch z) λtk=>⟨.bl b,H,I.tok tk,rfl,q⟩
def ZR(K:Frag)(ta:TE)(f:Str):TE:=λO H Q=>ta O H λx H1=>∃e C CE fI dx fs v,x = .ref e/\H1 e=some (ji C dx e)/\H1 dx=some (.xd fs)/\XC K C CE fI f/\fs.lookup f=some v/\Q v H1
def OF{f:Str}(he:PE X o ta)(hb:attributeBase o f X.env (eval o X.env)=eval o X.env):PE X (.Attribute o f pos) (ZR X.K ta f):=by
 intro pins s O H Q I h
 refine FE hb (aD (he pins s O H _ I h) λu s1 h_=>?_)
 obtain⟨x,H1,I1,rx,e,C,CE,fI,dx,fs,v,ex,he,hd,hc,l,q⟩:=h_
 subst ex
 obtain rfl:u=Value.ref e:=rx
 obtain⟨⟨vs,_,h1⟩,_,_⟩:=I1.ar e _ he
 obtain⟨mA,hn,hr⟩:=I1.ar dx _ hd
 obtain⟨nm,qn,N,bs,sn,sub,ab,col,dd,k0,k1,k2,k3,k5,mN,cd,_,_,_,_,dG,o9,qJ⟩:=(wb I1.bN hc.cls).ex
 obtain⟨u,hu,ru⟩:=eT.some_of (v:=v) (o:=mA f) (by rw[<-l];exact hr f)
 exact Zl I1.bN dG o9 (by unfold hasDictIn;rw[dG];exact qJ) hc.get hc.yW hc.fld h1 hn hu (Mn ru) ⟨v,H1,I1.tok _,ru,q⟩
end
structure Rs(P:Program)(w:World)(K:Frag)(mg:Str->Option Value)(base:Heap)(x name:Str)(C CE:Addr)(k:Nat):Prop where
 ex:∃(fI:Addr) (fd:FuncData) (ps:List Str) (sp:Sp),XC K C CE fI name/\aK P w K mg base aS k fI fd ps sp/\Binds K fd ps []/\ps.length<=64/\mg x=some (.ref C)/\
  ∀e v H Q,H e=some (nE C e)->(∀dx,H dx=none->dx≠e->Q .aw (upd (upd H dx (.xd [(name,v)])) e (qK C dx e)))->sp [.ref e,v] H Q E0
def ZS(C:Addr)(name:Str):Sp:=λvs H Q _=>∃(e:Addr) (v:V),vs=[.ref e,v]/\H e=some (nE C e)/\∀dx,H dx=none->dx≠e->Q .aw (upd (upd H dx (.xd [(name,v)])) e (qK C dx e))
def ZT(C:Addr)(name:Str)(E:XK)(t:TA):TS:=λ_ O H=>t O H λvs H1=>∃v,vs=[v]/\∀e dx,H1 e=none->H1 dx=none->dx≠e->E (.ref C) (some e) (upd (upd H1 dx (.xd [(name,v)])) e (ji C dx e))
section
variable{X:Cx}{C CE:Addr}{x name:Str}{e0:Expr}{es:List Expr}{t:TA}{np cZ pos:Pos}{E:XK}{k:Nat}
def OG(R:Rs X.prog X.w X.K X.mg X.base x name C CE k)(hr:bT (k+1) X.A)(yY:X.calm=true)(hg:Gl X x)(ha:PA (X.cj (Fx X E)) (e0::es) t)
  (cU:(x==("__debug__":Str))=false:=by decide) (he:starEach (e0::es) X.env=(false,eval e0 X.env)::starEach es X.env:=by rfl) (aL:(backTo cZ (starEach es X.env)).any (·.1)=false:=by rfl) :
  PS (X.cj (Fx X E)) (.Raise (some (.Call (.Name x np) (e0::es) [] cZ)) none pos) (ZT C name E t):=by
 obtain⟨fI,fd,ps,sp,hc,F,hb,ma,hm,iq⟩:=R.ex
 refine ZC (t:=t) (C:=C) (sp:=sp) (c:=λvs H1=>∃v,vs=[v]/\∀e dx,H1 e=none->H1 dx=none->dx≠e->E (.ref C) (some e) (upd (upd H1 dx (.xd [(name,v)])) e (ji C dx e))) hc F hb ma hr yY hg hm ha (λvs H1 ⟨v,ev,q⟩ e he=>?_) cU he aL
 subst ev
 refine iq e v _ _ ao λdx hd aT=>⟨rfl,dx,ao,?_⟩
 rw[ak aT] at hd
 have z:=q e dx he hd aT
 have eq:upd (upd (upd (upd H1 e (nE C e)) dx (.xd [(name,v)])) e (qK C dx e)) e (ji C dx e)=upd (upd H1 dx (.xd [(name,v)])) e (ji C dx e):=by
  funext b
  by_cases h1:b=e
  .subst h1;rw[ao,ao]
  .rw[ak h1,ak h1,ak h1]
   by_cases h2:b=dx
   .subst h2;rw[ao,ao]
   .rw[ak h2,ak h2,ak h1]
 rw[eq]
 exact z
end
structure Ec(K:Frag)(mg:Str->Option Value)(x:Str)(S:Addr)(bm:List Value):Prop where
 ec:jj K S bm=true
 mg:mg x=some (.ref S)
 hb:bm.contains (.type "BaseException")=true
def ZU{CE:Addr}(h:tN K C CE fI=true):jj K C (.ref CE::cM)=true:=by
 unfold tN at h
 unfold jj
 split at h
 .rename_i ho
  try rw[ho]
  split at h
  .rename_i hm hs
   simp only[d7,gS,AY] at h
   obtain⟨⟨⟨⟨⟨⟨⟨rfl,rfl⟩,kI⟩,ht⟩,o8⟩,ar⟩,tO⟩,qJ⟩:=h
   try simp only[hm,hs]
   rw[o8,kI]
   simp
  .cases h
 .cases h
section
variable{X:Cx}{K:Frag}
def ZV(hK:X.K=K):gV X (.builtin "isinstance") (λxs H Q=>∃e C dx fs c v b,xs=[.ref e,c]/\H e=some (ji C dx e)/\H dx=some (.xd fs)/\XI K C/\(∀u,RelV c u->u=v)/\kitOne K (.ref C) v=some b/\Q (.bl b) H):=by
 subst hK
 exact ZQ
end
def ZW{CE:Addr}{name:Str}(X:K.In h)(hX:XC K C CE fI name)(dG:findIn K (.ref C) "__class__"=some (some (.builtin "object.__class__")))
  (tQ:specialIn K (.builtin "object.__class__") "__get__"=some (some (.builtin "getset_descriptor.__get__"))) (pf:takesIn K (.builtin "object.__class__")=some true):XI K C:=by
 obtain⟨nm,qn,N,bs,sn,sub,ab,col,dd,k0,k1,k2,k3,k5,mN,cd,_,_,_,_,hc,hm,_⟩:=(wb X hX.cls).ex
 have b1:cM.contains (.type "BaseException")=true:=by decide +kernel
 have b2:cM.contains (.type "object")=true:=by decide +kernel
 exact⟨⟨cd,hc,by rw[hm,jA,jA,b1,i7,i7],by rw[hm,jA,jA,b2,i7,i7],by rw[hm];rfl⟩,hX.get,hX.yW,dG,tQ,pf⟩
def ZX(self:Value):bindSpecial (.builtin "ValueError.__init__") self=pure (.builtin "ValueError.__init__",[self]):=by kernel_rfl
section
variable{prog:Program}{w:World}{A:Around}{E:Value->Shared->Prop}{h:Heap}{g:Array GenState}{d:Drawn}{t:Nat}{os:OsState}
variable{nm q:Str}{C N:Addr}{bs bm:List Value}{fh:Bool}{sn:List Str}{sub:List Value}{ab:Bool}{col:Option Bool}{dd:Option Addr}{k0 k1 k2 k3 k5:Option Value}
def ZY(T:OwnTail h cM bm){Q:Fin->Shared->Prop}
  (hC:h.get? C=some (excClassObj nm q C N bs bm fh sn sub ab col dd k0 k1 k2 k3 k5 "ValueError.__new__")) (hn:h.Ns N mN) (hi:mN "__init__"=none)
  (fin:∀h' u,h'.get? (h.objs.size+1)=some (gI C none u)->(∀b o,h.get? b=some o->h'.get? b=some o)->Q (.done (.ret (.ref (h.objs.size+1)))) ⟨h',g,d,t,os⟩) :
  wpAny (model prog w) A (Builtin.«type.__call__» ⟨[.ref C,v],[]⟩) Q E ⟨h,g,d,t,os⟩:=by
 have F:=PySem.F.excBase_ValueError
 have hz:[v].length<=sizeLine:=by show 1<=sizeLine;decide
 repeat (first | with_reducible refine mT hC ?_ | with_reducible refine wpAny_madeBy_exc hC ?_ | wp_step)
 refine codeAny_call_builtin_code (LF _ F.quiet) (wpAny_check_new_subT F T hC (codeAny_exc_new_subT F T hC ?_ hz))
 show wpAny _ _ _ _ _ _
 have up:∀b o,h.get? b=some o->((h.push (jM [v])).push (kE C h.objs.size)).get? b=some o:=λb o e=>bq _ (bq _ e)
 have c1:=up _ _ hC
 have n1:((h.push (jM [v])).push (kE C h.objs.size)).Ns N mN:=hn.keeps up
 have e1:((h.push (jM [v])).push (kE C h.objs.size)).get? (h.objs.size+1)=some (kE C h.objs.size):=by heap_get
 have cc:(Value.ref C::bm).contains (.ref C)=true:=by simp
 have T1:=T.keeps up
 unfold isInstance
 repeat (first | with_reducible refine mT e1 ?_ | (with_reducible refine Ba c1 ?_;rw[cc]) | wp_step)
 show wpAny _ _ (typeLookup (.ref C) _) _ _ _
 refine wpAny_typeLookup_tail c1 n1 T1 F.mroIs F.init.lookup ?_
 rw[hi]
 refine fE (ah ?_)
 rw[ZX]
 refine aE (ah (Oj F T1 c1 (od:=none) (u:=h.objs.size) e1 λh' g1 g2 k=>?_))
 wp_walk
 refine fin h' _ g1 λb o z=>k b o ?_ (up b o z)
 have:=bx z
 intro y
 rw[y] at this
 exact absurd this (Nat.not_lt.mpr (fF _))
def ZZ(T:OwnTail h cM bm)
  (hC:h.get? C=some (excClassObj nm q C N bs bm fh sn sub ab col dd k0 k1 k2 k3 k5 "ValueError.__new__")) (hn:h.Ns N mN) (hi:mN "__init__"=none)
  (fin:∀h' u,h'.get? (h.objs.size+1)=some (gI C none u)->(∀b o,h.get? b=some o->h'.get? b=some o)->Q (.ref (h.objs.size+1)) ⟨h',g,d,t,os⟩) :
  wpAny (model prog w) A (call (.ref C) [v]) Q E ⟨h,g,d,t,os⟩:=by
 have f1:=tc_lookup
 have f2:=tc_bind (.ref C)
 have hT:(⟨h,g,d,t,os⟩:Shared).TypeIs (.ref C) "type":=⟨_,hC,rfl⟩
 refine jw (codeAny_of_tree ?_)
 show wpAny _ _ (callAny (.ref C) _) _ _ _
 repeat (any_goals (first | assumption | with_reducible refine mT hC ?_ | wp_step))
 refine⟨rfl,codeAny_call_builtin_at (LF _ (by decide +kernel)) entry_typeCall (wpAny_check_type_call_sub hC (ZY T hC hn hi λh' u a b=>fin h' u a b))⟩
end
noncomputable def tR(K:Frag)(C CE:Addr):Bool:=match K.lookup C with
 |some ⟨.type "type",_,.cls cd,sl⟩=>(match cd.mro,sl.toList with
  |.ref C'::bm,[_,_,_,_,some (.builtin n),_]=>C'==C&&n=="ValueError.__new__" && !cd.hasDel&&PySem.W.tailIn K cM bm&&bm == .ref CE::cM&&PySem.W.nsOkIn K cd.ns&&nsIn K cd.ns "__init__"==some none
  |_,_=>false)
 |_=>false
def Z1{N:Addr}(X:K.In h)(G:h.Ns N m)(e:nsIn K N n=some none):m n=none:=by
 obtain⟨ob,es,ep,h1,h2,_,h3⟩:=G
 unfold nsIn at e
 split at e
 .rename_i q
  have z:=X _ _ q
  rw[h1] at z
  cases z
  cases h2
  split at e
  .cases e
  .rename_i he
   rw[<-h3]
   unfold nsFind findBy
   rw[<-Array.find?_toList,he]
   rfl
 .cases e
structure Z3(h:Heap)(K:Frag)(C CE:Addr):Prop where
 ex:∃(nm q:Str) (N:Addr) (bs:List Value) (fh:Bool) (sn:List Str) (sub:List Value) (ab:Bool) (col:Option Bool) (dd:Option Addr) (k0 k1 k2 k3 k5:Option Value) (mN:Str->Option Value) (cd:ClassData),
  h.get? C=some (excClassObj nm q C N bs (.ref CE::cM) fh sn sub ab col dd k0 k1 k2 k3 k5 "ValueError.__new__")/\h.Ns N mN/\mN "__init__"=none/\OwnTail h cM (.ref CE::cM)/\
  clsIn K C=some cd/\cd.mro = .ref C :: .ref CE::cM
def OH{CE:Addr}(X:K.In h)(q:tR K C CE=true):Z3 h K C CE:=by
 unfold tR at q
 split at q
 .rename_i dd cd sl ho
  split at q
  .rename_i C' bm k0 k1 k2 k3 n k5 hm hs
   simp only[d7,gS,AY] at q
   obtain⟨⟨⟨⟨⟨⟨rfl,rfl⟩,kI⟩,ht⟩,o8⟩,ar⟩,tO⟩:=q
   have dG:clsIn K C'=some cd:=by unfold clsIn;rw[ho]
   obtain⟨nm,bs,mro,ns,qn,hd,sn,sub,ab,col,del⟩:=cd
   dsimp only at hm kI ar tO
   subst hm kI o8
   have oQ:sl = #[k0,k1,k2,k3,some (.builtin "ValueError.__new__"),k5]:=by
    obtain⟨l⟩:=sl
    simp only at hs
    rw[hs]
   subst oQ
   exact⟨nm,qn,ns,bs,hd,sn,sub,ab,col,dd,k0,k1,k2,k3,k5,h.nsMap ns,_,X _ _ ho,.of_isNs (LH X ar),Z1 X (.of_isNs (LH X ar)) tO,PySem.W.tail_of_in X ht,dG,rfl⟩
  .cases q
 .cases q
structure Hk(K:Frag)(mg:Str->Option Value)(x:Str)(C CE:Addr):Prop where
 cls:tR K C CE=true
 kp:keepIn K (.ref C)=true
 mg:mg x=some (.ref C)
section
variable{M:Model}{A:Around}{E:Value->Shared->Prop}{env:Env}{C:Addr}{bm:List Value}
def Z4{Q:Flow->Shared->Prop}(sP:bm.contains (.type "BaseException")=true)(hh:A.handled=none)
  (h:wpAny M A x (λv s₁=>∃e t nm q N bs fh sn sub ab col dd k0 k1 k2 k3 k5 newId,v = .ref e/\s₁.heap.get? C=some (excClassObj nm q C N bs bm fh sn sub ab col dd k0 k1 k2 k3 k5 newId)/\
   s₁.heap.get? e=some (gI C none t)/\E (.ref e) s₁) E s) :
  wpAny M A (raiseStmt env (some x) none) Q E s:=by
 have yX:(Value.ref C::bm).contains (.type "BaseException")=true:=by rw[jA,sP,i7]
 unfold raiseStmt
 refine ah (fC h (λv s₁ h₁=>?_) λ_ _ x=>x)
 obtain⟨e,t,nm,q,N,bs,fh,sn,sub,ab,col,dd,k0,k1,k2,k3,k5,newId,rfl,hC,he,hE⟩:=h₁
 obtain⟨hp,g,d,tk,os⟩:=s₁
 repeat (first | with_reducible refine mT he ?_ | with_reducible refine mT hC ?_ | (with_reducible refine Ba hC ?_;rw[yX]) | wp_step)
 exact wpAny_raiseNew_none hh hE
end
def Z5(C:Addr)(E:XK)(t:TA):TS:=λ_ O H=>t O H λvs H1=>∃v,vs=[v]/\∀e,H1 e=none->E (.ref C) (some e) (upd H1 e (iR C none e))
section
variable{X:Cx}{C CE:Addr}{x:Str}{e0:Expr}{t:TA}{np cZ pos:Pos}{E:XK}
def Z6(R:Hk X.K X.mg x C CE)(yY:X.calm=true)(hg:Gl X x)(ha:PA (X.cj (Fx X E)) [e0] t)
  (cU:(x==("__debug__":Str))=false:=by decide) (he:starEach [e0] X.env=(false,eval e0 X.env)::starEach [] X.env:=by rfl) (aL:(backTo cZ (starEach [] X.env)).any (·.1)=false:=by rfl) :
  PS (X.cj (Fx X E)) (.Raise (some (.Call (.Name x np) [e0] [] cZ)) none pos) (Z5 C E t):=by
 intro pins s O H D I h
 have hh:X.A.handled=none:=I.ok.hd yY
 rw[arm_exec_Raise]
 refine ah (xA ?_)
 simp only[evalOpt,Option.map]
 refine Z4 (C:=C) (bm := .ref CE::cM) (by rw[jA,show cM.contains (.type "BaseException")=true from by decide +kernel,i7]) hh (ah ?_)
 refine fC (Q:=λv s₁=>∃e t nm q N bs fh sn sub ab col dd k0 k1 k2 k3 k5 newId,v = .ref e/\s₁.heap.get? C=some (excClassObj nm q C N bs (.ref CE::cM) fh sn sub ab col dd k0 k1 k2 k3 k5 newId)/\
   s₁.heap.get? e=some (gI C none t)/\Fx X E (.ref e) s₁) ?_ (λv s3 h3=>ah (xA (aE h3))) λ_ _ z=>z
 refine nW (lG (X:=X.cj (Fx X E)) I hg R.mg ?_ cU)
 refine xD (h₀:=X.base) I.ok.mod.lD R.kp (aD (ha cZ pins s O H _ I h) λus s1 ⟨vs,H1,I1,r,q0⟩=>⟨I1.bN,?_⟩) he aL
 obtain⟨v,rfl,q⟩:=q0
 obtain⟨u,rfl,ru⟩:=vals1 r
 obtain⟨nm,qn,N,bs,fh,sn,sub,ab,col,dd,k0,k1,k2,k3,k5,mN,cd,hC,hN,hi,hT,dG,o9⟩:=(OH I1.bN R.cls).ex
 obtain⟨hp,g,d,tk,os⟩:=s1
 refine ZZ hT hC hN hi λh' u' oY k=>?_
 have tj:H1 (hp.objs.size+1)=none:=I1.ar.fresh (fF _)
 have I2:=I1.laid (a:=hp.objs.size+1) (o:=iR C none (hp.objs.size+1)) (h':=h') (t':=tk) (λb o z=>k b o z) (fF _) (G4 rfl oY)
 exact⟨_,_,_,_,_,_,_,_,_,_,_,_,_,_,_,_,_,_,rfl,k _ _ hC,oY,hp.objs.size+1,C,none,O,_,rfl,I2.gw.B8,ao,.inl ⟨_,rfl,oY,rfl⟩,q _ tj⟩
end
section
variable{prog:Program}{w:World}{A:Around}{E:Value->Shared->Prop}{s:Shared}{K:Frag}{C e dx:Addr}{vs:Array Value}{bm:List Value}{cd:ClassData}
def Z7{od:Option Obj}{Q:Option Value->Shared->Prop}(X:K.In s.heap)(hI:XI K C)(J:PySem.W.InstAt s.heap e ox C od)(h:Q (some (.ref C)) { s with toks:=s.toks+1 }) :
  wpAny (model prog w) A (getAttr? (.ref e) "__class__") Q E s:=by
 obtain⟨⟨cd,hc,Hf,Hg,aT⟩,hg,yO,dG,tQ,pf⟩:=hI
 have hf:PySem.W.findObj K C od "__class__"=some (.bind (.builtin "getset_descriptor.__get__") (.builtin "object.__class__")):=(by unfold PySem.W.findObj;rw[hc,vk,dG,vk];simp[tQ,pf])
 have L0:=J.type (M:=model prog w)
 have L1:=rQ (M:=model prog w) X hg
 have yP:=rQ (M:=model prog w) X yO
 have L3:=PySem.W.looks_find (M:=model prog w) X J hf
 have sub:Looks (model prog w) s.heap (isInstance (.ref e) (.type "BaseException")) true:=J.type.andThen (LG X (by unfold mroIn;rw[hc,vk,au (by rw[aT];decide),Hf]))
 have o9:mroIn K C (.type "object")=some true:=by unfold mroIn;rw[hc,vk,au (by rw[aT];decide),Hg]
 have hk:builtinKind "BaseException.__getattribute__"=some .slot:=by decide +kernel
 have yQ:splitId "BaseException.__getattribute__"=some ("BaseException","__getattribute__"):=by decide +kernel
 have yR:(Value.builtin "BaseException.__getattribute__"==Value.builtin "object.__getattribute__")=false:=by decide +kernel
 have yS:(onTheHeap (Value.ref C)&&Value.builtin "BaseException.__getattribute__"==Value.builtin "object.__getattribute__")=false:=by rw[yR];rfl
 obtain⟨hh,g,d,t,os⟩:=s
 unfold getAttr? getAttrBy? getAttrBy
 refine ah (wpAny_mkText (ah (nZ (fE (ah (L0.at (ah (L1.at ?_))))))))
 dsimp only
 rw[yS]
 show wpAny _ _ (getAttrByItsOwn _ _ _ _ _ _) _ _ _
 unfold getAttrByItsOwn hookBefore
 refine ah ?_
 rw[aC (show onTheHeap (Value.ref C)=true from rfl)]
 refine yP.at (ah (nZ (fE ?_)))
 unfold callGetattribute
 rw[au (by decide)]
 unfold boundAndCalled
 rw[G3]
 refine ah (aE (jw ?_))
 refine A9 (by decide +kernel) F.entry_bexc_ga (@EZ (model prog w) _ _ ⟨hh,g,d,t+1,os⟩ "BaseException.__getattribute__" "BaseException" "__getattribute__" (.ref e) [.str "__class__" t] [] _ hk yQ sub (F.args_bexc_ga _ _) ?_)
 refine ah (aE (ah (aE (ah (L0.at (ah (L3.at ?_)))))))
 show wpAny _ _ (holding [Value.builtin "object.__class__"] (call (.builtin "getset_descriptor.__get__") [.builtin "object.__class__",.ref e,.ref C]) >>= ret) _ _ _
 refine ah (fE (jw (PySem.W.class_get (s:=⟨hh,g,d,t+1,os⟩) (ox:=ox) (od:=od) X J o9 ?_)))
 refine aE ?_
 show wpAny _ _ (handedOut (.ref C)) _ _ _
 rw[TM rfl]
 exact aE (aE h)
def Z8(hI:XI K C):PySem.W.KitX K (.ref e) (.ref C) (λh=>∃ox od,PySem.W.InstAt h e ox C od) where
 ty:=λ_ _ _ ⟨_,_,J⟩=>J.type
 it:=λM h X _ A' Q' E' s' k q=>by
  obtain⟨Hh,gU,_⟩:=hI.ec
  obtain⟨o,ho,hd⟩:=Cd X gU
  unfold isType loadHead
  refine ah (Lu (k _ _ ho) ?_)
  rw[hd]
  exact aE q
 ne:=λh tp dd its n sl X yZ=>by
  obtain⟨Hh,gU,_⟩:=hI.ec
  obtain⟨o,ho,hd⟩:=Cd X gU
  cases hq:(Value.ref C==Value.ref tp) with
  |false=>rfl
  |true=>
   cases Value.ref.inj (gS.mp hq)
   rw[ho] at yZ
   cases yZ
   cases hd
 ca:=λX ⟨_,_,J⟩ k=>Z7 X hI J k
end
section
variable{X:Cx}{K:Frag}{C e:Addr}
def Inv.instN(I:Inv X pins O H s)(he:H e=some (iR C none e)):∃ox od,PySem.W.InstAt s.heap e ox C od:=by
 obtain⟨⟨vs,_,h1⟩,_,_⟩:=I.ar e _ he
 exact⟨_,none,h1,rfl,rfl,trivial⟩
def Z9(hK:X.K=K):gV X (.builtin "isinstance") (λxs H Q=>∃e C c v b,xs=[.ref e,c]/\H e=some (iR C none e)/\XI K C/\(∀u,RelV c u->u=v)/\kitOne K (.ref C) v=some b/\Q (.bl b) H):=by
 subst hK
 intro pins s O H xs us Q I r h
 obtain⟨e,C,c,v,b,rfl,he,hI,hv,hk,q⟩:=h
 obtain⟨u,u2,rfl,ru,Hj⟩:=vals2 r
 cases ru
 cases hv _ Hj
 exact ll (Z8 hI) I.bN (I.instN he) hk (λz=>nomatch z) λtk=>⟨.bl b,H,I.tok tk,rfl,q⟩
end
def aaa{CE:Addr}(X:K.In h)(hX:tR K C CE=true)(get:findIn K (.ref C) "__getattribute__"=some (some (.builtin "BaseException.__getattribute__")))(yW:findIn K (.ref C) "__getattr__"=some none)
  (dG:findIn K (.ref C) "__class__"=some (some (.builtin "object.__class__")))
  (tQ:specialIn K (.builtin "object.__class__") "__get__"=some (some (.builtin "getset_descriptor.__get__"))) (pf:takesIn K (.builtin "object.__class__")=some true):XI K C:=by
 obtain⟨nm,qn,N,bs,hd,sn,sub,ab,col,dd,k0,k1,k2,k3,k5,mN,cd,_,_,_,_,hc,hm⟩:=(OH X hX).ex
 have b1:cM.contains (.type "BaseException")=true:=by decide +kernel
 have b2:cM.contains (.type "object")=true:=by decide +kernel
 exact⟨⟨cd,hc,by rw[hm,jA,jA,b1,i7,i7],by rw[hm,jA,jA,b2,i7,i7],by rw[hm];rfl⟩,get,yW,dG,tQ,pf⟩
def aab{CE:Addr}(h:tR K C CE=true):jj K C (.ref CE::cM)=true:=by
 unfold tR at h
 unfold jj
 split at h
 .rename_i ho
  try rw[ho]
  split at h
  .rename_i hm hs
   simp only[d7,gS,AY] at h
   obtain⟨⟨⟨⟨⟨⟨rfl,rfl⟩,kI⟩,ht⟩,o8⟩,ar⟩,tO⟩:=h
   try simp only[hm,hs]
   rw[o8,kI]
   simp
  .cases h
 .cases h
section
variable{P:Program}{w:World}{K:Frag}{mg:Str->Option Value}{base:Heap}
def nt.wa{x:Str}{k:Nat}(F:nt K x qual st f fd d)(S:bu N ps (aN st))(len:∀vs H Q E,sp vs H Q E->vs.length=ps.length)
  (lM:∀(aF:Value) (A:Around) (outer:List Env) (s:Shared) (H:Hp) (vs:List V) (Q:VK) (E:XK),bT k (A.deeper (envOfC qual (aN st) s.heap.objs.size f aF))->sp vs H Q E->
   ∃t,eU ((gX (eN P w) P w K mg base N qual (aN st) f aF A outer s H E).cj (Fx (gX (eN P w) P w K mg base N qual (aN st) f aF A outer s H E) E)) (jI st) t/\t { nx:=λ_ H'=>Q .aw H',rt:=Q } (start N vs) H) :
  aK P w K mg base (eN P w) (k+1) f fd ps sp:=by
 obtain⟨oc,od,T,kV,doc,pm,an,aF,ct,je,rfl,lk,gu,_⟩:=F.ex
 refine vF lk gu S len λA outer s H vs Q E hr iq=>?_
 obtain⟨t,h,q⟩:=lM aF A outer s H vs Q E hr iq
 exact⟨t,h.out,q⟩
end
structure y0(P:Program)(w:World)(K:Frag)(mg:Str->Option Value)(base:Heap)(x:Str)(k:Nat)(sp:Sp)(cw:List V):Prop where
 ex:∃(f:Addr) (fd:FuncData) (ps:List Str) (ds:List Value),aK P w K mg base (eN P w) k f fd ps sp/\mg x=some (.ref f)/\keepIn K (.ref f)=true/\Binds K fd ps ds/\Vals cw ds
section
variable{X:Cx}{x:Str}{p pos:Pos}{e:Expr}{es:List Expr}{t:TA}{sp:Sp}{k:Nat}{cw:List V}{E1:St->XK}
def aac(F:y0 X.prog X.w X.K X.mg X.base x k sp cw)(hr:bT k X.A)(hg:Gl X x)(ha:PA (X.cj (kG X E1)) (e::es) t)(cU:(x==("__debug__":Str))=false:=by decide)
  (he:starEach (e::es) X.env=(false,eval e X.env)::starEach es X.env:=by rfl) (aL:(backTo pos (starEach es X.env)).any (·.1)=false:=by rfl):PE (X.cj (kG X E1)) (.Call (.Name x p) (e::es) [] pos) (OD sp cw E1 t):=by
 intro pins s O H Q I h
 obtain⟨f,fd,ps,ds,G,hm,hk,hb,hd⟩:=F.ex
 refine nW (lG (X:=X.cj (kG X E1)) I hg hm ?_ cU)
 refine xD (h₀:=X.base) I.ok.mod.lD hk (aD (ha pos pins s O H _ I h) λus s1 ⟨vs,H1,I1,r,q⟩=>⟨I1.bN,?_⟩) he aL
 exact OC G hr hb hd I1 r q
def aad(F:y0 X.prog X.w X.K X.mg X.base x k sp cw)(hr:bT k X.A)(hg:Gl X x)(ha:PA X (e::es) t)(cU:(x==("__debug__":Str))=false:=by decide)
  (he:starEach (e::es) X.env=(false,eval e X.env)::starEach es X.env:=by rfl) (aL:(backTo pos (starEach es X.env)).any (·.1)=false:=by rfl):PE X (.Call (.Name x p) (e::es) [] pos) (x5 sp cw E0 t):=by
 obtain⟨f,fd,ps,ds,G,hm,hk,hb,hd⟩:=F.ex
 exact Bw G hr hg hm hk hb hd Ov ha cU he aL
end
def wg(H:Hp)(e C:Addr):Prop:=H e=some (iR C none e)\/∃dx fs,H e=some (ji C dx e)/\H dx=some (.xd fs)
def wg.mono(s:ag H H')(h:wg H e C):wg H' e C:=h.imp (s _ _) λ⟨dx,fs,a,b⟩=>⟨dx,fs,s _ _ a,s _ _ b⟩
def jN(hK:X.K=K):gV X (.builtin "isinstance") (λxs H Q=>∃e C c v b,xs=[.ref e,c]/\wg H e C/\XI K C/\(∀u,RelV c u->u=v)/\kitOne K (.ref C) v=some b/\Q (.bl b) H):=by
 intro pins s O H xs us Q I r h
 obtain⟨e,C,c,v,b,rfl,he | ⟨dx,fs,he,hd⟩,hI,hv,hk,q⟩:=h
 .exact Z9 hK pins s O H _ us Q I r ⟨e,C,c,v,b,rfl,he,hI,hv,hk,q⟩
 .exact ZV hK pins s O H _ us Q I r ⟨e,C,dx,fs,c,v,b,rfl,he,hd,hI,hv,hk,q⟩
def aae(hK:X.K=K):x8 X (MI K):=by
 subst hK
 exact FP
def aaf(K:Frag)(ta:TE):TE:=λO H Q=>ta O H λx H1=>∃k,xW K x H1 k/\Q (.bl (!k)) H1
def aag(ha:PE X a ta):PE X (.UnaryOp .Not a pos) (aaf X.K ta):=by
 intro pins s O H Q I h
 refine UnaryOp_ (aD (ha pins s O H _ I h) λv s1 ⟨x,H1,I1,r1,k,e,q1⟩=>?_)
 exact not_of (aD (Mj pins s1 O H1 x v (λk H=>Q (.bl (!k)) H) I1 r1 ⟨k,e,q1⟩) λc s2 ⟨H2,I2,q2⟩=>⟨.bl (!c),H2,I2,rfl,q2⟩)
def aah:V->List V->Hp->VK->Prop:=λx vs H Q=>∃y z,x = .str y/\vs=[.str z]/\y.length<=sizeLine/\Q (.str (Txt.stripChars y z)) H
def aai:BC X "str.strip" aah:=by
 intro pins s O H x vs v us Q I rx rv h
 obtain⟨y,z,rfl,rfl,hy,q⟩:=h
 obtain⟨t,rfl⟩:=rx
 obtain⟨u,rfl,t',rfl⟩:=rv.one
 exact SC.stripChars (λt' k=>⟨.str _,H,I.tok _,⟨_,rfl⟩,q⟩) hy
theorem Hl{p:Nat->Bool}:∀{l:List Nat}{k c:Nat},l[k]? = some c->p c=false->(l.takeWhile p).length<=k
 |[],_,_,_,_=>bW _
 |a::r,0,c,h,hp=>by
  have h:a=c:=by simpa using h
  rw[List.takeWhile_cons,h,hp]
  exact aQ _
 |a::r,k+1,c,h,hp=>by
  rw[List.takeWhile_cons]
  split
  .rw[eJ]
   exact lu (Hl (by simpa using h) hp)
  .exact bW _
theorem strip_nil{y z:Str}(h:(Txt.stripChars y z).length=0):∀c∈y.cps.toList,z.cps.contains c=true:=by
 intro c mc
 refine E2 λhn=>?_
 have hn:z.cps.contains c=false:=by simpa using hn
 obtain⟨k,hk⟩:=eS mc
 have nz:k<y.cps.toList.length:=(bR.mp hk).1
 have tm:y.cps.toList.length=y.length:=by simp[Str.length]
 have h1:stripLo z.cps.contains true y<=k:=Hl hk hn
 have h2:k+1<=stripHi z.cps.contains true y (stripLo z.cps.contains true y):=by
  generalize stripLo z.cps.contains true y=lo at h1
  show k+1<=y.length - ((y.cps.toList.drop lo).reverse.takeWhile z.cps.contains).length
  have hr:(y.cps.toList.drop lo).reverse[y.length - 1 - k]? = some c:=by
   rw[ES (by rw[rS];lia),rS,LI,<-hk]
   congr 1
   lia
  have:=Hl hr hn
  lia
 unfold Txt.stripChars Txt.stripBy at h
 split at h
 .lia
 .have:(stripped z.cps.contains true true y).length=min (stripHi z.cps.contains true y (stripLo z.cps.contains true y)) y.length - stripLo z.cps.contains true y:=by
   unfold stripped
   show(y.cps.extract _ _).size=_
   rw[Array.size_extract]
   rfl
  lia
end L2
namespace Cw
open PySem
variable{x:Str}{ch h i j n w:Nat}{c d:C2}{α:Type}{l:List Str}{cs:List C2}
def ph{y:Str}(h:x.cps.toList=y.cps.toList):x=y:=by
 cases x;cases y
 exact eX Str.mk (Array.toList_inj.mp h)
def qL(x y:Str):(x++y).cps.toList=x.cps.toList++y.cps.toList:=by
 show(x.cps++y.cps).toList=_
 simp
def cV(x:Str):x.cps.toList.length=x.length:=by simp[Str.length]
noncomputable def cellAt(ns:List Int)(k:Nat):Int:=ns.getD k 0
def iS(c:Nat):Prop:=c=35\/c=46\/(97<=c/\c<=122)
structure bH(l:List Str)(w:Nat):Prop where
 one:1<=l.length
 nine:l.length<=9
 w1:1<=w
 w9:w<=9
 len:∀x∈l,x.length=w
 ok:∀x∈l,∀c∈x.cps.toList,iS c
noncomputable def pq:Str:="abcdefghijklmnopqrstuvwxyz"
def aaj:pq.cps.toList=(List.range 26).map (97 + ·):=by decide +kernel
noncomputable def cells(h w:Nat):List (Nat×Nat):=(List.range h).flatMap λi=>(List.range w).map λj=>(i,j)
def OI(h w:Nat):cells (h+1) w=cells h w++(List.range w).map λj=>(h,j):=by
 unfold cells
 rw[vg,LJ]
 simp
def mf(h w:Nat):(cells h w).length=h*w:=by
 induction h with
 |zero=>simp[cells]
 |succ h ih=>rw[OI,d6,ih,av,i5,lz]
theorem wk{w:Nat}:∀{h i j:Nat},i<h->j<w->(cells h w)[i*w+j]? = some (i,j)
 |0,_,_,hi,_=>absurd hi (jz _)
 |h+1,i,j,hi,hj=>by
  rw[OI]
  by_cases e:i<h
  .have:i*w+j<(cells h w).length:=by
    rw[mf]
    have h1:(i+1)*w<=h*w:=E3 w e
    rw[lz] at h1
    lia
   rw[Lv this]
   exact wk e hj
  .have e:i=h:=by lia
   subst e
   rw[AR (by rw[mf];lia),mf,Nat.add_sub_cancel_left,bF,rY hj]
   rfl
def tS{c:Nat×Nat}(m:c∈cells h w):c.1<h/\c.2<w:=by
 unfold cells at m
 obtain⟨i,hi,m⟩:=Bb.mp m
 obtain⟨j,hj,rfl⟩:=cC.mp m
 exact⟨ic.mp hi,ic.mp hj⟩
def Hm(hi:i<h)(hj:j<w):(i,j)∈cells h w:=bM (wk hi hj)
def Ce{c:Nat×Nat}(e:(cells h w)[n]? = some c):n=c.1*w+c.2/\c.1<h/\c.2<w:=by
 have hn:n<h*w:=by rw[<-mf];exact(bR.mp e).1
 have hw:0<w:=by
  rcases Nat.eq_zero_or_pos w with z | z
  .rw[z] at hn;simp at hn
  .exact z
 have hi:n / w<h:=TN (by rw[E4];exact hn)
 have hj:n % w<w:=Nat.mod_lt _ hw
 have q:=wk hi hj
 have e2:n / w*w+n % w=n:=by rw[E4];exact Nat.div_add_mod n w
 rw[e2,e] at q
 cases q
 exact⟨e2.symm,hi,hj⟩
def OJ(hi:i<h)(hj:j<w):(cells h w).take (i*w+j+1)=(cells h w).take (i*w+j)++[(i,j)]:=by
 rw[ik,wk hi hj]
 rfl
noncomputable def sg(l:List Str)(c:Nat×Nat):Nat:=((l.getD c.1 ⟨#[]⟩).cps.toList).getD c.2 0
def cE{l:List α}{x d:α}(h:l[i]? = some x):l.getD i d=x:=by rw[cz,h];rfl
def bH.row(S:bH l w)(hi:i<l.length):∃x,l[i]? = some x/\x∈l/\x.length=w/\x.cps.toList.length=w/\∀j,j<w->x.cps.toList[j]? = some (sg l (i,j)):=by
 refine⟨l[i],bt hi,j5 hi,S.len _ (j5 hi),by rw[cV];exact S.len _ (j5 hi),λj hj=>?_⟩
 have hl:j<l[i].cps.toList.length:=by rw[cV,S.len _ (j5 hi)];exact hj
 unfold sg
 rw[cE (bt hi),bt hl]
 simp only[cE (bt hl)]
noncomputable def cN(l:List Str)(c:Nat×Nat):Bool := !decide (sg l c=35)
noncomputable def qM(l:List Str)(c:Nat×Nat):Bool:=decide (sg l c=46)
noncomputable def bZ(l:List Str)(w:Nat):List (Nat×Nat):=(cells l.length w).filter (cN l)
noncomputable def dm(l:List Str)(w:Nat):List (Nat×Nat):=(cells l.length w).filter (qM l)
def wm(S:bH l w):(cells l.length w).length<=81:=by
 rw[mf]
 exact Bc S.nine S.w9
noncomputable def bP(x:Str)(j ch:Nat):Str:=⟨(x.cps.toList.take j++ch::x.cps.toList.drop (j+1)).toArray⟩
noncomputable def setC(l:List Str)(c:Nat×Nat)(ch:Nat):List Str:=l.set c.1 (bP (l.getD c.1 ⟨#[]⟩) c.2 ch)
def kJ(l:List Str)(c:Nat×Nat)(ch:Nat):(setC l c ch).length=l.length:=by unfold setC;rw[AV]
theorem y9(h:j<x.length):(bP x j ch).length=x.length:=by
 show(x.cps.toList.take j++ch::x.cps.toList.drop (j+1)).toArray.size=x.length
 have hl:x.cps.toList.length=x.length:=cV x
 rw[br,d6,ij,eJ,rS,hl]
 lia
theorem Hn{k:Nat}(h:j<x.length)(hk:k<x.length):(bP x j ch).cps.toList[k]? = if k=j then some ch else x.cps.toList[k]? :=by
 have hl:x.cps.toList.length=x.length:=cV x
 have e:(bP x j ch).cps.toList=x.cps.toList.take j++ch::x.cps.toList.drop (j+1):=by simp[bP]
 have ht:(x.cps.toList.take j).length=j:=by rw[ij];lia
 rw[e]
 rcases Nat.lt_trichotomy k j with h1 | h1 | h1
 .rw[au (by lia),Lv (by lia),u6 h1]
 .subst h1
  rw[aC rfl,AR (by lia),ht,Nat.sub_self]
  rfl
 .rw[au (by lia),AR (by lia),ht]
  obtain⟨m,rfl⟩:∃m,k=j+1+m:=⟨k - (j+1),by lia⟩
  rw[show j+1+m - j=m+1 by lia,List.getElem?_cons_succ,LI]
def OK{a b:Str}(ha:a.cps.toList=x.cps.toList.take j)(hb:b.cps.toList=x.cps.toList.drop (j+1)):a++⟨#[ch]⟩++b=bP x j ch:=by
 apply ph
 rw[qL,qL,ha,hb]
 simp[bP]
def aak(h:∀c∈x.cps.toList,iS c)(hc:iS ch):∀c∈(bP x j ch).cps.toList,iS c:=λc m=>by
 have m:c∈x.cps.toList.take j++ch::x.cps.toList.drop (j+1):=by simpa[bP] using m
 rcases dR.mp m with z | z
 .exact h c (Bd z)
 .rcases cx.mp z with z | z
  .rw[z];exact hc
  .exact h c (List.mem_of_mem_drop z)
theorem aal(S:bH l w){c:Nat×Nat}(h1:c.1<l.length)(h2:c.2<w)(hc:iS ch):bH (setC l c ch) w:=by
 obtain⟨x,hx,mx,lx,tT,hj⟩:=S.row h1
 refine⟨by rw[kJ];exact S.one,by rw[kJ];exact S.nine,S.w1,S.w9,λy my=>?_,λy my=>?_⟩
 .unfold setC at my
  rcases LK my with z | z
  .exact S.len y z
  .rw[z,cE hx,y9 (by lia),lx]
 .unfold setC at my
  rcases LK my with z | z
  .exact S.ok y z
  .rw[z,cE hx]
   exact aak (S.ok x mx) hc
abbrev C2:=Nat×Nat
noncomputable def go(c d:C2)(n:Nat):C2:=(c.1+n*d.1,c.2+n*d.2)
noncomputable def line(c d:C2)(n:Nat):List C2:=(List.range n).map (go c d)
def jk(c d:C2):go c d 0=c:=by simp[go]
def go_succ(c d:C2)(n:Nat):go c d (n+1)=((go c d n).1+d.1,(go c d n).2+d.2):=by
 simp only[go,lz,Nat.add_assoc]
def OL(c d:C2)(n:Nat):line c d (n+1)=line c d n++[go c d n]:=by
 unfold line
 rw[vg,fG]
 rfl
def wq(c d:C2)(n:Nat):(line c d n).length=n:=by simp[line]
noncomputable def runN(op:C2->Bool)(d:C2):Nat->C2->Nat
 |0,_=>0
 |f+1,c=>if op c=true then runN op d f (c.1+d.1,c.2+d.2)+1 else 0
theorem Ho{op:C2->Bool}{d:C2}:∀{f n:Nat}{c:C2},n<f->(∀k,k<n->op (go c d k)=true)->op (go c d n)=false->runN op d f c=n
 |0,_,_,h,_,_=>absurd h (jz _)
 |f+1,0,c,_,_,h=>by
  rw[jk] at h
  unfold runN
  rw[h,au cy]
 |f+1,n+1,c,hf,hk,h=>by
  have h0:=hk 0 (Nat.succ_pos _)
  rw[jk] at h0
  have e:∀k,go c d (k+1)=go (c.1+d.1,c.2+d.2) d k:=λk=>by
   simp only[go,lz,mU]
   lia
  unfold runN
  rw[h0,aC rfl,Ho (f:=f) (n:=n) (by lia) (λk q=>by rw[<-e];exact hk (k+1) (by lia)) (by rw[<-e];exact h)]
noncomputable def iB(op:C2->Bool)(d c:C2):Bool:=decide (d.1<=c.1)&&(decide (d.2<=c.2)&&op (c.1 - d.1,c.2 - d.2))
noncomputable def bo(op:C2->Bool)(d c:C2):List C2:=if iB op d c=true then [] else if runN op d 10 c<2 then [] else line c d (runN op d 10 c)
noncomputable abbrev kK(op:C2->Bool):C2->List C2:=bo op (0,1)
noncomputable abbrev jO(op:C2->Bool):C2->List C2:=bo op (1,0)
noncomputable def eO(op:C2->Bool)(c:C2):Bool := !(kK op c).isEmpty || !(jO op c).isEmpty
noncomputable def eG(op:C2->Bool)(cs:List C2):Nat:=(cs.filter (eO op)).length
def OM(op:C2->Bool)(cs:List C2)(c:C2):eG op (cs++[c])=if eO op c=true then eG op cs+1 else eG op cs:=by
 unfold eG
 rw[vh,fH,AZ]
 split
 .rw[d6];rfl
 .rw[dS]
noncomputable def dO(op:C2->Bool)(f:C2->List C2):Nat->List C2->List (Nat×List C2)
 |_,[]=>[]
 |n,c::r=>if (f c).isEmpty=true then dO op f (if eO op c=true then n+1 else n) r else (if eO op c=true then n+1 else n,f c)::dO op f (if eO op c=true then n+1 else n) r
theorem ON(op:C2->Bool)(f:C2->List C2)(c:C2):∀(n:Nat) (cs:List C2),dO op f n (cs++[c]) =
  dO op f n cs++if (f c).isEmpty=true then [] else [(if eO op c=true then n+eG op cs+1 else n+eG op cs,f c)]
 |n,[]=>by
  show dO op f n [c]=[]++_
  unfold dO
  simp only[dO,Be]
  rfl
 |n,x::r=>by
  have ih:=ON op f c (if eO op x=true then n+1 else n) r
  have e:eG op (x::r)=(if eO op x=true then 1 else 0)+eG op r:=by
   unfold eG
   rw[fH]
   split
   .rw[eJ,Nat.add_comm]
   .rw[A7]
  have e2:(if eO op x=true then n+1 else n)+eG op r=n+eG op (x::r):=by
   rw[e]
   split <;> lia
  rw[e2] at ih
  show dO op f n (x::(r++[c]))=_
  unfold dO
  rw[ih]
  split
  .rfl
  .rfl
def Hq{op:C2->Bool}(h:(kK op c).isEmpty=false):eO op c=true:=by unfold eO;rw[h];rfl
def Hr{op:C2->Bool}(h:(jO op c).isEmpty=false):eO op c=true:=by unfold eO;rw[h];simp
theorem OO{op:C2->Bool}{f:C2->List C2}(hf:∀c,(f c).isEmpty=false->eO op c=true):∀{n:Nat}{cs:List C2}{q:Nat×List C2},q∈dO op f n cs->
  n<q.1/\∃c,(cs.filter (eO op))[q.1 - n - 1]? = some c/\c∈cs/\q.2=f c/\(f c).isEmpty=false
 |n,[],q,h=>by simp[dO] at h
 |n,x::r,q,h=>by
  unfold dO at h
  have step:q∈dO op f (if eO op x=true then n+1 else n) r->n<q.1/\∃c,((x::r).filter (eO op))[q.1 - n - 1]? = some c/\c∈x::r/\q.2=f c/\(f c).isEmpty=false:=λh=>by
   obtain⟨h1,c,h2,h3,h4⟩:=OO hf h
   rw[fH]
   by_cases e:eO op x=true
   .rw[aC e] at h1 h2 ⊢
    refine⟨by lia,c,?_,cW _ h3,h4⟩
    have:q.1 - n - 1=(q.1 - (n+1) - 1)+1:=by lia
    rw[this,List.getElem?_cons_succ]
    exact h2
   .rw[au e] at h1 h2 ⊢
    exact⟨h1,c,h2,cW _ h3,h4⟩
  split at h
  .exact step h
  .rename_i he
   rcases cx.mp h with z | z
   .have he:(f x).isEmpty=false:=il.mpr he
    have hx:=hf x he
    subst z
    rw[aC hx]
    refine⟨uZ _,x,?_,bK,rfl,he⟩
    rw[fH,aC hx,show n+1 - n - 1=0 by lia]
    rfl
   .exact step z
noncomputable def aO(l:List Str)(w:Nat)(c:C2):Bool:=decide (c.1<l.length)&&(decide (c.2<w)&&cN l c)
def qN(h:aO l w c=true):c.1<l.length/\c.2<w/\cN l c=true:=by
 unfold aO at h
 simp only[d7,decide_eq_true_eq] at h
 exact⟨h.1,h.2.1,h.2.2⟩
def wt(h1:c.1<l.length)(h2:c.2<w):aO l w c=cN l c:=by
 unfold aO
 rw[aU h1,aU h2,E5,E5]
noncomputable def qO(l:List Str)(w:Nat):List (Nat×List C2):=dO (aO l w) (kK (aO l w)) 0 (bZ l w)
noncomputable def qP(l:List Str)(w:Nat):List (Nat×List C2):=dO (aO l w) (jO (aO l w)) 0 (bZ l w)
def Dir(d:C2):Prop:=d=(0,1)\/d=(1,0)
theorem go_inj{x:C2}(hd:Dir d)(h:go x d i=go x d j):i=j:=by
 rcases hd with rfl | rfl
 .simp only[go,mU,i8,qj] at h;lia
 .simp only[go,mU,i8,qj] at h;lia
theorem OP(x d:C2)(i j:Nat):go (go x d i) d j=go x d (i+j):=by
 simp only[go,mU,Nat.add_mul]
 lia
theorem go_eq{x y:C2}(hd:Dir d)(za:i<=j)(h:go x d i=go y d j):x=go y d (j - i):=by
 rcases hd with rfl | rfl
 .simp only[go,mU,i8,qj] at h
  refine E6.mpr ?_
  simp only[go,i8,qj]
  lia
 .simp only[go,mU,i8,qj] at h
  refine E6.mpr ?_
  simp only[go,i8,qj]
  lia
theorem OQ{op:C2->Bool}{x:C2}(hd:Dir d){k:Nat}(h:op (go x d k)=true):iB op d (go x d (k+1))=true:=by
 have e:((go x d (k+1)).1 - d.1,(go x d (k+1)).2 - d.2)=go x d k:=by
  rcases hd with rfl | rfl
  .simp only[go,mU,i8,qj];lia
  .simp only[go,mU,i8,qj];lia
 unfold iB
 rw[e,h,aU,aU]
 .rfl
 .rcases hd with rfl | rfl
  .simp only[go,i8];lia
  .simp only[go,qj];lia
 .rcases hd with rfl | rfl
  .simp only[go,qj];lia
  .simp only[go,i8];lia
theorem aam{op:C2->Bool}(hd:Dir d)(h:iB op d c=true):∃b,c=go b d 1/\op b=true/\b.1+b.2<c.1+c.2:=by
 unfold iB at h
 simp only[d7,decide_eq_true_eq] at h
 refine⟨_,?_,h.2.2,?_⟩
 .refine E6.mpr ?_
  simp only[go,Nat.one_mul]
  lia
 .rcases hd with rfl | rfl
  .have:=h.2.1;simp only at this ⊢;lia
  .have:=h.1;simp only at this ⊢;lia
theorem zb{op:C2->Bool}{d:C2}:∀{f:Nat}{c:C2}{k:Nat},k<runN op d f c->op (go c d k)=true
 |0,_,_,h=>by unfold runN at h;exact absurd h (jz _)
 |f+1,c,k,h=>by
  unfold runN at h
  split at h
  .rename_i ho
   cases k with
   |zero=>rw[jk];exact ho
   |succ k=>
    have:=zb (op:=op) (d:=d) (f:=f) (c:=(c.1+d.1,c.2+d.2)) (k:=k) (by lia)
    have e:go c d (k+1)=go (c.1+d.1,c.2+d.2) d k:=by
     simp only[go,lz,mU]
     lia
    rw[e]
    exact this
  .exact absurd h (jz _)
theorem Hs{op:C2->Bool}{d:C2}:∀{f n:Nat}{c:C2},n<=f->(∀k,k<n->op (go c d k)=true)->n<=runN op d f c
 |_,0,_,_,_=>bW _
 |0,n+1,_,h,_=>absurd h (Nat.not_succ_le_zero _)
 |f+1,n+1,c,h,hk=>by
  have h0:=hk 0 (Nat.succ_pos _)
  rw[jk] at h0
  unfold runN
  rw[h0,aC rfl]
  refine lu (Hs (Nat.le_of_succ_le_succ h) λk q=>?_)
  have e:go c d (k+1)=go (c.1+d.1,c.2+d.2) d k:=by
   simp only[go,lz,mU]
   lia
  rw[<-e]
  exact hk (k+1) (by lia)
theorem pA{op:C2->Bool}{x:C2}(h:c∈bo op d x):¬iB op d x=true/\2<=runN op d 10 x/\∃k,k<runN op d 10 x/\go x d k=c:=by
 unfold bo at h
 split at h
 .exact absurd h fU
 .rename_i h1
  split at h
  .exact absurd h fU
  .obtain⟨k,hk,e⟩:=cC.mp h
   exact⟨h1,by lia,k,ic.mp hk,e⟩
theorem aan{op:C2->Bool}{x:C2}(h1:¬iB op d x=true)(h2:2<=runN op d 10 x){k:Nat}(hk:k<runN op d 10 x)(e:go x d k=c):c∈bo op d x:=by
 unfold bo
 rw[au h1,au (by lia)]
 exact cC.mpr ⟨k,ic.mpr hk,e⟩
theorem OR{op:C2->Bool}{x y:C2}(hd:Dir d)(hx:c∈bo op d x)(hy:c∈bo op d y):x=y:=by
 obtain⟨px,_,i,hi,ei⟩:=pA hx
 obtain⟨py,_,j,hj,ej⟩:=pA hy
 have key:∀{x y:C2}{i j:Nat},¬iB op d x=true->j<runN op d 10 y->i<=j->go x d i=c->go y d j=c->x=y:=λ{x y i j} px hj za ei ej=>by
  have e:=go_eq hd za (ei.trans ej.symm)
  cases hz:j - i with
  |zero=>rw[hz,jk] at e;exact e
  |succ z=>
   rw[hz] at e
   exact absurd (by rw[e];exact OQ hd (zb (f:=10) (by lia))) px
 rcases Nat.le_total i j with h | h
 .exact key px hj h ei ej
 .exact(key py hi h ej ei).symm
theorem aao{op:C2->Bool}(hd:Dir d):∀(k:Nat) (c:C2),c.1+c.2=k->op c=true->∃x i,c=go x d i/\¬iB op d x=true/\∀j,j<=i->op (go x d j)=true:=by
 intro k
 induction k using Nat.strongRecOn with
 |_ k ih=>
  intro c hc ho
  by_cases hp:iB op d c=true
  .obtain⟨b,e,hb,aY⟩:=aam hd hp
   obtain⟨x,i,ex,px,ox⟩:=ih (b.1+b.2) (by lia) b rfl hb
   refine⟨x,i+1,?_,px,λj hj=>?_⟩
   .rw[e,ex,OP]
   .rcases Nat.lt_or_eq_of_le hj with z | z
    .exact ox j (by lia)
    .rw[z,<-OP,<-ex,<-e];exact ho
  .refine⟨c,0,by rw[jk],hp,λj hj=>?_⟩
   have:j=0:=by lia
   rw[this,jk];exact ho
noncomputable def jl(op:C2->Bool)(d c:C2):Bool:=op c&&(iB op d c||op (go c d 1))
theorem Ht{op:C2->Bool}(hd:Dir d)(hb:∀c,op c=true->c.1<9/\c.2<9)(h:jl op d c=true):∃x,op x=true/\c∈bo op d x:=by
 unfold jl at h
 simp only[d7,EL] at h
 obtain⟨ho,hs⟩:=h
 obtain⟨x,i,e,px,ox⟩:=aao hd _ c rfl ho
 have hx:op x=true:=by have:=ox 0 (bW _);rw[jk] at this;exact this
 have hi:i<=8:=by
  have:=hb c ho
  rcases hd with rfl | rfl
  .rw[e] at this;simp only[go,i8] at this;lia
  .rw[e] at this;simp only[go,i8] at this;lia
 have h1:i+1<=runN op d 10 x:=Hs (by lia) λk hk=>ox k (by lia)
 have h2:2<=runN op d 10 x:=by
  rcases Nat.eq_zero_or_pos i with z | z
  .subst z
   rw[jk] at e
   subst e
   have hn:op (go c d 1)=true:=by
    rcases hs with hs | hs
    .exact absurd hs px
    .exact hs
   refine Hs (by lia) λk hk=>?_
   rcases(by lia:k=0\/k=1) with z | z
   .rw[z,jk];exact ho
   .rw[z];exact hn
  .lia
 exact⟨x,hx,aan px h2 (by lia) e.symm⟩
theorem aap{op:C2->Bool}{x:C2}(hd:Dir d)(h:c∈bo op d x):jl op d c=true:=by
 obtain⟨px,h2,k,hk,e⟩:=pA h
 have ho:op c=true:=by rw[<-e];exact zb hk
 unfold jl
 rw[ho,E5,EL]
 cases k with
 |zero=>
  rw[jk] at e
  rw[<-e]
  exact .inr (zb (f:=10) (by lia))
 |succ k=>rw[<-e];exact .inl (OQ hd (zb (f:=10) (by lia)))
def aaq(hd:Dir d)(n:Nat):(line c d n).Nodup:=by
 unfold line
 refine List.Pairwise.map _ (λi j za=>?_) (List.nodup_range (n:=n))
 exact λe=>za (go_inj hd e)
def Cf{op:C2->Bool}{x:C2}(hd:Dir d):(bo op d x).Nodup:=by
 unfold bo
 split
 .exact i4
 .split
  .exact i4
  .exact aaq hd _
noncomputable def dP(c:C2)(rs:List (Nat×List C2)):Nat:=(rs.map λq=>q.2.count c).sum
theorem OS{op:C2->Bool}{f:C2->List C2}(c:C2):∀(n:Nat) (cs:List C2),dP c (dO op f n cs)=(cs.map λx=>(f x).count c).sum
 |n,[]=>rfl
 |n,x::r=>by
  have ih:=OS (op:=op) (f:=f) c (if eO op x=true then n+1 else n) r
  unfold dO
  rw[cF,n8,<-ih]
  split
  .rename_i he
   rw[List.isEmpty_iff.mp he,List.count_nil,A7]
  .unfold dP
   rw[cF,n8]
theorem Hu:∀{l:List Nat},(∀y∈l,y=0)->l.sum=0
 |[],_=>rfl
 |x::r,h=>by rw[n8,h x bK,Hu λy hy=>h y (cW _ hy)]
theorem OT{α:Type}[DecidableEq α]{g:α->Nat}{a:α}:∀{cs:List α},cs.Nodup->a∈cs->g a=1->(∀x∈cs,x≠a->g x=0)->(cs.map g).sum=1
 |[],_,h,_,_=>absurd h fU
 |x::r,nd,h,ga,gz=>by
  rw[cF,n8]
  obtain⟨n1,n2⟩:=ig.mp nd
  by_cases e:x=a
  .subst e
   have z:(r.map g).sum=0:=by
    have:∀y∈r.map g,y=0:=λy hy=>by
     obtain⟨u,hu,rfl⟩:=cC.mp hy
     exact gz u (cW _ hu) λe=>n1 (e ▸ hu)
    exact Hu this
   rw[ga,z]
  .rcases cx.mp h with q | q
   .exact absurd q.symm e
   .rw[gz x bK e,A7]
    exact OT n2 q ga λy hy=>gz y (cW _ hy)
theorem aar(h w:Nat):(cells h w).Nodup:=by
 refine TQ.mpr λi j hi hj za e=>?_
 have h1:(cells h w)[i]? = some (cells h w)[i]:=bt hi
 have h2:(cells h w)[j]? = some (cells h w)[j]:=bt hj
 rw[<-e] at h2
 obtain⟨e1,_⟩:=Ce h1
 obtain⟨e2,_⟩:=Ce h2
 lia
def OU{op:C2->Bool}(hd:Dir d)(hb:∀c,op c=true->c.1<9/\c.2<9)(hn:cs.Nodup)(hc:∀x,op x=true->x∈cs):dP c (dO op (bo op d) n cs)=if jl op d c=true then 1 else 0:=by
 rw[OS]
 by_cases h:jl op d c=true
 .rw[aC h]
  obtain⟨x,hx,hm⟩:=Ht hd hb h
  refine OT hn (hc x hx) ?_ λy _ hy=>?_
  .exact Nat.le_antisymm (List.nodup_iff_count.mp (Cf hd) c) (List.count_pos_iff.mpr hm)
  .refine LL.mpr λz=>hy (OR hd z hm)
 .rw[au h]
  refine Hu λy hy=>?_
  obtain⟨u,hu,rfl⟩:=cC.mp hy
  exact LL.mpr λz=>h (aap hd z)
def OV(l:List Str)(w:Nat):(bZ l w).Nodup:=List.Pairwise.filter _ (aar _ _)
def Cg(h:aO l w c=true):c∈bZ l w:=by
 obtain⟨h1,h2,h3⟩:=qN h
 exact da.mpr ⟨Hm h1 h2,h3⟩
theorem Ci(S:bH l w):∀c,aO l w c=true->c.1<9/\c.2<9:=λc h=>by
 obtain⟨h1,h2,_⟩:=qN h
 have:=S.nine
 have:=S.w9
 lia
def Hv(S:bH l w)(c:C2):dP c (qO l w)=if jl (aO l w) (0,1) c=true then 1 else 0:=OU (.inl rfl) (Ci S) (OV l w) λ_ h=>Cg h
def Hw(S:bH l w)(c:C2):dP c (qP l w)=if jl (aO l w) (1,0) c=true then 1 else 0:=OU (.inr rfl) (Ci S) (OV l w) λ_ h=>Cg h
end Cw
namespace Cw
open PySem L2
variable{ns:List Int}{H H' H1:Hp}{c d:C2}{x:Str}{a ch i j n pl w:Nat}{ks l m ps s ws:List Str}{K:Frag}{o p:Nat×Nat}{xs ys zs:List V}{α β:Type}{f:C2->List C2}{cs r:List C2}{q:Nat×List C2}{C CB CG CS b dx kn:Addr}{kvs:List (Key×V)}{dv:Value}{u v:V}{g g':C2->List (Nat×Nat)}{R:List (List C2)}{wf:Str->Int}{ls:List Addr}{A:List (Nat×Nat)}{Z Z':Addr->Prop}
noncomputable def top(i:Nat):Stmt:=PySem.Challenge.pw_crosswright_k44_floors_refused.main.body.getD i (.Pass ⟨0,0,0,0⟩)
structure Bl(mg:Str->Option Value):Prop where
 gc:mg "len"=none
 mh:mg "range"=none
 zc:mg "tuple"=none
 zd:mg "list"=none
 aas:mg "str"=none
 iT:mg "isinstance"=none
 aat:mg "all"=none
 Hx:mg "sorted"=none
 ze:mg "enumerate"=none
 Hy:mg "zip"=none
 aau:mg "dict"=none
 aav:mg "min"=none
 aaw:mg "sum"=none
 aax:mg "reversed"=none
 aay:mg "ValueError"=none
section
variable{P:Program}{w:World}{K:Frag}{mg:Str->Option Value}{base:Heap}{f:Addr}{fd:FuncData}
def Hz(K:Frag):Sp:=λvs H Q _=>∃(a:Addr) (ns:List Int) (k:Nat),vs=[.ref a,.int k]/\aq K H a (ns.map V.int)/\Q (.int (cellAt ns k)) H
theorem aaz{k:Nat}(h:k<ns.length):(ns.map V.int)[k]? = some (.int (cellAt ns k)):=by grind [cellAt]
def aaA:bu ["_law_script","_law_k"] ["_law_script","_law_k"] (aN (top 70)):={}
theorem aaB(B:Bl mg)(F:aZ K "_law_cell_at" "_law_cell_at" (top 70) f fd):aK P w K mg base aS 1 f fd ["_law_script","_law_k"] (Hz K):=by
 refine F.bU aaA λaF A outer s H vs Q E hr h=>?_
 refine hide λG_ aG=>?_
 obtain⟨a,ns,k,rfl,hS,q⟩:=h
 refine aG.k ?_
 refine⟨_,(az (cn (cK qv (pv 1) (cL lQ (by rfl) B.gc fZ (af (pv 0) aj)))
  (aB (bg (bG iu (pv 0) (pv 1))))
  cH)
  (aB (bg aI))),?_⟩
 try dsimp only[bJ]
 refine⟨_,rfl,_,rfl,a,_,rfl,.inl hS,_,_,rfl,rfl,_,rfl,iz (λh=>?_) (λh=>?_)⟩
 .have h:(k:Int)<((ns.map V.int).length:Int):=gr h
  rw[av] at h
  exact⟨_,rfl,_,rfl,a,_,_,_,rfl,rfl,hS,eF (aaz (by lia)),q⟩
 .have h:¬(k:Int)<((ns.map V.int).length:Int):=λz=>h (aU z)
  rw[av] at h
  have e:cellAt ns k=0:=by
   unfold cellAt
   rw[cz,di (by lia)]
   rfl
  rw[e] at q
  exact q
end
def mj(H:Hp)(c:Nat×Nat)(x:V):Prop := ∃a,x = .ref a/\H a=some (.tup [.int c.1,.int c.2])
abbrev bC(H:Hp)(cs:List (Nat×Nat))(xs:List V):Prop:=Paired (mj H) cs xs
def mj.mono{c:Nat×Nat}{x:V}(s:ag H H')(h:mj H c x):mj H' c x:=let ⟨a,e,q⟩:=h;⟨a,e,s _ _ q⟩
theorem mj.off{D:Addr}{c:Nat×Nat}{x:V}(hD:∃o,H D=some (.lst o))(k:∀b o,b≠D->H b=some o->H' b=some o)(h:mj H c x):mj H' c x:=by grind [mj]
theorem bC.mono{H H':Hp}{cs:List (Nat×Nat)}{xs:List V}(s:ag H H')(h:bC H cs xs):bC H' cs xs:=Paired.bE h λ_ _ q=>q.mono s
theorem bC.off{H H':Hp}{D:Addr}{cs:List (Nat×Nat)}{xs:List V}(hD:∃o,H D=some (.lst o))(k:∀b o,b≠D->H b=some o->H' b=some o)(h:bC H cs xs):bC H' cs xs:=Paired.bE h λ_ _ q=>q.off hD k
theorem HG(n m:Nat):decide (V.str ⟨#[n]⟩=V.str ⟨#[m]⟩)=decide (n=m):=by grind
def zf:("#":Str)=⟨#[35]⟩:=by decide +kernel
def OW:(".":Str)=⟨#[46]⟩:=by decide +kernel
section
variable{P:Program}{w:World}{K:Frag}{mg:Str->Option Value}{base:Heap}{f:Addr}{fd:FuncData}
def kL(h:n<=10000):n<=sizeLine:=bL h (by decide)
def wu(h:n<=10000):n<sizeLine:=lr h (by decide)
def qQ(h:l[i]? = some x):gY (l.map V.str) (i:Int)=some (.str x):=eF (by rw[bF,h];rfl)
def Cj(K:Frag):Sp:=λvs H Q _=>∃(a b:Addr) (l:List Str) (w:Nat) (c:Nat×Nat),vs=[.ref a,.ref b]/\aA K H a (l.map V.str)/\bH l w/\aA K H b [.int c.1,.int c.2]/\c.1<l.length/\c.2<w/\Q (.str ⟨#[sg l c]⟩) H
def aaC:bu ["sheet","cell"] ["sheet","cell"] (aN (top 21)):={}
theorem aaD(F:aZ K "sign_at" "sign_at" (top 21) f fd):aK P w K mg base aS 1 f fd ["sheet","cell"] (Cj K):=by
 refine F.bU aaC λaF A outer s H vs Q E hr h=>?_
 refine hide λG_ aG=>?_
 obtain⟨a,b,l,wd,c,rfl,hT,S,hb,h1,h2,q⟩:=h
 obtain⟨x,hx,mx,lx,tT,hj⟩:=S.row h1
 refine aG.k ?_
 have hw:=S.w9
 refine⟨_,(aB (bg (bG oy (bG cY (pv 0) (bG cY (pv 1) aI)) (bG cY (pv 1) aI)))),?_⟩
 try dsimp only[bJ]
 exact⟨_,rfl,_,rfl,b,_,0,.int c.1,rfl,rfl,hb,rfl,a,_,_,.str x,rfl,rfl,hT,qQ hx,_,rfl,b,_,1,.int c.2,rfl,rfl,hb,rfl,x,_,sg l c,rfl,rfl,kL (by lia),eF (hj c.2 h2),q⟩
def Ck(K:Frag):Sp:=λvs H Q _=>∃(a b:Addr) (l:List Str) (w:Nat) (c:Nat×Nat),vs=[.ref a,.ref b]/\aA K H a (l.map V.str)/\bH l w/\aA K H b [.int c.1,.int c.2]/\c.1<l.length/\c.2<w/\Q (.bl (cN l c)) H
def aaE:bu ["sheet","cell"] ["sheet","cell"] (aN (top 22)):={}
def aaF(F:aZ K "is_open" "is_open" (top 22) f fd)(HH:Cn mg "SHUT" (.str "#"))(zg:Fn P w K mg base "sign_at" 1 (Cj K)):aK P w K mg base aS 2 f fd ["sheet","cell"] (Ck K):=by
 refine F.bU aaE λaF A outer s H vs Q E hr h=>?_
 refine hide λG_ aG=>?_
 obtain⟨a,b,l,wd,c,rfl,hT,S,hb,h1,h2,q⟩:=h
 refine aG.k ?_
 refine⟨_,(aB (bg (vE qu (bD zg hr (af (pv 0) (af (pv 1) aj))) (eM HH (by rfl))))),?_⟩
 try dsimp only[bJ]
 refine⟨_,rfl,_,rfl,a,b,l,wd,c,rfl,hT,S,hb,h1,h2,rfl,?_⟩
 rw[zf,HG]
 exact q
def HI(K:Frag):Sp:=λvs H Q _=>∃(a:Addr) (l:List Str) (w:Nat),vs=[.ref a]/\aA K H a (l.map V.str)/\bH l w/\
 ∀p xs H',H p=none->ag H H'->H' p=some (.lst xs)->bC H' (cells l.length w) xs->Q (.ref p) H'
def Cm:bu ["sheet","cells","line","column"] ["sheet"] (aN (top 20)):={}
theorem aaG(B:Bl mg)(F:aZ K "all_cells" "all_cells" (top 20) f fd):aK P w K mg base aS 1 f fd ["sheet"] (HI K):=by
 refine F.bU Cm λaF A outer s H vs Q E hr h=>?_
 refine hide λG_ aG=>?_
 obtain⟨a,l,wd,rfl,hT,S,q⟩:=h
 refine aG.k ?_
 have h9:=S.nine
 have hw:=S.w9
 have tU:=wm S
 refine⟨_,(az (aX 1 Cm.nd (eE aj))
  (az (dJ (lH (by rfl) B.mh (af (cL lQ (by rfl) B.gc fZ (af (pv 0) aj)) aj)) (cD 2 Cm.nd)
  (aB (dJ (lH (by rfl) B.mh (af (cL qx (by rfl) B.gc fZ (af (bG cY (pv 0) (pv 2)) aj)) aj)) (cD 3 Cm.nd)
   (aB (dZ (gE j6 lA lB jf (pv 1) (af (eZ (af (pv 2) (af (pv 3) aj))) aj)))))))
  (aB (bg (pv 1))))),?_⟩
 try dsimp only[bJ]
 refine⟨bW _,λp hp=>?_⟩
 have dX:ag H (upd H p (.lst [])):=ag.upd hp
 refine⟨_,rfl,a,_,rfl,.inr (dX.tup hT),_,rfl,by rw[av];lia,by rw[av];lia,?_⟩
 rw[iZ,av]
 refine qC (λi O H2=>∃v2 v3 xs,O=[some (.ref a),some (.ref p),v2,v3]/\ag H H2/\H2 p=some (.lst xs)/\bC H2 ((cells l.length wd).take (i*wd)) xs)
  ⟨none,none,[],rfl,dX,ao,by rw[Nat.zero_mul,mS];exact .nil⟩ ?_ ?_
 .intro i O H2 hi q1_
  refine hide λG_ bw=>?_
  obtain⟨v2,v3,xs,rfl,sm,hL,hC⟩:=q1_
  obtain⟨x,hx,mx,lx,tT,hj⟩:=S.row hi
  refine bw.k ?_
  refine⟨_,rfl,_,rfl,a,_,_,.str x,rfl,rfl,sm.tup hT,qQ hx,x,rfl,kL (by lia),_,rfl,by lia,by lia,?_⟩
  rw[iZ,lx]
  refine qC (λj O H3=>∃v3 xs,O=[some (.ref a),some (.ref p),some (.int i),v3]/\ag H H3/\H3 p=some (.lst xs)/\bC H3 ((cells l.length wd).take (i*wd+j)) xs)
   ⟨v3,xs,rfl,sm,hL,hC⟩ ?_ ?_
  .intro j O H3 Co q2_
   refine hide λG_ cq=>?_
   obtain⟨v3,ys,rfl,kM,pB,gJ⟩:=q2_
   refine cq.k ?_
   refine⟨_,rfl,.inl ⟨rfl,_,aq.of pB⟩,_,rfl,_,rfl,by show 2<=sizeLine;decide,λt ht=>?_⟩
   have nF:t≠p:=aP (bh pB ht)
   have OX:upd H3 t (.tup [.int i,.int j]) p=some (.lst ys):=by rw[ak (aP nF)];exact pB
   have hlen:ys.length<=81:=by
    have e1:=gJ.length
    rw[ij] at e1
    lia
   refine⟨p,ys,_,rfl,rfl,OX,wu (by lia),some (.int j),ys++[.ref t],rfl,(kM.trans (ag.upd ht)).nh hp,ao,?_⟩
   have off:∀b o,b≠p->upd H3 t (.tup [.int i,.int j]) b=some o->upd (upd H3 t (.tup [.int i,.int j])) p (.lst (ys++[.ref t])) b=some o:=λb o hb e=>by rw[ak hb];exact e
   have e2:i*wd+(j+1)=i*wd+j+1:=rfl
   rw[e2,OJ hi Co]
   exact qh (bC.off ⟨ys,OX⟩ off (bC.mono (ag.upd ht) gJ)) ⟨t,rfl,off t _ nF ao⟩
  .intro O H3 q3_
   refine hide λG_ dE=>?_
   obtain⟨v3,ys,rfl,kM,pB,gJ⟩:=q3_
   refine dE.k ?_
   refine⟨_,_,ys,rfl,kM,pB,?_⟩
   rw[lz]
   exact gJ
 .intro O H2 q4_
  refine hide λG_ hU=>?_
  obtain⟨v2,v3,xs,rfl,sm,hL,hC⟩:=q4_
  refine hU.k ?_
  refine⟨_,rfl,q p xs H2 hp sm hL ?_⟩
  rw[gs (by rw[mf];exact aQ _)] at hC
  exact hC
def Cp(K:Frag):Sp:=λvs H Q _=>∃(a:Addr) (l:List Str) (w:Nat),vs=[.ref a]/\aA K H a (l.map V.str)/\bH l w/\
 ∀p xs H',H p=none->ag H H'->H' p=some (.lst xs)->bC H' (bZ l w) xs->Q (.ref p) H'
def aaH:bu ["sheet"] ["sheet"] (aN (top 18)):={}
theorem aaI(F:aZ K "open_cells" "open_cells" (top 18) f fd)(HJ:Fn P w K mg base "all_cells" 1 (HI K))(zh:Fn P w K mg base "is_open" 2 (Ck K)):aK P w K mg base aS 3 f fd ["sheet"] (Cp K):=by
 refine F.bU aaH λaF A outer s H vs Q E hr h=>?_
 refine hide λG_ aG=>?_
 obtain⟨a,l,wd,rfl,hT,S,q⟩:=h
 refine aG.k ?_
 have tU:=wm S
 refine⟨_,(aB (bg (jg (js:=[0]) (ns:=["sheet"]) (eD (bD HJ hr (af (pv 0) aj))) rfl rfl rfl rfl (λ_ _ _ _=>(oH (jE (bD zh hr (af (pv 1) (af (pv 0) aj)))))) (λ_ _ _ _=>(pv 0))))),?_⟩
 try dsimp only[bJ]
 refine⟨_,rfl,a,l,wd,rfl,hT,S,λp xs H1 hp sm hL hC=>⟨p,rfl,⟨_,aq.of hL⟩,?_⟩⟩
 have qI:=hC.length
 refine nj kh (by lia) (λi=>cN l ((cells l.length wd).getD i (0,0))) (λ_ i y _=>xs[i]? = some y) (λH2 s2=>aq.of (s2 _ _ hL)) (λ_ _ _ _ _ _ _ _ h=>h) ?_ ?_
 .intro D i x H2 Z0 Z hD hx s2 _ k0 k1
  refine hide λG_ bw=>?_
  obtain⟨c,hc,b,rfl,hb⟩:=Paired.get hC hx
  obtain⟨_,m1,m2⟩:=Ce hc
  refine bw.k ?_
  have ec:(cells l.length wd).getD i (0,0)=c:=cE hc
  rw[ec] at k0 k1
  refine⟨_,rfl,_,rfl,a,b,l,wd,c,rfl,(sm.trans s2).tup hT,S,aA.of (s2 _ _ hb),m1,m2,_,rfl,iz (λh=>?_) (λh=>?_)⟩
  .exact⟨_,rfl,k1 _ _ (ag.dM _) h hx⟩
  .exact k0 _ (ag.dM _) (by simpa using h)
 .intro D ys H2 hD bO s2 pr
  refine q D ys H2 (sm.free hD) (sm.trans s2) bO ?_
  exact Paired.pick (bC.mono s2 hC) (cN l) _ (λi c e=>by rw[cE e]) pr
end
def qR(H:Hp)(way:Str)(q:Nat×List C2)(x:V):Prop := ∃a t xs,x = .ref a/\H a=some (.tup [.int q.1,.str way,.ref t])/\H t=some (.tup xs)/\bC H q.2 xs
abbrev gK(H:Hp)(way:Str)(qs:List (Nat×List C2))(xs:List V):Prop:=Paired (qR H way) qs xs
theorem qR.mono{H H':Hp}{way:Str}{q:Nat×List C2}{x:V}(s:ag H H')(h:qR H way q x):qR H' way q x:=let ⟨a,t,xs,e,h1,h2,h3⟩:=h;⟨a,t,xs,e,s _ _ h1,s _ _ h2,h3.mono s⟩
theorem qR.off{H H':Hp}{D:Addr}{way:Str}{q:Nat×List C2}{x:V}(hD:∃o,H D=some (.lst o))(k:∀b o,b≠D->H b=some o->H' b=some o)(h:qR H way q x):qR H' way q x:=by
 obtain⟨a,t,xs,e,h1,h2,h3⟩:=h
 have vW:=hD
 obtain⟨o,vW⟩:=vW
 exact⟨a,t,xs,e,k a _ (bS h1 vW (by intro z;cases z)) h1,k t _ (bS h2 vW (by intro z;cases z)) h2,bC.off hD k h3⟩
theorem gK.mono{H H':Hp}{way:Str}{qs:List (Nat×List C2)}{xs:List V}(s:ag H H')(h:gK H way qs xs):gK H' way qs xs:=Paired.bE h λ_ _ q=>q.mono s
theorem gK.off{H H':Hp}{D:Addr}{way:Str}{qs:List (Nat×List C2)}{xs:List V}(hD:∃o,H D=some (.lst o))(k:∀b o,b≠D->H b=some o->H' b=some o)(h:gK H way qs xs):gK H' way qs xs:=Paired.bE h λ_ _ q=>q.off hD k
def OY{p e:Addr}{o:HO}(hp:H p=some (.lst ys))(h:aA K H e xs):aA K (upd H p o) e xs:=by
 rcases h with (h | ⟨ob,h⟩) | h
 .exact .inl (.inl (by rw[ak (bS h hp (by intro z;cases z))];exact h))
 .exact .inl (.inr ⟨ob,by rw[ak (bS h hp (by intro z;cases z))];exact h⟩)
 .exact .inr h
noncomputable def jF(l:List Str)(w:Nat)(i j:Int):Bool:=decide (0<=i)&&(decide (i<(l.length:Int))&&(decide (0<=j)&&(decide (j<(w:Int))&&cN l (i.toNat,j.toNat))))
def HK(l:List Str)(w:Nat)(c:C2):jF l w (c.1:Int) (c.2:Int)=aO l w c:=by simp_all [C2,aO,jF]
theorem OZ(l:List Str)(w:Nat)(c d:C2):jF l w ((c.1:Int) - (d.1:Int)) ((c.2:Int) - (d.2:Int))=iB (aO l w) d c:=by
 unfold iB
 by_cases h1:d.1<=c.1
 .by_cases h2:d.2<=c.2
  .have e1:(c.1:Int) - (d.1:Int)=((c.1 - d.1:Nat):Int):=by lia
   have e2:(c.2:Int) - (d.2:Int)=((c.2 - d.2:Nat):Int):=by lia
   rw[e1,e2,HK l w (c.1 - d.1,c.2 - d.2),aU h1,aU h2,E5,E5]
  .unfold jF
   rw[bf h2,lj,vc,bf (p:=(0:Int)<=(c.2:Int) - (d.2:Int)) (by lia),lj,vc,vc]
 .unfold jF
  rw[bf h1,lj,bf (p:=(0:Int)<=(c.1:Int) - (d.1:Int)) (by lia),lj]
theorem qS(op:C2->Bool)(f:C2->List C2):∀(n:Nat) (cs:List C2),(dO op f n cs).length<=cs.length
 |n,[]=>aQ _
 |n,c::r=>by
  unfold dO
  split
  .exact Nat.le_succ_of_le (qS op f _ r)
  .exact lu (qS op f _ r)
theorem σ0{R:α->β->Prop}:∀{l:List α}{m:List β},Paired R l m->m.isEmpty=l.isEmpty
 |_,_,.nil=>rfl
 |_,_,.cons _ _=>rfl
def σ1{op:C2->Bool}(hf:∀{c},(f c).isEmpty=false->eO op c=true)(hc:cs[i]? = some c) :
  dO op f 0 (cs.take (i+1))=dO op f 0 (cs.take i)++if (f c).isEmpty=true then [] else [(eG op (cs.take (i+1)),f c)]:=by
 have nG:cs.take (i+1)=cs.take i++[c]:=by rw[ik,hc];rfl
 rw[nG,ON,OM,A7]
def Cq(K:Frag)(mg:Str->Option Value)(x:Str)(xs:List V):Prop := ∃a,Cn mg x (.ref a)/\∀H,aA K H a xs
section
variable{P:Program}{w:World}{K:Frag}{mg:Str->Option Value}{base:Heap}{f:Addr}{fd:FuncData}
def σ2(K:Frag):Sp:=λvs H Q _=>∃(a b:Addr) (l:List Str) (w:Nat) (i j:Int),vs=[.ref a,.ref b]/\aA K H a (l.map V.str)/\bH l w/\aA K H b [.int i,.int j]/\Q (.bl (jF l w i j)) H
def aaJ:bu ["sheet","cell"] ["sheet","cell"] (aN (top 30)):={}
theorem aaK(B:Bl mg)(F:aZ K "is_open_within" "is_open_within" (top 30) f fd)(zh:Fn P w K mg base "is_open" 2 (Ck K)):aK P w K mg base aS 3 f fd ["sheet","cell"] (σ2 K):=by
 refine F.bU aaJ λaF A outer s H vs Q E hr h=>?_
 refine hide λG_ aG=>?_
 obtain⟨a,b,l,wd,i,j,rfl,hT,S,hb,q⟩:=h
 obtain⟨x0,oV,Cr,wx,_⟩:=S.row (i:=0) S.one
 refine aG.k ?_
 have h9:=S.nine
 have hw:=S.w9
 refine⟨_,(az (cn (j8 (Bt sJ qv aI (bG cY (pv 1) aI) (cL lQ (by rfl) B.gc fZ (af (pv 0) aj))))
  (aB (bg jc))
  cH)
  (az (cn (j8 (Bt sJ qv aI (bG cY (pv 1) aI) (cL qx (by rfl) B.gc fZ (af (bG cY (pv 0) aI) aj))))
  (aB (bg jc))
  cH)
  (aB (bg (bD zh hr (af (pv 0) (af (pv 1) aj))))))),?_⟩
 try dsimp only[bJ]
 unfold jF at q
 refine⟨_,rfl,b,_,0,.int i,rfl,rfl,hb,rfl,_,_,rfl,rfl,_,rfl,?_⟩
 by_cases h0:(0:Int)<=i
 .rw[aU h0] at q ⊢
  refine bA ⟨_,rfl,a,_,rfl,.inr hT,_,_,rfl,rfl,_,rfl,?_⟩
  rw[av]
  by_cases h1:i<(l.length:Int)
  .rw[aU h1] at q ⊢
   refine bj ?_
   refine⟨_,rfl,b,_,1,.int j,rfl,rfl,hb,rfl,_,_,rfl,rfl,_,rfl,?_⟩
   by_cases h2:(0:Int)<=j
   .rw[aU h2] at q ⊢
    refine bA ⟨_,rfl,a,_,0,.str x0,rfl,rfl,hT,qQ oV,x0,rfl,kL (by lia),_,_,rfl,rfl,_,rfl,?_⟩
    rw[wx]
    by_cases h3:j<(wd:Int)
    .rw[aU h3] at q ⊢
     refine bj ?_
     obtain⟨i',rfl⟩:=vm h0
     obtain⟨j',rfl⟩:=vm h2
     rw[iZ,iZ] at q
     exact⟨_,rfl,_,rfl,a,b,l,wd,(i',j'),rfl,hT,S,hb,by lia,by lia,q⟩
    .rw[bf h3] at q ⊢
     exact bA q
   .rw[bf h2] at q ⊢
    refine bj ⟨_,rfl,?_⟩
    exact bA q
  .rw[bf h1] at q ⊢
   exact bA q
 .rw[bf h0] at q ⊢
  refine bj ⟨_,rfl,?_⟩
  exact bA q
def σ3(K:Frag)(a b d t p:Addr)(H:Hp)(l:List Str)(wd:Nat)(c dd:C2):Nat->St->Hp->Prop:=λm O H2=>∃n xs e,m=10 - n/\n<=9/\O=[some (.ref a),some (.ref b),some (.ref d),some (.ref t),some (.ref p),some (.ref e)]/\ag H H2/\
 H2 p=some (.lst xs)/\bC H2 (line c dd n) xs/\H2 e=some (.tup [.int (go c dd n).1,.int (go c dd n).2])/\∀k,k<n->aO l wd (go c dd k)=true
def σ4(K:Frag):Sp:=λvs H Q _=>∃(a b d:Addr) (l:List Str) (w:Nat) (c dd:C2),vs=[.ref a,.ref b,.ref d]/\aA K H a (l.map V.str)/\bH l w/\H b=some (.tup [.int c.1,.int c.2])/\aA K H d [.int dd.1,.int dd.2]/\(dd=(0,1)\/dd=(1,0))/\
 ∀t xs H',ag H H'->H' t=some (.tup xs)->bC H' (bo (aO l w) dd c) xs->Q (.ref t) H'
def zj:bu ["sheet","cell","way","before","cells","here"] ["sheet","cell","way"] (aN (top 29)):={}
theorem aaL(B:Bl mg)(F:aZ K "row_from" "row_from" (top 29) f fd)(σ5:Fn P w K mg base "is_open_within" 3 (σ2 K)):aK P w K mg base aS 4 f fd ["sheet","cell","way"] (σ4 K):=by
 refine F.bU zj λaF A outer s H vs Q E hr h=>?_
 refine hide λG_ aG=>?_
 obtain⟨a,b,d,l,wd,c,dd,rfl,hT,S,hb,hd,wy,q⟩:=h
 refine aG.k ?_
 have h9:=S.nine
 have hw:=S.w9
 have σ6:aA K H b [.int c.1,.int c.2]:=aA.of hb
 refine⟨_,(az (aX 3 zj.nd (eZ (af (bz lI (bG cY (pv 1) aI) (bG cY (pv 2) aI)) (af (bz lI (bG cY (pv 1) aI) (bG cY (pv 2) aI)) aj))))
  (az (cn (jE (bD σ5 hr (af (pv 0) (af (pv 3) aj))))
  (aB (bg (eZ aj)))
  cH)
  (az (aX 4 zj.nd (eE aj))
  (az (aX 5 zj.nd (pv 1))
  (az (L4 PassesOwn.never (jE (bD σ5 hr (af (pv 0) (af (pv 5) aj))))
  (az (dZ (gE j6 lA lB jf (pv 4) (af (pv 5) aj)))
   (aB (aX 5 zj.nd (eZ (af (bz gC (bG cY (pv 5) aI) (bG cY (pv 2) aI)) (af (bz gC (bG cY (pv 5) aI) (bG cY (pv 2) aI)) aj)))))))
  (az (cn (cK qv (cL lQ (by rfl) B.gc fZ (af (pv 4) aj)) aI)
  (aB (bg (eZ aj)))
  cH)
  (aB (bg (m5 BE (by rfl) B.zc yp (af (pv 4) aj)))))))))),?_⟩
 try dsimp only[bJ]
 refine⟨_,rfl,b,_,0,.int c.1,rfl,rfl,σ6,rfl,_,rfl,d,_,0,.int dd.1,rfl,rfl,hd,rfl,_,_,rfl,rfl,_,rfl,b,_,1,.int c.2,rfl,rfl,σ6,rfl,_,rfl,d,_,1,.int dd.2,rfl,rfl,hd,rfl,_,_,rfl,rfl,by show 2<=sizeLine;decide,λt ht=>?_⟩
 have dX:ag H (upd H t (.tup [.int ((c.1:Int) - (dd.1:Int)),.int ((c.2:Int) - (dd.2:Int))])):=ag.upd ht
 refine⟨_,rfl,_,rfl,a,t,l,wd,_,_,rfl,dX.tup hT,S,aA.of ao,_,rfl,?_⟩
 rw[OZ]
 refine iz (λkr=>?_) (λkr=>?_)
 .refine⟨bW _,λp hp=>q p [] _ (dX.trans (ag.upd hp)) ao ?_⟩
  unfold bo
  rw[aC kr]
  exact .nil
 .refine⟨bW _,λp hp=>?_⟩
  have pC:ag H (upd (upd H t (.tup [.int ((c.1:Int) - (dd.1:Int)),.int ((c.2:Int) - (dd.2:Int))])) p (.lst [])):=dX.trans (ag.upd hp)
  have iC:H p=none:=dX.free hp
  refine⟨_,rfl,?_⟩
  refine⟨σ3 K a b d t p H l wd c dd,⟨10,0,[],b,rfl,by lia,rfl,pC,ao,.nil,by rw[jk];exact pC _ _ hb,λk hk=>absurd hk (jz _)⟩,?_⟩
  intro m O H2 q5_
  refine hide λG_ bw=>?_
  obtain⟨n,xs,e,rfl,hn,rfl,sm,hL,hC,hE,ho⟩:=q5_
  refine bw.k ?_
  refine⟨_,rfl,_,rfl,a,e,l,wd,_,_,rfl,sm.tup hT,S,aA.of hE,_,rfl,?_⟩
  rw[HK]
  have hlen:xs.length=n:=by rw[<-hC.length,wq]
  refine iz (λkN=>?_) (λkN=>?_)
  .have hn8:n<=8:=by
    obtain⟨o1,o2,_⟩:=qN kN
    simp only[go] at o1 o2
    rcases wy with rfl | rfl
    .simp only[i8] at o2
     lia
    .simp only[i8] at o1
     lia
   refine⟨λO' H' =>∃m',m'<10 - n/\σ3 K a b d t p H l wd c dd m' O' H',λ_ _ z=>z,?_⟩
   have HL:∀o,upd H2 p o e=some (.tup [.int (go c dd n).1,.int (go c dd n).2]):=λo=>by rw[ak (bS hE hL (by intro z;cases z))];exact hE
   refine⟨_,rfl,.inl ⟨rfl,_,aq.of hL⟩,_,rfl,p,xs,_,rfl,rfl,hL,wu (by lia),?_⟩
   refine⟨_,rfl,e,_,0,.int (go c dd n).1,rfl,rfl,aA.of (HL _),rfl,_,rfl,d,_,0,.int dd.1,rfl,rfl,OY hL (sm.tup hd),rfl,_,_,rfl,rfl,_,rfl,e,_,1,.int (go c dd n).2,rfl,rfl,aA.of (HL _),rfl,_,rfl,d,_,1,.int dd.2,rfl,rfl,OY hL (sm.tup hd),rfl,_,_,rfl,rfl,by show 2<=sizeLine;decide,λt2 nH=>?_⟩
   refine⟨10 - (n+1),by lia,n+1,xs++[.ref e],t2,rfl,by lia,rfl,(sm.nh iC).trans (ag.upd nH),ag.upd nH _ _ ao,?_,?_,?_⟩
   .rw[OL]
    refine bC.mono (ag.upd nH) (qh (bC.off ⟨xs,hL⟩ (λb' o ir z=>by rw[ak ir];exact z) hC) ⟨e,rfl,HL _⟩)
   .rw[ao,go_succ]
    simp only[Int.natCast_add]
   .intro k hk
    rcases r6.mp hk with z | z
    .exact ho k z
    .rw[z];exact kN
  .have Ct:runN (aO l wd) dd 10 c=n:=Ho (by lia) ho (il.mpr kN)
   refine⟨_,rfl,p,_,rfl,.inl (aq.of hL),_,_,rfl,rfl,_,rfl,?_⟩
   rw[hlen]
   refine iz (λh2=>?_) (λh2=>?_)
   .have h2:(n:Int)<2:=gr h2
    refine⟨bW _,λp' fO=>q p' [] _ (sm.trans (ag.upd fO)) ao ?_⟩
    unfold bo
    rw[au kr,Ct,aC (by lia)]
    exact .nil
   .have h2:¬(n:Int)<2:=λz=>h2 (aU z)
    refine⟨_,rfl,p,_,rfl,.inl ⟨aq.of hL,λp' fO=>?_⟩⟩
    refine q p' xs _ (sm.trans (ag.upd fO)) ao ?_
    unfold bo
    rw[au kr,Ct,au (by lia)]
    exact hC.mono (ag.upd fO)
def zm(K:Frag):Sp:=λvs H Q _=>∃(a:Addr) (l:List Str) (w:Nat),vs=[.ref a]/\aA K H a (l.map V.str)/\bH l w/\
 ∀p xs ys H',H p=none->ag H H'->H' p=some (.lst (xs++ys))->gK H' "across" (qO l w) xs->gK H' "down" (qP l w) ys->Q (.ref p) H'
def qT:bu ["sheet","across","down","number","cell","to_the_right","to_below"] ["sheet"] (aN (top 28)):={}
theorem aaM(F:aZ K "rows_of" "rows_of" (top 28) f fd)(CA:Cq K mg "ACROSS" [.int 0,.int 1])(CD:Cq K mg "DOWN" [.int 1,.int 0])(zo:Fn P w K mg base "open_cells" 3 (Cp K))(σ7:Fn P w K mg base "row_from" 4 (σ4 K)):aK P w K mg base aS 5 f fd ["sheet"] (zm K):=by
 refine F.bU qT λaF A outer s H vs Q E hr h=>?_
 refine hide λG_ aG=>?_
 obtain⟨a,l,wd,rfl,hT,S,q⟩:=h
 obtain⟨dA,HM,tA⟩:=CA
 obtain⟨dD,HN,tD⟩:=CD
 refine aG.k ?_
 have tU:=wm S
 have m7:(bZ l wd).length<=81:=bL (nY _ _) tU
 refine⟨_,(az (aX 1 qT.nd (eE aj))
  (az (aX 2 qT.nd (eE aj))
  (az (aX 3 qT.nd aI)
  (az (dJ (eD (bD zo hr (af (pv 0) aj))) (cD 4 qT.nd)
  (az (aX 5 qT.nd (bD σ7 hr (af (pv 0) (af (pv 4) (af (eM HM (by rfl)) aj)))))
   (az (aX 6 qT.nd (bD σ7 hr (af (pv 0) (af (pv 4) (af (eM HN (by rfl)) aj)))))
   (az (BW (cn (PW.pt (qt (ot (pv 5) (by intro _;rfl)) (sk (ot (pv 6) (by intro _;rfl)))))
   (aB (aX 3 qT.nd (bz gC (pv 3) aI)))
   cH))
   (az (BW (cn (ot (pv 5) (by intro _;rfl))
   (aB (dZ (gE j6 lA lB jf (pv 1) (af (eZ (af (pv 3) (af fW (af (pv 5) aj)))) aj))))
   cH))
   (aB (cn (ot (pv 6) (by intro _;rfl))
   (aB (dZ (gE j6 lA lB jf (pv 2) (af (eZ (af (pv 3) (af fW (af (pv 6) aj)))) aj))))
   cH)))))))
  (aB (bg (bz BF (pv 1) (pv 2)))))))),?_⟩
 try dsimp only[bJ]
 refine⟨bW _,λpa iD=>?_⟩
 refine⟨bW _,λpd wz=>?_⟩
 have HP:pa≠pd:=by intro z;rw[<-z,ao] at wz;cases wz
 have σ8:ag H (upd H pa (.lst [])):=ag.upd iD
 have σ9:ag H (upd (upd H pa (.lst [])) pd (.lst [])):=σ8.trans (ag.upd wz)
 have aaN:H pd=none:=σ8.free wz
 have Cu:upd (upd H pa (.lst [])) pd (.lst []) pa=some (.lst []):=by rw[ak HP,ao]
 have zr:upd (upd H pa (.lst [])) pd (.lst []) pd=some (.lst []):=ao
 refine⟨_,rfl,a,l,wd,rfl,σ9.tup hT,S,λp xs H1 hp pC hL hC=>⟨p,rfl,⟨_,aq.of hL⟩,?_⟩⟩
 have iE:p≠pa:=λz=>by rw[z] at hp;rw[Cu] at hp;cases hp
 have wA:p≠pd:=λz=>by rw[z] at hp;rw[zr] at hp;cases hp
 generalize kN:aO l wd=op at *
 have gD:xs.length=(bZ l wd).length:=hC.length.symm
 refine ke (xs:=xs) (λi O H2=>∃v4 v5 v6 as ds,O=[some (.ref a),some (.ref pa),some (.ref pd),some (.int (eG op ((bZ l wd).take i))),v4,v5,v6]/\ag H H2/\(∀b o,b≠pa->b≠pd->H1 b=some o->H2 b=some o)/\
   H2 pa=some (.lst as)/\H2 pd=some (.lst ds)/\gK H2 "across" (dO op (kK op) 0 ((bZ l wd).take i)) as/\gK H2 "down" (dO op (jO op) 0 ((bZ l wd).take i)) ds)
  ⟨none,none,none,[],[],rfl,σ9.trans pC,λ_ _ _ _ z=>z,pC _ _ Cu,pC _ _ zr,.nil,.nil⟩ ?_ ?_ ?_
 .rintro i O H2 _ ⟨v4,v5,v6,as,ds,rfl,sm,off,hA,hD,rA,rD⟩
  exact aq.of (off _ _ iE wA hL)
 .intro i x O H2 hi q6_
  refine hide λG_ bw=>?_
  obtain⟨v4,v5,v6,as,ds,rfl,sm,off,hA,hD,rA,rD⟩:=q6_
  obtain⟨c,hc,b,rfl,hb⟩:=Paired.get hC hi
  refine bw.k ?_
  have agZ:∀o,H1 pa=some o->∃z,o=HO.lst z:=λo e=>⟨[],by rw[pC _ _ Cu] at e;exact(dh e).symm⟩
  have nba:b≠pa:=bS hb (pC _ _ Cu) (by intro z;cases z)
  have nbd:b≠pd:=bS hb (pC _ _ zr) (by intro z;cases z)
  have l7:=off _ _ nba nbd hb
  have nG:(bZ l wd).take (i+1)=(bZ l wd).take i++[c]:=by rw[ik,hc];rfl
  have Cv:as.length<=81:=by rw[<-rA.length];exact bL (qS _ _ _ _) (bL (List.length_take_le' _ _) m7)
  have hld:ds.length<=81:=by rw[<-rD.length];exact bL (qS _ _ _ _) (bL (List.length_take_le' _ _) m7)
  refine⟨_,rfl,_,rfl,a,b,dA,l,wd,c,(0,1),rfl,sm.tup hT,S,l7,tA _,.inl rfl,λt1 Cy H3 kM Cz HQ=>?_⟩
  refine⟨_,rfl,_,rfl,a,b,dD,l,wd,c,(1,0),rfl,(sm.trans kM).tup hT,S,kM _ _ l7,tD _,.inr rfl,λt2 tV H4 fm nH HR=>?_⟩
  rw[kN] at HQ HR
  have e1:Cy.isEmpty=(kK op c).isEmpty:=σ0 HQ
  have e2:tV.isEmpty=(jO op c).isEmpty:=σ0 HR
  have tW:=kM.trans fm
  have wB:=tW _ _ hA
  have hD4:=tW _ _ hD
  have CF:=fm _ _ Cz
  refine⟨λO' H'=>O'=[some (.ref a),some (.ref pa),some (.ref pd),some (.int (eG op ((bZ l wd).take (i+1)))),some (.ref b),some (.ref t1),some (.ref t2)]/\H4=H',?_,?_⟩
  .rintro O' H' ⟨rfl,rfl⟩
   refine⟨λO' H'=>O'=[some (.ref a),some (.ref pa),some (.ref pd),some (.int (eG op ((bZ l wd).take (i+1)))),some (.ref b),some (.ref t1),some (.ref t2)]/\(∀b o,b≠pa->H4 b=some o->H' b=some o)/\
    ∃zt,H' pa=some (.lst zt)/\gK H' "across" (dO op (kK op) 0 ((bZ l wd).take (i+1))) zt,?_,?_⟩
   .rintro O' H5 ⟨rfl,pD,zt,Pa,Pb⟩
    have HS:=pD _ _ (aP HP) hD4
    have HU:=pD _ _ (bS nH wB (by intro z;cases z)) nH
    have aaO:bC H5 (jO op c) tV:=bC.off ⟨as,wB⟩ pD HR
    have Pc:gK H5 "down" (dO op (jO op) 0 ((bZ l wd).take i)) ds:=gK.off ⟨as,wB⟩ pD (rD.mono tW)
    have Pd:ag H H5:=λb o z=>pD b o (bh z iD) ((sm.trans tW) _ _ z)
    have Pe:∀b o,b≠pa->b≠pd->H1 b=some o->H5 b=some o:=λb o h1 h2 z=>pD b o h1 (tW _ _ (off b o h1 h2 z))
    have er:=σ1 (op:=op) (f:=jO op) Hr hc
    refine⟨_,rfl,_,Or.inr (Or.inl ⟨tV,aA.of HU,rfl⟩),?_⟩
    by_cases z:(jO op c).isEmpty=true
    .rw[e2,z]
     refine bj ⟨some (.ref b),some (.ref t1),some (.ref t2),zt,ds,rfl,Pd,Pe,Pa,HS,Pb,?_⟩
     rw[er,aC z,dS]
     exact Pc
    .rw[e2,il.mpr z]
     refine bA ⟨_,rfl,.inl ⟨rfl,_,aq.of HS⟩,_,rfl,_,rfl,by show 3<=sizeLine;decide,λt ht=>?_⟩
     have iF:ag H5 (upd H5 t (.tup [.int (eG op ((bZ l wd).take (i+1))),.str "down",.ref t2])):=ag.upd ht
     have wC:=iF _ _ HS
     have fP:∀o' b o,b≠pd->upd H5 t (.tup [.int (eG op ((bZ l wd).take (i+1))),.str "down",.ref t2]) b=some o->upd (upd H5 t (.tup [.int (eG op ((bZ l wd).take (i+1))),.str "down",.ref t2])) pd o' b=some o:=λo' b o hb y=>by rw[ak hb];exact y
     refine⟨pd,ds,_,rfl,rfl,wC,wu (by lia),some (.ref b),some (.ref t1),some (.ref t2),zt,ds++[.ref t],rfl,(Pd.trans iF).nh aaN,λb o h1 h2 y=>fP _ b o h2 (iF _ _ (Pe b o h1 h2 y)),fP _ pa _ HP (iF _ _ Pa),ao,?_,?_⟩
     .exact gK.off ⟨ds,wC⟩ (fP _) (Pb.mono iF)
     .rw[er,au z]
      refine qh (gK.off ⟨ds,wC⟩ (fP _) (Pc.mono iF)) ⟨t,t2,tV,rfl,fP _ t _ (bS ao wC (by intro y;cases y)) ao,fP _ t2 _ (bS (iF _ _ HU) wC (by intro y;cases y)) (iF _ _ HU),bC.off ⟨ds,wC⟩ (fP _) (aaO.mono iF)⟩
   .have er:=σ1 (op:=op) (f:=kK op) Hq hc
    refine⟨_,rfl,_,Or.inr (Or.inl ⟨Cy,aA.of CF,rfl⟩),?_⟩
    by_cases z:(kK op c).isEmpty=true
    .rw[e1,z]
     refine bj ⟨rfl,λ_ _ _ y=>y,as,wB,?_⟩
     rw[er,aC z,dS]
     exact rA.mono tW
    .rw[e1,il.mpr z]
     refine bA ⟨_,rfl,.inl ⟨rfl,_,aq.of wB⟩,_,rfl,_,rfl,by show 3<=sizeLine;decide,λt ht=>?_⟩
     have iF:ag H4 (upd H4 t (.tup [.int (eG op ((bZ l wd).take (i+1))),.str "across",.ref t1])):=ag.upd ht
     have zu:=iF _ _ wB
     have fP:∀o' b o,b≠pa->upd H4 t (.tup [.int (eG op ((bZ l wd).take (i+1))),.str "across",.ref t1]) b=some o->upd (upd H4 t (.tup [.int (eG op ((bZ l wd).take (i+1))),.str "across",.ref t1])) pa o' b=some o:=λo' b o hb y=>by rw[ak hb];exact y
     refine⟨pa,as,_,rfl,rfl,zu,wu (by lia),rfl,λb o h1 y=>fP _ b o h1 (iF _ _ y),as++[.ref t],ao,?_⟩
     rw[er,au z]
     exact qh (gK.off ⟨as,zu⟩ (fP _) ((rA.mono tW).mono iF)) ⟨t,t1,Cy,rfl,fP _ t _ (bS ao zu (by intro y;cases y)) ao,fP _ t1 _ (bS (iF _ _ CF) zu (by intro y;cases y)) (iF _ _ CF),bC.off ⟨as,zu⟩ (fP _) ((HQ.mono fm).mono iF)⟩
  .have enum:eG op ((bZ l wd).take (i+1))=if eO op c=true then eG op ((bZ l wd).take i)+1 else eG op ((bZ l wd).take i):=by rw[nG,OM]
   refine⟨_,rfl,_,Or.inr (Or.inl ⟨Cy,aA.of CF,rfl⟩),?_⟩
   by_cases z1:(kK op c).isEmpty=true
   .rw[e1,z1]
    refine bj ⟨_,rfl,_,Or.inr (Or.inl ⟨tV,aA.of nH,rfl⟩),?_⟩
    by_cases z2:(jO op c).isEmpty=true
    .rw[e2,z2]
     refine bj ⟨?_,rfl⟩
     rw[enum,au (by unfold eO;rw[z1,z2];decide)]
     rfl
    .rw[e2,il.mpr z2]
     refine bA ⟨_,rfl,_,_,rfl,rfl,?_,rfl⟩
     rw[enum,aC (Hr (il.mpr z2))]
     rfl
   .rw[e1,il.mpr z1]
    refine bA (bA ⟨_,rfl,_,_,rfl,rfl,?_,rfl⟩)
    rw[enum,aC (Hq (il.mpr z1))]
    rfl
 .intro O H2 q7_
  refine hide λG_ cq=>?_
  obtain⟨v4,v5,v6,as,ds,rfl,sm,off,hA,hD,rA,rD⟩:=q7_
  refine cq.k ?_
  rw[gs (by lia)] at rA rD
  have Cv:as.length<=81:=by rw[<-rA.length];exact bL (qS _ _ _ _) m7
  have hld:ds.length<=81:=by rw[<-rD.length];exact bL (qS _ _ _ _) m7
  subst kN
  refine⟨_,rfl,_,rfl,pa,pd,as,ds,rfl,rfl,hA,hD,kL (by lia),λp' fO=>?_⟩
  exact q p' as ds _ (sm.free fO) (sm.trans (ag.upd fO)) ao (rA.mono (ag.upd fO)) (rD.mono (ag.upd fO))
end
theorem HV{op:C2->Bool}{d:C2}:∀{f:Nat}{c:C2}{k:Nat},k<runN op d f c->op (go c d k)=true
 |0,_,_,h=>by unfold runN at h;exact absurd h (jz _)
 |f+1,c,k,h=>by
  unfold runN at h
  split at h
  .rename_i ho
   cases k with
   |zero=>rw[jk];exact ho
   |succ k=>
    have:=HV (op:=op) (d:=d) (f:=f) (c:=(c.1+d.1,c.2+d.2)) (k:=k) (by lia)
    have e:go c d (k+1)=go (c.1+d.1,c.2+d.2) d k:=by
     simp only[go,lz,mU]
     lia
    rw[e]
    exact this
  .exact absurd h (jz _)
theorem Pf{op:C2->Bool}{d:C2}:∀{f:Nat}{c:C2},runN op d f c<=f
 |0,_=>by unfold runN;exact aQ _
 |f+1,c=>by
  unfold runN
  split
  .exact lu Pf
  .exact bW _
def aaP{op:C2->Bool}{x:C2}(h:x∈bo op d c):op x=true:=by
 unfold bo at h
 split at h
 .exact absurd h fU
 .split at h
  .exact absurd h fU
  .obtain⟨k,hk,rfl⟩:=cC.mp h
   exact HV (ic.mp hk)
def aaQ{op:C2->Bool}:(bo op d c).length<=10:=by
 unfold bo
 split
 .exact bW _
 .split
  .exact bW _
  .rw[wq];exact Pf
noncomputable def dy(l:List Str)(w:Nat):List (Nat×List C2):=qO l w++qP l w
def Pg{op:C2->Bool}(hf:∀c,(bo op d c).isEmpty=false->eO op c=true)(h:q∈dO op (bo op d) n cs):q.2.length<=10/\∀c∈q.2,op c=true:=by
 obtain⟨_,c,_,_,e,_⟩:=OO hf h
 rw[e]
 exact⟨aaQ,λx hx=>aaP hx⟩
def HW(h:q∈dy l w):q.2.length<=10/\∀c∈q.2,c.1<l.length/\c.2<w/\cN l c=true:=by
 have z:q.2.length<=10/\∀c∈q.2,aO l w c=true:=by
  rcases dR.mp h with h | h
  .exact Pg (λc=>Hq) h
  .exact Pg (λc=>Hr) h
 exact⟨z.1,λc hc=>qN (z.2 c hc)⟩
theorem tX(S:bH l w):(dy l w).length<=162:=by
 unfold dy
 rw[d6]
 have h1:(qO l w).length<=(bZ l w).length:=qS _ _ _ _
 have h2:(qP l w).length<=(bZ l w).length:=qS _ _ _ _
 have h3:(bZ l w).length<=(cells l.length w).length:=nY _ _
 have h4:=wm S
 lia
def RAt(H:Hp)(q:Nat×List C2)(x:V):Prop := ∃way,qR H way q x
theorem Ph{α β:Type}{R:α->β->Prop}:∀{l:List α}{m:List β}{l':List α}{m':List β},Paired R l m->Paired R l' m'->Paired R (l++l') (m++m')
 |_,_,_,_,.nil,h=>h
 |_,_,_,_,.cons h t,h' =>.cons h (Ph t h')
def HX(h1:gK H "across" (qO l w) xs)(h2:gK H "down" (qP l w) ys):Paired (RAt H) (dy l w) (xs++ys):=
 Ph (Paired.bE h1 λ_ _ h=>⟨_,h⟩) (Paired.bE h2 λ_ _ h=>⟨_,h⟩)
noncomputable def ax(l:List Str)(cs:List C2):Str:=⟨(cs.map (sg l)).toArray⟩
theorem HY:∀xs:List Nat,Str.join ⟨#[]⟩ (xs.map λc=>(⟨#[c]⟩:Str))=⟨xs.toArray⟩
 |[]=>rfl
 |[x]=>rfl
 |x::y::r=>by
  have ih:=HY (y::r)
  show(⟨#[x]⟩++⟨#[]⟩++Str.join ⟨#[]⟩ ((y::r).map λc=>(⟨#[c]⟩:Str)):Str)=_
  rw[ih]
  apply ph
  rw[qL,qL]
  simp
theorem HZ:∀xs:List Nat,(((xs.map λc=>(⟨#[c]⟩:Str)).map (·.length)).sum)=xs.length
 |[]=>rfl
 |x::r=>by
  rw[cF,cF,n8,HZ r,eJ,Nat.add_comm]
  rfl
def tY:("":Str)=⟨#[]⟩:=by decide +kernel
theorem zv{α β:Type}{f:α->β}:∀{l:List α}{ys:List β},Paired (λi y=>y=f i) l ys->ys=l.map f
 |_,_,.nil=>rfl
 |_,_,.cons h t=>by rw[cF,<-zv t,h]
def zw(g:α->β)(d:α)(l:List α):(List.range l.length).map (λi=>g (l.getD i d))=l.map g:=by
 apply i6
 intro i
 rw[bF,bF]
 by_cases h:i<l.length
 .rw[rY h,bt h,i0,i0,cz,bt h,qi]
 .rw[di (by simpa using h),di (by simpa using h)]
  rfl
section
variable{P:Program}{w:World}{K:Frag}{mg:Str->Option Value}{base:Heap}{f:Addr}{fd:FuncData}
def Ia(K:Frag):Sp:=λvs H Q _=>∃(a t:Addr) (l:List Str) (w:Nat) (cs:List C2) (xs:List V),vs=[.ref a,.ref t]/\aA K H a (l.map V.str)/\bH l w/\H t=some (.tup xs)/\bC H cs xs/\cs.length<=100/\(∀c∈cs,c.1<l.length/\c.2<w)/\
 ∀H',ag H H'->Q (.str (ax l cs)) H'
def aaR:bu ["sheet","cells"] ["sheet","cells"] (aN (top 34)):={}
theorem aaS(F:aZ K "pattern" "pattern" (top 34) f fd)(zg:Fn P w K mg base "sign_at" 1 (Cj K)):aK P w K mg base aS 2 f fd ["sheet","cells"] (Ia K):=by
 refine F.bU aaR λaF A outer s H vs Q E hr h=>?_
 refine hide λG_ aG=>?_
 obtain⟨a,t,l,wd,cs,xs,rfl,hT,S,ht,hC,hlen,cI,q⟩:=h
 refine aG.k ?_
 have qI:=hC.length
 refine⟨_,(aB (bg (gE LM TR TV Gg fW (af (jg (js:=[0]) (ns:=["sheet"]) (Fu (pv 1)) rfl rfl rfl rfl (λ_ _ _ _=>lU) (λ_ _ _ _=>(bD zg hr (af (pv 1) (af (pv 0) aj))))) aj)))),?_⟩
 try dsimp only[bJ]
 refine⟨rfl,_,rfl,t,rfl,⟨_,aA.of ht⟩,?_⟩
 refine comp_map Nv (by lia) (λ_ i y _=>y = .str ⟨#[sg l (cs.getD i (0,0))]⟩) (λH2 s2=>aA.of (s2 _ _ ht)) (λ_ _ _ _ _ _ _ _ h=>h) ?_ ?_
 .intro D i x H2 Z hD hx s2 _ k1
  obtain⟨c,hc,b,rfl,hb⟩:=Paired.get hC hx
  have jP:=cI c (bM hc)
  exact⟨_,rfl,_,rfl,a,b,l,wd,c,rfl,s2.tup hT,S,aA.of (s2 _ _ hb),jP.1,jP.2,k1 _ _ (ag.dM _) (by rw[cE hc])⟩
 .intro D ys H2 hD bO s2 pr
  have e:=zv pr
  rw[<-qI,zw (λc=>V.str ⟨#[sg l c]⟩)] at e
  have e1:ys=((cs.map (sg l)).map λc=>(⟨#[c]⟩:Str)).map V.str:=by rw[e,mV,mV];rfl
  rw[e1] at bO
  refine⟨_,D,(cs.map (sg l)).map λc=>(⟨#[c]⟩:Str),rfl,rfl,.inl (aq.of bO),?_,?_⟩
  .rw[HZ,av,av,tY]
   show _+_*0<=_
   lia
  .rw[tY,HY]
   exact q H2 s2
def Ib(K:Frag):Sp:=λvs H Q _=>∃(a:Addr) (l:List Str) (w:Nat),vs=[.ref a]/\aA K H a (l.map V.str)/\bH l w/\
 ∀p xs H',H p=none->ag H H'->H' p=some (.lst xs)->bC H' (dm l w) xs->Q (.ref p) H'
def aaT:bu ["sheet"] ["sheet"] (aN (top 19)):={}
theorem aaU(F:aZ K "free_cells" "free_cells" (top 19) f fd)(iU:Cn mg "FREE" (.str "."))(HJ:Fn P w K mg base "all_cells" 1 (HI K))(zg:Fn P w K mg base "sign_at" 1 (Cj K)):aK P w K mg base aS 3 f fd ["sheet"] (Ib K):=by
 refine F.bU aaT λaF A outer s H vs Q E hr h=>?_
 refine hide λG_ aG=>?_
 obtain⟨a,l,wd,rfl,hT,S,q⟩:=h
 refine aG.k ?_
 have tU:=wm S
 refine⟨_,(aB (bg (jg (js:=[0]) (ns:=["sheet"]) (eD (bD HJ hr (af (pv 0) aj))) rfl rfl rfl rfl (λ_ _ _ _=>(oH (cK m4 (bD zg hr (af (pv 1) (af (pv 0) aj))) (eM iU (by rfl))))) (λ_ _ _ _=>(pv 0))))),?_⟩
 try dsimp only[bJ]
 refine⟨_,rfl,a,l,wd,rfl,hT,S,λp xs H1 hp sm hL hC=>⟨p,rfl,⟨_,aq.of hL⟩,?_⟩⟩
 have qI:=hC.length
 refine nj kh (by lia) (λi=>qM l ((cells l.length wd).getD i (0,0))) (λ_ i y _=>xs[i]? = some y) (λH2 s2=>aq.of (s2 _ _ hL)) (λ_ _ _ _ _ _ _ _ h=>h) ?_ ?_
 .intro D i x H2 Z0 Z hD hx s2 _ k0 k1
  refine hide λG_ bw=>?_
  obtain⟨c,hc,b,rfl,hb⟩:=Paired.get hC hx
  obtain⟨_,m1,m2⟩:=Ce hc
  refine bw.k ?_
  have ec:(cells l.length wd).getD i (0,0)=c:=cE hc
  rw[ec] at k0 k1
  refine⟨_,rfl,_,rfl,a,b,l,wd,c,rfl,(sm.trans s2).tup hT,S,aA.of (s2 _ _ hb),m1,m2,rfl,_,rfl,?_⟩
  rw[OW,HG]
  refine iz (λh=>?_) (λh=>?_)
  .exact⟨_,rfl,k1 _ _ (ag.dM _) h hx⟩
  .exact k0 _ (ag.dM _) (il.mpr h)
 .intro D ys H2 hD bO s2 pr
  refine q D ys H2 (sm.free hD) (sm.trans s2) bO ?_
  exact Paired.pick (bC.mono s2 hC) (qM l) _ (λi c e=>by rw[cE e]) pr
end
structure fq(l:List Str)(w:Nat):Prop where
 one:1<=l.length
 nine:l.length<=9
 w9:w<=9
 len:∀x∈l,x.length=w
def bH.kO(S:bH l w):fq l w:=⟨S.one,S.nine,S.w9,S.len⟩
def fq.row(S:fq l w)(hi:i<l.length):∃x,l[i]? = some x/\x∈l/\x.length=w/\x.cps.toList.length=w/\∀j,j<w->x.cps.toList[j]? = some (sg l (i,j)):=by
 refine⟨l[i],bt hi,j5 hi,S.len _ (j5 hi),by rw[cV];exact S.len _ (j5 hi),λj hj=>?_⟩
 have hl:j<l[i].cps.toList.length:=by rw[cV,S.len _ (j5 hi)];exact hj
 unfold sg
 rw[cE (bt hi),bt hl]
 simp only[cE (bt hl)]
theorem fq.set(S:fq l w){c:Nat×Nat}(h1:c.1<l.length)(h2:c.2<w):fq (setC l c ch) w:=by
 obtain⟨x,hx,mx,lx,tT,hj⟩:=S.row h1
 refine⟨by rw[kJ];exact S.one,by rw[kJ];exact S.nine,S.w9,λy my=>?_⟩
 unfold setC at my
 rcases LK my with z | z
 .exact S.len y z
 .rw[z,cE hx,y9 (by lia),lx]
theorem fq.CJ(S:fq l w){c:Nat×Nat}(h1:c.1<l.length)(h2:c.2<w){d:Nat×Nat}(d1:d.1<l.length)(d2:d.2<w):sg (setC l c ch) d=if d=c then ch else sg l d:=by
 obtain⟨x,hx,mx,lx,tT,hj⟩:=S.row d1
 have g:=hj d.2 d2
 by_cases e:d.1=c.1
 .have nA:(setC l c ch)[d.1]? = some (bP x c.2 ch):=by
   unfold setC
   rw[e] at hx ⊢
   rw[rP h1,cE hx]
  have q:sg (setC l c ch) d=(bP x c.2 ch).cps.toList.getD d.2 0:=by unfold sg;rw[cE nA]
  rw[q,cz,Hn (by lia) (by lia),g]
  by_cases e2:d.2=c.2
  .rw[aC e2,aC (E6.mpr ⟨e,e2⟩)]
   rfl
  .rw[au e2,au (λz=>e2 (eX Prod.snd z))]
   rfl
 .have nA:(setC l c ch)[d.1]? = some x:=by
   unfold setC
   rw[uW (aP e)]
   exact hx
  have q:sg (setC l c ch) d=sg l d:=by unfold sg;rw[cE nA,cE hx]
  rw[q,au (λz=>e (eX Prod.fst z))]
section
variable{P:Program}{w:World}{K:Frag}{mg:Str->Option Value}{base:Heap}{f:Addr}{fd:FuncData}
theorem Pj(h:j<=x.length):(Txt.slice x none (some (j:Int))).cps.toList=x.cps.toList.take j:=by
 have e:=gS.mp (PyProof.Rows.slice_closes_to (x:=x) (j:=(j:Int)) ⟨by lia,by rw[cV];lia⟩)
 rw[e]
 simp
theorem Pk(h:j+1<=x.length):(Txt.slice x (some ((j:Int)+1)) none).cps.toList=x.cps.toList.drop (j+1):=by
 have e:=PyProof.Rows.slice_from_eq (x:=x) (i:=(j:Int)+1) (b:=(x.length:Int)) (by lia) (by lia) rfl
 rw[e]
 have e1:((j:Int)+1).toNat=j+1:=by lia
 rw[e1]
 show(x.cps.toList.drop (j+1)).take _=_
 refine gs ?_
 rw[rS,cV]
 lia
def Ic(K:Frag):Sp:=λvs H Q _=>∃(a b:Addr) (l:List Str) (w:Nat) (c:Nat×Nat) (ch:Nat),vs=[.ref a,.ref b,.str ⟨#[ch]⟩]/\aA K H a (l.map V.str)/\fq l w/\aA K H b [.int c.1,.int c.2]/\c.1<l.length/\c.2<w/\
 ∀t H',H t=none->ag H H'->H' t=some (.tup ((setC l c ch).map V.str))->Q (.ref t) H'
def CK:bu ["sheet","cell","sign","number","column","lines"] ["sheet","cell","sign"] (aN (top 24)):={}
theorem aaV(B:Bl mg)(F:aZ K "with_sign" "with_sign" (top 24) f fd):aK P w K mg base aS 1 f fd ["sheet","cell","sign"] (Ic K):=by
 refine F.bU CK λaF A outer s H vs Q E hr h=>?_
 refine hide λG_ aG=>?_
 obtain⟨a,b,l,wd,c,ch,rfl,hT,S,hb,h1,h2,q⟩:=h
 obtain⟨x,hx,mx,lx,tT,hj⟩:=S.row h1
 refine aG.k ?_
 have hw:=S.w9
 refine⟨_,(az (aX 3 CK.nd (bG cY (pv 1) aI))
  (az (aX 4 CK.nd (bG cY (pv 1) aI))
  (az (aX 5 CK.nd (m5 yb (by rfl) B.zd yq (af (pv 0) aj)))
  (az (sy (bz xX (bz xX (ow yt (bG iu (pv 5) (pv 3)) m8 (m9 (pv 4))) (pv 2)) (ow yt (bG iu (pv 5) (pv 3)) (m9 (bz gC (pv 4) aI)) m8)) (vv (pv 5) (pv 3) set_list))
  (aB (bg (m5 BE (by rfl) B.zc yp (af (pv 5) aj)))))))),?_⟩
 try dsimp only[bJ]
 refine⟨_,rfl,b,_,0,.int c.1,rfl,rfl,hb,rfl,_,rfl,b,_,1,.int c.2,rfl,rfl,hb,rfl,_,rfl,a,_,rfl,.inr hT,λp hp=>?_⟩
 have l1:(Txt.slice x none (some (c.2:Int))).length<=100:=bL (EN x _ _) (by lia)
 have l2:(Txt.slice x (some ((c.2:Int)+1)) none).length<=100:=bL (EN x _ _) (by lia)
 refine⟨_,rfl,_,rfl,p,_,_,.str x,rfl,rfl,aq.of ao,qQ hx,_,rfl,_,rfl,x,rfl,kL (by lia),_,rfl,_,_,rfl,rfl,kL (by show _+1<=_;lia),?_⟩
 refine⟨_,rfl,_,rfl,p,_,_,.str x,rfl,rfl,aq.of ao,qQ hx,_,rfl,_,_,rfl,rfl,_,rfl,x,rfl,kL (by lia),_,_,rfl,rfl,kL ?_,?_⟩
 .rw[<-cV,qL,d6,cV]
  show _+1+_<=_
  lia
 have eg:=OK (x:=x) (j:=c.2) (ch:=ch) (Pj (by lia)) (Pk (by lia))
 refine⟨_,rfl,_,rfl,p,_,_,c.1,rfl,rfl,ao,tu (by rw[av];exact h1),?_⟩
 rw[eg,Ue]
 refine⟨_,rfl,p,_,rfl,.inl ⟨aq.of ao,λt ht=>?_⟩⟩
 have sm:ag H (upd H p (.lst ((l.map V.str).set c.1 (.str (bP x c.2 ch))))):=ag.upd hp
 refine q t _ (sm.free ht) (sm.trans (ag.upd ht)) ?_
 rw[ao]
 unfold setC
 rw[cE hx,List.map_set]
end
noncomputable def CL(x:Str):Bool:=x.cps.toList.all λc=>decide (c∈pq.cps.toList)
noncomputable def pE(x:Str)(a b:Int):Bool:=decide (a<=(x.length:Int))&&(decide ((x.length:Int)<=b)&&CL x)
theorem CM{α β:Type}{f:α->β}:∀{l:List α}{ys:List β},Paired (λi y=>y=f i) l ys->ys=l.map f
 |_,_,.nil=>rfl
 |_,_,.cons h t=>by rw[cF,<-CM t,h]
def aaW(g:α->β)(d:α)(l:List α):(List.range l.length).map (λi=>g (l.getD i d))=l.map g:=by
 apply i6
 intro i
 rw[bF,bF]
 by_cases h:i<l.length
 .rw[rY h,bt h,i0,i0,cz,bt h,qi]
 .rw[di (by simpa using h),di (by simpa using h)]
  rfl
section
variable{P:Program}{w:World}{K:Frag}{mg:Str->Option Value}{base:Heap}{f:Addr}{fd:FuncData}
def Pl(K:Frag):Sp:=λvs H Q _=>(∃(x:Str) (a b:Int),vs=[.str x,.int a,.int b]/\x.length<=1000/\∀H',ag H H'->Q (.bl (pE x a b)) H')\/
 ∃(v:V) (t:Value) (a b:Int),vs=[v,.int a,.int b]/\jd K H v t/\kitOne K t (.type "str")=some false/\Q (.bl false) H
def aaX:bu ["thing","least","most"] ["thing","least","most"] (aN (top 58)):={}
theorem aaY(B:Bl mg)(Ie:Cn mg "LETTERS" (.str pq))(F:aZ K "is_letters" "is_letters" (top 58) f fd):aK P w K mg base aS 1 f fd ["thing","least","most"] (Pl K):=by
 refine F.ok aaX (λvs H Q E h=>?_) (λaF A outer s H vs Q E hr h=>?_)
 .rcases h with ⟨x,a,b,rfl,_⟩ | ⟨v,t,a,b,rfl,_⟩ <;> rfl
 .refine⟨_,(az (cn (j8 (jE (cL Nt (by rfl) B.iT iQ (af (pv 0) (af (Fg (v := .ty "str") (by rfl) B.aas W3 rfl) aj)))))
   (aB (bg jc))
   cH)
   (aB (bg (Bj (U1 sJ sJ (pv 1) (cL qx (by rfl) B.gc fZ (af (pv 0) aj)) (pv 2)) (Fj (cL (W5 rfl) (by rfl) B.aat W2 (af (jg (js:=[]) (ns:=[]) (Xa (pv 0)) rfl rfl rfl rfl (λ_ _ _ _=>lU) (λ_ _ _ _=>(vE Mg (pv 0) (eM Ie (by rfl))))) aj))))))),?_⟩
  try dsimp only[bJ]
  rcases h with ⟨x,a,b,rfl,hx,q⟩ | ⟨v,t,a,b,rfl,ty,hk,q⟩
  .refine⟨_,rfl,_,_,_,true,⟨rfl,.str _,W4⟩,_,rfl,bj ?_⟩
   refine⟨_,rfl,_,rfl,x,rfl,iA (by lia),_,_,rfl,rfl,_,rfl,?_⟩
   by_cases h2:a<=(x.length:Int)
   .rw[aU h2]
    refine bA ⟨_,rfl,_,_,rfl,rfl,_,rfl,?_⟩
    by_cases h3:(x.length:Int)<=b
    .rw[aU h3]
     refine bA ?_
     refine⟨_,rfl,x,rfl,comp_map Xb (by rw[av,uX];show x.length<=15752961;lia) (λ_ i y _=>y = .bl (decide (x.cps.toList.getD i 0∈pq.cps.toList))) (λ_ _=>trivial) (λ_ _ _ _ _ _ _ _ h=>h) ?_ ?_⟩
     .intro D i z H2 Z _ hz _ _ k1
      rw[bF] at hz
      cases e:x.cps.toList[i]? with
      |none=>rw[e] at hz;cases hz
      |some c=>
       rw[e] at hz
       cases hz
       refine⟨_,rfl,_,_,rfl,rfl,k1 _ _ (ag.dM _) ?_⟩
       rw[StrLaws.found_one,cz,e]
       all_goals rfl
     .intro D ys H2 hD bO sm pr
      have e:=CM pr
      rw[av,aaW (λc=>V.bl (decide (c∈pq.cps.toList)))] at e
      refine⟨D,x.cps.toList.map λc=>decide (c∈pq.cps.toList),rfl,aq.of (by rw[bO,e,mV];rfl),?_⟩
      have e2:((x.cps.toList.map λc=>decide (c∈pq.cps.toList)).all id)=pE x a b:=by
       unfold pE CL
       rw[List.all_map,aU h2,aU h3]
       rfl
      rw[e2]
      exact q H2 sm
    .rw[bf h3]
     refine bj ?_
     have e:pE x a b=false:=by
      unfold pE
      rw[bf h3,lj,vc]
     rw[<-e]
     exact q H (ag.dM _)
   .rw[bf h2]
    refine bj ⟨_,rfl,bj ?_⟩
    have e:pE x a b=false:=by
     unfold pE
     rw[bf h2,lj]
    rw[<-e]
    exact q H (ag.dM _)
  .exact⟨_,rfl,_,_,_,false,⟨rfl,ty,hk⟩,_,rfl,bA q⟩
end
noncomputable def eP(x:Str):Bool:=decide (2<=x.length)&&(decide (x.length<=9)&&CL x)
theorem Ig(h:eP x=true):2<=x.length/\x.length<=9:=by grind [eP]
theorem CO{α β:Type}{f:α->β}:∀{l:List α}{ys:List β},Paired (λi y=>y=f i) l ys->ys=l.map f
 |_,_,.nil=>rfl
 |_,_,.cons h t=>by rw[cF,<-CO t,h]
def aaZ(g:α->β)(d:α)(l:List α):(List.range l.length).map (λi=>g (l.getD i d))=l.map g:=by
 apply i6
 intro i
 rw[bF,bF]
 by_cases h:i<l.length
 .rw[rY h,bt h,i0,i0,cz,bt h,qi]
 .rw[di (by simpa using h),di (by simpa using h)]
  rfl
noncomputable def wD(d:Addr):List (Str×V):=aR "worths" (.ref d) []
def tZ(d:Addr):(wD d).lookup ("worths":Str)=some (.ref d):=by
 unfold wD
 rw[de,aC rfl]
def t9(d:Addr){m:Str}(h:¬m="worths"):(wD d).lookup m=none:=by
 unfold wD
 rw[de,au h]
 rfl
structure gL(C:Addr)(H:Hp)(p d:Addr)(kvs:List (Key×V)):Prop where
 ob:∃dx,H p=some (.ins C dx (wD d))
 dc:H d=some (.dK kvs)
 nd:(kvs.map (·.1)).Nodup
 tx:lZ kvs
def gL.mono{p d:Addr}(s:ag H H')(h:gL C H p d kvs):gL C H' p d kvs:=let ⟨⟨dx,e⟩,b,c,t⟩:=h;⟨⟨dx,s _ _ e⟩,s _ _ b,c,t⟩
def Pm(h:lZ kvs)(x:Str)(v:V)(e:aM kvs (Sum.inr x:Key)=none):lZ (putK kvs (Sum.inr x) v):=by
 rw[vK v e]
 intro q m
 rcases dR.mp m with z | z
 .exact h q z
 .rw[cJ.mp z];exact⟨x,rfl⟩
section
variable{P:Program}{w:World}{K:Frag}{mg:Str->Option Value}{base:Heap}{f:Addr}{fd:FuncData}
def Pn:Sp:=λvs H Q _=>∃(x:Str),vs=[.str x]/\x.length<=1000/\∀H',ag H H'->Q (.bl (eP x)) H'
theorem aa0(x:Str):pE x 2 9=eP x:=by grind [pE,eP]
def aa1:bu ["thing"] ["thing"] (aN (top 64)):={}
def aa2(Ih:Cn mg "LEAST_LETTERS" (.int 2))(Ii:Cn mg "MOST_LETTERS" (.int 9))(F:aZ K "is_word" "is_word" (top 64) f fd)(aa3:Fn P w K mg base "is_letters" 1 (Pl K)):aK P w K mg base aS 2 f fd ["thing"] Pn:=by
 refine F.bU aa1 λaF A outer s H vs Q E hr h=>?_
 obtain⟨x,rfl,hx,q⟩:=h
 refine⟨_,(aB (bg (bD aa3 hr (af (pv 0) (af (eM Ih (by rfl)) (af (eM Ii (by rfl)) aj)))))),?_⟩
 try dsimp only[bJ]
 refine⟨_,rfl,.inl ⟨x,2,9,rfl,hx,λH1 s1=>?_⟩⟩
 rw[aa0]
 exact q H1 s1
def Ij:Sp:=λvs H Q _=>∃(x:Str),vs=[.str x]/\eP x=true/\∀H',ag H H'->Q .aw H'
def aa4:bu ["thing"] ["thing"] (aN (top 63)):={}
theorem aa5(F:aZ K "need_word" "need_word" (top 63) f fd)(aa6:Fn P w K mg base "is_word" 2 Pn):aK P w K mg base aS 3 f fd ["thing"] Ij:=by
 refine F.bU aa4 λaF A outer s H vs Q E hr h=>?_
 obtain⟨x,rfl,hw,q⟩:=h
 have hl:=Ig hw
 refine⟨_,(aB (cn (j8 (jE (bD aa6 hr (af (pv 0) aj))))
  (aB Fq)
  cH)),?_⟩
 try dsimp only[bJ]
 refine⟨_,rfl,x,rfl,by lia,λH1 s1=>⟨_,rfl,?_⟩⟩
 rw[hw]
 exact bj (q H1 s1)
def Po(C:Addr):Sp:=λvs H Q _=>∃(p dx:Addr),vs=[.ref p]/\H p=some (.ins C dx [])/\∀(d:Addr) (H':Hp),H d=none->gL C H' p d []->(∀b o,H b=some o->b≠p->H' b=some o)->Q .aw H'
def aa7:bu ["self"] ["self"] (aN (inClass (top 62) 0)):={}
def aa8(F:aZ K "__init__" "Book.__init__" (inClass (top 62) 0) f fd)(T:cS K C)(nw:bQ K C "worths"):aK P w K mg base aS 1 f fd ["self"] (Po C):=by
 refine F.bU aa7 λaF A outer s H vs Q E hr h=>?_
 obtain⟨p,dx,rfl,hp,q⟩:=h
 refine⟨_,(aB (lJ (pv 0) BJ rfl)),?_⟩
 try dsimp only[bJ]
 intro d hd
 have wA:p≠d:=bh hp hd
 refine⟨_,rfl,p,C,dx,[],rfl,(by rw[ak wA];exact hp),T,nw,(by show 0<1000;decide),?_⟩
 refine q d _ hd ⟨⟨dx,ao⟩,by rw[ak wA.symm,ao],i4,λq m=>absurd m fU⟩ λb o e hb=>?_
 rw[ak hb,ak (bh e hd)]
 exact e
def Pp(C:Addr):Sp:=λvs H Q _=>∃(p d:Addr) (kvs:List (Key×V)) (x:Str) (v:V),vs=[.ref p,.str x]/\gL C H p d kvs/\eP x=true/\aM kvs (Sum.inr x:Key)=some v/\∀H',ag H H'->Q .aw H'
def aa9:bu ["self","word"] ["self","word"] (aN (inClass (top 62) 8)):={}
def aba(F:aZ K "need_there" "Book.need_there" (inClass (top 62) 8) f fd)(T:cS K C)(nw:bQ K C "worths")(Ik:Fn P w K mg base "need_word" 3 Ij):aK P w K mg base aS 4 f fd ["self","word"] (Pp C):=by
 refine F.bU aa9 λaF A outer s H vs Q E hr h=>?_
 refine hide λG_ aG=>?_
 obtain⟨p,d,kvs,x,v,rfl,S,hw,hv,q⟩:=h
 refine aG.k ?_
 have cX:=iy hr
 refine⟨_,(az (dZ (bD Ik hr (af (pv 1) aj)))
  (aB (cn (xR (MX cX (pv 1) (du (pv 0) rfl)))
  (aB Fq)
  cH))),?_⟩
 try dsimp only[bJ]
 refine⟨_,rfl,x,rfl,hw,λH1 s1=>?_⟩
 obtain⟨⟨dx,h1⟩,hd,_⟩:=S.mono s1
 refine⟨_,rfl,_,rfl,p,C,dx,_,_,rfl,h1,T,nw,tZ _,d,_,rfl,dQ.k (k:=Sum.inr x) hd,_,rfl,?_⟩
 rw[hv]
 exact bj (q H1 s1)
def CQ(C:Addr):Sp:=λvs H Q _=>∃(p d:Addr) (kvs:List (Key×V)) (x:Str) (v:V),vs=[.ref p,.str x,v]/\gL C H p d kvs/\eP x=true/\aM kvs (Sum.inr x:Key)=none/\kvs.length<=1000/\
 ∀H',gL C H' p d (putK kvs (Sum.inr x) v)->(∀b o,b≠d->H b=some o->H' b=some o)->Q .aw H'
def abb:bu ["self","word","worth"] ["self","word","worth"] (aN (inClass (top 62) 1)):={}
theorem Pq(F:nt K "put" "Book.put" (inClass (top 62) 1) f fd dv)(T:cS K C)(nw:bQ K C "worths")(Ik:Fn P w K mg base "need_word" 3 Ij):aK P w K mg base aS 4 f fd ["self","word","worth"] (CQ C):=by
 refine F.ok abb (λvs H Q E h=>?_) (λaF A outer s H vs Q E hr h=>?_)
 .refine hide λG_ aG=>?_
  obtain⟨p,d,kvs,x,v,rfl,_⟩:=h
  refine aG.k ?_
  rfl
 .refine hide λG_ bw=>?_
  obtain⟨p,d,kvs,x,v,rfl,S,hw,hv,hl,q⟩:=h
  refine bw.k ?_
  have cX:=iy hr
  refine⟨_,(az (dZ (bD Ik hr (af (pv 1) aj)))
   (az (cn (xR (BH cX (pv 1) (du (pv 0) rfl)))
   (aB Fq)
   cH)
   (aB (vM cX (du (pv 0) rfl) (pv 1) (pv 2) rfl)))),?_⟩
  try dsimp only[bJ]
  refine⟨_,rfl,x,rfl,hw,λH1 s1=>?_⟩
  obtain⟨⟨dx,h1⟩,hd,nd,tx⟩:=S.mono s1
  refine⟨_,rfl,_,rfl,p,C,dx,_,_,rfl,h1,T,nw,tZ _,d,_,rfl,dQ.k (k:=Sum.inr x) hd,_,rfl,?_⟩
  rw[hv]
  have wA:p≠d:=bS h1 hd (by intro z;cases z)
  refine bj ⟨_,rfl,_,rfl,p,C,dx,_,_,rfl,h1,T,nw,tZ _,_,rfl,d,_,rfl,kf.k (k:=Sum.inr x) hd (M4 (by lia)),?_⟩
  refine q _ ⟨⟨dx,by rw[ak wA];exact h1⟩,ao,WA v nd hv,Pm tx x v hv⟩ λb o hb e=>?_
  rw[ak hb]
  exact s1 _ _ e
def Pr(C:Addr):Sp:=λvs H Q _=>∃(p d:Addr) (kvs:List (Key×V)) (x:Str),vs=[.ref p,.str x]/\gL C H p d kvs/\Q (.bl (aM kvs (Sum.inr x:Key)).isSome) H
def abc:bu ["self","word"] ["self","word"] (aN (inClass (top 62) 7)):={}
def abd(F:aZ K "has" "Book.has" (inClass (top 62) 7) f fd)(T:cS K C)(nw:bQ K C "worths"):aK P w K mg base aS 1 f fd ["self","word"] (Pr C):=by
 refine F.bU abc λaF A outer s H vs Q E hr h=>?_
 refine hide λG_ aG=>?_
 obtain⟨p,d,kvs,x,rfl,S,q⟩:=h
 have cX:=iy hr
 obtain⟨⟨dx,h1⟩,hd,nd,tx⟩:=id S
 refine aG.k ?_
 refine⟨_,(aB (bg (Us (BH cX (pv 1) (du (pv 0) rfl))))),?_⟩
 try dsimp only[bJ]
 exact⟨_,rfl,_,rfl,p,C,dx,_,_,rfl,h1,T,nw,tZ _,d,_,rfl,dQ.k (k:=Sum.inr x) hd,q⟩
def Il(C:Addr):Sp:=λvs H Q _=>∃(p d:Addr) (kvs:List (Key×V)) (x:Str) (v:V),vs=[.ref p,.str x]/\gL C H p d kvs/\eP x=true/\aM kvs (Sum.inr x:Key)=some v/\∀H',ag H H'->Q v H'
def abe:bu ["self","word"] ["self","word"] (aN (inClass (top 62) 4)):={}
def abf(F:aZ K "worth" "Book.worth" (inClass (top 62) 4) f fd)(T:cS K C)(nw:bQ K C "worths")(Im:Mt P w K mg base C "need_there" 4 (Pp C) []):aK P w K mg base aS 5 f fd ["self","word"] (Il C):=by
 refine F.bU abe λaF A outer s H vs Q E hr h=>?_
 refine hide λG_ aG=>?_
 obtain⟨p,d,kvs,x,v,rfl,S,hw,hv,q⟩:=h
 have cX:=iy hr
 obtain⟨⟨zE,Oc⟩,_⟩:=id S
 refine aG.k ?_
 refine⟨_,(az (dZ (kj Im hr (pv 0) (af (pv 1) aj)))
  (aB (bg (BG cX (du (pv 0) rfl) (pv 1) (λ_ _=>rfl))))),?_⟩
 try dsimp only[bJ]
 refine⟨_,rfl,p,zE,_,rfl,Oc,t9 _ (by decide +kernel),_,rfl,p,d,kvs,x,v,rfl,S,hw,hv,λH1 s1=>?_⟩
 obtain⟨⟨dx,h1⟩,hd,nd,tx⟩:=S.mono s1
 exact⟨_,rfl,p,C,dx,_,_,rfl,h1,T,nw,tZ _,_,rfl,d,v,rfl,hv ▸ dQ.k (k:=Sum.inr x) hd,q H1 s1⟩
def Pt(C:Addr):Sp:=λvs H Q _=>∃(p d:Addr) (kvs:List (Key×V)),vs=[.ref p]/\gL C H p d kvs/\kvs.length<64/\∀l H',H l=none->ag H H'->H' l=some (.lst ((dg (aJ kvs)).map V.str))->Q (.ref l) H'
def abg:bu ["self"] ["self"] (aN (inClass (top 62) 3)):={}
def abh(B:Bl mg)(F:aZ K "words" "Book.words" (inClass (top 62) 3) f fd)(T:cS K C)(nw:bQ K C "worths"):aK P w K mg base aS 1 f fd ["self"] (Pt C):=by
 refine F.bU abg λaF A outer s H vs Q E hr h=>?_
 refine hide λG_ aG=>?_
 obtain⟨p,d,kvs,rfl,S,hl,q⟩:=h
 obtain⟨⟨dx,h1⟩,hd,nd,tx⟩:=id S
 refine aG.k ?_
 refine⟨_,(aB (bg (cL (XN rfl) (by rfl) B.Hx Ge (af (du (pv 0) rfl) aj)))),?_⟩
 try dsimp only[bJ]
 exact⟨_,rfl,p,C,dx,_,_,rfl,h1,T,nw,tZ _,d,kvs,rfl,hd,tx,hl,λl zF=>q l _ zF (ag.upd zF) ao⟩
end
noncomputable def ua(c d:Nat):Bool:=decide (d=46)||decide (d=c)
noncomputable def cO(x p:Str):Bool:=decide (x.length=p.length)&&(List.range x.length).all λi=>ua (x.cps.toList.getD i 0) (p.cps.toList.getD i 0)
theorem CT(n m:Nat):decide (V.str ⟨#[n]⟩=V.str ⟨#[m]⟩)=decide (n=m):=by grind
def abi:(".":Str)=⟨#[46]⟩:=by decide +kernel
def Io{l:List α}{x d:α}(h:l[i]? = some x):l.getD i d=x:=by rw[cz,h];rfl
def Pu(h:α->β)(d:α)(l:List α)(g:α->Bool):((List.range l.length).filter λi=>g (l.getD i d)).map (λi=>h (l.getD i d))=(l.filter g).map h:=by
 have e:((List.range l.length).map λi=>l.getD i d)=l:=by
  have:=aaZ (λx:α=>x) d l
  rw[this,List.map_id']
 conv=>rhs;rw[<-e]
 rw[EO,mV]
 rfl
def abj(h:lZ kvs)(e:(kvs.map λq=>kV q.1)[i]? = some v):∃x,v = .str x/\(aJ kvs)[i]? = some x:=by
 rw[bF] at e
 cases q:kvs[i]? with
 |none=>rw[q] at e;cases e
 |some y=>
  rw[q] at e
  obtain⟨x,hx⟩:=h y (bM q)
  have e:kV y.1=v:=dh e
  rw[hx] at e
  refine⟨x,e.symm,?_⟩
  unfold aJ
  rw[bF,q,i0,hx]
section
variable{P:Program}{w:World}{K:Frag}{mg:Str->Option Value}{base:Heap}{f:Addr}{fd:FuncData}
theorem abk{g:Nat->Bool}:(List.range (i+1)).all g=((List.range i).all g&&g i):=by grind
noncomputable def eV(p:Str)(n:Nat)(x:Str):Bool:=decide (x.length=p.length)&&(List.range n).all λi=>ua (x.cps.toList.getD i 0) (p.cps.toList.getD i 0)
def abl(x p:Str):eV p p.cps.size x=cO x p:=by
 unfold eV cO
 by_cases h:x.length=p.length
 .rw[aU h,h]
  rfl
 .rw[bf h,lj,lj]
def Pw(x p:Str)(n:Nat):eV p (n+1) x=(eV p n x&&ua (x.cps.toList.getD n 0) (p.cps.toList.getD n 0)):=by
 unfold eV
 rw[abk,Bool.and_assoc]
def Px:Sp:=λvs H Q _=>∃(d:Addr) (kvs:List (Key×V)) (pt:Str),vs=[.ref d,.str pt]/\H d=some (.dK kvs)/\lZ kvs/\kvs.length<=1000/\pt.length<=1000/\(∀x∈aJ kvs,x.length<=1000)/\
 ∀l H',H l=none->ag H H'->H' l=some (.lst (((aJ kvs).filter λx=>cO x pt).map V.str))->Q (.ref l) H'
theorem abm(x p:Str):decide (V.int (x.length:Int)=V.int (p.length:Int))=decide (x.length=p.length):=by grind
def wF:bu ["words","pattern","length","fits","at","sign"] ["words","pattern"] (aN (top 65)):={}
theorem abn(B:Bl mg)(F:aZ K "words_fitting" "words_fitting" (top 65) f fd)(iU:Cn mg "FREE" (.str ".")):aK P w K mg base aS 1 f fd ["words","pattern"] Px:=by
 refine F.bU wF λaF A outer s H vs Q E hr h=>?_
 refine hide λG_ aG=>?_
 obtain⟨d,kvs,pt,rfl,hd,tx,hl,hpt,hk,q⟩:=h
 refine aG.k ?_
 have nz:(aJ kvs).length=kvs.length:=by unfold aJ;rw[av]
 refine⟨_,(az (aX 2 wF.nd (cL qx (by rfl) B.gc fZ (af (pv 1) aj)))
  (az (XY (yo (i:=3) wF.nd rfl (Or.inl rfl) (js:=[2]) (ns:=["length"]) (XU (pv 0)) rfl rfl rfl rfl (λ_ _ _ _=>(oH (cK m4 (cL qx (by rfl) B.gc fZ (af (pv 0) aj)) (pv 1)))) (λ_ _ _ _=>(pv 0))))
  (az (dJ (Yu (by rfl) B.ze (af (pv 1) aj)) (om rfl (gy (cD 4 wF.nd) (gy (cD 5 wF.nd) oj)))
  (aB (cn (cK qu (pv 5) (eM iU (by rfl)))
   (aB (yo (i:=3) wF.nd rfl (Or.inl rfl) (js:=[5,4]) (ns:=["sign","at"]) (eD (pv 3)) rfl rfl rfl rfl (λ_ _ _ _=>(oH (cK m4 (bG oy (pv 0) (pv 2)) (pv 1)))) (λ_ _ _ _=>(pv 0))))
   cH)))
  (aB (bg (pv 3)))))),?_⟩
 try dsimp only[bJ]
 refine⟨_,rfl,pt,rfl,iA (by lia),?_⟩
 refine⟨d,kvs,hd,λob=>?_⟩
 refine⟨_,rfl,d,ob,kvs,rfl,ao,?_⟩
 refine nj XW (by rw[av];lia) (λi=>eV pt 0 ((aJ kvs).getD i ⟨#[]⟩)) (λ_ i y _=>y = .str ((aJ kvs).getD i ⟨#[]⟩)) (λH2 s2=>s2 _ _ ao) (λ_ _ _ _ _ _ _ _ h=>h) ?_ ?_
 .intro D i v H2 Z0 Z hD hv s2 _ k0 k1
  obtain⟨x,rfl,hx⟩:=abj tx hv
  have fQ:=hk x (bM hx)
  rw[Io hx] at k0 k1
  have e0:eV pt 0 x=decide (x.length=pt.length):=by unfold eV;rw[List.range_zero,List.all_nil,EM]
  refine⟨_,rfl,x,rfl,iA (by lia),_,rfl,rfl,_,rfl,?_⟩
  rw[abm,<-e0]
  refine iz (λh=>?_) (λh=>?_)
  .exact⟨_,rfl,k1 _ _ (ag.dM _) h rfl⟩
  .exact k0 _ (ag.dM _) (il.mpr h)
 .intro D ys H2 hD bO s2 pr
  have e:=CO pr
  rw[av,<-nz,Pu V.str ⟨#[]⟩ (aJ kvs) λx=>eV pt 0 x] at e
  have hd2:H2 d=some (.eC ob (.dK kvs)):=s2 _ _ ao
  have Py:D≠d:=λz=>by rw[z,ao] at hD;cases hD
  have zr:H D=none:=by rw[ak Py] at hD;exact hD
  refine⟨hd2,?_⟩
  have sm:ag H (upd H2 d (.dK kvs)):=λb o hb=>by
   by_cases z:b=d
   .subst z
    rw[hd] at hb
    rw[ao,hb]
   .rw[ak z]
    exact s2 _ _ (by rw[ak z];exact hb)
  have Pz:upd H2 d (.dK kvs) D=some (.lst (((aJ kvs).filter λx=>eV pt 0 x).map V.str)):=by rw[ak Py,bO,e]
  generalize upd H2 d (.dK kvs)=H3 at sm Pz
  refine⟨_,rfl,pt,rfl,?_⟩
  refine Yw (λi O H4=>∃p v4 v5,O=[some (.ref d),some (.str pt),some (.int pt.length),some (.ref p),v4,v5]/\H p=none/\ag H H4/\H4 p=some (.lst (((aJ kvs).filter λx=>eV pt i x).map V.str))) ⟨D,none,none,rfl,zr,sm,Pz⟩ ?_ ?_
  .intro i c t O H4 hc q8_ ht
   refine hide λG_ bw=>?_
   obtain⟨p,v4,v5,rfl,iC,fm,hp⟩:=q8_
   refine bw.k ?_
   have st:ag H4 (upd H4 t (.tup [.int i,.str ⟨#[c]⟩])):=ag.upd ht
   have hi:i<pt.length:=by rw[<-cV];exact(bR.mp hc).1
   have gp:pt.cps.toList.getD i 0=c:=Io hc
   refine⟨t,_,rfl,aA.of ao,rfl,_,_,rfl,_,_,rfl,rfl,?_⟩
   generalize upd H4 t (.tup [.int i,.str ⟨#[c]⟩])=H5 at st
   have pF:=st _ _ hp
   refine⟨_,rfl,rfl,_,rfl,?_⟩
   rw[abi,CT]
   by_cases dz:c=46
   .rw[aU dz]
    refine bj ⟨p,_,_,rfl,iC,fm.trans st,?_⟩
    have ef:(λx=>eV pt (i+1) x)=λx=>eV pt i x:=by
     funext x
     rw[Pw,gp]
     unfold ua
     rw[aU dz,Bool.true_or,EM]
    rw[ef]
    exact pF
   .rw[bf dz]
    refine bA ⟨_,rfl,p,rfl,⟨_,aq.of pF⟩,?_⟩
    have dN:((aJ kvs).filter λx=>eV pt i x).length<=1000:=bL (nY _ _) (by lia)
    refine nj kh (by rw[av];lia) (λj=>decide ((((aJ kvs).filter λx=>eV pt i x).getD j ⟨#[]⟩).cps.toList.getD i 0=c)) (λ_ j y _=>y = .str (((aJ kvs).filter λx=>eV pt i x).getD j ⟨#[]⟩)) (λH6 s6=>aq.of (s6 _ _ pF)) (λ_ _ _ _ _ _ _ _ h=>h) ?_ ?_
    .intro D2 j v H6 Z0 Z PF hv s6 _ k0 k1
     rw[bF] at hv
     cases e:((aJ kvs).filter λx=>eV pt i x)[j]? with
     |none=>rw[e] at hv;cases hv
     |some x=>
      rw[e] at hv
      cases hv
      rw[Io e] at k0 k1
      have mx:=da.mp (bM e)
      have fQ:x.length=pt.length:=by
       have:=mx.2
       unfold eV at this
       rw[d7] at this
       exact gr this.1
      have hgx:x.cps.toList[i]? = some (x.cps.toList.getD i 0):=by
       rw[cz,bt (by rw[cV];lia)]
       rfl
      refine⟨_,rfl,_,rfl,x,_,_,rfl,rfl,iA (by lia),eF hgx,_,rfl,rfl,_,rfl,?_⟩
      rw[CT]
      refine iz (λh=>?_) (λh=>?_)
      .exact⟨_,rfl,k1 _ _ (ag.dM _) h rfl⟩
      .exact k0 _ (ag.dM _) (il.mpr h)
    .intro D2 zs H6 PF abo s6 pr2
     have e2:=CO pr2
     rw[av,Pu V.str ⟨#[]⟩ ((aJ kvs).filter λx=>eV pt i x) λx=>decide (x.cps.toList.getD i 0=c)] at e2
     refine⟨D2,_,_,rfl,(fm.trans st).free PF,fm.trans (st.trans s6),?_⟩
     rw[abo,e2,List.filter_filter]
     have ef:(λx:Str=>decide (x.cps.toList.getD i 0=c)&&eV pt i x)=λx=>eV pt (i+1) x:=by
      funext x
      rw[Pw,gp,Bool.and_comm]
      unfold ua
      rw[bf dz,Bool.false_or]
      congr 1
      by_cases h:x.cps.toList.getD i 0=c
      .rw[aU h,aU h.symm]
      .rw[bf h,bf (aP h)]
     rw[ef]
  .intro O H4 q9_
   refine hide λG_ cq=>?_
   obtain⟨p,v4,v5,rfl,iC,fm,hp⟩:=q9_
   refine cq.k ?_
   refine⟨_,rfl,q p H4 iC fm ?_⟩
   have ef:(λx=>eV pt pt.cps.size x)=λx=>cO x pt:=by funext x;exact abl x pt
   rw[ef] at hp
   exact hp
def PH(C:Addr):Sp:=λvs H Q _=>∃(p d:Addr) (kvs:List (Key×V)) (pt:Str),vs=[.ref p,.str pt]/\gL C H p d kvs/\kvs.length<64/\pt.length<=1000/\(∀x∈aJ kvs,x.length<=1000)/\
 ∀l H',H l=none->ag H H'->H' l=some (.lst ((dg ((aJ kvs).filter λx=>cO x pt)).map V.str))->Q (.ref l) H'
def abp:bu ["self","pattern"] ["self","pattern"] (aN (inClass (top 62) 5)):={}
theorem abq(B:Bl mg)(F:aZ K "fitting" "Book.fitting" (inClass (top 62) 5) f fd)(T:cS K C)(nw:bQ K C "worths")(abr:Fn P w K mg base "words_fitting" 1 Px):aK P w K mg base aS 2 f fd ["self","pattern"] (PH C):=by
 refine F.bU abp λaF A outer s H vs Q E hr h=>?_
 refine hide λG_ aG=>?_
 obtain⟨p,d,kvs,pt,rfl,S,hl,hpt,hk,q⟩:=h
 obtain⟨⟨dx,h1⟩,hd,nd,tx⟩:=id S
 refine aG.k ?_
 have nz:(aJ kvs).length=kvs.length:=by unfold aJ;rw[av]
 refine⟨_,(aB (bg (cL XJ (by rfl) B.Hx Ge (af (bD abr hr (af (du (pv 0) rfl) (af (pv 1) aj))) aj)))),?_⟩
 try dsimp only[bJ]
 refine⟨_,rfl,p,C,dx,_,_,rfl,h1,T,nw,tZ _,_,rfl,d,kvs,pt,rfl,hd,tx,by lia,hpt,hk,λg H1 hg s1 hL=>?_⟩
 exact⟨g,_,rfl,aq.of hL,lr (nY _ _) (by lia),λl zF=>q l _ (s1.free zF) (s1.trans (ag.upd zF)) ao⟩
end
noncomputable def runC(op:C2->Bool)(d c:C2):List C2:=if iB op d c=true then [] else line c d (runN op d 10 c)
def abt(op:C2->Bool)(d c:C2):bo op d c=if (runC op d c).length<2 then [] else runC op d c:=by
 unfold bo runC
 split
 .rfl
 .rw[wq]
noncomputable def bp(k:Nat):C2:=(k,1 - k)
noncomputable def iG(l:List Str)(w k n:Nat):List (List C2):=(((cells l.length w).take n).map (bo (aO l w) (bp k))).filter (λr=>!r.isEmpty)
def abu{k:Nat}(hi:i<l.length)(hj:j<w):iG l w k (i*w+(j+1))=iG l w k (i*w+j)++if (bo (aO l w) (bp k) (i,j)).isEmpty=true then [] else [bo (aO l w) (bp k) (i,j)]:=by
 unfold iG
 rw[show i*w+(j+1)=i*w+j+1 from rfl,OJ hi hj,fG,vh,cF,EI,fH,AZ]
 cases(bo (aO l w) (bp k) (i,j)).isEmpty <;> rfl
noncomputable def kP(l:List Str)(w k:Nat):List (List C2):=iG l w k (l.length*w)
noncomputable def aV(l:List Str)(w:Nat):List (List C2):=kP l w 0++kP l w 1
theorem CU(op:C2->Bool)(f:C2->List C2):∀(n:Nat) (cs:List C2),(dO op f n cs).map (·.2)=(cs.map f).filter λr=>!r.isEmpty
 |n,[]=>rfl
 |n,c::r=>by
  unfold dO
  rw[cF,fH]
  cases h:(f c).isEmpty with
  |true=>
   rw[aC rfl,CU op f _ r]
   rfl
  |false=>
   rw[au cy,cF,CU op f _ r]
   rfl
def abv{op:C2->Bool}(h:op c=false):bo op d c=[]:=by
 unfold bo
 have:runN op d 10 c=0:=by
  unfold runN
  rw[h,au cy]
 rw[this]
 split
 .rfl
 .rw[aC (by decide)]
def PJ(d:C2):((bZ l w).map (bo (aO l w) d)).filter (λr=>!r.isEmpty)=((cells l.length w).map (bo (aO l w) d)).filter (λr=>!r.isEmpty):=by
 unfold bZ
 have:∀cs:List C2,(∀c∈cs,c.1<l.length/\c.2<w)->((cs.filter (cN l)).map (bo (aO l w) d)).filter (λr=>!r.isEmpty)=(cs.map (bo (aO l w) d)).filter (λr=>!r.isEmpty):=by
  intro cs
  induction cs with
  |nil=>intro _;rfl
  |cons c r ih=>
   intro h
   have hc:=h c bK
   have ih:=ih λx m=>h x (cW _ m)
   rw[fH,cF,fH]
   cases ho:cN l c with
   |true=>
    rw[aC rfl,cF,fH,ih]
   |false=>
    rw[au cy,ih,abv (by rw[wt hc.1 hc.2];exact ho)]
    rfl
 exact this _ λc m=>tS m
def qU(l:List Str)(w:Nat):aV l w=(dy l w).map (·.2):=by
 unfold aV kP iG dy qO qP
 rw[fG,CU,CU,PJ,PJ,gs (by rw[mf];exact aQ _)]
 rfl
def CV(g:Addr)(H:Hp)(r:List C2)(x:V):Prop := ∃p ys,x = .ref p/\p≠g/\H p=some (.lst ys)/\bC H r ys
theorem CV.mono{g:Addr}{H H':Hp}{r:List C2}{x:V}(s:ag H H')(h:CV g H r x):CV g H' r x:=let ⟨p,ys,e,n,a,b⟩:=h;⟨p,ys,e,n,s _ _ a,b.mono s⟩
abbrev jm(g:Addr)(H:Hp):List (List C2)->List V->Prop:=Paired (CV g H)
theorem jm.mono{g:Addr}{H H':Hp}{rs:List (List C2)}{xs:List V}(s:ag H H')(h:jm g H rs xs):jm g H' rs xs:=Paired.bE h λ_ _ q=>q.mono s
theorem jm.off{g:Addr}{H H':Hp}{rs:List (List C2)}{xs:List V}(hg:∃o,H g=some (.lst o))(k:∀b o,b≠g->H b=some o->H' b=some o)(h:jm g H rs xs):jm g H' rs xs:=
 Paired.bE h λ_ _ ⟨p,ys,e,n,a,b⟩=>⟨p,ys,e,n,k _ _ n a,bC.off hg k b⟩
section
variable{P:Program}{w:World}{K:Frag}{mg:Str->Option Value}{base:Heap}{f:Addr}{fd:FuncData}
def PK(K:Frag):Sp:=λvs H Q _=>∃(a:Addr) (l:List Str) (w:Nat) (i j:Int),vs=[.ref a,.int i,.int j]/\aA K H a (l.map V.str)/\bH l w/\Q (.bl (jF l w i j)) H
def abw:bu ["_law_sheet_here","_law_line","_law_column"] ["_law_sheet_here","_law_line","_law_column"] (aN (top 71)):={}
theorem abx(B:Bl mg)(F:aZ K "_law_open" "_law_open" (top 71) f fd):aK P w K mg base aS 1 f fd ["_law_sheet_here","_law_line","_law_column"] (PK K):=by
 refine F.bU abw λaF A outer s H vs Q E hr h=>?_
 refine hide λG_ aG=>?_
 obtain⟨a,l,wd,i,j,rfl,hT,S,q⟩:=h
 obtain⟨x0,oV,Cr,wx,_⟩:=S.row (i:=0) S.one
 refine aG.k ?_
 have h9:=S.nine
 have hw:=S.w9
 refine⟨_,(az (cn (PW.pt (xS (Bt sJ qv aI (pv 1) (cL lQ (by rfl) B.gc fZ (af (pv 0) aj))) (Fi (Bt sJ qv aI (pv 2) (cL qx (by rfl) B.gc fZ (af (bG cY (pv 0) aI) aj))))))
  (aB (bg (vE qu (bG oy (bG cY (pv 0) (pv 1)) (pv 2)) fW)))
  cH)
  (aB (bg jc))),?_⟩
 try dsimp only[bJ]
 unfold jF at q
 refine⟨_,rfl,_,_,rfl,rfl,_,rfl,?_⟩
 by_cases h0:(0:Int)<=i
 .rw[aU h0] at q ⊢
  refine bA ⟨_,rfl,a,_,rfl,.inr hT,_,_,rfl,rfl,_,rfl,?_⟩
  rw[av]
  by_cases h1:i<(l.length:Int)
  .rw[aU h1] at q ⊢
   refine bA ⟨_,rfl,_,_,rfl,rfl,_,rfl,?_⟩
   by_cases h2:(0:Int)<=j
   .rw[aU h2] at q ⊢
    refine bA ⟨_,rfl,a,_,0,.str x0,rfl,rfl,hT,qQ oV,x0,rfl,kL (by lia),_,_,rfl,rfl,_,rfl,?_⟩
    rw[wx]
    by_cases h3:j<(wd:Int)
    .rw[aU h3] at q ⊢
     refine hide λG_ bw=>?_
     obtain⟨i',rfl⟩:=vm h0
     obtain⟨j',rfl⟩:=vm h2
     rw[iZ,iZ] at q
     obtain⟨x,hx,mx,lx,_,hj⟩:=S.row (i:=i') (by lia)
     refine bw.k ?_
     refine bA ⟨_,rfl,_,rfl,a,_,_,.str x,rfl,rfl,hT,qQ hx,_,rfl,x,_,sg l (i',j'),rfl,rfl,kL (by lia),eF (hj j' (by lia)),rfl,?_⟩
     rw[zf,HG]
     exact q
    .rw[bf h3] at q ⊢
     exact bj q
   .rw[bf h2] at q ⊢
    exact bj ⟨_,rfl,bj q⟩
  .rw[bf h1] at q ⊢
   exact bj (bj q)
 .rw[bf h0] at q ⊢
  exact bj ⟨_,rfl,bj (bj q)⟩
def PL(K:Frag)(a p:Addr)(H:Hp)(l:List Str)(wd:Nat)(c:C2)(k:Nat):Nat->St->Hp->Prop:=λm O H2=>∃n xs,m=10 - n/\n<=9/\O=[some (.ref a),some (.int (go c (bp k) n).1),some (.int (go c (bp k) n).2),some (.int k),some (.ref p)]/\ag H H2/\
 H2 p=some (.lst xs)/\bC H2 (line c (bp k) n) xs/\∀j,j<n->aO l wd (go c (bp k) j)=true
def PM(K:Frag):Sp:=λvs H Q _=>∃(a:Addr) (l:List Str) (w:Nat) (c:C2) (k:Nat),vs=[.ref a,.int c.1,.int c.2,.int k]/\aA K H a (l.map V.str)/\bH l w/\k<=1/\
 ∀p xs H',H p=none->ag H H'->H' p=some (.lst xs)->bC H' (runC (aO l w) (bp k) c) xs->Q (.ref p) H'
def CY:bu ["_law_sheet_here","_law_line","_law_column","_law_down","_law_cells"] ["_law_sheet_here","_law_line","_law_column","_law_down"] (aN (top 72)):={}
theorem aby(F:aZ K "_law_run" "_law_run" (top 72) f fd)(PN:Fn P w K mg base "_law_open" 1 (PK K)):aK P w K mg base aS 2 f fd ["_law_sheet_here","_law_line","_law_column","_law_down"] (PM K):=by
 refine F.bU CY λaF A outer s H vs Q E hr h=>?_
 refine hide λG_ aG=>?_
 obtain⟨a,l,wd,c,k,rfl,hT,S,hk,q⟩:=h
 refine aG.k ?_
 have h9:=S.nine
 have hw:=S.w9
 refine⟨_,(az (aX 4 CY.nd (eE aj))
  (az (cn (jE (bD PN hr (af (pv 0) (af (bz lI (pv 1) (pv 3)) (af (bz gC (bz lI (pv 2) aI) (pv 3)) aj)))))
  (aB (bg (pv 4)))
  cH)
  (az (L4 PassesOwn.never (jE (bD PN hr (af (pv 0) (af (pv 1) (af (pv 2) aj)))))
  (az (dZ (gE j6 lA lB jf (pv 4) (af (eZ (af (pv 1) (af (pv 2) aj))) aj)))
   (az (aX 1 CY.nd (bz gC (pv 1) (pv 3)))
   (aB (aX 2 CY.nd (bz lI (bz gC (pv 2) aI) (pv 3)))))))
  (aB (bg (pv 4)))))),?_⟩
 try dsimp only[bJ]
 refine⟨bW _,λp hp=>?_⟩
 have dX:=ag.upd (o:=HO.lst []) hp
 have PQ:((1 - k:Nat):Int)=1 - (k:Int):=by lia
 have PR:=OZ l wd c (bp k)
 have e2:(c.2:Int) - (((bp k).2:Nat):Int)=(c.2:Int) - 1+(k:Int):=by show(c.2:Int) - ((1 - k:Nat):Int)=_;lia
 rw[e2] at PR
 refine⟨_,rfl,_,rfl,_,rfl,_,_,rfl,rfl,_,rfl,_,_,rfl,rfl,_,rfl,_,_,rfl,rfl,a,l,wd,_,_,rfl,dX.tup hT,S,_,rfl,?_⟩
 rw[show(c.1:Int) - (k:Int)=(c.1:Int) - (((bp k).1:Nat):Int) from rfl,PR]
 refine iz (λkr=>?_) (λkr=>?_)
 .refine⟨_,rfl,q p [] _ hp dX ao ?_⟩
  unfold runC
  rw[aC kr]
  exact .nil
 .refine⟨PL K a p H l wd c k,⟨10,0,[],rfl,by lia,by rw[jk];rfl,dX,ao,.nil,λj hj=>absurd hj (jz _)⟩,?_⟩
  intro m O H2 abz
  refine hide λG_ bw=>?_
  obtain⟨n,xs,rfl,hn,rfl,sm,hL,hC,ho⟩:=abz
  refine bw.k ?_
  refine⟨_,rfl,_,rfl,_,rfl,a,l,wd,_,_,rfl,sm.tup hT,S,_,rfl,?_⟩
  rw[HK]
  have hlen:xs.length=n:=by rw[<-hC.length,wq]
  refine iz (λkN=>?_) (λkN=>?_)
  .have hn8:n<=8:=by
    obtain⟨o1,o2,_⟩:=qN kN
    simp only[go,bp] at o1 o2
    rcases(by lia:k=0\/k=1) with rfl | rfl
    .simp only[Nat.sub_zero,i8] at o2
     lia
    .simp only[i8] at o1
     lia
   refine⟨λO' H' =>∃m',m'<10 - n/\PL K a p H l wd c k m' O' H',λ_ _ z=>z,?_⟩
   refine⟨_,rfl,.inl ⟨rfl,_,aq.of hL⟩,_,rfl,_,rfl,by show 2<=sizeLine;decide,λt ht=>?_⟩
   have nF:t≠p:=aP (bh hL ht)
   have tt:=ag.upd (o:=HO.tup [V.int ((go c (bp k) n).1:Nat),V.int ((go c (bp k) n).2:Nat)]) ht
   refine⟨p,xs,_,rfl,rfl,tt _ _ hL,wu (by lia),?_⟩
   refine⟨_,rfl,_,rfl,_,_,rfl,rfl,_,rfl,_,_,rfl,rfl,_,rfl,_,_,rfl,rfl,?_⟩
   refine⟨10 - (n+1),by lia,n+1,xs++[.ref t],rfl,by lia,?_,(sm.trans tt).nh hp,ao,?_,?_⟩
   .rw[go_succ]
    have g1:(((go c (bp k) n).1+(bp k).1:Nat):Int)=((go c (bp k) n).1:Int)+(k:Int):=by show(((go c (bp k) n).1+k:Nat):Int)=_;lia
    have g2:(((go c (bp k) n).2+(bp k).2:Nat):Int)=((go c (bp k) n).2:Int)+1 - (k:Int):=by show(((go c (bp k) n).2+(1 - k):Nat):Int)=_;lia
    simp only[g1,g2]
    rfl
   .rw[OL]
    have off:∀b o,b≠p->upd H2 t (HO.tup [V.int ((go c (bp k) n).1:Nat),V.int ((go c (bp k) n).2:Nat)]) b=some o->upd (upd H2 t (HO.tup [V.int ((go c (bp k) n).1:Nat),V.int ((go c (bp k) n).2:Nat)])) p (.lst (xs++[.ref t])) b=some o:=λb o hb z=>by rw[ak hb];exact z
    exact qh (bC.off ⟨xs,tt _ _ hL⟩ off (hC.mono tt)) ⟨t,rfl,off _ _ nF ao⟩
   .intro j hj
    rcases r6.mp hj with z | z
    .exact ho j z
    .rw[z];exact kN
  .have Ct:runN (aO l wd) (bp k) 10 c=n:=Ho (by lia) ho (il.mpr kN)
   refine⟨_,rfl,q p xs H2 hp sm hL ?_⟩
   unfold runC
   rw[au kr,Ct]
   exact hC
def PU(K:Frag):Sp:=λvs H Q _=>∃(a:Addr) (l:List Str) (w:Nat),vs=[.ref a]/\aA K H a (l.map V.str)/\bH l w/\
 ∀g xs H',H g=none->ag H H'->H' g=some (.lst xs)->jm g H' (aV l w) xs->Q (.ref g) H'
theorem Ip(l:List Str)(w k n:Nat):(iG l w k n).length<=(cells l.length w).length:=by grind [cells,iG]
noncomputable def CZ(l:List Str)(w:Nat):Nat->List (List C2)
 |0=>[]
 |1=>kP l w 0
 |_=>aV l w
noncomputable def nI(l:List Str)(w k n:Nat):List (List C2):=CZ l w k++iG l w k n
def wG:bu ["_law_sheet_here","_law_rows_here","_law_down","_law_line","_law_column","_law_cells"] ["_law_sheet_here"] (aN (top 73)):={}
theorem abA(B:Bl mg)(F:aZ K "_law_rows" "_law_rows" (top 73) f fd)(abB:Fn P w K mg base "_law_run" 2 (PM K)):aK P w K mg base aS 3 f fd ["_law_sheet_here"] (PU K):=by
 refine F.bU wG λaF A outer s H vs Q E hr h=>?_
 refine hide λG_ aG=>?_
 obtain⟨a,l,wd,rfl,hT,S,q⟩:=h
 have h9:=S.nine
 have hw:=S.w9
 have tU:=wm S
 obtain⟨x0,oV,Cr,wx,_⟩:=S.row (i:=0) S.one
 refine aG.k ?_
 refine⟨_,(az (aX 1 wG.nd (eE aj))
  (az (dJ (lH (by rfl) B.mh (af aI aj)) (cD 2 wG.nd)
  (aB (dJ (lH (by rfl) B.mh (af (cL lQ (by rfl) B.gc fZ (af (pv 0) aj)) aj)) (cD 3 wG.nd)
   (aB (dJ (lH (by rfl) B.mh (af (cL qx (by rfl) B.gc fZ (af (bG cY (pv 0) aI) aj)) aj)) (cD 4 wG.nd)
    (az (aX 5 wG.nd (bD abB hr (af (pv 0) (af (pv 3) (af (pv 4) (af (pv 2) aj))))))
     (aB (cn (cK Mf (cL lQ (by rfl) B.gc fZ (af (pv 5) aj)) aI)
     (aB (dZ (gE j6 lA lB jf (pv 1) (af (pv 5) aj))))
     cH))))))))
  (aB (bg (pv 1))))),?_⟩
 try dsimp only[bJ]
 refine⟨bW _,λg hg=>?_⟩
 have dX:=ag.upd (o:=HO.lst []) hg
 have abC:∀k n,(nI l wd k n).length<=300:=λk n=>by
  unfold nI
  have h1:=Ip l wd k n
  have h2:(kP l wd 0).length<=81:=bL (Ip l wd 0 _) tU
  have h3:(CZ l wd k).length<=162:=by
   match k with
   |0=>exact bW _
   |1=>show(kP l wd 0).length<=_;lia
   |k+2=>
    show(aV l wd).length<=_
    unfold aV
    have h2:(kP l wd 1).length<=81:=bL (Ip l wd 1 _) tU
    rw[d6]
    lia
  rw[d6]
  lia
 refine⟨_,rfl,by decide,by decide,qC (n:=2) (λk O H2=>∃v2 v3 v4 v5 xs,O=[some (.ref a),some (.ref g),v2,v3,v4,v5]/\ag H H2/\H2 g=some (.lst xs)/\jm g H2 (CZ l wd k) xs)
  ⟨none,none,none,none,[],rfl,dX,ao,.nil⟩ ?_ ?_⟩
 .intro k O H2 hk abD
  refine hide λG_ bw=>?_
  obtain⟨v2,v3,v4,v5,xs,rfl,sm,hL,hC⟩:=abD
  refine bw.k ?_
  refine⟨_,rfl,a,_,rfl,.inr (sm.tup hT),_,rfl,by rw[av];lia,by rw[av];lia,?_⟩
  rw[iZ,av]
  refine qC (λi O H3=>∃v3 v4 v5 xs,O=[some (.ref a),some (.ref g),some (.int k),v3,v4,v5]/\ag H H3/\H3 g=some (.lst xs)/\jm g H3 (nI l wd k (i*wd)) xs)
   ⟨v3,v4,v5,xs,rfl,sm,hL,by unfold nI iG;rw[Nat.zero_mul,mS];simpa using hC⟩ ?_ ?_
  .intro i O H3 hi abE
   refine hide λG_ cq=>?_
   obtain⟨v3,v4,v5,ys,rfl,kM,pB,gJ⟩:=abE
   refine cq.k ?_
   refine⟨_,rfl,a,_,0,.str x0,rfl,rfl,kM.tup hT,qQ oV,x0,rfl,kL (by lia),_,rfl,by lia,by lia,?_⟩
   rw[iZ,wx]
   refine qC (λj O H4=>∃v4 v5 xs,O=[some (.ref a),some (.ref g),some (.int k),some (.int i),v4,v5]/\ag H H4/\H4 g=some (.lst xs)/\jm g H4 (nI l wd k (i*wd+j)) xs)
    ⟨v4,v5,ys,rfl,kM,pB,gJ⟩ ?_ ?_
   .intro j O H4 hj abF
    refine hide λG_ dE=>?_
    obtain⟨v4,v5,zs,rfl,fm,ub,uc⟩:=abF
    refine dE.k ?_
    refine⟨_,rfl,_,rfl,_,rfl,_,rfl,a,l,wd,(i,j),k,rfl,fm.tup hT,S,by lia,λp us H5 hp s5 hP PV=>?_⟩
    have zG:=s5 _ _ ub
    have PY:p≠g:=λz=>by rw[z,ub] at hp;cases hp
    have Iq:=PV.length
    have e1:nI l wd k (i*wd+(j+1))=nI l wd k (i*wd+j)++if (bo (aO l wd) (bp k) (i,j)).isEmpty=true then [] else [bo (aO l wd) (bp k) (i,j)]:=by
     unfold nI
     rw[abu hi hj,n9]
    have e2:=abt (aO l wd) (bp k) (i,j)
    refine⟨_,rfl,p,_,rfl,.inl (aq.of hP),_,_,rfl,rfl,_,rfl,iz (λh1=>?_) (λh1=>?_)⟩
    .have h1:(1:Int)<(us.length:Int):=gr h1
     have hz:=uc.length
     have vJ:=abC k (i*wd+j)
     refine⟨_,rfl,.inl ⟨rfl,_,aq.of zG⟩,_,rfl,g,zs,_,rfl,rfl,zG,wu (by lia),?_⟩
     refine⟨_,_,_,rfl,(fm.trans s5).nh hg,ao,?_⟩
     rw[au (by lia)] at e2
     have aT:(bo (aO l wd) (bp k) (i,j)).isEmpty=false:=by
      rw[e2]
      cases kQ:runC (aO l wd) (bp k) (i,j) with
      |nil=>
       exfalso
       rw[kQ] at Iq
       have Iq:0=us.length:=Iq
       lia
      |cons _ _=>rfl
     rw[e1,au (by rw[aT];exact cy),e2]
     have off:∀b o,b≠g->H5 b=some o->upd H5 g (.lst (zs++[.ref p])) b=some o:=λb o hb z=>by rw[ak hb];exact z
     exact qh (jm.off ⟨zs,zG⟩ off (jm.mono s5 uc)) ⟨p,us,rfl,PY,off _ _ PY hP,bC.off ⟨zs,zG⟩ off PV⟩
    .have h1:¬(1:Int)<(us.length:Int):=λz=>h1 (aU z)
     rw[aC (by lia)] at e2
     refine⟨_,_,zs,rfl,fm.trans s5,zG,?_⟩
     rw[e1,e2,aC (show([]:List C2).isEmpty=true from rfl),dS]
     exact jm.mono s5 uc
   .intro O H4 abG
    refine hide λG_ hU=>?_
    obtain⟨v4,v5,zs,rfl,fm,ub,uc⟩:=abG
    refine hU.k ?_
    refine⟨_,_,_,zs,rfl,fm,ub,?_⟩
    rw[lz]
    exact uc
  .intro O H3 abH
   refine hide λG_ ml=>?_
   obtain⟨v3,v4,v5,ys,rfl,kM,pB,gJ⟩:=abH
   refine ml.k ?_
   refine⟨_,_,_,_,ys,rfl,kM,pB,?_⟩
   have e3:nI l wd k (l.length*wd)=CZ l wd (k+1):=by
    rcases(by lia:k=0\/k=1) with rfl | rfl
    .unfold nI
     exact Be _
    .rfl
   rw[<-e3]
   exact gJ
 .intro O H2 abI
  refine hide λG_ mn=>?_
  obtain⟨v2,v3,v4,v5,xs,rfl,sm,hL,hC⟩:=abI
  refine mn.k ?_
  exact⟨_,rfl,q g xs H2 hg sm hL hC⟩
end
noncomputable def putL(l:List Str):List C2->List Nat->List Str
 |c::cs,x::xs=>putL (setC l c x) cs xs
 |_,_=>l
def C1(l:List Str):∀(cs:List C2) (xs:List Nat) (i:Nat) (c:C2) (x:Nat),cs[i]? = some c->xs[i]? = some x->putL l (cs.take (i+1)) (xs.take (i+1))=setC (putL l (cs.take i) (xs.take i)) c x:=by
 intro cs
 induction cs generalizing l with
 |nil=>intro xs i c x h;simp at h
 |cons d r ih=>
  intro xs i c x h1 h2
  cases xs with
  |nil=>simp at h2
  |cons y s=>
   cases i with
   |zero=>
    have h1:d=c:=by simpa using h1
    have h2:y=x:=by simpa using h2
    subst h1 h2
    rfl
   |succ i=>
    have h1:r[i]? = some c:=by simpa using h1
    have h2:s[i]? = some x:=by simpa using h2
    exact ih (setC l d y) s i c x h1 h2
theorem abJ(l:List Str):∀(cs:List C2) (xs:List Nat),putL l (cs.take (min cs.length xs.length)) (xs.take (min cs.length xs.length))=putL l cs xs:=by
 intro cs
 induction cs generalizing l with
 |nil=>intro xs;simp[putL]
 |cons d r ih=>
  intro xs
  cases xs with
  |nil=>simp[putL]
  |cons y s=>
   have e:min (d::r).length (y::s).length=min r.length s.length+1:=by simp only[eJ];lia
   rw[e]
   exact ih (setC l d y) s
section
variable{P:Program}{w:World}{K:Frag}{mg:Str->Option Value}{base:Heap}{f:Addr}{fd:FuncData}
def PZ(K:Frag):Sp:=λvs H Q _=>∃(a t:Addr) (l:List Str) (w:Nat) (cs:List C2) (xs:List V) (x:Str),vs=[.ref a,.ref t,.str x]/\H a=some (.tup (l.map V.str))/\fq l w/\H t=some (.tup xs)/\bC H cs xs/\(∀c∈cs,c.1<l.length/\c.2<w)/\
 ∀p H',ag H H'->H' p=some (.tup ((putL l cs x.cps.toList).map V.str))->Q (.ref p) H'
def zH:bu ["sheet","cells","word","after","cell","letter"] ["sheet","cells","word"] (aN (top 37)):={}
def abK(B:Bl mg)(F:aZ K "put_word" "put_word" (top 37) f fd)(Ir:Fn P w K mg base "with_sign" 1 (Ic K)):aK P w K mg base aS 2 f fd ["sheet","cells","word"] (PZ K):=by
 refine F.bU zH λaF A outer s H vs Q E hr h=>?_
 refine hide λG_ aG=>?_
 obtain⟨a,t,l,wd,cs,xs,x,rfl,hT,S,ht,hC,cI,q⟩:=h
 refine aG.k ?_
 have qI:=hC.length
 have lx:x.cps.toList.length=x.length:=cV x
 refine⟨_,(az (aX 3 zH.nd (pv 0))
  (az (dJ (GB .T .S (by rfl) B.Hy (af (pv 1) (af (pv 2) aj))) (om rfl (gy (cD 4 zH.nd) (gy (cD 5 zH.nd) oj)))
  (aB (aX 3 zH.nd (bD Ir hr (af (pv 3) (af (pv 4) (af (pv 5) aj)))))))
  (aB (bg (pv 3))))),?_⟩
 try dsimp only[bJ]
 refine⟨_,rfl,?_⟩
 refine⟨_,rfl,_,rfl,_,_,rfl,⟨_,t,rfl,aA.of ht⟩,⟨_,x,rfl,rfl⟩,?_⟩
 refine GC (K:=K) (k1 := .T) (k2 := .S) (xs:=xs) (ys:=x.cps.toList.map λc=>V.str ⟨#[c]⟩) (λi O H2=>∃p v4 v5,O=[some (.ref a),some (.ref t),some (.str x),some (.ref p),v4,v5]/\ag H H2/\H2 p=some (.tup ((putL l (cs.take i) (x.cps.toList.take i)).map V.str))/\fq (putL l (cs.take i) (x.cps.toList.take i)) wd/\(putL l (cs.take i) (x.cps.toList.take i)).length=l.length)
  ⟨a,none,none,rfl,ag.dM _,hT,S,rfl⟩ (λi O H2 _ h=>?_) ?_ ?_
 .refine hide λG_ bw=>?_
  obtain⟨p,v4,v5,rfl,sm,_⟩:=h
  refine bw.k ?_
  exact⟨⟨_,rfl,aA.of (sm _ _ ht)⟩,_,rfl,rfl⟩
 .intro i y cv p O H2 hy mw abL hp
  refine hide λG_ cq=>?_
  obtain⟨p0,v4,v5,rfl,sm,hP,G,hl⟩:=abL
  rw[bF] at mw
  obtain⟨c,hc,rfl⟩:=i3.mp mw
  obtain⟨cc,hcc,b,rfl,hb⟩:=Paired.get hC hy
  refine cq.k ?_
  have jP:=cI cc (bM hcc)
  have tp:=ag.upd (o:=HO.tup [V.ref b,V.str ⟨#[c]⟩]) hp
  refine⟨p,_,rfl,aA.of ao,rfl,_,_,rfl,_,_,rfl,rfl,?_⟩
  have s2:=sm.trans tp
  refine⟨_,rfl,_,rfl,_,rfl,p0,b,_,wd,cc,c,rfl,aA.of (tp _ _ hP),G,aA.of (s2 _ _ hb),by rw[hl];exact jP.1,jP.2,λt2 H3 nH s3 B5=>?_⟩
  rw[<-C1 l cs x.cps.toList i cc c hcc hc] at B5
  refine⟨t2,_,_,rfl,s2.trans s3,B5,?_,?_⟩
  .rw[C1 l cs x.cps.toList i cc c hcc hc]
   exact G.set (by rw[hl];exact jP.1) jP.2
  .rw[C1 l cs x.cps.toList i cc c hcc hc,kJ]
   exact hl
 .intro O H2 abM
  refine hide λG_ dE=>?_
  obtain⟨p,v4,v5,rfl,sm,hP,_⟩:=abM
  refine dE.k ?_
  refine⟨_,rfl,q p H2 sm ?_⟩
  have e:=abJ l cs x.cps.toList
  rw[lx,qI] at e
  rw[av,lx,e] at hP
  exact hP
end
theorem C3(a b:Int):decide (V.int a=V.int b)=decide (a=b):=by grind
def abN(l:List Str)(w:Nat):Prop := ∀c:C2,c.1<l.length->c.2<w->(sg l c=35↔sg l (l.length - 1 - c.1,w - 1 - c.2)=35)
theorem abO{k:Nat}(S:bH l w)(hk:k<=1):(bo (aO l w) (bp k) c).length<=9:=by
 have h9:=S.nine
 have hw:=S.w9
 unfold bo
 split
 .exact bW _
 .split
  .exact bW _
  .rw[wq]
   rcases Nat.lt_or_ge 9 (runN (aO l w) (bp k) 10 c) with z | z
   .exfalso
    have:=qN (HV z)
    unfold go bp at this
    dsimp only at this
    have e:k=0\/k=1:=by lia
    rcases e with e | e <;> subst e <;> lia
   .exact z
theorem abP{op:C2->Bool}(h:(bo op d c).isEmpty=false):2<=(bo op d c).length:=by
 unfold bo at h ⊢
 split at h
 .cases h
 .split at h
  .cases h
  .rw[au (by assumption),au (by assumption),wq]
   lia
def P0{k:Nat}(S:bH l w)(hk:k<=1)(h:r∈iG l w k n):2<=r.length/\r.length<=9:=by
 unfold iG at h
 have h:=da.mp h
 obtain⟨c,_,e⟩:=cC.mp h.1
 subst e
 exact⟨abP (by simpa using h.2),abO S hk⟩
def mB(S:bH l w)(h:r∈aV l w):2<=r.length/\r.length<=9/\∀c∈r,c.1<l.length/\c.2<w/\cN l c=true:=by
 have a:2<=r.length/\r.length<=9:=by
  unfold aV at h
  rcases dR.mp h with z | z
  .exact P0 S (by decide) z
  .exact P0 S (by decide) z
 refine⟨a.1,a.2,?_⟩
 rw[qU] at h
 obtain⟨q,hq,e⟩:=cC.mp h
 rw[<-e]
 exact(HW hq).2
def fu(l:List Str)(cs:List C2):(ax l cs).length=cs.length:=by
 rw[<-cV]
 unfold ax
 simp
noncomputable def ai(rs:List (List C2))(i:Nat):List C2:=rs.getD i []
noncomputable def zI(l:List Str)(rs:List (List C2))(pl:Nat):List Str:=((List.range rs.length).filter λi=>!decide (i=pl)).map λi=>ax l (ai rs i)
noncomputable def pG(l:List Str)(rs:List (List C2))(pl:Nat)(ks:List Str):List Str:=(dg (ks.filter λx=>cO x (ax l (ai rs pl)))).filter λx=>!decide (x∈zI l rs pl)
def zJ(l:List Str)(w:Nat):(aV l w).length=(dy l w).length:=by rw[qU,av]
theorem Iu(h:((List.range n).map λ(i:Nat)=>V.int (0+(i:Int)))[i]? = some v):i<n/\v = .int (0+(i:Int)):=by grind
noncomputable def d0(l:List Str)(w:Nat):List Str:=(aV l w).map (ax l)
noncomputable def eW(l:List Str):Bool:=l.any λx=>decide (46∈x.cps.toList)
noncomputable def dF(ks:List Str)(l:List Str)(w:Nat):Bool := !eW l&&(decide (d0 l w).Nodup&&(d0 l w).all λx=>decide (x∈ks))
def Iv{h:Nat}(h1:c.1<h)(h2:c.2<w):c∈cells h w:=bM (wk (w:=w) h1 h2)
theorem P4(S:bH l w):(dm l w).isEmpty = !eW l:=by
 cases e:eW l with
 |true=>
  unfold eW at e
  obtain⟨x,mx,hx⟩:=vf.mp e
  have hx:=gr hx
  obtain⟨i,hi,ei⟩:=List.getElem_of_mem mx
  obtain⟨j,hj,ej⟩:=List.getElem_of_mem hx
  obtain⟨y,hy,my,ly,P5,ud⟩:=S.row hi
  have exy:y=x:=by rw[bt hi,ei] at hy;exact(dh hy).symm
  subst exy
  have Co:j<w:=by lia
  have g:=ud j Co
  rw[bt hj,ej] at g
  have g:=dh g
  have m:(i,j)∈dm l w:=da.mpr ⟨Iv hi Co,by unfold qM;exact aU g.symm⟩
  cases z:dm l w with
  |nil=>rw[z] at m;cases m
  |cons _ _=>rfl
 |false=>
  cases z:dm l w with
  |nil=>rfl
  |cons c r=>
   have m:c∈dm l w:=by rw[z];exact bK ..
   obtain⟨m1,m2⟩:=da.mp m
   obtain⟨h1,h2⟩:=tS m1
   obtain⟨y,hy,my,ly,P5,ud⟩:=S.row h1
   unfold qM at m2
   have g:=ud c.2 h2
   rw[show sg l (c.1,c.2)=46 from gr m2] at g
   unfold eW at e
   have:=List.any_eq_false.mp e y my
   exact absurd (aU (bM g)) this
def zK(t:lZ kvs)(x:Str):(aM kvs (Sum.inr x:Key)).isSome=decide (x∈aJ kvs):=by
 cases e:aM kvs (Sum.inr x:Key) with
 |none=>
  refine(bf λm=>M5 e ?_).symm
  unfold aJ at m
  obtain⟨q,hq,eq⟩:=cC.mp m
  obtain⟨y,ey⟩:=t q hq
  rw[ey] at eq
  have eq:y=x:=eq
  exact cC.mpr ⟨q,hq,by rw[ey,eq]⟩
 |some v=>
  refine(aU ?_).symm
  obtain⟨q,hq,e1⟩:=cC.mp (M6 e)
  unfold aJ
  exact cC.mpr ⟨q,hq,by rw[e1]⟩
def C4(v:V)(e:aM kvs (Sum.inr x:Key)=none):aJ (putK kvs (Sum.inr x) v)=aJ kvs++[x]:=by
 rw[vK v e]
 unfold aJ
 rw[fG]
 rfl
def P6(n:x∉aJ kvs):aM kvs (Sum.inr x:Key)=none:=by
 cases e:aM kvs (Sum.inr x:Key) with
 |none=>rfl
 |some v=>
  refine absurd ?_ n
  have m:=M6 e
  obtain⟨q,hq,e1⟩:=cC.mp m
  unfold aJ
  exact cC.mpr ⟨q,hq,by rw[e1]⟩
def nJ(kvs:List (Key×V)):(aJ kvs).length=kvs.length:=by unfold aJ;rw[av]
theorem C5(h1:eW l=false)(h2:(d0 l w).Nodup)(h3:∀x∈d0 l w,x∈ks):dF ks l w=true:=by grind [eW,dF,d0]
theorem zL(h:dF ks l w=true):eW l=false/\(d0 l w).Nodup/\∀x∈d0 l w,x∈ks:=by grind [eW,dF,d0]
def P7(hx:(d0 l w)[i]? = some x)(h:x∈(d0 l w).take i\/x∉ks):dF ks l w=false:=by
 refine il.mpr λe=>?_
 obtain⟨_,nd,h3⟩:=zL e
 rcases h with h | h
 .have h1:((d0 l w).take (i+1)).Nodup:=nd.sublist (AS _ _)
  rw[ik,hx,rZ] at h1
  exact h1.2.2 x h x (cJ.mpr rfl) rfl
 .exact h (h3 x (bM hx))
def abQ(l:List Str)(w:Nat):(d0 l w).length=(dy l w).length:=by unfold d0;rw[av,qU,av]
def abR(h:(dy l w)[i]? = some q):(d0 l w)[i]? = some (ax l q.2):=by
 unfold d0
 rw[qU,mV,bF,h]
 rfl
def wH(kvs:List (Key×V)):Prop := ∀q∈kvs,∃n,q.2=V.int n
noncomputable def nK(kvs:List (Key×V))(x:Str):Int:=match aM kvs (Sum.inr x:Key) with | some (.int n)=>n | _=>0
def abS{k:Key}(h:aM kvs k=some v):∃q∈kvs,q.1=k/\q.2=v:=by
 unfold aM at h
 cases e:kvs.find? (λkv=>decide (kv.1=k)) with
 |none=>rw[e] at h;cases h
 |some q=>
  rw[e] at h
  exact⟨q,List.mem_of_find?_eq_some e,gr (by simpa using List.find?_some e),dh h⟩
def Iw(t:lZ kvs)(hi:wH kvs)(m:x∈aJ kvs):aM kvs (Sum.inr x:Key)=some (.int (nK kvs x)):=by
 have:=zK t x
 rw[aU m] at this
 cases e:aM kvs (Sum.inr x:Key) with
 |none=>rw[e] at this;cases this
 |some v=>
  obtain⟨q,hq,_,e2⟩:=abS e
  obtain⟨n,en⟩:=hi q hq
  have ev:v = .int n:=by rw[<-e2,en]
  unfold nK
  rw[e,ev]
open PySem.StrLaws PySem.Builtin.Str in
open PySem.StrLaws in
theorem Iy(c:C2):dP c (dy l w)=dP c (qO l w)+dP c (qP l w):=by simp_all [C2,qO,qP,dy,dP]
def wI(l:List Str)(w:Nat):Prop := ∀c,aO l w c=true->dP c (dy l w)=2
theorem abT(h:jl (aO l w) (0,1) c=true):∃d:C2,aO l w d=true/\d.1=c.1/\d.2≠c.2:=by
 unfold jl iB at h
 rw[d7,EL,d7,d7] at h
 rcases h.2 with z | z
 .have h1:1<=c.2:=gr z.2.1
  exact⟨_,z.2.2,by show c.1 - 0=c.1;lia,by show c.2 - 1≠c.2;lia⟩
 .exact⟨_,z,by unfold go;show c.1+1*0=c.1;lia,by unfold go;show c.2+1*1≠c.2;lia⟩
theorem abU(h:jl (aO l w) (1,0) c=true):∃d:C2,aO l w d=true/\d.2=c.2/\d.1≠c.1:=by
 unfold jl iB at h
 rw[d7,EL,d7,d7] at h
 rcases h.2 with z | z
 .have h1:1<=c.1:=gr z.1
  exact⟨_,z.2.2,by show c.2 - 0=c.2;lia,by show c.1 - 1≠c.1;lia⟩
 .exact⟨_,z,by unfold go;show c.2+1*0=c.2;lia,by unfold go;show c.1+1*1≠c.1;lia⟩
def wJ{l:List α}(h:l.Nodup){a:α}(hi:l[i]? = some a)(hj:l[j]? = some a):i=j:=by
 obtain⟨ue,ei⟩:=bR.mp hi
 obtain⟨uf,ej⟩:=bR.mp hj
 rcases Nat.lt_trichotomy i j with z | z | z
 .exact absurd (ei.trans ej.symm) (TQ.mp h i j ue uf z)
 .exact z
 .exact absurd (ej.trans ei.symm) (TQ.mp h j i uf ue z)
noncomputable def dq(R:List (List C2))(c:C2):List (Nat×Nat):=(List.range R.length).flatMap λi=>((List.range (ai R i).length).filter λk=>decide ((ai R i)[k]? = some c)).map λk=>(i,k)
def nL{k:Nat}(h:(ai R i)[k]? = some c):i<R.length/\k<(ai R i).length:=by
 refine⟨?_,(bR.mp h).1⟩
 by_cases z:i<R.length
 .exact z
 .have e:ai R i=[]:=by
   unfold ai
   rw[cz,di (Lx z)]
   rfl
  rw[e] at h
  cases h
def qV:p∈dq R c↔(ai R p.1)[p.2]? = some c:=by
 unfold dq
 rw[Bb]
 constructor
 .rintro⟨i,_,h⟩
  obtain⟨k,hk,rfl⟩:=cC.mp h
  exact gr (da.mp hk).2
 .intro h
  have:=nL h
  exact⟨p.1,ic.mpr this.1,cC.mpr ⟨p.2,da.mpr ⟨ic.mpr this.2,aU h⟩,rfl⟩⟩
def Iz(R:List (List C2))(c:C2):(dq R c).Nodup:=by
 unfold dq List.Nodup
 rw[List.pairwise_flatMap]
 refine⟨λi _=>?_,?_⟩
 .exact List.Pairwise.map _ (λa b h z=>h (eX Prod.snd z)) (List.nodup_range.filter _)
 .refine List.Pairwise.imp (λ{a b} h x hx y hy z=>?_) List.nodup_range
  obtain⟨_,_,rfl⟩:=cC.mp hx
  obtain⟨_,_,rfl⟩:=cC.mp hy
  exact h (eX Prod.fst z)
structure GoodR(R:List (List C2)):Prop where
 nd:∀i,(ai R i).Nodup
 two:∀(i k:Nat) (c:C2),(ai R i)[k]? = some c->∃(j a:Nat),j≠i/\(ai R j)[a]? = some c/\∀(i' k':Nat),(ai R i')[k']? = some c->(i'=i/\k'=k)\/(i'=j/\k'=a)
def P8{l:List α}{x:α}(nd:l.Nodup)(m:x∈l)(u:∀y∈l,y=x):l=[x]:=by
 cases l with
 |nil=>cases m
 |cons a r=>
  have ea:=u a bK
  subst ea
  cases r with
  |nil=>rfl
  |cons b s=>
   have eb:=u b (cW _ bK)
   exact absurd (by rw[eb];exact bK) (ig.mp nd).1
noncomputable def wK(R:List (List C2))(pl:Nat)(c:C2):List (Nat×Nat):=(dq R c).filter λp=>!decide (p.1=pl)
noncomputable def jn(R:List (List C2))(pl:Nat):List (Nat×Nat):=(ai R pl).flatMap (wK R pl)
structure IA(R:List (List C2))(pl:Nat)(c:C2)(p:Nat×Nat):Prop where
 ne:p.1≠pl
 lt:p.1<R.length
 ix:(ai R p.1)[p.2]? = some c
 un:∀(i' k':Nat),(ai R i')[k']? = some c->i'≠pl->i'=p.1/\k'=p.2
def C6(G:GoodR R){k:Nat}(h:(ai R pl)[k]? = some c):∃p,wK R pl c=[p]/\IA R pl c p:=by
 obtain⟨j,a,hj,IB,hu⟩:=G.two pl k c h
 have P9:∀(i' k':Nat),(ai R i')[k']? = some c->i'≠pl->i'=j/\k'=a:=λi' k' e n=>by
  rcases hu i' k' e with z | z
  .exact absurd z.1 n
  .exact z
 refine⟨(j,a),P8 ((Iz R c).filter _) (da.mpr ⟨qV.mpr IB,by simp[hj]⟩) (λy hy=>?_),hj,(nL IB).1,IB,P9⟩
 obtain⟨h1,h2⟩:=da.mp hy
 have:=P9 y.1 y.2 (qV.mp h1) (by simpa using h2)
 exact Prod.ext this.1 this.2
theorem Qa{α β:Type}{f:α->List β}{g:α->β}:∀{l:List α},(∀x∈l,f x=[g x])->l.flatMap f=l.map g
 |[],_=>rfl
 |a::r,h=>by
  rw[List.flatMap_cons,cF,h a bK,Qa λx m=>h x (cW _ m)]
  rfl
def Qb(G:GoodR R)(pl:Nat):jn R pl=(ai R pl).map λc=>(wK R pl c).headD (0,0):=by
 unfold jn
 refine Qa λc mc=>?_
 obtain⟨k,hk⟩:=eS mc
 obtain⟨p,e,_⟩:=C6 G hk
 rw[e]
 rfl
def abV(G:GoodR R)(pl:Nat):(jn R pl).length=(ai R pl).length:=by rw[Qb G,av]
def abW(G:GoodR R){k:Nat}(h:(ai R pl)[k]? = some c):∃p,(jn R pl)[k]? = some p/\IA R pl c p:=by
 obtain⟨p,e,hp⟩:=C6 G h
 refine⟨p,?_,hp⟩
 rw[Qb G,bF,h,i0,e]
 rfl
def iH(m:List Str)(r:List C2):(ax m r).cps.toList=r.map (sg m):=by simp[ax]
def iV{k:Nat}(h:r[k]? = some c):(ax m r).cps.toList[k]? = some (sg m c):=by rw[iH,bF,h];rfl
theorem abX(S:fq m w)(nd:r.Nodup)(cI:∀c∈r,c.1<m.length/\c.2<w)(ha:r[a]? = some c)(ch:Nat):ax (setC m c ch) r=bP (ax m r) a ch:=by
 have hc:=cI c (bM ha)
 have Cv:a<(ax m r).length:=by rw[fu];exact(bR.mp ha).1
 apply ph
 apply i6
 intro k
 by_cases hk:k<r.length
 .have ek:r[k]? = some r[k]:=bt hk
  have ku:=cI r[k] (j5 hk)
  rw[Hn Cv (by rw[fu];exact hk),iV ek,iV ek,S.CJ hc.1 hc.2 ku.1 ku.2]
  by_cases e:k=a
  .subst e
   rw[ek] at ha
   rw[aC (dh ha),aC rfl]
  .rw[au e,au λz=>e (wJ nd (by rw[ek,z]) ha)]
 .rw[di (by rw[iH,av];lia),di (by rw[cV,y9 Cv,fu];lia)]
def Qc(S:fq m w)(cI:∀c∈r,c.1<m.length/\c.2<w)(h1:c.1<m.length)(h2:c.2<w)(hc:c∉r\/sg m c=ch):ax (setC m c ch) r=ax m r:=by
 apply ph
 rw[iH,iH]
 refine List.map_congr_left λd md=>?_
 have hd:=cI d md
 rw[S.CJ h1 h2 hd.1 hd.2]
 by_cases e:d=c
 .rw[aC e]
  rcases hc with z | z
  .exact absurd (e ▸ md) z
  .rw[e,z]
 .rw[au e]
theorem nM:∀(m:List Str) (cs:List C2) (xs:List Nat),(putL m cs xs).length=m.length
 |m,[],_=>by simp[putL]
 |m,c::cs,[]=>by simp[putL]
 |m,c::cs,x::xs=>by rw[putL,nM,kJ]
theorem IC{w:Nat}:∀{m:List Str}(_:fq m w) (cs:List C2) (xs:List Nat),(∀c∈cs,c.1<m.length/\c.2<w)->fq (putL m cs xs) w
 |m,S,[],_,_=>by simpa[putL] using S
 |m,S,c::cs,[],_=>by simpa[putL] using S
 |m,S,c::cs,x::xs,h=>by
  rw[putL]
  have hc:=h c bK
  exact IC (S.set hc.1 hc.2) cs xs λd md=>by rw[kJ];exact h d (cW _ md)
theorem Qd{w:Nat}:∀{m:List Str}(_:bH m w) (cs:List C2) (xs:List Nat),(∀c∈cs,c.1<m.length/\c.2<w)->(∀x∈xs,iS x)->bH (putL m cs xs) w
 |m,S,[],_,_,_=>by simpa[putL] using S
 |m,S,c::cs,[],_,_=>by simpa[putL] using S
 |m,S,c::cs,x::xs,h,h2=>by
  rw[putL]
  have hc:=h c bK
  exact Qd (aal S hc.1 hc.2 (h2 x bK)) cs xs (λd md=>by rw[kJ];exact h d (cW _ md)) λy my=>h2 y (cW _ my)
theorem ug{w:Nat}:∀{m:List Str}(_:fq m w) (cs:List C2) (xs:List Nat),(∀c∈cs,c.1<m.length/\c.2<w)->∀{d:C2},d.1<m.length->d.2<w->d∉cs->sg (putL m cs xs) d=sg m d
 |m,S,[],_,_,d,_,_,_=>by simp[putL]
 |m,S,c::cs,[],_,d,_,_,_=>by simp[putL]
 |m,S,c::cs,x::xs,h,d,d1,d2,hd=>by
  have hc:=h c bK
  rw[putL,ug (S.set hc.1 hc.2) cs xs (λe me=>by rw[kJ];exact h e (cW _ me)) (by rw[kJ];exact d1) d2 (λz=>hd (cW _ z)),
   S.CJ hc.1 hc.2 d1 d2,au λz=>hd (by rw[z];exact bK)]
theorem wL{w:Nat}:∀{m:List Str}(_:fq m w) (cs:List C2) (xs:List Nat),(∀c∈cs,c.1<m.length/\c.2<w)->cs.Nodup->∀{k:Nat}{c:C2}{x:Nat},cs[k]? = some c->xs[k]? = some x->sg (putL m cs xs) c=x
 |m,S,[],_,_,_,k,c,x,hc,_=>by cases hc
 |m,S,c::cs,[],_,_,k,_,x,_,hx=>by cases hx
 |m,S,c::cs,y::xs,h,nd,k,d,x,hd,hx=>by
  have hc:=h c bK
  have h':∀e∈cs,e.1<(setC m c y).length/\e.2<w:=λe me=>by rw[kJ];exact h e (cW _ me)
  rw[putL]
  cases k with
  |zero=>
   have e1:c=d:=by simpa using hd
   have e2:y=x:=by simpa using hx
   subst e1 e2
   rw[ug (S.set hc.1 hc.2) cs xs h' (by rw[kJ];exact hc.1) hc.2 (ig.mp nd).1,S.CJ hc.1 hc.2 hc.1 hc.2,aC rfl]
  |succ k=>exact wL (S.set hc.1 hc.2) cs xs h' (ig.mp nd).2 (by simpa using hd) (by simpa using hx)
theorem abY(S:fq m w)(cI:∀c∈r,c.1<m.length/\c.2<w)(nd:r.Nodup)(hl:x.length=r.length):ax (putL m r x.cps.toList) r=x:=by
 have hx:=cV x
 apply ph
 apply i6
 intro k
 by_cases hk:k<r.length
 .have ek:r[k]? = some r[k]:=bt hk
  have ex:x.cps.toList[k]? = some x.cps.toList[k]:=bt (by lia)
  rw[iV ek,wL S r x.cps.toList cI nd ek ex,ex]
 .rw[di (by rw[iH,av];lia),di (by lia)]
def iI{t:Str}:cO x t=true↔x.length=t.length/\∀i,i<x.length->t.cps.toList.getD i 0=46\/t.cps.toList.getD i 0=x.cps.toList.getD i 0:=by
 unfold cO
 rw[d7,EK,decide_eq_true_iff]
 refine and_congr_right λ_=>⟨λh i hi=>?_,λh i hi=>?_⟩
 .have:=h i (ic.mpr hi)
  unfold ua at this
  simpa using this
 .have:=h i (ic.mp hi)
  unfold ua
  simpa using this
def C7{k:Nat}(h:j<x.length)(hk:k<x.length):(bP x j ch).cps.toList.getD k 0=if k=j then ch else x.cps.toList.getD k 0:=by
 rw[cz,Hn h hk,cz]
 by_cases e:k=j
 .rw[aC e,aC e]
  rfl
 .rw[au e,au e]
theorem abZ{t:Str}(ha:a<t.length)(dz:t.cps.toList.getD a 0=46)(hc:ch≠46):cO x (bP t a ch)=true↔cO x t=true/\x.cps.toList.getD a 0=ch:=by
 rw[iI,iI,y9 ha]
 constructor
 .rintro⟨hl,h⟩
  have ea:=h a (by lia)
  rw[C7 ha ha,aC rfl] at ea
  refine⟨⟨hl,λi hi=>?_⟩,?_⟩
  .have:=h i hi
   rw[C7 ha (by lia)] at this
   by_cases e:i=a
   .rw[e];exact .inl dz
   .rw[au e] at this;exact this
  .rcases ea with z | z
   .exact absurd z hc
   .exact z.symm
 .rintro⟨⟨hl,h⟩,e⟩
  refine⟨hl,λi hi=>?_⟩
  rw[C7 ha (by lia)]
  by_cases ei:i=a
  .rw[aC ei,ei];exact .inr e.symm
  .rw[au ei];exact h i hi
theorem wM{t:Str}(h:cO x t=true)(hd:46∉t.cps.toList):x=t:=by
 obtain⟨hl,h⟩:=iI.mp h
 have hx:=cV x
 have ht:=cV t
 apply ph
 apply i6
 intro k
 by_cases hk:k<x.length
 .have:=h k hk
  rw[cz,cz,bt (by lia),bt (by lia),qi,qi] at this
  rw[bt (by lia),bt (by lia)]
  rcases this with z | z
  .exact absurd (by rw[<-z];exact j5 _) hd
  .rw[z]
 .rw[di (by lia),di (by lia)]
def ab0(t:Str):cO t t=true:=iI.mpr ⟨rfl,λ_ _=>.inr rfl⟩
structure jo(ks:List Str)(wf:Str->Int)(t:Str)(ws:List Str):Prop where
 nd:ws.Nodup
 mem:∀x,x∈ws↔x∈ks/\cO x t=true
 up:ws.Pairwise λa b=>wf b<=wf a
def jo.narrow{t:Str}(F:jo ks wf t ws)(ha:a<t.length)(dz:t.cps.toList.getD a 0=46)(hc:ch≠46):jo ks wf (bP t a ch) (ws.filter λx=>decide (x.cps.toList.getD a 0=ch)):=by
 refine⟨F.nd.filter _,λx=>?_,F.up.filter _⟩
 rw[da,F.mem,abZ ha dz hc,decide_eq_true_iff,and_assoc]
def jo.one(m:x∈ks)(hd:46∉x.cps.toList):jo ks wf x [x]:=by
 refine⟨ig.mpr ⟨fU,i4⟩,λy=>?_,List.pairwise_singleton _ _⟩
 rw[cJ]
 constructor
 .rintro rfl
  exact⟨m,ab0 y⟩
 .rintro⟨_,h⟩
  exact wM h hd
def Qe(hl:m.length=l.length)(h:∀c:C2,c.1<l.length->c.2<w->cN m c=cN l c):aV m w=aV l w:=by
 have e:aO m w=aO l w:=by
  funext c
  unfold aO
  rw[hl]
  by_cases h1:c.1<l.length
  .by_cases h2:c.2<w
   .rw[h c h1 h2]
   .rw[bf h2,lj,lj]
  .rw[bf h1,lj,lj]
 unfold aV kP iG
 rw[e,hl]
structure cP(l:List Str)(w:Nat)(R:List (List C2)):Prop where
 sh:bH l w
 eq:aV l w=R
 good:GoodR R
 all:∀c:C2,c.1<l.length->c.2<w->cN l c=true->∃i k:Nat,(ai R i)[k]? = some c
def pH(h:i<R.length):ai R i∈R:=by simp_all [C2,ai]
def cP.uh(F:cP l w R){k:Nat}(h:(ai R i)[k]? = some c):c.1<l.length/\c.2<w/\cN l c=true:=by
 have:=pH (nL h).1
 rw[<-F.eq] at this
 have hc:=bM h
 rw[<-F.eq] at hc
 exact(mB F.sh this).2.2 c hc
def cP.jQ(F:cP l w R)(i:Nat):∀c∈ai R i,c.1<l.length/\c.2<w:=λc m=>by
 obtain⟨k,hk⟩:=eS m
 have:=F.uh hk
 exact⟨this.1,this.2.1⟩
def cP.len(F:cP l w R)(hi:i<R.length):2<=(ai R i).length/\(ai R i).length<=9:=by
 have:=pH hi
 rw[<-F.eq] at this
 have:=mB F.sh this
 rw[F.eq] at this
 exact⟨this.1,this.2.1⟩
def jR(x:Str):Prop := ∀ch∈x.cps.toList,97<=ch/\ch<=122
theorem ab1(h:eP x=true):jR x:=λch m=>by
 unfold eP at h
 simp only[d7] at h
 have:=h.2.2
 unfold CL at this
 have:=gr (EK.mp this ch m)
 rw[aaj] at this
 obtain⟨k,hk,e⟩:=cC.mp this
 have:=ic.mp hk
 lia
theorem jR.ab2(h:jR x):46∉x.cps.toList:=λm=>by have:=h 46 m;lia
theorem C8(F:cP m w R)(pl:Nat)(hl:x.length=(ai R pl).length)(h1:c.1<m.length)(h2:c.2<w) :
  (∃(k ch:Nat),(ai R pl)[k]? = some c/\x.cps.toList[k]? = some ch/\sg (putL m (ai R pl) x.cps.toList) c=ch)\/(c∉ai R pl/\sg (putL m (ai R pl) x.cps.toList) c=sg m c):=by
 by_cases hc:c∈ai R pl
 .refine Or.inl ?_
  obtain⟨k,hk⟩:=eS hc
  have lV:=(nL hk).2
  have hx:=cV x
  have ex:x.cps.toList[k]? = some x.cps.toList[k]:=bt (by lia)
  exact⟨k,_,hk,ex,wL F.sh.kO _ _ (F.jQ pl) (F.good.nd pl) hk ex⟩
 .exact .inr ⟨hc,ug F.sh.kO _ _ (F.jQ pl) h1 h2 hc⟩
theorem cP.Qf(F:cP m w R)(pl:Nat)(hx:jR x)(hl:x.length=(ai R pl).length)(h1:c.1<m.length)(h2:c.2<w):cN (putL m (ai R pl) x.cps.toList) c=cN m c:=by
 rcases C8 F pl hl h1 h2 with ⟨k,ch,hk,hch,e⟩ | ⟨_,e⟩
 .rw[(F.uh hk).2.2]
  unfold cN
  rw[e]
  have:=hx ch (bM hch)
  rw[bf (by lia)]
  rfl
 .unfold cN
  rw[e]
def cP.put(F:cP m w R)(pl:Nat)(hx:jR x)(hl:x.length=(ai R pl).length):cP (putL m (ai R pl) x.cps.toList) w R:=by
 have hlen:=nM m (ai R pl) x.cps.toList
 refine⟨Qd F.sh _ _ (F.jQ pl) (λch mc=>.inr (.inr (hx ch mc))),?_,F.good,λc h1 h2 ho=>?_⟩
 .rw[Qe hlen λc h1 h2=>F.Qf pl hx hl h1 h2]
  exact F.eq
 .rw[hlen] at h1
  rw[F.Qf pl hx hl h1 h2] at ho
  exact F.all c h1 h2 ho
structure nN(R:List (List C2))(m:List Str)(pl:Nat)(x:Str)(k:Nat)(ps:List Str):Prop where
 len:ps.length=R.length
 own:ps[pl]? = some (ax m (ai R pl))
 gM:∀i,i<R.length->i≠pl->ps[i]? = some (ax (putL m ((ai R pl).take k) (x.cps.toList.take k)) (ai R i))
def jq(R:List (List C2))(f:List C2->β)(h:i<R.length):(R.map f)[i]? = some (f (ai R i)):=by simp_all [C2,ai]
def nN.zero(aL:pl<R.length):nN R m pl x 0 (R.map (ax m)):=
 ⟨av ..,jq R _ aL,λi hi _=>by rw[mS,mS,jq R _ hi];rfl⟩
theorem nN.step{k:Nat}(F:cP m w R)(dI:cO x (ax m (ai R pl))=true)(A:nN R m pl x k ps)(hc:(ai R pl)[k]? = some c)(hch:x.cps.toList[k]? = some ch)(hp:IA R pl c p) :
  ∃b,ps[p.1]? = some b/\b.cps.toList[p.2]? = some (sg m c)/\p.2<b.length/\b.length<=9/\(sg m c=46->nN R m pl x (k+1) (ps.set p.1 (bP b p.2 ch)))/\(sg m c≠46->nN R m pl x (k+1) ps):=by
 have gW:∀d∈(ai R pl).take k,d.1<m.length/\d.2<w:=λd md=>F.jQ pl d (Bd md)
 have Gk:=IC F.sh.kO ((ai R pl).take k) (x.cps.toList.take k) gW
 have kq:=nM m ((ai R pl).take k) (x.cps.toList.take k)
 have jP:=F.uh hc
 have hcn:c∉(ai R pl).take k:=λz=>by
  obtain⟨j,hj⟩:=eS z
  have hjk:j<k:=by
   have:=(bR.mp hj).1
   rw[ij] at this
   lia
  rw[u6 hjk] at hj
  have:=wJ (F.good.nd pl) hj hc
  lia
 have Qg:sg (putL m ((ai R pl).take k) (x.cps.toList.take k)) c=sg m c:=ug F.sh.kO _ _ gW jP.1 jP.2.1 hcn
 have Qh:putL m ((ai R pl).take (k+1)) (x.cps.toList.take (k+1))=setC (putL m ((ai R pl).take k) (x.cps.toList.take k)) c ch:=C1 m _ _ k c ch hc hch
 have tI:c.1<(putL m ((ai R pl).take k) (x.cps.toList.take k)).length:=by rw[kq];exact jP.1
 have wN:∀i,∀d∈ai R i,d.1<(putL m ((ai R pl).take k) (x.cps.toList.take k)).length/\d.2<w:=λi d md=>by rw[kq];exact F.jQ i d md
 have tK:=F.len hp.lt
 refine⟨_,A.gM p.1 hp.lt hp.ne,?_,?_,?_,λdz=>⟨by rw[AV];exact A.len,?_,λi hi aT=>?_⟩,λdz=>⟨A.len,A.own,λi hi aT=>?_⟩⟩
 .rw[iV hp.ix,Qg]
 .rw[fu];exact(nL hp.ix).2
 .rw[fu];exact tK.2
 .rw[uW hp.ne];exact A.own
 .rw[Qh]
  by_cases e:i=p.1
  .rw[e,rP (by rw[A.len];exact hp.lt),abX Gk (F.good.nd p.1) (wN p.1) hp.ix]
  .rw[uW (aP e),A.gM i hi aT,Qc Gk (wN i) tI jP.2.1 (.inl λz=>?_)]
   obtain⟨j,hj⟩:=eS z
   exact e (hp.un i j hj aT).1
 .have ech:sg m c=ch:=by
   obtain⟨hl,h⟩:=iI.mp dI
   have hk:k<x.length:=by rw[<-cV];exact(bR.mp hch).1
   have:=h k hk
   rw[cE (iV hc),cE hch] at this
   rcases this with z | z
   .exact absurd z dz
   .exact z
  rw[Qh,Qc Gk (wN i) tI jP.2.1 (.inr (Qg.trans ech))]
  exact A.gM i hi aT
theorem nN.done(F:cP m w R)(A:nN R m pl x (ai R pl).length ps)(hl:x.length=(ai R pl).length)(aL:pl<R.length):ps.set pl x=R.map (ax (putL m (ai R pl) x.cps.toList)):=by
 have hx:=cV x
 apply i6
 intro i
 by_cases hi:i<R.length
 .rw[jq R _ hi]
  by_cases e:i=pl
  .rw[e,rP (by rw[A.len];exact aL),abY F.sh.kO (F.jQ pl) (F.good.nd pl) hl]
  .rw[uW (aP e),A.gM i hi e,gs (aQ _),gs (by lia)]
 .rw[di (by rw[AV,A.len];lia),di (by rw[av];lia)]
theorem Qi(S:fq l w)(T:fq m w)(hl:l.length=m.length)(h:∀c:C2,c.1<l.length->c.2<w->sg l c=sg m c):l=m:=by
 apply i6
 intro i
 by_cases hi:i<l.length
 .obtain⟨x,hx,_,_,lx,hxj⟩:=S.row hi
  obtain⟨y,hy,_,_,ly,ud⟩:=T.row (i:=i) (by lia)
  rw[hx,hy]
  congr 1
  apply ph
  apply i6
  intro j
  by_cases hj:j<w
  .rw[hxj j hj,ud j hj,h (i,j) hi hj]
  .rw[di (by lia),di (by lia)]
 .rw[di (by lia),di (by lia)]
noncomputable def kR(l:List Str)(R:List (List C2))(m:List Str):Nat->List Str
 |0=>l
 |n+1=>putL (kR l R m n) (ai R n) (ax m (ai R n)).cps.toList
theorem qW(l:List Str)(R:List (List C2))(m:List Str):∀n,(kR l R m n).length=l.length
 |0=>rfl
 |n+1=>by rw[kR,nM,qW l R m n]
theorem wO{l m:List Str}{w:Nat}{R:List (List C2)}(F:cP l w R):∀n,fq (kR l R m n) w
 |0=>F.sh.kO
 |n+1=>by
  rw[kR]
  exact IC (wO F n) _ _ λd md=>by rw[qW];exact F.jQ n d md
theorem Qj{l m:List Str}{w:Nat}{R:List (List C2)}(F:cP l w R){c:C2}(h1:c.1<l.length)(h2:c.2<w):∀n,((∃i,i<n/\c∈ai R i)->sg (kR l R m n) c=sg m c)/\((∀i,i<n->c∉ai R i)->sg (kR l R m n) c=sg l c)
 |0=>⟨λ⟨i,hi,_⟩=>absurd hi (jz _),λ_=>rfl⟩
 |n+1=>by
  have ih:=Qj (m:=m) F h1 h2 n
  have hc:∀d∈ai R n,d.1<(kR l R m n).length/\d.2<w:=λd md=>by rw[qW];exact F.jQ n d md
  rw[kR]
  refine⟨λ⟨i,hi,hm⟩=>?_,λh=>?_⟩
  .by_cases z:c∈ai R n
   .obtain⟨k,hk⟩:=eS z
    exact wL (wO F n) _ _ hc (F.good.nd n) hk (iV hk)
   .rw[ug (wO F n) _ _ hc (by rw[qW];exact h1) h2 z]
    refine ih.1 ⟨i,?_,hm⟩
    rcases r6.mp hi with y | y
    .exact y
    .exact absurd (y ▸ hm) z
  .rw[ug (wO F n) _ _ hc (by rw[qW];exact h1) h2 (h n (uZ _))]
   exact ih.2 λi hi=>h i (rV hi)
def Qk(h:¬cN l c=true):sg l c=35:=by
 unfold cN at h
 simpa using h
def ab3(F:cP l w R)(M:cP m w R)(hl:m.length=l.length):kR l R m R.length=m:=by
 refine Qi (wO F _) M.sh.kO (by rw[qW,hl]) λc h1 h2=>?_
 rw[qW] at h1
 have s:=Qj (m:=m) F h1 h2 R.length
 by_cases ho:cN l c=true
 .obtain⟨i,k,hk⟩:=F.all c h1 h2 ho
  exact s.1 ⟨i,(nL hk).1,bM hk⟩
 .have no:∀i,i<R.length->c∉ai R i:=λi _ z=>by
   obtain⟨k,hk⟩:=eS z
   exact ho (F.uh hk).2.2
  have hm:¬cN m c=true:=λz=>by
   obtain⟨i,k,hk⟩:=M.all c (by rw[hl];exact h1) h2 z
   exact no i (nL hk).1 (bM hk)
  rw[s.2 no,Qk ho,Qk hm]
structure bY(s m:List Str)(w:Nat):Prop where
 sh:bH s w
 ln:s.length=m.length
 cl:∀c:C2,c.1<m.length->c.2<w->(sg m c≠46->sg s c=sg m c)/\(sg m c=46->sg s c≠35)
def bY.refl(S:bH m w):bY m m w:=⟨S,rfl,λc _ _=>⟨λ_=>rfl,λh=>by rw[h];decide⟩⟩
def ab4{w:Nat}{k:Nat}(dI:cO x (ax m (ai R pl))=true)(hc:(ai R pl)[k]? = some c)(hch:x.cps.toList[k]? = some ch):sg m c=46\/sg m c=ch:=by
 obtain⟨hl,h⟩:=iI.mp dI
 have hk:k<x.length:=by rw[<-cV];exact(bR.mp hch).1
 have:=h k hk
 rw[cE (iV hc),cE hch] at this
 exact this
theorem bY.Ql(F:cP m w R)(hx:jR x)(dI:cO x (ax m (ai R pl))=true)(A:bY s (putL m (ai R pl) x.cps.toList) w):bY s m w:=by
 have hl:x.length=(ai R pl).length:=by rw[(iI.mp dI).1,fu]
 have hlen:=nM m (ai R pl) x.cps.toList
 refine⟨A.sh,by rw[A.ln,hlen],λc h1 h2=>?_⟩
 have a:=A.cl c (by rw[hlen];exact h1) h2
 rcases C8 F pl hl h1 h2 with ⟨k,ch,hk,hch,e⟩ | ⟨_,e⟩
 .have hb:=hx ch (bM hch)
  rw[e] at a
  have es:=a.1 (by lia)
  rcases ab4 (w:=w) dI hk hch with z | z
  .exact⟨λy=>absurd z y,λ_=>by lia⟩
  .exact⟨λ_=>by lia,λy=>by lia⟩
 .rw[e] at a
  exact a
theorem bY.text(F:cP m w R)(hx:jR x)(hl:x.length=(ai R pl).length)(A:bY s (putL m (ai R pl) x.cps.toList) w):ax s (ai R pl)=x:=by
 have fQ:=cV x
 have hlen:=nM m (ai R pl) x.cps.toList
 apply ph
 apply i6
 intro k
 by_cases hk:k<(ai R pl).length
 .have ek:(ai R pl)[k]? = some (ai R pl)[k]:=bt hk
  have ex:x.cps.toList[k]? = some x.cps.toList[k]:=bt (by lia)
  have hb:=F.uh ek
  have a:=A.cl _ (by rw[hlen];exact hb.1) hb.2.1
  have e:=wL F.sh.kO _ _ (F.jQ pl) (F.good.nd pl) ek ex
  rw[e] at a
  have:=hx _ (bM ex)
  rw[iV ek,ex,a.1 (by lia)]
 .rw[di (by rw[iH,av];lia),di (by lia)]
theorem Qm{α:Type}{p q:α->Bool}:∀{l:List α},(∀x∈l,p x=true->q x=true)->(l.filter p).length<=(l.filter q).length/\((∃x∈l,q x=true/\p x=false)->(l.filter p).length<(l.filter q).length)
 |[],_=>⟨aQ _,λ⟨_,m,_⟩=>by cases m⟩
 |a::r,h=>by
  have ih:=Qm (l:=r) λx m=>h x (cW _ m)
  have ha:=h a bK
  rw[fH,fH]
  cases hp:p a with
  |true=>
   rw[ha hp]
   refine⟨lu ih.1,λ⟨x,m,hq,hx⟩=>?_⟩
   rcases cx.mp m with z | z
   .rw[z,hp] at hx;cases hx
   .exact Nat.succ_lt_succ (ih.2 ⟨x,z,hq,hx⟩)
  |false=>
   cases hq:q a with
   |true=>exact⟨Nat.le_succ_of_le ih.1,λ_=>Nat.lt_succ_of_le ih.1⟩
   |false=>
    refine⟨ih.1,λ⟨x,m,fX,hx⟩=>?_⟩
    rcases cx.mp m with z | z
    .rw[z,hq] at fX;cases fX
    .exact ih.2 ⟨x,z,fX,hx⟩
theorem Qn(F:cP m w R)(hx:jR x)(dI:cO x (ax m (ai R pl))=true)(hd:46∈(ax m (ai R pl)).cps.toList):(dm (putL m (ai R pl) x.cps.toList) w).length<(dm m w).length:=by
 have hl:x.length=(ai R pl).length:=by rw[(iI.mp dI).1,fu]
 unfold dm
 rw[nM]
 have key:∀c∈cells m.length w,qM (putL m (ai R pl) x.cps.toList) c=true->qM m c=true/\c∉ai R pl:=λc mc h=>by
  have hb:=tS mc
  unfold qM at h ⊢
  have h:=gr h
  rcases C8 F pl hl hb.1 hb.2 with ⟨k,ch,hk,hch,e⟩ | ⟨hn,e⟩
  .have:=hx ch (bM hch)
   rw[e] at h
   lia
  .exact⟨aU (e.symm.trans h),hn⟩
 refine(Qm λc mc h=>(key c mc h).1).2 ?_
 rw[iH] at hd
 obtain⟨c,mc,ec⟩:=cC.mp hd
 have hb:=F.jQ pl c mc
 refine⟨c,Iv hb.1 hb.2,aU ec,il.mpr λz=>?_⟩
 exact(key c (Iv hb.1 hb.2) z).2 mc
def Qo(hk:ks.Nodup)(Fo:jo ks wf (ax m (ai R pl)) ws):dg (ws.filter λx=>!decide (x∈zI m R pl))=pG m R pl ks:=by
 unfold pG
 refine Gn ?_ ((ND _).filter _)
 refine List.Perm.filter _ ?_
 refine(km _).trans ?_
 rw[List.perm_ext_iff_of_nodup (hk.filter _) Fo.nd]
 intro x
 rw[da,Fo.mem]
def Qp:x∈zI m R pl↔∃i,i<R.length/\i≠pl/\ax m (ai R i)=x:=by
 unfold zI
 constructor
 .intro h
  obtain⟨i,hi,e⟩:=cC.mp h
  obtain⟨h1,h2⟩:=da.mp hi
  exact⟨i,ic.mp h1,by simpa using h2,e⟩
 .rintro⟨i,h1,h2,e⟩
  exact cC.mpr ⟨i,da.mpr ⟨ic.mpr h1,by simpa using h2⟩,e⟩
def kT(H:Hp)(r:List C2)(x:V):Prop := ∃t ys,x = .ref t/\H t=some (.tup ys)/\bC H r ys
noncomputable def kC(c:C2):List Key:=[Sum.inl (c.1:Int),Sum.inl (c.2:Int)]
theorem wQ(h:kC c=kC d):c=d:=by
 unfold kC at h
 injection h with h1 h2
 injection h2 with h2
 injection h1 with h1
 injection h2 with h2
 exact Prod.ext (by lia) (by lia)
theorem qX{α β:Type}{R:α->β->Prop}:∀{l1 l2:List α}{m1 m2:List β},Paired R l1 m1->Paired R l2 m2->Paired R (l1++l2) (m1++m2)
 |_,_,_,_,.nil,h=>h
 |_,_,_,_,.cons h t,g=>.cons h (qX t g)
structure jr(H:Hp)(d:Addr)(g:C2->List (Nat×Nat))(ls:List Addr)(n:Nat):Prop where
 ex:∃kvs:List (List Key×V),H d=some (.dT kvs)/\kvs.length<=n/\(∀c,g c=[]->aM kvs (kC c)=none)/\
  (∀c,g c≠[]->∃q zs,aM kvs (kC c)=some (.ref q)/\q∈ls/\H q=some (.lst zs)/\bC H (g c) zs)/\
  (∀c c' q,aM kvs (kC c)=some (.ref q)->aM kvs (kC c')=some (.ref q)->c=c')
def bC.lists{cs:List (Nat×Nat)}(k:∀b o,H b=some (.tup o)->H' b=some (.tup o))(h:bC H cs xs):bC H' cs xs:=Paired.bE h λ_ _ q=>let ⟨b,e,hb⟩:=q;⟨b,e,k _ _ hb⟩
theorem jr.mono{H H':Hp}{d:Addr}{g:C2->List (Nat×Nat)}{ls:List Addr}{n:Nat}(s:ag H H')(h:jr H d g ls n):jr H' d g ls n:=by
 obtain⟨kvs,hd,hl,h1,h2,h3⟩:=h.ex
 refine⟨kvs,s _ _ hd,hl,h1,λc hc=>?_,h3⟩
 obtain⟨q,zs,a,b,e,f⟩:=h2 c hc
 exact⟨q,zs,a,b,s _ _ e,f.mono s⟩
theorem jr.fresh{d p0:Addr}{kvs:List (List Key×V)}(h:jr H d g ls n)(hd:H d=some (.dT kvs))(hp:H p0=none)(hc:g c=[])
  (e1:g' c=[o]) (e2:∀x,x≠c->g' x=g x) (vo:H' d=some (.dT (putK kvs (kC c) (.ref p0)))) (fO:H' p0=some (.lst [u])) (hu:mj H' o u) (k:∀b x,b≠d->b≠p0->H b=some x->H' b=some x):jr H' d g' (p0::ls) (n+1):=by
 obtain⟨ab5,gH,hl,h1,h2,h3⟩:=h.ex
 rw[hd] at gH
 cases gH
 have kt:∀b o,H b=some (.tup o)->H' b=some (.tup o):=λb o e=>k b _ (λz=>by rw[z,hd] at e;cases e) (λz=>by rw[z,hp] at e;cases e) e
 refine⟨_,vo,bL (sT _ _ _) (by lia),λx hx=>?_,λx hx=>?_,λx y q hx hy=>?_⟩
 .by_cases z:x=c
  .rw[z,e1] at hx;cases hx
  .rw[oE,au (λw=>z (wQ w))]
   exact h1 x (by rw[<-e2 x z];exact hx)
 .by_cases z:x=c
  .subst z
   refine⟨p0,[u],by rw[oE,aC rfl],bK,fO,?_⟩
   rw[e1]
   exact .cons hu .nil
  .rw[e2 x z] at hx ⊢
   obtain⟨q,zs,a,b,e,f⟩:=h2 x hx
   refine⟨q,zs,by rw[oE,au (λw=>z (wQ w))];exact a,cW _ b,k q _ (λw=>by rw[w,hd] at e;cases e) (λw=>by rw[w,hp] at e;cases e) e,f.lists kt⟩
 .have old:∀x,x≠c->aM kvs (kC x)=some (.ref q)->q≠p0:=λx z hv w=>by
   by_cases gx:g x=[]
   .rw[h1 x gx] at hv;cases hv
   .obtain⟨q',zs,a,b,e,f⟩:=h2 x gx
    rw[a] at hv
    cases hv
    rw[w,hp] at e
    cases e
  rw[oE] at hx hy
  by_cases zx:x=c <;> by_cases zy:y=c
  .rw[zx,zy]
  .rw[aC (by rw[zx])] at hx
   rw[au (λw=>zy (wQ w))] at hy
   cases hx
   exact absurd rfl (old y zy hy)
  .rw[au (λw=>zx (wQ w))] at hx
   rw[aC (by rw[zy])] at hy
   cases hy
   exact absurd rfl (old x zx hx)
  .rw[au (λw=>zx (wQ w))] at hx
   rw[au (λw=>zy (wQ w))] at hy
   exact h3 x y q hx hy
def jr.more{d q:Addr}{kvs:List (List Key×V)}(h:jr H d g ls n)(hd:H d=some (.dT kvs))(hq:aM kvs (kC c)=some (.ref q))(hz:H q=some (.lst zs))(hc:bC H (g c) zs)
  (e1:g' c=g c++[o]) (e2:∀x,x≠c->g' x=g x) (fX:H' q=some (.lst (zs++[u]))) (hu:mj H' o u) (k:∀b x,b≠q->H b=some x->H' b=some x):jr H' d g' ls n:=by
 obtain⟨ab5,gH,hl,h1,h2,h3⟩:=h.ex
 rw[hd] at gH
 cases gH
 have kt:∀b o,H b=some (.tup o)->H' b=some (.tup o):=λb o e=>k b _ (λz=>by rw[z,hz] at e;cases e) e
 have hgc:g c≠[]:=λz=>by rw[h1 c z] at hq;cases hq
 refine⟨_,k d _ (λz=>by rw[z,hz] at hd;cases hd) hd,hl,λx hx=>?_,λx hx=>?_,h3⟩
 .by_cases z:x=c
  .rw[z,e1] at hx
   simp at hx
  .exact h1 x (by rw[<-e2 x z];exact hx)
 .by_cases z:x=c
  .subst z
   obtain⟨q',Qq,a,b,e,f⟩:=h2 x hgc
   rw[hq] at a
   cases a
   refine⟨q,zs++[u],hq,b,fX,?_⟩
   rw[e1]
   exact qX (hc.lists kt) (.cons hu .nil)
  .rw[e2 x z] at hx ⊢
   obtain⟨q',Qq,a,b,e,f⟩:=h2 x hx
   refine⟨q',Qq,a,b,k q' _ (λw=>?_) e,f.lists kt⟩
   subst w
   exact z (h3 x c q' a hq)
noncomputable def gP(R:List (List C2))(i j:Nat)(c:C2):List (Nat×Nat):=((List.range i).flatMap λi=>((List.range (ai R i).length).filter λk=>decide ((ai R i)[k]? = some c)).map λk=>(i,k))++((List.range j).filter λk=>decide ((ai R i)[k]? = some c)).map λk=>(i,k)
def Qr(h:(ai R i)[j]? = some c):gP R i (j+1) c=gP R i j c++[(i,j)]:=by
 unfold gP
 rw[vg,vh,fG,n9]
 simp[h]
def Qs{x:C2}(h:(ai R i)[j]? = some c)(n:x≠c):gP R i (j+1) x=gP R i j x:=by
 unfold gP
 rw[vg,vh,fG]
 simp[h,aP n]
def ab6(R:List (List C2))(i:Nat)(c:C2):gP R (i+1) 0 c=gP R i (ai R i).length c:=by
 unfold gP
 rw[vg,LJ]
 simp
def ab7(R:List (List C2))(c:C2):gP R R.length 0 c=dq R c:=by
 unfold gP dq
 simp
theorem Qt{R:List (List C2)}(h9:∀i,(ai R i).length<=9)(c:C2):∀i,((List.range i).flatMap λi=>((List.range (ai R i).length).filter λk=>decide ((ai R i)[k]? = some c)).map λk=>(i,k)).length<=9*i
 |0=>by simp
 |i+1=>by
  have ih:=Qt h9 c i
  rw[vg,LJ,d6]
  have e:=nY (λk=>decide ((ai R i)[k]? = some c)) (List.range (ai R i).length)
  rw[i5] at e
  have:=h9 i
  simp only[List.flatMap_cons,List.flatMap_nil,dS,av]
  lia
theorem ab8(h9:∀i,(ai R i).length<=9)(i j:Nat)(c:C2):(gP R i j c).length<=9*i+j:=by
 have h1:=Qt h9 c i
 have e:=nY (λk=>decide ((ai R i)[k]? = some c)) (List.range j)
 rw[i5] at e
 unfold gP
 rw[d6,av]
 lia
def ab9(R:List (List C2))(c:C2):gP R 0 0 c=[]:=rfl
def Qu(A:List α)(p:α->Bool)(d:α):((List.range A.length).filter λk=>p (A.getD k d)).map (λk=>A.getD k d)=A.filter p:=by
 have e:(List.range A.length).map (λk=>A.getD k d)=A:=by
  apply i6
  intro i
  rw[bF]
  by_cases h:i<A.length
  .rw[rY h,bt h,i0,cz,bt h,qi]
  .rw[di (by simpa using h),di (by simpa using h)]
   rfl
 have:=EO (f:=λk=>A.getD k d) (p:=p) (l:=List.range A.length)
 rw[e] at this
 rw[this]
 rfl
theorem ID{α β γ:Type}{S:β->γ->Prop}{g:α->β}:∀{l:List α}{m:List γ},Paired (λa y=>S (g a) y) l m->Paired S (l.map g) m
 |_,_,.nil=>.nil
 |_,_,.cons h t=>.cons h (ID t)
def aca{p:Nat×Nat->Bool}{us vs:List V}(h:bC H A us)(pr:Paired (λk y=>us[k]? = some y) ((List.range us.length).filter λk=>p (A.getD k (0,0))) vs):bC H (A.filter p) vs:=by
 rw[<-Qu A p (0,0)]
 have hl:=h.length
 rw[hl]
 refine ID (Paired.bE pr λk y e=>?_)
 obtain⟨o,ho,hc⟩:=Paired.get h e
 rw[cz,ho]
 exact hc
theorem acb(G:GoodR R){k:Nat}(h:(ai R pl)[k]? = some c):(dq R c).length<=2:=by
 obtain⟨p,e,_⟩:=C6 G h
 have e1:(dq R c).countP (λp=>!decide (p.1=pl))=1:=by
  rw[List.countP_eq_length_filter]
  show(wK R pl c).length=1
  rw[e]
  rfl
 have e2:(dq R c).countP (λp=>decide (p.1=pl))<=1:=by
  rw[List.countP_eq_length_filter]
  have nd:=(Iz R c).filter (λp=>decide (p.1=pl))
  have u:∀y∈(dq R c).filter (λp=>decide (p.1=pl)),y=(pl,k):=λy my=>by
   obtain⟨m1,m2⟩:=da.mp my
   have hy:=qV.mp m1
   have h1:y.1=pl:=gr m2
   rw[h1] at hy
   have h2:y.2=k:=(List.getElem?_inj (nL hy).2 (G.nd pl)).mp (hy.trans h.symm)
   exact Prod.ext h1 h2
  cases hl:(dq R c).filter (λp=>decide (p.1=pl)) with
  |nil=>exact bW _
  |cons a r=>
   have m:(pl,k)∈(dq R c).filter (λp=>decide (p.1=pl)):=by
    rw[<-u a (by rw[hl];exact bK),hl]
    exact bK
   rw[<-hl,P8 nd m u]
   exact aQ _
 have:=List.length_eq_countP_add_countP (l:=dq R c) (λp=>decide (p.1=pl))
 have e3:(dq R c).countP (λa=>decide ¬(decide (a.1=pl))=true)=(dq R c).countP (λp=>!decide (p.1=pl)):=by
  congr 1
  funext a
  by_cases z:a.1=pl <;> simp[z]
 rw[e3] at this
 lia
section
variable{P:Program}{w:World}{K:Frag}{mg:Str->Option Value}{base:Heap}{f:Addr}{fd:FuncData}
def Qv(K:Frag):Sp:=λvs H Q _=>∃(d t:Addr) (R:List (List C2)) (pl:Nat) (ys:List V) (ls:List Addr),vs=[.ref d,.int pl,.ref t]/\(∃n,jr H d (dq R) ls n)/\H t=some (.tup ys)/\bC H (ai R pl) ys/\pl<R.length/\GoodR R/\(ai R pl).length<=9/\
 ∀p zs H',H p=none->ag H H'->H' p=some (.lst zs)->bC H' (jn R pl) zs->Q (.ref p) H'
def IE:bu ["through","place","cells","crossings","cell"] ["through","place","cells"] (aN (top 49)):={}
theorem acd(F:aZ K "crossings_on" "crossings_on" (top 49) f fd):aK P w K mg base aS 1 f fd ["through","place","cells"] (Qv K):=by
 refine F.bU IE λaF A outer s H vs Q E hr h=>?_
 refine hide λG_ aG=>?_
 obtain⟨d,t,R,pl,ys,ls,rfl,hD,ht,hC,aL,G,h9,q⟩:=h
 refine aG.k ?_
 have cX:=iy hr
 refine⟨_,(az (aX 3 IE.nd (eE aj))
  (az (dJ (Fu (pv 2)) (cD 4 IE.nd)
  (aB (dZ (gE j6 PySem.F.slot_list_extend PySem.F.type_list_extend V3 (pv 3) (af (jg (js:=[1]) (ns:=["place"]) (eD (BG cX (pv 0) (pv 4) (λ_ _=>rfl))) rfl rfl rfl rfl (λ_ _ _ _=>(oH (cK qu (yC (K:=K) (rr:=ya) rfl cY (pv 0) aI) (pv 1)))) (λ_ _ _ _=>(pv 0))) aj)))))
  (aB (bg (pv 3))))),?_⟩
 try dsimp only[bJ]
 refine hide λG_ bw=>?_
 obtain⟨nn,hD⟩:=hD
 obtain⟨kvs,hd,nz,iN,C9,ace⟩:=hD.ex
 refine bw.k ?_
 have tm:=hC.length
 refine⟨bW _,λp hp=>?_⟩
 have s0:ag H (upd H p (.lst [])):=ag.upd hp
 refine⟨_,rfl,t,rfl,⟨_,aA.of (s0 _ _ ht)⟩,?_⟩
 refine UT (K:=K) (xs:=ys) (λi O H2=>∃v4 zs,O=[some (.ref d),some (.int (pl:Int)),some (.ref t),some (.ref p),v4]/\ag H H2/\H2 p=some (.lst zs)/\bC H2 (((ai R pl).take i).flatMap (wK R pl)) zs/\zs.length<=i)
  ⟨none,[],rfl,s0,ao,.nil,aQ _⟩ ?_ ?_ ?_
 .rintro i O H2 _ ⟨v4,zs,rfl,s2,_⟩
  exact aA.of (s2 _ _ ht)
 .intro i x O H2 hx acf
  refine hide λG_ cq=>?_
  obtain⟨v4,zs,rfl,s2,gF,hz,IF⟩:=acf
  obtain⟨c,hc,b,rfl,hb⟩:=Paired.get hC hx
  have hi:=(bR.mp hx).1
  have l7:H2 b=some (.tup ((kC c).map kV)):=s2 _ _ hb
  have qo:dq R c≠[]:=λz=>by
   have:=qV (p:=(pl,i)).mpr hc
   rw[z] at this
   cases this
  obtain⟨qa,us,acg,hql,jL,yr⟩:=C9 c qo
  refine cq.k ?_
  have IG:=yr.length
  have h2:=acb G hc
  have hg:dQ H2 d (.ref b) (some (.ref qa)):=by rw[<-acg];exact dQ.t (s2 _ _ hd) l7
  have Qw:=s2 _ _ jL
  refine⟨_,rfl,.inl ⟨rfl,_,aq.of gF⟩,_,rfl,_,rfl,d,.ref qa,rfl,hg,qa,rfl,⟨_,aq.of Qw⟩,?_⟩
  refine nj (kh (K:=K) (xs:=us)) (by lia) (λk=>!decide (((dq R c).getD k (0,0)).1=pl)) (λ_ k y _=>us[k]? = some y) (λH3 s3=>aq.of (s3 _ _ Qw)) (λ_ _ _ _ _ _ _ _ h=>h) ?_ ?_
  .intro D k y H3 Z0 Z hD hy s3 _ k0 k1
   obtain⟨o,ho,ob,rfl,nv⟩:=Paired.get yr hy
   have ach:=s3 _ _ (s2 _ _ nv)
   have Qx:(dq R c).getD k (0,0)=o:=by rw[cz,ho];rfl
   refine⟨_,rfl,ob,_,0,.int (o.1:Int),rfl,rfl,aA.of ach,rfl,_,rfl,rfl,_,rfl,?_⟩
   by_cases z:o.1=pl
   .rw[aU (by rw[z])]
    exact bj (k0 _ (ag.dM _) (by show(!decide _)=false;rw[Qx,aU z];rfl))
   .rw[bf (λy=>z (by injection y with y;lia))]
    exact bA ⟨_,rfl,k1 _ _ (ag.dM _) (by show(!decide _)=true;rw[Qx,bf z];rfl) hy⟩
  .intro D vs H3 hD bO s3 pr
   have Qy:ag H H3:=s2.trans s3
   have wR:bC H3 (wK R pl c) vs:=by
    have e:=aca (A:=dq R c) (p:=λo=>!decide (o.1=pl)) (bC.mono Qy yr) pr
    exact e
   have IH:=wR.length
   obtain⟨o1,eo,_⟩:=C6 G hc
   rw[eo] at IH
   have IH:vs.length=1:=IH.symm
   have jt:=s3 _ _ gF
   have nD:D≠p:=λz=>by rw[z,gF] at hD;cases hD
   refine⟨p,D,zs,vs,rfl,rfl,jt,bO,AO (ki (by lia)),?_⟩
   have hn:H p=none:=hp
   have sU:ag H (upd H3 p (.lst (zs++vs))):=λb o e=>by rw[ak (bh e hn)];exact Qy _ _ e
   refine⟨_,zs++vs,rfl,sU,ao,?_,by rw[d6];lia⟩
   have tk:(ai R pl).take (i+1)=(ai R pl).take i++[c]:=by rw[ik,hc];rfl
   rw[tk,LJ]
   refine qX (bC.off ⟨_,jt⟩ (λb o hb e=>by rw[ak hb];exact e) (bC.mono s3 hz)) ?_
   simpa using bC.off ⟨_,jt⟩ (λb o hb e=>by rw[ak hb];exact e) wR
 .intro O H2 aci
  refine hide λG_ dE=>?_
  obtain⟨v4,zs,rfl,s2,gF,hz,IF⟩:=aci
  refine dE.k ?_
  rw[gs (by lia)] at hz
  exact⟨_,rfl,q p zs H2 hp s2 gF hz⟩
def Qz(K:Frag):Sp:=λvs H Q _=>∃(a:Addr) (R:List (List C2)) (xs:List V),vs=[.ref a]/\H a=some (.lst xs)/\Paired (kT H) R xs/\GoodR R/\R.length<=162/\(∀i,(ai R i).length<=9)/\
 ∀p zs H',H p=none->ag H H'->H' p=some (.lst zs)->Paired (λi x=>∃q us,x = .ref q/\H q=none/\H' q=some (.lst us)/\bC H' (jn R i) us) (List.range R.length) zs->Q (.ref p) H'
def wU:bu ["rows","through","place","cells","at","cell"] ["rows"] (aN (top 48)):={}
theorem acj(B:Bl mg)(F:aZ K "crossings_of" "crossings_of" (top 48) f fd)(ack:Fn P w K mg base "crossings_on" 1 (Qv K)):aK P w K mg base aS 2 f fd ["rows"] (Qz K):=by
 refine F.bU wU λaF A outer s H vs Q E hr h=>?_
 refine hide λG_ aG=>?_
 obtain⟨a,R,xs,rfl,ha,hR,G,mC,h9,q⟩:=h
 refine aG.k ?_
 have cX:=iy hr
 refine⟨_,(az (aX 1 wU.nd FY)
  (az (dJ (GL (by rfl) B.ze (af (pv 0) aj)) (om rfl (gy (cD 2 wU.nd) (gy (cD 3 wU.nd) oj)))
  (aB (dJ (Yt (by rfl) B.ze (af (pv 3) aj)) (om rfl (gy (cD 4 wU.nd) (gy (cD 5 wU.nd) oj)))
   (aB (dZ (gE j6 lA lB jf (Y5 cX (pv 1) (pv 5) (eE aj) ⟨rfl,rfl,rfl,rfl⟩) (af (eZ (af (pv 2) (af (pv 4) aj))) aj)))))))
  (aB (bg (WY (js:=[1]) (ns:=["through"]) (GL (by rfl) B.ze (af (pv 0) aj)) rfl rfl rfl rfl (λ_ _ _ _=>lU) (λ_ _ _ _=>(bD ack hr (af (pv 2) (af (pv 0) (af (pv 1) aj)))))))))),?_⟩
 try dsimp only[bJ]
 intro d gH
 have dX:ag H (upd H d (.dT [])):=ag.upd gH
 have t0:jr (upd H d (.dT [])) d (gP R 0 0) [] 0:=⟨[],ao,aQ _,λ_ _=>rfl,λc hc=>absurd (ab9 R c) hc,λc c' q h=>by cases h⟩
 generalize upd H d (.dT [])=H0 at dX t0
 have fQ:=hR.length
 refine⟨_,rfl,a,xs,rfl,aq.of (dX _ _ ha),?_⟩
 refine NT (K:=K) (xs:=xs) (λi O H2=>∃v2 v3 v4 v5 ls n,O=[some (.ref a),some (.ref d),v2,v3,v4,v5]/\ag H H2/\(∀q∈ls,H q=none)/\n<=9*i/\jr H2 d (gP R i 0) ls n)
  ⟨none,none,none,none,[],0,rfl,dX,(λ_ m=>nomatch m),aQ _,t0⟩ ?_ ?_ ?_
 .rintro i O H2 _ ⟨v2,v3,v4,v5,ls,n,rfl,s2,_⟩
  exact aq.of (s2 _ _ ha)
 .intro i x pt O H2 hx acm hpt
  refine hide λG_ bw=>?_
  obtain⟨v2,v3,v4,v5,ls,n,rfl,s2,qY,hn,T2⟩:=acm
  obtain⟨row,hq,t,ys,rfl,ht,gD⟩:=Paired.get hR hx
  refine bw.k ?_
  have hi:i<R.length:=by rw[fQ];exact(bR.mp hx).1
  have iW:ai R i=row:=by unfold ai;rw[cz,hq];rfl
  have tm:=gD.length
  have h9i:=h9 i
  rw[iW] at h9i
  have su:ag H2 (upd H2 pt (.tup [.int i,.ref t])):=ag.upd hpt
  refine⟨pt,_,rfl,aA.of ao,rfl,_,_,rfl,_,_,rfl,rfl,?_⟩
  have yF:=s2.trans su
  have QA:=T2.mono su
  generalize upd H2 pt (.tup [.int i,.ref t])=H3 at su yF QA
  refine⟨_,rfl,t,ys,rfl,aA.of (yF _ _ ht),?_⟩
  refine Yv (K:=K) (xs:=ys) (λj O H4=>∃v4 v5 ls n,O=[some (.ref a),some (.ref d),some (.int (i:Int)),some (.ref t),v4,v5]/\ag H H4/\(∀q∈ls,H q=none)/\n<=9*i+j/\jr H4 d (gP R i j) ls n)
   ⟨v4,v5,ls,n,rfl,yF,qY,hn,QA⟩ ?_ ?_ ?_
  .rintro j O H4 _ ⟨v4,v5,ls,n,rfl,s4,_⟩
   exact aA.of (s4 _ _ ht)
  .intro j y pu O H4 hy acn hpu
   refine hide λG_ cq=>?_
   obtain⟨v4,v5,ls,n,rfl,s4,qY,hn,T4⟩:=acn
   obtain⟨c,hc,b,rfl,hb⟩:=Paired.get gD hy
   refine cq.k ?_
   have hj:j<ys.length:=(bR.mp hy).1
   have Dc:(ai R i)[j]? = some c:=by rw[iW];exact hc
   have sv:ag H4 (upd H4 pu (.tup [.int j,.ref b])):=ag.upd hpu
   refine⟨pu,_,rfl,aA.of ao,rfl,_,_,rfl,_,_,rfl,rfl,?_⟩
   have s5:=s4.trans sv
   have T5:=T4.mono sv
   generalize upd H4 pu (.tup [.int j,.ref b])=H5 at sv s5 T5
   refine hide λG_ dE=>?_
   obtain⟨kvs,wV,nz,iN,C9,ace⟩:=id T5.ex
   refine dE.k ?_
   have hb5:H5 b=some (.tup ((kC c).map kV)):=s5 _ _ hb
   refine⟨_,rfl,d,rfl,.inr ⟨kvs,.inl wV⟩,_,rfl,bW _,λp0 iC=>?_⟩
   have s6:ag H5 (upd H5 p0 (.lst [])):=ag.upd iC
   refine⟨kvs,kC c,b,s6 _ _ wV,rfl,s6 _ _ hb5,ki (by lia),λv hv=>?_,λhv=>?_⟩
   .have hg:gP R i j c≠[]:=λz=>by rw[iN c z] at hv;cases hv
    refine hide λG_ hU=>?_
    obtain⟨qa,zs,De,hq2,zM,QB⟩:=C9 c hg
    refine hU.k ?_
    rw[De] at hv
    cases hv
    have IF:=QB.length
    have hgl:=ab8 h9 i j c
    have T6:=T5.mono s6
    refine⟨.inl ⟨rfl,_,aq.of (s6 _ _ zM)⟩,_,rfl,_,rfl,(show 2<=sizeLine by decide),λu hu=>?_⟩
    have s7:ag (upd H5 p0 (.lst [])) (upd (upd H5 p0 (.lst [])) u (.tup [.int (i:Int),.int (j:Int)])):=ag.upd hu
    have Df:upd (upd H5 p0 (.lst [])) u (.tup [.int (i:Int),.int (j:Int)]) u=some (.tup [.int (i:Int),.int (j:Int)]):=ao
    have T7:=T6.mono s7
    have zN:=s6.trans s7
    generalize upd (upd H5 p0 (.lst [])) u (.tup [.int (i:Int),.int (j:Int)])=H7 at s7 T7 zN Df
    have II:=zN _ _ zM
    have nu:u≠qa:=λz=>by rw[z,II] at Df;cases Df
    refine⟨qa,zs,_,rfl,rfl,II,ki (by lia),?_⟩
    have wW:=qY qa hq2
    refine⟨_,_,ls,n,rfl,λb o e=>?_,qY,by lia,T7.more (zN _ _ wV) De II (QB.mono zN) (Qr Dc) (λx z=>Qs Dc z) ao ⟨u,rfl,by rw[ak nu];exact Df⟩ λb o hb e=>by rw[ak hb];exact e⟩
    rw[ak (bh e wW)]
    exact zN _ _ (s5 _ _ e)
   .have hg:gP R i j c=[]:=E2 λz=>by
     obtain⟨qa,zs,De,_⟩:=C9 c z
     rw[De] at hv
     cases hv
    have QC:d≠p0:=λz=>by rw[z,iC] at wV;cases wV
    have QD:H p0=none:=by
     cases e:H p0 with
     |none=>rfl
     |some o=>rw[s5 _ _ e] at iC;cases iC
    have IJ:upd (upd H5 p0 (.lst [])) d (.dT (putK kvs (kC c) (.ref p0))) p0=some (.lst []):=by rw[ak (aP QC)];exact ao
    refine⟨.inl ⟨rfl,_,aq.of IJ⟩,_,rfl,_,rfl,(show 2<=sizeLine by decide),λu hu=>?_⟩
    have QE:u≠p0:=λz=>by rw[z,IJ] at hu;cases hu
    have nud:u≠d:=λz=>by rw[z,ao] at hu;cases hu
    refine⟨p0,[],_,rfl,rfl,by rw[ak (aP QE)];exact IJ,ki (by simp),?_⟩
    refine⟨_,_,p0::ls,n+1,rfl,λb o e=>?_,λx m=>?_,by lia,T5.fresh wV iC hg (by rw[Qr Dc,hg];rfl) (λx z=>Qs Dc z) ?_ ao ⟨u,rfl,?_⟩ λb o h1 h2 e=>?_⟩
    .have e5:=s5 _ _ e
     have IK:b≠d:=bh e gH
     have qZ:b≠p0:=bh e QD
     have IL:b≠u:=λz=>by
      rw[z] at e5 IK qZ
      rw[ak IK,ak qZ,e5] at hu
      cases hu
     rw[ak qZ,ak IL,ak IK,ak qZ]
     exact e5
    .rcases cx.mp m with z | z
     .rw[z];exact QD
     .exact qY x z
    .rw[ak QC,ak (aP nud),ao]
    .rw[ak QE,ao]
    .have IL:b≠u:=λz=>by
      rw[z] at e h1 h2
      rw[ak h1,ak h2,e] at hu
      cases hu
     rw[ak h2,ak IL,ak h1,ak h2]
     exact e
  .intro O H4 aco
   refine hide λG_ ml=>?_
   obtain⟨v4,v5,ls,n,rfl,s4,qY,hn,T4⟩:=aco
   refine ml.k ?_
   refine⟨_,_,_,_,ls,n,rfl,s4,qY,by lia,?_⟩
   have eg:gP R (i+1) 0=gP R i ys.length:=by
    funext c
    rw[ab6,iW,tm]
   rw[eg]
   exact T4
 .intro O H2 acp
  refine hide λG_ mn=>?_
  obtain⟨v2,v3,v4,v5,ls,n,rfl,s2,qY,hn,T2⟩:=acp
  refine mn.k ?_
  rw[<-fQ] at T2
  have T3:jr H2 d (dq R) ls n:=by
   have eg:gP R R.length 0=dq R:=funext λc=>ab7 R c
   rw[<-eg]
   exact T2
  refine⟨_,rfl,a,xs,rfl,aq.of (s2 _ _ ha),?_⟩
  refine Yx (by lia) (aq.of (s2 _ _ ha)) (λ_=>true) (λD i y H5=>∃qa us,y = .ref qa/\qa≠D/\H qa=none/\H5 qa=some (.lst us)/\bC H5 (jn R i) us) ?_ ?_ ?_
  .intro D i y Ha Hb hD ho k acq
   refine hide λG_ ui=>?_
   obtain⟨qa,us,rfl,n1,n2,n3,n4⟩:=acq
   refine ui.k ?_
   exact⟨qa,us,rfl,n1,n2,k _ _ n1 n3,n4.off ho k⟩
  .intro D i x H5 Z0 Z hD hx s5 ho k0 k1
   refine hide λG_ uj=>?_
   obtain⟨row,hq,t,ys,rfl,ht,gD⟩:=Paired.get hR hx
   refine uj.k ?_
   have hi:i<R.length:=by rw[fQ];exact(bR.mp hx).1
   have iW:ai R i=row:=by unfold ai;rw[cz,hq];rfl
   have IM:=s2.trans s5
   refine bA (B:=Z0 H5) ⟨_,rfl,_,rfl,_,rfl,d,t,R,i,ys,ls,rfl,⟨n,T3.mono s5⟩,IM _ _ ht,by rw[iW];exact gD.mono IM,hi,G,h9 i,λqa us H6 wW s6 hqs hqc=>?_⟩
   obtain⟨o,ho⟩:=ho
   refine k1 _ _ s6 rfl ⟨qa,us,rfl,(λz=>by rw[z,ho] at wW;cases wW),?_,hqs,hqc⟩
   cases e:H qa with
   |none=>rfl
   |some o'=>rw[IM _ _ e] at wW;cases wW
  .intro D zs H5 hD bO s5 pr
   refine q D zs H5 ?_ (s2.trans s5) bO ?_
   .cases e:H D with
    |none=>rfl
    |some o'=>rw[s2 _ _ e] at hD;cases hD
   .rw[List.filter_eq_self.mpr (λ_ _=>rfl)] at pr
    rw[fQ]
    exact Paired.bE pr λi y h=>let ⟨qa,us,e1,_,e3,e4,e5⟩:=h;⟨qa,us,e1,e3,e4,e5⟩
end
noncomputable def fw(sh ce cr wo kn:V):List (Str×V):=aR "known" kn (aR "worths" wo (aR "crossings" cr (aR "cells" ce (aR "sheet" sh []))))
def Dg(sh ce cr wo kn:V):(fw sh ce cr wo kn).lookup ("known":Str)=some kn:=by
 unfold fw
 rw[de,aC rfl]
def acs(sh ce cr wo kn:V):(fw sh ce cr wo kn).lookup ("worths":Str)=some wo:=by
 unfold fw
 rw[de,au (by decide +kernel),de,aC rfl]
def acu(sh ce cr wo kn:V):(fw sh ce cr wo kn).lookup ("crossings":Str)=some cr:=by
 unfold fw
 rw[de,au (by decide +kernel),de,au (by decide +kernel),de,aC rfl]
def QF(sh ce cr wo kn:V):(fw sh ce cr wo kn).lookup ("cells":Str)=some ce:=by
 unfold fw
 rw[de,au (by decide +kernel),de,au (by decide +kernel),de,au (by decide +kernel),de,aC rfl]
def acv(sh ce cr wo kn:V):(fw sh ce cr wo kn).lookup ("sheet":Str)=some sh:=by
 unfold fw
 rw[de,au (by decide +kernel),de,au (by decide +kernel),de,au (by decide +kernel),de,au (by decide +kernel),de,aC rfl]
def gN(Z:Addr->Prop)(H:Hp)(ks:List Str)(wf:Str->Int)(t:Str)(v:V):Prop := ∃q ws,v = .ref q/\Z q/\H q=some (.lst (ws.map V.str))/\jo ks wf t ws/\ws.length<=64
structure gh(Z:Addr->Prop)(M:Str->Prop)(H:Hp)(ks:List Str)(wf:Str->Int)(kvs:List (Key×V)):Prop where
 nd:(kvs.map (·.1)).Nodup
 key:∀k∈kvs.map (·.1),∃x,k=Sum.inr x/\M x
 fit:∀x v,aM kvs (Sum.inr x:Key)=some v->gN Z H ks wf x v
def zO(M:Str->Prop):Prop := ∀l:List Key,l.Nodup->(∀k∈l,∃x,k=Sum.inr x/\M x)->l.length<sizeLine
def gN.keep{t:Str}(k:∀b o,H b=some (.lst o)->Z b->H' b=some (.lst o))(h:gN Z H ks wf t v):gN Z H' ks wf t v:=let ⟨q,ws,e,z,a,b,c⟩:=h;⟨q,ws,e,z,k _ _ a z,b,c⟩
def acw{k:Key}(h:aM kvs k=none):k∉kvs.map (·.1):=by
 induction kvs with
 |nil=>simp
 |cons p r ih=>
  obtain⟨k',v⟩:=p
  intro m
  unfold aM at h ih
  by_cases z:k'=k
  .simp[ve,z] at h
  .simp only[ve,bf z] at h
   rcases cx.mp m with w | w
   .exact z w.symm
   .exact ih h w
def QG(p:Str->Bool):((List.range ws.length).filter λk=>p (ws.getD k ⟨#[]⟩)).map (λk=>V.str (ws.getD k ⟨#[]⟩))=(ws.filter p).map V.str:=by
 rw[<-Qu ws p ⟨#[]⟩,mV]
 rfl
section
variable{P:Program}{w:World}{K:Frag}{mg:Str->Option Value}{base:Heap}{f:Addr}{fd:FuncData}
def QH(K:Frag)(C:Addr):Sp:=λvs H Q _=>∃(g dx l kn:Addr) (sh ce cr wo:V) (ws ks:List Str) (wf:Str->Int) (t:Str) (a ch:Nat) (kvs:List (Key×V)) (Z:Addr->Prop) (M:Str->Prop),vs=[.ref g,.ref l,.str (bP t a ch),.int (a:Int)]/\H g=some (.ins C dx (fw sh ce cr wo (.ref kn)))/\H kn=some (.dK kvs)/\gh Z M H ks wf kvs/\zO M/\
 H l=some (.lst (ws.map V.str))/\jo ks wf t ws/\ws.length<=64/\a<t.length/\t.length<=1000/\t.cps.toList.getD a 0=46/\ch≠46/\M (bP t a ch)/\(∀q,H q=none->Z q)/\
 ∀H' rb v,(∀b o,b≠kn->H b=some o->H' b=some o)->H' kn=some (.dK rb)->gh Z M H' ks wf rb->gN Z H' ks wf (bP t a ch) v->Q v H'
def acx:bu ["self","words","signs","at"] ["self","words","signs","at"] (aN (inClass (top 45) 1)):={}
theorem acy(F:aZ K "narrowed" "Ground.narrowed" (inClass (top 45) 1) f fd)(T:cS K C)(nk:bQ K C "known"):aK P w K mg base aS 1 f fd ["self","words","signs","at"] (QH K C):=by
 refine F.bU acx λaF A outer s H vs Q E hr h=>?_
 refine hide λG_ aG=>?_
 obtain⟨g,dx,l,kn,sh,ce,cr,wo,ws,ks,wf,t,a,ch,kvs,Z,M,rfl,hg,hk,hK,hM,hl,hF,dW,ha,ht,dz,hch,hm,hZ,q⟩:=h
 refine aG.k ?_
 have cX:=iy hr
 refine⟨_,(az (cn (xR (MX cX (pv 2) (du (pv 0) rfl)))
  (aB (vM cX (du (pv 0) rfl) (pv 2) (jg (js:=[3,2]) (ns:=["at","signs"]) (eD (pv 1)) rfl rfl rfl rfl (λ_ _ _ _=>(oH (cK m4 (bG oy (pv 0) (pv 1)) (bG oy (pv 2) (pv 1))))) (λ_ _ _ _=>(pv 0))) rfl))
  cH)
  (aB (bg (BG cX (du (pv 0) rfl) (pv 2) (λ_ _=>rfl))))),?_⟩
 try dsimp only[bJ]
 refine⟨_,rfl,_,rfl,g,C,dx,_,_,rfl,hg,T,nk,Dg ..,kn,_,rfl,dQ.k (k:=Sum.inr (bP t a ch)) hk,_,rfl,?_⟩
 cases hv:aM kvs (Sum.inr (bP t a ch):Key) with
 |some v=>exact bj ⟨_,rfl,g,C,dx,_,_,rfl,hg,T,nk,Dg ..,_,rfl,kn,v,rfl,hv ▸ dQ.k (k:=Sum.inr (bP t a ch)) hk,q H kvs v (λ_ _ _ e=>e) hk hK (hK.fit _ _ hv)⟩
 |none=>
  refine bA ⟨_,rfl,l,rfl,⟨_,aq.of hl⟩,?_⟩
  have oQ:(bP t a ch).length=t.length:=y9 ha
  have Dh:(bP t a ch).cps.toList[a]? = some ch:=by
   have h1:=C7 (x:=t) (j:=a) (ch:=ch) (k:=a) ha ha
   rw[aC rfl,cz] at h1
   have h2:a<(bP t a ch).cps.toList.length:=by show a<(bP t a ch).cps.size;exact(show a<(bP t a ch).length from by lia)
   rw[bt h2] at h1 ⊢
   exact eX some h1
  refine nj (kh (K:=K) (xs:=ws.map V.str)) (by rw[av];lia) (λk=>decide ((ws.getD k ⟨#[]⟩).cps.toList.getD a 0=ch)) (λ_ k y _=>y = .str (ws.getD k ⟨#[]⟩)) (λH3 s3=>aq.of (s3 _ _ hl)) (λ_ _ _ _ _ _ _ _ h=>h) ?_ ?_
  .intro D k y H3 Z0 Z' hD hy s3 _ k0 k1
   rw[bF] at hy
   obtain⟨x,hx,rfl⟩:=i3.mp hy
   have pI:ws.getD k ⟨#[]⟩=x:=by rw[cz,hx];rfl
   have uk:=((hF.mem x).mp (bM hx)).2
   have fQ:=(iI.mp uk).1
   obtain⟨c,hc⟩:∃c,x.cps.toList[a]? = some c:=⟨_,bt (show a<x.cps.toList.length from by show a<x.cps.size;exact(show a<x.length from by lia))⟩
   refine⟨_,rfl,_,rfl,x,_,c,rfl,rfl,iA (by lia),eF hc,_,rfl,_,rfl,_,_,ch,rfl,rfl,iA (by lia),eF Dh,rfl,_,rfl,?_⟩
   rw[CT]
   by_cases z:c=ch
   .rw[aU z]
    exact bA ⟨_,rfl,k1 _ _ (ag.dM _) (by show decide _=true;rw[pI,cz,hc];exact aU z) (by rw[pI])⟩
   .rw[bf z]
    exact bj (k0 _ (ag.dM _) (by show decide _=false;rw[pI,cz,hc];exact bf z))
  .intro D ys H3 hD bO s3 pr
   have e:=CM pr
   rw[av,QG (λx=>decide (x.cps.toList.getD a 0=ch))] at e
   subst e
   have eA:=s3 _ _ hk
   have nkD:D≠kn:=λz=>by rw[z,hk] at hD;cases hD
   refine⟨_,rfl,g,C,dx,_,_,rfl,s3 _ _ hg,T,nk,Dg ..,_,rfl,kn,_,rfl,kf.k (k:=Sum.inr (bP t a ch)) eA ?_,?_⟩
   .have:=hM (kvs.map (·.1)) hK.nd hK.key
    rw[av] at this
    exact this
   have hg4:upd H3 kn (.dK (putK kvs (Sum.inr (bP t a ch)) (.ref D))) g=some (.ins C dx (fw sh ce cr wo (.ref kn))):=by
    rw[ak (λz=>by rw[z,hk] at hg;cases hg)]
    exact s3 _ _ hg
   have nw:=hF.narrow ha dz hch
   have dI:gN Z (upd H3 kn (.dK (putK kvs (Sum.inr (bP t a ch)) (.ref D)))) ks wf (bP t a ch) (.ref D):=⟨D,_,rfl,hZ D hD,by rw[ak nkD];exact bO,nw,bL (nY _ _) dW⟩
   refine⟨_,rfl,g,C,dx,_,_,rfl,hg4,T,nk,Dg ..,_,rfl,kn,.ref D,rfl,?_,q _ (putK kvs (Sum.inr (bP t a ch)) (.ref D)) (.ref D) (λb o hb e=>by rw[ak hb];exact s3 _ _ e) ao ⟨?_,?_,λx v hx=>?_⟩ dI⟩
   .have e2:aM (putK kvs (Sum.inr (bP t a ch):Key) (.ref D)) (Sum.inr (bP t a ch))=some (.ref D):=by rw[oE,aC rfl]
    exact e2 ▸ dQ.k (k:=Sum.inr (bP t a ch)) ao
   .rw[vK _ hv,fG]
    refine rZ.mpr ⟨hK.nd,by simp,λx mx y my z=>?_⟩
    have e3:y=Sum.inr (bP t a ch):=by simpa using my
    rw[z,e3] at mx
    exact acw hv mx
   .rw[vK _ hv,fG]
    intro k mk
    rcases dR.mp mk with z | z
    .exact hK.key k z
    .exact⟨_,by simpa using z,hm⟩
   .rw[oE] at hx
    by_cases z:(Sum.inr x:Key)=Sum.inr (bP t a ch)
    .rw[aC z] at hx
     cases hx
     injection z with z
     rw[z]
     exact dI
    .rw[au z] at hx
     refine(hK.fit x v hx).keep λb o e _=>?_
     rw[ak (λw=>by rw[w,hk] at e;cases e)]
     exact s3 _ _ e
end
noncomputable def iJ(g p f:V):List (Str×V):=aR "fits" f (aR "patterns" p (aR "ground" g []))
def wX(g p f:V):(iJ g p f).lookup ("fits":Str)=some f:=by
 unfold iJ
 rw[de,aC rfl]
def zP(g p f:V):(iJ g p f).lookup ("patterns":Str)=some p:=by
 unfold iJ
 rw[de,au (by decide +kernel),de,aC rfl]
def wY(g p f:V):(iJ g p f).lookup ("ground":Str)=some g:=by
 unfold iJ
 rw[de,au (by decide +kernel),de,au (by decide +kernel),de,aC rfl]
section
variable{P:Program}{w:World}{K:Frag}{mg:Str->Option Value}{base:Heap}{f:Addr}{fd:FuncData}
def IP(C:Addr):Sp:=λvs H Q _=>∃(s dx:Addr) (g p f:V),vs=[.ref s,g,p,f]/\H s=some (.ins C dx [])/\∀H':Hp,H' s=some (.ins C dx (iJ g p f))->(∀b o,b≠s->H b=some o->H' b=some o)->Q .aw H'
def acz:bu ["self","ground","patterns","fits"] ["self","ground","patterns","fits"] (aN (inClass (top 46) 0)):={}
def acA(F:aZ K "__init__" "Standing.__init__" (inClass (top 46) 0) f fd)(T:cS K C)(ng:bQ K C "ground")(np:bQ K C "patterns")(nf:bQ K C "fits"):aK P w K mg base aS 1 f fd ["self","ground","patterns","fits"] (IP C):=by
 refine F.bU acz λaF A outer s H vs Q E hr h=>?_
 refine hide λG_ aG=>?_
 obtain⟨s,dx,g,p,f,rfl,hs,q⟩:=h
 refine aG.k ?_
 refine⟨_,(az (lJ (pv 0) (pv 1) rfl)
  (az (lJ (pv 0) (pv 2) rfl)
  (aB (lJ (pv 0) (pv 3) rfl)))),?_⟩
 try dsimp only[bJ]
 refine⟨_,rfl,_,rfl,s,C,dx,[],rfl,hs,T,ng,(by show 0<1000;decide),?_⟩
 refine⟨_,rfl,_,rfl,s,C,dx,_,rfl,ao,T,np,(by show 1<1000;decide),?_⟩
 refine⟨_,rfl,_,rfl,s,C,dx,_,rfl,ao,T,nf,(by
  have h:¬(Str.ofString "ground")=Str.ofString "patterns":=by decide +kernel
  show(aR (Str.ofString "patterns") p [(Str.ofString "ground",g)]).length<1000
  rw[aR,au h,aR]
  show 2<1000
  decide),?_⟩
 exact q _ ao λb o hb e=>by rw[ak hb,ak hb,ak hb];exact e
def acB(h:x∈ps):qw (.str x) (ps.map V.str)=true:=by
 unfold qw
 rw[List.any_map,vf]
 exact⟨x,h,by simp[lP]⟩
def acC(h:x∉ps):qw (.str x) (ps.map V.str)=false:=by
 unfold qw
 rw[List.any_map,List.any_eq_false]
 intro y my z
 have z:lP (.str y) (.str x)=true:=z
 have:y=x:=by simpa[lP] using z
 exact h (this ▸ my)
def acD(ss:List Str)(j:Nat):jH (ss.map V.str) none (some (j:Int))=(ss.take j).map V.str:=by
 unfold jH
 rw[HT.MB,HT.Bz,List.drop_zero,Nat.sub_zero,List.map_take,av]
 rcases Nat.le_total j ss.length with h | h
 .rw[LN h]
 .rw[Nat.min_eq_right h,gs (by simp),gs (by simpa using h)]
def acE(ss:List Str)(j:Nat):jH (ss.map V.str) (some (j:Int)) none=(ss.drop j).map V.str:=by
 unfold jH
 rw[HT.MB,HT.Bz,List.map_drop,av]
 rcases Nat.le_total j ss.length with h | h
 .rw[LN h,gs (by simp)]
 .rw[Nat.min_eq_right h,List.drop_of_length_le (by simp),List.drop_of_length_le (by simpa using h),List.take_nil]
noncomputable def dY(ps:List Str)(pl:Nat):List Str:=ps.take pl++ps.drop (pl+1)
def zQ(K:Frag)(C:Addr):Sp:=λvs H Q _=>∃(s dx p fl l:Addr) (g:V) (pats ws:List Str) (fs:List V) (pl:Nat),vs=[.ref s,.int (pl:Int)]/\H s=some (.ins C dx (iJ g (.ref p) (.ref fl)))/\H p=some (.lst (pats.map V.str))/\H fl=some (.lst fs)/\fs[pl]? = some (.ref l)/\H l=some (.lst (ws.map V.str))/\pl<pats.length/\pats.length<=200/\ws.length<=64/\
 ∀q H',H q=none->ag H H'->H' q=some (.lst ((ws.filter λx=>!decide (x∈dY pats pl)).map V.str))->Q (.ref q) H'
def QI:bu ["self","place","others"] ["self","place"] (aN (inClass (top 46) 3)):={}
theorem acF(F:aZ K "left" "Standing.left" (inClass (top 46) 3) f fd)(T:cS K C)(np:bQ K C "patterns")(nf:bQ K C "fits"):aK P w K mg base aS 1 f fd ["self","place"] (zQ K C):=by
 refine F.bU QI λaF A outer s H vs Q E hr h=>?_
 refine hide λG_ aG=>?_
 obtain⟨s,dx,p,fl,l,g,pats,ws,fs,pl,rfl,hs,hp,dN,QJ,hl,aL,jS,dW,q⟩:=h
 refine aG.k ?_
 refine⟨_,(az (aX 2 QI.nd (bz BF (ow FP (du (pv 0) rfl) m8 (m9 (pv 1))) (ow FP (du (pv 0) rfl) (m9 (bz gC (pv 1) aI)) m8)))
  (aB (bg (jg (js:=[2]) (ns:=["others"]) (eD (bG iu (du (pv 0) rfl) (pv 1))) rfl rfl rfl rfl (λ_ _ _ _=>(oH (XF (K:=K) (rr:=λK=>MK K true) rfl VY (pv 0) (pv 1)))) (λ_ _ _ _=>(pv 0)))))),?_⟩
 try dsimp only[bJ]
 have d1:pl<fs.length:=(bR.mp QJ).1
 refine⟨_,rfl,s,C,dx,_,_,rfl,hs,T,np,zP ..,_,rfl,_,rfl,p,_,rfl,aq.of hp,λq1 e1=>?_⟩
 rw[acD]
 have s1:ag H (upd H q1 (.lst ((pats.take pl).map V.str))):=ag.upd e1
 have h1:upd H q1 (.lst ((pats.take pl).map V.str)) q1=some (.lst ((pats.take pl).map V.str)):=ao
 generalize upd H q1 (.lst ((pats.take pl).map V.str))=H1 at s1 h1
 refine⟨_,rfl,s,C,dx,_,_,rfl,s1 _ _ hs,T,np,zP ..,_,rfl,_,_,rfl,rfl,_,rfl,p,_,rfl,aq.of (s1 _ _ hp),λq2 e2=>?_⟩
 rw[show((pl:Int)+1)=((pl+1:Nat):Int) by lia,acE]
 have s2:ag H1 (upd H1 q2 (.lst ((pats.drop (pl+1)).map V.str))):=ag.upd e2
 have h2:upd H1 q2 (.lst ((pats.drop (pl+1)).map V.str)) q2=some (.lst ((pats.drop (pl+1)).map V.str)):=ao
 generalize upd H1 q2 (.lst ((pats.drop (pl+1)).map V.str))=H2 at s2 h2
 refine⟨q1,q2,_,_,rfl,rfl,s2 _ _ h1,h2,AO (ki (by rw[av,av,ij,rS];lia)),λq3 e3=>?_⟩
 have s3:ag H2 (upd H2 q3 (.lst ((pats.take pl).map V.str++(pats.drop (pl+1)).map V.str))):=ag.upd e3
 have h3:upd H2 q3 (.lst ((pats.take pl).map V.str++(pats.drop (pl+1)).map V.str)) q3=some (.lst ((dY pats pl).map V.str)):=by rw[ao];unfold dY;rw[fG]
 generalize upd H2 q3 (.lst ((pats.take pl).map V.str++(pats.drop (pl+1)).map V.str))=H3 at s3 h3
 have iK:=(s1.trans s2).trans s3
 refine⟨_,rfl,s,C,dx,_,_,rfl,iK _ _ hs,T,nf,wX ..,_,rfl,fl,_,_,.ref l,rfl,rfl,aq.of (iK _ _ dN),eF QJ,l,rfl,⟨_,aq.of (iK _ _ hl)⟩,?_⟩
 refine nj (kh (K:=K) (xs:=ws.map V.str)) (by rw[av];lia) (λk=>!decide (ws.getD k ⟨#[]⟩∈dY pats pl)) (λ_ k y _=>y = .str (ws.getD k ⟨#[]⟩)) (λH4 s4=>aq.of (s4 _ _ (iK _ _ hl))) (λ_ _ _ _ _ _ _ _ h=>h) ?_ ?_
 .intro D k y H4 Z0 Z' hD hy s4 _ k0 k1
  rw[bF] at hy
  obtain⟨x,hx,rfl⟩:=i3.mp hy
  have pI:ws.getD k ⟨#[]⟩=x:=by rw[cz,hx];rfl
  have cA:((dY pats pl).map V.str).all oz=true:=by rw[List.all_map];exact EK.mpr λ_ _=>rfl
  refine⟨_,rfl,_,rfl,q3,_,rfl,.inl (aq.of (s4 _ _ h3)),rfl,cA,_,rfl,?_⟩
  rw[aC rfl]
  by_cases z:x∈dY pats pl
  .have e:qw (.str x) ((dY pats pl).map V.str)=true:=acB z
   rw[e]
   exact bj (k0 _ (ag.dM _) (by show(!decide _)=false;rw[pI,aU z];rfl))
  .have e:qw (.str x) ((dY pats pl).map V.str)=false:=acC z
   rw[e]
   exact bA ⟨_,rfl,k1 _ _ (ag.dM _) (by show(!decide _)=true;rw[pI,bf z];rfl) (by rw[pI])⟩
 .intro D ys H4 hD bO s4 pr
  have e:=CM pr
  rw[av,QG (λx=>!decide (x∈dY pats pl))] at e
  subst e
  refine q D H4 ?_ (iK.trans s4) bO
  cases e:H D with
  |none=>rfl
  |some o=>rw[iK _ _ e] at hD;cases hD
end
def acG{q:Addr}(h:H q=some (.lst (ws.map V.str))):xW K (.ref q) H (!decide (ws=[])):=by
 refine Or.inl ⟨_,aq.of h,?_⟩
 cases ws <;> rfl
section
variable{P:Program}{w:World}{K:Frag}{mg:Str->Option Value}{base:Heap}{f:Addr}{fd:FuncData}
def zR(H:Hp)(aH:List (List Str))(fs:List V):Prop:=Paired (λws v=>∃q,v=V.ref q/\H q=some (.lst (ws.map V.str))/\ws.length<=64) aH fs
def zS(C:Addr):Sp:=λvs H Q _=>∃(s dx p fl:Addr) (g:V) (pats:List Str) (aH:List (List Str)) (fs:List V),vs=[.ref s]/\H s=some (.ins C dx (iJ g (.ref p) (.ref fl)))/\H p=some (.lst (pats.map V.str))/\H fl=some (.lst fs)/\zR H aH fs/\aH.length=pats.length/\pats.length<=200/\(∀t∈pats,t.length<=1000)/\
 (((∀t∈pats,46∉t.cps.toList)/\pats.Nodup/\∀ws∈aH,ws≠[])->∀H',ag H H'->Q .aw H')/\
 ∀pl H',pl<pats.length->((46∈(pats.getD pl ⟨#[]⟩).cps.toList/\∀j,j<pats.length->46∈(pats.getD j ⟨#[]⟩).cps.toList->(aH.getD pl []).length<=(aH.getD j []).length)\/(46∉(pats.getD pl ⟨#[]⟩).cps.toList/\(pats.getD pl ⟨#[]⟩∈pats.take pl\/aH.getD pl []=[])))->ag H H'->Q (.int (pl:Int)) H'
def zT:bu ["self","sizes","seen","place","signs"] ["self"] (aN (inClass (top 46) 2)):={}
theorem acH(B:Bl mg)(iU:Cn mg "FREE" (.str "."))(F:aZ K "narrowest" "Standing.narrowest" (inClass (top 46) 2) f fd)(T:cS K C)(np:bQ K C "patterns")(nf:bQ K C "fits"):aK P w K mg base aS 1 f fd ["self"] (zS C):=by
 refine F.bU zT λaF A outer s H vs Q E hr h=>?_
 have cX:=iy hr
 have hu:=hr.units
 have hu4:(A.deeper (PyProof.Rows.envOfC "Standing.narrowest" (aN (inClass (top 46) 2)) s.heap.objs.size f aF)).units+4<cLine:=by have:=hr.un;lia
 refine⟨_,(az (aX 1 zT.nd (eE aj))
  (az (aX 2 zT.nd BJ)
  (az (dJ (GL (by rfl) B.ze (af (du (pv 0) rfl) aj)) (om rfl (gy (cD 3 zT.nd) (gy (cD 4 zT.nd) oj)))
  (aB (cn (cK Mg (eM iU (by rfl)) (pv 4))
   (aB (dZ (gE j6 lA lB jf (pv 1) (af (eZ (af (cL lQ (by rfl) B.gc fZ (af (bG iu (du (pv 0) rfl) (pv 3)) aj)) (af (pv 3) aj))) aj))))
   (aB (cn (PW.pt (qt (xR (BH cX (pv 4) (pv 2))) (sk (j8 (ot (bG iu (du (pv 0) rfl) (pv 3)) (by intro _;rfl))))))
    (aB (bg (pv 3)))
    (aB (vM cX (pv 2) (pv 4) jc rfl)))))))
  (az (cn (j8 (ot (pv 1) (by intro _;rfl)))
  (aB (bg gv))
  cH)
  (aB (bg (bG cY (cL (Y9 rfl hu4) (by rfl) B.aav Xy (af (pv 1) aj)) aI))))))),?_⟩
 try dsimp only[bJ]
 refine hide λG_ aG=>?_
 obtain⟨s0,dx,p,fl,g,pats,aH,fs,rfl,hs,hp,dN,hF,yf,jS,hlen,qn,qp⟩:=h
 refine aG.k ?_
 have Di:=hF.length
 refine⟨bW _,λsz hsz sn zU=>?_⟩
 have sa:ag H (upd H sz (.lst [])):=ag.upd hsz
 have sb:ag (upd H sz (.lst [])) (upd (upd H sz (.lst [])) sn (.dK [])):=ag.upd zU
 have IQ:sz≠sn:=λz=>by rw[<-z,ao] at zU;cases zU
 have QK:upd (upd H sz (.lst [])) sn (.dK []) sz=some (.lst (([]:List Addr).map V.ref)):=by rw[ak IQ];exact ao
 have tj:upd (upd H sz (.lst [])) sn (.dK []) sn=some (.dK []):=ao
 have acI:H sn=none:=by
  cases e:H sn with
  |none=>rfl
  |some o=>rw[sa _ _ e] at zU;cases zU
 have sm:=sa.trans sb
 generalize upd (upd H sz (.lst [])) sn (.dK [])=H0 at sm QK tj
 refine⟨_,rfl,s0,C,dx,_,_,rfl,sm _ _ hs,T,np,zP ..,p,_,rfl,aq.of (sm _ _ hp),?_⟩
 refine NT (K:=K) (xs:=pats.map V.str) (λi O H2=>∃(v3 v4:Option V) (ts:List Addr) (ps:List (Int×Int)) (kvs:List (Key×V)),O=[some (.ref s0),some (.ref sz),some (.ref sn),v3,v4]/\ag H H2/\H2 sz=some (.lst (ts.map V.ref))/\Paired (λt p=>H2 t=some (.tup [.int p.1,.int p.2])) ts ps/\ps.length<=i/\(∀q∈ps,∃k:Nat,q.2=(k:Int)/\k<pats.length/\46∈(pats.getD k ⟨#[]⟩).cps.toList/\q.1=((aH.getD k []).length:Int))/\(∀k,k<i->46∈(pats.getD k ⟨#[]⟩).cps.toList->∃q∈ps,q.1=((aH.getD k []).length:Int))/\H2 sn=some (.dK kvs)/\kvs.length<=i/\(∀x:Str,(aM kvs (Sum.inr x:Key)).isSome=true↔x∈pats.take i/\46∉x.cps.toList)/\(ps=[]->(∀t∈pats.take i,46∉t.cps.toList)/\(pats.take i).Nodup/\∀ws∈aH.take i,ws≠[]))
  ⟨none,none,[],[],[],rfl,sm,QK,.nil,aQ _,(λ_ m=>nomatch m),(λk hk=>absurd hk (jz _)),tj,aQ _,λx=>⟨λz=>(by cases z),λz=>(by simp at z)⟩,λ_=>⟨λ_ m=>(by simp at m),(by simp),λ_ m=>(by simp at m)⟩⟩ ?_ ?_ ?_
 .rintro i O H2 _ ⟨v3,v4,ts,ps,kvs,rfl,s2,_⟩
  exact aq.of (s2 _ _ hp)
 .intro i x pt O H2 hx acJ hpt
  refine hide λG_ bw=>?_
  obtain⟨v3,v4,ts,ps,kvs,rfl,s2,vX,ma,aL,Dj,Dk,sN,nz,tF,zV⟩:=acJ
  rw[bF] at hx
  obtain⟨t,ht,rfl⟩:=i3.mp hx
  have hi:i<pats.length:=(bR.mp ht).1
  have zW:pats.getD i ⟨#[]⟩=t:=by rw[cz,ht];rfl
  have gW:pats.take (i+1)=pats.take i++[t]:=by rw[ik,ht];rfl
  obtain⟨ws,hws⟩:∃ws,aH[i]? = some ws:=⟨_,bt (by lia)⟩
  have um:aH.getD i []=ws:=by rw[cz,hws];rfl
  have hwk:aH.take (i+1)=aH.take i++[ws]:=by rw[ik,hws];rfl
  obtain⟨fv,uo⟩:∃fv,fs[i]? = some fv:=⟨_,bt (by lia)⟩
  obtain⟨ws',QL,qa,rfl,jL,wZ⟩:=Paired.get hF uo
  refine bw.k ?_
  rw[hws] at QL
  cases QL
  have su:ag H2 (upd H2 pt (.tup [.int i,.str t])):=ag.upd hpt
  refine⟨pt,_,rfl,aA.of ao,rfl,_,_,rfl,_,_,rfl,rfl,?_⟩
  have s3:=s2.trans su
  have w4:=su _ _ vX
  have zX:=su _ _ sN
  have IS:=Paired.bE ma λa b e=>su _ _ e
  generalize upd H2 pt (.tup [.int i,.str t])=H3 at su s3 w4 zX IS
  have IT:(!(Builtin.Str.occurrences t (Str.ofString ".") 0 t.length 1).isEmpty)=decide (46∈t.cps.toList):=StrLaws.found_one t 46
  refine⟨_,rfl,_,t,rfl,rfl,_,rfl,?_⟩
  rw[IT]
  by_cases hd:46∈t.cps.toList
  .rw[aU hd]
   refine bA ⟨_,rfl,.inl ⟨rfl,_,aq.of w4⟩,_,rfl,s0,C,dx,_,_,rfl,s3 _ _ hs,T,nf,wX ..,_,rfl,fl,_,_,.ref qa,rfl,rfl,aq.of (s3 _ _ dN),eF uo,qa,_,rfl,.inl (aq.of (s3 _ _ jL)),_,rfl,(show 2<=sizeLine by decide),λu hu=>?_⟩
   have nu:u≠sz:=λz=>by rw[z,w4] at hu;cases hu
   have nsz:sn≠sz:=aP IQ
   refine⟨sz,_,_,rfl,rfl,by rw[ak (aP nu)];exact w4,ki (by rw[av];have:=ma.length;lia),?_⟩
   have mD:∀b o,b≠sz->H3 b=some o->upd (upd H3 u (.tup [.int ((ws.map V.str).length:Int),.int (i:Int)])) sz (.lst (ts.map V.ref++[.ref u])) b=some o:=λb o hb e=>by rw[ak hb,ak (λz=>by rw[z,hu] at e;cases e)];exact e
   refine⟨_,_,ts++[u],ps++[(((ws.map V.str).length:Int),(i:Int))],kvs,rfl,λb o e=>mD b o (bh e hsz) (s3 _ _ e),by rw[ao,fG];rfl,?_,by rw[d6];simp;lia,?_,?_,mD _ _ nsz zX,by lia,λx=>?_,λz=>by simp at z⟩
   .exact qX (Paired.bE IS λa b e=>mD _ _ (λz=>by rw[z,w4] at e;cases e) e) (.cons (by rw[ak nu];exact ao) .nil)
   .intro q mq
    rcases dR.mp mq with z | z
    .exact Dj q z
    .rw[cJ.mp z]
     exact⟨i,rfl,hi,by rw[zW];exact hd,by rw[um,av]⟩
   .intro k hk zY
    rcases r6.mp hk with z | z
    .obtain⟨q,mq,eq⟩:=Dk k z zY
     exact⟨q,j0 _ mq,eq⟩
    .exact⟨_,ie _ bK,by rw[z,um,av]⟩
   .rw[tF x,gW]
    constructor
    .exact λz=>⟨j0 _ z.1,z.2⟩
    .rintro⟨z,zz⟩
     rcases dR.mp z with z | z
     .exact⟨z,zz⟩
     .rw[cJ.mp z] at zz
      exact absurd hd zz
  .rw[bf hd]
   refine bj ⟨_,rfl,_,rfl,sn,_,rfl,dQ.k (k:=Sum.inr t) zX,_,rfl,?_⟩
   cases hv:(aM kvs (Sum.inr t:Key)).isSome with
   |true=>exact bA (bA ⟨_,rfl,qp i H3 hi (.inr ⟨by rw[zW];exact hd,.inl (by rw[zW];exact((tF t).mp hv).1)⟩) s3⟩)
   |false=>
    refine bj ⟨_,rfl,s0,C,dx,_,_,rfl,s3 _ _ hs,T,nf,wX ..,_,rfl,fl,_,_,.ref qa,rfl,rfl,aq.of (s3 _ _ dN),eF uo,!decide (ws=[]),acG (s3 _ _ jL),?_⟩
    by_cases Dl:ws=[]
    .rw[aU Dl]
     exact bA ⟨_,rfl,qp i H3 hi (.inr ⟨by rw[zW];exact hd,.inr (by rw[um];exact Dl)⟩) s3⟩
    .rw[bf Dl]
     have hvn:aM kvs (Sum.inr t:Key)=none:=by
      cases e:aM kvs (Sum.inr t:Key) with
      |none=>rfl
      |some v=>rw[e] at hv;cases hv
     have hnt:t∉pats.take i:=λz=>by
      have:=(tF t).mpr ⟨z,hd⟩
      rw[hv] at this
      cases this
     refine bj ?_
     refine⟨_,rfl,_,rfl,sn,_,rfl,kf.k (k:=Sum.inr t) zX (ki (by lia)),?_⟩
     have mD:∀b o,b≠sn->H3 b=some o->upd H3 sn (.dK (putK kvs (Sum.inr t) (.bl true))) b=some o:=λb o hb e=>by rw[ak hb];exact e
     refine⟨_,_,ts,ps,putK kvs (Sum.inr t) (.bl true),rfl,λb o e=>mD b o (bh e acI) (s3 _ _ e),mD _ _ IQ w4,Paired.bE IS (λa b e=>mD _ _ (λz=>by rw[z,zX] at e;cases e) e),by lia,Dj,(λk hk zY=>by
      rcases r6.mp hk with z | z
      .exact Dk k z zY
      .rw[z,zW] at zY;exact absurd zY hd),ao,bL (sT _ _ _) (by lia),λx=>?_,λz=>?_⟩
     .rw[oE,gW]
      by_cases zx:x=t
      .subst zx
       rw[aC rfl]
       exact⟨λ_=>⟨ie _ bK,hd⟩,λ_=>rfl⟩
      .rw[au (λw=>zx (by injection w)),tF x]
       constructor
       .exact λw=>⟨j0 _ w.1,w.2⟩
       .rintro⟨w,ww⟩
        rcases dR.mp w with w | w
        .exact⟨w,ww⟩
        .exact absurd (cJ.mp w) zx
     .obtain⟨a1,a2,a3⟩:=zV z
      rw[gW,hwk]
      refine⟨λx m=>?_,rZ.mpr ⟨a2,by simp,λx mx y my w=>?_⟩,λx m=>?_⟩
      .rcases dR.mp m with w | w
       .exact a1 x w
       .rw[cJ.mp w];exact hd
      .rw[cJ.mp my] at w
       rw[w] at mx
       exact hnt mx
      .rcases dR.mp m with w | w
       .exact a3 x w
       .rw[cJ.mp w];exact Dl
 .intro O H2 acK
  refine hide λG_ cq=>?_
  obtain⟨v3,v4,ts,ps,kvs,rfl,s2,vX,ma,aL,Dj,Dk,sN,nz,tF,zV⟩:=acK
  refine cq.k ?_
  have nO:=ma.length
  rw[av,EU] at zV
  rw[<-yf,EU] at zV
  refine⟨_,rfl,!decide (ps=[]),?_,?_⟩
  .refine Or.inl ⟨_,aq.of vX,?_⟩
   cases ts with
   |nil=>cases ps with
    |nil=>rfl
    |cons _ _=>cases nO
   |cons _ _=>cases ps with
    |nil=>cases nO
    |cons _ _=>rfl
  by_cases iC:ps=[]
  .rw[aU iC]
   exact bA (qn (zV iC) H2 s2)
  .rw[bf iC]
   refine bj ⟨_,rfl,sz,ts,ps,rfl,vX,ma,List.length_pos_iff.mpr iC,λb tt pp hb hpb He=>?_⟩
   obtain⟨pp',zZ,IU⟩:=Paired.getL ma hb
   rw[hpb] at zZ
   cases zZ
   obtain⟨k,ek,PQ,lV,eA⟩:=Dj pp (bM hpb)
   refine⟨tt,_,1,.int pp.2,rfl,rfl,aA.of IU,rfl,?_⟩
   rw[ek]
   refine qp k H2 PQ (.inl ⟨lV,λj hj acL=>?_⟩) s2
   obtain⟨q,mq,eq⟩:=Dk j (by rw[av];exact hj) acL
   have:=He q mq
   lia
def z6(K:Frag)(CS CG:Addr):Sp:=λvs H Q _=>∃(s dx g cR p ce a:Addr) (fv cr wo kn:V) (l m:List Str) (w:Nat) (R:List (List C2)) (xs:List V),vs=[.ref s]/\H s=some (.ins CS dx (iJ (.ref g) (.ref p) fv))/\H g=some (.ins CG cR (fw (.ref a) (.ref ce) cr wo kn))/\H a=some (.tup (l.map V.str))/\H ce=some (.lst xs)/\Paired (kT H) R xs/\H p=some (.lst ((R.map (ax m)).map V.str))/\cP l w R/\cP m w R/\m.length=l.length/\
 ∀q H',ag H H'->H' q=some (.tup (m.map V.str))->Q (.ref q) H'
def z7:bu ["self","sheet","cells","signs"] ["self"] (aN (inClass (top 46) 5)):={}
theorem acM(B:Bl mg)(F:aZ K "filled" "Standing.filled" (inClass (top 46) 5) f fd)(TS:cS K CS)(TG:cS K CG)(ng:bQ K CS "ground")(np:bQ K CS "patterns")(IV:bQ K CG "sheet")(nc:bQ K CG "cells")(acN:Fn P w K mg base "put_word" 2 (PZ K)):aK P w K mg base aS 3 f fd ["self"] (z6 K CS CG):=by
 refine F.bU z7 λaF A outer s H vs Q E hr h=>?_
 refine hide λG_ aG=>?_
 obtain⟨s0,dx,g,cR,p,ce,a,fv,cr,wo,kn,l,m,wd,R,xs,rfl,hs,hg,ha,kU,hR,hp,FL,FM,mE,q⟩:=h
 refine aG.k ?_
 refine⟨_,(az (aX 1 z7.nd (du (du (pv 0) rfl) rfl))
  (az (dJ (GB .L .L (by rfl) B.Hy (af (du (du (pv 0) rfl) rfl) (af (du (pv 0) rfl) aj))) (om rfl (gy (cD 2 z7.nd) (gy (cD 3 z7.nd) oj)))
  (aB (aX 1 z7.nd (bD acN hr (af (pv 1) (af (pv 2) (af (pv 3) aj)))))))
  (aB (bg (pv 1))))),?_⟩
 try dsimp only[bJ]
 have fQ:=hR.length
 refine⟨_,rfl,s0,CS,dx,_,_,rfl,hs,TS,ng,wY ..,g,CG,cR,_,_,rfl,hg,TG,IV,acv ..,?_⟩
 refine⟨_,rfl,s0,CS,dx,_,_,rfl,hs,TS,ng,wY ..,g,CG,cR,_,_,rfl,hg,TG,nc,QF ..,_,rfl,s0,CS,dx,_,_,rfl,hs,TS,np,zP ..,_,_,rfl,⟨_,ce,rfl,aq.of kU⟩,⟨_,p,rfl,aq.of hp⟩,?_⟩
 have kD:min xs.length ((R.map (ax m)).map V.str).length=R.length:=by rw[av,av];lia
 refine GC (K:=K) (k1 := .L) (k2 := .L) (xs:=xs) (ys:=(R.map (ax m)).map V.str) (λi O H2=>∃v2 v3 qa,O=[some (.ref s0),some (.ref qa),v2,v3]/\ag H H2/\H2 qa=some (.tup ((kR l R m i).map V.str)))
  ⟨none,none,a,rfl,ag.dM _,ha⟩ ?_ ?_ ?_
 .intro i O H2 _ acO
  refine hide λG_ bw=>?_
  obtain⟨v2,v3,qa,rfl,s2,_⟩:=acO
  refine bw.k ?_
  exact⟨⟨_,rfl,aq.of (s2 _ _ kU)⟩,_,rfl,aq.of (s2 _ _ hp)⟩
 .intro i x y pt O H2 hx hy acP hpt
  refine hide λG_ cq=>?_
  obtain⟨v2,v3,qa,rfl,s2,hq⟩:=acP
  obtain⟨row,hrow,t,ys,rfl,ht,gD⟩:=Paired.get hR hx
  refine cq.k ?_
  have iW:ai R i=row:=by unfold ai;rw[cz,hrow];rfl
  have hyv:y = .str (ax m (ai R i)):=by
   rw[bF,bF,hrow] at hy
   cases hy
   rw[iW]
  subst hyv
  have su:ag H2 (upd H2 pt (.tup [.ref t,.str (ax m (ai R i))])):=ag.upd hpt
  refine⟨pt,_,rfl,aA.of ao,rfl,_,_,rfl,_,_,rfl,rfl,?_⟩
  have s3:=s2.trans su
  have zM:=su _ _ hq
  generalize upd H2 pt (.tup [.ref t,.str (ax m (ai R i))])=H3 at su s3 zM
  refine⟨_,rfl,_,rfl,_,rfl,qa,t,kR l R m i,wd,ai R i,ys,ax m (ai R i),rfl,zM,wO FL i,s3 _ _ ht,by rw[iW];exact gD.mono s3,λc hc=>by rw[qW];exact FL.jQ i c hc,λq' H' s' fX=>?_⟩
  exact⟨_,_,q',rfl,s3.trans s',fX⟩
 .intro O H2 acQ
  refine hide λG_ dE=>?_
  obtain⟨v2,v3,qa,rfl,s2,hq⟩:=acQ
  refine dE.k ?_
  rw[kD,ab3 FL FM mE] at hq
  exact⟨_,rfl,q qa H2 s2 hq⟩
def acR(sh ce cr wo kn:V):(fw sh ce cr wo kn).lookup ("narrowed":Str)=none:=by
 unfold fw
 rw[de,au (by decide +kernel),de,au (by decide +kernel),de,au (by decide +kernel),de,au (by decide +kernel),de,au (by decide +kernel)]
 rfl
def gN.weak{t:Str}(k:∀b o,Z b->H b=some o->Z' b)(h:gN Z H ks wf t v):gN Z' H ks wf t v:=let ⟨q,ws,e,z,a,b,c⟩:=h;⟨q,ws,e,k _ _ z a,a,b,c⟩
theorem gh.weak{Z Z':Addr->Prop}{M:Str->Prop}{H:Hp}{ks:List Str}{wf:Str->Int}{kvs:List (Key×V)}(k:∀b o,Z b->H b=some o->Z' b)(h:gh Z M H ks wf kvs):gh Z' M H ks wf kvs:=⟨h.nd,h.key,λx v e=>(h.fit x v e).weak k⟩
theorem gh.keep{Z:Addr->Prop}{M:Str->Prop}{H H':Hp}{ks:List Str}{wf:Str->Int}{kvs:List (Key×V)}(k:∀b o,H b=some (.lst o)->Z b->H' b=some (.lst o))(h:gh Z M H ks wf kvs):gh Z M H' ks wf kvs:=⟨h.nd,h.key,λx v e=>(h.fit x v e).keep k⟩
theorem IW{α β:Type}{R:α->β->Prop}:∀{xs:List α}{ys:List β}{i:Nat}{x:α}{y:β},Paired R xs ys->R x y->Paired R (xs.set i x) (ys.set i y)
 |_,_,_,_,_,.nil,_=>.nil
 |_,_,0,_,_,.cons _ t,h=>.cons h t
 |_,_,i+1,_,_,.cons g t,h=>.cons g (IW t h)
structure acS(Z:Addr->Prop)(M:Str->Prop)(H:Hp)(CS CG s dx g cR p fl cf kn:Addr)(sh ce wo:V)(m ks:List Str)(wf:Str->Int)(w pl:Nat)(R:List (List C2))(fs cs:List V)(x:Str)(kvs:List (Key×V)):Prop where
 e1:H s=some (.ins CS dx (iJ (.ref g) (.ref p) (.ref fl)))
 e2:H g=some (.ins CG cR (fw sh ce (.ref cf) wo (.ref kn)))
 e3:H kn=some (.dK kvs)
 e4:gh Z M H ks wf kvs
 e5:zO M
 e6:H p=some (.lst ((R.map (ax m)).map V.str))
 e7:H fl=some (.lst fs)
 e8:Paired (gN Z H ks wf) (R.map (ax m)) fs
 e9:H cf=some (.lst cs)
 e10:Paired (λi x=>∃q us,x=V.ref q/\H q=some (.lst us)/\bC H (jn R i) us) (List.range R.length) cs
 Nm:cP m w R
 e12:pl<R.length
 e13:R.length<=200
 e14:cO x (ax m (ai R pl))=true
 QM:x∈ks
 e16:46∉x.cps.toList
 e17:∀q,H q=none->Z q
 e18:∀k i,i<R.length->46∈(ax m (ai R i)).cps.toList->M (ax (putL m ((ai R pl).take k) (x.cps.toList.take k)) (ai R i))
structure acT(Z:Addr->Prop)(M:Str->Prop)(H H':Hp)(CS g kn s dx p fl:Addr)(m ks:List Str)(wf:Str->Int)(pl:Nat)(R:List (List C2))(fs:List V)(x:Str)(kvs:List (Key×V)):Prop where
 e1:H p=none
 e2:H fl=none
 e3:∀b o,b≠kn->H b=some o->H' b=some o
 e4:H' kn=some (.dK kvs)
 e5:gh Z M H' ks wf kvs
 e6:H' s=some (.ins CS dx (iJ (.ref g) (.ref p) (.ref fl)))
 e7:H' p=some (.lst ((R.map (ax (putL m (ai R pl) x.cps.toList))).map V.str))
 e8:H' fl=some (.lst fs)
 e9:Paired (gN Z H' ks wf) (R.map (ax (putL m (ai R pl) x.cps.toList))) fs
def z9(K:Frag)(CS CG:Addr):Sp:=λvs H Q _=>∃(s dx g cR p fl cf kn:Addr) (sh ce wo:V) (m ks:List Str) (wf:Str->Int) (w pl:Nat) (R:List (List C2)) (fs cs:List V) (x:Str) (kvs:List (Key×V)) (Z:Addr->Prop) (M:Str->Prop),vs=[.ref s,.int (pl:Int),.str x]/\acS Z M H CS CG s dx g cR p fl cf kn sh ce wo m ks wf w pl R fs cs x kvs/\∀(s' mF p' cB:Addr) se rb H',acT Z M H H' CS g kn s' mF p' cB m ks wf pl R se x rb->Q (.ref s') H'
structure acU(Z:Addr->Prop)(M:Str->Prop)(H H2:Hp)(p' cB kn:Addr)(m ks:List Str)(wf:Str->Int)(pl i:Nat)(R:List (List C2))(x:Str)(ps:List Str)(gi:List V)(gj:List (Key×V)):Prop where
 e1:∀b o,b≠kn->H b=some o->H2 b=some o
 e2:H2 kn=some (.dK gj)
 e3:gh (λb=>Z b/\b≠p'/\b≠cB) M H2 ks wf gj
 e4:H2 p'=some (.lst (ps.map V.str))
 e5:H2 cB=some (.lst gi)
 e6:nN R m pl x i ps
 e7:Paired (gN (λb=>Z b/\b≠p'/\b≠cB) H2 ks wf) ps gi
def rf:bu ["self","place","word","patterns","fits","letter","crossing","other","at","before"] ["self","place","word"] (aN (inClass (top 46) 1)):={}
theorem acV(B:Bl mg)(iU:Cn mg "FREE" (.str "."))(F:aZ K "after" "Standing.after" (inClass (top 46) 1) f fd)(TS:cS K CS)(TG:cS K CG)(ng:bQ K CS "ground")(np:bQ K CS "patterns")(nf:bQ K CS "fits")(nx:bQ K CG "crossings")(w6:Nw P w K mg base "Standing" CS 1 (IP CS))(IX:Mt P w K mg base CG "narrowed" 1 (QH K CG) []):aK P w K mg base aS 3 f fd ["self","place","word"] (z9 K CS CG):=by
 refine F.bU rf λaF A outer s H vs Q E hr h=>?_
 refine hide λG_ aG=>?_
 obtain⟨s0,dx,g,cR,p,fl,cf,kn,sh,ce,wo,m,ks,wf,wd,pl,R,fs,cs,x,kvs,Z,M,rfl,⟨hs,hg,cu,hK,hM,hp,dN,nP,hcr,QN,FL,aL,jS,dI,eQ,w8,hZ,hMk⟩,q⟩:=h
 refine aG.k ?_
 refine⟨_,(az (aX 3 rf.nd (m5 yb (by rfl) B.zd yq (af (du (pv 0) rfl) aj)))
  (az (aX 4 rf.nd (m5 yb (by rfl) B.zd yq (af (du (pv 0) rfl) aj)))
  (az (dJ (GB .S .L (by rfl) B.Hy (af (pv 2) (af (bG iu (du (du (pv 0) rfl) rfl) (pv 1)) aj))) (om rfl (gy (cD 5 rf.nd) (gy (cD 6 rf.nd) oj)))
  (az (aX 7 rf.nd (bG cY (pv 6) aI))
   (az (aX 8 rf.nd (bG cY (pv 6) aI))
   (az (aX 9 rf.nd (bG iu (pv 3) (pv 7)))
   (aB (cn (cK m4 (bG oy (pv 9) (pv 8)) (eM iU (by rfl)))
   (az (sy (bz xX (bz xX (ow yt (pv 9) m8 (m9 (pv 8))) (pv 5)) (ow yt (pv 9) (m9 (bz gC (pv 8) aI)) m8)) (vv (pv 3) (pv 7) set_list))
    (aB (sy (kj IX hr (du (pv 0) rfl) (af (bG iu (pv 4) (pv 7)) (af (bG iu (pv 3) (pv 7)) (af (pv 8) aj)))) (vv (pv 4) (pv 7) set_list))))
   cH))))))
  (az (sy (pv 2) (vv (pv 3) (pv 1) set_list))
  (az (sy (eE (af (pv 2) aj)) (vv (pv 4) (pv 1) set_list))
  (aB (bg (yJ w6 hr (af (du (pv 0) rfl) (af (pv 3) (af (pv 4) aj))))))))))),?_⟩
 try dsimp only[bJ]
 have Di:=nP.length
 rw[av] at Di
 have fQ:x.length=(ai R pl).length:=by rw[(iI.mp dI).1,fu]
 have h9:=(FL.len aL).2
 refine⟨_,rfl,s0,CS,dx,_,_,rfl,hs,TS,np,zP ..,p,_,rfl,.inl (aq.of hp),λp' fO=>?_⟩
 have s1:ag H (upd H p' (.lst ((R.map (ax m)).map V.str))):=ag.upd fO
 refine⟨_,rfl,s0,CS,dx,_,_,rfl,s1 _ _ hs,TS,nf,wX ..,fl,_,rfl,.inl (aq.of (s1 _ _ dN)),λcB Dm=>?_⟩
 have s2:ag (upd H p' (.lst ((R.map (ax m)).map V.str))) (upd (upd H p' (.lst ((R.map (ax m)).map V.str))) cB (.lst fs)):=ag.upd Dm
 have QO:H cB=none:=s1.free Dm
 have Aa:p'≠cB:=λz=>by rw[<-z,ao] at Dm;cases Dm
 have QP:upd (upd H p' (.lst ((R.map (ax m)).map V.str))) cB (.lst fs) p'=some (.lst ((R.map (ax m)).map V.str)):=by rw[ak Aa];exact ao
 have QQ:upd (upd H p' (.lst ((R.map (ax m)).map V.str))) cB (.lst fs) cB=some (.lst fs):=ao
 have sm:=s1.trans s2
 generalize upd (upd H p' (.lst ((R.map (ax m)).map V.str))) cB (.lst fs)=H0 at sm QP QQ
 clear s1 s2
 refine hide λG_ bw=>?_
 obtain⟨cv,mw⟩:∃cv,cs[pl]? = some cv:=⟨_,bt (by have:=QN.length;rw[i5] at this;lia)⟩
 obtain⟨pl',QR,qa,us,rfl,jL,mD⟩:=Paired.get QN mw
 refine bw.k ?_
 have epl:pl'=pl:=by
  rw[rY aL] at QR
  exact(dh QR).symm
 rw[epl] at mD
 have IG:us.length=(ai R pl).length:=by rw[<-mD.length,abV FL.good]
 refine⟨_,rfl,_,rfl,s0,CS,dx,_,_,rfl,sm _ _ hs,TS,ng,wY ..,g,CG,cR,_,_,rfl,sm _ _ hg,TG,nx,acu ..,_,rfl,cf,_,_,.ref qa,rfl,rfl,aq.of (sm _ _ hcr),eF mw,_,_,rfl,⟨_,x,rfl,rfl⟩,⟨_,qa,rfl,aq.of (sm _ _ jL)⟩,?_⟩
 have gO:∀b o,H b=some o->b≠p'/\b≠cB:=λb o e=>⟨bh e fO,bh e QO⟩
 have kD:min (x.cps.toList.map λc=>V.str ⟨#[c]⟩).length us.length=(ai R pl).length:=by rw[av,cV];lia
 refine GC (K:=K) (k1 := .S) (k2 := .L) (xs:=x.cps.toList.map λc=>V.str ⟨#[c]⟩) (ys:=us) (λi O H2=>∃v5 v6 v7 v8 v9 ps gi gj,O=[some (.ref s0),some (.int (pl:Int)),some (.str x),some (.ref p'),some (.ref cB),v5,v6,v7,v8,v9]/\acU Z M H H2 p' cB kn m ks wf pl i R x ps gi gj)
  ⟨none,none,none,none,none,R.map (ax m),fs,kvs,rfl,⟨λb o _ e=>sm _ _ e,sm _ _ cu,?_,QP,QQ,nN.zero aL,?_⟩⟩ ?_ ?_ ?_
 .exact(hK.weak λb o z e=>⟨z,gO b o e⟩).keep λb o e _=>sm _ _ e
 .exact Paired.bE nP λt v e=>(e.weak λb o z e=>⟨z,gO b o e⟩).keep λb o e _=>sm _ _ e
 .intro i O H2 _ acW
  refine hide λG_ cq=>?_
  obtain⟨v5,v6,v7,v8,v9,ps,gi,gj,rfl,SI⟩:=acW
  refine cq.k ?_
  exact⟨⟨_,rfl,rfl⟩,_,rfl,aq.of (SI.e1 _ _ (bS jL cu (by intro z;cases z)) jL)⟩
 .intro i cv y pt O H2 mw hy acX hpt
  refine hide λG_ dE=>?_
  obtain⟨v5,v6,v7,v8,v9,ps,gi,gj,rfl,⟨off,lV,Dn,gF,Dp,AI,Ab⟩⟩:=acX
  rw[bF] at mw
  obtain⟨ch,hch,rfl⟩:=i3.mp mw
  obtain⟨pp,yI,u,rfl,hu⟩:=Paired.get mD hy
  have hi:i<(ai R pl).length:=by rw[<-IG];exact(bR.mp hy).1
  obtain⟨c,hc⟩:∃c,(ai R pl)[i]? = some c:=⟨_,bt hi⟩
  obtain⟨pp',zZ,CR⟩:=abW FL.good hc
  refine dE.k ?_
  rw[yI] at zZ
  cases zZ
  refine hide λG_ hU=>?_
  obtain⟨b,hb,QS,l7,hb9,ay,an⟩:=AI.step FL dI hc hch CR
  refine hU.k ?_
  have su:ag H2 (upd H2 pt (.tup [.str ⟨#[ch]⟩,.ref u])):=ag.upd hpt
  refine⟨pt,_,rfl,aA.of ao,rfl,_,_,rfl,_,_,rfl,rfl,?_⟩
  have fR:∀b o,b≠kn->H b=some o->upd H2 pt (.tup [.str ⟨#[ch]⟩,.ref u]) b=some o:=λb o n e=>su _ _ (off b o n e)
  have eA:=su _ _ lV
  have jt:=su _ _ gF
  have rg:=su _ _ Dp
  have pJ:=Dn.keep λb o e _=>su _ _ e
  have pK:=Paired.bE Ab λt v e=>e.keep λb o e _=>su _ _ e
  generalize upd H2 pt (.tup [.str ⟨#[ch]⟩,.ref u])=H3 at fR eA jt rg pJ pK
  clear su lV gF Dp Dn Ab off hpt
  have QT:H3 u=some (.tup [.int (pp.1:Int),.int (pp.2:Int)]):=fR _ _ (bS hu cu (by intro z;cases z)) hu
  have nO:ps.length=R.length:=AI.len
  have kr:(ps.map V.str)[pp.1]? = some (.str b):=by rw[bF,hb];rfl
  refine⟨_,rfl,u,_,0,.int (pp.1:Int),rfl,rfl,aA.of QT,rfl,?_⟩
  refine⟨_,rfl,u,_,1,.int (pp.2:Int),rfl,rfl,aA.of QT,rfl,?_⟩
  refine⟨_,rfl,_,rfl,p',_,_,.str b,rfl,rfl,aq.of jt,eF kr,?_⟩
  refine⟨_,rfl,_,rfl,b,_,sg m c,rfl,rfl,iA (by lia),eF QS,rfl,_,rfl,?_⟩
  rw[OW,CT]
  by_cases dz:sg m c=46
  .rw[aU dz]
   have l1:(Txt.slice b none (some (pp.2:Int))).length<=100:=bL (EN b _ _) (by lia)
   have l2:(Txt.slice b (some ((pp.2:Int)+1)) none).length<=100:=bL (EN b _ _) (by lia)
   refine bA ⟨_,rfl,_,rfl,_,rfl,b,rfl,iA (by lia),_,rfl,_,_,rfl,rfl,iA (by show _+1<=_;lia),?_⟩
   refine⟨_,rfl,_,rfl,_,_,rfl,rfl,_,rfl,b,rfl,iA (by lia),_,_,rfl,rfl,iA ?_,?_⟩
   .rw[<-cV,qL,d6,cV]
    show _+1+_<=_
    lia
   have eg:=OK (x:=b) (j:=pp.2) (ch:=ch) (Pj (by lia)) (Pk (by lia))
   refine⟨_,rfl,_,rfl,p',_,_,pp.1,rfl,rfl,jt,tu (by rw[av,nO];exact CR.lt),?_⟩
   rw[eg]
   have A1:=ay dz
   have Dq:kn≠p':=(gO _ _ cu).1
   have Dr:kn≠cB:=(gO _ _ cu).2
   have xb:∀b' o,b'≠kn->H b'=some o->upd H3 p' (.lst ((ps.map V.str).set pp.1 (.str (bP b pp.2 ch)))) b'=some o:=λb' o n e=>by rw[ak (gO _ _ e).1];exact fR b' o n e
   have rh:upd H3 p' (.lst ((ps.map V.str).set pp.1 (.str (bP b pp.2 ch)))) kn=some (.dK gj):=by rw[ak Dq];exact eA
   have uq:upd H3 p' (.lst ((ps.map V.str).set pp.1 (.str (bP b pp.2 ch)))) p'=some (.lst ((ps.set pp.1 (bP b pp.2 ch)).map V.str)):=by rw[ao,List.map_set]
   have Ds:upd H3 p' (.lst ((ps.map V.str).set pp.1 (.str (bP b pp.2 ch)))) cB=some (.lst gi):=by rw[ak (aP Aa)];exact rg
   have xf:gh (λb=>Z b/\b≠p'/\b≠cB) M (upd H3 p' (.lst ((ps.map V.str).set pp.1 (.str (bP b pp.2 ch))))) ks wf gj:=pJ.keep λb' o e z=>by rw[ak z.2.1];exact e
   have h8:Paired (gN (λb=>Z b/\b≠p'/\b≠cB) (upd H3 p' (.lst ((ps.map V.str).set pp.1 (.str (bP b pp.2 ch))))) ks wf) ps gi:=Paired.bE pK λt v e=>e.keep λb' o e z=>by rw[ak z.2.1];exact e
   have IY:∀b',upd H3 p' (.lst ((ps.map V.str).set pp.1 (.str (bP b pp.2 ch)))) b'=none->H b'=none/\b'≠p'/\b'≠cB:=λb' e=>by
    refine⟨?_,(λz=>by rw[z,uq] at e;cases e),(λz=>by rw[z,Ds] at e;cases e)⟩
    cases eb:H b' with
    |none=>rfl
    |some o=>
     by_cases zk:b'=kn
     .rw[zk,rh] at e;cases e
     .rw[xb b' o zk eb] at e;cases e
   generalize upd H3 p' (.lst ((ps.map V.str).set pp.1 (.str (bP b pp.2 ch))))=H4 at xb rh uq Ds xf h8 IY
   refine hide λG_ ml=>?_
   obtain⟨lv,yD,l,ws,rfl,zl,hl4,mG,wZ⟩:=Paired.getL h8 hb
   refine ml.k ?_
   have acY:((ps.set pp.1 (bP b pp.2 ch)).map V.str)[pp.1]? = some (.str (bP b pp.2 ch)):=by
    rw[bF,rP (by rw[nO];exact CR.lt)]
    rfl
   have acZ:b.cps.toList.getD pp.2 0=46:=by rw[cE QS];exact dz
   have ac0:ch≠46:=λz=>w8 (by rw[<-z];exact bM hch)
   have hMb:M (bP b pp.2 ch):=by
    have e1:=A1.gM pp.1 CR.lt CR.ne
    rw[rP (by rw[nO];exact CR.lt)] at e1
    rw[dh e1]
    exact hMk (i+1) pp.1 CR.lt (by rw[iH,<-dz];exact r8 (bM CR.ix))
   refine⟨_,rfl,s0,CS,dx,_,_,rfl,xb _ _ (bS hs cu (by intro z;cases z)) hs,TS,ng,wY ..,g,cR,_,rfl,xb _ _ (bS hg cu (by intro z;cases z)) hg,acR ..,?_⟩
   refine⟨_,rfl,_,rfl,cB,_,_,.ref l,rfl,rfl,aq.of Ds,eF yD,_,rfl,_,rfl,p',_,_,.str (bP b pp.2 ch),rfl,rfl,aq.of uq,eF acY,_,rfl,?_⟩
   refine⟨g,cR,l,kn,sh,ce,.ref cf,wo,ws,ks,wf,b,pp.2,ch,gj,(λb=>Z b/\b≠p'/\b≠cB),M,rfl,xb _ _ (bS hg cu (by intro z;cases z)) hg,rh,xf,hM,hl4,mG,wZ,l7,by lia,acZ,ac0,hMb,λb' e=>⟨hZ b' (IY b' e).1,(IY b' e).2⟩,λH5 kv5 v o5 mH Ac hFv=>?_⟩
   have Dt:=o5 _ _ (aP Dr) Ds
   refine⟨_,rfl,_,rfl,cB,_,_,pp.1,rfl,rfl,Dt,tu (by rw[<-h8.length,nO];exact CR.lt),?_⟩
   refine⟨_,_,_,_,_,ps.set pp.1 (bP b pp.2 ch),gi.set pp.1 v,kv5,rfl,⟨λb' o n e=>?_,?_,?_,?_,ao,A1,?_⟩⟩
   .rw[ak (gO _ _ e).2]
    exact o5 _ _ n (xb b' o n e)
   .rw[ak Dr];exact mH
   .exact Ac.keep λb' o e z=>by rw[ak z.2.2];exact e
   .rw[ak Aa];exact o5 _ _ (aP Dq) uq
   .refine IW (Paired.bE h8 λt v' e=>e.keep λb' o e z=>?_) (hFv.keep λb' o e z=>by rw[ak z.2.2];exact e)
    rw[ak z.2.2]
    exact o5 _ _ (bS e rh (by intro z;cases z)) e
  .rw[bf dz]
   exact bj ⟨_,_,_,_,_,ps,gi,gj,rfl,⟨fR,eA,pJ,jt,rg,an dz,pK⟩⟩
 .intro O H2 ac1
  refine hide λG_ mn=>?_
  obtain⟨v5,v6,v7,v8,v9,ps,gi,gj,rfl,⟨off,lV,Dn,gF,Dp,AI,Ab⟩⟩:=ac1
  refine mn.k ?_
  rw[kD] at AI
  have nO:ps.length=R.length:=AI.len
  have Dq:kn≠p':=(gO _ _ cu).1
  have Dr:kn≠cB:=(gO _ _ cu).2
  refine⟨_,rfl,_,rfl,_,rfl,p',_,_,pl,rfl,rfl,gF,tu (by rw[av,nO];exact aL),?_⟩
  have ed:=AI.done FL fQ aL
  have jt:upd H2 p' (.lst ((ps.map V.str).set pl (.str x))) p'=some (.lst ((R.map (ax (putL m (ai R pl) x.cps.toList))).map V.str)):=by rw[ao,<-List.map_set,ed]
  have fR:∀b' o,b'≠kn->H b'=some o->upd H2 p' (.lst ((ps.map V.str).set pl (.str x))) b'=some o:=λb' o n e=>by rw[ak (gO _ _ e).1];exact off b' o n e
  have eA:upd H2 p' (.lst ((ps.map V.str).set pl (.str x))) kn=some (.dK gj):=by rw[ak Dq];exact lV
  have rg:upd H2 p' (.lst ((ps.map V.str).set pl (.str x))) cB=some (.lst gi):=by rw[ak (aP Aa)];exact Dp
  have pJ:gh (λb=>Z b/\b≠p'/\b≠cB) M (upd H2 p' (.lst ((ps.map V.str).set pl (.str x)))) ks wf gj:=Dn.keep λb' o e z=>by rw[ak z.2.1];exact e
  have pK:Paired (gN (λb=>Z b/\b≠p'/\b≠cB) (upd H2 p' (.lst ((ps.map V.str).set pl (.str x)))) ks wf) ps gi:=Paired.bE Ab λt v e=>e.keep λb' o e z=>by rw[ak z.2.1];exact e
  generalize upd H2 p' (.lst ((ps.map V.str).set pl (.str x)))=H3 at fR eA jt rg pJ pK
  refine⟨_,rfl,(by show 1<=sizeLine;decide),λl hl=>⟨_,rfl,_,rfl,cB,gi,_,pl,rfl,rfl,?_,tu (by rw[<-Ab.length,nO];exact aL),?_⟩⟩
  .rw[ak (λz=>by rw[<-z,rg] at hl;cases hl)]
   exact rg
  have QU:l≠p':=λz=>by rw[z,jt] at hl;cases hl
  have nlf:l≠cB:=λz=>by rw[z,rg] at hl;cases hl
  have nlk:kn≠l:=λz=>by rw[<-z,eA] at hl;cases hl
  have hlH:H l=none:=by
   cases eb:H l with
   |none=>rfl
   |some o=>
    rw[fR l o (aP nlk) eb] at hl;cases hl
  have h5:∀b o,b≠cB->H3 b=some o->upd (upd H3 l (.lst [.str x])) cB (.lst (gi.set pl (.ref l))) b=some o:=λb o n e=>by rw[ak n,ak (bh e hl)];exact e
  have QV:upd (upd H3 l (.lst [.str x])) cB (.lst (gi.set pl (.ref l))) l=some (.lst ([x].map V.str)):=by rw[ak nlf];exact ao
  have Dt:upd (upd H3 l (.lst [.str x])) cB (.lst (gi.set pl (.ref l))) cB=some (.lst (gi.set pl (.ref l))):=ao
  generalize upd (upd H3 l (.lst [.str x])) cB (.lst (gi.set pl (.ref l)))=H5 at h5 QV Dt
  have pD:∀b' o,b'≠kn->H b'=some o->H5 b'=some o:=λb' o n e=>h5 _ _ (gO _ _ e).2 (fR b' o n e)
  have Ad:=pD _ _ (bS hs cu (by intro z;cases z)) hs
  refine⟨_,rfl,s0,CS,dx,_,_,rfl,Ad,TS,ng,wY ..,_,rfl,_,rfl,λs' mF oP IZ aT=>⟨s',mF,.ref g,.ref p',.ref cB,rfl,ao,λH' h1 h2=>⟨rfl,?_⟩⟩⟩
  have h6:∀b o,H5 b=some o->H' b=some o:=λb o e=>h2 _ _ (λz=>by rw[z,oP] at e;cases e) (by rw[ak (λz=>by rw[z,oP] at e;cases e),ak (λz=>by rw[z,IZ] at e;cases e)];exact e)
  have pF:=h5 _ _ Aa jt
  have mH:=h5 _ _ Dr eA
  refine q s' mF p' cB _ gj H' ⟨fO,QO,λb o n e=>h6 _ _ (pD b o n e),h6 _ _ mH,?_,h1,h6 _ _ pF,h6 _ _ Dt,?_⟩
  .exact(pJ.keep λb o e z=>h6 _ _ (h5 _ _ z.2.2 e)).weak λb o z _=>z.1
  .rw[<-ed]
   refine IW (Paired.bE pK λt v e=>(e.keep λb o e z=>h6 _ _ (h5 _ _ z.2.2 e)).weak λb o z _=>z.1) ?_
   exact⟨l,[x],rfl,hZ l hlH,h6 _ _ QV,jo.one eQ w8,by show 1<=64;decide⟩
end
theorem mI(f:Str)(v:V):∀fs:List (Str×V),(aR f v fs).length<=fs.length+1
 |[]=>aQ _
 |(g,u)::r=>by
  unfold aR
  split
  .exact fF _
  .exact lu (mI f v r)
def aA.ac2{a g:Addr}{fs:List (Str×V)}(hg:H g=some (.ins C dx fs))(k:∀b o,b≠g->H b=some o->H' b=some o)(h:aA K H a xs):aA K H' a xs:=by
 rcases h with (h | ⟨o,h⟩) | h
 .exact .inl (.inl (k _ _ (bS h hg (by intro z;cases z)) h))
 .exact .inl (.inr ⟨o,k _ _ (bS h hg (by intro z;cases z)) h⟩)
 .exact .inr h
theorem kT.off{H H':Hp}{D:Addr}{r:List C2}{x:V}(hD:∃o,H D=some (.lst o))(k:∀b o,b≠D->H b=some o->H' b=some o)(h:kT H r x):kT H' r x:=by
 obtain⟨t,ys,e,ht,hc⟩:=h
 obtain⟨o,ho⟩:=id hD
 exact⟨t,ys,e,k _ _ (bS ht ho (by intro z;cases z)) ht,hc.off hD k⟩
def kT.fJ{x:V}(k:∀b o,H b=some (.tup o)->H' b=some (.tup o))(h:kT H r x):kT H' r x:=by
 obtain⟨t,ys,e,ht,hc⟩:=h
 exact⟨t,ys,e,k _ _ ht,hc.lists k⟩
theorem I8{α β:Type}{F:α->β->Prop}(d:α):∀(R:List α) (ys:List β) (k:Nat),Paired (λi y=>F (R.getD (i - k) d) y) (List.range' k R.length) ys->Paired F R ys
 |[],ys,k,h=>by cases h;exact .nil
 |r::R,ys,k,h=>by
  rw[eJ,List.range'_succ] at h
  cases h with
  |cons h t=>
   refine .cons ?_ (I8 d R _ (k+1) (QW t λi y mi e=>?_))
   .rw[Nat.sub_self] at h
    exact h
   .have h1:=(List.mem_range'_1.mp mi).1
    have e2:i - k=(i - (k+1))+1:=by lia
    rw[e2] at e
    exact e
where
 QW {α β:Type}{F G:α->β->Prop}:∀{xs:List α}{ys:List β},Paired F xs ys->(∀x y,x∈xs->F x y->G x y)->Paired G xs ys
  |_,_,.nil,_=>.nil
  |_,_,.cons h t,k=>.cons (k _ _ bK h) (QW t λx y m e=>k x y (cW _ m) e)
def ac3{F:List C2->β->Prop}{ys:List β}(h:Paired (λi y=>F (ai R i) y) (List.range R.length) ys):Paired F R ys:=by
 refine I8 [] R ys 0 ?_
 rw[<-List.range_eq_range']
 exact h
theorem QX{α:Type}{G:α->Addr->Prop}:∀{l:List α}{ys:List V},Paired (λi y=>∃t,y=V.ref t/\G i t) l ys->∃ts:List Addr,ys=ts.map V.ref/\Paired (λt i=>G i t) ts l
 |_,_,.nil=>⟨[],rfl,.nil⟩
 |_,_,.cons ⟨t,e,h⟩ r=>by
  obtain⟨ts,e2,p⟩:=QX r
  exact⟨t::ts,by rw[e,e2];rfl,.cons h p⟩
theorem QY(h:Str->V)(x:Str):∀(n:Nat) (xs:List Str),xs.length=n->aM (jh (xs.map λx=>(x,h x))) (Sum.inr x:Key)=if x∈xs then some (h x) else none
 |0,xs,e=>by
  have:xs=[]:=List.length_eq_zero_iff.mp e
  subst this
  rfl
 |n+1,xs,e=>by
  have aT:xs≠[]:=λz=>by rw[z] at e;cases e
  obtain⟨ys,y,rfl⟩:∃ys y,xs=ys++[y]:=⟨xs.dropLast,xs.getLast aT,(TX aT).symm⟩
  have ih:=QY h x n ys (by simpa using e)
  rw[fG,cF,EI,Oa,oE]
  by_cases z:x=y
  .rw[aC (by rw[z]),aC (by rw[z];simp),z]
  .rw[au (λw=>z (by injection w)),ih]
   by_cases m:x∈ys
   .rw[aC m,aC (j0 _ m)]
   .rw[au m,au (λw=>by rcases dR.mp w with w | w;exact m w;exact z (cJ.mp w))]
theorem QZ{α β γ:Type}{F:α->γ->Prop}{f:β->γ}:∀{xs:List α}{ys:List β},Paired (λx y=>F x (f y)) xs ys->Paired F xs (ys.map f)
 |_,_,.nil=>.nil
 |_,_,.cons h t=>.cons h (QZ t)
section
variable{P:Program}{w:World}{K:Frag}{mg:Str->Option Value}{base:Heap}{f:Addr}{fd:FuncData}
def ac4(H H':Hp)(R:List (List C2))(cs:List V):Prop:=Paired (λi x=>∃q us,x=V.ref q/\H q=none/\H' q=some (.lst us)/\bC H' (jn R i) us) (List.range R.length) cs
def Q0(K:Frag)(CG CB:Addr):Sp:=λvs H Q _=>∃(g dx a bk d:Addr) (l:List Str) (w:Nat) (kvs:List (Key×V)),vs=[.ref g,.ref bk,.ref a]/\H g=some (.ins CG dx [])/\aA K H a (l.map V.str)/\bH l w/\GoodR (aV l w)/\gL CB H bk d kvs/\kvs.length<64/\(∀x∈aJ kvs,eP x=true)/\
 ∀(ce cf wo kn:Addr) (xs cs:List V) (wd:List (Key×V)) (H':Hp),(∀b o,b≠g->H b=some o->H' b=some o)->H' g=some (.ins CG dx (fw (.ref a) (.ref ce) (.ref cf) (.ref wo) (.ref kn)))->H ce=none->H' ce=some (.lst xs)->Paired (kT H') (aV l w) xs->H cf=none->H' cf=some (.lst cs)->ac4 H H' (aV l w) cs->
  H wo=none->H' wo=some (.dK wd)->(∀x∈aJ kvs,aM wd (Sum.inr x:Key)=aM kvs (Sum.inr x:Key))->H kn=none->H' kn=some (.dK [])->Q .aw H'
def ac5:bu ["self","book","sheet"] ["self","book","sheet"] (aN (inClass (top 45) 0)):={}
theorem ac6(B:Bl mg)(F:aZ K "__init__" "Ground.__init__" (inClass (top 45) 0) f fd)(T:cS K CG)(IV:bQ K CG "sheet")(Du:bQ K CG "cells")(ncr:bQ K CG "crossings")(Q1:bQ K CG "worths")(I9:bQ K CG "known")(ur:Fn P w K mg base "rows_of" 5 (zm K))(ac7:Fn P w K mg base "crossings_of" 2 (Qz K))(Ja:Mt P w K mg base CB "words" 1 (Pt CB) [])(xg:Mt P w K mg base CB "worth" 5 (Il CB) []):aK P w K mg base aS 6 f fd ["self","book","sheet"] (Q0 K CG CB):=by
 refine F.bU ac5 λaF A outer s H vs Q E hr h=>?_
 refine hide λG_ aG=>?_
 obtain⟨g,dx,a,bk,d,l,wd,kvs,rfl,hg,hT,S,G,hB,dW,eI,q⟩:=h
 refine aG.k ?_
 refine⟨_,(az (lJ (pv 0) (pv 2) rfl)
  (az (lJ (pv 0) (jg (js:=[]) (ns:=[]) (eD (bD ur hr (af (pv 2) aj))) rfl rfl rfl rfl (λ_ _ _ _=>lU) (λ_ _ _ _=>(yC (K:=K) (rr:=ya) rfl cY (pv 0) aI))) rfl)
  (az (lJ (pv 0) (bD ac7 hr (af (du (pv 0) rfl) aj)) rfl)
  (az (lJ (pv 0) (m5 (YY rfl) (by rfl) B.aau Y0 (af (jg (js:=[1]) (ns:=["book"]) (eD (vQ Ja hr (pv 1))) rfl rfl rfl rfl (λ_ _ _ _=>lU) (λ_ _ _ _=>(eZ (af (pv 0) (af (kj xg hr (pv 1) (af (pv 0) aj)) aj))))) aj)) rfl)
  (aB (lJ (pv 0) BJ rfl)))))),?_⟩
 try dsimp only[bJ]
 have hR9:∀i,(ai (aV l wd) i).length<=9:=λi=>by
  by_cases hi:i<(aV l wd).length
  .exact(mB S (pH hi)).2.1
  .unfold ai
   rw[cz,di (Lx hi)]
   exact bW _
 have mC:=tX S
 rw[<-zJ] at mC
 obtain⟨⟨Jb,qG⟩,Jc,Jd,rj⟩:=id hB
 have Q2:bk≠g:=bS qG hg (λz=>by injection z with _ _ z;unfold wD at z;cases z)
 have ndg:d≠g:=bS Jc hg (λz=>by cases z)
 refine⟨_,rfl,_,rfl,g,CG,dx,[],rfl,hg,T,IV,(by show 0<1000;decide),?_⟩
 have o1:∀b o,b≠g->H b=some o->upd H g (.ins CG dx (aR "sheet" (.ref a) [])) b=some o:=λb o n e=>by rw[ak n];exact e
 have g1:upd H g (.ins CG dx (aR "sheet" (.ref a) [])) g=some (.ins CG dx (aR "sheet" (.ref a) [])):=ao
 have Q3:∀b,upd H g (.ins CG dx (aR "sheet" (.ref a) [])) b=none->H b=none:=λb e=>by
  cases eb:H b with
  |none=>rfl
  |some o=>
   by_cases z:b=g
   .rw[z,g1] at e;cases e
   .rw[o1 b o z eb] at e;cases e
 generalize upd H g (.ins CG dx (aR "sheet" (.ref a) []))=H1 at o1 g1 Q3
 have GW:=aA.ac2 hg o1 hT
 refine⟨_,rfl,a,l,wd,rfl,GW,S,λgg xa xd H2 hgg s2 hL rA rD=>⟨gg,rfl,⟨_,aq.of hL⟩,?_⟩⟩
 have rB:=HX rA rD
 have Q4:=rB.length
 have dG:(aV l wd).length=(xa++xd).length:=by rw[qU,av,Q4]
 refine comp_map kh (by lia) (λ_ i y H3=>kT H3 (ai (aV l wd) i) y) (λH3 s3=>aq.of (s3 _ _ hL)) (λD i y Ha Hb _ hD k h=>h.off hD k) ?_ ?_
 .intro D i y H3 Z hD hy s3 _ k1
  refine hide λG_ bw=>?_
  obtain⟨row,hrow,way,aa,t,ys,rfl,e1,e2,e3⟩:=Paired.get rB hy
  refine bw.k ?_
  have er:ai (aV l wd) i=row.2:=by unfold ai;rw[qU,cz,bF,hrow];rfl
  exact⟨_,rfl,aa,_,2,.ref t,rfl,rfl,aA.of (s3 _ _ e1),rfl,k1 _ _ (ag.dM _) ⟨t,ys,rfl,s3 _ _ e2,by rw[er];exact e3.mono s3⟩⟩
 .intro ce ys H3 kU wN s3 pr
  rw[<-dG] at pr
  have pL:=ac3 (F:=kT H3) pr
  have gk:=s2.trans s3
  have xh:H1 ce=none:=s2.free kU
  have Je:ce≠g:=λz=>by rw[z,g1] at xh;cases xh
  refine⟨_,rfl,g,CG,dx,_,rfl,gk _ _ g1,T,Du,lr (mI _ _ _) (by show 1<1000;decide),?_⟩
  have o4:∀b o,b≠g->H3 b=some o->upd H3 g (.ins CG dx (aR "cells" (.ref ce) (aR "sheet" (.ref a) []))) b=some o:=λb o n e=>by rw[ak n];exact e
  have g4:upd H3 g (.ins CG dx (aR "cells" (.ref ce) (aR "sheet" (.ref a) []))) g=some (.ins CG dx (aR "cells" (.ref ce) (aR "sheet" (.ref a) []))):=ao
  generalize upd H3 g (.ins CG dx (aR "cells" (.ref ce) (aR "sheet" (.ref a) [])))=H4 at o4 g4
  have ng3:∀b o,H3 b=some (.tup o)->b≠g:=λb o e=>bS e (gk _ _ g1) (by intro z;cases z)
  have Q5:=Paired.bE pL λr x h=>h.fJ λb o e=>o4 b _ (ng3 b o e) e
  have Jf:∀b o,b≠g->H b=some o->H4 b=some o:=λb o n e=>o4 b o n (gk _ _ (o1 b o n e))
  have Dv:∀b,H4 b=none->H b=none:=λb e=>by
   cases eb:H b with
   |none=>rfl
   |some o=>
    by_cases z:b=g
    .rw[z,g4] at e;cases e
    .rw[Jf b o z eb] at e;cases e
  have lc:(aR "cells" (.ref ce) (aR "sheet" (.ref a) [])).lookup ("cells":Str)=some (V.ref ce):=by rw[de,aC rfl]
  refine⟨_,rfl,g,CG,dx,_,_,rfl,g4,T,Du,lc,ce,aV l wd,ys,rfl,o4 _ _ Je wN,Q5,G,mC,hR9,λcf zs H5 pM s5 ac8 gD=>?_⟩
  have ac9:cf≠g:=λz=>by rw[z,g4] at pM;cases pM
  refine⟨_,rfl,g,CG,dx,_,rfl,s5 _ _ g4,T,ncr,lr (bL (mI _ _ _) (lu (mI _ _ _))) (by show 2<1000;decide),?_⟩
  have g5:=s5 _ _ g4
  have o6:∀b o,b≠g->H5 b=some o->upd H5 g (.ins CG dx (aR "crossings" (.ref cf) (aR "cells" (.ref ce) (aR "sheet" (.ref a) [])))) b=some o:=λb o n e=>by rw[ak n];exact e
  have g6:upd H5 g (.ins CG dx (aR "crossings" (.ref cf) (aR "cells" (.ref ce) (aR "sheet" (.ref a) [])))) g=some (.ins CG dx (aR "crossings" (.ref cf) (aR "cells" (.ref ce) (aR "sheet" (.ref a) [])))):=ao
  generalize upd H5 g (.ins CG dx (aR "crossings" (.ref cf) (aR "cells" (.ref ce) (aR "sheet" (.ref a) []))))=H6 at o6 g6
  have Jg:∀b o,b≠g->H b=some o->H6 b=some o:=λb o n e=>o6 b o n (s5 _ _ (Jf b o n e))
  have Q6:gL CB H6 bk d kvs:=⟨⟨Jb,Jg _ _ Q2 qG⟩,Jg _ _ ndg Jc,Jd,rj⟩
  refine⟨_,rfl,bk,Jb,_,rfl,Jg _ _ Q2 qG,t9 _ (by decide +kernel),bk,d,kvs,rfl,Q6,dW,λlw H7 hlw s7 Q7=>⟨lw,rfl,⟨_,aq.of Q7⟩,?_⟩⟩
  have nz:(dg (aJ kvs)).length=kvs.length:=by rw[(km _).length_eq,nJ]
  have Q8:∀x,x∈dg (aJ kvs)↔x∈aJ kvs:=λx=>(km _).mem_iff
  refine comp_map kh (by rw[av];lia) (λ_ i y H8=>∃t,y = .ref t/\H8 t=some (.tup [.str ((dg (aJ kvs)).getD i ⟨#[]⟩),(aM kvs (Sum.inr ((dg (aJ kvs)).getD i ⟨#[]⟩):Key)).getD .aw])) (λH8 s8=>aq.of (s8 _ _ Q7)) (λD i y Ha Hb _ hD k h=>?_) ?_ ?_
  .obtain⟨t,e1,e2⟩:=h
   obtain⟨o,ho⟩:=hD
   exact⟨t,e1,k _ _ (bS e2 ho (by intro z;cases z)) e2⟩
  .intro D i y H8 Z hD hy s8 _ k1
   rw[bF] at hy
   refine hide λG_ cq=>?_
   obtain⟨x,hx,rfl⟩:=i3.mp hy
   have hxd:(dg (aJ kvs)).getD i ⟨#[]⟩=x:=cE hx
   have eQ:x∈aJ kvs:=(Q8 x).mp (bM hx)
   obtain⟨v,hv⟩:∃v,aM kvs (Sum.inr x:Key)=some v:=by
    have:=zK rj x
    rw[aU eQ] at this
    cases e:aM kvs (Sum.inr x:Key) with
    |none=>rw[e] at this;cases this
    |some v=>exact⟨v,rfl⟩
   have Q9:=Q6.mono (s7.trans s8)
   obtain⟨⟨dx8,ada⟩,_⟩:=id Q9
   refine cq.k ?_
   refine⟨_,rfl,_,rfl,bk,dx8,_,rfl,ada,t9 _ (by decide +kernel),_,rfl,bk,d,kvs,x,v,rfl,Q9,eI x eQ,hv,λH9 s9=>⟨by show 2<=sizeLine;decide,λt ht=>k1 _ _ (s9.trans (ag.upd ht)) ⟨t,rfl,?_⟩⟩⟩
   rw[ao,hxd,hv]
   rfl
  .intro D us H8 hD bO s8 pr8
   obtain⟨ts,rfl,Ra⟩:=QX pr8
   rw[av] at Ra
   have adb:Paired (λt p=>H8 t=some (HO.tup [V.str p.1,p.2])) ts ((dg (aJ kvs)).map λx=>(x,(aM kvs (Sum.inr x:Key)).getD .aw)):=by
    have e:=QZ (F:=λt p=>H8 t=some (HO.tup [V.str p.1,p.2])) (f:=λi=>((dg (aJ kvs)).getD i ⟨#[]⟩,(aM kvs (Sum.inr ((dg (aJ kvs)).getD i ⟨#[]⟩):Key)).getD .aw)) Ra
    rw[zw (λx=>(x,(aM kvs (Sum.inr x:Key)).getD .aw))] at e
    exact e
   refine⟨D,ts,_,rfl,bO,adb,by rw[av];lia,λwo iX=>?_⟩
   have s6:=s7.trans s8
   have s9:ag H8 (upd H8 wo (.dK (jh ((dg (aJ kvs)).map λx=>(x,(aM kvs (Sum.inr x:Key)).getD .aw))))):=ag.upd iX
   have w9:upd H8 wo (.dK (jh ((dg (aJ kvs)).map λx=>(x,(aM kvs (Sum.inr x:Key)).getD .aw)))) wo=some (.dK (jh ((dg (aJ kvs)).map λx=>(x,(aM kvs (Sum.inr x:Key)).getD .aw)))):=ao
   generalize upd H8 wo (.dK (jh ((dg (aJ kvs)).map λx=>(x,(aM kvs (Sum.inr x:Key)).getD .aw))))=H9 at s9 w9
   have Dw:=s6.trans s9
   have Jh:wo≠g:=λz=>by rw[z,s6 _ _ g6] at iX;cases iX
   refine⟨_,rfl,g,CG,dx,_,rfl,Dw _ _ g6,T,Q1,lr (bL (mI _ _ _) (lu (bL (mI _ _ _) (lu (mI _ _ _))))) (by show 3<1000;decide),?_⟩
   have oA:∀b o,b≠g->H9 b=some o->upd H9 g (.ins CG dx (aR "worths" (.ref wo) (aR "crossings" (.ref cf) (aR "cells" (.ref ce) (aR "sheet" (.ref a) []))))) b=some o:=λb o n e=>by rw[ak n];exact e
   have gA:upd H9 g (.ins CG dx (aR "worths" (.ref wo) (aR "crossings" (.ref cf) (aR "cells" (.ref ce) (aR "sheet" (.ref a) []))))) g=some (.ins CG dx (aR "worths" (.ref wo) (aR "crossings" (.ref cf) (aR "cells" (.ref ce) (aR "sheet" (.ref a) []))))):=ao
   generalize upd H9 g (.ins CG dx (aR "worths" (.ref wo) (aR "crossings" (.ref cf) (aR "cells" (.ref ce) (aR "sheet" (.ref a) [])))))=HA at oA gA
   intro kn cu
   have sB:ag HA (upd HA kn (.dK [])):=ag.upd cu
   have kB:upd HA kn (.dK []) kn=some (.dK []):=ao
   generalize upd HA kn (.dK [])=HB at sB kB
   have Ji:kn≠g:=λz=>by rw[z,gA] at cu;cases cu
   refine⟨_,rfl,g,CG,dx,_,rfl,sB _ _ gA,T,I9,lr (bL (mI _ _ _) (lu (bL (mI _ _ _) (lu (bL (mI _ _ _) (lu (mI _ _ _))))))) (by show 4<1000;decide),?_⟩
   have Jj:∀b o,b≠g->H4 b=some o->upd HB g (.ins CG dx (fw (.ref a) (.ref ce) (.ref cf) (.ref wo) (.ref kn))) b=some o:=λb o n e=>by
    rw[ak n]
    exact sB _ _ (oA b o n (Dw _ _ (o6 b o n (s5 _ _ e))))
   have Jk:∀b o,b≠g->H5 b=some o->upd HB g (.ins CG dx (fw (.ref a) (.ref ce) (.ref cf) (.ref wo) (.ref kn))) b=some o:=λb o n e=>by
    rw[ak n]
    exact sB _ _ (oA b o n (Dw _ _ (o6 b o n e)))
   have ng5:∀b o,H5 b=some (.tup o)->b≠g:=λb o e=>bS e g5 (by intro z;cases z)
   have ng4:∀b o,H4 b=some (.tup o)->b≠g:=λb o e=>bS e g4 (by intro z;cases z)
   refine q ce cf wo kn ys zs (jh ((dg (aJ kvs)).map λx=>(x,(aM kvs (Sum.inr x:Key)).getD .aw))) _ (λb o n e=>Jj b o n (Jf b o n e)) ao (Q3 _ xh) (Jj _ _ Je (o4 _ _ Je wN)) (Paired.bE Q5 λr x h=>h.fJ λb o e=>Jj b _ (ng4 b o e) e) (Dv _ pM) (Jk _ _ ac9 ac8) ?_ ?_ ?_ (λx hx=>?_) ?_ ?_
   .refine Paired.bE gD λi x h=>?_
    refine hide λG_ dE=>?_
    obtain⟨qq,vs,e1,e2,e3,e4⟩:=h
    refine dE.k ?_
    exact⟨qq,vs,e1,Dv _ e2,Jk _ _ (bS e3 g5 (by intro z;cases z)) e3,e4.lists λb o e=>Jk b _ (ng5 b o e) e⟩
   .refine Dv _ ?_
    cases eb:H4 wo with
    |none=>rfl
    |some o=>rw[s6 _ _ (o6 _ _ Jh (s5 _ _ eb))] at iX;cases iX
   .rw[ak Jh]
    exact sB _ _ (oA _ _ Jh w9)
   .rw[QY (λx=>(aM kvs (Sum.inr x:Key)).getD .aw) x _ _ rfl,aC ((Q8 x).mpr hx)]
    have:=zK rj x
    rw[aU hx] at this
    cases e:aM kvs (Sum.inr x:Key) with
    |none=>rw[e] at this;cases this
    |some v=>rfl
   .refine Dv _ ?_
    cases eb:H4 kn with
    |none=>rfl
    |some o=>rw[oA _ _ Ji (Dw _ _ (o6 _ _ Ji (s5 _ _ eb)))] at cu;cases cu
   .rw[ak Ji]
    exact kB
end
structure pN(K:Frag)(CG:Addr)(Z:Addr->Prop)(H:Hp)(g kn:Addr)(l:List Str)(R:List (List C2)):Prop where
 ex:∃(cR a ce cf:Addr) (wo:V) (xs cs:List V),H g=some (.ins CG cR (fw (.ref a) (.ref ce) (.ref cf) wo (.ref kn)))/\H a=some (.tup (l.map V.str))/\H ce=some (.lst xs)/\Z ce/\Paired (kT H) R xs/\H cf=some (.lst cs)/\Z cf/\
  Paired (λi x=>∃q us,x=V.ref q/\Z q/\H q=some (.lst us)/\bC H (jn R i) us) (List.range R.length) cs
structure Std(CS:Addr)(Z:Addr->Prop)(H:Hp)(s g:Addr)(m:List Str)(R:List (List C2))(ks:List Str)(wf:Str->Int):Prop where
 ex:∃(dx p fl:Addr) (fs:List V),H s=some (.ins CS dx (iJ (.ref g) (.ref p) (.ref fl)))/\H p=some (.lst ((R.map (ax m)).map V.str))/\Z p/\H fl=some (.lst fs)/\Z fl/\Paired (gN Z H ks wf) (R.map (ax m)) fs
def Jl(h:(kvs.map (·.1)).Nodup)(t:lZ kvs):(aJ kvs).Nodup:=by
 induction kvs with
 |nil=>exact i4
 |cons q r ih=>
  obtain⟨h1,h2⟩:=ig.mp h
  have t2:lZ r:=λx m=>t x (cW _ m)
  refine ig.mpr ⟨λm=>h1 ?_,ih h2 t2⟩
  obtain⟨x,ex⟩:=t q bK
  obtain⟨y,my,ey⟩:=cC.mp m
  obtain⟨z,ez⟩:=t2 y my
  refine cC.mpr ⟨y,my,?_⟩
  dsimp only at ey ⊢
  rw[ex,ez] at ey
  rw[ex,ez]
  exact eX Sum.inr ey
structure Kp(Z:Addr->Prop)(H H':Hp):Prop where
 gM:∀b o,(∀l,o ≠ .lst l)->(∀l,o ≠ .dK l)->H b=some o->H' b=some o
 lst:∀b l,Z b->H b=some (.lst l)->H' b=some (.lst l)
def Kp.trans{H2:Hp}(a:Kp Z H H1)(b:Kp Z H1 H2):Kp Z H H2:=⟨λc o n1 n2 e=>b.gM c o n1 n2 (a.gM c o n1 n2 e),λc l z e=>b.lst c l z (a.lst c l z e)⟩
def Kp.of(a:ag H H1):Kp Z H H1:=⟨λc o _ _ e=>a c o e,λc l _ e=>a c _ e⟩
theorem Kp.tup(k:Kp Z H H'){o:List V}(h:H b=some (.tup o)):H' b=some (.tup o):=k.gM _ _ (by intro _ z;cases z) (by intro _ z;cases z) h
theorem Kp.ins(k:Kp Z H H'){fs:List (Str×V)}(h:H b=some (.ins C dx fs)):H' b=some (.ins C dx fs):=k.gM _ _ (by intro _ z;cases z) (by intro _ z;cases z) h
def pN.keep{g:Addr}(k:Kp Z H H')(h:pN K CG Z H g kn l R):pN K CG Z H' g kn l R:=by
 obtain⟨cR,a,ce,cf,wo,xs,cs,h1,h2,h3,z3,h4,h5,z5,h6⟩:=h.ex
 exact⟨cR,a,ce,cf,wo,xs,cs,k.ins h1,k.tup h2,k.lst _ _ z3 h3,z3,Paired.bE h4 λr x e=>e.fJ λb o e=>k.tup e,k.lst _ _ z5 h5,z5,Paired.bE h6 λi x e=>let ⟨q,us,e1,e2,e3,e4⟩:=e;⟨q,us,e1,e2,k.lst _ _ e2 e3,e4.lists λb o e=>k.tup e⟩⟩
def pN.weak{g:Addr}(k:∀b o,Z b->H b=some o->Z' b)(h:pN K CG Z H g kn l R):pN K CG Z' H g kn l R:=by
 obtain⟨cR,a,ce,cf,wo,xs,cs,h1,h2,h3,z3,h4,h5,z5,h6⟩:=h.ex
 exact⟨cR,a,ce,cf,wo,xs,cs,h1,h2,h3,k _ _ z3 h3,h4,h5,k _ _ z5 h5,Paired.bE h6 λi x e=>let ⟨q,us,e1,e2,e3,e4⟩:=e;⟨q,us,e1,k _ _ e2 e3,e3,e4⟩⟩
structure pO(CG:Addr)(H:Hp)(g kn:Addr)(ks:List Str)(wf:Str->Int):Prop where
 ex:∃(dx:Addr) (a ce cf:V) (wo:Addr),H g=some (.ins CG dx (fw a ce cf (.ref wo) (.ref kn)))/\∀x∈ks,wo≠kn/\∃rk,H wo=some (.dK rk)/\aM rk (Sum.inr x:Key)=some (.int (wf x))
def pO.keep{g:Addr}(hk:H kn=some (.dK kvs))(k:∀b o,b≠kn->(∀l,o ≠ .lst l)->H b=some o->H' b=some o)(h:pO CG H g kn ks wf):pO CG H' g kn ks wf:=by
 obtain⟨dx,a,ce,cf,wo,h1,h2⟩:=h.ex
 refine⟨dx,a,ce,cf,wo,k _ _ (bS h1 hk (by intro z;cases z)) (by intro _ z;cases z) h1,λx mx=>?_⟩
 obtain⟨n,rk,e1,e2⟩:=h2 x mx
 exact⟨n,rk,k _ _ n (by intro _ z;cases z) e1,e2⟩
section
variable{P:Program}{w:World}{K:Frag}{mg:Str->Option Value}{base:Heap}{f:Addr}{fd:FuncData}
def Jm(K:Frag)(CB CG CS:Addr):Sp:=λvs H Q _=>∃(a bk d:Addr) (l:List Str) (w:Nat) (R:List (List C2)) (kvs:List (Key×V)),vs=[.ref bk,.ref a]/\H a=some (.tup (l.map V.str))/\cP l w R/\gL CB H bk d kvs/\kvs.length<64/\(∀x∈aJ kvs,eP x=true)/\wH kvs/\
 ∀(s g kn wo:Addr) (H':Hp),ag H H'->H kn=none->pN K CG (λb=>H b=none) H' g kn l R->H' kn=some (.dK [])->Std CS (λb=>H b=none) H' s g l R (aJ kvs) (nK kvs)->pO CG H' g kn (aJ kvs) (nK kvs)->Q (.ref s) H'
def Dx:bu ["book","sheet","ground","patterns","fits"] ["book","sheet"] (aN (top 47)):={}
theorem ade(B:Bl mg)(F:aZ K "first_standing" "first_standing" (top 47) f fd)(TG:cS K CG)(TB:cS K CB)(Du:bQ K CG "cells")(Jn:Fn P w K mg base "pattern" 2 (Ia K))(Jo:Mt P w K mg base CB "fitting" 2 (PH CB) [])(xg:Mt P w K mg base CB "worth" 5 (Il CB) [])(adf:GS K CB "worth")(Jp:Nw P w K mg base "Ground" CG 6 (Q0 K CG CB))(w6:Nw P w K mg base "Standing" CS 1 (IP CS)):aK P w K mg base aS 8 f fd ["book","sheet"] (Jm K CB CG CS):=by
 refine F.bU Dx λaF A outer s H vs Q E hr h=>?_
 refine hide λG_ aG=>?_
 obtain⟨a,bk,d,l,wd,R,kvs,rfl,hT,FL,hB,dW,eI,rl,q⟩:=h
 refine aG.k ?_
 refine⟨_,(az (aX 2 Dx.nd (yJ Jp hr (af (pv 0) (af (pv 1) aj))))
  (az (yo (i:=3) Dx.nd rfl (Or.inl rfl) (js:=[1]) (ns:=["sheet"]) (eD (du (pv 2) rfl)) rfl rfl rfl rfl (λ_ _ _ _=>lU) (λ_ _ _ _=>(bD Jn hr (af (pv 1) (af (pv 0) aj)))))
  (az (yo (i:=4) Dx.nd rfl (Or.inl rfl) (js:=[0]) (ns:=["book"]) (eD (pv 3)) rfl rfl rfl rfl (λ_ _ _ _=>lU) (λ_ _ _ _=>(YN (K:=K) rfl xg adf (hr.mono (by decide)) (by rfl) B.Hx Ge (af (kj Jo hr (pv 1) (af (pv 0) aj)) aj) (pv 1) rfl)))
  (aB (bg (yJ w6 hr (af (pv 2) (af (pv 3) (af (pv 4) aj))))))))),?_⟩
 try dsimp only[bJ]
 have eR:=FL.eq
 subst eR
 have S:=FL.sh
 obtain⟨⟨Jb,qG⟩,Jc,Jd,rj⟩:=id hB
 have cu:(aJ kvs).Nodup:=Jl Jd rj
 refine⟨_,rfl,_,rfl,λg cR hg mJ aT=>?_⟩
 have o0:ag H (upd (upd H cR (.own g)) g (.ins CG cR [])):=λb o e=>by rw[ak (bh e hg),ak (bh e mJ)];exact e
 have g0:upd (upd H cR (.own g)) g (.ins CG cR []) g=some (.ins CG cR []):=ao
 generalize upd (upd H cR (.own g)) g (.ins CG cR [])=H0 at o0 g0
 refine⟨g,cR,a,bk,d,l,wd,kvs,rfl,g0,aA.of (o0 _ _ hT),S,FL.good,hB.mono o0,dW,eI,λce cf wo kn xs cs rk H1 off g1 xh kU pL Rb pM Ae Q1 iX Rc I9 Rf=>⟨rfl,?_⟩⟩
 have s1:ag H H1:=λb o e=>off b o (bh e hg) (o0 b o e)
 have fQ:=pL.length
 have mC:=tX S
 rw[<-zJ] at mC
 refine⟨_,rfl,g,CG,cR,_,_,rfl,g1,TG,Du,QF ..,ce,rfl,⟨_,aq.of kU⟩,?_⟩
 refine comp_map kh (by lia) (λ_ i y _=>y = .str (ax l (ai (aV l wd) i))) (λH2 s2=>aq.of (s2 _ _ kU)) (λ_ _ _ _ _ _ _ _ h=>h) ?_ ?_
 .intro D i y H2 Z hD hy s2 _ k1
  refine hide λG_ bw=>?_
  obtain⟨row,hrow,t,ys,rfl,ht,gD⟩:=Paired.get pL hy
  refine bw.k ?_
  have iW:ai (aV l wd) i=row:=cE hrow
  have cI:=mB S (bM hrow)
  exact⟨_,rfl,_,rfl,a,t,l,wd,row,ys,rfl,aA.of ((s1.trans s2) _ _ hT),S,s2 _ _ ht,gD.mono s2,by lia,λc hc=>⟨(cI.2.2 c hc).1,(cI.2.2 c hc).2.1⟩,λH3 s3=>k1 _ _ s3 (by rw[iW])⟩
 .intro pp ys H2 yI Dy s2 pr
  have e:=zv pr
  have e2:(List.range xs.length).map (λi=>V.str (ax l (ai (aV l wd) i)))=(aV l wd).map (λr=>V.str (ax l r)):=by
   rw[<-fQ]
   exact zw (λr=>V.str (ax l r)) [] (aV l wd)
  rw[e2] at e
  have e3:ys=((aV l wd).map (ax l)).map V.str:=by rw[e,mV];rfl
  rw[e3] at Dy
  clear e e2 e3 pr
  have uu:=s1.trans s2
  refine⟨_,rfl,pp,rfl,⟨_,aq.of Dy⟩,?_⟩
  refine comp_map kh (by rw[av,av];lia) (λD i y H4=>∃q ws,y = .ref q/\q≠D/\H q=none/\H4 q=some (.lst (ws.map V.str))/\jo (aJ kvs) (nK kvs) (((aV l wd).map (ax l)).getD i ⟨#[]⟩) ws/\ws.length<=64) (λH3 s3=>aq.of (s3 _ _ Dy)) (λD i y Ha Hb _ _ k h=>?_) ?_ ?_
  .refine hide λG_ cq=>?_
   obtain⟨q,ws,e1,e2,e3,e4,e5⟩:=h
   refine cq.k ?_
   exact⟨q,ws,e1,e2,e3,k _ _ e2 e4,e5⟩
  .intro D i y H3 Z hD hy s3 hDo k1
   rw[bF] at hy
   refine hide λG_ dE=>?_
   obtain⟨pt,hpt,rfl⟩:=i3.mp hy
   have wz:((aV l wd).map (ax l)).getD i ⟨#[]⟩=pt:=cE hpt
   have aL:pt.length<=9:=by
    obtain⟨r,mr,rfl⟩:=cC.mp (bM hpt)
    rw[fu]
    exact(mB S mr).2.1
   have iK:=uu.trans s3
   have Jq:=hB.mono iK
   obtain⟨⟨dx3,adg⟩,_⟩:=id Jq
   refine dE.k ?_
   refine⟨_,rfl,bk,dx3,_,rfl,adg,t9 _ (by decide +kernel),_,rfl,bk,d,kvs,pt,rfl,Jq,dW,by lia,λx mx=>by have:=Ig (eI x mx);lia,λlf H4 xi s4 hLf=>?_⟩
   have Rg:=Jq.mono s4
   obtain⟨⟨dx4,adh⟩,_⟩:=id Rg
   have Rh:∀x,x∈dg ((aJ kvs).filter λx=>cO x pt)↔x∈aJ kvs/\cO x pt=true:=λx=>by rw[(km _).mem_iff,da]
   have oQ:(dg ((aJ kvs).filter λx=>cO x pt)).length<=kvs.length:=by
    rw[(km _).length_eq]
    exact bL (nY _ _) (by rw[nJ];exact aQ _)
   refine⟨_,rfl,lf,_,bk,dx4,_,nK kvs,rfl,rfl,aq.of hLf,by lia,adh,t9 _ (by decide +kernel),λx mx H5 s5 Q' hQ' =>?_,λp out H5 hp s5 ma Jr Af=>?_⟩
   .have eQ:=((Rh x).mp mx).1
    exact⟨bk,d,kvs,x,_,rfl,Rg.mono s5,eI x eQ,Iw rj rl eQ,λH6 s6=>hQ' H6 s6⟩
   .obtain⟨o,ho⟩:=hDo
    refine k1 _ _ (s4.trans s5) ⟨p,out,rfl,(λz=>by rw[z,s4 _ _ ho] at hp;cases hp),?_,ma,?_,by rw[Jr.length_eq];lia⟩
    .cases eb:H p with
     |none=>rfl
     |some o'=>rw[s4 _ _ (iK _ _ eb)] at hp;cases hp
    .rw[wz]
     exact⟨Jr.nodup_iff.mpr ((km _).nodup_iff.mpr (cu.filter _)),λx=>by rw[Jr.mem_iff];exact Rh x,Af⟩
  .intro fl fs H3 dN adi s3 pr
   have iK:=uu.trans s3
   refine⟨_,rfl,_,rfl,_,rfl,λs' mF oP IZ Ri=>⟨s',mF,.ref g,.ref pp,.ref fl,rfl,ao,λH' h1 h2=>⟨rfl,?_⟩⟩⟩
   have h6:ag H3 H':=λb o e=>h2 _ _ (λz=>by rw[z,oP] at e;cases e) (by rw[ak (λz=>by rw[z,oP] at e;cases e),ak (λz=>by rw[z,IZ] at e;cases e)];exact e)
   have pP:ag H1 H':=s2.trans (s3.trans h6)
   have rm:pO CG H' g kn (aJ kvs) (nK kvs):=by
    refine⟨cR,.ref a,.ref ce,.ref cf,wo,pP _ _ g1,λx mx=>⟨λz=>?_,rk,pP _ _ iX,(Rc x mx).trans (Iw rj rl mx)⟩⟩
    have h1:=(Rc x mx).trans (Iw rj rl mx)
    rw[z,Rf] at iX
    injection iX with iX
    injection iX with iX
    rw[<-iX] at h1
    cases h1
   refine q s' g kn wo H' (iK.trans h6) (o0.free I9) ⟨cR,a,ce,cf,.ref wo,xs,cs,pP _ _ g1,(iK.trans h6) _ _ hT,pP _ _ kU,?_,Paired.bE pL λr x h=>h.fJ λb o e=>pP _ _ e,pP _ _ pM,?_,Paired.bE Ae λi x h=>?_⟩ (pP _ _ Rf) ⟨mF,pp,fl,fs,h1,h6 _ _ (s3 _ _ Dy),s1.free yI,h6 _ _ adi,uu.free dN,?_⟩ rm
   .cases eb:H ce with
    |none=>rfl
    |some o=>rw[o0 _ _ eb] at xh;cases xh
   .cases eb:H cf with
    |none=>rfl
    |some o=>rw[o0 _ _ eb] at Rb;cases Rb
   .refine hide λG_ hU=>?_
    obtain⟨qq,us,e1,e2,e3,e4⟩:=h
    refine hU.k ?_
    refine⟨qq,us,e1,?_,pP _ _ e3,e4.lists λb o e=>pP _ _ e⟩
    cases eb:H qq with
    |none=>rfl
    |some o=>rw[o0 _ _ eb] at e2;cases e2
   .rw[av] at pr
    refine I8 ⟨#[]⟩ _ fs 0 ?_
    rw[<-List.range_eq_range']
    exact Paired.bE pr λi y h=>let ⟨qq,ws,e1,_,e3,e4,e5,e6⟩:=h;⟨qq,ws,e1,e3,h6 _ _ e4,e5,e6⟩
end
end Cw
namespace L2
open PySem
variable{K:Frag}{e:Expr}
def Rj{X:Cx}{f:Str}{pos:Pos}{ta:TE}(hK:X.K=K)(he:PE X e ta)(hb:attributeBase e f X.env (eval e X.env)=eval e X.env):PE X (.Attribute e f pos) (Mp K ta f):=hK ▸ du he hb
end L2
namespace Cw
open PySem L2
variable{AN C CB CC CG CH CN CS CW Ej Ek El Em En Eo Ep Er Es Et Td Te a e f fB fI fa fo gQ iL iY jZ kn nV rO xy:Addr}{ks l loose m s:List Str}{h i pl w:Nat}{c:C2}{R:List (List C2)}{H H' H1:Hp}{Cs ts:List Addr}{aW:List (List Str×Int)}{Z:Addr->Prop}{kvs:List (List Key×V)}{ys:List V}{x:Str}{K:Frag}{wf:Str->Int}{aH new:List (List Str)}{Kt:Bool->Hp->Prop}{r:List C2}{P q:Program}{α:Type}{v:V}{E:XK}{d:DefRec}{g:C2->Nat}{dv:Value}{cs:List Nat}{mg:Str->Option Value}{afB afu:Option Addr}{afD afw:Array (Option Value)}{XP:(Str->Option Value)->Heap->Prop}{YP:World->Heap->Prop}{base:Heap}{fd:FuncData}
noncomputable def gm(wf:Str->Int)(aH:List (List Str)):Int:=(aH.map λws=>wf (ws.headD ⟨#[]⟩)).sum
def Rk(wf:Str->Int)(aH:List (List Str))(v:V):Prop:=([]∈aH/\v = .aw)\/([]∉aH/\v = .int (gm wf aH))
theorem Dz:∀ws:List Str,fN (ws.map D.str)=0
 |[]=>rfl
 |x::r=>by rw[cF,fN,Dz r];rfl
theorem Rl:∀aH:List (List Str),fN (aH.map λws=>D.lst (ws.map D.str))<=1
 |[]=>bW _
 |ws::r=>by
  have:=Rl r
  rw[cF,fN,dep,Dz]
  lia
theorem Ag(K:Frag)(H:Hp):∀ws:List Str,dU K H (ws.map D.str) (ws.map V.str)
 |[]=>rfl
 |x::r=>⟨.str x,r.map V.str,rfl,rfl,Ag K H r⟩
theorem Rm{K:Frag}{H:Hp}:∀{aH:List (List Str)}{fs:List V},zR H aH fs->dU K H (aH.map λws=>D.lst (ws.map D.str)) fs
 |_,_,.nil=>rfl
 |_,_,.cons ⟨q,e,hq,_⟩ r=>⟨_,_,rfl,⟨q,_,e,aq.of hq,Ag K H _⟩,Rm r⟩
theorem Rn:∀aH:List (List Str),((aH.map λws=>D.lst (ws.map D.str)).any λd=>fg d (.lst []))=decide ([]∈aH)
 |[]=>rfl
 |[]::r=>by rw[aU bK];rfl
 |(x::s)::r=>by
  rw[cF,u9,Rn r]
  show(false||decide ([]∈r))=_
  rw[Bool.false_or]
  congr 1
  simp
section
variable{w:World}
def Js(K:Frag)(C CG:Addr):Sp:=λvs H Q _=>∃(s dx g kn p fl:Addr) (aH:List (List Str)) (fs:List V) (ks:List Str) (wf:Str->Int),vs=[.ref s]/\H s=some (.ins C dx (iJ (.ref g) (.ref p) (.ref fl)))/\pO CG H g kn ks wf/\H fl=some (.lst fs)/\zR H aH fs/\aH.length<=200/\(∀ws∈aH,∀x∈ws,x∈ks)/\
 ∀v H',Rk wf aH v->ag H H'->Q v H'
theorem adj:bu ["self"] ["self"] (aN (inClass (top 46) 4)):={}
theorem adk(B:Bl mg)(F:aZ K "ceiling" "Standing.ceiling" (inClass (top 46) 4) f fd)(T:cS K C)(TG:cS K CG)(nf:bQ K C "fits")(ng:bQ K C "ground")(nw:bQ K CG "worths"):aK P w K mg base aS 1 f fd ["self"] (Js K C CG):=by
 refine F.bU adj λaF A outer s H vs Q E hr h=>?_
 refine hide λG_ aG=>?_
 obtain⟨s0,dx,g,kn,p,fl,aH,fs,ks,wf,rfl,hs,rm,dN,hF,jS,hks,qq⟩:=h
 refine aG.k ?_
 have hu:=hr.units
 have cX:=iy hr
 refine⟨_,(az (cn (cK (Oi hu) (eE aj) (du (pv 0) rfl))
  (aB (bg gv))
  cH)
  (aB (bg (cL (XA rfl) (by rfl) B.aaw Xx (af (jg (js:=[0]) (ns:=["self"]) (eD (du (pv 0) rfl)) rfl rfl rfl rfl (λ_ _ _ _=>lU) (λ_ _ _ _=>(BG (by exact cX) (Rj (K:=K) rfl (Rj (K:=K) rfl (pv 1) rfl) rfl) (yC (K:=K) (rr:=BD) rfl iu (pv 0) aI) (λ_ _=>rfl)))) aj))))),?_⟩
 try dsimp only[bJ]
 have xi:=hF.length
 refine⟨bW _,λen hen=>?_⟩
 have s1:ag H (upd H en (.lst [])):=ag.upd hen
 have he:upd H en (.lst []) en=some (.lst []):=ao
 generalize upd H en (.lst [])=H1 at s1 he
 have Ro:zR H1 aH fs:=Paired.bE hF λws v e=>let ⟨q,e1,e2,e3⟩:=e;⟨q,e1,s1 _ _ e2,e3⟩
 refine⟨_,rfl,s0,C,dx,_,_,rfl,s1 _ _ hs,T,nf,wX ..,fl,fs,_,.lst [],rfl,aq.of (s1 _ _ dN),Rm Ro,⟨en,_,rfl,aq.of he,rfl⟩,bL (Rl aH) (by decide),_,rfl,?_⟩
 rw[au cy,Rn]
 by_cases aT:[]∈aH
 .rw[aU aT]
  exact bA (qq _ _ (.inl ⟨aT,rfl⟩) s1)
 .rw[bf aT]
  refine bj ⟨_,rfl,s0,C,dx,_,_,rfl,s1 _ _ hs,T,nf,wX ..,fl,rfl,⟨_,aq.of (s1 _ _ dN)⟩,?_⟩
  refine hide λG_ bw=>?_
  obtain⟨cR,va,vce,ag0,wo,hg,hW⟩:=rm.ex
  refine bw.k ?_
  refine comp_map kh (by lia) (λ_ i y _=>y = .int (wf ((aH.getD i []).headD ⟨#[]⟩))) (λH2 s2=>aq.of (s2 _ _ (s1 _ _ dN))) (λ_ _ _ _ _ _ _ _ h=>h) ?_ ?_
  .intro D i y H2 Z hD hy s2 _ k1
   refine hide λG_ cq=>?_
   obtain⟨ws,hws,q,rfl,hq,dW⟩:=Paired.get hF hy
   refine cq.k ?_
   have pI:aH.getD i []=ws:=cE hws
   have mK:=s1.trans s2
   cases ws with
   |nil=>exact absurd (bM hws) aT
   |cons x r=>
    obtain⟨_,rk,iX,hv⟩:=hW x (hks _ (bM hws) x bK)
    refine⟨_,rfl,s0,C,dx,_,_,rfl,mK _ _ hs,T,ng,wY ..,g,CG,cR,_,_,rfl,mK _ _ hg,TG,nw,acs ..,_,rfl,q,_,0,.str x,rfl,rfl,aq.of (mK _ _ hq),(show gY ((x::r).map V.str) ((0:Nat):Int)=some (.str x) from eF rfl),wo,.int (wf x),rfl,.inl ⟨rk,Sum.inr x,.inl (mK _ _ iX),rfl,hv.symm⟩,k1 _ _ (ag.dM _) (by rw[pI];rfl)⟩
  .intro D ys H2 hD bO s2 pr
   have e:=zv pr
   rw[<-xi] at e
   have e2:(List.range aH.length).map (λi=>V.int (wf ((aH.getD i []).headD ⟨#[]⟩)))=(aH.map λws=>wf (ws.headD ⟨#[]⟩)).map V.int:=by
    rw[mV]
    exact zw (λws=>V.int (wf (ws.headD ⟨#[]⟩))) [] aH
   rw[e2] at e
   rw[e] at bO
   exact⟨D,_,rfl,aq.of bO,qq _ _ (.inr ⟨aT,rfl⟩) (s1.trans s2)⟩
end
theorem bY.op(A:bY s m w)(h1:c.1<m.length)(h2:c.2<w):cN s c=cN m c:=by
 have a:=A.cl c h1 h2
 unfold cN
 by_cases h:sg m c=46
 .have e1:¬sg s c=35:=a.2 h
  have e2:¬sg m c=35:=by lia
  rw[bf e1,bf e2]
 .rw[a.1 h]
theorem bY.rows(A:bY s m w):aV s w=aV m w:=Qe A.ln λ_ h1 h2=>A.op h1 h2
theorem bY.get(F:cP m w R)(A:bY s m w){k:Nat}(hc:(ai R pl)[k]? = some c):(ax m (ai R pl)).cps.toList.getD k 0=46\/(ax m (ai R pl)).cps.toList.getD k 0=(ax s (ai R pl)).cps.toList.getD k 0:=by
 have hb:=F.uh hc
 rw[cE (iV hc),cE (iV hc)]
 by_cases h:sg m c=46
 .exact .inl h
 .exact .inr ((A.cl c hb.1 hb.2.1).1 h).symm
theorem bY.fit(F:cP m w R)(A:bY s m w)(pl:Nat):cO (ax s (ai R pl)) (ax m (ai R pl))=true:=by
 refine iI.mpr ⟨by rw[fu,fu],λk hk=>?_⟩
 rw[fu] at hk
 exact A.get F (bt hk)
theorem bY.put(F:cP m w R)(A:bY s m w)(pl:Nat)(hx:jR (ax s (ai R pl))):bY s (putL m (ai R pl) (ax s (ai R pl)).cps.toList) w:=by
 have hlen:=nM m (ai R pl) (ax s (ai R pl)).cps.toList
 refine⟨A.sh,by rw[A.ln,hlen],λc h1 h2=>?_⟩
 rw[hlen] at h1
 rcases C8 F pl (fu s (ai R pl)) h1 h2 with ⟨k,ch,hk,hch,e⟩ | ⟨_,e⟩
 .have hb:=hx ch (bM hch)
  rw[iV hk] at hch
  rw[e,dh hch]
  exact⟨λ_=>rfl,λh=>by lia⟩
 .rw[e]
  exact A.cl c h1 h2
theorem bY.left(F:cP m w R)(A:bY s m w)(hw:∀x∈ks,eP x=true)(hf:dF ks s w=true)(aL:pl<R.length):ax s (ai R pl)∈pG m R pl ks:=by
 obtain⟨_,nd,h3⟩:=zL hf
 have et:d0 s w=R.map (ax s):=by unfold d0;rw[A.rows,F.eq]
 rw[et] at nd h3
 have hk:∀i,i<R.length->ax s (ai R i)∈ks:=λi hi=>h3 _ (r8 (pH hi))
 unfold pG
 refine da.mpr ⟨(km _).mem_iff.mpr (da.mpr ⟨hk pl aL,A.fit F pl⟩),?_⟩
 rw[bf]
 .rfl
 intro h
 obtain⟨i,hi,aT,e⟩:=Qp.mp h
 have dw:=(ab1 (hw _ (hk pl aL))).ab2
 have e2:ax s (ai R i)=ax m (ai R i):=by
  apply ph
  apply i6
  intro k
  by_cases lV:k<(ai R i).length
  .have hc:(ai R i)[k]? = some (ai R i)[k]:=bt lV
   have hb:=F.uh hc
   rw[iV hc,iV hc,(A.cl _ hb.1 hb.2.1).1 λz=>dw ?_]
   rw[<-e,iH,<-z]
   exact r8 (bM hc)
  .rw[di (by rw[iH,av];lia),di (by rw[iH,av];lia)]
 have e3:(R.map (ax s))[i]? = (R.map (ax s))[pl]? :=by
  rw[jq R _ hi,jq R _ aL,e2,e]
 exact aT ((List.getElem?_inj (by rw[av];exact hi) nd).mp e3)
theorem bY.same(S:bH m w)(A:bY s m w)(h:eW m=false):s=m:=by
 refine Qi A.sh.kO S.kO A.ln λc h1 h2=>?_
 rw[A.ln] at h1
 refine(A.cl c h1 h2).1 λz=>?_
 obtain⟨x,hx,mx,_,hl,hj⟩:=S.row h1
 have:eW m=true:=by
  unfold eW
  refine vf.mpr ⟨x,mx,aU ?_⟩
  rw[<-z]
  exact bM (hj _ h2)
 rw[h] at this
 cases this
noncomputable def Jt(pl q:V):List (Str×V):=aR "parts" q (aR "place" pl [])
def rn(H:Hp)(ts:List Addr)(aW:List (List Str)):Prop:=Paired (λt s=>H t=some (.tup (s.map V.str))) ts aW
theorem rn.keep{aW:List (List Str)}(k:∀b o,(∀l,o ≠ .lst l)->(∀l,o ≠ .dK l)->H b=some o->H' b=some o)(h:rn H ts aW):rn H' ts aW:=Paired.bE h λ_ _ e=>k _ _ (by intro _ z;cases z) (by intro _ z;cases z) e
def KX(kn fo:Addr)(H H':Hp):Prop := ∀b o,b≠kn->b≠fo->H b=some o->H' b=some o
theorem KX.trans{H2:Hp}(a:KX kn fo H H1)(b:KX kn fo H1 H2):KX kn fo H H2:=λc o n1 n2 e=>b c o n1 n2 (a c o n1 n2 e)
theorem KX.of(a:ag H H1):KX kn fo H H1:=λc o _ _ e=>a c o e
theorem KX.kp{kvs:List (Key×V)}(k:KX kn fo H H')(hk:H kn=some (.dK kvs))(hf:H fo=some (.lst ys))(hz:¬Z fo):Kp Z H H':=
 ⟨λb o n1 n2 e=>k b o (λz=>by rw[z,hk] at e;exact n2 _ (dh e).symm) (λz=>by rw[z,hf] at e;exact n1 _ (dh e).symm) e,λb l z e=>k b _ (λy=>by rw[y,hk] at e;cases e) (λy=>hz (y ▸ z)) e⟩
theorem KX.none{kn fo:Addr}{H H':Hp}(k:KX kn fo H H')(hk:∃o,H' kn=some o)(hf:∃o,H' fo=some o){b:Addr}(e:H' b=none):H b=none:=by
 obtain⟨ok,hk⟩:=hk
 obtain⟨of,hf⟩:=hf
 cases eb:H b with
 |none=>rfl
 |some o=>rw[k b o (λz=>by rw[z,hk] at e;cases e) (λz=>by rw[z,hf] at e;cases e) eb] at e;cases e
theorem DA(aL:pl<R.length):x∈dY (R.map (ax m)) pl↔x∈zI m R pl:=by
 rw[Qp]
 unfold dY
 rw[dR]
 constructor
 .rintro(h | h)
  .obtain⟨i,hi⟩:=eS h
   have aY:i<pl:=by
    have:=(bR.mp hi).1
    rw[ij] at this
    lia
   rw[u6 aY,jq R _ (by lia)] at hi
   exact⟨i,by lia,by lia,dh hi⟩
  .obtain⟨i,hi⟩:=eS h
   have aY:=(bR.mp hi).1
   rw[rS,av] at aY
   rw[LI,jq R _ (by lia)] at hi
   exact⟨_,by lia,by lia,dh hi⟩
 .rintro⟨i,h1,h2,e⟩
  have hg:=jq R (ax m) h1
  rcases Nat.lt_or_gt_of_ne h2 with z | z
  .refine Or.inl ?_
   exact bM (i:=i) (by rw[u6 z,hg,e])
  .refine Or.inr ?_
   exact bM (i:=i - (pl+1)) (by rw[LI,show pl+1+(i - (pl+1))=i from by lia,hg,e])
theorem Ju(F:cP m w R)(h:∀r∈R,46∉(ax m r).cps.toList):eW m=false:=by
 refine il.mpr λz=>?_
 unfold eW at z
 obtain⟨x,mx,hx⟩:=vf.mp z
 have hx:46∈x.cps.toList:=gr hx
 obtain⟨i,hi⟩:=eS mx
 obtain⟨j,hj⟩:=eS hx
 have ue:=(bR.mp hi).1
 obtain⟨y,hy,_,_,ly,ud⟩:=F.sh.kO.row ue
 rw[hi] at hy
 cases hy
 have uf:j<w:=by
  have:=(bR.mp hj).1
  lia
 have e:=ud j uf
 rw[hj] at e
 have Rp:sg m (i,j)=46:=(dh e).symm
 have ho:cN m (i,j)=true:=by
  unfold cN
  rw[Rp]
  rfl
 obtain⟨a,b,hab⟩:=F.all (i,j) ue uf ho
 refine h _ (pH (nL hab).1) ?_
 rw[iH,<-Rp]
 exact r8 (bM hab)
theorem DB(h:eP x=true):jR x:=by
 unfold eP at h
 rw[d7,d7] at h
 intro ch m
 have hl:=gr (EK.mp h.2.2 ch m)
 have:∀c∈pq.cps.toList,97<=c/\c<=122:=by decide +kernel
 exact this ch hl
theorem pQ(g p f:V){m:Str}(h1:¬m="fits")(h2:¬m="patterns")(h3:¬m="ground"):(iJ g p f).lookup m=none:=by
 unfold iJ
 rw[de,au h1,de,au h2,de,au h3]
 rfl
theorem Jv{Z:Addr->Prop}{H:Hp}{ks:List Str}{wf:Str->Int}:∀{pats:List Str}{fs:List V},Paired (gN Z H ks wf) pats fs->∃aH,zR H aH fs/\Paired (λt ws=>jo ks wf t ws) pats aH
 |_,_,.nil=>⟨[],.nil,.nil⟩
 |_,_,.cons ⟨q,ws,e,_,h1,h2,h3⟩ r=>by
  obtain⟨aH,a,b⟩:=Jv r
  exact⟨ws::aH,.cons ⟨q,e,h1,h3⟩ a,.cons h2 b⟩
section
variable{w:World}
def Ah(C:Addr):Sp:=λvs H Q _=>∃(s dx q:Addr) (p:V) (us:List V),vs=[.ref s,p,.ref q]/\H s=some (.ins C dx [])/\H q=some (.lst us)/\∀(r:Addr) (H':Hp),H r=none->H' s=some (.ins C dx (Jt p (.ref r)))->H' r=some (.lst us)->(∀b o,b≠s->H b=some o->H' b=some o)->Q .aw H'
theorem adl:bu ["self","place","parts"] ["self","place","parts"] (aN (inClass (top 41) 0)):={}
theorem adm(B:Bl mg)(F:aZ K "__init__" "Cases.__init__" (inClass (top 41) 0) f fd)(T:cS K C)(np:bQ K C "place")(nq:bQ K C "parts"):aK P w K mg base aS 1 f fd ["self","place","parts"] (Ah C):=by
 refine F.bU adl λaF A outer s H vs Q E hr h=>?_
 refine hide λG_ aG=>?_
 obtain⟨s,dx,q,p,us,rfl,hs,hq,k⟩:=h
 refine aG.k ?_
 refine⟨_,(az (lJ (pv 0) (pv 1) rfl)
  (aB (lJ (pv 0) (m5 yb (by rfl) B.zd yq (af (pv 2) aj)) rfl))),?_⟩
 try dsimp only[bJ]
 refine⟨_,rfl,_,rfl,s,C,dx,[],rfl,hs,T,np,(by show 0<1000;decide),?_⟩
 have nqs:q≠s:=bS hq hs (by intro z;cases z)
 refine⟨_,rfl,q,us,rfl,.inl (aq.of (by rw[ak nqs];exact hq)),λr kQ=>?_⟩
 have DC:r≠s:=λz=>by rw[z,ao] at kQ;cases kQ
 refine⟨_,rfl,s,C,dx,_,rfl,by rw[ak (aP DC)];exact ao,T,nq,(by show 1<1000;decide),?_⟩
 refine k r _ (by rw[ak DC] at kQ;exact kQ) ao (by rw[ak DC];exact ao) λb o hb e=>?_
 rw[ak DC] at kQ
 rw[ak hb,ak (λz=>by rw[z,kQ] at e;cases e),ak hb]
 exact e
end
noncomputable def uv(wf:Str->Int)(R:List (List C2))(s:List Str):Int:=(R.map λr=>wf (ax s r)).sum
noncomputable def jT(aW:List (List Str×Int)):Option Int:=aW.getLast?.map (·.2)
theorem xj(aW:List (List Str×Int))(p:List Str×Int):jT (aW++[p])=some p.2:=by
 unfold jT
 rw[List.getLast?_append]
 rfl
def ib(a b:Option Int):Prop := ∀x,a=some x->∃y,b=some y/\x<=y
theorem ib.refl(a:Option Int):ib a a:=λx e=>⟨x,e,xH _⟩
theorem ib.trans{a b c:Option Int}(h:ib a b)(k:ib b c):ib a c:=λx e=>by
 obtain⟨y,e1,h1⟩:=h x e
 obtain⟨z,e2,h2⟩:=k y e1
 exact⟨z,e2,Int.le_trans h1 h2⟩
def rp(H:Hp)(ts:List Addr)(aW:List (List Str×Int)):Prop:=Paired (λt p=>∃a,H t=some (.tup [.ref a,.int p.2])/\H a=some (.tup (p.1.map V.str))) ts aW
theorem rp.keep(k:∀b o,(∀l,o ≠ .lst l)->(∀l,o ≠ .dK l)->H b=some o->H' b=some o)(h:rp H ts aW):rp H' ts aW:=
 Paired.bE h λ_ _ e=>let ⟨a,e1,e2⟩:=e;⟨a,k _ _ (by intro _ z;cases z) (by intro _ z;cases z) e1,k _ _ (by intro _ z;cases z) (by intro _ z;cases z) e2⟩
structure DD(l:List Str)(w:Nat)(ks:List Str)(wf:Str->Int)(R:List (List C2))(aW:List (List Str×Int)):Prop where
 nd:(aW.map (·.1)).Nodup
 ok:∀p∈aW,bY p.1 l w/\dF ks p.1 w=true/\p.2=uv wf R p.1
 up:∀p∈aW,ib (some p.2) (jT aW)
def adn(ks:List Str)(wf:Str->Int)(m:List Str)(R:List (List C2))(c:Int):Prop := ∃aH,Paired (λt ws=>jo ks wf t ws) (R.map (ax m)) aH/\[]∉aH/\gm wf aH<=c
def uw(Z:Addr->Prop)(H:Hp)(CH CC:Addr)(R:List (List C2))(ks:List Str)(wf:Str->Int)(o:Option Int):Nat->V->List Str->Prop
 |0,_,_=>False
 |n+1,v,m=>(∃p dx c,v = .ref p/\H p=some (.ins CH dx [])/\o=some c/\adn ks wf m R c)\/
   ∃(p dx q:Addr) (pl:Nat) (xs:List Str) (vs:List V),v = .ref p/\H p=some (.ins CC dx (Jt (.int (pl:Int)) (.ref q)))/\Z q/\H q=some (.lst vs)/\pl<R.length/\dg xs=pG m R pl ks/\xs.length<64/\
    Paired (λx v=>∃t u,v=V.ref t/\H t=some (.tup [.str x,u])/\cO x (ax m (ai R pl))=true/\uw Z H CH CC R ks wf o n u (putL m (ai R pl) x.cps.toList)) xs vs
theorem uw.mono{Z Z':Addr->Prop}{H H':Hp}{CH CC:Addr}{R:List (List C2)}{ks:List Str}{wf:Str->Int}{o o':Option Int}(k:Kp Z H H')(hz:∀b u,Z b->H b=some u->Z' b)(ho:ib o o'):∀{n:Nat}{v:V}{m:List Str},uw Z H CH CC R ks wf o n v m->uw Z' H' CH CC R ks wf o' n v m
 |0,_,_,h=>h
 |n+1,v,m,h=>by
  rcases h with ⟨p,dx,c,e,h1,h2,aH,h3,h4,h5⟩ | ⟨p,dx,q,pl,xs,vs,e,h1,hq,h2,h3,h4,h5,h6⟩
  .obtain⟨c',e',l⟩:=ho c h2
   exact .inl ⟨p,dx,c',e,k.ins h1,e',aH,h3,h4,Int.le_trans h5 l⟩
  .exact .inr ⟨p,dx,q,pl,xs,vs,e,k.ins h1,hz _ _ hq h2,k.lst _ _ hq h2,h3,h4,h5,Paired.bE h6 λx v g=>let ⟨t,u,e1,e2,e3,e4⟩:=g;⟨t,u,e1,k.tup e2,e3,uw.mono k hz ho e4⟩⟩
theorem Rq{wf:Str->Int}{ks:List Str}{g h:List C2->Str}:∀{R:List (List C2)}{aH:List (List Str)},Paired (λt ws=>jo ks wf t ws) (R.map g) aH->(∀r∈R,h r∈ks/\cO (h r) (g r)=true)->(R.map λr=>wf (h r)).sum<=gm wf aH
 |[],_,.nil,_=>xH _
 |r::R,_,.cons (b:=ws) a t,k=>by
  have ih:=Rq t λx m=>k x (cW _ m)
  have hk:=k r bK
  have hm:=(a.mem (h r)).mpr hk
  unfold gm at ih ⊢
  rw[cF,n8,cF,n8]
  refine Int.add_le_add ?_ ih
  cases ws with
  |nil=>cases hm
  |cons y q=>
   rcases cx.mp hm with z | z
   .rw[z];exact xH _
   .exact(List.pairwise_cons.mp a.up).1 _ z
theorem Rr{wf:Str->Int}{ks:List Str}{g:List C2->Str}:∀{R:List (List C2)}{aH:List (List Str)},Paired (λt ws=>jo ks wf t ws) (R.map g) aH->[]∉aH->(∀r∈R,46∉(g r).cps.toList)->gm wf aH=(R.map λr=>wf (g r)).sum
 |[],_,.nil,_,_=>rfl
 |r::R,_,.cons (b:=ws) a t,hn,k=>by
  have ih:=Rr t (λz=>hn (cW _ z)) λx m=>k x (cW _ m)
  unfold gm at ih ⊢
  rw[cF,n8,cF,n8,ih]
  congr 1
  cases ws with
  |nil=>exact absurd bK hn
  |cons y q=>
   have:=(a.mem y).mp bK
   rw[<-wM this.2 (k r bK)]
   rfl
theorem ado(F:cP m w R)(A:bY s m w)(hw:∀x∈ks,eP x=true)(hf:dF ks s w=true):∀r∈R,ax s r∈ks/\cO (ax s r) (ax m r)=true:=λr mr=>by
 obtain⟨i,hi⟩:=eS mr
 have hil:=(bR.mp hi).1
 have e:ai R i=r:=cE hi
 have h:=A.left F hw hf hil
 rw[e] at h
 unfold pG at h
 have h1:=(da.mp h).1
 rw[(km _).mem_iff,da,e] at h1
 exact h1
theorem adp{O:St}{H0:Hp}{cv:V}(h1:O[1]? = some (some (.ref fo)))(h2:O[2]? = some (some cv))(cA:H0 fo=some (.lst (ts.map V.ref)))(hF:rp H0 ts aW)(hc:Rk wf aH cv)
  (k1:∀c,jT aW=some c->[]∉aH->gm wf aH<=c->Kt true H0) (k0:(∀c,jT aW=some c->[]∉aH->c<gm wf aH)->Kt false H0) :
  Fh (λO H Q=>vt 1 O H λx H' =>∃k,xW K x H' k/\Q k H') (Fh (xV (mY (λx y H Q=>y=V.aw/\Q (V.bl !decide (x=V.aw)) H) (vt 2) (tC V.aw))) (xV (mY (oo λi j=>.bl (decide (i<=j))) (vt 2) (mY (ya K) (mY (BD K) (vt 1) (L7 (rU λi=>V.int (-i)) (tC (V.int 1)))) (tC (V.int 1)))))) O H0 Kt:=by
 refine⟨_,h1,_,.inl ⟨_,aq.of cA,rfl⟩,?_⟩
 rcases List.eq_nil_or_concat aW with rfl | ⟨fr,pr,rfl⟩
 .cases hF
  exact bj (k0 λc e=>nomatch e)
 .rw[List.concat_eq_append] at hF k1 k0
  obtain⟨t,bX,rfl,Ro,a,ht,_⟩:∃t bX,ts=bX++[t]/\True/\∃a,H0 t=some (.tup [.ref a,.int pr.2])/\True:=by
   have hl:=gR hF
   have aT:ts≠[]:=λz=>by rw[z] at hl;simp at hl
   have hg:(fr++[pr])[fr.length]? = some pr:=by simp
   obtain⟨t,ht,a,h3,_⟩:=Paired.get hF hg
   refine⟨t,ts.dropLast,?_,trivial,a,h3,trivial⟩
   have e:=TX aT
   have:ts.getLast aT=t:=by
    have jU:=List.getLast?_eq_getElem? (l:=ts)
    rw[List.getLast?_eq_some_getLast aT] at jU
    have hlen:ts.length - 1=fr.length:=by rw[hl];simp
    rw[hlen,ht] at jU
    exact dh jU
   rw[<-this]
   exact e.symm
  have aT:(!((bX++[t]).map V.ref).isEmpty)=true:=by simp
  rw[aT]
  refine bA ?_
  rw[xj] at k1 k0
  rcases hc with ⟨hn,rfl⟩ | ⟨hn,rfl⟩
  .refine⟨_,h2,rfl,_,rfl,?_⟩
   exact bj (k0 λc _ z=>absurd hn z)
  .refine⟨_,h2,rfl,_,rfl,?_⟩
   refine bA ⟨_,h2,_,h1,_,rfl,fo,_,-1,.ref t,rfl,rfl,aq.of cA,by rw[fG];exact MG _ _,t,_,1,.int pr.2,rfl,rfl,aA.of ht,rfl,_,_,rfl,rfl,_,rfl,?_⟩
   by_cases hle:gm wf aH<=pr.2
   .rw[aU hle]
    exact k1 _ rfl hn hle
   .rw[bf hle]
    exact k0 λc e _=>by cases e;lia
section
variable{w:World}
structure adq(K:Frag)(CG CS:Addr)(Z:Addr->Prop)(M:Str->Prop)(H:Hp)(s g kn fo:Addr)(w n:Nat)(l m ks:List Str)(wf:Str->Int)(R:List (List C2))(kvs:List (Key×V))(ts:List Addr)(aW:List (List Str×Int)):Prop where
 e1:pN K CG Z H g kn l R
 e2:Std CS Z H s g m R ks wf
 ew:pO CG H g kn ks wf
 e3:H kn=some (.dK kvs)
 e4:gh Z M H ks wf kvs
 e5:zO M
 e6:∀m' pl x k i,cP m' w R->m'.length=l.length->pl<R.length->x∈ks->cO x (ax m' (ai R pl))=true->(∀j,j<R.length->46∈(ax m' (ai R j)).cps.toList->∃y∈ks,cO y (ax m' (ai R j))=true)->i<R.length->46∈(ax m' (ai R i)).cps.toList->M (ax (putL m' ((ai R pl).take k) (x.cps.toList.take k)) (ai R i))
 e7:cP l w R
 e8:cP m w R
 e9:m.length=l.length
 ea:R.length<=200
 eb:∀x∈ks,eP x=true
 ec:ks.Nodup
 ed:ks.length<64
 ee:∀q,H q=none->Z q
 ef:¬Z fo
 eg:H fo=some (.lst (ts.map V.ref))
 eh:rp H ts aW
 ei:DD l w ks wf R aW
 ej:∀F:List (List Str),F.Nodup->(∀s∈F,bY s l w/\dF ks s w=true)->F.length<=15752961
 el:∀s,bY s m w->bY s l w
 ek:(dm m w).length<n
structure ads(Z:Addr->Prop)(M:Str->Prop)(H H':Hp)(CH CC kn fo:Addr)(w n:Nat)(l m ks:List Str)(wf:Str->Int)(R:List (List C2))(kvs:List (Key×V))(ts bX:List Addr)(aW new:List (List Str×Int))(v:V):Prop where
 e1:KX kn fo H H'
 e2:H' kn=some (.dK kvs)
 e3:gh Z M H' ks wf kvs
 e4:H' fo=some (.lst ((ts++bX).map V.ref))
 e5:rp H' (ts++bX) (aW++new)
 e6:DD l w ks wf R (aW++new)
 e7:ib (jT aW) (jT (aW++new))
 e8:∀s,bY s m w->dF ks s w=true->ib (some (uv wf R s)) (jT (aW++new))
 e9:uw Z H' CH CC R ks wf (jT (aW++new)) n v m
def DE(K:Frag)(CG CS CH CC:Addr)(n:Nat):Sp:=λvs H Q _=>∃(s g kn fo:Addr) (w:Nat) (l m ks:List Str) (wf:Str->Int) (R:List (List C2)) (kvs:List (Key×V)) (Z:Addr->Prop) (M:Str->Prop) (ts:List Addr) (aW:List (List Str×Int)),vs=[.ref s,.ref fo]/\adq K CG CS Z M H s g kn fo w n l m ks wf R kvs ts aW/\∀v new bX rb H',ads Z M H H' CH CC kn fo w n l m ks wf R rb ts bX aW new v->Q v H'
structure adt(Z:Addr->Prop)(M:Str->Prop)(H3 Hi:Hp)(CH CC kn fo pa:Addr)(w n pl i:Nat)(l m ks:List Str)(wf:Str->Int)(R:List (List C2))(Xs:List Str)(ts bX:List Addr)(aW new:List (List Str×Int))(kv:List (Key×V))(us:List V):Prop where
 e1:∀b o,b≠kn->b≠fo->b≠pa->H3 b=some o->Hi b=some o
 e2:Hi kn=some (.dK kv)
 e3:gh (λb=>Z b/\b≠pa) M Hi ks wf kv
 e4:Hi fo=some (.lst ((ts++bX).map V.ref))
 e5:rp Hi (ts++bX) (aW++new)
 e6:DD l w ks wf R (aW++new)
 e7:ib (jT aW) (jT (aW++new))
 e8:∀s,bY s m w->dF ks s w=true->ax s (ai R pl)∈Xs.take i->ib (some (uv wf R s)) (jT (aW++new))
 e9:Hi pa=some (.lst us)
 ea:Paired (λx v=>∃t u,v=V.ref t/\Hi t=some (.tup [.str x,u])/\cO x (ax m (ai R pl))=true/\uw (λb=>Z b/\b≠pa) Hi CH CC R ks wf (jT (aW++new)) n u (putL m (ai R pl) x.cps.toList)) (Xs.take i) us
theorem DF:bu ["standing","found","ceiling","place"] ["standing","found"] (aN (top 55)):={}
theorem adu(n:Nat)(B:Bl mg)(F:aZ K "bounding_paper" "bounding_paper" (top 55) f fd)(Jw:Fn P w K mg base "bounding_paper" (n+4) (DE K CG CS CH CC n))(xk:Mt P w K mg base CS "ceiling" 1 (Js K CS CG) [])(kW:Mt P w K mg base CS "narrowest" 1 (zS CS) [])(kX:Mt P w K mg base CS "filled" 3 (z6 K CS CG) [])(kY:Mt P w K mg base CS "left" 1 (zQ K CS) [])(kZ:Mt P w K mg base CS "after" 3 (z9 K CS CG) [])(ux:tL K mg "Short" CH)(lb:Nw P w K mg base "Cases" CC 1 (Ah CC)) :
  aK P w K mg base aS (n+5) f fd ["standing","found"] (DE K CG CS CH CC (n+1)):=by
 refine F.bU DF λaF A outer s H vs Q E hr h=>?_
 refine hide λG_ aG=>?_
 obtain⟨s0,g,kn,fo,wd,l,m,ks,wf,R,kvs,Z,M,ts,aW,rfl,⟨hG,hS,rm,cu,hK,hM,Ai,FL,FM,mE,jS,eI,dw,dW,hZ,pR,cA,hF,pS,vI,Rt,hn⟩,q⟩:=h
 refine aG.k ?_
 have hu:=hr.units
 have cX:=iy hr
 refine⟨_,(az (aX 2 DF.nd (vQ xk hr (pv 0)))
  (az (cn (PW.pt (xS (ot (pv 1) (by intro _;rfl)) (xS (cK Fz (pv 2) gv) (Fi (cK sJ (pv 2) (bG cY (bG iu (pv 1) (Bq Bs aI)) aI))))))
  (aB (bg (G2 ux (by rfl))))
  cH)
  (az (aX 3 DF.nd (vQ kW hr (pv 0)))
  (az (cn (cK vD (pv 3) gv)
  (az (dZ (gE j6 lA lB jf (pv 1) (af (eZ (af (vQ kX hr (pv 0)) (af (pv 2) aj))) aj)))
   (aB (bg (G2 ux (by rfl)))))
  cH)
  (aB (bg (yJ lb hr (af (pv 3) (af (jg (js:=[1,3,0]) (ns:=["found","place","standing"]) (eD (kj kY hr (pv 0) (af (pv 3) aj))) rfl rfl rfl rfl (λ_ _ _ _=>lU) (λ_ _ _ _=>(eZ (af (pv 0) (af (bD Jw hr (af (kj kZ hr (pv 3) (af (pv 2) (af (pv 0) aj))) (af (pv 1) aj))) aj))))) aj))))))))),?_⟩
 try dsimp only[bJ]
 refine hide λG_ bw=>?_
 obtain⟨dx,p,fl,fs,hs,hp,zp,dN,Jx,nP⟩:=hS.ex
 obtain⟨cR,a,ce,cf,wo,xs,cs,hg,hT,kU,zce,pL,pM,Jy,Ae⟩:=hG.ex
 obtain⟨aH,rq,ju⟩:=Jv nP
 refine bw.k ?_
 have Di:=rq.length
 have Aj:=ju.length
 rw[av] at Aj
 have hFl:=gR hF
 have Ak:∀{i:Nat},i<R.length->(R.map (ax m)).getD i ⟨#[]⟩=ax m (ai R i):=λhi=>cE (jq R _ hi)
 have yl:aW.length<=15752961:=by
  have:=vI (aW.map (·.1)) pS.nd λs ms=>by
   obtain⟨p,mp,rfl⟩:=cC.mp ms
   exact⟨(pS.ok p mp).1,(pS.ok p mp).2.1⟩
  rwa [av] at this
 refine⟨_,rfl,s0,dx,_,rfl,hs,pQ _ _ _ (by decide +kernel) (by decide +kernel) (by decide +kernel),s0,dx,g,kn,p,fl,aH,fs,ks,wf,rfl,hs,rm,dN,rq,by lia,λws mws x mx=>?_,λcv H0 mw nQ=>?_⟩
 .obtain⟨i,hi⟩:=eS mws
  obtain⟨t,_,mG⟩:=Paired.get ju hi
  exact((mG.mem x).mp mx).1
 refine adp rfl rfl (nQ _ _ cA) (hF.keep λb o _ _ e=>nQ _ _ e) mw (λc Ru aT hle=>?_) (λRv=>?_)
 .refine bA λx dr hx mJ Ri=>?_
  have s4:ag H0 (upd (upd H0 dr (.own x)) x (.ins CH dr [])):=λb o e=>by rw[ak (bh e hx),ak (bh e mJ)];exact e
  have mM:upd (upd H0 dr (.own x)) x (.ins CH dr []) x=some (.ins CH dr []):=ao
  generalize upd (upd H0 dr (.own x)) x (.ins CH dr [])=H4 at s4 mM
  have lg:=nQ.trans s4
  refine q (.ref x) [] [] kvs H4 ⟨KX.of lg,lg _ _ cu,hK.keep λb o e _=>lg _ _ e,by rw[dS];exact lg _ _ cA,by rw[dS,dS];exact hF.keep λb o _ _ e=>lg _ _ e,by rw[dS];exact pS,by rw[dS];exact ib.refl _,λs A hf=>?_,?_⟩
  .rw[dS,Ru]
   refine λy e=>⟨c,rfl,?_⟩
   cases e
   exact Int.le_trans (Rq ju (ado FM A eI hf)) hle
  .rw[dS,Ru]
   exact .inl ⟨x,dr,c,rfl,mM,rfl,aH,ju,aT,hle⟩
 refine bj ?_
 refine⟨_,rfl,s0,dx,_,rfl,nQ _ _ hs,pQ _ _ _ (by decide +kernel) (by decide +kernel) (by decide +kernel),s0,dx,p,fl,.ref g,R.map (ax m),aH,fs,rfl,nQ _ _ hs,nQ _ _ hp,nQ _ _ dN,?_,by rw[av];exact Aj.symm,by rw[av];exact jS,λt mt=>?_,λJz H1 s1=>?_,λpl H1 aL uy s1=>?_⟩
 .exact Paired.bE rq λws v e=>let ⟨q,e1,e2,e3⟩:=e;⟨q,e1,nQ _ _ e2,e3⟩
 .obtain⟨r,mr,rfl⟩:=cC.mp mt
  rw[fu]
  obtain⟨i,hi⟩:=eS mr
  have:=(FM.len (bR.mp hi).1).2
  have e:ai R i=r:=cE hi
  rw[e] at this
  lia
 .
  obtain⟨jV,hd2,gb⟩:=Jz
  have fS:eW m=false:=Ju FM λr mr=>jV _ (r8 mr)
  have uz:d0 m wd=R.map (ax m):=by
   unfold d0
   rw[FM.eq]
  have wR:dF ks m wd=true:=by
   refine C5 fS (by rw[uz];exact hd2) (λx mx=>?_)
   rw[uz] at mx
   obtain⟨i,hi⟩:=eS mx
   obtain⟨ws,hws,JA⟩:=Paired.getL ju hi
   have aT:=gb ws (bM hws)
   obtain⟨y,my⟩:∃y,y∈ws:=by
    cases ws with
    |nil=>exact absurd rfl aT
    |cons y r=>exact⟨y,bK⟩
   obtain⟨y1,y2⟩:=(JA.mem y).mp my
   rw[<-wM y2 (jV x mx)]
   exact y1
  have aT:[]∉aH:=λz=>gb _ z rfl
  have adv:cv = .int (gm wf aH):=by
   rcases mw with ⟨z,_⟩ | ⟨_,z⟩
   .exact absurd z aT
   .exact z
  subst adv
  have JB:gm wf aH=uv wf R m:=Rr ju aT λr mr=>jV _ (r8 mr)
  have pT:=nQ.trans s1
  refine⟨_,rfl,rfl,_,rfl,?_⟩
  rw[aU rfl]
  refine bA ⟨_,rfl,.inl ⟨rfl,_,aq.of (pT _ _ cA)⟩,?_⟩
  refine⟨_,rfl,s0,dx,_,rfl,pT _ _ hs,pQ _ _ _ (by decide +kernel) (by decide +kernel) (by decide +kernel),s0,dx,g,cR,p,ce,a,.ref fl,.ref cf,wo,.ref kn,l,m,wd,R,xs,rfl,pT _ _ hs,pT _ _ hg,pT _ _ hT,pT _ _ kU,Paired.bE pL λr x e=>e.fJ λb o e=>pT _ _ e,pT _ _ hp,FL,FM,mE,λt H2 s2 ht=>?_⟩
  refine⟨_,rfl,(by show 2<=sizeLine;decide),λtt IU=>?_⟩
  have s3:ag H2 (upd H2 tt (.tup [.ref t,.int (gm wf aH)])):=ag.upd IU
  have Al:upd H2 tt (.tup [.ref t,.int (gm wf aH)]) tt=some (.tup [.ref t,.int (gm wf aH)]):=ao
  generalize upd H2 tt (.tup [.ref t,.int (gm wf aH)])=H3 at s3 Al
  have iK:=(pT.trans s2).trans s3
  have uA:=iK _ _ cA
  refine⟨fo,_,.ref tt,rfl,rfl,uA,lr (m:=15752961) (by rw[av];lia) (by decide),?_⟩
  have o4:∀b o,b≠fo->H3 b=some o->upd H3 fo (.lst (ts.map V.ref++[.ref tt])) b=some o:=λb o n e=>by rw[ak n];exact e
  have f4:upd H3 fo (.lst (ts.map V.ref++[.ref tt])) fo=some (.lst ((ts++[tt]).map V.ref)):=by rw[ao,fG];rfl
  generalize upd H3 fo (.lst (ts.map V.ref++[.ref tt]))=H4 at o4 f4
  have JC:KX kn fo H H4:=λb o _ n e=>o4 b o n (iK _ _ e)
  have uB:kn≠fo:=bS cu cA (by intro z;cases z)
  have rh:H4 kn=some (.dK kvs):=o4 _ _ uB (iK _ _ cu)
  have adw:=o4 _ _ (bS Al uA (by intro z;cases z)) Al
  have ht4:=o4 _ _ (bS (s3 _ _ ht) uA (by intro z;cases z)) (s3 _ _ ht)
  have h8:rp H4 (ts++[tt]) (aW++[(m,gm wf aH)]):=qX (hF.keep (JC.kp cu cA pR).gM) (.cons ⟨t,adw,ht4⟩ .nil)
  have xf:=hK.keep λb o e z=>(JC.kp cu cA pR).lst _ _ z e
  have Ca:∀p∈aW,p.2<gm wf aH:=λp mp=>by
   obtain⟨y,e,le⟩:=pS.up p mp _ rfl
   have:=Rv y e aT
   lia
  have hOk:DD l wd ks wf R (aW++[(m,gm wf aH)]):=by
   refine⟨?_,λp mp=>?_,λp mp=>?_⟩
   .rw[fG,rZ]
    refine⟨pS.nd,by simp,λx mx y my z=>?_⟩
    obtain⟨p,mp,rfl⟩:=cC.mp mx
    have hy:y=m:=by simpa using my
    have h1:=Ca p mp
    rw[(pS.ok p mp).2.2,z,hy,JB] at h1
    lia
   .rcases dR.mp mp with z | z
    .exact pS.ok p z
    .rw[cJ.mp z]
     exact⟨Rt _ (bY.refl FM.sh),wR,JB⟩
   .rw[xj]
    rcases dR.mp mp with z | z
    .exact λy e=>by cases e;exact⟨_,rfl,Int.le_of_lt (Ca p z)⟩
    .rw[cJ.mp z]
     exact ib.refl _
  intro x dr hx mJ Ri
  have s5:ag H4 (upd (upd H4 dr (.own x)) x (.ins CH dr [])):=λb o e=>by rw[ak (bh e hx),ak (bh e mJ)];exact e
  have Rw:upd (upd H4 dr (.own x)) x (.ins CH dr []) x=some (.ins CH dr []):=ao
  generalize upd (upd H4 dr (.own x)) x (.ins CH dr [])=H5 at s5 Rw
  refine q (.ref x) [(m,gm wf aH)] [tt] kvs H5 ⟨JC.trans (KX.of s5),s5 _ _ rh,xf.keep λb o e _=>s5 _ _ e,s5 _ _ f4,h8.keep λb o _ _ e=>s5 _ _ e,hOk,?_,λs A hf=>?_,?_⟩
  .rw[xj]
   exact λy e=>⟨_,rfl,Int.le_of_lt (Rv y e aT)⟩
  .rw[xj,A.same FM.sh fS]
   exact λy e=>by cases e;exact⟨_,rfl,by rw[JB];exact xH _⟩
  .rw[xj]
   exact .inl ⟨x,dr,_,rfl,Rw,rfl,aH,ju,aT,xH _⟩
 .
  rw[av] at aL
  rw[Ak aL] at uy
  have s2:=nQ.trans s1
  refine⟨_,rfl,rfl,_,rfl,?_⟩
  rw[bf (by intro z;cases z)]
  refine bj ?_
  refine hide λG_ cq=>?_
  obtain⟨ws,hws⟩:∃ws,aH[pl]? = some ws:=⟨_,bt (by lia)⟩
  obtain⟨fv,uo,lf,rfl,xi,wZ⟩:=Paired.getL rq hws
  obtain⟨pt,hpt,mG⟩:=Paired.get ju hws
  refine cq.k ?_
  rw[jq R _ aL] at hpt
  cases hpt
  have um:aH.getD pl []=ws:=cE hws
  rw[um] at uy
  refine⟨_,rfl,_,rfl,s0,dx,_,rfl,s2 _ _ hs,pQ _ _ _ (by decide +kernel) (by decide +kernel) (by decide +kernel),_,rfl,s0,dx,p,fl,lf,.ref g,R.map (ax m),ws,fs,pl,rfl,s2 _ _ hs,s2 _ _ hp,s2 _ _ dN,uo,s2 _ _ xi,by rw[av];exact aL,by rw[av];exact jS,wZ,λlq H3 jW s3 rC=>⟨lq,rfl,⟨_,aq.of rC⟩,?_⟩⟩
  have uC:∀x,x∈(ws.filter λx=>!decide (x∈dY (R.map (ax m)) pl))->x∈ks/\cO x (ax m (ai R pl))=true/\x∈ws/\x∉dY (R.map (ax m)) pl:=λx mx=>by
   obtain⟨m1,m2⟩:=da.mp mx
   have:=(mG.mem x).mp m1
   exact⟨this.1,this.2,m1,by simpa using m2⟩
  have uD:(ws.filter λx=>!decide (x∈dY (R.map (ax m)) pl)).Nodup:=mG.nd.filter _
  have Am:(ws.filter λx=>!decide (x∈dY (R.map (ax m)) pl)).length<64:=lr (oU uD λx mx=>(uC x mx).1) dW
  have xl:dg (ws.filter λx=>!decide (x∈dY (R.map (ax m)) pl))=pG m R pl ks:=by
   rw[<-Qo dw mG]
   congr 1
   refine List.filter_congr λx _=>?_
   by_cases z:x∈dY (R.map (ax m)) pl
   .rw[aU z,aU ((DA aL).mp z)]
   .rw[bf z,bf λy=>z ((DA aL).mpr y)]
  generalize hXs:(ws.filter λx=>!decide (x∈dY (R.map (ax m)) pl))=Xs at rC uC uD Am xl
  have gk:=s2.trans s3
  have uB:kn≠fo:=bS cu cA (by intro z;cases z)
  have JD:lq≠fo:=λz=>by rw[z,s2 _ _ cA] at jW;cases jW
  have JE:lq≠kn:=λz=>by rw[z,s2 _ _ cu] at jW;cases jW
  refine Ze (vs:=Xs.map V.str) kh (by rw[av];lia) (λpa i us Hi=>H3 pa=none/\∃bX new kv,adt Z M H3 Hi CH CC kn fo pa wd n pl i l m ks wf R Xs ts bX aW new kv us) (λpa iD=>?_) (λpa i us Hi h=>?_) ?_ ?_
  .have iE:∀b o,H b=some o->b≠pa:=λb o e=>bh (gk _ _ e) iD
   have su:ag H3 (upd H3 pa (.lst [])):=ag.upd iD
   exact⟨iD,[],[],kvs,⟨λb o _ _ _ e=>su _ _ e,su _ _ (gk _ _ cu),(hK.weak λb o z e=>⟨z,iE b o e⟩).keep λb o e _=>su _ _ (gk _ _ e),by rw[dS];exact su _ _ (gk _ _ cA),by rw[dS,dS];exact hF.keep λb o _ _ e=>su _ _ (gk _ _ e),by rw[dS];exact pS,by rw[dS];exact ib.refl _,(λs _ _ h=>nomatch h),ao,.nil⟩⟩
  .obtain⟨iD,bX,new,kv,BI⟩:=h
   refine⟨aq.of (BI.e1 _ _ JE JD (bh rC iD) rC),?_⟩
   have:=BI.ea.length
   rw[ij] at this
   lia
  .intro pa i y us Hi Z0 Zk iD hy hR k0 k1
   refine hide λG_ dE=>?_
   obtain⟨_,bX,new,kv,⟨off,jX,uE,jY,uF,JF,JG,vO,pU,nR⟩⟩:=hR
   have iE:∀b o,H b=some o->b≠pa:=λb o e=>bh (gk _ _ e) iD
   have gO:kn≠pa:=iE _ _ cu
   have An:fo≠pa:=iE _ _ cA
   have Ao:∀{Hi:Hp},(∀b o,b≠kn->b≠fo->b≠pa->H3 b=some o->Hi b=some o)->KX kn fo H Hi:=λk b o n1 n2 e=>k b o n1 n2 (iE b o e) (gk _ _ e)
   rw[bF] at hy
   obtain⟨x,hx,rfl⟩:=i3.mp hy
   have hi:i<Xs.length:=(bR.mp hx).1
   obtain⟨eQ,dI,uG,Ap⟩:=uC x (bM hx)
   have gW:Xs.take (i+1)=Xs.take i++[x]:=by rw[ik,hx];rfl
   have Rx:x∉Xs.take i:=λz=>by
    have h1:(Xs.take (i+1)).Nodup:=uD.sublist (AS _ _)
    rw[gW,rZ] at h1
    exact h1.2.2 x z x (cJ.mpr rfl) rfl
   obtain⟨fS,kD⟩:46∈(ax m (ai R pl)).cps.toList/\∀j,j<(R.map (ax m)).length->46∈((R.map (ax m)).getD j ⟨#[]⟩).cps.toList->ws.length<=(aH.getD j []).length:=by
    rcases uy with z | ⟨z1,z2⟩
    .exact z
    .exfalso
     rcases z2 with z2 | z2
     .rw[wM dI z1] at Ap
      exact Ap (by unfold dY;exact j0 _ z2)
     .rw[z2] at uG
      cases uG
   refine dE.k ?_
   have fY:∀j,j<R.length->46∈(ax m (ai R j)).cps.toList->∃y∈ks,cO y (ax m (ai R j))=true:=λj hj dz=>by
    have h1:=kD j (by rw[av];exact hj) (by rw[Ak hj];exact dz)
    obtain⟨wj,Aq⟩:∃wj,aH[j]? = some wj:=⟨_,bt (by lia)⟩
    obtain⟨pj,Ar,JH⟩:=Paired.get ju Aq
    rw[jq R _ hj] at Ar
    cases Ar
    rw[cE Aq] at h1
    have h0:=TL uG
    cases wj with
    |nil=>rw[AU] at h1;lia
    |cons y r=>exact⟨y,(JH.mem y).mp bK⟩
   have mO:=DB (eI x eQ)
   have w8:46∉x.cps.toList:=λz=>by have:=mO 46 z;lia
   have DG:x.length=(ai R pl).length:=by rw[(iI.mp dI).1,fu]
   have lh:=Ao off
   have eB:=lh.kp cu cA pR
   have uH:¬(λb=>Z b/\b≠pa) fo:=λz=>pR z.1
   have pV:∀b,Hi b=none->Z b/\b≠pa:=λb e=>⟨hZ b (lh.none ⟨_,jX⟩ ⟨_,jY⟩ e),λz=>by rw[z,pU] at e;cases e⟩
   have As:∀b o,Z b->H b=some o->(Z b/\b≠pa):=λb o z e=>⟨z,iE b o e⟩
   have JI:=Paired.bE Ae λi v (e:∃q us,v=V.ref q/\Z q/\H q=some (.lst us)/\bC H (jn R i) us)=>(show ∃q us,v=V.ref q/\Hi q=some (.lst us)/\bC Hi (jn R i) us from let ⟨q,us,e1,e2,e3,e4⟩:=e;⟨q,us,e1,eB.lst _ _ e2 e3,e4.lists λb o e=>eB.tup e⟩)
   have adx:=Paired.bE nP λt v e=>(e.keep (H':=Hi) λb o e z=>eB.lst _ _ z e)
   have JJ:Paired (gN (λb=>Z b/\b≠pa) Hi ks wf) (R.map (ax m)) fs:=Paired.bE nP λt v e=>(e.weak As).keep λb o e z=>eB.lst _ _ z.1 e
   show if true=true then _ else Z0 Hi
   refine bA ?_
   refine⟨_,rfl,_,rfl,s0,dx,_,rfl,eB.ins hs,pQ _ _ _ (by decide +kernel) (by decide +kernel) (by decide +kernel),_,rfl,_,rfl,?_⟩
   refine⟨s0,dx,g,cR,p,fl,cf,kn,.ref a,.ref ce,wo,m,ks,wf,wd,pl,R,fs,cs,x,kv,(λb=>Z b/\b≠pa),M,rfl,⟨eB.ins hs,eB.ins hg,jX,uE,hM,eB.lst _ _ zp hp,eB.lst _ _ Jx dN,JJ,eB.lst _ _ Jy pM,JI,FM,aL,jS,dI,eQ,w8,pV,λk i hi dz=>Ai m pl x k i FM mE aL eQ dI fY hi dz⟩,λs' mF p' cB se Au H5 SP=>?_⟩
   refine hide λG_ hU=>?_
   obtain⟨qZ,JK,o5,mH,Ac,Ad,pF,JL,JM⟩:=SP
   refine hU.k ?_
   have Av:KX kn fo Hi H5:=λb o n _ e=>o5 b o n e
   have uI:=o5 _ _ (aP uB) jY
   have JN:=o5 _ _ (aP gO) pU
   have uJ:Kp (λb=>Z b/\b≠pa) Hi H5:=Av.kp jX jY uH
   have JO:Kp (λb=>Z b/\b≠pa) H Hi:=⟨eB.gM,λb l z e=>eB.lst b l z.1 e⟩
   have JP:∀b,H5 b=none->Z b/\b≠pa:=λb e=>pV b (Av.none ⟨_,mH⟩ ⟨_,uI⟩ e)
   have ady:pO CG H5 g kn ks wf:=pO.keep cu (λb o n nl e=>o5 b o n (lh b o n (λz=>by rw[z,cA] at e;exact nl _ (dh e).symm) e)) rm
   refine⟨_,rfl,s',g,kn,fo,wd,l,putL m (ai R pl) x.cps.toList,ks,wf,R,Au,(λb=>Z b/\b≠pa),M,ts++bX,aW++new,rfl,⟨((hG.weak As).keep JO).keep uJ,⟨mF,p',cB,se,Ad,pF,pV _ qZ,JL,pV _ JK,JM⟩,ady,mH,Ac,hM,Ai,FL,FM.put pl mO DG,by rw[nM,mE],jS,eI,dw,dW,JP,uH,uI,uF.keep uJ.gM,JF,vI,λs A=>Rt s (bY.Ql FM mO dI A),by have:=Qn FM mO dI fS;lia⟩,λv nw DH gj H6 BP=>?_⟩
   refine hide λG_ ml=>?_
   obtain⟨kx,DI,DJ,xm,xn,Ry,DK,adz,DL⟩:=BP
   refine ml.k ?_
   rw[n9] at xm Ry DK
   rw[n9,n9] at xn
   have fP:∀b o,b≠kn->b≠fo->b≠pa->H3 b=some o->H6 b=some o:=λb o n1 n2 n3 e=>kx b o n1 n2 (o5 b o n1 (off b o n1 n2 n3 e))
   have rE:=kx _ _ (aP gO) (aP An) JN
   refine⟨(by show 2<=sizeLine;decide),λt ht=>?_⟩
   have nF:t≠pa:=λz=>by rw[z,rE] at ht;cases ht
   refine k1 _ _ (by rw[ak (aP nF)];exact rE) ⟨iD,bX++DH,new++nw,gj,?_⟩
   have o7:∀b o,b≠pa->H6 b=some o->upd (upd H6 t (.tup [.str x,v])) pa (.lst (us++[.ref t])) b=some o:=λb o n e=>by rw[ak n,ak (bh e ht)];exact e
   have Aw:upd (upd H6 t (.tup [.str x,v])) pa (.lst (us++[.ref t])) pa=some (.lst (us++[.ref t])):=ao
   have Ax:upd (upd H6 t (.tup [.str x,v])) pa (.lst (us++[.ref t])) t=some (.tup [.str x,v]):=by rw[ak nF];exact ao
   generalize upd (upd H6 t (.tup [.str x,v])) pa (.lst (us++[.ref t]))=H7 at o7 Aw Ax
   have uK:Kp (λb=>Z b/\b≠pa) H6 H7:=⟨λb o n1 _ e=>o7 b o (λz=>by rw[z,rE] at e;exact n1 _ (dh e).symm) e,λb l z e=>o7 b _ z.2 e⟩
   have Ay:Kp (λb=>Z b/\b≠pa) Hi H7:=uJ.trans ((kx.kp mH uI uH).trans uK)
   refine⟨λb o n1 n2 n3 e=>o7 b o n3 (fP b o n1 n2 n3 e),o7 _ _ gO DI,DJ.keep λb o e z=>o7 b _ z.2 e,o7 _ _ An xm,xn.keep uK.gM,Ry,JG.trans DK,λs A hf hx=>?_,Aw,?_⟩
   .rw[gW] at hx
    rcases dR.mp hx with z | z
    .exact(vO s A hf z).trans DK
    .have z:=cJ.mp z
     have A2:=A.put FM pl (by rw[z];exact mO)
     rw[z] at A2
     have:=adz s A2 hf
     rw[n9] at this
     exact this
   .rw[gW]
    rw[n9] at DL
    refine qX (Paired.bE nR λx' v' g' =>?_) (.cons ⟨t,v,rfl,Ax,dI,DL.mono uK (λ_ _ z _=>z) (ib.refl _)⟩ .nil)
    refine hide λG_ mn=>?_
    obtain⟨t',u',e1,e2,e3,e4⟩:=g'
    refine mn.k ?_
    exact⟨t',u',e1,Ay.tup e2,e3,e4.mono Ay (λ_ _ z _=>z) DK⟩
  .intro pa us Hi iD hR
   refine hide λG_ ui=>?_
   obtain⟨_,bX,new,kv,⟨off,jX,uE,jY,uF,JF,JG,vO,pU,nR⟩⟩:=hR
   refine ui.k ?_
   rw[av,EU] at vO nR
   have iE:∀b o,H b=some o->b≠pa:=λb o e=>bh (gk _ _ e) iD
   have lh:KX kn fo H Hi:=λb o n1 n2 e=>off b o n1 n2 (iE b o e) (gk _ _ e)
   refine λx gn hx mJ aT=>?_
   have s4:ag Hi (upd (upd Hi gn (.own x)) x (.ins CC gn [])):=λb o e=>by rw[ak (bh e hx),ak (bh e mJ)];exact e
   have mM:upd (upd Hi gn (.own x)) x (.ins CC gn []) x=some (.ins CC gn []):=ao
   generalize upd (upd Hi gn (.own x)) x (.ins CC gn [])=H4 at s4 mM
   refine⟨x,gn,pa,.int (pl:Int),us,rfl,mM,s4 _ _ pU,λr H5 rF h1 h2 h3=>⟨rfl,?_⟩⟩
   have s5:ag Hi H5:=λb o e=>h3 _ _ (λz=>by rw[z,hx] at e;cases e) (s4 _ _ e)
   have JQ:H r=none:=lh.none ⟨_,jX⟩ ⟨_,jY⟩ (s4.free rF)
   refine q (.ref x) new bX kv H5 ⟨lh.trans (KX.of s5),s5 _ _ jX,(uE.weak λb o z _=>z.1).keep λb o e _=>s5 _ _ e,s5 _ _ jY,uF.keep λb o _ _ e=>s5 _ _ e,JF,JG,λs A hf=>vO s A hf ((km Xs).mem_iff.mp (by rw[xl];exact A.left FM eI hf aL)),.inr ⟨x,gn,r,pl,Xs,us,rfl,h1,hZ r JQ,h2,aL,xl,Am,Paired.bE nR λx v g' =>?_⟩⟩
   refine hide λG_ uj=>?_
   obtain⟨t',u',e1,e2,e3,e4⟩:=g'
   refine uj.k ?_
   exact⟨t',u',e1,s5 _ _ e2,e3,e4.mono (Kp.of s5) (λ_ _ z _=>z.1) (ib.refl _)⟩
theorem RA{CG CS CH CC:Addr}(B:Bl mg)(F:aZ K "bounding_paper" "bounding_paper" (top 55) f fd)(hm:mg "bounding_paper"=some (.ref f))(hk:keepIn K (.ref f)=true)(hb:Binds K fd ["standing","found"] [])(xk:Mt P w K mg base CS "ceiling" 1 (Js K CS CG) [])(kW:Mt P w K mg base CS "narrowest" 1 (zS CS) [])(kX:Mt P w K mg base CS "filled" 3 (z6 K CS CG) [])(kY:Mt P w K mg base CS "left" 1 (zQ K CS) [])(kZ:Mt P w K mg base CS "after" 3 (z9 K CS CG) [])(ux:tL K mg "Short" CH)(lb:Nw P w K mg base "Cases" CC 1 (Ah CC)) :
  ∀n:Nat,aK P w K mg base aS (n+4) f fd ["standing","found"] (DE K CG CS CH CC n)
 |0=>F.ok DF (λvs H Q E h=>by obtain⟨s,g,kn,fo,w,l,m,ks,wf,R,kvs,Z,M,ts,aW,rfl,hp,_⟩:=h;have:=hp.ek;lia) (λaF A outer s H vs Q E hr h=>by obtain⟨s,g,kn,fo,w,l,m,ks,wf,R,kvs,Z,M,ts,aW,rfl,hp,_⟩:=h;have:=hp.ek;lia)
 |n+1=>adu n B F ⟨f,fd,_,RA B F hm hk hb xk kW kX kY kZ ux lb n,hm,hk,hb⟩ xk kW kX kY kZ ux lb
end
def rG(Z:Addr->Prop)(H:Hp)(CW CC:Addr)(R:List (List C2))(ks:List Str)(told:List (List Str)):Nat->V->List Str->Prop
 |0,_,_=>False
 |n+1,v,m=>(∃p dx,v = .ref p/\H p=some (.ins CW dx [])/\eW m=false/\m∈told)\/
   ∃(p dx q:Addr) (pl:Nat) (xs:List Str) (vs:List V),v = .ref p/\H p=some (.ins CC dx (Jt (.int (pl:Int)) (.ref q)))/\Z q/\H q=some (.lst vs)/\pl<R.length/\dg xs=pG m R pl ks/\xs.length<64/\
    Paired (λx v=>∃t u,v=V.ref t/\H t=some (.tup [.str x,u])/\cO x (ax m (ai R pl))=true/\rG Z H CW CC R ks told n u (putL m (ai R pl) x.cps.toList)) xs vs
theorem rG.mono{Z Z':Addr->Prop}{H H':Hp}{CW CC:Addr}{R:List (List C2)}{ks:List Str}{told RB:List (List Str)}(k:Kp Z H H')(hz:∀b o,Z b->H b=some o->Z' b)(ht:∀s∈told,s∈RB):∀{n:Nat}{v:V}{m:List Str},rG Z H CW CC R ks told n v m->rG Z' H' CW CC R ks RB n v m
 |0,_,_,h=>h
 |n+1,v,m,h=>by
  rcases h with ⟨p,dx,e,h1,h2,h3⟩ | ⟨p,dx,q,pl,xs,vs,e,h1,hq,h2,h3,h4,h5,h6⟩
  .exact .inl ⟨p,dx,e,k.ins h1,h2,ht _ h3⟩
  .exact .inr ⟨p,dx,q,pl,xs,vs,e,k.ins h1,hz _ _ hq h2,k.lst _ _ hq h2,h3,h4,h5,Paired.bE h6 λx v g=>let ⟨t,u,e1,e2,e3,e4⟩:=g;⟨t,u,e1,k.tup e2,e3,rG.mono k hz ht e4⟩⟩
section
variable{w:World}
structure adA(K:Frag)(CG CS:Addr)(Z:Addr->Prop)(M:Str->Prop)(H:Hp)(s g kn fo:Addr)(most w n:Nat)(l m ks:List Str)(wf:Str->Int)(R:List (List C2))(kvs:List (Key×V))(ts:List Addr)(aW:List (List Str)):Prop where
 e1:pN K CG Z H g kn l R
 e2:Std CS Z H s g m R ks wf
 e3:H kn=some (.dK kvs)
 e4:gh Z M H ks wf kvs
 e5:zO M
 e6:∀m' pl x k i,cP m' w R->m'.length=l.length->pl<R.length->x∈ks->cO x (ax m' (ai R pl))=true->(∀j,j<R.length->46∈(ax m' (ai R j)).cps.toList->∃y∈ks,cO y (ax m' (ai R j))=true)->i<R.length->46∈(ax m' (ai R i)).cps.toList->M (ax (putL m' ((ai R pl).take k) (x.cps.toList.take k)) (ai R i))
 e7:cP l w R
 e8:cP m w R
 e9:m.length=l.length
 ea:R.length<=200
 eb:∀x∈ks,eP x=true
 ec:ks.Nodup
 ed:ks.length<64
 ee:∀q,H q=none->Z q
 ef:¬Z fo
 eg:H fo=some (.lst (ts.map V.ref))
 eh:rn H ts aW
 ei:aW.length<most
 ej:most<=1000
 ek:(dm m w).length<n
structure adB(Z:Addr->Prop)(M:Str->Prop)(H H':Hp)(CW CC kn fo:Addr)(most w n:Nat)(m ks:List Str)(wf:Str->Int)(R:List (List C2))(kvs:List (Key×V))(ts bX:List Addr)(aW new:List (List Str))(v:V):Prop where
 e1:KX kn fo H H'
 e2:H' kn=some (.dK kvs)
 e3:gh Z M H' ks wf kvs
 e4:H' fo=some (.lst ((ts++bX).map V.ref))
 e5:rn H' (ts++bX) (aW++new)
 e6:new.Nodup
 e7:∀s∈new,bY s m w/\dF ks s w=true
 e8:(v = .aw/\(aW++new).length=most)\/(v ≠ .aw/\(aW++new).length<most/\∀told,(∀s∈new,s∈told)->rG Z H' CW CC R ks told n v m)
def DM(K:Frag)(CG CS CW CC:Addr)(n:Nat):Sp:=λvs H Q _=>∃(s g kn fo:Addr) (most w:Nat) (l m ks:List Str) (wf:Str->Int) (R:List (List C2)) (kvs:List (Key×V)) (Z:Addr->Prop) (M:Str->Prop) (ts:List Addr) (aW:List (List Str)),vs=[.ref s,.int (most:Int),.ref fo]/\adA K CG CS Z M H s g kn fo most w n l m ks wf R kvs ts aW/\∀v new bX rb H',adB Z M H H' CW CC kn fo most w n m ks wf R rb ts bX aW new v->Q v H'
structure adC(Z:Addr->Prop)(M:Str->Prop)(H3 Hi:Hp)(CW CC kn fo pa:Addr)(most w n pl i:Nat)(m ks:List Str)(wf:Str->Int)(R:List (List C2))(Xs:List Str)(ts bX:List Addr)(aW new:List (List Str))(kv:List (Key×V))(us:List V):Prop where
 e1:∀b o,b≠kn->b≠fo->b≠pa->H3 b=some o->Hi b=some o
 e2:Hi kn=some (.dK kv)
 e3:gh (λb=>Z b/\b≠pa) M Hi ks wf kv
 e4:Hi fo=some (.lst ((ts++bX).map V.ref))
 e5:rn Hi (ts++bX) (aW++new)
 e6:new.Nodup
 e7:∀s∈new,bY s m w/\dF ks s w=true/\ax s (ai R pl)∈Xs.take i
 e8:(aW++new).length<most
 e9:Hi pa=some (.lst us)
 ea:Paired (λx v=>∃t u,v=V.ref t/\Hi t=some (.tup [.str x,u])/\cO x (ax m (ai R pl))=true/\∀told,(∀s∈new,s∈told)->rG (λb=>Z b/\b≠pa) Hi CW CC R ks told n u (putL m (ai R pl) x.cps.toList)) (Xs.take i) us
theorem xo:bu ["standing","most","found","place","parts","word","paper"] ["standing","most","found"] (aN (top 52)):={}
theorem adD(n:Nat)(B:Bl mg)(F:aZ K "closing_paper" "closing_paper" (top 52) f fd)(JR:Fn P w K mg base "closing_paper" (n+4) (DM K CG CS CW CC n))(kW:Mt P w K mg base CS "narrowest" 1 (zS CS) [])(kX:Mt P w K mg base CS "filled" 3 (z6 K CS CG) [])(kY:Mt P w K mg base CS "left" 1 (zQ K CS) [])(kZ:Mt P w K mg base CS "after" 3 (z9 K CS CG) [])(xp:tL K mg "Whole" CW)(lb:Nw P w K mg base "Cases" CC 1 (Ah CC)) :
  aK P w K mg base aS (n+5) f fd ["standing","most","found"] (DM K CG CS CW CC (n+1)):=by
 refine F.bU xo λaF A outer s H vs Q E hr h=>?_
 refine hide λG_ aG=>?_
 obtain⟨s0,g,kn,fo,most,wd,l,m,ks,wf,R,kvs,Z,M,ts,aW,rfl,⟨hG,hS,cu,hK,hM,Ai,FL,FM,mE,jS,eI,dw,dW,hZ,pR,cA,hF,aY,hmo,hn⟩,q⟩:=h
 refine aG.k ?_
 refine⟨_,(az (cn (cK U0 (cL lQ (by rfl) B.gc fZ (af (pv 2) aj)) (pv 1))
  (aB (bg gv))
  cH)
  (az (aX 3 xo.nd (vQ kW hr (pv 0)))
  (az (cn (cK vD (pv 3) gv)
  (az (dZ (gE j6 lA lB jf (pv 2) (af (vQ kX hr (pv 0)) aj)))
   (aB (bg (Uy (cK qv (cL lQ (by rfl) B.gc fZ (af (pv 2) aj)) (pv 1)) (G2 xp (by rfl)) gv))))
  cH)
  (az (aX 4 xo.nd (eE aj))
  (az (dJ (eD (kj kY hr (pv 0) (af (pv 3) aj))) (cD 5 xo.nd)
  (az (aX 6 xo.nd (bD JR hr (af (kj kZ hr (pv 0) (af (pv 3) (af (pv 5) aj))) (af (pv 1) (af (pv 2) aj)))))
   (az (cn (cK vD (pv 6) gv)
   (aB (bg gv))
   cH)
   (aB (dZ (gE j6 lA lB jf (pv 4) (af (eZ (af (pv 5) (af (pv 6) aj))) aj)))))))
  (aB (bg (yJ lb hr (af (pv 3) (af (pv 4) aj)))))))))),?_⟩
 try dsimp only[bJ]
 refine hide λG_ bw=>?_
 obtain⟨dx,p,fl,fs,hs,hp,zp,dN,Jx,nP⟩:=hS.ex
 obtain⟨cR,a,ce,cf,wo,xs,cs,hg,hT,kU,zce,pL,pM,Jy,Ae⟩:=hG.ex
 obtain⟨aH,rq,ju⟩:=Jv nP
 refine bw.k ?_
 have Di:=rq.length
 have Aj:=ju.length
 rw[av] at Aj
 have hFl:=gR hF
 have Ak:∀{i:Nat},i<R.length->(R.map (ax m)).getD i ⟨#[]⟩=ax m (ai R i):=λhi=>cE (jq R _ hi)
 refine⟨_,rfl,fo,_,rfl,.inl (aq.of cA),_,rfl,_,_,rfl,rfl,_,rfl,?_⟩
 rw[bf (by rw[av];lia)]
 refine bj ?_
 refine⟨_,rfl,s0,dx,_,rfl,hs,pQ _ _ _ (by decide +kernel) (by decide +kernel) (by decide +kernel),s0,dx,p,fl,.ref g,R.map (ax m),aH,fs,rfl,hs,hp,dN,rq,by rw[av];exact Aj.symm,by rw[av];exact jS,λt mt=>?_,λJz H1 s1=>?_,λpl H1 aL uy s1=>?_⟩
 .obtain⟨r,mr,rfl⟩:=cC.mp mt
  rw[fu]
  obtain⟨i,hi⟩:=eS mr
  have:=(FM.len (bR.mp hi).1).2
  have e:ai R i=r:=cE hi
  rw[e] at this
  lia
 .
  obtain⟨jV,hd2,gb⟩:=Jz
  have fS:eW m=false:=Ju FM λr mr=>jV _ (r8 mr)
  have uz:d0 m wd=R.map (ax m):=by
   unfold d0
   rw[FM.eq]
  have wR:dF ks m wd=true:=by
   refine C5 fS (by rw[uz];exact hd2) (λx mx=>?_)
   rw[uz] at mx
   obtain⟨i,hi⟩:=eS mx
   obtain⟨ws,hws,JA⟩:=Paired.getL ju hi
   have aT:=gb ws (bM hws)
   obtain⟨y,my⟩:∃y,y∈ws:=by
    cases ws with
    |nil=>exact absurd rfl aT
    |cons y r=>exact⟨y,bK⟩
   obtain⟨y1,y2⟩:=(JA.mem y).mp my
   rw[<-wM y2 (jV x mx)]
   exact y1
  refine⟨_,rfl,rfl,_,rfl,?_⟩
  rw[aU rfl]
  refine bA ⟨_,rfl,.inl ⟨rfl,_,aq.of (s1 _ _ cA)⟩,?_⟩
  refine⟨_,rfl,s0,dx,_,rfl,s1 _ _ hs,pQ _ _ _ (by decide +kernel) (by decide +kernel) (by decide +kernel),s0,dx,g,cR,p,ce,a,.ref fl,.ref cf,wo,.ref kn,l,m,wd,R,xs,rfl,s1 _ _ hs,s1 _ _ hg,s1 _ _ hT,s1 _ _ kU,Paired.bE pL λr x e=>e.fJ λb o e=>s1 _ _ e,s1 _ _ hp,FL,FM,mE,λt H2 s2 ht=>?_⟩
  have uu:=s1.trans s2
  have nS:=uu _ _ cA
  refine⟨fo,_,.ref t,rfl,rfl,nS,ki (by rw[av];lia),?_⟩
  have o3:∀b o,b≠fo->H2 b=some o->upd H2 fo (.lst (ts.map V.ref++[.ref t])) b=some o:=λb o n e=>by rw[ak n];exact e
  have f3:upd H2 fo (.lst (ts.map V.ref++[.ref t])) fo=some (.lst ((ts++[t]).map V.ref)):=by rw[ao,fG];rfl
  generalize upd H2 fo (.lst (ts.map V.ref++[.ref t]))=H3 at o3 f3
  have DN:KX kn fo H H3:=λb o _ n e=>o3 b o n (uu _ _ e)
  have uB:kn≠fo:=bS cu cA (by intro z;cases z)
  have eA:H3 kn=some (.dK kvs):=o3 _ _ uB (uu _ _ cu)
  have Al:H3 t=some (.tup (m.map V.str)):=o3 _ _ (bS ht nS (by intro z;cases z)) ht
  have pK:rn H3 (ts++[t]) (aW++[m]):=qX (hF.keep (DN.kp cu cA pR).gM) (.cons Al .nil)
  have pJ:=hK.keep λb o e z=>(DN.kp cu cA pR).lst _ _ z e
  refine⟨_,rfl,fo,_,rfl,.inl (aq.of f3),_,rfl,_,_,rfl,rfl,_,rfl,?_⟩
  have DO:∀s∈[m],bY s m wd/\dF ks s wd=true:=λs ms=>by rw[cJ.mp ms];exact⟨bY.refl FM.sh,wR⟩
  by_cases GG:aW.length+1<most
  .rw[aU (by rw[av,d6,EH];lia)]
   refine bA λx dr hx mJ aT=>?_
   have s4:ag H3 (upd (upd H3 dr (.own x)) x (.ins CW dr [])):=λb o e=>by rw[ak (bh e hx),ak (bh e mJ)];exact e
   have mM:upd (upd H3 dr (.own x)) x (.ins CW dr []) x=some (.ins CW dr []):=ao
   generalize upd (upd H3 dr (.own x)) x (.ins CW dr [])=H4 at s4 mM
   refine q (.ref x) [m] [t] kvs H4 ⟨DN.trans (KX.of s4),s4 _ _ eA,pJ.keep λb o e _=>s4 _ _ e,s4 _ _ f3,pK.keep λb o _ _ e=>s4 _ _ e,by simp,DO,.inr ⟨(by intro z;cases z),by rw[d6,EH];exact GG,λtold ht=>.inl ⟨x,dr,rfl,mM,fS,ht m bK⟩⟩⟩
  .rw[bf (by rw[av,d6,EH];lia)]
   exact bj (q .aw [m] [t] kvs H3 ⟨DN,eA,pJ,f3,pK,by simp,DO,.inl ⟨rfl,by rw[d6,EH];lia⟩⟩)
 .
  rw[av] at aL
  rw[Ak aL] at uy
  refine⟨_,rfl,rfl,_,rfl,?_⟩
  rw[bf (by intro z;cases z)]
  refine bj ⟨bW _,λpa iD=>?_⟩
  have s2:ag H (upd H1 pa (.lst [])):=s1.trans (ag.upd iD)
  have JS:upd H1 pa (.lst []) pa=some (.lst []):=ao
  have adE:H pa=none:=s1.free iD
  generalize upd H1 pa (.lst [])=H2 at s2 JS
  refine hide λG_ cq=>?_
  obtain⟨ws,hws⟩:∃ws,aH[pl]? = some ws:=⟨_,bt (by lia)⟩
  obtain⟨fv,uo,lf,rfl,xi,wZ⟩:=Paired.getL rq hws
  obtain⟨pt,hpt,mG⟩:=Paired.get ju hws
  refine cq.k ?_
  rw[jq R _ aL] at hpt
  cases hpt
  have um:aH.getD pl []=ws:=cE hws
  rw[um] at uy
  refine⟨_,rfl,s0,dx,_,rfl,s2 _ _ hs,pQ _ _ _ (by decide +kernel) (by decide +kernel) (by decide +kernel),_,rfl,s0,dx,p,fl,lf,.ref g,R.map (ax m),ws,fs,pl,rfl,s2 _ _ hs,s2 _ _ hp,s2 _ _ dN,uo,s2 _ _ xi,by rw[av];exact aL,by rw[av];exact jS,wZ,λlq H3 jW s3 rC=>⟨lq,rfl,⟨_,aq.of rC⟩,?_⟩⟩
  have uC:∀x,x∈(ws.filter λx=>!decide (x∈dY (R.map (ax m)) pl))->x∈ks/\cO x (ax m (ai R pl))=true/\x∈ws/\x∉dY (R.map (ax m)) pl:=λx mx=>by
   obtain⟨m1,m2⟩:=da.mp mx
   have:=(mG.mem x).mp m1
   exact⟨this.1,this.2,m1,by simpa using m2⟩
  have uD:(ws.filter λx=>!decide (x∈dY (R.map (ax m)) pl)).Nodup:=mG.nd.filter _
  have Am:(ws.filter λx=>!decide (x∈dY (R.map (ax m)) pl)).length<64:=lr (oU uD λx mx=>(uC x mx).1) dW
  have xl:dg (ws.filter λx=>!decide (x∈dY (R.map (ax m)) pl))=pG m R pl ks:=by
   rw[<-Qo dw mG]
   congr 1
   refine List.filter_congr λx _=>?_
   by_cases z:x∈dY (R.map (ax m)) pl
   .rw[aU z,aU ((DA aL).mp z)]
   .rw[bf z,bf λy=>z ((DA aL).mpr y)]
  generalize hXs:(ws.filter λx=>!decide (x∈dY (R.map (ax m)) pl))=Xs at rC uC uD Am xl
  have gk:=s2.trans s3
  have adF:=s3 _ _ JS
  have iE:∀b o,H b=some o->b≠pa:=λb o e=>bh e adE
  have uB:kn≠fo:=bS cu cA (by intro z;cases z)
  have gO:kn≠pa:=iE _ _ cu
  have An:fo≠pa:=iE _ _ cA
  have JD:lq≠fo:=λz=>by rw[z,s2 _ _ cA] at jW;cases jW
  have adG:lq≠pa:=λz=>by rw[z,JS] at jW;cases jW
  have JE:lq≠kn:=λz=>by rw[z,s2 _ _ cu] at jW;cases jW
  have Ao:∀{Hi:Hp},(∀b o,b≠kn->b≠fo->b≠pa->H3 b=some o->Hi b=some o)->KX kn fo H Hi:=λk b o n1 n2 e=>k b o n1 n2 (iE b o e) (gk _ _ e)
  refine ke (K:=K) (xs:=Xs.map V.str) (λi O Hi=>∃(v5 v6:Option V) (bX:List Addr) (new:List (List Str)) (kv:List (Key×V)) (us:List V),O=[some (.ref s0),some (.int (most:Int)),some (.ref fo),some (.int (pl:Int)),some (.ref pa),v5,v6]/\adC Z M H3 Hi CW CC kn fo pa most wd n pl i m ks wf R Xs ts bX aW new kv us)
   ⟨none,none,[],[],kvs,[],rfl,⟨λb o _ _ _ e=>e,gk _ _ cu,(hK.weak λb o z e=>⟨z,iE b o e⟩).keep λb o e _=>gk _ _ e,by rw[dS];exact gk _ _ cA,by rw[dS,dS];exact hF.keep λb o _ _ e=>gk _ _ e,i4,(λ_ ms=>nomatch ms),by rw[dS];exact aY,adF,.nil⟩⟩ ?_ ?_ ?_
  .rintro i O Hi _ ⟨v5,v6,bX,new,kv,us,rfl,CI⟩
   exact aq.of (CI.e1 _ _ JE JD adG rC)
  .intro i y O Hi hy adH
   refine hide λG_ dE=>?_
   obtain⟨v5,v6,bX,new,kv,us,rfl,⟨off,jX,uE,jY,uF,JT,uL,JU,pU,nR⟩⟩:=adH
   rw[bF] at hy
   obtain⟨x,hx,rfl⟩:=i3.mp hy
   have hi:i<Xs.length:=(bR.mp hx).1
   obtain⟨eQ,dI,uG,Ap⟩:=uC x (bM hx)
   have gW:Xs.take (i+1)=Xs.take i++[x]:=by rw[ik,hx];rfl
   have Rx:x∉Xs.take i:=λz=>by
    have h1:(Xs.take (i+1)).Nodup:=uD.sublist (AS _ _)
    rw[gW,rZ] at h1
    exact h1.2.2 x z x (cJ.mpr rfl) rfl
   obtain⟨fS,kD⟩:46∈(ax m (ai R pl)).cps.toList/\∀j,j<(R.map (ax m)).length->46∈((R.map (ax m)).getD j ⟨#[]⟩).cps.toList->ws.length<=(aH.getD j []).length:=by
    rcases uy with z | ⟨z1,z2⟩
    .exact z
    .exfalso
     rcases z2 with z2 | z2
     .rw[wM dI z1] at Ap
      exact Ap (by unfold dY;exact j0 _ z2)
     .rw[z2] at uG
      cases uG
   refine dE.k ?_
   have fY:∀j,j<R.length->46∈(ax m (ai R j)).cps.toList->∃y∈ks,cO y (ax m (ai R j))=true:=λj hj dz=>by
    have h1:=kD j (by rw[av];exact hj) (by rw[Ak hj];exact dz)
    obtain⟨wj,Aq⟩:∃wj,aH[j]? = some wj:=⟨_,bt (by lia)⟩
    obtain⟨pj,Ar,JH⟩:=Paired.get ju Aq
    rw[jq R _ hj] at Ar
    cases Ar
    rw[cE Aq] at h1
    have h0:=TL uG
    cases wj with
    |nil=>rw[AU] at h1;lia
    |cons y r=>exact⟨y,(JH.mem y).mp bK⟩
   have mO:=DB (eI x eQ)
   have w8:46∉x.cps.toList:=λz=>by have:=mO 46 z;lia
   have DG:x.length=(ai R pl).length:=by rw[(iI.mp dI).1,fu]
   have lh:=Ao off
   have eB:=lh.kp cu cA pR
   have uH:¬(λb=>Z b/\b≠pa) fo:=λz=>pR z.1
   have pV:∀b,Hi b=none->Z b/\b≠pa:=λb e=>⟨hZ b (lh.none ⟨_,jX⟩ ⟨_,jY⟩ e),λz=>by rw[z,pU] at e;cases e⟩
   have As:∀b o,Z b->H b=some o->(Z b/\b≠pa):=λb o z e=>⟨z,iE b o e⟩
   have JI:=Paired.bE Ae λi v (e:∃q us,v=V.ref q/\Z q/\H q=some (.lst us)/\bC H (jn R i) us)=>(show ∃q us,v=V.ref q/\Hi q=some (.lst us)/\bC Hi (jn R i) us from let ⟨q,us,e1,e2,e3,e4⟩:=e;⟨q,us,e1,eB.lst _ _ e2 e3,e4.lists λb o e=>eB.tup e⟩)
   have adx:=Paired.bE nP λt v e=>(e.keep (H':=Hi) λb o e z=>eB.lst _ _ z e)
   have JJ:Paired (gN (λb=>Z b/\b≠pa) Hi ks wf) (R.map (ax m)) fs:=Paired.bE nP λt v e=>(e.weak As).keep λb o e z=>eB.lst _ _ z.1 e
   refine⟨_,rfl,s0,dx,_,rfl,eB.ins hs,pQ _ _ _ (by decide +kernel) (by decide +kernel) (by decide +kernel),_,rfl,_,rfl,?_⟩
   refine⟨s0,dx,g,cR,p,fl,cf,kn,.ref a,.ref ce,wo,m,ks,wf,wd,pl,R,fs,cs,x,kv,(λb=>Z b/\b≠pa),M,rfl,⟨eB.ins hs,eB.ins hg,jX,uE,hM,eB.lst _ _ zp hp,eB.lst _ _ Jx dN,JJ,eB.lst _ _ Jy pM,JI,FM,aL,jS,dI,eQ,w8,pV,λk i hi dz=>Ai m pl x k i FM mE aL eQ dI fY hi dz⟩,λs' mF p' cB se Au H5 SP=>?_⟩
   refine hide λG_ hU=>?_
   obtain⟨qZ,JK,o5,mH,Ac,Ad,pF,JL,JM⟩:=SP
   refine hU.k ?_
   have Av:KX kn fo Hi H5:=λb o n _ e=>o5 b o n e
   have uI:=o5 _ _ (aP uB) jY
   have JN:=o5 _ _ (aP gO) pU
   have uJ:Kp (λb=>Z b/\b≠pa) Hi H5:=Av.kp jX jY uH
   have JO:Kp (λb=>Z b/\b≠pa) H Hi:=⟨eB.gM,λb l z e=>eB.lst b l z.1 e⟩
   have JP:∀b,H5 b=none->Z b/\b≠pa:=λb e=>pV b (Av.none ⟨_,mH⟩ ⟨_,uI⟩ e)
   refine⟨_,rfl,_,rfl,s',g,kn,fo,most,wd,l,putL m (ai R pl) x.cps.toList,ks,wf,R,Au,(λb=>Z b/\b≠pa),M,ts++bX,aW++new,rfl,⟨((hG.weak As).keep JO).keep uJ,⟨mF,p',cB,se,Ad,pF,pV _ qZ,JL,pV _ JK,JM⟩,mH,Ac,hM,Ai,FL,FM.put pl mO DG,by rw[nM,mE],jS,eI,dw,dW,JP,uH,uI,uF.keep uJ.gM,JU,hmo,by have:=Qn FM mO dI fS;lia⟩,λv nw DH gj H6 CP=>?_⟩
   refine hide λG_ ml=>?_
   obtain⟨kx,DI,DJ,xm,xn,adI,JV,uM⟩:=CP
   refine ml.k ?_
   rw[n9] at xm
   rw[n9,n9] at xn
   rw[n9] at uM
   have fP:∀b o,b≠kn->b≠fo->b≠pa->H3 b=some o->H6 b=some o:=λb o n1 n2 n3 e=>kx b o n1 n2 (o5 b o n1 (off b o n1 n2 n3 e))
   have rE:=kx _ _ (aP gO) (aP An) JN
   have RC:∀s∈nw,ax s (ai R pl)=x:=λs ms=>bY.text FM mO DG (JV s ms).1
   have JW:∀s∈new++nw,bY s m wd/\dF ks s wd=true/\ax s (ai R pl)∈Xs.take (i+1):=λs ms=>by
    rw[gW]
    rcases dR.mp ms with z | z
    .exact⟨(uL s z).1,(uL s z).2.1,j0 _ (uL s z).2.2⟩
    .exact⟨bY.Ql FM mO dI (JV s z).1,(JV s z).2,ie _ (by rw[RC s z];exact bK)⟩
   have RD:(new++nw).Nodup:=rZ.mpr ⟨JT,adI,λs ms t mt z=>by
    have h1:=(uL s ms).2.2
    rw[z,RC t mt] at h1
    exact Rx h1⟩
   rcases uM with ⟨rfl,adJ⟩ | ⟨hv,adK,dG⟩
   .refine⟨_,rfl,rfl,_,rfl,?_⟩
    rw[aU rfl]
    exact bA (q .aw (new++nw) (bX++DH) gj H6 ⟨Ao fP,DI,DJ.weak λb o z _=>z.1,xm,xn,RD,λs ms=>⟨(JW s ms).1,(JW s ms).2.1⟩,.inl ⟨rfl,adJ⟩⟩)
   .refine⟨_,rfl,rfl,_,rfl,?_⟩
    rw[bf hv]
    have IG:us.length<=64:=by rw[<-nR.length,ij];lia
    refine bj ⟨_,rfl,.inl ⟨rfl,_,aq.of rE⟩,_,rfl,_,rfl,(by show 2<=sizeLine;decide),λt ht=>?_⟩
    have nF:t≠pa:=λz=>by rw[z,rE] at ht;cases ht
    refine⟨pa,us,_,rfl,rfl,by rw[ak (aP nF)];exact rE,ki (by lia),?_⟩
    have o7:∀b o,b≠pa->H6 b=some o->upd (upd H6 t (.tup [.str x,v])) pa (.lst (us++[.ref t])) b=some o:=λb o n e=>by rw[ak n,ak (bh e ht)];exact e
    have Ax:upd (upd H6 t (.tup [.str x,v])) pa (.lst (us++[.ref t])) t=some (.tup [.str x,v]):=by rw[ak nF];exact ao
    have Aw:upd (upd H6 t (.tup [.str x,v])) pa (.lst (us++[.ref t])) pa=some (.lst (us++[.ref t])):=ao
    generalize upd (upd H6 t (.tup [.str x,v])) pa (.lst (us++[.ref t]))=H7 at o7 Ax Aw
    have uK:Kp (λb=>Z b/\b≠pa) H6 H7:=⟨λb o n1 _ e=>o7 b o (λz=>by rw[z,rE] at e;exact n1 _ (dh e).symm) e,λb l z e=>o7 b _ z.2 e⟩
    have adL:Kp (λb=>Z b/\b≠pa) H5 H6:=kx.kp mH uI uH
    have Ay:=(uJ.trans adL).trans uK
    refine⟨_,_,bX++DH,new++nw,gj,us++[.ref t],rfl,⟨λb o n1 n2 n3 e=>o7 b o n3 (fP b o n1 n2 n3 e),o7 _ _ gO DI,DJ.keep λb o e z=>o7 b _ z.2 e,o7 _ _ An xm,xn.keep uK.gM,RD,JW,adK,Aw,?_⟩⟩
    rw[gW]
    refine qX (Paired.bE nR λx' v' g=>?_) (.cons ⟨t,v,rfl,Ax,dI,λtold ht=>(dG told λs ms=>ht s (ie _ ms)).mono uK (λ_ _ z _=>z) λ_ z=>z⟩ .nil)
    refine hide λG_ mn=>?_
    obtain⟨t',u',e1,e2,e3,e4⟩:=g
    refine mn.k ?_
    exact⟨t',u',e1,Ay.tup e2,e3,λtold ht=>(e4 told λs ms=>ht s (j0 _ ms)).mono Ay (λ_ _ z _=>z) λ_ z=>z⟩
  .intro O Hi adM
   refine hide λG_ ui=>?_
   obtain⟨v5,v6,bX,new,kv,us,rfl,⟨off,jX,uE,jY,uF,JT,uL,JU,pU,nR⟩⟩:=adM
   refine ui.k ?_
   rw[av,EU] at nR
   refine⟨_,rfl,_,rfl,λx gn hx mJ aT=>?_⟩
   have s4:ag Hi (upd (upd Hi gn (.own x)) x (.ins CC gn [])):=λb o e=>by rw[ak (bh e hx),ak (bh e mJ)];exact e
   have mM:upd (upd Hi gn (.own x)) x (.ins CC gn []) x=some (.ins CC gn []):=ao
   generalize upd (upd Hi gn (.own x)) x (.ins CC gn [])=H4 at s4 mM
   refine⟨x,gn,pa,.int (pl:Int),us,rfl,mM,s4 _ _ pU,λr H5 rF h1 h2 h3=>⟨rfl,?_⟩⟩
   have s5:ag Hi H5:=λb o e=>h3 _ _ (λz=>by rw[z,hx] at e;cases e) (s4 _ _ e)
   have lh:=Ao off
   have JQ:H r=none:=by
    cases eb:H r with
    |none=>rfl
    |some o=>
     by_cases z1:r=kn
     .rw[z1,s4 _ _ jX] at rF;cases rF
     .by_cases z2:r=fo
      .rw[z2,s4 _ _ jY] at rF;cases rF
      .rw[s4 _ _ (lh r o z1 z2 eb)] at rF;cases rF
   refine q (.ref x) new bX kv H5 ⟨lh.trans (KX.of s5),s5 _ _ jX,(uE.weak λb o z _=>z.1).keep λb o e _=>s5 _ _ e,s5 _ _ jY,uF.keep λb o _ _ e=>s5 _ _ e,JT,λs ms=>⟨(uL s ms).1,(uL s ms).2.1⟩,.inr ⟨(by intro z;cases z),JU,λtold adN=>.inr ⟨x,gn,r,pl,Xs,us,rfl,h1,hZ r JQ,h2,aL,xl,Am,Paired.bE nR λx v g=>?_⟩⟩⟩
   refine hide λG_ uj=>?_
   obtain⟨t,u,e1,e2,e3,e4⟩:=g
   refine uj.k ?_
   exact⟨t,u,e1,s5 _ _ e2,e3,(e4 told adN).mono (Kp.of s5) (λb o z _=>z.1) λ_ z=>z⟩
theorem RE{CG CS CW CC:Addr}(B:Bl mg)(F:aZ K "closing_paper" "closing_paper" (top 52) f fd)(hm:mg "closing_paper"=some (.ref f))(hk:keepIn K (.ref f)=true)(hb:Binds K fd ["standing","most","found"] [])(kW:Mt P w K mg base CS "narrowest" 1 (zS CS) [])(kX:Mt P w K mg base CS "filled" 3 (z6 K CS CG) [])(kY:Mt P w K mg base CS "left" 1 (zQ K CS) [])(kZ:Mt P w K mg base CS "after" 3 (z9 K CS CG) [])(xp:tL K mg "Whole" CW)(lb:Nw P w K mg base "Cases" CC 1 (Ah CC)) :
  ∀n:Nat,aK P w K mg base aS (n+4) f fd ["standing","most","found"] (DM K CG CS CW CC n)
 |0=>F.ok xo (λvs H Q E h=>by obtain⟨s,g,kn,fo,most,w,l,m,ks,wf,R,kvs,Z,M,ts,aW,rfl,hp,_⟩:=h;have:=hp.ek;lia) (λaF A outer s H vs Q E hr h=>by obtain⟨s,g,kn,fo,most,w,l,m,ks,wf,R,kvs,Z,M,ts,aW,rfl,hp,_⟩:=h;have:=hp.ek;lia)
 |n+1=>adD n B F ⟨f,fd,_,RE B F hm hk hb kW kX kY kZ xp lb n,hm,hk,hb⟩ kW kX kY kZ xp lb
end
theorem RF:∀(r:List C2) (c:C2),((List.range r.length).filter λk=>decide (r[k]? = some c)).length=r.count c
 |[],c=>rfl
 |a::r,c=>by
  rw[eJ,TC,fH,EO,List.count_cons]
  have e:((λk=>decide ((a::r)[k]? = some c))∘Nat.succ)=λk=>decide (r[k]? = some c):=by funext k;rfl
  rw[e]
  have ih:=RF r c
  by_cases z:a=c
  .have:decide ((a::r)[0]? = some c)=true:=by simp[z]
   rw[aC this,eJ,av,ih,aC (by simp[z])]
  .have:¬decide ((a::r)[0]? = some c)=true:=by simp[z]
   rw[au this,av,ih,au (by simpa using z)]
   rfl
theorem adO(R:List (List C2))(c:C2):(dq R c).length=(R.map λr=>r.count c).sum:=by
 unfold dq
 rw[List.length_flatMap]
 have e:(List.map (λi=>(((List.range (ai R i).length).filter λk=>decide ((ai R i)[k]? = some c)).map λk=>(i,k)).length) (List.range R.length))=(List.range R.length).map (λi=>(λr:List C2=>r.count c) (R.getD i [])):=by
  refine List.map_congr_left λi _=>?_
  rw[av,RF]
  rfl
 rw[e,zw (λr:List C2=>r.count c)]
theorem RG(c:C2):(dq (aV l w) c).length=dP c (dy l w):=by
 rw[adO,qU,mV]
 rfl
theorem adP(h:r∈aV l w):r.Nodup:=by
 unfold aV kP iG at h
 rcases dR.mp h with h | h
 .obtain⟨c,_,e⟩:=cC.mp (da.mp h).1
  rw[<-e]
  exact Cf (.inl rfl)
 .obtain⟨c,_,e⟩:=cC.mp (da.mp h).1
  rw[<-e]
  exact Cf (.inr rfl)
theorem adQ(S:bH l w)(T:wI l w):GoodR (aV l w):=by
 have nd:∀i,(ai (aV l w) i).Nodup:=λi=>by
  by_cases hi:i<(aV l w).length
  .exact adP (pH hi)
  .have:ai (aV l w) i=[]:=by
    unfold ai
    rw[cz,di (Lx hi)]
    rfl
   rw[this]
   exact i4
 refine⟨nd,λi k c h=>?_⟩
 have hb:=(mB S (pH (nL h).1)).2.2 c (bM h)
 have h2:(dq (aV l w) c).length=2:=by
  rw[RG]
  exact T c (by rw[wt hb.1 hb.2.1];exact hb.2.2)
 have mo:(i,k)∈dq (aV l w) c:=qV.mpr h
 have RH:=Iz (aV l w) c
 obtain⟨p,p',ep⟩:∃p p',dq (aV l w) c=[p,p']:=by
  match ho:dq (aV l w) c,h2 with
  |[a,b],_=>exact⟨a,b,rfl⟩
 have key:∃o:Nat×Nat,o≠(i,k)/\o∈dq (aV l w) c/\∀y∈dq (aV l w) c,y=(i,k)\/y=o:=by
  rw[ep] at mo RH ⊢
  have aT:p≠p':=by
   have:=(ig.mp RH).1
   simpa using this
  rcases cx.mp mo with z | z
  .refine⟨p',λy=>aT (by rw[<-z,y]),by simp,λy my=>?_⟩
   rcases cx.mp my with m | m
   .exact .inl (m.trans z.symm)
   .exact .inr (cJ.mp m)
  .have z:=cJ.mp z
   refine⟨p,λy=>aT (by rw[<-z,y]),by simp,λy my=>?_⟩
   rcases cx.mp my with m | m
   .exact .inr m
   .exact .inl ((cJ.mp m).trans z.symm)
 obtain⟨o,Gs,jG,vU⟩:=key
 have qo:=qV.mp jG
 refine⟨o.1,o.2,λz=>Gs ?_,qo,λi' k' h' =>?_⟩
 .rw[z] at qo
  exact Prod.ext z (wJ (nd i) qo h)
 .rcases vU (i',k') (qV.mpr h') with z | z
  .injection z with z1 z2
   exact .inl ⟨z1,z2⟩
  .exact .inr ⟨by rw[<-z],by rw[<-z]⟩
theorem JX(S:bH l w)(T:wI l w):cP l w (aV l w):=by
 refine⟨S,rfl,adQ S T,λc h1 h2 ho=>?_⟩
 have h:=T c (by rw[wt h1 h2];exact ho)
 rw[<-RG] at h
 cases e:dq (aV l w) c with
 |nil=>rw[e] at h;cases h
 |cons p r=>exact⟨p.1,p.2,qV.mp (by rw[e];exact bK)⟩
theorem RI(h:r∈aV l w):∃k x,Dir (bp k)/\(k=0\/k=1)/\r=bo (aO l w) (bp k) x:=by
 unfold aV kP iG at h
 rcases dR.mp h with h | h
 .obtain⟨c,_,e⟩:=cC.mp (da.mp h).1
  exact⟨0,c,.inl rfl,.inl rfl,e.symm⟩
 .obtain⟨c,_,e⟩:=cC.mp (da.mp h).1
  exact⟨1,c,.inr rfl,.inr rfl,e.symm⟩
theorem adR{q:List C2}(hr:r∈aV l w)(hq:q∈aV l w)(aT:r≠q){c1 c2:C2}(a1:c1∈r)(a2:c2∈r)(b1:c1∈q)(b2:c2∈q):c1=c2:=by
 obtain⟨k,x,D,hk,rfl⟩:=RI hr
 obtain⟨k',y,D',ku,rfl⟩:=RI hq
 by_cases e:k=k'
 .subst e
  exact absurd (by rw[OR D a1 b1]) aT
 .obtain⟨_,_,i1,_,rfl⟩:=pA a1
  obtain⟨_,_,i2,_,rfl⟩:=pA a2
  obtain⟨_,_,j1,_,e1⟩:=pA b1
  obtain⟨_,_,j2,_,e2⟩:=pA b2
  unfold go bp at *
  rw[mU] at e1 e2 ⊢
  dsimp only at e1 e2 ⊢
  rcases hk with rfl | rfl <;> rcases ku with rfl | rfl <;> simp at * <;> lia
noncomputable def rH:List Nat->List (List Nat)
 |[]=>[[]]
 |c::r=>(rH r).map (46 :: ·)++(rH r).map (c :: ·)
theorem RJ:∀l,(rH l).length=2 ^ l.length
 |[]=>rfl
 |c::r=>by
  rw[rH,d6,av,av,RJ r,eJ,Nat.pow_succ]
  lia
theorem RK:∀{y p:List Nat},p.length=y.length->(∀k,k<y.length->p.getD k 0=46\/p.getD k 0=y.getD k 0)->p∈rH y
 |[],[],_,_=>bK
 |c::y,d::p,h,k=>by
  have ih:=RK (y:=y) (p:=p) (Nat.succ.inj h) λi hi=>k (i+1) (Nat.succ_lt_succ hi)
  rw[rH,dR,cC,cC]
  rcases k 0 (Nat.succ_pos _) with z | z
  .exact .inl ⟨p,ih,by rw[show d=46 from z]⟩
  .exact .inr ⟨p,ih,by rw[show d=c from z]⟩
theorem DP{α β:Type}{f:α->List β}{B:Nat}:∀{l:List α},(∀x∈l,(f x).length<=B)->(l.flatMap f).length<=l.length*B
 |[],_=>bW _
 |a::r,h=>by
  have:=DP (l:=r) λx m=>h x (cW _ m)
  have:=h a bK
  rw[List.flatMap_cons,d6,eJ,lz]
  lia
def M9(ks:List Str)(t:Str):Prop := ∃y∈ks,∃p,cO y p=true/\∃j ch:Nat,j<10/\97<=ch/\ch<=122/\t.cps.toList=p.cps.toList.set j ch
theorem RL(dW:ks.length<64)(hw:∀x∈ks,eP x=true):zO (M9 ks):=by
 intro kl nd h
 have h1:kl.length<=((ks.flatMap λy=>(rH y.cps.toList).flatMap λp=>(List.range 10).flatMap λj=>(List.range 26).map λc=>p.set j (c+97)).map λr=>(Sum.inr ⟨r.toArray⟩:Key)).length:=by
  refine oU nd λk mk=>?_
  obtain⟨t,rfl,y,my,p,hf,j,ch,hj,h97,ag1,e⟩:=h k mk
  obtain⟨hl,hp⟩:=iI.mp hf
  refine cC.mpr ⟨t.cps.toList,Bb.mpr ⟨y,my,Bb.mpr ⟨p.cps.toList,RK (by rw[cV,cV,hl]) (λi hi=>hp i (by rw[cV] at hi;exact hi)),Bb.mpr ⟨j,ic.mpr hj,cC.mpr ⟨ch - 97,ic.mpr (by lia),?_⟩⟩⟩⟩,by simp⟩
  rw[e,show ch - 97+97=ch by lia]
 rw[av] at h1
 have h2:∀p:List Nat,((List.range 10).flatMap λj=>(List.range 26).map λc=>p.set j (c+97)).length<=260:=λp=>by
  have:=DP (l:=List.range 10) (f:=λj=>(List.range 26).map λc=>p.set j (c+97)) (B:=26) λj _=>by rw[av,i5];exact aQ _
  rw[i5] at this
  exact this
 have h3:=DP (l:=ks) (f:=λy=>(rH y.cps.toList).flatMap λp=>(List.range 10).flatMap λj=>(List.range 26).map λc=>p.set j (c+97)) (B:=512*260) λy my=>by
  refine bL (DP (B:=260) λp _=>h2 p) (E3 _ ?_)
  rw[RJ,cV]
  have:=Ig (hw y my)
  exact bL (Nat.pow_le_pow_right (by decide) (show y.length<=9 by lia)) (by decide)
 have h4:ks.length*(512*260)<=63*(512*260):=E3 _ (by lia)
 exact lr (bL h1 (bL h3 h4)) (by decide)
theorem RM{k:Nat}(F:cP m w R)(hx:jR x)(eQ:x∈ks)(uk:cO x (ax m (ai R pl))=true)(aL:pl<R.length)(hi:i<R.length)(hy:∃y∈ks,cO y (ax m (ai R i))=true):M9 ks (ax (putL m ((ai R pl).take k) (x.cps.toList.take k)) (ai R i)):=by
 have hq:ai R pl∈aV m w:=by rw[F.eq];exact pH aL
 have hr:ai R i∈aV m w:=by rw[F.eq];exact pH hi
 have cI:∀c∈(ai R pl).take k,c.1<m.length/\c.2<w:=λc mc=>F.jQ pl c (Bd mc)
 have G:=F.sh.kO
 have nq:=F.good.nd pl
 have nr:=F.good.nd i
 have l9:=(mB F.sh hr).2.1
 obtain⟨fQ,hxm⟩:=iI.mp uk
 rw[fu] at fQ
 have RN:∀{a:Nat}{d:C2},((ai R pl).take k)[a]? = some d->∃ch,x.cps.toList[a]? = some ch/\sg (putL m ((ai R pl).take k) (x.cps.toList.take k)) d=ch:=λ{a d} ha=>by
  have h1:=(bR.mp ha).1
  rw[ij] at h1
  have e:x.cps.toList[a]? = some (x.cps.toList[a]'(by rw[cV];lia)):=bt _
  exact⟨_,e,wL G _ _ cI (nq.sublist (AS _ _)) ha (by rw[u6 (by lia)];exact e)⟩
 have JY:∀{d:C2},d∈ai R i->d∉(ai R pl).take k->sg (putL m ((ai R pl).take k) (x.cps.toList.take k)) d=sg m d:=λ{d} md hd=>by
  have:=F.jQ i d md
  exact ug G _ _ cI this.1 this.2 hd
 have RO:∀p:Str,p.length<=9->p.cps.toList=p.cps.toList.set 9 97:=λp hp=>(List.set_eq_of_length_le (by rw[cV];exact hp)).symm
 by_cases e:ai R i=ai R pl
 .refine⟨x,eQ,_,iI.mpr ⟨by rw[fu,e];exact fQ,λa ha=>?_⟩,9,97,by decide,by decide,by decide,RO _ (by rw[fu];exact l9)⟩
  rw[e]
  have hd:(ai R pl)[a]? = some ((ai R pl)[a]'(by lia)):=bt _
  rw[cE (iV hd)]
  by_cases hak:a<k
  .obtain⟨ch,h1,h2⟩:=RN (a:=a) (by rw[u6 hak];exact hd)
   rw[h2,cE h1]
   exact .inr rfl
  .rw[JY (by rw[e];exact bM hd) λz=>?_,<-cE (d:=0) (iV (m:=m) hd)]
   .exact hxm a ha
   .obtain⟨b,hb⟩:=eS z
    have tI:=(bR.mp hb).1
    rw[ij] at tI
    rw[u6 (by lia)] at hb
    have:=wJ nq hb hd
    lia
 .obtain⟨y,my,RP⟩:=hy
  by_cases hc:∃d,d∈ai R i/\d∈(ai R pl).take k
  .obtain⟨d,jV,hd2⟩:=hc
   obtain⟨j,hj⟩:=eS jV
   obtain⟨a,ha⟩:=eS hd2
   obtain⟨ch,h1,h2⟩:=RN ha
   have hl:=hx ch (bM h1)
   have uf:=(bR.mp hj).1
   refine⟨y,my,_,RP,j,ch,by lia,hl.1,hl.2,?_⟩
   apply i6
   intro b
   rw[iH,iH,bF,List.getElem?_set,av]
   by_cases JZ:j=b
   .subst JZ
    rw[aC rfl,aC uf,hj]
    show some _=_
    rw[h2]
   .rw[au JZ,bF]
    cases hb:(ai R i)[b]? with
    |none=>rfl
    |some c=>
     show some _=some _
     rw[JY (bM hb) λz=>?_]
     have:=adR hr hq e jV (bM hb) (Bd hd2) (Bd z)
     rw[<-this] at hb
     exact JZ (wJ nr hj hb)
  .refine⟨y,my,_,RP,9,97,by decide,by decide,by decide,?_⟩
   rw[<-RO _ (by rw[fu];exact l9),iH,iH]
   exact List.map_congr_left λd md=>JY md λz=>hc ⟨d,md,z⟩
noncomputable def mP(l:List Str):List Str:=l.reverse.map lY
theorem J0(x:Str):(lY x).cps.toList=x.cps.toList.reverse:=by simp[lY]
theorem adS(x:Str):(lY x).length=x.length:=by rw[<-cV,J0,ET,cV]
theorem DQ(l:List Str):(mP l).length=l.length:=by simp[mP]
theorem RQ(S:bH l w):bH (mP l) w:=by
 refine⟨by rw[DQ];exact S.one,by rw[DQ];exact S.nine,S.w1,S.w9,λx m=>?_,λx m c mc=>?_⟩
 .obtain⟨y,hy,rfl⟩:=cC.mp m
  rw[adS,S.len y (LO.mp hy)]
 .obtain⟨y,hy,rfl⟩:=cC.mp m
  rw[J0] at mc
  exact S.ok y (LO.mp hy) c (LO.mp mc)
theorem adT(hi:i<l.length):(mP l)[i]? = (l[l.length - 1 - i]?).map lY:=by
 unfold mP
 rw[bF,ES hi]
theorem RS(S:bH l w){j:Nat}(hi:i<l.length)(hj:j<w):sg (mP l) (i,j)=sg l (l.length - 1 - i,w - 1 - j):=by
 obtain⟨x,hx,mx,lx,tT,jx⟩:=S.row (i:=l.length - 1 - i) (by lia)
 obtain⟨y,hy,my,ly,P5,jy⟩:=(RQ S).row (i:=i) (by rw[DQ];exact hi)
 rw[adT hi,hx] at hy
 cases hy
 have h1:=jy j hj
 rw[J0,ES (by lia),tT,jx (w - 1 - j) (by lia)] at h1
 exact(dh h1).symm
section
variable{w:World}
theorem RT{β:Type}{f:Nat->β}:∀{l:List Nat}{ys:List β},Paired (λi y=>y=f i) l ys->ys=l.map f
 |_,_,.nil=>rfl
 |_,_,.cons h t=>by rw[cF,<-RT t,h]
theorem adU{β:Type}(g:α->β)(d:α)(l:List α):(List.range l.length).map (λi=>g (l.getD i d))=l.map g:=by
 apply i6
 intro i
 rw[bF,bF]
 by_cases h:i<l.length
 .rw[rY h,bt h,i0,i0,cz,bt h,qi]
 .rw[di (by simpa using h),di (by simpa using h)]
  rfl
def RU(K:Frag):Sp:=λvs H Q _=>∃(a:Addr) (l:List Str) (w:Nat),vs=[.ref a]/\aA K H a (l.map V.str)/\bH l w/\∀t H',H t=none->ag H H'->H' t=some (.tup ((mP l).map V.str))->Q (.ref t) H'
theorem adV:bu ["sheet"] ["sheet"] (aN (top 23)):={}
theorem adW(B:Bl mg)(F:aZ K "turned" "turned" (top 23) f fd):aK P w K mg base aS 1 f fd ["sheet"] (RU K):=by
 refine F.bU adV λaF A outer s H vs Q E hr h=>?_
 refine hide λG_ aG=>?_
 obtain⟨a,l,wd,rfl,hT,S,q⟩:=h
 refine aG.k ?_
 have h9:=S.nine
 have hw:=S.w9
 refine⟨_,(aB (bg (m5 BE (by rfl) B.zc yp (af (jg (js:=[]) (ns:=[]) (Xt (by rfl) B.aax (af (pv 0) aj)) rfl rfl rfl rfl (λ_ _ _ _=>lU) (λ_ _ _ _=>(Xw (pv 0) (Bq Bs aI)))) aj)))),?_⟩
 try dsimp only[bJ]
 refine⟨_,rfl,a,_,rfl,hT,comp_map Xu (by rw[ET,av];lia) (λ_ i y _=>y = .str (lY (l.reverse.getD i ⟨#[]⟩))) (λH2 s2=>s2.tup hT) (λ_ _ _ _ _ _ _ _ h=>h) ?_ ?_⟩
 .intro D i x H2 Z hD hx s2 _ k1
  rw[<-List.map_reverse,bF] at hx
  cases e:l.reverse[i]? with
  |none=>rw[e] at hx;cases hx
  |some z=>
   rw[e] at hx
   cases hx
   have mz:=S.len z (LO.mp (bM e))
   exact⟨_,rfl,_,rfl,z,rfl,rfl,kL (by lia),k1 _ _ (ag.dM _) (by rw[cE e])⟩
 .intro D ys H2 hD bO s2 pr
  have e:=RT pr
  rw[ET,av,<-ET (as:=l),adU (λz=>V.str (lY z))] at e
  refine⟨D,_,rfl,.inl ⟨aq.of bO,λt ht=>?_⟩⟩
  refine q t _ (s2.free ht) (s2.trans (ag.upd ht)) ?_
  rw[ao,e]
  unfold mP
  rw[mV]
  rfl
end
def Rz(C:Addr)(name:Str)(v:V)(E:XK)(H:Hp):Prop := ∀e dx H',ag H H'->H' e=some (ji C dx e)->H' dx=some (.xd [(name,v)])->E (.ref C) (some e) H'
theorem RV{name:Str}(s:ag H H1)(h:Rz C name v E H):∃v',[v]=[v']/\∀e dx,H1 e=none->H1 dx=none->dx≠e->E (.ref C) (some e) (upd (upd H1 dx (.xd [(name,v')])) e (ji C dx e)):=
 ⟨v,rfl,λe dx he hd aT=>h e dx _ (s.trans ((ag.upd hd).trans (ag.upd (by rw[ak (aP aT)];exact he)))) ao (by rw[ak aT,ao])⟩
def xq(C:Addr)(E:XK)(H:Hp):Prop := ∀e H',ag H H'->H' e=some (iR C none e)->E (.ref C) (some e) H'
theorem xq.mono(s:ag H H1)(h:xq C E H):xq C E H1:=λe H' s' he=>h e H' (s.trans s') he
theorem adX(s:ag H H1)(h:xq C E H):∃v',[v]=[v']/\∀e,H1 e=none->E (.ref C) (some e) (upd H1 e (iR C none e)):=⟨v,rfl,λe he=>h e _ (s.trans (ag.upd he)) ao⟩
noncomputable def kc(c:C2):List Key:=[Sum.inl (c.1:Int),Sum.inl (c.2:Int)]
theorem adY{d:C2}(h:kc c=kc d):c=d:=by
 unfold kc at h
 injection h with h1 h2
 injection h2 with h2 _
 injection h1 with h1
 injection h2 with h2
 exact E6.mpr ⟨by lia,by lia⟩
def nT(kvs:List (List Key×V))(g:C2->Nat):Prop := ∀c,aM kvs (kc c)=if g c=0 then none else some (.int (g c))
theorem nT.get(h:nT kvs g)(c:C2):(aM kvs (kc c)).getD (.int 0) = .int (g c):=by
 rw[h c]
 split
 .rename_i e;rw[e];rfl
 .rfl
theorem nT.put{g':C2->Nat}(h:nT kvs g)(c:C2)(e1:g' c=g c+1)(e2:∀x,x≠c->g' x=g x):nT (putK kvs (kc c) (.int ((g c:Int)+1))) g':=by
 intro x
 rw[oE]
 by_cases e:x=c
 .subst e
  rw[aC rfl,au (by lia),e1]
  rfl
 .rw[au (λz=>e (adY z)),h x,e2 x e]
theorem RW(c:C2):dP c []=0:=rfl
theorem RX(c:C2)(rs:List (Nat×List C2))(q:Nat×List C2):dP c (rs++[q])=dP c rs+q.2.count c:=by
 unfold dP
 rw[fG,List.sum_append,cF,n8]
 rfl
theorem Az{α:Type}{p:α->Bool}:∀{l:List α}{i:Nat}{c:α},l[i]? = some c->p c=true->(∀(j:Nat) (x:α),j<i->l[j]? = some x->p x=false)->l.find? p=some c
 |[],_,_,h,_,_=>by simp at h
 |y::r,0,c,h,hp,_=>by
  have h:y=c:=by simpa using h
  rw[h,List.find?_cons_of_pos hp]
 |y::r,i+1,c,h,hp,hj=>by
  have h0:=hj 0 y (Nat.succ_pos _) rfl
  rw[List.find?_cons_of_neg (by rw[h0];exact cy)]
  exact Az (i:=i) (by simpa using h) hp λj x q e=>hj (j+1) x (by lia) (by simpa using e)
theorem DR{p:α->Bool}{l:List α}(h:∀(j:Nat) (x:α),l[j]? = some x->p x=false):l.find? p=none:=by
 rw[List.find?_eq_none]
 intro x hx
 obtain⟨j,hj⟩:=eS hx
 rw[h j x hj]
 exact cy
noncomputable def nU(l:List Str)(c:C2):Bool := !cN (mP l) c
noncomputable def iw(l:List Str)(w:Nat)(c:C2):Bool:=decide (dP c (dy l w)<2)
noncomputable def fA(l:List Str)(w:Nat):Option C2:=((bZ l w).find? (nU l)).or ((bZ l w).find? (iw l w))
section
variable{w:World}
theorem adZ:bu ["self","cell"] ["self","cell"] (aN (inClass (top 4) 0)):={}
theorem ad0{CE:Addr}(hX:XC K C CE fI "cell")(J1:XE K CE)(ad1:mg "CrossError"=some (.ref CE))(F:aZ K "__init__" "NoFloor.__init__" (inClass (top 4) 0) f fd):aK P w K mg base aS 1 f fd ["self","cell"] (ZS C "cell"):=by
 have hXc:=hX.cls
 refine F.bU adZ λaF A outer s H vs Q E hr h=>?_
 obtain⟨e,v,rfl,he,q⟩:=h
 refine⟨_,(az (dZ (Zv hXc J1 (by rfl) ad1 (af (pv 0) (af fW aj))))
  (aB (Zx hX (pv 0) (pv 1) rfl))),?_⟩
 try dsimp only[bJ]
 exact⟨_,rfl,e,_,rfl,he,_,rfl,_,rfl,e,rfl,he,q⟩
def RY(K:Frag):Sp:=λvs H Q _=>∃(a:Addr) (l:List Str) (w:Nat),vs=[.ref a]/\aA K H a (l.map V.str)/\bH l w/\
 ∀p kvs H',H p=none->ag H H'->H' p=some (.dT kvs)->nT kvs (λc=>dP c (dy l w))->Q (.ref p) H'
theorem DS:bu ["sheet","counts","row","cell"] ["sheet"] (aN (top 32)):={}
theorem ad2(F:aZ K "rows_through" "rows_through" (top 32) f fd)(ur:Fn P w K mg base "rows_of" 5 (zm K)):aK P w K mg base aS 6 f fd ["sheet"] (RY K):=by
 refine F.bU DS λaF A outer s H vs Q E hr h=>?_
 refine hide λG_ aG=>?_
 obtain⟨a,l,wd,rfl,hT,S,q⟩:=h
 refine aG.k ?_
 have cX:=iy hr
 have hrl:=tX S
 refine⟨_,(az (aX 1 DS.nd FY)
  (az (dJ (eD (bD ur hr (af (pv 0) aj))) (cD 2 DS.nd)
  (aB (dJ (Fu (bG cY (pv 2) aI)) (cD 3 DS.nd)
   (aB (vM cX (pv 1) (pv 3) (bz gC (BK cX (pv 1) (pv 3) aI ⟨rfl,rfl,rfl,rfl⟩) aI) rfl)))))
  (aB (bg (pv 1))))),?_⟩
 try dsimp only[bJ]
 intro p hp
 have dX:ag H (upd H p (.dT [])):=ag.upd hp
 have gH:upd H p (.dT []) p=some (.dT []):=ao
 generalize upd H p (.dT [])=H0 at dX gH
 refine⟨_,rfl,a,l,wd,rfl,dX.tup hT,S,λg xa xd H1 hg s1 hL rA rD=>⟨g,rfl,⟨_,aq.of hL⟩,?_⟩⟩
 have rB:=HX rA rD
 have Q4:=rB.length
 have jV:=s1 _ _ gH
 refine ke (xs:=xa++xd) (λi O H2=>∃v2 v3 kvs,O=[some (.ref a),some (.ref p),v2,v3]/\(∀b o,b≠p->H1 b=some o->H2 b=some o)/\H2 p=some (.dT kvs)/\kvs.length<=10*i/\nT kvs (λc=>dP c ((dy l wd).take i)))
  ⟨none,none,[],rfl,λ_ _ _ z=>z,jV,aQ _,λc=>by rw[mS,aC (RW c)];rfl⟩ ?_ ?_ ?_
 .rintro i O H2 _ ⟨v2,v3,kvs,rfl,off,_⟩
  exact aq.of (off _ _ (bS hL jV (by intro z;cases z)) hL)
 .intro i x O H2 hx ad3
  refine hide λG_ bw=>?_
  obtain⟨v2,v3,kvs,rfl,off,hd,kq,hC⟩:=ad3
  have hi:i<(xa++xd).length:=(bR.mp hx).1
  obtain⟨row,hq,way,aa,t,DT,rfl,g1,g2,g3⟩:=Paired.get rB hx
  refine bw.k ?_
  have cI:=HW (bM hq)
  have DU:∀b o,H1 b=some (.tup o)->b≠p:=λb o z=>bS z jV (by intro y;cases y)
  have GA:=off _ _ (DU _ _ g2) g2
  have hxs:=g3.length
  refine⟨_,rfl,aa,_,2,.ref t,rfl,rfl,aA.of (off _ _ (DU _ _ g1) g1),rfl,t,rfl,⟨_,aA.of GA⟩,?_⟩
  have nG:(dy l wd).take (i+1)=(dy l wd).take i++[row]:=by rw[ik,hq];rfl
  refine Xc Nv (λj O H3=>∃v3 kvs,O=[some (.ref a),some (.ref p),some (.ref aa),v3]/\(∀b o,b≠p->H1 b=some o->H3 b=some o)/\H3 p=some (.dT kvs)/\kvs.length<=10*i+j/\nT kvs (λc=>dP c ((dy l wd).take i)+(row.2.take j).count c))
   ⟨v3,kvs,rfl,off,hd,kq,λc=>by simp only[mS,List.count_nil,Nat.add_zero];exact hC c⟩ (λj O H3 _ ⟨_,_,_,fR,_⟩=>aA.of (fR _ _ (DU _ _ g2) g2)) ?_ ?_
  .intro j x O H3 J2 ad4
   refine hide λG_ cq=>?_
   obtain⟨v3,uN,rfl,fR,gb,J3,gJ⟩:=ad4
   obtain⟨c,hc,b,rfl,hb⟩:=Paired.get g3 J2
   refine cq.k ?_
   have hj:j<row.2.length:=(bR.mp hc).1
   have AA:H3 b=some (.tup ((kc c).map kV)):=fR _ _ (DU _ _ hb) hb
   refine⟨_,rfl,p,rfl,.inr ⟨uN,.inl gb⟩,_,rfl,_,dQ.t gb AA,?_⟩
   rw[gJ.get c]
   refine⟨_,_,rfl,rfl,_,rfl,_,rfl,p,_,rfl,kf.t gb AA (ki (by lia)),?_⟩
   refine⟨_,_,rfl,λb' o ir z=>by rw[ak ir];exact fR b' o ir z,ao,bL (sT _ _ _) (by lia),?_⟩
   have et:row.2.take (j+1)=row.2.take j++[c]:=by rw[ik,hc];rfl
   refine gJ.put c ?_ λx nA=>?_
   .rw[et,LP,List.count_singleton_self]
    lia
   .rw[et,LP,(LL (l:=[c])).mpr (by simpa using nA),Nat.add_zero]
  .intro O H3 ad5
   refine hide λG_ dE=>?_
   obtain⟨v3,uN,rfl,fR,gb,J3,gJ⟩:=ad5
   refine dE.k ?_
   refine⟨_,_,uN,rfl,fR,gb,by lia,λc=>?_⟩
   have:=gJ c
   dsimp only at this ⊢
   rw[gs (l:=row.2) (i:=DT.length) (by lia)] at this
   have e9:dP c ((dy l wd).take (i+1))=dP c ((dy l wd).take i)+row.2.count c:=by rw[nG,RX]
   rw[this]
   simp only[e9]
 .intro O H2 ad6
  refine hide λG_ hU=>?_
  obtain⟨v2,v3,kvs,rfl,off,hd,kq,hC⟩:=ad6
  refine hU.k ?_
  rw[gs (by lia)] at hC
  refine⟨_,rfl,q p kvs H2 hp (λb o z=>off b o (bh z hp) (s1 _ _ (dX _ _ z))) hd hC⟩
def DV(K:Frag)(C:Addr):Sp:=λvs H Q E=>∃(a:Addr) (l:List Str) (w:Nat),vs=[.ref a]/\aA K H a (l.map V.str)/\bH l w/\
 (∀c b H1,fA l w=some c->ag H H1->H1 b=some (.tup [.int (c.1:Nat),.int (c.2:Nat)])->Rz C "cell" (.ref b) E H1)/\(fA l w=none->∀H',ag H H'->Q .aw H')
theorem xt:bu ["sheet","about","cells","cell","counts"] ["sheet"] (aN (top 31)):={}
theorem ad7{CE:Addr}(F:aZ K "need_floor" "need_floor" (top 31) f fd)(ad8:Fn P w K mg base "turned" 1 (RU K))(zo:Fn P w K mg base "open_cells" 3 (Cp K))(zh:Fn P w K mg base "is_open" 2 (Ck K))
  (ad9:Fn P w K mg base "rows_through" 6 (RY K)) (DW:Rs P w K mg base "NoFloor" "cell" C CE 1):aK P w K mg base (eN P w) 7 f fd ["sheet"] (DV K C):=by
 refine F.wa xt (λvs H Q E h=>?_) (λaF A outer s H vs Q E hr h=>?_)
 .obtain⟨a,l,w,rfl,_⟩:=h
  rfl
 .refine hide λG_ aG=>?_
  obtain⟨a,l,wd,rfl,hT,S,hz,q⟩:=h
  refine aG.k ?_
  have cX:=iy hr
  refine⟨_,(az (aX 1 xt.nd (bD ad8 hr (af (pv 0) aj)))
   (az (aX 2 xt.nd (bD zo hr (af (pv 0) aj)))
   (az (dJ (eD (pv 2)) (cD 3 xt.nd)
   (aB (cn (j8 (jE (bD zh hr (af (pv 1) (af (pv 3) aj)))))
    (aB (OG DW (hr.mono (by decide)) rfl (by rfl) (af (pv 3) aj)))
    cH)) (Hd rfl rfl))
   (az (aX 4 xt.nd (bD ad9 hr (af (pv 0) aj)))
   (aB (dJ (eD (pv 2)) (cD 3 xt.nd)
   (aB (cn (cK qv (BK cX (pv 4) (pv 3) aI ⟨rfl,rfl,rfl,rfl⟩) aI)
    (aB (OG DW (hr.mono (by decide)) rfl (by rfl) (af (pv 3) aj)))
    cH)) (Hd rfl rfl))))))),?_⟩
  try dsimp only[bJ]
  refine⟨_,rfl,a,l,wd,rfl,hT,S,λt H1 ht s1 hTt=>?_⟩
  refine⟨_,rfl,a,l,wd,rfl,s1.tup hT,S,λp xs H2 hp s2 hL hC=>?_⟩
  have mK:=s1.trans s2
  have AB:=hC.length
  refine⟨_,rfl,p,rfl,⟨_,aq.of hL⟩,ke (xs:=xs) (λi O H3=>∃v3,O=[some (.ref a),some (.ref t),some (.ref p),v3,none]/\H3=H2/\∀j c,j<i->(bZ l wd)[j]? = some c->nU l c=false)
   ⟨none,rfl,rfl,λj c z=>absurd z (jz _)⟩ (λi O H3 _ ⟨_,_,e,_⟩=>by rw[e];exact aq.of hL) ?_ ?_⟩
  .intro i x O H3 hx aea
   refine hide λG_ bw=>?_
   obtain⟨v3,rfl,rfl,fY⟩:=aea
   obtain⟨c,hc,b,rfl,hb⟩:=Paired.get hC hx
   obtain⟨m1,m2⟩:=tS (da.mp (bM hc)).1
   refine bw.k ?_
   refine⟨_,rfl,_,rfl,t,b,mP l,wd,c,rfl,aA.of (s2 _ _ hTt),RQ S,aA.of hb,by rw[DQ];exact m1,m2,_,rfl,?_⟩
   cases ho:cN (mP l) c with
   |true=>
    refine bj ⟨_,rfl,rfl,λj x hj e=>?_⟩
    rcases r6.mp hj with z | z
    .exact fY j x z e
    .rw[z,hc] at e
     cases e
     unfold nU
     rw[ho]
     rfl
   |false=>
    refine bA ⟨_,rfl,RV (ag.dM _) (hz c b _ ?_ mK hb)⟩
    unfold fA
    rw[Az hc (by unfold nU;rw[ho];rfl) fY]
    rfl
  .rintro O H3 ⟨v3,rfl,rfl,fY⟩
   have iN:(bZ l wd).find? (nU l)=none:=DR λj x e=>fY j x (by rw[<-AB];exact(bR.mp e).1) e
   refine⟨_,rfl,a,l,wd,rfl,mK.tup hT,S,λd kvs H4 gH s4 hd xu=>?_⟩
   have ub:=s4 _ _ hL
   refine⟨_,rfl,p,rfl,⟨_,aq.of ub⟩,ke (xs:=xs) (λi O H5=>∃v3,O=[some (.ref a),some (.ref t),some (.ref p),v3,some (.ref d)]/\H5=H4/\∀j c,j<i->(bZ l wd)[j]? = some c->iw l wd c=false)
    ⟨v3,rfl,rfl,λj c z=>absurd z (jz _)⟩ (λi O H5 _ ⟨_,_,e,_⟩=>by rw[e];exact aq.of ub) ?_ ?_⟩
   .intro i x O H5 hx aeb
    refine hide λG_ cq=>?_
    obtain⟨v3,rfl,rfl,pW⟩:=aeb
    obtain⟨c,hc,b,rfl,hb⟩:=Paired.get hC hx
    refine cq.k ?_
    have DX:H5 b=some (.tup ((kc c).map kV)):=s4 _ _ hb
    refine⟨_,rfl,d,rfl,.inr ⟨kvs,.inl hd⟩,_,rfl,_,dQ.t hd DX,?_⟩
    rw[xu.get c]
    refine⟨_,_,rfl,rfl,_,rfl,?_⟩
    by_cases h2:dP c (dy l wd)<2
    .rw[aU (by lia)]
     refine bA ⟨_,rfl,RV (ag.dM _) (hz c b _ ?_ (mK.trans s4) DX)⟩
     unfold fA
     rw[iN,Az hc (by unfold iw;exact aU h2) pW]
     rfl
    .rw[bf (by lia)]
     refine bj ⟨_,rfl,rfl,λj x hj e=>?_⟩
     rcases r6.mp hj with z | z
     .exact pW j x z e
     .rw[z,hc] at e
      cases e
      unfold iw
      exact bf h2
   .rintro O H5 ⟨v3,rfl,rfl,pW⟩
    refine q ?_ _ (mK.trans s4)
    unfold fA
    rw[iN,DR λj x e=>pW j x (by rw[<-AB];exact(bR.mp e).1) e]
    rfl
end
theorem Ka(S:bH l w)(h:fA l w=none):wI l w/\abN l w:=by
 unfold fA at h
 obtain⟨h1,h2⟩:=Option.or_eq_none_iff.mp h
 rw[List.find?_eq_none] at h1 h2
 have ho:∀c:C2,c.1<l.length->c.2<w->sg l c≠35->sg l (l.length - 1 - c.1,w - 1 - c.2)≠35:=λc c1 c2 hc=>by
  have:=h1 c (Cg (by rw[wt c1 c2];unfold cN;rw[bf hc];rfl))
  unfold nU cN at this
  rw[show c=(c.1,c.2) from rfl,RS S c1 c2] at this
  simpa using this
 refine⟨λc hc=>?_,λc c1 c2=>⟨λz=>?_,λz=>?_⟩⟩
 .have a:=h2 c (Cg hc)
  unfold iw at a
  have a:¬dP c (dy l w)<2:=λz=>a (aU z)
  rw[Iy,Hv S,Hw S] at a ⊢
  split at a <;> split at a <;> simp_all
 .refine E2 λy=>?_
  have:=ho (l.length - 1 - c.1,w - 1 - c.2) (by show l.length - 1 - c.1<_;lia) (by show w - 1 - c.2<w;lia) y
  dsimp only at this
  rw[show l.length - 1 - (l.length - 1 - c.1)=c.1 by lia,show w - 1 - (w - 1 - c.2)=c.2 by lia] at this
  exact this z
 .exact E2 λy=>ho c c1 c2 y z
theorem RZ(S:bH l w)(T:wI l w)(hc:aO l w c=true):4<=(aV l w).length:=by
 have side:∀{c:C2},aO l w c=true->jl (aO l w) (0,1) c=true/\jl (aO l w) (1,0) c=true:=λ{c} h=>by
  have:=T c h
  rw[Iy,Hv S,Hw S] at this
  split at this <;> split at this <;> simp_all
 have kK:∀{c:C2},aO l w c=true->∃x,c∈bo (aO l w) (bp 0) x/\bo (aO l w) (bp 0) x∈aV l w:=λ{c} h=>by
  obtain⟨x,hx,hm⟩:=Ht (.inl rfl) (Ci S) (side h).1
  refine⟨x,hm,?_⟩
  unfold aV kP iG
  have hb:=qN hx
  refine j0 _ (da.mpr ⟨r8 ?_,by cases e:bo (aO l w) (bp 0) x with | nil=>rw[show(bp 0)=(0,1) from rfl] at e;rw[e] at hm;cases hm | cons _ _=>rfl⟩)
  rw[gs (by rw[mf];exact aQ _)]
  exact Hm hb.1 hb.2.1
 have jO:∀{c:C2},aO l w c=true->∃x,c∈bo (aO l w) (bp 1) x/\bo (aO l w) (bp 1) x∈aV l w:=λ{c} h=>by
  obtain⟨x,hx,hm⟩:=Ht (.inr rfl) (Ci S) (side h).2
  refine⟨x,hm,?_⟩
  unfold aV kP iG
  have hb:=qN hx
  refine ie _ (da.mpr ⟨r8 ?_,by cases e:bo (aO l w) (bp 1) x with | nil=>rw[show(bp 1)=(1,0) from rfl] at e;rw[e] at hm;cases hm | cons _ _=>rfl⟩)
  rw[gs (by rw[mf];exact aQ _)]
  exact Hm hb.1 hb.2.1
 have DY:∀{x c:C2},c∈bo (aO l w) (bp 0) x->c.1=x.1:=λh=>by
  obtain⟨_,_,k,_,rfl⟩:=pA h
  simp[go,bp]
 have DZ:∀{x c:C2},c∈bo (aO l w) (bp 1) x->c.2=x.2:=λh=>by
  obtain⟨_,_,k,_,rfl⟩:=pA h
  simp[go,bp]
 obtain⟨d,hd,d1,d2⟩:=abT (side hc).1
 obtain⟨e,he,e1,e2⟩:=abU (side hc).2
 obtain⟨xc,ac,rc⟩:=kK hc
 obtain⟨xe,ae,re⟩:=kK he
 obtain⟨yc,bc,qc⟩:=jO hc
 obtain⟨yd,bd,qd⟩:=jO hd
 have n1:bo (aO l w) (bp 0) xc≠bo (aO l w) (bp 0) xe:=λz=>by
  rw[<-z] at ae
  exact e2 ((DY ae).trans (DY ac).symm)
 have n2:bo (aO l w) (bp 1) yc≠bo (aO l w) (bp 1) yd:=λz=>by
  rw[<-z] at bd
  exact d2 ((DZ bd).trans (DZ bc).symm)
 have two:∀{x y:C2},(bo (aO l w) (bp 0) x).Nodup->bo (aO l w) (bp 0) x∈aV l w->bo (aO l w) (bp 0) x≠bo (aO l w) (bp 1) y:=λ{x y} nd hr z=>by
  have h2:=(mB S hr).1
  have m0:=j5 (l:=bo (aO l w) (bp 0) x) (n:=0) (by lia)
  have m1:=j5 (l:=bo (aO l w) (bp 0) x) (n:=1) (by lia)
  have p0:=DY m0
  have p1:=DY m1
  have q0:=DZ (x:=y) (by rw[<-z];exact m0)
  have q1:=DZ (x:=y) (by rw[<-z];exact m1)
  have:=wJ nd (bt (i:=0) (by lia)) ((bt (i:=1) (by lia)).trans (eX some (Prod.ext (p1.trans p0.symm) (q1.trans q0.symm))))
  cases this
 have nd:∀{x:C2},(bo (aO l w) (bp 0) x).Nodup:=Cf (.inl rfl)
 have:=oU (l:=[bo (aO l w) (bp 0) xc,bo (aO l w) (bp 0) xe,bo (aO l w) (bp 1) yc,bo (aO l w) (bp 1) yd]) (m:=aV l w) (by
  simp only[ig,cx,fU,n6,not_or,i4,and_true]
  exact⟨⟨n1,two nd rc,two nd rc⟩,⟨two nd re,two nd re⟩,n2,λz=>z⟩) (λr mr=>by
  simp only[cx,fU,n6] at mr
  rcases mr with rfl | rfl | rfl | rfl
  .exact rc
  .exact re
  .exact qc
  .exact qd)
 exact this
section
variable{w:World}
def R0(K:Frag)(C:Addr):Sp:=λvs H Q _=>∃(p d a:Addr) (kvs:List (Key×V)) (l:List Str) (w:Nat),vs=[.ref p,.ref a]/\gL C H p d kvs/\aA K H a (l.map V.str)/\bH l w/\
 ∀H',ag H H'->Q (.bl (dF (aJ kvs) l w)) H'
theorem D0:bu ["book","sheet","seen","row","word"] ["book","sheet"] (aN (top 35)):={}
theorem aec(F:aZ K "is_filling" "is_filling" (top 35) f fd)(Kb:Fn P w K mg base "free_cells" 3 (Ib K))(ur:Fn P w K mg base "rows_of" 5 (zm K))(Jn:Fn P w K mg base "pattern" 2 (Ia K))(Kc:Mt P w K mg base C "has" 1 (Pr C) []):aK P w K mg base aS 6 f fd ["book","sheet"] (R0 K C):=by
 refine F.bU D0 λaF A outer s H vs Q E hr h=>?_
 refine hide λG_ aG=>?_
 obtain⟨p,d,a,kvs,l,wd,rfl,hB,hT,S,q⟩:=h
 have cX:=iy hr
 obtain⟨⟨dx,nv⟩,hdc,dw,uz⟩:=id hB
 refine aG.k ?_
 refine⟨_,(az (cn (ot (bD Kb hr (af (pv 1) aj)) (by intro _;rfl))
  (aB (bg jc))
  cH)
  (az (aX 2 D0.nd BJ)
  (az (dJ (eD (bD ur hr (af (pv 1) aj))) (cD 3 D0.nd)
  (az (aX 4 D0.nd (bD Jn hr (af (pv 1) (af (bG cY (pv 3) aI) aj))))
   (az (cn (PW.pt (qt (xR (BH cX (pv 4) (pv 2))) (sk (j8 (jE (kj Kc hr (pv 0) (af (pv 4) aj)))))))
   (aB (bg jc))
   cH)
   (aB (vM cX (pv 2) (pv 4) jc rfl)))))
  (aB (bg jc))))),?_⟩
 try dsimp only[bJ]
 refine⟨_,rfl,a,l,wd,rfl,hT,S,λfp xs H1 hfp s1 hL hC=>⟨_,.inl ⟨xs,aq.of hL,rfl⟩,?_⟩⟩
 have Kd:xs.isEmpty = !eW l:=by
  rw[<-P4 S]
  have:=gR hC
  cases xs with
  |nil=>rw[List.length_eq_zero_iff.mp this];rfl
  |cons y r=>
   cases z:dm l wd with
   |nil=>rw[z] at this;cases this
   |cons _ _=>rfl
 rw[Kd,Bool.not_not]
 refine iz (λfS=>?_) (λfS=>?_)
 .have e:dF (aJ kvs) l wd=false:=il.mpr λe=>by rw[(zL e).1] at fS;cases fS
  rw[e] at q
  exact q H1 s1
 .have fS:=il.mpr fS
  intro sd Ke
  have t1:=s1.trans (ag.upd (o:=HO.dK []) Ke)
  have aed:=s1.free Ke
  refine⟨_,rfl,a,l,wd,rfl,t1.tup hT,S,λg tV ys H2 hg s2 Kf hA hD=>⟨g,rfl,⟨_,aq.of Kf⟩,?_⟩⟩
  have AD:H2 sd=some (.dK []):=s2 _ _ ao
  have t2:=t1.trans s2
  have hR:=HX hA hD
  have hlr:=gR hR
  have mC:=tX S
  have htl:=abQ l wd
  clear hA hD s2 t1 Ke hL hC
  have ngs:g≠sd:=bS Kf AD (by intro z;cases z)
  refine ke (xs:=tV++ys) (λi O H3=>∃(v3 v4:Option V) (pX:List (Key×V)),O=[some (.ref p),some (.ref a),some (.ref sd),v3,v4]/\ag H H3/\(∀b o,b≠sd->H2 b=some o->H3 b=some o)/\H3 sd=some (.dK pX)/\lZ pX/\aJ pX=(d0 l wd).take i/\(aJ pX).Nodup/\∀x∈aJ pX,x∈aJ kvs)
   ⟨none,none,[],rfl,t2,λ_ _ _ h=>h,AD,λq m=>absurd m fU,by rw[mS];rfl,i4,λx m=>absurd m fU⟩ (λi O H3 _ ⟨_,_,_,_,_,off,_⟩=>aq.of (off _ _ ngs Kf)) ?_ ?_
  .intro i y O H3 hi aee
   refine hide λG_ bw=>?_
   obtain⟨v3,v4,pX,rfl,sm,off,R1,Kg,eA,D3,D4⟩:=aee
   obtain⟨Kh,hq,way,aa,t,DT,rfl,g1,g2,g3⟩:=Paired.get hR hi
   refine bw.k ?_
   have cI:=HW (bM hq)
   have g1:=off _ _ (bS g1 AD (by intro z;cases z)) g1
   have g2:=off _ _ (bS g2 AD (by intro z;cases z)) g2
   have g3:bC H3 Kh.2 DT:=Paired.bE g3 λ_ _ ⟨b,e,hb⟩=>⟨b,e,off _ _ (bS hb AD (by intro z;cases z)) hb⟩
   have Of:i<(dy l wd).length:=(bR.mp hq).1
   have AE:=abR hq
   refine⟨_,rfl,_,rfl,aa,_,2,.ref t,rfl,rfl,aA.of g1,rfl,a,t,l,wd,Kh.2,DT,rfl,sm.tup hT,S,g2,g3,by lia,λc hc=>⟨(cI.2 c hc).1,(cI.2 c hc).2.1⟩,λH4 s4=>?_⟩
   revert AE
   generalize ax l Kh.2=x
   intro AE
   have R3:=s4 _ _ R1
   have fm:=sm.trans s4
   refine⟨_,rfl,_,rfl,sd,_,rfl,dQ.k (k:=Sum.inr x) R3,_,rfl,?_⟩
   rw[zK Kg]
   by_cases hx:x∈aJ pX
   .rw[aU hx]
    rw[P7 AE (.inl (by rw[<-eA];exact hx))] at q
    exact bA (bA (q H4 fm))
   .rw[bf hx]
    refine bj ?_
    refine⟨_,rfl,p,dx,_,rfl,fm _ _ nv,t9 _ (by decide +kernel),_,rfl,p,d,kvs,x,rfl,hB.mono fm,_,rfl,?_⟩
    rw[zK uz]
    by_cases hy:x∈aJ kvs
    .rw[aU hy]
     refine bj ?_
     have hv:=P6 hx
     have oQ:pX.length<=200:=by rw[<-nJ,eA,ij];lia
     refine⟨_,rfl,_,rfl,sd,_,rfl,kf.k (k:=Sum.inr x) R3 (M4 (by lia)),?_⟩
     refine⟨_,_,_,rfl,fm.nh aed,λb o hb h=>?_,ao,Pm Kg x _ hv,?_,?_,?_⟩
     .rw[ak hb]
      exact s4 _ _ (off b o hb h)
     .rw[C4 _ hv,eA,ik,AE]
      rfl
     .rw[C4 _ hv]
      exact F4 D3 hx
     .intro z mz
      rw[C4 _ hv] at mz
      rcases dR.mp mz with m | m
      .exact D4 z m
      .rw[cJ.mp m]
       exact hy
    .rw[bf hy]
     rw[P7 AE (.inr hy)] at q
     exact bA (q H4 fm)
  .intro O H3 aef
   refine hide λG_ cq=>?_
   obtain⟨v3,v4,pX,rfl,sm,off,R1,Kg,eA,D3,D4⟩:=aef
   refine cq.k ?_
   rw[gs (by lia)] at eA
   rw[eA] at D3 D4
   rw[C5 fS D3 D4] at q
   exact q H3 sm
def R4(K:Frag)(CB C:Addr):Sp:=λvs H Q E=>∃(p d a:Addr) (kvs:List (Key×V)) (l:List Str) (w:Nat),vs=[.ref p,.ref a]/\gL CB H p d kvs/\aA K H a (l.map V.str)/\bH l w/\(dF (aJ kvs) l w=false->xq C E H)/\(dF (aJ kvs) l w=true->∀H',ag H H'->Q .aw H')
theorem aeg:bu ["book","sheet"] ["book","sheet"] (aN (top 36)):={}
theorem aeh{CE:Addr}(F:aZ K "need_filling" "need_filling" (top 36) f fd)(aei:Fn P w K mg base "is_filling" 6 (R0 K CB))(Ki:Hk K mg "NotFilled" C CE):aK P w K mg base (eN P w) 7 f fd ["book","sheet"] (R4 K CB C):=by
 refine F.wa aeg (λvs H Q E h=>?_) (λaF A outer s H vs Q E hr h=>?_)
 .refine hide λG_ aG=>?_
  obtain⟨p,d,a,kvs,l,w,rfl,_⟩:=h
  refine aG.k ?_
  rfl
 .refine hide λG_ bw=>?_
  obtain⟨p,d,a,kvs,l,wd,rfl,hB,hT,S,hz,q⟩:=h
  refine bw.k ?_
  refine⟨_,(aB (cn (j8 (jE (bD aei hr (af (pv 0) (af (pv 1) aj)))))
   (aB (Z6 Ki rfl (by rfl) (af fW aj)))
   cH)),?_⟩
  try dsimp only[bJ]
  refine⟨_,rfl,_,rfl,p,d,a,kvs,l,wd,rfl,hB,hT,S,λH1 s1=>⟨_,rfl,?_⟩⟩
  cases e:dF (aJ kvs) l wd with
  |true=>exact bj (q e H1 s1)
  |false=>exact bA (adX s1 (hz e))
end
theorem R5(l:List Str)(w:Nat):(dm l w).length<=l.length*w:=by
 unfold dm
 exact bL (nY _ _) (by rw[mf];exact aQ _)
def aej(l:List Str)(w:Nat)(ks:List Str)(wf:Str->Int)(H:Hp)(x y:V)(o:Option Int):Prop:=
 (x = .aw/\y = .aw/\o=none/\∀s,bY s l w->dF ks s w=true->False)\/
 ∃sa s c,x = .ref sa/\y = .int c/\H sa=some (.tup (s.map V.str))/\o=some c/\c=uv wf (aV l w) s/\bY s l w/\dF ks s w=true/\∀s',bY s' l w->dF ks s' w=true->uv wf (aV l w) s'<=c
theorem aek(S:bH m w)(T:wI m w)(hk:ks.length<=3)(nd:new.Nodup)(h:∀s∈new,bY s m w/\dF ks s w=true):new.length<=15752961:=by
 have key:∀s,bY s m w->dF ks s w=true->(aV m w).length<=3:=λs A hf=>by
  obtain⟨_,n2,h3⟩:=zL hf
  have:=oU n2 h3
  unfold d0 at this
  rw[av,A.rows] at this
  lia
 have one:∀s,bY s m w->dF ks s w=true->s=m:=λs A hf=>by
  refine A.same S (Ju (JX S T) λr mr=>?_)
  obtain⟨h2,_,cI⟩:=mB S mr
  have mc:=j5 (l:=r) (n:=0) (by lia)
  have hb:=cI _ mc
  have:=RZ S T (c:=r[0]) (by rw[wt hb.1 hb.2.1];exact hb.2.2)
  have:=key s A hf
  lia
 have:=oU (l:=new) (m:=[m]) nd λs ms=>cJ.mpr (one s (h s ms).1 (h s ms).2)
 exact bL this (by show 1<=15752961;decide)
theorem ael(S:bH m w)(T:wI m w)(hk:ks.length<=3)(hf:dF ks m w=true):bZ m w=[]:=by
 cases e:bZ m w with
 |nil=>rfl
 |cons c r=>
  exfalso
  have hc:c∈bZ m w:=by rw[e];exact bK
  have h1:=(da.mp (show c∈(cells m.length w).filter (cN m) from hc))
  have hb:=tS h1.1
  have h4:=RZ S T (c:=c) (by rw[wt hb.1 hb.2];exact h1.2)
  obtain⟨_,n2,h3⟩:=zL hf
  have:=oU n2 h3
  unfold d0 at this
  rw[av] at this
  lia
def R6:Sp:=λ_ _ _ _=>False
section
variable{w:World}
structure rJ(CB:Addr)(H:Hp)(a bk d:Addr)(l:List Str)(w:Nat)(kvs:List (Key×V)):Prop where
 hT:H a=some (.tup (l.map V.str))
 sh:bH l w
 bk:gL CB H bk d kvs
 iw:kvs.length<=3
 wd:∀x∈aJ kvs,eP x=true
 iv:wH kvs
def D5(C:Addr)(l:List Str)(w:Nat)(E:XK)(H:Hp):Prop := ∀c b H1,fA l w=some c->ag H H1->H1 b=some (.tup [.int (c.1:Nat),.int (c.2:Nat)])->Rz C "cell" (.ref b) E H1
def AF(K:Frag)(CB C CW CC:Addr):Sp:=λvs H Q E=>∃(a bk d:Addr) (l:List Str) (w most:Nat) (kvs:List (Key×V)),vs=[.ref bk,.ref a,.int (most:Int)]/\rJ CB H a bk d l w kvs/\1<=most/\most<=1000/\D5 C l w E H/\(fA l w=none->
 ∀(t fo:Addr) (v:V) (ts:List Addr) (new:List (List Str)) (H':Hp),ag H H'->H' t=some (.tup [.ref fo,v])->H' fo=some (.lst (ts.map V.ref))->rn H' ts new->new.Nodup->(∀s∈new,bY s l w/\dF (aJ kvs) s w=true)->
  ((v = .aw/\new.length=most)\/(v ≠ .aw/\new.length<most/\rG (λ_=>True) H' CW CC (aV l w) (aJ kvs) new 82 v l))->Q (.ref t) H')
theorem Kj:bu ["book","sheet","most","found","paper"] ["book","sheet","most"] (aN (top 51)):={}
theorem R7(F:nt K "fillings" "fillings" (top 51) f fd dv)(AG:kH P w K mg base "need_floor" 7 (DV K C))(Kk:Fn P w K mg base "first_standing" 8 (Jm K CB CG CS))(JR:Fn P w K mg base "closing_paper" 86 (DM K CG CS CW CC 82)):aK P w K mg base (eN P w) 87 f fd ["book","sheet","most"] (AF K CB C CW CC):=by
 refine F.wa Kj (λvs H Q E h=>?_) (λaF A outer s H vs Q E hr h=>?_)
 .refine hide λG_ aG=>?_
  obtain⟨a,bk,d,l,w,most,kvs,rfl,_⟩:=h
  refine aG.k ?_
  rfl
 .refine hide λG_ bw=>?_
  obtain⟨a,bk,d,l,wd,most,kvs,rfl,⟨hT,S,hB,h3,eI,rl⟩,hm1,hm2,hz,q⟩:=h
  refine bw.k ?_
  have dW:kvs.length<64:=by lia
  refine⟨_,(az (dZ (B9 AG (λ_ _ _ z=>z) (hr.mono (by decide)) (by rfl) (af (pv 1) aj)))
   (az (aX 3 Kj.nd (eE aj))
   (az (aX 4 Kj.nd (bD JR hr (af (bD Kk hr (af (pv 0) (af (pv 1) aj))) (af (pv 2) (af (pv 3) aj)))))
   (aB (bg (eZ (af (pv 3) (af (pv 4) aj)))))))),?_⟩
  try dsimp only[bJ]
  refine⟨_,rfl,a,l,wd,rfl,aA.of hT,S,hz,λrK H1 s1=>?_⟩
  obtain⟨T2,Sy⟩:=Ka S rK
  have FL:=JX S T2
  have q:=q rK
  refine⟨bW _,λfo cA=>?_⟩
  have s2:ag H (upd H1 fo (.lst [])):=s1.trans (ag.upd cA)
  have nS:upd H1 fo (.lst []) fo=some (.lst (([]:List Addr).map V.ref)):=ao
  have Kl:H fo=none:=s1.free cA
  generalize upd H1 fo (.lst [])=H2 at s2 nS
  refine⟨_,rfl,_,rfl,a,bk,d,l,wd,aV l wd,kvs,rfl,s2 _ _ hT,FL,hB.mono s2,dW,eI,rl,λst g kn wo H3 s3 Km hG cu hS _=>?_⟩
  have uA:=s3 _ _ nS
  have fQ:∀x∈aJ kvs,jR x:=λx mx=>DB (eI x mx)
  have Kn:(aJ kvs).Nodup:=Jl hB.nd hB.tx
  have mC:=tX S
  rw[<-zJ] at mC
  have Ko:H kn=none:=s2.free Km
  refine⟨_,rfl,_,rfl,st,g,kn,fo,most,wd,l,l,aJ kvs,nK kvs,aV l wd,[],(λb=>H2 b=none),M9 (aJ kvs),[],[],rfl,⟨hG,hS,cu,⟨i4,(λk mk=>nomatch mk),(λx v hv=>by cases hv)⟩,RL (by rw[nJ];exact dW) eI,λm' pl x k i Fm mE aL eQ uk fY hi dz=>RM Fm (fQ x eQ) eQ uk aL hi (fY i hi dz),FL,FL,rfl,by lia,eI,Kn,by rw[nJ];exact dW,λb e=>?_,(λz=>by have z:H2 fo=none:=z;rw[nS] at z;cases z),uA,.nil,hm1,hm2,?_⟩,λv new bX Au H4 CP=>?_⟩
  .exact s3.free e
  .have:=R5 l wd
   have:l.length*wd<=9*9:=Bc S.nine S.w9
   lia
  refine hide λG_ cq=>?_
  obtain⟨kx,rh,xf,uO,h8,aem,aen,uM⟩:=CP
  refine cq.k ?_
  rw[Be] at uO h8 uM
  rw[Be] at h8
  refine⟨_,rfl,_,rfl,(by show 2<=sizeLine;decide),λt ht=>?_⟩
  have s5:ag H4 (upd H4 t (.tup [.ref fo,v])):=ag.upd ht
  have t5:upd H4 t (.tup [.ref fo,v]) t=some (.tup [.ref fo,v]):=ao
  generalize upd H4 t (.tup [.ref fo,v])=H5 at s5 t5
  have lg:ag H H4:=λb o e=>kx b o (bh e Ko) (bh e Kl) (s3 _ _ (s2 _ _ e))
  refine q t fo v bX new H5 (lg.trans s5) t5 (s5 _ _ uO) (h8.keep λb o _ _ e=>s5 _ _ e) aem aen ?_
  rcases uM with z | ⟨z1,z2,z3⟩
  .exact .inl z
  .exact .inr ⟨z1,z2,(z3 new λ_ ms=>ms).mono (Kp.of s5) (λ_ _ _ _=>trivial) λ_ ms=>ms⟩
def Kq(K:Frag)(CB C CH CC:Addr):Sp:=λvs H Q E=>∃(a bk d:Addr) (l:List Str) (w:Nat) (kvs:List (Key×V)),vs=[.ref bk,.ref a]/\rJ CB H a bk d l w kvs/\D5 C l w E H/\(fA l w=none->
 ∀(t:Addr) (x y v:V) (o:Option Int) (H':Hp),ag H H'->H' t=some (.tup [x,y,v])->aej l w (aJ kvs) (nK kvs) H' x y o->Q (.ref t) H')
theorem Kr:bu ["book","sheet","found","paper"] ["book","sheet"] (aN (top 54)):={}
theorem aeo(F:aZ K "best" "best" (top 54) f fd)(AG:kH P w K mg base "need_floor" 7 (DV K C))(Kk:Fn P w K mg base "first_standing" 8 (Jm K CB CG CS))(Jw:Fn P w K mg base "bounding_paper" 86 (DE K CG CS CH CC 82)):aK P w K mg base (eN P w) 87 f fd ["book","sheet"] (Kq K CB C CH CC):=by
 refine F.wa Kr (λvs H Q E h=>?_) (λaF A outer s H vs Q E hr h=>?_)
 .refine hide λG_ aG=>?_
  obtain⟨a,bk,d,l,w,kvs,rfl,_⟩:=h
  refine aG.k ?_
  rfl
 .refine hide λG_ bw=>?_
  obtain⟨a,bk,d,l,wd,kvs,rfl,⟨hT,S,hB,h3,eI,rl⟩,hz,q⟩:=h
  refine bw.k ?_
  have dW:kvs.length<64:=by lia
  refine⟨_,(az (dZ (B9 AG (λ_ _ _ z=>z) (hr.mono (by decide)) (by rfl) (af (pv 1) aj)))
   (az (aX 2 Kr.nd (eE aj))
   (az (aX 3 Kr.nd (bD Jw hr (af (bD Kk hr (af (pv 0) (af (pv 1) aj))) (af (pv 2) aj))))
   (az (cn (j8 (ot (pv 2) (by intro _;rfl)))
   (aB (bg (eZ (af gv (af gv (af (pv 3) aj))))))
   cH)
   (aB (bg (eZ (af (bG cY (bG iu (pv 2) (Bq Bs aI)) aI) (af (bG cY (bG iu (pv 2) (Bq Bs aI)) aI) (af (pv 3) aj)))))))))),?_⟩
  try dsimp only[bJ]
  refine⟨_,rfl,a,l,wd,rfl,aA.of hT,S,hz,λrK H1 s1=>?_⟩
  obtain⟨T2,Sy⟩:=Ka S rK
  have FL:=JX S T2
  have q:=q rK
  refine⟨bW _,λfo cA=>?_⟩
  have s2:ag H (upd H1 fo (.lst [])):=s1.trans (ag.upd cA)
  have nS:upd H1 fo (.lst []) fo=some (.lst (([]:List Addr).map V.ref)):=ao
  have Kl:H fo=none:=s1.free cA
  generalize upd H1 fo (.lst [])=H2 at s2 nS
  refine⟨_,rfl,_,rfl,a,bk,d,l,wd,aV l wd,kvs,rfl,s2 _ _ hT,FL,hB.mono s2,dW,eI,rl,λst g kn wo H3 s3 Km hG cu hS rm=>?_⟩
  have uA:=s3 _ _ nS
  have fQ:∀x∈aJ kvs,jR x:=λx mx=>DB (eI x mx)
  have Kn:(aJ kvs).Nodup:=Jl hB.nd hB.tx
  have mC:=tX S
  rw[<-zJ] at mC
  have Ko:H kn=none:=s2.free Km
  have R8:(aJ kvs).length<64:=by rw[nJ];exact dW
  refine⟨_,rfl,st,g,kn,fo,wd,l,l,aJ kvs,nK kvs,aV l wd,[],(λb=>H2 b=none),M9 (aJ kvs),[],[],rfl,⟨hG,hS,rm,cu,⟨i4,(λk mk=>nomatch mk),(λx v hv=>by cases hv)⟩,RL R8 eI,λm' pl x k i Fm mE aL eQ uk fY hi dz=>RM Fm (fQ x eQ) eQ uk aL hi (fY i hi dz),FL,FL,rfl,by lia,eI,Kn,R8,λb e=>s3.free e,(λz=>by have z:H2 fo=none:=z;rw[nS] at z;cases z),uA,.nil,⟨i4,(λ_ m=>nomatch m),(λ_ m=>nomatch m)⟩,λF nd h=>aek S T2 (by rw[nJ];exact h3) nd h,λ_ A=>A,?_⟩,λv new bX Au H4 BP=>?_⟩
  .have:=R5 l wd
   have:l.length*wd<=9*9:=Bc S.nine S.w9
   lia
  refine hide λG_ cq=>?_
  obtain⟨kx,rh,xf,uO,h8,Ks,_,AH,DL⟩:=BP
  refine cq.k ?_
  rw[Be] at uO h8 Ks AH DL
  rw[Be] at h8
  have lg:ag H H4:=λb o e=>kx b o (bh e Ko) (bh e Kl) (s3 _ _ (s2 _ _ e))
  refine⟨_,rfl,_,.inl ⟨_,aq.of uO,rfl⟩,?_⟩
  rcases List.eq_nil_or_concat new with rfl | ⟨fr,pr,rfl⟩
  .cases h8
   refine bA ⟨_,rfl,(by show 3<=sizeLine;decide),λt ht=>?_⟩
   have s5:ag H4 _:=ag.upd (o:=HO.tup [.aw,.aw,v]) ht
   refine q t .aw .aw v none _ (lg.trans s5) ao (.inl ⟨rfl,rfl,rfl,λs A hf=>?_⟩)
   obtain⟨_,z,_⟩:=AH s A hf _ rfl
   cases z
  .rw[List.concat_eq_append] at h8 Ks AH
   refine hide λG_ dE=>?_
   obtain⟨t1,D6,rfl,a1,Cz,ha1⟩:∃t D6,bX=D6++[t]/\∃a,H4 t=some (.tup [.ref a,.int pr.2])/\H4 a=some (.tup (pr.1.map V.str)):=by
    have hl:=gR h8
    have aT:bX≠[]:=λz=>by rw[z] at hl;simp at hl
    have hg:(fr++[pr])[fr.length]? = some pr:=by simp
    obtain⟨t,ht,a,h3,h5⟩:=Paired.get h8 hg
    refine⟨t,bX.dropLast,?_,a,h3,h5⟩
    have e:=TX aT
    have:bX.getLast aT=t:=by
     have jU:=List.getLast?_eq_getElem? (l:=bX)
     rw[List.getLast?_eq_some_getLast aT] at jU
     have hlen:bX.length - 1=fr.length:=by rw[hl];simp
     rw[hlen,ht] at jU
     exact dh jU
    rw[<-this]
    exact e.symm
   refine dE.k ?_
   have aT:(!((D6++[t1]).map V.ref).isEmpty)=true:=by simp
   rw[aT]
   have oO:gY ((D6++[t1]).map V.ref) (-1)=some (.ref t1):=by rw[fG];exact MG _ _
   refine bj ⟨_,rfl,_,rfl,fo,_,-1,.ref t1,rfl,rfl,aq.of uO,oO,t1,_,0,.ref a1,rfl,rfl,aA.of Cz,rfl,_,rfl,_,rfl,fo,_,-1,.ref t1,rfl,rfl,aq.of uO,oO,t1,_,1,.int pr.2,rfl,rfl,aA.of Cz,rfl,_,rfl,(by show 3<=sizeLine;decide),λt ht=>?_⟩
   have s5:ag H4 _:=ag.upd (o:=HO.tup [.ref a1,.int pr.2,v]) ht
   rw[xj] at AH
   obtain⟨o1,o2,o3⟩:=Ks.ok pr (ie _ (cJ.mpr rfl))
   refine q t _ _ v _ _ (lg.trans s5) ao (.inr ⟨a1,pr.1,pr.2,rfl,rfl,s5 _ _ ha1,rfl,o3,o1,o2,λs A hf=>?_⟩)
   obtain⟨y,z,le⟩:=AH s A hf _ rfl
   cases z
   exact le
theorem aep:bu ["book","sheet","filling","told"] ["book","sheet","filling"] (aN (top 68)):={}
theorem aeq(F:aZ K "other_filling" "other_filling" (top 68) f fd):aK P w K mg base aS 1 f fd ["book","sheet","filling"] R6:=F.ok aep (λvs H Q E h=>h.elim) (λaF A outer s H vs Q E hr h=>h.elim)
def R9(K:Frag)(CB C CN:Addr):Sp:=λvs H Q E=>∃(a bk d:Addr) (l:List Str) (w:Nat) (kvs:List (Key×V)),vs=[.ref bk,.ref a]/\rJ CB H a bk d l w kvs/\D5 C l w E H/\(fA l w=none->xq CN E H/\∀t H',ag H H'->Q (.ref t) H')
theorem uP:bu ["book","filling","givens","seconds","cell","fewer","other"] ["book","filling"] (aN (top 67)):={}
theorem aer(B:Bl mg)(F:aZ K "least" "least" (top 67) f fd)(iU:Cn mg "FREE" (.str "."))(AG:kH P w K mg base "need_floor" 7 (DV K C))(aes:kH P w K mg base "need_filling" 7 (R4 K CB CN))(zo:Fn P w K mg base "open_cells" 3 (Cp K))(Ir:Fn P w K mg base "with_sign" 1 (Ic K))(aet:Fn P w K mg base "other_filling" 1 R6):aK P w K mg base (eN P w) 8 f fd ["book","filling"] (R9 K CB C CN):=by
 refine F.wa uP (λvs H Q E h=>?_) (λaF A outer s H vs Q E hr h=>?_)
 .refine hide λG_ aG=>?_
  obtain⟨a,bk,d,l,w,kvs,rfl,_⟩:=h
  refine aG.k ?_
  rfl
 .refine hide λG_ bw=>?_
  obtain⟨a,bk,d,l,wd,kvs,rfl,⟨hT,S,hB,h3,eI,rl⟩,hz,q⟩:=h
  refine bw.k ?_
  refine⟨_,(az (dZ (B9 AG (λ_ _ _ z=>z) (hr.mono (by decide)) (by rfl) (af (pv 1) aj)))
   (az (dZ (B9 aes (λ_ _ _ z=>z) (hr.mono (by decide)) (by rfl) (af (pv 0) (af (pv 1) aj))))
   (az (aX 2 uP.nd (pv 1))
   (az (aX 3 uP.nd (eE aj))
   (az (dJ (eD (bD zo hr (af (pv 1) aj))) (cD 4 uP.nd)
   (az (aX 5 uP.nd (bD Ir hr (af (pv 2) (af (pv 4) (af (eM iU (by rfl)) aj)))))
    (az (aX 6 uP.nd (bD aet hr (af (pv 0) (af (pv 5) (af (pv 1) aj)))))
    (aB (cn (cK vD (pv 6) gv)
    (aB (aX 2 uP.nd (pv 5)))
    (aB (dZ (gE j6 lA lB jf (pv 3) (af (eZ (af (pv 4) (af (pv 6) aj))) aj)))))))) (Hd rfl rfl))
   (aB (bg (eZ (af (pv 2) (af (pv 3) aj)))))))))),?_⟩
  try dsimp only[bJ]
  refine⟨_,rfl,a,l,wd,rfl,aA.of hT,S,hz,λrK H1 s1=>?_⟩
  obtain⟨T2,Sy⟩:=Ka S rK
  obtain⟨hn,q⟩:=q rK
  refine⟨_,rfl,_,rfl,bk,d,a,kvs,l,wd,rfl,hB.mono s1,aA.of (s1 _ _ hT),S,λhf=>hn.mono s1,λhf H2 s2=>?_⟩
  have ho:=ael S T2 (by rw[nJ];exact h3) hf
  have mK:=s1.trans s2
  refine⟨_,rfl,bW _,λsc hsc=>?_⟩
  have s3:ag H (upd H2 sc (.lst [])):=mK.trans (ag.upd hsc)
  generalize upd H2 sc (.lst [])=H3 at s3
  refine⟨_,rfl,a,l,wd,rfl,aA.of (s3 _ _ hT),S,λp xs H4 hp s4 uq hC=>⟨p,rfl,⟨_,aq.of uq⟩,?_⟩⟩
  rw[ho] at hC
  cases hC
  refine ke (K:=K) (xs:=[]) (λi O H5=>O=[some (.ref bk),some (.ref a),some (.ref a),some (.ref sc),none,none,none]/\H5=H4) ⟨rfl,rfl⟩ (λi O H5 _ h=>by rw[h.2];exact aq.of uq) (λi x O H5 hx=>nomatch hx) ?_
  rintro O H5 ⟨rfl,rfl⟩
  exact⟨_,rfl,_,rfl,(by show 2<=sizeLine;decide),λt ht=>q t _ ((s3.trans s4).trans (ag.upd ht))⟩
end
noncomputable def idxs(bs:List Bool):List V:=((List.range 12).filter λi=>bs.getD i false).map λ(i:Nat)=>V.int i
section
variable{w:World}
def Sa(K:Frag)(Cs:List Addr):Sp:=λvs H Q _=>∃(e C:Addr) (b0 b1 b2 b3 b4 b5 b6 b7 b8 b9 ba bb:Bool),vs=[.ref e]/\wg H e C/\XI K C/\Cs.map (λc=>kitOne K (.ref C) (.ref c))=[b0,b1,b2,b3,b4,b5,b6,b7,b8,b9,ba,bb].map some/\∀l H',ag H H'->H' l=some (.lst (idxs [b0,b1,b2,b3,b4,b5,b6,b7,b8,b9,ba,bb]))->Q (.ref l) H'
theorem D7:bu ["_law_e","_law_some"] ["_law_e"] (aN (top 74)):={}
theorem aeu{c0 c1 c2 c3 c4 c5 c6 c7 c8 c9 ca cb:Addr}(B:Bl mg)(F:aZ K "_law_kinds" "_law_kinds" (top 74) f fd)(Ku:Cn mg "NoSheet" (.ref c0))(Kv:Cn mg "NoFloor" (.ref c1))(Kw:Cn mg "NoWord" (.ref c2))(Kx:Cn mg "Twice" (.ref c3))(Ky:Cn mg "NotThere" (.ref c4))(Kz:Cn mg "NoLine" (.ref c5))(KA:Cn mg "NotFilled" (.ref c6))(KC:Cn mg "NoMatch" (.ref c7))(KD:Cn mg "NoWorking" (.ref c8))(KG:Cn mg "NoStep" (.ref c9))(KH:Cn mg "NoName" (.ref ca))(KI:Cn mg "NoDeed" (.ref cb)):aK P w K mg base aS 1 f fd ["_law_e"] (Sa K [c0,c1,c2,c3,c4,c5,c6,c7,c8,c9,ca,cb]):=by
 refine F.bU D7 λaF A outer s H vs Q E hr h=>?_
 refine hide λG_ aG=>?_
 obtain⟨e,C,b0,b1,b2,b3,b4,b5,b6,b7,b8,b9,ba,bb,rfl,he,hI,hk,q⟩:=h
 refine aG.k ?_
 refine⟨_,(az (aX 1 D7.nd (eE (af (cL (jN (K:=K) rfl) (by rfl) B.iT iQ (af (pv 0) (af (eM Ku (by rfl)) aj))) (af (cL (jN (K:=K) rfl) (by rfl) B.iT iQ (af (pv 0) (af (eM Kv (by rfl)) aj))) (af (cL (jN (K:=K) rfl) (by rfl) B.iT iQ (af (pv 0) (af (eM Kw (by rfl)) aj))) (af (cL (jN (K:=K) rfl) (by rfl) B.iT iQ (af (pv 0) (af (eM Kx (by rfl)) aj))) aj))))))
  (az (aX 1 D7.nd (bz BF (pv 1) (eE (af (cL (jN (K:=K) rfl) (by rfl) B.iT iQ (af (pv 0) (af (eM Ky (by rfl)) aj))) (af (cL (jN (K:=K) rfl) (by rfl) B.iT iQ (af (pv 0) (af (eM Kz (by rfl)) aj))) (af (cL (jN (K:=K) rfl) (by rfl) B.iT iQ (af (pv 0) (af (eM KA (by rfl)) aj))) (af (cL (jN (K:=K) rfl) (by rfl) B.iT iQ (af (pv 0) (af (eM KC (by rfl)) aj))) aj)))))))
  (az (aX 1 D7.nd (bz BF (pv 1) (eE (af (cL (jN (K:=K) rfl) (by rfl) B.iT iQ (af (pv 0) (af (eM KD (by rfl)) aj))) (af (cL (jN (K:=K) rfl) (by rfl) B.iT iQ (af (pv 0) (af (eM KG (by rfl)) aj))) (af (cL (jN (K:=K) rfl) (by rfl) B.iT iQ (af (pv 0) (af (eM KH (by rfl)) aj))) (af (cL (jN (K:=K) rfl) (by rfl) B.iT iQ (af (pv 0) (af (eM KI (by rfl)) aj))) aj)))))))
  (aB (bg (jg (js:=[1]) (ns:=["_law_some"]) (lH (by rfl) B.mh (af aI aj)) rfl rfl rfl rfl (λ_ _ _ _=>(oH (jE (yC (K:=K) (rr:=BD) rfl iu (pv 1) (pv 0))))) (λ_ _ _ _=>(pv 0)))))))),?_⟩
 try dsimp only[bJ]
 simp only[cF,EI,List.cons.injEq,and_true] at hk
 refine hide λG_ bw=>?_
 obtain⟨k0,k1,k2,k3,k4,k5,k6,k7,k8,k9,ka,kb⟩:=hk
 refine bw.k ?_
 refine⟨_,rfl,e,C,_,.ref c0,_,rfl,he,hI,λu r=>r,k0,_,rfl,e,C,_,.ref c1,_,rfl,he,hI,λu r=>r,k1,_,rfl,e,C,_,.ref c2,_,rfl,he,hI,λu r=>r,k2,_,rfl,e,C,_,.ref c3,_,rfl,he,hI,λu r=>r,k3,by show 4<=sizeLine;decide,λl1 h1=>⟨_,rfl,?_⟩⟩
 have s1:=ag.upd (o:=HO.lst [V.bl b0,V.bl b1,V.bl b2,V.bl b3]) h1
 have e1:=he.mono s1
 refine⟨_,rfl,e,C,_,.ref c4,_,rfl,e1,hI,λu r=>r,k4,_,rfl,e,C,_,.ref c5,_,rfl,e1,hI,λu r=>r,k5,_,rfl,e,C,_,.ref c6,_,rfl,e1,hI,λu r=>r,k6,_,rfl,e,C,_,.ref c7,_,rfl,e1,hI,λu r=>r,k7,by show 4<=sizeLine;decide,λl2 h2=>?_⟩
 have t2:=ag.upd (o:=HO.lst [V.bl b4,V.bl b5,V.bl b6,V.bl b7]) h2
 refine⟨l1,l2,_,_,rfl,rfl,t2 _ _ ao,ao,by show 8<=sizeLine;decide,λl3 h3=>⟨_,rfl,?_⟩⟩
 have s3:=(s1.trans t2).trans (ag.upd (o:=HO.lst [V.bl b0,V.bl b1,V.bl b2,V.bl b3,V.bl b4,V.bl b5,V.bl b6,V.bl b7]) h3)
 have e3:=he.mono s3
 refine⟨_,rfl,e,C,_,.ref c8,_,rfl,e3,hI,λu r=>r,k8,_,rfl,e,C,_,.ref c9,_,rfl,e3,hI,λu r=>r,k9,_,rfl,e,C,_,.ref ca,_,rfl,e3,hI,λu r=>r,ka,_,rfl,e,C,_,.ref cb,_,rfl,e3,hI,λu r=>r,kb,by show 4<=sizeLine;decide,λl4 h4=>?_⟩
 have t4:=ag.upd (o:=HO.lst [V.bl b8,V.bl b9,V.bl ba,V.bl bb]) h4
 refine⟨l3,l4,_,_,rfl,rfl,t4 _ _ ao,ao,by show 12<=sizeLine;decide,λl5 h5=>⟨_,rfl,?_⟩⟩
 have s5:=(s3.trans t4).trans (ag.upd (o:=HO.lst ([b0,b1,b2,b3,b4,b5,b6,b7,b8,b9,ba,bb].map V.bl)) h5)
 refine⟨by decide,by decide,nj (Gi (lo:=0) (n:=12)) (by simp) (λi=>[b0,b1,b2,b3,b4,b5,b6,b7,b8,b9,ba,bb].getD i false) (λ_ i y _=>y = .int i) (λ_ _=>trivial) (λ_ _ _ _ _ _ _ _ h=>h) ?_ ?_⟩
 .intro D i x H6 Z0 Z hD hx s6 _ z0 z1
  obtain⟨hi,rfl⟩:=Iu hx
  have ea:gY ([b0,b1,b2,b3,b4,b5,b6,b7,b8,b9,ba,bb].map V.bl) ((i:Nat):Int)=some (.bl ([b0,b1,b2,b3,b4,b5,b6,b7,b8,b9,ba,bb].getD i false)):=eF (by
   rw[bF,cz,bt (show i<[b0,b1,b2,b3,b4,b5,b6,b7,b8,b9,ba,bb].length from hi)]
   rfl)
  refine⟨_,rfl,_,rfl,l5,[b0,b1,b2,b3,b4,b5,b6,b7,b8,b9,ba,bb].map V.bl,_,.bl ([b0,b1,b2,b3,b4,b5,b6,b7,b8,b9,ba,bb].getD i false),rfl,rfl,aq.of (s6 _ _ ao),(by rw[A0];exact ea),_,rfl,?_⟩
  revert z0 z1
  generalize [b0,b1,b2,b3,b4,b5,b6,b7,b8,b9,ba,bb].getD i false=b
  intro z0 z1
  cases b
  .exact bj (z0 _ (ag.dM _) rfl)
  .exact bA ⟨_,rfl,z1 _ _ (ag.dM _) rfl (eX V.int (A0 _))⟩
 .intro D ys H6 hD bO s6 pr
  refine q D H6 (s5.trans s6) ?_
  rw[bO,CO pr,av,i5]
  rfl
def xw(C:Addr)(H:Hp)(e:Addr)(c:C2):Prop := ∃dx b,H e=some (ji C dx e)/\H dx=some (.xd [("cell",.ref b)])/\H b=some (.tup [.int (c.1:Nat),.int (c.2:Nat)])
theorem xw.mono(s:ag H H')(h:xw C H e c):xw C H' e c:=let ⟨dx,b,h1,h2,h3⟩:=h;⟨dx,b,s _ _ h1,s _ _ h2,s _ _ h3⟩
def Sb(K:Frag)(CB C CN:Addr):Sp:=λvs H Q _=>∃(a bk d:Addr) (l:List Str) (w way:Nat) (kvs:List (Key×V)),vs=[.ref bk,.ref a,.int (way:Int)]/\rJ CB H a bk d l w kvs/\way<3/\
 (∀c,fA l w=some c->∀e H',ag H H'->xw C H' e c->Q (.ref e) H')/\(fA l w=none->(∀H',ag H H'->Q .aw H')/\(way=1->∀e H',ag H H'->H' e=some (iR CN none e)->Q (.ref e) H'))
theorem D8:bu ["_law_book","_law_sheet_here","_law_way","_law_kept","_law_e"] ["_law_book","_law_sheet_here","_law_way"] (aN (top 77)):={}
theorem aev{CE:Addr}(F:aZ K "_law_asked" "_law_asked" (top 77) f fd)(AJ:Ec K mg "CrossError" CE cM)(e1:jj K C (.ref CE::cM)=true)(e2:jj K CN (.ref CE::cM)=true)(KJ:y0 P w K mg base "fillings" 87 (AF K CB C CW CC) [.int 2])(aew:kH P w K mg base "least" 8 (R9 K CB C CN))(KL:kH P w K mg base "best" 87 (Kq K CB C CH CC)):aK P w K mg base aS 88 f fd ["_law_book","_law_sheet_here","_law_way"] (Sb K CB C CN):=by
 refine F.bU D8 λaF A outer s H vs Q E hr h=>?_
 refine hide λG_ aG=>?_
 obtain⟨a,bk,d,l,wd,way,kvs,rfl,PX,D9,qe,qn⟩:=h
 refine aG.k ?_
 refine⟨_,(az (aX 3 D8.nd gv)
  (az (ZJ (i:=4) rfl rfl D8.nd rfl rfl AJ.ec AJ.hb (by rfl) AJ.mg
  (λ_ _=>(aB (cn (cK m4 (pv 2) aI)
   (aB (dZ (aac KJ (hr.mono (by decide)) (by rfl) (af (pv 0) (af (pv 1) aj)))))
   (aB (cn (cK m4 (pv 2) aI)
    (aB (dZ (OE aew (hr.mono (by decide)) (by rfl) (af (pv 0) (af (pv 1) aj)))))
    (aB (dZ (OE KL (hr.mono (by decide)) (by rfl) (af (pv 0) (af (pv 1) aj))))))))))
  (λ_=>(aB (aX 3 D8.nd (pv 4)))))
  (aB (bg (pv 3))))),?_⟩
 try dsimp only[bJ]
 have Ea:∀C,(Value.ref C :: .ref CE::cM).contains (.ref CE)=true:=λC=>by simp
 refine⟨_,rfl,rfl,_,rfl,?_⟩
 rw[C3]
 by_cases z0:way=0
 .rw[aU (by lia)]
  refine bA ⟨_,rfl,_,rfl,a,bk,d,l,wd,2,kvs,rfl,PX,by decide,by decide,λc b H1 hd s1 hb e dx H' s' he hx=>?_,λhd t fo v ts new H' s' _ _ _ _ _ _=>?_⟩
  .exact⟨C,e,_,rfl,rfl,e1,Ea _,_,rfl,_,rfl,qe c hd e H' (s1.trans s') ⟨dx,b,he,hx,s' _ _ hb⟩⟩
  .exact⟨_,rfl,(qn hd).1 H' s'⟩
 rw[bf (by lia)]
 refine bj ⟨_,rfl,rfl,_,rfl,?_⟩
 rw[C3]
 by_cases z1:way=1
 .rw[aU (by lia)]
  refine bA ⟨_,rfl,_,rfl,a,bk,d,l,wd,kvs,rfl,PX,λc b H1 hd s1 hb e dx H' s' he hx=>?_,λhd=>⟨λe H' s' he=>?_,λt H' s' =>?_⟩⟩
  .exact⟨C,e,_,rfl,rfl,e1,Ea _,_,rfl,_,rfl,qe c hd e H' (s1.trans s') ⟨dx,b,he,hx,s' _ _ hb⟩⟩
  .exact⟨CN,e,_,rfl,rfl,e2,Ea _,_,rfl,_,rfl,(qn hd).2 z1 e H' s' he⟩
  .exact⟨_,rfl,(qn hd).1 H' s'⟩
 rw[bf (by lia)]
 refine bj ⟨_,rfl,_,rfl,a,bk,d,l,wd,kvs,rfl,PX,λc b H1 hd s1 hb e dx H' s' he hx=>?_,λhd t x y v o H' s' _ _=>?_⟩
 .exact⟨C,e,_,rfl,rfl,e1,Ea _,_,rfl,_,rfl,qe c hd e H' (s1.trans s') ⟨dx,b,he,hx,s' _ _ hb⟩⟩
 .exact⟨_,rfl,(qn hd).1 H' s'⟩
end
theorem Sd(a:Nat):decide (V.str ⟨#[a]⟩=V.str (Str.ofString "#"))=decide (a=35):=by
 have e:(Str.ofString "#")=⟨#[35]⟩:=zf
 rw[e]
 by_cases h:a=35
 .rw[h,aU rfl,aU rfl]
 .rw[bf h,bf]
  intro z
  injection z with z
  injection z with z
  have z:=eX Array.toList z
  injection z with z
  exact h z
noncomputable def jv(c:Nat):V := .str ⟨#[c]⟩
theorem aex(z:Int)(h0:0<=z)(h1:z<10):∃ch,gY ("#a.b.ab.ab":Str).cps.toList z=some ch/\iS ch:=by
 have e:("#a.b.ab.ab":Str).cps.toList=[35,97,46,98,46,97,98,46,97,98]:=by decide +kernel
 obtain⟨k,rfl⟩:=vm h0
 have hk:k<10:=by lia
 have ho:∀c∈[35,97,46,98,46,97,98,46,97,98],iS c:=by unfold iS;decide
 rw[e]
 obtain⟨ch,hch⟩:∃ch,[35,97,46,98,46,97,98,46,97,98][k]? = some ch:=⟨_,bt hk⟩
 exact⟨ch,eF hch,ho ch (bM hch)⟩
theorem aey(f:α->V)(cs:List α)(a b:Nat)(h:a+b<=cs.length):jH (cs.map f) (some (a:Int)) (some ((a+b:Nat):Int))=((cs.drop a).take b).map f:=by
 unfold jH
 rw[HT.Bz,HT.Bz,av,LN h,LN (show a<=cs.length by lia),List.map_take,List.map_drop,Nat.add_sub_cancel_left]
noncomputable def KN(cs:List Nat)(w k:Nat):Str:=⟨((cs.drop (k*w)).take w).toArray⟩
theorem aez(h1:1<=h)(h9:h<=9)(w1:1<=w)(w9:w<=9)(hl:cs.length=h*w)(ho:∀c∈cs,iS c):bH ((List.range h).map (KN cs w)) w:=by
 refine⟨by rw[av,i5];exact h1,by rw[av,i5];exact h9,w1,w9,λx mx=>?_,λx mx c mc=>?_⟩
 .obtain⟨k,mk,rfl⟩:=cC.mp mx
  have hk:=ic.mp mk
  have:k*w+w<=h*w:=by rw[<-lz];exact E3 _ hk
  rw[<-cV]
  show((cs.drop (k*w)).take w).toArray.toList.length=w
  rw[List.toList_toArray,ij,rS]
  lia
 .obtain⟨k,mk,rfl⟩:=cC.mp mx
  have mc:c∈((cs.drop (k*w)).take w).toArray.toList:=mc
  rw[List.toList_toArray] at mc
  exact ho c (List.mem_of_mem_drop (Bd mc))
section
variable{w:World}
def Se(K:Frag):Sp:=λvs H Q _=>∃(a:Addr) (ns:List Int),vs=[.ref a]/\aq K H a (ns.map V.int)/\∀p l w H',ag H H'->H' p=some (.tup (l.map V.str))->bH l w->Q (.ref p) H'
theorem rL:bu ["_law_script","_law_high","_law_wide","_law_way","_law_signs","_law_k","_law_cell"] ["_law_script"] (aN (top 75)):={}
theorem aeA(B:Bl mg)(F:aZ K "_law_sheet" "_law_sheet" (top 75) f fd)(rM:Fn P w K mg base "_law_cell_at" 1 (Hz K)):aK P w K mg base aS 2 f fd ["_law_script"] (Se K):=by
 refine F.bU rL λaF A outer s H vs Q E hr h=>?_
 obtain⟨a,ns,rfl,hS,q⟩:=h
 have hu:=hr.units
 have cX:=iy hr
 refine⟨_,(az (aX 1 rL.nd (bz gC aI (bz mZ (bD rM hr (af (pv 0) (af aI aj))) aI)))
  (az (aX 2 rL.nd (bz gC aI (bz mZ (bz sI (bD rM hr (af (pv 0) (af aI aj))) aI) aI)))
  (az (aX 3 rL.nd (bz mZ (bD rM hr (af (pv 0) (af aI aj))) aI))
  (az (aX 4 rL.nd (eE aj))
  (az (dJ (lH (by rfl) B.mh (af (bz vC (pv 1) (pv 2)) aj)) (cD 5 rL.nd)
  (az (aX 6 rL.nd (bz sI (bD rM hr (af (pv 0) (af (bz gC aI (bz mZ (pv 5) aI)) aj))) (bz gC (bz sI (pv 5) aI) aI)))
   (aB (dZ (gE j6 lA lB jf (pv 4) (af (bG oy fW (bz mZ (pv 6) (bz gC aI (bz mZ (bz sI (bD rM hr (af (pv 0) (af aI aj))) aI) aI)))) aj))))))
  (az (BW (cn (cK Mf (pv 3) aI)
  (aB (dJ (lH (by rfl) B.mh (af (bz vC (pv 1) (pv 2)) aj)) (cD 5 rL.nd)
   (aB (BW (cn (PW.pt (qt (cK m4 (bG iu (pv 4) (bz lI (bz lI (bz vC (pv 1) (pv 2)) aI) (pv 5))) fW) (sk (cK m4 (bz mZ (bz sI (bD rM hr (af (pv 0) (af aI aj))) aI) aI) aI))))
    (aB (sy fW (vv (pv 4) (pv 5) set_list)))
    cH)))))
  cH))
  (aB (bg (m5 BE (by rfl) B.zc yp (af (jg (js:=[4,2]) (ns:=["_law_signs","_law_wide"]) (lH (by rfl) B.mh (af (pv 1) aj)) rfl rfl rfl rfl (λ_ _ _ _=>lU) (λ_ _ _ _=>(XD (K:=K) (rr:=rJoin) rfl LM TR TV Gg fW (af (ow (aae (K:=K) rfl) (pv 1) (m9 (bz vC (pv 0) (pv 2))) (m9 (bz gC (bz vC (pv 0) (pv 2)) (pv 2)))) aj)))) aj)))))))))),?_⟩
 try dsimp only[bJ]
 refine⟨_,rfl,a,ns,0,rfl,hS,_,_,rfl,rfl,(by show(0:Int)<9;decide),_,_,rfl,rfl,?_⟩
 refine⟨_,rfl,a,ns,0,rfl,hS,_,_,rfl,rfl,⟨by decide,by decide⟩,_,_,rfl,rfl,(by show(0:Int)<9;decide),_,_,rfl,rfl,?_⟩
 have a0:=E7 (cellAt ns 0) (show(9:Int)≠0 by decide)
 have a1:=E8 (cellAt ns 0) (show(0:Int)<9 by decide)
 have b0:=E7 (cellAt ns 0 / 9) (show(9:Int)≠0 by decide)
 have b1:=E8 (cellAt ns 0 / 9) (show(0:Int)<9 by decide)
 obtain⟨hh,Sf⟩:=vm (show 0<=1+cellAt ns 0 % 9 by lia)
 obtain⟨ww,Sg⟩:=vm (show 0<=1+cellAt ns 0 / 9 % 9 by lia)
 have hd:1<=hh/\hh<=9/\1<=ww/\ww<=9:=by lia
 dsimp only
 rw[Sf,Sg]
 clear Sf Sg a0 a1 b0 b1
 have hn:((hh:Int)*(ww:Int))=((hh*ww:Nat):Int):=by simp
 have Sh:hh*ww<=9*9:=Bc hd.2.1 hd.2.2.2
 have cm:vB (hh:Int) (ww:Int) := .inl ⟨by lia,by lia⟩
 refine⟨_,rfl,a,ns,1,rfl,hS,_,_,rfl,rfl,(by show(0:Int)<4;decide),?_⟩
 refine⟨bW _,λg hg=>?_⟩
 have t0:=ag.upd (o:=HO.lst []) hg
 have Si:upd H g (.lst []) g=some (.lst (([]:List Nat).map jv)):=ao
 generalize upd H g (.lst [])=H0 at t0 Si
 refine⟨_,rfl,_,rfl,_,_,rfl,rfl,cm,_,rfl,by rw[hn];lia,by rw[hn];lia,?_⟩
 rw[hn,iZ]
 refine qC (λi O H2=>∃(v5 v6:Option V) (cs:List Nat),O=[some (.ref a),some (.int hh),some (.int ww),some (.int (cellAt ns 1 % 4)),some (.ref g),v5,v6]/\ag H H2/\H2 g=some (.lst (cs.map jv))/\cs.length=i/\∀c∈cs,iS c) ⟨none,none,[],rfl,t0,Si,rfl,(λ_ m=>nomatch m)⟩ ?_ ?_
 .intro i O H2 hi aeB
  refine hide λG_ aG=>?_
  obtain⟨v5,v6,cs,rfl,s2,jU,hl,ho⟩:=aeB
  refine aG.k ?_
  refine⟨_,rfl,_,rfl,_,_,rfl,rfl,(by show(0:Int)<60;decide),_,_,rfl,rfl,a,ns,3+i % 60,by simp,s2.seq hS,?_⟩
  refine⟨_,rfl,_,_,rfl,rfl,⟨by decide,by decide⟩,_,_,rfl,rfl,_,_,rfl,rfl,⟨by show(0:Int)<(i:Int) / 60+1;lia,by show(i:Int) / 60+1<_;lia⟩,?_⟩
  have c0:=E7 (cellAt ns 1 / 4) (show(8:Int)≠0 by decide)
  have c1:=E8 (cellAt ns 1 / 4) (show(0:Int)<8 by decide)
  have m0:(0:Int)<3+cellAt ns 1 / 4 % 8:=by lia
  dsimp only
  generalize cellAt ns (3+i % 60) / ((i:Int) / 60+1)=z
  obtain⟨ch,hch,ar⟩:=aex (z % (3+cellAt ns 1 / 4 % 8)) (E7 _ (Int.ne_of_gt m0)) (by have:=E8 z m0;lia)
  refine⟨_,rfl,.inl ⟨rfl,_,aq.of jU⟩,_,rfl,_,rfl,a,ns,1,rfl,s2.seq hS,_,_,rfl,rfl,⟨by decide,by decide⟩,_,_,rfl,rfl,(by show(0:Int)<8;decide),_,_,rfl,rfl,_,_,rfl,rfl,m0,_,_,ch,rfl,rfl,by decide,hch,g,_,_,rfl,rfl,jU,ki (by rw[av];lia),?_⟩
  refine⟨_,_,cs++[ch],rfl,s2.nh hg,by rw[ao,fG];rfl,by rw[d6,hl];rfl,λc mc=>?_⟩
  rcases dR.mp mc with z | z
  .exact ho c z
  .rw[cJ.mp z];exact ar
 .intro O H2 aeC
  refine hide λG_ bw=>?_
  obtain⟨v5,v6,cs,rfl,s2,jU,hl,ho⟩:=aeC
  refine bw.k ?_
  refine⟨λO H3=>∃(v5 v6:Option V) (cs:List Nat),O=[some (.ref a),some (.int hh),some (.int ww),some (.int (cellAt ns 1 % 4)),some (.ref g),v5,v6]/\ag H H3/\H3 g=some (.lst (cs.map jv))/\cs.length=hh*ww/\∀c∈cs,iS c,?_,?_⟩
  .intro O H3 aeD
   refine hide λG_ cq=>?_
   obtain⟨v5,v6,cs,rfl,s3,xx,hl,ho⟩:=aeD
   refine cq.k ?_
   refine⟨_,rfl,_,rfl,by lia,by lia,?_⟩
   rw[iZ]
   refine comp_map Gi (by rw[av,i5];lia) (λ_ i y _=>y = .str (KN cs ww i)) (λ_ _=>trivial) (λ_ _ _ _ _ _ _ _ h=>h) ?_ ?_
   .intro D i y H4 Z hD hy s4 _ k1
    obtain⟨hi,rfl⟩:=Iu hy
    have Sj:vB (0+(i:Int)) (ww:Int) := .inr ⟨by lia,by lia⟩
    have hle:i*ww+ww<=cs.length:=by
     rw[hl,<-lz]
     exact E3 _ hi
    refine⟨rfl,_,rfl,_,rfl,_,rfl,_,_,rfl,rfl,Sj,_,rfl,_,rfl,_,rfl,_,_,rfl,rfl,Sj,_,rfl,_,_,rfl,rfl,_,rfl,g,_,rfl,aq.of (s4 _ _ xx),λp hp=>?_⟩
    have ec:jH (cs.map jv) (some ((0+(i:Int))*(ww:Int))) (some ((0+(i:Int))*(ww:Int)+(ww:Int)))=(((cs.drop (i*ww)).take ww).map λc=>(⟨#[c]⟩:Str)).map V.str:=by
     rw[A0,mV]
     have:=aey jv cs (i*ww) ww hle
     rw[Int.natCast_add,Int.natCast_mul] at this
     exact this
    dsimp only
    rw[ec]
    have sp:=ag.upd (o:=HO.lst ((((cs.drop (i*ww)).take ww).map λc=>(⟨#[c]⟩:Str)).map V.str)) hp
    refine⟨_,p,_,rfl,rfl,.inl (aq.of ao),?_,?_⟩
    .rw[HZ,av,ij,tY]
     show _+_*0<=_
     lia
    .rw[tY,HY]
     exact k1 _ _ sp rfl
   .intro D ys H4 hD bO s4 pr
    have e:=zv pr
    rw[av,i5] at e
    have e1:ys=((List.range hh).map (KN cs ww)).map V.str:=by rw[e,mV];rfl
    rw[e1] at bO
    exact⟨D,_,rfl,.inl ⟨aq.of bO,λp hp=>q p _ ww _ ((s3.trans s4).trans (ag.upd hp)) ao (aez hd.1 hd.2.1 hd.2.2.1 hd.2.2.2 hl ho)⟩⟩
  .refine⟨_,rfl,_,_,rfl,rfl,_,rfl,?_⟩
   refine iz (λ_=>?_) (λ_=>⟨_,_,cs,rfl,s2,jU,hl,ho⟩)
   refine⟨_,rfl,_,rfl,_,_,rfl,rfl,cm,_,rfl,by rw[hn];lia,by rw[hn];lia,?_⟩
   rw[hn,iZ]
   refine qC (λi O H3=>∃(v5 v6:Option V) (cs:List Nat),O=[some (.ref a),some (.int hh),some (.int ww),some (.int (cellAt ns 1 % 4)),some (.ref g),v5,v6]/\ag H H3/\H3 g=some (.lst (cs.map jv))/\cs.length=hh*ww/\∀c∈cs,iS c) ⟨_,_,cs,rfl,s2,jU,hl,ho⟩ ?_ (λO H3 h=>h)
   intro i O H3 hi aeE
   refine hide λG_ dE=>?_
   obtain⟨v5,v6,cs,rfl,s3,xx,hl,ho⟩:=aeE
   refine dE.k ?_
   refine⟨λO H3=>∃(v5 v6:Option V) (cs:List Nat),O=[some (.ref a),some (.int hh),some (.int ww),some (.int (cellAt ns 1 % 4)),some (.ref g),v5,v6]/\ag H H3/\H3 g=some (.lst (cs.map jv))/\cs.length=hh*ww/\∀c∈cs,iS c,λO H3 h=>h,?_⟩
   obtain⟨ch,hch⟩:∃ch,cs[hh*ww - 1 - i]? = some ch:=⟨_,bt (by lia)⟩
   have oO:gY (cs.map jv) ((hh:Int)*(ww:Int) - 1 - (i:Int))=some (jv ch):=by
    rw[hn,show((hh*ww:Nat):Int) - 1 - (i:Int)=((hh*ww - 1 - i:Nat):Int) by lia]
    exact eF (by rw[bF,hch];rfl)
   have fin:∃(v5' v6':Option V) (KO:List Nat),[some (.ref a),some (.int hh),some (.int ww),some (.int (cellAt ns 1 % 4)),some (.ref g),some (V.int i),v6]=[some (.ref a),some (.int hh),some (.int ww),some (.int (cellAt ns 1 % 4)),some (.ref g),v5',v6']/\ag H (upd H3 g (.lst ((cs.map jv).set i (.str (Str.ofString "#")))))/\upd H3 g (.lst ((cs.map jv).set i (.str (Str.ofString "#")))) g=some (.lst (KO.map jv))/\KO.length=hh*ww/\∀c∈KO,iS c:=by
    refine⟨_,_,cs.set i 35,rfl,s3.nh hg,?_,by rw[AV];exact hl,λc mc=>?_⟩
    .rw[ao,List.map_set,show jv 35 = .str (Str.ofString "#") from eX V.str zf.symm]
    .rcases LK mc with z | z
     .exact ho c z
     .rw[z];exact .inl rfl
   refine⟨_,rfl,_,rfl,_,rfl,_,_,rfl,rfl,cm,_,_,rfl,rfl,_,rfl,_,_,rfl,rfl,g,_,_,jv ch,rfl,rfl,aq.of xx,oO,rfl,_,rfl,?_⟩
   refine iz (λ_=>?_) (λ_=>?_)
   .exact bA ⟨_,rfl,_,rfl,g,_,_,i,rfl,rfl,xx,tu (by rw[av];lia),fin⟩
   .refine⟨_,rfl,a,ns,1,rfl,s3.seq hS,_,_,rfl,rfl,⟨by decide,by decide⟩,_,_,rfl,rfl,(by show(0:Int)<16;decide),rfl,_,rfl,?_⟩
    refine iz (λ_=>?_) (λ_=>⟨_,_,cs,rfl,s3,xx,hl,ho⟩)
    exact⟨_,rfl,_,rfl,g,_,_,i,rfl,rfl,xx,tu (by rw[av];lia),fin⟩
theorem aeF{w:Nat}(hw:0<w):cells h w=(List.range (h*w)).map λk=>(k / w,k % w):=by
 apply i6
 intro k
 by_cases hk:k<h*w
 .have h1:k / w<h:=TN (by rw[E4];exact hk)
  have:=wk (h:=h) h1 (Nat.mod_lt k hw)
  rw[E4,Nat.div_add_mod] at this
  rw[this,bF,rY hk]
  rfl
 .rw[di (by rw[mf];lia),di (by rw[av,i5];lia)]
theorem aeG{w:Nat}(S:bH l w)(c:C2):dP c (dy l w)<=2:=by
 rw[Iy,Hv S,Hw S]
 split <;> split <;> decide
def Sk(K:Frag):Sp:=λvs H Q _=>∃(a:Addr) (l:List Str) (w:Nat),vs=[.ref a]/\H a=some (.tup (l.map V.str))/\bH l w/\∀v H',ag H H'->((fA l w=none/\v = .aw)\/∃c b,fA l w=some c/\v = .ref b/\H' b=some (.tup [.int (c.1:Nat),.int (c.2:Nat)]))->Q v H'
theorem pY:bu ["_law_sheet_here","_law_high","_law_wide","_law_opened","_law_cell","_law_crossed","_law_cells"] ["_law_sheet_here"] (aN (top 76)):={}
theorem aeH(B:Bl mg)(F:aZ K "_law_refused_cell" "_law_refused_cell" (top 76) f fd)(aeI:Fn P w K mg base "_law_rows" 3 (PU K)):aK P w K mg base aS 4 f fd ["_law_sheet_here"] (Sk K):=by
 refine F.bU pY λaF A outer s H vs Q E hr h=>?_
 refine hide λG_ aG=>?_
 obtain⟨a,l,wd,rfl,hT,S,q⟩:=h
 refine aG.k ?_
 have hu:=hr.units
 have cX:=iy hr
 refine⟨_,(az (aX 1 pY.nd (cL lQ (by rfl) B.gc fZ (af (pv 0) aj)))
  (az (aX 2 pY.nd (cL qx (by rfl) B.gc fZ (af (bG cY (pv 0) aI) aj)))
  (az (yo (i:=3) pY.nd rfl (Or.inl rfl) (js:=[2,0]) (ns:=["_law_wide","_law_sheet_here"]) (lH (by rfl) B.mh (af (bz vC (pv 1) (pv 2)) aj)) rfl rfl rfl rfl (λ_ _ _ _=>(oH (cK qu (bG oy (yC (K:=K) (rr:=ya) rfl cY (pv 2) (bz sI (pv 0) (pv 1))) (bz mZ (pv 0) (pv 1))) fW))) (λ_ _ _ _=>(eZ (af (bz sI (pv 0) (pv 1)) (af (bz mZ (pv 0) (pv 1)) aj)))))
  (az (dJ (eD (pv 3)) (cD 4 pY.nd)
  (aB (cn (cK m4 (bG oy (bG cY (pv 0) (bz lI (bz lI (pv 1) aI) (bG cY (pv 4) aI))) (bz lI (bz lI (pv 2) aI) (bG cY (pv 4) aI))) fW)
   (aB (bg (pv 4)))
   cH)))
  (az (aX 5 pY.nd FY)
  (az (dJ (eD (bD aeI hr (af (pv 0) aj))) (cD 6 pY.nd)
  (aB (dJ (eD (pv 6)) (cD 4 pY.nd)
   (aB (vM cX (pv 5) (pv 4) (bz gC (BK cX (pv 5) (pv 4) aI ⟨rfl,rfl,rfl,rfl⟩) aI) rfl)))))
  (az (dJ (eD (pv 3)) (cD 4 pY.nd)
  (aB (cn (cK qu (BK cX (pv 5) (pv 4) aI ⟨rfl,rfl,rfl,rfl⟩) aI)
   (aB (bg (pv 4)))
   cH)))
  (aB (bg gv))))))))),?_⟩
 try dsimp only[bJ]
 have h1:=S.one
 have h9:=S.nine
 have w1:=S.w1
 have w9:=S.w9
 refine hide λG_ bw=>?_
 obtain⟨x0,oV,Cr,_,wx,_⟩:=S.row (show 0<l.length from h1)
 refine bw.k ?_
 have aeJ:gY (l.map V.str) 0=some (.str x0):=show gY (l.map V.str) ((0:Nat):Int)=_ from eF (by rw[bF,oV];rfl)
 have l0:=S.len x0 Cr
 refine⟨_,rfl,a,_,rfl,.inr (aA.of hT),?_⟩
 rw[av]
 refine⟨_,rfl,a,_,0,.str x0,rfl,rfl,aA.of hT,aeJ,x0,rfl,iA (by lia),?_⟩
 rw[l0]
 have cm:vB (l.length:Int) (wd:Int) := .inl ⟨by lia,by lia⟩
 have hn:((l.length:Int)*(wd:Int))=((l.length*wd:Nat):Int):=by simp
 have Sh:l.length*wd<=9*9:=Bc h9 w9
 refine⟨_,rfl,_,rfl,_,_,rfl,rfl,cm,_,rfl,by rw[hn];lia,by rw[hn];lia,?_⟩
 rw[hn,iZ]
 refine nj Gi (by rw[av,i5];lia) (λi=>cN l (i / wd,i % wd)) (λ_ i y H2=>mj H2 (i / wd,i % wd) y) (λ_ _=>trivial) (λD i y H H' _ ⟨o,hD⟩ k ⟨b,e,hb⟩=>⟨b,e,k b _ (bS hb hD (by intro z;cases z)) hb⟩) ?_ ?_
 .intro D i y H2 Z0 Z hD hy s2 _ k0 k1
  refine hide λG_ cq=>?_
  obtain⟨hi,rfl⟩:=Iu hy
  have dv:L9 (0+(i:Int)) (wd:Int):=⟨by lia,by lia⟩
  have c1:i / wd<l.length:=TN (by rw[E4];exact hi)
  have c2:i % wd<wd:=Nat.mod_lt _ w1
  obtain⟨x,hx,mx,_,lx,hj⟩:=S.row c1
  refine cq.k ?_
  have gD:=hj _ c2
  have e1:(0+(i:Int)) / (wd:Int)=((i / wd:Nat):Int):=by rw[A0];rfl
  have e2:(0+(i:Int)) % (wd:Int)=((i % wd:Nat):Int):=by rw[A0];rfl
  refine⟨_,rfl,_,rfl,_,rfl,_,_,rfl,rfl,dv,a,_,_,.str x,rfl,rfl,aA.of (s2 _ _ hT),by rw[e1];exact eF (by rw[bF,hx];rfl),_,rfl,_,rfl,_,_,rfl,rfl,dv.1,x,_,_,rfl,rfl,iA (by lia),by rw[e2];exact eF gD,rfl,_,rfl,?_⟩
  rw[Sd]
  have eo:cN l (i / wd,i % wd) = !decide (sg l (i / wd,i % wd)=35):=rfl
  cases ho:decide (sg l (i / wd,i % wd)=35) with
  |true=>exact bj (k0 _ (ag.dM _) (by rw[eo,ho];rfl))
  |false=>
   refine bA ⟨_,rfl,_,rfl,_,_,rfl,rfl,dv,_,rfl,_,rfl,_,_,rfl,rfl,dv.1,(by show 2<=sizeLine;decide),λt ht=>?_⟩
   refine k1 _ _ (ag.upd ht) (by rw[eo,ho];rfl) ⟨t,rfl,?_⟩
   rw[ao]
   dsimp only
   rw[e1,e2]
 .intro D xs H2 hD bO s2 pr
  rw[av,i5] at pr
  have hC:bC H2 (bZ l wd) xs:=by
   unfold bZ
   rw[aeF w1,EO]
   exact ID pr
  have AB:=hC.length
  refine⟨_,rfl,D,rfl,⟨_,aq.of bO⟩,?_⟩
  refine ke (K:=K) (xs:=xs) (λi O H3=>∃v4,O=[some (.ref a),some (.int (l.length:Int)),some (.int (wd:Int)),some (.ref D),v4,none,none]/\H3=H2/\∀j c,j<i->(bZ l wd)[j]? = some c->nU l c=false)
   ⟨none,rfl,rfl,λj c z=>absurd z (jz _)⟩ (λi O H3 _ ⟨_,_,e,_⟩=>by rw[e];exact aq.of bO) ?_ ?_
  .intro i x O H3 hx aeK
   refine hide λG_ dE=>?_
   obtain⟨v4,rfl,rfl,fY⟩:=aeK
   obtain⟨c,hc,b,rfl,hb⟩:=Paired.get hC hx
   obtain⟨m1,m2⟩:=tS (da.mp (bM hc)).1
   have t1:l.length - 1 - c.1<l.length:=by lia
   have t2:wd - 1 - c.2<wd:=by lia
   obtain⟨y,hy,my,_,ly,hj⟩:=S.row t1
   refine dE.k ?_
   have gD:=hj _ t2
   have ly2:=S.len y my
   refine⟨_,rfl,_,rfl,_,_,rfl,rfl,_,rfl,b,_,0,.int c.1,rfl,rfl,aA.of hb,rfl,_,_,rfl,rfl,a,_,_,.str y,rfl,rfl,aA.of (s2 _ _ hT),?_,_,rfl,_,_,rfl,rfl,_,rfl,b,_,1,.int c.2,rfl,rfl,aA.of hb,rfl,_,_,rfl,rfl,y,_,sg l (l.length - 1 - c.1,wd - 1 - c.2),rfl,rfl,iA (by lia),?_,rfl,_,rfl,?_⟩
   .rw[show(l.length:Int) - 1 - (c.1:Int)=((l.length - 1 - c.1:Nat):Int) by lia]
    exact eF (by rw[bF,hy];rfl)
   .rw[show(wd:Int) - 1 - (c.2:Int)=((wd - 1 - c.2:Nat):Int) by lia]
    exact eF gD
   rw[Sd]
   have et:nU l c=decide (sg l (l.length - 1 - c.1,wd - 1 - c.2)=35):=by
    unfold nU cN
    rw[show c=(c.1,c.2) from rfl,RS S m1 m2,Bool.not_not]
   cases ho:decide (sg l (l.length - 1 - c.1,wd - 1 - c.2)=35) with
   |true=>
    refine bA ⟨_,rfl,q _ _ s2 (.inr ⟨c,b,?_,rfl,hb⟩)⟩
    unfold fA
    rw[Az hc (et.trans ho) fY]
    rfl
   |false=>
    refine bj ⟨_,rfl,rfl,λj x hj e=>?_⟩
    rcases r6.mp hj with z | z
    .exact fY j x z e
    .rw[z,hc] at e
     cases e
     exact et.trans ho
  .rintro O H3 ⟨v4,rfl,rfl,fY⟩
   have iN:(bZ l wd).find? (nU l)=none:=DR λj x e=>fY j x (by rw[<-AB];exact(bR.mp e).1) e
   intro d hd
   have dX:ag H3 (upd H3 d (.dT [])):=ag.upd hd
   have gH:upd H3 d (.dT []) d=some (.dT []):=ao
   have dH:=s2.free hd
   generalize upd H3 d (.dT [])=H0 at dX gH
   refine⟨_,rfl,a,l,wd,rfl,aA.of (dX _ _ (s2 _ _ hT)),S,λg zs H4 hg s4 hG hR=>⟨g,rfl,⟨_,aq.of hG⟩,?_⟩⟩
   have Sm:=(dX.trans s4) _ _ bO
   have KP:=s4 _ _ gH
   have IF:=gR hR
   have mC:=tX S
   have ag2:=zJ l wd
   have uc:bC H4 (bZ l wd) xs:=Paired.bE hC λ_ _ e=>e.mono (dX.trans s4)
   have lg:=s2.trans (dX.trans s4)
   have Sn:∀b o,H4 b=some (.tup o)->b≠d:=λb o z=>bS z KP (by intro y;cases y)
   have Eb:∀b o,H4 b=some (.lst o)->b≠d:=λb o z=>bS z KP (by intro y;cases y)
   rw[jm] at hR
   refine ke (K:=K) (xs:=zs) (λi O H5=>∃v4 v6 kvs,O=[some (.ref a),some (.int (l.length:Int)),some (.int (wd:Int)),some (.ref D),v4,some (.ref d),v6]/\(∀b o,b≠d->H4 b=some o->H5 b=some o)/\H5 d=some (.dT kvs)/\kvs.length<=10*i/\nT kvs (λc=>dP c ((dy l wd).take i)))
    ⟨_,none,[],rfl,λ_ _ _ z=>z,KP,aQ _,λc=>by rw[mS,aC (RW c)];rfl⟩ (λi O H5 _ ⟨_,_,_,_,off,_⟩=>aq.of (off _ _ (Eb _ _ hG) hG)) ?_ ?_
   .intro i x O H5 hx aeL
    refine hide λG_ hU=>?_
    obtain⟨v4,v6,kvs,rfl,off,wy,kq,xu⟩:=aeL
    have hi:i<zs.length:=(bR.mp hx).1
    obtain⟨r,kQ,p,ys,rfl,_,hp,hc⟩:=Paired.get hR hx
    have cI:=mB S (bM kQ)
    rw[qU,bF] at kQ
    obtain⟨row,hq,rfl⟩:=i3.mp kQ
    refine hU.k ?_
    have hys:=gR hc
    have nG:(dy l wd).take (i+1)=(dy l wd).take i++[row]:=by rw[ik,hq];rfl
    refine⟨_,rfl,p,rfl,⟨_,aq.of (off _ _ (Eb _ _ hp) hp)⟩,?_⟩
    refine ke (K:=K) (xs:=ys) (λj O H6=>∃v4 kvs,O=[some (.ref a),some (.int (l.length:Int)),some (.int (wd:Int)),some (.ref D),v4,some (.ref d),some (.ref p)]/\(∀b o,b≠d->H4 b=some o->H6 b=some o)/\H6 d=some (.dT kvs)/\kvs.length<=10*i+j/\nT kvs (λc=>dP c ((dy l wd).take i)+(row.2.take j).count c))
     ⟨v4,kvs,rfl,off,wy,kq,λc=>by simp only[mS,List.count_nil,Nat.add_zero];exact xu c⟩ (λj O H6 _ ⟨_,_,_,fP,_⟩=>aq.of (fP _ _ (Eb _ _ hp) hp)) ?_ ?_
    .intro j x O H6 J2 aeM
     refine hide λG_ ml=>?_
     obtain⟨v4,uN,rfl,fR,gb,J3,gJ⟩:=aeM
     obtain⟨c,gU,b,rfl,hb⟩:=Paired.get hc J2
     refine ml.k ?_
     have hj:j<row.2.length:=(bR.mp gU).1
     have AA:H6 b=some (.tup ((kc c).map kV)):=fR _ _ (Sn _ _ hb) hb
     refine⟨_,rfl,d,rfl,.inr ⟨uN,.inl gb⟩,_,rfl,_,dQ.t gb AA,?_⟩
     rw[gJ.get c]
     refine⟨_,_,rfl,rfl,_,rfl,_,rfl,d,_,rfl,kf.t gb AA (ki (by lia)),?_⟩
     refine⟨_,_,rfl,λb' o ir z=>by rw[ak ir];exact fR b' o ir z,ao,bL (sT _ _ _) (by lia),?_⟩
     have et:row.2.take (j+1)=row.2.take j++[c]:=by rw[ik,gU];rfl
     refine gJ.put c ?_ λx nA=>?_
     .rw[et,LP,List.count_singleton_self]
      lia
     .rw[et,LP,(LL (l:=[c])).mpr (by simpa using nA),Nat.add_zero]
    .intro O H6 aeN
     refine hide λG_ mn=>?_
     obtain⟨v4,uN,rfl,fR,gb,J3,gJ⟩:=aeN
     refine mn.k ?_
     refine⟨_,_,uN,rfl,fR,gb,by lia,λc=>?_⟩
     have:=gJ c
     dsimp only at this ⊢
     rw[gs (l:=row.2) (i:=ys.length) (by lia)] at this
     have e9:dP c ((dy l wd).take (i+1))=dP c ((dy l wd).take i)+row.2.count c:=by rw[nG,RX]
     rw[this]
     simp only[e9]
   .intro O H5 aeO
    refine hide λG_ ui=>?_
    obtain⟨v4,v6,kvs,rfl,off,wy,kq,xu⟩:=aeO
    refine ui.k ?_
    rw[gs (by lia)] at xu
    have So:ag H H5:=λb o e=>off b o (λz=>by rw[z,dH] at e;cases e) (lg _ _ e)
    have Sq:=off _ _ (Eb _ _ Sm) Sm
    refine⟨_,rfl,D,rfl,⟨_,aq.of Sq⟩,?_⟩
    refine ke (K:=K) (xs:=xs) (λi O H6=>∃v4,O=[some (.ref a),some (.int (l.length:Int)),some (.int (wd:Int)),some (.ref D),v4,some (.ref d),v6]/\H6=H5/\∀j c,j<i->(bZ l wd)[j]? = some c->iw l wd c=false)
     ⟨_,rfl,rfl,λj c z=>absurd z (jz _)⟩ (λi O H6 _ ⟨_,_,e,_⟩=>by rw[e];exact aq.of Sq) ?_ ?_
    .intro i x O H6 hx aeP
     refine hide λG_ uj=>?_
     obtain⟨v4,rfl,rfl,pW⟩:=aeP
     obtain⟨c,hc,b,rfl,hb⟩:=Paired.get uc hx
     refine uj.k ?_
     have Sr:=off _ _ (Sn _ _ hb) hb
     have DX:H6 b=some (.tup ((kc c).map kV)):=Sr
     refine⟨_,rfl,d,rfl,.inr ⟨kvs,.inl wy⟩,_,rfl,_,dQ.t wy DX,?_⟩
     rw[xu.get c]
     refine⟨rfl,_,rfl,?_⟩
     have h2:=aeG S c
     rw[C3]
     by_cases h3:dP c (dy l wd)=2
     .rw[aU (by lia)]
      refine bj ⟨_,rfl,rfl,λj x hj e=>?_⟩
      rcases r6.mp hj with z | z
      .exact pW j x z e
      .rw[z,hc] at e
       cases e
       unfold iw
       exact bf (by lia)
     .rw[bf (by lia)]
      refine bA ⟨_,rfl,q _ _ So (.inr ⟨c,b,?_,rfl,Sr⟩)⟩
      unfold fA
      rw[iN,Az hc (by unfold iw;exact aU (by lia)) pW]
      rfl
    .rintro O H6 ⟨v4,rfl,rfl,pW⟩
     refine q _ _ So (.inl ⟨?_,rfl⟩)
     unfold fA
     rw[iN,DR λj x e=>pW j x (by rw[<-AB];exact(bR.mp e).1) e]
     rfl
def Ss(K:Frag):Sp:=λvs H Q _=>∃(p bk a fo:Addr) (rv:V) (l:List Str) (w:Nat),vs=[.ref p,.ref bk,.ref a,rv,.ref fo]/\H a=some (.tup (l.map V.str))/\bH l w/\eW l=false/\H fo=some (.lst [.ref a])/\∀H',ag H H'->Q (.bl true) H'
theorem aeQ:bu ["self","book","sheet","rows","told"] ["self","book","sheet","rows","told"] (aN (inClass (top 42) 0)):={}
theorem aeR(F:aZ K "closes_by" "Whole.closes_by" (inClass (top 42) 0) f fd)(Kb:Fn P w K mg base "free_cells" 3 (Ib K)):aK P w K mg base aS 4 f fd ["self","book","sheet","rows","told"] (Ss K):=by
 refine F.bU aeQ λaF A outer s H vs Q E hr h=>?_
 refine hide λG_ aG=>?_
 obtain⟨p,bk,a,fo,rv,l,wd,rfl,hT,S,hd,cA,q⟩:=h
 refine aG.k ?_
 have hu:=hr.units
 refine⟨_,(aB (bg (Bj (aag (bD Kb hr (af (pv 2) aj))) (Fj (vE (Oi hu) (pv 2) (pv 4)))))),?_⟩
 try dsimp only[bJ]
 refine⟨_,rfl,a,l,wd,rfl,aA.of hT,S,λfp xs H1 hfp s1 hL hC=>⟨_,.inl ⟨xs,aq.of hL,rfl⟩,?_⟩⟩
 have Kd:xs.isEmpty=true:=by
  have e:=P4 S
  rw[hd] at e
  have:=gR hC
  cases xs with
  |nil=>rfl
  |cons y r=>
   cases z:dm l wd with
   |nil=>rw[z] at this;cases this
   |cons _ _=>rw[z] at e;cases e
 rw[Kd]
 have al:dU K H1 ([l].map λs=>D.tup (s.map D.str)) [V.ref a]:=⟨_,_,rfl,⟨a,_,rfl,aA.of (s1 _ _ hT),Ag K _ _⟩,rfl⟩
 refine⟨_,rfl,bA ⟨_,rfl,_,rfl,fo,_,_,.tup (l.map D.str),rfl,aq.of (s1 _ _ cA),al,⟨a,_,rfl,aA.of (s1 _ _ hT),Ag K _ _⟩,?_,?_⟩⟩
 .show max (dep (D.tup (l.map D.str))) 0<=50
  rw[dep,Dz]
  decide
 .have e:(([l].map λs=>D.tup (s.map D.str)).any λd=>fg d (.tup (l.map D.str)))=true:=vf.mpr ⟨_,bK,oJ _⟩
  rw[au cy,e]
  exact q _ s1
def Su(K:Frag)(CW:Addr):Sp:=λvs H Q _=>∃(p dx bk a fo:Addr) (l:List Str) (w:Nat),vs=[.ref p,.ref bk,.ref a,.ref fo]/\H p=some (.ins CW dx [])/\H a=some (.tup (l.map V.str))/\bH l w/\eW l=false/\H fo=some (.lst [.ref a])/\∀H',ag H H'->Q (.bl true) H'
theorem aeS:bu ["self","book","sheet","told"] ["self","book","sheet","told"] (aN (inClass (top 40) 0)):={}
theorem aeT(F:aZ K "closes" "Paper.closes" (inClass (top 40) 0) f fd)(KQ:Mt P w K mg base CW "closes_by" 4 (Ss K) [])(ur:Fn P w K mg base "rows_of" 5 (zm K)):aK P w K mg base aS 6 f fd ["self","book","sheet","told"] (Su K CW):=by
 refine F.bU aeS λaF A outer s H vs Q E hr h=>?_
 refine hide λG_ aG=>?_
 obtain⟨p,dx,bk,a,fo,l,wd,rfl,hp,hT,S,hd,cA,q⟩:=h
 refine aG.k ?_
 refine⟨_,(aB (bg (kj KQ hr (pv 0) (af (pv 1) (af (pv 2) (af (bD ur hr (af (pv 2) aj)) (af (pv 3) aj))))))),?_⟩
 try dsimp only[bJ]
 refine⟨_,rfl,p,dx,_,rfl,hp,rfl,_,rfl,_,rfl,_,rfl,a,l,wd,rfl,aA.of hT,S,λg xa xd H1 hg s1 hL rA rD=>⟨_,rfl,?_⟩⟩
 exact⟨p,bk,a,fo,_,l,wd,rfl,s1 _ _ hT,S,hd,s1 _ _ cA,λH2 s2=>q H2 (s1.trans s2)⟩
end
theorem aeU:bootBuiltins "ValueError"=some (.type "ValueError"):=by decide +kernel
theorem aeV{kvs:List (Key×V)}(h:wH kvs)(n:Int)(e:aM kvs (Sum.inr x:Key)=none):wH (putK kvs (Sum.inr x) (.int n)):=by
 rw[vK _ e]
 intro q mq
 rcases dR.mp mq with z | z
 .exact h q z
 .rw[cJ.mp z]
  exact⟨n,rfl⟩
theorem KR:∀zs:List Str,(Str.join ⟨#[]⟩ zs).cps.toList=zs.flatMap λx=>x.cps.toList
 |[]=>rfl
 |[x]=>by simp[Str.join]
 |x::y::r=>by
  have ih:=KR (y::r)
  show((x++⟨#[]⟩++Str.join ⟨#[]⟩ (y::r):Str)).cps.toList=_
  rw[qL,qL,ih]
  simp
theorem KS{w:Nat}:∀{l:List Str},(∀x∈l,x.length=w)->(l.map (·.length)).sum=l.length*w
 |[],_=>by simp
 |x::r,h=>by
  rw[cF,n8,KS λy m=>h y (cW _ m),h x bK,eJ,lz,Nat.add_comm]
theorem aeW:∀k∈List.range 7,eP (Str.ofString "ab"++Txt.slice (Str.ofString "cdefghi") none (some (1+(k:Int))))=true/\3<=(Str.ofString "ab"++Txt.slice (Str.ofString "cdefghi") none (some (1+(k:Int)))).length/\(Txt.slice (Str.ofString "cdefghi") none (some (1+(k:Int)))).length<=7:=by decide +kernel
theorem rJ.mono{CB:Addr}{H H':Hp}{a bk d:Addr}{l:List Str}{w:Nat}{kvs:List (Key×V)}(s:ag H H')(h:rJ CB H a bk d l w kvs):rJ CB H' a bk d l w kvs:=⟨s _ _ h.hT,h.sh,h.bk.mono s,h.iw,h.wd,h.iv⟩
theorem xw.Sv(h:xw C H e c):wg H e C:=let ⟨dx,_,h1,h2,_⟩:=h;.inr ⟨dx,_,h1,h2⟩
theorem aeX(S:bH l w)(h:∀c∈(Str.join ⟨#[]⟩ l).cps.toList,c=35):bZ l w=[]/\eW l=false/\aV l w=[]:=by
 have hs:∀x∈l,∀c∈x.cps.toList,c=35:=λx mx c mc=>h c (by rw[KR];exact Bb.mpr ⟨x,mx,mc⟩)
 have ho:∀c:C2,c.1<l.length->c.2<w->cN l c=false:=λc c1 c2=>by
  obtain⟨x,hx,mx,_,_,hj⟩:=S.row c1
  unfold cN
  rw[show c=(c.1,c.2) from rfl,hs x mx _ (bM (hj _ c2))]
  rfl
 refine⟨?_,?_,?_⟩
 .unfold bZ
  exact List.filter_eq_nil_iff.mpr λc mc=>by
   have:=tS mc
   rw[ho c this.1 this.2]
   exact cy
 .refine il.mpr λz=>?_
  unfold eW at z
  obtain⟨x,mx,hx⟩:=vf.mp z
  have:=hs x mx 46 (gr hx)
  lia
 .cases e:aV l w with
  |nil=>rfl
  |cons r R=>
   exfalso
   have hr:r∈aV l w:=by rw[e];exact bK
   obtain⟨h2,_,cI⟩:=mB S hr
   have:=cI _ (j5 (l:=r) (n:=0) (by lia))
   rw[ho _ this.1 this.2.1] at this
   cases this.2.2
noncomputable def uQ(l:List Str):D := .tup (l.map D.str)
theorem Sw(l:List Str):dep (uQ l)=1:=by unfold uQ;rw[dep,Dz]
theorem Ed(K:Frag)(h:H a=some (.tup (l.map V.str))):At K H (uQ l) (.ref a):=⟨a,_,rfl,aA.of h,Ag K _ _⟩
def Ee(K:Frag):Sp:=λvs H Q _=>∃(a:Addr) (ns:List Int),vs=[.ref a]/\aq K H a (ns.map V.int)/\ns.length<=63/\∀H',Q (.bl true) H'
section
variable{w:World}
theorem pZ:bu ["_law_script","_law_sheet_here","_law_book","_law_word","_law_due","_law_way","_law_kept","_law_found","_law_paper"] ["_law_script"] (aN (top 78)):={}
theorem aeY{CE:Addr}(B:Bl mg)(F:aZ K "law" "law" (top 78) f fd)(uR:XC K C CE fI "cell")(Ef:XI K C)(KU:XI K CN)(KW:kitOne K (.ref C) (.type "ValueError")=some true)
  (KY:Cs.map (λc=>kitOne K (.ref C) (.ref c))=[some false,some true,some false,some false,some false,some false,some false,some false,some false,some false,some false,some false]) (KZ:Cs.map (λc=>kitOne K (.ref CN) (.ref c))=[some false,some false,some false,some false,some false,some false,some true,some false,some false,some false,some false,some false])
  (rM:Fn P w K mg base "_law_cell_at" 1 (Hz K)) (aeZ:Fn P w K mg base "_law_sheet" 2 (Se K)) (K0:Nw P w K mg base "Book" CB 1 (Po CB)) (K3:Mt P w K mg base CB "put" 4 (CQ CB) [.int 0]) (ae0:Fn P w K mg base "_law_refused_cell" 4 (Sk K)) (ae1:Fn P w K mg base "_law_asked" 88 (Sb K CB C CN)) (Sx:Fn P w K mg base "_law_kinds" 1 (Sa K Cs)) (KJ:y0 P w K mg base "fillings" 87 (AF K CB C CW CC) [.int 2]) (K4:Mt P w K mg base CW "closes" 6 (Su K CW) []) (KL:kH P w K mg base "best" 87 (Kq K CB C CH CC)):aK P w K mg base aS 89 f fd ["_law_script"] (Ee K):=by
 refine F.bU pZ λaF A outer s H vs Q E hr h=>?_
 refine hide λG_ aG=>?_
 obtain⟨a,ns,rfl,hS,hlen,q⟩:=h
 refine aG.k ?_
 have hu:=hr.units
 have cX:=iy hr
 refine⟨_,(az (aX 1 pZ.nd (bD aeZ hr (af (pv 0) aj)))
  (az (aX 2 pZ.nd (XB K0 hr))
  (az (dJ (eD (eE (af fW (af fW (af (bz xX fW (ow yt fW m8 (m9 (bz gC aI (bz mZ (bD rM hr (af (pv 0) (af aI aj))) aI))))) aj))))) (cD 3 pZ.nd)
  (aB (dZ (kj K3 hr (pv 2) (af (pv 3) aj)))))
  (az (aX 4 pZ.nd (bD ae0 hr (af (pv 1) aj)))
  (az (dJ (lH (by rfl) B.mh (af aI aj)) (cD 5 pZ.nd)
  (az (aX 6 pZ.nd (bD ae1 hr (af (pv 2) (af (pv 1) (af (pv 5) aj)))))
   (az (cn (PW.pt (xS (cK vD (pv 4) gv) (xS (cK Fz (pv 6) gv) (Fi (PW.pt (qt (cK qu (pv 5) aI) (sk (cK (Gd hu) (bD Sx hr (af (pv 6) aj)) (eE (af aI aj))))))))))
   (aB (bg jc))
   cH)
   (aB (cn (cK Fz (pv 4) gv)
   (az (cn (PW.pt (qt (cK vD (pv 6) gv) (qt (j8 (jE (cL (jN (K:=K) rfl) (by rfl) B.iT iQ (af (pv 6) (af (Fg (v := .ty "ValueError") (by rfl) B.aay aeU rfl) aj))))) (sk (cK (Gd hu) (bD Sx hr (af (pv 6) aj)) (eE (af aI aj)))))))
    (aB (bg jc))
    cH)
    (aB (cn (PW.pt (qt (cK (Gd hu) (OF (pv 6) rfl) (pv 4)) (sk (j8 (jE (cL Nt (by rfl) B.iT iQ (af (OF (pv 6) rfl) (af (Fg (v := .ty "tuple") (by rfl) B.zc yp rfl) aj))))))))
    (aB (bg jc))
    cH)))
   cH)))))
  (az (cn (cK qu (gE LM PySem.F.slot_str_strip PySem.F.type_str_strip aai (gE LM TR TV Gg fW (af (m5 yb (by rfl) B.zd yq (af (pv 1) aj)) aj)) (af fW aj)) fW)
  (aB (bg jc))
  cH)
  (az (sy (aad KJ (hr.mono (by decide)) (by rfl) (af (pv 2) (af (pv 1) aj))) (om rfl (gy (cD 7 pZ.nd) (gy (cD 8 pZ.nd) oj))))
  (aB (bg (Bj (vE (Nr hu) (pv 7) (eE (af (pv 1) aj))) (Bj (kj K4 hr (pv 8) (af (pv 2) (af (pv 1) (af (eE (af (pv 1) aj)) aj)))) (Fj (vE (Nr hu) (ow VR (Zq KL (hr.mono (by decide)) (by rfl) (af (pv 2) (af (pv 1) aj))) m8 (m9 aI)) (eZ (af (pv 1) (af aI aj)))))))))))))))),?_⟩
 try dsimp only[bJ]
 have k1:kitOne K (.type "tuple") (.type "tuple")=some true:=by kernel_rfl
 refine⟨_,rfl,a,ns,rfl,hS,λsh l wd H1 s1 Sz Sl=>?_⟩
 have SA:=s1.seq hS
 intro p zE K5 SD SE
 refine⟨p,zE,rfl,ao,λd H6 SG B0 SH=>⟨rfl,?_⟩⟩
 have t1:ag H1 (upd (upd H1 zE (.own p)) p (.ins CB zE [])):=(ag.upd SD).trans (ag.upd (by rw[ak (aP SE)];exact K5))
 have t6:ag H1 H6:=λb o e=>SH b o (t1 b o e) (bh e K5)
 have d5:H1 d=none:=t1.free SG
 clear t1 SH SG SE SD K5
 have z0:=E7 (cellAt ns 2) (show(7:Int)≠0 by decide)
 have z1:=E8 (cellAt ns 2) (show(0:Int)<7 by decide)
 obtain⟨k,hk⟩:=vm z0
 obtain⟨D9,h3,h7⟩:=aeW k (ic.mpr (by lia))
 refine⟨_,rfl,a,ns,2,rfl,t6.seq SA,_,_,rfl,rfl,(by show(0:Int)<7;decide),_,_,rfl,rfl,1+(k:Int),by show V.int (1+cellAt ns 2 % 7)=_;rw[hk],_,rfl,by decide,_,_,rfl,rfl,iA (by show 2+_<=_;lia),(by show 3<=sizeLine;decide),λlp tK=>⟨lp,rfl,⟨_,aq.of ao⟩,?_⟩⟩
 revert D9 h3
 generalize Str.ofString "ab"++Txt.slice (Str.ofString "cdefghi") none (some (1+(k:Int)))=x3
 intro D9 h3
 have sl:=ag.upd (o:=HO.lst [.str (Str.ofString "ab"),.str (Str.ofString "ba"),.str x3]) tK
 have hL:upd H6 lp (.lst [.str (Str.ofString "ab"),.str (Str.ofString "ba"),.str x3]) lp=some (.lst (([Str.ofString "ab",Str.ofString "ba",x3]:List Str).map V.str)):=ao
 have B1:=B0.mono sl
 have t7:=t6.trans sl
 have QU:lp≠d:=λz=>by rw[z,B0.dc] at tK;cases tK
 generalize upd H6 lp (.lst [.str (Str.ofString "ab"),.str (Str.ofString "ba"),.str x3])=H7 at sl hL B1 t7
 have lx:∀y:Str,y.length=2->y≠x3:=λy hy z=>by rw[z] at hy;lia
 have dw:([Str.ofString "ab",Str.ofString "ba",x3]:List Str).Nodup:=by
  simp only[ig,cx,fU,n6,not_or,i4,and_true]
  exact⟨⟨by decide +kernel,lx _ rfl⟩,lx _ rfl,λz=>z⟩
 have hw:∀x∈([Str.ofString "ab",Str.ofString "ba",x3]:List Str),eP x=true:=λx mx=>by
  simp only[cx,fU,n6] at mx
  rcases mx with rfl | rfl | rfl
  .decide +kernel
  .decide +kernel
  .exact D9
 have SJ:([Str.ofString "ab",Str.ofString "ba",x3]:List Str).length=3:=rfl
 revert hL dw hw SJ
 generalize ([Str.ofString "ab",Str.ofString "ba",x3]:List Str)=ws
 intro hL dw hw SJ
 refine ke (K:=K) (xs:=ws.map V.str) (λi O H8=>∃(v3:Option V) (kvs:List (Key×V)),O=[some (.ref a),some (.ref sh),some (.ref p),v3,none,none,none,none,none]/\gL CB H8 p d kvs/\aJ kvs=ws.take i/\wH kvs/\(∀b o,b≠d->H7 b=some o->H8 b=some o))
  ⟨none,[],rfl,B1,by rw[mS];rfl,(λ_ mq=>nomatch mq),λ_ _ _ e=>e⟩ (λi O H8 _ ⟨_,_,_,_,_,_,h4⟩=>aq.of (h4 _ _ QU hL)) ?_ ?_
 .intro i y O H8 hi ae2
  refine hide λG_ bw=>?_
  obtain⟨v3,kvs,rfl,S8,uS,K6,s8⟩:=ae2
  rw[bF] at hi
  obtain⟨x,hx,rfl⟩:=i3.mp hi
  have mx:x∈ws:=bM hx
  have Of:i<ws.length:=(bR.mp hx).1
  have nG:ws.take (i+1)=ws.take i++[x]:=by rw[ik,hx];rfl
  have hn:x∉ws.take i:=by
   have h1:(ws.take (i+1)).Nodup:=dw.sublist (AS _ _)
   rw[nG,rZ] at h1
   exact λm=>h1.2.2 x m x (cJ.mpr rfl) rfl
  have hv:=P6 (kvs:=kvs) (x:=x) (by rw[uS];exact hn)
  have nz:kvs.length<64:=by rw[<-nJ,uS,ij];lia
  obtain⟨⟨dx,h1⟩,gb,_⟩:=id S8
  refine bw.k ?_
  refine⟨_,rfl,p,dx,_,rfl,h1,t9 _ (by decide +kernel),_,rfl,p,d,kvs,x,.int 0,rfl,S8,hw x mx,hv,by lia,λH9 S9 ae3=>?_⟩
  refine⟨_,_,rfl,S9,?_,aeV K6 0 hv,λb o nb e=>ae3 b o nb (s8 b o nb e)⟩
  rw[C4 _ hv,uS,nG]
 .intro O H8 ae4
  refine hide λG_ cq=>?_
  obtain⟨v3,kvs,rfl,S8,uS,K6,s8⟩:=ae4
  refine cq.k ?_
  rw[av,gs (aQ _)] at uS
  have t8:ag H1 H8:=λb o e=>s8 b o (bh e d5) (t7 b o e)
  have PX:rJ CB H8 sh p d l wd kvs:=⟨t8 _ _ Sz,Sl,S8,by rw[<-nJ,uS];lia,by rw[uS];exact hw,K6⟩
  clear B0 B1 t6 t7 t8 sl s8 hL S8 Sz hS SA s1
  refine⟨_,rfl,sh,l,wd,rfl,PX.hT,Sl,λdv H9 s9 K7=>?_⟩
  have PX:=PX.mono s9
  refine⟨_,rfl,by decide,by decide,?_⟩
  refine qC (λi O HA=>∃v5 v6,O=[some (.ref a),some (.ref sh),some (.ref p),v3,some dv,v5,v6,none,none]/\ag H9 HA) ⟨none,none,rfl,ag.dM _⟩ ?_ ?_
  .rintro i O HA hi ⟨v5,v6,rfl,sA⟩
   have hi3:i<3:=hi
   have PA:=PX.mono sA
   refine⟨_,rfl,_,rfl,_,rfl,sh,p,d,l,wd,i,kvs,rfl,PA,hi3,λc hc e HB sB hx=>?_,λEg=>⟨λHB sB=>?_,λue e HB sB he=>?_⟩⟩
   .obtain⟨c',b,e1,rfl,hb⟩:∃c' b,fA l wd=some c'/\dv = .ref b/\H9 b=some (.tup [.int (c'.1:Nat),.int (c'.2:Nat)]):=by
     rcases K7 with ⟨z,_⟩ | z
     .rw[hc] at z;cases z
     .exact z
    rw[hc] at e1
    cases e1
    have SK:=sA.trans sB
    refine⟨_,rfl,rfl,_,rfl,bj (bj ?_)⟩
    refine⟨_,rfl,rfl,_,rfl,bA ?_⟩
    refine⟨_,rfl,rfl,_,rfl,bj ?_⟩
    refine⟨_,rfl,e,C,_,.type "ValueError",true,rfl,hx.Sv,Ef,λu r=>r,KW,_,rfl,bj ?_⟩
    refine⟨_,rfl,e,C,false,true,false,false,false,false,false,false,false,false,false,false,rfl,hx.Sv,Ef,KY,λl1 HC sC uT=>?_⟩
    refine⟨(by show 1<=sizeLine;decide),λr hr=>?_⟩
    have sD:=ag.upd (o:=HO.lst [V.int 1]) hr
    have uT:HC l1=some (.lst [.int 1]):=uT
    refine⟨.lst [.int 1],.lst [.int 1],⟨l1,_,rfl,aq.of (sD _ _ uT),_,_,rfl,rfl,rfl⟩,⟨r,_,rfl,aq.of ao,_,_,rfl,rfl,rfl⟩,.inr ⟨_,_,rfl,rfl⟩,by decide,_,rfl,?_⟩
    rw[aC rfl,oJ]
    have SM:=hx.mono (sC.trans sD)
    have K8:=sC.trans sD
    generalize upd HC r (.lst [V.int 1])=HD at SM K8
    refine bj ?_
    obtain⟨dx,b',h1,h2,h3⟩:=SM
    refine⟨_,rfl,e,C,CE,fI,dx,_,.ref b',rfl,h1,h2,uR,rfl,_,rfl,?_⟩
    refine⟨.tup [.int (c.1:Nat),.int (c.2:Nat)],.tup [.int (c.1:Nat),.int (c.2:Nat)],⟨b',_,rfl,aA.of h3,_,_,rfl,rfl,_,_,rfl,rfl,rfl⟩,⟨b,_,rfl,aA.of ((SK.trans K8) _ _ hb),_,_,rfl,rfl,_,_,rfl,rfl,rfl⟩,.inl ⟨_,_,rfl,rfl⟩,by show 1<=50;decide,_,rfl,?_⟩
    rw[aC rfl,oJ]
    refine bj ⟨_,rfl,e,C,CE,fI,dx,_,.ref b',rfl,h1,h2,uR,rfl,_,_,_,true,⟨rfl,.tup h3,k1⟩,_,rfl,bj ?_⟩
    exact⟨_,_,rfl,SK.trans K8⟩
   .obtain rfl:dv = .aw:=by
     rcases K7 with ⟨_,z⟩ | ⟨c,b,z,_⟩
     .exact z
     .rw[Eg] at z;cases z
    refine⟨_,rfl,rfl,_,rfl,bA ⟨_,rfl,rfl,_,rfl,bj (bj ?_)⟩⟩
    exact⟨_,rfl,rfl,_,rfl,bj ⟨_,_,rfl,sA.trans sB⟩⟩
   .obtain rfl:dv = .aw:=by
     rcases K7 with ⟨_,z⟩ | ⟨c,b,z,_⟩
     .exact z
     .rw[Eg] at z;cases z
    subst ue
    refine⟨_,rfl,rfl,_,rfl,bA ⟨_,rfl,rfl,_,rfl,bA ?_⟩⟩
    refine⟨_,rfl,rfl,_,rfl,?_⟩
    rw[C3,aU (by decide)]
    refine bj ⟨_,rfl,e,CN,false,false,false,false,false,false,true,false,false,false,false,false,rfl,.inl he,KU,KZ,λl1 HC sC uT=>?_⟩
    refine⟨(by show 1<=sizeLine;decide),λr hr=>?_⟩
    have sD:=ag.upd (o:=HO.lst [V.int 6]) hr
    have uT:HC l1=some (.lst [.int 6]):=uT
    refine⟨.lst [.int 6],.lst [.int 6],⟨l1,_,rfl,aq.of (sD _ _ uT),_,_,rfl,rfl,rfl⟩,⟨r,_,rfl,aq.of ao,_,_,rfl,rfl,rfl⟩,.inr ⟨_,_,rfl,rfl⟩,by decide,_,rfl,?_⟩
    rw[aC rfl,oJ]
    refine bj ?_
    exact⟨_,rfl,rfl,_,rfl,bj ⟨_,_,rfl,(sA.trans sB).trans (sC.trans sD)⟩⟩
  .rintro O HA ⟨v5,v6,rfl,sA⟩
   have PA:=PX.mono sA
   clear PX
   have hs9:=Sl.nine
   have yn:=Sl.w9
   have Sh:l.length*wd<=9*9:=Bc hs9 yn
   have hjl:(Str.join ⟨#[]⟩ l).length<=81:=by
    rw[<-cV,KR,List.length_flatMap]
    simp only[cV]
    rw[KS Sl.len]
    lia
   refine⟨rfl,_,rfl,sh,_,rfl,.inr (aA.of PA.hT),λlq jW=>⟨_,lq,l,rfl,rfl,.inl (aq.of ao),?_,rfl,_,_,rfl,rfl,?_,rfl,_,rfl,?_⟩⟩
   .rw[KS Sl.len,tY]
    show _+_*0<=_
    lia
   .rw[tY]
    exact iA (by lia)
   have PB:=PA.mono (ag.upd (o:=HO.lst (l.map V.str)) jW)
   generalize upd HA lq (.lst (l.map V.str))=HB at PB
   refine iz (λ_=>q _) (λSN=>?_)
   have SO:(Txt.stripChars (Str.join ⟨#[]⟩ l) (Str.ofString "#")).length=0:=by
    have e:=E2 λn=>SN (by rw[bf n];rfl)
    injection e with e
    rw[tY] at e
    rw[e]
    rfl
   obtain⟨ho,fS,iW⟩:=aeX Sl λc mc=>by
    have:=strip_nil SO c mc
    rw[show(Str.ofString "#")=⟨#[35]⟩ from zf] at this
    simpa using this
   clear SN SO hjl
   have Eg:fA l wd=none:=by unfold fA;rw[ho];rfl
   have dN:dF (aJ kvs) l wd=true:=C5 fS (by unfold d0;rw[iW];exact i4) (λx mx=>by unfold d0 at mx;rw[iW] at mx;cases mx)
   have one:∀s,bY s l wd->s=l:=λs A=>A.same Sl fS
   have XR:∀{E:XK}{H:Hp},D5 C l wd E H:=λ{E H} c b H1 hc _ _=>by rw[Eg] at hc;cases hc
   refine⟨_,rfl,_,rfl,sh,p,d,l,wd,2,kvs,rfl,PB,by decide,by decide,XR,λ_ t fo v ts new HC sC ht cA hF ae5 DO uM=>?_⟩
   have hle:new.length<=1:=oU (m:=[l]) ae5 λs ms=>cJ.mpr (one s (DO s ms).1)
   refine hide λG_ dE=>?_
   obtain⟨pw,dr,rfl,Af,hm⟩:∃pw dr,v = .ref pw/\HC pw=some (.ins CW dr [])/\l∈new:=by
    rcases uM with z | ⟨_,_,dG⟩
    .lia
    .rcases dG with ⟨pw,dr,e,Af,_,hm⟩ | ⟨_,_,_,pl,_,_,_,_,_,_,aL,_⟩
     .exact⟨pw,dr,e,Af,hm⟩
     .rw[iW] at aL;cases aL
   obtain⟨t0,rfl,ht0⟩:∃t0,ts=[t0]/\HC t0=some (.tup (l.map V.str)):=by
    cases hF with
    |nil=>cases hm
    |cons h r=>
     cases r with
     |nil=>exact⟨_,rfl,by rw[cJ.mp hm];exact h⟩
     |cons _ _=>simp at hle
   refine dE.k ?_
   have PC:=PB.mono sC
   refine⟨t,_,rfl,aA.of ht,rfl,_,_,rfl,_,_,rfl,rfl,?_⟩
   refine⟨_,rfl,_,rfl,(by show 1<=sizeLine;decide),λr hr=>?_⟩
   have sD:=ag.upd (o:=HO.lst [V.ref sh]) hr
   refine⟨.lst [uQ l],.lst [uQ l],⟨fo,_,rfl,aq.of (sD _ _ cA),_,_,rfl,Ed K (sD _ _ ht0),rfl⟩,⟨r,_,rfl,aq.of ao,_,_,rfl,Ed K (sD _ _ PC.hT),rfl⟩,.inr ⟨_,_,rfl,rfl⟩,?_,_,rfl,?_⟩
   .rw[dep,fN,Sw];decide
   rw[au cy,oJ]
   have PD:=PC.mono sD
   have K9:=sD _ _ Af
   generalize upd HC r (.lst [V.ref sh])=HD at PD K9
   refine bA ⟨_,rfl,pw,dr,_,rfl,K9,rfl,_,rfl,_,rfl,_,rfl,(by show 1<=sizeLine;decide),λr2 GR=>?_⟩
   have sE:=ag.upd (o:=HO.lst [V.ref sh]) GR
   refine⟨pw,dr,p,sh,r2,l,wd,rfl,sE _ _ K9,sE _ _ PD.hT,Sl,fS,ao,λHE sE'=>⟨_,rfl,bA ?_⟩⟩
   have PE:=(PD.mono sE).mono sE'
   refine⟨_,rfl,_,rfl,sh,p,d,l,wd,kvs,rfl,PE,XR,λ_ t2 x y v2 o HF sF nH hb=>?_⟩
   rcases hb with ⟨_,_,_,iN⟩ | ⟨sa,s2,c,rfl,rfl,Dh,_,hc,A2,_,_⟩
   .exact(iN l (bY.refl Sl) dN).elim
   rw[one s2 A2] at Dh hc
   have yj:c=0:=by rw[hc];unfold uv;rw[iW];rfl
   subst yj
   refine⟨_,rfl,t2,_,rfl,aA.of nH,(by show ¬(HT.bI 3 0 none=0/\HT.bI 3 3 (some 2)=3);decide),λp2 gF=>?_⟩
   have sG:=ag.upd (o:=HO.tup [V.ref sa,V.int 0]) gF
   refine⟨_,rfl,(by show 2<=sizeLine;decide),λp3 jt=>?_⟩
   have sH:ag (upd HF p2 (.tup [V.ref sa,V.int 0])) (upd (upd HF p2 (.tup [V.ref sa,V.int 0])) p3 (.tup [V.ref sh,V.int 0])):=ag.upd jt
   have g2:upd (upd HF p2 (.tup [V.ref sa,V.int 0])) p3 (.tup [V.ref sh,V.int 0]) p2=some (.tup [V.ref sa,V.int 0]):=sH _ _ ao
   refine⟨.tup [uQ l,.int 0],.tup [uQ l,.int 0],⟨p2,_,rfl,aA.of g2,_,_,rfl,Ed K (sH _ _ (sG _ _ Dh)),_,_,rfl,rfl,rfl⟩,⟨p3,_,rfl,aA.of ao,_,_,rfl,Ed K (sH _ _ (sG _ _ (sF _ _ PE.hT))),_,_,rfl,rfl,rfl⟩,.inl ⟨_,_,rfl,rfl⟩,?_,?_⟩
   .rw[dep,fN,Sw];decide
   rw[au cy,oJ]
   exact q _
end
abbrev hN(K:Frag)(x:Str)(f:Addr):Prop:=nsIn K mainGlobals x=some (some (.ref f))
abbrev hZ(K:Frag)(x:Str):Prop:=nsIn K mainGlobals x=some none
abbrev hL(K:Frag)(f:Addr)(nm ql:Str)(st:Stmt)(df oc:Value)(od an:Option Addr)(kV dc pm cd ct:Value)(sl:Array (Option Value)):Prop:=K.lookup f=some ⟨oc,od,.func (fnOf nm ql (qz st) (jI st) (aN st) df kV dc pm an cd ct),sl⟩
def hD(K:Frag)(nm ql:Str)(st:Stmt)(df:Value)(f:Addr):Prop := ∃oc od an kV dc pm cd ct sl,hL K f nm ql st df oc od an kV dc pm cd ct sl/\codeIn K cd ql=true/\keepIn K (.ref f)=true
def hF(K:Frag)(nm:Str)(st:Stmt)(df:Value)(f:Addr):Prop:=hN K nm f/\hD K nm nm st df f
def hM(K:Frag)(C:Addr)(nm ql:Str)(st:Stmt)(df:Value)(f:Addr):Prop:=findIn K (.ref C) nm=some (some (.ref f))/\isFn K (.ref f)=true/\hD K nm ql st df f
def hT(K:Frag)(x:Str)(C:Addr):Prop:=hN K x C/\plainGet K C Str.empty=true/\hasDictIn K C=true/\plainOver K C=true/\findIn K (.ref C) "__setattr__"=some (some (.builtin "object.__setattr__"))/\makesIn K C=true/\keepIn K (.ref C)=true
def hV(K:Frag)(T:Addr)(n:Int):Prop := ∃od tk k sl,K.lookup T=some ⟨.type "tuple",od,.seq #[.int n tk] k,sl⟩
section
variable{K:Frag}{nm ql x:Str}{st:Stmt}{df:Value}{f C T:Addr}{n:Int}{oc:Value}{od an:Option Addr}{kV dc pm cd ct:Value}{sl:Array (Option Value)}{tk:Tok}{k:Nat}
theorem hF_mk(a:hN K nm f)(l:hL K f nm nm st df oc od an kV dc pm cd ct sl)(c:codeIn K cd nm=true)(q:keepIn K (.ref f)=true):hF K nm st df f:=⟨a,_,_,_,_,_,_,_,_,_,l,c,q⟩
theorem hM_mk(a:findIn K (.ref C) nm=some (some (.ref f)))(i:isFn K (.ref f)=true)(l:hL K f nm ql st df oc od an kV dc pm cd ct sl)(c:codeIn K cd ql=true)(q:keepIn K (.ref f)=true):hM K C nm ql st df f:=⟨a,i,_,_,_,_,_,_,_,_,_,l,c,q⟩
theorem hT_mk(a:hN K x C)(b:plainGet K C Str.empty=true)(c:hasDictIn K C=true)(d:plainOver K C=true)(e:findIn K (.ref C) "__setattr__"=some (some (.builtin "object.__setattr__")))(g:makesIn K C=true)(q:keepIn K (.ref C)=true):hT K x C:=⟨a,b,c,d,e,g,q⟩
theorem hV_mk(l:K.lookup T=some ⟨.type "tuple",od,.seq #[.int n tk] k,sl⟩):hV K T n:=⟨_,_,_,_,l⟩
theorem hT.cls(t:hT K x C):cS K C:=⟨t.2.1,t.2.2.1,t.2.2.2.1,t.2.2.2.2.1⟩
end
section
variable{P:Program}{w:World}{K:Frag}{mg:Str->Option Value}{base h:Heap}
def AK(K:Frag)(nm ql:Str)(st:Stmt)(f:Addr)(ps:List Str):Prop := ∀fd,aZ K nm ql st f fd->Binds K fd ps []
theorem SQ(X:K.In h)(G:h.Ns mainGlobals mg){nm:Str}{st:Stmt}{f:Addr}{ps:List Str}{k:Nat}{sp:Sp}(a:hF K nm st .none f)(ok:∀fd,aZ K nm nm st f fd->mg nm=some (.ref f)->keepIn K (.ref f)=true->Binds K fd ps []->aK P w K mg base aS k f fd ps sp)
  (hb:AK K nm nm st f ps:=by intro _ F;exact F.binds λ_ _ _ _ _ _=>by first | exact yx λ_=>rfl | exact qD λ_ _=>rfl | exact tw λ_ _ _=>rfl | exact yz λ_ _ _ _=>rfl | exact yA λ_ _ _ _ _=>rfl):Fn P w K mg base nm k sp:=by
 obtain⟨a,_,_,_,_,_,_,_,_,_,l,c,q⟩:=a
 have F:=vN l c q
 have m:=dj X G a
 have b:=hb _ F
 exact⟨_,_,_,ok _ F m q b,m,q,b⟩
theorem vF(X:K.In h)(G:h.Ns mainGlobals mg){nm:Str}{st:Stmt}{f:Addr}{ps:List Str}{k:Nat}{sp:Sp}(a:hF K nm st .none f)(ok:∀fd,aZ K nm nm st f fd->aK P w K mg base aS k f fd ps sp)
  (hb:AK K nm nm st f ps:=by intro _ F;exact F.binds λ_ _ _ _ _ _=>by first | exact yx λ_=>rfl | exact qD λ_ _=>rfl | exact tw λ_ _ _=>rfl | exact yz λ_ _ _ _=>rfl | exact yA λ_ _ _ _ _=>rfl):Fn P w K mg base nm k sp:=SQ X G a (λfd F _ _ _=>ok fd F) hb
theorem ae6{C:Addr}{nm ql:Str}{st:Stmt}{f:Addr}{ps:List Str}{k:Nat}{sp:Sp}(T:cS K C)(a:hM K C nm ql st .none f)(ok:∀fd,aZ K nm ql st f fd->aK P w K mg base aS k f fd ps sp)
  (hb:AK K nm ql st f ps:=by intro _ F;exact F.binds λ_ _ _ _ _ _=>by first | exact yx λ_=>rfl | exact qD λ_ _=>rfl | exact tw λ_ _ _=>rfl | exact yz λ_ _ _ _=>rfl | exact yA λ_ _ _ _ _=>rfl):Mt P w K mg base C nm k sp []:=by
 obtain⟨a,i,_,_,_,_,_,_,_,_,_,l,c,q⟩:=a
 have F:=vN l c q
 exact⟨T,_,_,_,_,⟨a,i,q⟩,ok _ F,hb _ F,.nil⟩
theorem ae7(X:K.In h)(G:h.Ns mainGlobals mg){x:Str}{C:Addr}{ql:Str}{st:Stmt}{f:Addr}{ps:List Str}{k:Nat}{sp:Sp}(t:hT K x C)(a:hM K C "__init__" ql st .none f)(ok:∀fd,aZ K "__init__" ql st f fd->aK P w K mg base aS k f fd ps sp)
  (hb:AK K "__init__" ql st f ps:=by intro _ F;exact F.binds λ_ _ _ _ _ _=>by first | exact yx λ_=>rfl | exact qD λ_ _=>rfl | exact tw λ_ _ _=>rfl | exact yz λ_ _ _ _=>rfl | exact yA λ_ _ _ _ _=>rfl):Nw P w K mg base x C k sp:=by
 obtain⟨a,i,_,_,_,_,_,_,_,_,_,l,c,q⟩:=a
 have F:=vN l c q
 exact⟨_,_,_,⟨t.2.2.2.2.2.1,a,i,t.2.2.2.2.2.2⟩,ok _ F,hb _ F,dj X G t.1⟩
end
theorem ae8{P:Program}{w:World}{K:Frag}{mg:Str->Option Value}{base h:Heap}(X:K.In h)(G:h.Ns mainGlobals mg){nm:Str}{st:Stmt}{f:Addr}{ps:List Str}{k:Nat}{sp:Sp}(a:hF K nm st .none f)(ok:∀fd,aZ K nm nm st f fd->aK P w K mg base (eN P w) k f fd ps sp)
  (hb:AK K nm nm st f ps:=by intro _ F;exact F.binds λ_ _ _ _ _ _=>by first | exact yx λ_=>rfl | exact qD λ_ _=>rfl | exact tw λ_ _ _=>rfl | exact yz λ_ _ _ _=>rfl | exact yA λ_ _ _ _ _=>rfl):kH P w K mg base nm k sp:=by
 obtain⟨a,_,_,_,_,_,_,_,_,_,l,c,q⟩:=a
 have F:=vN l c q
 exact⟨_,_,_,ok _ F,dj X G a,q,hb _ F⟩
theorem all_mk{l:OpenLaw}{w:World}{h:Heap}(X:K.In h)(G:h.Ns mainGlobals mg)(hfa:mg "law"=some (.ref fa))
  {f0 f1 f2 f3 f4 f5 f6 f7 f8 f9 f10 f11 f12 f13 f14 SR f16 f17 Eh f19 f20 f21 f22 f23 f24 f25 f26 f27 f28 f29 f30 f31 f32 f33 f34 f35 f36 f37 f38 f39 f40 La f42 f43 f44 f45 SU f47 f48 f49 f50 f51 f52 f53 f54 f55 f56 SV SW:Addr}
  (SX:hT K "Book" iL)
  (rN:bQ K iL "worths")
  (SY:hT K "Ground" rO)
  (S0:bQ K rO "sheet")
  (Lb:bQ K rO "cells")
  (S3:bQ K rO "crossings")
  (S4:bQ K rO "worths")
  (S5:bQ K rO "known")
  (S6:hT K "Standing" nV)
  (Ei:bQ K nV "ground")
  (AL:bQ K nV "patterns")
  (AM:bQ K nV "fits")
  (S7:hT K "Cases" xy)
  (ae9:bQ K xy "place")
  (afa:bQ K xy "parts")
  (afb:nsIn K mainGlobals "Short"=some (some (.ref AN))) (afc:makesIn K AN=true) (afd:findIn K (.ref AN) "__init__"=some (some (.builtin "object.__init__"))) (afe:keepIn K (.ref AN)=true)
  (Ta:nsIn K mainGlobals "Whole"=some (some (.ref gQ))) (aff:makesIn K gQ=true) (afg:findIn K (.ref gQ) "__init__"=some (some (.builtin "object.__init__"))) (afh:keepIn K (.ref gQ)=true)
  (Lc:nsIn K mainGlobals "CrossError"=some (some (.ref iY)))
  (Ld:nsIn K mainGlobals "NoFloor"=some (some (.ref fB)))
  (Le:nsIn K mainGlobals "NotFilled"=some (some (.ref jZ)))
  (afi:nsIn K mainGlobals "NoSheet"=some (some (.ref Ej)))
  (afj:nsIn K mainGlobals "NoWord"=some (some (.ref Ek)))
  (afk:nsIn K mainGlobals "Twice"=some (some (.ref El)))
  (afl:nsIn K mainGlobals "NotThere"=some (some (.ref Em)))
  (afm:nsIn K mainGlobals "NoLine"=some (some (.ref En)))
  (afn:nsIn K mainGlobals "NoMatch"=some (some (.ref Eo)))
  (afo:nsIn K mainGlobals "NoWorking"=some (some (.ref Ep)))
  (afp:nsIn K mainGlobals "NoStep"=some (some (.ref Er)))
  (afq:nsIn K mainGlobals "NoName"=some (some (.ref Es)))
  (afr:nsIn K mainGlobals "NoDeed"=some (some (.ref Et)))
  (a0:hF K "_law_cell_at" (top 70) .none f0)
  (a1:hF K "sign_at" (top 21) .none f1)
  (a2:hF K "is_open" (top 22) .none f2)
  (a3:hF K "all_cells" (top 20) .none f3)
  (a4:hF K "open_cells" (top 18) .none f4)
  (a5:hF K "is_open_within" (top 30) .none f5)
  (a6:hF K "row_from" (top 29) .none f6)
  (a7:hF K "rows_of" (top 28) .none f7)
  (a8:hF K "pattern" (top 34) .none f8)
  (a9:hF K "free_cells" (top 19) .none f9)
  (Hc:hF K "with_sign" (top 24) .none f10)
  (a11:hF K "is_letters" (top 58) .none f11)
  (a12:hF K "is_word" (top 64) .none f12)
  (a13:hF K "need_word" (top 63) .none f13)
  (a14:hM K iL "__init__" "Book.__init__" (inClass (top 62) 0) .none f14)
  (Eu:hM K iL "put" "Book.put" (inClass (top 62) 1) (.ref SV) SR)
  (Lf:hV K SV 0)
  (a16:hM K iL "need_there" "Book.need_there" (inClass (top 62) 8) .none f16)
  (a17:hM K iL "has" "Book.has" (inClass (top 62) 7) .none f17)
  (Tb:hM K iL "worth" "Book.worth" (inClass (top 62) 4) .none Eh)
  (a19:hM K iL "words" "Book.words" (inClass (top 62) 3) .none f19)
  (a20:hF K "words_fitting" (top 65) .none f20)
  (a21:hM K iL "fitting" "Book.fitting" (inClass (top 62) 5) .none f21)
  (a22:hF K "_law_open" (top 71) .none f22)
  (a23:hF K "_law_run" (top 72) .none f23)
  (a24:hF K "_law_rows" (top 73) .none f24)
  (a25:hF K "put_word" (top 37) .none f25)
  (a26:hF K "crossings_on" (top 49) .none f26)
  (a27:hF K "crossings_of" (top 48) .none f27)
  (a28:hM K rO "__init__" "Ground.__init__" (inClass (top 45) 0) .none f28)
  (a29:hM K rO "narrowed" "Ground.narrowed" (inClass (top 45) 1) .none f29)
  (a30:hM K nV "__init__" "Standing.__init__" (inClass (top 46) 0) .none f30)
  (a31:hM K nV "left" "Standing.left" (inClass (top 46) 3) .none f31)
  (a32:hM K nV "narrowest" "Standing.narrowest" (inClass (top 46) 2) .none f32)
  (a33:hM K nV "filled" "Standing.filled" (inClass (top 46) 5) .none f33)
  (a34:hM K nV "after" "Standing.after" (inClass (top 46) 1) .none f34)
  (a35:hF K "first_standing" (top 47) .none f35)
  (a36:hM K nV "ceiling" "Standing.ceiling" (inClass (top 46) 4) .none f36)
  (a37:hM K xy "__init__" "Cases.__init__" (inClass (top 41) 0) .none f37)
  (a38:hF K "bounding_paper" (top 55) .none f38)
  (a39:hF K "closing_paper" (top 52) .none f39)
  (a40:hF K "turned" (top 23) .none f40)
  (Tc:hM K fB "__init__" "NoFloor.__init__" (inClass (top 4) 0) .none La)
  (a42:hF K "rows_through" (top 32) .none f42)
  (a43:hF K "need_floor" (top 31) .none f43)
  (a44:hF K "is_filling" (top 35) .none f44)
  (a45:hF K "need_filling" (top 36) .none f45)
  (Ew:hF K "fillings" (top 51) (.ref SW) SU)
  (Lg:hV K SW 2)
  (a47:hF K "best" (top 54) .none f47)
  (a48:hF K "other_filling" (top 68) .none f48)
  (a49:hF K "least" (top 67) .none f49)
  (a50:hF K "_law_kinds" (top 74) .none f50)
  (a51:hF K "_law_asked" (top 77) .none f51)
  (a52:hF K "_law_sheet" (top 75) .none f52)
  (a53:hF K "_law_refused_cell" (top 76) .none f53)
  (a54:hM K gQ "closes_by" "Whole.closes_by" (inClass (top 42) 0) .none f54)
  (a55:hM K gQ "closes" "Paper.closes" (inClass (top 40) 0) .none f55)
  (Lh:hF K "law" (top 78) .none f56)
  {afs:Tok}(aft:nsIn K mainGlobals "SHUT"=some (some (.str "#" afs)))
  {afv:Nat}{afx afy:Tok}
  (afz:nsIn K mainGlobals "ACROSS"=some (some (.ref Td)))
  (afA:K.lookup Td=some ⟨.type "tuple",afu,.seq #[.int 0 afx,.int 1 afy] afv,afw⟩)
  {afC:Nat}{afE afF:Tok}
  (afG:nsIn K mainGlobals "DOWN"=some (some (.ref Te)))
  (afH:K.lookup Te=some ⟨.type "tuple",afB,.seq #[.int 1 afE,.int 0 afF] afC,afD⟩)
  {afI:Tok}(afJ:nsIn K mainGlobals "FREE"=some (some (.str "." afI)))
  {afK:Tok}(afL:nsIn K mainGlobals "LETTERS"=some (some (.str "abcdefghijklmnopqrstuvwxyz" afK)))
  {afM:Tok}(afN:nsIn K mainGlobals "LEAST_LETTERS"=some (some (.int 2 afM)))
  {afO:Tok}(afP:nsIn K mainGlobals "MOST_LETTERS"=some (some (.int 9 afO)))
  (KW:kitOne K (.ref fB) (.type "ValueError")=some true)
  (KY:[Ej,fB,Ek,El,Em,En,jZ,Eo,Ep,Er,Es,Et].map (λc=>kitOne K (.ref fB) (.ref c))=[some false,some true,some false,some false,some false,some false,some false,some false,some false,some false,some false,some false])
  (KZ:[Ej,fB,Ek,El,Em,En,jZ,Eo,Ep,Er,Es,Et].map (λc=>kitOne K (.ref jZ) (.ref c))=[some false,some false,some false,some false,some false,some false,some true,some false,some false,some false,some false,some false])
  (zB:hZ K "len"/\hZ K "range"/\hZ K "tuple"/\hZ K "list"/\hZ K "str"/\hZ K "isinstance"/\hZ K "all"/\hZ K "sorted"/\hZ K "enumerate"/\hZ K "zip"/\hZ K "dict"/\hZ K "min"/\hZ K "sum"/\hZ K "reversed"/\hZ K "ValueError")
  (gcI:specialIn K (.builtin "object.__class__") "__get__"=some (some (.builtin "getset_descriptor.__get__"))) (tcI:takesIn K (.builtin "object.__class__")=some true)
  (afQ:plainGet K gQ Str.empty=true) (afR:hasDictIn K gQ=true) (afS:plainOver K gQ=true) (afT:findIn K (.ref gQ) "__setattr__"=some (some (.builtin "object.__setattr__")))
  (afU:findIn K (.ref gQ) "__class__"=some (some (.builtin "object.__class__"))) (afV:mroIn K gQ (.type "object")=some true)
  (afW:specialIn K (.ref Eh) "__get__"=some (some (.builtin "function.__get__"))) (afX:takesIn K (.ref Eh)=some false)
  (egX:specialIn K (.ref iY) "__getattribute__"=some (some (.builtin "type.__getattribute__"))) (erX:PySem.W.readsIn K iY (.type "type")=true) (efX:PySem.W.findCls K (.ref iY) (.type "type") "__init__"=some (.val (.builtin "ValueError.__init__"))) (eeX:jj K iY cM=true)
  (Tf:specialIn K (.builtin "object.__class__") "__get__"=some (some (.builtin "getset_descriptor.__get__"))) (Tg:takesIn K (.builtin "object.__class__")=some true)
  (Li:tR K jZ iY=true) (afY:keepIn K (.ref jZ)=true) (afZ:findIn K (.ref jZ) "__getattribute__"=some (some (.builtin "BaseException.__getattribute__"))) (af0:findIn K (.ref jZ) "__getattr__"=some none) (af1:findIn K (.ref jZ) "__class__"=some (some (.builtin "object.__class__")))
  (Th:tN K fB iY La=true) (af2:findIn K (.ref fB) "__setattr__"=some (some (.builtin "object.__setattr__"))) (af3:takerIn K fB "cell"=some none) (af4:findIn K (.ref fB) "__getattribute__"=some (some (.builtin "BaseException.__getattribute__")))
  (af5:findIn K (.ref fB) "__getattr__"=some none) (af6:findIn K (.ref fB) "cell"=some none) (af7:keepIn K (.ref fB)=true) (af8:findIn K (.ref fB) "__class__"=some (some (.builtin "object.__class__")))
  : ∃fd:FuncData,(∀(s:Shared) (v:Value),BindsTo s fd ⟨[v],[]⟩ [("_law_script",v)])/\∀base:Heap,K.In base->base.Ns mainGlobals mg->aK l.prog w K mg base aS 89 fa fd ["_law_script"] (Ee K):=by
 obtain⟨Eu,Ti,ag3,ag4,ag5,ag6,ag7,ag8,ag9,aha,ahb,l15,c15,Lj⟩:=Eu
 obtain⟨_,_,_,_,Lf⟩:=Lf
 obtain⟨Tc,i41,ahc,ahd,ahe,ahf,ahg,ahh,ahi,ahj,ahk,l41,c41,k41⟩:=Tc
 obtain⟨Ew,ahl,ahm,ahn,aho,ahp,ahq,ahr,ahs,aht,l46,c46,Lk⟩:=Ew
 obtain⟨_,_,_,_,Lg⟩:=Lg
 obtain⟨Lh,ahu,ahv,af9,aga,agb,agc,agd,age,ahw,l56,c56,k56⟩:=Lh
 have e:=hfa.symm.trans (dj X G Lh)
 cases e
 obtain⟨agf,agg,agh,agi,agj,agk,agl,agm,agn,ago,agp,agq,agr,ags,agt⟩:=zB
 have B:Bl mg:=⟨jB X G agf,jB X G agg,jB X G agh,jB X G agi,jB X G agj,jB X G agk,jB X G agl,jB X G agm,jB X G agn,jB X G ago,jB X G agp,jB X G agq,jB X G agr,jB X G ags,jB X G agt⟩
 have HH:Cn mg "SHUT" (.str "#"):=⟨_,dj X G aft,_,rfl⟩
 have HM:Cq K mg "ACROSS" [.int 0,.int 1]:=⟨_,⟨_,dj X G afz,rfl⟩,λH=>.inr ⟨_,_,_,afA,rfl,rfl,(by show 2<=sizeLine;decide),(.cons ⟨_,rfl⟩ (.cons ⟨_,rfl⟩ .nil))⟩⟩
 have HN:Cq K mg "DOWN" [.int 1,.int 0]:=⟨_,⟨_,dj X G afG,rfl⟩,λH=>.inr ⟨_,_,_,afH,rfl,rfl,(by show 2<=sizeLine;decide),(.cons ⟨_,rfl⟩ (.cons ⟨_,rfl⟩ .nil))⟩⟩
 have iU:Cn mg "FREE" (.str "."):=⟨_,dj X G afJ,_,rfl⟩
 have Ie:Cn mg "LETTERS" (.str pq):=⟨_,dj X G afL,_,rfl⟩
 have Ih:Cn mg "LEAST_LETTERS" (.int 2):=⟨_,dj X G afN,_,rfl⟩
 have Ii:Cn mg "MOST_LETTERS" (.int 9):=⟨_,dj X G afP,_,rfl⟩
 have iM:=SX.cls
 have uU:=SY.cls
 have mQ:=S6.cls
 have agu:=S7.cls
 have ux:tL K mg "Short" AN:=⟨afc,afd,afe,dj X G afb⟩
 have xp:tL K mg "Whole" gQ:=⟨aff,afg,afh,dj X G Ta⟩
 have Ll:cS K gQ:=⟨afQ,afR,afS,afT⟩
 have ahx:Zb K gQ:=⟨Ll,afU,gcI,tcI,afV⟩
 have ahy:Cn mg "Whole" (.ref gQ):=⟨_,dj X G Ta,rfl⟩
 have agv:GS K iL "worth":=⟨⟨Eh,Tb.1,⟨afW,afX⟩⟩,by decide +kernel⟩
 have bB:cM.contains (.type "BaseException")=true:=by decide +kernel
 have J1:XE K iY:=⟨egX,erX,efX⟩
 have ahz:Cn mg "CrossError" (.ref iY):=⟨_,dj X G Lc,rfl⟩
 have AJ:Ec K mg "CrossError" iY cM:=⟨eeX,dj X G Lc,bB⟩
 have Kv:Cn mg "NoFloor" (.ref fB):=⟨_,dj X G Ld,rfl⟩
 have uR:XC K fB iY La "cell":=⟨Th,i41,af2,af3,af4,af5,af6,af7⟩
 have Ef:XI K fB:=ZW X uR af8 Tf Tg
 have agw:Ec K mg "NoFloor" fB (.ref iY::cM):=⟨ZU Th,dj X G Ld,by rw[jA,bB,i7]⟩
 have KA:Cn mg "NotFilled" (.ref jZ):=⟨_,dj X G Le,rfl⟩
 have Ki:Hk K mg "NotFilled" jZ iY:=⟨Li,afY,dj X G Le⟩
 have KU:XI K jZ:=aaa X Li afZ af0 af1 Tf Tg
 have agx:Ec K mg "NotFilled" jZ (.ref iY::cM):=⟨aab Li,dj X G Le,by rw[jA,bB,i7]⟩
 have Ku:Cn mg "NoSheet" (.ref Ej):=⟨_,dj X G afi,rfl⟩
 have Kw:Cn mg "NoWord" (.ref Ek):=⟨_,dj X G afj,rfl⟩
 have Kx:Cn mg "Twice" (.ref El):=⟨_,dj X G afk,rfl⟩
 have Ky:Cn mg "NotThere" (.ref Em):=⟨_,dj X G afl,rfl⟩
 have Kz:Cn mg "NoLine" (.ref En):=⟨_,dj X G afm,rfl⟩
 have KC:Cn mg "NoMatch" (.ref Eo):=⟨_,dj X G afn,rfl⟩
 have KD:Cn mg "NoWorking" (.ref Ep):=⟨_,dj X G afo,rfl⟩
 have KG:Cn mg "NoStep" (.ref Er):=⟨_,dj X G afp,rfl⟩
 have KH:Cn mg "NoName" (.ref Es):=⟨_,dj X G afq,rfl⟩
 have KI:Cn mg "NoDeed" (.ref Et):=⟨_,dj X G afr,rfl⟩
 have Ex:nt K "put" "Book.put" (inClass (top 62) 1) SR _ _:=⟨⟨_,_,_,_,_,_,_,_,_,_,rfl,l15,c15,_,_,_,Lf⟩,Lj⟩
 have b15:=Ex.binds (ps:=["self","word","worth"]) (ds:=[]) λ_ _ _ _ _ _ _ _ us _ _ _ hT hl=>by obtain⟨_,_,_,rfl⟩:=tw (P:=λus=>∃a b c,us=[a,b,c]) (λa b c=>⟨a,b,c,rfl⟩) us (by simpa using hl);exact .of_defaults rfl hT rfl rfl rfl
 have QM:=Ex.binds (ps:=["self","word","worth"]) (ds:=[.int 0 _]) λ_ _ _ _ _ _ _ _ us _ _ _ hT hl=>by obtain⟨_,_,rfl⟩:=qD (P:=λus=>∃a b,us=[a,b]) (λa b=>⟨a,b,rfl⟩) us (by simpa using hl);exact .of_defaults rfl hT rfl rfl rfl
 have Tj:=vN (st:=(inClass (top 4) 0)) l41 c41 k41
 have b41:=Tj.binds (ps:=["self","cell"]) λ_ _ _ _ _ _=>qD λ_ _=>rfl
 have Ey:nt K "fillings" "fillings" (top 51) SU _ _:=⟨⟨_,_,_,_,_,_,_,_,_,_,rfl,l46,c46,_,_,_,Lg⟩,Lk⟩
 have b46:=Ey.binds (ps:=["book","sheet","most"]) (ds:=[]) λ_ _ _ _ _ _ _ _ us _ _ _ hT hl=>by obtain⟨_,_,_,rfl⟩:=tw (P:=λus=>∃a b c,us=[a,b,c]) (λa b c=>⟨a,b,c,rfl⟩) us (by simpa using hl);exact .of_defaults rfl hT rfl rfl rfl
 have IT:=Ey.binds (ps:=["book","sheet","most"]) (ds:=[.int 2 _]) λ_ _ _ _ _ _ _ _ us _ _ _ hT hl=>by obtain⟨_,_,rfl⟩:=qD (P:=λus=>∃a b,us=[a,b]) (λa b=>⟨a,b,rfl⟩) us (by simpa using hl);exact .of_defaults rfl hT rfl rfl rfl
 have F56:=vN (st:=(top 78)) l56 c56 k56
 refine⟨fnOf "law" "law" (qz (top 78)) (jI (top 78)) (aN (top 78)) .none aga agb agc af9 agd age,λs v=>.of_eq rfl,λbase _ _=>?_⟩
 have oF :=@vF l.prog w K mg base h X G
 have oR :=@SQ l.prog w K mg base h X G
 have oM :=@ae6 l.prog w K mg base
 have oW :=@ae7 l.prog w K mg base h X G
 have oX :=@ae8 l.prog w K mg base h X G
 have Tn:=oF a0 λ_ F=>aaB B F
 have Lm:=oF a1 λ_ F=>aaD F
 have Ln:=oF a2 λ_ F=>aaF F HH Lm
 have To:=oF a3 λ_ F=>aaG B F
 have Lo:=oF a4 λ_ F=>aaI F To Ln
 have agy:=oF a5 λ_ F=>aaK B F Ln
 have agz:=oF a6 λ_ F=>aaL B F agy
 have Ez:=oF a7 λ_ F=>aaM F HM HN Lo agz
 have Tp:=oF a8 λ_ F=>aaS F Lm
 have Tq:=oF a9 λ_ F=>aaU F iU To Lm
 have Tr:=oF Hc λ_ F=>aaV B F
 have agA:=oF a11 λ_ F=>aaY B Ie F
 have agB:=oF a12 λ_ F=>aa2 Ih Ii F agA
 have Lp:=oF a13 λ_ F=>aa5 F agB
 have K0:=oW SX a14 λ_ F=>aa8 F iM rN
 have ahA:Mt l.prog w K mg base iL "put" 4 (CQ iL) []:=⟨iM,_,_,_,_,⟨Eu,Ti,Lj⟩,Pq Ex iM rN Lp,b15,.nil⟩
 have K3:Mt l.prog w K mg base iL "put" 4 (CQ iL) [.int 0]:=⟨iM,_,_,_,_,⟨Eu,Ti,Lj⟩,Pq Ex iM rN Lp,QM,.cons ⟨_,rfl⟩ .nil⟩
 have Im:=oM iM a16 λ_ F=>aba F iM rN Lp
 have Kc:=oM iM a17 λ_ F=>abd F iM rN
 have xg:=oM iM Tb λ_ F=>abf F iM rN Im
 have Ja:=oM iM a19 λ_ F=>abh B F iM rN
 have agC:=oF a20 λ_ F=>abn B F iU
 have Jo:=oM iM a21 λ_ F=>abq B F iM rN agC
 have agD:=oF a22 λ_ F=>abx B F
 have agE:=oF a23 λ_ F=>aby F agD
 have agF:=oF a24 λ_ F=>abA B F agE
 have agG:=oF a25 λ_ F=>abK B F Tr
 have agH:=oF a26 λ_ F=>acd F
 have agI:=oF a27 λ_ F=>acj B F agH
 have Jp:=oW SY a28 λ_ F=>ac6 B F uU S0 Lb S3 S4 S5 Ez agI Ja xg
 have IX:=oM uU a29 λ_ F=>acy F uU S5
 have w6:=oW S6 a30 λ_ F=>acA F mQ Ei AL AM
 have kY:=oM mQ a31 λ_ F=>acF F mQ AL AM
 have kW:=oM mQ a32 λ_ F=>acH B iU F mQ AL AM
 have kX:=oM mQ a33 λ_ F=>acM B F mQ uU Ei AL S0 Lb agG
 have kZ:=oM mQ a34 λ_ F=>acV B iU F mQ uU Ei AL AM S3 w6 IX
 have Lq:=oF a35 λ_ F=>ade B F uU iM Lb Tp Jo xg agv Jp w6
 have xk:=oM mQ a36 λ_ F=>adk B F mQ uU AM Ei S4
 have lb:=oW S7 a37 λ_ F=>adm B F agu ae9 afa
 have agJ:=oR a38 λ_ F hm hk hb=>RA B F hm hk hb xk kW kX kY kZ ux lb 82
 have Ts:=oR a39 λ_ F hm hk hb=>RE B F hm hk hb kW kX kY kZ xp lb 82
 have agK:=oF a40 λ_ F=>adW B F
 have DW:Rs l.prog w K mg base "NoFloor" "cell" fB iY 1:=⟨_,_,_,_,uR,ad0 uR J1 (dj X G Lc) Tj,b41,by decide,dj X G Ld,λe v H Q he hq=>⟨e,v,rfl,he,hq⟩⟩
 have agL:=oF a42 λ_ F=>ad2 F Ez
 have EA:=oX a43 λ_ F=>ad7 F agK Lo Ln agL DW
 have agM:=oF a44 λ_ F=>aec F Tq Ez Tp Kc
 have agN:=oX a45 λ_ F=>aeh F agM Ki
 have ahB:kH l.prog w K mg base "fillings" 87 (AF K iL fB gQ xy):=⟨_,_,_,R7 Ey EA Lq Ts,dj X G Ew,Lk,b46⟩
 have Tt:y0 l.prog w K mg base "fillings" 87 (AF K iL fB gQ xy) [.int 2]:=⟨_,_,_,_,R7 Ey EA Lq Ts,dj X G Ew,Lk,IT,.cons ⟨_,rfl⟩ .nil⟩
 have Tu:=oX a47 λ_ F=>aeo F EA Lq agJ
 have agO:=oF a48 λ_ F=>aeq F
 have agP:=oX a49 λ_ F=>aer B F iU EA agN Lo Tr agO
 have agQ:=oF a50 λ_ F=>aeu B F Ku Kv Kw Kx Ky Kz KA KC KD KG KH KI
 have agR:=oF a51 λ_ F=>aev F AJ agw.ec agx.ec Tt agP Tu
 have agS:=oF a52 λ_ F=>aeA B F Tn
 have agT:=oF a53 λ_ F=>aeH B F agF
 have KQ:=oM Ll a54 λ_ F=>aeR F Tq
 have K4:=oM Ll a55 λ_ F=>aeT F KQ Ez
 exact aeY B F56 uR Ef KU KW KY KZ Tn agS K0 K3 agT agR agQ Tt K4 Tu
theorem walk{l:OpenLaw}{K:Params->Frag}(hn:l.most=some 63)(yg:d.params.defaults=[])
  (hY:∀(w:World) (h:Heap),YP w h->(K w.params).In h)
  (F:∀(w:World) (mg:Str->Option Value) (fa:Addr) (h:Heap),(K w.params).In h->h.Ns mainGlobals mg->mg d.name=some (.ref fa)->
   ∃fd:FuncData,(∀(s:Shared) (u:Value),BindsTo s fd ⟨[u],[]⟩ [("_law_script",u)])/\∀base:Heap,(K w.params).In base->base.Ns mainGlobals mg->aK l.prog w (K w.params) mg base aS 89 fa fd ["_law_script"] (Ee (K w.params))) :
  PySem.W.WalkO q loose XP YP l.row.toRowW d [] (λf vs=>PySem.call f vs):=
 L2.Wz (n:=63) (k:=89) (x:="_law_script") (CX:=λ_=>aS) (sp:=λw=>Ee (K w.params)) hn (by decide) yg ⟨rfl,by decide,by decide,rfl⟩ hY F (λ_ _ a ns hl _ hS=>⟨a,ns,rfl,hS,hl,λ_=>rfl⟩) λ_ _ _ _ _ z=>z
end Cw
open L2 in
noncomputable def PySem.W.Fast:=V
where
tw5628683087387359232:=V
tw4206414514747509792:=V
tw5311347845736347680:=V
tw2928534270390125600:=V
tw16939271015186055264:=V
tw2185753696118493280:=V
tw16197581883655173280:=V
tw12859523704672538784:=V
tw6580922352869045408:=V
tw2319314003833599200:=V
tw17105053965968298240:=V
tw12025826811699424512:=V
tw6660241020381887808:=V
tw3254627276236718464:=V
tw5019808531123389824:=V
tw11755432146012736928:=V
tw11355210984509823392:=V
tw13256099583431802272:=V
tw18242096880344633888:=V
tw238065348888984096:=V
tw1631582404217888352:=V
tw17479549255236284064:=V
tw2999667229953920768:=V
tw15865713384606309120:=V
tw11616953566037888768:=V
tw1220721195177240352:=V
tw16705072858059360064:=V
tw2106470092091453248:=V
tw1855013912061539136:=V
tw17818481607298053952:=V
tw10681726829267535712:=V
tw12460114576422520672:=V
tw9924424843377727392:=V
tw3447096397396482049:=V
tw1678157978951261185:=V
tw7126564727565637665:=V
tw13919913878293124161:=V
tw1391641349097147489:=V
tw13910369479191851137:=V
tw3160381005424677089:=V
tw6822954922296511777:=V
tw17710668179443798305:=V
tw12622835687427966305:=V
tw15120219487844122977:=V
tw10428212334973386081:=V
tw16644231882636886401:=V
tw10206753207367556513:=V
tw2327797197251487201:=V
tw5650103234213180897:=V
tw10716729035724996129:=V
tw16740066194844240417:=V
tw17772950282522202689:=V
tw11749495225439385185:=V
tw15610499516008885921:=V
tw6456296087662278401:=V
tw4136207068884126465:=V
tw3330243358102339393:=V
tw14254661819767115585:=V
tw9050441410786090849:=V
tw11808734622315834273:=V
tw6835907509448627169:=V
tw16110887375203383298:=V
tw5809358088565080066:=V
tw18205441287330476066:=V
tw1237344084479129762:=V
tw1327503112042836226:=V
tw17498289866173061410:=V
tw9310106596867775778:=V
tw8205921461563314498:=V
tw7830723566430153058:=V
tw10334583049663349122:=V
tw11711398282749773186:=V
tw207028140714990978:=V
tw1346685354755838338:=V
tw18348964293608961602:=V
tw9285499170542240354:=V
tw18337190434380846722:=V
tw6104857919091811970:=V
tw14779125269057579650:=V
tw6234317301702018722:=V
tw7271561834743052994:=V
tw16082998575396371138:=V
tw16815154776394458818:=V
tw435538148024966882:=V
tw15687890893204100866:=V
tw9738041952644977506:=V
tw5028721799443876738:=V
tw2162802132598790082:=V
tw12600955510300058594:=V
tw10670725512327288802:=V
tw12991507703806816226:=V
tw18432002294389830626:=V
tw446849593118949379:=V
tw11699003188081807459:=V
tw10119445943770372195:=V
tw10442747628264295555:=V
tw8670424430711049347:=V
tw1780747397236178115:=V
tw3040872663362145507:=V
tw18080240161568953571:=V
tw10206081454250943715:=V
tw13954813755520999683:=V
tw14326518647944182051:=V
tw9876242149958543715:=V
tw4026357371098552707:=V
tw6763962533248793987:=V
tw9192932821659940291:=V
tw10935559802414897699:=V
tw16503568618487403043:=V
tw13598840926336547363:=V
tw6785597037388808771:=V
tw17596626679339726499:=V
tw2790359197744870179:=V
tw2657506616499444547:=V
tw8977458421326691:=V
tw2209288669929643939:=V
tw8477816048568886179:=V
tw15595018514719305635:=V
tw15469019692665543619:=V
tw9701358248709265412:=V
tw5308025788294394948:=V
tw130445010648690788:=V
tw17028761393177553028:=V
tw7351723373539351716:=V
tw8757805971973106884:=V
tw10169652593399784676:=V
tw4542928803363233028:=V
tw7896527197950159236:=V
tw3594008219524388228:=V
tw10869242065957633476:=V
tw2960811922650483140:=V
tw8649588925863917060:=V
tw16060276195942676004:=V
tw16857126397126868580:=V
tw12624111194560128644:=V
tw13562268535159521956:=V
tw9254050716251490980:=V
tw8202879376993352356:=V
tw4990430319049489124:=V
tw8452085067404562148:=V
tw9726088427670604580:=V
tw8024717316013112132:=V
tw17806490137628822372:=V
tw9296047849691590532:=V
tw15683573310772706180:=V
tw2142948362345754532:=V
tw10551015037773780964:=V
tw3676284224129362916:=V
tw1594847911169696901:=V
tw12653982661838444741:=V
tw12761337784745066757:=V
tw5846925706916215045:=V
tw557884017900095781:=V
tw12177561029147373925:=V
tw1040818244878357893:=V
tw13639536710388224421:=V
tw9254498222686580197:=V
tw14472883293921099237:=V
tw16665725123724505605:=V
tw7161986646480902693:=V
tw6566589971896771141:=V
tw11028802130329892453:=V
tw10823119593891910277:=V
tw10773181627480784549:=V
tw12571780442338194117:=V
tw8394580999226462949:=V
tw7152397882202034917:=V
tw12083926478239588101:=V
tw5586617033037441797:=V
tw17443486262415813413:=V
tw14471751749554410309:=V
tw8319403797253056325:=V
tw13791021285163176805:=V
tw17805478458761410405:=V
tw14760840776276151173:=V
tw1320942226059499397:=V
tw9284591828142537669:=V
tw5596188610314905670:=V
tw13107697799871022150:=V
tw9003220946533578886:=V
tw4830256263772148902:=V
tw1836626027263142086:=V
tw2005637586022899942:=V
tw14141182825772217574:=V
tw14616250628808872198:=V
tw9580910227725534534:=V
tw12898443909904385350:=V
tw7535182395817838918:=V
tw4294437770041124166:=V
tw18344660571735404902:=V
tw16769288836882139526:=V
tw220496699494968710:=V
tw2176768965163149766:=V
tw11250134341907040774:=V
tw10233833799033363014:=V
tw14114683669901634118:=V
tw1158343442035679878:=V
tw10565877079816951430:=V
tw897398900152304294:=V
tw16784548234818134694:=V
tw6339992234218090182:=V
tw10953338882216926950:=V
tw6874155123562128166:=V
tw6338919693595581254:=V
tw8538576277770249030:=V
tw15735242052681648998:=V
tw12316695353359691622:=V
tw5839185396126997478:=V
tw4974085865030975462:=V
tw9157654348524956679:=V
tw9275653243847194631:=V
tw15086552699437594631:=V
tw15498022596085137415:=V
tw8438272964350797863:=V
tw13534578438661207079:=V
tw9597462440777716871:=V
tw14262506055381101703:=V
tw12265508070989243559:=V
tw18388935937002294471:=V
tw11411540470530863367:=V
tw10452595297456544039:=V
tw1202606333790689607:=V
tw10336663986194872647:=V
tw13777616739802194279:=V
tw3203643737940656551:=V
tw6177662440115348903:=V
tw10802876275899652519:=V
tw11198113653082203591:=V
tw9408772529625409031:=V
tw10555534672692518439:=V
tw5665256282868260423:=V
tw18395738876648990279:=V
tw4385678072201946727:=V
tw14279382869490340519:=V
tw5223137693903690407:=V
tw8291197250684788391:=V
tw2226946907139616423:=V
tw10561925322126736103:=V
tw11934446325507149543:=V
tw11047785228251027175:=V
tw4435164305785445095:=V
tw7549288454832431879:=V
tw16891433702564697895:=V
tw892738416401097511:=V
tw15144040558915756839:=V
tw11415216779029296935:=V
tw8995275037389795239:=V
tw14712151155540870055:=V
tw9258649836669641671:=V
tw12516133423026298823:=V
tw16071650564262837288:=V
tw3025792109060362408:=V
tw16894499530976813224:=V
tw10940133391658586376:=V
tw13896783208733744392:=V
tw13545201404679839240:=V
tw15416369876721323560:=V
tw8836936109997196040:=V
tw17990458257572366088:=V
tw14940319938636061480:=V
tw637742377885305768:=V
tw17456912190513749960:=V
tw12757016929776152520:=V
tw14184773589022447592:=V
tw10355060437350211560:=V
tw11860302321726525545:=V
tw6125281073749723305:=V
tw5377040876031278313:=V
tw4241440958281459977:=V
tw4192758493895640361:=V
tw1106106253027734825:=V
tw18165055207922784585:=V
tw18047266277839256905:=V
tw2316381979776460169:=V
tw9584968063921697193:=V
tw5090970057884910057:=V
tw16502773533543102985:=V
tw10677215480067326537:=V
tw6992146158265627209:=V
tw3924394939247097609:=V
tw8327708481997287209:=V
tw10878638288135018281:=V
tw14772103807370385193:=V
tw15208356036751306569:=V
tw10242440064758431593:=V
tw9626146527309298537:=V
tw734526368738224105:=V
tw8071256682777823209:=V
tw10405420037705587689:=V
tw8254894370774593546:=V
tw14576538068184685578:=V
tw5012513666291142698:=V
tw14008594549755667594:=V
tw4671623006393301130:=V
tw18267307332307511466:=V
tw6496368502741626026:=V
tw8466500319374209226:=V
tw2578511622944536842:=V
tw6381133371750996234:=V
tw8267456038769684746:=V
tw13881405338290578794:=V
tw15843315463449448842:=V
tw2655424715908548010:=V
tw12224968623134922154:=V
tw1437044200507499050:=V
tw2058743059201142410:=V
tw10479105982582079114:=V
tw11105492031193408138:=V
tw13264336761468681930:=V
tw13308455144447652618:=V
tw3461452253092401930:=V
tw12428950502869253962:=V
tw15397778857694086026:=V
tw17992584330497543211:=V
tw9956983442226551883:=V
tw12816265155434520651:=V
tw16856963295910728811:=V
tw4496436377472422091:=V
tw12123491605129643243:=V
tw15363193744889802123:=V
tw7131130141708185099:=V
tw10110455034173860427:=V
tw4057554309028115019:=V
tw9306175764224010891:=V
tw4259539863807815307:=V
tw667918869814720203:=V
tw15715995344825152203:=V
tw14777523270770802507:=V
tw18329278921170446251:=V
tw7808475891445812203:=V
tw13672719933479037964:=V
tw9904057278497654828:=V
tw4070748418457305164:=V
tw12947820218641503340:=V
tw1123538587569353836:=V
tw14754439884253285516:=V
tw10604879503769919724:=V
tw13336946955992246540:=V
tw5679900594514329932:=V
tw10927542854713250124:=V
tw14940151084801511788:=V
tw14375682711392446892:=V
tw2891824603768538572:=V
tw9373640578275034636:=V
tw1023369727979199052:=V
tw6180637913261532748:=V
tw241144483975603820:=V
tw2341626359262959212:=V
tw2546748823784645228:=V
tw7804811264200047276:=V
tw2255539396914194124:=V
tw14079217155928107724:=V
tw8051558069565511436:=V
tw14625451762648693580:=V
tw11876662412506249068:=V
tw6039528744311220140:=V
tw11237420486647670700:=V
tw12965018520275803084:=V
tw16927625999007682605:=V
tw10639376792963174477:=V
tw14244800969770424461:=V
tw6924802195278892205:=V
tw16296800553435916525:=V
tw13189235326602308845:=V
tw17707726548493077773:=V
tw6041139786346798349:=V
tw2538714409824339245:=V
tw11744836732627041645:=V
tw5404128076677093805:=V
tw14016464697165664685:=V
tw4304399196903646669:=V
tw15004427010998471277:=V
tw8590277213735798445:=V
tw1409435264446182093:=V
tw205144262018936557:=V
tw549554939977592589:=V
tw13107778119929194349:=V
tw13284568329901183949:=V
tw1628071107669539821:=V
tw15128869549026798573:=V
tw353424139838959630:=V
tw16107137340734223438:=V
tw9709457939756344558:=V
tw5938298621771871534:=V
tw8675952448059702574:=V
tw8768876956381006158:=V
tw3985712914780425582:=V
tw15045159329079966094:=V
tw7626424394873883022:=V
tw1505324224164535726:=V
tw7887413313586070062:=V
tw5930481012937965102:=V
tw11642046324555092590:=V
tw3395332348270402190:=V
tw3629577356826668686:=V
tw15965814016211794606:=V
tw2195069598018900782:=V
tw17722437544493606702:=V
tw9640649340056596270:=V
tw13657838579863846798:=V
tw6414867726791300014:=V
tw11319675728912016302:=V
tw10162072241392151470:=V
tw3421276646619711438:=V
tw8490146481906574286:=V
tw2642353165486054447:=V
tw13887675695178466383:=V
tw8936488175986396239:=V
tw16601031216184424719:=V
tw9141065160199895311:=V
tw17702146279979637071:=V
tw10588383791104482671:=V
tw1024752660628157871:=V
tw9558255161020455375:=V
tw12696092269468994031:=V
tw15258874912278713871:=V
tw4301664667991817743:=V
tw2789795005840657967:=V
tw9853495806513784367:=V
tw3356433390440080943:=V
tw1318186694774073999:=V
tw10982814998252862159:=V
tw11347030900606450383:=V
tw13997697721951570767:=V
tw2255227539577338703:=V
tw13243933484736827247:=V
tw13819372764716406703:=V
tw2767916809187280815:=V
tw444261625743841231:=V
tw6714615272877021135:=V
tw10497510819047516143:=V
tw551779032066426928:=V
tw13348499286725791792:=V
tw566380757373363248:=V
tw2051941093596237904:=V
tw16889089898130793552:=V
tw12395195612368991312:=V
tw13696616509604107376:=V
tw6833454017203560560:=V
tw3420486359731409072:=V
tw17412451479723066640:=V
tw12508311226859214128:=V
tw12386085416546493744:=V
tw7740020854932981072:=V
tw10963647288863143280:=V
tw14545162917189610896:=V
tw248354280991800752:=V
tw13541593590347927056:=V
tw10242966645609970192:=V
tw9243103085218276912:=V
tw7537228812098719280:=V
tw1761193492086518320:=V
tw9395019600882365008:=V
tw15312496911773738608:=V
tw11990492796734327408:=V
tw3832031534101727888:=V
tw7851469327368470192:=V
tw8769914951362665168:=V
tw4098692766562896752:=V
tw16621770852291637168:=V
tw10704863930366792656:=V
tw1078547163779928048:=V
tw1776242172056016945:=V
tw12701427916238147633:=V
tw4600024632759814257:=V
tw9948709317472035025:=V
tw3601737603025121489:=V
tw12633080220524838129:=V
tw16779890428458415409:=V
tw5485439966110429521:=V
tw11386915656478438737:=V
tw3060396356611852657:=V
tw2414611995974421873:=V
tw1239600699622022545:=V
tw2288474272331510193:=V
tw14217614651138336241:=V
tw4187156871325299217:=V
tw2246823557492882001:=V
tw10258313380023908945:=V
tw15725039695807691537:=V
tw16887980576427260689:=V
tw8900281632283348753:=V
tw1062278294584634161:=V
tw8504627482912203601:=V
tw2211065937626889041:=V
tw15965331800633212753:=V
tw8721170823284926321:=V
tw410008562843950993:=V
tw8483847968581955473:=V
tw8890558470046811057:=V
tw3984475111024101329:=V
tw1715860282913659954:=V
tw3656872040689028146:=V
tw5400380913414430770:=V
tw17572681567817890866:=V
tw13158552896000175186:=V
tw15241517794284558450:=V
tw5217062000218467442:=V
tw4360393788479245458:=V
tw6509920673303411890:=V
tw15878958926247027922:=V
tw14141987353881056530:=V
tw11353635248319736082:=V
tw5826541001983591762:=V
tw10397559219694995794:=V
tw12097015204165687698:=V
tw12488403560838604178:=V
tw10868689475859491218:=V
tw12557865577950591378:=V
tw1628387997512809906:=V
tw6488723860579433970:=V
tw9799138961398039154:=V
tw95187343237070450:=V
tw16512249495887343218:=V
tw5679447535122500242:=V
tw10112965744032266994:=V
tw12843015894410340114:=V
tw9675808605966583570:=V
tw16744063973921822610:=V
tw6627088277168850866:=V
tw2574566646074596274:=V
tw14326683635201942482:=V
tw17344854885514667986:=V
tw1005589330633156594:=V
tw3806931101337681906:=V
tw6265494694674173971:=V
tw7499330177363707987:=V
tw1259293696121456723:=V
tw11413220576580705491:=V
tw17812827038005698771:=V
tw4994784361790001363:=V
tw5613099478712679667:=V
tw10836376596375659827:=V
tw591202205303758163:=V
tw6416462842891135347:=V
tw5517710407981071731:=V
tw14224169404235370899:=V
tw1106278576133260755:=V
tw134148191554161107:=V
tw10986901376705826323:=V
tw6005928684571796147:=V
tw2597086778986276531:=V
tw9893912566492280563:=V
tw13514935535071517459:=V
tw1339287098033760083:=V
tw18007386174838257523:=V
tw4291024614923126675:=V
tw15061980693090137108:=V
tw18255133508697969812:=V
tw14498622840605476180:=V
tw460946428835976532:=V
tw17004608848907573652:=V
tw14695300203716328852:=V
tw12405759887000968628:=V
tw2466887650351272404:=V
tw5034491261213981172:=V
tw3926601058744118868:=V
tw10444163858597319284:=V
tw14013569910897979028:=V
tw9162390149127149236:=V
tw9040179994255588020:=V
tw11403898144415749876:=V
tw9023307195064223540:=V
tw16680887393175677780:=V
tw3529537870324619156:=V
tw8028371764974626740:=V
tw2928123896206104532:=V
tw13913357998138052693:=V
tw10840420707730974837:=V
tw14783634808985336021:=V
tw9672637768540609749:=V
tw9535466426641090805:=V
tw7006291744622293301:=V
tw12671180973314618709:=V
tw8161672190786976149:=V
tw2265168868881368501:=V
tw6210103207435327925:=V
tw7203664002295446997:=V
tw4056488423308681685:=V
tw16762593559400378837:=V
tw3516623836478311029:=V
tw6402804761622919829:=V
tw13887370451931188917:=V
tw6367708419541459637:=V
tw16367674494059636405:=V
tw5019451419571980085:=V
tw15530714365050139445:=V
tw5798852627386626901:=V
tw1126711184687610902:=V
tw5924964634700870710:=V
tw11909950138387050614:=V
tw14727700589363580054:=V
tw11597465124907766934:=V
tw7350281275869727926:=V
tw1629514428003300534:=V
tw3980006549558350070:=V
tw15991173144862854486:=V
tw16746918723841912182:=V
tw964406156030474646:=V
tw16789003762788021686:=V
tw4992927206569987510:=V
tw12350134785544518102:=V
tw5882466439258810934:=V
tw5036456397465145974:=V
tw9736509724328920726:=V
tw16961810944681683606:=V
tw11490842872281509590:=V
tw10354196119361149718:=V
tw16874147416322116406:=V
tw5814300769560287030:=V
tw4517485052242897750:=V
tw15348001909597852630:=V
tw13463456496666151926:=V
tw1718793384818725878:=V
tw4604404910209375287:=V
tw13720628752212787319:=V
tw9590343474830586999:=V
tw12629904319788808439:=V
tw9350292075934627127:=V
tw17540663981941861783:=V
tw16596794469362551255:=V
tw5944864592210637303:=V
tw15257026596840602103:=V
tw3854336571692113431:=V
tw15015627706910761495:=V
tw1135209623949855287:=V
tw10282725987144694327:=V
tw10680829701521218167:=V
tw13172831009080217239:=V
tw4200084706558541463:=V
tw17740089577483098807:=V
tw4435080416730839735:=V
tw13863270525904562903:=V
tw11136592186523628247:=V
tw11239932858426692407:=V
tw9446446373103518519:=V
tw3868548436140137367:=V
tw16309382733125056407:=V
tw13360104450773383063:=V
tw2882052039363711991:=V
tw14182339443487883320:=V
tw6383603602334558296:=V
tw6103295245058051192:=V
tw6763300548685640888:=V
tw215216734084783288:=V
tw9099698013138938040:=V
tw2649730381907006744:=V
tw6459710715539615000:=V
tw8977573139528294712:=V
tw14741919313124321592:=V
tw4991853586830164312:=V
tw14274312930049038680:=V
tw11693677068332445016:=V
tw3989034346460465496:=V
tw5914760938690301336:=V
tw5565029505446096312:=V
tw4346900219714449880:=V
tw2036575577875263992:=V
tw1175126835521861112:=V
tw13664888598536359448:=V
tw4602092823381968632:=V
tw376456834154219256:=V
tw17323918875300297464:=V
tw8030950145065124632:=V
tw11995437002425146136:=V
tw5259079575156819768:=V
tw3955921962362147640:=V
tw9490569078291266392:=V
tw14111211753387024248:=V
tw6164767121864734712:=V
tw4063058206411593753:=V
tw803968673749372025:=V
tw6543707521236860025:=V
tw4593311239391383705:=V
tw14268447208211130553:=V
tw13018443801302555833:=V
tw2099676572759400697:=V
tw6739553576283695353:=V
tw9138578455033042233:=V
tw16419857362932789561:=V
tw15585755016545640857:=V
tw17106818632582276537:=V
tw10904328593654823385:=V
tw3072697767947463257:=V
tw11742711794718676601:=V
tw4082890491135486585:=V
tw962935074983789209:=V
tw550705203515763449:=V
tw12722020495127335673:=V
tw2000797737411967737:=V
tw16277240064956666681:=V
tw13090910932735508281:=V
tw22094242785521561:=V
tw7316107506377638841:=V
tw1974332929074843609:=V
tw9365376748832954426:=V
tw6949949008091128890:=V
tw10170695901612601466:=V
tw1484894902043577594:=V
tw16512922573024697626:=V
tw14138635448009563450:=V
tw16159435060756522458:=V
tw11148366988402384346:=V
tw8633522513563483642:=V
tw3502724326188053018:=V
tw2019827199958068794:=V
tw9620276888001419994:=V
tw14140922632068314842:=V
tw15547358180520863482:=V
tw4445854907260660474:=V
tw2551619352740831002:=V
tw1629268155660370746:=V
tw17916718914831898458:=V
tw4357462500191238138:=V
tw11615843399118719067:=V
tw5168876463367301243:=V
tw10530657081743705243:=V
tw7109118748859682971:=V
tw7301017426801811643:=V
tw10601687803002874043:=V
tw14092322172971906235:=V
tw12899045125537179867:=V
tw10883382315567107291:=V
tw11172341099418777851:=V
tw11860804895140327707:=V
tw350285689836476763:=V
tw6775163842538775931:=V
tw16778107240921184635:=V
tw15650531612464697787:=V
tw7377511169731730907:=V
tw1564574590493111803:=V
tw699669294323970619:=V
tw3620840368016905787:=V
tw14509120756366716507:=V
tw10948713776184335003:=V
tw15454645051023480507:=V
tw12694149818739422907:=V
tw14784138371800372027:=V
tw15777897266566129467:=V
tw16468580613833094971:=V
tw2085884388344414075:=V
tw9342093924838413211:=V
tw4463397328736550843:=V
tw8698415888597150683:=V
tw8788551291728713723:=V
tw17531162860987310075:=V
tw15170983602880145468:=V
tw5766348593132586044:=V
tw11832599709923306588:=V
tw4096313080600583324:=V
tw3669471915530547388:=V
tw506689153499592924:=V
tw7033703737506499836:=V
tw13685061019741073660:=V
tw3884182308026023164:=V
tw18224367385754516764:=V
tw6527758065757082972:=V
tw9807727152520720764:=V
tw14848858681888471420:=V
tw17854634788467125660:=V
tw13558526188235244988:=V
tw8920418949701099964:=V
tw15348118269307504124:=V
tw635185941167095324:=V
tw4474001928859534876:=V
tw5964377114249244220:=V
tw5520650669732214428:=V
tw18133266357652101884:=V
tw10716866694398108412:=V
tw6520229123259236124:=V
tw2915232597570733948:=V
tw3600571316882982876:=V
tw5061410978658882589:=V
tw1761458224265340957:=V
tw7076143445482640445:=V
tw7776909202359641149:=V
tw16365986966455489629:=V
tw7512666477007095933:=V
tw1420126254336225437:=V
tw11613441093356991645:=V
tw9284073417346660509:=V
tw13032097251037560989:=V
tw17275726173559767229:=V
tw5681880740597444861:=V
tw758573295043667197:=V
tw3200834995520350557:=V
tw18355160877407225213:=V
tw6007107587845149085:=V
tw7498658384290736573:=V
tw9360550234538181149:=V
tw7154697186352142877:=V
tw15084261130990718525:=V
tw13088458875638850141:=V
tw14342588434880304765:=V
tw7461537547972845181:=V
tw11615940882625886941:=V
tw7084922350455420701:=V
tw17437722068078795581:=V
tw12988905336779709405:=V
tw6869216230222602205:=V
tw8696921620687739869:=V
tw14407977565388198909:=V
tw9270033506341828638:=V
tw16082184035008973950:=V
tw18260460682318342270:=V
tw9464910433629362334:=V
tw8273548188138396830:=V
tw3799690509366366430:=V
tw13798446778898198782:=V
tw3009306308561491262:=V
tw14620271836778788158:=V
tw1745065367084823902:=V
tw17627717775093049758:=V
tw3038809592813926846:=V
tw14088628556752508382:=V
tw2629335641615949278:=V
tw5895301344340621822:=V
tw17632397691723426366:=V
tw15130378747295367774:=V
tw12641558334645144158:=V
tw9826369585164452542:=V
tw13118694731852367550:=V
tw2649389039834539742:=V
tw16586425441083352830:=V
tw18177012082770501406:=V
tw11949100840795587390:=V
tw9935910546866134846:=V
tw11466932989596112734:=V
tw12059490974127709022:=V
tw5114061925592621950:=V
tw13387107094717344702:=V
tw675403777198437374:=V
tw2199750287735013407:=V
tw12869431782999048255:=V
tw17004087159906521151:=V
tw6117436982331093087:=V
tw6054076896356943999:=V
tw8887219825919852767:=V
tw5222754113400154335:=V
tw12611771539323056383:=V
tw5862589400481846591:=V
tw6488136116635368799:=V
tw773785331411030463:=V
tw9102352685674375647:=V
tw2751677809983238687:=V
tw14577654051578812991:=V
tw3920984192333960799:=V
tw6099845652897788511:=V
tw2560691586048480895:=V
tw2918190949607554719:=V
tw8093101535400063647:=V
tw758382870657591007:=V
tw127511765549017919:=V
tw8793061020996318079:=V
tw15887481655776309119:=V
tw17020264780023052191:=V
tw7136481586994106303:=V
tw15591522191565778911:=V
tw4790905344508471995:=V
open PySem PySem.W PyProof.Rows
set_option maxRecDepth 100000 in
set_option maxHeartbeats 0 in
theorem PySem.Challenge.cw_crosswright_k44_floors_refused_holds : PySem.Challenge.rw_crosswright_k44_floors_refused.Holds := by
  w_on; o_law; k_head; (case hw => w_witness2)
  k_fill
  refine Cw.walk (l := PySem.Challenge.rw_crosswright_k44_floors_refused) rfl rfl (fun w h Y => PySem.W.kIn_of Y) ?F
  case F =>
    intro w mg fa h KX G hmg
    apply Cw.all_mk KX G hmg
    repeat (first | (show _ = _; k_is) | apply Cw.hF_mk | apply Cw.hM_mk | apply Cw.hT_mk | apply Cw.hV_mk | apply And.intro | (with_unfolding_all exact rfl) | kernel_rfl)
#print axioms PySem.Challenge.cw_crosswright_k44_floors_refused_holds
