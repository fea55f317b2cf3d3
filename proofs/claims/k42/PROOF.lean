import PyProof.Rows.All
import Wide.All
import OpenK.AllK
import Wide.FinOn
import Lean
import PyProof.EqAt
import PyProof.EqKinds
import PyProof.TupleCall
import PyProof.NeKinds
import PyProof.SetRoads
import PyProof.SetNew
import PyProof.TupleKey
import PyProof.AttrMissHeap
import PySem.Challenge.RW_crosswright_k42_fillings_gone_through
set_option Elab.async false
set_option linter.all false
set_option compiler.extract_closed false
set_option maxRecDepth 100000
section
open PySem PySem.Spec PyProof.Rows PySem.W
def ag:=@wpAny_bind
def aq:=@if_neg
def ar:=@List.length_map
def ax:=@if_pos
def aF:=@decide_eq_false
def aG:=@decide_eq_true
def aJ:=@wpAny_pure
def aQ:=@Nat.le_refl
def aU:=@List.getElem?_eq_getElem
def bb:=@List.getElem?_map
def bh:=@List.mem_cons_self
def bj:=@Ne.symm
def bo:=@List.mem_of_getElem?
def bp:=@List.size_toArray
def bt:=@List.mem_map
def bw:=@Heap.get?_push_of_some
def bx:=@Nat.zero_le
def bA:=@Nat.le_trans
def bE:=@Heap.lt_size
def bF:=@List.mem_cons_of_mem
def bL:=@List.map_cons
def bM:=@List.getD_eq_getElem?_getD
def bQ:=@List.mem_filter
def bU:=@Nat.ne_of_lt
def bW:=@Bool.false_ne_true
def bX:=@List.mem_cons
def bZ:=@List.getElem?_eq_some_iff
def cg:=@List.mem_singleton
def cw:=@Heap.get?_push_size
def cB:=@List.getElem?_eq_none
def cF:=@PassesOwn.never
def cQ:=@List.length_append
def cR:=@List.filter_cons
def c5:=@List.length_cons
def c9:=@Option.some.inj
def dh:=@List.mem_append
def dH:=@Int.toNat_natCast
def dI:=@Bool.and_eq_true
def dU:=@congrArg
def dW:=@List.map_append
def eC:=@List.mem_range
def eK:=@if_false
def eQ:=@of_decide_eq_true
def eS:=@List.getElem?_of_mem
def fm:=@Array.length_toList
def fq:=@List.nodup_cons
def fu:=@Bool.false_eq_true
def fw:=@List.take_of_length_le
def fK:=@List.not_mem_nil
def fL:=@List.take_add_one
def fM:=@List.sum_cons
def fX:=@List.append_nil
def fY:=@if_true
def fZ:=@Nat.not_lt_zero
def gB:=@Nat.lt_of_lt_of_le
def gC:=@Nat.le_succ
def gD:=@List.length_filter_le
def gT:=@Bool.false_and
def gU:=@List.mem_append_right
def gW:=@wpAny_field
def gX:=@Nat.mul_one
def iB:=@Paired.length
def iC:=@wpAny_holding
def iD:=@Option.map_some
def iE:=@Option.map_eq_some_iff
def iF:=@List.nodup_nil
def iG:=@List.all_eq_true
def iH:=@List.length_range
def iI:=@List.ext_getElem?
def iJ:=@Bool.eq_false_iff
def iK:=@List.map_map
def jb:=@Nat.succ_mul
def jc:=@PySem.F.plainAttrs_list
def jd:=@PySem.W.mg_none_of
def jE:=@wpAny_mono
def jF:=@List.length_take
def jG:=@List.range_succ
def jH:=@List.filter_append
def jI:=@PySem.F.slot_list_append
def jJ:=@PySem.F.type_list_append
def kh:=@Heap.size_push
def ki:=@wpAny_seqItems
def kj:=@List.mem_map_of_mem
def lz:=@Nat.lt_of_le_of_lt
def lA:=@Nat.succ_le_succ
def lB:=@Int.emod_nonneg
def lC:=@List.getElem_mem
def lD:=@PySem.W.mg_of
def mI:=@beq_iff_eq
def mJ:=@PySem.W.kia_one
def mK:=@Heap.get?_update_other
def mM:=@Nat.mul_comm
def mN:=@Paired.snoc
def mO:=@Nat.zero_add
def mP:=@Prod.mk.injEq
def om:=@List.mem_append_left
def oo:=@wpAny_truthy_bool
def oq:=@Heap.get?_update_self
def ou:=@List.replicate_succ
def ow:=@List.append_assoc
def oy:=@Bool.and_false
def oz:=@Option.getD_some
def oB:=@Nat.lt_succ_of_lt
def oC:=@List.filter_nil
def oE:=@wpAny_of_eq
def oG:=@List.getElem?_range
def oH:=@List.take_zero
def oI:=@List.nodup_append
def oJ:=@Int.emod_lt_of_pos
def oK:=@Nat.mul_zero
def qx:=@Nat.lt_succ_self
def qy:=@List.lookup_cons
def qz:=@wpAny_call_entry
def qA:=@Heap.SameBut.update
def qB:=@size_push'
def qC:=@codeAny_builtin
def qD:=@Int.eq_ofNat_of_zero_le
def qE:=@Prod.ext
def sI:=@beq_eq_false_iff_ne
def sJ:=@Nat.lt_irrefl
def sL:=@List.length_replicate
def sM:=@List.any_cons
def sN:=@List.find?_cons
def sO:=@Nat.not_lt
def sP:=@List.all_map
def sQ:=@List.filter_map
def sR:=@wpAny_rule
def sS:=@Around.under_plainId
def sT:=@plainId_quiet
def sV:=@F.called_set
def sW:=@Bool.true_and
def vt:=@List.getElem?_set_self
def vv:=@wpAny_passesOwn
def vw:=@wpAny_pyIter_list
def vx:=@codeAny_mono
def vy:=@wpAny_Call_Name_kw
def vz:=@List.flatten_cons
def vA:=@List.map_nil
def vB:=@wpAny_newObj_type
def vC:=@Bool.and_true
def vD:=@Txt.slice_le
def vE:=@wpAny_letGo
def vF:=@or_false
def vG:=@F.plain_min_loop
def vH:=@Bool.not_true
def vI:=@Nat.lt_succ_iff_lt_or_eq
def yr:=@Nat.le_of_lt
def yt:=@List.getElem?_set_ne
def yu:=@Nat.ne_of_gt
def yw:=@sizeLine_eq
def yx:=@Calls.spliced_cons
def yz:=@wpAny_call
def yA:=@List.getElem?_append_right
def yB:=@List.all_cons
def yC:=@tupleKind_room_in1
def yD:=@List.any_eq_true
def yE:=@List.cons.inj
def yF:=@Bool.or_eq_true
def yG:=@isSubtype_type
def yH:=@wpAny_attempt
def yI:=@wpAny_callSpecial?_slot
def yJ:=@Obj.data_mapFields
def yK:=@wpAny_setField_rec
def yL:=@Nat.le_add_right
def yM:=@Nat.lt_or_ge
def yN:=@Classical.byContradiction
def yO:=@wpAny_setState_of
def yP:=@List.mem_of_mem_take
def Cv:=@List.filterMap_cons
def Cy:=@PyProof.Rows.callWith_type1
def Cz:=@Bool.eq_iff_iff
def CF:=@PySem.mem_of_lookup
def CH:=@List.getElem?_take_of_lt
def CJ:=@List.take_sublist
def CK:=@List.length_nil
def CL:=@List.length_drop
def CM:=@List.length_singleton
def CN:=@List.nil_append
def CO:=@wpAny_specialOf
def CQ:=@beq_self_eq_true
def CT:=@wpAny_setField
def CU:=@List.length_reverse
def CV:=@List.sum_append
def CY:=@Nat.mul_le_mul
def CZ:=@wpAny_tryCatch
def C1:=@List.nodup_range
def C3:=@Nat.add_zero
def C4:=@Nat.mul_le_mul_right
def C5:=@List.mem_flatMap
def C6:=@Prod.ext_iff
def Jj:=@wpAny_execs_nil
def Jk:=@wpAny_pyIter_tuple
def Jl:=@List.any_eq_false
def Jm:=@PySem.W.plainGet_of
def Jn:=@Calls.spliced_nil
def Jo:=@List.getElem?_append_left
def Jp:=@wpAny_forIn_list
def Jq:=@List.length_set
def Jr:=@Calls.callWith_builtin
def Js:=@Calls.evalArgs_plain
def Jt:=@Nat.le_of_not_lt
def Ju:=@List.forIn_cons
def Jv:=@decide_eq_true_eq
def Jw:=@List.range_succ_eq_map
def Jx:=@typeLookup_type
def Jy:=@builtinLookup_eq_fast
def Jz:=@wpAny_isInstance
def JA:=@List.getElem?_reverse
def JB:=@List.take_length
def JC:=@F.slot_zip_next
def JD:=@F.slot_tuple_iterator_next
def JE:=@Heap.get?_update_ne
def JF:=@Array.size_push
def JG:=@Bool.not_false
def JH:=@List.filterMap_cons_some
def JI:=@List.flatMap_append
def JJ:=@Nat.div_lt_of_lt_mul
def JK:=@List.mem_or_eq_of_mem_set
def JL:=@List.pairwise_iff_getElem
def JM:=@List.count_eq_zero
def JN:=@StrLaws.found_one
def JO:=@List.filter_congr
def JP:=@List.count_append
def JQ:=@List.count_cons
def JR:=@List.map_congr_left
def JS:=@List.length_flatMap
def JT:=@List.mem_reverse
def RP:=@Array.mem_toList_iff
def RQ:=@List.getElem?_replicate
def RS:=@PySem.F.slot_dict_get
def RT:=@PySem.F.plainAttrs_dict
def RU:=@Obj.isFreed_of_fields
def RV:=@Array.getElem?_toList
def RW:=@wpAny_updateSeq_pair
def RX:=@AutoSeq1.wpAny_loadPart'
def RY:=@F.slot_list_getattribute
def RZ:=@SetTable.insertAt_perm
def R0:=@List.filterMap_cons_none
def R1:=@List.mem_of_mem_drop
def R3:=@PySem.F.plainAttrs_str
def R4:=@List.eq_of_mem_replicate
def R5:=@List.sum_replicate_nat
end
namespace L2
open PySem PySem.Spec PyProof.Rows
abbrev Key:=Sum Int Str
noncomputable def mQ:Key->Value->Bool
 |.inl k,v=>Value.isInt k v
 |.inr x,v=>Value.isStrOf x v
noncomputable def R6(w:World):Key->Int
 |.inl k=>hashInt k
 |.inr x=>hashStr w x
theorem jK:∀{k:Key}{v:Value},mQ k v=true->(∃i t,k=Sum.inl i/\v=Value.int i t)\/(∃x t,k=Sum.inr x/\v=Value.str x t)
 |.inl i,v,h=>by
  obtain⟨t,e⟩:=Value.isInt_shape (k:=i) (v:=v) h
  exact .inl ⟨i,t,rfl,e⟩
 |.inr x,v,h=>by
  obtain⟨t,e⟩:=Value.isStrOf_shape (x:=x) (v:=v) h
  exact .inr ⟨x,t,rfl,e⟩
theorem R7(i:Int)(t:Tok):mQ (.inl i) (.int i t)=true:=by simp[mQ,Value.isInt]
theorem JU(x:Str)(t:Tok):mQ (.inr x) (.str x t)=true:=by simp[mQ,Value.isStrOf]
theorem R8(a b:Int):decide ((Sum.inl a:Key)=Sum.inl b)=(a==b):=by
 by_cases e:a=b
 .subst e;simp
 .have h:¬(Sum.inl a:Key)=Sum.inl b:=λq=>e (Sum.inl.inj q)
  rw[aF h]
  exact(sI.mpr e).symm
theorem R9(a b:Str):decide ((Sum.inr a:Key)=Sum.inr b)=decide (a=b):=by
 by_cases e:a=b
 .subst e;simp
 .have h:¬(Sum.inr a:Key)=Sum.inr b:=λq=>e (Sum.inr.inj q)
  rw[aF h,aF e]
theorem Sa(a:Int)(b:Str):decide ((Sum.inl a:Key)=Sum.inr b)=false:=aF (λq=>nomatch q)
theorem Sb(a:Str)(b:Int):decide ((Sum.inr a:Key)=Sum.inl b)=false:=aF (λq=>nomatch q)
noncomputable def bN(prog:Program)(w:World):PySem.KeyKind prog w Key where
 is:=mQ
 hash:=R6 w
 inj:=λv a b ha hb=>by
  rcases jK ha with ⟨i,t,rfl,rfl⟩ | ⟨x,t,rfl,rfl⟩
  .rcases jK hb with ⟨j,u,rfl,e⟩ | ⟨y,u,rfl,e⟩
   .injection e with e1 _;rw[e1]
   .exact nomatch e
  .rcases jK hb with ⟨j,u,rfl,e⟩ | ⟨y,u,rfl,e⟩
   .exact nomatch e
   .injection e with e1 _;rw[e1]
 byValue:=λk v h=>by
  rcases jK h with ⟨i,t,rfl,rfl⟩ | ⟨x,t,rfl,rfl⟩ <;> rfl
 pyHash:=λhv h=>by
  rcases jK hv with ⟨i,t,rfl,rfl⟩ | ⟨x,t,rfl,rfl⟩
  .exact wpAny_pyHash_int h
  .exact wpAny_pyHash_str h
 eqBool:=λhu hv h=>by
  rcases jK hu with ⟨i,t,rfl,rfl⟩ | ⟨x,t,rfl,rfl⟩
  .rcases jK hv with ⟨j,u,rfl,rfl⟩ | ⟨y,u,rfl,rfl⟩
   .rw[R8] at h;exact wpAny_eqBool_int h
   .rw[Sa] at h;exact SeqAt.EqAt.int_str i t y u _ _ _ _ h
  .rcases jK hv with ⟨j,u,rfl,rfl⟩ | ⟨y,u,rfl,rfl⟩
   .rw[Sb] at h;exact SeqAt.EqAt.str_int x t j u _ _ _ _ h
   .rw[R9] at h;exact wpAny_eqBool_str h
 «strs»:=λk x t v h=>by
  rcases jK h with ⟨i,u,rfl,e⟩ | ⟨y,u,rfl,e⟩
  .exact nomatch e
  .injection e with e1 _
   subst e1
   cases v <;> rfl
theorem Sd(prog:Program)(w:World)(i:Int)(t:Tok):(bN prog w).is (.inl i) (.int i t)=true:=R7 i t
theorem Se(prog:Program)(w:World)(x:Str)(t:Tok):(bN prog w).is (.inr x) (.str x t)=true:=JU x t
inductive V where
 |aA | bl (b:Bool) | int (i:Int) | str (x:Str) | iL (b:Array UInt8) | qF (b:UInt64) | ref (a:Addr) | ty (n:String)
 deriving DecidableEq
def RelV:V->Value->Prop
 |.aA,u=>u=Value.none
 |.bl b,u=>u=Value.bool b
 |.int i,u=>∃t,u=Value.int i t
 |.str x,u=>∃t,u=Value.str x t
 |.iL b,u=>∃t,u=Value.bytes b t
 |.qF b,u=>∃t,u=Value.float b t
 |.ref a,u=>u=Value.ref a
 |.ty n,u=>u=Value.type n
abbrev Vals:List V->List Value->Prop:=Paired RelV
theorem Vals.length{xs:List V}{us:List Value}(r:Vals xs us):xs.length=us.length:=iB r
theorem Vals.get:∀{xs:List V}{us:List Value}{i:Nat}{x:V},Vals xs us->xs[i]? = some x->∃u,us[i]? = some u/\RelV x u
 |_,_,_,_,.nil,e=>by simp at e
 |_,_,0,_,.cons r _,e=>by simp at e;subst e;exact⟨_,rfl,r⟩
 |_,_,i+1,x,.cons _ t,e=>by
  obtain⟨u,h1,h2⟩:=Vals.get (i:=i) (x:=x) t (by simpa using e)
  exact⟨u,by simpa using h1,h2⟩
theorem Vals.set{x:V}{u:Value}(r:RelV x u):∀{xs:List V}{us:List Value}(i:Nat),Vals xs us->Vals (xs.set i x) (us.set i u)
 |_,_,_,.nil=>.nil
 |_,_,0,.cons _ t=>.cons r t
 |_,_,i+1,.cons q t=>.cons q (Vals.set r i t)
theorem Vals.append:∀{xs ys:List V}{us ws:List Value},Vals xs us->Vals ys ws->Vals (xs++ys) (us++ws)
 |_,_,_,_,.nil,s=>s
 |_,_,_,_,.cons r t,s=>.cons r (Vals.append t s)
theorem Vals.take:∀{xs:List V}{us:List Value}(n:Nat),Vals xs us->Vals (xs.take n) (us.take n)
 |_,_,0,_=>.nil
 |_,_,_+1,.nil=>.nil
 |_,_,n+1,.cons r t=>.cons r (Vals.take n t)
theorem Vals.drop:∀{xs:List V}{us:List Value}(n:Nat),Vals xs us->Vals (xs.drop n) (us.drop n)
 |_,_,0,r=>r
 |_,_,_+1,.nil=>.nil
 |_,_,n+1,.cons _ t=>Vals.drop n t
def eT:Option V->Option Value->Prop
 |some v,some u=>RelV v u
 |none,none=>True
 |_,_=>False
def KV{κ:Type}:List (κ×V)->List (κ×Value)->Prop:=Paired λ(p:κ×V) (q:κ×Value)=>p.1=q.1/\RelV p.2 q.2
noncomputable def kV:Key->V
 |.inl i=>.int i
 |.inr x=>.str x
inductive HO where
 |lst (xs:List V)
 |tup (xs:List V)
 |dK (kvs:List (Key×V)) | dT (kvs:List (List Key×V))
 |set (S:Int->Bool) (n:Nat)
 |ins (C dx:Addr) (fs:List (Str×V))
 |own (x:Addr)
 |xd (fs:List (Str×V))
 |met (f x:Addr)
 |jL (lo hi:Int)
 |dJ (o:Obj) (u:HO)
 |mR (ps:Array Value)
 |ext (φ:Heap->Prop)
abbrev Hp:=Addr->Option HO
noncomputable def upd(H:Hp)(a:Addr)(o:HO):Hp:=λb=>if b=a then some o else H b
theorem au{H:Hp}{a:Addr}{o:HO}:upd H a o a=some o:=by unfold upd;rw[ax rfl]
theorem ak{H:Hp}{a b:Addr}{o:HO}(h:b≠a):upd H a o b=H b:=by unfold upd;rw[aq h]
theorem JV{H:Hp}{a:Addr}{o u:HO}:upd (upd H a o) a u=upd H a u:=by
 funext b;unfold upd;split <;> rfl
theorem b0{H:Hp}{a b:Addr}{o u:HO}(h:H a=some o)(h':H b=some u)(d:o≠u):a≠b:=by
 intro e;subst e;rw[h] at h';exact d (c9 h')
theorem bq{H:Hp}{a b:Addr}{o:HO}(h:H a=some o)(h':H b=none):a≠b:=by
 intro e;subst e;rw[h] at h';cases h'
section
variable(P:Program)(w:World)
def cS(H:Hp)(h:Heap)(a:Addr):HO->Prop
 |.lst xs=>xs.length<=sizeLine/\∃(its:List Value) (n:Nat),Vals xs its/\h.get? a=some { cls := .type "list",data := .seq its.toArray n }
 |.tup xs=>xs.length<=sizeLine/\∃its:List Value,Vals xs its/\IsTup h a its.toArray
 |.dK kvs=>kvs.length<=sizeLine/\(a==sysModules)=false/\∃vs,KV kvs vs/\h.DictOf (bN P w) a vs
 |.dT kvs=>kvs.length<=sizeLine/\(a==sysModules)=false/\∃xs:List (List Key×Addr×Value),
   Paired (λ(p:List Key×V) (q:List Key×Addr×Value)=>p.1=q.1/\H q.2.1=some (.tup (p.1.map kV))/\RelV p.2 q.2.2) kvs xs/\
   ∃o es ep,h.get? a=some o/\o.ExactDict/\o.data = .dict es ep/\es.toList=xs.map (entryOfKey (tupleKind (bN P w)))/\(xs.map (·.1)).Nodup
 |.set S n=>h.SetOf (intKind P w) a S n
 |.ins C dx fs=>H dx=some (.own a)/\fs.length<=1000/\dx≠a/\h.get? a=some (PySem.W.instObj C dx)/\
   ∃mA,h.Ns1 dx mA/\(∀f,eT (fs.lookup f) (mA f))/\PySem.Within mA (fs.map (·.1))
 |.own _=>∃o,h.get? a=some o
 |.xd fs=>∃mA,h.Ns1 a mA/\∀f,eT (fs.lookup f) (mA f)
 |.jL lo hi=>∃t u v,h.get? a=some { cls := .type "range",data := .fields #[.int lo t,.int hi u,.int 1 v] }
 |.dJ o u=>h.get? a=some o/\cS H h a u
 |.mR ps=>h.get? a=some { cls := .none,data := .fields ps }
 |.met f x=>h.get? a=some (PySem.W.methodObj (.ref f) (.ref x))
 |.ext φ=>φ h/\(∃o,h.get? a=some o)/\∀h1 h2:Heap,φ h1->(∀o,h1.get? a=some o->h2.get? a=some o)->φ h2
def da(H:Hp)(h:Heap):Prop := ∀a o,H a=some o->cS P w H h a o
end
section
variable{P:Program}{w:World}{H H':Hp}{h h':Heap}{a:Addr}{o:HO}
theorem cS.lt(x:cS P w H h a o):a<h.objs.size:=by
 cases o with
 |lst xs=>obtain⟨_,_,_,_,e⟩:=x;exact bE e
 |tup xs=>obtain⟨_,_,_,p⟩:=x;exact p.lt
 |dK kvs=>obtain⟨_,_,_,_,o,_,_,e,_⟩:=x;exact bE e
 |dT kvs=>obtain⟨_,_,_,_,o,_,_,e,_⟩:=x;exact bE e
 |set S n=>obtain⟨o,_,_,_,e,_⟩:=x;exact bE e
 |ins C dx fs=>obtain⟨_,_,_,e,_⟩:=x;exact bE e
 |own y=>obtain⟨_,e⟩:=x;exact bE e
 |xd fs=>obtain⟨_,⟨_,_,_,e,_⟩,_⟩:=x;exact bE e
 |jL lo hi=>obtain⟨_,_,_,e⟩:=x;exact bE e
 |dJ ob u=>obtain⟨e,_⟩:=x;exact bE e
 |mR ps=>exact bE (show h.get? a=some _ from x)
 |met f y=>exact bE (show h.get? a=some _ from x)
 |ext φ=>obtain⟨_,⟨_,e⟩,_⟩:=x;exact bE e
theorem Paired.bI{α β:Type}{F G:α->β->Prop}:∀{l₁:List α}{l₂:List β},Paired F l₁ l₂->(∀a b,F a b->G a b)->Paired G l₁ l₂
 |_,_,.nil,_=>.nil
 |_,_,.cons r t,f=>.cons (f _ _ r) (Paired.bI t f)
theorem cS.kl(x:cS P w H h a o)(k:∀b u,(b=a\/H b=some (.own a))->h.get? b=some u->h'.get? b=some u)
  (ho:∀b,H b=some (.own a)->H' b=some (.own a)) (ht:∀b xs,H b=some (.tup xs)->H' b=some (.tup xs)):cS P w H' h' a o:=by
 induction o with
 |lst xs=>obtain⟨z,its,n,r,e⟩:=x;exact⟨z,its,n,r,k _ _ (.inl rfl) e⟩
 |tup xs=>obtain⟨z,its,r,ob,e,c⟩:=x;exact⟨z,its,r,ob,k _ _ (.inl rfl) e,c⟩
 |dK kvs=>obtain⟨z,y,vs,r,ob,es,ep,e,c⟩:=x;exact⟨z,y,vs,r,ob,es,ep,k _ _ (.inl rfl) e,c⟩
 |dT kvs=>
  obtain⟨z,y,xs,r,ob,es,ep,e,c⟩:=x
  exact⟨z,y,xs,Paired.bI r λp q z=>⟨z.1,ht _ _ z.2.1,z.2.2⟩,ob,es,ep,k _ _ (.inl rfl) e,c⟩
 |set S n=>obtain⟨ob,es,ep,t,e,c⟩:=x;exact⟨ob,es,ep,t,k _ _ (.inl rfl) e,c⟩
 |ins C dx fs=>
  obtain⟨d,z,ne,e,mA,⟨od,es,ep,e2,c⟩,r⟩:=x
  exact⟨ho _ d,z,ne,k _ _ (.inl rfl) e,mA,⟨od,es,ep,k _ _ (.inr d) e2,c⟩,r⟩
 |own y=>obtain⟨ob,e⟩:=x;exact⟨ob,k _ _ (.inl rfl) e⟩
 |xd fs=>obtain⟨mA,⟨od,es,ep,e,c⟩,r⟩:=x;exact⟨mA,⟨od,es,ep,k _ _ (.inl rfl) e,c⟩,r⟩
 |jL lo hi=>obtain⟨t,u,v,e⟩:=x;exact⟨t,u,v,k _ _ (.inl rfl) e⟩
 |dJ ob u ih=>obtain⟨e,q⟩:=x;exact⟨k _ _ (.inl rfl) e,ih q⟩
 |mR ps=>
  have e:h.get? a=some { cls := .none,data := .fields ps }:=x
  show h'.get? a=some { cls := .none,data := .fields ps }
  exact k a _ (.inl rfl) e
 |met f y=>
  have e:h.get? a=some (PySem.W.methodObj (.ref f) (.ref y)):=x
  show h'.get? a=some (PySem.W.methodObj (.ref f) (.ref y))
  exact k a _ (.inl rfl) e
 |ext φ=>obtain⟨p,⟨o,e⟩,st⟩:=x;exact⟨st _ _ p λo q=>k _ _ (.inl rfl) q,⟨o,k _ _ (.inl rfl) e⟩,st⟩
theorem da.lt(x:da P w H h)(e:H a=some o):a<h.objs.size:=(x a o e).lt
theorem da.fresh(x:da P w H h)(e:h.objs.size<=a):H a=none:=by
 cases q:H a with
 |none=>rfl
 |some u=>exact absurd (gB (x.lt q) e) (sJ _)
theorem da.kept(x:da P w H h)(k:∀b u,h.get? b=some u->h'.get? b=some u):da P w H h':=λa o e=>
 (x a o e).kl (λb u _ q=>k b u q) (λ_ q=>q) λ_ _ q=>q
theorem da.laid(x:da P w H h)(k:∀b u,h.get? b=some u->h'.get? b=some u)(hp:h.objs.size<=a)(new:cS P w (upd H a o) h' a o):da P w (upd H a o) h':=λb u e=>by
 have hn:=x.fresh hp
 by_cases hb:b=a
 .subst hb;rw[au] at e;cases e;exact new
 .rw[ak hb] at e
  exact(x b u e).kl (λc v _ q=>k c v q) (λc q=>by rw[ak (bq q hn)];exact q) λc xs q=>by rw[ak (bq q hn)];exact q
end
def Rd(H:Hp)(a:Addr)(u:HO):Prop:=H a=some u\/∃o,H a=some (.dJ o u)
theorem Rd.ok{P:Program}{w:World}{H:Hp}{h:Heap}{a:Addr}{u:HO}(r:Rd H a u)(x:da P w H h):cS P w H h a u:=by
 rcases r with r | ⟨o,r⟩
 .exact x a u r
 .obtain⟨_,q⟩:=x a _ r
  exact q
def vJ:Option HO->Prop
 |some (.lst _)=>True
 |some (.dK _)=>True
 |some (.dT _)=>True
 |some (.set _ _)=>True
 |some (.ins _ _ _)=>True
 |some (.ext _)=>True
 |_=>False
section
variable{P:Program}{w:World}{H:Hp}{h h':Heap}{x e:Addr}{o':HO}
theorem da.write(ok:da P w H h)(mu:vJ (H x))(he:e=x\/H e=some (.own x))(k:∀b u,b≠e->h.get? b=some u->h'.get? b=some u)(sX:∃u,h'.get? e=some u)
  (new:cS P w (upd H x o') h' x o'):da P w (upd H x o') h':=λb u q=>by
 have JW:∀c y,H c=some (.own y)->c≠x:=λc y r z=>by subst z;rw[r] at mu;exact mu
 have Sf:∀c xs,H c=some (.tup xs)->c≠x:=λc xs r z=>by subst z;rw[r] at mu;exact mu
 by_cases hb:b=x
 .subst hb;rw[au] at q;cases q;exact new
 .rw[ak hb] at q
  by_cases qG:b=e
  .have q':H b=some (.own x):=by
    rcases he with z | z
    .exact absurd (qG.trans z) hb
    .rw[qG];exact z
   rw[q] at q';cases q'
   obtain⟨v,hv⟩:=sX
   exact⟨v,by rw[qG];exact hv⟩
  .refine(ok b u q).kl (λc v hc r=>k c v ?_ r) (λc r=>by rw[ak (JW c b r)];exact r) λc xs r=>by rw[ak (Sf c xs r)];exact r
   rcases hc with rfl | hc
   .exact qG
   .rintro rfl
    rcases he with z | z
    .exact JW c b hc z
    .rw[hc] at z;cases z;exact hb rfl
end
structure Un(fs ex:List Addr)(H H':Hp)(h h':Heap):Prop where
 keep:∀b o,h.get? b=some o->H b=none->b∉fs->b∉ex->h'.get? b=some o
 slot:∀b o,h.get? b=some o->H b=none->b∈fs->b∉ex->∃sl,h'.get? b=some { o with slots:=sl }
 free:∀b o,h.get? b=some o->H b=none->b∉ex->H' b=none
 there:∀b o,h.get? b=some o->b∉ex->∃o',h'.get? b=some o'
 gb:∀b xs,H b=some (.tup xs)->H' b=some (.tup xs)
 jM:∀b o u,H b=some (.dJ o u)->H' b=some (.dJ o u)
 km:∀b ps,H b=some (.mR ps)->∃more,H' b=some (.mR (ps++more))
section
variable{fs vK ex ex':List Addr}{H H1 H2:Hp}{h h1 h2 h':Heap}{a x e:Addr}{o:HO}
theorem Un.any(u:Un fs ex H H1 h h1){b:Addr}{ob:Obj}(q:h.get? b=some ob)(n:H b=none)(hx:b∉ex):∃sl,h1.get? b=some { ob with slots:=sl }:=by
 by_cases hb:b∈fs
 .exact u.slot b ob q n hb hx
 .exact⟨ob.slots,u.keep b ob q n hb hx⟩
theorem Un.kept(k:∀b u,h.get? b=some u->h'.get? b=some u):Un fs ex H H h h':=
 ⟨λb ob q _ _ _=>k b ob q,λb ob q _ _ _=>⟨ob.slots,k b ob q⟩,λ_ _ _ n _=>n,λb ob q _=>⟨ob,k b ob q⟩,λ_ _ q=>q,λ_ _ _ q=>q,λ_ ps q=>⟨#[],by rw[q];simp⟩⟩
theorem Un.refl:Un fs ex H H h h:=Un.kept λ_ _ q=>q
theorem Un.laid(k:∀b u,h.get? b=some u->h'.get? b=some u)(hp:h.objs.size<=a)(hn:H a=none):Un fs ex H (upd H a o) h h' where
 keep:=λb u q _ _ _=>k b u q
 slot:=λb u q _ _ _=>⟨u.slots,k b u q⟩
 free:=λb u q n _=>by rw[ak (bU (gB (bE q) hp))];exact n
 there:=λb u q _=>⟨u,k b u q⟩
 gb:=λb xs q=>by rw[ak (bq q hn)];exact q
 jM:=λb u xs q=>by rw[ak (bq q hn)];exact q
 km:=λb ps q=>⟨#[],by rw[ak (bq q hn),q];simp⟩
theorem Un.write(mu:vJ (H x))(he:e=x\/H e=some (.own x))(k:∀b u,b≠e->h.get? b=some u->h'.get? b=some u)(sX:∃u,h'.get? e=some u):Un fs ex H (upd H x o) h h':=by
 have hx:∀b,H b=none->b≠x:=λb n z=>by subst z;rw[n] at mu;exact mu
 have hb:∀b,H b=none->b≠e:=λb n z=>by
  subst z
  rcases he with r | r
  .exact hx b n r
  .rw[n] at r;cases r
 have hm:∀b u,H b=some u->¬vJ (some u)->b≠x:=λb u q nm z=>by subst z;rw[q] at mu;exact nm mu
 refine⟨λb u q n _ _=>k b u (hb b n) q,λb u q n _ _=>⟨u.slots,k b u (hb b n) q⟩,λb u q n _=>by rw[ak (hx b n)];exact n,λb u q _=>?_,
  λb xs q=>by rw[ak (hm b _ q λz=>z)];exact q,λb u xs q=>by rw[ak (hm b _ q λz=>z)];exact q,λb ps q=>⟨#[],by rw[ak (hm b _ q λz=>z),q];simp⟩⟩
 by_cases qG:b=e
 .subst qG;exact sX
 .exact⟨u,k b u qG q⟩
end
noncomputable def yQ(h:Heap)(H:Hp):List Addr:=(List.range h.objs.size).filter λa=>(H a).isSome
noncomputable def mS(h:Heap)(H:Hp):Heap:=PySem.W.hideAll h (yQ h H)
theorem Sh(h:Heap)(H:Hp):(mS h H).objs.size=h.objs.size:=PySem.W.hideAll_size _ _
theorem Si{h:Heap}{H:Hp}{b:Addr}{o:Obj}(e:h.get? b=some o)(n:H b=none):(mS h H).get? b=some o:=
 PySem.W.hideAll_get _ e λhm=>by
  have q:(H b).isSome=true:=(bQ.mp hm).2
  rw[n] at q;simp at q
theorem Sj{h:Heap}{H:Hp}{b:Addr}{o:Obj}(e:(mS h H).get? b=some o):h.get? b=some o/\H b=none:=by
 have e':h.get? b=some o:=PySem.W.of_hideAll (yQ h H) e
 refine⟨e',?_⟩
 cases q:H b with
 |none=>rfl
 |some x=>
  have hm:b∈yQ h H:=bQ.mpr ⟨eC.mpr (bE e'),by simp[q]⟩
  have z:(mS h H).get? b=none:=PySem.W.hideAll_none (yQ h H) hm
  rw[z] at e;cases e
structure Mod(K:PySem.W.Frag)(mg:Str->Option Value)(base:Heap):Prop where
 qH:K.In base
 glob:base.Ns mainGlobals mg
 blt:∃mb,base.Ns builtinsNs mb/\∀x:Str,x≠"__name__"->mb x=bootBuiltins x
 nolimit:base.NoLimit
structure Cx where
 prog:Program
 w:World
 K:PySem.W.Frag
 mg:Str->Option Value
 base:Heap
 A:Around
 N:List Str
 s₀:Shared
 H₀:Hp
 env:Env
 outer:List Env
 stack:List Env
 ex:List Addr
 fn:Str->Bool
 calm:Bool
 pn:List (Addr×Obj)
 xe:Value->Shared->Prop
noncomputable def jN(l:List Env):List Addr:=l.filterMap (·.frame)
noncomputable abbrev Cx.fs(X:Cx):List Addr:=jN X.outer
def C7(sc:Scope)(x:Str):Prop:=sc.names.lookup x=some .local\/sc.names.lookup x=some .cell\/sc.names.lookup x=some .free
def Loc(sc:Scope)(x:Str):Prop:=sc.names.lookup x=some .local\/sc.names.lookup x=some .cell
def Look(env:Env)(h:Heap)(m:Str->Option Value)(x:Str)(u:Value):Prop:=
 (env.kindOf x=some .local/\m x=some u)\/((env.kindOf x=some .cell\/env.kindOf x=some .free)/\∃c,env.cells.lookup x=some c/\h.IsCell c (some u))
structure Cx.Ok(X:Cx):Prop where
 mod:Mod X.K X.mg X.base
 kind:X.env.scope.kind = .function
 glob:X.env.globals=mainGlobals
 blt:X.env.builtins=builtinsNs
 above:X.s₀.heap.objs.size<=X.env.locals
 inj:∀x y c,X.env.cells.lookup x=some c->X.env.cells.lookup y=some c->x=y
 has:∀x,(X.env.kindOf x=some .cell\/X.env.kindOf x=some .free)->∃c,X.env.cells.lookup x=some c
 vL:∀x c,X.fn x=true->X.env.cells.lookup x=some c->X.s₀.heap.objs.size<=c
 hd:X.calm=true->X.A.handled=none
 frames:X.A.frames=some X.stack
 yR:X.stack=X.outer\/(X.stack=X.env::X.outer/\X.env.frame=some X.env.locals)
 JX:∀b∈X.ex,b≠X.env.locals/\∀x c,X.env.cells.lookup x=some c->c≠b
 bs:∀b o,X.base.get? b=some o->X.s₀.heap.get? b=some o/\X.H₀ b=none
 mT:X.base.objs.size<=X.s₀.heap.objs.size
 qI:∀b o,X.base.get? b=some o->b∉X.ex
 yS:∀b∈X.ex,b∉X.fs
 je:X.s₀.heap.FunFrames X.base X.outer
 oN:∀b∈X.fs,X.H₀ b=none
structure Inv(X:Cx)(pins:List (Addr×Obj))(σ:List (Option V))(H:Hp)(s:Shared):Prop where
 ok:X.Ok
 os:s.os=X.s₀.os
 bare:AllBare s.gens
 base:Un X.fs X.ex X.H₀ H X.s₀.heap s.heap
 loc:∃m,s.heap.Ns X.env.locals m/\∀(i:Nat) (x:Str) (v:V),X.N[i]? = some x->σ[i]? = some (some v)->C7 X.env.scope x->∃u,RelV v u/\Look X.env s.heap m x u
 cell:∀x c,X.env.cells.lookup x=some c->∃v,s.heap.IsCell c v
 free:H X.env.locals=none
 fA:∀x c,X.env.cells.lookup x=some c->H c=none
 pin:∀p∈X.pn++pins,s.heap.get? p.1=some p.2/\H p.1=none/\p.1≠X.env.locals/\p.1∉X.fs/\∀v,p.2.data ≠ .cell v
 aC:da X.prog X.w H s.heap
 len:σ.length=X.N.length
section
variable{X:Cx}{pins:List (Addr×Obj)}{σ:List (Option V)}{H H':Hp}{s:Shared}{h':Heap}
theorem Cx.Ok.Sk(ok:X.Ok){b:Addr}{o:Obj}(e:X.base.get? b=some o):b∉X.fs:=λhb=>by
 have:=(ok.je.mem hb).1
 rw[e] at this;cases this
theorem Inv.bs(I:Inv X pins σ H s):∀b o,X.base.get? b=some o->s.heap.get? b=some o/\H b=none:=λb o e=>
 ⟨I.base.keep b o (I.ok.bs b o e).1 (I.ok.bs b o e).2 (I.ok.Sk e) (I.ok.qI b o e),I.base.free b o (I.ok.bs b o e).1 (I.ok.bs b o e).2 (I.ok.qI b o e)⟩
theorem Inv.bk(I:Inv X pins σ H s):∀b o,X.base.get? b=some o->s.heap.get? b=some o:=λb o e=>(I.bs b o e).1
theorem Inv.mod(I:Inv X pins σ H s):Mod X.K X.mg X.base:=I.ok.mod
theorem Inv.cU(I:Inv X pins σ H s):X.K.In s.heap:=I.ok.mod.qH.keeps I.bk
theorem Inv.lt(I:Inv X pins σ H s):X.env.locals<s.heap.objs.size:=let ⟨_,hn,_⟩:=I.loc;hn.lt
theorem Inv.sz(I:Inv X pins σ H s):X.s₀.heap.objs.size<=s.heap.objs.size:=bA I.ok.above (yr I.lt)
theorem Inv.Sl(I:Inv X pins σ H s){a:Addr}(h:s.heap.objs.size<=a):a∉X.fs:=λhb=>by
 obtain⟨_,o,ho,_⟩:=I.ok.je.mem hb
 exact absurd (gB (bE ho) (bA I.sz h)) (sJ _)
theorem Inv.qJ(I:Inv X pins σ H s):∀x c,X.env.cells.lookup x=some c->c≠X.env.locals:=λx c e z=>by
 obtain⟨v,o,ho,hd⟩:=I.cell x c e
 obtain⟨m,⟨o',es,ep,kq,vM,_⟩,_⟩:=I.loc
 rw[z,kq] at ho;cases ho;rw[vM] at hd;cases hd
theorem Inv.je(I:Inv X pins σ H s):s.heap.FunFrames X.base X.outer:=by
 have all:∀(l:List Env),(∀b∈jN l,b∈X.fs)->X.s₀.heap.FunFrames X.base l->s.heap.FunFrames X.base l:=by
  intro l
  induction l with
  |nil=>intro _ _;trivial
  |cons env r ih=>
   intro hs hl
   obtain⟨hk,⟨L,o,hf,hn,ho,hd⟩,hr⟩:=hl
   have hL:L∈X.fs:=hs L (by unfold jN;rw[Cv,hf];exact bh)
   obtain⟨sl,e⟩:=I.base.slot L o ho (I.ok.oN L hL) hL λz=>I.ok.yS L z hL
   exact⟨hk,⟨L,_,hf,hn,e,hd⟩,ih (λb hb=>hs b (by unfold jN;rw[Cv,hf];exact bF _ hb)) hr⟩
 exact all X.outer (λ_ hb=>hb) I.ok.je
theorem Inv.stack(I:Inv X pins σ H s):s.heap.FunFrames X.base X.stack:=by
 rcases I.ok.yR with e | ⟨e,hf⟩
 .rw[e];exact I.je
 .rw[e]
  obtain⟨m,hn,_⟩:=I.loc
  refine .cons (by rw[I.ok.kind];decide) hf hn ?_ I.je
  exact Heap.get?_none_of_le (bA I.ok.mT I.ok.above)
theorem Inv.vN(I:Inv X pins σ H s):∀b∈jN X.stack,b∈X.env.locals::X.fs:=λb hb=>by
 rcases I.ok.yR with e | ⟨e,hf⟩
 .rw[e] at hb;exact bF _ hb
 .rw[e] at hb
  unfold jN at hb
  rw[Cv,hf] at hb
  exact hb
theorem Inv.JY(I:Inv X pins σ H s):∀b∈jN X.stack,H b=none:=λb hb=>by
 rcases bX.mp (I.vN b hb) with e | hb
 .rw[e];exact I.free
 .obtain⟨_,o,ho,_⟩:=I.ok.je.mem hb
  exact I.base.free b o ho (I.ok.oN b hb) λz=>I.ok.yS b z hb
theorem Inv.step{g':Array GenState}{t':Nat}{d':Drawn}{ch:List Addr}(I:Inv X pins σ H s)
  (hch:∀b∈ch,(b∈X.ex\/X.s₀.heap.objs.size<=b)/\b≠X.env.locals/\(∀x c,X.env.cells.lookup x=some c->c≠b)/\∀p∈X.pn++pins,p.1≠b)
  (keep:∀b o,b≠X.env.locals->b∉X.fs->b∉ch->s.heap.get? b=some o->H b=none->h'.get? b=some o)
  (slot:∀b o,b≠X.env.locals->b∈X.fs->b∉ch->s.heap.get? b=some o->H b=none->∃sl,h'.get? b=some { o with slots:=sl }) (free:∀b o,b∉ch->s.heap.get? b=some o->H b=none->H' b=none)
  (there:∀b o,b∉ch->s.heap.get? b=some o->∃o',h'.get? b=some o')
  (gb:∀b xs,H b=some (.tup xs)->H' b=some (.tup xs)) (jM:∀b o u,H b=some (.dJ o u)->H' b=some (.dJ o u)) (km:∀b ps,H b=some (.mR ps)->∃more,H' b=some (.mR (ps++more)))
  (ns:∀m,s.heap.Ns X.env.locals m->h'.Ns X.env.locals m) (aC:da X.prog X.w H' h') (hg:AllBare g') :
  Inv X pins σ H' { s with heap:=h',gens:=g',drawn:=d',toks:=t' }:=by
 have JZ:∀b o,X.s₀.heap.get? b=some o->b≠X.env.locals:=λb o e=>bU (gB (bE e) I.ok.above)
 have yT:∀b o,X.s₀.heap.get? b=some o->b∉X.ex->b∉ch:=λb o e hx hb=>by
  rcases(hch b hb).1 with z | z
  .exact hx z
  .exact absurd (gB (bE e) z) (sJ _)
 have cellK:∀x c,X.env.cells.lookup x=some c->∀v,s.heap.IsCell c v->h'.IsCell c v:=λx c e v ⟨o,ho,hd⟩=>by
  have vO:c∉ch:=λz=>(hch c z).2.2.1 x c e rfl
  by_cases hc:c∈X.fs
  .obtain⟨sl,q⟩:=slot c o (I.qJ x c e) hc vO ho (I.fA x c e)
   exact⟨_,q,hd⟩
  .exact⟨o,keep c o (I.qJ x c e) hc vO ho (I.fA x c e),hd⟩
 refine⟨I.ok,I.os,hg,⟨λb o e n hb hx=>?_,λb o e n hb hx=>?_,λb o e n hx=>?_,λb o e hx=>?_,λb xs e=>gb b xs (I.base.gb b xs e),λb o xs e=>jM b o xs (I.base.jM b o xs e),λb ps e=>?_⟩,?_,λx c e=>?_,?_,λx c e=>?_,λp hp=>?_,aC,I.len⟩
 .exact keep b o (JZ b o e) hb (yT b o e hx) (I.base.keep b o e n hb hx) (I.base.free b o e n hx)
 .obtain⟨sl,e1⟩:=I.base.slot b o e n hb hx
  obtain⟨qK,e2⟩:=slot b _ (JZ b o e) hb (yT b o e hx) e1 (I.base.free b o e n hx)
  exact⟨qK,e2⟩
 .obtain⟨o',e1⟩:=I.base.there b o e hx
  exact free b o' (yT b o e hx) e1 (I.base.free b o e n hx)
 .obtain⟨o',e1⟩:=I.base.there b o e hx
  exact there b o' (yT b o e hx) e1
 .obtain⟨m1,e1⟩:=I.base.km b ps e
  obtain⟨m2,e2⟩:=km b _ e1
  exact⟨m1++m2,by rw[e2,Array.append_assoc]⟩
 .obtain⟨m,hn,hl⟩:=I.loc
  refine⟨m,ns m hn,λi x v e1 e2 e3=>?_⟩
  obtain⟨u,r,l⟩:=hl i x v e1 e2 e3
  refine⟨u,r,?_⟩
  rcases l with l | ⟨k,c,e,z⟩
  .exact .inl l
  .exact .inr ⟨k,c,e,cellK x c e _ z⟩
 .obtain⟨v,z⟩:=I.cell x c e
  exact⟨v,cellK x c e v z⟩
 .obtain⟨m,⟨o,_,_,ho,_⟩,_⟩:=I.loc
  exact free _ o (λz=>(hch _ z).2.1 rfl) ho I.free
 .obtain⟨v,o,ho,hd⟩:=I.cell x c e
  exact free c o (λz=>(hch c z).2.2.1 x c e rfl) ho (I.fA x c e)
 .obtain⟨e,n,ne,nf,d⟩:=I.pin p hp
  have vO:p.1∉ch:=λz=>(hch p.1 z).2.2.2 p hp rfl
  exact⟨keep p.1 p.2 ne nf vO e n,free p.1 p.2 vO e n,ne,nf,d⟩
theorem Inv.un{t':Nat}(I:Inv X pins σ H s)(u:Un X.fs [] H H' s.heap h')(aC:da X.prog X.w H' h'):Inv X pins σ H' { s with heap:=h',toks:=t' }:=by
 obtain⟨m,⟨o,es,ep,ho,r⟩,_⟩:=id I.loc
 obtain⟨sl,hL⟩:=u.any ho I.free (by simp)
 exact I.step (g':=s.gens) (d':=s.drawn) (ch:=[]) (λ_ z=>nomatch z) (λb o _ hb _ e n=>u.keep b o e n hb (by simp)) (λb o _ hb _ e n=>u.slot b o e n hb (by simp)) (λb o _ e n=>u.free b o e n (by simp)) (λb o _ e=>u.there b o e (by simp)) u.gb u.jM u.km (λm' hm=>by
  obtain⟨o',gY,C8,kq,r'⟩:=hm
  rw[ho] at kq;cases kq
  exact⟨_,gY,C8,hL,r'⟩) aC I.bare
theorem Inv.call{g':Array GenState}{t':Nat}{d':Drawn}{ch:List Addr}(I:Inv X pins σ H s)(u:Un (jN X.stack) ch H H' s.heap h')(aC:da X.prog X.w H' h')(hg:AllBare g')
  (hch:∀b∈ch,(b∈X.ex\/X.s₀.heap.objs.size<=b)/\b≠X.env.locals/\(∀x c,X.env.cells.lookup x=some c->c≠b)/\∀p∈X.pn++pins,p.1≠b) :
  Inv X pins σ H' { s with heap:=h',gens:=g',drawn:=d',toks:=t' }:=by
 obtain⟨m,⟨o,es,ep,ho,r⟩,_⟩:=id I.loc
 obtain⟨sl,hL⟩:=u.any ho I.free λz=>(hch _ z).2.1 rfl
 exact I.step (ch:=ch) hch (λb o hL hb hc e n=>u.keep b o e n (λz=>(bX.mp (I.vN b z)).elim hL hb) hc) (λb o _ _ hc e n=>u.any e n hc) (λb o hc e n=>u.free b o e n hc) (λb o hc e=>u.there b o e hc) u.gb u.jM u.km (λm' hm=>by
  obtain⟨o',gY,C8,kq,r'⟩:=hm
  rw[ho] at kq;cases kq
  exact⟨_,gY,C8,hL,r'⟩) aC hg
theorem Inv.turned{t':Nat}{it:Addr}(I:Inv X pins σ H s)(k:∀b o,b≠it->s.heap.get? b=some o->h'.get? b=some o)(hn:H it=none)(hL:it≠X.env.locals)
  (h1:it∈X.ex\/X.s₀.heap.objs.size<=it) (h2:∀x c,X.env.cells.lookup x=some c->c≠it) (h3:∀p∈X.pn++pins,p.1≠it):Inv X pins σ H { s with heap:=h',toks:=t' }:=by
 have J0:∀b u,H b=some u->b≠it:=λb u e z=>by rw[z,hn] at e;cases e
 refine I.step (g':=s.gens) (d':=s.drawn) (ch:=[it]) (λb hb=>?_) (λb o _ _ hc e _=>k b o (λz=>hc (by simp[z])) e) (λb o _ _ hc e _=>⟨o.slots,k b o (λz=>hc (by simp[z])) e⟩) (λ_ _ _ _ n=>n)
  (λb o hc e=>⟨o,k b o (λz=>hc (by simp[z])) e⟩) (λ_ _ e=>e) (λ_ _ _ e=>e) (λb ps e=>⟨#[],by rw[e];simp⟩) (λm hm=>?_) (λb u e=>?_) I.bare
 .have e:b=it:=by simpa using hb
  subst e
  exact⟨h1,hL,h2,h3⟩
 .obtain⟨o,es,ep,ho,r⟩:=hm
  exact⟨o,es,ep,k _ o (bj hL) ho,r⟩
 .refine(I.aC b u e).kl (λc v hc q=>k c v ?_ q) (λ_ q=>q) λ_ _ q=>q
  rcases hc with z | z
  .rw[z];exact J0 b u e
  .exact J0 c _ z
theorem Inv.tok(I:Inv X pins σ H s)(t:Nat):Inv X pins σ H { s with toks:=t }:=I.un (h':=s.heap) (t':=t) Un.refl I.aC
theorem Inv.kept{t':Nat}(I:Inv X pins σ H s)(k:∀b u,s.heap.get? b=some u->h'.get? b=some u):Inv X pins σ H { s with heap:=h',toks:=t' }:=I.un (Un.kept k) (I.aC.kept k)
theorem Inv.laid{a:Addr}{o:HO}{t':Nat}(I:Inv X pins σ H s)(k:∀b u,s.heap.get? b=some u->h'.get? b=some u)(hp:s.heap.objs.size<=a)(new:cS X.prog X.w (upd H a o) h' a o) :
  Inv X pins σ (upd H a o) { s with heap:=h',toks:=t' }:=I.un (Un.laid k hp (I.aC.fresh hp)) (I.aC.laid k hp new)
theorem Inv.write{x e:Addr}{o:HO}{t':Nat}(I:Inv X pins σ H s)(mu:vJ (H x))(he:e=x\/H e=some (.own x))(k:∀b u,b≠e->s.heap.get? b=some u->h'.get? b=some u)(sX:∃u,h'.get? e=some u)
  (new:cS X.prog X.w (upd H x o) h' x o):Inv X pins σ (upd H x o) { s with heap:=h',toks:=t' }:=I.un (Un.write mu he k sX) (I.aC.write mu he k sX new)
theorem Inv.yU{yV:List (Addr×Obj)}(I:Inv X pins σ H s)(h:∀p∈yV,s.heap.get? p.1=some p.2/\H p.1=none/\p.1≠X.env.locals/\p.1∉X.fs/\∀v,p.2.data ≠ .cell v):Inv X yV σ H s:=
 ⟨I.ok,I.os,I.bare,I.base,I.loc,I.cell,I.free,I.fA,λp hp=>(dh.mp hp).elim (λz=>I.pin p (om _ z)) (h p),I.aC,I.len⟩
theorem J1{N:List Str}(hN:N.Nodup){i j:Nat}{x:Str}(a:N[i]? = some x)(b:N[j]? = some x):i=j:=by
 obtain⟨h1,e1⟩:=bZ.mp a
 obtain⟨h2,e2⟩:=bZ.mp b
 exact(List.getElem_inj hN).mp (e1.trans e2.symm)
theorem Sn{M:Model}{A:Around}{E:Value->Shared->Prop}{i:Nat}{x:Str}{v:V}{u:Value}{Q:Unit->Shared->Prop}(I:Inv X pins σ H s)(hN:X.N.Nodup)(hi:X.N[i]? = some x)(hx:Loc X.env.scope x)(r:RelV v u)
  (h:∀s',Inv X pins (σ.set i (some v)) H s'->(∃a,Heap.SameBut a s.heap s'.heap/\(a=X.env.locals\/X.env.cells.lookup x=some a))->Q () s') (hf:X.fn x=true\/X.env.scope.names.lookup x=some .local:=by first | exact .inl rfl | exact .inr rfl | assumption):wpAny M A (storeName X.env x u) Q E s:=by
 obtain⟨m,hn,hl⟩:=id I.loc
 have So:(X.env.scope.kind == .class||(X.env.scope.kind == .module&&X.env.locals != X.env.globals))=false:=by rw[I.ok.kind];rfl
 have J2:i<σ.length:=by rw[I.len];exact(bZ.mp hi).1
 have qJ:=I.qJ
 have tracked:∀{a:Addr}{h':Heap},(∃o,s.heap.get? a=some o/\H a=none)->Heap.SameBut a s.heap h'->da X.prog X.w H h':=λ{a h'} ha hs b ob e=>by
  obtain⟨_,_,J3⟩:=ha
  refine(I.aC b ob e).kl (λc w' hc q=>(hs.2 c ?_).trans q) (λ_ q=>q) λ_ _ q=>q
  rintro rfl
  rcases hc with rfl | hc
  .rw[J3] at e;cases e
  .rw[J3] at hc;cases hc
 rcases hx with hk | hk
 .refine wpAny_storeName_local hk hn (λh' sY hs=>?_) So
  obtain⟨oL,_,_,vP,_⟩:=id hn
  refine h _ ⟨I.ok,I.os,I.bare,⟨λb o e n hb hx=>?_,λb o e n hb hx=>?_,I.base.free,λb o e hx=>?_,I.base.gb,I.base.jM,I.base.km⟩,⟨_,sY,λj y v' e1 e2 e3=>?_⟩,λy c e=>?_,I.free,I.fA,λp hp=>?_,tracked ⟨oL,vP,I.free⟩ hs,by simpa using I.len⟩ ⟨_,hs,.inl rfl⟩
  .exact(hs.2 b (bU (gB (bE e) I.ok.above))).trans (I.base.keep b o e n hb hx)
  .obtain⟨sl,e1⟩:=I.base.slot b o e n hb hx
   exact⟨sl,(hs.2 b (bU (gB (bE e) I.ok.above))).trans e1⟩
  .obtain⟨o',e1⟩:=I.base.there b o e hx
   exact⟨o',(hs.2 b (bU (gB (bE e) I.ok.above))).trans e1⟩
  .by_cases hj:j=i
   .subst hj
    rw[hi] at e1;cases e1
    rw[vt J2] at e2
    cases e2
    exact⟨u,r,.inl ⟨hk,by simp⟩⟩
   .rw[yt (bj hj)] at e2
    obtain⟨u',r',q⟩:=hl j y v' e1 e2 e3
    refine⟨u',r',?_⟩
    rcases q with ⟨k,e⟩ | ⟨k,c,e,z⟩
    .refine .inl ⟨k,?_⟩
     have:y≠x:=λe=>hj (J1 hN e1 (e ▸ hi))
     simp[this,e]
    .exact .inr ⟨k,c,e,z.sameBut hs (qJ y c e)⟩
  .obtain⟨w',z⟩:=I.cell y c e
   exact⟨w',z.sameBut hs (qJ y c e)⟩
  .obtain⟨e,n,ne,nf,d⟩:=I.pin p hp
   exact⟨(hs.2 p.1 ne).trans e,n,ne,nf,d⟩
 .have C9:X.fn x=true:=by
   rcases hf with z | z
   .exact z
   .rw[z] at hk;cases hk
  obtain⟨c,hc⟩:=I.ok.has x (.inl hk)
  obtain⟨w',z⟩:=I.cell x c hc
  refine wpAny_storeName_cell I.ok.kind hk hc z (λh' sZ hs=>?_)
  obtain⟨oc,oO,Sq⟩:=id z
  refine h { s with heap:=h' } ⟨I.ok,I.os,I.bare,⟨λb o e n hb hx=>?_,λb o e n hb hx=>?_,I.base.free,λb o e hx=>?_,I.base.gb,I.base.jM,I.base.km⟩,⟨m,hn.sameBut hs (bj (qJ x c hc)),λj y v' e1 e2 e3=>?_⟩,λy c' e=>?_,I.free,I.fA,λp hp=>?_,tracked ⟨oc,oO,I.fA x c hc⟩ hs,by simpa using I.len⟩ ⟨c,hs,.inr hc⟩
  .exact(hs.2 b (bU (gB (bE e) (I.ok.vL x c C9 hc)))).trans (I.base.keep b o e n hb hx)
  .obtain⟨sl,e1⟩:=I.base.slot b o e n hb hx
   exact⟨sl,(hs.2 b (bU (gB (bE e) (I.ok.vL x c C9 hc)))).trans e1⟩
  .obtain⟨o',e1⟩:=I.base.there b o e hx
   exact⟨o',(hs.2 b (bU (gB (bE e) (I.ok.vL x c C9 hc)))).trans e1⟩
  .by_cases hj:j=i
   .subst hj
    rw[hi] at e1;cases e1
    rw[vt J2] at e2
    cases e2
    exact⟨u,r,.inr ⟨.inl hk,c,hc,sZ⟩⟩
   .rw[yt (bj hj)] at e2
    obtain⟨u',r',q⟩:=hl j y v' e1 e2 e3
    refine⟨u',r',?_⟩
    rcases q with q | ⟨k,c',e,z'⟩
    .exact .inl q
    .refine .inr ⟨k,c',e,z'.sameBut hs ?_⟩
     rintro rfl
     exact hj (J1 hN e1 (I.ok.inj _ _ _ e hc ▸ hi))
  .by_cases hcc:c'=c
   .subst hcc;exact⟨_,sZ⟩
   .obtain⟨w2,z2⟩:=I.cell y c' e
    exact⟨w2,z2.sameBut hs hcc⟩
  .obtain⟨e,n,ne,nf,d⟩:=I.pin p hp
   refine⟨(hs.2 p.1 ?_).trans e,n,ne,nf,d⟩
   intro q
   rw[q,oO] at e
   have q':oc=p.2:=c9 e
   exact d w' (by rw[<-q'];exact Sq)
theorem Dc{M:Model}{A:Around}{E:Value->Shared->Prop}{i:Nat}{x:Str}{v:V}{u:Value}{Q:Unit->Shared->Prop}(I:Inv X pins σ H s)(hN:X.N.Nodup)(hi:X.N[i]? = some x)(hx:Loc X.env.scope x)(r:RelV v u)
  (h:∀s',Inv X pins (σ.set i (some v)) H s'->Q () s') (hf:X.fn x=true\/X.env.scope.names.lookup x=some .local:=by first | exact .inl rfl | exact .inr rfl | assumption):wpAny M A (storeName X.env x u) Q E s:=
 Sn I hN hi hx r (λs' I' _=>h s' I') hf
theorem Inv.yW{s':Shared}{ch:List Addr}(I:Inv X pins σ H s)(ho:s'.os=s.os)(u:Un (jN X.stack) ch H H' s.heap s'.heap)(aC:da X.prog X.w H' s'.heap)(hg:AllBare s'.gens)
  (hch:∀b∈ch,(b∈X.ex\/X.s₀.heap.objs.size<=b)/\b≠X.env.locals/\(∀x c,X.env.cells.lookup x=some c->c≠b)/\∀p∈X.pn++pins,p.1≠b):Inv X pins σ H' s':=by
 obtain⟨h',g',d',t',o'⟩:=s'
 have e:o'=s.os:=ho
 subst e
 exact I.call (g':=g') (t':=t') (d':=d') u aC hg hch
end
abbrev XK:=Value->Option Addr->Hp->Prop
abbrev St:=List (Option V)
abbrev VK:=V->Hp->Prop
abbrev TE:=St->Hp->VK->Prop
abbrev TT:=St->Hp->(Bool->Hp->Prop)->Prop
abbrev TA:=St->Hp->(List V->Hp->Prop)->Prop
structure Ends where
 nx:St->Hp->Prop
 rt:VK
 bk:St->Hp->Prop:=λ_ _=>False
 ct:St->Hp->Prop:=λ_ _=>False
abbrev TS:=Ends->St->Hp->Prop
def EP(X:Cx)(pins:List (Addr×Obj))(σ:St)(Q:VK)(u:Value)(s':Shared):Prop := ∃v H',Inv X pins σ H' s'/\RelV v u/\Q v H'
def TP(X:Cx)(pins:List (Addr×Obj))(σ:St)(Q:Bool->Hp->Prop)(b:Bool)(s':Shared):Prop := ∃H',Inv X pins σ H' s'/\Q b H'
def AP(X:Cx)(pins:List (Addr×Obj))(σ:St)(Q:List V->Hp->Prop)(us:List Value)(s':Shared):Prop := ∃vs H',Inv X pins σ H' s'/\Vals vs us/\Q vs H'
def SP(X:Cx)(pins:List (Addr×Obj))(D:Ends)(f:Flow)(s':Shared):Prop:=
 match f with
 |.next=>∃σ' H',Inv X pins σ' H' s'/\D.nx σ' H'
 |.brk=>∃σ' H',Inv X pins σ' H' s'/\D.bk σ' H'
 |.cont=>∃σ' H',Inv X pins σ' H' s'/\D.ct σ' H'
 |.ret u=>∃v σ' H',Inv X pins σ' H' s'/\RelV v u/\D.rt v H'
def PE(X:Cx)(e:Expr)(t:TE):Prop:=
 ∀(pins:List (Addr×Obj)) (s:Shared) (σ:St) (H:Hp) (Q:VK),Inv X pins σ H s->t σ H Q->wpAny (model X.prog X.w) X.A (eval e X.env) (EP X pins σ Q) X.xe s
def PT(X:Cx)(e:Expr)(t:TT):Prop:=
 ∀(pins:List (Addr×Obj)) (s:Shared) (σ:St) (H:Hp) (Q:Bool->Hp->Prop),Inv X pins σ H s->t σ H Q->wpAny (model X.prog X.w) X.A (isTrue e X.env (eval e X.env)) (TP X pins σ Q) X.xe s
def PW(X:Cx)(e:Expr)(t:TT):Prop:=
 ∀(whole:Sem Value) (pins:List (Addr×Obj)) (s:Shared) (σ:St) (H:Hp) (Q:Bool->Hp->Prop),Inv X pins σ H s->t σ H Q->wpAny (model X.prog X.w) X.A (isTrue e X.env whole) (TP X pins σ Q) X.xe s
theorem PW.pt{X:Cx}{e:Expr}{t:TT}(h:PW X e t):PT X e t:=h _
def PA(X:Cx)(es:List Expr)(t:TA):Prop:=
 ∀(pos:Pos) (pins:List (Addr×Obj)) (s:Shared) (σ:St) (H:Hp) (Q:List V->Hp->Prop),Inv X pins σ H s->t σ H Q->wpAny (model X.prog X.w) X.A (spliced (backTo pos (starEach es X.env))) (AP X pins σ Q) X.xe s
def PS(X:Cx)(st:Stmt)(t:TS):Prop:=
 ∀(pins:List (Addr×Obj)) (s:Shared) (σ:St) (H:Hp) (D:Ends),Inv X pins σ H s->t D σ H->wpAny (model X.prog X.w) X.A (exec st X.env) (SP X pins D) X.xe s
def gc(X:Cx)(st:List Stmt)(t:TS):Prop:=
 ∀(pins:List (Addr×Obj)) (s:Shared) (σ:St) (H:Hp) (D:Ends),Inv X pins σ H s->t D σ H->wpAny (model X.prog X.w) X.A (execs st X.env) (SP X pins D) X.xe s
theorem aB{α:Type}{t:Sem α}{Q Q':α->Shared->Prop}{M:Model}{A:Around}{E:Value->Shared->Prop}{s:Shared}(h:wpAny M A t Q E s)(hQ:∀a s,Q a s->Q' a s):wpAny M A t Q' E s:=jE h hQ λ_ _ x=>x
section
variable{X:Cx}
def Ka(i:Nat):TE:=λσ H Q=>∃v,σ[i]? = some (some v)/\Q v H
def tC(v:V):TE:=λ_ H Q=>Q v H
theorem Sr{i:Nat}{x:Str}{pos:Pos}(hN:X.N[i]? = some x)(hv:C7 X.env.scope x)(hd:(x==("__debug__":Str))=false:=by decide)(iM:(x==("__classdict__":Str))=false:=by decide):PE X (.Name x pos) (Ka i):=by
 intro pins s σ H Q I h
 obtain⟨v,e,h⟩:=h
 obtain⟨m,hn,hl⟩:=I.loc
 obtain⟨u,r,l⟩:=hl i x v hN e hv
 have fin:EP X pins σ Q u s:=⟨v,H,I,r,h⟩
 rcases l with ⟨hk,hm⟩ | ⟨hk,c,hc,Kb⟩
 .exact wpAny_Name (wpAny_loadName_local I.ok.kind hk hn hm fin) hd
 .rcases hk with hk | hk
  .exact wpAny_Name (wpAny_loadName_cell I.ok.kind hk hc Kb fin) hd
  .exact wpAny_Name (wpAny_loadName_free I.ok.kind hk hc Kb fin iM) hd
theorem aE{i j pos}:PE X (.Constant (.int i) j pos) (tC (.int i)):=λ_ _ _ H _ I h=>wpAny_Constant_int ⟨.int i,H,I.tok _,⟨_,rfl⟩,h⟩
theorem lE{b j pos}:PE X (.Constant (.bool b) j pos) (tC (.bl b)):=λ_ _ _ H _ I h=>Constant_bool ⟨.bl b,H,I,rfl,h⟩
theorem mU{j pos}:PE X (.Constant .none j pos) (tC .aA):=λ_ _ _ H _ I h=>Constant_none ⟨.aA,H,I,rfl,h⟩
theorem gh{x j pos}:PE X (.Constant (.str x) j pos) (tC (.str x)):=λ_ _ _ H _ I h=>Calls.Constant_str ⟨.str x,H,I.tok _,⟨_,rfl⟩,h⟩
def Gl(X:Cx)(x:Str):Prop:=X.env.kindOf x=some .globalImplicit
theorem vQ{E:Value->Shared->Prop}{pins:List (Addr×Obj)}{s:Shared}{σ:St}{H:Hp}{x:Str}{u:Value}{pos:Pos}{Q:Value->Shared->Prop}(I:Inv X pins σ H s)(hg:Gl X x)(hm:X.mg x=some u)(h:Q u s)
  (hd:(x==("__debug__":Str))=false:=by decide):wpAny (model X.prog X.w) X.A (eval (.Name x pos) X.env) Q E s:=
 Calls.Name_function_global I.ok.kind hg (Calls.loadGlobal_global (by rw[I.ok.glob];exact I.mod.glob.keeps I.bk) hm h) hd
theorem oP{E:Value->Shared->Prop}{pins:List (Addr×Obj)}{s:Shared}{σ:St}{H:Hp}{x:Str}{u:Value}{pos:Pos}{Q:Value->Shared->Prop}(I:Inv X pins σ H s)(hg:Gl X x)(hm:X.mg x=none)(hv:bootBuiltins x=some u)(h:Q u s)
  (hn:x≠"__name__":=by decide) (hd:(x==("__debug__":Str))=false:=by decide):wpAny (model X.prog X.w) X.A (eval (.Name x pos) X.env) Q E s:=by
 obtain⟨mb,h1,h2⟩:=I.mod.blt
 exact Calls.Name_function_global I.ok.kind hg (Calls.loadGlobal_builtin (by rw[I.ok.glob];exact I.mod.glob.keeps I.bk) hm (by rw[I.ok.blt];exact h1.keeps I.bk) ((h2 x hn).trans hv) h) hd
theorem Ss{x:Str}{v:V}{u:Value}{pos:Pos}(hg:Gl X x)(hm:X.mg x=some u)(r:RelV v u)(hd:(x==("__debug__":Str))=false:=by decide):PE X (.Name x pos) (tC v):=
 λ_ _ _ H _ I h=>vQ I hg hm ⟨v,H,I,r,h⟩ hd
theorem Su{x:Str}{v:V}{u:Value}{pos:Pos}(hg:Gl X x)(hm:X.mg x=none)(hv:bootBuiltins x=some u)(r:RelV v u)(hn:x≠"__name__":=by decide)(hd:(x==("__debug__":Str))=false:=by decide):PE X (.Name x pos) (tC v):=
 λ_ _ _ H _ I h=>oP I hg hm hv ⟨v,H,I,r,h⟩ hn hd
variable{a b:Expr}{ta tb:TE}{pos:Pos}
def PC(X:Cx)(op:CmpOp)(a b:Expr)(t:TE):Prop:=
 ∀(pins:List (Addr×Obj)) (s:Shared) (σ:St) (H:Hp) (Q:VK),Inv X pins σ H s->t σ H Q->
  wpAny (model X.prog X.w) X.A (eval a X.env) (λv s₁=>wpAny (model X.prog X.w) X.A (eval b X.env) (λu s₂=>wpAny (model X.prog X.w) X.A (compareOp op v u) (EP X pins σ Q) X.xe s₂) X.xe s₁) X.xe s
def tB(t:TE):TT:=λσ H Q=>t σ H λx H1=>∃c,x = .bl c/\Q c H1
theorem yX{op:CmpOp}{t:TE}(h:PC X op a b t)(h1:behindInMarks op b=false:=by first | exact aga _ (by decide) (by decide) | rfl):PT X (.Compare a [op] [b] pos) (tB t):=by
 intro pins s σ H Q I hw
 refine wpAny_isTrue_Compare1 (aB (h pins s σ H _ I hw) λv s1 h1=>aB h1 λu s2 h2=>aB h2 λc s3 ⟨x,H1,I1,r1,q1⟩=>?_) h1
 obtain⟨d,rfl,q⟩:=q1
 cases r1
 exact oo ⟨H1,I1,q⟩
theorem kr{e:Expr}{t:TE}(h:PE X e t)(he:∀whole,isTrue e X.env whole=(do let v<-whole;standAt e.pos;holding [v] (truthy v)):=by intro _;rfl):PT X e (tB t):=by
 intro pins s σ H Q I hw
 refine isTrue_plain (aB (h pins s σ H _ I hw) λv s1 ⟨x,H1,I1,r1,q1⟩=>?_) (he _)
 obtain⟨d,rfl,q⟩:=q1
 cases r1
 exact oo ⟨H1,I1,q⟩
variable{tA yY:TT}{rest:List Expr}
def Sv(t u:TT):TT:=λσ H Q=>t σ H λc H1=>if c=true then u σ H1 Q else Q false H1
def Sw(t u:TT):TT:=λσ H Q=>t σ H λc H1=>if c=true then Q true H1 else u σ H1 Q
def Sx(t:TT):TT:=λσ H Q=>t σ H λc H1=>Q (!c) H1
theorem vR(ha:PT X a tA):PW X (.BoolOp .And [a] pos) tA:=by
 intro wh pins s σ H Q I h
 refine isTrue_and (aB (ha pins s σ H Q I h) λc s1 e=>?_)
 cases c with
 |true=>exact isTrue_and_nil e
 |false=>exact e
theorem tf(ha:PT X a tA):PW X (.BoolOp .Or [a] pos) tA:=by
 intro wh pins s σ H Q I h
 refine isTrue_or (aB (ha pins s σ H Q I h) λc s1 e=>?_)
 cases c with
 |false=>exact isTrue_or_nil e
 |true=>exact e
theorem vS(ha:PT X a tA)(hb:PW X (.BoolOp .And (b::rest) pos) yY):PW X (.BoolOp .And (a::b::rest) pos) (Sv tA yY):=by
 intro wh pins s σ H Q I h
 refine isTrue_and (aB (ha pins s σ H _ I h) λc s1 ⟨H1,I1,q1⟩=>?_)
 cases c with
 |true=>exact hb wh pins s1 σ H1 Q I1 q1
 |false=>exact⟨H1,I1,q1⟩
theorem tj(ha:PT X a tA)(hb:PW X (.BoolOp .Or (b::rest) pos) yY):PW X (.BoolOp .Or (a::b::rest) pos) (Sw tA yY):=by
 intro wh pins s σ H Q I h
 refine isTrue_or (aB (ha pins s σ H _ I h) λc s1 ⟨H1,I1,q1⟩=>?_)
 cases c with
 |true=>exact⟨H1,I1,q1⟩
 |false=>exact hb wh pins s1 σ H1 Q I1 q1
theorem mV(ha:PT X a tA):PT X (.UnaryOp .Not a pos) (Sx tA):=by
 intro pins s σ H Q I h
 exact isTrue_not (ha pins s σ H (λc H1=>Q (!c) H1) I h)
def Sz(ta tb:TE):TE:=λσ H Q=>ta σ H λx H1=>∃c,x = .bl c/\if c=true then tb σ H1 Q else Q (.bl false) H1
theorem SA{op}{t:TE}(h:PE X a t):PE X (.BoolOp op [a] pos) t:=λpins s σ H Q I hw=>BoolOp_one (h pins s σ H Q I hw)
theorem SD(ha:PE X a ta)(hb:PE X (.BoolOp .And (b::rest) pos) tb):PE X (.BoolOp .And (a::b::rest) pos) (Sz ta tb):=by
 intro pins s σ H Q I h
 refine BoolOp_and (aB (ha pins s σ H _ I h) λv s1 ⟨x,H1,I1,r1,q1⟩=>?_)
 obtain⟨c,rfl,q1⟩:=q1
 cases r1
 refine oo ?_
 cases c with
 |true=>exact hb pins s1 σ H1 Q I1 q1
 |false=>exact⟨.bl false,H1,I1,rfl,q1⟩
def SE(t:TT)(ta tb:TE):TE:=λσ H Q=>t σ H λc H1=>if c=true then ta σ H1 Q else tb σ H1 Q
theorem SF{c:Expr}(hc:PT X c tA)(ha:PE X a ta)(hb:PE X b tb):PE X (.IfExp c a b pos) (SE tA ta tb):=by
 intro pins s σ H Q I h
 refine wpAny_IfExp (aB (hc pins s σ H _ I h) λd s1 ⟨H1,I1,q1⟩=>?_)
 cases d with
 |true=>exact ha pins s1 σ H1 Q I1 q1
 |false=>exact hb pins s1 σ H1 Q I1 q1
end
def aj(K:PySem.W.Frag)(H:Hp)(a:Addr)(xs:List V):Prop:=
 Rd H a (.lst xs)\/
  ∃(o:Obj) (its:Array Value) (n:Nat),K.lookup a=some o/\o.cls = .type "list"/\o.dict=none/\o.data = .seq its n/\its.size<=sizeLine/\Vals xs its.toList
def aw(K:PySem.W.Frag)(H:Hp)(a:Addr)(xs:List V):Prop:=
 Rd H a (.tup xs)\/
  ∃(o:Obj) (its:Array Value) (n:Nat),K.lookup a=some o/\o.cls = .type "tuple"/\o.data = .seq its n/\its.size<=sizeLine/\Vals xs its.toList
noncomputable def SG:Value->Option V
 |.none=>some .aA
 |.bool b=>some (.bl b)
 |.int i _=>some (.int i)
 |.str x _=>some (.str x)
 |.bytes b _=>some (.iL b)
 |.float b _=>some (.qF b)
 |.ref a=>some (.ref a)
 |.type n=>some (.ty n)
 |_=>none
theorem RelV.abs{x:V}{u:Value}(r:RelV x u):SG u=some x:=by
 cases x with
 |aA=>cases r;rfl
 |bl _=>cases r;rfl
 |int _=>obtain⟨t,rfl⟩:=r;rfl
 |str _=>obtain⟨t,rfl⟩:=r;rfl
 |iL _=>obtain⟨t,rfl⟩:=r;rfl
 |qF _=>obtain⟨t,rfl⟩:=r;rfl
 |ref _=>cases r;rfl
 |ty _=>cases r;rfl
theorem RelV.inj{x y:V}{u:Value}(r:RelV x u)(q:RelV y u):x=y:=c9 (r.abs.symm.trans q.abs)
theorem Vals.inj:∀{xs ys:List V}{us:List Value},Vals xs us->Vals ys us->xs=ys
 |_,_,_,.nil,.nil=>rfl
 |_,_,_,.cons r t,.cons r' t'=>by rw[r.inj r',Vals.inj t t']
section
variable{X:Cx}{pins:List (Addr×Obj)}{σ:St}{H:Hp}{s:Shared}{a:Addr}{xs ys:List V}
theorem aj.of{K:PySem.W.Frag}(h:H a=some (.lst xs)):aj K H a xs := .inl (.inl h)
theorem aw.of{K:PySem.W.Frag}(h:H a=some (.tup xs)):aw K H a xs := .inl (.inl h)
theorem Inv.list(I:Inv X pins σ H s)(h:aj X.K H a xs):∃its:List Value,Vals xs its/\PlainL s.heap a its.toArray/\xs.length<=sizeLine:=by
 rcases h with h | ⟨o,its,n,hk,hc,hd,hs,hz,r⟩
 .obtain⟨z,its,n,r,e⟩:=h.ok I.aC
  exact⟨its,r,⟨_,n,e,rfl,rfl,rfl⟩,z⟩
 .refine⟨its.toList,r,⟨o,n,I.cU a o hk,hc,hd,by simpa using hs⟩,?_⟩
  have e:=r.length
  simp only[fm] at e
  omega
theorem Inv.tuple(I:Inv X pins σ H s)(h:aw X.K H a xs):∃its:List Value,Vals xs its/\IsTup s.heap a its.toArray/\xs.length<=sizeLine:=by
 rcases h with h | ⟨o,its,n,hk,hc,hs,hz,r⟩
 .obtain⟨z,its,r,p⟩:=h.ok I.aC
  exact⟨its,r,p,z⟩
 .refine⟨its.toList,r,⟨o,I.cU a o hk,hc,n,by simpa using hs⟩,?_⟩
  have e:=r.length
  simp only[fm] at e
  omega
theorem Inv.De(I:Inv X pins σ H s)(h:aj X.K H a xs)(h':aj X.K H a ys):xs=ys:=by
 obtain⟨its,r,⟨o,n,e,_,_,d⟩,_⟩:=I.list h
 obtain⟨cV,r',⟨o',n',e',_,_,d'⟩,_⟩:=I.list h'
 rw[e] at e';cases e'
 rw[d] at d'
 injection d' with d1 _
 have:its=cV:=by simpa using dU Array.toList d1
 subst this
 exact r.inj r'
theorem Inv.Df(I:Inv X pins σ H s)(h:aw X.K H a xs)(h':aw X.K H a ys):xs=ys:=by
 obtain⟨its,r,⟨o,e,_,n,d⟩,_⟩:=I.tuple h
 obtain⟨cV,r',⟨o',e',_,n',d'⟩,_⟩:=I.tuple h'
 rw[e] at e';cases e'
 rw[d] at d'
 injection d' with d1 _
 have:its=cV:=by simpa using dU Array.toList d1
 subst this
 exact r.inj r'
end
noncomputable abbrev Cx.lF(X:Cx)(E:Value->Shared->Prop):Cx:={ X with xe:=E }
noncomputable abbrev Cx.oQ(X:Cx):Cx:=X.lF λ_ _=>False
theorem Cx.Ok.lF{X:Cx}(ok:X.Ok)(E:Value->Shared->Prop):(X.lF E).Ok:=
 ⟨ok.mod,ok.kind,ok.glob,ok.blt,ok.above,ok.inj,ok.has,ok.vL,ok.hd,ok.frames,ok.yR,ok.JX,ok.bs,ok.mT,ok.qI,ok.yS,ok.je,ok.oN⟩
theorem Cx.Ok.oS{X:Cx}{E:Value->Shared->Prop}(ok:(X.lF E).Ok):X.Ok:=
 ⟨ok.mod,ok.kind,ok.glob,ok.blt,ok.above,ok.inj,ok.has,ok.vL,ok.hd,ok.frames,ok.yR,ok.JX,ok.bs,ok.mT,ok.qI,ok.yS,ok.je,ok.oN⟩
section
variable{X:Cx}{pins:List (Addr×Obj)}{σ:St}{H:Hp}{s:Shared}{E:Value->Shared->Prop}
theorem Inv.lF(I:Inv X pins σ H s)(E:Value->Shared->Prop):Inv (X.lF E) pins σ H s:=⟨I.ok.lF E,I.os,I.bare,I.base,I.loc,I.cell,I.free,I.fA,I.pin,I.aC,I.len⟩
theorem Inv.oS(I:Inv (X.lF E) pins σ H s):Inv X pins σ H s:=⟨I.ok.oS,I.os,I.bare,I.base,I.loc,I.cell,I.free,I.fA,I.pin,I.aC,I.len⟩
theorem SP.oS{D:Ends}{f:Flow}{s':Shared}(h:SP (X.lF E) pins D f s'):SP X pins D f s':=by
 cases f with
 |next=>obtain⟨σ',H',I,q⟩:=h;exact⟨σ',H',I.oS,q⟩
 |brk=>obtain⟨σ',H',I,q⟩:=h;exact⟨σ',H',I.oS,q⟩
 |cont=>obtain⟨σ',H',I,q⟩:=h;exact⟨σ',H',I.oS,q⟩
 |ret u=>obtain⟨v,σ',H',I,r,q⟩:=h;exact⟨v,σ',H',I.oS,r,q⟩
theorem gc.oQ{st:List Stmt}{t:TS}(h:gc X.oQ st t):gc X st t:=λpins s σ H D I hw=>
 jE (h pins s σ H D (I.lF _) hw) (λ_ _ q=>q.oS) λ_ _ z=>False.elim z
end
section
variable{X:Cx}{st:Stmt}{rest:List Stmt}{t u:TS}{e:Expr}{te:TE}{pos:Pos}
def SH:TS:=λD σ H=>D.nx σ H
def Kc(t u:TS):TS:=λD σ H=>t { D with nx:=u D } σ H
theorem b9:gc X [] SH:=λ_ _ σ H _ I h=>Jj ⟨σ,H,I,h⟩
theorem av(h1:PS X st t)(h2:gc X rest u):gc X (st::rest) (Kc t u):=by
 intro pins s σ H D I h
 refine wpAny_execs_cons (aB (h1 pins s σ H { D with nx:=u D } I h) λf s1 q=>?_)
 cases f with
 |next=>
  obtain⟨σ',H',I',q⟩:=q
  exact h2 pins s1 σ' H' D I' q
 |ret v=>exact q
 |brk=>exact q
 |cont=>exact q
theorem az(h1:PS X st t):gc X [st] t:=by
 intro pins s σ H D I h
 refine wpAny_execs_cons (aB (h1 pins s σ H D I h) λf s1 q=>?_)
 cases f with
 |next=>exact Jj q
 |ret v=>exact q
 |brk=>exact q
 |cont=>exact q
theorem Inv.quiet{pins:List (Addr×Obj)}{σ:St}{H:Hp}{s:Shared}(I:Inv X pins σ H s):interactive X.env=false:=by simp[interactive,I.ok.kind]
def SJ(te:TE):TS:=λD σ H=>te σ H λ_ H1=>D.nx σ H1
theorem dM(he:PE X e te)(hs:swapsWith e none pos.line X.env=pure false:=by rfl):PS X (.Expr e pos) (SJ te):=by
 intro pins s σ H D I h
 exact wpAny_Expr_any (aB (he pins s σ H _ I h) λv s1 ⟨x,H1,I1,r1,q1⟩=>⟨σ,H1,I1,q1⟩) I.quiet hs
def SK(te:TE):TS:=λD σ H=>te σ H D.rt
theorem aZ(he:PE X e te):PS X (.Return (some e) pos) (SK te):=by
 intro pins s σ H D I h
 exact wpAny_Return_some (aB (he pins s σ H _ I h) λv s1 ⟨x,H1,I1,r1,q1⟩=>⟨x,σ,H1,I1,r1,q1⟩)
def SM(c:TT)(t u:TS):TS:=λD σ H=>c σ H λb H1=>if b=true then t D σ H1 else u D σ H1
theorem b6{c:Expr}{a b:List Stmt}{tc:TT}(hc:PT X c tc)(ha:gc X a t)(hb:gc X b u):PS X (.If c a b pos) (SM tc t u):=by
 intro pins s σ H D I h
 refine wpAny_If (aB (hc pins s σ H _ I h) λd s1 ⟨H1,I1,q1⟩=>?_)
 cases d with
 |true=>exact ha pins s1 σ H1 D I1 q1
 |false=>exact hb pins s1 σ H1 D I1 q1
def SN:TS:=λ_ _ _=>False
theorem vT:PS X st SN:=λ_ _ _ _ _ _ h=>h.elim
end
abbrev TG:=V->St->Hp->(St->Hp->Prop)->Prop
abbrev qL:=List V->St->Hp->(St->Hp->Prop)->Prop
def PG(X:Cx)(target:Expr)(t:TG):Prop:=
 ∀(pins:List (Addr×Obj)) (s:Shared) (σ:St) (H:Hp) (v:V) (u:Value) (Q:St->Hp->Prop),Inv X pins σ H s->RelV v u->t v σ H Q->
  wpAny (model X.prog X.w) X.A (assign target X.env u) (λ_ s' =>∃σ' H',Inv X pins σ' H' s'/\Q σ' H') X.xe s
def yZ(X:Cx)(ts:List Expr)(t:qL):Prop:=
 ∀(pins:List (Addr×Obj)) (s:Shared) (σ:St) (H:Hp) (vs:List V) (us:List Value) (Q:St->Hp->Prop),Inv X pins σ H s->Vals vs us->t vs σ H Q->
  wpAny (model X.prog X.w) X.A (assignInOrder ((assignEach ts X.env).map (·.2)) us) (λ_ s' =>∃σ' H',Inv X pins σ' H' s'/\Q σ' H') X.xe s
abbrev Dg:=V->V->V->Hp->(Hp->Prop)->Prop
def Kd(X:Cx)(t:Dg):Prop:=
 ∀(pins:List (Addr×Obj)) (s:Shared) (σ:St) (H:Hp) (o i v:V) (ov iv u:Value) (Q:Hp->Prop),Inv X pins σ H s->RelV o ov->RelV i iv->RelV v u->t o i v H Q->
  wpAny (model X.prog X.w) X.A (setItem ov iv u) (λ_ s' =>∃H',Inv X pins σ H' s'/\Q H') X.xe s
section
variable{X:Cx}{pos:Pos}
def oU(i:Nat):TG:=λv σ H Q=>Q (σ.set i (some v)) H
theorem bR{i:Nat}{x:Str}(hN:X.N.Nodup)(hi:X.N[i]? = some x)(hx:Loc X.env.scope x)(hf:X.fn x=true\/X.env.scope.names.lookup x=some .local:=by first | exact .inl rfl | exact .inr rfl | assumption):PG X (.Name x pos) (oU i):=by
 intro pins s σ H v u Q I r h
 exact wpAny_assign_Name (Dc I hN hi hx r (λs' I'=>⟨_,H,I',h⟩) hf)
def Ke:qL:=λvs σ H Q=>vs=[]/\Q σ H
def Dh(t:TG)(u:qL):qL:=λvs σ H Q=>∃v r,vs=v::r/\t v σ H λσ' H'=>u r σ' H' Q
theorem lG:yZ X [] Ke:=by
 intro pins s σ H vs us Q I r h
 obtain⟨e,h⟩:=h
 subst e
 cases r
 exact assignInOrder_nil ⟨σ,H,I,h⟩
theorem eU{e:Expr}{es:List Expr}{t:TG}{u:qL}(h1:PG X e t)(h2:yZ X es u)
  (hs:(assignEach (e::es) X.env).map (·.2)=assign e X.env::(assignEach es X.env).map (·.2):=by rfl):yZ X (e::es) (Dh t u):=by
 intro pins s σ H vs us Q I r h
 obtain⟨v,vr,e1,h⟩:=h
 subst e1
 cases r with
 |cons r rr=>
  rw[hs]
  refine assignInOrder_cons (aB (h1 pins s σ H _ _ _ I r h) λ_ s1 ⟨σ1,H1,I1,q1⟩=>?_)
  exact h2 pins s1 σ1 H1 _ _ Q I1 rr q1
def Kf(K:PySem.W.Frag)(n:Nat)(t:qL):TG:=λv σ H Q=>∃a xs,v = .ref a/\aw K H a xs/\xs.length=n/\t xs σ H Q
theorem lH{es:List Expr}{k:Nat}{t:qL}{n:Nat}(hc:X.calm=true)(h:yZ X es t)
  (hn:(assignEach es X.env).length=n:=by rfl) (dy:(assignEach es X.env).findIdx? (·.1)=none:=by rfl):PG X (.Tuple es k pos) (Kf X.K n t):=by
 intro pins s σ H v u Q I r hw
 obtain⟨a,xs,e1,hq,hl,hw⟩:=hw
 subst e1
 cases r
 obtain⟨its,rv,ht,hz⟩:=I.tuple hq
 refine assign_Tuple_tuple (I.ok.hd hc) ht (by simp[hn,<-hl,rv.length]) dy λh' hx=>?_
 have I1:Inv X pins σ H { s with heap:=h' }:=I.kept (t':=s.toks) λb o e=>hx b o (bU (bE e)) e
 exact h pins _ σ H xs _ Q I1 (by simpa using rv) hw
def SO(to ti:TE)(t:Dg):TG:=λv σ H Q=>to σ H λo H1=>ti σ H1 λi H2=>t o i v H2 λH3=>Q σ H3
theorem tm{o i:Expr}{to ti:TE}{t:Dg}(ho:PE X o to)(hi:PE X i ti)(hs:Kd X t)
  (ha:∀v,assign (.Subscript o i pos) X.env v=(do
   let ov<-holding [v] (eval o X.env)
   let iv<-holding [v,ov] (eval i X.env)
   standAt pos
   holding [v,ov,iv] (setItem ov iv v)
   release [v,ov,iv] []):=by intro _;rfl):PG X (.Subscript o i pos) (SO to ti t):=by
 intro pins s σ H v u Q I r h
 rw[ha]
 refine ag (iC (aB (ho pins s σ H _ I h) λov s1 ⟨x,H1,I1,r1,q1⟩=>?_))
 refine ag (iC (aB (hi pins s1 σ H1 _ I1 q1) λiv s2 ⟨y,H2,I2,r2,q2⟩=>?_))
 refine ag (wpAny_standAt (ag (iC (aB (hs pins s2 σ H2 x y v ov iv u _ I2 r1 r2 r q2) λ_ s3 ⟨H3,I3,q3⟩=>?_))))
 exact wpAny_release ⟨σ,H3,I3,q3⟩
def tq(te:TE)(g:TG):TS:=λD σ H=>te σ H λx H1=>g x σ H1 D.nx
theorem qM{tg e:Expr}{te:TE}{g:TG}(he:PE X e te)(hg:PG X tg g)(hs:swapsWithSole [tg] e pos.line X.env=pure false:=by rfl)(hw:swappedStores [tg] e X.env=pure none:=by rfl)
  (h1:(assignEach [tg] X.env).map (·.2)=[assign tg X.env]:=by rfl):PS X (.Assign [tg] e pos) (tq te g):=by
 intro pins s σ H D I h
 refine wpAny_Assign_stores (aB (he pins s σ H _ I h) λv s1 ⟨x,H1,I1,r1,q1⟩=>?_) hs hw
 rw[h1]
 exact aB (hg pins s1 σ H1 x v _ I1 r1 q1) λ_ s2 q=>q
theorem aK{i:Nat}{x:Str}{e:Expr}{te:TE}{pos':Pos}(hN:X.N.Nodup)(hi:X.N[i]? = some x)(hx:Loc X.env.scope x)(he:PE X e te)(hs:swapsWith e (some (.Name x pos')) pos.line X.env=pure false:=by rfl)(hf:X.fn x=true\/X.env.scope.names.lookup x=some .local:=by first | exact .inl rfl | exact .inr rfl | assumption) :
  PS X (.Assign [.Name x pos'] e pos) (tq te (oU i)):=by
 intro pins s σ H D I h
 refine wpAny_Assign_Name (aB (he pins s σ H _ I h) λv s1 ⟨y,H1,I1,r1,q1⟩=>?_) hs
 exact Dc I1 hN hi hx r1 (λs2 I2=>⟨_,H1,I2,q1⟩) hf
def SQ(c:TT)(tb:TS):TS:=λD σ H=>∃W:Nat->St->Hp->Prop,(∃m,W m σ H)/\∀m σ H,W m σ H->
 c σ H λb H1=>if b=true then ∃N:St->Hp->Prop,(∀σ' H',N σ' H'->∃m',m'<m/\W m' σ' H')/\tb { D with nx:=N,ct:=N,bk:=D.nx } σ H1 else D.nx σ H1
theorem Kg{c:Expr}{body:List Stmt}{tc:TT}{tb:TS}(hp:PassesOwn (model X.prog X.w) X.A X.env X.xe)(hc:PT X c tc)(hb:gc X body tb):PS X (.While c body [] pos) (SQ tc tb):=by
 intro pins s σ H D I h
 obtain⟨W,⟨m0,w0⟩,turn⟩:=h
 refine wpAny_While (codeAny_whileLoop (λn s' =>∃σ' H',Inv X pins σ' H' s'/\W n σ' H') ?_ m0 ⟨σ,H,I,w0⟩)
 rintro n s1 ⟨σ1,H1,I1,w1⟩
 refine vv hp (aB (hc pins s1 σ1 H1 _ I1 (turn n σ1 H1 w1)) λb s2 ⟨H2,I2,q2⟩=>?_)
 cases b with
 |true=>
  obtain⟨N,hN,q2⟩:=q2
  rw[ax rfl]
  refine vv hp (aB (hb pins s2 σ1 H2 _ I2 q2) λf s3 q3=>?_)
  cases f with
  |next=>
   obtain⟨σ3,H3,I3,n3⟩:=q3
   obtain⟨m',hm,w3⟩:=hN σ3 H3 n3
   exact⟨m',hm,σ3,H3,I3,w3⟩
  |cont=>
   obtain⟨σ3,H3,I3,n3⟩:=q3
   obtain⟨m',hm,w3⟩:=hN σ3 H3 n3
   exact⟨m',hm,σ3,H3,I3,w3⟩
  |brk=>exact q3
  |ret v=>exact q3
 |false=>
  rw[aq bW]
  exact Jj ⟨σ1,H2,I2,q2⟩
end
structure It where
 go:Nat->Hp->Prop
 gi:Nat->Hp->V->Hp->Prop
 stop:Nat->Hp->Prop
def eV(X:Cx)(pins:List (Addr×Obj))(H:Hp)(b:Addr):Prop:=
 H b=none/\b≠X.env.locals/\b∉X.fs/\(b∈X.ex\/X.s₀.heap.objs.size<=b)/\(∀x c,X.env.cells.lookup x=some c->c≠b)/\∀p∈X.pn++pins,p.1≠b
theorem Inv.jO{X:Cx}{pins:List (Addr×Obj)}{σ:St}{H H':Hp}{s:Shared}{b:Addr}(I:Inv X pins σ H s)(hb:s.heap.objs.size<=b)(hn:H' b=none):eV X pins H' b:=by
 refine⟨hn,yu (gB I.lt hb),I.Sl hb,.inr (bA I.sz hb),λx c e z=>?_,λp hp z=>?_⟩
 .obtain⟨v,q⟩:=I.cell x c e
  exact absurd (gB q.lt (by rw[z];exact hb)) (sJ _)
 .exact absurd (gB (bE (I.pin p hp).1) (by rw[z];exact hb)) (sJ _)
structure Turn(P:Program)(w:World)(K:PySem.W.Frag)(tg:Expr)(J:It)(fp:List Addr)(it:Addr)(tn:Nat->Heap->Prop):Prop where
 mem:it∈fp
 obj:∀i h,tn i h->∀b∈fp,∃o,h.get? b=some o/\∀v,o.data ≠ .cell v
 keep:∀i h h',tn i h->(∀b∈fp,∀o,h.get? b=some o->h'.get? b=some o)->tn i h'
 item:∀(X:Cx),X.prog=P->X.w=w->X.K=K->X.calm=true->∀(i:Nat) (pins:List (Addr×Obj)) (s:Shared) (σ:St) (H:Hp) (E:Value->Shared->Prop),Inv X pins σ H s->(∀b∈fp,eV X pins H b)->tn i s.heap->J.go i H->
  wpAny (model P w) X.A (pyNext (.ref it)) (λr s1=>∃u,r=some u/\
   wpAny (model P w) X.A (letOwnedTupleGo tg (.ref it) u) (λ_ s2=>∃x H',Inv X pins σ H' s2/\RelV x u/\J.gi i H x H'/\tn (i+1) s2.heap/\∀b∈fp,H' b=none) E s1) E s
 done:∀(X:Cx),X.prog=P->X.w=w->X.K=K->X.calm=true->∀(i:Nat) (pins:List (Addr×Obj)) (s:Shared) (σ:St) (H:Hp) (E:Value->Shared->Prop),Inv X pins σ H s->(∀b∈fp,eV X pins H b)->tn i s.heap->J.stop i H->
  wpAny (model P w) X.A (pyNext (.ref it)) (λr s1=>r=none/\Inv X pins σ H s1) E s
 self:∀(A:Around) (i:Nat) (s:Shared) (Q:Value->Shared->Prop) (E:Value->Shared->Prop),tn i s.heap->Q (.ref it) s->wpAny (model P w) A (pyIter (.ref it)) Q E s
abbrev TI:=St->Hp->(It->Hp->Prop)->Prop
def Kh(X:Cx)(pins:List (Addr×Obj))(σ:St)(tg:Expr)(R:It->Hp->Prop)(y0:Value)(s2:Shared):Prop:=
 ∃(it:Addr) (fp:List Addr) (tn:Nat->Heap->Prop) (J:It) (H':Hp),y0 = .ref it/\Inv X pins σ H' s2/\Turn X.prog X.w X.K tg J fp it tn/\tn 0 s2.heap/\(∀b∈fp,eV X pins H' b)/\R J H'
def PI(X:Cx)(tg iter:Expr)(wi:TI):Prop:=
 ∀(pins:List (Addr×Obj)) (s:Shared) (σ:St) (H:Hp) (R:It->Hp->Prop),Inv X pins σ H s->wi σ H R->
  wpAny (model X.prog X.w) X.A (eval iter X.env) (λv s1=>wpAny (model X.prog X.w) X.A (pyIter v) (Kh X pins σ tg R) X.xe s1) X.xe s
theorem tu{M:Model}{A:Around}{E:Value->Shared->Prop}{s:Shared}{tg:Expr}{it:Addr}{u:Value}{o:Obj}{n:String}{vs:Array Value}{Q:Unit->Shared->Prop}(ho:s.heap.get? it=some o)(hc:o.cls = .type n)(hd:o.data = .fields vs)
  (hn:["enumerate","zip","dict_itemiterator","dict_reverseitemiterator","odict_iterator","itertools.zip_longest","itertools.pairwise"].contains n=false) (hQ:Q () s):wpAny M A (letOwnedTupleGo tg (.ref it) u) Q E s:=by
 unfold letOwnedTupleGo
 cases tg <;> first
  |exact aJ hQ
  |(cases u <;> first
    |exact aJ hQ
    |(refine ag (wpAny_load ho ?_)
      rw[hc,hd]
      show wpAny M A (if (["enumerate","zip","dict_itemiterator","dict_reverseitemiterator","odict_iterator","itertools.zip_longest","itertools.pairwise"].contains n&&vs[0]? == some (rawInt _))=true then _ else _) Q E s
      rw[aq (by intro h;rw[hn,gT] at h;cases h)]
      exact aJ hQ))
noncomputable def qN(K:PySem.W.Frag)(a:Addr):It:=
 ⟨λi H=>∃xs x,aj K H a xs/\xs[i]? = some x,λi H x H'=>H'=H/\∀xs,aj K H a xs->xs[i]? = some x,λi H=>∃xs,aj K H a xs/\xs.length<=i⟩
noncomputable def tw(K:PySem.W.Frag)(a:Addr):It:=
 ⟨λi H=>∃xs x,aw K H a xs/\xs[i]? = some x,λi H x H'=>H'=H/\∀xs,aw K H a xs->xs[i]? = some x,λi H=>∃xs,aw K H a xs/\xs.length<=i⟩
noncomputable def lI(lo:Int)(n:Nat):It:=⟨λi _=>i<n,λi H x H'=>H'=H/\x = .int (lo+i),λi _=>n<=i⟩
theorem SR{P:Program}{w:World}{K:PySem.W.Frag}{tg:Expr}(a it:Addr):Turn P w K tg (qN K a) [it] it (λi h=>h.IsListIter it a i) where
 mem:=by simp
 obj:=λi h st b hb=>by
  have e:b=it:=by simpa using hb
  subst e
  obtain⟨o,e,c,d⟩:=st
  exact⟨o,e,λv z=>by rw[d] at z;cases z⟩
 keep:=λi h h' st k=>st.at λo e=>k it (by simp) o e
 item:=by
  intro X hP hw hK hc i pins s σ H E I hf st hg
  subst hP hw hK
  obtain⟨xs,x,hq,hx⟩:=hg
  obtain⟨its,rv,p,hz⟩:=I.list hq
  obtain⟨u,hu,ru⟩:=rv.get hx
  obtain⟨f0,f1,f2,f3,f4,f5⟩:=hf it (by simp)
  refine wpAny_pyNext_list_item st p.isList (x:=u) (by simpa using hu) λh' dN sb=>?_
  have I1:Inv X pins σ H { s with heap:=h' }:=I.turned (t':=s.toks) (λb o hb e=>(sb.2 b hb).trans e) f0 f1 f3 f4 f5
  obtain⟨o,e,c,d⟩:=id dN
  exact⟨u,rfl,tu (s:={ s with heap:=h' }) e c d (by decide) ⟨x,H,I1,ru,⟨rfl,λys hy=>by rw[I.De hy hq];exact hx⟩,dN,λb hb=>(hf b hb).1⟩⟩
 done:=by
  intro X hP hw hK hc i pins s σ H E I hf st hg
  subst hP hw hK
  obtain⟨xs,hq,hx⟩:=hg
  obtain⟨its,rv,p,hz⟩:=I.list hq
  obtain⟨f0,f1,f2,f3,f4,f5⟩:=hf it (by simp)
  have hl:=rv.length
  exact wpAny_pyNext_list_end (I.ok.hd hc) st p.isList (by simp;omega) λh' eb=>⟨rfl,I.turned (t':=s.toks) (λb o hb e=>eb b o hb e) f0 f1 f3 f4 f5⟩
 self:=λ_ _ _ _ _ st h=>wpAny_pyIter_listiter st h
theorem SU{P:Program}{w:World}{K:PySem.W.Frag}{tg:Expr}(a it:Addr):Turn P w K tg (tw K a) [it] it (λi h=>h.IsTupleIter it a i) where
 mem:=by simp
 obj:=λi h st b hb=>by
  have e:b=it:=by simpa using hb
  subst e
  obtain⟨o,e,c,d⟩:=st
  exact⟨o,e,λv z=>by rw[d] at z;cases z⟩
 keep:=λi h h' st k=>st.at λo e=>k it (by simp) o e
 item:=by
  intro X hP hw hK hc i pins s σ H E I hf st hg
  subst hP hw hK
  obtain⟨xs,x,hq,hx⟩:=hg
  obtain⟨its,rv,p,hz⟩:=I.tuple hq
  obtain⟨u,hu,ru⟩:=rv.get hx
  obtain⟨f0,f1,f2,f3,f4,f5⟩:=hf it (by simp)
  refine wpAny_pyNext_tuple_item st (show s.heap.IsTuple a its.toArray from p) (x:=u) (by simpa using hu) λh' dN sb=>?_
  have I1:Inv X pins σ H { s with heap:=h' }:=I.turned (t':=s.toks) (λb o hb e=>(sb.2 b hb).trans e) f0 f1 f3 f4 f5
  obtain⟨o,e,c,d⟩:=id dN
  exact⟨u,rfl,tu (s:={ s with heap:=h' }) e c d (by decide) ⟨x,H,I1,ru,⟨rfl,λys hy=>by rw[I.Df hy hq];exact hx⟩,dN,λb hb=>(hf b hb).1⟩⟩
 done:=by
  intro X hP hw hK hc i pins s σ H E I hf st hg
  subst hP hw hK
  obtain⟨xs,hq,hx⟩:=hg
  obtain⟨its,rv,p,hz⟩:=I.tuple hq
  obtain⟨f0,f1,f2,f3,f4,f5⟩:=hf it (by simp)
  have hl:=rv.length
  exact wpAny_pyNext_tuple_end (I.ok.hd hc) st (show s.heap.IsTuple a its.toArray from p) (by simp;omega) λh' eb=>⟨rfl,I.turned (t':=s.toks) (λb o hb e=>eb b o hb e) f0 f1 f3 f4 f5⟩
 self:=λ_ _ _ _ _ st h=>wpAny_pyIter_tupleiter st h
theorem SV{P:Program}{w:World}{K:PySem.W.Frag}{tg:Expr}(it:Addr)(lo:Int)(n:Nat):Turn P w K tg (lI lo n) [it] it (λi h=>IsRangeIter h it (lo+(i:Nat)*1) ((n:Int) - (i:Nat)) 1) where
 mem:=by simp
 obj:=λi h st b hb=>by
  have e:b=it:=by simpa using hb
  subst e
  exact⟨_,st,λv z=>by
   have z':Data.fields _=Data.cell v:=z
   cases z'⟩
 keep:=λi h h' st k=>k it (by simp) _ st
 item:=by
  intro X hP hw hK hc i pins s σ H E I hf st hg
  subst hP hw hK
  obtain⟨f0,f1,f2,f3,f4,f5⟩:=hf it (by simp)
  have W:=Walks.range (prog:=X.prog) (w:=X.w) (I.ok.hd hc) it lo 1 n
  refine W.item i s _ _ hg st λv h' tk hv dN kk=>?_
  obtain⟨t,rfl⟩:=hv
  have I1:Inv X pins σ H { s with heap:=h',toks:=tk }:=I.turned (λb o hb e=>kk b o (by simpa using hb) e) f0 f1 f3 f4 f5
  refine⟨_,rfl,tu (s:={ s with heap:=h',toks:=tk }) (n:="range_iterator") dN rfl rfl (by decide) ⟨.int (lo+i),H,I1,⟨t,?_⟩,⟨rfl,rfl⟩,dN,λb hb=>(hf b hb).1⟩⟩
  rw[Int.mul_one]
 done:=by
  intro X hP hw hK hc i pins s σ H E I hf st hg
  subst hP hw hK
  obtain⟨f0,f1,f2,f3,f4,f5⟩:=hf it (by simp)
  exact wpAny_pyNext_range_end (I.ok.hd hc) st (by have:n<=i:=hg;omega) λh' eb=>⟨rfl,I.turned (t':=s.toks) (λb o hb e=>eb b o hb e) f0 f1 f3 f4 f5⟩
 self:=λ_ _ _ _ _ st h=>wpAny_pyIter_rangeiter st h
section
variable{X:Cx}{tg:Expr}
def Ki(K:PySem.W.Frag)(tl:TE):TI:=λσ H R=>tl σ H λx H1=>∃a,x = .ref a/\(∃xs,aj K H1 a xs)/\R (qN K a) H1
def SW(K:PySem.W.Frag)(tl:TE):TI:=λσ H R=>tl σ H λx H1=>∃a,x = .ref a/\(∃xs,aw K H1 a xs)/\R (tw K a) H1
theorem dF{l:Expr}{tl:TE}(hl:PE X l tl):PI X tg l (Ki X.K tl):=by
 intro pins s σ H R I h
 refine aB (hl pins s σ H _ I h) λv s1 ⟨x,H1,I1,r1,q1⟩=>?_
 obtain⟨a,e,⟨xs,hq⟩,q⟩:=q1
 subst e
 cases r1
 obtain⟨its,rv,p,hz⟩:=I1.list hq
 refine vw p.isList ?_
 refine⟨s1.heap.objs.size,[s1.heap.objs.size],_,_,H1,rfl,I1.kept (t':=s1.toks) λb o e=>bw _ e,SR a _,⟨_,cw _ rfl,rfl,rfl⟩,λb hb=>?_,q⟩
 have e:b=s1.heap.objs.size:=by simpa using hb
 subst e
 exact I1.jO (aQ _) (I1.aC.fresh (aQ _))
theorem y9{l:Expr}{tl:TE}(hl:PE X l tl):PI X tg l (SW X.K tl):=by
 intro pins s σ H R I h
 refine aB (hl pins s σ H _ I h) λv s1 ⟨x,H1,I1,r1,q1⟩=>?_
 obtain⟨a,e,⟨xs,hq⟩,q⟩:=q1
 subst e
 cases r1
 obtain⟨its,rv,p,hz⟩:=I1.tuple hq
 refine Jk (show s1.heap.IsTuple a its.toArray from p) ?_
 refine⟨s1.heap.objs.size,[s1.heap.objs.size],_,_,H1,rfl,I1.kept (t':=s1.toks) λb o e=>bw _ e,SU a _,⟨_,cw _ rfl,rfl,rfl⟩,λb hb=>?_,q⟩
 have e:b=s1.heap.objs.size:=by simpa using hb
 subst e
 exact I1.jO (aQ _) (I1.aC.fresh (aQ _))
theorem SX{pins:List (Addr×Obj)}{σ:St}{H:Hp}{s:Shared}{R:It->Hp->Prop}{E:Value->Shared->Prop}{lo hi:Int}{t u v:Tok}{tk:Nat}(I:Inv X pins σ H s)(h1 : -(2 ^ 62)<=lo)(h2:lo<2 ^ 62)(h3 : -(2 ^ 62)<=hi)(h4:hi<2 ^ 62)
  (q:R (lI lo (hi - lo).toNat) H):wpAny (model X.prog X.w) X.A (pyIter (.ref s.heap.objs.size)) (Kh X pins σ tg R) E { s with heap:=s.heap.push { cls := .type "range",data := .fields #[.int lo t,.int hi u,.int 1 v] },toks:=tk }:=by
 refine wpAny_pyIter_range (IsRange.new ..) (small_one h1 h2 h3 h4) ?_
 have I1:Inv X pins σ H { s with heap:=s.heap.push { cls := .type "range",data := .fields #[.int lo t,.int hi u,.int 1 v] },toks:=tk }:=I.kept λb o e=>bw _ e
 refine⟨(s.heap.push { cls := .type "range",data := .fields #[.int lo t,.int hi u,.int 1 v] }).objs.size,[(s.heap.push { cls := .type "range",data := .fields #[.int lo t,.int hi u,.int 1 v] }).objs.size],_,_,H,rfl,
  I1.kept (t':=tk) λb o e=>bw _ e,SV _ lo (hi - lo).toNat,?_,λb hb=>?_,q⟩
 .have e1:lo+((0:Nat):Int)*1=lo:=by simp
  have e2:(((hi - lo).toNat:Nat):Int) - ((0:Nat):Int)=Builtin.Range.rangeSize lo hi 1:=by rw[rangeSize_one];split <;> omega
  show IsRangeIter _ _ (lo+((0:Nat):Int)*1) ((((hi - lo).toNat:Nat):Int) - ((0:Nat):Int)) 1
  rw[e1,e2]
  exact cw _ rfl
 .have e:b=(s.heap.push { cls := .type "range",data := .fields #[.int lo t,.int hi u,.int 1 v] }).objs.size:=by simpa using hb
  subst e
  exact I1.jO (aQ _) (I1.aC.fresh (aQ _))
def SY(ta:TA):TI:=λσ H R=>ta σ H λvs H1=>∃j:Int,vs=[.int j]/\ -(2 ^ 62)<=j/\j<2 ^ 62/\R (lI 0 j.toNat) H1
theorem iN{a:Expr}{ta:TA}{p pos:Pos}(hg:Gl X "range")(hm:X.mg "range"=none)(ha:PA X [a] ta)(hs:starEach [a] X.env=[(false,eval a X.env)]:=by rfl):PI X tg (.Call (.Name "range" p) [a] [] pos) (SY ta):=by
 intro pins s σ H R I h
 refine Call_ (oP I hg hm boot_range (Cy (aB (ha pos pins s σ H _ I h) λus s1 ⟨vs,H1,I1,r1,q1⟩=>?_) hs rfl))
 obtain⟨j,e,q1,q2,q⟩:=q1
 subst e
 cases r1 with
 |cons r rr=>
  cases rr
  obtain⟨t,rfl⟩:=r
  exact call_range_1 (SX I1 (by omega) (by omega) q1 q2 (by simpa using q))
def S0(wi:TI)(g:TG)(tb:TS):TS:=λD σ H=>wi σ H λJ H1=>∃W:Nat->Nat->St->Hp->Prop,(∃m,W 0 m σ H1)/\∀i m σ H,W i m σ H->
 (J.stop i H/\D.nx σ H)\/(J.go i H/\∃N:St->Hp->Prop,(∀σ' H',N σ' H'->∃m',m'<m/\W (i+1) m' σ' H')/\∀x H',J.gi i H x H'->g x σ H' λσ2 H2=>tb { D with nx:=N,ct:=N,bk:=D.nx } σ2 H2)
noncomputable def vU(fp:List Addr)(h:Heap):List (Addr×Obj):=fp.filterMap λb=>(h.get? b).map λo=>(b,o)
theorem za{fp:List Addr}{h:Heap}{b:Addr}{o:Obj}(hb:b∈fp)(e:h.get? b=some o):(b,o)∈vU fp h:=List.mem_filterMap.mpr ⟨b,hb,by rw[e];rfl⟩
theorem S4{fp:List Addr}{h:Heap}{p:Addr×Obj}(hp:p∈vU fp h):p.1∈fp/\h.get? p.1=some p.2:=by
 obtain⟨b,hb,e⟩:=List.mem_filterMap.mp hp
 cases q:h.get? b with
 |none=>rw[q] at e;cases e
 |some o=>
  rw[q] at e
  have e':(b,o)=p:=c9 e
  subst e'
  exact⟨hb,q⟩
theorem Inv.pinned{pins:List (Addr×Obj)}{σ:St}{H:Hp}{s:Shared}{fp:List Addr}(I:Inv X pins σ H s)(hf:∀b∈fp,eV X pins H b)(ho:∀b∈fp,∃o,s.heap.get? b=some o/\∀v,o.data ≠ .cell v):Inv X (pins++vU fp s.heap) σ H s:=
 I.yU λp hp=>(dh.mp hp).elim (λz=>I.pin p (gU _ z)) λz=>by
  obtain⟨hb,e⟩:=S4 z
  obtain⟨f0,f1,f2,_⟩:=hf p.1 hb
  obtain⟨o,e',d⟩:=ho p.1 hb
  rw[e] at e';cases e'
  exact⟨e,f0,f1,f2,d⟩
theorem Inv.tE{pins pl:List (Addr×Obj)}{σ:St}{H:Hp}{s:Shared}(I:Inv X (pins++pl) σ H s):Inv X pins σ H s:=I.yU λp hp=>I.pin p (gU _ (om _ hp))
theorem cG{iter:Expr}{body:List Stmt}{wi:TI}{g:TG}{tb:TS}{pos:Pos}(hp:PassesOwn (model X.prog X.w) X.A X.env X.xe)(hc:X.calm=true)(hi:PI X tg iter wi)(hg:PG X tg g)(hb:gc X body tb)
  (hs:∀x,foldedSetIterable iter X.env x=pure x:=by intro _;rfl):PS X (.For tg iter body [] pos) (S0 wi g tb):=by
 intro pins s σ H D I h
 refine wpAny_For (aB (hi pins s σ H _ I h) λv s1 h1=>aB h1 λy0 s2 h2=>?_) hs
 obtain⟨it,fp,tn,J,H2,e,I2,T,jP,f2,W,⟨m0,w0⟩,turn⟩:=h2
 subst e
 have Di:∀{H':Hp},(∀b∈fp,H' b=none)->∀b∈fp,eV X pins H' b:=λhn b hb=>⟨hn b hb,(f2 b hb).2⟩
 refine codeAny_forLoop_any (λn s' =>∃i σ' H',Inv X pins σ' H' s'/\tn i s'.heap/\(∀b∈fp,H' b=none)/\W i n σ' H') ?_ m0 ⟨0,σ,H2,I2,jP,λb hb=>(f2 b hb).1,w0⟩
 rintro n s3 ⟨i,σ3,H3,I3,vV,Kj,w3⟩
 rcases turn i n σ3 H3 w3 with ⟨stop,qn⟩ | ⟨go,N,hN,step⟩
 .refine vv hp (aB (T.done X rfl rfl rfl hc i pins s3 σ3 H3 X.xe I3 (Di Kj) vV stop) λr s4 ⟨hr,I4⟩=>?_)
  subst hr
  exact Jj ⟨σ3,H3,I4,qn⟩
 .refine vv hp (aB (T.item X rfl rfl rfl hc i pins s3 σ3 H3 X.xe I3 (Di Kj) vV go) λr s4 ⟨u,hr,h4⟩=>?_)
  subst hr
  refine vv hp (aB h4 λ_ s5 ⟨x,H5,I5,r5,y5,tF,zb⟩=>?_)
  have S6:=I5.pinned (Di zb) (T.obj _ _ tF)
  refine vv hp (aB (hg _ s5 σ3 H5 x u _ S6 r5 (step x H5 y5)) λ_ s6 ⟨σ6,H6,I6,q6⟩=>?_)
  refine vv hp (aB (hb _ s6 σ6 H6 _ I6 q6) λf s7 q7=>?_)
  have again:∀{σ7:St}{H7:Hp},Inv X (pins++vU fp s5.heap) σ7 H7 s7->N σ7 H7->∃m,m<n/\∃i σ' H',Inv X pins σ' H' s7/\tn i s7.heap/\(∀b∈fp,H' b=none)/\W i m σ' H':=λ{σ7 H7} I7 n7=>by
   obtain⟨m',hm,w7⟩:=hN σ7 H7 n7
   refine⟨m',hm,i+1,σ7,H7,I7.tE,T.keep _ _ _ tF λb hb o e=>(I7.pin (b,o) (gU _ (gU _ (za hb e)))).1,λb hb=>?_,w7⟩
   obtain⟨o,e,d⟩:=T.obj _ _ tF b hb
   exact(I7.pin (b,o) (gU _ (gU _ (za hb e)))).2.1
  cases f with
  |next=>obtain⟨σ7,H7,I7,n7⟩:=q7;exact again I7 n7
  |cont=>obtain⟨σ7,H7,I7,n7⟩:=q7;exact again I7 n7
  |brk=>obtain⟨σ7,H7,I7,q7⟩:=q7;exact⟨σ7,H7,I7.tE,q7⟩
  |ret v=>obtain⟨x7,σ7,H7,I7,r7,q7⟩:=q7;exact⟨x7,σ7,H7,I7.tE,r7,q7⟩
end
theorem ku{K:PySem.W.Frag}{a:Addr}{xs:List V}{g:TG}{tb:TS}{D:Ends}{σ:St}{H:Hp}(Pv:Nat->St->Hp->Prop)(h0:Pv 0 σ H)(hl:∀i σ H,i<=xs.length->Pv i σ H->aj K H a xs)
  (hs:∀i x σ H,xs[i]? = some x->Pv i σ H->g x σ H λσ2 H2=>tb { D with nx:=Pv (i+1),ct:=Pv (i+1),bk:=D.nx } σ2 H2) (hd:∀σ H,Pv xs.length σ H->D.nx σ H) :
  ∃W:Nat->Nat->St->Hp->Prop,(∃m,W 0 m σ H)/\∀i m σ H,W i m σ H->
   ((qN K a).stop i H/\D.nx σ H)\/((qN K a).go i H/\∃N:St->Hp->Prop,(∀σ' H',N σ' H'->∃m',m'<m/\W (i+1) m' σ' H')/\∀x H',(qN K a).gi i H x H'->g x σ H' λσ2 H2=>tb { D with nx:=N,ct:=N,bk:=D.nx } σ2 H2):=by
 refine⟨λi m σ H=>m=xs.length - i/\i<=xs.length/\Pv i σ H,⟨xs.length,by simp,bx _,h0⟩,?_⟩
 rintro i m σ H ⟨rfl,hi,p⟩
 have q:=hl i σ H hi p
 by_cases aN:i<xs.length
 .refine .inr ⟨⟨xs,xs[i],q,by simp[aN]⟩,Pv (i+1),λσ' H' p'=>⟨xs.length - (i+1),by omega,rfl,aN,p'⟩,λx H' y=>?_⟩
  obtain⟨e,y⟩:=y
  subst e
  exact hs i x σ _ (y xs q) p
 .have e:i=xs.length:=by omega
  subst e
  exact .inl ⟨⟨xs,q,aQ _⟩,hd σ H p⟩
theorem S9{K:PySem.W.Frag}{a:Addr}{xs:List V}{g:TG}{tb:TS}{D:Ends}{σ:St}{H:Hp}(Pv:Nat->St->Hp->Prop)(h0:Pv 0 σ H)(hl:∀i σ H,i<=xs.length->Pv i σ H->aw K H a xs)
  (hs:∀i x σ H,xs[i]? = some x->Pv i σ H->g x σ H λσ2 H2=>tb { D with nx:=Pv (i+1),ct:=Pv (i+1),bk:=D.nx } σ2 H2) (hd:∀σ H,Pv xs.length σ H->D.nx σ H) :
  ∃W:Nat->Nat->St->Hp->Prop,(∃m,W 0 m σ H)/\∀i m σ H,W i m σ H->
   ((tw K a).stop i H/\D.nx σ H)\/((tw K a).go i H/\∃N:St->Hp->Prop,(∀σ' H',N σ' H'->∃m',m'<m/\W (i+1) m' σ' H')/\∀x H',(tw K a).gi i H x H'->g x σ H' λσ2 H2=>tb { D with nx:=N,ct:=N,bk:=D.nx } σ2 H2):=by
 refine⟨λi m σ H=>m=xs.length - i/\i<=xs.length/\Pv i σ H,⟨xs.length,by simp,bx _,h0⟩,?_⟩
 rintro i m σ H ⟨rfl,hi,p⟩
 have q:=hl i σ H hi p
 by_cases aN:i<xs.length
 .refine .inr ⟨⟨xs,xs[i],q,by simp[aN]⟩,Pv (i+1),λσ' H' p'=>⟨xs.length - (i+1),by omega,rfl,aN,p'⟩,λx H' y=>?_⟩
  obtain⟨e,y⟩:=y
  subst e
  exact hs i x σ _ (y xs q) p
 .have e:i=xs.length:=by omega
  subst e
  exact .inl ⟨⟨xs,q,aQ _⟩,hd σ H p⟩
theorem Ta{lo:Int}{n:Nat}{g:TG}{tb:TS}{D:Ends}{σ:St}{H:Hp}(Pv:Nat->St->Hp->Prop)(h0:Pv 0 σ H)
  (hs:∀i σ H,i<n->Pv i σ H->g (.int (lo+i)) σ H λσ2 H2=>tb { D with nx:=Pv (i+1),ct:=Pv (i+1),bk:=D.nx } σ2 H2) (hd:∀σ H,Pv n σ H->D.nx σ H) :
  ∃W:Nat->Nat->St->Hp->Prop,(∃m,W 0 m σ H)/\∀i m σ H,W i m σ H->
   ((lI lo n).stop i H/\D.nx σ H)\/((lI lo n).go i H/\∃N:St->Hp->Prop,(∀σ' H',N σ' H'->∃m',m'<m/\W (i+1) m' σ' H')/\∀x H',(lI lo n).gi i H x H'->g x σ H' λσ2 H2=>tb { D with nx:=N,ct:=N,bk:=D.nx } σ2 H2):=by
 refine⟨λi m σ H=>m=n - i/\i<=n/\Pv i σ H,⟨n,by simp,bx _,h0⟩,?_⟩
 rintro i m σ H ⟨rfl,hi,p⟩
 by_cases aN:i<n
 .refine .inr ⟨aN,Pv (i+1),λσ' H' p'=>⟨n - (i+1),by omega,rfl,aN,p'⟩,λx H' y=>?_⟩
  obtain⟨e,y⟩:=y
  subst e y
  exact hs i σ _ aN p
 .have e:i=n:=by omega
  subst e
  exact .inl ⟨aQ _,hd σ H p⟩
abbrev R2:=V->V->Hp->VK->Prop
def cM(X:Cx)(f:Value->Value->Sem Value)(r:R2):Prop:=
 ∀(pins:List (Addr×Obj)) (s:Shared) (σ:St) (H:Hp) (x y:V) (v u:Value) (Q:VK),Inv X pins σ H s->RelV x v->RelV y u->r x y H Q->
  wpAny (model X.prog X.w) X.A (f v u) (EP X pins σ Q) X.xe s
def Dj(X:Cx)(f:Value->Sem Value)(r:V->Hp->VK->Prop):Prop:=
 ∀(pins:List (Addr×Obj)) (s:Shared) (σ:St) (H:Hp) (x:V) (v:Value) (Q:VK),Inv X pins σ H s->RelV x v->r x H Q->
  wpAny (model X.prog X.w) X.A (f v) (EP X pins σ Q) X.xe s
def gE(X:Cx)(f:Value)(r:List V->Hp->VK->Prop):Prop:=
 ∀(pins:List (Addr×Obj)) (s:Shared) (σ:St) (H:Hp) (xs:List V) (us:List Value) (Q:VK),Inv X pins σ H s->Vals xs us->r xs H Q->
  wpAny (model X.prog X.w) X.A (call f us) (EP X pins σ Q) X.xe s
def Tb(X:Cx)(r:V->Hp->(Bool->Hp->Prop)->Prop):Prop:=
 ∀(pins:List (Addr×Obj)) (s:Shared) (σ:St) (H:Hp) (x:V) (v:Value) (Q:Bool->Hp->Prop),Inv X pins σ H s->RelV x v->r x H Q->
  wpAny (model X.prog X.w) X.A (truthy v) (TP X pins σ Q) X.xe s
def oV(r:R2)(ta tb:TE):TE:=λσ H Q=>ta σ H λx H1=>tb σ H1 λy H2=>r x y H2 Q
def Tc(r:V->Hp->VK->Prop)(ta:TE):TE:=λσ H Q=>ta σ H λx H1=>r x H1 Q
def rI(C:Int->Int->Prop)(g:Int->Int->V):R2:=λx y H Q=>∃i j,x = .int i/\y = .int j/\C i j/\Q (g i j) H
def oX(g:Int->Int->V):R2:=λx y H Q=>∃i j,x = .int i/\y = .int j/\Q (g i j) H
def rU(g:Int->V):V->Hp->VK->Prop:=λx H Q=>∃i,x = .int i/\Q (g i) H
section
variable{X:Cx}{a b c:Expr}{ta tb tc:TE}{pos:Pos}
theorem Dk(ha:PE X a ta)(hb:PE X b tb){pins:List (Addr×Obj)}{s:Shared}{σ:St}{H:Hp}{R:V->V->Hp->Prop}(I:Inv X pins σ H s)
  (h:ta σ H λx H1=>tb σ H1 λy H2=>R x y H2) {Q:Value->Shared->Prop}{f:Value->Value->Sem Value}
  (hf:∀v u s2 x y H2,Inv X pins σ H2 s2->RelV x v->RelV y u->R x y H2->wpAny (model X.prog X.w) X.A (f v u) Q X.xe s2) :
  wpAny (model X.prog X.w) X.A (eval a X.env) (λv s₁=>wpAny (model X.prog X.w) X.A (eval b X.env) (λu s₂=>wpAny (model X.prog X.w) X.A (f v u) Q X.xe s₂) X.xe s₁) X.xe s:=by
 refine aB (ha pins s σ H _ I h) λv s1 ⟨x,H1,I1,r1,q1⟩=>?_
 refine aB (hb pins s1 σ H1 _ I1 q1) λu s2 ⟨y,H2,I2,r2,q2⟩=>?_
 exact hf v u s2 x y H2 I2 r1 r2 q2
theorem aO{op:Operator}{r:R2}(ho:cM X (binaryOp op) r)(ha:PE X a ta)(hb:PE X b tb):PE X (.BinOp a op b pos) (oV r ta tb):=by
 intro pins s σ H Q I h
 exact wpAny_BinOp (Dk ha hb I h λv u s2 x y H2 I2 rx ry q=>ho pins s2 σ H2 x y v u Q I2 rx ry q)
theorem Td{op:UnaryOp}{r:V->Hp->VK->Prop}(ho:Dj X (unaryOp op) r)(ha:PE X a ta):PE X (.UnaryOp op a pos) (Tc r ta):=by
 intro pins s σ H Q I h
 exact UnaryOp_ (aB (ha pins s σ H _ I h) λv s1 ⟨x,H1,I1,r1,q1⟩=>ho pins s1 σ H1 x v Q I1 r1 q1)
theorem jf{f:Value->Value->Sem Value}{C:Int->Int->Prop}{g:Int->Int->Int}
  (rule:∀(i j:Int) (t u:Tok) (s:Shared) (Q:Value->Shared->Prop) (E:Value->Shared->Prop),C i j->Q (.int (g i j) s.toks) { s with toks:=s.toks+1 }->wpAny (model X.prog X.w) X.A (f (.int i t) (.int j u)) Q E s) :
  cM X f (rI C λi j=>.int (g i j)):=by
 intro pins s σ H x y v u Q I rx ry h
 obtain⟨i,j,rfl,rfl,hc,q⟩:=h
 obtain⟨t,rfl⟩:=rx
 obtain⟨t',rfl⟩:=ry
 exact rule i j t t' s _ _ hc ⟨.int (g i j),H,I.tok _,⟨_,rfl⟩,q⟩
theorem Kk{f:Value->Value->Sem Value}{g:Int->Int->Int}
  (rule:∀(i j:Int) (t u:Tok) (s:Shared) (Q:Value->Shared->Prop) (E:Value->Shared->Prop),Q (.int (g i j) s.toks) { s with toks:=s.toks+1 }->wpAny (model X.prog X.w) X.A (f (.int i t) (.int j u)) Q E s) :
  cM X f (oX λi j=>.int (g i j)):=by
 intro pins s σ H x y v u Q I rx ry h
 obtain⟨i,j,rfl,rfl,q⟩:=h
 obtain⟨t,rfl⟩:=rx
 obtain⟨t',rfl⟩:=ry
 exact rule i j t t' s _ _ ⟨.int (g i j),H,I.tok _,⟨_,rfl⟩,q⟩
theorem zc{f:Value->Value->Sem Value}{g:Int->Int->Bool}
  (rule:∀(i j:Int) (t u:Tok) (s:Shared) (Q:Value->Shared->Prop) (E:Value->Shared->Prop),Q (.bool (g i j)) s->wpAny (model X.prog X.w) X.A (f (.int i t) (.int j u)) Q E s) :
  cM X f (oX λi j=>.bl (g i j)):=by
 intro pins s σ H x y v u Q I rx ry h
 obtain⟨i,j,rfl,rfl,q⟩:=h
 obtain⟨t,rfl⟩:=rx
 obtain⟨t',rfl⟩:=ry
 exact rule i j t t' s _ _ ⟨.bl (g i j),H,I,rfl,q⟩
def Kl(i j:Int):Prop:=0<j/\j<1073741824
def zd(i j:Int):Prop:=(-(2 ^ 64)<i/\i<2 ^ 64)\/(-(2 ^ 64)<j/\j<2 ^ 64)
theorem zd.ok{i j:Int}(h:zd i j):IntMulOk i j:=by
 rcases h with ⟨h1,h2⟩ | ⟨h1,h2⟩
 .exact .of_left (intBits_le_64 h1 h2)
 .exact .of_right (intBits_le_64 h1 h2)
theorem eD:cM X (binaryOp .Add) (oX λi j=>.int (i+j)):=Kk λ_ _ _ _ _ _ _ q=>add_int q
theorem oY:cM X (binaryOp .Sub) (oX λi j=>.int (i - j)):=Kk λ_ _ _ _ _ _ _ q=>sub_int q
theorem tG:cM X (binaryOp .Mult) (rI zd λi j=>.int (i*j)):=jf λ_ _ _ _ _ _ _ hc q=>mul_int q hc.ok
theorem jg:cM X (binaryOp .FloorDiv) (rI Kl λi j=>.int (i / j)):=jf λi j _ _ _ _ _ hc q=>by
 have h1:(0:Int)<j:=hc.1
 have h2:j<1073741824:=hc.2
 exact floordiv_int (by omega) (by rw[Int.fdiv_eq_ediv_of_nonneg i (by omega)];exact q) (.inl (PyProof.noPylong_small (by omega)))
theorem eW:cM X (binaryOp .Mod) (rI (λ_ j=>0<j) λi j=>.int (i % j)):=jf λi j _ _ _ _ _ hc q=>by
 have h1:(0:Int)<j:=hc
 exact mod_int' (by omega) (by rw[Int.fmod_eq_emod_of_nonneg i (by omega)];exact q)
theorem Te{f:Value->Sem Value}{g:Int->Int}
  (rule:∀(i:Int) (t:Tok) (s:Shared) (Q:Value->Shared->Prop) (E:Value->Shared->Prop),Q (.int (g i) s.toks) { s with toks:=s.toks+1 }->wpAny (model X.prog X.w) X.A (f (.int i t)) Q E s) :
  Dj X f (rU λi=>.int (g i)):=by
 intro pins s σ H x v Q I rx h
 obtain⟨i,rfl,q⟩:=h
 obtain⟨t,rfl⟩:=rx
 exact rule i t s _ _ ⟨.int (g i),H,I.tok _,⟨_,rfl⟩,q⟩
theorem Tf:Dj X (unaryOp .USub) (rU λi=>.int (-i)):=Te λ_ _ _ _ _ q=>neg_int q
end
noncomputable def Km:V->V->Bool
 |.aA,.aA=>true | .aA,.int _=>true | .int _,.aA=>true | .aA,.bl _=>true | .bl _,.aA=>true | .aA,.str _=>true | .str _,.aA=>true
 |.int _,.int _=>true | .bl _,.bl _=>true | .str _,.str _=>true | .iL _,.iL _=>true
 |.int _,.str _=>true | .str _,.int _=>true | .bl _,.str _=>true | .str _,.bl _=>true
 |_,_=>false
def Tg:R2:=λx y H Q=>Km x y=true/\Q (.bl (decide (x=y))) H
def Th:R2:=λx y H Q=>Km x y=true/\Q (.bl (!decide (x=y))) H
theorem Kn{i j:Int}:decide (V.int i=V.int j)=(i==j):=by
 rw[Cz]
 simp
theorem Ko{i j:Bool}:decide (V.bl i=V.bl j)=(i==j):=by
 rw[Cz]
 simp
theorem Kq{i j:Str}:decide (V.str i=V.str j)=(i==j):=by
 rw[Cz]
 simp
theorem Kr{i j:Array UInt8}:decide (V.iL i=V.iL j)=(i.toList==j.toList):=by
 rw[Cz]
 cases i
 cases j
 simp
section
variable{X:Cx}{a b c:Expr}{ta tb tc:TE}{pos:Pos}
theorem cN{pins:List (Addr×Obj)}{σ:St}{H:Hp}{s:Shared}{Q:VK}{k k':Bool}(I:Inv X pins σ H s)(q:Q (.bl k) H)(e:k=k'):EP X pins σ Q (.bool k') s:=by
 subst e
 exact⟨.bl k,H,I,rfl,q⟩
theorem oZ:cM X (compareOp .Eq) Tg:=by
 intro pins s σ H x y v u Q I rx ry h
 obtain⟨hs,q⟩:=h
 cases x with
 |aA=>
  cases rx
  cases y with
  |aA=>cases ry;exact PySem.EqNone.eq_none_none (cN I q (by simp))
  |bl j=>cases ry;exact PySem.EqNone.eq_none_bool (cN I q (by simp))
  |int j=>obtain⟨t',rfl⟩:=ry;exact PySem.EqNone.eq_none_int (cN I q (by simp))
  |str j=>obtain⟨t',rfl⟩:=ry;exact PySem.EqNone.eq_none_str (cN I q (by simp))
  |_=>exact absurd (show false=true from hs) bW
 |bl i=>
  cases rx
  cases y with
  |aA=>cases ry;exact PySem.EqNone.eq_bool_none (cN I q (by simp))
  |bl j=>cases ry;exact eq_bool (cN I q Ko)
  |str j=>obtain⟨t',rfl⟩:=ry;exact PySem.EqMixed.eq_bool_str (cN I q (by simp))
  |_=>exact absurd (show false=true from hs) bW
 |int i=>
  obtain⟨t,rfl⟩:=rx
  cases y with
  |aA=>cases ry;exact PySem.EqNone.eq_int_none (cN I q (by simp))
  |int j=>obtain⟨t',rfl⟩:=ry;exact eq_int (cN I q Kn)
  |str j=>obtain⟨t',rfl⟩:=ry;exact PySem.EqMixed.eq_int_str (cN I q (by simp))
  |_=>exact absurd (show false=true from hs) bW
 |str i=>
  obtain⟨t,rfl⟩:=rx
  cases y with
  |aA=>cases ry;exact PySem.EqNone.eq_str_none (cN I q (by simp))
  |bl j=>cases ry;exact PySem.EqMixed.eq_str_bool (cN I q (by simp))
  |int j=>obtain⟨t',rfl⟩:=ry;exact PySem.EqMixed.eq_str_int (cN I q (by simp))
  |str j=>obtain⟨t',rfl⟩:=ry;exact eq_str (cN I q Kq)
  |_=>exact absurd (show false=true from hs) bW
 |iL i=>
  obtain⟨t,rfl⟩:=rx
  cases y with
  |iL j=>obtain⟨t',rfl⟩:=ry;exact PySem.W.eq_bytes (cN I q Kr)
  |_=>exact absurd (show false=true from hs) bW
 |_=>cases y <;> exact absurd (show false=true from hs) bW
theorem mW:cM X (compareOp .NotEq) Th:=by
 intro pins s σ H x y v u Q I rx ry h
 obtain⟨hs,q⟩:=h
 cases x with
 |aA=>
  cases rx
  cases y with
  |aA=>cases ry;exact PySem.EqNone.ne_none_none (cN I q (by simp))
  |bl j=>cases ry;exact PySem.EqNone.ne_none_bool (cN I q (by simp))
  |int j=>obtain⟨t',rfl⟩:=ry;exact PySem.EqNone.ne_none_int (cN I q (by simp))
  |str j=>obtain⟨t',rfl⟩:=ry;exact PySem.EqNone.ne_none_str (cN I q (by simp))
  |_=>exact absurd (show false=true from hs) bW
 |bl i=>
  cases rx
  cases y with
  |aA=>cases ry;exact PySem.EqNone.ne_bool_none (cN I q (by simp))
  |bl j=>cases ry;exact ne_bool (cN I q (dU not Ko))
  |str j=>obtain⟨t',rfl⟩:=ry;exact PySem.EqMixed.ne_bool_str (cN I q (by simp))
  |_=>exact absurd (show false=true from hs) bW
 |int i=>
  obtain⟨t,rfl⟩:=rx
  cases y with
  |aA=>cases ry;exact PySem.EqNone.ne_int_none (cN I q (by simp))
  |int j=>obtain⟨t',rfl⟩:=ry;exact ne_int (cN I q (dU not Kn))
  |str j=>obtain⟨t',rfl⟩:=ry;exact PySem.EqMixed.ne_int_str (cN I q (by simp))
  |_=>exact absurd (show false=true from hs) bW
 |str i=>
  obtain⟨t,rfl⟩:=rx
  cases y with
  |aA=>cases ry;exact PySem.EqNone.ne_str_none (cN I q (by simp))
  |bl j=>cases ry;exact PySem.EqMixed.ne_str_bool (cN I q (by simp))
  |int j=>obtain⟨t',rfl⟩:=ry;exact PySem.EqMixed.ne_str_int (cN I q (by simp))
  |str j=>obtain⟨t',rfl⟩:=ry;exact ne_str (cN I q (dU not Kq))
  |_=>exact absurd (show false=true from hs) bW
 |iL i=>
  obtain⟨t,rfl⟩:=rx
  cases y with
  |iL j=>obtain⟨t',rfl⟩:=ry;exact PySem.W.ne_bytes (cN I q (dU not Kr))
  |_=>exact absurd (show false=true from hs) bW
 |_=>cases y <;> exact absurd (show false=true from hs) bW
theorem lJ:cM X (compareOp .Lt) (oX λi j=>.bl (decide (i<j))):=zc λ_ _ _ _ _ _ _ q=>lt_int q
theorem tH:cM X (compareOp .LtE) (oX λi j=>.bl (decide (i<=j))):=zc λ_ _ _ _ _ _ _ q=>le_int q
theorem Dl:cM X (compareOp .Gt) (oX λi j=>.bl (decide (j<i))):=zc λ_ _ _ _ _ _ _ q=>gt_int q
theorem Ti:cM X (compareOp .GtE) (oX λi j=>.bl (decide (j<=i))):=zc λ_ _ _ _ _ _ _ q=>ge_int q
theorem Dm:cM X (compareOp .In) (λx y H Q=>∃i j,x = .str i/\y = .str j/\Q (.bl (!(Builtin.Str.occurrences j i 0 j.length 1).isEmpty)) H):=by
 intro pins s σ H x y v u Q I rx ry h
 obtain⟨i,j,rfl,rfl,q⟩:=h
 obtain⟨t,rfl⟩:=rx
 obtain⟨t',rfl⟩:=ry
 exact in_str (cN I q rfl)
theorem ze:cM X (compareOp .Is) (λx y H Q=>y = .aA/\Q (.bl (decide (x = .aA))) H):=by
 intro pins s σ H x y v u Q I rx ry h
 obtain⟨rfl,q⟩:=h
 cases ry
 refine is_none_gen (cN I q ?_)
 cases x <;> first
  |(cases rx;rfl)
  |(obtain⟨t,rfl⟩:=rx;rfl)
theorem Tj:cM X (compareOp .NotIn) (λx y H Q=>∃i j,x = .str i/\y = .str j/\Q (.bl (!(!(Builtin.Str.occurrences j i 0 j.length 1).isEmpty))) H):=by
 intro pins s σ H x y v u Q I rx ry h
 obtain⟨i,j,rfl,rfl,q⟩:=h
 obtain⟨t,rfl⟩:=rx
 obtain⟨t',rfl⟩:=ry
 exact notIn_str (cN I q rfl)
theorem cH(b:Expr){op:CmpOp}(h:op ≠ .In:=by decide)(h2:op ≠ .NotIn:=by decide):behindInMarks op b=false:=by
 have e1:(op==CmpOp.In)=false:=by cases op <;> first | rfl | exact absurd rfl h
 have e2:(op==CmpOp.NotIn)=false:=by cases op <;> first | rfl | exact absurd rfl h2
 cases b <;> simp[behindInMarks,e1,e2]
theorem vW{op:CmpOp}{r:R2}(ho:cM X (compareOp op) r)(ha:PE X a ta)(hb:PE X b tb)(hm:behindInMarks op b=false):PE X (.Compare a [op] [b] pos) (oV r ta tb):=by
 intro pins s σ H Q I h
 exact wpAny_Compare1 (Dk ha hb I h λv u s2 x y H2 I2 rx ry q=>ho pins s2 σ H2 x y v u Q I2 rx ry q) hm
def Dn(t:TE):TT:=λσ H Q=>t σ H λx H' =>∃k,x = .bl k/\Q k H'
theorem cx{op:CmpOp}{r:R2}(ho:cM X (compareOp op) r)(ha:PE X a ta)(hb:PE X b tb)(hm:behindInMarks op b=false):PT X (.Compare a [op] [b] pos) (Dn (oV r ta tb)):=by
 intro pins s σ H Q I h
 refine wpAny_isTrue_Compare1 (aB (ha pins s σ H _ I h) λv s1 ⟨x,H1,I1,r1,q1⟩=>aB (hb pins s1 σ H1 _ I1 q1) λu s2 ⟨y,H2,I2,r2,q2⟩=>
  aB (ho pins s2 σ H2 x y v u _ I2 r1 r2 q2) λc s3 ⟨z,H3,I3,r3,k,e,q3⟩=>?_) hm
 subst e
 cases r3
 exact oo ⟨H3,I3,q3⟩
def Ks(r r':R2)(ta tb tc:TE):TE:=λσ H Q=>ta σ H λx H1=>tb σ H1 λy H2=>r x y H2 λz H3=>∃k,z = .bl k/\
 (if k=true then tc σ H3 λw' H4=>r' y w' H4 Q else Q (.bl false) H3)
theorem Tn{op qO:CmpOp}{r r':R2}(ho:cM X (compareOp op) r)(kq:cM X (compareOp qO) r')(ha:PE X a ta)(hb:PE X b tb)(hc:PE X c tc)
  (hm:lastMarks [op,qO] [b,c]=false:=by with_unfolding_all rfl):PE X (.Compare a [op,qO] [b,c] pos) (Ks r r' ta tb tc):=by
 intro pins s σ H Q I h
 refine Compare_chain (aB (ha pins s σ H _ I h) λv s1 ⟨x,H1,I1,r1,q1⟩=>chain_link (aB (hb pins s1 σ H1 _ I1 q1) λu s2 ⟨y,H2,I2,r2,q2⟩=>
  aB (ho pins s2 σ H2 x y v u _ I2 r1 r2 q2) λd s3 ⟨z,H3,I3,r3,k,e,q3⟩=>?_)) hm
 subst e
 cases r3
 refine oo ?_
 cases k with
 |false=>exact ite_ff ⟨.bl false,H3,I3,rfl,q3⟩
 |true=>exact ite_tt (chain_last (aB (hc pins s3 σ H3 _ I3 q3) λw' s4 ⟨z',H4,I4,r4,q4⟩=>kq pins s4 σ H4 y z' u w' Q I4 r2 r4 q4))
theorem zf{op qO:CmpOp}{r r':R2}(ho:cM X (compareOp op) r)(kq:cM X (compareOp qO) r')(ha:PE X a ta)(hb:PE X b tb)(hc:PE X c tc)
  (hm:lastMarks [op,qO] [b,c]=false:=by with_unfolding_all rfl):PT X (.Compare a [op,qO] [b,c] pos) (Dn (Ks r r' ta tb tc)):=by
 intro pins s σ H Q I h
 refine isTrue_chain (aB (ha pins s σ H _ I h) λv s1 ⟨x,H1,I1,r1,q1⟩=>test_link (aB (hb pins s1 σ H1 _ I1 q1) λu s2 ⟨y,H2,I2,r2,q2⟩=>
  aB (ho pins s2 σ H2 x y v u _ I2 r1 r2 q2) λd s3 ⟨z,H3,I3,r3,k,e,q3⟩=>?_)) hm
 subst e
 cases r3
 refine oo ?_
 cases k with
 |false=>
  obtain⟨k',e',q'⟩:=q3
  cases e'
  exact ite_ff ⟨H3,I3,q'⟩
 |true=>
  refine ite_tt (test_last (aB (hc pins s3 σ H3 _ I3 q3) λw' s4 ⟨z',H4,I4,r4,q4⟩=>aB (kq pins s4 σ H4 y z' u w' _ I4 r2 r4 q4) λd' s5 ⟨z2,H5,I5,r5,k2,e2,q5⟩=>?_))
  subst e2
  cases r5
  exact oo ⟨H5,I5,q5⟩
def Dp(K:PySem.W.Frag)(x:V)(H:Hp)(k:Bool):Prop:=
 match x with
 |.aA=>k=false
 |.bl b=>k=b
 |.int i=>k=(i != 0)
 |.str y=>y.length<=sizeLine/\k=((y.length:Int) != 0)
 |.iL y=>y.size<=sizeLine/\k=((y.size:Int) != 0)
 |.ref p=>(∃xs,aj K H p xs/\k = !xs.isEmpty)\/(∃xs,aw K H p xs/\k = !xs.isEmpty)\/∃kvs,H p=some (.dK kvs)/\k = !kvs.isEmpty
 |_=>False
theorem To{κ:Type}{kvs:List (κ×V)}{vs:List (κ×Value)}(r:KV kvs vs):(!vs.isEmpty) = !kvs.isEmpty:=by
 cases r <;> rfl
theorem Kt{xs:List V}{its:List Value}(r:Vals xs its):(!its.toArray.isEmpty) = !xs.isEmpty:=by
 cases r <;> simp
theorem mX:(sizeLine:Nat)<2 ^ 63:=by rw[yw];decide
theorem Tp:Tb X (λx H Q=>∃k,Dp X.K x H k/\Q k H):=by
 intro pins s σ H x v Q I rx h
 obtain⟨k,e,q⟩:=h
 have hl:=mX
 have hs:sizeLine=16777216:=yw
 cases x with
 |aA=>
  cases rx
  have e':k=false:=e
  subst e'
  exact truthy_none ⟨H,I,q⟩
 |bl b=>
  cases rx
  have e':k=b:=e
  subst e'
  exact oo ⟨H,I,q⟩
 |int i=>
  obtain⟨t,rfl⟩:=rx
  have e':k=(i != 0):=e
  subst e'
  exact PySem.P.truthy_int ⟨H,I,q⟩
 |str y=>
  obtain⟨t,rfl⟩:=rx
  obtain⟨hy,e'⟩:y.length<=sizeLine/\k=((y.length:Int) != 0):=e
  subst e'
  exact PySem.P.truthy_str (by omega) ⟨H,I.tok _,q⟩
 |iL y=>
  obtain⟨t,rfl⟩:=rx
  obtain⟨hy,e'⟩:y.size<=sizeLine/\k=((y.size:Int) != 0):=e
  subst e'
  exact PySem.W.truthy_bytes (by omega) ⟨H,I.tok _,q⟩
 |ref p=>
  cases rx
  have e':(∃xs,aj X.K H p xs/\k = !xs.isEmpty)\/(∃xs,aw X.K H p xs/\k = !xs.isEmpty)\/∃kvs,H p=some (.dK kvs)/\k = !kvs.isEmpty:=e
  rcases e' with ⟨xs,hx,e'⟩ | ⟨xs,hx,e'⟩ | ⟨kvs,hx,e'⟩
  .subst e'
   obtain⟨its,r,pl,hz⟩:=I.list hx
   have hlen:=r.length
   exact wpAny_truthy_list pl.isList (by simp only[bp];omega) ⟨H,I.tok _,by rw[Kt r];exact q⟩
  .subst e'
   obtain⟨its,r,pl,hz⟩:=I.tuple hx
   have hlen:=r.length
   exact truthy_tuple pl (by simp only[bp];omega) ⟨H,I.tok _,by rw[Kt r];exact q⟩
  .subst e'
   obtain⟨hz,hS,vs,r,m⟩:kvs.length<=sizeLine/\(p==sysModules)=false/\∃vs,KV kvs vs/\s.heap.DictOf (bN X.prog X.w) p vs:=I.aC p _ hx
   have hlen:kvs.length=vs.length:=iB r
   exact wpAny_truthy_dict hS m (by omega) ⟨H,I.tok _,by rw[To r];exact q⟩
 |_=>exact(show False from e).elim
theorem tI(ha:PE X a ta)(he:∀whole,isTrue a X.env whole=(do let v<-whole;standAt a.pos;holding [v] (truthy v))) :
  PT X a (λσ H Q=>ta σ H λx H' =>∃k,Dp X.K x H' k/\Q k H'):=by
 intro pins s σ H Q I h
 exact isTrue_plain (aB (ha pins s σ H _ I h) λv s1 ⟨x,H1,I1,r1,q1⟩=>Tp pins s1 σ H1 x v Q I1 r1 q1) (he _)
theorem qP:cM X (binaryOp .Add) (λx y H Q=>∃i j,x = .str i/\y = .str j/\i.length+j.length<=sizeLine/\Q (.str (i++j)) H):=by
 intro pins s σ H x y v u Q I rx ry h
 obtain⟨i,j,rfl,rfl,hz,q⟩:=h
 obtain⟨t,rfl⟩:=rx
 obtain⟨t',rfl⟩:=ry
 exact add_str (λt' tk=>⟨.str (i++j),H,I.tok _,⟨_,rfl⟩,q⟩) hz
theorem vals1{x:V}{us:List Value}(r:Vals [x] us):∃u,us=[u]/\RelV x u:=by
 cases r with
 |cons r1 r2=>cases r2;exact⟨_,rfl,r1⟩
theorem vals2{x y:V}{us:List Value}(r:Vals [x,y] us):∃u w',us=[u,w']/\RelV x u/\RelV y w':=by
 cases r with
 |cons r1 r2=>
  cases r2 with
  |cons r3 r4=>cases r4;exact⟨_,_,rfl,r1,r3⟩
theorem Tq(hc:X.calm=true):gE X (.builtin "min") (λxs H Q=>∃i j,xs=[.int i,.int j]/\Q (.int (if j<i then j else i)) H):=by
 intro pins s σ H xs us Q I r h
 obtain⟨i,j,rfl,q⟩:=h
 obtain⟨u,w',rfl,⟨t,rfl⟩,⟨t',rfl⟩⟩:=vals2 r
 refine min_two_ints (I.ok.hd hc) λh' tk k=>⟨_,H,I.kept k,?_,q⟩
 by_cases hj:j<i
 .rw[ax hj,ax hj];exact⟨_,rfl⟩
 .rw[aq hj,aq hj];exact⟨_,rfl⟩
end
structure qQ(h:Heap)(x dx C:Addr)(mA:Str->Option Value):Prop where
 obj:h.get? x=some (PySem.W.instObj C dx)
 ns:h.Ns1 dx mA
 ne:dx≠x
theorem Tr{h:Heap}{dx:Addr}{mA:Str->Option Value}(n:h.Ns1 dx mA):∃od,h.get? dx=some od/\∀name,PySem.W.lookIn name od=some (mA name):=by
 obtain⟨o,es,ep,ho,hd,hk,_,hm⟩:=n
 refine⟨o,ho,λname=>?_⟩
 have e:=hm name
 unfold nsFind findBy at e
 rw[<-Array.find?_toList] at e
 unfold PySem.W.lookIn
 rw[hd]
 dsimp only
 split
 .rename_i y q
  rw[q] at e
  exact dU some e
 .rename_i q
  rw[q] at e
  have a:es.toList.any (·.refKey)=false:=by
   rw[Jl]
   intro y hy
   obtain⟨z,t,qR⟩:=hk y (RP.mp hy)
   simp[DictEntry.refKey,qR]
  have a':¬es.toList.any (·.refKey)=true:=by rw[a];exact bW
  rw[aq a']
  exact dU some e
theorem qQ.look{h:Heap}{x dx C:Addr}{mA:Str->Option Value}(I:qQ h x dx C mA):∃od,PySem.W.InstAt h x (PySem.W.instObj C dx) C (some od)/\∀name,PySem.W.lookIn name od=some (mA name):=
 let ⟨od,ho,hl⟩:=Tr I.ns
 ⟨od,⟨I.obj,rfl,rfl,ho⟩,hl⟩
section
variable{prog:Program}{w:World}{A:Around}{E:Value->Shared->Prop}{s:Shared}{K:PySem.W.Frag}{x dx C f:Addr}{mA:Str->Option Value}{name:Str}{v:Value}
theorem get_map{expr:Bool}{Q:Value->Shared->Prop}(X:K.In s.heap)(I:qQ s.heap x dx C mA)(hg:PySem.W.plainGet K C name=true)(hh:PySem.W.hasDictIn K C=true)
  (ha:PySem.W.findIn K (.ref C) name=some none) (hv:mA name=some v) (Ts:PySem.W.handedIn v=true) (h:Q v { s with toks:=s.toks+1 }) :
  wpAny (model prog w) A (getAttr (.ref x) name expr) Q E s:=by
 obtain⟨od,J,hl⟩:=I.look
 exact PySem.W.get_value X J (Jm hg).1 (PySem.W.findObj_own hh ha rfl (by rw[hl,hv])) Ts h
theorem Tt{pl:Sem Bool}{Q:Value×List Value->Shared->Prop}(X:K.In s.heap)(I:qQ s.heap x dx C mA)(hg:PySem.W.plainGet K C name=true)
  (hf:PySem.W.findIn K (.ref C) name=some (some (.ref f))) (ht:PySem.W.isFn K (.ref f)=true) (hv:mA name=none) (h:Q (.ref f,[.ref x]) s) :
  wpAny (model prog w) A (getMethod (.ref x) name pl) Q E s:=by
 obtain⟨od,J,hl⟩:=I.look
 exact PySem.W.method_fn X J (Jm hg).1 (Jm hg).2 hf (mI.mp ht) (by show(PySem.W.lookIn name od).map (·.isSome)=some false;rw[hl,hv];rfl) h
theorem Tu{ns:List Str}{Q:Unit->Shared->Prop}(X:K.In s.heap)(I:qQ s.heap x dx C mA)
  (hs:PySem.W.findIn K (.ref C) "__setattr__"=some (some (.builtin "object.__setattr__"))) (hp:PySem.W.plainOver K C=true) (ht:PySem.W.takerIn K C name=some none) (hh:PySem.W.hasDictIn K C=true)
  (hw:PySem.Within mA ns) (hsz:ns.length<=sizeLine)
  (h:∀h',qQ h' x dx C (λy=>if y=name then some v else mA y)->Heap.SameBut dx s.heap h'->Q () { s with heap:=h',toks:=s.toks+2 }) :
  wpAny (model prog w) A (setAttr (.ref x) name v) Q E s:=by
 obtain⟨od,J,hl⟩:=I.look
 refine PySem.W.set_plain X J hs (PySem.W.osa_open (s:={ s with toks:=s.toks+1 }) (r:=none) X J hp ht λb=>?_)
 obtain⟨cd,hc,vM⟩:=PySem.W.any_some hh
 have hx:s.heap.get? x=some ⟨.ref C,some dx,.plain,#[]⟩:=I.obj
 refine ag (aJ (ag (ag (wpAny_loadPart hx (ag (PySem.W.Looks.here (s:={ s with toks:=s.toks+1 }) (PySem.W.looks_clsIn X hc) ?_))))))
 rw[vM]
 refine aJ (a:=some dx) (ag (aJ (ag ?_)))
 refine wpAny_nsSet1 (s:={ s with toks:=s.toks+1 }) I.ns λh' qS vX=>?_
 obtain⟨oD,esD,epD,Tv,Tw,Tx⟩:=qS.count (PySem.Within.cons name v hw)
 refine ag (wpAny_lookBehind Tv (by rw[Tw];exact pastItsLine_dict (bA Tx (by rw[c5];omega))) ?_)
 exact aJ (h _ ⟨(vX.2 _ (bj I.ne)).trans I.obj,qS,I.ne⟩ vX)
theorem Tz{R:Result->Shared->Prop}{vs:List Value}{kw:List (Str×Value)}(X:K.In s.heap)(hm:PySem.W.makesIn K C=true)
  (hi:PySem.W.findIn K (.ref C) "__init__"=some (some (.ref f))) (hf:PySem.W.typeIn K (.ref f)=some (.type "function"))
  (h:codeAny (model prog w) (A.under (.builtin "type.__call__" ⟨.ref C::vs,kw⟩)) (.call (.ref f) ⟨.ref (s.heap.objs.size+1)::vs,kw⟩) (PySem.W.InitBack (s.heap.objs.size+1) R)
   { s with heap:=(s.heap.push PySem.W.emptyDict).push (PySem.W.instObj C s.heap.objs.size) }) :
  codeAny (model prog w) A (.call (.ref C) ⟨vs,kw⟩) R s:=by
 obtain⟨hh,g,d,t,os⟩:=s
 exact PySem.W.make_core (PySem.W.makes_of X hm) (PySem.W.looks_findIn X hi) (λself=>PySem.W.bind_fn X self hf) (.inl rfl) h
theorem TC{R:Result->Shared->Prop}(X:K.In s.heap)(hm:PySem.W.makesIn K C=true)
  (hi:PySem.W.findIn K (.ref C) "__init__"=some (some (.builtin "object.__init__")))
  (hb:∀self,PySem.W.Looks (model prog w) s.heap (bindSpecial (.builtin "object.__init__") self) (.builtin "object.__init__",[self]))
  (h:codeAny (model prog w) (A.under (.builtin "type.__call__" ⟨[.ref C],[]⟩)) (.call (.builtin "object.__init__") ⟨[.ref (s.heap.objs.size+1)],[]⟩) (PySem.W.InitBack (s.heap.objs.size+1) R)
   { s with heap:=(s.heap.push PySem.W.emptyDict).push (PySem.W.instObj C s.heap.objs.size) }) :
  codeAny (model prog w) A (.call (.ref C) ⟨[],[]⟩) R s:=by
 obtain⟨hh,g,d,t,os⟩:=s
 exact PySem.W.make_core (PySem.W.makes_of X hm) (PySem.W.looks_findIn X hi) hb (.inr ⟨rfl,rfl⟩) h
end
noncomputable def aT(f:Str)(v:V):List (Str×V)->List (Str×V)
 |[]=>[(f,v)]
 |(g,x)::r=>if g=f then (g,v)::r else (g,x)::aT f v r
theorem cW(f g:Str)(v:V):∀fs:List (Str×V),(aT f v fs).lookup g=if g=f then some v else fs.lookup g
 |[]=>by
  show List.lookup g [(f,v)]=_
  by_cases h:g=f
  .have hb:(g==f)=true:=mI.mpr h
   simp only[List.lookup,hb,ax h]
  .have hb:(g==f)=false:=sI.mpr h
   simp only[List.lookup,hb,aq h]
 |(k,x)::r=>by
  have ih:=cW f g v r
  rw[show aT f v ((k,x)::r)=(if k=f then (k,v)::r else (k,x)::aT f v r) from rfl]
  by_cases hk:k=f
  .rw[ax hk]
   by_cases h:g=k
   .have hb:(g==k)=true:=mI.mpr h
    simp only[List.lookup,hb,ax (h.trans hk)]
   .have hb:(g==k)=false:=sI.mpr h
    simp only[List.lookup,hb,aq (λe:g=f=>h (e.trans hk.symm))]
  .rw[aq hk]
   by_cases h:g=k
   .have hb:(g==k)=true:=mI.mpr h
    simp only[List.lookup,hb,aq (λe:g=f=>hk (h.symm.trans e))]
   .have hb:(g==k)=false:=sI.mpr h
    simp only[List.lookup,hb]
    exact ih
theorem Dq(f:Str)(v:V):∀fs:List (Str×V),f∈(aT f v fs).map (·.1)/\∀g,g∈fs.map (·.1)->g∈(aT f v fs).map (·.1)
 |[]=>⟨by simp[aT],λg h=>by simp at h⟩
 |(k,x)::r=>by
  obtain⟨i1,i2⟩:=Dq f v r
  rw[show aT f v ((k,x)::r)=(if k=f then (k,v)::r else (k,x)::aT f v r) from rfl]
  by_cases hk:k=f
  .rw[ax hk]
   subst hk
   exact⟨by simp,λg h=>by simpa using h⟩
  .rw[aq hk]
   refine⟨?_,λg h=>?_⟩
   .rw[bL]
    exact bF _ i1
   .rw[bL] at h ⊢
    rcases bX.mp h with e | e
    .exact bX.mpr (.inl e)
    .exact bF _ (i2 g e)
theorem Ku(f:Str)(v:V):∀fs:List (Str×V),(aT f v fs).length<=fs.length+1
 |[]=>by simp[aT]
 |(k,x)::r=>by
  have ih:=Ku f v r
  rw[show aT f v ((k,x)::r)=(if k=f then (k,v)::r else (k,x)::aT f v r) from rfl]
  by_cases hk:k=f
  .rw[ax hk,c5,c5];omega
  .rw[aq hk,c5,c5];omega
theorem eT.some_of{v:V}{o:Option Value}(r:eT (some v) o):∃u,o=some u/\RelV v u:=by
 cases o with
 |none=>exact(show False from r).elim
 |some u=>exact⟨u,rfl,r⟩
theorem eT.none_of{o:Option Value}(r:eT none o):o=none:=by
 cases o with
 |none=>rfl
 |some u=>exact(show False from r).elim
theorem TF{v:V}{u:Value}(r:RelV v u):PySem.W.handedIn u=true:=by
 cases v with
 |aA=>cases(show u=Value.none from r);rfl
 |bl b=>cases(show u=Value.bool b from r);rfl
 |int i=>obtain⟨t,e⟩:=(show ∃t,u=Value.int i t from r);cases e;rfl
 |str x=>obtain⟨t,e⟩:=(show ∃t,u=Value.str x t from r);cases e;rfl
 |iL b=>obtain⟨t,e⟩:=(show ∃t,u=Value.bytes b t from r);cases e;rfl
 |qF b=>obtain⟨t,e⟩:=(show ∃t,u=Value.float b t from r);cases e;rfl
 |ref a=>cases(show u=Value.ref a from r);rfl
 |ty n=>cases(show u=Value.type n from r);rfl
section
variable{P:Program}{w:World}{H H':Hp}{h h':Heap}{a C dx:Addr}{fs vK:List (Str×V)}
theorem vY(aC:da P w H h)(e:H a=some (.ins C dx fs)):∃mA,qQ h a dx C mA/\(∀f,eT (fs.lookup f) (mA f))/\PySem.Within mA (fs.map (·.1))/\fs.length<=1000/\H dx=some (.own a):=by
 obtain⟨d,z,ne,ob,mA,n,r,q⟩:=(show cS P w H h a (.ins C dx fs) from aC a _ e)
 exact⟨mA,⟨ob,n,ne⟩,r,q,z,d⟩
end
structure cI(K:PySem.W.Frag)(C:Addr):Prop where
 pg:PySem.W.plainGet K C Str.empty=true
 hd:PySem.W.hasDictIn K C=true
 po:PySem.W.plainOver K C=true
 sa:PySem.W.findIn K (.ref C) "__setattr__"=some (some (.builtin "object.__setattr__"))
theorem cI.get{K:PySem.W.Frag}{C:Addr}(c:cI K C)(f:Str):PySem.W.plainGet K C f=true:=c.pg
def bO(K:PySem.W.Frag)(C:Addr)(f:Str):Prop:=PySem.W.findIn K (.ref C) f=some none
theorem bO.TH{K:PySem.W.Frag}{C:Addr}{f:Str}(n:bO K C f):PySem.W.takerIn K C f=some none:=by
 unfold PySem.W.takerIn
 rw[show PySem.W.findIn K (.ref C) f=some none from n]
 rfl
structure Con(K:PySem.W.Frag)(C:Addr)(f:Str)(v:V)(u:Value):Prop where
 at_:PySem.W.findIn K (.ref C) f=some (some u)
 rel:RelV v u
 get:PySem.W.specialIn K u "__get__"=some none
 cp:PySem.W.copiedNames.contains f=false
structure Meth(K:PySem.W.Frag)(C:Addr)(m:Str)(f:Addr):Prop where
 at_:PySem.W.findIn K (.ref C) m=some (some (.ref f))
 fn:PySem.W.isFn K (.ref f)=true
 kp:PySem.W.keepIn K (.ref f)=true
section
variable{X:Cx}{pins:List (Addr×Obj)}{σ:St}{H:Hp}{s:Shared}{a C dx:Addr}{fs:List (Str×V)}{f:Str}{v:V}{A:Around}{E:Value->Shared->Prop}
theorem TJ{b:Bool}{Q:Value->Shared->Prop}(I:Inv X pins σ H s)(e:H a=some (.ins C dx fs))(c:cI X.K C)(n:bO X.K C f)(l:fs.lookup f=some v)
  (h:∀u s',Inv X pins σ H s'->RelV v u->Q u s'):wpAny (model X.prog X.w) A (getAttr (.ref a) f b) Q E s:=by
 obtain⟨mA,O,r,_,_,_⟩:=vY I.aC e
 obtain⟨u,hu,ru⟩:=eT.some_of (v:=v) (o:=mA f) (by rw[<-l];exact r f)
 exact get_map I.cU O (c.get f) c.hd n hu (TF ru) (h u _ (I.tok _) ru)
theorem Kv{m:Str}{g:Addr}{pl:Sem Bool}{Q:Value×List Value->Shared->Prop}(I:Inv X pins σ H s)(e:H a=some (.ins C dx fs))(c:cI X.K C)(k:Meth X.K C m g)(l:fs.lookup m=none)
  (h:Q (.ref g,[.ref a]) s):wpAny (model X.prog X.w) A (getMethod (.ref a) m pl) Q E s:=by
 obtain⟨mA,O,r,_,_,_⟩:=vY I.aC e
 have hn:mA m=none:=eT.none_of (by rw[<-l];exact r m)
 exact Tt I.cU O (c.get m) k.at_ k.fn hn h
theorem TK{y:V}{u:Value}{Q:Unit->Shared->Prop}(I:Inv X pins σ H s)(e:H a=some (.ins C dx fs))(c:cI X.K C)(n:bO X.K C f)(hl:fs.length<1000)(ry:RelV y u)
  (h:∀s',Inv X pins σ (upd H a (.ins C dx (aT f y fs))) s'->Q () s'):wpAny (model X.prog X.w) A (setAttr (.ref a) f u) Q E s:=by
 obtain⟨mA,O,r,wi,_,ho⟩:=vY I.aC e
 have hz:(fs.map (·.1)).length<=sizeLine:=by rw[ar,yw];omega
 refine Tu I.cU O c.sa c.po n.TH c.hd wi hz λh' O' sb=>h _ ?_
 have hd:∃o,h'.get? dx=some o:=let ⟨o,_,_,e',_⟩:=O'.ns;⟨o,e'⟩
 refine I.write (x:=a) (e:=dx) (by rw[e];exact True.intro) (.inr ho) (λb q hb z=>(sb.2 b hb).trans z) hd ?_
 refine⟨by rw[ak O.ne];exact ho,?_,O.ne,O'.obj,_,O'.ns,λg=>?_,λg hg=>?_⟩
 .have:=Ku f y fs;omega
 .show eT ((aT f y fs).lookup g) (if g=f then some u else mA g)
  rw[cW]
  by_cases q:g=f
  .rw[ax q,ax q];exact ry
  .rw[aq q,aq q];exact r g
 .by_cases q:g=f
  .rw[q];exact(Dq f y fs).1
  .refine(Dq f y fs).2 g (wi g λz=>hg ?_)
   show(if g=f then some u else mA g)=none
   rw[aq q];exact z
theorem Inv.made(I:Inv X pins σ H s):Inv X pins σ (upd (upd H s.heap.objs.size (.own (s.heap.objs.size+1))) (s.heap.objs.size+1) (.ins C s.heap.objs.size []))
  { s with heap:=(s.heap.push PySem.W.emptyDict).push (PySem.W.instObj C s.heap.objs.size) }:=by
 have e1:(s.heap.push PySem.W.emptyDict).get? s.heap.objs.size=some PySem.W.emptyDict:=cw s.heap rfl
 have e2:((s.heap.push PySem.W.emptyDict).push (PySem.W.instObj C s.heap.objs.size)).get? (s.heap.objs.size+1)=some (PySem.W.instObj C s.heap.objs.size):=by
  have:=cw (s.heap.push PySem.W.emptyDict) (o:=PySem.W.instObj C s.heap.objs.size) rfl
  rwa [kh] at this
 have e3:(s.heap.push PySem.W.emptyDict).Ns s.heap.objs.size (λ_=>none):=⟨PySem.W.emptyDict,#[],_,e1,rfl,(λe he=>absurd he (by simp)),λ_=>rfl⟩
 have I1:=I.laid (a:=s.heap.objs.size) (o := .own (s.heap.objs.size+1)) (h':=s.heap.push PySem.W.emptyDict) (t':=s.toks) (λb u q=>bw _ q) (aQ _) ⟨_,e1⟩
 refine I1.laid (a:=s.heap.objs.size+1) (o := .ins C s.heap.objs.size []) (t':=s.toks) (λb u q=>bw _ q) (Nat.le_of_eq (kh _ _)) ?_
 have ne:s.heap.objs.size≠s.heap.objs.size+1:=bU (qx _)
 refine⟨by rw[ak ne,au],bx _,ne,e2,λ_=>none,(Heap.Ns1.of_empty e3).at λo q=>bw _ q,λ_=>True.intro,λy hy=>absurd rfl hy⟩
theorem Kw{prog:Program}{w:World}{env:Env}{e:Expr}{f:Str}{pos:Pos}{s:Shared}{Q:Value->Shared->Prop}(hb:attributeBase e f env (eval e env)=eval e env)
  (h:wpAny (model prog w) A (eval e env) (λo s₁=>wpAny (model prog w) A (getAttr o f true) Q E s₁) E s):wpAny (model prog w) A (eval (.Attribute e f pos) env) Q E s:=
 Attribute_any_ h (by rw[arm_eval_Attribute,hb])
end
def TL(K:PySem.W.Frag)(ta:TE)(f:Str):TE:=λσ H Q=>ta σ H λx H1=>∃a C dx fs v,x = .ref a/\H1 a=some (.ins C dx fs)/\cI K C/\bO K C f/\fs.lookup f=some v/\Q v H1
def TM(K:PySem.W.Frag)(ta tv:TE)(f:Str):TS:=λD σ H=>tv σ H λy H1=>ta σ H1 λx H2=>∃a C dx fs,x = .ref a/\H2 a=some (.ins C dx fs)/\cI K C/\bO K C f/\fs.length<1000/\
 D.nx σ (upd H2 a (.ins C dx (aT f y fs)))
section
variable{X:Cx}{o e value:Expr}{f:Str}{pos pos' mY:Pos}{ta tv:TE}
theorem di(he:PE X e ta)(hb:attributeBase e f X.env (eval e X.env)=eval e X.env):PE X (.Attribute e f pos) (TL X.K ta f):=by
 intro pins s σ H Q I h
 refine Kw hb (aB (he pins s σ H _ I h) λu s1 ⟨x,H1,I1,rx,a,C,dx,fs,v,ex,ea,c,n,l,q⟩=>?_)
 subst ex
 obtain rfl:u=Value.ref a:=rx
 exact TJ I1 ea c n l λu' s2 I2 ru=>⟨v,H1,I2,ru,q⟩
theorem kD(ha:PE X o ta)(hv:PE X value tv)(hs:swapsWith value (some (.Attribute o f pos')) pos.line X.env=pure false):PS X (.Assign [.Attribute o f pos'] value pos) (TM X.K ta tv f):=by
 intro pins s σ H D I h
 refine plainObj_wpAny_Assign_Attribute (aB (hv pins s σ H _ I h) λu s1 ⟨y,H1,I1,ry,q⟩=>aB (ha pins s1 σ H1 _ I1 q) λov s2 ⟨x,H2,I2,rx,a,C,dx,fs,ex,ea,c,n,l,q2⟩=>?_) hs
 subst ex
 obtain rfl:ov=Value.ref a:=rx
 exact TK I2 ea c n l ry λs3 I3=>⟨σ,_,I3,q2⟩
end
section
variable{X:Cx}{pins:List (Addr×Obj)}{σ:St}{H:Hp}{s:Shared}{A:Around}{E:Value->Shared->Prop}{Q:Value->Shared->Prop}{c:Value}{b:Bool}
inductive iO(K:PySem.W.Frag)(H:Hp):V->Value->Prop where
 |aA:iO K H .aA (.type "NoneType")
 |bl (x:Bool):iO K H (.bl x) (.type "bool")
 |int (i:Int):iO K H (.int i) (.type "int")
 |str (x:Str):iO K H (.str x) (.type "str")
 |qF (x:UInt64):iO K H (.qF x) (.type "float")
 |lst {a:Addr}{xs:List V}(e:H a=some (.lst xs)):iO K H (.ref a) (.type "list")
 |dJ {a:Addr}{o:Obj}{xs:List V}(e:H a=some (.dJ o (.lst xs))):iO K H (.ref a) (.type "list")
 |tup {a:Addr}{xs:List V}(e:H a=some (.tup xs)):iO K H (.ref a) (.type "tuple")
 |dK {a:Addr}{kvs:List (Key×V)}(e:H a=some (.dK kvs)):iO K H (.ref a) (.type "dict")
 |dT {a:Addr}{kvs:List (List Key×V)}(e:H a=some (.dT kvs)):iO K H (.ref a) (.type "dict")
 |ins {a C dx:Addr}{fs:List (Str×V)}(e:H a=some (.ins C dx fs)) (cl:cI K C) (ha:PySem.W.findIn K (.ref C) "__class__"=some (some (.builtin "object.__class__")))
   (hn:PySem.W.specialIn K (.builtin "object.__class__") "__get__"=some (some (.builtin "getset_descriptor.__get__"))) (gj:PySem.W.takesIn K (.builtin "object.__class__")=some true)
   (hm:PySem.W.mroIn K C (.type "object")=some true):iO K H (.ref a) (.ref C)
theorem TN{x:V}{u t:Value}(I:Inv X pins σ H s)(rx:RelV x u)(ty:iO X.K H x t)(e:PySem.W.kitOne X.K t c=some b)(h:∀tk,Q (.bool b) { s with toks:=tk }) :
  wpAny (model X.prog X.w) A (call (.builtin "isinstance") [u,c]) Q E s:=by
 cases ty with
 |aA=>cases(show u=Value.none from rx);exact mJ PySem.W.kitx_none I.cU True.intro e (λz=>nomatch z) h
 |bl y=>cases(show u=Value.bool y from rx);exact mJ PySem.W.kitx_bool I.cU True.intro e (λz=>nomatch z) h
 |int i=>obtain⟨t,q⟩:=(show ∃t,u=Value.int i t from rx);cases q;exact mJ PySem.W.kitx_int I.cU True.intro e (λz=>nomatch z) h
 |str y=>obtain⟨t,q⟩:=(show ∃t,u=Value.str y t from rx);cases q;exact mJ PySem.W.kitx_str I.cU True.intro e (λz=>nomatch z) h
 |qF y=>obtain⟨t,q⟩:=(show ∃t,u=Value.float y t from rx);cases q;exact mJ PySem.W.kitx_float I.cU True.intro e (λz=>nomatch z) h
 |@lst a xs ea=>
  cases(show u=Value.ref a from rx)
  obtain⟨_,_,n,_,h1⟩:=(show cS X.prog X.w H s.heap a (.lst xs) from I.aC a _ ea)
  exact mJ PySem.W.kitx_list I.cU ⟨_,h1,rfl⟩ e (λz=>nomatch z) h
 |@dJ a ob xs ea=>
  cases(show u=Value.ref a from rx)
  obtain⟨_,_,_,n,_,h1⟩:=(show cS X.prog X.w H s.heap a (.dJ ob (.lst xs)) from I.aC a _ ea)
  exact mJ PySem.W.kitx_list I.cU ⟨_,h1,rfl⟩ e (λz=>nomatch z) h
 |@tup a xs ea=>
  cases(show u=Value.ref a from rx)
  obtain⟨_,_,_,p⟩:=(show cS X.prog X.w H s.heap a (.tup xs) from I.aC a _ ea)
  obtain⟨o,h1,h2,_⟩:=p
  exact mJ PySem.W.kitx_tuple I.cU ⟨o,h1,h2⟩ e (λz=>nomatch z) h
 |@dK a kvs ea=>
  cases(show u=Value.ref a from rx)
  obtain⟨_,_,vs,_,p⟩:=(show cS X.prog X.w H s.heap a (.dK kvs) from I.aC a _ ea)
  obtain⟨o,es,ep,h1,h2,_⟩:=p
  exact mJ PySem.W.kitx_dict I.cU ⟨o,h1,h2.1⟩ e (λz=>nomatch z) h
 |@dT a kvs ea=>
  cases(show u=Value.ref a from rx)
  obtain⟨_,_,xs,_,o,es,ep,h1,h2,_⟩:=(show cS X.prog X.w H s.heap a (.dT kvs) from I.aC a _ ea)
  exact mJ PySem.W.kitx_dict I.cU ⟨o,h1,h2.1⟩ e (λz=>nomatch z) h
 |@ins a C dx fs ea cl ha hn gj hm=>
  cases(show u=Value.ref a from rx)
  obtain⟨mA,O,_⟩:=vY I.aC ea
  obtain⟨od,J,_⟩:=O.look
  exact mJ (PySem.W.kitx_own (cl.get _) cl.hd ha hn gj hm) I.cU J e (λz=>nomatch z) h
end
structure b7(k:Nat)(A:Around):Prop where
 hd:A.handled=none
 dp:A.depth+3*k+5<recursionLimit
 un:A.units+16*k+200<cLine
 gd:A.guards=some []
theorem b7.mono{j k:Nat}{A:Around}(r:b7 k A)(h:j<=k):b7 j A:=⟨r.hd,by have:=r.dp;omega,by have:=r.un;omega,r.gd⟩
theorem b7.deeper{k:Nat}{A:Around}(r:b7 (k+1) A)(env:Env):b7 k (A.deeper env):=
 ⟨r.hd,by have:=r.dp;show A.depth+1+3*k+5<_;omega,by have:=r.un;show A.units+3+16*k+200<_;omega,r.gd⟩
theorem b7.in1{k:Nat}{A:Around}(r:b7 (k+1) A):b7 k A.in1:=
 ⟨r.hd,by have:=r.dp;show A.depth+3*k+5<_;omega,by have:=r.un;show A.units+1+16*k+200<_;omega,r.gd⟩
theorem TQ{A:Around}{C:Addr}{us:List Value}{kw:List (Str×Value)}:(A.under (.builtin "type.__call__" ⟨.ref C::us,kw⟩)).depth=A.depth+1:=by
 first | rfl | simp[Around.under,Code.weight,Code.isCreation,Code.isGuard,Code.isCaller,Code.frames,Code.isFrame,guardIds]
theorem TR{A:Around}{C:Addr}{us:List Value}{kw:List (Str×Value)}:(A.under (.builtin "type.__call__" ⟨.ref C::us,kw⟩)).units=A.units+1:=by
 first | rfl | simp[Around.under,Code.cUnits,Code.frames,Code.isFrame]
theorem b7.make{k:Nat}{A:Around}(r:b7 (k+1) A)(C:Addr)(us:List Value)(kw:List (Str×Value)):b7 k (A.under (.builtin "type.__call__" ⟨.ref C::us,kw⟩)):=
 ⟨r.hd,by have:=r.dp;rw[TQ];omega,by have:=r.un;rw[TR];omega,r.gd⟩
theorem b7.depth{k:Nat}{A:Around}(r:b7 k A):A.depth<recursionLimit:=by have:=r.dp;omega
theorem b7.units{k:Nat}{A:Around}(r:b7 k A):A.units+64<cLine:=by have:=r.un;omega
def lK:TA:=λ_ H Q=>Q [] H
def o8(ta:TE)(tr:TA):TA:=λσ H Q=>ta σ H λx H1=>tr σ H1 λxs H2=>Q (x::xs) H2
section
variable{X:Cx}{e:Expr}{es:List Expr}{te:TE}{t:TA}{pos:Pos}
theorem ai:PA X [] lK:=λ_ _ _ _ H Q I h=>Jn ⟨[],H,I,.nil,h⟩
theorem ab(ha:PE X e te)(hr:PA X es t)(hs:starEach (e::es) X.env=(false,eval e X.env)::starEach es X.env:=by rfl):PA X (e::es) (o8 te t):=by
 intro pos pins s σ H Q I h
 rw[hs]
 show wpAny _ _ (spliced ((false,eval e X.env)::backTo pos (starEach es X.env))) _ _ s
 refine yx (aB (ha pins s σ H _ I h) λu s1 ⟨x,H1,I1,r1,q1⟩=>?_)
 exact aB (hr pos pins s1 σ H1 _ I1 q1) λus s2 ⟨xs,H2,I2,r2,q2⟩=>⟨x::xs,H2,I2,.cons r1 r2,q2⟩
def Dr(t:TA):TE:=λσ H Q=>t σ H λxs H1=>xs.length<=sizeLine/\∀p,H1 p=none->Q (.ref p) (upd H1 p (.tup xs))
def Kx(t:TA):TE:=λσ H Q=>t σ H λxs H1=>xs.length<=sizeLine/\∀p,H1 p=none->Q (.ref p) (upd H1 p (.lst xs))
theorem fB{x1}(h:PA X es t):PE X (.Tuple es x1 pos) (Dr t):=by
 intro pins s σ H Q I hq
 refine wpAny_Tuple_spliced (aB (h pos pins s σ H _ I hq) λus s1 ⟨xs,H1,I1,r,z,q⟩=>⟨by rw[<-r.length];exact z,?_⟩)
 have hf:H1 s1.heap.objs.size=none:=I1.aC.fresh (aQ _)
 refine⟨.ref s1.heap.objs.size,upd H1 s1.heap.objs.size (.tup xs),I1.laid (t':=s1.toks) (λb u e=>bw _ e) (aQ _) ?_,rfl,q _ hf⟩
 exact⟨z,us,r,⟨_,cw _ rfl,rfl,_,rfl⟩⟩
theorem dX(h:PA X es t):PE X (.List es pos) (Kx t):=by
 intro pins s σ H Q I hq
 refine wpAny_List_spliced (aB (h pos pins s σ H _ I hq) λus s1 ⟨xs,H1,I1,r,z,q⟩=>⟨by rw[<-r.length];exact z,?_⟩)
 have hf:H1 s1.heap.objs.size=none:=I1.aC.fresh (aQ _)
 refine⟨.ref s1.heap.objs.size,upd H1 s1.heap.objs.size (.lst xs),I1.laid (t':=s1.toks) (λb u e=>bw _ e) (aQ _) ?_,rfl,q _ hf⟩
 exact⟨z,us,0,r,cw _ rfl⟩
end
abbrev Sp:=List V->Hp->VK->XK->Prop
abbrev kE:=List Env->Hp->Shared->XK->Value->Shared->Prop
structure kF(P:Program)(w:World)(K:PySem.W.Frag)(mg:Str->Option Value)(base:Heap)(A:Around)(outer:List Env)(s:Shared)(H:Hp):Prop where
 frames:A.frames=some outer
 mod:Mod K mg base
 bs:∀b o,base.get? b=some o->s.heap.get? b=some o/\H b=none
 mT:base.objs.size<=s.heap.objs.size
 je:s.heap.FunFrames base outer
 oN:∀b∈jN outer,H b=none
 aC:da P w H s.heap
 bare:AllBare s.gens
def CE(outer:List Env)(P:Program)(w:World)(H:Hp)(s:Shared)(Q:VK)(u:Value)(s':Shared):Prop:=
 ∃v H',s'.os=s.os/\AllBare s'.gens/\Un (jN outer) [] H H' s.heap s'.heap/\da P w H' s'.heap/\RelV v u/\Q v H'
def CR(CX:kE)(outer:List Env)(P:Program)(w:World)(H:Hp)(s:Shared)(Q:VK)(E:XK)(r:Result)(s':Shared):Prop:=
 match r with
 |.ok (.ret u)=>CE outer P w H s Q u s'
 |.ok _=>False
 |.error e=>CX outer H s E e s'
structure aM(P:Program)(w:World)(K:PySem.W.Frag)(mg:Str->Option Value)(base:Heap)(CX:kE)(k:Nat)(f:Addr)(fd:FuncData)(ps:List Str)(sp:Sp):Prop where
 len:∀vs H Q E,sp vs H Q E->vs.length=ps.length
 run:∀(A:Around) (outer:List Env) (s:Shared) (H:Hp) (args:Args) (us:List Value) (vs:List V) (Q:VK) (E:XK),b7 k A->kF P w K mg base A outer s H->BindsTo s fd args (ps.zip us)->Vals vs us->sp vs H Q E->
  codeAny (model P w) A (.call (.ref f) args) (CR CX outer P w H s Q E) s
theorem kF.make{P:Program}{w:World}{K:PySem.W.Frag}{mg:Str->Option Value}{base:Heap}{A:Around}{outer:List Env}{s:Shared}{H:Hp}(e:kF P w K mg base A outer s H)(C:Addr)(us:List Value)(kw:List (Str×Value)) :
  kF P w K mg base (A.under (.builtin "type.__call__" ⟨.ref C::us,kw⟩)) outer s H:=⟨by first | exact e.frames | (simpa[Around.under,Code.envs,Code.isFrame,pushEnvs] using e.frames),e.mod,e.bs,e.mT,e.je,e.oN,e.aC,e.bare⟩
theorem kF.in1{P:Program}{w:World}{K:PySem.W.Frag}{mg:Str->Option Value}{base:Heap}{A:Around}{outer:List Env}{s:Shared}{H:Hp}(e:kF P w K mg base A outer s H) :
  kF P w K mg base A.in1 outer s H:=⟨e.frames,e.mod,e.bs,e.mT,e.je,e.oN,e.aC,e.bare⟩
section
variable{X:Cx}{pins:List (Addr×Obj)}{σ:St}{H:Hp}{s s':Shared}
theorem Inv.Ds(I:Inv X pins σ H s):kF X.prog X.w X.K X.mg X.base X.A X.stack s H:=
 ⟨I.ok.frames,I.ok.mod,I.bs,bA I.ok.mT I.sz,I.stack,I.JY,I.aC,I.bare⟩
theorem Inv.after{Q:VK}{u:Value}(I:Inv X pins σ H s)(h:CE X.stack X.prog X.w H s Q u s'):EP X pins σ Q u s':=by
 obtain⟨v,H',os,bare,un,aC,r,q⟩:=h
 obtain⟨hh,g,d,t,TV⟩:=s'
 obtain rfl:TV=s.os:=os
 exact⟨v,H',I.call (h':=hh) (g':=g) (d':=d) (t':=t) (ch:=[]) un aC bare (λb z=>absurd z (by simp)),r,q⟩
end
def Ky(sp:Sp)(cX:List V)(E:XK)(t:TA):TE:=λσ H Q=>t σ H λvs H1=>sp (vs++cX) H1 Q E
def zg(C:Addr)(m:Str)(sp:Sp)(cX:List V)(E:XK)(ta:TE)(t:TA):TE:=λσ H Q=>ta σ H λx H1=>∃a dx fs,x = .ref a/\H1 a=some (.ins C dx fs)/\fs.lookup m=none/\
 t σ H1 λvs H2=>sp (x::(vs++cX)) H2 Q E
def zh(C:Addr)(sp:Sp)(cX:List V)(E:XK)(t:TA):TE:=λσ H Q=>t σ H λvs H1=>∀x dx,H1 x=none->H1 dx=none->dx≠x->
 sp (.ref x::(vs++cX)) (upd (upd H1 dx (.own x)) x (.ins C dx [])) (λv H2=>v = .aA/\Q (.ref x) H2) E
def Binds(K:PySem.W.Frag)(fd:FuncData)(ps:List Str)(ds:List Value):Prop:=
 ∀(s:Shared) (us:List Value),K.In s.heap->(us++ds).length=ps.length->BindsTo s fd ⟨us,[]⟩ (ps.zip (us++ds))
theorem Binds.all{K:PySem.W.Frag}{fd:FuncData}{ps:List Str}(h:∀us:List Value,us.length=ps.length->bindArgs fd ⟨us,[]⟩=pure (ps.zip us)):Binds K fd ps []:=λs us _ hl=>by
 rw[fX] at hl ⊢
 exact .of_eq (h us hl)
def Passes(CX:kE)(X:Cx)(E:XK):Prop := ∀(pins:List (Addr×Obj)) (σ:St) (H:Hp) (s:Shared) (e:Value) (s':Shared),Inv X pins σ H s->CX X.stack H s E e s'->X.xe e s'
section
variable{X:Cx}{CX:kE}{k:Nat}{f C:Addr}{fd:FuncData}{ps:List Str}{sp:Sp}{cX:List V}{ds:List Value}{E:XK}{x m:Str}{p pos apos:Pos}{e o:Expr}{es:List Expr}{ta:TE}{t:TA}
theorem Dt{pins:List (Addr×Obj)}{σ:St}{H:Hp}{s:Shared}{Q:VK}{us:List Value}{vs:List V}(F:aM X.prog X.w X.K X.mg X.base CX k f fd ps sp)(hr:b7 k X.A)(hb:Binds X.K fd ps ds)(hd:Vals cX ds)(hx:Passes CX X E)
  (I:Inv X pins σ H s) (r:Vals vs us) (h:sp (vs++cX) H Q E):wpAny (model X.prog X.w) X.A (call (.ref f) us) (EP X pins σ Q) X.xe s:=by
 have r2:Vals (vs++cX) (us++ds):=r.append hd
 have hl:(us++ds).length=ps.length:=by rw[<-r2.length];exact F.len _ _ _ _ h
 refine yz (vx (F.run X.A X.stack s H ⟨us,[]⟩ (us++ds) (vs++cX) Q E hr I.Ds (hb s us I.cU hl) r2 h) λr s' hq=>?_)
 cases r with
 |error e=>exact hx pins σ H s e s' I hq
 |ok fl=>
  cases fl with
  |ret u=>exact I.after hq
  |next=>exact False.elim hq
  |brk=>exact False.elim hq
  |cont=>exact False.elim hq
theorem TX(F:aM X.prog X.w X.K X.mg X.base CX k f fd ps sp)(hr:b7 k X.A)(hg:Gl X x)(hm:X.mg x=some (.ref f))(hk:PySem.W.keepIn X.K (.ref f)=true)(hb:Binds X.K fd ps ds)(hd:Vals cX ds)(hx:Passes CX X E)
  (ha:PA X (e::es) t) (gk:(x==("__debug__":Str))=false:=by decide) (he:starEach (e::es) X.env=(false,eval e X.env)::starEach es X.env:=by rfl) (hpl:(backTo pos (starEach es X.env)).any (·.1)=false:=by rfl) :
  PE X (.Call (.Name x p) (e::es) [] pos) (Ky sp cX E t):=by
 intro pins s σ H Q I h
 refine vy (vQ I hg hm ?_ gk)
 refine PySem.W.callWith_K (h₀:=X.base) I.ok.mod.qH hk (aB (ha pos pins s σ H _ I h) λus s1 ⟨vs,H1,I1,r,q⟩=>⟨I1.cU,?_⟩) he hpl
 exact Dt F hr hb hd hx I1 r q
theorem TY{pl:Sem Bool}(he:PE X o ta)(c:cI X.K C)(hm:Meth X.K C m f)(F:aM X.prog X.w X.K X.mg X.base CX k f fd ps sp)(hr:b7 k X.A)(hb:Binds X.K fd ps ds)(hd:Vals cX ds)(hx:Passes CX X E)(ha:PA X (e::es) t)
  (dy:starEach (e::es) X.env=(false,eval e X.env)::starEach es X.env:=by rfl) (hpl:(backTo pos (starEach es X.env)).any (·.1)=false:=by rfl)
  (ht:eval (.Call (.Attribute o m apos) (e::es) [] pos) X.env=(do
   let ov<-eval o X.env
   standAt apos.atName
   let (f,first)<-holding [ov] (getMethod ov m pl)
   callWith pos f first (backTo pos (starEach (e::es) X.env)) (backToKw pos (keywordEach [] X.env))):=by rfl) :
  PE X (.Call (.Attribute o m apos) (e::es) [] pos) (zg C m sp cX E ta t):=by
 intro pins s σ H Q I h
 refine PySem.W.methodCall_KW (pl:=pl) (aB (he pins s σ H _ I h) λu s1 ⟨x,H1,I1,rx,a,dx,fs,ex,ea,l,q⟩=>?_) ht
 subst ex
 obtain rfl:u=Value.ref a:=rx
 refine Kv I1 ea c hm l ?_
 refine PySem.W.callWith_K (first:=[.ref a]) (h₀:=X.base) I.ok.mod.qH hm.kp (aB (ha pos pins s1 σ H1 _ I1 q) λus s2 ⟨vs,H2,I2,r,q2⟩=>⟨I2.cU,?_⟩) dy hpl
 exact Dt (us := .ref a::us) (vs := .ref a::vs) F hr hb hd hx I2 (.cons rfl r) q2
theorem TZ{pl:Sem Bool}(he:PE X o ta)(c:cI X.K C)(hm:Meth X.K C m f)(F:aM X.prog X.w X.K X.mg X.base CX k f fd ps sp)(hr:b7 k X.A)(hb:Binds X.K fd ps ds)(hd:Vals cX ds)(hx:Passes CX X E)
  (ht:eval (.Call (.Attribute o m apos) [] [] pos) X.env=(do
   let ov<-eval o X.env
   standAt apos.atName
   let (f,first)<-holding [ov] (getMethod ov m pl)
   callWith pos f first (backTo pos (starEach [] X.env)) (backToKw pos (keywordEach [] X.env))):=by rfl) :
  PE X (.Call (.Attribute o m apos) [] [] pos) (zg C m sp cX E ta lK):=by
 intro pins s σ H Q I h
 refine PySem.W.methodCall_KW (pl:=pl) (aB (he pins s σ H _ I h) λu s1 ⟨x,H1,I1,rx,a,dx,fs,ex,ea,l,q⟩=>?_) ht
 subst ex
 obtain rfl:u=Value.ref a:=rx
 refine Kv I1 ea c hm l ?_
 exact PySem.W.callWith_K0 (first:=[.ref a]) I1.cU hm.kp (Dt (us:=[.ref a]) (vs:=[.ref a]) F hr hb hd hx I1 (.cons rfl .nil) q)
structure Mk(K:PySem.W.Frag)(C f:Addr):Prop where
 makes:PySem.W.makesIn K C=true
 init:PySem.W.findIn K (.ref C) "__init__"=some (some (.ref f))
 fn:PySem.W.isFn K (.ref f)=true
 kp:PySem.W.keepIn K (.ref C)=true
theorem Kz{pins:List (Addr×Obj)}{σ:St}{H:Hp}{s:Shared}{Q:VK}{us:List Value}{vs:List V}(M:Mk X.K C f)(F:aM X.prog X.w X.K X.mg X.base CX k f fd ps sp)(hr:b7 (k+1) X.A)(hb:Binds X.K fd ps ds)(hd:Vals cX ds)
  (hx:Passes CX X E) (I:Inv X pins σ H s) (r:Vals vs us)
  (h:∀x dx,H x=none->H dx=none->dx≠x->sp (.ref x::(vs++cX)) (upd (upd H dx (.own x)) x (.ins C dx [])) (λv H2=>v = .aA/\Q (.ref x) H2) E) :
  wpAny (model X.prog X.w) X.A (call (.ref C) us) (EP X pins σ Q) X.xe s:=by
 have hq:=h (s.heap.objs.size+1) s.heap.objs.size (I.aC.fresh (gC _)) (I.aC.fresh (aQ _)) (bU (qx _))
 have I2:=Inv.made (C:=C) I
 have r2:Vals (V.ref (s.heap.objs.size+1)::(vs++cX)) (Value.ref (s.heap.objs.size+1)::(us++ds)) := .cons rfl (r.append hd)
 have hl:(Value.ref (s.heap.objs.size+1)::us++ds).length=ps.length:=by
  have e:=r2.length
  rw[F.len _ _ _ _ hq] at e
  exact e.symm
 refine yz (Tz (f:=f) I.cU M.makes M.init (mI.mp M.fn) (vx (F.run _ X.stack _ _ ⟨Value.ref (s.heap.objs.size+1)::us,[]⟩ (Value.ref (s.heap.objs.size+1)::(us++ds)) _ _ E (hr.make C us [])
  (I2.Ds.make C us []) (hb _ (Value.ref (s.heap.objs.size+1)::us) I2.cU hl) r2 hq) λr s' jh=>?_))
 cases r with
 |error e=>exact hx pins σ _ _ e s' I2 jh
 |ok fl=>
  cases fl with
  |ret u=>
   obtain⟨v,H',I3,rv,ev,q3⟩:=I2.after jh
   subst ev
   exact⟨rv,⟨V.ref (s.heap.objs.size+1),H',I3,rfl,q3⟩⟩
  |next=>exact False.elim jh
  |brk=>exact False.elim jh
  |cont=>exact False.elim jh
theorem T8(M:Mk X.K C f)(F:aM X.prog X.w X.K X.mg X.base CX k f fd ps sp)(hr:b7 (k+1) X.A)(hg:Gl X x)(hm:X.mg x=some (.ref C))(hb:Binds X.K fd ps ds)(hd:Vals cX ds)(hx:Passes CX X E)
  (ha:PA X (e::es) t) (gk:(x==("__debug__":Str))=false:=by decide) (he:starEach (e::es) X.env=(false,eval e X.env)::starEach es X.env:=by rfl) (hpl:(backTo pos (starEach es X.env)).any (·.1)=false:=by rfl) :
  PE X (.Call (.Name x p) (e::es) [] pos) (zh C sp cX E t):=by
 intro pins s σ H Q I h
 refine vy (vQ I hg hm ?_ gk)
 refine PySem.W.callWith_K (h₀:=X.base) I.ok.mod.qH M.kp (aB (ha pos pins s σ H _ I h) λus s1 ⟨vs,H1,I1,r,q⟩=>⟨I1.cU,?_⟩) he hpl
 exact Kz M F hr hb hd hx I1 r q
theorem T9(M:Mk X.K C f)(F:aM X.prog X.w X.K X.mg X.base CX k f fd ps sp)(hr:b7 (k+1) X.A)(hg:Gl X x)(hm:X.mg x=some (.ref C))(hb:Binds X.K fd ps ds)(hd:Vals cX ds)(hx:Passes CX X E)
  (gk:(x==("__debug__":Str))=false:=by decide):PE X (.Call (.Name x p) [] [] pos) (zh C sp cX E lK):=by
 intro pins s σ H Q I h
 refine vy (vQ I hg hm ?_ gk)
 exact PySem.W.callWith_K0 I.cU M.kp (Kz (us:=[]) M F hr hb hd hx I .nil h)
end
section
variable{X:Cx}{CX:kE}{k:Nat}{f C:Addr}{fd:FuncData}{ps ks:List Str}{sp:Sp}{E:XK}{x m:Str}{p pos apos agb:Pos}{e o:Expr}{es:List Expr}{kws:List Keyword}{te ta:TE}{t tk:TA}{nm:Option Str}
structure agc(K:PySem.W.Frag)(fd:FuncData)(ps ks:List Str)(g:List Value->List Value->List Value)(gV:List V->List V->List V):Prop where
 to:∀(s:Shared) (us ws:List Value),K.In s.heap->(g us ws).length=ps.length->BindsTo s fd ⟨us,ks.zip ws⟩ (ps.zip (g us ws))
 rel:∀{vs:List V}{us:List Value}{zs:List V}{ws:List Value},Vals vs us->Vals zs ws->Vals (gV vs zs) (g us ws)
variable{g:List Value->List Value->List Value}{gV:List V->List V->List V}
end
structure bc(N P:List Str)(sc:Scope):Prop where
 kind:sc.kind = .function:=by first | rfl | decide +kernel
 co:sc.isCoroutine=false:=by first | rfl | decide +kernel
 gen:sc.isGenerator=false:=by first | rfl | decide +kernel
 nd:N.Nodup:=by first | rfl | decide +kernel
 pre:N.take P.length=P:=by first | rfl | decide +kernel
 par:∀x∈P,sc.names.lookup x=some .local\/sc.names.lookup x=some .cell:=by first | rfl | decide +kernel
 Ua:∀y∈sc.names,y.2 ≠ .free:=by first | rfl | decide +kernel
theorem KA{kindOf:Str->Option NameKind}{x:Str}:∀{binds:List (Str×Value)}{m:Str->Option Value},(∀v,(x,v)∉binds)->bindL kindOf binds m x=m x
 |[],_,_=>rfl
 |(n,v)::r,m,h=>by
  unfold bindL
  rw[KA λw hw=>h w (bF _ hw)]
  split
  .have:x≠n:=by rintro rfl;exact h v bh
   simp[this]
  .rfl
theorem KC{kindOf:Str->Option NameKind}{x:Str}:∀{binds:List (Str×Value)}{m:Str->Option Value},(∀v,(x,v)∉binds)->bindC kindOf binds m x=m x
 |[],_,_=>rfl
 |(n,v)::r,m,h=>by
  unfold bindC
  rw[KC λw hw=>h w (bF _ hw)]
  split
  .rfl
  .have:x≠n:=by rintro rfl;exact h v bh
   simp[this]
theorem KD{kindOf:Str->Option NameKind}{x:Str}{v:Value}:∀{P:List Str}{vs:List Value}{i:Nat}{m:Str->Option Value},P.Nodup->P[i]? = some x->vs[i]? = some v->kindOf x=some .local->
  bindL kindOf (P.zip vs) m x=some v
 |[],_,_,_,_,h,_,_=>by simp at h
 |_::_,[],_,_,_,_,h,_=>by simp at h
 |p::P,w::vs,0,m,nd,h1,h2,hk=>by
  simp at h1 h2;subst h1;subst h2
  show bindL kindOf ((p,w)::P.zip vs) m p=_
  unfold bindL
  rw[KA λv hv=>(fq.mp nd).1 (List.of_mem_zip hv).1,ax hk]
  simp
 |p::P,w::vs,i+1,m,nd,h1,h2,hk=>by
  show bindL kindOf ((p,w)::P.zip vs) m x=_
  unfold bindL
  exact KD (i:=i) (fq.mp nd).2 (by simpa using h1) (by simpa using h2) hk
theorem KG{kindOf:Str->Option NameKind}{x:Str}{v:Value}:∀{P:List Str}{vs:List Value}{i:Nat}{m:Str->Option Value},P.Nodup->P[i]? = some x->vs[i]? = some v->kindOf x≠some .local->
  bindC kindOf (P.zip vs) m x=some v
 |[],_,_,_,_,h,_,_=>by simp at h
 |_::_,[],_,_,_,_,h,_=>by simp at h
 |p::P,w::vs,0,m,nd,h1,h2,hk=>by
  simp at h1 h2;subst h1;subst h2
  show bindC kindOf ((p,w)::P.zip vs) m p=_
  unfold bindC
  rw[KC λv hv=>(fq.mp nd).1 (List.of_mem_zip hv).1,aq hk]
  simp
 |p::P,w::vs,i+1,m,nd,h1,h2,hk=>by
  show bindC kindOf ((p,w)::P.zip vs) m x=_
  unfold bindC
  exact KG (i:=i) (fq.mp nd).2 (by simpa using h1) (by simpa using h2) hk
noncomputable def start(N:List Str)(vs:List V):St:=vs.map some++List.replicate (N.length - vs.length) none
noncomputable def mZ(CX:kE)(P:Program)(w:World)(K:PySem.W.Frag)(mg:Str->Option Value)(base:Heap)(N:List Str)(qual:Str)(scope:Scope)(f:Addr)(cd:Value)(A:Around)(outer:List Env)(s:Shared)(H:Hp)(E:XK):Cx where
 prog:=P
 w:=w
 K:=K
 mg:=mg
 base:=base
 A:=A.deeper (envOfC qual scope s.heap.objs.size f cd)
 N:=N
 s₀:=s
 H₀:=H
 env:=envOfC qual scope s.heap.objs.size f cd
 outer:=outer
 stack:=envOfC qual scope s.heap.objs.size f cd::outer
 ex:=[]
 calm:=true
 fn:=λ_=>true
 pn:=[]
 xe:=λe s'=>wpAny (model P w) (A.deeper (envOfC qual scope s.heap.objs.size f cd)) (leaving (envOfC qual scope s.heap.objs.size f cd) e) (λ_ Du=>CX outer H s E e Du) (λe' Du=>CX outer H s E e' Du) s'
theorem KH{sc:Scope}{n:Nat}{x:Str}(h:sc.names.lookup x=some .cell):∃c,(cellsFrom n sc.names []).lookup x=some c:=by
 have q:=PySem.W.cellsFrom_some sc.names n [] (.inl h)
 exact Option.isSome_iff_exists.mp q
theorem Ub{CX:kE}{P:Program}{w:World}{K:PySem.W.Frag}{mg:Str->Option Value}{base:Heap}{N ps:List Str}{qual:Str}{scope:Scope}{f:Addr}{cd:Value}{A:Around}{outer:List Env}{s s1:Shared}{H:Hp}{E:XK}{us:List Value}{vs:List V}
  (S:bc N ps scope) (hd:A.handled=none) (e0:kF P w K mg base A outer s H) (hl:vs.length=ps.length) (r:Vals vs us)
  (x:InCallC s s.heap.objs.size (bindL (envOfC qual scope s.heap.objs.size f cd).kindOf (ps.zip us) λ_=>none) (cellsFrom (s.heap.objs.size+1) scope.names []) (bindC (envOfC qual scope s.heap.objs.size f cd).kindOf (ps.zip us) λ_=>none) s1) :
  Inv (mZ CX P w K mg base N qual scope f cd A outer s H E) [] (start N vs) H s1:=by
 have hpl:ps.length<=N.length:=by have:=dU List.length S.pre;rw[jF] at this;omega
 obtain⟨h1,tk,rfl,hk⟩:=x.done
 have vZ:∀b:Addr,b∉(mZ CX P w K mg base N qual scope f cd A outer s H E).ex:=λb z=>absurd (show b∈([]:List Addr) from z) (by simp)
 refine⟨⟨e0.mod,S.kind,rfl,rfl,aQ _,λy z c h1 h2=>?_,λy hy=>?_,λy c _ h=>?_,λ_=>hd,Around.frames_deeper e0.frames,.inr ⟨rfl,rfl⟩,λb z=>absurd z (vZ b),e0.bs,e0.mT,λb _ _=>vZ b,λb z=>absurd z (vZ b),e0.je,e0.oN⟩,
  rfl,e0.bare,Un.kept hk,⟨_,x.toInCall.ns,λi y v h1 h2 h3=>?_⟩,λy c h=>⟨_,x.cell y c h⟩,e0.aC.fresh (aQ _),λy c h=>?_,λp hp=>absurd (show p∈([]:List (Addr×Obj)) from hp) (by simp),e0.aC.kept hk,?_⟩
 .exact name_of_addr x.apart (CF h1) (CF h2)
 .have hy:scope.names.lookup y=some .cell\/scope.names.lookup y=some .free:=hy
  rcases hy with hy | hy
  .exact KH hy
  .exact absurd rfl (S.Ua _ (CF hy))
 .exact yr (x.above y c (CF h))
 .have hi:i<vs.length:=by
   unfold start at h2
   by_cases hi:i<vs.length
   .exact hi
   .rw[yA (by simpa using hi)] at h2
    rw[RQ] at h2
    split at h2 <;> cases h2
  have ha:vs[i]? = some v:=by
   unfold start at h2
   rw[Jo (by simpa using hi),bb] at h2
   cases e:vs[i]? with
   |none=>rw[e] at h2;cases h2
   |some a=>rw[e] at h2;cases h2;rfl
  obtain⟨u,hu,rv⟩:=r.get ha
  have hp:ps[i]? = some y:=by
   rw[<-S.pre,CH (by omega)];exact h1
  have KI:ps.Nodup:=by rw[<-S.pre];exact S.nd.sublist (CJ _ _)
  refine⟨u,rv,?_⟩
  rcases S.par y (bo hp) with k | k
  .exact .inl ⟨k,KD KI hp hu k⟩
  .obtain⟨c,e⟩:=KH (n:=s.heap.objs.size+1) k
   refine .inr ⟨.inl k,c,e,?_⟩
   have q:=x.cell y c e
   rw[KG KI hp hu (by show scope.names.lookup y≠_;rw[k];decide)] at q
   exact q
 .exact e0.aC.fresh (yr (x.above y c (CF h)))
 .unfold start
  show _=N.length
  rw[cQ,ar,sL]
  omega
theorem zj{CX:kE}{P:Program}{w:World}{K:PySem.W.Frag}{mg:Str->Option Value}{base:Heap}{k:Nat}{f:Addr}{name qual:Str}{params:Arguments}{body:List Stmt}{scope:Scope}{dV kV doc pm aH ct oc:Value}{an od:Option Addr}
  {jQ:Array (Option Value)}{N ps:List Str}{sp:Sp}(lk:K.lookup f=some ⟨oc,od,.func (PySem.W.fnOf name qual params body scope dV kV doc pm an aH ct),jQ⟩) (iM:PySem.W.codeIn K aH qual=true) (S:bc N ps scope)
  (len:∀vs H Q E,sp vs H Q E->vs.length=ps.length)
  (m5:∀(A:Around) (outer:List Env) (s:Shared) (H:Hp) (vs:List V) (Q:VK) (E:XK),b7 k (A.deeper (envOfC qual scope s.heap.objs.size f aH))->sp vs H Q E->
   ∃t,gc (mZ CX P w K mg base N qual scope f aH A outer s H E) body t/\t { nx:=λ_ H'=>Q .aA H',rt:=Q } (start N vs) H) :
  aM P w K mg base CX (k+1) f (PySem.W.fnOf name qual params body scope dV kV doc pm an aH ct) ps sp:=by
 refine⟨len,λA outer s H args us vs Q E hr e0 hb r lL=>?_⟩
 have hl:=len _ _ _ _ lL
 have KX:K.In s.heap:=e0.mod.qH.keeps λb o e=>(e0.bs b o e).1
 have lim:s.heap.NoLimit:=e0.mod.nolimit.keeps λb o e=>(e0.bs b o e).1
 have Uc:∀y∈ps.zip us,scope.names.lookup y.1=some .local\/(scope.names.lookup y.1=some .cell/\((cellsFrom (s.heap.objs.size+1) scope.names []).lookup y.1).isSome=true):=λ⟨n,v⟩ hy=>by
  rcases S.par n (List.of_mem_zip hy).1 with q | q
  .exact .inl q
  .exact .inr ⟨q,PySem.W.cellsFrom_some _ _ _ (.inl q)⟩
 refine codeAny_call_function hr.depth (KX _ _ lk) rfl S.co S.gen rfl (PySem.W.codeRec_of KX iM) (hb _ _ _ _ ?_)
 refine wpAny_newFunctionEnv_cells S.kind Uc λenv he s1 x=>?_
 subst he
 refine⟨lim.keeps x.toInCall.keep,codeAny_func ?_⟩
 obtain⟨t,ht,hq⟩:=m5 A outer s H vs Q E (hr.deeper _) lL
 have I:Inv (mZ CX P w K mg base N qual scope f aH A outer s H E) [] (start N vs) H s1:=Ub S hr.hd e0 hl r x
 refine jE (ht [] s1 (start N vs) H _ I hq) (λfl s' hs=>?_) λe s' hs=>hs
 have fin:∀{σ':St}{H':Hp}{v:V}{u:Value},Inv (mZ CX P w K mg base N qual scope f aH A outer s H E) [] σ' H' s'->RelV v u->Q v H'->CE outer P w H s Q u s':=
  λ{σ' H' v u} J rv q=>⟨v,H',J.os,J.bare,J.base,J.aC,rv,q⟩
 cases fl with
 |ret u=>
  obtain⟨v,σ',H',J,rv,q⟩:=hs
  exact fin J rv q
 |next=>
  obtain⟨σ',H',J,q⟩:=hs
  exact fin (v:=V.aA) (u:=Value.none) J rfl q
 |brk=>
  obtain⟨_,_,_,q⟩:=hs
  exact False.elim q
 |cont=>
  obtain⟨_,_,_,q⟩:=hs
  exact False.elim q
section
variable{X:Cx}{x:Str}{p pos:Pos}{e:Expr}{es:List Expr}{t:TA}{id T:String}{r:List V->Hp->VK->Prop}
def KJ(r:List V->Hp->VK->Prop)(t:TA):TE:=λσ H Q=>t σ H λvs H1=>r vs H1 Q
theorem bP(hc:gE X (.builtin id) r)(hg:Gl X x)(hm:X.mg x=none)(hv:bootBuiltins x=some (.builtin id))(ha:PA X (e::es) t)(hn:x≠"__name__":=by decide)(gk:(x==("__debug__":Str))=false:=by decide)
  (he:starEach (e::es) X.env=(false,eval e X.env)::starEach es X.env:=by rfl) (hpl:(backTo pos (starEach es X.env)).any (·.1)=false:=by rfl):PE X (.Call (.Name x p) (e::es) [] pos) (KJ r t):=by
 intro pins s σ H Q I h
 refine vy (oP I hg hm hv ?_ hn gk)
 exact PyProof.Rows.callWith_builtin1 (aB (ha pos pins s σ H _ I h) λus s1 ⟨vs,H1,I1,r1,q1⟩=>hc pins s1 σ H1 vs us Q I1 r1 q1) he hpl
theorem jR(hc:gE X (.type T) r)(hg:Gl X x)(hm:X.mg x=none)(hv:bootBuiltins x=some (.type T))(ha:PA X (e::es) t)(hn:x≠"__name__":=by decide)(gk:(x==("__debug__":Str))=false:=by decide)
  (he:starEach (e::es) X.env=(false,eval e X.env)::starEach es X.env:=by rfl) (hpl:(backTo pos (starEach es X.env)).any (·.1)=false:=by rfl):PE X (.Call (.Name x p) (e::es) [] pos) (KJ r t):=by
 intro pins s σ H Q I h
 refine vy (oP I hg hm hv ?_ hn gk)
 exact Cy (aB (ha pos pins s σ H _ I h) λus s1 ⟨vs,H1,I1,r1,q1⟩=>hc pins s1 σ H1 vs us Q I1 r1 q1) he hpl
end
end L2
namespace HT
open PySem PyProof.Rows
noncomputable def lexLt:List Int->List Int->Bool
 |[],[]=>false
 |[],_::_=>true
 |_::_,[]=>false
 |x::xs,y::ys=>if x=y then lexLt xs ys else decide (x<y)
theorem KL(x y:Int)(xs ys:List Int):lexLt (x::xs) (y::ys)=if x=y then lexLt xs ys else decide (x<y):=rfl
theorem Ud:lexLt [] []=false:=rfl
theorem Ue(y:Int)(ys:List Int):lexLt [] (y::ys)=true:=rfl
theorem Ug(x:Int)(xs:List Int):lexLt (x::xs) []=false:=rfl
theorem Uh(A:Around)(s:Shared)(a:Int)(t:Tok)(c:Int)(u:Tok):∃e,SeqAt.EqAt A s (.int a t) (.int c u) e/\(e=true↔a=c):=
 ⟨(a==c),SeqAt.EqAt.int_int a t c u,by simp⟩
theorem Ui(A:Around)(s:Shared)(a:Int)(t:Tok)(c:Int)(u:Tok)(prog:Program)(w:World)(E:Value->Shared->Prop)(Q:Value->Shared->Prop)(h:Q (.bool (decide (a<c))) s) :
  wpAny (model prog w) A (richCompare .Lt (.int a t) (.int c u)) Q E s:=
 (PyProof.Rows.lt_int h:wpAny (model prog w) A (compareOp .Lt (.int a t) (.int c u)) Q E s)
section
open PySem.SeqAt
open PySem.AutoSeq1 (wpAny_loadPart')
open PySem.MeetsSeq PySem.MeetsSeq2 PySem.MeetsSeq3
theorem Uj(l b:Addr)(items lM:Array Value)(n n2:Nat)(dd Dv:Option Addr)(sl Dw:Array (Option Value))(ns ms:List Int)(hi:IntsAre items.toList ns)(hj:IntsAre lM.toList ms) :
  Meets (Builtin.«tuple.__lt__» ⟨[.ref l,.ref b],[]⟩)
   (λ_ R s=>s.heap.get? l=some { cls := .type "tuple",dict:=dd,data := .seq items n,slots:=sl }/\s.heap.get? b=some { cls := .type "tuple",dict:=Dv,data := .seq lM n2,slots:=Dw } /\
    R (.ok (.ret (.bool (lexLt ns ms)))) s):=
 .of_wp λprog w A R s h=>by
  obtain⟨hp,g,d,tk,os⟩:=s;obtain⟨hl,hb,h⟩:=h
  have f2:=AutoSeq1.sub_tuple_tuple
  have z1:items.size=ns.length:=by rw[<-hi.length];simp
  have z2:lM.size=ms.length:=by rw[<-hj.length];simp
  wp_walk using wpAny_loadPart' hl,wpAny_loadPart' hb,Jp _ (λrest b s'=>b.1=none/\s'=⟨hp,g,d,tk,os⟩/\∃(vs ws:List Value) (tJ tK:List Int),rest=vs.zip ws/\
   IntsAre vs tJ/\IntsAre ws tK/\tJ.length+lM.size=tK.length+items.size/\R (.ok (.ret (.bool (lexLt tJ tK)))) ⟨hp,g,d,tk,os⟩) _
  case turn=>
   rintro⟨y,x⟩ rest b s' ⟨ji,rfl,vs,ws,tJ,tK,hz,Dx,zm,hlen,hR⟩
   cases Dx with
   |nil=>rw[List.zip_nil_left] at hz;cases hz
   |cons a t Uk=>
    cases zm with
    |nil=>rw[List.zip_nil_right] at hz;cases hz
    |cons c u Ul=>
     rw[List.zip_cons_cons] at hz
     injection hz with wa Um
     injection wa with hy hx
     subst hy hx
     rw[KL] at hR
     simp only[c5] at hlen
     obtain⟨e,he,KN⟩:=Uh A.in1 ⟨hp,g,d,tk,os⟩ a t c u
     refine ag (he prog w _ _ ?_)
     cases e with
     |true=>
      rw[ax (KN.mp rfl)] at hR
      wp_walk
      exact⟨rfl,rfl,_,_,_,_,Um,Uk,Ul,by omega,hR⟩
     |false=>
      rw[aq (λq=>absurd (KN.mpr q) bW)] at hR
      have Uo:=Ui A.in1 ⟨hp,g,d,tk,os⟩ a t c u prog w
      wp_walk using Uo
      exact⟨_,rfl,by simpa using hR⟩
  case fin=>
   rintro⟨b1,b2⟩ s' ⟨ji,rfl,vs,ws,tJ,tK,hz,Dx,zm,hlen,hR⟩
   simp only at ji
   subst ji
   have hv:lexLt tJ tK=decide (items.size<lM.size):=by
    cases Dx with
    |nil=>
     cases zm with
     |nil=>
      simp only[CK] at hlen
      rw[Ud]
      exact(aF (by omega)).symm
     |cons c u hw=>
      simp only[CK,c5] at hlen
      rw[Ue]
      exact(aG (by omega)).symm
    |cons a t hv=>
     cases zm with
     |nil=>
      simp only[CK,c5] at hlen
      rw[Ug]
      exact(aF (by omega)).symm
     |cons c u hw=>
      rw[List.zip_cons_cons] at hz
      cases hz
   rw[hv] at hR
   wp_walk
   exact⟨_,rfl,by simpa[Builtin.Tuple.tupleCompareSizes] using hR⟩
  case h=>
   exact⟨rfl,rfl,items.toList,lM.toList,ns,ms,rfl,hi,hj,by omega,h⟩
end
section
variable{prog:Program}{w:World}{A:Around}{E:Value->Shared->Prop}{s:Shared}
theorem Up{l b:Addr}{items lM:Array Value}{ns ms:List Int}{Q:Value->Shared->Prop}(hl:IsTup s.heap l items)(hb:IsTup s.heap b lM)(hi:IntsAre items.toList ns)(hj:IntsAre lM.toList ms)
  (hu:A.units<cLine) (h:Q (.bool (lexLt ns ms)) s):wpAny (model prog w) A (compareOp .Lt (.ref l) (.ref b)) Q E s:=by
 obtain⟨⟨cls,dd,data,sl⟩,ho,hc,n,hd⟩:=id hl
 obtain⟨⟨agd,Dv,data2,Dw⟩,jj,qT,n2,hd2⟩:=id hb
 simp only at hc hd qT hd2
 subst hc hd qT hd2
 exact richCompare_meets_room (op := .Lt) ⟨_,ho,rfl⟩ ⟨_,jj,rfl⟩ PySem.F.slot_tuple_lt PySem.F.entry_tuple_lt (PySem.F.args_tuple_lt_2 _ _) (Uj l b items lM n n2 dd Dv sl Dw ns ms hi hj)
  ⟨ho,jj,show Value.bool (lexLt ns ms)≠Value.notImplemented/\Q (.bool (lexLt ns ms)) s from⟨(λx=>nomatch x),h⟩⟩ hu
noncomputable def gm(n d:Nat):Option Int->Nat
 |none=>d
 |some v=>if v<0 then (v+(n:Int)).toNat else min v.toNat n
theorem KO(n d:Nat):gm n d none=d:=rfl
theorem KP(n d k:Nat):gm n d (some (k:Int))=min k n:=by
 show(if (k:Int)<0 then ((k:Int)+(n:Int)).toNat else min (k:Int).toNat n)=min k n
 rw[aq (by omega),dH]
end
end HT
namespace L2
open PySem PySem.Spec PyProof.Rows
abbrev TO:=St->Hp->(Option Int->Hp->Prop)->Prop
def PO(X:Cx)(e:Option Expr)(t:TO):Prop:=
 ∀(pins:List (Addr×Obj)) (s:Shared) (σ:St) (H:Hp) (Q:Option Int->Hp->Prop),Inv X pins σ H s->t σ H Q->
  wpAny (model X.prog X.w) X.A (evalPart e X.env) (λu s' =>∃o H',Inv X pins σ H' s'/\IsPart u o/\Q o H') X.xe s
noncomputable def Uq:TO:=λ_ H Q=>Q none H
noncomputable def Ur(t:TE):TO:=λσ H Q=>t σ H λx H1=>∃i,x = .int i/\Q (some i) H1
section
variable{X:Cx}{e:Expr}{te:TE}{lo hi:Option Expr}{tl th:TO}{pos p2:Pos}
theorem lN:PO X none Uq:=by
 intro pins s σ H Q I h
 rw[evalPart_none]
 exact aJ ⟨none,H,I,.none,h⟩
theorem lO(h:PE X e te):PO X (some e) (Ur te):=by
 intro pins s σ H Q I hw
 rw[evalPart_some]
 refine aB (h pins s σ H _ I hw) λu s1 ⟨x,H1,I1,r1,q1⟩=>?_
 obtain⟨i,rfl,q⟩:=q1
 obtain⟨t,rfl⟩:=r1
 exact⟨some i,H1,I1,.int i t,q⟩
def Dy(X:Cx)(r:V->Option Int->Option Int->Hp->VK->Prop):Prop:=
 ∀(pins:List (Addr×Obj)) (s:Shared) (σ:St) (H:Hp) (x:V) (v vl vu:Value) (lo hi:Option Int) (sl:Addr) (Q:VK),Inv X pins σ H s->RelV x v->s.heap.IsSliceOf sl vl vu .none->IsPart vl lo->IsPart vu hi->r x lo hi H Q->
  ∃T id,typeLookup (.type T) "__getitem__"=pure (some (.builtin id))/\s.TypeIs v T/\wpAny (model X.prog X.w) X.A (getItem v (.ref sl)) (EP X pins σ Q) X.xe s
def Us(r:V->Option Int->Option Int->Hp->VK->Prop)(te:TE)(tl th:TO):TE:=λσ H Q=>te σ H λx H1=>tl σ H1 λl H2=>th σ H2 λu H3=>r x l u H3 Q
theorem m6{r:V->Option Int->Option Int->Hp->VK->Prop}(hr:Dy X r)(he:PE X e te)(hl:PO X lo tl)(hu:PO X hi th):PE X (.Subscript e (.Slice lo hi none p2) pos) (Us r te tl th):=by
 intro pins s σ H Q I h
 refine Subscript_ (aB (he pins s σ H _ I h) λv s1 ⟨x,H1,I1,r1,q1⟩=>?_)
 refine wpAny_Slice (aB (hl pins s1 σ H1 _ I1 q1) λvl s2 ⟨l,H2,I2,pl,q2⟩=>aB (hu pins s2 σ H2 _ I2 q2) λvu s3 ⟨u,H3,I3,pu,q3⟩=>?_)
 rw[evalPart_none]
 refine aJ ?_
 have I4:Inv X pins σ H3 { s3 with heap:=s3.heap.push { cls := .type "slice",data := .fields #[vl,vu,.none] } }:=I3.kept (t':=s3.toks) λb ob q=>bw _ q
 obtain⟨T,id,hT,ht,hg⟩:=hr pins { s3 with heap:=s3.heap.push { cls := .type "slice",data := .fields #[vl,vu,.none] } } σ H3 x v vl vu l u s3.heap.objs.size Q I4 r1 (Heap.IsSliceOf.new ..) pl pu q3
 show wpAny (model X.prog X.w) X.A (subscriptTail e (.Slice lo hi none p2) v (.ref s3.heap.objs.size)) (EP X pins σ Q) X.xe { s3 with heap:=s3.heap.push { cls := .type "slice",data := .fields #[vl,vu,.none] } }
 exact tail_any (ops:=[.ref s3.heap.objs.size,v]) ht hT hg (by with_unfolding_all rfl)
noncomputable def kG(xs:List V)(lo hi:Option Int):List V:=(xs.drop (HT.gm xs.length 0 lo)).take (HT.gm xs.length xs.length hi - HT.gm xs.length 0 lo)
theorem Ut(xs:List V)(lo hi:Option Int):(kG xs lo hi).length<=xs.length:=by
 unfold kG
 rw[jF,CL]
 omega
end
noncomputable def m7(n:Nat)(i:Int):Option Nat:=if 0<=i then (if i<n then some i.toNat else none) else if -(n:Int)<=i then some (i+n).toNat else none
noncomputable def jk{α:Type}(xs:List α)(i:Int):Option α:=(m7 xs.length i).bind λj=>xs[j]?
theorem KQ{n:Nat}{i:Int}{j:Nat}(h:m7 n i=some j):seqIndex? i n=some j/\j<n/\ -(n:Int)<=i/\i<n:=by
 unfold m7 at h
 by_cases h0:0<=i
 .rw[ax h0] at h
  by_cases h1:i<n
  .rw[ax h1] at h
   have e:i.toNat=j:=c9 h
   exact⟨by rw[seqIndex_of h0 h1,e],by omega,by omega,h1⟩
  .rw[aq h1] at h;cases h
 .rw[aq h0] at h
  by_cases h1 : -(n:Int)<=i
  .rw[ax h1] at h
   have e:(i+n).toNat=j:=c9 h
   exact⟨by rw[seqIndex_neg (by omega) h1,e],by omega,h1,by omega⟩
  .rw[aq h1] at h;cases h
theorem Dz{α:Type}{xs:List α}{i:Int}{v:α}(h:jk xs i=some v):∃j,seqIndex? i xs.length=some j/\xs[j]? = some v/\j<xs.length/\ -(xs.length:Int)<=i/\i<xs.length:=by
 unfold jk at h
 cases e:m7 xs.length i with
 |none=>rw[e] at h;cases h
 |some j=>
  rw[e] at h
  obtain⟨h1,h2,h3,h4⟩:=KQ e
  exact⟨j,h1,h,h2,h3,h4⟩
theorem dz{α:Type}{xs:List α}{j:Nat}{v:α}(h:xs[j]? = some v):jk xs (j:Int)=some v:=by
 have hj:j<xs.length:=(bZ.mp h).1
 have e:m7 xs.length (j:Int)=some j:=by
  unfold m7
  rw[ax (by omega),ax (by omega)];simp
 unfold jk;rw[e];exact h
def DA(b:Expr):Prop := ∀o i,subscripted b false o i=operate [o,i] (getItem o i)
def tL(X:Cx)(r:R2):Prop:=
 ∀(value slice:Expr) (pins:List (Addr×Obj)) (s:Shared) (σ:St) (H:Hp) (x y:V) (v u:Value) (Q:VK),Inv X pins σ H s->RelV x v->RelV y u->r x y H Q->
  subscripted slice false v u=operate [v,u] (getItem v u)->wpAny (model X.prog X.w) X.A (subscriptTail value slice v u) (EP X pins σ Q) X.xe s
def zo(X:Cx)(id:String)(r:V->List V->Hp->VK->Prop):Prop:=
 ∀(pins:List (Addr×Obj)) (s:Shared) (σ:St) (H:Hp) (x:V) (xs:List V) (v:Value) (us:List Value) (Q:VK),Inv X pins σ H s->RelV x v->Vals xs us->r x xs H Q->
  wpAny (model X.prog X.w) X.A (call (.builtin id) (v::us)) (EP X pins σ Q) X.xe s
section
variable{X:Cx}{a b:Expr}{ta tb:TE}{pos:Pos}
theorem aX{r:R2}(hr:tL X r)(ha:PE X a ta)(hb:PE X b tb)(hs:DA b):PE X (.Subscript a b pos) (oV r ta tb):=by
 intro pins s σ H Q I h
 exact Subscript_ (Dk ha hb I h λv u s2 x y H2 I2 rx ry q=>hr a b pins s2 σ H2 x y v u Q I2 rx ry q (hs _ _))
def Uu(K:PySem.W.Frag):R2:=λx y H Q=>∃p xs i v,x = .ref p/\y = .int i/\aj K H p xs/\jk xs i=some v/\Q v H
def zr(K:PySem.W.Frag):R2:=λx y H Q=>∃p xs i v,x = .ref p/\y = .int i/\aw K H p xs/\jk xs i=some v/\Q v H
def Uv:R2:=λx y H Q=>∃z i c,x = .str z/\y = .int i/\z.length<=sizeLine/\jk z.cps.toList i=some c/\Q (.str ⟨#[c]⟩) H
theorem fN:tL X (Uu X.K):=by
 intro value slice pins s σ H x y v u Q I rx ry h hs
 obtain⟨p,xs,i,z,rfl,rfl,hq,he,q⟩:=h
 cases rx
 obtain⟨t,rfl⟩:=ry
 obtain⟨its,r,pl,hz⟩:=I.list hq
 obtain⟨j,h1,h2,h3,h4,h5⟩:=Dz he
 obtain⟨w,ew,gZ⟩:=r.get h2
 have hl:=r.length
 have hn:=mX
 have fin:EP X pins σ Q w s:=⟨z,H,I,gZ,q⟩
 by_cases h0:0<=i
 .have hj:i.toNat=j:=by
   rw[seqIndex_of h0 h5] at h1
   exact c9 h1
  exact item_listR pl.isList h0 (by omega) (by rw[hj];simpa using ew) fin hs
 .have hj:(i+(its.toArray.size:Int)).toNat=j:=by
   rw[seqIndex_neg (by omega) h4] at h1
   rw[bp,<-hl]
   exact c9 h1
  exact subscriptTail_builtinR (x:=w) pl.isList.typeIs slot_list_getitem.lookup
   (wpAny_getItem_list_neg (Q:=λr s'=>r=w/\EP X pins σ Q r s') pl.isList (by omega) (by rw[bp] <;> omega) (by omega) (by rw[hj];simpa using ew) ⟨rfl,fin⟩) hs
theorem cj:tL X (zr X.K):=by
 intro value slice pins s σ H x y v u Q I rx ry h hs
 obtain⟨p,xs,i,z,rfl,rfl,hq,he,q⟩:=h
 cases rx
 obtain⟨t,rfl⟩:=ry
 obtain⟨its,r,pl,hz⟩:=I.tuple hq
 obtain⟨j,h1,h2,h3,h4,h5⟩:=Dz he
 obtain⟨w,ew,gZ⟩:=r.get h2
 have hl:=r.length
 have hn:=mX
 have fin:EP X pins σ Q w s:=⟨z,H,I,gZ,q⟩
 exact subscriptTail_builtinR (x:=w) pl.typeIs slot_tuple_getitem.lookup
  (getItem_tuple (j:=j) (Q:=λr s'=>r=w/\EP X pins σ Q r s') pl (by omega) (by omega) (by rw[bp,<-hl];exact h1) (by simpa using ew) ⟨rfl,fin⟩) hs
theorem jS:tL X Uv:=by
 intro value slice pins s σ H x y v u Q I rx ry h hs
 obtain⟨z,i,c,rfl,rfl,hz,he,q⟩:=h
 obtain⟨t,rfl⟩:=rx
 obtain⟨t',rfl⟩:=ry
 obtain⟨j,h1,h2,h3,h4,h5⟩:=Dz he
 have hl:z.cps.toList.length=z.length:=by simp[Str.length]
 rw[hl] at h1 h4 h5
 have hn:=mX
 exact tail_any (typeIs_str s z t) slot_str_getitem.lookup (getItem_str (c:=c) (by
  have e1:decide (i < -(2 ^ 63:Int))=false:=aF (by omega)
  have e2:decide (i>=2 ^ 63)=false:=aF (by omega)
  rw[e1,e2,Bool.or_false]) (by rw[h1];simpa using h2) ⟨.str ⟨#[c]⟩,H,I.tok _,⟨_,rfl⟩,q⟩) hs
theorem Uw(its:List Value)(n j:Nat)(u:Value):Obj.mapSeq (·.setIfInBounds j u) { cls := .type "list",data := .seq its.toArray n }={ cls := .type "list",data := .seq (its.set j u).toArray n }:=by
 simp[Obj.mapSeq]
theorem Inv.lst{pins:List (Addr×Obj)}{σ:St}{H:Hp}{s:Shared}{p:Addr}{xs:List V}(I:Inv X pins σ H s)(h:H p=some (.lst xs)) :
  ∃(its:List Value) (n:Nat),Vals xs its/\s.heap.get? p=some { cls := .type "list",data := .seq its.toArray n }/\xs.length<=sizeLine:=by
 obtain⟨z,its,n,r,e⟩:=I.aC p _ h
 exact⟨its,n,r,e,z⟩
theorem Inv.Ux{pins:List (Addr×Obj)}{σ:St}{H:Hp}{s:Shared}{p:Addr}{xs ys:List V}{its cV:List Value}{n n':Nat}{f:Obj->Obj}(I:Inv X pins σ H s)(h:H p=some (.lst xs))
  (ho:s.heap.get? p=some { cls := .type "list",data := .seq its.toArray n }) (hf:f { cls := .type "list",data := .seq its.toArray n }={ cls := .type "list",data := .seq cV.toArray n' }) (r:Vals ys cV) (hz:ys.length<=sizeLine) (t:Nat) :
  Inv X pins σ (upd H p (.lst ys)) { s with heap:=s.heap.update p f,toks:=t }:=by
 have e:(s.heap.update p f).get? p=some { cls := .type "list",data := .seq cV.toArray n' }:=by
  rw[oq f ho (by rw[hf] <;> rfl),hf]
 refine I.write (x:=p) (e:=p) (by rw[h];trivial) (.inl rfl) (λb u hb q=>(mK _ _ (bj hb)).trans q) ⟨_,e⟩ ?_
 exact⟨hz,cV,n',r,e⟩
def Uy:V->V->V->Hp->(Hp->Prop)->Prop:=λo i v H Q=>∃p xs k j,o = .ref p/\i = .int k/\H p=some (.lst xs)/\m7 xs.length k=some j/\Q (upd H p (.lst (xs.set j v)))
theorem set_list:Kd X Uy:=by
 intro pins s σ H o i v ov iv u Q I ro ri rv h
 obtain⟨p,xs,k,j,rfl,rfl,hp,hj,q⟩:=h
 cases ro
 obtain⟨t,rfl⟩:=ri
 obtain⟨its,n,r,ho,hz⟩:=I.lst hp
 obtain⟨h1,h2,h3,h4⟩:=KQ hj
 have hl:=r.length
 have hn:=mX
 have I':Inv X pins σ (upd H p (.lst (xs.set j v))) { s with heap:=s.heap.update p (Obj.mapSeq (·.setIfInBounds j u)) } :=
  I.Ux hp ho (Uw its n j u) (r.set rv j) (by rw[Jq];exact hz) s.toks
 by_cases h0:0<=k
 .have hk:k.toNat=j:=by
   rw[seqIndex_of h0 h4] at h1
   exact c9 h1
  exact PySem.W.ki_setAt ho h0 (by omega) (by rw[bp,<-hl];exact h4) (by rw[hk];exact⟨_,I',q⟩)
 .have hk:(k+(its.toArray.size:Int)).toNat=j:=by
   rw[seqIndex_neg (by omega) h3] at h1
   rw[bp,<-hl]
   exact c9 h1
  exact PySem.W.ki_setBack ho (by omega) (by rw[bp,<-hl];exact h3) (by omega) (by rw[hk];exact⟨_,I',q⟩)
theorem Uz(lo hi:Option Int)(n:Nat):(sliceBounds lo hi none n).1=((HT.gm n 0 lo:Nat):Int)/\(sliceBounds lo hi none n).2.1=((HT.gm n n hi:Nat):Int)/\(sliceBounds lo hi none n).2.2=1:=by
 refine⟨?_,?_,rfl⟩
 .cases lo with
  |none=>simp[sliceBounds,HT.gm]
  |some i=>
   simp only[sliceBounds,HT.gm,Option.getD_none,show(1:Int)>0 by decide,fY]
   by_cases h:i<0
   .simp only[h,fY] <;> omega
   .simp only[h,eK] <;> omega
 .cases hi with
  |none=>simp[sliceBounds,HT.gm]
  |some i=>
   simp only[sliceBounds,HT.gm,Option.getD_none,show(1:Int)>0 by decide,fY]
   by_cases h:i<0
   .simp only[h,fY] <;> omega
   .simp only[h,eK] <;> omega
theorem UA(its:List Value)(lo hi:Option Int):slicePick its.toArray lo hi none=((its.drop (HT.gm its.length 0 lo)).take (HT.gm its.length its.length hi - HT.gm its.length 0 lo)).toArray:=by
 obtain⟨h1,h2,h3⟩:=Uz lo hi its.toArray.size
 unfold slicePick
 rw[h1,h2,h3]
 simp only[sliceRange_one,pick_run,bp] <;> rfl
def UB(K:PySem.W.Frag):V->Option Int->Option Int->Hp->VK->Prop:=λx lo hi H Q=>∃a xs,x = .ref a/\aj K H a xs/\∀p,H p=none->Q (.ref p) (upd H p (.lst (kG xs lo hi)))
theorem DB:Dy X (UB X.K):=by
 intro pins s σ H x v vl vu lo hi sl Q I rx hs pl pu h
 obtain⟨a,xs,rfl,hx,q⟩:=h
 cases rx
 obtain⟨its,r,ht,hz⟩:=I.list hx
 have hlen:=r.length
 refine⟨"list",_,slot_list_getitem.lookup,ht.isList.typeIs,?_⟩
 refine wpAny_getItem_list_slice ht.isList hs pl pu .none (by simp) ?_ (by rw[bp] <;> omega)
 rw[UA,<-hlen]
 refine⟨.ref s.heap.objs.size,_,I.laid (t':=s.toks) (o := .lst (kG xs lo hi)) (λb ob q=>bw _ q) (aQ _) ?_,rfl,q _ (I.aC.fresh (aQ _))⟩
 exact⟨bA (Ut xs lo hi) hz,_,0,(r.drop (HT.gm xs.length 0 lo)).take (HT.gm xs.length xs.length hi - HT.gm xs.length 0 lo),cw _ rfl⟩
noncomputable def jT:V->Bool
 |.aA=>true
 |.bl _=>true
 |.int _=>true
 |.str _=>true
 |_=>false
noncomputable def gF:V->V->Bool
 |.aA,.aA=>true
 |.bl a,.bl b=>a==b
 |.bl a,.int b=>(if a then 1 else 0)==b
 |.int a,.bl b=>a==(if b then 1 else 0)
 |.int a,.int b=>a==b
 |.str a,.str b=>a==b
 |_,_=>false
theorem gq{A:Around}{s:Shared}{y x:V}{u v:Value}(ry:RelV y u)(rx:RelV x v)(fy:jT y=true)(fx:jT x=true):SeqAt.EqAt A s u v (gF y x):=by
 cases y with
 |aA=>
  cases ry
  cases x with
  |aA=>cases rx;exact SeqAt.EqAt.same _
  |bl b=>cases rx;exact SeqAt.EqAt.none_bool b
  |int b=>obtain⟨t,rfl⟩:=rx;exact SeqAt.EqAt.none_int b t
  |str b=>obtain⟨t,rfl⟩:=rx;exact SeqAt.EqAt.none_str b t
  |_=>exact absurd (show false=true from fx) bW
 |bl a=>
  cases ry
  cases x with
  |aA=>cases rx;exact SeqAt.EqAt.bool_none a
  |bl b=>cases rx;exact SeqAt.EqAt.bool_bool a b
  |int b=>obtain⟨t,rfl⟩:=rx;exact SeqAt.EqAt.bool_int a b t
  |str b=>obtain⟨t,rfl⟩:=rx;exact SeqAt.EqAt.bool_str a b t
  |_=>exact absurd (show false=true from fx) bW
 |int a=>
  obtain⟨t',rfl⟩:=ry
  cases x with
  |aA=>cases rx;exact SeqAt.EqAt.int_none a t'
  |bl b=>cases rx;exact SeqAt.EqAt.int_bool a t' b
  |int b=>obtain⟨t,rfl⟩:=rx;exact SeqAt.EqAt.int_int a t' b t
  |str b=>obtain⟨t,rfl⟩:=rx;exact SeqAt.EqAt.int_str a t' b t
  |_=>exact absurd (show false=true from fx) bW
 |str a=>
  obtain⟨t',rfl⟩:=ry
  cases x with
  |aA=>cases rx;exact SeqAt.EqAt.str_none a t'
  |bl b=>cases rx;exact SeqAt.EqAt.str_bool a t' b
  |int b=>obtain⟨t,rfl⟩:=rx;exact SeqAt.EqAt.str_int a t' b t
  |str b=>obtain⟨t,rfl⟩:=rx;exact SeqAt.EqAt.str_str a t' b t
  |_=>exact absurd (show false=true from fx) bW
 |_=>exact absurd (show false=true from fy) bW
noncomputable def m8(x:V)(u:Value):Bool:=match u with
 |.none=>gF .aA x
 |.bool b=>gF (.bl b) x
 |.int i _=>gF (.int i) x
 |.str z _=>gF (.str z) x
 |_=>false
theorem KR{x y:V}{u:Value}(r:RelV y u)(f:jT y=true):m8 x u=gF y x:=by
 cases y with
 |aA=>cases r;rfl
 |bl b=>cases r;rfl
 |int i=>obtain⟨t,rfl⟩:=r;rfl
 |str z=>obtain⟨t,rfl⟩:=r;rfl
 |_=>exact absurd (show false=true from f) bW
theorem DC{x:V}:∀{xs:List V}{us:List Value},Vals xs us->xs.all jT=true->us.any (m8 x)=xs.any λy=>gF y x
 |_,_,.nil,_=>rfl
 |y::xs,u::us,.cons r t,f=>by
  rw[yB,dI] at f
  rw[sM,sM,KR r f.1,DC t f.2]
theorem DD{A:Around}{s:Shared}{x:V}{v:Value}(rx:RelV x v)(fx:jT x=true):∀{xs:List V}{us:List Value},Vals xs us->xs.all jT=true->∀u∈us,SeqAt.EqAt A s u v (m8 x u)
 |_,_,.nil,_=>λu hu=>by cases hu
 |y::xs,u::us,.cons r t,f=>λu' hu=>by
  rw[yB,dI] at f
  rcases bX.mp hu with rfl | hu
  .rw[KR r f.1];exact gq r rx f.1 fx
  .exact DD rx fx t f.2 u' hu
noncomputable def iP(x:V)(xs:List V):Bool:=xs.any λy=>gF y x
def zt(K:PySem.W.Frag)(neg:Bool):R2:=λx y H Q=>∃p xs,y = .ref p/\(aj K H p xs\/aw K H p xs)/\jT x=true/\xs.all jT=true/\Q (.bl (if neg then !iP x xs else iP x xs)) H
theorem tM:cM X (compareOp .NotIn) (zt X.K true):=by
 intro pins s σ H x y v u Q I rx ry h
 obtain⟨p,xs,rfl,hq,fx,fs,q⟩:=h
 cases ry
 rcases hq with hq | hq
 .obtain⟨its,r,pl,hz⟩:=I.list hq
  refine SeqAt.notIn_listAt (m8 x) pl.isList (λw hw=>DD rx fx r fs w (by simpa using hw)) ⟨.bl _,H,I,rfl,?_⟩
  rw[show its.toArray.any (m8 x)=its.any (m8 x) by simp,DC r fs]
  exact q
 .obtain⟨its,r,pl,hz⟩:=I.tuple hq
  refine SeqAt.notIn_tupleAt (m8 x) pl (λw hw=>DD rx fx r fs w (by simpa using hw)) ⟨.bl _,H,I,rfl,?_⟩
  rw[show its.toArray.any (m8 x)=its.any (m8 x) by simp,DC r fs]
  exact q
theorem dY:gE X (.builtin "len") (λxs H Q=>∃p ys,xs=[.ref p]/\(aj X.K H p ys\/aw X.K H p ys)/\Q (.int ys.length) H):=by
 intro pins s σ H xs us Q I r h
 obtain⟨p,ys,rfl,hq,q⟩:=h
 obtain⟨u,rfl,rx⟩:=vals1 r
 cases rx
 have hn:=mX
 rcases hq with hq | hq
 .obtain⟨its,r',pl,hz⟩:=I.list hq
  have hlen:=r'.length
  exact Calls.call_len_list pl.isList (by simp only[bp] <;> omega) ⟨.int ys.length,H,I.tok _,⟨s.toks+1,by rw[bp,hlen]⟩,q⟩
 .obtain⟨its,r',pl,hz⟩:=I.tuple hq
  have hlen:=r'.length
  exact len_tuple pl (by simp only[bp] <;> omega) ⟨.int ys.length,H,I.tok _,⟨s.toks+1,by rw[bp,hlen]⟩,q⟩
theorem g9:gE X (.builtin "len") (λxs H Q=>∃z,xs=[.str z]/\z.length<=sizeLine/\Q (.int z.length) H):=by
 intro pins s σ H xs us Q I r h
 obtain⟨z,rfl,hz,q⟩:=h
 obtain⟨u,rfl,t,rfl⟩:=vals1 r
 have hn:=mX
 exact len_str (by omega) ⟨.int z.length,H,I.tok _,⟨_,rfl⟩,q⟩
theorem wb:gE X (.type "list") (λxs H Q=>∃p ys,xs=[.ref p]/\(aj X.K H p ys\/aw X.K H p ys)/\∀l,H l=none->Q (.ref l) (upd H l (.lst ys))):=by
 intro pins s σ H xs us Q I r h
 obtain⟨p,ys,rfl,hq,q⟩:=h
 obtain⟨u,rfl,rx⟩:=vals1 r
 cases rx
 have fin:∀(its:List Value),Vals ys its->ys.length<=sizeLine->∀(h':Heap) (c':Nat),(∀b o',s.heap.get? b=some o'->h'.get? b=some o')->
   h'.get? s.heap.objs.size=some { cls := .type "list",dict:=none,data := .seq its.toArray c',slots := #[] }->EP X pins σ Q (.ref s.heap.objs.size) { s with heap:=h' }:=λits r' hz h' c' kp e=>
  ⟨.ref s.heap.objs.size,_,I.laid (t':=s.toks) kp (aQ _) (show cS X.prog X.w _ h' _ (.lst ys) from⟨hz,its,c',r',e⟩),rfl,q _ (I.aC.fresh (aQ _))⟩
 rcases hq with hq | hq
 .obtain⟨its,r',pl,hz⟩:=I.list hq
  have hlen:=r'.length
  obtain⟨o,ho,hc,n,hd⟩:=pl.isList
  exact call_list_seq p (.inl rfl) ho hc hd (λh' c' kp e=>fin its r' hz h' c' kp e) (by simp only[bp] <;> omega)
 .obtain⟨its,r',pl,hz⟩:=I.tuple hq
  have hlen:=r'.length
  obtain⟨o,ho,hc,n,hd⟩:=pl
  exact call_list_seq p (.inr rfl) ho hc hd (λh' c' kp e=>fin its r' hz h' c' kp e) (by simp only[bp] <;> omega)
theorem wc:gE X (.type "tuple") (λxs H Q=>∃p ys,xs=[.ref p]/\((aj X.K H p ys/\∀l,H l=none->Q (.ref l) (upd H l (.tup ys)))\/(aw X.K H p ys/\Q (.ref p) H))):=by
 intro pins s σ H xs us Q I r h
 obtain⟨p,ys,rfl,h⟩:=h
 obtain⟨u,rfl,rx⟩:=vals1 r
 cases rx
 rcases h with ⟨hq,q⟩ | ⟨hq,q⟩
 .obtain⟨its,r',pl,hz⟩:=I.list hq
  have hlen:=r'.length
  refine call_tuple_list pl.isList (λh' kp=>?_) (by simp only[bp] <;> omega)
  have I1:Inv X pins σ H { s with heap:=h' }:=I.kept (t':=s.toks) kp
  have I2:Inv X pins σ (upd H h'.objs.size (.tup ys)) { s with heap:=h'.push { cls := .type "tuple",data := .seq its.toArray } } :=
   I1.laid (t':=s.toks) (λb o e=>bw _ e) (aQ _) (show cS X.prog X.w _ _ _ (.tup ys) from⟨hz,its,r',IsTup.new _ _⟩)
  exact⟨.ref h'.objs.size,_,I2,rfl,q _ (I1.aC.fresh (aQ _))⟩
 .obtain⟨its,r',pl,hz⟩:=I.tuple hq
  exact call_tuple_same pl ⟨.ref p,H,I,rfl,q⟩
def KS(K:PySem.W.Frag)(T:String)(x:V)(H:Hp):Prop:=match x with
 |.str _=>T="str"
 |.int _=>T="int"
 |.ref p=>(T="list" /\∃xs,aj K H p xs)\/(T="tuple" /\∃o,K.lookup p=some o/\o.cls = .type "tuple"/\o.dict=none)\/
   (T="dict"/\((∃kvs,H p=some (.dK kvs))\/∃kvs,H p=some (.dT kvs)))\/(T="set" /\∃S n,H p=some (.set S n))
 |_=>False
theorem UC{pins:List (Addr×Obj)}{σ:St}{H:Hp}{s:Shared}{T:String}{x:V}{v:Value}(I:Inv X pins σ H s)(r:RelV x v)(ty:KS X.K T x H) :
  s.TypeIs v T/\∀a,v = .ref a->∃ob,s.heap.get? a=some ob/\ob.dict=none:=by
 cases x with
 |str z=>
  obtain⟨t,rfl⟩:=r
  cases(show T="str" from ty)
  exact⟨typeIs_str s z t,λ_ e=>nomatch e⟩
 |int i=>
  obtain⟨t,rfl⟩:=r
  cases(show T="int" from ty)
  exact⟨typeIs_int s i t,λ_ e=>nomatch e⟩
 |ref p=>
  cases r
  rcases ty with ⟨rfl,xs,hq⟩ | ⟨rfl,o,hk,hc,hd⟩ | ⟨rfl,hk⟩ | ⟨rfl,S,n,hk⟩
  .obtain⟨its,_,pl,_⟩:=I.list hq
   refine⟨pl.isList.typeIs,λa e=>?_⟩
   cases e
   obtain⟨o,n,e,c,hd,_⟩:=pl
   exact⟨o,e,hd⟩
  .refine⟨⟨o,I.cU p o hk,hc⟩,λa e=>?_⟩
   cases e
   exact⟨o,I.cU _ o hk,hd⟩
  .have z:∃o,s.heap.get? p=some o/\o.ExactDict:=by
    rcases hk with ⟨kvs,hk⟩ | ⟨kvs,hk⟩
    .obtain⟨_,_,_,_,o,_,_,e,ex,_⟩:=I.aC p _ hk
     exact⟨o,e,ex⟩
    .obtain⟨_,_,_,_,o,_,_,e,ex,_⟩:=I.aC p _ hk
     exact⟨o,e,ex⟩
   obtain⟨o,e,ex⟩:=z
   refine⟨⟨o,e,ex.1⟩,λa e2=>?_⟩
   cases e2
   exact⟨o,e,ex.2.1⟩
  .obtain⟨o,_,_,_,e,ex,_⟩:=I.aC p _ hk
   refine⟨⟨o,e,ex.1⟩,λa e2=>?_⟩
   cases e2
   exact⟨o,e,ex.2.1⟩
 |_=>exact False.elim ty
def KU(K:PySem.W.Frag)(T:String)(r:V->List V->Hp->VK->Prop)(to:TE)(t:TA):TE:=λσ H Q=>to σ H λx H1=>KS K T x H1/\t σ H1 λxs H2=>r x xs H2 Q
variable{o e:Expr}{es:List Expr}{to:TE}{t:TA}{name:Str}{apos c6:Pos}{T id:String}{r:V->List V->Hp->VK->Prop}
theorem fO(pa:PlainAttrs T)(slot:Slot T name id)(DE:typeOf (.builtin id)=pure (.type "method_descriptor"))(hm:zo X id r)(ho:PE X o to)(ha:PA X (e::es) t)
  (DF:attributeBase o name X.env (eval o X.env)=eval o X.env:=by rfl)
  (DG:((backTo c6 (starEach (e::es) X.env)).all (λx=>!x.1)&&(backToKw c6 (keywordEach [] X.env)).all (λx=>x.1.isSome)
   && decide ((e::es).length+([]:List Keyword).length+(if ([]:List Keyword).isEmpty then 0 else 1)<30))=true:=by rfl)
  (DH:(apos.endLine==c6.line)=true:=by rfl) (hs:starEach (e::es) X.env=(false,eval e X.env)::starEach es X.env:=by rfl) (DI:(backTo c6 (starEach es X.env)).any (·.1)=false:=by rfl) :
  PE X (.Call (.Attribute o name apos) (e::es) [] c6) (KU X.K T r to t):=by
 intro pins s σ H Q I h
 refine wpAny_Call_method_late DF DG DH rfl (aB (ho pins s σ H _ I h) λv s1 ⟨x,H1,I1,r1,ty,q1⟩=>?_)
 obtain⟨h1,h2⟩:=UC I1 r1 ty
 refine⟨T,id,pa,slot,DE,h1,h2,?_⟩
 have hA:=ha c6 pins s1 σ H1 _ I1 q1
 rw[hs] at hA ⊢
 refine Jr (by show(false||(backTo c6 (starEach es X.env)).any (·.1))=false;rw[DI] <;> rfl) (Js ?_)
 exact aB hA λus s2 ⟨vs,H2,I2,r2,q2⟩=>hm pins s2 σ H2 x vs v us Q I2 r1 r2 q2
end
def KW(X:Cx)(id:String)(r:V->List V->Hp->VK->Prop):Prop:=
 ∀(pins:List (Addr×Obj)) (s:Shared) (σ:St) (H:Hp) (x:V) (xs:List V) (v:Value) (us:List Value) (Q:VK),Inv X pins σ H s->RelV x v->Vals xs us->r x xs H Q->
  wpAny (model X.prog X.w) X.A (call (.builtin id) (v::us)) (EP X pins σ Q) X.xe s
theorem Vals.one:∀{x:V}{us:List Value},Vals [x] us->∃u,us=[u]/\RelV x u
 |_,_,.cons r .nil=>⟨_,rfl,r⟩
theorem Vals.rep{xs:List V}{us:List Value}(h:Vals xs us):∀k:Nat,Vals (List.replicate k xs).flatten (List.replicate k us).flatten
 |0=>.nil
 |k+1=>by
  rw[ou,ou,vz,vz]
  exact Vals.append h (Vals.rep h k)
theorem foldl_rep(its:List Value):∀(k:Nat) (acc:List Value),
  List.foldl (λx1 x2=>x1++x2) acc.toArray (List.replicate k its.toArray)=(acc++(List.replicate k its).flatten).toArray
 |0,acc=>by simp
 |k+1,acc=>by
  have e:acc.toArray++its.toArray=(acc++its).toArray:=by simp
  have e2:(acc++its)++(List.replicate k its).flatten=acc++(List.replicate (k+1) its).flatten:=by
   rw[ou,vz,ow]
  rw[<-e2,<-foldl_rep its k (acc++its),<-e,ou,List.foldl_cons]
section
variable{X:Cx}{pins:List (Addr×Obj)}{σ:St}{H:Hp}{s:Shared}{l b:Addr}{xs ys zs:List V}
theorem Inv.KY{its cV:List Value}{n:Nat}{f:Array Value->Array Value}{t':Nat}(I:Inv X pins σ H s)(hH:H l=some (.lst xs))
  (e:s.heap.get? l=some { cls := .type "list",data := .seq its.toArray n }) (hf:f its.toArray=cV.toArray) (hv:Vals ys cV) (hz:ys.length<=sizeLine) :
  Inv X pins σ (upd H l (.lst ys)) { s with heap:=s.heap.update l (Obj.mapSeq f),toks:=t' }:=by
 have q:=PySem.IsL.update e f
 rw[hf] at q
 refine I.write (x:=l) (e:=l) (by rw[hH];exact trivial) (.inl rfl) (λb' u hb hu=>(mK s.heap (Obj.mapSeq f) (bj hb)).trans hu) ⟨_,q⟩ ?_
 exact⟨hz,cV,_,hv,q⟩
theorem Inv.DJ{its:List Value}{t':Nat}(I:Inv X pins σ H s)(hv:Vals ys its)(hz:ys.length<=sizeLine) :
  Inv X pins σ (upd H s.heap.objs.size (.lst ys)) { s with heap:=s.heap.push { cls := .type "list",data := .seq its.toArray },toks:=t' } :=
 I.laid (λ_ _ q=>bw _ q) (aQ _) ⟨hz,its,0,hv,cw _ rfl⟩
theorem Inv.fresh(I:Inv X pins σ H s):H s.heap.objs.size=none:=I.aC.fresh (aQ _)
theorem Inv.o9(I:Inv X pins σ H s)(hH:H l=some (.lst xs)):xs.length<=sizeLine/\∃(its:List Value) (n:Nat),Vals xs its/\xs.length=its.length/\s.heap.get? l=some { cls := .type "list",data := .seq its.toArray n }:=by
 obtain⟨z,its,n,r,e⟩:=I.aC l _ hH
 exact⟨z,its,n,r,r.length,e⟩
theorem KZ{n:Nat}(h:n<=sizeLine):Builtin.List.listTooLong n=false:=by
 unfold Builtin.List.listTooLong
 exact aF (by omega)
end
section
variable{X:Cx}
def UD:V->List V->Hp->VK->Prop:=λx vs H Q=>∃l xs y,x = .ref l/\vs=[y]/\H l=some (.lst xs)/\xs.length<sizeLine/\Q .aA (upd H l (.lst (xs++[y])))
theorem hX:KW X "list.append" UD:=by
 intro pins s σ H x vs v us Q I rx rv h
 obtain⟨l,xs,y,rfl,rfl,hH,hz,q⟩:=h
 cases rx
 obtain⟨u,rfl,ru⟩:=rv.one
 obtain⟨z,its,n,r,hl,e⟩:=I.o9 hH
 refine call_meets F.slot_list_append ⟨_,e,rfl⟩ F.entry_list_append (F.args_list_append_2 _ _) (PySem.list_append l its.toArray n u (by rw[bp];omega)) ⟨e,?_⟩
 refine⟨.aA,_,I.KY (cV:=its++[u]) hH e (by simp) (r.append (.cons ru .nil)) ?_,rfl,q⟩
 rw[cQ,CM]
 omega
def UE:V->List V->Hp->VK->Prop:=λx vs H Q=>∃l b xs zs,x = .ref l/\vs=[.ref b]/\H l=some (.lst xs)/\H b=some (.lst zs)/\xs.length+zs.length<=sizeLine/\Q .aA (upd H l (.lst (xs++zs)))
theorem UG:KW X "list.extend" UE:=by
 intro pins s σ H x vs v us Q I rx rv h
 obtain⟨l,b,xs,zs,rfl,rfl,hH,hB,hz,q⟩:=h
 cases rx
 obtain⟨u,rfl,ru⟩:=rv.one
 cases ru
 obtain⟨z,its,n,r,hl,e⟩:=I.o9 hH
 obtain⟨z2,m9,n2,r2,h8,e2⟩:=I.o9 hB
 have hsz:its.toArray.size+m9.toArray.size<=sizeLine:=by rw[bp,bp];omega
 have DK:¬(!its.toArray.isEmpty&&Builtin.List.listTooLong (its.toArray.size+m9.toArray.size))=true:=by
  rw[KZ hsz,oy]
  exact bW
 refine call_meets F.slot_list_extend ⟨_,e,rfl⟩ F.entry_list_extend (F.args_list_extend_2 _ _)
  (AutoSeq1.list_extend_list_list_0 l its.toArray n b m9.toArray n2 DK (by rw[bp];omega) (by omega)) ⟨e,e2,?_⟩
 refine⟨.aA,_,I.KY (cV:=its++m9) hH e (by simp) (r.append r2) ?_,rfl,q⟩
 rw[cQ]
 omega
def UH:R2:=λx y H Q=>∃l b xs zs,x = .ref l/\y = .ref b/\H l=some (.lst xs)/\H b=some (.lst zs)/\xs.length+zs.length<=sizeLine/\∀p,H p=none->Q (.ref p) (upd H p (.lst (xs++zs)))
theorem DL:cM X (binaryOp .Add) UH:=by
 intro pins s σ H x y v u Q I rx ry h
 obtain⟨l,b,xs,zs,rfl,rfl,hH,hB,hz,q⟩:=h
 cases rx
 cases ry
 obtain⟨z,its,n,r,hl,e⟩:=I.o9 hH
 obtain⟨z2,m9,n2,r2,h8,e2⟩:=I.o9 hB
 refine PySem.P.add_list e e2 ?_ (by rw[bp,bp];omega)
 have ea:its.toArray++m9.toArray=(its++m9).toArray:=by simp
 rw[ea]
 exact⟨.ref _,_,I.DJ (t':=s.toks) (r.append r2) (by rw[cQ];omega),rfl,q _ I.fresh⟩
def UI:R2:=λx y H Q=>∃l k xs,x = .ref l/\y = .int k/\H l=some (.lst xs)/\ -(2 ^ 63)<=k/\k<2 ^ 63/\xs.length*k.toNat<=sizeLine/\
 ∀p,H p=none->Q (.ref p) (upd H p (.lst (List.replicate k.toNat xs).flatten))
theorem len_rep{α:Type}(xs:List α)(k:Nat):(List.replicate k xs).flatten.length=k*xs.length:=by
 induction k with
 |zero=>simp
 |succ k ih=>rw[ou,vz,cQ,ih,jb,Nat.add_comm]
theorem UJ:cM X (binaryOp .Mult) UI:=by
 intro pins s σ H x y v u Q I rx ry h
 obtain⟨l,k,xs,rfl,rfl,hH,h1,h2,hz,q⟩:=h
 cases rx
 obtain⟨t,rfl⟩:=ry
 obtain⟨z,its,n,r,hl,e⟩:=I.o9 hH
 have hlen:its.toArray.size*k.toNat<=sizeLine:=by rw[bp,<-hl];exact hz
 have UK:¬its.toArray.size*k.toNat>(2 ^ 63 - 1) / 8:=by
  have:(sizeLine:Nat)<=(2 ^ 63 - 1) / 8:=by decide
  omega
 have c7:¬(!Builtin.List.listFitsIndex k)=true:=by
  rw[fitsIndex_both h1 h2]
  exact bW
 have DK:¬Builtin.List.listTooLong (its.toArray.size*k.toNat)=true:=by
  rw[KZ hlen]
  exact bW
 have zu:List.foldl (λx1 x2=>x1++x2) #[] (List.replicate (if its.toArray.isEmpty=true then 0 else k.toNat) its.toArray)=(List.replicate k.toNat its).flatten.toArray:=by
  have f0:∀m:Nat,List.foldl (λx1 x2=>x1++x2) #[] (List.replicate m its.toArray)=(List.replicate m its).flatten.toArray:=λm=>by
   have:=foldl_rep its m []
   rw[CN] at this
   exact this
  rw[f0]
  cases its with
  |nil=>simp
  |cons a r'=>rw[aq (by simp)]
 refine wpAny_binaryOp_repeat_ref (T:="list") (U:="int") (by decide) ⟨_,e,rfl⟩ (λs'=>typeIs_int s' k t) noFill_list_mul F.fills_int_mul F.slot_int_rmul repeat_list F.slot_int_index.lookup
  (call_meets F.slot_int_rmul (typeIs_int s k t) F.entry_int_rmul (F.args_int_rmul_2 _ _) (int___rmul___int_list k t l its.toArray n)
   ⟨e,rfl,⟨_,e,rfl⟩,call_meets F.slot_list_mul ⟨_,e,rfl⟩ F.entry_list_mul (F.args_list_mul_2 _ _) (AutoListH.list___mul___list_int_3 l its.toArray n k t c7 UK DK) ⟨e,?_⟩⟩)
 rw[zu]
 exact⟨.ref _,_,I.DJ (t':=s.toks) (r.rep k.toNat) (by rw[len_rep,mM];exact hz),rfl,q _ I.fresh⟩
end
section
variable{κ:Type}[DecidableEq κ]
noncomputable def aL(kvs:List (κ×V))(k:κ):Option V:=(kvs.find? λkv=>decide (kv.1=k)).map (·.2)
noncomputable def putK(kvs:List (κ×V))(k:κ)(v:V):List (κ×V):=
 if (kvs.any λkv=>decide (kv.1=k))=true then kvs.map (λkv=>if kv.1=k then (kv.1,v) else kv) else kvs++[(k,v)]
noncomputable def fC(kvs:List (κ×V))(k:κ):List (κ×V):=kvs.filter λkv=>decide (kv.1≠k)
theorem kH{p:κ×V}{r:List (κ×V)}{k:κ}(e:p.1=k):aL (p::r) k=some p.2:=by simp[aL,sN,e]
theorem kI{p:κ×V}{r:List (κ×V)}{k:κ}(e:¬p.1=k):aL (p::r) k=aL r k:=by simp[aL,sN,e]
theorem qU(k:κ):∀kvs:List (κ×V),(kvs.any λkv=>decide (kv.1=k))=(aL kvs k).isSome
 |[]=>rfl
 |p::r=>by
  rw[sM]
  by_cases e:p.1=k
  .simp only[kH e,aG e,Bool.true_or,Option.isSome_some]
  .rw[kI e,aF e,Bool.false_or];exact qU k r
theorem K0(k j:κ)(y:V):∀kvs:List (κ×V),aL (kvs.map λkv=>if kv.1=k then (kv.1,y) else kv) j=(aL kvs j).map λx=>if j=k then y else x
 |[]=>rfl
 |p::r=>by
  have ih:=K0 k j y r
  rw[bL]
  by_cases h:p.1=k
  .rw[ax h]
   by_cases e:p.1=j
   .rw[kH (p:=(p.1,y)) e,kH e,iD,ax (e.symm.trans h)]
   .rw[kI (p:=(p.1,y)) e,kI e,ih]
  .rw[aq h]
   by_cases e:p.1=j
   .rw[kH (p:=p) e,kH e,iD,aq (λz=>h (e.trans z))]
   .rw[kI (p:=p) e,kI e,ih]
theorem K3(k j:κ)(y:V):∀kvs:List (κ×V),aL kvs k=none->aL (kvs++[(k,y)]) j=if j=k then some y else aL kvs j
 |[],_=>by
  by_cases e:k=j
  .rw[ax e.symm];exact kH (p:=(k,y)) e
  .rw[aq (λz=>e z.symm)];exact kI (p:=(k,y)) e
 |p::r,hn=>by
  rw[List.cons_append]
  have hk:¬p.1=k:=λz=>by rw[kH z] at hn;cases hn
  rw[kI hk] at hn
  have ih:=K3 k j y r hn
  by_cases e:p.1=j
  .rw[kH e,kH e,aq (λz=>hk (e.trans z))]
  .rw[kI e,kI e,ih]
theorem nh(kvs:List (κ×V))(k j:κ)(y:V):aL (putK kvs k y) j=if j=k then some y else aL kvs j:=by
 unfold putK
 by_cases a:(kvs.any λkv=>decide (kv.1=k))=true
 .rw[ax a,K0]
  rw[qU] at a
  by_cases e:j=k
  .obtain⟨x,hx⟩:=Option.isSome_iff_exists.mp a
   rw[ax e,e,hx,iD,ax rfl]
  .rw[aq e]
   cases aL kvs j with
   |none=>rfl
   |some x=>rw[iD,aq e]
 .rw[aq a]
  refine K3 k j y kvs ?_
  rw[qU] at a
  cases q:aL kvs k with
  |none=>rfl
  |some x=>rw[q] at a;exact(a rfl).elim
theorem tN(kvs:List (κ×V))(k:κ)(v:V):(putK kvs k v).length<=kvs.length+1:=by
 unfold putK
 split
 .rw[ar];omega
 .rw[cQ,c5,CK];omega
theorem tO{kvs:List (κ×V)}{k:κ}(v:V)(h:aL kvs k=none):putK kvs k v=kvs++[(k,v)]:=by
 unfold putK
 rw[qU,h]
 exact aq (by decide)
theorem eT.we{o:Option V}{u:Option Value}(r:eT o u):o.isSome=u.isSome:=by
 cases o with
 |none=>cases u with
  |none=>rfl
  |some _=>exact(show False from r).elim
 |some _=>cases u with
  |none=>exact(show False from r).elim
  |some _=>rfl
theorem eT.getD{o:Option V}{u:Option Value}{d:V}{d':Value}(r:eT o u)(rd:RelV d d'):RelV (o.getD d) (u.getD d'):=by
 cases o with
 |none=>cases u with
  |none=>exact rd
  |some _=>exact(show False from r).elim
 |some _=>cases u with
  |none=>exact(show False from r).elim
  |some _=>exact r
theorem KV.val{kvs:List (κ×V)}{vs:List (κ×Value)}(r:KV kvs vs)(k:κ):eT (aL kvs k) (valueAt vs k):=by
 unfold KV at r
 induction r with
 |nil=>exact True.intro
 |@cons p q ps qs h t ih=>
  obtain⟨h1,h2⟩:=h
  by_cases e:p.1=k
  .have e':q.1=k:=h1.symm.trans e
   have b:valueAt (q::qs) k=some q.2:=by simp[valueAt,sN,e']
   rw[kH e,b];exact h2
  .have e':¬q.1=k:=λz=>e (h1.trans z)
   have b:valueAt (q::qs) k=valueAt qs k:=by simp[valueAt,sN,e']
   rw[kI e,b];exact ih
theorem KV.any{kvs:List (κ×V)}{vs:List (κ×Value)}(r:KV kvs vs)(k:κ):(kvs.any λkv=>decide (kv.1=k))=vs.any λkv=>decide (kv.1=k):=by
 unfold KV at r
 induction r with
 |nil=>rfl
 |cons h t ih=>rw[sM,sM,ih,h.1]
theorem KV.DM{kvs:List (κ×V)}{vs:List (κ×Value)}(r:KV kvs vs)(k:κ){y:V}{u:Value}(ry:RelV y u) :
  KV (kvs.map λkv=>if kv.1=k then (kv.1,y) else kv) (vs.map λkv=>if kv.1=k then (kv.1,u) else kv):=by
 unfold KV at r ⊢
 induction r with
 |nil=>exact .nil
 |@cons p q ps qs h t ih=>
  rw[bL,bL]
  refine .cons ?_ ih
  obtain⟨h1,h2⟩:=h
  by_cases e:p.1=k
  .rw[ax e,ax (h1.symm.trans e)];exact⟨h1,ry⟩
  .rw[aq e,aq (λz=>e (h1.trans z))];exact⟨h1,h2⟩
theorem KV.put{kvs:List (κ×V)}{vs:List (κ×Value)}(r:KV kvs vs)(k:κ){y:V}{u:Value}(ry:RelV y u):KV (putK kvs k y) (stored vs k u):=by
 unfold putK stored
 rw[r.any k]
 by_cases e:(vs.any λkv=>decide (kv.1=k))=true
 .rw[ax e,ax e];exact r.DM k ry
 .rw[aq e,aq e];exact mN r ⟨rfl,ry⟩
theorem KV.drop{kvs:List (κ×V)}{vs:List (κ×Value)}(r:KV kvs vs)(k:κ):KV (fC kvs k) (without vs k):=by
 unfold KV at r ⊢
 unfold fC without
 induction r with
 |nil=>exact .nil
 |@cons p q ps qs h t ih=>
  obtain⟨h1,h2⟩:=h
  rw[cR,cR]
  by_cases e:p.1=k
  .have a:¬decide (p.1≠k)=true:=by simp[e]
   have b:¬decide (q.1≠k)=true:=by simp[h1.symm.trans e]
   rw[aq a,aq b];exact ih
  .have e':¬q.1=k:=λz=>e (h1.trans z)
   have a:decide (p.1≠k)=true:=by simp[e]
   have b:decide (q.1≠k)=true:=by simp[e']
   rw[ax a,ax b];exact .cons ⟨h1,h2⟩ ih
theorem KV.length{kvs:List (κ×V)}{vs:List (κ×Value)}(r:KV kvs vs):kvs.length=vs.length:=iB r
theorem K4(kvs:List (κ×V))(k:κ):(fC kvs k).length<=kvs.length:=gD _ _
end
theorem qV{P:Program}{w:World}{k:Key}{u:Value}(r:RelV (kV k) u):(bN P w).is k u=true:=by
 cases k with
 |inl i=>obtain⟨t,e⟩:=(show ∃t,u=Value.int i t from r);subst e;exact Sd P w i t
 |inr x=>obtain⟨t,e⟩:=(show ∃t,u=Value.str x t from r);subst e;exact Se P w x t
theorem DN{P:Program}{w:World}:∀{ks:List Key}{us:List Value},Vals (ks.map kV) us->ItemsAre (bN P w) ks us
 |[],_,r=>by rw[vA] at r;cases r;exact .nil
 |k::ks,_,r=>by
  rw[bL] at r
  cases r with
  |cons h t=>exact .cons (qV h) (DN t)
abbrev KT(H:Hp):List (List Key×V)->List (List Key×Addr×Value)->Prop:=Paired λp q=>p.1=q.1/\H q.2.1=some (.tup (p.1.map kV))/\RelV p.2 q.2.2
theorem KT.val{H:Hp}{kvs:List (List Key×V)}{xs:List (List Key×Addr×Value)}(r:KT H kvs xs)(k:List Key):eT (aL kvs k) ((atKey xs k).map (·.2)):=by
 induction r with
 |nil=>exact True.intro
 |@cons p q ps qs h t ih=>
  obtain⟨h1,_,h2⟩:=h
  by_cases e:p.1=k
  .have e':q.1=k:=h1.symm.trans e
   have b:atKey (q::qs) k=some q.2:=by simp[atKey,sN,e']
   rw[kH e,b];exact h2
  .have e':¬q.1=k:=λz=>e (h1.trans z)
   have b:atKey (q::qs) k=atKey qs k:=by simp[atKey,sN,e']
   rw[kI e,b];exact ih
theorem KT.DM{H:Hp}{kvs:List (List Key×V)}{xs:List (List Key×Addr×Value)}(r:KT H kvs xs)(k:List Key){y:V}{u:Value}(ry:RelV y u) :
  KT H (kvs.map λkv=>if kv.1=k then (kv.1,y) else kv) (xs.map (putAt k u)):=by
 induction r with
 |nil=>exact .nil
 |@cons p q ps qs h t ih=>
  rw[bL,bL]
  refine .cons ?_ ih
  obtain⟨h1,h2,h3⟩:=h
  unfold putAt
  by_cases e:p.1=k
  .rw[ax e,ax (h1.symm.trans e)];exact⟨h1,h2,ry⟩
  .rw[aq e,aq (λz=>e (h1.trans z))];exact⟨h1,h2,h3⟩
theorem KT.put{H:Hp}{kvs:List (List Key×V)}{xs:List (List Key×Addr×Value)}(r:KT H kvs xs)(k:List Key){b:Addr}{y:V}{u:Value}(hb:H b=some (.tup (k.map kV)))(ry:RelV y u) :
  KT H (putK kvs k y) (storedH xs k b u):=by
 have e:(kvs.any λkv=>decide (kv.1=k))=(atKey xs k).isSome:=by
  rw[qU,(r.val k).we,Option.isSome_map]
 unfold putK storedH
 rw[e]
 by_cases q:(atKey xs k).isSome=true
 .rw[ax q,ax q];exact r.DM k ry
 .rw[aq q,aq q];exact mN r ⟨rfl,hb,ry⟩
theorem KT.keeps{H H':Hp}{kvs:List (List Key×V)}{xs:List (List Key×Addr×Value)}(r:KT H kvs xs)(ht:∀b ys,H b=some (.tup ys)->H' b=some (.tup ys)):KT H' kvs xs:=
 Paired.bI r λ_ _ z=>⟨z.1,ht _ _ z.2.1,z.2.2⟩
section
variable{P:Program}{w:World}{H:Hp}{h:Heap}{a:Addr}
theorem K5{u:HO}(ok:da P w H h)(e:Rd H a u):cS P w H h a u:=e.ok ok
theorem qW{kvs:List (Key×V)}(ok:da P w H h)(e:Rd H a (.dK kvs)):kvs.length<=sizeLine/\(a==sysModules)=false/\∃vs,KV kvs vs/\h.DictOf (bN P w) a vs:=
 show cS P w H h a (.dK kvs) from K5 ok e
theorem K6{kvs:List (Key×V)}(ok:da P w H h)(e:H a=some (.dK kvs)):kvs.length<=sizeLine/\(a==sysModules)=false/\∃vs,KV kvs vs/\h.DictOf (bN P w) a vs:=qW ok (.inl e)
theorem qX{ks:List Key}(ok:da P w H h)(e:H a=some (.tup (ks.map kV))):(tupleKind (bN P w)).is h ks a:=by
 obtain⟨_,its,r,o,h1,h2,n,h3⟩:=(show cS P w H h a (.tup (ks.map kV)) from ok a _ e)
 exact⟨o,its.toArray,n,h1,h2,h3,by simpa using DN r⟩
theorem qY{kvs:List (List Key×V)}(ok:da P w H h)(e:Rd H a (.dT kvs)):kvs.length<=sizeLine/\(a==sysModules)=false/\
  ∃xs,KT H kvs xs/\h.DictOfH (tupleKind (bN P w)) a xs:=by
 obtain⟨z,y,xs,r,o,es,ep,h1,h2,h3,h4,h5⟩:=(show cS P w H h a (.dT kvs) from K5 ok e)
 refine⟨z,y,xs,r,o,es,ep,h1,h2,h3,h4,λx hx=>?_,h5⟩
 have all:∀{l:List (List Key×V)}{m:List (List Key×Addr×Value)},KT H l m->∀x∈m,(tupleKind (bN P w)).is h x.1 x.2.1:=by
  intro l m q
  induction q with
  |nil=>intro x hx;exact nomatch hx
  |@cons p q ps qs hq t ih=>
   intro x hx
   rcases bX.mp hx with e | hx
   .subst e
    exact qX ok (by rw[<-hq.1];exact hq.2.1)
   .exact ih x hx
 exact all r x hx
theorem K7{kvs:List (List Key×V)}(ok:da P w H h)(e:H a=some (.dT kvs)):kvs.length<=sizeLine/\(a==sysModules)=false/\
  ∃xs,KT H kvs xs/\h.DictOfH (tupleKind (bN P w)) a xs:=qY ok (.inl e)
end
def dO(H:Hp)(a:Addr)(y:V)(r:Option V):Prop:=
 (∃kvs k,Rd H a (.dK kvs)/\y=kV k/\r=aL kvs k)\/∃kvs k b,Rd H a (.dT kvs)/\y = .ref b/\H b=some (.tup (k.map kV))/\r=aL kvs k
def lP(H:Hp)(a:Addr)(y v:V)(H':Hp):Prop:=
 (∃kvs k,H a=some (.dK kvs)/\y=kV k/\kvs.length<sizeLine/\H'=upd H a (.dK (putK kvs k v)))\/
 ∃kvs k b,H a=some (.dT kvs)/\y = .ref b/\H b=some (.tup (k.map kV))/\kvs.length<sizeLine/\H'=upd H a (.dT (putK kvs k v))
theorem dO.k{H:Hp}{a:Addr}{kvs:List (Key×V)}{k:Key}(e:H a=some (.dK kvs)):dO H a (kV k) (aL kvs k) := .inl ⟨kvs,k,.inl e,rfl,rfl⟩
theorem dO.t{H:Hp}{a b:Addr}{kvs:List (List Key×V)}{k:List Key}(e:H a=some (.dT kvs))(eb:H b=some (.tup (k.map kV))):dO H a (.ref b) (aL kvs k) := .inr ⟨kvs,k,b,.inl e,rfl,eb,rfl⟩
theorem lP.k{H:Hp}{a:Addr}{kvs:List (Key×V)}{k:Key}{v:V}(e:H a=some (.dK kvs))(hl:kvs.length<sizeLine):lP H a (kV k) v (upd H a (.dK (putK kvs k v))) := .inl ⟨kvs,k,e,rfl,hl,rfl⟩
theorem lP.t{H:Hp}{a b:Addr}{kvs:List (List Key×V)}{k:List Key}{v:V}(e:H a=some (.dT kvs))(eb:H b=some (.tup (k.map kV)))(hl:kvs.length<sizeLine) :
  lP H a (.ref b) v (upd H a (.dT (putK kvs k v))) := .inr ⟨kvs,k,b,e,rfl,eb,hl,rfl⟩
section
variable{X:Cx}{pins:List (Addr×Obj)}{σ:St}{H:Hp}{s:Shared}{a:Addr}{y v:V}{u r:Value}{o:Option V}{A:Around}{E:Value->Shared->Prop}
theorem Inv.big(I:Inv X pins σ H s):sysModules<s.heap.objs.size:=by
 have h:mainGlobals<s.heap.objs.size:=(I.mod.glob.keeps I.bk).lt
 exact Nat.lt_trans (by decide) h
theorem UL{Q:Value->Shared->Prop}(hu:A.units+1<cLine)(I:Inv X pins σ H s)(g:dO H a y (some v))(ry:RelV y u)(h:∀w' s',Inv X pins σ H s'->RelV v w'->Q w' s') :
  wpAny (model X.prog X.w) A (getItem (.ref a) u) Q E s:=by
 rcases g with ⟨kvs,k,e,ey,l⟩ | ⟨kvs,k,b,e,ey,eb,l⟩
 .subst ey
  obtain⟨z,hd,vs,rel,dd⟩:=qW I.aC e
  obtain⟨w',hw,gZ⟩:=eT.some_of (v:=v) (o:=valueAt vs k) (by rw[l];exact rel.val k)
  exact wpAny_getItem_of (qV ry) dd.mapOf hw (h w' _ (I.tok _) gZ)
 .subst ey
  cases(show u=Value.ref b from ry)
  obtain⟨z,hd,xs,rel,dd⟩:=qY I.aC e
  obtain⟨w',hw,gZ⟩:=eT.some_of (v:=v) (o:=(atKey xs k).map (·.2)) (by rw[l];exact rel.val k)
  obtain⟨p,hp,fE⟩:=iE.mp hw
  refine wpAny_getItem_heap (yC hu) (qX I.aC eb) dd hp ?_
  rw[fE]
  exact h w' _ (I.tok _) gZ
theorem UM{Q:Value->Shared->Prop}(hu:A.units+1<cLine)(I:Inv X pins σ H s)(g:dO H a y o)(ry:RelV y u)(h:∀s',Inv X pins σ H s'->Q (.bool o.isSome) s') :
  wpAny (model X.prog X.w) A (compareOp .In u (.ref a)) Q E s:=by
 rcases g with ⟨kvs,k,e,ey,l⟩ | ⟨kvs,k,b,e,ey,eb,l⟩
 .subst ey
  obtain⟨z,hd,vs,rel,dd⟩:=qW I.aC e
  refine wpAny_in_of (qV ry) hd dd.mapOf ?_
  rw[<-(rel.val k).we,<-l]
  exact h _ (I.tok _)
 .subst ey
  cases(show u=Value.ref b from ry)
  obtain⟨z,hd,xs,rel,dd⟩:=qY I.aC e
  refine wpAny_in_heap (yC hu) (qX I.aC eb) hd dd ?_
  have q:=(rel.val k).we
  rw[Option.isSome_map] at q
  rw[<-q,<-l]
  exact h _ (I.tok _)
theorem UN{Q:Value->Shared->Prop}(hu:A.units+1<cLine)(I:Inv X pins σ H s)(g:dO H a y o)(ry:RelV y u)(h:∀s',Inv X pins σ H s'->Q (.bool (!o.isSome)) s') :
  wpAny (model X.prog X.w) A (compareOp .NotIn u (.ref a)) Q E s:=by
 rcases g with ⟨kvs,k,e,ey,l⟩ | ⟨kvs,k,b,e,ey,eb,l⟩
 .subst ey
  obtain⟨z,hd,vs,rel,dd⟩:=qW I.aC e
  refine wpAny_notIn_of (qV ry) hd dd.mapOf ?_
  rw[<-(rel.val k).we,<-l]
  exact h _ (I.tok _)
 .subst ey
  cases(show u=Value.ref b from ry)
  obtain⟨z,hd,xs,rel,dd⟩:=qY I.aC e
  refine wpAny_notIn_heap (yC hu) (qX I.aC eb) hd dd ?_
  have q:=(rel.val k).we
  rw[Option.isSome_map] at q
  rw[<-q,<-l]
  exact h _ (I.tok _)
theorem zw{h':Heap}{t':Nat}{ob:HO}(I:Inv X pins σ H s)(mu:vJ (H a))(hs:Heap.SameBut a s.heap h')(he:∃q,h'.get? a=some q)(new:cS X.prog X.w (upd H a ob) h' a ob) :
  Inv X pins σ (upd H a ob) { s with heap:=h',toks:=t' } :=
 I.write (x:=a) (e:=a) mu (.inl rfl) (λb q hb z=>(hs.2 b hb).trans z) he new
theorem DO{P:Program}{w:World}{H':Hp}{h':Heap}{kvs:List (Key×V)}{vs:List (Key×Value)}(z:kvs.length<=sizeLine)(hd:(a==sysModules)=false)(rel:KV kvs vs)(dd:h'.DictOf (bN P w) a vs) :
  cS P w H' h' a (.dK kvs):=⟨z,hd,vs,rel,dd⟩
theorem UO{H':Hp}{Q:Unit->Shared->Prop}(hu:A.units+1<cLine)(I:Inv X pins σ H s)(g:lP H a y v H')(ry:RelV y u)(rv:RelV v r)(h:∀s',Inv X pins σ H' s'->Q () s') :
  wpAny (model X.prog X.w) A (setItem (.ref a) u r) Q E s:=by
 rcases g with ⟨kvs,k,e,ey,l,eH⟩ | ⟨kvs,k,b,e,ey,eb,l,eH⟩
 .subst ey eH
  obtain⟨z,hd,vs,rel,dd⟩:=K6 I.aC e
  have hz:vs.length<=sizeLine:=by rw[<-rel.length];exact z
  have hl:(putK kvs k v).length<=sizeLine:=by have:=tN kvs k v;omega
  refine wpAny_setItem_pairs (hsz:=hz) (qV ry) dd λh' ni hs=>h _ ?_
  have he:∃q,h'.get? a=some q:=let ⟨q,_,_,hq,_⟩:=ni;⟨q,hq⟩
  exact zw I (by rw[e];exact True.intro) hs he (DO hl hd (rel.put k rv) ni)
 .subst ey eH
  cases(show u=Value.ref b from ry)
  obtain⟨z,hd,xs,rel,dd⟩:=K7 I.aC e
  have hz:xs.length<=sizeLine:=by rw[<-iB rel];exact z
  have hl:(putK kvs k v).length<=sizeLine:=by have:=tN kvs k v;omega
  refine wpAny_setItem_heap (hsz:=hz) (yC hu) (qX I.aC eb) dd λh' ni hs=>h _ ?_
  obtain⟨q,es,ep,hq,h2,h3,h4,_,h5⟩:=ni
  refine zw I (by rw[e];exact True.intro) hs ⟨q,hq⟩ ⟨hl,hd,_,(rel.put k eb rv).keeps λc ys ec=>?_,q,es,ep,hq,h2,h3,h4,h5⟩
  rw[ak (b0 ec e (λz=>nomatch z))]
  exact ec
end
section
variable{X:Cx}{pins:List (Addr×Obj)}{σ:St}{H:Hp}{s:Shared}{a:Addr}{kvs:List (Key×V)}{k:Key}{u:Value}{A:Around}{E:Value->Shared->Prop}
theorem UP{v:V}{more:List Value}{Q:Value->Shared->Prop}(I:Inv X pins σ H s)(e:H a=some (.dK kvs))(ry:RelV (kV k) u)(l:aL kvs k=some v)(hm:more=[]\/∃x,more=[x])
  (h:∀w' s',Inv X pins σ (upd H a (.dK (fC kvs k))) s'->RelV v w'->Q w' s'):wpAny (model X.prog X.w) A (call (.builtin "dict.pop") (.ref a::u::more)) Q E s:=by
 obtain⟨z,hd,vs,rel,dd⟩:=K6 I.aC e
 obtain⟨w',hw,gZ⟩:=eT.some_of (v:=v) (o:=valueAt vs k) (by rw[<-l];exact rel.val k)
 have hp:(keyPart u).isSome=true:=by
  cases k with
  |inl i=>obtain⟨t,q⟩:=(show ∃t,u=Value.int i t from ry);subst q;rfl
  |inr x=>obtain⟨t,q⟩:=(show ∃t,u=Value.str x t from ry);subst q;rfl
 have ha:argsOk "dict.pop" ⟨.ref a::u::more,[]⟩:=by
  rcases hm with q | ⟨x,q⟩
  .subst q;exact PySem.F.args_dict_pop_2 _ _
  .subst q;exact PySem.F.args_dict_pop_3 _ _ _
 refine call_meetsIn PySem.F.slot_dict_pop dd.typeIs PySem.F.entry_dict_pop ha (meets_dict_pop_there (bN X.prog X.w) a (qV ry) more hm hp)
  ⟨vs,w',dd,by rw[<-rel.length];exact z,hw,λh' ni hs=>h w' _ ?_ gZ⟩
 have he:∃q,h'.get? a=some q:=let ⟨q,_,_,hq,_⟩:=ni;⟨q,hq⟩
 exact zw I (by rw[e];exact True.intro) hs he (DO (bA (K4 kvs k) z) hd (rel.drop k) ni)
end
def K8(i:Expr):Prop := ∀ov iv,subscripted i false ov iv=operate [ov,iv] (getItem ov iv)
theorem UQ{prog:Program}{w:World}{A:Around}{E:Value->Shared->Prop}{s:Shared}{env:Env}{value slice:Expr}{pos:Pos}{T id:String}{Q:Value->Shared->Prop}
  (hl:typeLookup (.type T) "__getitem__"=pure (some (.builtin id))) (hs:K8 slice)
  (h:wpAny (model prog w) A (eval value env) (λo s₁=>wpAny (model prog w) A (eval slice env) (λi s₂=>s₂.TypeIs o T/\wpAny (model prog w) A (getItem o i) Q E s₂) E s₁) E s) :
  wpAny (model prog w) A (eval (.Subscript value slice pos) env) Q E s:=by
 refine Subscript_ (jE h (λo s₁ h₁=>jE h₁ (λi s₂ h₂=>?_) λ_ _ x=>x) λ_ _ x=>x)
 obtain⟨hT,h₂⟩:=h₂
 unfold subscriptTail
 refine ag ?_
 rw[getitemInPython_of_ne hT.not_modules]
 refine ag (CO hT hl ?_)
 have fin:wpAny (model prog w) A (subscripted slice false o i) (λr s₃=>wpAny (model prog w) A (letTemporaryGo value o r >>= λ_=>pure r) Q E s₃) E s₂:=by
  rw[hs o i]
  exact wpAny_operating (jE h₂ (λr s₃ h₃=>ag (wpAny_letTemporaryGo (aJ h₃))) λ_ _ x=>x)
 first
  |exact aJ (ag fin)
  |exact ag (aJ (ag fin))
  |exact ag fin
theorem UR{X:Cx}{pins:List (Addr×Obj)}{σ:St}{H:Hp}{s:Shared}{a:Addr}{y:V}{o:Option V}(I:Inv X pins σ H s)(g:dO H a y o):s.TypeIs (.ref a) "dict":=by
 rcases g with ⟨kvs,k,e,_,_⟩ | ⟨kvs,k,b,e,_,_,_⟩
 .obtain⟨_,_,vs,_,dd⟩:=qW I.aC e
  exact dd.typeIs
 .obtain⟨_,_,xs,_,dd⟩:=qY I.aC e
  exact dd.typeIs
def US(td ty:TE):TE:=λσ H Q=>td σ H λx H1=>ty σ H1 λy H2=>∃a v,x = .ref a/\dO H2 a y (some v)/\Q v H2
def UT(ty td:TE):TE:=λσ H Q=>ty σ H λy H1=>td σ H1 λx H2=>∃a o,x = .ref a/\dO H2 a y o/\Q (.bl o.isSome) H2
def UU(ty td:TE):TE:=λσ H Q=>ty σ H λy H1=>td σ H1 λx H2=>∃a o,x = .ref a/\dO H2 a y o/\Q (.bl (!o.isSome)) H2
def UW(td ty tv:TE):TS:=λD σ H=>tv σ H λv H1=>td σ H1 λx H2=>ty σ H2 λy H3=>∃a H4,x = .ref a/\lP H3 a y v H4/\D.nx σ H4
section
variable{X:Cx}{o i e value:Expr}{pos pos' mY:Pos}{td ty tv:TE}
theorem DP(hu:X.A.units+1<cLine)(ho:PE X o td)(hi:PE X i ty)(hs:K8 i):PE X (.Subscript o i pos) (US td ty):=by
 intro pins s σ H Q I h
 refine UQ PySem.F.slot_dict_getitem.lookup hs (aB (ho pins s σ H _ I h) λu s1 ⟨x,H1,I1,rx,q1⟩=>aB (hi pins s1 σ H1 _ I1 q1) λiv s2 ⟨y,H2,I2,ry,a,v,ex,g,q2⟩=>?_)
 subst ex
 obtain rfl:u=Value.ref a:=rx
 exact⟨UR I2 g,UL hu I2 g ry λw' s3 I3 gZ=>⟨v,H2,I3,gZ,q2⟩⟩
theorem K9(hu:X.A.units+1<cLine)(hi:PE X i ty)(ho:PE X o td):PC X .In i o (UT ty td):=by
 intro pins s σ H Q I h
 refine aB (hi pins s σ H _ I h) λiv s1 ⟨y,H1,I1,ry,q1⟩=>aB (ho pins s1 σ H1 _ I1 q1) λu s2 ⟨x,H2,I2,rx,a,ov,ex,g,q2⟩=>?_
 subst ex
 obtain rfl:u=Value.ref a:=rx
 exact UM hu I2 g ry λs3 I3=>⟨.bl ov.isSome,H2,I3,rfl,q2⟩
theorem La(hu:X.A.units+1<cLine)(hi:PE X i ty)(ho:PE X o td):PC X .NotIn i o (UU ty td):=by
 intro pins s σ H Q I h
 refine aB (hi pins s σ H _ I h) λiv s1 ⟨y,H1,I1,ry,q1⟩=>aB (ho pins s1 σ H1 _ I1 q1) λu s2 ⟨x,H2,I2,rx,a,ov,ex,g,q2⟩=>?_
 subst ex
 obtain rfl:u=Value.ref a:=rx
 exact UN hu I2 g ry λs3 I3=>⟨.bl (!ov.isSome),H2,I3,rfl,q2⟩
theorem zE(hu:X.A.units+1<cLine)(ho:PE X o td)(hi:PE X i ty)(hv:PE X value tv)(hs:swapsWith value (some (.Subscript o i pos')) pos.line X.env=pure false) :
  PS X (.Assign [.Subscript o i pos'] value pos) (UW td ty tv):=by
 intro pins s σ H D I h
 refine wpAny_Assign_Subscript (aB (hv pins s σ H _ I h) λr s1 ⟨v,H1,I1,rv,q1⟩=>aB (ho pins s1 σ H1 _ I1 q1) λu s2 ⟨x,H2,I2,rx,q2⟩=>aB (hi pins s2 σ H2 _ I2 q2) λiv s3 ⟨y,H3,I3,ry,a,H4,ex,g,q3⟩=>?_) hs
 subst ex
 obtain rfl:u=Value.ref a:=rx
 exact UO hu I3 g ry rv λs4 I4=>⟨σ,H4,I4,q3⟩
end
theorem UX{P:Program}{w:World}{H:Hp}(h:Heap)(hb:sysModules<h.objs.size):cS P w H (h.push { cls := .type "dict",data := .dict #[] }) h.objs.size (.dK []):=
 ⟨bx _,sI.mpr (bj (bU hb)),[],.nil,Heap.DictOf.new h⟩
theorem UY{P:Program}{w:World}{H:Hp}(h:Heap)(hb:sysModules<h.objs.size):cS P w H (h.push { cls := .type "dict",data := .dict #[] }) h.objs.size (.dT []):=
 ⟨bx _,sI.mpr (bj (bU hb)),[],.nil,_,#[],0,cw _ rfl,⟨rfl,rfl,rfl⟩,rfl,rfl,iF⟩
def UZ:TE:=λ_ H Q=>∀p,H p=none->Q (.ref p) (upd H p (.dK []))
def U0:TE:=λ_ H Q=>∀p,H p=none->Q (.ref p) (upd H p (.dT []))
section
variable{X:Cx}{pos:Pos}
theorem DQ:PE X (.Dict [] [] pos) UZ:=λpins s σ H Q I h=>
 wpAny_Dict_empty ⟨.ref s.heap.objs.size,_,I.laid (a:=s.heap.objs.size) (o := .dK []) (t':=s.toks) (λ_ _ q=>bw _ q) (aQ _) (UX s.heap I.big),rfl,h _ (I.aC.fresh (aQ _))⟩
theorem Lb:PE X (.Dict [] [] pos) U0:=λpins s σ H Q I h=>
 wpAny_Dict_empty ⟨.ref s.heap.objs.size,_,I.laid (a:=s.heap.objs.size) (o := .dT []) (t':=s.toks) (λ_ _ q=>bw _ q) (aQ _) (UY s.heap I.big),rfl,h _ (I.aC.fresh (aQ _))⟩
end
structure M1(X:Cx)(o:Expr)(m:Str)(apos:Pos)(e:Expr)(c6:Pos):Prop where
 base:attributeBase o m X.env (eval o X.env)=eval o X.env
 dm:((backTo c6 (starEach [e] X.env)).all (λx=>!x.1)&&(backToKw c6 (keywordEach [] X.env)).all (λx=>x.1.isSome)
  && decide (([e]:List Expr).length+([]:List Keyword).length+(if ([]:List Keyword).isEmpty then 0 else 1)<30))=true
 line:(apos.endLine==c6.line)=true
 trees:backTo c6 (starEach [e] X.env)=[(false,eval e X.env)]
structure M2(X:Cx)(o:Expr)(m:Str)(apos:Pos)(e f:Expr)(c6:Pos):Prop where
 base:attributeBase o m X.env (eval o X.env)=eval o X.env
 dm:((backTo c6 (starEach [e,f] X.env)).all (λx=>!x.1)&&(backToKw c6 (keywordEach [] X.env)).all (λx=>x.1.isSome)
  && decide (([e,f]:List Expr).length+([]:List Keyword).length+(if ([]:List Keyword).isEmpty then 0 else 1)<30))=true
 line:(apos.endLine==c6.line)=true
 trees:backTo c6 (starEach [e,f] X.env)=[(false,eval e X.env),(false,eval f X.env)]
def zF(H:Hp)(a:Addr):Prop:=(∃kvs,Rd H a (.dK kvs))\/∃kvs,Rd H a (.dT kvs)
theorem DR{X:Cx}{pins:List (Addr×Obj)}{σ:St}{H:Hp}{s:Shared}{a:Addr}(I:Inv X pins σ H s)(d:zF H a) :
  s.TypeIs (.ref a) "dict"/\(∀b,Value.ref a = .ref b->∃ob,s.heap.get? b=some ob/\ob.dict=none)/\(a==sysModules)=false:=by
 rcases d with ⟨kvs,e⟩ | ⟨kvs,e⟩
 .obtain⟨_,hd,vs,_,dd⟩:=qW I.aC e
  refine⟨dd.typeIs,λb q=>?_,hd⟩
  cases q
  obtain⟨ob,_,_,h1,h2,_⟩:=dd
  exact⟨ob,h1,h2.2.1⟩
 .obtain⟨_,hd,xs,_,dd⟩:=qY I.aC e
  refine⟨dd.typeIs,λb q=>?_,hd⟩
  cases q
  obtain⟨ob,_,_,h1,h2,_⟩:=dd
  exact⟨ob,h1,h2.2.1⟩
section
variable{X:Cx}{pins:List (Addr×Obj)}{σ:St}{H:Hp}{s:Shared}{a:Addr}{y d:V}{u r:Value}{o:Option V}{A:Around}{E:Value->Shared->Prop}
theorem U1{Q:Value->Shared->Prop}(hu:A.units+1<cLine)(I:Inv X pins σ H s)(g:dO H a y o)(ry:RelV y u)(rd:RelV d r)(h:∀w' s',Inv X pins σ H s'->RelV (o.getD d) w'->Q w' s') :
  wpAny (model X.prog X.w) A (call (.builtin "dict.get") [.ref a,u,r]) Q E s:=by
 rcases g with ⟨kvs,k,e,ey,l⟩ | ⟨kvs,k,b,e,ey,eb,l⟩
 .subst ey
  obtain⟨z,hd,vs,rel,dd⟩:=qW I.aC e
  refine call_meetsIn RS dd.typeIs PySem.F.entry_dict_get (PySem.F.args_dict_get_3 _ _ _) (meets_dict_get_default (bN X.prog X.w) a (qV ry) hd r) ⟨_,dd.mapOf,h _ _ (I.tok _) ?_⟩
  rw[l]
  exact(rel.val k).getD rd
 .subst ey
  cases(show u=Value.ref b from ry)
  obtain⟨z,hd,xs,rel,dd⟩:=qY I.aC e
  refine call_meetsIn RS dd.typeIs PySem.F.entry_dict_get (PySem.F.args_dict_get_3 _ _ _) (meetsH_dict_get_default (tupleKind (bN X.prog X.w)) a b hd r) ⟨yC hu,k,xs,qX I.aC eb,dd,h _ _ (I.tok _) ?_⟩
  rw[l]
  exact(rel.val k).getD rd
end
def U2(td ty tx:TE):TE:=λσ H Q=>td σ H λx H1=>∃a,x = .ref a/\zF H1 a/\ty σ H1 λy H2=>tx σ H2 λz H3=>∃o,dO H3 a y o/\Q (o.getD z) H3
def U3(td ty:TE):TE:=λσ H Q=>td σ H λx H1=>∃a,x = .ref a/\zF H1 a/\ty σ H1 λy H2=>∃kvs k v,H2 a=some (.dK kvs)/\y=kV k/\aL kvs k=some v/\Q v (upd H2 a (.dK (fC kvs k)))
section
variable{X:Cx}{o e f:Expr}{apos c6:Pos}{td ty tx:TE}
theorem Lc(hu:X.A.units+1<cLine)(ho:PE X o td)(he:PE X e ty)(hf:PE X f tx)(m:M2 X o "get" apos e f c6):PE X (.Call (.Attribute o "get" apos) [e,f] [] c6) (U2 td ty tx):=by
 intro pins s σ H Q I h
 refine wpAny_Call_method m.base m.dm m.line RT RS PySem.F.type_dict_get (aB (ho pins s σ H _ I h) λu s1 ⟨x,H1,I1,rx,a,ex,d,q1⟩=>?_)
 subst ex
 obtain rfl:u=Value.ref a:=rx
 obtain⟨t1,t2,_⟩:=DR I1 d
 refine⟨t1,t2,?_⟩
 rw[m.trees]
 refine Jr rfl (Js (yx (aB (he pins s1 σ H1 _ I1 q1) λiv s2 ⟨y,H2,I2,ry,q2⟩=>
  yx (aB (hf pins s2 σ H2 _ I2 q2) λfv s3 ⟨z,H3,I3,rz,ov,g,q3⟩=>Jn ?_))))
 exact U1 hu I3 g ry rz λw' s4 I4 gZ=>⟨_,H3,I4,gZ,q3⟩
theorem U4(ho:PE X o td)(he:PE X e ty)(m:M1 X o "pop" apos e c6):PE X (.Call (.Attribute o "pop" apos) [e] [] c6) (U3 td ty):=by
 intro pins s σ H Q I h
 refine wpAny_Call_method m.base m.dm m.line RT PySem.F.slot_dict_pop PySem.F.type_dict_pop (aB (ho pins s σ H _ I h) λu s1 ⟨x,H1,I1,rx,a,ex,d,q1⟩=>?_)
 subst ex
 obtain rfl:u=Value.ref a:=rx
 obtain⟨t1,t2,_⟩:=DR I1 d
 refine⟨t1,t2,?_⟩
 rw[m.trees]
 refine Jr rfl (Js (yx (aB (he pins s1 σ H1 _ I1 q1) λiv s2 ⟨y,H2,I2,ry,kvs,k,v,ea,ey,l,q2⟩=>Jn ?_)))
 subst ey
 exact UP I2 ea ry l (.inl rfl) λw' s3 I3 gZ=>⟨v,_,I3,gZ,q2⟩
end
end L2
namespace jU
open PySem PySem.W PySem.Calls PyProof.Rows
theorem U5{P:Params}{h:Heap}:∀(ns:List Int) (vs:List Value),WellAll P h vs (ns.map WData.int)->IntsAre vs ns:=by
 intro ns
 induction ns with
 |nil=>
  intro vs w
  rw[vA] at w
  cases w
  exact .nil
 |cons n ns ih=>
  intro vs w
  rw[bL] at w
  cases w with
  |cons a b=>
   cases a
   exact .cons _ _ (ih _ b)
theorem U6{l:OpenLaw}{n:Nat}(hn:l.most=some n){P:Params}{h:Heap}{args:List WData}{vals:List Value}
  (zG:l.row.toRowW.claim.pre args=true) (qZ:WellAll P h vals args) :
  ∃a vs ns,vals=[Value.ref a]/\args=[WData.list (ns.map WData.int)]/\h.get? a=some { cls := .type "list",data := .seq vs.toArray }/\IntsAre vs ns/\ns.length<=n:=by
 have gG:WShape.hasAll [] args [.list .int]=true:=(pre_splitW zG).1
 have hc:l.pre.holds [] { args:=args }=true:=(pre_splitW zG).2
 obtain⟨d,r,rfl,h1,h2⟩:=hasAllW_cons gG
 obtain rfl:=hasAllW_nil h2
 obtain⟨xs,rfl,h3⟩:=hasW_list h1
 obtain⟨ns,rfl⟩:=items_int h3
 have hlen:ns.length<=n:=by
  unfold OpenLaw.pre at hc
  have h4:(WTm.not (.lt (.lit (.int (n:Int))) (.len (.arg 0)))).holds [] { args:=[.list (ns.map .int)] }=true:=by
   have h4:=(holds_andW hc).1
   rw[hn] at h4
   exact h4
  have h5:=condW_of h4 (w_not (w_lt w_lit (w_len_list (w_arg rfl))))
  rw[ar] at h5
  refine Jt λq=>?_
  have q':(n:Int)<((ns.length:Nat):Int):=by omega
  first
   |(rw[aG q'] at h5;exact absurd h5 (by decide))
   |(simp at h5;omega)
 cases qZ with
 |cons w1 w2=>
  cases w2
  cases w1 with
  |list ho dB=>exact⟨_,_,ns,rfl,rfl,ho,U5 ns _ dB,hlen⟩
theorem U7(l:OpenLaw)(args:List WData):l.row.toRowW.claim.post args (.bool true) args=true:=
 postW_of (r:=l.row.toRowW) (X:=(true==true))
  (show WShape.has [] (.bool true) .bool=true by first | rfl | decide | simp[WShape.has,WShape.arms,WShape.armsAll])
  (show(WTm.eq .res (.lit (.bool true))).value [] { args:=args,res:=some (.bool true),after:=args }=some (.bool (true==true)) from w_eq_bool (w_res rfl) w_lit) rfl
theorem U8{l:OpenLaw}{n:Nat}{q:Program}{loose:List Str}{XP:(Str->Option Value)->Heap->Prop}{YP:World->Heap->Prop}{d:DefRec}
  (hn:l.most=some n) (wg:d.params.defaults=[])
  (call:∀(w:World) (s₀ s₁:Shared) (mg mb:Str->Option Value) (fa:Addr) (o:Obj) (pm cd doc:Value) (a:Addr) (vs:List Value) (ns:List Int),
   Ground q loose [] XP w s₀ mg mb s₁.heap->YP w s₁.heap->
   s₁.heap.get? fa=some o->o.data = .func (docDef d.name d.params d.body d.scope pm cd doc)->s₁.heap.CodeRec cd d.name->mg d.name=some (.ref fa)->
   s₁.heap.get? a=some { cls := .type "list",data := .seq vs.toArray }->IntsAre vs ns->ns.length<=n->s₁.gens = #[]->
   codeAny (model l.prog w) callerA (.call (.ref fa) ⟨[.ref a],[]⟩) (λr s'=>r = .ok (.ret (.bool true))/\OldK s₁.heap s'.heap/\s'.os=s₁.os/\AllBare s'.gens) s₁) :
  WalkO q loose XP YP l.row.toRowW d [] (λf vs=>PySem.call f vs):=by
 intro w s₀ s₁ mg mb G Y fa o pm cd doc dV kV ho hd iM hD hmg hg args vals as zG age hrd qZ pe
 obtain rfl:dV = .none:=Dflts.none hD wg
 obtain rfl:kV = .none:=Dflts.noKw hD
 obtain⟨a,vs,ns,rfl,rfl,DS,hints,hlen⟩:=U6 hn zG qZ
 refine enter_call (vx (call w s₀ s₁ mg mb fa o pm cd doc a vs ns G Y ho (fd_plain hd) iM hmg DS hints hlen hg) λr s' hq=>?_)
 obtain⟨rfl,h2,h3,h4⟩:=hq
 exact⟨.inl ⟨.bool true,.bool true,[],rfl,λ_=>rfl,.bool true,U7 l _,λ_=>⟨List.Pairwise.nil,λ_ hm=>(nomatch hm)⟩⟩,h2,h3,h4⟩
section
variable{prog:Program}{w:World}{A:Around}{E:Value->Shared->Prop}{s:Shared}{K:Frag}
noncomputable def zH(h:Heap):Heap:={ h with objs := #[] }
theorem zI(h:Heap)(b:Addr):(zH h).get? b=none:=by
 cases e:(zH h).get? b with
 |none=>rfl
 |some o=>exact absurd (bE e) (fZ _)
noncomputable def ledger(h:Heap)(L d:Addr):List (Addr×Obj):=(List.range h.objs.size).filterMap λa=>if a=L\/a=d then none else (h.get? a).map λo=>(a,o)
theorem DT{h:Heap}{L d a:Addr}{o:Obj}:(a,o)∈ledger h L d↔a≠L/\a≠d/\h.get? a=some o:=by
 unfold ledger
 rw[List.mem_filterMap]
 constructor
 .rintro⟨b,_,e⟩
  split at e
  .cases e
  .rename_i hb
   obtain⟨o',ho,e'⟩:=iE.mp e
   cases e'
   exact⟨λq=>hb (.inl q),λq=>hb (.inr q),ho⟩
 .rintro⟨n1,n2,ho⟩
  refine⟨a,eC.mpr (bE ho),?_⟩
  rw[aq (show ¬(a=L\/a=d) from λq=>q.elim n1 n2),ho] <;> rfl
theorem U9{h:Heap}{L:Addr}{m:Str->Option Value}(n:h.Ns L m):Fr (zH h) L h m:=
 ⟨n,λb o e=>(by rw[zI] at e;cases e),bx _⟩
end
end jU
namespace L2
open PySem PySem.Spec PyProof.Rows
theorem Ld:∀{vs:List Value}{ns:List Int},IntsAre vs ns->Vals (ns.map V.int) vs
 |_,_,.nil=>.nil
 |_,_,.cons n t h=>.cons ⟨t,rfl⟩ (Ld h)
def DU(H:Hp):Prop := ∀b,H b=none\/∃o xs,H b=some (.dJ o (.lst xs))
theorem Va{P:Program}{w:World}{K:PySem.W.Frag}{mg mb:Str->Option Value}{CX:kE}{k:Nat}{fa a:Addr}{fd:FuncData}{x:Str}{sp:Sp}{s₁:Shared}{vs:List Value}{ns:List Int}
  (KX:K.In s₁.heap) (Le:s₁.heap.Ns mainGlobals mg) (hb:s₁.heap.Ns builtinsNs mb) (wk:∀x:Str,x≠"__name__"->mb x=bootBuiltins x) (Vb:s₁.heap.NoLimit) (hg:s₁.gens = #[])
  (ha:s₁.heap.get? a=some { cls := .type "list",data := .seq vs.toArray }) (hi:IntsAre vs ns) (hl:ns.length<=sizeLine) (hr:b7 k callerA)
  (F:∀base:Heap,K.In base->base.Ns mainGlobals mg->aM P w K mg base CX k fa fd [x] sp) (Vc:∀(s:Shared) (u:Value),BindsTo s fd ⟨[u],[]⟩ [(x,u)])
  (lL:∀H:Hp,DU H->aj K H a (ns.map V.int)->sp [.ref a] H (λv _=>v = .bl true) λ_ _ _=>False)
  (DV:∀H e s',CX [] H s₁ (λ_ _ _=>False) e s'->False) :
  codeAny (model P w) callerA (.call (.ref fa) ⟨[.ref a],[]⟩) (λr s'=>r = .ok (.ret (.bool true))/\OldK s₁.heap s'.heap/\s'.os=s₁.os/\AllBare s'.gens) s₁:=by
 have rv:=Ld hi
 have Vd:=hi.length
 have core:∀H:Hp,DU H->aj K H a (ns.map V.int)->da P w H s₁.heap->(∀b,H b≠none->b=a)->(H a≠none->K.lookup a=none)->
   codeAny (model P w) callerA (.call (.ref fa) ⟨[.ref a],[]⟩) (λr s'=>r = .ok (.ret (.bool true))/\OldK s₁.heap s'.heap/\s'.os=s₁.os/\AllBare s'.gens) s₁:=by
  intro H hO hS aC hA hK
  have Lf:∀{b:Addr}{o:Obj},s₁.heap.get? b=some o->H b=none->(mS s₁.heap H).get? b=some o:=λe n=>Si e n
  have vZ:∀{b:Addr}{o:Obj}{es:Array DictEntry}{ep:Nat},s₁.heap.get? b=some o->o.data = .dict es ep->H b=none:=λ{b o es ep} e d=>by
   cases q:H b with
   |none=>rfl
   |some u=>
    have e':b=a:=hA b (by rw[q];simp)
    subst e'
    rw[ha] at e;cases e
    have d':Data.seq vs.toArray _=Data.dict es ep:=d
    cases d'
  have zJ:∀{b:Addr}{m:Str->Option Value},s₁.heap.Ns b m->(mS s₁.heap H).Ns b m:=λ{b m} ⟨o,es,ep,e,d,r⟩=>⟨o,es,ep,Lf e (vZ e d),d,r⟩
  have Lg:K.In (mS s₁.heap H):=λb o e=>Lf (KX b o e) (by
   cases q:H b with
   |none=>rfl
   |some u=>
    have e':b=a:=hA b (by rw[q];simp)
    subst e'
    rw[hK (by rw[q];simp)] at e;cases e)
  have hM:Mod K mg (mS s₁.heap H):=⟨Lg,zJ Le,⟨mb,zJ hb,wk⟩,let ⟨mc,h1,h2⟩:=Vb;⟨mc,zJ h1,h2⟩⟩
  have e0:kF P w K mg (mS s₁.heap H) callerA [] s₁ H:=⟨rfl,hM,λb o e=>Sj e,Nat.le_of_eq (Sh _ _),trivial,λb hb=>absurd (show b∈([]:List Addr) from hb) (by simp),aC,.of_eq hg⟩
  refine vx ((F _ Lg (zJ Le)).run callerA [] s₁ H ⟨[.ref a],[]⟩ [.ref a] [.ref a] _ _ hr e0 (Vc s₁ (.ref a)) (.cons rfl .nil) (lL H hO hS)) λr s' h=>?_
  cases r with
  |error e=>exact(DV H e s' h).elim
  |ok fl=>
   cases fl with
   |next=>exact False.elim h
   |brk=>exact False.elim h
   |cont=>exact False.elim h
   |ret u=>
    obtain⟨v,H',os,bare,un,Ve,r',q⟩:=h
    have q':v = .bl true:=q
    subst q'
    obtain rfl:u=Value.bool true:=r'
    refine⟨rfl,OldK.of_keep λb o e=>?_,os,bare⟩
    cases q:H b with
    |none=>exact un.keep b o e q (by intro z;exact absurd (show b∈([]:List Addr) from z) (by simp)) (by simp)
    |some u=>
     rcases hO b with z | ⟨ob,xs,z⟩
     .rw[q] at z;cases z
     .have z2:=un.jM b ob _ z
      obtain⟨e1,_⟩:=aC b _ z
      obtain⟨e2,_⟩:=Ve b _ z2
      rw[e] at e1;cases e1
      exact e2
 cases hk:K.lookup a with
 |some o=>
  have e:=KX a o hk
  rw[ha] at e
  cases e
  refine core (λ_=>none) (λ_=>.inl rfl) (.inr ⟨_,vs.toArray,_,hk,rfl,rfl,rfl,by rw[bp,Vd];exact hl,by simpa using rv⟩) (λb u z=>by have z':(none:Option HO)=some u:=z;cases z') (λb z=>absurd rfl z) λz=>absurd rfl z
 |none=>
  refine core (λb=>if b=a then some (.dJ { cls := .type "list",data := .seq vs.toArray } (.lst (ns.map V.int))) else none) (λb=>?_) (.inl (.inr ⟨{ cls := .type "list",data := .seq vs.toArray },ax rfl⟩)) (λb u z=>?_) (λb z=>?_) λ_=>hk
  .by_cases hb:b=a
   .exact .inr ⟨_,_,ax hb⟩
   .exact .inl (aq hb)
  .by_cases hb:b=a
   .have z':=(ax hb).symm.trans z
    cases z'
    subst hb
    exact⟨ha,by rw[ar];exact hl,vs,_,rv,ha⟩
   .have z':=(aq hb).symm.trans z
    cases z'
  .by_cases hb:b=a
   .exact hb
   .exact absurd (aq hb) z
theorem Vf{l:PySem.W.OpenLaw}{n k:Nat}{q:Program}{loose:List Str}{XP:(Str->Option Value)->Heap->Prop}{YP:World->Heap->Prop}{d:DefRec}{K:Params->PySem.W.Frag}{CX:World->kE}{sp:World->Sp}{x:Str}
  (hn:l.most=some n) (qS:n<=sizeLine) (wg:d.params.defaults=[]) (hr:b7 k callerA)
  (hY:∀(w:World) (h:Heap),YP w h->(K w.params).In h)
  (F:∀(w:World) (mg:Str->Option Value) (fa:Addr) (h:Heap),(K w.params).In h->h.Ns mainGlobals mg->mg d.name=some (.ref fa)->
   ∃fd:FuncData,(∀(s:Shared) (u:Value),BindsTo s fd ⟨[u],[]⟩ [(x,u)])/\
    ∀base:Heap,(K w.params).In base->base.Ns mainGlobals mg->aM l.prog w (K w.params) mg base (CX w) k fa fd [x] (sp w))
  (lL:∀(w:World) (H:Hp) (a:Addr) (ns:List Int),ns.length<=n->DU H->aj (K w.params) H a (ns.map V.int)->sp w [.ref a] H (λv _=>v = .bl true) λ_ _ _=>False)
  (DV:∀(w:World) (H:Hp) (s:Shared) (e:Value) (s':Shared),CX w [] H s (λ_ _ _=>False) e s'->False) :
  PySem.W.WalkO q loose XP YP l.row.toRowW d [] (λf vs=>PySem.call f vs):=by
 refine jU.U8 hn wg λw s₀ s₁ mg mb fa o pm cd doc a vs ns G Y ho hd iM hmg DS hints hlen hg=>?_
 have KX:=hY w _ Y
 obtain⟨fd,hb,hF⟩:=F w mg fa _ KX G.T.g hmg
 exact Va KX G.T.g G.T.b G.T.builtins G.T.nolimit hg DS hints (bA hlen qS) hr hF hb (λH hO hS=>lL w H a ns hlen hO hS) λH e s'=>DV w H s₁ e s'
noncomputable def inClass(s:Stmt)(j:Nat):Stmt:=match s with
 |.ClassDef _ _ _ body _ _ _ _ _ _ _=>body.getD j (.Pass ⟨0,0,0,0⟩)
 |_=>.Pass ⟨0,0,0,0⟩
noncomputable def pf(s:Stmt):Arguments:=match s with
 |.FunctionDef _ a _ _ _ _ _ _ _ _=>a
 |_=>{ posonlyargs:=[],args:=[],vararg:=none,kwonlyargs:=[],kw_defaults:=[],kwarg:=none,defaults:=[] }
noncomputable def jV(s:Stmt):List Stmt:=match s with
 |.FunctionDef _ _ b _ _ _ _ _ _ _=>b
 |_=>[]
noncomputable def aS(s:Stmt):Scope:=match s with
 |.FunctionDef _ _ _ _ _ _ sc _ _ _=>sc
 |_=>{ kind := .function,names:=[],isGenerator:=false,isCoroutine:=false }
noncomputable abbrev aR:kE:=λ_ _ _ _ _ _=>False
abbrev E0:XK:=λ_ _ _=>False
theorem wm{X:Cx}:Passes aR X E0:=λ_ _ _ _ _ _ _ h=>h.elim
structure aW(K:PySem.W.Frag)(x qual:Str)(st:Stmt)(f:Addr)(fd:FuncData):Prop where
 ex:∃(oc:Value) (od:Option Addr) (kV doc pm:Value) (an:Option Addr) (aH ct:Value) (jQ:Array (Option Value)),
  fd=PySem.W.fnOf x qual (pf st) (jV st) (aS st) .none kV doc pm an aH ct/\K.lookup f=some ⟨oc,od,.func fd,jQ⟩/\PySem.W.codeIn K aH qual=true
 kp:PySem.W.keepIn K (.ref f)=true
section
variable{P:Program}{w:World}{K:PySem.W.Frag}{mg:Str->Option Value}{base:Heap}
theorem aW.ok{x qual:Str}{st:Stmt}{f:Addr}{fd:FuncData}{N ps:List Str}{k:Nat}{sp:Sp}(F:aW K x qual st f fd)(S:bc N ps (aS st))(len:∀vs H Q E,sp vs H Q E->vs.length=ps.length)
  (m5:∀(aH:Value) (A:Around) (outer:List Env) (s:Shared) (H:Hp) (vs:List V) (Q:VK) (E:XK),b7 k (A.deeper (envOfC qual (aS st) s.heap.objs.size f aH))->sp vs H Q E->
   ∃t,gc (mZ aR P w K mg base N qual (aS st) f aH A outer s H E).oQ (jV st) t/\t { nx:=λ_ H'=>Q .aA H',rt:=Q } (start N vs) H):aM P w K mg base aR (k+1) f fd ps sp:=by
 obtain⟨oc,od,kV,doc,pm,an,aH,ct,jQ,rfl,lk,iM⟩:=F.ex
 refine zj lk iM S len λA outer s H vs Q E hr lL=>?_
 obtain⟨t,h,q⟩:=m5 aH A outer s H vs Q E hr lL
 exact⟨t,h.oQ,q⟩
theorem aW.binds{x qual:Str}{st:Stmt}{f:Addr}{fd:FuncData}{ps:List Str}(F:aW K x qual st f fd)
  (h:∀(kV doc pm:Value) (an:Option Addr) (aH ct:Value) (us:List Value),us.length=ps.length->bindArgs (PySem.W.fnOf x qual (pf st) (jV st) (aS st) .none kV doc pm an aH ct) ⟨us,[]⟩=pure (ps.zip us)):Binds K fd ps []:=by
 obtain⟨oc,od,kV,doc,pm,an,aH,ct,jQ,rfl,lk,iM⟩:=F.ex
 exact .all (h kV doc pm an aH ct)
theorem zK{x qual:Str}{st:Stmt}{f:Addr}{oc:Value}{od an:Option Addr}{jQ:Array (Option Value)}{kV doc pm aH ct:Value}(l:K.lookup f=some ⟨oc,od,.func (PySem.W.fnOf x qual (pf st) (jV st) (aS st) .none kV doc pm an aH ct),jQ⟩)
  (c:PySem.W.codeIn K aH qual=true) (k:PySem.W.keepIn K (.ref f)=true):aW K x qual st f (PySem.W.fnOf x qual (pf st) (jV st) (aS st) .none kV doc pm an aH ct):=⟨⟨oc,od,kV,doc,pm,an,aH,ct,jQ,rfl,l,c⟩,k⟩
end
theorem jW{A:Around}{k:Nat}(hr:b7 k A):A.units+1<cLine:=lz (Nat.add_le_add_left (by decide:1<=64) _) hr.units
theorem Vg{n:Nat}(h:n<=1000):n<sizeLine:=lz h (by decide)
section
variable{X:Cx}
theorem pv(i:Nat){x:Str}{pos:Pos}(hN:X.N[i]? = some x:=by rfl)(hv:C7 X.env.scope x:=by first | exact Or.inl rfl | exact Or.inr (Or.inl rfl) | exact Or.inr (Or.inr rfl))(hd:(x==("__debug__":Str))=false:=by decide)
  (iM:(x==("__classdict__":Str))=false:=by decide):PE X (.Name x pos) (Ka i):=Sr hN hv hd iM
end
theorem bf{A B:Prop}(h:B):if false=true then A else B:=by
 rw[aq bW]
 exact h
theorem bz{A B:Prop}(h:A):if true=true then A else B:=by
 rw[ax rfl]
 exact h
theorem eM{c A B:Prop}[Decidable c](h1:c->A)(h2:¬c->B):if c then A else B:=by
 by_cases h:c
 .rw[ax h]
  exact h1 h
 .rw[aq h]
  exact h2 h
def af(H H':Hp):Prop := ∀b o,H b=some o->H' b=some o
theorem af.refl(H:Hp):af H H:=λ_ _ h=>h
theorem af.trans{H H1 H2:Hp}(a:af H H1)(b:af H1 H2):af H H2:=λc o h=>b c o (a c o h)
theorem af.free{H H':Hp}(e:af H H'){l:Addr}(h:H' l=Option.none):H l=Option.none:=by
 cases q:H l with
 |none=>rfl
 |some o=>
  rw[e l o q] at h
  cases h
theorem af.seq{K:PySem.W.Frag}{H H':Hp}{a:Addr}{xs:List V}(e:af H H')(h:aj K H a xs):aj K H' a xs:=by
 rcases h with (h | ⟨o,h⟩) | h
 .exact .inl (.inl (e _ _ h))
 .exact .inl (.inr ⟨o,e _ _ h⟩)
 .exact .inr h
section
variable{κ:Type}[DecidableEq κ]
theorem DW{kvs:List (κ×V)}{k:κ}(h:aL kvs k=none):¬k∈kvs.map (·.1):=by
 intro m
 obtain⟨p,hp,e⟩:=bt.mp m
 have q:(kvs.any λkv=>decide (kv.1=k))=true:=yD.mpr ⟨p,hp,aG e⟩
 rw[qU,h] at q
 exact absurd q (by simp)
theorem Lh{kvs:List (κ×V)}{k:κ}{v:V}(h:aL kvs k=some v):k∈kvs.map (·.1):=by
 have q:(kvs.any λkv=>decide (kv.1=k))=true:=by
  rw[qU,h]
  all_goals rfl
 obtain⟨p,hp,e⟩:=yD.mp q
 exact bt.mpr ⟨p,hp,eQ e⟩
theorem Li:∀{l:List κ}{k:κ},l.Nodup->¬k∈l->(l++[k]).Nodup
 |[],k,_,_=>by simp
 |a::r,k,h,hk=>by
  obtain⟨h1,h2⟩:=fq.mp h
  show(a::(r++[k])).Nodup
  refine fq.mpr ⟨λm=>?_,Li h2 λm=>hk (bX.mpr (Or.inr m))⟩
  rcases dh.mp m with q | q
  .exact h1 q
  .exact hk (bX.mpr (Or.inl (cg.mp q).symm))
theorem Vh{kvs:List (κ×V)}{k:κ}(v:V)(hn:(kvs.map (·.1)).Nodup)(h:aL kvs k=none):((putK kvs k v).map (·.1)).Nodup:=by
 rw[tO v h,dW]
 exact Li hn (DW h)
theorem Vi{p:κ×V}{r:List (κ×V)}{k:κ}(e:p.1=k):fC (p::r) k=fC r k:=by
 unfold fC
 rw[cR,aq (by simp[e])]
theorem Vj{p:κ×V}{r:List (κ×V)}{k:κ}(e:¬p.1=k):fC (p::r) k=p::fC r k:=by
 unfold fC
 rw[cR,ax (by simp[e])]
theorem Lj{kvs:List (κ×V)}{k:κ}{p:κ×V}(h:p∈fC kvs k):p∈kvs:=(bQ.mp h).1
theorem DX:∀{kvs:List (κ×V)}{k:κ},(kvs.map (·.1)).Nodup->((fC kvs k).map (·.1)).Nodup
 |[],_,_=>iF
 |p::r,k,h=>by
  have h:(p.1::r.map (·.1)).Nodup:=h
  obtain⟨h1,h2⟩:=fq.mp h
  by_cases e:p.1=k
  .rw[Vi e]
   exact DX h2
  .rw[Vj e]
   show(p.1::(fC r k).map (·.1)).Nodup
   refine fq.mpr ⟨λm=>h1 ?_,DX h2⟩
   obtain⟨q,hq,eq⟩:=bt.mp m
   exact bt.mpr ⟨q,Lj hq,eq⟩
end
end L2
set_option maxHeartbeats 4000000
namespace L2
open PySem PySem.Spec PyProof.Rows
theorem af.cO(H:Hp):af H H:=λ_ _ h=>h
theorem af.upd{H:Hp}{a:Addr}{o:HO}(h:H a=none):af H (upd H a o):=λb u e=>by rw[ak (bq e h)];exact e
theorem af.jX{H H':Hp}{a:Addr}{o:HO}(s:af H H')(h:H a=none):af H (L2.upd H' a o):=λb u e=>by rw[ak (bq e h)];exact s b u e
theorem af.tup{K:PySem.W.Frag}{H H':Hp}{a:Addr}{xs:List V}(e:af H H')(h:aw K H a xs):aw K H' a xs:=by
 rcases h with (h | ⟨o,h⟩) | h
 .exact .inl (.inl (e _ _ h))
 .exact .inl (.inr ⟨o,e _ _ h⟩)
 .exact .inr h
theorem Vk{prog:Program}{w:World}{A:Around}{R:Result->Shared->Prop}{s:Shared}{elt target iter:Expr}{ifs:List Expr}{scope:Scope}{pos:Pos}{it acc:Value}{env:Env}(I:Nat->Shared->Prop)
  (turn:∀n s,I n s->wpAny (model prog w) A (pyNext it) (λr s₁=>match r with
   |none=>R (.ok .next) s₁
   |some v=>wpAny (model prog w) A (letOwnedTupleGo target it v) (λ_ s₂=>wpAny (model prog w) A (assign target env v) (λ_ s₃=>
     wpAny (model prog w) A (forIn ifs true λc r=>if r=true then do let ok<-isTrue c env (eval c env);pure (ForInStep.yield ok) else pure (ForInStep.yield r)) (λok s₄=>
      if ok=true then wpAny (model prog w) A (eval elt env) (λx s₅=>
       wpAny (model prog w) A (call (.builtin "list.append") [acc,x]) (λ_ s₆=>∃m,m<n/\I m s₆) (λ_ _=>False) s₅) (λ_ _=>False) s₄
      else ∃m,m<n/\I m s₄) (λ_ _=>False) s₃) (λ_ _=>False) s₂) (λ_ _=>False) s₁) (λ_ _=>False) s)
  (n:Nat) (h:I n s) :
  codeAny (model prog w) A (.compLoop (.ListComp elt [⟨target,iter,ifs,0⟩] scope pos) 0 it acc env) R s:=by
 refine codeAny_loop rfl I (λn s hI=>?_) n h
 show wpAny _ A ((compTurn (.ListComp elt [⟨target,iter,ifs,0⟩] scope pos) 0 it acc env).onRaise (λx=>do noteFrame x env;theTreesLotGoes x)) _ _ s
 refine wpAny_noted ?_
 rw[compTurn_list]
 refine ag (wpAny_standAt (ag (jE (turn n s hI) (λr s₁ h₁=>?_) λ_ _ f=>f.elim)))
 cases r with
 |none=>exact aJ h₁
 |some v=>
  refine ag (jE h₁ (λ_ s₂ h₂=>ag (jE h₂ (λ_ s₃ h₃=>ag (jE h₃ (λok s₄ h₄=>?_) λ_ _ f=>f.elim)) λ_ _ f=>f.elim)) λ_ _ f=>f.elim)
  cases ok with
  |false=>exact aJ ⟨rfl,h₄⟩
  |true=>
   exact ag (ag (jE h₄ (λx s₅ h₅=>ag (jE h₅ (λ_ s₆ h₆=>aJ (aJ ⟨rfl,h₆⟩)) λ_ _ f=>f.elim)) λ_ _ f=>f.elim))
noncomputable def nj(own:List Str)(n:Nat):List (Str×Addr):=own.map λx=>(x,n+1)
noncomputable def dZ(X:Cx)(xs own ns:List Str)(scope:Scope)(cl:List (Str×Addr))(fp:List Addr)(pins:List (Addr×Obj))(s:Shared)(H:Hp):Cx:=
 { X with N:=xs++ns,s₀:=s,H₀:=H,env:=compEnvC scope (nj own s.heap.objs.size++cl) s.heap.objs.size X.env,outer:=X.stack,ex:=fp,fn:=λy=>own.contains y,pn:=X.pn++pins,xe:=λ_ _=>False }
structure DY(X:Cx)(own:List Str)(scope:Scope)(cl:List (Str×Addr)):Prop where
 Lk:closureFor scope X.env=pure cl
 sub:∀x c,cl.lookup x=some c->X.env.cells.lookup x=some c
 all:∀x,((relabel scope X.env).names.lookup x=some .cell\/(relabel scope X.env).names.lookup x=some .free)->x∉own->∃c,cl.lookup x=some c
 kind:scope.kind = .function
 cell:(scope.names.filter λy=>y.2 == .cell).map (·.1)=own
 dm:own.length<=1
 names:∀y∈scope.names,y.2 = .local->scope.names.lookup y.1=some .local
noncomputable def eE(cells:List (Str×Addr)):List (Str×NameKind)->List (Str×Addr)->List (Str×Addr)
 |[],acc=>acc
 |(n,k)::r,acc=>if k == .free then eE cells r ((n,(cells.lookup n).getD 0)::acc) else eE cells r acc
theorem Vl{scope:Scope}{env:Env}(h:∀y∈scope.names,y.2 = .free->∃c,env.cells.lookup y.1=some c):closureFor scope env=pure (eE env.cells scope.names []):=by
 unfold closureFor
 suffices H:∀(l:List (Str×NameKind)) (acc:List (Str×Addr)),(∀y∈l,y.2 = .free->∃c,env.cells.lookup y.1=some c)->
   (forIn l acc (λ(x:Str×NameKind) (r:List (Str×Addr))=>(do
    let (name,kind):=x
    let cs:=r
    if (kind==NameKind.free)=true then do
     let a<-cellOf env name
     pure (ForInStep.yield ((name,a)::cs))
    else pure (ForInStep.yield cs):Sem (ForInStep (List (Str×Addr))))):Sem (List (Str×Addr)))=pure (eE env.cells l acc) by
  have:=H scope.names [] h
  simp only at this ⊢
  first | (rw[this];rfl) | exact this | (simp only[this];rfl)
 intro l
 induction l with
 |nil=>intro acc _;rfl
 |cons y r ih=>
  intro acc hy
  obtain⟨n,k⟩:=y
  rw[Ju]
  have hr:∀y∈r,y.2 = .free->∃c,env.cells.lookup y.1=some c:=λy m=>hy y (bF _ m)
  cases hk:(k==NameKind.free) with
  |false=>
   simp only[hk,fu,eK,eE]
   exact ih acc hr
  |true=>
   obtain⟨c,ec⟩:=hy (n,k) bh (mI.mp hk)
   simp only[hk,fY,eE,ec,oz]
   have e:cellOf env n=pure c:=by
    unfold cellOf
    rw[show env.cells.lookup n=some c from ec]
   rw[e]
   exact ih ((n,c)::acc) hr
theorem zL(cells:List (Str×Addr))(x:Str):∀(l:List (Str×NameKind)) (acc:List (Str×Addr)),(∀y∈l,y.2 = .free->∃c,cells.lookup y.1=some c)->(∀c,acc.lookup x=some c->cells.lookup x=some c)->
  (∀c,(eE cells l acc).lookup x=some c->cells.lookup x=some c)/\(((x,NameKind.free)∈l\/∃c,acc.lookup x=some c)->∃c,(eE cells l acc).lookup x=some c)
 |[],acc,_,ha=>⟨ha,λh=>h.elim (λz=>nomatch z) id⟩
 |(n,k)::r,acc,hy,ha=>by
  have hr:∀y∈r,y.2 = .free->∃c,cells.lookup y.1=some c:=λy m=>hy y (bF _ m)
  unfold eE
  cases hk:(k==NameKind.free) with
  |false=>
   rw[aq bW]
   obtain⟨h1,h2⟩:=zL cells x r acc hr ha
   refine⟨h1,λh=>h2 ?_⟩
   rcases h with h | h
   .rcases bX.mp h with z | z
    .cases z
     exact absurd hk (by decide)
    .exact .inl z
   .exact .inr h
  |true=>
   rw[ax rfl]
   obtain⟨c,ec⟩:=hy (n,k) bh (mI.mp hk)
   have ec:cells.lookup n=some c:=ec
   rw[ec,oz]
   have Vm:∀d,List.lookup x ((n,c)::acc)=some d->cells.lookup x=some d:=λd e=>by
    rw[qy] at e
    cases hx:x==n with
    |true=>rw[hx] at e;cases e;rw[eq_of_beq hx];exact ec
    |false=>rw[hx] at e;exact ha d e
   obtain⟨h1,h2⟩:=zL cells x r ((n,c)::acc) hr Vm
   refine⟨h1,λh=>h2 ?_⟩
   rcases h with h | ⟨d,h⟩
   .rcases bX.mp h with z | z
    .cases z
     exact .inr ⟨c,by simp[qy]⟩
    .exact .inl z
   .refine .inr ?_
    rw[qy]
    cases hx:x==n with
    |true=>exact⟨c,rfl⟩
    |false=>exact⟨d,h⟩
theorem mem_of_lookupK:∀{l:List (Str×NameKind)}{x:Str}{k:NameKind},l.lookup x=some k->(x,k)∈l
 |[],_,_,h=>by simp at h
 |(n,k')::r,x,k,h=>by
  rw[qy] at h
  cases hx:x==n with
  |true=>rw[hx] at h;cases h;rw[eq_of_beq hx];exact bh
  |false=>rw[hx] at h;exact bF _ (mem_of_lookupK h)
theorem zM{scope:Scope}{env:Env}{x:Str}:(∀k,(relabel scope env).names.lookup x=some k->scope.names.lookup x=some k\/(k = .cell/\scope.names.lookup x=some .free))/\
  (∀k,scope.names.lookup x=some k->(relabel scope env).names.lookup x=some k\/(k = .free/\(relabel scope env).names.lookup x=some .cell)):=by
 show(∀k,(scope.names.map λ(n,k)=>if (k==NameKind.free&&env.scope.kind == .function&&env.kindOf n==some .cell) then (n,NameKind.cell) else (n,k)).lookup x=some k->_)/\(∀k,_->(scope.names.map λ(n,k)=>if (k==NameKind.free&&env.scope.kind == .function&&env.kindOf n==some .cell) then (n,NameKind.cell) else (n,k)).lookup x=some k\/(_/\(scope.names.map λ(n,k)=>if (k==NameKind.free&&env.scope.kind == .function&&env.kindOf n==some .cell) then (n,NameKind.cell) else (n,k)).lookup x=some .cell))
 generalize scope.names=l
 induction l with
 |nil=>exact⟨λk h=>by simp at h,λk h=>by simp at h⟩
 |cons y r ih=>
  obtain⟨n,k0⟩:=y
  rw[bL]
  cases hc:(k0==NameKind.free&&env.scope.kind == .function&&env.kindOf n==some .cell) with
  |true=>
   simp only[hc,fY,qy]
   have hf:k0 = .free:=by
    rw[dI,dI] at hc
    exact mI.mp hc.1.1
   cases hx:x==n with
   |true=>exact⟨λk h=>by cases h;exact .inr ⟨rfl,by rw[hf]⟩,λk h=>by cases h;exact .inr ⟨hf,rfl⟩⟩
   |false=>exact ih
  |false=>
   simp only[hc,fu,eK,qy]
   cases hx:x==n with
   |true=>exact⟨λk h=>by cases h;exact .inl rfl,λk h=>by cases h;exact .inl rfl⟩
   |false=>exact ih
theorem wq(n:Nat):∀(l:List (Str×NameKind)) (acc:List (Str×Addr)),((l.filter λy=>y.2 == .cell).map (·.1)=[])->cellsFrom n l acc=acc/\∀h:Heap,pushCells h l=h
 |[],_,_=>⟨rfl,λ_=>rfl⟩
 |(y,k)::r,acc,e=>by
  cases hk:(k==NameKind.cell) with
  |true=>
   rw[cR] at e
   simp only[hk,fY,bL] at e
   cases e
  |false=>
   rw[cR] at e
   simp only[hk,fu,eK] at e
   obtain⟨h1,h2⟩:=wq n r acc e
   unfold cellsFrom
   refine⟨by rw[aq (by rw[hk];exact bW)];exact h1,λh=>?_⟩
   unfold pushCells
   rw[aq (by rw[hk];exact bW)]
   exact h2 h
theorem DZ(n:Nat)(x:Str):∀(l:List (Str×NameKind)) (acc:List (Str×Addr)),((l.filter λy=>y.2 == .cell).map (·.1)=[x])->cellsFrom n l acc=(x,n)::acc/\∀h:Heap,pushCells h l=h.push { cls := .type "cell",data := .cell none }
 |[],_,e=>by cases e
 |(y,k)::r,acc,e=>by
  cases hk:(k==NameKind.cell) with
  |true=>
   rw[cR] at e
   simp only[hk,fY,bL] at e
   have e1:y=x:=(yE e).1
   have e2:=(yE e).2
   subst e1
   obtain⟨h1,_⟩:=wq (n+1) r ((y,n)::acc) e2
   unfold cellsFrom
   refine⟨by rw[ax hk];exact h1,λh=>?_⟩
   unfold pushCells
   rw[ax hk]
   exact(wq 0 r [] e2).2 _
  |false=>
   rw[cR] at e
   simp only[hk,fu,eK] at e
   obtain⟨h1,h2⟩:=DZ n x r acc e
   unfold cellsFrom
   refine⟨by rw[aq (by rw[hk];exact bW)];exact h1,λh=>?_⟩
   unfold pushCells
   rw[aq (by rw[hk];exact bW)]
   exact h2 h
noncomputable def zN(h:Heap):List Str->Heap
 |[]=>h
 |_::_=>h.push { cls := .type "cell",data := .cell none }
theorem Ll{h:Heap}:∀{own:List Str}{b:Addr}{o:Obj},h.get? b=some o->(zN h own).get? b=some o
 |[],_,_,e=>e
 |_::_,_,_,e=>bw _ e
theorem Vn{M:Model}{A:Around}{E:Value->Shared->Prop}{s:Shared}{scope:Scope}{globals:Addr}{cl:List (Str×Addr)}{qual:Str}{outer:Env}{own:List Str}{Q:Env->Shared->Prop}
  (hx:(scope.names.filter λy=>y.2 == .cell).map (·.1)=own) (hl:own.length<=1)
  (hQ:Q (newEnv scope s.heap.objs.size globals (nj own s.heap.objs.size++cl) qual none .none (some outer) builtinsNs) { s with heap:=zN (s.heap.push { cls := .type "dict",data := .dict #[] }) own }) :
  wpAny M A (newFunctionEnv scope globals cl [] qual none .none (some outer)) Q E s:=by
 simp only[newFunctionEnv,Option.isSome_some,fY]
 refine ag (wpAny_alloc ?_)
 refine ag (wpAny_layCells _ (λname kind cells=>by cases Vo:kind==NameKind.cell <;> simp[Vo]) _ _ _ _ ?_)
 refine ag ?_
 rw[List.forIn_nil]
 refine aJ (aJ ?_)
 have e:(s.heap.push { cls := .type "dict",data := .dict #[] }:Heap).objs.size=s.heap.objs.size+1:=kh ..
 match own,hl,hx,hQ with
 |[],_,hx,hQ=>
  rw[(wq _ scope.names cl hx).1,(wq 0 scope.names [] hx).2]
  exact hQ
 |[x],_,hx,hQ=>
  rw[(DZ _ x scope.names cl hx).1,(DZ 0 x scope.names [] hx).2]
  dsimp only
  rw[e]
  exact hQ
 |_::_::_,hl,_,_=>simp at hl
theorem rb{own:List Str}{n:Nat}{y:Str}{c:Addr}{cl:List (Str×Addr)}(e:List.lookup y (nj own n++cl)=some c):(y∈own/\c=n+1)\/(y∉own/\cl.lookup y=some c):=by
 induction own with
 |nil=>exact .inr ⟨fK,e⟩
 |cons x r ih=>
  have e:List.lookup y ((x,n+1)::(nj r n++cl))=some c:=e
  rw[qy] at e
  cases h:y==x with
  |true=>rw[h] at e;cases e;exact .inl ⟨bX.mpr (.inl (eq_of_beq h)),rfl⟩
  |false=>
   rw[h] at e
   have hn:y≠x:=by intro z;rw[z,CQ] at h;cases h
   rcases ih e with ⟨a,b⟩ | ⟨a,b⟩
   .exact .inl ⟨bF _ a,b⟩
   .exact .inr ⟨λz=>(bX.mp z).elim hn a,b⟩
theorem Lm{own:List Str}{n:Nat}{y:Str}{cl:List (Str×Addr)}(h:y∉own):List.lookup y (nj own n++cl)=cl.lookup y:=by
 induction own with
 |nil=>rfl
 |cons x r ih=>
  show List.lookup y ((x,n+1)::(nj r n++cl))=_
  rw[qy,sI.mpr λz=>h (by rw[z];exact bh)]
  exact ih λz=>h (bF _ z)
theorem Vp{own:List Str}{n:Nat}{y:Str}{cl:List (Str×Addr)}(h:y∈own):List.lookup y (nj own n++cl)=some (n+1):=by
 induction own with
 |nil=>cases h
 |cons x r ih=>
  show List.lookup y ((x,n+1)::(nj r n++cl))=_
  rw[qy]
  cases hb:y==x with
  |true=>rfl
  |false=>exact ih ((bX.mp h).resolve_left λz=>by rw[z,CQ] at hb;cases hb)
noncomputable def ph(xs own ns:List Str)(names outer:List (Str×NameKind)):Bool:=
 names.all (λy=>(y.2 != .cell||own.contains y.1)&&(y.2 != .free||outer.lookup y.1==some .cell)&&(y.2 != .local||names.lookup y.1==some .local))&&((names.filter λy=>y.2 == .cell).map (·.1)==own)&&decide (own.length<=1)&&xs.all (λx=>names.lookup x==some (if own.contains x then .cell else .local))&&ns.all (λy=>names.lookup y==some .free && !own.contains y)&&decide (xs++ns).Nodup
theorem Ln{X:Cx}{pins:List (Addr×Obj)}{σ:List (Option V)}{H:Hp}{s:Shared}{scope:Scope}{xs own ns:List Str}(I:Inv X pins σ H s)(hk:scope.kind = .function)(ho:ph xs own ns scope.names X.env.scope.names=true) :
  DY X own scope (eE X.env.cells scope.names [])/\(∀y∈ns,X.env.scope.names.lookup y=some .cell)/\(∀y∈ns,((relabel scope X.env).names.lookup y=some .cell\/(relabel scope X.env).names.lookup y=some .free)/\y∉own)/\(∀x∈xs,scope.names.lookup x=some .local\/(scope.names.lookup x=some .cell/\own.contains x=true))/\(xs++ns).Nodup:=by
 unfold ph at ho
 simp only[dI,iG,yF,bne_iff_ne,mI,Jv,Bool.not_eq_true',List.contains_eq_mem,decide_eq_false_iff_not] at ho
 obtain⟨⟨⟨⟨⟨h1,h0⟩,hl⟩,h2⟩,h3⟩,h4⟩:=ho
 have nr:∀y∈scope.names,y.2 = .free->∃c,X.env.cells.lookup y.1=some c:=λy m e=>by
  rcases(h1 y m).1.2 with z | z
  .exact absurd e z
  .exact I.ok.has y.1 (.inl z)
 refine⟨⟨Vl nr,λy c e=>(zL X.env.cells y scope.names [] nr (by simp)).1 c e,λy hy cJ=>?_,hk,h0,hl,λy m e=>?_⟩,λy m=>?_,λy m=>⟨?_,(h3 y m).2⟩,λx m=>?_,h4⟩
 .refine(zL X.env.cells y scope.names [] nr (by simp)).2 (.inl ?_)
  rcases hy with hy | hy
  .rcases zM.1 _ hy with z | ⟨_,z⟩
   .rcases(h1 _ (mem_of_lookupK z)).1.1 with q | q
    .exact absurd rfl q
    .exact absurd q cJ
   .exact mem_of_lookupK z
  .rcases zM.1 _ hy with z | ⟨z,_⟩
   .exact mem_of_lookupK z
   .cases z
 .rcases(h1 y m).2 with z | z
  .exact absurd e z
  .exact z
 .rcases(h1 _ (mem_of_lookupK (h3 y m).1)).1.2 with z | z
  .exact absurd rfl z
  .exact z
 .rcases zM.2 _ (h3 y m).1 with z | ⟨_,z⟩
  .exact .inr z
  .exact .inl z
 .have:=h2 x m
  by_cases hx:x∈own
  .rw[ax hx] at this
   exact .inr ⟨this,by simpa using hx⟩
  .rw[aq hx] at this
   exact .inl this
noncomputable def eX(js:List Nat)(σ:St):St:=js.map λj=>(σ[j]?).join
theorem Vq{X:Cx}{pins:List (Addr×Obj)}{σ:St}{H:Hp}{s:Shared}{h':Heap}{tk:Nat}{xs own ns:List Str}{js:List Nat}{scope:Scope}{cl:List (Str×Addr)}{fp:List Addr}{m:Str->Option Value}(I:Inv X pins σ H s)
  (L:DY X own scope cl) (hj:js.map (λj=>X.N[j]?)=ns.map some) (pq:∀y∈ns,X.env.scope.names.lookup y=some .cell)
  (bu:∀y∈ns,((relabel scope X.env).names.lookup y=some .cell\/(relabel scope X.env).names.lookup y=some .free)/\y∉own) (iQ:∀y∈own,h'.IsCell (s.heap.objs.size+1) none)
  (hf:∀b∈fp,eV X pins H b) (d6:∀b∈fp,b<s.heap.objs.size) (hn:h'.Ns s.heap.objs.size m) (hk:∀b o,s.heap.get? b=some o->h'.get? b=some o) :
  Inv (dZ X xs own ns scope cl fp pins s H) [] (xs.map (λ_=>none)++eX js σ) H { s with heap:=h',toks:=tk }:=by
 have Lo:∀y c,cl.lookup y=some c->c<s.heap.objs.size:=λy c e=>by
  obtain⟨v,z⟩:=I.cell y c (L.sub _ _ e)
  exact z.lt
 have len:js.length=ns.length:=by have:=dU List.length hj;simpa using this
 refine⟨⟨I.ok.mod,L.kind,I.ok.glob,I.ok.blt,aQ _,λy z c h1 h2=>?_,λy hy=>?_,λy c z h1=>?_,I.ok.hd,I.ok.frames,.inl rfl,
  λb hb=>⟨bU (d6 b hb),λy c e=>?_⟩,I.bs,bA I.ok.mT I.sz,λb o e hb=>?_,λb hb z=>?_,I.stack,I.JY⟩,
  rfl,I.bare,Un.kept hk,⟨m,hn,λi y v e1 e2 _=>?_⟩,λy c e=>?_,I.fresh,λy c e=>?_,λp hp=>?_,I.aC.kept hk,?_⟩
 .rcases rb h1 with ⟨a,e⟩ | ⟨a,e⟩ <;> rcases rb h2 with ⟨a',e'⟩ | ⟨a',e'⟩
  .have hl:=L.dm
   match own,hl,a,a' with
   |[x],_,a,a'=>rw[cg.mp a,cg.mp a']
   |[],_,a,_=>cases a
   |_::_::_,hl,_,_=>simp at hl
  .exact absurd (Lo z c e') (by rw[e];exact sO.mpr (gC _))
  .exact absurd (Lo y c e) (by rw[e'];exact sO.mpr (gC _))
  .exact I.ok.inj y z c (L.sub _ _ e) (L.sub _ _ e')
 .by_cases z:y∈own
  .exact⟨_,Vp z⟩
  .obtain⟨c,e⟩:=L.all y hy z
   exact⟨c,(Lm z).trans e⟩
 .rcases rb h1 with ⟨_,e⟩ | ⟨a,_⟩
  .rw[e];exact gC _
  .exact absurd (by simpa using(show own.contains y=true from z)) a
 .rcases rb e with ⟨_,e⟩ | ⟨_,e⟩
  .rw[e];exact λz=>absurd (d6 b hb) (by rw[<-z];exact sO.mpr (gC _))
  .exact(hf b hb).2.2.2.2.1 y c (L.sub _ _ e)
 .rcases(hf b hb).2.2.2.1 with z | z
  .exact I.ok.qI b o e z
  .exact absurd (gB (bE (I.ok.bs b o e).1) z) (sJ _)
 .rcases bX.mp (I.vN b z) with z | z
  .exact(hf b hb).2.1 z
  .exact(hf b hb).2.2.1 z
 .have e1:(xs++ns)[i]? = some y:=e1
  by_cases hi:i<xs.length
  .rw[Jo (by rw[ar];exact hi),bb,aU hi] at e2
   cases e2
  .rw[yA (by omega)] at e1
   rw[yA (by rw[ar];omega),ar] at e2
   generalize i - xs.length=k at e1 e2
   unfold eX at e2
   rw[bb] at e2
   cases ej:js[k]? with
   |none=>rw[ej] at e2;cases e2
   |some j=>
    rw[ej] at e2
    have e2:(σ[j]?).join=some v:=c9 e2
    have e3:σ[j]? = some (some v):=by
     cases q:σ[j]? with
     |none=>rw[q] at e2;cases e2
     |some o=>rw[q] at e2;rw[show o=some v from e2]
    have e4:X.N[j]? = some y:=by
     have q:=dU (λl=>l[k]?) hj
     simp only[bb,ej,e1,iD] at q
     exact c9 q
    have my:y∈ns:=bo e1
    obtain⟨m0,rf,hl⟩:=I.loc
    obtain⟨u,r,lk⟩:=hl j y v e4 e3 (.inr (.inl (pq y my)))
    refine⟨u,r,.inr ⟨(bu y my).1,?_⟩⟩
    obtain⟨c,ec⟩:=L.all y (bu y my).1 (bu y my).2
    rcases lk with ⟨k1,_⟩ | ⟨_,c',e5,e6⟩
    .have k2:X.env.scope.names.lookup y=some .local:=k1
     rw[pq y my] at k2;cases k2
    .have:=L.sub _ _ ec
     rw[e5] at this;cases this
     obtain⟨o,ho,hd⟩:=e6
     exact⟨c,(Lm (bu y my).2).trans ec,o,hk _ _ ho,hd⟩
 .rcases rb e with ⟨a,e⟩ | ⟨_,e⟩
  .rw[e];exact⟨none,iQ y a⟩
  .obtain⟨v,o,ho,hd⟩:=I.cell y c (L.sub _ _ e)
   exact⟨v,o,hk _ _ ho,hd⟩
 .rcases rb e with ⟨_,e⟩ | ⟨_,e⟩
  .rw[e];exact I.aC.fresh (gC _)
  .exact I.fA y c (L.sub _ _ e)
 .have hp:p∈X.pn++pins:=by
   have hp:p∈(X.pn++pins)++[]:=hp
   simpa using hp
  obtain⟨e,n,nl,nf,d⟩:=I.pin p hp
  refine⟨hk _ _ e,n,bU (bE e),λz=>?_,d⟩
  rcases bX.mp (I.vN _ z) with z | z
  .exact nl z
  .exact nf z
 .show(xs.map (λ_=>(none:Option V))++eX js σ).length=(xs++ns).length
  unfold eX
  rw[cQ,cQ,ar,ar,len]
theorem Inv.Vr{X:Cx}{pins yV:List (Addr×Obj)}{σ σ':St}{H H':Hp}{s s':Shared}{h2:Heap}{xs own ns:List Str}{scope:Scope}{cl:List (Str×Addr)}{fp:List Addr}(I:Inv X pins σ H s)
  (hf:∀b∈fp,eV X pins H b) (J:Inv (dZ X xs own ns scope cl fp pins s H) yV σ' H' s') (hk:∀b o,b≠s.heap.objs.size->s'.heap.get? b=some o->h2.get? b=some o) :
  Inv X pins σ H' { s' with heap:=h2 }:=by
 have u:Un (jN X.stack) fp H H' s.heap s'.heap:=J.base
 have ne:∀b o,s.heap.get? b=some o->b≠s.heap.objs.size:=λb o e=>bU (bE e)
 have fr:H' s.heap.objs.size=none:=J.free
 refine I.yW (s':={ s' with heap:=h2 }) (ch:=fp) J.os ⟨λb o e n h1 h2=>hk b o (ne b o e) (u.keep b o e n h1 h2),λb o e n h1 h2=>?_,u.free,λb o e hx=>?_,u.gb,u.jM,u.km⟩ (λb o e=>?_) J.bare
  (λb hb=>⟨(hf b hb).2.2.2.1,(hf b hb).2.1,(hf b hb).2.2.2.2.1,(hf b hb).2.2.2.2.2⟩)
 .obtain⟨sl,q⟩:=u.slot b o e n h1 h2
  exact⟨sl,hk _ _ (ne b o e) q⟩
 .obtain⟨o',q⟩:=u.there b o e hx
  exact⟨o',hk _ _ (ne b o e) q⟩
 .refine(J.aC b o e).kl (λc v hc q=>hk c v ?_ q) (λ_ q=>q) λ_ _ q=>q
  rcases hc with z | z
  .rw[z];exact bq e fr
  .exact bq z fr
def nt(X:Cx)(ifs:List Expr)(t:TT):Prop:=
 ∀(pins:List (Addr×Obj)) (s:Shared) (σ:St) (H:Hp) (Q:Bool->Hp->Prop),Inv X pins σ H s->t σ H Q->
  wpAny (model X.prog X.w) X.A (forIn ifs true λc r=>if r=true then do let ok<-isTrue c X.env (eval c X.env);pure (ForInStep.yield ok) else pure (ForInStep.yield r)) (TP X pins σ Q) X.xe s
def Lp:TT:=λ_ H Q=>Q true H
theorem jY{X:Cx}:nt X [] Lp:=λ_ _ _ H _ I h=>wpAny_tests_nil ⟨H,I,h⟩
theorem nv{X:Cx}{c:Expr}{t:TT}(h:PT X c t):nt X [c] t:=λpins s σ H Q I q=>wpAny_tests_one (h pins s σ H Q I q)
def D0(js:List Nat)(tt:TT)(te:TE)(σ:St)(J:It)(H1:Hp)(Q:VK):Prop:=
 ∀D,H1 D=none->∃W:Nat->Nat->Hp->Prop,(∃m,W 0 m (upd H1 D (.lst [])))/\∀i m H,W i m H->
  (J.stop i H/\Q (.ref D) H)\/(J.go i H/\∀x H',J.gi i H x H'->tt (some x::eX js σ) H' λb H2=>if b=true then te (some x::eX js σ) H2 λy H3=>∃ys,H3 D=some (.lst ys)/\ys.length<sizeLine/\∃m',m'<m/\W (i+1) m' (upd H3 D (.lst (ys++[y])))
   else ∃m',m'<m/\W (i+1) m' H2)
def D3(js:List Nat)(wi:TI)(tt:TT)(te:TE):TE:=λσ H Q=>wi σ H λJ H1=>D0 js tt te σ J H1 Q
def D4(K:PySem.W.Frag)(js:List Nat)(tt:TT)(te:TE)(σ:St)(J:It)(H1:Hp)(Q:VK):Prop:=
 ∀D,H1 D=none->∃W:Nat->Nat->Hp->Prop,(∃m,W 0 m (upd H1 D (.lst [])))/\∀i m H,W i m H->
  (J.stop i H/\Q (.ref D) H)\/(J.go i H/\∀x H',J.gi i H x H'->∃a v1 v2,x = .ref a/\aw K H' a [v1,v2]/\tt (some v1::some v2::eX js σ) H' λb H2=>if b=true then te (some v1::some v2::eX js σ) H2 λy H3=>∃ys,H3 D=some (.lst ys)/\ys.length<sizeLine/\∃m',m'<m/\W (i+1) m' (upd H3 D (.lst (ys++[y])))
   else ∃m',m'<m/\W (i+1) m' H2)
def Vs(K:PySem.W.Frag)(js:List Nat)(wi:TI)(tt:TT)(te:TE):TE:=λσ H Q=>wi σ H λJ H1=>D4 K js tt te σ J H1 Q
abbrev TU:=V->Hp->(List V->Hp->Prop)->Prop
def D5(G:TU)(js:List Nat)(tt:TT)(te:TE)(σ:St)(J:It)(H1:Hp)(Q:VK):Prop:=
 ∀D,H1 D=none->∃W:Nat->Nat->Hp->Prop,(∃m,W 0 m (upd H1 D (.lst [])))/\∀i m H,W i m H->
  (J.stop i H/\Q (.ref D) H)\/(J.go i H/\∀x H',J.gi i H x H'->G x H' λus H0=>tt (us.map some++eX js σ) H0 λb H2=>if b=true then te (us.map some++eX js σ) H2 λy H3=>∃ys,H3 D=some (.lst ys)/\ys.length<sizeLine/\∃m',m'<m/\W (i+1) m' (upd H3 D (.lst (ys++[y])))
   else ∃m',m'<m/\W (i+1) m' H2)
def wt(K:PySem.W.Frag)(xs:List Str)(tg:Expr)(G:TU):Prop:=
 ∀(Y:Cx) (ns:List Str),Y.N=xs++ns->Y.N.Nodup->(∀x∈xs,Loc Y.env.scope x/\(Y.fn x=true\/Y.env.scope.names.lookup x=some .local))->Y.K=K->Y.calm=true->∀(pins:List (Addr×Obj)) (s:Shared) (vs σ:St) (H:Hp) (v:V) (u:Value) (R:List V->Hp->Prop),vs.length=xs.length->Inv Y pins (vs++σ) H s->RelV v u->G v H R->
  wpAny (model Y.prog Y.w) Y.A (assign tg Y.env u) (λ_ s' =>∃us H',us.length=xs.length/\Inv Y pins (us.map some++σ) H' s'/\R us H') Y.xe s
theorem D6{K:PySem.W.Frag}{x:Str}{px:Pos}:wt K [x] (.Name x px) (λv H R=>R [v] H):=by
 intro Y ns hN cK hl _ _ pins s vs σ H v u R hv I r h
 match vs,hv,I with
 |[a],_,I=>
  obtain⟨h1,h2⟩:=hl x bh
  have hg:PG Y (.Name x px) (oU 0):=bR cK (by rw[hN];rfl) h1 h2
  refine aB (hg pins s (a::σ) H v u (λσ' H'=>σ'=some v::σ/\H'=H) I r ⟨rfl,rfl⟩) λ_ s' ⟨σ',H',J,e1,e2⟩=>?_
  subst e1 e2
  exact⟨[v],_,rfl,J,h⟩
theorem Vt{K:PySem.W.Frag}{x z:Str}{px pz tp:Pos}{ck:Nat}:wt K [x,z] (.Tuple [.Name x px,.Name z pz] ck tp) (λv H R=>∃a v1 v2,v = .ref a/\aw K H a [v1,v2]/\R [v1,v2] H):=by
 intro Y ns hN cK hl hK Vu pins s vs σ H v u R hv I r h
 subst hK
 match vs,hv,I with
 |[a,b],_,I=>
  obtain⟨h1,h2⟩:=hl x bh
  obtain⟨h3,h4⟩:=hl z (bF _ bh)
  obtain⟨ad,v1,v2,e,hq,h⟩:=h
  have hg:PG Y (.Tuple [.Name x px,.Name z pz] ck tp) (Kf Y.K 2 (Dh (oU 0) (Dh (oU 1) Ke))):=lH Vu (eU (bR (i:=0) cK (by rw[hN];rfl) h1 h2) (eU (bR (i:=1) cK (by rw[hN];rfl) h3 h4) lG))
  refine aB (hg pins s (a::b::σ) H v u (λσ' H'=>σ'=some v1::some v2::σ/\H'=H) I r ⟨ad,[v1,v2],e,hq,rfl,v1,[v2],rfl,v2,[],rfl,rfl,rfl,rfl⟩) λ_ s' ⟨σ',H',J,e1,e2⟩=>?_
  subst e1 e2
  exact⟨[v1,v2],_,rfl,J,h⟩
section
variable{X:Cx}{xs own:List Str}{tg:Expr}{G:TU}{iter elt:Expr}{ifs:List Expr}{scope:Scope}{pos:Pos}{ns:List Str}{js:List Nat}{cl:List (Str×Addr)}{wi:TI}{tt:TT}{te:TE}
theorem Lq{pins:List (Addr×Obj)}{σ:St}{s₂:Shared}{H₂:Hp}{it:Addr}{fp:List Addr}{tn:Nat->Heap->Prop}{J:It}{Q:VK}{RR:Value->Addr->Result->Shared->Prop}{E:Value->Shared->Prop}
  (L:DY X own scope cl) (hc:X.calm=true) (hj:js.map (λj=>X.N[j]?)=ns.map some) (pq:∀y∈ns,X.env.scope.names.lookup y=some .cell)
  (bu:∀y∈ns,((relabel scope X.env).names.lookup y=some .cell\/(relabel scope X.env).names.lookup y=some .free)/\y∉own) (hx:∀x∈xs,scope.names.lookup x=some .local\/(scope.names.lookup x=some .cell/\own.contains x=true)) (cK:(xs++ns).Nodup) (TG:wt X.K xs tg G)
  (ht:∀fp pins s H,nt (dZ X xs own ns scope cl fp pins s H) ifs tt) (he:∀fp pins s H,PE (dZ X xs own ns scope cl fp pins s H) elt te)
  (I2:Inv X pins σ H₂ s₂) (T:Turn X.prog X.w X.K tg J fp it tn) (jP:tn 0 s₂.heap) (f2:∀b∈fp,eV X pins H₂ b) (hq:D5 G js tt te σ J H₂ Q)
  (Vv:∀D H3 s',(∃m,s'.heap.Ns (s₂.heap.objs.size+1) m)->H3 (s₂.heap.objs.size+1)=none->(∀h2,(∀b o,b≠s₂.heap.objs.size+1->s'.heap.get? b=some o->h2.get? b=some o)->Inv X pins σ H3 { s' with heap:=h2 })->Q (.ref D) H3->RR (.ref D) (s₂.heap.objs.size+1) (.ok .next) s') :
  wpAny (model X.prog X.w) X.A (newList []) (λacc s₃=>wpAny (model X.prog X.w) X.A (newFunctionEnv scope X.env.globals cl [] X.env.qual none .none (some X.env)) (λLr s₄=>
   codeAny (model X.prog X.w) X.A (.compStart (.ListComp elt [⟨tg,iter,ifs,0⟩] scope pos) 0 (.ref it) acc { Lr with scope:=relabel scope X.env }) (RR acc Lr.locals) s₄) E s₃) E s₂:=by
 have hD:H₂ s₂.heap.objs.size=none:=I2.fresh
 have I3:Inv X pins σ (upd H₂ s₂.heap.objs.size (.lst [])) { s₂ with heap:=s₂.heap.push { cls := .type "list",data := .seq ([]:List Value).toArray } }:=I2.DJ (ys:=[]) (its:=[]) (t':=s₂.toks) .nil (bx _)
 obtain⟨W,⟨m0,w0⟩,turn⟩:=hq _ hD
 refine vB (Vn L.cell L.dm ?_)
 have zO:∀b∈fp,b<s₂.heap.objs.size:=λb hb=>let ⟨_,e,_⟩:=T.obj 0 _ jP b hb;bE e
 have Ls:(s₂.heap.push { cls := .type "list",data := .seq ([]:List Value).toArray }).objs.size=s₂.heap.objs.size+1:=kh ..
 obtain⟨h₁,zP⟩:∃h₁,h₁=zN ((s₂.heap.push { cls := .type "list",data := .seq ([]:List Value).toArray }).push { cls := .type "dict",data := .dict #[] }) own:=⟨_,rfl⟩
 have eY:∀b o,(s₂.heap.push { cls := .type "list",data := .seq ([]:List Value).toArray }).get? b=some o->h₁.get? b=some o:=λb o e=>by rw[zP];exact Ll (bw _ e)
 have Vw:h₁.Ns (s₂.heap.push { cls := .type "list",data := .seq ([]:List Value).toArray }).objs.size (λ_=>none):=by rw[zP];exact(Heap.Ns.new _ (.type "dict")).keeps λb o e=>Ll e
 have iQ:∀y∈own,h₁.IsCell ((s₂.heap.push { cls := .type "list",data := .seq ([]:List Value).toArray }).objs.size+1) none:=λy my=>by
  rw[zP,<-kh (s₂.heap.push { cls := .type "list",data := .seq ([]:List Value).toArray }) { cls := .type "dict",data := .dict #[] }]
  match own,my with
  |_::_,_=>exact⟨{ cls := .type "cell",data := .cell none },cw _ rfl,rfl⟩
 show codeAny _ _ _ _ { s₂ with heap:=zN ((s₂.heap.push { cls := .type "list",data := .seq ([]:List Value).toArray }).push { cls := .type "dict",data := .dict #[] }) own }
 rw[<-zP]
 have f3:∀b∈fp,eV X pins (upd H₂ s₂.heap.objs.size (.lst [])) b:=λb hb=>⟨by rw[ak (bU (zO b hb))];exact(f2 b hb).1,(f2 b hb).2⟩
 have C0:=Vq (xs:=xs) (tk:=s₂.toks) I3 L hj pq bu iQ f3 (λb hb=>gB (zO b hb) (by rw[Ls];exact gC _)) Vw eY
 have vV:tn 0 h₁:=T.keep _ _ _ jP λb hb o e=>eY b o (bw _ e)
 generalize D7:({ s₂ with heap:=s₂.heap.push { cls := .type "list",data := .seq ([]:List Value).toArray } }:Shared)=s₃ at *
 have hsz:s₃.heap.objs.size=s₂.heap.objs.size+1:=by rw[<-D7];exact Ls
 have loop:∀s₄:Shared,s₄={ s₃ with heap:=h₁ } ->
   codeAny (model X.prog X.w) X.A (.compLoop (.ListComp elt [⟨tg,iter,ifs,0⟩] scope pos) 0 (.ref it) (.ref s₂.heap.objs.size) (compEnvC scope (nj own s₃.heap.objs.size++cl) s₃.heap.objs.size X.env)) (RR (.ref s₂.heap.objs.size) s₃.heap.objs.size) s₄:=by
  rintro s₄ rfl
  refine Vk (λn s' =>∃i vs H',vs.length=xs.length/\Inv (dZ X xs own ns scope cl fp pins s₃ (upd H₂ s₂.heap.objs.size (.lst []))) [] (vs++eX js σ) H' s'/\tn i s'.heap/\(∀b∈fp,H' b=none)/\W i n H') ?_ m0
   ⟨0,_,_,ar _,by subst D7;exact C0,vV,λb hb=>(f3 b hb).1,w0⟩
  rintro n s5 ⟨i,v5,H5,l5,J5,tF,zb,w5⟩
  have D8:∀{H':Hp},(∀b∈fp,H' b=none)->∀b∈fp,eV (dZ X xs own ns scope cl fp pins s₃ (upd H₂ s₂.heap.objs.size (.lst []))) [] H' b:=λhn b hb=>by
   refine⟨hn b hb,?_,?_,.inl hb,λy c e=>?_,λp hp=>?_⟩
   .show b≠s₃.heap.objs.size
    rw[hsz]
    exact bU (oB (zO b hb))
   .intro z
    rcases bX.mp (I2.vN b z) with z | z
    .exact(f2 b hb).2.1 z
    .exact(f2 b hb).2.2.1 z
   .rcases rb e with ⟨_,e⟩ | ⟨_,e⟩
    .rw[e];exact λz=>absurd (zO b hb) (by rw[<-z,hsz];exact sO.mpr (bA (gC _) (gC _)))
    .exact(f2 b hb).2.2.2.2.1 y c (L.sub _ _ e)
   .have hp:p∈(X.pn++pins)++[]:=hp
    exact(f2 b hb).2.2.2.2.2 p (by simpa using hp)
  rcases turn i n H5 w5 with ⟨stop,qn⟩ | ⟨go,step⟩
  .refine aB (T.done (dZ X xs own ns scope cl fp pins s₃ _) rfl rfl rfl hc i [] s5 _ H5 (λ_ _=>False) J5 (D8 zb) tF stop) λr s6 ⟨hr,J6⟩=>?_
   subst hr
   show RR _ _ (.ok .next) s6
   rw[hsz]
   refine Vv _ H5 s6 ?_ (by rw[<-hsz];exact J6.free) (λh2 iR=>?_) qn
   .obtain⟨mm,hn,_⟩:=J6.loc
    exact⟨mm,by rw[<-hsz];exact hn⟩
   .refine Inv.Vr I3 f3 J6 λb o hb e=>iR b o ?_ e
    rw[<-hsz];exact hb
  .refine aB (T.item (dZ X xs own ns scope cl fp pins s₃ _) rfl rfl rfl hc i [] s5 _ H5 (λ_ _=>False) J5 (D8 zb) tF go) λr s6 ⟨u,hr,h6⟩=>?_
   subst hr
   refine aB h6 λ_ s7 ⟨xv,H7,J7,r7,y7,D9,Vx⟩=>?_
   have Vy:=J7.pinned (D8 Vx) (T.obj _ _ D9)
   have hl:∀x∈xs,Loc (relabel scope X.env) x/\(own.contains x=true\/(relabel scope X.env).names.lookup x=some .local):=λx mx=>by
    rcases hx x mx with z | ⟨z,z'⟩
    .exact⟨.inl (lookup_relabel_local z),.inr (lookup_relabel_local z)⟩
    .exact⟨.inr ((zM.2 _ z).elim id λq=>nomatch q.1),.inl z'⟩
   refine aB (TG (dZ X xs own ns scope cl fp pins s₃ (upd H₂ s₂.heap.objs.size (.lst []))) ns rfl cK hl rfl hc _ s7 v5 _ H7 xv u _ l5 Vy r7 (step xv H7 y7)) λ_ s8 ⟨us,H8,l8,J8,q8⟩=>?_
   have fin:∀{H':Hp}{s':Shared},Inv (dZ X xs own ns scope cl fp pins s₃ (upd H₂ s₂.heap.objs.size (.lst []))) ([]++vU fp s7.heap) (us.map some++eX js σ) H' s'->(∃m',m'<n/\W (i+1) m' H')->
     ∃m',m'<n/\∃i vs H',vs.length=xs.length/\Inv (dZ X xs own ns scope cl fp pins s₃ (upd H₂ s₂.heap.objs.size (.lst []))) [] (vs++eX js σ) H' s'/\tn i s'.heap/\(∀b∈fp,H' b=none)/\W i m' H':=λ{H' s'} J9 ⟨m',hm,w9⟩=>by
    refine⟨m',hm,i+1,us.map some,H',(ar _).trans l8,J9.tE,T.keep _ _ _ D9 λb hb o e=>(J9.pin (b,o) (gU _ (gU _ (za hb e)))).1,λb hb=>?_,w9⟩
    obtain⟨o,e,d⟩:=T.obj _ _ D9 b hb
    exact(J9.pin (b,o) (gU _ (gU _ (za hb e)))).2.1
   refine aB (ht fp pins s₃ _ _ s8 _ H8 _ J8 q8) λok s9 ⟨H9,J9,q9⟩=>?_
   cases ok with
   |false=>
    rw[aq bW] at q9 ⊢
    exact fin J9 q9
   |true=>
    rw[ax rfl] at q9 ⊢
    refine aB (he fp pins s₃ _ _ s9 _ H9 _ J9 q9) λyv wu ⟨y,Ea,Vz,VA,ys,VB,hz,m',hm,VC⟩=>?_
    refine aB (hX _ wu _ Ea (.ref s₂.heap.objs.size) [y] _ [yv] (λ_ H'=>H'=upd Ea s₂.heap.objs.size (.lst (ys++[y]))) Vz rfl (.cons VA .nil) ⟨_,ys,y,rfl,rfl,VB,hz,rfl⟩) λ_ zQ ⟨_,Eb,VD,_,Lu⟩=>?_
    subst Lu
    exact fin VD ⟨m',hm,VC⟩
 have ib:=loop _ rfl
 subst D7
 exact codeAny_compStart_list ib (T.self _ 0 _ _ _ vV ib)
theorem Lv(TG:wt X.K xs tg G)(hi:PI X tg iter wi)(hc:X.calm=true)(hk:scope.kind = .function)(hj:js.map (λj=>X.N[j]?)=ns.map some)(ho:ph xs own ns scope.names X.env.scope.names=true)
  (ht:∀fp pins s H,nt (dZ X xs own ns scope (eE X.env.cells scope.names []) fp pins s H) ifs tt) (he:∀fp pins s H,PE (dZ X xs own ns scope (eE X.env.cells scope.names []) fp pins s H) elt te) (hs:∀x,foldedSetIterable iter X.env x=pure x:=by intro _;rfl) :
  PE X (.ListComp elt [⟨tg,iter,ifs,0⟩] scope pos) (λσ H Q=>wi σ H λJ H1=>D5 G js tt te σ J H1 Q):=by
 intro pins s σ H Q I h
 obtain⟨L,pq,bu,hx,cK⟩:=Ln I hk ho
 rw[eval_ListComp]
 refine wpAny_comprehension_free (use:=none) rfl hs L.Lk L.kind L.names (aB (hi pins s σ H _ I h) λv s1 h1=>aB h1 λy0 s2 h2=>?_)
 obtain⟨it,fp,tn,J,H2,e,I2,T,jP,f2,hq⟩:=h2
 subst e
 refine Lq (RR:=λacc C=>compPost (model X.prog X.w) X.A X.xe none (EP X pins σ Q) acc C) L hc hj pq bu hx cK TG ht he I2 T jP f2 hq ?_
 intro D H3 s' ⟨m,hn⟩ nr hI q
 exact⟨m,hn,λh' sb=>⟨.ref D,H3,hI h' λb o hb e=>sb.extBut b o hb e,rfl,q⟩⟩
theorem Lw{i:Nat}{y:Str}{py pw:Pos}(TG:wt X.K xs tg G)(hN:X.N.Nodup)(hy:X.N[i]? = some y)(pA:Loc X.env.scope y)(hi:PI X tg iter wi)(hc:X.calm=true)(hk:scope.kind = .function)(hj:js.map (λj=>X.N[j]?)=ns.map some)(ho:ph xs own ns scope.names X.env.scope.names=true)
  (ht:∀fp pins s H,nt (dZ X xs own ns scope (eE X.env.cells scope.names []) fp pins s H) ifs tt) (he:∀fp pins s H,PE (dZ X xs own ns scope (eE X.env.cells scope.names []) fp pins s H) elt te)
  (wx:swapsWith (.ListComp elt [⟨tg,iter,ifs,0⟩] scope pos) (some (.Name y py)) pw.line X.env=pure true:=by rfl) (hs:∀x,foldedSetIterable iter X.env x=pure x:=by intro _;rfl)
  (hf:X.fn y=true\/X.env.scope.names.lookup y=some .local:=by first | exact .inl rfl | exact .inr rfl | assumption) :
  PS X (.Assign [.Name y py] (.ListComp elt [⟨tg,iter,ifs,0⟩] scope pos) pw) (tq (λσ H Q=>wi σ H λJ H1=>D5 G js tt te σ J H1 Q) (oU i)):=by
 intro pins s σ H D I h
 obtain⟨L,pq,bu,hx,cK⟩:=Ln I hk ho
 rw[exec_Assign_Name_used _ _ _ _ wx]
 refine ag (wpAny_standAt (ag ?_))
 show wpAny _ X.A (do let _<-comprehension (.ListComp elt [⟨tg,iter,ifs,0⟩] scope pos) scope X.env _ (newList []) false (eval iter X.env) (some (assign (.Name y py) X.env))) _ _ s
 refine ag (aB (wpAny_comprehension_free (use:=some (assign (.Name y py) X.env)) (Q:=λ_ s'=>SP X pins D .next s') rfl hs L.Lk L.kind L.names
  (aB (hi pins s σ H _ I h) λv s1 h1=>aB h1 λy0 s2 h2=>?_)) λ_ s' hq=>aJ (aJ hq))
 obtain⟨it,fp,tn,J,H2,e,I2,T,jP,f2,hq⟩:=h2
 subst e
 refine Lq (Q:=λz H1=>D.nx (σ.set i (some z)) H1) (RR:=λacc C=>compPost (model X.prog X.w) X.A X.xe (some (assign (.Name y py) X.env)) (λ_ s'=>SP X pins D .next s') acc C) L hc hj pq bu hx cK TG ht he I2 T jP f2 hq ?_
 intro Dd H3 s' ⟨m,hn⟩ nr hI q
 have I3:Inv X pins σ H3 s':=hI s'.heap λ_ _ _ e=>e
 have tP:eV X pins H3 (s2.heap.objs.size+1):=I2.jO (gC _) nr
 obtain⟨o,es,ep,ho,hd,r⟩:=hn
 have I4:Inv X (pins++[(s2.heap.objs.size+1,o)]) σ H3 s':=I3.yU λp hp=>(dh.mp hp).elim (λz=>I3.pin p (gU _ z)) λz=>by
  have e:p=(s2.heap.objs.size+1,o):=by simpa using z
  subst e
  exact⟨ho,nr,tP.2.1,tP.2.2.1,λv z=>by rw[hd] at z;cases z⟩
 show wpAny _ X.A (assign (.Name y py) X.env (.ref Dd)) _ _ s'
 refine wpAny_assign_Name (Dc I4 hN hy pA (v := .ref Dd) rfl (λs4 I5=>?_) hf)
 have hp:=I5.pin (s2.heap.objs.size+1,o) (by simp)
 refine⟨m,⟨o,es,ep,hp.1,hd,r⟩,λh' sb=>⟨_,H3,?_,q⟩⟩
 refine(I5.tE (pl:=[(s2.heap.objs.size+1,o)])).turned (t':=s4.toks) (it:=s2.heap.objs.size+1) (λb o' hb e=>sb.extBut b o' hb e) nr tP.2.1 tP.2.2.2.1 tP.2.2.2.2.1 tP.2.2.2.2.2
theorem jl{x:Str}{px:Pos}(hi:PI X (.Name x px) iter wi)(hc:X.calm=true)(hk:scope.kind = .function)(hj:js.map (λj=>X.N[j]?)=ns.map some)(ho:ph [x] [] ns scope.names X.env.scope.names=true)
  (ht:∀fp pins s H,nt (dZ X [x] [] ns scope (eE X.env.cells scope.names []) fp pins s H) ifs tt) (he:∀fp pins s H,PE (dZ X [x] [] ns scope (eE X.env.cells scope.names []) fp pins s H) elt te) (hs:∀x,foldedSetIterable iter X.env x=pure x:=by intro _;rfl) :
  PE X (.ListComp elt [⟨.Name x px,iter,ifs,0⟩] scope pos) (D3 js wi tt te):=Lv D6 hi hc hk hj ho ht he hs
theorem wy{x:Str}{px:Pos}{i:Nat}{y:Str}{py pw:Pos}(hN:X.N.Nodup)(hy:X.N[i]? = some y)(pA:Loc X.env.scope y)(hi:PI X (.Name x px) iter wi)(hc:X.calm=true)(hk:scope.kind = .function)(hj:js.map (λj=>X.N[j]?)=ns.map some)(ho:ph [x] [] ns scope.names X.env.scope.names=true)
  (ht:∀fp pins s H,nt (dZ X [x] [] ns scope (eE X.env.cells scope.names []) fp pins s H) ifs tt) (he:∀fp pins s H,PE (dZ X [x] [] ns scope (eE X.env.cells scope.names []) fp pins s H) elt te)
  (wx:swapsWith (.ListComp elt [⟨.Name x px,iter,ifs,0⟩] scope pos) (some (.Name y py)) pw.line X.env=pure true:=by rfl) (hs:∀x,foldedSetIterable iter X.env x=pure x:=by intro _;rfl)
  (hf:X.fn y=true\/X.env.scope.names.lookup y=some .local:=by first | exact .inl rfl | exact .inr rfl | assumption) :
  PS X (.Assign [.Name y py] (.ListComp elt [⟨.Name x px,iter,ifs,0⟩] scope pos) pw) (tq (D3 js wi tt te) (oU i)):=Lw D6 hN hy pA hi hc hk hj ho ht he wx hs hf
theorem Lx{x z:Str}{px pz tp:Pos}{ck:Nat}(hi:PI X (.Tuple [.Name x px,.Name z pz] ck tp) iter wi)(hc:X.calm=true)(hk:scope.kind = .function)(hj:js.map (λj=>X.N[j]?)=ns.map some)(ho:ph [x,z] [] ns scope.names X.env.scope.names=true)
  (ht:∀fp pins s H,nt (dZ X [x,z] [] ns scope (eE X.env.cells scope.names []) fp pins s H) ifs tt) (he:∀fp pins s H,PE (dZ X [x,z] [] ns scope (eE X.env.cells scope.names []) fp pins s H) elt te) (hs:∀x,foldedSetIterable iter X.env x=pure x:=by intro _;rfl) :
  PE X (.ListComp elt [⟨.Tuple [.Name x px,.Name z pz] ck tp,iter,ifs,0⟩] scope pos) (Vs X.K js wi tt te):=Lv Vt hi hc hk hj ho ht he hs
theorem VE{x:Str}{px:Pos}{i:Nat}{y:Str}{py pw:Pos}(hN:X.N.Nodup)(hy:X.N[i]? = some y)(pA:Loc X.env.scope y)(hi:PI X (.Name x px) iter wi)(hc:X.calm=true)(hk:scope.kind = .function)(hj:js.map (λj=>X.N[j]?)=ns.map some)(ho:ph [x] [x] ns scope.names X.env.scope.names=true)
  (ht:∀fp pins s H,nt (dZ X [x] [x] ns scope (eE X.env.cells scope.names []) fp pins s H) ifs tt) (he:∀fp pins s H,PE (dZ X [x] [x] ns scope (eE X.env.cells scope.names []) fp pins s H) elt te)
  (wx:swapsWith (.ListComp elt [⟨.Name x px,iter,ifs,0⟩] scope pos) (some (.Name y py)) pw.line X.env=pure true:=by rfl) (hs:∀x,foldedSetIterable iter X.env x=pure x:=by intro _;rfl)
  (hf:X.fn y=true\/X.env.scope.names.lookup y=some .local:=by first | exact .inl rfl | exact .inr rfl | assumption) :
  PS X (.Assign [.Name y py] (.ListComp elt [⟨.Name x px,iter,ifs,0⟩] scope pos) pw) (tq (D3 js wi tt te) (oU i)):=Lw D6 hN hy pA hi hc hk hj ho ht he wx hs hf
end
theorem VF{X:Cx}{K:PySem.W.Frag}{tg l:Expr}{tl:TE}(hK:X.K=K)(hl:PE X l tl):PI X tg l (Ki K tl):=by
 subst hK
 exact dF hl
inductive D where
 |aA
 |bl (b:Bool)
 |int (i:Int)
 |str (x:Str)
 |tup (ds:List D)
 |lst (ds:List D)
mutual
def At(K:PySem.W.Frag)(H:Hp):D->V->Prop
 |.aA,v=>v = .aA
 |.bl b,v=>v = .bl b
 |.int i,v=>v = .int i
 |.str x,v=>v = .str x
 |.tup ds,v=>∃a xs,v = .ref a/\aw K H a xs/\dC K H ds xs
 |.lst ds,v=>∃a xs,v = .ref a/\aj K H a xs/\dC K H ds xs
def dC(K:PySem.W.Frag)(H:Hp):List D->List V->Prop
 |[],xs=>xs=[]
 |d::ds,xs=>∃x r,xs=x::r/\At K H d x/\dC K H ds r
end
mutual
theorem At.mono{K:PySem.W.Frag}{H H':Hp}(s:af H H'):∀(d:D) (v:V),At K H d v->At K H' d v
 |.aA,_,h=>h
 |.bl _,_,h=>h
 |.int _,_,h=>h
 |.str _,_,h=>h
 |.tup ds,_,⟨a,xs,e,q,l⟩=>⟨a,xs,e,s.tup q,dC.mono s ds xs l⟩
 |.lst ds,_,⟨a,xs,e,q,l⟩=>⟨a,xs,e,s.seq q,dC.mono s ds xs l⟩
theorem dC.mono{K:PySem.W.Frag}{H H':Hp}(s:af H H'):∀(ds:List D) (xs:List V),dC K H ds xs->dC K H' ds xs
 |[],_,h=>h
 |d::ds,_,⟨x,r,e,h,t⟩=>⟨x,r,e,At.mono s d x h,dC.mono s ds r t⟩
end
theorem dC.length{K:PySem.W.Frag}{H:Hp}:∀{ds:List D}{xs:List V},dC K H ds xs->xs.length=ds.length
 |[],_,h=>by rw[show _=[] from h];rfl
 |_::ds,_,⟨x,r,e,_,t⟩=>by rw[e,c5,c5,dC.length t]
mutual
noncomputable def d7:D->D->Bool
 |.aA,.aA=>true
 |.bl a,.bl b=>a==b
 |.bl a,.int b=>(if a then 1 else 0)==b
 |.int a,.bl b=>a==(if b then 1 else 0)
 |.int a,.int b=>a==b
 |.str a,.str b=>a==b
 |.tup a,.tup b=>jm a b
 |.lst a,.lst b=>jm a b
 |_,_=>false
noncomputable def jm:List D->List D->Bool
 |[],[]=>true
 |a::r,b::t=>d7 a b&&jm r t
 |_,_=>false
end
mutual
noncomputable def dep:D->Nat
 |.tup ds=>eZ ds+1
 |.lst ds=>eZ ds+1
 |_=>0
noncomputable def eZ:List D->Nat
 |[]=>0
 |d::r=>max (dep d) (eZ r)
end
mutual
theorem zR:∀d:D,d7 d d=true
 |.aA=>rfl
 |.bl b=>by simp[d7]
 |.int i=>by simp[d7]
 |.str x=>by simp[d7]
 |.tup ds=>by rw[d7];exact Ec ds
 |.lst ds=>by rw[d7];exact Ec ds
theorem Ec:∀ds:List D,jm ds ds=true
 |[]=>rfl
 |d::r=>by rw[jm,zR d,Ec r];rfl
end
noncomputable def rh:List D->List D->List Bool
 |a::r,b::t=>d7 a b::rh r t
 |_,_=>[]
theorem tQ:∀(ds es:List D),((List.range (min ds.length es.length)).all (λj=>(rh ds es).getD j true)&&ds.length==es.length)=jm ds es
 |[],[]=>rfl
 |[],_::_=>rfl
 |_::_,[]=>by simp[jm]
 |a::r,b::t=>by
  have ih:=tQ r t
  have e:min (a::r).length (b::t).length=min r.length t.length+1:=by simp only[c5];omega
  rw[e,Jw,yB,sP,jm,<-ih]
  have e2:((a::r).length==(b::t).length)=(r.length==t.length):=by simp
  rw[e2]
  show(d7 a b&&_&&_)=_
  rw[Bool.and_assoc]
  rfl
section
variable{X:Cx}{pins:List (Addr×Obj)}{σ:St}{H:Hp}{s:Shared}
mutual
theorem At.inj(I:Inv X pins σ H s):∀(d e:D) (x:V),At X.K H d x->At X.K H e x->d=e
 |.aA,e,x,h,g=>by
  cases(show x = .aA from h)
  cases e with
  |aA=>rfl
  |tup ds=>obtain⟨a,xs,z,_⟩:=g;cases z
  |lst ds=>obtain⟨a,xs,z,_⟩:=g;cases z
  |bl b=>cases(show V.aA = .bl b from g)
  |int b=>cases(show V.aA = .int b from g)
  |str b=>cases(show V.aA = .str b from g)
 |.bl k,e,x,h,g=>by
  cases(show x = .bl k from h)
  cases e with
  |aA=>cases(show V.bl k = .aA from g)
  |tup ds=>obtain⟨a,xs,z,_⟩:=g;cases z
  |lst ds=>obtain⟨a,xs,z,_⟩:=g;cases z
  |bl b=>cases(show V.bl k = .bl b from g);rfl
  |int b=>cases(show V.bl k = .int b from g)
  |str b=>cases(show V.bl k = .str b from g)
 |.int k,e,x,h,g=>by
  cases(show x = .int k from h)
  cases e with
  |aA=>cases(show V.int k = .aA from g)
  |tup ds=>obtain⟨a,xs,z,_⟩:=g;cases z
  |lst ds=>obtain⟨a,xs,z,_⟩:=g;cases z
  |bl b=>cases(show V.int k = .bl b from g)
  |int b=>cases(show V.int k = .int b from g);rfl
  |str b=>cases(show V.int k = .str b from g)
 |.str k,e,x,h,g=>by
  cases(show x = .str k from h)
  cases e with
  |aA=>cases(show V.str k = .aA from g)
  |tup ds=>obtain⟨a,xs,z,_⟩:=g;cases z
  |lst ds=>obtain⟨a,xs,z,_⟩:=g;cases z
  |bl b=>cases(show V.str k = .bl b from g)
  |int b=>cases(show V.str k = .int b from g)
  |str b=>cases(show V.str k = .str b from g);rfl
 |.tup ds,e,x,h,g=>by
  obtain⟨a,xs,z,q,l⟩:=h
  subst z
  cases e with
  |aA=>cases(show V.ref a = .aA from g)
  |bl b=>cases(show V.ref a = .bl b from g)
  |int b=>cases(show V.ref a = .int b from g)
  |str b=>cases(show V.ref a = .str b from g)
  |tup es=>
   obtain⟨b,ys,z,q',l'⟩:=g
   cases z
   have e:=I.Df q q'
   subst e
   rw[dC.inj I ds es xs l l']
  |lst es=>
   obtain⟨b,ys,z,q',l'⟩:=g
   cases z
   obtain⟨_,_,p1,_⟩:=I.tuple q
   obtain⟨_,_,p2,_⟩:=I.list q'
   exact absurd rfl (SeqAt.ne_of_list_tuple p2.isList p1)
 |.lst ds,e,x,h,g=>by
  obtain⟨a,xs,z,q,l⟩:=h
  subst z
  cases e with
  |aA=>cases(show V.ref a = .aA from g)
  |bl b=>cases(show V.ref a = .bl b from g)
  |int b=>cases(show V.ref a = .int b from g)
  |str b=>cases(show V.ref a = .str b from g)
  |lst es=>
   obtain⟨b,ys,z,q',l'⟩:=g
   cases z
   have e:=I.De q q'
   subst e
   rw[dC.inj I ds es xs l l']
  |tup es=>
   obtain⟨b,ys,z,q',l'⟩:=g
   cases z
   obtain⟨_,_,p1,_⟩:=I.tuple q'
   obtain⟨_,_,p2,_⟩:=I.list q
   exact absurd rfl (SeqAt.ne_of_list_tuple p2.isList p1)
theorem dC.inj(I:Inv X pins σ H s):∀(ds es:List D) (xs:List V),dC X.K H ds xs->dC X.K H es xs->ds=es
 |[],[],_,_,_=>rfl
 |[],_::_,xs,h,⟨x,r,e,_⟩=>by rw[show xs=[] from h] at e;cases e
 |_::_,[],xs,⟨x,r,e,_⟩,h=>by rw[show xs=[] from h] at e;cases e
 |d::ds,e::es,xs,⟨x,r,z,h,t⟩,⟨y,q,z',h',t'⟩=>by
  subst z
  cases z'
  rw[At.inj I d e x h h',dC.inj I ds es r t t']
end
mutual
theorem Ly(I:Inv X pins σ H s):∀(d e:D) (x y:V) (u v:Value) (A:Around) (n:Nat),dep d<=n->A.units+n<cLine->At X.K H d x->At X.K H e y->RelV x u->RelV y v->SeqAt.EqAt A s u v (d7 d e)
 |.tup ds,.tup es,x,y,u,v,A,n,hn,hu,h,g,rx,ry=>by
  by_cases same:x=y
  .subst same
   cases At.inj I _ _ x h g
   rw[zR]
   obtain⟨a,xs,rfl,_⟩:=h
   cases rx
   cases ry
   exact SeqAt.EqAt.same _
  .obtain⟨a,xs,rfl,q,l⟩:=h
   obtain⟨b,ys,rfl,q',l'⟩:=g
   cases rx
   cases ry
   obtain⟨its,r,p,_⟩:=I.tuple q
   obtain⟨cV,r',p',_⟩:=I.tuple q'
   have hn:eZ ds+1<=n:=hn
   have l1:its.length=ds.length:=by rw[<-r.length,l.length]
   have l2:cV.length=es.length:=by rw[<-r'.length,l'.length]
   have R:=SeqAt.RcAt.tuples (A:=A) (s:=s) (e:=λj=>(rh ds es).getD j true) p p' (by omega) λj h1 h2=>by
    have lQ:j<its.length:=by simpa using h1
    have kJ:j<cV.length:=by simpa using h2
    have:=wz I ds es xs ys its cV A.in1 (n - 1) (by omega) (by show A.units+1+(n - 1)<cLine;omega) l l' r r' j lQ kJ
    simpa using this
   have E:=SeqAt.EqAt.of_refs (λz=>same (by rw[z])) R
   rw[bp,bp,l1,l2,tQ] at E
   exact E
 |.lst ds,.lst es,x,y,u,v,A,n,hn,hu,h,g,rx,ry=>by
  by_cases same:x=y
  .subst same
   cases At.inj I _ _ x h g
   rw[zR]
   obtain⟨a,xs,rfl,_⟩:=h
   cases rx
   cases ry
   exact SeqAt.EqAt.same _
  .obtain⟨a,xs,rfl,q,l⟩:=h
   obtain⟨b,ys,rfl,q',l'⟩:=g
   cases rx
   cases ry
   obtain⟨its,r,p,_⟩:=I.list q
   obtain⟨cV,r',p',_⟩:=I.list q'
   have hn:eZ ds+1<=n:=hn
   have l1:its.length=ds.length:=by rw[<-r.length,l.length]
   have l2:cV.length=es.length:=by rw[<-r'.length,l'.length]
   refine SeqAt.EqAt.of_refs (λz=>same (by rw[z])) ?_
   show SeqAt.RcAt A s (.ref a) (.ref b) (jm ds es)
   rw[<-tQ ds es]
   by_cases hl:ds.length=es.length
   .have R:=SeqAt.RcAt.lists (A:=A) (s:=s) (e:=λj=>(rh ds es).getD j true) p.isList p'.isList (by rw[bp,bp,l1,l2,hl]) (by omega) λj h1 h2=>by
     have lQ:j<its.length:=by simpa using h1
     have kJ:j<cV.length:=by simpa using h2
     have:=wz I ds es xs ys its cV A.in1 (n - 1) (by omega) (by show A.units+1+(n - 1)<cLine;omega) l l' r r' j lQ kJ
     simpa using this
    rw[bp,l1] at R
    rw[<-hl,Nat.min_self,CQ,vC]
    exact R
   .have R:=SeqAt.RcAt.lists_lengths (A:=A) (s:=s) p.isList p'.isList (by rw[bp,bp,l1,l2];simpa using hl) (by omega)
    rw[show(ds.length==es.length)=false by simpa using hl,oy]
    exact R
 |.tup ds,.lst es,x,y,u,v,A,n,hn,hu,h,g,rx,ry=>by
  obtain⟨a,xs,rfl,q,l⟩:=h
  obtain⟨b,ys,rfl,q',l'⟩:=g
  cases rx
  cases ry
  obtain⟨its,r,p,_⟩:=I.tuple q
  obtain⟨cV,r',p',_⟩:=I.list q'
  exact SeqAt.EqAt.tuple_list p p'.isList (by omega)
 |.lst ds,.tup es,x,y,u,v,A,n,hn,hu,h,g,rx,ry=>by
  obtain⟨a,xs,rfl,q,l⟩:=h
  obtain⟨b,ys,rfl,q',l'⟩:=g
  cases rx
  cases ry
  obtain⟨its,r,p,_⟩:=I.list q
  obtain⟨cV,r',p',_⟩:=I.tuple q'
  exact SeqAt.EqAt.list_tuple p.isList p' (by omega)
 |.aA,.aA,x,y,u,v,A,n,hn,hu,h,g,rx,ry=>by cases(show x=_ from h);cases(show y=_ from g);exact gq rx ry rfl rfl
 |.aA,.bl _,x,y,u,v,A,n,hn,hu,h,g,rx,ry=>by cases(show x=_ from h);cases(show y=_ from g);exact gq rx ry rfl rfl
 |.aA,.int _,x,y,u,v,A,n,hn,hu,h,g,rx,ry=>by cases(show x=_ from h);cases(show y=_ from g);exact gq rx ry rfl rfl
 |.aA,.str _,x,y,u,v,A,n,hn,hu,h,g,rx,ry=>by cases(show x=_ from h);cases(show y=_ from g);exact gq rx ry rfl rfl
 |.bl _,.aA,x,y,u,v,A,n,hn,hu,h,g,rx,ry=>by cases(show x=_ from h);cases(show y=_ from g);exact gq rx ry rfl rfl
 |.bl _,.bl _,x,y,u,v,A,n,hn,hu,h,g,rx,ry=>by cases(show x=_ from h);cases(show y=_ from g);exact gq rx ry rfl rfl
 |.bl _,.int _,x,y,u,v,A,n,hn,hu,h,g,rx,ry=>by cases(show x=_ from h);cases(show y=_ from g);exact gq rx ry rfl rfl
 |.bl _,.str _,x,y,u,v,A,n,hn,hu,h,g,rx,ry=>by cases(show x=_ from h);cases(show y=_ from g);exact gq rx ry rfl rfl
 |.int _,.aA,x,y,u,v,A,n,hn,hu,h,g,rx,ry=>by cases(show x=_ from h);cases(show y=_ from g);exact gq rx ry rfl rfl
 |.int _,.bl _,x,y,u,v,A,n,hn,hu,h,g,rx,ry=>by cases(show x=_ from h);cases(show y=_ from g);exact gq rx ry rfl rfl
 |.int _,.int _,x,y,u,v,A,n,hn,hu,h,g,rx,ry=>by cases(show x=_ from h);cases(show y=_ from g);exact gq rx ry rfl rfl
 |.int _,.str _,x,y,u,v,A,n,hn,hu,h,g,rx,ry=>by cases(show x=_ from h);cases(show y=_ from g);exact gq rx ry rfl rfl
 |.str _,.aA,x,y,u,v,A,n,hn,hu,h,g,rx,ry=>by cases(show x=_ from h);cases(show y=_ from g);exact gq rx ry rfl rfl
 |.str _,.bl _,x,y,u,v,A,n,hn,hu,h,g,rx,ry=>by cases(show x=_ from h);cases(show y=_ from g);exact gq rx ry rfl rfl
 |.str _,.int _,x,y,u,v,A,n,hn,hu,h,g,rx,ry=>by cases(show x=_ from h);cases(show y=_ from g);exact gq rx ry rfl rfl
 |.str _,.str _,x,y,u,v,A,n,hn,hu,h,g,rx,ry=>by cases(show x=_ from h);cases(show y=_ from g);exact gq rx ry rfl rfl
 |.tup ds,.aA,x,y,u,v,A,n,hn,hu,⟨a,xs,z,q,l⟩,g,rx,ry=>by subst z;cases rx;cases(show y=_ from g);cases ry;obtain⟨its,r,p,_⟩:=I.tuple q;exact SeqAt.EqAt.tuple_none p (by omega)
 |.tup ds,.bl _,x,y,u,v,A,n,hn,hu,⟨a,xs,z,q,l⟩,g,rx,ry=>by subst z;cases rx;cases(show y=_ from g);cases ry;obtain⟨its,r,p,_⟩:=I.tuple q;exact SeqAt.EqAt.tuple_bool _ p (by omega)
 |.tup ds,.int _,x,y,u,v,A,n,hn,hu,⟨a,xs,z,q,l⟩,g,rx,ry=>by subst z;cases rx;cases(show y=_ from g);obtain⟨t,rfl⟩:=ry;obtain⟨its,r,p,_⟩:=I.tuple q;exact SeqAt.EqAt.tuple_int _ _ p (by omega)
 |.tup ds,.str _,x,y,u,v,A,n,hn,hu,⟨a,xs,z,q,l⟩,g,rx,ry=>by subst z;cases rx;cases(show y=_ from g);obtain⟨t,rfl⟩:=ry;obtain⟨its,r,p,_⟩:=I.tuple q;exact SeqAt.EqAt.tuple_str _ _ p (by omega)
 |.lst ds,.aA,x,y,u,v,A,n,hn,hu,⟨a,xs,z,q,l⟩,g,rx,ry=>by subst z;cases rx;cases(show y=_ from g);cases ry;obtain⟨its,r,p,_⟩:=I.list q;exact SeqAt.EqAt.list_none p.isList (by omega)
 |.lst ds,.bl _,x,y,u,v,A,n,hn,hu,⟨a,xs,z,q,l⟩,g,rx,ry=>by subst z;cases rx;cases(show y=_ from g);cases ry;obtain⟨its,r,p,_⟩:=I.list q;exact SeqAt.EqAt.list_bool _ p.isList (by omega)
 |.lst ds,.int _,x,y,u,v,A,n,hn,hu,⟨a,xs,z,q,l⟩,g,rx,ry=>by subst z;cases rx;cases(show y=_ from g);obtain⟨t,rfl⟩:=ry;obtain⟨its,r,p,_⟩:=I.list q;exact SeqAt.EqAt.list_int _ _ p.isList (by omega)
 |.lst ds,.str _,x,y,u,v,A,n,hn,hu,⟨a,xs,z,q,l⟩,g,rx,ry=>by subst z;cases rx;cases(show y=_ from g);obtain⟨t,rfl⟩:=ry;obtain⟨its,r,p,_⟩:=I.list q;exact SeqAt.EqAt.list_str _ _ p.isList (by omega)
 |.aA,.tup ds,x,y,u,v,A,n,hn,hu,g,⟨a,xs,z,q,l⟩,rx,ry=>by subst z;cases ry;cases(show x=_ from g);cases rx;obtain⟨its,r,p,_⟩:=I.tuple q;exact SeqAt.EqAt.none_tuple p (by omega)
 |.bl _,.tup ds,x,y,u,v,A,n,hn,hu,g,⟨a,xs,z,q,l⟩,rx,ry=>by subst z;cases ry;cases(show x=_ from g);cases rx;obtain⟨its,r,p,_⟩:=I.tuple q;exact SeqAt.EqAt.bool_tuple _ p (by omega)
 |.int _,.tup ds,x,y,u,v,A,n,hn,hu,g,⟨a,xs,z,q,l⟩,rx,ry=>by subst z;cases ry;cases(show x=_ from g);obtain⟨t,rfl⟩:=rx;obtain⟨its,r,p,_⟩:=I.tuple q;exact SeqAt.EqAt.int_tuple _ _ p (by omega)
 |.str _,.tup ds,x,y,u,v,A,n,hn,hu,g,⟨a,xs,z,q,l⟩,rx,ry=>by subst z;cases ry;cases(show x=_ from g);obtain⟨t,rfl⟩:=rx;obtain⟨its,r,p,_⟩:=I.tuple q;exact SeqAt.EqAt.str_tuple _ _ p (by omega)
 |.aA,.lst ds,x,y,u,v,A,n,hn,hu,g,⟨a,xs,z,q,l⟩,rx,ry=>by subst z;cases ry;cases(show x=_ from g);cases rx;obtain⟨its,r,p,_⟩:=I.list q;exact SeqAt.EqAt.none_list p.isList (by omega)
 |.bl _,.lst ds,x,y,u,v,A,n,hn,hu,g,⟨a,xs,z,q,l⟩,rx,ry=>by subst z;cases ry;cases(show x=_ from g);cases rx;obtain⟨its,r,p,_⟩:=I.list q;exact SeqAt.EqAt.bool_list _ p.isList (by omega)
 |.int _,.lst ds,x,y,u,v,A,n,hn,hu,g,⟨a,xs,z,q,l⟩,rx,ry=>by subst z;cases ry;cases(show x=_ from g);obtain⟨t,rfl⟩:=rx;obtain⟨its,r,p,_⟩:=I.list q;exact SeqAt.EqAt.int_list _ _ p.isList (by omega)
 |.str _,.lst ds,x,y,u,v,A,n,hn,hu,g,⟨a,xs,z,q,l⟩,rx,ry=>by subst z;cases ry;cases(show x=_ from g);obtain⟨t,rfl⟩:=rx;obtain⟨its,r,p,_⟩:=I.list q;exact SeqAt.EqAt.str_list _ _ p.isList (by omega)
theorem wz(I:Inv X pins σ H s):∀(ds es:List D) (xs ys:List V) (us vs:List Value) (A:Around) (n:Nat),eZ ds<=n->A.units+n<cLine->dC X.K H ds xs->dC X.K H es ys->Vals xs us->Vals ys vs->
  ∀(j:Nat) (h1:j<us.length) (h2:j<vs.length),SeqAt.EqAt A s us[j] vs[j] ((rh ds es).getD j true)
 |[],es,xs,ys,us,vs,A,n,hn,hu,h,g,r,r',j,h1,h2=>by
  rw[show xs=[] from h] at r
  cases r
  cases h1
 |d::ds,[],xs,ys,us,vs,A,n,hn,hu,h,g,r,r',j,h1,h2=>by
  rw[show ys=[] from g] at r'
  cases r'
  cases h2
 |d::ds,e::es,xs,ys,us,vs,A,n,hn,hu,⟨x,q,z,h,t⟩,⟨y,q',z',h',t'⟩,r,r',j,h1,h2=>by
  subst z
  subst z'
  have hn:max (dep d) (eZ ds)<=n:=hn
  cases r with
  |cons r0 r1=>
   cases r' with
   |cons VG VH=>
    cases j with
    |zero=>exact Ly I d e x y _ _ A n (by omega) hu h h' r0 VG
    |succ j=>exact wz I ds es q q' _ _ A n (by omega) hu t t' r1 VH j (Nat.lt_of_succ_lt_succ h1) (Nat.lt_of_succ_lt_succ h2)
end
def VI(K:PySem.W.Frag)(neg:Bool):R2:=λx y H Q=>∃d e,At K H d x/\At K H e y/\((∃ds es,d = .tup ds/\e = .tup es)\/(∃ds es,d = .lst ds/\e = .lst es))/\dep d<=50/\Q (.bl (if neg then !d7 d e else d7 d e)) H
end
section
variable{X:Cx}
theorem Ed(hu:X.A.units+64<cLine):cM X (compareOp .Eq) (VI X.K false):=by
 intro pins s σ H x y v u Q I rx ry h
 obtain⟨d,e,h1,h2,hk,hd,q⟩:=h
 have q:Q (.bl (d7 d e)) H:=q
 rcases hk with ⟨ds,es,rfl,rfl⟩ | ⟨ds,es,rfl,rfl⟩
 .obtain⟨a,xs,rfl,p,l⟩:=h1
  obtain⟨b,ys,rfl,p',l'⟩:=h2
  cases rx
  cases ry
  obtain⟨its,r,t,_⟩:=I.tuple p
  obtain⟨cV,r',t',_⟩:=I.tuple p'
  have hd:eZ ds+1<=50:=hd
  have l1:its.length=ds.length:=by rw[<-r.length,l.length]
  have l2:cV.length=es.length:=by rw[<-r'.length,l'.length]
  refine SeqAt.eq_tupleAt (e:=λj=>(rh ds es).getD j true) t t' (by omega) (λj h1 h2=>?_) ⟨.bl (jm ds es),H,I,?_,q⟩
  .have lQ:j<its.length:=by simpa using h1
   have kJ:j<cV.length:=by simpa using h2
   have:=wz I ds es xs ys its cV X.A.in1 49 (by omega) (by show X.A.units+1+49<cLine;omega) l l' r r' j lQ kJ
   simpa using this
  .show Value.bool _=Value.bool _
   rw[bp,bp,l1,l2,tQ]
 .obtain⟨a,xs,rfl,p,l⟩:=h1
  obtain⟨b,ys,rfl,p',l'⟩:=h2
  cases rx
  cases ry
  obtain⟨its,r,t,_⟩:=I.list p
  obtain⟨cV,r',t',_⟩:=I.list p'
  have hd:eZ ds+1<=50:=hd
  have l1:its.length=ds.length:=by rw[<-r.length,l.length]
  have l2:cV.length=es.length:=by rw[<-r'.length,l'.length]
  by_cases hl:ds.length=es.length
  .refine SeqAt.eq_listAt (e:=λj=>(rh ds es).getD j true) t.isList t'.isList (by rw[bp,bp,l1,l2,hl]) (by omega) (λj h1 h2=>?_) ⟨.bl (jm ds es),H,I,?_,q⟩
   .have lQ:j<its.length:=by simpa using h1
    have kJ:j<cV.length:=by simpa using h2
    have:=wz I ds es xs ys its cV X.A.in1 49 (by omega) (by show X.A.units+1+49<cLine;omega) l l' r r' j lQ kJ
    simpa using this
   .show Value.bool _=Value.bool _
    rw[bp,l1,<-tQ ds es,<-hl,Nat.min_self,CQ,vC]
  .refine SeqAt.eq_list_lengthsAt t.isList t'.isList (by rw[bp,bp,l1,l2];simpa using hl) (by omega) ⟨.bl (jm ds es),H,I,?_,q⟩
   show Value.bool _=Value.bool _
   rw[<-tQ ds es,show(ds.length==es.length)=false by simpa using hl,oy]
end
theorem cn:bootBuiltins "len"=some (.builtin "len"):=by decide +kernel
theorem Lz:bootBuiltins "all"=some (.builtin "all"):=by decide +kernel
theorem VJ:bootBuiltins "isinstance"=some (.builtin "isinstance"):=by decide +kernel
theorem zS:bootBuiltins "sorted"=some (.builtin "sorted"):=by decide +kernel
theorem wA:bootBuiltins "tuple"=some (.type "tuple"):=by decide +kernel
theorem wB:bootBuiltins "list"=some (.type "list"):=by decide +kernel
theorem VL:bootBuiltins "str"=some (.type "str"):=by decide +kernel
structure Fn(P:Program)(w:World)(K:PySem.W.Frag)(mg:Str->Option Value)(base:Heap)(x:Str)(k:Nat)(sp:Sp):Prop where
 ex:∃(f:Addr) (fd:FuncData) (ps:List Str),aM P w K mg base aR k f fd ps sp/\mg x=some (.ref f)/\PySem.W.keepIn K (.ref f)=true/\Binds K fd ps []
section
variable{X:Cx}{x:Str}{p pos:Pos}{e:Expr}{es:List Expr}{t:TA}{sp:Sp}{k:Nat}
theorem aV(F:Fn X.prog X.w X.K X.mg X.base x k sp)(hr:b7 k X.A)(hg:Gl X x)(ha:PA X (e::es) t)(gk:(x==("__debug__":Str))=false:=by decide)
  (he:starEach (e::es) X.env=(false,eval e X.env)::starEach es X.env:=by rfl) (hpl:(backTo pos (starEach es X.env)).any (·.1)=false:=by rfl):PE X (.Call (.Name x p) (e::es) [] pos) (Ky sp [] E0 t):=by
 obtain⟨f,fd,ps,G,hm,hk,hb⟩:=F.ex
 exact TX G hr hg hm hk hb .nil wm ha gk he hpl
end
def Cn(mg:Str->Option Value)(x:Str)(v:V):Prop := ∃u,mg x=some u/\RelV v u
theorem ny{X:Cx}{x:Str}{v:V}{pos:Pos}(h:Cn X.mg x v)(hg:Gl X x)(hd:(x==("__debug__":Str))=false:=by decide):PE X (.Name x pos) (tC v):=by
 obtain⟨u,hm,r⟩:=h
 exact Ss hg hm r hd
theorem VM{X:Cx}:gE X (.builtin "isinstance") (λxs H Q=>∃x c t b,(xs=[x,.ty c]/\iO X.K H x t/\PySem.W.kitOne X.K t (.type c)=some b)/\Q (.bl b) H):=by
 intro pins s σ H xs us Q I r h
 obtain⟨x,c,t,b,⟨rfl,ty,e⟩,q⟩:=h
 obtain⟨u,v,rfl,ru,rv⟩:=vals2 r
 cases rv
 exact TN I ru ty e λtk=>⟨.bl b,H,I.tok tk,rfl,q⟩
theorem VN{K:PySem.W.Frag}{t:String}:PySem.W.kitOne K (.type t) (.type t)=some true:=by
 unfold PySem.W.kitOne
 rw[ax (by simp)]
theorem LB{X:Cx}(hc:X.calm=true):gE X (.builtin "all") (λxs H Q=>∃(a:Addr) (bs:List Bool),xs=[.ref a]/\aj X.K H a (bs.map V.bl)/\Q (.bl (bs.all id)) H):=by
 intro pins s σ H xs us Q I r h
 obtain⟨l,bs,rfl,hq,q⟩:=h
 obtain⟨u,rfl,ru⟩:=vals1 r
 cases ru
 obtain⟨its,rv,pl,hz⟩:=I.list hq
 have hl:=pl.isList
 have hh:X.A.handled=none:=I.ok.hd hc
 have aN:l<s.heap.objs.size:=by obtain⟨_,e,_⟩:=hl;exact bE e
 have hlen:its.length=bs.length:=by rw[<-rv.length,ar]
 refine call_all_walk (vw hl ?_)
 refine⟨s.heap.objs.size,[s.heap.objs.size,l],[s.heap.objs.size],its.toArray.size,_,_,λi=>(bs[i]?).getD true,rfl,Walks.list (A:=X.A.in1) hh _ l (bU aN) its.toArray,
  ⟨⟨_,cw _ rfl,rfl,rfl⟩,hl.push _⟩,λi v s' Q' E' hP hQ=>?_,λh' tk hk=>?_⟩
 .have hv:its[i]? = some v:=by simpa using hP
  have hi:i<bs.length:=by rw[<-hlen];exact(bZ.mp hv).1
  obtain⟨u',e1,e2⟩:=rv.get (i:=i) (x:=V.bl bs[i]) (by simp[hi])
  rw[hv] at e1
  cases e1
  have e2:v=Value.bool bs[i]:=e2
  subst e2
  simp only[aU hi,oz] at hQ
  exact oo hQ
 .have e:((List.range its.toArray.size).all λi=>(bs[i]?).getD true)=bs.all id:=by
   rw[bp,hlen];exact LSm.range_all bs
  rw[e]
  exact⟨.bl _,H,I.kept λb o e=>LSm.kept_iter hk b o e,rfl,q⟩
theorem Ee{xs:List Str}:∀{us:List Value},Vals (xs.map V.str) us->StrsAre us xs:=by
 induction xs with
 |nil=>intro us h;cases h;exact .nil
 |cons x r ih=>
  intro us h
  cases h with
  |cons q t=>
   obtain⟨t',rfl⟩:=q
   exact .cons _ _ (ih t)
def rJoin(K:PySem.W.Frag):V->List V->Hp->VK->Prop:=λx vs H Q=>∃y a zs,x = .str y/\vs=[.ref a]/\(aj K H a (zs.map V.str)\/aw K H a (zs.map V.str))/\(zs.map (·.length)).sum+zs.length*y.length<=16777216/\Q (.str (Str.join y zs)) H
theorem LC{X:Cx}:zo X "str.join" (rJoin X.K):=by
 intro pins s σ H x vs v us Q I rx rv h
 obtain⟨y,a,zs,rfl,rfl,hq,hz,q⟩:=h
 obtain⟨t,rfl⟩:=rx
 obtain⟨u,rfl,ru⟩:=rv.one
 cases ru
 have e:Txt.join y zs=Str.join y zs:=StrLaws.glued_eq_join y zs
 rcases hq with hq | hq
 .obtain⟨its,r,pl,_⟩:=I.list hq
  refine join_list pl.isList (by simpa using Ee r) hz λt' k=>⟨.str (Str.join y zs),H,I.tok k,⟨t',by rw[e]⟩,q⟩
 .obtain⟨its,r,pl,_⟩:=I.tuple hq
  refine join_tuple pl (by simpa using Ee r) hz λt' k=>⟨.str (Str.join y zs),H,I.tok k,⟨t',by rw[e]⟩,q⟩
noncomputable def Ef(x:Str):It:=⟨λi _=>i<x.cps.size,λi H v H'=>H'=H/\∃c,x.cps.toList[i]? = some c/\v = .str ⟨#[c]⟩,λi _=>i=x.cps.size⟩
theorem VO(x:Str):["enumerate","zip","dict_itemiterator","dict_reverseitemiterator","odict_iterator","itertools.zip_longest","itertools.pairwise"].contains (strIterType x)=false:=by
 unfold strIterType
 split <;> decide
theorem LD{prog:Program}{w:World}{A:Around}(hh:A.handled=none)(I:Addr)(x:Str)(t:Tok):Walks prog w A I [I] [I] x.cps.size (SignAt x) (λi h=>h.IsStrIter I (strIterType x) x t i):=by
 unfold strIterType
 split
 .exact Walks.strAscii hh I x t
 .exact Walks.strWide hh I x t
theorem VP{prog:Program}{w:World}{A:Around}{I:Addr}{x:Str}{t:Tok}{i:Nat}{s:Shared}{Q:Value->Shared->Prop}{E:Value->Shared->Prop}(h:s.heap.IsStrIter I (strIterType x) x t i)(q:Q (.ref I) s):wpAny (model prog w) A (pyIter (.ref I)) Q E s:=by
 unfold strIterType at h
 split at h
 .exact wpAny_pyIter_striter_ascii h q
 .exact wpAny_pyIter_striter_wide h q
theorem VQ{P:Program}{w:World}{K:PySem.W.Frag}{tg:Expr}(x:Str)(t:Tok)(it:Addr):Turn P w K tg (Ef x) [it] it (λi h=>h.IsStrIter it (strIterType x) x t i) where
 mem:=by simp
 obj:=λi h st b hb=>by
  have e:b=it:=by simpa using hb
  subst e
  obtain⟨o,e,c,d⟩:=st
  exact⟨o,e,λv z=>by rw[d] at z;cases z⟩
 keep:=λi h h' st k=>let ⟨o,ho,r⟩:=st;⟨o,k it (by simp) o ho,r⟩
 item:=by
  intro X hP hw hK hc i pins s σ H E I hf st hg
  subst hP hw hK
  obtain⟨f0,f1,f2,f3,f4,f5⟩:=hf it (by simp)
  have W:=LD (prog:=X.prog) (w:=X.w) (I.ok.hd hc) it x t
  refine W.item i s _ _ hg st λv h' tk hv dN kk=>?_
  obtain⟨c,u,wC,rfl⟩:=hv
  have I1:Inv X pins σ H { s with heap:=h',toks:=tk }:=I.turned (λb o hb e=>kk b o (by simpa using hb) e) f0 f1 f3 f4 f5
  obtain⟨o,e1,e2,e3⟩:=id dN
  refine⟨_,rfl,tu (s:={ s with heap:=h',toks:=tk }) (n:=strIterType x) e1 e2 e3 (VO x) ⟨.str ⟨#[c]⟩,H,I1,⟨u,rfl⟩,⟨rfl,c,by simpa using wC,rfl⟩,dN,λb hb=>(hf b hb).1⟩⟩
 done:=by
  intro X hP hw hK hc i pins s σ H E I hf st hg
  subst hP hw hK
  obtain⟨f0,f1,f2,f3,f4,f5⟩:=hf it (by simp)
  have hg:i=x.cps.size:=hg
  subst hg
  have W:=LD (prog:=X.prog) (w:=X.w) (I.ok.hd hc) it x t
  exact W.done s _ _ st λh' tk kk=>⟨rfl,I.turned (λb o hb e=>kk b o (by simpa using hb) e) f0 f1 f3 f4 f5⟩
 self:=λ_ _ _ _ _ st h=>VP st h
def VR(tl:TE):TI:=λσ H R=>tl σ H λx H1=>∃z,x = .str z/\R (Ef z) H1
theorem VS{X:Cx}{tg l:Expr}{tl:TE}(hl:PE X l tl):PI X tg l (VR tl):=by
 intro pins s σ H R I h
 refine aB (hl pins s σ H _ I h) λv s1 ⟨x,H1,I1,r1,q1⟩=>?_
 obtain⟨z,e,q⟩:=q1
 subst e
 obtain⟨t,rfl⟩:=r1
 refine wpAny_pyIter_strU ?_
 refine⟨s1.heap.objs.size,[s1.heap.objs.size],_,_,H1,rfl,I1.kept (t':=s1.toks) λb o e=>bw _ e,VQ z t _,⟨_,cw _ rfl,rfl,rfl⟩,λb hb=>?_,q⟩
 have e:b=s1.heap.objs.size:=by simpa using hb
 subst e
 exact I1.jO (aQ _) I1.fresh
structure nz(J:It)(Ok:Hp->Prop)(vs:List V):Prop where
 go:∀i H,Ok H->i<vs.length->J.go i H
 gi:∀i H x H',Ok H->i<vs.length->J.gi i H x H'->H'=H/\vs[i]? = some x
 stop:∀H,Ok H->J.stop vs.length H
theorem jn{K:PySem.W.Frag}{a:Addr}{xs:List V}:nz (qN K a) (λH=>aj K H a xs) xs:=
 ⟨λi H h hi=>⟨xs,xs[i],h,by simp[hi]⟩,λi H x H' h _ y=>⟨y.1,y.2 xs h⟩,λH h=>⟨xs,h,aQ _⟩⟩
theorem Eg{K:PySem.W.Frag}{a:Addr}{xs:List V}:nz (tw K a) (λH=>aw K H a xs) xs:=
 ⟨λi H h hi=>⟨xs,xs[i],h,by simp[hi]⟩,λi H x H' h _ y=>⟨y.1,y.2 xs h⟩,λH h=>⟨xs,h,aQ _⟩⟩
theorem VT{lo:Int}{n:Nat}:nz (lI lo n) (λ_=>True) ((List.range n).map λ(i:Nat)=>V.int (lo+(i:Int))):=
 ⟨λi H _ hi=>(by simpa using hi:i<n),λi H x H' _ hi y=>⟨y.1,by
  obtain⟨_,e⟩:=y
  subst e
  have hi:i<n:=by simpa using hi
  simp[hi]⟩,λH _=>(by simp:n<=((List.range n).map λ(i:Nat)=>V.int (lo+(i:Int))).length)⟩
theorem VU{x:Str}:nz (Ef x) (λ_=>True) (x.cps.toList.map λc=>V.str ⟨#[c]⟩):=
 ⟨λi H _ hi=>(by simpa using hi:i<x.cps.size),λi H v H' _ _ y=>⟨y.1,by
  obtain⟨_,c,e1,e2⟩:=y
  rw[bb,e1,e2]
  all_goals rfl⟩,λH _=>(by simp:(x.cps.toList.map λc=>V.str ⟨#[c]⟩).length=x.cps.size)⟩
theorem VV{J:It}{Ok:Hp->Prop}{vs:List V}{g:TG}{tb:TS}{D:Ends}{σ:St}{H:Hp}(S:nz J Ok vs)(Pv:Nat->St->Hp->Prop)(h0:Pv 0 σ H)(aC:∀i σ H,i<=vs.length->Pv i σ H->Ok H)
  (hs:∀i x σ H,vs[i]? = some x->Pv i σ H->g x σ H λσ2 H2=>tb { D with nx:=Pv (i+1),ct:=Pv (i+1),bk:=D.nx } σ2 H2) (hd:∀σ H,Pv vs.length σ H->D.nx σ H) :
  ∃W:Nat->Nat->St->Hp->Prop,(∃m,W 0 m σ H)/\∀i m σ H,W i m σ H->
   (J.stop i H/\D.nx σ H)\/(J.go i H/\∃N:St->Hp->Prop,(∀σ' H',N σ' H'->∃m',m'<m/\W (i+1) m' σ' H')/\∀x H',J.gi i H x H'->g x σ H' λσ2 H2=>tb { D with nx:=N,ct:=N,bk:=D.nx } σ2 H2):=by
 refine⟨λi m σ H=>m=vs.length - i/\i<=vs.length/\Pv i σ H,⟨vs.length,by simp,bx _,h0⟩,?_⟩
 rintro i m σ H ⟨rfl,hi,p⟩
 have q:=aC i σ H hi p
 by_cases aN:i<vs.length
 .refine .inr ⟨S.go i H q aN,Pv (i+1),λσ' H' p'=>⟨vs.length - (i+1),by omega,rfl,aN,p'⟩,λx H' y=>?_⟩
  obtain⟨e,yy⟩:=S.gi i H x H' q aN y
  subst e
  exact hs i x σ _ yy p
 .have e:i=vs.length:=by omega
  subst e
  exact .inl ⟨S.stop H q,hd σ H p⟩
theorem lR{J:It}{Ok:Hp->Prop}{vs:List V}{js:List Nat}{tt:TT}{te:TE}{σ:St}{H1:Hp}{Q:VK}(S:nz J Ok vs)(hn:vs.length<=15752961)(p:Nat->Bool)(F:Addr->Nat->V->Hp->Prop)(aC:∀H,af H1 H->Ok H)
  (mono:∀D i y H H',H1 D=none->(∃o,H D=some (.lst o))->(∀b o,b≠D->H b=some o->H' b=some o)->F D i y H->F D i y H')
  (hs:∀D i x H (Z0:Hp->Prop) (Z:V->Hp->Prop),H1 D=none->vs[i]? = some x->af H1 H->(∃o,H D=some (.lst o))->(∀H2,af H H2->p i=false->Z0 H2)->(∀y H2,af H H2->p i=true->F D i y H2->Z y H2)->
   tt (some x::eX js σ) H λb H2=>if b=true then te (some x::eX js σ) H2 Z else Z0 H2)
  (hd:∀D ys H,H1 D=none->H D=some (.lst ys)->af H1 H->Paired (λi y=>F D i y H) ((List.range vs.length).filter p) ys->Q (.ref D) H):D0 js tt te σ J H1 Q:=by
 intro D hD
 have hz:15752961<sizeLine:=by decide
 refine⟨λi m H=>m=vs.length - i/\i<=vs.length/\∃ys,H D=some (.lst ys)/\af H1 H/\Paired (λi y=>F D i y H) ((List.range i).filter p) ys,⟨vs.length,by simp,bx _,[],au,af.upd hD,.nil⟩,?_⟩
 rintro i m H ⟨rfl,hi,ys,bB,sm,pr⟩
 have q:=aC H sm
 by_cases aN:i<vs.length
 .refine .inr ⟨S.go i H q aN,λx H' y=>?_⟩
  obtain⟨e,yy⟩:=S.gi i H x H' q aN y
  subst e
  have jL:List.range (i+1)=List.range i++[i]:=jG
  have ln:ys.length<=i:=by
   have h1:=pr.length
   have h2:((List.range i).filter p).length<=(List.range i).length:=gD _ _
   rw[iH] at h2
   omega
  refine hs D i x H' _ _ hD yy sm ⟨ys,bB⟩ (λH2 s2 hp=>?_) (λz H2 s2 hp hF=>?_)
  .refine⟨vs.length - (i+1),by omega,rfl,aN,ys,s2 _ _ bB,sm.trans s2,?_⟩
   rw[jL,jH,cR,aq (by rw[hp];exact bW),oC,fX]
   exact Paired.bI pr λj z f=>mono D j z H' H2 hD ⟨ys,bB⟩ (λb o _ e=>s2 b o e) f
  .refine⟨ys,s2 _ _ bB,by omega,vs.length - (i+1),by omega,rfl,aN,ys++[z],au,(sm.trans s2).jX hD,?_⟩
   have up:∀b o,b≠D->H2 b=some o->upd H2 D (.lst (ys++[z])) b=some o:=λb o hb e=>by rw[ak hb];exact e
   rw[jL,jH,cR,ax hp,oC]
   refine mN (Paired.bI pr λj z' f=>?_) (mono D i z H2 _ hD ⟨ys,s2 _ _ bB⟩ up hF)
   exact mono D j z' H2 _ hD ⟨ys,s2 _ _ bB⟩ up (mono D j z' H' H2 hD ⟨ys,bB⟩ (λb o _ e=>s2 b o e) f)
 .have e:i=vs.length:=by omega
  subst e
  exact .inl ⟨S.stop H q,hd D ys H hD bB sm pr⟩
theorem comp_map{J:It}{Ok:Hp->Prop}{vs:List V}{js:List Nat}{te:TE}{σ:St}{H1:Hp}{Q:VK}(S:nz J Ok vs)(hn:vs.length<=15752961)(F:Addr->Nat->V->Hp->Prop)(aC:∀H,af H1 H->Ok H)
  (mono:∀D i y H H',H1 D=none->(∃o,H D=some (.lst o))->(∀b o,b≠D->H b=some o->H' b=some o)->F D i y H->F D i y H')
  (hs:∀D i x H (Z:V->Hp->Prop),H1 D=none->vs[i]? = some x->af H1 H->(∃o,H D=some (.lst o))->(∀y H2,af H H2->F D i y H2->Z y H2)->te (some x::eX js σ) H Z)
  (hd:∀D ys H,H1 D=none->H D=some (.lst ys)->af H1 H->Paired (λi y=>F D i y H) (List.range vs.length) ys->Q (.ref D) H):D0 js Lp te σ J H1 Q:=by
 refine lR S hn (λ_=>true) F aC mono (λD i x H Z0 Z h1 h2 h3 h4 _ k1=>bz (B:=Z0 H) (hs D i x H Z h1 h2 h3 h4 λy H2 s f=>k1 y H2 s rfl f)) λD ys H h1 h2 h3 pr=>hd D ys H h1 h2 h3 ?_
 rw[List.filter_eq_self.mpr (λ_ _=>rfl)] at pr
 exact pr
def VW:V->Option Int->Option Int->Hp->VK->Prop:=λx lo hi H Q=>∃z,x = .str z/\z.length<=sizeLine/\Q (.str (Txt.slice z lo hi)) H
theorem part_of{v:Value}{o:Option Int}(p:IsPart v o):∃l:Option (Int×Tok),v=partValue l/\l.map (·.1)=o:=by
 cases p with
 |none=>exact⟨none,rfl,rfl⟩
 |int i t=>exact⟨some (i,t),rfl,rfl⟩
theorem tR{X:Cx}:Dy X VW:=by
 intro pins s σ H x v vl vu lo hi sl Q I rx hs pl pu h
 obtain⟨z,rfl,hz,q⟩:=h
 obtain⟨t,rfl⟩:=rx
 obtain⟨l,rfl,rfl⟩:=part_of pl
 obtain⟨u,rfl,rfl⟩:=part_of pu
 exact⟨"str",_,F.slot_str_getitem.lookup,typeIs_str _ _ _,wpAny_getItem_str_slice (l:=l) (u:=u) (st:=none) hs rfl
  (post_val_or_str ⟨bA (vD z _ _) hz,λt' k=>⟨.str (Txt.slice z _ _),H,I.tok k,⟨t',rfl⟩,q⟩⟩)⟩
theorem jo{n:Nat}{g:TG}{tb:TS}{D:Ends}{σ:St}{H:Hp}(Pv:Nat->St->Hp->Prop)(h0:Pv 0 σ H)
  (hs:∀(i:Nat) σ H,i<n->Pv i σ H->g (.int (i:Int)) σ H λσ2 H2=>tb { D with nx:=Pv (i+1),ct:=Pv (i+1),bk:=D.nx } σ2 H2) (hd:∀σ H,Pv n σ H->D.nx σ H) :
  ∃W:Nat->Nat->St->Hp->Prop,(∃m,W 0 m σ H)/\∀i m σ H,W i m σ H->
   ((lI 0 n).stop i H/\D.nx σ H)\/((lI 0 n).go i H/\∃N:St->Hp->Prop,(∀σ' H',N σ' H'->∃m',m'<m/\W (i+1) m' σ' H')/\∀x H',(lI 0 n).gi i H x H'->g x σ H' λσ2 H2=>tb { D with nx:=N,ct:=N,bk:=D.nx } σ2 H2):=
 Ta Pv h0 (λi σ H hi p=>by rw[Int.zero_add];exact hs i σ H hi p) hd
theorem tS{n k:Nat}(h:k<n):m7 n (k:Int)=some k:=by
 unfold m7
 rw[ax (by omega),ax (by omega),dH]
theorem Paired.get{α β:Type}{R:α->β->Prop}:∀{l:List α}{m:List β}{i:Nat}{y:β},Paired R l m->m[i]? = some y->∃x,l[i]? = some x/\R x y
 |_,_,_,_,.nil,e=>by simp at e
 |_,_,0,_,.cons r _,e=>by simp at e;subst e;exact⟨_,rfl,r⟩
 |_,_,i+1,y,.cons _ t,e=>by
  obtain⟨x,h1,h2⟩:=Paired.get (i:=i) (y:=y) t (by simpa using e)
  exact⟨x,by simpa using h1,h2⟩
theorem Paired.getL{α β:Type}{R:α->β->Prop}:∀{l:List α}{m:List β}{i:Nat}{x:α},Paired R l m->l[i]? = some x->∃y,m[i]? = some y/\R x y
 |_,_,_,_,.nil,e=>by simp at e
 |_,_,0,_,.cons r _,e=>by simp at e;subst e;exact⟨_,rfl,r⟩
 |_,_,i+1,x,.cons _ t,e=>by
  obtain⟨y,h1,h2⟩:=Paired.getL (i:=i) (x:=x) t (by simpa using e)
  exact⟨y,by simpa using h1,h2⟩
theorem Paired.Eh{α β γ:Type}{R:α->β->Prop}{g:γ->α}:∀{l:List γ}{m:List β},Paired R (l.map g) m->Paired (λc y=>R (g c) y) l m
 |[],_,h=>by cases h;exact .nil
 |_::r,_,h=>by
  cases h with
  |cons h1 h2=>exact .cons h1 (Paired.Eh h2)
theorem Paired.pick{α β:Type}{R:α->β->Prop}:∀{cs:List α}{xs:List β}(_:Paired R cs xs) (q:α->Bool) (p:Nat->Bool) (_:∀i c,cs[i]? = some c->p i=q c) {ys:List β}
  (_:Paired (λ(i:Nat) y=>xs[i]? = some y) ((List.range xs.length).filter p) ys),Paired R (cs.filter q) ys
 |_,_,.nil,q,p,hp,ys,pr=>by
  have:ys=[]:=by cases pr;rfl
  rw[this]
  exact .nil
 |c::cs,x::xs,.cons h t,q,p,hp,ys,pr=>by
  have e0:p 0=q c:=hp 0 c rfl
  rw[c5,Jw,cR,sQ] at pr
  have fc:∀i c',cs[i]? = some c'->(p∘Nat.succ) i=q c':=λi c' e=>hp (i+1) c' (by simpa using e)
  rw[cR]
  by_cases hq:q c=true
  .rw[e0,ax hq] at pr
   rw[ax hq]
   cases pr with
   |cons h1 h2=>
    have h1:some x=some _:=h1
    cases h1
    exact .cons h (Paired.pick t q (p∘Nat.succ) fc (Paired.bI (Paired.Eh h2) λi y e=>by simpa using e))
  .rw[e0,aq hq] at pr
   rw[aq hq]
   exact Paired.pick t q (p∘Nat.succ) fc (Paired.bI (Paired.Eh pr) λi y e=>by simpa using e)
def VX(t:TS):TS:=λD σ H=>∃I:St->Hp->Prop,(∀σ' H',I σ' H'->D.nx σ' H')/\t { D with nx:=I } σ H
theorem tT{X:Cx}{st:Stmt}{t:TS}(h:PS X st t):PS X st (VX t):=by
 intro pins s σ H D I q
 obtain⟨J,hJ,q⟩:=q
 refine aB (h pins s σ H _ I q) λf s' hs=>?_
 cases f with
 |next=>obtain⟨σ',H',I',z⟩:=hs;exact⟨σ',H',I',hJ _ _ z⟩
 |brk=>exact hs
 |cont=>exact hs
 |ret u=>exact hs
theorem wD:Slot "reversed" "__next__" "reversed.__next__" :=
 .of (owner:="reversed") (n:="__next__") (by rw[Jx,Jy];kernel_rfl) (by decide +kernel) (by decide +kernel) (by decide +kernel)
  (by first | exact .inl (by decide +kernel) | exact .inr (by decide +kernel)) (by rw[yG];kernel_rfl)
theorem LF:entryFor table "reversed.__next__"=some Builtin.«reversed.__next__»:=entryFor_of_tree (by kernel_rfl)
theorem LG(a:Value):argsOk "reversed.__next__" ⟨[a],[]⟩:=by unfold argsOk;kernel_rfl
theorem LH:Slot "reversed" "__iter__" "reversed.__iter__" :=
 .of (owner:="reversed") (n:="__iter__") (by rw[Jx,Jy];kernel_rfl) (by decide +kernel) (by decide +kernel) (by decide +kernel)
  (by first | exact .inl (by decide +kernel) | exact .inr (by decide +kernel)) (by rw[yG];kernel_rfl)
theorem VY(a:Value):argsOk "reversed.__iter__" ⟨[a],[]⟩:=by unfold argsOk;kernel_rfl
theorem VZ:entryFor table "reversed.__iter__"=some Builtin.«dict_keyiterator.__iter__» :=
 entryFor_alias (id':="dict_keyiterator.__iter__") (by kernel_rfl) (by first | rfl | decide +kernel | (unfold String.splitOn;simp +decide [String.splitOnAux])) (by decide +kernel) (by kernel_rfl)
theorem V0:Slot "reversed" "__init__" "object.__init__" :=
 .of (owner:="object") (n:="__init__") (by rw[Jx,Jy];kernel_rfl) (by decide +kernel) (by decide +kernel) (by decide +kernel)
  (by first | exact .inl (by decide +kernel) | exact .inr (by decide +kernel)) (by rw[yG];kernel_rfl)
theorem V1:TypeCalled "reversed" "reversed.__new__" "object.__init__" :=
 ⟨by decide +kernel,by decide +kernel,⟨_,_,F.mro_reversed⟩,F.made_reversed,by decide +kernel,F.sub_reversed_self,V0⟩
theorem V2:typeLookup (.type "tuple") "__reversed__"=pure none:=by rw[Jx,Jy];kernel_rfl
theorem V3:isSubtype (.type "tuple") (.type "dict")=pure false:=by rw[yG];kernel_rfl
noncomputable def wF(l:Addr)(i:Int):Obj:={ cls := .type "reversed",data := .fields #[.ref l,rawInt i] }
def kK(h:Heap)(a l:Addr)(i:Int):Prop := ∃o,h.get? a=some o/\o.cls = .type "reversed"/\o.data = .fields #[.ref l,rawInt i]
theorem kK.typeIs{s:Shared}{a l:Addr}{i:Int}(x:kK s.heap a l i):s.TypeIs (.ref a) "reversed":=let ⟨o,ho,hc,_⟩:=x;⟨o,ho,hc⟩
theorem kK.at{h h':Heap}{a l:Addr}{i:Int}(x:kK h a l i)(e:∀o,h.get? a=some o->h'.get? a=some o):kK h' a l i:=let ⟨o,ho,r⟩:=x;⟨o,e _ ho,r⟩
theorem V4(t:Addr)(items:Array Value)(hz:items.size<=sizeLine):Meets (Builtin.«reversed.__new__» ⟨[.type "reversed",.ref t],[]⟩) (λ_ R s=>IsTup s.heap t items/\
  ∀tk,R (.ok (.ret (.ref s.heap.objs.size))) { s with heap:=s.heap.push (wF t ((items.size:Int) - 1)),toks:=tk }):=
 .of_wp λprog w A R s h=>by
  obtain⟨hT,h⟩:=h
  unfold Builtin.«reversed.__new__»
  refine ag (oE (newClass_reversed _) ?_)
  try dsimp only
  refine ag (oE (a:=()) (by first | rfl | kernel_rfl) ?_)
  refine ag (oE (a:=()) (by first | rfl | kernel_rfl) ?_)
  try dsimp only
  refine ag (CO hT.typeIs V2 ?_)
  try dsimp only
  refine ag ?_
  show wpAny _ _ (isInstance (.ref t) (.type "dict") >>= _) _ _ _
  refine ag (Jz hT.typeIs V3 ?_)
  show wpAny _ _ (specialOf (.ref t) "__getitem__" >>= _) _ _ _
  refine ag (CO hT.typeIs PyProof.Rows.slot_tuple_getitem.lookup ?_)
  show wpAny _ _ (pure true) _ _ _
  refine aJ ?_
  show wpAny _ _ (call (.builtin "len") [.ref t] >>= _) _ _ _
  refine ag (len_tuple hT (by have:=mX;omega) ?_)
  refine ag (oE (a:=some (items.size:Int)) rfl ?_)
  show wpAny _ _ (newObj (.type "reversed") (.fields #[.ref t,rawInt ((items.size:Int) - 1)]) none >>= _) _ _ _
  exact ag (vB (aJ ⟨_,rfl,h _⟩))
section
variable{prog:Program}{w:World}{A:Around}{E:Value->Shared->Prop}{s:Shared}
theorem V5{t:Addr}{items:Array Value}{Q:Value->Shared->Prop}(hT:IsTup s.heap t items)(hz:items.size<=sizeLine)
  (h:∀tk,Q (.ref s.heap.objs.size) { s with heap:=s.heap.push (wF t ((items.size:Int) - 1)),toks:=tk }):wpAny (model prog w) A (call (.type "reversed") [.ref t]) Q E s:=
 callType_new V1 (by decide) (F.typeCall_reversed_1 _) (F.newCall_reversed_1 _) (λobj=>F.args_object_init_2 obj _) F.entry_reversed_new (V4 t items hz) ⟨hT,λtk=>⟨⟨_,cw _ rfl,rfl⟩,h tk⟩⟩
theorem V6{it t:Addr}{i:Nat}{items:Array Value}{x:Value}{Q:Option Value->Shared->Prop}(hit:kK s.heap it t (i:Int))(hT:IsTup s.heap t items)(hz:items.size<=sizeLine)(hx:items[i]? = some x)
  (hQ:∀h' tk,kK h' it t ((i:Int) - 1)->Heap.SameBut it s.heap h'->Q (some x) { s with heap:=h',toks:=tk }):wpAny (model prog w) A (pyNext (.ref it)) Q E s:=by
 obtain⟨o,ho,hc,hd⟩:=id hit
 have hi:i<items.size:=(Array.getElem?_eq_some_iff.mp hx).1
 have hl:=mX
 unfold pyNext
 refine ag (yH (yI (name:=Str.ofString "__next__") hit.typeIs wD
  (qz wD hit.typeIs LF ?_ (LG _))))
 unfold Builtin.«reversed.__next__»
 refine ag (oE (a:=(Value.ref it,[])) rfl ?_)
 try dsimp only
 refine ag (gW ho hd (x := .ref t) rfl ?_)
 refine ag (gW ho hd (x:=rawInt (i:Int)) rfl ?_)
 show wpAny _ _ (if (i:Int)<0 then _ else _) _ _ s
 rw[aq (by omega)]
 show wpAny _ _ (specialOf (.ref t) "__getitem__" >>= _) _ _ _
 refine ag (CO hT.typeIs PyProof.Rows.slot_tuple_getitem.lookup ?_)
 show wpAny _ _ (mkInt (i:Int) >>= _) _ _ _
 refine ag (wpAny_mkInt ?_)
 refine ag (yH (getItem_tuple (j:=i) hT (by omega) (by omega) (seqIndex_of (by omega) (by omega)) hx ?_))
 try dsimp only
 refine ag (gW ho hd (x:=rawInt (i:Int)) rfl ?_)
 show wpAny _ _ (setField (.ref it) 1 (rawInt ((i:Int) - 1)) >>= _) _ _ _
 refine ag (CT ho hd (by simp) ?_)
 refine aJ ⟨x,rfl,aJ (hQ _ _ ?_ (qA ..))⟩
 exact⟨_,oq _ ho (RU (yJ hd _)),(Obj.cls_mapFields ..).trans hc,by
  rw[yJ hd];simp⟩
theorem V7{it t:Addr}{Q:Option Value->Shared->Prop}(hh:A.handled=none)(hit:kK s.heap it t (-1))
  (hQ:∀h',Heap.ExtBut it s.heap h'->Q none { s with heap:=h' }):wpAny (model prog w) A (pyNext (.ref it)) Q E s:=by
 obtain⟨o,ho,hc,hd⟩:=id hit
 unfold pyNext
 refine ag (yH (yI (name:=Str.ofString "__next__") hit.typeIs wD
  (qz wD hit.typeIs LF ?_ (LG _))))
 unfold Builtin.«reversed.__next__»
 refine ag (oE (a:=(Value.ref it,[])) rfl ?_)
 try dsimp only
 refine ag (gW ho hd (x := .ref t) rfl ?_)
 refine ag (gW ho hd (x:=rawInt (-1)) rfl ?_)
 show wpAny _ _ (if (-1:Int)<0 then _ else _) _ _ s
 rw[ax (by decide)]
 refine ag (sR ?_)
 refine ag ?_
 show wpAny _ _ (setField (.ref it) 1 (rawInt (-1)) >>= λ_=>setField (.ref it) 0 .none) _ _ _
 refine ag (CT ho hd (by simp) ?_)
 refine CT (oq _ ho (RU (yJ hd _))) (yJ hd _) (by simp) ?_
 refine ag ?_
 show wpAny _ _ (newExc (.type "StopIteration") [] >>= _) _ _ _
 refine ag ?_
 simp only[newExc,newTuple]
 refine ag (vB ?_ (by size_fits))
 refine ag (m:=firstArgMember _ _) (oE (a:=Value.none) (by first | rfl | (simp only[firstArgMember];rfl)) ?_)
 refine vB ?_ (by size_fits)
 simp only[raiseNew]
 refine ag (wpAny_handled ?_)
 first | rw[show A.in1.handled=none from hh] | rw[hh]
 refine ag (aJ (wpAny_throw ?_))
 refine ag (Jz (T:="StopIteration") (b:=true) ⟨_,cw _ rfl,rfl⟩ isSubtype_stop ?_)
 refine aJ (hQ _ λb ob hb e=>?_)
 refine bw _ (bw _ ?_)
 exact(mK _ _ (bj hb)).trans ((mK _ _ (bj hb)).trans e)
theorem LI{it t:Addr}{i:Int}{Q:Value->Shared->Prop}(hit:kK s.heap it t i)(h:Q (.ref it) s):wpAny (model prog w) A (pyIter (.ref it)) Q E s:=by
 refine wpAny_pyIter_slot hit.typeIs LH (qz LH hit.typeIs VZ ?_ (VY _))
 show wpAny _ _ (ret (.ref it)) _ _ s
 exact aJ ⟨_,rfl,"reversed",_,hit.typeIs,wD.lookup,h⟩
end
noncomputable def Ei(K:PySem.W.Frag)(a:Addr)(xs:List V):It:=
 ⟨λi H=>aw K H a xs/\i<xs.length,λi H x H'=>H'=H/\xs.reverse[i]? = some x,λi H=>aw K H a xs/\i=xs.length⟩
theorem V8{P:Program}{w:World}{K:PySem.W.Frag}{tg:Expr}(a it:Addr)(xs:List V):Turn P w K tg (Ei K a xs) [it] it (λi h=>kK h it a ((xs.length:Int) - 1 - (i:Nat))) where
 mem:=by simp
 obj:=λi h st b hb=>by
  have e:b=it:=by simpa using hb
  subst e
  obtain⟨o,e,c,d⟩:=st
  exact⟨o,e,λv z=>by rw[d] at z;cases z⟩
 keep:=λi h h' st k=>st.at λo e=>k it (by simp) o e
 item:=by
  intro X hP hw hK hc i pins s σ H E I hf st hg
  subst hP hw hK
  obtain⟨hq,hi⟩:=hg
  obtain⟨its,rv,p,hz⟩:=I.tuple hq
  have hl:=rv.length
  obtain⟨f0,f1,f2,f3,f4,f5⟩:=hf it (by simp)
  have e1:(xs.length:Int) - 1 - (i:Nat)=((xs.length - 1 - i:Nat):Int):=by omega
  have hx:xs[xs.length - 1 - i]? = some (xs[xs.length - 1 - i]'(by omega)):=aU (by omega)
  obtain⟨u,hu,ru⟩:=rv.get hx
  rw[e1] at st
  refine V6 st p (by rw[bp];omega) (x:=u) (by simpa using hu) λh' tk dN sb=>?_
  have I1:Inv X pins σ H { s with heap:=h',toks:=tk }:=I.turned (λb o hb e=>(sb.2 b hb).trans e) f0 f1 f3 f4 f5
  obtain⟨o,e,c,d⟩:=id dN
  refine⟨u,rfl,tu (s:={ s with heap:=h',toks:=tk }) e c d (by decide) ⟨_,H,I1,ru,⟨rfl,?_⟩,?_,λb hb=>(hf b hb).1⟩⟩
  .rw[JA hi]
   exact hx
  .have e2:((xs.length - 1 - i:Nat):Int) - 1=(xs.length:Int) - 1 - ((i+1:Nat):Int):=by omega
   rw[e2] at dN
   exact dN
 done:=by
  intro X hP hw hK hc i pins s σ H E I hf st hg
  subst hP hw hK
  obtain⟨hq,hi⟩:=hg
  obtain⟨f0,f1,f2,f3,f4,f5⟩:=hf it (by simp)
  have e1:(xs.length:Int) - 1 - (i:Nat) = -1:=by omega
  rw[e1] at st
  exact V7 (I.ok.hd hc) st λh' eb=>⟨rfl,I.turned (t':=s.toks) (λb o hb e=>eb b o hb e) f0 f1 f3 f4 f5⟩
 self:=λ_ _ _ _ _ st h=>LI st h
def V9(K:PySem.W.Frag)(ta:TA):TI:=λσ H R=>ta σ H λvs H1=>∃a xs,vs=[.ref a]/\aw K H1 a xs/\R (Ei K a xs) H1
theorem Wa:bootBuiltins "reversed"=some (.type "reversed"):=by decide +kernel
theorem Wb{X:Cx}{tg a:Expr}{ta:TA}{p pos:Pos}(hg:Gl X "reversed")(hm:X.mg "reversed"=none)(ha:PA X [a] ta)(hs:starEach [a] X.env=[(false,eval a X.env)]:=by rfl) :
  PI X tg (.Call (.Name "reversed" p) [a] [] pos) (V9 X.K ta):=by
 intro pins s σ H R I h
 refine Call_ (oP I hg hm Wa (Cy (aB (ha pos pins s σ H _ I h) λus s1 ⟨vs,H1,I1,r1,q1⟩=>?_) hs rfl))
 obtain⟨t,xs,e,hq,q⟩:=q1
 subst e
 obtain⟨u,rfl,ru⟩:=vals1 r1
 cases ru
 obtain⟨its,rv,pl,hz⟩:=I1.tuple hq
 have hl:=rv.length
 refine V5 pl (by rw[bp];omega) λtk=>?_
 have I2:Inv X pins σ H1 { s1 with heap:=s1.heap.push (wF t ((its.toArray.size:Int) - 1)),toks:=tk }:=I1.kept λb o e=>bw _ e
 have LJ:kK (s1.heap.push (wF t ((its.toArray.size:Int) - 1))) s1.heap.objs.size t ((xs.length:Int) - 1 - ((0:Nat):Int)):=by
  have e:(its.toArray.size:Int) - 1=(xs.length:Int) - 1 - ((0:Nat):Int):=by rw[bp];omega
  rw[<-e]
  exact⟨_,cw _ rfl,rfl,rfl⟩
 refine LI (s:={ s1 with heap:=s1.heap.push (wF t ((its.toArray.size:Int) - 1)),toks:=tk }) LJ ?_
 refine⟨s1.heap.objs.size,[s1.heap.objs.size],_,_,H1,rfl,I2,V8 t _ xs,LJ,λb hb=>?_,q⟩
 have e:b=s1.heap.objs.size:=by simpa using hb
 subst e
 exact I1.jO (aQ _) I1.fresh
theorem Wc{K:PySem.W.Frag}{a:Addr}{xs:List V}:nz (Ei K a xs) (λH=>aw K H a xs) xs.reverse:=
 ⟨λi H h hi=>⟨h,by simpa using hi⟩,λi H x H' h _ y=>y,λH h=>⟨h,by simp⟩⟩
noncomputable def kL(x:Str):Str:=⟨x.cps.toList.reverse.toArray⟩
theorem rev_eq(x:Str)(u:Tok):Txt.sliceBy x none none (-1,u)=kL x:=by
 have h:=step_rev_list x u
 have e:(List.range x.length).map (λk=>x.cps.getD (x.length - 1 - k) 0)=x.cps.toList.reverse:=by
  apply iI
  intro i
  have hl:x.cps.toList.length=x.length:=by simp[Str.length]
  rw[bb]
  by_cases hi:i<x.length
  .rw[oG hi,JA (by rw[hl];exact hi),hl]
   have hb:x.length - 1 - i<x.cps.size:=by show _<x.length;omega
   simp[Array.getD,hb]
  .rw[cB (by simpa using hi),cB (by rw[CU,hl];omega)]
   rfl
 rw[e] at h
 generalize Txt.sliceBy x none none (-1,u)=y at h
 cases y with
 |mk c=>
  unfold kL
  rw[<-h]
def Wd(te ts:TE):TE:=λσ H Q=>te σ H λx H1=>ts σ H1 λy H2=>∃z,x = .str z/\y = .int (-1)/\z.length<=sizeLine/\Q (.str (kL z)) H2
theorem We{X:Cx}{e st:Expr}{te ts:TE}{pos p2:Pos}(he:PE X e te)(dy:PE X st ts):PE X (.Subscript e (.Slice none none (some st) p2) pos) (Wd te ts):=by
 intro pins s σ H Q I h
 refine Subscript_ (aB (he pins s σ H _ I h) λv s1 ⟨x,H1,I1,r1,q1⟩=>?_)
 refine wpAny_Slice (aB (lN pins s1 σ H1 (λo H'=>o=none/\H'=H1) I1 ⟨rfl,rfl⟩) λvl s2 ⟨l,H2,I2,pl,el,eh⟩=>?_)
 subst el eh
 refine aB (lN pins s2 σ H2 (λo H'=>o=none/\H'=H2) I2 ⟨rfl,rfl⟩) λvu s3 ⟨u,H3,I3,pu,eu,eh⟩=>?_
 subst eu eh
 rw[evalPart_some]
 refine aB (dy pins s3 σ H3 _ I3 q1) λvs s4 ⟨y,H4,I4,r4,z,e1,e2,hz,q⟩=>?_
 subst e1 e2
 obtain⟨t,rfl⟩:=r1
 obtain⟨t4,rfl⟩:=r4
 cases pl
 cases pu
 have I5:Inv X pins σ H4 { s4 with heap:=s4.heap.push { cls := .type "slice",data := .fields #[.none,.none,.int (-1) t4] } }:=I4.kept (t':=s4.toks) λb ob q=>bw _ q
 show wpAny (model X.prog X.w) X.A (subscriptTail e (.Slice none none (some st) p2) (.str z t) (.ref s4.heap.objs.size)) (EP X pins σ Q) X.xe { s4 with heap:=s4.heap.push { cls := .type "slice",data := .fields #[.none,.none,.int (-1) t4] } }
 refine tail_any (ops:=[.ref s4.heap.objs.size,.str z t]) (typeIs_str _ _ _) F.slot_str_getitem.lookup (wpAny_getItem_str_slice (l:=none) (u:=none) (st:=some (-1,t4)) ⟨_,cw _ rfl,rfl,rfl⟩ rfl
  (post_val_or_str ⟨bA (Txt.sliceBy_le z _ _ (-1,t4) (show(-1:Int)≠0 by decide)) hz,λt' k=>?_⟩)) (by with_unfolding_all rfl)
 exact⟨.str (kL z),H4,I5.tok k,⟨t',by show Value.str (Txt.sliceBy z none none (-1,t4)) t'=_;rw[rev_eq]⟩,q⟩
end L2
namespace L2
open PySem
structure Hid(p G:Prop):Prop where
 k:p->G
theorem hide{p:Prop}(h:∀G:Prop,Hid p G->G):p:=h p ⟨id⟩
theorem zT{α:Type}{P:List α->Prop}(h:∀a,P [a]):∀us:List α,us.length=1->P us
 |[a],_=>h a
theorem zU{α:Type}{P:List α->Prop}(h:∀a b,P [a,b]):∀us:List α,us.length=2->P us
 |[a,b],_=>h a b
theorem zV{α:Type}{P:List α->Prop}(h:∀a b c,P [a,b,c]):∀us:List α,us.length=3->P us
 |[a,b,c],_=>h a b c
theorem zW{α:Type}{P:List α->Prop}(h:∀a b c d,P [a,b,c,d]):∀us:List α,us.length=4->P us
 |[a,b,c,d],_=>h a b c d
theorem zX{α:Type}{P:List α->Prop}(h:∀a b c d e,P [a,b,c,d,e]):∀us:List α,us.length=5->P us
 |[a,b,c,d,e],_=>h a b c d e
theorem aW.bG{P:Program}{w:World}{K:PySem.W.Frag}{mg:Str->Option Value}{base:Heap}{x qual:Str}{st:Stmt}{f:Addr}{fd:FuncData}{N ps:List Str}{k:Nat}{sp:Sp}(F:aW K x qual st f fd)(S:bc N ps (aS st))
  (m5:∀(aH:Value) (A:Around) (outer:List Env) (s:Shared) (H:Hp) (vs:List V) (Q:VK) (E:XK),b7 k (A.deeper (PyProof.Rows.envOfC qual (aS st) s.heap.objs.size f aH))->sp vs H Q E->
   ∃t,gc (mZ aR P w K mg base N qual (aS st) f aH A outer s H E).oQ (jV st) t/\t { nx:=λ_ H'=>Q .aA H',rt:=Q } (start N vs) H)
  (len:∀vs H Q E,sp vs H Q E->vs.length=ps.length:=by intro vs H Q E h;repeat (first | (obtain⟨rfl,_⟩:=h;rfl) | obtain⟨_,h⟩:=h)):aM P w K mg base aR (k+1) f fd ps sp:=F.ok S len m5
end L2
namespace L2
open PySem PySem.Spec PyProof.Rows
theorem fP{n:Nat}(h:n<=10000):n<=sizeLine:=bA h (by decide)
theorem lS{n:Nat}(h:n<=10000):n<sizeLine:=lz h (by decide)
theorem Wf:bootBuiltins "sum"=some (.builtin "sum"):=by decide +kernel
theorem LK:bootBuiltins "min"=some (.builtin "min"):=by decide +kernel
theorem Wg(is:List Int):∀n,n<=is.length->preSum (λi=>(is[i]?).getD 0) n=(is.take n).sum:=by
 intro n
 induction n with
 |zero=>intro _;rfl
 |succ n ih=>
  intro h
  have e:is[n]? = some (is[n]'(by omega)):=aU _
  rw[fL,CV,<-ih (by omega)]
  show preSum _ n+(is[n]?).getD 0=_
  rw[e]
  simp
theorem Wh{X:Cx}(hc:X.calm=true):gE X (.builtin "sum") (λxs H Q=>∃(a:Addr) (is:List Int),xs=[.ref a]/\aj X.K H a (is.map V.int)/\Q (.int is.sum) H):=by
 intro pins s σ H xs us Q I r h
 obtain⟨l,is,rfl,hq,q⟩:=h
 obtain⟨u,rfl,ru⟩:=vals1 r
 cases ru
 obtain⟨its,rv,pl,hz⟩:=I.list hq
 have hl:=pl.isList
 have hh:X.A.handled=none:=I.ok.hd hc
 have aN:l<s.heap.objs.size:=by obtain⟨_,e,_⟩:=hl;exact bE e
 have hlen:its.length=is.length:=by rw[<-rv.length,ar]
 refine call_sum_walkG (vw hl ?_)
 refine⟨s.heap.objs.size,[s.heap.objs.size,l],[s.heap.objs.size],its.toArray.size,_,_,λi=>(is[i]?).getD 0,rfl,Walks.list (A:=X.A.in1) hh _ l (bU aN) its.toArray,
  ⟨⟨_,cw _ rfl,rfl,rfl⟩,hl.push _⟩,λb hb=>?_,λi v hP=>?_,λh' tk t' hk=>?_⟩
 .have z:b=s.heap.objs.size\/b=l:=by simpa using hb
  show b<(s.heap.push _).objs.size
  rw[qB]
  rcases z with z | z
  .rw[z];exact qx _
  .rw[z];exact oB aN
 .have hv:its[i]? = some v:=by simpa using hP
  have hi:i<is.length:=by rw[<-hlen];exact(bZ.mp hv).1
  obtain⟨u',e1,e2⟩:=rv.get (i:=i) (x:=V.int is[i]) (by simp[hi])
  rw[hv] at e1
  cases e1
  obtain⟨t,rfl⟩:=e2
  exact⟨t,by simp[hi]⟩
 .have e:preSum (λi=>(is[i]?).getD 0) its.toArray.size=is.sum:=by
   rw[bp,hlen,Wg is _ (aQ _),JB]
  rw[e]
  exact⟨.int _,H,I.kept λb o e=>LSm.kept_iter hk b o e,⟨_,rfl⟩,q⟩
structure pB(K:PySem.W.Frag)(x qual:Str)(st:Stmt)(f:Addr)(fd:FuncData)(d:Value):Prop where
 ex:∃(oc:Value) (od:Option Addr) (T:Addr) (kV doc pm:Value) (an:Option Addr) (aH ct:Value) (jQ:Array (Option Value)),
  fd=PySem.W.fnOf x qual (pf st) (jV st) (aS st) (.ref T) kV doc pm an aH ct/\K.lookup f=some ⟨oc,od,.func fd,jQ⟩/\PySem.W.codeIn K aH qual=true/\
  ∃(wG:Option Addr) (n:Nat) (qK:Array (Option Value)),K.lookup T=some ⟨.type "tuple",wG,.seq #[d] n,qK⟩
 kp:PySem.W.keepIn K (.ref f)=true
section
variable{P:Program}{w:World}{K:PySem.W.Frag}{mg:Str->Option Value}{base:Heap}
theorem pB.ok{x qual:Str}{st:Stmt}{f:Addr}{fd:FuncData}{d:Value}{N ps:List Str}{k:Nat}{sp:Sp}(F:pB K x qual st f fd d)(S:bc N ps (aS st))(len:∀vs H Q E,sp vs H Q E->vs.length=ps.length)
  (m5:∀(aH:Value) (A:Around) (outer:List Env) (s:Shared) (H:Hp) (vs:List V) (Q:VK) (E:XK),b7 k (A.deeper (envOfC qual (aS st) s.heap.objs.size f aH))->sp vs H Q E->
   ∃t,gc (mZ aR P w K mg base N qual (aS st) f aH A outer s H E).oQ (jV st) t/\t { nx:=λ_ H'=>Q .aA H',rt:=Q } (start N vs) H):aM P w K mg base aR (k+1) f fd ps sp:=by
 obtain⟨oc,od,T,kV,doc,pm,an,aH,ct,jQ,rfl,lk,iM,_⟩:=F.ex
 refine zj lk iM S len λA outer s H vs Q E hr lL=>?_
 obtain⟨t,h,q⟩:=m5 aH A outer s H vs Q E hr lL
 exact⟨t,h.oQ,q⟩
theorem pB.binds{x qual:Str}{st:Stmt}{f:Addr}{fd:FuncData}{d:Value}{ps:List Str}{ds:List Value}(F:pB K x qual st f fd d)
  (h:∀(T:Addr) (kV doc pm:Value) (an:Option Addr) (aH ct:Value) (s:Shared) (us:List Value) (wG:Option Addr) (n:Nat) (qK:Array (Option Value)),s.heap.get? T=some ⟨.type "tuple",wG,.seq #[d] n,qK⟩->(us++ds).length=ps.length->
   BindsTo s (PySem.W.fnOf x qual (pf st) (jV st) (aS st) (.ref T) kV doc pm an aH ct) ⟨us,[]⟩ (ps.zip (us++ds))):Binds K fd ps ds:=by
 obtain⟨oc,od,T,kV,doc,pm,an,aH,ct,jQ,rfl,lk,iM,wG,n,qK,hT⟩:=F.ex
 intro s us KX hl
 exact h T kV doc pm an aH ct s us wG n qK (KX _ _ hT) hl
structure Mt(P:Program)(w:World)(K:PySem.W.Frag)(mg:Str->Option Value)(base:Heap)(C:Addr)(m:Str)(k:Nat)(sp:Sp)(cX:List V):Prop where
 cl:cI K C
 ex:∃(f:Addr) (fd:FuncData) (ps:List Str) (ds:List Value),Meth K C m f/\aM P w K mg base aR k f fd ps sp/\Binds K fd ps ds/\Vals cX ds
structure Nw(P:Program)(w:World)(K:PySem.W.Frag)(mg:Str->Option Value)(base:Heap)(x:Str)(C:Addr)(k:Nat)(sp:Sp):Prop where
 ex:∃(f:Addr) (fd:FuncData) (ps:List Str),Mk K C f/\aM P w K mg base aR k f fd ps sp/\Binds K fd ps []/\mg x=some (.ref C)
end
section
variable{X:Cx}{C:Addr}{x m:Str}{p pos apos:Pos}{e o:Expr}{es:List Expr}{t:TA}{ta:TE}{sp:Sp}{k:Nat}{cX:List V}{pl:Sem Bool}
theorem nA(M:Mt X.prog X.w X.K X.mg X.base C m k sp cX)(hr:b7 k X.A)(he:PE X o ta)(ha:PA X (e::es) t)
  (dy:starEach (e::es) X.env=(false,eval e X.env)::starEach es X.env:=by rfl) (hpl:(backTo pos (starEach es X.env)).any (·.1)=false:=by rfl)
  (ht:eval (.Call (.Attribute o m apos) (e::es) [] pos) X.env=(do
   let ov<-eval o X.env
   standAt apos.atName
   let (f,first)<-holding [ov] (getMethod ov m pl)
   callWith pos f first (backTo pos (starEach (e::es) X.env)) (backToKw pos (keywordEach [] X.env))):=by rfl):PE X (.Call (.Attribute o m apos) (e::es) [] pos) (zg C m sp cX E0 ta t):=by
 obtain⟨f,fd,ps,ds,hm,G,hb,hd⟩:=M.ex
 exact TY he M.cl hm G hr hb hd wm ha dy hpl ht
theorem Ej(M:Mt X.prog X.w X.K X.mg X.base C m k sp cX)(hr:b7 k X.A)(he:PE X o ta)
  (ht:eval (.Call (.Attribute o m apos) [] [] pos) X.env=(do
   let ov<-eval o X.env
   standAt apos.atName
   let (f,first)<-holding [ov] (getMethod ov m pl)
   callWith pos f first (backTo pos (starEach [] X.env)) (backToKw pos (keywordEach [] X.env))):=by rfl):PE X (.Call (.Attribute o m apos) [] [] pos) (zg C m sp cX E0 ta lK):=by
 obtain⟨f,fd,ps,ds,hm,G,hb,hd⟩:=M.ex
 exact TZ he M.cl hm G hr hb hd wm ht
theorem Wi(N:Nw X.prog X.w X.K X.mg X.base x C k sp)(hr:b7 (k+1) X.A)(hg:Gl X x)(gk:(x==("__debug__":Str))=false:=by decide):PE X (.Call (.Name x p) [] [] pos) (zh C sp [] E0 lK):=by
 obtain⟨f,fd,ps,M,G,hb,hm⟩:=N.ex
 exact T9 M G hr hg hm hb .nil wm gk
end
section
variable{X:Cx}{K:PySem.W.Frag}{o e:Expr}{es:List Expr}{to:TE}{t:TA}{name:Str}{apos c6 pos:Pos}{T id:String}
theorem Wj{rr:PySem.W.Frag->V->List V->Hp->VK->Prop}(hK:X.K=K)(pa:PlainAttrs T)(slot:Slot T name id)(DE:typeOf (.builtin id)=pure (.type "method_descriptor"))(hm:zo X id (rr X.K))(ho:PE X o to)(ha:PA X (e::es) t)
  (DF:attributeBase o name X.env (eval o X.env)=eval o X.env:=by rfl)
  (DG:((backTo c6 (starEach (e::es) X.env)).all (λx=>!x.1)&&(backToKw c6 (keywordEach [] X.env)).all (λx=>x.1.isSome)
   && decide ((e::es).length+([]:List Keyword).length+(if ([]:List Keyword).isEmpty then 0 else 1)<30))=true:=by rfl)
  (DH:(apos.endLine==c6.line)=true:=by rfl) (hs:starEach (e::es) X.env=(false,eval e X.env)::starEach es X.env:=by rfl) (DI:(backTo c6 (starEach es X.env)).any (·.1)=false:=by rfl) :
  PE X (.Call (.Attribute o name apos) (e::es) [] c6) (KU K T (rr K) to t):=by
 subst hK
 exact fO pa slot DE hm ho ha DF DG DH hs DI
theorem Ek{a i:Expr}{ta ti:TE}{rr:PySem.W.Frag->R2}(hK:X.K=K)(hr:tL X (rr X.K))(ha:PE X a ta)(hi:PE X i ti)(hp:DA i):PE X (.Subscript a i pos) (oV (rr K) ta ti):=by
 subst hK
 exact aX hr ha hi hp
end
theorem Wk{K K':PySem.W.Frag}{a:Addr}{xs:List V}{js:List Nat}{tt:TT}{te:TE}{σ:St}{H1:Hp}{Q:VK}(hn:xs.length<=10000)(ha:aj K H1 a xs)(p:Nat->Bool)(F:Addr->Nat->V->Hp->Prop)
  (mono:∀D i y H H',H1 D=none->(∃o,H D=some (.lst o))->(∀b o,b≠D->H b=some o->H' b=some o)->F D i y H->F D i y H')
  (hs:∀D i x H (Z0:Hp->Prop) (Z:V->Hp->Prop),H1 D=none->xs[i]? = some x->af H1 H->(∃o,H D=some (.lst o))->(∀H2,af H H2->p i=false->Z0 H2)->(∀y H2,af H H2->p i=true->F D i y H2->Z y H2)->
   ∃b v1 v2,x = .ref b/\aw K' H b [v1,v2]/\tt (some v1::some v2::eX js σ) H λb H2=>if b=true then te (some v1::some v2::eX js σ) H2 Z else Z0 H2)
  (hd:∀D ys H,H1 D=none->H D=some (.lst ys)->af H1 H->Paired (λi y=>F D i y H) ((List.range xs.length).filter p) ys->Q (.ref D) H):D4 K' js tt te σ (qN K a) H1 Q:=by
 intro D hD
 have hz:10000<sizeLine:=by decide
 refine⟨λi m H=>m=xs.length - i/\i<=xs.length/\∃ys,H D=some (.lst ys)/\af H1 H/\Paired (λi y=>F D i y H) ((List.range i).filter p) ys,⟨xs.length,by simp,bx _,[],au,af.upd hD,.nil⟩,?_⟩
 rintro i m H ⟨rfl,hi,ys,bB,sm,pr⟩
 have q:=sm.seq ha
 by_cases aN:i<xs.length
 .refine .inr ⟨⟨xs,_,q,aU aN⟩,λv H' y=>?_⟩
  obtain⟨rfl,yy⟩:=y
  have yy:=yy xs q
  have jL:List.range (i+1)=List.range i++[i]:=jG
  have ln:ys.length<=i:=by
   have h1:=pr.length
   have h2:((List.range i).filter p).length<=(List.range i).length:=gD _ _
   rw[iH] at h2
   omega
  have sp:af H' H':=af.cO _
  refine hs D i v _ _ _ hD yy (sm.trans sp) ⟨ys,sp _ _ bB⟩ (λH2 s2 hp=>?_) (λz H2 s2 hp hF=>?_)
  .refine⟨xs.length - (i+1),by omega,rfl,aN,ys,s2 _ _ (sp _ _ bB),sm.trans (sp.trans s2),?_⟩
   rw[jL,jH,cR,aq (by rw[hp];exact bW),oC,fX]
   exact Paired.bI pr λj z f=>mono D j z H' H2 hD ⟨ys,bB⟩ (λb o _ e=>s2 b o (sp b o e)) f
  .refine⟨ys,s2 _ _ (sp _ _ bB),by omega,xs.length - (i+1),by omega,rfl,aN,ys++[z],au,(sm.trans (sp.trans s2)).jX hD,?_⟩
   have up:∀b o,b≠D->H2 b=some o->upd H2 D (.lst (ys++[z])) b=some o:=λb o hb e=>by rw[ak hb];exact e
   rw[jL,jH,cR,ax hp,oC]
   refine mN (Paired.bI pr λj z' f=>?_) (mono D i z H2 _ hD ⟨ys,s2 _ _ (sp _ _ bB)⟩ up hF)
   exact mono D j z' H2 _ hD ⟨ys,s2 _ _ (sp _ _ bB)⟩ up (mono D j z' H' H2 hD ⟨ys,bB⟩ (λb o _ e=>s2 b o (sp b o e)) f)
 .have e:i=xs.length:=by omega
  subst e
  exact .inl ⟨⟨xs,q,aQ _⟩,hd D ys H hD bB sm pr⟩
section
variable{X:Cx}{K:PySem.W.Frag}{a b:Expr}{ta tb:TE}{pos:Pos}
theorem Wl{op:CmpOp}{rr:PySem.W.Frag->R2}(hK:X.K=K)(hr:cM X (compareOp op) (rr X.K))(ha:PE X a ta)(hb:PE X b tb)(hm:behindInMarks op b=false):PE X (.Compare a [op] [b] pos) (oV (rr K) ta tb):=by
 subst hK
 exact vW hr ha hb hm
theorem El{op:CmpOp}{rr:PySem.W.Frag->R2}(hK:X.K=K)(hr:cM X (compareOp op) (rr X.K))(ha:PE X a ta)(hb:PE X b tb)(hm:behindInMarks op b=false):PT X (.Compare a [op] [b] pos) (Dn (oV (rr K) ta tb)):=by
 subst hK
 exact cx hr ha hb hm
end
noncomputable def fQ(a b:Str):Bool := !ltCps b.cps.toList a.cps.toList
theorem rk{a b:Str}:fQ a b=true↔a.cps.toList<=b.cps.toList:=by
 unfold fQ
 rw[ltCps_eq]
 by_cases h:b.cps.toList<a.cps.toList
 .rw[aG h]
  exact⟨(λz=>nomatch z),(λz=>absurd h (List.not_lt.mpr z))⟩
 .rw[aF h]
  exact⟨λ_=>List.not_lt.mp h,λ_=>rfl⟩
theorem Wm{a b:Str}(h1:fQ a b=true)(h2:fQ b a=true):a=b:=by
 have e:=List.le_antisymm (rk.mp h1) (rk.mp h2)
 cases a;cases b
 exact dU Str.mk (Array.toList_inj.mp e)
theorem LL{a b c:Str}(h1:fQ a b=true)(h2:fQ b c=true):fQ a c=true:=rk.mpr (List.le_trans (rk.mp h1) (rk.mp h2))
theorem Wn(a b:Str):(fQ a b||fQ b a)=true:=by
 rcases List.le_total a.cps.toList b.cps.toList with h | h
 .rw[rk.mpr h,Bool.true_or]
 .rw[rk.mpr h,Bool.or_true]
noncomputable def cC(l:List Str):List Str:=l.mergeSort fQ
theorem ic(l:List Str):(cC l).Perm l:=List.mergeSort_perm l fQ
theorem Em(l:List Str):(cC l).Pairwise (λa b=>fQ a b=true):=List.pairwise_mergeSort (le:=fQ) (λ_ _ _ h1 h2=>LL h1 h2) Wn l
theorem LM:∀{p:Str}{l:List Str},risingS p l=true->(p::l).Pairwise (λa b=>fQ a b=true)
 |p,[],_=>List.pairwise_singleton _ _
 |p,x::r,h=>by
  unfold risingS at h
  rw[dI] at h
  have ih:=LM h.2
  have h1:fQ p x=true:=h.1
  refine List.Pairwise.cons (λy hy=>?_) ih
  rcases bX.mp hy with z | z
  .rw[z];exact h1
  .exact LL h1 ((List.pairwise_cons.mp ih).1 y z)
theorem LN{l:List Str}(h:sortedS l=true):l.Pairwise (λa b=>fQ a b=true):=by
 cases l with
 |nil=>exact List.Pairwise.nil
 |cons p r=>exact LM h
theorem zY{l m:List Str}(hp:l.Perm m)(h:l.Pairwise (λa b=>fQ a b=true)):cC m=l:=
 (List.Perm.eq_of_pairwise (le:=λa b=>fQ a b=true) (λ_ _ _ _=>Wm) h (Em m) (hp.trans (ic m).symm)).symm
theorem LO{ss:List Str}:∀{us:List Value},StrsAre us ss->Vals (ss.map V.str) us:=by
 induction ss with
 |nil=>intro us h;cases h;exact .nil
 |cons x r ih=>
  intro us h
  cases h with
  |cons _ t q=>exact .cons ⟨t,rfl⟩ (ih q)
section
variable{X:Cx}
theorem LP:gE X (.builtin "sorted") (λxs H Q=>∃(a:Addr) (ss:List Str),xs=[.ref a]/\aj X.K H a (ss.map V.str)/\ss.length<64/\∀p,H p=none->Q (.ref p) (upd H p (.lst ((cC ss).map V.str)))):=by
 intro pins s σ H xs us Q I r h
 obtain⟨l,ss,rfl,hq,eN,q⟩:=h
 obtain⟨u,rfl,ru⟩:=vals1 r
 cases ru
 obtain⟨its,rv,pl,hz⟩:=I.list hq
 have hS:StrsAre its ss:=Ee rv
 have hlen:its.length=ss.length:=by rw[<-rv.length,ar]
 refine sorted_strs pl.isList hS (by omega) λout En a1 a2 a3=>?_
 obtain⟨e,he⟩:=sortedAll_at s.heap its out
 have e1:cC ss=En:=zY a2 (LN a3)
 have hf:H (s.heap.objs.size+1)=none:=I.aC.fresh (gC _)
 refine⟨.ref (s.heap.objs.size+1),_,I.laid (a:=s.heap.objs.size+1) (o := .lst ((cC ss).map V.str)) (t':=s.toks) (λb o z=>sortedAll_old z) (gC _) ?_,rfl,q _ hf⟩
 have h8:(cC ss).length=ss.length:=(ic ss).length_eq
 have Wo:(64:Nat)<=sizeLine:=by decide
 refine⟨by rw[ar];omega,out.toList,e,?_,by simpa using he⟩
 rw[e1]
 exact LO a1
theorem LQ:∀{ss:List Str}{vs:List Value},vs.length=ss.length->(∀(j:Nat) (v:Value),vs[j]? = some v->∃x t,ss[j]? = some x/\v = .str x t)->StrsAre vs ss
 |[],[],_,_=>.nil
 |[],_::_,h,_=>by simp at h
 |_::_,[],h,_=>by simp at h
 |x::r,v::t,h,f=>by
  obtain⟨y,tk,e1,e2⟩:=f 0 v rfl
  simp at e1
  subst e1 e2
  exact .cons _ _ (LQ (by simpa using h) λj u hu=>by simpa using f (j+1) u (by simpa using hu))
noncomputable def aP(kvs:List (Key×V)):List Str:=kvs.map λq=>match q.1 with | .inr x=>x | .inl _=>⟨#[]⟩
def iS(kvs:List (Key×V)):Prop := ∀q∈kvs,∃x,q.1=Sum.inr x
theorem Wq(hc:X.calm=true):gE X (.builtin "sorted") (λxs H Q=>∃(a:Addr) (kvs:List (Key×V)),xs=[.ref a]/\H a=some (.dK kvs)/\iS kvs/\kvs.length<64/\∀p,H p=none->Q (.ref p) (upd H p (.lst ((cC (aP kvs)).map V.str)))):=by
 intro pins s σ H xs us Q I r h
 obtain⟨d,kvs,rfl,hd,hk,eN,q⟩:=h
 obtain⟨u,rfl,ru⟩:=vals1 r
 cases ru
 have Wo:(64:Nat)<=sizeLine:=by decide
 obtain⟨hz,hS,vs,rel,dd⟩:kvs.length<=sizeLine/\(d==sysModules)=false/\∃vs,KV kvs vs/\s.heap.DictOf (bN X.prog X.w) d vs:=I.aC d _ hd
 obtain⟨ep,rl⟩:=dd.dictAt
 have wH:vs.length=kvs.length:=(iB rel).symm
 have hh:X.A.handled=none:=I.ok.hd hc
 refine Calls.call_function_entry kind_sorted plain_sorted entry_sorted (args_sorted1 _) ?_
 unfold Builtin.«sorted»
 refine ag (m:=checkCount "sorted" 1 1 _) (aJ ?_)
 refine ag (PySem.W.kdu_collect (A:=X.A.in1) (PySem.W.kdl_dict (knd:=bN X.prog X.w) (kvs:=vs) (ep:=ep) hS) hh rl (by omega) λh' tk acc Eo LR=>?_)
 have hl:acc.toList.length=kvs.length:=by rw[fm,<-wH];exact LR.1
 have Ep:StrsAre acc.toList (aP kvs):=by
  refine LQ (by rw[hl];unfold aP;rw[ar]) λj v e=>?_
  obtain⟨k,x,hx,rm⟩:=LR.2 j v (by rw[<-RV];exact e)
  obtain⟨y,hy,e1,_⟩:=Paired.get rel hx
  obtain⟨z,LU⟩:=hk y (bo hy)
  have e1:y.1=k:=e1
  rw[LU] at e1
  subst e1
  rcases jK (show mQ (Sum.inr z) v=true from rm) with ⟨i,t,e2,e3⟩ | ⟨x',t,e2,e3⟩
  .cases e2
  .cases e2
   refine⟨z,t,?_,e3⟩
   unfold aP
   rw[bb,hy]
   simp[LU]
 refine ag (wpAny_newList ?_ (by rw[hl];omega))
 have vP:(h'.push (seqObj "list" acc.toList.toArray 0)).get? h'.objs.size=some (seqObj "list" acc.toList.toArray 0):=cw _ rfl
 refine ag (iC (qz slot_list_sort ⟨_,vP,rfl⟩ entry_list_sort (list_sort_treeK strKind_oneLt vP Ep.keysOf (λv₁ v₂ rest e=>keyKind_strs (by rw[<-e];exact Ep)) (by omega) λdN hp hs=>⟨_,rfl,?_⟩) (args_list_sort _)))
 refine aJ ⟨_,rfl,?_⟩
 obtain⟨En,a1,a2,a3⟩:=sorted_out_str Ep hp hs
 obtain⟨e,he⟩:=sortedHeap_at (out:=(arrOf dN).map (·.2)) vP
 have e1:cC (aP kvs)=En:=zY a2 (LN a3)
 have I1:Inv X pins σ H { s with heap:=h',toks:=tk }:=I.kept Eo
 have hf:H h'.objs.size=none:=I1.aC.fresh (aQ _)
 refine⟨.ref h'.objs.size,_,I1.laid (a:=h'.objs.size) (o := .lst ((cC (aP kvs)).map V.str)) (t':=tk) (λb o z=>?_) (aQ _) ?_,rfl,q _ hf⟩
 .have z:h'.get? b=some o:=z
  have hb:b<h'.objs.size:=bE z
  rw[sortedHeap_old (bU hb) (by rw[qB];exact oB hb),Heap.get?_push_ne _ _ _ (bU hb)]
  exact z
 .have h8:(cC (aP kvs)).length=kvs.length:=by rw[(ic _).length_eq];unfold aP;rw[ar]
  refine⟨by rw[ar];omega,((arrOf dN).map (·.2)).toList,e,?_,by rw[Array.toArray_toList];exact he⟩
  rw[e1]
  exact LO a1
end
section
variable{X:Cx}{pins:List (Addr×Obj)}{σ:St}{H:Hp}{s:Shared}
theorem Inv.LV{a:Addr}{o u:HO}(I:Inv X pins σ H s)(ha:H a=some o)(new:cS X.prog X.w (upd H a u) s.heap a u)(h0:∀ob v,X.H₀ a≠some (.dJ ob v))(h1:∀xs,X.H₀ a≠some (.tup xs))(h2:∀ps,X.H₀ a≠some (.mR ps))
  (n1:∀xs,o ≠ .tup xs) (n2:∀y,o ≠ .own y):Inv X pins σ (upd H a u) s:=by
 have no:∀b,H b=none->upd H a u b=none:=λb hb=>by rw[ak (λz=>by rw[z,ha] at hb;cases hb)];exact hb
 refine⟨I.ok,I.os,I.bare,⟨I.base.keep,I.base.slot,λb ob e n hx=>no b (I.base.free b ob e n hx),I.base.there,λb xs e=>?_,λb ob v e=>?_,λb ps e=>?_⟩,I.loc,I.cell,no _ I.free,λx c e=>no c (I.fA x c e),λp hp=>?_,λb v q=>?_,I.len⟩
 .rw[ak (λz=>h1 xs (by rw[<-z];exact e))];exact I.base.gb b xs e
 .rw[ak (λz=>h0 ob v (by rw[<-z];exact e))];exact I.base.jM b ob v e
 .rw[ak (λz=>h2 ps (by rw[<-z];exact e))];exact I.base.km b ps e
 .obtain⟨p1,p2,p3,p4,p5⟩:=I.pin p hp
  exact⟨p1,no _ p2,p3,p4,p5⟩
 .by_cases hb:b=a
  .subst hb
   rw[au] at q
   cases q
   exact new
  .rw[ak hb] at q
   refine(I.aC b v q).kl (λc w _ e=>e) (λc e=>?_) λc xs e=>?_
   .rw[ak (λz=>n2 b (by rw[z,ha] at e;exact c9 e))];exact e
   .rw[ak (λz=>n1 xs (by rw[z,ha] at e;exact c9 e))];exact e
end
noncomputable def Er(a:Addr)(ob:Obj)(kvs:List (Key×V)):It:=
 ⟨λi H=>H a=some (.dJ ob (.dK kvs))/\i<kvs.length,λi H x H'=>H'=H/\∃q,kvs[i]? = some q/\x=kV q.1,λi H=>H a=some (.dJ ob (.dK kvs))/\i=kvs.length⟩
theorem Wr{k:Key}{v:Value}(h:mQ k v=true):RelV (kV k) v:=by
 rcases jK h with ⟨i,t,rfl,rfl⟩ | ⟨x,t,rfl,rfl⟩
 .exact⟨t,rfl⟩
 .exact⟨t,rfl⟩
theorem Ws{P:Program}{w:World}{K:PySem.W.Frag}{tg:Expr}{a it:Addr}{ob:Obj}{kvs:List (Key×V)}{vs:List (Key×Value)}{ep:Nat}(cJ:a≠it)(rel:KV kvs vs)(hD:∀h:Heap,h.get? a=some ob->h.DictAt (bN P w) a vs ep) :
  Turn P w K tg (Er a ob kvs) [it] it (λi h=>h.IsKeyIter it a i vs.length ep) where
 mem:=by simp
 obj:=λi h st b hb=>by
  obtain rfl:b=it:=by simpa using hb
  obtain⟨o,e,c,d⟩:=st
  exact⟨o,e,λv z=>by rw[d] at z;cases z⟩
 keep:=λi h h' st k=>st.at λo e=>k it (by simp) o e
 item:=by
  intro X hP hw hK hc i pins s σ H E I hf st hg
  subst hP hw hK
  obtain⟨f0,f1,f2,f3,f4,f5⟩:=hf it (by simp)
  obtain⟨ha,hi⟩:=hg
  have W:=Walks.dictKeys (knd:=bN X.prog X.w) (A:=X.A) (I.ok.hd hc) it a cJ vs ep
  have wH:kvs.length=vs.length:=iB rel
  refine W.item i s _ _ (by omega) ⟨st,hD _ (I.aC a _ ha).1⟩ λv h' tk hv dN kk=>?_
  obtain⟨k,x,hx,hk⟩:=hv
  obtain⟨q,hq,e1,_⟩:=Paired.get rel hx
  have I1:Inv X pins σ H { s with heap:=h',toks:=tk }:=I.turned (λb o hb e=>kk b o (by simpa using hb) e) f0 f1 f3 f4 f5
  obtain⟨o,e4,e5,e6⟩:=id dN.1
  have hk:mQ k v=true:=hk
  refine⟨_,rfl,tu (s:={ s with heap:=h',toks:=tk }) e4 e5 e6 (by decide) ⟨kV k,H,I1,Wr hk,⟨rfl,q,hq,by rw[show q.1=k from e1]⟩,dN.1,λb hb=>(hf b hb).1⟩⟩
 done:=by
  intro X hP hw hK hc i pins s σ H E I hf st hg
  subst hP hw hK
  obtain⟨f0,f1,f2,f3,f4,f5⟩:=hf it (by simp)
  obtain⟨ha,hi⟩:=hg
  have W:=Walks.dictKeys (knd:=bN X.prog X.w) (A:=X.A) (I.ok.hd hc) it a cJ vs ep
  have wH:kvs.length=vs.length:=iB rel
  have hi:i=vs.length:=by omega
  subst hi
  exact W.done s _ _ ⟨st,hD _ (I.aC a _ ha).1⟩ λh' tk kk=>⟨rfl,I.turned (λb o hb e=>kk b o (by simpa using hb) e) f0 f1 f3 f4 f5⟩
 self:=λ_ _ _ _ _ st h=>wpAny_pyIter_keyiter st h
def Wt(tl:TE):TI:=λσ H R=>tl σ H λx H1=>∃a ob kvs,x = .ref a/\H1 a=some (.dJ ob (.dK kvs))/\R (Er a ob kvs) H1
theorem Wu{X:Cx}{tg l:Expr}{tl:TE}(hl:PE X l tl):PI X tg l (Wt tl):=by
 intro pins s σ H R I h
 refine aB (hl pins s σ H _ I h) λv s1 ⟨x,H1,I1,r1,q1⟩=>?_
 obtain⟨a,ob,kvs,rfl,ha,q⟩:=q1
 cases r1
 obtain⟨pC,hz,hS,vs,rel,dd⟩:=I1.aC a _ ha
 obtain⟨ep,rl⟩:=dd.dictAt
 have aN:a<s1.heap.objs.size:=bE pC
 refine wpAny_pyIter_dict hS rl ?_
 refine⟨s1.heap.objs.size,[s1.heap.objs.size],_,_,H1,rfl,I1.kept (t':=s1.toks) λb o e=>bw _ e,Ws (bU aN) rel (λh' e=>?_),⟨_,cw _ rfl,rfl,rfl⟩,λb hb=>?_,q⟩
 .exact rl.at' λo e'=>by rw[pC] at e';cases e';exact e
 .obtain rfl:b=s1.heap.objs.size:=by simpa using hb
  exact I1.jO (aQ _) I1.fresh
theorem Wv{a:Addr}{ob:Obj}{kvs:List (Key×V)}:nz (Er a ob kvs) (λH=>H a=some (.dJ ob (.dK kvs))) (kvs.map λq=>kV q.1):=
 ⟨λi H h hi=>⟨h,by simpa using hi⟩,λi H x H' h _ y=>⟨y.1,by
  obtain⟨_,q,e1,e2⟩:=y
  rw[bb,e1,e2]
  rfl⟩,λH h=>⟨h,by simp⟩⟩
def Ww(t:TS):TS:=λD σ H=>∃a kvs,H a=some (.dK kvs)/\∀ob,t { nx:=λσ' H'=>H' a=some (.dJ ob (.dK kvs))/\D.nx σ' (upd H' a (.dK kvs)),bk:=λ_ _=>False,ct:=λ_ _=>False,rt:=λ_ _=>False } σ (upd H a (.dJ ob (.dK kvs)))
theorem Wx{X:Cx}{st:Stmt}{t:TS}(h:PS X st t):PS X st (Ww t):=by
 intro pins s σ H D I hq
 obtain⟨a,kvs,ha,hq⟩:=hq
 have ok:=I.aC a _ ha
 obtain⟨z,y,vs,r,ob,es,ep,pC,rest⟩:=id ok
 have h0:∀ob v,X.H₀ a≠some (.dJ ob v):=λob v e=>by have:=I.base.jM a ob v e;rw[ha] at this;cases this
 have h1:∀xs,X.H₀ a≠some (.tup xs):=λxs e=>by have:=I.base.gb a xs e;rw[ha] at this;cases this
 have h2:∀ps,X.H₀ a≠some (.mR ps):=λps e=>by obtain⟨m,this⟩:=I.base.km a ps e;rw[ha] at this;cases this
 have I1:Inv X pins σ (upd H a (.dJ ob (.dK kvs))) s:=I.LV ha ⟨pC,ok⟩ h0 h1 h2 (λ_ z=>by cases z) (λ_ z=>by cases z)
 refine aB (h pins s σ _ _ I1 (hq ob)) λf s1 hs=>?_
 cases f with
 |next=>
  obtain⟨σ',H1,J,e1,q⟩:=hs
  exact⟨σ',upd H1 a (.dK kvs),J.LV e1 (J.aC a _ e1).2 h0 h1 h2 (λ_ z=>by cases z) (λ_ z=>by cases z),q⟩
 |brk=>obtain⟨_,_,_,q⟩:=hs;exact q.elim
 |cont=>obtain⟨_,_,_,q⟩:=hs;exact q.elim
 |ret u=>obtain⟨_,_,_,_,_,q⟩:=hs;exact q.elim
section
variable{X:Cx}
noncomputable def gr(z:Str)(n:Nat):Str:=⟨(List.replicate n z.cps.toList).flatten.toArray⟩
theorem LW(a:Array Nat):∀(n:Nat) (b:Array Nat),((List.replicate n a).foldl (· ++ ·) b).toList=b.toList++(List.replicate n a.toList).flatten
 |0,b=>by simp
 |n+1,b=>by
  rw[ou,List.foldl_cons,LW a n (b++a),ou,vz,Array.toList_append,ow]
theorem Wy(z:Str){k:Int}(h:0<=k):Txt.mul z k=gr z k.toNat:=by
 unfold Txt.mul gr
 by_cases h1:k<1
 .have:k=0:=by omega
  subst this
  rw[ax (by decide)]
  rfl
 .rw[aq h1]
  split
  .rename_i hc
   rcases(yF _ _ ▸ hc:(k==1)=true\/(z.length==0)=true) with hc | hc
   .have:k=1:=eq_of_beq hc
    subst this
    simp
   .have hz:z.cps.toList=[]:=List.eq_nil_of_length_eq_zero (by have:=eq_of_beq hc;simpa[Str.length] using this)
    cases z with
    |mk a=>
     have ha:a = #[]:=by simpa using hz
     subst ha
     simp
  .congr 1
   apply Array.toList_inj.mp
   rw[LW]
   simp
theorem Wz:cM X (binaryOp .Mult) (λx y H Q=>∃z k,x = .str z/\y = .int k/\0<=k/\k<=1000/\z.length<=1000/\Q (.str (gr z k.toNat)) H):=by
 intro pins s σ H x y v u Q I rx ry h
 obtain⟨z,k,rfl,rfl,h0,h1,hz,q⟩:=h
 obtain⟨t,rfl⟩:=rx
 obtain⟨t',rfl⟩:=ry
 refine SB.mul ⟨?_,λhk _=>?_,λhk _=>?_⟩ λt2 k2=>⟨.str (gr z k.toNat),H,I.tok _,⟨t2,by rw[Wy z h0]⟩,q⟩
 .rw[Bool.or_eq_false_iff]
  exact⟨aF (by omega),aF (by omega)⟩
 .have:(1000:Int)<=(2 ^ 63 - 1) / k:=by
   rw[Int.le_ediv_iff_mul_le (by omega)]
   have:1000*k<=1000*1000:=Int.mul_le_mul_of_nonneg_left h1 (by decide)
   exact Int.le_trans this (by decide)
  omega
 .have:z.length*k.toNat<=1000*1000:=CY hz (by omega)
  unfold Builtin.Str.tooLong
  exact aF (by have hs:1000*1000<=sizeLine:=(by decide);omega)
def LX:V->List V->Hp->VK->Prop:=λx vs H Q=>∃y z,x = .str y/\vs=[.str z]/\Q (.int (Txt.count y z)) H
theorem WA:zo X "str.count" LX:=by
 intro pins s σ H x vs v us Q I rx rv h
 obtain⟨y,z,rfl,rfl,q⟩:=h
 obtain⟨t,rfl⟩:=rx
 obtain⟨u,rfl,t',rfl⟩:=rv.one
 exact SC.count ⟨.int _,H,I.tok _,⟨_,rfl⟩,q⟩
end
structure pD(z ti to i j:Addr)(f g:List Addr):Prop where
 a1:ti≠z
 a2:to≠z
 a3:i≠z
 a4:j≠z
 a6:to≠i
 a7:to≠j
 a8:i≠j
 b1:z∉f
 b2:to∉f
 b3:j∉f
 c1:z∉g
 c2:to∉g
 c3:i∉g
section
variable{prog:Program}{w:World}{A:Around}{E:Value->Shared->Prop}{s:Shared}{z ti to i j:Addr}{f g:List Addr}{n m k:Nat}{P R:Nat->Value->Prop}{S T:Nat->Heap->Prop}{a b:Value}
theorem mv{h h':Heap}{U:Nat->Heap->Prop}{l:List Addr}{y:Addr}{q:Nat}(fr:∀i h h',U i h->(∀b∈l,∀o,h.get? b=some o->h'.get? b=some o)->U i h')(hy:y∉l)(hs:Heap.SameBut y h h')(u:U q h):U q h':=
 fr q h h' u λb hb o e=>hs.extBut b o (λx=>hy (x ▸ hb)) e
theorem WB{Q:Value->Shared->Prop}(D1:Draws prog w A i f n P S)(D2:Draws prog w A j g m R T)(Z:pD z ti to i j f g)(hz:IsZip s.heap z ti to .none)(ht:IsPair s.heap ti (.ref i) (.ref j))(ho:IsPair s.heap to a b)
  (s1:S k s.heap) (s2:T k s.heap) (l1:k<n) (l2:k<m)
  (fin:∀h' tk x y,P k x->R k y->IsZip h' z ti to (rawInt s.heap.objs.size)->IsPair h' to x y->S (k+1) h'->T (k+1) h'->IsPair h' s.heap.objs.size x y->h'.objs.size=s.heap.objs.size+1->
   (∀c o,c≠z->c≠to->c≠i->c≠j->s.heap.get? c=some o->h'.get? c=some o)->Q (.ref s.heap.objs.size) { s with heap:=h',toks:=tk }) :
  wpAny (model prog w) A (Builtin.«zip.__next__» ⟨[.ref z],[]⟩) (λr s' =>∃v,r = .done (.ret v)/\Q v s') E s:=by
 show wpAny _ _ (field (Value.ref z) 2 >>= _) _ _ s
 refine ag (gW (i:=2) hz rfl (x := .bool false) rfl ?_)
 show wpAny _ _ (field (Value.ref z) 3 >>= _) _ _ s
 refine ag (gW (i:=3) hz rfl (x := .ref ti) rfl (ag (ki ht rfl ?_)))
 show wpAny _ _ (Builtin.SmallTypes.ownedTupleIsFree (Value.ref z) >>= _) _ _ s
 refine ag ?_
 unfold Builtin.SmallTypes.ownedTupleIsFree
 refine ag (gW (i:=0) hz rfl (x := .none) rfl (aJ ?_))
 simp only[fY]
 refine ag (sR (ag (gW (i:=4) hz rfl (x := .ref to) rfl (ag (yK hz (by simp) λg1 y1 u1=>?_)))))
 have y1:IsZip g1 z ti to .ellipsis:=y1
 refine ag ?_
 simp only[List.zipIdx_cons,List.zipIdx_nil,Ju,List.forIn_nil]
 refine ag (ag (wpAny_onRaise ?_))
 show wpAny _ _ (Builtin.SmallTypes.nextOf (Value.ref i) >>= _) _ _ _
 refine ag (D1.item k { s with heap:=g1 } _ _ l1 (mv D1.frame Z.b1 u1 s1) λx g2 jq px LY u2=>aJ ?_)
 have o2:IsPair g2 to a b:=u2.extBut _ _ Z.a6 (u1.extBut _ _ Z.a2 ho)
 refine ag (ki o2 rfl (ag (RW (s:={ s with heap:=g2,toks:=jq }) o2 λg3 o3 u3=>?_)))
 have o3:IsPair g3 to x b:=o3
 refine ag (vE (aJ ?_))
 refine ag (ag (wpAny_onRaise ?_))
 show wpAny _ _ (Builtin.SmallTypes.nextOf (Value.ref j) >>= _) _ _ _
 refine ag (D2.item k { s with heap:=g3,toks:=jq } _ _ l2 (mv D2.frame Z.c2 u3 (mv D2.frame Z.c3 u2 (mv D2.frame Z.c1 u1 s2))) λy g4 wI py wJ u4=>aJ ?_)
 have o4:IsPair g4 to x b:=u4.extBut _ _ Z.a7 o3
 refine ag (ki o4 rfl (ag (RW (s:={ s with heap:=g4,toks:=wI }) o4 λg5 o5 u5=>?_)))
 have o5:IsPair g5 to x y:=o5
 refine ag (vE (aJ (aJ ?_)))
 refine ag (ki o5 rfl (ag (wpAny_newTuple ?_)))
 have sz:g5.objs.size=s.heap.objs.size:=by rw[u5.1,u4.1,u3.1,u2.1,u1.1]
 have y5:IsZip g5 z ti to .ellipsis:=u5.extBut _ _ (bj Z.a2) (u4.extBut _ _ (bj Z.a4) (u3.extBut _ _ (bj Z.a2) (u2.extBut _ _ (bj Z.a3) y1)))
 have zl:z<g5.objs.size:=bE y5
 have kp:∀c o,c≠z->c≠to->c≠i->c≠j->s.heap.get? c=some o->g5.get? c=some o:=λc o d1 d2 d3 d4 q=>
  u5.extBut _ _ d2 (u4.extBut _ _ d4 (u3.extBut _ _ d2 (u2.extBut _ _ d3 (u1.extBut _ _ d1 q))))
 have r1:S (k+1) g5:=mv D1.frame Z.b2 u5 (mv D1.frame Z.b3 u4 (mv D1.frame Z.b2 u3 LY))
 have r2:T (k+1) g5:=mv D2.frame Z.c2 u5 wJ
 show wpAny _ _ (Builtin.SmallTypes.ownedTupleHandOut (Value.ref z) (.ref g5.objs.size) >>= _) _ _ _
 refine ag ?_
 unfold Builtin.SmallTypes.ownedTupleHandOut
 have y6:IsZip (g5.push { cls := .type "tuple",data := .seq #[x,y] }) z ti to .ellipsis:=bw _ y5
 refine ag (yK (s:={ s with heap:=g5.push { cls := .type "tuple",data := .seq #[x,y] },toks:=wI }) y6 (by simp) λg7 y7 u7=>?_)
 have y7:IsZip g7 z ti to (rawInt g5.objs.size):=y7
 refine yK (s:={ s with heap:=g7,toks:=wI }) y7 (by simp) λg8 y8 u8=>?_
 have y8:IsZip g8 z ti to (rawInt g5.objs.size):=y8
 have up:∀c o,c≠z->g5.get? c=some o->g8.get? c=some o:=λc o d q=>u8.extBut _ _ d (u7.extBut _ _ d (bw _ q))
 have t8:IsPair g8 g5.objs.size x y:=u8.extBut _ _ (yu zl) (u7.extBut _ _ (yu zl) (cw _ rfl))
 have z8:g8.objs.size=g5.objs.size+1:=by rw[u8.1,u7.1,kh]
 have w1:S (k+1) g8:=D1.frame _ g5 g8 r1 λc hc o q=>up c o (λv=>Z.b1 (v ▸ hc)) q
 have w2:T (k+1) g8:=D2.frame _ g5 g8 r2 λc hc o q=>up c o (λv=>Z.c1 (v ▸ hc)) q
 refine aJ ⟨_,rfl,?_⟩
 show Q (.ref g5.objs.size) { s with heap:=g8,toks:=wI }
 rw[sz] at y8 t8 z8 ⊢
 exact fin g8 wI x y px py y8 (up _ _ Z.a2 o5) w1 w2 t8 z8 λc o d1 d2 d3 d4 q=>up c o d1 (kp c o d1 d2 d3 d4 q)
theorem WC{Q:Fin->Shared->Prop}(D1:Draws prog w A i f n P S)(D2:Draws prog w A j g m R T)(Z:pD z ti to i j f g)(hz:IsZip s.heap z ti to .none)(ht:IsPair s.heap ti (.ref i) (.ref j))(ho:IsPair s.heap to a b)
  (s1:S k s.heap) (s2:T k s.heap) (l:k=n\/(k<n/\k=m))
  (fin:∀h' tk e,(∀c o,c≠z->c≠to->c≠i->c≠j->s.heap.get? c=some o->h'.get? c=some o)->(∃o,h'.get? e=some o/\o.cls = .type "StopIteration")->E (.ref e) { s with heap:=h',toks:=tk }) :
  wpAny (model prog w) A (Builtin.«zip.__next__» ⟨[.ref z],[]⟩) Q E s:=by
 show wpAny _ _ (field (Value.ref z) 2 >>= _) _ _ s
 refine ag (gW (i:=2) hz rfl (x := .bool false) rfl ?_)
 show wpAny _ _ (field (Value.ref z) 3 >>= _) _ _ s
 refine ag (gW (i:=3) hz rfl (x := .ref ti) rfl (ag (ki ht rfl ?_)))
 show wpAny _ _ (Builtin.SmallTypes.ownedTupleIsFree (Value.ref z) >>= _) _ _ s
 refine ag ?_
 unfold Builtin.SmallTypes.ownedTupleIsFree
 refine ag (gW (i:=0) hz rfl (x := .none) rfl (aJ ?_))
 simp only[fY]
 refine ag (sR (ag (gW (i:=4) hz rfl (x := .ref to) rfl (ag (yK hz (by simp) λg1 y1 u1=>?_)))))
 have y1:IsZip g1 z ti to .ellipsis:=y1
 refine ag ?_
 simp only[List.zipIdx_cons,List.zipIdx_nil,Ju,List.forIn_nil]
 refine ag (ag (wpAny_onRaise ?_))
 show wpAny _ _ (Builtin.SmallTypes.nextOf (Value.ref i) >>= _) _ _ _
 rcases l with l | ⟨l,l'⟩
 .subst l
  refine ag (D1.done { s with heap:=g1 } _ _ (mv D1.frame Z.b1 u1 s1) λg2 e u2 he=>?_)
  obtain⟨oe,e1,e2⟩:=he
  have y2:IsZip g2 z ti to .ellipsis:=u2 _ _ (bj Z.a3) y1
  have ez:e≠z:=λv=>by
   subst v
   rw[y2] at e1
   cases e1
   simp at e2
  refine yK (s:={ s with heap:=g2 }) y2 (by simp) λg3 _ u3=>fin g3 s.toks e (λc o d1 _ d3 _ q=>u3.extBut _ _ d1 (u2 _ _ d3 (u1.extBut _ _ d1 q))) ⟨oe,u3.extBut _ _ ez e1,e2⟩
 .subst l'
  refine ag (D1.item k { s with heap:=g1 } _ _ l (mv D1.frame Z.b1 u1 s1) λx g2 jq px LY u2=>aJ ?_)
  have o2:IsPair g2 to a b:=u2.extBut _ _ Z.a6 (u1.extBut _ _ Z.a2 ho)
  refine ag (ki o2 rfl (ag (RW (s:={ s with heap:=g2,toks:=jq }) o2 λg3 o3 u3=>?_)))
  refine ag (vE (aJ ?_))
  refine ag (ag (wpAny_onRaise ?_))
  show wpAny _ _ (Builtin.SmallTypes.nextOf (Value.ref j) >>= _) _ _ _
  refine ag (D2.done { s with heap:=g3,toks:=jq } _ _ (mv D2.frame Z.c2 u3 (mv D2.frame Z.c3 u2 (mv D2.frame Z.c1 u1 s2))) λg4 e u4 he=>?_)
  obtain⟨oe,e1,e2⟩:=he
  have y4:IsZip g4 z ti to .ellipsis:=u4 _ _ (bj Z.a4) (u3.extBut _ _ (bj Z.a2) (u2.extBut _ _ (bj Z.a3) y1))
  have ez:e≠z:=λv=>by
   subst v
   rw[y4] at e1
   cases e1
   simp at e2
  refine yK (s:={ s with heap:=g4,toks:=jq }) y4 (by simp) λg5 _ u5=>fin g5 jq e (λc o d1 d2 d3 d4 q=>u5.extBut _ _ d1 (u4 _ _ d4 (u3.extBut _ _ d2 (u2.extBut _ _ d3 (u1.extBut _ _ d1 q))))) ⟨oe,u5.extBut _ _ ez e1,e2⟩
theorem WD{Q:Option Value->Shared->Prop}(D1:Draws prog w A.in1 i f n P S)(D2:Draws prog w A.in1 j g m R T)(Z:pD z ti to i j f g)(hz:IsZip s.heap z ti to .none)(ht:IsPair s.heap ti (.ref i) (.ref j))(ho:IsPair s.heap to a b)
  (s1:S k s.heap) (s2:T k s.heap) (l1:k<n) (l2:k<m)
  (fin:∀h' tk x y,P k x->R k y->IsZip h' z ti to (rawInt s.heap.objs.size)->IsPair h' to x y->S (k+1) h'->T (k+1) h'->IsPair h' s.heap.objs.size x y->h'.objs.size=s.heap.objs.size+1->
   (∀c o,c≠z->c≠to->c≠i->c≠j->s.heap.get? c=some o->h'.get? c=some o)->Q (some (.ref s.heap.objs.size)) { s with heap:=h',toks:=tk }) :
  wpAny (model prog w) A (pyNext (.ref z)) Q E s:=by
 have tz:s.TypeIs (.ref z) "zip":=⟨_,hz,rfl⟩
 unfold pyNext
 refine ag (yH (yI (name:=Str.ofString "__next__") tz JC (qz JC tz F.entry_zip_next
   (WB D1 D2 Z hz ht ho s1 s2 l1 l2 λh' tk x y p1 p2 p3 p4 p5 p6 p7 p8 p9=>aJ (fin h' tk x y p1 p2 p3 p4 p5 p6 p7 p8 p9)) (F.args_zip_next_1 _))))
theorem WE{Q:Option Value->Shared->Prop}(D1:Draws prog w A.in1 i f n P S)(D2:Draws prog w A.in1 j g m R T)(Z:pD z ti to i j f g)(hz:IsZip s.heap z ti to .none)(ht:IsPair s.heap ti (.ref i) (.ref j))(ho:IsPair s.heap to a b)
  (s1:S k s.heap) (s2:T k s.heap) (l:k=n\/(k<n/\k=m))
  (fin:∀h' tk,(∀c o,c≠z->c≠to->c≠i->c≠j->s.heap.get? c=some o->h'.get? c=some o)->Q none { s with heap:=h',toks:=tk }):wpAny (model prog w) A (pyNext (.ref z)) Q E s:=by
 have tz:s.TypeIs (.ref z) "zip":=⟨_,hz,rfl⟩
 unfold pyNext
 refine ag (yH (yI (name:=Str.ofString "__next__") tz JC (qz JC tz F.entry_zip_next (WC D1 D2 Z hz ht ho s1 s2 l λh' tk e kp he=>?_) (F.args_zip_next_1 _))))
 obtain⟨o,e1,e2⟩:=he
 exact ag (Jz (T:="StopIteration") (b:=true) ⟨o,e1,e2⟩ isSubtype_stop (aJ (fin h' tk kp)))
noncomputable abbrev zA(h:Heap)(o1 o2:Obj):Heap:=(h.push o1).push o2
noncomputable abbrev zB(h:Heap)(o1 o2:Obj):Heap:=(zA h o1 o2).push { cls := .type "tuple",data := .seq #[.ref h.objs.size,.ref (h.push o1).objs.size] }
noncomputable abbrev zC(h:Heap)(o1 o2:Obj):Heap:=(zB h o1 o2).push { cls := .type "tuple",data := .seq #[.none,.none] }
noncomputable abbrev zD(h:Heap)(o1 o2:Obj):Heap:=(zC h o1 o2).push { cls := .type "zip",data := .fields #[.none,.bool false,.bool false,.ref (zA h o1 o2).objs.size,.ref (zB h o1 o2).objs.size] }
theorem WG{v1 v2:Value}{o1 o2:Obj}{K1 K2:Shared->Prop}(h1:∀(prog:Program) (w:World) (A:Around) (E:Value->Shared->Prop) (s:Shared) (Q:Value->Shared->Prop),K1 s->Q (.ref s.heap.objs.size) { s with heap:=s.heap.push o1 }->wpAny (model prog w) A (pyIter v1) Q E s)
  (h2:∀(prog:Program) (w:World) (A:Around) (E:Value->Shared->Prop) (s:Shared) (Q:Value->Shared->Prop),K2 s->Q (.ref s.heap.objs.size) { s with heap:=s.heap.push o2 }->wpAny (model prog w) A (pyIter v2) Q E s) :
  Meets (Builtin.«zip.__new__» ⟨[.type "zip",v1,v2],[]⟩) (λ_ R s=>K1 s/\K2 { s with heap:=s.heap.push o1 }/\R (.ok (.ret (.ref (zC s.heap o1 o2).objs.size))) { s with heap:=zD s.heap o1 o2 }):=
 .of_wp λprog w A R s h=>by
  obtain⟨hp,gg,dd,tk,os⟩:=s
  obtain⟨k1,k2,h⟩:=h
  have sz:=sub_zip
  have i1:=λ(E:Value->Shared->Prop) (A:Around) (Q:Value->Shared->Prop)=>h1 prog w A E ⟨hp,gg,dd,tk,os⟩ Q k1
  have i2:=λ(E:Value->Shared->Prop) (A:Around) (Q:Value->Shared->Prop)=>h2 prog w A E ⟨hp.push o1,gg,dd,tk,os⟩ Q k2
  wp_walk using i1 _ _ _,i2 _ _ _
  exact⟨_,rfl,h⟩
end
section
variable{prog:Program}{w:World}{A:Around}{E:Value->Shared->Prop}{s:Shared}
theorem WH{v1 v2:Value}{o1 o2:Obj}{K1 K2:Shared->Prop}{Q:Value->Shared->Prop}(h1:∀(prog:Program) (w:World) (A:Around) (E:Value->Shared->Prop) (s:Shared) (Q:Value->Shared->Prop),K1 s->Q (.ref s.heap.objs.size) { s with heap:=s.heap.push o1 }->wpAny (model prog w) A (pyIter v1) Q E s)
  (h2:∀(prog:Program) (w:World) (A:Around) (E:Value->Shared->Prop) (s:Shared) (Q:Value->Shared->Prop),K2 s->Q (.ref s.heap.objs.size) { s with heap:=s.heap.push o2 }->wpAny (model prog w) A (pyIter v2) Q E s)
  (k1:K1 s) (k2:K2 { s with heap:=s.heap.push o1 }) (Es:o1.isFreed=false) (jj:o2.isFreed=false)
  (fin:∀h',IsZip h' (s.heap.objs.size+4) (s.heap.objs.size+2) (s.heap.objs.size+3) .none->IsPair h' (s.heap.objs.size+2) (.ref s.heap.objs.size) (.ref (s.heap.objs.size+1))->IsPair h' (s.heap.objs.size+3) .none .none->
   h'.get? s.heap.objs.size=some o1->h'.get? (s.heap.objs.size+1)=some o2->(∀c o,s.heap.get? c=some o->h'.get? c=some o)->Q (.ref (s.heap.objs.size+4)) { s with heap:=h' }) :
  wpAny (model prog w) A (call (.type "zip") [v1,v2]) Q E s:=by
 refine callType_new F.called_zip (by decide) (F.typeCall_zip_2 _ _) (F.newCall_zip_2 _ _) (λobj=>F.args_object_init_3 obj _ _) F.entry_zip_new (WG h1 h2) ⟨k1,k2,?_⟩
 have y1:(s.heap.push o1).objs.size=s.heap.objs.size+1:=kh ..
 have y2:(zA s.heap o1 o2).objs.size=s.heap.objs.size+2:=by rw[kh,y1]
 have y3:(zB s.heap o1 o2).objs.size=s.heap.objs.size+3:=by rw[kh,y2]
 have y4:(zC s.heap o1 o2).objs.size=s.heap.objs.size+4:=by rw[kh,y3]
 have e5:(zD s.heap o1 o2).get? (zC s.heap o1 o2).objs.size=some _:=cw _ rfl
 have e4:(zD s.heap o1 o2).get? (zB s.heap o1 o2).objs.size=some _:=bw _ (cw _ rfl)
 have Et:∀{c o},(zA s.heap o1 o2).get? c=some o->(zD s.heap o1 o2).get? c=some o:=λq=>bw _ (bw _ (bw _ q))
 have e3:(zD s.heap o1 o2).get? (zA s.heap o1 o2).objs.size=some _:=bw _ (bw _ (cw _ rfl))
 have e2:(zD s.heap o1 o2).get? (s.heap.push o1).objs.size=some o2:=Et (cw _ jj)
 have e1:(zD s.heap o1 o2).get? s.heap.objs.size=some o1:=Et (bw _ (cw _ Es))
 show _/\_
 rw[y2,y3,y4] at e5
 rw[y1,y2] at e3
 rw[y3] at e4
 rw[y1] at e2
 rw[y4]
 exact⟨⟨_,e5,rfl⟩,fin _ e5 e3 e4 e1 e2 λc o q=>Et (bw _ (bw _ q))⟩
end
theorem WI{prog:Program}{w:World}{A:Around}(hh:A.handled=none)(it:Addr)(x:Str)(t:Tok):Draws prog w A it [it] x.cps.size (λi v=>∃c u,x.cps[i]? = some c/\v = .str ⟨#[c]⟩ u) (λi h=>h.IsStrIter it (strIterType x) x t i):=by
 unfold strIterType
 split
 .exact Draws.strAscii hh it x t
 .exact Draws.strWide hh it x t
theorem zZ(n:Nat):pD (n+4) (n+2) (n+3) n (n+1) [n] [n+1]/\(n+2:Nat)≠n+3/\(n+2:Nat)≠n/\(n+2:Nat)≠n+1:=by
 have ne:∀a b:Nat,a≠b->(n+a:Nat)≠n+b:=λa b h=>by omega
 have m1:∀a b:Nat,a≠b->(n+a:Nat)∉[n+b]:=λa b h hm=>ne a b h (cg.mp hm)
 exact⟨⟨ne 2 4 (by decide),ne 3 4 (by decide),ne 0 4 (by decide),ne 1 4 (by decide),ne 3 0 (by decide),ne 3 1 (by decide),ne 0 1 (by decide),m1 4 0 (by decide),m1 3 0 (by decide),m1 1 0 (by decide),m1 4 1 (by decide),m1 3 1 (by decide),m1 0 1 (by decide)⟩,ne 2 3 (by decide),ne 2 0 (by decide),ne 2 1 (by decide)⟩
theorem WJ:bootBuiltins "zip"=some (.type "zip"):=by decide +kernel
section
variable{prog:Program}{w:World}{A:Around}{E:Value->Shared->Prop}{s:Shared}{it l:Addr}{i:Nat}{items:Array Value}
theorem WK{x:Value}{Q:Value->Shared->Prop}(hit:s.heap.IsTupleIter it l i)(hl:s.heap.IsTuple l items)(hx:items[i]? = some x)(hQ:∀h',h'.IsTupleIter it l (i+1)->Heap.SameBut it s.heap h'->Q x { s with heap:=h' }):wpAny (model prog w) A (Builtin.SmallTypes.nextOf (.ref it)) Q E s:=by
 obtain⟨o,ho,hc,hd⟩:=id hit;obtain⟨ol,Eu,_,nl,z7⟩:=hl
 unfold Builtin.SmallTypes.nextOf;refine ag (yI (name:=Str.ofString "__next__") hit.typeIs JD (qz JD hit.typeIs F.entry_tuple_iterator_next ?_ (F.args_tuple_iterator_next_1 _)))
 show wpAny _ _ (field (.ref it) 0 >>= _) _ _ s;refine ag (gW ho hd (x := .ref l) rfl ?_)
 show wpAny _ _ (if (Value.ref l==Value.none)=true then _ else _) _ _ s;rw[aq (show ¬((Value.ref l==Value.none)=true) from bW)]
 show wpAny _ _ (field (.ref it) 1 >>= _) _ _ s;refine ag (gW ho hd (x := .int i 0) rfl ?_)
 show wpAny _ _ (seqItems? (.ref l) >>= _) _ _ s;refine ag (ki Eu z7 ?_);simp only[dH,hx]
 refine ag (CT ho hd (by simp) (aJ ⟨x,rfl,aJ (hQ _ ⟨_,oq _ ho (RU (yJ hd _)),(Obj.cls_mapFields ..).trans hc,?_⟩ (qA ..))⟩))
 rw[yJ hd];simp[rawInt]
theorem WL{Q:Value->Shared->Prop}(hh:A.handled=none)(hit:s.heap.IsTupleIter it l i)(hl:s.heap.IsTuple l items)(hx:items[i]? = none)(hE:∀h' e,Heap.ExtBut it s.heap h'->(∃o,h'.get? e=some o/\o.cls = .type "StopIteration")->E (.ref e) { s with heap:=h' }):wpAny (model prog w) A (Builtin.SmallTypes.nextOf (.ref it)) Q E s:=by
 obtain⟨o,ho,hc,hd⟩:=id hit;obtain⟨ol,Eu,_,nl,z7⟩:=hl
 unfold Builtin.SmallTypes.nextOf;refine ag (yI (name:=Str.ofString "__next__") hit.typeIs JD (qz JD hit.typeIs F.entry_tuple_iterator_next ?_ (F.args_tuple_iterator_next_1 _)))
 show wpAny _ _ (field (.ref it) 0 >>= _) _ _ s;refine ag (gW ho hd (x := .ref l) rfl ?_)
 show wpAny _ _ (if (Value.ref l==Value.none)=true then _ else _) _ _ s;rw[aq (show ¬((Value.ref l==Value.none)=true) from bW)]
 show wpAny _ _ (field (.ref it) 1 >>= _) _ _ s;refine ag (gW ho hd (x := .int i 0) rfl ?_)
 show wpAny _ _ (seqItems? (.ref l) >>= _) _ _ s;refine ag (ki Eu z7 ?_);simp only[dH,hx]
 refine ag (sR (ag (CT ho hd (by simp) ?_)));show wpAny _ _ (newExc (.type "StopIteration") [] >>= _) _ _ _
 refine ag ?_;simp only[newExc,newTuple];refine ag (vB ?_ (by size_fits))
 refine ag (m:=firstArgMember _ _) (oE (a:=Value.none) (by first | rfl | (simp only[firstArgMember];rfl)) (vB ?_ (by size_fits)))
 simp only[raiseNew];refine ag (wpAny_handled ?_)
 first | rw[show A.in1.handled=none from hh];refine ag (aJ (wpAny_throw ?_)) | rw[hh];refine ag (aJ (wpAny_throw ?_))
 exact hE _ _ (((qA ..).extBut.push _).push _) ⟨_,cw _ rfl,rfl⟩
end
theorem WM{prog:Program}{w:World}{A:Around}(hh:A.handled=none)(it l:Addr)(cJ:l≠it)(items:Array Value) :
  Draws prog w A it [it,l] items.size (λi v=>items[i]? = some v) (λi h=>h.IsTupleIter it l i/\h.IsTuple l items) where
 live:=λ_ _ st=>by obtain⟨⟨o,ho,_⟩,_⟩:=st;exact⟨o,ho⟩
 frame:=λ_ _ _ st hk=>by obtain⟨⟨o,ho,r⟩,⟨p,hp,q⟩⟩:=st;exact⟨⟨o,hk it (by simp) o ho,r⟩,⟨p,hk l (by simp) p hp,q⟩⟩
 item:=λi s Q E hi st hQ=>WK st.1 st.2 (x:=items[i]) (by simp[hi]) λh' a b=>hQ _ h' s.toks (by simp[hi]) ⟨a,st.2.extBut b.extBut cJ⟩ b
 done:=λs Q E st hE=>WL hh st.1 st.2 (by simp) hE
theorem WN{X:Cx}{pins:List (Addr×Obj)}{σ:St}{H:Hp}{s:Shared}{a b:Addr}{xs:List V}(I:Inv X pins σ H s)(h:aw X.K H a xs)(f:eV X pins H b):a≠b:=by
 intro z
 subst z
 rcases h with (h | ⟨o,h⟩) | ⟨o,its,n,hk,_⟩
 .rw[f.1] at h;cases h
 .rw[f.1] at h;cases h
 .have e:=I.mod.qH a o hk
  rcases f.2.2.2.1 with h | h
  .exact I.ok.qI a o e h
  .exact absurd (gB (bE (I.ok.bs a o e).1) h) (sJ _)
theorem WO{X:Cx}{pins:List (Addr×Obj)}{σ:St}{H:Hp}{s:Shared}{a b:Addr}{xs:List V}(I:Inv X pins σ H s)(h:aj X.K H a xs)(f:eV X pins H b):a≠b:=by
 intro z
 subst z
 rcases h with (h | ⟨o,h⟩) | ⟨o,its,n,hk,_⟩
 .rw[f.1] at h;cases h
 .rw[f.1] at h;cases h
 .have e:=I.mod.qH a o hk
  rcases f.2.2.2.1 with h | h
  .exact I.ok.qI a o e h
  .exact absurd (gB (bE (I.ok.bs a o e).1) h) (sJ _)
inductive ZK where
 |L | T | S
def zq(k:ZK)(K:PySem.W.Frag)(H:Hp)(v:V)(xs:List V):Prop:=match k with
 |.L=>∃a,v = .ref a/\aj K H a xs
 |.T=>∃a,v = .ref a/\aw K H a xs
 |.S=>∃x:Str,v = .str x/\xs=x.cps.toList.map λc=>V.str ⟨#[c]⟩
def lT(k:ZK)(v:V)(t:Tok)(h:Heap)(i:Addr)(q:Nat):Prop:=match k with
 |.L=>∃a,v = .ref a/\h.IsListIter i a q
 |.T=>∃a,v = .ref a/\h.IsTupleIter i a q
 |.S=>∃x:Str,v = .str x/\h.IsStrIter i (strIterType x) x t q
theorem tU{k:ZK}{v:V}{t:Tok}{h:Heap}{i:Addr}{q:Nat}(z:lT k v t h i q):∃o,h.get? i=some o/\∀v,o.data ≠ .cell v:=by
 cases k <;> obtain⟨_,_,o,h1,_,h3⟩:=z <;> exact⟨o,h1,λv e=>by rw[h3] at e;cases e⟩
theorem tV{k:ZK}{v:V}{t:Tok}{h h':Heap}{i:Addr}{q:Nat}(z:lT k v t h i q)(m:∀o,h.get? i=some o->h'.get? i=some o):lT k v t h' i q:=by
 cases k <;> obtain⟨a,e,o,h1,r⟩:=z <;> exact⟨a,e,o,m o h1,r⟩
theorem LZ{X:Cx}{pins:List (Addr×Obj)}{σ:St}{H:Hp}{s:Shared}{k:ZK}{v:V}{xs ys:List V}(I:Inv X pins σ H s)(h:zq k X.K H v xs)(g:zq k X.K H v ys):xs=ys:=by
 cases k with
 |L=>obtain⟨a,rfl,h⟩:=h;obtain⟨_,e,g⟩:=g;cases e;exact I.De h g
 |T=>obtain⟨a,rfl,h⟩:=h;obtain⟨_,e,g⟩:=g;cases e;exact I.Df h g
 |S=>obtain⟨a,rfl,rfl⟩:=h;obtain⟨_,e,rfl⟩:=g;cases e;rfl
theorem tW{X:Cx}{pins:List (Addr×Obj)}{σ:St}{H:Hp}{s:Shared}{k:ZK}{v:V}{t:Tok}{xs:List V}{i:Addr}{q:Nat}(I:Inv X pins σ H s)(hh:X.A.in1.handled=none)(hq:zq k X.K H v xs)(st:lT k v t s.heap i q)(hi:eV X pins H i) :
  ∃(f:List Addr) (P:Nat->Value->Prop) (S:Nat->Heap->Prop),Draws X.prog X.w X.A.in1 i f xs.length P S/\S q s.heap/\(∀b,b≠i->eV X pins H b->b∉f)/\(∀n u x,P n u->xs[n]? = some x->RelV x u)/\∀n h,S n h->lT k v t h i n:=by
 cases k with
 |L=>
  obtain⟨a,rfl,hq⟩:=hq
  obtain⟨_,e,st⟩:=st
  cases e
  obtain⟨ia,ra,pa,_⟩:=I.list hq
  have na:=λb (hb:eV X pins H b)=>WO I hq hb
  have la:ia.toArray.size=xs.length:=by rw[bp];exact ra.length.symm
  refine⟨_,_,_,la ▸ Draws.list hh i a (na i hi) ia.toArray,⟨st,pa.isList⟩,λb hb f m=>?_,λn u x p hx=>?_,λn h s=>⟨a,rfl,s.1⟩⟩
  .rcases bX.mp m with z | z
   .exact hb z
   .exact na b f (cg.mp z).symm
  .obtain⟨u',e1,e2⟩:=ra.get hx
   have p:ia.toArray[n]? = some u:=p
   obtain rfl:u'=u:=by simpa[e1] using p
   exact e2
 |T=>
  obtain⟨a,rfl,hq⟩:=hq
  obtain⟨_,e,st⟩:=st
  cases e
  obtain⟨ia,ra,pa,_⟩:=I.tuple hq
  have na:=λb (hb:eV X pins H b)=>WN I hq hb
  have la:ia.toArray.size=xs.length:=by rw[bp];exact ra.length.symm
  refine⟨_,_,_,la ▸ WM hh i a (na i hi) ia.toArray,⟨st,pa⟩,λb hb f m=>?_,λn u x p hx=>?_,λn h s=>⟨a,rfl,s.1⟩⟩
  .rcases bX.mp m with z | z
   .exact hb z
   .exact na b f (cg.mp z).symm
  .obtain⟨u',e1,e2⟩:=ra.get hx
   have p:ia.toArray[n]? = some u:=p
   obtain rfl:u'=u:=by simpa[e1] using p
   exact e2
 |S=>
  obtain⟨x,rfl,rfl⟩:=hq
  obtain⟨_,e,st⟩:=st
  cases e
  refine⟨_,_,_,(show x.cps.size=(x.cps.toList.map λc=>V.str ⟨#[c]⟩).length by rw[ar,fm]) ▸ WI hh i x t,st,λb hb f m=>hb (cg.mp m),λn u y p hy=>?_,λn h s=>⟨x,rfl,s⟩⟩
  obtain⟨c,u1,h1,rfl⟩:=p
  rw[bb,RV,h1] at hy
  cases hy
  exact⟨u1,rfl⟩
theorem L0{X:Cx}{pins:List (Addr×Obj)}{σ:St}{H:Hp}{s:Shared}{k:ZK}{v:V}{u:Value}{xs:List V}(I:Inv X pins σ H s)(hq:zq k X.K H v xs)(r:RelV v u) :
  ∃(o1:Obj) (K1:Shared->Prop) (t:Tok),(∀(prog:Program) (w:World) (A:Around) (E:Value->Shared->Prop) (s:Shared) (Q:Value->Shared->Prop),K1 s->Q (.ref s.heap.objs.size) { s with heap:=s.heap.push o1 }->wpAny (model prog w) A (pyIter u) Q E s)/\K1 s/\(∀o,K1 { s with heap:=s.heap.push o })/\o1.isFreed=false/\∀h i,h.get? i=some o1->lT k v t h i 0:=by
 cases k with
 |L=>
  obtain⟨a,rfl,hq⟩:=hq
  cases r
  obtain⟨ia,ra,pa,_⟩:=I.list hq
  exact⟨{ cls := .type "list_iterator",data := .fields #[.ref a,.int 0 0] },λs=>s.heap.IsList a ia.toArray,0,λ_ _ _ _ _ _ hk hq=>vw hk hq,pa.isList,λo=>pa.isList.push o,rfl,λh i e=>⟨a,rfl,_,e,rfl,rfl⟩⟩
 |T=>
  obtain⟨a,rfl,hq⟩:=hq
  cases r
  obtain⟨ia,ra,pa,_⟩:=I.tuple hq
  exact⟨{ cls := .type "tuple_iterator",data := .fields #[.ref a,.int 0 0] },λs=>s.heap.IsTuple a ia.toArray,0,λ_ _ _ _ _ _ hk hq=>Jk hk hq,pa,λo=>pa.push o,rfl,λh i e=>⟨a,rfl,_,e,rfl,rfl⟩⟩
 |S=>
  obtain⟨x,rfl,_⟩:=hq
  obtain⟨t,rfl⟩:=r
  exact⟨{ cls := .type (strIterType x),data := .fields #[.str x t,.int 0 0] },λ_=>True,t,λ_ _ _ _ _ _ _ hq=>wpAny_pyIter_strU hq,trivial,λ_=>trivial,rfl,λh i e=>⟨x,rfl,_,e,rfl,rfl⟩⟩
noncomputable def wK(k1 k2:ZK)(K:PySem.W.Frag)(va vb:V):It:=
 ⟨λi H=>∃xs ys x y,zq k1 K H va xs/\zq k2 K H vb ys/\xs[i]? = some x/\ys[i]? = some y,
  λi H v H' =>∃p x y,H p=none/\v = .ref p/\(∀xs,zq k1 K H va xs->xs[i]? = some x)/\(∀ys,zq k2 K H vb ys->ys[i]? = some y)/\H'=upd H p (.tup [x,y]),
  λi H=>∃xs ys,zq k1 K H va xs/\zq k2 K H vb ys/\i=min xs.length ys.length⟩
theorem WQ{P:Program}{w:World}{K:PySem.W.Frag}{elts:List Expr}{kk:Nat}{pos:Pos}(k1 k2:ZK)(va vb:V)(t1 t2:Tok)(z ti to i j:Addr)(Z:pD z ti to i j [i] [j])(WR:ti≠to)(WS:ti≠i)(WT:ti≠j) :
  Turn P w K (.Tuple elts kk pos) (wK k1 k2 K va vb) [z,ti,to,i,j] z (λq h=>IsZip h z ti to .none/\IsPair h ti (.ref i) (.ref j)/\(∃a b,IsPair h to a b)/\lT k1 va t1 h i q/\lT k2 vb t2 h j q) where
 mem:=by simp
 obj:=λq h st b hb=>by
  obtain⟨h1,h2,⟨a,b',h3⟩,h4,h5⟩:=st
  simp only[bX,fK,vF] at hb
  rcases hb with rfl | rfl | rfl | rfl | rfl
  .exact⟨_,h1,λv e=>by have e:Data.fields _=Data.cell v:=e;cases e⟩
  .exact⟨_,h2,λv e=>by have e:Data.seq _ _=Data.cell v:=e;cases e⟩
  .exact⟨_,h3,λv e=>by have e:Data.seq _ _=Data.cell v:=e;cases e⟩
  .exact tU h4
  .exact tU h5
 keep:=λq h h' st k=>by
  obtain⟨h1,h2,⟨a,b',h3⟩,h4,h5⟩:=st
  exact⟨k z (by simp) _ h1,k ti (by simp) _ h2,⟨a,b',k to (by simp) _ h3⟩,tV h4 (k i (by simp)),tV h5 (k j (by simp))⟩
 item:=by
  intro X hP hw hK hc q pins s σ H E I hf st hg
  subst hP hw hK
  obtain⟨h1,h2,⟨a,b',h3⟩,h4,h5⟩:=st
  obtain⟨xs,ys,c,d,jr,z9,Ew,Ex⟩:=hg
  have WU:=(bZ.mp Ew).1
  have WV:=(bZ.mp Ex).1
  have hh:X.A.in1.handled=none:=I.ok.hd hc
  obtain⟨f1,P1,S1,D1,Ey,n1,L1,up1⟩:=tW I hh jr h4 (hf i (by simp))
  obtain⟨f2,P2,S2,D2,jP,n2,L3,L4⟩:=tW I hh z9 h5 (hf j (by simp))
  have Z2:pD z ti to i j f1 f2:=⟨Z.a1,Z.a2,Z.a3,Z.a4,Z.a6,Z.a7,Z.a8,n1 z (bj Z.a3) (hf z (by simp)),n1 to Z.a6 (hf to (by simp)),n1 j (bj Z.a8) (hf j (by simp)),n2 z (bj Z.a4) (hf z (by simp)),n2 to Z.a7 (hf to (by simp)),n2 i Z.a8 (hf i (by simp))⟩
  refine WD D1 D2 Z2 h1 h2 h3 Ey jP WU WV λh' tk u1 u2 p1 p2 g1 g2 g3 g4 g5 g6 kp=>?_
  have r1:=L1 _ _ _ p1 Ew
  have r2:=L3 _ _ _ p2 Ex
  have fr:H s.heap.objs.size=none:=I.fresh
  have fz:=hf z (by simp)
  have ft:=hf ti (by simp)
  have fo:=hf to (by simp)
  have fi:=hf i (by simp)
  have fj:=hf j (by simp)
  have kM:∀b o,b∉[z,to,i,j]->s.heap.get? b=some o->h'.get? b=some o:=λb o hb e=>kp b o (λv=>hb (by simp[v])) (λv=>hb (by simp[v])) (λv=>hb (by simp[v])) (λv=>hb (by simp[v])) e
  have wL:∀b o,H b=some o->b∉[z,to,i,j]:=λb o e hb=>by
   simp only[bX,fK,vF] at hb
   rcases hb with v | v | v | v
   .exact bq e fz.1 v
   .exact bq e fo.1 v
   .exact bq e fi.1 v
   .exact bq e fj.1 v
  have I1:Inv X pins σ (upd H s.heap.objs.size (.tup [c,d])) { s with heap:=h',toks:=tk }:=by
   refine I.yW (s':={ s with heap:=h',toks:=tk }) (ch:=[z,to,i,j]) rfl ⟨λb o e n _ hx=>kM b o hx e,λb o e n _ hx=>⟨o.slots,kM b o hx e⟩,
    λb o e n hx=>by rw[ak (bU (bE e))];exact n,λb o e hx=>⟨o,kM b o hx e⟩,
    λb ys e=>by rw[ak (bq e fr)];exact e,λb ob ys e=>by rw[ak (bq e fr)];exact e,λb ps e=>⟨#[],by rw[ak (bq e fr),e];simp⟩⟩ (λb o e=>?_) I.bare (λb hb=>?_)
   .by_cases hb:b=s.heap.objs.size
    .subst hb
     rw[au] at e
     cases e
     exact⟨by show 2<=sizeLine;decide,[u1,u2],.cons r1 (.cons r2 .nil),⟨_,g5,rfl,_,rfl⟩⟩
    .rw[ak hb] at e
     refine(I.aC b o e).kl (λc' v sZ e' =>?_) (λc' e'=>by rw[ak (bq e' fr)];exact e') λc' ys e'=>by rw[ak (bq e' fr)];exact e'
     rcases sZ with v' | v'
     .subst v'
      exact kM c' v (wL c' o e) e'
     .exact kM c' v (wL c' _ v') e'
   .simp only[bX,fK,vF] at hb
    rcases hb with v | v | v | v <;> subst v
    .exact⟨fz.2.2.2.1,fz.2.1,fz.2.2.2.2.1,fz.2.2.2.2.2⟩
    .exact⟨fo.2.2.2.1,fo.2.1,fo.2.2.2.2.1,fo.2.2.2.2.2⟩
    .exact⟨fi.2.2.2.1,fi.2.1,fi.2.2.2.2.1,fi.2.2.2.2.2⟩
    .exact⟨fj.2.2.2.1,fj.2.1,fj.2.2.2.2.1,fj.2.2.2.2.2⟩
  have lt:∀{b o},s.heap.get? b=some o->b≠s.heap.objs.size:=λe=>bU (bE e)
  have wM:∀b∈[z,ti,to,i,j],upd H s.heap.objs.size (.tup [c,d]) b=none:=λb hb=>by
   have ji:∃o,s.heap.get? b=some o:=by
    obtain⟨o4,e4,_⟩:=tU h4
    obtain⟨o5,e5,_⟩:=tU h5
    simp only[bX,fK,vF] at hb
    rcases hb with v | v | v | v | v <;> subst v
    .exact⟨_,h1⟩
    .exact⟨_,h2⟩
    .exact⟨_,h3⟩
    .exact⟨_,e4⟩
    .exact⟨_,e5⟩
   obtain⟨o,e⟩:=ji
   rw[ak (lt e)]
   exact(hf b hb).1
  have Ez:IsPair h' ti (.ref i) (.ref j):=kp ti _ Z.a1 WR WS WT h2
  refine⟨_,rfl,wpAny_letOwnedTupleGo_zip (s:={ s with heap:=h',toks:=tk }) g1 λkJ y1 sb=>?_⟩
  have I2:Inv X pins σ (upd H s.heap.objs.size (.tup [c,d])) { s with heap:=kJ,toks:=tk } :=
   Inv.turned (s:={ s with heap:=h',toks:=tk }) (h':=kJ) (t':=tk) (it:=z) I1 (λb o hb e=>(sb.2 b hb).trans e) (wM z (by simp)) fz.2.1 fz.2.2.2.1 fz.2.2.2.2.1 fz.2.2.2.2.2
  have Aa:∀b o,b≠z->h'.get? b=some o->kJ.get? b=some o:=λb o hb e=>(sb.2 b hb).trans e
  exact⟨.ref s.heap.objs.size,_,I2,rfl,⟨_,c,d,fr,rfl,λWW h=>by rw[LZ I h jr];exact Ew,λWW h=>by rw[LZ I h z9];exact Ex,rfl⟩,⟨y1,Aa _ _ Z.a1 Ez,⟨_,_,Aa _ _ Z.a2 g2⟩,tV (up1 _ _ g3) λo e=>Aa _ _ Z.a3 e,tV (L4 _ _ g4) λo e=>Aa _ _ Z.a4 e⟩,wM⟩
 done:=by
  intro X hP hw hK hc q pins s σ H E I hf st hg
  subst hP hw hK
  obtain⟨h1,h2,⟨a,b',h3⟩,h4,h5⟩:=st
  obtain⟨xs,ys,jr,z9,hg⟩:=hg
  have hh:X.A.in1.handled=none:=I.ok.hd hc
  obtain⟨f1,P1,S1,D1,Ey,n1,L1,up1⟩:=tW I hh jr h4 (hf i (by simp))
  obtain⟨f2,P2,S2,D2,jP,n2,L3,L4⟩:=tW I hh z9 h5 (hf j (by simp))
  have Z2:pD z ti to i j f1 f2:=⟨Z.a1,Z.a2,Z.a3,Z.a4,Z.a6,Z.a7,Z.a8,n1 z (bj Z.a3) (hf z (by simp)),n1 to Z.a6 (hf to (by simp)),n1 j (bj Z.a8) (hf j (by simp)),n2 z (bj Z.a4) (hf z (by simp)),n2 to Z.a7 (hf to (by simp)),n2 i Z.a8 (hf i (by simp))⟩
  have fz:=hf z (by simp)
  have fo:=hf to (by simp)
  have fi:=hf i (by simp)
  have fj:=hf j (by simp)
  refine WE D1 D2 Z2 h1 h2 h3 Ey jP (by omega) λh' tk kp=>⟨rfl,?_⟩
  have kM:∀b o,b∉[z,to,i,j]->s.heap.get? b=some o->h'.get? b=some o:=λb o hb e=>kp b o (λv=>hb (by simp[v])) (λv=>hb (by simp[v])) (λv=>hb (by simp[v])) (λv=>hb (by simp[v])) e
  have wL:∀b o,H b=some o->b∉[z,to,i,j]:=λb o e hb=>by
   simp only[bX,fK,vF] at hb
   rcases hb with v | v | v | v
   .exact bq e fz.1 v
   .exact bq e fo.1 v
   .exact bq e fi.1 v
   .exact bq e fj.1 v
  refine I.yW (s':={ s with heap:=h',toks:=tk }) (ch:=[z,to,i,j]) rfl ⟨λb o e n _ hx=>kM b o hx e,λb o e n _ hx=>⟨o.slots,kM b o hx e⟩,λb o e n hx=>n,λb o e hx=>⟨o,kM b o hx e⟩,
    λb ys e=>e,λb ob ys e=>e,λb ps e=>⟨#[],by rw[e];simp⟩⟩ (λb o e=>?_) I.bare (λb hb=>?_)
  .refine(I.aC b o e).kl (λc' v sZ e' =>?_) (λc' e'=>e') λc' ys e'=>e'
   rcases sZ with v' | v'
   .subst v'
    exact kM c' v (wL c' o e) e'
   .exact kM c' v (wL c' _ v') e'
  .simp only[bX,fK,vF] at hb
   rcases hb with v | v | v | v <;> subst v
   .exact⟨fz.2.2.2.1,fz.2.1,fz.2.2.2.2.1,fz.2.2.2.2.2⟩
   .exact⟨fo.2.2.2.1,fo.2.1,fo.2.2.2.2.1,fo.2.2.2.2.2⟩
   .exact⟨fi.2.2.2.1,fi.2.1,fi.2.2.2.2.1,fi.2.2.2.2.2⟩
   .exact⟨fj.2.2.2.1,fj.2.1,fj.2.2.2.2.1,fj.2.2.2.2.2⟩
 self:=λ_ _ _ _ _ st h=>wpAny_pyIter_zip st.1 h
def WX(k1 k2:ZK)(K:PySem.W.Frag)(ta:TA):TI:=λσ H R=>ta σ H λvs H1=>∃a b,vs=[a,b]/\(∃xs,zq k1 K H1 a xs)/\(∃ys,zq k2 K H1 b ys)/\R (wK k1 k2 K a b) H1
theorem Ab{X:Cx}(k1 k2:ZK){elts:List Expr}{k:Nat}{mY:Pos}{a b:Expr}{ta:TA}{p pos:Pos}(hg:Gl X "zip")(hm:X.mg "zip"=none)(ha:PA X [a,b] ta)(hs:starEach [a,b] X.env=(false,eval a X.env)::starEach [b] X.env:=by rfl)(hpl:(backTo pos (starEach [b] X.env)).any (·.1)=false:=by rfl) :
  PI X (.Tuple elts k mY) (.Call (.Name "zip" p) [a,b] [] pos) (WX k1 k2 X.K ta):=by
 intro pins s σ H R I h
 refine Call_ (oP I hg hm WJ (Cy (aB (ha pos pins s σ H _ I h) λus s1 ⟨vs,H1,I1,r1,q1⟩=>?_) hs hpl))
 obtain⟨ta,tb,e,⟨xs,hx⟩,⟨ys,hy⟩,q⟩:=q1
 subst e
 obtain⟨u1,u2,rfl,ru,rv⟩:=vals2 r1
 obtain⟨o1,K1,t1,a1,a2,a3,a4,a5⟩:=L0 I1 hx ru
 obtain⟨o2,K2,t2,b1,b2,b3,b4,b5⟩:=L0 I1 hy rv
 refine WH a1 b1 a2 (b3 _) a4 b4 λh' g1 g2 g3 g4 g5 kp=>?_
 have I2:Inv X pins σ H1 { s1 with heap:=h' }:=I1.kept (t':=s1.toks) kp
 refine wpAny_pyIter_zip (s:={ s1 with heap:=h' }) g1 ?_
 refine⟨s1.heap.objs.size+4,[s1.heap.objs.size+4,s1.heap.objs.size+2,s1.heap.objs.size+3,s1.heap.objs.size,s1.heap.objs.size+1],_,_,H1,rfl,I2,
  WQ k1 k2 ta tb t1 t2 _ _ _ _ _ (zZ s1.heap.objs.size).1 (zZ s1.heap.objs.size).2.1 (zZ s1.heap.objs.size).2.2.1 (zZ s1.heap.objs.size).2.2.2,
  ⟨g1,g2,⟨_,_,g3⟩,a5 _ _ g4,b5 _ _ g5⟩,λb hb=>?_,q⟩
 have nB:s1.heap.objs.size<=b:=by
  simp only[bX,fK,vF] at hb
  rcases hb with v | v | v | v | v <;> rw[v]
  .exact yL _ _
  .exact yL _ _
  .exact yL _ _
  .exact aQ _
  .exact yL _ _
 exact I1.jO nB (I1.aC.fresh nB)
theorem Ac{K:PySem.W.Frag}{k1 k2:ZK}{ta tb:V}{xs ys:List V}{g:TG}{L5:TS}{D:Ends}{σ:St}{H:Hp}(Pv:Nat->St->Hp->Prop)(h0:Pv 0 σ H)(hl:∀i σ H,i<=min xs.length ys.length->Pv i σ H->zq k1 K H ta xs/\zq k2 K H tb ys)
  (hs:∀i x y p σ H,xs[i]? = some x->ys[i]? = some y->Pv i σ H->H p=none->g (.ref p) σ (upd H p (.tup [x,y])) λσ2 H2=>L5 { D with nx:=Pv (i+1),ct:=Pv (i+1),bk:=D.nx } σ2 H2) (hd:∀σ H,Pv (min xs.length ys.length) σ H->D.nx σ H) :
  ∃W:Nat->Nat->St->Hp->Prop,(∃m,W 0 m σ H)/\∀i m σ H,W i m σ H->
   ((wK k1 k2 K ta tb).stop i H/\D.nx σ H)\/((wK k1 k2 K ta tb).go i H/\∃N:St->Hp->Prop,(∀σ' H',N σ' H'->∃m',m'<m/\W (i+1) m' σ' H')/\∀v H',(wK k1 k2 K ta tb).gi i H v H'->g v σ H' λσ2 H2=>L5 { D with nx:=N,ct:=N,bk:=D.nx } σ2 H2):=by
 refine⟨λi m σ H=>m=min xs.length ys.length - i/\i<=min xs.length ys.length/\Pv i σ H,⟨_,rfl,bx _,h0⟩,?_⟩
 rintro i m σ H ⟨rfl,hi,p⟩
 obtain⟨q1,q2⟩:=hl i σ H hi p
 by_cases aN:i<min xs.length ys.length
 .have e1:=aU (l:=xs) (i:=i) (by omega)
  have e2:=aU (l:=ys) (i:=i) (by omega)
  refine .inr ⟨⟨xs,ys,_,_,q1,q2,e1,e2⟩,Pv (i+1),λσ' H' p'=>⟨min xs.length ys.length - (i+1),by omega,rfl,aN,p'⟩,λv H' yy=>?_⟩
  obtain⟨pp,x,y,hn,rfl,f1,f2,rfl⟩:=yy
  exact hs i x y pp σ H (f1 xs q1) (f2 ys q2) p hn
 .have e:i=min xs.length ys.length:=by omega
  subst e
  exact .inl ⟨⟨xs,ys,q1,q2,rfl⟩,hd σ H p⟩
set_option maxRecDepth 100000 in
theorem WY(l:Addr)(items:Array Value)(n:Nat)(EA:Option Addr)(sl:Array (Option Value)) :
  Meets (Builtin.«enumerate.__new__» ⟨[.type "enumerate",.ref l],[]⟩) (λ_ R s=>s.heap.get? l=some ⟨.type "tuple",EA,.seq items n,sl⟩/\
   R (.ok (.ret (.ref (s.heap.push ⟨.type "tuple_iterator",none,.fields #[.ref l,.int 0 0],#[]⟩).objs.size)))
    { s with heap:=(s.heap.push ⟨.type "tuple_iterator",none,.fields #[.ref l,.int 0 0],#[]⟩).push ⟨.type "enumerate",none,.fields #[.none,.bool false,.ref s.heap.objs.size,rawInt 0,.none,.none],#[]⟩ }):=
 .of_wp λprog w A R s h=>by
  obtain⟨hp,g,d,tk,os⟩:=s;obtain⟨hl,h⟩:=h
  have WZ:=sub_enumerate
  have hL:Heap.IsTuple (Shared.heap ⟨hp,g,d,tk,os⟩) l items:=⟨_,hl,rfl,n,rfl⟩
  wp_walk using RX hl
  refine wpAny_stack_any λst=>aJ ?_
  split
  .rename_i c _ _ _ _ _
   cases(c==Value.type "enumerate") <;> (wp_walk using RX hl,Jk hL;exact⟨_,rfl,h⟩)
  .wp_walk using RX hl,Jk hL
   exact⟨_,rfl,h⟩
theorem W0{prog:Program}{w:World}{A:Around}{E:Value->Shared->Prop}{s:Shared}{l:Addr}{items:Array Value}{Q:Value->Shared->Prop}(hL:IsTup s.heap l items)
  (h:∀h',IsEnum h' (s.heap.objs.size+1) s.heap.objs.size 0 .none->h'.IsTupleIter s.heap.objs.size l 0->h'.objs.size=s.heap.objs.size+2->(∀b o,s.heap.get? b=some o->h'.get? b=some o)->Q (.ref (s.heap.objs.size+1)) { s with heap:=h' }) :
  wpAny (model prog w) A (call (.type "enumerate") [.ref l]) Q E s:=by
 obtain⟨⟨c,EA,dt,sl⟩,hl,hc,n,hd⟩:=hL
 have hc:c = .type "tuple":=hc
 have hd:dt = .seq items n:=hd
 subst hc hd
 refine callType_new F.called_enumerate (by decide) (F.typeCall_enumerate_1 _) (F.newCall_enumerate_1 _) (λobj=>F.args_object_init_2 obj _) F.entry_enumerate_new (WY l items n EA sl) ⟨hl,?_⟩
 have hz:(s.heap.push ⟨.type "tuple_iterator",none,.fields #[.ref l,.int 0 0],#[]⟩).objs.size=s.heap.objs.size+1:=kh ..
 show _/\_
 rw[hz]
 have he:IsEnum ((s.heap.push ⟨.type "tuple_iterator",none,.fields #[.ref l,.int 0 0],#[]⟩).push ⟨.type "enumerate",none,.fields #[.none,.bool false,.ref s.heap.objs.size,rawInt 0,.none,.none],#[]⟩) (s.heap.objs.size+1) s.heap.objs.size 0 .none:=by
  have e:=cw (s.heap.push ⟨.type "tuple_iterator",none,.fields #[.ref l,.int 0 0],#[]⟩) (o:=⟨.type "enumerate",none,.fields #[.none,.bool false,.ref s.heap.objs.size,rawInt 0,.none,.none],#[]⟩) rfl
  rw[hz] at e;exact e
 exact⟨⟨_,he,rfl⟩,h _ he ⟨_,bw _ (cw _ rfl),rfl,rfl⟩ (by rw[kh,hz]) λb o x=>bw _ (bw _ x)⟩
noncomputable def pE(k:ZK)(K:PySem.W.Frag)(va:V)(xs:List V):It:=
 ⟨λi H=>zq k K H va xs/\i<xs.length,λi H x H' =>∃p v,H p=none/\x = .ref p/\xs[i]? = some v/\H'=upd H p (.tup [.int i,v]),λi H=>zq k K H va xs/\i=xs.length⟩
theorem W2{P:Program}{w:World}{K:PySem.W.Frag}{elts:List Expr}{kk:Nat}{pos:Pos}(k:ZK)(va:V)(t:Tok)(it e:Addr)(xs:List V)(pF:e≠it) :
  Turn P w K (.Tuple elts kk pos) (pE k K va xs) [e,it] e (λi h=>(∃old,IsEnum h e it i old)/\lT k va t h it i) where
 mem:=by simp
 obj:=λi h st b hb=>by
  obtain⟨⟨old,he⟩,hz⟩:=st
  rcases bX.mp hb with z | z
  .subst z
   exact⟨_,he,λv z=>by
    have z':Data.fields _=Data.cell v:=z
    cases z'⟩
  .have z:b=it:=by simpa using z
   subst z
   exact tU hz
 keep:=λi h h' st kk=>by
  obtain⟨⟨old,he⟩,hit⟩:=st
  exact⟨⟨old,kk e (by simp) _ he⟩,tV hit λo q=>kk it (by simp) o q⟩
 item:=by
  intro X hP hw hK hc i pins s σ H E I hf st hg
  subst hP hw hK
  obtain⟨⟨old,he⟩,hit⟩:=st
  obtain⟨hq,aN⟩:=hg
  have fe:=hf e (by simp)
  have fi:=hf it (by simp)
  obtain⟨ff,PP,SS,D1,d1,nf,rel,zi⟩:=tW I (I.ok.hd hc) hq hit fi
  refine wpAny_pyNext_enum_itemD D1 he d1 aN pF (nf e pF fe) λv h' tk W3 ho rn hT hsz hk=>?_
  obtain⟨c,ib⟩:∃c,xs[i]? = some c:=⟨_,aU aN⟩
  have ru:=rel i v c W3 ib
  have fr:H s.heap.objs.size=none:=I.fresh
  have neT:∀b o,H b=some o->b≠e/\b≠it:=λb o q=>⟨bq q fe.1,bq q fi.1⟩
  have I1:Inv X pins σ (upd H s.heap.objs.size (.tup [.int i,c])) { s with heap:=h',toks:=tk+1 }:=by
   refine I.yW (s':={ s with heap:=h',toks:=tk+1 }) (ch:=[e,it]) rfl ⟨λb o q n _ hx=>hk b o (λz=>hx (by simp[z])) (λz=>hx (by simp[z])) q,λb o q n _ hx=>⟨o.slots,hk b o (λz=>hx (by simp[z])) (λz=>hx (by simp[z])) q⟩,
    λb o q n hx=>by rw[ak (bU (bE q))];exact n,λb o q hx=>⟨o,hk b o (λz=>hx (by simp[z])) (λz=>hx (by simp[z])) q⟩,
    λb ys q=>by rw[ak (bq q fr)];exact q,λb ob ys q=>by rw[ak (bq q fr)];exact q,λb ps q=>⟨#[],by rw[ak (bq q fr),q];simp⟩⟩ (λb o q=>?_) I.bare (λb hb=>?_)
   .by_cases hb:b=s.heap.objs.size
    .subst hb
     rw[au] at q
     cases q
     exact⟨by show 2<=sizeLine;decide,[.int i tk,v],.cons ⟨tk,rfl⟩ (.cons ru .nil),⟨_,hT,rfl,_,rfl⟩⟩
    .rw[ak hb] at q
     refine(I.aC b o q).kl (λc v hc q' =>?_) (λc q'=>by rw[ak (bq q' fr)];exact q') λc ys q'=>by rw[ak (bq q' fr)];exact q'
     rcases hc with z | z
     .subst z
      exact hk c v (neT c o q).1 (neT c o q).2 q'
     .exact hk c v (neT c _ z).1 (neT c _ z).2 q'
   .have z:b=e\/b=it:=by simpa using hb
    rcases z with z | z
    .subst z
     exact⟨fe.2.2.2.1,fe.2.1,fe.2.2.2.2.1,fe.2.2.2.2.2⟩
    .subst z
     exact⟨fi.2.2.2.1,fi.2.1,fi.2.2.2.2.1,fi.2.2.2.2.2⟩
  have wM:∀b∈[e,it],upd H s.heap.objs.size (.tup [.int i,c]) b=none:=λb hb=>by
   have z:b=e\/b=it:=by simpa using hb
   have tX:b<s.heap.objs.size:=by
    rcases z with z | z
    .subst z;exact bE he
    .subst z;obtain⟨o,q,_⟩:=tU hit;exact bE q
   rw[ak (bU tX)]
   rcases z with z | z
   .subst z;exact fe.1
   .subst z;exact fi.1
  refine⟨_,rfl,wpAny_letOwnedTupleGo_enum (s:={ s with heap:=h',toks:=tk+1 }) ho λh2 W4 vX=>?_⟩
  have I2:Inv X pins σ (upd H s.heap.objs.size (.tup [.int i,c])) { s with heap:=h2,toks:=tk+1 } :=
   Inv.turned (s:={ s with heap:=h',toks:=tk+1 }) (h':=h2) (t':=tk+1) (it:=e) I1 (λb o hb q=>(vX.2 b hb).trans q) (wM e (by simp)) fe.2.1 fe.2.2.2.1 fe.2.2.2.2.1 fe.2.2.2.2.2
  refine⟨.ref s.heap.objs.size,_,I2,rfl,⟨_,_,fr,rfl,ib,rfl⟩,⟨⟨v,?_⟩,tV (zi _ _ rn) λo q=>(vX.2 it (bj pF)).trans q⟩,wM⟩
  have e1:((i+1:Nat):Int)=(i:Int)+1:=by omega
  rw[e1]
  exact W4
 done:=by
  intro X hP hw hK hc i pins s σ H E I hf st hg
  subst hP hw hK
  obtain⟨⟨old,he⟩,hit⟩:=st
  obtain⟨hq,ei⟩:=hg
  have fi:=hf it (by simp)
  obtain⟨ff,PP,SS,D1,d1,nf,rel,zi⟩:=tW I (I.ok.hd hc) hq hit fi
  refine wpAny_pyNext_enum_endD D1 he (by rw[<-ei];exact d1) λh' eb=>⟨rfl,?_⟩
  exact I.turned (t':=s.toks) (it:=it) (λb o hb q=>eb b o hb q) fi.1 fi.2.1 fi.2.2.2.1 fi.2.2.2.2.1 fi.2.2.2.2.2
 self:=λ_ _ _ _ _ st h=>by
  obtain⟨⟨old,he⟩,_⟩:=st
  exact wpAny_pyIter_enum he h
theorem W5{X:Cx}{pins:List (Addr×Obj)}{σ:St}{H:Hp}{s:Shared}{k:ZK}{v:V}{u:Value}{xs:List V}(I:Inv X pins σ H s)(hq:zq k X.K H v xs)(r:RelV v u) :
  ∃t:Tok,∀(A:Around) (E:Value->Shared->Prop) (Q:Value->Shared->Prop),(∀h',IsEnum h' (s.heap.objs.size+1) s.heap.objs.size 0 .none->lT k v t h' s.heap.objs.size 0->(∀b o,s.heap.get? b=some o->h'.get? b=some o)->Q (.ref (s.heap.objs.size+1)) { s with heap:=h' })->
   wpAny (model X.prog X.w) A (call (.type "enumerate") [u]) Q E s:=by
 cases k with
 |L=>
  obtain⟨a,rfl,hq⟩:=hq
  cases r
  obtain⟨ia,ra,pa,_⟩:=I.list hq
  exact⟨0,λA E Q h=>call_enumerate_list pa.isList λh' he lU _ hk=>h h' he ⟨a,rfl,lU⟩ hk⟩
 |T=>
  obtain⟨a,rfl,hq⟩:=hq
  cases r
  obtain⟨ia,ra,pa,_⟩:=I.tuple hq
  exact⟨0,λA E Q h=>W0 pa λh' he lU _ hk=>h h' he ⟨a,rfl,lU⟩ hk⟩
 |S=>
  obtain⟨x,rfl,_⟩:=hq
  obtain⟨t,rfl⟩:=r
  exact⟨t,λA E Q h=>call_enumerate_str λh' he lU _ hk=>h h' he ⟨x,rfl,lU⟩ hk⟩
theorem EB{X:Cx}(k:ZK){elts:List Expr}{kk:Nat}{mY:Pos}{a:Expr}{ta:TA}{p pos:Pos}{W:List V->Hp->(It->Hp->Prop)->Prop}(hW:∀vs H R,W vs H R->∃va xs,vs=[va]/\zq k X.K H va xs/\R (pE k X.K va xs) H)(hg:Gl X "enumerate")(hm:X.mg "enumerate"=none)(ha:PA X [a] ta)(hs:starEach [a] X.env=[(false,eval a X.env)]:=by rfl) :
  PI X (.Tuple elts kk mY) (.Call (.Name "enumerate" p) [a] [] pos) (λσ H R=>ta σ H λvs H1=>W vs H1 R):=by
 intro pins s σ H R I h
 refine Call_ (oP I hg hm boot_enumerate (Cy (aB (ha pos pins s σ H _ I h) λus s1 ⟨vs,H1,I1,r1,q1⟩=>?_) hs rfl))
 obtain⟨va,xs,e,hq,q⟩:=hW _ _ _ q1
 subst e
 obtain⟨u,rfl,ru⟩:=vals1 r1
 obtain⟨t,hz⟩:=W5 I1 hq ru
 refine hz _ _ _ λh' he lU hk=>?_
 have I2:Inv X pins σ H1 { s1 with heap:=h' }:=I1.kept (t':=s1.toks) hk
 refine wpAny_pyIter_enum (s:={ s1 with heap:=h' }) he ?_
 refine⟨s1.heap.objs.size+1,[s1.heap.objs.size+1,s1.heap.objs.size],_,_,H1,rfl,I2,W2 k va t s1.heap.objs.size (s1.heap.objs.size+1) xs (Nat.succ_ne_self _),⟨⟨.none,he⟩,lU⟩,λb hb=>?_,q⟩
 have z:b=s1.heap.objs.size+1\/b=s1.heap.objs.size:=by simpa using hb
 rcases z with z | z
 .subst z;exact I1.jO (gC _) (I1.aC.fresh (gC _))
 .subst z;exact I1.jO (aQ _) I1.fresh
theorem EC{k:ZK}{K:PySem.W.Frag}{va:V}{xs:List V}{g:TG}{tb:TS}{D:Ends}{σ:St}{H:Hp}(Pv:Nat->St->Hp->Prop)(h0:Pv 0 σ H)(hl:∀i σ H,i<=xs.length->Pv i σ H->zq k K H va xs)
  (hs:∀i x p σ H,xs[i]? = some x->Pv i σ H->H p=none->g (.ref p) σ (upd H p (.tup [.int i,x])) λσ2 H2=>tb { D with nx:=Pv (i+1),ct:=Pv (i+1),bk:=D.nx } σ2 H2) (hd:∀σ H,Pv xs.length σ H->D.nx σ H) :
  ∃W:Nat->Nat->St->Hp->Prop,(∃m,W 0 m σ H)/\∀i m σ H,W i m σ H->
   ((pE k K va xs).stop i H/\D.nx σ H)\/((pE k K va xs).go i H/\∃N:St->Hp->Prop,(∀σ' H',N σ' H'->∃m',m'<m/\W (i+1) m' σ' H')/\∀x H',(pE k K va xs).gi i H x H'->g x σ H' λσ2 H2=>tb { D with nx:=N,ct:=N,bk:=D.nx } σ2 H2):=by
 refine⟨λi m σ H=>m=xs.length - i/\i<=xs.length/\Pv i σ H,⟨xs.length,by simp,bx _,h0⟩,?_⟩
 rintro i m σ H ⟨rfl,hi,p⟩
 have q:=hl i σ H hi p
 by_cases aN:i<xs.length
 .refine .inr ⟨⟨q,aN⟩,Pv (i+1),λσ' H' p'=>⟨xs.length - (i+1),by omega,rfl,aN,p'⟩,λx H' y=>?_⟩
  obtain⟨pp,v,hn,e1,e2,e3⟩:=y
  subst e1 e3
  exact hs i v pp σ H e2 p hn
 .have e:i=xs.length:=by omega
  subst e
  exact .inl ⟨⟨q,rfl⟩,hd σ H p⟩
noncomputable abbrev Ad(K:PySem.W.Frag)(a:Addr)(xs:List V):It:=pE .L K (.ref a) xs
noncomputable abbrev ED(K:PySem.W.Frag)(a:Addr)(xs:List V):It:=pE .T K (.ref a) xs
noncomputable abbrev EE(K:PySem.W.Frag)(x:Str):It:=pE .S K (.str x) (x.cps.toList.map λc=>V.str ⟨#[c]⟩)
def W6(K:PySem.W.Frag)(ta:TA):TI:=λσ H R=>ta σ H λvs H1=>∃a xs,vs=[.ref a]/\aj K H1 a xs/\R (Ad K a xs) H1
def W7(K:PySem.W.Frag)(ta:TA):TI:=λσ H R=>ta σ H λvs H1=>∃a xs,vs=[.ref a]/\aw K H1 a xs/\R (ED K a xs) H1
def W8(K:PySem.W.Frag)(ta:TA):TI:=λσ H R=>ta σ H λvs H1=>∃x,vs=[.str x]/\R (EE K x) H1
section
variable{X:Cx}{elts:List Expr}{kk:Nat}{mY:Pos}{a:Expr}{ta:TA}{p pos:Pos}
theorem EF(hg:Gl X "enumerate")(hm:X.mg "enumerate"=none)(ha:PA X [a] ta)(hs:starEach [a] X.env=[(false,eval a X.env)]:=by rfl):PI X (.Tuple elts kk mY) (.Call (.Name "enumerate" p) [a] [] pos) (W6 X.K ta):=
 EB .L (W:=λvs H1 R=>∃a xs,vs=[.ref a]/\aj X.K H1 a xs/\R (Ad X.K a xs) H1) (λ_ _ _ ⟨a,xs,e,q,r⟩=>⟨.ref a,xs,e,⟨a,rfl,q⟩,r⟩) hg hm ha hs
theorem W9(hg:Gl X "enumerate")(hm:X.mg "enumerate"=none)(ha:PA X [a] ta)(hs:starEach [a] X.env=[(false,eval a X.env)]:=by rfl):PI X (.Tuple elts kk mY) (.Call (.Name "enumerate" p) [a] [] pos) (W7 X.K ta):=
 EB .T (W:=λvs H1 R=>∃a xs,vs=[.ref a]/\aw X.K H1 a xs/\R (ED X.K a xs) H1) (λ_ _ _ ⟨a,xs,e,q,r⟩=>⟨.ref a,xs,e,⟨a,rfl,q⟩,r⟩) hg hm ha hs
theorem Xa(hg:Gl X "enumerate")(hm:X.mg "enumerate"=none)(ha:PA X [a] ta)(hs:starEach [a] X.env=[(false,eval a X.env)]:=by rfl):PI X (.Tuple elts kk mY) (.Call (.Name "enumerate" p) [a] [] pos) (W8 X.K ta):=
 EB .S (W:=λvs H1 R=>∃x,vs=[.str x]/\R (EE X.K x) H1) (λ_ _ _ ⟨x,e,r⟩=>⟨.str x,_,e,⟨x,rfl,rfl⟩,r⟩) hg hm ha hs
end
section
variable{K:PySem.W.Frag}{a:Addr}{xs:List V}{g:TG}{tb:TS}{D:Ends}{σ:St}{H:Hp}
def EG(J:It)(g:TG)(tb:TS)(D:Ends)(σ:St)(H:Hp):Prop := ∃W:Nat->Nat->St->Hp->Prop,(∃m,W 0 m σ H)/\∀i m σ H,W i m σ H->
   (J.stop i H/\D.nx σ H)\/(J.go i H/\∃N:St->Hp->Prop,(∀σ' H',N σ' H'->∃m',m'<m/\W (i+1) m' σ' H')/\∀x H',J.gi i H x H'->g x σ H' λσ2 H2=>tb { D with nx:=N,ct:=N,bk:=D.nx } σ2 H2)
theorem L6(Pv:Nat->St->Hp->Prop)(h0:Pv 0 σ H)(hl:∀i σ H,i<=xs.length->Pv i σ H->aj K H a xs)
  (hs:∀i x p σ H,xs[i]? = some x->Pv i σ H->H p=none->g (.ref p) σ (upd H p (.tup [.int i,x])) λσ2 H2=>tb { D with nx:=Pv (i+1),ct:=Pv (i+1),bk:=D.nx } σ2 H2) (hd:∀σ H,Pv xs.length σ H->D.nx σ H):EG (Ad K a xs) g tb D σ H:=
 EC Pv h0 (λi σ H hi p=>⟨a,rfl,hl i σ H hi p⟩) hs hd
theorem Xb(Pv:Nat->St->Hp->Prop)(h0:Pv 0 σ H)(hl:∀i σ H,i<=xs.length->Pv i σ H->aw K H a xs)
  (hs:∀i x p σ H,xs[i]? = some x->Pv i σ H->H p=none->g (.ref p) σ (upd H p (.tup [.int i,x])) λσ2 H2=>tb { D with nx:=Pv (i+1),ct:=Pv (i+1),bk:=D.nx } σ2 H2) (hd:∀σ H,Pv xs.length σ H->D.nx σ H):EG (ED K a xs) g tb D σ H:=
 EC Pv h0 (λi σ H hi p=>⟨a,rfl,hl i σ H hi p⟩) hs hd
theorem Xc{x:Str}(Pv:Nat->St->Hp->Prop)(h0:Pv 0 σ H)
  (hs:∀i c p σ H,x.cps.toList[i]? = some c->Pv i σ H->H p=none->g (.ref p) σ (upd H p (.tup [.int i,.str ⟨#[c]⟩])) λσ2 H2=>tb { D with nx:=Pv (i+1),ct:=Pv (i+1),bk:=D.nx } σ2 H2) (hd:∀σ H,Pv x.cps.size σ H->D.nx σ H):EG (EE K x) g tb D σ H:=
 EC Pv h0 (λ_ _ _ _ _=>⟨x,rfl,rfl⟩) (λi y p σ H hy pv hn=>by
  rw[bb] at hy
  obtain⟨c,hc,rfl⟩:=iE.mp hy
  exact hs i c p σ H hc pv hn) (λσ H h=>hd σ H (by rw[ar,fm] at h;exact h))
end
theorem Xd{K K':PySem.W.Frag}{a:Addr}{xs:List V}{js:List Nat}{tt:TT}{te:TE}{σ:St}{H1:Hp}{Q:VK}(hn:xs.length<=10000)(ha:aj K H1 a xs)(p:Nat->Bool)(F:Addr->Nat->V->Hp->Prop)
  (mono:∀D i y H H',H1 D=none->(∃o,H D=some (.lst o))->(∀b o,b≠D->H b=some o->H' b=some o)->F D i y H->F D i y H')
  (hs:∀D i x H (Z0:Hp->Prop) (Z:V->Hp->Prop),H1 D=none->xs[i]? = some x->af H1 H->(∃o,H D=some (.lst o))->(∀H2,af H H2->p i=false->Z0 H2)->(∀y H2,af H H2->p i=true->F D i y H2->Z y H2)->
   tt (some (.int i)::some x::eX js σ) H λb H2=>if b=true then te (some (.int i)::some x::eX js σ) H2 Z else Z0 H2)
  (hd:∀D ys H,H1 D=none->H D=some (.lst ys)->af H1 H->Paired (λi y=>F D i y H) ((List.range xs.length).filter p) ys->Q (.ref D) H):D4 K' js tt te σ (Ad K a xs) H1 Q:=by
 intro D hD
 have hz:10000<sizeLine:=by decide
 refine⟨λi m H=>m=xs.length - i/\i<=xs.length/\∃ys,H D=some (.lst ys)/\af H1 H/\Paired (λi y=>F D i y H) ((List.range i).filter p) ys,⟨xs.length,by simp,bx _,[],au,af.upd hD,.nil⟩,?_⟩
 rintro i m H ⟨rfl,hi,ys,bB,sm,pr⟩
 have q:=sm.seq ha
 by_cases aN:i<xs.length
 .refine .inr ⟨⟨⟨a,rfl,q⟩,aN⟩,λx H' y=>?_⟩
  obtain⟨pp,v,wN,rfl,yy,rfl⟩:=y
  have jL:List.range (i+1)=List.range i++[i]:=jG
  have ln:ys.length<=i:=by
   have h1:=pr.length
   have h2:((List.range i).filter p).length<=(List.range i).length:=gD _ _
   rw[iH] at h2
   omega
  have sp:af H (upd H pp (.tup [.int i,v])):=af.upd wN
  refine⟨pp,.int i,v,rfl,aw.of au,hs D i v _ _ _ hD yy (sm.trans sp) ⟨ys,sp _ _ bB⟩ (λH2 s2 hp=>?_) (λz H2 s2 hp hF=>?_)⟩
  .refine⟨xs.length - (i+1),by omega,rfl,aN,ys,s2 _ _ (sp _ _ bB),sm.trans (sp.trans s2),?_⟩
   rw[jL,jH,cR,aq (by rw[hp];exact bW),oC,fX]
   exact Paired.bI pr λj z f=>mono D j z H H2 hD ⟨ys,bB⟩ (λb o _ e=>s2 b o (sp b o e)) f
  .refine⟨ys,s2 _ _ (sp _ _ bB),by omega,xs.length - (i+1),by omega,rfl,aN,ys++[z],au,(sm.trans (sp.trans s2)).jX hD,?_⟩
   have up:∀b o,b≠D->H2 b=some o->upd H2 D (.lst (ys++[z])) b=some o:=λb o hb e=>by rw[ak hb];exact e
   rw[jL,jH,cR,ax hp,oC]
   refine mN (Paired.bI pr λj z' f=>?_) (mono D i z H2 _ hD ⟨ys,s2 _ _ (sp _ _ bB)⟩ up hF)
   exact mono D j z' H2 _ hD ⟨ys,s2 _ _ (sp _ _ bB)⟩ up (mono D j z' H H2 hD ⟨ys,bB⟩ (λb o _ e=>s2 b o (sp b o e)) f)
 .have e:i=xs.length:=by omega
  subst e
  exact .inl ⟨⟨⟨a,rfl,q⟩,rfl⟩,hd D ys H hD bB sm pr⟩
structure GD(K:PySem.W.Frag)(w:World)(mg:Str->Option Value)(x:Str)(kvs:List (Key×V)):Prop where
 ex:∃(a:Addr) (vs:List (Key×Value)),mg x=some (.ref a)/\(a==sysModules)=false/\KV kvs vs/\∀(P:Program) (h:Heap),K.In h->h.DictOf (bN P w) a vs
theorem Ae{X:Cx}{C:Addr}{x:Str}{p pos:Pos}{e:Expr}{es:List Expr}{t:TA}{sp:Sp}{k:Nat}(N:Nw X.prog X.w X.K X.mg X.base x C k sp)(hr:b7 (k+1) X.A)(hg:Gl X x)(ha:PA X (e::es) t)(gk:(x==("__debug__":Str))=false:=by decide)
  (he:starEach (e::es) X.env=(false,eval e X.env)::starEach es X.env:=by rfl) (hpl:(backTo pos (starEach es X.env)).any (·.1)=false:=by rfl):PE X (.Call (.Name x p) (e::es) [] pos) (zh C sp [] E0 t):=by
 obtain⟨f,fd,ps,M,G,hb,hm⟩:=N.ex
 exact T8 M G hr hg hm hb .nil wm ha gk he hpl
structure FnD(P:Program)(w:World)(K:PySem.W.Frag)(mg:Str->Option Value)(base:Heap)(x:Str)(k:Nat)(sp:Sp)(cX:List V):Prop where
 ex:∃(f:Addr) (fd:FuncData) (ps:List Str) (ds:List Value),aM P w K mg base aR k f fd ps sp/\mg x=some (.ref f)/\PySem.W.keepIn K (.ref f)=true/\Binds K fd ps ds/\Vals cX ds
noncomputable def Af:Expr->Bool
 |.Starred .. =>true
 |_=>false
theorem de{e:Expr}{es:List Expr}{env:Env}(h:Af e=false):starEach (e::es) env=(false,eval e env)::starEach es env:=by
 cases e <;> first | rfl | cases h
theorem wO:∀{es:List Expr}{env:Env}{pos:Pos},es.all (λe=>!Af e)=true->(backTo pos (starEach es env)).any (·.1)=false
 |[],_,_,_=>rfl
 |e::es,env,pos,h=>by
  rw[yB,dI] at h
  rw[de (by cases hs:Af e with | false=>rfl | true=>rw[hs] at h;cases h.1)]
  have ih:=wO (es:=es) (env:=env) (pos:=pos) h.2
  unfold backTo at ih ⊢
  rw[bL,sM,ih]
  rfl
theorem Xe{X:Cx}{a b:Int}{j j' k:Nat}{p p' pos:Pos}:PE X (.Tuple [.Constant (.int a) j p,.Constant (.int b) j' p'] k pos) (Dr (o8 (tC (.int a)) (o8 (tC (.int b)) lK))):=
 fB (ab aE (ab aE ai (hs:=de rfl)) (hs:=de rfl))
structure LE(X:Cx)(e:Expr)(t:TE):Prop where
 h:PE X e t
structure LA(X:Cx)(es:List Expr)(t:TA):Prop where
 h:PA X es t
structure LS(X:Cx)(st:Stmt)(t:TS):Prop where
 h:PS X st t
structure L7(X:Cx)(st:List Stmt)(t:TS):Prop where
 h:gc X st t
section
variable{X:Cx}{e a b:Expr}{es:List Expr}{te ta tb:TE}{t:TA}{pos:Pos}
theorem Xf:LA X [] lK:=⟨ai⟩
theorem rp(ha:LE X e te)(hr:LA X es t)(h:Af e=false):LA X (e::es) (o8 te t):=⟨ab ha.h hr.h (de h)⟩
theorem Xg(h:LA X es t):LE X (.List es pos) (Kx t):=⟨dX h.h⟩
theorem rq{i k:Int}{j j' n:Nat}{p p':Pos}:LE X (.Tuple [.Constant (.int i) j p,.Constant (.int k) j' p'] n pos) (Dr (o8 (tC (.int i)) (o8 (tC (.int k)) lK))):=⟨Xe⟩
theorem Xh{r:R2}(hr:tL X r)(ha:LE X a ta)(hb:PE X b tb)(hs:DA b):LE X (.Subscript a b pos) (oV r ta tb):=⟨aX hr ha.h hb hs⟩
theorem Xi{tg:Expr}{g:TG}(he:LE X e te)(hg:PG X tg g)(hs:swapsWithSole [tg] e pos.line X.env=pure false:=by rfl)(hw:swappedStores [tg] e X.env=pure none:=by rfl)
  (h1:(assignEach [tg] X.env).map (·.2)=[assign tg X.env]:=by rfl):LS X (.Assign [tg] e pos) (tq te g):=⟨qM he.h hg hs hw h1⟩
theorem Xj{st dN:Stmt}{rest:List Stmt}{ts tr:TS}(h:LS X st ts)(hr:gc X (dN::rest) tr):L7 X (st::dN::rest) (Kc ts tr):=⟨av h.h hr⟩
end
section
variable{P:Program}{w:World}{K:PySem.W.Frag}{mg:Str->Option Value}{base:Heap}
theorem aW.Xk{x qual:Str}{st:Stmt}{f:Addr}{fd:FuncData}{N ps:List Str}{k:Nat}{sp:Sp}(F:aW K x qual st f fd)(S:bc N ps (aS st))(len:∀vs H Q E,sp vs H Q E->vs.length=ps.length)
  (m5:∀(aH:Value) (A:Around) (outer:List Env) (s:Shared) (H:Hp) (vs:List V) (Q:VK) (E:XK),b7 k (A.deeper (envOfC qual (aS st) s.heap.objs.size f aH))->sp vs H Q E->
   ∃t,L7 (mZ aR P w K mg base N qual (aS st) f aH A outer s H E).oQ (jV st) t/\t { nx:=λ_ H'=>Q .aA H',rt:=Q } (start N vs) H):aM P w K mg base aR (k+1) f fd ps sp:=
 F.ok S len λaH A outer s H vs Q E hr h=>let ⟨t,a,q⟩:=m5 aH A outer s H vs Q E hr h;⟨t,a.h,q⟩
end
def rC(q f a:Addr):Heap->Prop:=λh=>h.get? q=some (PySem.W.methodObj (.ref f) (.ref a))
theorem Xl{P:Program}{w:World}{H:Hp}{h:Heap}{q f a:Addr}(e:h.get? q=some (PySem.W.methodObj (.ref f) (.ref a))):cS P w H h q (.ext (rC q f a)):=⟨e,⟨_,e⟩,λ_ _ x k=>k _ x⟩
structure L8(K:PySem.W.Frag)(f:Addr):Prop where
 gf:PySem.W.specialIn K (.ref f) "__get__"=some (some (.builtin "function.__get__"))
 tk:PySem.W.takesIn K (.ref f)=some false
section
variable{X:Cx}{pins:List (Addr×Obj)}{σ:St}{H:Hp}{s:Shared}{a C dx g q l:Addr}{fs:List (Str×V)}{m:Str}{A:Around}{E:Value->Shared->Prop}
theorem Xm{expr:Bool}{Q:Value->Shared->Prop}(I:Inv X pins σ H s)(e:H a=some (.ins C dx fs))(c:cI X.K C)(k:Meth X.K C m g)(b:L8 X.K g)(hc:PySem.W.copiedNames.contains m=false)(hl:fs.lookup m=none)
  (h:∀q s',H q=none->Inv X pins σ (upd H q (.ext (rC q g a))) s'->Q (.ref q) s'):wpAny (model X.prog X.w) A (getAttr (.ref a) m expr) Q E s:=by
 obtain⟨mA,O,r,_,_,_⟩:=vY I.aC e
 have hn:mA m=none:=eT.none_of (by rw[<-hl];exact r m)
 obtain⟨od,J,nC⟩:=O.look
 have hp:=Jm (c.get m)
 refine PySem.W.get_bind I.cU J hp.1 (PySem.W.findObj_fn c.hd k.at_ b.gf b.tk hc (by rw[nC,hn])) hp.2 (yz (PySem.W.fn_get (s:={ s with toks:=s.toks+1 }) I.cU (mI.mp k.fn) (PySem.W.handed_on rfl ?_)))
 exact h s.heap.objs.size _ I.fresh (I.laid (t':=s.toks+1) (λ_ _ z=>bw _ z) (aQ _) (Xl (cw _ rfl)))
theorem L9:∀{vs:List Value}{ns:List Int},Vals (ns.map V.int) vs->IntsAre vs ns
 |_,[],.nil=>.nil
 |_,n::_,.cons h t=>by
  obtain⟨t',rfl⟩:=h
  exact .cons n t' (L9 t)
theorem Ma{kz:Str->Int}:∀{ss:List Str}{vs:List Value}{ps:List (Int×Value)},Vals (ss.map V.str) vs->(∀p∈ps,p∈(ss.map kz).zip vs)->∃ts:List Str,Vals (ts.map V.str) (ps.map Prod.snd)/\ts.map kz=ps.map Prod.fst
 |_,_,[],_,_=>⟨[],.nil,rfl⟩
 |ss,vs,p::r,hv,h=>by
  obtain⟨ts,h1,h2⟩:=Ma (ps:=r) hv λq hq=>h q (bF _ hq)
  obtain⟨i,hi⟩:=eS (h p bh)
  rw[List.getElem?_zip_eq_some] at hi
  obtain⟨e1,e2⟩:=hi
  rw[bb] at e1
  cases es:ss[i]? with
  |none=>rw[es] at e1;cases e1
  |some x=>
   rw[es] at e1
   have e1:kz x=p.1:=c9 e1
   obtain⟨u,hu,ru⟩:=hv.get (i:=i) (x:=V.str x) (by rw[bb,es];rfl)
   rw[e2] at hu
   cases hu
   exact⟨x::ts,.cons ru h1,by rw[bL,bL,h2,e1]⟩
theorem Mb:∀{ss ts:List Str},ss.map V.str=ts.map V.str->ss=ts
 |[],[],_=>rfl
 |[],_::_,h=>by cases h
 |_::_,[],h=>by cases h
 |x::r,y::t,h=>by
  rw[bL,bL] at h
  obtain⟨h1,h2⟩:=yE h
  cases h1
  rw[Mb h2]
theorem Xn{vs us:List Value}{ss:List Str}(h:Vals (ss.map V.str) vs)(p:us.Perm vs):∃ts:List Str,Vals (ts.map V.str) us/\ts.Perm ss:=by
 induction p generalizing ss with
 |nil=>exact⟨ss,h,List.Perm.refl _⟩
 |cons x _ ih=>
  cases ss with
  |nil=>cases h
  |cons y r=>
   cases h with
   |cons h1 h2=>
    obtain⟨ts,a,b⟩:=ih h2
    exact⟨y::ts,.cons h1 a,b.cons y⟩
 |swap x y l=>
  match ss,h with
  |u::v::r,.cons h1 (.cons h2 h3)=>exact⟨v::u::r,.cons h2 (.cons h1 h3),List.Perm.swap ..⟩
 |trans _ _ Xo Xp=>
  obtain⟨ts,a,b⟩:=Xp h
  obtain⟨us,c,d⟩:=Xo a
  exact⟨us,c,d.trans b⟩
theorem Xq{k:Nat}{f:Addr}{fd:FuncData}{ps:List Str}{sp:Sp}{Q:VK}{u:Value}{v:V}(F:aM X.prog X.w X.K X.mg X.base aR k f fd ps sp)(hr:b7 k A)(he:kF X.prog X.w X.K X.mg X.base A X.stack s H)(hb:Binds X.K fd ps [])(I:Inv X pins σ H s)(hq:H q=some (.ext (rC q f a)))
  (rv:RelV v u) (h:sp [.ref a,v] H Q E0):wpAny (model X.prog X.w) A (call (.ref q) [u]) (EP X pins σ Q) (λ_ _=>False) s:=by
 have hm:rC q f a s.heap:=(I.aC q _ hq).1
 have hl:([.ref a,u]++([]:List Value)).length=ps.length:=(F.len _ _ _ _ h)
 refine yz (ks_codeAny_call_bound hm ?_)
 refine vx (F.run A X.stack s H ⟨[.ref a,u],[]⟩ [.ref a,u] [.ref a,v] Q E0 hr he (hb s [.ref a,u] I.cU hl) (.cons rfl (.cons rv .nil)) h) λr s' z=>?_
 cases r with
 |error e=>exact z
 |ok fl=>
  cases fl with
  |ret w'=>exact I.after z
  |next=>exact False.elim z
  |brk=>exact False.elim z
  |cont=>exact False.elim z
theorem sorted_out{kz:Str->Int}{ss:List Str}{vs:List Value}{out:List Value}(hv:Vals (ss.map V.str) vs)(h:KskOut true (ss.map kz) vs out):∃ts:List Str,Vals (ts.map V.str) out/\ts.Perm ss/\ts.Pairwise λx y=>kz y<=kz x:=by
 obtain⟨ps,hp,rfl,ho⟩:=h
 obtain⟨ts,h1,h2⟩:=Ma (kz:=kz) hv λp hm=>hp.mem_iff.mp hm
 have hl:ss.length=vs.length:=by rw[<-hv.length,ar]
 have jZ:(ps.map Prod.snd).Perm vs:=by
  have:=hp.map Prod.snd
  rw[List.map_snd_zip (by rw[ar];omega)] at this
  exact this
 obtain⟨dG,h3,h4⟩:=Xn hv jZ
 have e:ts=dG:=Mb (Vals.inj h1 h3)
 subst e
 refine⟨ts,h1,h4,?_⟩
 have h5:(ps.map Prod.fst).Pairwise (λx y:Int=>y<=x):=by
  rw[List.pairwise_map]
  exact ho.imp λ{a b} z=>by simpa using z
 rw[<-h2,List.pairwise_map] at h5
 exact h5
theorem Xr{k:Nat}{f:Addr}{fd:FuncData}{ps:List Str}{sp:Sp}{ss:List Str}{kz:Str->Int}{Q:Value->Shared->Prop}(I:Inv X pins σ H s)(hq:H q=some (.ext (rC q f a)))(F:aM X.prog X.w X.K X.mg X.base aR k f fd ps sp)(hr:b7 (k+2) X.A)(hb:Binds X.K fd ps [])
  (hl:aj X.K H l (ss.map V.str)) (eN:ss.length<64) (turn:∀x∈ss,∀H3,af H H3->∀Q':VK,(∀H4,af H3 H4->Q' (.int (kz x)) H4)->sp [.ref a,.str x] H3 Q' E0)
  (fin:∀(p:Addr) (out:List Str) (H5:Hp) (s':Shared),H p=none->af H H5->H5 p=some (.lst (out.map V.str))->out.Perm ss->(out.Pairwise λx y=>kz y<=kz x)->Inv X pins σ H5 s'->Q (.ref p) s') :
  wpAny (model X.prog X.w) X.A (call (.builtin "sorted") [.ref l] [(Str.ofString "key",.ref q),(Str.ofString "reverse",.bool true)]) Q E s:=by
 obtain⟨its,rv,pl,hz⟩:=I.list hl
 have hL:=pl.isList
 have hlen:its.length=ss.length:=by rw[<-rv.length,ar]
 have jt:(64:Nat)<=sizeLine:=by decide
 refine call_function_entry_kw kind_sorted plain_sorted entry_sorted (ksk_s2 _ _ _) ?_
 unfold Builtin.«sorted»
 refine ag (m:=checkCount "sorted" 1 1 _) (aJ ?_)
 refine ag (collect_list hL ?_ (by omega))
 refine ag (wpAny_newList ?_ (by omega))
 generalize EH:(s.heap.push (seqObj "list" #[] 0)).update s.heap.objs.size (Obj.mapSeq (· ++ its.toArray))=g1
 have z1:g1.objs.size=s.heap.objs.size+1:=by rw[<-EH,Heap.size_update,qB]
 have k1:∀b o,s.heap.get? b=some o->g1.get? b=some o:=λb o e=>by
  have aN:=bE e
  rw[<-EH,JE _ _ _ _ (bU aN),Heap.get?_push_ne _ _ _ (bU aN)]
  exact e
 show wpAny _ _ _ _ _ { s with heap:=g1.push (seqObj "list" its.toArray 0) }
 have jj:(g1.push (seqObj "list" its.toArray 0)).get? (s.heap.objs.size+1)=some (seqObj "list" its.toArray 0):=by
  have:(g1.push (seqObj "list" its.toArray 0)).get? g1.objs.size=some (seqObj "list" its.toArray 0):=cw _ rfl
  rwa [z1] at this
 have k2:∀b o,s.heap.get? b=some o->(g1.push (seqObj "list" its.toArray 0)).get? b=some o:=λb o e=>bw _ (k1 b o e)
 have z2:(g1.push (seqObj "list" its.toArray 0)).objs.size=s.heap.objs.size+2:=by rw[qB,z1]
 rw[show(Value.ref g1.objs.size) = .ref (s.heap.objs.size+1) by rw[z1]]
 generalize g1.push (seqObj "list" its.toArray 0)=g2 at jj k2 z2
 generalize wk:s.heap.objs.size+1=b at jj
 have lV:s.heap.objs.size<=b:=by rw[<-wk];exact gC _
 clear EH z1 k1
 refine ag (iC (wpAny_call_entry_kw slot_list_sort ⟨_,jj,rfl⟩ entry_list_sort ?body (ksk_l2 _ _ _)))
 case body=>
  rw[ksk_t2]
  unfold ksk_tree
  refine ag (listItems_at jj rfl ?_)
  refine ag (listUpdate_at jj rfl ?_ (by rw[bp];omega) (bx _))
  obtain⟨e1,tY⟩:∃e1,(g2.update b (Obj.mapSeq λ_=>(#[]:Array Value))).get? b=some (seqObj "list" #[] e1):=⟨_,get?_update_seq jj λ_=>#[]⟩
  have k3:∀c o,s.heap.get? c=some o->(g2.update b (Obj.mapSeq λ_=>(#[]:Array Value))).get? c=some o:=λc o e=>by
   have aN:=bE e
   rw[JE _ _ _ _ (bU (by rw[<-wk];exact oB aN))]
   exact k2 c o e
  have z3:(g2.update b (Obj.mapSeq λ_=>(#[]:Array Value))).objs.size=s.heap.objs.size+2:=by rw[Heap.size_update,z2]
  show wpAny _ _ _ _ _ { s with heap:=g2.update b (Obj.mapSeq λ_=>(#[]:Array Value)) }
  generalize g2.update b (Obj.mapSeq λ_=>(#[]:Array Value))=g3 at tY k3 z3
  refine ag (seqEpoch_at tY rfl ?_)
  refine ag (wpAny_newTuple ?_ (by show its.length<=_;omega))
  refine ag (wpAny_newList ?_ (bx _))
  refine iC ?_
  have z4:(g3.push { cls := .type "tuple",data := .seq its.toArray }).objs.size=s.heap.objs.size+3:=by rw[qB,z3]
  have EI:((g3.push { cls := .type "tuple",data := .seq its.toArray }).push { cls := .type "list",data := .seq ([]:List Value).toArray }).get? (s.heap.objs.size+3)=some (seqObj "list" #[] 0):=by
   have:((g3.push { cls := .type "tuple",data := .seq its.toArray }).push { cls := .type "list",data := .seq ([]:List Value).toArray }).get? (g3.push { cls := .type "tuple",data := .seq its.toArray }).objs.size=some (seqObj "list" #[] 0):=cw _ rfl
   rwa [z4] at this
  have k5:∀c o,g3.get? c=some o->((g3.push { cls := .type "tuple",data := .seq its.toArray }).push { cls := .type "list",data := .seq ([]:List Value).toArray }).get? c=some o:=λc o e=>bw _ (bw _ e)
  show wpAny _ _ (ksk_rest b (.ref q) true its.toArray e1 (.ref (g3.push { cls := .type "tuple",data := .seq its.toArray }).objs.size)) _ _ { s with heap:=(g3.push { cls := .type "tuple",data := .seq its.toArray }).push { cls := .type "list",data := .seq ([]:List Value).toArray } }
  rw[z4]
  have Mc:=k5 _ _ tY
  have I5:Inv X pins σ H { s with heap:=(g3.push { cls := .type "tuple",data := .seq its.toArray }).push { cls := .type "list",data := .seq ([]:List Value).toArray } }:=I.kept (t':=s.toks) λc o e=>k5 c o (k3 c o e)
  have EJ:H b=none:=I.aC.fresh lV
  have Md:H (s.heap.objs.size+3)=none:=I.aC.fresh (yL _ _)
  have fb:∀{H':Hp},H' b=none->eV X pins H' b:=λh=>I.jO lV h
  have fk:∀{H':Hp},H' (s.heap.objs.size+3)=none->eV X pins H' (s.heap.objs.size+3):=λh=>I.jO (yL _ _) h
  have pG:b≠s.heap.objs.size+3:=by rw[<-wk];exact bU (oB (qx _))
  generalize (g3.push { cls := .type "tuple",data := .seq its.toArray }).push { cls := .type "list",data := .seq ([]:List Value).toArray }=g5 at EI Mc I5
  clear z4 k5 k3 z3 k2 z2 tY
  generalize s.heap.objs.size+3=kS at EI Md fk pG
  have Me:∀{H':Hp}{s':Shared}{ok:Obj},Inv X pins σ H' s'->H' b=none->H' kS=none->s'.heap.get? b=some (seqObj "list" #[] e1)->s'.heap.get? kS=some ok->(∀v,ok.data ≠ .cell v)->Inv X (pins++[(b,seqObj "list" #[] e1),(kS,ok)]) σ H' s':=λJ nb nk eb ek hd=>
   J.yU λp hp=>(dh.mp hp).elim (λz=>J.pin p (gU _ z)) λz=>by
    rcases bX.mp z with z | z
    .subst z
     exact⟨eb,nb,(fb nb).2.1,(fb nb).2.2.1,λv z=>nomatch z⟩
    .have z:=cg.mp z
     subst z
     exact⟨ek,nk,(fk nk).2.1,(fk nk).2.2.1,hd⟩
  have Mf:∀{H':Hp}{s':Shared}{l2:List (Addr×Obj)},Inv X (pins++l2) σ H' s'->Inv X pins σ H' s':=λJ=>J.tE
  unfold ksk_rest
  refine ag (sR ?_)
  rw[List.forIn_toArray]
  refine ag (ksk_fold (λi s' =>∃(H':Hp) (kA:Array Value) (e:Nat),Inv X (pins++[(b,seqObj "list" #[] e1),(kS,seqObj "list" kA e)]) σ H' s'/\af H H'/\Vals (((ss.take i).map kz).map V.int) kA.toList) its 0 _
   ⟨H,#[],0,Me I5 EJ Md Mc EI (λv z=>nomatch z),af.refl _,by rw[oH];exact .nil⟩ ?step ?done)
  case step=>
   rintro j x s' hx ⟨H',kA,e,J,sm,hk⟩
   rw[mO] at hk ⊢
   have hj:j<ss.length:=by rw[<-hlen];exact(bZ.mp hx).1
   obtain⟨y,hy⟩:∃y,ss[j]? = some y:=⟨_,aU hj⟩
   obtain⟨u,hu,ru⟩:=rv.get (i:=j) (x:=V.str y) (by rw[bb,hy];rfl)
   rw[hx] at hu
   cases hu
   have wQ:b7 k X.A.in1.in1:=hr.in1.in1
   refine ag (yH (jE (Xq (Q:=λv H4=>v = .int (kz y)/\af H' H4) F wQ J.Ds.in1.in1 hb J (sm _ _ hq) ru (turn y (bo hy) H' sm _ λH4 s4=>⟨rfl,s4⟩)) (λv s2 he=>?_) λ_ _ hF=>hF.elim))
   obtain⟨v',H4,J4,r4,rfl,s4⟩:=he
   obtain⟨t4,rfl⟩:=r4
   dsimp only
   have pb:=J4.pin (b,seqObj "list" #[] e1) (by simp)
   have pk:=J4.pin (kS,seqObj "list" kA e) (by simp)
   have ju:kA.size<=64:=by
    have h1:=hk.length
    have h2:kA.toList.length=kA.size:=fm
    rw[ar,ar,jF] at h1
    omega
   refine ag (listUpdate_at pk.1 rfl ?_ (by omega) (by rw[JF];omega))
   have ek:(s2.heap.update kS (Obj.mapSeq (·.push (.int (kz y) t4)))).get? kS=some (seqObj "list" (kA.push (.int (kz y) t4)) _):=get?_update_seq pk.1 (·.push (.int (kz y) t4))
   have eb:(s2.heap.update kS (Obj.mapSeq (·.push (.int (kz y) t4)))).get? b=some (seqObj "list" #[] e1):=by
    rw[JE _ _ _ _ pG]
    exact pb.1
   have Ag:=fk pk.2.1
   have J5:Inv X pins σ H4 { s2 with heap:=s2.heap.update kS (Obj.mapSeq (·.push (.int (kz y) t4))) }:=(Mf J4).turned (t':=s2.toks) (it:=kS) (λc o hc e=>by rw[JE _ _ _ _ hc];exact e) pk.2.1 Ag.2.1 Ag.2.2.2.1 Ag.2.2.2.2.1 Ag.2.2.2.2.2
   refine aJ ⟨rfl,H4,_,_,Me J5 pb.2.1 pk.2.1 eb ek (λv z=>nomatch z),sm.trans s4,?_⟩
   rw[fL,hy,dW,dW,Array.toList_push]
   exact hk.append (.cons ⟨t4,rfl⟩ .nil)
  case done=>
   rintro s' ⟨H',kA,e,J,sm,hk⟩
   rw[mO,hlen,fw (aQ _)] at hk
   have pb:=J.pin (b,seqObj "list" #[] e1) (by simp)
   have pk:=J.pin (kS,seqObj "list" kA e) (by simp)
   refine ag (listItems_at pk.1 rfl ?_)
   obtain⟨mL,Mg,_⟩:=id J.loc
   have Xt:=(fb pb.2.1).2.1
   have Xu:=(fk pk.2.1).2.1
   have EK:∀{c:Addr}{o:Obj},c≠X.env.locals->c≠kS->c≠b->s'.heap.get? c=some o->(c,o)∈(jU.ledger s'.heap X.env.locals kS).filter λp=>decide (p.1≠b):=λh1 h2 h3 h4=>bQ.mpr ⟨jU.DT.mpr ⟨h1,h2,h4⟩,aG h3⟩
   refine ksk_end_ (h₀:=jU.zH s'.heap) (L:=X.env.locals) (m:=mL) (news:=(jU.ledger s'.heap X.env.locals kS).filter λp=>decide (p.1≠b)) (e:=e) (kz:=ss.map kz) (jU.U9 Mg) (λp hp=>?_) (bj pG) (λp hp=>?_) (λp hp=>?_) (L9 hk) (by rw[ar,hlen]) (by omega) λh' tk out c Mh N' ko=>?_
   .rcases dh.mp hp with hp | hp
    .obtain⟨h1,_⟩:=bQ.mp hp
     obtain⟨n1,n2,h3⟩:=jU.DT.mp h1
     exact⟨h3,n1,jU.zI _ _⟩
    .rcases bX.mp hp with z | z
     .subst z
      exact⟨pk.1,Xu,jU.zI _ _⟩
     .have z:=cg.mp z
      subst z
      exact⟨pb.1,Xt,jU.zI _ _⟩
   .exact(jU.DT.mp (bQ.mp hp).1).2.1
   .exact eQ (bQ.mp hp).2
   .obtain⟨ts,v1,v2,v3⟩:=sorted_out rv ko
    have pC:h'.get? b=some (seqObj "list" out c):=(N' (b,seqObj "list" out c) bh).1
    have kp:∀{x:Addr}{o:Obj},x≠X.env.locals->x≠kS->x≠b->s'.heap.get? x=some o->h'.get? x=some o:=λh1 h2 h3 h4=>(N' _ (bF _ (EK h1 h2 h3 h4))).1
    have tl:∀x u,H' x=some u->x≠X.env.locals/\x≠kS/\x≠b:=λx u z=>⟨λy=>(by rw[y,J.free] at z;cases z),λy=>(by rw[y,pk.2.1] at z;cases z),λy=>(by rw[y,pb.2.1] at z;cases z)⟩
    have FB:=fb pb.2.1
    have FK:=fk pk.2.1
    have pe:(ts.map V.str).length<=sizeLine:=by rw[ar,v2.length_eq];omega
    have J6:Inv X pins σ (upd H' b (.lst (ts.map V.str))) { s' with heap:=h',toks:=tk }:=by
     refine(Mf J).step (g':=s'.gens) (d':=s'.drawn) (ch:=[kS,b]) (λx hx=>?_) (λx o n1 _ hc e _=>kp n1 (λz=>hc (by simp[z])) (λz=>hc (by simp[z])) e) (λx o n1 _ hc e _=>⟨o.slots,kp n1 (λz=>hc (by simp[z])) (λz=>hc (by simp[z])) e⟩)
      (λx o hc _ n=>by rw[ak (λz=>hc (by simp[z]))];exact n) (λx o hc e=>?_) (λx xs z=>by rw[ak (tl x _ z).2.2];exact z) (λx o u z=>by rw[ak (tl x _ z).2.2];exact z) (λx ps z=>⟨#[],by rw[ak (tl x _ z).2.2,z];simp⟩) (λm' EL=>?_) (λx u z=>?_) J.bare
     .have hx:x=kS\/x=b:=by simpa using hx
      rcases hx with rfl | rfl
      .exact⟨FK.2.2.2.1,FK.2.1,FK.2.2.2.2.1,FK.2.2.2.2.2⟩
      .exact⟨FB.2.2.2.1,FB.2.1,FB.2.2.2.2.1,FB.2.2.2.2.2⟩
     .by_cases y:x=X.env.locals
      .obtain⟨oL,_,_,eL,_⟩:=Mh.ns
       exact⟨oL,by rw[y];exact eL⟩
      .exact⟨o,kp y (λz=>hc (by simp[z])) (λz=>hc (by simp[z])) e⟩
     .have:m'=mL:=funext λnm=>EL.agree Mg nm
      rw[this]
      exact Mh.ns
     .by_cases y:x=b
      .subst y
       rw[au] at z
       cases z
       exact⟨pe,out.toList,c,v1,by rw[Array.toArray_toList];exact pC⟩
      .rw[ak y] at z
       obtain⟨n1,n2,n3⟩:=tl x u z
       refine(J.aC x u z).kl (λd v hd e=>?_) (λdd e=>by rw[ak (tl dd _ e).2.2];exact e) λdd u' e=>by rw[ak (tl dd _ e).2.2];exact e
       rcases hd with rfl | hd
       .exact kp n1 n2 n3 e
       .obtain⟨m1,m2,m3⟩:=tl d _ hd
        exact kp m1 m2 m3 e
    refine⟨_,rfl,?_⟩
    exact aJ ⟨_,rfl,fin b ts _ _ EJ (λx o z=>by rw[ak (λy=>by rw[y,EJ] at z;cases z)];exact sm x o z) au v2 v3 J6⟩
end
section
variable{X:Cx}{K:PySem.W.Frag}{C g:Addr}{m:Str}{o e:Expr}{to tl:TE}{sp:Sp}{k:Nat}{p pos ap Xv Xw cp:Pos}{ck:Nat}
structure EM(K:PySem.W.Frag)(C:Addr)(m:Str):Prop where
 ex:∃f,PySem.W.findIn K (.ref C) m=some (some (.ref f))/\L8 K f
 nm:PySem.W.copiedNames.contains m=false
def EN(K:PySem.W.Frag)(C:Addr)(m:Str)(sp:Sp)(to:TE)(σ:St)(Q:VK)(x:V)(H1:Hp):Prop:=to σ H1 λy H2=>∃(l:Addr) (ss:List Str) (a dx:Addr) (fs:List (Str×V)) (kz:Str->Int),x = .ref l/\y = .ref a/\aj K H2 l (ss.map V.str)/\ss.length<64/\H2 a=some (.ins C dx fs)/\fs.lookup m=none/\
 (∀x∈ss,∀H3,af H2 H3->∀Q':VK,(∀H4,af H3 H4->Q' (.int (kz x)) H4)->sp [.ref a,.str x] H3 Q' E0)/\
 ∀(p:Addr) (out:List Str) (H5:Hp),H2 p=none->af H2 H5->H5 p=some (.lst (out.map V.str))->out.Perm ss->(out.Pairwise λx y=>kz y<=kz x)->Q (.ref p) H5
def Xx(K:PySem.W.Frag)(C:Addr)(m:Str)(sp:Sp)(tl to:TE):TE:=λσ H Q=>tl σ H (EN K C m sp to σ Q)
def Xy(k:V->Hp->Prop):List V->Hp->Prop
 |[x],H=>k x H
 |_,_=>False
theorem Xz(hK:X.K=K)(M:Mt X.prog X.w X.K X.mg X.base C m k sp [])(hM:EM X.K C m)(hr:b7 (k+2) X.A)(hg:Gl X "sorted")(hm:X.mg "sorted"=none)(hv:bootBuiltins "sorted"=some (.builtin "sorted"))(ha:PA X [e] (o8 tl lK))(ho:PE X o to)
  (hb:attributeBase o m X.env (eval o X.env)=eval o X.env) (he:backTo pos (starEach [e] X.env)=(false,eval e X.env)::backTo pos (starEach [] X.env):=by rfl) (hp:(backTo pos (starEach [e] X.env)).any (·.1)=false:=by rfl) :
  PE X (.Call (.Name "sorted" p) [e] [⟨some "key",.Attribute o m ap,Xv⟩,⟨some "reverse",.Constant (.bool true) ck cp,Xw⟩] pos) (Xx K C m sp tl to):=by
 subst hK
 intro pins s σ H Q I h
 obtain⟨f,fd,ps,ds,mt,F,bn,vd⟩:=M.ex
 cases vd
 obtain⟨f',XA,bd⟩:=hM.ex
 have ef:f'=f:=by
  have:=XA.symm.trans mt.at_
  injection this with this
  injection this with this
  injection this with this
 subst ef
 refine vy (oP I hg hm hv ?_ (by decide) (by decide))
 have h':o8 tl lK σ H (Xy (EN X.K C m sp to σ Q)):=h
 refine callWith_kw (aB (ha pos pins s σ H _ I h') λus s1 ⟨vs,H1,I1,r1,q1⟩=>?_) he hp
 obtain⟨x,rfl,q1⟩:∃x,vs=[x]/\EN X.K C m sp to σ Q x H1:=by
  match vs,q1 with
  |[x],q1=>exact⟨x,rfl,q1⟩
 obtain⟨u,rfl,ru⟩:∃u,us=[u]/\RelV _ u:=vals1 r1
 refine kws_cons (Kw hb (aB (ho pins s1 σ H1 _ I1 q1) λw' s2 ⟨y,H2,I2,ry,q2⟩=>?_))
 obtain⟨l,ss,a,dx,fs,kz,rfl,rfl,hl,eN,Ah,nC,turn,fin⟩:=q2
 cases ru
 cases ry
 refine Xm I2 Ah M.cl mt bd hM.nm nC λq s3 hq I3=>?_
 have sq:=af.upd (o:=HO.ext (rC q f' a)) hq
 refine kws_cons (aB (lE pins s3 σ _ (λv H'=>v = .bl true/\H'=upd H2 q (.ext (rC q f' a))) I3 ⟨rfl,rfl⟩) λb s4 ⟨v4,H4,I4,r4,e4,e5⟩=>?_)
 subst e4 e5
 cases r4
 refine kws_nil ?_
 refine Xr (a:=a) (q:=q) I4 au F hr bn (sq.seq hl) eN (λx mx H3 s3=>turn x mx H3 (sq.trans s3)) λp out H5 s5 hp s6 h5 h6 h7 I5=>?_
 exact⟨.ref p,H5,I5,rfl,fin p out H5 (sq.free hp) (sq.trans s6) h5 h6 h7⟩
end
theorem XB:typeLookup (.type "list") "keys"=pure none:=am_miss_of_fast (by kernel_rfl)
theorem Ai:plainId "dict.update.loop"=true:=by decide +kernel
theorem Mi:entryFor table "dict.update.loop"=some Builtin.«dict.update.loop»:=entryFor_of_fast (by kernel_rfl)
section
variable{prog:Program}{w:World}{A:Around}{E:Value->Shared->Prop}{s:Shared}
theorem XC{a:Addr}{xs:Array Value}{k:Nat}{Q:Option Value->Shared->Prop}(hx:s.heap.get? a=some { cls := .type "list",data := .seq xs k })(hA:A.handled=none)
  (h:∀h' tk,(∀b o,s.heap.get? b=some o->h'.get? b=some o)->Q none { s with heap:=h',toks:=tk }):wpAny (model prog w) A (getAttr? (.ref a) "keys") Q E s:=by
 obtain⟨hp,g,d,tk,os⟩:=s
 have hT:∀n,(⟨hp,g,d,n,os⟩:Shared).TypeIs (.ref a) "list":=λ_=>⟨_,hx,rfl⟩
 have g1:=sub_AttributeError
 have g2:=RY.lookup;have g3:=RY.bind (.ref a);have g4:=am_list_getattr_none
 unfold getAttr? getAttrBy? getAttrBy
 repeat (any_goals (first | assumption | exact hT _ | ((with_reducible show wpAny _ _ (call (Value.builtin "list.__getattribute__") _ _) _ _ _);refine call_meets RY (hT _) am_entry_list_getattribute (F.args_list_getattribute_2 _ _) (meets_getattribute_miss_list a xs k _ "keys" _ XB (by decide +kernel) (by decide)) ⟨hx,hA,λh' n e hn=>?_⟩) | wp_step))
 obtain⟨t',u',he⟩:=hn.there
 show wpAny _ _ (getattributeRaised _ _ _ _ _ _ _) _ _ _
 unfold getattributeRaised
 repeat (any_goals (first | assumption | wp_step))
 exact h _ _ hn.keeps
end
section
variable{prog:Program}{w:World}{A:Around}{R:Result->Shared->Prop}{I:Addr}{fp wr:List Addr}{n:Nat}{P:Nat->Value->Prop}{St:Nat->Heap->Prop}{KK:Type}[DecidableEq KK]{knd:KeyKind prog w KK}
theorem XD(W:Walks prog w A.in1 I fp wr n P St)(D:Addr)(Mj:D∉fp)(ks:Nat->KK)(ky vl:Nat->Value)(tt:Nat->Addr)(hP:∀i v,P i v->v = .ref (tt i))(hk:∀i,i<n->knd.is (ks i) (ky i)=true)(ht:∀i,i<n->tt i∉wr/\tt i≠D)
  (L:Nat->List (KK×Value)) (hL:∀i,i<n->L (i+1)=stored (L i) (ks i) (vl i)) (hz:∀i,i<=n->(L i).length<=sizeLine) :
  ∀(k i:Nat) (s:Shared) (it:Tok),n - i=k->i<=n->St i s.heap->s.heap.DictOf knd D (L i)->(∀i,i<n->∃o c,s.heap.get? (tt i)=some o/\o.cls = .type "tuple"/\o.data = .seq #[ky i,vl i] c)->
  (∀h' tk,(∀b o,b∉wr->b≠D->s.heap.get? b=some o->h'.get? b=some o)->h'.DictOf knd D (L n)->R (.ok (.ret .none)) { s with heap:=h',toks:=tk })->
  codeAny (model prog w) A (.builtin "dict.update.loop" ⟨[.ref D,.ref I,.int i it,.none],[]⟩) R s:=by
 have Ml:D∉wr:=λh=>Mj (W.sub _ h)
 intro k
 induction k with
 |zero=>
  intro i s it Aj hi dy hD EO hR
  have bu:i=n:=by omega
  subst bu
  refine qC Mi ?_
  rw[sS Ai _]
  show wpAny _ A.in1 (pyNext (.ref I) >>= _) _ _ s
  refine ag (W.done s _ _ dy λh' tk gH=>?_)
  obtain⟨o,es,ep,ho,r⟩:=hD
  show wpAny _ A.in1 (Builtin.Dict.addKeywords D [] >>= _) _ _ _
  exact ag (aJ (aJ (hR h' tk (λb o hb _ e=>gH b o hb e) ⟨o,es,ep,gH D o Ml ho,r⟩)))
 |succ k ih=>
  intro i s it Aj hi dy hD EO hR
  have aN:i<n:=by omega
  refine qC Mi ?_
  rw[sS Ai _]
  show wpAny _ A.in1 (pyNext (.ref I) >>= _) _ _ s
  refine ag (W.item i s _ _ aN dy λv h' tk hv lW gH=>?_)
  have tZ:h'.DictOf knd D (L i):=by
   obtain⟨o,es,ep,ho,r⟩:=hD
   exact⟨o,es,ep,gH D o Ml ho,r⟩
  rw[hP i v hv]
  obtain⟨oT,cT,ER,rE,XE⟩:=EO i aN
  have Mm:=gH _ _ (ht i aN).1 ER
  show wpAny _ A.in1 (holding _ _ >>= _) _ _ _
  refine ag (iC (ag (CZ ?_)))
  unfold Builtin.Dict.pairItems
  refine ag (wpAny_typeOf (s:={ s with heap:=h',toks:=tk }) ⟨_,Mm,rE⟩ ?_)
  rw[ax (by decide)]
  unfold seqItems?
  refine ag (ag (wpAny_load (s:={ s with heap:=h',toks:=tk }) Mm ?_))
  rw[XE]
  refine aJ (aJ ?_)
  refine iC (wpAny_dictSet_pairs (s:={ s with heap:=h',toks:=tk }) (hk i aN) tZ (λh2 hd2 lX=>?_) (hz i (yr aN)))
  rw[<-hL i aN] at hd2
  refine aJ ⟨sT Ai _,ih (i+1) _ _ (by omega) aN (W.frame _ _ _ lW λb hb o e=>?_) hd2 (λj hj=>?_) λh3 wR eY j1=>?_⟩
  .exact lX.extBut b o (λz=>Mj (z ▸ hb)) e
  .obtain⟨o,c,h1,h2,h3⟩:=EO j hj
   exact⟨o,c,lX.extBut _ _ (ht j hj).2 (gH _ _ (ht j hj).1 h1),h2,h3⟩
  .exact hR h3 wR (λb o rF Mn e=>eY b o rF Mn (lX.extBut b o Mn (gH b o rF e))) j1
end
section
variable{prog:Program}{w:World}{A:Around}{E:Value->Shared->Prop}{s:Shared}
theorem XF{l:Addr}{xs:Array Value}{k:Nat}{Q:Value->Shared->Prop}(hx:s.heap.get? l=some { cls := .type "list",data := .seq xs k })(hA:A.handled=none)
  (h:∀h' tk,(∀b o,s.heap.get? b=some o->h'.get? b=some o)->h'.get? s.heap.objs.size=some { cls := .type "dict",data := .dict #[] }->wpAny (model prog w) A.in1.in1 (pyIter (.ref l)) (λit s1=>codeAny (model prog w) A.in1 (.builtin "dict.update.loop" ⟨[.ref s.heap.objs.size,it,rawInt 0,.none],[]⟩) (wants (λr s2=>r = .none/\Q (.ref s.heap.objs.size) s2) E) s1) E { s with heap:=h',toks:=tk }) :
  wpAny (model prog w) A (call (.type "dict") [.ref l]) Q E s:=by
 refine callType_codes (Q₁:=λobj s₁=>obj = .ref s.heap.objs.size/\s₁={ s with heap:=s.heap.push { cls := .type "dict",data := .dict #[] } }) F.kt_called_dict (F.kt_typeCall_dict_1 _) F.entry_dict_init (kt_code_dict_new _ ⟨rfl,rfl⟩) λobj s1 hq=>?_
 obtain⟨rfl,rfl⟩:=hq
 have zu:(s.heap.push { cls := .type "dict",data := .dict #[] }).get? s.heap.objs.size=some { cls := .type "dict",data := .dict #[] }:=cw _ rfl
 have hT:Shared.TypeIs { s with heap:=s.heap.push { cls := .type "dict",data := .dict #[] } } (.ref s.heap.objs.size) "dict":=⟨_,zu,rfl⟩
 have pH:(s.heap.push { cls := .type "dict",data := .dict #[] }).get? l=some { cls := .type "list",data := .seq xs k }:=bw _ hx
 refine⟨hT,F.args_dict_init_2 _ _,?_⟩
 unfold Builtin.«dict.__init__» Builtin.Dict.selfAndRest
 refine ag (ag (wpAny_notOrdered_dict hT ?_))
 show wpAny _ _ (pure (s.heap.objs.size,[Value.ref l])) _ _ _
 refine aJ ?_
 show wpAny _ _ (Builtin.Dict.updateFrom "dict.__init__" s.heap.objs.size (.ref l) [] .none) _ _ _
 unfold Builtin.Dict.updateFrom
 refine ag (wpAny_typeOf (s:={ s with heap:=s.heap.push { cls := .type "dict",data := .dict #[] } }) ⟨_,pH,rfl⟩ ?_)
 rw[ax (by decide)]
 refine ag (XC (s:={ s with heap:=s.heap.push { cls := .type "dict",data := .dict #[] } }) pH hA λh' tk kp=>?_)
 rw[ax (show(none:Option Value).isNone=true from rfl)]
 refine ag (sR ?_)
 refine ag (jE (h h' tk (λb o e=>kp b o (bw _ e)) (kp _ _ zu)) (λit s1 z=>aJ ⟨sT Ai _,z⟩) λ_ _ z=>z)
end
noncomputable def iT(ps:List (Str×V)):List (Key×V):=ps.foldl (λkvs p=>putK kvs (Sum.inr p.1) p.2) []
theorem Mo(ps:List (Str×V))(p:Str×V):iT (ps++[p])=putK (iT ps) (Sum.inr p.1) p.2:=by unfold iT;rw[List.foldl_append];rfl
noncomputable def strN(ks:Nat->Key)(vl:Nat->Value):Nat->List (Key×Value)
 |0=>[]
 |i+1=>stored (strN ks vl i) (ks i) (vl i)
theorem XG(kvs:List (Key×Value))(k:Key)(v:Value):(stored kvs k v).length<=kvs.length+1:=by
 unfold stored
 split
 .rw[ar];omega
 .rw[cQ];exact aQ _
theorem ES(ks:Nat->Key)(vl:Nat->Value):∀i,(strN ks vl i).length<=i
 |0=>aQ _
 |i+1=>bA (XG _ _ _) (lA (ES ks vl i))
theorem Mp{H:Hp}:∀{ts:List Addr}{ps:List (Str×V)},Paired (λt p=>H t=some (.tup [.str p.1,p.2])) ts ps->∀{i:Nat}{t:Addr},ts[i]? = some t->∃p,ps[i]? = some p/\H t=some (.tup [.str p.1,p.2])
 |_,_,.nil,_,_,h=>by cases h
 |_,_,.cons h1 h2,0,_,h=>⟨_,rfl,by cases h;exact h1⟩
 |_,_,.cons h1 h2,i+1,_,h=>Mp h2 (i:=i) (by simpa using h)
theorem XH{X:Cx}(hc:X.calm=true):gE X (.type "dict") (λxs H Q=>∃(a:Addr) (ts:List Addr) (ps:List (Str×V)),xs=[.ref a]/\H a=some (.lst (ts.map V.ref))/\Paired (λt p=>H t=some (.tup [.str p.1,p.2])) ts ps/\ps.length<=10000/\
  ∀d,H d=none->Q (.ref d) (upd H d (.dK (iT ps)))):=by
 intro pins s σ H xs us Q I r h
 obtain⟨l,ts,ps,rfl,hl,hp,hn,q⟩:=h
 obtain⟨u,rfl,ru⟩:=vals1 r
 cases ru
 obtain⟨z,its,n,rv,hlen,e⟩:=I.o9 hl
 have hh:X.A.handled=none:=I.ok.hd hc
 have t9:=iB hp
 rw[ar] at hlen
 have wU:l<s.heap.objs.size:=bE e
 have ex:∀i:Nat,∃kv:Value×Value,∀(t:Addr) (p:Str×V),ts[i]? = some t->ps[i]? = some p->(bN X.prog X.w).is (Sum.inr p.1) kv.1=true/\RelV p.2 kv.2/\IsTup s.heap t #[kv.1,kv.2]:=by
  intro i
  by_cases hi:i<ts.length
  .have e1:ts[i]? = some ts[i]:=aU hi
   have e2:ps[i]? = some ps[i]:=aU (by omega)
   obtain⟨p,fE,ht⟩:=Mp hp e1
   obtain⟨XI,ET,hT,_⟩:=I.tuple (aw.of ht)
   obtain⟨a1,a2,rfl,r1,r2⟩:=vals2 ET
   obtain⟨tk,rfl⟩:=r1
   refine⟨(.str p.1 tk,a2),λt p' h1 h2=>?_⟩
   rw[e1] at h1
   rw[fE] at h2
   cases h1
   cases h2
   exact⟨JU p.1 tk,r2,hT⟩
  .exact⟨(.none,.none),λt p h1=>by rw[cB (by omega)] at h1;cases h1⟩
 obtain⟨f,hf⟩:=Classical.axiomOfChoice ex
 refine XF e hh λh' tk kp ie=>?_
 have e':=kp _ _ e
 have hD:h'.DictOf (bN X.prog X.w) s.heap.objs.size (strN (λi=>Sum.inr (ps.getD i (⟨#[]⟩,.aA)).1) (λi=>(f i).2) 0):=⟨_,#[],0,ie,⟨rfl,rfl,rfl⟩,rfl,(λe he=>by simp at he),.nil,iF⟩
 have wV:h'.IsList l its.toArray:=⟨_,e',rfl,n,rfl⟩
 refine vw (s:={ s with heap:=h',toks:=tk }) wV ?_
 have hsz:s.heap.objs.size<h'.objs.size:=bE ie
 have aN:l<h'.objs.size:=Nat.lt_trans wU hsz
 have gt:∀i,i<its.toArray.size->∃(t:Addr) (p:Str×V),ts[i]? = some t/\ps[i]? = some p/\its[i]? = some (.ref t):=λi hi=>by
  rw[bp] at hi
  have e1:ts[i]? = some ts[i]:=aU (by omega)
  have e2:ps[i]? = some ps[i]:=aU (by omega)
  obtain⟨u,hu,ru⟩:=rv.get (i:=i) (x:=V.ref ts[i]) (by rw[bb,e1];rfl)
  cases ru
  exact⟨_,_,e1,e2,hu⟩
 refine XD (knd:=bN X.prog X.w) (Walks.list (A:=X.A.in1.in1) hh _ l (bU aN) its.toArray) s.heap.objs.size ?_ (λi=>Sum.inr (ps.getD i (⟨#[]⟩,.aA)).1) (λi=>(f i).1) (λi=>(f i).2) (λi=>ts.getD i 0) (λi v hP=>?_) (λi hi=>?_) (λi hi=>?_)
  (strN (λi=>Sum.inr (ps.getD i (⟨#[]⟩,.aA)).1) (λi=>(f i).2)) (λi _=>rfl) (λi hi=>?_) its.toArray.size 0 _ _ (by omega) (bx _) ⟨⟨_,cw _ rfl,rfl,rfl⟩,wV.push _⟩ (hD.push _) (λi hi=>?_) λh3 wR k3 d3=>⟨rfl,?_⟩
 .intro m
  have m:s.heap.objs.size=h'.objs.size\/s.heap.objs.size=l:=by simpa using m
  rcases m with m | m
  .exact bU hsz m
  .exact yu wU m
 .have hP:its[i]? = some v:=by simpa using hP
  have hi:i<its.toArray.size:=by rw[bp];exact(bZ.mp hP).1
  obtain⟨t,p,e1,_,e3⟩:=gt i hi
  rw[hP] at e3
  cases e3
  show _=Value.ref (ts.getD i 0)
  rw[bM,e1]
  rfl
 .obtain⟨t,p,e1,e2,_⟩:=gt i hi
  have:=(hf i t p e1 e2).1
  show(bN X.prog X.w).is (Sum.inr (ps.getD i (⟨#[]⟩,.aA)).1) (f i).1=true
  rw[bM,e2]
  exact this
 .obtain⟨t,p,e1,e2,_⟩:=gt i hi
  obtain⟨o,ho,_⟩:=(hf i t p e1 e2).2.2
  have pe:=bE ho
  show ts.getD i 0∉[h'.objs.size]/\ts.getD i 0≠s.heap.objs.size
  rw[bM,e1]
  refine⟨λm=>?_,bU pe⟩
  exact bU (Nat.lt_trans pe hsz) (cg.mp m)
 .have:=ES (λi=>Sum.inr (ps.getD i (⟨#[]⟩,.aA)).1) (λi=>(f i).2) i
  rw[bp] at hi
  have Ak:(10000:Nat)<=sizeLine:=by decide
  omega
 .obtain⟨t,p,e1,e2,_⟩:=gt i hi
  obtain⟨o,ho,qT,c,hd2⟩:=(hf i t p e1 e2).2.2
  refine⟨o,c,?_,qT,hd2⟩
  show(h'.push _).get? (ts.getD i 0)=_
  rw[bM,e1]
  exact bw _ (kp _ _ ho)
 .have kv:∀i,i<=ps.length->KV (iT (ps.take i)) (strN (λi=>Sum.inr (ps.getD i (⟨#[]⟩,.aA)).1) (λi=>(f i).2) i):=by
   intro i
   induction i with
   |zero=>intro _;rw[oH];exact .nil
   |succ i ih=>
    intro hi
    have e2:ps[i]? = some ps[i]:=aU hi
    obtain⟨t,p,e1,e3,_⟩:=gt i (by rw[bp];omega)
    rw[e2] at e3
    cases e3
    rw[fL,e2]
    show KV (iT (ps.take i++[ps[i]])) (stored _ _ _)
    have eg:(ps.getD i (⟨#[]⟩,.aA))=ps[i]:=by rw[bM,e2];rfl
    dsimp only
    rw[Mo,eg]
    exact(ih (by omega)).put _ (hf i t _ e1 e2).2.1
  have EU:=kv ps.length (aQ _)
  rw[fw (aQ _)] at EU
  have en:its.toArray.size=ps.length:=by rw[bp];omega
  rw[en] at d3
  have ua:(iT ps).length<=sizeLine:=by
   rw[EU.length]
   exact bA (ES _ _ _) (bA hn (by decide))
  have fr:=I.fresh
  refine⟨.ref s.heap.objs.size,_,I.laid (a:=s.heap.objs.size) (o := .dK (iT ps)) (t':=wR) (λb o hb=>?_) (aQ _) (DO ua (sI.mpr (bj (bU I.big))) EU d3),rfl,q _ fr⟩
  have ji:=bE hb
  refine k3 b o (λm=>?_) (bU ji) (bw _ (kp _ _ hb))
  exact bU (Nat.lt_trans ji hsz) (cg.mp m)
theorem XJ:bootBuiltins "dict"=some (.type "dict"):=by decide +kernel
section
variable{prog:Program}{w:World}{KK:Type}[DecidableEq KK]{knd:HeapKind prog w KK}{A:Around}{E:Value->Shared->Prop}{s:Shared}
theorem XM{d a:Addr}{xs:List (KK×Addr×Value)}{k:KK}{v:Value}{Q:Value->Shared->Prop}(hu:knd.room A)(qR:knd.is s.heap k a)(hm:s.heap.DictOfH knd d xs)(hz:xs.length<=sizeLine)
  (old:∀p,atKey xs k=some p->Q p.2 { s with toks:=s.toks+knd.draws k })
  (new:atKey xs k=none->∀h',h'.DictOfH knd d (storedH xs k a v)->Heap.SameBut d s.heap h'->Q v { s with heap:=h',toks:=s.toks+knd.draws k }):wpAny (model prog w) A (dictSetDefault d (.ref a) v) Q E s:=by
 obtain⟨o,es,ep,ho,hc,hd,he,Mq,hn⟩:=hm
 unfold dictSetDefault
 refine iC (ag (knd.pyHash hu qR (ag (wpAny_dictFind_heap (s:={ s with toks:=s.toks+knd.draws k }) hu qR ho hd he Mq hn (λkN=>?_) λj p hj=>?_))))
 .have e0:=atKey_none_of_get kN
  have XN:k∉xs.map (·.1):=not_mem_keys_of_get kN
  have ez:=size_of_entries he
  have nw:=new e0
  rw[storedH_new e0] at nw
  refine ag (sR (ag (wpAny_updateDictKeys (hz:=by omega) (s:={ s with toks:=s.toks+knd.draws k }) ho hd (aJ (nw _ ⟨_,_,ep+1,oq _ ho (Obj.isFreed_of_dict (Obj.data_mapDictKeys hd _)),hc.mapDictKeys _,Obj.data_mapDictKeys hd _,?_,λx hx=>?_,?_⟩ (qA ..))))))
  .simp[he,entryOfKey]
  .rcases dh.mp hx with hx | hx
   .exact knd.keeps (Mq x hx) ho hd (qA ..)
   .rw[cg.mp hx]
    exact knd.keeps qR ho hd (qA ..)
  .rw[dW,oI]
   exact⟨hn,by simp,λx hx y hy z=>XN (by rw[<-show y=k by simpa using hy,<-z];exact hx)⟩
 .refine ag (wpAny_dictEntries (s:={ s with toks:=s.toks+knd.draws k }) ho hd ?_)
  rw[entry_at he j,hj]
  exact ag (sR (aJ (old p (atKey_of_get hn hj))))
end
section
variable{X:Cx}{pins:List (Addr×Obj)}{σ:St}{H:Hp}{s:Shared}{a b:Addr}{A:Around}{E:Value->Shared->Prop}{kvs:List (List Key×V)}{k:List Key}{z:V}{r:Value}
theorem XO{Q:Value->Shared->Prop}(hu:A.units+1<cLine)(I:Inv X pins σ H s)(e:H a=some (.dT kvs))(eb:H b=some (.tup (k.map kV)))(hl:kvs.length<sizeLine)(rz:RelV z r)
  (old:∀v,aL kvs k=some v->∀u s',Inv X pins σ H s'->RelV v u->Q u s') (new:aL kvs k=none->∀s',Inv X pins σ (upd H a (.dT (putK kvs k z))) s'->Q r s') :
  wpAny (model X.prog X.w) A (call (.builtin "dict.setdefault") [.ref a,.ref b,r]) Q E s:=by
 obtain⟨hz,hd,xs,rel,dd⟩:=K7 I.aC e
 refine qz PySem.F.slot_dict_setdefault dd.typeIs PySem.F.entry_dict_setdefault ?_ (PySem.F.args_dict_setdefault_3 _ _ _)
 unfold Builtin.«dict.setdefault» Builtin.Dict.keyAndDefault
 refine ag (ag (wpAny_notOrdered_dict dd.typeIs ?_))
 show wpAny _ A.in1 (pure (a,Value.ref b,some r)) _ _ s
 refine aJ ?_
 show wpAny _ A.in1 (if (a==sysModules)=true then _ else (dictSetDefault a (.ref b) r >>= λv=>ret v)) _ _ s
 rw[aq (show ¬(a==sysModules)=true by rw[hd];decide)]
 refine ag (XM (yC hu) (qX I.aC eb) dd (by rw[<-iB rel];exact hz) (λp hp=>?_) λhp h' ni hs=>?_)
 .obtain⟨v,hv,rv⟩:∃v,aL kvs k=some v/\RelV v p.2:=by
   have:=rel.val k
   rw[hp] at this
   cases hv:aL kvs k with
   |none=>rw[hv] at this;exact this.elim
   |some v=>rw[hv] at this;exact⟨v,rfl,this⟩
  exact aJ ⟨_,rfl,old v hv _ _ (I.tok _) rv⟩
 .have hv:aL kvs k=none:=by
   have:=rel.val k
   rw[hp] at this
   cases hv:aL kvs k with
   |none=>rfl
   |some v=>rw[hv] at this;exact this.elim
  have h8:(putK kvs k z).length<=sizeLine:=by have:=tN kvs k z;omega
  refine aJ ⟨_,rfl,new hv _ ?_⟩
  obtain⟨q,es,ep,hq,h2,h3,h4,_,h5⟩:=ni
  refine zw I (by rw[e];exact True.intro) hs ⟨q,hq⟩ ⟨h8,hd,_,(rel.put k eb rz).keeps λc ys ec=>?_,q,es,ep,hq,h2,h3,h4,h5⟩
  rw[ak (b0 ec e (λz=>nomatch z))]
  exact ec
end
section
variable{X:Cx}{o e f:Expr}{td ty tx:TE}{apos c6:Pos}
def XQ(td ty tx:TE):TE:=λσ H Q=>td σ H λx H1=>∃a,x = .ref a/\zF H1 a/\ty σ H1 λy H2=>tx σ H2 λz H3=>∃kvs k b,H3 a=some (.dT kvs)/\y = .ref b/\H3 b=some (.tup (k.map kV))/\kvs.length<sizeLine/\
 (∀v,aL kvs k=some v->Q v H3)/\(aL kvs k=none->Q z (upd H3 a (.dT (putK kvs k z))))
theorem XR(hu:X.A.units+1<cLine)(ho:PE X o td)(he:PE X e ty)(hf:PE X f tx)(m:M2 X o "setdefault" apos e f c6):PE X (.Call (.Attribute o "setdefault" apos) [e,f] [] c6) (XQ td ty tx):=by
 intro pins s σ H Q I h
 refine wpAny_Call_method m.base m.dm m.line RT PySem.F.slot_dict_setdefault PySem.F.type_dict_setdefault (aB (ho pins s σ H _ I h) λu s1 ⟨x,H1,I1,rx,a,ex,d,q1⟩=>?_)
 subst ex
 obtain rfl:u=Value.ref a:=rx
 obtain⟨t1,t2,_⟩:=DR I1 d
 refine⟨t1,t2,?_⟩
 rw[m.trees]
 refine Jr rfl (Js (yx (aB (he pins s1 σ H1 _ I1 q1) λiv s2 ⟨y,H2,I2,ry,q2⟩=>yx (aB (hf pins s2 σ H2 _ I2 q2) λfv s3 ⟨z,H3,I3,rz,kvs,k,b,ea,ey,eb,hl,q3,q4⟩=>Jn ?_))))
 subst ey
 obtain rfl:iv=Value.ref b:=ry
 exact XO hu I3 ea eb hl rz (λv hv u s4 I4 ru=>⟨v,H3,I4,ru,q3 v hv⟩) λhv s4 I4=>⟨z,_,I4,rz,q4 hv⟩
end
section
variable{prog:Program}{w:World}{A:Around}{R:Result->Shared->Prop}{I:Addr}{fp wr:List Addr}{n:Nat}{P:Nat->Value->Prop}{St:Nat->Heap->Prop}
def lY(h:Heap)(t:Addr)(a b:Int):Prop := ∃u v:Tok,IsTup h t #[.int a u,.int b v]
theorem lY.ext{h h':Heap}{t:Addr}{a b:Int}(x:lY h t a b)(k:∀o,h.get? t=some o->h'.get? t=some o):lY h' t a b:=let ⟨u,v,o,ho,r⟩:=x;⟨u,v,o,k o ho,r⟩
theorem XS{s:Shared}{E:Value->Shared->Prop}{Q:Value->Shared->Prop}{t t':Addr}{a b a' b':Int}(x:lY s.heap t a b)(y:lY s.heap t' a' b')(hu:A.units<cLine)(h:Q (.bool (HT.lexLt [a,b] [a',b'])) s) :
  wpAny (model prog w) A (richCompare .Lt (.ref t) (.ref t')) Q E s:=by
 obtain⟨u,v,p⟩:=x
 obtain⟨u',v',p'⟩:=y
 exact HT.Up p p' (.cons a u (.cons b v .nil)) (.cons a' u' (.cons b' v' .nil)) hu h
theorem Mr{a b a' b':Int}:(HT.lexLt [a,b] [a',b']=true->a<=a')/\(HT.lexLt [a,b] [a',b']=false->a'<=a):=by
 rw[HT.KL]
 by_cases e:a=a'
 .exact⟨λ_=>by omega,λ_=>by omega⟩
 .rw[aq e]
  exact⟨λh=>by have:=eQ h;omega,λh=>by have:=of_decide_eq_false h;omega⟩
theorem XT(W:Walks prog w A.in1 I fp wr n P St)(bs:Addr)(ub:bs∉fp)(hu:A.in1.units<cLine)(tt:Nat->Addr)(fa fb:Nat->Int)(hP:∀i v,P i v->v = .ref (tt i))(ht:∀i,i<n->tt i∉wr/\tt i≠bs) :
  ∀(k j:Nat) (s:Shared) (b c:Nat),n - (j+1)=k->j+1<=n->St (j+1) s.heap->b<=j->(∀i,i<=j->fa b<=fa i)->s.heap.get? bs=some { cls := .type "list",data := .seq #[.ref (tt b),.ref (tt b)] c }->(∀i,i<n->lY s.heap (tt i) (fa i) (fb i))->
  (∀b h' tk,b<n->(∀i,i<n->fa b<=fa i)->(∀x o,x∉wr->x≠bs->s.heap.get? x=some o->h'.get? x=some o)->R (.ok (.ret (.ref (tt b)))) { s with heap:=h',toks:=tk })->
  codeAny (model prog w) A (.builtin "min.loop" ⟨[.ref I,.none,.ref bs],[]⟩) R s:=by
 have rF:bs∉wr:=λh=>ub (W.sub _ h)
 have uc:(toString "min"++toString ".loop":String)="min.loop":=by decide
 intro k
 induction k with
 |zero=>
  intro j s b c hk hj dy hb lZ hS hT hR
  have bu:j+1=n:=by omega
  refine qC F.entry_min_loop ?_
  rw[sS vG _]
  show wpAny _ A.in1 (seqItems? (.ref bs) >>= _) _ _ s
  refine ag (ki hS rfl ?_)
  show wpAny _ A.in1 (tryCatch (pyNext (.ref I)) _ >>= _) _ _ s;refine ag (CZ (W.done s _ _ (by rw[<-bu];exact dy) λh' tk kp=>?_))
  have l0:=kp bs _ rF hS
  show wpAny _ A.in1 (updateSeq bs (λ_=>#[]) >>= _) _ _ _
  refine ag (wpAny_updateSeq l0 rfl (ag (vE (aJ (hR b _ tk (by omega) (λi hi=>lZ i (by omega)) λx o h1 h2 e=>(mK _ _ (bj h2)).trans (kp x o h1 e))))))
 |succ k ih=>
  intro j s b c hk hj dy hb lZ hS hT hR
  have aN:j+1<n:=by omega
  refine qC F.entry_min_loop ?_
  rw[sS vG _]
  show wpAny _ A.in1 (seqItems? (.ref bs) >>= _) _ _ s
  refine ag (ki hS rfl ?_)
  show wpAny _ A.in1 (tryCatch (pyNext (.ref I)) _ >>= _) _ _ s;refine ag (CZ (W.item (j+1) s _ _ aN dy λv h' tk hv lW kp=>?_))
  have l0:=kp bs _ rF hS
  have Al:∀i,i<n->lY h' (tt i) (fa i) (fb i):=λi hi=>(hT i hi).ext λo e=>kp _ o (ht i hi).1 e
  rw[hP _ v hv]
  show wpAny _ A.in1 (tryCatch (holding _ (richCompare .Lt (.ref (tt (j+1))) (.ref (tt b)) >>= _)) _ >>= _) _ _ _
  refine ag (CZ (iC (ag (XS (s:={ s with heap:=h',toks:=tk }) (Al _ aN) (Al b (by omega)) hu ?_))))
  refine ag (iC (oo (ag (vE (aJ ?_)))))
  cases hc:HT.lexLt [fa (j+1),fb (j+1)] [fa b,fb b] with
  |true=>
   have h1:=Mr.1 hc
   simp only[fY]
   refine ag (wpAny_updateSeq l0 rfl (ag (vE ?_)))
   rw[uc]
   refine aJ ⟨sT vG _,ih (j+1) _ (j+1) _ (by omega) aN (W.frame _ _ _ lW λx hx o e=>?_) (aQ _) (λi hi=>?_) (oq _ l0 rfl) (λi hi=>(Al i hi).ext λo e=>(mK _ _ (bj (ht i hi).2)).trans e) λb' h2 jq q1 q2 q3=>hR b' h2 jq q1 q2 λx o h1 h2 e=>q3 x o h1 h2 ((mK _ _ (bj h2)).trans (kp x o h1 e))⟩
   .exact(mK _ _ (λz:bs=x=>ub (by rw[z];exact hx))).trans e
   .rcases yM j i with z | z
    .rw[show i=j+1 by omega];exact Int.le_refl _
    .have:=lZ i z;omega
  |false=>
   have h1:=Mr.2 hc
   simp only[fu,eK]
   refine ag (vE ?_)
   rw[uc]
   refine aJ ⟨sT vG _,ih (j+1) _ b c (by omega) aN lW (by omega) (λi hi=>?_) l0 Al λb' h2 jq q1 q2 q3=>hR b' h2 jq q1 q2 λx o h1 h2 e=>q3 x o h1 h2 (kp x o h1 e)⟩
   rcases yM j i with z | z
   .rw[show i=j+1 by omega];exact h1
   .exact lZ i z
theorem XU(W:Walks prog w A.in1 I fp wr n P St)(bs:Addr)(ub:bs∉fp)(hu:A.in1.units<cLine)(tt:Nat->Addr)(fa fb:Nat->Int)(hP:∀i v,P i v->v = .ref (tt i))(ht:∀i,i<n->tt i∉wr/\tt i≠bs)(hn:0<n){s:Shared}{c:Nat}(dy:St 0 s.heap)
  (hS:s.heap.get? bs=some { cls := .type "list",data := .seq #[] c }) (hT:∀i,i<n->lY s.heap (tt i) (fa i) (fb i))
  (hR:∀b h' tk,b<n->(∀i,i<n->fa b<=fa i)->(∀x o,x∉wr->x≠bs->s.heap.get? x=some o->h'.get? x=some o)->R (.ok (.ret (.ref (tt b)))) { s with heap:=h',toks:=tk }) :
  codeAny (model prog w) A (.builtin "min.loop" ⟨[.ref I,.none,.ref bs],[]⟩) R s:=by
 have rF:bs∉wr:=λh=>ub (W.sub _ h)
 have uc:(toString "min"++toString ".loop":String)="min.loop":=by decide
 refine qC F.entry_min_loop ?_
 rw[sS vG _]
 show wpAny _ A.in1 (seqItems? (.ref bs) >>= _) _ _ s
 refine ag (ki hS rfl ?_)
 show wpAny _ A.in1 (tryCatch (pyNext (.ref I)) _ >>= _) _ _ s;refine ag (CZ (W.item 0 s _ _ hn dy λv h' tk hv lW kp=>?_))
 have l0:=kp bs _ rF hS
 rw[hP _ v hv]
 show wpAny _ A.in1 (updateSeq bs (λ_=>#[.ref (tt 0),.ref (tt 0)]) >>= _) _ _ _
 refine ag (wpAny_updateSeq l0 rfl ?_)
 rw[uc]
 refine aJ ⟨sT vG _,XT W bs ub hu tt fa fb hP ht _ 0 _ 0 _ rfl hn (W.frame _ _ _ lW λx hx o e=>?_) (aQ _) (λi hi=>?_) (oq _ l0 rfl) (λi hi=>((hT i hi).ext λo e=>kp _ o (ht i hi).1 e).ext λo e=>(mK _ _ (bj (ht i hi).2)).trans e)
  λb' h2 jq q1 q2 q3=>hR b' h2 jq q1 q2 λx o h1 h2 e=>q3 x o h1 h2 ((mK _ _ (bj h2)).trans (kp x o h1 e))⟩
 .exact(mK _ _ (λz:bs=x=>ub (by rw[z];exact hx))).trans e
 .rw[show i=0 by omega];exact Int.le_refl _
end
section
variable{X:Cx}
theorem XW(hc:X.calm=true)(hu:X.A.units+4<cLine):gE X (.builtin "min") (λxs H Q=>∃(a:Addr) (ts:List Addr) (ps:List (Int×Int)),xs=[.ref a]/\H a=some (.lst (ts.map V.ref))/\Paired (λt p=>H t=some (.tup [.int p.1,.int p.2])) ts ps/\0<ps.length/\
  ∀(b:Nat) (t:Addr) (p:Int×Int),ts[b]? = some t->ps[b]? = some p->(∀q∈ps,p.1<=q.1)->Q (.ref t) H):=by
 intro pins s σ H xs us Q I r h
 obtain⟨l,ts,ps,rfl,hl,hp,hn,q⟩:=h
 obtain⟨u,rfl,ru⟩:=vals1 r
 cases ru
 obtain⟨z,its,n,rv,hlen,e⟩:=I.o9 hl
 have hh:X.A.handled=none:=I.ok.hd hc
 have t9:=iB hp
 rw[ar] at hlen
 have wU:l<s.heap.objs.size:=bE e
 have wV:s.heap.IsList l its.toArray:=⟨_,e,rfl,n,rfl⟩
 have gt:∀i,i<ts.length->∃(t:Addr) (p:Int×Int),ts[i]? = some t/\ps[i]? = some p/\its[i]? = some (.ref t)/\lY s.heap t p.1 p.2:=λi hi=>by
  have e1:ts[i]? = some ts[i]:=aU hi
  obtain⟨p,fE,ht⟩:=Paired.getL hp e1
  obtain⟨u,hu,ru⟩:=rv.get (i:=i) (x:=V.ref ts[i]) (by rw[bb,e1];rfl)
  cases ru
  obtain⟨XI,ET,hT,_⟩:=I.tuple (aw.of ht)
  obtain⟨a1,a2,rfl,r1,r2⟩:=vals2 ET
  obtain⟨t1,rfl⟩:=r1
  obtain⟨t2,rfl⟩:=r2
  exact⟨_,p,e1,fE,hu,t1,t2,hT⟩
 refine call_function_tree F.kind_min F.plain_min F.entry_min (F.args_min1 _) ?_
 show wpAny _ X.A.in1 (Builtin.Builtins.bindParams "min" ["key","default"] 0 ⟨[],[]⟩ >>= _) _ _ s
 refine ag (oE (a:=[none,none]) rfl (ag (aJ (ag (vw wV ?_)))))
 refine ag (vB ?_)
 have uc:(toString "min"++toString ".loop":String)="min.loop":=by decide
 rw[uc]
 have z1:(s.heap.push { cls := .type "list_iterator",data := .fields #[.ref l,.int 0 0] }).objs.size=s.heap.objs.size+1:=qB _ _
 refine aJ ⟨sT vG _,XU (Walks.list (A:=X.A.in1) hh s.heap.objs.size l (bU wU) its.toArray) _ ?_ (by show X.A.units+1<cLine;omega) (λi=>ts.getD i 0) (λi=>(ps.getD i (0,0)).1) (λi=>(ps.getD i (0,0)).2) (λi v hP=>?_) (λi hi=>?_) (by rw[bp];omega)
  ⟨⟨_,bw _ (cw _ rfl),rfl,rfl⟩,(wV.push _).push _⟩ (cw _ rfl) (λi hi=>?_) λb h' tk hb hm kp=>?_⟩
 .intro m
  have m:(s.heap.push { cls := .type "list_iterator",data := .fields #[.ref l,.int 0 0] }).objs.size=s.heap.objs.size\/(s.heap.push { cls := .type "list_iterator",data := .fields #[.ref l,.int 0 0] }).objs.size=l:=by simpa using m
  rw[z1] at m
  rcases m with m | m
  .exact yu (qx _) m
  .exact yu (oB wU) m
 .have hP:its[i]? = some v:=by simpa using hP
  obtain⟨t,p,e1,_,e3,_⟩:=gt i (by have:=(bZ.mp hP).1;omega)
  rw[hP] at e3
  cases e3
  show _=Value.ref (ts.getD i 0)
  rw[bM,e1]
  rfl
 .obtain⟨t,p,e1,e2,_,x,y,o,ho,_⟩:=gt i (by rw[bp] at hi;omega)
  have pe:=bE ho
  show ts.getD i 0∉[s.heap.objs.size]/\ts.getD i 0≠(s.heap.push _).objs.size
  rw[bM,e1,z1]
  exact⟨λm=>bU pe (cg.mp m),bU (oB pe)⟩
 .obtain⟨t,p,e1,e2,_,hT⟩:=gt i (by rw[bp] at hi;omega)
  show lY _ (ts.getD i 0) (ps.getD i (0,0)).1 (ps.getD i (0,0)).2
  rw[bM,bM,e1,e2]
  exact hT.ext λo e=>bw _ (bw _ e)
 .obtain⟨t,p,e1,e2,_⟩:=gt b (by rw[bp] at hb;omega)
  have et:ts.getD b 0=t:=by rw[bM,e1];rfl
  have ep:ps.getD b (0,0)=p:=by rw[bM,e2];rfl
  show EP X pins σ Q (.ref (ts.getD b 0)) _
  rw[et]
  refine⟨.ref t,H,I.kept (t':=tk) (λx o hx=>?_),rfl,q b t p e1 e2 λp' fc=>?_⟩
  .have ig:=bE hx
   exact kp x o (λm=>bU ig (cg.mp m)) (by show x≠(s.heap.push _).objs.size;rw[z1];exact bU (oB ig)) (bw _ (bw _ hx))
  .obtain⟨i,hi⟩:=eS fc
   have XX:=(bZ.mp hi).1
   have:=hm i (by rw[bp];omega)
   rw[ep,bM,hi] at this
   exact this
end
structure Am(K:PySem.W.Frag)(mg:Str->Option Value)(x:Str)(C:Addr):Prop where
 Ms:PySem.W.makesIn K C=true
 it:PySem.W.findIn K (.ref C) "__init__"=some (some (.builtin "object.__init__"))
 kp:PySem.W.keepIn K (.ref C)=true
 gl:mg x=some (.ref C)
def XY(C:Addr):TE:=λ_ H Q=>∀x dx,H x=none->H dx=none->dx≠x->Q (.ref x) (upd (upd H dx (.own x)) x (.ins C dx []))
theorem XZ{X:Cx}{x:Str}{C:Addr}{p pos:Pos}(N:Am X.K X.mg x C)(hg:Gl X x)(gk:(x==("__debug__":Str))=false:=by decide):PE X (.Call (.Name x p) [] [] pos) (XY C):=by
 intro pins s σ H Q I h
 refine vy (vQ I hg N.gl ?_ gk)
 refine PySem.W.callWith_K0 I.cU N.kp (yz (TC I.cU N.Ms N.it (λself=>PySem.W.Looks.of_pure (PySem.W.oi_bind self)) ?_))
 have I2:=Inv.made (C:=C) I
 have q:=h (s.heap.objs.size+1) s.heap.objs.size (I.aC.fresh (gC _)) (I.aC.fresh (aQ _)) (bU (qx _))
 have Y:=PySem.W.makes_of (M:=model X.prog X.w) I.cU N.Ms
 have e2:((s.heap.push PySem.W.emptyDict).push (PySem.W.instObj C s.heap.objs.size)).get? (s.heap.objs.size+1)=some (PySem.W.instObj C s.heap.objs.size):=by
  have:((s.heap.push PySem.W.emptyDict).push (PySem.W.instObj C s.heap.objs.size)).get? (s.heap.push PySem.W.emptyDict).objs.size=some (PySem.W.instObj C s.heap.objs.size):=cw _ rfl
  rwa [kh] at this
 have lt:PySem.W.Looks (model X.prog X.w) ((s.heap.push PySem.W.emptyDict).push (PySem.W.instObj C s.heap.objs.size)) (typeOf (.ref (s.heap.objs.size+1))) (.ref C):=(PySem.W.Looks.ld e2).andThen .now
 have lk:PySem.W.Looks (model X.prog X.w) ((s.heap.push PySem.W.emptyDict).push (PySem.W.instObj C s.heap.objs.size)) (isInstance (.ref (s.heap.objs.size+1)) (.type "object")) true:=lt.andThen (Y.top.keeps λb o e=>bw _ (bw _ e))
 refine codeAny_call_builtin PySem.W.oi_plain PySem.W.entry_oi (@PySem.W.check_slot (model X.prog X.w) _ _ _ "object.__init__" "object" "__init__" (.ref (s.heap.objs.size+1)) [] [] _ PySem.W.oi_kind PySem.W.oi_split lk (PySem.W.oi_args _) ?_)
 rw[PySem.W.oi_run]
 exact aJ ⟨rfl,.ref (s.heap.objs.size+1),_,I2,rfl,q⟩
structure agf(K:PySem.W.Frag)(C:Addr):Prop where
 cl:cI K C
 ha:PySem.W.findIn K (.ref C) "__class__"=some (some (.builtin "object.__class__"))
 hn:PySem.W.specialIn K (.builtin "object.__class__") "__get__"=some (some (.builtin "getset_descriptor.__get__"))
 ht:PySem.W.takesIn K (.builtin "object.__class__")=some true
 hm:PySem.W.mroIn K C (.type "object")=some true
section
variable{X:Cx}{pins:List (Addr×Obj)}{σ:St}{H:Hp}{s:Shared}
noncomputable def fD(K:PySem.W.Frag)(H:Hp)(e:D)(u:Value):Bool :=@decide (∃d x,At K H d x/\RelV x u/\d7 d e=true) (Classical.propDecidable _)
theorem X0(I:Inv X pins σ H s){d e:D}{x:V}{u:Value}(a:At X.K H d x)(r:RelV x u):fD X.K H e u=d7 d e:=by
 unfold fD
 rw[Cz]
 constructor
 .intro hh
  obtain⟨d',x',a',r',h⟩ :=@eQ _ (Classical.propDecidable _) hh
  have ex:=r.inj r'
  subst ex
  rw[At.inj I d d' x a a']
  exact h
 .intro h
  exact @aG _ (Classical.propDecidable _) ⟨d,x,a,r,h⟩
theorem Mu(I:Inv X pins σ H s){e:D}{y:V}{v:Value}{A:Around}(hu:A.units+50<cLine)(ae:At X.K H e y)(ry:RelV y v):∀{ds:List D}{xs:List V}{us:List Value},dC X.K H ds xs->Vals xs us->eZ ds<=50->(∀u∈us,SeqAt.EqAt A s u v (fD X.K H e u))/\us.any (fD X.K H e)=ds.any λd=>d7 d e
 |[],xs,us,a,r,_=>by
  rw[dC] at a
  subst a
  cases r
  exact⟨λu m=>by(cases m),rfl⟩
 |d::ds,xs,us,a,r,hd=>by
  rw[dC] at a
  obtain⟨x,xr,rfl,a1,a2⟩:=a
  cases r with
  |cons r1 r2=>
   rw[eZ] at hd
   obtain⟨i1,i2⟩:=Mu I hu ae ry a2 r2 (by omega)
   have ef:=X0 I (e:=e) a1 r1
   refine⟨λu m=>?_,?_⟩
   .rcases bX.mp m with z | z
    .subst z
     rw[ef]
     exact Ly I d e x y _ v A 50 (by omega) hu a1 ae r1 ry
    .exact i1 u z
   .rw[sM,sM,ef,i2]
def Mv(K:PySem.W.Frag)(neg:Bool):R2:=λx y H Q=>∃p xs ds e,y = .ref p/\aj K H p xs/\dC K H ds xs/\At K H e x/\eZ ds<=50/\Q (.bl (if neg then !(ds.any λd=>d7 d e) else ds.any λd=>d7 d e)) H
theorem X1(hu:X.A.units+64<cLine):cM X (compareOp .In) (Mv X.K false):=by
 intro pins s σ H x y v u Q I rx ry h
 obtain⟨p,xs,ds,e,rfl,hq,ad,ae,hd,q⟩:=h
 cases ry
 obtain⟨its,r,pl,hz⟩:=I.list hq
 obtain⟨h1,h2⟩:=Mu I (A:=X.A.in1) (by show X.A.units+1+50<cLine;omega) ae rx ad r hd
 refine SeqAt.in_listAt (fD X.K H e) pl.isList (λw hw=>h1 w (by simpa using hw)) ⟨.bl _,H,I,rfl,?_⟩
 rw[show its.toArray.any (fD X.K H e)=its.any (fD X.K H e) by simp,h2]
 exact q
end
theorem EV:plainId "set.update.loop"=true:=by decide +kernel
theorem Mw:entryFor table "set.update.loop"=some Builtin.«set.update.loop»:=entryFor_of_fast (by kernel_rfl)
section
variable{prog:Program}{w:World}{A:Around}{E:Value->Shared->Prop}{s:Shared}
noncomputable def kO(b:Bool):Obj:={ cls := .type "set",dict:=none,data := .set #[] 0 (.fresh 0 0 b) }
theorem X2(x:Value):checkBuiltinCall "set.__new__" ⟨[.type "set",x],[]⟩=pure ():=by kernel_rfl
theorem X3(x:Value):checkTypeCall "set" ⟨[x],[]⟩=pure ():=by kernel_rfl
theorem X4{x:Value}{Z:Value->Shared->Prop}(hq:∀b:Bool,Z (.ref s.heap.objs.size) { s with heap:=s.heap.push (kO b) }) :
  codeAny (model prog w) A (.call (.builtin "set.__new__") ⟨[.type "set",x],[]⟩) (wants Z E) s:=by
 refine codeAny_of_tree ?_
 refine ag (m:=checkBuiltinCall "set.__new__" ⟨[.type "set",x],[]⟩) (oE (X2 x) (aJ ⟨sT F.plain_set_new _,qC F.entry_set_new ?_⟩))
 rw[sS F.plain_set_new _]
 unfold Builtin.«set.__new__» Builtin.Frozenset.newClass
 have hb:=sub_set_self
 cases s
 dsimp only
 wp_walk
 refine wpAny_askSetting (aJ ?_)
 dsimp only
 simp only[newObj]
 exact ag (wpAny_alloc (aJ (aJ (hq _))))
theorem X5{M:Model}{o x:Value}{Z:Unit->Shared->Prop}(hT:s.TypeIs o "set")(hZ:Z () s):wpAny M A (checkBuiltinCall "set.__init__" ⟨[o,x],[]⟩) Z E s:=by
 simp only[checkBuiltinCall,kind_set_init,split_set_init,sig_set_init]
 refine ag (Jz hT sub_set_self ?_)
 simp only[vH,fu,eK]
 unfold Bind.checkArgs
 dsimp only
 refine ag (m:=Bind.printed "set" true _ _) (printed_name (by decide) ?_)
 refine ag (m:=Bind.printed "*" false _ _) (printed_star (self:=o) rfl hT λsh=>?_)
 have e1:(if (Manifest.Receiver.self==Manifest.Receiver.none)=true then [o,x].length else [o,x].length - 1)=1:=by simp[show(Manifest.Receiver.self==Manifest.Receiver.none)=false from by decide]
 rw[e1]
 simp only[vA]
 have e2:Bind.check ⟨.positional,"set","*",.self,[⟨"iterable",.posOnly,false⟩]⟩ "set" sh 1 []=pure ():=by
  simp[Bind.check,Bind.checkCount,Bind.isPositional]
  intro z
  exact absurd z (by decide)
 rw[e2]
 exact aJ hZ
theorem Mx:isSubtype (.type "list") (.type "set")=pure false:=by rw[yG];kernel_rfl
theorem My:isSubtype (.type "list") (.type "frozenset")=pure false:=by rw[yG];kernel_rfl
theorem X6{S p:Addr}{Z:Unit->Shared->Prop}(hL:s.TypeIs (.ref p) "list")
  (h:wpAny (model prog w) A (pyIter (.ref p)) (λit s1=>wpAny (model prog w) A (runValue (.builtin "set.update.loop" ⟨[.ref S,it],[]⟩)) (λ_ s2=>Z () s2) E s1) E s) :
  wpAny (model prog w) A (Builtin.Frozenset.updateFrom "set.__init__" S (.ref p)) Z E s:=by
 unfold Builtin.Frozenset.updateFrom Builtin.Frozenset.isAnySet
 generalize pyIter (.ref p)=it at h ⊢
 have s1:=Mx
 have s2:=My
 wp_walk
 exact aB h λa s' hq=>ag (aB hq λ_ _ z=>aJ z)
theorem X7{p:Addr}{Q:Value->Shared->Prop}(hL:s.TypeIs (.ref p) "list")
  (h:∀b:Bool,wpAny (model prog w) A.in1.in1 (pyIter (.ref p)) (λit s1=>wpAny (model prog w) A.in1.in1 (runValue (.builtin "set.update.loop" ⟨[.ref s.heap.objs.size,it],[]⟩)) (λ_ s2=>Q (.ref s.heap.objs.size) s2) E s1) E { s with heap:=s.heap.push (kO b) }) :
  wpAny (model prog w) A (call (.type "set") [.ref p]) Q E s:=by
 obtain⟨c,tl,agg⟩:=sV.mro
 have agh:=sV.made
 have WZ:=sV.sub
 refine yz (codeAny_of_tree ?_)
 refine aJ ⟨Code.quiet_builtin _ (by decide +kernel),qC F.entry_type_call ?_⟩
 rw[Around.under_plain (weight_type_call_type "set" [.ref p] []) rfl]
 have h1:=sV.notType
 have h2:=sV.canCreate
 have h3:=X3 (.ref p)
 repeat (any_goals (first | assumption | wp_step))
 refine vx (X4 (E:=E) (Z:=λo s1=>∃b:Bool,o = .ref s.heap.objs.size/\s1={ s with heap:=s.heap.push (kO b) }) λb=>⟨b,rfl,rfl⟩) λr s1 hr=>?_
 rcases r with e | fl
 .exact hr
 .cases fl with
  |ret o=>
   obtain⟨b,rfl,rfl⟩:=hr
   have hS:(s.heap.push (kO b)).get? s.heap.objs.size=some (kO b):=cw _ rfl
   have hT:Shared.TypeIs { s with heap:=s.heap.push (kO b) } (.ref s.heap.objs.size) "set":=⟨_,hS,rfl⟩
   have li:=sV.init.lookup
   have bi:=sV.init.bind (.ref s.heap.objs.size)
   repeat (any_goals (first | assumption | wp_step))
   refine vx (codeAny_call_builtin (R:=wants (λr s2=>r = .none/\Q (.ref s.heap.objs.size) s2) E) sV.init.plain F.entry_set_init (X5 hT ?_)) λr2 s2 wQ=>?_
   .unfold Builtin.«set.__init__» noKeywords
    have X8:Shared.TypeIs { s with heap:=s.heap.push (kO b) } (.ref p) "list":=let ⟨o,e,c⟩:=hL;⟨o,bw _ e,c⟩
    have s1:=Mx
    have s2:=My
    generalize hU:Builtin.Frozenset.updateFrom "set.__init__"=U
    wp_walk
    subst hU
    exact X6 X8 (aB (h b) λit s1 hz=>aB hz λ_ s2 hq=>aJ ⟨rfl,hq⟩)
   .rcases r2 with e | fl
    .exact wQ
    .cases fl with
     |ret r=>
      obtain⟨rfl,hq⟩:=wQ
      repeat (any_goals (first | assumption | wp_step))
     |_=>exact wQ.elim
  |_=>exact hr.elim
end
theorem X9:bootBuiltins "set"=some (.type "set"):=by decide +kernel
end L2
namespace L2
open PySem
noncomputable def nE(t:SetTable):Nat->SetTable.Probe->SetTable.Probe
 |0,p=>p
 |n+1,p=>nE t n (t.advance p)
theorem Mz(t:SetTable):∀(m n:Nat) (p:SetTable.Probe),nE t (m+n) p=nE t n (nE t m p)
 |0,n,p=>by rw[mO];rfl
 |m+1,n,p=>by rw[Nat.succ_add];exact Mz t m n (t.advance p)
noncomputable def Ao(t:SetTable)(p:SetTable.Probe)(i q:Nat):SetTable.Probe:={ p with j:=i,more:=SetTable.runEnd t.mask i - i,i:=i,perturb:=q }
theorem EW(t:SetTable):∀(m:Nat) (p:SetTable.Probe),p.more=m->nE t (m+1) p=Ao t p (SetTable.leap t.mask p.i p.perturb).1 (SetTable.leap t.mask p.i p.perturb).2
 |0,p,h=>by
  show t.advance p=_
  unfold SetTable.advance Ao
  rw[aq (by omega)]
 |m+1,p,h=>by
  show nE t (m+1) (t.advance p)=_
  have e:t.advance p={ p with j:=p.j+1,more:=p.more - 1 }:=by
   unfold SetTable.advance
   rw[ax (by omega)]
  rw[e,EW t m _ (by show p.more - 1=m;omega)]
  rfl
theorem EX(m i:Nat):SetTable.runEnd m i - i<=9:=by
 unfold SetTable.runEnd
 split <;> omega
noncomputable def eF(m:Nat):Nat->Nat×Nat->Nat×Nat
 |0,x=>x
 |n+1,x=>eF m n (SetTable.leap m x.1 x.2)
theorem EY(m:Nat):∀(a b:Nat) (x:Nat×Nat),eF m (a+b) x=eF m b (eF m a x)
 |0,b,x=>by rw[mO];rfl
 |a+1,b,x=>by rw[Nat.succ_add];exact EY m a b _
theorem MA(t:SetTable):∀(n:Nat) (p:SetTable.Probe),p.more<=9->∃d,d<=10*(n+1)/\n+1<=d/\nE t d p=Ao t p (eF t.mask (n+1) (p.i,p.perturb)).1 (eF t.mask (n+1) (p.i,p.perturb)).2
 |0,p,h=>⟨p.more+1,by omega,by omega,EW t p.more p rfl⟩
 |n+1,p,h=>by
  have e:=EW t p.more p rfl
  obtain⟨d,hd,hd2,ed⟩:=MA t n (Ao t p (SetTable.leap t.mask p.i p.perturb).1 (SetTable.leap t.mask p.i p.perturb).2) (EX _ _)
  refine⟨p.more+1+d,by omega,by omega,?_⟩
  rw[Mz,e,ed]
  rfl
theorem EZ(m:Nat):∀(n:Nat) (x:Nat×Nat),(eF m n x).2=x.2 / 32 ^ n
 |0,x=>by simp[eF]
 |n+1,x=>by
  rw[eF,EZ m n]
  show x.2 / 32 / 32 ^ n=_
  rw[Nat.div_div_eq_div_mul,Nat.pow_succ,mM]
theorem E1(m:Nat):∀(n:Nat) (x:Nat×Nat),(eF m (n+1) x).1<=m
 |0,x=>by
  show(x.1*5+1+x.2 / 32) % (m+1)<=m
  have:=Nat.mod_lt (x.1*5+1+x.2 / 32) (show 0<m+1 by omega)
  omega
 |n+1,x=>E1 m n _
noncomputable def E2(m i:Nat):Nat:=(i*5+1) % (m+1)
noncomputable def kP(m:Nat):Nat->Nat->Nat
 |0,i=>i
 |n+1,i=>kP m n (E2 m i)
theorem E3(m:Nat):∀(n i:Nat),eF m n (i,0)=(kP m n i,0)
 |0,i=>rfl
 |n+1,i=>by
  rw[eF,kP]
  have:SetTable.leap m i 0=(E2 m i,0):=by
   unfold SetTable.leap E2
   simp
  rw[this]
  exact E3 m n _
def Full(m:Nat):Prop := ∀i,i<=m->∀j,j<=m->∃n,n<=m/\kP m n i=j
theorem Ya:Full 7:=by
 have h:∀i:Fin 8,∀j:Fin 8,∃n:Fin 8,kP 7 n.1 i.1=j.1:=by decide
 intro i hi j hj
 obtain⟨n,e⟩:=h ⟨i,by omega⟩ ⟨j,by omega⟩
 exact⟨n.1,by omega,e⟩
structure nF(t:SetTable)(p:SetTable.Probe):Prop where
 more:p.more<=9
 E4:p.perturb<2 ^ 64
 kQ:p.dummy=none
theorem reach{t:SetTable}(F:Full t.mask){p:SetTable.Probe}(O:nF t p){j:Nat}(hj:j<=t.mask):∃d,d<=10*(t.mask+14)/\(nE t d p).j=j:=by
 obtain⟨n,hn,e⟩:=F (eF t.mask (12+1) (p.i,p.perturb)).1 (E1 _ _ _) j hj
 obtain⟨d,hd,_,ed⟩:=MA t (12+n) p O.more
 refine⟨d,by omega,?_⟩
 rw[ed]
 show(eF t.mask (12+n+1) (p.i,p.perturb)).1=j
 have hz:(eF t.mask (12+1) (p.i,p.perturb)).2=0:=by
  rw[EZ]
  show p.perturb / 32 ^ 13=0
  have:=O.E4
  omega
 have Ap:eF t.mask (12+1) (p.i,p.perturb)=((eF t.mask (12+1) (p.i,p.perturb)).1,0):=by rw[<-hz]
 rw[show 12+n+1=(12+1)+n from by omega,EY,Ap,E3,e]
theorem MB(t:SetTable)(h:Int):nF t (t.probeStart h):=by
 refine⟨EX _ _,?_,rfl⟩
 show SetTable.bits h<2 ^ 64
 unfold SetTable.bits
 have h1:=lB h (show(2 ^ 64:Int)≠0 by decide)
 have h2:=oJ h (show(0:Int)<2 ^ 64 by decide)
 omega
theorem MC{t:SetTable}{p:SetTable.Probe}(O:nF t p):nF t (t.advance p):=by
 unfold SetTable.advance
 split
 .exact⟨by show p.more - 1<=9;have:=O.more;omega,O.E4,O.kQ⟩
 .refine⟨EX _ _,?_,O.kQ⟩
  show p.perturb / 32<2 ^ 64
  have:=O.E4
  omega
theorem ud{α:Type}[DecidableEq α]:∀{l m:List α},l.Nodup->(∀x∈l,x∈m)->l.length<=m.length
 |[],m,_,_=>bx _
 |a::l,m,nd,h=>by
  have ha:=h a bh
  have h1:=ud (fq.mp nd).2 (m:=m.erase a) λx mx=>(List.mem_erase_of_ne λz:x=a=>(fq.mp nd).1 (by rw[<-z];exact mx)).mpr (h x (bF _ mx))
  rw[List.length_erase_of_mem ha] at h1
  have:=List.length_pos_of_mem ha
  rw[c5]
  omega
theorem Yb{t:SetTable}(hd:t.dummies = #[])(hs:t.place.size<=t.mask):∃j,j<=t.mask/\t.slot j = .empty:=by
 refine yN λhn=>?_
 have dB:∀j,j<=t.mask->j∈t.place.toList:=λj hj=>by
  refine yN λhm=>hn ⟨j,hj,?_⟩
  unfold SetTable.slot
  rw[aq (λz=>hm ?_)]
  .rw[aq]
   rw[hd]
   unfold SetTable.has
   simp
  .have z:t.place[SetTable.below t.place j]? = some j:=by simpa using z
   exact RP.mpr (Array.mem_of_getElem? z)
 have h1:(List.range (t.mask+1)).length<=t.place.toList.length:=ud C1 λj mj=>dB j (by have:=eC.mp mj;omega)
 rw[iH,fm] at h1
 omega
theorem Yc{t:SetTable}(hd:t.dummies = #[])(j:Nat):t.slot j = .empty\/∃i,t.slot j = .live i/\i<t.place.size:=by
 unfold SetTable.slot
 by_cases h:(t.place[SetTable.below t.place j]? == some j)=true
 .rw[ax h]
  have z:t.place[SetTable.below t.place j]? = some j:=by simpa using h
  refine .inr ⟨_,rfl,(Array.getElem?_eq_some_iff.mp z).1⟩
 .rw[aq h,aq]
  .exact .inl rfl
  .rw[hd]
   unfold SetTable.has
   simp
def rG(t:SetTable)(d:Nat)(p:SetTable.Probe):Prop:=t.slot (nE t d p).j = .empty
theorem Yd{t:SetTable}(F:Full t.mask)(hd:t.dummies = #[])(hs:t.place.size<=t.mask){p:SetTable.Probe}(O:nF t p):∃d,d<=10*(t.mask+14)/\rG t d p:=by
 obtain⟨j,hj,e⟩:=Yb hd hs
 obtain⟨d,h1,h2⟩:=reach F O hj
 exact⟨d,h1,by unfold rG;rw[h2];exact e⟩
theorem MD{t:SetTable}(hd:t.dummies = #[])(ha:Nat->Int)(h:Int):∀(d fuel:Nat) (p:SetTable.Probe),d<fuel->rG t d p->nF t p->
  (∃j,SetTable.probe.go t ha h fuel p=some (.empty j none)/\t.slot j = .empty)\/∃j i q d',SetTable.probe.go t ha h fuel p=some (.candidate j i q)/\t.slot j = .live i/\i<t.place.size/\nF t q/\d'<d/\rG t d' q
 |d,0,p,hf,_,_=>by omega
 |d,fuel+1,p,hf,hn,O=>by
  rw[SetTable.probe.go]
  rcases Yc hd p.j with e | ⟨i,e,hi⟩
  .rw[e]
   exact .inl ⟨p.j,by show some (SetTable.Met.empty p.j p.dummy)=_;rw[O.kQ],e⟩
  .have nG:d≠0:=λz=>by
    rw[z] at hn
    have hn:t.slot p.j = .empty:=hn
    rw[e] at hn
    cases hn
   obtain⟨d',rfl⟩:∃d',d=d'+1:=⟨d - 1,by omega⟩
   have sY:rG t d' (t.advance p):=hn
   rw[e]
   show(∃j,(if ha i==h then some (SetTable.Met.candidate p.j i (t.advance p)) else SetTable.probe.go t ha h fuel (t.advance p))=_/\_)\/∃j i_1 q agi,(if ha i==h then some (SetTable.Met.candidate p.j i (t.advance p)) else SetTable.probe.go t ha h fuel (t.advance p))=_/\_
   by_cases hh:(ha i==h)=true
   .rw[ax hh]
    exact .inr ⟨p.j,i,t.advance p,d',rfl,e,hi,MC O,by omega,sY⟩
   .rw[aq hh]
    rcases MD hd ha h d' fuel (t.advance p) (by omega) sY (MC O) with z | ⟨j,i',q,Ye,z1,z2,z3,z4,z5,z6⟩
    .exact .inl z
    .exact .inr ⟨j,i',q,Ye,z1,z2,z3,z4,by omega,z6⟩
theorem Yf(t:SetTable)(j:Nat):(t.put j).1.place.size=t.place.size+1:=by
 show(SetTable.insertAt t.place (SetTable.below t.place j) j).size=_
 rw[<-fm,(RZ t.place _ j).length_eq,fm,JF]
theorem Yg{t:SetTable}(hd:t.dummies = #[])(j:Nat):(t.put j).1.dummies = #[]:=by
 show(if SetTable.has t.dummies j then SetTable.eraseAt t.dummies (SetTable.below t.dummies j) else t.dummies) = #[]
 rw[hd]
 split
 .rfl
 .rfl
end L2
namespace L2
open PySem PySem.Spec PyProof.Rows
section
variable{prog:Program}{w:World}{A:Around}{E:Value->Shared->Prop}{s:Shared}
structure kR(t:SetTable)(n:Nat):Prop where
 kQ:t.dummies = #[]
 rH:t.place.size=n
 odd:t.gaveWay=false
 E5:Full t.mask
 dm:n<=t.mask
 low:t.mask<=1000
theorem kR.fits{t:SetTable}{n:Nat}(T:kR t n):t.fits n=true:=by
 unfold SetTable.fits SetTable.fill
 rw[T.kQ,T.rH]
 simp[T.dm]
def Yh(prog:Program)(w:World)(h:Heap)(es:Array (Int×Value))(ks:List Key):Prop := ∀e∈es.toList,∃b l3,e.2 = .ref b/\IsTupleKey (bN prog w) h l3 b/\l3≠ks
theorem ME{ks:List Key}{a:Addr}{n:Nat}{Q:Bool->Shared->Prop}(hk:IsTupleKey (bN prog w) s.heap ks a)(h:Q false s):wpAny (model prog w) A (ofAClassStatement (n+1) (.ref a)) Q E s:=by
 have hT:=hk.typeIs
 obtain⟨o,items,m,ho,_,hd,hi⟩:=hk
 have hv:∀v∈items.toList,carriedByValue v=true:=hi.byValue
 unfold ofAClassStatement
 refine ag (wpAny_typeOf hT ?_)
 dsimp only
 refine ag ?_
 refine aJ ?_
 simp only[vH,fu,eK]
 refine ag (ki ho hd ?_)
 dsimp only
 refine ag ?_
 rw[<-Array.forIn_toList]
 refine Jp _ (λrest r s'=>r.1=none/\s'=s/\∀v∈rest,carriedByValue v=true) _ (λv rest r s' hh=>?_) (λr s' hh=>?_) _ _ ⟨rfl,rfl,hv⟩
 .obtain⟨hr,rfl,dB⟩:=hh
  have hc:=dB v bh
  have e:ofAClassStatement n v=pure false:=by
   cases v with
   |ref b=>simp[carriedByValue] at hc
   |_=>unfold ofAClassStatement;rfl
  rw[e]
  refine ag (aJ ?_)
  simp only[fu,eK]
  exact aJ ⟨rfl,rfl,λu rJ=>dB u (bF _ rJ)⟩
 .obtain⟨r1,r2⟩:=r
  obtain⟨hr,rfl,_⟩:=hh
  simp only at hr
  subst hr
  exact aJ h
theorem Yi{ks:List Key}{x:Addr}{l:List Value}{Q:Bool->Shared->Prop}(hk:IsTupleKey (bN prog w) s.heap ks x)(hl:∀v∈l,∃b l3,v = .ref b/\IsTupleKey (bN prog w) s.heap l3 b)(h:Q false s) :
  wpAny (model prog w) A (searchCouldBeSeen (.ref x) l) Q E s:=by
 unfold searchCouldBeSeen
 refine ag ?_
 refine Jp _ (λrest r s'=>r.1=none/\s'=s/\∀v∈rest,∃b l3,v = .ref b/\IsTupleKey (bN prog w) s.heap l3 b) _ (λv rest r s' hh=>?_) (λr s' hh=>?_) _ _ ⟨rfl,rfl,hl⟩
 .obtain⟨hr,rfl,dB⟩:=hh
  obtain⟨b,l3,rfl,hb⟩:=dB v bh
  have hq:∀{Q:Bool->Shared->Prop}{c:Addr}{Yj:List Key},IsTupleKey (bN prog w) s'.heap Yj c->Q true s'->wpAny (model prog w) A (eqIsQuiet 8 (.ref c)) Q E s':=λhk hq=>(tupleKind (bN prog w)).quiet hk hq
  dsimp only
  by_cases hv:((x==b)||(carriedByValue (.ref x)&&carriedByValue (.ref b)))=true
  .rw[ax hv]
   exact aJ ⟨rfl,rfl,λu rJ=>dB u (bF _ rJ)⟩
  .rw[aq hv]
   refine ag (hq hk ?_)
   simp only[vH,fu,eK]
   refine ag (hq hb ?_)
   simp only[vH,fu,eK]
   refine ag (ME hk ?_)
   simp only[fu,eK]
   refine ag (ME hb ?_)
   simp only[fu,eK]
   exact aJ ⟨rfl,rfl,λu rJ=>dB u (bF _ rJ)⟩
 .obtain⟨r1,r2⟩:=r
  obtain⟨hr,rfl,_⟩:=hh
  simp only at hr
  subst hr
  exact aJ h
theorem Yk{a x:Addr}{o:Obj}{es:Array (Int×Value)}{ep:Nat}{t:SetTable}{ks:List Key}{gG:Int}(hu:A.units<cLine)(hk:IsTupleKey (bN prog w) s.heap ks x)(ho:s.heap.get? a=some o)(hd:o.data = .set es ep t)(T:kR t es.size)(j2:Yh prog w s.heap es ks){Q:SetFound->Shared->Prop}(h:∀j,Q (.free j false) s) :
  ∀(d fuel:Nat) (st:Option SetTable.Probe),d<fuel->d<=10*(t.mask+14)->nF t (st.getD (t.probeStart gG))->rG t d (st.getD (t.probeStart gG))->wpAny (model prog w) A (setSearchFrom a (.ref x) gG true fuel st) Q E s:=by
 intro d
 induction d using Nat.strongRecOn with
 |ind d ih=>
  intro fuel st hf agj O N
  obtain⟨fuel,rfl⟩:∃f,fuel=f+1:=⟨fuel - 1,by omega⟩
  unfold setSearchFrom
  refine ag (yO ho hd T.fits ?_)
  dsimp only
  rw[T.odd]
  simp only[fu,eK]
  generalize hp:SetTable.probe t _ gG _=met
  have hm:(∃j,met=some (.empty j none)/\t.slot j = .empty)\/∃j i q d',met=some (.candidate j i q)/\t.slot j = .live i/\i<t.place.size/\nF t q/\d'<d/\rG t d' q:=by
   rw[<-hp]
   exact MD T.kQ _ gG d (10*SetTable.turns t.mask) _ (by unfold SetTable.turns;omega) N O
  rcases hm with ⟨j,rfl,_⟩ | ⟨j,i,q,d',rfl,jt,hi,Oq,Aq,Nq⟩
  .dsimp only
   exact aJ (h j)
  .dsimp only
   rw[T.rH] at hi
   have pF:es[i]? = some es[i]:=Array.getElem?_eq_getElem hi
   obtain⟨b,l3,eb,hb,cJ⟩:=j2 es[i] (RP.mpr (Array.getElem_mem hi))
   have dy:∀v∈((es.filter (λx=>x.1==gG)).toList.map (λx=>x.2)),∃b l3,v = .ref b/\IsTupleKey (bN prog w) s.heap l3 b:=λv mv=>by
    obtain⟨e,me,rfl⟩:=bt.mp mv
    have me:e∈es.toList:=by
     rw[Array.toList_filter] at me
     exact(bQ.mp me).1
    obtain⟨b,k2,e1,e2,_⟩:=j2 e me
    exact⟨b,k2,e1,e2⟩
   have nH:t.sameMemory t.moves t.mask=some true:=by
    unfold SetTable.sameMemory
    rw[ax (by simp)]
   cases hl:t.led
   all_goals simp only[vH,JG,fu,eK,fY]
   .refine ag (Yi hk dy ?_)
    simp only[fu,eK]
    rw[pF]
    dsimp only
    rw[eb]
    refine ag (iC (wpAny_eqBool_tuple hu hb hk ?_))
    refine ag (yO ho hd T.fits ?_)
    rw[aF cJ]
    dsimp only
    simp only[oy,fu,eK]
    rw[nH]
    dsimp only
    rw[ax rfl,jt]
    dsimp only
    rw[pF]
    dsimp only
    rw[eb]
    refine ag (wpAny_isSame_ref_self ?_)
    refine ag (aJ ?_)
    simp only[fY]
    exact ih d' Aq fuel (some q) (by omega) (by omega) Oq Nq
   .rw[pF]
    dsimp only
    rw[eb]
    refine ag (iC (wpAny_eqBool_tuple hu hb hk ?_))
    refine ag (yO ho hd T.fits ?_)
    rw[aF cJ]
    dsimp only
    simp only[oy,fu,eK]
    rw[nH]
    dsimp only
    rw[ax rfl,jt]
    dsimp only
    rw[pF]
    dsimp only
    rw[eb]
    refine ag (wpAny_isSame_ref_self ?_)
    refine ag (aJ ?_)
    simp only[fY]
    exact ih d' Aq fuel (some q) (by omega) (by omega) Oq Nq
theorem Yl{ks:List Key}{a:Addr}{n:Nat}{Q:Bool->Shared->Prop}(hk:IsTupleKey (bN prog w) s.heap ks a)(h:∀b,Q b s):wpAny (model prog w) A (hashByValue (n+1) (.ref a)) Q E s:=by
 have hT:=hk.typeIs
 obtain⟨o,items,m,ho,_,hd,hi⟩:=hk
 have hv:∀v∈items.toList,∃k,(bN prog w).is k v=true:=by
  clear h ho hd hT
  generalize items.toList=l at hi
  induction hi with
  |nil=>intro v m;cases m
  |cons h1 _ ih=>
   intro v m
   rcases bX.mp m with z | z
   .rw[z];exact⟨_,h1⟩
   .exact ih v z
 unfold hashByValue
 refine ag (CO hT F.slot_tuple_hash.lookup ?_)
 dsimp only
 refine ag (ki ho hd ?_)
 refine ag ?_
 show wpAny _ _ (forIn items _ _) _ _ s
 rw[<-Array.forIn_toList]
 refine Jp _ (λrest r s'=>r.1=none/\s'=s/\∀v∈rest,∃k,(bN prog w).is k v=true) _ (λv rest r s' hh=>?_) (λr s' hh=>?_) _ _ ⟨rfl,rfl,hv⟩
 .obtain⟨hr,rfl,dB⟩:=hh
  obtain⟨k,hk⟩:=dB v bh
  rcases jK hk with ⟨i,t,rfl,rfl⟩ | ⟨x,t,rfl,rfl⟩
  .have e:hashByValue n (.int i t)=pure true:=by cases n <;> rfl
   rw[e]
   refine ag (aJ ?_)
   simp only[vH,fu,eK]
   exact aJ ⟨rfl,rfl,λu rJ=>dB u (bF _ rJ)⟩
  .have e:hashByValue n (.str x t)=pure false:=by cases n <;> rfl
   rw[e]
   refine ag (aJ ?_)
   simp only[JG,fY]
   exact aJ (aJ (h _))
 .obtain⟨r1,r2⟩:=r
  obtain⟨hr,rfl,_⟩:=hh
  simp only at hr
  subst hr
  exact aJ (h _)
def l4(prog:Program)(w:World)(h0 h:Heap)(S:Addr)(m:Nat)(done:List (List Key)):Prop := ∃o es ep t,h.get? S=some o/\o.ExactSet/\o.data = .set es ep t/\kR t es.size/\t.mask=m/\es.size=done.length/\∀e∈es.toList,∃b ks,e.2 = .ref b/\IsTupleKey (bN prog w) h0 ks b/\ks∈done
theorem l4.keep{h0 h h':Heap}{S:Addr}{m:Nat}{done:List (List Key)}(k:∀o,h.get? S=some o->h'.get? S=some o)(x:l4 prog w h0 h S m done):l4 prog w h0 h' S m done:=
 let ⟨o,es,ep,t,ho,r⟩:=x;⟨o,es,ep,t,k _ ho,r⟩
theorem E6{h h':Heap}{ks:List Key}{b:Addr}(k:∀b o,h.get? b=some o->h'.get? b=some o)(x:IsTupleKey (bN prog w) h ks b):IsTupleKey (bN prog w) h' ks b:=
 let ⟨o,items,n,ho,r⟩:=x;⟨o,items,n,k _ _ ho,r⟩
theorem MF{t:SetTable}{n:Nat}(T:kR t n)(b:Bool):kR (if b=true then t else { t with plain:=false }) n:=by
 cases b
 .exact⟨T.kQ,T.rH,T.odd,T.E5,T.dm,T.low⟩
 .exact T
theorem MG(t:SetTable)(b:Bool):(if b=true then t else { t with plain:=false }).mask=t.mask:=by cases b <;> rfl
theorem Ym{t:SetTable}{n:Nat}(T:kR t n)(hn:n+1<=t.mask)(j:Nat):kR (t.put j).1 (n+1):=
 ⟨Yg T.kQ j,by rw[Yf,T.rH],T.odd,T.E5,hn,T.low⟩
theorem Yn{h0:Heap}{S:Addr}{o:Obj}{es c8:Array (Int×Value)}{ep m g:Nat}{t t2:SetTable}{done:List (List Key)}{Q:Bool->Shared->Prop}(ho:s.heap.get? S=some o)(hex:o.ExactSet)(hd:o.data = .set es ep t)(T2:kR t2 c8.size)(hm:t2.mask=m)(E7:5*c8.size<3*m)
  (hl:c8.size=done.length) (j2:∀e∈c8.toList,∃b ks,e.2 = .ref b/\IsTupleKey (bN prog w) h0 ks b/\ks∈done) (h:∀h',Heap.SameBut S s.heap h'->l4 prog w h0 h' S m done->Q true { s with heap:=h' }) :
  wpAny (model prog w) A (storeSet S c8 t2 >>= λ_=>if (!false&&t2.tooFull)=true then (setRelay S g >>= λ_=>pure true) else pure true) Q E s:=by
 have Ar:=T2.low
 have jt:c8.size<=sizeLine:=by rw[yw];omega
 refine ag (wpAny_storeSet_of ho hd ?_ jt)
 have E8:t2.tooFull=false:=by
  unfold SetTable.tooFull SetTable.fill
  rw[T2.kQ,T2.rH,hm]
  simp
  omega
 rw[E8]
 simp only[oy,fu,eK]
 have lX:=qA s.heap S (Obj.putSet c8 t2)
 have hg:(s.heap.update S (Obj.putSet c8 t2)).get? S=some { o with data := .set c8 (ep+1) t2 }:=by
  have:=oq (Obj.putSet c8 t2) ho (by rw[putSet_of c8 t2 hd];rfl)
  rw[putSet_of c8 t2 hd] at this
  exact this
 refine aJ (h _ lX ⟨_,c8,ep+1,t2,hg,hex,rfl,T2,hm,hl,j2⟩)
end
def ue(p:Addr)(c:Nat):Heap->Prop:=λh=>∃o es ep t,h.get? p=some o/\o.ExactSet/\o.data = .set es ep t/\t.fits es.size=true/\es.size=c/\c<=1000
theorem Yo{X:Cx}:gE X (.builtin "len") (λxs H Q=>∃p c,xs=[.ref p]/\H p=some (.ext (ue p c))/\Q (.int (c:Nat)) H):=by
 intro pins s σ H xs us Q I r h
 obtain⟨p,c,rfl,hp,q⟩:=h
 obtain⟨u,rfl,rx⟩:=vals1 r
 cases rx
 obtain⟨hS,_⟩:=(show cS X.prog X.w H s.heap p (.ext (ue p c)) from I.aC p _ hp)
 obtain⟨o,es,ep,t,ho,hx,hd,hf,hc,hb⟩:=hS
 refine call_len_set ho hx hd hf (by omega) ⟨.int (c:Nat),H,(I.tok _).tok _,⟨s.toks+1,by rw[hc]⟩,q⟩
end L2
namespace L2
open PySem
theorem Yp:Full 31:=by
 have h:∀i:Fin 32,∀j:Fin 32,∃n:Fin 32,kP 31 n.1 i.1=j.1:=by decide +kernel
 intro i hi j hj
 obtain⟨n,e⟩:=h ⟨i,by omega⟩ ⟨j,by omega⟩
 exact⟨n.1,by omega,e⟩
theorem As(m:Nat):∀(a b i:Nat),kP m (a+b) i=kP m b (kP m a i)
 |0,b,i=>by rw[mO];rfl
 |a+1,b,i=>by rw[Nat.succ_add];exact As m a b _
noncomputable def Au:List Nat:=[0,1,70,111,28,109,2,123,120,25,126,71,20,5,58,83,112,49,54,31,12,29,114,43,104,73,110,119,4,53,42,3,96,97,38,79,124,77,98,91,88,121,94,39,116,101,26,51,80,17,22,127,108,125,82,11,72,41,78,87,100,21,10,99,64,65,6,47,92,45,66,59,56,89,62,7,84,69,122,19,48,113,118,95,76,93,50,107,40,9,46,55,68,117,106,67,32,33,102,15,60,13,34,27,24,57,30,103,52,37,90,115,16,81,86,63,44,61,18,75,8,105,14,23,36,85,74,35]
theorem Yq:Full 127:=by
 have h:∀j:Fin 128,kP 127 (Au.getD j.1 0) 0=j.1/\Au.getD j.1 0<=127:=by decide +kernel
 have h0:kP 127 128 0=0:=by decide +kernel
 intro i hi j hj
 obtain⟨ei,li⟩:=h ⟨i,by omega⟩
 obtain⟨ej,lj⟩:=h ⟨j,by omega⟩
 dsimp only at ei li ej lj
 generalize Au.getD i 0=a at ei li
 generalize Au.getD j 0=b at ej lj
 rcases yM b a with z | z
 .refine⟨128+b - a,by omega,?_⟩
  rw[<-ei,<-As,show a+(128+b - a)=128+b from by omega,As,h0,ej]
 .refine⟨b - a,by omega,?_⟩
  rw[<-ei,<-As,show a+(b - a)=b from by omega,ej]
theorem Yr(m i:Nat):i<=SetTable.runEnd m i:=by
 unfold SetTable.runEnd
 split <;> omega
theorem MH{m:Nat}{o:Array (Option Nat)}{j0:Nat}(he:o.getD j0 (some 0)=none):∀(n fuel:Nat) (x:Nat×Nat),n<fuel->(eF m n x).1=j0->∃j,SetTable.layClean.free m o fuel x.1 x.2=some j/\o.getD j (some 0)=none
 |n,0,x,h,_=>absurd h (fZ _)
 |n,fuel+1,x,h,e=>by
  rw[SetTable.layClean.free]
  cases hf:(List.range (SetTable.runEnd m x.1+1 - x.1)).find? λk=>(o.getD (x.1+k) (some 0)).isNone with
  |some k=>
   refine⟨x.1+k,rfl,?_⟩
   have:=List.find?_some hf
   simpa using this
  |none=>
   cases n with
   |zero=>
    have:=List.find?_eq_none.mp hf 0 (eC.mpr (by have:=Yr m x.1;omega))
    have e:x.1=j0:=e
    rw[C3,e,he] at this
    exact absurd rfl this
   |succ n=>exact MH he n fuel (SetTable.leap m x.1 x.2) (by omega) e
theorem Ys{m:Nat}(F:Full m){o:Array (Option Nat)}{j0:Nat}(hj:j0<=m)(he:o.getD j0 (some 0)=none)(i p:Nat)(hp:p<2 ^ 64):∃j,SetTable.layClean.free m o (SetTable.turns m) i p=some j/\o.getD j (some 0)=none:=by
 obtain⟨n,hn,e⟩:=F (eF m (12+1) (i,p)).1 (E1 _ _ _) j0 hj
 refine MH he (13+n) _ (i,p) (by unfold SetTable.turns;omega) ?_
 have hz:(eF m (12+1) (i,p)).2=0:=by
  rw[EZ]
  show p / 32 ^ 13=0
  omega
 have Ap:eF m (12+1) (i,p)=((eF m (12+1) (i,p)).1,0):=by rw[<-hz]
 rw[EY,Ap,E3,e]
theorem wW{α β:Type}{f g:α->Option β}:∀{l:List α},(∀a∈l,f a=g a)->l.filterMap f=l.filterMap g
 |[],_=>rfl
 |a::l,h=>by
  rw[Cv,Cv,h a bh,wW λx m=>h x (bF _ m)]
theorem MI{α β:Type}{f:α->Option β}:∀{l:List α},(∀a∈l,f a≠none)->(l.filterMap f).length=l.length
 |[],_=>rfl
 |a::l,h=>by
  cases e:f a with
  |none=>exact absurd e (h a bh)
  |some b=>rw[JH e,c5,c5,MI λx m=>h x (bF _ m)]
theorem MJ{α β:Type}{f g:α->Option β}{j:α}{b:β}:∀{l:List α},l.Nodup->j∈l->f j=none->g j=some b->(∀a∈l,a≠j->g a=f a)->(l.filterMap g).Perm (b::l.filterMap f)
 |[],_,m,_,_,_=>nomatch m
 |a::l,nd,m,hf,hg,h=>by
  obtain⟨n1,n2⟩:=fq.mp nd
  by_cases e:a=j
  .subst e
   have e2:l.filterMap g=l.filterMap f:=wW λx mx=>h x (bF _ mx) λz=>n1 (z ▸ mx)
   rw[JH hg,R0 hf,e2]
  .have mj:j∈l:=by
    rcases bX.mp m with z | z
    .exact absurd z.symm e
    .exact z
   have ih:=MJ n2 mj hf hg λx mx=>h x (bF _ mx)
   have ea:=h a bh e
   cases ef:f a with
   |none=>
    rw[ef] at ea
    rw[R0 ea,R0 ef]
    exact ih
   |some c=>
    rw[ef] at ea
    rw[JH ea,JH ef]
    exact(ih.cons c).trans (List.Perm.swap _ _ _)
noncomputable def l6(o:Array (Option Nat))(m:Nat):List Nat:=(List.range (m+1)).filterMap λj=>o.getD j none
theorem Yt{o:Array (Option Nat)}{m:Nat}(hs:o.size=m+1)(h:(l6 o m).length<=m):∃j,j<=m/\o.getD j (some 0)=none:=by
 refine yN λhn=>?_
 have:=MI (f:=λj=>o.getD j none) (l:=List.range (m+1)) λj mj e=>hn ⟨j,by have:=eC.mp mj;omega,by
  have hj:j<o.size:=by rw[hs];exact eC.mp mj
  simp only[Array.getD,hj,dif_pos] at e ⊢
  exact e⟩
 unfold l6 at h
 rw[this,iH] at h
 omega
noncomputable def E9(m:Nat)(acc:Option (Array (Option Nat)×Nat))(h:Int):Option (Array (Option Nat)×Nat):=do
  let (owner,k)<-acc
  let j<-SetTable.layClean.free m owner (SetTable.turns m) (SetTable.bits h % (m+1)) (SetTable.bits h)
  pure (owner.setIfInBounds j (some k),k+1)
theorem Yu(h:Int):SetTable.bits h<2 ^ 64:=by
 unfold SetTable.bits
 have h1:=lB h (show(2 ^ 64:Int)≠0 by decide)
 have h2:=oJ h (show(0:Int)<2 ^ 64 by decide)
 omega
theorem MK{m:Nat}(F:Full m):∀(hs:List Int) (o:Array (Option Nat)) (k:Nat),o.size=m+1->(l6 o m).Perm (List.range k)->k+hs.length<=m->∃o',hs.foldl (E9 m) (some (o,k))=some (o',k+hs.length)/\o'.size=m+1/\(l6 o' m).Perm (List.range (k+hs.length))
 |[],o,k,h1,h2,_=>⟨o,rfl,h1,h2⟩
 |h::hs,o,k,h1,h2,h3=>by
  rw[c5] at h3
  obtain⟨j0,Yv,e0⟩:=Yt h1 (by rw[h2.length_eq,iH];omega)
  obtain⟨j,ej,e1⟩:=Ys F Yv e0 (SetTable.bits h % (m+1)) (SetTable.bits h) (Yu h)
  have hj:j<o.size:=by
   refine yN λhn=>?_
   simp only[Array.getD,hn,dif_neg,not_false_eq_true] at e1
   cases e1
  have ef:E9 m (some (o,k)) h=some (o.setIfInBounds j (some k),k+1):=by
   show(SetTable.layClean.free m o (SetTable.turns m) (SetTable.bits h % (m+1)) (SetTable.bits h)).bind (λj=>some (o.setIfInBounds j (some k),k+1))=_
   rw[ej]
   rfl
  have hv:(l6 (o.setIfInBounds j (some k)) m).Perm (List.range (k+1)):=by
   refine(MJ (f:=λj=>o.getD j none) (j:=j) (b:=k) C1 (eC.mpr (by omega)) ?_ ?_ ?_).trans ?_
   .simp only[Array.getD,hj,dif_pos] at e1 ⊢
    exact e1
   .simp[Array.getD,hj]
   .intro a ma cJ
    rw[Array.getD_eq_getD_getElem?,Array.getD_eq_getD_getElem?,Array.getElem?_setIfInBounds_ne (bj cJ)]
   .rw[show List.range (k+1)=List.range k++[k] from jG]
    exact(h2.cons k).trans (List.perm_append_singleton k _).symm
  obtain⟨o',a1,a2,a3⟩:=MK F hs (o.setIfInBounds j (some k)) (k+1) (by rw[Array.size_setIfInBounds];exact h1) hv (by omega)
  refine⟨o',?_,a2,?_⟩
  .rw[List.foldl_cons,ef,a1,c5]
   congr 2
   omega
  .rw[c5,show k+(hs.length+1)=k+1+hs.length by omega]
   exact a3
theorem Yw{m:Nat}(F:Full m)(fi mo:Nat)(led pl:Bool)(hs:Array Int)(hn:hs.size<=m):∃t ord,SetTable.laid m fi mo led pl hs=some (t,ord)/\t.mask=m/\t.dummies = #[]/\t.place.size=hs.size/\ord.toList.Perm (List.range hs.size):=by
 have h0:(l6 (Array.replicate (m+1) none) m).Perm (List.range 0):=by
  have:l6 (Array.replicate (m+1) none) m=[]:=by
   unfold l6
   refine List.filterMap_eq_nil_iff.mpr λj mj=>?_
   have:=eC.mp mj
   simp[Array.getD,this]
  rw[this]
  exact List.Perm.refl _
 obtain⟨o,e,h1,h2⟩:=MK F hs.toList (Array.replicate (m+1) none) 0 (by simp) h0 (by rw[fm];omega)
 rw[fm,mO] at e h2
 have ec:SetTable.layClean m hs=some o:=by
  show(hs.foldl (E9 m) (some (Array.replicate (m+1) none,0))).map (·.1)=some o
  rw[<-Array.foldl_toList,e]
  rfl
 refine⟨_,_,(by unfold SetTable.laid;rw[ec];rfl),rfl,rfl,?_,?_⟩
 .rw[bp,ar]
  have:=h2.length_eq
  rw[iH] at this
  rw[<-this]
  unfold l6
  rw[<-ar (f:=λx:Nat×Nat=>x.2),List.map_filterMap]
  congr 1
  refine wW λj _=>?_
  cases o.getD j none <;> rfl
 .refine List.Perm.trans (List.Perm.of_eq ?_) h2
  unfold l6
  show List.map (λx:Nat×Nat=>x.2) _=_
  rw[List.map_filterMap]
  refine wW λj _=>?_
  cases o.getD j none <;> rfl
end L2
namespace L2
open PySem PySem.Spec PyProof.Rows
section
theorem ML{α:Type}(l:List α):∀n,n<=l.length->(List.range n).filterMap (λi=>l[i]?)=l.take n
 |0,_=>by rw[oH];rfl
 |n+1,h=>by
  rw[jG,List.filterMap_append,ML l n (by omega),fL]
  congr 1
theorem Yx{α:Type}{es:Array α}{ord:Array Nat}(p:ord.toList.Perm (List.range es.size)):(ord.filterMap (es[·]?)).toList.Perm es.toList:=by
 rw[Array.toList_filterMap]
 refine(p.filterMap _).trans (List.Perm.of_eq ?_)
 have:=ML es.toList es.size (by rw[fm];exact aQ _)
 rw[fw (by rw[fm];exact aQ _)] at this
 rw[<-this]
 refine wW λi _=>?_
 rw[RV]
variable{prog:Program}{w:World}{A:Around}{E:Value->Shared->Prop}{s:Shared}
theorem Yy{S:Addr}{o:Obj}{es:Array (Int×Value)}{ep wanted m:Nat}{t:SetTable}{Q:Unit->Shared->Prop}(ho:s.heap.get? S=some o)(hd:o.data = .set es ep t)(hf:t.fits es.size=true)(F:Full m)(hm:SetTable.sizeAbove wanted - 1=m)(hz:SetTable.sizeAbove wanted<=sizeLine)(Fb:(m % 2==0)=false)(Ar:m<=1000)(hn:es.size<=m)
  (h:∀gY t',gY.toList.Perm es.toList->kR t' gY.size->t'.mask=m->Q () { s with heap:=s.heap.update S (Obj.putSet gY t') }):wpAny (model prog w) A (setRelay S wanted) Q E s:=by
 obtain⟨t',ord,e,h1,h2,h3,h4⟩:=Yw F t.finger (t.movedTo m) t.led t.plain (es.map (·.1)) (by rw[Array.size_map];exact hn)
 rw[Array.size_map] at h3 h4
 have er:t.relaid (es.map (·.1)) wanted=some (t',ord):=by
  unfold SetTable.relaid
  rw[hm]
  exact e
 have hp:=Yx h4
 have hsz:(ord.filterMap (es[·]?)).size=es.size:=by rw[<-fm,hp.length_eq,fm]
 unfold setRelay
 refine ag (yO ho hd hf ?_)
 dsimp only
 rw[aq (sO.mpr hz),er]
 refine ag ?_
 show wpAny (model prog w) A (ite (((ord.filterMap (es[·]?)).size != es.size)=true) _ _) _ E s
 rw[aq (by simp[hsz])]
 refine aJ ?_
 dsimp only
 refine wpAny_storeSet_of ho hd ?_ (by rw[hsz,yw];omega)
 exact h _ t' hp ⟨h2,h3.trans hsz.symm,by show(t'.mask % 2==0)=false;rw[h1];exact Fb,by rw[h1];exact F,by rw[hsz,h1];exact hn,by rw[h1];exact Ar⟩ h1
theorem MM{h0:Heap}{S:Addr}{o:Obj}{es c8:Array (Int×Value)}{ep m m' g:Nat}{t t2:SetTable}{done:List (List Key)}{Q:Bool->Shared->Prop}(ho:s.heap.get? S=some o)(hex:o.ExactSet)(hd:o.data = .set es ep t)(T2:kR t2 c8.size)(hm:t2.mask=m)
  (Av:(5*c8.size<3*m/\m'=m)\/(3*m<=5*c8.size/\Full m'/\SetTable.sizeAbove g - 1=m'/\SetTable.sizeAbove g<=sizeLine/\(m' % 2==0)=false/\m'<=1000/\c8.size<=m'))
  (hl:c8.size=done.length) (j2:∀e∈c8.toList,∃b ks,e.2 = .ref b/\IsTupleKey (bN prog w) h0 ks b/\ks∈done) (h:∀h',Heap.SameBut S s.heap h'->l4 prog w h0 h' S m' done->Q true { s with heap:=h' }) :
  wpAny (model prog w) A (storeSet S c8 t2 >>= λ_=>if (!false&&t2.tooFull)=true then (setRelay S g >>= λ_=>pure true) else pure true) Q E s:=by
 rcases Av with ⟨E7,rfl⟩ | ⟨E7,F,hg,Yz,Fb,YA,sY⟩
 .exact Yn ho hex hd T2 hm E7 hl j2 h
 have Ar:=T2.low
 have jt:c8.size<=sizeLine:=by rw[yw];omega
 refine ag (wpAny_storeSet_of ho hd ?_ jt)
 have E8:t2.tooFull=true:=by
  unfold SetTable.tooFull SetTable.fill
  rw[T2.kQ,T2.rH,hm]
  simp
  omega
 rw[E8]
 simp only[JG,vC,fY]
 have lX:=qA s.heap S (Obj.putSet c8 t2)
 have Aw:(s.heap.update S (Obj.putSet c8 t2)).get? S=some { o with data := .set c8 (ep+1) t2 }:=by
  have:=oq (Obj.putSet c8 t2) ho (by rw[putSet_of c8 t2 hd];rfl)
  rw[putSet_of c8 t2 hd] at this
  exact this
 refine ag (Yy (o:={ o with data := .set c8 (ep+1) t2 }) Aw rfl T2.fits F hg Yz Fb YA sY λgY t' hp T' EL=>?_)
 have YB:=qA (s.heap.update S (Obj.putSet c8 t2)) S (Obj.putSet gY t')
 have YC:((s.heap.update S (Obj.putSet c8 t2)).update S (Obj.putSet gY t')).get? S=some { o with data := .set gY (ep+1+1) t' }:=by
  have:=oq (Obj.putSet gY t') Aw (by rw[putSet_of gY t' rfl];rfl)
  rw[putSet_of gY t' rfl] at this
  exact this
 exact aJ (h _ (lX.trans YB) ⟨_,gY,ep+1+1,t',YC,hex,rfl,T',EL,by rw[<-hl,<-fm,hp.length_eq,fm],λe me=>j2 e (hp.mem_iff.mp me)⟩)
theorem YD{h0:Heap}{S x:Addr}{m:Nat}{done:List (List Key)}{ks:List Key}{gG:Int}{Q:Bool->Shared->Prop}(hu:A.units<cLine)(hold:∀b o,h0.get? b=some o->s.heap.get? b=some o)(Aj:IsTupleKey (bN prog w) h0 ks x)(hS:l4 prog w h0 s.heap S m done)(hn:ks∉done)(hM:7<=m/\m<=1000)(aN:done.length+1<=m)(m':Nat)(Av:(5*(done.length+1)<3*m/\m'=m)\/(3*m<=5*(done.length+1)/\Full m'/\SetTable.sizeAbove (SetTable.grown (done.length+1)) - 1=m'/\SetTable.sizeAbove (SetTable.grown (done.length+1))<=sizeLine/\(m' % 2==0)=false/\m'<=1000/\done.length+1<=m'))
  (h:∀h',Heap.SameBut S s.heap h'->l4 prog w h0 h' S m' (done++[ks])->Q true { s with heap:=h' }):wpAny (model prog w) A (setAddHashed S (.ref x) gG) Q E s:=by
 have hk:=E6 hold Aj
 obtain⟨o,es,ep,t,ho,hex,hd,T,hm,hl,j2⟩:=hS
 unfold setAddHashed
 refine iC ?_
 unfold setAddHashedIn
 refine ag (yO ho hd T.fits ?_)
 dsimp only
 have hb:byScan (.ref x) es=false:=rfl
 rw[hb]
 simp only[fu,eK]
 obtain⟨d,nG,hN⟩:=Yd T.E5 T.kQ (by rw[T.rH];exact T.dm) (MB t gG)
 have Ar:=T.low
 refine ag ?_
 unfold setSearch
 refine Yk hu hk ho hd T (λe me=>?_) (λj=>?_) d 100000 none (by omega) nG (MB t gG) hN
 .obtain⟨b,k2,e1,e2,e3⟩:=j2 e me
  exact⟨b,k2,e1,E6 hold e2,λz=>hn (z ▸ e3)⟩
 .dsimp only
  refine ag (yO ho hd T.fits ?_)
  dsimp only
  have hsz:(SetTable.insertAt es (t.put j).2 (gG,Value.ref x)).size=es.size+1:=by
   rw[<-fm,(RZ es _ _).length_eq,fm,JF]
  have T1:=Ym T (by rw[hm,hl];omega) j
  rw[<-hsz] at T1
  have MN:∀e∈(SetTable.insertAt es (t.put j).2 (gG,Value.ref x)).toList,∃b k2,e.2 = .ref b/\IsTupleKey (bN prog w) h0 k2 b/\k2∈done++[ks]:=λe me=>by
   have me:=(RZ es (t.put j).2 (gG,Value.ref x)).mem_iff.mp me
   rw[Array.toList_push] at me
   rcases dh.mp me with z | z
   .obtain⟨b,k2,e1,e2,e3⟩:=j2 e z
    exact⟨b,k2,e1,e2,om _ e3⟩
   .rw[cg.mp z]
    exact⟨x,ks,rfl,Aj,gU _ bh⟩
  have jv:(SetTable.insertAt es (t.put j).2 (gG,Value.ref x)).size=(done++[ks]).length:=by rw[hsz,cQ,hl];rfl
  by_cases hp:(t.put j).1.plain=true
  .rw[ax hp]
   refine ag (Yl (n:=7) hk λb=>?_)
   exact MM (g:=SetTable.grown (es.size+1)) (m:=m) (m':=m') (t2:=if b=true then (t.put j).1 else { (t.put j).1 with plain:=false }) ho hex hd (MF T1 b) (by rw[MG];exact hm) (by rw[hsz,hl];exact Av) jv MN h
  .rw[aq hp]
   refine ag (aJ ?_)
   exact MM (g:=SetTable.grown (es.size+1)) (m:=m) (m':=m') (t2:=if true=true then (t.put j).1 else { (t.put j).1 with plain:=false }) ho hex hd (MF T1 true) (by rw[MG];exact hm) (by rw[hsz,hl];exact Av) jv MN h
end
noncomputable def d8(n:Nat):Nat:=if n<5 then 7 else if n<19 then 31 else 127
theorem MO(n:Nat):(7<=d8 n/\d8 n<=1000)/\(n+1<=76->n+1<=d8 n):=by
 unfold d8
 split
 .omega
 .split <;> omega
theorem YE(i:Nat)(h:i+1<=76):(5*(i+1)<3*d8 i/\d8 (i+1)=d8 i)\/(3*d8 i<=5*(i+1)/\Full (d8 (i+1))/\SetTable.sizeAbove (SetTable.grown (i+1)) - 1=d8 (i+1)/\SetTable.sizeAbove (SetTable.grown (i+1))<=sizeLine/\(d8 (i+1) % 2==0)=false/\d8 (i+1)<=1000/\i+1<=d8 (i+1)):=by
 by_cases h4:i=4
 .subst h4
  exact .inr ⟨by decide,Yp,by decide,by decide,by decide,by decide,by decide⟩
 by_cases YF:i=18
 .subst YF
  exact .inr ⟨by decide,Yq,by decide,by decide,by decide,by decide,by decide⟩
 have v1:∀n,n<5->d8 n=7:=λn z=>by unfold d8;rw[ax z]
 have v2:∀n,5<=n->n<19->d8 n=31:=λn y z=>by unfold d8;rw[aq (sO.mpr y),ax z]
 have v3:∀n,19<=n->d8 n=127:=λn y=>by unfold d8;rw[aq (show ¬n<5 by omega),aq (sO.mpr y)]
 refine .inl ?_
 by_cases a:i<4
 .rw[v1 i (by omega),v1 (i+1) (by omega)];omega
 .by_cases b:i<18
  .rw[v2 i (by omega) (by omega),v2 (i+1) (by omega) (by omega)];omega
  .rw[v3 i (by omega),v3 (i+1) (by omega)];omega
section
variable{prog:Program}{w:World}{A:Around}{R:Result->Shared->Prop}{I:Addr}{fp wr:List Addr}{n:Nat}{P:Nat->Value->Prop}{St:Nat->Heap->Prop}
theorem YG(hu:A.units+1<cLine)(W:Walks prog w A.in1 I fp wr n P St)(S:Addr)(MP:S∉fp)(h0:Heap)(YH:∀b∈wr,h0.get? b=none)(YI:h0.get? S=none)(eG:List (List Key))(cK:eG.Nodup)(cL:eG.length=n)(hm:n<=76)
  (hP:∀i v,P i v->∃b ks,v = .ref b/\eG[i]? = some ks/\IsTupleKey (bN prog w) h0 ks b) :
  ∀(k i:Nat) (s:Shared),n - i=k->i<=n->St i s.heap->(∀b o,h0.get? b=some o->s.heap.get? b=some o)->l4 prog w h0 s.heap S (d8 i) (eG.take i)->
  (∀h' tk,(∀b o,h0.get? b=some o->h'.get? b=some o)->l4 prog w h0 h' S (d8 n) eG->R (.ok (.ret .none)) { s with heap:=h',toks:=tk })->
  codeAny (model prog w) A (.builtin "set.update.loop" ⟨[.ref S,.ref I],[]⟩) R s:=by
 have MQ:S∉wr:=λh=>MP (W.sub _ h)
 have MR:∀b o,h0.get? b=some o->b∉wr:=λb o e z=>by rw[YH b z] at e;cases e
 intro k
 induction k with
 |zero=>
  intro i s hk hi dy hold hS hR
  have bu:i=n:=by omega
  subst bu
  refine qC Mw ?_
  rw[sS EV _]
  show wpAny _ A.in1 (pyNext (.ref I) >>= _) _ _ s
  refine ag (W.done s _ _ dy λh' tk gH=>?_)
  rw[fw (by omega)] at hS
  exact aJ (hR h' tk (λb o e=>gH b o (MR b o e) (hold b o e)) (hS.keep λo e=>gH S o MQ e))
 |succ k ih=>
  intro i s hk hi dy hold hS hR
  have aN:i<n:=by omega
  refine qC Mw ?_
  rw[sS EV _]
  show wpAny _ A.in1 (pyNext (.ref I) >>= _) _ _ s
  refine ag (W.item i s _ _ aN dy λv h' tk hv lW gH=>?_)
  obtain⟨b,ks,rfl,Fc,hb⟩:=hP i v hv
  have Fd:∀b o,h0.get? b=some o->h'.get? b=some o:=λb o e=>gH b o (MR b o e) (hold b o e)
  have l0:l4 prog w h0 h' S (d8 i) (eG.take i):=hS.keep λo e=>gH S o MQ e
  have ht:eG.take (i+1)=eG.take i++[ks]:=by rw[fL,Fc];rfl
  have YJ:ks∉eG.take i:=λz=>by
   have h1:(eG.take (i+1)).Nodup:=cK.sublist (CJ _ _)
   rw[ht,oI] at h1
   exact h1.2.2 ks z ks (cg.mpr rfl) rfl
  have dn:A.in1.units<cLine:=hu
  show wpAny _ A.in1 (holding [.ref b] (setAdd S (.ref b)) >>= _) _ _ _
  refine ag (iC ?_)
  unfold setAdd
  refine iC ?_
  refine ag (wpAny_pyHash_tuple dn (E6 Fd hb) ?_)
  have lU:(eG.take i).length=i:=by rw[jF];omega
  refine YD dn Fd hb l0 YJ (MO i).1 (by rw[lU];exact(MO i).2 (by omega)) (d8 (i+1)) (by rw[lU];exact YE i (by omega)) λh'' lX MS=>?_
  rw[<-ht] at MS
  refine aJ ⟨sT EV _,ih (i+1) _ (by omega) aN (W.frame _ _ _ lW λc hc o e=>?_) (λc o e=>?_) MS λh3 wR eY wX=>?_⟩
  .exact lX.extBut c o (λz=>MP (z ▸ hc)) e
  .exact lX.extBut c o (λz=>by rw[z,YI] at e;cases e) (Fd c o e)
  .exact hR h3 wR eY wX
end
theorem YK{X:Cx}(hc:X.calm=true)(hu:X.A.units+4<cLine):gE X (.type "set") (λxs H Q=>∃(a:Addr) (ts:List Addr) (eG:List (List Key)),xs=[.ref a]/\H a=some (.lst (ts.map V.ref))/\Paired (λt ks=>aw X.K H t (ks.map kV)) ts eG/\eG.Nodup/\eG.length<=76/\
  ∀p,H p=none->Q (.ref p) (upd H p (.ext (ue p eG.length)))):=by
 intro pins s σ H xs us Q I r h
 obtain⟨l,ts,eG,rfl,hq,hp,cK,h4,q⟩:=h
 obtain⟨u,rfl,ru⟩:=vals1 r
 cases ru
 obtain⟨its,rv,pl,hz⟩:=I.list (aj.of hq)
 have hl:=pl.isList
 have hh:X.A.handled=none:=I.ok.hd hc
 have aN:l<s.heap.objs.size:=by obtain⟨_,e,_⟩:=hl;exact bE e
 have Ax:=hp.length
 have hlen:its.length=eG.length:=by rw[<-rv.length,ar];omega
 have qR:∀(i:Nat) (v:Value),its[i]? = some v->∃(b:Addr) (ks:List Key),v=Value.ref b/\eG[i]? = some ks/\IsTupleKey (bN X.prog X.w) s.heap ks b:=λi v hv=>by
  have hi:i<its.length:=(bZ.mp hv).1
  obtain⟨t,ht⟩:∃t,ts[i]? = some t:=⟨_,aU (by omega)⟩
  obtain⟨ks,Fc,hk⟩:=Paired.getL hp ht
  obtain⟨u',e1,e2⟩:=rv.get (i:=i) (x:=V.ref t) (by rw[bb,ht];rfl)
  rw[hv] at e1
  cases e1
  cases e2
  obtain⟨m9,r2,⟨o2,h1,h2,n2,h3⟩,_⟩:=I.tuple hk
  exact⟨t,ks,rfl,Fc,⟨o2,m9.toArray,n2,h1,h2,h3,by simpa using DN r2⟩⟩
 refine X7 (let ⟨o,e,c,_⟩:=hl;⟨o,e,c⟩) λb=>?_
 refine vw (hl.push _) ?_
 refine wpAny_runValue ?_
 have hT:its.toArray.size=eG.length:=by rw[bp,hlen]
 have MT:∀c,s.heap.objs.size<=c->s.heap.get? c=none:=λc hc=>by
  cases e:s.heap.get? c with
  |none=>rfl
  |some o=>exact absurd (bE e) (sO.mpr hc)
 refine YG (A:=X.A.in1.in1) ?_ (Walks.list (A:=X.A.in1.in1.in1) hh _ l ?_ its.toArray) s.heap.objs.size ?_ s.heap ?_ ?_ eG cK hT.symm (by omega) (λi v hP=>qR i v (by simpa using hP))
  its.toArray.size 0 _ (by omega) (bx _) ⟨⟨_,cw _ rfl,rfl,rfl⟩,(hl.push _).push _⟩ (λc o e=>bw _ (bw _ e)) ⟨kO b,#[],0,.fresh 0 0 b,bw _ (cw _ rfl),⟨rfl,rfl,rfl⟩,rfl,⟨rfl,rfl,(by show(7 % 2==0)=false;decide),Ya,bx _,by show 7<=1000;decide⟩,rfl,rfl,λe he=>by cases he⟩ λh' tk hold hS=>?_
 .have:=hu
  show X.A.units+2+1<cLine
  omega
 .show l≠(s.heap.push (kO b)).objs.size
  rw[qB]
  exact bU (oB aN)
 .intro z
  have z:s.heap.objs.size=(s.heap.push (kO b)).objs.size\/s.heap.objs.size=l:=by simpa using z
  rw[qB] at z
  rcases z with z | z
  .exact bU (qx _) z
  .exact bU aN z.symm
 .intro c hc
  have hc:c=(s.heap.push (kO b)).objs.size:=by simpa using hc
  refine MT c ?_
  rw[hc,qB]
  exact gC _
 .exact MT _ (aQ _)
 .obtain⟨o,es,ep,t,ho,hex,hd,T,_,Fe,_⟩:=hS
  refine⟨.ref s.heap.objs.size,_,I.laid (t':=tk) (λb' o' e=>hold b' o' e) (aQ _) (show cS X.prog X.w _ h' _ (.ext (ue s.heap.objs.size eG.length)) from⟨⟨o,es,ep,t,ho,hex,hd,T.fits,Fe,by omega⟩,⟨o,ho⟩,λh1 h3 x k=>?_⟩),rfl,q _ (I.aC.fresh (aQ _))⟩
  obtain⟨o,es,ep,tt,ho,r⟩:=x
  exact⟨o,es,ep,tt,k _ ho,r⟩
end L2
namespace Cw
open PySem
theorem l7{x y:Str}(h:x.cps.toList=y.cps.toList):x=y:=by
 cases x;cases y
 exact dU Str.mk (Array.toList_inj.mp h)
theorem pI(x y:Str):(x++y).cps.toList=x.cps.toList++y.cps.toList:=by
 show(x.cps++y.cps).toList=_
 simp
theorem b8(x:Str):x.cps.toList.length=x.length:=by simp[Str.length]
noncomputable def cellAt(ns:List Int)(k:Nat):Int:=ns.getD k 0
def nI(c:Nat):Prop:=c=35\/c=46\/(97<=c/\c<=122)
structure ba(l:List Str)(w:Nat):Prop where
 one:1<=l.length
 nine:l.length<=9
 w1:1<=w
 w9:w<=9
 len:∀x∈l,x.length=w
 ok:∀x∈l,∀c∈x.cps.toList,nI c
noncomputable def iU:Str:="abcdefghijklmnopqrstuvwxyz"
theorem Ay:iU.cps.toList=(List.range 26).map (97 + ·):=by decide +kernel
noncomputable def cells(h w:Nat):List (Nat×Nat):=(List.range h).flatMap λi=>(List.range w).map λj=>(i,j)
theorem Ff(h w:Nat):cells (h+1) w=cells h w++(List.range w).map λj=>(h,j):=by
 unfold cells
 rw[jG,JI]
 simp
theorem l9(h w:Nat):(cells h w).length=h*w:=by
 induction h with
 |zero=>simp[cells]
 |succ h ih=>rw[Ff,cQ,ih,ar,iH,jb]
theorem wY{w:Nat}:∀{h i j:Nat},i<h->j<w->(cells h w)[i*w+j]? = some (i,j)
 |0,_,_,hi,_=>absurd hi (fZ _)
 |h+1,i,j,hi,hj=>by
  rw[Ff]
  by_cases e:i<h
  .have:i*w+j<(cells h w).length:=by
    rw[l9]
    have h1:(i+1)*w<=h*w:=C4 w e
    rw[jb] at h1
    omega
   rw[Jo this]
   exact wY e hj
  .have e:i=h:=by omega
   subst e
   rw[yA (by rw[l9];omega),l9,Nat.add_sub_cancel_left,bb,oG hj]
   rfl
theorem rK{h w:Nat}{c:Nat×Nat}(m:c∈cells h w):c.1<h/\c.2<w:=by
 unfold cells at m
 obtain⟨i,hi,m⟩:=C5.mp m
 obtain⟨j,hj,rfl⟩:=bt.mp m
 exact⟨eC.mp hi,eC.mp hj⟩
theorem YL{h w i j:Nat}(hi:i<h)(hj:j<w):(i,j)∈cells h w:=bo (wY hi hj)
theorem Fg{h w n:Nat}{c:Nat×Nat}(e:(cells h w)[n]? = some c):n=c.1*w+c.2/\c.1<h/\c.2<w:=by
 have hn:n<h*w:=by rw[<-l9];exact(bZ.mp e).1
 have hw:0<w:=by
  rcases Nat.eq_zero_or_pos w with z | z
  .rw[z] at hn;simp at hn
  .exact z
 have hi:n / w<h:=JJ (by rw[mM];exact hn)
 have hj:n % w<w:=Nat.mod_lt _ hw
 have q:=wY hi hj
 have e2:n / w*w+n % w=n:=by rw[mM];exact Nat.div_add_mod n w
 rw[e2,e] at q
 cases q
 exact⟨e2.symm,hi,hj⟩
theorem MU{h w i j:Nat}(hi:i<h)(hj:j<w):(cells h w).take (i*w+j+1)=(cells h w).take (i*w+j)++[(i,j)]:=by
 rw[fL,wY hi hj]
 rfl
noncomputable def sg(l:List Str)(c:Nat×Nat):Nat:=((l.getD c.1 ⟨#[]⟩).cps.toList).getD c.2 0
theorem bS{α:Type}{l:List α}{i:Nat}{x d:α}(h:l[i]? = some x):l.getD i d=x:=by rw[bM,h];rfl
theorem ba.row{l:List Str}{w:Nat}(S:ba l w){i:Nat}(hi:i<l.length):∃x,l[i]? = some x/\x∈l/\x.length=w/\x.cps.toList.length=w/\∀j,j<w->x.cps.toList[j]? = some (sg l (i,j)):=by
 refine⟨l[i],aU hi,lC hi,S.len _ (lC hi),by rw[b8];exact S.len _ (lC hi),λj hj=>?_⟩
 have hl:j<l[i].cps.toList.length:=by rw[b8,S.len _ (lC hi)];exact hj
 unfold sg
 rw[bS (aU hi),aU hl]
 simp only[bS (aU hl)]
noncomputable def bJ(l:List Str)(c:Nat×Nat):Bool := !decide (sg l c=35)
noncomputable def Az(l:List Str)(c:Nat×Nat):Bool:=decide (sg l c=46)
noncomputable def bH(l:List Str)(w:Nat):List (Nat×Nat):=(cells l.length w).filter (bJ l)
noncomputable def fA(l:List Str)(w:Nat):List (Nat×Nat):=(cells l.length w).filter (Az l)
theorem wZ{l:List Str}{w:Nat}(S:ba l w):(cells l.length w).length<=81:=by
 rw[l9]
 exact CY S.nine S.w9
noncomputable def bC(x:Str)(j ch:Nat):Str:=⟨(x.cps.toList.take j++ch::x.cps.toList.drop (j+1)).toArray⟩
noncomputable def setC(l:List Str)(c:Nat×Nat)(ch:Nat):List Str:=l.set c.1 (bC (l.getD c.1 ⟨#[]⟩) c.2 ch)
theorem dq(l:List Str)(c:Nat×Nat)(ch:Nat):(setC l c ch).length=l.length:=by unfold setC;rw[Jq]
theorem w6{x:Str}{j ch:Nat}(h:j<x.length):(bC x j ch).length=x.length:=by
 show(x.cps.toList.take j++ch::x.cps.toList.drop (j+1)).toArray.size=x.length
 have hl:x.cps.toList.length=x.length:=b8 x
 rw[bp,cQ,jF,c5,CL,hl]
 omega
theorem Fh{x:Str}{j ch k:Nat}(h:j<x.length)(hk:k<x.length):(bC x j ch).cps.toList[k]? = if k=j then some ch else x.cps.toList[k]? :=by
 have hl:x.cps.toList.length=x.length:=b8 x
 have e:(bC x j ch).cps.toList=x.cps.toList.take j++ch::x.cps.toList.drop (j+1):=by simp[bC]
 have ht:(x.cps.toList.take j).length=j:=by rw[jF];omega
 rw[e]
 rcases Nat.lt_trichotomy k j with h1 | h1 | h1
 .rw[aq (by omega),Jo (by omega),CH h1]
 .subst h1
  rw[ax rfl,yA (by omega),ht,Nat.sub_self]
  rfl
 .rw[aq (by omega),yA (by omega),ht]
  obtain⟨m,rfl⟩:∃m,k=j+1+m:=⟨k - (j+1),by omega⟩
  rw[show j+1+m - j=m+1 by omega,List.getElem?_cons_succ,List.getElem?_drop]
theorem Fi{x:Str}{j ch:Nat}{a b:Str}(ha:a.cps.toList=x.cps.toList.take j)(hb:b.cps.toList=x.cps.toList.drop (j+1)):a++⟨#[ch]⟩++b=bC x j ch:=by
 apply l7
 rw[pI,pI,ha,hb]
 simp[bC]
structure agk(m:List Str)(w:Nat):Prop where
 len:∀x∈m,x.length=w
 ok:∀x∈m,∀c∈x.cps.toList,nI c
theorem YM{x:Str}{j ch:Nat}(h:∀c∈x.cps.toList,nI c)(hc:nI ch):∀c∈(bC x j ch).cps.toList,nI c:=λc m=>by
 have m:c∈x.cps.toList.take j++ch::x.cps.toList.drop (j+1):=by simpa[bC] using m
 rcases dh.mp m with z | z
 .exact h c (yP z)
 .rcases bX.mp z with z | z
  .rw[z];exact hc
  .exact h c (R1 z)
theorem AA{l:List Str}{w:Nat}(S:ba l w){c:Nat×Nat}{ch:Nat}(h1:c.1<l.length)(h2:c.2<w)(hc:nI ch):ba (setC l c ch) w:=by
 obtain⟨x,hx,mx,lx,pJ,hj⟩:=S.row h1
 refine⟨by rw[dq];exact S.one,by rw[dq];exact S.nine,S.w1,S.w9,λy my=>?_,λy my=>?_⟩
 .unfold setC at my
  rcases JK my with z | z
  .exact S.len y z
  .rw[z,bS hx,w6 (by omega),lx]
 .unfold setC at my
  rcases JK my with z | z
  .exact S.ok y z
  .rw[z,bS hx]
   exact YM (S.ok x mx) hc
abbrev C2:=Nat×Nat
noncomputable def go(c d:C2)(n:Nat):C2:=(c.1+n*d.1,c.2+n*d.2)
noncomputable def line(c d:C2)(n:Nat):List C2:=(List.range n).map (go c d)
theorem iV(c d:C2):go c d 0=c:=by simp[go]
theorem go_succ(c d:C2)(n:Nat):go c d (n+1)=((go c d n).1+d.1,(go c d n).2+d.2):=by
 simp only[go,jb,Nat.add_assoc]
theorem MV(c d:C2)(n:Nat):line c d (n+1)=line c d n++[go c d n]:=by
 unfold line
 rw[jG,dW]
 rfl
theorem rL(c d:C2)(n:Nat):(line c d n).length=n:=by simp[line]
noncomputable def runN(op:C2->Bool)(d:C2):Nat->C2->Nat
 |0,_=>0
 |f+1,c=>if op c=true then runN op d f (c.1+d.1,c.2+d.2)+1 else 0
theorem Fj{op:C2->Bool}{d:C2}:∀{f n:Nat}{c:C2},n<f->(∀k,k<n->op (go c d k)=true)->op (go c d n)=false->runN op d f c=n
 |0,_,_,h,_,_=>absurd h (fZ _)
 |f+1,0,c,_,_,h=>by
  rw[iV] at h
  unfold runN
  rw[h,aq bW]
 |f+1,n+1,c,hf,hk,h=>by
  have h0:=hk 0 (Nat.succ_pos _)
  rw[iV] at h0
  have e:∀k,go c d (k+1)=go (c.1+d.1,c.2+d.2) d k:=λk=>by
   simp only[go,jb,mP]
   omega
  unfold runN
  rw[h0,ax rfl,Fj (f:=f) (n:=n) (by omega) (λk q=>by rw[<-e];exact hk (k+1) (by omega)) (by rw[<-e];exact h)]
noncomputable def gI(op:C2->Bool)(d c:C2):Bool:=decide (d.1<=c.1)&&(decide (d.2<=c.2)&&op (c.1 - d.1,c.2 - d.2))
noncomputable def bV(op:C2->Bool)(d c:C2):List C2:=if gI op d c=true then [] else if runN op d 10 c<2 then [] else line c d (runN op d 10 c)
noncomputable abbrev nJ(op:C2->Bool):C2->List C2:=bV op (0,1)
noncomputable abbrev mf(op:C2->Bool):C2->List C2:=bV op (1,0)
noncomputable def d9(op:C2->Bool)(c:C2):Bool := !(nJ op c).isEmpty || !(mf op c).isEmpty
noncomputable def dP(op:C2->Bool)(cs:List C2):Nat:=(cs.filter (d9 op)).length
theorem MW(op:C2->Bool)(cs:List C2)(c:C2):dP op (cs++[c])=if d9 op c=true then dP op cs+1 else dP op cs:=by
 unfold dP
 rw[jH,cR,oC]
 split
 .rw[cQ];rfl
 .rw[fX]
noncomputable def dj(op:C2->Bool)(f:C2->List C2):Nat->List C2->List (Nat×List C2)
 |_,[]=>[]
 |n,c::r=>if (f c).isEmpty=true then dj op f (if d9 op c=true then n+1 else n) r else (if d9 op c=true then n+1 else n,f c)::dj op f (if d9 op c=true then n+1 else n) r
theorem MX(op:C2->Bool)(f:C2->List C2)(c:C2):∀(n:Nat) (cs:List C2),dj op f n (cs++[c]) =
  dj op f n cs++if (f c).isEmpty=true then [] else [(if d9 op c=true then n+dP op cs+1 else n+dP op cs,f c)]
 |n,[]=>by
  show dj op f n [c]=[]++_
  unfold dj
  simp only[dj,CN]
  rfl
 |n,x::r=>by
  have ih:=MX op f c (if d9 op x=true then n+1 else n) r
  have e:dP op (x::r)=(if d9 op x=true then 1 else 0)+dP op r:=by
   unfold dP
   rw[cR]
   split
   .rw[c5,Nat.add_comm]
   .rw[mO]
  have e2:(if d9 op x=true then n+1 else n)+dP op r=n+dP op (x::r):=by
   rw[e]
   split <;> omega
  rw[e2] at ih
  show dj op f n (x::(r++[c]))=_
  unfold dj
  rw[ih]
  split
  .rfl
  .rfl
theorem Fp{op:C2->Bool}{c:C2}(h:(nJ op c).isEmpty=false):d9 op c=true:=by unfold d9;rw[h];rfl
theorem Fq{op:C2->Bool}{c:C2}(h:(mf op c).isEmpty=false):d9 op c=true:=by unfold d9;rw[h];simp
theorem MY{op:C2->Bool}{f:C2->List C2}(hf:∀c,(f c).isEmpty=false->d9 op c=true):∀{n:Nat}{cs:List C2}{q:Nat×List C2},q∈dj op f n cs->
  n<q.1/\∃c,(cs.filter (d9 op))[q.1 - n - 1]? = some c/\c∈cs/\q.2=f c/\(f c).isEmpty=false
 |n,[],q,h=>by simp[dj] at h
 |n,x::r,q,h=>by
  unfold dj at h
  have step:q∈dj op f (if d9 op x=true then n+1 else n) r->n<q.1/\∃c,((x::r).filter (d9 op))[q.1 - n - 1]? = some c/\c∈x::r/\q.2=f c/\(f c).isEmpty=false:=λh=>by
   obtain⟨h1,c,h2,h3,h4⟩:=MY hf h
   rw[cR]
   by_cases e:d9 op x=true
   .rw[ax e] at h1 h2 ⊢
    refine⟨by omega,c,?_,bF _ h3,h4⟩
    have:q.1 - n - 1=(q.1 - (n+1) - 1)+1:=by omega
    rw[this,List.getElem?_cons_succ]
    exact h2
   .rw[aq e] at h1 h2 ⊢
    exact⟨h1,c,h2,bF _ h3,h4⟩
  split at h
  .exact step h
  .rename_i he
   rcases bX.mp h with z | z
   .have he:(f x).isEmpty=false:=iJ.mpr he
    have hx:=hf x he
    subst z
    rw[ax hx]
    refine⟨qx _,x,?_,bh,rfl,he⟩
    rw[cR,ax hx,show n+1 - n - 1=0 by omega]
    rfl
   .exact step z
noncomputable def bg(l:List Str)(w:Nat)(c:C2):Bool:=decide (c.1<l.length)&&(decide (c.2<w)&&bJ l c)
theorem nK{l:List Str}{w:Nat}{c:C2}(h:bg l w c=true):c.1<l.length/\c.2<w/\bJ l c=true:=by
 unfold bg at h
 simp only[dI,Jv] at h
 exact⟨h.1,h.2.1,h.2.2⟩
theorem mh{l:List Str}{w:Nat}{c:C2}(h1:c.1<l.length)(h2:c.2<w):bg l w c=bJ l c:=by
 unfold bg
 rw[aG h1,aG h2,sW,sW]
noncomputable def ij(l:List Str)(w:Nat):List (Nat×List C2):=dj (bg l w) (nJ (bg l w)) 0 (bH l w)
noncomputable def pK(l:List Str)(w:Nat):List (Nat×List C2):=dj (bg l w) (mf (bg l w)) 0 (bH l w)
def Dir(d:C2):Prop:=d=(0,1)\/d=(1,0)
theorem go_inj{x d:C2}(hd:Dir d){i j:Nat}(h:go x d i=go x d j):i=j:=by
 rcases hd with rfl | rfl
 .simp only[go,mP,gX,oK] at h;omega
 .simp only[go,mP,gX,oK] at h;omega
theorem MZ(x d:C2)(i j:Nat):go (go x d i) d j=go x d (i+j):=by
 simp only[go,mP,Nat.add_mul]
 omega
theorem go_eq{x y d:C2}(hd:Dir d){i j:Nat}(uf:i<=j)(h:go x d i=go y d j):x=go y d (j - i):=by
 rcases hd with rfl | rfl
 .simp only[go,mP,gX,oK] at h
  refine C6.mpr ?_
  simp only[go,gX,oK]
  omega
 .simp only[go,mP,gX,oK] at h
  refine C6.mpr ?_
  simp only[go,gX,oK]
  omega
theorem M0{op:C2->Bool}{x d:C2}(hd:Dir d){k:Nat}(h:op (go x d k)=true):gI op d (go x d (k+1))=true:=by
 have e:((go x d (k+1)).1 - d.1,(go x d (k+1)).2 - d.2)=go x d k:=by
  rcases hd with rfl | rfl
  .simp only[go,mP,gX,oK];omega
  .simp only[go,mP,gX,oK];omega
 unfold gI
 rw[e,h,aG,aG]
 .rfl
 .rcases hd with rfl | rfl
  .simp only[go,gX];omega
  .simp only[go,oK];omega
 .rcases hd with rfl | rfl
  .simp only[go,oK];omega
  .simp only[go,gX];omega
theorem YN{op:C2->Bool}{c d:C2}(hd:Dir d)(h:gI op d c=true):∃b,c=go b d 1/\op b=true/\b.1+b.2<c.1+c.2:=by
 unfold gI at h
 simp only[dI,Jv] at h
 refine⟨_,?_,h.2.2,?_⟩
 .refine C6.mpr ?_
  simp only[go,Nat.one_mul]
  omega
 .rcases hd with rfl | rfl
  .have:=h.2.1;simp only at this ⊢;omega
  .have:=h.1;simp only at this ⊢;omega
theorem ug{op:C2->Bool}{d:C2}:∀{f:Nat}{c:C2}{k:Nat},k<runN op d f c->op (go c d k)=true
 |0,_,_,h=>by unfold runN at h;exact absurd h (fZ _)
 |f+1,c,k,h=>by
  unfold runN at h
  split at h
  .rename_i ho
   cases k with
   |zero=>rw[iV];exact ho
   |succ k=>
    have:=ug (op:=op) (d:=d) (f:=f) (c:=(c.1+d.1,c.2+d.2)) (k:=k) (by omega)
    have e:go c d (k+1)=go (c.1+d.1,c.2+d.2) d k:=by
     simp only[go,jb,mP]
     omega
    rw[e]
    exact this
  .exact absurd h (fZ _)
theorem Fs{op:C2->Bool}{d:C2}:∀{f n:Nat}{c:C2},n<=f->(∀k,k<n->op (go c d k)=true)->n<=runN op d f c
 |_,0,_,_,_=>bx _
 |0,n+1,_,h,_=>absurd h (Nat.not_succ_le_zero _)
 |f+1,n+1,c,h,hk=>by
  have h0:=hk 0 (Nat.succ_pos _)
  rw[iV] at h0
  unfold runN
  rw[h0,ax rfl]
  refine lA (Fs (Nat.le_of_succ_le_succ h) λk q=>?_)
  have e:go c d (k+1)=go (c.1+d.1,c.2+d.2) d k:=by
   simp only[go,jb,mP]
   omega
  rw[<-e]
  exact hk (k+1) (by omega)
theorem Ft{op:C2->Bool}{d x c:C2}(h:c∈bV op d x):¬gI op d x=true/\2<=runN op d 10 x/\∃k,k<runN op d 10 x/\go x d k=c:=by
 unfold bV at h
 split at h
 .exact absurd h fK
 .rename_i h1
  split at h
  .exact absurd h fK
  .obtain⟨k,hk,e⟩:=bt.mp h
   exact⟨h1,by omega,k,eC.mp hk,e⟩
theorem YO{op:C2->Bool}{d x c:C2}(h1:¬gI op d x=true)(h2:2<=runN op d 10 x){k:Nat}(hk:k<runN op d 10 x)(e:go x d k=c):c∈bV op d x:=by
 unfold bV
 rw[aq h1,aq (by omega)]
 exact bt.mpr ⟨k,eC.mpr hk,e⟩
theorem YQ{op:C2->Bool}{d x y c:C2}(hd:Dir d)(hx:c∈bV op d x)(hy:c∈bV op d y):x=y:=by
 obtain⟨px,_,i,hi,ei⟩:=Ft hx
 obtain⟨py,_,j,hj,ej⟩:=Ft hy
 have key:∀{x y:C2}{i j:Nat},¬gI op d x=true->j<runN op d 10 y->i<=j->go x d i=c->go y d j=c->x=y:=λ{x y i j} px hj uf ei ej=>by
  have e:=go_eq hd uf (ei.trans ej.symm)
  cases hz:j - i with
  |zero=>rw[hz,iV] at e;exact e
  |succ z=>
   rw[hz] at e
   exact absurd (by rw[e];exact M0 hd (ug (f:=10) (by omega))) px
 rcases Nat.le_total i j with h | h
 .exact key px hj h ei ej
 .exact(key py hi h ej ei).symm
theorem YR{op:C2->Bool}{d:C2}(hd:Dir d):∀(k:Nat) (c:C2),c.1+c.2=k->op c=true->∃x i,c=go x d i/\¬gI op d x=true/\∀j,j<=i->op (go x d j)=true:=by
 intro k
 induction k using Nat.strongRecOn with
 |_ k ih=>
  intro c hc ho
  by_cases hp:gI op d c=true
  .obtain⟨b,e,hb,aN⟩:=YN hd hp
   obtain⟨x,i,ex,px,ox⟩:=ih (b.1+b.2) (by omega) b rfl hb
   refine⟨x,i+1,?_,px,λj hj=>?_⟩
   .rw[e,ex,MZ]
   .rcases Nat.lt_or_eq_of_le hj with z | z
    .exact ox j (by omega)
    .rw[z,<-MZ,<-ex,<-e];exact ho
  .refine⟨c,0,by rw[iV],hp,λj hj=>?_⟩
   have:j=0:=by omega
   rw[this,iV];exact ho
noncomputable def gJ(op:C2->Bool)(d c:C2):Bool:=op c&&(gI op d c||op (go c d 1))
theorem YS{op:C2->Bool}{d c:C2}(hd:Dir d)(hb:∀c,op c=true->c.1<9/\c.2<9)(h:gJ op d c=true):∃x,op x=true/\c∈bV op d x:=by
 unfold gJ at h
 simp only[dI,yF] at h
 obtain⟨ho,hs⟩:=h
 obtain⟨x,i,e,px,ox⟩:=YR hd _ c rfl ho
 have hx:op x=true:=by have:=ox 0 (bx _);rw[iV] at this;exact this
 have hi:i<=8:=by
  have:=hb c ho
  rcases hd with rfl | rfl
  .rw[e] at this;simp only[go,gX] at this;omega
  .rw[e] at this;simp only[go,gX] at this;omega
 have h1:i+1<=runN op d 10 x:=Fs (by omega) λk hk=>ox k (by omega)
 have h2:2<=runN op d 10 x:=by
  rcases Nat.eq_zero_or_pos i with z | z
  .subst z
   rw[iV] at e
   subst e
   have hn:op (go c d 1)=true:=by
    rcases hs with hs | hs
    .exact absurd hs px
    .exact hs
   refine Fs (by omega) λk hk=>?_
   rcases(by omega:k=0\/k=1) with z | z
   .rw[z,iV];exact ho
   .rw[z];exact hn
  .omega
 exact⟨x,hx,YO px h2 (by omega) e.symm⟩
theorem YT{op:C2->Bool}{d x c:C2}(hd:Dir d)(h:c∈bV op d x):gJ op d c=true:=by
 obtain⟨px,h2,k,hk,e⟩:=Ft h
 have ho:op c=true:=by rw[<-e];exact ug hk
 unfold gJ
 rw[ho,sW,yF]
 cases k with
 |zero=>
  rw[iV] at e
  rw[<-e]
  exact .inr (ug (f:=10) (by omega))
 |succ k=>rw[<-e];exact .inl (M0 hd (ug (f:=10) (by omega)))
theorem YU{c d:C2}(hd:Dir d)(n:Nat):(line c d n).Nodup:=by
 unfold line
 refine List.Pairwise.map _ (λi j uf=>?_) (C1 (n:=n))
 exact λe=>uf (go_inj hd e)
theorem Fu{op:C2->Bool}{d x:C2}(hd:Dir d):(bV op d x).Nodup:=by
 unfold bV
 split
 .exact iF
 .split
  .exact iF
  .exact YU hd _
noncomputable def cD(c:C2)(rs:List (Nat×List C2)):Nat:=(rs.map λq=>q.2.count c).sum
theorem M3{op:C2->Bool}{f:C2->List C2}(c:C2):∀(n:Nat) (cs:List C2),cD c (dj op f n cs)=(cs.map λx=>(f x).count c).sum
 |n,[]=>rfl
 |n,x::r=>by
  have ih:=M3 (op:=op) (f:=f) c (if d9 op x=true then n+1 else n) r
  unfold dj
  rw[bL,fM,<-ih]
  split
  .rename_i he
   rw[List.isEmpty_iff.mp he,List.count_nil,mO]
  .unfold cD
   rw[bL,fM]
theorem uh:∀{l:List Nat},(∀y∈l,y=0)->l.sum=0
 |[],_=>rfl
 |x::r,h=>by rw[fM,h x bh,uh λy hy=>h y (bF _ hy)]
theorem M5{α:Type}[DecidableEq α]{g:α->Nat}{a:α}:∀{cs:List α},cs.Nodup->a∈cs->g a=1->(∀x∈cs,x≠a->g x=0)->(cs.map g).sum=1
 |[],_,h,_,_=>absurd h fK
 |x::r,nd,h,ga,gz=>by
  rw[bL,fM]
  obtain⟨n1,n2⟩:=fq.mp nd
  by_cases e:x=a
  .subst e
   have z:(r.map g).sum=0:=by
    have:∀y∈r.map g,y=0:=λy hy=>by
     obtain⟨u,hu,rfl⟩:=bt.mp hy
     exact gz u (bF _ hu) λe=>n1 (e ▸ hu)
    exact uh this
   rw[ga,z]
  .rcases bX.mp h with q | q
   .exact absurd q.symm e
   .rw[gz x bh e,mO]
    exact M5 n2 q ga λy hy=>gz y (bF _ hy)
theorem YV(h w:Nat):(cells h w).Nodup:=by
 refine JL.mpr λi j hi hj uf e=>?_
 have h1:(cells h w)[i]? = some (cells h w)[i]:=aU hi
 have h2:(cells h w)[j]? = some (cells h w)[j]:=aU hj
 rw[<-e] at h2
 obtain⟨e1,_⟩:=Fg h1
 obtain⟨e2,_⟩:=Fg h2
 omega
theorem M6{op:C2->Bool}{d c:C2}(hd:Dir d)(hb:∀c,op c=true->c.1<9/\c.2<9){n:Nat}{cs:List C2}(hn:cs.Nodup)(hc:∀x,op x=true->x∈cs):cD c (dj op (bV op d) n cs)=if gJ op d c=true then 1 else 0:=by
 rw[M3]
 by_cases h:gJ op d c=true
 .rw[ax h]
  obtain⟨x,hx,hm⟩:=YS hd hb h
  refine M5 hn (hc x hx) ?_ λy _ hy=>?_
  .exact Nat.le_antisymm (List.nodup_iff_count.mp (Fu hd) c) (List.count_pos_iff.mpr hm)
  .refine JM.mpr λz=>hy (YQ hd z hm)
 .rw[aq h]
  refine uh λy hy=>?_
  obtain⟨u,hu,rfl⟩:=bt.mp hy
  exact JM.mpr λz=>h (YT hd z)
theorem AB(l:List Str)(w:Nat):(bH l w).Nodup:=List.Pairwise.filter _ (YV _ _)
theorem w8{l:List Str}{w:Nat}{c:C2}(h:bg l w c=true):c∈bH l w:=by
 obtain⟨h1,h2,h3⟩:=nK h
 exact bQ.mpr ⟨YL h1 h2,h3⟩
theorem M7{l:List Str}{w:Nat}(S:ba l w):∀c,bg l w c=true->c.1<9/\c.2<9:=λc h=>by
 obtain⟨h1,h2,_⟩:=nK h
 have:=S.nine
 have:=S.w9
 omega
theorem AD{l:List Str}{w:Nat}(S:ba l w)(c:C2):cD c (ij l w)=if gJ (bg l w) (0,1) c=true then 1 else 0:=M6 (.inl rfl) (M7 S) (AB l w) λ_ h=>w8 h
theorem Fv{l:List Str}{w:Nat}(S:ba l w)(c:C2):cD c (pK l w)=if gJ (bg l w) (1,0) c=true then 1 else 0:=M6 (.inr rfl) (M7 S) (AB l w) λ_ h=>w8 h
end Cw
namespace Cw
open PySem L2
noncomputable def top(i:Nat):Stmt:=PySem.Challenge.pw_crosswright_k42_fillings_gone_through.main.body.getD i (.Pass ⟨0,0,0,0⟩)
structure Bl(mg:Str->Option Value):Prop where
 cq:mg "len"=none
 iW:mg "range"=none
 xb:mg "tuple"=none
 xc:mg "list"=none
 YW:mg "str"=none
 YX:mg "isinstance"=none
 M8:mg "all"=none
 AE:mg "sorted"=none
 xf:mg "enumerate"=none
 AG:mg "zip"=none
 YY:mg "sum"=none
 YZ:mg "dict"=none
 M9:mg "min"=none
 Y0:mg "reversed"=none
 Y1:mg "set"=none
section
variable{P:Program}{w:World}{K:PySem.W.Frag}{mg:Str->Option Value}{base:Heap}{f:Addr}{fd:FuncData}
def AH(K:PySem.W.Frag):Sp:=λvs H Q _=>∃(a:Addr) (ns:List Int) (k:Nat),vs=[.ref a,.int k]/\aj K H a (ns.map V.int)/\Q (.int (cellAt ns k)) H
theorem Y2{ns:List Int}{k:Nat}(h:k<ns.length):(ns.map V.int)[k]? = some (.int (cellAt ns k)):=by
 rw[bb,aU h]
 simp[cellAt,h]
theorem Y3:bc ["_law_script","_law_k"] ["_law_script","_law_k"] (aS (top 53)):={}
theorem Y4(B:Bl mg)(F:aW K "_law_cell_at" "_law_cell_at" (top 53) f fd):aM P w K mg base aR 1 f fd ["_law_script","_law_k"] (AH K):=by
 refine F.bG Y3 λaH A outer s H vs Q E hr h=>?_
 refine hide λG_ aI=>?_
 obtain⟨a,ns,k,rfl,hS,q⟩:=h
 refine aI.k ?_
 refine⟨_,(av (b6 (cx lJ (pv 1) (bP dY (by rfl) B.cq cn (ab (pv 0) ai)) (cH _))
  (az (aZ (aX fN (pv 0) (pv 1) (λ_ _=>rfl))))
  b9)
  (az (aZ aE))),?_⟩
 try dsimp only[bD]
 refine⟨_,rfl,_,rfl,a,_,rfl,.inl hS,_,_,rfl,rfl,_,rfl,eM (λh=>?_) (λh=>?_)⟩
 .have h:(k:Int)<((ns.map V.int).length:Int):=eQ h
  rw[ar] at h
  exact⟨_,rfl,_,rfl,a,_,_,_,rfl,rfl,hS,dz (Y2 (by omega)),q⟩
 .have h:¬(k:Int)<((ns.map V.int).length:Int):=λz=>h (aG z)
  rw[ar] at h
  have e:cellAt ns k=0:=by
   unfold cellAt
   rw[bM,cB (by omega)]
   rfl
  rw[e] at q
  exact q
end
def nL(H:Hp)(c:Nat×Nat)(x:V):Prop := ∃a,x = .ref a/\H a=some (.tup [.int c.1,.int c.2])
abbrev br(H:Hp)(cs:List (Nat×Nat))(xs:List V):Prop:=Paired (nL H) cs xs
theorem nL.mono{H H':Hp}{c:Nat×Nat}{x:V}(s:af H H')(h:nL H c x):nL H' c x:=let ⟨a,e,q⟩:=h;⟨a,e,s _ _ q⟩
theorem nL.off{H H':Hp}{D:Addr}{c:Nat×Nat}{x:V}(hD:∃o,H D=some (.lst o))(k:∀b o,b≠D->H b=some o->H' b=some o)(h:nL H c x):nL H' c x:=by
 obtain⟨a,e,q⟩:=h
 obtain⟨o,hD⟩:=hD
 exact⟨a,e,k a _ (b0 q hD (by intro z;cases z)) q⟩
theorem br.mono{H H':Hp}{cs:List (Nat×Nat)}{xs:List V}(s:af H H')(h:br H cs xs):br H' cs xs:=Paired.bI h λ_ _ q=>q.mono s
theorem br.off{H H':Hp}{D:Addr}{cs:List (Nat×Nat)}{xs:List V}(hD:∃o,H D=some (.lst o))(k:∀b o,b≠D->H b=some o->H' b=some o)(h:br H cs xs):br H' cs xs:=Paired.bI h λ_ _ q=>q.off hD k
theorem AJ(n m:Nat):decide (V.str ⟨#[n]⟩=V.str ⟨#[m]⟩)=decide (n=m):=by
 by_cases h:n=m
 .rw[h,aG rfl,aG rfl]
 .rw[aF h,aF]
  intro z
  injection z with z
  injection z with z
  have z:[n]=[m]:=by simpa using dU Array.toList z
  exact h (yE z).1
theorem rM:("#":Str)=⟨#[35]⟩:=by decide +kernel
theorem AK:(".":Str)=⟨#[46]⟩:=by decide +kernel
section
variable{P:Program}{w:World}{K:PySem.W.Frag}{mg:Str->Option Value}{base:Heap}{f:Addr}{fd:FuncData}
theorem eA{n:Nat}(h:n<=10000):n<=sizeLine:=bA h (by decide)
theorem ui{n:Nat}(h:n<=10000):n<sizeLine:=lz h (by decide)
theorem iX{l:List Str}{i:Nat}{x:Str}(h:l[i]? = some x):jk (l.map V.str) (i:Int)=some (.str x):=dz (by rw[bb,h];rfl)
def Fw(K:PySem.W.Frag):Sp:=λvs H Q _=>∃(a b:Addr) (l:List Str) (w:Nat) (c:Nat×Nat),vs=[.ref a,.ref b]/\aw K H a (l.map V.str)/\ba l w/\aw K H b [.int c.1,.int c.2]/\c.1<l.length/\c.2<w/\Q (.str ⟨#[sg l c]⟩) H
theorem Y5:bc ["sheet","cell"] ["sheet","cell"] (aS (top 13)):={}
theorem Y6(F:aW K "sign_at" "sign_at" (top 13) f fd):aM P w K mg base aR 1 f fd ["sheet","cell"] (Fw K):=by
 refine F.bG Y5 λaH A outer s H vs Q E hr h=>?_
 refine hide λG_ aI=>?_
 obtain⟨a,b,l,wd,c,rfl,hT,S,hb,h1,h2,q⟩:=h
 obtain⟨x,hx,mx,lx,pJ,hj⟩:=S.row h1
 refine aI.k ?_
 have hw:=S.w9
 refine⟨_,(az (aZ (aX jS (aX cj (pv 0) (aX cj (pv 1) aE (λ_ _=>rfl)) (λ_ _=>rfl)) (aX cj (pv 1) aE (λ_ _=>rfl)) (λ_ _=>rfl)))),?_⟩
 try dsimp only[bD]
 exact⟨_,rfl,_,rfl,b,_,0,.int c.1,rfl,rfl,hb,rfl,a,_,_,.str x,rfl,rfl,hT,iX hx,_,rfl,b,_,1,.int c.2,rfl,rfl,hb,rfl,x,_,sg l c,rfl,rfl,eA (by omega),dz (hj c.2 h2),q⟩
def AL(K:PySem.W.Frag):Sp:=λvs H Q _=>∃(a b:Addr) (l:List Str) (w:Nat) (c:Nat×Nat),vs=[.ref a,.ref b]/\aw K H a (l.map V.str)/\ba l w/\aw K H b [.int c.1,.int c.2]/\c.1<l.length/\c.2<w/\Q (.bl (bJ l c)) H
theorem Y7:bc ["sheet","cell"] ["sheet","cell"] (aS (top 14)):={}
theorem Y8(F:aW K "is_open" "is_open" (top 14) f fd)(Fx:Cn mg "SHUT" (.str "#"))(Fy:Fn P w K mg base "sign_at" 1 (Fw K)):aM P w K mg base aR 2 f fd ["sheet","cell"] (AL K):=by
 refine F.bG Y7 λaH A outer s H vs Q E hr h=>?_
 refine hide λG_ aI=>?_
 obtain⟨a,b,l,wd,c,rfl,hT,S,hb,h1,h2,q⟩:=h
 refine aI.k ?_
 refine⟨_,(az (aZ (vW mW (aV Fy (hr.mono (by decide)) (by rfl) (ab (pv 0) (ab (pv 1) ai))) (ny Fx (by rfl)) (cH _)))),?_⟩
 try dsimp only[bD]
 refine⟨_,rfl,_,rfl,a,b,l,wd,c,rfl,hT,S,hb,h1,h2,rfl,?_⟩
 rw[rM,AJ]
 exact q
def Na(K:PySem.W.Frag):Sp:=λvs H Q _=>∃(a:Addr) (l:List Str) (w:Nat),vs=[.ref a]/\aw K H a (l.map V.str)/\ba l w/\
 ∀p xs H',H p=none->af H H'->H' p=some (.lst xs)->br H' (cells l.length w) xs->Q (.ref p) H'
theorem AM:bc ["sheet","cells","line","column"] ["sheet"] (aS (top 12)):={}
theorem Y9(B:Bl mg)(F:aW K "all_cells" "all_cells" (top 12) f fd):aM P w K mg base aR 1 f fd ["sheet"] (Na K):=by
 refine F.bG AM λaH A outer s H vs Q E hr h=>?_
 refine hide λG_ aI=>?_
 obtain⟨a,l,wd,rfl,hT,S,q⟩:=h
 refine aI.k ?_
 have h9:=S.nine
 have hw:=S.w9
 have nH:=wZ S
 refine⟨_,(av (aK (i:=1) AM.nd rfl (Or.inl rfl) (dX ai))
  (av (cG cF rfl (iN (by rfl) B.iW (ab (bP dY (by rfl) B.cq cn (ab (pv 0) ai)) ai)) (bR (i:=2) AM.nd rfl (Or.inl rfl))
  (az (cG cF rfl (iN (by rfl) B.iW (ab (bP g9 (by rfl) B.cq cn (ab (aX cj (pv 0) (pv 2) (λ_ _=>rfl)) ai)) ai)) (bR (i:=3) AM.nd rfl (Or.inl rfl))
   (az (dM (fO jc jI jJ hX (pv 1) (ab (fB (ab (pv 2) (ab (pv 3) ai))) ai (hs:=de rfl))))))))
  (az (aZ (pv 1))))),?_⟩
 try dsimp only[bD]
 refine⟨bx _,λp hp=>?_⟩
 have eO:af H (upd H p (.lst [])):=af.upd hp
 refine⟨_,rfl,a,_,rfl,.inr (eO.tup hT),_,rfl,by rw[ar];omega,by rw[ar];omega,?_⟩
 rw[dH,ar]
 refine jo (λi σ H2=>∃v2 v3 xs,σ=[some (.ref a),some (.ref p),v2,v3]/\af H H2/\H2 p=some (.lst xs)/\br H2 ((cells l.length wd).take (i*wd)) xs)
  ⟨none,none,[],rfl,eO,au,by rw[Nat.zero_mul,oH];exact .nil⟩ ?_ ?_
 .intro i σ H2 hi Za
  refine hide λG_ aY=>?_
  obtain⟨v2,v3,xs,rfl,sm,hL,hC⟩:=Za
  obtain⟨x,hx,mx,lx,pJ,hj⟩:=S.row hi
  refine aY.k ?_
  refine⟨_,rfl,_,rfl,a,_,_,.str x,rfl,rfl,sm.tup hT,iX hx,x,rfl,eA (by omega),_,rfl,by omega,by omega,?_⟩
  rw[dH,lx]
  refine jo (λj σ H3=>∃v3 xs,σ=[some (.ref a),some (.ref p),some (.int i),v3]/\af H H3/\H3 p=some (.lst xs)/\br H3 ((cells l.length wd).take (i*wd+j)) xs)
   ⟨v3,xs,rfl,sm,hL,hC⟩ ?_ ?_
  .intro j σ H3 Zb Zc
   refine hide λG_ bK=>?_
   obtain⟨v3,ys,rfl,iY,iZ,jw⟩:=Zc
   refine bK.k ?_
   refine⟨_,rfl,.inl ⟨rfl,_,aj.of iZ⟩,_,rfl,_,rfl,by show 2<=sizeLine;decide,λt ht=>?_⟩
   have rN:t≠p:=bj (bq iZ ht)
   have Nb:upd H3 t (.tup [.int i,.int j]) p=some (.lst ys):=by rw[ak (bj rN)];exact iZ
   have hlen:ys.length<=81:=by
    have e1:=jw.length
    rw[jF] at e1
    omega
   refine⟨p,ys,_,rfl,rfl,Nb,ui (by omega),some (.int j),ys++[.ref t],rfl,(iY.trans (af.upd ht)).jX hp,au,?_⟩
   have off:∀b o,b≠p->upd H3 t (.tup [.int i,.int j]) b=some o->upd (upd H3 t (.tup [.int i,.int j])) p (.lst (ys++[.ref t])) b=some o:=λb o hb e=>by rw[ak hb];exact e
   have e2:i*wd+(j+1)=i*wd+j+1:=rfl
   rw[e2,MU hi Zb]
   exact mN (br.off ⟨ys,Nb⟩ off (br.mono (af.upd ht) jw)) ⟨t,rfl,off t _ rN au⟩
  .intro σ H3 Zd
   refine hide λG_ cE=>?_
   obtain⟨v3,ys,rfl,iY,iZ,jw⟩:=Zd
   refine cE.k ?_
   refine⟨_,_,ys,rfl,iY,iZ,?_⟩
   rw[jb]
   exact jw
 .intro σ H2 Ze
  refine hide λG_ eB=>?_
  obtain⟨v2,v3,xs,rfl,sm,hL,hC⟩:=Ze
  refine eB.k ?_
  refine⟨_,rfl,q p xs H2 hp sm hL ?_⟩
  rw[fw (by rw[l9];exact aQ _)] at hC
  exact hC
def Fz(K:PySem.W.Frag):Sp:=λvs H Q _=>∃(a:Addr) (l:List Str) (w:Nat),vs=[.ref a]/\aw K H a (l.map V.str)/\ba l w/\
 ∀p xs H',H p=none->af H H'->H' p=some (.lst xs)->br H' (bH l w) xs->Q (.ref p) H'
theorem Zf:bc ["sheet"] ["sheet"] (aS (top 10)):={}
theorem Zg(F:aW K "open_cells" "open_cells" (top 10) f fd)(Zh:Fn P w K mg base "all_cells" 1 (Na K))(xg:Fn P w K mg base "is_open" 2 (AL K)):aM P w K mg base aR 3 f fd ["sheet"] (Fz K):=by
 refine F.bG Zf λaH A outer s H vs Q E hr h=>?_
 refine hide λG_ aI=>?_
 obtain⟨a,l,wd,rfl,hT,S,q⟩:=h
 refine aI.k ?_
 have nH:=wZ S
 refine⟨_,(az (aZ (jl (js:=[0]) (ns:=["sheet"]) (dF (aV Zh (hr.mono (by decide)) (by rfl) (ab (pv 0) ai))) rfl rfl rfl rfl (λ_ _ _ _=>(nv (kr (aV xg (hr.mono (by decide)) (by rfl) (ab (pv 1) (ab (pv 0) ai)))))) (λ_ _ _ _=>(pv 0))))),?_⟩
 try dsimp only[bD]
 refine⟨_,rfl,a,l,wd,rfl,hT,S,λp xs H1 hp sm hL hC=>⟨p,rfl,⟨_,aj.of hL⟩,?_⟩⟩
 have ig:=hC.length
 refine lR jn (by omega) (λi=>bJ l ((cells l.length wd).getD i (0,0))) (λ_ i y _=>xs[i]? = some y) (λH2 s2=>aj.of (s2 _ _ hL)) (λ_ _ _ _ _ _ _ _ h=>h) ?_ ?_
 .intro D i x H2 Z0 Z hD hx s2 _ k0 k1
  refine hide λG_ aY=>?_
  obtain⟨c,hc,b,rfl,hb⟩:=Paired.get hC hx
  obtain⟨_,m1,m2⟩:=Fg hc
  refine aY.k ?_
  have ec:(cells l.length wd).getD i (0,0)=c:=bS hc
  rw[ec] at k0 k1
  refine⟨_,rfl,_,rfl,a,b,l,wd,c,rfl,(sm.trans s2).tup hT,S,aw.of (s2 _ _ hb),m1,m2,_,rfl,eM (λh=>?_) (λh=>?_)⟩
  .exact⟨_,rfl,k1 _ _ (af.cO _) h hx⟩
  .exact k0 _ (af.cO _) (by simpa using h)
 .intro D ys H2 hD bB s2 pr
  refine q D ys H2 (sm.free hD) (sm.trans s2) bB ?_
  exact Paired.pick (br.mono s2 hC) (bJ l) _ (λi c e=>by rw[bS e]) pr
end
def pL(H:Hp)(way:Str)(q:Nat×List C2)(x:V):Prop := ∃a t xs,x = .ref a/\H a=some (.tup [.int q.1,.str way,.ref t])/\H t=some (.tup xs)/\br H q.2 xs
abbrev fR(H:Hp)(way:Str)(qs:List (Nat×List C2))(xs:List V):Prop:=Paired (pL H way) qs xs
theorem pL.mono{H H':Hp}{way:Str}{q:Nat×List C2}{x:V}(s:af H H')(h:pL H way q x):pL H' way q x:=let ⟨a,t,xs,e,h1,h2,h3⟩:=h;⟨a,t,xs,e,s _ _ h1,s _ _ h2,h3.mono s⟩
theorem pL.off{H H':Hp}{D:Addr}{way:Str}{q:Nat×List C2}{x:V}(hD:∃o,H D=some (.lst o))(k:∀b o,b≠D->H b=some o->H' b=some o)(h:pL H way q x):pL H' way q x:=by
 obtain⟨a,t,xs,e,h1,h2,h3⟩:=h
 have tZ:=hD
 obtain⟨o,tZ⟩:=tZ
 exact⟨a,t,xs,e,k a _ (b0 h1 tZ (by intro z;cases z)) h1,k t _ (b0 h2 tZ (by intro z;cases z)) h2,br.off hD k h3⟩
theorem fR.mono{H H':Hp}{way:Str}{qs:List (Nat×List C2)}{xs:List V}(s:af H H')(h:fR H way qs xs):fR H' way qs xs:=Paired.bI h λ_ _ q=>q.mono s
theorem fR.off{H H':Hp}{D:Addr}{way:Str}{qs:List (Nat×List C2)}{xs:List V}(hD:∃o,H D=some (.lst o))(k:∀b o,b≠D->H b=some o->H' b=some o)(h:fR H way qs xs):fR H' way qs xs:=Paired.bI h λ_ _ q=>q.off hD k
theorem Nc{K:PySem.W.Frag}{H:Hp}{p e:Addr}{xs ys:List V}{o:HO}(hp:H p=some (.lst ys))(h:aw K H e xs):aw K (upd H p o) e xs:=by
 rcases h with (h | ⟨ob,h⟩) | h
 .exact .inl (.inl (by rw[ak (b0 h hp (by intro z;cases z))];exact h))
 .exact .inl (.inr ⟨ob,by rw[ak (b0 h hp (by intro z;cases z))];exact h⟩)
 .exact .inr h
noncomputable def jf(l:List Str)(w:Nat)(i j:Int):Bool:=decide (0<=i)&&(decide (i<(l.length:Int))&&(decide (0<=j)&&(decide (j<(w:Int))&&bJ l (i.toNat,j.toNat))))
theorem FA(l:List Str)(w:Nat)(c:C2):jf l w (c.1:Int) (c.2:Int)=bg l w c:=by
 unfold jf bg
 have h1:decide ((0:Int)<=(c.1:Int))=true:=aG (by omega)
 have h2:decide ((0:Int)<=(c.2:Int))=true:=aG (by omega)
 have h3:decide ((c.1:Int)<(l.length:Int))=decide (c.1<l.length):=by
  by_cases h:c.1<l.length
  .rw[aG h,aG (by omega)]
  .rw[aF h,aF (by omega)]
 have h4:decide ((c.2:Int)<(w:Int))=decide (c.2<w):=by
  by_cases h:c.2<w
  .rw[aG h,aG (by omega)]
  .rw[aF h,aF (by omega)]
 rw[h1,h2,h3,h4,sW,sW,dH,dH]
theorem Nd(l:List Str)(w:Nat)(c d:C2):jf l w ((c.1:Int) - (d.1:Int)) ((c.2:Int) - (d.2:Int))=gI (bg l w) d c:=by
 unfold gI
 by_cases h1:d.1<=c.1
 .by_cases h2:d.2<=c.2
  .have e1:(c.1:Int) - (d.1:Int)=((c.1 - d.1:Nat):Int):=by omega
   have e2:(c.2:Int) - (d.2:Int)=((c.2 - d.2:Nat):Int):=by omega
   rw[e1,e2,FA l w (c.1 - d.1,c.2 - d.2),aG h1,aG h2,sW,sW]
  .unfold jf
   rw[aF h2,gT,oy,aF (p:=(0:Int)<=(c.2:Int) - (d.2:Int)) (by omega),gT,oy,oy]
 .unfold jf
  rw[aF h1,gT,aF (p:=(0:Int)<=(c.1:Int) - (d.1:Int)) (by omega),gT]
theorem pM(op:C2->Bool)(f:C2->List C2):∀(n:Nat) (cs:List C2),(dj op f n cs).length<=cs.length
 |n,[]=>aQ _
 |n,c::r=>by
  unfold dj
  split
  .exact Nat.le_succ_of_le (pM op f _ r)
  .exact lA (pM op f _ r)
theorem Ng{α β:Type}{R:α->β->Prop}:∀{l:List α}{m:List β},Paired R l m->m.isEmpty=l.isEmpty
 |_,_,.nil=>rfl
 |_,_,.cons _ _=>rfl
theorem Nh{op:C2->Bool}{f:C2->List C2}(hf:∀{c},(f c).isEmpty=false->d9 op c=true){cs:List C2}{i:Nat}{c:C2}(hc:cs[i]? = some c) :
  dj op f 0 (cs.take (i+1))=dj op f 0 (cs.take i)++if (f c).isEmpty=true then [] else [(dP op (cs.take (i+1)),f c)]:=by
 have kT:cs.take (i+1)=cs.take i++[c]:=by rw[fL,hc];rfl
 rw[kT,MX,MW,mO]
def AN(K:PySem.W.Frag)(mg:Str->Option Value)(x:Str)(xs:List V):Prop := ∃a,Cn mg x (.ref a)/\∀H,aw K H a xs
section
variable{P:Program}{w:World}{K:PySem.W.Frag}{mg:Str->Option Value}{base:Heap}{f:Addr}{fd:FuncData}
def Ni(K:PySem.W.Frag):Sp:=λvs H Q _=>∃(a b:Addr) (l:List Str) (w:Nat) (i j:Int),vs=[.ref a,.ref b]/\aw K H a (l.map V.str)/\ba l w/\aw K H b [.int i,.int j]/\Q (.bl (jf l w i j)) H
theorem Zi:bc ["sheet","cell"] ["sheet","cell"] (aS (top 22)):={}
theorem Zj(B:Bl mg)(F:aW K "is_open_within" "is_open_within" (top 22) f fd)(xg:Fn P w K mg base "is_open" 2 (AL K)):aM P w K mg base aR 3 f fd ["sheet","cell"] (Ni K):=by
 refine F.bG Zi λaH A outer s H vs Q E hr h=>?_
 refine hide λG_ aI=>?_
 obtain⟨a,b,l,wd,i,j,rfl,hT,S,hb,q⟩:=h
 obtain⟨x0,nM,AO,nN,_⟩:=S.row (i:=0) S.one
 refine aI.k ?_
 have h9:=S.nine
 have hw:=S.w9
 refine⟨_,(av (b6 (mV (zf tH lJ aE (aX cj (pv 1) aE (λ_ _=>rfl)) (bP dY (by rfl) B.cq cn (ab (pv 0) ai))))
  (az (aZ lE))
  b9)
  (av (b6 (mV (zf tH lJ aE (aX cj (pv 1) aE (λ_ _=>rfl)) (bP g9 (by rfl) B.cq cn (ab (aX cj (pv 0) aE (λ_ _=>rfl)) ai))))
  (az (aZ lE))
  b9)
  (az (aZ (aV xg (hr.mono (by decide)) (by rfl) (ab (pv 0) (ab (pv 1) ai))))))),?_⟩
 try dsimp only[bD]
 unfold jf at q
 refine⟨_,rfl,b,_,0,.int i,rfl,rfl,hb,rfl,_,_,rfl,rfl,_,rfl,?_⟩
 by_cases h0:(0:Int)<=i
 .rw[aG h0] at q ⊢
  refine bz ⟨_,rfl,a,_,rfl,.inr hT,_,_,rfl,rfl,_,rfl,?_⟩
  rw[ar]
  by_cases h1:i<(l.length:Int)
  .rw[aG h1] at q ⊢
   refine bf ?_
   refine⟨_,rfl,b,_,1,.int j,rfl,rfl,hb,rfl,_,_,rfl,rfl,_,rfl,?_⟩
   by_cases h2:(0:Int)<=j
   .rw[aG h2] at q ⊢
    refine bz ⟨_,rfl,a,_,0,.str x0,rfl,rfl,hT,iX nM,x0,rfl,eA (by omega),_,_,rfl,rfl,_,rfl,?_⟩
    rw[nN]
    by_cases h3:j<(wd:Int)
    .rw[aG h3] at q ⊢
     refine bf ?_
     obtain⟨i',rfl⟩:=qD h0
     obtain⟨j',rfl⟩:=qD h2
     rw[dH,dH] at q
     exact⟨_,rfl,_,rfl,a,b,l,wd,(i',j'),rfl,hT,S,hb,by omega,by omega,q⟩
    .rw[aF h3] at q ⊢
     exact bz q
   .rw[aF h2] at q ⊢
    refine bf ⟨_,rfl,?_⟩
    exact bz q
  .rw[aF h1] at q ⊢
   exact bz q
 .rw[aF h0] at q ⊢
  refine bf ⟨_,rfl,?_⟩
  exact bz q
def Nj(K:PySem.W.Frag)(a b d t p:Addr)(H:Hp)(l:List Str)(wd:Nat)(c dd:C2):Nat->St->Hp->Prop:=λm σ H2=>∃n xs e,m=10 - n/\n<=9/\σ=[some (.ref a),some (.ref b),some (.ref d),some (.ref t),some (.ref p),some (.ref e)]/\af H H2/\
 H2 p=some (.lst xs)/\br H2 (line c dd n) xs/\H2 e=some (.tup [.int (go c dd n).1,.int (go c dd n).2])/\∀k,k<n->bg l wd (go c dd k)=true
def Nk(K:PySem.W.Frag):Sp:=λvs H Q _=>∃(a b d:Addr) (l:List Str) (w:Nat) (c dd:C2),vs=[.ref a,.ref b,.ref d]/\aw K H a (l.map V.str)/\ba l w/\H b=some (.tup [.int c.1,.int c.2])/\aw K H d [.int dd.1,.int dd.2]/\(dd=(0,1)\/dd=(1,0))/\
 ∀t xs H',af H H'->H' t=some (.tup xs)->br H' (bV (bg l w) dd c) xs->Q (.ref t) H'
theorem xh:bc ["sheet","cell","way","before","cells","here"] ["sheet","cell","way"] (aS (top 21)):={}
theorem Zk(B:Bl mg)(F:aW K "row_from" "row_from" (top 21) f fd)(Nl:Fn P w K mg base "is_open_within" 3 (Ni K)):aM P w K mg base aR 4 f fd ["sheet","cell","way"] (Nk K):=by
 refine F.bG xh λaH A outer s H vs Q E hr h=>?_
 refine hide λG_ aI=>?_
 obtain⟨a,b,d,l,wd,c,dd,rfl,hT,S,hb,hd,Aq,q⟩:=h
 refine aI.k ?_
 have h9:=S.nine
 have hw:=S.w9
 have Nm:aw K H b [.int c.1,.int c.2]:=aw.of hb
 refine⟨_,(av (aK (i:=3) xh.nd rfl (Or.inl rfl) (fB (ab (aO oY (aX cj (pv 1) aE (λ_ _=>rfl)) (aX cj (pv 2) aE (λ_ _=>rfl))) (ab (aO oY (aX cj (pv 1) aE (λ_ _=>rfl)) (aX cj (pv 2) aE (λ_ _=>rfl))) ai))))
  (av (b6 (kr (aV Nl (hr.mono (by decide)) (by rfl) (ab (pv 0) (ab (pv 3) ai))))
  (az (aZ (fB ai)))
  b9)
  (av (aK (i:=4) xh.nd rfl (Or.inl rfl) (dX ai))
  (av (aK (i:=5) xh.nd rfl (Or.inl rfl) (pv 1))
  (av (Kg cF (kr (aV Nl (hr.mono (by decide)) (by rfl) (ab (pv 0) (ab (pv 5) ai))))
  (av (dM (fO jc jI jJ hX (pv 4) (ab (pv 5) ai)))
   (az (aK (i:=5) xh.nd rfl (Or.inl rfl) (fB (ab (aO eD (aX cj (pv 5) aE (λ_ _=>rfl)) (aX cj (pv 2) aE (λ_ _=>rfl))) (ab (aO eD (aX cj (pv 5) aE (λ_ _=>rfl)) (aX cj (pv 2) aE (λ_ _=>rfl))) ai)))))))
  (av (b6 (cx lJ (bP dY (by rfl) B.cq cn (ab (pv 4) ai)) aE (cH _))
  (az (aZ (fB ai)))
  b9)
  (az (aZ (jR wc (by rfl) B.xb wA (ab (pv 4) ai)))))))))),?_⟩
 try dsimp only[bD]
 refine⟨_,rfl,b,_,0,.int c.1,rfl,rfl,Nm,rfl,_,rfl,d,_,0,.int dd.1,rfl,rfl,hd,rfl,_,_,rfl,rfl,_,rfl,b,_,1,.int c.2,rfl,rfl,Nm,rfl,_,rfl,d,_,1,.int dd.2,rfl,rfl,hd,rfl,_,_,rfl,rfl,by show 2<=sizeLine;decide,λt ht=>?_⟩
 have eO:af H (upd H t (.tup [.int ((c.1:Int) - (dd.1:Int)),.int ((c.2:Int) - (dd.2:Int))])):=af.upd ht
 refine⟨_,rfl,_,rfl,a,t,l,wd,_,_,rfl,eO.tup hT,S,aw.of au,_,rfl,?_⟩
 rw[Nd]
 refine eM (λjZ=>?_) (λjZ=>?_)
 .refine⟨bx _,λp hp=>q p [] _ (eO.trans (af.upd hp)) au ?_⟩
  unfold bV
  rw[ax jZ]
  exact .nil
 .refine⟨bx _,λp hp=>?_⟩
  have fg:af H (upd (upd H t (.tup [.int ((c.1:Int) - (dd.1:Int)),.int ((c.2:Int) - (dd.2:Int))])) p (.lst [])):=eO.trans (af.upd hp)
  have fS:H p=none:=eO.free hp
  refine⟨_,rfl,?_⟩
  refine⟨Nj K a b d t p H l wd c dd,⟨10,0,[],b,rfl,by omega,rfl,fg,au,.nil,by rw[iV];exact fg _ _ hb,λk hk=>absurd hk (fZ _)⟩,?_⟩
  intro m σ H2 Zl
  refine hide λG_ aY=>?_
  obtain⟨n,xs,e,rfl,hn,rfl,sm,hL,hC,hE,ho⟩:=Zl
  refine aY.k ?_
  refine⟨_,rfl,_,rfl,a,e,l,wd,_,_,rfl,sm.tup hT,S,aw.of hE,_,rfl,?_⟩
  rw[FA]
  have hlen:xs.length=n:=by rw[<-hC.length,rL]
  refine eM (λi0=>?_) (λi0=>?_)
  .have Zm:n<=8:=by
    obtain⟨o1,o2,_⟩:=nK i0
    simp only[go] at o1 o2
    rcases Aq with rfl | rfl
    .simp only[gX] at o2
     omega
    .simp only[gX] at o1
     omega
   refine⟨λσ' H' =>∃m',m'<10 - n/\Nj K a b d t p H l wd c dd m' σ' H',λ_ _ z=>z,?_⟩
   have FC:∀o,upd H2 p o e=some (.tup [.int (go c dd n).1,.int (go c dd n).2]):=λo=>by rw[ak (b0 hE hL (by intro z;cases z))];exact hE
   refine⟨_,rfl,.inl ⟨rfl,_,aj.of hL⟩,_,rfl,p,xs,_,rfl,rfl,hL,ui (by omega),?_⟩
   refine⟨_,rfl,e,_,0,.int (go c dd n).1,rfl,rfl,aw.of (FC _),rfl,_,rfl,d,_,0,.int dd.1,rfl,rfl,Nc hL (sm.tup hd),rfl,_,_,rfl,rfl,_,rfl,e,_,1,.int (go c dd n).2,rfl,rfl,aw.of (FC _),rfl,_,rfl,d,_,1,.int dd.2,rfl,rfl,Nc hL (sm.tup hd),rfl,_,_,rfl,rfl,by show 2<=sizeLine;decide,λt2 gs=>?_⟩
   refine⟨10 - (n+1),by omega,n+1,xs++[.ref e],t2,rfl,by omega,rfl,(sm.jX fS).trans (af.upd gs),af.upd gs _ _ au,?_,?_,?_⟩
   .rw[MV]
    refine br.mono (af.upd gs) (mN (br.off ⟨xs,hL⟩ (λb' o ji z=>by rw[ak ji];exact z) hC) ⟨e,rfl,FC _⟩)
   .rw[au,go_succ]
    simp only[Int.natCast_add]
   .intro k hk
    rcases vI.mp hk with z | z
    .exact ho k z
    .rw[z];exact i0
  .have AQ:runN (bg l wd) dd 10 c=n:=Fj (by omega) ho (iJ.mpr i0)
   refine⟨_,rfl,p,_,rfl,.inl (aj.of hL),_,_,rfl,rfl,_,rfl,?_⟩
   rw[hlen]
   refine eM (λh2=>?_) (λh2=>?_)
   .have h2:(n:Int)<2:=eQ h2
    refine⟨bx _,λp' fc=>q p' [] _ (sm.trans (af.upd fc)) au ?_⟩
    unfold bV
    rw[aq jZ,AQ,ax (by omega)]
    exact .nil
   .have h2:¬(n:Int)<2:=λz=>h2 (aG z)
    refine⟨_,rfl,p,_,rfl,.inl ⟨aj.of hL,λp' fc=>?_⟩⟩
    refine q p' xs _ (sm.trans (af.upd fc)) au ?_
    unfold bV
    rw[aq jZ,AQ,aq (by omega)]
    exact hC.mono (af.upd fc)
def FD(K:PySem.W.Frag):Sp:=λvs H Q _=>∃(a:Addr) (l:List Str) (w:Nat),vs=[.ref a]/\aw K H a (l.map V.str)/\ba l w/\
 ∀p xs ys H',H p=none->af H H'->H' p=some (.lst (xs++ys))->fR H' "across" (ij l w) xs->fR H' "down" (pK l w) ys->Q (.ref p) H'
theorem pN:bc ["sheet","across","down","number","cell","to_the_right","to_below"] ["sheet"] (aS (top 20)):={}
theorem Zn(F:aW K "rows_of" "rows_of" (top 20) f fd)(CA:AN K mg "ACROSS" [.int 0,.int 1])(CD:AN K mg "DOWN" [.int 1,.int 0])(FE:Fn P w K mg base "open_cells" 3 (Fz K))(Nn:Fn P w K mg base "row_from" 4 (Nk K)):aM P w K mg base aR 5 f fd ["sheet"] (FD K):=by
 refine F.bG pN λaH A outer s H vs Q E hr h=>?_
 refine hide λG_ aI=>?_
 obtain⟨a,l,wd,rfl,hT,S,q⟩:=h
 obtain⟨dA,FF,tA⟩:=CA
 obtain⟨dD,FG,tD⟩:=CD
 refine aI.k ?_
 have nH:=wZ S
 have AR:(bH l wd).length<=81:=bA (gD _ _) nH
 refine⟨_,(av (aK (i:=1) pN.nd rfl (Or.inl rfl) (dX ai))
  (av (aK (i:=2) pN.nd rfl (Or.inl rfl) (dX ai))
  (av (aK (i:=3) pN.nd rfl (Or.inl rfl) aE)
  (av (cG cF rfl (dF (aV FE (hr.mono (by decide)) (by rfl) (ab (pv 0) ai))) (bR (i:=4) pN.nd rfl (Or.inl rfl))
  (av (aK (i:=5) pN.nd rfl (Or.inl rfl) (aV Nn (hr.mono (by decide)) (by rfl) (ab (pv 0) (ab (pv 4) (ab (ny FF (by rfl)) ai)))))
   (av (aK (i:=6) pN.nd rfl (Or.inl rfl) (aV Nn (hr.mono (by decide)) (by rfl) (ab (pv 0) (ab (pv 4) (ab (ny FG (by rfl)) ai)))))
   (av (tT (b6 (PW.pt (tj (tI (pv 5) (by intro _;rfl)) (tf (tI (pv 6) (by intro _;rfl)))))
   (az (aK (i:=3) pN.nd rfl (Or.inl rfl) (aO eD (pv 3) aE)))
   b9))
   (av (tT (b6 (tI (pv 5) (by intro _;rfl))
   (az (dM (fO jc jI jJ hX (pv 1) (ab (fB (ab (pv 3) (ab gh (ab (pv 5) ai)))) ai (hs:=de rfl)))))
   b9))
   (az (b6 (tI (pv 6) (by intro _;rfl))
   (az (dM (fO jc jI jJ hX (pv 2) (ab (fB (ab (pv 3) (ab gh (ab (pv 6) ai)))) ai (hs:=de rfl)))))
   b9)))))))
  (az (aZ (aO DL (pv 1) (pv 2)))))))),?_⟩
 try dsimp only[bD]
 refine⟨bx _,λpa xi=>?_⟩
 refine⟨bx _,λpd pO=>?_⟩
 have FH:pa≠pd:=by intro z;rw[<-z,au] at pO;cases pO
 have Np:af H (upd H pa (.lst [])):=af.upd xi
 have Nr:af H (upd (upd H pa (.lst [])) pd (.lst [])):=Np.trans (af.upd pO)
 have Zo:H pd=none:=Np.free pO
 have AS:upd (upd H pa (.lst [])) pd (.lst []) pa=some (.lst []):=by rw[ak FH,au]
 have xj:upd (upd H pa (.lst [])) pd (.lst []) pd=some (.lst []):=au
 refine⟨_,rfl,a,l,wd,rfl,Nr.tup hT,S,λp xs H1 hp fg hL hC=>⟨p,rfl,⟨_,aj.of hL⟩,?_⟩⟩
 have rO:p≠pa:=λz=>by rw[z] at hp;rw[AS] at hp;cases hp
 have pP:p≠pd:=λz=>by rw[z] at hp;rw[xj] at hp;cases hp
 generalize i0:bg l wd=op at *
 have kU:xs.length=(bH l wd).length:=hC.length.symm
 refine ku (xs:=xs) (λi σ H2=>∃v4 v5 v6 as ds,σ=[some (.ref a),some (.ref pa),some (.ref pd),some (.int (dP op ((bH l wd).take i))),v4,v5,v6]/\af H H2/\(∀b o,b≠pa->b≠pd->H1 b=some o->H2 b=some o)/\
   H2 pa=some (.lst as)/\H2 pd=some (.lst ds)/\fR H2 "across" (dj op (nJ op) 0 ((bH l wd).take i)) as/\fR H2 "down" (dj op (mf op) 0 ((bH l wd).take i)) ds)
  ⟨none,none,none,[],[],rfl,Nr.trans fg,λ_ _ _ _ z=>z,fg _ _ AS,fg _ _ xj,.nil,.nil⟩ ?_ ?_ ?_
 .rintro i σ H2 _ ⟨v4,v5,v6,as,ds,rfl,sm,off,hA,hD,rA,rD⟩
  exact aj.of (off _ _ rO pP hL)
 .intro i x σ H2 hi Zp
  refine hide λG_ aY=>?_
  obtain⟨v4,v5,v6,as,ds,rfl,sm,off,hA,hD,rA,rD⟩:=Zp
  obtain⟨c,hc,b,rfl,hb⟩:=Paired.get hC hi
  refine aY.k ?_
  have agl:∀o,H1 pa=some o->∃z,o=HO.lst z:=λo e=>⟨[],by rw[fg _ _ AS] at e;exact(c9 e).symm⟩
  have Zq:b≠pa:=b0 hb (fg _ _ AS) (by intro z;cases z)
  have Zr:b≠pd:=b0 hb (fg _ _ xj) (by intro z;cases z)
  have nB:=off _ _ Zq Zr hb
  have kT:(bH l wd).take (i+1)=(bH l wd).take i++[c]:=by rw[fL,hc];rfl
  have AU:as.length<=81:=by rw[<-rA.length];exact bA (pM _ _ _ _) (bA (List.length_take_le' _ _) AR)
  have Zs:ds.length<=81:=by rw[<-rD.length];exact bA (pM _ _ _ _) (bA (List.length_take_le' _ _) AR)
  refine⟨_,rfl,_,rfl,a,b,dA,l,wd,c,(0,1),rfl,sm.tup hT,S,nB,tA _,.inl rfl,λt1 AV H3 iY Zt FI=>?_⟩
  refine⟨_,rfl,_,rfl,a,b,dD,l,wd,c,(1,0),rfl,(sm.trans iY).tup hT,S,iY _ _ nB,tD _,.inr rfl,λt2 xk H4 dQ gs FJ=>?_⟩
  rw[i0] at FI FJ
  have e1:AV.isEmpty=(nJ op c).isEmpty:=Ng FI
  have e2:xk.isEmpty=(mf op c).isEmpty:=Ng FJ
  have rP:=iY.trans dQ
  have uj:=rP _ _ hA
  have Zu:=rP _ _ hD
  have AW:=dQ _ _ Zt
  refine⟨λσ' H'=>σ'=[some (.ref a),some (.ref pa),some (.ref pd),some (.int (dP op ((bH l wd).take (i+1)))),some (.ref b),some (.ref t1),some (.ref t2)]/\H4=H',?_,?_⟩
  .rintro σ' H' ⟨rfl,rfl⟩
   refine⟨λσ' H'=>σ'=[some (.ref a),some (.ref pa),some (.ref pd),some (.int (dP op ((bH l wd).take (i+1)))),some (.ref b),some (.ref t1),some (.ref t2)]/\(∀b o,b≠pa->H4 b=some o->H' b=some o)/\
    ∃xl,H' pa=some (.lst xl)/\fR H' "across" (dj op (nJ op) 0 ((bH l wd).take (i+1))) xl,?_,?_⟩
   .rintro σ' H5 ⟨rfl,nO,xl,Nt,Nu⟩
    have FN:=nO _ _ (bj FH) Zu
    have FO:=nO _ _ (b0 gs uj (by intro z;cases z)) gs
    have Zv:br H5 (mf op c) xk:=br.off ⟨as,uj⟩ nO FJ
    have Nv:fR H5 "down" (dj op (mf op) 0 ((bH l wd).take i)) ds:=fR.off ⟨as,uj⟩ nO (rD.mono rP)
    have ik:af H H5:=λb o z=>nO b o (bq z xi) ((sm.trans rP) _ _ z)
    have Nx:∀b o,b≠pa->b≠pd->H1 b=some o->H5 b=some o:=λb o h1 h2 z=>nO b o h1 (rP _ _ (off b o h1 h2 z))
    have er:=Nh (op:=op) (f:=mf op) Fq hc
    refine⟨_,rfl,_,Or.inr (Or.inl ⟨xk,aw.of FO,rfl⟩),?_⟩
    by_cases z:(mf op c).isEmpty=true
    .rw[e2,z]
     refine bf ⟨some (.ref b),some (.ref t1),some (.ref t2),xl,ds,rfl,ik,Nx,Nt,FN,Nu,?_⟩
     rw[er,ax z,fX]
     exact Nv
    .rw[e2,iJ.mpr z]
     refine bz ⟨_,rfl,.inl ⟨rfl,_,aj.of FN⟩,_,rfl,_,rfl,by show 3<=sizeLine;decide,λt ht=>?_⟩
     have gK:af H5 (upd H5 t (.tup [.int (dP op ((bH l wd).take (i+1))),.str "down",.ref t2])):=af.upd ht
     have uk:=gK _ _ FN
     have gM:∀o' b o,b≠pd->upd H5 t (.tup [.int (dP op ((bH l wd).take (i+1))),.str "down",.ref t2]) b=some o->upd (upd H5 t (.tup [.int (dP op ((bH l wd).take (i+1))),.str "down",.ref t2])) pd o' b=some o:=λo' b o hb y=>by rw[ak hb];exact y
     refine⟨pd,ds,_,rfl,rfl,uk,ui (by omega),some (.ref b),some (.ref t1),some (.ref t2),xl,ds++[.ref t],rfl,(ik.trans gK).jX Zo,λb o h1 h2 y=>gM _ b o h2 (gK _ _ (Nx b o h1 h2 y)),gM _ pa _ FH (gK _ _ Nt),au,?_,?_⟩
     .exact fR.off ⟨ds,uk⟩ (gM _) (Nu.mono gK)
     .rw[er,aq z]
      refine mN (fR.off ⟨ds,uk⟩ (gM _) (Nv.mono gK)) ⟨t,t2,xk,rfl,gM _ t _ (b0 au uk (by intro y;cases y)) au,gM _ t2 _ (b0 (gK _ _ FO) uk (by intro y;cases y)) (gK _ _ FO),br.off ⟨ds,uk⟩ (gM _) (Zv.mono gK)⟩
   .have er:=Nh (op:=op) (f:=nJ op) Fp hc
    refine⟨_,rfl,_,Or.inr (Or.inl ⟨AV,aw.of AW,rfl⟩),?_⟩
    by_cases z:(nJ op c).isEmpty=true
    .rw[e1,z]
     refine bf ⟨rfl,λ_ _ _ y=>y,as,uj,?_⟩
     rw[er,ax z,fX]
     exact rA.mono rP
    .rw[e1,iJ.mpr z]
     refine bz ⟨_,rfl,.inl ⟨rfl,_,aj.of uj⟩,_,rfl,_,rfl,by show 3<=sizeLine;decide,λt ht=>?_⟩
     have gK:af H4 (upd H4 t (.tup [.int (dP op ((bH l wd).take (i+1))),.str "across",.ref t1])):=af.upd ht
     have xm:=gK _ _ uj
     have gM:∀o' b o,b≠pa->upd H4 t (.tup [.int (dP op ((bH l wd).take (i+1))),.str "across",.ref t1]) b=some o->upd (upd H4 t (.tup [.int (dP op ((bH l wd).take (i+1))),.str "across",.ref t1])) pa o' b=some o:=λo' b o hb y=>by rw[ak hb];exact y
     refine⟨pa,as,_,rfl,rfl,xm,ui (by omega),rfl,λb o h1 y=>gM _ b o h1 (gK _ _ y),as++[.ref t],au,?_⟩
     rw[er,aq z]
     exact mN (fR.off ⟨as,xm⟩ (gM _) ((rA.mono rP).mono gK)) ⟨t,t1,AV,rfl,gM _ t _ (b0 au xm (by intro y;cases y)) au,gM _ t1 _ (b0 (gK _ _ AW) xm (by intro y;cases y)) (gK _ _ AW),br.off ⟨as,xm⟩ (gM _) ((FI.mono dQ).mono gK)⟩
  .have enum:dP op ((bH l wd).take (i+1))=if d9 op c=true then dP op ((bH l wd).take i)+1 else dP op ((bH l wd).take i):=by rw[kT,MW]
   refine⟨_,rfl,_,Or.inr (Or.inl ⟨AV,aw.of AW,rfl⟩),?_⟩
   by_cases z1:(nJ op c).isEmpty=true
   .rw[e1,z1]
    refine bf ⟨_,rfl,_,Or.inr (Or.inl ⟨xk,aw.of gs,rfl⟩),?_⟩
    by_cases z2:(mf op c).isEmpty=true
    .rw[e2,z2]
     refine bf ⟨?_,rfl⟩
     rw[enum,aq (by unfold d9;rw[z1,z2];decide)]
     rfl
    .rw[e2,iJ.mpr z2]
     refine bz ⟨_,rfl,_,_,rfl,rfl,?_,rfl⟩
     rw[enum,ax (Fq (iJ.mpr z2))]
     rfl
   .rw[e1,iJ.mpr z1]
    refine bz (bz ⟨_,rfl,_,_,rfl,rfl,?_,rfl⟩)
    rw[enum,ax (Fp (iJ.mpr z1))]
    rfl
 .intro σ H2 Zw
  refine hide λG_ bK=>?_
  obtain⟨v4,v5,v6,as,ds,rfl,sm,off,hA,hD,rA,rD⟩:=Zw
  refine bK.k ?_
  rw[fw (by omega)] at rA rD
  have AU:as.length<=81:=by rw[<-rA.length];exact bA (pM _ _ _ _) AR
  have Zs:ds.length<=81:=by rw[<-rD.length];exact bA (pM _ _ _ _) AR
  subst i0
  refine⟨_,rfl,_,rfl,pa,pd,as,ds,rfl,rfl,hA,hD,eA (by omega),λp' fc=>?_⟩
  exact q p' as ds _ (sm.free fc) (sm.trans (af.upd fc)) au (rA.mono (af.upd fc)) (rD.mono (af.upd fc))
end
theorem FQ{op:C2->Bool}{d:C2}:∀{f:Nat}{c:C2}{k:Nat},k<runN op d f c->op (go c d k)=true
 |0,_,_,h=>by unfold runN at h;exact absurd h (fZ _)
 |f+1,c,k,h=>by
  unfold runN at h
  split at h
  .rename_i ho
   cases k with
   |zero=>rw[iV];exact ho
   |succ k=>
    have:=FQ (op:=op) (d:=d) (f:=f) (c:=(c.1+d.1,c.2+d.2)) (k:=k) (by omega)
    have e:go c d (k+1)=go (c.1+d.1,c.2+d.2) d k:=by
     simp only[go,jb,mP]
     omega
    rw[e]
    exact this
  .exact absurd h (fZ _)
theorem Ny{op:C2->Bool}{d:C2}:∀{f:Nat}{c:C2},runN op d f c<=f
 |0,_=>by unfold runN;exact aQ _
 |f+1,c=>by
  unfold runN
  split
  .exact lA Ny
  .exact bx _
theorem Zx{op:C2->Bool}{d c x:C2}(h:x∈bV op d c):op x=true:=by
 unfold bV at h
 split at h
 .exact absurd h fK
 .split at h
  .exact absurd h fK
  .obtain⟨k,hk,rfl⟩:=bt.mp h
   exact FQ (eC.mp hk)
theorem Zy{op:C2->Bool}{d c:C2}:(bV op d c).length<=10:=by
 unfold bV
 split
 .exact bx _
 .split
  .exact bx _
  .rw[rL];exact Ny
noncomputable def dw(l:List Str)(w:Nat):List (Nat×List C2):=ij l w++pK l w
theorem Nz{op:C2->Bool}{d:C2}(hf:∀c,(bV op d c).isEmpty=false->d9 op c=true){n:Nat}{cs:List C2}{q:Nat×List C2}(h:q∈dj op (bV op d) n cs):q.2.length<=10/\∀c∈q.2,op c=true:=by
 obtain⟨_,c,_,_,e,_⟩:=MY hf h
 rw[e]
 exact⟨Zy,λx hx=>Zx hx⟩
theorem FR{l:List Str}{w:Nat}{q:Nat×List C2}(h:q∈dw l w):q.2.length<=10/\∀c∈q.2,c.1<l.length/\c.2<w/\bJ l c=true:=by
 have z:q.2.length<=10/\∀c∈q.2,bg l w c=true:=by
  rcases dh.mp h with h | h
  .exact Nz (λc=>Fp) h
  .exact Nz (λc=>Fq) h
 exact⟨z.1,λc hc=>nK (z.2 c hc)⟩
theorem rQ{l:List Str}{w:Nat}(S:ba l w):(dw l w).length<=162:=by
 unfold dw
 rw[cQ]
 have h1:(ij l w).length<=(bH l w).length:=pM _ _ _ _
 have h2:(pK l w).length<=(bH l w).length:=pM _ _ _ _
 have h3:(bH l w).length<=(cells l.length w).length:=gD _ _
 have h4:=wZ S
 omega
def Zz(H:Hp)(q:Nat×List C2)(x:V):Prop := ∃way,pL H way q x
theorem NA{α β:Type}{R:α->β->Prop}:∀{l:List α}{m:List β}{l':List α}{m':List β},Paired R l m->Paired R l' m'->Paired R (l++l') (m++m')
 |_,_,_,_,.nil,h=>h
 |_,_,_,_,.cons h t,h' =>.cons h (NA t h')
theorem NB{H:Hp}{l:List Str}{w:Nat}{xs ys:List V}(h1:fR H "across" (ij l w) xs)(h2:fR H "down" (pK l w) ys):Paired (Zz H) (dw l w) (xs++ys):=
 NA (Paired.bI h1 λ_ _ h=>⟨_,h⟩) (Paired.bI h2 λ_ _ h=>⟨_,h⟩)
noncomputable def ao(l:List Str)(cs:List C2):Str:=⟨(cs.map (sg l)).toArray⟩
theorem FT:∀xs:List Nat,Str.join ⟨#[]⟩ (xs.map λc=>(⟨#[c]⟩:Str))=⟨xs.toArray⟩
 |[]=>rfl
 |[x]=>rfl
 |x::y::r=>by
  have ih:=FT (y::r)
  show(⟨#[x]⟩++⟨#[]⟩++Str.join ⟨#[]⟩ ((y::r).map λc=>(⟨#[c]⟩:Str)):Str)=_
  rw[ih]
  apply l7
  rw[pI,pI]
  simp
theorem FU:∀xs:List Nat,(((xs.map λc=>(⟨#[c]⟩:Str)).map (·.length)).sum)=xs.length
 |[]=>rfl
 |x::r=>by
  rw[bL,bL,fM,FU r,c5,Nat.add_comm]
  rfl
theorem AX:("":Str)=⟨#[]⟩:=by decide +kernel
theorem pQ{α β:Type}{f:α->β}:∀{l:List α}{ys:List β},Paired (λi y=>y=f i) l ys->ys=l.map f
 |_,_,.nil=>rfl
 |_,_,.cons h t=>by rw[bL,<-pQ t,h]
theorem rR{α β:Type}(g:α->β)(d:α)(l:List α):(List.range l.length).map (λi=>g (l.getD i d))=l.map g:=by
 apply iI
 intro i
 rw[bb,bb]
 by_cases h:i<l.length
 .rw[oG h,aU h,iD,iD,bM,aU h,oz]
 .rw[cB (by simpa using h),cB (by simpa using h)]
  rfl
section
variable{P:Program}{w:World}{K:PySem.W.Frag}{mg:Str->Option Value}{base:Heap}{f:Addr}{fd:FuncData}
def NC(K:PySem.W.Frag):Sp:=λvs H Q _=>∃(a t:Addr) (l:List Str) (w:Nat) (cs:List C2) (xs:List V),vs=[.ref a,.ref t]/\aw K H a (l.map V.str)/\ba l w/\H t=some (.tup xs)/\br H cs xs/\cs.length<=100/\(∀c∈cs,c.1<l.length/\c.2<w)/\
 ∀H',af H H'->Q (.str (ao l cs)) H'
theorem ZA:bc ["sheet","cells"] ["sheet","cells"] (aS (top 26)):={}
theorem ZC(F:aW K "pattern" "pattern" (top 26) f fd)(Fy:Fn P w K mg base "sign_at" 1 (Fw K)):aM P w K mg base aR 2 f fd ["sheet","cells"] (NC K):=by
 refine F.bG ZA λaH A outer s H vs Q E hr h=>?_
 refine hide λG_ aI=>?_
 obtain⟨a,t,l,wd,cs,xs,rfl,hT,S,ht,hC,hlen,bu,q⟩:=h
 refine aI.k ?_
 have ig:=hC.length
 refine⟨_,(az (aZ (fO R3 PySem.F.slot_str_join PySem.F.type_str_join LC gh (ab (jl (js:=[0]) (ns:=["sheet"]) (y9 (pv 1)) rfl rfl rfl rfl (λ_ _ _ _=>jY) (λ_ _ _ _=>(aV Fy (hr.mono (by decide)) (by rfl) (ab (pv 1) (ab (pv 0) ai))))) ai)))),?_⟩
 try dsimp only[bD]
 refine⟨rfl,_,rfl,t,rfl,⟨_,aw.of ht⟩,?_⟩
 refine comp_map Eg (by omega) (λ_ i y _=>y = .str ⟨#[sg l (cs.getD i (0,0))]⟩) (λH2 s2=>aw.of (s2 _ _ ht)) (λ_ _ _ _ _ _ _ _ h=>h) ?_ ?_
 .intro D i x H2 Z hD hx s2 _ k1
  obtain⟨c,hc,b,rfl,hb⟩:=Paired.get hC hx
  have eP:=bu c (bo hc)
  exact⟨_,rfl,_,rfl,a,b,l,wd,c,rfl,s2.tup hT,S,aw.of (s2 _ _ hb),eP.1,eP.2,k1 _ _ (af.cO _) (by rw[bS hc])⟩
 .intro D ys H2 hD bB s2 pr
  have e:=pQ pr
  rw[<-ig,rR (λc=>V.str ⟨#[sg l c]⟩)] at e
  have e1:ys=((cs.map (sg l)).map λc=>(⟨#[c]⟩:Str)).map V.str:=by rw[e,iK,iK];rfl
  rw[e1] at bB
  refine⟨_,D,(cs.map (sg l)).map λc=>(⟨#[c]⟩:Str),rfl,rfl,.inl (aj.of bB),?_,?_⟩
  .rw[FU,ar,ar,AX]
   show _+_*0<=_
   omega
  .rw[AX,FT]
   exact q H2 s2
end
structure dR(l:List Str)(w:Nat):Prop where
 one:1<=l.length
 nine:l.length<=9
 w9:w<=9
 len:∀x∈l,x.length=w
theorem ba.dS{l:List Str}{w:Nat}(S:ba l w):dR l w:=⟨S.one,S.nine,S.w9,S.len⟩
theorem dR.row{l:List Str}{w:Nat}(S:dR l w){i:Nat}(hi:i<l.length):∃x,l[i]? = some x/\x∈l/\x.length=w/\x.cps.toList.length=w/\∀j,j<w->x.cps.toList[j]? = some (sg l (i,j)):=by
 refine⟨l[i],aU hi,lC hi,S.len _ (lC hi),by rw[b8];exact S.len _ (lC hi),λj hj=>?_⟩
 have hl:j<l[i].cps.toList.length:=by rw[b8,S.len _ (lC hi)];exact hj
 unfold sg
 rw[bS (aU hi),aU hl]
 simp only[bS (aU hl)]
theorem dR.set{l:List Str}{w:Nat}(S:dR l w){c:Nat×Nat}{ch:Nat}(h1:c.1<l.length)(h2:c.2<w):dR (setC l c ch) w:=by
 obtain⟨x,hx,mx,lx,pJ,hj⟩:=S.row h1
 refine⟨by rw[dq];exact S.one,by rw[dq];exact S.nine,S.w9,λy my=>?_⟩
 unfold setC at my
 rcases JK my with z | z
 .exact S.len y z
 .rw[z,bS hx,w6 (by omega),lx]
theorem dR.kW{l:List Str}{w:Nat}(S:dR l w){c:Nat×Nat}{ch:Nat}(h1:c.1<l.length)(h2:c.2<w){d:Nat×Nat}(d1:d.1<l.length)(d2:d.2<w):sg (setC l c ch) d=if d=c then ch else sg l d:=by
 obtain⟨x,hx,mx,lx,pJ,hj⟩:=S.row d1
 have g:=hj d.2 d2
 by_cases e:d.1=c.1
 .have pH:(setC l c ch)[d.1]? = some (bC x c.2 ch):=by
   unfold setC
   rw[e] at hx ⊢
   rw[vt h1,bS hx]
  have q:sg (setC l c ch) d=(bC x c.2 ch).cps.toList.getD d.2 0:=by unfold sg;rw[bS pH]
  rw[q,bM,Fh (by omega) (by omega),g]
  by_cases e2:d.2=c.2
  .rw[ax e2,ax (C6.mpr ⟨e,e2⟩)]
   rfl
  .rw[aq e2,aq (λz=>e2 (dU Prod.snd z))]
   rfl
 .have pH:(setC l c ch)[d.1]? = some x:=by
   unfold setC
   rw[yt (bj e)]
   exact hx
  have q:sg (setC l c ch) d=sg l d:=by unfold sg;rw[bS pH,bS hx]
  rw[q,aq (λz=>e (dU Prod.fst z))]
section
variable{P:Program}{w:World}{K:PySem.W.Frag}{mg:Str->Option Value}{base:Heap}{f:Addr}{fd:FuncData}
theorem FV{x:Str}{j:Nat}(h:j<=x.length):(Txt.slice x none (some (j:Int))).cps.toList=x.cps.toList.take j:=by
 have e:=mI.mp (PyProof.Rows.slice_closes_to (x:=x) (j:=(j:Int)) ⟨by omega,by rw[b8];omega⟩)
 rw[e]
 simp
theorem FW{x:Str}{j:Nat}(h:j+1<=x.length):(Txt.slice x (some ((j:Int)+1)) none).cps.toList=x.cps.toList.drop (j+1):=by
 have e:=PyProof.Rows.slice_from_eq (x:=x) (i:=(j:Int)+1) (b:=(x.length:Int)) (by omega) (by omega) rfl
 rw[e]
 have e1:((j:Int)+1).toNat=j+1:=by omega
 rw[e1]
 show(x.cps.toList.drop (j+1)).take _=_
 refine fw ?_
 rw[CL,b8]
 omega
def rS(K:PySem.W.Frag):Sp:=λvs H Q _=>∃(a b:Addr) (l:List Str) (w:Nat) (c:Nat×Nat) (ch:Nat),vs=[.ref a,.ref b,.str ⟨#[ch]⟩]/\aw K H a (l.map V.str)/\dR l w/\aw K H b [.int c.1,.int c.2]/\c.1<l.length/\c.2<w/\
 ∀t H',H t=none->af H H'->H' t=some (.tup ((setC l c ch).map V.str))->Q (.ref t) H'
theorem AY:bc ["sheet","cell","sign","number","column","lines"] ["sheet","cell","sign"] (aS (top 16)):={}
theorem ZD(B:Bl mg)(F:aW K "with_sign" "with_sign" (top 16) f fd):aM P w K mg base aR 1 f fd ["sheet","cell","sign"] (rS K):=by
 refine F.bG AY λaH A outer s H vs Q E hr h=>?_
 refine hide λG_ aI=>?_
 obtain⟨a,b,l,wd,c,ch,rfl,hT,S,hb,h1,h2,q⟩:=h
 obtain⟨x,hx,mx,lx,pJ,hj⟩:=S.row h1
 refine aI.k ?_
 have hw:=S.w9
 refine⟨_,(av (aK (i:=3) AY.nd rfl (Or.inl rfl) (aX cj (pv 1) aE (λ_ _=>rfl)))
  (av (aK (i:=4) AY.nd rfl (Or.inl rfl) (aX cj (pv 1) aE (λ_ _=>rfl)))
  (av (aK (i:=5) AY.nd rfl (Or.inl rfl) (jR wb (by rfl) B.xc wB (ab (pv 0) ai)))
  (av (qM (aO qP (aO qP (m6 tR (aX fN (pv 5) (pv 3) (λ_ _=>rfl)) lN (lO (pv 4))) (pv 2)) (m6 tR (aX fN (pv 5) (pv 3) (λ_ _=>rfl)) (lO (aO eD (pv 4) aE)) lN)) (tm (pv 5) (pv 3) set_list))
  (az (aZ (jR wc (by rfl) B.xb wA (ab (pv 5) ai)))))))),?_⟩
 try dsimp only[bD]
 refine⟨_,rfl,b,_,0,.int c.1,rfl,rfl,hb,rfl,_,rfl,b,_,1,.int c.2,rfl,rfl,hb,rfl,_,rfl,a,_,rfl,.inr hT,λp hp=>?_⟩
 have l1:(Txt.slice x none (some (c.2:Int))).length<=100:=bA (vD x _ _) (by omega)
 have l2:(Txt.slice x (some ((c.2:Int)+1)) none).length<=100:=bA (vD x _ _) (by omega)
 refine⟨_,rfl,_,rfl,p,_,_,.str x,rfl,rfl,aj.of au,iX hx,_,rfl,_,rfl,x,rfl,eA (by omega),_,rfl,_,_,rfl,rfl,eA (by show _+1<=_;omega),?_⟩
 refine⟨_,rfl,_,rfl,p,_,_,.str x,rfl,rfl,aj.of au,iX hx,_,rfl,_,_,rfl,rfl,_,rfl,x,rfl,eA (by omega),_,_,rfl,rfl,eA ?_,?_⟩
 .rw[<-b8,pI,cQ,b8]
  show _+1+_<=_
  omega
 have eg:=Fi (x:=x) (j:=c.2) (ch:=ch) (FV (by omega)) (FW (by omega))
 refine⟨_,rfl,_,rfl,p,_,_,c.1,rfl,rfl,au,tS (by rw[ar];exact h1),?_⟩
 rw[eg,JV]
 refine⟨_,rfl,p,_,rfl,.inl ⟨aj.of au,λt ht=>?_⟩⟩
 have sm:af H (upd H p (.lst ((l.map V.str).set c.1 (.str (bC x c.2 ch))))):=af.upd hp
 refine q t _ (sm.free ht) (sm.trans (af.upd ht)) ?_
 rw[au]
 unfold setC
 rw[bS hx,List.map_set]
end
noncomputable def i3(x:Str):Bool:=x.cps.toList.all λc=>decide (c∈iU.cps.toList)
noncomputable def nP(x:Str)(a b:Int):Bool:=decide (a<=(x.length:Int))&&(decide ((x.length:Int)<=b)&&i3 x)
theorem AZ{α β:Type}{f:α->β}:∀{l:List α}{ys:List β},Paired (λi y=>y=f i) l ys->ys=l.map f
 |_,_,.nil=>rfl
 |_,_,.cons h t=>by rw[bL,<-AZ t,h]
theorem ZE{α β:Type}(g:α->β)(d:α)(l:List α):(List.range l.length).map (λi=>g (l.getD i d))=l.map g:=by
 apply iI
 intro i
 rw[bb,bb]
 by_cases h:i<l.length
 .rw[oG h,aU h,iD,iD,bM,aU h,oz]
 .rw[cB (by simpa using h),cB (by simpa using h)]
  rfl
section
variable{P:Program}{w:World}{K:PySem.W.Frag}{mg:Str->Option Value}{base:Heap}{f:Addr}{fd:FuncData}
def ND(K:PySem.W.Frag):Sp:=λvs H Q _=>(∃(x:Str) (a b:Int),vs=[.str x,.int a,.int b]/\x.length<=1000/\∀H',af H H'->Q (.bl (nP x a b)) H')\/
 ∃(v:V) (t:Value) (a b:Int),vs=[v,.int a,.int b]/\iO K H v t/\PySem.W.kitOne K t (.type "str")=some false/\Q (.bl false) H
theorem ZF:bc ["thing","least","most"] ["thing","least","most"] (aS (top 44)):={}
theorem ZG(B:Bl mg)(FX:Cn mg "LETTERS" (.str iU))(F:aW K "is_letters" "is_letters" (top 44) f fd):aM P w K mg base aR 1 f fd ["thing","least","most"] (ND K):=by
 refine F.ok ZF (λvs H Q E h=>?_) (λaH A outer s H vs Q E hr h=>?_)
 .rcases h with ⟨x,a,b,rfl,_⟩ | ⟨v,t,a,b,rfl,_⟩ <;> rfl
 .refine⟨_,(av (b6 (mV (kr (bP VM (by rfl) B.YX VJ (ab (pv 0) (ab (Su (v := .ty "str") (by rfl) B.YW VL rfl) ai)))))
   (az (aZ lE))
   b9)
   (az (aZ (SD (Tn tH tH (pv 1) (bP g9 (by rfl) B.cq cn (ab (pv 0) ai)) (pv 2)) (SA (bP (LB rfl) (by rfl) B.M8 Lz (ab (jl (js:=[]) (ns:=[]) (VS (pv 0)) rfl rfl rfl rfl (λ_ _ _ _=>jY) (λ_ _ _ _=>(vW Dm (pv 0) (ny FX (by rfl)) rfl))) ai))))))),?_⟩
  try dsimp only[bD]
  rcases h with ⟨x,a,b,rfl,hx,q⟩ | ⟨v,t,a,b,rfl,ty,hk,q⟩
  .refine⟨_,rfl,_,_,_,true,⟨rfl,.str _,VN⟩,_,rfl,bf ?_⟩
   refine⟨_,rfl,_,rfl,x,rfl,fP (by omega),_,_,rfl,rfl,_,rfl,?_⟩
   by_cases h2:a<=(x.length:Int)
   .rw[aG h2]
    refine bz ⟨_,rfl,_,_,rfl,rfl,_,rfl,?_⟩
    by_cases h3:(x.length:Int)<=b
    .rw[aG h3]
     refine bz ?_
     refine⟨_,rfl,x,rfl,comp_map VU (by rw[ar,fm];show x.length<=15752961;omega) (λ_ i y _=>y = .bl (decide (x.cps.toList.getD i 0∈iU.cps.toList))) (λ_ _=>trivial) (λ_ _ _ _ _ _ _ _ h=>h) ?_ ?_⟩
     .intro D i z H2 Z _ hz _ _ k1
      rw[bb] at hz
      cases e:x.cps.toList[i]? with
      |none=>rw[e] at hz;cases hz
      |some c=>
       rw[e] at hz
       cases hz
       refine⟨_,rfl,_,_,rfl,rfl,k1 _ _ (af.cO _) ?_⟩
       rw[JN,bM,e]
       all_goals rfl
     .intro D ys H2 hD bB sm pr
      have e:=AZ pr
      rw[ar,ZE (λc=>V.bl (decide (c∈iU.cps.toList)))] at e
      refine⟨D,x.cps.toList.map λc=>decide (c∈iU.cps.toList),rfl,aj.of (by rw[bB,e,iK];rfl),?_⟩
      have e2:((x.cps.toList.map λc=>decide (c∈iU.cps.toList)).all id)=nP x a b:=by
       unfold nP i3
       rw[sP,aG h2,aG h3]
       rfl
      rw[e2]
      exact q H2 sm
    .rw[aF h3]
     refine bf ?_
     have e:nP x a b=false:=by
      unfold nP
      rw[aF h3,gT,oy]
     rw[<-e]
     exact q H (af.cO _)
   .rw[aF h2]
    refine bf ⟨_,rfl,bf ?_⟩
    have e:nP x a b=false:=by
     unfold nP
     rw[aF h2,gT]
    rw[<-e]
    exact q H (af.cO _)
  .exact⟨_,rfl,_,_,_,false,⟨rfl,ty,hk⟩,_,rfl,bz q⟩
end
noncomputable def cz(x:Str):Bool:=decide (2<=x.length)&&(decide (x.length<=9)&&i3 x)
theorem xn{x:Str}(h:cz x=true):2<=x.length/\x.length<=9:=by
 unfold cz at h
 simp only[dI,Jv] at h
 exact⟨h.1,h.2.1⟩
theorem A2{α β:Type}{f:α->β}:∀{l:List α}{ys:List β},Paired (λi y=>y=f i) l ys->ys=l.map f
 |_,_,.nil=>rfl
 |_,_,.cons h t=>by rw[bL,<-A2 t,h]
theorem ZH{α β:Type}(g:α->β)(d:α)(l:List α):(List.range l.length).map (λi=>g (l.getD i d))=l.map g:=by
 apply iI
 intro i
 rw[bb,bb]
 by_cases h:i<l.length
 .rw[oG h,aU h,iD,iD,bM,aU h,oz]
 .rw[cB (by simpa using h),cB (by simpa using h)]
  rfl
theorem ZI{n:Nat}(h:n<=10000):n<=sizeLine:=bA h (by decide)
theorem A3{n:Nat}(h:n<=10000):n<sizeLine:=lz h (by decide)
noncomputable def um(d:Addr):List (Str×V):=aT "worths" (.ref d) []
theorem rT(d:Addr):(um d).lookup ("worths":Str)=some (.ref d):=by
 unfold um
 rw[cW,ax rfl]
theorem pR(d:Addr){m:Str}(h:¬m="worths"):(um d).lookup m=none:=by
 unfold um
 rw[cW,aq h]
 rfl
structure fT(C:Addr)(H:Hp)(p d:Addr)(kvs:List (Key×V)):Prop where
 ob:∃dx,H p=some (.ins C dx (um d))
 dc:H d=some (.dK kvs)
 nd:(kvs.map (·.1)).Nodup
 tx:iS kvs
theorem fT.mono{C p d:Addr}{H H':Hp}{kvs:List (Key×V)}(s:af H H')(h:fT C H p d kvs):fT C H' p d kvs:=let ⟨⟨dx,e⟩,b,c,t⟩:=h;⟨⟨dx,s _ _ e⟩,s _ _ b,c,t⟩
theorem ZJ{kvs:List (Key×V)}(h:iS kvs)(x:Str)(v:V)(e:aL kvs (Sum.inr x:Key)=none):iS (putK kvs (Sum.inr x) v):=by
 rw[tO v e]
 intro q m
 rcases dh.mp m with z | z
 .exact h q z
 .rw[cg.mp z];exact⟨x,rfl⟩
theorem ZL{kvs:List (Key×V)}(h:iS kvs)(k:Key):iS (fC kvs k):=λq m=>h q (bQ.mp m).1
section
variable{P:Program}{w:World}{K:PySem.W.Frag}{mg:Str->Option Value}{base:Heap}{f:Addr}{fd:FuncData}
def NF:Sp:=λvs H Q _=>∃(x:Str),vs=[.str x]/\x.length<=1000/\∀H',af H H'->Q (.bl (cz x)) H'
theorem ZM(x:Str):nP x 2 9=cz x:=by
 unfold nP cz
 have e1:decide ((2:Int)<=(x.length:Int))=decide (2<=x.length):=by
  by_cases h:2<=x.length
  .rw[aG h,aG (by omega)]
  .rw[aF h,aF (by omega)]
 have e2:decide ((x.length:Int)<=(9:Int))=decide (x.length<=9):=by
  by_cases h:x.length<=9
  .rw[aG h,aG (by omega)]
  .rw[aF h,aF (by omega)]
 rw[e1,e2]
theorem ZN:bc ["thing"] ["thing"] (aS (top 50)):={}
theorem ZO(FY:Cn mg "LEAST_LETTERS" (.int 2))(FZ:Cn mg "MOST_LETTERS" (.int 9))(F:aW K "is_word" "is_word" (top 50) f fd)(ZP:Fn P w K mg base "is_letters" 1 (ND K)):aM P w K mg base aR 2 f fd ["thing"] NF:=by
 refine F.bG ZN λaH A outer s H vs Q E hr h=>?_
 obtain⟨x,rfl,hx,q⟩:=h
 refine⟨_,(az (aZ (aV ZP (hr.mono (by decide)) (by rfl) (ab (pv 0) (ab (ny FY (by rfl)) (ab (ny FZ (by rfl)) ai)))))),?_⟩
 try dsimp only[bD]
 refine⟨_,rfl,.inl ⟨x,2,9,rfl,hx,λH1 s1=>?_⟩⟩
 rw[ZM]
 exact q H1 s1
def F0:Sp:=λvs H Q _=>∃(x:Str),vs=[.str x]/\cz x=true/\∀H',af H H'->Q .aA H'
theorem ZQ:bc ["thing"] ["thing"] (aS (top 49)):={}
theorem ZR(F:aW K "need_word" "need_word" (top 49) f fd)(ZS:Fn P w K mg base "is_word" 2 NF):aM P w K mg base aR 3 f fd ["thing"] F0:=by
 refine F.bG ZQ λaH A outer s H vs Q E hr h=>?_
 obtain⟨x,rfl,hw,q⟩:=h
 have hl:=xn hw
 refine⟨_,(az (b6 (mV (kr (aV ZS (hr.mono (by decide)) (by rfl) (ab (pv 0) ai))))
  (az vT)
  b9)),?_⟩
 try dsimp only[bD]
 refine⟨_,rfl,x,rfl,by omega,λH1 s1=>⟨_,rfl,?_⟩⟩
 rw[hw]
 exact bf (q H1 s1)
def NG(C:Addr):Sp:=λvs H Q _=>∃(p dx:Addr),vs=[.ref p]/\H p=some (.ins C dx [])/\∀(d:Addr) (H':Hp),H d=none->fT C H' p d []->(∀b o,H b=some o->b≠p->H' b=some o)->Q .aA H'
theorem ZT:bc ["self"] ["self"] (aS (inClass (top 48) 0)):={}
theorem ZU{C:Addr}(F:aW K "__init__" "Book.__init__" (inClass (top 48) 0) f fd)(T:cI K C)(nw:bO K C "worths"):aM P w K mg base aR 1 f fd ["self"] (NG C):=by
 refine F.bG ZT λaH A outer s H vs Q E hr h=>?_
 obtain⟨p,dx,rfl,hp,q⟩:=h
 refine⟨_,(az (kD (pv 0) DQ rfl)),?_⟩
 try dsimp only[bD]
 intro d hd
 have pP:p≠d:=bq hp hd
 refine⟨_,rfl,p,C,dx,[],rfl,(by rw[ak pP];exact hp),T,nw,(by show 0<1000;decide),?_⟩
 refine q d _ hd ⟨⟨dx,au⟩,by rw[ak pP.symm,au],iF,λq m=>absurd m fK⟩ λb o e hb=>?_
 rw[ak hb,ak (bq e hd)]
 exact e
def F3(C:Addr):Sp:=λvs H Q _=>∃(p d:Addr) (kvs:List (Key×V)) (x:Str) (v:V),vs=[.ref p,.str x]/\fT C H p d kvs/\cz x=true/\aL kvs (Sum.inr x:Key)=some v/\∀H',af H H'->Q .aA H'
theorem ZV:bc ["self","word"] ["self","word"] (aS (inClass (top 48) 8)):={}
theorem ZW{C:Addr}(F:aW K "need_there" "Book.need_there" (inClass (top 48) 8) f fd)(T:cI K C)(nw:bO K C "worths")(F4:Fn P w K mg base "need_word" 3 F0):aM P w K mg base aR 4 f fd ["self","word"] (F3 C):=by
 refine F.bG ZV λaH A outer s H vs Q E hr h=>?_
 refine hide λG_ aI=>?_
 obtain⟨p,d,kvs,x,v,rfl,S,hw,hv,q⟩:=h
 refine aI.k ?_
 have dn:=jW hr
 refine⟨_,(av (dM (aV F4 (hr.mono (by decide)) (by rfl) (ab (pv 1) ai)))
  (az (b6 (yX (La dn (pv 1) (di (pv 0) rfl)))
  (az vT)
  b9))),?_⟩
 try dsimp only[bD]
 refine⟨_,rfl,x,rfl,hw,λH1 s1=>?_⟩
 obtain⟨⟨dx,h1⟩,hd,_⟩:=S.mono s1
 refine⟨_,rfl,_,rfl,p,C,dx,_,_,rfl,h1,T,nw,rT _,d,_,rfl,dO.k (k:=Sum.inr x) hd,_,rfl,?_⟩
 rw[hv]
 exact bf (q H1 s1)
def A4(C:Addr):Sp:=λvs H Q _=>∃(p d:Addr) (kvs:List (Key×V)) (x:Str) (v:V),vs=[.ref p,.str x,v]/\fT C H p d kvs/\cz x=true/\aL kvs (Sum.inr x:Key)=none/\kvs.length<=1000/\
 ∀H',fT C H' p d (putK kvs (Sum.inr x) v)->(∀b o,b≠d->H b=some o->H' b=some o)->Q .aA H'
theorem ZX:bc ["self","word","worth"] ["self","word","worth"] (aS (inClass (top 48) 1)):={}
theorem NH{C:Addr}{dv:Value}(F:pB K "put" "Book.put" (inClass (top 48) 1) f fd dv)(T:cI K C)(nw:bO K C "worths")(F4:Fn P w K mg base "need_word" 3 F0):aM P w K mg base aR 4 f fd ["self","word","worth"] (A4 C):=by
 refine F.ok ZX (λvs H Q E h=>?_) (λaH A outer s H vs Q E hr h=>?_)
 .refine hide λG_ aI=>?_
  obtain⟨p,d,kvs,x,v,rfl,_⟩:=h
  refine aI.k ?_
  rfl
 .refine hide λG_ aY=>?_
  obtain⟨p,d,kvs,x,v,rfl,S,hw,hv,hl,q⟩:=h
  refine aY.k ?_
  have dn:=jW hr
  refine⟨_,(av (dM (aV F4 (hr.mono (by decide)) (by rfl) (ab (pv 1) ai)))
   (av (b6 (yX (K9 dn (pv 1) (di (pv 0) rfl)))
   (az vT)
   b9)
   (az (zE dn (di (pv 0) rfl) (pv 1) (pv 2) rfl)))),?_⟩
  try dsimp only[bD]
  refine⟨_,rfl,x,rfl,hw,λH1 s1=>?_⟩
  obtain⟨⟨dx,h1⟩,hd,nd,tx⟩:=S.mono s1
  refine⟨_,rfl,_,rfl,p,C,dx,_,_,rfl,h1,T,nw,rT _,d,_,rfl,dO.k (k:=Sum.inr x) hd,_,rfl,?_⟩
  rw[hv]
  have pP:p≠d:=b0 h1 hd (by intro z;cases z)
  refine bf ⟨_,rfl,_,rfl,p,C,dx,_,_,rfl,h1,T,nw,rT _,_,rfl,d,_,rfl,lP.k (k:=Sum.inr x) hd (Vg (by omega)),?_⟩
  refine q _ ⟨⟨dx,by rw[ak pP];exact h1⟩,au,Vh v nd hv,ZJ tx x v hv⟩ λb o hb e=>?_
  rw[ak hb]
  exact s1 _ _ e
def NI(C:Addr):Sp:=λvs H Q _=>∃(p d:Addr) (kvs:List (Key×V)) (x:Str) (v:V),vs=[.ref p,.str x]/\fT C H p d kvs/\cz x=true/\aL kvs (Sum.inr x:Key)=some v/\
 ∀H',fT C H' p d (fC kvs (Sum.inr x))->(∀b o,b≠d->H b=some o->H' b=some o)->Q .aA H'
theorem ZY:bc ["self","word"] ["self","word"] (aS (inClass (top 48) 2)):={}
theorem ZZ{C:Addr}(F:aW K "drop" "Book.drop" (inClass (top 48) 2) f fd)(T:cI K C)(nw:bO K C "worths")(uo:Mt P w K mg base C "need_there" 4 (F3 C) []):aM P w K mg base aR 5 f fd ["self","word"] (NI C):=by
 refine F.bG ZY λaH A outer s H vs Q E hr h=>?_
 refine hide λG_ aI=>?_
 obtain⟨p,d,kvs,x,v,rfl,S,hw,hv,q⟩:=h
 have dn:=jW hr
 obtain⟨⟨rV,Ak⟩,_⟩:=id S
 refine aI.k ?_
 refine⟨_,(av (dM (nA uo (hr.mono (by decide)) (pv 0) (ab (pv 1) ai)))
  (az (dM (U4 (di (pv 0) rfl) (pv 1) ⟨rfl,rfl,rfl,rfl⟩)))),?_⟩
 try dsimp only[bD]
 refine⟨_,rfl,p,rV,_,rfl,Ak,pR _ (by decide +kernel),_,rfl,p,d,kvs,x,v,rfl,S,hw,hv,λH1 s1=>?_⟩
 obtain⟨⟨dx,h1⟩,hd,nd,tx⟩:=S.mono s1
 have pP:p≠d:=b0 h1 hd (by intro z;cases z)
 refine⟨_,rfl,p,C,dx,_,_,rfl,h1,T,nw,rT _,d,rfl,.inl ⟨kvs,.inl hd⟩,_,rfl,kvs,Sum.inr x,v,hd,rfl,hv,?_⟩
 refine q _ ⟨⟨dx,by rw[ak pP];exact h1⟩,au,DX nd,ZL tx _⟩ λb o hb e=>?_
 rw[ak hb]
 exact s1 _ _ e
def F5(C:Addr):Sp:=λvs H Q _=>∃(p d:Addr) (kvs:List (Key×V)) (x:Str) (v:V),vs=[.ref p,.str x]/\fT C H p d kvs/\cz x=true/\aL kvs (Sum.inr x:Key)=some v/\∀H',af H H'->Q v H'
theorem Z1:bc ["self","word"] ["self","word"] (aS (inClass (top 48) 4)):={}
theorem Z3{C:Addr}(F:aW K "worth" "Book.worth" (inClass (top 48) 4) f fd)(T:cI K C)(nw:bO K C "worths")(uo:Mt P w K mg base C "need_there" 4 (F3 C) []):aM P w K mg base aR 5 f fd ["self","word"] (F5 C):=by
 refine F.bG Z1 λaH A outer s H vs Q E hr h=>?_
 refine hide λG_ aI=>?_
 obtain⟨p,d,kvs,x,v,rfl,S,hw,hv,q⟩:=h
 have dn:=jW hr
 obtain⟨⟨rV,Ak⟩,_⟩:=id S
 refine aI.k ?_
 refine⟨_,(av (dM (nA uo (hr.mono (by decide)) (pv 0) (ab (pv 1) ai)))
  (az (aZ (DP dn (di (pv 0) rfl) (pv 1) (λ_ _=>rfl))))),?_⟩
 try dsimp only[bD]
 refine⟨_,rfl,p,rV,_,rfl,Ak,pR _ (by decide +kernel),_,rfl,p,d,kvs,x,v,rfl,S,hw,hv,λH1 s1=>?_⟩
 obtain⟨⟨dx,h1⟩,hd,nd,tx⟩:=S.mono s1
 exact⟨_,rfl,p,C,dx,_,_,rfl,h1,T,nw,rT _,_,rfl,d,v,rfl,hv ▸ dO.k (k:=Sum.inr x) hd,q H1 s1⟩
def NJ(C:Addr):Sp:=λvs H Q _=>∃(p d:Addr) (kvs:List (Key×V)),vs=[.ref p]/\fT C H p d kvs/\kvs.length<64/\∀l H',H l=none->af H H'->H' l=some (.lst ((cC (aP kvs)).map V.str))->Q (.ref l) H'
theorem Z4:bc ["self"] ["self"] (aS (inClass (top 48) 3)):={}
theorem Z5{C:Addr}(B:Bl mg)(F:aW K "words" "Book.words" (inClass (top 48) 3) f fd)(T:cI K C)(nw:bO K C "worths"):aM P w K mg base aR 1 f fd ["self"] (NJ C):=by
 refine F.bG Z4 λaH A outer s H vs Q E hr h=>?_
 refine hide λG_ aI=>?_
 obtain⟨p,d,kvs,rfl,S,hl,q⟩:=h
 obtain⟨⟨dx,h1⟩,hd,nd,tx⟩:=id S
 refine aI.k ?_
 refine⟨_,(az (aZ (bP (Wq rfl) (by rfl) B.AE zS (ab (di (pv 0) rfl) ai)))),?_⟩
 try dsimp only[bD]
 exact⟨_,rfl,p,C,dx,_,_,rfl,h1,T,nw,rT _,d,kvs,rfl,hd,tx,hl,λl xo=>q l _ xo (af.upd xo) au⟩
end
noncomputable def kX(c d:Nat):Bool:=decide (d=46)||decide (d=c)
noncomputable def cA(x p:Str):Bool:=decide (x.length=p.length)&&(List.range x.length).all λi=>kX (x.cps.toList.getD i 0) (p.cps.toList.getD i 0)
theorem A6(n m:Nat):decide (V.str ⟨#[n]⟩=V.str ⟨#[m]⟩)=decide (n=m):=by
 by_cases h:n=m
 .rw[h,aG rfl,aG rfl]
 .rw[aF h,aF]
  intro z
  injection z with z
  injection z with z
  have z:[n]=[m]:=by simpa using dU Array.toList z
  exact h (yE z).1
theorem NK:(".":Str)=⟨#[46]⟩:=by decide +kernel
theorem A7{α:Type}{l:List α}{i:Nat}{x d:α}(h:l[i]? = some x):l.getD i d=x:=by rw[bM,h];rfl
theorem F6{α β:Type}(h:α->β)(d:α)(l:List α)(g:α->Bool):((List.range l.length).filter λi=>g (l.getD i d)).map (λi=>h (l.getD i d))=(l.filter g).map h:=by
 have e:((List.range l.length).map λi=>l.getD i d)=l:=by
  have:=ZH (λx:α=>x) d l
  rw[this,List.map_id']
 conv=>rhs;rw[<-e]
 rw[sQ,iK]
 rfl
theorem Z6{kvs:List (Key×V)}(h:iS kvs){i:Nat}{v:V}(e:(kvs.map λq=>kV q.1)[i]? = some v):∃x,v = .str x/\(aP kvs)[i]? = some x:=by
 rw[bb] at e
 cases q:kvs[i]? with
 |none=>rw[q] at e;cases e
 |some y=>
  rw[q] at e
  obtain⟨x,hx⟩:=h y (bo q)
  have e:kV y.1=v:=c9 e
  rw[hx] at e
  refine⟨x,e.symm,?_⟩
  unfold aP
  rw[bb,q,iD,hx]
section
variable{P:Program}{w:World}{K:PySem.W.Frag}{mg:Str->Option Value}{base:Heap}{f:Addr}{fd:FuncData}
theorem Z7{i:Nat}{g:Nat->Bool}:(List.range (i+1)).all g=((List.range i).all g&&g i):=by rw[jG,List.all_append,yB,List.all_nil,vC]
noncomputable def eI(p:Str)(n:Nat)(x:Str):Bool:=decide (x.length=p.length)&&(List.range n).all λi=>kX (x.cps.toList.getD i 0) (p.cps.toList.getD i 0)
theorem Z8(x p:Str):eI p p.cps.size x=cA x p:=by
 unfold eI cA
 by_cases h:x.length=p.length
 .rw[aG h,h]
  rfl
 .rw[aF h,gT,gT]
theorem NL(x p:Str)(n:Nat):eI p (n+1) x=(eI p n x&&kX (x.cps.toList.getD n 0) (p.cps.toList.getD n 0)):=by
 unfold eI
 rw[Z7,Bool.and_assoc]
def NM:Sp:=λvs H Q _=>∃(d:Addr) (kvs:List (Key×V)) (pt:Str),vs=[.ref d,.str pt]/\H d=some (.dK kvs)/\iS kvs/\kvs.length<=1000/\pt.length<=1000/\(∀x∈aP kvs,x.length<=1000)/\
 ∀l H',H l=none->af H H'->H' l=some (.lst (((aP kvs).filter λx=>cA x pt).map V.str))->Q (.ref l) H'
theorem F7(x p:Str):decide (V.int (x.length:Int)=V.int (p.length:Int))=decide (x.length=p.length):=by
 by_cases h:x.length=p.length
 .rw[h,aG rfl,aG rfl]
 .rw[aF h,aF]
  intro z
  injection z with z
  omega
theorem uq:bc ["words","pattern","length","fits","at","sign"] ["words","pattern"] (aS (top 51)):={}
theorem Z9(B:Bl mg)(F:aW K "words_fitting" "words_fitting" (top 51) f fd)(nQ:Cn mg "FREE" (.str ".")):aM P w K mg base aR 1 f fd ["words","pattern"] NM:=by
 refine F.bG uq λaH A outer s H vs Q E hr h=>?_
 refine hide λG_ aI=>?_
 obtain⟨d,kvs,pt,rfl,hd,tx,hl,hpt,hk,q⟩:=h
 refine aI.k ?_
 have ju:(aP kvs).length=kvs.length:=by unfold aP;rw[ar]
 refine⟨_,(av (aK (i:=2) uq.nd rfl (Or.inr rfl) (bP g9 (by rfl) B.cq cn (ab (pv 1) ai)))
  (av (Wx (wy (i:=3) uq.nd rfl (Or.inl rfl) (js:=[2]) (ns:=["length"]) (Wu (pv 0)) rfl rfl rfl rfl (λ_ _ _ _=>(nv (cx oZ (bP g9 (by rfl) B.cq cn (ab (pv 0) ai)) (pv 1) (cH _)))) (λ_ _ _ _=>(pv 0))))
  (av (cG cF rfl (Xa (by rfl) B.xf (ab (pv 1) ai)) (lH rfl (eU (bR (i:=4) uq.nd rfl (Or.inr rfl)) (eU (bR (i:=5) uq.nd rfl (Or.inr rfl)) lG)))
  (az (b6 (cx mW (pv 5) (ny nQ (by rfl)) (cH _))
   (az (wy (i:=3) uq.nd rfl (Or.inl rfl) (js:=[5,4]) (ns:=["sign","at"]) (dF (pv 3)) rfl rfl rfl rfl (λ_ _ _ _=>(nv (cx oZ (aX jS (pv 0) (pv 2) (λ_ _=>rfl)) (pv 1) (cH _)))) (λ_ _ _ _=>(pv 0))))
   b9)))
  (az (aZ (pv 3)))))),?_⟩
 try dsimp only[bD]
 refine⟨_,rfl,pt,rfl,fP (by omega),?_⟩
 refine⟨d,kvs,hd,λob=>?_⟩
 refine⟨_,rfl,d,ob,kvs,rfl,au,?_⟩
 refine lR Wv (by rw[ar];omega) (λi=>eI pt 0 ((aP kvs).getD i ⟨#[]⟩)) (λ_ i y _=>y = .str ((aP kvs).getD i ⟨#[]⟩)) (λH2 s2=>s2 _ _ au) (λ_ _ _ _ _ _ _ _ h=>h) ?_ ?_
 .intro D i v H2 Z0 Z hD hv s2 _ k0 k1
  obtain⟨x,rfl,hx⟩:=Z6 tx hv
  have fF:=hk x (bo hx)
  rw[A7 hx] at k0 k1
  have e0:eI pt 0 x=decide (x.length=pt.length):=by unfold eI;rw[List.range_zero,List.all_nil,vC]
  refine⟨_,rfl,x,rfl,fP (by omega),_,rfl,rfl,_,rfl,?_⟩
  rw[F7,<-e0]
  refine eM (λh=>?_) (λh=>?_)
  .exact⟨_,rfl,k1 _ _ (af.cO _) h rfl⟩
  .exact k0 _ (af.cO _) (iJ.mpr h)
 .intro D ys H2 hD bB s2 pr
  have e:=A2 pr
  rw[ar,<-ju,F6 V.str ⟨#[]⟩ (aP kvs) λx=>eI pt 0 x] at e
  have hd2:H2 d=some (.dJ ob (.dK kvs)):=s2 _ _ au
  have NN:D≠d:=λz=>by rw[z,au] at hD;cases hD
  have xj:H D=none:=by rw[ak NN] at hD;exact hD
  refine⟨hd2,?_⟩
  have sm:af H (upd H2 d (.dK kvs)):=λb o hb=>by
   by_cases z:b=d
   .subst z
    rw[hd] at hb
    rw[au,hb]
   .rw[ak z]
    exact s2 _ _ (by rw[ak z];exact hb)
  have NO:upd H2 d (.dK kvs) D=some (.lst (((aP kvs).filter λx=>eI pt 0 x).map V.str)):=by rw[ak NN,bB,e]
  generalize upd H2 d (.dK kvs)=H3 at sm NO
  refine⟨_,rfl,pt,rfl,?_⟩
  refine Xc (λi σ H4=>∃p v4 v5,σ=[some (.ref d),some (.str pt),some (.int pt.length),some (.ref p),v4,v5]/\H p=none/\af H H4/\H4 p=some (.lst (((aP kvs).filter λx=>eI pt i x).map V.str))) ⟨D,none,none,rfl,xj,sm,NO⟩ ?_ ?_
  .intro i c t σ H4 hc q8_ ht
   refine hide λG_ aY=>?_
   obtain⟨p,v4,v5,rfl,fS,dQ,hp⟩:=q8_
   refine aY.k ?_
   have st:af H4 (upd H4 t (.tup [.int i,.str ⟨#[c]⟩])):=af.upd ht
   have hi:i<pt.length:=by rw[<-b8];exact(bZ.mp hc).1
   have gp:pt.cps.toList.getD i 0=c:=A7 hc
   refine⟨t,_,rfl,aw.of au,rfl,_,_,rfl,_,_,rfl,rfl,?_⟩
   generalize upd H4 t (.tup [.int i,.str ⟨#[c]⟩])=H5 at st
   have rW:=st _ _ hp
   refine⟨_,rfl,rfl,_,rfl,?_⟩
   rw[NK,A6]
   by_cases cY:c=46
   .rw[aG cY]
    refine bf ⟨p,_,_,rfl,fS,dQ.trans st,?_⟩
    have ef:(λx=>eI pt (i+1) x)=λx=>eI pt i x:=by
     funext x
     rw[NL,gp]
     unfold kX
     rw[aG cY,Bool.true_or,vC]
    rw[ef]
    exact rW
   .rw[aF cY]
    refine bz ⟨_,rfl,p,rfl,⟨_,aj.of rW⟩,?_⟩
    have d6:((aP kvs).filter λx=>eI pt i x).length<=1000:=bA (gD _ _) (by omega)
    refine lR jn (by rw[ar];omega) (λj=>decide ((((aP kvs).filter λx=>eI pt i x).getD j ⟨#[]⟩).cps.toList.getD i 0=c)) (λ_ j y _=>y = .str (((aP kvs).filter λx=>eI pt i x).getD j ⟨#[]⟩)) (λH6 s6=>aj.of (s6 _ _ rW)) (λ_ _ _ _ _ _ _ _ h=>h) ?_ ?_
    .intro D2 j v H6 Z0 Z ml hv s6 _ k0 k1
     rw[bb] at hv
     cases e:((aP kvs).filter λx=>eI pt i x)[j]? with
     |none=>rw[e] at hv;cases hv
     |some x=>
      rw[e] at hv
      cases hv
      rw[A7 e] at k0 k1
      have mx:=bQ.mp (bo e)
      have fF:x.length=pt.length:=by
       have:=mx.2
       unfold eI at this
       rw[dI] at this
       exact eQ this.1
      have F8:x.cps.toList[i]? = some (x.cps.toList.getD i 0):=by
       rw[bM,aU (by rw[b8];omega)]
       rfl
      refine⟨_,rfl,_,rfl,x,_,_,rfl,rfl,fP (by omega),dz F8,_,rfl,rfl,_,rfl,?_⟩
      rw[A6]
      refine eM (λh=>?_) (λh=>?_)
      .exact⟨_,rfl,k1 _ _ (af.cO _) h rfl⟩
      .exact k0 _ (af.cO _) (iJ.mpr h)
    .intro D2 zs H6 ml j3 s6 nR
     have e2:=A2 nR
     rw[ar,F6 V.str ⟨#[]⟩ ((aP kvs).filter λx=>eI pt i x) λx=>decide (x.cps.toList.getD i 0=c)] at e2
     refine⟨D2,_,_,rfl,(dQ.trans st).free ml,dQ.trans (st.trans s6),?_⟩
     rw[j3,e2,List.filter_filter]
     have ef:(λx:Str=>decide (x.cps.toList.getD i 0=c)&&eI pt i x)=λx=>eI pt (i+1) x:=by
      funext x
      rw[NL,gp,Bool.and_comm]
      unfold kX
      rw[aF cY,Bool.false_or]
      congr 1
      by_cases h:x.cps.toList.getD i 0=c
      .rw[aG h,aG h.symm]
      .rw[aF h,aF (bj h)]
     rw[ef]
  .intro σ H4 q9_
   refine hide λG_ bK=>?_
   obtain⟨p,v4,v5,rfl,fS,dQ,hp⟩:=q9_
   refine bK.k ?_
   refine⟨_,rfl,q p H4 fS dQ ?_⟩
   have ef:(λx=>eI pt pt.cps.size x)=λx=>cA x pt:=by funext x;exact Z8 x pt
   rw[ef] at hp
   exact hp
def NP(C:Addr):Sp:=λvs H Q _=>∃(p d:Addr) (kvs:List (Key×V)) (pt:Str),vs=[.ref p,.str pt]/\fT C H p d kvs/\kvs.length<64/\pt.length<=1000/\(∀x∈aP kvs,x.length<=1000)/\
 ∀l H',H l=none->af H H'->H' l=some (.lst ((cC ((aP kvs).filter λx=>cA x pt)).map V.str))->Q (.ref l) H'
theorem aaa:bc ["self","pattern"] ["self","pattern"] (aS (inClass (top 48) 5)):={}
theorem aab{C:Addr}(B:Bl mg)(F:aW K "fitting" "Book.fitting" (inClass (top 48) 5) f fd)(T:cI K C)(nw:bO K C "worths")(aac:Fn P w K mg base "words_fitting" 1 NM):aM P w K mg base aR 2 f fd ["self","pattern"] (NP C):=by
 refine F.bG aaa λaH A outer s H vs Q E hr h=>?_
 refine hide λG_ aI=>?_
 obtain⟨p,d,kvs,pt,rfl,S,hl,hpt,hk,q⟩:=h
 obtain⟨⟨dx,h1⟩,hd,nd,tx⟩:=id S
 refine aI.k ?_
 have ju:(aP kvs).length=kvs.length:=by unfold aP;rw[ar]
 refine⟨_,(az (aZ (bP LP (by rfl) B.AE zS (ab (aV aac (hr.mono (by decide)) (by rfl) (ab (di (pv 0) rfl) (ab (pv 1) ai))) ai)))),?_⟩
 try dsimp only[bD]
 refine⟨_,rfl,p,C,dx,_,_,rfl,h1,T,nw,rT _,_,rfl,d,kvs,pt,rfl,hd,tx,by omega,hpt,hk,λg H1 hg s1 hL=>?_⟩
 exact⟨g,_,rfl,aj.of hL,lz (gD _ _) (by omega),λl xo=>q l _ (s1.free xo) (s1.trans (af.upd xo)) au⟩
end
noncomputable def runC(op:C2->Bool)(d c:C2):List C2:=if gI op d c=true then [] else line c d (runN op d 10 c)
theorem aad(op:C2->Bool)(d c:C2):bV op d c=if (runC op d c).length<2 then [] else runC op d c:=by
 unfold bV runC
 split
 .rfl
 .rw[rL]
noncomputable def cu(k:Nat):C2:=(k,1 - k)
noncomputable def i4(l:List Str)(w k n:Nat):List (List C2):=(((cells l.length w).take n).map (bV (bg l w) (cu k))).filter (λr=>!r.isEmpty)
theorem aae{l:List Str}{w k i j:Nat}(hi:i<l.length)(hj:j<w):i4 l w k (i*w+(j+1))=i4 l w k (i*w+j)++if (bV (bg l w) (cu k) (i,j)).isEmpty=true then [] else [bV (bg l w) (cu k) (i,j)]:=by
 unfold i4
 rw[show i*w+(j+1)=i*w+j+1 from rfl,MU hi hj,dW,jH,bL,vA,cR,oC]
 cases(bV (bg l w) (cu k) (i,j)).isEmpty <;> rfl
noncomputable def kY(l:List Str)(w k:Nat):List (List C2):=i4 l w k (l.length*w)
noncomputable def aD(l:List Str)(w:Nat):List (List C2):=kY l w 0++kY l w 1
theorem A8(op:C2->Bool)(f:C2->List C2):∀(n:Nat) (cs:List C2),(dj op f n cs).map (·.2)=(cs.map f).filter λr=>!r.isEmpty
 |n,[]=>rfl
 |n,c::r=>by
  unfold dj
  rw[bL,cR]
  cases h:(f c).isEmpty with
  |true=>
   rw[ax rfl,A8 op f _ r]
   rfl
  |false=>
   rw[aq bW,bL,A8 op f _ r]
   rfl
theorem aaf{op:C2->Bool}{d c:C2}(h:op c=false):bV op d c=[]:=by
 unfold bV
 have:runN op d 10 c=0:=by
  unfold runN
  rw[h,aq bW]
 rw[this]
 split
 .rfl
 .rw[ax (by decide)]
theorem NQ{l:List Str}{w:Nat}(d:C2):((bH l w).map (bV (bg l w) d)).filter (λr=>!r.isEmpty)=((cells l.length w).map (bV (bg l w) d)).filter (λr=>!r.isEmpty):=by
 unfold bH
 have:∀cs:List C2,(∀c∈cs,c.1<l.length/\c.2<w)->((cs.filter (bJ l)).map (bV (bg l w) d)).filter (λr=>!r.isEmpty)=(cs.map (bV (bg l w) d)).filter (λr=>!r.isEmpty):=by
  intro cs
  induction cs with
  |nil=>intro _;rfl
  |cons c r ih=>
   intro h
   have hc:=h c bh
   have ih:=ih λx m=>h x (bF _ m)
   rw[cR,bL,cR]
   cases ho:bJ l c with
   |true=>
    rw[ax rfl,bL,cR,ih]
   |false=>
    rw[aq bW,ih,aaf (by rw[mh hc.1 hc.2];exact ho)]
    rfl
 exact this _ λc m=>rK m
theorem rX(l:List Str)(w:Nat):aD l w=(dw l w).map (·.2):=by
 unfold aD kY i4 dw ij pK
 rw[dW,A8,A8,NQ,NQ,fw (by rw[l9];exact aQ _)]
 rfl
def A9(g:Addr)(H:Hp)(r:List C2)(x:V):Prop := ∃p ys,x = .ref p/\p≠g/\H p=some (.lst ys)/\br H r ys
theorem A9.mono{g:Addr}{H H':Hp}{r:List C2}{x:V}(s:af H H')(h:A9 g H r x):A9 g H' r x:=let ⟨p,ys,e,n,a,b⟩:=h;⟨p,ys,e,n,s _ _ a,b.mono s⟩
abbrev fG(g:Addr)(H:Hp):List (List C2)->List V->Prop:=Paired (A9 g H)
theorem fG.mono{g:Addr}{H H':Hp}{rs:List (List C2)}{xs:List V}(s:af H H')(h:fG g H rs xs):fG g H' rs xs:=Paired.bI h λ_ _ q=>q.mono s
theorem fG.off{g:Addr}{H H':Hp}{rs:List (List C2)}{xs:List V}(hg:∃o,H g=some (.lst o))(k:∀b o,b≠g->H b=some o->H' b=some o)(h:fG g H rs xs):fG g H' rs xs:=
 Paired.bI h λ_ _ ⟨p,ys,e,n,a,b⟩=>⟨p,ys,e,n,k _ _ n a,br.off hg k b⟩
section
variable{P:Program}{w:World}{K:PySem.W.Frag}{mg:Str->Option Value}{base:Heap}{f:Addr}{fd:FuncData}
def NR(K:PySem.W.Frag):Sp:=λvs H Q _=>∃(a:Addr) (l:List Str) (w:Nat) (i j:Int),vs=[.ref a,.int i,.int j]/\aw K H a (l.map V.str)/\ba l w/\Q (.bl (jf l w i j)) H
theorem aag:bc ["_law_sheet","_law_line","_law_column"] ["_law_sheet","_law_line","_law_column"] (aS (top 54)):={}
theorem aah(B:Bl mg)(F:aW K "_law_open" "_law_open" (top 54) f fd):aM P w K mg base aR 1 f fd ["_law_sheet","_law_line","_law_column"] (NR K):=by
 refine F.bG aag λaH A outer s H vs Q E hr h=>?_
 refine hide λG_ aI=>?_
 obtain⟨a,l,wd,i,j,rfl,hT,S,q⟩:=h
 obtain⟨x0,nM,AO,nN,_⟩:=S.row (i:=0) S.one
 refine aI.k ?_
 have h9:=S.nine
 have hw:=S.w9
 refine⟨_,(av (b6 (PW.pt (vS (zf tH lJ aE (pv 1) (bP dY (by rfl) B.cq cn (ab (pv 0) ai))) (vR (zf tH lJ aE (pv 2) (bP g9 (by rfl) B.cq cn (ab (aX cj (pv 0) aE (λ_ _=>rfl)) ai))))))
  (az (aZ (vW mW (aX jS (aX cj (pv 0) (pv 1) (λ_ _=>rfl)) (pv 2) (λ_ _=>rfl)) gh (cH _))))
  b9)
  (az (aZ lE))),?_⟩
 try dsimp only[bD]
 unfold jf at q
 refine⟨_,rfl,_,_,rfl,rfl,_,rfl,?_⟩
 by_cases h0:(0:Int)<=i
 .rw[aG h0] at q ⊢
  refine bz ⟨_,rfl,a,_,rfl,.inr hT,_,_,rfl,rfl,_,rfl,?_⟩
  rw[ar]
  by_cases h1:i<(l.length:Int)
  .rw[aG h1] at q ⊢
   refine bz ⟨_,rfl,_,_,rfl,rfl,_,rfl,?_⟩
   by_cases h2:(0:Int)<=j
   .rw[aG h2] at q ⊢
    refine bz ⟨_,rfl,a,_,0,.str x0,rfl,rfl,hT,iX nM,x0,rfl,eA (by omega),_,_,rfl,rfl,_,rfl,?_⟩
    rw[nN]
    by_cases h3:j<(wd:Int)
    .rw[aG h3] at q ⊢
     refine hide λG_ aY=>?_
     obtain⟨i',rfl⟩:=qD h0
     obtain⟨j',rfl⟩:=qD h2
     rw[dH,dH] at q
     obtain⟨x,hx,mx,lx,_,hj⟩:=S.row (i:=i') (by omega)
     refine aY.k ?_
     refine bz ⟨_,rfl,_,rfl,a,_,_,.str x,rfl,rfl,hT,iX hx,_,rfl,x,_,sg l (i',j'),rfl,rfl,eA (by omega),dz (hj j' (by omega)),rfl,?_⟩
     rw[rM,AJ]
     exact q
    .rw[aF h3] at q ⊢
     exact bf q
   .rw[aF h2] at q ⊢
    exact bf ⟨_,rfl,bf q⟩
  .rw[aF h1] at q ⊢
   exact bf (bf q)
 .rw[aF h0] at q ⊢
  exact bf ⟨_,rfl,bf (bf q)⟩
def NS(K:PySem.W.Frag)(a p:Addr)(H:Hp)(l:List Str)(wd:Nat)(c:C2)(k:Nat):Nat->St->Hp->Prop:=λm σ H2=>∃n xs,m=10 - n/\n<=9/\σ=[some (.ref a),some (.int (go c (cu k) n).1),some (.int (go c (cu k) n).2),some (.int k),some (.ref p)]/\af H H2/\
 H2 p=some (.lst xs)/\br H2 (line c (cu k) n) xs/\∀j,j<n->bg l wd (go c (cu k) j)=true
def NT(K:PySem.W.Frag):Sp:=λvs H Q _=>∃(a:Addr) (l:List Str) (w:Nat) (c:C2) (k:Nat),vs=[.ref a,.int c.1,.int c.2,.int k]/\aw K H a (l.map V.str)/\ba l w/\k<=1/\
 ∀p xs H',H p=none->af H H'->H' p=some (.lst xs)->br H' (runC (bg l w) (cu k) c) xs->Q (.ref p) H'
theorem Ba:bc ["_law_sheet","_law_line","_law_column","_law_down","_law_cells"] ["_law_sheet","_law_line","_law_column","_law_down"] (aS (top 55)):={}
theorem aai(F:aW K "_law_run" "_law_run" (top 55) f fd)(NU:Fn P w K mg base "_law_open" 1 (NR K)):aM P w K mg base aR 2 f fd ["_law_sheet","_law_line","_law_column","_law_down"] (NT K):=by
 refine F.bG Ba λaH A outer s H vs Q E hr h=>?_
 refine hide λG_ aI=>?_
 obtain⟨a,l,wd,c,k,rfl,hT,S,hk,q⟩:=h
 refine aI.k ?_
 have h9:=S.nine
 have hw:=S.w9
 refine⟨_,(av (aK (i:=4) Ba.nd rfl (Or.inl rfl) (dX ai))
  (av (b6 (kr (aV NU (hr.mono (by decide)) (by rfl) (ab (pv 0) (ab (aO oY (pv 1) (pv 3)) (ab (aO eD (aO oY (pv 2) aE) (pv 3)) ai)))))
  (az (aZ (pv 4)))
  b9)
  (av (Kg cF (kr (aV NU (hr.mono (by decide)) (by rfl) (ab (pv 0) (ab (pv 1) (ab (pv 2) ai)))))
  (av (dM (fO jc jI jJ hX (pv 4) (ab (fB (ab (pv 1) (ab (pv 2) ai))) ai (hs:=de rfl))))
   (av (aK (i:=1) Ba.nd rfl (Or.inl rfl) (aO eD (pv 1) (pv 3)))
   (az (aK (i:=2) Ba.nd rfl (Or.inl rfl) (aO oY (aO eD (pv 2) aE) (pv 3)))))))
  (az (aZ (pv 4)))))),?_⟩
 try dsimp only[bD]
 refine⟨bx _,λp hp=>?_⟩
 have eO:=af.upd (o:=HO.lst []) hp
 have NV:((1 - k:Nat):Int)=1 - (k:Int):=by omega
 have NW:=Nd l wd c (cu k)
 have e2:(c.2:Int) - (((cu k).2:Nat):Int)=(c.2:Int) - 1+(k:Int):=by show(c.2:Int) - ((1 - k:Nat):Int)=_;omega
 rw[e2] at NW
 refine⟨_,rfl,_,rfl,_,rfl,_,_,rfl,rfl,_,rfl,_,_,rfl,rfl,_,rfl,_,_,rfl,rfl,a,l,wd,_,_,rfl,eO.tup hT,S,_,rfl,?_⟩
 rw[show(c.1:Int) - (k:Int)=(c.1:Int) - (((cu k).1:Nat):Int) from rfl,NW]
 refine eM (λjZ=>?_) (λjZ=>?_)
 .refine⟨_,rfl,q p [] _ hp eO au ?_⟩
  unfold runC
  rw[ax jZ]
  exact .nil
 .refine⟨NS K a p H l wd c k,⟨10,0,[],rfl,by omega,by rw[iV];rfl,eO,au,.nil,λj hj=>absurd hj (fZ _)⟩,?_⟩
  intro m σ H2 aaj
  refine hide λG_ aY=>?_
  obtain⟨n,xs,rfl,hn,rfl,sm,hL,hC,ho⟩:=aaj
  refine aY.k ?_
  refine⟨_,rfl,_,rfl,_,rfl,a,l,wd,_,_,rfl,sm.tup hT,S,_,rfl,?_⟩
  rw[FA]
  have hlen:xs.length=n:=by rw[<-hC.length,rL]
  refine eM (λi0=>?_) (λi0=>?_)
  .have Zm:n<=8:=by
    obtain⟨o1,o2,_⟩:=nK i0
    simp only[go,cu] at o1 o2
    rcases(by omega:k=0\/k=1) with rfl | rfl
    .simp only[Nat.sub_zero,gX] at o2
     omega
    .simp only[gX] at o1
     omega
   refine⟨λσ' H' =>∃m',m'<10 - n/\NS K a p H l wd c k m' σ' H',λ_ _ z=>z,?_⟩
   refine⟨_,rfl,.inl ⟨rfl,_,aj.of hL⟩,_,rfl,_,rfl,by show 2<=sizeLine;decide,λt ht=>?_⟩
   have rN:t≠p:=bj (bq hL ht)
   have tt:=af.upd (o:=HO.tup [V.int ((go c (cu k) n).1:Nat),V.int ((go c (cu k) n).2:Nat)]) ht
   refine⟨p,xs,_,rfl,rfl,tt _ _ hL,ui (by omega),?_⟩
   refine⟨_,rfl,_,rfl,_,_,rfl,rfl,_,rfl,_,_,rfl,rfl,_,rfl,_,_,rfl,rfl,?_⟩
   refine⟨10 - (n+1),by omega,n+1,xs++[.ref t],rfl,by omega,?_,(sm.trans tt).jX hp,au,?_,?_⟩
   .rw[go_succ]
    have g1:(((go c (cu k) n).1+(cu k).1:Nat):Int)=((go c (cu k) n).1:Int)+(k:Int):=by show(((go c (cu k) n).1+k:Nat):Int)=_;omega
    have g2:(((go c (cu k) n).2+(cu k).2:Nat):Int)=((go c (cu k) n).2:Int)+1 - (k:Int):=by show(((go c (cu k) n).2+(1 - k):Nat):Int)=_;omega
    simp only[g1,g2]
    rfl
   .rw[MV]
    have off:∀b o,b≠p->upd H2 t (HO.tup [V.int ((go c (cu k) n).1:Nat),V.int ((go c (cu k) n).2:Nat)]) b=some o->upd (upd H2 t (HO.tup [V.int ((go c (cu k) n).1:Nat),V.int ((go c (cu k) n).2:Nat)])) p (.lst (xs++[.ref t])) b=some o:=λb o hb z=>by rw[ak hb];exact z
    exact mN (br.off ⟨xs,tt _ _ hL⟩ off (hC.mono tt)) ⟨t,rfl,off _ _ rN au⟩
   .intro j hj
    rcases vI.mp hj with z | z
    .exact ho j z
    .rw[z];exact i0
  .have AQ:runN (bg l wd) (cu k) 10 c=n:=Fj (by omega) ho (iJ.mpr i0)
   refine⟨_,rfl,q p xs H2 hp sm hL ?_⟩
   unfold runC
   rw[aq jZ,AQ]
   exact hC
def Bb(K:PySem.W.Frag):Sp:=λvs H Q _=>∃(a:Addr) (l:List Str) (w:Nat),vs=[.ref a]/\aw K H a (l.map V.str)/\ba l w/\
 ∀g xs H',H g=none->af H H'->H' g=some (.lst xs)->fG g H' (aD l w) xs->Q (.ref g) H'
theorem xp(l:List Str)(w k n:Nat):(i4 l w k n).length<=(cells l.length w).length:=by
 unfold i4
 refine bA (gD _ _) ?_
 rw[ar,jF]
 omega
noncomputable def Bc(l:List Str)(w:Nat):Nat->List (List C2)
 |0=>[]
 |1=>kY l w 0
 |_=>aD l w
noncomputable def mn(l:List Str)(w k n:Nat):List (List C2):=Bc l w k++i4 l w k n
theorem ur:bc ["_law_sheet","_law_rows_here","_law_down","_law_line","_law_column","_law_cells"] ["_law_sheet"] (aS (top 56)):={}
theorem aak(B:Bl mg)(F:aW K "_law_rows" "_law_rows" (top 56) f fd)(aal:Fn P w K mg base "_law_run" 2 (NT K)):aM P w K mg base aR 3 f fd ["_law_sheet"] (Bb K):=by
 refine F.bG ur λaH A outer s H vs Q E hr h=>?_
 refine hide λG_ aI=>?_
 obtain⟨a,l,wd,rfl,hT,S,q⟩:=h
 have h9:=S.nine
 have hw:=S.w9
 have nH:=wZ S
 obtain⟨x0,nM,AO,nN,_⟩:=S.row (i:=0) S.one
 refine aI.k ?_
 refine⟨_,(av (aK (i:=1) ur.nd rfl (Or.inl rfl) (dX ai))
  (av (cG cF rfl (iN (by rfl) B.iW (ab aE ai)) (bR (i:=2) ur.nd rfl (Or.inl rfl))
  (az (cG cF rfl (iN (by rfl) B.iW (ab (bP dY (by rfl) B.cq cn (ab (pv 0) ai)) ai)) (bR (i:=3) ur.nd rfl (Or.inl rfl))
   (az (cG cF rfl (iN (by rfl) B.iW (ab (bP g9 (by rfl) B.cq cn (ab (aX cj (pv 0) aE (λ_ _=>rfl)) ai)) ai)) (bR (i:=4) ur.nd rfl (Or.inl rfl))
    (av (aK (i:=5) ur.nd rfl (Or.inl rfl) (aV aal (hr.mono (by decide)) (by rfl) (ab (pv 0) (ab (pv 3) (ab (pv 4) (ab (pv 2) ai))))))
     (az (b6 (cx Dl (bP dY (by rfl) B.cq cn (ab (pv 5) ai)) aE (cH _))
     (az (dM (fO jc jI jJ hX (pv 1) (ab (pv 5) ai))))
     b9))))))))
  (az (aZ (pv 1))))),?_⟩
 try dsimp only[bD]
 refine⟨bx _,λg hg=>?_⟩
 have eO:=af.upd (o:=HO.lst []) hg
 have aam:∀k n,(mn l wd k n).length<=300:=λk n=>by
  unfold mn
  have h1:=xp l wd k n
  have h2:(kY l wd 0).length<=81:=bA (xp l wd 0 _) nH
  have h3:(Bc l wd k).length<=162:=by
   match k with
   |0=>exact bx _
   |1=>show(kY l wd 0).length<=_;omega
   |k+2=>
    show(aD l wd).length<=_
    unfold aD
    have h2:(kY l wd 1).length<=81:=bA (xp l wd 1 _) nH
    rw[cQ]
    omega
  rw[cQ]
  omega
 refine⟨_,rfl,by decide,by decide,jo (n:=2) (λk σ H2=>∃v2 v3 v4 v5 xs,σ=[some (.ref a),some (.ref g),v2,v3,v4,v5]/\af H H2/\H2 g=some (.lst xs)/\fG g H2 (Bc l wd k) xs)
  ⟨none,none,none,none,[],rfl,eO,au,.nil⟩ ?_ ?_⟩
 .intro k σ H2 hk aan
  refine hide λG_ aY=>?_
  obtain⟨v2,v3,v4,v5,xs,rfl,sm,hL,hC⟩:=aan
  refine aY.k ?_
  refine⟨_,rfl,a,_,rfl,.inr (sm.tup hT),_,rfl,by rw[ar];omega,by rw[ar];omega,?_⟩
  rw[dH,ar]
  refine jo (λi σ H3=>∃v3 v4 v5 xs,σ=[some (.ref a),some (.ref g),some (.int k),v3,v4,v5]/\af H H3/\H3 g=some (.lst xs)/\fG g H3 (mn l wd k (i*wd)) xs)
   ⟨v3,v4,v5,xs,rfl,sm,hL,by unfold mn i4;rw[Nat.zero_mul,oH];simpa using hC⟩ ?_ ?_
  .intro i σ H3 hi aao
   refine hide λG_ bK=>?_
   obtain⟨v3,v4,v5,ys,rfl,iY,iZ,jw⟩:=aao
   refine bK.k ?_
   refine⟨_,rfl,a,_,0,.str x0,rfl,rfl,iY.tup hT,iX nM,x0,rfl,eA (by omega),_,rfl,by omega,by omega,?_⟩
   rw[dH,nN]
   refine jo (λj σ H4=>∃v4 v5 xs,σ=[some (.ref a),some (.ref g),some (.int k),some (.int i),v4,v5]/\af H H4/\H4 g=some (.lst xs)/\fG g H4 (mn l wd k (i*wd+j)) xs)
    ⟨v4,v5,ys,rfl,iY,iZ,jw⟩ ?_ ?_
   .intro j σ H4 hj aap
    refine hide λG_ cE=>?_
    obtain⟨v4,v5,zs,rfl,dQ,rY,xq⟩:=aap
    refine cE.k ?_
    refine⟨_,rfl,_,rfl,_,rfl,_,rfl,a,l,wd,(i,j),k,rfl,dQ.tup hT,S,by omega,λp us H5 hp s5 hP NX=>?_⟩
    have xt:=s5 _ _ rY
    have NY:p≠g:=λz=>by rw[z,rY] at hp;cases hp
    have F9:=NX.length
    have e1:mn l wd k (i*wd+(j+1))=mn l wd k (i*wd+j)++if (bV (bg l wd) (cu k) (i,j)).isEmpty=true then [] else [bV (bg l wd) (cu k) (i,j)]:=by
     unfold mn
     rw[aae hi hj,ow]
    have e2:=aad (bg l wd) (cu k) (i,j)
    refine⟨_,rfl,p,_,rfl,.inl (aj.of hP),_,_,rfl,rfl,_,rfl,eM (λh1=>?_) (λh1=>?_)⟩
    .have h1:(1:Int)<(us.length:Int):=eQ h1
     have hz:=xq.length
     have h8:=aam k (i*wd+j)
     refine⟨_,rfl,.inl ⟨rfl,_,aj.of xt⟩,_,rfl,g,zs,_,rfl,rfl,xt,ui (by omega),?_⟩
     refine⟨_,_,_,rfl,(dQ.trans s5).jX hg,au,?_⟩
     rw[aq (by omega)] at e2
     have cJ:(bV (bg l wd) (cu k) (i,j)).isEmpty=false:=by
      rw[e2]
      cases fU:runC (bg l wd) (cu k) (i,j) with
      |nil=>
       exfalso
       rw[fU] at F9
       have F9:0=us.length:=F9
       omega
      |cons _ _=>rfl
     rw[e1,aq (by rw[cJ];exact bW),e2]
     have off:∀b o,b≠g->H5 b=some o->upd H5 g (.lst (zs++[.ref p])) b=some o:=λb o hb z=>by rw[ak hb];exact z
     exact mN (fG.off ⟨zs,xt⟩ off (fG.mono s5 xq)) ⟨p,us,rfl,NY,off _ _ NY hP,br.off ⟨zs,xt⟩ off NX⟩
    .have h1:¬(1:Int)<(us.length:Int):=λz=>h1 (aG z)
     rw[ax (by omega)] at e2
     refine⟨_,_,zs,rfl,dQ.trans s5,xt,?_⟩
     rw[e1,e2,ax (show([]:List C2).isEmpty=true from rfl),fX]
     exact fG.mono s5 xq
   .intro σ H4 aaq
    refine hide λG_ eB=>?_
    obtain⟨v4,v5,zs,rfl,dQ,rY,xq⟩:=aaq
    refine eB.k ?_
    refine⟨_,_,_,zs,rfl,dQ,rY,?_⟩
    rw[jb]
    exact xq
  .intro σ H3 aar
   refine hide λG_ kZ=>?_
   obtain⟨v3,v4,v5,ys,rfl,iY,iZ,jw⟩:=aar
   refine kZ.k ?_
   refine⟨_,_,_,_,ys,rfl,iY,iZ,?_⟩
   have e3:mn l wd k (l.length*wd)=Bc l wd (k+1):=by
    rcases(by omega:k=0\/k=1) with rfl | rfl
    .unfold mn
     exact CN _
    .rfl
   rw[<-e3]
   exact jw
 .intro σ H2 aas
  refine hide λG_ k4=>?_
  obtain⟨v2,v3,v4,v5,xs,rfl,sm,hL,hC⟩:=aas
  refine k4.k ?_
  exact⟨_,rfl,q g xs H2 hg sm hL hC⟩
end
noncomputable def putL(l:List Str):List C2->List Nat->List Str
 |c::cs,x::xs=>putL (setC l c x) cs xs
 |_,_=>l
theorem rZ(l:List Str):∀(cs:List C2) (xs:List Nat) (i:Nat) (c:C2) (x:Nat),cs[i]? = some c->xs[i]? = some x->putL l (cs.take (i+1)) (xs.take (i+1))=setC (putL l (cs.take i) (xs.take i)) c x:=by
 intro cs
 induction cs generalizing l with
 |nil=>intro xs i c x h;simp at h
 |cons d r ih=>
  intro xs i c x h1 h2
  cases xs with
  |nil=>simp at h2
  |cons y s=>
   cases i with
   |zero=>
    have h1:d=c:=by simpa using h1
    have h2:y=x:=by simpa using h2
    subst h1 h2
    rfl
   |succ i=>
    have h1:r[i]? = some c:=by simpa using h1
    have h2:s[i]? = some x:=by simpa using h2
    exact ih (setC l d y) s i c x h1 h2
theorem NZ(l:List Str):∀(cs:List C2) (xs:List Nat),putL l (cs.take (min cs.length xs.length)) (xs.take (min cs.length xs.length))=putL l cs xs:=by
 intro cs
 induction cs generalizing l with
 |nil=>intro xs;simp[putL]
 |cons d r ih=>
  intro xs
  cases xs with
  |nil=>simp[putL]
  |cons y s=>
   have e:min (d::r).length (y::s).length=min r.length s.length+1:=by simp only[c5];omega
   rw[e]
   exact ih (setC l d y) s
section
variable{P:Program}{w:World}{K:PySem.W.Frag}{mg:Str->Option Value}{base:Heap}{f:Addr}{fd:FuncData}
theorem Ga:bc ["_law_sheet","_law_cell","_law_sign","_law_lines","_law_line"] ["_law_sheet","_law_cell","_law_sign"] (aS (top 57)):={}
theorem aat(B:Bl mg)(F:aW K "_law_with" "_law_with" (top 57) f fd):aM P w K mg base aR 1 f fd ["_law_sheet","_law_cell","_law_sign"] (rS K):=by
 refine F.bG Ga λaH A outer s H vs Q E hr h=>?_
 refine hide λG_ aI=>?_
 obtain⟨a,b,l,wd,c,ch,rfl,hT,S,hb,h1,h2,q⟩:=h
 obtain⟨x,hx,mx,lx,pJ,hj⟩:=S.row h1
 refine aI.k ?_
 have hw:=S.w9
 refine⟨_,(av (aK (i:=3) Ga.nd rfl (Or.inl rfl) (jR wb (by rfl) B.xc wB (ab (pv 0) ai)))
  (av (aK (i:=4) Ga.nd rfl (Or.inl rfl) (aX fN (pv 3) (aX cj (pv 1) aE (λ_ _=>rfl)) (λ_ _=>rfl)))
  (av (qM (aO qP (aO qP (m6 tR (pv 4) lN (lO (aX cj (pv 1) aE (λ_ _=>rfl)))) (pv 2)) (m6 tR (pv 4) (lO (aO eD (aX cj (pv 1) aE (λ_ _=>rfl)) aE)) lN)) (tm (pv 3) (aX cj (pv 1) aE (λ_ _=>rfl)) set_list))
  (az (aZ (jR wc (by rfl) B.xb wA (ab (pv 3) ai))))))),?_⟩
 try dsimp only[bD]
 refine⟨_,rfl,a,_,rfl,.inr hT,λp hp=>?_⟩
 have t1:=af.upd (o:=HO.lst (l.map V.str)) hp
 have l1:(Txt.slice x none (some (c.2:Int))).length<=100:=bA (vD x _ _) (by omega)
 have l2:(Txt.slice x (some ((c.2:Int)+1)) none).length<=100:=bA (vD x _ _) (by omega)
 have lV:=t1.tup hb
 refine⟨_,rfl,_,rfl,b,_,0,.int c.1,rfl,rfl,lV,rfl,p,_,_,.str x,rfl,rfl,aj.of au,iX hx,?_⟩
 refine⟨_,rfl,_,rfl,b,_,1,.int c.2,rfl,rfl,lV,rfl,_,rfl,x,rfl,eA (by omega),_,rfl,_,_,rfl,rfl,eA (by show _+1<=_;omega),?_⟩
 refine⟨_,rfl,_,rfl,b,_,1,.int c.2,rfl,rfl,lV,rfl,_,_,rfl,rfl,_,rfl,x,rfl,eA (by omega),_,_,rfl,rfl,eA ?_,?_⟩
 .rw[<-b8,pI,cQ,b8]
  show _+1+_<=_
  omega
 have eg:=Fi (x:=x) (j:=c.2) (ch:=ch) (FV (by omega)) (FW (by omega))
 refine⟨_,rfl,_,rfl,b,_,0,.int c.1,rfl,rfl,lV,rfl,p,_,_,c.1,rfl,rfl,au,tS (by rw[ar];exact h1),?_⟩
 rw[eg,JV]
 refine⟨_,rfl,p,_,rfl,.inl ⟨aj.of au,λt ht=>?_⟩⟩
 have sm:af H (upd H p (.lst ((l.map V.str).set c.1 (.str (bC x c.2 ch))))):=af.upd hp
 refine q t _ (sm.free ht) (sm.trans (af.upd ht)) ?_
 rw[au]
 unfold setC
 rw[bS hx,List.map_set]
def xu(K:PySem.W.Frag):Sp:=λvs H Q _=>∃(a t:Addr) (l:List Str) (w:Nat) (cs:List C2) (xs:List V),vs=[.ref a,.ref t]/\aw K H a (l.map V.str)/\ba l w/\H t=some (.lst xs)/\br H cs xs/\cs.length<=100/\(∀c∈cs,c.1<l.length/\c.2<w)/\
 ∀H',af H H'->Q (.str (ao l cs)) H'
theorem aau:bc ["_law_sheet","_law_cells"] ["_law_sheet","_law_cells"] (aS (top 62)):={}
theorem aav(F:aW K "_law_text" "_law_text" (top 62) f fd):aM P w K mg base aR 1 f fd ["_law_sheet","_law_cells"] (xu K):=by
 refine F.bG aau λaH A outer s H vs Q E hr h=>?_
 refine hide λG_ aI=>?_
 obtain⟨a,t,l,wd,cs,xs,rfl,hT,S,ht,hC,hlen,bu,q⟩:=h
 refine aI.k ?_
 have ig:=hC.length
 have hw:=S.w9
 refine⟨_,(az (aZ (fO R3 PySem.F.slot_str_join PySem.F.type_str_join LC gh (ab (Lx (js:=[0]) (ns:=["_law_sheet"]) (dF (pv 1)) rfl rfl rfl rfl (λ_ _ _ _=>jY) (λ_ _ _ _=>(aX jS (Ek (K:=K) (rr:=zr) rfl cj (pv 2) (pv 0) (λ_ _=>rfl)) (pv 1) (λ_ _=>rfl)))) ai (hs:=de rfl))))),?_⟩
 try dsimp only[bD]
 refine⟨rfl,_,rfl,t,rfl,⟨_,aj.of ht⟩,?_⟩
 refine Wk (by omega) (aj.of ht) (λ_=>true) (λ_ i y _=>y = .str ⟨#[sg l (cs.getD i (0,0))]⟩) (λ_ _ _ _ _ _ _ _ h=>h) ?_ ?_
 .intro D i x H2 Z0 Z hD hx s2 _ k0 k1
  refine hide λG_ aY=>?_
  obtain⟨c,hc,b,rfl,hb⟩:=Paired.get hC hx
  have eP:=bu c (bo hc)
  obtain⟨y,hy,my,ly,_,hj⟩:=S.row eP.1
  refine aY.k ?_
  refine⟨b,_,_,rfl,aw.of (s2 _ _ hb),bz (B:=Z0 H2) ?_⟩
  exact⟨_,rfl,_,rfl,a,_,_,.str y,rfl,rfl,s2.tup hT,iX hy,_,rfl,y,_,_,rfl,rfl,eA (by omega),dz (hj c.2 eP.2),k1 _ _ (af.cO _) rfl (by rw[bS hc])⟩
 .intro D ys H2 hD bB s2 pr
  rw[List.filter_eq_self.mpr (λ_ _=>rfl)] at pr
  have e:=pQ pr
  rw[<-ig,rR (λc=>V.str ⟨#[sg l c]⟩)] at e
  have e1:ys=((cs.map (sg l)).map λc=>(⟨#[c]⟩:Str)).map V.str:=by rw[e,iK,iK];rfl
  rw[e1] at bB
  refine⟨_,D,(cs.map (sg l)).map λc=>(⟨#[c]⟩:Str),rfl,rfl,.inl (aj.of bB),?_,?_⟩
  .rw[FU,ar,ar,AX]
   show _+_*0<=_
   omega
  .rw[AX,FT]
   exact q H2 s2
theorem Gb(z:Int):jk iU.cps.toList (z % 26)=some (97+(z % 26).toNat)/\97<=97+(z % 26).toNat/\97+(z % 26).toNat<=122:=by
 have h1:=lB z (show(26:Int)≠0 by decide)
 have h2:=oJ z (show(0:Int)<26 by decide)
 obtain⟨k,hk⟩:=qD h1
 rw[hk,dH]
 have e:iU.cps.toList[k]? = some (97+k):=by
  rw[Ay,bb,oG (by omega)]
  rfl
 exact⟨dz e,by omega,by omega⟩
def Ge(K:PySem.W.Frag):Sp:=λvs H Q _=>∃(a:Addr) (ns:List Int) (n:Int),vs=[.ref a,.int n]/\aj K H a (ns.map V.int)/\∀ch:Nat,97<=ch->ch<=122->Q (.str ⟨#[ch]⟩) H
theorem Gf:bc ["_law_script","_law_number","_law_letters","_law_cell"] ["_law_script","_law_number"] (aS (top 60)):={}
theorem aaw(F:aW K "_law_letter" "_law_letter" (top 60) f fd)(nS:Fn P w K mg base "_law_cell_at" 1 (AH K)):aM P w K mg base aR 2 f fd ["_law_script","_law_number"] (Ge K):=by
 refine F.bG Gf λaH A outer s H vs Q E hr h=>?_
 refine hide λG_ aI=>?_
 obtain⟨a,ns,n,rfl,hS,q⟩:=h
 refine aI.k ?_
 refine⟨_,(av (aK (i:=2) Gf.nd rfl (Or.inl rfl) gh)
  (av (aK (i:=3) Gf.nd rfl (Or.inl rfl) (aV nS (hr.mono (by decide)) (by rfl) (ab (pv 0) (ab aE ai))))
  (az (aZ (aX jS (pv 2) (aO eW (aO eD (aO jg (pv 3) aE) (aO tG (aO eW (pv 1) (aO eD aE (aO eW (pv 3) aE))) (aO eD aE (aO eW (aO jg (pv 3) aE) aE)))) aE) (λ_ _=>rfl)))))),?_⟩
 try dsimp only[bD]
 have c0:=lB (cellAt ns 1) (show(3:Int)≠0 by decide)
 have d0:=lB (cellAt ns 1 / 78) (show(8:Int)≠0 by decide)
 have d1:=oJ (cellAt ns 1 / 78) (show(0:Int)<8 by decide)
 refine⟨_,rfl,a,ns,1,rfl,hS,?_⟩
 refine⟨_,rfl,_,rfl,_,_,rfl,rfl,⟨by decide,by decide⟩,_,rfl,_,rfl,_,_,rfl,rfl,(by show(0:Int)<3;decide),_,_,rfl,rfl,_,_,rfl,rfl,(by show(0:Int)<2+cellAt ns 1 % 3;omega),?_⟩
 refine⟨_,rfl,_,_,rfl,rfl,⟨by decide,by decide⟩,_,_,rfl,rfl,(by show(0:Int)<8;decide),_,_,rfl,rfl,_,_,rfl,rfl,.inr ⟨by omega,by omega⟩,_,_,rfl,rfl,_,_,rfl,rfl,(by show(0:Int)<26;decide),?_⟩
 exact⟨iU,_,_,rfl,rfl,by decide,(Gb _).1,q _ (Gb _).2.1 (Gb _).2.2⟩
def N0(K:PySem.W.Frag):Sp:=λvs H Q _=>∃(a t:Addr) (l:List Str) (w:Nat) (cs:List C2) (xs:List V) (x:Str),vs=[.ref a,.ref t,.str x]/\H a=some (.tup (l.map V.str))/\dR l w/\H t=some (.tup xs)/\br H cs xs/\(∀c∈cs,c.1<l.length/\c.2<w)/\
 ∀p H',af H H'->H' p=some (.tup ((putL l cs x.cps.toList).map V.str))->Q (.ref p) H'
theorem xw:bc ["sheet","cells","word","after","cell","letter"] ["sheet","cells","word"] (aS (top 27)):={}
theorem aax(B:Bl mg)(F:aW K "put_word" "put_word" (top 27) f fd)(aay:Fn P w K mg base "with_sign" 1 (rS K)):aM P w K mg base aR 2 f fd ["sheet","cells","word"] (N0 K):=by
 refine F.bG xw λaH A outer s H vs Q E hr h=>?_
 refine hide λG_ aI=>?_
 obtain⟨a,t,l,wd,cs,xs,x,rfl,hT,S,ht,hC,bu,q⟩:=h
 refine aI.k ?_
 have ig:=hC.length
 have lx:x.cps.toList.length=x.length:=b8 x
 refine⟨_,(av (aK (i:=3) xw.nd rfl (Or.inl rfl) (pv 0))
  (av (cG cF rfl (Ab .T .S (by rfl) B.AG (ab (pv 1) (ab (pv 2) ai))) (lH rfl (eU (bR (i:=4) xw.nd rfl (Or.inl rfl)) (eU (bR (i:=5) xw.nd rfl (Or.inl rfl)) lG)))
  (az (aK (i:=3) xw.nd rfl (Or.inl rfl) (aV aay (hr.mono (by decide)) (by rfl) (ab (pv 3) (ab (pv 4) (ab (pv 5) ai)))))))
  (az (aZ (pv 3))))),?_⟩
 try dsimp only[bD]
 refine⟨_,rfl,?_⟩
 refine⟨_,rfl,_,rfl,_,_,rfl,⟨_,t,rfl,aw.of ht⟩,⟨_,x,rfl,rfl⟩,?_⟩
 refine Ac (K:=K) (k1 := .T) (k2 := .S) (xs:=xs) (ys:=x.cps.toList.map λc=>V.str ⟨#[c]⟩) (λi σ H2=>∃p v4 v5,σ=[some (.ref a),some (.ref t),some (.str x),some (.ref p),v4,v5]/\af H H2/\H2 p=some (.tup ((putL l (cs.take i) (x.cps.toList.take i)).map V.str))/\dR (putL l (cs.take i) (x.cps.toList.take i)) wd/\(putL l (cs.take i) (x.cps.toList.take i)).length=l.length)
  ⟨a,none,none,rfl,af.cO _,hT,S,rfl⟩ (λi σ H2 _ h=>?_) ?_ ?_
 .refine hide λG_ aY=>?_
  obtain⟨p,v4,v5,rfl,sm,_⟩:=h
  refine aY.k ?_
  exact⟨⟨_,rfl,aw.of (sm _ _ ht)⟩,_,rfl,rfl⟩
 .intro i y cv p σ H2 hy k6 aaz hp
  refine hide λG_ bK=>?_
  obtain⟨p0,v4,v5,rfl,sm,hP,G,hl⟩:=aaz
  rw[bb] at k6
  obtain⟨c,hc,rfl⟩:=iE.mp k6
  obtain⟨cc,hcc,b,rfl,hb⟩:=Paired.get hC hy
  refine bK.k ?_
  have eP:=bu cc (bo hcc)
  have tp:=af.upd (o:=HO.tup [V.ref b,V.str ⟨#[c]⟩]) hp
  refine⟨p,_,rfl,aw.of au,rfl,_,_,rfl,_,_,rfl,rfl,?_⟩
  have s2:=sm.trans tp
  refine⟨_,rfl,_,rfl,_,rfl,p0,b,_,wd,cc,c,rfl,aw.of (tp _ _ hP),G,aw.of (s2 _ _ hb),by rw[hl];exact eP.1,eP.2,λt2 H3 gs s3 rE=>?_⟩
  rw[<-rZ l cs x.cps.toList i cc c hcc hc] at rE
  refine⟨t2,_,_,rfl,s2.trans s3,rE,?_,?_⟩
  .rw[rZ l cs x.cps.toList i cc c hcc hc]
   exact G.set (by rw[hl];exact eP.1) eP.2
  .rw[rZ l cs x.cps.toList i cc c hcc hc,dq]
   exact hl
 .intro σ H2 aaA
  refine hide λG_ cE=>?_
  obtain⟨p,v4,v5,rfl,sm,hP,_⟩:=aaA
  refine cE.k ?_
  refine⟨_,rfl,q p H2 sm ?_⟩
  have e:=NZ l cs x.cps.toList
  rw[lx,ig] at e
  rw[ar,lx,e] at hP
  exact hP
def Gg(K:PySem.W.Frag):Sp:=λvs H Q _=>∃(a t:Addr) (l:List Str) (w:Nat) (cs:List C2) (xs:List V) (x:Str),vs=[.ref a,.ref t,.str x]/\H a=some (.tup (l.map V.str))/\dR l w/\H t=some (.lst xs)/\br H cs xs/\(∀c∈cs,c.1<l.length/\c.2<w)/\
 ∀p H',af H H'->H' p=some (.tup ((putL l cs x.cps.toList).map V.str))->Q (.ref p) H'
theorem Bd:bc ["_law_sheet","_law_cells","_law_word","_law_cell","_law_letter_here"] ["_law_sheet","_law_cells","_law_word"] (aS (top 66)):={}
theorem aaB(B:Bl mg)(F:aW K "_law_put" "_law_put" (top 66) f fd)(pS:Fn P w K mg base "_law_with" 1 (rS K)):aM P w K mg base aR 2 f fd ["_law_sheet","_law_cells","_law_word"] (Gg K):=by
 refine F.bG Bd λaH A outer s H vs Q E hr h=>?_
 refine hide λG_ aI=>?_
 obtain⟨a,t,l,wd,cs,xs,x,rfl,hT,S,ht,hC,bu,q⟩:=h
 refine aI.k ?_
 have ig:=hC.length
 have lx:x.cps.toList.length=x.length:=b8 x
 refine⟨_,(av (cG cF rfl (Ab .L .S (by rfl) B.AG (ab (pv 1) (ab (pv 2) ai))) (lH rfl (eU (bR (i:=3) Bd.nd rfl (Or.inl rfl)) (eU (bR (i:=4) Bd.nd rfl (Or.inl rfl)) lG)))
  (az (aK (i:=0) Bd.nd rfl (Or.inl rfl) (aV pS (hr.mono (by decide)) (by rfl) (ab (pv 0) (ab (pv 3) (ab (pv 4) ai)))))))
  (az (aZ (pv 0)))),?_⟩
 try dsimp only[bD]
 refine⟨_,rfl,_,rfl,_,_,rfl,⟨_,t,rfl,aj.of ht⟩,⟨_,x,rfl,rfl⟩,?_⟩
 refine Ac (K:=K) (k1 := .L) (k2 := .S) (xs:=xs) (ys:=x.cps.toList.map λc=>V.str ⟨#[c]⟩) (λi σ H2=>∃p v3 v4,σ=[some (.ref p),some (.ref t),some (.str x),v3,v4]/\af H H2/\H2 p=some (.tup ((putL l (cs.take i) (x.cps.toList.take i)).map V.str))/\dR (putL l (cs.take i) (x.cps.toList.take i)) wd/\(putL l (cs.take i) (x.cps.toList.take i)).length=l.length)
  ⟨a,none,none,rfl,af.cO _,hT,S,rfl⟩ (λi σ H2 _ h=>?_) ?_ ?_
 .refine hide λG_ aY=>?_
  obtain⟨p,v3,v4,rfl,sm,_⟩:=h
  refine aY.k ?_
  exact⟨⟨_,rfl,aj.of (sm _ _ ht)⟩,_,rfl,rfl⟩
 .intro i y cv p σ H2 hy k6 aaC hp
  refine hide λG_ bK=>?_
  obtain⟨p0,v3,v4,rfl,sm,hP,G,hl⟩:=aaC
  rw[bb] at k6
  obtain⟨c,hc,rfl⟩:=iE.mp k6
  obtain⟨cc,hcc,b,rfl,hb⟩:=Paired.get hC hy
  refine bK.k ?_
  have eP:=bu cc (bo hcc)
  have tp:=af.upd (o:=HO.tup [V.ref b,V.str ⟨#[c]⟩]) hp
  refine⟨p,_,rfl,aw.of au,rfl,_,_,rfl,_,_,rfl,rfl,?_⟩
  have s2:=sm.trans tp
  refine⟨_,rfl,_,rfl,_,rfl,p0,b,_,wd,cc,c,rfl,aw.of (tp _ _ hP),G,aw.of (s2 _ _ hb),by rw[hl];exact eP.1,eP.2,λt2 H3 gs s3 rE=>?_⟩
  rw[<-rZ l cs x.cps.toList i cc c hcc hc] at rE
  refine⟨t2,_,_,rfl,s2.trans s3,rE,?_,?_⟩
  .rw[rZ l cs x.cps.toList i cc c hcc hc]
   exact G.set (by rw[hl];exact eP.1) eP.2
  .rw[rZ l cs x.cps.toList i cc c hcc hc,dq]
   exact hl
 .intro σ H2 aaD
  refine hide λG_ cE=>?_
  obtain⟨p,v3,v4,rfl,sm,hP,_⟩:=aaD
  refine cE.k ?_
  refine⟨_,rfl,q p H2 sm ?_⟩
  have e:=NZ l cs x.cps.toList
  rw[lx,ig] at e
  rw[ar,lx,e] at hP
  exact hP
end
noncomputable def nT(l:List Str):List Int:=l.map λx=>(x.length:Int) - (Txt.count x "#":Int)
noncomputable def xx(l:List Str)(w:Nat):Bool:=decide (((((aD l w).map (·.length)).sum:Nat):Int)=2*(nT l).sum)
structure nU(l:List Str)(w:Nat):Prop where
 sh:ba l w
 h4:l.length<=4
 w4:w<=4
 sg:∀x∈l,∀c∈x.cps.toList,c=35\/c=46
theorem ba.of{l:List Str}{w:Nat}(h1:1<=l.length)(h9:l.length<=9)(w1:1<=w)(w9:w<=9)(hl:∀x∈l,x.length=w)(hc:∀x∈l,∀c∈x.cps.toList,c=35\/c=46):ba l w:=
 ⟨h1,h9,w1,w9,hl,λx m c mc=>by rcases hc x m c mc with h | h <;> rw[h] <;> unfold nI <;> omega⟩
theorem aaE{l:List Str}{c:C2}{ch:Nat}{P:Nat->Prop}(h:∀x∈l,∀d∈x.cps.toList,P d)(h1:c.1<l.length)(hP:P ch):∀x∈setC l c ch,∀d∈x.cps.toList,P d:=by
 intro x m d md
 unfold setC at m
 rcases JK m with z | z
 .exact h x z d md
 .rw[z] at md
  have md:d∈(l.getD c.1 ⟨#[]⟩).cps.toList.take c.2++ch::(l.getD c.1 ⟨#[]⟩).cps.toList.drop (c.2+1):=by
   unfold bC at md
   simpa using md
  have hm:l.getD c.1 ⟨#[]⟩∈l:=by rw[bM,aU h1];exact lC h1
  rcases dh.mp md with md | md
  .exact h _ hm d (yP md)
  .rcases bX.mp md with md | md
   .rw[md];exact hP
   .exact h _ hm d (R1 md)
theorem nU.set{l:List Str}{w:Nat}(F:nU l w){c:C2}(h1:c.1<l.length)(h2:c.2<w):nU (setC l c 35) w:=
 ⟨AA F.sh h1 h2 (.inl rfl),by rw[dq];exact F.h4,F.w4,aaE (P:=λd=>d=35\/d=46) F.sg h1 (.inl rfl)⟩
theorem Gh(n:Nat):(gr "." n).cps.toList=List.replicate n 46:=by
 show(List.replicate n (".":Str).cps.toList).flatten=_
 rw[show(".":Str).cps.toList=[46] from by decide +kernel]
 induction n with
 |zero=>rfl
 |succ n ih=>rw[ou,vz,ih,ou];rfl
theorem N1{h w:Nat}(h1:1<=h)(h4:h<=4)(w1:1<=w)(w4:w<=4):nU (List.replicate h (gr "." w)) w:=by
 have hs:∀x∈List.replicate h (gr "." w),∀c∈x.cps.toList,c=35\/c=46:=λx m c mc=>by
  rw[R4 m,Gh] at mc
  exact .inr (R4 mc)
 refine⟨ba.of (by rw[sL];exact h1) (by rw[sL];omega) w1 (by omega) (λx m=>?_) hs,by rw[sL];exact h4,w4,hs⟩
 rw[R4 m,<-b8,Gh,sL]
theorem N2{α:Type}(x:α):∀n:Nat,(List.replicate n [x]).flatten=List.replicate n x
 |0=>rfl
 |n+1=>by rw[ou,vz,N2 x n];rfl
theorem N3(a b:Int):decide (V.int a=V.int b)=decide (a=b):=by
 by_cases h:a=b
 .rw[h,aG rfl,aG rfl]
 .rw[aF h,aF]
  intro z
  injection z with z
  exact h z
theorem uu{H:Hp}{p:Addr}{o:HO}(_:af H (upd H p o)):upd H p o p=some o:=au
def jz(l:List Str)(w:Nat):Prop := ∀c:C2,c.1<l.length->c.2<w->(sg l c=35↔sg l (l.length - 1 - c.1,w - 1 - c.2)=35)
theorem Gi{h w:Nat}{c:C2}(h1:c.1<h)(h2:c.2<w):sg (List.replicate h (gr "." w)) c=46:=by
 unfold sg
 have e1:(List.replicate h (gr "." w))[c.1]? = some (gr "." w):=by rw[RQ,ax h1]
 rw[bS e1]
 rw[Gh,bM,RQ,ax h2]
 rfl
theorem aaF{h w:Nat}:jz (List.replicate h (gr "." w)) w:=λc h1 h2=>by
 rw[sL] at h1 ⊢
 rw[Gi h1 h2,Gi (c:=(h - 1 - c.1,w - 1 - c.2)) (by show h - 1 - c.1<h;omega) (by show w - 1 - c.2<w;omega)]
theorem jz.set{l:List Str}{w:Nat}(S:ba l w)(Y:jz l w){c:C2}(h1:c.1<l.length)(h2:c.2<w):jz (setC (setC l c 35) (l.length - 1 - c.1,w - 1 - c.2) 35) w:=by
 have G:=S.dS
 have G1:=G.set (ch:=35) h1 h2
 have t1:l.length - 1 - c.1<l.length:=by omega
 have t2:w - 1 - c.2<w:=by omega
 have key:∀d:C2,d.1<l.length->d.2<w->(sg (setC (setC l c 35) (l.length - 1 - c.1,w - 1 - c.2) 35) d=35↔d=c\/d=(l.length - 1 - c.1,w - 1 - c.2)\/sg l d=35):=λd d1 d2=>by
  rw[G1.kW (c:=(l.length - 1 - c.1,w - 1 - c.2)) (by rw[dq];exact t1) t2 (by rw[dq];exact d1) d2,G.kW h1 h2 d1 d2]
  by_cases e1:d=(l.length - 1 - c.1,w - 1 - c.2)
  .rw[ax e1]
   exact⟨λ_=>.inr (.inl e1),λ_=>rfl⟩
  .rw[aq e1]
   by_cases e2:d=c
   .rw[ax e2]
    exact⟨λ_=>.inl e2,λ_=>rfl⟩
   .rw[aq e2]
    exact⟨λz=>.inr (.inr z),λz=>by rcases z with z | z | z;exact absurd z e2;exact absurd z e1;exact z⟩
 intro d d1 d2
 rw[dq,dq] at d1 ⊢
 rw[key d d1 d2,key (l.length - 1 - d.1,w - 1 - d.2) (by show l.length - 1 - d.1<_;omega) (by show w - 1 - d.2<w;omega),Y d d1 d2]
 have a1:(d=c)↔((l.length - 1 - d.1,w - 1 - d.2)=(l.length - 1 - c.1,w - 1 - c.2)):=by
  constructor
  .intro z;rw[z]
  .intro z
   injection z with z1 z2
   exact qE (by omega) (by omega)
 have a2:(d=(l.length - 1 - c.1,w - 1 - c.2))↔((l.length - 1 - d.1,w - 1 - d.2)=c):=by
  constructor
  .intro z
   rw[z]
   exact qE (by show l.length - 1 - (l.length - 1 - c.1)=c.1;omega) (by show w - 1 - (w - 1 - c.2)=c.2;omega)
  .intro z
   rw[<-z]
   exact qE (by show d.1=l.length - 1 - (l.length - 1 - d.1);omega) (by show d.2=w - 1 - (w - 1 - d.2);omega)
 rw[a1,a2]
 constructor
 .rintro(z | z | z)
  .exact .inr (.inl z)
  .exact .inl z
  .exact .inr (.inr z)
 .rintro(z | z | z)
  .exact .inr (.inl z)
  .exact .inl z
  .exact .inr (.inr z)
theorem aaG{h w sp:Nat}(hw:0<w)(hs:sp<h*w):(h*w - 1 - sp) / w=h - 1 - sp / w/\(h*w - 1 - sp) % w=w - 1 - sp % w:=by
 have e:=Nat.div_add_mod sp w
 have hm:=Nat.mod_lt sp hw
 have hd:sp / w<h:=JJ (by rw[mM];exact hs)
 obtain⟨k,hk⟩:∃k,h=sp / w+1+k:=⟨h - (sp / w+1),by omega⟩
 have e3:h*w - 1 - sp=(w - 1 - sp % w)+w*k:=by
  have e4:h*w=w*(sp / w)+w+w*k:=by rw[hk,Nat.add_mul,Nat.add_mul,Nat.one_mul,mM (sp / w) w,mM k w]
  omega
 have e5:h - 1 - sp / w=k:=by omega
 rw[e3,e5]
 exact⟨by rw[Nat.add_mul_div_left _ _ hw,Nat.div_eq_of_lt (by omega),mO],by rw[Nat.add_mul_mod_self_left,Nat.mod_eq_of_lt (by omega)]⟩
theorem aaH:∀h∈[2,3,4],∀w∈[2,3,4],xx (List.replicate h (gr "." w)) w=true:=by decide +kernel
def N4(l m:List Str)(w n:Nat)(c:C2):Prop:=(sg l c=35->sg m c=35)/\(sg l c≠35->if c.1*w+c.2<n then 97<=sg m c/\sg m c<=122 else sg m c=46)
structure gN(l m:List Str)(w n:Nat):Prop where
 sh:ba m w
 ln:m.length=l.length
 cl:∀c:C2,c.1<l.length->c.2<w->N4 l m w n c
theorem Gj{w a b c d:Nat}(h:b<w)(h':d<w)(e:a*w+b=c*w+d):a=c/\b=d:=by
 rcases Nat.lt_trichotomy a c with z | z | z
 .have:=C4 w z
  rw[jb] at this
  omega
 .subst z
  exact⟨rfl,by omega⟩
 .have:=C4 w z
  rw[jb] at this
  omega
theorem gN.zero{l:List Str}{w:Nat}(F:nU l w):gN l l w 0:=by
 refine⟨F.sh,rfl,λc h1 h2=>⟨id,λh=>?_⟩⟩
 rw[aq (fZ _)]
 obtain⟨x,_,mx,_,_,hj⟩:=F.sh.row h1
 rcases F.sg x mx _ (bo (hj _ h2)) with z | z
 .exact absurd z h
 .exact z
theorem gN.aaI{l m:List Str}{w i j:Nat}(F:gN l m w (i*w+j))(hj:j<w)(hc:sg l (i,j)=35):gN l m w (i*w+(j+1)):=by
 refine⟨F.sh,F.ln,λc h1 h2=>⟨(F.cl c h1 h2).1,λh=>?_⟩⟩
 have g:=(F.cl c h1 h2).2 h
 have ne:c.1*w+c.2≠i*w+j:=λe=>by
  have:=Gj h2 hj e
  exact h (by rw[show c=(i,j) from qE this.1 this.2];exact hc)
 by_cases z:c.1*w+c.2<i*w+j
 .rw[ax z] at g
  rw[ax (by omega)]
  exact g
 .rw[aq z] at g
  rw[aq (by omega)]
  exact g
theorem gN.put{l m:List Str}{w i j ch:Nat}(F:gN l m w (i*w+j))(hi:i<l.length)(hj:j<w)(hc:sg l (i,j)≠35)(c1:97<=ch)(c2:ch<=122):gN l (setC m (i,j) ch) w (i*w+(j+1)):=by
 have xy:i<m.length:=by rw[F.ln];exact hi
 refine⟨AA F.sh xy hj (.inr (.inr ⟨c1,c2⟩)),by rw[dq];exact F.ln,λc h1 h2=>?_⟩
 unfold N4
 rw[F.sh.dS.kW (c:=(i,j)) xy hj (by rw[F.ln];exact h1) h2]
 by_cases e:c=(i,j)
 .rw[ax e,e]
  refine⟨λz=>absurd z hc,λ_=>?_⟩
  rw[ax (by show i*w+j<_;omega)]
  exact⟨c1,c2⟩
 .rw[aq e]
  refine⟨(F.cl c h1 h2).1,λh=>?_⟩
  have g:=(F.cl c h1 h2).2 h
  have ne:c.1*w+c.2≠i*w+j:=λz=>e (qE (Gj h2 hj z).1 (Gj h2 hj z).2)
  by_cases z:c.1*w+c.2<i*w+j
  .rw[ax z] at g
   rw[ax (by omega)]
   exact g
  .rw[aq z] at g
   rw[aq (by omega)]
   exact g
structure pT(m g:List Str)(w:Nat):Prop where
 sh:ba g w
 ln:g.length=m.length
 cl:∀c:C2,c.1<m.length->c.2<w->sg g c=sg m c\/(sg m c≠35/\sg g c=46)
theorem pT.put{m g:List Str}{w:Nat}{c:C2}(F:pT m g w)(h1:c.1<m.length)(h2:c.2<w)(hc:sg m c≠35):pT m (setC g c 46) w:=by
 have xy:c.1<g.length:=by rw[F.ln];exact h1
 refine⟨AA F.sh xy h2 (.inr (.inl rfl)),by rw[dq];exact F.ln,λd d1 d2=>?_⟩
 rw[F.sh.dS.kW xy h2 (by rw[F.ln];exact d1) d2]
 by_cases e:d=c
 .rw[ax e,e]
  exact .inr ⟨hc,rfl⟩
 .rw[aq e]
  exact F.cl d d1 d2
section
variable{P:Program}{w:World}{K:PySem.W.Frag}{mg:Str->Option Value}{base:Heap}{f:Addr}{fd:FuncData}
def N5(K:PySem.W.Frag):Sp:=λvs H Q _=>∃(a b:Addr) (ns:List Int) (l:List Str) (w:Nat) (c:Int),vs=[.ref a,.ref b,.int c]/\aj K H a (ns.map V.int)/\H b=some (.tup (l.map V.str))/\nU l w/\
 ∀p m H',af H H'->H' p=some (.tup (m.map V.str))->gN l m w (l.length*w)->Q (.ref p) H'
theorem r6:bc ["_law_script","_law_floor_here","_law_cell","_law_sheet","_law_number","_law_line","_law_column"] ["_law_script","_law_floor_here","_law_cell"] (aS (top 61)):={}
theorem aaJ(B:Bl mg)(F:aW K "_law_filled" "_law_filled" (top 61) f fd)(pS:Fn P w K mg base "_law_with" 1 (rS K))(Gm:Fn P w K mg base "_law_letter" 2 (Ge K)):aM P w K mg base aR 3 f fd ["_law_script","_law_floor_here","_law_cell"] (N5 K):=by
 refine F.bG r6 λaH A outer s H vs Q E hr h=>?_
 refine hide λG_ aI=>?_
 obtain⟨a,b,ns,l,wd,c,rfl,hS,hT,Fl,q⟩:=h
 have S:=Fl.sh
 have h9:=S.nine
 have hw:=S.w9
 obtain⟨x0,nM,AO,nN,_⟩:=S.row (i:=0) S.one
 refine aI.k ?_
 refine⟨_,(av (aK (i:=3) r6.nd rfl (Or.inl rfl) (pv 1))
  (av (aK (i:=4) r6.nd rfl (Or.inl rfl) (aO eD (aO eW (pv 2) aE) aE))
  (av (cG cF rfl (iN (by rfl) B.iW (ab (bP dY (by rfl) B.cq cn (ab (pv 1) ai)) ai)) (bR (i:=5) r6.nd rfl (Or.inl rfl))
  (az (cG cF rfl (iN (by rfl) B.iW (ab (bP g9 (by rfl) B.cq cn (ab (aX cj (pv 1) aE (λ_ _=>rfl)) ai)) ai)) (bR (i:=6) r6.nd rfl (Or.inl rfl))
   (av (aK (i:=4) r6.nd rfl (Or.inl rfl) (aO eW (aO tG (pv 4) aE) aE))
    (az (tT (b6 (cx mW (aX jS (aX cj (pv 1) (pv 5) (λ_ _=>rfl)) (pv 6) (λ_ _=>rfl)) gh (cH _))
    (az (aK (i:=3) r6.nd rfl (Or.inl rfl) (aV pS (hr.mono (by decide)) (by rfl) (ab (pv 3) (ab (fB (ab (pv 5) (ab (pv 6) ai))) (ab (aV Gm (hr.mono (by decide)) (by rfl) (ab (pv 0) (ab (aO jg (pv 4) aE) ai))) ai (hs:=de rfl)) (hs:=de rfl)) (hs:=de rfl)) (he:=de rfl) (hpl:=wO rfl))))
    b9)))))))
  (az (aZ (pv 3)))))),?_⟩
 try dsimp only[bD]
 refine⟨_,rfl,_,rfl,_,_,rfl,rfl,(by show(0:Int)<2147483647;decide),_,_,rfl,rfl,?_⟩
 refine⟨_,rfl,b,_,rfl,.inr (aw.of hT),_,rfl,by rw[ar];omega,by rw[ar];omega,?_⟩
 rw[dH,ar]
 refine jo (λi σ H2=>∃p m n v5 v6,σ=[some (.ref a),some (.ref b),some (.int c),some (.ref p),some (.int n),v5,v6]/\af H H2/\H2 p=some (.tup (m.map V.str))/\gN l m wd (i*wd))
  ⟨b,l,_,none,none,rfl,af.cO _,hT,by rw[Nat.zero_mul];exact gN.zero Fl⟩ ?_ ?_
 .intro i σ H2 hi aaK
  refine hide λG_ aY=>?_
  obtain⟨p,m,n,v5,v6,rfl,sm,hP,Fm⟩:=aaK
  refine aY.k ?_
  refine⟨_,rfl,b,_,0,.str x0,rfl,rfl,aw.of (sm _ _ hT),iX nM,x0,rfl,eA (by omega),_,rfl,by omega,by omega,?_⟩
  rw[dH,nN]
  refine jo (λj σ H2=>∃p m n v6,σ=[some (.ref a),some (.ref b),some (.int c),some (.ref p),some (.int n),some (.int i),v6]/\af H H2/\H2 p=some (.tup (m.map V.str))/\gN l m wd (i*wd+j))
   ⟨p,m,n,v6,rfl,sm,hP,Fm⟩ ?_ ?_
  .intro j σ H3 hj aaL
   refine hide λG_ bK=>?_
   obtain⟨p,m,n,v6,rfl,sm,hP,Fm⟩:=aaL
   obtain⟨x,hx,mx,lx,_,xA⟩:=S.row hi
   refine bK.k ?_
   refine⟨_,rfl,_,_,rfl,rfl,.inr ⟨by decide,by decide⟩,_,_,rfl,rfl,(by show(0:Int)<2147483647;decide),?_⟩
   refine⟨λσ H2=>∃p m n v6,σ=[some (.ref a),some (.ref b),some (.int c),some (.ref p),some (.int n),some (.int i),v6]/\af H H2/\H2 p=some (.tup (m.map V.str))/\gN l m wd (i*wd+(j+1)),λ_ _ h=>h,?_⟩
   refine⟨_,rfl,_,rfl,b,_,_,.str x,rfl,rfl,aw.of (sm _ _ hT),iX hx,_,rfl,x,_,_,rfl,rfl,eA (by omega),dz (xA j hj),rfl,_,rfl,?_⟩
   rw[rM,AJ]
   by_cases pU:sg l (i,j)=35
   .rw[aG pU]
    exact bf ⟨p,m,_,_,rfl,sm,hP,Fm.aaI hj pU⟩
   .rw[aF pU]
    refine bz ?_
    refine⟨_,rfl,_,rfl,_,rfl,(by show 2<=sizeLine;decide),λq1 mw=>?_⟩
    have y1:=af.upd (o:=HO.tup [V.int (i:Int),V.int (j:Int)]) mw
    refine⟨_,rfl,_,rfl,_,_,rfl,rfl,⟨by decide,by decide⟩,a,ns,_,rfl,(sm.trans y1).seq hS,λch c1 c2=>?_⟩
    refine⟨p,q1,m,wd,(i,j),ch,rfl,aw.of (y1 _ _ hP),Fm.sh.dS,aw.of au,by rw[Fm.ln];exact hi,hj,λt H4 _ s4 ht=>?_⟩
    exact⟨t,_,_,_,rfl,sm.trans (y1.trans s4),ht,Fm.put hi hj pU c1 c2⟩
  .intro σ H3 aaM
   refine hide λG_ cE=>?_
   obtain⟨p,m,n,v6,rfl,sm,hP,Fm⟩:=aaM
   refine cE.k ?_
   exact⟨p,m,n,_,_,rfl,sm,hP,by rw[jb];exact Fm⟩
 .intro σ H2 aaN
  refine hide λG_ eB=>?_
  obtain⟨p,m,n,v5,v6,rfl,sm,hP,Fm⟩:=aaN
  refine eB.k ?_
  exact⟨_,rfl,q p m H2 sm hP Fm⟩
def N6(K:PySem.W.Frag):Sp:=λvs H Q _=>∃(b:Addr) (m:List Str) (w:Nat) (c:Int),vs=[.ref b,.int c]/\H b=some (.tup (m.map V.str))/\ba m w/\
 ∀p g H',af H H'->H' p=some (.tup (g.map V.str))->pT m g w->Q (.ref p) H'
theorem pV:bc ["_law_filled_here","_law_cell","_law_sheet","_law_kept","_law_line","_law_column"] ["_law_filled_here","_law_cell"] (aS (top 64)):={}
theorem aaO(B:Bl mg)(F:aW K "_law_given" "_law_given" (top 64) f fd)(pS:Fn P w K mg base "_law_with" 1 (rS K)):aM P w K mg base aR 2 f fd ["_law_filled_here","_law_cell"] (N6 K):=by
 refine F.bG pV λaH A outer s H vs Q E hr h=>?_
 refine hide λG_ aI=>?_
 obtain⟨b,m,wd,c,rfl,hT,S,q⟩:=h
 have h9:=S.nine
 have hw:=S.w9
 obtain⟨x0,nM,AO,nN,_⟩:=S.row (i:=0) S.one
 refine aI.k ?_
 refine⟨_,(av (aK (i:=2) pV.nd rfl (Or.inl rfl) (pv 0))
  (av (aK (i:=3) pV.nd rfl (Or.inl rfl) (aO eD aE (aO eW (pv 1) aE)))
  (av (aK (i:=1) pV.nd rfl (Or.inl rfl) (aO jg (pv 1) aE))
  (av (cG cF rfl (iN (by rfl) B.iW (ab (bP dY (by rfl) B.cq cn (ab (pv 0) ai)) ai)) (bR (i:=4) pV.nd rfl (Or.inl rfl))
  (az (cG cF rfl (iN (by rfl) B.iW (ab (bP g9 (by rfl) B.cq cn (ab (aX cj (pv 0) aE (λ_ _=>rfl)) ai)) ai)) (bR (i:=5) pV.nd rfl (Or.inl rfl))
   (av (tT (b6 (PW.pt (vS (cx mW (aX jS (aX cj (pv 0) (pv 4) (λ_ _=>rfl)) (pv 5) (λ_ _=>rfl)) gh (cH _)) (vR (PW.pt (tj (cx oZ (pv 3) aE (cH _)) (tf (cx Dl (aO eW (pv 1) (pv 3)) aE (cH _))))))))
    (az (aK (i:=2) pV.nd rfl (Or.inl rfl) (aV pS (hr.mono (by decide)) (by rfl) (ab (pv 2) (ab (fB (ab (pv 4) (ab (pv 5) ai))) (ab gh ai (hs:=de rfl)) (hs:=de rfl)) (hs:=de rfl)) (he:=de rfl) (hpl:=wO rfl))))
    b9))
    (az (aK (i:=1) pV.nd rfl (Or.inl rfl) (aO jg (pv 1) aE)))))))
  (az (aZ (pv 2))))))),?_⟩
 try dsimp only[bD]
 have k0:=lB c (show(4:Int)≠0 by decide)
 refine⟨_,rfl,_,rfl,_,_,rfl,rfl,(by show(0:Int)<4;decide),_,_,rfl,rfl,?_⟩
 refine⟨_,rfl,_,_,rfl,rfl,⟨by decide,by decide⟩,?_⟩
 refine⟨_,rfl,b,_,rfl,.inr (aw.of hT),_,rfl,by rw[ar];omega,by rw[ar];omega,?_⟩
 rw[dH,ar]
 refine jo (λi σ H2=>∃p g n v4 v5,σ=[some (.ref b),some (.int n),some (.ref p),some (.int (2+c % 4)),v4,v5]/\af H H2/\H2 p=some (.tup (g.map V.str))/\pT m g wd)
  ⟨b,m,_,none,none,rfl,af.cO _,hT,⟨S,rfl,λ_ _ _=>.inl rfl⟩⟩ ?_ ?_
 .intro i σ H2 hi aaP
  refine hide λG_ aY=>?_
  obtain⟨p,g,n,v4,v5,rfl,sm,hP,Fm⟩:=aaP
  refine aY.k ?_
  refine⟨_,rfl,b,_,0,.str x0,rfl,rfl,aw.of (sm _ _ hT),iX nM,x0,rfl,eA (by omega),_,rfl,by omega,by omega,?_⟩
  rw[dH,nN]
  refine jo (λj σ H2=>∃p g n v5,σ=[some (.ref b),some (.int n),some (.ref p),some (.int (2+c % 4)),some (.int i),v5]/\af H H2/\H2 p=some (.tup (g.map V.str))/\pT m g wd)
   ⟨p,g,n,v5,rfl,sm,hP,Fm⟩ ?_ ?_
  .intro j σ H3 hj aaQ
   refine hide λG_ bK=>?_
   obtain⟨p,g,n,v5,rfl,sm,hP,Fm⟩:=aaQ
   obtain⟨x,hx,mx,lx,_,xA⟩:=S.row hi
   refine bK.k ?_
   refine⟨λσ H2=>∃p g,σ=[some (.ref b),some (.int n),some (.ref p),some (.int (2+c % 4)),some (.int i),some (.int j)]/\af H H2/\H2 p=some (.tup (g.map V.str))/\pT m g wd,?_,?_⟩
   .rintro σ H4 ⟨p,g,rfl,h⟩
    exact⟨_,rfl,_,_,rfl,rfl,⟨by decide,by decide⟩,p,g,_,_,rfl,h⟩
   refine⟨_,rfl,_,rfl,b,_,_,.str x,rfl,rfl,aw.of (sm _ _ hT),iX hx,_,rfl,x,_,_,rfl,rfl,eA (by omega),dz (xA j hj),rfl,_,rfl,?_⟩
   rw[rM,AJ]
   by_cases pU:sg m (i,j)=35
   .rw[aG pU]
    exact bf (bf ⟨p,g,rfl,sm,hP,Fm⟩)
   .rw[aF pU]
    refine bz ?_
    refine⟨_,rfl,rfl,_,rfl,eM (λ_=>bz ?_) (λ_=>⟨_,rfl,_,rfl,_,_,rfl,rfl,(by show(0:Int)<2+c % 4;omega),_,_,rfl,rfl,_,rfl,eM (λ_=>?_) (λ_=>⟨p,g,rfl,sm,hP,Fm⟩)⟩)⟩
    all_goals
     refine⟨_,rfl,_,rfl,_,rfl,(by show 2<=sizeLine;decide),λq1 mw=>?_⟩
     have y1:=af.upd (o:=HO.tup [V.int (i:Int),V.int (j:Int)]) mw
     exact⟨p,q1,g,wd,(i,j),46,by rw[<-AK];rfl,aw.of (y1 _ _ hP),Fm.sh.dS,aw.of au,by rw[Fm.ln];exact hi,hj,λt H4 _ s4 ht=>⟨t,_,rfl,sm.trans (y1.trans s4),ht,Fm.put hi hj pU⟩⟩
  .intro σ H3 aaR
   refine hide λG_ cE=>?_
   obtain⟨p,g,n,v5,rfl,sm,hP,Fm⟩:=aaR
   refine cE.k ?_
   exact⟨p,g,n,_,_,rfl,sm,hP,Fm⟩
 .intro σ H2 aaS
  refine hide λG_ eB=>?_
  obtain⟨p,g,n,v4,v5,rfl,sm,hP,Fm⟩:=aaS
  refine eB.k ?_
  exact⟨_,rfl,q p g H2 sm hP Fm⟩
end
theorem N7{c:Nat}(h1:97<=c)(h2:c<=122):c∈iU.cps.toList:=by
 rw[Ay]
 exact bt.mpr ⟨c - 97,eC.mpr (by omega),by omega⟩
theorem aaT{x y:Str}(h1:i3 x=true)(h2:i3 y=true):i3 (x++y)=true:=by
 unfold i3 at *
 rw[pI,List.all_append,h1,h2]
 rfl
theorem N8{x:Str}(h1:2<=x.length)(h2:x.length<=9)(h3:i3 x=true):cz x=true:=by
 unfold cz
 rw[aG h1,aG h2,h3]
 rfl
theorem aaU{c:Nat}(h:c∈iU.cps.toList):i3 ⟨#[c]⟩=true:=by
 unfold i3
 show([c]:List Nat).all _=true
 rw[yB,List.all_nil,vC]
 exact aG h
theorem aaV(ns:List Int)(lo hi:Option Int):∀y∈kG (ns.map V.int) lo hi,∃z,y=V.int z:=λy m=>by
 unfold kG at m
 obtain⟨z,_,e⟩:=bt.mp (R1 (yP m))
 exact⟨z,e.symm⟩
theorem Gn{x:Str}{ps:List Str}(h:iP (.str x) (ps.map V.str)=false):x∉ps:=λm=>by
 unfold iP at h
 rw[List.any_map] at h
 have:=Jl.mp h x m
 exact this (by show gF (.str x) (.str x)=true;simp[gF])
def Gp(m:List Str)(w:Nat):Prop := ∀c:C2,c.1<m.length->c.2<w->bJ m c=true->97<=sg m c/\sg m c<=122
theorem gN.lets{l m:List Str}{w:Nat}(F:gN l m w (l.length*w)):Gp m w:=by
 intro c h1 h2 ho
 rw[F.ln] at h1
 have hc:=F.cl c h1 h2
 have hm:sg m c≠35:=by
  unfold bJ at ho
  simpa using ho
 have hl:sg l c≠35:=λz=>hm (hc.1 z)
 have:=hc.2 hl
 have hx:c.1*w+c.2<l.length*w:=by
  have:=C4 w h1
  rw[jb] at this
  omega
 rw[ax hx] at this
 exact this
theorem aaW{l:List Str}{w k:Nat}{c:C2}(S:ba l w)(hk:k<=1):(bV (bg l w) (cu k) c).length<=9:=by
 have h9:=S.nine
 have hw:=S.w9
 unfold bV
 split
 .exact bx _
 .split
  .exact bx _
  .rw[rL]
   rcases yM 9 (runN (bg l w) (cu k) 10 c) with z | z
   .exfalso
    have:=nK (FQ z)
    unfold go cu at this
    dsimp only at this
    have e:k=0\/k=1:=by omega
    rcases e with e | e <;> subst e <;> omega
   .exact z
theorem aaX{op:C2->Bool}{d c:C2}(h:(bV op d c).isEmpty=false):2<=(bV op d c).length:=by
 unfold bV at h ⊢
 split at h
 .cases h
 .split at h
  .cases h
  .rw[aq (by assumption),aq (by assumption),rL]
   omega
theorem Oa{l:List Str}{w k n:Nat}{r:List C2}(S:ba l w)(hk:k<=1)(h:r∈i4 l w k n):2<=r.length/\r.length<=9:=by
 unfold i4 at h
 have h:=bQ.mp h
 obtain⟨c,_,e⟩:=bt.mp h.1
 subst e
 exact⟨aaX (by simpa using h.2),aaW S hk⟩
theorem i5{l:List Str}{w:Nat}{r:List C2}(S:ba l w)(h:r∈aD l w):2<=r.length/\r.length<=9/\∀c∈r,c.1<l.length/\c.2<w/\bJ l c=true:=by
 have a:2<=r.length/\r.length<=9:=by
  unfold aD at h
  rcases dh.mp h with z | z
  .exact Oa S (by decide) z
  .exact Oa S (by decide) z
 refine⟨a.1,a.2,?_⟩
 rw[rX] at h
 obtain⟨q,hq,e⟩:=bt.mp h
 rw[<-e]
 exact(FR hq).2
theorem eJ(l:List Str)(cs:List C2):(ao l cs).length=cs.length:=by
 rw[<-b8]
 unfold ao
 simp
theorem aaY{m:List Str}{w:Nat}{r:List C2}(S:ba m w)(L:Gp m w)(h:r∈aD m w):cz (ao m r)=true:=by
 obtain⟨h2,h9,bu⟩:=i5 S h
 refine N8 (by rw[eJ];exact h2) (by rw[eJ];exact h9) ?_
 unfold i3 ao
 rw[iG]
 intro c mc
 have mc:c∈r.map (sg m):=by simpa using mc
 obtain⟨d,hd,e⟩:=bt.mp mc
 have hb:=bu d hd
 have:=L d hb.1 hb.2.1 hb.2.2
 rw[<-e]
 exact aG (N7 this.1 this.2)
theorem aaZ{m:List Str}{w:Nat}(h4:m.length<=4)(w4:w<=4):(aD m w).length<=32:=by
 have h:=CY h4 w4
 have a:=xp m w 0 (m.length*w)
 have b:=xp m w 1 (m.length*w)
 rw[l9] at a b
 unfold aD kY
 rw[cQ]
 omega
noncomputable def i6(ps:List Str)(n:Nat):List Str:=ps.filter λx=>decide (x.length=n)
theorem Ob(ps qs:List Str)(n:Nat):i6 (ps++qs) n=i6 ps n++i6 qs n:=jH ..
theorem Oc:∀{es:List Str},(∀x∈es,2<=x.length/\x.length<=4)->es.length=(i6 es 2).length+(i6 es 3).length+(i6 es 4).length
 |[],_=>rfl
 |x::r,h=>by
  have ih:=Oc (es:=r) λy my=>h y (bF _ my)
  have hx:=h x bh
  unfold i6 at ih ⊢
  have e:x.length=2\/x.length=3\/x.length=4:=by omega
  rcases e with e | e | e <;> simp only[cR,e,c5] <;> simp <;> omega
structure r8(rs es:List Str):Prop where
 Od:rs.length<=32
 nd:(rs++es).Nodup
 wd:∀x∈rs++es,cz x=true
 e4:∀x∈es,2<=x.length/\x.length<=4
 e5:∀n,(i6 es n).length<=5
theorem r8.dm{rs es:List Str}(W:r8 rs es):(rs++es).length<=47:=by
 have:=Oc W.e4
 have a:=W.e5 2
 have b:=W.e5 3
 have c:=W.e5 4
 have d:=W.Od
 rw[cQ]
 omega
theorem Oe{ps:List Str}{x:Str}(h:ps.Nodup)(hn:x∉ps):(ps++[x]).Nodup:=by
 rw[oI]
 exact⟨h,fq.mpr ⟨fK,iF⟩,λu hu v hv e=>hn (by rw[<-cg.mp hv,<-e];exact hu)⟩
theorem r8.more{rs es:List Str}{x:Str}(W:r8 rs es)(hn:x∉rs++es)(hw:cz x=true)(h4:x.length<=4)(h5:(i6 (rs++es) x.length).length<5):r8 rs (es++[x]):=by
 refine⟨W.Od,by rw[<-ow];exact Oe W.nd hn,λy my=>?_,λy my=>?_,λn=>?_⟩
 .rw[<-ow] at my
  rcases dh.mp my with z | z
  .exact W.wd y z
  .rw[cg.mp z];exact hw
 .rcases dh.mp my with z | z
  .exact W.e4 y z
  .rw[cg.mp z];exact⟨(xn hw).1,h4⟩
 .rw[Ob,cQ]
  rw[Ob,cQ] at h5
  by_cases e:x.length=n
  .rw[e] at h5
   have:(i6 [x] n).length=1:=by unfold i6;rw[cR,aG e];rfl
   omega
  .have:(i6 [x] n).length=0:=by unfold i6;rw[cR,aF e];rfl
   have:=W.e5 n
   omega
section
variable{P:Program}{w:World}{K:PySem.W.Frag}{mg:Str->Option Value}{base:Heap}{f:Addr}{fd:FuncData}
def Of(K:PySem.W.Frag):Sp:=λvs H Q _=>∃(a b:Addr) (ns:List Int) (m:List Str) (w k:Nat),vs=[.ref a,.ref b,.int k]/\aj K H a (ns.map V.int)/\aw K H b (m.map V.str)/\ba m w/\Gp m w/\m.length<=4/\w<=4/\
 ∀(l:Addr) (rs es:List Str) (H':Hp),H l=none->af H H'->H' l=some (.lst ((rs++es).map V.str))->r8 rs es->Q (.ref l) H'
theorem nV:bc ["_law_script","_law_filled_here","_law_start","_law_words_here","_law_cells","_law_cell","_law_word","_law_number","_law_k"] ["_law_script","_law_filled_here","_law_start"] (aS (top 63)):={}
theorem aa0(B:Bl mg)(F:aW K "_law_words" "_law_words" (top 63) f fd)(nS:Fn P w K mg base "_law_cell_at" 1 (AH K))(xB:Fn P w K mg base "_law_rows" 3 (Bb K))(mB:Fn P w K mg base "_law_text" 1 (xu K))(Gm:Fn P w K mg base "_law_letter" 2 (Ge K)):aM P w K mg base aR 4 f fd ["_law_script","_law_filled_here","_law_start"] (Of K):=by
 refine F.bG nV λaH A outer s H vs Q E hr h=>?_
 refine hide λG_ aI=>?_
 obtain⟨a,b,ns,m,wd,k,rfl,hS,hT,S,L,m4,w4,q⟩:=h
 refine aI.k ?_
 refine⟨_,(av (aK (i:=3) nV.nd rfl (Or.inl rfl) (dX ai))
  (av (tT (b6 (cx Dl (aO eW (aV nS (hr.mono (by decide)) (by rfl) (ab (pv 0) (ab aE ai))) aE) aE (cH _))
  (az (cG cF rfl (dF (aV xB (hr.mono (by decide)) (by rfl) (ab (pv 1) ai))) (bR (i:=4) nV.nd rfl (Or.inl rfl))
   (az (b6 (cx tM (aV mB (hr.mono (by decide)) (by rfl) (ab (pv 1) (ab (pv 4) ai))) (pv 3) rfl)
    (az (dM (fO jc jI jJ hX (pv 3) (ab (aV mB (hr.mono (by decide)) (by rfl) (ab (pv 1) (ab (pv 4) ai))) ai))))
    b9))))
  b9))
  (av (cG cF rfl (dF (m6 DB (pv 0) (lO (pv 2)) (lO aE))) (bR (i:=5) nV.nd rfl (Or.inl rfl))
  (av (aK (i:=6) nV.nd rfl (Or.inr rfl) gh)
   (av (aK (i:=7) nV.nd rfl (Or.inl rfl) (aO eW (aO jg (pv 5) aE) aE))
   (av (cG cF rfl (iN (by rfl) B.iW (ab (aO eD aE (aO eW (pv 5) aE)) ai)) (bR (i:=8) nV.nd rfl (Or.inl rfl))
   (av (aK (i:=6) nV.nd rfl (Or.inr rfl) (aO qP (pv 6) (aV Gm (hr.mono (by decide)) (by rfl) (ab (pv 0) (ab (pv 7) ai)))))
    (az (aK (i:=7) nV.nd rfl (Or.inl rfl) (aO eW (aO tG (aO eD (pv 7) aE) aE) aE)))))
   (az (b6 (PW.pt (vS (cx tM (pv 6) (pv 3) rfl) (vR (cx lJ (bP dY (by rfl) B.cq cn (ab (jl (js:=[6]) (ns:=["_law_word"]) (dF (pv 3)) rfl rfl rfl rfl (λ_ _ _ _=>(nv (cx oZ (bP g9 (by rfl) B.cq cn (ab (pv 0) ai)) (bP g9 (by rfl) B.cq cn (ab (pv 1) ai)) (cH _)))) (λ_ _ _ _=>(pv 0))) ai)) aE (cH _)))))
   (az (dM (fO jc jI jJ hX (pv 3) (ab (pv 6) ai))))
   b9))))))
  (az (aZ (pv 3)))))),?_⟩
 try dsimp only[bD]
 refine⟨bx _,λl hl=>?_⟩
 have s0:=af.upd (o:=HO.lst []) hl
 have xC:=uu s0
 revert s0 xC
 generalize upd H l (.lst [])=H0
 intro s0 xC
 refine⟨λσ H2=>∃(v4:Option V) (rs:List Str),σ=[some (.ref a),some (.ref b),some (.int k),some (.ref l),v4,none,none,none,none]/\af H H2/\H2 l=some (.lst (rs.map V.str))/\rs.Nodup/\(∀x∈rs,cz x=true)/\rs.length<=32,?_,?_⟩
 .intro σ H2 aa1
  refine hide λG_ aY=>?_
  obtain⟨v4,rs,rfl,sm,hL,cK,il,Oh⟩:=aa1
  refine aY.k ?_
  refine⟨_,rfl,_,rfl,_,rfl,_,rfl,a,_,rfl,sm.seq hS,λsl jt=>⟨sl,rfl,⟨_,aj.of au⟩,?_⟩⟩
  have iQ:=aaV ns (some (k:Int)) (some 63)
  revert iQ
  generalize kG (ns.map V.int) (some (k:Int)) (some 63)=cs
  intro iQ
  have ss:=af.upd (o:=HO.lst cs) jt
  have Gq:=uu ss
  have jv:=ss _ _ hL
  have fg:=sm.trans ss
  have nsl:sl≠l:=λz=>by rw[z,hL] at jt;cases jt
  revert Gq jv fg
  clear ss
  generalize upd H2 sl (.lst cs)=H3
  intro Gq jv fg
  refine ku (xs:=cs) (λi σ H2=>∃(v5 v6 v7 v8:Option V) (es:List Str),σ=[some (.ref a),some (.ref b),some (.int k),some (.ref l),v4,v5,v6,v7,v8]/\af H H2/\H2 sl=some (.lst cs)/\H2 l=some (.lst ((rs++es).map V.str))/\r8 rs es)
   ⟨none,none,none,none,[],rfl,fg,Gq,by rw[fX];exact jv,⟨Oh,by rw[fX];exact cK,by rw[fX];exact il,λ_ z=>absurd z fK,λ_=>bx _⟩⟩ ?_ ?_ ?_
  .rintro i σ H2 _ ⟨v5,v6,v7,v8,es,rfl,sm,uv,_⟩
   exact aj.of uv
  .intro i y σ H2 hi aa2
   refine hide λG_ bK=>?_
   obtain⟨v5,v6,v7,v8,es,rfl,sm,uv,hL,W⟩:=aa2
   obtain⟨c,rfl⟩:=iQ y (bo hi)
   have m1:=lB c (show(3:Int)≠0 by decide)
   have m2:=oJ c (show(0:Int)<3 by decide)
   obtain⟨r,hr3⟩:=qD m1
   refine bK.k ?_
   have er:2+c % 3=((2+r:Nat):Int):=by omega
   refine⟨_,rfl,_,_,rfl,rfl,⟨by decide,by decide⟩,_,_,rfl,rfl,(by show(0:Int)<2147483647;decide),?_⟩
   refine⟨_,rfl,_,_,rfl,rfl,(by show(0:Int)<3;decide),_,_,rfl,rfl,_,rfl,by omega,by omega,?_⟩
   rw[er,dH]
   refine jo (λj σ H3=>∃x z v8,σ=[some (.ref a),some (.ref b),some (.int k),some (.ref l),v4,some (.int c),some (.str x),some (.int z),v8]/\H3=H2/\x.length=j/\i3 x=true)
    ⟨Str.ofString "",_,v8,rfl,rfl,rfl,rfl⟩ ?_ ?_
   .intro j σ H3 hj aa3
    refine hide λG_ cE=>?_
    obtain⟨x,z,v8',rfl,rfl,hx,ig⟩:=aa3
    refine cE.k ?_
    refine⟨_,rfl,_,rfl,_,rfl,a,ns,z,rfl,sm.seq hS,λch c1 c2=>?_⟩
    refine⟨_,_,rfl,rfl,ZI (by rw[hx];show j+1<=10000;omega),?_⟩
    refine⟨_,rfl,_,_,rfl,rfl,_,_,rfl,rfl,.inr ⟨by decide,by decide⟩,_,_,rfl,rfl,(by show(0:Int)<2147483647;decide),?_⟩
    exact⟨_,_,_,rfl,rfl,by rw[Str.length_append,hx];rfl,aaT ig (aaU (N7 c1 c2))⟩
   .intro σ H3 aa4
    refine hide λG_ eB=>?_
    obtain⟨x,z,v8',rfl,rfl,hx,ig⟩:=aa4
    refine eB.k ?_
    have hwx:cz x=true:=N8 (by omega) (by omega) ig
    have d6:((rs++es).map V.str).all jT=true:=by rw[sP];exact iG.mpr λ_ _=>rfl
    have dm:=W.dm
    refine⟨_,rfl,_,rfl,l,_,rfl,.inl (aj.of hL),rfl,d6,_,rfl,eM (λh=>?_) (λh=>bf ⟨_,_,_,_,es,rfl,sm,uv,hL,W⟩)⟩
    have hn:x∉rs++es:=Gn (by simpa using h)
    refine⟨_,rfl,l,rfl,⟨_,aj.of hL⟩,?_⟩
    refine lR jn (by rw[ar];omega) (λj=>decide (((rs++es).getD j ⟨#[]⟩).length=x.length)) (λ_ j y _=>y = .str ((rs++es).getD j ⟨#[]⟩)) (λH6 s6=>aj.of (s6 _ _ hL)) (λ_ _ _ _ _ _ _ _ h=>h) ?_ ?_
    .intro D2 j v H6 Z0 Z ml hv s6 _ k0 k1
     rw[bb] at hv
     cases e:(rs++es)[j]? with
     |none=>rw[e] at hv;cases hv
     |some y=>
      rw[e] at hv
      cases hv
      rw[A7 e] at k0 k1
      have hy:=xn (W.wd y (bo e))
      refine⟨_,rfl,y,rfl,fP (by omega),_,rfl,x,rfl,fP (by omega),rfl,_,rfl,?_⟩
      rw[F7]
      refine eM (λh=>?_) (λh=>?_)
      .exact⟨_,rfl,k1 _ _ (af.cO _) h rfl⟩
      .exact k0 _ (af.cO _) (iJ.mpr h)
    .intro D2 zs H6 ml j3 s6 nR
     have e2:=A2 nR
     rw[ar,F6 V.str ⟨#[]⟩ (rs++es) λy=>decide (y.length=x.length)] at e2
     have Gr:=s6 _ _ hL
     have hz:zs.length=(i6 (rs++es) x.length).length:=by rw[e2,ar];rfl
     refine⟨D2,zs,rfl,.inl (aj.of j3),_,_,rfl,rfl,_,rfl,eM (λh5=>?_) (λ_=>⟨_,_,_,_,es,rfl,sm.trans s6,s6 _ _ uv,Gr,W⟩)⟩
     have h5:(zs.length:Int)<5:=eQ h5
     refine⟨_,rfl,.inl ⟨rfl,_,aj.of Gr⟩,_,rfl,l,_,_,rfl,rfl,Gr,A3 (by rw[ar];omega),?_⟩
     exact⟨_,_,_,_,es++[x],rfl,(sm.trans s6).jX hl,by rw[ak nsl];exact s6 _ _ uv,by rw[au];simp,W.more hn hwx (by omega) (by omega)⟩
  .intro σ H2 aa5
   refine hide λG_ kZ=>?_
   obtain⟨v5,v6,v7,v8,es,rfl,sm,uv,hL,W⟩:=aa5
   refine kZ.k ?_
   exact⟨_,rfl,q l rs es H2 hl sm hL W⟩
 .refine⟨_,rfl,a,ns,3,rfl,s0.seq hS,_,_,rfl,rfl,(by show(0:Int)<4;decide),_,_,rfl,rfl,_,rfl,eM (λ_=>?_) (λ_=>?_)⟩
  .refine⟨_,rfl,b,m,wd,rfl,s0.tup hT,S,λg xs H1 hg s1 hG hR=>⟨g,rfl,⟨_,aj.of hG⟩,?_⟩⟩
   have hlr:=hR.length
   have Oh:=aaZ m4 w4
   have Gs:=s1 _ _ xC
   have ngl:g≠l:=λz=>by rw[z,xC] at hg;cases hg
   have fg:=s0.trans s1
   refine ku (xs:=xs) (λi σ H2=>∃(v4:Option V) (rs:List Str),σ=[some (.ref a),some (.ref b),some (.int k),some (.ref l),v4,none,none,none,none]/\af H H2/\(∀c o,c≠l->H1 c=some o->H2 c=some o)/\H2 l=some (.lst (rs.map V.str))/\rs.Nodup/\(∀x∈rs,cz x=true)/\rs.length<=i)
    ⟨none,[],rfl,fg,λ_ _ _ h=>h,Gs,iF,λ_ z=>absurd z fK,aQ _⟩ ?_ ?_ ?_
   .rintro i σ H2 _ ⟨v4,rs,rfl,sm,kp,_⟩
    exact aj.of (kp _ _ ngl hG)
   .intro i x σ H2 hx aa6
    refine hide λG_ k4=>?_
    obtain⟨v4,rs,rfl,sm,kp,hL,cK,il,hle⟩:=aa6
    have hil:=(bZ.mp hx).1
    obtain⟨r,fU,p,ys,rfl,_,hp,hc⟩:=Paired.get hR hx
    have mr:=bo fU
    obtain⟨r2,r9,bu⟩:=i5 S mr
    refine k4.k ?_
    have ib:=hc.length
    have npl:p≠l:=λz=>by
     rw[z,Gs] at hp
     injection hp with hp
     injection hp with hp
     rw[<-hp] at ib
     have ib:r.length=0:=ib
     omega
    have fE:=kp _ _ npl hp
    have qT:br H2 r ys:=br.off ⟨_,Gs⟩ kp hc
    have d6:(rs.map V.str).all jT=true:=by rw[sP];exact iG.mpr λ_ _=>rfl
    refine⟨_,rfl,_,rfl,b,p,m,wd,r,ys,rfl,sm.tup hT,S,fE,qT,by omega,λc mc=>⟨(bu c mc).1,(bu c mc).2.1⟩,λH3 s3=>?_⟩
    have iZ:=s3 _ _ hL
    refine⟨_,rfl,l,_,rfl,.inl (aj.of iZ),rfl,d6,_,rfl,eM (λh=>?_) (λh=>?_)⟩
    .have hn:ao m r∉rs:=Gn (by simpa using h)
     refine⟨_,rfl,.inl ⟨rfl,_,aj.of iZ⟩,_,rfl,_,rfl,b,p,m,wd,r,ys,rfl,(sm.trans s3).tup hT,S,s3 _ _ fE,qT.mono s3,by omega,λc mc=>⟨(bu c mc).1,(bu c mc).2.1⟩,λH4 s4=>?_⟩
     have Oi:=s3.trans s4
     refine⟨l,_,_,rfl,rfl,s4 _ _ iZ,A3 (by rw[ar];omega),?_⟩
     refine⟨_,rs++[ao m r],rfl,(sm.trans Oi).jX hl,λc o hc h=>by rw[ak hc];exact Oi _ _ (kp c o hc h),by rw[au,dW];rfl,Oe cK hn,λy my=>?_,by rw[cQ];show _+1<=_;omega⟩
     rcases dh.mp my with z | z
     .exact il y z
     .rw[cg.mp z];exact aaY S L mr
    .exact⟨_,rs,rfl,sm.trans s3,λc o hc h=>s3 _ _ (kp c o hc h),iZ,cK,il,by omega⟩
   .intro σ H2 aa7
    refine hide λG_ xD=>?_
    obtain⟨v4,rs,rfl,sm,kp,hL,cK,il,hle⟩:=aa7
    refine xD.k ?_
    exact⟨v4,rs,rfl,sm,hL,cK,il,by omega⟩
  .exact⟨none,[],rfl,s0,xC,iF,λ_ z=>absurd z fK,bx _⟩
end
noncomputable def ah(rs:List (List C2))(i:Nat):List C2:=rs.getD i []
noncomputable def nW(l:List Str)(rs:List (List C2))(pl:Nat):List Str:=((List.range rs.length).filter λi=>!decide (i=pl)).map λi=>ao l (ah rs i)
noncomputable def dg(l:List Str)(rs:List (List C2))(pl:Nat)(ks:List Str):List Str:=(cC (ks.filter λx=>cA x (ao l (ah rs pl)))).filter λx=>!decide (x∈nW l rs pl)
theorem uw(l:List Str)(w:Nat):(aD l w).length=(dw l w).length:=by rw[rX,ar]
theorem Oj(i j:Nat):decide (V.int (i:Int)=V.int (j:Int))=decide (i=j):=by
 rw[N3]
 by_cases h:i=j
 .rw[aG h,aG (by omega)]
 .rw[aF h,aF (by omega)]
theorem Gu(x:Str)(ps:List Str):iP (.str x) (ps.map V.str)=decide (x∈ps):=by
 by_cases h:x∈ps
 .rw[aG h]
  cases e:iP (.str x) (ps.map V.str) with
  |true=>rfl
  |false=>exact absurd h (Gn e)
 .rw[aF h]
  unfold iP
  rw[List.any_map,Jl]
  intro y hy e
  have e:gF (.str x) (.str y)=true\/gF (.str y) (.str x)=true := .inr e
  have:x=y:=by rcases e with e | e <;> simp[gF] at e <;> simp[e]
  exact h (this ▸ hy)
theorem aa8(l:List Str)(p:Str->Bool):cC (l.filter p)=(cC l).filter p:=zY ((ic l).filter p) ((Em l).filter p)
noncomputable def xE(l:List Str)(rs:List (List C2))(pl j:Nat):Bool := !decide (j=pl) && !decide (46∈(ao l (ah rs j)).cps.toList)
noncomputable def gO(l:List Str)(rs:List (List C2))(pl i:Nat):List Str:=((List.range i).filter (xE l rs pl)).map λj=>ao l (ah rs j)
theorem aa9(l:List Str)(rs:List (List C2))(pl i:Nat):gO l rs pl (i+1)=gO l rs pl i++if xE l rs pl i=true then [ao l (ah rs i)] else []:=by
 unfold gO
 rw[jG,jH,dW,cR,oC]
 cases xE l rs pl i <;> rfl
theorem aba{l:List Str}{rs:List (List C2)}{pl:Nat}{x:Str}(hx:46∉x.cps.toList):x∈gO l rs pl rs.length↔x∈nW l rs pl:=by
 unfold gO nW xE
 constructor
 .intro h
  obtain⟨j,hj,e⟩:=bt.mp h
  have hj:=bQ.mp hj
  rw[dI] at hj
  exact bt.mpr ⟨j,bQ.mpr ⟨hj.1,hj.2.1⟩,e⟩
 .intro h
  obtain⟨j,hj,e⟩:=bt.mp h
  have hj:=bQ.mp hj
  refine bt.mpr ⟨j,bQ.mpr ⟨hj.1,?_⟩,e⟩
  rw[hj.2,e,aF hx]
  rfl
theorem abb{x:Str}(h:cz x=true):46∉x.cps.toList:=λm=>by
 unfold cz at h
 simp only[dI] at h
 have:=h.2.2
 unfold i3 at this
 have:=eQ (iG.mp this 46 m)
 rw[Ay] at this
 obtain⟨k,_,e⟩:=bt.mp this
 omega
noncomputable def jA(l:List Str)(rs:List (List C2))(pl:Nat)(x:Str):Bool:=cA x (ao l (ah rs pl)) && !decide (x∈gO l rs pl rs.length)
theorem abc{l:List Str}{rs:List (List C2)}{pl:Nat}{ws:List Str}(h:∀x∈ws,cz x=true):dg l rs pl ws=cC (ws.filter (jA l rs pl)):=by
 unfold dg
 rw[<-aa8,List.filter_filter]
 congr 1
 apply JO
 intro x mx
 unfold jA
 have:=aba (l:=l) (rs:=rs) (pl:=pl) (abb (h x mx))
 rw[Bool.and_comm]
 congr 2
 by_cases z:x∈nW l rs pl
 .rw[aG z,aG (this.mpr z)]
 .rw[aF z,aF (λy=>z (this.mp y))]
theorem abd{α:Type}{ws:List α}{i:Nat}{x:α}(hx:ws[i]? = some x)(f:α->Bool):(ws.take (i+1)).filter f=(ws.take i).filter f++if f x=true then [x] else []:=by
 rw[fL,hx,jH]
 show _++[x].filter f=_
 rw[cR,oC]
noncomputable def ux(x t:Str)(i:Nat):Bool := !kX (x.cps.toList.getD i 0) (t.cps.toList.getD i 0)
theorem abe{x t:Str}(h:x.length=t.length):cA x t=decide ((List.range t.length).filter (ux x t)=[]):=by
 unfold cA
 rw[aG h,sW,h]
 by_cases z:(List.range t.length).filter (ux x t)=[]
 .rw[aG z,iG]
  intro i mi
  have:=List.filter_eq_nil_iff.mp z i mi
  unfold ux at this
  simpa using this
 .rw[aF z,iJ]
  intro y
  refine z (List.filter_eq_nil_iff.mpr λi mi=>?_)
  have:=iG.mp y i mi
  unfold ux
  rw[this]
  decide
theorem Ol(K:PySem.W.Frag)(H:Hp):∀is:List Nat,dC K H (is.map λ(i:Nat)=>D.int (0+(i:Int))) (is.map λ(i:Nat)=>V.int (0+(i:Int)))
 |[]=>rfl
 |i::r=>⟨.int (0+(i:Int)),r.map λ(i:Nat)=>V.int (0+(i:Int)),rfl,rfl,Ol K H r⟩
theorem abf(is:List Nat):dep (.lst (is.map λ(i:Nat)=>D.int (0+(i:Int))))<=50:=by
 have:eZ (is.map λ(i:Nat)=>D.int (0+(i:Int)))=0:=by
  induction is with
  |nil=>rfl
  |cons x r ih=>rw[bL,eZ,ih];rfl
 rw[dep,this]
 decide
theorem abg(is:List Nat):d7 (.lst (is.map λ(i:Nat)=>D.int (0+(i:Int)))) (.lst [])=decide (is=[]):=by
 cases is <;> rfl
theorem abh(c d:Nat):decide ((⟨#[d]⟩:Str)∈[(".":Str),⟨#[c]⟩])=kX c d:=by
 rw[NK]
 unfold kX
 have e:∀a b:Nat,((⟨#[a]⟩:Str)=⟨#[b]⟩)↔a=b:=λa b=>⟨λz=>(yE (show [a]=[b] from dU (λy:Str=>y.cps.toList) z)).1,λz=>by rw[z]⟩
 rw[<-Bool.decide_or]
 congr 1
 rw[bX,cg,e,e]
theorem abi{n i:Nat}{v:V}(h:((List.range n).map λ(i:Nat)=>V.int (0+(i:Int)))[i]? = some v):i<n/\v = .int (0+(i:Int)):=by
 rw[bb] at h
 cases e:(List.range n)[i]? with
 |none=>rw[e] at h;cases h
 |some j=>
  obtain⟨hi,Oo⟩:=bZ.mp e
  rw[iH] at hi
  rw[List.getElem_range] at Oo
  subst Oo
  rw[e] at h
  cases h
  exact⟨hi,rfl⟩
noncomputable def gQ(l:List Str)(w:Nat):List Str:=(aD l w).map (ao l)
noncomputable def j4(l:List Str):Bool:=l.any λx=>decide (46∈x.cps.toList)
noncomputable def fH(ks:List Str)(l:List Str)(w:Nat):Bool := !j4 l&&(decide (gQ l w).Nodup&&(gQ l w).all λx=>decide (x∈ks))
theorem Ot{h w:Nat}{c:C2}(h1:c.1<h)(h2:c.2<w):c∈cells h w:=bo (wY (w:=w) h1 h2)
theorem Gv{kvs:List (Key×V)}(t:iS kvs)(x:Str):(aL kvs (Sum.inr x:Key)).isSome=decide (x∈aP kvs):=by
 cases e:aL kvs (Sum.inr x:Key) with
 |none=>
  refine(aF λm=>DW e ?_).symm
  unfold aP at m
  obtain⟨q,hq,eq⟩:=bt.mp m
  obtain⟨y,ey⟩:=t q hq
  rw[ey] at eq
  have eq:y=x:=eq
  exact bt.mpr ⟨q,hq,by rw[ey,eq]⟩
 |some v=>
  refine(aG ?_).symm
  obtain⟨q,hq,e1⟩:=bt.mp (Lh e)
  unfold aP
  exact bt.mpr ⟨q,hq,by rw[e1]⟩
theorem abj{kvs:List (Key×V)}{x:Str}(v:V)(e:aL kvs (Sum.inr x:Key)=none):aP (putK kvs (Sum.inr x) v)=aP kvs++[x]:=by
 rw[tO v e]
 unfold aP
 rw[dW]
 rfl
theorem abk{kvs:List (Key×V)}{x:Str}(n:x∉aP kvs):aL kvs (Sum.inr x:Key)=none:=by
 cases e:aL kvs (Sum.inr x:Key) with
 |none=>rfl
 |some v=>
  refine absurd ?_ n
  have m:=Lh e
  obtain⟨q,hq,e1⟩:=bt.mp m
  unfold aP
  exact bt.mpr ⟨q,hq,by rw[e1]⟩
theorem uy(kvs:List (Key×V)):(aP kvs).length=kvs.length:=by unfold aP;rw[ar]
theorem Be{ks l:List Str}{w:Nat}(h1:j4 l=false)(h2:(gQ l w).Nodup)(h3:∀x∈gQ l w,x∈ks):fH ks l w=true:=by
 unfold fH
 rw[h1,aG h2,iG.mpr λx m=>aG (h3 x m)]
 rfl
theorem xF{ks l:List Str}{w:Nat}(h:fH ks l w=true):j4 l=false/\(gQ l w).Nodup/\∀x∈gQ l w,x∈ks:=by
 unfold fH at h
 rw[dI,dI] at h
 exact⟨by simpa using h.1,eQ h.2.1,λx m=>eQ (iG.mp h.2.2 x m)⟩
def sd(kvs:List (Key×V)):Prop := ∀q∈kvs,∃n,q.2=V.int n
noncomputable def uz(kvs:List (Key×V))(x:Str):Int:=match aL kvs (Sum.inr x:Key) with | some (.int n)=>n | _=>0
theorem abl{kvs:List (Key×V)}{k:Key}{v:V}(h:aL kvs k=some v):∃q∈kvs,q.1=k/\q.2=v:=by
 unfold aL at h
 cases e:kvs.find? (λkv=>decide (kv.1=k)) with
 |none=>rw[e] at h;cases h
 |some q=>
  rw[e] at h
  exact⟨q,List.mem_of_find?_eq_some e,eQ (by simpa using List.find?_some e),c9 h⟩
theorem abm{kvs:List (Key×V)}{x:Str}(t:iS kvs)(hi:sd kvs)(m:x∈aP kvs):aL kvs (Sum.inr x:Key)=some (.int (uz kvs x)):=by
 have:=Gv t x
 rw[aG m] at this
 cases e:aL kvs (Sum.inr x:Key) with
 |none=>rw[e] at this;cases this
 |some v=>
  obtain⟨q,hq,_,e2⟩:=abl e
  obtain⟨n,en⟩:=hi q hq
  have ev:v = .int n:=by rw[<-e2,en]
  unfold uz
  rw[e,ev]
section
variable{P:Program}{w:World}{K:PySem.W.Frag}{mg:Str->Option Value}{base:Heap}{f:Addr}{fd:FuncData}
def Ou(K:PySem.W.Frag):Sp:=λvs H Q _=>∃(ww g a:Addr) (ws:List Str) (l:List Str) (w pl:Nat) (zs:List V),vs=[.ref ww,.ref g,.ref a,.int pl]/\H ww=some (.lst (ws.map V.str))/\ws.length<64/\(∀x∈ws,cz x=true)/\aw K H a (l.map V.str)/\ba l w/\H g=some (.lst zs)/\fG g H (aD l w) zs/\pl<(aD l w).length/\
 ∀t H',H t=none->af H H'->H' t=some (.lst ((dg l (aD l w) pl ws).map V.str))->Q (.ref t) H'
theorem pW:bc ["_law_words_here","_law_rows_here","_law_sheet","_law_place","_law_text_here","_law_taken","_law_k","_law_other","_law_found","_law_word","_law_wrong"] ["_law_words_here","_law_rows_here","_law_sheet","_law_place"] (aS (top 65)):={}
theorem abn(B:Bl mg)(F:aW K "_law_left" "_law_left" (top 65) f fd)(mB:Fn P w K mg base "_law_text" 1 (xu K)):aM P w K mg base aR 2 f fd ["_law_words_here","_law_rows_here","_law_sheet","_law_place"] (Ou K):=by
 refine F.bG pW λaH A outer s H vs Q E hr h=>?_
 refine hide λG_ aI=>?_
 obtain⟨ww,g,a,ws,l,wd,pl,zs,rfl,hW,eN,il,hT,S,hG,hR,hpl,q⟩:=h
 refine aI.k ?_
 have hu:=hr.units
 refine⟨_,(av (aK (i:=4) pW.nd rfl (Or.inr rfl) (aV mB (hr.mono (by decide)) (by rfl) (ab (pv 2) (ab (aX fN (pv 1) (pv 3) (λ_ _=>rfl)) ai))))
  (av (aK (i:=5) pW.nd rfl (Or.inl rfl) (dX ai))
  (av (cG cF rfl (iN (by rfl) B.iW (ab (bP dY (by rfl) B.cq cn (ab (pv 1) ai)) ai)) (bR (i:=6) pW.nd rfl (Or.inl rfl))
  (av (aK (i:=7) pW.nd rfl (Or.inl rfl) (aV mB (hr.mono (by decide)) (by rfl) (ab (pv 2) (ab (aX fN (pv 1) (pv 6) (λ_ _=>rfl)) ai))))
   (az (b6 (PW.pt (vS (cx mW (pv 6) (pv 3) (cH _)) (vR (cx Tj gh (pv 7) rfl))))
   (az (dM (fO jc jI jJ hX (pv 5) (ab (pv 7) ai))))
   b9))))
  (av (aK (i:=8) pW.nd rfl (Or.inl rfl) (dX ai))
  (av (cG cF rfl (dF (pv 0)) (bR (i:=9) pW.nd rfl (Or.inr rfl))
  (az (b6 (PW.pt (vS (cx oZ (bP g9 (by rfl) B.cq cn (ab (pv 9) ai)) (bP g9 (by rfl) B.cq cn (ab (pv 4) ai)) (cH _)) (vR (cx tM (pv 9) (pv 5) rfl))))
   (av (wy (i:=10) pW.nd rfl (Or.inl rfl) (js:=[4,9]) (ns:=["_law_text_here","_law_word"]) (iN (by rfl) B.iW (ab (bP g9 (by rfl) B.cq cn (ab (pv 4) ai)) ai)) rfl rfl rfl rfl (λ_ _ _ _=>(nv (El (K:=K) (rr:=λK=>zt K true) rfl tM (aX jS (pv 1) (pv 0) (λ_ _=>rfl)) (dX (ab gh (ab (aX jS (pv 2) (pv 0) (λ_ _=>rfl)) ai))) rfl))) (λ_ _ _ _=>(pv 0)))
    (az (b6 (cx (Ed hu) (pv 10) (dX ai) (cH _))
    (az (dM (fO jc jI jJ hX (pv 8) (ab (pv 9) ai))))
    b9)))
   b9)))
  (az (aZ (bP LP (by rfl) B.AE zS (ab (pv 8) ai))))))))),?_⟩
 try dsimp only[bD]
 have Gw:=hR.length
 have j5:=rQ S
 rw[<-uw] at j5
 rw[abc il] at q
 refine hide λG_ aY=>?_
 obtain⟨v0,Ov⟩:∃v,zs[pl]? = some v:=⟨_,aU (by omega)⟩
 obtain⟨r0,hr0,p0,xG,rfl,_,fS,iQ⟩:=Paired.get hR Ov
 refine aY.k ?_
 have se:=i5 S (bo hr0)
 have e0:ah (aD l wd) pl=r0:=bS hr0
 refine⟨_,rfl,_,rfl,_,rfl,g,_,_,.ref p0,rfl,rfl,aj.of hG,dz Ov,a,p0,l,wd,r0,xG,rfl,hT,S,fS,iQ,by omega,λc hc=>⟨(se.2.2 c hc).1,(se.2.2 c hc).2.1⟩,λH1 s1=>?_⟩
 rw[<-e0]
 have Ax:(ao l (ah (aD l wd) pl)).length<=9:=by rw[e0,eJ];exact se.2.1
 refine⟨bx _,λtk gj=>?_⟩
 have abo:=s1.free gj
 have fg:=s1.trans (af.upd (o:=HO.lst []) gj)
 have Gx:=uu (af.upd (o:=HO.lst []) gj)
 revert fg Gx
 generalize upd H1 tk (.lst [])=H2
 intro fg Gx
 refine⟨_,rfl,g,_,rfl,.inl (aj.of (fg _ _ hG)),_,rfl,by omega,by omega,?_⟩
 rw[dH,<-Gw]
 refine jo (λi σ H2=>∃(v6 v7:Option V),σ=[some (.ref ww),some (.ref g),some (.ref a),some (.int pl),some (.str (ao l (ah (aD l wd) pl))),some (.ref tk),v6,v7,none,none,none]/\af H H2/\H2 tk=some (.lst ((gO l (aD l wd) pl i).map V.str)))
  ⟨none,none,rfl,fg,Gx⟩ ?_ ?_
 .intro i σ H3 hi abp
  refine hide λG_ bK=>?_
  obtain⟨v6,v7,rfl,sm,Bf⟩:=abp
  obtain⟨v,hv⟩:∃v,zs[i]? = some v:=⟨_,aU (by omega)⟩
  obtain⟨r,fU,p,ys,rfl,_,hp,hc⟩:=Paired.get hR hv
  refine bK.k ?_
  have bu:=i5 S (bo fU)
  have er:ah (aD l wd) i=r:=bS fU
  refine⟨_,rfl,_,rfl,_,rfl,g,_,_,.ref p,rfl,rfl,aj.of (sm _ _ hG),dz hv,a,p,l,wd,r,ys,rfl,sm.tup hT,S,sm _ _ hp,hc.mono sm,by omega,λc hc=>⟨(bu.2.2 c hc).1,(bu.2.2 c hc).2.1⟩,λH4 s4=>?_⟩
  have dQ:=sm.trans s4
  have Bg:=s4 _ _ Bf
  have ef:(!(Builtin.Str.occurrences (ao l r) (Str.ofString ".") 0 (ao l r).length 1).isEmpty)=decide (46∈(ao l r).cps.toList):=by
   rw[AK]
   exact JN (ao l r) 46
  have et:=aa9 l (aD l wd) pl i
  unfold xE at et
  rw[er] at et
  refine⟨_,rfl,_,rfl,rfl,_,rfl,?_⟩
  rw[Oj]
  by_cases Ow:i=pl
  .rw[aG Ow] at et ⊢
   refine bf (bf ⟨_,_,rfl,dQ,?_⟩)
   rw[et]
   show H4 tk=some (.lst ((gO l (aD l wd) pl i++[]).map V.str))
   rw[fX]
   exact Bg
  .rw[aF Ow] at et ⊢
   refine bz ⟨_,rfl,_,_,rfl,rfl,_,rfl,?_⟩
   rw[ef]
   by_cases cY:46∈(ao l r).cps.toList
   .rw[aG cY] at et ⊢
    refine bf ⟨_,_,rfl,dQ,?_⟩
    rw[et]
    show H4 tk=some (.lst ((gO l (aD l wd) pl i++[]).map V.str))
    rw[fX]
    exact Bg
   .rw[aF cY] at et ⊢
    have ib:(gO l (aD l wd) pl i).length<=i:=by
     unfold gO
     rw[ar]
     exact bA (gD _ _) (by rw[iH];exact aQ _)
    refine bz ⟨_,rfl,.inl ⟨rfl,_,aj.of Bg⟩,_,rfl,tk,_,_,rfl,rfl,Bg,A3 (by rw[ar];omega),?_⟩
    refine⟨_,_,rfl,dQ.jX abo,?_⟩
    rw[au,et]
    show _=some (HO.lst ((gO l (aD l wd) pl i++[ao l r]).map V.str))
    rw[dW]
    rfl
 .rintro σ H3 ⟨v6,v7,rfl,sm,Bf⟩
  refine⟨bx _,λfo dk=>?_⟩
  have abq:=sm.free dk
  have nft:fo≠tk:=λz=>by rw[z,Bf] at dk;cases dk
  have Bh:=sm.trans (af.upd (o:=HO.lst []) dk)
  have Gy:=(af.upd (o:=HO.lst []) dk) _ _ Bf
  have nX:=uu (af.upd (o:=HO.lst []) dk)
  revert Bh Gy nX
  generalize upd H3 fo (.lst [])=H4
  intro Bh Gy nX
  have d6:((gO l (aD l wd) pl (aD l wd).length).map V.str).all jT=true:=by rw[sP];exact iG.mpr λ_ _=>rfl
  refine⟨_,rfl,ww,rfl,⟨_,aj.of (Bh _ _ hW)⟩,?_⟩
  refine ku (xs:=ws.map V.str) (λi σ H2=>∃(v9 v10:Option V),σ=[some (.ref ww),some (.ref g),some (.ref a),some (.int pl),some (.str (ao l (ah (aD l wd) pl))),some (.ref tk),v6,v7,some (.ref fo),v9,v10]/\af H H2/\H2 tk=some (.lst ((gO l (aD l wd) pl (aD l wd).length).map V.str))/\H2 fo=some (.lst (((ws.take i).filter (jA l (aD l wd) pl)).map V.str)))
   ⟨none,none,rfl,Bh,Gy,nX⟩ (λi σ H2 _ ⟨_,_,_,sm',_⟩=>aj.of (sm' _ _ hW)) ?_ ?_
  .intro i y σ H5 hy abr
   refine hide λG_ cE=>?_
   obtain⟨v9,v10,rfl,ik,Bi,sf⟩:=abr
   refine cE.k ?_
   rw[bb] at hy
   cases e:ws[i]? with
   |none=>rw[e] at hy;cases hy
   |some x=>
    rw[e] at hy
    cases hy
    have hi:=(bZ.mp e).1
    have fF:=xn (il x (bo e))
    have ek:=abd e (jA l (aD l wd) pl)
    have same:∀H6 v10,af H5 H6->jA l (aD l wd) pl x=false->∃(v9 abt:Option V),[some (.ref ww),some (.ref g),some (.ref a),some (.int pl),some (.str (ao l (ah (aD l wd) pl))),some (.ref tk),v6,v7,some (.ref fo),some (V.str x),v10]=[some (.ref ww),some (.ref g),some (.ref a),some (.int pl),some (.str (ao l (ah (aD l wd) pl))),some (.ref tk),v6,v7,some (.ref fo),v9,abt]/\af H H6/\H6 tk=some (.lst ((gO l (aD l wd) pl (aD l wd).length).map V.str))/\H6 fo=some (.lst (((ws.take (i+1)).filter (jA l (aD l wd) pl)).map V.str)):=λH6 v10 s6 hb=>by
     refine⟨_,_,rfl,ik.trans s6,s6 _ _ Bi,?_⟩
     rw[ek,hb,aq bW,fX]
     exact s6 _ _ sf
    refine⟨_,rfl,x,rfl,fP (by omega),_,rfl,_,rfl,fP (by omega),rfl,_,rfl,?_⟩
    rw[F7]
    by_cases hl:x.length=(ao l (ah (aD l wd) pl)).length
    .rw[aG hl]
     refine bz ⟨_,rfl,_,rfl,tk,_,rfl,.inl (aj.of Bi),rfl,d6,_,rfl,?_⟩
     rw[Gu,ax rfl]
     by_cases hm:x∈gO l (aD l wd) pl (aD l wd).length
     .rw[aG hm]
      exact bf (same H5 _ (af.cO _) (by unfold jA;rw[aG hm];simp))
     .rw[aF hm]
      refine bz ⟨_,rfl,_,rfl,fP (by omega),_,rfl,by omega,by omega,?_⟩
      rw[dH]
      generalize pX:ao l (ah (aD l wd) pl)=tx at *
      refine lR VT (by rw[ar,iH];omega) (ux x tx) (λ_ i y _=>y = .int (0+(i:Int))) (λ_ _=>trivial) (λ_ _ _ _ _ _ _ _ h=>h) ?_ ?_
      .intro D2 j v H6 Z0 Z ml hv s6 _ k0 k1
       obtain⟨hj,rfl⟩:=abi hv
       have F8:x.cps.toList[j]? = some (x.cps.toList.getD j 0):=by
        rw[bM,aU (by rw[b8];omega)]
        rfl
       have Aw:tx.cps.toList[j]? = some (tx.cps.toList.getD j 0):=by
        rw[bM,aU (by rw[b8];omega)]
        rfl
       have a1:jk x.cps.toList (0+(j:Int))=some (x.cps.toList.getD j 0):=by rw[Int.zero_add];exact dz F8
       have a2:jk tx.cps.toList (0+(j:Int))=some (tx.cps.toList.getD j 0):=by rw[Int.zero_add];exact dz Aw
       refine⟨_,rfl,_,rfl,tx,_,_,rfl,rfl,fP (by omega),a2,_,rfl,_,rfl,x,_,_,rfl,rfl,fP (by omega),a1,(by show 2<=sizeLine;decide),λlp t9=>?_⟩
       refine⟨lp,_,rfl,.inl (aj.of au),rfl,rfl,_,rfl,?_⟩
       have ei:iP (.str ⟨#[tx.cps.toList.getD j 0]⟩) [V.str (Str.ofString "."),V.str ⟨#[x.cps.toList.getD j 0]⟩]=kX (x.cps.toList.getD j 0) (tx.cps.toList.getD j 0):=by
        rw[<-abh]
        exact Gu _ [(".":Str),⟨#[x.cps.toList.getD j 0]⟩]
       rw[ei,ax rfl]
       refine eM (λh=>?_) (λh=>?_)
       .exact⟨_,rfl,k1 _ _ (af.upd t9) h rfl⟩
       .exact k0 _ (af.upd t9) (iJ.mpr h)
      .intro D2 ys H6 ml j3 s6 nR
       have e2:=pQ nR
       rw[ar,iH] at e2
       rw[e2] at j3
       refine⟨_,rfl,bx _,λen Bj=>?_⟩
       have sE:=s6.trans (af.upd (o:=HO.lst []) Bj)
       refine⟨.lst (((List.range tx.length).filter (ux x tx)).map λ(i:Nat)=>D.int (0+(i:Int))),.lst [],⟨D2,_,rfl,aj.of ((af.upd Bj) _ _ j3),Ol _ _ _⟩,⟨en,_,rfl,aj.of au,rfl⟩,.inr ⟨_,_,rfl,rfl⟩,abf _,_,rfl,?_⟩
       rw[abg,<-abe hl]
       refine eM (λh=>?_) (λh=>?_)
       .have h:cA x tx=true:=by simpa using h
        have hb:jA l (aD l wd) pl x=true:=by
         unfold jA
         rw[pX,h,aF hm]
         rfl
        have uA:=sE _ _ sf
        have:=gD (jA l (aD l wd) pl) (ws.take i)
        have:=List.length_take_le i ws
        refine⟨_,rfl,.inl ⟨rfl,_,aj.of uA⟩,_,rfl,fo,_,_,rfl,rfl,uA,A3 (by rw[ar];omega),?_⟩
        refine⟨_,_,rfl,(ik.trans sE).jX abq,by rw[ak (bj nft)];exact sE _ _ Bi,?_⟩
        rw[au,ek,hb,ax rfl,dW]
        rfl
       .have h:cA x tx=false:=by simpa using h
        exact same _ _ sE (by unfold jA;rw[pX,h];rfl)
    .rw[aF hl]
     exact bf (bf (same H5 _ (af.cO _) (by unfold jA cA;rw[aF hl];rfl)))
  .intro σ H5 abu
   refine hide λG_ eB=>?_
   obtain⟨v9,v10,rfl,ik,Bi,sf⟩:=abu
   refine eB.k ?_
   rw[ar,fw (aQ _)] at sf
   have:=gD (jA l (aD l wd) pl) ws
   exact⟨_,rfl,fo,_,rfl,aj.of sf,by omega,λt ht=>q t _ (ik.free ht) (ik.trans (af.upd ht)) au⟩
end
open PySem.StrLaws PySem.Builtin.Str in
theorem Gz(x:Str)(c:Nat):∀(k i free:Nat) (found:Array Nat),i+k=x.length+1->free<=i->i<=x.length+1->found.size=(x.cps.toList.take i).count c->(forIn (List.range' i k) (found,free) (occBody x ⟨#[c]⟩ x.length (x.length+1))).run.fst.toList.length=x.cps.toList.count c
 |0,i,free,found,h,hf,hi,hs=>by
  show found.toList.length=_
  rw[fm,hs,fw]
  rw[b8]
  omega
 |k+1,i,free,found,h,hf,hi,hs=>by
  rw[List.range'_succ,Ju]
  unfold occBody
  have ib:(x.cps.toList.take i).count c<=i:=bA List.count_le_length (by rw[jF];omega)
  by_cases hc:x.cps.toList[i]? = some c
  .obtain⟨c1,c2⟩:=(subAt_one x c i).mpr hc
   have c1':i+1<=x.length:=c1
   rw[ax ⟨⟨⟨by show found.size<_;omega,hf⟩,c1⟩,c2⟩]
   refine Gz x c k (i+1) (i+1) (found.push i) (by omega) (aQ _) (by omega) ?_
   rw[JF,hs,fL,hc,JP]
   simp
  .rw[aq (λz=>hc ((subAt_one x c i).mp ⟨z.1.2,z.2⟩))]
   refine Gz x c k (i+1) free found (by omega) (by omega) (by omega) ?_
   rw[hs,fL,JP]
   cases e:x.cps.toList[i]? with
   |none=>simp
   |some d=>
    have:d≠c:=λz=>hc (by rw[e,z])
    simp[this]
open PySem.StrLaws in
theorem abv(x:Str)(c:Nat):Txt.count x ⟨#[c]⟩=((x.cps.toList.count c:Nat):Int):=by
 unfold Txt.count
 rw[occ_eq]
 congr 1
 exact Gz x c (x.length+1) 0 0 #[] (by omega) (aQ _) (bx _) rfl
theorem abw(x:List Nat)(w:Nat)(h:x.length=w):((List.range w).filter λj=>!decide (x.getD j 0=35)).length+x.count 35=w:=by
 subst h
 induction x with
 |nil=>rfl
 |cons a r ih=>
  rw[c5,Jw,cR,sQ,JQ]
  have e:((λj=>!decide ((a::r).getD j 0=35))∘Nat.succ)=λj=>!decide (r.getD j 0=35):=by funext j;rfl
  rw[e]
  by_cases z:a=35
  .subst z
   simp only[List.getD_cons_zero,decide_true,vH,fu,eK,ar,CQ,fY]
   omega
  .have:¬(a==35)=true:=by simpa using z
   rw[aq this]
   simp only[List.getD_cons_zero,aF z,JG,fY,c5,ar]
   omega
theorem Ox(l:List Str)(w:Nat):∀n,((cells n w).filter (bJ l)).length=((List.range n).map λi=>((List.range w).filter λj=>!decide ((l.getD i ⟨#[]⟩).cps.toList.getD j 0=35)).length).sum
 |0=>rfl
 |n+1=>by
  rw[Ff,jH,cQ,Ox l w n,jG,dW,CV,sQ,ar]
  simp only[bL,vA,fM,List.sum_nil,C3]
  rfl
theorem Oy:∀l:List Nat,((l.sum:Nat):Int)=(l.map λ(n:Nat)=>(n:Int)).sum
 |[]=>rfl
 |a::r=>by rw[fM,bL,fM,<-Oy r];simp
theorem abx{α β:Type}(g:α->β)(d:α)(l:List α):(List.range l.length).map (λi=>g (l.getD i d))=l.map g:=rR g d l
theorem aby{l:List Str}{w:Nat}(S:ba l w):((bH l w).length:Int)=(nT l).sum:=by
 unfold bH nT
 rw[Ox,abx (λx:Str=>((List.range w).filter λj=>!decide (x.cps.toList.getD j 0=35)).length),Oy,iK]
 congr 1
 refine JR λx mx=>?_
 have hl:=S.len x mx
 have e:=abw x.cps.toList w (by rw[b8];exact hl)
 have e2:Txt.count x "#"=((x.cps.toList.count 35:Nat):Int):=by rw[<-abv,<-rM]
 show((((List.range w).filter λj=>!decide (x.cps.toList.getD j 0=35)).length:Nat):Int)=(x.length:Int) - Txt.count x "#"
 rw[e2,hl]
 omega
theorem Oz{cs:List C2}(nd:cs.Nodup):∀{r:List C2},(∀c∈r,c∈cs)->(cs.map λc=>r.count c).sum=r.length
 |[],_=>by
  rw[uh]
  .rfl
  .intro y my
   obtain⟨c,_,rfl⟩:=bt.mp my
   rfl
 |a::r,h=>by
  have ih:=Oz nd (r:=r) λc m=>h c (bF _ m)
  have e:∀xs:List C2,(xs.map λc=>(a::r).count c).sum=(xs.map λc=>r.count c).sum+xs.count a:=by
   intro xs
   induction xs with
   |nil=>rfl
   |cons x t GA=>
    rw[bL,fM,GA,bL,fM,JQ,JQ]
    by_cases z:a=x
    .subst z
     simp
     omega
    .have z1:¬(a==x)=true:=by simpa using z
     have z2:¬(x==a)=true:=by simpa using λy=>z y.symm
     rw[aq z1,aq z2]
     omega
  rw[e,ih,c5,List.Nodup.count nd,ax (h a bh)]
theorem GB{cs:List C2}(nd:cs.Nodup):∀{rs:List (Nat×List C2)},(∀q∈rs,∀c∈q.2,c∈cs)->(cs.map λc=>cD c rs).sum=(rs.map λq=>q.2.length).sum
 |[],_=>by
  rw[uh]
  .rfl
  .intro y my
   obtain⟨c,_,rfl⟩:=bt.mp my
   rfl
 |q::rs,h=>by
  have ih:=GB nd (rs:=rs) λp m=>h p (bF _ m)
  have e:∀xs:List C2,(xs.map λc=>cD c (q::rs)).sum=(xs.map λc=>q.2.count c).sum+(xs.map λc=>cD c rs).sum:=by
   intro xs
   induction xs with
   |nil=>rfl
   |cons x t GA=>
    rw[bL,fM,GA,bL,fM,bL,fM]
    have:cD x (q::rs)=q.2.count x+cD x rs:=by unfold cD;rw[bL,fM]
    omega
  rw[e,ih,Oz nd (h q bh),bL,fM]
theorem OA:∀{l:List Nat},(∀x∈l,x<=2)->l.sum=2*l.length->∀x∈l,x=2
 |[],_,_,x,m=>by cases m
 |a::r,h,e,x,m=>by
  rw[fM,c5] at e
  have ha:=h a bh
  have hr:r.sum<=2*r.length:=by
   clear e m ha
   have h':∀x∈r,x<=2:=λy my=>h y (bF _ my)
   clear h
   induction r with
   |nil=>exact aQ _
   |cons b t ih=>
    rw[fM,c5]
    have:=h' b bh
    have:=ih λy my=>h' y (bF _ my)
    omega
  rcases bX.mp m with z | z
  .omega
  .exact OA (λy my=>h y (bF _ my)) (by omega) x z
theorem GC{l:List Str}{w:Nat}(c:C2):cD c (dw l w)=cD c (ij l w)+cD c (pK l w):=by
 unfold dw cD
 rw[dW,CV]
def gu(l:List Str)(w:Nat):Prop := ∀c,bg l w c=true->cD c (dw l w)=2
theorem OB{l:List Str}{w:Nat}(S:ba l w)(h:xx l w=true):gu l w:=by
 have h:=eQ h
 rw[<-aby S] at h
 have e1:((bH l w).map λc=>cD c (dw l w)).sum=((aD l w).map (·.length)).sum:=by
  rw[GB (AB l w) λq mq c mc=>?_,rX,iK]
  .rfl
  .have hc:=(FR mq).2 c mc
   exact w8 (by rw[mh hc.1 hc.2.1];exact hc.2.2)
 have e2:((bH l w).map λc=>cD c (dw l w)).sum=2*((bH l w).map λc=>cD c (dw l w)).length:=by
  rw[e1,ar]
  omega
 intro c hc
 refine OA (λx mx=>?_) e2 _ (kj (w8 hc))
 obtain⟨d,_,rfl⟩:=bt.mp mx
 rw[GC,AD S,Fv S]
 split <;> split <;> omega
def nY(l:List Str)(w:Nat):Prop := ∃c,bg l w c=true
theorem abz{l:List Str}{w:Nat}{c:C2}(h:gJ (bg l w) (0,1) c=true):∃d:C2,bg l w d=true/\d.1=c.1/\d.2≠c.2:=by
 unfold gJ gI at h
 rw[dI,yF,dI,dI] at h
 rcases h.2 with z | z
 .have h1:1<=c.2:=eQ z.2.1
  exact⟨_,z.2.2,by show c.1 - 0=c.1;omega,by show c.2 - 1≠c.2;omega⟩
 .exact⟨_,z,by unfold go;show c.1+1*0=c.1;omega,by unfold go;show c.2+1*1≠c.2;omega⟩
theorem abA{l:List Str}{w:Nat}{c:C2}(h:gJ (bg l w) (1,0) c=true):∃d:C2,bg l w d=true/\d.2=c.2/\d.1≠c.1:=by
 unfold gJ gI at h
 rw[dI,yF,dI,dI] at h
 rcases h.2 with z | z
 .have h1:1<=c.1:=eQ z.1
  exact⟨_,z.2.2,by show c.2 - 0=c.2;omega,by show c.1 - 1≠c.1;omega⟩
 .exact⟨_,z,by unfold go;show c.2+1*0=c.2;omega,by unfold go;show c.1+1*1≠c.1;omega⟩
theorem nY.set{l:List Str}{w:Nat}(S:ba l w)(T:gu l w)(N:nY l w){c1 c2:C2}(a1:c1.1<l.length)(a2:c1.2<w)(b1:c2.1<l.length)(b2:c2.2<w):nY (setC (setC l c1 35) c2 35) w:=by
 obtain⟨c,hc⟩:=N
 have h2:=T c hc
 rw[GC,AD S,Fv S] at h2
 have hA:gJ (bg l w) (0,1) c=true:=by
  by_cases z:gJ (bg l w) (0,1) c=true
  .exact z
  .rw[aq z] at h2
   split at h2 <;> omega
 have hD:gJ (bg l w) (1,0) c=true:=by
  by_cases z:gJ (bg l w) (1,0) c=true
  .exact z
  .rw[aq z] at h2
   split at h2 <;> omega
 obtain⟨d,hd,d1,d2⟩:=abz hA
 obtain⟨e,he,e1,e2⟩:=abA hD
 have key:∀x:C2,bg l w x=true->x≠c1->x≠c2->nY (setC (setC l c1 35) c2 35) w:=λx hx n1 n2=>by
  obtain⟨x1,x2,x3⟩:=nK hx
  refine⟨x,?_⟩
  rw[mh (by rw[dq,dq];exact x1) x2]
  unfold bJ at x3 ⊢
  rw[(S.dS.set (ch:=35) a1 a2).kW (by rw[dq];exact b1) b2 (by rw[dq];exact x1) x2,aq n2,S.dS.kW a1 a2 x1 x2,aq n1]
  exact x3
 by_cases z1:c=c1\/c=c2
 .by_cases z2:d=c1\/d=c2
  .refine key e he (λz=>?_) (λz=>?_)
   .rcases z1 with y1 | y1
    .rw[y1,z] at e2;exact e2 rfl
    .rcases z2 with y2 | y2
     .rw[z,<-y2,d1] at e2;exact e2 rfl
     .rw[y2,<-y1] at d2;exact d2 rfl
   .rcases z1 with y1 | y1
    .rcases z2 with y2 | y2
     .rw[y2,<-y1] at d2;exact d2 rfl
     .rw[z,<-y2,d1] at e2;exact e2 rfl
    .rw[y1,z] at e2;exact e2 rfl
  .exact key d hd (λz=>z2 (.inl z)) (λz=>z2 (.inr z))
 .exact key c hc (λz=>z1 (.inl z)) (λz=>z1 (.inr z))
theorem abB{h w:Nat}(h1:0<h)(w1:0<w):nY (List.replicate h (gr "." w)) w:=by
 refine⟨(0,0),?_⟩
 rw[mh (by rw[sL];exact h1) w1]
 unfold bJ
 rw[Gi (c:=(0,0)) h1 w1]
 rfl
section
variable{P:Program}{w:World}{K:PySem.W.Frag}{mg:Str->Option Value}{base:Heap}{f:Addr}{fd:FuncData}
def OC(K:PySem.W.Frag):Sp:=λvs H Q _=>∃(a:Addr) (l:List Str) (w:Nat),vs=[.ref a]/\aw K H a (l.map V.str)/\ba l w/\∀H',af H H'->Q (.bl (xx l w)) H'
theorem Bk:bc ["_law_sheet","_law_many","_law_cells"] ["_law_sheet"] (aS (top 58)):={}
theorem abC(B:Bl mg)(F:aW K "_law_good" "_law_good" (top 58) f fd)(xB:Fn P w K mg base "_law_rows" 3 (Bb K)):aM P w K mg base aR 4 f fd ["_law_sheet"] (OC K):=by
 refine F.bG Bk λaH A outer s H vs Q E hr h=>?_
 refine hide λG_ aI=>?_
 obtain⟨a,l,wd,rfl,hT,S,q⟩:=h
 refine aI.k ?_
 have h9:=S.nine
 have hw:=S.w9
 refine⟨_,(av (aK (i:=1) Bk.nd rfl (Or.inl rfl) aE)
  (av (cG cF rfl (dF (aV xB (hr.mono (by decide)) (by rfl) (ab (pv 0) ai))) (bR (i:=2) Bk.nd rfl (Or.inl rfl))
  (az (aK (i:=1) Bk.nd rfl (Or.inl rfl) (aO eD (pv 1) (bP dY (by rfl) B.cq cn (ab (pv 2) ai))))))
  (az (aZ (vW oZ (pv 1) (aO tG aE (bP (Wh rfl) (by rfl) B.YY Wf (ab (jl (js:=[]) (ns:=[]) (y9 (pv 0)) rfl rfl rfl rfl (λ_ _ _ _=>jY) (λ_ _ _ _=>(aO oY (bP g9 (by rfl) B.cq cn (ab (pv 0) ai)) (Wj (K:=K) (rr:=λ_=>LX) rfl R3 PySem.F.slot_str_count PySem.F.type_str_count WA (pv 0) (ab gh ai))))) ai))) (cH _)))))),?_⟩
 try dsimp only[bD]
 refine⟨_,rfl,a,l,wd,rfl,hT,S,λg xs H1 hg s1 hL hR=>⟨g,rfl,⟨_,aj.of hL⟩,?_⟩⟩
 have hlr:=hR.length
 refine ku (xs:=xs) (λi σ H2=>∃v2,σ=[some (.ref a),some (.int (((((aD l wd).take i).map (·.length)).sum:Nat):Int)),v2]/\H2=H1) ⟨none,rfl,rfl⟩ (λi σ H2 _ ⟨_,_,e⟩=>by rw[e];exact aj.of hL) ?_ ?_
 .intro i x σ H2 hx abD
  refine hide λG_ aY=>?_
  obtain⟨v2,rfl,rfl⟩:=abD
  obtain⟨r,fU,p,ys,rfl,_,hp,hc⟩:=Paired.get hR hx
  refine aY.k ?_
  refine⟨_,rfl,_,rfl,p,_,rfl,.inl (aj.of hp),_,_,rfl,rfl,?_⟩
  refine⟨some (.ref p),?_,rfl⟩
  rw[fL,fU]
  simp only[Option.toList_some,dW,bL,vA,CV,fM,List.sum_nil,C3,Int.natCast_add,hc.length]
  rfl
 .rintro σ H2 ⟨v2,rfl,rfl⟩
  rw[fw (by omega)]
  refine⟨_,rfl,_,rfl,a,rfl,⟨_,s1.tup hT⟩,?_⟩
  refine comp_map Eg (by rw[ar];omega) (λ_ i y _=>y = .int ((nT l).getD i 0)) (λH3 s3=>(s1.trans s3).tup hT) (λ_ _ _ _ _ _ _ _ h=>h) ?_ ?_
  .intro D i z H3 Z hD hz s3 _ k1
   rw[bb] at hz
   cases e:l[i]? with
   |none=>rw[e] at hz;cases hz
   |some x=>
    rw[e] at hz
    cases hz
    have lx:=S.len x (bo e)
    refine⟨_,rfl,x,rfl,eA (by omega),_,rfl,rfl,_,_,rfl,rfl,_,_,rfl,rfl,k1 _ _ (af.cO _) ?_⟩
    have:(nT l)[i]? = some ((x.length:Int) - (Txt.count x "#":Int)):=by unfold nT;rw[bb,e];rfl
    rw[bS this]
  .intro D ys H3 hD bB s3 pr
   have e:=pQ pr
   have el:(l.map V.str).length=(nT l).length:=by unfold nT;rw[ar,ar]
   rw[el,rR V.int] at e
   refine⟨D,nT l,rfl,aj.of (by rw[bB,e]),_,_,rfl,rfl,.inl ⟨by decide,by decide⟩,rfl,?_⟩
   have:=q H3 (s1.trans s3)
   unfold xx at this
   rw[N3]
   exact this
def OD(K:PySem.W.Frag):Sp:=λvs H Q _=>∃(c:Int),vs=[.int c]/\∀p l w H',af H H'->H' p=some (.tup (l.map V.str))->nU l w->gu l w->jz l w->nY l w->l.length*w<=9->Q (.ref p) H'
theorem mC:bc ["_law_cell","_law_high","_law_wide","_law_sheet","_law_k","_law_spot","_law_other","_law_some"] ["_law_cell"] (aS (top 59)):={}
theorem abE(B:Bl mg)(F:aW K "_law_floor" "_law_floor" (top 59) f fd)(pS:Fn P w K mg base "_law_with" 1 (rS K))(abF:Fn P w K mg base "_law_good" 4 (OC K)):aM P w K mg base aR 5 f fd ["_law_cell"] (OD K):=by
 refine F.Xk mC (λvs H Q E h=>?_) (λaH A outer s H vs Q E hr h=>?_)
 .obtain⟨c,rfl,_⟩:=h
  rfl
 .obtain⟨c,rfl,q⟩:=h
  refine⟨_,(Xj (Xi (Xh fN (Xg (rp rq (rp rq (rp rq (rp rq (rp rq (rp rq (rp rq Xf rfl) rfl) rfl) rfl) rfl) rfl) rfl)) (aO eW (pv 0) aE) (λ_ _=>rfl)) (lH rfl (eU (bR (i:=1) mC.nd rfl (Or.inl rfl)) (eU (bR (i:=2) mC.nd rfl (Or.inl rfl)) lG)))) (av (aK (i:=3) mC.nd rfl (Or.inl rfl) (jR wc (by rfl) B.xb wA (ab (aO UJ (dX (ab (aO Wz gh (pv 2)) ai)) (pv 1)) ai (hs:=de rfl))))
   (av (cG cF rfl (iN (by rfl) B.iW (ab (aO eW (aO jg (pv 0) aE) aE) ai)) (bR (i:=4) mC.nd rfl (Or.inl rfl))
   (av (aK (i:=5) mC.nd rfl (Or.inl rfl) (aO eW (aO jg (aO jg (pv 0) aE) (aO eD (pv 4) aE)) (aO tG (pv 1) (pv 2))))
    (av (aK (i:=6) mC.nd rfl (Or.inl rfl) (aO oY (aO oY (aO tG (pv 1) (pv 2)) aE) (pv 5)))
    (av (aK (i:=7) mC.nd rfl (Or.inl rfl) (aV pS (hr.mono (by decide)) (by rfl) (ab (pv 3) (ab (fB (ab (aO jg (pv 5) (pv 2)) (ab (aO eW (pv 5) (pv 2)) ai))) (ab gh ai (hs:=de rfl)) (hs:=de rfl)) (hs:=de rfl)) (he:=de rfl) (hpl:=wO rfl)))
    (av (aK (i:=7) mC.nd rfl (Or.inl rfl) (aV pS (hr.mono (by decide)) (by rfl) (ab (pv 7) (ab (fB (ab (aO jg (pv 6) (pv 2)) (ab (aO eW (pv 6) (pv 2)) ai))) (ab gh ai (hs:=de rfl)) (hs:=de rfl)) (hs:=de rfl)) (he:=de rfl) (hpl:=wO rfl)))
    (az (tT (b6 (kr (aV abF (hr.mono (by decide)) (by rfl) (ab (pv 7) ai)))
    (az (aK (i:=3) mC.nd rfl (Or.inl rfl) (pv 7)))
    b9))))))))
   (az (aZ (pv 3)))))),?_⟩
  try dsimp only[bD]
  have s2:2<=sizeLine:=by decide
  refine⟨s2,λp0 h0=>⟨s2,λp1 h1=>⟨s2,λp2 h2=>⟨s2,λp3 h3=>⟨s2,λp4 h4=>⟨s2,λp5 h5=>⟨s2,λp6 h6=>⟨by show 7<=sizeLine;decide,λpo hpo=>?_⟩⟩⟩⟩⟩⟩⟩⟩
  have t0:=af.upd (o:=HO.tup [V.int 3,V.int 3]) h0
  have t1:=af.upd (o:=HO.tup [V.int 2,V.int 2]) h1
  have t2:=af.upd (o:=HO.tup [V.int 2,V.int 3]) h2
  have t3:=af.upd (o:=HO.tup [V.int 3,V.int 2]) h3
  have t4:=af.upd (o:=HO.tup [V.int 3,V.int 3]) h4
  have t5:=af.upd (o:=HO.tup [V.int 2,V.int 4]) h5
  have t6:=af.upd (o:=HO.tup [V.int 4,V.int 2]) h6
  have t7:=af.upd (o:=HO.lst [V.ref p0,V.ref p1,V.ref p2,V.ref p3,V.ref p4,V.ref p5,V.ref p6]) hpo
  have d0:=lB c (show(7:Int)≠0 by decide)
  have d1:=oJ c (show(0:Int)<7 by decide)
  have sA:=t0.trans (t1.trans (t2.trans (t3.trans (t4.trans (t5.trans (t6.trans t7))))))
  have g6:=t7 _ _ (au (a:=p6) (o:=HO.tup [V.int 4,V.int 2]))
  have g5:=t7 _ _ (t6 _ _ (au (a:=p5) (o:=HO.tup [V.int 2,V.int 4])))
  have g4:=t7 _ _ (t6 _ _ (t5 _ _ (au (a:=p4) (o:=HO.tup [V.int 3,V.int 3]))))
  have g3:=t7 _ _ (t6 _ _ (t5 _ _ (t4 _ _ (au (a:=p3) (o:=HO.tup [V.int 3,V.int 2])))))
  have g2:=t7 _ _ (t6 _ _ (t5 _ _ (t4 _ _ (t3 _ _ (au (a:=p2) (o:=HO.tup [V.int 2,V.int 3]))))))
  have g1:=t7 _ _ (t6 _ _ (t5 _ _ (t4 _ _ (t3 _ _ (t2 _ _ (au (a:=p1) (o:=HO.tup [V.int 2,V.int 2])))))))
  have g0:=t7 _ _ (t6 _ _ (t5 _ _ (t4 _ _ (t3 _ _ (t2 _ _ (t1 _ _ (au (a:=p0) (o:=HO.tup [V.int 3,V.int 3]))))))))
  have gL:=uu t7
  revert sA g0 g1 g2 g3 g4 g5 g6 gL
  generalize upd _ po (HO.lst [V.ref p0,V.ref p1,V.ref p2,V.ref p3,V.ref p4,V.ref p5,V.ref p6])=HA
  intro sA g6 g5 g4 g3 g2 g1 g0 gL
  clear t0 t1 t2 t3 t4 t5 t6 t7
  refine hide λG_ aI=>?_
  obtain⟨pd,hh,ww,rl,pO,hd⟩:∃(pd:Addr) (hh ww:Nat),jk [V.ref p0,V.ref p1,V.ref p2,V.ref p3,V.ref p4,V.ref p5,V.ref p6] (c % 7)=some (.ref pd)/\HA pd=some (.tup [V.int hh,V.int ww])/\(2<=hh/\hh<=4/\2<=ww/\ww<=4/\hh*ww<=9):=by
   have e:c % 7=0\/c % 7=1\/c % 7=2\/c % 7=3\/c % 7=4\/c % 7=5\/c % 7=6:=by omega
   rcases e with e | e | e | e | e | e | e <;> rw[e]
   .exact⟨p0,3,3,rfl,g0,by decide⟩
   .exact⟨p1,2,2,rfl,g1,by decide⟩
   .exact⟨p2,2,3,rfl,g2,by decide⟩
   .exact⟨p3,3,2,rfl,g3,by decide⟩
   .exact⟨p4,3,3,rfl,g4,by decide⟩
   .exact⟨p5,2,4,rfl,g5,by decide⟩
   .exact⟨p6,4,2,rfl,g6,by decide⟩
  refine aI.k ?_
  refine⟨_,rfl,_,_,rfl,rfl,(by show(0:Int)<7;decide),po,_,_,.ref pd,rfl,rfl,aj.of gL,rl,pd,_,rfl,aw.of pO,rfl,_,_,rfl,_,_,rfl,rfl,?_⟩
  clear g0 g1 g2 g3 g4 g5 g6 gL rl
  have abG:(".":Str).length=1:=by decide +kernel
  refine⟨_,rfl,_,_,rfl,rfl,by omega,by omega,by rw[abG];decide,by show 1<=sizeLine;decide,λl1 jv=>?_⟩
  rw[dH]
  refine⟨_,rfl,l1,_,_,rfl,rfl,au,by omega,by omega,eA (by rw[dH];show 1*_<=_;omega),λl2 h8=>?_⟩
  rw[dH,N2]
  refine⟨l2,_,rfl,.inl ⟨aj.of au,λtp htp=>?_⟩⟩
  have u1:=af.upd (o:=HO.lst [V.str (gr "." ww)]) jv
  have u2:=af.upd (o:=HO.lst (List.replicate hh (V.str (gr "." ww)))) h8
  have u3:=af.upd (o:=HO.tup (List.replicate hh (V.str (gr "." ww)))) htp
  have sB:=sA.trans (u1.trans (u2.trans u3))
  have Bm:=uu u3
  revert sB Bm
  clear u1 u2 u3
  generalize upd _ tp (HO.tup (List.replicate hh (V.str (gr "." ww))))=HB
  intro sB Bm
  rw[<-List.map_replicate] at Bm
  have m0:=lB (c / 7) (show(3:Int)≠0 by decide)
  have m1:=oJ (c / 7) (show(0:Int)<3 by decide)
  refine⟨_,rfl,_,_,rfl,rfl,⟨by decide,by decide⟩,_,_,rfl,rfl,(by show(0:Int)<3;decide),_,rfl,by omega,by omega,?_⟩
  refine jo (λi σ H2=>∃p l v4 v5 v6 v7,σ=[some (.int c),some (.int hh),some (.int ww),some (.ref p),v4,v5,v6,v7]/\af H H2/\H2 p=some (.tup (l.map V.str))/\nU l ww/\l.length=hh/\gu l ww/\jz l ww/\nY l ww)
   ⟨tp,_,none,none,none,none,rfl,sB,Bm,N1 (by omega) (by omega) (by omega) (by omega),by rw[sL],OB (N1 (by omega) (by omega) (by omega) (by omega)).sh (aaH hh (by simp;omega) ww (by simp;omega)),aaF,abB (by omega) (by omega)⟩ ?_ ?_
  .intro i σ H2 hi abH
   refine hide λG_ aY=>?_
   obtain⟨p,l,v4,v5,v6,v7,rfl,sm,hP,Fl,hl,Gd,Sy,Ne⟩:=abH
   refine aY.k ?_
   have hhw:0<hh*ww:=Nat.mul_pos (by omega) (by omega)
   have agm:hh*ww<=16:=by
    have:=CY hd.2.1 hd.2.2.2.1
    omega
   have hn:((hh:Int)*(ww:Int))=((hh*ww:Nat):Int):=by simp
   have p1:(0:Int)<(i:Int)+1:=by omega
   have p2:(i:Int)+1<1073741824:=by omega
   have cm:zd (hh:Int) (ww:Int) := .inl ⟨by omega,by omega⟩
   have rf:(0:Int)<(hh:Int)*(ww:Int):=by rw[hn];omega
   refine⟨_,rfl,_,_,rfl,rfl,⟨by decide,by decide⟩,_,rfl,_,_,rfl,rfl,_,_,rfl,rfl,⟨p1,p2⟩,_,rfl,_,rfl,_,_,rfl,rfl,cm,_,_,rfl,rfl,rf,?_⟩
   have z0:=lB (c / 21 / ((i:Int)+1)) (Int.ne_of_gt rf)
   have z1:=oJ (c / 21 / ((i:Int)+1)) rf
   dsimp only
   generalize c / 21 / ((i:Int)+1) % ((hh:Int)*(ww:Int))=z at z0 z1 ⊢
   obtain⟨sp,rfl⟩:=qD z0
   rw[hn] at z1
   have z1:sp<hh*ww:=Int.ofNat_lt.mp z1
   refine⟨_,rfl,_,rfl,_,_,rfl,rfl,cm,_,_,rfl,rfl,_,rfl,_,_,rfl,rfl,?_⟩
   have j2:(hh:Int)*(ww:Int) - 1 - (sp:Int)=((hh*ww - 1 - sp:Nat):Int):=by rw[hn];omega
   dsimp only
   rw[j2]
   have o1:hh*ww - 1 - sp<hh*ww:=by omega
   have ti:=aaG (h:=hh) (w:=ww) (sp:=sp) (by omega) z1
   generalize hh*ww - 1 - sp=ot at o1 ti ⊢
   have wp:0<ww:=by omega
   have dv:Kl (0:Int) (ww:Int):=⟨by omega,by omega⟩
   have a1:sp / ww<hh:=JJ (by rw[mM];exact z1)
   have b1:ot / ww<hh:=JJ (by rw[mM];exact o1)
   have a2:sp % ww<ww:=Nat.mod_lt _ wp
   have b2:ot % ww<ww:=Nat.mod_lt _ wp
   refine⟨_,rfl,_,rfl,_,rfl,_,_,rfl,rfl,dv,_,rfl,_,rfl,_,_,rfl,rfl,dv.1,s2,λq1 mw=>?_⟩
   have y1:=af.upd (o:=HO.tup [V.int ((sp:Int) / (ww:Int)),V.int ((sp:Int) % (ww:Int))]) mw
   refine⟨p,q1,l,ww,(sp / ww,sp % ww),35,by rw[<-rM];rfl,y1.tup (aw.of hP),Fl.sh.dS,aw.of (by rw[au];simp),by rw[hl];exact a1,a2,λt H3 _ s3 ht=>?_⟩
   have F1:=Fl.set (c:=(sp / ww,sp % ww)) (by rw[hl];exact a1) a2
   have jv:(setC l (sp / ww,sp % ww) 35).length=hh:=by rw[dq,hl]
   have GF:jz (setC (setC l (sp / ww,sp % ww) 35) (ot / ww,ot % ww) 35) ww:=by
    have e:=Sy.set Fl.sh (c:=(sp / ww,sp % ww)) (by rw[hl];exact a1) a2
    rw[hl] at e
    rw[ti.1,ti.2]
    exact e
   have GG:nY (setC (setC l (sp / ww,sp % ww) 35) (ot / ww,ot % ww) 35) ww:=Ne.set Fl.sh Gd (by rw[hl];exact a1) a2 (by rw[hl];exact b1) b2
   generalize setC l (sp / ww,sp % ww) 35=l1 at ht F1 jv GF GG
   have iY:=sm.trans (y1.trans s3)
   have hP3:=(y1.trans s3) _ _ hP
   clear y1 s3
   refine⟨_,rfl,_,rfl,_,rfl,_,_,rfl,rfl,dv,_,rfl,_,rfl,_,_,rfl,rfl,dv.1,s2,λq2 GH=>?_⟩
   have y2:=af.upd (o:=HO.tup [V.int ((ot:Int) / (ww:Int)),V.int ((ot:Int) % (ww:Int))]) GH
   refine⟨t,q2,l1,ww,(ot / ww,ot % ww),35,by rw[<-rM];rfl,y2.tup (aw.of ht),F1.sh.dS,aw.of (by rw[au];simp),by rw[jv];exact b1,b2,λt2 H4 _ s4 gs=>?_⟩
   have F2:=F1.set (c:=(ot / ww,ot % ww)) (by rw[jv];exact b1) b2
   have h8:(setC l1 (ot / ww,ot % ww) 35).length=hh:=by rw[dq,jv]
   generalize setC l1 (ot / ww,ot % ww) 35=l2 at gs F2 h8 GF GG
   have dQ:=iY.trans (y2.trans s4)
   have hP4:=(y2.trans s4) _ _ hP3
   clear y2 s4
   refine⟨λσ H5=>∃p l,σ=[some (.int c),some (.int hh),some (.int ww),some (.ref p),some (.int i),some (.int sp),some (.int ot),some (.ref t2)]/\af H H5/\H5 p=some (.tup (l.map V.str))/\nU l ww/\l.length=hh/\gu l ww/\jz l ww/\nY l ww,λσ H5 ⟨p,l,e,h⟩=>⟨p,l,_,_,_,_,e,h⟩,?_⟩
   refine⟨_,rfl,t2,l2,ww,rfl,aw.of gs,F2.sh,λH5 s5=>⟨_,rfl,?_⟩⟩
   cases nZ:xx l2 ww with
   |true=>exact bz ⟨_,rfl,t2,l2,rfl,dQ.trans s5,s5 _ _ gs,F2,h8,OB F2.sh nZ,GF,GG⟩
   |false=>exact bf ⟨p,l,rfl,dQ.trans s5,s5 _ _ hP4,Fl,hl,Gd,Sy,Ne⟩
  .intro σ H2 abI
   refine hide λG_ bK=>?_
   obtain⟨p,l,v4,v5,v6,v7,rfl,sm,hP,Fl,hl,Gd,Sy,Ne⟩:=abI
   refine bK.k ?_
   exact⟨_,rfl,q p l ww H2 sm hP Fl Gd Sy Ne (by rw[hl];exact hd.2.2.2.2)⟩
end
theorem GI{α:Type}{l:List α}(h:l.Nodup){i j:Nat}{a:α}(hi:l[i]? = some a)(hj:l[j]? = some a):i=j:=by
 obtain⟨xH,ei⟩:=bZ.mp hi
 obtain⟨xI,ej⟩:=bZ.mp hj
 rcases Nat.lt_trichotomy i j with z | z | z
 .exact absurd (ei.trans ej.symm) (JL.mp h i j xH xI z)
 .exact z
 .exact absurd (ej.trans ei.symm) (JL.mp h j i xI xH z)
noncomputable def cP(R:List (List C2))(c:C2):List (Nat×Nat):=(List.range R.length).flatMap λi=>((List.range (ah R i).length).filter λk=>decide ((ah R i)[k]? = some c)).map λk=>(i,k)
theorem k7{R:List (List C2)}{i k:Nat}{c:C2}(h:(ah R i)[k]? = some c):i<R.length/\k<(ah R i).length:=by
 refine⟨?_,(bZ.mp h).1⟩
 by_cases z:i<R.length
 .exact z
 .have e:ah R i=[]:=by
   unfold ah
   rw[bM,cB (Jt z)]
   rfl
  rw[e] at h
  cases h
theorem pY{R:List (List C2)}{c:C2}{p:Nat×Nat}:p∈cP R c↔(ah R p.1)[p.2]? = some c:=by
 unfold cP
 rw[C5]
 constructor
 .rintro⟨i,_,h⟩
  obtain⟨k,hk,rfl⟩:=bt.mp h
  exact eQ (bQ.mp hk).2
 .intro h
  have:=k7 h
  exact⟨p.1,eC.mpr this.1,bt.mpr ⟨p.2,bQ.mpr ⟨eC.mpr this.2,aG h⟩,rfl⟩⟩
theorem GJ(R:List (List C2))(c:C2):(cP R c).Nodup:=by
 unfold cP List.Nodup
 rw[List.pairwise_flatMap]
 refine⟨λi _=>?_,?_⟩
 .exact List.Pairwise.map _ (λa b h z=>h (dU Prod.snd z)) (C1.filter _)
 .refine List.Pairwise.imp (λ{a b} h x hx y hy z=>?_) C1
  obtain⟨_,_,rfl⟩:=bt.mp hx
  obtain⟨_,_,rfl⟩:=bt.mp hy
  exact h (dU Prod.fst z)
structure GoodR(R:List (List C2)):Prop where
 nd:∀i,(ah R i).Nodup
 two:∀(i k:Nat) (c:C2),(ah R i)[k]? = some c->∃(j a:Nat),j≠i/\(ah R j)[a]? = some c/\∀(i' k':Nat),(ah R i')[k']? = some c->(i'=i/\k'=k)\/(i'=j/\k'=a)
theorem OE{α:Type}{l:List α}{x:α}(nd:l.Nodup)(m:x∈l)(u:∀y∈l,y=x):l=[x]:=by
 cases l with
 |nil=>cases m
 |cons a r=>
  have ea:=u a bh
  subst ea
  cases r with
  |nil=>rfl
  |cons b s=>
   have eb:=u b (bF _ bh)
   exact absurd (by rw[eb];exact bh) (fq.mp nd).1
noncomputable def uB(R:List (List C2))(pl:Nat)(c:C2):List (Nat×Nat):=(cP R c).filter λp=>!decide (p.1=pl)
noncomputable def j6(R:List (List C2))(pl:Nat):List (Nat×Nat):=(ah R pl).flatMap (uB R pl)
structure GK(R:List (List C2))(pl:Nat)(c:C2)(p:Nat×Nat):Prop where
 ne:p.1≠pl
 lt:p.1<R.length
 ix:(ah R p.1)[p.2]? = some c
 un:∀(i' k':Nat),(ah R i')[k']? = some c->i'≠pl->i'=p.1/\k'=p.2
theorem Bn{R:List (List C2)}(G:GoodR R){pl k:Nat}{c:C2}(h:(ah R pl)[k]? = some c):∃p,uB R pl c=[p]/\GK R pl c p:=by
 obtain⟨j,a,hj,GL,hu⟩:=G.two pl k c h
 have OF:∀(i' k':Nat),(ah R i')[k']? = some c->i'≠pl->i'=j/\k'=a:=λi' k' e n=>by
  rcases hu i' k' e with z | z
  .exact absurd z.1 n
  .exact z
 refine⟨(j,a),OE ((GJ R c).filter _) (bQ.mpr ⟨pY.mpr GL,by simp[hj]⟩) (λy hy=>?_),hj,(k7 GL).1,GL,OF⟩
 obtain⟨h1,h2⟩:=bQ.mp hy
 have:=OF y.1 y.2 (pY.mp h1) (by simpa using h2)
 exact qE this.1 this.2
theorem OG{α β:Type}{f:α->List β}{g:α->β}:∀{l:List α},(∀x∈l,f x=[g x])->l.flatMap f=l.map g
 |[],_=>rfl
 |a::r,h=>by
  rw[List.flatMap_cons,bL,h a bh,OG λx m=>h x (bF _ m)]
  rfl
theorem OH{R:List (List C2)}(G:GoodR R)(pl:Nat):j6 R pl=(ah R pl).map λc=>(uB R pl c).headD (0,0):=by
 unfold j6
 refine OG λc mc=>?_
 obtain⟨k,hk⟩:=eS mc
 obtain⟨p,e,_⟩:=Bn G hk
 rw[e]
 rfl
theorem abJ{R:List (List C2)}(G:GoodR R)(pl:Nat):(j6 R pl).length=(ah R pl).length:=by rw[OH G,ar]
theorem abK{R:List (List C2)}(G:GoodR R){pl k:Nat}{c:C2}(h:(ah R pl)[k]? = some c):∃p,(j6 R pl)[k]? = some p/\GK R pl c p:=by
 obtain⟨p,e,hp⟩:=Bn G h
 refine⟨p,?_,hp⟩
 rw[OH G,bb,h,iD,e]
 rfl
theorem jB(m:List Str)(r:List C2):(ao m r).cps.toList=r.map (sg m):=by simp[ao]
theorem ip{m:List Str}{r:List C2}{k:Nat}{c:C2}(h:r[k]? = some c):(ao m r).cps.toList[k]? = some (sg m c):=by rw[jB,bb,h];rfl
theorem abL{m:List Str}{w:Nat}(S:dR m w){r:List C2}(nd:r.Nodup)(bu:∀c∈r,c.1<m.length/\c.2<w){a:Nat}{c:C2}(ha:r[a]? = some c)(ch:Nat):ao (setC m c ch) r=bC (ao m r) a ch:=by
 have hc:=bu c (bo ha)
 have AU:a<(ao m r).length:=by rw[eJ];exact(bZ.mp ha).1
 apply l7
 apply iI
 intro k
 by_cases hk:k<r.length
 .have ek:r[k]? = some r[k]:=aU hk
  have gH:=bu r[k] (lC hk)
  rw[Fh AU (by rw[eJ];exact hk),ip ek,ip ek,S.kW hc.1 hc.2 gH.1 gH.2]
  by_cases e:k=a
  .subst e
   rw[ek] at ha
   rw[ax (c9 ha),ax rfl]
  .rw[aq e,aq λz=>e (GI nd (by rw[ek,z]) ha)]
 .rw[cB (by rw[jB,ar];omega),cB (by rw[b8,w6 AU,eJ];omega)]
theorem OI{m:List Str}{w:Nat}(S:dR m w){r:List C2}(bu:∀c∈r,c.1<m.length/\c.2<w){c:C2}(h1:c.1<m.length)(h2:c.2<w){ch:Nat}(hc:c∉r\/sg m c=ch):ao (setC m c ch) r=ao m r:=by
 apply l7
 rw[jB,jB]
 refine JR λd md=>?_
 have hd:=bu d md
 rw[S.kW h1 h2 hd.1 hd.2]
 by_cases e:d=c
 .rw[ax e]
  rcases hc with z | z
  .exact absurd (e ▸ md) z
  .rw[e,z]
 .rw[aq e]
theorem k8:∀(m:List Str) (cs:List C2) (xs:List Nat),(putL m cs xs).length=m.length
 |m,[],_=>by simp[putL]
 |m,c::cs,[]=>by simp[putL]
 |m,c::cs,x::xs=>by rw[putL,k8,dq]
theorem GN{w:Nat}:∀{m:List Str}(_:dR m w) (cs:List C2) (xs:List Nat),(∀c∈cs,c.1<m.length/\c.2<w)->dR (putL m cs xs) w
 |m,S,[],_,_=>by simpa[putL] using S
 |m,S,c::cs,[],_=>by simpa[putL] using S
 |m,S,c::cs,x::xs,h=>by
  rw[putL]
  have hc:=h c bh
  exact GN (S.set hc.1 hc.2) cs xs λd md=>by rw[dq];exact h d (bF _ md)
theorem OJ{w:Nat}:∀{m:List Str}(_:ba m w) (cs:List C2) (xs:List Nat),(∀c∈cs,c.1<m.length/\c.2<w)->(∀x∈xs,nI x)->ba (putL m cs xs) w
 |m,S,[],_,_,_=>by simpa[putL] using S
 |m,S,c::cs,[],_,_=>by simpa[putL] using S
 |m,S,c::cs,x::xs,h,h2=>by
  rw[putL]
  have hc:=h c bh
  exact OJ (AA S hc.1 hc.2 (h2 x bh)) cs xs (λd md=>by rw[dq];exact h d (bF _ md)) λy my=>h2 y (bF _ my)
theorem uC{w:Nat}:∀{m:List Str}(_:dR m w) (cs:List C2) (xs:List Nat),(∀c∈cs,c.1<m.length/\c.2<w)->∀{d:C2},d.1<m.length->d.2<w->d∉cs->sg (putL m cs xs) d=sg m d
 |m,S,[],_,_,d,_,_,_=>by simp[putL]
 |m,S,c::cs,[],_,d,_,_,_=>by simp[putL]
 |m,S,c::cs,x::xs,h,d,d1,d2,hd=>by
  have hc:=h c bh
  rw[putL,uC (S.set hc.1 hc.2) cs xs (λe me=>by rw[dq];exact h e (bF _ me)) (by rw[dq];exact d1) d2 (λz=>hd (bF _ z)),
   S.kW hc.1 hc.2 d1 d2,aq λz=>hd (by rw[z];exact bh)]
theorem xJ{w:Nat}:∀{m:List Str}(_:dR m w) (cs:List C2) (xs:List Nat),(∀c∈cs,c.1<m.length/\c.2<w)->cs.Nodup->∀{k:Nat}{c:C2}{x:Nat},cs[k]? = some c->xs[k]? = some x->sg (putL m cs xs) c=x
 |m,S,[],_,_,_,k,c,x,hc,_=>by cases hc
 |m,S,c::cs,[],_,_,k,_,x,_,hx=>by cases hx
 |m,S,c::cs,y::xs,h,nd,k,d,x,hd,hx=>by
  have hc:=h c bh
  have h':∀e∈cs,e.1<(setC m c y).length/\e.2<w:=λe me=>by rw[dq];exact h e (bF _ me)
  rw[putL]
  cases k with
  |zero=>
   have e1:c=d:=by simpa using hd
   have e2:y=x:=by simpa using hx
   subst e1 e2
   rw[uC (S.set hc.1 hc.2) cs xs h' (by rw[dq];exact hc.1) hc.2 (fq.mp nd).1,S.kW hc.1 hc.2 hc.1 hc.2,ax rfl]
  |succ k=>exact xJ (S.set hc.1 hc.2) cs xs h' (fq.mp nd).2 (by simpa using hd) (by simpa using hx)
theorem abM{m:List Str}{w:Nat}(S:dR m w){r:List C2}{x:Str}(bu:∀c∈r,c.1<m.length/\c.2<w)(nd:r.Nodup)(hl:x.length=r.length):ao (putL m r x.cps.toList) r=x:=by
 have hx:=b8 x
 apply l7
 apply iI
 intro k
 by_cases hk:k<r.length
 .have ek:r[k]? = some r[k]:=aU hk
  have ex:x.cps.toList[k]? = some x.cps.toList[k]:=aU (by omega)
  rw[ip ek,xJ S r x.cps.toList bu nd ek ex,ex]
 .rw[cB (by rw[jB,ar];omega),cB (by omega)]
theorem iq{x t:Str}:cA x t=true↔x.length=t.length/\∀i,i<x.length->t.cps.toList.getD i 0=46\/t.cps.toList.getD i 0=x.cps.toList.getD i 0:=by
 unfold cA
 rw[dI,iG,decide_eq_true_iff]
 refine and_congr_right λ_=>⟨λh i hi=>?_,λh i hi=>?_⟩
 .have:=h i (eC.mpr hi)
  unfold kX at this
  simpa using this
 .have:=h i (eC.mp hi)
  unfold kX
  simpa using this
theorem Bo{x:Str}{j ch k:Nat}(h:j<x.length)(hk:k<x.length):(bC x j ch).cps.toList.getD k 0=if k=j then ch else x.cps.toList.getD k 0:=by
 rw[bM,Fh h hk,bM]
 by_cases e:k=j
 .rw[ax e,ax e]
  rfl
 .rw[aq e,aq e]
theorem abN{x t:Str}{a ch:Nat}(ha:a<t.length)(cY:t.cps.toList.getD a 0=46)(hc:ch≠46):cA x (bC t a ch)=true↔cA x t=true/\x.cps.toList.getD a 0=ch:=by
 rw[iq,iq,w6 ha]
 constructor
 .rintro⟨hl,h⟩
  have ea:=h a (by omega)
  rw[Bo ha ha,ax rfl] at ea
  refine⟨⟨hl,λi hi=>?_⟩,?_⟩
  .have:=h i hi
   rw[Bo ha (by omega)] at this
   by_cases e:i=a
   .rw[e];exact .inl cY
   .rw[aq e] at this;exact this
  .rcases ea with z | z
   .exact absurd z hc
   .exact z.symm
 .rintro⟨⟨hl,h⟩,e⟩
  refine⟨hl,λi hi=>?_⟩
  rw[Bo ha (by omega)]
  by_cases ei:i=a
  .rw[ax ei,ei];exact .inr e.symm
  .rw[aq ei];exact h i hi
theorem GO{x t:Str}(h:cA x t=true)(hd:46∉t.cps.toList):x=t:=by
 obtain⟨hl,h⟩:=iq.mp h
 have hx:=b8 x
 have ht:=b8 t
 apply l7
 apply iI
 intro k
 by_cases hk:k<x.length
 .have:=h k hk
  rw[bM,bM,aU (by omega),aU (by omega),oz,oz] at this
  rw[aU (by omega),aU (by omega)]
  rcases this with z | z
  .exact absurd (by rw[<-z];exact lC _) hd
  .rw[z]
 .rw[cB (by omega),cB (by omega)]
theorem abO(t:Str):cA t t=true:=iq.mpr ⟨rfl,λ_ _=>.inr rfl⟩
structure k9(ks:List Str)(wf:Str->Int)(t:Str)(ws:List Str):Prop where
 nd:ws.Nodup
 mem:∀x,x∈ws↔x∈ks/\cA x t=true
 up:ws.Pairwise λa b=>wf b<=wf a
theorem k9.narrow{ks:List Str}{wf:Str->Int}{t:Str}{ws:List Str}{a ch:Nat}(F:k9 ks wf t ws)(ha:a<t.length)(cY:t.cps.toList.getD a 0=46)(hc:ch≠46):k9 ks wf (bC t a ch) (ws.filter λx=>decide (x.cps.toList.getD a 0=ch)):=by
 refine⟨F.nd.filter _,λx=>?_,F.up.filter _⟩
 rw[bQ,F.mem,abN ha cY hc,decide_eq_true_iff,and_assoc]
theorem k9.one{ks:List Str}{wf:Str->Int}{x:Str}(m:x∈ks)(hd:46∉x.cps.toList):k9 ks wf x [x]:=by
 refine⟨fq.mpr ⟨fK,iF⟩,λy=>?_,List.pairwise_singleton _ _⟩
 rw[cg]
 constructor
 .rintro rfl
  exact⟨m,abO y⟩
 .rintro⟨_,h⟩
  exact GO h hd
theorem GQ{l m:List Str}{w:Nat}(hl:m.length=l.length)(h:∀c:C2,c.1<l.length->c.2<w->bJ m c=bJ l c):aD m w=aD l w:=by
 have e:bg m w=bg l w:=by
  funext c
  unfold bg
  rw[hl]
  by_cases h1:c.1<l.length
  .by_cases h2:c.2<w
   .rw[h c h1 h2]
   .rw[aF h2,gT,gT]
  .rw[aF h1,gT,gT]
 unfold aD kY i4
 rw[e,hl]
structure bY(l:List Str)(w:Nat)(R:List (List C2)):Prop where
 sh:ba l w
 eq:aD l w=R
 good:GoodR R
 all:∀c:C2,c.1<l.length->c.2<w->bJ l c=true->∃i k:Nat,(ah R i)[k]? = some c
theorem pZ{R:List (List C2)}{i:Nat}(h:i<R.length):ah R i∈R:=by
 unfold ah
 rw[bS (aU h)]
 exact lC h
theorem bY.n0{l:List Str}{w:Nat}{R:List (List C2)}(F:bY l w R){i k:Nat}{c:C2}(h:(ah R i)[k]? = some c):c.1<l.length/\c.2<w/\bJ l c=true:=by
 have:=pZ (k7 h).1
 rw[<-F.eq] at this
 have hc:=bo h
 rw[<-F.eq] at hc
 exact(i5 F.sh this).2.2 c hc
theorem bY.jC{l:List Str}{w:Nat}{R:List (List C2)}(F:bY l w R)(i:Nat):∀c∈ah R i,c.1<l.length/\c.2<w:=λc m=>by
 obtain⟨k,hk⟩:=eS m
 have:=F.n0 hk
 exact⟨this.1,this.2.1⟩
theorem bY.len{l:List Str}{w:Nat}{R:List (List C2)}(F:bY l w R){i:Nat}(hi:i<R.length):2<=(ah R i).length/\(ah R i).length<=9:=by
 have:=pZ hi
 rw[<-F.eq] at this
 have:=i5 F.sh this
 rw[F.eq] at this
 exact⟨this.1,this.2.1⟩
def ir(x:Str):Prop := ∀ch∈x.cps.toList,97<=ch/\ch<=122
theorem abP{x:Str}(h:cz x=true):ir x:=λch m=>by
 unfold cz at h
 simp only[dI] at h
 have:=h.2.2
 unfold i3 at this
 have:=eQ (iG.mp this ch m)
 rw[Ay] at this
 obtain⟨k,hk,e⟩:=bt.mp this
 have:=eC.mp hk
 omega
theorem ir.abQ{x:Str}(h:ir x):46∉x.cps.toList:=λm=>by have:=h 46 m;omega
theorem xK{m:List Str}{w:Nat}{R:List (List C2)}(F:bY m w R)(pl:Nat){x:Str}(hl:x.length=(ah R pl).length){c:C2}(h1:c.1<m.length)(h2:c.2<w) :
  (∃(k ch:Nat),(ah R pl)[k]? = some c/\x.cps.toList[k]? = some ch/\sg (putL m (ah R pl) x.cps.toList) c=ch)\/(c∉ah R pl/\sg (putL m (ah R pl) x.cps.toList) c=sg m c):=by
 by_cases hc:c∈ah R pl
 .refine Or.inl ?_
  obtain⟨k,hk⟩:=eS hc
  have iR:=(k7 hk).2
  have hx:=b8 x
  have ex:x.cps.toList[k]? = some x.cps.toList[k]:=aU (by omega)
  exact⟨k,_,hk,ex,xJ F.sh.dS _ _ (F.jC pl) (F.good.nd pl) hk ex⟩
 .exact .inr ⟨hc,uC F.sh.dS _ _ (F.jC pl) h1 h2 hc⟩
theorem bY.OK{m:List Str}{w:Nat}{R:List (List C2)}(F:bY m w R)(pl:Nat){x:Str}(hx:ir x)(hl:x.length=(ah R pl).length){c:C2}(h1:c.1<m.length)(h2:c.2<w):bJ (putL m (ah R pl) x.cps.toList) c=bJ m c:=by
 rcases xK F pl hl h1 h2 with ⟨k,ch,hk,hch,e⟩ | ⟨_,e⟩
 .rw[(F.n0 hk).2.2]
  unfold bJ
  rw[e]
  have:=hx ch (bo hch)
  rw[aF (by omega)]
  rfl
 .unfold bJ
  rw[e]
theorem bY.put{m:List Str}{w:Nat}{R:List (List C2)}(F:bY m w R)(pl:Nat){x:Str}(hx:ir x)(hl:x.length=(ah R pl).length):bY (putL m (ah R pl) x.cps.toList) w R:=by
 have hlen:=k8 m (ah R pl) x.cps.toList
 refine⟨OJ F.sh _ _ (F.jC pl) (λch mc=>.inr (.inr (hx ch mc))),?_,F.good,λc h1 h2 ho=>?_⟩
 .rw[GQ hlen λc h1 h2=>F.OK pl hx hl h1 h2]
  exact F.eq
 .rw[hlen] at h1
  rw[F.OK pl hx hl h1 h2] at ho
  exact F.all c h1 h2 ho
structure mD(R:List (List C2))(m:List Str)(pl:Nat)(x:Str)(k:Nat)(ps:List Str):Prop where
 len:ps.length=R.length
 own:ps[pl]? = some (ao m (ah R pl))
 i7:∀i,i<R.length->i≠pl->ps[i]? = some (ao (putL m ((ah R pl).take k) (x.cps.toList.take k)) (ah R i))
theorem j7{β:Type}(R:List (List C2))(f:List C2->β){i:Nat}(h:i<R.length):(R.map f)[i]? = some (f (ah R i)):=by
 unfold ah
 rw[bb,bS (aU h),aU h]
 rfl
theorem mD.zero{R:List (List C2)}{m:List Str}{pl:Nat}{x:Str}(hpl:pl<R.length):mD R m pl x 0 (R.map (ao m)):=
 ⟨ar ..,j7 R _ hpl,λi hi _=>by rw[oH,oH,j7 R _ hi];rfl⟩
theorem mD.step{R:List (List C2)}{m:List Str}{w pl k:Nat}{x:Str}{ps:List Str}(F:bY m w R)(c7:cA x (ao m (ah R pl))=true)(A:mD R m pl x k ps){c:C2}{ch:Nat}(hc:(ah R pl)[k]? = some c)(hch:x.cps.toList[k]? = some ch){p:Nat×Nat}(hp:GK R pl c p) :
  ∃b,ps[p.1]? = some b/\b.cps.toList[p.2]? = some (sg m c)/\p.2<b.length/\b.length<=9/\(sg m c=46->mD R m pl x (k+1) (ps.set p.1 (bC b p.2 ch)))/\(sg m c≠46->mD R m pl x (k+1) ps):=by
 have gj:∀d∈(ah R pl).take k,d.1<m.length/\d.2<w:=λd md=>F.jC pl d (yP md)
 have Gk:=GN F.sh.dS ((ah R pl).take k) (x.cps.toList.take k) gj
 have nC:=k8 m ((ah R pl).take k) (x.cps.toList.take k)
 have eP:=F.n0 hc
 have Fe:c∉(ah R pl).take k:=λz=>by
  obtain⟨j,hj⟩:=eS z
  have hjk:j<k:=by
   have:=(bZ.mp hj).1
   rw[jF] at this
   omega
  rw[CH hjk] at hj
  have:=GI (F.good.nd pl) hj hc
  omega
 have OL:sg (putL m ((ah R pl).take k) (x.cps.toList.take k)) c=sg m c:=uC F.sh.dS _ _ gj eP.1 eP.2.1 Fe
 have OM:putL m ((ah R pl).take (k+1)) (x.cps.toList.take (k+1))=setC (putL m ((ah R pl).take k) (x.cps.toList.take k)) c ch:=rZ m _ _ k c ch hc hch
 have lV:c.1<(putL m ((ah R pl).take k) (x.cps.toList.take k)).length:=by rw[nC];exact eP.1
 have uD:∀i,∀d∈ah R i,d.1<(putL m ((ah R pl).take k) (x.cps.toList.take k)).length/\d.2<w:=λi d md=>by rw[nC];exact F.jC i d md
 have t9:=F.len hp.lt
 refine⟨_,A.i7 p.1 hp.lt hp.ne,?_,?_,?_,λcY=>⟨by rw[Jq];exact A.len,?_,λi hi cJ=>?_⟩,λcY=>⟨A.len,A.own,λi hi cJ=>?_⟩⟩
 .rw[ip hp.ix,OL]
 .rw[eJ];exact(k7 hp.ix).2
 .rw[eJ];exact t9.2
 .rw[yt hp.ne];exact A.own
 .rw[OM]
  by_cases e:i=p.1
  .rw[e,vt (by rw[A.len];exact hp.lt),abL Gk (F.good.nd p.1) (uD p.1) hp.ix]
  .rw[yt (bj e),A.i7 i hi cJ,OI Gk (uD i) lV eP.2.1 (.inl λz=>?_)]
   obtain⟨j,hj⟩:=eS z
   exact e (hp.un i j hj cJ).1
 .have ech:sg m c=ch:=by
   obtain⟨hl,h⟩:=iq.mp c7
   have hk:k<x.length:=by rw[<-b8];exact(bZ.mp hch).1
   have:=h k hk
   rw[bS (ip hc),bS hch] at this
   rcases this with z | z
   .exact absurd z cY
   .exact z
  rw[OM,OI Gk (uD i) lV eP.2.1 (.inr (OL.trans ech))]
  exact A.i7 i hi cJ
theorem mD.done{R:List (List C2)}{m:List Str}{w pl:Nat}{x:Str}{ps:List Str}(F:bY m w R)(A:mD R m pl x (ah R pl).length ps)(hl:x.length=(ah R pl).length)(hpl:pl<R.length):ps.set pl x=R.map (ao (putL m (ah R pl) x.cps.toList)):=by
 have hx:=b8 x
 apply iI
 intro i
 by_cases hi:i<R.length
 .rw[j7 R _ hi]
  by_cases e:i=pl
  .rw[e,vt (by rw[A.len];exact hpl),abM F.sh.dS (F.jC pl) (F.good.nd pl) hl]
  .rw[yt (bj e),A.i7 i hi e,fw (aQ _),fw (by omega)]
 .rw[cB (by rw[Jq,A.len];omega),cB (by rw[ar];omega)]
theorem GR{l m:List Str}{w:Nat}(S:dR l w)(T:dR m w)(hl:l.length=m.length)(h:∀c:C2,c.1<l.length->c.2<w->sg l c=sg m c):l=m:=by
 apply iI
 intro i
 by_cases hi:i<l.length
 .obtain⟨x,hx,_,_,lx,xA⟩:=S.row hi
  obtain⟨y,hy,_,_,ly,GS⟩:=T.row (i:=i) (by omega)
  rw[hx,hy]
  congr 1
  apply l7
  apply iI
  intro j
  by_cases hj:j<w
  .rw[xA j hj,GS j hj,h (i,j) hi hj]
  .rw[cB (by omega),cB (by omega)]
 .rw[cB (by omega),cB (by omega)]
noncomputable def j8(l:List Str)(R:List (List C2))(m:List Str):Nat->List Str
 |0=>l
 |n+1=>putL (j8 l R m n) (ah R n) (ao m (ah R n)).cps.toList
theorem qb(l:List Str)(R:List (List C2))(m:List Str):∀n,(j8 l R m n).length=l.length
 |0=>rfl
 |n+1=>by rw[j8,k8,qb l R m n]
theorem uE{l m:List Str}{w:Nat}{R:List (List C2)}(F:bY l w R):∀n,dR (j8 l R m n) w
 |0=>F.sh.dS
 |n+1=>by
  rw[j8]
  exact GN (uE F n) _ _ λd md=>by rw[qb];exact F.jC n d md
theorem ON{l m:List Str}{w:Nat}{R:List (List C2)}(F:bY l w R){c:C2}(h1:c.1<l.length)(h2:c.2<w):∀n,((∃i,i<n/\c∈ah R i)->sg (j8 l R m n) c=sg m c)/\((∀i,i<n->c∉ah R i)->sg (j8 l R m n) c=sg l c)
 |0=>⟨λ⟨i,hi,_⟩=>absurd hi (fZ _),λ_=>rfl⟩
 |n+1=>by
  have ih:=ON (m:=m) F h1 h2 n
  have hc:∀d∈ah R n,d.1<(j8 l R m n).length/\d.2<w:=λd md=>by rw[qb];exact F.jC n d md
  rw[j8]
  refine⟨λ⟨i,hi,hm⟩=>?_,λh=>?_⟩
  .by_cases z:c∈ah R n
   .obtain⟨k,hk⟩:=eS z
    exact xJ (uE F n) _ _ hc (F.good.nd n) hk (ip hk)
   .rw[uC (uE F n) _ _ hc (by rw[qb];exact h1) h2 z]
    refine ih.1 ⟨i,?_,hm⟩
    rcases vI.mp hi with y | y
    .exact y
    .exact absurd (y ▸ hm) z
  .rw[uC (uE F n) _ _ hc (by rw[qb];exact h1) h2 (h n (qx _))]
   exact ih.2 λi hi=>h i (oB hi)
theorem Bp{l:List Str}{c:C2}(h:¬bJ l c=true):sg l c=35:=by
 unfold bJ at h
 simpa using h
theorem abR{l m:List Str}{w:Nat}{R:List (List C2)}(F:bY l w R)(M:bY m w R)(hl:m.length=l.length):j8 l R m R.length=m:=by
 refine GR (uE F _) M.sh.dS (by rw[qb,hl]) λc h1 h2=>?_
 rw[qb] at h1
 have s:=ON (m:=m) F h1 h2 R.length
 by_cases ho:bJ l c=true
 .obtain⟨i,k,hk⟩:=F.all c h1 h2 ho
  exact s.1 ⟨i,(k7 hk).1,bo hk⟩
 .have no:∀i,i<R.length->c∉ah R i:=λi _ z=>by
   obtain⟨k,hk⟩:=eS z
   exact ho (F.n0 hk).2.2
  have hm:¬bJ m c=true:=λz=>by
   obtain⟨i,k,hk⟩:=M.all c (by rw[hl];exact h1) h2 z
   exact no i (k7 hk).1 (bo hk)
  rw[s.2 no,Bp ho,Bp hm]
structure cb(s m:List Str)(w:Nat):Prop where
 sh:ba s w
 ln:s.length=m.length
 cl:∀c:C2,c.1<m.length->c.2<w->(sg m c≠46->sg s c=sg m c)/\(sg m c=46->sg s c≠35)
theorem cb.refl{m:List Str}{w:Nat}(S:ba m w):cb m m w:=⟨S,rfl,λc _ _=>⟨λ_=>rfl,λh=>by rw[h];decide⟩⟩
theorem abS{m:List Str}{w:Nat}{R:List (List C2)}{pl k ch:Nat}{x:Str}{c:C2}(c7:cA x (ao m (ah R pl))=true)(hc:(ah R pl)[k]? = some c)(hch:x.cps.toList[k]? = some ch):sg m c=46\/sg m c=ch:=by
 obtain⟨hl,h⟩:=iq.mp c7
 have hk:k<x.length:=by rw[<-b8];exact(bZ.mp hch).1
 have:=h k hk
 rw[bS (ip hc),bS hch] at this
 exact this
theorem cb.OO{s m:List Str}{w:Nat}{R:List (List C2)}{pl:Nat}{x:Str}(F:bY m w R)(hx:ir x)(c7:cA x (ao m (ah R pl))=true)(A:cb s (putL m (ah R pl) x.cps.toList) w):cb s m w:=by
 have hl:x.length=(ah R pl).length:=by rw[(iq.mp c7).1,eJ]
 have hlen:=k8 m (ah R pl) x.cps.toList
 refine⟨A.sh,by rw[A.ln,hlen],λc h1 h2=>?_⟩
 have a:=A.cl c (by rw[hlen];exact h1) h2
 rcases xK F pl hl h1 h2 with ⟨k,ch,hk,hch,e⟩ | ⟨_,e⟩
 .have hb:=hx ch (bo hch)
  rw[e] at a
  have es:=a.1 (by omega)
  rcases abS (w:=w) c7 hk hch with z | z
  .exact⟨λy=>absurd z y,λ_=>by omega⟩
  .exact⟨λ_=>by omega,λy=>by omega⟩
 .rw[e] at a
  exact a
theorem cb.text{s m:List Str}{w:Nat}{R:List (List C2)}{pl:Nat}{x:Str}(F:bY m w R)(hx:ir x)(hl:x.length=(ah R pl).length)(A:cb s (putL m (ah R pl) x.cps.toList) w):ao s (ah R pl)=x:=by
 have fF:=b8 x
 have hlen:=k8 m (ah R pl) x.cps.toList
 apply l7
 apply iI
 intro k
 by_cases hk:k<(ah R pl).length
 .have ek:(ah R pl)[k]? = some (ah R pl)[k]:=aU hk
  have ex:x.cps.toList[k]? = some x.cps.toList[k]:=aU (by omega)
  have hb:=F.n0 ek
  have a:=A.cl _ (by rw[hlen];exact hb.1) hb.2.1
  have e:=xJ F.sh.dS _ _ (F.jC pl) (F.good.nd pl) ek ex
  rw[e] at a
  have:=hx _ (bo ex)
  rw[ip ek,ex,a.1 (by omega)]
 .rw[cB (by rw[jB,ar];omega),cB (by omega)]
theorem OP{α:Type}{p q:α->Bool}:∀{l:List α},(∀x∈l,p x=true->q x=true)->(l.filter p).length<=(l.filter q).length/\((∃x∈l,q x=true/\p x=false)->(l.filter p).length<(l.filter q).length)
 |[],_=>⟨aQ _,λ⟨_,m,_⟩=>by cases m⟩
 |a::r,h=>by
  have ih:=OP (l:=r) λx m=>h x (bF _ m)
  have ha:=h a bh
  rw[cR,cR]
  cases hp:p a with
  |true=>
   rw[ha hp]
   refine⟨lA ih.1,λ⟨x,m,hq,hx⟩=>?_⟩
   rcases bX.mp m with z | z
   .rw[z,hp] at hx;cases hx
   .exact Nat.succ_lt_succ (ih.2 ⟨x,z,hq,hx⟩)
  |false=>
   cases hq:q a with
   |true=>exact⟨Nat.le_succ_of_le ih.1,λ_=>Nat.lt_succ_of_le ih.1⟩
   |false=>
    refine⟨ih.1,λ⟨x,m,jh,hx⟩=>?_⟩
    rcases bX.mp m with z | z
    .rw[z,hq] at jh;cases jh
    .exact ih.2 ⟨x,z,jh,hx⟩
theorem OQ{m:List Str}{w:Nat}{R:List (List C2)}{pl:Nat}{x:Str}(F:bY m w R)(hx:ir x)(c7:cA x (ao m (ah R pl))=true)(hd:46∈(ao m (ah R pl)).cps.toList):(fA (putL m (ah R pl) x.cps.toList) w).length<(fA m w).length:=by
 have hl:x.length=(ah R pl).length:=by rw[(iq.mp c7).1,eJ]
 unfold fA
 rw[k8]
 have key:∀c∈cells m.length w,Az (putL m (ah R pl) x.cps.toList) c=true->Az m c=true/\c∉ah R pl:=λc mc h=>by
  have hb:=rK mc
  unfold Az at h ⊢
  have h:=eQ h
  rcases xK F pl hl hb.1 hb.2 with ⟨k,ch,hk,hch,e⟩ | ⟨hn,e⟩
  .have:=hx ch (bo hch)
   rw[e] at h
   omega
  .exact⟨aG (e.symm.trans h),hn⟩
 refine(OP λc mc h=>(key c mc h).1).2 ?_
 rw[jB] at hd
 obtain⟨c,mc,ec⟩:=bt.mp hd
 have hb:=F.jC pl c mc
 refine⟨c,Ot hb.1 hb.2,aG ec,iJ.mpr λz=>?_⟩
 exact(key c (Ot hb.1 hb.2) z).2 mc
theorem abT{ks:List Str}{wf:Str->Int}{m:List Str}{R:List (List C2)}{pl:Nat}{ws:List Str}(hk:ks.Nodup)(Fo:k9 ks wf (ao m (ah R pl)) ws):cC (ws.filter λx=>!decide (x∈nW m R pl))=dg m R pl ks:=by
 unfold dg
 refine zY ?_ ((Em _).filter _)
 refine List.Perm.filter _ ?_
 refine(ic _).trans ?_
 rw[List.perm_ext_iff_of_nodup (hk.filter _) Fo.nd]
 intro x
 rw[bQ,Fo.mem]
theorem GU{m:List Str}{R:List (List C2)}{pl:Nat}{x:Str}:x∈nW m R pl↔∃i,i<R.length/\i≠pl/\ao m (ah R i)=x:=by
 unfold nW
 constructor
 .intro h
  obtain⟨i,hi,e⟩:=bt.mp h
  obtain⟨h1,h2⟩:=bQ.mp hi
  exact⟨i,eC.mp h1,by simpa using h2,e⟩
 .rintro⟨i,h1,h2,e⟩
  exact bt.mpr ⟨i,bQ.mpr ⟨eC.mpr h1,by simpa using h2⟩,e⟩
def j9(H:Hp)(r:List C2)(x:V):Prop := ∃t ys,x = .ref t/\H t=some (.tup ys)/\br H r ys
noncomputable def kC(c:C2):List Key:=[Sum.inl (c.1:Int),Sum.inl (c.2:Int)]
theorem uF{c d:C2}(h:kC c=kC d):c=d:=by
 unfold kC at h
 injection h with h1 h2
 injection h2 with h2
 injection h1 with h1
 injection h2 with h2
 exact qE (by omega) (by omega)
theorem si{α β:Type}{R:α->β->Prop}:∀{l1 l2:List α}{m1 m2:List β},Paired R l1 m1->Paired R l2 m2->Paired R (l1++l2) (m1++m2)
 |_,_,_,_,.nil,h=>h
 |_,_,_,_,.cons h t,g=>.cons h (si t g)
structure i8(H:Hp)(d:Addr)(g:C2->List (Nat×Nat))(ls:List Addr)(n:Nat):Prop where
 ex:∃kvs:List (List Key×V),H d=some (.dT kvs)/\kvs.length<=n/\(∀c,g c=[]->aL kvs (kC c)=none)/\
  (∀c,g c≠[]->∃q zs,aL kvs (kC c)=some (.ref q)/\q∈ls/\H q=some (.lst zs)/\br H (g c) zs)/\
  (∀c c' q,aL kvs (kC c)=some (.ref q)->aL kvs (kC c')=some (.ref q)->c=c')
theorem br.lists{H H':Hp}{cs:List (Nat×Nat)}{xs:List V}(k:∀b o,H b=some (.tup o)->H' b=some (.tup o))(h:br H cs xs):br H' cs xs:=Paired.bI h λ_ _ q=>let ⟨b,e,hb⟩:=q;⟨b,e,k _ _ hb⟩
theorem i8.mono{H H':Hp}{d:Addr}{g:C2->List (Nat×Nat)}{ls:List Addr}{n:Nat}(s:af H H')(h:i8 H d g ls n):i8 H' d g ls n:=by
 obtain⟨kvs,hd,hl,h1,h2,h3⟩:=h.ex
 refine⟨kvs,s _ _ hd,hl,h1,λc hc=>?_,h3⟩
 obtain⟨q,zs,a,b,e,f⟩:=h2 c hc
 exact⟨q,zs,a,b,s _ _ e,f.mono s⟩
theorem i8.fresh{H H':Hp}{d p0:Addr}{g g':C2->List (Nat×Nat)}{ls:List Addr}{n:Nat}{kvs:List (List Key×V)}{c:C2}{o:Nat×Nat}{u:V}(h:i8 H d g ls n)(hd:H d=some (.dT kvs))(hp:H p0=none)(hc:g c=[])
  (e1:g' c=[o]) (e2:∀x,x≠c->g' x=g x) (vM:H' d=some (.dT (putK kvs (kC c) (.ref p0)))) (fc:H' p0=some (.lst [u])) (hu:nL H' o u) (k:∀b x,b≠d->b≠p0->H b=some x->H' b=some x):i8 H' d g' (p0::ls) (n+1):=by
 obtain⟨abU,ie,hl,h1,h2,h3⟩:=h.ex
 rw[hd] at ie
 cases ie
 have kt:∀b o,H b=some (.tup o)->H' b=some (.tup o):=λb o e=>k b _ (λz=>by rw[z,hd] at e;cases e) (λz=>by rw[z,hp] at e;cases e) e
 refine⟨_,vM,bA (tN _ _ _) (by omega),λx hx=>?_,λx hx=>?_,λx y q hx hy=>?_⟩
 .by_cases z:x=c
  .rw[z,e1] at hx;cases hx
  .rw[nh,aq (λw=>z (uF w))]
   exact h1 x (by rw[<-e2 x z];exact hx)
 .by_cases z:x=c
  .subst z
   refine⟨p0,[u],by rw[nh,ax rfl],bh,fc,?_⟩
   rw[e1]
   exact .cons hu .nil
  .rw[e2 x z] at hx ⊢
   obtain⟨q,zs,a,b,e,f⟩:=h2 x hx
   refine⟨q,zs,by rw[nh,aq (λw=>z (uF w))];exact a,bF _ b,k q _ (λw=>by rw[w,hd] at e;cases e) (λw=>by rw[w,hp] at e;cases e) e,f.lists kt⟩
 .have old:∀x,x≠c->aL kvs (kC x)=some (.ref q)->q≠p0:=λx z hv w=>by
   by_cases gx:g x=[]
   .rw[h1 x gx] at hv;cases hv
   .obtain⟨q',zs,a,b,e,f⟩:=h2 x gx
    rw[a] at hv
    cases hv
    rw[w,hp] at e
    cases e
  rw[nh] at hx hy
  by_cases zx:x=c <;> by_cases zy:y=c
  .rw[zx,zy]
  .rw[ax (by rw[zx])] at hx
   rw[aq (λw=>zy (uF w))] at hy
   cases hx
   exact absurd rfl (old y zy hy)
  .rw[aq (λw=>zx (uF w))] at hx
   rw[ax (by rw[zy])] at hy
   cases hy
   exact absurd rfl (old x zx hx)
  .rw[aq (λw=>zx (uF w))] at hx
   rw[aq (λw=>zy (uF w))] at hy
   exact h3 x y q hx hy
theorem i8.more{H H':Hp}{d q:Addr}{g g':C2->List (Nat×Nat)}{ls:List Addr}{n:Nat}{kvs:List (List Key×V)}{c:C2}{o:Nat×Nat}{u:V}{zs:List V}(h:i8 H d g ls n)(hd:H d=some (.dT kvs))(hq:aL kvs (kC c)=some (.ref q))(hz:H q=some (.lst zs))(hc:br H (g c) zs)
  (e1:g' c=g c++[o]) (e2:∀x,x≠c->g' x=g x) (jh:H' q=some (.lst (zs++[u]))) (hu:nL H' o u) (k:∀b x,b≠q->H b=some x->H' b=some x):i8 H' d g' ls n:=by
 obtain⟨abU,ie,hl,h1,h2,h3⟩:=h.ex
 rw[hd] at ie
 cases ie
 have kt:∀b o,H b=some (.tup o)->H' b=some (.tup o):=λb o e=>k b _ (λz=>by rw[z,hz] at e;cases e) e
 have hgc:g c≠[]:=λz=>by rw[h1 c z] at hq;cases hq
 refine⟨_,k d _ (λz=>by rw[z,hz] at hd;cases hd) hd,hl,λx hx=>?_,λx hx=>?_,h3⟩
 .by_cases z:x=c
  .rw[z,e1] at hx
   simp at hx
  .exact h1 x (by rw[<-e2 x z];exact hx)
 .by_cases z:x=c
  .subst z
   obtain⟨q',OR,a,b,e,f⟩:=h2 x hgc
   rw[hq] at a
   cases a
   refine⟨q,zs++[u],hq,b,jh,?_⟩
   rw[e1]
   exact si (hc.lists kt) (.cons hu .nil)
  .rw[e2 x z] at hx ⊢
   obtain⟨q',OR,a,b,e,f⟩:=h2 x hx
   refine⟨q',OR,a,b,k q' _ (λw=>?_) e,f.lists kt⟩
   subst w
   exact z (h3 x c q' a hq)
noncomputable def gP(R:List (List C2))(i j:Nat)(c:C2):List (Nat×Nat):=((List.range i).flatMap λi=>((List.range (ah R i).length).filter λk=>decide ((ah R i)[k]? = some c)).map λk=>(i,k))++((List.range j).filter λk=>decide ((ah R i)[k]? = some c)).map λk=>(i,k)
theorem OS{R:List (List C2)}{i j:Nat}{c:C2}(h:(ah R i)[j]? = some c):gP R i (j+1) c=gP R i j c++[(i,j)]:=by
 unfold gP
 rw[jG,jH,dW,ow]
 simp[h]
theorem OT{R:List (List C2)}{i j:Nat}{c x:C2}(h:(ah R i)[j]? = some c)(n:x≠c):gP R i (j+1) x=gP R i j x:=by
 unfold gP
 rw[jG,jH,dW]
 simp[h,bj n]
theorem abV(R:List (List C2))(i:Nat)(c:C2):gP R (i+1) 0 c=gP R i (ah R i).length c:=by
 unfold gP
 rw[jG,JI]
 simp
theorem abW(R:List (List C2))(c:C2):gP R R.length 0 c=cP R c:=by
 unfold gP cP
 simp
theorem OU{R:List (List C2)}(h9:∀i,(ah R i).length<=9)(c:C2):∀i,((List.range i).flatMap λi=>((List.range (ah R i).length).filter λk=>decide ((ah R i)[k]? = some c)).map λk=>(i,k)).length<=9*i
 |0=>by simp
 |i+1=>by
  have ih:=OU h9 c i
  rw[jG,JI,cQ]
  have e:=gD (λk=>decide ((ah R i)[k]? = some c)) (List.range (ah R i).length)
  rw[iH] at e
  have:=h9 i
  simp only[List.flatMap_cons,List.flatMap_nil,fX,ar]
  omega
theorem abX{R:List (List C2)}(h9:∀i,(ah R i).length<=9)(i j:Nat)(c:C2):(gP R i j c).length<=9*i+j:=by
 have h1:=OU h9 c i
 have e:=gD (λk=>decide ((ah R i)[k]? = some c)) (List.range j)
 rw[iH] at e
 unfold gP
 rw[cQ,ar]
 omega
theorem abY(R:List (List C2))(c:C2):gP R 0 0 c=[]:=rfl
theorem OV{α:Type}(A:List α)(p:α->Bool)(d:α):((List.range A.length).filter λk=>p (A.getD k d)).map (λk=>A.getD k d)=A.filter p:=by
 have e:(List.range A.length).map (λk=>A.getD k d)=A:=by
  apply iI
  intro i
  rw[bb]
  by_cases h:i<A.length
  .rw[oG h,aU h,iD,bM,aU h,oz]
  .rw[cB (by simpa using h),cB (by simpa using h)]
   rfl
 have:=sQ (f:=λk=>A.getD k d) (p:=p) (l:=List.range A.length)
 rw[e] at this
 rw[this]
 rfl
theorem OW{α β γ:Type}{S:β->γ->Prop}{g:α->β}:∀{l:List α}{m:List γ},Paired (λa y=>S (g a) y) l m->Paired S (l.map g) m
 |_,_,.nil=>.nil
 |_,_,.cons h t=>.cons h (OW t)
theorem abZ{H:Hp}{A:List (Nat×Nat)}{p:Nat×Nat->Bool}{us vs:List V}(h:br H A us)(pr:Paired (λk y=>us[k]? = some y) ((List.range us.length).filter λk=>p (A.getD k (0,0))) vs):br H (A.filter p) vs:=by
 rw[<-OV A p (0,0)]
 have hl:=h.length
 rw[hl]
 refine OW (Paired.bI pr λk y e=>?_)
 obtain⟨o,ho,hc⟩:=Paired.get h e
 rw[bM,ho]
 exact hc
theorem ab0{R:List (List C2)}(G:GoodR R){pl k:Nat}{c:C2}(h:(ah R pl)[k]? = some c):(cP R c).length<=2:=by
 obtain⟨p,e,_⟩:=Bn G h
 have e1:(cP R c).countP (λp=>!decide (p.1=pl))=1:=by
  rw[List.countP_eq_length_filter]
  show(uB R pl c).length=1
  rw[e]
  rfl
 have e2:(cP R c).countP (λp=>decide (p.1=pl))<=1:=by
  rw[List.countP_eq_length_filter]
  have nd:=(GJ R c).filter (λp=>decide (p.1=pl))
  have u:∀y∈(cP R c).filter (λp=>decide (p.1=pl)),y=(pl,k):=λy my=>by
   obtain⟨m1,m2⟩:=bQ.mp my
   have hy:=pY.mp m1
   have h1:y.1=pl:=eQ m2
   rw[h1] at hy
   have h2:y.2=k:=(List.getElem?_inj (k7 hy).2 (G.nd pl)).mp (hy.trans h.symm)
   exact qE h1 h2
  cases hl:(cP R c).filter (λp=>decide (p.1=pl)) with
  |nil=>exact bx _
  |cons a r=>
   have m:(pl,k)∈(cP R c).filter (λp=>decide (p.1=pl)):=by
    rw[<-u a (by rw[hl];exact bh),hl]
    exact bh
   rw[<-hl,OE nd m u]
   exact aQ _
 have:=List.length_eq_countP_add_countP (l:=cP R c) (λp=>decide (p.1=pl))
 have e3:(cP R c).countP (λa=>decide ¬(decide (a.1=pl))=true)=(cP R c).countP (λp=>!decide (p.1=pl)):=by
  congr 1
  funext a
  by_cases z:a.1=pl <;> simp[z]
 rw[e3] at this
 omega
section
variable{P:Program}{w:World}{K:PySem.W.Frag}{mg:Str->Option Value}{base:Heap}{f:Addr}{fd:FuncData}
def OX(K:PySem.W.Frag):Sp:=λvs H Q _=>∃(d t:Addr) (R:List (List C2)) (pl:Nat) (ys:List V) (ls:List Addr),vs=[.ref d,.int pl,.ref t]/\(∃n,i8 H d (cP R) ls n)/\H t=some (.tup ys)/\br H (ah R pl) ys/\pl<R.length/\GoodR R/\(ah R pl).length<=9/\
 ∀p zs H',H p=none->af H H'->H' p=some (.lst zs)->br H' (j6 R pl) zs->Q (.ref p) H'
theorem GV:bc ["through","place","cells","crossings","cell"] ["through","place","cells"] (aS (top 38)):={}
theorem ab1(F:aW K "crossings_on" "crossings_on" (top 38) f fd):aM P w K mg base aR 1 f fd ["through","place","cells"] (OX K):=by
 refine F.bG GV λaH A outer s H vs Q E hr h=>?_
 refine hide λG_ aI=>?_
 obtain⟨d,t,R,pl,ys,ls,rfl,hD,ht,hC,hpl,G,h9,q⟩:=h
 refine aI.k ?_
 have dn:=jW hr
 refine⟨_,(av (aK (i:=3) GV.nd rfl (Or.inl rfl) (dX ai))
  (av (cG cF rfl (y9 (pv 2)) (bR (i:=4) GV.nd rfl (Or.inl rfl))
  (az (dM (fO jc PySem.F.slot_list_extend PySem.F.type_list_extend UG (pv 3) (ab (jl (js:=[1]) (ns:=["place"]) (dF (DP dn (pv 0) (pv 4) (λ_ _=>rfl))) rfl rfl rfl rfl (λ_ _ _ _=>(nv (cx mW (Ek (K:=K) (rr:=zr) rfl cj (pv 0) aE (λ_ _=>rfl)) (pv 1) (cH _)))) (λ_ _ _ _=>(pv 0))) ai)))))
  (az (aZ (pv 3))))),?_⟩
 try dsimp only[bD]
 refine hide λG_ aY=>?_
 obtain⟨nn,hD⟩:=hD
 obtain⟨kvs,hd,ju,kN,Bq,Br⟩:=hD.ex
 refine aY.k ?_
 have pA:=hC.length
 refine⟨bx _,λp hp=>?_⟩
 have s0:af H (upd H p (.lst [])):=af.upd hp
 refine⟨_,rfl,t,rfl,⟨_,aw.of (s0 _ _ ht)⟩,?_⟩
 refine S9 (K:=K) (xs:=ys) (λi σ H2=>∃v4 zs,σ=[some (.ref d),some (.int (pl:Int)),some (.ref t),some (.ref p),v4]/\af H H2/\H2 p=some (.lst zs)/\br H2 (((ah R pl).take i).flatMap (uB R pl)) zs/\zs.length<=i)
  ⟨none,[],rfl,s0,au,.nil,aQ _⟩ ?_ ?_ ?_
 .rintro i σ H2 _ ⟨v4,zs,rfl,s2,_⟩
  exact aw.of (s2 _ _ ht)
 .intro i x σ H2 hx ab2
  refine hide λG_ bK=>?_
  obtain⟨v4,zs,rfl,s2,fE,hz,xM⟩:=ab2
  obtain⟨c,hc,b,rfl,hb⟩:=Paired.get hC hx
  have hi:=(bZ.mp hx).1
  have nB:H2 b=some (.tup ((kC c).map kV)):=s2 _ _ hb
  have oO:cP R c≠[]:=λz=>by
   have:=pY (p:=(pl,i)).mpr hc
   rw[z] at this
   cases this
  obtain⟨qa,us,ab3,hql,jr,wC⟩:=Bq c oO
  refine bK.k ?_
  have GW:=wC.length
  have h2:=ab0 G hc
  have hg:dO H2 d (.ref b) (some (.ref qa)):=by rw[<-ab3];exact dO.t (s2 _ _ hd) nB
  have OY:=s2 _ _ jr
  refine⟨_,rfl,.inl ⟨rfl,_,aj.of fE⟩,_,rfl,_,rfl,d,.ref qa,rfl,hg,qa,rfl,⟨_,aj.of OY⟩,?_⟩
  refine lR (jn (K:=K) (xs:=us)) (by omega) (λk=>!decide (((cP R c).getD k (0,0)).1=pl)) (λ_ k y _=>us[k]? = some y) (λH3 s3=>aj.of (s3 _ _ OY)) (λ_ _ _ _ _ _ _ _ h=>h) ?_ ?_
  .intro D k y H3 Z0 Z hD hy s3 _ k0 k1
   obtain⟨o,ho,ob,rfl,pC⟩:=Paired.get wC hy
   have ab4:=s3 _ _ (s2 _ _ pC)
   have OZ:(cP R c).getD k (0,0)=o:=by rw[bM,ho];rfl
   refine⟨_,rfl,ob,_,0,.int (o.1:Int),rfl,rfl,aw.of ab4,rfl,_,rfl,rfl,_,rfl,?_⟩
   by_cases z:o.1=pl
   .rw[aG (by rw[z])]
    exact bf (k0 _ (af.cO _) (by show(!decide _)=false;rw[OZ,aG z];rfl))
   .rw[aF (λy=>z (by injection y with y;omega))]
    exact bz ⟨_,rfl,k1 _ _ (af.cO _) (by show(!decide _)=true;rw[OZ,aF z];rfl) hy⟩
  .intro D vs H3 hD bB s3 pr
   have O0:af H H3:=s2.trans s3
   have Bs:br H3 (uB R pl c) vs:=by
    have e:=abZ (A:=cP R c) (p:=λo=>!decide (o.1=pl)) (br.mono O0 wC) pr
    exact e
   have GX:=Bs.length
   obtain⟨o1,eo,_⟩:=Bn G hc
   rw[eo] at GX
   have GX:vs.length=1:=GX.symm
   have ka:=s3 _ _ fE
   have nD:D≠p:=λz=>by rw[z,fE] at hD;cases hD
   refine⟨p,D,zs,vs,rfl,rfl,ka,bB,yr (lS (by omega)),?_⟩
   have hn:H p=none:=hp
   have sU:af H (upd H3 p (.lst (zs++vs))):=λb o e=>by rw[ak (bq e hn)];exact O0 _ _ e
   refine⟨_,zs++vs,rfl,sU,au,?_,by rw[cQ];omega⟩
   have tk:(ah R pl).take (i+1)=(ah R pl).take i++[c]:=by rw[fL,hc];rfl
   rw[tk,JI]
   refine si (br.off ⟨_,ka⟩ (λb o hb e=>by rw[ak hb];exact e) (br.mono s3 hz)) ?_
   simpa using br.off ⟨_,ka⟩ (λb o hb e=>by rw[ak hb];exact e) Bs
 .intro σ H2 ab5
  refine hide λG_ cE=>?_
  obtain⟨v4,zs,rfl,s2,fE,hz,xM⟩:=ab5
  refine cE.k ?_
  rw[fw (by omega)] at hz
  exact⟨_,rfl,q p zs H2 hp s2 fE hz⟩
def O1(K:PySem.W.Frag):Sp:=λvs H Q _=>∃(a:Addr) (R:List (List C2)) (xs:List V),vs=[.ref a]/\H a=some (.lst xs)/\Paired (j9 H) R xs/\GoodR R/\R.length<=162/\(∀i,(ah R i).length<=9)/\
 ∀p zs H',H p=none->af H H'->H' p=some (.lst zs)->Paired (λi x=>∃q us,x = .ref q/\H q=none/\H' q=some (.lst us)/\br H' (j6 R i) us) (List.range R.length) zs->Q (.ref p) H'
theorem uG:bc ["rows","through","place","cells","at","cell"] ["rows"] (aS (top 37)):={}
theorem ab6(B:Bl mg)(F:aW K "crossings_of" "crossings_of" (top 37) f fd)(ab7:Fn P w K mg base "crossings_on" 1 (OX K)):aM P w K mg base aR 2 f fd ["rows"] (O1 K):=by
 refine F.bG uG λaH A outer s H vs Q E hr h=>?_
 refine hide λG_ aI=>?_
 obtain⟨a,R,xs,rfl,ha,hR,G,j5,h9,q⟩:=h
 refine aI.k ?_
 have dn:=jW hr
 refine⟨_,(av (aK (i:=1) uG.nd rfl (Or.inr rfl) Lb)
  (av (cG cF rfl (EF (by rfl) B.xf (ab (pv 0) ai)) (lH rfl (eU (bR (i:=2) uG.nd rfl (Or.inl rfl)) (eU (bR (i:=3) uG.nd rfl (Or.inl rfl)) lG)))
  (az (cG cF rfl (W9 (by rfl) B.xf (ab (pv 3) ai)) (lH rfl (eU (bR (i:=4) uG.nd rfl (Or.inl rfl)) (eU (bR (i:=5) uG.nd rfl (Or.inl rfl)) lG)))
   (az (dM (fO jc jI jJ hX (XR dn (pv 1) (pv 5) (dX ai) ⟨rfl,rfl,rfl,rfl⟩) (ab (fB (ab (pv 2) (ab (pv 4) ai))) ai (hs:=de rfl))))))))
  (az (aZ (Lx (js:=[1]) (ns:=["through"]) (EF (by rfl) B.xf (ab (pv 0) ai)) rfl rfl rfl rfl (λ_ _ _ _=>jY) (λ_ _ _ _=>(aV ab7 (hr.mono (by decide)) (by rfl) (ab (pv 2) (ab (pv 0) (ab (pv 1) ai)))))))))),?_⟩
 try dsimp only[bD]
 intro d ie
 have eO:af H (upd H d (.dT [])):=af.upd ie
 have t0:i8 (upd H d (.dT [])) d (gP R 0 0) [] 0:=⟨[],au,aQ _,λ_ _=>rfl,λc hc=>absurd (abY R c) hc,λc c' q h=>by cases h⟩
 generalize upd H d (.dT [])=H0 at eO t0
 have fF:=hR.length
 refine⟨_,rfl,a,xs,rfl,aj.of (eO _ _ ha),?_⟩
 refine L6 (K:=K) (xs:=xs) (λi σ H2=>∃v2 v3 v4 v5 ls n,σ=[some (.ref a),some (.ref d),v2,v3,v4,v5]/\af H H2/\(∀q∈ls,H q=none)/\n<=9*i/\i8 H2 d (gP R i 0) ls n)
  ⟨none,none,none,none,[],0,rfl,eO,(λ_ m=>nomatch m),aQ _,t0⟩ ?_ ?_ ?_
 .rintro i σ H2 _ ⟨v2,v3,v4,v5,ls,n,rfl,s2,_⟩
  exact aj.of (s2 _ _ ha)
 .intro i x pt σ H2 hx ab8 hpt
  refine hide λG_ aY=>?_
  obtain⟨v2,v3,v4,v5,ls,n,rfl,s2,qc,hn,T2⟩:=ab8
  obtain⟨row,hq,t,ys,rfl,ht,kU⟩:=Paired.get hR hx
  refine aY.k ?_
  have hi:i<R.length:=by rw[fF];exact(bZ.mp hx).1
  have mE:ah R i=row:=by unfold ah;rw[bM,hq];rfl
  have pA:=kU.length
  have h9i:=h9 i
  rw[mE] at h9i
  have su:af H2 (upd H2 pt (.tup [.int i,.ref t])):=af.upd hpt
  refine⟨pt,_,rfl,aw.of au,rfl,_,_,rfl,_,_,rfl,rfl,?_⟩
  have wJ:=s2.trans su
  have O2:=T2.mono su
  generalize upd H2 pt (.tup [.int i,.ref t])=H3 at su wJ O2
  refine⟨_,rfl,t,ys,rfl,aw.of (wJ _ _ ht),?_⟩
  refine Xb (K:=K) (xs:=ys) (λj σ H4=>∃v4 v5 ls n,σ=[some (.ref a),some (.ref d),some (.int (i:Int)),some (.ref t),v4,v5]/\af H H4/\(∀q∈ls,H q=none)/\n<=9*i+j/\i8 H4 d (gP R i j) ls n)
   ⟨v4,v5,ls,n,rfl,wJ,qc,hn,O2⟩ ?_ ?_ ?_
  .rintro j σ H4 _ ⟨v4,v5,ls,n,rfl,s4,_⟩
   exact aw.of (s4 _ _ ht)
  .intro j y pu σ H4 hy ab9 hpu
   refine hide λG_ bK=>?_
   obtain⟨v4,v5,ls,n,rfl,s4,qc,hn,T4⟩:=ab9
   obtain⟨c,hc,b,rfl,hb⟩:=Paired.get kU hy
   refine bK.k ?_
   have hj:j<ys.length:=(bZ.mp hy).1
   have Bt:(ah R i)[j]? = some c:=by rw[mE];exact hc
   have sv:af H4 (upd H4 pu (.tup [.int j,.ref b])):=af.upd hpu
   refine⟨pu,_,rfl,aw.of au,rfl,_,_,rfl,_,_,rfl,rfl,?_⟩
   have s5:=s4.trans sv
   have T5:=T4.mono sv
   generalize upd H4 pu (.tup [.int j,.ref b])=H5 at sv s5 T5
   refine hide λG_ cE=>?_
   obtain⟨kvs,uH,ju,kN,Bq,Br⟩:=id T5.ex
   refine cE.k ?_
   have hb5:H5 b=some (.tup ((kC c).map kV)):=s5 _ _ hb
   refine⟨_,rfl,d,rfl,.inr ⟨kvs,.inl uH⟩,_,rfl,bx _,λp0 fS=>?_⟩
   have s6:af H5 (upd H5 p0 (.lst [])):=af.upd fS
   refine⟨kvs,kC c,b,s6 _ _ uH,rfl,s6 _ _ hb5,lS (by omega),λv hv=>?_,λhv=>?_⟩
   .have hg:gP R i j c≠[]:=λz=>by rw[kN c z] at hv;cases hv
    refine hide λG_ eB=>?_
    obtain⟨qa,zs,mw,GH,xN,O3⟩:=Bq c hg
    refine eB.k ?_
    rw[mw] at hv
    cases hv
    have xM:=O3.length
    have GY:=abX h9 i j c
    have T6:=T5.mono s6
    refine⟨.inl ⟨rfl,_,aj.of (s6 _ _ xN)⟩,_,rfl,_,rfl,(show 2<=sizeLine by decide),λu hu=>?_⟩
    have s7:af (upd H5 p0 (.lst [])) (upd (upd H5 p0 (.lst [])) u (.tup [.int (i:Int),.int (j:Int)])):=af.upd hu
    have Bu:upd (upd H5 p0 (.lst [])) u (.tup [.int (i:Int),.int (j:Int)]) u=some (.tup [.int (i:Int),.int (j:Int)]):=au
    have T7:=T6.mono s7
    have xO:=s6.trans s7
    generalize upd (upd H5 p0 (.lst [])) u (.tup [.int (i:Int),.int (j:Int)])=H7 at s7 T7 xO Bu
    have GZ:=xO _ _ xN
    have nu:u≠qa:=λz=>by rw[z,GZ] at Bu;cases Bu
    refine⟨qa,zs,_,rfl,rfl,GZ,lS (by omega),?_⟩
    have uI:=qc qa GH
    refine⟨_,_,ls,n,rfl,λb o e=>?_,qc,by omega,T7.more (xO _ _ uH) mw GZ (O3.mono xO) (OS Bt) (λx z=>OT Bt z) au ⟨u,rfl,by rw[ak nu];exact Bu⟩ λb o hb e=>by rw[ak hb];exact e⟩
    rw[ak (bq e uI)]
    exact xO _ _ (s5 _ _ e)
   .have hg:gP R i j c=[]:=yN λz=>by
     obtain⟨qa,zs,mw,_⟩:=Bq c z
     rw[mw] at hv
     cases hv
    have O4:d≠p0:=λz=>by rw[z,fS] at uH;cases uH
    have O5:H p0=none:=by
     cases e:H p0 with
     |none=>rfl
     |some o=>rw[s5 _ _ e] at fS;cases fS
    have G0:upd (upd H5 p0 (.lst [])) d (.dT (putK kvs (kC c) (.ref p0))) p0=some (.lst []):=by rw[ak (bj O4)];exact au
    refine⟨.inl ⟨rfl,_,aj.of G0⟩,_,rfl,_,rfl,(show 2<=sizeLine by decide),λu hu=>?_⟩
    have O6:u≠p0:=λz=>by rw[z,G0] at hu;cases hu
    have nud:u≠d:=λz=>by rw[z,au] at hu;cases hu
    refine⟨p0,[],_,rfl,rfl,by rw[ak (bj O6)];exact G0,lS (by simp),?_⟩
    refine⟨_,_,p0::ls,n+1,rfl,λb o e=>?_,λx m=>?_,by omega,T5.fresh uH fS hg (by rw[OS Bt,hg];rfl) (λx z=>OT Bt z) ?_ au ⟨u,rfl,?_⟩ λb o h1 h2 e=>?_⟩
    .have e5:=s5 _ _ e
     have G2:b≠d:=bq e ie
     have uJ:b≠p0:=bq e O5
     have G3:b≠u:=λz=>by
      rw[z] at e5 G2 uJ
      rw[ak G2,ak uJ,e5] at hu
      cases hu
     rw[ak uJ,ak G3,ak G2,ak uJ]
     exact e5
    .rcases bX.mp m with z | z
     .rw[z];exact O5
     .exact qc x z
    .rw[ak O4,ak (bj nud),au]
    .rw[ak O6,au]
    .have G3:b≠u:=λz=>by
      rw[z] at e h1 h2
      rw[ak h1,ak h2,e] at hu
      cases hu
     rw[ak h2,ak G3,ak h1,ak h2]
     exact e
  .intro σ H4 aca
   refine hide λG_ kZ=>?_
   obtain⟨v4,v5,ls,n,rfl,s4,qc,hn,T4⟩:=aca
   refine kZ.k ?_
   refine⟨_,_,_,_,ls,n,rfl,s4,qc,by omega,?_⟩
   have eg:gP R (i+1) 0=gP R i ys.length:=by
    funext c
    rw[abV,mE,pA]
   rw[eg]
   exact T4
 .intro σ H2 acb
  refine hide λG_ k4=>?_
  obtain⟨v2,v3,v4,v5,ls,n,rfl,s2,qc,hn,T2⟩:=acb
  refine k4.k ?_
  rw[<-fF] at T2
  have T3:i8 H2 d (cP R) ls n:=by
   have eg:gP R R.length 0=cP R:=funext λc=>abW R c
   rw[<-eg]
   exact T2
  refine⟨_,rfl,a,xs,rfl,aj.of (s2 _ _ ha),?_⟩
  refine Xd (by omega) (aj.of (s2 _ _ ha)) (λ_=>true) (λD i y H5=>∃qa us,y = .ref qa/\qa≠D/\H qa=none/\H5 qa=some (.lst us)/\br H5 (j6 R i) us) ?_ ?_ ?_
  .intro D i y Ha Hb hD ho k acd
   refine hide λG_ xD=>?_
   obtain⟨qa,us,rfl,n1,n2,n3,n4⟩:=acd
   refine xD.k ?_
   exact⟨qa,us,rfl,n1,n2,k _ _ n1 n3,n4.off ho k⟩
  .intro D i x H5 Z0 Z hD hx s5 ho k0 k1
   refine hide λG_ G4=>?_
   obtain⟨row,hq,t,ys,rfl,ht,kU⟩:=Paired.get hR hx
   refine G4.k ?_
   have hi:i<R.length:=by rw[fF];exact(bZ.mp hx).1
   have mE:ah R i=row:=by unfold ah;rw[bM,hq];rfl
   have G5:=s2.trans s5
   refine bz (B:=Z0 H5) ⟨_,rfl,_,rfl,_,rfl,d,t,R,i,ys,ls,rfl,⟨n,T3.mono s5⟩,G5 _ _ ht,by rw[mE];exact kU.mono G5,hi,G,h9 i,λqa us H6 uI s6 hqs hqc=>?_⟩
   obtain⟨o,ho⟩:=ho
   refine k1 _ _ s6 rfl ⟨qa,us,rfl,(λz=>by rw[z,ho] at uI;cases uI),?_,hqs,hqc⟩
   cases e:H qa with
   |none=>rfl
   |some o'=>rw[G5 _ _ e] at uI;cases uI
  .intro D zs H5 hD bB s5 pr
   refine q D zs H5 ?_ (s2.trans s5) bB ?_
   .cases e:H D with
    |none=>rfl
    |some o'=>rw[s2 _ _ e] at hD;cases hD
   .rw[List.filter_eq_self.mpr (λ_ _=>rfl)] at pr
    rw[fF]
    exact Paired.bI pr λi y h=>let ⟨qa,us,e1,_,e3,e4,e5⟩:=h;⟨qa,us,e1,e3,e4,e5⟩
end
noncomputable def fV(sh ce cr wo kn:V):List (Str×V):=aT "known" kn (aT "worths" wo (aT "crossings" cr (aT "cells" ce (aT "sheet" sh []))))
theorem Bv(sh ce cr wo kn:V):(fV sh ce cr wo kn).lookup ("known":Str)=some kn:=by
 unfold fV
 rw[cW,ax rfl]
theorem ace(sh ce cr wo kn:V):(fV sh ce cr wo kn).lookup ("crossings":Str)=some cr:=by
 unfold fV
 rw[cW,aq (by decide +kernel),cW,aq (by decide +kernel),cW,ax rfl]
theorem O7(sh ce cr wo kn:V):(fV sh ce cr wo kn).lookup ("cells":Str)=some ce:=by
 unfold fV
 rw[cW,aq (by decide +kernel),cW,aq (by decide +kernel),cW,aq (by decide +kernel),cW,ax rfl]
theorem acf(sh ce cr wo kn:V):(fV sh ce cr wo kn).lookup ("sheet":Str)=some sh:=by
 unfold fV
 rw[cW,aq (by decide +kernel),cW,aq (by decide +kernel),cW,aq (by decide +kernel),cW,aq (by decide +kernel),cW,ax rfl]
def gv(Z:Addr->Prop)(H:Hp)(ks:List Str)(wf:Str->Int)(t:Str)(v:V):Prop := ∃q ws,v = .ref q/\Z q/\H q=some (.lst (ws.map V.str))/\k9 ks wf t ws/\ws.length<=64
structure gR(Z:Addr->Prop)(M:Str->Prop)(H:Hp)(ks:List Str)(wf:Str->Int)(kvs:List (Key×V)):Prop where
 nd:(kvs.map (·.1)).Nodup
 key:∀k∈kvs.map (·.1),∃x,k=Sum.inr x/\M x
 fit:∀x v,aL kvs (Sum.inr x:Key)=some v->gv Z H ks wf x v
def Bw(M:Str->Prop):Prop := ∀l:List Key,l.Nodup->(∀k∈l,∃x,k=Sum.inr x/\M x)->l.length<sizeLine
theorem gv.keep{Z:Addr->Prop}{H H':Hp}{ks:List Str}{wf:Str->Int}{t:Str}{v:V}(k:∀b o,H b=some (.lst o)->Z b->H' b=some (.lst o))(h:gv Z H ks wf t v):gv Z H' ks wf t v:=let ⟨q,ws,e,z,a,b,c⟩:=h;⟨q,ws,e,z,k _ _ a z,b,c⟩
theorem acg{kvs:List (Key×V)}{k:Key}(h:aL kvs k=none):k∉kvs.map (·.1):=by
 induction kvs with
 |nil=>simp
 |cons p r ih=>
  obtain⟨k',v⟩:=p
  intro m
  unfold aL at h ih
  by_cases z:k'=k
  .simp[sN,z] at h
  .simp only[sN,aF z] at h
   rcases bX.mp m with w | w
   .exact z w.symm
   .exact ih h w
theorem O8{ws:List Str}(p:Str->Bool):((List.range ws.length).filter λk=>p (ws.getD k ⟨#[]⟩)).map (λk=>V.str (ws.getD k ⟨#[]⟩))=(ws.filter p).map V.str:=by
 rw[<-OV ws p ⟨#[]⟩,iK]
 rfl
section
variable{P:Program}{w:World}{K:PySem.W.Frag}{mg:Str->Option Value}{base:Heap}{f:Addr}{fd:FuncData}
def O9(K:PySem.W.Frag)(C:Addr):Sp:=λvs H Q _=>∃(g dx l kn:Addr) (sh ce cr wo:V) (ws ks:List Str) (wf:Str->Int) (t:Str) (a ch:Nat) (kvs:List (Key×V)) (Z:Addr->Prop) (M:Str->Prop),vs=[.ref g,.ref l,.str (bC t a ch),.int (a:Int)]/\H g=some (.ins C dx (fV sh ce cr wo (.ref kn)))/\H kn=some (.dK kvs)/\gR Z M H ks wf kvs/\Bw M/\
 H l=some (.lst (ws.map V.str))/\k9 ks wf t ws/\ws.length<=64/\a<t.length/\t.length<=1000/\t.cps.toList.getD a 0=46/\ch≠46/\M (bC t a ch)/\(∀q,H q=none->Z q)/\
 ∀H' uK v,(∀b o,b≠kn->H b=some o->H' b=some o)->H' kn=some (.dK uK)->gR Z M H' ks wf uK->gv Z H' ks wf (bC t a ch) v->Q v H'
theorem ach:bc ["self","words","signs","at"] ["self","words","signs","at"] (aS (inClass (top 34) 1)):={}
theorem aci{C:Addr}(F:aW K "narrowed" "Ground.narrowed" (inClass (top 34) 1) f fd)(T:cI K C)(nk:bO K C "known"):aM P w K mg base aR 1 f fd ["self","words","signs","at"] (O9 K C):=by
 refine F.bG ach λaH A outer s H vs Q E hr h=>?_
 refine hide λG_ aI=>?_
 obtain⟨g,dx,l,kn,sh,ce,cr,wo,ws,ks,wf,t,a,ch,kvs,Z,M,rfl,hg,hk,hK,hM,hl,hF,eN,ha,ht,cY,hch,hm,hZ,q⟩:=h
 refine aI.k ?_
 have dn:=jW hr
 refine⟨_,(av (b6 (yX (La dn (pv 2) (di (pv 0) rfl)))
  (az (zE dn (di (pv 0) rfl) (pv 2) (jl (js:=[3,2]) (ns:=["at","signs"]) (dF (pv 1)) rfl rfl rfl rfl (λ_ _ _ _=>(nv (cx oZ (aX jS (pv 0) (pv 1) (λ_ _=>rfl)) (aX jS (pv 2) (pv 1) (λ_ _=>rfl)) (cH _)))) (λ_ _ _ _=>(pv 0))) rfl))
  b9)
  (az (aZ (DP dn (di (pv 0) rfl) (pv 2) (λ_ _=>rfl))))),?_⟩
 try dsimp only[bD]
 refine⟨_,rfl,_,rfl,g,C,dx,_,_,rfl,hg,T,nk,Bv ..,kn,_,rfl,dO.k (k:=Sum.inr (bC t a ch)) hk,_,rfl,?_⟩
 cases hv:aL kvs (Sum.inr (bC t a ch):Key) with
 |some v=>exact bf ⟨_,rfl,g,C,dx,_,_,rfl,hg,T,nk,Bv ..,_,rfl,kn,v,rfl,hv ▸ dO.k (k:=Sum.inr (bC t a ch)) hk,q H kvs v (λ_ _ _ e=>e) hk hK (hK.fit _ _ hv)⟩
 |none=>
  refine bz ⟨_,rfl,l,rfl,⟨_,aj.of hl⟩,?_⟩
  have jt:(bC t a ch).length=t.length:=w6 ha
  have hsa:(bC t a ch).cps.toList[a]? = some ch:=by
   have h1:=Bo (x:=t) (j:=a) (ch:=ch) (k:=a) ha ha
   rw[ax rfl,bM] at h1
   have h2:a<(bC t a ch).cps.toList.length:=by show a<(bC t a ch).cps.size;exact(show a<(bC t a ch).length from by omega)
   rw[aU h2] at h1 ⊢
   exact dU some h1
  refine lR (jn (K:=K) (xs:=ws.map V.str)) (by rw[ar];omega) (λk=>decide ((ws.getD k ⟨#[]⟩).cps.toList.getD a 0=ch)) (λ_ k y _=>y = .str (ws.getD k ⟨#[]⟩)) (λH3 s3=>aj.of (s3 _ _ hl)) (λ_ _ _ _ _ _ _ _ h=>h) ?_ ?_
  .intro D k y H3 Z0 Z' hD hy s3 _ k0 k1
   rw[bb] at hy
   obtain⟨x,hx,rfl⟩:=iE.mp hy
   have nZ:ws.getD k ⟨#[]⟩=x:=by rw[bM,hx];rfl
   have Pa:=((hF.mem x).mp (bo hx)).2
   have fF:=(iq.mp Pa).1
   obtain⟨c,hc⟩:∃c,x.cps.toList[a]? = some c:=⟨_,aU (show a<x.cps.toList.length from by show a<x.cps.size;exact(show a<x.length from by omega))⟩
   refine⟨_,rfl,_,rfl,x,_,c,rfl,rfl,fP (by omega),dz hc,_,rfl,_,rfl,_,_,ch,rfl,rfl,fP (by omega),dz hsa,rfl,_,rfl,?_⟩
   rw[A6]
   by_cases z:c=ch
   .rw[aG z]
    exact bz ⟨_,rfl,k1 _ _ (af.cO _) (by show decide _=true;rw[nZ,bM,hc];exact aG z) (by rw[nZ])⟩
   .rw[aF z]
    exact bf (k0 _ (af.cO _) (by show decide _=false;rw[nZ,bM,hc];exact aF z))
  .intro D ys H3 hD bB s3 pr
   have e:=AZ pr
   rw[ar,O8 (λx=>decide (x.cps.toList.getD a 0=ch))] at e
   subst e
   have eY:=s3 _ _ hk
   have nkD:D≠kn:=λz=>by rw[z,hk] at hD;cases hD
   refine⟨_,rfl,g,C,dx,_,_,rfl,s3 _ _ hg,T,nk,Bv ..,_,rfl,kn,_,rfl,lP.k (k:=Sum.inr (bC t a ch)) eY ?_,?_⟩
   .have:=hM (kvs.map (·.1)) hK.nd hK.key
    rw[ar] at this
    exact this
   have hg4:upd H3 kn (.dK (putK kvs (Sum.inr (bC t a ch)) (.ref D))) g=some (.ins C dx (fV sh ce cr wo (.ref kn))):=by
    rw[ak (λz=>by rw[z,hk] at hg;cases hg)]
    exact s3 _ _ hg
   have nw:=hF.narrow ha cY hch
   have c7:gv Z (upd H3 kn (.dK (putK kvs (Sum.inr (bC t a ch)) (.ref D)))) ks wf (bC t a ch) (.ref D):=⟨D,_,rfl,hZ D hD,by rw[ak nkD];exact bB,nw,bA (gD _ _) eN⟩
   refine⟨_,rfl,g,C,dx,_,_,rfl,hg4,T,nk,Bv ..,_,rfl,kn,.ref D,rfl,?_,q _ (putK kvs (Sum.inr (bC t a ch)) (.ref D)) (.ref D) (λb o hb e=>by rw[ak hb];exact s3 _ _ e) au ⟨?_,?_,λx v hx=>?_⟩ c7⟩
   .have e2:aL (putK kvs (Sum.inr (bC t a ch):Key) (.ref D)) (Sum.inr (bC t a ch))=some (.ref D):=by rw[nh,ax rfl]
    exact e2 ▸ dO.k (k:=Sum.inr (bC t a ch)) au
   .rw[tO _ hv,dW]
    refine oI.mpr ⟨hK.nd,by simp,λx mx y my z=>?_⟩
    have e3:y=Sum.inr (bC t a ch):=by simpa using my
    rw[z,e3] at mx
    exact acg hv mx
   .rw[tO _ hv,dW]
    intro k mk
    rcases dh.mp mk with z | z
    .exact hK.key k z
    .exact⟨_,by simpa using z,hm⟩
   .rw[nh] at hx
    by_cases z:(Sum.inr x:Key)=Sum.inr (bC t a ch)
    .rw[ax z] at hx
     cases hx
     injection z with z
     rw[z]
     exact c7
    .rw[aq z] at hx
     refine(hK.fit x v hx).keep λb o e _=>?_
     rw[ak (λw=>by rw[w,hk] at e;cases e)]
     exact s3 _ _ e
end
noncomputable def iu(g p f:V):List (Str×V):=aT "fits" f (aT "patterns" p (aT "ground" g []))
theorem Bx(g p f:V):(iu g p f).lookup ("fits":Str)=some f:=by
 unfold iu
 rw[cW,ax rfl]
theorem xP(g p f:V):(iu g p f).lookup ("patterns":Str)=some p:=by
 unfold iu
 rw[cW,aq (by decide +kernel),cW,ax rfl]
theorem xQ(g p f:V):(iu g p f).lookup ("ground":Str)=some g:=by
 unfold iu
 rw[cW,aq (by decide +kernel),cW,aq (by decide +kernel),cW,ax rfl]
section
variable{P:Program}{w:World}{K:PySem.W.Frag}{mg:Str->Option Value}{base:Heap}{f:Addr}{fd:FuncData}
def G6(C:Addr):Sp:=λvs H Q _=>∃(s dx:Addr) (g p f:V),vs=[.ref s,g,p,f]/\H s=some (.ins C dx [])/\∀H':Hp,H' s=some (.ins C dx (iu g p f))->(∀b o,b≠s->H b=some o->H' b=some o)->Q .aA H'
theorem acj:bc ["self","ground","patterns","fits"] ["self","ground","patterns","fits"] (aS (inClass (top 35) 0)):={}
theorem ack{C:Addr}(F:aW K "__init__" "Standing.__init__" (inClass (top 35) 0) f fd)(T:cI K C)(ng:bO K C "ground")(np:bO K C "patterns")(nf:bO K C "fits"):aM P w K mg base aR 1 f fd ["self","ground","patterns","fits"] (G6 C):=by
 refine F.bG acj λaH A outer s H vs Q E hr h=>?_
 refine hide λG_ aI=>?_
 obtain⟨s,dx,g,p,f,rfl,hs,q⟩:=h
 refine aI.k ?_
 refine⟨_,(av (kD (pv 0) (pv 1) rfl)
  (av (kD (pv 0) (pv 2) rfl)
  (az (kD (pv 0) (pv 3) rfl)))),?_⟩
 try dsimp only[bD]
 refine⟨_,rfl,_,rfl,s,C,dx,[],rfl,hs,T,ng,(by show 0<1000;decide),?_⟩
 refine⟨_,rfl,_,rfl,s,C,dx,_,rfl,au,T,np,(by show 1<1000;decide),?_⟩
 refine⟨_,rfl,_,rfl,s,C,dx,_,rfl,au,T,nf,(by
  have h:¬(Str.ofString "ground")=Str.ofString "patterns":=by decide +kernel
  show(aT (Str.ofString "patterns") p [(Str.ofString "ground",g)]).length<1000
  rw[aT,aq h,aT]
  show 2<1000
  decide),?_⟩
 exact q _ au λb o hb e=>by rw[ak hb,ak hb,ak hb];exact e
theorem acm{x:Str}{ps:List Str}(h:x∈ps):iP (.str x) (ps.map V.str)=true:=by
 unfold iP
 rw[List.any_map,yD]
 exact⟨x,h,by simp[gF]⟩
theorem acn{x:Str}{ps:List Str}(h:x∉ps):iP (.str x) (ps.map V.str)=false:=by
 unfold iP
 rw[List.any_map,Jl]
 intro y my z
 have z:gF (.str y) (.str x)=true:=z
 have:y=x:=by simpa[gF] using z
 exact h (this ▸ my)
theorem aco(ss:List Str)(j:Nat):kG (ss.map V.str) none (some (j:Int))=(ss.take j).map V.str:=by
 unfold kG
 rw[HT.KO,HT.KP,List.drop_zero,Nat.sub_zero,List.map_take,ar]
 rcases Nat.le_total j ss.length with h | h
 .rw[Nat.min_eq_left h]
 .rw[Nat.min_eq_right h,fw (by simp),fw (by simpa using h)]
theorem acp(ss:List Str)(j:Nat):kG (ss.map V.str) (some (j:Int)) none=(ss.drop j).map V.str:=by
 unfold kG
 rw[HT.KO,HT.KP,List.map_drop,ar]
 rcases Nat.le_total j ss.length with h | h
 .rw[Nat.min_eq_left h,fw (by simp)]
 .rw[Nat.min_eq_right h,List.drop_of_length_le (by simp),List.drop_of_length_le (by simpa using h),List.take_nil]
noncomputable def fI(ps:List Str)(pl:Nat):List Str:=ps.take pl++ps.drop (pl+1)
def G7(K:PySem.W.Frag)(C:Addr):Sp:=λvs H Q _=>∃(s dx p fl l:Addr) (g:V) (pats ws:List Str) (fs:List V) (pl:Nat),vs=[.ref s,.int (pl:Int)]/\H s=some (.ins C dx (iu g (.ref p) (.ref fl)))/\H p=some (.lst (pats.map V.str))/\H fl=some (.lst fs)/\fs[pl]? = some (.ref l)/\H l=some (.lst (ws.map V.str))/\pl<pats.length/\pats.length<=200/\ws.length<=64/\
 ∀q H',H q=none->af H H'->H' q=some (.lst ((ws.filter λx=>!decide (x∈fI pats pl)).map V.str))->Q (.ref q) H'
theorem Pb:bc ["self","place","others"] ["self","place"] (aS (inClass (top 35) 3)):={}
theorem acq{C:Addr}(F:aW K "left" "Standing.left" (inClass (top 35) 3) f fd)(T:cI K C)(np:bO K C "patterns")(nf:bO K C "fits"):aM P w K mg base aR 1 f fd ["self","place"] (G7 K C):=by
 refine F.bG Pb λaH A outer s H vs Q E hr h=>?_
 refine hide λG_ aI=>?_
 obtain⟨s,dx,p,fl,l,g,pats,ws,fs,pl,rfl,hs,hp,d6,Pc,hl,hpl,sj,eN,q⟩:=h
 refine aI.k ?_
 refine⟨_,(av (aK (i:=2) Pb.nd rfl (Or.inr rfl) (aO DL (m6 DB (di (pv 0) rfl) lN (lO (pv 1))) (m6 DB (di (pv 0) rfl) (lO (aO eD (pv 1) aE)) lN)))
  (az (aZ (jl (js:=[2]) (ns:=["others"]) (dF (aX fN (di (pv 0) rfl) (pv 1) (λ_ _=>rfl))) rfl rfl rfl rfl (λ_ _ _ _=>(nv (El (K:=K) (rr:=λK=>zt K true) rfl tM (pv 0) (pv 1) rfl))) (λ_ _ _ _=>(pv 0)))))),?_⟩
 try dsimp only[bD]
 have d1:pl<fs.length:=(bZ.mp Pc).1
 refine⟨_,rfl,s,C,dx,_,_,rfl,hs,T,np,xP ..,_,rfl,_,rfl,p,_,rfl,aj.of hp,λq1 e1=>?_⟩
 rw[aco]
 have s1:af H (upd H q1 (.lst ((pats.take pl).map V.str))):=af.upd e1
 have h1:upd H q1 (.lst ((pats.take pl).map V.str)) q1=some (.lst ((pats.take pl).map V.str)):=au
 generalize upd H q1 (.lst ((pats.take pl).map V.str))=H1 at s1 h1
 refine⟨_,rfl,s,C,dx,_,_,rfl,s1 _ _ hs,T,np,xP ..,_,rfl,_,_,rfl,rfl,_,rfl,p,_,rfl,aj.of (s1 _ _ hp),λq2 e2=>?_⟩
 rw[show((pl:Int)+1)=((pl+1:Nat):Int) by omega,acp]
 have s2:af H1 (upd H1 q2 (.lst ((pats.drop (pl+1)).map V.str))):=af.upd e2
 have h2:upd H1 q2 (.lst ((pats.drop (pl+1)).map V.str)) q2=some (.lst ((pats.drop (pl+1)).map V.str)):=au
 generalize upd H1 q2 (.lst ((pats.drop (pl+1)).map V.str))=H2 at s2 h2
 refine⟨q1,q2,_,_,rfl,rfl,s2 _ _ h1,h2,yr (lS (by rw[ar,ar,jF,CL];omega)),λq3 e3=>?_⟩
 have s3:af H2 (upd H2 q3 (.lst ((pats.take pl).map V.str++(pats.drop (pl+1)).map V.str))):=af.upd e3
 have h3:upd H2 q3 (.lst ((pats.take pl).map V.str++(pats.drop (pl+1)).map V.str)) q3=some (.lst ((fI pats pl).map V.str)):=by rw[au];unfold fI;rw[dW]
 generalize upd H2 q3 (.lst ((pats.take pl).map V.str++(pats.drop (pl+1)).map V.str))=H3 at s3 h3
 have fW:=(s1.trans s2).trans s3
 refine⟨_,rfl,s,C,dx,_,_,rfl,fW _ _ hs,T,nf,Bx ..,_,rfl,fl,_,_,.ref l,rfl,rfl,aj.of (fW _ _ d6),dz Pc,l,rfl,⟨_,aj.of (fW _ _ hl)⟩,?_⟩
 refine lR (jn (K:=K) (xs:=ws.map V.str)) (by rw[ar];omega) (λk=>!decide (ws.getD k ⟨#[]⟩∈fI pats pl)) (λ_ k y _=>y = .str (ws.getD k ⟨#[]⟩)) (λH4 s4=>aj.of (s4 _ _ (fW _ _ hl))) (λ_ _ _ _ _ _ _ _ h=>h) ?_ ?_
 .intro D k y H4 Z0 Z' hD hy s4 _ k0 k1
  rw[bb] at hy
  obtain⟨x,hx,rfl⟩:=iE.mp hy
  have nZ:ws.getD k ⟨#[]⟩=x:=by rw[bM,hx];rfl
  have dk:((fI pats pl).map V.str).all jT=true:=by rw[sP];exact iG.mpr λ_ _=>rfl
  refine⟨_,rfl,_,rfl,q3,_,rfl,.inl (aj.of (s4 _ _ h3)),rfl,dk,_,rfl,?_⟩
  rw[ax rfl]
  by_cases z:x∈fI pats pl
  .have e:iP (.str x) ((fI pats pl).map V.str)=true:=acm z
   rw[e]
   exact bf (k0 _ (af.cO _) (by show(!decide _)=false;rw[nZ,aG z];rfl))
  .have e:iP (.str x) ((fI pats pl).map V.str)=false:=acn z
   rw[e]
   exact bz ⟨_,rfl,k1 _ _ (af.cO _) (by show(!decide _)=true;rw[nZ,aF z];rfl) (by rw[nZ])⟩
 .intro D ys H4 hD bB s4 pr
  have e:=AZ pr
  rw[ar,O8 (λx=>!decide (x∈fI pats pl))] at e
  subst e
  refine q D H4 ?_ (fW.trans s4) bB
  cases e:H D with
  |none=>rfl
  |some o=>rw[fW _ _ e] at hD;cases hD
end
theorem acs{K:PySem.W.Frag}{H:Hp}{q:Addr}{ws:List Str}(h:H q=some (.lst (ws.map V.str))):Dp K (.ref q) H (!decide (ws=[])):=by
 refine Or.inl ⟨_,aj.of h,?_⟩
 cases ws <;> rfl
section
variable{P:Program}{w:World}{K:PySem.W.Frag}{mg:Str->Option Value}{base:Heap}{f:Addr}{fd:FuncData}
def Pd(H:Hp)(dE:List (List Str))(fs:List V):Prop:=Paired (λws v=>∃q,v=V.ref q/\H q=some (.lst (ws.map V.str))/\ws.length<=64) dE fs
def G8(C:Addr):Sp:=λvs H Q _=>∃(s dx p fl:Addr) (g:V) (pats:List Str) (dE:List (List Str)) (fs:List V),vs=[.ref s]/\H s=some (.ins C dx (iu g (.ref p) (.ref fl)))/\H p=some (.lst (pats.map V.str))/\H fl=some (.lst fs)/\Pd H dE fs/\dE.length=pats.length/\pats.length<=200/\(∀t∈pats,t.length<=1000)/\
 (((∀t∈pats,46∉t.cps.toList)/\pats.Nodup/\∀ws∈dE,ws≠[])->∀H',af H H'->Q .aA H')/\
 ∀pl H',pl<pats.length->((46∈(pats.getD pl ⟨#[]⟩).cps.toList/\∀j,j<pats.length->46∈(pats.getD j ⟨#[]⟩).cps.toList->(dE.getD pl []).length<=(dE.getD j []).length)\/(46∉(pats.getD pl ⟨#[]⟩).cps.toList/\(pats.getD pl ⟨#[]⟩∈pats.take pl\/dE.getD pl []=[])))->af H H'->Q (.int (pl:Int)) H'
theorem xR:bc ["self","sizes","seen","place","signs"] ["self"] (aS (inClass (top 35) 2)):={}
theorem acu{C:Addr}(B:Bl mg)(nQ:Cn mg "FREE" (.str "."))(F:aW K "narrowest" "Standing.narrowest" (inClass (top 35) 2) f fd)(T:cI K C)(np:bO K C "patterns")(nf:bO K C "fits"):aM P w K mg base aR 1 f fd ["self"] (G8 C):=by
 refine F.bG xR λaH A outer s H vs Q E hr h=>?_
 have dn:=jW hr
 have hu:=hr.units
 have G9:(A.deeper (PyProof.Rows.envOfC "Standing.narrowest" (aS (inClass (top 35) 2)) s.heap.objs.size f aH)).units+4<cLine:=by have:=hr.un;omega
 refine⟨_,(av (aK (i:=1) xR.nd rfl (Or.inl rfl) (dX ai))
  (av (aK (i:=2) xR.nd rfl (Or.inl rfl) DQ)
  (av (cG cF rfl (EF (by rfl) B.xf (ab (di (pv 0) rfl) ai)) (lH rfl (eU (bR (i:=3) xR.nd rfl (Or.inl rfl)) (eU (bR (i:=4) xR.nd rfl (Or.inl rfl)) lG)))
  (az (b6 (cx Dm (ny nQ (by rfl)) (pv 4) rfl)
   (az (dM (fO jc jI jJ hX (pv 1) (ab (fB (ab (bP dY (by rfl) B.cq cn (ab (aX fN (di (pv 0) rfl) (pv 3) (λ_ _=>rfl)) ai)) (ab (pv 3) ai))) ai (hs:=de rfl)))))
   (az (b6 (PW.pt (tj (yX (K9 dn (pv 4) (pv 2))) (tf (mV (tI (aX fN (di (pv 0) rfl) (pv 3) (λ_ _=>rfl)) (by intro _;rfl))))))
    (az (aZ (pv 3)))
    (az (zE dn (pv 2) (pv 4) lE rfl)))))))
  (av (b6 (mV (tI (pv 1) (by intro _;rfl)))
  (az (aZ mU))
  b9)
  (az (aZ (aX cj (bP (XW rfl G9) (by rfl) B.M9 LK (ab (pv 1) ai)) aE (λ_ _=>rfl)))))))),?_⟩
 try dsimp only[bD]
 refine hide λG_ aI=>?_
 obtain⟨s0,dx,p,fl,g,pats,dE,fs,rfl,hs,hp,d6,hF,qZ,sj,hlen,qn,qp⟩:=h
 refine aI.k ?_
 have Hc:=hF.length
 refine⟨bx _,λsz hsz sn hsn=>?_⟩
 have sa:af H (upd H sz (.lst [])):=af.upd hsz
 have sb:af (upd H sz (.lst [])) (upd (upd H sz (.lst [])) sn (.dK [])):=af.upd hsn
 have Hd:sz≠sn:=λz=>by rw[<-z,au] at hsn;cases hsn
 have Pe:upd (upd H sz (.lst [])) sn (.dK []) sz=some (.lst (([]:List Addr).map V.ref)):=by rw[ak Hd];exact au
 have rf:upd (upd H sz (.lst [])) sn (.dK []) sn=some (.dK []):=au
 have acv:H sn=none:=by
  cases e:H sn with
  |none=>rfl
  |some o=>rw[sa _ _ e] at hsn;cases hsn
 have sm:=sa.trans sb
 generalize upd (upd H sz (.lst [])) sn (.dK [])=H0 at sm Pe rf
 refine⟨_,rfl,s0,C,dx,_,_,rfl,sm _ _ hs,T,np,xP ..,p,_,rfl,aj.of (sm _ _ hp),?_⟩
 refine L6 (K:=K) (xs:=pats.map V.str) (λi σ H2=>∃(v3 v4:Option V) (ts:List Addr) (ps:List (Int×Int)) (kvs:List (Key×V)),σ=[some (.ref s0),some (.ref sz),some (.ref sn),v3,v4]/\af H H2/\H2 sz=some (.lst (ts.map V.ref))/\Paired (λt p=>H2 t=some (.tup [.int p.1,.int p.2])) ts ps/\ps.length<=i/\(∀q∈ps,∃k:Nat,q.2=(k:Int)/\k<pats.length/\46∈(pats.getD k ⟨#[]⟩).cps.toList/\q.1=((dE.getD k []).length:Int))/\(∀k,k<i->46∈(pats.getD k ⟨#[]⟩).cps.toList->∃q∈ps,q.1=((dE.getD k []).length:Int))/\H2 sn=some (.dK kvs)/\kvs.length<=i/\(∀x:Str,(aL kvs (Sum.inr x:Key)).isSome=true↔x∈pats.take i/\46∉x.cps.toList)/\(ps=[]->(∀t∈pats.take i,46∉t.cps.toList)/\(pats.take i).Nodup/\∀ws∈dE.take i,ws≠[]))
  ⟨none,none,[],[],[],rfl,sm,Pe,.nil,aQ _,(λ_ m=>nomatch m),(λk hk=>absurd hk (fZ _)),rf,aQ _,λx=>⟨λz=>(by cases z),λz=>(by simp at z)⟩,λ_=>⟨λ_ m=>(by simp at m),(by simp),λ_ m=>(by simp at m)⟩⟩ ?_ ?_ ?_
 .rintro i σ H2 _ ⟨v3,v4,ts,ps,kvs,rfl,s2,_⟩
  exact aj.of (s2 _ _ hp)
 .intro i x pt σ H2 hx acw hpt
  refine hide λG_ aY=>?_
  obtain⟨v3,v4,ts,ps,kvs,rfl,s2,ua,qd,hpl,By,Bz,qS,ju,rm,xS⟩:=acw
  rw[bb] at hx
  obtain⟨t,ht,rfl⟩:=iE.mp hx
  have hi:i<pats.length:=(bZ.mp ht).1
  have xT:pats.getD i ⟨#[]⟩=t:=by rw[bM,ht];rfl
  have gj:pats.take (i+1)=pats.take i++[t]:=by rw[fL,ht];rfl
  obtain⟨ws,hws⟩:∃ws,dE[i]? = some ws:=⟨_,aU (by omega)⟩
  have il:dE.getD i []=ws:=by rw[bM,hws];rfl
  have uL:dE.take (i+1)=dE.take i++[ws]:=by rw[fL,hws];rfl
  obtain⟨fv,xU⟩:∃fv,fs[i]? = some fv:=⟨_,aU (by omega)⟩
  obtain⟨ws',Pf,qa,rfl,jr,BA⟩:=Paired.get hF xU
  refine aY.k ?_
  rw[hws] at Pf
  cases Pf
  have su:af H2 (upd H2 pt (.tup [.int i,.str t])):=af.upd hpt
  refine⟨pt,_,rfl,aw.of au,rfl,_,_,rfl,_,_,rfl,rfl,?_⟩
  have s3:=s2.trans su
  have uM:=su _ _ ua
  have xV:=su _ _ qS
  have He:=Paired.bI qd λa b e=>su _ _ e
  generalize upd H2 pt (.tup [.int i,.str t])=H3 at su s3 uM xV He
  have e46:(!(Builtin.Str.occurrences t (Str.ofString ".") 0 t.length 1).isEmpty)=decide (46∈t.cps.toList):=JN t 46
  refine⟨_,rfl,_,t,rfl,rfl,_,rfl,?_⟩
  rw[e46]
  by_cases hd:46∈t.cps.toList
  .rw[aG hd]
   refine bz ⟨_,rfl,.inl ⟨rfl,_,aj.of uM⟩,_,rfl,s0,C,dx,_,_,rfl,s3 _ _ hs,T,nf,Bx ..,_,rfl,fl,_,_,.ref qa,rfl,rfl,aj.of (s3 _ _ d6),dz xU,qa,_,rfl,.inl (aj.of (s3 _ _ jr)),_,rfl,(show 2<=sizeLine by decide),λu hu=>?_⟩
   have nu:u≠sz:=λz=>by rw[z,uM] at hu;cases hu
   have nsz:sn≠sz:=bj Hd
   refine⟨sz,_,_,rfl,rfl,by rw[ak (bj nu)];exact uM,lS (by rw[ar];have:=qd.length;omega),?_⟩
   have lb:∀b o,b≠sz->H3 b=some o->upd (upd H3 u (.tup [.int ((ws.map V.str).length:Int),.int (i:Int)])) sz (.lst (ts.map V.ref++[.ref u])) b=some o:=λb o hb e=>by rw[ak hb,ak (λz=>by rw[z,hu] at e;cases e)];exact e
   refine⟨_,_,ts++[u],ps++[(((ws.map V.str).length:Int),(i:Int))],kvs,rfl,λb o e=>lb b o (bq e hsz) (s3 _ _ e),by rw[au,dW];rfl,?_,by rw[cQ];simp;omega,?_,?_,lb _ _ nsz xV,by omega,λx=>?_,λz=>by simp at z⟩
   .exact si (Paired.bI He λa b e=>lb _ _ (λz=>by rw[z,uM] at e;cases e) e) (.cons (by rw[ak nu];exact au) .nil)
   .intro q mq
    rcases dh.mp mq with z | z
    .exact By q z
    .rw[cg.mp z]
     exact⟨i,rfl,hi,by rw[xT];exact hd,by rw[il,ar]⟩
   .intro k hk xW
    rcases vI.mp hk with z | z
    .obtain⟨q,mq,eq⟩:=Bz k z xW
     exact⟨q,om _ mq,eq⟩
    .exact⟨_,gU _ bh,by rw[z,il,ar]⟩
   .rw[rm x,gj]
    constructor
    .exact λz=>⟨om _ z.1,z.2⟩
    .rintro⟨z,zz⟩
     rcases dh.mp z with z | z
     .exact⟨z,zz⟩
     .rw[cg.mp z] at zz
      exact absurd hd zz
  .rw[aF hd]
   refine bf ⟨_,rfl,_,rfl,sn,_,rfl,dO.k (k:=Sum.inr t) xV,_,rfl,?_⟩
   cases hv:(aL kvs (Sum.inr t:Key)).isSome with
   |true=>exact bz (bz ⟨_,rfl,qp i H3 hi (.inr ⟨by rw[xT];exact hd,.inl (by rw[xT];exact((rm t).mp hv).1)⟩) s3⟩)
   |false=>
    refine bf ⟨_,rfl,s0,C,dx,_,_,rfl,s3 _ _ hs,T,nf,Bx ..,_,rfl,fl,_,_,.ref qa,rfl,rfl,aj.of (s3 _ _ d6),dz xU,!decide (ws=[]),acs (s3 _ _ jr),?_⟩
    by_cases BB:ws=[]
    .rw[aG BB]
     exact bz ⟨_,rfl,qp i H3 hi (.inr ⟨by rw[xT];exact hd,.inr (by rw[il];exact BB)⟩) s3⟩
    .rw[aF BB]
     have hvn:aL kvs (Sum.inr t:Key)=none:=by
      cases e:aL kvs (Sum.inr t:Key) with
      |none=>rfl
      |some v=>rw[e] at hv;cases hv
     have hnt:t∉pats.take i:=λz=>by
      have:=(rm t).mpr ⟨z,hd⟩
      rw[hv] at this
      cases this
     refine bf ?_
     refine⟨_,rfl,_,rfl,sn,_,rfl,lP.k (k:=Sum.inr t) xV (lS (by omega)),?_⟩
     have lb:∀b o,b≠sn->H3 b=some o->upd H3 sn (.dK (putK kvs (Sum.inr t) (.bl true))) b=some o:=λb o hb e=>by rw[ak hb];exact e
     refine⟨_,_,ts,ps,putK kvs (Sum.inr t) (.bl true),rfl,λb o e=>lb b o (bq e acv) (s3 _ _ e),lb _ _ Hd uM,Paired.bI He (λa b e=>lb _ _ (λz=>by rw[z,xV] at e;cases e) e),by omega,By,(λk hk xW=>by
      rcases vI.mp hk with z | z
      .exact Bz k z xW
      .rw[z,xT] at xW;exact absurd xW hd),au,bA (tN _ _ _) (by omega),λx=>?_,λz=>?_⟩
     .rw[nh,gj]
      by_cases zx:x=t
      .subst zx
       rw[ax rfl]
       exact⟨λ_=>⟨gU _ bh,hd⟩,λ_=>rfl⟩
      .rw[aq (λw=>zx (by injection w)),rm x]
       constructor
       .exact λw=>⟨om _ w.1,w.2⟩
       .rintro⟨w,ww⟩
        rcases dh.mp w with w | w
        .exact⟨w,ww⟩
        .exact absurd (cg.mp w) zx
     .obtain⟨a1,a2,a3⟩:=xS z
      rw[gj,uL]
      refine⟨λx m=>?_,oI.mpr ⟨a2,by simp,λx mx y my w=>?_⟩,λx m=>?_⟩
      .rcases dh.mp m with w | w
       .exact a1 x w
       .rw[cg.mp w];exact hd
      .rw[cg.mp my] at w
       rw[w] at mx
       exact hnt mx
      .rcases dh.mp m with w | w
       .exact a3 x w
       .rw[cg.mp w];exact BB
 .intro σ H2 acx
  refine hide λG_ bK=>?_
  obtain⟨v3,v4,ts,ps,kvs,rfl,s2,ua,qd,hpl,By,Bz,qS,ju,rm,xS⟩:=acx
  refine bK.k ?_
  have mF:=qd.length
  rw[ar,JB] at xS
  rw[<-qZ,JB] at xS
  refine⟨_,rfl,!decide (ps=[]),?_,?_⟩
  .refine Or.inl ⟨_,aj.of ua,?_⟩
   cases ts with
   |nil=>cases ps with
    |nil=>rfl
    |cons _ _=>cases mF
   |cons _ _=>cases ps with
    |nil=>cases mF
    |cons _ _=>rfl
  by_cases fS:ps=[]
  .rw[aG fS]
   exact bz (qn (xS fS) H2 s2)
  .rw[aF fS]
   refine bf ⟨_,rfl,sz,ts,ps,rfl,ua,qd,List.length_pos_iff.mpr fS,λb tt pp hb hpb hmn=>?_⟩
   obtain⟨pp',xX,htt⟩:=Paired.getL qd hb
   rw[hpb] at xX
   cases xX
   obtain⟨k,ek,NV,iR,eY⟩:=By pp (bo hpb)
   refine⟨tt,_,1,.int pp.2,rfl,rfl,aw.of htt,rfl,?_⟩
   rw[ek]
   refine qp k H2 NV (.inl ⟨iR,λj hj acy=>?_⟩) s2
   obtain⟨q,mq,eq⟩:=Bz j (by rw[ar];exact hj) acy
   have:=hmn q mq
   omega
def Hf(K:PySem.W.Frag)(CS CG:Addr):Sp:=λvs H Q _=>∃(s dx g cZ p ce a:Addr) (fv cr wo kn:V) (l m:List Str) (w:Nat) (R:List (List C2)) (xs:List V),vs=[.ref s]/\H s=some (.ins CS dx (iu (.ref g) (.ref p) fv))/\H g=some (.ins CG cZ (fV (.ref a) (.ref ce) cr wo kn))/\H a=some (.tup (l.map V.str))/\H ce=some (.lst xs)/\Paired (j9 H) R xs/\H p=some (.lst ((R.map (ao m)).map V.str))/\bY l w R/\bY m w R/\m.length=l.length/\
 ∀q H',af H H'->H' q=some (.tup (m.map V.str))->Q (.ref q) H'
theorem xY:bc ["self","sheet","cells","signs"] ["self"] (aS (inClass (top 35) 5)):={}
theorem acz{CS CG:Addr}(B:Bl mg)(F:aW K "filled" "Standing.filled" (inClass (top 35) 5) f fd)(TS:cI K CS)(TG:cI K CG)(ng:bO K CS "ground")(np:bO K CS "patterns")(Hg:bO K CG "sheet")(nc:bO K CG "cells")(acA:Fn P w K mg base "put_word" 2 (N0 K)):aM P w K mg base aR 3 f fd ["self"] (Hf K CS CG):=by
 refine F.bG xY λaH A outer s H vs Q E hr h=>?_
 refine hide λG_ aI=>?_
 obtain⟨s0,dx,g,cZ,p,ce,a,fv,cr,wo,kn,l,m,wd,R,xs,rfl,hs,hg,ha,mG,hR,hp,FL,FM,n5,q⟩:=h
 refine aI.k ?_
 refine⟨_,(av (aK (i:=1) xY.nd rfl (Or.inl rfl) (di (di (pv 0) rfl) rfl))
  (av (cG cF rfl (Ab .L .L (by rfl) B.AG (ab (di (di (pv 0) rfl) rfl) (ab (di (pv 0) rfl) ai))) (lH rfl (eU (bR (i:=2) xY.nd rfl (Or.inl rfl)) (eU (bR (i:=3) xY.nd rfl (Or.inl rfl)) lG)))
  (az (aK (i:=1) xY.nd rfl (Or.inl rfl) (aV acA (hr.mono (by decide)) (by rfl) (ab (pv 1) (ab (pv 2) (ab (pv 3) ai)))))))
  (az (aZ (pv 1))))),?_⟩
 try dsimp only[bD]
 have fF:=hR.length
 refine⟨_,rfl,s0,CS,dx,_,_,rfl,hs,TS,ng,xQ ..,g,CG,cZ,_,_,rfl,hg,TG,Hg,acf ..,?_⟩
 refine⟨_,rfl,s0,CS,dx,_,_,rfl,hs,TS,ng,xQ ..,g,CG,cZ,_,_,rfl,hg,TG,nc,O7 ..,_,rfl,s0,CS,dx,_,_,rfl,hs,TS,np,xP ..,_,_,rfl,⟨_,ce,rfl,aj.of mG⟩,⟨_,p,rfl,aj.of hp⟩,?_⟩
 have lZ:min xs.length ((R.map (ao m)).map V.str).length=R.length:=by rw[ar,ar];omega
 refine Ac (K:=K) (k1 := .L) (k2 := .L) (xs:=xs) (ys:=(R.map (ao m)).map V.str) (λi σ H2=>∃v2 v3 qa,σ=[some (.ref s0),some (.ref qa),v2,v3]/\af H H2/\H2 qa=some (.tup ((j8 l R m i).map V.str)))
  ⟨none,none,a,rfl,af.cO _,ha⟩ ?_ ?_ ?_
 .intro i σ H2 _ acB
  refine hide λG_ aY=>?_
  obtain⟨v2,v3,qa,rfl,s2,_⟩:=acB
  refine aY.k ?_
  exact⟨⟨_,rfl,aj.of (s2 _ _ mG)⟩,_,rfl,aj.of (s2 _ _ hp)⟩
 .intro i x y pt σ H2 hx hy acC hpt
  refine hide λG_ bK=>?_
  obtain⟨v2,v3,qa,rfl,s2,hq⟩:=acC
  obtain⟨row,hrow,t,ys,rfl,ht,kU⟩:=Paired.get hR hx
  refine bK.k ?_
  have mE:ah R i=row:=by unfold ah;rw[bM,hrow];rfl
  have hyv:y = .str (ao m (ah R i)):=by
   rw[bb,bb,hrow] at hy
   cases hy
   rw[mE]
  subst hyv
  have su:af H2 (upd H2 pt (.tup [.ref t,.str (ao m (ah R i))])):=af.upd hpt
  refine⟨pt,_,rfl,aw.of au,rfl,_,_,rfl,_,_,rfl,rfl,?_⟩
  have s3:=s2.trans su
  have xN:=su _ _ hq
  generalize upd H2 pt (.tup [.ref t,.str (ao m (ah R i))])=H3 at su s3 xN
  refine⟨_,rfl,_,rfl,_,rfl,qa,t,j8 l R m i,wd,ah R i,ys,ao m (ah R i),rfl,xN,uE FL i,s3 _ _ ht,by rw[mE];exact kU.mono s3,λc hc=>by rw[qb];exact FL.jC i c hc,λq' H' s' jh=>?_⟩
  exact⟨_,_,q',rfl,s3.trans s',jh⟩
 .intro σ H2 acD
  refine hide λG_ cE=>?_
  obtain⟨v2,v3,qa,rfl,s2,hq⟩:=acD
  refine cE.k ?_
  rw[lZ,abR FL FM n5] at hq
  exact⟨_,rfl,q qa H2 s2 hq⟩
theorem acE(sh ce cr wo kn:V):(fV sh ce cr wo kn).lookup ("narrowed":Str)=none:=by
 unfold fV
 rw[cW,aq (by decide +kernel),cW,aq (by decide +kernel),cW,aq (by decide +kernel),cW,aq (by decide +kernel),cW,aq (by decide +kernel)]
 rfl
theorem gv.weak{Z Z':Addr->Prop}{H:Hp}{ks:List Str}{wf:Str->Int}{t:Str}{v:V}(k:∀b o,Z b->H b=some o->Z' b)(h:gv Z H ks wf t v):gv Z' H ks wf t v:=let ⟨q,ws,e,z,a,b,c⟩:=h;⟨q,ws,e,k _ _ z a,a,b,c⟩
theorem gR.weak{Z Z':Addr->Prop}{M:Str->Prop}{H:Hp}{ks:List Str}{wf:Str->Int}{kvs:List (Key×V)}(k:∀b o,Z b->H b=some o->Z' b)(h:gR Z M H ks wf kvs):gR Z' M H ks wf kvs:=⟨h.nd,h.key,λx v e=>(h.fit x v e).weak k⟩
theorem gR.keep{Z:Addr->Prop}{M:Str->Prop}{H H':Hp}{ks:List Str}{wf:Str->Int}{kvs:List (Key×V)}(k:∀b o,H b=some (.lst o)->Z b->H' b=some (.lst o))(h:gR Z M H ks wf kvs):gR Z M H' ks wf kvs:=⟨h.nd,h.key,λx v e=>(h.fit x v e).keep k⟩
theorem Hh{α β:Type}{R:α->β->Prop}:∀{xs:List α}{ys:List β}{i:Nat}{x:α}{y:β},Paired R xs ys->R x y->Paired R (xs.set i x) (ys.set i y)
 |_,_,_,_,_,.nil,_=>.nil
 |_,_,0,_,_,.cons _ t,h=>.cons h t
 |_,_,i+1,_,_,.cons g t,h=>.cons g (Hh t h)
structure acF(Z:Addr->Prop)(M:Str->Prop)(H:Hp)(CS CG s dx g cZ p fl cy kn:Addr)(sh ce wo:V)(m ks:List Str)(wf:Str->Int)(w pl:Nat)(R:List (List C2))(fs cs:List V)(x:Str)(kvs:List (Key×V)):Prop where
 e1:H s=some (.ins CS dx (iu (.ref g) (.ref p) (.ref fl)))
 e2:H g=some (.ins CG cZ (fV sh ce (.ref cy) wo (.ref kn)))
 e3:H kn=some (.dK kvs)
 e4:gR Z M H ks wf kvs
 e5:Bw M
 e6:H p=some (.lst ((R.map (ao m)).map V.str))
 e7:H fl=some (.lst fs)
 e8:Paired (gv Z H ks wf) (R.map (ao m)) fs
 e9:H cy=some (.lst cs)
 e10:Paired (λi x=>∃q us,x=V.ref q/\H q=some (.lst us)/\br H (j6 R i) us) (List.range R.length) cs
 Lu:bY m w R
 e12:pl<R.length
 Ap:R.length<=200
 Pg:cA x (ao m (ah R pl))=true
 e15:x∈ks
 e16:46∉x.cps.toList
 e17:∀q,H q=none->Z q
 e18:∀k i,i<R.length->46∈(ao m (ah R i)).cps.toList->M (ao (putL m ((ah R pl).take k) (x.cps.toList.take k)) (ah R i))
structure acG(Z:Addr->Prop)(M:Str->Prop)(H H':Hp)(CS g kn s dx p fl:Addr)(m ks:List Str)(wf:Str->Int)(pl:Nat)(R:List (List C2))(fs:List V)(x:Str)(kvs:List (Key×V)):Prop where
 e1:H p=none
 e2:H fl=none
 e3:∀b o,b≠kn->H b=some o->H' b=some o
 e4:H' kn=some (.dK kvs)
 e5:gR Z M H' ks wf kvs
 e6:H' s=some (.ins CS dx (iu (.ref g) (.ref p) (.ref fl)))
 e7:H' p=some (.lst ((R.map (ao (putL m (ah R pl) x.cps.toList))).map V.str))
 e8:H' fl=some (.lst fs)
 e9:Paired (gv Z H' ks wf) (R.map (ao (putL m (ah R pl) x.cps.toList))) fs
def Hj(K:PySem.W.Frag)(CS CG:Addr):Sp:=λvs H Q _=>∃(s dx g cZ p fl cy kn:Addr) (sh ce wo:V) (m ks:List Str) (wf:Str->Int) (w pl:Nat) (R:List (List C2)) (fs cs:List V) (x:Str) (kvs:List (Key×V)) (Z:Addr->Prop) (M:Str->Prop),vs=[.ref s,.int (pl:Int),.str x]/\acF Z M H CS CG s dx g cZ p fl cy kn sh ce wo m ks wf w pl R fs cs x kvs/\∀(s' n6 p' cf:Addr) vK uK H',acG Z M H H' CS g kn s' n6 p' cf m ks wf pl R vK x uK->Q (.ref s') H'
structure acH(Z:Addr->Prop)(M:Str->Prop)(H H2:Hp)(p' cf kn:Addr)(m ks:List Str)(wf:Str->Int)(pl i:Nat)(R:List (List C2))(x:Str)(ps:List Str)(fJ:List V)(gw:List (Key×V)):Prop where
 e1:∀b o,b≠kn->H b=some o->H2 b=some o
 e2:H2 kn=some (.dK gw)
 e3:gR (λb=>Z b/\b≠p'/\b≠cf) M H2 ks wf gw
 e4:H2 p'=some (.lst (ps.map V.str))
 e5:H2 cf=some (.lst fJ)
 e6:mD R m pl x i ps
 e7:Paired (gv (λb=>Z b/\b≠p'/\b≠cf) H2 ks wf) ps fJ
theorem qe:bc ["self","place","word","patterns","fits","letter","crossing","other","at","before"] ["self","place","word"] (aS (inClass (top 35) 1)):={}
theorem acI{CS CG:Addr}(B:Bl mg)(nQ:Cn mg "FREE" (.str "."))(F:aW K "after" "Standing.after" (inClass (top 35) 1) f fd)(TS:cI K CS)(TG:cI K CG)(ng:bO K CS "ground")(np:bO K CS "patterns")(nf:bO K CS "fits")(nx:bO K CG "crossings")(uN:Nw P w K mg base "Standing" CS 1 (G6 CS))(Hk:Mt P w K mg base CG "narrowed" 1 (O9 K CG) []):aM P w K mg base aR 3 f fd ["self","place","word"] (Hj K CS CG):=by
 refine F.bG qe λaH A outer s H vs Q E hr h=>?_
 refine hide λG_ aI=>?_
 obtain⟨s0,dx,g,cZ,p,fl,cy,kn,sh,ce,wo,m,ks,wf,wd,pl,R,fs,cs,x,kvs,Z,M,rfl,⟨hs,hg,cL,hK,hM,hp,d6,uO,hcr,Ph,FL,hpl,sj,c7,iw,BC,hZ,hMk⟩,q⟩:=h
 refine aI.k ?_
 refine⟨_,(av (aK (i:=3) qe.nd rfl (Or.inl rfl) (jR wb (by rfl) B.xc wB (ab (di (pv 0) rfl) ai)))
  (av (aK (i:=4) qe.nd rfl (Or.inl rfl) (jR wb (by rfl) B.xc wB (ab (di (pv 0) rfl) ai)))
  (av (cG cF rfl (Ab .S .L (by rfl) B.AG (ab (pv 2) (ab (aX fN (di (di (pv 0) rfl) rfl) (pv 1) (λ_ _=>rfl)) ai))) (lH rfl (eU (bR (i:=5) qe.nd rfl (Or.inl rfl)) (eU (bR (i:=6) qe.nd rfl (Or.inl rfl)) lG)))
  (av (aK (i:=7) qe.nd rfl (Or.inl rfl) (aX cj (pv 6) aE (λ_ _=>rfl)))
   (av (aK (i:=8) qe.nd rfl (Or.inl rfl) (aX cj (pv 6) aE (λ_ _=>rfl)))
   (av (aK (i:=9) qe.nd rfl (Or.inl rfl) (aX fN (pv 3) (pv 7) (λ_ _=>rfl)))
   (az (b6 (cx oZ (aX jS (pv 9) (pv 8) (λ_ _=>rfl)) (ny nQ (by rfl)) (cH _))
   (av (qM (aO qP (aO qP (m6 tR (pv 9) lN (lO (pv 8))) (pv 5)) (m6 tR (pv 9) (lO (aO eD (pv 8) aE)) lN)) (tm (pv 3) (pv 7) set_list))
    (az (qM (nA Hk (hr.mono (by decide)) (di (pv 0) rfl) (ab (aX fN (pv 4) (pv 7) (λ_ _=>rfl)) (ab (aX fN (pv 3) (pv 7) (λ_ _=>rfl)) (ab (pv 8) ai)))) (tm (pv 4) (pv 7) set_list))))
   b9))))))
  (av (qM (pv 2) (tm (pv 3) (pv 1) set_list))
  (av (qM (dX (ab (pv 2) ai)) (tm (pv 4) (pv 1) set_list))
  (az (aZ (Ae uN (hr.mono (by decide)) (by rfl) (ab (di (pv 0) rfl) (ab (pv 3) (ab (pv 4) ai))))))))))),?_⟩
 try dsimp only[bD]
 have Hc:=uO.length
 rw[ar] at Hc
 have fF:x.length=(ah R pl).length:=by rw[(iq.mp c7).1,eJ]
 have h9:=(FL.len hpl).2
 refine⟨_,rfl,s0,CS,dx,_,_,rfl,hs,TS,np,xP ..,p,_,rfl,.inl (aj.of hp),λp' fc=>?_⟩
 have s1:af H (upd H p' (.lst ((R.map (ao m)).map V.str))):=af.upd fc
 refine⟨_,rfl,s0,CS,dx,_,_,rfl,s1 _ _ hs,TS,nf,Bx ..,fl,_,rfl,.inl (aj.of (s1 _ _ d6)),λcf BD=>?_⟩
 have s2:af (upd H p' (.lst ((R.map (ao m)).map V.str))) (upd (upd H p' (.lst ((R.map (ao m)).map V.str))) cf (.lst fs)):=af.upd BD
 have Pj:H cf=none:=s1.free BD
 have xZ:p'≠cf:=λz=>by rw[<-z,au] at BD;cases BD
 have Pk:upd (upd H p' (.lst ((R.map (ao m)).map V.str))) cf (.lst fs) p'=some (.lst ((R.map (ao m)).map V.str)):=by rw[ak xZ];exact au
 have Pl:upd (upd H p' (.lst ((R.map (ao m)).map V.str))) cf (.lst fs) cf=some (.lst fs):=au
 have sm:=s1.trans s2
 generalize upd (upd H p' (.lst ((R.map (ao m)).map V.str))) cf (.lst fs)=H0 at sm Pk Pl
 clear s1 s2
 refine hide λG_ aY=>?_
 obtain⟨cv,k6⟩:∃cv,cs[pl]? = some cv:=⟨_,aU (by have:=Ph.length;rw[iH] at this;omega)⟩
 obtain⟨pl',Pm,qa,us,rfl,jr,lb⟩:=Paired.get Ph k6
 refine aY.k ?_
 have epl:pl'=pl:=by
  rw[oG hpl] at Pm
  exact(c9 Pm).symm
 rw[epl] at lb
 have GW:us.length=(ah R pl).length:=by rw[<-lb.length,abJ FL.good]
 refine⟨_,rfl,_,rfl,s0,CS,dx,_,_,rfl,sm _ _ hs,TS,ng,xQ ..,g,CG,cZ,_,_,rfl,sm _ _ hg,TG,nx,ace ..,_,rfl,cy,_,_,.ref qa,rfl,rfl,aj.of (sm _ _ hcr),dz k6,_,_,rfl,⟨_,x,rfl,rfl⟩,⟨_,qa,rfl,aj.of (sm _ _ jr)⟩,?_⟩
 have i9:∀b o,H b=some o->b≠p'/\b≠cf:=λb o e=>⟨bq e fc,bq e Pj⟩
 have lZ:min (x.cps.toList.map λc=>V.str ⟨#[c]⟩).length us.length=(ah R pl).length:=by rw[ar,b8];omega
 refine Ac (K:=K) (k1 := .S) (k2 := .L) (xs:=x.cps.toList.map λc=>V.str ⟨#[c]⟩) (ys:=us) (λi σ H2=>∃v5 v6 v7 v8 v9 ps fJ gw,σ=[some (.ref s0),some (.int (pl:Int)),some (.str x),some (.ref p'),some (.ref cf),v5,v6,v7,v8,v9]/\acH Z M H H2 p' cf kn m ks wf pl i R x ps fJ gw)
  ⟨none,none,none,none,none,R.map (ao m),fs,kvs,rfl,⟨λb o _ e=>sm _ _ e,sm _ _ cL,?_,Pk,Pl,mD.zero hpl,?_⟩⟩ ?_ ?_ ?_
 .exact(hK.weak λb o z e=>⟨z,i9 b o e⟩).keep λb o e _=>sm _ _ e
 .exact Paired.bI uO λt v e=>(e.weak λb o z e=>⟨z,i9 b o e⟩).keep λb o e _=>sm _ _ e
 .intro i σ H2 _ acJ
  refine hide λG_ bK=>?_
  obtain⟨v5,v6,v7,v8,v9,ps,fJ,gw,rfl,SI⟩:=acJ
  refine bK.k ?_
  exact⟨⟨_,rfl,rfl⟩,_,rfl,aj.of (SI.e1 _ _ (b0 jr cL (by intro z;cases z)) jr)⟩
 .intro i cv y pt σ H2 k6 hy acK hpt
  refine hide λG_ cE=>?_
  obtain⟨v5,v6,v7,v8,v9,ps,fJ,gw,rfl,⟨off,iR,BE,fE,BF,AI,nX⟩⟩:=acK
  rw[bb] at k6
  obtain⟨ch,hch,rfl⟩:=iE.mp k6
  obtain⟨pp,wN,u,rfl,hu⟩:=Paired.get lb hy
  have hi:i<(ah R pl).length:=by rw[<-GW];exact(bZ.mp hy).1
  obtain⟨c,hc⟩:∃c,(ah R pl)[i]? = some c:=⟨_,aU hi⟩
  obtain⟨pp',xX,CR⟩:=abK FL.good hc
  refine cE.k ?_
  rw[wN] at xX
  cases xX
  refine hide λG_ eB=>?_
  obtain⟨b,hb,Pn,nB,hb9,ay,an⟩:=AI.step FL c7 hc hch CR
  refine eB.k ?_
  have su:af H2 (upd H2 pt (.tup [.str ⟨#[ch]⟩,.ref u])):=af.upd hpt
  refine⟨pt,_,rfl,aw.of au,rfl,_,_,rfl,_,_,rfl,rfl,?_⟩
  have iy:∀b o,b≠kn->H b=some o->upd H2 pt (.tup [.str ⟨#[ch]⟩,.ref u]) b=some o:=λb o n e=>su _ _ (off b o n e)
  have eY:=su _ _ iR
  have ka:=su _ _ fE
  have qf:=su _ _ BF
  have n8:=BE.keep λb o e _=>su _ _ e
  have jD:=Paired.bI nX λt v e=>e.keep λb o e _=>su _ _ e
  generalize upd H2 pt (.tup [.str ⟨#[ch]⟩,.ref u])=H3 at iy eY ka qf n8 jD
  clear su iR fE BF BE nX off hpt
  have Po:H3 u=some (.tup [.int (pp.1:Int),.int (pp.2:Int)]):=iy _ _ (b0 hu cL (by intro z;cases z)) hu
  have mF:ps.length=R.length:=AI.len
  have jZ:(ps.map V.str)[pp.1]? = some (.str b):=by rw[bb,hb];rfl
  refine⟨_,rfl,u,_,0,.int (pp.1:Int),rfl,rfl,aw.of Po,rfl,?_⟩
  refine⟨_,rfl,u,_,1,.int (pp.2:Int),rfl,rfl,aw.of Po,rfl,?_⟩
  refine⟨_,rfl,_,rfl,p',_,_,.str b,rfl,rfl,aj.of ka,dz jZ,?_⟩
  refine⟨_,rfl,_,rfl,b,_,sg m c,rfl,rfl,fP (by omega),dz Pn,rfl,_,rfl,?_⟩
  rw[AK,A6]
  by_cases cY:sg m c=46
  .rw[aG cY]
   have l1:(Txt.slice b none (some (pp.2:Int))).length<=100:=bA (vD b _ _) (by omega)
   have l2:(Txt.slice b (some ((pp.2:Int)+1)) none).length<=100:=bA (vD b _ _) (by omega)
   refine bz ⟨_,rfl,_,rfl,_,rfl,b,rfl,fP (by omega),_,rfl,_,_,rfl,rfl,fP (by show _+1<=_;omega),?_⟩
   refine⟨_,rfl,_,rfl,_,_,rfl,rfl,_,rfl,b,rfl,fP (by omega),_,_,rfl,rfl,fP ?_,?_⟩
   .rw[<-b8,pI,cQ,b8]
    show _+1+_<=_
    omega
   have eg:=Fi (x:=b) (j:=pp.2) (ch:=ch) (FV (by omega)) (FW (by omega))
   refine⟨_,rfl,_,rfl,p',_,_,pp.1,rfl,rfl,ka,tS (by rw[ar,mF];exact CR.lt),?_⟩
   rw[eg]
   have A1:=ay cY
   have BG:kn≠p':=(i9 _ _ cL).1
   have BH:kn≠cf:=(i9 _ _ cL).2
   have uP:∀b' o,b'≠kn->H b'=some o->upd H3 p' (.lst ((ps.map V.str).set pp.1 (.str (bC b pp.2 ch)))) b'=some o:=λb' o n e=>by rw[ak (i9 _ _ e).1];exact iy b' o n e
   have x4:upd H3 p' (.lst ((ps.map V.str).set pp.1 (.str (bC b pp.2 ch)))) kn=some (.dK gw):=by rw[ak BG];exact eY
   have BI:upd H3 p' (.lst ((ps.map V.str).set pp.1 (.str (bC b pp.2 ch)))) p'=some (.lst ((ps.set pp.1 (bC b pp.2 ch)).map V.str)):=by rw[au,List.map_set]
   have BJ:upd H3 p' (.lst ((ps.map V.str).set pp.1 (.str (bC b pp.2 ch)))) cf=some (.lst fJ):=by rw[ak (bj xZ)];exact qf
   have Hl:gR (λb=>Z b/\b≠p'/\b≠cf) M (upd H3 p' (.lst ((ps.map V.str).set pp.1 (.str (bC b pp.2 ch))))) ks wf gw:=n8.keep λb' o e z=>by rw[ak z.2.1];exact e
   have qg:Paired (gv (λb=>Z b/\b≠p'/\b≠cf) (upd H3 p' (.lst ((ps.map V.str).set pp.1 (.str (bC b pp.2 ch))))) ks wf) ps fJ:=Paired.bI jD λt v e=>e.keep λb' o e z=>by rw[ak z.2.1];exact e
   have Hm:∀b',upd H3 p' (.lst ((ps.map V.str).set pp.1 (.str (bC b pp.2 ch)))) b'=none->H b'=none/\b'≠p'/\b'≠cf:=λb' e=>by
    refine⟨?_,(λz=>by rw[z,BI] at e;cases e),(λz=>by rw[z,BJ] at e;cases e)⟩
    cases eb:H b' with
    |none=>rfl
    |some o=>
     by_cases zk:b'=kn
     .rw[zk,x4] at e;cases e
     .rw[uP b' o zk eb] at e;cases e
   generalize upd H3 p' (.lst ((ps.map V.str).set pp.1 (.str (bC b pp.2 ch))))=H4 at uP x4 BI BJ Hl qg Hm
   refine hide λG_ kZ=>?_
   obtain⟨lv,wH,l,ws,rfl,zl,hl4,x5,BA⟩:=Paired.getL qg hb
   refine kZ.k ?_
   have acL:((ps.set pp.1 (bC b pp.2 ch)).map V.str)[pp.1]? = some (.str (bC b pp.2 ch)):=by
    rw[bb,vt (by rw[mF];exact CR.lt)]
    rfl
   have acM:b.cps.toList.getD pp.2 0=46:=by rw[bS Pn];exact cY
   have acN:ch≠46:=λz=>BC (by rw[<-z];exact bo hch)
   have hMb:M (bC b pp.2 ch):=by
    have e1:=A1.i7 pp.1 CR.lt CR.ne
    rw[vt (by rw[mF];exact CR.lt)] at e1
    rw[c9 e1]
    exact hMk (i+1) pp.1 CR.lt (by rw[jB,<-cY];exact kj (bo CR.ix))
   refine⟨_,rfl,s0,CS,dx,_,_,rfl,uP _ _ (b0 hs cL (by intro z;cases z)) hs,TS,ng,xQ ..,g,cZ,_,rfl,uP _ _ (b0 hg cL (by intro z;cases z)) hg,acE ..,?_⟩
   refine⟨_,rfl,_,rfl,cf,_,_,.ref l,rfl,rfl,aj.of BJ,dz wH,_,rfl,_,rfl,p',_,_,.str (bC b pp.2 ch),rfl,rfl,aj.of BI,dz acL,_,rfl,?_⟩
   refine⟨g,cZ,l,kn,sh,ce,.ref cy,wo,ws,ks,wf,b,pp.2,ch,gw,(λb=>Z b/\b≠p'/\b≠cf),M,rfl,uP _ _ (b0 hg cL (by intro z;cases z)) hg,x4,Hl,hM,hl4,x5,BA,nB,by omega,acM,acN,hMb,λb' e=>⟨hZ b' (Hm b' e).1,(Hm b' e).2⟩,λH5 kv5 v o5 sk Hn hFv=>?_⟩
   have BK:=o5 _ _ (bj BH) BJ
   refine⟨_,rfl,_,rfl,cf,_,_,pp.1,rfl,rfl,BK,tS (by rw[<-qg.length,mF];exact CR.lt),?_⟩
   refine⟨_,_,_,_,_,ps.set pp.1 (bC b pp.2 ch),fJ.set pp.1 v,kv5,rfl,⟨λb' o n e=>?_,?_,?_,?_,au,A1,?_⟩⟩
   .rw[ak (i9 _ _ e).2]
    exact o5 _ _ n (uP b' o n e)
   .rw[ak BH];exact sk
   .exact Hn.keep λb' o e z=>by rw[ak z.2.2];exact e
   .rw[ak xZ];exact o5 _ _ (bj BG) BI
   .refine Hh (Paired.bI qg λt v' e=>e.keep λb' o e z=>?_) (hFv.keep λb' o e z=>by rw[ak z.2.2];exact e)
    rw[ak z.2.2]
    exact o5 _ _ (b0 e x4 (by intro z;cases z)) e
  .rw[aF cY]
   exact bf ⟨_,_,_,_,_,ps,fJ,gw,rfl,⟨iy,eY,n8,ka,qf,an cY,jD⟩⟩
 .intro σ H2 acO
  refine hide λG_ k4=>?_
  obtain⟨v5,v6,v7,v8,v9,ps,fJ,gw,rfl,⟨off,iR,BE,fE,BF,AI,nX⟩⟩:=acO
  refine k4.k ?_
  rw[lZ] at AI
  have mF:ps.length=R.length:=AI.len
  have BG:kn≠p':=(i9 _ _ cL).1
  have BH:kn≠cf:=(i9 _ _ cL).2
  refine⟨_,rfl,_,rfl,_,rfl,p',_,_,pl,rfl,rfl,fE,tS (by rw[ar,mF];exact hpl),?_⟩
  have ed:=AI.done FL fF hpl
  have ka:upd H2 p' (.lst ((ps.map V.str).set pl (.str x))) p'=some (.lst ((R.map (ao (putL m (ah R pl) x.cps.toList))).map V.str)):=by rw[au,<-List.map_set,ed]
  have iy:∀b' o,b'≠kn->H b'=some o->upd H2 p' (.lst ((ps.map V.str).set pl (.str x))) b'=some o:=λb' o n e=>by rw[ak (i9 _ _ e).1];exact off b' o n e
  have eY:upd H2 p' (.lst ((ps.map V.str).set pl (.str x))) kn=some (.dK gw):=by rw[ak BG];exact iR
  have qf:upd H2 p' (.lst ((ps.map V.str).set pl (.str x))) cf=some (.lst fJ):=by rw[ak (bj xZ)];exact BF
  have n8:gR (λb=>Z b/\b≠p'/\b≠cf) M (upd H2 p' (.lst ((ps.map V.str).set pl (.str x)))) ks wf gw:=BE.keep λb' o e z=>by rw[ak z.2.1];exact e
  have jD:Paired (gv (λb=>Z b/\b≠p'/\b≠cf) (upd H2 p' (.lst ((ps.map V.str).set pl (.str x)))) ks wf) ps fJ:=Paired.bI nX λt v e=>e.keep λb' o e z=>by rw[ak z.2.1];exact e
  generalize upd H2 p' (.lst ((ps.map V.str).set pl (.str x)))=H3 at iy eY ka qf n8 jD
  refine⟨_,rfl,(by show 1<=sizeLine;decide),λl hl=>⟨_,rfl,_,rfl,cf,fJ,_,pl,rfl,rfl,?_,tS (by rw[<-nX.length,mF];exact hpl),?_⟩⟩
  .rw[ak (λz=>by rw[<-z,qf] at hl;cases hl)]
   exact qf
  have nlp:l≠p':=λz=>by rw[z,ka] at hl;cases hl
  have nlf:l≠cf:=λz=>by rw[z,qf] at hl;cases hl
  have nlk:kn≠l:=λz=>by rw[<-z,eY] at hl;cases hl
  have hlH:H l=none:=by
   cases eb:H l with
   |none=>rfl
   |some o=>
    rw[iy l o (bj nlk) eb] at hl;cases hl
  have h5:∀b o,b≠cf->H3 b=some o->upd (upd H3 l (.lst [.str x])) cf (.lst (fJ.set pl (.ref l))) b=some o:=λb o n e=>by rw[ak n,ak (bq e hl)];exact e
  have Pp:upd (upd H3 l (.lst [.str x])) cf (.lst (fJ.set pl (.ref l))) l=some (.lst ([x].map V.str)):=by rw[ak nlf];exact au
  have BK:upd (upd H3 l (.lst [.str x])) cf (.lst (fJ.set pl (.ref l))) cf=some (.lst (fJ.set pl (.ref l))):=au
  generalize upd (upd H3 l (.lst [.str x])) cf (.lst (fJ.set pl (.ref l)))=H5 at h5 Pp BK
  have nO:∀b' o,b'≠kn->H b'=some o->H5 b'=some o:=λb' o n e=>h5 _ _ (i9 _ _ e).2 (iy b' o n e)
  have Ho:=nO _ _ (b0 hs cL (by intro z;cases z)) hs
  refine⟨_,rfl,s0,CS,dx,_,_,rfl,Ho,TS,ng,xQ ..,_,rfl,_,rfl,λs' n6 rn Hq cJ=>⟨s',n6,.ref g,.ref p',.ref cf,rfl,au,λH' h1 h2=>⟨rfl,?_⟩⟩⟩
  have h6:∀b o,H5 b=some o->H' b=some o:=λb o e=>h2 _ _ (λz=>by rw[z,rn] at e;cases e) (by rw[ak (λz=>by rw[z,rn] at e;cases e),ak (λz=>by rw[z,Hq] at e;cases e)];exact e)
  have rW:=h5 _ _ xZ ka
  have sk:=h5 _ _ BH eY
  refine q s' n6 p' cf _ gw H' ⟨fc,Pj,λb o n e=>h6 _ _ (nO b o n e),h6 _ _ sk,?_,h1,h6 _ _ rW,h6 _ _ BK,?_⟩
  .exact(n8.keep λb o e z=>h6 _ _ (h5 _ _ z.2.2 e)).weak λb o z _=>z.1
  .rw[<-ed]
   refine Hh (Paired.bI jD λt v e=>(e.keep λb o e z=>h6 _ _ (h5 _ _ z.2.2 e)).weak λb o z _=>z.1) ?_
   exact⟨l,[x],rfl,hZ l hlH,h6 _ _ Pp,k9.one iw BC,by show 1<=64;decide⟩
end
theorem lg(f:Str)(v:V):∀fs:List (Str×V),(aT f v fs).length<=fs.length+1
 |[]=>aQ _
 |(g,u)::r=>by
  unfold aT
  split
  .exact gC _
  .exact lA (lg f v r)
theorem aw.acP{K:PySem.W.Frag}{H H':Hp}{a g:Addr}{xs:List V}{C dx:Addr}{fs:List (Str×V)}(hg:H g=some (.ins C dx fs))(k:∀b o,b≠g->H b=some o->H' b=some o)(h:aw K H a xs):aw K H' a xs:=by
 rcases h with (h | ⟨o,h⟩) | h
 .exact .inl (.inl (k _ _ (b0 h hg (by intro z;cases z)) h))
 .exact .inl (.inr ⟨o,k _ _ (b0 h hg (by intro z;cases z)) h⟩)
 .exact .inr h
theorem j9.off{H H':Hp}{D:Addr}{r:List C2}{x:V}(hD:∃o,H D=some (.lst o))(k:∀b o,b≠D->H b=some o->H' b=some o)(h:j9 H r x):j9 H' r x:=by
 obtain⟨t,ys,e,ht,hc⟩:=h
 obtain⟨o,ho⟩:=id hD
 exact⟨t,ys,e,k _ _ (b0 ht ho (by intro z;cases z)) ht,hc.off hD k⟩
theorem j9.gb{H H':Hp}{r:List C2}{x:V}(k:∀b o,H b=some (.tup o)->H' b=some (.tup o))(h:j9 H r x):j9 H' r x:=by
 obtain⟨t,ys,e,ht,hc⟩:=h
 exact⟨t,ys,e,k _ _ ht,hc.lists k⟩
theorem Hr{α β:Type}{F:α->β->Prop}(d:α):∀(R:List α) (ys:List β) (k:Nat),Paired (λi y=>F (R.getD (i - k) d) y) (List.range' k R.length) ys->Paired F R ys
 |[],ys,k,h=>by cases h;exact .nil
 |r::R,ys,k,h=>by
  rw[c5,List.range'_succ] at h
  cases h with
  |cons h t=>
   refine .cons ?_ (Hr d R _ (k+1) (Pq t λi y mi e=>?_))
   .rw[Nat.sub_self] at h
    exact h
   .have h1:=(List.mem_range'_1.mp mi).1
    have e2:i - k=(i - (k+1))+1:=by omega
    rw[e2] at e
    exact e
where
 Pq {α β:Type}{F G:α->β->Prop}:∀{xs:List α}{ys:List β},Paired F xs ys->(∀x y,x∈xs->F x y->G x y)->Paired G xs ys
  |_,_,.nil,_=>.nil
  |_,_,.cons h t,k=>.cons (k _ _ bh h) (Pq t λx y m e=>k x y (bF _ m) e)
theorem acQ{β:Type}{F:List C2->β->Prop}{R:List (List C2)}{ys:List β}(h:Paired (λi y=>F (ah R i) y) (List.range R.length) ys):Paired F R ys:=by
 refine Hr [] R ys 0 ?_
 rw[<-List.range_eq_range']
 exact h
theorem Pr{α:Type}{G:α->Addr->Prop}:∀{l:List α}{ys:List V},Paired (λi y=>∃t,y=V.ref t/\G i t) l ys->∃ts:List Addr,ys=ts.map V.ref/\Paired (λt i=>G i t) ts l
 |_,_,.nil=>⟨[],rfl,.nil⟩
 |_,_,.cons ⟨t,e,h⟩ r=>by
  obtain⟨ts,e2,p⟩:=Pr r
  exact⟨t::ts,by rw[e,e2];rfl,.cons h p⟩
theorem Pt(h:Str->V)(x:Str):∀(n:Nat) (xs:List Str),xs.length=n->aL (iT (xs.map λx=>(x,h x))) (Sum.inr x:Key)=if x∈xs then some (h x) else none
 |0,xs,e=>by
  have:xs=[]:=List.length_eq_zero_iff.mp e
  subst this
  rfl
 |n+1,xs,e=>by
  have cJ:xs≠[]:=λz=>by rw[z] at e;cases e
  obtain⟨ys,y,rfl⟩:∃ys y,xs=ys++[y]:=⟨xs.dropLast,xs.getLast cJ,(List.dropLast_concat_getLast cJ).symm⟩
  have ih:=Pt h x n ys (by simpa using e)
  rw[dW,bL,vA,Mo,nh]
  by_cases z:x=y
  .rw[ax (by rw[z]),ax (by rw[z];simp),z]
  .rw[aq (λw=>z (by injection w)),ih]
   by_cases m:x∈ys
   .rw[ax m,ax (om _ m)]
   .rw[aq m,aq (λw=>by rcases dh.mp w with w | w;exact m w;exact z (cg.mp w))]
theorem Hs{α β γ:Type}{F:α->γ->Prop}{f:β->γ}:∀{xs:List α}{ys:List β},Paired (λx y=>F x (f y)) xs ys->Paired F xs (ys.map f)
 |_,_,.nil=>.nil
 |_,_,.cons h t=>.cons h (Hs t)
section
variable{P:Program}{w:World}{K:PySem.W.Frag}{mg:Str->Option Value}{base:Heap}{f:Addr}{fd:FuncData}
def acR(H H':Hp)(R:List (List C2))(cs:List V):Prop:=Paired (λi x=>∃q us,x=V.ref q/\H q=none/\H' q=some (.lst us)/\br H' (j6 R i) us) (List.range R.length) cs
def Pu(K:PySem.W.Frag)(CG CB:Addr):Sp:=λvs H Q _=>∃(g dx a bk d:Addr) (l:List Str) (w:Nat) (kvs:List (Key×V)),vs=[.ref g,.ref bk,.ref a]/\H g=some (.ins CG dx [])/\aw K H a (l.map V.str)/\ba l w/\GoodR (aD l w)/\fT CB H bk d kvs/\kvs.length<64/\(∀x∈aP kvs,cz x=true)/\
 ∀(ce cy wo kn:Addr) (xs cs:List V) (wd:List (Key×V)) (H':Hp),(∀b o,b≠g->H b=some o->H' b=some o)->H' g=some (.ins CG dx (fV (.ref a) (.ref ce) (.ref cy) (.ref wo) (.ref kn)))->H ce=none->H' ce=some (.lst xs)->Paired (j9 H') (aD l w) xs->H cy=none->H' cy=some (.lst cs)->acR H H' (aD l w) cs->
  H wo=none->H' wo=some (.dK wd)->(∀x∈aP kvs,aL wd (Sum.inr x:Key)=aL kvs (Sum.inr x:Key))->H kn=none->H' kn=some (.dK [])->Q .aA H'
theorem acS:bc ["self","book","sheet"] ["self","book","sheet"] (aS (inClass (top 34) 0)):={}
theorem acT{CG CB:Addr}(B:Bl mg)(F:aW K "__init__" "Ground.__init__" (inClass (top 34) 0) f fd)(T:cI K CG)(Hg:bO K CG "sheet")(BL:bO K CG "cells")(ncr:bO K CG "crossings")(Pw:bO K CG "worths")(Ht:bO K CG "known")(Hu:Fn P w K mg base "rows_of" 5 (FD K))(acU:Fn P w K mg base "crossings_of" 2 (O1 K))(Hv:Mt P w K mg base CB "words" 1 (NJ CB) [])(uQ:Mt P w K mg base CB "worth" 5 (F5 CB) []):aM P w K mg base aR 6 f fd ["self","book","sheet"] (Pu K CG CB):=by
 refine F.bG acS λaH A outer s H vs Q E hr h=>?_
 refine hide λG_ aI=>?_
 obtain⟨g,dx,a,bk,d,l,wd,kvs,rfl,hg,hT,S,G,hB,eN,ja,q⟩:=h
 refine aI.k ?_
 refine⟨_,(av (kD (pv 0) (pv 2) rfl)
  (av (kD (pv 0) (jl (js:=[]) (ns:=[]) (dF (aV Hu (hr.mono (by decide)) (by rfl) (ab (pv 2) ai))) rfl rfl rfl rfl (λ_ _ _ _=>jY) (λ_ _ _ _=>(Ek (K:=K) (rr:=zr) rfl cj (pv 0) aE (λ_ _=>rfl)))) rfl)
  (av (kD (pv 0) (aV acU (hr.mono (by decide)) (by rfl) (ab (di (pv 0) rfl) ai)) rfl)
  (av (kD (pv 0) (jR (XH rfl) (by rfl) B.YZ XJ (ab (jl (js:=[1]) (ns:=["book"]) (dF (Ej Hv (hr.mono (by decide)) (pv 1))) rfl rfl rfl rfl (λ_ _ _ _=>jY) (λ_ _ _ _=>(fB (ab (pv 0) (ab (nA uQ (hr.mono (by decide)) (pv 1) (ab (pv 0) ai)) ai))))) ai (hs:=de rfl))) rfl)
  (az (kD (pv 0) DQ rfl)))))),?_⟩
 try dsimp only[bD]
 have hR9:∀i,(ah (aD l wd) i).length<=9:=λi=>by
  by_cases hi:i<(aD l wd).length
  .exact(i5 S (pZ hi)).2.1
  .unfold ah
   rw[bM,cB (Jt hi)]
   exact bx _
 have j5:=rQ S
 rw[<-uw] at j5
 obtain⟨⟨Hw,pG⟩,Hx,Hy,uR⟩:=id hB
 have Px:bk≠g:=b0 pG hg (λz=>by injection z with _ _ z;unfold um at z;cases z)
 have ndg:d≠g:=b0 Hx hg (λz=>by cases z)
 refine⟨_,rfl,_,rfl,g,CG,dx,[],rfl,hg,T,Hg,(by show 0<1000;decide),?_⟩
 have o1:∀b o,b≠g->H b=some o->upd H g (.ins CG dx (aT "sheet" (.ref a) [])) b=some o:=λb o n e=>by rw[ak n];exact e
 have g1:upd H g (.ins CG dx (aT "sheet" (.ref a) [])) g=some (.ins CG dx (aT "sheet" (.ref a) [])):=au
 have Py:∀b,upd H g (.ins CG dx (aT "sheet" (.ref a) [])) b=none->H b=none:=λb e=>by
  cases eb:H b with
  |none=>rfl
  |some o=>
   by_cases z:b=g
   .rw[z,g1] at e;cases e
   .rw[o1 b o z eb] at e;cases e
 generalize upd H g (.ins CG dx (aT "sheet" (.ref a) []))=H1 at o1 g1 Py
 have ER:=aw.acP hg o1 hT
 refine⟨_,rfl,a,l,wd,rfl,ER,S,λgg xa xd H2 hgg s2 hL rA rD=>⟨gg,rfl,⟨_,aj.of hL⟩,?_⟩⟩
 have rB:=NB rA rD
 have Pz:=rB.length
 have ib:(aD l wd).length=(xa++xd).length:=by rw[rX,ar,Pz]
 refine comp_map jn (by omega) (λ_ i y H3=>j9 H3 (ah (aD l wd) i) y) (λH3 s3=>aj.of (s3 _ _ hL)) (λD i y Ha Hb _ hD k h=>h.off hD k) ?_ ?_
 .intro D i y H3 Z hD hy s3 _ k1
  refine hide λG_ aY=>?_
  obtain⟨row,hrow,way,aa,t,ys,rfl,e1,e2,e3⟩:=Paired.get rB hy
  refine aY.k ?_
  have er:ah (aD l wd) i=row.2:=by unfold ah;rw[rX,bM,bb,hrow];rfl
  exact⟨_,rfl,aa,_,2,.ref t,rfl,rfl,aw.of (s3 _ _ e1),rfl,k1 _ _ (af.cO _) ⟨t,ys,rfl,s3 _ _ e2,by rw[er];exact e3.mono s3⟩⟩
 .intro ce ys H3 mG uD s3 pr
  rw[<-ib] at pr
  have so:=acQ (F:=j9 H3) pr
  have gy:=s2.trans s3
  have uS:H1 ce=none:=s2.free mG
  have Hz:ce≠g:=λz=>by rw[z,g1] at uS;cases uS
  refine⟨_,rfl,g,CG,dx,_,rfl,gy _ _ g1,T,BL,lz (lg _ _ _) (by show 1<1000;decide),?_⟩
  have o4:∀b o,b≠g->H3 b=some o->upd H3 g (.ins CG dx (aT "cells" (.ref ce) (aT "sheet" (.ref a) []))) b=some o:=λb o n e=>by rw[ak n];exact e
  have g4:upd H3 g (.ins CG dx (aT "cells" (.ref ce) (aT "sheet" (.ref a) []))) g=some (.ins CG dx (aT "cells" (.ref ce) (aT "sheet" (.ref a) []))):=au
  generalize upd H3 g (.ins CG dx (aT "cells" (.ref ce) (aT "sheet" (.ref a) [])))=H4 at o4 g4
  have ng3:∀b o,H3 b=some (.tup o)->b≠g:=λb o e=>b0 e (gy _ _ g1) (by intro z;cases z)
  have PB:=Paired.bI so λr x h=>h.gb λb o e=>o4 b _ (ng3 b o e) e
  have HC:∀b o,b≠g->H b=some o->H4 b=some o:=λb o n e=>o4 b o n (gy _ _ (o1 b o n e))
  have BM:∀b,H4 b=none->H b=none:=λb e=>by
   cases eb:H b with
   |none=>rfl
   |some o=>
    by_cases z:b=g
    .rw[z,g4] at e;cases e
    .rw[HC b o z eb] at e;cases e
  have lc:(aT "cells" (.ref ce) (aT "sheet" (.ref a) [])).lookup ("cells":Str)=some (V.ref ce):=by rw[cW,ax rfl]
  refine⟨_,rfl,g,CG,dx,_,_,rfl,g4,T,BL,lc,ce,aD l wd,ys,rfl,o4 _ _ Hz uD,PB,G,j5,hR9,λcy zs H5 sr s5 acV kU=>?_⟩
  have acW:cy≠g:=λz=>by rw[z,g4] at sr;cases sr
  refine⟨_,rfl,g,CG,dx,_,rfl,s5 _ _ g4,T,ncr,lz (bA (lg _ _ _) (lA (lg _ _ _))) (by show 2<1000;decide),?_⟩
  have g5:=s5 _ _ g4
  have o6:∀b o,b≠g->H5 b=some o->upd H5 g (.ins CG dx (aT "crossings" (.ref cy) (aT "cells" (.ref ce) (aT "sheet" (.ref a) [])))) b=some o:=λb o n e=>by rw[ak n];exact e
  have g6:upd H5 g (.ins CG dx (aT "crossings" (.ref cy) (aT "cells" (.ref ce) (aT "sheet" (.ref a) [])))) g=some (.ins CG dx (aT "crossings" (.ref cy) (aT "cells" (.ref ce) (aT "sheet" (.ref a) [])))):=au
  generalize upd H5 g (.ins CG dx (aT "crossings" (.ref cy) (aT "cells" (.ref ce) (aT "sheet" (.ref a) []))))=H6 at o6 g6
  have HD:∀b o,b≠g->H b=some o->H6 b=some o:=λb o n e=>o6 b o n (s5 _ _ (HC b o n e))
  have PD:fT CB H6 bk d kvs:=⟨⟨Hw,HD _ _ Px pG⟩,HD _ _ ndg Hx,Hy,uR⟩
  refine⟨_,rfl,bk,Hw,_,rfl,HD _ _ Px pG,pR _ (by decide +kernel),bk,d,kvs,rfl,PD,eN,λlw H7 hlw s7 PF=>⟨lw,rfl,⟨_,aj.of PF⟩,?_⟩⟩
  have ju:(cC (aP kvs)).length=kvs.length:=by rw[(ic _).length_eq,uy]
  have PJ:∀x,x∈cC (aP kvs)↔x∈aP kvs:=λx=>(ic _).mem_iff
  refine comp_map jn (by rw[ar];omega) (λ_ i y H8=>∃t,y = .ref t/\H8 t=some (.tup [.str ((cC (aP kvs)).getD i ⟨#[]⟩),(aL kvs (Sum.inr ((cC (aP kvs)).getD i ⟨#[]⟩):Key)).getD .aA])) (λH8 s8=>aj.of (s8 _ _ PF)) (λD i y Ha Hb _ hD k h=>?_) ?_ ?_
  .obtain⟨t,e1,e2⟩:=h
   obtain⟨o,ho⟩:=hD
   exact⟨t,e1,k _ _ (b0 e2 ho (by intro z;cases z)) e2⟩
  .intro D i y H8 Z hD hy s8 _ k1
   rw[bb] at hy
   refine hide λG_ bK=>?_
   obtain⟨x,hx,rfl⟩:=iE.mp hy
   have hxd:(cC (aP kvs)).getD i ⟨#[]⟩=x:=bS hx
   have iw:x∈aP kvs:=(PJ x).mp (bo hx)
   obtain⟨v,hv⟩:∃v,aL kvs (Sum.inr x:Key)=some v:=by
    have:=Gv uR x
    rw[aG iw] at this
    cases e:aL kvs (Sum.inr x:Key) with
    |none=>rw[e] at this;cases this
    |some v=>exact⟨v,rfl⟩
   have PK:=PD.mono (s7.trans s8)
   obtain⟨⟨dx8,acX⟩,_⟩:=id PK
   refine bK.k ?_
   refine⟨_,rfl,_,rfl,bk,dx8,_,rfl,acX,pR _ (by decide +kernel),_,rfl,bk,d,kvs,x,v,rfl,PK,ja x iw,hv,λH9 s9=>⟨by show 2<=sizeLine;decide,λt ht=>k1 _ _ (s9.trans (af.upd ht)) ⟨t,rfl,?_⟩⟩⟩
   rw[au,hxd,hv]
   rfl
  .intro D us H8 hD bB s8 pr8
   obtain⟨ts,rfl,PL⟩:=Pr pr8
   rw[ar] at PL
   have acY:Paired (λt p=>H8 t=some (HO.tup [V.str p.1,p.2])) ts ((cC (aP kvs)).map λx=>(x,(aL kvs (Sum.inr x:Key)).getD .aA)):=by
    have e:=Hs (F:=λt p=>H8 t=some (HO.tup [V.str p.1,p.2])) (f:=λi=>((cC (aP kvs)).getD i ⟨#[]⟩,(aL kvs (Sum.inr ((cC (aP kvs)).getD i ⟨#[]⟩):Key)).getD .aA)) PL
    rw[rR (λx=>(x,(aL kvs (Sum.inr x:Key)).getD .aA))] at e
    exact e
   refine⟨D,ts,_,rfl,bB,acY,by rw[ar];omega,λwo uT=>?_⟩
   have s6:=s7.trans s8
   have s9:af H8 (upd H8 wo (.dK (iT ((cC (aP kvs)).map λx=>(x,(aL kvs (Sum.inr x:Key)).getD .aA))))):=af.upd uT
   have w9:upd H8 wo (.dK (iT ((cC (aP kvs)).map λx=>(x,(aL kvs (Sum.inr x:Key)).getD .aA)))) wo=some (.dK (iT ((cC (aP kvs)).map λx=>(x,(aL kvs (Sum.inr x:Key)).getD .aA)))):=au
   generalize upd H8 wo (.dK (iT ((cC (aP kvs)).map λx=>(x,(aL kvs (Sum.inr x:Key)).getD .aA))))=H9 at s9 w9
   have BN:=s6.trans s9
   have HE:wo≠g:=λz=>by rw[z,s6 _ _ g6] at uT;cases uT
   refine⟨_,rfl,g,CG,dx,_,rfl,BN _ _ g6,T,Pw,lz (bA (lg _ _ _) (lA (bA (lg _ _ _) (lA (lg _ _ _))))) (by show 3<1000;decide),?_⟩
   have oA:∀b o,b≠g->H9 b=some o->upd H9 g (.ins CG dx (aT "worths" (.ref wo) (aT "crossings" (.ref cy) (aT "cells" (.ref ce) (aT "sheet" (.ref a) []))))) b=some o:=λb o n e=>by rw[ak n];exact e
   have gA:upd H9 g (.ins CG dx (aT "worths" (.ref wo) (aT "crossings" (.ref cy) (aT "cells" (.ref ce) (aT "sheet" (.ref a) []))))) g=some (.ins CG dx (aT "worths" (.ref wo) (aT "crossings" (.ref cy) (aT "cells" (.ref ce) (aT "sheet" (.ref a) []))))):=au
   generalize upd H9 g (.ins CG dx (aT "worths" (.ref wo) (aT "crossings" (.ref cy) (aT "cells" (.ref ce) (aT "sheet" (.ref a) [])))))=HA at oA gA
   intro kn cL
   have sB:af HA (upd HA kn (.dK [])):=af.upd cL
   have kB:upd HA kn (.dK []) kn=some (.dK []):=au
   generalize upd HA kn (.dK [])=HB at sB kB
   have HF:kn≠g:=λz=>by rw[z,gA] at cL;cases cL
   refine⟨_,rfl,g,CG,dx,_,rfl,sB _ _ gA,T,Ht,lz (bA (lg _ _ _) (lA (bA (lg _ _ _) (lA (bA (lg _ _ _) (lA (lg _ _ _))))))) (by show 4<1000;decide),?_⟩
   have HG:∀b o,b≠g->H4 b=some o->upd HB g (.ins CG dx (fV (.ref a) (.ref ce) (.ref cy) (.ref wo) (.ref kn))) b=some o:=λb o n e=>by
    rw[ak n]
    exact sB _ _ (oA b o n (BN _ _ (o6 b o n (s5 _ _ e))))
   have HH:∀b o,b≠g->H5 b=some o->upd HB g (.ins CG dx (fV (.ref a) (.ref ce) (.ref cy) (.ref wo) (.ref kn))) b=some o:=λb o n e=>by
    rw[ak n]
    exact sB _ _ (oA b o n (BN _ _ (o6 b o n e)))
   have ng5:∀b o,H5 b=some (.tup o)->b≠g:=λb o e=>b0 e g5 (by intro z;cases z)
   have ng4:∀b o,H4 b=some (.tup o)->b≠g:=λb o e=>b0 e g4 (by intro z;cases z)
   refine q ce cy wo kn ys zs (iT ((cC (aP kvs)).map λx=>(x,(aL kvs (Sum.inr x:Key)).getD .aA))) _ (λb o n e=>HG b o n (HC b o n e)) au (Py _ uS) (HG _ _ Hz (o4 _ _ Hz uD)) (Paired.bI PB λr x h=>h.gb λb o e=>HG b _ (ng4 b o e) e) (BM _ sr) (HH _ _ acW acV) ?_ ?_ ?_ (λx hx=>?_) ?_ ?_
   .refine Paired.bI kU λi x h=>?_
    refine hide λG_ cE=>?_
    obtain⟨qq,vs,e1,e2,e3,e4⟩:=h
    refine cE.k ?_
    exact⟨qq,vs,e1,BM _ e2,HH _ _ (b0 e3 g5 (by intro z;cases z)) e3,e4.lists λb o e=>HH b _ (ng5 b o e) e⟩
   .refine BM _ ?_
    cases eb:H4 wo with
    |none=>rfl
    |some o=>rw[s6 _ _ (o6 _ _ HE (s5 _ _ eb))] at uT;cases uT
   .rw[ak HE]
    exact sB _ _ (oA _ _ HE w9)
   .rw[Pt (λx=>(aL kvs (Sum.inr x:Key)).getD .aA) x _ _ rfl,ax ((PJ x).mpr hx)]
    have:=Gv uR x
    rw[aG hx] at this
    cases e:aL kvs (Sum.inr x:Key) with
    |none=>rw[e] at this;cases this
    |some v=>rfl
   .refine BM _ ?_
    cases eb:H4 kn with
    |none=>rfl
    |some o=>rw[oA _ _ HF (BN _ _ (o6 _ _ HF (s5 _ _ eb)))] at cL;cases cL
   .rw[ak HF]
    exact kB
end
structure qh(K:PySem.W.Frag)(CG:Addr)(Z:Addr->Prop)(H:Hp)(g kn:Addr)(l:List Str)(R:List (List C2)):Prop where
 ex:∃(cZ a ce cy:Addr) (wo:V) (xs cs:List V),H g=some (.ins CG cZ (fV (.ref a) (.ref ce) (.ref cy) wo (.ref kn)))/\H a=some (.tup (l.map V.str))/\H ce=some (.lst xs)/\Z ce/\Paired (j9 H) R xs/\H cy=some (.lst cs)/\Z cy/\
  Paired (λi x=>∃q us,x=V.ref q/\Z q/\H q=some (.lst us)/\br H (j6 R i) us) (List.range R.length) cs
structure Std(CS:Addr)(Z:Addr->Prop)(H:Hp)(s g:Addr)(m:List Str)(R:List (List C2))(ks:List Str)(wf:Str->Int):Prop where
 ex:∃(dx p fl:Addr) (fs:List V),H s=some (.ins CS dx (iu (.ref g) (.ref p) (.ref fl)))/\H p=some (.lst ((R.map (ao m)).map V.str))/\Z p/\H fl=some (.lst fs)/\Z fl/\Paired (gv Z H ks wf) (R.map (ao m)) fs
theorem PM{kvs:List (Key×V)}(h:(kvs.map (·.1)).Nodup)(t:iS kvs):(aP kvs).Nodup:=by
 induction kvs with
 |nil=>exact iF
 |cons q r ih=>
  obtain⟨h1,h2⟩:=fq.mp h
  have t2:iS r:=λx m=>t x (bF _ m)
  refine fq.mpr ⟨λm=>h1 ?_,ih h2 t2⟩
  obtain⟨x,ex⟩:=t q bh
  obtain⟨y,my,ey⟩:=bt.mp m
  obtain⟨z,ez⟩:=t2 y my
  refine bt.mpr ⟨y,my,?_⟩
  dsimp only at ey ⊢
  rw[ex,ez] at ey
  rw[ex,ez]
  exact dU Sum.inr ey
structure Kp(Z:Addr->Prop)(H H':Hp):Prop where
 i7:∀b o,(∀l,o ≠ .lst l)->(∀l,o ≠ .dK l)->H b=some o->H' b=some o
 lst:∀b l,Z b->H b=some (.lst l)->H' b=some (.lst l)
theorem Kp.trans{Z:Addr->Prop}{H H1 H2:Hp}(a:Kp Z H H1)(b:Kp Z H1 H2):Kp Z H H2:=⟨λc o n1 n2 e=>b.i7 c o n1 n2 (a.i7 c o n1 n2 e),λc l z e=>b.lst c l z (a.lst c l z e)⟩
theorem Kp.of{Z:Addr->Prop}{H H1:Hp}(a:af H H1):Kp Z H H1:=⟨λc o _ _ e=>a c o e,λc l _ e=>a c _ e⟩
theorem Kp.tup{Z:Addr->Prop}{H H':Hp}(k:Kp Z H H'){b:Addr}{o:List V}(h:H b=some (.tup o)):H' b=some (.tup o):=k.i7 _ _ (by intro _ z;cases z) (by intro _ z;cases z) h
theorem Kp.ins{Z:Addr->Prop}{H H':Hp}(k:Kp Z H H'){b C dx:Addr}{fs:List (Str×V)}(h:H b=some (.ins C dx fs)):H' b=some (.ins C dx fs):=k.i7 _ _ (by intro _ z;cases z) (by intro _ z;cases z) h
theorem qh.keep{K:PySem.W.Frag}{CG:Addr}{Z:Addr->Prop}{H H':Hp}{g kn:Addr}{l:List Str}{R:List (List C2)}(k:Kp Z H H')(h:qh K CG Z H g kn l R):qh K CG Z H' g kn l R:=by
 obtain⟨cZ,a,ce,cy,wo,xs,cs,h1,h2,h3,z3,h4,h5,z5,h6⟩:=h.ex
 exact⟨cZ,a,ce,cy,wo,xs,cs,k.ins h1,k.tup h2,k.lst _ _ z3 h3,z3,Paired.bI h4 λr x e=>e.gb λb o e=>k.tup e,k.lst _ _ z5 h5,z5,Paired.bI h6 λi x e=>let ⟨q,us,e1,e2,e3,e4⟩:=e;⟨q,us,e1,e2,k.lst _ _ e2 e3,e4.lists λb o e=>k.tup e⟩⟩
theorem qh.weak{K:PySem.W.Frag}{CG:Addr}{Z Z':Addr->Prop}{H:Hp}{g kn:Addr}{l:List Str}{R:List (List C2)}(k:∀b o,Z b->H b=some o->Z' b)(h:qh K CG Z H g kn l R):qh K CG Z' H g kn l R:=by
 obtain⟨cZ,a,ce,cy,wo,xs,cs,h1,h2,h3,z3,h4,h5,z5,h6⟩:=h.ex
 exact⟨cZ,a,ce,cy,wo,xs,cs,h1,h2,h3,k _ _ z3 h3,h4,h5,k _ _ z5 h5,Paired.bI h6 λi x e=>let ⟨q,us,e1,e2,e3,e4⟩:=e;⟨q,us,e1,k _ _ e2 e3,e3,e4⟩⟩
section
variable{P:Program}{w:World}{K:PySem.W.Frag}{mg:Str->Option Value}{base:Heap}{f:Addr}{fd:FuncData}
def PN(K:PySem.W.Frag)(CB CG CS:Addr):Sp:=λvs H Q _=>∃(a bk d:Addr) (l:List Str) (w:Nat) (R:List (List C2)) (kvs:List (Key×V)),vs=[.ref bk,.ref a]/\H a=some (.tup (l.map V.str))/\bY l w R/\fT CB H bk d kvs/\kvs.length<64/\(∀x∈aP kvs,cz x=true)/\sd kvs/\
 ∀(s g kn wo:Addr) (H':Hp),af H H'->H kn=none->qh K CG (λb=>H b=none) H' g kn l R->H' kn=some (.dK [])->Std CS (λb=>H b=none) H' s g l R (aP kvs) (uz kvs)->Q (.ref s) H'
theorem BO:bc ["book","sheet","ground","patterns","fits"] ["book","sheet"] (aS (top 36)):={}
theorem acZ{CB CG CS:Addr}(B:Bl mg)(F:aW K "first_standing" "first_standing" (top 36) f fd)(TG:cI K CG)(TB:cI K CB)(BL:bO K CG "cells")(ac0:Fn P w K mg base "pattern" 2 (NC K))(HI:Mt P w K mg base CB "fitting" 2 (NP CB) [])(uQ:Mt P w K mg base CB "worth" 5 (F5 CB) [])(ac1:EM K CB "worth")(HJ:Nw P w K mg base "Ground" CG 6 (Pu K CG CB))(uN:Nw P w K mg base "Standing" CS 1 (G6 CS)):aM P w K mg base aR 8 f fd ["book","sheet"] (PN K CB CG CS):=by
 refine F.bG BO λaH A outer s H vs Q E hr h=>?_
 refine hide λG_ aI=>?_
 obtain⟨a,bk,d,l,wd,R,kvs,rfl,hT,FL,hB,eN,ja,HK,q⟩:=h
 refine aI.k ?_
 refine⟨_,(av (aK (i:=2) BO.nd rfl (Or.inl rfl) (Ae HJ (hr.mono (by decide)) (by rfl) (ab (pv 0) (ab (pv 1) ai))))
  (av (wy (i:=3) BO.nd rfl (Or.inl rfl) (js:=[1]) (ns:=["sheet"]) (dF (di (pv 2) rfl)) rfl rfl rfl rfl (λ_ _ _ _=>jY) (λ_ _ _ _=>(aV ac0 (hr.mono (by decide)) (by rfl) (ab (pv 1) (ab (pv 0) ai)))))
  (av (wy (i:=4) BO.nd rfl (Or.inl rfl) (js:=[0]) (ns:=["book"]) (dF (pv 3)) rfl rfl rfl rfl (λ_ _ _ _=>jY) (λ_ _ _ _=>(Xz (K:=K) rfl uQ ac1 (hr.mono (by decide)) (by rfl) B.AE zS (ab (nA HI (hr.mono (by decide)) (pv 1) (ab (pv 0) ai)) ai) (pv 1) rfl)))
  (az (aZ (Ae uN (hr.mono (by decide)) (by rfl) (ab (pv 2) (ab (pv 3) (ab (pv 4) ai))))))))),?_⟩
 try dsimp only[bD]
 have eR:=FL.eq
 subst eR
 have S:=FL.sh
 obtain⟨⟨Hw,pG⟩,Hx,Hy,uR⟩:=id hB
 have cL:(aP kvs).Nodup:=PM Hy uR
 refine⟨_,rfl,_,rfl,λg cZ hg x6 cJ=>?_⟩
 have o0:af H (upd (upd H cZ (.own g)) g (.ins CG cZ [])):=λb o e=>by rw[ak (bq e hg),ak (bq e x6)];exact e
 have g0:upd (upd H cZ (.own g)) g (.ins CG cZ []) g=some (.ins CG cZ []):=au
 generalize upd (upd H cZ (.own g)) g (.ins CG cZ [])=H0 at o0 g0
 refine⟨g,cZ,a,bk,d,l,wd,kvs,rfl,g0,aw.of (o0 _ _ hT),S,FL.good,hB.mono o0,eN,ja,λce cy wo kn xs cs wdd H1 off g1 uS mG so PQ sr HL Pw uT hwv Ht ac2=>⟨rfl,?_⟩⟩
 have s1:af H H1:=λb o e=>off b o (bq e hg) (o0 b o e)
 have fF:=so.length
 have j5:=rQ S
 rw[<-uw] at j5
 refine⟨_,rfl,g,CG,cZ,_,_,rfl,g1,TG,BL,O7 ..,ce,rfl,⟨_,aj.of mG⟩,?_⟩
 refine comp_map jn (by omega) (λ_ i y _=>y = .str (ao l (ah (aD l wd) i))) (λH2 s2=>aj.of (s2 _ _ mG)) (λ_ _ _ _ _ _ _ _ h=>h) ?_ ?_
 .intro D i y H2 Z hD hy s2 _ k1
  refine hide λG_ aY=>?_
  obtain⟨row,hrow,t,ys,rfl,ht,kU⟩:=Paired.get so hy
  refine aY.k ?_
  have mE:ah (aD l wd) i=row:=bS hrow
  have bu:=i5 S (bo hrow)
  exact⟨_,rfl,_,rfl,a,t,l,wd,row,ys,rfl,aw.of ((s1.trans s2) _ _ hT),S,s2 _ _ ht,kU.mono s2,by omega,λc hc=>⟨(bu.2.2 c hc).1,(bu.2.2 c hc).2.1⟩,λH3 s3=>k1 _ _ s3 (by rw[mE])⟩
 .intro pp ys H2 wN BP s2 pr
  have e:=pQ pr
  have e2:(List.range xs.length).map (λi=>V.str (ao l (ah (aD l wd) i)))=(aD l wd).map (λr=>V.str (ao l r)):=by
   rw[<-fF]
   exact rR (λr=>V.str (ao l r)) [] (aD l wd)
  rw[e2] at e
  have e3:ys=((aD l wd).map (ao l)).map V.str:=by rw[e,iK];rfl
  rw[e3] at BP
  clear e e2 e3 pr
  have kb:=s1.trans s2
  refine⟨_,rfl,pp,rfl,⟨_,aj.of BP⟩,?_⟩
  refine comp_map jn (by rw[ar,ar];omega) (λD i y H4=>∃q ws,y = .ref q/\q≠D/\H q=none/\H4 q=some (.lst (ws.map V.str))/\k9 (aP kvs) (uz kvs) (((aD l wd).map (ao l)).getD i ⟨#[]⟩) ws/\ws.length<=64) (λH3 s3=>aj.of (s3 _ _ BP)) (λD i y Ha Hb _ _ k h=>?_) ?_ ?_
  .refine hide λG_ bK=>?_
   obtain⟨q,ws,e1,e2,e3,e4,e5⟩:=h
   refine bK.k ?_
   exact⟨q,ws,e1,e2,e3,k _ _ e2 e4,e5⟩
  .intro D i y H3 Z hD hy s3 hDo k1
   rw[bb] at hy
   refine hide λG_ cE=>?_
   obtain⟨pt,hpt,rfl⟩:=iE.mp hy
   have pO:((aD l wd).map (ao l)).getD i ⟨#[]⟩=pt:=bS hpt
   have hpl:pt.length<=9:=by
    obtain⟨r,mr,rfl⟩:=bt.mp (bo hpt)
    rw[eJ]
    exact(i5 S mr).2.1
   have fW:=kb.trans s3
   have HM:=hB.mono fW
   obtain⟨⟨dx3,ac3⟩,_⟩:=id HM
   refine cE.k ?_
   refine⟨_,rfl,bk,dx3,_,rfl,ac3,pR _ (by decide +kernel),_,rfl,bk,d,kvs,pt,rfl,HM,eN,by omega,λx mx=>by have:=xn (ja x mx);omega,λlf H4 BQ s4 hLf=>?_⟩
   have PR:=HM.mono s4
   obtain⟨⟨dx4,ac4⟩,_⟩:=id PR
   have PU:∀x,x∈cC ((aP kvs).filter λx=>cA x pt)↔x∈aP kvs/\cA x pt=true:=λx=>by rw[(ic _).mem_iff,bQ]
   have jt:(cC ((aP kvs).filter λx=>cA x pt)).length<=kvs.length:=by
    rw[(ic _).length_eq]
    exact bA (gD _ _) (by rw[uy];exact aQ _)
   refine⟨_,rfl,lf,_,bk,dx4,_,uz kvs,rfl,rfl,aj.of hLf,by omega,ac4,pR _ (by decide +kernel),λx mx H5 s5 Q' hQ' =>?_,λp out H5 hp s5 qd HN hpw=>?_⟩
   .have iw:=((PU x).mp mx).1
    exact⟨bk,d,kvs,x,_,rfl,PR.mono s5,ja x iw,abm uR HK iw,λH6 s6=>hQ' H6 s6⟩
   .obtain⟨o,ho⟩:=hDo
    refine k1 _ _ (s4.trans s5) ⟨p,out,rfl,(λz=>by rw[z,s4 _ _ ho] at hp;cases hp),?_,qd,?_,by rw[HN.length_eq];omega⟩
    .cases eb:H p with
     |none=>rfl
     |some o'=>rw[s4 _ _ (fW _ _ eb)] at hp;cases hp
    .rw[pO]
     exact⟨HN.nodup_iff.mpr ((ic _).nodup_iff.mpr (cL.filter _)),λx=>by rw[HN.mem_iff];exact PU x,hpw⟩
  .intro fl fs H3 d6 ac5 s3 pr
   have fW:=kb.trans s3
   refine⟨_,rfl,_,rfl,_,rfl,λs' n6 rn Hq agn=>⟨s',n6,.ref g,.ref pp,.ref fl,rfl,au,λH' h1 h2=>⟨rfl,?_⟩⟩⟩
   have h6:af H3 H':=λb o e=>h2 _ _ (λz=>by rw[z,rn] at e;cases e) (by rw[ak (λz=>by rw[z,rn] at e;cases e),ak (λz=>by rw[z,Hq] at e;cases e)];exact e)
   have sx:af H1 H':=s2.trans (s3.trans h6)
   refine q s' g kn wo H' (fW.trans h6) (o0.free Ht) ⟨cZ,a,ce,cy,.ref wo,xs,cs,sx _ _ g1,(fW.trans h6) _ _ hT,sx _ _ mG,?_,Paired.bI so λr x h=>h.gb λb o e=>sx _ _ e,sx _ _ sr,?_,Paired.bI HL λi x h=>?_⟩ (sx _ _ ac2) ⟨n6,pp,fl,fs,h1,h6 _ _ (s3 _ _ BP),s1.free wN,h6 _ _ ac5,kb.free d6,?_⟩
   .cases eb:H ce with
    |none=>rfl
    |some o=>rw[o0 _ _ eb] at uS;cases uS
   .cases eb:H cy with
    |none=>rfl
    |some o=>rw[o0 _ _ eb] at PQ;cases PQ
   .refine hide λG_ eB=>?_
    obtain⟨qq,us,e1,e2,e3,e4⟩:=h
    refine eB.k ?_
    refine⟨qq,us,e1,?_,sx _ _ e3,e4.lists λb o e=>sx _ _ e⟩
    cases eb:H qq with
    |none=>rfl
    |some o=>rw[o0 _ _ eb] at e2;cases e2
   .rw[ar] at pr
    refine Hr ⟨#[]⟩ _ fs 0 ?_
    rw[<-List.range_eq_range']
    exact Paired.bI pr λi y h=>let ⟨qq,ws,e1,_,e3,e4,e5,e6⟩:=h;⟨qq,ws,e1,e3,h6 _ _ e4,e5,e6⟩
end
noncomputable def PV(pl q:V):List (Str×V):=aT "parts" q (aT "place" pl [])
def n9(Z:Addr->Prop)(H:Hp)(CW CC:Addr)(R:List (List C2))(ks:List Str)(told:List (List Str)):Nat->V->List Str->Prop
 |0,_,_=>False
 |n+1,v,m=>(∃p dx,v = .ref p/\H p=some (.ins CW dx [])/\j4 m=false/\m∈told)\/
   ∃(p dx q:Addr) (pl:Nat) (xs:List Str) (vs:List V),v = .ref p/\H p=some (.ins CC dx (PV (.int (pl:Int)) (.ref q)))/\Z q/\H q=some (.lst vs)/\pl<R.length/\cC xs=dg m R pl ks/\xs.length<64/\
    Paired (λx v=>∃t u,v=V.ref t/\H t=some (.tup [.str x,u])/\cA x (ao m (ah R pl))=true/\n9 Z H CW CC R ks told n u (putL m (ah R pl) x.cps.toList)) xs vs
theorem n9.mono{Z Z':Addr->Prop}{H H':Hp}{CW CC:Addr}{R:List (List C2)}{ks:List Str}{told PX:List (List Str)}(k:Kp Z H H')(hz:∀b o,Z b->H b=some o->Z' b)(ht:∀s∈told,s∈PX):∀{n:Nat}{v:V}{m:List Str},n9 Z H CW CC R ks told n v m->n9 Z' H' CW CC R ks PX n v m
 |0,_,_,h=>h
 |n+1,v,m,h=>by
  rcases h with ⟨p,dx,e,h1,h2,h3⟩ | ⟨p,dx,q,pl,xs,vs,e,h1,hq,h2,h3,h4,h5,h6⟩
  .exact .inl ⟨p,dx,e,k.ins h1,h2,ht _ h3⟩
  .exact .inr ⟨p,dx,q,pl,xs,vs,e,k.ins h1,hz _ _ hq h2,k.lst _ _ hq h2,h3,h4,h5,Paired.bI h6 λx v g=>let ⟨t,u,e1,e2,e3,e4⟩:=g;⟨t,u,e1,k.tup e2,e3,n9.mono k hz ht e4⟩⟩
def fh(H:Hp)(ts:List Addr)(bT:List (List Str)):Prop:=Paired (λt s=>H t=some (.tup (s.map V.str))) ts bT
theorem fh.keep{H H':Hp}{ts:List Addr}{bT:List (List Str)}(k:∀b o,(∀l,o ≠ .lst l)->(∀l,o ≠ .dK l)->H b=some o->H' b=some o)(h:fh H ts bT):fh H' ts bT:=Paired.bI h λ_ _ e=>k _ _ (by intro _ z;cases z) (by intro _ z;cases z) e
def KX(kn fo:Addr)(H H':Hp):Prop := ∀b o,b≠kn->b≠fo->H b=some o->H' b=some o
theorem KX.trans{kn fo:Addr}{H H1 H2:Hp}(a:KX kn fo H H1)(b:KX kn fo H1 H2):KX kn fo H H2:=λc o n1 n2 e=>b c o n1 n2 (a c o n1 n2 e)
theorem KX.of{kn fo:Addr}{H H1:Hp}(a:af H H1):KX kn fo H H1:=λc o _ _ e=>a c o e
theorem KX.kp{kn fo:Addr}{H H':Hp}{Z:Addr->Prop}{kvs:List (Key×V)}{ys:List V}(k:KX kn fo H H')(hk:H kn=some (.dK kvs))(hf:H fo=some (.lst ys))(hz:¬Z fo):Kp Z H H':=
 ⟨λb o n1 n2 e=>k b o (λz=>by rw[z,hk] at e;exact n2 _ (c9 e).symm) (λz=>by rw[z,hf] at e;exact n1 _ (c9 e).symm) e,λb l z e=>k b _ (λy=>by rw[y,hk] at e;cases e) (λy=>hz (y ▸ z)) e⟩
theorem KX.none{kn fo:Addr}{H H':Hp}(k:KX kn fo H H')(hk:∃o,H' kn=some o)(hf:∃o,H' fo=some o){b:Addr}(e:H' b=none):H b=none:=by
 obtain⟨ok,hk⟩:=hk
 obtain⟨of,hf⟩:=hf
 cases eb:H b with
 |none=>rfl
 |some o=>rw[k b o (λz=>by rw[z,hk] at e;cases e) (λz=>by rw[z,hf] at e;cases e) eb] at e;cases e
theorem PY{m:List Str}{R:List (List C2)}{pl:Nat}{x:Str}(hpl:pl<R.length):x∈fI (R.map (ao m)) pl↔x∈nW m R pl:=by
 rw[GU]
 unfold fI
 rw[dh]
 constructor
 .rintro(h | h)
  .obtain⟨i,hi⟩:=eS h
   have aN:i<pl:=by
    have:=(bZ.mp hi).1
    rw[jF] at this
    omega
   rw[CH aN,j7 R _ (by omega)] at hi
   exact⟨i,by omega,by omega,c9 hi⟩
  .obtain⟨i,hi⟩:=eS h
   have aN:=(bZ.mp hi).1
   rw[CL,ar] at aN
   rw[List.getElem?_drop,j7 R _ (by omega)] at hi
   exact⟨_,by omega,by omega,c9 hi⟩
 .rintro⟨i,h1,h2,e⟩
  have hg:=j7 R (ao m) h1
  rcases Nat.lt_or_gt_of_ne h2 with z | z
  .refine Or.inl ?_
   exact bo (i:=i) (by rw[CH z,hg,e])
  .refine Or.inr ?_
   exact bo (i:=i - (pl+1)) (by rw[List.getElem?_drop,show pl+1+(i - (pl+1))=i from by omega,hg,e])
theorem PZ{m:List Str}{w:Nat}{R:List (List C2)}(F:bY m w R)(h:∀r∈R,46∉(ao m r).cps.toList):j4 m=false:=by
 refine iJ.mpr λz=>?_
 unfold j4 at z
 obtain⟨x,mx,hx⟩:=yD.mp z
 have hx:46∈x.cps.toList:=eQ hx
 obtain⟨i,hi⟩:=eS mx
 obtain⟨j,hj⟩:=eS hx
 have xH:=(bZ.mp hi).1
 obtain⟨y,hy,_,_,ly,GS⟩:=F.sh.dS.row xH
 rw[hi] at hy
 cases hy
 have xI:j<w:=by
  have:=(bZ.mp hj).1
  omega
 have e:=GS j xI
 rw[hj] at e
 have P0:sg m (i,j)=46:=(c9 e).symm
 have ho:bJ m (i,j)=true:=by
  unfold bJ
  rw[P0]
  rfl
 obtain⟨a,b,hab⟩:=F.all (i,j) xH xI ho
 refine h _ (pZ (k7 hab).1) ?_
 rw[jB,<-P0]
 exact kj (bo hab)
theorem BR{x:Str}(h:cz x=true):ir x:=by
 unfold cz at h
 rw[dI,dI] at h
 intro ch m
 have hl:=eQ (iG.mp h.2.2 ch m)
 have:∀c∈iU.cps.toList,97<=c/\c<=122:=by decide +kernel
 exact this ch hl
theorem BS(g p f:V){m:Str}(h1:¬m="fits")(h2:¬m="patterns")(h3:¬m="ground"):(iu g p f).lookup m=none:=by
 unfold iu
 rw[cW,aq h1,cW,aq h2,cW,aq h3]
 rfl
theorem P4{Z:Addr->Prop}{H:Hp}{ks:List Str}{wf:Str->Int}:∀{pats:List Str}{fs:List V},Paired (gv Z H ks wf) pats fs->∃dE,Pd H dE fs/\Paired (λt ws=>k9 ks wf t ws) pats dE
 |_,_,.nil=>⟨[],.nil,.nil⟩
 |_,_,.cons ⟨q,ws,e,_,h1,h2,h3⟩ r=>by
  obtain⟨dE,a,b⟩:=P4 r
  exact⟨ws::dE,.cons ⟨q,e,h1,h3⟩ a,.cons h2 b⟩
section
variable{P:Program}{w:World}{K:PySem.W.Frag}{mg:Str->Option Value}{base:Heap}{f:Addr}{fd:FuncData}
def HP(C:Addr):Sp:=λvs H Q _=>∃(s dx q:Addr) (p:V) (us:List V),vs=[.ref s,p,.ref q]/\H s=some (.ins C dx [])/\H q=some (.lst us)/\∀(r:Addr) (H':Hp),H r=none->H' s=some (.ins C dx (PV p (.ref r)))->H' r=some (.lst us)->(∀b o,b≠s->H b=some o->H' b=some o)->Q .aA H'
theorem ac6:bc ["self","place","parts"] ["self","place","parts"] (aS (inClass (top 31) 0)):={}
theorem ac7{C:Addr}(B:Bl mg)(F:aW K "__init__" "Cases.__init__" (inClass (top 31) 0) f fd)(T:cI K C)(np:bO K C "place")(nq:bO K C "parts"):aM P w K mg base aR 1 f fd ["self","place","parts"] (HP C):=by
 refine F.bG ac6 λaH A outer s H vs Q E hr h=>?_
 refine hide λG_ aI=>?_
 obtain⟨s,dx,q,p,us,rfl,hs,hq,k⟩:=h
 refine aI.k ?_
 refine⟨_,(av (kD (pv 0) (pv 1) rfl)
  (az (kD (pv 0) (jR wb (by rfl) B.xc wB (ab (pv 2) ai)) rfl))),?_⟩
 try dsimp only[bD]
 refine⟨_,rfl,_,rfl,s,C,dx,[],rfl,hs,T,np,(by show 0<1000;decide),?_⟩
 have nqs:q≠s:=b0 hq hs (by intro z;cases z)
 refine⟨_,rfl,q,us,rfl,.inl (aj.of (by rw[ak nqs];exact hq)),λr fU=>?_⟩
 have BU:r≠s:=λz=>by rw[z,au] at fU;cases fU
 refine⟨_,rfl,s,C,dx,_,rfl,by rw[ak (bj BU)];exact au,T,nq,(by show 1<1000;decide),?_⟩
 refine k r _ (by rw[ak BU] at fU;exact fU) au (by rw[ak BU];exact au) λb o hb e=>?_
 rw[ak BU] at fU
 rw[ak hb,ak (λz=>by rw[z,fU] at e;cases e),ak hb]
 exact e
structure ac8(K:PySem.W.Frag)(CG CS:Addr)(Z:Addr->Prop)(M:Str->Prop)(H:Hp)(s g kn fo:Addr)(most w n:Nat)(l m ks:List Str)(wf:Str->Int)(R:List (List C2))(kvs:List (Key×V))(ts:List Addr)(bT:List (List Str)):Prop where
 e1:qh K CG Z H g kn l R
 e2:Std CS Z H s g m R ks wf
 e3:H kn=some (.dK kvs)
 e4:gR Z M H ks wf kvs
 e5:Bw M
 e6:∀m' pl x k i,bY m' w R->m'.length=l.length->pl<R.length->x∈ks->cA x (ao m' (ah R pl))=true->(∀j,j<R.length->46∈(ao m' (ah R j)).cps.toList->∃y∈ks,cA y (ao m' (ah R j))=true)->i<R.length->46∈(ao m' (ah R i)).cps.toList->M (ao (putL m' ((ah R pl).take k) (x.cps.toList.take k)) (ah R i))
 e7:bY l w R
 e8:bY m w R
 e9:m.length=l.length
 ea:R.length<=200
 eb:∀x∈ks,cz x=true
 ec:ks.Nodup
 ed:ks.length<64
 ee:∀q,H q=none->Z q
 ef:¬Z fo
 eg:H fo=some (.lst (ts.map V.ref))
 eh:fh H ts bT
 ei:bT.length<most
 ej:most<=1000
 ek:(fA m w).length<n
structure ac9(Z:Addr->Prop)(M:Str->Prop)(H H':Hp)(CW CC kn fo:Addr)(most w n:Nat)(m ks:List Str)(wf:Str->Int)(R:List (List C2))(kvs:List (Key×V))(ts dG:List Addr)(bT new:List (List Str))(v:V):Prop where
 e1:KX kn fo H H'
 e2:H' kn=some (.dK kvs)
 e3:gR Z M H' ks wf kvs
 e4:H' fo=some (.lst ((ts++dG).map V.ref))
 e5:fh H' (ts++dG) (bT++new)
 e6:new.Nodup
 e7:∀s∈new,cb s m w/\fH ks s w=true
 e8:(v = .aA/\(bT++new).length=most)\/(v ≠ .aA/\(bT++new).length<most/\∀told,(∀s∈new,s∈told)->n9 Z H' CW CC R ks told n v m)
def BV(K:PySem.W.Frag)(CG CS CW CC:Addr)(n:Nat):Sp:=λvs H Q _=>∃(s g kn fo:Addr) (most w:Nat) (l m ks:List Str) (wf:Str->Int) (R:List (List C2)) (kvs:List (Key×V)) (Z:Addr->Prop) (M:Str->Prop) (ts:List Addr) (bT:List (List Str)),vs=[.ref s,.int (most:Int),.ref fo]/\ac8 K CG CS Z M H s g kn fo most w n l m ks wf R kvs ts bT/\∀v new dG uK H',ac9 Z M H H' CW CC kn fo most w n m ks wf R uK ts dG bT new v->Q v H'
structure ada(Z:Addr->Prop)(M:Str->Prop)(H3 Hi:Hp)(CW CC kn fo pa:Addr)(most w n pl i:Nat)(m ks:List Str)(wf:Str->Int)(R:List (List C2))(Xs:List Str)(ts dG:List Addr)(bT new:List (List Str))(kv:List (Key×V))(us:List V):Prop where
 e1:∀b o,b≠kn->b≠fo->b≠pa->H3 b=some o->Hi b=some o
 e2:Hi kn=some (.dK kv)
 e3:gR (λb=>Z b/\b≠pa) M Hi ks wf kv
 e4:Hi fo=some (.lst ((ts++dG).map V.ref))
 e5:fh Hi (ts++dG) (bT++new)
 e6:new.Nodup
 e7:∀s∈new,cb s m w/\fH ks s w=true/\ao s (ah R pl)∈Xs.take i
 e8:(bT++new).length<most
 e9:Hi pa=some (.lst us)
 ea:Paired (λx v=>∃t u,v=V.ref t/\Hi t=some (.tup [.str x,u])/\cA x (ao m (ah R pl))=true/\∀told,(∀s∈new,s∈told)->n9 (λb=>Z b/\b≠pa) Hi CW CC R ks told n u (putL m (ah R pl) x.cps.toList)) (Xs.take i) us
theorem uU:bc ["standing","most","found","place","parts","word","paper"] ["standing","most","found"] (aS (top 41)):={}
theorem adb{CG CS CW CC:Addr}(n:Nat)(B:Bl mg)(F:aW K "closing_paper" "closing_paper" (top 41) f fd)(HQ:Fn P w K mg base "closing_paper" (n+4) (BV K CG CS CW CC n))(uV:Mt P w K mg base CS "narrowest" 1 (G8 CS) [])(uW:Mt P w K mg base CS "filled" 3 (Hf K CS CG) [])(uX:Mt P w K mg base CS "left" 1 (G7 K CS) [])(uY:Mt P w K mg base CS "after" 3 (Hj K CS CG) [])(uZ:Am K mg "Whole" CW)(u0:Nw P w K mg base "Cases" CC 1 (HP CC)) :
  aM P w K mg base aR (n+5) f fd ["standing","most","found"] (BV K CG CS CW CC (n+1)):=by
 refine F.bG uU λaH A outer s H vs Q E hr h=>?_
 refine hide λG_ aI=>?_
 obtain⟨s0,g,kn,fo,most,wd,l,m,ks,wf,R,kvs,Z,M,ts,bT,rfl,⟨hG,hS,cL,hK,hM,P5,FL,FM,n5,sj,ja,cK,eN,hZ,BW,dk,hF,aN,HR,hn⟩,q⟩:=h
 refine aI.k ?_
 refine⟨_,(av (b6 (cx Ti (bP dY (by rfl) B.cq cn (ab (pv 2) ai)) (pv 1) (cH _))
  (az (aZ mU))
  b9)
  (av (aK (i:=3) uU.nd rfl (Or.inl rfl) (Ej uV (hr.mono (by omega)) (pv 0)))
  (av (b6 (cx ze (pv 3) mU (cH _))
  (av (dM (fO jc jI jJ hX (pv 2) (ab (Ej uW (hr.mono (by omega)) (pv 0)) ai)))
   (az (aZ (SF (cx lJ (bP dY (by rfl) B.cq cn (ab (pv 2) ai)) (pv 1) (cH _)) (XZ uZ (by rfl)) mU))))
  b9)
  (av (aK (i:=4) uU.nd rfl (Or.inl rfl) (dX ai))
  (av (cG cF rfl (dF (nA uX (hr.mono (by omega)) (pv 0) (ab (pv 3) ai))) (bR (i:=5) uU.nd rfl (Or.inl rfl))
  (av (aK (i:=6) uU.nd rfl (Or.inl rfl) (aV HQ (hr.mono (by omega)) (by rfl) (ab (nA uY (hr.mono (by omega)) (pv 0) (ab (pv 3) (ab (pv 5) ai))) (ab (pv 1) (ab (pv 2) ai)))))
   (av (b6 (cx ze (pv 6) mU (cH _))
   (az (aZ mU))
   b9)
   (az (dM (fO jc jI jJ hX (pv 4) (ab (fB (ab (pv 5) (ab (pv 6) ai))) ai (hs:=de rfl))))))))
  (az (aZ (Ae u0 (hr.mono (by omega)) (by rfl) (ab (pv 3) (ab (pv 4) ai)))))))))),?_⟩
 try dsimp only[bD]
 refine hide λG_ aY=>?_
 obtain⟨dx,p,fl,fs,hs,hp,zp,d6,zfl,uO⟩:=hS.ex
 obtain⟨cZ,a,ce,cy,wo,xs,cs,hg,hT,mG,zce,so,sr,ade,HL⟩:=hG.ex
 obtain⟨dE,HS,BX⟩:=P4 uO
 refine aY.k ?_
 have Hc:=HS.length
 have P6:=BX.length
 rw[ar] at P6
 have u6:=iB hF
 have P7:∀{i:Nat},i<R.length->(R.map (ao m)).getD i ⟨#[]⟩=ao m (ah R i):=λhi=>bS (j7 R _ hi)
 refine⟨_,rfl,fo,_,rfl,.inl (aj.of dk),_,rfl,_,_,rfl,rfl,_,rfl,?_⟩
 rw[aF (by rw[ar];omega)]
 refine bf ?_
 refine⟨_,rfl,s0,dx,_,rfl,hs,BS _ _ _ (by decide +kernel) (by decide +kernel) (by decide +kernel),s0,dx,p,fl,.ref g,R.map (ao m),dE,fs,rfl,hs,hp,d6,HS,by rw[ar];exact P6.symm,by rw[ar];exact sj,λt mt=>?_,λadf H1 s1=>?_,λpl H1 hpl HU s1=>?_⟩
 .obtain⟨r,mr,rfl⟩:=bt.mp mt
  rw[eJ]
  obtain⟨i,hi⟩:=eS mr
  have:=(FM.len (bZ.mp hi).1).2
  have e:ah R i=r:=bS hi
  rw[e] at this
  omega
 .
  obtain⟨nG,hd2,j1⟩:=adf
  have BY:j4 m=false:=PZ FM λr mr=>nG _ (kj mr)
  have pX:gQ m wd=R.map (ao m):=by
   unfold gQ
   rw[FM.eq]
  have Bs:fH ks m wd=true:=by
   refine Be BY (by rw[pX];exact hd2) (λx mx=>?_)
   rw[pX] at mx
   obtain⟨i,hi⟩:=eS mx
   obtain⟨ws,hws,adg⟩:=Paired.getL BX hi
   have cJ:=j1 ws (bo hws)
   obtain⟨y,my⟩:∃y,y∈ws:=by
    cases ws with
    |nil=>exact absurd rfl cJ
    |cons y r=>exact⟨y,bh⟩
   obtain⟨y1,y2⟩:=(adg.mem y).mp my
   rw[<-GO y2 (nG x mx)]
   exact y1
  refine⟨_,rfl,rfl,_,rfl,?_⟩
  rw[aG rfl]
  refine bz ⟨_,rfl,.inl ⟨rfl,_,aj.of (s1 _ _ dk)⟩,?_⟩
  refine⟨_,rfl,s0,dx,_,rfl,s1 _ _ hs,BS _ _ _ (by decide +kernel) (by decide +kernel) (by decide +kernel),s0,dx,g,cZ,p,ce,a,.ref fl,.ref cy,wo,.ref kn,l,m,wd,R,xs,rfl,s1 _ _ hs,s1 _ _ hg,s1 _ _ hT,s1 _ _ mG,Paired.bI so λr x e=>e.gb λb o e=>s1 _ _ e,s1 _ _ hp,FL,FM,n5,λt H2 s2 ht=>?_⟩
  have kb:=s1.trans s2
  have u9:=kb _ _ dk
  refine⟨fo,_,.ref t,rfl,rfl,u9,lS (by rw[ar];omega),?_⟩
  have o3:∀b o,b≠fo->H2 b=some o->upd H2 fo (.lst (ts.map V.ref++[.ref t])) b=some o:=λb o n e=>by rw[ak n];exact e
  have f3:upd H2 fo (.lst (ts.map V.ref++[.ref t])) fo=some (.lst ((ts++[t]).map V.ref)):=by rw[au,dW];rfl
  generalize upd H2 fo (.lst (ts.map V.ref++[.ref t]))=H3 at o3 f3
  have BZ:KX kn fo H H3:=λb o _ n e=>o3 b o n (kb _ _ e)
  have HV:kn≠fo:=b0 cL dk (by intro z;cases z)
  have eY:H3 kn=some (.dK kvs):=o3 _ _ HV (kb _ _ cL)
  have ht3:H3 t=some (.tup (m.map V.str)):=o3 _ _ (b0 ht u9 (by intro z;cases z)) ht
  have jD:fh H3 (ts++[t]) (bT++[m]):=si (hF.keep (BZ.kp cL dk BW).i7) (.cons ht3 .nil)
  have n8:=hK.keep λb o e z=>(BZ.kp cL dk BW).lst _ _ z e
  refine⟨_,rfl,fo,_,rfl,.inl (aj.of f3),_,rfl,_,_,rfl,rfl,_,rfl,?_⟩
  have x8:∀s∈[m],cb s m wd/\fH ks s wd=true:=λs ms=>by rw[cg.mp ms];exact⟨cb.refl FM.sh,Bs⟩
  by_cases tX:bT.length+1<most
  .rw[aG (by rw[ar,cQ,CM];omega)]
   refine bz λx qi hx x6 cJ=>?_
   have s4:af H3 (upd (upd H3 qi (.own x)) x (.ins CW qi [])):=λb o e=>by rw[ak (bq e hx),ak (bq e x6)];exact e
   have x9:upd (upd H3 qi (.own x)) x (.ins CW qi []) x=some (.ins CW qi []):=au
   generalize upd (upd H3 qi (.own x)) x (.ins CW qi [])=H4 at s4 x9
   refine q (.ref x) [m] [t] kvs H4 ⟨BZ.trans (KX.of s4),s4 _ _ eY,n8.keep λb o e _=>s4 _ _ e,s4 _ _ f3,jD.keep λb o _ _ e=>s4 _ _ e,by simp,x8,.inr ⟨(by intro z;cases z),by rw[cQ,CM];exact tX,λtold ht=>.inl ⟨x,qi,rfl,x9,BY,ht m bh⟩⟩⟩
  .rw[aF (by rw[ar,cQ,CM];omega)]
   exact bf (q .aA [m] [t] kvs H3 ⟨BZ,eY,n8,f3,jD,by simp,x8,.inl ⟨rfl,by rw[cQ,CM];omega⟩⟩)
 .
  rw[ar] at hpl
  rw[P7 hpl] at HU
  refine⟨_,rfl,rfl,_,rfl,?_⟩
  rw[aF (by intro z;cases z)]
  refine bf ⟨bx _,λpa xi=>?_⟩
  have s2:af H (upd H1 pa (.lst [])):=s1.trans (af.upd xi)
  have HW:upd H1 pa (.lst []) pa=some (.lst []):=au
  have adh:H pa=none:=s1.free xi
  generalize upd H1 pa (.lst [])=H2 at s2 HW
  refine hide λG_ bK=>?_
  obtain⟨ws,hws⟩:∃ws,dE[pl]? = some ws:=⟨_,aU (by omega)⟩
  obtain⟨fv,xU,lf,rfl,BQ,BA⟩:=Paired.getL HS hws
  obtain⟨pt,hpt,x5⟩:=Paired.get BX hws
  refine bK.k ?_
  rw[j7 R _ hpl] at hpt
  cases hpt
  have il:dE.getD pl []=ws:=bS hws
  rw[il] at HU
  refine⟨_,rfl,s0,dx,_,rfl,s2 _ _ hs,BS _ _ _ (by decide +kernel) (by decide +kernel) (by decide +kernel),_,rfl,s0,dx,p,fl,lf,.ref g,R.map (ao m),ws,fs,pl,rfl,s2 _ _ hs,s2 _ _ hp,s2 _ _ d6,xU,s2 _ _ BQ,by rw[ar];exact hpl,by rw[ar];exact sj,BA,λlq H3 vc s3 HX=>⟨lq,rfl,⟨_,aj.of HX⟩,?_⟩⟩
  have HY:∀x,x∈(ws.filter λx=>!decide (x∈fI (R.map (ao m)) pl))->x∈ks/\cA x (ao m (ah R pl))=true/\x∈ws/\x∉fI (R.map (ao m)) pl:=λx mx=>by
   obtain⟨m1,m2⟩:=bQ.mp mx
   have:=(x5.mem x).mp m1
   exact⟨this.1,this.2,m1,by simpa using m2⟩
  have HZ:(ws.filter λx=>!decide (x∈fI (R.map (ao m)) pl)).Nodup:=x5.nd.filter _
  have Qa:(ws.filter λx=>!decide (x∈fI (R.map (ao m)) pl)).length<64:=lz (ud HZ λx mx=>(HY x mx).1) eN
  have Qb:cC (ws.filter λx=>!decide (x∈fI (R.map (ao m)) pl))=dg m R pl ks:=by
   rw[<-abT cK x5]
   congr 1
   refine JO λx _=>?_
   by_cases z:x∈fI (R.map (ao m)) pl
   .rw[aG z,aG ((PY hpl).mp z)]
   .rw[aF z,aF λy=>z ((PY hpl).mpr y)]
  generalize hXs:(ws.filter λx=>!decide (x∈fI (R.map (ao m)) pl))=Xs at HX HY HZ Qa Qb
  have gy:=s2.trans s3
  have adi:=s3 _ _ HW
  have rO:∀b o,H b=some o->b≠pa:=λb o e=>bq e adh
  have HV:kn≠fo:=b0 cL dk (by intro z;cases z)
  have i9:kn≠pa:=rO _ _ cL
  have Qc:fo≠pa:=rO _ _ dk
  have adj:lq≠fo:=λz=>by rw[z,s2 _ _ dk] at vc;cases vc
  have adk:lq≠pa:=λz=>by rw[z,HW] at vc;cases vc
  have adl:lq≠kn:=λz=>by rw[z,s2 _ _ cL] at vc;cases vc
  have Ia:∀{Hi:Hp},(∀b o,b≠kn->b≠fo->b≠pa->H3 b=some o->Hi b=some o)->KX kn fo H Hi:=λk b o n1 n2 e=>k b o n1 n2 (rO b o e) (gy _ _ e)
  refine ku (K:=K) (xs:=Xs.map V.str) (λi σ Hi=>∃(v5 v6:Option V) (dG:List Addr) (new:List (List Str)) (kv:List (Key×V)) (us:List V),σ=[some (.ref s0),some (.int (most:Int)),some (.ref fo),some (.int (pl:Int)),some (.ref pa),v5,v6]/\ada Z M H3 Hi CW CC kn fo pa most wd n pl i m ks wf R Xs ts dG bT new kv us)
   ⟨none,none,[],[],kvs,[],rfl,⟨λb o _ _ _ e=>e,gy _ _ cL,(hK.weak λb o z e=>⟨z,rO b o e⟩).keep λb o e _=>gy _ _ e,by rw[fX];exact gy _ _ dk,by rw[fX,fX];exact hF.keep λb o _ _ e=>gy _ _ e,iF,(λ_ ms=>nomatch ms),by rw[fX];exact aN,adi,.nil⟩⟩ ?_ ?_ ?_
  .rintro i σ Hi _ ⟨v5,v6,dG,new,kv,us,rfl,CI⟩
   exact aj.of (CI.e1 _ _ adl adj adk HX)
  .intro i y σ Hi hy adm
   refine hide λG_ cE=>?_
   obtain⟨v5,v6,dG,new,kv,us,rfl,⟨off,ve,Ib,vf,qj,Ic,sC,Ie,B1,qk⟩⟩:=adm
   rw[bb] at hy
   obtain⟨x,hx,rfl⟩:=iE.mp hy
   have hi:i<Xs.length:=(bZ.mp hx).1
   obtain⟨iw,c7,Ig,Qd⟩:=HY x (bo hx)
   have gj:Xs.take (i+1)=Xs.take i++[x]:=by rw[fL,hx];rfl
   have hxn:x∉Xs.take i:=λz=>by
    have h1:(Xs.take (i+1)).Nodup:=HZ.sublist (CJ _ _)
    rw[gj,oI] at h1
    exact h1.2.2 x z x (cg.mpr rfl) rfl
   obtain⟨BY,lZ⟩:46∈(ao m (ah R pl)).cps.toList/\∀j,j<(R.map (ao m)).length->46∈((R.map (ao m)).getD j ⟨#[]⟩).cps.toList->ws.length<=(dE.getD j []).length:=by
    rcases HU with z | ⟨z1,z2⟩
    .exact z
    .exfalso
     rcases z2 with z2 | z2
     .rw[GO c7 z1] at Qd
      exact Qd (by unfold fI;exact om _ z2)
     .rw[z2] at Ig
      cases Ig
   refine cE.k ?_
   have dB:∀j,j<R.length->46∈(ao m (ah R j)).cps.toList->∃y∈ks,cA y (ao m (ah R j))=true:=λj hj cY=>by
    have h1:=lZ j (by rw[ar];exact hj) (by rw[P7 hj];exact cY)
    obtain⟨wj,Qe⟩:∃wj,dE[j]? = some wj:=⟨_,aU (by omega)⟩
    obtain⟨pj,B2,hFj⟩:=Paired.get BX Qe
    rw[j7 R _ hj] at B2
    cases B2
    rw[bS Qe] at h1
    have h0:=List.length_pos_of_mem Ig
    cases wj with
    |nil=>rw[CK] at h1;omega
    |cons y r=>exact⟨y,(hFj.mem y).mp bh⟩
   have mH:=BR (ja x iw)
   have BC:46∉x.cps.toList:=λz=>by have:=mH 46 z;omega
   have Qf:x.length=(ah R pl).length:=by rw[(iq.mp c7).1,eJ]
   have ya:=Ia off
   have kd:=ya.kp cL dk BW
   have Ih:¬(λb=>Z b/\b≠pa) fo:=λz=>BW z.1
   have B3:∀b,Hi b=none->Z b/\b≠pa:=λb e=>⟨hZ b (ya.none ⟨_,ve⟩ ⟨_,vf⟩ e),λz=>by rw[z,B1] at e;cases e⟩
   have Qg:∀b o,Z b->H b=some o->(Z b/\b≠pa):=λb o z e=>⟨z,rO b o e⟩
   have adn:=Paired.bI HL λi v (e:∃q us,v=V.ref q/\Z q/\H q=some (.lst us)/\br H (j6 R i) us)=>(show ∃q us,v=V.ref q/\Hi q=some (.lst us)/\br Hi (j6 R i) us from let ⟨q,us,e1,e2,e3,e4⟩:=e;⟨q,us,e1,kd.lst _ _ e2 e3,e4.lists λb o e=>kd.tup e⟩)
   have ago:=Paired.bI uO λt v e=>(e.keep (H':=Hi) λb o e z=>kd.lst _ _ z e)
   have ado:Paired (gv (λb=>Z b/\b≠pa) Hi ks wf) (R.map (ao m)) fs:=Paired.bI uO λt v e=>(e.weak Qg).keep λb o e z=>kd.lst _ _ z.1 e
   refine⟨_,rfl,s0,dx,_,rfl,kd.ins hs,BS _ _ _ (by decide +kernel) (by decide +kernel) (by decide +kernel),_,rfl,_,rfl,?_⟩
   refine⟨s0,dx,g,cZ,p,fl,cy,kn,.ref a,.ref ce,wo,m,ks,wf,wd,pl,R,fs,cs,x,kv,(λb=>Z b/\b≠pa),M,rfl,⟨kd.ins hs,kd.ins hg,ve,Ib,hM,kd.lst _ _ zp hp,kd.lst _ _ zfl d6,ado,kd.lst _ _ ade sr,adn,FM,hpl,sj,c7,iw,BC,B3,λk i hi cY=>P5 m pl x k i FM n5 hpl iw c7 dB hi cY⟩,λs' n6 p' cf vK Qh H5 SP=>?_⟩
   refine hide λG_ eB=>?_
   obtain⟨uJ,adp,o5,sk,Hn,Ho,rW,adq,ads⟩:=SP
   refine eB.k ?_
   have Qi:KX kn fo Hi H5:=λb o n _ e=>o5 b o n e
   have Ii:=o5 _ _ (bj HV) vf
   have adt:=o5 _ _ (bj i9) B1
   have Ij:Kp (λb=>Z b/\b≠pa) Hi H5:=Qi.kp ve vf Ih
   have adu:Kp (λb=>Z b/\b≠pa) H Hi:=⟨kd.i7,λb l z e=>kd.lst b l z.1 e⟩
   have nn5:∀b,H5 b=none->Z b/\b≠pa:=λb e=>B3 b (Qi.none ⟨_,sk⟩ ⟨_,Ii⟩ e)
   refine⟨_,rfl,_,rfl,s',g,kn,fo,most,wd,l,putL m (ah R pl) x.cps.toList,ks,wf,R,Qh,(λb=>Z b/\b≠pa),M,ts++dG,bT++new,rfl,⟨((hG.weak Qg).keep adu).keep Ij,⟨n6,p',cf,vK,Ho,rW,B3 _ uJ,adq,B3 _ adp,ads⟩,sk,Hn,hM,P5,FL,FM.put pl mH Qf,by rw[k8,n5],sj,ja,cK,eN,nn5,Ih,Ii,qj.keep Ij.i7,Ie,HR,by have:=OQ FM mH c7 BY;omega⟩,λv nw Qj gw H6 CP=>?_⟩
   refine hide λG_ kZ=>?_
   obtain⟨kx,Qk,Ql,Ik,uA,adv,Il,sD⟩:=CP
   refine kZ.k ?_
   rw[ow] at Ik
   rw[ow,ow] at uA
   rw[ow] at sD
   have gM:∀b o,b≠kn->b≠fo->b≠pa->H3 b=some o->H6 b=some o:=λb o n1 n2 n3 e=>kx b o n1 n2 (o5 b o n1 (off b o n1 n2 n3 e))
   have B4:=kx _ _ (bj i9) (bj Qc) adt
   have Qm:∀s∈nw,ao s (ah R pl)=x:=λs ms=>cb.text FM mH Qf (Il s ms).1
   have Im:∀s∈new++nw,cb s m wd/\fH ks s wd=true/\ao s (ah R pl)∈Xs.take (i+1):=λs ms=>by
    rw[gj]
    rcases dh.mp ms with z | z
    .exact⟨(sC s z).1,(sC s z).2.1,om _ (sC s z).2.2⟩
    .exact⟨cb.OO FM mH c7 (Il s z).1,(Il s z).2,gU _ (by rw[Qm s z];exact bh)⟩
   have Qn:(new++nw).Nodup:=oI.mpr ⟨Ic,adv,λs ms t mt z=>by
    have h1:=(sC s ms).2.2
    rw[z,Qm t mt] at h1
    exact hxn h1⟩
   rcases sD with ⟨rfl,adw⟩ | ⟨hv,adx,ib⟩
   .refine⟨_,rfl,rfl,_,rfl,?_⟩
    rw[aG rfl]
    exact bz (q .aA (new++nw) (dG++Qj) gw H6 ⟨Ia gM,Qk,Ql.weak λb o z _=>z.1,Ik,uA,Qn,λs ms=>⟨(Im s ms).1,(Im s ms).2.1⟩,.inl ⟨rfl,adw⟩⟩)
   .refine⟨_,rfl,rfl,_,rfl,?_⟩
    rw[aF hv]
    have GW:us.length<=64:=by rw[<-qk.length,jF];omega
    refine bf ⟨_,rfl,.inl ⟨rfl,_,aj.of B4⟩,_,rfl,_,rfl,(by show 2<=sizeLine;decide),λt ht=>?_⟩
    have rN:t≠pa:=λz=>by rw[z,B4] at ht;cases ht
    refine⟨pa,us,_,rfl,rfl,by rw[ak (bj rN)];exact B4,lS (by omega),?_⟩
    have o7:∀b o,b≠pa->H6 b=some o->upd (upd H6 t (.tup [.str x,v])) pa (.lst (us++[.ref t])) b=some o:=λb o n e=>by rw[ak n,ak (bq e ht)];exact e
    have Qo:upd (upd H6 t (.tup [.str x,v])) pa (.lst (us++[.ref t])) t=some (.tup [.str x,v]):=by rw[ak rN];exact au
    have Qp:upd (upd H6 t (.tup [.str x,v])) pa (.lst (us++[.ref t])) pa=some (.lst (us++[.ref t])):=au
    generalize upd (upd H6 t (.tup [.str x,v])) pa (.lst (us++[.ref t]))=H7 at o7 Qo Qp
    have Io:Kp (λb=>Z b/\b≠pa) H6 H7:=⟨λb o n1 _ e=>o7 b o (λz=>by rw[z,B4] at e;exact n1 _ (c9 e).symm) e,λb l z e=>o7 b _ z.2 e⟩
    have ady:Kp (λb=>Z b/\b≠pa) H5 H6:=kx.kp sk Ii Ih
    have Qq:=(Ij.trans ady).trans Io
    refine⟨_,_,dG++Qj,new++nw,gw,us++[.ref t],rfl,⟨λb o n1 n2 n3 e=>o7 b o n3 (gM b o n1 n2 n3 e),o7 _ _ i9 Qk,Ql.keep λb o e z=>o7 b _ z.2 e,o7 _ _ Qc Ik,uA.keep Io.i7,Qn,Im,adx,Qp,?_⟩⟩
    rw[gj]
    refine si (Paired.bI qk λx' v' g=>?_) (.cons ⟨t,v,rfl,Qo,c7,λtold ht=>(ib told λs ms=>ht s (gU _ ms)).mono Io (λ_ _ z _=>z) λ_ z=>z⟩ .nil)
    refine hide λG_ k4=>?_
    obtain⟨t',u',e1,e2,e3,e4⟩:=g
    refine k4.k ?_
    exact⟨t',u',e1,Qq.tup e2,e3,λtold ht=>(e4 told λs ms=>ht s (om _ ms)).mono Qq (λ_ _ z _=>z) λ_ z=>z⟩
  .intro σ Hi adz
   refine hide λG_ xD=>?_
   obtain⟨v5,v6,dG,new,kv,us,rfl,⟨off,ve,Ib,vf,qj,Ic,sC,Ie,B1,qk⟩⟩:=adz
   refine xD.k ?_
   rw[ar,JB] at qk
   refine⟨_,rfl,_,rfl,λx oa hx x6 cJ=>?_⟩
   have s4:af Hi (upd (upd Hi oa (.own x)) x (.ins CC oa [])):=λb o e=>by rw[ak (bq e hx),ak (bq e x6)];exact e
   have x9:upd (upd Hi oa (.own x)) x (.ins CC oa []) x=some (.ins CC oa []):=au
   generalize upd (upd Hi oa (.own x)) x (.ins CC oa [])=H4 at s4 x9
   refine⟨x,oa,pa,.int (pl:Int),us,rfl,x9,s4 _ _ B1,λr H5 vg h1 h2 h3=>⟨rfl,?_⟩⟩
   have s5:af Hi H5:=λb o e=>h3 _ _ (λz=>by rw[z,hx] at e;cases e) (s4 _ _ e)
   have ya:=Ia off
   have hrH:H r=none:=by
    cases eb:H r with
    |none=>rfl
    |some o=>
     by_cases z1:r=kn
     .rw[z1,s4 _ _ ve] at vg;cases vg
     .by_cases z2:r=fo
      .rw[z2,s4 _ _ vf] at vg;cases vg
      .rw[s4 _ _ (ya r o z1 z2 eb)] at vg;cases vg
   refine q (.ref x) new dG kv H5 ⟨ya.trans (KX.of s5),s5 _ _ ve,(Ib.weak λb o z _=>z.1).keep λb o e _=>s5 _ _ e,s5 _ _ vf,qj.keep λb o _ _ e=>s5 _ _ e,Ic,λs ms=>⟨(sC s ms).1,(sC s ms).2.1⟩,.inr ⟨(by intro z;cases z),Ie,λtold adA=>.inr ⟨x,oa,r,pl,Xs,us,rfl,h1,hZ r hrH,h2,hpl,Qb,Qa,Paired.bI qk λx v g=>?_⟩⟩⟩
   refine hide λG_ G4=>?_
   obtain⟨t,u,e1,e2,e3,e4⟩:=g
   refine G4.k ?_
   exact⟨t,u,e1,s5 _ _ e2,e3,(e4 told adA).mono (Kp.of s5) (λb o z _=>z.1) λ_ z=>z⟩
theorem Qr{CG CS CW CC:Addr}(B:Bl mg)(F:aW K "closing_paper" "closing_paper" (top 41) f fd)(hm:mg "closing_paper"=some (.ref f))(hk:PySem.W.keepIn K (.ref f)=true)(hb:Binds K fd ["standing","most","found"] [])(uV:Mt P w K mg base CS "narrowest" 1 (G8 CS) [])(uW:Mt P w K mg base CS "filled" 3 (Hf K CS CG) [])(uX:Mt P w K mg base CS "left" 1 (G7 K CS) [])(uY:Mt P w K mg base CS "after" 3 (Hj K CS CG) [])(uZ:Am K mg "Whole" CW)(u0:Nw P w K mg base "Cases" CC 1 (HP CC)) :
  ∀n:Nat,aM P w K mg base aR (n+4) f fd ["standing","most","found"] (BV K CG CS CW CC n)
 |0=>F.ok uU (λvs H Q E h=>by obtain⟨s,g,kn,fo,most,w,l,m,ks,wf,R,kvs,Z,M,ts,bT,rfl,hp,_⟩:=h;have:=hp.ek;omega) (λaH A outer s H vs Q E hr h=>by obtain⟨s,g,kn,fo,most,w,l,m,ks,wf,R,kvs,Z,M,ts,bT,rfl,hp,_⟩:=h;have:=hp.ek;omega)
 |n+1=>adb n B F ⟨f,fd,_,Qr B F hm hk hb uV uW uX uY uZ u0 n,hm,hk,hb⟩ uV uW uX uY uZ u0
end
theorem Qs:∀(r:List C2) (c:C2),((List.range r.length).filter λk=>decide (r[k]? = some c)).length=r.count c
 |[],c=>rfl
 |a::r,c=>by
  rw[c5,Jw,cR,sQ,JQ]
  have e:((λk=>decide ((a::r)[k]? = some c))∘Nat.succ)=λk=>decide (r[k]? = some c):=by funext k;rfl
  rw[e]
  have ih:=Qs r c
  by_cases z:a=c
  .have:decide ((a::r)[0]? = some c)=true:=by simp[z]
   rw[ax this,c5,ar,ih,ax (by simp[z])]
  .have:¬decide ((a::r)[0]? = some c)=true:=by simp[z]
   rw[aq this,ar,ih,aq (by simpa using z)]
   rfl
theorem adB(R:List (List C2))(c:C2):(cP R c).length=(R.map λr=>r.count c).sum:=by
 unfold cP
 rw[JS]
 have e:(List.map (λi=>(((List.range (ah R i).length).filter λk=>decide ((ah R i)[k]? = some c)).map λk=>(i,k)).length) (List.range R.length))=(List.range R.length).map (λi=>(λr:List C2=>r.count c) (R.getD i [])):=by
  refine JR λi _=>?_
  rw[ar,Qs]
  rfl
 rw[e,rR (λr:List C2=>r.count c)]
theorem Qt{l:List Str}{w:Nat}(c:C2):(cP (aD l w) c).length=cD c (dw l w):=by
 rw[adB,rX,iK]
 rfl
theorem adC{l:List Str}{w:Nat}{r:List C2}(h:r∈aD l w):r.Nodup:=by
 unfold aD kY i4 at h
 rcases dh.mp h with h | h
 .obtain⟨c,_,e⟩:=bt.mp (bQ.mp h).1
  rw[<-e]
  exact Fu (.inl rfl)
 .obtain⟨c,_,e⟩:=bt.mp (bQ.mp h).1
  rw[<-e]
  exact Fu (.inr rfl)
theorem adD{l:List Str}{w:Nat}(S:ba l w)(T:gu l w):GoodR (aD l w):=by
 have nd:∀i,(ah (aD l w) i).Nodup:=λi=>by
  by_cases hi:i<(aD l w).length
  .exact adC (pZ hi)
  .have:ah (aD l w) i=[]:=by
    unfold ah
    rw[bM,cB (Jt hi)]
    rfl
   rw[this]
   exact iF
 refine⟨nd,λi k c h=>?_⟩
 have hb:=(i5 S (pZ (k7 h).1)).2.2 c (bo h)
 have h2:(cP (aD l w) c).length=2:=by
  rw[Qt]
  exact T c (by rw[mh hb.1 hb.2.1];exact hb.2.2)
 have mo:(i,k)∈cP (aD l w) c:=pY.mpr h
 have Qu:=GJ (aD l w) c
 obtain⟨p,p',ep⟩:∃p p',cP (aD l w) c=[p,p']:=by
  match ho:cP (aD l w) c,h2 with
  |[a,b],_=>exact⟨a,b,rfl⟩
 have key:∃o:Nat×Nat,o≠(i,k)/\o∈cP (aD l w) c/\∀y∈cP (aD l w) c,y=(i,k)\/y=o:=by
  rw[ep] at mo Qu ⊢
  have cJ:p≠p':=by
   have:=(fq.mp Qu).1
   simpa using this
  rcases bX.mp mo with z | z
  .refine⟨p',λy=>cJ (by rw[<-z,y]),by simp,λy my=>?_⟩
   rcases bX.mp my with m | m
   .exact .inl (m.trans z.symm)
   .exact .inr (cg.mp m)
  .have z:=cg.mp z
   refine⟨p,λy=>cJ (by rw[<-z,y]),by simp,λy my=>?_⟩
   rcases bX.mp my with m | m
   .exact .inr m
   .exact .inl ((cg.mp m).trans z.symm)
 obtain⟨o,Es,jj,tY⟩:=key
 have oO:=pY.mp jj
 refine⟨o.1,o.2,λz=>Es ?_,oO,λi' k' h' =>?_⟩
 .rw[z] at oO
  exact qE z (GI (nd i) oO h)
 .rcases tY (i',k') (pY.mpr h') with z | z
  .injection z with z1 z2
   exact .inl ⟨z1,z2⟩
  .exact .inr ⟨by rw[<-z],by rw[<-z]⟩
theorem B5{l:List Str}{w:Nat}(S:ba l w)(T:gu l w):bY l w (aD l w):=by
 refine⟨S,rfl,adD S T,λc h1 h2 ho=>?_⟩
 have h:=T c (by rw[mh h1 h2];exact ho)
 rw[<-Qt] at h
 cases e:cP (aD l w) c with
 |nil=>rw[e] at h;cases h
 |cons p r=>exact⟨p.1,p.2,pY.mp (by rw[e];exact bh)⟩
structure iz(l m:List Str)(w:Nat):Prop where
 ln:m.length=l.length
 op:∀c:C2,c.1<l.length->c.2<w->bJ m c=bJ l c
theorem iz.bg{l m:List Str}{w:Nat}(F:iz l m w):bg m w=bg l w:=by
 funext c
 unfold Cw.bg
 rw[F.ln]
 by_cases h1:c.1<l.length
 .by_cases h2:c.2<w
  .rw[F.op c h1 h2]
  .rw[aF h2,gT,gT]
 .rw[aF h1,gT,gT]
theorem iz.bH{l m:List Str}{w:Nat}(F:iz l m w):bH m w=bH l w:=by
 unfold Cw.bH
 rw[F.ln]
 refine JO λc mc=>?_
 have:=rK mc
 exact F.op c this.1 this.2
theorem iz.dw{l m:List Str}{w:Nat}(F:iz l m w):dw m w=dw l w:=by
 unfold Cw.dw ij pK
 rw[F.bg,F.bH]
theorem iz.two{l m:List Str}{w:Nat}(F:iz l m w)(T:gu l w):gu m w:=λc hc=>by
 rw[F.dw]
 exact T c (by rw[<-F.bg];exact hc)
theorem iz.aD{l m:List Str}{w:Nat}(F:iz l m w):aD m w=aD l w:=GQ F.ln F.op
noncomputable def ke(l:List Str):List Str:=l.reverse.map kL
theorem Ip(x:Str):(kL x).cps.toList=x.cps.toList.reverse:=by simp[kL]
theorem adE(x:Str):(kL x).length=x.length:=by rw[<-b8,Ip,CU,b8]
theorem B6(l:List Str):(ke l).length=l.length:=by simp[ke]
theorem Qv{l:List Str}{w:Nat}(S:ba l w):ba (ke l) w:=by
 refine⟨by rw[B6];exact S.one,by rw[B6];exact S.nine,S.w1,S.w9,λx m=>?_,λx m c mc=>?_⟩
 .obtain⟨y,hy,rfl⟩:=bt.mp m
  rw[adE,S.len y (JT.mp hy)]
 .obtain⟨y,hy,rfl⟩:=bt.mp m
  rw[Ip] at mc
  exact S.ok y (JT.mp hy) c (JT.mp mc)
theorem adF{l:List Str}{i:Nat}(hi:i<l.length):(ke l)[i]? = (l[l.length - 1 - i]?).map kL:=by
 unfold ke
 rw[bb,JA hi]
theorem adG{l:List Str}{w:Nat}(S:ba l w){i j:Nat}(hi:i<l.length)(hj:j<w):sg (ke l) (i,j)=sg l (l.length - 1 - i,w - 1 - j):=by
 obtain⟨x,hx,mx,lx,pJ,jx⟩:=S.row (i:=l.length - 1 - i) (by omega)
 obtain⟨y,hy,my,ly,ly',jy⟩:=(Qv S).row (i:=i) (by rw[B6];exact hi)
 rw[adF hi,hx] at hy
 cases hy
 have h1:=jy j hj
 rw[Ip,JA (by omega),pJ,jx (w - 1 - j) (by omega)] at h1
 exact(c9 h1).symm
section
variable{P:Program}{w:World}{K:PySem.W.Frag}{mg:Str->Option Value}{base:Heap}{f:Addr}{fd:FuncData}
theorem Qw{β:Type}{f:Nat->β}:∀{l:List Nat}{ys:List β},Paired (λi y=>y=f i) l ys->ys=l.map f
 |_,_,.nil=>rfl
 |_,_,.cons h t=>by rw[bL,<-Qw t,h]
theorem adH{α β:Type}(g:α->β)(d:α)(l:List α):(List.range l.length).map (λi=>g (l.getD i d))=l.map g:=by
 apply iI
 intro i
 rw[bb,bb]
 by_cases h:i<l.length
 .rw[oG h,aU h,iD,iD,bM,aU h,oz]
 .rw[cB (by simpa using h),cB (by simpa using h)]
  rfl
def Qx(K:PySem.W.Frag):Sp:=λvs H Q _=>∃(a:Addr) (l:List Str) (w:Nat),vs=[.ref a]/\aw K H a (l.map V.str)/\ba l w/\∀t H',H t=none->af H H'->H' t=some (.tup ((ke l).map V.str))->Q (.ref t) H'
theorem adI:bc ["sheet"] ["sheet"] (aS (top 15)):={}
theorem adJ(B:Bl mg)(F:aW K "turned" "turned" (top 15) f fd):aM P w K mg base aR 1 f fd ["sheet"] (Qx K):=by
 refine F.bG adI λaH A outer s H vs Q E hr h=>?_
 refine hide λG_ aI=>?_
 obtain⟨a,l,wd,rfl,hT,S,q⟩:=h
 refine aI.k ?_
 have h9:=S.nine
 have hw:=S.w9
 refine⟨_,(az (aZ (jR wc (by rfl) B.xb wA (ab (jl (js:=[]) (ns:=[]) (Wb (by rfl) B.Y0 (ab (pv 0) ai)) rfl rfl rfl rfl (λ_ _ _ _=>jY) (λ_ _ _ _=>(We (pv 0) (Td Tf aE)))) ai)))),?_⟩
 try dsimp only[bD]
 refine⟨_,rfl,a,_,rfl,hT,comp_map Wc (by rw[CU,ar];omega) (λ_ i y _=>y = .str (kL (l.reverse.getD i ⟨#[]⟩))) (λH2 s2=>s2.tup hT) (λ_ _ _ _ _ _ _ _ h=>h) ?_ ?_⟩
 .intro D i x H2 Z hD hx s2 _ k1
  rw[<-List.map_reverse,bb] at hx
  cases e:l.reverse[i]? with
  |none=>rw[e] at hx;cases hx
  |some z=>
   rw[e] at hx
   cases hx
   have mz:=S.len z (JT.mp (bo e))
   exact⟨_,rfl,_,rfl,z,rfl,rfl,eA (by omega),k1 _ _ (af.cO _) (by rw[bS e])⟩
 .intro D ys H2 hD bB s2 pr
  have e:=Qw pr
  rw[CU,ar,<-CU (as:=l),adH (λz=>V.str (kL z))] at e
  refine⟨D,_,rfl,.inl ⟨aj.of bB,λt ht=>?_⟩⟩
  refine q t _ (s2.free ht) (s2.trans (af.upd ht)) ?_
  rw[au,e]
  unfold ke
  rw[iK]
  rfl
end
noncomputable def kc(c:C2):List Key:=[Sum.inl (c.1:Int),Sum.inl (c.2:Int)]
theorem adK{c d:C2}(h:kc c=kc d):c=d:=by
 unfold kc at h
 injection h with h1 h2
 injection h2 with h2 _
 injection h1 with h1
 injection h2 with h2
 exact C6.mpr ⟨by omega,by omega⟩
def qm(kvs:List (List Key×V))(g:C2->Nat):Prop := ∀c,aL kvs (kc c)=if g c=0 then none else some (.int (g c))
theorem qm.get{kvs:List (List Key×V)}{g:C2->Nat}(h:qm kvs g)(c:C2):(aL kvs (kc c)).getD (.int 0) = .int (g c):=by
 rw[h c]
 split
 .rename_i e;rw[e];rfl
 .rfl
theorem qm.put{kvs:List (List Key×V)}{g g':C2->Nat}(h:qm kvs g)(c:C2)(e1:g' c=g c+1)(e2:∀x,x≠c->g' x=g x):qm (putK kvs (kc c) (.int ((g c:Int)+1))) g':=by
 intro x
 rw[nh]
 by_cases e:x=c
 .subst e
  rw[ax rfl,aq (by omega),e1]
  rfl
 .rw[aq (λz=>e (adK z)),h x,e2 x e]
theorem adL(c:C2):cD c []=0:=rfl
theorem adM(c:C2)(rs:List (Nat×List C2))(q:Nat×List C2):cD c (rs++[q])=cD c rs+q.2.count c:=by
 unfold cD
 rw[dW,CV,bL,fM]
 rfl
theorem Iq{α:Type}{p:α->Bool}:∀{l:List α}{i:Nat}{c:α},l[i]? = some c->p c=true->(∀(j:Nat) (x:α),j<i->l[j]? = some x->p x=false)->l.find? p=some c
 |[],_,_,h,_,_=>by simp at h
 |y::r,0,c,h,hp,_=>by
  have h:y=c:=by simpa using h
  rw[h,List.find?_cons_of_pos hp]
 |y::r,i+1,c,h,hp,hj=>by
  have h0:=hj 0 y (Nat.succ_pos _) rfl
  rw[List.find?_cons_of_neg (by rw[h0];exact bW)]
  exact Iq (i:=i) (by simpa using h) hp λj x q e=>hj (j+1) x (by omega) (by simpa using e)
theorem Ir{α:Type}{p:α->Bool}{l:List α}(h:∀(j:Nat) (x:α),l[j]? = some x->p x=false):l.find? p=none:=by
 rw[List.find?_eq_none]
 intro x hx
 obtain⟨j,hj⟩:=eS hx
 rw[h j x hj]
 exact bW
noncomputable def vh(l:List Str)(c:C2):Bool := !bJ (ke l) c
noncomputable def dm(l:List Str)(w:Nat)(c:C2):Bool:=decide (cD c (dw l w)<2)
noncomputable def yb(l:List Str)(w:Nat):Option C2:=((bH l w).find? (vh l)).or ((bH l w).find? (dm l w))
section
variable{P:Program}{w:World}{K:PySem.W.Frag}{mg:Str->Option Value}{base:Heap}{f:Addr}{fd:FuncData}
def Qy(K:PySem.W.Frag):Sp:=λvs H Q _=>∃(a:Addr) (l:List Str) (w:Nat),vs=[.ref a]/\aw K H a (l.map V.str)/\ba l w/\
 ∀p kvs H',H p=none->af H H'->H' p=some (.dT kvs)->qm kvs (λc=>cD c (dw l w))->Q (.ref p) H'
theorem B7:bc ["sheet","counts","row","cell"] ["sheet"] (aS (top 24)):={}
theorem adN(F:aW K "rows_through" "rows_through" (top 24) f fd)(Hu:Fn P w K mg base "rows_of" 5 (FD K)):aM P w K mg base aR 6 f fd ["sheet"] (Qy K):=by
 refine F.bG B7 λaH A outer s H vs Q E hr h=>?_
 refine hide λG_ aI=>?_
 obtain⟨a,l,wd,rfl,hT,S,q⟩:=h
 refine aI.k ?_
 have dn:=jW hr
 have hrl:=rQ S
 refine⟨_,(av (aK (i:=1) B7.nd rfl (Or.inl rfl) Lb)
  (av (cG cF rfl (dF (aV Hu (hr.mono (by decide)) (by rfl) (ab (pv 0) ai))) (bR (i:=2) B7.nd rfl (Or.inl rfl))
  (az (cG cF rfl (y9 (aX cj (pv 2) aE (λ_ _=>rfl))) (bR (i:=3) B7.nd rfl (Or.inl rfl))
   (az (zE dn (pv 1) (pv 3) (aO eD (Lc dn (pv 1) (pv 3) aE ⟨rfl,rfl,rfl,rfl⟩) aE) rfl)))))
  (az (aZ (pv 1))))),?_⟩
 try dsimp only[bD]
 intro p hp
 have eO:af H (upd H p (.dT [])):=af.upd hp
 have ie:upd H p (.dT []) p=some (.dT []):=au
 generalize upd H p (.dT [])=H0 at eO ie
 refine⟨_,rfl,a,l,wd,rfl,eO.tup hT,S,λg xa xd H1 hg s1 hL rA rD=>⟨g,rfl,⟨_,aj.of hL⟩,?_⟩⟩
 have rB:=NB rA rD
 have Pz:=rB.length
 have nG:=s1 _ _ ie
 refine ku (xs:=xa++xd) (λi σ H2=>∃v2 v3 kvs,σ=[some (.ref a),some (.ref p),v2,v3]/\(∀b o,b≠p->H1 b=some o->H2 b=some o)/\H2 p=some (.dT kvs)/\kvs.length<=10*i/\qm kvs (λc=>cD c ((dw l wd).take i)))
  ⟨none,none,[],rfl,λ_ _ _ z=>z,nG,aQ _,λc=>by rw[oH,ax (adL c)];rfl⟩ ?_ ?_ ?_
 .rintro i σ H2 _ ⟨v2,v3,kvs,rfl,off,_⟩
  exact aj.of (off _ _ (b0 hL nG (by intro z;cases z)) hL)
 .intro i x σ H2 hx adO
  refine hide λG_ aY=>?_
  obtain⟨v2,v3,kvs,rfl,off,hd,nC,hC⟩:=adO
  have hi:i<(xa++xd).length:=(bZ.mp hx).1
  obtain⟨row,hq,way,aa,t,xs3,rfl,g1,g2,g3⟩:=Paired.get rB hx
  refine aY.k ?_
  have bu:=FR (bo hq)
  have B8:∀b o,H1 b=some (.tup o)->b≠p:=λb o z=>b0 z nG (by intro y;cases y)
  have Ez:=off _ _ (B8 _ _ g2) g2
  have hxs:=g3.length
  refine⟨_,rfl,aa,_,2,.ref t,rfl,rfl,aw.of (off _ _ (B8 _ _ g1) g1),rfl,t,rfl,⟨_,aw.of Ez⟩,?_⟩
  have kT:(dw l wd).take (i+1)=(dw l wd).take i++[row]:=by rw[fL,hq];rfl
  refine VV Eg (λj σ H3=>∃v3 kvs,σ=[some (.ref a),some (.ref p),some (.ref aa),v3]/\(∀b o,b≠p->H1 b=some o->H3 b=some o)/\H3 p=some (.dT kvs)/\kvs.length<=10*i+j/\qm kvs (λc=>cD c ((dw l wd).take i)+(row.2.take j).count c))
   ⟨v3,kvs,rfl,off,hd,nC,λc=>by simp only[oH,List.count_nil,C3];exact hC c⟩ (λj σ H3 _ ⟨_,_,_,iy,_⟩=>aw.of (iy _ _ (B8 _ _ g2) g2)) ?_ ?_
  .intro j x σ H3 hx3 adP
   refine hide λG_ bK=>?_
   obtain⟨v3,Iu,rfl,iy,j1,adQ,jw⟩:=adP
   obtain⟨c,hc,b,rfl,hb⟩:=Paired.get g3 hx3
   refine bK.k ?_
   have hj:j<row.2.length:=(bZ.mp hc).1
   have Qz:H3 b=some (.tup ((kc c).map kV)):=iy _ _ (B8 _ _ hb) hb
   refine⟨_,rfl,p,rfl,.inr ⟨Iu,.inl j1⟩,_,rfl,_,dO.t j1 Qz,?_⟩
   rw[jw.get c]
   refine⟨_,_,rfl,rfl,_,rfl,_,rfl,p,_,rfl,lP.t j1 Qz (lS (by omega)),?_⟩
   refine⟨_,_,rfl,λb' o ji z=>by rw[ak ji];exact iy b' o ji z,au,bA (tN _ _ _) (by omega),?_⟩
   have et:row.2.take (j+1)=row.2.take j++[c]:=by rw[fL,hc];rfl
   refine jw.put c ?_ λx pH=>?_
   .rw[et,JP,List.count_singleton_self]
    omega
   .rw[et,JP,(JM (l:=[c])).mpr (by simpa using pH),C3]
  .intro σ H3 adR
   refine hide λG_ cE=>?_
   obtain⟨v3,Iu,rfl,iy,j1,adQ,jw⟩:=adR
   refine cE.k ?_
   refine⟨_,_,Iu,rfl,iy,j1,by omega,λc=>?_⟩
   have:=jw c
   dsimp only at this ⊢
   rw[fw (l:=row.2) (i:=xs3.length) (by omega)] at this
   have e9:cD c ((dw l wd).take (i+1))=cD c ((dw l wd).take i)+row.2.count c:=by rw[kT,adM]
   rw[this]
   simp only[e9]
 .intro σ H2 adS
  refine hide λG_ eB=>?_
  obtain⟨v2,v3,kvs,rfl,off,hd,nC,hC⟩:=adS
  refine eB.k ?_
  rw[fw (by omega)] at hC
  refine⟨_,rfl,q p kvs H2 hp (λb o z=>off b o (bq z hp) (s1 _ _ (eO _ _ z))) hd hC⟩
def QA(K:PySem.W.Frag):Sp:=λvs H Q _=>∃(a:Addr) (l:List Str) (w:Nat),vs=[.ref a]/\aw K H a (l.map V.str)/\ba l w/\yb l w=none/\∀H',af H H'->Q .aA H'
theorem vi:bc ["sheet","about","cells","cell","counts"] ["sheet"] (aS (top 23)):={}
theorem adT(F:aW K "need_floor" "need_floor" (top 23) f fd)(adU:Fn P w K mg base "turned" 1 (Qx K))(FE:Fn P w K mg base "open_cells" 3 (Fz K))(xg:Fn P w K mg base "is_open" 2 (AL K))
  (adV:Fn P w K mg base "rows_through" 6 (Qy K)):aM P w K mg base aR 7 f fd ["sheet"] (QA K):=by
 refine F.bG vi λaH A outer s H vs Q E hr h=>?_
 refine hide λG_ aI=>?_
 obtain⟨a,l,wd,rfl,hT,S,vj,q⟩:=h
 refine aI.k ?_
 have dn:=jW hr
 refine⟨_,(av (aK (i:=1) vi.nd rfl (Or.inl rfl) (aV adU (hr.mono (by decide)) (by rfl) (ab (pv 0) ai)))
  (av (aK (i:=2) vi.nd rfl (Or.inl rfl) (aV FE (hr.mono (by decide)) (by rfl) (ab (pv 0) ai)))
  (av (cG cF rfl (dF (pv 2)) (bR (i:=3) vi.nd rfl (Or.inl rfl))
  (az (b6 (mV (kr (aV xg (hr.mono (by decide)) (by rfl) (ab (pv 1) (ab (pv 3) ai)))))
   (az vT)
   b9)))
  (av (aK (i:=4) vi.nd rfl (Or.inl rfl) (aV adV (hr.mono (by decide)) (by rfl) (ab (pv 0) ai)))
  (az (cG cF rfl (dF (pv 2)) (bR (i:=3) vi.nd rfl (Or.inl rfl))
  (az (b6 (cx lJ (Lc dn (pv 4) (pv 3) aE ⟨rfl,rfl,rfl,rfl⟩) aE (cH _))
   (az vT)
   b9)))))))),?_⟩
 try dsimp only[bD]
 refine⟨_,rfl,a,l,wd,rfl,hT,S,λt H1 ht s1 hTt=>?_⟩
 refine⟨_,rfl,a,l,wd,rfl,s1.tup hT,S,λp xs H2 hp s2 hL hC=>?_⟩
 have sF:=s1.trans s2
 have hcx:=hC.length
 refine⟨_,rfl,p,rfl,⟨_,aj.of hL⟩,ku (xs:=xs) (λi σ H3=>∃v3,σ=[some (.ref a),some (.ref t),some (.ref p),v3,none]/\H3=H2/\∀j c,j<i->(bH l wd)[j]? = some c->vh l c=false)
  ⟨none,rfl,rfl,λj c z=>absurd z (fZ _)⟩ (λi σ H3 _ ⟨_,_,e,_⟩=>by rw[e];exact aj.of hL) ?_ ?_⟩
 .intro i x σ H3 hx adW
  refine hide λG_ aY=>?_
  obtain⟨v3,rfl,rfl,dB⟩:=adW
  obtain⟨c,hc,b,rfl,hb⟩:=Paired.get hC hx
  obtain⟨m1,m2⟩:=rK (bQ.mp (bo hc)).1
  refine aY.k ?_
  refine⟨_,rfl,_,rfl,t,b,ke l,wd,c,rfl,aw.of (s2 _ _ hTt),Qv S,aw.of hb,by rw[B6];exact m1,m2,_,rfl,?_⟩
  cases ho:bJ (ke l) c with
  |true=>
   refine bf ⟨_,rfl,rfl,λj x hj e=>?_⟩
   rcases vI.mp hj with z | z
   .exact dB j x z e
   .rw[z,hc] at e
    cases e
    unfold vh
    rw[ho]
    rfl
  |false=>
   refine bz ?_
   unfold yb at vj
   rw[Iq hc (by unfold vh;rw[ho];rfl) dB] at vj
   cases vj
 .rintro σ H3 ⟨v3,rfl,rfl,dB⟩
  have kN:(bH l wd).find? (vh l)=none:=Ir λj x e=>dB j x (by rw[<-hcx];exact(bZ.mp e).1) e
  refine⟨_,rfl,a,l,wd,rfl,sF.tup hT,S,λd kvs H4 ie s4 hd hCn=>?_⟩
  have rY:=s4 _ _ hL
  refine⟨_,rfl,p,rfl,⟨_,aj.of rY⟩,ku (xs:=xs) (λi σ H5=>∃v3,σ=[some (.ref a),some (.ref t),some (.ref p),v3,some (.ref d)]/\H5=H4/\∀j c,j<i->(bH l wd)[j]? = some c->dm l wd c=false)
   ⟨v3,rfl,rfl,λj c z=>absurd z (fZ _)⟩ (λi σ H5 _ ⟨_,_,e,_⟩=>by rw[e];exact aj.of rY) ?_ ?_⟩
  .intro i x σ H5 hx adX
   refine hide λG_ bK=>?_
   obtain⟨v3,rfl,rfl,Iv⟩:=adX
   obtain⟨c,hc,b,rfl,hb⟩:=Paired.get hC hx
   refine bK.k ?_
   have hb4:H5 b=some (.tup ((kc c).map kV)):=s4 _ _ hb
   refine⟨_,rfl,d,rfl,.inr ⟨kvs,.inl hd⟩,_,rfl,_,dO.t hd hb4,?_⟩
   rw[hCn.get c]
   refine⟨_,_,rfl,rfl,_,rfl,?_⟩
   by_cases h2:cD c (dw l wd)<2
   .rw[aG (by omega)]
    refine bz ?_
    unfold yb at vj
    rw[kN,Iq hc (by unfold dm;exact aG h2) Iv] at vj
    cases vj
   .rw[aF (by omega)]
    refine bf ⟨_,rfl,rfl,λj x hj e=>?_⟩
    rcases vI.mp hj with z | z
    .exact Iv j x z e
    .rw[z,hc] at e
     cases e
     unfold dm
     exact aF h2
  .rintro σ H5 ⟨v3,rfl,rfl,Iv⟩
   exact q _ (sF.trans s4)
end
theorem adY{l:List Str}{w:Nat}(S:ba l w)(T:gu l w)(Y:jz l w):yb l w=none:=by
 unfold yb
 rw[Ir λj x e=>?_,Ir λj x e=>?_]
 .rfl
 .have mx:=bo e
  have hb:=rK (bQ.mp mx).1
  unfold dm
  rw[T x (by rw[mh hb.1 hb.2];exact(bQ.mp mx).2)]
  rfl
 .have mx:=bo e
  have hb:=rK (bQ.mp mx).1
  have ho:=(bQ.mp mx).2
  unfold vh
  have:bJ (ke l) x=true:=by
   unfold bJ at ho ⊢
   rw[show x=(x.1,x.2) from rfl,adG S hb.1 hb.2]
   have ho:¬sg l x=35:=by simpa using ho
   rw[aF λz=>ho ((Y x hb.1 hb.2).mpr z)]
   rfl
  rw[this]
  rfl
theorem iz.sym{l m:List Str}{w:Nat}(F:iz l m w)(Y:jz l w):jz m w:=λc h1 h2=>by
 have lQ:c.1<l.length:=by rw[<-F.ln];exact h1
 have e:∀d:C2,d.1<l.length->d.2<w->(sg m d=35↔sg l d=35):=λd d1 d2=>by
  have:=F.op d d1 d2
  unfold bJ at this
  constructor
  .intro z
   rw[aG z] at this
   simpa using this
  .intro z
   rw[aG z] at this
   simpa using this
 rw[F.ln,e c lQ h2,e (l.length - 1 - c.1,w - 1 - c.2) (by show l.length - 1 - c.1<_;omega) (by show w - 1 - c.2<w;omega)]
 exact Y c lQ h2
noncomputable def yc(al:List Nat):Nat->List (List Nat)
 |0=>[[]]
 |n+1=>al.flatMap λa=>(yc al n).map λr=>a::r
theorem QB(al:List Nat):∀n,(yc al n).length=al.length ^ n
 |0=>rfl
 |n+1=>by
  rw[yc,JS]
  simp only[ar,QB al n]
  rw[List.map_const',R5,Nat.pow_succ,mM]
theorem QC{al:List Nat}:∀{r:List Nat},(∀c∈r,c∈al)->r∈yc al r.length
 |[],_=>bh
 |a::r,h=>C5.mpr ⟨a,h a bh,kj (QC λc m=>h c (bF _ m))⟩
noncomputable def Iw:List Nat:=46::(List.range 26).map (· + 97)
def M4(t:Str):Prop:=t.length<=4/\∀c∈t.cps.toList,c=46\/(97<=c/\c<=122)
theorem adZ:Bw M4:=by
 intro ks nd h
 have h1:ks.length<=(((List.range 5).flatMap λn=>yc Iw n).map λr=>(Sum.inr ⟨r.toArray⟩:Key)).length:=by
  refine ud nd λk mk=>?_
  obtain⟨x,rfl,hx1,hx2⟩:=h k mk
  refine bt.mpr ⟨x.cps.toList,C5.mpr ⟨x.cps.toList.length,eC.mpr (by rw[b8];omega),QC λc mc=>?_⟩,by simp⟩
  unfold Iw
  rcases hx2 c mc with z | z
  .rw[z];exact bh
  .exact bF _ (bt.mpr ⟨c - 97,eC.mpr (by omega),by omega⟩)
 rw[ar,JS] at h1
 simp only[QB] at h1
 have e:Iw.length=27:=by decide
 rw[e] at h1
 have e2:((List.range 5).map λn=>27 ^ n).sum=551881:=by decide
 rw[e2] at h1
 exact lz h1 (by decide)
theorem ad0{l:List Str}{w:Nat}{r:List C2}(h4:l.length<=4)(w4:w<=4)(h:r∈aD l w):r.length<=4:=by
 have key:∀k:Nat,k<=1->∀c:C2,(bV (bg l w) (cu k) c).length<=4:=λk hk c=>by
  unfold bV
  split
  .exact bx _
  .split
   .exact bx _
   .rw[rL]
    rcases yM 4 (runN (bg l w) (cu k) 10 c) with z | z
    .exfalso
     have:=nK (ug z)
     unfold go cu at this
     dsimp only at this
     have e:k=0\/k=1:=by omega
     rcases e with e | e <;> subst e <;> simp at this <;> omega
    .exact z
 unfold aD kY i4 at h
 rcases dh.mp h with h | h
 .obtain⟨c,_,e⟩:=bt.mp (bQ.mp h).1
  rw[<-e]
  exact key 0 (by decide) c
 .obtain⟨c,_,e⟩:=bt.mp (bQ.mp h).1
  rw[<-e]
  exact key 1 (by decide) c
theorem QD{w:Nat}:∀{m:List Str}(_:dR m w) (cs:List C2) (xs:List Nat),(∀c∈cs,c.1<m.length/\c.2<w)->∀{d:C2},d.1<m.length->d.2<w->sg (putL m cs xs) d=sg m d\/sg (putL m cs xs) d∈xs
 |m,S,[],_,_,d,_,_=>by simp[putL]
 |m,S,c::cs,[],_,d,_,_=>by simp[putL]
 |m,S,c::cs,x::xs,h,d,d1,d2=>by
  have hc:=h c bh
  rw[putL]
  rcases QD (S.set (ch:=x) hc.1 hc.2) cs xs (λe me=>by rw[dq];exact h e (bF _ me)) (d:=d) (by rw[dq];exact d1) d2 with z | z
  .rw[z,S.kW hc.1 hc.2 d1 d2]
   by_cases e:d=c
   .rw[ax e];exact .inr bh
   .rw[aq e];exact .inl rfl
  .exact .inr (bF _ z)
theorem ad1{l:List Str}{w:Nat}(S:ba l w){c:C2}(h1:c.1<l.length)(h2:c.2<w):nI (sg l c):=by
 obtain⟨x,_,mx,_,_,hj⟩:=S.row h1
 exact S.ok x mx _ (bo (hj _ h2))
theorem ad2{m:List Str}{w pl k i:Nat}{R:List (List C2)}{x:Str}(F:bY m w R)(h4:m.length<=4)(w4:w<=4)(hx:ir x)(hi:i<R.length):M4 (ao (putL m ((ah R pl).take k) (x.cps.toList.take k)) (ah R i)):=by
 refine⟨?_,λc mc=>?_⟩
 .rw[eJ]
  have:=pZ hi
  rw[<-F.eq] at this
  rw[<-F.eq]
  exact ad0 h4 w4 this
 .rw[jB] at mc
  obtain⟨d,md,rfl⟩:=bt.mp mc
  obtain⟨j,hj⟩:=eS md
  have hb:=F.n0 hj
  rcases QD F.sh.dS ((ah R pl).take k) (x.cps.toList.take k) (λe me=>F.jC pl e (yP me)) hb.1 hb.2.1 with z | z
  .rw[z]
   have ho:=ad1 F.sh hb.1 hb.2.1
   have i0:¬sg m d=35:=by
    have:=hb.2.2
    unfold bJ at this
    simpa using this
   rcases ho with y | y | y
   .exact absurd y i0
   .exact .inl y
   .exact .inr y
  .exact .inr (hx _ (yP z))
theorem QE(l:List Str)(w:Nat):(fA l w).length<=l.length*w:=by
 unfold fA
 exact bA (gD _ _) (by rw[l9];exact aQ _)
section
variable{P:Program}{w:World}{K:PySem.W.Frag}{mg:Str->Option Value}{base:Heap}{f:Addr}{fd:FuncData}
def B9(K:PySem.W.Frag)(CB CW CC:Addr):Sp:=λvs H Q _=>∃(a bk d:Addr) (l:List Str) (w most:Nat) (kvs:List (Key×V)),vs=[.ref bk,.ref a,.int (most:Int)]/\H a=some (.tup (l.map V.str))/\ba l w/\gu l w/\jz l w/\l.length<=4/\w<=4/\fT CB H bk d kvs/\kvs.length<64/\(∀x∈aP kvs,cz x=true)/\sd kvs/\1<=most/\most<=1000/\
 ∀(t fo:Addr) (v:V) (ts:List Addr) (new:List (List Str)) (H':Hp),af H H'->H' t=some (.tup [.ref fo,v])->H' fo=some (.lst (ts.map V.ref))->fh H' ts new->new.Nodup->(∀s∈new,cb s l w/\fH (aP kvs) s w=true)->
  ((v = .aA/\new.length=most)\/(v ≠ .aA/\new.length<most/\n9 (λ_=>True) H' CW CC (aD l w) (aP kvs) new 17 v l))->Q (.ref t) H'
theorem Iy:bc ["book","sheet","most","found","paper"] ["book","sheet","most"] (aS (top 40)):={}
theorem ad3{CB CG CS CW CC:Addr}{dv:Value}(F:pB K "fillings" "fillings" (top 40) f fd dv)(ad4:Fn P w K mg base "need_floor" 7 (QA K))(ad5:Fn P w K mg base "first_standing" 8 (PN K CB CG CS))(HQ:Fn P w K mg base "closing_paper" 21 (BV K CG CS CW CC 17)):aM P w K mg base aR 22 f fd ["book","sheet","most"] (B9 K CB CW CC):=by
 refine F.ok Iy (λvs H Q E h=>?_) (λaH A outer s H vs Q E hr h=>?_)
 .refine hide λG_ aI=>?_
  obtain⟨a,bk,d,l,w,most,kvs,rfl,_⟩:=h
  refine aI.k ?_
  rfl
 .refine hide λG_ aY=>?_
  obtain⟨a,bk,d,l,wd,most,kvs,rfl,hT,S,T2,Sy,h4,w4,hB,eN,ja,HK,Iz,hm2,q⟩:=h
  refine aY.k ?_
  refine⟨_,(av (dM (aV ad4 (hr.mono (by decide)) (by rfl) (ab (pv 1) ai)))
   (av (aK (i:=3) Iy.nd rfl (Or.inl rfl) (dX ai))
   (av (aK (i:=4) Iy.nd rfl (Or.inl rfl) (aV HQ (hr.mono (by decide)) (by rfl) (ab (aV ad5 (hr.mono (by decide)) (by rfl) (ab (pv 0) (ab (pv 1) ai))) (ab (pv 2) (ab (pv 3) ai)))))
   (az (aZ (fB (ab (pv 3) (ab (pv 4) ai)))))))),?_⟩
  try dsimp only[bD]
  have FL:=B5 S T2
  refine⟨_,rfl,a,l,wd,rfl,aw.of hT,S,adY S T2 Sy,λH1 s1=>?_⟩
  refine⟨bx _,λfo dk=>?_⟩
  have s2:af H (upd H1 fo (.lst [])):=s1.trans (af.upd dk)
  have u9:upd H1 fo (.lst []) fo=some (.lst (([]:List Addr).map V.ref)):=au
  have ad6:H fo=none:=s1.free dk
  generalize upd H1 fo (.lst [])=H2 at s2 u9
  refine⟨_,rfl,_,rfl,a,bk,d,l,wd,aD l wd,kvs,rfl,s2 _ _ hT,FL,hB.mono s2,eN,ja,HK,λst g kn wo H3 s3 ad7 hG cL hS=>?_⟩
  have ad8:=s3 _ _ u9
  have fF:∀x∈aP kvs,ir x:=λx mx=>BR (ja x mx)
  have hkd:(aP kvs).Nodup:=PM hB.nd hB.tx
  have j5:=rQ S
  rw[<-uw] at j5
  have ad9:H kn=none:=s2.free ad7
  refine⟨_,rfl,_,rfl,st,g,kn,fo,most,wd,l,l,aP kvs,uz kvs,aD l wd,[],(λb=>H2 b=none),M4,[],[],rfl,⟨hG,hS,cL,⟨iF,(λk mk=>nomatch mk),(λx v hv=>by cases hv)⟩,adZ,λm' pl x k i Fm n5 hpl iw Pa _ hi _=>ad2 Fm (by omega) w4 (fF x iw) hi,FL,FL,rfl,by omega,ja,hkd,by rw[uy];exact eN,λb e=>?_,(λz=>by have z:H2 fo=none:=z;rw[u9] at z;cases z),ad8,.nil,Iz,hm2,?_⟩,λv new dG Qh H4 CP=>?_⟩
  .exact s3.free e
  .have:=QE l wd
   have:l.length*wd<=4*4:=CY h4 w4
   omega
  refine hide λG_ bK=>?_
  obtain⟨kx,x4,Hl,QF,qg,aea,aeb,sD⟩:=CP
  refine bK.k ?_
  rw[CN] at QF qg sD
  rw[CN] at qg
  refine⟨_,rfl,_,rfl,(by show 2<=sizeLine;decide),λt ht=>?_⟩
  have s5:af H4 (upd H4 t (.tup [.ref fo,v])):=af.upd ht
  have t5:upd H4 t (.tup [.ref fo,v]) t=some (.tup [.ref fo,v]):=au
  generalize upd H4 t (.tup [.ref fo,v])=H5 at s5 t5
  have yd:af H H4:=λb o e=>kx b o (bq e ad9) (bq e ad6) (s3 _ _ (s2 _ _ e))
  refine q t fo v dG new H5 (yd.trans s5) t5 (s5 _ _ QF) (qg.keep λb o _ _ e=>s5 _ _ e) aea aeb ?_
  rcases sD with z | ⟨z1,z2,z3⟩
  .exact .inl z
  .exact .inr ⟨z1,z2,(z3 new λ_ ms=>ms).mono (Kp.of s5) (λ_ _ _ _=>trivial) λ_ ms=>ms⟩
end
theorem Ca(K:PySem.W.Frag)(H:Hp):∀ss:List Str,dC K H (ss.map D.str) (ss.map V.str)
 |[]=>rfl
 |x::r=>⟨.str x,r.map V.str,rfl,rfl,Ca K H r⟩
theorem Cb:∀ss:List Str,eZ (ss.map D.str)=0
 |[]=>rfl
 |x::r=>by
  rw[bL,eZ,Cb r]
  rfl
theorem aec(ss:List Str):d7 (.lst (ss.map D.str)) (.lst [])=decide (ss=[]):=by
 cases ss with
 |nil=>rfl
 |cons x r=>rfl
section
variable{P:Program}{w:World}{K:PySem.W.Frag}{mg:Str->Option Value}{base:Heap}{f:Addr}{fd:FuncData}
def ye(H:Hp)(m:List Str)(R:List (List C2))(ks:List Str)(n:Nat)(v:V):Prop:=
 (v = .aA/\∀pl,pl<n->dg m R pl ks≠[]/\46∉(ao m (ah R pl)).cps.toList)\/
 ∃(t q:Addr) (pl:Nat),v = .ref t/\H t=some (.tup [.int (pl:Int),.ref q])/\H q=some (.lst ((dg m R pl ks).map V.str))/\pl<R.length/\(dg m R pl ks=[]\/46∈(ao m (ah R pl)).cps.toList)
theorem ye.mono{H H':Hp}{m:List Str}{R:List (List C2)}{ks:List Str}{n:Nat}{v:V}(s:af H H')(h:ye H m R ks n v):ye H' m R ks n v:=by
 rcases h with h | ⟨t,q,pl,e,h1,h2,h3,h4⟩
 .exact .inl h
 .exact .inr ⟨t,q,pl,e,s _ _ h1,s _ _ h2,h3,h4⟩
def IA(K:PySem.W.Frag):Sp:=λvs H Q _=>∃(ww g a:Addr) (ws:List Str) (l:List Str) (w:Nat) (R:List (List C2)) (zs:List V),vs=[.ref ww,.ref g,.ref a,.int 0]/\H ww=some (.lst (ws.map V.str))/\ws.length<64/\(∀x∈ws,cz x=true)/\aw K H a (l.map V.str)/\bY l w R/\H g=some (.lst zs)/\fG g H R zs/\
 ∀v H',af H H'->ye H' l R ws R.length v->Q v H'
theorem vk:bc ["_law_words_here","_law_rows_here","_law_sheet","_law_at","_law_narrow","_law_k","_law_place","_law_left_here"] ["_law_words_here","_law_rows_here","_law_sheet","_law_at"] (aS (top 67)):={}
theorem aed(B:Bl mg)(F:aW K "_law_turn" "_law_turn" (top 67) f fd)(aee:Fn P w K mg base "_law_left" 2 (Ou K))(mB:Fn P w K mg base "_law_text" 1 (xu K)):aM P w K mg base aR 3 f fd ["_law_words_here","_law_rows_here","_law_sheet","_law_at"] (IA K):=by
 refine F.bG vk λaH A outer s H vs Q E hr h=>?_
 refine hide λG_ aI=>?_
 obtain⟨ww,g,a,ws,l,wd,R,zs,rfl,hW,eN,ja,hT,FM,hG,hR,q⟩:=h
 refine aI.k ?_
 have hu:=hr.units
 refine⟨_,(av (aK (i:=4) vk.nd rfl (Or.inl rfl) mU)
  (av (cG cF rfl (iN (by rfl) B.iW (ab (bP dY (by rfl) B.cq cn (ab (pv 1) ai)) ai)) (bR (i:=5) vk.nd rfl (Or.inl rfl))
  (av (aK (i:=6) vk.nd rfl (Or.inl rfl) (aO eW (aO eD (pv 3) (pv 5)) (bP dY (by rfl) B.cq cn (ab (pv 1) ai))))
   (av (aK (i:=7) vk.nd rfl (Or.inl rfl) (aV aee (hr.mono (by decide)) (by rfl) (ab (pv 0) (ab (pv 1) (ab (pv 2) (ab (pv 6) ai))))))
   (az (b6 (PW.pt (tj (cx (Ed hu) (pv 7) (dX ai) (cH _)) (tf (cx Dm gh (aV mB (hr.mono (by decide)) (by rfl) (ab (pv 2) (ab (aX fN (pv 1) (pv 6) (λ_ _=>rfl)) ai))) rfl))))
   (az (b6 (PW.pt (tj (cx ze (pv 4) mU (cH _)) (tf (cx lJ (bP dY (by rfl) B.cq cn (ab (pv 7) ai)) (bP dY (by rfl) B.cq cn (ab (aX cj (pv 4) aE (λ_ _=>rfl)) ai)) (cH _)))))
    (az (aK (i:=4) vk.nd rfl (Or.inl rfl) (fB (ab (pv 6) (ab (pv 7) ai)))))
    b9))
   b9)))))
  (az (aZ (pv 4))))),?_⟩
 try dsimp only[bD]
 have Gw:=hR.length
 have j5:=rQ FM.sh
 rw[<-uw,FM.eq] at j5
 refine⟨_,rfl,g,_,rfl,.inl (aj.of hG),_,rfl,by omega,by omega,?_⟩
 rw[dH,<-Gw]
 refine jo (λi σ H2=>∃(v4:V) (v5 v6 v7:Option V),σ=[some (.ref ww),some (.ref g),some (.ref a),some (.int 0),some v4,v5,v6,v7]/\af H H2/\ye H2 l R ws i v4)
  ⟨.aA,none,none,none,rfl,af.cO _,.inl ⟨rfl,λpl h=>absurd h (fZ _)⟩⟩ ?_ ?_
 .intro i σ H3 hi aef
  refine hide λG_ aY=>?_
  obtain⟨v4,v5,v6,v7,rfl,sm,hN⟩:=aef
  obtain⟨v,hv⟩:∃v,zs[i]? = some v:=⟨_,aU (by omega)⟩
  obtain⟨r,fU,p,ys,rfl,_,hp,hc⟩:=Paired.get hR hv
  refine aY.k ?_
  have er:ah R i=r:=bS fU
  have bu:=i5 FM.sh (r:=r) (by rw[FM.eq];exact bo fU)
  have ei:(0+(i:Int)) % (zs.length:Int)=(i:Int):=by rw[Int.zero_add];exact Int.emod_eq_of_lt (by omega) (by omega)
  refine⟨_,rfl,_,rfl,_,_,rfl,rfl,_,rfl,g,_,rfl,.inl (aj.of (sm _ _ hG)),_,_,rfl,rfl,(by omega),?_⟩
  dsimp only
  rw[ei]
  refine⟨_,rfl,_,rfl,_,rfl,_,rfl,ww,g,a,ws,l,wd,i,zs,rfl,sm _ _ hW,eN,ja,sm.tup hT,FM.sh,sm _ _ hG,by rw[FM.eq];exact fG.mono sm hR,by rw[FM.eq];exact hi,λt H4 ht s4 QG=>?_⟩
  rw[FM.eq] at QG
  have dQ:=sm.trans s4
  refine⟨_,rfl,bx _,λen Bj=>?_⟩
  have s5:af H4 (upd H4 en (.lst [])):=af.upd Bj
  have QH:upd H4 en (.lst []) en=some (.lst []):=au
  generalize upd H4 en (.lst [])=H5 at s5 QH
  have ik:=dQ.trans s5
  have yf:=s5 _ _ QG
  have QI:=hN.mono (s4.trans s5)
  refine⟨.lst ((dg l R i ws).map D.str),.lst [],⟨t,_,rfl,aj.of yf,Ca _ _ _⟩,⟨en,_,rfl,aj.of QH,rfl⟩,.inr ⟨_,_,rfl,rfl⟩,by rw[dep,Cb];decide,_,rfl,?_⟩
  rw[aec]
  by_cases h0:dg l R i ws=[]
  .rw[aG h0]
   refine bz (bz ?_)
   have hb:dg l R i ws=[]\/46∈(ao l (ah R i)).cps.toList := .inl h0
   have Cc:=QI
   have qo:=ik
   have sG:=yf
   rcases Cc with ⟨rfl,kN⟩ | ⟨t0,q0,IB,rfl,h1,h2,h3,h4⟩
   .refine⟨_,rfl,rfl,_,rfl,bz (bz ⟨_,rfl,_,rfl,(by show 2<=sizeLine;decide),λtn lh=>?_⟩)⟩
    exact⟨.ref tn,_,_,_,rfl,qo.trans (af.upd lh),.inr ⟨tn,t,i,rfl,au,(af.upd lh) _ _ sG,hi,hb⟩⟩
   .refine⟨_,rfl,rfl,_,rfl,bf ⟨_,rfl,t,_,rfl,.inl (aj.of sG),_,rfl,t0,_,1,.ref q0,rfl,rfl,aw.of h1,rfl,q0,_,rfl,.inl (aj.of h2),_,_,rfl,rfl,_,rfl,eM (λh=>?_) (λh=>?_)⟩⟩
    .refine⟨_,rfl,_,rfl,(by show 2<=sizeLine;decide),λtn lh=>?_⟩
     exact⟨.ref tn,_,_,_,rfl,qo.trans (af.upd lh),.inr ⟨tn,t,i,rfl,au,(af.upd lh) _ _ sG,hi,hb⟩⟩
    .exact⟨.ref t0,_,_,_,rfl,qo,.inr ⟨t0,q0,IB,rfl,h1,h2,h3,h4⟩⟩
  .rw[aF h0]
   refine bf ⟨_,rfl,_,rfl,_,rfl,g,_,_,.ref p,rfl,rfl,aj.of (ik _ _ hG),dz hv,a,p,l,wd,r,ys,rfl,ik.tup hT,FM.sh,ik _ _ hp,hc.mono ik,by have:=bu.2.1;omega,λc hc=>⟨(bu.2.2 c hc).1,(bu.2.2 c hc).2.1⟩,λH6 s6=>⟨_,_,rfl,rfl,_,rfl,?_⟩⟩
   have qo:=ik.trans s6
   have sG:=s6 _ _ yf
   have Cc:=QI.mono s6
   have ef:(!(Builtin.Str.occurrences (ao l r) (Str.ofString ".") 0 (ao l r).length 1).isEmpty)=decide (46∈(ao l r).cps.toList):=by
    rw[AK]
    exact JN (ao l r) 46
   rw[ef]
   by_cases cY:46∈(ao l r).cps.toList
   .rw[aG cY]
    have hb:dg l R i ws=[]\/46∈(ao l (ah R i)).cps.toList := .inr (by rw[er];exact cY)
    refine bz ?_
    rcases Cc with ⟨rfl,kN⟩ | ⟨t0,q0,IB,rfl,h1,h2,h3,h4⟩
    .refine⟨_,rfl,rfl,_,rfl,bz (bz ⟨_,rfl,_,rfl,(by show 2<=sizeLine;decide),λtn lh=>?_⟩)⟩
     exact⟨.ref tn,_,_,_,rfl,qo.trans (af.upd lh),.inr ⟨tn,t,i,rfl,au,(af.upd lh) _ _ sG,hi,hb⟩⟩
    .refine⟨_,rfl,rfl,_,rfl,bf ⟨_,rfl,t,_,rfl,.inl (aj.of sG),_,rfl,t0,_,1,.ref q0,rfl,rfl,aw.of h1,rfl,q0,_,rfl,.inl (aj.of h2),_,_,rfl,rfl,_,rfl,eM (λh=>?_) (λh=>?_)⟩⟩
     .refine⟨_,rfl,_,rfl,(by show 2<=sizeLine;decide),λtn lh=>?_⟩
      exact⟨.ref tn,_,_,_,rfl,qo.trans (af.upd lh),.inr ⟨tn,t,i,rfl,au,(af.upd lh) _ _ sG,hi,hb⟩⟩
     .exact⟨.ref t0,_,_,_,rfl,qo,.inr ⟨t0,q0,IB,rfl,h1,h2,h3,h4⟩⟩
   .rw[aF cY]
    refine bf ⟨v4,_,_,_,rfl,qo,?_⟩
    rcases Cc with ⟨e,kN⟩ | z
    .refine .inl ⟨e,λpl hpl=>?_⟩
     rcases yM pl i with y | y
     .exact kN pl y
     .have e2:pl=i:=by omega
      rw[e2,er]
      exact⟨h0,cY⟩
    .exact .inr z
 .intro σ H3 aeg
  refine hide λG_ bK=>?_
  obtain⟨v4,v5,v6,v7,rfl,sm,hN⟩:=aeg
  refine bK.k ?_
  exact⟨_,rfl,q _ _ sm hN⟩
end
theorem cb.op{s m:List Str}{w:Nat}(A:cb s m w){c:C2}(h1:c.1<m.length)(h2:c.2<w):bJ s c=bJ m c:=by
 have a:=A.cl c h1 h2
 unfold bJ
 by_cases h:sg m c=46
 .have e1:¬sg s c=35:=a.2 h
  have e2:¬sg m c=35:=by omega
  rw[aF e1,aF e2]
 .rw[a.1 h]
theorem cb.rows{s m:List Str}{w:Nat}(A:cb s m w):aD s w=aD m w:=GQ A.ln λ_ h1 h2=>A.op h1 h2
theorem cb.get{s m:List Str}{w:Nat}{R:List (List C2)}(F:bY m w R)(A:cb s m w){pl k:Nat}{c:C2}(hc:(ah R pl)[k]? = some c):(ao m (ah R pl)).cps.toList.getD k 0=46\/(ao m (ah R pl)).cps.toList.getD k 0=(ao s (ah R pl)).cps.toList.getD k 0:=by
 have hb:=F.n0 hc
 rw[bS (ip hc),bS (ip hc)]
 by_cases h:sg m c=46
 .exact .inl h
 .exact .inr ((A.cl c hb.1 hb.2.1).1 h).symm
theorem cb.fit{s m:List Str}{w:Nat}{R:List (List C2)}(F:bY m w R)(A:cb s m w)(pl:Nat):cA (ao s (ah R pl)) (ao m (ah R pl))=true:=by
 refine iq.mpr ⟨by rw[eJ,eJ],λk hk=>?_⟩
 rw[eJ] at hk
 exact A.get F (aU hk)
theorem cb.put{s m:List Str}{w:Nat}{R:List (List C2)}(F:bY m w R)(A:cb s m w)(pl:Nat)(hx:ir (ao s (ah R pl))):cb s (putL m (ah R pl) (ao s (ah R pl)).cps.toList) w:=by
 have hlen:=k8 m (ah R pl) (ao s (ah R pl)).cps.toList
 refine⟨A.sh,by rw[A.ln,hlen],λc h1 h2=>?_⟩
 rw[hlen] at h1
 rcases xK F pl (eJ s (ah R pl)) h1 h2 with ⟨k,ch,hk,hch,e⟩ | ⟨_,e⟩
 .have hb:=hx ch (bo hch)
  rw[ip hk] at hch
  rw[e,c9 hch]
  exact⟨λ_=>rfl,λh=>by omega⟩
 .rw[e]
  exact A.cl c h1 h2
theorem cb.left{s m:List Str}{w:Nat}{R:List (List C2)}{ks:List Str}(F:bY m w R)(A:cb s m w)(hw:∀x∈ks,cz x=true)(hf:fH ks s w=true){pl:Nat}(hpl:pl<R.length):ao s (ah R pl)∈dg m R pl ks:=by
 obtain⟨_,nd,h3⟩:=xF hf
 have et:gQ s w=R.map (ao s):=by unfold gQ;rw[A.rows,F.eq]
 rw[et] at nd h3
 have hk:∀i,i<R.length->ao s (ah R i)∈ks:=λi hi=>h3 _ (kj (pZ hi))
 unfold dg
 refine bQ.mpr ⟨(ic _).mem_iff.mpr (bQ.mpr ⟨hk pl hpl,A.fit F pl⟩),?_⟩
 rw[aF]
 .rfl
 intro h
 obtain⟨i,hi,cJ,e⟩:=GU.mp h
 have cK:=(abP (hw _ (hk pl hpl))).abQ
 have e2:ao s (ah R i)=ao m (ah R i):=by
  apply l7
  apply iI
  intro k
  by_cases iR:k<(ah R i).length
  .have hc:(ah R i)[k]? = some (ah R i)[k]:=aU iR
   have hb:=F.n0 hc
   rw[ip hc,ip hc,(A.cl _ hb.1 hb.2.1).1 λz=>cK ?_]
   rw[<-e,jB,<-z]
   exact kj (bo hc)
  .rw[cB (by rw[jB,ar];omega),cB (by rw[jB,ar];omega)]
 have e3:(R.map (ao s))[i]? = (R.map (ao s))[pl]? :=by
  rw[j7 R _ hi,j7 R _ hpl,e2,e]
 exact cJ ((List.getElem?_inj (by rw[ar];exact hi) nd).mp e3)
theorem cb.same{s m:List Str}{w:Nat}(S:ba m w)(A:cb s m w)(h:j4 m=false):s=m:=by
 refine GR A.sh.dS S.dS A.ln λc h1 h2=>?_
 rw[A.ln] at h1
 refine(A.cl c h1 h2).1 λz=>?_
 obtain⟨x,hx,mx,_,hl,hj⟩:=S.row h1
 have:j4 m=true:=by
  unfold j4
  refine yD.mpr ⟨x,mx,aG ?_⟩
  rw[<-z]
  exact bo (hj _ h2)
 rw[h] at this
 cases this
theorem aeh{m:List Str}{w:Nat}{R:List (List C2)}{ks:List Str}(F:bY m w R)(h:∀pl,pl<R.length->dg m R pl ks≠[]/\46∉(ao m (ah R pl)).cps.toList):j4 m=false/\fH ks m w=true:=by
 have hd:j4 m=false:=PZ F λr mr=>by
  obtain⟨i,hi⟩:=eS mr
  have:=(h i (bZ.mp hi).1).2
  rwa [show ah R i=r from bS hi] at this
 have key:∀pl,pl<R.length->ao m (ah R pl)∈ks/\ao m (ah R pl)∉nW m R pl:=λpl hpl=>by
  obtain⟨h1,h2⟩:=h pl hpl
  obtain⟨x,mx⟩:=List.exists_mem_of_ne_nil _ h1
  unfold dg at mx
  obtain⟨mx,hn⟩:=bQ.mp mx
  obtain⟨hk,hf⟩:=bQ.mp ((ic _).mem_iff.mp mx)
  obtain⟨hl,hx⟩:=iq.mp hf
  have e:x=ao m (ah R pl):=by
   apply l7
   apply iI
   intro k
   by_cases iR:k<x.length
   .have a1:x.cps.toList[k]? = some (x.cps.toList.getD k 0):=by
     rw[bM,aU (by rw[b8];exact iR)];rfl
    have a2:(ao m (ah R pl)).cps.toList[k]? = some ((ao m (ah R pl)).cps.toList.getD k 0):=by
     rw[bM,aU (by rw[b8];omega)];rfl
    rw[a1,a2]
    rcases hx k iR with z | z
    .exact absurd (by rw[<-z];exact bo a2) h2
    .rw[z]
   .rw[cB (by rw[b8];omega),cB (by rw[b8];omega)]
  rw[<-e]
  exact⟨hk,by simpa using hn⟩
 refine⟨hd,Be hd ?_ ?_⟩
 .unfold gQ
  rw[F.eq,List.Nodup,JL]
  intro i j hi hj uf e
  rw[ar] at hi hj
  have g:∀k (hk:k<R.length),(R.map (ao m))[k]'(by rw[ar];exact hk)=ao m (ah R k):=λk hk=>by
   have:=j7 R (ao m) hk
   rw[aU (by rw[ar];exact hk)] at this
   exact c9 this
  rw[g i hi,g j hj] at e
  exact(key i hi).2 (GU.mpr ⟨j,hj,by omega,e.symm⟩)
 .intro x mx
  unfold gQ at mx
  rw[F.eq] at mx
  obtain⟨r,mr,rfl⟩:=bt.mp mx
  obtain⟨i,hi⟩:=eS mr
  have:=(key i (bZ.mp hi).1).1
  rwa [show ah R i=r from bS hi] at this
def ll(ks m:List Str)(w:Nat)(new:List (List Str)):Prop:=new.Nodup/\∀s,s∈new↔cb s m w/\fH ks s w=true
theorem ll.whole{m:List Str}{w:Nat}{R:List (List C2)}{ks:List Str}(F:bY m w R)(h:∀pl,pl<R.length->dg m R pl ks≠[]/\46∉(ao m (ah R pl)).cps.toList):ll ks m w [m]:=by
 obtain⟨hd,hf⟩:=aeh F h
 refine⟨fq.mpr ⟨fK,iF⟩,λs=>⟨λms=>?_,λ⟨a,_⟩=>?_⟩⟩
 .rw[cg.mp ms]
  exact⟨cb.refl F.sh,hf⟩
 .exact cg.mpr (a.same F.sh hd)
def og(ks m:List Str)(w:Nat)(R:List (List C2))(pl:Nat)(Xs:List Str)(new:List (List Str)):Prop:=new.Nodup/\∀s,s∈new↔cb s m w/\fH ks s w=true/\ao s (ah R pl)∈Xs
theorem QJ{m:List Str}{R:List (List C2)}{pl:Nat}{ks:List Str}{x:Str}(h:x∈dg m R pl ks):x∈ks/\cA x (ao m (ah R pl))=true:=by
 unfold dg at h
 exact bQ.mp ((ic _).mem_iff.mp (bQ.mp h).1)
theorem og.step{ks m:List Str}{w:Nat}{R:List (List C2)}{pl:Nat}{Xs:List Str}{x:Str}{new nw:List (List Str)}(F:bY m w R)(hx:ir x)(c7:cA x (ao m (ah R pl))=true)(hn:x∉Xs)(S:og ks m w R pl Xs new)(A:ll ks (putL m (ah R pl) x.cps.toList) w nw):og ks m w R pl (Xs++[x]) (new++nw):=by
 have hl:x.length=(ah R pl).length:=by rw[(iq.mp c7).1,eJ]
 have ht:∀s∈nw,cb s m w/\fH ks s w=true/\ao s (ah R pl)=x:=λs ms=>by
  obtain⟨a,b⟩:=(A.2 s).mp ms
  exact⟨a.OO F hx c7,b,a.text F hx hl⟩
 refine⟨oI.mpr ⟨S.1,A.1,λs ms t mt e=>?_⟩,λs=>?_⟩
 .have h1:=((S.2 s).mp ms).2.2
  rw[e,(ht t mt).2.2] at h1
  exact hn h1
 .rw[dh,S.2,dh,cg]
  constructor
  .rintro(⟨a,b,c⟩ | h)
   .exact⟨a,b,.inl c⟩
   .obtain⟨a,b,c⟩:=ht s h
    exact⟨a,b,.inr c⟩
  .rintro⟨a,b,c | c⟩
   .exact .inl ⟨a,b,c⟩
   .refine .inr ((A.2 s).mpr ⟨?_,b⟩)
    have:=a.put F pl (by rw[c];exact hx)
    rwa [c] at this
theorem og.all{ks m:List Str}{w:Nat}{R:List (List C2)}{pl:Nat}{new:List (List Str)}(F:bY m w R)(hw:∀x∈ks,cz x=true)(hpl:pl<R.length)(S:og ks m w R pl (dg m R pl ks) new):ll ks m w new:=
 ⟨S.1,λs=>by
  rw[S.2]
  exact⟨λh=>⟨h.1,h.2.1⟩,λh=>⟨h.1,h.2,h.1.left F hw h.2 hpl⟩⟩⟩
theorem og.nil(ks m:List Str)(w:Nat)(R:List (List C2))(pl:Nat):og ks m w R pl [] []:=⟨iF,λs=>⟨(λh=>nomatch h),(λh=>nomatch h.2.2)⟩⟩
noncomputable def lsN{α:Type}(al:List α):Nat->List (List α)
 |0=>[[]]
 |n+1=>al.flatMap λa=>(lsN al n).map λr=>a::r
theorem QK{α:Type}(al:List α):∀n,(lsN al n).length=al.length ^ n
 |0=>rfl
 |n+1=>by
  rw[lsN,JS]
  simp only[ar,QK al n]
  rw[List.map_const',R5,Nat.pow_succ,mM]
theorem QL{α:Type}{al:List α}:∀{r:List α},(∀c∈r,c∈al)->r∈lsN al r.length
 |[],_=>bh
 |a::r,h=>C5.mpr ⟨a,h a bh,kj (QL λc m=>h c (bF _ m))⟩
noncomputable def oh(m:List Str)(w:Nat):List (List C2):=(ij m w).map (·.2)
theorem QM{m:List Str}{w:Nat}{r:List C2}(h:r∈oh m w):r∈aD m w:=by
 obtain⟨q,mq,rfl⟩:=bt.mp h
 rw[rX]
 exact kj (dh.mpr (.inl mq))
theorem QN{m:List Str}{w:Nat}(S:ba m w)(T:gu m w){c:C2}(h:bg m w c=true):cD c (ij m w)=1:=by
 have:=T c h
 rw[GC,AD S,Fv S] at this
 rw[AD S]
 split at this <;> split at this <;> simp_all
theorem aei{m:List Str}{w:Nat}(S:ba m w)(T:gu m w)(h9:m.length*w<=9):(oh m w).length<=4:=by
 have bu:∀q∈ij m w,2<=q.2.length/\∀c∈q.2,c∈bH m w:=λq mq=>by
  have h1:q.2∈aD m w:=QM (kj mq)
  have h2:=i5 S h1
  exact⟨h2.1,λc mc=>by
   have hc:=h2.2.2 c mc
   exact w8 (by rw[mh hc.1 hc.2.1];exact hc.2.2)⟩
 have e:=GB (AB m w) (rs:=ij m w) λq mq=>(bu q mq).2
 have e2:((bH m w).map λc=>cD c (ij m w)).sum=(bH m w).length:=by
  rw[JR (g:=λ_=>1) λc mc=>?_,List.map_const',R5,gX]
  refine QN S T ?_
  unfold bH at mc
  obtain⟨m1,m2⟩:=bQ.mp mc
  have:=rK m1
  rw[mh this.1 this.2]
  exact m2
 have e3:(bH m w).length<=9:=by
  refine bA ?_ h9
  unfold bH
  exact bA (gD _ _) (by rw[l9];exact aQ _)
 have e4:∀rs:List (Nat×List C2),(∀q∈rs,2<=q.2.length)->2*rs.length<=(rs.map λq=>q.2.length).sum:=by
  intro rs
  induction rs with
  |nil=>intro _;exact aQ _
  |cons a t ih=>
   intro h
   rw[bL,fM,c5]
   have:=h a bh
   have:=ih λq mq=>h q (bF _ mq)
   omega
 have:=e4 (ij m w) λq mq=>(bu q mq).1
 unfold oh
 rw[ar]
 omega
theorem aej{m:List Str}{w:Nat}(S:ba m w)(T:gu m w){s t:List Str}(A:cb s m w)(B:cb t m w)(e:(oh m w).map (ao s)=(oh m w).map (ao t)):s=t:=by
 refine GR A.sh.dS B.sh.dS (A.ln.trans B.ln.symm) λc h1 h2=>?_
 rw[A.ln] at h1
 by_cases ho:bJ m c=true
 .have h:=QN S T (c:=c) (by rw[mh h1 h2];exact ho)
  have hx:∃r∈oh m w,c∈r:=by
   refine yN λhn=>?_
   have:cD c (ij m w)=0:=by
    unfold cD
    refine uh λy my=>?_
    obtain⟨q,mq,rfl⟩:=bt.mp my
    exact JM.mpr λmc=>hn ⟨q.2,kj mq,mc⟩
   omega
  obtain⟨r,mr,mc⟩:=hx
  have er:ao s r=ao t r:=by
   obtain⟨i,hi⟩:=eS mr
   have:=dU (λz=>z[i]?) e
   rw[bb,bb,hi] at this
   exact c9 this
  obtain⟨k,hk⟩:=eS mc
  have:=dU (λz:Str=>z.cps.toList[k]?) er
  rw[ip hk,ip hk] at this
  exact c9 this
 .have a:¬bJ s c=true:=by rw[A.op h1 h2];exact ho
  have b:¬bJ t c=true:=by rw[B.op h1 h2];exact ho
  rw[Bp a,Bp b]
theorem QO{m:List Str}{w:Nat}{ks:List Str}{new:List (List Str)}(S:ba m w)(T:gu m w)(h9:m.length*w<=9)(hk:ks.length<64)(nd:new.Nodup)(h:∀s∈new,cb s m w/\fH ks s w=true):new.length<=15752961:=by
 have h1:(new.map λs=>(oh m w).map (ao s)).length<=(lsN ks (oh m w).length).length:=by
  refine List.Nodup.length_le_of_subset ?_ ?_
  .rw[List.Nodup,List.pairwise_map]
   refine List.Pairwise.imp_of_mem (λma mb cJ e=>cJ ?_) nd
   exact aej S T (h _ ma).1 (h _ mb).1 e
  .intro y my
   obtain⟨s,ms,rfl⟩:=bt.mp my
   obtain⟨A,hf⟩:=h s ms
   have h3:=(xF hf).2.2
   have:=QL (al:=ks) (r:=(oh m w).map (ao s)) λx mx=>by
    obtain⟨r,mr,rfl⟩:=bt.mp mx
    refine h3 _ ?_
    unfold gQ
    rw[A.rows]
    exact kj (QM mr)
   rwa [ar] at this
 rw[ar,QK] at h1
 have h2:=aei S T h9
 refine bA h1 (bA (Nat.pow_le_pow_left (show ks.length<=63 by omega) _) ?_)
 exact bA (Nat.pow_le_pow_right (by decide) h2) (by decide)
theorem aek{m:List Str}{R:List (List C2)}{pl:Nat}{ks:List Str}(h:ks.Nodup):(dg m R pl ks).Nodup:=by
 unfold dg
 exact((ic _).nodup_iff.mpr (h.filter _)).filter _
theorem ael{m:List Str}{w:Nat}{R:List (List C2)}{pl:Nat}{x:Str}(F:bY m w R)(hx:ir x)(hl:x.length=(ah R pl).length):iz m (putL m (ah R pl) x.cps.toList) w:=by
 refine⟨k8 _ _ _,λc h1 h2=>?_⟩
 rcases xK F pl hl h1 h2 with ⟨k,ch,hk,hch,e⟩ | ⟨_,e⟩
 .rw[(F.n0 hk).2.2]
  unfold bJ
  have:=hx ch (bo hch)
  rw[e,aF (by omega)]
  rfl
 .unfold bJ
  rw[e]
section
variable{P:Program}{w:World}{K:PySem.W.Frag}{mg:Str->Option Value}{base:Heap}{f:Addr}{fd:FuncData}
structure aem(K:PySem.W.Frag)(H:Hp)(ww g a:Addr)(ws l:List Str)(w n:Nat)(R:List (List C2))(zs:List V):Prop where
 hW:H ww=some (.lst (ws.map V.str))
 dm:ws.length<64
 wd:∀x∈ws,cz x=true
 nd:ws.Nodup
 hT:H a=some (.tup (l.map V.str))
 fl:bY l w R
 two:gu l w
 nine:l.length*w<=9
 free:(fA l w).length<n
 hG:H g=some (.lst zs)
 hR:fG g H R zs
def Cd(K:PySem.W.Frag)(n:Nat):Sp:=λvs H Q _=>∃(ww g a:Addr) (ws l:List Str) (w:Nat) (R:List (List C2)) (zs:List V),vs=[.ref ww,.ref g,.ref a]/\aem K H ww g a ws l w n R zs/\
 ∀t ts new H',H t=none->af H H'->H' t=some (.lst (ts.map V.ref))->fh H' ts new->ll ws l w new->Q (.ref t) H'
theorem vm:bc ["_law_words_here","_law_rows_here","_law_sheet","_law_turn_here","_law_told","_law_word"] ["_law_words_here","_law_rows_here","_law_sheet"] (aS (top 68)):={}
theorem aen(n:Nat)(B:Bl mg)(F:aW K "_law_all" "_law_all" (top 68) f fd)(IC:Fn P w K mg base "_law_all" (n+3) (Cd K n))(Ce:Fn P w K mg base "_law_turn" 3 (IA K))(Cf:Fn P w K mg base "_law_put" 2 (Gg K)):aM P w K mg base aR (n+4) f fd ["_law_words_here","_law_rows_here","_law_sheet"] (Cd K (n+1)):=by
 refine F.bG vm λaH A outer s H vs Q E hr h=>?_
 refine hide λG_ aI=>?_
 obtain⟨ww,g,a,ws,l,wd,R,zs,rfl,PA,q⟩:=h
 refine aI.k ?_
 have hu:=hr.units
 refine⟨_,(av (aK (i:=3) vm.nd rfl (Or.inl rfl) (aV Ce (hr.mono (by omega)) (by rfl) (ab (pv 0) (ab (pv 1) (ab (pv 2) (ab aE ai))))))
  (av (b6 (cx ze (pv 3) mU (cH _))
  (az (aZ (dX (ab (pv 2) ai))))
  b9)
  (av (aK (i:=4) vm.nd rfl (Or.inl rfl) (dX ai))
  (av (cG cF rfl (dF (aX cj (pv 3) aE (λ_ _=>rfl))) (bR (i:=5) vm.nd rfl (Or.inl rfl))
  (az (aK (i:=4) vm.nd rfl (Or.inl rfl) (aO DL (pv 4) (aV IC (hr.mono (by omega)) (by rfl) (ab (pv 0) (ab (pv 1) (ab (aV Cf (hr.mono (by omega)) (by rfl) (ab (pv 2) (ab (aX fN (pv 1) (aX cj (pv 3) aE (λ_ _=>rfl)) (λ_ _=>rfl)) (ab (pv 5) ai)))) ai))))))))
  (az (aZ (pv 4))))))),?_⟩
 try dsimp only[bD]
 refine⟨_,rfl,_,rfl,_,rfl,ww,g,a,ws,l,wd,R,zs,rfl,PA.hW,PA.dm,PA.wd,aw.of PA.hT,PA.fl,PA.hG,PA.hR,λv H1 s1 hN=>?_⟩
 rcases hN with ⟨rfl,dB⟩ | ⟨t,lf,pl,rfl,ht,BQ,hpl,hd⟩
 .refine⟨_,rfl,rfl,_,rfl,bz ⟨_,rfl,(by show 1<=sizeLine;decide),λr QP=>?_⟩⟩
  have s2:=s1.trans (af.upd (o:=HO.lst [V.ref a]) QP)
  exact q r [a] [l] _ (s1.free QP) s2 au (.cons (s2 _ _ PA.hT) .nil) (ll.whole PA.fl dB)
 .refine⟨_,rfl,rfl,_,rfl,bf ⟨bx _,λlt aN=>?_⟩⟩
  have ltH:=s1.free aN
  have s2:=af.upd (o:=HO.lst []) aN
  have tX:upd H1 lt (.lst []) lt=some (.lst (([]:List Addr).map V.ref)):=au
  have gs:=s2 _ _ ht
  have ID:=s2 _ _ BQ
  have sF:=s1.trans s2
  generalize upd H1 lt (.lst [])=H2 at sF tX gs ID
  clear s2
  have hsz:(15752961:Nat)<=sizeLine:=by decide
  have xM:=PA.hR.length
  refine hide λG_ aY=>?_
  obtain⟨zv,QQ⟩:∃zv,zs[pl]? = some zv:=⟨_,aU (by omega)⟩
  obtain⟨r0,hr0,QR,xG,rfl,_,aeo,iQ⟩:=Paired.get PA.hR QQ
  refine aY.k ?_
  have QS:ah R pl=r0:=bS hr0
  refine⟨_,rfl,t,_,1,.ref lf,rfl,rfl,aw.of gs,rfl,lf,rfl,⟨_,aj.of ID⟩,?_⟩
  refine ku (K:=K) (xs:=(dg l R pl ws).map V.str) (λi σ H3=>∃(lt:Addr) (v5:Option V) (ts:List Addr) (new:List (List Str)),σ=[some (.ref ww),some (.ref g),some (.ref a),some (.ref t),some (.ref lt),v5]/\af H2 H3/\H lt=none/\H3 lt=some (.lst (ts.map V.ref))/\fh H3 ts new/\og ws l wd R pl ((dg l R pl ws).take i) new)
   ⟨lt,none,[],[],rfl,af.cO _,ltH,tX,.nil,og.nil ..⟩ (λi σ H3 _ ⟨_,_,_,_,_,s3,_⟩=>aj.of (s3 _ _ ID)) ?_ ?_
  .intro i y σ H3 hy aep
   refine hide λG_ bK=>?_
   obtain⟨lt,v5,ts,new,rfl,s3,sH,IE,jD,S3⟩:=aep
   rw[bb] at hy
   obtain⟨x,hx,rfl⟩:=iE.mp hy
   have IF:=bo hx
   obtain⟨iw,c7⟩:=QJ IF
   refine bK.k ?_
   have mH:=BR (PA.wd x iw)
   have fF:x.length=(ah R pl).length:=by rw[(iq.mp c7).1,eJ]
   have fW:=sF.trans s3
   have aeq:46∈(ao l (ah R pl)).cps.toList:=by
    rcases hd with z | z
    .rw[z] at IF;exact nomatch IF
    .exact z
   have d6:=OQ PA.fl mH c7 aeq
   have nr:=PA.free
   refine⟨_,rfl,_,rfl,_,rfl,_,rfl,_,rfl,_,rfl,t,_,0,.int pl,rfl,rfl,aw.of (s3 _ _ gs),rfl,g,_,_,.ref QR,rfl,rfl,aj.of (fW _ _ PA.hG),dz QQ,_,rfl,?_⟩
   refine⟨a,QR,l,wd,r0,xG,x,rfl,fW _ _ PA.hT,PA.fl.sh.dS,fW _ _ aeo,iQ.mono fW,by rw[<-QS];exact PA.fl.jC pl,λa2 H4 s4 Ah=>?_⟩
   rw[<-QS] at Ah
   have yd:=fW.trans s4
   refine⟨ww,g,a2,ws,putL l (ah R pl) x.cps.toList,wd,R,zs,rfl,⟨yd _ _ PA.hW,PA.dm,PA.wd,PA.nd,Ah,PA.fl.put pl mH fF,(ael PA.fl mH fF).two PA.two,by rw[k8];exact PA.nine,by omega,yd _ _ PA.hG,fG.mono yd PA.hR⟩,λt' dG nw H5 _ s5 yf sf A5=>?_⟩
   have kT:(dg l R pl ws).take (i+1)=(dg l R pl ws).take i++[x]:=by rw[fL,hx];rfl
   have hnx:x∉(dg l R pl ws).take i:=by
    have h1:((dg l R pl ws).take (i+1)).Nodup:=(aek PA.nd).sublist (CJ _ _)
    rw[kT,oI] at h1
    exact λm=>h1.2.2 x m x (cg.mpr rfl) rfl
   have S5:=S3.step PA.fl mH c7 hnx A5
   have Cg:=s4.trans s5
   have aer:fh H5 ts new:=jD.keep λb o _ _ e=>Cg _ _ e
   have QT:fh H5 (ts++dG) (new++nw):=si aer sf
   have hle:=QO PA.fl.sh PA.two PA.nine PA.dm S5.1 λs ms=>⟨((S5.2 s).mp ms).1,((S5.2 s).mp ms).2.1⟩
   have e1:=iB QT
   refine⟨lt,t',_,_,rfl,rfl,Cg _ _ IE,yf,by rw[ar,ar,<-cQ];omega,λp hp=>?_⟩
   have s6:=af.upd (o:=HO.lst (ts.map V.ref++dG.map V.ref)) hp
   refine⟨p,_,ts++dG,new++nw,rfl,s3.trans (Cg.trans s6),sF.free (s3.free (Cg.free hp)),by rw[au,dW],QT.keep (λb o _ _ e=>s6 _ _ e),by rw[kT];exact S5⟩
  .intro σ H3 aes
   refine hide λG_ cE=>?_
   obtain⟨lt,v5,ts,new,rfl,s3,sH,IE,jD,S3⟩:=aes
   refine cE.k ?_
   rw[ar,fw (aQ _)] at S3
   exact⟨_,rfl,q lt ts new H3 sH (sF.trans s3) IE jD (S3.all PA.fl PA.wd hpl)⟩
theorem QU(B:Bl mg)(F:aW K "_law_all" "_law_all" (top 68) f fd)(hm:mg "_law_all"=some (.ref f))(hk:PySem.W.keepIn K (.ref f)=true)(hb:Binds K fd ["_law_words_here","_law_rows_here","_law_sheet"] [])(Ce:Fn P w K mg base "_law_turn" 3 (IA K))(Cf:Fn P w K mg base "_law_put" 2 (Gg K)):∀n:Nat,aM P w K mg base aR (n+3) f fd ["_law_words_here","_law_rows_here","_law_sheet"] (Cd K n)
 |0=>F.ok vm (λvs H Q E h=>by obtain⟨ww,g,a,ws,l,w,R,zs,rfl,PA,_⟩:=h;exact absurd PA.free (fZ _)) (λaH A outer s H vs Q E hr h=>by obtain⟨ww,g,a,ws,l,w,R,zs,rfl,PA,_⟩:=h;exact absurd PA.free (fZ _))
 |n+1=>aen n B F ⟨f,fd,_,QU B F hm hk hb Ce Cf n,hm,hk,hb⟩ Ce Cf
end
theorem QV{Z:Addr->Prop}{H:Hp}{CW CC:Addr}{R:List (List C2)}{ks:List Str}{told:List (List Str)}{w:Nat}(hw:∀x∈ks,cz x=true):∀{n:Nat}{v:V}{m:List Str},n9 Z H CW CC R ks told n v m->bY m w R->∀s,cb s m w->fH ks s w=true->s∈told
 |0,_,_,h,_,_,_,_=>h.elim
 |n+1,v,m,h,F,s,A,hf=>by
  rcases h with ⟨p,dx,e,h1,h2,h3⟩ | ⟨p,dx,q,pl,xs,vs,e,h1,hq,h2,hpl,h4,h5,h6⟩
  .rw[A.same F.sh h2];exact h3
  .have hx:=A.left F hw hf hpl
   rw[<-h4] at hx
   have hx:=(ic xs).mem_iff.mp hx
   obtain⟨i,hi⟩:=eS hx
   obtain⟨y,hy,t,u,e1,e2,e3,e4⟩:=Paired.getL h6 hi
   have hl:ir (ao s (ah R pl)):=BR (hw _ (QJ (A.left F hw hf hpl)).1)
   exact QV hw e4 (F.put pl hl (eJ _ _)) s (A.put F pl hl) hf
theorem aet{ks l:List Str}{w most:Nat}{new c4:List (List Str)}(h1:new.Nodup)(h2:∀s∈new,cb s l w/\fH ks s w=true)(D:ll ks l w c4)(h:new.length=most\/(new.length<most/\∀s,cb s l w->fH ks s w=true->s∈new)):new.length=min most c4.length:=by
 have a:new.length<=c4.length:=ud h1 λs ms=>(D.2 s).mpr (h2 s ms)
 rcases h with z | ⟨z1,z2⟩
 .omega
 .have b:c4.length<=new.length:=ud D.1 λs ms=>z2 s ((D.2 s).mp ms).1 ((D.2 s).mp ms).2
  omega
noncomputable def kf(bT:List (List Str)):List D:=bT.map λs=>D.tup (s.map D.str)
theorem IG(K:PySem.W.Frag)(H:Hp):∀{ts:List Addr}{bT:List (List Str)},fh H ts bT->dC K H (kf bT) (ts.map V.ref)
 |_,_,.nil=>rfl
 |_,_,.cons h t=>⟨_,_,rfl,⟨_,_,rfl,aw.of h,Ca K H _⟩,IG K H t⟩
theorem QW:∀bT:List (List Str),eZ (kf bT)<=50
 |[]=>bx _
 |s::r=>by
  unfold kf
  rw[bL,eZ]
  have:=QW r
  unfold kf at this
  have e:dep (D.tup (s.map D.str))=1:=by rw[dep,Cb]
  omega
theorem IH(s:List Str):(s.map λx=>(Sum.inr x:Key)).map kV=s.map V.str:=by
 rw[iK]
 rfl
section
variable{P:Program}{w:World}{K:PySem.W.Frag}{mg:Str->Option Value}{base:Heap}{f:Addr}{fd:FuncData}
structure yg(CB:Addr)(H:Hp)(a bk d du:Addr)(l:List Str)(w most:Nat)(kvs:List (Key×V))(lr:List Addr)(c4:List (List Str)):Prop where
 hT:H a=some (.tup (l.map V.str))
 sh:ba l w
 two:gu l w
 sy:jz l w
 h4:l.length<=4
 w4:w<=4
 bk:fT CB H bk d kvs
 dm:kvs.length<64
 wd:∀x∈aP kvs,cz x=true
 iv:sd kvs
 m1:1<=most
 Ci:most<=40
 hD:H du=some (.lst (lr.map V.ref))
 hF:fh H lr c4
 all:ll (aP kvs) l w c4
def QX(K:PySem.W.Frag)(CB CW CC:Addr):Sp:=λvs H Q _=>∃(a bk d du:Addr) (l:List Str) (w most:Nat) (kvs:List (Key×V)) (lr:List Addr) (c4:List (List Str)),vs=[.ref bk,.ref a,.int (most:Int),.ref du]/\yg CB H a bk d du l w most kvs lr c4/\
 ∀H',af H H'->Q (.bl true) H'
theorem QY:bc ["_law_book","_law_sheet","_law_most","_law_due","_law_found"] ["_law_book","_law_sheet","_law_most","_law_due"] (aS (top 69)):={}
theorem aeu{CB CW CC:Addr}(B:Bl mg)(F:aW K "_law_held" "_law_held" (top 69) f fd)(II:Fn P w K mg base "fillings" 22 (B9 K CB CW CC)):aM P w K mg base aR 23 f fd ["_law_book","_law_sheet","_law_most","_law_due"] (QX K CB CW CC):=by
 refine F.bG QY λaH A outer s H vs Q E hr h=>?_
 refine hide λG_ aI=>?_
 obtain⟨a,bk,d,du,l,wd,most,kvs,lr,c4,rfl,PH,q⟩:=h
 refine aI.k ?_
 have hu:=hr.units
 have dn:=jW hr
 have G9:(A.deeper (PyProof.Rows.envOfC "_law_held" (aS (top 69)) s.heap.objs.size f aH)).units+4<cLine:=by have:=hr.un;omega
 refine⟨_,(av (aK (i:=4) QY.nd rfl (Or.inl rfl) (aX cj (aV II (hr.mono (by decide)) (by rfl) (ab (pv 0) (ab (pv 1) (ab (pv 2) ai)))) aE (λ_ _=>rfl)))
  (av (b6 (PW.pt (tj (cx mW (bP dY (by rfl) B.cq cn (ab (pv 4) ai)) (bP (Tq rfl) (by rfl) B.M9 LK (ab (pv 2) (ab (bP dY (by rfl) B.cq cn (ab (pv 3) ai)) ai))) (cH _)) (tf (cx mW (bP Yo (by rfl) B.cq cn (ab (jR (YK rfl G9) (by rfl) B.Y1 X9 (ab (pv 4) ai)) ai)) (bP dY (by rfl) B.cq cn (ab (pv 4) ai)) (cH _)))))
  (az (aZ lE))
  b9)
  (az (aZ (bP (LB rfl) (by rfl) B.M8 Lz (ab (jl (js:=[3]) (ns:=["_law_due"]) (dF (pv 4)) rfl rfl rfl rfl (λ_ _ _ _=>jY) (λ_ _ _ _=>(Wl (K:=K) (rr:=λK=>Mv K false) rfl (X1 (by exact hu)) (pv 0) (pv 1) rfl))) ai)))))),?_⟩
 try dsimp only[bD]
 refine⟨_,rfl,_,rfl,_,rfl,a,bk,d,l,wd,most,kvs,rfl,PH.hT,PH.sh,PH.two,PH.sy,PH.h4,PH.w4,PH.bk,PH.dm,PH.wd,PH.iv,PH.m1,(by have:=PH.Ci;omega),λt fo v ts new H1 s1 ht dk hF cK x8 sD=>?_⟩
 have QZ:=s1 _ _ PH.hD
 have Q0:fh H1 lr c4:=PH.hF.keep λb o _ _ e=>s1 _ _ e
 have hln:new.length=min most c4.length:=by
  refine aet cK x8 PH.all ?_
  rcases sD with z | z
  .exact .inl z.2
  .exact .inr ⟨z.2.1,QV PH.wd z.2.2 (B5 PH.sh PH.two)⟩
 have u6:=iB hF
 have hDl:=iB Q0
 have Q1:=PH.Ci
 refine⟨t,_,0,.ref fo,rfl,rfl,aw.of ht,rfl,?_⟩
 have em:(if (((lr.map V.ref).length:Nat):Int)<(most:Int) then (((lr.map V.ref).length:Nat):Int) else (most:Int))=(((ts.map V.ref).length:Nat):Int):=by
  rw[ar,ar]
  split <;> omega
 refine⟨_,rfl,fo,_,rfl,.inl (aj.of dk),_,rfl,_,rfl,du,_,rfl,.inl (aj.of QZ),_,_,rfl,rfl,_,rfl,?_⟩
 rw[em,aG rfl]
 have Eo:Paired (λt ks=>aw K H1 t (ks.map kV)) ts (new.map λs=>s.map λx=>(Sum.inr x:Key)):=Hs (Paired.bI hF λt s e=>by rw[IH];exact aw.of e)
 have cL:(new.map λs=>s.map λx=>(Sum.inr x:Key)).Nodup:=by
  refine List.Pairwise.map _ (λs t h z=>h ?_) cK
  have e:=dU (λu:List Key=>u.map kV) z
  rw[IH,IH] at e
  exact List.map_inj_right (λx y h=>by injection h) |>.mp e
 refine bf ⟨_,rfl,fo,ts,_,rfl,dk,Eo,cL,by rw[ar];omega,λst dy=>⟨st,_,rfl,au,?_⟩⟩
 have s9:af H1 (upd H1 st (.ext (ue st (new.map λs=>s.map λx=>(Sum.inr x:Key)).length))):=af.upd dy
 generalize upd H1 st (.ext (ue st (new.map λs=>s.map λx=>(Sum.inr x:Key)).length))=H9 at s9
 refine⟨_,rfl,fo,_,rfl,.inl (aj.of (s9 _ _ dk)),rfl,_,rfl,?_⟩
 rw[Oj,ar,ar,aG u6.symm]
 refine bf ⟨_,rfl,fo,rfl,⟨_,aj.of (s9 _ _ dk)⟩,?_⟩
 refine comp_map jn (by rw[ar];omega) (λ_ i y _=>y = .bl true) (λH3 s3=>aj.of (s3 _ _ (s9 _ _ dk))) (λ_ _ _ _ _ _ _ _ h=>h) ?_ ?_
 .intro D2 i y H3 Z ml hy s3 _ k1
  rw[bb] at hy
  refine hide λG_ aY=>?_
  obtain⟨ti,Cj,rfl⟩:=iE.mp hy
  obtain⟨sn,hsn,lW⟩:=Paired.getL hF Cj
  refine aY.k ?_
  have gy:=s9.trans s3
  have EK:sn∈c4:=(PH.all.2 sn).mpr (x8 sn (bo hsn))
  refine⟨_,rfl,_,rfl,du,_,kf c4,.tup (sn.map D.str),rfl,aj.of (gy _ _ QZ),IG K _ (Q0.keep λb o _ _ e=>gy _ _ e),⟨ti,_,rfl,aw.of (gy _ _ lW),Ca K _ _⟩,QW _,?_⟩
  have e1:((kf c4).any λd=>d7 d (.tup (sn.map D.str)))=true:=yD.mpr ⟨D.tup (sn.map D.str),bt.mpr ⟨sn,EK,rfl⟩,zR _⟩
  rw[aq bW,e1]
  exact k1 _ _ (af.cO _) rfl
 .intro D2 bs H3 ml j3 s3 nR
  have e2:=pQ nR
  have e3:bs=((List.range (ts.map V.ref).length).map λ_=>true).map V.bl:=by rw[e2,iK];rfl
  rw[e3] at j3
  refine⟨D2,_,rfl,aj.of j3,?_⟩
  have ea:(((List.range (ts.map V.ref).length).map λ_=>true).all id)=true:=by
   rw[sP]
   exact iG.mpr λ_ _=>rfl
  rw[ea]
  exact q H3 (s1.trans (s9.trans s3))
end
theorem aev{H H':Hp}{a d:Addr}{xs:List V}{kv:List (Key×V)}(hd:H d=some (.dK kv))(off:∀b o,b≠d->H b=some o->H' b=some o)(h:H a=some (.tup xs)):H' a=some (.tup xs):=off _ _ (b0 h hd (by intro z;cases z)) h
theorem aew{H H':Hp}{a d:Addr}{xs:List V}{kv:List (Key×V)}(hd:H d=some (.dK kv))(off:∀b o,b≠d->H b=some o->H' b=some o)(h:H a=some (.lst xs)):H' a=some (.lst xs):=off _ _ (b0 h hd (by intro z;cases z)) h
theorem Q2{H H':Hp}{d:Addr}{kv:List (Key×V)}(hd:H d=some (.dK kv))(off:∀b o,b≠d->H b=some o->H' b=some o):∀{ts:List Addr}{bT:List (List Str)},fh H ts bT->fh H' ts bT
 |_,_,.nil=>.nil
 |_,_,.cons h t=>.cons (aev hd off h) (Q2 hd off t)
theorem aex{kvs:List (Key×V)}{x:Str}(h:sd kvs)(n:Int)(e:aL kvs (Sum.inr x:Key)=none):sd (putK kvs (Sum.inr x) (.int n)):=by
 rw[tO _ e]
 intro q mq
 rcases dh.mp mq with z | z
 .exact h q z
 .rw[cg.mp z]
  exact⟨n,rfl⟩
theorem Q3{kvs:List (Key×V)}(h:iS kvs)(x:Str):aP (fC kvs (Sum.inr x))=(aP kvs).filter λy=>!decide (y=x):=by
 unfold aP fC
 rw[sQ]
 congr 1
 apply JO
 intro q hq
 obtain⟨y,hy⟩:=h q hq
 show decide (q.1≠Sum.inr x) = !decide ((match q.1 with | .inr z=>z | .inl _=>⟨#[]⟩)=x)
 rw[hy]
 by_cases wa:y=x
 .subst wa
  simp
 .have:(Sum.inr y:Key)≠Sum.inr x:=λz=>wa (Sum.inr.inj z)
  rw[aG this,aF wa]
  rfl
theorem aey{l m:List Str}{w:Nat}(F:gN l m w (l.length*w))(hw:0<w):iz l m w:=by
 refine⟨F.ln,λc h1 h2=>?_⟩
 have g:=F.cl c h1 h2
 unfold bJ
 by_cases z:sg l c=35
 .rw[aG z,aG (g.1 z)]
 .have h:=g.2 z
  have aN:c.1*w+c.2<l.length*w:=by
   have:=C4 w (Nat.succ_le_of_lt h1)
   rw[jb] at this
   omega
  rw[ax aN] at h
  rw[aF z,aF (by omega)]
theorem aez{m g:List Str}{w:Nat}(G:pT m g w):iz m g w:=by
 refine⟨G.ln,λc h1 h2=>?_⟩
 unfold bJ
 rcases G.cl c h1 h2 with z | ⟨z1,z2⟩
 .rw[z]
 .rw[z2,aF z1]
  rfl
theorem aeA{kvs:List (Key×V)}(h:iS kvs){x:Str}(m:x∈aP kvs):∃v,aL kvs (Sum.inr x:Key)=some v:=by
 cases e:aL kvs (Sum.inr x:Key) with
 |some v=>exact⟨v,rfl⟩
 |none=>
  refine absurd ?_ (DW e)
  unfold aP at m
  obtain⟨q,hq,e1⟩:=bt.mp m
  obtain⟨y,hy⟩:=h q hq
  rw[hy] at e1
  have e1:y=x:=e1
  exact bt.mpr ⟨q,hq,by rw[hy,e1]⟩
theorem yg.mono{CB:Addr}{H H':Hp}{a bk d du:Addr}{l:List Str}{w most:Nat}{kvs:List (Key×V)}{lr:List Addr}{c4:List (List Str)}(s:af H H')(h:yg CB H a bk d du l w most kvs lr c4):yg CB H' a bk d du l w most kvs lr c4:=
 ⟨s _ _ h.hT,h.sh,h.two,h.sy,h.h4,h.w4,h.bk.mono s,h.dm,h.wd,h.iv,h.m1,h.Ci,s _ _ h.hD,h.hF.keep (λb o _ _ e=>s _ _ e),h.all⟩
theorem Q4:∀bT:List (List Str),eZ (kf bT)<=1
 |[]=>bx _
 |s::r=>by
  unfold kf
  rw[bL,eZ]
  have:=Q4 r
  unfold kf at this
  have e:dep (D.tup (s.map D.str))=1:=by rw[dep,Cb]
  omega
noncomputable def vn(x:Str)(R:List (List C2))(s:List Str):Bool := !decide (x∈R.map (ao s))
theorem ll.less{ks m:List Str}{w:Nat}{c4:List (List Str)}{x:Str}(D:ll ks m w c4):ll (ks.filter λy=>!decide (y=x)) m w (c4.filter (vn x (aD m w))):=by
 refine⟨D.1.filter _,λs=>?_⟩
 rw[bQ,D.2]
 constructor
 .rintro⟨⟨A,hf⟩,h⟩
  obtain⟨h1,h2,h3⟩:=xF hf
  refine⟨A,Be h1 h2 λy my=>bQ.mpr ⟨h3 y my,?_⟩⟩
  unfold vn at h
  unfold gQ at my
  rw[A.rows] at my
  rw[aF λz=>?_]
  .rfl
  .rw[z] at my
   rw[aG my] at h
   cases h
 .rintro⟨A,hf⟩
  obtain⟨h1,h2,h3⟩:=xF hf
  refine⟨⟨A,Be h1 h2 λy my=>(bQ.mp (h3 y my)).1⟩,?_⟩
  unfold vn
  rw[aF λz=>?_]
  .rfl
  .unfold gQ at h3
   rw[A.rows] at h3
   have:=(bQ.mp (h3 x z)).2
   rw[aG rfl] at this
   cases this
theorem Q5{α:Type}(l:List α)(d:α):(List.range l.length).map (λi=>l.getD i d)=l:=by
 apply iI
 intro i
 rw[bb]
 by_cases h:i<l.length
 .rw[oG h,aU h]
  show some (l.getD i d)=_
  rw[bM,aU h]
  rfl
 .rw[cB (by rw[iH];omega),cB (by omega)]
  rfl
theorem aeB{H:Hp}{ts:List Addr}{bT:List (List Str)}(h:fh H ts bT)(q:List Str->Bool){ys:List V}(P:Paired (λi y=>y=V.ref (ts.getD i 0)) ((List.range ts.length).filter λi=>q (bT.getD i [])) ys):∃us,ys=us.map V.ref/\fh H us (bT.filter q):=by
 have hl:=iB h
 have e1:bT.filter q=((List.range ts.length).filter λi=>q (bT.getD i [])).map λi=>bT.getD i []:=by
  rw[hl]
  conv=>lhs;rw[<-Q5 bT []]
  rw[sQ]
  rfl
 have key:∀(l:List Nat),(∀i∈l,i<ts.length)->∀ys,Paired (λi y=>y=V.ref (ts.getD i 0)) l ys->∃us,ys=us.map V.ref/\fh H us (l.map λi=>bT.getD i []):=by
  intro l
  induction l with
  |nil=>intro _ ys p;cases p;exact⟨[],rfl,.nil⟩
  |cons i r ih=>
   intro hi ys p
   cases p with
   |cons e p=>
    obtain⟨us,e2,f2⟩:=ih (λj m=>hi j (bF _ m)) _ p
    have aN:=hi i bh
    obtain⟨s,hs⟩:∃s,bT[i]? = some s:=⟨_,aU (by omega)⟩
    obtain⟨t,ht,e3⟩:=Paired.get h hs
    refine⟨t::us,by rw[e,e2,bS ht];rfl,?_⟩
    rw[bL,bS hs]
    exact .cons e3 f2
 rw[e1]
 exact key _ (λi m=>eC.mp (bQ.mp m).1) ys P
def Ck(K:PySem.W.Frag):Sp:=λvs H Q _=>∃(a:Addr) (ns:List Int),vs=[.ref a]/\aj K H a (ns.map V.int)/\ns.length<=63/\∀H',Q (.bl true) H'
section
variable{P:Program}{w:World}{K:PySem.W.Frag}{mg:Str->Option Value}{base:Heap}{f:Addr}{fd:FuncData}
theorem lu:bc ["_law_script","_law_filled_here","_law_words_here","_law_sheet","_law_rows_here","_law_book","_law_word","_law_most","_law_due","_law_gone","_law_left_here"] ["_law_script"] (aS (top 70)):={}
theorem aeC{C CW CC:Addr}(B:Bl mg)(F:aW K "law" "law" (top 70) f fd)(nS:Fn P w K mg base "_law_cell_at" 1 (AH K))(aeD:Fn P w K mg base "_law_floor" 5 (OD K))(aeE:Fn P w K mg base "_law_filled" 3 (N5 K))(aeF:Fn P w K mg base "_law_words" 4 (Of K))(aeG:Fn P w K mg base "_law_given" 2 (N6 K))(xB:Fn P w K mg base "_law_rows" 3 (Bb K))
  (IJ:Nw P w K mg base "Book" C 1 (NG C)) (IK:Mt P w K mg base C "put" 4 (A4 C) [.int 0]) (IL:Mt P w K mg base C "drop" 5 (NI C) []) (IC:Fn P w K mg base "_law_all" 13 (Cd K 10)) (IM:Fn P w K mg base "_law_held" 23 (QX K C CW CC)) (II:Fn P w K mg base "fillings" 22 (B9 K C CW CC)) (mB:Fn P w K mg base "_law_text" 1 (xu K)):aM P w K mg base aR 24 f fd ["_law_script"] (Ck K):=by
 refine F.bG lu λaH A outer s H vs Q E hr h=>?_
 refine hide λG_ aI=>?_
 obtain⟨a,ns,rfl,hS,hlen,q⟩:=h
 refine aI.k ?_
 have hu:=hr.units
 have dn:=jW hr
 refine⟨_,(av (aK (i:=1) lu.nd rfl (Or.inl rfl) (aV aeE (hr.mono (by decide)) (by rfl) (ab (pv 0) (ab (aV aeD (hr.mono (by decide)) (by rfl) (ab (aV nS (hr.mono (by decide)) (by rfl) (ab (pv 0) (ab aE ai))) ai)) (ab (aV nS (hr.mono (by decide)) (by rfl) (ab (pv 0) (ab aE ai))) ai)))))
  (av (aK (i:=2) lu.nd rfl (Or.inl rfl) (aV aeF (hr.mono (by decide)) (by rfl) (ab (pv 0) (ab (pv 1) (ab aE ai)))))
  (av (aK (i:=3) lu.nd rfl (Or.inl rfl) (aV aeG (hr.mono (by decide)) (by rfl) (ab (pv 1) (ab (aV nS (hr.mono (by decide)) (by rfl) (ab (pv 0) (ab aE ai))) ai))))
  (av (aK (i:=4) lu.nd rfl (Or.inr rfl) (aV xB (hr.mono (by decide)) (by rfl) (ab (pv 3) ai)))
  (av (aK (i:=5) lu.nd rfl (Or.inl rfl) (Wi IJ (hr.mono (by decide)) (by rfl)))
  (av (cG cF rfl (dF (pv 2)) (bR (i:=6) lu.nd rfl (Or.inl rfl))
  (az (dM (nA IK (hr.mono (by decide)) (pv 5) (ab (pv 6) ai)))))
  (av (aK (i:=7) lu.nd rfl (Or.inl rfl) (aO eD aE (aO eW (aO jg (aV nS (hr.mono (by decide)) (by rfl) (ab (pv 0) (ab aE ai))) aE) aE)))
  (av (aK (i:=8) lu.nd rfl (Or.inl rfl) (aV IC (hr.mono (by decide)) (by rfl) (ab (pv 2) (ab (pv 4) (ab (pv 3) ai)))))
  (av (b6 (mV (kr (aV IM (hr.mono (by decide)) (by rfl) (ab (pv 5) (ab (pv 3) (ab (pv 7) (ab (pv 8) ai)))))))
  (az (aZ lE))
  b9)
  (av (dM (aV II (hr.mono (by decide)) (by rfl) (ab (pv 5) (ab (pv 1) (ab aE ai)))))
  (av (b6 (mV (kr (aV IM (hr.mono (by decide)) (by rfl) (ab (pv 5) (ab (pv 3) (ab (pv 7) (ab (pv 8) ai)))))))
  (az (aZ lE))
  b9)
  (av (b6 (cx (Ed hu) (pv 8) (dX ai) (cH _))
  (az (aZ lE))
  b9)
  (av (aK (i:=9) lu.nd rfl (Or.inr rfl) (aV mB (hr.mono (by decide)) (by rfl) (ab (aX fN (pv 8) aE (λ_ _=>rfl)) (ab (aX fN (pv 4) (aO eW (aO jg (aV nS (hr.mono (by decide)) (by rfl) (ab (pv 0) (ab aE ai))) aE) (bP dY (by rfl) B.cq cn (ab (pv 4) ai))) (λ_ _=>rfl)) ai))))
  (av (dM (nA IL (hr.mono (by decide)) (pv 5) (ab (pv 9) ai)))
  (av (VE (i:=10) lu.nd rfl (Or.inl rfl) (js:=[9,4]) (ns:=["_law_gone","_law_rows_here"]) (dF (pv 8)) rfl rfl rfl rfl (λ_ _ _ _=>(nv (El (K:=K) (rr:=λK=>zt K true) rfl tM (pv 1) (jl (js:=[0]) (ns:=["_law_other"]) (VF (K:=K) rfl (pv 2)) rfl rfl rfl rfl (λ_ _ _ _=>jY) (λ_ _ _ _=>(aV mB (hr.mono (by decide)) (by rfl) (ab (pv 1) (ab (pv 0) ai))))) rfl))) (λ_ _ _ _=>(pv 0)))
  (az (aZ (aV IM (hr.mono (by decide)) (by rfl) (ab (pv 5) (ab (pv 3) (ab (pv 7) (ab (pv 10) ai)))))))))))))))))))))),?_⟩
 try dsimp only[bD]
 refine⟨_,rfl,_,rfl,a,ns,0,rfl,hS,_,rfl,λfl l wd H1 s1 u6 FP T2 Sy Nf N9=>?_⟩
 refine⟨_,rfl,a,ns,2,rfl,s1.seq hS,a,fl,ns,l,wd,_,rfl,s1.seq hS,u6,FP,λfi m H2 s2 qj FM=>?_⟩
 have IP:=(s1.trans s2).seq hS
 have Om:=aey FM FP.sh.w1
 have Q6:=Om.two T2
 have Sym:=Om.sym Sy
 refine⟨_,rfl,_,rfl,a,fi,ns,m,wd,6,rfl,IP,aw.of qj,FM.sh,FM.lets,by rw[FM.ln];exact FP.h4,FP.w4,λwl rs es H3 qZ s3 hW W=>?_⟩
 have wX:=s3.seq IP
 refine⟨_,rfl,_,rfl,a,ns,5,rfl,wX,fi,m,wd,_,rfl,s3 _ _ qj,FM.sh,λsh g H4 s4 IQ GP=>?_⟩
 have Og:=aez GP
 have yh:=Og.two Q6
 have Q7:=Og.sym Sym
 refine⟨_,rfl,sh,g,wd,rfl,aw.of IQ,GP.sh,λrg zs H5 hrg s5 yi hR=>?_⟩
 intro p rV IS Q8 Q9
 refine⟨p,rV,rfl,au,λd H6 Ra B0 Rb=>⟨rfl,?_⟩⟩
 have t1:af H5 (upd (upd H5 rV (.own p)) p (.ins C rV [])):=(af.upd Q8).trans (af.upd (by rw[ak (bj Q9)];exact IS))
 have t6:af H5 H6:=λb o e=>Rb b o (t1 b o e) (bq e IS)
 have d5:H5 d=none:=t1.free Ra
 have Rc:=(s4.trans s5).seq wX
 have aeH:=(s3.trans (s4.trans s5)) _ _ qj
 have IT:=s5 _ _ IQ
 have yj:=(s4.trans s5) _ _ hW
 have n5:m.length<=4:=by rw[FM.ln];exact FP.h4
 have GY:g.length<=4:=by rw[Og.ln];exact n5
 have IU:g.length*wd<=9:=by rw[Og.ln,FM.ln];exact N9
 have IV:=FP.w4
 have Sm:=FM.sh
 have Sg:=GP.sh
 have cK:=W.nd
 have hw:=W.wd
 have Rf:=W.dm
 have aeI:aD g wd≠[]:=λz=>by
  obtain⟨c,hc⟩:=Nf
  have bu:=nK hc
  obtain⟨i,k,hik⟩:=(B5 FP.sh T2).all c bu.1 bu.2.1 bu.2.2
  have:=(k7 hik).1
  rw[<-Om.aD,<-Og.aD,z] at this
  exact fZ _ this
 clear t1 Rb Ra Q9 Q8 IS IQ hW W hS IP wX qj u6 s1 s2 s3 s4 s5 FP T2 Sy Nf N9 FM Om GP Og qZ hrg
 revert yj cK hw Rf
 generalize rs++es=ws
 intro yj cK hw Rf
 refine⟨_,rfl,wl,rfl,⟨_,aj.of (t6 _ _ yj)⟩,?_⟩
 refine ku (xs:=ws.map V.str) (λi σ H7=>∃(v6:Option V) (kvs:List (Key×V)),σ=[some (.ref a),some (.ref fi),some (.ref wl),some (.ref sh),some (.ref rg),some (.ref p),v6,none,none,none,none]/\fT C H7 p d kvs/\aP kvs=ws.take i/\sd kvs/\af H5 H7)
  ⟨none,[],rfl,B0,by rw[oH];rfl,(λ_ mq=>nomatch mq),t6⟩ (λi σ H7 _ ⟨_,_,_,_,_,_,h4⟩=>aj.of (h4 _ _ yj)) ?_ ?_
 .intro i y σ H7 hi aeJ
  refine hide λG_ aY=>?_
  obtain⟨v6,kvs,rfl,S7,qr,yk,s7⟩:=aeJ
  rw[bb] at hi
  obtain⟨x,hx,rfl⟩:=iE.mp hi
  have mx:x∈ws:=bo hx
  have XX:i<ws.length:=(bZ.mp hx).1
  have kT:ws.take (i+1)=ws.take i++[x]:=by rw[fL,hx];rfl
  have hn:x∉ws.take i:=by
   have h1:(ws.take (i+1)).Nodup:=cK.sublist (CJ _ _)
   rw[kT,oI] at h1
   exact λm=>h1.2.2 x m x (cg.mpr rfl) rfl
  have hv:=abk (kvs:=kvs) (x:=x) (by rw[qr];exact hn)
  have ju:kvs.length<=60:=by rw[<-uy,qr,jF];omega
  obtain⟨⟨dx,h1⟩,j1,_⟩:=id S7
  refine aY.k ?_
  refine⟨_,rfl,p,dx,_,rfl,h1,pR _ (by decide +kernel),_,rfl,p,d,kvs,x,.int 0,rfl,S7,hw x mx,hv,by omega,λH8 S8 aeK=>?_⟩
  refine⟨_,_,rfl,S8,?_,aex yk 0 hv,λb o e=>aeK b o (bq e d5) (s7 b o e)⟩
  rw[abj _ hv,qr,kT]
 .intro σ H7 aeL
  refine hide λG_ bK=>?_
  obtain⟨v6,kvs,rfl,S7,qr,yk,s7⟩:=aeL
  refine bK.k ?_
  rw[ar,fw (aQ _)] at qr
  have ju:kvs.length<64:=by rw[<-uy,qr];omega
  clear B0 t6
  refine⟨_,rfl,a,ns,3,rfl,s7.seq Rc,_,_,rfl,rfl,⟨by decide,by decide⟩,_,_,rfl,rfl,(by show(0:Int)<40;decide),_,_,rfl,rfl,?_⟩
  have z0:=lB (cellAt ns 3 / 4) (show(40:Int)≠0 by decide)
  have z1:=oJ (cellAt ns 3 / 4) (show(0:Int)<40 by decide)
  generalize cellAt ns 3 / 4 % 40=z at z0 z1
  obtain⟨mo,HR⟩:=qD (show 0<=1+z by omega)
  dsimp only
  rw[HR]
  have FL:=B5 Sg yh
  refine⟨_,rfl,_,rfl,_,rfl,wl,rg,sh,ws,g,wd,aD g wd,zs,rfl,⟨s7 _ _ yj,by omega,hw,cK,s7 _ _ IT,FL,yh,IU,Nat.lt_succ_of_le (bA (QE g wd) IU),s7 _ _ yi,fG.mono s7 hR⟩,λt ts c4 H8 _ s8 Ax Rg AF=>?_⟩
  have uL:∀x∈aP kvs,cz x=true:=by rw[qr];exact hw
  have P8:yg C H8 sh p d t g wd mo kvs ts c4:=⟨s8 _ _ (s7 _ _ IT),Sg,yh,Q7,GY,IV,S7.mono s8,ju,uL,yk,by omega,by omega,Ax,Rg,by rw[qr];exact AF⟩
  have Rh:=s7.trans s8
  clear s7 s8 Ax Rg S7
  refine⟨_,rfl,_,rfl,_,rfl,_,rfl,sh,p,d,t,g,wd,mo,kvs,ts,c4,rfl,P8,λH9 s9=>⟨_,rfl,bf ?_⟩⟩
  have P9:=P8.mono s9
  have IW:=Rh.trans s9
  clear P8 Rh s9
  refine⟨_,rfl,_,rfl,fi,p,d,m,wd,1,kvs,rfl,IW _ _ aeH,Sm,Q6,Sym,n5,IV,P9.bk,ju,uL,yk,by decide,by decide,λt' fo v dG new Ea wu _ _ _ _ _ _=>?_⟩
  have IX:=P9.mono wu
  have Ri:=IW.trans wu
  clear P9 IW wu
  refine⟨_,rfl,_,rfl,_,rfl,_,rfl,sh,p,d,t,g,wd,mo,kvs,ts,c4,rfl,IX,λEb zQ=>⟨_,rfl,bf ?_⟩⟩
  have Rj:=IX.mono zQ
  have s5:=Ri.trans zQ
  clear IX Ri zQ
  refine⟨_,rfl,bx _,λem Rk=>?_⟩
  have kb:=af.upd (o:=HO.lst []) Rk
  have IY:upd Eb em (.lst []) em=some (.lst []):=au
  have qt:=Rj.mono kb
  have qu:=s5.trans kb
  generalize upd Eb em (.lst [])=H12 at kb IY qt qu
  clear Rj s5 kb Rk
  refine⟨.lst (kf c4),.lst [],⟨t,_,rfl,aj.of qt.hD,IG K _ qt.hF⟩,⟨em,_,rfl,aj.of IY,rfl⟩,.inr ⟨_,_,rfl,rfl⟩,?_,?_⟩
  .rw[dep];have:=Q4 c4;omega
  have e0:d7 (.lst (kf c4)) (.lst [])=c4.isEmpty:=by
   cases c4 <;> simp[kf,d7,jm]
  refine⟨c4.isEmpty,by rw[aq bW,e0],?_⟩
  clear e0 IY
  cases c4 with
  |nil=>exact bz (q _)
  |cons s0 dr=>
  refine bf ?_
  refine hide λG_ cE=>?_
  obtain⟨t0,Rl,Rm⟩:=Paired.get qt.hF (show(s0::dr)[0]? = some s0 from rfl)
  obtain⟨A0,Rn⟩:=(qt.all.2 s0).mp bh
  have xM:=hR.length
  have sH:(0:Int)<(zs.length:Int):=by
   have:(aD g wd).length≠0:=λz=>aeI (List.length_eq_zero_iff.mp z)
   omega
  have z2:=lB (cellAt ns 3 / 160) (Int.ne_of_gt sH)
  have z3:=oJ (cellAt ns 3 / 160) sH
  obtain⟨k,hk⟩:=qD z2
  obtain⟨y,hy⟩:∃y,zs[k]? = some y:=⟨_,aU (by omega)⟩
  obtain⟨r0,hr0,pr,xG,rfl,_,qk,iQ⟩:=Paired.get hR hy
  refine cE.k ?_
  have se:=i5 Sg (bo hr0)
  refine⟨_,rfl,t,_,0,.ref t0,rfl,rfl,aj.of qt.hD,(show jk (ts.map V.ref) ((0:Nat):Int)=_ from dz (by rw[bb,Rl];rfl)),_,rfl,_,rfl,a,ns,3,rfl,qu.seq Rc,_,_,rfl,rfl,⟨by decide,by decide⟩,_,rfl,rg,zs,rfl,.inl (aj.of (qu _ _ yi)),_,_,rfl,rfl,sH,rg,zs,_,.ref pr,rfl,rfl,aj.of (qu _ _ yi),by rw[hk];exact dz hy,?_⟩
  refine⟨t0,pr,s0,wd,r0,xG,rfl,aw.of Rm,A0.sh,qu _ _ qk,iQ.mono qu,by omega,λc mc=>⟨by rw[A0.ln];exact(se.2.2 c mc).1,(se.2.2 c mc).2.1⟩,λH13 gy=>?_⟩
  have kg:=qt.mono gy
  have Ro:=qu.trans gy
  have yl:ao s0 r0∈aP kvs:=by
   refine(xF Rn).2.2 _ ?_
   unfold gQ
   rw[A0.rows]
   exact kj (bo hr0)
  clear qt qu gy Rm Rn A0 Rl hk z2 z3 sH se qk iQ hr0 hy
  revert yl
  generalize ao s0 r0=gn
  intro yl
  refine hide λG_ eB=>?_
  obtain⟨⟨dx,h1⟩,j1,_⟩:=id kg.bk
  obtain⟨v,hv⟩:=aeA kg.bk.tx yl
  refine eB.k ?_
  refine⟨_,rfl,p,dx,_,rfl,h1,pR _ (by decide +kernel),_,rfl,p,d,kvs,gn,v,rfl,kg.bk,uL _ yl,hv,λH14 S14 Cm=>?_⟩
  have Rp:af H5 H14:=λb o e=>Cm b o (bq e d5) (Ro b o e)
  have Rq:=aew kg.bk.dc Cm kg.hD
  have IZ:=Q2 kg.bk.dc Cm kg.hF
  have dB:=kg.all
  have pX:=kg.bk.tx
  have Iz:=kg.m1
  have Q1:=kg.Ci
  have u6:=iB IZ
  have z7:=QO Sg yh IU (by rw[uy];exact ju) dB.1 λs ms=>(dB.2 s).mp ms
  clear kg Ro Cm h1 j1 hv yl
  refine⟨_,rfl,t,rfl,⟨_,aj.of Rq⟩,?_⟩
  refine lR jn (by rw[ar];omega) (λi=>vn gn (aD g wd) ((s0::dr).getD i [])) (λ_ i y _=>y=V.ref (ts.getD i 0)) (λH2 s2=>aj.of (s2 _ _ Rq)) (λ_ _ _ _ _ _ _ _ h=>h) ?_ ?_
  .intro D i y H15 Z0 Z hD hy vo _ k0 k1
   rw[bb] at hy
   refine hide λG_ kZ=>?_
   obtain⟨ti,Cj,rfl⟩:=iE.mp hy
   obtain⟨sn,hsn,dy⟩:=Paired.getL IZ Cj
   refine kZ.k ?_
   have An:=((dB.2 sn).mp (bo hsn)).1
   have ym:=Rp.trans vo
   refine⟨_,rfl,_,rfl,rg,rfl,⟨_,aj.of (ym _ _ yi)⟩,?_⟩
   refine comp_map jn (by have j5:=rQ Sg;have agp:=uw g wd;omega) (λ_ j y _=>y = .str (ao sn (ah (aD g wd) j))) (λH2 s2=>aj.of ((ym.trans s2) _ _ yi)) (λ_ _ _ _ _ _ _ _ h=>h) ?_ ?_
   .intro D2 j y yn Z2 ml hy2 yo _ k2
    refine hide λG_ k4=>?_
    obtain⟨rj,hrj,pj,ysj,rfl,_,B2,hcj⟩:=Paired.get hR hy2
    refine k4.k ?_
    have Rr:=ym.trans yo
    have Br:=i5 Sg (bo hrj)
    exact⟨_,rfl,_,rfl,ti,pj,sn,wd,rj,ysj,rfl,aw.of (yo _ _ (vo _ _ dy)),An.sh,Rr _ _ B2,hcj.mono Rr,by omega,λc mc=>⟨by rw[An.ln];exact(Br.2.2 c mc).1,(Br.2.2 c mc).2.1⟩,λH17 s17=>k2 _ _ s17 (by rw[show ah (aD g wd) j=rj from bS hrj])⟩
   .intro D2 ys yn ml j3 yo nR
    have e2:=pQ nR
    have e3:ys=((aD g wd).map (ao sn)).map V.str:=by
     rw[e2,<-xM]
     conv=>rhs;rw[<-Q5 (aD g wd) []]
     rw[iK,iK]
     rfl
    rw[e3] at j3
    refine⟨D2,_,rfl,.inl (aj.of j3),rfl,(by rw[sP];exact iG.mpr λ_ _=>rfl),?_⟩
    have eo:vn gn (aD g wd) ((s0::dr).getD i []) = !decide (gn∈(aD g wd).map (ao sn)):=by rw[bS hsn];rfl
    refine⟨!decide (gn∈(aD g wd).map (ao sn)),by rw[ax rfl,Gu],?_⟩
    cases ho:decide (gn∈(aD g wd).map (ao sn)) with
    |true=>
     rw[ho] at eo
     exact bf (k0 yn yo eo)
    |false=>
     rw[ho] at eo
     exact bz ⟨_,rfl,k1 _ yn yo eo (by rw[bS Cj])⟩
  .intro D ys H15 hD bB vo pr
   rw[ar] at pr
   obtain⟨us,rfl,hFu⟩:=aeB (IZ.keep λb o _ _ e=>vo _ _ e) (vn gn (aD g wd)) pr
   have ym:=Rp.trans vo
   have hle:=K4 kvs (Sum.inr gn:Key)
   exact⟨_,rfl,_,rfl,_,rfl,_,rfl,sh,p,d,D,g,wd,mo,fC kvs (Sum.inr gn),us,_,rfl,⟨ym _ _ IT,Sg,yh,Q7,GY,IV,S14.mono vo,by omega,λx mx=>by rw[Q3 pX] at mx;exact uL x (bQ.mp mx).1,λq mq=>yk q (Lj mq),Iz,Q1,bB,hFu,by rw[Q3 pX];exact dB.less⟩,λyn _=>q yn⟩
end
abbrev hN(K:PySem.W.Frag)(x:Str)(f:Addr):Prop:=PySem.W.nsIn K mainGlobals x=some (some (.ref f))
abbrev hZ(K:PySem.W.Frag)(x:Str):Prop:=PySem.W.nsIn K mainGlobals x=some none
abbrev hL(K:PySem.W.Frag)(f:Addr)(nm ql:Str)(st:Stmt)(df oc:Value)(od an:Option Addr)(kV dc pm cd ct:Value)(sl:Array (Option Value)):Prop:=K.lookup f=some ⟨oc,od,.func (PySem.W.fnOf nm ql (pf st) (jV st) (aS st) df kV dc pm an cd ct),sl⟩
def hD(K:PySem.W.Frag)(nm ql:Str)(st:Stmt)(df:Value)(f:Addr):Prop := ∃oc od an kV dc pm cd ct sl,hL K f nm ql st df oc od an kV dc pm cd ct sl/\PySem.W.codeIn K cd ql=true/\PySem.W.keepIn K (.ref f)=true
def hF(K:PySem.W.Frag)(nm:Str)(st:Stmt)(df:Value)(f:Addr):Prop:=hN K nm f/\hD K nm nm st df f
def hM(K:PySem.W.Frag)(C:Addr)(nm ql:Str)(st:Stmt)(df:Value)(f:Addr):Prop:=PySem.W.findIn K (.ref C) nm=some (some (.ref f))/\PySem.W.isFn K (.ref f)=true/\hD K nm ql st df f
def hT(K:PySem.W.Frag)(x:Str)(C:Addr):Prop:=hN K x C/\PySem.W.plainGet K C Str.empty=true/\PySem.W.hasDictIn K C=true/\PySem.W.plainOver K C=true/\PySem.W.findIn K (.ref C) "__setattr__"=some (some (.builtin "object.__setattr__"))/\PySem.W.makesIn K C=true/\PySem.W.keepIn K (.ref C)=true
def hV(K:PySem.W.Frag)(T:Addr)(n:Int):Prop := ∃od tk k sl,K.lookup T=some ⟨.type "tuple",od,.seq #[.int n tk] k,sl⟩
section
variable{K:PySem.W.Frag}{nm ql x:Str}{st:Stmt}{df:Value}{f C T:Addr}{n:Int}{oc:Value}{od an:Option Addr}{kV dc pm cd ct:Value}{sl:Array (Option Value)}{tk:Tok}{k:Nat}
theorem hF_mk(a:hN K nm f)(l:hL K f nm nm st df oc od an kV dc pm cd ct sl)(c:PySem.W.codeIn K cd nm=true)(q:PySem.W.keepIn K (.ref f)=true):hF K nm st df f:=⟨a,_,_,_,_,_,_,_,_,_,l,c,q⟩
theorem hM_mk(a:PySem.W.findIn K (.ref C) nm=some (some (.ref f)))(i:PySem.W.isFn K (.ref f)=true)(l:hL K f nm ql st df oc od an kV dc pm cd ct sl)(c:PySem.W.codeIn K cd ql=true)(q:PySem.W.keepIn K (.ref f)=true):hM K C nm ql st df f:=⟨a,i,_,_,_,_,_,_,_,_,_,l,c,q⟩
theorem hT_mk(a:hN K x C)(b:PySem.W.plainGet K C Str.empty=true)(c:PySem.W.hasDictIn K C=true)(d:PySem.W.plainOver K C=true)(e:PySem.W.findIn K (.ref C) "__setattr__"=some (some (.builtin "object.__setattr__")))(g:PySem.W.makesIn K C=true)(q:PySem.W.keepIn K (.ref C)=true):hT K x C:=⟨a,b,c,d,e,g,q⟩
theorem hV_mk(l:K.lookup T=some ⟨.type "tuple",od,.seq #[.int n tk] k,sl⟩):hV K T n:=⟨_,_,_,_,l⟩
theorem hT.cls(t:hT K x C):cI K C:=⟨t.2.1,t.2.2.1,t.2.2.2.1,t.2.2.2.2.1⟩
end
section
variable{P:Program}{w:World}{K:PySem.W.Frag}{mg:Str->Option Value}{base h:Heap}
def Co(K:PySem.W.Frag)(nm ql:Str)(st:Stmt)(f:Addr)(ps:List Str):Prop := ∀fd,aW K nm ql st f fd->Binds K fd ps []
theorem Rt(X:K.In h)(G:h.Ns mainGlobals mg){nm:Str}{st:Stmt}{f:Addr}{ps:List Str}{k:Nat}{sp:Sp}(a:hF K nm st .none f)(ok:∀fd,aW K nm nm st f fd->mg nm=some (.ref f)->PySem.W.keepIn K (.ref f)=true->Binds K fd ps []->aM P w K mg base aR k f fd ps sp)
  (hb:Co K nm nm st f ps:=by intro _ F;exact F.binds λ_ _ _ _ _ _=>by first | exact zT λ_=>rfl | exact zU λ_ _=>rfl | exact zV λ_ _ _=>rfl | exact zW λ_ _ _ _=>rfl | exact zX λ_ _ _ _ _=>rfl):Fn P w K mg base nm k sp:=by
 obtain⟨a,_,_,_,_,_,_,_,_,_,l,c,q⟩:=a
 have F:=zK l c q
 have m:=lD X G a
 have b:=hb _ F
 exact⟨_,_,_,ok _ F m q b,m,q,b⟩
theorem zj(X:K.In h)(G:h.Ns mainGlobals mg){nm:Str}{st:Stmt}{f:Addr}{ps:List Str}{k:Nat}{sp:Sp}(a:hF K nm st .none f)(ok:∀fd,aW K nm nm st f fd->aM P w K mg base aR k f fd ps sp)
  (hb:Co K nm nm st f ps:=by intro _ F;exact F.binds λ_ _ _ _ _ _=>by first | exact zT λ_=>rfl | exact zU λ_ _=>rfl | exact zV λ_ _ _=>rfl | exact zW λ_ _ _ _=>rfl | exact zX λ_ _ _ _ _=>rfl):Fn P w K mg base nm k sp:=Rt X G a (λfd F _ _ _=>ok fd F) hb
theorem aeM{C:Addr}{nm ql:Str}{st:Stmt}{f:Addr}{ps:List Str}{k:Nat}{sp:Sp}(T:cI K C)(a:hM K C nm ql st .none f)(ok:∀fd,aW K nm ql st f fd->aM P w K mg base aR k f fd ps sp)
  (hb:Co K nm ql st f ps:=by intro _ F;exact F.binds λ_ _ _ _ _ _=>by first | exact zT λ_=>rfl | exact zU λ_ _=>rfl | exact zV λ_ _ _=>rfl | exact zW λ_ _ _ _=>rfl | exact zX λ_ _ _ _ _=>rfl):Mt P w K mg base C nm k sp []:=by
 obtain⟨a,i,_,_,_,_,_,_,_,_,_,l,c,q⟩:=a
 have F:=zK l c q
 exact⟨T,_,_,_,_,⟨a,i,q⟩,ok _ F,hb _ F,.nil⟩
theorem aeN(X:K.In h)(G:h.Ns mainGlobals mg){x:Str}{C:Addr}{ql:Str}{st:Stmt}{f:Addr}{ps:List Str}{k:Nat}{sp:Sp}(t:hT K x C)(a:hM K C "__init__" ql st .none f)(ok:∀fd,aW K "__init__" ql st f fd->aM P w K mg base aR k f fd ps sp)
  (hb:Co K "__init__" ql st f ps:=by intro _ F;exact F.binds λ_ _ _ _ _ _=>by first | exact zT λ_=>rfl | exact zU λ_ _=>rfl | exact zV λ_ _ _=>rfl | exact zW λ_ _ _ _=>rfl | exact zX λ_ _ _ _ _=>rfl):Nw P w K mg base x C k sp:=by
 obtain⟨a,i,_,_,_,_,_,_,_,_,_,l,c,q⟩:=a
 have F:=zK l c q
 exact⟨_,_,_,⟨t.2.2.2.2.2.1,a,i,t.2.2.2.2.2.2⟩,ok _ F,hb _ F,lD X G t.1⟩
end
theorem all_mk{l:PySem.W.OpenLaw}{w:World}{K:PySem.W.Frag}{h:Heap}{mg:Str->Option Value}{fa:Addr}(X:K.In h)(G:h.Ns mainGlobals mg)(hfa:mg "law"=some (.ref fa))
  {f0 f1 f2 f3 f4 f5 f6 f7 f8 f9 f10 f11 f12 f13 Ru f15 f16 Cp f18 f19 f20 f21 f22 f23 f24 f25 f26 f27 f28 f29 f30 f31 f32 f33 f34 f35 f36 f37 f38 f39 f40 f41 f42 f43 f44 f45 f46 f47 f48 f49 Rv f51 f52 f53 f54 Rw Rx:Addr}
  {iA:Addr}(Ry:hT K "Book" iA)
  (qv:bO K iA "worths")
  {qw:Addr}(Rz:hT K "Ground" qw)
  (RA:bO K qw "sheet")
  (I0:bO K qw "cells")
  (RB:bO K qw "crossings")
  (aeO:bO K qw "worths")
  (RC:bO K qw "known")
  {oi:Addr}(RD:hT K "Standing" oi)
  (I8:bO K oi "ground")
  (yp:bO K oi "patterns")
  (Cq:bO K oi "fits")
  {yq:Addr}(RE:hT K "Cases" yq)
  (aeP:bO K yq "place")
  (aeQ:bO K yq "parts")
  {vp:Addr}(aeR:PySem.W.nsIn K mainGlobals "Whole"=some (some (.ref vp))) (aeS:PySem.W.makesIn K vp=true) (aeT:PySem.W.findIn K (.ref vp) "__init__"=some (some (.builtin "object.__init__"))) (aeU:PySem.W.keepIn K (.ref vp)=true)
  (a0:hF K "_law_cell_at" (top 53) .none f0)
  (a1:hF K "sign_at" (top 13) .none f1)
  (a2:hF K "is_open" (top 14) .none f2)
  (a3:hF K "all_cells" (top 12) .none f3)
  (a4:hF K "open_cells" (top 10) .none f4)
  (a5:hF K "is_open_within" (top 22) .none f5)
  (a6:hF K "row_from" (top 21) .none f6)
  (a7:hF K "rows_of" (top 20) .none f7)
  (a8:hF K "pattern" (top 26) .none f8)
  (a9:hF K "with_sign" (top 16) .none f9)
  (a10:hF K "is_letters" (top 44) .none f10)
  (a11:hF K "is_word" (top 50) .none f11)
  (a12:hF K "need_word" (top 49) .none f12)
  (a13:hM K iA "__init__" "Book.__init__" (inClass (top 48) 0) .none f13)
  (Cr:hM K iA "put" "Book.put" (inClass (top 48) 1) (.ref Rw) Ru)
  (I9:hV K Rw 0)
  (a15:hM K iA "need_there" "Book.need_there" (inClass (top 48) 8) .none f15)
  (a16:hM K iA "drop" "Book.drop" (inClass (top 48) 2) .none f16)
  (RF:hM K iA "worth" "Book.worth" (inClass (top 48) 4) .none Cp)
  (a18:hM K iA "words" "Book.words" (inClass (top 48) 3) .none f18)
  (a19:hF K "words_fitting" (top 51) .none f19)
  (a20:hM K iA "fitting" "Book.fitting" (inClass (top 48) 5) .none f20)
  (a21:hF K "_law_open" (top 54) .none f21)
  (a22:hF K "_law_run" (top 55) .none f22)
  (a23:hF K "_law_rows" (top 56) .none f23)
  (a24:hF K "_law_with" (top 57) .none f24)
  (a25:hF K "_law_text" (top 62) .none f25)
  (a26:hF K "_law_letter" (top 60) .none f26)
  (a27:hF K "put_word" (top 27) .none f27)
  (a28:hF K "_law_put" (top 66) .none f28)
  (a29:hF K "_law_filled" (top 61) .none f29)
  (a30:hF K "_law_given" (top 64) .none f30)
  (a31:hF K "_law_words" (top 63) .none f31)
  (a32:hF K "_law_left" (top 65) .none f32)
  (a33:hF K "_law_good" (top 58) .none f33)
  (a34:hF K "_law_floor" (top 59) .none f34)
  (a35:hF K "crossings_on" (top 38) .none f35)
  (a36:hF K "crossings_of" (top 37) .none f36)
  (a37:hM K qw "__init__" "Ground.__init__" (inClass (top 34) 0) .none f37)
  (a38:hM K qw "narrowed" "Ground.narrowed" (inClass (top 34) 1) .none f38)
  (a39:hM K oi "__init__" "Standing.__init__" (inClass (top 35) 0) .none f39)
  (a40:hM K oi "left" "Standing.left" (inClass (top 35) 3) .none f40)
  (a41:hM K oi "narrowest" "Standing.narrowest" (inClass (top 35) 2) .none f41)
  (a42:hM K oi "filled" "Standing.filled" (inClass (top 35) 5) .none f42)
  (a43:hM K oi "after" "Standing.after" (inClass (top 35) 1) .none f43)
  (a44:hF K "first_standing" (top 36) .none f44)
  (a45:hM K yq "__init__" "Cases.__init__" (inClass (top 31) 0) .none f45)
  (a46:hF K "closing_paper" (top 41) .none f46)
  (a47:hF K "turned" (top 15) .none f47)
  (a48:hF K "rows_through" (top 24) .none f48)
  (a49:hF K "need_floor" (top 23) .none f49)
  (Ja:hF K "fillings" (top 40) (.ref Rx) Rv)
  (Jb:hV K Rx 2)
  (a51:hF K "_law_turn" (top 67) .none f51)
  (a52:hF K "_law_all" (top 68) .none f52)
  (a53:hF K "_law_held" (top 69) .none f53)
  (Jc:hF K "law" (top 70) .none f54)
  {aeV:Tok}(aeW:PySem.W.nsIn K mainGlobals "SHUT"=some (some (.str "#" aeV)))
  {RG:Addr}{aeX:Option Addr}{aeY:Nat}{aeZ:Array (Option Value)}{ae0 ae1:Tok}
  (ae2:PySem.W.nsIn K mainGlobals "ACROSS"=some (some (.ref RG)))
  (ae3:K.lookup RG=some ⟨.type "tuple",aeX,.seq #[.int 0 ae0,.int 1 ae1] aeY,aeZ⟩)
  {RH:Addr}{ae4:Option Addr}{ae5:Nat}{ae6:Array (Option Value)}{ae7 ae8:Tok}
  (ae9:PySem.W.nsIn K mainGlobals "DOWN"=some (some (.ref RH)))
  (afa:K.lookup RH=some ⟨.type "tuple",ae4,.seq #[.int 1 ae7,.int 0 ae8] ae5,ae6⟩)
  {afb:Tok}(afc:PySem.W.nsIn K mainGlobals "LETTERS"=some (some (.str "abcdefghijklmnopqrstuvwxyz" afb)))
  {afd:Tok}(afe:PySem.W.nsIn K mainGlobals "LEAST_LETTERS"=some (some (.int 2 afd)))
  {aff:Tok}(afg:PySem.W.nsIn K mainGlobals "MOST_LETTERS"=some (some (.int 9 aff)))
  {afh:Tok}(afi:PySem.W.nsIn K mainGlobals "FREE"=some (some (.str "." afh)))
  (zB:hZ K "len"/\hZ K "range"/\hZ K "tuple"/\hZ K "list"/\hZ K "str"/\hZ K "isinstance"/\hZ K "all"/\hZ K "sorted"/\hZ K "enumerate"/\hZ K "zip"/\hZ K "sum"/\hZ K "dict"/\hZ K "min"/\hZ K "reversed"/\hZ K "set")
  (afj:PySem.W.specialIn K (.ref Cp) "__get__"=some (some (.builtin "function.__get__"))) (afk:PySem.W.takesIn K (.ref Cp)=some false)
  : ∃fd:FuncData,(∀(s:Shared) (v:Value),BindsTo s fd ⟨[v],[]⟩ [("_law_script",v)])/\∀base:Heap,K.In base->base.Ns mainGlobals mg->aM l.prog w K mg base aR 24 fa fd ["_law_script"] (Ck K):=by
 obtain⟨Cr,RI,agq,agr,ags,agt,agu,agv,agw,agx,agy,l14,c14,Jd⟩:=Cr
 obtain⟨_,_,_,_,I9⟩:=I9
 obtain⟨Ja,agz,agA,agB,agC,agD,agE,agF,agG,agH,l50,c50,RJ⟩:=Ja
 obtain⟨_,_,_,_,Jb⟩:=Jb
 obtain⟨Jc,agI,agJ,afl,afm,afn,afo,afp,afq,agK,l54,c54,k54⟩:=Jc
 have e:=hfa.symm.trans (lD X G Jc)
 cases e
 obtain⟨afr,afs,aft,afu,afv,afw,afx,afy,afz,afA,afB,afC,afD,afE,afF⟩:=zB
 have B:Bl mg:=⟨jd X G afr,jd X G afs,jd X G aft,jd X G afu,jd X G afv,jd X G afw,jd X G afx,jd X G afy,jd X G afz,jd X G afA,jd X G afB,jd X G afC,jd X G afD,jd X G afE,jd X G afF⟩
 have Fx:Cn mg "SHUT" (.str "#"):=⟨_,lD X G aeW,_,rfl⟩
 have FF:AN K mg "ACROSS" [.int 0,.int 1]:=⟨_,⟨_,lD X G ae2,rfl⟩,λH=>.inr ⟨_,_,_,ae3,rfl,rfl,(by show 2<=sizeLine;decide),(.cons ⟨_,rfl⟩ (.cons ⟨_,rfl⟩ .nil))⟩⟩
 have FG:AN K mg "DOWN" [.int 1,.int 0]:=⟨_,⟨_,lD X G ae9,rfl⟩,λH=>.inr ⟨_,_,_,afa,rfl,rfl,(by show 2<=sizeLine;decide),(.cons ⟨_,rfl⟩ (.cons ⟨_,rfl⟩ .nil))⟩⟩
 have FX:Cn mg "LETTERS" (.str iU):=⟨_,lD X G afc,_,rfl⟩
 have FY:Cn mg "LEAST_LETTERS" (.int 2):=⟨_,lD X G afe,_,rfl⟩
 have FZ:Cn mg "MOST_LETTERS" (.int 9):=⟨_,lD X G afg,_,rfl⟩
 have nQ:Cn mg "FREE" (.str "."):=⟨_,lD X G afi,_,rfl⟩
 have gS:=Ry.cls
 have vq:=Rz.cls
 have oj:=RD.cls
 have afG:=RE.cls
 have uZ:Am K mg "Whole" vp:=⟨aeS,aeT,aeU,lD X G aeR⟩
 have afH:EM K iA "worth":=⟨⟨Cp,RF.1,⟨afj,afk⟩⟩,by decide +kernel⟩
 have Cs:pB K "put" "Book.put" (inClass (top 48) 1) Ru _ _:=⟨⟨_,_,_,_,_,_,_,_,_,_,rfl,l14,c14,_,_,_,I9⟩,Jd⟩
 have b14:=Cs.binds (ps:=["self","word","worth"]) (ds:=[]) λ_ _ _ _ _ _ _ _ us _ _ _ hT hl=>match us,hl with | [_,_,_],_=>.of_defaults rfl hT rfl rfl rfl
 have Pg:=Cs.binds (ps:=["self","word","worth"]) (ds:=[.int 0 _]) λ_ _ _ _ _ _ _ _ us _ _ _ hT hl=>have h8:us.length=2:=(by simpa using hl);match us,h8 with | [_,_],_=>.of_defaults rfl hT rfl rfl rfl
 have Je:pB K "fillings" "fillings" (top 40) Rv _ _:=⟨⟨_,_,_,_,_,_,_,_,_,_,rfl,l50,c50,_,_,_,Jb⟩,RJ⟩
 have b50:=Je.binds (ps:=["book","sheet","most"]) (ds:=[]) λ_ _ _ _ _ _ _ _ us _ _ _ hT hl=>match us,hl with | [_,_,_],_=>.of_defaults rfl hT rfl rfl rfl
 have e50:=Je.binds (ps:=["book","sheet","most"]) (ds:=[.int 2 _]) λ_ _ _ _ _ _ _ _ us _ _ _ hT hl=>have h8:us.length=2:=(by simpa using hl);match us,h8 with | [_,_],_=>.of_defaults rfl hT rfl rfl rfl
 have F54:=zK (st:=(top 70)) l54 c54 k54
 refine⟨PySem.W.fnOf "law" "law" (pf (top 70)) (jV (top 70)) (aS (top 70)) .none afm afn afo afl afp afq,λs v=>.of_eq rfl,λbase _ _=>?_⟩
 have oF :=@zj l.prog w K mg base h X G
 have oR :=@Rt l.prog w K mg base h X G
 have oM :=@aeM l.prog w K mg base
 have oW :=@aeN l.prog w K mg base h X G
 have Jf:=oF a0 λ_ F=>Y4 B F
 have RK:=oF a1 λ_ F=>Y6 F
 have Jg:=oF a2 λ_ F=>Y8 F Fx RK
 have afI:=oF a3 λ_ F=>Y9 B F
 have RL:=oF a4 λ_ F=>Zg F afI Jg
 have afJ:=oF a5 λ_ F=>Zj B F Jg
 have afK:=oF a6 λ_ F=>Zk B F afJ
 have RM:=oF a7 λ_ F=>Zn F FF FG RL afK
 have afL:=oF a8 λ_ F=>ZC F RK
 have afM:=oF a9 λ_ F=>ZD B F
 have afN:=oF a10 λ_ F=>ZG B FX F
 have afO:=oF a11 λ_ F=>ZO FY FZ F afN
 have Jh:=oF a12 λ_ F=>ZR F afO
 have IJ:=oW Ry a13 λ_ F=>ZU F gS qv
 have agL:Mt l.prog w K mg base iA "put" 4 (A4 iA) []:=⟨gS,_,_,_,_,⟨Cr,RI,Jd⟩,NH Cs gS qv Jh,b14,.nil⟩
 have IK:Mt l.prog w K mg base iA "put" 4 (A4 iA) [.int 0]:=⟨gS,_,_,_,_,⟨Cr,RI,Jd⟩,NH Cs gS qv Jh,Pg,.cons ⟨_,rfl⟩ .nil⟩
 have uo:=oM gS a15 λ_ F=>ZW F gS qv Jh
 have IL:=oM gS a16 λ_ F=>ZZ F gS qv uo
 have uQ:=oM gS RF λ_ F=>Z3 F gS qv uo
 have Hv:=oM gS a18 λ_ F=>Z5 B F gS qv
 have afP:=oF a19 λ_ F=>Z9 B F nQ
 have HI:=oM gS a20 λ_ F=>aab B F gS qv afP
 have afQ:=oF a21 λ_ F=>aah B F
 have afR:=oF a22 λ_ F=>aai F afQ
 have Ji:=oF a23 λ_ F=>aak B F afR
 have Ct:=oF a24 λ_ F=>aat B F
 have Cu:=oF a25 λ_ F=>aav F
 have RN:=oF a26 λ_ F=>aaw F Jf
 have afS:=oF a27 λ_ F=>aax B F afM
 have afT:=oF a28 λ_ F=>aaB B F Ct
 have afU:=oF a29 λ_ F=>aaJ B F Ct RN
 have afV:=oF a30 λ_ F=>aaO B F Ct
 have afW:=oF a31 λ_ F=>aa0 B F Jf Ji Cu RN
 have afX:=oF a32 λ_ F=>abn B F Cu
 have afY:=oF a33 λ_ F=>abC B F Ji
 have afZ:=oF a34 λ_ F=>abE B F Ct afY
 have af0:=oF a35 λ_ F=>ab1 F
 have af1:=oF a36 λ_ F=>ab6 B F af0
 have HJ:=oW Rz a37 λ_ F=>acT B F vq RA I0 RB aeO RC RM af1 Hv uQ
 have Hk:=oM vq a38 λ_ F=>aci F vq RC
 have uN:=oW RD a39 λ_ F=>ack F oj I8 yp Cq
 have uX:=oM oj a40 λ_ F=>acq F oj yp Cq
 have uV:=oM oj a41 λ_ F=>acu B nQ F oj yp Cq
 have uW:=oM oj a42 λ_ F=>acz B F oj vq I8 yp RA I0 afS
 have uY:=oM oj a43 λ_ F=>acI B nQ F oj vq I8 yp Cq RB uN Hk
 have af2:=oF a44 λ_ F=>acZ B F vq gS I0 afL HI uQ afH HJ uN
 have u0:=oW RE a45 λ_ F=>ac7 B F afG aeP aeQ
 have af3:=oR a46 λ_ F hm hk hb=>Qr B F hm hk hb uV uW uX uY uZ u0 17
 have af4:=oF a47 λ_ F=>adJ B F
 have af5:=oF a48 λ_ F=>adN F RM
 have af6:=oF a49 λ_ F=>adT F af4 RL Jg af5
 have RO:Fn l.prog w K mg base "fillings" 22 (B9 K iA vp yq):=⟨_,_,_,ad3 Je af6 af2 af3,lD X G Ja,RJ,b50⟩
 have af7:=oF a51 λ_ F=>aed B F afX Cu
 have af8:=oR a52 λ_ F hm hk hb=>QU B F hm hk hb af7 afT 10
 have af9:=oF a53 λ_ F=>aeu B F RO
 exact aeC B F54 Jf afZ afU afW afV Ji IJ IK IL af8 af9 RO Cu
theorem walk{l:PySem.W.OpenLaw}{q:Program}{loose:List Str}{XP:(Str->Option Value)->Heap->Prop}{YP:World->Heap->Prop}{d:DefRec}{K:Params->PySem.W.Frag}(hn:l.most=some 63)(wg:d.params.defaults=[])
  (hY:∀(w:World) (h:Heap),YP w h->(K w.params).In h)
  (F:∀(w:World) (mg:Str->Option Value) (fa:Addr) (h:Heap),(K w.params).In h->h.Ns mainGlobals mg->mg d.name=some (.ref fa)->
   ∃fd:FuncData,(∀(s:Shared) (u:Value),BindsTo s fd ⟨[u],[]⟩ [("_law_script",u)])/\∀base:Heap,(K w.params).In base->base.Ns mainGlobals mg->aM l.prog w (K w.params) mg base aR 24 fa fd ["_law_script"] (Ck (K w.params))) :
  PySem.W.WalkO q loose XP YP l.row.toRowW d [] (λf vs=>PySem.call f vs):=
 L2.Vf (n:=63) (k:=24) (x:="_law_script") (CX:=λ_=>aR) (sp:=λw=>Ck (K w.params)) hn (by decide) wg ⟨rfl,by decide,by decide,rfl⟩ hY F (λ_ _ a ns hl _ hS=>⟨a,ns,rfl,hS,hl,λ_=>rfl⟩) λ_ _ _ _ _ z=>z
end Cw
namespace PySem.W.Fast
def tw9640777863536383104:=Nat
def tw4245540685026107552:=Nat
def tw18019994158334401696:=Nat
def tw5980922909226176704:=Nat
def tw14739157228524433600:=Nat
def tw3235836677235602624:=Nat
def tw11451768675067173088:=Nat
def tw14509397662077093120:=Nat
def tw3884950249524200704:=Nat
def tw13045666992030986496:=Nat
def tw15384126921910544832:=Nat
def tw11626708627670517216:=Nat
def tw3861542885784322624:=Nat
def tw18152076858840387168:=Nat
def tw4993612426988394208:=Nat
def tw2321867845969694528:=Nat
def tw359252859942249312:=Nat
def tw68714005851785056:=Nat
def tw16681076081552511840:=Nat
def tw16991528674490507104:=Nat
def tw14217018173993933696:=Nat
def tw6161519310715084704:=Nat
def tw6239460048478182336:=Nat
def tw14614795870591100864:=Nat
def tw4376107476669189056:=Nat
def tw2352322680107749312:=Nat
def tw10810163363325877313:=Nat
def tw17001124123695197377:=Nat
def tw2037790812630093025:=Nat
def tw7576866510545817825:=Nat
def tw14611203165044613377:=Nat
def tw12374698069618161921:=Nat
def tw10628134974154678561:=Nat
def tw8766828596594934081:=Nat
def tw2519486040204952897:=Nat
def tw14416172843481942401:=Nat
def tw1459270475128769953:=Nat
def tw1900120095368225473:=Nat
def tw8867966305764544353:=Nat
def tw2450468969495076737:=Nat
def tw10907258390625964961:=Nat
def tw14766671359644362657:=Nat
def tw11231227300774385601:=Nat
def tw16189415378330146753:=Nat
def tw16051724008585979938:=Nat
def tw16927704480529432738:=Nat
def tw9896324850148952226:=Nat
def tw13647282323322041506:=Nat
def tw155922108976738498:=Nat
def tw2286088883861090498:=Nat
def tw8004500313502809282:=Nat
def tw2403659279418136834:=Nat
def tw9120588832619122946:=Nat
def tw11558030518589534498:=Nat
def tw3858140745051458850:=Nat
def tw7884841358349300002:=Nat
def tw14283334251083138402:=Nat
def tw4884509164369276354:=Nat
def tw11500258797520360930:=Nat
def tw10814206910993271330:=Nat
def tw8881591938953582114:=Nat
def tw17995352203267324450:=Nat
def tw10013246288744653474:=Nat
def tw1805448512897059490:=Nat
def tw6170749833072386754:=Nat
def tw11488232978040538818:=Nat
def tw4986330293725228770:=Nat
def tw5543843502398757666:=Nat
def tw14236238702993375010:=Nat
def tw16447802999941800770:=Nat
def tw17713717354543732706:=Nat
def tw3735630956037781507:=Nat
def tw16446985546343376899:=Nat
def tw17973705359145672739:=Nat
def tw15915482123288825923:=Nat
def tw13222046156660168803:=Nat
def tw2690589052905948323:=Nat
def tw14919494712816713891:=Nat
def tw1215727565767305443:=Nat
def tw3073725853721528611:=Nat
def tw16609116252030232899:=Nat
def tw11630213801826782659:=Nat
def tw5500581905624994243:=Nat
def tw16208628626627099139:=Nat
def tw12189008854236979811:=Nat
def tw16554753423827862211:=Nat
def tw8547041610920592067:=Nat
def tw7236040447226390243:=Nat
def tw6746883718147166051:=Nat
def tw11824558475074967427:=Nat
def tw5018466693783890819:=Nat
def tw1951264986008682403:=Nat
def tw17836301583501018051:=Nat
def tw7572328132445128643:=Nat
def tw14629276220799560740:=Nat
def tw4630221496955450404:=Nat
def tw16851959766358262980:=Nat
def tw17114123560560940292:=Nat
def tw8106933594781078820:=Nat
def tw11990381834001488196:=Nat
def tw12046085211585956196:=Nat
def tw14680272753082230148:=Nat
def tw10402804637072310660:=Nat
def tw14539995805493180836:=Nat
def tw4347976234768354788:=Nat
def tw18217367638546850308:=Nat
def tw2535371059495124484:=Nat
def tw149221127830635044:=Nat
def tw9292096403517342244:=Nat
def tw11596339600772653604:=Nat
def tw6832109494039599716:=Nat
def tw13514955682146319012:=Nat
def tw17306239545086741188:=Nat
def tw8158118821014881028:=Nat
def tw4746029615942653732:=Nat
def tw8262701131588888356:=Nat
def tw14598745807063978852:=Nat
def tw5347713175829061476:=Nat
def tw15777983783746196356:=Nat
def tw15567930238085616709:=Nat
def tw1196427071084108933:=Nat
def tw12680421304961101989:=Nat
def tw2395691448299091109:=Nat
def tw5393380020725813445:=Nat
def tw11760308171916907717:=Nat
def tw13125323899631123653:=Nat
def tw10276704348436482245:=Nat
def tw18096393461002111205:=Nat
def tw3533460451594963173:=Nat
def tw15066981449465085157:=Nat
def tw409701304489693413:=Nat
def tw4307152854795853061:=Nat
def tw14017350055021818117:=Nat
def tw3428415413060467973:=Nat
def tw15870056831975261509:=Nat
def tw14906499455109236037:=Nat
def tw17114188534257293637:=Nat
def tw14416053461190316389:=Nat
def tw14144529667092555205:=Nat
def tw4997745484897223141:=Nat
def tw6960993767927941669:=Nat
def tw14506870570134006309:=Nat
def tw3295425390985972293:=Nat
def tw1273017699519636133:=Nat
def tw8589926823567119013:=Nat
def tw8240904971380007653:=Nat
def tw5568546814456084261:=Nat
def tw7417600389111639845:=Nat
def tw12558984849898138437:=Nat
def tw6238737567656922949:=Nat
def tw4197285903236142981:=Nat
def tw1605869834262078405:=Nat
def tw12908860622609316805:=Nat
def tw11717666570709606373:=Nat
def tw64844584476340326:=Nat
def tw16278214072062302502:=Nat
def tw17622253824746731846:=Nat
def tw13621692333348441446:=Nat
def tw14685317944947104102:=Nat
def tw16297111529885920646:=Nat
def tw12445167593363255750:=Nat
def tw17989568169371724230:=Nat
def tw16692483237217204678:=Nat
def tw3142174591467830790:=Nat
def tw11726110305877879302:=Nat
def tw6300460248075193990:=Nat
def tw5550320322091616934:=Nat
def tw13407213988825573094:=Nat
def tw7964479673032579846:=Nat
def tw6589381781321801574:=Nat
def tw4720085872687149958:=Nat
def tw3775633543636527014:=Nat
def tw14015443017823181734:=Nat
def tw16489579209203179462:=Nat
def tw9036607646540223462:=Nat
def tw5713099401541648423:=Nat
def tw5367741146255838279:=Nat
def tw7944224612466684007:=Nat
def tw2996982644028634247:=Nat
def tw5218935260056391847:=Nat
def tw4051015287842744551:=Nat
def tw6731644287913047271:=Nat
def tw4662946695913712903:=Nat
def tw9669951864234630407:=Nat
def tw6031804645898072359:=Nat
def tw13117901547450424615:=Nat
def tw17053052580557687111:=Nat
def tw9360793091584598375:=Nat
def tw11957502971398896007:=Nat
def tw12928398020140210599:=Nat
def tw7900307204239249831:=Nat
def tw5257259180403720647:=Nat
def tw274532078744327687:=Nat
def tw16894926423229766215:=Nat
def tw3134029818417758855:=Nat
def tw9771473220965048999:=Nat
def tw4726451461570270951:=Nat
def tw13826893775691674471:=Nat
def tw7023704172364151783:=Nat
def tw4554917409269009416:=Nat
def tw6280372498715574440:=Nat
def tw16730803458257802440:=Nat
def tw3375295670782866696:=Nat
def tw17599089356054547784:=Nat
def tw7901808887125950824:=Nat
def tw10176045214703929704:=Nat
def tw9458939156490933672:=Nat
def tw2718952954304107976:=Nat
def tw11414617089702820360:=Nat
def tw4086442991623885416:=Nat
def tw13695729817575681640:=Nat
def tw12329180859837961896:=Nat
def tw853359083728471752:=Nat
def tw15003967705415006952:=Nat
def tw13732903817470009064:=Nat
def tw12053668958048122632:=Nat
def tw1496549687972955080:=Nat
def tw16185076746741486665:=Nat
def tw11462023292223577353:=Nat
def tw10522497489843581321:=Nat
def tw8294654770686242249:=Nat
def tw5500541007147513289:=Nat
def tw6604848670825274889:=Nat
def tw11538694993879651881:=Nat
def tw16195383126464340553:=Nat
def tw14529441312963290697:=Nat
def tw1879507820517447273:=Nat
def tw3174413340878344873:=Nat
def tw18267116126158631593:=Nat
def tw13404033595124171465:=Nat
def tw8552003944561533737:=Nat
def tw29250918828150729:=Nat
def tw17704025043913345993:=Nat
def tw14597645507498058954:=Nat
def tw1016838221749693674:=Nat
def tw4648365727663501578:=Nat
def tw7502717433198148874:=Nat
def tw6764311877202343242:=Nat
def tw17986373145669377450:=Nat
def tw9329109496688690602:=Nat
def tw12973257674283437546:=Nat
def tw14292035735132560874:=Nat
def tw721819225863614954:=Nat
def tw15205909775580506634:=Nat
def tw2771707347895603754:=Nat
def tw14703784378062763594:=Nat
def tw2694911049549592170:=Nat
def tw18255083601854119562:=Nat
def tw4366746400328829578:=Nat
def tw4030069635401642634:=Nat
def tw6071078726722371242:=Nat
def tw16028327604014907146:=Nat
def tw15600399456582997898:=Nat
def tw1232947406329863114:=Nat
def tw2986016399446597578:=Nat
def tw1360796217283423210:=Nat
def tw10660424340260737227:=Nat
def tw5127338391082727659:=Nat
def tw13035861911434885355:=Nat
def tw14423032887472141611:=Nat
def tw4954974708065176971:=Nat
def tw980744302363081099:=Nat
def tw12155548273701273003:=Nat
def tw13796054546634658219:=Nat
def tw11237356102113170891:=Nat
def tw10647630261182161419:=Nat
def tw9279252438338843179:=Nat
def tw11407339814916835979:=Nat
def tw8939625664773862059:=Nat
def tw16498962282743599819:=Nat
def tw922554630772910827:=Nat
def tw197505121383256939:=Nat
def tw3011071883943916427:=Nat
def tw16567486604833603531:=Nat
def tw11008369643109790732:=Nat
def tw6483653386430496876:=Nat
def tw6998386278588773516:=Nat
def tw14899768488668120236:=Nat
def tw1952679680255255724:=Nat
def tw1917655932101836044:=Nat
def tw16914369366686774604:=Nat
def tw13344903906619438444:=Nat
def tw11026404234982111660:=Nat
def tw10228394139713869356:=Nat
def tw5927021521692021292:=Nat
def tw4527612906998325868:=Nat
def tw3128006991163223756:=Nat
def tw5981894073206300396:=Nat
def tw16840124957717641996:=Nat
def tw1262791168309212972:=Nat
def tw17817174577000282924:=Nat
def tw8488716687288288108:=Nat
def tw8740106739028254604:=Nat
def tw16033780186365493196:=Nat
def tw3194377876242368492:=Nat
def tw8901238838927578125:=Nat
def tw9841907131968505933:=Nat
def tw7093353956756221037:=Nat
def tw13979802756939991181:=Nat
def tw225270579005648013:=Nat
def tw7755311240274563245:=Nat
def tw9196921798756714701:=Nat
def tw14161108054498694349:=Nat
def tw3337503455281418509:=Nat
def tw8098085214886388013:=Nat
def tw9485915500444358061:=Nat
def tw12773418124424465869:=Nat
def tw16971388700945404397:=Nat
def tw14279432502333474317:=Nat
def tw5230509024797239885:=Nat
def tw12922554553049733773:=Nat
def tw18108124538992044781:=Nat
def tw14612443943658974957:=Nat
def tw1483920340808826637:=Nat
def tw15913123311129611053:=Nat
def tw202334660714435469:=Nat
def tw15727765473261391789:=Nat
def tw12622834778192273325:=Nat
def tw17475458837477012558:=Nat
def tw3094773880165846158:=Nat
def tw14805796944954737838:=Nat
def tw16900077739857372366:=Nat
def tw15625122949491685678:=Nat
def tw37246950617950542:=Nat
def tw15914516457760022862:=Nat
def tw3926908260867422574:=Nat
def tw15010233015122052462:=Nat
def tw15074422154105073102:=Nat
def tw3365867498618686958:=Nat
def tw1979775861245400558:=Nat
def tw3579310448473165358:=Nat
def tw10791044062153140782:=Nat
def tw3455821309875102286:=Nat
def tw2570562459437911662:=Nat
def tw3371940433905907374:=Nat
def tw5454095527280000782:=Nat
def tw17357578962335987566:=Nat
def tw8609867360382570382:=Nat
def tw17140891719240738702:=Nat
def tw13277780251410382:=Nat
def tw1246541839008862190:=Nat
def tw18418181377448881327:=Nat
def tw6607058010722617551:=Nat
def tw14721321482547862831:=Nat
def tw13603301366446307663:=Nat
def tw17625799704702259535:=Nat
def tw6887681242824404335:=Nat
def tw8582483204178071023:=Nat
def tw12786541599683157519:=Nat
def tw157666826327780943:=Nat
def tw17765560670845462255:=Nat
def tw13502919800904007439:=Nat
def tw3393528078745125647:=Nat
def tw9741958803049609135:=Nat
def tw15543245701360990159:=Nat
def tw13153220837042665584:=Nat
def tw3726866965684278384:=Nat
def tw12602443892560604304:=Nat
def tw9409116262320789648:=Nat
def tw13091023449582251184:=Nat
def tw12934244348476548304:=Nat
def tw10927255742996380880:=Nat
def tw714354519941417232:=Nat
def tw5735922710857308432:=Nat
def tw9715571041601190160:=Nat
def tw11644660778468346160:=Nat
def tw7839544313178122544:=Nat
def tw12284281197860197712:=Nat
def tw750198628977453392:=Nat
def tw6365717729920994704:=Nat
def tw12703379518065806768:=Nat
def tw4914712307722837488:=Nat
def tw5759703552632770160:=Nat
def tw14521123500445006480:=Nat
def tw12729204671202706096:=Nat
def tw586968863738105552:=Nat
def tw2922567860981652208:=Nat
def tw708571004192082736:=Nat
def tw18085947059884744496:=Nat
def tw15327410717915762512:=Nat
def tw9857911056125722448:=Nat
def tw17084842239301298032:=Nat
def tw348543648835607472:=Nat
def tw8714889489069095856:=Nat
def tw15342494875655063472:=Nat
def tw9007726940046915536:=Nat
def tw1633101215472513041:=Nat
def tw9547134285294283825:=Nat
def tw8315580796189292657:=Nat
def tw10307965635415763057:=Nat
def tw2454683620050791537:=Nat
def tw13583207342333822097:=Nat
def tw5113177011213268241:=Nat
def tw6062518372532008241:=Nat
def tw12276716797864996145:=Nat
def tw8149253662565898577:=Nat
def tw16483692785019065777:=Nat
def tw7680516936086711729:=Nat
def tw16146656336189212209:=Nat
def tw18028575450838482641:=Nat
def tw11874403762056764145:=Nat
def tw3134918644236591857:=Nat
def tw3905629533763027697:=Nat
def tw137053031345738577:=Nat
def tw6076381455661093745:=Nat
def tw16469285559427544977:=Nat
def tw1940243961038846961:=Nat
def tw494464826017484818:=Nat
def tw11318575999395775506:=Nat
def tw9764156305490209810:=Nat
def tw799622281770697810:=Nat
def tw2007510805477156946:=Nat
def tw10898875477263796338:=Nat
def tw2607621350741543058:=Nat
def tw7712205482261614898:=Nat
def tw536736757528586578:=Nat
def tw3317024526798408178:=Nat
def tw3297587277319592466:=Nat
def tw14534035293144313362:=Nat
def tw2443851727542427218:=Nat
def tw1337714908795841106:=Nat
def tw10300892804392578706:=Nat
def tw10788169317005432562:=Nat
def tw17919975297731330834:=Nat
def tw17185413600519893778:=Nat
def tw6661977104111697746:=Nat
def tw10198748076896244594:=Nat
def tw12867280949331394418:=Nat
def tw11864353184531187602:=Nat
def tw11025849650502421555:=Nat
def tw1877132679873321075:=Nat
def tw7143646490601577619:=Nat
def tw17129214866400106707:=Nat
def tw14266749097151362323:=Nat
def tw3749905537753937203:=Nat
def tw843223191747592563:=Nat
def tw12337930570981992883:=Nat
def tw10767147499528421875:=Nat
def tw16778228152045405715:=Nat
def tw7894611623249049139:=Nat
def tw7852759738926851763:=Nat
def tw168831855153423091:=Nat
def tw16372073013122934515:=Nat
def tw12484930543766578995:=Nat
def tw4196468353122446131:=Nat
def tw3184339966572293939:=Nat
def tw15678165012015253363:=Nat
def tw4965093820647422867:=Nat
def tw68090480735571859:=Nat
def tw3366095412671123379:=Nat
def tw9001422912063414195:=Nat
def tw15517326914331197395:=Nat
def tw10849610280028902387:=Nat
def tw5087369800201756659:=Nat
def tw3320766152304039956:=Nat
def tw14336174045249720372:=Nat
def tw4595650023913420852:=Nat
def tw15192509947470205140:=Nat
def tw4194866833347648756:=Nat
def tw15278990779413428532:=Nat
def tw8105202020010441044:=Nat
def tw10425766473122941332:=Nat
def tw10784484314022812084:=Nat
def tw7614805580537119220:=Nat
def tw4145490689434590740:=Nat
def tw14547811804811986516:=Nat
def tw16040245120401346228:=Nat
def tw15356210293290638004:=Nat
def tw13393019171728435924:=Nat
def tw5866713390739354324:=Nat
def tw5945903744417629044:=Nat
def tw8661474934581607284:=Nat
def tw7992267611601336244:=Nat
def tw9883793355883459572:=Nat
def tw9791263304160613397:=Nat
def tw4172587271153368181:=Nat
def tw11362653744565647541:=Nat
def tw14337112616265198805:=Nat
def tw12285879568687684821:=Nat
def tw206528949147368725:=Nat
def tw13748990441436866933:=Nat
def tw6657025678032462197:=Nat
def tw14174891182641384885:=Nat
def tw8874484794308328885:=Nat
def tw3370700378312480213:=Nat
def tw10766120777073202645:=Nat
def tw17069946358129932757:=Nat
def tw17615577035947717301:=Nat
def tw4119239298292105909:=Nat
def tw14950852735562038069:=Nat
def tw1390095068885879733:=Nat
def tw14300028885122955221:=Nat
def tw10291191215957009397:=Nat
def tw6454899436819309590:=Nat
def tw9055588000679481430:=Nat
def tw17735070114423950678:=Nat
def tw2243875106323977686:=Nat
def tw16997819264150538838:=Nat
def tw5024291784256866934:=Nat
def tw3712820868192145142:=Nat
def tw6897018178075571990:=Nat
def tw253899445958207254:=Nat
def tw4407756483985789750:=Nat
def tw10508389714968606518:=Nat
def tw13891557707314143062:=Nat
def tw6144853941859826518:=Nat
def tw15383854638416152470:=Nat
def tw15063413474740885430:=Nat
def tw13811234902078275607:=Nat
def tw18341729115541361943:=Nat
def tw10583370799551781239:=Nat
def tw14243765091498607031:=Nat
def tw17884721659919954455:=Nat
def tw9615421185102173751:=Nat
def tw16876014521742318231:=Nat
def tw1712086475017050871:=Nat
def tw4096168782505175831:=Nat
def tw17986730988047954743:=Nat
def tw3872273413959120695:=Nat
def tw13894530259335294807:=Nat
def tw1947042057209250711:=Nat
def tw12469998732410917783:=Nat
def tw16574763743658811287:=Nat
def tw13143110477288604599:=Nat
def tw3468600123463394328:=Nat
def tw3350123152990070808:=Nat
def tw7557137233654159544:=Nat
def tw5595269994329306328:=Nat
def tw2854201570524948728:=Nat
def tw13839390068067575064:=Nat
def tw2788724010937859384:=Nat
def tw2875570033948646712:=Nat
def tw4481004395877438840:=Nat
def tw5714332641137319320:=Nat
def tw6669436093441202616:=Nat
def tw5476836607444092472:=Nat
def tw12347118652366600888:=Nat
def tw15182469871912570552:=Nat
def tw10278815033183291128:=Nat
def tw15109579065139766072:=Nat
def tw4374175377732159288:=Nat
def tw11075812695540813624:=Nat
def tw11852456316439191448:=Nat
def tw7189493940885633976:=Nat
def tw15376801666876501017:=Nat
def tw9681491520592202841:=Nat
def tw5175550193195739225:=Nat
def tw3847820023376210105:=Nat
def tw2604521631944480985:=Nat
def tw7703790275798218969:=Nat
def tw6406215410341938489:=Nat
def tw9886921972482967897:=Nat
def tw15659802620197678425:=Nat
def tw10296488165828975961:=Nat
def tw4859285695363962233:=Nat
def tw8968680166494167417:=Nat
def tw7673790141454169497:=Nat
def tw15632042951994334649:=Nat
def tw10205931909407439289:=Nat
def tw10216355650510406169:=Nat
def tw13316139451447769625:=Nat
def tw4702805824881012409:=Nat
def tw11823411954625781465:=Nat
def tw17280415928247899865:=Nat
def tw5502175590336293593:=Nat
def tw3949119499504955161:=Nat
def tw12242112091837792057:=Nat
def tw1292864263062361977:=Nat
def tw5404632297365063577:=Nat
def tw11888245024425368473:=Nat
def tw17986079835075392473:=Nat
def tw7555498241653609498:=Nat
def tw10592649051744337978:=Nat
def tw16628922906521318458:=Nat
def tw16408474390226083930:=Nat
def tw5765696227191498842:=Nat
def tw7378030827816172826:=Nat
def tw11871631768720359738:=Nat
def tw5198265119954779706:=Nat
def tw5483642063782771258:=Nat
def tw5403064589533501082:=Nat
def tw12078512610994094842:=Nat
def tw958206387408065274:=Nat
def tw7235105296059611034:=Nat
def tw15106969388184773659:=Nat
def tw17196781574819982363:=Nat
def tw13464499801251776571:=Nat
def tw6010728106782971995:=Nat
def tw645457125574472795:=Nat
def tw4870726860672879739:=Nat
def tw12710651827196251515:=Nat
def tw2783502204170934683:=Nat
def tw12039655216759827899:=Nat
def tw962535135830925819:=Nat
def tw8629322004869061147:=Nat
def tw15743592254095770139:=Nat
def tw3240585103035826779:=Nat
def tw8580380903744695899:=Nat
def tw12982851207429745531:=Nat
def tw14660559923619113883:=Nat
def tw17666740632948964251:=Nat
def tw16613103857818305467:=Nat
def tw15773749939996663771:=Nat
def tw3075796921262681051:=Nat
def tw14384219375204965500:=Nat
def tw5639141954354774172:=Nat
def tw9810119390265664668:=Nat
def tw4959498132051621052:=Nat
def tw12714610145268477116:=Nat
def tw6627436414717709532:=Nat
def tw2629459044447436060:=Nat
def tw7704505778171199804:=Nat
def tw3488897703037679036:=Nat
def tw17921909982571415036:=Nat
def tw9079112122471196188:=Nat
def tw18023583403034931772:=Nat
def tw16458963386179748444:=Nat
def tw15207675376803402332:=Nat
def tw11473701581991545532:=Nat
def tw11514206139091793596:=Nat
def tw2852688512427610812:=Nat
def tw13438946932991990588:=Nat
def tw5049067985279935292:=Nat
def tw13935476426326718300:=Nat
def tw7598290363501890396:=Nat
def tw13764316867575814173:=Nat
def tw16188824828847220765:=Nat
def tw17403751722395508893:=Nat
def tw9124014964480991389:=Nat
def tw344984104374473981:=Nat
def tw3270111581036618013:=Nat
def tw4871503974444755229:=Nat
def tw10522877984737209661:=Nat
def tw1313744490955793757:=Nat
def tw17522258776934531453:=Nat
def tw10698656632594500029:=Nat
def tw9722189439380834749:=Nat
def tw4639534551028396477:=Nat
def tw9755810858494083549:=Nat
def tw3858543656768496157:=Nat
def tw5289767729132320413:=Nat
def tw1031154144854858461:=Nat
def tw9254068916378710749:=Nat
def tw5628819922826326781:=Nat
def tw13243442752266009405:=Nat
def tw9216195196645192541:=Nat
def tw8212623772759591805:=Nat
def tw3840495662979717021:=Nat
def tw11817182071928804285:=Nat
def tw8004690287378034718:=Nat
def tw10875530911137397790:=Nat
def tw7727369842943306814:=Nat
def tw13547323128425884734:=Nat
def tw12344498556126123166:=Nat
def tw1637264484993518782:=Nat
def tw11517929049885633758:=Nat
def tw12466109535926764798:=Nat
def tw5070732111091585310:=Nat
def tw11590601634047086974:=Nat
def tw1329481008127100318:=Nat
def tw13254594320999159262:=Nat
def tw7629993971429496318:=Nat
def tw14295462483390723582:=Nat
def tw1132920773838006814:=Nat
def tw8369451987445766718:=Nat
def tw721827870351319646:=Nat
def tw3254808026170757854:=Nat
def tw5264162482650651390:=Nat
def tw11166295867659987710:=Nat
def tw9879615765861000958:=Nat
def tw14114138611608775454:=Nat
def tw1342522707330693918:=Nat
def tw14079352523061189534:=Nat
def tw11953244587843017855:=Nat
def tw2349900606165085311:=Nat
def tw14226752759768285375:=Nat
def tw13877333495951694047:=Nat
def tw8544276343923759487:=Nat
def tw14857729383261055391:=Nat
def tw4590842998043473343:=Nat
def tw2162839547114384895:=Nat
def tw429068620723812895:=Nat
def tw10286342424879619647:=Nat
def tw4012925403796816479:=Nat
def tw5526398911986213599:=Nat
def tw17736801057294824159:=Nat
def tw3771675947429541695:=Nat
def tw2963430631145312159:=Nat
def tw9040924514950327295:=Nat
def tw10344419620186144893:=Nat
end PySem.W.Fast
open PySem PySem.W PyProof.Rows
set_option maxRecDepth 100000 in
set_option maxHeartbeats 0 in
theorem PySem.Challenge.cw_crosswright_k42_fillings_gone_through_holds : PySem.Challenge.rw_crosswright_k42_fillings_gone_through.Holds := by
  w_on; o_law; k_head; (case hw => w_witness2)
  k_fill
  refine Cw.walk (l := PySem.Challenge.rw_crosswright_k42_fillings_gone_through) rfl rfl (fun w h Y => PySem.W.kIn_of Y) ?F
  case F =>
    intro w mg fa h KX G hmg
    apply Cw.all_mk KX G hmg
    repeat (first | (show _ = _; k_is) | apply Cw.hF_mk | apply Cw.hM_mk | apply Cw.hT_mk | apply Cw.hV_mk | apply And.intro | (with_unfolding_all exact rfl) | kernel_rfl)
#print axioms PySem.Challenge.cw_crosswright_k42_fillings_gone_through_holds
