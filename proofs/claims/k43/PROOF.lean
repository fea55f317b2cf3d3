import PyProof.Rows.All
import Wide.All
import OpenK.AllK
import Wide.FinOn
import Lean
import PyProof.EqAt
import PyProof.EqKinds
import PyProof.TupleCall
import PyProof.NeKinds
import PyProof.SetRoads
import PyProof.SetNew
import PyProof.TupleKey
import PyProof.AttrMissHeap
import PySem.Challenge.RW_crosswright_k43_whole_great_sheets
open PySem.W(Frag findIn nsIn keepIn kitOne instObj emptyDict fnOf specialIn makesIn codeIn clsIn plainGet takesIn methodObj hasDictIn isFn lookIn plainOver Looks mroIn takerIn OpenLaw)
set_option Elab.async false
set_option linter.all false
set_option compiler.extract_closed false
set_option maxRecDepth 100000
section
open PySem PySem.Spec PyProof.Rows PySem.W
def aj:=@wpAny_bind
def aq:=@List.length_map
def av:=@if_neg
def aA:=@if_pos
def aH:=@wpAny_pure
def aI:=@decide_eq_true
def aK:=@decide_eq_false
def aN:=@Nat.le_refl
def aS:=@List.getElem?_eq_getElem
def bg:=@List.size_toArray
def bh:=@List.mem_of_getElem?
def bq:=@List.getElem?_map
def bu:=@Ne.symm
def bx:=@Heap.get?_push_of_some
def bA:=@Nat.zero_le
def bF:=@Heap.lt_size
def bG:=@List.mem_cons_self
def bL:=@Nat.le_trans
def bM:=@List.mem_map
def bO:=@Nat.ne_of_lt
def bP:=@List.getElem?_eq_some_iff
def bQ:=@List.map_cons
def bR:=@List.getD_eq_getElem?_getD
def bU:=@List.mem_cons_of_mem
def bZ:=@Bool.false_ne_true
def b8:=@List.mem_filter
def b9:=@List.mem_cons
def cb:=@List.mem_singleton
def cq:=@Heap.get?_push_size
def cE:=@List.length_append
def cQ:=@List.length_cons
def cR:=@List.getElem?_eq_none
def cX:=@List.mem_append
def dm:=@Option.some.inj
def dy:=@Paired.length
def dF:=@List.filter_cons
def dP:=@List.mem_range
def dQ:=@List.map_append
def dR:=@List.getElem?_of_mem
def eD:=@List.take_add_one
def eE:=@List.take_of_length_le
def eO:=@if_false
def eX:=@congrArg
def eY:=@Bool.and_eq_true
def fB:=@Array.length_toList
def fC:=@List.length_take
def fE:=@Int.toNat_natCast
def fF:=@of_decide_eq_true
def fG:=@Bool.false_eq_true
def fH:=@List.sum_cons
def gc:=@List.mem_append_right
def gq:=@List.nodup_cons
def gr:=@if_true
def gu:=@Option.map_eq_some_iff
def gM:=@Nat.lt_of_lt_of_le
def gN:=@wpAny_holding
def gO:=@Nat.le_succ
def gQ:=@Nat.not_lt_zero
def gR:=@List.length_range
def gS:=@Bool.eq_false_iff
def il:=@Bool.false_and
def ip:=@List.not_mem_nil
def iq:=@wpAny_field
def ir:=@PySem.W.mg_none_of
def iQ:=@List.append_nil
def iR:=@Option.map_some
def iS:=@List.ext_getElem?
def iT:=@Nat.mul_one
def jg:=@List.mem_append_left
def jh:=@List.nodup_nil
def ji:=@List.length_filter_le
def jj:=@PySem.F.plainAttrs_list
def jE:=@wpAny_mono
def jF:=@PySem.F.slot_list_append
def jG:=@PySem.F.type_list_append
def jH:=@List.map_map
def jI:=@PySem.W.mg_of
def km:=@Heap.size_push
def kq:=@Nat.lt_of_le_of_lt
def kr:=@List.all_eq_true
def ku:=@List.range_succ
def kD:=@List.filter_append
def kE:=@wpAny_seqItems
def kF:=@Nat.succ_le_succ
def lM:=@Nat.succ_mul
def lN:=@Nat.lt_succ_of_lt
def lO:=@size_push'
def lP:=@Int.emod_nonneg
def lQ:=@Int.emod_lt_of_pos
def lR:=@Prod.mk.injEq
def mY:=@beq_iff_eq
def mZ:=@PySem.W.kia_one
def m4:=@Heap.get?_update_other
def m5:=@Bool.and_false
def m6:=@Paired.snoc
def m7:=@Nat.zero_add
def m8:=@codeAny_builtin
def m9:=@List.getElem_mem
def nh:=@Int.eq_ofNat_of_zero_le
def ni:=@Prod.ext
def oJ:=@wpAny_truthy_bool
def oK:=@Nat.lt_succ_self
def oN:=@Heap.get?_update_self
def oO:=@List.replicate_succ
def oP:=@Option.getD_some
def oQ:=@List.filter_nil
def oS:=@wpAny_of_eq
def oU:=@List.take_zero
def oV:=@Around.under_plainId
def oX:=@List.nodup_append
def oY:=@Nat.mul_zero
def qC:=@List.length_replicate
def qD:=@Nat.mul_comm
def qE:=@List.lookup_cons
def qF:=@wpAny_call_entry
def qG:=@Heap.SameBut.update
def qH:=@List.getElem?_range
def qI:=@plainId_quiet
def sV:=@beq_eq_false_iff_ne
def sW:=@Nat.lt_irrefl
def sX:=@wpAny_pyIter_list
def sY:=@Bool.eq_iff_iff
def sZ:=@List.getElem?_take_of_lt
def tf:=@List.append_assoc
def tj:=@List.find?_cons
def tm:=@List.any_eq_true
def tq:=@Nat.not_lt
def tu:=@List.all_map
def tw:=@List.filter_map
def tE:=@wpAny_rule
def tF:=@F.called_set
def tG:=@List.mem_of_mem_take
def vT:=@Nat.le_of_lt
def vU:=@List.getElem?_set_self
def vV:=@wpAny_passesOwn
def vW:=@codeAny_mono
def vX:=@wpAny_Call_Name_kw
def vY:=@List.take_sublist
def vZ:=@List.any_cons
def wa:=@List.flatten_cons
def wb:=@List.map_nil
def wc:=@Bool.or_eq_true
def we:=@wpAny_newObj_type
def wg:=@Txt.slice_le
def wk:=@Nat.mul_le_mul
def wm:=@wpAny_letGo
def wq:=@or_false
def wt:=@F.plain_min_loop
def wu:=@Nat.lt_or_ge
def wx:=@Bool.not_true
def wy:=@Nat.lt_succ_iff_lt_or_eq
def zm:=@List.getElem?_set_ne
def zo:=@Nat.ne_of_gt
def zr:=@sizeLine_eq
def zt:=@wpAny_call
def zu:=@List.getElem?_append_right
def zw:=@List.length_drop
def zE:=@tupleKind_room_in1
def zF:=@beq_self_eq_true
def zG:=@Bool.and_true
def zH:=@Walks.list
def zI:=@Int.zero_add
def zJ:=@isSubtype_type
def zK:=@wpAny_attempt
def zL:=@wpAny_callSpecial?_slot
def zM:=@Obj.data_mapFields
def zN:=@wpAny_setField_rec
def zO:=@Nat.le_add_right
def zP:=@decide_eq_true_iff
def zQ:=@Classical.byContradiction
def zR:=@wpAny_setState_of
def zS:=@List.mem_flatMap
def zT:=@Bool.true_and
def zU:=@StrLaws.found_one
def zV:=@List.mem_map_of_mem
def Df:=@List.filterMap_cons
def Dg:=@PyProof.Rows.callWith_type1
def Dh:=@Calls.spliced_cons
def Di:=@PySem.mem_of_lookup
def Dj:=@List.length_nil
def Dk:=@List.length_singleton
def Dl:=@List.nil_append
def Dm:=@wpAny_specialOf
def Dn:=@wpAny_setField
def Dp:=@List.length_reverse
def Dr:=@List.take_length
def Ds:=@wpAny_tryCatch
def Dt:=@List.nodup_range
def Du:=@Nat.add_zero
def Dv:=@Prod.ext_iff
def Dw:=@PySem.F.plainAttrs_str
def Dx:=@List.any_map
def JE:=@wpAny_execs_nil
def JF:=@wpAny_pyIter_tuple
def JG:=@List.any_eq_false
def JH:=@PySem.W.plainGet_of
def JI:=@List.getElem?_append_left
def JJ:=@wpAny_forIn_list
def JK:=@List.length_set
def JL:=@Nat.le_of_not_lt
def JM:=@List.forIn_cons
def JN:=@List.range_succ_eq_map
def JO:=@typeLookup_type
def JP:=@builtinLookup_eq_fast
def JQ:=@wpAny_isInstance
def JR:=@List.getElem?_reverse
def JS:=@List.sum_append
def JT:=@F.slot_zip_next
def JU:=@F.slot_tuple_iterator_next
def JV:=@Heap.get?_update_ne
def JW:=@Array.size_push
def JX:=@Bool.not_false
def JY:=@List.filterMap_cons_some
def JZ:=@List.flatMap_append
def J0:=@Nat.div_lt_of_lt_mul
def J1:=@List.mem_or_eq_of_mem_set
def J2:=@List.pairwise_iff_getElem
def J3:=@PySem.F.slot_str_join
def Ka:=@PySem.F.type_str_join
def Kb:=@List.eq_of_mem_replicate
def Kc:=@List.count_append
def Kd:=@List.count_cons
def Ke:=@List.map_congr_left
def Kf:=@List.mem_reverse
def SG:=@Array.mem_toList_iff
def SH:=@List.getElem?_replicate
def SJ:=@Calls.callWith_builtin
def SK:=@Calls.evalArgs_plain
def SM:=@PySem.F.slot_dict_get
def SN:=@Obj.isFreed_of_fields
def SO:=@Array.getElem?_toList
def SQ:=@wpAny_updateSeq_pair
def SR:=@AutoSeq1.wpAny_loadPart'
def SU:=@F.slot_list_getattribute
def SV:=@SetTable.insertAt_perm
def SW:=@List.filterMap_cons_none
def SX:=@Nat.mul_le_mul_right
def SY:=@List.mem_of_mem_drop
def S0:=@List.filter_eq_nil_iff
end
namespace L2
open PySem PySem.Spec PyProof.Rows
variable{vs xs:List V}{its us:List Value}{H:Hp}{C a b dx it:Addr}{o:Obj}{cd u:Value}{P prog:Program}{w:World}{base h:Heap}{g':Array GenState}{i j n t':Nat}{d':Drawn}{ch fp:List Addr}{pins z9:List (Addr×Obj)}{N ns ps:List Str}{x:Str}{M:Model}{A:Around}{E Q:Value->Shared->Prop}{v y:V}{s s':Shared}{X:Cx}{c e iter l tg:Expr}{α κ:Type}{pos:Pos}{O:St}{K:Frag}{body st:List Stmt}{tc:TT}{es:List Expr}{te tl:TE}{g:Int->Int->Int}{tb:TS}{R:Result->Shared->Prop}{lo:Int}{p:Addr×Obj}{pl:Sem Bool}{f:Value->Value->Sem Value}{r r':R2}{qV:CmpOp}{mA mg:Str->Option Value}{expr:Bool}{kw:List (Str×Value)}{outer:List Env}{fd:FuncData}{sc scope:Scope}
abbrev Key:=Sum Int Str
noncomputable def nj:Key->Value->Bool
 |.inl k,v=>Value.isInt k v
 |.inr x,v=>Value.isStrOf x v
noncomputable def S4(w:World):Key->Int
 |.inl k=>hashInt k
 |.inr x=>hashStr w x
theorem jJ:∀{k:Key}{v:Value},nj k v=true->(∃i t,k=Sum.inl i/\v=Value.int i t)\/(∃x t,k=Sum.inr x/\v=Value.str x t)
 |.inl i,v,h=>by
  obtain⟨t,e⟩:=Value.isInt_shape (k:=i) (v:=v) h
  exact .inl ⟨i,t,rfl,e⟩
 |.inr x,v,h=>by
  obtain⟨t,e⟩:=Value.isStrOf_shape (x:=x) (v:=v) h
  exact .inr ⟨x,t,rfl,e⟩
def S6(i:Int)(t:Tok):nj (.inl i) (.int i t)=true:=by simp[nj,Value.isInt]
def Dy(x:Str)(t:Tok):nj (.inr x) (.str x t)=true:=by simp[nj,Value.isStrOf]
def S9(a b:Int):decide ((Sum.inl a:Key)=Sum.inl b)=(a==b):=by
 by_cases e:a=b
 .subst e;simp
 .have h:¬(Sum.inl a:Key)=Sum.inl b:=λq=>e (Sum.inl.inj q)
  rw[aK h]
  exact(sV.mpr e).symm
def Ta(a b:Str):decide ((Sum.inr a:Key)=Sum.inr b)=decide (a=b):=by
 by_cases e:a=b
 .subst e;simp
 .have h:¬(Sum.inr a:Key)=Sum.inr b:=λq=>e (Sum.inr.inj q)
  rw[aK h,aK e]
def Tb(a:Int)(b:Str):decide ((Sum.inl a:Key)=Sum.inr b)=false:=aK (λq=>nomatch q)
def Tc(a:Str)(b:Int):decide ((Sum.inr a:Key)=Sum.inl b)=false:=aK (λq=>nomatch q)
noncomputable def bV(prog:Program)(w:World):PySem.KeyKind prog w Key where
 is:=nj
 hash:=S4 w
 inj:=λv a b ha hb=>by
  rcases jJ ha with ⟨i,t,rfl,rfl⟩ | ⟨x,t,rfl,rfl⟩
  .rcases jJ hb with ⟨j,u,rfl,e⟩ | ⟨y,u,rfl,e⟩
   .injection e with e1 _;rw[e1]
   .exact nomatch e
  .rcases jJ hb with ⟨j,u,rfl,e⟩ | ⟨y,u,rfl,e⟩
   .exact nomatch e
   .injection e with e1 _;rw[e1]
 byValue:=λk v h=>by
  rcases jJ h with ⟨i,t,rfl,rfl⟩ | ⟨x,t,rfl,rfl⟩ <;> rfl
 pyHash:=λhv h=>by
  rcases jJ hv with ⟨i,t,rfl,rfl⟩ | ⟨x,t,rfl,rfl⟩
  .exact wpAny_pyHash_int h
  .exact wpAny_pyHash_str h
 eqBool:=λhu hv h=>by
  rcases jJ hu with ⟨i,t,rfl,rfl⟩ | ⟨x,t,rfl,rfl⟩
  .rcases jJ hv with ⟨j,u,rfl,rfl⟩ | ⟨y,u,rfl,rfl⟩
   .rw[S9] at h;exact wpAny_eqBool_int h
   .rw[Tb] at h;exact SeqAt.EqAt.int_str i t y u _ _ _ _ h
  .rcases jJ hv with ⟨j,u,rfl,rfl⟩ | ⟨y,u,rfl,rfl⟩
   .rw[Tc] at h;exact SeqAt.EqAt.str_int x t j u _ _ _ _ h
   .rw[Ta] at h;exact wpAny_eqBool_str h
 «strs»:=λk x t v h=>by
  rcases jJ h with ⟨i,u,rfl,e⟩ | ⟨y,u,rfl,e⟩
  .exact nomatch e
  .injection e with e1 _
   subst e1
   cases v <;> rfl
def Td(prog:Program)(w:World)(i:Int)(t:Tok):(bV prog w).is (.inl i) (.int i t)=true:=S6 i t
def Te(prog:Program)(w:World)(x:Str)(t:Tok):(bV prog w).is (.inr x) (.str x t)=true:=Dy x t
inductive V where
 |aB | bl (b:Bool) | int (i:Int) | str (x:Str) | iU (b:Array UInt8) | qJ (b:UInt64) | ref (a:Addr) | ty (n:String)
 deriving DecidableEq
def RelV:V->Value->Prop
 |.aB,u=>u=Value.none
 |.bl b,u=>u=Value.bool b
 |.int i,u=>∃t,u=Value.int i t
 |.str x,u=>∃t,u=Value.str x t
 |.iU b,u=>∃t,u=Value.bytes b t
 |.qJ b,u=>∃t,u=Value.float b t
 |.ref a,u=>u=Value.ref a
 |.ty n,u=>u=Value.type n
abbrev Vals:List V->List Value->Prop:=Paired RelV
theorem Vals.length(r:Vals xs us):xs.length=us.length:=dy r
theorem Vals.get:∀{xs:List V}{us:List Value}{i:Nat}{x:V},Vals xs us->xs[i]? = some x->∃u,us[i]? = some u/\RelV x u
 |_,_,_,_,.nil,e=>by simp at e
 |_,_,0,_,.cons r _,e=>by simp at e;subst e;exact⟨_,rfl,r⟩
 |_,_,i+1,x,.cons _ t,e=>by
  obtain⟨u,h1,h2⟩:=Vals.get (i:=i) (x:=x) t (by simpa using e)
  exact⟨u,by simpa using h1,h2⟩
theorem Vals.set{x:V}{u:Value}(r:RelV x u):∀{xs:List V}{us:List Value}(i:Nat),Vals xs us->Vals (xs.set i x) (us.set i u)
 |_,_,_,.nil=>.nil
 |_,_,0,.cons _ t=>.cons r t
 |_,_,i+1,.cons q t=>.cons q (Vals.set r i t)
theorem Vals.append:∀{xs ys:List V}{us ws:List Value},Vals xs us->Vals ys ws->Vals (xs++ys) (us++ws)
 |_,_,_,_,.nil,s=>s
 |_,_,_,_,.cons r t,s=>.cons r (Vals.append t s)
theorem Vals.take:∀{xs:List V}{us:List Value}(n:Nat),Vals xs us->Vals (xs.take n) (us.take n)
 |_,_,0,_=>.nil
 |_,_,_+1,.nil=>.nil
 |_,_,n+1,.cons r t=>.cons r (Vals.take n t)
theorem Vals.drop:∀{xs:List V}{us:List Value}(n:Nat),Vals xs us->Vals (xs.drop n) (us.drop n)
 |_,_,0,r=>r
 |_,_,_+1,.nil=>.nil
 |_,_,n+1,.cons _ t=>Vals.drop n t
def fI:Option V->Option Value->Prop
 |some v,some u=>RelV v u
 |none,none=>True
 |_,_=>False
def KV{κ:Type}:List (κ×V)->List (κ×Value)->Prop:=Paired λ(p:κ×V) (q:κ×Value)=>p.1=q.1/\RelV p.2 q.2
noncomputable def kV:Key->V
 |.inl i=>.int i
 |.inr x=>.str x
inductive HO where
 |lst (xs:List V)
 |tup (xs:List V)
 |dK (kvs:List (Key×V)) | dT (kvs:List (List Key×V))
 |set (S:Int->Bool) (n:Nat)
 |ins (C dx:Addr) (fs:List (Str×V))
 |own (x:Addr)
 |xd (fs:List (Str×V))
 |met (f x:Addr)
 |jK (lo hi:Int)
 |dS (o:Obj) (u:HO)
 |nt (ps:Array Value)
 |ext (φ:Heap->Prop)
abbrev Hp:=Addr->Option HO
noncomputable def upd(H:Hp)(a:Addr)(o:HO):Hp:=λb=>if b=a then some o else H b
def au{o:HO}:upd H a o a=some o:=by unfold upd;rw[aA rfl]
def ao{o:HO}(h:b≠a):upd H a o b=H b:=by unfold upd;rw[av h]
def Kg{o u:HO}:upd (upd H a o) a u=upd H a u:=by
 funext b;unfold upd;split <;> rfl
def cy{o u:HO}(h:H a=some o)(h':H b=some u)(d:o≠u):a≠b:=by
 intro e;subst e;rw[h] at h';exact d (dm h')
def bB{o:HO}(h:H a=some o)(h':H b=none):a≠b:=by
 intro e;subst e;rw[h] at h';cases h'
section
variable(P:Program)(w:World)
def cO(H:Hp)(h:Heap)(a:Addr):HO->Prop
 |.lst xs=>xs.length<=sizeLine/\∃(its:List Value) (n:Nat),Vals xs its/\h.get? a=some { cls := .type "list",data := .seq its.toArray n }
 |.tup xs=>xs.length<=sizeLine/\∃its:List Value,Vals xs its/\IsTup h a its.toArray
 |.dK kvs=>kvs.length<=sizeLine/\(a==sysModules)=false/\∃vs,KV kvs vs/\h.DictOf (bV P w) a vs
 |.dT kvs=>kvs.length<=sizeLine/\(a==sysModules)=false/\∃xs:List (List Key×Addr×Value),
   Paired (λ(p:List Key×V) (q:List Key×Addr×Value)=>p.1=q.1/\H q.2.1=some (.tup (p.1.map kV))/\RelV p.2 q.2.2) kvs xs/\
   ∃o es ep,h.get? a=some o/\o.ExactDict/\o.data = .dict es ep/\es.toList=xs.map (entryOfKey (tupleKind (bV P w)))/\(xs.map (·.1)).Nodup
 |.set S n=>h.SetOf (intKind P w) a S n
 |.ins C dx fs=>H dx=some (.own a)/\fs.length<=1000/\dx≠a/\h.get? a=some (instObj C dx)/\
   ∃mA,h.Ns1 dx mA/\(∀f,fI (fs.lookup f) (mA f))/\PySem.Within mA (fs.map (·.1))
 |.own _=>∃o,h.get? a=some o
 |.xd fs=>∃mA,h.Ns1 a mA/\∀f,fI (fs.lookup f) (mA f)
 |.jK lo hi=>∃t u v,h.get? a=some { cls := .type "range",data := .fields #[.int lo t,.int hi u,.int 1 v] }
 |.dS o u=>h.get? a=some o/\cO H h a u
 |.nt ps=>h.get? a=some { cls := .none,data := .fields ps }
 |.met f x=>h.get? a=some (methodObj (.ref f) (.ref x))
 |.ext φ=>φ h/\(∃o,h.get? a=some o)/\∀h1 h2:Heap,φ h1->(∀o,h1.get? a=some o->h2.get? a=some o)->φ h2
def c8(H:Hp)(h:Heap):Prop := ∀a o,H a=some o->cO P w H h a o
end
section
variable{P:Program}{w:World}{H H':Hp}{h h':Heap}{a:Addr}{o:HO}
theorem cO.lt(x:cO P w H h a o):a<h.objs.size:=by
 cases o with
 |lst xs=>obtain⟨_,_,_,_,e⟩:=x;exact bF e
 |tup xs=>obtain⟨_,_,_,p⟩:=x;exact p.lt
 |dK kvs=>obtain⟨_,_,_,_,o,_,_,e,_⟩:=x;exact bF e
 |dT kvs=>obtain⟨_,_,_,_,o,_,_,e,_⟩:=x;exact bF e
 |set S n=>obtain⟨o,_,_,_,e,_⟩:=x;exact bF e
 |ins C dx fs=>obtain⟨_,_,_,e,_⟩:=x;exact bF e
 |own y=>obtain⟨_,e⟩:=x;exact bF e
 |xd fs=>obtain⟨_,⟨_,_,_,e,_⟩,_⟩:=x;exact bF e
 |jK lo hi=>obtain⟨_,_,_,e⟩:=x;exact bF e
 |dS ob u=>obtain⟨e,_⟩:=x;exact bF e
 |nt ps=>exact bF (show h.get? a=some _ from x)
 |met f y=>exact bF (show h.get? a=some _ from x)
 |ext φ=>obtain⟨_,⟨_,e⟩,_⟩:=x;exact bF e
theorem Paired.bJ{α β:Type}{F G:α->β->Prop}:∀{l₁:List α}{l₂:List β},Paired F l₁ l₂->(∀a b,F a b->G a b)->Paired G l₁ l₂
 |_,_,.nil,_=>.nil
 |_,_,.cons r t,f=>.cons (f _ _ r) (Paired.bJ t f)
def cO.kG(x:cO P w H h a o)(k:∀b u,(b=a\/H b=some (.own a))->h.get? b=some u->h'.get? b=some u)
  (ho:∀b,H b=some (.own a)->H' b=some (.own a)) (ht:∀b xs,H b=some (.tup xs)->H' b=some (.tup xs)):cO P w H' h' a o:=by
 induction o with
 |lst xs=>obtain⟨z,its,n,r,e⟩:=x;exact⟨z,its,n,r,k _ _ (.inl rfl) e⟩
 |tup xs=>obtain⟨z,its,r,ob,e,c⟩:=x;exact⟨z,its,r,ob,k _ _ (.inl rfl) e,c⟩
 |dK kvs=>obtain⟨z,y,vs,r,ob,es,ep,e,c⟩:=x;exact⟨z,y,vs,r,ob,es,ep,k _ _ (.inl rfl) e,c⟩
 |dT kvs=>
  obtain⟨z,y,xs,r,ob,es,ep,e,c⟩:=x
  exact⟨z,y,xs,Paired.bJ r λp q z=>⟨z.1,ht _ _ z.2.1,z.2.2⟩,ob,es,ep,k _ _ (.inl rfl) e,c⟩
 |set S n=>obtain⟨ob,es,ep,t,e,c⟩:=x;exact⟨ob,es,ep,t,k _ _ (.inl rfl) e,c⟩
 |ins C dx fs=>
  obtain⟨d,z,ne,e,mA,⟨od,es,ep,e2,c⟩,r⟩:=x
  exact⟨ho _ d,z,ne,k _ _ (.inl rfl) e,mA,⟨od,es,ep,k _ _ (.inr d) e2,c⟩,r⟩
 |own y=>obtain⟨ob,e⟩:=x;exact⟨ob,k _ _ (.inl rfl) e⟩
 |xd fs=>obtain⟨mA,⟨od,es,ep,e,c⟩,r⟩:=x;exact⟨mA,⟨od,es,ep,k _ _ (.inl rfl) e,c⟩,r⟩
 |jK lo hi=>obtain⟨t,u,v,e⟩:=x;exact⟨t,u,v,k _ _ (.inl rfl) e⟩
 |dS ob u ih=>obtain⟨e,q⟩:=x;exact⟨k _ _ (.inl rfl) e,ih q⟩
 |nt ps=>
  have e:h.get? a=some { cls := .none,data := .fields ps }:=x
  show h'.get? a=some { cls := .none,data := .fields ps }
  exact k a _ (.inl rfl) e
 |met f y=>
  have e:h.get? a=some (methodObj (.ref f) (.ref y)):=x
  show h'.get? a=some (methodObj (.ref f) (.ref y))
  exact k a _ (.inl rfl) e
 |ext φ=>obtain⟨p,⟨o,e⟩,st⟩:=x;exact⟨st _ _ p λo q=>k _ _ (.inl rfl) q,⟨o,k _ _ (.inl rfl) e⟩,st⟩
theorem c8.lt(x:c8 P w H h)(e:H a=some o):a<h.objs.size:=(x a o e).lt
def c8.fresh(x:c8 P w H h)(e:h.objs.size<=a):H a=none:=by
 cases q:H a with
 |none=>rfl
 |some u=>exact absurd (gM (x.lt q) e) (sW _)
def c8.kept(x:c8 P w H h)(k:∀b u,h.get? b=some u->h'.get? b=some u):c8 P w H h':=λa o e=>
 (x a o e).kG (λb u _ q=>k b u q) (λ_ q=>q) λ_ _ q=>q
def c8.laid(x:c8 P w H h)(k:∀b u,h.get? b=some u->h'.get? b=some u)(hp:h.objs.size<=a)(new:cO P w (upd H a o) h' a o):c8 P w (upd H a o) h':=λb u e=>by
 have hn:=x.fresh hp
 by_cases hb:b=a
 .subst hb;rw[au] at e;cases e;exact new
 .rw[ao hb] at e
  exact(x b u e).kG (λc v _ q=>k c v q) (λc q=>by rw[ao (bB q hn)];exact q) λc xs q=>by rw[ao (bB q hn)];exact q
end
def Rd(H:Hp)(a:Addr)(u:HO):Prop:=H a=some u\/∃o,H a=some (.dS o u)
def Rd.ok{u:HO}(r:Rd H a u)(x:c8 P w H h):cO P w H h a u:=by
 rcases r with r | ⟨o,r⟩
 .exact x a u r
 .obtain⟨_,q⟩:=x a _ r
  exact q
def wz:Option HO->Prop
 |some (.lst _)=>True
 |some (.dK _)=>True
 |some (.dT _)=>True
 |some (.set _ _)=>True
 |some (.ins _ _ _)=>True
 |some (.ext _)=>True
 |_=>False
section
variable{P:Program}{w:World}{H:Hp}{h h':Heap}{x e:Addr}{o':HO}
def c8.write(ok:c8 P w H h)(mu:wz (H x))(he:e=x\/H e=some (.own x))(k:∀b u,b≠e->h.get? b=some u->h'.get? b=some u)(tH:∃u,h'.get? e=some u)
  (new:cO P w (upd H x o') h' x o'):c8 P w (upd H x o') h':=λb u q=>by
 have Kh:∀c y,H c=some (.own y)->c≠x:=λc y r z=>by subst z;rw[r] at mu;exact mu
 have Tf:∀c xs,H c=some (.tup xs)->c≠x:=λc xs r z=>by subst z;rw[r] at mu;exact mu
 by_cases hb:b=x
 .subst hb;rw[au] at q;cases q;exact new
 .rw[ao hb] at q
  by_cases qK:b=e
  .have q':H b=some (.own x):=by
    rcases he with z | z
    .exact absurd (qK.trans z) hb
    .rw[qK];exact z
   rw[q] at q';cases q'
   obtain⟨v,hv⟩:=tH
   exact⟨v,by rw[qK];exact hv⟩
  .refine(ok b u q).kG (λc v hc r=>k c v ?_ r) (λc r=>by rw[ao (Kh c b r)];exact r) λc xs r=>by rw[ao (Tf c xs r)];exact r
   rcases hc with rfl | hc
   .exact qK
   .rintro rfl
    rcases he with z | z
    .exact Kh c b hc z
    .rw[hc] at z;cases z;exact hb rfl
end
structure Un(fs ex:List Addr)(H H':Hp)(h h':Heap):Prop where
 keep:∀b o,h.get? b=some o->H b=none->b∉fs->b∉ex->h'.get? b=some o
 slot:∀b o,h.get? b=some o->H b=none->b∈fs->b∉ex->∃sl,h'.get? b=some { o with slots:=sl }
 free:∀b o,h.get? b=some o->H b=none->b∉ex->H' b=none
 there:∀b o,h.get? b=some o->b∉ex->∃o',h'.get? b=some o'
 gv:∀b xs,H b=some (.tup xs)->H' b=some (.tup xs)
 jL:∀b o u,H b=some (.dS o u)->H' b=some (.dS o u)
 kH:∀b ps,H b=some (.nt ps)->∃more,H' b=some (.nt (ps++more))
section
variable{fs wA ex ex':List Addr}{H H1 H2:Hp}{h h1 h2 h':Heap}{a x e:Addr}{o:HO}
def Un.any(u:Un fs ex H H1 h h1){ob:Obj}(q:h.get? b=some ob)(n:H b=none)(hx:b∉ex):∃sl,h1.get? b=some { ob with slots:=sl }:=by
 by_cases hb:b∈fs
 .exact u.slot b ob q n hb hx
 .exact⟨ob.slots,u.keep b ob q n hb hx⟩
def Un.kept(k:∀b u,h.get? b=some u->h'.get? b=some u):Un fs ex H H h h':=
 ⟨λb ob q _ _ _=>k b ob q,λb ob q _ _ _=>⟨ob.slots,k b ob q⟩,λ_ _ _ n _=>n,λb ob q _=>⟨ob,k b ob q⟩,λ_ _ q=>q,λ_ _ _ q=>q,λ_ ps q=>⟨#[],by rw[q];simp⟩⟩
def Un.refl:Un fs ex H H h h:=Un.kept λ_ _ q=>q
def Un.laid(k:∀b u,h.get? b=some u->h'.get? b=some u)(hp:h.objs.size<=a)(hn:H a=none):Un fs ex H (upd H a o) h h' where
 keep:=λb u q _ _ _=>k b u q
 slot:=λb u q _ _ _=>⟨u.slots,k b u q⟩
 free:=λb u q n _=>by rw[ao (bO (gM (bF q) hp))];exact n
 there:=λb u q _=>⟨u,k b u q⟩
 gv:=λb xs q=>by rw[ao (bB q hn)];exact q
 jL:=λb u xs q=>by rw[ao (bB q hn)];exact q
 kH:=λb ps q=>⟨#[],by rw[ao (bB q hn),q];simp⟩
def Un.write(mu:wz (H x))(he:e=x\/H e=some (.own x))(k:∀b u,b≠e->h.get? b=some u->h'.get? b=some u)(tH:∃u,h'.get? e=some u):Un fs ex H (upd H x o) h h':=by
 have hx:∀b,H b=none->b≠x:=λb n z=>by subst z;rw[n] at mu;exact mu
 have hb:∀b,H b=none->b≠e:=λb n z=>by
  subst z
  rcases he with r | r
  .exact hx b n r
  .rw[n] at r;cases r
 have hm:∀b u,H b=some u->¬wz (some u)->b≠x:=λb u q nm z=>by subst z;rw[q] at mu;exact nm mu
 refine⟨λb u q n _ _=>k b u (hb b n) q,λb u q n _ _=>⟨u.slots,k b u (hb b n) q⟩,λb u q n _=>by rw[ao (hx b n)];exact n,λb u q _=>?_,
  λb xs q=>by rw[ao (hm b _ q λz=>z)];exact q,λb u xs q=>by rw[ao (hm b _ q λz=>z)];exact q,λb ps q=>⟨#[],by rw[ao (hm b _ q λz=>z),q];simp⟩⟩
 by_cases qK:b=e
 .subst qK;exact tH
 .exact⟨u,k b u qK q⟩
end
noncomputable def zW(h:Heap)(H:Hp):List Addr:=(List.range h.objs.size).filter λa=>(H a).isSome
noncomputable def nv(h:Heap)(H:Hp):Heap:=PySem.W.hideAll h (zW h H)
def Tg(h:Heap)(H:Hp):(nv h H).objs.size=h.objs.size:=PySem.W.hideAll_size _ _
def Th(e:h.get? b=some o)(n:H b=none):(nv h H).get? b=some o:=
 PySem.W.hideAll_get _ e λhm=>by
  have q:(H b).isSome=true:=(b8.mp hm).2
  rw[n] at q;simp at q
def Ti(e:(nv h H).get? b=some o):h.get? b=some o/\H b=none:=by
 have e':h.get? b=some o:=PySem.W.of_hideAll (zW h H) e
 refine⟨e',?_⟩
 cases q:H b with
 |none=>rfl
 |some x=>
  have hm:b∈zW h H:=b8.mpr ⟨dP.mpr (bF e'),by simp[q]⟩
  have z:(nv h H).get? b=none:=PySem.W.hideAll_none (zW h H) hm
  rw[z] at e;cases e
structure Mod(K:Frag)(mg:Str->Option Value)(base:Heap):Prop where
 qL:K.In base
 glob:base.Ns mainGlobals mg
 blt:∃mb,base.Ns builtinsNs mb/\∀x:Str,x≠"__name__"->mb x=bootBuiltins x
 nolimit:base.NoLimit
structure Cx where
 prog:Program
 w:World
 K:Frag
 mg:Str->Option Value
 base:Heap
 A:Around
 N:List Str
 s₀:Shared
 H₀:Hp
 env:Env
 outer:List Env
 stack:List Env
 ex:List Addr
 fn:Str->Bool
 calm:Bool
 pn:List (Addr×Obj)
 xe:Value->Shared->Prop
noncomputable def jM(l:List Env):List Addr:=l.filterMap (·.frame)
noncomputable abbrev Cx.fs(X:Cx):List Addr:=jM X.outer
def Dz(sc:Scope)(x:Str):Prop:=sc.names.lookup x=some .local\/sc.names.lookup x=some .cell\/sc.names.lookup x=some .free
def Loc(sc:Scope)(x:Str):Prop:=sc.names.lookup x=some .local\/sc.names.lookup x=some .cell
def Look(env:Env)(h:Heap)(m:Str->Option Value)(x:Str)(u:Value):Prop:=
 (env.kindOf x=some .local/\m x=some u)\/((env.kindOf x=some .cell\/env.kindOf x=some .free)/\∃c,env.cells.lookup x=some c/\h.IsCell c (some u))
structure Cx.Ok(X:Cx):Prop where
 mod:Mod X.K X.mg X.base
 kind:X.env.scope.kind = .function
 glob:X.env.globals=mainGlobals
 blt:X.env.builtins=builtinsNs
 above:X.s₀.heap.objs.size<=X.env.locals
 inj:∀x y c,X.env.cells.lookup x=some c->X.env.cells.lookup y=some c->x=y
 has:∀x,(X.env.kindOf x=some .cell\/X.env.kindOf x=some .free)->∃c,X.env.cells.lookup x=some c
 wB:∀x c,X.fn x=true->X.env.cells.lookup x=some c->X.s₀.heap.objs.size<=c
 hd:X.calm=true->X.A.handled=none
 frames:X.A.frames=some X.stack
 zX:X.stack=X.outer\/(X.stack=X.env::X.outer/\X.env.frame=some X.env.locals)
 Ki:∀b∈X.ex,b≠X.env.locals/\∀x c,X.env.cells.lookup x=some c->c≠b
 bs:∀b o,X.base.get? b=some o->X.s₀.heap.get? b=some o/\X.H₀ b=none
 ny:X.base.objs.size<=X.s₀.heap.objs.size
 qM:∀b o,X.base.get? b=some o->b∉X.ex
 zY:∀b∈X.ex,b∉X.fs
 jk:X.s₀.heap.FunFrames X.base X.outer
 oZ:∀b∈X.fs,X.H₀ b=none
structure Inv(X:Cx)(pins:List (Addr×Obj))(O:List (Option V))(H:Hp)(s:Shared):Prop where
 ok:X.Ok
 os:s.os=X.s₀.os
 bare:AllBare s.gens
 base:Un X.fs X.ex X.H₀ H X.s₀.heap s.heap
 loc:∃m,s.heap.Ns X.env.locals m/\∀(i:Nat) (x:Str) (v:V),X.N[i]? = some x->O[i]? = some (some v)->Dz X.env.scope x->∃u,RelV v u/\Look X.env s.heap m x u
 cell:∀x c,X.env.cells.lookup x=some c->∃v,s.heap.IsCell c v
 free:H X.env.locals=none
 fJ:∀x c,X.env.cells.lookup x=some c->H c=none
 pin:∀p∈X.pn++pins,s.heap.get? p.1=some p.2/\H p.1=none/\p.1≠X.env.locals/\p.1∉X.fs/\∀v,p.2.data ≠ .cell v
 aD:c8 X.prog X.w H s.heap
 len:O.length=X.N.length
section
variable{X:Cx}{pins:List (Addr×Obj)}{O:List (Option V)}{H H':Hp}{s:Shared}{h':Heap}
def Cx.Ok.Tj(ok:X.Ok)(e:X.base.get? b=some o):b∉X.fs:=λhb=>by
 have:=(ok.jk.mem hb).1
 rw[e] at this;cases this
theorem Inv.bs(I:Inv X pins O H s):∀b o,X.base.get? b=some o->s.heap.get? b=some o/\H b=none:=λb o e=>
 ⟨I.base.keep b o (I.ok.bs b o e).1 (I.ok.bs b o e).2 (I.ok.Tj e) (I.ok.qM b o e),I.base.free b o (I.ok.bs b o e).1 (I.ok.bs b o e).2 (I.ok.qM b o e)⟩
def Inv.bk(I:Inv X pins O H s):∀b o,X.base.get? b=some o->s.heap.get? b=some o:=λb o e=>(I.bs b o e).1
theorem Inv.mod(I:Inv X pins O H s):Mod X.K X.mg X.base:=I.ok.mod
def Inv.cY(I:Inv X pins O H s):X.K.In s.heap:=I.ok.mod.qL.keeps I.bk
theorem Inv.lt(I:Inv X pins O H s):X.env.locals<s.heap.objs.size:=let ⟨_,hn,_⟩:=I.loc;hn.lt
def Inv.sz(I:Inv X pins O H s):X.s₀.heap.objs.size<=s.heap.objs.size:=bL I.ok.above (vT I.lt)
def Inv.Tn(I:Inv X pins O H s)(h:s.heap.objs.size<=a):a∉X.fs:=λhb=>by
 obtain⟨_,o,ho,_⟩:=I.ok.jk.mem hb
 exact absurd (gM (bF ho) (bL I.sz h)) (sW _)
def Inv.qN(I:Inv X pins O H s):∀x c,X.env.cells.lookup x=some c->c≠X.env.locals:=λx c e z=>by
 obtain⟨v,o,ho,hd⟩:=I.cell x c e
 obtain⟨m,⟨o',es,ep,kI,wC,_⟩,_⟩:=I.loc
 rw[z,kI] at ho;cases ho;rw[wC] at hd;cases hd
theorem Inv.jk(I:Inv X pins O H s):s.heap.FunFrames X.base X.outer:=by
 have all:∀(l:List Env),(∀b∈jM l,b∈X.fs)->X.s₀.heap.FunFrames X.base l->s.heap.FunFrames X.base l:=by
  intro l
  induction l with
  |nil=>intro _ _;trivial
  |cons env r ih=>
   intro hs hl
   obtain⟨hk,⟨L,o,hf,hn,ho,hd⟩,hr⟩:=hl
   have hL:L∈X.fs:=hs L (by unfold jM;rw[Df,hf];exact bG)
   obtain⟨sl,e⟩:=I.base.slot L o ho (I.ok.oZ L hL) hL λz=>I.ok.zY L z hL
   exact⟨hk,⟨L,_,hf,hn,e,hd⟩,ih (λb hb=>hs b (by unfold jM;rw[Df,hf];exact bU _ hb)) hr⟩
 exact all X.outer (λ_ hb=>hb) I.ok.jk
theorem Inv.stack(I:Inv X pins O H s):s.heap.FunFrames X.base X.stack:=by
 rcases I.ok.zX with e | ⟨e,hf⟩
 .rw[e];exact I.jk
 .rw[e]
  obtain⟨m,hn,_⟩:=I.loc
  refine .cons (by rw[I.ok.kind];decide) hf hn ?_ I.jk
  exact Heap.get?_none_of_le (bL I.ok.ny I.ok.above)
def Inv.wD(I:Inv X pins O H s):∀b∈jM X.stack,b∈X.env.locals::X.fs:=λb hb=>by
 rcases I.ok.zX with e | ⟨e,hf⟩
 .rw[e] at hb;exact bU _ hb
 .rw[e] at hb
  unfold jM at hb
  rw[Df,hf] at hb
  exact hb
def Inv.Kj(I:Inv X pins O H s):∀b∈jM X.stack,H b=none:=λb hb=>by
 rcases b9.mp (I.wD b hb) with e | hb
 .rw[e];exact I.free
 .obtain⟨_,o,ho,_⟩:=I.ok.jk.mem hb
  exact I.base.free b o ho (I.ok.oZ b hb) λz=>I.ok.zY b z hb
def Inv.step(I:Inv X pins O H s)
  (hch:∀b∈ch,(b∈X.ex\/X.s₀.heap.objs.size<=b)/\b≠X.env.locals/\(∀x c,X.env.cells.lookup x=some c->c≠b)/\∀p∈X.pn++pins,p.1≠b)
  (keep:∀b o,b≠X.env.locals->b∉X.fs->b∉ch->s.heap.get? b=some o->H b=none->h'.get? b=some o)
  (slot:∀b o,b≠X.env.locals->b∈X.fs->b∉ch->s.heap.get? b=some o->H b=none->∃sl,h'.get? b=some { o with slots:=sl }) (free:∀b o,b∉ch->s.heap.get? b=some o->H b=none->H' b=none)
  (there:∀b o,b∉ch->s.heap.get? b=some o->∃o',h'.get? b=some o')
  (gv:∀b xs,H b=some (.tup xs)->H' b=some (.tup xs)) (jL:∀b o u,H b=some (.dS o u)->H' b=some (.dS o u)) (kH:∀b ps,H b=some (.nt ps)->∃more,H' b=some (.nt (ps++more)))
  (ns:∀m,s.heap.Ns X.env.locals m->h'.Ns X.env.locals m) (aD:c8 X.prog X.w H' h') (hg:AllBare g') :
  Inv X pins O H' { s with heap:=h',gens:=g',drawn:=d',toks:=t' }:=by
 have Kk:∀b o,X.s₀.heap.get? b=some o->b≠X.env.locals:=λb o e=>bO (gM (bF e) I.ok.above)
 have zZ:∀b o,X.s₀.heap.get? b=some o->b∉X.ex->b∉ch:=λb o e hx hb=>by
  rcases(hch b hb).1 with z | z
  .exact hx z
  .exact absurd (gM (bF e) z) (sW _)
 have cellK:∀x c,X.env.cells.lookup x=some c->∀v,s.heap.IsCell c v->h'.IsCell c v:=λx c e v ⟨o,ho,hd⟩=>by
  have wF:c∉ch:=λz=>(hch c z).2.2.1 x c e rfl
  by_cases hc:c∈X.fs
  .obtain⟨sl,q⟩:=slot c o (I.qN x c e) hc wF ho (I.fJ x c e)
   exact⟨_,q,hd⟩
  .exact⟨o,keep c o (I.qN x c e) hc wF ho (I.fJ x c e),hd⟩
 refine⟨I.ok,I.os,hg,⟨λb o e n hb hx=>?_,λb o e n hb hx=>?_,λb o e n hx=>?_,λb o e hx=>?_,λb xs e=>gv b xs (I.base.gv b xs e),λb o xs e=>jL b o xs (I.base.jL b o xs e),λb ps e=>?_⟩,?_,λx c e=>?_,?_,λx c e=>?_,λp hp=>?_,aD,I.len⟩
 .exact keep b o (Kk b o e) hb (zZ b o e hx) (I.base.keep b o e n hb hx) (I.base.free b o e n hx)
 .obtain⟨sl,e1⟩:=I.base.slot b o e n hb hx
  obtain⟨qO,e2⟩:=slot b _ (Kk b o e) hb (zZ b o e hx) e1 (I.base.free b o e n hx)
  exact⟨qO,e2⟩
 .obtain⟨o',e1⟩:=I.base.there b o e hx
  exact free b o' (zZ b o e hx) e1 (I.base.free b o e n hx)
 .obtain⟨o',e1⟩:=I.base.there b o e hx
  exact there b o' (zZ b o e hx) e1
 .obtain⟨m1,e1⟩:=I.base.kH b ps e
  obtain⟨m2,e2⟩:=kH b _ e1
  exact⟨m1++m2,by rw[e2,Array.append_assoc]⟩
 .obtain⟨m,hn,hl⟩:=I.loc
  refine⟨m,ns m hn,λi x v e1 e2 e3=>?_⟩
  obtain⟨u,r,l⟩:=hl i x v e1 e2 e3
  refine⟨u,r,?_⟩
  rcases l with l | ⟨k,c,e,z⟩
  .exact .inl l
  .exact .inr ⟨k,c,e,cellK x c e _ z⟩
 .obtain⟨v,z⟩:=I.cell x c e
  exact⟨v,cellK x c e v z⟩
 .obtain⟨m,⟨o,_,_,ho,_⟩,_⟩:=I.loc
  exact free _ o (λz=>(hch _ z).2.1 rfl) ho I.free
 .obtain⟨v,o,ho,hd⟩:=I.cell x c e
  exact free c o (λz=>(hch c z).2.2.1 x c e rfl) ho (I.fJ x c e)
 .obtain⟨e,n,ne,nf,d⟩:=I.pin p hp
  have wF:p.1∉ch:=λz=>(hch p.1 z).2.2.2 p hp rfl
  exact⟨keep p.1 p.2 ne nf wF e n,free p.1 p.2 wF e n,ne,nf,d⟩
def Inv.un(I:Inv X pins O H s)(u:Un X.fs [] H H' s.heap h')(aD:c8 X.prog X.w H' h'):Inv X pins O H' { s with heap:=h',toks:=t' }:=by
 obtain⟨m,⟨o,es,ep,ho,r⟩,_⟩:=id I.loc
 obtain⟨sl,hL⟩:=u.any ho I.free (by simp)
 exact I.step (g':=s.gens) (d':=s.drawn) (ch:=[]) (λ_ z=>nomatch z) (λb o _ hb _ e n=>u.keep b o e n hb (by simp)) (λb o _ hb _ e n=>u.slot b o e n hb (by simp)) (λb o _ e n=>u.free b o e n (by simp)) (λb o _ e=>u.there b o e (by simp)) u.gv u.jL u.kH (λm' hm=>by
  obtain⟨o',iu,DA,kI,r'⟩:=hm
  rw[ho] at kI;cases kI
  exact⟨_,iu,DA,hL,r'⟩) aD I.bare
def Inv.call(I:Inv X pins O H s)(u:Un (jM X.stack) ch H H' s.heap h')(aD:c8 X.prog X.w H' h')(hg:AllBare g')
  (hch:∀b∈ch,(b∈X.ex\/X.s₀.heap.objs.size<=b)/\b≠X.env.locals/\(∀x c,X.env.cells.lookup x=some c->c≠b)/\∀p∈X.pn++pins,p.1≠b) :
  Inv X pins O H' { s with heap:=h',gens:=g',drawn:=d',toks:=t' }:=by
 obtain⟨m,⟨o,es,ep,ho,r⟩,_⟩:=id I.loc
 obtain⟨sl,hL⟩:=u.any ho I.free λz=>(hch _ z).2.1 rfl
 exact I.step (ch:=ch) hch (λb o hL hb hc e n=>u.keep b o e n (λz=>(b9.mp (I.wD b z)).elim hL hb) hc) (λb o _ _ hc e n=>u.any e n hc) (λb o hc e n=>u.free b o e n hc) (λb o hc e=>u.there b o e hc) u.gv u.jL u.kH (λm' hm=>by
  obtain⟨o',iu,DA,kI,r'⟩:=hm
  rw[ho] at kI;cases kI
  exact⟨_,iu,DA,hL,r'⟩) aD hg
def Inv.turned(I:Inv X pins O H s)(k:∀b o,b≠it->s.heap.get? b=some o->h'.get? b=some o)(hn:H it=none)(hL:it≠X.env.locals)
  (h1:it∈X.ex\/X.s₀.heap.objs.size<=it) (h2:∀x c,X.env.cells.lookup x=some c->c≠it) (h3:∀p∈X.pn++pins,p.1≠it):Inv X pins O H { s with heap:=h',toks:=t' }:=by
 have Kl:∀b u,H b=some u->b≠it:=λb u e z=>by rw[z,hn] at e;cases e
 refine I.step (g':=s.gens) (d':=s.drawn) (ch:=[it]) (λb hb=>?_) (λb o _ _ hc e _=>k b o (λz=>hc (by simp[z])) e) (λb o _ _ hc e _=>⟨o.slots,k b o (λz=>hc (by simp[z])) e⟩) (λ_ _ _ _ n=>n)
  (λb o hc e=>⟨o,k b o (λz=>hc (by simp[z])) e⟩) (λ_ _ e=>e) (λ_ _ _ e=>e) (λb ps e=>⟨#[],by rw[e];simp⟩) (λm hm=>?_) (λb u e=>?_) I.bare
 .have e:b=it:=by simpa using hb
  subst e
  exact⟨h1,hL,h2,h3⟩
 .obtain⟨o,es,ep,ho,r⟩:=hm
  exact⟨o,es,ep,k _ o (bu hL) ho,r⟩
 .refine(I.aD b u e).kG (λc v hc q=>k c v ?_ q) (λ_ q=>q) λ_ _ q=>q
  rcases hc with z | z
  .rw[z];exact Kl b u e
  .exact Kl c _ z
def Inv.tok(I:Inv X pins O H s)(t:Nat):Inv X pins O H { s with toks:=t }:=I.un (h':=s.heap) (t':=t) Un.refl I.aD
theorem Inv.kept{t':Nat}(I:Inv X pins O H s)(k:∀b u,s.heap.get? b=some u->h'.get? b=some u):Inv X pins O H { s with heap:=h',toks:=t' }:=I.un (Un.kept k) (I.aD.kept k)
theorem Inv.laid{a:Addr}{o:HO}{t':Nat}(I:Inv X pins O H s)(k:∀b u,s.heap.get? b=some u->h'.get? b=some u)(hp:s.heap.objs.size<=a)(new:cO X.prog X.w (upd H a o) h' a o) :
  Inv X pins O (upd H a o) { s with heap:=h',toks:=t' }:=I.un (Un.laid k hp (I.aD.fresh hp)) (I.aD.laid k hp new)
theorem Inv.write{x e:Addr}{o:HO}{t':Nat}(I:Inv X pins O H s)(mu:wz (H x))(he:e=x\/H e=some (.own x))(k:∀b u,b≠e->s.heap.get? b=some u->h'.get? b=some u)(tH:∃u,h'.get? e=some u)
  (new:cO X.prog X.w (upd H x o) h' x o):Inv X pins O (upd H x o) { s with heap:=h',toks:=t' }:=I.un (Un.write mu he k tH) (I.aD.write mu he k tH new)
def Inv.z7(I:Inv X pins O H s)(h:∀p∈z9,s.heap.get? p.1=some p.2/\H p.1=none/\p.1≠X.env.locals/\p.1∉X.fs/\∀v,p.2.data ≠ .cell v):Inv X z9 O H s:=
 ⟨I.ok,I.os,I.bare,I.base,I.loc,I.cell,I.free,I.fJ,λp hp=>(cX.mp hp).elim (λz=>I.pin p (jg _ z)) (h p),I.aD,I.len⟩
def Km(hN:N.Nodup)(a:N[i]? = some x)(b:N[j]? = some x):i=j:=by
 obtain⟨h1,e1⟩:=bP.mp a
 obtain⟨h2,e2⟩:=bP.mp b
 exact(List.getElem_inj hN).mp (e1.trans e2.symm)
def To{Q:Unit->Shared->Prop}(I:Inv X pins O H s)(hN:X.N.Nodup)(hi:X.N[i]? = some x)(hx:Loc X.env.scope x)(r:RelV v u)
  (h:∀s',Inv X pins (O.set i (some v)) H s'->(∃a,Heap.SameBut a s.heap s'.heap/\(a=X.env.locals\/X.env.cells.lookup x=some a))->Q () s') (hf:X.fn x=true\/X.env.scope.names.lookup x=some .local:=by first | exact .inl rfl | exact .inr rfl | assumption):wpAny M A (storeName X.env x u) Q E s:=by
 obtain⟨m,hn,hl⟩:=id I.loc
 have Tp:(X.env.scope.kind == .class||(X.env.scope.kind == .module&&X.env.locals != X.env.globals))=false:=by rw[I.ok.kind];rfl
 have Kn:i<O.length:=by rw[I.len];exact(bP.mp hi).1
 have qN:=I.qN
 have tracked:∀{a:Addr}{h':Heap},(∃o,s.heap.get? a=some o/\H a=none)->Heap.SameBut a s.heap h'->c8 X.prog X.w H h':=λ{a h'} ha hs b ob e=>by
  obtain⟨_,_,Ko⟩:=ha
  refine(I.aD b ob e).kG (λc w' hc q=>(hs.2 c ?_).trans q) (λ_ q=>q) λ_ _ q=>q
  rintro rfl
  rcases hc with rfl | hc
  .rw[Ko] at e;cases e
  .rw[Ko] at hc;cases hc
 rcases hx with hk | hk
 .refine wpAny_storeName_local hk hn (λh' tI hs=>?_) Tp
  obtain⟨oL,_,_,wG,_⟩:=id hn
  refine h _ ⟨I.ok,I.os,I.bare,⟨λb o e n hb hx=>?_,λb o e n hb hx=>?_,I.base.free,λb o e hx=>?_,I.base.gv,I.base.jL,I.base.kH⟩,⟨_,tI,λj y v' e1 e2 e3=>?_⟩,λy c e=>?_,I.free,I.fJ,λp hp=>?_,tracked ⟨oL,wG,I.free⟩ hs,by simpa using I.len⟩ ⟨_,hs,.inl rfl⟩
  .exact(hs.2 b (bO (gM (bF e) I.ok.above))).trans (I.base.keep b o e n hb hx)
  .obtain⟨sl,e1⟩:=I.base.slot b o e n hb hx
   exact⟨sl,(hs.2 b (bO (gM (bF e) I.ok.above))).trans e1⟩
  .obtain⟨o',e1⟩:=I.base.there b o e hx
   exact⟨o',(hs.2 b (bO (gM (bF e) I.ok.above))).trans e1⟩
  .by_cases hj:j=i
   .subst hj
    rw[hi] at e1;cases e1
    rw[vU Kn] at e2
    cases e2
    exact⟨u,r,.inl ⟨hk,by simp⟩⟩
   .rw[zm (bu hj)] at e2
    obtain⟨u',r',q⟩:=hl j y v' e1 e2 e3
    refine⟨u',r',?_⟩
    rcases q with ⟨k,e⟩ | ⟨k,c,e,z⟩
    .refine .inl ⟨k,?_⟩
     have:y≠x:=λe=>hj (Km hN e1 (e ▸ hi))
     simp[this,e]
    .exact .inr ⟨k,c,e,z.sameBut hs (qN y c e)⟩
  .obtain⟨w',z⟩:=I.cell y c e
   exact⟨w',z.sameBut hs (qN y c e)⟩
  .obtain⟨e,n,ne,nf,d⟩:=I.pin p hp
   exact⟨(hs.2 p.1 ne).trans e,n,ne,nf,d⟩
 .have DB:X.fn x=true:=by
   rcases hf with z | z
   .exact z
   .rw[z] at hk;cases hk
  obtain⟨c,hc⟩:=I.ok.has x (.inl hk)
  obtain⟨w',z⟩:=I.cell x c hc
  refine wpAny_storeName_cell I.ok.kind hk hc z (λh' tJ hs=>?_)
  obtain⟨oc,o8,Tq⟩:=id z
  refine h { s with heap:=h' } ⟨I.ok,I.os,I.bare,⟨λb o e n hb hx=>?_,λb o e n hb hx=>?_,I.base.free,λb o e hx=>?_,I.base.gv,I.base.jL,I.base.kH⟩,⟨m,hn.sameBut hs (bu (qN x c hc)),λj y v' e1 e2 e3=>?_⟩,λy c' e=>?_,I.free,I.fJ,λp hp=>?_,tracked ⟨oc,o8,I.fJ x c hc⟩ hs,by simpa using I.len⟩ ⟨c,hs,.inr hc⟩
  .exact(hs.2 b (bO (gM (bF e) (I.ok.wB x c DB hc)))).trans (I.base.keep b o e n hb hx)
  .obtain⟨sl,e1⟩:=I.base.slot b o e n hb hx
   exact⟨sl,(hs.2 b (bO (gM (bF e) (I.ok.wB x c DB hc)))).trans e1⟩
  .obtain⟨o',e1⟩:=I.base.there b o e hx
   exact⟨o',(hs.2 b (bO (gM (bF e) (I.ok.wB x c DB hc)))).trans e1⟩
  .by_cases hj:j=i
   .subst hj
    rw[hi] at e1;cases e1
    rw[vU Kn] at e2
    cases e2
    exact⟨u,r,.inr ⟨.inl hk,c,hc,tJ⟩⟩
   .rw[zm (bu hj)] at e2
    obtain⟨u',r',q⟩:=hl j y v' e1 e2 e3
    refine⟨u',r',?_⟩
    rcases q with q | ⟨k,c',e,z'⟩
    .exact .inl q
    .refine .inr ⟨k,c',e,z'.sameBut hs ?_⟩
     rintro rfl
     exact hj (Km hN e1 (I.ok.inj _ _ _ e hc ▸ hi))
  .by_cases hcc:c'=c
   .subst hcc;exact⟨_,tJ⟩
   .obtain⟨w2,z2⟩:=I.cell y c' e
    exact⟨w2,z2.sameBut hs hcc⟩
  .obtain⟨e,n,ne,nf,d⟩:=I.pin p hp
   refine⟨(hs.2 p.1 ?_).trans e,n,ne,nf,d⟩
   intro q
   rw[q,o8] at e
   have q':oc=p.2:=dm e
   exact d w' (by rw[<-q'];exact Tq)
def DC{Q:Unit->Shared->Prop}(I:Inv X pins O H s)(hN:X.N.Nodup)(hi:X.N[i]? = some x)(hx:Loc X.env.scope x)(r:RelV v u)
  (h:∀s',Inv X pins (O.set i (some v)) H s'->Q () s') (hf:X.fn x=true\/X.env.scope.names.lookup x=some .local:=by first | exact .inl rfl | exact .inr rfl | assumption):wpAny M A (storeName X.env x u) Q E s:=
 To I hN hi hx r (λs' I' _=>h s' I') hf
def Inv.Aa(I:Inv X pins O H s)(ho:s'.os=s.os)(u:Un (jM X.stack) ch H H' s.heap s'.heap)(aD:c8 X.prog X.w H' s'.heap)(hg:AllBare s'.gens)
  (hch:∀b∈ch,(b∈X.ex\/X.s₀.heap.objs.size<=b)/\b≠X.env.locals/\(∀x c,X.env.cells.lookup x=some c->c≠b)/\∀p∈X.pn++pins,p.1≠b):Inv X pins O H' s':=by
 obtain⟨h',g',d',t',o'⟩:=s'
 have e:o'=s.os:=ho
 subst e
 exact I.call (g':=g') (t':=t') (d':=d') u aD hg hch
end
abbrev XK:=Value->Option Addr->Hp->Prop
abbrev St:=List (Option V)
abbrev VK:=V->Hp->Prop
abbrev TE:=St->Hp->VK->Prop
abbrev TT:=St->Hp->(Bool->Hp->Prop)->Prop
abbrev TA:=St->Hp->(List V->Hp->Prop)->Prop
structure Ends where
 nx:St->Hp->Prop
 rt:VK
 bk:St->Hp->Prop:=λ_ _=>False
 ct:St->Hp->Prop:=λ_ _=>False
abbrev TS:=Ends->St->Hp->Prop
def EP(X:Cx)(pins:List (Addr×Obj))(O:St)(Q:VK)(u:Value)(s':Shared):Prop := ∃v H',Inv X pins O H' s'/\RelV v u/\Q v H'
def TP(X:Cx)(pins:List (Addr×Obj))(O:St)(Q:Bool->Hp->Prop)(b:Bool)(s':Shared):Prop := ∃H',Inv X pins O H' s'/\Q b H'
def AP(X:Cx)(pins:List (Addr×Obj))(O:St)(Q:List V->Hp->Prop)(us:List Value)(s':Shared):Prop := ∃vs H',Inv X pins O H' s'/\Vals vs us/\Q vs H'
def SP(X:Cx)(pins:List (Addr×Obj))(D:Ends)(f:Flow)(s':Shared):Prop:=
 match f with
 |.next=>∃O' H',Inv X pins O' H' s'/\D.nx O' H'
 |.brk=>∃O' H',Inv X pins O' H' s'/\D.bk O' H'
 |.cont=>∃O' H',Inv X pins O' H' s'/\D.ct O' H'
 |.ret u=>∃v O' H',Inv X pins O' H' s'/\RelV v u/\D.rt v H'
def PE(X:Cx)(e:Expr)(t:TE):Prop:=
 ∀(pins:List (Addr×Obj)) (s:Shared) (O:St) (H:Hp) (Q:VK),Inv X pins O H s->t O H Q->wpAny (model X.prog X.w) X.A (eval e X.env) (EP X pins O Q) X.xe s
def PT(X:Cx)(e:Expr)(t:TT):Prop:=
 ∀(pins:List (Addr×Obj)) (s:Shared) (O:St) (H:Hp) (Q:Bool->Hp->Prop),Inv X pins O H s->t O H Q->wpAny (model X.prog X.w) X.A (isTrue e X.env (eval e X.env)) (TP X pins O Q) X.xe s
def PW(X:Cx)(e:Expr)(t:TT):Prop:=
 ∀(whole:Sem Value) (pins:List (Addr×Obj)) (s:Shared) (O:St) (H:Hp) (Q:Bool->Hp->Prop),Inv X pins O H s->t O H Q->wpAny (model X.prog X.w) X.A (isTrue e X.env whole) (TP X pins O Q) X.xe s
def PW.pt{t:TT}(h:PW X e t):PT X e t:=h _
def PA(X:Cx)(es:List Expr)(t:TA):Prop:=
 ∀(pos:Pos) (pins:List (Addr×Obj)) (s:Shared) (O:St) (H:Hp) (Q:List V->Hp->Prop),Inv X pins O H s->t O H Q->wpAny (model X.prog X.w) X.A (spliced (backTo pos (starEach es X.env))) (AP X pins O Q) X.xe s
def PS(X:Cx)(st:Stmt)(t:TS):Prop:=
 ∀(pins:List (Addr×Obj)) (s:Shared) (O:St) (H:Hp) (D:Ends),Inv X pins O H s->t D O H->wpAny (model X.prog X.w) X.A (exec st X.env) (SP X pins D) X.xe s
def iw(X:Cx)(st:List Stmt)(t:TS):Prop:=
 ∀(pins:List (Addr×Obj)) (s:Shared) (O:St) (H:Hp) (D:Ends),Inv X pins O H s->t D O H->wpAny (model X.prog X.w) X.A (execs st X.env) (SP X pins D) X.xe s
def aE{t:Sem α}{Q Q':α->Shared->Prop}(h:wpAny M A t Q E s)(hQ:∀a s,Q a s->Q' a s):wpAny M A t Q' E s:=jE h hQ λ_ _ x=>x
section
variable{X:Cx}
def Kq(i:Nat):TE:=λO H Q=>∃v,O[i]? = some (some v)/\Q v H
def tC(v:V):TE:=λ_ H Q=>Q v H
def Tr(hN:X.N[i]? = some x)(hv:Dz X.env.scope x)(hd:(x==("__debug__":Str))=false:=by decide)(iV:(x==("__classdict__":Str))=false:=by decide):PE X (.Name x pos) (Kq i):=by
 intro pins s O H Q I h
 obtain⟨v,e,h⟩:=h
 obtain⟨m,hn,hl⟩:=I.loc
 obtain⟨u,r,l⟩:=hl i x v hN e hv
 have fin:EP X pins O Q u s:=⟨v,H,I,r,h⟩
 rcases l with ⟨hk,hm⟩ | ⟨hk,c,hc,Kr⟩
 .exact wpAny_Name (wpAny_loadName_local I.ok.kind hk hn hm fin) hd
 .rcases hk with hk | hk
  .exact wpAny_Name (wpAny_loadName_cell I.ok.kind hk hc Kr fin) hd
  .exact wpAny_Name (wpAny_loadName_free I.ok.kind hk hc Kr fin iV) hd
def aJ{i j pos}:PE X (.Constant (.int i) j pos) (tC (.int i)):=λ_ _ _ H _ I h=>wpAny_Constant_int ⟨.int i,H,I.tok _,⟨_,rfl⟩,h⟩
def gh{b j pos}:PE X (.Constant (.bool b) j pos) (tC (.bl b)):=λ_ _ _ H _ I h=>Constant_bool ⟨.bl b,H,I,rfl,h⟩
def lS{j pos}:PE X (.Constant .none j pos) (tC .aB):=λ_ _ _ H _ I h=>Constant_none ⟨.aB,H,I,rfl,h⟩
def dM{x j pos}:PE X (.Constant (.str x) j pos) (tC (.str x)):=λ_ _ _ H _ I h=>Calls.Constant_str ⟨.str x,H,I.tok _,⟨_,rfl⟩,h⟩
def Gl(X:Cx)(x:Str):Prop:=X.env.kindOf x=some .globalImplicit
def wH(I:Inv X pins O H s)(hg:Gl X x)(hm:X.mg x=some u)(h:Q u s)
  (hd:(x==("__debug__":Str))=false:=by decide):wpAny (model X.prog X.w) X.A (eval (.Name x pos) X.env) Q E s:=
 Calls.Name_function_global I.ok.kind hg (Calls.loadGlobal_global (by rw[I.ok.glob];exact I.mod.glob.keeps I.bk) hm h) hd
def o9(I:Inv X pins O H s)(hg:Gl X x)(hm:X.mg x=none)(hv:bootBuiltins x=some u)(h:Q u s)
  (hn:x≠"__name__":=by decide) (hd:(x==("__debug__":Str))=false:=by decide):wpAny (model X.prog X.w) X.A (eval (.Name x pos) X.env) Q E s:=by
 obtain⟨mb,h1,h2⟩:=I.mod.blt
 exact Calls.Name_function_global I.ok.kind hg (Calls.loadGlobal_builtin (by rw[I.ok.glob];exact I.mod.glob.keeps I.bk) hm (by rw[I.ok.blt];exact h1.keeps I.bk) ((h2 x hn).trans hv) h) hd
def Ts(hg:Gl X x)(hm:X.mg x=some u)(r:RelV v u)(hd:(x==("__debug__":Str))=false:=by decide):PE X (.Name x pos) (tC v):=
 λ_ _ _ H _ I h=>wH I hg hm ⟨v,H,I,r,h⟩ hd
def tK(hg:Gl X x)(hm:X.mg x=none)(hv:bootBuiltins x=some u)(r:RelV v u)(hn:x≠"__name__":=by decide)(hd:(x==("__debug__":Str))=false:=by decide):PE X (.Name x pos) (tC v):=
 λ_ _ _ H _ I h=>o9 I hg hm hv ⟨v,H,I,r,h⟩ hn hd
variable{a b:Expr}{ta tb:TE}{pos:Pos}
def PC(X:Cx)(op:CmpOp)(a b:Expr)(t:TE):Prop:=
 ∀(pins:List (Addr×Obj)) (s:Shared) (O:St) (H:Hp) (Q:VK),Inv X pins O H s->t O H Q->
  wpAny (model X.prog X.w) X.A (eval a X.env) (λv s₁=>wpAny (model X.prog X.w) X.A (eval b X.env) (λu s₂=>wpAny (model X.prog X.w) X.A (compareOp op v u) (EP X pins O Q) X.xe s₂) X.xe s₁) X.xe s
def tB(t:TE):TT:=λO H Q=>t O H λx H1=>∃c,x = .bl c/\Q c H1
def Ab{op:CmpOp}{t:TE}(h:PC X op a b t)(h1:behindInMarks op b=false:=by first | exact agJ _ (by decide) (by decide) | rfl):PT X (.Compare a [op] [b] pos) (tB t):=by
 intro pins s O H Q I hw
 refine wpAny_isTrue_Compare1 (aE (h pins s O H _ I hw) λv s1 h1=>aE h1 λu s2 h2=>aE h2 λc s3 ⟨x,H1,I1,r1,q1⟩=>?_) h1
 obtain⟨d,rfl,q⟩:=q1
 cases r1
 exact oJ ⟨H1,I1,q⟩
def fK{t:TE}(h:PE X e t)(he:∀whole,isTrue e X.env whole=(do let v<-whole;standAt e.pos;holding [v] (truthy v)):=by intro _;rfl):PT X e (tB t):=by
 intro pins s O H Q I hw
 refine isTrue_plain (aE (h pins s O H _ I hw) λv s1 ⟨x,H1,I1,r1,q1⟩=>?_) (he _)
 obtain⟨d,rfl,q⟩:=q1
 cases r1
 exact oJ ⟨H1,I1,q⟩
variable{tA Ac:TT}{rest:List Expr}
def Tt(t u:TT):TT:=λO H Q=>t O H λc H1=>if c=true then u O H1 Q else Q false H1
def Tu(t u:TT):TT:=λO H Q=>t O H λc H1=>if c=true then Q true H1 else u O H1 Q
def Tv(t:TT):TT:=λO H Q=>t O H λc H1=>Q (!c) H1
def Ad(ha:PT X a tA):PW X (.BoolOp .And [a] pos) tA:=by
 intro wh pins s O H Q I h
 refine isTrue_and (aE (ha pins s O H Q I h) λc s1 e=>?_)
 cases c with
 |true=>exact isTrue_and_nil e
 |false=>exact e
def jN(ha:PT X a tA):PW X (.BoolOp .Or [a] pos) tA:=by
 intro wh pins s O H Q I h
 refine isTrue_or (aE (ha pins s O H Q I h) λc s1 e=>?_)
 cases c with
 |false=>exact isTrue_or_nil e
 |true=>exact e
def Ae(ha:PT X a tA)(hb:PW X (.BoolOp .And (b::rest) pos) Ac):PW X (.BoolOp .And (a::b::rest) pos) (Tt tA Ac):=by
 intro wh pins s O H Q I h
 refine isTrue_and (aE (ha pins s O H _ I h) λc s1 ⟨H1,I1,q1⟩=>?_)
 cases c with
 |true=>exact hb wh pins s1 O H1 Q I1 q1
 |false=>exact⟨H1,I1,q1⟩
def jl(ha:PT X a tA)(hb:PW X (.BoolOp .Or (b::rest) pos) Ac):PW X (.BoolOp .Or (a::b::rest) pos) (Tu tA Ac):=by
 intro wh pins s O H Q I h
 refine isTrue_or (aE (ha pins s O H _ I h) λc s1 ⟨H1,I1,q1⟩=>?_)
 cases c with
 |true=>exact⟨H1,I1,q1⟩
 |false=>exact hb wh pins s1 O H1 Q I1 q1
def gT(ha:PT X a tA):PT X (.UnaryOp .Not a pos) (Tv tA):=by
 intro pins s O H Q I h
 exact isTrue_not (ha pins s O H (λc H1=>Q (!c) H1) I h)
def Tw(ta tb:TE):TE:=λO H Q=>ta O H λx H1=>∃c,x = .bl c/\if c=true then tb O H1 Q else Q (.bl false) H1
def Ks{op}{t:TE}(h:PE X a t):PE X (.BoolOp op [a] pos) t:=λpins s O H Q I hw=>BoolOp_one (h pins s O H Q I hw)
def Kt(ha:PE X a ta)(hb:PE X (.BoolOp .And (b::rest) pos) tb):PE X (.BoolOp .And (a::b::rest) pos) (Tw ta tb):=by
 intro pins s O H Q I h
 refine BoolOp_and (aE (ha pins s O H _ I h) λv s1 ⟨x,H1,I1,r1,q1⟩=>?_)
 obtain⟨c,rfl,q1⟩:=q1
 cases r1
 refine oJ ?_
 cases c with
 |true=>exact hb pins s1 O H1 Q I1 q1
 |false=>exact⟨.bl false,H1,I1,rfl,q1⟩
def Tx(t:TT)(ta tb:TE):TE:=λO H Q=>t O H λc H1=>if c=true then ta O H1 Q else tb O H1 Q
def Tz(hc:PT X c tA)(ha:PE X a ta)(hb:PE X b tb):PE X (.IfExp c a b pos) (Tx tA ta tb):=by
 intro pins s O H Q I h
 refine wpAny_IfExp (aE (hc pins s O H _ I h) λd s1 ⟨H1,I1,q1⟩=>?_)
 cases d with
 |true=>exact ha pins s1 O H1 Q I1 q1
 |false=>exact hb pins s1 O H1 Q I1 q1
end
def ak(K:Frag)(H:Hp)(a:Addr)(xs:List V):Prop:=
 Rd H a (.lst xs)\/
  ∃(o:Obj) (its:Array Value) (n:Nat),K.lookup a=some o/\o.cls = .type "list"/\o.dict=none/\o.data = .seq its n/\its.size<=sizeLine/\Vals xs its.toList
def ax(K:Frag)(H:Hp)(a:Addr)(xs:List V):Prop:=
 Rd H a (.tup xs)\/
  ∃(o:Obj) (its:Array Value) (n:Nat),K.lookup a=some o/\o.cls = .type "tuple"/\o.data = .seq its n/\its.size<=sizeLine/\Vals xs its.toList
noncomputable def TC:Value->Option V
 |.none=>some .aB
 |.bool b=>some (.bl b)
 |.int i _=>some (.int i)
 |.str x _=>some (.str x)
 |.bytes b _=>some (.iU b)
 |.float b _=>some (.qJ b)
 |.ref a=>some (.ref a)
 |.type n=>some (.ty n)
 |_=>none
def RelV.abs{x:V}(r:RelV x u):TC u=some x:=by
 cases x with
 |aB=>cases r;rfl
 |bl _=>cases r;rfl
 |int _=>obtain⟨t,rfl⟩:=r;rfl
 |str _=>obtain⟨t,rfl⟩:=r;rfl
 |iU _=>obtain⟨t,rfl⟩:=r;rfl
 |qJ _=>obtain⟨t,rfl⟩:=r;rfl
 |ref _=>cases r;rfl
 |ty _=>cases r;rfl
def RelV.inj{x:V}(r:RelV x u)(q:RelV y u):x=y:=dm (r.abs.symm.trans q.abs)
theorem Vals.inj:∀{xs ys:List V}{us:List Value},Vals xs us->Vals ys us->xs=ys
 |_,_,_,.nil,.nil=>rfl
 |_,_,_,.cons r t,.cons r' t'=>by rw[r.inj r',Vals.inj t t']
section
variable{X:Cx}{pins:List (Addr×Obj)}{O:St}{H:Hp}{s:Shared}{a:Addr}{xs ys:List V}
def ak.of(h:H a=some (.lst xs)):ak K H a xs := .inl (.inl h)
def ax.of(h:H a=some (.tup xs)):ax K H a xs := .inl (.inl h)
theorem Inv.list(I:Inv X pins O H s)(h:ak X.K H a xs):∃its:List Value,Vals xs its/\PlainL s.heap a its.toArray/\xs.length<=sizeLine:=by
 rcases h with h | ⟨o,its,n,hk,hc,hd,hs,hz,r⟩
 .obtain⟨z,its,n,r,e⟩:=h.ok I.aD
  exact⟨its,r,⟨_,n,e,rfl,rfl,rfl⟩,z⟩
 .refine⟨its.toList,r,⟨o,n,I.cY a o hk,hc,hd,by simpa using hs⟩,?_⟩
  have e:=r.length
  simp only[fB] at e
  lia
theorem Inv.tuple(I:Inv X pins O H s)(h:ax X.K H a xs):∃its:List Value,Vals xs its/\IsTup s.heap a its.toArray/\xs.length<=sizeLine:=by
 rcases h with h | ⟨o,its,n,hk,hc,hs,hz,r⟩
 .obtain⟨z,its,r,p⟩:=h.ok I.aD
  exact⟨its,r,p,z⟩
 .refine⟨its.toList,r,⟨o,I.cY a o hk,hc,n,by simpa using hs⟩,?_⟩
  have e:=r.length
  simp only[fB] at e
  lia
def Inv.DD(I:Inv X pins O H s)(h:ak X.K H a xs)(h':ak X.K H a ys):xs=ys:=by
 obtain⟨its,r,⟨o,n,e,_,_,d⟩,_⟩:=I.list h
 obtain⟨cu,r',⟨o',n',e',_,_,d'⟩,_⟩:=I.list h'
 rw[e] at e';cases e'
 rw[d] at d'
 injection d' with d1 _
 have:its=cu:=by simpa using eX Array.toList d1
 subst this
 exact r.inj r'
def Inv.DE(I:Inv X pins O H s)(h:ax X.K H a xs)(h':ax X.K H a ys):xs=ys:=by
 obtain⟨its,r,⟨o,e,_,n,d⟩,_⟩:=I.tuple h
 obtain⟨cu,r',⟨o',e',_,n',d'⟩,_⟩:=I.tuple h'
 rw[e] at e';cases e'
 rw[d] at d'
 injection d' with d1 _
 have:its=cu:=by simpa using eX Array.toList d1
 subst this
 exact r.inj r'
end
noncomputable abbrev Cx.lT(X:Cx)(E:Value->Shared->Prop):Cx:={ X with xe:=E }
noncomputable abbrev Cx.qP(X:Cx):Cx:=X.lT λ_ _=>False
theorem Cx.Ok.lT(ok:X.Ok)(E:Value->Shared->Prop):(X.lT E).Ok:=
 ⟨ok.mod,ok.kind,ok.glob,ok.blt,ok.above,ok.inj,ok.has,ok.wB,ok.hd,ok.frames,ok.zX,ok.Ki,ok.bs,ok.ny,ok.qM,ok.zY,ok.jk,ok.oZ⟩
def Cx.Ok.pe(ok:(X.lT E).Ok):X.Ok:=
 ⟨ok.mod,ok.kind,ok.glob,ok.blt,ok.above,ok.inj,ok.has,ok.wB,ok.hd,ok.frames,ok.zX,ok.Ki,ok.bs,ok.ny,ok.qM,ok.zY,ok.jk,ok.oZ⟩
section
variable{X:Cx}{pins:List (Addr×Obj)}{O:St}{H:Hp}{s:Shared}{E:Value->Shared->Prop}
theorem Inv.lT(I:Inv X pins O H s)(E:Value->Shared->Prop):Inv (X.lT E) pins O H s:=⟨I.ok.lT E,I.os,I.bare,I.base,I.loc,I.cell,I.free,I.fJ,I.pin,I.aD,I.len⟩
theorem Inv.pe(I:Inv (X.lT E) pins O H s):Inv X pins O H s:=⟨I.ok.pe,I.os,I.bare,I.base,I.loc,I.cell,I.free,I.fJ,I.pin,I.aD,I.len⟩
theorem SP.pe{D:Ends}{f:Flow}{s':Shared}(h:SP (X.lT E) pins D f s'):SP X pins D f s':=by
 cases f with
 |next=>obtain⟨O',H',I,q⟩:=h;exact⟨O',H',I.pe,q⟩
 |brk=>obtain⟨O',H',I,q⟩:=h;exact⟨O',H',I.pe,q⟩
 |cont=>obtain⟨O',H',I,q⟩:=h;exact⟨O',H',I.pe,q⟩
 |ret u=>obtain⟨v,O',H',I,r,q⟩:=h;exact⟨v,O',H',I.pe,r,q⟩
theorem iw.qP{t:TS}(h:iw X.qP st t):iw X st t:=λpins s O H D I hw=>
 jE (h pins s O H D (I.lT _) hw) (λ_ _ q=>q.pe) λ_ _ z=>False.elim z
end
section
variable{X:Cx}{st:Stmt}{rest:List Stmt}{t u:TS}{e:Expr}{te:TE}{pos:Pos}
def TF:TS:=λD O H=>D.nx O H
def TH(t u:TS):TS:=λD O H=>t { D with nx:=u D } O H
def bX:iw X [] TF:=λ_ _ O H _ I h=>JE ⟨O,H,I,h⟩
def aw(h1:PS X st t)(h2:iw X rest u):iw X (st::rest) (TH t u):=by
 intro pins s O H D I h
 refine wpAny_execs_cons (aE (h1 pins s O H { D with nx:=u D } I h) λf s1 q=>?_)
 cases f with
 |next=>
  obtain⟨O',H',I',q⟩:=q
  exact h2 pins s1 O' H' D I' q
 |ret v=>exact q
 |brk=>exact q
 |cont=>exact q
def az(h1:PS X st t):iw X [st] t:=by
 intro pins s O H D I h
 refine wpAny_execs_cons (aE (h1 pins s O H D I h) λf s1 q=>?_)
 cases f with
 |next=>exact JE q
 |ret v=>exact q
 |brk=>exact q
 |cont=>exact q
def Inv.quiet(I:Inv X pins O H s):interactive X.env=false:=by simp[interactive,I.ok.kind]
def TJ(te:TE):TS:=λD O H=>te O H λ_ H1=>D.nx O H1
def eZ(he:PE X e te)(hs:swapsWith e none pos.line X.env=pure false:=by rfl):PS X (.Expr e pos) (TJ te):=by
 intro pins s O H D I h
 exact wpAny_Expr_any (aE (he pins s O H _ I h) λv s1 ⟨x,H1,I1,r1,q1⟩=>⟨O,H1,I1,q1⟩) I.quiet hs
def TK(te:TE):TS:=λD O H=>te O H D.rt
def aW(he:PE X e te):PS X (.Return (some e) pos) (TK te):=by
 intro pins s O H D I h
 exact wpAny_Return_some (aE (he pins s O H _ I h) λv s1 ⟨x,H1,I1,r1,q1⟩=>⟨x,O,H1,I1,r1,q1⟩)
def TL(c:TT)(t u:TS):TS:=λD O H=>c O H λb H1=>if b=true then t D O H1 else u D O H1
def bS{a b:List Stmt}(hc:PT X c tc)(ha:iw X a t)(hb:iw X b u):PS X (.If c a b pos) (TL tc t u):=by
 intro pins s O H D I h
 refine wpAny_If (aE (hc pins s O H _ I h) λd s1 ⟨H1,I1,q1⟩=>?_)
 cases d with
 |true=>exact ha pins s1 O H1 D I1 q1
 |false=>exact hb pins s1 O H1 D I1 q1
def TM:TS:=λ_ _ _=>False
def wI:PS X st TM:=λ_ _ _ _ _ _ h=>h.elim
end
abbrev TG:=V->St->Hp->(St->Hp->Prop)->Prop
abbrev qQ:=List V->St->Hp->(St->Hp->Prop)->Prop
def PG(X:Cx)(target:Expr)(t:TG):Prop:=
 ∀(pins:List (Addr×Obj)) (s:Shared) (O:St) (H:Hp) (v:V) (u:Value) (Q:St->Hp->Prop),Inv X pins O H s->RelV v u->t v O H Q->
  wpAny (model X.prog X.w) X.A (assign target X.env u) (λ_ s' =>∃O' H',Inv X pins O' H' s'/\Q O' H') X.xe s
def Af(X:Cx)(ts:List Expr)(t:qQ):Prop:=
 ∀(pins:List (Addr×Obj)) (s:Shared) (O:St) (H:Hp) (vs:List V) (us:List Value) (Q:St->Hp->Prop),Inv X pins O H s->Vals vs us->t vs O H Q->
  wpAny (model X.prog X.w) X.A (assignInOrder ((assignEach ts X.env).map (·.2)) us) (λ_ s' =>∃O' H',Inv X pins O' H' s'/\Q O' H') X.xe s
abbrev DF:=V->V->V->Hp->(Hp->Prop)->Prop
def Ku(X:Cx)(t:DF):Prop:=
 ∀(pins:List (Addr×Obj)) (s:Shared) (O:St) (H:Hp) (o i v:V) (ov iv u:Value) (Q:Hp->Prop),Inv X pins O H s->RelV o ov->RelV i iv->RelV v u->t o i v H Q->
  wpAny (model X.prog X.w) X.A (setItem ov iv u) (λ_ s' =>∃H',Inv X pins O H' s'/\Q H') X.xe s
section
variable{X:Cx}{pos:Pos}
def qR(i:Nat):TG:=λv O H Q=>Q (O.set i (some v)) H
def bK(i:Nat)(hN:X.N.Nodup)(hi:X.N[i]? = some x:=by rfl)(hx:Loc X.env.scope x:=by first | exact .inl rfl | exact .inr rfl)(hf:X.fn x=true\/X.env.scope.names.lookup x=some .local:=by first | exact .inl rfl | exact .inr rfl | assumption):PG X (.Name x pos) (qR i):=by
 intro pins s O H v u Q I r h
 exact wpAny_assign_Name (DC I hN hi hx r (λs' I'=>⟨_,H,I',h⟩) hf)
def Kv:qQ:=λvs O H Q=>vs=[]/\Q O H
def DG(t:TG)(u:qQ):qQ:=λvs O H Q=>∃v r,vs=v::r/\t v O H λO' H'=>u r O' H' Q
def jm:Af X [] Kv:=by
 intro pins s O H vs us Q I r h
 obtain⟨e,h⟩:=h
 subst e
 cases r
 exact assignInOrder_nil ⟨O,H,I,h⟩
def dG{t:TG}{u:qQ}(h1:PG X e t)(h2:Af X es u)
  (hs:(assignEach (e::es) X.env).map (·.2)=assign e X.env::(assignEach es X.env).map (·.2):=by rfl):Af X (e::es) (DG t u):=by
 intro pins s O H vs us Q I r h
 obtain⟨v,vr,e1,h⟩:=h
 subst e1
 cases r with
 |cons r rr=>
  rw[hs]
  refine assignInOrder_cons (aE (h1 pins s O H _ _ _ I r h) λ_ s1 ⟨O1,H1,I1,q1⟩=>?_)
  exact h2 pins s1 O1 H1 _ _ Q I1 rr q1
def Kw(K:Frag)(n:Nat)(t:qQ):TG:=λv O H Q=>∃a xs,v = .ref a/\ax K H a xs/\xs.length=n/\t xs O H Q
def jn{k:Nat}{t:qQ}(hc:X.calm=true)(h:Af X es t)
  (hn:(assignEach es X.env).length=n:=by rfl) (cS:(assignEach es X.env).findIdx? (·.1)=none:=by rfl):PG X (.Tuple es k pos) (Kw X.K n t):=by
 intro pins s O H v u Q I r hw
 obtain⟨a,xs,e1,hq,hl,hw⟩:=hw
 subst e1
 cases r
 obtain⟨its,rv,ht,hz⟩:=I.tuple hq
 refine assign_Tuple_tuple (I.ok.hd hc) ht (by simp[hn,<-hl,rv.length]) cS λh' hx=>?_
 have I1:Inv X pins O H { s with heap:=h' }:=I.kept (t':=s.toks) λb o e=>hx b o (bO (bF e)) e
 exact h pins _ O H xs _ Q I1 (by simpa using rv) hw
def TN(to ti:TE)(t:DF):TG:=λv O H Q=>to O H λo H1=>ti O H1 λi H2=>t o i v H2 λH3=>Q O H3
def tL{o i:Expr}{to ti:TE}{t:DF}(ho:PE X o to)(hi:PE X i ti)(hs:Ku X t)
  (ha:∀v,assign (.Subscript o i pos) X.env v=(do
   let ov<-holding [v] (eval o X.env)
   let iv<-holding [v,ov] (eval i X.env)
   standAt pos
   holding [v,ov,iv] (setItem ov iv v)
   release [v,ov,iv] []):=by intro _;rfl):PG X (.Subscript o i pos) (TN to ti t):=by
 intro pins s O H v u Q I r h
 rw[ha]
 refine aj (gN (aE (ho pins s O H _ I h) λov s1 ⟨x,H1,I1,r1,q1⟩=>?_))
 refine aj (gN (aE (hi pins s1 O H1 _ I1 q1) λiv s2 ⟨y,H2,I2,r2,q2⟩=>?_))
 refine aj (wpAny_standAt (aj (gN (aE (hs pins s2 O H2 x y v ov iv u _ I2 r1 r2 r q2) λ_ s3 ⟨H3,I3,q3⟩=>?_))))
 exact wpAny_release ⟨O,H3,I3,q3⟩
def Ag(te:TE)(g:TG):TS:=λD O H=>te O H λx H1=>g x O H1 D.nx
def pf{g:TG}(he:PE X e te)(hg:PG X tg g)(hs:swapsWithSole [tg] e pos.line X.env=pure false:=by rfl)(hw:swappedStores [tg] e X.env=pure none:=by rfl)
  (h1:(assignEach [tg] X.env).map (·.2)=[assign tg X.env]:=by rfl):PS X (.Assign [tg] e pos) (Ag te g):=by
 intro pins s O H D I h
 refine wpAny_Assign_stores (aE (he pins s O H _ I h) λv s1 ⟨x,H1,I1,r1,q1⟩=>?_) hs hw
 rw[h1]
 exact aE (hg pins s1 O H1 x v _ I1 r1 q1) λ_ s2 q=>q
def aL(i:Nat){pos':Pos}(hN:X.N.Nodup)(he:PE X e te)(hi:X.N[i]? = some x:=by rfl)(hx:Loc X.env.scope x:=by first | exact .inl rfl | exact .inr rfl)(hs:swapsWith e (some (.Name x pos')) pos.line X.env=pure false:=by rfl)(hf:X.fn x=true\/X.env.scope.names.lookup x=some .local:=by first | exact .inl rfl | exact .inr rfl | assumption) :
  PS X (.Assign [.Name x pos'] e pos) (Ag te (qR i)):=by
 intro pins s O H D I h
 refine wpAny_Assign_Name (aE (he pins s O H _ I h) λv s1 ⟨y,H1,I1,r1,q1⟩=>?_) hs
 exact DC I1 hN hi hx r1 (λs2 I2=>⟨_,H1,I2,q1⟩) hf
def TQ(c:TT)(tb:TS):TS:=λD O H=>∃W:Nat->St->Hp->Prop,(∃m,W m O H)/\∀m O H,W m O H->
 c O H λb H1=>if b=true then ∃N:St->Hp->Prop,(∀O' H',N O' H'->∃m',m'<m/\W m' O' H')/\tb { D with nx:=N,ct:=N,bk:=D.nx } O H1 else D.nx O H1
def Kx(hp:PassesOwn (model X.prog X.w) X.A X.env X.xe)(hc:PT X c tc)(hb:iw X body tb):PS X (.While c body [] pos) (TQ tc tb):=by
 intro pins s O H D I h
 obtain⟨W,⟨m0,w0⟩,turn⟩:=h
 refine wpAny_While (codeAny_whileLoop (λn s' =>∃O' H',Inv X pins O' H' s'/\W n O' H') ?_ m0 ⟨O,H,I,w0⟩)
 rintro n s1 ⟨O1,H1,I1,w1⟩
 refine vV hp (aE (hc pins s1 O1 H1 _ I1 (turn n O1 H1 w1)) λb s2 ⟨H2,I2,q2⟩=>?_)
 cases b with
 |true=>
  obtain⟨N,hN,q2⟩:=q2
  rw[aA rfl]
  refine vV hp (aE (hb pins s2 O1 H2 _ I2 q2) λf s3 q3=>?_)
  cases f with
  |next=>
   obtain⟨O3,H3,I3,n3⟩:=q3
   obtain⟨m',hm,w3⟩:=hN O3 H3 n3
   exact⟨m',hm,O3,H3,I3,w3⟩
  |cont=>
   obtain⟨O3,H3,I3,n3⟩:=q3
   obtain⟨m',hm,w3⟩:=hN O3 H3 n3
   exact⟨m',hm,O3,H3,I3,w3⟩
  |brk=>exact q3
  |ret v=>exact q3
 |false=>
  rw[av bZ]
  exact JE ⟨O1,H2,I2,q2⟩
end
structure It where
 go:Nat->Hp->Prop
 gw:Nat->Hp->V->Hp->Prop
 stop:Nat->Hp->Prop
def fg(X:Cx)(pins:List (Addr×Obj))(H:Hp)(b:Addr):Prop:=
 H b=none/\b≠X.env.locals/\b∉X.fs/\(b∈X.ex\/X.s₀.heap.objs.size<=b)/\(∀x c,X.env.cells.lookup x=some c->c≠b)/\∀p∈X.pn++pins,p.1≠b
def Inv.jO{H':Hp}(I:Inv X pins O H s)(hb:s.heap.objs.size<=b)(hn:H' b=none):fg X pins H' b:=by
 refine⟨hn,zo (gM I.lt hb),I.Tn hb,.inr (bL I.sz hb),λx c e z=>?_,λp hp z=>?_⟩
 .obtain⟨v,q⟩:=I.cell x c e
  exact absurd (gM q.lt (by rw[z];exact hb)) (sW _)
 .exact absurd (gM (bF (I.pin p hp).1) (by rw[z];exact hb)) (sW _)
structure Turn(P:Program)(w:World)(K:Frag)(tg:Expr)(J:It)(fp:List Addr)(it:Addr)(tn:Nat->Heap->Prop):Prop where
 mem:it∈fp
 obj:∀i h,tn i h->∀b∈fp,∃o,h.get? b=some o/\∀v,o.data ≠ .cell v
 keep:∀i h h',tn i h->(∀b∈fp,∀o,h.get? b=some o->h'.get? b=some o)->tn i h'
 item:∀(X:Cx),X.prog=P->X.w=w->X.K=K->X.calm=true->∀(i:Nat) (pins:List (Addr×Obj)) (s:Shared) (O:St) (H:Hp) (E:Value->Shared->Prop),Inv X pins O H s->(∀b∈fp,fg X pins H b)->tn i s.heap->J.go i H->
  wpAny (model P w) X.A (pyNext (.ref it)) (λr s1=>∃u,r=some u/\
   wpAny (model P w) X.A (letOwnedTupleGo tg (.ref it) u) (λ_ s2=>∃x H',Inv X pins O H' s2/\RelV x u/\J.gw i H x H'/\tn (i+1) s2.heap/\∀b∈fp,H' b=none) E s1) E s
 done:∀(X:Cx),X.prog=P->X.w=w->X.K=K->X.calm=true->∀(i:Nat) (pins:List (Addr×Obj)) (s:Shared) (O:St) (H:Hp) (E:Value->Shared->Prop),Inv X pins O H s->(∀b∈fp,fg X pins H b)->tn i s.heap->J.stop i H->
  wpAny (model P w) X.A (pyNext (.ref it)) (λr s1=>r=none/\Inv X pins O H s1) E s
 self:∀(A:Around) (i:Nat) (s:Shared) (Q:Value->Shared->Prop) (E:Value->Shared->Prop),tn i s.heap->Q (.ref it) s->wpAny (model P w) A (pyIter (.ref it)) Q E s
abbrev TI:=St->Hp->(It->Hp->Prop)->Prop
def Ky(X:Cx)(pins:List (Addr×Obj))(O:St)(tg:Expr)(R:It->Hp->Prop)(Ah:Value)(s2:Shared):Prop:=
 ∃(it:Addr) (fp:List Addr) (tn:Nat->Heap->Prop) (J:It) (H':Hp),Ah = .ref it/\Inv X pins O H' s2/\Turn X.prog X.w X.K tg J fp it tn/\tn 0 s2.heap/\(∀b∈fp,fg X pins H' b)/\R J H'
def PI(X:Cx)(tg iter:Expr)(wi:TI):Prop:=
 ∀(pins:List (Addr×Obj)) (s:Shared) (O:St) (H:Hp) (R:It->Hp->Prop),Inv X pins O H s->wi O H R->
  wpAny (model X.prog X.w) X.A (eval iter X.env) (λv s1=>wpAny (model X.prog X.w) X.A (pyIter v) (Ky X pins O tg R) X.xe s1) X.xe s
def tM{n:String}{vs:Array Value}{Q:Unit->Shared->Prop}(ho:s.heap.get? it=some o)(hc:o.cls = .type n)(hd:o.data = .fields vs)
  (hn:["enumerate","zip","dict_itemiterator","dict_reverseitemiterator","odict_iterator","itertools.zip_longest","itertools.pairwise"].contains n=false) (hQ:Q () s):wpAny M A (letOwnedTupleGo tg (.ref it) u) Q E s:=by
 unfold letOwnedTupleGo
 cases tg <;> first
  |exact aH hQ
  |(cases u <;> first
    |exact aH hQ
    |(refine aj (wpAny_load ho ?_)
      rw[hc,hd]
      show wpAny M A (if (["enumerate","zip","dict_itemiterator","dict_reverseitemiterator","odict_iterator","itertools.zip_longest","itertools.pairwise"].contains n&&vs[0]? == some (rawInt _))=true then _ else _) Q E s
      rw[av (by intro h;rw[hn,il] at h;cases h)]
      exact aH hQ))
noncomputable def qS(K:Frag)(a:Addr):It:=
 ⟨λi H=>∃xs x,ak K H a xs/\xs[i]? = some x,λi H x H'=>H'=H/\∀xs,ak K H a xs->xs[i]? = some x,λi H=>∃xs,ak K H a xs/\xs.length<=i⟩
noncomputable def tN(K:Frag)(a:Addr):It:=
 ⟨λi H=>∃xs x,ax K H a xs/\xs[i]? = some x,λi H x H'=>H'=H/\∀xs,ax K H a xs->xs[i]? = some x,λi H=>∃xs,ax K H a xs/\xs.length<=i⟩
noncomputable def lU(lo:Int)(n:Nat):It:=⟨λi _=>i<n,λi H x H'=>H'=H/\x = .int (lo+i),λi _=>n<=i⟩
theorem TR(a it:Addr):Turn P w K tg (qS K a) [it] it (λi h=>h.IsListIter it a i) where
 mem:=by simp
 obj:=λi h st b hb=>by
  have e:b=it:=by simpa using hb
  subst e
  obtain⟨o,e,c,d⟩:=st
  exact⟨o,e,λv z=>by rw[d] at z;cases z⟩
 keep:=λi h h' st k=>st.at λo e=>k it (by simp) o e
 item:=by
  intro X hP hw hK hc i pins s O H E I hf st hg
  subst hP hw hK
  obtain⟨xs,x,hq,hx⟩:=hg
  obtain⟨its,rv,p,hz⟩:=I.list hq
  obtain⟨u,hu,ru⟩:=rv.get hx
  obtain⟨f0,f1,f2,f3,f4,f5⟩:=hf it (by simp)
  refine wpAny_pyNext_list_item st p.isList (x:=u) (by simpa using hu) λh' eP sb=>?_
  have I1:Inv X pins O H { s with heap:=h' }:=I.turned (t':=s.toks) (λb o hb e=>(sb.2 b hb).trans e) f0 f1 f3 f4 f5
  obtain⟨o,e,c,d⟩:=id eP
  exact⟨u,rfl,tM (s:={ s with heap:=h' }) e c d (by decide) ⟨x,H,I1,ru,⟨rfl,λys hy=>by rw[I.DD hy hq];exact hx⟩,eP,λb hb=>(hf b hb).1⟩⟩
 done:=by
  intro X hP hw hK hc i pins s O H E I hf st hg
  subst hP hw hK
  obtain⟨xs,hq,hx⟩:=hg
  obtain⟨its,rv,p,hz⟩:=I.list hq
  obtain⟨f0,f1,f2,f3,f4,f5⟩:=hf it (by simp)
  have hl:=rv.length
  exact wpAny_pyNext_list_end (I.ok.hd hc) st p.isList (by simp;lia) λh' eb=>⟨rfl,I.turned (t':=s.toks) (λb o hb e=>eb b o hb e) f0 f1 f3 f4 f5⟩
 self:=λ_ _ _ _ _ st h=>wpAny_pyIter_listiter st h
theorem TV(a it:Addr):Turn P w K tg (tN K a) [it] it (λi h=>h.IsTupleIter it a i) where
 mem:=by simp
 obj:=λi h st b hb=>by
  have e:b=it:=by simpa using hb
  subst e
  obtain⟨o,e,c,d⟩:=st
  exact⟨o,e,λv z=>by rw[d] at z;cases z⟩
 keep:=λi h h' st k=>st.at λo e=>k it (by simp) o e
 item:=by
  intro X hP hw hK hc i pins s O H E I hf st hg
  subst hP hw hK
  obtain⟨xs,x,hq,hx⟩:=hg
  obtain⟨its,rv,p,hz⟩:=I.tuple hq
  obtain⟨u,hu,ru⟩:=rv.get hx
  obtain⟨f0,f1,f2,f3,f4,f5⟩:=hf it (by simp)
  refine wpAny_pyNext_tuple_item st (show s.heap.IsTuple a its.toArray from p) (x:=u) (by simpa using hu) λh' eP sb=>?_
  have I1:Inv X pins O H { s with heap:=h' }:=I.turned (t':=s.toks) (λb o hb e=>(sb.2 b hb).trans e) f0 f1 f3 f4 f5
  obtain⟨o,e,c,d⟩:=id eP
  exact⟨u,rfl,tM (s:={ s with heap:=h' }) e c d (by decide) ⟨x,H,I1,ru,⟨rfl,λys hy=>by rw[I.DE hy hq];exact hx⟩,eP,λb hb=>(hf b hb).1⟩⟩
 done:=by
  intro X hP hw hK hc i pins s O H E I hf st hg
  subst hP hw hK
  obtain⟨xs,hq,hx⟩:=hg
  obtain⟨its,rv,p,hz⟩:=I.tuple hq
  obtain⟨f0,f1,f2,f3,f4,f5⟩:=hf it (by simp)
  have hl:=rv.length
  exact wpAny_pyNext_tuple_end (I.ok.hd hc) st (show s.heap.IsTuple a its.toArray from p) (by simp;lia) λh' eb=>⟨rfl,I.turned (t':=s.toks) (λb o hb e=>eb b o hb e) f0 f1 f3 f4 f5⟩
 self:=λ_ _ _ _ _ st h=>wpAny_pyIter_tupleiter st h
theorem TX(it:Addr)(lo:Int)(n:Nat):Turn P w K tg (lU lo n) [it] it (λi h=>IsRangeIter h it (lo+(i:Nat)*1) ((n:Int) - (i:Nat)) 1) where
 mem:=by simp
 obj:=λi h st b hb=>by
  have e:b=it:=by simpa using hb
  subst e
  exact⟨_,st,λv z=>by
   have z':Data.fields _=Data.cell v:=z
   cases z'⟩
 keep:=λi h h' st k=>k it (by simp) _ st
 item:=by
  intro X hP hw hK hc i pins s O H E I hf st hg
  subst hP hw hK
  obtain⟨f0,f1,f2,f3,f4,f5⟩:=hf it (by simp)
  have W:=Walks.range (prog:=X.prog) (w:=X.w) (I.ok.hd hc) it lo 1 n
  refine W.item i s _ _ hg st λv h' tk hv eP kk=>?_
  obtain⟨t,rfl⟩:=hv
  have I1:Inv X pins O H { s with heap:=h',toks:=tk }:=I.turned (λb o hb e=>kk b o (by simpa using hb) e) f0 f1 f3 f4 f5
  refine⟨_,rfl,tM (s:={ s with heap:=h',toks:=tk }) (n:="range_iterator") eP rfl rfl (by decide) ⟨.int (lo+i),H,I1,⟨t,?_⟩,⟨rfl,rfl⟩,eP,λb hb=>(hf b hb).1⟩⟩
  rw[Int.mul_one]
 done:=by
  intro X hP hw hK hc i pins s O H E I hf st hg
  subst hP hw hK
  obtain⟨f0,f1,f2,f3,f4,f5⟩:=hf it (by simp)
  exact wpAny_pyNext_range_end (I.ok.hd hc) st (by have:n<=i:=hg;lia) λh' eb=>⟨rfl,I.turned (t':=s.toks) (λb o hb e=>eb b o hb e) f0 f1 f3 f4 f5⟩
 self:=λ_ _ _ _ _ st h=>wpAny_pyIter_rangeiter st h
section
variable{X:Cx}{tg:Expr}
def TY(K:Frag)(tl:TE):TI:=λO H R=>tl O H λx H1=>∃a,x = .ref a/\(∃xs,ak K H1 a xs)/\R (qS K a) H1
def TZ(K:Frag)(tl:TE):TI:=λO H R=>tl O H λx H1=>∃a,x = .ref a/\(∃xs,ax K H1 a xs)/\R (tN K a) H1
def dn(hl:PE X l tl):PI X tg l (TY X.K tl):=by
 intro pins s O H R I h
 refine aE (hl pins s O H _ I h) λv s1 ⟨x,H1,I1,r1,q1⟩=>?_
 obtain⟨a,e,⟨xs,hq⟩,q⟩:=q1
 subst e
 cases r1
 obtain⟨its,rv,p,hz⟩:=I1.list hq
 refine sX p.isList ?_
 refine⟨s1.heap.objs.size,[s1.heap.objs.size],_,_,H1,rfl,I1.kept (t':=s1.toks) λb o e=>bx _ e,TR a _,⟨_,cq _ rfl,rfl,rfl⟩,λb hb=>?_,q⟩
 have e:b=s1.heap.objs.size:=by simpa using hb
 subst e
 exact I1.jO (aN _) (I1.aD.fresh (aN _))
def wJ(hl:PE X l tl):PI X tg l (TZ X.K tl):=by
 intro pins s O H R I h
 refine aE (hl pins s O H _ I h) λv s1 ⟨x,H1,I1,r1,q1⟩=>?_
 obtain⟨a,e,⟨xs,hq⟩,q⟩:=q1
 subst e
 cases r1
 obtain⟨its,rv,p,hz⟩:=I1.tuple hq
 refine JF (show s1.heap.IsTuple a its.toArray from p) ?_
 refine⟨s1.heap.objs.size,[s1.heap.objs.size],_,_,H1,rfl,I1.kept (t':=s1.toks) λb o e=>bx _ e,TV a _,⟨_,cq _ rfl,rfl,rfl⟩,λb hb=>?_,q⟩
 have e:b=s1.heap.objs.size:=by simpa using hb
 subst e
 exact I1.jO (aN _) (I1.aD.fresh (aN _))
theorem T8{R:It->Hp->Prop}{hi:Int}{t u v:Tok}{tk:Nat}(I:Inv X pins O H s)(h1 : -(2 ^ 62)<=lo)(h2:lo<2 ^ 62)(h3 : -(2 ^ 62)<=hi)(h4:hi<2 ^ 62)
  (q:R (lU lo (hi - lo).toNat) H):wpAny (model X.prog X.w) X.A (pyIter (.ref s.heap.objs.size)) (Ky X pins O tg R) E { s with heap:=s.heap.push { cls := .type "range",data := .fields #[.int lo t,.int hi u,.int 1 v] },toks:=tk }:=by
 refine wpAny_pyIter_range (IsRange.new ..) (small_one h1 h2 h3 h4) ?_
 have I1:Inv X pins O H { s with heap:=s.heap.push { cls := .type "range",data := .fields #[.int lo t,.int hi u,.int 1 v] },toks:=tk }:=I.kept λb o e=>bx _ e
 refine⟨(s.heap.push { cls := .type "range",data := .fields #[.int lo t,.int hi u,.int 1 v] }).objs.size,[(s.heap.push { cls := .type "range",data := .fields #[.int lo t,.int hi u,.int 1 v] }).objs.size],_,_,H,rfl,
  I1.kept (t':=tk) λb o e=>bx _ e,TX _ lo (hi - lo).toNat,?_,λb hb=>?_,q⟩
 .have e1:lo+((0:Nat):Int)*1=lo:=by simp
  have e2:(((hi - lo).toNat:Nat):Int) - ((0:Nat):Int)=Builtin.Range.rangeSize lo hi 1:=by rw[rangeSize_one];split <;> lia
  show IsRangeIter _ _ (lo+((0:Nat):Int)*1) ((((hi - lo).toNat:Nat):Int) - ((0:Nat):Int)) 1
  rw[e1,e2]
  exact cq _ rfl
 .have e:b=(s.heap.push { cls := .type "range",data := .fields #[.int lo t,.int hi u,.int 1 v] }).objs.size:=by simpa using hb
  subst e
  exact I1.jO (aN _) (I1.aD.fresh (aN _))
def T9(ta:TA):TI:=λO H R=>ta O H λvs H1=>∃j:Int,vs=[.int j]/\ -(2 ^ 62)<=j/\j<2 ^ 62/\R (lU 0 j.toNat) H1
theorem kJ{a:Expr}{ta:TA}{p:Pos}(hg:Gl X "range")(hm:X.mg "range"=none)(ha:PA X [a] ta)(hs:starEach [a] X.env=[(false,eval a X.env)]:=by rfl):PI X tg (.Call (.Name "range" p) [a] [] pos) (T9 ta):=by
 intro pins s O H R I h
 refine Call_ (o9 I hg hm boot_range (Dg (aE (ha pos pins s O H _ I h) λus s1 ⟨vs,H1,I1,r1,q1⟩=>?_) hs rfl))
 obtain⟨j,e,q1,q2,q⟩:=q1
 subst e
 cases r1 with
 |cons r rr=>
  cases rr
  obtain⟨t,rfl⟩:=r
  exact call_range_1 (T8 I1 (by lia) (by lia) q1 q2 (by simpa using q))
def Ua(wi:TI)(g:TG)(tb:TS):TS:=λD O H=>wi O H λJ H1=>∃W:Nat->Nat->St->Hp->Prop,(∃m,W 0 m O H1)/\∀i m O H,W i m O H->
 (J.stop i H/\D.nx O H)\/(J.go i H/\∃N:St->Hp->Prop,(∀O' H',N O' H'->∃m',m'<m/\W (i+1) m' O' H')/\∀x H',J.gw i H x H'->g x O H' λO2 H2=>tb { D with nx:=N,ct:=N,bk:=D.nx } O2 H2)
noncomputable def wK(fp:List Addr)(h:Heap):List (Addr×Obj):=fp.filterMap λb=>(h.get? b).map λo=>(b,o)
def Ai(hb:b∈fp)(e:h.get? b=some o):(b,o)∈wK fp h:=List.mem_filterMap.mpr ⟨b,hb,by rw[e];rfl⟩
def Ub(hp:p∈wK fp h):p.1∈fp/\h.get? p.1=some p.2:=by
 obtain⟨b,hb,e⟩:=List.mem_filterMap.mp hp
 cases q:h.get? b with
 |none=>rw[q] at e;cases e
 |some o=>
  rw[q] at e
  have e':(b,o)=p:=dm e
  subst e'
  exact⟨hb,q⟩
def Inv.pinned(I:Inv X pins O H s)(hf:∀b∈fp,fg X pins H b)(ho:∀b∈fp,∃o,s.heap.get? b=some o/\∀v,o.data ≠ .cell v):Inv X (pins++wK fp s.heap) O H s:=
 I.z7 λp hp=>(cX.mp hp).elim (λz=>I.pin p (gc _ z)) λz=>by
  obtain⟨hb,e⟩:=Ub z
  obtain⟨f0,f1,f2,_⟩:=hf p.1 hb
  obtain⟨o,e',d⟩:=ho p.1 hb
  rw[e] at e';cases e'
  exact⟨e,f0,f1,f2,d⟩
def Inv.tO{pl:List (Addr×Obj)}(I:Inv X (pins++pl) O H s):Inv X pins O H s:=I.z7 λp hp=>I.pin p (gc _ (jg _ hp))
def cF{wi:TI}{g:TG}(hi:PI X tg iter wi)(hg:PG X tg g)(hb:iw X body tb)(hp:PassesOwn (model X.prog X.w) X.A X.env X.xe:=by exact PassesOwn.never)(hc:X.calm=true:=by rfl)
  (hs:∀x,foldedSetIterable iter X.env x=pure x:=by intro _;rfl):PS X (.For tg iter body [] pos) (Ua wi g tb):=by
 intro pins s O H D I h
 refine wpAny_For (aE (hi pins s O H _ I h) λv s1 h1=>aE h1 λAh s2 h2=>?_) hs
 obtain⟨it,fp,tn,J,H2,e,I2,T,jP,f2,W,⟨m0,w0⟩,turn⟩:=h2
 subst e
 have DH:∀{H':Hp},(∀b∈fp,H' b=none)->∀b∈fp,fg X pins H' b:=λhn b hb=>⟨hn b hb,(f2 b hb).2⟩
 refine codeAny_forLoop_any (λn s' =>∃i O' H',Inv X pins O' H' s'/\tn i s'.heap/\(∀b∈fp,H' b=none)/\W i n O' H') ?_ m0 ⟨0,O,H2,I2,jP,λb hb=>(f2 b hb).1,w0⟩
 rintro n s3 ⟨i,O3,H3,I3,wL,Kz,w3⟩
 rcases turn i n O3 H3 w3 with ⟨stop,qn⟩ | ⟨go,N,hN,step⟩
 .refine vV hp (aE (T.done X rfl rfl rfl hc i pins s3 O3 H3 X.xe I3 (DH Kz) wL stop) λr s4 ⟨hr,I4⟩=>?_)
  subst hr
  exact JE ⟨O3,H3,I4,qn⟩
 .refine vV hp (aE (T.item X rfl rfl rfl hc i pins s3 O3 H3 X.xe I3 (DH Kz) wL go) λr s4 ⟨u,hr,h4⟩=>?_)
  subst hr
  refine vV hp (aE h4 λ_ s5 ⟨x,H5,I5,r5,y5,tP,Aj⟩=>?_)
  have Uc:=I5.pinned (DH Aj) (T.obj _ _ tP)
  refine vV hp (aE (hg _ s5 O3 H5 x u _ Uc r5 (step x H5 y5)) λ_ s6 ⟨O6,H6,I6,q6⟩=>?_)
  refine vV hp (aE (hb _ s6 O6 H6 _ I6 q6) λf s7 q7=>?_)
  have again:∀{O7:St}{H7:Hp},Inv X (pins++wK fp s5.heap) O7 H7 s7->N O7 H7->∃m,m<n/\∃i O' H',Inv X pins O' H' s7/\tn i s7.heap/\(∀b∈fp,H' b=none)/\W i m O' H':=λ{O7 H7} I7 n7=>by
   obtain⟨m',hm,w7⟩:=hN O7 H7 n7
   refine⟨m',hm,i+1,O7,H7,I7.tO,T.keep _ _ _ tP λb hb o e=>(I7.pin (b,o) (gc _ (gc _ (Ai hb e)))).1,λb hb=>?_,w7⟩
   obtain⟨o,e,d⟩:=T.obj _ _ tP b hb
   exact(I7.pin (b,o) (gc _ (gc _ (Ai hb e)))).2.1
  cases f with
  |next=>obtain⟨O7,H7,I7,n7⟩:=q7;exact again I7 n7
  |cont=>obtain⟨O7,H7,I7,n7⟩:=q7;exact again I7 n7
  |brk=>obtain⟨O7,H7,I7,q7⟩:=q7;exact⟨O7,H7,I7.tO,q7⟩
  |ret v=>obtain⟨x7,O7,H7,I7,r7,q7⟩:=q7;exact⟨x7,O7,H7,I7.tO,r7,q7⟩
end
theorem iW{g:TG}{D:Ends}(Pv:Nat->St->Hp->Prop)(h0:Pv 0 O H)(hl:∀i O H,i<=xs.length->Pv i O H->ak K H a xs)
  (hs:∀i x O H,xs[i]? = some x->Pv i O H->g x O H λO2 H2=>tb { D with nx:=Pv (i+1),ct:=Pv (i+1),bk:=D.nx } O2 H2) (hd:∀O H,Pv xs.length O H->D.nx O H) :
  ∃W:Nat->Nat->St->Hp->Prop,(∃m,W 0 m O H)/\∀i m O H,W i m O H->
   ((qS K a).stop i H/\D.nx O H)\/((qS K a).go i H/\∃N:St->Hp->Prop,(∀O' H',N O' H'->∃m',m'<m/\W (i+1) m' O' H')/\∀x H',(qS K a).gw i H x H'->g x O H' λO2 H2=>tb { D with nx:=N,ct:=N,bk:=D.nx } O2 H2):=by
 refine⟨λi m O H=>m=xs.length - i/\i<=xs.length/\Pv i O H,⟨xs.length,by simp,bA _,h0⟩,?_⟩
 rintro i m O H ⟨rfl,hi,p⟩
 have q:=hl i O H hi p
 by_cases aM:i<xs.length
 .refine .inr ⟨⟨xs,xs[i],q,by simp[aM]⟩,Pv (i+1),λO' H' p'=>⟨xs.length - (i+1),by lia,rfl,aM,p'⟩,λx H' y=>?_⟩
  obtain⟨e,y⟩:=y
  subst e
  exact hs i x O _ (y xs q) p
 .have e:i=xs.length:=by lia
  subst e
  exact .inl ⟨⟨xs,q,aN _⟩,hd O H p⟩
theorem KA{g:TG}{D:Ends}(Pv:Nat->St->Hp->Prop)(h0:Pv 0 O H)(hl:∀i O H,i<=xs.length->Pv i O H->ax K H a xs)
  (hs:∀i x O H,xs[i]? = some x->Pv i O H->g x O H λO2 H2=>tb { D with nx:=Pv (i+1),ct:=Pv (i+1),bk:=D.nx } O2 H2) (hd:∀O H,Pv xs.length O H->D.nx O H) :
  ∃W:Nat->Nat->St->Hp->Prop,(∃m,W 0 m O H)/\∀i m O H,W i m O H->
   ((tN K a).stop i H/\D.nx O H)\/((tN K a).go i H/\∃N:St->Hp->Prop,(∀O' H',N O' H'->∃m',m'<m/\W (i+1) m' O' H')/\∀x H',(tN K a).gw i H x H'->g x O H' λO2 H2=>tb { D with nx:=N,ct:=N,bk:=D.nx } O2 H2):=by
 refine⟨λi m O H=>m=xs.length - i/\i<=xs.length/\Pv i O H,⟨xs.length,by simp,bA _,h0⟩,?_⟩
 rintro i m O H ⟨rfl,hi,p⟩
 have q:=hl i O H hi p
 by_cases aM:i<xs.length
 .refine .inr ⟨⟨xs,xs[i],q,by simp[aM]⟩,Pv (i+1),λO' H' p'=>⟨xs.length - (i+1),by lia,rfl,aM,p'⟩,λx H' y=>?_⟩
  obtain⟨e,y⟩:=y
  subst e
  exact hs i x O _ (y xs q) p
 .have e:i=xs.length:=by lia
  subst e
  exact .inl ⟨⟨xs,q,aN _⟩,hd O H p⟩
theorem Ud{g:TG}{D:Ends}(Pv:Nat->St->Hp->Prop)(h0:Pv 0 O H)
  (hs:∀i O H,i<n->Pv i O H->g (.int (lo+i)) O H λO2 H2=>tb { D with nx:=Pv (i+1),ct:=Pv (i+1),bk:=D.nx } O2 H2) (hd:∀O H,Pv n O H->D.nx O H) :
  ∃W:Nat->Nat->St->Hp->Prop,(∃m,W 0 m O H)/\∀i m O H,W i m O H->
   ((lU lo n).stop i H/\D.nx O H)\/((lU lo n).go i H/\∃N:St->Hp->Prop,(∀O' H',N O' H'->∃m',m'<m/\W (i+1) m' O' H')/\∀x H',(lU lo n).gw i H x H'->g x O H' λO2 H2=>tb { D with nx:=N,ct:=N,bk:=D.nx } O2 H2):=by
 refine⟨λi m O H=>m=n - i/\i<=n/\Pv i O H,⟨n,by simp,bA _,h0⟩,?_⟩
 rintro i m O H ⟨rfl,hi,p⟩
 by_cases aM:i<n
 .refine .inr ⟨aM,Pv (i+1),λO' H' p'=>⟨n - (i+1),by lia,rfl,aM,p'⟩,λx H' y=>?_⟩
  obtain⟨e,y⟩:=y
  subst e y
  exact hs i O _ aM p
 .have e:i=n:=by lia
  subst e
  exact .inl ⟨aN _,hd O H p⟩
abbrev R2:=V->V->Hp->VK->Prop
def cK(X:Cx)(f:Value->Value->Sem Value)(r:R2):Prop:=
 ∀(pins:List (Addr×Obj)) (s:Shared) (O:St) (H:Hp) (x y:V) (v u:Value) (Q:VK),Inv X pins O H s->RelV x v->RelV y u->r x y H Q->
  wpAny (model X.prog X.w) X.A (f v u) (EP X pins O Q) X.xe s
def DI(X:Cx)(f:Value->Sem Value)(r:V->Hp->VK->Prop):Prop:=
 ∀(pins:List (Addr×Obj)) (s:Shared) (O:St) (H:Hp) (x:V) (v:Value) (Q:VK),Inv X pins O H s->RelV x v->r x H Q->
  wpAny (model X.prog X.w) X.A (f v) (EP X pins O Q) X.xe s
def fL(X:Cx)(f:Value)(r:List V->Hp->VK->Prop):Prop:=
 ∀(pins:List (Addr×Obj)) (s:Shared) (O:St) (H:Hp) (xs:List V) (us:List Value) (Q:VK),Inv X pins O H s->Vals xs us->r xs H Q->
  wpAny (model X.prog X.w) X.A (call f us) (EP X pins O Q) X.xe s
def Ue(X:Cx)(r:V->Hp->(Bool->Hp->Prop)->Prop):Prop:=
 ∀(pins:List (Addr×Obj)) (s:Shared) (O:St) (H:Hp) (x:V) (v:Value) (Q:Bool->Hp->Prop),Inv X pins O H s->RelV x v->r x H Q->
  wpAny (model X.prog X.w) X.A (truthy v) (TP X pins O Q) X.xe s
def qT(r:R2)(ta tb:TE):TE:=λO H Q=>ta O H λx H1=>tb O H1 λy H2=>r x y H2 Q
def Ug(r:V->Hp->VK->Prop)(ta:TE):TE:=λO H Q=>ta O H λx H1=>r x H1 Q
def rI(C:Int->Int->Prop)(g:Int->Int->V):R2:=λx y H Q=>∃i j,x = .int i/\y = .int j/\C i j/\Q (g i j) H
def ph(g:Int->Int->V):R2:=λx y H Q=>∃i j,x = .int i/\y = .int j/\Q (g i j) H
def rU(g:Int->V):V->Hp->VK->Prop:=λx H Q=>∃i,x = .int i/\Q (g i) H
section
variable{X:Cx}{a b c:Expr}{ta tb tc:TE}{pos:Pos}
def DJ(ha:PE X a ta)(hb:PE X b tb){R:V->V->Hp->Prop}(I:Inv X pins O H s)
  (h:ta O H λx H1=>tb O H1 λy H2=>R x y H2) 
  (hf:∀v u s2 x y H2,Inv X pins O H2 s2->RelV x v->RelV y u->R x y H2->wpAny (model X.prog X.w) X.A (f v u) Q X.xe s2) :
  wpAny (model X.prog X.w) X.A (eval a X.env) (λv s₁=>wpAny (model X.prog X.w) X.A (eval b X.env) (λu s₂=>wpAny (model X.prog X.w) X.A (f v u) Q X.xe s₂) X.xe s₁) X.xe s:=by
 refine aE (ha pins s O H _ I h) λv s1 ⟨x,H1,I1,r1,q1⟩=>?_
 refine aE (hb pins s1 O H1 _ I1 q1) λu s2 ⟨y,H2,I2,r2,q2⟩=>?_
 exact hf v u s2 x y H2 I2 r1 r2 q2
def aT{op:Operator}(ho:cK X (binaryOp op) r)(ha:PE X a ta)(hb:PE X b tb):PE X (.BinOp a op b pos) (qT r ta tb):=by
 intro pins s O H Q I h
 exact wpAny_BinOp (DJ ha hb I h λv u s2 x y H2 I2 rx ry q=>ho pins s2 O H2 x y v u Q I2 rx ry q)
def Uh{op:UnaryOp}{r:V->Hp->VK->Prop}(ho:DI X (unaryOp op) r)(ha:PE X a ta):PE X (.UnaryOp op a pos) (Ug r ta):=by
 intro pins s O H Q I h
 exact UnaryOp_ (aE (ha pins s O H _ I h) λv s1 ⟨x,H1,I1,r1,q1⟩=>ho pins s1 O H1 x v Q I1 r1 q1)
def jo{C:Int->Int->Prop}
  (rule:∀(i j:Int) (t u:Tok) (s:Shared) (Q:Value->Shared->Prop) (E:Value->Shared->Prop),C i j->Q (.int (g i j) s.toks) { s with toks:=s.toks+1 }->wpAny (model X.prog X.w) X.A (f (.int i t) (.int j u)) Q E s) :
  cK X f (rI C λi j=>.int (g i j)):=by
 intro pins s O H x y v u Q I rx ry h
 obtain⟨i,j,rfl,rfl,hc,q⟩:=h
 obtain⟨t,rfl⟩:=rx
 obtain⟨t',rfl⟩:=ry
 exact rule i j t t' s _ _ hc ⟨.int (g i j),H,I.tok _,⟨_,rfl⟩,q⟩
def KC
  (rule:∀(i j:Int) (t u:Tok) (s:Shared) (Q:Value->Shared->Prop) (E:Value->Shared->Prop),Q (.int (g i j) s.toks) { s with toks:=s.toks+1 }->wpAny (model X.prog X.w) X.A (f (.int i t) (.int j u)) Q E s) :
  cK X f (ph λi j=>.int (g i j)):=by
 intro pins s O H x y v u Q I rx ry h
 obtain⟨i,j,rfl,rfl,q⟩:=h
 obtain⟨t,rfl⟩:=rx
 obtain⟨t',rfl⟩:=ry
 exact rule i j t t' s _ _ ⟨.int (g i j),H,I.tok _,⟨_,rfl⟩,q⟩
def Ak{g:Int->Int->Bool}
  (rule:∀(i j:Int) (t u:Tok) (s:Shared) (Q:Value->Shared->Prop) (E:Value->Shared->Prop),Q (.bool (g i j)) s->wpAny (model X.prog X.w) X.A (f (.int i t) (.int j u)) Q E s) :
  cK X f (ph λi j=>.bl (g i j)):=by
 intro pins s O H x y v u Q I rx ry h
 obtain⟨i,j,rfl,rfl,q⟩:=h
 obtain⟨t,rfl⟩:=rx
 obtain⟨t',rfl⟩:=ry
 exact rule i j t t' s _ _ ⟨.bl (g i j),H,I,rfl,q⟩
def KD(i j:Int):Prop:=0<j/\j<1073741824
def Al(i j:Int):Prop:=(-(2 ^ 64)<i/\i<2 ^ 64)\/(-(2 ^ 64)<j/\j<2 ^ 64)
def Al.ok{i j:Int}(h:Al i j):IntMulOk i j:=by
 rcases h with ⟨h1,h2⟩ | ⟨h1,h2⟩
 .exact .of_left (intBits_le_64 h1 h2)
 .exact .of_right (intBits_le_64 h1 h2)
def fh:cK X (binaryOp .Add) (ph λi j=>.int (i+j)):=KC λ_ _ _ _ _ _ _ q=>add_int q
def nz:cK X (binaryOp .Sub) (ph λi j=>.int (i - j)):=KC λ_ _ _ _ _ _ _ q=>sub_int q
def wM:cK X (binaryOp .Mult) (rI Al λi j=>.int (i*j)):=jo λ_ _ _ _ _ _ _ hc q=>mul_int q hc.ok
theorem lV:cK X (binaryOp .FloorDiv) (rI KD λi j=>.int (i / j)):=jo λi j _ _ _ _ _ hc q=>by
 have h1:(0:Int)<j:=hc.1
 have h2:j<1073741824:=hc.2
 exact floordiv_int (by lia) (by rw[Int.fdiv_eq_ediv_of_nonneg i (by lia)];exact q) (.inl (PyProof.noPylong_small (by lia)))
theorem gy:cK X (binaryOp .Mod) (rI (λ_ j=>0<j) λi j=>.int (i % j)):=jo λi j _ _ _ _ _ hc q=>by
 have h1:(0:Int)<j:=hc
 exact mod_int' (by lia) (by rw[Int.fmod_eq_emod_of_nonneg i (by lia)];exact q)
def Ui{f:Value->Sem Value}{g:Int->Int}
  (rule:∀(i:Int) (t:Tok) (s:Shared) (Q:Value->Shared->Prop) (E:Value->Shared->Prop),Q (.int (g i) s.toks) { s with toks:=s.toks+1 }->wpAny (model X.prog X.w) X.A (f (.int i t)) Q E s) :
  DI X f (rU λi=>.int (g i)):=by
 intro pins s O H x v Q I rx h
 obtain⟨i,rfl,q⟩:=h
 obtain⟨t,rfl⟩:=rx
 exact rule i t s _ _ ⟨.int (g i),H,I.tok _,⟨_,rfl⟩,q⟩
def Uj:DI X (unaryOp .USub) (rU λi=>.int (-i)):=Ui λ_ _ _ _ _ q=>neg_int q
end
noncomputable def KG:V->V->Bool
 |.aB,.aB=>true | .aB,.int _=>true | .int _,.aB=>true | .aB,.bl _=>true | .bl _,.aB=>true | .aB,.str _=>true | .str _,.aB=>true
 |.int _,.int _=>true | .bl _,.bl _=>true | .str _,.str _=>true | .iU _,.iU _=>true
 |.int _,.str _=>true | .str _,.int _=>true | .bl _,.str _=>true | .str _,.bl _=>true
 |_,_=>false
def Uk:R2:=λx y H Q=>KG x y=true/\Q (.bl (decide (x=y))) H
def Ul:R2:=λx y H Q=>KG x y=true/\Q (.bl (!decide (x=y))) H
def KH{i j:Int}:decide (V.int i=V.int j)=(i==j):=by
 rw[sY]
 simp
def KI{i j:Bool}:decide (V.bl i=V.bl j)=(i==j):=by
 rw[sY]
 simp
def KJ{i j:Str}:decide (V.str i=V.str j)=(i==j):=by
 rw[sY]
 simp
def KL{i j:Array UInt8}:decide (V.iU i=V.iU j)=(i.toList==j.toList):=by
 rw[sY]
 cases i
 cases j
 simp
section
variable{X:Cx}{a b c:Expr}{ta tb tc:TE}{pos:Pos}
def cU{Q:VK}{k k':Bool}(I:Inv X pins O H s)(q:Q (.bl k) H)(e:k=k'):EP X pins O Q (.bool k') s:=by
 subst e
 exact⟨.bl k,H,I,rfl,q⟩
def lW:cK X (compareOp .Eq) Uk:=by
 intro pins s O H x y v u Q I rx ry h
 obtain⟨hs,q⟩:=h
 cases x with
 |aB=>
  cases rx
  cases y with
  |aB=>cases ry;exact PySem.EqNone.eq_none_none (cU I q (by simp))
  |bl j=>cases ry;exact PySem.EqNone.eq_none_bool (cU I q (by simp))
  |int j=>obtain⟨t',rfl⟩:=ry;exact PySem.EqNone.eq_none_int (cU I q (by simp))
  |str j=>obtain⟨t',rfl⟩:=ry;exact PySem.EqNone.eq_none_str (cU I q (by simp))
  |_=>exact absurd (show false=true from hs) bZ
 |bl i=>
  cases rx
  cases y with
  |aB=>cases ry;exact PySem.EqNone.eq_bool_none (cU I q (by simp))
  |bl j=>cases ry;exact eq_bool (cU I q KI)
  |str j=>obtain⟨t',rfl⟩:=ry;exact PySem.EqMixed.eq_bool_str (cU I q (by simp))
  |_=>exact absurd (show false=true from hs) bZ
 |int i=>
  obtain⟨t,rfl⟩:=rx
  cases y with
  |aB=>cases ry;exact PySem.EqNone.eq_int_none (cU I q (by simp))
  |int j=>obtain⟨t',rfl⟩:=ry;exact eq_int (cU I q KH)
  |str j=>obtain⟨t',rfl⟩:=ry;exact PySem.EqMixed.eq_int_str (cU I q (by simp))
  |_=>exact absurd (show false=true from hs) bZ
 |str i=>
  obtain⟨t,rfl⟩:=rx
  cases y with
  |aB=>cases ry;exact PySem.EqNone.eq_str_none (cU I q (by simp))
  |bl j=>cases ry;exact PySem.EqMixed.eq_str_bool (cU I q (by simp))
  |int j=>obtain⟨t',rfl⟩:=ry;exact PySem.EqMixed.eq_str_int (cU I q (by simp))
  |str j=>obtain⟨t',rfl⟩:=ry;exact eq_str (cU I q KJ)
  |_=>exact absurd (show false=true from hs) bZ
 |iU i=>
  obtain⟨t,rfl⟩:=rx
  cases y with
  |iU j=>obtain⟨t',rfl⟩:=ry;exact PySem.W.eq_bytes (cU I q KL)
  |_=>exact absurd (show false=true from hs) bZ
 |_=>cases y <;> exact absurd (show false=true from hs) bZ
def jQ:cK X (compareOp .NotEq) Ul:=by
 intro pins s O H x y v u Q I rx ry h
 obtain⟨hs,q⟩:=h
 cases x with
 |aB=>
  cases rx
  cases y with
  |aB=>cases ry;exact PySem.EqNone.ne_none_none (cU I q (by simp))
  |bl j=>cases ry;exact PySem.EqNone.ne_none_bool (cU I q (by simp))
  |int j=>obtain⟨t',rfl⟩:=ry;exact PySem.EqNone.ne_none_int (cU I q (by simp))
  |str j=>obtain⟨t',rfl⟩:=ry;exact PySem.EqNone.ne_none_str (cU I q (by simp))
  |_=>exact absurd (show false=true from hs) bZ
 |bl i=>
  cases rx
  cases y with
  |aB=>cases ry;exact PySem.EqNone.ne_bool_none (cU I q (by simp))
  |bl j=>cases ry;exact ne_bool (cU I q (eX not KI))
  |str j=>obtain⟨t',rfl⟩:=ry;exact PySem.EqMixed.ne_bool_str (cU I q (by simp))
  |_=>exact absurd (show false=true from hs) bZ
 |int i=>
  obtain⟨t,rfl⟩:=rx
  cases y with
  |aB=>cases ry;exact PySem.EqNone.ne_int_none (cU I q (by simp))
  |int j=>obtain⟨t',rfl⟩:=ry;exact ne_int (cU I q (eX not KH))
  |str j=>obtain⟨t',rfl⟩:=ry;exact PySem.EqMixed.ne_int_str (cU I q (by simp))
  |_=>exact absurd (show false=true from hs) bZ
 |str i=>
  obtain⟨t,rfl⟩:=rx
  cases y with
  |aB=>cases ry;exact PySem.EqNone.ne_str_none (cU I q (by simp))
  |bl j=>cases ry;exact PySem.EqMixed.ne_str_bool (cU I q (by simp))
  |int j=>obtain⟨t',rfl⟩:=ry;exact PySem.EqMixed.ne_str_int (cU I q (by simp))
  |str j=>obtain⟨t',rfl⟩:=ry;exact ne_str (cU I q (eX not KJ))
  |_=>exact absurd (show false=true from hs) bZ
 |iU i=>
  obtain⟨t,rfl⟩:=rx
  cases y with
  |iU j=>obtain⟨t',rfl⟩:=ry;exact PySem.W.ne_bytes (cU I q (eX not KL))
  |_=>exact absurd (show false=true from hs) bZ
 |_=>cases y <;> exact absurd (show false=true from hs) bZ
def kK:cK X (compareOp .Lt) (ph λi j=>.bl (decide (i<j))):=Ak λ_ _ _ _ _ _ _ q=>lt_int q
def qU:cK X (compareOp .LtE) (ph λi j=>.bl (decide (i<=j))):=Ak λ_ _ _ _ _ _ _ q=>le_int q
def Um:cK X (compareOp .Gt) (ph λi j=>.bl (decide (j<i))):=Ak λ_ _ _ _ _ _ _ q=>gt_int q
def Uo:cK X (compareOp .GtE) (ph λi j=>.bl (decide (j<=i))):=Ak λ_ _ _ _ _ _ _ q=>ge_int q
def Am:cK X (compareOp .In) (λx y H Q=>∃i j,x = .str i/\y = .str j/\Q (.bl (!(Builtin.Str.occurrences j i 0 j.length 1).isEmpty)) H):=by
 intro pins s O H x y v u Q I rx ry h
 obtain⟨i,j,rfl,rfl,q⟩:=h
 obtain⟨t,rfl⟩:=rx
 obtain⟨t',rfl⟩:=ry
 exact in_str (cU I q rfl)
def wN:cK X (compareOp .Is) (λx y H Q=>y = .aB/\Q (.bl (decide (x = .aB))) H):=by
 intro pins s O H x y v u Q I rx ry h
 obtain⟨rfl,q⟩:=h
 cases ry
 refine is_none_gen (cU I q ?_)
 cases x <;> first
  |(cases rx;rfl)
  |(obtain⟨t,rfl⟩:=rx;rfl)
def KN:cK X (compareOp .NotIn) (λx y H Q=>∃i j,x = .str i/\y = .str j/\Q (.bl (!(!(Builtin.Str.occurrences j i 0 j.length 1).isEmpty))) H):=by
 intro pins s O H x y v u Q I rx ry h
 obtain⟨i,j,rfl,rfl,q⟩:=h
 obtain⟨t,rfl⟩:=rx
 obtain⟨t',rfl⟩:=ry
 exact notIn_str (cU I q rfl)
def An(b:Expr){op:CmpOp}(h:op ≠ .In:=by decide)(h2:op ≠ .NotIn:=by decide):behindInMarks op b=false:=by
 have e1:(op==CmpOp.In)=false:=by cases op <;> first | rfl | exact absurd rfl h
 have e2:(op==CmpOp.NotIn)=false:=by cases op <;> first | rfl | exact absurd rfl h2
 cases b <;> simp[behindInMarks,e1,e2]
def nA{op:CmpOp}(ho:cK X (compareOp op) r)(ha:PE X a ta)(hb:PE X b tb)(hm:behindInMarks op b=false:=by first | exact An _ | rfl):PE X (.Compare a [op] [b] pos) (qT r ta tb):=by
 intro pins s O H Q I h
 exact wpAny_Compare1 (DJ ha hb I h λv u s2 x y H2 I2 rx ry q=>ho pins s2 O H2 x y v u Q I2 rx ry q) hm
def DK(t:TE):TT:=λO H Q=>t O H λx H' =>∃k,x = .bl k/\Q k H'
def cg{op:CmpOp}(ho:cK X (compareOp op) r)(ha:PE X a ta)(hb:PE X b tb)(hm:behindInMarks op b=false:=by first | exact An _ | rfl):PT X (.Compare a [op] [b] pos) (DK (qT r ta tb)):=by
 intro pins s O H Q I h
 refine wpAny_isTrue_Compare1 (aE (ha pins s O H _ I h) λv s1 ⟨x,H1,I1,r1,q1⟩=>aE (hb pins s1 O H1 _ I1 q1) λu s2 ⟨y,H2,I2,r2,q2⟩=>
  aE (ho pins s2 O H2 x y v u _ I2 r1 r2 q2) λc s3 ⟨z,H3,I3,r3,k,e,q3⟩=>?_) hm
 subst e
 cases r3
 exact oJ ⟨H3,I3,q3⟩
def KO(r r':R2)(ta tb tc:TE):TE:=λO H Q=>ta O H λx H1=>tb O H1 λy H2=>r x y H2 λz H3=>∃k,z = .bl k/\
 (if k=true then tc O H3 λw' H4=>r' y w' H4 Q else Q (.bl false) H3)
def Up{op:CmpOp}(ho:cK X (compareOp op) r)(kI:cK X (compareOp qV) r')(ha:PE X a ta)(hb:PE X b tb)(hc:PE X c tc)
  (hm:lastMarks [op,qV] [b,c]=false:=by with_unfolding_all rfl):PE X (.Compare a [op,qV] [b,c] pos) (KO r r' ta tb tc):=by
 intro pins s O H Q I h
 refine Compare_chain (aE (ha pins s O H _ I h) λv s1 ⟨x,H1,I1,r1,q1⟩=>chain_link (aE (hb pins s1 O H1 _ I1 q1) λu s2 ⟨y,H2,I2,r2,q2⟩=>
  aE (ho pins s2 O H2 x y v u _ I2 r1 r2 q2) λd s3 ⟨z,H3,I3,r3,k,e,q3⟩=>?_)) hm
 subst e
 cases r3
 refine oJ ?_
 cases k with
 |false=>exact ite_ff ⟨.bl false,H3,I3,rfl,q3⟩
 |true=>exact ite_tt (chain_last (aE (hc pins s3 O H3 _ I3 q3) λw' s4 ⟨z',H4,I4,r4,q4⟩=>kI pins s4 O H4 y z' u w' Q I4 r2 r4 q4))
def wO{op:CmpOp}(ho:cK X (compareOp op) r)(kI:cK X (compareOp qV) r')(ha:PE X a ta)(hb:PE X b tb)(hc:PE X c tc)
  (hm:lastMarks [op,qV] [b,c]=false:=by with_unfolding_all rfl):PT X (.Compare a [op,qV] [b,c] pos) (DK (KO r r' ta tb tc)):=by
 intro pins s O H Q I h
 refine isTrue_chain (aE (ha pins s O H _ I h) λv s1 ⟨x,H1,I1,r1,q1⟩=>test_link (aE (hb pins s1 O H1 _ I1 q1) λu s2 ⟨y,H2,I2,r2,q2⟩=>
  aE (ho pins s2 O H2 x y v u _ I2 r1 r2 q2) λd s3 ⟨z,H3,I3,r3,k,e,q3⟩=>?_)) hm
 subst e
 cases r3
 refine oJ ?_
 cases k with
 |false=>
  obtain⟨k',e',q'⟩:=q3
  cases e'
  exact ite_ff ⟨H3,I3,q'⟩
 |true=>
  refine ite_tt (test_last (aE (hc pins s3 O H3 _ I3 q3) λw' s4 ⟨z',H4,I4,r4,q4⟩=>aE (kI pins s4 O H4 y z' u w' _ I4 r2 r4 q4) λd' s5 ⟨z2,H5,I5,r5,k2,e2,q5⟩=>?_))
  subst e2
  cases r5
  exact oJ ⟨H5,I5,q5⟩
def DL(K:Frag)(x:V)(H:Hp)(k:Bool):Prop:=
 match x with
 |.aB=>k=false
 |.bl b=>k=b
 |.int i=>k=(i != 0)
 |.str y=>y.length<=sizeLine/\k=((y.length:Int) != 0)
 |.iU y=>y.size<=sizeLine/\k=((y.size:Int) != 0)
 |.ref p=>(∃xs,ak K H p xs/\k = !xs.isEmpty)\/(∃xs,ax K H p xs/\k = !xs.isEmpty)\/∃kvs,H p=some (.dK kvs)/\k = !kvs.isEmpty
 |_=>False
def Uq{kvs:List (κ×V)}{vs:List (κ×Value)}(r:KV kvs vs):(!vs.isEmpty) = !kvs.isEmpty:=by
 cases r <;> rfl
def KP(r:Vals xs its):(!its.toArray.isEmpty) = !xs.isEmpty:=by
 cases r <;> simp
def nB:(sizeLine:Nat)<2 ^ 63:=by rw[zr];decide
theorem Ur:Ue X (λx H Q=>∃k,DL X.K x H k/\Q k H):=by
 intro pins s O H x v Q I rx h
 obtain⟨k,e,q⟩:=h
 have hl:=nB
 have hs:sizeLine=16777216:=zr
 cases x with
 |aB=>
  cases rx
  have e':k=false:=e
  subst e'
  exact truthy_none ⟨H,I,q⟩
 |bl b=>
  cases rx
  have e':k=b:=e
  subst e'
  exact oJ ⟨H,I,q⟩
 |int i=>
  obtain⟨t,rfl⟩:=rx
  have e':k=(i != 0):=e
  subst e'
  exact PySem.P.truthy_int ⟨H,I,q⟩
 |str y=>
  obtain⟨t,rfl⟩:=rx
  obtain⟨hy,e'⟩:y.length<=sizeLine/\k=((y.length:Int) != 0):=e
  subst e'
  exact PySem.P.truthy_str (by lia) ⟨H,I.tok _,q⟩
 |iU y=>
  obtain⟨t,rfl⟩:=rx
  obtain⟨hy,e'⟩:y.size<=sizeLine/\k=((y.size:Int) != 0):=e
  subst e'
  exact PySem.W.truthy_bytes (by lia) ⟨H,I.tok _,q⟩
 |ref p=>
  cases rx
  have e':(∃xs,ak X.K H p xs/\k = !xs.isEmpty)\/(∃xs,ax X.K H p xs/\k = !xs.isEmpty)\/∃kvs,H p=some (.dK kvs)/\k = !kvs.isEmpty:=e
  rcases e' with ⟨xs,hx,e'⟩ | ⟨xs,hx,e'⟩ | ⟨kvs,hx,e'⟩
  .subst e'
   obtain⟨its,r,pl,hz⟩:=I.list hx
   have hlen:=r.length
   exact wpAny_truthy_list pl.isList (by simp only[bg];lia) ⟨H,I.tok _,by rw[KP r];exact q⟩
  .subst e'
   obtain⟨its,r,pl,hz⟩:=I.tuple hx
   have hlen:=r.length
   exact truthy_tuple pl (by simp only[bg];lia) ⟨H,I.tok _,by rw[KP r];exact q⟩
  .subst e'
   obtain⟨hz,hS,vs,r,m⟩:kvs.length<=sizeLine/\(p==sysModules)=false/\∃vs,KV kvs vs/\s.heap.DictOf (bV X.prog X.w) p vs:=I.aD p _ hx
   have hlen:kvs.length=vs.length:=dy r
   exact wpAny_truthy_dict hS m (by lia) ⟨H,I.tok _,by rw[Uq r];exact q⟩
 |_=>exact(show False from e).elim
def tQ(ha:PE X a ta)(he:∀whole,isTrue a X.env whole=(do let v<-whole;standAt a.pos;holding [v] (truthy v))) :
  PT X a (λO H Q=>ta O H λx H' =>∃k,DL X.K x H' k/\Q k H'):=by
 intro pins s O H Q I h
 exact isTrue_plain (aE (ha pins s O H _ I h) λv s1 ⟨x,H1,I1,r1,q1⟩=>Ur pins s1 O H1 x v Q I1 r1 q1) (he _)
def pq:cK X (binaryOp .Add) (λx y H Q=>∃i j,x = .str i/\y = .str j/\i.length+j.length<=sizeLine/\Q (.str (i++j)) H):=by
 intro pins s O H x y v u Q I rx ry h
 obtain⟨i,j,rfl,rfl,hz,q⟩:=h
 obtain⟨t,rfl⟩:=rx
 obtain⟨t',rfl⟩:=ry
 exact add_str (λt' tk=>⟨.str (i++j),H,I.tok _,⟨_,rfl⟩,q⟩) hz
def vals1{x:V}(r:Vals [x] us):∃u,us=[u]/\RelV x u:=by
 cases r with
 |cons r1 r2=>cases r2;exact⟨_,rfl,r1⟩
def vals2{x:V}(r:Vals [x,y] us):∃u w',us=[u,w']/\RelV x u/\RelV y w':=by
 cases r with
 |cons r1 r2=>
  cases r2 with
  |cons r3 r4=>cases r4;exact⟨_,_,rfl,r1,r3⟩
def Us:fL X (.type "int") (λxs H Q=>(∃i,xs=[.int i]/\Q (.int i) H)\/∃k,xs=[.bl k]/\Q (.int (if k then 1 else 0)) H):=by
 intro pins s O H xs us Q I r h
 rcases h with ⟨i,rfl,q⟩ | ⟨k,rfl,q⟩
 .obtain⟨u,rfl,t,rfl⟩:=vals1 r
  exact call_int_int ⟨.int i,H,I,⟨_,rfl⟩,q⟩
 .obtain⟨u,rfl,r1⟩:=vals1 r
  cases r1
  exact call_int_bool ⟨.int (if k then 1 else 0),H,I.tok _,⟨_,rfl⟩,q⟩
end
structure qW(h:Heap)(x dx C:Addr)(mA:Str->Option Value):Prop where
 obj:h.get? x=some (instObj C dx)
 ns:h.Ns1 dx mA
 ne:dx≠x
def Ut(n:h.Ns1 dx mA):∃od,h.get? dx=some od/\∀name,lookIn name od=some (mA name):=by
 obtain⟨o,es,ep,ho,hd,hk,_,hm⟩:=n
 refine⟨o,ho,λname=>?_⟩
 have e:=hm name
 unfold nsFind findBy at e
 rw[<-Array.find?_toList] at e
 unfold lookIn
 rw[hd]
 dsimp only
 split
 .rename_i y q
  rw[q] at e
  exact eX some e
 .rename_i q
  rw[q] at e
  have a:es.toList.any (·.refKey)=false:=by
   rw[JG]
   intro y hy
   obtain⟨z,t,qX⟩:=hk y (SG.mp hy)
   simp[DictEntry.refKey,qX]
  have a':¬es.toList.any (·.refKey)=true:=by rw[a];exact bZ
  rw[av a']
  exact eX some e
def qW.look{x:Addr}(I:qW h x dx C mA):∃od,PySem.W.InstAt h x (instObj C dx) C (some od)/\∀name,lookIn name od=some (mA name):=
 let ⟨od,ho,hl⟩:=Ut I.ns
 ⟨od,⟨I.obj,rfl,rfl,ho⟩,hl⟩
section
variable{prog:Program}{w:World}{A:Around}{E:Value->Shared->Prop}{s:Shared}{K:Frag}{x dx C f:Addr}{mA:Str->Option Value}{name:Str}{v:Value}
def get_map(X:K.In s.heap)(I:qW s.heap x dx C mA)(hg:plainGet K C name=true)(hh:hasDictIn K C=true)
  (ha:findIn K (.ref C) name=some none) (hv:mA name=some v) (Uu:PySem.W.handedIn v=true) (h:Q v { s with toks:=s.toks+1 }) :
  wpAny (model prog w) A (getAttr (.ref x) name expr) Q E s:=by
 obtain⟨od,J,hl⟩:=I.look
 exact PySem.W.get_value X J (JH hg).1 (PySem.W.findObj_own hh ha rfl (by rw[hl,hv])) Uu h
def Uv{Q:Value×List Value->Shared->Prop}(X:K.In s.heap)(I:qW s.heap x dx C mA)(hg:plainGet K C name=true)
  (hf:findIn K (.ref C) name=some (some (.ref f))) (ht:isFn K (.ref f)=true) (hv:mA name=none) (h:Q (.ref f,[.ref x]) s) :
  wpAny (model prog w) A (getMethod (.ref x) name pl) Q E s:=by
 obtain⟨od,J,hl⟩:=I.look
 exact PySem.W.method_fn X J (JH hg).1 (JH hg).2 hf (mY.mp ht) (by show(lookIn name od).map (·.isSome)=some false;rw[hl,hv];rfl) h
theorem Uw{Q:Unit->Shared->Prop}(X:K.In s.heap)(I:qW s.heap x dx C mA)
  (hs:findIn K (.ref C) "__setattr__"=some (some (.builtin "object.__setattr__"))) (hp:plainOver K C=true) (ht:takerIn K C name=some none) (hh:hasDictIn K C=true)
  (hw:PySem.Within mA ns) (hsz:ns.length<=sizeLine)
  (h:∀h',qW h' x dx C (λy=>if y=name then some v else mA y)->Heap.SameBut dx s.heap h'->Q () { s with heap:=h',toks:=s.toks+2 }) :
  wpAny (model prog w) A (setAttr (.ref x) name v) Q E s:=by
 obtain⟨od,J,hl⟩:=I.look
 refine PySem.W.set_plain X J hs (PySem.W.osa_open (s:={ s with toks:=s.toks+1 }) (r:=none) X J hp ht λb=>?_)
 obtain⟨cd,hc,wC⟩:=PySem.W.any_some hh
 have hx:s.heap.get? x=some ⟨.ref C,some dx,.plain,#[]⟩:=I.obj
 refine aj (aH (aj (aj (wpAny_loadPart hx (aj (Looks.here (s:={ s with toks:=s.toks+1 }) (PySem.W.looks_clsIn X hc) ?_))))))
 rw[wC]
 refine aH (a:=some dx) (aj (aH (aj ?_)))
 refine wpAny_nsSet1 (s:={ s with toks:=s.toks+1 }) I.ns λh' qY wQ=>?_
 obtain⟨oD,esD,epD,Ux,Uy,Uz⟩:=qY.count (PySem.Within.cons name v hw)
 refine aj (wpAny_lookBehind Ux (by rw[Uy];exact pastItsLine_dict (bL Uz (by rw[cQ];lia))) ?_)
 exact aH (h _ ⟨(wQ.2 _ (bu I.ne)).trans I.obj,qY,I.ne⟩ wQ)
def UA{vs:List Value}(X:K.In s.heap)(hm:makesIn K C=true)
  (hi:findIn K (.ref C) "__init__"=some (some (.ref f))) (hf:PySem.W.typeIn K (.ref f)=some (.type "function"))
  (h:codeAny (model prog w) (A.under (.builtin "type.__call__" ⟨.ref C::vs,kw⟩)) (.call (.ref f) ⟨.ref (s.heap.objs.size+1)::vs,kw⟩) (PySem.W.InitBack (s.heap.objs.size+1) R)
   { s with heap:=(s.heap.push emptyDict).push (instObj C s.heap.objs.size) }) :
  codeAny (model prog w) A (.call (.ref C) ⟨vs,kw⟩) R s:=by
 obtain⟨hh,g,d,t,os⟩:=s
 exact PySem.W.make_core (PySem.W.makes_of X hm) (PySem.W.looks_findIn X hi) (λself=>PySem.W.bind_fn X self hf) (.inl rfl) h
def UB(X:K.In s.heap)(hm:makesIn K C=true)
  (hi:findIn K (.ref C) "__init__"=some (some (.builtin "object.__init__")))
  (hb:∀self,Looks (model prog w) s.heap (bindSpecial (.builtin "object.__init__") self) (.builtin "object.__init__",[self]))
  (h:codeAny (model prog w) (A.under (.builtin "type.__call__" ⟨[.ref C],[]⟩)) (.call (.builtin "object.__init__") ⟨[.ref (s.heap.objs.size+1)],[]⟩) (PySem.W.InitBack (s.heap.objs.size+1) R)
   { s with heap:=(s.heap.push emptyDict).push (instObj C s.heap.objs.size) }) :
  codeAny (model prog w) A (.call (.ref C) ⟨[],[]⟩) R s:=by
 obtain⟨hh,g,d,t,os⟩:=s
 exact PySem.W.make_core (PySem.W.makes_of X hm) (PySem.W.looks_findIn X hi) hb (.inr ⟨rfl,rfl⟩) h
end
noncomputable def aX(f:Str)(v:V):List (Str×V)->List (Str×V)
 |[]=>[(f,v)]
 |(g,x)::r=>if g=f then (g,v)::r else (g,x)::aX f v r
theorem cL(f g:Str)(v:V):∀fs:List (Str×V),(aX f v fs).lookup g=if g=f then some v else fs.lookup g
 |[]=>by
  show List.lookup g [(f,v)]=_
  by_cases h:g=f
  .have hb:(g==f)=true:=mY.mpr h
   simp only[List.lookup,hb,aA h]
  .have hb:(g==f)=false:=sV.mpr h
   simp only[List.lookup,hb,av h]
 |(k,x)::r=>by
  have ih:=cL f g v r
  rw[show aX f v ((k,x)::r)=(if k=f then (k,v)::r else (k,x)::aX f v r) from rfl]
  by_cases hk:k=f
  .rw[aA hk]
   by_cases h:g=k
   .have hb:(g==k)=true:=mY.mpr h
    simp only[List.lookup,hb,aA (h.trans hk)]
   .have hb:(g==k)=false:=sV.mpr h
    simp only[List.lookup,hb,av (λe:g=f=>h (e.trans hk.symm))]
  .rw[av hk]
   by_cases h:g=k
   .have hb:(g==k)=true:=mY.mpr h
    simp only[List.lookup,hb,av (λe:g=f=>hk (h.symm.trans e))]
   .have hb:(g==k)=false:=sV.mpr h
    simp only[List.lookup,hb]
    exact ih
theorem DM(f:Str)(v:V):∀fs:List (Str×V),f∈(aX f v fs).map (·.1)/\∀g,g∈fs.map (·.1)->g∈(aX f v fs).map (·.1)
 |[]=>⟨by simp[aX],λg h=>by simp at h⟩
 |(k,x)::r=>by
  obtain⟨i1,i2⟩:=DM f v r
  rw[show aX f v ((k,x)::r)=(if k=f then (k,v)::r else (k,x)::aX f v r) from rfl]
  by_cases hk:k=f
  .rw[aA hk]
   subst hk
   exact⟨by simp,λg h=>by simpa using h⟩
  .rw[av hk]
   refine⟨?_,λg h=>?_⟩
   .rw[bQ]
    exact bU _ i1
   .rw[bQ] at h ⊢
    rcases b9.mp h with e | e
    .exact b9.mpr (.inl e)
    .exact bU _ (i2 g e)
theorem KQ(f:Str)(v:V):∀fs:List (Str×V),(aX f v fs).length<=fs.length+1
 |[]=>by simp[aX]
 |(k,x)::r=>by
  have ih:=KQ f v r
  rw[show aX f v ((k,x)::r)=(if k=f then (k,v)::r else (k,x)::aX f v r) from rfl]
  by_cases hk:k=f
  .rw[aA hk,cQ,cQ];lia
  .rw[av hk,cQ,cQ];lia
def fI.some_of{o:Option Value}(r:fI (some v) o):∃u,o=some u/\RelV v u:=by
 cases o with
 |none=>exact(show False from r).elim
 |some u=>exact⟨u,rfl,r⟩
def fI.none_of{o:Option Value}(r:fI none o):o=none:=by
 cases o with
 |none=>rfl
 |some u=>exact(show False from r).elim
def UC(r:RelV v u):PySem.W.handedIn u=true:=by
 cases v with
 |aB=>cases(show u=Value.none from r);rfl
 |bl b=>cases(show u=Value.bool b from r);rfl
 |int i=>obtain⟨t,e⟩:=(show ∃t,u=Value.int i t from r);cases e;rfl
 |str x=>obtain⟨t,e⟩:=(show ∃t,u=Value.str x t from r);cases e;rfl
 |iU b=>obtain⟨t,e⟩:=(show ∃t,u=Value.bytes b t from r);cases e;rfl
 |qJ b=>obtain⟨t,e⟩:=(show ∃t,u=Value.float b t from r);cases e;rfl
 |ref a=>cases(show u=Value.ref a from r);rfl
 |ty n=>cases(show u=Value.type n from r);rfl
section
variable{P:Program}{w:World}{H H':Hp}{h h':Heap}{a C dx:Addr}{fs wA:List (Str×V)}
def wR(aD:c8 P w H h)(e:H a=some (.ins C dx fs)):∃mA,qW h a dx C mA/\(∀f,fI (fs.lookup f) (mA f))/\PySem.Within mA (fs.map (·.1))/\fs.length<=1000/\H dx=some (.own a):=by
 obtain⟨d,z,ne,ob,mA,n,r,q⟩:=(show cO P w H h a (.ins C dx fs) from aD a _ e)
 exact⟨mA,⟨ob,n,ne⟩,r,q,z,d⟩
end
structure cG(K:Frag)(C:Addr):Prop where
 pg:plainGet K C Str.empty=true
 hd:hasDictIn K C=true
 po:plainOver K C=true
 sa:findIn K (.ref C) "__setattr__"=some (some (.builtin "object.__setattr__"))
def cG.get(c:cG K C)(f:Str):plainGet K C f=true:=c.pg
def bN(K:Frag)(C:Addr)(f:Str):Prop:=findIn K (.ref C) f=some none
def bN.UD{f:Str}(n:bN K C f):takerIn K C f=some none:=by
 unfold takerIn
 rw[show findIn K (.ref C) f=some none from n]
 rfl
structure Meth(K:Frag)(C:Addr)(m:Str)(f:Addr):Prop where
 at_:findIn K (.ref C) m=some (some (.ref f))
 fn:isFn K (.ref f)=true
 kp:keepIn K (.ref f)=true
section
variable{X:Cx}{pins:List (Addr×Obj)}{O:St}{H:Hp}{s:Shared}{a C dx:Addr}{fs:List (Str×V)}{f:Str}{v:V}{A:Around}{E:Value->Shared->Prop}
def UE{b:Bool}(I:Inv X pins O H s)(e:H a=some (.ins C dx fs))(c:cG X.K C)(n:bN X.K C f)(l:fs.lookup f=some v)
  (h:∀u s',Inv X pins O H s'->RelV v u->Q u s'):wpAny (model X.prog X.w) A (getAttr (.ref a) f b) Q E s:=by
 obtain⟨mA,σ,r,_,_,_⟩:=wR I.aD e
 obtain⟨u,hu,ru⟩:=fI.some_of (v:=v) (o:=mA f) (by rw[<-l];exact r f)
 exact get_map I.cY σ (c.get f) c.hd n hu (UC ru) (h u _ (I.tok _) ru)
def KR{m:Str}{g:Addr}{Q:Value×List Value->Shared->Prop}(I:Inv X pins O H s)(e:H a=some (.ins C dx fs))(c:cG X.K C)(k:Meth X.K C m g)(l:fs.lookup m=none)
  (h:Q (.ref g,[.ref a]) s):wpAny (model X.prog X.w) A (getMethod (.ref a) m pl) Q E s:=by
 obtain⟨mA,σ,r,_,_,_⟩:=wR I.aD e
 have hn:mA m=none:=fI.none_of (by rw[<-l];exact r m)
 exact Uv I.cY σ (c.get m) k.at_ k.fn hn h
theorem UG{Q:Unit->Shared->Prop}(I:Inv X pins O H s)(e:H a=some (.ins C dx fs))(c:cG X.K C)(n:bN X.K C f)(hl:fs.length<1000)(ry:RelV y u)
  (h:∀s',Inv X pins O (upd H a (.ins C dx (aX f y fs))) s'->Q () s'):wpAny (model X.prog X.w) A (setAttr (.ref a) f u) Q E s:=by
 obtain⟨mA,σ,r,wi,_,ho⟩:=wR I.aD e
 have hz:(fs.map (·.1)).length<=sizeLine:=by rw[aq,zr];lia
 refine Uw I.cY σ c.sa c.po n.UD c.hd wi hz λh' σ' sb=>h _ ?_
 have hd:∃o,h'.get? dx=some o:=let ⟨o,_,_,e',_⟩:=σ'.ns;⟨o,e'⟩
 refine I.write (x:=a) (e:=dx) (by rw[e];exact True.intro) (.inr ho) (λb q hb z=>(sb.2 b hb).trans z) hd ?_
 refine⟨by rw[ao σ.ne];exact ho,?_,σ.ne,σ'.obj,_,σ'.ns,λg=>?_,λg hg=>?_⟩
 .have:=KQ f y fs;lia
 .show fI ((aX f y fs).lookup g) (if g=f then some u else mA g)
  rw[cL]
  by_cases q:g=f
  .rw[aA q,aA q];exact ry
  .rw[av q,av q];exact r g
 .by_cases q:g=f
  .rw[q];exact(DM f y fs).1
  .refine(DM f y fs).2 g (wi g λz=>hg ?_)
   show(if g=f then some u else mA g)=none
   rw[av q];exact z
def Inv.made(I:Inv X pins O H s):Inv X pins O (upd (upd H s.heap.objs.size (.own (s.heap.objs.size+1))) (s.heap.objs.size+1) (.ins C s.heap.objs.size []))
  { s with heap:=(s.heap.push emptyDict).push (instObj C s.heap.objs.size) }:=by
 have e1:(s.heap.push emptyDict).get? s.heap.objs.size=some emptyDict:=cq s.heap rfl
 have e2:((s.heap.push emptyDict).push (instObj C s.heap.objs.size)).get? (s.heap.objs.size+1)=some (instObj C s.heap.objs.size):=by
  have:=cq (s.heap.push emptyDict) (o:=instObj C s.heap.objs.size) rfl
  rwa [km] at this
 have e3:(s.heap.push emptyDict).Ns s.heap.objs.size (λ_=>none):=⟨emptyDict,#[],_,e1,rfl,(λe he=>absurd he (by simp)),λ_=>rfl⟩
 have I1:=I.laid (a:=s.heap.objs.size) (o := .own (s.heap.objs.size+1)) (h':=s.heap.push emptyDict) (t':=s.toks) (λb u q=>bx _ q) (aN _) ⟨_,e1⟩
 refine I1.laid (a:=s.heap.objs.size+1) (o := .ins C s.heap.objs.size []) (t':=s.toks) (λb u q=>bx _ q) (Nat.le_of_eq (km _ _)) ?_
 have ne:s.heap.objs.size≠s.heap.objs.size+1:=bO (oK _)
 refine⟨by rw[ao ne,au],bA _,ne,e2,λ_=>none,(Heap.Ns1.of_empty e3).at λo q=>bx _ q,λ_=>True.intro,λy hy=>absurd rfl hy⟩
def KS{env:Env}{f:Str}{s:Shared}(hb:attributeBase e f env (eval e env)=eval e env)
  (h:wpAny (model prog w) A (eval e env) (λo s₁=>wpAny (model prog w) A (getAttr o f true) Q E s₁) E s):wpAny (model prog w) A (eval (.Attribute e f pos) env) Q E s:=
 Attribute_any_ h (by rw[arm_eval_Attribute,hb])
end
def UH(K:Frag)(ta:TE)(f:Str):TE:=λO H Q=>ta O H λx H1=>∃a C dx fs v,x = .ref a/\H1 a=some (.ins C dx fs)/\cG K C/\bN K C f/\fs.lookup f=some v/\Q v H1
def UI(K:Frag)(ta tv:TE)(f:Str):TS:=λD O H=>tv O H λy H1=>ta O H1 λx H2=>∃a C dx fs,x = .ref a/\H2 a=some (.ins C dx fs)/\cG K C/\bN K C f/\fs.length<1000/\
 D.nx O (upd H2 a (.ins C dx (aX f y fs)))
section
variable{X:Cx}{o e value:Expr}{f:Str}{pos pos' nC:Pos}{ta tv:TE}
def cH(he:PE X e ta)(hb:attributeBase e f X.env (eval e X.env)=eval e X.env):PE X (.Attribute e f pos) (UH X.K ta f):=by
 intro pins s O H Q I h
 refine KS hb (aE (he pins s O H _ I h) λu s1 h_=>?_)
 obtain⟨x,H1,I1,rx,a,C,dx,fs,v,ex,ea,c,n,l,q⟩:=h_
 subst ex
 obtain rfl:u=Value.ref a:=rx
 exact UE I1 ea c n l λu' s2 I2 ru=>⟨v,H1,I2,ru,q⟩
def kL(ha:PE X o ta)(hv:PE X value tv)(hs:swapsWith value (some (.Attribute o f pos')) pos.line X.env=pure false):PS X (.Assign [.Attribute o f pos'] value pos) (UI X.K ta tv f):=by
 intro pins s O H D I h
 refine plainObj_wpAny_Assign_Attribute (aE (hv pins s O H _ I h) λu s1 ⟨y,H1,I1,ry,q⟩=>aE (ha pins s1 O H1 _ I1 q) λov s2 ⟨x,H2,I2,rx,a,C,dx,fs,ex,ea,c,n,l,q2⟩=>?_) hs
 subst ex
 obtain rfl:ov=Value.ref a:=rx
 exact UG I2 ea c n l ry λs3 I3=>⟨O,_,I3,q2⟩
end
section
variable{X:Cx}{pins:List (Addr×Obj)}{O:St}{H:Hp}{s:Shared}{A:Around}{E:Value->Shared->Prop}{Q:Value->Shared->Prop}{c:Value}{b:Bool}
inductive gU(K:Frag)(H:Hp):V->Value->Prop where
 |aB:gU K H .aB (.type "NoneType")
 |bl (x:Bool):gU K H (.bl x) (.type "bool")
 |int (i:Int):gU K H (.int i) (.type "int")
 |str (x:Str):gU K H (.str x) (.type "str")
 |qJ (x:UInt64):gU K H (.qJ x) (.type "float")
 |lst {a:Addr}{xs:List V}(e:H a=some (.lst xs)):gU K H (.ref a) (.type "list")
 |dS {a:Addr}{o:Obj}{xs:List V}(e:H a=some (.dS o (.lst xs))):gU K H (.ref a) (.type "list")
 |tup {a:Addr}{xs:List V}(e:H a=some (.tup xs)):gU K H (.ref a) (.type "tuple")
 |dK {a:Addr}{kvs:List (Key×V)}(e:H a=some (.dK kvs)):gU K H (.ref a) (.type "dict")
 |dT {a:Addr}{kvs:List (List Key×V)}(e:H a=some (.dT kvs)):gU K H (.ref a) (.type "dict")
 |ins {a C dx:Addr}{fs:List (Str×V)}(e:H a=some (.ins C dx fs)) (cl:cG K C) (ha:findIn K (.ref C) "__class__"=some (some (.builtin "object.__class__")))
   (hn:specialIn K (.builtin "object.__class__") "__get__"=some (some (.builtin "getset_descriptor.__get__"))) (gB:takesIn K (.builtin "object.__class__")=some true)
   (hm:mroIn K C (.type "object")=some true):gU K H (.ref a) (.ref C)
def KU{x:V}{t:Value}(I:Inv X pins O H s)(rx:RelV x u)(ty:gU X.K H x t)(e:kitOne X.K t c=some b)(h:∀tk,Q (.bool b) { s with toks:=tk }) :
  wpAny (model X.prog X.w) A (call (.builtin "isinstance") [u,c]) Q E s:=by
 cases ty with
 |aB=>cases(show u=Value.none from rx);exact mZ PySem.W.kitx_none I.cY True.intro e (λz=>nomatch z) h
 |bl y=>cases(show u=Value.bool y from rx);exact mZ PySem.W.kitx_bool I.cY True.intro e (λz=>nomatch z) h
 |int i=>obtain⟨t,q⟩:=(show ∃t,u=Value.int i t from rx);cases q;exact mZ PySem.W.kitx_int I.cY True.intro e (λz=>nomatch z) h
 |str y=>obtain⟨t,q⟩:=(show ∃t,u=Value.str y t from rx);cases q;exact mZ PySem.W.kitx_str I.cY True.intro e (λz=>nomatch z) h
 |qJ y=>obtain⟨t,q⟩:=(show ∃t,u=Value.float y t from rx);cases q;exact mZ PySem.W.kitx_float I.cY True.intro e (λz=>nomatch z) h
 |@lst a xs ea=>
  cases(show u=Value.ref a from rx)
  obtain⟨_,_,n,_,h1⟩:=(show cO X.prog X.w H s.heap a (.lst xs) from I.aD a _ ea)
  exact mZ PySem.W.kitx_list I.cY ⟨_,h1,rfl⟩ e (λz=>nomatch z) h
 |@dS a ob xs ea=>
  cases(show u=Value.ref a from rx)
  obtain⟨_,_,_,n,_,h1⟩:=(show cO X.prog X.w H s.heap a (.dS ob (.lst xs)) from I.aD a _ ea)
  exact mZ PySem.W.kitx_list I.cY ⟨_,h1,rfl⟩ e (λz=>nomatch z) h
 |@tup a xs ea=>
  cases(show u=Value.ref a from rx)
  obtain⟨_,_,_,p⟩:=(show cO X.prog X.w H s.heap a (.tup xs) from I.aD a _ ea)
  obtain⟨o,h1,h2,_⟩:=p
  exact mZ PySem.W.kitx_tuple I.cY ⟨o,h1,h2⟩ e (λz=>nomatch z) h
 |@dK a kvs ea=>
  cases(show u=Value.ref a from rx)
  obtain⟨_,_,vs,_,p⟩:=(show cO X.prog X.w H s.heap a (.dK kvs) from I.aD a _ ea)
  obtain⟨o,es,ep,h1,h2,_⟩:=p
  exact mZ PySem.W.kitx_dict I.cY ⟨o,h1,h2.1⟩ e (λz=>nomatch z) h
 |@dT a kvs ea=>
  cases(show u=Value.ref a from rx)
  obtain⟨_,_,xs,_,o,es,ep,h1,h2,_⟩:=(show cO X.prog X.w H s.heap a (.dT kvs) from I.aD a _ ea)
  exact mZ PySem.W.kitx_dict I.cY ⟨o,h1,h2.1⟩ e (λz=>nomatch z) h
 |@ins a C dx fs ea cl ha hn gB hm=>
  cases(show u=Value.ref a from rx)
  obtain⟨mA,σ,_⟩:=wR I.aD ea
  obtain⟨od,J,_⟩:=σ.look
  exact mZ (PySem.W.kitx_own (cl.get _) cl.hd ha hn gB hm) I.cY J e (λz=>nomatch z) h
end
structure cw(k:Nat)(A:Around):Prop where
 hd:A.handled=none
 dp:A.depth+3*k+5<recursionLimit
 un:A.units+16*k+200<cLine
 gd:A.guards=some []
theorem cw.mono{k:Nat}(r:cw k A)(h:j<=k):cw j A:=⟨r.hd,by have:=r.dp;lia,by have:=r.un;lia,r.gd⟩
theorem cw.deeper{k:Nat}(r:cw (k+1) A)(env:Env):cw k (A.deeper env):=
 ⟨r.hd,by have:=r.dp;show A.depth+1+3*k+5<_;lia,by have:=r.un;show A.units+3+16*k+200<_;lia,r.gd⟩
theorem cw.in1{k:Nat}(r:cw (k+1) A):cw k A.in1:=
 ⟨r.hd,by have:=r.dp;show A.depth+3*k+5<_;lia,by have:=r.un;show A.units+1+16*k+200<_;lia,r.gd⟩
def UJ:(A.under (.builtin "type.__call__" ⟨.ref C::us,kw⟩)).depth=A.depth+1:=by
 first | rfl | simp[Around.under,Code.weight,Code.isCreation,Code.isGuard,Code.isCaller,Code.frames,Code.isFrame,guardIds]
def UK:(A.under (.builtin "type.__call__" ⟨.ref C::us,kw⟩)).units=A.units+1:=by
 first | rfl | simp[Around.under,Code.cUnits,Code.frames,Code.isFrame]
theorem cw.make{k:Nat}(r:cw (k+1) A)(C:Addr)(us:List Value)(kw:List (Str×Value)):cw k (A.under (.builtin "type.__call__" ⟨.ref C::us,kw⟩)):=
 ⟨r.hd,by have:=r.dp;rw[UJ];lia,by have:=r.un;rw[UK];lia,r.gd⟩
theorem cw.depth{k:Nat}(r:cw k A):A.depth<recursionLimit:=by have:=r.dp;lia
theorem cw.units{k:Nat}(r:cw k A):A.units+64<cLine:=by have:=r.un;lia
def qZ:TA:=λ_ H Q=>Q [] H
def DN(ta:TE)(tr:TA):TA:=λO H Q=>ta O H λx H1=>tr O H1 λxs H2=>Q (x::xs) H2
section
variable{X:Cx}{e:Expr}{es:List Expr}{te:TE}{t:TA}{pos:Pos}
def ah:PA X [] qZ:=λ_ _ _ _ H Q I h=>Calls.spliced_nil ⟨[],H,I,.nil,h⟩
def ab(ha:PE X e te)(hr:PA X es t)(hs:starEach (e::es) X.env=(false,eval e X.env)::starEach es X.env:=by rfl):PA X (e::es) (DN te t):=by
 intro pos pins s O H Q I h
 rw[hs]
 show wpAny _ _ (spliced ((false,eval e X.env)::backTo pos (starEach es X.env))) _ _ s
 refine Dh (aE (ha pins s O H _ I h) λu s1 ⟨x,H1,I1,r1,q1⟩=>?_)
 exact aE (hr pos pins s1 O H1 _ I1 q1) λus s2 ⟨xs,H2,I2,r2,q2⟩=>⟨x::xs,H2,I2,.cons r1 r2,q2⟩
def UL(t:TA):TE:=λO H Q=>t O H λxs H1=>xs.length<=sizeLine/\∀p,H1 p=none->Q (.ref p) (upd H1 p (.tup xs))
def UM(t:TA):TE:=λO H Q=>t O H λxs H1=>xs.length<=sizeLine/\∀p,H1 p=none->Q (.ref p) (upd H1 p (.lst xs))
def gC{x1}(h:PA X es t):PE X (.Tuple es x1 pos) (UL t):=by
 intro pins s O H Q I hq
 refine wpAny_Tuple_spliced (aE (h pos pins s O H _ I hq) λus s1 ⟨xs,H1,I1,r,z,q⟩=>⟨by rw[<-r.length];exact z,?_⟩)
 have hf:H1 s1.heap.objs.size=none:=I1.aD.fresh (aN _)
 refine⟨.ref s1.heap.objs.size,upd H1 s1.heap.objs.size (.tup xs),I1.laid (t':=s1.toks) (λb u e=>bx _ e) (aN _) ?_,rfl,q _ hf⟩
 exact⟨z,us,r,⟨_,cq _ rfl,rfl,_,rfl⟩⟩
def dN(h:PA X es t):PE X (.List es pos) (UM t):=by
 intro pins s O H Q I hq
 refine wpAny_List_spliced (aE (h pos pins s O H _ I hq) λus s1 ⟨xs,H1,I1,r,z,q⟩=>⟨by rw[<-r.length];exact z,?_⟩)
 have hf:H1 s1.heap.objs.size=none:=I1.aD.fresh (aN _)
 refine⟨.ref s1.heap.objs.size,upd H1 s1.heap.objs.size (.lst xs),I1.laid (t':=s1.toks) (λb u e=>bx _ e) (aN _) ?_,rfl,q _ hf⟩
 exact⟨z,us,0,r,cq _ rfl⟩
end
abbrev Sp:=List V->Hp->VK->XK->Prop
abbrev lX:=List Env->Hp->Shared->XK->Value->Shared->Prop
structure kM(P:Program)(w:World)(K:Frag)(mg:Str->Option Value)(base:Heap)(A:Around)(outer:List Env)(s:Shared)(H:Hp):Prop where
 frames:A.frames=some outer
 mod:Mod K mg base
 bs:∀b o,base.get? b=some o->s.heap.get? b=some o/\H b=none
 ny:base.objs.size<=s.heap.objs.size
 jk:s.heap.FunFrames base outer
 oZ:∀b∈jM outer,H b=none
 aD:c8 P w H s.heap
 bare:AllBare s.gens
def CE(outer:List Env)(P:Program)(w:World)(H:Hp)(s:Shared)(Q:VK)(u:Value)(s':Shared):Prop:=
 ∃v H',s'.os=s.os/\AllBare s'.gens/\Un (jM outer) [] H H' s.heap s'.heap/\c8 P w H' s'.heap/\RelV v u/\Q v H'
def CR(CX:lX)(outer:List Env)(P:Program)(w:World)(H:Hp)(s:Shared)(Q:VK)(E:XK)(r:Result)(s':Shared):Prop:=
 match r with
 |.ok (.ret u)=>CE outer P w H s Q u s'
 |.ok _=>False
 |.error e=>CX outer H s E e s'
structure aO(P:Program)(w:World)(K:Frag)(mg:Str->Option Value)(base:Heap)(CX:lX)(k:Nat)(f:Addr)(fd:FuncData)(ps:List Str)(sp:Sp):Prop where
 len:∀vs H Q E,sp vs H Q E->vs.length=ps.length
 run:∀(A:Around) (outer:List Env) (s:Shared) (H:Hp) (args:Args) (us:List Value) (vs:List V) (Q:VK) (E:XK),cw k A->kM P w K mg base A outer s H->BindsTo s fd args (ps.zip us)->Vals vs us->sp vs H Q E->
  codeAny (model P w) A (.call (.ref f) args) (CR CX outer P w H s Q E) s
def kM.make(e:kM P w K mg base A outer s H)(C:Addr)(us:List Value)(kw:List (Str×Value)) :
  kM P w K mg base (A.under (.builtin "type.__call__" ⟨.ref C::us,kw⟩)) outer s H:=⟨by first | exact e.frames | (simpa[Around.under,Code.envs,Code.isFrame,pushEnvs] using e.frames),e.mod,e.bs,e.ny,e.jk,e.oZ,e.aD,e.bare⟩
theorem kM.in1(e:kM P w K mg base A outer s H) :
  kM P w K mg base A.in1 outer s H:=⟨e.frames,e.mod,e.bs,e.ny,e.jk,e.oZ,e.aD,e.bare⟩
section
variable{X:Cx}{pins:List (Addr×Obj)}{O:St}{H:Hp}{s s':Shared}
def Inv.DO(I:Inv X pins O H s):kM X.prog X.w X.K X.mg X.base X.A X.stack s H:=
 ⟨I.ok.frames,I.ok.mod,I.bs,bL I.ok.ny I.sz,I.stack,I.Kj,I.aD,I.bare⟩
def Inv.after{Q:VK}(I:Inv X pins O H s)(h:CE X.stack X.prog X.w H s Q u s'):EP X pins O Q u s':=by
 obtain⟨v,H',os,bare,un,aD,r,q⟩:=h
 obtain⟨hh,g,d,t,UN⟩:=s'
 obtain rfl:UN=s.os:=os
 exact⟨v,H',I.call (h':=hh) (g':=g) (d':=d) (t':=t) (ch:=[]) un aD bare (λb z=>absurd z (by simp)),r,q⟩
end
def KW(sp:Sp)(c9:List V)(E:XK)(t:TA):TE:=λO H Q=>t O H λvs H1=>sp (vs++c9) H1 Q E
def Ao(C:Addr)(m:Str)(sp:Sp)(c9:List V)(E:XK)(ta:TE)(t:TA):TE:=λO H Q=>ta O H λx H1=>∃a dx fs,x = .ref a/\H1 a=some (.ins C dx fs)/\fs.lookup m=none/\
 t O H1 λvs H2=>sp (x::(vs++c9)) H2 Q E
def Ap(C:Addr)(sp:Sp)(c9:List V)(E:XK)(t:TA):TE:=λO H Q=>t O H λvs H1=>∀x dx,H1 x=none->H1 dx=none->dx≠x->
 sp (.ref x::(vs++c9)) (upd (upd H1 dx (.own x)) x (.ins C dx [])) (λv H2=>v = .aB/\Q (.ref x) H2) E
def Binds(K:Frag)(fd:FuncData)(ps:List Str)(ds:List Value):Prop:=
 ∀(s:Shared) (us:List Value),K.In s.heap->(us++ds).length=ps.length->BindsTo s fd ⟨us,[]⟩ (ps.zip (us++ds))
def Binds.all(h:∀us:List Value,us.length=ps.length->bindArgs fd ⟨us,[]⟩=pure (ps.zip us)):Binds K fd ps []:=λs us _ hl=>by
 rw[iQ] at hl ⊢
 exact .of_eq (h us hl)
def Passes(CX:lX)(X:Cx)(E:XK):Prop := ∀(pins:List (Addr×Obj)) (O:St) (H:Hp) (s:Shared) (e:Value) (s':Shared),Inv X pins O H s->CX X.stack H s E e s'->X.xe e s'
section
variable{X:Cx}{CX:lX}{k:Nat}{f C:Addr}{fd:FuncData}{ps:List Str}{sp:Sp}{c9:List V}{ds:List Value}{E:XK}{x m:Str}{p pos apos:Pos}{e o:Expr}{es:List Expr}{ta:TE}{t:TA}
def DP{Q:VK}(F:aO X.prog X.w X.K X.mg X.base CX k f fd ps sp)(hr:cw k X.A)(hb:Binds X.K fd ps ds)(hd:Vals c9 ds)(hx:Passes CX X E)
  (I:Inv X pins O H s) (r:Vals vs us) (h:sp (vs++c9) H Q E):wpAny (model X.prog X.w) X.A (call (.ref f) us) (EP X pins O Q) X.xe s:=by
 have r2:Vals (vs++c9) (us++ds):=r.append hd
 have hl:(us++ds).length=ps.length:=by rw[<-r2.length];exact F.len _ _ _ _ h
 refine zt (vW (F.run X.A X.stack s H ⟨us,[]⟩ (us++ds) (vs++c9) Q E hr I.DO (hb s us I.cY hl) r2 h) λr s' hq=>?_)
 cases r with
 |error e=>exact hx pins O H s e s' I hq
 |ok fl=>
  cases fl with
  |ret u=>exact I.after hq
  |next=>exact False.elim hq
  |brk=>exact False.elim hq
  |cont=>exact False.elim hq
def UO(F:aO X.prog X.w X.K X.mg X.base CX k f fd ps sp)(hr:cw k X.A)(hg:Gl X x)(hm:X.mg x=some (.ref f))(hk:keepIn X.K (.ref f)=true)(hb:Binds X.K fd ps ds)(hd:Vals c9 ds)(hx:Passes CX X E)
  (ha:PA X (e::es) t) (gD:(x==("__debug__":Str))=false:=by decide) (he:starEach (e::es) X.env=(false,eval e X.env)::starEach es X.env:=by rfl) (bj:(backTo pos (starEach es X.env)).any (·.1)=false:=by rfl) :
  PE X (.Call (.Name x p) (e::es) [] pos) (KW sp c9 E t):=by
 intro pins s O H Q I h
 refine vX (wH I hg hm ?_ gD)
 refine PySem.W.callWith_K (h₀:=X.base) I.ok.mod.qL hk (aE (ha pos pins s O H _ I h) λus s1 ⟨vs,H1,I1,r,q⟩=>⟨I1.cY,?_⟩) he bj
 exact DP F hr hb hd hx I1 r q
def UP(he:PE X o ta)(c:cG X.K C)(hm:Meth X.K C m f)(F:aO X.prog X.w X.K X.mg X.base CX k f fd ps sp)(hr:cw k X.A)(hb:Binds X.K fd ps ds)(hd:Vals c9 ds)(hx:Passes CX X E)(ha:PA X (e::es) t)
  (cS:starEach (e::es) X.env=(false,eval e X.env)::starEach es X.env:=by rfl) (bj:(backTo pos (starEach es X.env)).any (·.1)=false:=by rfl)
  (ht:eval (.Call (.Attribute o m apos) (e::es) [] pos) X.env=(do
   let ov<-eval o X.env
   standAt apos.atName
   let (f,first)<-holding [ov] (getMethod ov m pl)
   callWith pos f first (backTo pos (starEach (e::es) X.env)) (backToKw pos (keywordEach [] X.env))):=by rfl) :
  PE X (.Call (.Attribute o m apos) (e::es) [] pos) (Ao C m sp c9 E ta t):=by
 intro pins s O H Q I h
 refine PySem.W.methodCall_KW (pl:=pl) (aE (he pins s O H _ I h) λu s1 ⟨x,H1,I1,rx,a,dx,fs,ex,ea,l,q⟩=>?_) ht
 subst ex
 obtain rfl:u=Value.ref a:=rx
 refine KR I1 ea c hm l ?_
 refine PySem.W.callWith_K (first:=[.ref a]) (h₀:=X.base) I.ok.mod.qL hm.kp (aE (ha pos pins s1 O H1 _ I1 q) λus s2 ⟨vs,H2,I2,r,q2⟩=>⟨I2.cY,?_⟩) cS bj
 exact DP (us := .ref a::us) (vs := .ref a::vs) F hr hb hd hx I2 (.cons rfl r) q2
def UQ(he:PE X o ta)(c:cG X.K C)(hm:Meth X.K C m f)(F:aO X.prog X.w X.K X.mg X.base CX k f fd ps sp)(hr:cw k X.A)(hb:Binds X.K fd ps ds)(hd:Vals c9 ds)(hx:Passes CX X E)
  (ht:eval (.Call (.Attribute o m apos) [] [] pos) X.env=(do
   let ov<-eval o X.env
   standAt apos.atName
   let (f,first)<-holding [ov] (getMethod ov m pl)
   callWith pos f first (backTo pos (starEach [] X.env)) (backToKw pos (keywordEach [] X.env))):=by rfl) :
  PE X (.Call (.Attribute o m apos) [] [] pos) (Ao C m sp c9 E ta qZ):=by
 intro pins s O H Q I h
 refine PySem.W.methodCall_KW (pl:=pl) (aE (he pins s O H _ I h) λu s1 ⟨x,H1,I1,rx,a,dx,fs,ex,ea,l,q⟩=>?_) ht
 subst ex
 obtain rfl:u=Value.ref a:=rx
 refine KR I1 ea c hm l ?_
 exact PySem.W.callWith_K0 (first:=[.ref a]) I1.cY hm.kp (DP (us:=[.ref a]) (vs:=[.ref a]) F hr hb hd hx I1 (.cons rfl .nil) q)
structure Mk(K:Frag)(C f:Addr):Prop where
 makes:makesIn K C=true
 init:findIn K (.ref C) "__init__"=some (some (.ref f))
 fn:isFn K (.ref f)=true
 kp:keepIn K (.ref C)=true
def KY{Q:VK}(M:Mk X.K C f)(F:aO X.prog X.w X.K X.mg X.base CX k f fd ps sp)(hr:cw (k+1) X.A)(hb:Binds X.K fd ps ds)(hd:Vals c9 ds)
  (hx:Passes CX X E) (I:Inv X pins O H s) (r:Vals vs us)
  (h:∀x dx,H x=none->H dx=none->dx≠x->sp (.ref x::(vs++c9)) (upd (upd H dx (.own x)) x (.ins C dx [])) (λv H2=>v = .aB/\Q (.ref x) H2) E) :
  wpAny (model X.prog X.w) X.A (call (.ref C) us) (EP X pins O Q) X.xe s:=by
 have hq:=h (s.heap.objs.size+1) s.heap.objs.size (I.aD.fresh (gO _)) (I.aD.fresh (aN _)) (bO (oK _))
 have I2:=Inv.made (C:=C) I
 have r2:Vals (V.ref (s.heap.objs.size+1)::(vs++c9)) (Value.ref (s.heap.objs.size+1)::(us++ds)) := .cons rfl (r.append hd)
 have hl:(Value.ref (s.heap.objs.size+1)::us++ds).length=ps.length:=by
  have e:=r2.length
  rw[F.len _ _ _ _ hq] at e
  exact e.symm
 refine zt (UA (f:=f) I.cY M.makes M.init (mY.mp M.fn) (vW (F.run _ X.stack _ _ ⟨Value.ref (s.heap.objs.size+1)::us,[]⟩ (Value.ref (s.heap.objs.size+1)::(us++ds)) _ _ E (hr.make C us [])
  (I2.DO.make C us []) (hb _ (Value.ref (s.heap.objs.size+1)::us) I2.cY hl) r2 hq) λr s' jq=>?_))
 cases r with
 |error e=>exact hx pins O _ _ e s' I2 jq
 |ok fl=>
  cases fl with
  |ret u=>
   obtain⟨v,H',I3,rv,ev,q3⟩:=I2.after jq
   subst ev
   exact⟨rv,⟨V.ref (s.heap.objs.size+1),H',I3,rfl,q3⟩⟩
  |next=>exact False.elim jq
  |brk=>exact False.elim jq
  |cont=>exact False.elim jq
def UR(M:Mk X.K C f)(F:aO X.prog X.w X.K X.mg X.base CX k f fd ps sp)(hr:cw (k+1) X.A)(hg:Gl X x)(hm:X.mg x=some (.ref C))(hb:Binds X.K fd ps ds)(hd:Vals c9 ds)(hx:Passes CX X E)
  (ha:PA X (e::es) t) (gD:(x==("__debug__":Str))=false:=by decide) (he:starEach (e::es) X.env=(false,eval e X.env)::starEach es X.env:=by rfl) (bj:(backTo pos (starEach es X.env)).any (·.1)=false:=by rfl) :
  PE X (.Call (.Name x p) (e::es) [] pos) (Ap C sp c9 E t):=by
 intro pins s O H Q I h
 refine vX (wH I hg hm ?_ gD)
 refine PySem.W.callWith_K (h₀:=X.base) I.ok.mod.qL M.kp (aE (ha pos pins s O H _ I h) λus s1 ⟨vs,H1,I1,r,q⟩=>⟨I1.cY,?_⟩) he bj
 exact KY M F hr hb hd hx I1 r q
def US(M:Mk X.K C f)(F:aO X.prog X.w X.K X.mg X.base CX k f fd ps sp)(hr:cw (k+1) X.A)(hg:Gl X x)(hm:X.mg x=some (.ref C))(hb:Binds X.K fd ps ds)(hd:Vals c9 ds)(hx:Passes CX X E)
  (gD:(x==("__debug__":Str))=false:=by decide):PE X (.Call (.Name x p) [] [] pos) (Ap C sp c9 E qZ):=by
 intro pins s O H Q I h
 refine vX (wH I hg hm ?_ gD)
 exact PySem.W.callWith_K0 I.cY M.kp (KY (us:=[]) M F hr hb hd hx I .nil h)
end
structure bp(N P:List Str)(sc:Scope):Prop where
 kind:sc.kind = .function:=by first | rfl | decide +kernel
 co:sc.isCoroutine=false:=by first | rfl | decide +kernel
 gen:sc.isGenerator=false:=by first | rfl | decide +kernel
 nd:N.Nodup:=by first | rfl | decide +kernel
 pre:N.take P.length=P:=by first | rfl | decide +kernel
 par:∀x∈P,sc.names.lookup x=some .local\/sc.names.lookup x=some .cell:=by first | rfl | decide +kernel
 UT:∀y∈sc.names,y.2 ≠ .free:=by first | rfl | decide +kernel
theorem KZ{kindOf:Str->Option NameKind}{x:Str}:∀{binds:List (Str×Value)}{m:Str->Option Value},(∀v,(x,v)∉binds)->bindL kindOf binds m x=m x
 |[],_,_=>rfl
 |(n,v)::r,m,h=>by
  unfold bindL
  rw[KZ λw hw=>h w (bU _ hw)]
  split
  .have:x≠n:=by rintro rfl;exact h v bG
   simp[this]
  .rfl
theorem K0{kindOf:Str->Option NameKind}{x:Str}:∀{binds:List (Str×Value)}{m:Str->Option Value},(∀v,(x,v)∉binds)->bindC kindOf binds m x=m x
 |[],_,_=>rfl
 |(n,v)::r,m,h=>by
  unfold bindC
  rw[K0 λw hw=>h w (bU _ hw)]
  split
  .rfl
  .have:x≠n:=by rintro rfl;exact h v bG
   simp[this]
theorem K3{kindOf:Str->Option NameKind}{x:Str}{v:Value}:∀{P:List Str}{vs:List Value}{i:Nat}{m:Str->Option Value},P.Nodup->P[i]? = some x->vs[i]? = some v->kindOf x=some .local->
  bindL kindOf (P.zip vs) m x=some v
 |[],_,_,_,_,h,_,_=>by simp at h
 |_::_,[],_,_,_,_,h,_=>by simp at h
 |p::P,w::vs,0,m,nd,h1,h2,hk=>by
  simp at h1 h2;subst h1;subst h2
  show bindL kindOf ((p,w)::P.zip vs) m p=_
  unfold bindL
  rw[KZ λv hv=>(gq.mp nd).1 (List.of_mem_zip hv).1,aA hk]
  simp
 |p::P,w::vs,i+1,m,nd,h1,h2,hk=>by
  show bindL kindOf ((p,w)::P.zip vs) m x=_
  unfold bindL
  exact K3 (i:=i) (gq.mp nd).2 (by simpa using h1) (by simpa using h2) hk
theorem K4{kindOf:Str->Option NameKind}{x:Str}{v:Value}:∀{P:List Str}{vs:List Value}{i:Nat}{m:Str->Option Value},P.Nodup->P[i]? = some x->vs[i]? = some v->kindOf x≠some .local->
  bindC kindOf (P.zip vs) m x=some v
 |[],_,_,_,_,h,_,_=>by simp at h
 |_::_,[],_,_,_,_,h,_=>by simp at h
 |p::P,w::vs,0,m,nd,h1,h2,hk=>by
  simp at h1 h2;subst h1;subst h2
  show bindC kindOf ((p,w)::P.zip vs) m p=_
  unfold bindC
  rw[K0 λv hv=>(gq.mp nd).1 (List.of_mem_zip hv).1,av hk]
  simp
 |p::P,w::vs,i+1,m,nd,h1,h2,hk=>by
  show bindC kindOf ((p,w)::P.zip vs) m x=_
  unfold bindC
  exact K4 (i:=i) (gq.mp nd).2 (by simpa using h1) (by simpa using h2) hk
noncomputable def start(N:List Str)(vs:List V):St:=vs.map some++List.replicate (N.length - vs.length) none
noncomputable def pw(CX:lX)(P:Program)(w:World)(K:Frag)(mg:Str->Option Value)(base:Heap)(N:List Str)(qual:Str)(scope:Scope)(f:Addr)(cd:Value)(A:Around)(outer:List Env)(s:Shared)(H:Hp)(E:XK):Cx where
 prog:=P
 w:=w
 K:=K
 mg:=mg
 base:=base
 A:=A.deeper (envOfC qual scope s.heap.objs.size f cd)
 N:=N
 s₀:=s
 H₀:=H
 env:=envOfC qual scope s.heap.objs.size f cd
 outer:=outer
 stack:=envOfC qual scope s.heap.objs.size f cd::outer
 ex:=[]
 calm:=true
 fn:=λ_=>true
 pn:=[]
 xe:=λe s'=>wpAny (model P w) (A.deeper (envOfC qual scope s.heap.objs.size f cd)) (leaving (envOfC qual scope s.heap.objs.size f cd) e) (λ_ DQ=>CX outer H s E e DQ) (λe' DQ=>CX outer H s E e' DQ) s'
def K5(h:sc.names.lookup x=some .cell):∃c,(cellsFrom n sc.names []).lookup x=some c:=by
 have q:=PySem.W.cellsFrom_some sc.names n [] (.inl h)
 exact Option.isSome_iff_exists.mp q
theorem UU{CX:lX}{qual:Str}{f:Addr}{s1:Shared}{E:XK}
  (S:bp N ps scope) (hd:A.handled=none) (e0:kM P w K mg base A outer s H) (hl:vs.length=ps.length) (r:Vals vs us)
  (x:InCallC s s.heap.objs.size (bindL (envOfC qual scope s.heap.objs.size f cd).kindOf (ps.zip us) λ_=>none) (cellsFrom (s.heap.objs.size+1) scope.names []) (bindC (envOfC qual scope s.heap.objs.size f cd).kindOf (ps.zip us) λ_=>none) s1) :
  Inv (pw CX P w K mg base N qual scope f cd A outer s H E) [] (start N vs) H s1:=by
 have bj:ps.length<=N.length:=by have:=eX List.length S.pre;rw[fC] at this;lia
 obtain⟨h1,tk,rfl,hk⟩:=x.done
 have wU:∀b:Addr,b∉(pw CX P w K mg base N qual scope f cd A outer s H E).ex:=λb z=>absurd (show b∈([]:List Addr) from z) (by simp)
 refine⟨⟨e0.mod,S.kind,rfl,rfl,aN _,λy z c h1 h2=>?_,λy hy=>?_,λy c _ h=>?_,λ_=>hd,Around.frames_deeper e0.frames,.inr ⟨rfl,rfl⟩,λb z=>absurd z (wU b),e0.bs,e0.ny,λb _ _=>wU b,λb z=>absurd z (wU b),e0.jk,e0.oZ⟩,
  rfl,e0.bare,Un.kept hk,⟨_,x.toInCall.ns,λi y v h1 h2 h3=>?_⟩,λy c h=>⟨_,x.cell y c h⟩,e0.aD.fresh (aN _),λy c h=>?_,λp hp=>absurd (show p∈([]:List (Addr×Obj)) from hp) (by simp),e0.aD.kept hk,?_⟩
 .exact name_of_addr x.apart (Di h1) (Di h2)
 .have hy:scope.names.lookup y=some .cell\/scope.names.lookup y=some .free:=hy
  rcases hy with hy | hy
  .exact K5 hy
  .exact absurd rfl (S.UT _ (Di hy))
 .exact vT (x.above y c (Di h))
 .have hi:i<vs.length:=by
   unfold start at h2
   by_cases hi:i<vs.length
   .exact hi
   .rw[zu (by simpa using hi)] at h2
    rw[SH] at h2
    split at h2 <;> cases h2
  have ha:vs[i]? = some v:=by
   unfold start at h2
   rw[JI (by simpa using hi),bq] at h2
   cases e:vs[i]? with
   |none=>rw[e] at h2;cases h2
   |some a=>rw[e] at h2;cases h2;rfl
  obtain⟨u,hu,rv⟩:=r.get ha
  have hp:ps[i]? = some y:=by
   rw[<-S.pre,sZ (by lia)];exact h1
  have K6:ps.Nodup:=by rw[<-S.pre];exact S.nd.sublist (vY _ _)
  refine⟨u,rv,?_⟩
  rcases S.par y (bh hp) with k | k
  .exact .inl ⟨k,K3 K6 hp hu k⟩
  .obtain⟨c,e⟩:=K5 (n:=s.heap.objs.size+1) k
   refine .inr ⟨.inl k,c,e,?_⟩
   have q:=x.cell y c e
   rw[K4 K6 hp hu (by show scope.names.lookup y≠_;rw[k];decide)] at q
   exact q
 .exact e0.aD.fresh (vT (x.above y c (Di h)))
 .unfold start
  show _=N.length
  rw[cE,aq,qC]
  lia
def Aq{CX:lX}{P:Program}{w:World}{K:Frag}{mg:Str->Option Value}{base:Heap}{k:Nat}{f:Addr}{name qual:Str}{params:Arguments}{body:List Stmt}{scope:Scope}{dV kV doc pm aF ct oc:Value}{an od:Option Addr}
  {jR:Array (Option Value)}{N ps:List Str}{sp:Sp}(lk:K.lookup f=some ⟨oc,od,.func (fnOf name qual params body scope dV kV doc pm an aF ct),jR⟩) (iV:codeIn K aF qual=true) (S:bp N ps scope)
  (len:∀vs H Q E,sp vs H Q E->vs.length=ps.length)
  (rb:∀(A:Around) (outer:List Env) (s:Shared) (H:Hp) (vs:List V) (Q:VK) (E:XK),cw k (A.deeper (envOfC qual scope s.heap.objs.size f aF))->sp vs H Q E->
   ∃t,iw (pw CX P w K mg base N qual scope f aF A outer s H E) body t/\t { nx:=λ_ H'=>Q .aB H',rt:=Q } (start N vs) H) :
  aO P w K mg base CX (k+1) f (fnOf name qual params body scope dV kV doc pm an aF ct) ps sp:=by
 refine⟨len,λA outer s H args us vs Q E hr e0 hb r lY=>?_⟩
 have hl:=len _ _ _ _ lY
 have KX:K.In s.heap:=e0.mod.qL.keeps λb o e=>(e0.bs b o e).1
 have lim:s.heap.NoLimit:=e0.mod.nolimit.keeps λb o e=>(e0.bs b o e).1
 have UW:∀y∈ps.zip us,scope.names.lookup y.1=some .local\/(scope.names.lookup y.1=some .cell/\((cellsFrom (s.heap.objs.size+1) scope.names []).lookup y.1).isSome=true):=λ⟨n,v⟩ hy=>by
  rcases S.par n (List.of_mem_zip hy).1 with q | q
  .exact .inl q
  .exact .inr ⟨q,PySem.W.cellsFrom_some _ _ _ (.inl q)⟩
 refine codeAny_call_function hr.depth (KX _ _ lk) rfl S.co S.gen rfl (PySem.W.codeRec_of KX iV) (hb _ _ _ _ ?_)
 refine wpAny_newFunctionEnv_cells S.kind UW λenv he s1 x=>?_
 subst he
 refine⟨lim.keeps x.toInCall.keep,codeAny_func ?_⟩
 obtain⟨t,ht,hq⟩:=rb A outer s H vs Q E (hr.deeper _) lY
 have I:Inv (pw CX P w K mg base N qual scope f aF A outer s H E) [] (start N vs) H s1:=UU S hr.hd e0 hl r x
 refine jE (ht [] s1 (start N vs) H _ I hq) (λfl s' hs=>?_) λe s' hs=>hs
 have fin:∀{O':St}{H':Hp}{v:V}{u:Value},Inv (pw CX P w K mg base N qual scope f aF A outer s H E) [] O' H' s'->RelV v u->Q v H'->CE outer P w H s Q u s':=
  λ{O' H' v u} J rv q=>⟨v,H',J.os,J.bare,J.base,J.aD,rv,q⟩
 cases fl with
 |ret u=>
  obtain⟨v,O',H',J,rv,q⟩:=hs
  exact fin J rv q
 |next=>
  obtain⟨O',H',J,q⟩:=hs
  exact fin (v:=V.aB) (u:=Value.none) J rfl q
 |brk=>
  obtain⟨_,_,_,q⟩:=hs
  exact False.elim q
 |cont=>
  obtain⟨_,_,_,q⟩:=hs
  exact False.elim q
section
variable{X:Cx}{x:Str}{p pos:Pos}{e:Expr}{es:List Expr}{t:TA}{id T:String}{r:List V->Hp->VK->Prop}
def K7(r:List V->Hp->VK->Prop)(t:TA):TE:=λO H Q=>t O H λvs H1=>r vs H1 Q
def br(hc:fL X (.builtin id) r)(hg:Gl X x)(hm:X.mg x=none)(hv:bootBuiltins x=some (.builtin id))(ha:PA X (e::es) t)(hn:x≠"__name__":=by decide)(gD:(x==("__debug__":Str))=false:=by decide)
  (he:starEach (e::es) X.env=(false,eval e X.env)::starEach es X.env:=by rfl) (bj:(backTo pos (starEach es X.env)).any (·.1)=false:=by rfl):PE X (.Call (.Name x p) (e::es) [] pos) (K7 r t):=by
 intro pins s O H Q I h
 refine vX (o9 I hg hm hv ?_ hn gD)
 exact PyProof.Rows.callWith_builtin1 (aE (ha pos pins s O H _ I h) λus s1 ⟨vs,H1,I1,r1,q1⟩=>hc pins s1 O H1 vs us Q I1 r1 q1) he bj
def gE(hc:fL X (.type T) r)(hg:Gl X x)(hm:X.mg x=none)(hv:bootBuiltins x=some (.type T))(ha:PA X (e::es) t)(hn:x≠"__name__":=by decide)(gD:(x==("__debug__":Str))=false:=by decide)
  (he:starEach (e::es) X.env=(false,eval e X.env)::starEach es X.env:=by rfl) (bj:(backTo pos (starEach es X.env)).any (·.1)=false:=by rfl):PE X (.Call (.Name x p) (e::es) [] pos) (K7 r t):=by
 intro pins s O H Q I h
 refine vX (o9 I hg hm hv ?_ hn gD)
 exact Dg (aE (ha pos pins s O H _ I h) λus s1 ⟨vs,H1,I1,r1,q1⟩=>hc pins s1 O H1 vs us Q I1 r1 q1) he bj
end
end L2
namespace HT
open PySem PyProof.Rows
variable{items lZ:Array Value}{Q:Value->Shared->Prop}
noncomputable def lexLt:List Int->List Int->Bool
 |[],[]=>false
 |[],_::_=>true
 |_::_,[]=>false
 |x::xs,y::ys=>if x=y then lexLt xs ys else decide (x<y)
def K8(x y:Int)(xs ys:List Int):lexLt (x::xs) (y::ys)=if x=y then lexLt xs ys else decide (x<y):=rfl
def UX:lexLt [] []=false:=rfl
def UY(y:Int)(ys:List Int):lexLt [] (y::ys)=true:=rfl
def UZ(x:Int)(xs:List Int):lexLt (x::xs) []=false:=rfl
def U0(A:Around)(s:Shared)(a:Int)(t:Tok)(c:Int)(u:Tok):∃e,SeqAt.EqAt A s (.int a t) (.int c u) e/\(e=true↔a=c):=
 ⟨(a==c),SeqAt.EqAt.int_int a t c u,by simp⟩
def U1(A:Around)(s:Shared)(a:Int)(t:Tok)(c:Int)(u:Tok)(prog:Program)(w:World)(E:Value->Shared->Prop)(Q:Value->Shared->Prop)(h:Q (.bool (decide (a<c))) s) :
  wpAny (model prog w) A (richCompare .Lt (.int a t) (.int c u)) Q E s:=
 (PyProof.Rows.lt_int h:wpAny (model prog w) A (compareOp .Lt (.int a t) (.int c u)) Q E s)
section
open PySem.SeqAt
open PySem.AutoSeq1 (wpAny_loadPart')
open PySem.MeetsSeq PySem.MeetsSeq2 PySem.MeetsSeq3
theorem U3(l b:Addr)(items lZ:Array Value)(n n2:Nat)(dd DR:Option Addr)(sl DS:Array (Option Value))(ns ms:List Int)(hi:IntsAre items.toList ns)(hj:IntsAre lZ.toList ms) :
  Meets (Builtin.«tuple.__lt__» ⟨[.ref l,.ref b],[]⟩)
   (λ_ R s=>s.heap.get? l=some { cls := .type "tuple",dict:=dd,data := .seq items n,slots:=sl }/\s.heap.get? b=some { cls := .type "tuple",dict:=DR,data := .seq lZ n2,slots:=DS } /\
    R (.ok (.ret (.bool (lexLt ns ms)))) s):=
 .of_wp λprog w A R s h=>by
  obtain⟨hp,g,d,tk,os⟩:=s;obtain⟨hl,hb,h⟩:=h
  have f2:=AutoSeq1.sub_tuple_tuple
  have z1:items.size=ns.length:=by rw[<-hi.length];simp
  have z2:lZ.size=ms.length:=by rw[<-hj.length];simp
  wp_walk using wpAny_loadPart' hl,wpAny_loadPart' hb,JJ _ (λrest b s'=>b.1=none/\s'=⟨hp,g,d,tk,os⟩/\∃(vs ws:List Value) (tR tS:List Int),rest=vs.zip ws/\
   IntsAre vs tR/\IntsAre ws tS/\tR.length+lZ.size=tS.length+items.size/\R (.ok (.ret (.bool (lexLt tR tS)))) ⟨hp,g,d,tk,os⟩) _
  case turn=>
   rintro⟨y,x⟩ rest b s' ⟨jr,rfl,vs,ws,tR,tS,hz,DT,Ar,hlen,hR⟩
   cases DT with
   |nil=>rw[List.zip_nil_left] at hz;cases hz
   |cons a t U4=>
    cases Ar with
    |nil=>rw[List.zip_nil_right] at hz;cases hz
    |cons c u U5=>
     rw[List.zip_cons_cons] at hz
     injection hz with U6 U7
     injection U6 with hy hx
     subst hy hx
     rw[K8] at hR
     simp only[cQ] at hlen
     obtain⟨e,he,K9⟩:=U0 A.in1 ⟨hp,g,d,tk,os⟩ a t c u
     refine aj (he prog w _ _ ?_)
     cases e with
     |true=>
      rw[aA (K9.mp rfl)] at hR
      wp_walk
      exact⟨rfl,rfl,_,_,_,_,U7,U4,U5,by lia,hR⟩
     |false=>
      rw[av (λq=>absurd (K9.mpr q) bZ)] at hR
      have U8:=U1 A.in1 ⟨hp,g,d,tk,os⟩ a t c u prog w
      wp_walk using U8
      exact⟨_,rfl,by simpa using hR⟩
  case fin=>
   rintro⟨b1,b2⟩ s' ⟨jr,rfl,vs,ws,tR,tS,hz,DT,Ar,hlen,hR⟩
   simp only at jr
   subst jr
   have hv:lexLt tR tS=decide (items.size<lZ.size):=by
    cases DT with
    |nil=>
     cases Ar with
     |nil=>
      simp only[Dj] at hlen
      rw[UX]
      exact(aK (by lia)).symm
     |cons c u hw=>
      simp only[Dj,cQ] at hlen
      rw[UY]
      exact(aI (by lia)).symm
    |cons a t hv=>
     cases Ar with
     |nil=>
      simp only[Dj,cQ] at hlen
      rw[UZ]
      exact(aK (by lia)).symm
     |cons c u hw=>
      rw[List.zip_cons_cons] at hz
      cases hz
   rw[hv] at hR
   wp_walk
   exact⟨_,rfl,by simpa[Builtin.Tuple.tupleCompareSizes] using hR⟩
  case h=>
   exact⟨rfl,rfl,items.toList,lZ.toList,ns,ms,rfl,hi,hj,by lia,h⟩
end
section
variable{prog:Program}{w:World}{A:Around}{E:Value->Shared->Prop}{s:Shared}
def U9{l b:Addr}{ns ms:List Int}(hl:IsTup s.heap l items)(hb:IsTup s.heap b lZ)(hi:IntsAre items.toList ns)(hj:IntsAre lZ.toList ms)
  (hu:A.units<cLine) (h:Q (.bool (lexLt ns ms)) s):wpAny (model prog w) A (compareOp .Lt (.ref l) (.ref b)) Q E s:=by
 obtain⟨⟨cls,dd,data,sl⟩,ho,hc,n,hd⟩:=id hl
 obtain⟨⟨agK,DR,data2,DS⟩,jt,As,n2,hd2⟩:=id hb
 simp only at hc hd As hd2
 subst hc hd As hd2
 exact richCompare_meets_room (op := .Lt) ⟨_,ho,rfl⟩ ⟨_,jt,rfl⟩ PySem.F.slot_tuple_lt PySem.F.entry_tuple_lt (PySem.F.args_tuple_lt_2 _ _) (U3 l b items lZ n n2 dd DR sl DS ns ms hi hj)
  ⟨ho,jt,show Value.bool (lexLt ns ms)≠Value.notImplemented/\Q (.bool (lexLt ns ms)) s from⟨(λx=>nomatch x),h⟩⟩ hu
noncomputable def gF(n d:Nat):Option Int->Nat
 |none=>d
 |some v=>if v<0 then (v+(n:Int)).toNat else min v.toNat n
def La(n d:Nat):gF n d none=d:=rfl
theorem Au(n d k:Nat):gF n d (some (k:Int))=min k n:=by
 show(if (k:Int)<0 then ((k:Int)+(n:Int)).toNat else min (k:Int).toNat n)=min k n
 rw[av (by lia),fE]
end
end HT
namespace L2
open PySem PySem.Spec PyProof.Rows
variable{r:V->Option Int->Option Int->Hp->VK->Prop}{j n t':Nat}{i:Int}{α:Type}{pins:List (Addr×Obj)}{O:St}{H H':Hp}{s:Shared}{a b p:Addr}{xs:List (List Key×Addr×Value)}{cu its:List Value}{f:Array Value->Array Value}{A:Around}{x y:V}{d' u v:Value}{T:String}{o:Option V}{P prog:Program}{w:World}{kvs:List (List Key×V)}{ks:List Key}{E Q:Value->Shared->Prop}{h':Heap}{vs:List (Key×Value)}{X:Cx}
abbrev TO:=St->Hp->(Option Int->Hp->Prop)->Prop
def PO(X:Cx)(e:Option Expr)(t:TO):Prop:=
 ∀(pins:List (Addr×Obj)) (s:Shared) (O:St) (H:Hp) (Q:Option Int->Hp->Prop),Inv X pins O H s->t O H Q->
  wpAny (model X.prog X.w) X.A (evalPart e X.env) (λu s' =>∃o H',Inv X pins O H' s'/\IsPart u o/\Q o H') X.xe s
noncomputable def Va:TO:=λ_ H Q=>Q none H
noncomputable def Vb(t:TE):TO:=λO H Q=>t O H λx H1=>∃i,x = .int i/\Q (some i) H1
section
variable{X:Cx}{e:Expr}{te:TE}{lo hi:Option Expr}{tl th:TO}{pos p2:Pos}
def l0:PO X none Va:=by
 intro pins s O H Q I h
 rw[evalPart_none]
 exact aH ⟨none,H,I,.none,h⟩
def jS(h:PE X e te):PO X (some e) (Vb te):=by
 intro pins s O H Q I hw
 rw[evalPart_some]
 refine aE (h pins s O H _ I hw) λu s1 ⟨x,H1,I1,r1,q1⟩=>?_
 obtain⟨i,rfl,q⟩:=q1
 obtain⟨t,rfl⟩:=r1
 exact⟨some i,H1,I1,.int i t,q⟩
def DU(X:Cx)(r:V->Option Int->Option Int->Hp->VK->Prop):Prop:=
 ∀(pins:List (Addr×Obj)) (s:Shared) (O:St) (H:Hp) (x:V) (v vl vu:Value) (lo hi:Option Int) (sl:Addr) (Q:VK),Inv X pins O H s->RelV x v->s.heap.IsSliceOf sl vl vu .none->IsPart vl lo->IsPart vu hi->r x lo hi H Q->
  ∃T id,typeLookup (.type T) "__getitem__"=pure (some (.builtin id))/\s.TypeIs v T/\wpAny (model X.prog X.w) X.A (getItem v (.ref sl)) (EP X pins O Q) X.xe s
def Vc(r:V->Option Int->Option Int->Hp->VK->Prop)(te:TE)(tl th:TO):TE:=λO H Q=>te O H λx H1=>tl O H1 λl H2=>th O H2 λu H3=>r x l u H3 Q
def l3(hr:DU X r)(he:PE X e te)(hl:PO X lo tl)(hu:PO X hi th):PE X (.Subscript e (.Slice lo hi none p2) pos) (Vc r te tl th):=by
 intro pins s O H Q I h
 refine Subscript_ (aE (he pins s O H _ I h) λv s1 ⟨x,H1,I1,r1,q1⟩=>?_)
 refine wpAny_Slice (aE (hl pins s1 O H1 _ I1 q1) λvl s2 ⟨l,H2,I2,pl,q2⟩=>aE (hu pins s2 O H2 _ I2 q2) λvu s3 ⟨u,H3,I3,pu,q3⟩=>?_)
 rw[evalPart_none]
 refine aH ?_
 have I4:Inv X pins O H3 { s3 with heap:=s3.heap.push { cls := .type "slice",data := .fields #[vl,vu,.none] } }:=I3.kept (t':=s3.toks) λb ob q=>bx _ q
 obtain⟨T,id,hT,ht,hg⟩:=hr pins { s3 with heap:=s3.heap.push { cls := .type "slice",data := .fields #[vl,vu,.none] } } O H3 x v vl vu l u s3.heap.objs.size Q I4 r1 (Heap.IsSliceOf.new ..) pl pu q3
 show wpAny (model X.prog X.w) X.A (subscriptTail e (.Slice lo hi none p2) v (.ref s3.heap.objs.size)) (EP X pins O Q) X.xe { s3 with heap:=s3.heap.push { cls := .type "slice",data := .fields #[vl,vu,.none] } }
 exact tail_any (ops:=[.ref s3.heap.objs.size,v]) ht hT hg (by with_unfolding_all rfl)
noncomputable def gV(xs:List V)(lo hi:Option Int):List V:=(xs.drop (HT.gF xs.length 0 lo)).take (HT.gF xs.length xs.length hi - HT.gF xs.length 0 lo)
theorem Vd(xs:List V)(lo hi:Option Int):(gV xs lo hi).length<=xs.length:=by
 unfold gV
 rw[fC,zw]
 lia
end
noncomputable def nE(n:Nat)(i:Int):Option Nat:=if 0<=i then (if i<n then some i.toNat else none) else if -(n:Int)<=i then some (i+n).toNat else none
noncomputable def iy{α:Type}(xs:List α)(i:Int):Option α:=(nE xs.length i).bind λj=>xs[j]?
theorem Lb(h:nE n i=some j):seqIndex? i n=some j/\j<n/\ -(n:Int)<=i/\i<n:=by
 unfold nE at h
 by_cases h0:0<=i
 .rw[aA h0] at h
  by_cases h1:i<n
  .rw[aA h1] at h
   have e:i.toNat=j:=dm h
   exact⟨by rw[seqIndex_of h0 h1,e],by lia,by lia,h1⟩
  .rw[av h1] at h;cases h
 .rw[av h0] at h
  by_cases h1 : -(n:Int)<=i
  .rw[aA h1] at h
   have e:(i+n).toNat=j:=dm h
   exact⟨by rw[seqIndex_neg (by lia) h1,e],by lia,h1,by lia⟩
  .rw[av h1] at h;cases h
def DV{xs:List α}{v:α}(h:iy xs i=some v):∃j,seqIndex? i xs.length=some j/\xs[j]? = some v/\j<xs.length/\ -(xs.length:Int)<=i/\i<xs.length:=by
 unfold iy at h
 cases e:nE xs.length i with
 |none=>rw[e] at h;cases h
 |some j=>
  rw[e] at h
  obtain⟨h1,h2,h3,h4⟩:=Lb e
  exact⟨j,h1,h,h2,h3,h4⟩
theorem de{xs:List α}{v:α}(h:xs[j]? = some v):iy xs (j:Int)=some v:=by
 have hj:j<xs.length:=(bP.mp h).1
 have e:nE xs.length (j:Int)=some j:=by
  unfold nE
  rw[aA (by lia),aA (by lia)];simp
 unfold iy;rw[e];exact h
def Lc(b:Expr):Prop := ∀o i,subscripted b false o i=operate [o,i] (getItem o i)
def wV(X:Cx)(r:R2):Prop:=
 ∀(value slice:Expr) (pins:List (Addr×Obj)) (s:Shared) (O:St) (H:Hp) (x y:V) (v u:Value) (Q:VK),Inv X pins O H s->RelV x v->RelV y u->r x y H Q->
  subscripted slice false v u=operate [v,u] (getItem v u)->wpAny (model X.prog X.w) X.A (subscriptTail value slice v u) (EP X pins O Q) X.xe s
def Av(X:Cx)(id:String)(r:V->List V->Hp->VK->Prop):Prop:=
 ∀(pins:List (Addr×Obj)) (s:Shared) (O:St) (H:Hp) (x:V) (xs:List V) (v:Value) (us:List Value) (Q:VK),Inv X pins O H s->RelV x v->Vals xs us->r x xs H Q->
  wpAny (model X.prog X.w) X.A (call (.builtin id) (v::us)) (EP X pins O Q) X.xe s
section
variable{X:Cx}{a b:Expr}{ta tb:TE}{pos:Pos}
def bf{r:R2}(hr:wV X r)(ha:PE X a ta)(hb:PE X b tb)(hs:Lc b:=by exact λ_ _=>rfl):PE X (.Subscript a b pos) (qT r ta tb):=by
 intro pins s O H Q I h
 exact Subscript_ (DJ ha hb I h λv u s2 x y H2 I2 rx ry q=>hr a b pins s2 O H2 x y v u Q I2 rx ry q (hs _ _))
def Ve(K:Frag):R2:=λx y H Q=>∃p xs i v,x = .ref p/\y = .int i/\ak K H p xs/\iy xs i=some v/\Q v H
def wW(K:Frag):R2:=λx y H Q=>∃p xs i v,x = .ref p/\y = .int i/\ax K H p xs/\iy xs i=some v/\Q v H
def Vf:R2:=λx y H Q=>∃z i c,x = .str z/\y = .int i/\z.length<=sizeLine/\iy z.cps.toList i=some c/\Q (.str ⟨#[c]⟩) H
theorem eQ:wV X (Ve X.K):=by
 intro value slice pins s O H x y v u Q I rx ry h hs
 obtain⟨p,xs,i,z,rfl,rfl,hq,he,q⟩:=h
 cases rx
 obtain⟨t,rfl⟩:=ry
 obtain⟨its,r,pl,hz⟩:=I.list hq
 obtain⟨j,h1,h2,h3,h4,h5⟩:=DV he
 obtain⟨w,ew,kN⟩:=r.get h2
 have hl:=r.length
 have hn:=nB
 have fin:EP X pins O Q w s:=⟨z,H,I,kN,q⟩
 by_cases h0:0<=i
 .have hj:i.toNat=j:=by
   rw[seqIndex_of h0 h5] at h1
   exact dm h1
  exact item_listR pl.isList h0 (by lia) (by rw[hj];simpa using ew) fin hs
 .have hj:(i+(its.toArray.size:Int)).toNat=j:=by
   rw[seqIndex_neg (by lia) h4] at h1
   rw[bg,<-hl]
   exact dm h1
  exact subscriptTail_builtinR (x:=w) pl.isList.typeIs slot_list_getitem.lookup
   (wpAny_getItem_list_neg (Q:=λr s'=>r=w/\EP X pins O Q r s') pl.isList (by lia) (by rw[bg] <;> lia) (by lia) (by rw[hj];simpa using ew) ⟨rfl,fin⟩) hs
theorem cM:wV X (wW X.K):=by
 intro value slice pins s O H x y v u Q I rx ry h hs
 obtain⟨p,xs,i,z,rfl,rfl,hq,he,q⟩:=h
 cases rx
 obtain⟨t,rfl⟩:=ry
 obtain⟨its,r,pl,hz⟩:=I.tuple hq
 obtain⟨j,h1,h2,h3,h4,h5⟩:=DV he
 obtain⟨w,ew,kN⟩:=r.get h2
 have hl:=r.length
 have hn:=nB
 have fin:EP X pins O Q w s:=⟨z,H,I,kN,q⟩
 exact subscriptTail_builtinR (x:=w) pl.typeIs slot_tuple_getitem.lookup
  (getItem_tuple (j:=j) (Q:=λr s'=>r=w/\EP X pins O Q r s') pl (by lia) (by lia) (by rw[bg,<-hl];exact h1) (by simpa using ew) ⟨rfl,fin⟩) hs
theorem iX:wV X Vf:=by
 intro value slice pins s O H x y v u Q I rx ry h hs
 obtain⟨z,i,c,rfl,rfl,hz,he,q⟩:=h
 obtain⟨t,rfl⟩:=rx
 obtain⟨t',rfl⟩:=ry
 obtain⟨j,h1,h2,h3,h4,h5⟩:=DV he
 have hl:z.cps.toList.length=z.length:=by simp[Str.length]
 rw[hl] at h1 h4 h5
 have hn:=nB
 exact tail_any (typeIs_str s z t) slot_str_getitem.lookup (getItem_str (c:=c) (by
  have e1:decide (i < -(2 ^ 63:Int))=false:=aK (by lia)
  have e2:decide (i>=2 ^ 63)=false:=aK (by lia)
  rw[e1,e2,Bool.or_false]) (by rw[h1];simpa using h2) ⟨.str ⟨#[c]⟩,H,I.tok _,⟨_,rfl⟩,q⟩) hs
def Vg(its:List Value)(n j:Nat)(u:Value):Obj.mapSeq (·.setIfInBounds j u) { cls := .type "list",data := .seq its.toArray n }={ cls := .type "list",data := .seq (its.set j u).toArray n }:=by
 simp[Obj.mapSeq]
theorem Inv.lst{xs:List V}(I:Inv X pins O H s)(h:H p=some (.lst xs)) :
  ∃(its:List Value) (n:Nat),Vals xs its/\s.heap.get? p=some { cls := .type "list",data := .seq its.toArray n }/\xs.length<=sizeLine:=by
 obtain⟨z,its,n,r,e⟩:=I.aD p _ h
 exact⟨its,n,r,e,z⟩
def Inv.Vh{xs ys:List V}{n':Nat}{f:Obj->Obj}(I:Inv X pins O H s)(h:H p=some (.lst xs))
  (ho:s.heap.get? p=some { cls := .type "list",data := .seq its.toArray n }) (hf:f { cls := .type "list",data := .seq its.toArray n }={ cls := .type "list",data := .seq cu.toArray n' }) (r:Vals ys cu) (hz:ys.length<=sizeLine) (t:Nat) :
  Inv X pins O (upd H p (.lst ys)) { s with heap:=s.heap.update p f,toks:=t }:=by
 have e:(s.heap.update p f).get? p=some { cls := .type "list",data := .seq cu.toArray n' }:=by
  rw[oN f ho (by rw[hf] <;> rfl),hf]
 refine I.write (x:=p) (e:=p) (by rw[h];trivial) (.inl rfl) (λb u hb q=>(m4 _ _ (bu hb)).trans q) ⟨_,e⟩ ?_
 exact⟨hz,cu,n',r,e⟩
def Vi:V->V->V->Hp->(Hp->Prop)->Prop:=λo i v H Q=>∃p xs k j,o = .ref p/\i = .int k/\H p=some (.lst xs)/\nE xs.length k=some j/\Q (upd H p (.lst (xs.set j v)))
theorem set_list:Ku X Vi:=by
 intro pins s O H o i v ov iv u Q I ro ri rv h
 obtain⟨p,xs,k,j,rfl,rfl,hp,hj,q⟩:=h
 cases ro
 obtain⟨t,rfl⟩:=ri
 obtain⟨its,n,r,ho,hz⟩:=I.lst hp
 obtain⟨h1,h2,h3,h4⟩:=Lb hj
 have hl:=r.length
 have hn:=nB
 have I':Inv X pins O (upd H p (.lst (xs.set j v))) { s with heap:=s.heap.update p (Obj.mapSeq (·.setIfInBounds j u)) } :=
  I.Vh hp ho (Vg its n j u) (r.set rv j) (by rw[JK];exact hz) s.toks
 by_cases h0:0<=k
 .have hk:k.toNat=j:=by
   rw[seqIndex_of h0 h4] at h1
   exact dm h1
  exact PySem.W.ki_setAt ho h0 (by lia) (by rw[bg,<-hl];exact h4) (by rw[hk];exact⟨_,I',q⟩)
 .have hk:(k+(its.toArray.size:Int)).toNat=j:=by
   rw[seqIndex_neg (by lia) h3] at h1
   rw[bg,<-hl]
   exact dm h1
  exact PySem.W.ki_setBack ho (by lia) (by rw[bg,<-hl];exact h3) (by lia) (by rw[hk];exact⟨_,I',q⟩)
theorem Vj(lo hi:Option Int)(n:Nat):(sliceBounds lo hi none n).1=((HT.gF n 0 lo:Nat):Int)/\(sliceBounds lo hi none n).2.1=((HT.gF n n hi:Nat):Int)/\(sliceBounds lo hi none n).2.2=1:=by
 refine⟨?_,?_,rfl⟩
 .cases lo with
  |none=>simp[sliceBounds,HT.gF]
  |some i=>
   simp only[sliceBounds,HT.gF,Option.getD_none,show(1:Int)>0 by decide,gr]
   by_cases h:i<0
   .simp only[h,gr] <;> lia
   .simp only[h,eO] <;> lia
 .cases hi with
  |none=>simp[sliceBounds,HT.gF]
  |some i=>
   simp only[sliceBounds,HT.gF,Option.getD_none,show(1:Int)>0 by decide,gr]
   by_cases h:i<0
   .simp only[h,gr] <;> lia
   .simp only[h,eO] <;> lia
def Vk(its:List Value)(lo hi:Option Int):slicePick its.toArray lo hi none=((its.drop (HT.gF its.length 0 lo)).take (HT.gF its.length its.length hi - HT.gF its.length 0 lo)).toArray:=by
 obtain⟨h1,h2,h3⟩:=Vj lo hi its.toArray.size
 unfold slicePick
 rw[h1,h2,h3]
 simp only[sliceRange_one,pick_run,bg] <;> rfl
def Vl(K:Frag):V->Option Int->Option Int->Hp->VK->Prop:=λx lo hi H Q=>∃a xs,x = .ref a/\ak K H a xs/\∀p,H p=none->Q (.ref p) (upd H p (.lst (gV xs lo hi)))
theorem Aw:DU X (Vl X.K):=by
 intro pins s O H x v vl vu lo hi sl Q I rx hs pl pu h
 obtain⟨a,xs,rfl,hx,q⟩:=h
 cases rx
 obtain⟨its,r,ht,hz⟩:=I.list hx
 have hlen:=r.length
 refine⟨"list",_,slot_list_getitem.lookup,ht.isList.typeIs,?_⟩
 refine wpAny_getItem_list_slice ht.isList hs pl pu .none (by simp) ?_ (by rw[bg] <;> lia)
 rw[Vk,<-hlen]
 refine⟨.ref s.heap.objs.size,_,I.laid (t':=s.toks) (o := .lst (gV xs lo hi)) (λb ob q=>bx _ q) (aN _) ?_,rfl,q _ (I.aD.fresh (aN _))⟩
 exact⟨bL (Vd xs lo hi) hz,_,0,(r.drop (HT.gF xs.length 0 lo)).take (HT.gF xs.length xs.length hi - HT.gF xs.length 0 lo),cq _ rfl⟩
noncomputable def l4:V->Bool
 |.aB=>true
 |.bl _=>true
 |.int _=>true
 |.str _=>true
 |_=>false
noncomputable def gW:V->V->Bool
 |.aB,.aB=>true
 |.bl a,.bl b=>a==b
 |.bl a,.int b=>(if a then 1 else 0)==b
 |.int a,.bl b=>a==(if b then 1 else 0)
 |.int a,.int b=>a==b
 |.str a,.str b=>a==b
 |_,_=>false
def gG(ry:RelV y u)(rx:RelV x v)(fy:l4 y=true)(fx:l4 x=true):SeqAt.EqAt A s u v (gW y x):=by
 cases y with
 |aB=>
  cases ry
  cases x with
  |aB=>cases rx;exact SeqAt.EqAt.same _
  |bl b=>cases rx;exact SeqAt.EqAt.none_bool b
  |int b=>obtain⟨t,rfl⟩:=rx;exact SeqAt.EqAt.none_int b t
  |str b=>obtain⟨t,rfl⟩:=rx;exact SeqAt.EqAt.none_str b t
  |_=>exact absurd (show false=true from fx) bZ
 |bl a=>
  cases ry
  cases x with
  |aB=>cases rx;exact SeqAt.EqAt.bool_none a
  |bl b=>cases rx;exact SeqAt.EqAt.bool_bool a b
  |int b=>obtain⟨t,rfl⟩:=rx;exact SeqAt.EqAt.bool_int a b t
  |str b=>obtain⟨t,rfl⟩:=rx;exact SeqAt.EqAt.bool_str a b t
  |_=>exact absurd (show false=true from fx) bZ
 |int a=>
  obtain⟨t',rfl⟩:=ry
  cases x with
  |aB=>cases rx;exact SeqAt.EqAt.int_none a t'
  |bl b=>cases rx;exact SeqAt.EqAt.int_bool a t' b
  |int b=>obtain⟨t,rfl⟩:=rx;exact SeqAt.EqAt.int_int a t' b t
  |str b=>obtain⟨t,rfl⟩:=rx;exact SeqAt.EqAt.int_str a t' b t
  |_=>exact absurd (show false=true from fx) bZ
 |str a=>
  obtain⟨t',rfl⟩:=ry
  cases x with
  |aB=>cases rx;exact SeqAt.EqAt.str_none a t'
  |bl b=>cases rx;exact SeqAt.EqAt.str_bool a t' b
  |int b=>obtain⟨t,rfl⟩:=rx;exact SeqAt.EqAt.str_int a t' b t
  |str b=>obtain⟨t,rfl⟩:=rx;exact SeqAt.EqAt.str_str a t' b t
  |_=>exact absurd (show false=true from fx) bZ
 |_=>exact absurd (show false=true from fy) bZ
noncomputable def iz(x:V)(u:Value):Bool:=match u with
 |.none=>gW .aB x
 |.bool b=>gW (.bl b) x
 |.int i _=>gW (.int i) x
 |.str z _=>gW (.str z) x
 |_=>false
def Ld(r:RelV y u)(f:l4 y=true):iz x u=gW y x:=by
 cases y with
 |aB=>cases r;rfl
 |bl b=>cases r;rfl
 |int i=>obtain⟨t,rfl⟩:=r;rfl
 |str z=>obtain⟨t,rfl⟩:=r;rfl
 |_=>exact absurd (show false=true from f) bZ
theorem wX{x:V}:∀{xs:List V}{us:List Value},Vals xs us->xs.all l4=true->us.any (iz x)=xs.any λy=>gW y x
 |_,_,.nil,_=>rfl
 |y::xs,u::us,.cons r t,f=>by
  rw[List.all_cons,eY] at f
  rw[vZ,vZ,Ld r f.1,wX t f.2]
theorem wY{A:Around}{s:Shared}{x:V}{v:Value}(rx:RelV x v)(fx:l4 x=true):∀{xs:List V}{us:List Value},Vals xs us->xs.all l4=true->∀u∈us,SeqAt.EqAt A s u v (iz x u)
 |_,_,.nil,_=>λu hu=>by cases hu
 |y::xs,u::us,.cons r t,f=>λu' hu=>by
  rw[List.all_cons,eY] at f
  rcases b9.mp hu with rfl | hu
  .rw[Ld r f.1];exact gG r rx f.1 fx
  .exact wY rx fx t f.2 u' hu
noncomputable def iY(x:V)(xs:List V):Bool:=xs.any λy=>gW y x
def wZ(K:Frag)(neg:Bool):R2:=λx y H Q=>∃p xs,y = .ref p/\(ak K H p xs\/ax K H p xs)/\l4 x=true/\xs.all l4=true/\Q (.bl (if neg then !iY x xs else iY x xs)) H
def Vm:cK X (compareOp .In) (wZ X.K false):=by
 intro pins s O H x y v u Q I rx ry h
 obtain⟨p,xs,rfl,hq,fx,fs,q⟩:=h
 cases ry
 rcases hq with hq | hq
 .obtain⟨its,r,pl,hz⟩:=I.list hq
  refine SeqAt.in_listAt (iz x) pl.isList (λw hw=>wY rx fx r fs w (by simpa using hw)) ⟨.bl _,H,I,rfl,?_⟩
  rw[show its.toArray.any (iz x)=its.any (iz x) by simp,wX r fs]
  exact q
 .obtain⟨its,r,pl,hz⟩:=I.tuple hq
  refine SeqAt.in_tupleAt (iz x) pl (λw hw=>wY rx fx r fs w (by simpa using hw)) ⟨.bl _,H,I,rfl,?_⟩
  rw[show its.toArray.any (iz x)=its.any (iz x) by simp,wX r fs]
  exact q
def w6:cK X (compareOp .NotIn) (wZ X.K true):=by
 intro pins s O H x y v u Q I rx ry h
 obtain⟨p,xs,rfl,hq,fx,fs,q⟩:=h
 cases ry
 rcases hq with hq | hq
 .obtain⟨its,r,pl,hz⟩:=I.list hq
  refine SeqAt.notIn_listAt (iz x) pl.isList (λw hw=>wY rx fx r fs w (by simpa using hw)) ⟨.bl _,H,I,rfl,?_⟩
  rw[show its.toArray.any (iz x)=its.any (iz x) by simp,wX r fs]
  exact q
 .obtain⟨its,r,pl,hz⟩:=I.tuple hq
  refine SeqAt.notIn_tupleAt (iz x) pl (λw hw=>wY rx fx r fs w (by simpa using hw)) ⟨.bl _,H,I,rfl,?_⟩
  rw[show its.toArray.any (iz x)=its.any (iz x) by simp,wX r fs]
  exact q
theorem dg:fL X (.builtin "len") (λxs H Q=>∃p ys,xs=[.ref p]/\(ak X.K H p ys\/ax X.K H p ys)/\Q (.int ys.length) H):=by
 intro pins s O H xs us Q I r h
 obtain⟨p,ys,rfl,hq,q⟩:=h
 obtain⟨u,rfl,rx⟩:=vals1 r
 cases rx
 have hn:=nB
 rcases hq with hq | hq
 .obtain⟨its,r',pl,hz⟩:=I.list hq
  have hlen:=r'.length
  exact Calls.call_len_list pl.isList (by simp only[bg] <;> lia) ⟨.int ys.length,H,I.tok _,⟨s.toks+1,by rw[bg,hlen]⟩,q⟩
 .obtain⟨its,r',pl,hz⟩:=I.tuple hq
  have hlen:=r'.length
  exact len_tuple pl (by simp only[bg] <;> lia) ⟨.int ys.length,H,I.tok _,⟨s.toks+1,by rw[bg,hlen]⟩,q⟩
theorem iZ:fL X (.builtin "len") (λxs H Q=>∃z,xs=[.str z]/\z.length<=sizeLine/\Q (.int z.length) H):=by
 intro pins s O H xs us Q I r h
 obtain⟨z,rfl,hz,q⟩:=h
 obtain⟨u,rfl,t,rfl⟩:=vals1 r
 have hn:=nB
 exact len_str (by lia) ⟨.int z.length,H,I.tok _,⟨_,rfl⟩,q⟩
theorem rf:fL X (.type "list") (λxs H Q=>∃p ys,xs=[.ref p]/\(ak X.K H p ys\/ax X.K H p ys)/\∀l,H l=none->Q (.ref l) (upd H l (.lst ys))):=by
 intro pins s O H xs us Q I r h
 obtain⟨p,ys,rfl,hq,q⟩:=h
 obtain⟨u,rfl,rx⟩:=vals1 r
 cases rx
 have fin:∀(its:List Value),Vals ys its->ys.length<=sizeLine->∀(h':Heap) (c':Nat),(∀b o',s.heap.get? b=some o'->h'.get? b=some o')->
   h'.get? s.heap.objs.size=some { cls := .type "list",dict:=none,data := .seq its.toArray c',slots := #[] }->EP X pins O Q (.ref s.heap.objs.size) { s with heap:=h' }:=λits r' hz h' c' kp e=>
  ⟨.ref s.heap.objs.size,_,I.laid (t':=s.toks) kp (aN _) (show cO X.prog X.w _ h' _ (.lst ys) from⟨hz,its,c',r',e⟩),rfl,q _ (I.aD.fresh (aN _))⟩
 rcases hq with hq | hq
 .obtain⟨its,r',pl,hz⟩:=I.list hq
  have hlen:=r'.length
  obtain⟨o,ho,hc,n,hd⟩:=pl.isList
  exact call_list_seq p (.inl rfl) ho hc hd (λh' c' kp e=>fin its r' hz h' c' kp e) (by simp only[bg] <;> lia)
 .obtain⟨its,r',pl,hz⟩:=I.tuple hq
  have hlen:=r'.length
  obtain⟨o,ho,hc,n,hd⟩:=pl
  exact call_list_seq p (.inr rfl) ho hc hd (λh' c' kp e=>fin its r' hz h' c' kp e) (by simp only[bg] <;> lia)
theorem tT:fL X (.type "tuple") (λxs H Q=>∃p ys,xs=[.ref p]/\((ak X.K H p ys/\∀l,H l=none->Q (.ref l) (upd H l (.tup ys)))\/(ax X.K H p ys/\Q (.ref p) H))):=by
 intro pins s O H xs us Q I r h
 obtain⟨p,ys,rfl,h⟩:=h
 obtain⟨u,rfl,rx⟩:=vals1 r
 cases rx
 rcases h with ⟨hq,q⟩ | ⟨hq,q⟩
 .obtain⟨its,r',pl,hz⟩:=I.list hq
  have hlen:=r'.length
  refine call_tuple_list pl.isList (λh' kp=>?_) (by simp only[bg] <;> lia)
  have I1:Inv X pins O H { s with heap:=h' }:=I.kept (t':=s.toks) kp
  have I2:Inv X pins O (upd H h'.objs.size (.tup ys)) { s with heap:=h'.push { cls := .type "tuple",data := .seq its.toArray } } :=
   I1.laid (t':=s.toks) (λb o e=>bx _ e) (aN _) (show cO X.prog X.w _ _ _ (.tup ys) from⟨hz,its,r',IsTup.new _ _⟩)
  exact⟨.ref h'.objs.size,_,I2,rfl,q _ (I1.aD.fresh (aN _))⟩
 .obtain⟨its,r',pl,hz⟩:=I.tuple hq
  exact call_tuple_same pl ⟨.ref p,H,I,rfl,q⟩
def Le(K:Frag)(T:String)(x:V)(H:Hp):Prop:=match x with
 |.str _=>T="str"
 |.int _=>T="int"
 |.ref p=>(T="list" /\∃xs,ak K H p xs)\/(T="tuple" /\∃o,K.lookup p=some o/\o.cls = .type "tuple"/\o.dict=none)\/
   (T="dict"/\((∃kvs,H p=some (.dK kvs))\/∃kvs,H p=some (.dT kvs)))\/(T="set" /\∃S n,H p=some (.set S n))
 |_=>False
def Vn(I:Inv X pins O H s)(r:RelV x v)(ty:Le X.K T x H) :
  s.TypeIs v T/\∀a,v = .ref a->∃ob,s.heap.get? a=some ob/\ob.dict=none:=by
 cases x with
 |str z=>
  obtain⟨t,rfl⟩:=r
  cases(show T="str" from ty)
  exact⟨typeIs_str s z t,λ_ e=>nomatch e⟩
 |int i=>
  obtain⟨t,rfl⟩:=r
  cases(show T="int" from ty)
  exact⟨typeIs_int s i t,λ_ e=>nomatch e⟩
 |ref p=>
  cases r
  rcases ty with ⟨rfl,xs,hq⟩ | ⟨rfl,o,hk,hc,hd⟩ | ⟨rfl,hk⟩ | ⟨rfl,S,n,hk⟩
  .obtain⟨its,_,pl,_⟩:=I.list hq
   refine⟨pl.isList.typeIs,λa e=>?_⟩
   cases e
   obtain⟨o,n,e,c,hd,_⟩:=pl
   exact⟨o,e,hd⟩
  .refine⟨⟨o,I.cY p o hk,hc⟩,λa e=>?_⟩
   cases e
   exact⟨o,I.cY _ o hk,hd⟩
  .have z:∃o,s.heap.get? p=some o/\o.ExactDict:=by
    rcases hk with ⟨kvs,hk⟩ | ⟨kvs,hk⟩
    .obtain⟨_,_,_,_,o,_,_,e,ex,_⟩:=I.aD p _ hk
     exact⟨o,e,ex⟩
    .obtain⟨_,_,_,_,o,_,_,e,ex,_⟩:=I.aD p _ hk
     exact⟨o,e,ex⟩
   obtain⟨o,e,ex⟩:=z
   refine⟨⟨o,e,ex.1⟩,λa e2=>?_⟩
   cases e2
   exact⟨o,e,ex.2.1⟩
  .obtain⟨o,_,_,_,e,ex,_⟩:=I.aD p _ hk
   refine⟨⟨o,e,ex.1⟩,λa e2=>?_⟩
   cases e2
   exact⟨o,e,ex.2.1⟩
 |_=>exact False.elim ty
def Lf(K:Frag)(T:String)(r:V->List V->Hp->VK->Prop)(to:TE)(t:TA):TE:=λO H Q=>to O H λx H1=>Le K T x H1/\t O H1 λxs H2=>r x xs H2 Q
variable{o e:Expr}{es:List Expr}{to:TE}{t:TA}{name:Str}{apos dU:Pos}{T id:String}{r:V->List V->Hp->VK->Prop}
def fm(pa:PlainAttrs T)(slot:Slot T name id)(DW:typeOf (.builtin id)=pure (.type "method_descriptor"))(hm:Av X id r)(ho:PE X o to)(ha:PA X (e::es) t)
  (DX:attributeBase o name X.env (eval o X.env)=eval o X.env:=by rfl)
  (DY:((backTo dU (starEach (e::es) X.env)).all (λx=>!x.1)&&(backToKw dU (keywordEach [] X.env)).all (λx=>x.1.isSome)
   && decide ((e::es).length+([]:List Keyword).length+(if ([]:List Keyword).isEmpty then 0 else 1)<30))=true:=by rfl)
  (DZ:(apos.endLine==dU.line)=true:=by rfl) (hs:starEach (e::es) X.env=(false,eval e X.env)::starEach es X.env:=by rfl) (D0:(backTo dU (starEach es X.env)).any (·.1)=false:=by rfl) :
  PE X (.Call (.Attribute o name apos) (e::es) [] dU) (Lf X.K T r to t):=by
 intro pins s O H Q I h
 refine wpAny_Call_method_late DX DY DZ rfl (aE (ho pins s O H _ I h) λv s1 ⟨x,H1,I1,r1,ty,q1⟩=>?_)
 obtain⟨h1,h2⟩:=Vn I1 r1 ty
 refine⟨T,id,pa,slot,DW,h1,h2,?_⟩
 have hA:=ha dU pins s1 O H1 _ I1 q1
 rw[hs] at hA ⊢
 refine SJ (by show(false||(backTo dU (starEach es X.env)).any (·.1))=false;rw[D0] <;> rfl) (SK ?_)
 exact aE hA λus s2 ⟨vs,H2,I2,r2,q2⟩=>hm pins s2 O H2 x vs v us Q I2 r1 r2 q2
end
def Lg(X:Cx)(id:String)(r:V->List V->Hp->VK->Prop):Prop:=
 ∀(pins:List (Addr×Obj)) (s:Shared) (O:St) (H:Hp) (x:V) (xs:List V) (v:Value) (us:List Value) (Q:VK),Inv X pins O H s->RelV x v->Vals xs us->r x xs H Q->
  wpAny (model X.prog X.w) X.A (call (.builtin id) (v::us)) (EP X pins O Q) X.xe s
theorem Vals.one:∀{x:V}{us:List Value},Vals [x] us->∃u,us=[u]/\RelV x u
 |_,_,.cons r .nil=>⟨_,rfl,r⟩
theorem Vals.rep{xs:List V}{us:List Value}(h:Vals xs us):∀k:Nat,Vals (List.replicate k xs).flatten (List.replicate k us).flatten
 |0=>.nil
 |k+1=>by
  rw[oO,oO,wa,wa]
  exact Vals.append h (Vals.rep h k)
theorem foldl_rep(its:List Value):∀(k:Nat) (acc:List Value),
  List.foldl (λx1 x2=>x1++x2) acc.toArray (List.replicate k its.toArray)=(acc++(List.replicate k its).flatten).toArray
 |0,acc=>by simp
 |k+1,acc=>by
  have e:acc.toArray++its.toArray=(acc++its).toArray:=by simp
  have e2:(acc++its)++(List.replicate k its).flatten=acc++(List.replicate (k+1) its).flatten:=by
   rw[oO,wa,tf]
  rw[<-e2,<-foldl_rep its k (acc++its),<-e,oO,List.foldl_cons]
section
variable{X:Cx}{pins:List (Addr×Obj)}{O:St}{H:Hp}{s:Shared}{l b:Addr}{xs ys zs:List V}
def Inv.Lh(I:Inv X pins O H s)(hH:H l=some (.lst xs))
  (e:s.heap.get? l=some { cls := .type "list",data := .seq its.toArray n }) (hf:f its.toArray=cu.toArray) (hv:Vals ys cu) (hz:ys.length<=sizeLine) :
  Inv X pins O (upd H l (.lst ys)) { s with heap:=s.heap.update l (Obj.mapSeq f),toks:=t' }:=by
 have q:=PySem.IsL.update e f
 rw[hf] at q
 refine I.write (x:=l) (e:=l) (by rw[hH];exact trivial) (.inl rfl) (λb' u hb hu=>(m4 s.heap (Obj.mapSeq f) (bu hb)).trans hu) ⟨_,q⟩ ?_
 exact⟨hz,cu,_,hv,q⟩
def Inv.D3(I:Inv X pins O H s)(hv:Vals ys its)(hz:ys.length<=sizeLine) :
  Inv X pins O (upd H s.heap.objs.size (.lst ys)) { s with heap:=s.heap.push { cls := .type "list",data := .seq its.toArray },toks:=t' } :=
 I.laid (λ_ _ q=>bx _ q) (aN _) ⟨hz,its,0,hv,cq _ rfl⟩
theorem Inv.fresh(I:Inv X pins O H s):H s.heap.objs.size=none:=I.aD.fresh (aN _)
def Inv.pA(I:Inv X pins O H s)(hH:H l=some (.lst xs)):xs.length<=sizeLine/\∃(its:List Value) (n:Nat),Vals xs its/\xs.length=its.length/\s.heap.get? l=some { cls := .type "list",data := .seq its.toArray n }:=by
 obtain⟨z,its,n,r,e⟩:=I.aD l _ hH
 exact⟨z,its,n,r,r.length,e⟩
theorem Li(h:n<=sizeLine):Builtin.List.listTooLong n=false:=by
 unfold Builtin.List.listTooLong
 exact aK (by lia)
end
section
variable{X:Cx}
def Vo:V->List V->Hp->VK->Prop:=λx vs H Q=>∃l xs y,x = .ref l/\vs=[y]/\H l=some (.lst xs)/\xs.length<sizeLine/\Q .aB (upd H l (.lst (xs++[y])))
theorem iA:Lg X "list.append" Vo:=by
 intro pins s O H x vs v us Q I rx rv h
 obtain⟨l,xs,y,rfl,rfl,hH,hz,q⟩:=h
 cases rx
 obtain⟨u,rfl,ru⟩:=rv.one
 obtain⟨z,its,n,r,hl,e⟩:=I.pA hH
 refine call_meets F.slot_list_append ⟨_,e,rfl⟩ F.entry_list_append (F.args_list_append_2 _ _) (PySem.list_append l its.toArray n u (by rw[bg];lia)) ⟨e,?_⟩
 refine⟨.aB,_,I.Lh (cu:=its++[u]) hH e (by simp) (r.append (.cons ru .nil)) ?_,rfl,q⟩
 rw[cE,Dk]
 lia
def Vp:V->List V->Hp->VK->Prop:=λx vs H Q=>∃l b xs zs,x = .ref l/\vs=[.ref b]/\H l=some (.lst xs)/\H b=some (.lst zs)/\xs.length+zs.length<=sizeLine/\Q .aB (upd H l (.lst (xs++zs)))
theorem Vq:Lg X "list.extend" Vp:=by
 intro pins s O H x vs v us Q I rx rv h
 obtain⟨l,b,xs,zs,rfl,rfl,hH,hB,hz,q⟩:=h
 cases rx
 obtain⟨u,rfl,ru⟩:=rv.one
 cases ru
 obtain⟨z,its,n,r,hl,e⟩:=I.pA hH
 obtain⟨z2,nF,n2,r2,kO,e2⟩:=I.pA hB
 have hsz:its.toArray.size+nF.toArray.size<=sizeLine:=by rw[bg,bg];lia
 have D4:¬(!its.toArray.isEmpty&&Builtin.List.listTooLong (its.toArray.size+nF.toArray.size))=true:=by
  rw[Li hsz,m5]
  exact bZ
 refine call_meets F.slot_list_extend ⟨_,e,rfl⟩ F.entry_list_extend (F.args_list_extend_2 _ _)
  (AutoSeq1.list_extend_list_list_0 l its.toArray n b nF.toArray n2 D4 (by rw[bg];lia) (by lia)) ⟨e,e2,?_⟩
 refine⟨.aB,_,I.Lh (cu:=its++nF) hH e (by simp) (r.append r2) ?_,rfl,q⟩
 rw[cE]
 lia
def Vr:R2:=λx y H Q=>∃l b xs zs,x = .ref l/\y = .ref b/\H l=some (.lst xs)/\H b=some (.lst zs)/\xs.length+zs.length<=sizeLine/\∀p,H p=none->Q (.ref p) (upd H p (.lst (xs++zs)))
theorem Ax:cK X (binaryOp .Add) Vr:=by
 intro pins s O H x y v u Q I rx ry h
 obtain⟨l,b,xs,zs,rfl,rfl,hH,hB,hz,q⟩:=h
 cases rx
 cases ry
 obtain⟨z,its,n,r,hl,e⟩:=I.pA hH
 obtain⟨z2,nF,n2,r2,kO,e2⟩:=I.pA hB
 refine PySem.P.add_list e e2 ?_ (by rw[bg,bg];lia)
 have ea:its.toArray++nF.toArray=(its++nF).toArray:=by simp
 rw[ea]
 exact⟨.ref _,_,I.D3 (t':=s.toks) (r.append r2) (by rw[cE];lia),rfl,q _ I.fresh⟩
def Vs:R2:=λx y H Q=>∃l k xs,x = .ref l/\y = .int k/\H l=some (.lst xs)/\ -(2 ^ 63)<=k/\k<2 ^ 63/\xs.length*k.toNat<=sizeLine/\
 ∀p,H p=none->Q (.ref p) (upd H p (.lst (List.replicate k.toNat xs).flatten))
def len_rep(xs:List α)(k:Nat):(List.replicate k xs).flatten.length=k*xs.length:=by
 induction k with
 |zero=>simp
 |succ k ih=>rw[oO,wa,cE,ih,lM,Nat.add_comm]
theorem Vt:cK X (binaryOp .Mult) Vs:=by
 intro pins s O H x y v u Q I rx ry h
 obtain⟨l,k,xs,rfl,rfl,hH,h1,h2,hz,q⟩:=h
 cases rx
 obtain⟨t,rfl⟩:=ry
 obtain⟨z,its,n,r,hl,e⟩:=I.pA hH
 have hlen:its.toArray.size*k.toNat<=sizeLine:=by rw[bg,<-hl];exact hz
 have Vu:¬its.toArray.size*k.toNat>(2 ^ 63 - 1) / 8:=by
  have:(sizeLine:Nat)<=(2 ^ 63 - 1) / 8:=by decide
  lia
 have cV:¬(!Builtin.List.listFitsIndex k)=true:=by
  rw[fitsIndex_both h1 h2]
  exact bZ
 have D4:¬Builtin.List.listTooLong (its.toArray.size*k.toNat)=true:=by
  rw[Li hlen]
  exact bZ
 have Ay:List.foldl (λx1 x2=>x1++x2) #[] (List.replicate (if its.toArray.isEmpty=true then 0 else k.toNat) its.toArray)=(List.replicate k.toNat its).flatten.toArray:=by
  have f0:∀m:Nat,List.foldl (λx1 x2=>x1++x2) #[] (List.replicate m its.toArray)=(List.replicate m its).flatten.toArray:=λm=>by
   have:=foldl_rep its m []
   rw[Dl] at this
   exact this
  rw[f0]
  cases its with
  |nil=>simp
  |cons a r'=>rw[av (by simp)]
 refine wpAny_binaryOp_repeat_ref (T:="list") (U:="int") (by decide) ⟨_,e,rfl⟩ (λs'=>typeIs_int s' k t) noFill_list_mul F.fills_int_mul F.slot_int_rmul repeat_list F.slot_int_index.lookup
  (call_meets F.slot_int_rmul (typeIs_int s k t) F.entry_int_rmul (F.args_int_rmul_2 _ _) (int___rmul___int_list k t l its.toArray n)
   ⟨e,rfl,⟨_,e,rfl⟩,call_meets F.slot_list_mul ⟨_,e,rfl⟩ F.entry_list_mul (F.args_list_mul_2 _ _) (AutoListH.list___mul___list_int_3 l its.toArray n k t cV Vu D4) ⟨e,?_⟩⟩)
 rw[Ay]
 exact⟨.ref _,_,I.D3 (t':=s.toks) (r.rep k.toNat) (by rw[len_rep,qD];exact hz),rfl,q _ I.fresh⟩
end
section
variable{κ:Type}[DecidableEq κ]
noncomputable def aP(kvs:List (κ×V))(k:κ):Option V:=(kvs.find? λkv=>decide (kv.1=k)).map (·.2)
noncomputable def putK(kvs:List (κ×V))(k:κ)(v:V):List (κ×V):=
 if (kvs.any λkv=>decide (kv.1=k))=true then kvs.map (λkv=>if kv.1=k then (kv.1,v) else kv) else kvs++[(k,v)]
def kP{p:κ×V}{r:List (κ×V)}{k:κ}(e:p.1=k):aP (p::r) k=some p.2:=by simp[aP,tj,e]
def kQ{p:κ×V}{r:List (κ×V)}{k:κ}(e:¬p.1=k):aP (p::r) k=aP r k:=by simp[aP,tj,e]
theorem rh(k:κ):∀kvs:List (κ×V),(kvs.any λkv=>decide (kv.1=k))=(aP kvs k).isSome
 |[]=>rfl
 |p::r=>by
  rw[vZ]
  by_cases e:p.1=k
  .simp only[kP e,aI e,Bool.true_or,Option.isSome_some]
  .rw[kQ e,aK e,Bool.false_or];exact rh k r
theorem Lj(k j:κ)(y:V):∀kvs:List (κ×V),aP (kvs.map λkv=>if kv.1=k then (kv.1,y) else kv) j=(aP kvs j).map λx=>if j=k then y else x
 |[]=>rfl
 |p::r=>by
  have ih:=Lj k j y r
  rw[bQ]
  by_cases h:p.1=k
  .rw[aA h]
   by_cases e:p.1=j
   .rw[kP (p:=(p.1,y)) e,kP e,iR,aA (e.symm.trans h)]
   .rw[kQ (p:=(p.1,y)) e,kQ e,ih]
  .rw[av h]
   by_cases e:p.1=j
   .rw[kP (p:=p) e,kP e,iR,av (λz=>h (e.trans z))]
   .rw[kQ (p:=p) e,kQ e,ih]
theorem Lk(k j:κ)(y:V):∀kvs:List (κ×V),aP kvs k=none->aP (kvs++[(k,y)]) j=if j=k then some y else aP kvs j
 |[],_=>by
  by_cases e:k=j
  .rw[aA e.symm];exact kP (p:=(k,y)) e
  .rw[av (λz=>e z.symm)];exact kQ (p:=(k,y)) e
 |p::r,hn=>by
  rw[List.cons_append]
  have hk:¬p.1=k:=λz=>by rw[kP z] at hn;cases hn
  rw[kQ hk] at hn
  have ih:=Lk k j y r hn
  by_cases e:p.1=j
  .rw[kP e,kP e,av (λz=>hk (e.trans z))]
  .rw[kQ e,kQ e,ih]
def nG(kvs:List (κ×V))(k j:κ)(y:V):aP (putK kvs k y) j=if j=k then some y else aP kvs j:=by
 unfold putK
 by_cases a:(kvs.any λkv=>decide (kv.1=k))=true
 .rw[aA a,Lj]
  rw[rh] at a
  by_cases e:j=k
  .obtain⟨x,hx⟩:=Option.isSome_iff_exists.mp a
   rw[aA e,e,hx,iR,aA rfl]
  .rw[av e]
   cases aP kvs j with
   |none=>rfl
   |some x=>rw[iR,av e]
 .rw[av a]
  refine Lk k j y kvs ?_
  rw[rh] at a
  cases q:aP kvs k with
  |none=>rfl
  |some x=>rw[q] at a;exact(a rfl).elim
theorem tU(kvs:List (κ×V))(k:κ)(v:V):(putK kvs k v).length<=kvs.length+1:=by
 unfold putK
 split
 .rw[aq];lia
 .rw[cE,cQ,Dj];lia
def tV{kvs:List (κ×V)}{k:κ}(v:V)(h:aP kvs k=none):putK kvs k v=kvs++[(k,v)]:=by
 unfold putK
 rw[rh,h]
 exact av (by decide)
def fI.w8{u:Option Value}(r:fI o u):o.isSome=u.isSome:=by
 cases o with
 |none=>cases u with
  |none=>rfl
  |some _=>exact(show False from r).elim
 |some _=>cases u with
  |none=>exact(show False from r).elim
  |some _=>rfl
theorem fI.getD{u:Option Value}{d:V}(r:fI o u)(rd:RelV d d'):RelV (o.getD d) (u.getD d'):=by
 cases o with
 |none=>cases u with
  |none=>exact rd
  |some _=>exact(show False from r).elim
 |some _=>cases u with
  |none=>exact(show False from r).elim
  |some _=>exact r
def KV.val{kvs:List (κ×V)}{vs:List (κ×Value)}(r:KV kvs vs)(k:κ):fI (aP kvs k) (valueAt vs k):=by
 unfold KV at r
 induction r with
 |nil=>exact True.intro
 |@cons p q ps qs h t ih=>
  obtain⟨h1,h2⟩:=h
  by_cases e:p.1=k
  .have e':q.1=k:=h1.symm.trans e
   have b:valueAt (q::qs) k=some q.2:=by simp[valueAt,tj,e']
   rw[kP e,b];exact h2
  .have e':¬q.1=k:=λz=>e (h1.trans z)
   have b:valueAt (q::qs) k=valueAt qs k:=by simp[valueAt,tj,e']
   rw[kQ e,b];exact ih
theorem KV.any{kvs:List (κ×V)}{vs:List (κ×Value)}(r:KV kvs vs)(k:κ):(kvs.any λkv=>decide (kv.1=k))=vs.any λkv=>decide (kv.1=k):=by
 unfold KV at r
 induction r with
 |nil=>rfl
 |cons h t ih=>rw[vZ,vZ,ih,h.1]
def KV.D5{kvs:List (κ×V)}{vs:List (κ×Value)}(r:KV kvs vs)(k:κ)(ry:RelV y u) :
  KV (kvs.map λkv=>if kv.1=k then (kv.1,y) else kv) (vs.map λkv=>if kv.1=k then (kv.1,u) else kv):=by
 unfold KV at r ⊢
 induction r with
 |nil=>exact .nil
 |@cons p q ps qs h t ih=>
  rw[bQ,bQ]
  refine .cons ?_ ih
  obtain⟨h1,h2⟩:=h
  by_cases e:p.1=k
  .rw[aA e,aA (h1.symm.trans e)];exact⟨h1,ry⟩
  .rw[av e,av (λz=>e (h1.trans z))];exact⟨h1,h2⟩
def KV.put{kvs:List (κ×V)}{vs:List (κ×Value)}(r:KV kvs vs)(k:κ)(ry:RelV y u):KV (putK kvs k y) (stored vs k u):=by
 unfold putK stored
 rw[r.any k]
 by_cases e:(vs.any λkv=>decide (kv.1=k))=true
 .rw[aA e,aA e];exact r.D5 k ry
 .rw[av e,av e];exact m6 r ⟨rfl,ry⟩
theorem KV.length{kvs:List (κ×V)}{vs:List (κ×Value)}(r:KV kvs vs):kvs.length=vs.length:=dy r
end
def tW{k:Key}(r:RelV (kV k) u):(bV P w).is k u=true:=by
 cases k with
 |inl i=>obtain⟨t,e⟩:=(show ∃t,u=Value.int i t from r);subst e;exact Td P w i t
 |inr x=>obtain⟨t,e⟩:=(show ∃t,u=Value.str x t from r);subst e;exact Te P w x t
theorem D6{P:Program}{w:World}:∀{ks:List Key}{us:List Value},Vals (ks.map kV) us->ItemsAre (bV P w) ks us
 |[],_,r=>by rw[wb] at r;cases r;exact .nil
 |k::ks,_,r=>by
  rw[bQ] at r
  cases r with
  |cons h t=>exact .cons (tW h) (D6 t)
abbrev KT(H:Hp):List (List Key×V)->List (List Key×Addr×Value)->Prop:=Paired λp q=>p.1=q.1/\H q.2.1=some (.tup (p.1.map kV))/\RelV p.2 q.2.2
def KT.val(r:KT H kvs xs)(k:List Key):fI (aP kvs k) ((atKey xs k).map (·.2)):=by
 induction r with
 |nil=>exact True.intro
 |@cons p q ps qs h t ih=>
  obtain⟨h1,_,h2⟩:=h
  by_cases e:p.1=k
  .have e':q.1=k:=h1.symm.trans e
   have b:atKey (q::qs) k=some q.2:=by simp[atKey,tj,e']
   rw[kP e,b];exact h2
  .have e':¬q.1=k:=λz=>e (h1.trans z)
   have b:atKey (q::qs) k=atKey qs k:=by simp[atKey,tj,e']
   rw[kQ e,b];exact ih
def KT.D5(r:KT H kvs xs)(k:List Key)(ry:RelV y u) :
  KT H (kvs.map λkv=>if kv.1=k then (kv.1,y) else kv) (xs.map (putAt k u)):=by
 induction r with
 |nil=>exact .nil
 |@cons p q ps qs h t ih=>
  rw[bQ,bQ]
  refine .cons ?_ ih
  obtain⟨h1,h2,h3⟩:=h
  unfold putAt
  by_cases e:p.1=k
  .rw[aA e,aA (h1.symm.trans e)];exact⟨h1,h2,ry⟩
  .rw[av e,av (λz=>e (h1.trans z))];exact⟨h1,h2,h3⟩
def KT.put(r:KT H kvs xs)(k:List Key)(hb:H b=some (.tup (k.map kV)))(ry:RelV y u) :
  KT H (putK kvs k y) (storedH xs k b u):=by
 have e:(kvs.any λkv=>decide (kv.1=k))=(atKey xs k).isSome:=by
  rw[rh,(r.val k).w8,Option.isSome_map]
 unfold putK storedH
 rw[e]
 by_cases q:(atKey xs k).isSome=true
 .rw[aA q,aA q];exact r.D5 k ry
 .rw[av q,av q];exact m6 r ⟨rfl,hb,ry⟩
def KT.keeps(r:KT H kvs xs)(ht:∀b ys,H b=some (.tup ys)->H' b=some (.tup ys)):KT H' kvs xs:=
 Paired.bJ r λ_ _ z=>⟨z.1,ht _ _ z.2.1,z.2.2⟩
section
variable{P:Program}{w:World}{H:Hp}{h:Heap}{a:Addr}
def Ll{u:HO}(ok:c8 P w H h)(e:Rd H a u):cO P w H h a u:=e.ok ok
def rj{kvs:List (Key×V)}(ok:c8 P w H h)(e:Rd H a (.dK kvs)):kvs.length<=sizeLine/\(a==sysModules)=false/\∃vs,KV kvs vs/\h.DictOf (bV P w) a vs:=
 show cO P w H h a (.dK kvs) from Ll ok e
def Vv{kvs:List (Key×V)}(ok:c8 P w H h)(e:H a=some (.dK kvs)):kvs.length<=sizeLine/\(a==sysModules)=false/\∃vs,KV kvs vs/\h.DictOf (bV P w) a vs:=rj ok (.inl e)
def rk(ok:c8 P w H h)(e:H a=some (.tup (ks.map kV))):(tupleKind (bV P w)).is h ks a:=by
 obtain⟨_,its,r,o,h1,h2,n,h3⟩:=(show cO P w H h a (.tup (ks.map kV)) from ok a _ e)
 exact⟨o,its.toArray,n,h1,h2,h3,by simpa using D6 r⟩
def rl(ok:c8 P w H h)(e:Rd H a (.dT kvs)):kvs.length<=sizeLine/\(a==sysModules)=false/\
  ∃xs,KT H kvs xs/\h.DictOfH (tupleKind (bV P w)) a xs:=by
 obtain⟨z,y,xs,r,o,es,ep,h1,h2,h3,h4,h5⟩:=(show cO P w H h a (.dT kvs) from Ll ok e)
 refine⟨z,y,xs,r,o,es,ep,h1,h2,h3,h4,λx hx=>?_,h5⟩
 have all:∀{l:List (List Key×V)}{m:List (List Key×Addr×Value)},KT H l m->∀x∈m,(tupleKind (bV P w)).is h x.1 x.2.1:=by
  intro l m q
  induction q with
  |nil=>intro x hx;exact nomatch hx
  |@cons p q ps qs hq t ih=>
   intro x hx
   rcases b9.mp hx with e | hx
   .subst e
    exact rk ok (by rw[<-hq.1];exact hq.2.1)
   .exact ih x hx
 exact all r x hx
def Ln(ok:c8 P w H h)(e:H a=some (.dT kvs)):kvs.length<=sizeLine/\(a==sysModules)=false/\
  ∃xs,KT H kvs xs/\h.DictOfH (tupleKind (bV P w)) a xs:=rl ok (.inl e)
end
def dW(H:Hp)(a:Addr)(y:V)(r:Option V):Prop:=
 (∃kvs k,Rd H a (.dK kvs)/\y=kV k/\r=aP kvs k)\/∃kvs k b,Rd H a (.dT kvs)/\y = .ref b/\H b=some (.tup (k.map kV))/\r=aP kvs k
def l6(H:Hp)(a:Addr)(y v:V)(H':Hp):Prop:=
 (∃kvs k,H a=some (.dK kvs)/\y=kV k/\kvs.length<sizeLine/\H'=upd H a (.dK (putK kvs k v)))\/
 ∃kvs k b,H a=some (.dT kvs)/\y = .ref b/\H b=some (.tup (k.map kV))/\kvs.length<sizeLine/\H'=upd H a (.dT (putK kvs k v))
theorem dW.k{H:Hp}{a:Addr}{kvs:List (Key×V)}{k:Key}(e:H a=some (.dK kvs)):dW H a (kV k) (aP kvs k) := .inl ⟨kvs,k,.inl e,rfl,rfl⟩
def dW.t{k:List Key}(e:H a=some (.dT kvs))(eb:H b=some (.tup (k.map kV))):dW H a (.ref b) (aP kvs k) := .inr ⟨kvs,k,b,.inl e,rfl,eb,rfl⟩
theorem l6.k{H:Hp}{a:Addr}{kvs:List (Key×V)}{k:Key}{v:V}(e:H a=some (.dK kvs))(hl:kvs.length<sizeLine):l6 H a (kV k) v (upd H a (.dK (putK kvs k v))) := .inl ⟨kvs,k,e,rfl,hl,rfl⟩
def l6.t{k:List Key}{v:V}(e:H a=some (.dT kvs))(eb:H b=some (.tup (k.map kV)))(hl:kvs.length<sizeLine) :
  l6 H a (.ref b) v (upd H a (.dT (putK kvs k v))) := .inr ⟨kvs,k,b,e,rfl,eb,hl,rfl⟩
section
variable{X:Cx}{pins:List (Addr×Obj)}{O:St}{H:Hp}{s:Shared}{a:Addr}{y v:V}{u r:Value}{o:Option V}{A:Around}{E:Value->Shared->Prop}
def Inv.big(I:Inv X pins O H s):sysModules<s.heap.objs.size:=by
 have h:mainGlobals<s.heap.objs.size:=(I.mod.glob.keeps I.bk).lt
 exact Nat.lt_trans (by decide) h
def Vw(hu:A.units+1<cLine)(I:Inv X pins O H s)(g:dW H a y (some v))(ry:RelV y u)(h:∀w' s',Inv X pins O H s'->RelV v w'->Q w' s') :
  wpAny (model X.prog X.w) A (getItem (.ref a) u) Q E s:=by
 rcases g with ⟨kvs,k,e,ey,l⟩ | ⟨kvs,k,b,e,ey,eb,l⟩
 .subst ey
  obtain⟨z,hd,vs,rel,dd⟩:=rj I.aD e
  obtain⟨w',hw,kN⟩:=fI.some_of (v:=v) (o:=valueAt vs k) (by rw[l];exact rel.val k)
  exact wpAny_getItem_of (tW ry) dd.mapOf hw (h w' _ (I.tok _) kN)
 .subst ey
  cases(show u=Value.ref b from ry)
  obtain⟨z,hd,xs,rel,dd⟩:=rl I.aD e
  obtain⟨w',hw,kN⟩:=fI.some_of (v:=v) (o:=(atKey xs k).map (·.2)) (by rw[l];exact rel.val k)
  obtain⟨p,hp,gX⟩:=gu.mp hw
  refine wpAny_getItem_heap (zE hu) (rk I.aD eb) dd hp ?_
  rw[gX]
  exact h w' _ (I.tok _) kN
def Vx(hu:A.units+1<cLine)(I:Inv X pins O H s)(g:dW H a y o)(ry:RelV y u)(h:∀s',Inv X pins O H s'->Q (.bool o.isSome) s') :
  wpAny (model X.prog X.w) A (compareOp .In u (.ref a)) Q E s:=by
 rcases g with ⟨kvs,k,e,ey,l⟩ | ⟨kvs,k,b,e,ey,eb,l⟩
 .subst ey
  obtain⟨z,hd,vs,rel,dd⟩:=rj I.aD e
  refine wpAny_in_of (tW ry) hd dd.mapOf ?_
  rw[<-(rel.val k).w8,<-l]
  exact h _ (I.tok _)
 .subst ey
  cases(show u=Value.ref b from ry)
  obtain⟨z,hd,xs,rel,dd⟩:=rl I.aD e
  refine wpAny_in_heap (zE hu) (rk I.aD eb) hd dd ?_
  have q:=(rel.val k).w8
  rw[Option.isSome_map] at q
  rw[<-q,<-l]
  exact h _ (I.tok _)
def Vy(hu:A.units+1<cLine)(I:Inv X pins O H s)(g:dW H a y o)(ry:RelV y u)(h:∀s',Inv X pins O H s'->Q (.bool (!o.isSome)) s') :
  wpAny (model X.prog X.w) A (compareOp .NotIn u (.ref a)) Q E s:=by
 rcases g with ⟨kvs,k,e,ey,l⟩ | ⟨kvs,k,b,e,ey,eb,l⟩
 .subst ey
  obtain⟨z,hd,vs,rel,dd⟩:=rj I.aD e
  refine wpAny_notIn_of (tW ry) hd dd.mapOf ?_
  rw[<-(rel.val k).w8,<-l]
  exact h _ (I.tok _)
 .subst ey
  cases(show u=Value.ref b from ry)
  obtain⟨z,hd,xs,rel,dd⟩:=rl I.aD e
  refine wpAny_notIn_heap (zE hu) (rk I.aD eb) hd dd ?_
  have q:=(rel.val k).w8
  rw[Option.isSome_map] at q
  rw[<-q,<-l]
  exact h _ (I.tok _)
def D7{ob:HO}(I:Inv X pins O H s)(mu:wz (H a))(hs:Heap.SameBut a s.heap h')(he:∃q,h'.get? a=some q)(new:cO X.prog X.w (upd H a ob) h' a ob) :
  Inv X pins O (upd H a ob) { s with heap:=h',toks:=t' } :=
 I.write (x:=a) (e:=a) mu (.inl rfl) (λb q hb z=>(hs.2 b hb).trans z) he new
def Lo{kvs:List (Key×V)}(z:kvs.length<=sizeLine)(hd:(a==sysModules)=false)(rel:KV kvs vs)(dd:h'.DictOf (bV P w) a vs) :
  cO P w H' h' a (.dK kvs):=⟨z,hd,vs,rel,dd⟩
theorem Vz{Q:Unit->Shared->Prop}(hu:A.units+1<cLine)(I:Inv X pins O H s)(g:l6 H a y v H')(ry:RelV y u)(rv:RelV v r)(h:∀s',Inv X pins O H' s'->Q () s') :
  wpAny (model X.prog X.w) A (setItem (.ref a) u r) Q E s:=by
 rcases g with ⟨kvs,k,e,ey,l,eH⟩ | ⟨kvs,k,b,e,ey,eb,l,eH⟩
 .subst ey eH
  obtain⟨z,hd,vs,rel,dd⟩:=Vv I.aD e
  have hz:vs.length<=sizeLine:=by rw[<-rel.length];exact z
  have hl:(putK kvs k v).length<=sizeLine:=by have:=tU kvs k v;lia
  refine wpAny_setItem_pairs (hsz:=hz) (tW ry) dd λh' tX hs=>h _ ?_
  have he:∃q,h'.get? a=some q:=let ⟨q,_,_,hq,_⟩:=tX;⟨q,hq⟩
  exact D7 I (by rw[e];exact True.intro) hs he (Lo hl hd (rel.put k rv) tX)
 .subst ey eH
  cases(show u=Value.ref b from ry)
  obtain⟨z,hd,xs,rel,dd⟩:=Ln I.aD e
  have hz:xs.length<=sizeLine:=by rw[<-dy rel];exact z
  have hl:(putK kvs k v).length<=sizeLine:=by have:=tU kvs k v;lia
  refine wpAny_setItem_heap (hsz:=hz) (zE hu) (rk I.aD eb) dd λh' tX hs=>h _ ?_
  obtain⟨q,es,ep,hq,h2,h3,h4,_,h5⟩:=tX
  refine D7 I (by rw[e];exact True.intro) hs ⟨q,hq⟩ ⟨hl,hd,_,(rel.put k eb rv).keeps λc ys ec=>?_,q,es,ep,hq,h2,h3,h4,h5⟩
  rw[ao (cy ec e (λz=>nomatch z))]
  exact ec
end
def Lp(i:Expr):Prop := ∀ov iv,subscripted i false ov iv=operate [ov,iv] (getItem ov iv)
def VA{env:Env}{value slice:Expr}{pos:Pos}{id:String}
  (hl:typeLookup (.type T) "__getitem__"=pure (some (.builtin id))) (hs:Lp slice)
  (h:wpAny (model prog w) A (eval value env) (λo s₁=>wpAny (model prog w) A (eval slice env) (λi s₂=>s₂.TypeIs o T/\wpAny (model prog w) A (getItem o i) Q E s₂) E s₁) E s) :
  wpAny (model prog w) A (eval (.Subscript value slice pos) env) Q E s:=by
 refine Subscript_ (jE h (λo s₁ h₁=>jE h₁ (λi s₂ h₂=>?_) λ_ _ x=>x) λ_ _ x=>x)
 obtain⟨hT,h₂⟩:=h₂
 unfold subscriptTail
 refine aj ?_
 rw[getitemInPython_of_ne hT.not_modules]
 refine aj (Dm hT hl ?_)
 have fin:wpAny (model prog w) A (subscripted slice false o i) (λr s₃=>wpAny (model prog w) A (letTemporaryGo value o r >>= λ_=>pure r) Q E s₃) E s₂:=by
  rw[hs o i]
  exact wpAny_operating (jE h₂ (λr s₃ h₃=>aj (wpAny_letTemporaryGo (aH h₃))) λ_ _ x=>x)
 first
  |exact aH (aj fin)
  |exact aj (aH (aj fin))
  |exact aj fin
def VB(I:Inv X pins O H s)(g:dW H a y o):s.TypeIs (.ref a) "dict":=by
 rcases g with ⟨kvs,k,e,_,_⟩ | ⟨kvs,k,b,e,_,_,_⟩
 .obtain⟨_,_,vs,_,dd⟩:=rj I.aD e
  exact dd.typeIs
 .obtain⟨_,_,xs,_,dd⟩:=rl I.aD e
  exact dd.typeIs
def VC(td ty:TE):TE:=λO H Q=>td O H λx H1=>ty O H1 λy H2=>∃a v,x = .ref a/\dW H2 a y (some v)/\Q v H2
def VD(ty td:TE):TE:=λO H Q=>ty O H λy H1=>td O H1 λx H2=>∃a o,x = .ref a/\dW H2 a y o/\Q (.bl o.isSome) H2
def VE(ty td:TE):TE:=λO H Q=>ty O H λy H1=>td O H1 λx H2=>∃a o,x = .ref a/\dW H2 a y o/\Q (.bl (!o.isSome)) H2
def VF(td ty tv:TE):TS:=λD O H=>tv O H λv H1=>td O H1 λx H2=>ty O H2 λy H3=>∃a H4,x = .ref a/\l6 H3 a y v H4/\D.nx O H4
section
variable{X:Cx}{o i e value:Expr}{pos pos' nC:Pos}{td ty tv:TE}
def D8(hu:X.A.units+1<cLine)(ho:PE X o td)(hi:PE X i ty)(hs:Lp i):PE X (.Subscript o i pos) (VC td ty):=by
 intro pins s O H Q I h
 refine VA PySem.F.slot_dict_getitem.lookup hs (aE (ho pins s O H _ I h) λu s1 ⟨x,H1,I1,rx,q1⟩=>aE (hi pins s1 O H1 _ I1 q1) λiv s2 h_=>?_)
 obtain⟨y,H2,I2,ry,a,v,ex,g,q2⟩:=h_
 subst ex
 obtain rfl:u=Value.ref a:=rx
 exact⟨VB I2 g,Vw hu I2 g ry λw' s3 I3 kN=>⟨v,H2,I3,kN,q2⟩⟩
def Lq(hu:X.A.units+1<cLine)(hi:PE X i ty)(ho:PE X o td):PC X .In i o (VD ty td):=by
 intro pins s O H Q I h
 refine aE (hi pins s O H _ I h) λiv s1 ⟨y,H1,I1,ry,q1⟩=>aE (ho pins s1 O H1 _ I1 q1) λu s2 h_=>?_
 obtain⟨x,H2,I2,rx,a,ov,ex,g,q2⟩:=h_
 subst ex
 obtain rfl:u=Value.ref a:=rx
 exact Vx hu I2 g ry λs3 I3=>⟨.bl ov.isSome,H2,I3,rfl,q2⟩
def Lr(hu:X.A.units+1<cLine)(hi:PE X i ty)(ho:PE X o td):PC X .NotIn i o (VE ty td):=by
 intro pins s O H Q I h
 refine aE (hi pins s O H _ I h) λiv s1 ⟨y,H1,I1,ry,q1⟩=>aE (ho pins s1 O H1 _ I1 q1) λu s2 h_=>?_
 obtain⟨x,H2,I2,rx,a,ov,ex,g,q2⟩:=h_
 subst ex
 obtain rfl:u=Value.ref a:=rx
 exact Vy hu I2 g ry λs3 I3=>⟨.bl (!ov.isSome),H2,I3,rfl,q2⟩
def Az(hu:X.A.units+1<cLine)(ho:PE X o td)(hi:PE X i ty)(hv:PE X value tv)(hs:swapsWith value (some (.Subscript o i pos')) pos.line X.env=pure false) :
  PS X (.Assign [.Subscript o i pos'] value pos) (VF td ty tv):=by
 intro pins s O H D I h
 refine wpAny_Assign_Subscript (aE (hv pins s O H _ I h) λr s1 ⟨v,H1,I1,rv,q1⟩=>aE (ho pins s1 O H1 _ I1 q1) λu s2 ⟨x,H2,I2,rx,q2⟩=>aE (hi pins s2 O H2 _ I2 q2) λiv s3 ⟨y,H3,I3,ry,a,H4,ex,g,q3⟩=>?_) hs
 subst ex
 obtain rfl:u=Value.ref a:=rx
 exact Vz hu I3 g ry rv λs4 I4=>⟨O,H4,I4,q3⟩
end
def VG(h:Heap)(hb:sysModules<h.objs.size):cO P w H (h.push { cls := .type "dict",data := .dict #[] }) h.objs.size (.dK []):=
 ⟨bA _,sV.mpr (bu (bO hb)),[],.nil,Heap.DictOf.new h⟩
def VH(h:Heap)(hb:sysModules<h.objs.size):cO P w H (h.push { cls := .type "dict",data := .dict #[] }) h.objs.size (.dT []):=
 ⟨bA _,sV.mpr (bu (bO hb)),[],.nil,_,#[],0,cq _ rfl,⟨rfl,rfl,rfl⟩,rfl,rfl,jh⟩
def VI:TE:=λ_ H Q=>∀p,H p=none->Q (.ref p) (upd H p (.dK []))
def VJ:TE:=λ_ H Q=>∀p,H p=none->Q (.ref p) (upd H p (.dT []))
section
variable{X:Cx}{pos:Pos}
def D9:PE X (.Dict [] [] pos) VI:=λpins s O H Q I h=>
 wpAny_Dict_empty ⟨.ref s.heap.objs.size,_,I.laid (a:=s.heap.objs.size) (o := .dK []) (t':=s.toks) (λ_ _ q=>bx _ q) (aN _) (VG s.heap I.big),rfl,h _ (I.aD.fresh (aN _))⟩
def Ls:PE X (.Dict [] [] pos) VJ:=λpins s O H Q I h=>
 wpAny_Dict_empty ⟨.ref s.heap.objs.size,_,I.laid (a:=s.heap.objs.size) (o := .dT []) (t':=s.toks) (λ_ _ q=>bx _ q) (aN _) (VH s.heap I.big),rfl,h _ (I.aD.fresh (aN _))⟩
end
structure M2(X:Cx)(o:Expr)(m:Str)(apos:Pos)(e f:Expr)(dU:Pos):Prop where
 base:attributeBase o m X.env (eval o X.env)=eval o X.env
 fq:((backTo dU (starEach [e,f] X.env)).all (λx=>!x.1)&&(backToKw dU (keywordEach [] X.env)).all (λx=>x.1.isSome)
  && decide (([e,f]:List Expr).length+([]:List Keyword).length+(if ([]:List Keyword).isEmpty then 0 else 1)<30))=true
 line:(apos.endLine==dU.line)=true
 trees:backTo dU (starEach [e,f] X.env)=[(false,eval e X.env),(false,eval f X.env)]
def Ea(H:Hp)(a:Addr):Prop:=(∃kvs,Rd H a (.dK kvs))\/∃kvs,Rd H a (.dT kvs)
def Lu(I:Inv X pins O H s)(d:Ea H a) :
  s.TypeIs (.ref a) "dict"/\(∀b,Value.ref a = .ref b->∃ob,s.heap.get? b=some ob/\ob.dict=none)/\(a==sysModules)=false:=by
 rcases d with ⟨kvs,e⟩ | ⟨kvs,e⟩
 .obtain⟨_,hd,vs,_,dd⟩:=rj I.aD e
  refine⟨dd.typeIs,λb q=>?_,hd⟩
  cases q
  obtain⟨ob,_,_,h1,h2,_⟩:=dd
  exact⟨ob,h1,h2.2.1⟩
 .obtain⟨_,hd,xs,_,dd⟩:=rl I.aD e
  refine⟨dd.typeIs,λb q=>?_,hd⟩
  cases q
  obtain⟨ob,_,_,h1,h2,_⟩:=dd
  exact⟨ob,h1,h2.2.1⟩
section
variable{X:Cx}{pins:List (Addr×Obj)}{O:St}{H:Hp}{s:Shared}{a:Addr}{y d:V}{u r:Value}{o:Option V}{A:Around}{E:Value->Shared->Prop}
def VL(hu:A.units+1<cLine)(I:Inv X pins O H s)(g:dW H a y o)(ry:RelV y u)(rd:RelV d r)(h:∀w' s',Inv X pins O H s'->RelV (o.getD d) w'->Q w' s') :
  wpAny (model X.prog X.w) A (call (.builtin "dict.get") [.ref a,u,r]) Q E s:=by
 rcases g with ⟨kvs,k,e,ey,l⟩ | ⟨kvs,k,b,e,ey,eb,l⟩
 .subst ey
  obtain⟨z,hd,vs,rel,dd⟩:=rj I.aD e
  refine call_meetsIn SM dd.typeIs PySem.F.entry_dict_get (PySem.F.args_dict_get_3 _ _ _) (meets_dict_get_default (bV X.prog X.w) a (tW ry) hd r) ⟨_,dd.mapOf,h _ _ (I.tok _) ?_⟩
  rw[l]
  exact(rel.val k).getD rd
 .subst ey
  cases(show u=Value.ref b from ry)
  obtain⟨z,hd,xs,rel,dd⟩:=rl I.aD e
  refine call_meetsIn SM dd.typeIs PySem.F.entry_dict_get (PySem.F.args_dict_get_3 _ _ _) (meetsH_dict_get_default (tupleKind (bV X.prog X.w)) a b hd r) ⟨zE hu,k,xs,rk I.aD eb,dd,h _ _ (I.tok _) ?_⟩
  rw[l]
  exact(rel.val k).getD rd
end
def VM(td ty tx:TE):TE:=λO H Q=>td O H λx H1=>∃a,x = .ref a/\Ea H1 a/\ty O H1 λy H2=>tx O H2 λz H3=>∃o,dW H3 a y o/\Q (o.getD z) H3
section
variable{X:Cx}{o e f:Expr}{apos dU:Pos}{td ty tx:TE}
def Lv(hu:X.A.units+1<cLine)(ho:PE X o td)(he:PE X e ty)(hf:PE X f tx)(m:M2 X o "get" apos e f dU):PE X (.Call (.Attribute o "get" apos) [e,f] [] dU) (VM td ty tx):=by
 intro pins s O H Q I h
 refine wpAny_Call_method m.base m.fq m.line PySem.F.plainAttrs_dict SM PySem.F.type_dict_get (aE (ho pins s O H _ I h) λu s1 h_=>?_)
 obtain⟨x,H1,I1,rx,a,ex,d,q1⟩:=h_
 subst ex
 obtain rfl:u=Value.ref a:=rx
 obtain⟨t1,t2,_⟩:=Lu I1 d
 refine⟨t1,t2,?_⟩
 rw[m.trees]
 refine SJ rfl (SK (Dh (aE (he pins s1 O H1 _ I1 q1) λiv s2 ⟨y,H2,I2,ry,q2⟩=>
  Dh (aE (hf pins s2 O H2 _ I2 q2) λfv s3 ⟨z,H3,I3,rz,ov,g,q3⟩=>Calls.spliced_nil ?_))))
 exact VL hu I3 g ry rz λw' s4 I4 kN=>⟨_,H3,I4,kN,q3⟩
end
end L2
namespace jT
open PySem PySem.W PySem.Calls PyProof.Rows
variable{P:Params}{h:Heap}{l:OpenLaw}{n:Nat}{args:List WData}{vals:List Value}{q:Program}{loose:List Str}{XP:(Str->Option Value)->Heap->Prop}{YP:World->Heap->Prop}{d:DefRec}{L:Addr}{m:Str->Option Value}
def VN:∀(ns:List Int) (vs:List Value),WellAll P h vs (ns.map WData.int)->IntsAre vs ns:=by
 intro ns
 induction ns with
 |nil=>
  intro vs w
  rw[wb] at w
  cases w
  exact .nil
 |cons n ns ih=>
  intro vs w
  rw[bQ] at w
  cases w with
  |cons a b=>
   cases a
   exact .cons _ _ (ih _ b)
theorem VO(hn:l.most=some n)
  (AA:l.row.toRowW.claim.pre args=true) (nH:WellAll P h vals args) :
  ∃a vs ns,vals=[Value.ref a]/\args=[WData.list (ns.map WData.int)]/\h.get? a=some { cls := .type "list",data := .seq vs.toArray }/\IntsAre vs ns/\ns.length<=n:=by
 have eS:WShape.hasAll [] args [.list .int]=true:=(pre_splitW AA).1
 have hc:l.pre.holds [] { args:=args }=true:=(pre_splitW AA).2
 obtain⟨d,r,rfl,h1,h2⟩:=hasAllW_cons eS
 obtain rfl:=hasAllW_nil h2
 obtain⟨xs,rfl,h3⟩:=hasW_list h1
 obtain⟨ns,rfl⟩:=items_int h3
 have hlen:ns.length<=n:=by
  unfold OpenLaw.pre at hc
  have h4:(WTm.not (.lt (.lit (.int (n:Int))) (.len (.arg 0)))).holds [] { args:=[.list (ns.map .int)] }=true:=by
   have h4:=(holds_andW hc).1
   rw[hn] at h4
   exact h4
  have h5:=condW_of h4 (w_not (w_lt w_lit (w_len_list (w_arg rfl))))
  rw[aq] at h5
  refine JL λq=>?_
  have q':(n:Int)<((ns.length:Nat):Int):=by lia
  first
   |(rw[aI q'] at h5;exact absurd h5 (by decide))
   |(simp at h5;lia)
 cases nH with
 |cons w1 w2=>
  cases w2
  cases w1 with
  |list ho dX=>exact⟨_,_,ns,rfl,rfl,ho,VN ns _ dX,hlen⟩
def VP(l:OpenLaw)(args:List WData):l.row.toRowW.claim.post args (.bool true) args=true:=
 postW_of (r:=l.row.toRowW) (X:=(true==true))
  (show WShape.has [] (.bool true) .bool=true by first | rfl | decide | simp[WShape.has,WShape.arms,WShape.armsAll])
  (show(WTm.eq .res (.lit (.bool true))).value [] { args:=args,res:=some (.bool true),after:=args }=some (.bool (true==true)) from w_eq_bool (w_res rfl) w_lit) rfl
def VQ
  (hn:l.most=some n) (xb:d.params.defaults=[])
  (call:∀(w:World) (s₀ s₁:Shared) (mg mb:Str->Option Value) (fa:Addr) (o:Obj) (pm cd doc:Value) (a:Addr) (vs:List Value) (ns:List Int),
   Ground q loose [] XP w s₀ mg mb s₁.heap->YP w s₁.heap->
   s₁.heap.get? fa=some o->o.data = .func (docDef d.name d.params d.body d.scope pm cd doc)->s₁.heap.CodeRec cd d.name->mg d.name=some (.ref fa)->
   s₁.heap.get? a=some { cls := .type "list",data := .seq vs.toArray }->IntsAre vs ns->ns.length<=n->s₁.gens = #[]->
   codeAny (model l.prog w) callerA (.call (.ref fa) ⟨[.ref a],[]⟩) (λr s'=>r = .ok (.ret (.bool true))/\OldK s₁.heap s'.heap/\s'.os=s₁.os/\AllBare s'.gens) s₁) :
  WalkO q loose XP YP l.row.toRowW d [] (λf vs=>PySem.call f vs):=by
 intro w s₀ s₁ mg mb G Y fa o pm cd doc dV kV ho hd iV hD hmg hg args vals as AA agL hrd nH pB
 obtain rfl:dV = .none:=Dflts.none hD xb
 obtain rfl:kV = .none:=Dflts.noKw hD
 obtain⟨a,vs,ns,rfl,rfl,Eb,hints,hlen⟩:=VO hn AA nH
 refine enter_call (vW (call w s₀ s₁ mg mb fa o pm cd doc a vs ns G Y ho (fd_plain hd) iV hmg Eb hints hlen hg) λr s' hq=>?_)
 obtain⟨rfl,h2,h3,h4⟩:=hq
 exact⟨.inl ⟨.bool true,.bool true,[],rfl,λ_=>rfl,.bool true,VP l _,λ_=>⟨List.Pairwise.nil,λ_ hm=>(nomatch hm)⟩⟩,h2,h3,h4⟩
section
variable{prog:Program}{w:World}{A:Around}{E:Value->Shared->Prop}{s:Shared}{K:Frag}
noncomputable def AB(h:Heap):Heap:={ h with objs := #[] }
def AD(h:Heap)(b:Addr):(AB h).get? b=none:=by
 cases e:(AB h).get? b with
 |none=>rfl
 |some o=>exact absurd (bF e) (gQ _)
noncomputable def ledger(h:Heap)(L d:Addr):List (Addr×Obj):=(List.range h.objs.size).filterMap λa=>if a=L\/a=d then none else (h.get? a).map λo=>(a,o)
def Ec{d a:Addr}{o:Obj}:(a,o)∈ledger h L d↔a≠L/\a≠d/\h.get? a=some o:=by
 unfold ledger
 rw[List.mem_filterMap]
 constructor
 .rintro⟨b,_,e⟩
  split at e
  .cases e
  .rename_i hb
   obtain⟨o',ho,e'⟩:=gu.mp e
   cases e'
   exact⟨λq=>hb (.inl q),λq=>hb (.inr q),ho⟩
 .rintro⟨n1,n2,ho⟩
  refine⟨a,dP.mpr (bF ho),?_⟩
  rw[av (show ¬(a=L\/a=d) from λq=>q.elim n1 n2),ho] <;> rfl
def VR(n:h.Ns L m):Fr (AB h) L h m:=
 ⟨n,λb o e=>(by rw[AD] at e;cases e),bA _⟩
end
end jT
namespace L2
open PySem PySem.Spec PyProof.Rows
variable{P q:Program}{w:World}{K:Frag}{mb mg:Str->Option Value}{CX:World->lX}{a f:Addr}{fd:FuncData}{qual x:Str}{sp:Sp}{s₁:Shared}{vs:List Value}{ns:List Int}{l:OpenLaw}{n:Nat}{loose ps:List Str}{XP:(Str->Option Value)->Heap->Prop}{YP:World->Heap->Prop}{d:DefRec}{st:Stmt}{oc:Value}{an od:Option Addr}{jR:Array (Option Value)}{A B:Prop}{H H':Hp}{xs:List V}
theorem Lw:∀{vs:List Value}{ns:List Int},IntsAre vs ns->Vals (ns.map V.int) vs
 |_,_,.nil=>.nil
 |_,_,.cons n t h=>.cons ⟨t,rfl⟩ (Lw h)
def Ed(H:Hp):Prop := ∀b,H b=none\/∃o xs,H b=some (.dS o (.lst xs))
def VS{CX:lX}{k:Nat}{fa:Addr}
  (KX:K.In s₁.heap) (Lx:s₁.heap.Ns mainGlobals mg) (hb:s₁.heap.Ns builtinsNs mb) (xc:∀x:Str,x≠"__name__"->mb x=bootBuiltins x) (VT:s₁.heap.NoLimit) (hg:s₁.gens = #[])
  (ha:s₁.heap.get? a=some { cls := .type "list",data := .seq vs.toArray }) (hi:IntsAre vs ns) (hl:ns.length<=sizeLine) (hr:cw k callerA)
  (F:∀base:Heap,K.In base->base.Ns mainGlobals mg->aO P w K mg base CX k fa fd [x] sp) (VU:∀(s:Shared) (u:Value),BindsTo s fd ⟨[u],[]⟩ [(x,u)])
  (lY:∀H:Hp,Ed H->ak K H a (ns.map V.int)->sp [.ref a] H (λv _=>v = .bl true) λ_ _ _=>False)
  (Ee:∀H e s',CX [] H s₁ (λ_ _ _=>False) e s'->False) :
  codeAny (model P w) callerA (.call (.ref fa) ⟨[.ref a],[]⟩) (λr s'=>r = .ok (.ret (.bool true))/\OldK s₁.heap s'.heap/\s'.os=s₁.os/\AllBare s'.gens) s₁:=by
 have rv:=Lw hi
 have VV:=hi.length
 have core:∀H:Hp,Ed H->ak K H a (ns.map V.int)->c8 P w H s₁.heap->(∀b,H b≠none->b=a)->(H a≠none->K.lookup a=none)->
   codeAny (model P w) callerA (.call (.ref fa) ⟨[.ref a],[]⟩) (λr s'=>r = .ok (.ret (.bool true))/\OldK s₁.heap s'.heap/\s'.os=s₁.os/\AllBare s'.gens) s₁:=by
  intro H hO hS aD hA hK
  have Ly:∀{b:Addr}{o:Obj},s₁.heap.get? b=some o->H b=none->(nv s₁.heap H).get? b=some o:=λe n=>Th e n
  have wU:∀{b:Addr}{o:Obj}{es:Array DictEntry}{ep:Nat},s₁.heap.get? b=some o->o.data = .dict es ep->H b=none:=λ{b o es ep} e d=>by
   cases q:H b with
   |none=>rfl
   |some u=>
    have e':b=a:=hA b (by rw[q];simp)
    subst e'
    rw[ha] at e;cases e
    have d':Data.seq vs.toArray _=Data.dict es ep:=d
    cases d'
  have AE:∀{b:Addr}{m:Str->Option Value},s₁.heap.Ns b m->(nv s₁.heap H).Ns b m:=λ{b m} ⟨o,es,ep,e,d,r⟩=>⟨o,es,ep,Ly e (wU e d),d,r⟩
  have Lz:K.In (nv s₁.heap H):=λb o e=>Ly (KX b o e) (by
   cases q:H b with
   |none=>rfl
   |some u=>
    have e':b=a:=hA b (by rw[q];simp)
    subst e'
    rw[hK (by rw[q];simp)] at e;cases e)
  have hM:Mod K mg (nv s₁.heap H):=⟨Lz,AE Lx,⟨mb,AE hb,xc⟩,let ⟨mc,h1,h2⟩:=VT;⟨mc,AE h1,h2⟩⟩
  have e0:kM P w K mg (nv s₁.heap H) callerA [] s₁ H:=⟨rfl,hM,λb o e=>Ti e,Nat.le_of_eq (Tg _ _),trivial,λb hb=>absurd (show b∈([]:List Addr) from hb) (by simp),aD,.of_eq hg⟩
  refine vW ((F _ Lz (AE Lx)).run callerA [] s₁ H ⟨[.ref a],[]⟩ [.ref a] [.ref a] _ _ hr e0 (VU s₁ (.ref a)) (.cons rfl .nil) (lY H hO hS)) λr s' h=>?_
  cases r with
  |error e=>exact(Ee H e s' h).elim
  |ok fl=>
   cases fl with
   |next=>exact False.elim h
   |brk=>exact False.elim h
   |cont=>exact False.elim h
   |ret u=>
    obtain⟨v,H',os,bare,un,VW,r',q⟩:=h
    have q':v = .bl true:=q
    subst q'
    obtain rfl:u=Value.bool true:=r'
    refine⟨rfl,OldK.of_keep λb o e=>?_,os,bare⟩
    cases q:H b with
    |none=>exact un.keep b o e q (by intro z;exact absurd (show b∈([]:List Addr) from z) (by simp)) (by simp)
    |some u=>
     rcases hO b with z | ⟨ob,xs,z⟩
     .rw[q] at z;cases z
     .have z2:=un.jL b ob _ z
      obtain⟨e1,_⟩:=aD b _ z
      obtain⟨e2,_⟩:=VW b _ z2
      rw[e] at e1;cases e1
      exact e2
 cases hk:K.lookup a with
 |some o=>
  have e:=KX a o hk
  rw[ha] at e
  cases e
  refine core (λ_=>none) (λ_=>.inl rfl) (.inr ⟨_,vs.toArray,_,hk,rfl,rfl,rfl,by rw[bg,VV];exact hl,by simpa using rv⟩) (λb u z=>by have z':(none:Option HO)=some u:=z;cases z') (λb z=>absurd rfl z) λz=>absurd rfl z
 |none=>
  refine core (λb=>if b=a then some (.dS { cls := .type "list",data := .seq vs.toArray } (.lst (ns.map V.int))) else none) (λb=>?_) (.inl (.inr ⟨{ cls := .type "list",data := .seq vs.toArray },aA rfl⟩)) (λb u z=>?_) (λb z=>?_) λ_=>hk
  .by_cases hb:b=a
   .exact .inr ⟨_,_,aA hb⟩
   .exact .inl (av hb)
  .by_cases hb:b=a
   .have z':=(aA hb).symm.trans z
    cases z'
    subst hb
    exact⟨ha,by rw[aq];exact hl,vs,_,rv,ha⟩
   .have z':=(av hb).symm.trans z
    cases z'
  .by_cases hb:b=a
   .exact hb
   .exact absurd (av hb) z
def VX{k:Nat}{K:Params->Frag}{sp:World->Sp}
  (hn:l.most=some n) (qY:n<=sizeLine) (xb:d.params.defaults=[]) (hr:cw k callerA)
  (hY:∀(w:World) (h:Heap),YP w h->(K w.params).In h)
  (F:∀(w:World) (mg:Str->Option Value) (fa:Addr) (h:Heap),(K w.params).In h->h.Ns mainGlobals mg->mg d.name=some (.ref fa)->
   ∃fd:FuncData,(∀(s:Shared) (u:Value),BindsTo s fd ⟨[u],[]⟩ [(x,u)])/\
    ∀base:Heap,(K w.params).In base->base.Ns mainGlobals mg->aO l.prog w (K w.params) mg base (CX w) k fa fd [x] (sp w))
  (lY:∀(w:World) (H:Hp) (a:Addr) (ns:List Int),ns.length<=n->Ed H->ak (K w.params) H a (ns.map V.int)->sp w [.ref a] H (λv _=>v = .bl true) λ_ _ _=>False)
  (Ee:∀(w:World) (H:Hp) (s:Shared) (e:Value) (s':Shared),CX w [] H s (λ_ _ _=>False) e s'->False) :
  PySem.W.WalkO q loose XP YP l.row.toRowW d [] (λf vs=>PySem.call f vs):=by
 refine jT.VQ hn xb λw s₀ s₁ mg mb fa o pm cd doc a vs ns G Y ho hd iV hmg Eb hints hlen hg=>?_
 have KX:=hY w _ Y
 obtain⟨fd,hb,hF⟩:=F w mg fa _ KX G.T.g hmg
 exact VS KX G.T.g G.T.b G.T.builtins G.T.nolimit hg Eb hints (bL hlen qY) hr hF hb (λH hO hS=>lY w H a ns hlen hO hS) λH e s'=>Ee w H s₁ e s'
noncomputable def inClass(s:Stmt)(j:Nat):Stmt:=match s with
 |.ClassDef _ _ _ body _ _ _ _ _ _ _=>body.getD j (.Pass ⟨0,0,0,0⟩)
 |_=>.Pass ⟨0,0,0,0⟩
noncomputable def pC(s:Stmt):Arguments:=match s with
 |.FunctionDef _ a _ _ _ _ _ _ _ _=>a
 |_=>{ posonlyargs:=[],args:=[],vararg:=none,kwonlyargs:=[],kw_defaults:=[],kwarg:=none,defaults:=[] }
noncomputable def kR(s:Stmt):List Stmt:=match s with
 |.FunctionDef _ _ b _ _ _ _ _ _ _=>b
 |_=>[]
noncomputable def aU(s:Stmt):Scope:=match s with
 |.FunctionDef _ _ _ _ _ _ sc _ _ _=>sc
 |_=>{ kind := .function,names:=[],isGenerator:=false,isCoroutine:=false }
noncomputable abbrev aQ:lX:=λ_ _ _ _ _ _=>False
abbrev E0:XK:=λ_ _ _=>False
def xf{X:Cx}:Passes aQ X E0:=λ_ _ _ _ _ _ _ h=>h.elim
structure ba(K:Frag)(x qual:Str)(st:Stmt)(f:Addr)(fd:FuncData):Prop where
 ex:∃(oc:Value) (od:Option Addr) (kV doc pm:Value) (an:Option Addr) (aF ct:Value) (jR:Array (Option Value)),
  fd=fnOf x qual (pC st) (kR st) (aU st) .none kV doc pm an aF ct/\K.lookup f=some ⟨oc,od,.func fd,jR⟩/\codeIn K aF qual=true
 kp:keepIn K (.ref f)=true
section
variable{P:Program}{w:World}{K:Frag}{mg:Str->Option Value}{base:Heap}
def ba.ok{N:List Str}{k:Nat}(F:ba K x qual st f fd)(S:bp N ps (aU st))(len:∀vs H Q E,sp vs H Q E->vs.length=ps.length)
  (rb:∀(aF:Value) (A:Around) (outer:List Env) (s:Shared) (H:Hp) (vs:List V) (Q:VK) (E:XK),cw k (A.deeper (envOfC qual (aU st) s.heap.objs.size f aF))->sp vs H Q E->
   ∃t,iw (pw aQ P w K mg base N qual (aU st) f aF A outer s H E).qP (kR st) t/\t { nx:=λ_ H'=>Q .aB H',rt:=Q } (start N vs) H):aO P w K mg base aQ (k+1) f fd ps sp:=by
 obtain⟨oc,od,kV,doc,pm,an,aF,ct,jR,rfl,lk,iV⟩:=F.ex
 refine Aq lk iV S len λA outer s H vs Q E hr lY=>?_
 obtain⟨t,h,q⟩:=rb aF A outer s H vs Q E hr lY
 exact⟨t,h.qP,q⟩
def ba.binds(F:ba K x qual st f fd)
  (h:∀(kV doc pm:Value) (an:Option Addr) (aF ct:Value) (us:List Value),us.length=ps.length->bindArgs (fnOf x qual (pC st) (kR st) (aU st) .none kV doc pm an aF ct) ⟨us,[]⟩=pure (ps.zip us)):Binds K fd ps []:=by
 obtain⟨oc,od,kV,doc,pm,an,aF,ct,jR,rfl,lk,iV⟩:=F.ex
 exact .all (h kV doc pm an aF ct)
def AH{kV doc pm aF ct:Value}(l:K.lookup f=some ⟨oc,od,.func (fnOf x qual (pC st) (kR st) (aU st) .none kV doc pm an aF ct),jR⟩)
  (c:codeIn K aF qual=true) (k:keepIn K (.ref f)=true):ba K x qual st f (fnOf x qual (pC st) (kR st) (aU st) .none kV doc pm an aF ct):=⟨⟨oc,od,kV,doc,pm,an,aF,ct,jR,rfl,l,c⟩,k⟩
end
def jU{A:Around}{k:Nat}(hr:cw k A):A.units+1<cLine:=kq (Nat.add_le_add_left (by decide:1<=64) _) hr.units
def VY(h:n<=1000):n<sizeLine:=kq h (by decide)
section
variable{X:Cx}
def pv(i:Nat){pos:Pos}(hN:X.N[i]? = some x:=by rfl)(hv:Dz X.env.scope x:=by first | exact Or.inl rfl | exact Or.inr (Or.inl rfl) | exact Or.inr (Or.inr rfl))(hd:(x==("__debug__":Str))=false:=by decide)
  (iV:(x==("__classdict__":Str))=false:=by decide):PE X (.Name x pos) (Kq i):=Tr hN hv hd iV
end
def aR(h:B):if false=true then A else B:=by
 rw[av bZ]
 exact h
def bt(h:A):if true=true then A else B:=by
 rw[aA rfl]
 exact h
def gY{c:Prop}[Decidable c](h1:c->A)(h2:¬c->B):if c then A else B:=by
 by_cases h:c
 .rw[aA h]
  exact h1 h
 .rw[av h]
  exact h2 h
def af(H H':Hp):Prop := ∀b o,H b=some o->H' b=some o
def af.refl(H:Hp):af H H:=λ_ _ h=>h
def af.trans{H1 H2:Hp}(a:af H H1)(b:af H1 H2):af H H2:=λc o h=>b c o (a c o h)
def af.free(e:af H H'){l:Addr}(h:H' l=Option.none):H l=Option.none:=by
 cases q:H l with
 |none=>rfl
 |some o=>
  rw[e l o q] at h
  cases h
def af.seq(e:af H H')(h:ak K H a xs):ak K H' a xs:=by
 rcases h with (h | ⟨o,h⟩) | h
 .exact .inl (.inl (e _ _ h))
 .exact .inl (.inr ⟨o,e _ _ h⟩)
 .exact .inr h
section
variable{κ:Type}[DecidableEq κ]
def LA{kvs:List (κ×V)}{k:κ}(h:aP kvs k=none):¬k∈kvs.map (·.1):=by
 intro m
 obtain⟨p,hp,e⟩:=bM.mp m
 have q:(kvs.any λkv=>decide (kv.1=k))=true:=tm.mpr ⟨p,hp,aI e⟩
 rw[rh,h] at q
 exact absurd q (by simp)
def LB{kvs:List (κ×V)}{k:κ}{v:V}(h:aP kvs k=some v):k∈kvs.map (·.1):=by
 have q:(kvs.any λkv=>decide (kv.1=k))=true:=by
  rw[rh,h]
  all_goals rfl
 obtain⟨p,hp,e⟩:=tm.mp q
 exact bM.mpr ⟨p,hp,fF e⟩
theorem LC:∀{l:List κ}{k:κ},l.Nodup->¬k∈l->(l++[k]).Nodup
 |[],k,_,_=>by simp
 |a::r,k,h,hk=>by
  obtain⟨h1,h2⟩:=gq.mp h
  show(a::(r++[k])).Nodup
  refine gq.mpr ⟨λm=>?_,LC h2 λm=>hk (b9.mpr (Or.inr m))⟩
  rcases cX.mp m with q | q
  .exact h1 q
  .exact hk (b9.mpr (Or.inl (cb.mp q).symm))
def VZ{kvs:List (κ×V)}{k:κ}(v:V)(hn:(kvs.map (·.1)).Nodup)(h:aP kvs k=none):((putK kvs k v).map (·.1)).Nodup:=by
 rw[tV v h,dQ]
 exact LC hn (LA h)
end
end L2
set_option maxHeartbeats 4000000
namespace L2
open PySem PySem.Spec PyProof.Rows
variable{H H':Hp}{a c globals it:Addr}{o:HO}{K:Frag}{ns own xs:List Str}{prog:Program}{w:World}{A:Around}{R:Result->Shared->Prop}{s s₂:Shared}{ifs:List Expr}{scope:Scope}{env:Env}{x y z:Str}{h h' h2:Heap}{M:Model}{E:Value->Shared->Prop}{cl:List (Str×Addr)}{Q:Env->Shared->Prop}{ck i n:Nat}{X:Cx}{pins z9:List (Addr×Obj)}{O:List (Option V)}{js:List Nat}{fp:List Addr}{m:Str->Option Value}{px py pz tp xi:Pos}{tn:Nat->Heap->Prop}{RR:Value->Addr->Result->Shared->Prop}
def af.cI(H:Hp):af H H:=λ_ _ h=>h
theorem af.upd(h:H a=none):af H (upd H a o):=λb u e=>by rw[ao (bB e h)];exact e
def af.jV(s:af H H')(h:H a=none):af H (L2.upd H' a o):=λb u e=>by rw[ao (bB e h)];exact s b u e
def af.tup{xs:List V}(e:af H H')(h:ax K H a xs):ax K H' a xs:=by
 rcases h with (h | ⟨o,h⟩) | h
 .exact .inl (.inl (e _ _ h))
 .exact .inl (.inr ⟨o,e _ _ h⟩)
 .exact .inr h
theorem V0{elt target iter:Expr}{pos:Pos}{it acc:Value}(I:Nat->Shared->Prop)
  (turn:∀n s,I n s->wpAny (model prog w) A (pyNext it) (λr s₁=>match r with
   |none=>R (.ok .next) s₁
   |some v=>wpAny (model prog w) A (letOwnedTupleGo target it v) (λ_ s₂=>wpAny (model prog w) A (assign target env v) (λ_ s₃=>
     wpAny (model prog w) A (forIn ifs true λc r=>if r=true then do let ok<-isTrue c env (eval c env);pure (ForInStep.yield ok) else pure (ForInStep.yield r)) (λok s₄=>
      if ok=true then wpAny (model prog w) A (eval elt env) (λx s₅=>
       wpAny (model prog w) A (call (.builtin "list.append") [acc,x]) (λ_ s₆=>∃m,m<n/\I m s₆) (λ_ _=>False) s₅) (λ_ _=>False) s₄
      else ∃m,m<n/\I m s₄) (λ_ _=>False) s₃) (λ_ _=>False) s₂) (λ_ _=>False) s₁) (λ_ _=>False) s)
  (n:Nat) (h:I n s) :
  codeAny (model prog w) A (.compLoop (.ListComp elt [⟨target,iter,ifs,0⟩] scope pos) 0 it acc env) R s:=by
 refine codeAny_loop rfl I (λn s hI=>?_) n h
 show wpAny _ A ((compTurn (.ListComp elt [⟨target,iter,ifs,0⟩] scope pos) 0 it acc env).onRaise (λx=>do noteFrame x env;theTreesLotGoes x)) _ _ s
 refine wpAny_noted ?_
 rw[compTurn_list]
 refine aj (wpAny_standAt (aj (jE (turn n s hI) (λr s₁ h₁=>?_) λ_ _ f=>f.elim)))
 cases r with
 |none=>exact aH h₁
 |some v=>
  refine aj (jE h₁ (λ_ s₂ h₂=>aj (jE h₂ (λ_ s₃ h₃=>aj (jE h₃ (λok s₄ h₄=>?_) λ_ _ f=>f.elim)) λ_ _ f=>f.elim)) λ_ _ f=>f.elim)
  cases ok with
  |false=>exact aH ⟨rfl,h₄⟩
  |true=>
   exact aj (aj (jE h₄ (λx s₅ h₅=>aj (jE h₅ (λ_ s₆ h₆=>aH (aH ⟨rfl,h₆⟩)) λ_ _ f=>f.elim)) λ_ _ f=>f.elim))
noncomputable def nI(own:List Str)(n:Nat):List (Str×Addr):=own.map λx=>(x,n+1)
noncomputable def eT(X:Cx)(xs own ns:List Str)(scope:Scope)(cl:List (Str×Addr))(fp:List Addr)(pins:List (Addr×Obj))(s:Shared)(H:Hp):Cx:=
 { X with N:=xs++ns,s₀:=s,H₀:=H,env:=compEnvC scope (nI own s.heap.objs.size++cl) s.heap.objs.size X.env,outer:=X.stack,ex:=fp,fn:=λy=>own.contains y,pn:=X.pn++pins,xe:=λ_ _=>False }
structure Ef(X:Cx)(own:List Str)(scope:Scope)(cl:List (Str×Addr)):Prop where
 LD:closureFor scope X.env=pure cl
 sub:∀x c,cl.lookup x=some c->X.env.cells.lookup x=some c
 all:∀x,((relabel scope X.env).names.lookup x=some .cell\/(relabel scope X.env).names.lookup x=some .free)->x∉own->∃c,cl.lookup x=some c
 kind:scope.kind = .function
 cell:(scope.names.filter λy=>y.2 == .cell).map (·.1)=own
 fq:own.length<=1
 names:∀y∈scope.names,y.2 = .local->scope.names.lookup y.1=some .local
noncomputable def fu(cells:List (Str×Addr)):List (Str×NameKind)->List (Str×Addr)->List (Str×Addr)
 |[],acc=>acc
 |(n,k)::r,acc=>if k == .free then fu cells r ((n,(cells.lookup n).getD 0)::acc) else fu cells r acc
def V1(h:∀y∈scope.names,y.2 = .free->∃c,env.cells.lookup y.1=some c):closureFor scope env=pure (fu env.cells scope.names []):=by
 unfold closureFor
 suffices H:∀(l:List (Str×NameKind)) (acc:List (Str×Addr)),(∀y∈l,y.2 = .free->∃c,env.cells.lookup y.1=some c)->
   (forIn l acc (λ(x:Str×NameKind) (r:List (Str×Addr))=>(do
    let (name,kind):=x
    let cs:=r
    if (kind==NameKind.free)=true then do
     let a<-cellOf env name
     pure (ForInStep.yield ((name,a)::cs))
    else pure (ForInStep.yield cs):Sem (ForInStep (List (Str×Addr))))):Sem (List (Str×Addr)))=pure (fu env.cells l acc) by
  have:=H scope.names [] h
  simp only at this ⊢
  first | (rw[this];rfl) | exact this | (simp only[this];rfl)
 intro l
 induction l with
 |nil=>intro acc _;rfl
 |cons y r ih=>
  intro acc hy
  obtain⟨n,k⟩:=y
  rw[JM]
  have hr:∀y∈r,y.2 = .free->∃c,env.cells.lookup y.1=some c:=λy m=>hy y (bU _ m)
  cases hk:(k==NameKind.free) with
  |false=>
   simp only[hk,fG,eO,fu]
   exact ih acc hr
  |true=>
   obtain⟨c,ec⟩:=hy (n,k) bG (mY.mp hk)
   simp only[hk,gr,fu,ec,oP]
   have e:cellOf env n=pure c:=by
    unfold cellOf
    rw[show env.cells.lookup n=some c from ec]
   rw[e]
   exact ih ((n,c)::acc) hr
theorem AJ(cells:List (Str×Addr))(x:Str):∀(l:List (Str×NameKind)) (acc:List (Str×Addr)),(∀y∈l,y.2 = .free->∃c,cells.lookup y.1=some c)->(∀c,acc.lookup x=some c->cells.lookup x=some c)->
  (∀c,(fu cells l acc).lookup x=some c->cells.lookup x=some c)/\(((x,NameKind.free)∈l\/∃c,acc.lookup x=some c)->∃c,(fu cells l acc).lookup x=some c)
 |[],acc,_,ha=>⟨ha,λh=>h.elim (λz=>nomatch z) id⟩
 |(n,k)::r,acc,hy,ha=>by
  have hr:∀y∈r,y.2 = .free->∃c,cells.lookup y.1=some c:=λy m=>hy y (bU _ m)
  unfold fu
  cases hk:(k==NameKind.free) with
  |false=>
   rw[av bZ]
   obtain⟨h1,h2⟩:=AJ cells x r acc hr ha
   refine⟨h1,λh=>h2 ?_⟩
   rcases h with h | h
   .rcases b9.mp h with z | z
    .cases z
     exact absurd hk (by decide)
    .exact .inl z
   .exact .inr h
  |true=>
   rw[aA rfl]
   obtain⟨c,ec⟩:=hy (n,k) bG (mY.mp hk)
   have ec:cells.lookup n=some c:=ec
   rw[ec,oP]
   have V2:∀d,List.lookup x ((n,c)::acc)=some d->cells.lookup x=some d:=λd e=>by
    rw[qE] at e
    cases hx:x==n with
    |true=>rw[hx] at e;cases e;rw[eq_of_beq hx];exact ec
    |false=>rw[hx] at e;exact ha d e
   obtain⟨h1,h2⟩:=AJ cells x r ((n,c)::acc) hr V2
   refine⟨h1,λh=>h2 ?_⟩
   rcases h with h | ⟨d,h⟩
   .rcases b9.mp h with z | z
    .cases z
     exact .inr ⟨c,by simp[qE]⟩
    .exact .inl z
   .refine .inr ?_
    rw[qE]
    cases hx:x==n with
    |true=>exact⟨c,rfl⟩
    |false=>exact⟨d,h⟩
theorem mem_of_lookupK:∀{l:List (Str×NameKind)}{x:Str}{k:NameKind},l.lookup x=some k->(x,k)∈l
 |[],_,_,h=>by simp at h
 |(n,k')::r,x,k,h=>by
  rw[qE] at h
  cases hx:x==n with
  |true=>rw[hx] at h;cases h;rw[eq_of_beq hx];exact bG
  |false=>rw[hx] at h;exact bU _ (mem_of_lookupK h)
def AK:(∀k,(relabel scope env).names.lookup x=some k->scope.names.lookup x=some k\/(k = .cell/\scope.names.lookup x=some .free))/\
  (∀k,scope.names.lookup x=some k->(relabel scope env).names.lookup x=some k\/(k = .free/\(relabel scope env).names.lookup x=some .cell)):=by
 show(∀k,(scope.names.map λ(n,k)=>if (k==NameKind.free&&env.scope.kind == .function&&env.kindOf n==some .cell) then (n,NameKind.cell) else (n,k)).lookup x=some k->_)/\(∀k,_->(scope.names.map λ(n,k)=>if (k==NameKind.free&&env.scope.kind == .function&&env.kindOf n==some .cell) then (n,NameKind.cell) else (n,k)).lookup x=some k\/(_/\(scope.names.map λ(n,k)=>if (k==NameKind.free&&env.scope.kind == .function&&env.kindOf n==some .cell) then (n,NameKind.cell) else (n,k)).lookup x=some .cell))
 generalize scope.names=l
 induction l with
 |nil=>exact⟨λk h=>by simp at h,λk h=>by simp at h⟩
 |cons y r ih=>
  obtain⟨n,k0⟩:=y
  rw[bQ]
  cases hc:(k0==NameKind.free&&env.scope.kind == .function&&env.kindOf n==some .cell) with
  |true=>
   simp only[hc,gr,qE]
   have hf:k0 = .free:=by
    rw[eY,eY] at hc
    exact mY.mp hc.1.1
   cases hx:x==n with
   |true=>exact⟨λk h=>by cases h;exact .inr ⟨rfl,by rw[hf]⟩,λk h=>by cases h;exact .inr ⟨hf,rfl⟩⟩
   |false=>exact ih
  |false=>
   simp only[hc,fG,eO,qE]
   cases hx:x==n with
   |true=>exact⟨λk h=>by cases h;exact .inl rfl,λk h=>by cases h;exact .inl rfl⟩
   |false=>exact ih
theorem xg(n:Nat):∀(l:List (Str×NameKind)) (acc:List (Str×Addr)),((l.filter λy=>y.2 == .cell).map (·.1)=[])->cellsFrom n l acc=acc/\∀h:Heap,pushCells h l=h
 |[],_,_=>⟨rfl,λ_=>rfl⟩
 |(y,k)::r,acc,e=>by
  cases hk:(k==NameKind.cell) with
  |true=>
   rw[dF] at e
   simp only[hk,gr,bQ] at e
   cases e
  |false=>
   rw[dF] at e
   simp only[hk,fG,eO] at e
   obtain⟨h1,h2⟩:=xg n r acc e
   unfold cellsFrom
   refine⟨by rw[av (by rw[hk];exact bZ)];exact h1,λh=>?_⟩
   unfold pushCells
   rw[av (by rw[hk];exact bZ)]
   exact h2 h
theorem Eg(n:Nat)(x:Str):∀(l:List (Str×NameKind)) (acc:List (Str×Addr)),((l.filter λy=>y.2 == .cell).map (·.1)=[x])->cellsFrom n l acc=(x,n)::acc/\∀h:Heap,pushCells h l=h.push { cls := .type "cell",data := .cell none }
 |[],_,e=>by cases e
 |(y,k)::r,acc,e=>by
  cases hk:(k==NameKind.cell) with
  |true=>
   rw[dF] at e
   simp only[hk,gr,bQ] at e
   have e1:y=x:=(List.cons.inj e).1
   have e2:=(List.cons.inj e).2
   subst e1
   obtain⟨h1,_⟩:=xg (n+1) r ((y,n)::acc) e2
   unfold cellsFrom
   refine⟨by rw[aA hk];exact h1,λh=>?_⟩
   unfold pushCells
   rw[aA hk]
   exact(xg 0 r [] e2).2 _
  |false=>
   rw[dF] at e
   simp only[hk,fG,eO] at e
   obtain⟨h1,h2⟩:=Eg n x r acc e
   unfold cellsFrom
   refine⟨by rw[av (by rw[hk];exact bZ)];exact h1,λh=>?_⟩
   unfold pushCells
   rw[av (by rw[hk];exact bZ)]
   exact h2 h
noncomputable def AL(h:Heap):List Str->Heap
 |[]=>h
 |_::_=>h.push { cls := .type "cell",data := .cell none }
theorem LF:∀{own:List Str}{b:Addr}{o:Obj},h.get? b=some o->(AL h own).get? b=some o
 |[],_,_,e=>e
 |_::_,_,_,e=>bx _ e
def V3{qual:Str}{outer:Env}
  (hx:(scope.names.filter λy=>y.2 == .cell).map (·.1)=own) (hl:own.length<=1)
  (hQ:Q (newEnv scope s.heap.objs.size globals (nI own s.heap.objs.size++cl) qual none .none (some outer) builtinsNs) { s with heap:=AL (s.heap.push { cls := .type "dict",data := .dict #[] }) own }) :
  wpAny M A (newFunctionEnv scope globals cl [] qual none .none (some outer)) Q E s:=by
 simp only[newFunctionEnv,Option.isSome_some,gr]
 refine aj (wpAny_alloc ?_)
 refine aj (wpAny_layCells _ (λname kind cells=>by cases V4:kind==NameKind.cell <;> simp[V4]) _ _ _ _ ?_)
 refine aj ?_
 rw[List.forIn_nil]
 refine aH (aH ?_)
 have e:(s.heap.push { cls := .type "dict",data := .dict #[] }:Heap).objs.size=s.heap.objs.size+1:=km ..
 match own,hl,hx,hQ with
 |[],_,hx,hQ=>
  rw[(xg _ scope.names cl hx).1,(xg 0 scope.names [] hx).2]
  exact hQ
 |[x],_,hx,hQ=>
  rw[(Eg _ x scope.names cl hx).1,(Eg 0 x scope.names [] hx).2]
  dsimp only
  rw[e]
  exact hQ
 |_::_::_,hl,_,_=>simp at hl
def rm(e:List.lookup y (nI own n++cl)=some c):(y∈own/\c=n+1)\/(y∉own/\cl.lookup y=some c):=by
 induction own with
 |nil=>exact .inr ⟨ip,e⟩
 |cons x r ih=>
  have e:List.lookup y ((x,n+1)::(nI r n++cl))=some c:=e
  rw[qE] at e
  cases h:y==x with
  |true=>rw[h] at e;cases e;exact .inl ⟨b9.mpr (.inl (eq_of_beq h)),rfl⟩
  |false=>
   rw[h] at e
   have hn:y≠x:=by intro z;rw[z,zF] at h;cases h
   rcases ih e with ⟨a,b⟩ | ⟨a,b⟩
   .exact .inl ⟨bU _ a,b⟩
   .exact .inr ⟨λz=>(b9.mp z).elim hn a,b⟩
def LG(h:y∉own):List.lookup y (nI own n++cl)=cl.lookup y:=by
 induction own with
 |nil=>rfl
 |cons x r ih=>
  show List.lookup y ((x,n+1)::(nI r n++cl))=_
  rw[qE,sV.mpr λz=>h (by rw[z];exact bG)]
  exact ih λz=>h (bU _ z)
def V5(h:y∈own):List.lookup y (nI own n++cl)=some (n+1):=by
 induction own with
 |nil=>cases h
 |cons x r ih=>
  show List.lookup y ((x,n+1)::(nI r n++cl))=_
  rw[qE]
  cases hb:y==x with
  |true=>rfl
  |false=>exact ih ((b9.mp h).resolve_left λz=>by rw[z,zF] at hb;cases hb)
noncomputable def rn(xs own ns:List Str)(names outer:List (Str×NameKind)):Bool:=
 names.all (λy=>(y.2 != .cell||own.contains y.1)&&(y.2 != .free||outer.lookup y.1==some .cell)&&(y.2 != .local||names.lookup y.1==some .local))&&((names.filter λy=>y.2 == .cell).map (·.1)==own)&&decide (own.length<=1)&&xs.all (λx=>names.lookup x==some (if own.contains x then .cell else .local))&&ns.all (λy=>names.lookup y==some .free && !own.contains y)&&decide (xs++ns).Nodup
def LH(I:Inv X pins O H s)(hk:scope.kind = .function)(ho:rn xs own ns scope.names X.env.scope.names=true) :
  Ef X own scope (fu X.env.cells scope.names [])/\(∀y∈ns,X.env.scope.names.lookup y=some .cell)/\(∀y∈ns,((relabel scope X.env).names.lookup y=some .cell\/(relabel scope X.env).names.lookup y=some .free)/\y∉own)/\(∀x∈xs,scope.names.lookup x=some .local\/(scope.names.lookup x=some .cell/\own.contains x=true))/\(xs++ns).Nodup:=by
 unfold rn at ho
 simp only[eY,kr,wc,bne_iff_ne,mY,decide_eq_true_eq,Bool.not_eq_true',List.contains_eq_mem,decide_eq_false_iff_not] at ho
 obtain⟨⟨⟨⟨⟨h1,h0⟩,hl⟩,h2⟩,h3⟩,h4⟩:=ho
 have nJ:∀y∈scope.names,y.2 = .free->∃c,X.env.cells.lookup y.1=some c:=λy m e=>by
  rcases(h1 y m).1.2 with z | z
  .exact absurd e z
  .exact I.ok.has y.1 (.inl z)
 refine⟨⟨V1 nJ,λy c e=>(AJ X.env.cells y scope.names [] nJ (by simp)).1 c e,λy hy cJ=>?_,hk,h0,hl,λy m e=>?_⟩,λy m=>?_,λy m=>⟨?_,(h3 y m).2⟩,λx m=>?_,h4⟩
 .refine(AJ X.env.cells y scope.names [] nJ (by simp)).2 (.inl ?_)
  rcases hy with hy | hy
  .rcases AK.1 _ hy with z | ⟨_,z⟩
   .rcases(h1 _ (mem_of_lookupK z)).1.1 with q | q
    .exact absurd rfl q
    .exact absurd q cJ
   .exact mem_of_lookupK z
  .rcases AK.1 _ hy with z | ⟨z,_⟩
   .exact mem_of_lookupK z
   .cases z
 .rcases(h1 y m).2 with z | z
  .exact absurd e z
  .exact z
 .rcases(h1 _ (mem_of_lookupK (h3 y m).1)).1.2 with z | z
  .exact absurd rfl z
  .exact z
 .rcases AK.2 _ (h3 y m).1 with z | ⟨_,z⟩
  .exact .inr z
  .exact .inl z
 .have:=h2 x m
  by_cases hx:x∈own
  .rw[aA hx] at this
   exact .inr ⟨this,by simpa using hx⟩
  .rw[av hx] at this
   exact .inl this
noncomputable def fw(js:List Nat)(O:St):St:=js.map λj=>(O[j]?).join
theorem V6{O:St}{tk:Nat}(I:Inv X pins O H s)
  (L:Ef X own scope cl) (hj:js.map (λj=>X.N[j]?)=ns.map some) (pD:∀y∈ns,X.env.scope.names.lookup y=some .cell)
  (bb:∀y∈ns,((relabel scope X.env).names.lookup y=some .cell\/(relabel scope X.env).names.lookup y=some .free)/\y∉own) (hc0:∀y∈own,h'.IsCell (s.heap.objs.size+1) none)
  (hf:∀b∈fp,fg X pins H b) (fM:∀b∈fp,b<s.heap.objs.size) (hn:h'.Ns s.heap.objs.size m) (hk:∀b o,s.heap.get? b=some o->h'.get? b=some o) :
  Inv (eT X xs own ns scope cl fp pins s H) [] (xs.map (λ_=>none)++fw js O) H { s with heap:=h',toks:=tk }:=by
 have LI:∀y c,cl.lookup y=some c->c<s.heap.objs.size:=λy c e=>by
  obtain⟨v,z⟩:=I.cell y c (L.sub _ _ e)
  exact z.lt
 have len:js.length=ns.length:=by have:=eX List.length hj;simpa using this
 refine⟨⟨I.ok.mod,L.kind,I.ok.glob,I.ok.blt,aN _,λy z c h1 h2=>?_,λy hy=>?_,λy c z h1=>?_,I.ok.hd,I.ok.frames,.inl rfl,
  λb hb=>⟨bO (fM b hb),λy c e=>?_⟩,I.bs,bL I.ok.ny I.sz,λb o e hb=>?_,λb hb z=>?_,I.stack,I.Kj⟩,
  rfl,I.bare,Un.kept hk,⟨m,hn,λi y v e1 e2 _=>?_⟩,λy c e=>?_,I.fresh,λy c e=>?_,λp hp=>?_,I.aD.kept hk,?_⟩
 .rcases rm h1 with ⟨a,e⟩ | ⟨a,e⟩ <;> rcases rm h2 with ⟨a',e'⟩ | ⟨a',e'⟩
  .have hl:=L.fq
   match own,hl,a,a' with
   |[x],_,a,a'=>rw[cb.mp a,cb.mp a']
   |[],_,a,_=>cases a
   |_::_::_,hl,_,_=>simp at hl
  .exact absurd (LI z c e') (by rw[e];exact tq.mpr (gO _))
  .exact absurd (LI y c e) (by rw[e'];exact tq.mpr (gO _))
  .exact I.ok.inj y z c (L.sub _ _ e) (L.sub _ _ e')
 .by_cases z:y∈own
  .exact⟨_,V5 z⟩
  .obtain⟨c,e⟩:=L.all y hy z
   exact⟨c,(LG z).trans e⟩
 .rcases rm h1 with ⟨_,e⟩ | ⟨a,_⟩
  .rw[e];exact gO _
  .exact absurd (by simpa using(show own.contains y=true from z)) a
 .rcases rm e with ⟨_,e⟩ | ⟨_,e⟩
  .rw[e];exact λz=>absurd (fM b hb) (by rw[<-z];exact tq.mpr (gO _))
  .exact(hf b hb).2.2.2.2.1 y c (L.sub _ _ e)
 .rcases(hf b hb).2.2.2.1 with z | z
  .exact I.ok.qM b o e z
  .exact absurd (gM (bF (I.ok.bs b o e).1) z) (sW _)
 .rcases b9.mp (I.wD b z) with z | z
  .exact(hf b hb).2.1 z
  .exact(hf b hb).2.2.1 z
 .have e1:(xs++ns)[i]? = some y:=e1
  by_cases hi:i<xs.length
  .rw[JI (by rw[aq];exact hi),bq,aS hi] at e2
   cases e2
  .rw[zu (by lia)] at e1
   rw[zu (by rw[aq];lia),aq] at e2
   generalize i - xs.length=k at e1 e2
   unfold fw at e2
   rw[bq] at e2
   cases ej:js[k]? with
   |none=>rw[ej] at e2;cases e2
   |some j=>
    rw[ej] at e2
    have e2:(O[j]?).join=some v:=dm e2
    have e3:O[j]? = some (some v):=by
     cases q:O[j]? with
     |none=>rw[q] at e2;cases e2
     |some o=>rw[q] at e2;rw[show o=some v from e2]
    have e4:X.N[j]? = some y:=by
     have q:=eX (λl=>l[k]?) hj
     simp only[bq,ej,e1,iR] at q
     exact dm q
    have my:y∈ns:=bh e1
    obtain⟨m0,rp,hl⟩:=I.loc
    obtain⟨u,r,lk⟩:=hl j y v e4 e3 (.inr (.inl (pD y my)))
    refine⟨u,r,.inr ⟨(bb y my).1,?_⟩⟩
    obtain⟨c,ec⟩:=L.all y (bb y my).1 (bb y my).2
    rcases lk with ⟨k1,_⟩ | ⟨_,c',e5,e6⟩
    .have k2:X.env.scope.names.lookup y=some .local:=k1
     rw[pD y my] at k2;cases k2
    .have:=L.sub _ _ ec
     rw[e5] at this;cases this
     obtain⟨o,ho,hd⟩:=e6
     exact⟨c,(LG (bb y my).2).trans ec,o,hk _ _ ho,hd⟩
 .rcases rm e with ⟨a,e⟩ | ⟨_,e⟩
  .rw[e];exact⟨none,hc0 y a⟩
  .obtain⟨v,o,ho,hd⟩:=I.cell y c (L.sub _ _ e)
   exact⟨v,o,hk _ _ ho,hd⟩
 .rcases rm e with ⟨_,e⟩ | ⟨_,e⟩
  .rw[e];exact I.aD.fresh (gO _)
  .exact I.fJ y c (L.sub _ _ e)
 .have hp:p∈X.pn++pins:=by
   have hp:p∈(X.pn++pins)++[]:=hp
   simpa using hp
  obtain⟨e,n,nl,nf,d⟩:=I.pin p hp
  refine⟨hk _ _ e,n,bO (bF e),λz=>?_,d⟩
  rcases b9.mp (I.wD _ z) with z | z
  .exact nl z
  .exact nf z
 .show(xs.map (λ_=>(none:Option V))++fw js O).length=(xs++ns).length
  unfold fw
  rw[cE,cE,aq,aq,len]
def Inv.V7{O O':St}{s':Shared}(I:Inv X pins O H s)
  (hf:∀b∈fp,fg X pins H b) (J:Inv (eT X xs own ns scope cl fp pins s H) z9 O' H' s') (hk:∀b o,b≠s.heap.objs.size->s'.heap.get? b=some o->h2.get? b=some o) :
  Inv X pins O H' { s' with heap:=h2 }:=by
 have u:Un (jM X.stack) fp H H' s.heap s'.heap:=J.base
 have ne:∀b o,s.heap.get? b=some o->b≠s.heap.objs.size:=λb o e=>bO (bF e)
 have fr:H' s.heap.objs.size=none:=J.free
 refine I.Aa (s':={ s' with heap:=h2 }) (ch:=fp) J.os ⟨λb o e n h1 h2=>hk b o (ne b o e) (u.keep b o e n h1 h2),λb o e n h1 h2=>?_,u.free,λb o e hx=>?_,u.gv,u.jL,u.kH⟩ (λb o e=>?_) J.bare
  (λb hb=>⟨(hf b hb).2.2.2.1,(hf b hb).2.1,(hf b hb).2.2.2.2.1,(hf b hb).2.2.2.2.2⟩)
 .obtain⟨sl,q⟩:=u.slot b o e n h1 h2
  exact⟨sl,hk _ _ (ne b o e) q⟩
 .obtain⟨o',q⟩:=u.there b o e hx
  exact⟨o',hk _ _ (ne b o e) q⟩
 .refine(J.aD b o e).kG (λc v hc q=>hk c v ?_ q) (λ_ q=>q) λ_ _ q=>q
  rcases hc with z | z
  .rw[z];exact bB e fr
  .exact bB z fr
def pE(X:Cx)(ifs:List Expr)(t:TT):Prop:=
 ∀(pins:List (Addr×Obj)) (s:Shared) (O:St) (H:Hp) (Q:Bool->Hp->Prop),Inv X pins O H s->t O H Q->
  wpAny (model X.prog X.w) X.A (forIn ifs true λc r=>if r=true then do let ok<-isTrue c X.env (eval c X.env);pure (ForInStep.yield ok) else pure (ForInStep.yield r)) (TP X pins O Q) X.xe s
def LJ:TT:=λ_ H Q=>Q true H
def ju:pE X [] LJ:=λ_ _ _ H _ I h=>wpAny_tests_nil ⟨H,I,h⟩
def nK{c:Expr}{t:TT}(h:PT X c t):pE X [c] t:=λpins s O H Q I q=>wpAny_tests_one (h pins s O H Q I q)
def Eh(js:List Nat)(tt:TT)(te:TE)(O:St)(J:It)(H1:Hp)(Q:VK):Prop:=
 ∀D,H1 D=none->∃W:Nat->Nat->Hp->Prop,(∃m,W 0 m (upd H1 D (.lst [])))/\∀i m H,W i m H->
  (J.stop i H/\Q (.ref D) H)\/(J.go i H/\∀x H',J.gw i H x H'->tt (some x::fw js O) H' λb H2=>if b=true then te (some x::fw js O) H2 λy H3=>∃ys,H3 D=some (.lst ys)/\ys.length<sizeLine/\∃m',m'<m/\W (i+1) m' (upd H3 D (.lst (ys++[y])))
   else ∃m',m'<m/\W (i+1) m' H2)
def LK(js:List Nat)(wi:TI)(tt:TT)(te:TE):TE:=λO H Q=>wi O H λJ H1=>Eh js tt te O J H1 Q
def Ei(K:Frag)(js:List Nat)(tt:TT)(te:TE)(O:St)(J:It)(H1:Hp)(Q:VK):Prop:=
 ∀D,H1 D=none->∃W:Nat->Nat->Hp->Prop,(∃m,W 0 m (upd H1 D (.lst [])))/\∀i m H,W i m H->
  (J.stop i H/\Q (.ref D) H)\/(J.go i H/\∀x H',J.gw i H x H'->∃a v1 v2,x = .ref a/\ax K H' a [v1,v2]/\tt (some v1::some v2::fw js O) H' λb H2=>if b=true then te (some v1::some v2::fw js O) H2 λy H3=>∃ys,H3 D=some (.lst ys)/\ys.length<sizeLine/\∃m',m'<m/\W (i+1) m' (upd H3 D (.lst (ys++[y])))
   else ∃m',m'<m/\W (i+1) m' H2)
def V8(K:Frag)(js:List Nat)(wi:TI)(tt:TT)(te:TE):TE:=λO H Q=>wi O H λJ H1=>Ei K js tt te O J H1 Q
abbrev TU:=V->Hp->(List V->Hp->Prop)->Prop
def Ej(G:TU)(js:List Nat)(tt:TT)(te:TE)(O:St)(J:It)(H1:Hp)(Q:VK):Prop:=
 ∀D,H1 D=none->∃W:Nat->Nat->Hp->Prop,(∃m,W 0 m (upd H1 D (.lst [])))/\∀i m H,W i m H->
  (J.stop i H/\Q (.ref D) H)\/(J.go i H/\∀x H',J.gw i H x H'->G x H' λus H0=>tt (us.map some++fw js O) H0 λb H2=>if b=true then te (us.map some++fw js O) H2 λy H3=>∃ys,H3 D=some (.lst ys)/\ys.length<sizeLine/\∃m',m'<m/\W (i+1) m' (upd H3 D (.lst (ys++[y])))
   else ∃m',m'<m/\W (i+1) m' H2)
def xh(K:Frag)(xs:List Str)(tg:Expr)(G:TU):Prop:=
 ∀(Y:Cx) (ns:List Str),Y.N=xs++ns->Y.N.Nodup->(∀x∈xs,Loc Y.env.scope x/\(Y.fn x=true\/Y.env.scope.names.lookup x=some .local))->Y.K=K->Y.calm=true->∀(pins:List (Addr×Obj)) (s:Shared) (vs O:St) (H:Hp) (v:V) (u:Value) (R:List V->Hp->Prop),vs.length=xs.length->Inv Y pins (vs++O) H s->RelV v u->G v H R->
  wpAny (model Y.prog Y.w) Y.A (assign tg Y.env u) (λ_ s' =>∃us H',us.length=xs.length/\Inv Y pins (us.map some++O) H' s'/\R us H') Y.xe s
def LL:xh K [x] (.Name x px) (λv H R=>R [v] H):=by
 intro Y ns hN dz hl _ _ pins s vs O H v u R hv I r h
 match vs,hv,I with
 |[a],_,I=>
  obtain⟨h1,h2⟩:=hl x bG
  have hg:PG Y (.Name x px) (qR 0):=bK 0 dz (by rw[hN];rfl) h1 h2
  refine aE (hg pins s (a::O) H v u (λO' H'=>O'=some v::O/\H'=H) I r ⟨rfl,rfl⟩) λ_ s' ⟨O',H',J,e1,e2⟩=>?_
  subst e1 e2
  exact⟨[v],_,rfl,J,h⟩
def V9:xh K [x,z] (.Tuple [.Name x px,.Name z pz] ck tp) (λv H R=>∃a v1 v2,v = .ref a/\ax K H a [v1,v2]/\R [v1,v2] H):=by
 intro Y ns hN dz hl hK Wa pins s vs O H v u R hv I r h
 subst hK
 match vs,hv,I with
 |[a,b],_,I=>
  obtain⟨h1,h2⟩:=hl x bG
  obtain⟨h3,h4⟩:=hl z (bU _ bG)
  obtain⟨ad,v1,v2,e,hq,h⟩:=h
  have hg:PG Y (.Tuple [.Name x px,.Name z pz] ck tp) (Kw Y.K 2 (DG (qR 0) (DG (qR 1) Kv))):=jn Wa (dG (bK 0 dz (by rw[hN];rfl) h1 h2) (dG (bK 1 dz (by rw[hN];rfl) h3 h4) jm))
  refine aE (hg pins s (a::b::O) H v u (λO' H'=>O'=some v1::some v2::O/\H'=H) I r ⟨ad,[v1,v2],e,hq,rfl,v1,[v2],rfl,v2,[],rfl,rfl,rfl,rfl⟩) λ_ s' ⟨O',H',J,e1,e2⟩=>?_
  subst e1 e2
  exact⟨[v1,v2],_,rfl,J,h⟩
section
variable{X:Cx}{xs own:List Str}{tg:Expr}{G:TU}{iter elt:Expr}{ifs:List Expr}{scope:Scope}{pos:Pos}{ns:List Str}{js:List Nat}{cl:List (Str×Addr)}{wi:TI}{tt:TT}{te:TE}
def LM{O:St}{H₂:Hp}{J:It}{Q:VK}
  (L:Ef X own scope cl) (hc:X.calm=true) (hj:js.map (λj=>X.N[j]?)=ns.map some) (pD:∀y∈ns,X.env.scope.names.lookup y=some .cell)
  (bb:∀y∈ns,((relabel scope X.env).names.lookup y=some .cell\/(relabel scope X.env).names.lookup y=some .free)/\y∉own) (hx:∀x∈xs,scope.names.lookup x=some .local\/(scope.names.lookup x=some .cell/\own.contains x=true)) (dz:(xs++ns).Nodup) (TG:xh X.K xs tg G)
  (ht:∀fp pins s H,pE (eT X xs own ns scope cl fp pins s H) ifs tt) (he:∀fp pins s H,PE (eT X xs own ns scope cl fp pins s H) elt te)
  (I2:Inv X pins O H₂ s₂) (T:Turn X.prog X.w X.K tg J fp it tn) (jP:tn 0 s₂.heap) (f2:∀b∈fp,fg X pins H₂ b) (hq:Ej G js tt te O J H₂ Q)
  (Wb:∀D H3 s',(∃m,s'.heap.Ns (s₂.heap.objs.size+1) m)->H3 (s₂.heap.objs.size+1)=none->(∀h2,(∀b o,b≠s₂.heap.objs.size+1->s'.heap.get? b=some o->h2.get? b=some o)->Inv X pins O H3 { s' with heap:=h2 })->Q (.ref D) H3->RR (.ref D) (s₂.heap.objs.size+1) (.ok .next) s') :
  wpAny (model X.prog X.w) X.A (newList []) (λacc s₃=>wpAny (model X.prog X.w) X.A (newFunctionEnv scope X.env.globals cl [] X.env.qual none .none (some X.env)) (λLN s₄=>
   codeAny (model X.prog X.w) X.A (.compStart (.ListComp elt [⟨tg,iter,ifs,0⟩] scope pos) 0 (.ref it) acc { LN with scope:=relabel scope X.env }) (RR acc LN.locals) s₄) E s₃) E s₂:=by
 have hD:H₂ s₂.heap.objs.size=none:=I2.fresh
 have I3:Inv X pins O (upd H₂ s₂.heap.objs.size (.lst [])) { s₂ with heap:=s₂.heap.push { cls := .type "list",data := .seq ([]:List Value).toArray } }:=I2.D3 (ys:=[]) (its:=[]) (t':=s₂.toks) .nil (bA _)
 obtain⟨W,⟨m0,w0⟩,turn⟩:=hq _ hD
 refine we (V3 L.cell L.fq ?_)
 have AM:∀b∈fp,b<s₂.heap.objs.size:=λb hb=>let ⟨_,e,_⟩:=T.obj 0 _ jP b hb;bF e
 have LO:(s₂.heap.push { cls := .type "list",data := .seq ([]:List Value).toArray }).objs.size=s₂.heap.objs.size+1:=km ..
 obtain⟨h₁,AN⟩:∃h₁,h₁=AL ((s₂.heap.push { cls := .type "list",data := .seq ([]:List Value).toArray }).push { cls := .type "dict",data := .dict #[] }) own:=⟨_,rfl⟩
 have eF:∀b o,(s₂.heap.push { cls := .type "list",data := .seq ([]:List Value).toArray }).get? b=some o->h₁.get? b=some o:=λb o e=>by rw[AN];exact LF (bx _ e)
 have Wc:h₁.Ns (s₂.heap.push { cls := .type "list",data := .seq ([]:List Value).toArray }).objs.size (λ_=>none):=by rw[AN];exact(Heap.Ns.new _ (.type "dict")).keeps λb o e=>LF e
 have hc0:∀y∈own,h₁.IsCell ((s₂.heap.push { cls := .type "list",data := .seq ([]:List Value).toArray }).objs.size+1) none:=λy my=>by
  rw[AN,<-km (s₂.heap.push { cls := .type "list",data := .seq ([]:List Value).toArray }) { cls := .type "dict",data := .dict #[] }]
  match own,my with
  |_::_,_=>exact⟨{ cls := .type "cell",data := .cell none },cq _ rfl,rfl⟩
 show codeAny _ _ _ _ { s₂ with heap:=AL ((s₂.heap.push { cls := .type "list",data := .seq ([]:List Value).toArray }).push { cls := .type "dict",data := .dict #[] }) own }
 rw[<-AN]
 have f3:∀b∈fp,fg X pins (upd H₂ s₂.heap.objs.size (.lst [])) b:=λb hb=>⟨by rw[ao (bO (AM b hb))];exact(f2 b hb).1,(f2 b hb).2⟩
 have C0:=V6 (xs:=xs) (tk:=s₂.toks) I3 L hj pD bb hc0 f3 (λb hb=>gM (AM b hb) (by rw[LO];exact gO _)) Wc eF
 have wL:tn 0 h₁:=T.keep _ _ _ jP λb hb o e=>eF b o (bx _ e)
 generalize Ek:({ s₂ with heap:=s₂.heap.push { cls := .type "list",data := .seq ([]:List Value).toArray } }:Shared)=s₃ at *
 have hsz:s₃.heap.objs.size=s₂.heap.objs.size+1:=by rw[<-Ek];exact LO
 have loop:∀s₄:Shared,s₄={ s₃ with heap:=h₁ } ->
   codeAny (model X.prog X.w) X.A (.compLoop (.ListComp elt [⟨tg,iter,ifs,0⟩] scope pos) 0 (.ref it) (.ref s₂.heap.objs.size) (compEnvC scope (nI own s₃.heap.objs.size++cl) s₃.heap.objs.size X.env)) (RR (.ref s₂.heap.objs.size) s₃.heap.objs.size) s₄:=by
  rintro s₄ rfl
  refine V0 (λn s' =>∃i vs H',vs.length=xs.length/\Inv (eT X xs own ns scope cl fp pins s₃ (upd H₂ s₂.heap.objs.size (.lst []))) [] (vs++fw js O) H' s'/\tn i s'.heap/\(∀b∈fp,H' b=none)/\W i n H') ?_ m0
   ⟨0,_,_,aq _,by subst Ek;exact C0,wL,λb hb=>(f3 b hb).1,w0⟩
  rintro n s5 ⟨i,v5,H5,l5,J5,tP,Aj,w5⟩
  have El:∀{H':Hp},(∀b∈fp,H' b=none)->∀b∈fp,fg (eT X xs own ns scope cl fp pins s₃ (upd H₂ s₂.heap.objs.size (.lst []))) [] H' b:=λhn b hb=>by
   refine⟨hn b hb,?_,?_,.inl hb,λy c e=>?_,λp hp=>?_⟩
   .show b≠s₃.heap.objs.size
    rw[hsz]
    exact bO (lN (AM b hb))
   .intro z
    rcases b9.mp (I2.wD b z) with z | z
    .exact(f2 b hb).2.1 z
    .exact(f2 b hb).2.2.1 z
   .rcases rm e with ⟨_,e⟩ | ⟨_,e⟩
    .rw[e];exact λz=>absurd (AM b hb) (by rw[<-z,hsz];exact tq.mpr (bL (gO _) (gO _)))
    .exact(f2 b hb).2.2.2.2.1 y c (L.sub _ _ e)
   .have hp:p∈(X.pn++pins)++[]:=hp
    exact(f2 b hb).2.2.2.2.2 p (by simpa using hp)
  rcases turn i n H5 w5 with ⟨stop,qn⟩ | ⟨go,step⟩
  .refine aE (T.done (eT X xs own ns scope cl fp pins s₃ _) rfl rfl rfl hc i [] s5 _ H5 (λ_ _=>False) J5 (El Aj) tP stop) λr s6 ⟨hr,J6⟩=>?_
   subst hr
   show RR _ _ (.ok .next) s6
   rw[hsz]
   refine Wb _ H5 s6 ?_ (by rw[<-hsz];exact J6.free) (λh2 i0=>?_) qn
   .obtain⟨mm,hn,_⟩:=J6.loc
    exact⟨mm,by rw[<-hsz];exact hn⟩
   .refine Inv.V7 I3 f3 J6 λb o hb e=>i0 b o ?_ e
    rw[<-hsz];exact hb
  .refine aE (T.item (eT X xs own ns scope cl fp pins s₃ _) rfl rfl rfl hc i [] s5 _ H5 (λ_ _=>False) J5 (El Aj) tP go) λr s6 ⟨u,hr,h6⟩=>?_
   subst hr
   refine aE h6 λ_ s7 ⟨xv,H7,J7,r7,y7,Em,Wd⟩=>?_
   have We:=J7.pinned (El Wd) (T.obj _ _ Em)
   have hl:∀x∈xs,Loc (relabel scope X.env) x/\(own.contains x=true\/(relabel scope X.env).names.lookup x=some .local):=λx mx=>by
    rcases hx x mx with z | ⟨z,z'⟩
    .exact⟨.inl (lookup_relabel_local z),.inr (lookup_relabel_local z)⟩
    .exact⟨.inr ((AK.2 _ z).elim id λq=>nomatch q.1),.inl z'⟩
   refine aE (TG (eT X xs own ns scope cl fp pins s₃ (upd H₂ s₂.heap.objs.size (.lst []))) ns rfl dz hl rfl hc _ s7 v5 _ H7 xv u _ l5 We r7 (step xv H7 y7)) λ_ s8 ⟨us,H8,l8,J8,q8⟩=>?_
   have fin:∀{H':Hp}{s':Shared},Inv (eT X xs own ns scope cl fp pins s₃ (upd H₂ s₂.heap.objs.size (.lst []))) ([]++wK fp s7.heap) (us.map some++fw js O) H' s'->(∃m',m'<n/\W (i+1) m' H')->
     ∃m',m'<n/\∃i vs H',vs.length=xs.length/\Inv (eT X xs own ns scope cl fp pins s₃ (upd H₂ s₂.heap.objs.size (.lst []))) [] (vs++fw js O) H' s'/\tn i s'.heap/\(∀b∈fp,H' b=none)/\W i m' H':=λ{H' s'} J9 ⟨m',hm,w9⟩=>by
    refine⟨m',hm,i+1,us.map some,H',(aq _).trans l8,J9.tO,T.keep _ _ _ Em λb hb o e=>(J9.pin (b,o) (gc _ (gc _ (Ai hb e)))).1,λb hb=>?_,w9⟩
    obtain⟨o,e,d⟩:=T.obj _ _ Em b hb
    exact(J9.pin (b,o) (gc _ (gc _ (Ai hb e)))).2.1
   refine aE (ht fp pins s₃ _ _ s8 _ H8 _ J8 q8) λok s9 ⟨H9,J9,q9⟩=>?_
   cases ok with
   |false=>
    rw[av bZ] at q9 ⊢
    exact fin J9 q9
   |true=>
    rw[aA rfl] at q9 ⊢
    refine aE (he fp pins s₃ _ _ s9 _ H9 _ J9 q9) λyv tY h_=>?_
    obtain⟨y,En,Wf,Wg,ys,Wh,hz,m',hm,Wi⟩:=h_
    refine aE (iA _ tY _ En (.ref s₂.heap.objs.size) [y] _ [yv] (λ_ H'=>H'=upd En s₂.heap.objs.size (.lst (ys++[y]))) Wf rfl (.cons Wg .nil) ⟨_,ys,y,rfl,rfl,Wh,hz,rfl⟩) λ_ s11 ⟨_,H11,Wj,_,LP⟩=>?_
    subst LP
    exact fin Wj ⟨m',hm,Wi⟩
 have eG:=loop _ rfl
 subst Ek
 exact codeAny_compStart_list eG (T.self _ 0 _ _ _ wL eG)
def LQ(TG:xh X.K xs tg G)(hi:PI X tg iter wi)(hc:X.calm=true)(hk:scope.kind = .function)(hj:js.map (λj=>X.N[j]?)=ns.map some)(ho:rn xs own ns scope.names X.env.scope.names=true)
  (ht:∀fp pins s H,pE (eT X xs own ns scope (fu X.env.cells scope.names []) fp pins s H) ifs tt) (he:∀fp pins s H,PE (eT X xs own ns scope (fu X.env.cells scope.names []) fp pins s H) elt te) (hs:∀x,foldedSetIterable iter X.env x=pure x:=by intro _;rfl) :
  PE X (.ListComp elt [⟨tg,iter,ifs,0⟩] scope pos) (λO H Q=>wi O H λJ H1=>Ej G js tt te O J H1 Q):=by
 intro pins s O H Q I h
 obtain⟨L,pD,bb,hx,dz⟩:=LH I hk ho
 rw[eval_ListComp]
 refine wpAny_comprehension_free (use:=none) rfl hs L.LD L.kind L.names (aE (hi pins s O H _ I h) λv s1 h1=>aE h1 λAh s2 h2=>?_)
 obtain⟨it,fp,tn,J,H2,e,I2,T,jP,f2,hq⟩:=h2
 subst e
 refine LM (RR:=λacc C=>compPost (model X.prog X.w) X.A X.xe none (EP X pins O Q) acc C) L hc hj pD bb hx dz TG ht he I2 T jP f2 hq ?_
 intro D H3 s' ⟨m,hn⟩ nJ hI q
 exact⟨m,hn,λh' sb=>⟨.ref D,H3,hI h' λb o hb e=>sb.extBut b o hb e,rfl,q⟩⟩
def Wk(TG:xh X.K xs tg G)(hN:X.N.Nodup)(hy:X.N[i]? = some y)(tZ:Loc X.env.scope y)(hi:PI X tg iter wi)(hc:X.calm=true)(hk:scope.kind = .function)(hj:js.map (λj=>X.N[j]?)=ns.map some)(ho:rn xs own ns scope.names X.env.scope.names=true)
  (ht:∀fp pins s H,pE (eT X xs own ns scope (fu X.env.cells scope.names []) fp pins s H) ifs tt) (he:∀fp pins s H,PE (eT X xs own ns scope (fu X.env.cells scope.names []) fp pins s H) elt te)
  (Eo:swapsWith (.ListComp elt [⟨tg,iter,ifs,0⟩] scope pos) (some (.Name y py)) xi.line X.env=pure true:=by rfl) (hs:∀x,foldedSetIterable iter X.env x=pure x:=by intro _;rfl)
  (hf:X.fn y=true\/X.env.scope.names.lookup y=some .local:=by first | exact .inl rfl | exact .inr rfl | assumption) :
  PS X (.Assign [.Name y py] (.ListComp elt [⟨tg,iter,ifs,0⟩] scope pos) xi) (Ag (λO H Q=>wi O H λJ H1=>Ej G js tt te O J H1 Q) (qR i)):=by
 intro pins s O H D I h
 obtain⟨L,pD,bb,hx,dz⟩:=LH I hk ho
 rw[exec_Assign_Name_used _ _ _ _ Eo]
 refine aj (wpAny_standAt (aj ?_))
 show wpAny _ X.A (do let _<-comprehension (.ListComp elt [⟨tg,iter,ifs,0⟩] scope pos) scope X.env _ (newList []) false (eval iter X.env) (some (assign (.Name y py) X.env))) _ _ s
 refine aj (aE (wpAny_comprehension_free (use:=some (assign (.Name y py) X.env)) (Q:=λ_ s'=>SP X pins D .next s') rfl hs L.LD L.kind L.names
  (aE (hi pins s O H _ I h) λv s1 h1=>aE h1 λAh s2 h2=>?_)) λ_ s' hq=>aH (aH hq))
 obtain⟨it,fp,tn,J,H2,e,I2,T,jP,f2,hq⟩:=h2
 subst e
 refine LM (Q:=λz H1=>D.nx (O.set i (some z)) H1) (RR:=λacc C=>compPost (model X.prog X.w) X.A X.xe (some (assign (.Name y py) X.env)) (λ_ s'=>SP X pins D .next s') acc C) L hc hj pD bb hx dz TG ht he I2 T jP f2 hq ?_
 intro Dd H3 s' ⟨m,hn⟩ nJ hI q
 have I3:Inv X pins O H3 s':=hI s'.heap λ_ _ _ e=>e
 have t7:fg X pins H3 (s2.heap.objs.size+1):=I2.jO (gO _) nJ
 obtain⟨o,es,ep,ho,hd,r⟩:=hn
 have I4:Inv X (pins++[(s2.heap.objs.size+1,o)]) O H3 s':=I3.z7 λp hp=>(cX.mp hp).elim (λz=>I3.pin p (gc _ z)) λz=>by
  have e:p=(s2.heap.objs.size+1,o):=by simpa using z
  subst e
  exact⟨ho,nJ,t7.2.1,t7.2.2.1,λv z=>by rw[hd] at z;cases z⟩
 show wpAny _ X.A (assign (.Name y py) X.env (.ref Dd)) _ _ s'
 refine wpAny_assign_Name (DC I4 hN hy tZ (v := .ref Dd) rfl (λs4 I5=>?_) hf)
 have hp:=I5.pin (s2.heap.objs.size+1,o) (by simp)
 refine⟨m,⟨o,es,ep,hp.1,hd,r⟩,λh' sb=>⟨_,H3,?_,q⟩⟩
 refine(I5.tO (pl:=[(s2.heap.objs.size+1,o)])).turned (t':=s4.toks) (it:=s2.heap.objs.size+1) (λb o' hb e=>sb.extBut b o' hb e) nJ t7.2.1 t7.2.2.2.1 t7.2.2.2.2.1 t7.2.2.2.2.2
def i3(hi:PI X (.Name x px) iter wi)(hc:X.calm=true)(hk:scope.kind = .function)(hj:js.map (λj=>X.N[j]?)=ns.map some)(ho:rn [x] [] ns scope.names X.env.scope.names=true)
  (ht:∀fp pins s H,pE (eT X [x] [] ns scope (fu X.env.cells scope.names []) fp pins s H) ifs tt) (he:∀fp pins s H,PE (eT X [x] [] ns scope (fu X.env.cells scope.names []) fp pins s H) elt te) (hs:∀x,foldedSetIterable iter X.env x=pure x:=by intro _;rfl) :
  PE X (.ListComp elt [⟨.Name x px,iter,ifs,0⟩] scope pos) (LK js wi tt te):=LQ LL hi hc hk hj ho ht he hs
def t9(hN:X.N.Nodup)(hy:X.N[i]? = some y)(tZ:Loc X.env.scope y)(hi:PI X (.Name x px) iter wi)(hc:X.calm=true)(hk:scope.kind = .function)(hj:js.map (λj=>X.N[j]?)=ns.map some)(ho:rn [x] [] ns scope.names X.env.scope.names=true)
  (ht:∀fp pins s H,pE (eT X [x] [] ns scope (fu X.env.cells scope.names []) fp pins s H) ifs tt) (he:∀fp pins s H,PE (eT X [x] [] ns scope (fu X.env.cells scope.names []) fp pins s H) elt te)
  (Eo:swapsWith (.ListComp elt [⟨.Name x px,iter,ifs,0⟩] scope pos) (some (.Name y py)) xi.line X.env=pure true:=by rfl) (hs:∀x,foldedSetIterable iter X.env x=pure x:=by intro _;rfl)
  (hf:X.fn y=true\/X.env.scope.names.lookup y=some .local:=by first | exact .inl rfl | exact .inr rfl | assumption) :
  PS X (.Assign [.Name y py] (.ListComp elt [⟨.Name x px,iter,ifs,0⟩] scope pos) xi) (Ag (LK js wi tt te) (qR i)):=Wk LL hN hy tZ hi hc hk hj ho ht he Eo hs hf
def LR(hi:PI X (.Tuple [.Name x px,.Name z pz] ck tp) iter wi)(hc:X.calm=true)(hk:scope.kind = .function)(hj:js.map (λj=>X.N[j]?)=ns.map some)(ho:rn [x,z] [] ns scope.names X.env.scope.names=true)
  (ht:∀fp pins s H,pE (eT X [x,z] [] ns scope (fu X.env.cells scope.names []) fp pins s H) ifs tt) (he:∀fp pins s H,PE (eT X [x,z] [] ns scope (fu X.env.cells scope.names []) fp pins s H) elt te) (hs:∀x,foldedSetIterable iter X.env x=pure x:=by intro _;rfl) :
  PE X (.ListComp elt [⟨.Tuple [.Name x px,.Name z pz] ck tp,iter,ifs,0⟩] scope pos) (V8 X.K js wi tt te):=LQ V9 hi hc hk hj ho ht he hs
end
inductive D where
 |aB
 |bl (b:Bool)
 |int (i:Int)
 |str (x:Str)
 |tup (ds:List D)
 |lst (ds:List D)
mutual
def At(K:Frag)(H:Hp):D->V->Prop
 |.aB,v=>v = .aB
 |.bl b,v=>v = .bl b
 |.int i,v=>v = .int i
 |.str x,v=>v = .str x
 |.tup ds,v=>∃a xs,v = .ref a/\ax K H a xs/\dh K H ds xs
 |.lst ds,v=>∃a xs,v = .ref a/\ak K H a xs/\dh K H ds xs
def dh(K:Frag)(H:Hp):List D->List V->Prop
 |[],xs=>xs=[]
 |d::ds,xs=>∃x r,xs=x::r/\At K H d x/\dh K H ds r
end
mutual
theorem At.mono{K:Frag}{H H':Hp}(s:af H H'):∀(d:D) (v:V),At K H d v->At K H' d v
 |.aB,_,h=>h
 |.bl _,_,h=>h
 |.int _,_,h=>h
 |.str _,_,h=>h
 |.tup ds,_,⟨a,xs,e,q,l⟩=>⟨a,xs,e,s.tup q,dh.mono s ds xs l⟩
 |.lst ds,_,⟨a,xs,e,q,l⟩=>⟨a,xs,e,s.seq q,dh.mono s ds xs l⟩
theorem dh.mono{K:Frag}{H H':Hp}(s:af H H'):∀(ds:List D) (xs:List V),dh K H ds xs->dh K H' ds xs
 |[],_,h=>h
 |d::ds,_,⟨x,r,e,h,t⟩=>⟨x,r,e,At.mono s d x h,dh.mono s ds r t⟩
end
theorem dh.length{K:Frag}{H:Hp}:∀{ds:List D}{xs:List V},dh K H ds xs->xs.length=ds.length
 |[],_,h=>by rw[show _=[] from h];rfl
 |_::ds,_,⟨x,r,e,_,t⟩=>by rw[e,cQ,cQ,dh.length t]
mutual
noncomputable def dH:D->D->Bool
 |.aB,.aB=>true
 |.bl a,.bl b=>a==b
 |.bl a,.int b=>(if a then 1 else 0)==b
 |.int a,.bl b=>a==(if b then 1 else 0)
 |.int a,.int b=>a==b
 |.str a,.str b=>a==b
 |.tup a,.tup b=>gZ a b
 |.lst a,.lst b=>gZ a b
 |_,_=>false
noncomputable def gZ:List D->List D->Bool
 |[],[]=>true
 |a::r,b::t=>dH a b&&gZ r t
 |_,_=>false
end
mutual
noncomputable def dep:D->Nat
 |.tup ds=>dO ds+1
 |.lst ds=>dO ds+1
 |_=>0
noncomputable def dO:List D->Nat
 |[]=>0
 |d::r=>max (dep d) (dO r)
end
mutual
theorem xj:∀d:D,dH d d=true
 |.aB=>rfl
 |.bl b=>by simp[dH]
 |.int i=>by simp[dH]
 |.str x=>by simp[dH]
 |.tup ds=>by rw[dH];exact Ep ds
 |.lst ds=>by rw[dH];exact Ep ds
theorem Ep:∀ds:List D,gZ ds ds=true
 |[]=>rfl
 |d::r=>by rw[gZ,xj d,Ep r];rfl
end
noncomputable def nL:List D->List D->List Bool
 |a::r,b::t=>dH a b::nL r t
 |_,_=>[]
theorem nM:∀(ds es:List D),((List.range (min ds.length es.length)).all (λj=>(nL ds es).getD j true)&&ds.length==es.length)=gZ ds es
 |[],[]=>rfl
 |[],_::_=>rfl
 |_::_,[]=>by simp[gZ]
 |a::r,b::t=>by
  have ih:=nM r t
  have e:min (a::r).length (b::t).length=min r.length t.length+1:=by simp only[cQ];lia
  rw[e,JN,List.all_cons,tu,gZ,<-ih]
  have e2:((a::r).length==(b::t).length)=(r.length==t.length):=by simp
  rw[e2]
  show(dH a b&&_&&_)=_
  rw[Bool.and_assoc]
  rfl
section
variable{X:Cx}{pins:List (Addr×Obj)}{O:St}{H:Hp}{s:Shared}
mutual
theorem At.inj(I:Inv X pins O H s):∀(d e:D) (x:V),At X.K H d x->At X.K H e x->d=e
 |.aB,e,x,h,g=>by
  cases(show x = .aB from h)
  cases e with
  |aB=>rfl
  |tup ds=>obtain⟨a,xs,z,_⟩:=g;cases z
  |lst ds=>obtain⟨a,xs,z,_⟩:=g;cases z
  |bl b=>cases(show V.aB = .bl b from g)
  |int b=>cases(show V.aB = .int b from g)
  |str b=>cases(show V.aB = .str b from g)
 |.bl k,e,x,h,g=>by
  cases(show x = .bl k from h)
  cases e with
  |aB=>cases(show V.bl k = .aB from g)
  |tup ds=>obtain⟨a,xs,z,_⟩:=g;cases z
  |lst ds=>obtain⟨a,xs,z,_⟩:=g;cases z
  |bl b=>cases(show V.bl k = .bl b from g);rfl
  |int b=>cases(show V.bl k = .int b from g)
  |str b=>cases(show V.bl k = .str b from g)
 |.int k,e,x,h,g=>by
  cases(show x = .int k from h)
  cases e with
  |aB=>cases(show V.int k = .aB from g)
  |tup ds=>obtain⟨a,xs,z,_⟩:=g;cases z
  |lst ds=>obtain⟨a,xs,z,_⟩:=g;cases z
  |bl b=>cases(show V.int k = .bl b from g)
  |int b=>cases(show V.int k = .int b from g);rfl
  |str b=>cases(show V.int k = .str b from g)
 |.str k,e,x,h,g=>by
  cases(show x = .str k from h)
  cases e with
  |aB=>cases(show V.str k = .aB from g)
  |tup ds=>obtain⟨a,xs,z,_⟩:=g;cases z
  |lst ds=>obtain⟨a,xs,z,_⟩:=g;cases z
  |bl b=>cases(show V.str k = .bl b from g)
  |int b=>cases(show V.str k = .int b from g)
  |str b=>cases(show V.str k = .str b from g);rfl
 |.tup ds,e,x,h,g=>by
  obtain⟨a,xs,z,q,l⟩:=h
  subst z
  cases e with
  |aB=>cases(show V.ref a = .aB from g)
  |bl b=>cases(show V.ref a = .bl b from g)
  |int b=>cases(show V.ref a = .int b from g)
  |str b=>cases(show V.ref a = .str b from g)
  |tup es=>
   obtain⟨b,ys,z,q',l'⟩:=g
   cases z
   have e:=I.DE q q'
   subst e
   rw[dh.inj I ds es xs l l']
  |lst es=>
   obtain⟨b,ys,z,q',l'⟩:=g
   cases z
   obtain⟨_,_,p1,_⟩:=I.tuple q
   obtain⟨_,_,p2,_⟩:=I.list q'
   exact absurd rfl (SeqAt.ne_of_list_tuple p2.isList p1)
 |.lst ds,e,x,h,g=>by
  obtain⟨a,xs,z,q,l⟩:=h
  subst z
  cases e with
  |aB=>cases(show V.ref a = .aB from g)
  |bl b=>cases(show V.ref a = .bl b from g)
  |int b=>cases(show V.ref a = .int b from g)
  |str b=>cases(show V.ref a = .str b from g)
  |lst es=>
   obtain⟨b,ys,z,q',l'⟩:=g
   cases z
   have e:=I.DD q q'
   subst e
   rw[dh.inj I ds es xs l l']
  |tup es=>
   obtain⟨b,ys,z,q',l'⟩:=g
   cases z
   obtain⟨_,_,p1,_⟩:=I.tuple q'
   obtain⟨_,_,p2,_⟩:=I.list q
   exact absurd rfl (SeqAt.ne_of_list_tuple p2.isList p1)
theorem dh.inj(I:Inv X pins O H s):∀(ds es:List D) (xs:List V),dh X.K H ds xs->dh X.K H es xs->ds=es
 |[],[],_,_,_=>rfl
 |[],_::_,xs,h,⟨x,r,e,_⟩=>by rw[show xs=[] from h] at e;cases e
 |_::_,[],xs,⟨x,r,e,_⟩,h=>by rw[show xs=[] from h] at e;cases e
 |d::ds,e::es,xs,⟨x,r,z,h,t⟩,⟨y,q,z',h',t'⟩=>by
  subst z
  cases z'
  rw[At.inj I d e x h h',dh.inj I ds es r t t']
end
mutual
theorem LS(I:Inv X pins O H s):∀(d e:D) (x y:V) (u v:Value) (A:Around) (n:Nat),dep d<=n->A.units+n<cLine->At X.K H d x->At X.K H e y->RelV x u->RelV y v->SeqAt.EqAt A s u v (dH d e)
 |.tup ds,.tup es,x,y,u,v,A,n,hn,hu,h,g,rx,ry=>by
  by_cases same:x=y
  .subst same
   cases At.inj I _ _ x h g
   rw[xj]
   obtain⟨a,xs,rfl,_⟩:=h
   cases rx
   cases ry
   exact SeqAt.EqAt.same _
  .obtain⟨a,xs,rfl,q,l⟩:=h
   obtain⟨b,ys,rfl,q',l'⟩:=g
   cases rx
   cases ry
   obtain⟨its,r,p,_⟩:=I.tuple q
   obtain⟨cu,r',p',_⟩:=I.tuple q'
   have hn:dO ds+1<=n:=hn
   have l1:its.length=ds.length:=by rw[<-r.length,l.length]
   have l2:cu.length=es.length:=by rw[<-r'.length,l'.length]
   have R:=SeqAt.RcAt.tuples (A:=A) (s:=s) (e:=λj=>(nL ds es).getD j true) p p' (by lia) λj h1 h2=>by
    have i4:j<its.length:=by simpa using h1
    have iB:j<cu.length:=by simpa using h2
    have:=rq I ds es xs ys its cu A.in1 (n - 1) (by lia) (by show A.units+1+(n - 1)<cLine;lia) l l' r r' j i4 iB
    simpa using this
   have E:=SeqAt.EqAt.of_refs (λz=>same (by rw[z])) R
   rw[bg,bg,l1,l2,nM] at E
   exact E
 |.lst ds,.lst es,x,y,u,v,A,n,hn,hu,h,g,rx,ry=>by
  by_cases same:x=y
  .subst same
   cases At.inj I _ _ x h g
   rw[xj]
   obtain⟨a,xs,rfl,_⟩:=h
   cases rx
   cases ry
   exact SeqAt.EqAt.same _
  .obtain⟨a,xs,rfl,q,l⟩:=h
   obtain⟨b,ys,rfl,q',l'⟩:=g
   cases rx
   cases ry
   obtain⟨its,r,p,_⟩:=I.list q
   obtain⟨cu,r',p',_⟩:=I.list q'
   have hn:dO ds+1<=n:=hn
   have l1:its.length=ds.length:=by rw[<-r.length,l.length]
   have l2:cu.length=es.length:=by rw[<-r'.length,l'.length]
   refine SeqAt.EqAt.of_refs (λz=>same (by rw[z])) ?_
   show SeqAt.RcAt A s (.ref a) (.ref b) (gZ ds es)
   rw[<-nM ds es]
   by_cases hl:ds.length=es.length
   .have R:=SeqAt.RcAt.lists (A:=A) (s:=s) (e:=λj=>(nL ds es).getD j true) p.isList p'.isList (by rw[bg,bg,l1,l2,hl]) (by lia) λj h1 h2=>by
     have i4:j<its.length:=by simpa using h1
     have iB:j<cu.length:=by simpa using h2
     have:=rq I ds es xs ys its cu A.in1 (n - 1) (by lia) (by show A.units+1+(n - 1)<cLine;lia) l l' r r' j i4 iB
     simpa using this
    rw[bg,l1] at R
    rw[<-hl,Nat.min_self,zF,zG]
    exact R
   .have R:=SeqAt.RcAt.lists_lengths (A:=A) (s:=s) p.isList p'.isList (by rw[bg,bg,l1,l2];simpa using hl) (by lia)
    rw[show(ds.length==es.length)=false by simpa using hl,m5]
    exact R
 |.tup ds,.lst es,x,y,u,v,A,n,hn,hu,h,g,rx,ry=>by
  obtain⟨a,xs,rfl,q,l⟩:=h
  obtain⟨b,ys,rfl,q',l'⟩:=g
  cases rx
  cases ry
  obtain⟨its,r,p,_⟩:=I.tuple q
  obtain⟨cu,r',p',_⟩:=I.list q'
  exact SeqAt.EqAt.tuple_list p p'.isList (by lia)
 |.lst ds,.tup es,x,y,u,v,A,n,hn,hu,h,g,rx,ry=>by
  obtain⟨a,xs,rfl,q,l⟩:=h
  obtain⟨b,ys,rfl,q',l'⟩:=g
  cases rx
  cases ry
  obtain⟨its,r,p,_⟩:=I.list q
  obtain⟨cu,r',p',_⟩:=I.tuple q'
  exact SeqAt.EqAt.list_tuple p.isList p' (by lia)
 |.aB,.aB,x,y,u,v,A,n,hn,hu,h,g,rx,ry=>by cases(show x=_ from h);cases(show y=_ from g);exact gG rx ry rfl rfl
 |.aB,.bl _,x,y,u,v,A,n,hn,hu,h,g,rx,ry=>by cases(show x=_ from h);cases(show y=_ from g);exact gG rx ry rfl rfl
 |.aB,.int _,x,y,u,v,A,n,hn,hu,h,g,rx,ry=>by cases(show x=_ from h);cases(show y=_ from g);exact gG rx ry rfl rfl
 |.aB,.str _,x,y,u,v,A,n,hn,hu,h,g,rx,ry=>by cases(show x=_ from h);cases(show y=_ from g);exact gG rx ry rfl rfl
 |.bl _,.aB,x,y,u,v,A,n,hn,hu,h,g,rx,ry=>by cases(show x=_ from h);cases(show y=_ from g);exact gG rx ry rfl rfl
 |.bl _,.bl _,x,y,u,v,A,n,hn,hu,h,g,rx,ry=>by cases(show x=_ from h);cases(show y=_ from g);exact gG rx ry rfl rfl
 |.bl _,.int _,x,y,u,v,A,n,hn,hu,h,g,rx,ry=>by cases(show x=_ from h);cases(show y=_ from g);exact gG rx ry rfl rfl
 |.bl _,.str _,x,y,u,v,A,n,hn,hu,h,g,rx,ry=>by cases(show x=_ from h);cases(show y=_ from g);exact gG rx ry rfl rfl
 |.int _,.aB,x,y,u,v,A,n,hn,hu,h,g,rx,ry=>by cases(show x=_ from h);cases(show y=_ from g);exact gG rx ry rfl rfl
 |.int _,.bl _,x,y,u,v,A,n,hn,hu,h,g,rx,ry=>by cases(show x=_ from h);cases(show y=_ from g);exact gG rx ry rfl rfl
 |.int _,.int _,x,y,u,v,A,n,hn,hu,h,g,rx,ry=>by cases(show x=_ from h);cases(show y=_ from g);exact gG rx ry rfl rfl
 |.int _,.str _,x,y,u,v,A,n,hn,hu,h,g,rx,ry=>by cases(show x=_ from h);cases(show y=_ from g);exact gG rx ry rfl rfl
 |.str _,.aB,x,y,u,v,A,n,hn,hu,h,g,rx,ry=>by cases(show x=_ from h);cases(show y=_ from g);exact gG rx ry rfl rfl
 |.str _,.bl _,x,y,u,v,A,n,hn,hu,h,g,rx,ry=>by cases(show x=_ from h);cases(show y=_ from g);exact gG rx ry rfl rfl
 |.str _,.int _,x,y,u,v,A,n,hn,hu,h,g,rx,ry=>by cases(show x=_ from h);cases(show y=_ from g);exact gG rx ry rfl rfl
 |.str _,.str _,x,y,u,v,A,n,hn,hu,h,g,rx,ry=>by cases(show x=_ from h);cases(show y=_ from g);exact gG rx ry rfl rfl
 |.tup ds,.aB,x,y,u,v,A,n,hn,hu,⟨a,xs,z,q,l⟩,g,rx,ry=>by subst z;cases rx;cases(show y=_ from g);cases ry;obtain⟨its,r,p,_⟩:=I.tuple q;exact SeqAt.EqAt.tuple_none p (by lia)
 |.tup ds,.bl _,x,y,u,v,A,n,hn,hu,⟨a,xs,z,q,l⟩,g,rx,ry=>by subst z;cases rx;cases(show y=_ from g);cases ry;obtain⟨its,r,p,_⟩:=I.tuple q;exact SeqAt.EqAt.tuple_bool _ p (by lia)
 |.tup ds,.int _,x,y,u,v,A,n,hn,hu,⟨a,xs,z,q,l⟩,g,rx,ry=>by subst z;cases rx;cases(show y=_ from g);obtain⟨t,rfl⟩:=ry;obtain⟨its,r,p,_⟩:=I.tuple q;exact SeqAt.EqAt.tuple_int _ _ p (by lia)
 |.tup ds,.str _,x,y,u,v,A,n,hn,hu,⟨a,xs,z,q,l⟩,g,rx,ry=>by subst z;cases rx;cases(show y=_ from g);obtain⟨t,rfl⟩:=ry;obtain⟨its,r,p,_⟩:=I.tuple q;exact SeqAt.EqAt.tuple_str _ _ p (by lia)
 |.lst ds,.aB,x,y,u,v,A,n,hn,hu,⟨a,xs,z,q,l⟩,g,rx,ry=>by subst z;cases rx;cases(show y=_ from g);cases ry;obtain⟨its,r,p,_⟩:=I.list q;exact SeqAt.EqAt.list_none p.isList (by lia)
 |.lst ds,.bl _,x,y,u,v,A,n,hn,hu,⟨a,xs,z,q,l⟩,g,rx,ry=>by subst z;cases rx;cases(show y=_ from g);cases ry;obtain⟨its,r,p,_⟩:=I.list q;exact SeqAt.EqAt.list_bool _ p.isList (by lia)
 |.lst ds,.int _,x,y,u,v,A,n,hn,hu,⟨a,xs,z,q,l⟩,g,rx,ry=>by subst z;cases rx;cases(show y=_ from g);obtain⟨t,rfl⟩:=ry;obtain⟨its,r,p,_⟩:=I.list q;exact SeqAt.EqAt.list_int _ _ p.isList (by lia)
 |.lst ds,.str _,x,y,u,v,A,n,hn,hu,⟨a,xs,z,q,l⟩,g,rx,ry=>by subst z;cases rx;cases(show y=_ from g);obtain⟨t,rfl⟩:=ry;obtain⟨its,r,p,_⟩:=I.list q;exact SeqAt.EqAt.list_str _ _ p.isList (by lia)
 |.aB,.tup ds,x,y,u,v,A,n,hn,hu,g,⟨a,xs,z,q,l⟩,rx,ry=>by subst z;cases ry;cases(show x=_ from g);cases rx;obtain⟨its,r,p,_⟩:=I.tuple q;exact SeqAt.EqAt.none_tuple p (by lia)
 |.bl _,.tup ds,x,y,u,v,A,n,hn,hu,g,⟨a,xs,z,q,l⟩,rx,ry=>by subst z;cases ry;cases(show x=_ from g);cases rx;obtain⟨its,r,p,_⟩:=I.tuple q;exact SeqAt.EqAt.bool_tuple _ p (by lia)
 |.int _,.tup ds,x,y,u,v,A,n,hn,hu,g,⟨a,xs,z,q,l⟩,rx,ry=>by subst z;cases ry;cases(show x=_ from g);obtain⟨t,rfl⟩:=rx;obtain⟨its,r,p,_⟩:=I.tuple q;exact SeqAt.EqAt.int_tuple _ _ p (by lia)
 |.str _,.tup ds,x,y,u,v,A,n,hn,hu,g,⟨a,xs,z,q,l⟩,rx,ry=>by subst z;cases ry;cases(show x=_ from g);obtain⟨t,rfl⟩:=rx;obtain⟨its,r,p,_⟩:=I.tuple q;exact SeqAt.EqAt.str_tuple _ _ p (by lia)
 |.aB,.lst ds,x,y,u,v,A,n,hn,hu,g,⟨a,xs,z,q,l⟩,rx,ry=>by subst z;cases ry;cases(show x=_ from g);cases rx;obtain⟨its,r,p,_⟩:=I.list q;exact SeqAt.EqAt.none_list p.isList (by lia)
 |.bl _,.lst ds,x,y,u,v,A,n,hn,hu,g,⟨a,xs,z,q,l⟩,rx,ry=>by subst z;cases ry;cases(show x=_ from g);cases rx;obtain⟨its,r,p,_⟩:=I.list q;exact SeqAt.EqAt.bool_list _ p.isList (by lia)
 |.int _,.lst ds,x,y,u,v,A,n,hn,hu,g,⟨a,xs,z,q,l⟩,rx,ry=>by subst z;cases ry;cases(show x=_ from g);obtain⟨t,rfl⟩:=rx;obtain⟨its,r,p,_⟩:=I.list q;exact SeqAt.EqAt.int_list _ _ p.isList (by lia)
 |.str _,.lst ds,x,y,u,v,A,n,hn,hu,g,⟨a,xs,z,q,l⟩,rx,ry=>by subst z;cases ry;cases(show x=_ from g);obtain⟨t,rfl⟩:=rx;obtain⟨its,r,p,_⟩:=I.list q;exact SeqAt.EqAt.str_list _ _ p.isList (by lia)
theorem rq(I:Inv X pins O H s):∀(ds es:List D) (xs ys:List V) (us vs:List Value) (A:Around) (n:Nat),dO ds<=n->A.units+n<cLine->dh X.K H ds xs->dh X.K H es ys->Vals xs us->Vals ys vs->
  ∀(j:Nat) (h1:j<us.length) (h2:j<vs.length),SeqAt.EqAt A s us[j] vs[j] ((nL ds es).getD j true)
 |[],es,xs,ys,us,vs,A,n,hn,hu,h,g,r,r',j,h1,h2=>by
  rw[show xs=[] from h] at r
  cases r
  cases h1
 |d::ds,[],xs,ys,us,vs,A,n,hn,hu,h,g,r,r',j,h1,h2=>by
  rw[show ys=[] from g] at r'
  cases r'
  cases h2
 |d::ds,e::es,xs,ys,us,vs,A,n,hn,hu,⟨x,q,z,h,t⟩,⟨y,q',z',h',t'⟩,r,r',j,h1,h2=>by
  subst z
  subst z'
  have hn:max (dep d) (dO ds)<=n:=hn
  cases r with
  |cons r0 r1=>
   cases r' with
   |cons Wl Wm=>
    cases j with
    |zero=>exact LS I d e x y _ _ A n (by lia) hu h h' r0 Wl
    |succ j=>exact rq I ds es q q' _ _ A n (by lia) hu t t' r1 Wm j (Nat.lt_of_succ_lt_succ h1) (Nat.lt_of_succ_lt_succ h2)
end
def LU(K:Frag)(neg:Bool):R2:=λx y H Q=>∃d e,At K H d x/\At K H e y/\((∃ds es,d = .tup ds/\e = .tup es)\/(∃ds es,d = .lst ds/\e = .lst es))/\dep d<=50/\Q (.bl (if neg then !dH d e else dH d e)) H
end
section
variable{X:Cx}
theorem LV(hu:X.A.units+64<cLine):cK X (compareOp .Eq) (LU X.K false):=by
 intro pins s O H x y v u Q I rx ry h
 obtain⟨d,e,h1,h2,hk,hd,q⟩:=h
 have q:Q (.bl (dH d e)) H:=q
 rcases hk with ⟨ds,es,rfl,rfl⟩ | ⟨ds,es,rfl,rfl⟩
 .obtain⟨a,xs,rfl,p,l⟩:=h1
  obtain⟨b,ys,rfl,p',l'⟩:=h2
  cases rx
  cases ry
  obtain⟨its,r,t,_⟩:=I.tuple p
  obtain⟨cu,r',t',_⟩:=I.tuple p'
  have hd:dO ds+1<=50:=hd
  have l1:its.length=ds.length:=by rw[<-r.length,l.length]
  have l2:cu.length=es.length:=by rw[<-r'.length,l'.length]
  refine SeqAt.eq_tupleAt (e:=λj=>(nL ds es).getD j true) t t' (by lia) (λj h1 h2=>?_) ⟨.bl (gZ ds es),H,I,?_,q⟩
  .have i4:j<its.length:=by simpa using h1
   have iB:j<cu.length:=by simpa using h2
   have:=rq I ds es xs ys its cu X.A.in1 49 (by lia) (by show X.A.units+1+49<cLine;lia) l l' r r' j i4 iB
   simpa using this
  .show Value.bool _=Value.bool _
   rw[bg,bg,l1,l2,nM]
 .obtain⟨a,xs,rfl,p,l⟩:=h1
  obtain⟨b,ys,rfl,p',l'⟩:=h2
  cases rx
  cases ry
  obtain⟨its,r,t,_⟩:=I.list p
  obtain⟨cu,r',t',_⟩:=I.list p'
  have hd:dO ds+1<=50:=hd
  have l1:its.length=ds.length:=by rw[<-r.length,l.length]
  have l2:cu.length=es.length:=by rw[<-r'.length,l'.length]
  by_cases hl:ds.length=es.length
  .refine SeqAt.eq_listAt (e:=λj=>(nL ds es).getD j true) t.isList t'.isList (by rw[bg,bg,l1,l2,hl]) (by lia) (λj h1 h2=>?_) ⟨.bl (gZ ds es),H,I,?_,q⟩
   .have i4:j<its.length:=by simpa using h1
    have iB:j<cu.length:=by simpa using h2
    have:=rq I ds es xs ys its cu X.A.in1 49 (by lia) (by show X.A.units+1+49<cLine;lia) l l' r r' j i4 iB
    simpa using this
   .show Value.bool _=Value.bool _
    rw[bg,l1,<-nM ds es,<-hl,Nat.min_self,zF,zG]
  .refine SeqAt.eq_list_lengthsAt t.isList t'.isList (by rw[bg,bg,l1,l2];simpa using hl) (by lia) ⟨.bl (gZ ds es),H,I,?_,q⟩
   show Value.bool _=Value.bool _
   rw[<-nM ds es,show(ds.length==es.length)=false by simpa using hl,m5]
theorem LW(hu:X.A.units+64<cLine):cK X (compareOp .NotEq) (LU X.K true):=by
 intro pins s O H x y v u Q I rx ry h
 obtain⟨d,e,h1,h2,hk,hd,q⟩:=h
 have q:Q (.bl (!dH d e)) H:=q
 rcases hk with ⟨ds,es,rfl,rfl⟩ | ⟨ds,es,rfl,rfl⟩
 .obtain⟨a,xs,rfl,p,l⟩:=h1
  obtain⟨b,ys,rfl,p',l'⟩:=h2
  cases rx
  cases ry
  obtain⟨its,r,t,_⟩:=I.tuple p
  obtain⟨cu,r',t',_⟩:=I.tuple p'
  have hd:dO ds+1<=50:=hd
  have l1:its.length=ds.length:=by rw[<-r.length,l.length]
  have l2:cu.length=es.length:=by rw[<-r'.length,l'.length]
  refine SeqAt.RcNeAt.tuples (e:=λj=>(nL ds es).getD j true) t t' (by lia) (λj h1 h2=>?_) X.prog X.w X.xe _ ⟨.bl (!gZ ds es),H,I,?_,q⟩
  .have i4:j<its.length:=by simpa using h1
   have iB:j<cu.length:=by simpa using h2
   have:=rq I ds es xs ys its cu X.A.in1 49 (by lia) (by show X.A.units+1+49<cLine;lia) l l' r r' j i4 iB
   simpa using this
  .show Value.bool _=Value.bool _
   rw[bg,bg,l1,l2,nM]
 .obtain⟨a,xs,rfl,p,l⟩:=h1
  obtain⟨b,ys,rfl,p',l'⟩:=h2
  cases rx
  cases ry
  obtain⟨its,r,t,_⟩:=I.list p
  obtain⟨cu,r',t',_⟩:=I.list p'
  have hd:dO ds+1<=50:=hd
  have l1:its.length=ds.length:=by rw[<-r.length,l.length]
  have l2:cu.length=es.length:=by rw[<-r'.length,l'.length]
  by_cases hl:ds.length=es.length
  .refine SeqAt.RcNeAt.lists (e:=λj=>(nL ds es).getD j true) t.isList t'.isList (by rw[bg,bg,l1,l2,hl]) (by lia) (λj h1 h2=>?_) X.prog X.w X.xe _ ⟨.bl (!gZ ds es),H,I,?_,q⟩
   .have i4:j<its.length:=by simpa using h1
    have iB:j<cu.length:=by simpa using h2
    have:=rq I ds es xs ys its cu X.A.in1 49 (by lia) (by show X.A.units+1+49<cLine;lia) l l' r r' j i4 iB
    simpa using this
   .show Value.bool _=Value.bool _
    rw[bg,l1,<-nM ds es,<-hl,Nat.min_self,zF,zG]
  .refine SeqAt.RcNeAt.lists_lengths t.isList t'.isList (by rw[bg,bg,l1,l2];simpa using hl) (by lia) X.prog X.w X.xe _ ⟨.bl (!gZ ds es),H,I,?_,q⟩
   show Value.bool _=Value.bool _
   rw[<-nM ds es,show(ds.length==es.length)=false by simpa using hl,m5]
   rfl
end
def b0:bootBuiltins "len"=some (.builtin "len"):=by decide +kernel
def LX:bootBuiltins "all"=some (.builtin "all"):=by decide +kernel
def pF:bootBuiltins "isinstance"=some (.builtin "isinstance"):=by decide +kernel
def xk:bootBuiltins "sorted"=some (.builtin "sorted"):=by decide +kernel
def rC:bootBuiltins "tuple"=some (.type "tuple"):=by decide +kernel
def pG:bootBuiltins "list"=some (.type "list"):=by decide +kernel
def LY:bootBuiltins "str"=some (.type "str"):=by decide +kernel
def LZ:bootBuiltins "int"=some (.type "int"):=by decide +kernel
def Wn:bootBuiltins "bool"=some (.type "bool"):=by decide +kernel
structure Fn(P:Program)(w:World)(K:Frag)(mg:Str->Option Value)(base:Heap)(x:Str)(k:Nat)(sp:Sp):Prop where
 ex:∃(f:Addr) (fd:FuncData) (ps:List Str),aO P w K mg base aQ k f fd ps sp/\mg x=some (.ref f)/\keepIn K (.ref f)=true/\Binds K fd ps []
section
variable{X:Cx}{x:Str}{p pos:Pos}{e:Expr}{es:List Expr}{t:TA}{sp:Sp}{k:Nat}
theorem aY{m:Nat}(F:Fn X.prog X.w X.K X.mg X.base x k sp)(hr:cw m X.A)(ha:PA X (e::es) t)(hle:k<=m:=by first | decide | lia)(hg:Gl X x:=by rfl)(gD:(x==("__debug__":Str))=false:=by decide)
  (he:starEach (e::es) X.env=(false,eval e X.env)::starEach es X.env:=by rfl) (bj:(backTo pos (starEach es X.env)).any (·.1)=false:=by rfl):PE X (.Call (.Name x p) (e::es) [] pos) (KW sp [] E0 t):=by
 obtain⟨f,fd,ps,G,hm,hk,hb⟩:=F.ex
 exact UO G (hr.mono hle) hg hm hk hb .nil xf ha gD he bj
end
def Cn(mg:Str->Option Value)(x:Str)(v:V):Prop := ∃u,mg x=some u/\RelV v u
def kT{X:Cx}{x:Str}{v:V}{pos:Pos}(h:Cn X.mg x v)(hg:Gl X x)(hd:(x==("__debug__":Str))=false:=by decide):PE X (.Name x pos) (tC v):=by
 obtain⟨u,hm,r⟩:=h
 exact Ts hg hm r hd
def ua{X:Cx}:fL X (.builtin "isinstance") (λxs H Q=>∃x c t b,(xs=[x,.ty c]/\gU X.K H x t/\kitOne X.K t (.type c)=some b)/\Q (.bl b) H):=by
 intro pins s O H xs us Q I r h
 obtain⟨x,c,t,b,⟨rfl,ty,e⟩,q⟩:=h
 obtain⟨u,v,rfl,ru,rv⟩:=vals2 r
 cases rv
 exact KU I ru ty e λtk=>⟨.bl b,H,I.tok tk,rfl,q⟩
def Wo{K:Frag}{t:String}:kitOne K (.type t) (.type t)=some true:=by
 unfold kitOne
 rw[aA (by simp)]
def L0{X:Cx}(hc:X.calm=true):fL X (.builtin "all") (λxs H Q=>∃(a:Addr) (bs:List Bool),xs=[.ref a]/\ak X.K H a (bs.map V.bl)/\Q (.bl (bs.all id)) H):=by
 intro pins s O H xs us Q I r h
 obtain⟨l,bs,rfl,hq,q⟩:=h
 obtain⟨u,rfl,ru⟩:=vals1 r
 cases ru
 obtain⟨its,rv,pl,hz⟩:=I.list hq
 have hl:=pl.isList
 have hh:X.A.handled=none:=I.ok.hd hc
 have aM:l<s.heap.objs.size:=by obtain⟨_,e,_⟩:=hl;exact bF e
 have hlen:its.length=bs.length:=by rw[<-rv.length,aq]
 refine call_all_walk (sX hl ?_)
 refine⟨s.heap.objs.size,[s.heap.objs.size,l],[s.heap.objs.size],its.toArray.size,_,_,λi=>(bs[i]?).getD true,rfl,zH (A:=X.A.in1) hh _ l (bO aM) its.toArray,
  ⟨⟨_,cq _ rfl,rfl,rfl⟩,hl.push _⟩,λi v s' Q' E' hP hQ=>?_,λh' tk hk=>?_⟩
 .have hv:its[i]? = some v:=by simpa using hP
  have hi:i<bs.length:=by rw[<-hlen];exact(bP.mp hv).1
  obtain⟨u',e1,e2⟩:=rv.get (i:=i) (x:=V.bl bs[i]) (by simp[hi])
  rw[hv] at e1
  cases e1
  have e2:v=Value.bool bs[i]:=e2
  subst e2
  simp only[aS hi,oP] at hQ
  exact oJ hQ
 .have e:((List.range its.toArray.size).all λi=>(bs[i]?).getD true)=bs.all id:=by
   rw[bg,hlen];exact LSm.range_all bs
  rw[e]
  exact⟨.bl _,H,I.kept λb o e=>LSm.kept_iter hk b o e,rfl,q⟩
def Er{xs:List Str}:∀{us:List Value},Vals (xs.map V.str) us->StrsAre us xs:=by
 induction xs with
 |nil=>intro us h;cases h;exact .nil
 |cons x r ih=>
  intro us h
  cases h with
  |cons q t=>
   obtain⟨t',rfl⟩:=q
   exact .cons _ _ (ih t)
def rJoin(K:Frag):V->List V->Hp->VK->Prop:=λx vs H Q=>∃y a zs,x = .str y/\vs=[.ref a]/\(ak K H a (zs.map V.str)\/ax K H a (zs.map V.str))/\(zs.map (·.length)).sum+zs.length*y.length<=16777216/\Q (.str (Str.join y zs)) H
def AO{X:Cx}:Av X "str.join" (rJoin X.K):=by
 intro pins s O H x vs v us Q I rx rv h
 obtain⟨y,a,zs,rfl,rfl,hq,hz,q⟩:=h
 obtain⟨t,rfl⟩:=rx
 obtain⟨u,rfl,ru⟩:=rv.one
 cases ru
 have e:Txt.join y zs=Str.join y zs:=StrLaws.glued_eq_join y zs
 rcases hq with hq | hq
 .obtain⟨its,r,pl,_⟩:=I.list hq
  refine join_list pl.isList (by simpa using Er r) hz λt' k=>⟨.str (Str.join y zs),H,I.tok k,⟨t',by rw[e]⟩,q⟩
 .obtain⟨its,r,pl,_⟩:=I.tuple hq
  refine join_tuple pl (by simpa using Er r) hz λt' k=>⟨.str (Str.join y zs),H,I.tok k,⟨t',by rw[e]⟩,q⟩
noncomputable def Es(x:Str):It:=⟨λi _=>i<x.cps.size,λi H v H'=>H'=H/\∃c,x.cps.toList[i]? = some c/\v = .str ⟨#[c]⟩,λi _=>i=x.cps.size⟩
def Wq(x:Str):["enumerate","zip","dict_itemiterator","dict_reverseitemiterator","odict_iterator","itertools.zip_longest","itertools.pairwise"].contains (strIterType x)=false:=by
 unfold strIterType
 split <;> decide
def L3{prog:Program}{w:World}{A:Around}(hh:A.handled=none)(I:Addr)(x:Str)(t:Tok):Walks prog w A I [I] [I] x.cps.size (SignAt x) (λi h=>h.IsStrIter I (strIterType x) x t i):=by
 unfold strIterType
 split
 .exact Walks.strAscii hh I x t
 .exact Walks.strWide hh I x t
def Wr{prog:Program}{w:World}{A:Around}{I:Addr}{x:Str}{t:Tok}{i:Nat}{s:Shared}{Q:Value->Shared->Prop}{E:Value->Shared->Prop}(h:s.heap.IsStrIter I (strIterType x) x t i)(q:Q (.ref I) s):wpAny (model prog w) A (pyIter (.ref I)) Q E s:=by
 unfold strIterType at h
 split at h
 .exact wpAny_pyIter_striter_ascii h q
 .exact wpAny_pyIter_striter_wide h q
def Ws{P:Program}{w:World}{K:Frag}{tg:Expr}(x:Str)(t:Tok)(it:Addr):Turn P w K tg (Es x) [it] it (λi h=>h.IsStrIter it (strIterType x) x t i) where
 mem:=by simp
 obj:=λi h st b hb=>by
  have e:b=it:=by simpa using hb
  subst e
  obtain⟨o,e,c,d⟩:=st
  exact⟨o,e,λv z=>by rw[d] at z;cases z⟩
 keep:=λi h h' st k=>let ⟨o,ho,r⟩:=st;⟨o,k it (by simp) o ho,r⟩
 item:=by
  intro X hP hw hK hc i pins s O H E I hf st hg
  subst hP hw hK
  obtain⟨f0,f1,f2,f3,f4,f5⟩:=hf it (by simp)
  have W:=L3 (prog:=X.prog) (w:=X.w) (I.ok.hd hc) it x t
  refine W.item i s _ _ hg st λv h' tk hv eP kk=>?_
  obtain⟨c,u,xl,rfl⟩:=hv
  have I1:Inv X pins O H { s with heap:=h',toks:=tk }:=I.turned (λb o hb e=>kk b o (by simpa using hb) e) f0 f1 f3 f4 f5
  obtain⟨o,e1,e2,e3⟩:=id eP
  refine⟨_,rfl,tM (s:={ s with heap:=h',toks:=tk }) (n:=strIterType x) e1 e2 e3 (Wq x) ⟨.str ⟨#[c]⟩,H,I1,⟨u,rfl⟩,⟨rfl,c,by simpa using xl,rfl⟩,eP,λb hb=>(hf b hb).1⟩⟩
 done:=by
  intro X hP hw hK hc i pins s O H E I hf st hg
  subst hP hw hK
  obtain⟨f0,f1,f2,f3,f4,f5⟩:=hf it (by simp)
  have hg:i=x.cps.size:=hg
  subst hg
  have W:=L3 (prog:=X.prog) (w:=X.w) (I.ok.hd hc) it x t
  exact W.done s _ _ st λh' tk kk=>⟨rfl,I.turned (λb o hb e=>kk b o (by simpa using hb) e) f0 f1 f3 f4 f5⟩
 self:=λ_ _ _ _ _ st h=>Wr st h
def Wt(tl:TE):TI:=λO H R=>tl O H λx H1=>∃z,x = .str z/\R (Es z) H1
def L4{X:Cx}{tg l:Expr}{tl:TE}(hl:PE X l tl):PI X tg l (Wt tl):=by
 intro pins s O H R I h
 refine aE (hl pins s O H _ I h) λv s1 ⟨x,H1,I1,r1,q1⟩=>?_
 obtain⟨z,e,q⟩:=q1
 subst e
 obtain⟨t,rfl⟩:=r1
 refine wpAny_pyIter_strU ?_
 refine⟨s1.heap.objs.size,[s1.heap.objs.size],_,_,H1,rfl,I1.kept (t':=s1.toks) λb o e=>bx _ e,Ws z t _,⟨_,cq _ rfl,rfl,rfl⟩,λb hb=>?_,q⟩
 have e:b=s1.heap.objs.size:=by simpa using hb
 subst e
 exact I1.jO (aN _) I1.fresh
structure nN(J:It)(Ok:Hp->Prop)(vs:List V):Prop where
 go:∀i H,Ok H->i<vs.length->J.go i H
 gw:∀i H x H',Ok H->i<vs.length->J.gw i H x H'->H'=H/\vs[i]? = some x
 stop:∀H,Ok H->J.stop vs.length H
def jv{K:Frag}{a:Addr}{xs:List V}:nN (qS K a) (λH=>ak K H a xs) xs:=
 ⟨λi H h hi=>⟨xs,xs[i],h,by simp[hi]⟩,λi H x H' h _ y=>⟨y.1,y.2 xs h⟩,λH h=>⟨xs,h,aN _⟩⟩
def Et{K:Frag}{a:Addr}{xs:List V}:nN (tN K a) (λH=>ax K H a xs) xs:=
 ⟨λi H h hi=>⟨xs,xs[i],h,by simp[hi]⟩,λi H x H' h _ y=>⟨y.1,y.2 xs h⟩,λH h=>⟨xs,h,aN _⟩⟩
def L5{lo:Int}{n:Nat}:nN (lU lo n) (λ_=>True) ((List.range n).map λ(i:Nat)=>V.int (lo+(i:Int))):=
 ⟨λi H _ hi=>(by simpa using hi:i<n),λi H x H' _ hi y=>⟨y.1,by
  obtain⟨_,e⟩:=y
  subst e
  have hi:i<n:=by simpa using hi
  simp[hi]⟩,λH _=>(by simp:n<=((List.range n).map λ(i:Nat)=>V.int (lo+(i:Int))).length)⟩
def L6{x:Str}:nN (Es x) (λ_=>True) (x.cps.toList.map λc=>V.str ⟨#[c]⟩):=
 ⟨λi H _ hi=>(by simpa using hi:i<x.cps.size),λi H v H' _ _ y=>⟨y.1,by
  obtain⟨_,c,e1,e2⟩:=y
  rw[bq,e1,e2]
  all_goals rfl⟩,λH _=>(by simp:(x.cps.toList.map λc=>V.str ⟨#[c]⟩).length=x.cps.size)⟩
theorem L7{J:It}{Ok:Hp->Prop}{vs:List V}{g:TG}{tb:TS}{D:Ends}{O:St}{H:Hp}(S:nN J Ok vs)(Pv:Nat->St->Hp->Prop)(h0:Pv 0 O H)(aD:∀i O H,i<=vs.length->Pv i O H->Ok H)
  (hs:∀i x O H,vs[i]? = some x->Pv i O H->g x O H λO2 H2=>tb { D with nx:=Pv (i+1),ct:=Pv (i+1),bk:=D.nx } O2 H2) (hd:∀O H,Pv vs.length O H->D.nx O H) :
  ∃W:Nat->Nat->St->Hp->Prop,(∃m,W 0 m O H)/\∀i m O H,W i m O H->
   (J.stop i H/\D.nx O H)\/(J.go i H/\∃N:St->Hp->Prop,(∀O' H',N O' H'->∃m',m'<m/\W (i+1) m' O' H')/\∀x H',J.gw i H x H'->g x O H' λO2 H2=>tb { D with nx:=N,ct:=N,bk:=D.nx } O2 H2):=by
 refine⟨λi m O H=>m=vs.length - i/\i<=vs.length/\Pv i O H,⟨vs.length,by simp,bA _,h0⟩,?_⟩
 rintro i m O H ⟨rfl,hi,p⟩
 have q:=aD i O H hi p
 by_cases aM:i<vs.length
 .refine .inr ⟨S.go i H q aM,Pv (i+1),λO' H' p'=>⟨vs.length - (i+1),by lia,rfl,aM,p'⟩,λx H' y=>?_⟩
  obtain⟨e,yy⟩:=S.gw i H x H' q aM y
  subst e
  exact hs i x O _ yy p
 .have e:i=vs.length:=by lia
  subst e
  exact .inl ⟨S.stop H q,hd O H p⟩
theorem l7{J:It}{Ok:Hp->Prop}{vs:List V}{js:List Nat}{tt:TT}{te:TE}{O:St}{H1:Hp}{Q:VK}(S:nN J Ok vs)(hn:vs.length<=15752961)(p:Nat->Bool)(F:Addr->Nat->V->Hp->Prop)(aD:∀H,af H1 H->Ok H)
  (mono:∀D i y H H',H1 D=none->(∃o,H D=some (.lst o))->(∀b o,b≠D->H b=some o->H' b=some o)->F D i y H->F D i y H')
  (hs:∀D i x H (Z0:Hp->Prop) (Z:V->Hp->Prop),H1 D=none->vs[i]? = some x->af H1 H->(∃o,H D=some (.lst o))->(∀H2,af H H2->p i=false->Z0 H2)->(∀y H2,af H H2->p i=true->F D i y H2->Z y H2)->
   tt (some x::fw js O) H λb H2=>if b=true then te (some x::fw js O) H2 Z else Z0 H2)
  (hd:∀D ys H,H1 D=none->H D=some (.lst ys)->af H1 H->Paired (λi y=>F D i y H) ((List.range vs.length).filter p) ys->Q (.ref D) H):Eh js tt te O J H1 Q:=by
 intro D hD
 have hz:15752961<sizeLine:=by decide
 refine⟨λi m H=>m=vs.length - i/\i<=vs.length/\∃ys,H D=some (.lst ys)/\af H1 H/\Paired (λi y=>F D i y H) ((List.range i).filter p) ys,⟨vs.length,by simp,bA _,[],au,af.upd hD,.nil⟩,?_⟩
 rintro i m H ⟨rfl,hi,ys,bw,sm,pr⟩
 have q:=aD H sm
 by_cases aM:i<vs.length
 .refine .inr ⟨S.go i H q aM,λx H' y=>?_⟩
  obtain⟨e,yy⟩:=S.gw i H x H' q aM y
  subst e
  have jK:List.range (i+1)=List.range i++[i]:=ku
  have ln:ys.length<=i:=by
   have h1:=pr.length
   have h2:((List.range i).filter p).length<=(List.range i).length:=ji _ _
   rw[gR] at h2
   lia
  refine hs D i x H' _ _ hD yy sm ⟨ys,bw⟩ (λH2 s2 hp=>?_) (λz H2 s2 hp hF=>?_)
  .refine⟨vs.length - (i+1),by lia,rfl,aM,ys,s2 _ _ bw,sm.trans s2,?_⟩
   rw[jK,kD,dF,av (by rw[hp];exact bZ),oQ,iQ]
   exact Paired.bJ pr λj z f=>mono D j z H' H2 hD ⟨ys,bw⟩ (λb o _ e=>s2 b o e) f
  .refine⟨ys,s2 _ _ bw,by lia,vs.length - (i+1),by lia,rfl,aM,ys++[z],au,(sm.trans s2).jV hD,?_⟩
   have up:∀b o,b≠D->H2 b=some o->upd H2 D (.lst (ys++[z])) b=some o:=λb o hb e=>by rw[ao hb];exact e
   rw[jK,kD,dF,aA hp,oQ]
   refine m6 (Paired.bJ pr λj z' f=>?_) (mono D i z H2 _ hD ⟨ys,s2 _ _ bw⟩ up hF)
   exact mono D j z' H2 _ hD ⟨ys,s2 _ _ bw⟩ up (mono D j z' H' H2 hD ⟨ys,bw⟩ (λb o _ e=>s2 b o e) f)
 .have e:i=vs.length:=by lia
  subst e
  exact .inl ⟨S.stop H q,hd D ys H hD bw sm pr⟩
def comp_map{J:It}{Ok:Hp->Prop}{vs:List V}{js:List Nat}{te:TE}{O:St}{H1:Hp}{Q:VK}(S:nN J Ok vs)(hn:vs.length<=15752961)(F:Addr->Nat->V->Hp->Prop)(aD:∀H,af H1 H->Ok H)
  (mono:∀D i y H H',H1 D=none->(∃o,H D=some (.lst o))->(∀b o,b≠D->H b=some o->H' b=some o)->F D i y H->F D i y H')
  (hs:∀D i x H (Z:V->Hp->Prop),H1 D=none->vs[i]? = some x->af H1 H->(∃o,H D=some (.lst o))->(∀y H2,af H H2->F D i y H2->Z y H2)->te (some x::fw js O) H Z)
  (hd:∀D ys H,H1 D=none->H D=some (.lst ys)->af H1 H->Paired (λi y=>F D i y H) (List.range vs.length) ys->Q (.ref D) H):Eh js LJ te O J H1 Q:=by
 refine l7 S hn (λ_=>true) F aD mono (λD i x H Z0 Z h1 h2 h3 h4 _ k1=>bt (B:=Z0 H) (hs D i x H Z h1 h2 h3 h4 λy H2 s f=>k1 y H2 s rfl f)) λD ys H h1 h2 h3 pr=>hd D ys H h1 h2 h3 ?_
 rw[List.filter_eq_self.mpr (λ_ _=>rfl)] at pr
 exact pr
def Wu:V->Option Int->Option Int->Hp->VK->Prop:=λx lo hi H Q=>∃z,x = .str z/\z.length<=sizeLine/\Q (.str (Txt.slice z lo hi)) H
def part_of{v:Value}{o:Option Int}(p:IsPart v o):∃l:Option (Int×Tok),v=partValue l/\l.map (·.1)=o:=by
 cases p with
 |none=>exact⟨none,rfl,rfl⟩
 |int i t=>exact⟨some (i,t),rfl,rfl⟩
def ub{X:Cx}:DU X Wu:=by
 intro pins s O H x v vl vu lo hi sl Q I rx hs pl pu h
 obtain⟨z,rfl,hz,q⟩:=h
 obtain⟨t,rfl⟩:=rx
 obtain⟨l,rfl,rfl⟩:=part_of pl
 obtain⟨u,rfl,rfl⟩:=part_of pu
 exact⟨"str",_,F.slot_str_getitem.lookup,typeIs_str _ _ _,wpAny_getItem_str_slice (l:=l) (u:=u) (st:=none) hs rfl
  (post_val_or_str ⟨bL (wg z _ _) hz,λt' k=>⟨.str (Txt.slice z _ _),H,I.tok k,⟨t',rfl⟩,q⟩⟩)⟩
def nO{n:Nat}{g:TG}{tb:TS}{D:Ends}{O:St}{H:Hp}(Pv:Nat->St->Hp->Prop)(h0:Pv 0 O H)
  (hs:∀(i:Nat) O H,i<n->Pv i O H->g (.int (i:Int)) O H λO2 H2=>tb { D with nx:=Pv (i+1),ct:=Pv (i+1),bk:=D.nx } O2 H2) (hd:∀O H,Pv n O H->D.nx O H) :
  ∃W:Nat->Nat->St->Hp->Prop,(∃m,W 0 m O H)/\∀i m O H,W i m O H->
   ((lU 0 n).stop i H/\D.nx O H)\/((lU 0 n).go i H/\∃N:St->Hp->Prop,(∀O' H',N O' H'->∃m',m'<m/\W (i+1) m' O' H')/\∀x H',(lU 0 n).gw i H x H'->g x O H' λO2 H2=>tb { D with nx:=N,ct:=N,bk:=D.nx } O2 H2):=
 Ud Pv h0 (λi O H hi p=>by rw[zI];exact hs i O H hi p) hd
theorem uc{n k:Nat}(h:k<n):nE n (k:Int)=some k:=by
 unfold nE
 rw[aA (by lia),aA (by lia),fE]
theorem Paired.get{α β:Type}{R:α->β->Prop}:∀{l:List α}{m:List β}{i:Nat}{y:β},Paired R l m->m[i]? = some y->∃x,l[i]? = some x/\R x y
 |_,_,_,_,.nil,e=>by simp at e
 |_,_,0,_,.cons r _,e=>by simp at e;subst e;exact⟨_,rfl,r⟩
 |_,_,i+1,y,.cons _ t,e=>by
  obtain⟨x,h1,h2⟩:=Paired.get (i:=i) (y:=y) t (by simpa using e)
  exact⟨x,by simpa using h1,h2⟩
theorem Paired.getL{α β:Type}{R:α->β->Prop}:∀{l:List α}{m:List β}{i:Nat}{x:α},Paired R l m->l[i]? = some x->∃y,m[i]? = some y/\R x y
 |_,_,_,_,.nil,e=>by simp at e
 |_,_,0,_,.cons r _,e=>by simp at e;subst e;exact⟨_,rfl,r⟩
 |_,_,i+1,x,.cons _ t,e=>by
  obtain⟨y,h1,h2⟩:=Paired.getL (i:=i) (x:=x) t (by simpa using e)
  exact⟨y,by simpa using h1,h2⟩
theorem Paired.Eu{α β γ:Type}{R:α->β->Prop}{g:γ->α}:∀{l:List γ}{m:List β},Paired R (l.map g) m->Paired (λc y=>R (g c) y) l m
 |[],_,h=>by cases h;exact .nil
 |_::r,_,h=>by
  cases h with
  |cons h1 h2=>exact .cons h1 (Paired.Eu h2)
theorem Paired.pick{α β:Type}{R:α->β->Prop}:∀{cs:List α}{xs:List β}(_:Paired R cs xs) (q:α->Bool) (p:Nat->Bool) (_:∀i c,cs[i]? = some c->p i=q c) {ys:List β}
  (_:Paired (λ(i:Nat) y=>xs[i]? = some y) ((List.range xs.length).filter p) ys),Paired R (cs.filter q) ys
 |_,_,.nil,q,p,hp,ys,pr=>by
  have:ys=[]:=by cases pr;rfl
  rw[this]
  exact .nil
 |c::cs,x::xs,.cons h t,q,p,hp,ys,pr=>by
  have e0:p 0=q c:=hp 0 c rfl
  rw[cQ,JN,dF,tw] at pr
  have eI:∀i c',cs[i]? = some c'->(p∘Nat.succ) i=q c':=λi c' e=>hp (i+1) c' (by simpa using e)
  rw[dF]
  by_cases hq:q c=true
  .rw[e0,aA hq] at pr
   rw[aA hq]
   cases pr with
   |cons h1 h2=>
    have h1:some x=some _:=h1
    cases h1
    exact .cons h (Paired.pick t q (p∘Nat.succ) eI (Paired.bJ (Paired.Eu h2) λi y e=>by simpa using e))
  .rw[e0,av hq] at pr
   rw[av hq]
   exact Paired.pick t q (p∘Nat.succ) eI (Paired.bJ (Paired.Eu pr) λi y e=>by simpa using e)
def Wv(t:TS):TS:=λD O H=>∃I:St->Hp->Prop,(∀O' H',I O' H'->D.nx O' H')/\t { D with nx:=I } O H
def AQ{X:Cx}{st:Stmt}{t:TS}(h:PS X st t):PS X st (Wv t):=by
 intro pins s O H D I q
 obtain⟨J,hJ,q⟩:=q
 refine aE (h pins s O H _ I q) λf s' hs=>?_
 cases f with
 |next=>obtain⟨O',H',I',z⟩:=hs;exact⟨O',H',I',hJ _ _ z⟩
 |brk=>exact hs
 |cont=>exact hs
 |ret u=>exact hs
def xm:Slot "reversed" "__next__" "reversed.__next__" :=
 .of (owner:="reversed") (n:="__next__") (by rw[JO,JP];kernel_rfl) (by decide +kernel) (by decide +kernel) (by decide +kernel)
  (by first | exact .inl (by decide +kernel) | exact .inr (by decide +kernel)) (by rw[zJ];kernel_rfl)
def L8:entryFor table "reversed.__next__"=some Builtin.«reversed.__next__»:=entryFor_of_tree (by kernel_rfl)
def L9(a:Value):argsOk "reversed.__next__" ⟨[a],[]⟩:=by unfold argsOk;kernel_rfl
def Ma:Slot "reversed" "__iter__" "reversed.__iter__" :=
 .of (owner:="reversed") (n:="__iter__") (by rw[JO,JP];kernel_rfl) (by decide +kernel) (by decide +kernel) (by decide +kernel)
  (by first | exact .inl (by decide +kernel) | exact .inr (by decide +kernel)) (by rw[zJ];kernel_rfl)
def Ww(a:Value):argsOk "reversed.__iter__" ⟨[a],[]⟩:=by unfold argsOk;kernel_rfl
def Wx:entryFor table "reversed.__iter__"=some Builtin.«dict_keyiterator.__iter__» :=
 entryFor_alias (id':="dict_keyiterator.__iter__") (by kernel_rfl) (by first | rfl | decide +kernel | (unfold String.splitOn;simp +decide [String.splitOnAux])) (by decide +kernel) (by kernel_rfl)
def Wy:Slot "reversed" "__init__" "object.__init__" :=
 .of (owner:="object") (n:="__init__") (by rw[JO,JP];kernel_rfl) (by decide +kernel) (by decide +kernel) (by decide +kernel)
  (by first | exact .inl (by decide +kernel) | exact .inr (by decide +kernel)) (by rw[zJ];kernel_rfl)
def Wz:TypeCalled "reversed" "reversed.__new__" "object.__init__" :=
 ⟨by decide +kernel,by decide +kernel,⟨_,_,F.mro_reversed⟩,F.made_reversed,by decide +kernel,F.sub_reversed_self,Wy⟩
def WA:typeLookup (.type "tuple") "__reversed__"=pure none:=by rw[JO,JP];kernel_rfl
def WB:isSubtype (.type "tuple") (.type "dict")=pure false:=by rw[zJ];kernel_rfl
noncomputable def xn(l:Addr)(i:Int):Obj:={ cls := .type "reversed",data := .fields #[.ref l,rawInt i] }
def kU(h:Heap)(a l:Addr)(i:Int):Prop := ∃o,h.get? a=some o/\o.cls = .type "reversed"/\o.data = .fields #[.ref l,rawInt i]
def kU.typeIs{s:Shared}{a l:Addr}{i:Int}(x:kU s.heap a l i):s.TypeIs (.ref a) "reversed":=let ⟨o,ho,hc,_⟩:=x;⟨o,ho,hc⟩
def kU.at{h h':Heap}{a l:Addr}{i:Int}(x:kU h a l i)(e:∀o,h.get? a=some o->h'.get? a=some o):kU h' a l i:=let ⟨o,ho,r⟩:=x;⟨o,e _ ho,r⟩
theorem WC(t:Addr)(items:Array Value)(hz:items.size<=sizeLine):Meets (Builtin.«reversed.__new__» ⟨[.type "reversed",.ref t],[]⟩) (λ_ R s=>IsTup s.heap t items/\
  ∀tk,R (.ok (.ret (.ref s.heap.objs.size))) { s with heap:=s.heap.push (xn t ((items.size:Int) - 1)),toks:=tk }):=
 .of_wp λprog w A R s h=>by
  obtain⟨hT,h⟩:=h
  unfold Builtin.«reversed.__new__»
  refine aj (oS (newClass_reversed _) ?_)
  try dsimp only
  refine aj (oS (a:=()) (by first | rfl | kernel_rfl) ?_)
  refine aj (oS (a:=()) (by first | rfl | kernel_rfl) ?_)
  try dsimp only
  refine aj (Dm hT.typeIs WA ?_)
  try dsimp only
  refine aj ?_
  show wpAny _ _ (isInstance (.ref t) (.type "dict") >>= _) _ _ _
  refine aj (JQ hT.typeIs WB ?_)
  show wpAny _ _ (specialOf (.ref t) "__getitem__" >>= _) _ _ _
  refine aj (Dm hT.typeIs PyProof.Rows.slot_tuple_getitem.lookup ?_)
  show wpAny _ _ (pure true) _ _ _
  refine aH ?_
  show wpAny _ _ (call (.builtin "len") [.ref t] >>= _) _ _ _
  refine aj (len_tuple hT (by have:=nB;lia) ?_)
  refine aj (oS (a:=some (items.size:Int)) rfl ?_)
  show wpAny _ _ (newObj (.type "reversed") (.fields #[.ref t,rawInt ((items.size:Int) - 1)]) none >>= _) _ _ _
  exact aj (we (aH ⟨_,rfl,h _⟩))
section
variable{prog:Program}{w:World}{A:Around}{E:Value->Shared->Prop}{s:Shared}
def WD{t:Addr}{items:Array Value}{Q:Value->Shared->Prop}(hT:IsTup s.heap t items)(hz:items.size<=sizeLine)
  (h:∀tk,Q (.ref s.heap.objs.size) { s with heap:=s.heap.push (xn t ((items.size:Int) - 1)),toks:=tk }):wpAny (model prog w) A (call (.type "reversed") [.ref t]) Q E s:=
 callType_new Wz (by decide) (F.typeCall_reversed_1 _) (F.newCall_reversed_1 _) (λobj=>F.args_object_init_2 obj _) F.entry_reversed_new (WC t items hz) ⟨hT,λtk=>⟨⟨_,cq _ rfl,rfl⟩,h tk⟩⟩
theorem WE{it t:Addr}{i:Nat}{items:Array Value}{x:Value}{Q:Option Value->Shared->Prop}(hit:kU s.heap it t (i:Int))(hT:IsTup s.heap t items)(hz:items.size<=sizeLine)(hx:items[i]? = some x)
  (hQ:∀h' tk,kU h' it t ((i:Int) - 1)->Heap.SameBut it s.heap h'->Q (some x) { s with heap:=h',toks:=tk }):wpAny (model prog w) A (pyNext (.ref it)) Q E s:=by
 obtain⟨o,ho,hc,hd⟩:=id hit
 have hi:i<items.size:=(Array.getElem?_eq_some_iff.mp hx).1
 have hl:=nB
 unfold pyNext
 refine aj (zK (zL (name:=Str.ofString "__next__") hit.typeIs xm
  (qF xm hit.typeIs L8 ?_ (L9 _))))
 unfold Builtin.«reversed.__next__»
 refine aj (oS (a:=(Value.ref it,[])) rfl ?_)
 try dsimp only
 refine aj (iq ho hd (x := .ref t) rfl ?_)
 refine aj (iq ho hd (x:=rawInt (i:Int)) rfl ?_)
 show wpAny _ _ (if (i:Int)<0 then _ else _) _ _ s
 rw[av (by lia)]
 show wpAny _ _ (specialOf (.ref t) "__getitem__" >>= _) _ _ _
 refine aj (Dm hT.typeIs PyProof.Rows.slot_tuple_getitem.lookup ?_)
 show wpAny _ _ (mkInt (i:Int) >>= _) _ _ _
 refine aj (wpAny_mkInt ?_)
 refine aj (zK (getItem_tuple (j:=i) hT (by lia) (by lia) (seqIndex_of (by lia) (by lia)) hx ?_))
 try dsimp only
 refine aj (iq ho hd (x:=rawInt (i:Int)) rfl ?_)
 show wpAny _ _ (setField (.ref it) 1 (rawInt ((i:Int) - 1)) >>= _) _ _ _
 refine aj (Dn ho hd (by simp) ?_)
 refine aH ⟨x,rfl,aH (hQ _ _ ?_ (qG ..))⟩
 exact⟨_,oN _ ho (SN (zM hd _)),(Obj.cls_mapFields ..).trans hc,by
  rw[zM hd];simp⟩
def WG{it t:Addr}{Q:Option Value->Shared->Prop}(hh:A.handled=none)(hit:kU s.heap it t (-1))
  (hQ:∀h',Heap.ExtBut it s.heap h'->Q none { s with heap:=h' }):wpAny (model prog w) A (pyNext (.ref it)) Q E s:=by
 obtain⟨o,ho,hc,hd⟩:=id hit
 unfold pyNext
 refine aj (zK (zL (name:=Str.ofString "__next__") hit.typeIs xm
  (qF xm hit.typeIs L8 ?_ (L9 _))))
 unfold Builtin.«reversed.__next__»
 refine aj (oS (a:=(Value.ref it,[])) rfl ?_)
 try dsimp only
 refine aj (iq ho hd (x := .ref t) rfl ?_)
 refine aj (iq ho hd (x:=rawInt (-1)) rfl ?_)
 show wpAny _ _ (if (-1:Int)<0 then _ else _) _ _ s
 rw[aA (by decide)]
 refine aj (tE ?_)
 refine aj ?_
 show wpAny _ _ (setField (.ref it) 1 (rawInt (-1)) >>= λ_=>setField (.ref it) 0 .none) _ _ _
 refine aj (Dn ho hd (by simp) ?_)
 refine Dn (oN _ ho (SN (zM hd _))) (zM hd _) (by simp) ?_
 refine aj ?_
 show wpAny _ _ (newExc (.type "StopIteration") [] >>= _) _ _ _
 refine aj ?_
 simp only[newExc,newTuple]
 refine aj (we ?_ (by size_fits))
 refine aj (m:=firstArgMember _ _) (oS (a:=Value.none) (by first | rfl | (simp only[firstArgMember];rfl)) ?_)
 refine we ?_ (by size_fits)
 simp only[raiseNew]
 refine aj (wpAny_handled ?_)
 first | rw[show A.in1.handled=none from hh] | rw[hh]
 refine aj (aH (wpAny_throw ?_))
 refine aj (JQ (T:="StopIteration") (b:=true) ⟨_,cq _ rfl,rfl⟩ isSubtype_stop ?_)
 refine aH (hQ _ λb ob hb e=>?_)
 refine bx _ (bx _ ?_)
 exact(m4 _ _ (bu hb)).trans ((m4 _ _ (bu hb)).trans e)
def Mb{it t:Addr}{i:Int}{Q:Value->Shared->Prop}(hit:kU s.heap it t i)(h:Q (.ref it) s):wpAny (model prog w) A (pyIter (.ref it)) Q E s:=by
 refine wpAny_pyIter_slot hit.typeIs Ma (qF Ma hit.typeIs Wx ?_ (Ww _))
 show wpAny _ _ (ret (.ref it)) _ _ s
 exact aH ⟨_,rfl,"reversed",_,hit.typeIs,xm.lookup,h⟩
end
noncomputable def Ew(K:Frag)(a:Addr)(xs:List V):It:=
 ⟨λi H=>ax K H a xs/\i<xs.length,λi H x H'=>H'=H/\xs.reverse[i]? = some x,λi H=>ax K H a xs/\i=xs.length⟩
theorem WH{P:Program}{w:World}{K:Frag}{tg:Expr}(a it:Addr)(xs:List V):Turn P w K tg (Ew K a xs) [it] it (λi h=>kU h it a ((xs.length:Int) - 1 - (i:Nat))) where
 mem:=by simp
 obj:=λi h st b hb=>by
  have e:b=it:=by simpa using hb
  subst e
  obtain⟨o,e,c,d⟩:=st
  exact⟨o,e,λv z=>by rw[d] at z;cases z⟩
 keep:=λi h h' st k=>st.at λo e=>k it (by simp) o e
 item:=by
  intro X hP hw hK hc i pins s O H E I hf st hg
  subst hP hw hK
  obtain⟨hq,hi⟩:=hg
  obtain⟨its,rv,p,hz⟩:=I.tuple hq
  have hl:=rv.length
  obtain⟨f0,f1,f2,f3,f4,f5⟩:=hf it (by simp)
  have e1:(xs.length:Int) - 1 - (i:Nat)=((xs.length - 1 - i:Nat):Int):=by lia
  have hx:xs[xs.length - 1 - i]? = some (xs[xs.length - 1 - i]'(by lia)):=aS (by lia)
  obtain⟨u,hu,ru⟩:=rv.get hx
  rw[e1] at st
  refine WE st p (by rw[bg];lia) (x:=u) (by simpa using hu) λh' tk eP sb=>?_
  have I1:Inv X pins O H { s with heap:=h',toks:=tk }:=I.turned (λb o hb e=>(sb.2 b hb).trans e) f0 f1 f3 f4 f5
  obtain⟨o,e,c,d⟩:=id eP
  refine⟨u,rfl,tM (s:={ s with heap:=h',toks:=tk }) e c d (by decide) ⟨_,H,I1,ru,⟨rfl,?_⟩,?_,λb hb=>(hf b hb).1⟩⟩
  .rw[JR hi]
   exact hx
  .have e2:((xs.length - 1 - i:Nat):Int) - 1=(xs.length:Int) - 1 - ((i+1:Nat):Int):=by lia
   rw[e2] at eP
   exact eP
 done:=by
  intro X hP hw hK hc i pins s O H E I hf st hg
  subst hP hw hK
  obtain⟨hq,hi⟩:=hg
  obtain⟨f0,f1,f2,f3,f4,f5⟩:=hf it (by simp)
  have e1:(xs.length:Int) - 1 - (i:Nat) = -1:=by lia
  rw[e1] at st
  exact WG (I.ok.hd hc) st λh' eb=>⟨rfl,I.turned (t':=s.toks) (λb o hb e=>eb b o hb e) f0 f1 f3 f4 f5⟩
 self:=λ_ _ _ _ _ st h=>Mb st h
def WI(K:Frag)(ta:TA):TI:=λO H R=>ta O H λvs H1=>∃a xs,vs=[.ref a]/\ax K H1 a xs/\R (Ew K a xs) H1
def WJ:bootBuiltins "reversed"=some (.type "reversed"):=by decide +kernel
theorem WK{X:Cx}{tg a:Expr}{ta:TA}{p pos:Pos}(hg:Gl X "reversed")(hm:X.mg "reversed"=none)(ha:PA X [a] ta)(hs:starEach [a] X.env=[(false,eval a X.env)]:=by rfl) :
  PI X tg (.Call (.Name "reversed" p) [a] [] pos) (WI X.K ta):=by
 intro pins s O H R I h
 refine Call_ (o9 I hg hm WJ (Dg (aE (ha pos pins s O H _ I h) λus s1 ⟨vs,H1,I1,r1,q1⟩=>?_) hs rfl))
 obtain⟨t,xs,e,hq,q⟩:=q1
 subst e
 obtain⟨u,rfl,ru⟩:=vals1 r1
 cases ru
 obtain⟨its,rv,pl,hz⟩:=I1.tuple hq
 have hl:=rv.length
 refine WD pl (by rw[bg];lia) λtk=>?_
 have I2:Inv X pins O H1 { s1 with heap:=s1.heap.push (xn t ((its.toArray.size:Int) - 1)),toks:=tk }:=I1.kept λb o e=>bx _ e
 have Mc:kU (s1.heap.push (xn t ((its.toArray.size:Int) - 1))) s1.heap.objs.size t ((xs.length:Int) - 1 - ((0:Nat):Int)):=by
  have e:(its.toArray.size:Int) - 1=(xs.length:Int) - 1 - ((0:Nat):Int):=by rw[bg];lia
  rw[<-e]
  exact⟨_,cq _ rfl,rfl,rfl⟩
 refine Mb (s:={ s1 with heap:=s1.heap.push (xn t ((its.toArray.size:Int) - 1)),toks:=tk }) Mc ?_
 refine⟨s1.heap.objs.size,[s1.heap.objs.size],_,_,H1,rfl,I2,WH t _ xs,Mc,λb hb=>?_,q⟩
 have e:b=s1.heap.objs.size:=by simpa using hb
 subst e
 exact I1.jO (aN _) I1.fresh
def WL{K:Frag}{a:Addr}{xs:List V}:nN (Ew K a xs) (λH=>ax K H a xs) xs.reverse:=
 ⟨λi H h hi=>⟨h,by simpa using hi⟩,λi H x H' h _ y=>y,λH h=>⟨h,by simp⟩⟩
noncomputable def kW(x:Str):Str:=⟨x.cps.toList.reverse.toArray⟩
theorem rev_eq(x:Str)(u:Tok):Txt.sliceBy x none none (-1,u)=kW x:=by
 have h:=step_rev_list x u
 have e:(List.range x.length).map (λk=>x.cps.getD (x.length - 1 - k) 0)=x.cps.toList.reverse:=by
  apply iS
  intro i
  have hl:x.cps.toList.length=x.length:=by simp[Str.length]
  rw[bq]
  by_cases hi:i<x.length
  .rw[qH hi,JR (by rw[hl];exact hi),hl]
   have hb:x.length - 1 - i<x.cps.size:=by show _<x.length;lia
   simp[Array.getD,hb]
  .rw[cR (by simpa using hi),cR (by rw[Dp,hl];lia)]
   rfl
 rw[e] at h
 generalize Txt.sliceBy x none none (-1,u)=y at h
 cases y with
 |mk c=>
  unfold kW
  rw[<-h]
def WM(te ts:TE):TE:=λO H Q=>te O H λx H1=>ts O H1 λy H2=>∃z,x = .str z/\y = .int (-1)/\z.length<=sizeLine/\Q (.str (kW z)) H2
def WN{X:Cx}{e st:Expr}{te ts:TE}{pos p2:Pos}(he:PE X e te)(cS:PE X st ts):PE X (.Subscript e (.Slice none none (some st) p2) pos) (WM te ts):=by
 intro pins s O H Q I h
 refine Subscript_ (aE (he pins s O H _ I h) λv s1 ⟨x,H1,I1,r1,q1⟩=>?_)
 refine wpAny_Slice (aE (l0 pins s1 O H1 (λo H'=>o=none/\H'=H1) I1 ⟨rfl,rfl⟩) λvl s2 ⟨l,H2,I2,pl,el,eh⟩=>?_)
 subst el eh
 refine aE (l0 pins s2 O H2 (λo H'=>o=none/\H'=H2) I2 ⟨rfl,rfl⟩) λvu s3 ⟨u,H3,I3,pu,eu,eh⟩=>?_
 subst eu eh
 rw[evalPart_some]
 refine aE (cS pins s3 O H3 _ I3 q1) λvs s4 h_=>?_
 obtain⟨y,H4,I4,r4,z,e1,e2,hz,q⟩:=h_
 subst e1 e2
 obtain⟨t,rfl⟩:=r1
 obtain⟨t4,rfl⟩:=r4
 cases pl
 cases pu
 have I5:Inv X pins O H4 { s4 with heap:=s4.heap.push { cls := .type "slice",data := .fields #[.none,.none,.int (-1) t4] } }:=I4.kept (t':=s4.toks) λb ob q=>bx _ q
 show wpAny (model X.prog X.w) X.A (subscriptTail e (.Slice none none (some st) p2) (.str z t) (.ref s4.heap.objs.size)) (EP X pins O Q) X.xe { s4 with heap:=s4.heap.push { cls := .type "slice",data := .fields #[.none,.none,.int (-1) t4] } }
 refine tail_any (ops:=[.ref s4.heap.objs.size,.str z t]) (typeIs_str _ _ _) F.slot_str_getitem.lookup (wpAny_getItem_str_slice (l:=none) (u:=none) (st:=some (-1,t4)) ⟨_,cq _ rfl,rfl,rfl⟩ rfl
  (post_val_or_str ⟨bL (Txt.sliceBy_le z _ _ (-1,t4) (show(-1:Int)≠0 by decide)) hz,λt' k=>?_⟩)) (by with_unfolding_all rfl)
 exact⟨.str (kW z),H4,I5.tok k,⟨t',by show Value.str (Txt.sliceBy z none none (-1,t4)) t'=_;rw[rev_eq]⟩,q⟩
end L2
namespace L2
open PySem
variable{p:Prop}{α:Type}{P:Program}{w:World}{K:Frag}{mg:Str->Option Value}{base:Heap}{st:Stmt}{f:Addr}{fd:FuncData}
structure Hid(p G:Prop):Prop where
 k:p->G
def hide(h:∀G:Prop,Hid p G->G):p:=h p ⟨id⟩
theorem AR{P:List α->Prop}(h:∀a,P [a]):∀us:List α,us.length=1->P us
 |[a],_=>h a
theorem ud{P:List α->Prop}(h:∀a b,P [a,b]):∀us:List α,us.length=2->P us
 |[a,b],_=>h a b
theorem ue{P:List α->Prop}(h:∀a b c,P [a,b,c]):∀us:List α,us.length=3->P us
 |[a,b,c],_=>h a b c
theorem AS{P:List α->Prop}(h:∀a b c d,P [a,b,c,d]):∀us:List α,us.length=4->P us
 |[a,b,c,d],_=>h a b c d
theorem AU{P:List α->Prop}(h:∀a b c d e,P [a,b,c,d,e]):∀us:List α,us.length=5->P us
 |[a,b,c,d,e],_=>h a b c d e
def ba.bH{x qual:Str}{N ps:List Str}{k:Nat}{sp:Sp}(F:ba K x qual st f fd)(S:bp N ps (aU st))
  (rb:∀(aF:Value) (A:Around) (outer:List Env) (s:Shared) (H:Hp) (vs:List V) (Q:VK) (E:XK),cw k (A.deeper (PyProof.Rows.envOfC qual (aU st) s.heap.objs.size f aF))->sp vs H Q E->
   ∃t,iw (pw aQ P w K mg base N qual (aU st) f aF A outer s H E).qP (kR st) t/\t { nx:=λ_ H'=>Q .aB H',rt:=Q } (start N vs) H)
  (len:∀vs H Q E,sp vs H Q E->vs.length=ps.length:=by intro vs H Q E h;repeat (first | (obtain⟨rfl,_⟩:=h;rfl) | obtain⟨_,h⟩:=h)):aO P w K mg base aQ (k+1) f fd ps sp:=F.ok S len rb
end L2
namespace L2
open PySem PySem.Spec PyProof.Rows
variable{c kk l n q:Nat}{X:Cx}{b qual x:Str}{st:Stmt}{C a f i y:Addr}{fd:FuncData}{d u v1 v2:Value}{ps ss:List Str}{sp:Sp}{ds out us vs:List Value}{rr:Frag->R2}{ta:TA}{K K':Frag}{xs ys:List V}{js:List Nat}{tt:TT}{te:TE}{O:St}{H H1:Hp}{E Q:Value->Shared->Prop}{v:V}{P prog:Program}{w:World}{e tg:Expr}{o1 o2 ob:Obj}{kvs:List (Key×V)}{h h':Heap}{U:Nat->Heap->Prop}{K1 K2:Shared->Prop}{A:Around}{pins:List (Addr×Obj)}{s:Shared}{elts es:List Expr}{nC p pos:Pos}{g:TG}{items:Array Value}{W:List V->Hp->(It->Hp->Prop)->Prop}{expr:Bool}{kz:Str->Int}{Z:Unit->Shared->Prop}{M:Model}{T:Key->Bool}
def dq(h:n<=10000):n<=sizeLine:=bL h (by decide)
def jW(h:n<=10000):n<sizeLine:=kq h (by decide)
def WO:bootBuiltins "sum"=some (.builtin "sum"):=by decide +kernel
def WQ:bootBuiltins "min"=some (.builtin "min"):=by decide +kernel
theorem WR(is:List Int):∀n,n<=is.length->preSum (λi=>(is[i]?).getD 0) n=(is.take n).sum:=by
 intro n
 induction n with
 |zero=>intro _;rfl
 |succ n ih=>
  intro h
  have e:is[n]? = some (is[n]'(by lia)):=aS _
  rw[eD,JS,<-ih (by lia)]
  show preSum _ n+(is[n]?).getD 0=_
  rw[e]
  simp
def WS(hc:X.calm=true):fL X (.builtin "sum") (λxs H Q=>∃(a:Addr) (is:List Int),xs=[.ref a]/\ak X.K H a (is.map V.int)/\Q (.int is.sum) H):=by
 intro pins s O H xs us Q I r h
 obtain⟨l,is,rfl,hq,q⟩:=h
 obtain⟨u,rfl,ru⟩:=vals1 r
 cases ru
 obtain⟨its,rv,pl,hz⟩:=I.list hq
 have hl:=pl.isList
 have hh:X.A.handled=none:=I.ok.hd hc
 have aM:l<s.heap.objs.size:=by obtain⟨_,e,_⟩:=hl;exact bF e
 have hlen:its.length=is.length:=by rw[<-rv.length,aq]
 refine call_sum_walkG (sX hl ?_)
 refine⟨s.heap.objs.size,[s.heap.objs.size,l],[s.heap.objs.size],its.toArray.size,_,_,λi=>(is[i]?).getD 0,rfl,zH (A:=X.A.in1) hh _ l (bO aM) its.toArray,
  ⟨⟨_,cq _ rfl,rfl,rfl⟩,hl.push _⟩,λb hb=>?_,λi v hP=>?_,λh' tk t' hk=>?_⟩
 .have z:b=s.heap.objs.size\/b=l:=by simpa using hb
  show b<(s.heap.push _).objs.size
  rw[lO]
  rcases z with z | z
  .rw[z];exact oK _
  .rw[z];exact lN aM
 .have hv:its[i]? = some v:=by simpa using hP
  have hi:i<is.length:=by rw[<-hlen];exact(bP.mp hv).1
  obtain⟨u',e1,e2⟩:=rv.get (i:=i) (x:=V.int is[i]) (by simp[hi])
  rw[hv] at e1
  cases e1
  obtain⟨t,rfl⟩:=e2
  exact⟨t,by simp[hi]⟩
 .have e:preSum (λi=>(is[i]?).getD 0) its.toArray.size=is.sum:=by
   rw[bg,hlen,WR is _ (aN _),Dr]
  rw[e]
  exact⟨.int _,H,I.kept λb o e=>LSm.kept_iter hk b o e,⟨_,rfl⟩,q⟩
structure pH(K:Frag)(x qual:Str)(st:Stmt)(f:Addr)(fd:FuncData)(d:Value):Prop where
 ex:∃(oc:Value) (od:Option Addr) (T:Addr) (kV doc pm:Value) (an:Option Addr) (aF ct:Value) (jR:Array (Option Value)),
  fd=fnOf x qual (pC st) (kR st) (aU st) (.ref T) kV doc pm an aF ct/\K.lookup f=some ⟨oc,od,.func fd,jR⟩/\codeIn K aF qual=true/\
  ∃(xo:Option Addr) (n:Nat) (qO:Array (Option Value)),K.lookup T=some ⟨.type "tuple",xo,.seq #[d] n,qO⟩
 kp:keepIn K (.ref f)=true
section
variable{P:Program}{w:World}{K:Frag}{mg:Str->Option Value}{base:Heap}
def pH.ok{N:List Str}{k:Nat}(F:pH K x qual st f fd d)(S:bp N ps (aU st))(len:∀vs H Q E,sp vs H Q E->vs.length=ps.length)
  (rb:∀(aF:Value) (A:Around) (outer:List Env) (s:Shared) (H:Hp) (vs:List V) (Q:VK) (E:XK),cw k (A.deeper (envOfC qual (aU st) s.heap.objs.size f aF))->sp vs H Q E->
   ∃t,iw (pw aQ P w K mg base N qual (aU st) f aF A outer s H E).qP (kR st) t/\t { nx:=λ_ H'=>Q .aB H',rt:=Q } (start N vs) H):aO P w K mg base aQ (k+1) f fd ps sp:=by
 obtain⟨oc,od,T,kV,doc,pm,an,aF,ct,jR,rfl,lk,iV,_⟩:=F.ex
 refine Aq lk iV S len λA outer s H vs Q E hr lY=>?_
 obtain⟨t,h,q⟩:=rb aF A outer s H vs Q E hr lY
 exact⟨t,h.qP,q⟩
def pH.binds(F:pH K x qual st f fd d)
  (h:∀(T:Addr) (kV doc pm:Value) (an:Option Addr) (aF ct:Value) (s:Shared) (us:List Value) (xo:Option Addr) (n:Nat) (qO:Array (Option Value)),s.heap.get? T=some ⟨.type "tuple",xo,.seq #[d] n,qO⟩->(us++ds).length=ps.length->
   BindsTo s (fnOf x qual (pC st) (kR st) (aU st) (.ref T) kV doc pm an aF ct) ⟨us,[]⟩ (ps.zip (us++ds))):Binds K fd ps ds:=by
 obtain⟨oc,od,T,kV,doc,pm,an,aF,ct,jR,rfl,lk,iV,xo,n,qO,hT⟩:=F.ex
 intro s us KX hl
 exact h T kV doc pm an aF ct s us xo n qO (KX _ _ hT) hl
structure Mt(P:Program)(w:World)(K:Frag)(mg:Str->Option Value)(base:Heap)(C:Addr)(m:Str)(k:Nat)(sp:Sp)(c9:List V):Prop where
 cl:cG K C
 ex:∃(f:Addr) (fd:FuncData) (ps:List Str) (ds:List Value),Meth K C m f/\aO P w K mg base aQ k f fd ps sp/\Binds K fd ps ds/\Vals c9 ds
structure Nw(P:Program)(w:World)(K:Frag)(mg:Str->Option Value)(base:Heap)(x:Str)(C:Addr)(k:Nat)(sp:Sp):Prop where
 ex:∃(f:Addr) (fd:FuncData) (ps:List Str),Mk K C f/\aO P w K mg base aQ k f fd ps sp/\Binds K fd ps []/\mg x=some (.ref C)
end
section
variable{X:Cx}{C:Addr}{x m:Str}{p pos apos:Pos}{e o:Expr}{es:List Expr}{t:TA}{ta:TE}{sp:Sp}{k:Nat}{c9:List V}{pl:Sem Bool}
theorem rE(M:Mt X.prog X.w X.K X.mg X.base C m k sp c9)(hr:cw l X.A)(he:PE X o ta)(ha:PA X (e::es) t)(hle:k<=l:=by first | decide | lia)
  (cS:starEach (e::es) X.env=(false,eval e X.env)::starEach es X.env:=by rfl) (bj:(backTo pos (starEach es X.env)).any (·.1)=false:=by rfl)
  (ht:eval (.Call (.Attribute o m apos) (e::es) [] pos) X.env=(do
   let ov<-eval o X.env
   standAt apos.atName
   let (f,first)<-holding [ov] (getMethod ov m pl)
   callWith pos f first (backTo pos (starEach (e::es) X.env)) (backToKw pos (keywordEach [] X.env))):=by rfl):PE X (.Call (.Attribute o m apos) (e::es) [] pos) (Ao C m sp c9 E0 ta t):=by
 obtain⟨f,fd,ps,ds,hm,G,hb,hd⟩:=M.ex
 exact UP he M.cl hm G (hr.mono hle) hb hd xf ha cS bj ht
theorem Ex(M:Mt X.prog X.w X.K X.mg X.base C m k sp c9)(hr:cw l X.A)(he:PE X o ta)(hle:k<=l:=by first | decide | lia)
  (ht:eval (.Call (.Attribute o m apos) [] [] pos) X.env=(do
   let ov<-eval o X.env
   standAt apos.atName
   let (f,first)<-holding [ov] (getMethod ov m pl)
   callWith pos f first (backTo pos (starEach [] X.env)) (backToKw pos (keywordEach [] X.env))):=by rfl):PE X (.Call (.Attribute o m apos) [] [] pos) (Ao C m sp c9 E0 ta qZ):=by
 obtain⟨f,fd,ps,ds,hm,G,hb,hd⟩:=M.ex
 exact UQ he M.cl hm G (hr.mono hle) hb hd xf ht
theorem WT(N:Nw X.prog X.w X.K X.mg X.base x C k sp)(hr:cw l X.A)(hle:k+1<=l:=by first | decide | lia)(hg:Gl X x:=by rfl)(gD:(x==("__debug__":Str))=false:=by decide):PE X (.Call (.Name x p) [] [] pos) (Ap C sp [] E0 qZ):=by
 obtain⟨f,fd,ps,M,G,hb,hm⟩:=N.ex
 exact US M G (hr.mono hle) hg hm hb .nil xf gD
end
section
variable{X:Cx}{K:Frag}{o e:Expr}{es:List Expr}{to:TE}{t:TA}{name:Str}{apos dU pos:Pos}{T id:String}
def WU{rr:Frag->V->List V->Hp->VK->Prop}(hK:X.K=K)(pa:PlainAttrs T)(slot:Slot T name id)(DW:typeOf (.builtin id)=pure (.type "method_descriptor"))(hm:Av X id (rr X.K))(ho:PE X o to)(ha:PA X (e::es) t)
  (DX:attributeBase o name X.env (eval o X.env)=eval o X.env:=by rfl)
  (DY:((backTo dU (starEach (e::es) X.env)).all (λx=>!x.1)&&(backToKw dU (keywordEach [] X.env)).all (λx=>x.1.isSome)
   && decide ((e::es).length+([]:List Keyword).length+(if ([]:List Keyword).isEmpty then 0 else 1)<30))=true:=by rfl)
  (DZ:(apos.endLine==dU.line)=true:=by rfl) (hs:starEach (e::es) X.env=(false,eval e X.env)::starEach es X.env:=by rfl) (D0:(backTo dU (starEach es X.env)).any (·.1)=false:=by rfl) :
  PE X (.Call (.Attribute o name apos) (e::es) [] dU) (Lf K T (rr K) to t):=by
 subst hK
 exact fm pa slot DW hm ho ha DX DY DZ hs D0
def AV{a i:Expr}{ta ti:TE}(hK:X.K=K)(hr:wV X (rr X.K))(ha:PE X a ta)(hi:PE X i ti)(hp:Lc i:=by exact λ_ _=>rfl):PE X (.Subscript a i pos) (qT (rr K) ta ti):=by
 subst hK
 exact bf hr ha hi hp
end
theorem WV{Q:VK}(hn:xs.length<=10000)(ha:ak K H1 a xs)(p:Nat->Bool)(F:Addr->Nat->V->Hp->Prop)
  (mono:∀D i y H H',H1 D=none->(∃o,H D=some (.lst o))->(∀b o,b≠D->H b=some o->H' b=some o)->F D i y H->F D i y H')
  (hs:∀D i x H (Z0:Hp->Prop) (Z:V->Hp->Prop),H1 D=none->xs[i]? = some x->af H1 H->(∃o,H D=some (.lst o))->(∀H2,af H H2->p i=false->Z0 H2)->(∀y H2,af H H2->p i=true->F D i y H2->Z y H2)->
   ∃b v1 v2,x = .ref b/\ax K' H b [v1,v2]/\tt (some v1::some v2::fw js O) H λb H2=>if b=true then te (some v1::some v2::fw js O) H2 Z else Z0 H2)
  (hd:∀D ys H,H1 D=none->H D=some (.lst ys)->af H1 H->Paired (λi y=>F D i y H) ((List.range xs.length).filter p) ys->Q (.ref D) H):Ei K' js tt te O (qS K a) H1 Q:=by
 intro D hD
 have hz:10000<sizeLine:=by decide
 refine⟨λi m H=>m=xs.length - i/\i<=xs.length/\∃ys,H D=some (.lst ys)/\af H1 H/\Paired (λi y=>F D i y H) ((List.range i).filter p) ys,⟨xs.length,by simp,bA _,[],au,af.upd hD,.nil⟩,?_⟩
 rintro i m H ⟨rfl,hi,ys,bw,sm,pr⟩
 have q:=sm.seq ha
 by_cases aM:i<xs.length
 .refine .inr ⟨⟨xs,_,q,aS aM⟩,λv H' y=>?_⟩
  obtain⟨rfl,yy⟩:=y
  have yy:=yy xs q
  have jK:List.range (i+1)=List.range i++[i]:=ku
  have ln:ys.length<=i:=by
   have h1:=pr.length
   have h2:((List.range i).filter p).length<=(List.range i).length:=ji _ _
   rw[gR] at h2
   lia
  have sp:af H' H':=af.cI _
  refine hs D i v _ _ _ hD yy (sm.trans sp) ⟨ys,sp _ _ bw⟩ (λH2 s2 hp=>?_) (λz H2 s2 hp hF=>?_)
  .refine⟨xs.length - (i+1),by lia,rfl,aM,ys,s2 _ _ (sp _ _ bw),sm.trans (sp.trans s2),?_⟩
   rw[jK,kD,dF,av (by rw[hp];exact bZ),oQ,iQ]
   exact Paired.bJ pr λj z f=>mono D j z H' H2 hD ⟨ys,bw⟩ (λb o _ e=>s2 b o (sp b o e)) f
  .refine⟨ys,s2 _ _ (sp _ _ bw),by lia,xs.length - (i+1),by lia,rfl,aM,ys++[z],au,(sm.trans (sp.trans s2)).jV hD,?_⟩
   have up:∀b o,b≠D->H2 b=some o->upd H2 D (.lst (ys++[z])) b=some o:=λb o hb e=>by rw[ao hb];exact e
   rw[jK,kD,dF,aA hp,oQ]
   refine m6 (Paired.bJ pr λj z' f=>?_) (mono D i z H2 _ hD ⟨ys,s2 _ _ (sp _ _ bw)⟩ up hF)
   exact mono D j z' H2 _ hD ⟨ys,s2 _ _ (sp _ _ bw)⟩ up (mono D j z' H' H2 hD ⟨ys,bw⟩ (λb o _ e=>s2 b o (sp b o e)) f)
 .have e:i=xs.length:=by lia
  subst e
  exact .inl ⟨⟨xs,q,aN _⟩,hd D ys H hD bw sm pr⟩
section
variable{X:Cx}{K:Frag}{a b:Expr}{ta tb:TE}{pos:Pos}
def WW{op:CmpOp}(hK:X.K=K)(hr:cK X (compareOp op) (rr X.K))(ha:PE X a ta)(hb:PE X b tb)(hm:behindInMarks op b=false:=by first | exact An _ | rfl):PE X (.Compare a [op] [b] pos) (qT (rr K) ta tb):=by
 subst hK
 exact nA hr ha hb hm
def Ey{op:CmpOp}(hK:X.K=K)(hr:cK X (compareOp op) (rr X.K))(ha:PE X a ta)(hb:PE X b tb)(hm:behindInMarks op b=false:=by first | exact An _ | rfl):PT X (.Compare a [op] [b] pos) (DK (qT (rr K) ta tb)):=by
 subst hK
 exact cg hr ha hb hm
end
noncomputable def gi(a b:Str):Bool := !ltCps b.cps.toList a.cps.toList
def rF{a:Str}:gi a b=true↔a.cps.toList<=b.cps.toList:=by
 unfold gi
 rw[ltCps_eq]
 by_cases h:b.cps.toList<a.cps.toList
 .rw[aI h]
  exact⟨(λz=>nomatch z),(λz=>absurd h (List.not_lt.mpr z))⟩
 .rw[aK h]
  exact⟨λ_=>List.not_lt.mp h,λ_=>rfl⟩
def WX{a:Str}(h1:gi a b=true)(h2:gi b a=true):a=b:=by
 have e:=List.le_antisymm (rF.mp h1) (rF.mp h2)
 cases a;cases b
 exact eX Str.mk (Array.toList_inj.mp e)
def Md{a c:Str}(h1:gi a b=true)(h2:gi b c=true):gi a c=true:=rF.mpr (List.le_trans (rF.mp h1) (rF.mp h2))
def WY(a b:Str):(gi a b||gi b a)=true:=by
 rcases List.le_total a.cps.toList b.cps.toList with h | h
 .rw[rF.mpr h,Bool.true_or]
 .rw[rF.mpr h,Bool.or_true]
noncomputable def cn(l:List Str):List Str:=l.mergeSort gi
def gH(l:List Str):(cn l).Perm l:=List.mergeSort_perm l gi
def Ez(l:List Str):(cn l).Pairwise (λa b=>gi a b=true):=List.pairwise_mergeSort (le:=gi) (λ_ _ _ h1 h2=>Md h1 h2) WY l
theorem Me:∀{p:Str}{l:List Str},risingS p l=true->(p::l).Pairwise (λa b=>gi a b=true)
 |p,[],_=>List.pairwise_singleton _ _
 |p,x::r,h=>by
  unfold risingS at h
  rw[eY] at h
  have ih:=Me h.2
  have h1:gi p x=true:=h.1
  refine List.Pairwise.cons (λy hy=>?_) ih
  rcases b9.mp hy with z | z
  .rw[z];exact h1
  .exact Md h1 ((List.pairwise_cons.mp ih).1 y z)
def Mf{l:List Str}(h:sortedS l=true):l.Pairwise (λa b=>gi a b=true):=by
 cases l with
 |nil=>exact List.Pairwise.nil
 |cons p r=>exact Me h
def AW{l m:List Str}(hp:l.Perm m)(h:l.Pairwise (λa b=>gi a b=true)):cn m=l:=
 (List.Perm.eq_of_pairwise (le:=λa b=>gi a b=true) (λ_ _ _ _=>WX) h (Ez m) (hp.trans (gH m).symm)).symm
def Mg:∀{us:List Value},StrsAre us ss->Vals (ss.map V.str) us:=by
 induction ss with
 |nil=>intro us h;cases h;exact .nil
 |cons x r ih=>
  intro us h
  cases h with
  |cons _ t q=>exact .cons ⟨t,rfl⟩ (ih q)
section
variable{X:Cx}
theorem EA:fL X (.builtin "sorted") (λxs H Q=>∃(a:Addr) (ss:List Str),xs=[.ref a]/\ak X.K H a (ss.map V.str)/\ss.length<64/\∀p,H p=none->Q (.ref p) (upd H p (.lst ((cn ss).map V.str)))):=by
 intro pins s O H xs us Q I r h
 obtain⟨l,ss,rfl,hq,da,q⟩:=h
 obtain⟨u,rfl,ru⟩:=vals1 r
 cases ru
 obtain⟨its,rv,pl,hz⟩:=I.list hq
 have hS:StrsAre its ss:=Er rv
 have hlen:its.length=ss.length:=by rw[<-rv.length,aq]
 refine sorted_strs pl.isList hS (by lia) λout EB a1 a2 a3=>?_
 obtain⟨e,he⟩:=sortedAll_at s.heap its out
 have e1:cn ss=EB:=AW a2 (Mf a3)
 have hf:H (s.heap.objs.size+1)=none:=I.aD.fresh (gO _)
 refine⟨.ref (s.heap.objs.size+1),_,I.laid (a:=s.heap.objs.size+1) (o := .lst ((cn ss).map V.str)) (t':=s.toks) (λb o z=>sortedAll_old z) (gO _) ?_,rfl,q _ hf⟩
 have kO:(cn ss).length=ss.length:=(gH ss).length_eq
 have WZ:(64:Nat)<=sizeLine:=by decide
 refine⟨by rw[aq];lia,out.toList,e,?_,by simpa using he⟩
 rw[e1]
 exact Mg a1
theorem Mh:∀{ss:List Str}{vs:List Value},vs.length=ss.length->(∀(j:Nat) (v:Value),vs[j]? = some v->∃x t,ss[j]? = some x/\v = .str x t)->StrsAre vs ss
 |[],[],_,_=>.nil
 |[],_::_,h,_=>by simp at h
 |_::_,[],h,_=>by simp at h
 |x::r,v::t,h,f=>by
  obtain⟨y,tk,e1,e2⟩:=f 0 v rfl
  simp at e1
  subst e1 e2
  exact .cons _ _ (Mh (by simpa using h) λj u hu=>by simpa using f (j+1) u (by simpa using hu))
noncomputable def aZ(kvs:List (Key×V)):List Str:=kvs.map λq=>match q.1 with | .inr x=>x | .inl _=>⟨#[]⟩
def mf(kvs:List (Key×V)):Prop := ∀q∈kvs,∃x,q.1=Sum.inr x
theorem W0(hc:X.calm=true):fL X (.builtin "sorted") (λxs H Q=>∃(a:Addr) (kvs:List (Key×V)),xs=[.ref a]/\H a=some (.dK kvs)/\mf kvs/\kvs.length<64/\∀p,H p=none->Q (.ref p) (upd H p (.lst ((cn (aZ kvs)).map V.str)))):=by
 intro pins s O H xs us Q I r h
 obtain⟨d,kvs,rfl,hd,hk,da,q⟩:=h
 obtain⟨u,rfl,ru⟩:=vals1 r
 cases ru
 have WZ:(64:Nat)<=sizeLine:=by decide
 obtain⟨hz,hS,vs,rel,dd⟩:kvs.length<=sizeLine/\(d==sysModules)=false/\∃vs,KV kvs vs/\s.heap.DictOf (bV X.prog X.w) d vs:=I.aD d _ hd
 obtain⟨ep,rG⟩:=dd.dictAt
 have xp:vs.length=kvs.length:=(dy rel).symm
 have hh:X.A.handled=none:=I.ok.hd hc
 refine Calls.call_function_entry kind_sorted plain_sorted entry_sorted (args_sorted1 _) ?_
 unfold Builtin.«sorted»
 refine aj (m:=checkCount "sorted" 1 1 _) (aH ?_)
 refine aj (PySem.W.kdu_collect (A:=X.A.in1) (PySem.W.kdl_dict (knd:=bV X.prog X.w) (kvs:=vs) (ep:=ep) hS) hh rG (by lia) λh' tk acc EC Mi=>?_)
 have hl:acc.toList.length=kvs.length:=by rw[fB,<-xp];exact Mi.1
 have ED:StrsAre acc.toList (aZ kvs):=by
  refine Mh (by rw[hl];unfold aZ;rw[aq]) λj v e=>?_
  obtain⟨k,x,hx,rH⟩:=Mi.2 j v (by rw[<-SO];exact e)
  obtain⟨y,hy,e1,_⟩:=Paired.get rel hx
  obtain⟨z,Mj⟩:=hk y (bh hy)
  have e1:y.1=k:=e1
  rw[Mj] at e1
  subst e1
  rcases jJ (show nj (Sum.inr z) v=true from rH) with ⟨i,t,e2,e3⟩ | ⟨x',t,e2,e3⟩
  .cases e2
  .cases e2
   refine⟨z,t,?_,e3⟩
   unfold aZ
   rw[bq,hy]
   simp[Mj]
 refine aj (wpAny_newList ?_ (by rw[hl];lia))
 have wG:(h'.push (seqObj "list" acc.toList.toArray 0)).get? h'.objs.size=some (seqObj "list" acc.toList.toArray 0):=cq _ rfl
 refine aj (gN (qF slot_list_sort ⟨_,wG,rfl⟩ entry_list_sort (list_sort_treeK strKind_oneLt wG ED.keysOf (λv₁ v₂ rest e=>keyKind_strs (by rw[<-e];exact ED)) (by lia) λeP hp hs=>⟨_,rfl,?_⟩) (args_list_sort _)))
 refine aH ⟨_,rfl,?_⟩
 obtain⟨EB,a1,a2,a3⟩:=sorted_out_str ED hp hs
 obtain⟨e,he⟩:=sortedHeap_at (out:=(arrOf eP).map (·.2)) wG
 have e1:cn (aZ kvs)=EB:=AW a2 (Mf a3)
 have I1:Inv X pins O H { s with heap:=h',toks:=tk }:=I.kept EC
 have hf:H h'.objs.size=none:=I1.aD.fresh (aN _)
 refine⟨.ref h'.objs.size,_,I1.laid (a:=h'.objs.size) (o := .lst ((cn (aZ kvs)).map V.str)) (t':=tk) (λb o z=>?_) (aN _) ?_,rfl,q _ hf⟩
 .have z:h'.get? b=some o:=z
  have hb:b<h'.objs.size:=bF z
  rw[sortedHeap_old (bO hb) (by rw[lO];exact lN hb),Heap.get?_push_ne _ _ _ (bO hb)]
  exact z
 .have kO:(cn (aZ kvs)).length=kvs.length:=by rw[(gH _).length_eq];unfold aZ;rw[aq]
  refine⟨by rw[aq];lia,((arrOf eP).map (·.2)).toList,e,?_,by rw[Array.toArray_toList];exact he⟩
  rw[e1]
  exact Mg a1
end
section
variable{X:Cx}{pins:List (Addr×Obj)}{O:St}{H:Hp}{s:Shared}
def Inv.Mm{o u:HO}(I:Inv X pins O H s)(ha:H a=some o)(new:cO X.prog X.w (upd H a u) s.heap a u)(h0:∀ob v,X.H₀ a≠some (.dS ob v))(h1:∀xs,X.H₀ a≠some (.tup xs))(h2:∀ps,X.H₀ a≠some (.nt ps))
  (n1:∀xs,o ≠ .tup xs) (n2:∀y,o ≠ .own y):Inv X pins O (upd H a u) s:=by
 have no:∀b,H b=none->upd H a u b=none:=λb hb=>by rw[ao (λz=>by rw[z,ha] at hb;cases hb)];exact hb
 refine⟨I.ok,I.os,I.bare,⟨I.base.keep,I.base.slot,λb ob e n hx=>no b (I.base.free b ob e n hx),I.base.there,λb xs e=>?_,λb ob v e=>?_,λb ps e=>?_⟩,I.loc,I.cell,no _ I.free,λx c e=>no c (I.fJ x c e),λp hp=>?_,λb v q=>?_,I.len⟩
 .rw[ao (λz=>h1 xs (by rw[<-z];exact e))];exact I.base.gv b xs e
 .rw[ao (λz=>h0 ob v (by rw[<-z];exact e))];exact I.base.jL b ob v e
 .rw[ao (λz=>h2 ps (by rw[<-z];exact e))];exact I.base.kH b ps e
 .obtain⟨p1,p2,p3,p4,p5⟩:=I.pin p hp
  exact⟨p1,no _ p2,p3,p4,p5⟩
 .by_cases hb:b=a
  .subst hb
   rw[au] at q
   cases q
   exact new
  .rw[ao hb] at q
   refine(I.aD b v q).kG (λc w _ e=>e) (λc e=>?_) λc xs e=>?_
   .rw[ao (λz=>n2 b (by rw[z,ha] at e;exact dm e))];exact e
   .rw[ao (λz=>n1 xs (by rw[z,ha] at e;exact dm e))];exact e
end
noncomputable def EE(a:Addr)(ob:Obj)(kvs:List (Key×V)):It:=
 ⟨λi H=>H a=some (.dS ob (.dK kvs))/\i<kvs.length,λi H x H'=>H'=H/\∃q,kvs[i]? = some q/\x=kV q.1,λi H=>H a=some (.dS ob (.dK kvs))/\i=kvs.length⟩
def W2{k:Key}{v:Value}(h:nj k v=true):RelV (kV k) v:=by
 rcases jJ h with ⟨i,t,rfl,rfl⟩ | ⟨x,t,rfl,rfl⟩
 .exact⟨t,rfl⟩
 .exact⟨t,rfl⟩
theorem W3{it:Addr}{vs:List (Key×Value)}{ep:Nat}(cJ:a≠it)(rel:KV kvs vs)(hD:∀h:Heap,h.get? a=some ob->h.DictAt (bV P w) a vs ep) :
  Turn P w K tg (EE a ob kvs) [it] it (λi h=>h.IsKeyIter it a i vs.length ep) where
 mem:=by simp
 obj:=λi h st b hb=>by
  obtain rfl:b=it:=by simpa using hb
  obtain⟨o,e,c,d⟩:=st
  exact⟨o,e,λv z=>by rw[d] at z;cases z⟩
 keep:=λi h h' st k=>st.at λo e=>k it (by simp) o e
 item:=by
  intro X hP hw hK hc i pins s O H E I hf st hg
  subst hP hw hK
  obtain⟨f0,f1,f2,f3,f4,f5⟩:=hf it (by simp)
  obtain⟨ha,hi⟩:=hg
  have W:=Walks.dictKeys (knd:=bV X.prog X.w) (A:=X.A) (I.ok.hd hc) it a cJ vs ep
  have xp:kvs.length=vs.length:=dy rel
  refine W.item i s _ _ (by lia) ⟨st,hD _ (I.aD a _ ha).1⟩ λv h' tk hv eP kk=>?_
  obtain⟨k,x,hx,hk⟩:=hv
  obtain⟨q,hq,e1,_⟩:=Paired.get rel hx
  have I1:Inv X pins O H { s with heap:=h',toks:=tk }:=I.turned (λb o hb e=>kk b o (by simpa using hb) e) f0 f1 f3 f4 f5
  obtain⟨o,e4,e5,e6⟩:=id eP.1
  have hk:nj k v=true:=hk
  refine⟨_,rfl,tM (s:={ s with heap:=h',toks:=tk }) e4 e5 e6 (by decide) ⟨kV k,H,I1,W2 hk,⟨rfl,q,hq,by rw[show q.1=k from e1]⟩,eP.1,λb hb=>(hf b hb).1⟩⟩
 done:=by
  intro X hP hw hK hc i pins s O H E I hf st hg
  subst hP hw hK
  obtain⟨f0,f1,f2,f3,f4,f5⟩:=hf it (by simp)
  obtain⟨ha,hi⟩:=hg
  have W:=Walks.dictKeys (knd:=bV X.prog X.w) (A:=X.A) (I.ok.hd hc) it a cJ vs ep
  have xp:kvs.length=vs.length:=dy rel
  have hi:i=vs.length:=by lia
  subst hi
  exact W.done s _ _ ⟨st,hD _ (I.aD a _ ha).1⟩ λh' tk kk=>⟨rfl,I.turned (λb o hb e=>kk b o (by simpa using hb) e) f0 f1 f3 f4 f5⟩
 self:=λ_ _ _ _ _ st h=>wpAny_pyIter_keyiter st h
def W4(tl:TE):TI:=λO H R=>tl O H λx H1=>∃a ob kvs,x = .ref a/\H1 a=some (.dS ob (.dK kvs))/\R (EE a ob kvs) H1
def W5{l:Expr}{tl:TE}(hl:PE X l tl):PI X tg l (W4 tl):=by
 intro pins s O H R I h
 refine aE (hl pins s O H _ I h) λv s1 ⟨x,H1,I1,r1,q1⟩=>?_
 obtain⟨a,ob,kvs,rfl,ha,q⟩:=q1
 cases r1
 obtain⟨pI,hz,hS,vs,rel,dd⟩:=I1.aD a _ ha
 obtain⟨ep,rG⟩:=dd.dictAt
 have aM:a<s1.heap.objs.size:=bF pI
 refine wpAny_pyIter_dict hS rG ?_
 refine⟨s1.heap.objs.size,[s1.heap.objs.size],_,_,H1,rfl,I1.kept (t':=s1.toks) λb o e=>bx _ e,W3 (bO aM) rel (λh' e=>?_),⟨_,cq _ rfl,rfl,rfl⟩,λb hb=>?_,q⟩
 .exact rG.at' λo e'=>by rw[pI] at e';cases e';exact e
 .obtain rfl:b=s1.heap.objs.size:=by simpa using hb
  exact I1.jO (aN _) I1.fresh
def W6:nN (EE a ob kvs) (λH=>H a=some (.dS ob (.dK kvs))) (kvs.map λq=>kV q.1):=
 ⟨λi H h hi=>⟨h,by simpa using hi⟩,λi H x H' h _ y=>⟨y.1,by
  obtain⟨_,q,e1,e2⟩:=y
  rw[bq,e1,e2]
  rfl⟩,λH h=>⟨h,by simp⟩⟩
def W7(t:TS):TS:=λD O H=>∃a kvs,H a=some (.dK kvs)/\∀ob,t { nx:=λO' H'=>H' a=some (.dS ob (.dK kvs))/\D.nx O' (upd H' a (.dK kvs)),bk:=λ_ _=>False,ct:=λ_ _=>False,rt:=λ_ _=>False } O (upd H a (.dS ob (.dK kvs)))
def W8{t:TS}(h:PS X st t):PS X st (W7 t):=by
 intro pins s O H D I hq
 obtain⟨a,kvs,ha,hq⟩:=hq
 have ok:=I.aD a _ ha
 obtain⟨z,y,vs,r,ob,es,ep,pI,rest⟩:=id ok
 have h0:∀ob v,X.H₀ a≠some (.dS ob v):=λob v e=>by have:=I.base.jL a ob v e;rw[ha] at this;cases this
 have h1:∀xs,X.H₀ a≠some (.tup xs):=λxs e=>by have:=I.base.gv a xs e;rw[ha] at this;cases this
 have h2:∀ps,X.H₀ a≠some (.nt ps):=λps e=>by obtain⟨m,this⟩:=I.base.kH a ps e;rw[ha] at this;cases this
 have I1:Inv X pins O (upd H a (.dS ob (.dK kvs))) s:=I.Mm ha ⟨pI,ok⟩ h0 h1 h2 (λ_ z=>by cases z) (λ_ z=>by cases z)
 refine aE (h pins s O _ _ I1 (hq ob)) λf s1 hs=>?_
 cases f with
 |next=>
  obtain⟨O',H1,J,e1,q⟩:=hs
  exact⟨O',upd H1 a (.dK kvs),J.Mm e1 (J.aD a _ e1).2 h0 h1 h2 (λ_ z=>by cases z) (λ_ z=>by cases z),q⟩
 |brk=>obtain⟨_,_,_,q⟩:=hs;exact q.elim
 |cont=>obtain⟨_,_,_,q⟩:=hs;exact q.elim
 |ret u=>obtain⟨_,_,_,_,_,q⟩:=hs;exact q.elim
section
variable{X:Cx}
noncomputable def fN(z:Str)(n:Nat):Str:=⟨(List.replicate n z.cps.toList).flatten.toArray⟩
theorem Mn(a:Array Nat):∀(n:Nat) (b:Array Nat),((List.replicate n a).foldl (· ++ ·) b).toList=b.toList++(List.replicate n a.toList).flatten
 |0,b=>by simp
 |n+1,b=>by
  rw[oO,List.foldl_cons,Mn a n (b++a),oO,wa,Array.toList_append,tf]
theorem W9(z:Str){k:Int}(h:0<=k):Txt.mul z k=fN z k.toNat:=by
 unfold Txt.mul fN
 by_cases h1:k<1
 .have:k=0:=by lia
  subst this
  rw[aA (by decide)]
  rfl
 .rw[av h1]
  split
  .rename_i hc
   rcases(wc _ _ ▸ hc:(k==1)=true\/(z.length==0)=true) with hc | hc
   .have:k=1:=eq_of_beq hc
    subst this
    simp
   .have hz:z.cps.toList=[]:=List.eq_nil_of_length_eq_zero (by have:=eq_of_beq hc;simpa[Str.length] using this)
    cases z with
    |mk a=>
     have ha:a = #[]:=by simpa using hz
     subst ha
     simp
  .congr 1
   apply Array.toList_inj.mp
   rw[Mn]
   simp
theorem Mo:cK X (binaryOp .Mult) (λx y H Q=>∃z k,x = .str z/\y = .int k/\0<=k/\k<=1000/\z.length<=1000/\Q (.str (fN z k.toNat)) H):=by
 intro pins s O H x y v u Q I rx ry h
 obtain⟨z,k,rfl,rfl,h0,h1,hz,q⟩:=h
 obtain⟨t,rfl⟩:=rx
 obtain⟨t',rfl⟩:=ry
 refine SB.mul ⟨?_,λhk _=>?_,λhk _=>?_⟩ λt2 k2=>⟨.str (fN z k.toNat),H,I.tok _,⟨t2,by rw[W9 z h0]⟩,q⟩
 .rw[Bool.or_eq_false_iff]
  exact⟨aK (by lia),aK (by lia)⟩
 .have:(1000:Int)<=(2 ^ 63 - 1) / k:=by
   rw[Int.le_ediv_iff_mul_le (by lia)]
   have:1000*k<=1000*1000:=Int.mul_le_mul_of_nonneg_left h1 (by decide)
   exact Int.le_trans this (by decide)
  lia
 .have:z.length*k.toNat<=1000*1000:=wk hz (by lia)
  unfold Builtin.Str.tooLong
  exact aK (by have hs:1000*1000<=sizeLine:=(by decide);lia)
def Mp:V->List V->Hp->VK->Prop:=λx vs H Q=>∃y z,x = .str y/\vs=[.str z]/\Q (.int (Txt.count y z)) H
def Xa:Av X "str.count" Mp:=by
 intro pins s O H x vs v us Q I rx rv h
 obtain⟨y,z,rfl,rfl,q⟩:=h
 obtain⟨t,rfl⟩:=rx
 obtain⟨u,rfl,t',rfl⟩:=rv.one
 exact SC.count ⟨.int _,H,I.tok _,⟨_,rfl⟩,q⟩
end
structure pJ(z ti to i j:Addr)(f g:List Addr):Prop where
 a1:ti≠z
 a2:to≠z
 a3:i≠z
 a4:j≠z
 a6:to≠i
 a7:to≠j
 a8:i≠j
 b1:z∉f
 b2:to∉f
 b3:j∉f
 c1:z∉g
 c2:to∉g
 c3:i∉g
section
variable{prog:Program}{w:World}{A:Around}{E:Value->Shared->Prop}{s:Shared}{z ti to i j:Addr}{f g:List Addr}{n m k:Nat}{P R:Nat->Value->Prop}{S T:Nat->Heap->Prop}{a b:Value}
def mv{l:List Addr}(fr:∀i h h',U i h->(∀b∈l,∀o,h.get? b=some o->h'.get? b=some o)->U i h')(hy:y∉l)(hs:Heap.SameBut y h h')(u:U q h):U q h':=
 fr q h h' u λb hb o e=>hs.extBut b o (λx=>hy (x ▸ hb)) e
def Xb(D1:Draws prog w A i f n P S)(D2:Draws prog w A j g m R T)(Z:pJ z ti to i j f g)(hz:IsZip s.heap z ti to .none)(ht:IsPair s.heap ti (.ref i) (.ref j))(ho:IsPair s.heap to a b)
  (s1:S k s.heap) (s2:T k s.heap) (l1:k<n) (l2:k<m)
  (fin:∀h' tk x y,P k x->R k y->IsZip h' z ti to (rawInt s.heap.objs.size)->IsPair h' to x y->S (k+1) h'->T (k+1) h'->IsPair h' s.heap.objs.size x y->h'.objs.size=s.heap.objs.size+1->
   (∀c o,c≠z->c≠to->c≠i->c≠j->s.heap.get? c=some o->h'.get? c=some o)->Q (.ref s.heap.objs.size) { s with heap:=h',toks:=tk }) :
  wpAny (model prog w) A (Builtin.«zip.__next__» ⟨[.ref z],[]⟩) (λr s' =>∃v,r = .done (.ret v)/\Q v s') E s:=by
 show wpAny _ _ (field (Value.ref z) 2 >>= _) _ _ s
 refine aj (iq (i:=2) hz rfl (x := .bool false) rfl ?_)
 show wpAny _ _ (field (Value.ref z) 3 >>= _) _ _ s
 refine aj (iq (i:=3) hz rfl (x := .ref ti) rfl (aj (kE ht rfl ?_)))
 show wpAny _ _ (Builtin.SmallTypes.ownedTupleIsFree (Value.ref z) >>= _) _ _ s
 refine aj ?_
 unfold Builtin.SmallTypes.ownedTupleIsFree
 refine aj (iq (i:=0) hz rfl (x := .none) rfl (aH ?_))
 simp only[gr]
 refine aj (tE (aj (iq (i:=4) hz rfl (x := .ref to) rfl (aj (zN hz (by simp) λg1 y1 u1=>?_)))))
 have y1:IsZip g1 z ti to .ellipsis:=y1
 refine aj ?_
 simp only[List.zipIdx_cons,List.zipIdx_nil,JM,List.forIn_nil]
 refine aj (aj (wpAny_onRaise ?_))
 show wpAny _ _ (Builtin.SmallTypes.nextOf (Value.ref i) >>= _) _ _ _
 refine aj (D1.item k { s with heap:=g1 } _ _ l1 (mv D1.frame Z.b1 u1 s1) λx g2 jw px Mq u2=>aH ?_)
 have o2:IsPair g2 to a b:=u2.extBut _ _ Z.a6 (u1.extBut _ _ Z.a2 ho)
 refine aj (kE o2 rfl (aj (SQ (s:={ s with heap:=g2,toks:=jw }) o2 λg3 o3 u3=>?_)))
 have o3:IsPair g3 to x b:=o3
 refine aj (wm (aH ?_))
 refine aj (aj (wpAny_onRaise ?_))
 show wpAny _ _ (Builtin.SmallTypes.nextOf (Value.ref j) >>= _) _ _ _
 refine aj (D2.item k { s with heap:=g3,toks:=jw } _ _ l2 (mv D2.frame Z.c2 u3 (mv D2.frame Z.c3 u2 (mv D2.frame Z.c1 u1 s2))) λy g4 xq py xt u4=>aH ?_)
 have o4:IsPair g4 to x b:=u4.extBut _ _ Z.a7 o3
 refine aj (kE o4 rfl (aj (SQ (s:={ s with heap:=g4,toks:=xq }) o4 λg5 o5 u5=>?_)))
 have o5:IsPair g5 to x y:=o5
 refine aj (wm (aH (aH ?_)))
 refine aj (kE o5 rfl (aj (wpAny_newTuple ?_)))
 have sz:g5.objs.size=s.heap.objs.size:=by rw[u5.1,u4.1,u3.1,u2.1,u1.1]
 have y5:IsZip g5 z ti to .ellipsis:=u5.extBut _ _ (bu Z.a2) (u4.extBut _ _ (bu Z.a4) (u3.extBut _ _ (bu Z.a2) (u2.extBut _ _ (bu Z.a3) y1)))
 have zl:z<g5.objs.size:=bF y5
 have kp:∀c o,c≠z->c≠to->c≠i->c≠j->s.heap.get? c=some o->g5.get? c=some o:=λc o d1 d2 d3 d4 q=>
  u5.extBut _ _ d2 (u4.extBut _ _ d4 (u3.extBut _ _ d2 (u2.extBut _ _ d3 (u1.extBut _ _ d1 q))))
 have r1:S (k+1) g5:=mv D1.frame Z.b2 u5 (mv D1.frame Z.b3 u4 (mv D1.frame Z.b2 u3 Mq))
 have r2:T (k+1) g5:=mv D2.frame Z.c2 u5 xt
 show wpAny _ _ (Builtin.SmallTypes.ownedTupleHandOut (Value.ref z) (.ref g5.objs.size) >>= _) _ _ _
 refine aj ?_
 unfold Builtin.SmallTypes.ownedTupleHandOut
 have y6:IsZip (g5.push { cls := .type "tuple",data := .seq #[x,y] }) z ti to .ellipsis:=bx _ y5
 refine aj (zN (s:={ s with heap:=g5.push { cls := .type "tuple",data := .seq #[x,y] },toks:=xq }) y6 (by simp) λg7 y7 u7=>?_)
 have y7:IsZip g7 z ti to (rawInt g5.objs.size):=y7
 refine zN (s:={ s with heap:=g7,toks:=xq }) y7 (by simp) λg8 y8 u8=>?_
 have y8:IsZip g8 z ti to (rawInt g5.objs.size):=y8
 have up:∀c o,c≠z->g5.get? c=some o->g8.get? c=some o:=λc o d q=>u8.extBut _ _ d (u7.extBut _ _ d (bx _ q))
 have t8:IsPair g8 g5.objs.size x y:=u8.extBut _ _ (zo zl) (u7.extBut _ _ (zo zl) (cq _ rfl))
 have z8:g8.objs.size=g5.objs.size+1:=by rw[u8.1,u7.1,km]
 have w1:S (k+1) g8:=D1.frame _ g5 g8 r1 λc hc o q=>up c o (λv=>Z.b1 (v ▸ hc)) q
 have w2:T (k+1) g8:=D2.frame _ g5 g8 r2 λc hc o q=>up c o (λv=>Z.c1 (v ▸ hc)) q
 refine aH ⟨_,rfl,?_⟩
 show Q (.ref g5.objs.size) { s with heap:=g8,toks:=xq }
 rw[sz] at y8 t8 z8 ⊢
 exact fin g8 xq x y px py y8 (up _ _ Z.a2 o5) w1 w2 t8 z8 λc o d1 d2 d3 d4 q=>up c o d1 (kp c o d1 d2 d3 d4 q)
def Xc{Q:Fin->Shared->Prop}(D1:Draws prog w A i f n P S)(D2:Draws prog w A j g m R T)(Z:pJ z ti to i j f g)(hz:IsZip s.heap z ti to .none)(ht:IsPair s.heap ti (.ref i) (.ref j))(ho:IsPair s.heap to a b)
  (s1:S k s.heap) (s2:T k s.heap) (l:k=n\/(k<n/\k=m))
  (fin:∀h' tk e,(∀c o,c≠z->c≠to->c≠i->c≠j->s.heap.get? c=some o->h'.get? c=some o)->(∃o,h'.get? e=some o/\o.cls = .type "StopIteration")->E (.ref e) { s with heap:=h',toks:=tk }) :
  wpAny (model prog w) A (Builtin.«zip.__next__» ⟨[.ref z],[]⟩) Q E s:=by
 show wpAny _ _ (field (Value.ref z) 2 >>= _) _ _ s
 refine aj (iq (i:=2) hz rfl (x := .bool false) rfl ?_)
 show wpAny _ _ (field (Value.ref z) 3 >>= _) _ _ s
 refine aj (iq (i:=3) hz rfl (x := .ref ti) rfl (aj (kE ht rfl ?_)))
 show wpAny _ _ (Builtin.SmallTypes.ownedTupleIsFree (Value.ref z) >>= _) _ _ s
 refine aj ?_
 unfold Builtin.SmallTypes.ownedTupleIsFree
 refine aj (iq (i:=0) hz rfl (x := .none) rfl (aH ?_))
 simp only[gr]
 refine aj (tE (aj (iq (i:=4) hz rfl (x := .ref to) rfl (aj (zN hz (by simp) λg1 y1 u1=>?_)))))
 have y1:IsZip g1 z ti to .ellipsis:=y1
 refine aj ?_
 simp only[List.zipIdx_cons,List.zipIdx_nil,JM,List.forIn_nil]
 refine aj (aj (wpAny_onRaise ?_))
 show wpAny _ _ (Builtin.SmallTypes.nextOf (Value.ref i) >>= _) _ _ _
 rcases l with l | ⟨l,l'⟩
 .subst l
  refine aj (D1.done { s with heap:=g1 } _ _ (mv D1.frame Z.b1 u1 s1) λg2 e u2 he=>?_)
  obtain⟨oe,e1,e2⟩:=he
  have y2:IsZip g2 z ti to .ellipsis:=u2 _ _ (bu Z.a3) y1
  have ez:e≠z:=λv=>by
   subst v
   rw[y2] at e1
   cases e1
   simp at e2
  refine zN (s:={ s with heap:=g2 }) y2 (by simp) λg3 _ u3=>fin g3 s.toks e (λc o d1 _ d3 _ q=>u3.extBut _ _ d1 (u2 _ _ d3 (u1.extBut _ _ d1 q))) ⟨oe,u3.extBut _ _ ez e1,e2⟩
 .subst l'
  refine aj (D1.item k { s with heap:=g1 } _ _ l (mv D1.frame Z.b1 u1 s1) λx g2 jw px Mq u2=>aH ?_)
  have o2:IsPair g2 to a b:=u2.extBut _ _ Z.a6 (u1.extBut _ _ Z.a2 ho)
  refine aj (kE o2 rfl (aj (SQ (s:={ s with heap:=g2,toks:=jw }) o2 λg3 o3 u3=>?_)))
  refine aj (wm (aH ?_))
  refine aj (aj (wpAny_onRaise ?_))
  show wpAny _ _ (Builtin.SmallTypes.nextOf (Value.ref j) >>= _) _ _ _
  refine aj (D2.done { s with heap:=g3,toks:=jw } _ _ (mv D2.frame Z.c2 u3 (mv D2.frame Z.c3 u2 (mv D2.frame Z.c1 u1 s2))) λg4 e u4 he=>?_)
  obtain⟨oe,e1,e2⟩:=he
  have y4:IsZip g4 z ti to .ellipsis:=u4 _ _ (bu Z.a4) (u3.extBut _ _ (bu Z.a2) (u2.extBut _ _ (bu Z.a3) y1))
  have ez:e≠z:=λv=>by
   subst v
   rw[y4] at e1
   cases e1
   simp at e2
  refine zN (s:={ s with heap:=g4,toks:=jw }) y4 (by simp) λg5 _ u5=>fin g5 jw e (λc o d1 d2 d3 d4 q=>u5.extBut _ _ d1 (u4 _ _ d4 (u3.extBut _ _ d2 (u2.extBut _ _ d3 (u1.extBut _ _ d1 q))))) ⟨oe,u5.extBut _ _ ez e1,e2⟩
def Xd{Q:Option Value->Shared->Prop}(D1:Draws prog w A.in1 i f n P S)(D2:Draws prog w A.in1 j g m R T)(Z:pJ z ti to i j f g)(hz:IsZip s.heap z ti to .none)(ht:IsPair s.heap ti (.ref i) (.ref j))(ho:IsPair s.heap to a b)
  (s1:S k s.heap) (s2:T k s.heap) (l1:k<n) (l2:k<m)
  (fin:∀h' tk x y,P k x->R k y->IsZip h' z ti to (rawInt s.heap.objs.size)->IsPair h' to x y->S (k+1) h'->T (k+1) h'->IsPair h' s.heap.objs.size x y->h'.objs.size=s.heap.objs.size+1->
   (∀c o,c≠z->c≠to->c≠i->c≠j->s.heap.get? c=some o->h'.get? c=some o)->Q (some (.ref s.heap.objs.size)) { s with heap:=h',toks:=tk }) :
  wpAny (model prog w) A (pyNext (.ref z)) Q E s:=by
 have tz:s.TypeIs (.ref z) "zip":=⟨_,hz,rfl⟩
 unfold pyNext
 refine aj (zK (zL (name:=Str.ofString "__next__") tz JT (qF JT tz F.entry_zip_next
   (Xb D1 D2 Z hz ht ho s1 s2 l1 l2 λh' tk x y p1 p2 p3 p4 p5 p6 p7 p8 p9=>aH (fin h' tk x y p1 p2 p3 p4 p5 p6 p7 p8 p9)) (F.args_zip_next_1 _))))
def Xe{Q:Option Value->Shared->Prop}(D1:Draws prog w A.in1 i f n P S)(D2:Draws prog w A.in1 j g m R T)(Z:pJ z ti to i j f g)(hz:IsZip s.heap z ti to .none)(ht:IsPair s.heap ti (.ref i) (.ref j))(ho:IsPair s.heap to a b)
  (s1:S k s.heap) (s2:T k s.heap) (l:k=n\/(k<n/\k=m))
  (fin:∀h' tk,(∀c o,c≠z->c≠to->c≠i->c≠j->s.heap.get? c=some o->h'.get? c=some o)->Q none { s with heap:=h',toks:=tk }):wpAny (model prog w) A (pyNext (.ref z)) Q E s:=by
 have tz:s.TypeIs (.ref z) "zip":=⟨_,hz,rfl⟩
 unfold pyNext
 refine aj (zK (zL (name:=Str.ofString "__next__") tz JT (qF JT tz F.entry_zip_next (Xc D1 D2 Z hz ht ho s1 s2 l λh' tk e kp he=>?_) (F.args_zip_next_1 _))))
 obtain⟨o,e1,e2⟩:=he
 exact aj (JQ (T:="StopIteration") (b:=true) ⟨o,e1,e2⟩ isSubtype_stop (aH (fin h' tk kp)))
noncomputable abbrev zA(h:Heap)(o1 o2:Obj):Heap:=(h.push o1).push o2
noncomputable abbrev zB(h:Heap)(o1 o2:Obj):Heap:=(zA h o1 o2).push { cls := .type "tuple",data := .seq #[.ref h.objs.size,.ref (h.push o1).objs.size] }
noncomputable abbrev zC(h:Heap)(o1 o2:Obj):Heap:=(zB h o1 o2).push { cls := .type "tuple",data := .seq #[.none,.none] }
noncomputable abbrev zD(h:Heap)(o1 o2:Obj):Heap:=(zC h o1 o2).push { cls := .type "zip",data := .fields #[.none,.bool false,.bool false,.ref (zA h o1 o2).objs.size,.ref (zB h o1 o2).objs.size] }
def Xf(h1:∀(prog:Program) (w:World) (A:Around) (E:Value->Shared->Prop) (s:Shared) (Q:Value->Shared->Prop),K1 s->Q (.ref s.heap.objs.size) { s with heap:=s.heap.push o1 }->wpAny (model prog w) A (pyIter v1) Q E s)
  (h2:∀(prog:Program) (w:World) (A:Around) (E:Value->Shared->Prop) (s:Shared) (Q:Value->Shared->Prop),K2 s->Q (.ref s.heap.objs.size) { s with heap:=s.heap.push o2 }->wpAny (model prog w) A (pyIter v2) Q E s) :
  Meets (Builtin.«zip.__new__» ⟨[.type "zip",v1,v2],[]⟩) (λ_ R s=>K1 s/\K2 { s with heap:=s.heap.push o1 }/\R (.ok (.ret (.ref (zC s.heap o1 o2).objs.size))) { s with heap:=zD s.heap o1 o2 }):=
 .of_wp λprog w A R s h=>by
  obtain⟨hp,gg,dd,tk,os⟩:=s
  obtain⟨k1,k2,h⟩:=h
  have sz:=sub_zip
  have i1:=λ(E:Value->Shared->Prop) (A:Around) (Q:Value->Shared->Prop)=>h1 prog w A E ⟨hp,gg,dd,tk,os⟩ Q k1
  have i2:=λ(E:Value->Shared->Prop) (A:Around) (Q:Value->Shared->Prop)=>h2 prog w A E ⟨hp.push o1,gg,dd,tk,os⟩ Q k2
  wp_walk using i1 _ _ _,i2 _ _ _
  exact⟨_,rfl,h⟩
end
section
variable{prog:Program}{w:World}{A:Around}{E:Value->Shared->Prop}{s:Shared}
def Xg(h1:∀(prog:Program) (w:World) (A:Around) (E:Value->Shared->Prop) (s:Shared) (Q:Value->Shared->Prop),K1 s->Q (.ref s.heap.objs.size) { s with heap:=s.heap.push o1 }->wpAny (model prog w) A (pyIter v1) Q E s)
  (h2:∀(prog:Program) (w:World) (A:Around) (E:Value->Shared->Prop) (s:Shared) (Q:Value->Shared->Prop),K2 s->Q (.ref s.heap.objs.size) { s with heap:=s.heap.push o2 }->wpAny (model prog w) A (pyIter v2) Q E s)
  (k1:K1 s) (k2:K2 { s with heap:=s.heap.push o1 }) (EF:o1.isFreed=false) (jt:o2.isFreed=false)
  (fin:∀h',IsZip h' (s.heap.objs.size+4) (s.heap.objs.size+2) (s.heap.objs.size+3) .none->IsPair h' (s.heap.objs.size+2) (.ref s.heap.objs.size) (.ref (s.heap.objs.size+1))->IsPair h' (s.heap.objs.size+3) .none .none->
   h'.get? s.heap.objs.size=some o1->h'.get? (s.heap.objs.size+1)=some o2->(∀c o,s.heap.get? c=some o->h'.get? c=some o)->Q (.ref (s.heap.objs.size+4)) { s with heap:=h' }) :
  wpAny (model prog w) A (call (.type "zip") [v1,v2]) Q E s:=by
 refine callType_new F.called_zip (by decide) (F.typeCall_zip_2 _ _) (F.newCall_zip_2 _ _) (λobj=>F.args_object_init_3 obj _ _) F.entry_zip_new (Xf h1 h2) ⟨k1,k2,?_⟩
 have y1:(s.heap.push o1).objs.size=s.heap.objs.size+1:=km ..
 have y2:(zA s.heap o1 o2).objs.size=s.heap.objs.size+2:=by rw[km,y1]
 have y3:(zB s.heap o1 o2).objs.size=s.heap.objs.size+3:=by rw[km,y2]
 have y4:(zC s.heap o1 o2).objs.size=s.heap.objs.size+4:=by rw[km,y3]
 have e5:(zD s.heap o1 o2).get? (zC s.heap o1 o2).objs.size=some _:=cq _ rfl
 have e4:(zD s.heap o1 o2).get? (zB s.heap o1 o2).objs.size=some _:=bx _ (cq _ rfl)
 have EG:∀{c o},(zA s.heap o1 o2).get? c=some o->(zD s.heap o1 o2).get? c=some o:=λq=>bx _ (bx _ (bx _ q))
 have e3:(zD s.heap o1 o2).get? (zA s.heap o1 o2).objs.size=some _:=bx _ (bx _ (cq _ rfl))
 have e2:(zD s.heap o1 o2).get? (s.heap.push o1).objs.size=some o2:=EG (cq _ jt)
 have e1:(zD s.heap o1 o2).get? s.heap.objs.size=some o1:=EG (bx _ (cq _ EF))
 show _/\_
 rw[y2,y3,y4] at e5
 rw[y1,y2] at e3
 rw[y3] at e4
 rw[y1] at e2
 rw[y4]
 exact⟨⟨_,e5,rfl⟩,fin _ e5 e3 e4 e1 e2 λc o q=>EG (bx _ (bx _ q))⟩
end
def Xh(hh:A.handled=none)(it:Addr)(x:Str)(t:Tok):Draws prog w A it [it] x.cps.size (λi v=>∃c u,x.cps[i]? = some c/\v = .str ⟨#[c]⟩ u) (λi h=>h.IsStrIter it (strIterType x) x t i):=by
 unfold strIterType
 split
 .exact Draws.strAscii hh it x t
 .exact Draws.strWide hh it x t
theorem AX(n:Nat):pJ (n+4) (n+2) (n+3) n (n+1) [n] [n+1]/\(n+2:Nat)≠n+3/\(n+2:Nat)≠n/\(n+2:Nat)≠n+1:=by
 have ne:∀a b:Nat,a≠b->(n+a:Nat)≠n+b:=λa b h=>by lia
 have m1:∀a b:Nat,a≠b->(n+a:Nat)∉[n+b]:=λa b h hm=>ne a b h (cb.mp hm)
 exact⟨⟨ne 2 4 (by decide),ne 3 4 (by decide),ne 0 4 (by decide),ne 1 4 (by decide),ne 3 0 (by decide),ne 3 1 (by decide),ne 0 1 (by decide),m1 4 0 (by decide),m1 3 0 (by decide),m1 1 0 (by decide),m1 4 1 (by decide),m1 3 1 (by decide),m1 0 1 (by decide)⟩,ne 2 3 (by decide),ne 2 0 (by decide),ne 2 1 (by decide)⟩
def Xi:bootBuiltins "zip"=some (.type "zip"):=by decide +kernel
section
variable{prog:Program}{w:World}{A:Around}{E:Value->Shared->Prop}{s:Shared}{it l:Addr}{i:Nat}{items:Array Value}
def Xj{x:Value}(hit:s.heap.IsTupleIter it l i)(hl:s.heap.IsTuple l items)(hx:items[i]? = some x)(hQ:∀h',h'.IsTupleIter it l (i+1)->Heap.SameBut it s.heap h'->Q x { s with heap:=h' }):wpAny (model prog w) A (Builtin.SmallTypes.nextOf (.ref it)) Q E s:=by
 obtain⟨o,ho,hc,hd⟩:=id hit;obtain⟨ol,EH,_,nl,EI⟩:=hl
 unfold Builtin.SmallTypes.nextOf;refine aj (zL (name:=Str.ofString "__next__") hit.typeIs JU (qF JU hit.typeIs F.entry_tuple_iterator_next ?_ (F.args_tuple_iterator_next_1 _)))
 show wpAny _ _ (field (.ref it) 0 >>= _) _ _ s;refine aj (iq ho hd (x := .ref l) rfl ?_)
 show wpAny _ _ (if (Value.ref l==Value.none)=true then _ else _) _ _ s;rw[av (show ¬((Value.ref l==Value.none)=true) from bZ)]
 show wpAny _ _ (field (.ref it) 1 >>= _) _ _ s;refine aj (iq ho hd (x := .int i 0) rfl ?_)
 show wpAny _ _ (seqItems? (.ref l) >>= _) _ _ s;refine aj (kE EH EI ?_);simp only[fE,hx]
 refine aj (Dn ho hd (by simp) (aH ⟨x,rfl,aH (hQ _ ⟨_,oN _ ho (SN (zM hd _)),(Obj.cls_mapFields ..).trans hc,?_⟩ (qG ..))⟩))
 rw[zM hd];simp[rawInt]
def Xk(hh:A.handled=none)(hit:s.heap.IsTupleIter it l i)(hl:s.heap.IsTuple l items)(hx:items[i]? = none)(hE:∀h' e,Heap.ExtBut it s.heap h'->(∃o,h'.get? e=some o/\o.cls = .type "StopIteration")->E (.ref e) { s with heap:=h' }):wpAny (model prog w) A (Builtin.SmallTypes.nextOf (.ref it)) Q E s:=by
 obtain⟨o,ho,hc,hd⟩:=id hit;obtain⟨ol,EH,_,nl,EI⟩:=hl
 unfold Builtin.SmallTypes.nextOf;refine aj (zL (name:=Str.ofString "__next__") hit.typeIs JU (qF JU hit.typeIs F.entry_tuple_iterator_next ?_ (F.args_tuple_iterator_next_1 _)))
 show wpAny _ _ (field (.ref it) 0 >>= _) _ _ s;refine aj (iq ho hd (x := .ref l) rfl ?_)
 show wpAny _ _ (if (Value.ref l==Value.none)=true then _ else _) _ _ s;rw[av (show ¬((Value.ref l==Value.none)=true) from bZ)]
 show wpAny _ _ (field (.ref it) 1 >>= _) _ _ s;refine aj (iq ho hd (x := .int i 0) rfl ?_)
 show wpAny _ _ (seqItems? (.ref l) >>= _) _ _ s;refine aj (kE EH EI ?_);simp only[fE,hx]
 refine aj (tE (aj (Dn ho hd (by simp) ?_)));show wpAny _ _ (newExc (.type "StopIteration") [] >>= _) _ _ _
 refine aj ?_;simp only[newExc,newTuple];refine aj (we ?_ (by size_fits))
 refine aj (m:=firstArgMember _ _) (oS (a:=Value.none) (by first | rfl | (simp only[firstArgMember];rfl)) (we ?_ (by size_fits)))
 simp only[raiseNew];refine aj (wpAny_handled ?_)
 first | rw[show A.in1.handled=none from hh];refine aj (aH (wpAny_throw ?_)) | rw[hh];refine aj (aH (wpAny_throw ?_))
 exact hE _ _ (((qG ..).extBut.push _).push _) ⟨_,cq _ rfl,rfl⟩
end
def Xl(hh:A.handled=none)(it l:Addr)(cJ:l≠it)(items:Array Value) :
  Draws prog w A it [it,l] items.size (λi v=>items[i]? = some v) (λi h=>h.IsTupleIter it l i/\h.IsTuple l items) where
 live:=λ_ _ st=>by obtain⟨⟨o,ho,_⟩,_⟩:=st;exact⟨o,ho⟩
 frame:=λ_ _ _ st hk=>by obtain⟨⟨o,ho,r⟩,⟨p,hp,q⟩⟩:=st;exact⟨⟨o,hk it (by simp) o ho,r⟩,⟨p,hk l (by simp) p hp,q⟩⟩
 item:=λi s Q E hi st hQ=>Xj st.1 st.2 (x:=items[i]) (by simp[hi]) λh' a b=>hQ _ h' s.toks (by simp[hi]) ⟨a,st.2.extBut b.extBut cJ⟩ b
 done:=λs Q E st hE=>Xk hh st.1 st.2 (by simp) hE
def Xm{b:Addr}(I:Inv X pins O H s)(h:ax X.K H a xs)(f:fg X pins H b):a≠b:=by
 intro z
 subst z
 rcases h with (h | ⟨o,h⟩) | ⟨o,its,n,hk,_⟩
 .rw[f.1] at h;cases h
 .rw[f.1] at h;cases h
 .have e:=I.mod.qL a o hk
  rcases f.2.2.2.1 with h | h
  .exact I.ok.qM a o e h
  .exact absurd (gM (bF (I.ok.bs a o e).1) h) (sW _)
def Xn{b:Addr}(I:Inv X pins O H s)(h:ak X.K H a xs)(f:fg X pins H b):a≠b:=by
 intro z
 subst z
 rcases h with (h | ⟨o,h⟩) | ⟨o,its,n,hk,_⟩
 .rw[f.1] at h;cases h
 .rw[f.1] at h;cases h
 .have e:=I.mod.qL a o hk
  rcases f.2.2.2.1 with h | h
  .exact I.ok.qM a o e h
  .exact absurd (gM (bF (I.ok.bs a o e).1) h) (sW _)
inductive ZK where
 |L | T | S
def zq(k:ZK)(K:Frag)(H:Hp)(v:V)(xs:List V):Prop:=match k with
 |.L=>∃a,v = .ref a/\ak K H a xs
 |.T=>∃a,v = .ref a/\ax K H a xs
 |.S=>∃x:Str,v = .str x/\xs=x.cps.toList.map λc=>V.str ⟨#[c]⟩
def mh(k:ZK)(v:V)(t:Tok)(h:Heap)(i:Addr)(q:Nat):Prop:=match k with
 |.L=>∃a,v = .ref a/\h.IsListIter i a q
 |.T=>∃a,v = .ref a/\h.IsTupleIter i a q
 |.S=>∃x:Str,v = .str x/\h.IsStrIter i (strIterType x) x t q
def uf{k:ZK}{t:Tok}(z:mh k v t h i q):∃o,h.get? i=some o/\∀v,o.data ≠ .cell v:=by
 cases k <;> obtain⟨_,_,o,h1,_,h3⟩:=z <;> exact⟨o,h1,λv e=>by rw[h3] at e;cases e⟩
def ug{k:ZK}{t:Tok}(z:mh k v t h i q)(m:∀o,h.get? i=some o->h'.get? i=some o):mh k v t h' i q:=by
 cases k <;> obtain⟨a,e,o,h1,r⟩:=z <;> exact⟨a,e,o,m o h1,r⟩
def Mr{k:ZK}(I:Inv X pins O H s)(h:zq k X.K H v xs)(g:zq k X.K H v ys):xs=ys:=by
 cases k with
 |L=>obtain⟨a,rfl,h⟩:=h;obtain⟨_,e,g⟩:=g;cases e;exact I.DD h g
 |T=>obtain⟨a,rfl,h⟩:=h;obtain⟨_,e,g⟩:=g;cases e;exact I.DE h g
 |S=>obtain⟨a,rfl,rfl⟩:=h;obtain⟨_,e,rfl⟩:=g;cases e;rfl
def uh{k:ZK}{t:Tok}(I:Inv X pins O H s)(hh:X.A.in1.handled=none)(hq:zq k X.K H v xs)(st:mh k v t s.heap i q)(hi:fg X pins H i) :
  ∃(f:List Addr) (P:Nat->Value->Prop) (S:Nat->Heap->Prop),Draws X.prog X.w X.A.in1 i f xs.length P S/\S q s.heap/\(∀b,b≠i->fg X pins H b->b∉f)/\(∀n u x,P n u->xs[n]? = some x->RelV x u)/\∀n h,S n h->mh k v t h i n:=by
 cases k with
 |L=>
  obtain⟨a,rfl,hq⟩:=hq
  obtain⟨_,e,st⟩:=st
  cases e
  obtain⟨ia,ra,pa,_⟩:=I.list hq
  have na:=λb (hb:fg X pins H b)=>Xn I hq hb
  have la:ia.toArray.size=xs.length:=by rw[bg];exact ra.length.symm
  refine⟨_,_,_,la ▸ Draws.list hh i a (na i hi) ia.toArray,⟨st,pa.isList⟩,λb hb f m=>?_,λn u x p hx=>?_,λn h s=>⟨a,rfl,s.1⟩⟩
  .rcases b9.mp m with z | z
   .exact hb z
   .exact na b f (cb.mp z).symm
  .obtain⟨u',e1,e2⟩:=ra.get hx
   have p:ia.toArray[n]? = some u:=p
   obtain rfl:u'=u:=by simpa[e1] using p
   exact e2
 |T=>
  obtain⟨a,rfl,hq⟩:=hq
  obtain⟨_,e,st⟩:=st
  cases e
  obtain⟨ia,ra,pa,_⟩:=I.tuple hq
  have na:=λb (hb:fg X pins H b)=>Xm I hq hb
  have la:ia.toArray.size=xs.length:=by rw[bg];exact ra.length.symm
  refine⟨_,_,_,la ▸ Xl hh i a (na i hi) ia.toArray,⟨st,pa⟩,λb hb f m=>?_,λn u x p hx=>?_,λn h s=>⟨a,rfl,s.1⟩⟩
  .rcases b9.mp m with z | z
   .exact hb z
   .exact na b f (cb.mp z).symm
  .obtain⟨u',e1,e2⟩:=ra.get hx
   have p:ia.toArray[n]? = some u:=p
   obtain rfl:u'=u:=by simpa[e1] using p
   exact e2
 |S=>
  obtain⟨x,rfl,rfl⟩:=hq
  obtain⟨_,e,st⟩:=st
  cases e
  refine⟨_,_,_,(show x.cps.size=(x.cps.toList.map λc=>V.str ⟨#[c]⟩).length by rw[aq,fB]) ▸ Xh hh i x t,st,λb hb f m=>hb (cb.mp m),λn u y p hy=>?_,λn h s=>⟨x,rfl,s⟩⟩
  obtain⟨c,u1,h1,rfl⟩:=p
  rw[bq,SO,h1] at hy
  cases hy
  exact⟨u1,rfl⟩
def Ms{k:ZK}(I:Inv X pins O H s)(hq:zq k X.K H v xs)(r:RelV v u) :
  ∃(o1:Obj) (K1:Shared->Prop) (t:Tok),(∀(prog:Program) (w:World) (A:Around) (E:Value->Shared->Prop) (s:Shared) (Q:Value->Shared->Prop),K1 s->Q (.ref s.heap.objs.size) { s with heap:=s.heap.push o1 }->wpAny (model prog w) A (pyIter u) Q E s)/\K1 s/\(∀o,K1 { s with heap:=s.heap.push o })/\o1.isFreed=false/\∀h i,h.get? i=some o1->mh k v t h i 0:=by
 cases k with
 |L=>
  obtain⟨a,rfl,hq⟩:=hq
  cases r
  obtain⟨ia,ra,pa,_⟩:=I.list hq
  exact⟨{ cls := .type "list_iterator",data := .fields #[.ref a,.int 0 0] },λs=>s.heap.IsList a ia.toArray,0,λ_ _ _ _ _ _ hk hq=>sX hk hq,pa.isList,λo=>pa.isList.push o,rfl,λh i e=>⟨a,rfl,_,e,rfl,rfl⟩⟩
 |T=>
  obtain⟨a,rfl,hq⟩:=hq
  cases r
  obtain⟨ia,ra,pa,_⟩:=I.tuple hq
  exact⟨{ cls := .type "tuple_iterator",data := .fields #[.ref a,.int 0 0] },λs=>s.heap.IsTuple a ia.toArray,0,λ_ _ _ _ _ _ hk hq=>JF hk hq,pa,λo=>pa.push o,rfl,λh i e=>⟨a,rfl,_,e,rfl,rfl⟩⟩
 |S=>
  obtain⟨x,rfl,_⟩:=hq
  obtain⟨t,rfl⟩:=r
  exact⟨{ cls := .type (strIterType x),data := .fields #[.str x t,.int 0 0] },λ_=>True,t,λ_ _ _ _ _ _ _ hq=>wpAny_pyIter_strU hq,trivial,λ_=>trivial,rfl,λh i e=>⟨x,rfl,_,e,rfl,rfl⟩⟩
noncomputable def xu(k1 k2:ZK)(K:Frag)(va vb:V):It:=
 ⟨λi H=>∃xs ys x y,zq k1 K H va xs/\zq k2 K H vb ys/\xs[i]? = some x/\ys[i]? = some y,
  λi H v H' =>∃p x y,H p=none/\v = .ref p/\(∀xs,zq k1 K H va xs->xs[i]? = some x)/\(∀ys,zq k2 K H vb ys->ys[i]? = some y)/\H'=upd H p (.tup [x,y]),
  λi H=>∃xs ys,zq k1 K H va xs/\zq k2 K H vb ys/\i=min xs.length ys.length⟩
theorem Xo(k1 k2:ZK)(va vb:V)(t1 t2:Tok)(z ti to i j:Addr)(Z:pJ z ti to i j [i] [j])(Xp:ti≠to)(Xq:ti≠i)(Xr:ti≠j) :
  Turn P w K (.Tuple elts kk pos) (xu k1 k2 K va vb) [z,ti,to,i,j] z (λq h=>IsZip h z ti to .none/\IsPair h ti (.ref i) (.ref j)/\(∃a b,IsPair h to a b)/\mh k1 va t1 h i q/\mh k2 vb t2 h j q) where
 mem:=by simp
 obj:=λq h st b hb=>by
  obtain⟨h1,h2,⟨a,b',h3⟩,h4,h5⟩:=st
  simp only[b9,ip,wq] at hb
  rcases hb with rfl | rfl | rfl | rfl | rfl
  .exact⟨_,h1,λv e=>by have e:Data.fields _=Data.cell v:=e;cases e⟩
  .exact⟨_,h2,λv e=>by have e:Data.seq _ _=Data.cell v:=e;cases e⟩
  .exact⟨_,h3,λv e=>by have e:Data.seq _ _=Data.cell v:=e;cases e⟩
  .exact uf h4
  .exact uf h5
 keep:=λq h h' st k=>by
  obtain⟨h1,h2,⟨a,b',h3⟩,h4,h5⟩:=st
  exact⟨k z (by simp) _ h1,k ti (by simp) _ h2,⟨a,b',k to (by simp) _ h3⟩,ug h4 (k i (by simp)),ug h5 (k j (by simp))⟩
 item:=by
  intro X hP hw hK hc q pins s O H E I hf st hg
  subst hP hw hK
  obtain⟨h1,h2,⟨a,b',h3⟩,h4,h5⟩:=st
  obtain⟨xs,ys,c,d,fO,AY,EJ,EK⟩:=hg
  have Xt:=(bP.mp EJ).1
  have Xu:=(bP.mp EK).1
  have hh:X.A.in1.handled=none:=I.ok.hd hc
  obtain⟨f1,P1,S1,D1,EL,n1,Mu,up1⟩:=uh I hh fO h4 (hf i (by simp))
  obtain⟨f2,P2,S2,D2,jP,n2,Mv,Mw⟩:=uh I hh AY h5 (hf j (by simp))
  have Z2:pJ z ti to i j f1 f2:=⟨Z.a1,Z.a2,Z.a3,Z.a4,Z.a6,Z.a7,Z.a8,n1 z (bu Z.a3) (hf z (by simp)),n1 to Z.a6 (hf to (by simp)),n1 j (bu Z.a8) (hf j (by simp)),n2 z (bu Z.a4) (hf z (by simp)),n2 to Z.a7 (hf to (by simp)),n2 i Z.a8 (hf i (by simp))⟩
  refine Xd D1 D2 Z2 h1 h2 h3 EL jP Xt Xu λh' tk u1 u2 p1 p2 g1 g2 g3 g4 g5 g6 kp=>?_
  have r1:=Mu _ _ _ p1 EJ
  have r2:=Mv _ _ _ p2 EK
  have fr:H s.heap.objs.size=none:=I.fresh
  have fz:=hf z (by simp)
  have ft:=hf ti (by simp)
  have fo:=hf to (by simp)
  have fi:=hf i (by simp)
  have fj:=hf j (by simp)
  have kX:∀b o,b∉[z,to,i,j]->s.heap.get? b=some o->h'.get? b=some o:=λb o hb e=>kp b o (λv=>hb (by simp[v])) (λv=>hb (by simp[v])) (λv=>hb (by simp[v])) (λv=>hb (by simp[v])) e
  have xw:∀b o,H b=some o->b∉[z,to,i,j]:=λb o e hb=>by
   simp only[b9,ip,wq] at hb
   rcases hb with v | v | v | v
   .exact bB e fz.1 v
   .exact bB e fo.1 v
   .exact bB e fi.1 v
   .exact bB e fj.1 v
  have I1:Inv X pins O (upd H s.heap.objs.size (.tup [c,d])) { s with heap:=h',toks:=tk }:=by
   refine I.Aa (s':={ s with heap:=h',toks:=tk }) (ch:=[z,to,i,j]) rfl ⟨λb o e n _ hx=>kX b o hx e,λb o e n _ hx=>⟨o.slots,kX b o hx e⟩,
    λb o e n hx=>by rw[ao (bO (bF e))];exact n,λb o e hx=>⟨o,kX b o hx e⟩,
    λb ys e=>by rw[ao (bB e fr)];exact e,λb ob ys e=>by rw[ao (bB e fr)];exact e,λb ps e=>⟨#[],by rw[ao (bB e fr),e];simp⟩⟩ (λb o e=>?_) I.bare (λb hb=>?_)
   .by_cases hb:b=s.heap.objs.size
    .subst hb
     rw[au] at e
     cases e
     exact⟨by show 2<=sizeLine;decide,[u1,u2],.cons r1 (.cons r2 .nil),⟨_,g5,rfl,_,rfl⟩⟩
    .rw[ao hb] at e
     refine(I.aD b o e).kG (λc' v tJ e' =>?_) (λc' e'=>by rw[ao (bB e' fr)];exact e') λc' ys e'=>by rw[ao (bB e' fr)];exact e'
     rcases tJ with v' | v'
     .subst v'
      exact kX c' v (xw c' o e) e'
     .exact kX c' v (xw c' _ v') e'
   .simp only[b9,ip,wq] at hb
    rcases hb with v | v | v | v <;> subst v
    .exact⟨fz.2.2.2.1,fz.2.1,fz.2.2.2.2.1,fz.2.2.2.2.2⟩
    .exact⟨fo.2.2.2.1,fo.2.1,fo.2.2.2.2.1,fo.2.2.2.2.2⟩
    .exact⟨fi.2.2.2.1,fi.2.1,fi.2.2.2.2.1,fi.2.2.2.2.2⟩
    .exact⟨fj.2.2.2.1,fj.2.1,fj.2.2.2.2.1,fj.2.2.2.2.2⟩
  have lt:∀{b o},s.heap.get? b=some o->b≠s.heap.objs.size:=λe=>bO (bF e)
  have nP:∀b∈[z,ti,to,i,j],upd H s.heap.objs.size (.tup [c,d]) b=none:=λb hb=>by
   have jr:∃o,s.heap.get? b=some o:=by
    obtain⟨o4,e4,_⟩:=uf h4
    obtain⟨o5,e5,_⟩:=uf h5
    simp only[b9,ip,wq] at hb
    rcases hb with v | v | v | v | v <;> subst v
    .exact⟨_,h1⟩
    .exact⟨_,h2⟩
    .exact⟨_,h3⟩
    .exact⟨_,e4⟩
    .exact⟨_,e5⟩
   obtain⟨o,e⟩:=jr
   rw[ao (lt e)]
   exact(hf b hb).1
  have EM:IsPair h' ti (.ref i) (.ref j):=kp ti _ Z.a1 Xp Xq Xr h2
  refine⟨_,rfl,wpAny_letOwnedTupleGo_zip (s:={ s with heap:=h',toks:=tk }) g1 λiB y1 sb=>?_⟩
  have I2:Inv X pins O (upd H s.heap.objs.size (.tup [c,d])) { s with heap:=iB,toks:=tk } :=
   Inv.turned (s:={ s with heap:=h',toks:=tk }) (h':=iB) (t':=tk) (it:=z) I1 (λb o hb e=>(sb.2 b hb).trans e) (nP z (by simp)) fz.2.1 fz.2.2.2.1 fz.2.2.2.2.1 fz.2.2.2.2.2
  have AZ:∀b o,b≠z->h'.get? b=some o->iB.get? b=some o:=λb o hb e=>(sb.2 b hb).trans e
  exact⟨.ref s.heap.objs.size,_,I2,rfl,⟨_,c,d,fr,rfl,λXv h=>by rw[Mr I h fO];exact EJ,λXv h=>by rw[Mr I h AY];exact EK,rfl⟩,⟨y1,AZ _ _ Z.a1 EM,⟨_,_,AZ _ _ Z.a2 g2⟩,ug (up1 _ _ g3) λo e=>AZ _ _ Z.a3 e,ug (Mw _ _ g4) λo e=>AZ _ _ Z.a4 e⟩,nP⟩
 done:=by
  intro X hP hw hK hc q pins s O H E I hf st hg
  subst hP hw hK
  obtain⟨h1,h2,⟨a,b',h3⟩,h4,h5⟩:=st
  obtain⟨xs,ys,fO,AY,hg⟩:=hg
  have hh:X.A.in1.handled=none:=I.ok.hd hc
  obtain⟨f1,P1,S1,D1,EL,n1,Mu,up1⟩:=uh I hh fO h4 (hf i (by simp))
  obtain⟨f2,P2,S2,D2,jP,n2,Mv,Mw⟩:=uh I hh AY h5 (hf j (by simp))
  have Z2:pJ z ti to i j f1 f2:=⟨Z.a1,Z.a2,Z.a3,Z.a4,Z.a6,Z.a7,Z.a8,n1 z (bu Z.a3) (hf z (by simp)),n1 to Z.a6 (hf to (by simp)),n1 j (bu Z.a8) (hf j (by simp)),n2 z (bu Z.a4) (hf z (by simp)),n2 to Z.a7 (hf to (by simp)),n2 i Z.a8 (hf i (by simp))⟩
  have fz:=hf z (by simp)
  have fo:=hf to (by simp)
  have fi:=hf i (by simp)
  have fj:=hf j (by simp)
  refine Xe D1 D2 Z2 h1 h2 h3 EL jP (by lia) λh' tk kp=>⟨rfl,?_⟩
  have kX:∀b o,b∉[z,to,i,j]->s.heap.get? b=some o->h'.get? b=some o:=λb o hb e=>kp b o (λv=>hb (by simp[v])) (λv=>hb (by simp[v])) (λv=>hb (by simp[v])) (λv=>hb (by simp[v])) e
  have xw:∀b o,H b=some o->b∉[z,to,i,j]:=λb o e hb=>by
   simp only[b9,ip,wq] at hb
   rcases hb with v | v | v | v
   .exact bB e fz.1 v
   .exact bB e fo.1 v
   .exact bB e fi.1 v
   .exact bB e fj.1 v
  refine I.Aa (s':={ s with heap:=h',toks:=tk }) (ch:=[z,to,i,j]) rfl ⟨λb o e n _ hx=>kX b o hx e,λb o e n _ hx=>⟨o.slots,kX b o hx e⟩,λb o e n hx=>n,λb o e hx=>⟨o,kX b o hx e⟩,
    λb ys e=>e,λb ob ys e=>e,λb ps e=>⟨#[],by rw[e];simp⟩⟩ (λb o e=>?_) I.bare (λb hb=>?_)
  .refine(I.aD b o e).kG (λc' v tJ e' =>?_) (λc' e'=>e') λc' ys e'=>e'
   rcases tJ with v' | v'
   .subst v'
    exact kX c' v (xw c' o e) e'
   .exact kX c' v (xw c' _ v') e'
  .simp only[b9,ip,wq] at hb
   rcases hb with v | v | v | v <;> subst v
   .exact⟨fz.2.2.2.1,fz.2.1,fz.2.2.2.2.1,fz.2.2.2.2.2⟩
   .exact⟨fo.2.2.2.1,fo.2.1,fo.2.2.2.2.1,fo.2.2.2.2.2⟩
   .exact⟨fi.2.2.2.1,fi.2.1,fi.2.2.2.2.1,fi.2.2.2.2.2⟩
   .exact⟨fj.2.2.2.1,fj.2.1,fj.2.2.2.2.1,fj.2.2.2.2.2⟩
 self:=λ_ _ _ _ _ st h=>wpAny_pyIter_zip st.1 h
def Xw(k1 k2:ZK)(K:Frag)(ta:TA):TI:=λO H R=>ta O H λvs H1=>∃a b,vs=[a,b]/\(∃xs,zq k1 K H1 a xs)/\(∃ys,zq k2 K H1 b ys)/\R (xu k1 k2 K a b) H1
def xx(k1 k2:ZK){k:Nat}{a b:Expr}(hg:Gl X "zip")(hm:X.mg "zip"=none)(ha:PA X [a,b] ta)(hs:starEach [a,b] X.env=(false,eval a X.env)::starEach [b] X.env:=by rfl)(bj:(backTo pos (starEach [b] X.env)).any (·.1)=false:=by rfl) :
  PI X (.Tuple elts k nC) (.Call (.Name "zip" p) [a,b] [] pos) (Xw k1 k2 X.K ta):=by
 intro pins s O H R I h
 refine Call_ (o9 I hg hm Xi (Dg (aE (ha pos pins s O H _ I h) λus s1 ⟨vs,H1,I1,r1,q1⟩=>?_) hs bj))
 obtain⟨ta,tb,e,⟨xs,hx⟩,⟨ys,hy⟩,q⟩:=q1
 subst e
 obtain⟨u1,u2,rfl,ru,rv⟩:=vals2 r1
 obtain⟨o1,K1,t1,a1,a2,a3,a4,a5⟩:=Ms I1 hx ru
 obtain⟨o2,K2,t2,b1,b2,b3,b4,b5⟩:=Ms I1 hy rv
 refine Xg a1 b1 a2 (b3 _) a4 b4 λh' g1 g2 g3 g4 g5 kp=>?_
 have I2:Inv X pins O H1 { s1 with heap:=h' }:=I1.kept (t':=s1.toks) kp
 refine wpAny_pyIter_zip (s:={ s1 with heap:=h' }) g1 ?_
 refine⟨s1.heap.objs.size+4,[s1.heap.objs.size+4,s1.heap.objs.size+2,s1.heap.objs.size+3,s1.heap.objs.size,s1.heap.objs.size+1],_,_,H1,rfl,I2,
  Xo k1 k2 ta tb t1 t2 _ _ _ _ _ (AX s1.heap.objs.size).1 (AX s1.heap.objs.size).2.1 (AX s1.heap.objs.size).2.2.1 (AX s1.heap.objs.size).2.2.2,
  ⟨g1,g2,⟨_,_,g3⟩,a5 _ _ g4,b5 _ _ g5⟩,λb hb=>?_,q⟩
 have nQ:s1.heap.objs.size<=b:=by
  simp only[b9,ip,wq] at hb
  rcases hb with v | v | v | v | v <;> rw[v]
  .exact zO _ _
  .exact zO _ _
  .exact zO _ _
  .exact aN _
  .exact zO _ _
 exact I1.jO nQ (I1.aD.fresh nQ)
theorem xy{k1 k2:ZK}{ta tb:V}{Mx:TS}{D:Ends}(Pv:Nat->St->Hp->Prop)(h0:Pv 0 O H)(hl:∀i O H,i<=min xs.length ys.length->Pv i O H->zq k1 K H ta xs/\zq k2 K H tb ys)
  (hs:∀i x y p O H,xs[i]? = some x->ys[i]? = some y->Pv i O H->H p=none->g (.ref p) O (upd H p (.tup [x,y])) λO2 H2=>Mx { D with nx:=Pv (i+1),ct:=Pv (i+1),bk:=D.nx } O2 H2) (hd:∀O H,Pv (min xs.length ys.length) O H->D.nx O H) :
  ∃W:Nat->Nat->St->Hp->Prop,(∃m,W 0 m O H)/\∀i m O H,W i m O H->
   ((xu k1 k2 K ta tb).stop i H/\D.nx O H)\/((xu k1 k2 K ta tb).go i H/\∃N:St->Hp->Prop,(∀O' H',N O' H'->∃m',m'<m/\W (i+1) m' O' H')/\∀v H',(xu k1 k2 K ta tb).gw i H v H'->g v O H' λO2 H2=>Mx { D with nx:=N,ct:=N,bk:=D.nx } O2 H2):=by
 refine⟨λi m O H=>m=min xs.length ys.length - i/\i<=min xs.length ys.length/\Pv i O H,⟨_,rfl,bA _,h0⟩,?_⟩
 rintro i m O H ⟨rfl,hi,p⟩
 obtain⟨q1,q2⟩:=hl i O H hi p
 by_cases aM:i<min xs.length ys.length
 .have e1:=aS (l:=xs) (i:=i) (by lia)
  have e2:=aS (l:=ys) (i:=i) (by lia)
  refine .inr ⟨⟨xs,ys,_,_,q1,q2,e1,e2⟩,Pv (i+1),λO' H' p'=>⟨min xs.length ys.length - (i+1),by lia,rfl,aM,p'⟩,λv H' yy=>?_⟩
  obtain⟨pp,x,y,hn,rfl,f1,f2,rfl⟩:=yy
  exact hs i x y pp O H (f1 xs q1) (f2 ys q2) p hn
 .have e:i=min xs.length ys.length:=by lia
  subst e
  exact .inl ⟨⟨xs,ys,q1,q2,rfl⟩,hd O H p⟩
set_option maxRecDepth 100000 in
theorem Xx(l:Addr)(items:Array Value)(n:Nat)(EN:Option Addr)(sl:Array (Option Value)) :
  Meets (Builtin.«enumerate.__new__» ⟨[.type "enumerate",.ref l],[]⟩) (λ_ R s=>s.heap.get? l=some ⟨.type "tuple",EN,.seq items n,sl⟩/\
   R (.ok (.ret (.ref (s.heap.push ⟨.type "tuple_iterator",none,.fields #[.ref l,.int 0 0],#[]⟩).objs.size)))
    { s with heap:=(s.heap.push ⟨.type "tuple_iterator",none,.fields #[.ref l,.int 0 0],#[]⟩).push ⟨.type "enumerate",none,.fields #[.none,.bool false,.ref s.heap.objs.size,rawInt 0,.none,.none],#[]⟩ }):=
 .of_wp λprog w A R s h=>by
  obtain⟨hp,g,d,tk,os⟩:=s;obtain⟨hl,h⟩:=h
  have Xy:=sub_enumerate
  have hL:Heap.IsTuple (Shared.heap ⟨hp,g,d,tk,os⟩) l items:=⟨_,hl,rfl,n,rfl⟩
  wp_walk using SR hl
  refine wpAny_stack_any λst=>aH ?_
  split
  .rename_i c _ _ _ _ _
   cases(c==Value.type "enumerate") <;> (wp_walk using SR hl,JF hL;exact⟨_,rfl,h⟩)
  .wp_walk using SR hl,JF hL
   exact⟨_,rfl,h⟩
def Xz{l:Addr}(hL:IsTup s.heap l items)
  (h:∀h',IsEnum h' (s.heap.objs.size+1) s.heap.objs.size 0 .none->h'.IsTupleIter s.heap.objs.size l 0->h'.objs.size=s.heap.objs.size+2->(∀b o,s.heap.get? b=some o->h'.get? b=some o)->Q (.ref (s.heap.objs.size+1)) { s with heap:=h' }) :
  wpAny (model prog w) A (call (.type "enumerate") [.ref l]) Q E s:=by
 obtain⟨⟨c,EN,dt,sl⟩,hl,hc,n,hd⟩:=hL
 have hc:c = .type "tuple":=hc
 have hd:dt = .seq items n:=hd
 subst hc hd
 refine callType_new F.called_enumerate (by decide) (F.typeCall_enumerate_1 _) (F.newCall_enumerate_1 _) (λobj=>F.args_object_init_2 obj _) F.entry_enumerate_new (Xx l items n EN sl) ⟨hl,?_⟩
 have hz:(s.heap.push ⟨.type "tuple_iterator",none,.fields #[.ref l,.int 0 0],#[]⟩).objs.size=s.heap.objs.size+1:=km ..
 show _/\_
 rw[hz]
 have he:IsEnum ((s.heap.push ⟨.type "tuple_iterator",none,.fields #[.ref l,.int 0 0],#[]⟩).push ⟨.type "enumerate",none,.fields #[.none,.bool false,.ref s.heap.objs.size,rawInt 0,.none,.none],#[]⟩) (s.heap.objs.size+1) s.heap.objs.size 0 .none:=by
  have e:=cq (s.heap.push ⟨.type "tuple_iterator",none,.fields #[.ref l,.int 0 0],#[]⟩) (o:=⟨.type "enumerate",none,.fields #[.none,.bool false,.ref s.heap.objs.size,rawInt 0,.none,.none],#[]⟩) rfl
  rw[hz] at e;exact e
 exact⟨⟨_,he,rfl⟩,h _ he ⟨_,bx _ (cq _ rfl),rfl,rfl⟩ (by rw[km,hz]) λb o x=>bx _ (bx _ x)⟩
noncomputable def pK(k:ZK)(K:Frag)(va:V)(xs:List V):It:=
 ⟨λi H=>zq k K H va xs/\i<xs.length,λi H x H' =>∃p v,H p=none/\x = .ref p/\xs[i]? = some v/\H'=upd H p (.tup [.int i,v]),λi H=>zq k K H va xs/\i=xs.length⟩
theorem XA(k:ZK)(va:V)(t:Tok)(it e:Addr)(xs:List V)(pL:e≠it) :
  Turn P w K (.Tuple elts kk pos) (pK k K va xs) [e,it] e (λi h=>(∃old,IsEnum h e it i old)/\mh k va t h it i) where
 mem:=by simp
 obj:=λi h st b hb=>by
  obtain⟨⟨old,he⟩,hz⟩:=st
  rcases b9.mp hb with z | z
  .subst z
   exact⟨_,he,λv z=>by
    have z':Data.fields _=Data.cell v:=z
    cases z'⟩
  .have z:b=it:=by simpa using z
   subst z
   exact uf hz
 keep:=λi h h' st kk=>by
  obtain⟨⟨old,he⟩,hit⟩:=st
  exact⟨⟨old,kk e (by simp) _ he⟩,ug hit λo q=>kk it (by simp) o q⟩
 item:=by
  intro X hP hw hK hc i pins s O H E I hf st hg
  subst hP hw hK
  obtain⟨⟨old,he⟩,hit⟩:=st
  obtain⟨hq,aM⟩:=hg
  have fe:=hf e (by simp)
  have fi:=hf it (by simp)
  obtain⟨ff,PP,SS,D1,d1,nf,rel,zi⟩:=uh I (I.ok.hd hc) hq hit fi
  refine wpAny_pyNext_enum_itemD D1 he d1 aM pL (nf e pL fe) λv h' tk XB ho rJ hT hsz hk=>?_
  obtain⟨c,eG⟩:∃c,xs[i]? = some c:=⟨_,aS aM⟩
  have ru:=rel i v c XB eG
  have fr:H s.heap.objs.size=none:=I.fresh
  have neT:∀b o,H b=some o->b≠e/\b≠it:=λb o q=>⟨bB q fe.1,bB q fi.1⟩
  have I1:Inv X pins O (upd H s.heap.objs.size (.tup [.int i,c])) { s with heap:=h',toks:=tk+1 }:=by
   refine I.Aa (s':={ s with heap:=h',toks:=tk+1 }) (ch:=[e,it]) rfl ⟨λb o q n _ hx=>hk b o (λz=>hx (by simp[z])) (λz=>hx (by simp[z])) q,λb o q n _ hx=>⟨o.slots,hk b o (λz=>hx (by simp[z])) (λz=>hx (by simp[z])) q⟩,
    λb o q n hx=>by rw[ao (bO (bF q))];exact n,λb o q hx=>⟨o,hk b o (λz=>hx (by simp[z])) (λz=>hx (by simp[z])) q⟩,
    λb ys q=>by rw[ao (bB q fr)];exact q,λb ob ys q=>by rw[ao (bB q fr)];exact q,λb ps q=>⟨#[],by rw[ao (bB q fr),q];simp⟩⟩ (λb o q=>?_) I.bare (λb hb=>?_)
   .by_cases hb:b=s.heap.objs.size
    .subst hb
     rw[au] at q
     cases q
     exact⟨by show 2<=sizeLine;decide,[.int i tk,v],.cons ⟨tk,rfl⟩ (.cons ru .nil),⟨_,hT,rfl,_,rfl⟩⟩
    .rw[ao hb] at q
     refine(I.aD b o q).kG (λc v hc q' =>?_) (λc q'=>by rw[ao (bB q' fr)];exact q') λc ys q'=>by rw[ao (bB q' fr)];exact q'
     rcases hc with z | z
     .subst z
      exact hk c v (neT c o q).1 (neT c o q).2 q'
     .exact hk c v (neT c _ z).1 (neT c _ z).2 q'
   .have z:b=e\/b=it:=by simpa using hb
    rcases z with z | z
    .subst z
     exact⟨fe.2.2.2.1,fe.2.1,fe.2.2.2.2.1,fe.2.2.2.2.2⟩
    .subst z
     exact⟨fi.2.2.2.1,fi.2.1,fi.2.2.2.2.1,fi.2.2.2.2.2⟩
  have nP:∀b∈[e,it],upd H s.heap.objs.size (.tup [.int i,c]) b=none:=λb hb=>by
   have z:b=e\/b=it:=by simpa using hb
   have ui:b<s.heap.objs.size:=by
    rcases z with z | z
    .subst z;exact bF he
    .subst z;obtain⟨o,q,_⟩:=uf hit;exact bF q
   rw[ao (bO ui)]
   rcases z with z | z
   .subst z;exact fe.1
   .subst z;exact fi.1
  refine⟨_,rfl,wpAny_letOwnedTupleGo_enum (s:={ s with heap:=h',toks:=tk+1 }) ho λh2 XC wQ=>?_⟩
  have I2:Inv X pins O (upd H s.heap.objs.size (.tup [.int i,c])) { s with heap:=h2,toks:=tk+1 } :=
   Inv.turned (s:={ s with heap:=h',toks:=tk+1 }) (h':=h2) (t':=tk+1) (it:=e) I1 (λb o hb q=>(wQ.2 b hb).trans q) (nP e (by simp)) fe.2.1 fe.2.2.2.1 fe.2.2.2.2.1 fe.2.2.2.2.2
  refine⟨.ref s.heap.objs.size,_,I2,rfl,⟨_,_,fr,rfl,eG,rfl⟩,⟨⟨v,?_⟩,ug (zi _ _ rJ) λo q=>(wQ.2 it (bu pL)).trans q⟩,nP⟩
  have e1:((i+1:Nat):Int)=(i:Int)+1:=by lia
  rw[e1]
  exact XC
 done:=by
  intro X hP hw hK hc i pins s O H E I hf st hg
  subst hP hw hK
  obtain⟨⟨old,he⟩,hit⟩:=st
  obtain⟨hq,ei⟩:=hg
  have fi:=hf it (by simp)
  obtain⟨ff,PP,SS,D1,d1,nf,rel,zi⟩:=uh I (I.ok.hd hc) hq hit fi
  refine wpAny_pyNext_enum_endD D1 he (by rw[<-ei];exact d1) λh' eb=>⟨rfl,?_⟩
  exact I.turned (t':=s.toks) (it:=it) (λb o hb q=>eb b o hb q) fi.1 fi.2.1 fi.2.2.2.1 fi.2.2.2.2.1 fi.2.2.2.2.2
 self:=λ_ _ _ _ _ st h=>by
  obtain⟨⟨old,he⟩,_⟩:=st
  exact wpAny_pyIter_enum he h
def XD{k:ZK}(I:Inv X pins O H s)(hq:zq k X.K H v xs)(r:RelV v u) :
  ∃t:Tok,∀(A:Around) (E:Value->Shared->Prop) (Q:Value->Shared->Prop),(∀h',IsEnum h' (s.heap.objs.size+1) s.heap.objs.size 0 .none->mh k v t h' s.heap.objs.size 0->(∀b o,s.heap.get? b=some o->h'.get? b=some o)->Q (.ref (s.heap.objs.size+1)) { s with heap:=h' })->
   wpAny (model X.prog X.w) A (call (.type "enumerate") [u]) Q E s:=by
 cases k with
 |L=>
  obtain⟨a,rfl,hq⟩:=hq
  cases r
  obtain⟨ia,ra,pa,_⟩:=I.list hq
  exact⟨0,λA E Q h=>call_enumerate_list pa.isList λh' he mn _ hk=>h h' he ⟨a,rfl,mn⟩ hk⟩
 |T=>
  obtain⟨a,rfl,hq⟩:=hq
  cases r
  obtain⟨ia,ra,pa,_⟩:=I.tuple hq
  exact⟨0,λA E Q h=>Xz pa λh' he mn _ hk=>h h' he ⟨a,rfl,mn⟩ hk⟩
 |S=>
  obtain⟨x,rfl,_⟩:=hq
  obtain⟨t,rfl⟩:=r
  exact⟨t,λA E Q h=>call_enumerate_str λh' he mn _ hk=>h h' he ⟨x,rfl,mn⟩ hk⟩
def EO(k:ZK){a:Expr}(hW:∀vs H R,W vs H R->∃va xs,vs=[va]/\zq k X.K H va xs/\R (pK k X.K va xs) H)(hg:Gl X "enumerate")(hm:X.mg "enumerate"=none)(ha:PA X [a] ta)(hs:starEach [a] X.env=[(false,eval a X.env)]:=by rfl) :
  PI X (.Tuple elts kk nC) (.Call (.Name "enumerate" p) [a] [] pos) (λO H R=>ta O H λvs H1=>W vs H1 R):=by
 intro pins s O H R I h
 refine Call_ (o9 I hg hm boot_enumerate (Dg (aE (ha pos pins s O H _ I h) λus s1 ⟨vs,H1,I1,r1,q1⟩=>?_) hs rfl))
 obtain⟨va,xs,e,hq,q⟩:=hW _ _ _ q1
 subst e
 obtain⟨u,rfl,ru⟩:=vals1 r1
 obtain⟨t,hz⟩:=XD I1 hq ru
 refine hz _ _ _ λh' he mn hk=>?_
 have I2:Inv X pins O H1 { s1 with heap:=h' }:=I1.kept (t':=s1.toks) hk
 refine wpAny_pyIter_enum (s:={ s1 with heap:=h' }) he ?_
 refine⟨s1.heap.objs.size+1,[s1.heap.objs.size+1,s1.heap.objs.size],_,_,H1,rfl,I2,XA k va t s1.heap.objs.size (s1.heap.objs.size+1) xs (Nat.succ_ne_self _),⟨⟨.none,he⟩,mn⟩,λb hb=>?_,q⟩
 have z:b=s1.heap.objs.size+1\/b=s1.heap.objs.size:=by simpa using hb
 rcases z with z | z
 .subst z;exact I1.jO (gO _) (I1.aD.fresh (gO _))
 .subst z;exact I1.jO (aN _) I1.fresh
theorem ER{k:ZK}{va:V}{tb:TS}{D:Ends}(Pv:Nat->St->Hp->Prop)(h0:Pv 0 O H)(hl:∀i O H,i<=xs.length->Pv i O H->zq k K H va xs)
  (hs:∀i x p O H,xs[i]? = some x->Pv i O H->H p=none->g (.ref p) O (upd H p (.tup [.int i,x])) λO2 H2=>tb { D with nx:=Pv (i+1),ct:=Pv (i+1),bk:=D.nx } O2 H2) (hd:∀O H,Pv xs.length O H->D.nx O H) :
  ∃W:Nat->Nat->St->Hp->Prop,(∃m,W 0 m O H)/\∀i m O H,W i m O H->
   ((pK k K va xs).stop i H/\D.nx O H)\/((pK k K va xs).go i H/\∃N:St->Hp->Prop,(∀O' H',N O' H'->∃m',m'<m/\W (i+1) m' O' H')/\∀x H',(pK k K va xs).gw i H x H'->g x O H' λO2 H2=>tb { D with nx:=N,ct:=N,bk:=D.nx } O2 H2):=by
 refine⟨λi m O H=>m=xs.length - i/\i<=xs.length/\Pv i O H,⟨xs.length,by simp,bA _,h0⟩,?_⟩
 rintro i m O H ⟨rfl,hi,p⟩
 have q:=hl i O H hi p
 by_cases aM:i<xs.length
 .refine .inr ⟨⟨q,aM⟩,Pv (i+1),λO' H' p'=>⟨xs.length - (i+1),by lia,rfl,aM,p'⟩,λx H' y=>?_⟩
  obtain⟨pp,v,hn,e1,e2,e3⟩:=y
  subst e1 e3
  exact hs i v pp O H e2 p hn
 .have e:i=xs.length:=by lia
  subst e
  exact .inl ⟨⟨q,rfl⟩,hd O H p⟩
noncomputable abbrev A0(K:Frag)(a:Addr)(xs:List V):It:=pK .L K (.ref a) xs
noncomputable abbrev ES(K:Frag)(a:Addr)(xs:List V):It:=pK .T K (.ref a) xs
noncomputable abbrev ET(K:Frag)(x:Str):It:=pK .S K (.str x) (x.cps.toList.map λc=>V.str ⟨#[c]⟩)
def XE(K:Frag)(ta:TA):TI:=λO H R=>ta O H λvs H1=>∃a xs,vs=[.ref a]/\ak K H1 a xs/\R (A0 K a xs) H1
def XF(K:Frag)(ta:TA):TI:=λO H R=>ta O H λvs H1=>∃a xs,vs=[.ref a]/\ax K H1 a xs/\R (ES K a xs) H1
def XG(K:Frag)(ta:TA):TI:=λO H R=>ta O H λvs H1=>∃x,vs=[.str x]/\R (ET K x) H1
section
variable{X:Cx}{elts:List Expr}{kk:Nat}{nC:Pos}{a:Expr}{ta:TA}{p pos:Pos}
def EU(hg:Gl X "enumerate")(hm:X.mg "enumerate"=none)(ha:PA X [a] ta)(hs:starEach [a] X.env=[(false,eval a X.env)]:=by rfl):PI X (.Tuple elts kk nC) (.Call (.Name "enumerate" p) [a] [] pos) (XE X.K ta):=
 EO .L (W:=λvs H1 R=>∃a xs,vs=[.ref a]/\ak X.K H1 a xs/\R (A0 X.K a xs) H1) (λ_ _ _ ⟨a,xs,e,q,r⟩=>⟨.ref a,xs,e,⟨a,rfl,q⟩,r⟩) hg hm ha hs
def XH(hg:Gl X "enumerate")(hm:X.mg "enumerate"=none)(ha:PA X [a] ta)(hs:starEach [a] X.env=[(false,eval a X.env)]:=by rfl):PI X (.Tuple elts kk nC) (.Call (.Name "enumerate" p) [a] [] pos) (XF X.K ta):=
 EO .T (W:=λvs H1 R=>∃a xs,vs=[.ref a]/\ax X.K H1 a xs/\R (ES X.K a xs) H1) (λ_ _ _ ⟨a,xs,e,q,r⟩=>⟨.ref a,xs,e,⟨a,rfl,q⟩,r⟩) hg hm ha hs
def XI(hg:Gl X "enumerate")(hm:X.mg "enumerate"=none)(ha:PA X [a] ta)(hs:starEach [a] X.env=[(false,eval a X.env)]:=by rfl):PI X (.Tuple elts kk nC) (.Call (.Name "enumerate" p) [a] [] pos) (XG X.K ta):=
 EO .S (W:=λvs H1 R=>∃x,vs=[.str x]/\R (ET X.K x) H1) (λ_ _ _ ⟨x,e,r⟩=>⟨.str x,_,e,⟨x,rfl,rfl⟩,r⟩) hg hm ha hs
end
section
variable{K:Frag}{a:Addr}{xs:List V}{g:TG}{tb:TS}{D:Ends}{O:St}{H:Hp}
def EV(J:It)(g:TG)(tb:TS)(D:Ends)(O:St)(H:Hp):Prop := ∃W:Nat->Nat->St->Hp->Prop,(∃m,W 0 m O H)/\∀i m O H,W i m O H->
   (J.stop i H/\D.nx O H)\/(J.go i H/\∃N:St->Hp->Prop,(∀O' H',N O' H'->∃m',m'<m/\W (i+1) m' O' H')/\∀x H',J.gw i H x H'->g x O H' λO2 H2=>tb { D with nx:=N,ct:=N,bk:=D.nx } O2 H2)
def My(Pv:Nat->St->Hp->Prop)(h0:Pv 0 O H)(hl:∀i O H,i<=xs.length->Pv i O H->ak K H a xs)
  (hs:∀i x p O H,xs[i]? = some x->Pv i O H->H p=none->g (.ref p) O (upd H p (.tup [.int i,x])) λO2 H2=>tb { D with nx:=Pv (i+1),ct:=Pv (i+1),bk:=D.nx } O2 H2) (hd:∀O H,Pv xs.length O H->D.nx O H):EV (A0 K a xs) g tb D O H:=
 ER Pv h0 (λi O H hi p=>⟨a,rfl,hl i O H hi p⟩) hs hd
def XJ(Pv:Nat->St->Hp->Prop)(h0:Pv 0 O H)(hl:∀i O H,i<=xs.length->Pv i O H->ax K H a xs)
  (hs:∀i x p O H,xs[i]? = some x->Pv i O H->H p=none->g (.ref p) O (upd H p (.tup [.int i,x])) λO2 H2=>tb { D with nx:=Pv (i+1),ct:=Pv (i+1),bk:=D.nx } O2 H2) (hd:∀O H,Pv xs.length O H->D.nx O H):EV (ES K a xs) g tb D O H:=
 ER Pv h0 (λi O H hi p=>⟨a,rfl,hl i O H hi p⟩) hs hd
def XM(Pv:Nat->St->Hp->Prop)(h0:Pv 0 O H)
  (hs:∀i c p O H,x.cps.toList[i]? = some c->Pv i O H->H p=none->g (.ref p) O (upd H p (.tup [.int i,.str ⟨#[c]⟩])) λO2 H2=>tb { D with nx:=Pv (i+1),ct:=Pv (i+1),bk:=D.nx } O2 H2) (hd:∀O H,Pv x.cps.size O H->D.nx O H):EV (ET K x) g tb D O H:=
 ER Pv h0 (λ_ _ _ _ _=>⟨x,rfl,rfl⟩) (λi y p O H hy pv hn=>by
  rw[bq] at hy
  obtain⟨c,hc,rfl⟩:=gu.mp hy
  exact hs i c p O H hc pv hn) (λO H h=>hd O H (by rw[aq,fB] at h;exact h))
end
theorem XN{Q:VK}(hn:xs.length<=10000)(ha:ak K H1 a xs)(p:Nat->Bool)(F:Addr->Nat->V->Hp->Prop)
  (mono:∀D i y H H',H1 D=none->(∃o,H D=some (.lst o))->(∀b o,b≠D->H b=some o->H' b=some o)->F D i y H->F D i y H')
  (hs:∀D i x H (Z0:Hp->Prop) (Z:V->Hp->Prop),H1 D=none->xs[i]? = some x->af H1 H->(∃o,H D=some (.lst o))->(∀H2,af H H2->p i=false->Z0 H2)->(∀y H2,af H H2->p i=true->F D i y H2->Z y H2)->
   tt (some (.int i)::some x::fw js O) H λb H2=>if b=true then te (some (.int i)::some x::fw js O) H2 Z else Z0 H2)
  (hd:∀D ys H,H1 D=none->H D=some (.lst ys)->af H1 H->Paired (λi y=>F D i y H) ((List.range xs.length).filter p) ys->Q (.ref D) H):Ei K' js tt te O (A0 K a xs) H1 Q:=by
 intro D hD
 have hz:10000<sizeLine:=by decide
 refine⟨λi m H=>m=xs.length - i/\i<=xs.length/\∃ys,H D=some (.lst ys)/\af H1 H/\Paired (λi y=>F D i y H) ((List.range i).filter p) ys,⟨xs.length,by simp,bA _,[],au,af.upd hD,.nil⟩,?_⟩
 rintro i m H ⟨rfl,hi,ys,bw,sm,pr⟩
 have q:=sm.seq ha
 by_cases aM:i<xs.length
 .refine .inr ⟨⟨⟨a,rfl,q⟩,aM⟩,λx H' y=>?_⟩
  obtain⟨pp,v,xA,rfl,yy,rfl⟩:=y
  have jK:List.range (i+1)=List.range i++[i]:=ku
  have ln:ys.length<=i:=by
   have h1:=pr.length
   have h2:((List.range i).filter p).length<=(List.range i).length:=ji _ _
   rw[gR] at h2
   lia
  have sp:af H (upd H pp (.tup [.int i,v])):=af.upd xA
  refine⟨pp,.int i,v,rfl,ax.of au,hs D i v _ _ _ hD yy (sm.trans sp) ⟨ys,sp _ _ bw⟩ (λH2 s2 hp=>?_) (λz H2 s2 hp hF=>?_)⟩
  .refine⟨xs.length - (i+1),by lia,rfl,aM,ys,s2 _ _ (sp _ _ bw),sm.trans (sp.trans s2),?_⟩
   rw[jK,kD,dF,av (by rw[hp];exact bZ),oQ,iQ]
   exact Paired.bJ pr λj z f=>mono D j z H H2 hD ⟨ys,bw⟩ (λb o _ e=>s2 b o (sp b o e)) f
  .refine⟨ys,s2 _ _ (sp _ _ bw),by lia,xs.length - (i+1),by lia,rfl,aM,ys++[z],au,(sm.trans (sp.trans s2)).jV hD,?_⟩
   have up:∀b o,b≠D->H2 b=some o->upd H2 D (.lst (ys++[z])) b=some o:=λb o hb e=>by rw[ao hb];exact e
   rw[jK,kD,dF,aA hp,oQ]
   refine m6 (Paired.bJ pr λj z' f=>?_) (mono D i z H2 _ hD ⟨ys,s2 _ _ (sp _ _ bw)⟩ up hF)
   exact mono D j z' H2 _ hD ⟨ys,s2 _ _ (sp _ _ bw)⟩ up (mono D j z' H H2 hD ⟨ys,bw⟩ (λb o _ e=>s2 b o (sp b o e)) f)
 .have e:i=xs.length:=by lia
  subst e
  exact .inl ⟨⟨⟨a,rfl,q⟩,rfl⟩,hd D ys H hD bw sm pr⟩
theorem A2{t:TA}{k:Nat}(N:Nw X.prog X.w X.K X.mg X.base x C k sp)(hr:cw l X.A)(ha:PA X (e::es) t)(hle:k+1<=l:=by first | decide | lia)(hg:Gl X x:=by rfl)(gD:(x==("__debug__":Str))=false:=by decide)
  (he:starEach (e::es) X.env=(false,eval e X.env)::starEach es X.env:=by rfl) (bj:(backTo pos (starEach es X.env)).any (·.1)=false:=by rfl):PE X (.Call (.Name x p) (e::es) [] pos) (Ap C sp [] E0 t):=by
 obtain⟨f,fd,ps,M,G,hb,hm⟩:=N.ex
 exact UR M G (hr.mono hle) hg hm hb .nil xf ha gD he bj
def rK(q f a:Addr):Heap->Prop:=λh=>h.get? q=some (methodObj (.ref f) (.ref a))
def XO{q:Addr}(e:h.get? q=some (methodObj (.ref f) (.ref a))):cO P w H h q (.ext (rK q f a)):=⟨e,⟨_,e⟩,λ_ _ x k=>k _ x⟩
structure Mz(K:Frag)(f:Addr):Prop where
 gf:specialIn K (.ref f) "__get__"=some (some (.builtin "function.__get__"))
 tk:takesIn K (.ref f)=some false
section
variable{X:Cx}{pins:List (Addr×Obj)}{O:St}{H:Hp}{s:Shared}{a C dx g q l:Addr}{fs:List (Str×V)}{m:Str}{A:Around}{E:Value->Shared->Prop}
def XQ(I:Inv X pins O H s)(e:H a=some (.ins C dx fs))(c:cG X.K C)(k:Meth X.K C m g)(b:Mz X.K g)(hc:PySem.W.copiedNames.contains m=false)(hl:fs.lookup m=none)
  (h:∀q s',H q=none->Inv X pins O (upd H q (.ext (rK q g a))) s'->Q (.ref q) s'):wpAny (model X.prog X.w) A (getAttr (.ref a) m expr) Q E s:=by
 obtain⟨mA,σ,r,_,_,_⟩:=wR I.aD e
 have hn:mA m=none:=fI.none_of (by rw[<-hl];exact r m)
 obtain⟨od,J,nR⟩:=σ.look
 have hp:=JH (c.get m)
 refine PySem.W.get_bind I.cY J hp.1 (PySem.W.findObj_fn c.hd k.at_ b.gf b.tk hc (by rw[nR,hn])) hp.2 (zt (PySem.W.fn_get (s:={ s with toks:=s.toks+1 }) I.cY (mY.mp k.fn) (PySem.W.handed_on rfl ?_)))
 exact h s.heap.objs.size _ I.fresh (I.laid (t':=s.toks+1) (λ_ _ z=>bx _ z) (aN _) (XO (cq _ rfl)))
theorem MA:∀{vs:List Value}{ns:List Int},Vals (ns.map V.int) vs->IntsAre vs ns
 |_,[],.nil=>.nil
 |_,n::_,.cons h t=>by
  obtain⟨t',rfl⟩:=h
  exact .cons n t' (MA t)
theorem MB{kz:Str->Int}:∀{ss:List Str}{vs:List Value}{ps:List (Int×Value)},Vals (ss.map V.str) vs->(∀p∈ps,p∈(ss.map kz).zip vs)->∃ts:List Str,Vals (ts.map V.str) (ps.map Prod.snd)/\ts.map kz=ps.map Prod.fst
 |_,_,[],_,_=>⟨[],.nil,rfl⟩
 |ss,vs,p::r,hv,h=>by
  obtain⟨ts,h1,h2⟩:=MB (ps:=r) hv λq hq=>h q (bU _ hq)
  obtain⟨i,hi⟩:=dR (h p bG)
  rw[List.getElem?_zip_eq_some] at hi
  obtain⟨e1,e2⟩:=hi
  rw[bq] at e1
  cases es:ss[i]? with
  |none=>rw[es] at e1;cases e1
  |some x=>
   rw[es] at e1
   have e1:kz x=p.1:=dm e1
   obtain⟨u,hu,ru⟩:=hv.get (i:=i) (x:=V.str x) (by rw[bq,es];rfl)
   rw[e2] at hu
   cases hu
   exact⟨x::ts,.cons ru h1,by rw[bQ,bQ,h2,e1]⟩
theorem MC:∀{ss ts:List Str},ss.map V.str=ts.map V.str->ss=ts
 |[],[],_=>rfl
 |[],_::_,h=>by cases h
 |_::_,[],h=>by cases h
 |x::r,y::t,h=>by
  rw[bQ,bQ] at h
  obtain⟨h1,h2⟩:=List.cons.inj h
  cases h1
  rw[MC h2]
def XR(h:Vals (ss.map V.str) vs)(p:us.Perm vs):∃ts:List Str,Vals (ts.map V.str) us/\ts.Perm ss:=by
 induction p generalizing ss with
 |nil=>exact⟨ss,h,List.Perm.refl _⟩
 |cons x _ ih=>
  cases ss with
  |nil=>cases h
  |cons y r=>
   cases h with
   |cons h1 h2=>
    obtain⟨ts,a,b⟩:=ih h2
    exact⟨y::ts,.cons h1 a,b.cons y⟩
 |swap x y l=>
  match ss,h with
  |u::v::r,.cons h1 (.cons h2 h3)=>exact⟨v::u::r,.cons h2 (.cons h1 h3),List.Perm.swap ..⟩
 |trans _ _ XS XT=>
  obtain⟨ts,a,b⟩:=XT h
  obtain⟨us,c,d⟩:=XS a
  exact⟨us,c,d.trans b⟩
def XU{k:Nat}{Q:VK}(F:aO X.prog X.w X.K X.mg X.base aQ k f fd ps sp)(hr:cw k A)(he:kM X.prog X.w X.K X.mg X.base A X.stack s H)(hb:Binds X.K fd ps [])(I:Inv X pins O H s)(hq:H q=some (.ext (rK q f a)))
  (rv:RelV v u) (h:sp [.ref a,v] H Q E0):wpAny (model X.prog X.w) A (call (.ref q) [u]) (EP X pins O Q) (λ_ _=>False) s:=by
 have hm:rK q f a s.heap:=(I.aD q _ hq).1
 have hl:([.ref a,u]++([]:List Value)).length=ps.length:=(F.len _ _ _ _ h)
 refine zt (ks_codeAny_call_bound hm ?_)
 refine vW (F.run A X.stack s H ⟨[.ref a,u],[]⟩ [.ref a,u] [.ref a,v] Q E0 hr he (hb s [.ref a,u] I.cY hl) (.cons rfl (.cons rv .nil)) h) λr s' z=>?_
 cases r with
 |error e=>exact z
 |ok fl=>
  cases fl with
  |ret w'=>exact I.after z
  |next=>exact False.elim z
  |brk=>exact False.elim z
  |cont=>exact False.elim z
theorem sorted_out(hv:Vals (ss.map V.str) vs)(h:KskOut true (ss.map kz) vs out):∃ts:List Str,Vals (ts.map V.str) out/\ts.Perm ss/\ts.Pairwise λx y=>kz y<=kz x:=by
 obtain⟨ps,hp,rfl,ho⟩:=h
 obtain⟨ts,h1,h2⟩:=MB (kz:=kz) hv λp hm=>hp.mem_iff.mp hm
 have hl:ss.length=vs.length:=by rw[<-hv.length,aq]
 have jX:(ps.map Prod.snd).Perm vs:=by
  have:=hp.map Prod.snd
  rw[List.map_snd_zip (by rw[aq];lia)] at this
  exact this
 obtain⟨dY,h3,h4⟩:=XR hv jX
 have e:ts=dY:=MC (Vals.inj h1 h3)
 subst e
 refine⟨ts,h1,h4,?_⟩
 have h5:(ps.map Prod.fst).Pairwise (λx y:Int=>y<=x):=by
  rw[List.pairwise_map]
  exact ho.imp λ{a b} z=>by simpa using z
 rw[<-h2,List.pairwise_map] at h5
 exact h5
theorem XW{k:Nat}(I:Inv X pins O H s)(hq:H q=some (.ext (rK q f a)))(F:aO X.prog X.w X.K X.mg X.base aQ k f fd ps sp)(hr:cw (k+2) X.A)(hb:Binds X.K fd ps [])
  (hl:ak X.K H l (ss.map V.str)) (da:ss.length<64) (turn:∀x∈ss,∀H3,af H H3->∀Q':VK,(∀H4,af H3 H4->Q' (.int (kz x)) H4)->sp [.ref a,.str x] H3 Q' E0)
  (fin:∀(p:Addr) (out:List Str) (H5:Hp) (s':Shared),H p=none->af H H5->H5 p=some (.lst (out.map V.str))->out.Perm ss->(out.Pairwise λx y=>kz y<=kz x)->Inv X pins O H5 s'->Q (.ref p) s') :
  wpAny (model X.prog X.w) X.A (call (.builtin "sorted") [.ref l] [(Str.ofString "key",.ref q),(Str.ofString "reverse",.bool true)]) Q E s:=by
 obtain⟨its,rv,pl,hz⟩:=I.list hl
 have hL:=pl.isList
 have hlen:its.length=ss.length:=by rw[<-rv.length,aq]
 have g9:(64:Nat)<=sizeLine:=by decide
 refine call_function_entry_kw kind_sorted plain_sorted entry_sorted (ksk_s2 _ _ _) ?_
 unfold Builtin.«sorted»
 refine aj (m:=checkCount "sorted" 1 1 _) (aH ?_)
 refine aj (collect_list hL ?_ (by lia))
 refine aj (wpAny_newList ?_ (by lia))
 generalize EW:(s.heap.push (seqObj "list" #[] 0)).update s.heap.objs.size (Obj.mapSeq (· ++ its.toArray))=g1
 have z1:g1.objs.size=s.heap.objs.size+1:=by rw[<-EW,Heap.size_update,lO]
 have k1:∀b o,s.heap.get? b=some o->g1.get? b=some o:=λb o e=>by
  have aM:=bF e
  rw[<-EW,JV _ _ _ _ (bO aM),Heap.get?_push_ne _ _ _ (bO aM)]
  exact e
 show wpAny _ _ _ _ _ { s with heap:=g1.push (seqObj "list" its.toArray 0) }
 have jt:(g1.push (seqObj "list" its.toArray 0)).get? (s.heap.objs.size+1)=some (seqObj "list" its.toArray 0):=by
  have:(g1.push (seqObj "list" its.toArray 0)).get? g1.objs.size=some (seqObj "list" its.toArray 0):=cq _ rfl
  rwa [z1] at this
 have k2:∀b o,s.heap.get? b=some o->(g1.push (seqObj "list" its.toArray 0)).get? b=some o:=λb o e=>bx _ (k1 b o e)
 have z2:(g1.push (seqObj "list" its.toArray 0)).objs.size=s.heap.objs.size+2:=by rw[lO,z1]
 rw[show(Value.ref g1.objs.size) = .ref (s.heap.objs.size+1) by rw[z1]]
 generalize g1.push (seqObj "list" its.toArray 0)=g2 at jt k2 z2
 generalize xc:s.heap.objs.size+1=b at jt
 have jY:s.heap.objs.size<=b:=by rw[<-xc];exact gO _
 clear EW z1 k1
 refine aj (gN (wpAny_call_entry_kw slot_list_sort ⟨_,jt,rfl⟩ entry_list_sort ?body (ksk_l2 _ _ _)))
 case body=>
  rw[ksk_t2]
  unfold ksk_tree
  refine aj (listItems_at jt rfl ?_)
  refine aj (listUpdate_at jt rfl ?_ (by rw[bg];lia) (bA _))
  obtain⟨e1,uj⟩:∃e1,(g2.update b (Obj.mapSeq λ_=>(#[]:Array Value))).get? b=some (seqObj "list" #[] e1):=⟨_,get?_update_seq jt λ_=>#[]⟩
  have k3:∀c o,s.heap.get? c=some o->(g2.update b (Obj.mapSeq λ_=>(#[]:Array Value))).get? c=some o:=λc o e=>by
   have aM:=bF e
   rw[JV _ _ _ _ (bO (by rw[<-xc];exact lN aM))]
   exact k2 c o e
  have z3:(g2.update b (Obj.mapSeq λ_=>(#[]:Array Value))).objs.size=s.heap.objs.size+2:=by rw[Heap.size_update,z2]
  show wpAny _ _ _ _ _ { s with heap:=g2.update b (Obj.mapSeq λ_=>(#[]:Array Value)) }
  generalize g2.update b (Obj.mapSeq λ_=>(#[]:Array Value))=g3 at uj k3 z3
  refine aj (seqEpoch_at uj rfl ?_)
  refine aj (wpAny_newTuple ?_ (by show its.length<=_;lia))
  refine aj (wpAny_newList ?_ (bA _))
  refine gN ?_
  have z4:(g3.push { cls := .type "tuple",data := .seq its.toArray }).objs.size=s.heap.objs.size+3:=by rw[lO,z3]
  have EX:((g3.push { cls := .type "tuple",data := .seq its.toArray }).push { cls := .type "list",data := .seq ([]:List Value).toArray }).get? (s.heap.objs.size+3)=some (seqObj "list" #[] 0):=by
   have:((g3.push { cls := .type "tuple",data := .seq its.toArray }).push { cls := .type "list",data := .seq ([]:List Value).toArray }).get? (g3.push { cls := .type "tuple",data := .seq its.toArray }).objs.size=some (seqObj "list" #[] 0):=cq _ rfl
   rwa [z4] at this
  have k5:∀c o,g3.get? c=some o->((g3.push { cls := .type "tuple",data := .seq its.toArray }).push { cls := .type "list",data := .seq ([]:List Value).toArray }).get? c=some o:=λc o e=>bx _ (bx _ e)
  show wpAny _ _ (ksk_rest b (.ref q) true its.toArray e1 (.ref (g3.push { cls := .type "tuple",data := .seq its.toArray }).objs.size)) _ _ { s with heap:=(g3.push { cls := .type "tuple",data := .seq its.toArray }).push { cls := .type "list",data := .seq ([]:List Value).toArray } }
  rw[z4]
  have MD:=k5 _ _ uj
  have I5:Inv X pins O H { s with heap:=(g3.push { cls := .type "tuple",data := .seq its.toArray }).push { cls := .type "list",data := .seq ([]:List Value).toArray } }:=I.kept (t':=s.toks) λc o e=>k5 c o (k3 c o e)
  have EY:H b=none:=I.aD.fresh jY
  have ME:H (s.heap.objs.size+3)=none:=I.aD.fresh (zO _ _)
  have fb:∀{H':Hp},H' b=none->fg X pins H' b:=λh=>I.jO jY h
  have fk:∀{H':Hp},H' (s.heap.objs.size+3)=none->fg X pins H' (s.heap.objs.size+3):=λh=>I.jO (zO _ _) h
  have pM:b≠s.heap.objs.size+3:=by rw[<-xc];exact bO (lN (oK _))
  generalize (g3.push { cls := .type "tuple",data := .seq its.toArray }).push { cls := .type "list",data := .seq ([]:List Value).toArray }=g5 at EX MD I5
  clear z4 k5 k3 z3 k2 z2 uj
  generalize s.heap.objs.size+3=kS at EX ME fk pM
  have MF:∀{H':Hp}{s':Shared}{ok:Obj},Inv X pins O H' s'->H' b=none->H' kS=none->s'.heap.get? b=some (seqObj "list" #[] e1)->s'.heap.get? kS=some ok->(∀v,ok.data ≠ .cell v)->Inv X (pins++[(b,seqObj "list" #[] e1),(kS,ok)]) O H' s':=λJ nb nk eb ek hd=>
   J.z7 λp hp=>(cX.mp hp).elim (λz=>J.pin p (gc _ z)) λz=>by
    rcases b9.mp z with z | z
    .subst z
     exact⟨eb,nb,(fb nb).2.1,(fb nb).2.2.1,λv z=>nomatch z⟩
    .have z:=cb.mp z
     subst z
     exact⟨ek,nk,(fk nk).2.1,(fk nk).2.2.1,hd⟩
  have MG:∀{H':Hp}{s':Shared}{l2:List (Addr×Obj)},Inv X (pins++l2) O H' s'->Inv X pins O H' s':=λJ=>J.tO
  unfold ksk_rest
  refine aj (tE ?_)
  rw[List.forIn_toArray]
  refine aj (ksk_fold (λi s' =>∃(H':Hp) (kA:Array Value) (e:Nat),Inv X (pins++[(b,seqObj "list" #[] e1),(kS,seqObj "list" kA e)]) O H' s'/\af H H'/\Vals (((ss.take i).map kz).map V.int) kA.toList) its 0 _
   ⟨H,#[],0,MF I5 EY ME MD EX (λv z=>nomatch z),af.refl _,by rw[oU];exact .nil⟩ ?step ?done)
  case step=>
   rintro j x s' hx ⟨H',kA,e,J,sm,hk⟩
   rw[m7] at hk ⊢
   have hj:j<ss.length:=by rw[<-hlen];exact(bP.mp hx).1
   obtain⟨y,hy⟩:∃y,ss[j]? = some y:=⟨_,aS hj⟩
   obtain⟨u,hu,ru⟩:=rv.get (i:=j) (x:=V.str y) (by rw[bq,hy];rfl)
   rw[hx] at hu
   cases hu
   have xB:cw k X.A.in1.in1:=hr.in1.in1
   refine aj (zK (jE (XU (Q:=λv H4=>v = .int (kz y)/\af H' H4) F xB J.DO.in1.in1 hb J (sm _ _ hq) ru (turn y (bh hy) H' sm _ λH4 s4=>⟨rfl,s4⟩)) (λv s2 he=>?_) λ_ _ hF=>hF.elim))
   obtain⟨v',H4,J4,r4,rfl,s4⟩:=he
   obtain⟨t4,rfl⟩:=r4
   dsimp only
   have pb:=J4.pin (b,seqObj "list" #[] e1) (by simp)
   have pk:=J4.pin (kS,seqObj "list" kA e) (by simp)
   have kY:kA.size<=64:=by
    have h1:=hk.length
    have h2:kA.toList.length=kA.size:=fB
    rw[aq,aq,fC] at h1
    lia
   refine aj (listUpdate_at pk.1 rfl ?_ (by lia) (by rw[JW];lia))
   have ek:(s2.heap.update kS (Obj.mapSeq (·.push (.int (kz y) t4)))).get? kS=some (seqObj "list" (kA.push (.int (kz y) t4)) _):=get?_update_seq pk.1 (·.push (.int (kz y) t4))
   have eb:(s2.heap.update kS (Obj.mapSeq (·.push (.int (kz y) t4)))).get? b=some (seqObj "list" #[] e1):=by
    rw[JV _ _ _ _ pM]
    exact pb.1
   have A3:=fk pk.2.1
   have J5:Inv X pins O H4 { s2 with heap:=s2.heap.update kS (Obj.mapSeq (·.push (.int (kz y) t4))) }:=(MG J4).turned (t':=s2.toks) (it:=kS) (λc o hc e=>by rw[JV _ _ _ _ hc];exact e) pk.2.1 A3.2.1 A3.2.2.2.1 A3.2.2.2.2.1 A3.2.2.2.2.2
   refine aH ⟨rfl,H4,_,_,MF J5 pb.2.1 pk.2.1 eb ek (λv z=>nomatch z),sm.trans s4,?_⟩
   rw[eD,hy,dQ,dQ,Array.toList_push]
   exact hk.append (.cons ⟨t4,rfl⟩ .nil)
  case done=>
   rintro s' ⟨H',kA,e,J,sm,hk⟩
   rw[m7,hlen,eE (aN _)] at hk
   have pb:=J.pin (b,seqObj "list" #[] e1) (by simp)
   have pk:=J.pin (kS,seqObj "list" kA e) (by simp)
   refine aj (listItems_at pk.1 rfl ?_)
   obtain⟨mL,MH,_⟩:=id J.loc
   have XX:=(fb pb.2.1).2.1
   have XY:=(fk pk.2.1).2.1
   have XZ:∀{c:Addr}{o:Obj},c≠X.env.locals->c≠kS->c≠b->s'.heap.get? c=some o->(c,o)∈(jT.ledger s'.heap X.env.locals kS).filter λp=>decide (p.1≠b):=λh1 h2 h3 h4=>b8.mpr ⟨jT.Ec.mpr ⟨h1,h2,h4⟩,aI h3⟩
   refine ksk_end_ (h₀:=jT.AB s'.heap) (L:=X.env.locals) (m:=mL) (news:=(jT.ledger s'.heap X.env.locals kS).filter λp=>decide (p.1≠b)) (e:=e) (kz:=ss.map kz) (jT.VR MH) (λp hp=>?_) (bu pM) (λp hp=>?_) (λp hp=>?_) (MA hk) (by rw[aq,hlen]) (by lia) λh' tk out c MI N' ko=>?_
   .rcases cX.mp hp with hp | hp
    .obtain⟨h1,_⟩:=b8.mp hp
     obtain⟨n1,n2,h3⟩:=jT.Ec.mp h1
     exact⟨h3,n1,jT.AD _ _⟩
    .rcases b9.mp hp with z | z
     .subst z
      exact⟨pk.1,XY,jT.AD _ _⟩
     .have z:=cb.mp z
      subst z
      exact⟨pb.1,XX,jT.AD _ _⟩
   .exact(jT.Ec.mp (b8.mp hp).1).2.1
   .exact fF (b8.mp hp).2
   .obtain⟨ts,v1,v2,v3⟩:=sorted_out rv ko
    have pI:h'.get? b=some (seqObj "list" out c):=(N' (b,seqObj "list" out c) bG).1
    have kp:∀{x:Addr}{o:Obj},x≠X.env.locals->x≠kS->x≠b->s'.heap.get? x=some o->h'.get? x=some o:=λh1 h2 h3 h4=>(N' _ (bU _ (XZ h1 h2 h3 h4))).1
    have tl:∀x u,H' x=some u->x≠X.env.locals/\x≠kS/\x≠b:=λx u z=>⟨λy=>(by rw[y,J.free] at z;cases z),λy=>(by rw[y,pk.2.1] at z;cases z),λy=>(by rw[y,pb.2.1] at z;cases z)⟩
    have FB:=fb pb.2.1
    have FK:=fk pk.2.1
    have pB:(ts.map V.str).length<=sizeLine:=by rw[aq,v2.length_eq];lia
    have J6:Inv X pins O (upd H' b (.lst (ts.map V.str))) { s' with heap:=h',toks:=tk }:=by
     refine(MG J).step (g':=s'.gens) (d':=s'.drawn) (ch:=[kS,b]) (λx hx=>?_) (λx o n1 _ hc e _=>kp n1 (λz=>hc (by simp[z])) (λz=>hc (by simp[z])) e) (λx o n1 _ hc e _=>⟨o.slots,kp n1 (λz=>hc (by simp[z])) (λz=>hc (by simp[z])) e⟩)
      (λx o hc _ n=>by rw[ao (λz=>hc (by simp[z]))];exact n) (λx o hc e=>?_) (λx xs z=>by rw[ao (tl x _ z).2.2];exact z) (λx o u z=>by rw[ao (tl x _ z).2.2];exact z) (λx ps z=>⟨#[],by rw[ao (tl x _ z).2.2,z];simp⟩) (λm' EZ=>?_) (λx u z=>?_) J.bare
     .have hx:x=kS\/x=b:=by simpa using hx
      rcases hx with rfl | rfl
      .exact⟨FK.2.2.2.1,FK.2.1,FK.2.2.2.2.1,FK.2.2.2.2.2⟩
      .exact⟨FB.2.2.2.1,FB.2.1,FB.2.2.2.2.1,FB.2.2.2.2.2⟩
     .by_cases y:x=X.env.locals
      .obtain⟨oL,_,_,eL,_⟩:=MI.ns
       exact⟨oL,by rw[y];exact eL⟩
      .exact⟨o,kp y (λz=>hc (by simp[z])) (λz=>hc (by simp[z])) e⟩
     .have:m'=mL:=funext λnm=>EZ.agree MH nm
      rw[this]
      exact MI.ns
     .by_cases y:x=b
      .subst y
       rw[au] at z
       cases z
       exact⟨pB,out.toList,c,v1,by rw[Array.toArray_toList];exact pI⟩
      .rw[ao y] at z
       obtain⟨n1,n2,n3⟩:=tl x u z
       refine(J.aD x u z).kG (λd v hd e=>?_) (λdd e=>by rw[ao (tl dd _ e).2.2];exact e) λdd u' e=>by rw[ao (tl dd _ e).2.2];exact e
       rcases hd with rfl | hd
       .exact kp n1 n2 n3 e
       .obtain⟨m1,m2,m3⟩:=tl d _ hd
        exact kp m1 m2 m3 e
    refine⟨_,rfl,?_⟩
    exact aH ⟨_,rfl,fin b ts _ _ EY (λx o z=>by rw[ao (λy=>by rw[y,EY] at z;cases z)];exact sm x o z) au v2 v3 J6⟩
end
section
variable{X:Cx}{K:Frag}{C g:Addr}{m:Str}{o e:Expr}{to tl:TE}{sp:Sp}{k:Nat}{p pos ap X0 X1 cp:Pos}{ck:Nat}
structure E1(K:Frag)(C:Addr)(m:Str):Prop where
 ex:∃f,findIn K (.ref C) m=some (some (.ref f))/\Mz K f
 nm:PySem.W.copiedNames.contains m=false
def E2(K:Frag)(C:Addr)(m:Str)(sp:Sp)(to:TE)(O:St)(Q:VK)(x:V)(H1:Hp):Prop:=to O H1 λy H2=>∃(l:Addr) (ss:List Str) (a dx:Addr) (fs:List (Str×V)) (kz:Str->Int),x = .ref l/\y = .ref a/\ak K H2 l (ss.map V.str)/\ss.length<64/\H2 a=some (.ins C dx fs)/\fs.lookup m=none/\
 (∀x∈ss,∀H3,af H2 H3->∀Q':VK,(∀H4,af H3 H4->Q' (.int (kz x)) H4)->sp [.ref a,.str x] H3 Q' E0)/\
 ∀(p:Addr) (out:List Str) (H5:Hp),H2 p=none->af H2 H5->H5 p=some (.lst (out.map V.str))->out.Perm ss->(out.Pairwise λx y=>kz y<=kz x)->Q (.ref p) H5
def X2(K:Frag)(C:Addr)(m:Str)(sp:Sp)(tl to:TE):TE:=λO H Q=>tl O H (E2 K C m sp to O Q)
def X3(k:V->Hp->Prop):List V->Hp->Prop
 |[x],H=>k x H
 |_,_=>False
def X4(hK:X.K=K)(M:Mt X.prog X.w X.K X.mg X.base C m k sp [])(hM:E1 X.K C m)(hr:cw (k+2) X.A)(hg:Gl X "sorted")(hm:X.mg "sorted"=none)(hv:bootBuiltins "sorted"=some (.builtin "sorted"))(ha:PA X [e] (DN tl qZ))(ho:PE X o to)
  (hb:attributeBase o m X.env (eval o X.env)=eval o X.env) (he:backTo pos (starEach [e] X.env)=(false,eval e X.env)::backTo pos (starEach [] X.env):=by rfl) (hp:(backTo pos (starEach [e] X.env)).any (·.1)=false:=by rfl) :
  PE X (.Call (.Name "sorted" p) [e] [⟨some "key",.Attribute o m ap,X0⟩,⟨some "reverse",.Constant (.bool true) ck cp,X1⟩] pos) (X2 K C m sp tl to):=by
 subst hK
 intro pins s O H Q I h
 obtain⟨f,fd,ps,ds,mt,F,bn,vd⟩:=M.ex
 cases vd
 obtain⟨f',X5,bd⟩:=hM.ex
 have ef:f'=f:=by
  have:=X5.symm.trans mt.at_
  injection this with this
  injection this with this
  injection this with this
 subst ef
 refine vX (o9 I hg hm hv ?_ (by decide) (by decide))
 have h':DN tl qZ O H (X3 (E2 X.K C m sp to O Q)):=h
 refine callWith_kw (aE (ha pos pins s O H _ I h') λus s1 ⟨vs,H1,I1,r1,q1⟩=>?_) he hp
 obtain⟨x,rfl,q1⟩:∃x,vs=[x]/\E2 X.K C m sp to O Q x H1:=by
  match vs,q1 with
  |[x],q1=>exact⟨x,rfl,q1⟩
 obtain⟨u,rfl,ru⟩:∃u,us=[u]/\RelV _ u:=vals1 r1
 refine kws_cons (KS hb (aE (ho pins s1 O H1 _ I1 q1) λw' s2 ⟨y,H2,I2,ry,q2⟩=>?_))
 obtain⟨l,ss,a,dx,fs,kz,rfl,rfl,hl,da,rL,nR,turn,fin⟩:=q2
 cases ru
 cases ry
 refine XQ I2 rL M.cl mt bd hM.nm nR λq s3 hq I3=>?_
 have sq:=af.upd (o:=HO.ext (rK q f' a)) hq
 refine kws_cons (aE (gh pins s3 O _ (λv H'=>v = .bl true/\H'=upd H2 q (.ext (rK q f' a))) I3 ⟨rfl,rfl⟩) λb s4 ⟨v4,H4,I4,r4,e4,e5⟩=>?_)
 subst e4 e5
 cases r4
 refine kws_nil ?_
 refine XW (a:=a) (q:=q) I4 au F hr bn (sq.seq hl) da (λx mx H3 s3=>turn x mx H3 (sq.trans s3)) λp out H5 s5 hp s6 h5 h6 h7 I5=>?_
 exact⟨.ref p,H5,I5,rfl,fin p out H5 (sq.free hp) (sq.trans s6) h5 h6 h7⟩
end
def X6:typeLookup (.type "list") "keys"=pure none:=am_miss_of_fast (by kernel_rfl)
def A4:plainId "dict.update.loop"=true:=by decide +kernel
def MJ:entryFor table "dict.update.loop"=some Builtin.«dict.update.loop»:=entryFor_of_fast (by kernel_rfl)
section
variable{prog:Program}{w:World}{A:Around}{E:Value->Shared->Prop}{s:Shared}
def X7{xs:Array Value}{k:Nat}{Q:Option Value->Shared->Prop}(hx:s.heap.get? a=some { cls := .type "list",data := .seq xs k })(hA:A.handled=none)
  (h:∀h' tk,(∀b o,s.heap.get? b=some o->h'.get? b=some o)->Q none { s with heap:=h',toks:=tk }):wpAny (model prog w) A (getAttr? (.ref a) "keys") Q E s:=by
 obtain⟨hp,g,d,tk,os⟩:=s
 have hT:∀n,(⟨hp,g,d,n,os⟩:Shared).TypeIs (.ref a) "list":=λ_=>⟨_,hx,rfl⟩
 have g1:=sub_AttributeError
 have g2:=SU.lookup;have g3:=SU.bind (.ref a);have g4:=am_list_getattr_none
 unfold getAttr? getAttrBy? getAttrBy
 repeat (any_goals (first | assumption | exact hT _ | ((with_reducible show wpAny _ _ (call (Value.builtin "list.__getattribute__") _ _) _ _ _);refine call_meets SU (hT _) am_entry_list_getattribute (F.args_list_getattribute_2 _ _) (meets_getattribute_miss_list a xs k _ "keys" _ X6 (by decide +kernel) (by decide)) ⟨hx,hA,λh' n e hn=>?_⟩) | wp_step))
 obtain⟨t',u',he⟩:=hn.there
 show wpAny _ _ (getattributeRaised _ _ _ _ _ _ _) _ _ _
 unfold getattributeRaised
 repeat (any_goals (first | assumption | wp_step))
 exact h _ _ hn.keeps
end
section
variable{prog:Program}{w:World}{A:Around}{R:Result->Shared->Prop}{I:Addr}{fp wr:List Addr}{n:Nat}{P:Nat->Value->Prop}{St:Nat->Heap->Prop}{KK:Type}[DecidableEq KK]{knd:KeyKind prog w KK}
theorem X8(W:Walks prog w A.in1 I fp wr n P St)(D:Addr)(MK:D∉fp)(ks:Nat->KK)(ky vl:Nat->Value)(tt:Nat->Addr)(hP:∀i v,P i v->v = .ref (tt i))(hk:∀i,i<n->knd.is (ks i) (ky i)=true)(ht:∀i,i<n->tt i∉wr/\tt i≠D)
  (L:Nat->List (KK×Value)) (hL:∀i,i<n->L (i+1)=stored (L i) (ks i) (vl i)) (hz:∀i,i<=n->(L i).length<=sizeLine) :
  ∀(k i:Nat) (s:Shared) (it:Tok),n - i=k->i<=n->St i s.heap->s.heap.DictOf knd D (L i)->(∀i,i<n->∃o c,s.heap.get? (tt i)=some o/\o.cls = .type "tuple"/\o.data = .seq #[ky i,vl i] c)->
  (∀h' tk,(∀b o,b∉wr->b≠D->s.heap.get? b=some o->h'.get? b=some o)->h'.DictOf knd D (L n)->R (.ok (.ret .none)) { s with heap:=h',toks:=tk })->
  codeAny (model prog w) A (.builtin "dict.update.loop" ⟨[.ref D,.ref I,.int i it,.none],[]⟩) R s:=by
 have ML:D∉wr:=λh=>MK (W.sub _ h)
 intro k
 induction k with
 |zero=>
  intro i s it A6 hi cS hD E3 hR
  have bb:i=n:=by lia
  subst bb
  refine m8 MJ ?_
  rw[oV A4 _]
  show wpAny _ A.in1 (pyNext (.ref I) >>= _) _ _ s
  refine aj (W.done s _ _ cS λh' tk dZ=>?_)
  obtain⟨o,es,ep,ho,r⟩:=hD
  show wpAny _ A.in1 (Builtin.Dict.addKeywords D [] >>= _) _ _ _
  exact aj (aH (aH (hR h' tk (λb o hb _ e=>dZ b o hb e) ⟨o,es,ep,dZ D o ML ho,r⟩)))
 |succ k ih=>
  intro i s it A6 hi cS hD E3 hR
  have aM:i<n:=by lia
  refine m8 MJ ?_
  rw[oV A4 _]
  show wpAny _ A.in1 (pyNext (.ref I) >>= _) _ _ s
  refine aj (W.item i s _ _ aM cS λv h' tk hv jz dZ=>?_)
  have uk:h'.DictOf knd D (L i):=by
   obtain⟨o,es,ep,ho,r⟩:=hD
   exact⟨o,es,ep,dZ D o ML ho,r⟩
  rw[hP i v hv]
  obtain⟨oT,cT,E4,rM,X9⟩:=E3 i aM
  have A7:=dZ _ _ (ht i aM).1 E4
  show wpAny _ A.in1 (holding _ _ >>= _) _ _ _
  refine aj (gN (aj (Ds ?_)))
  unfold Builtin.Dict.pairItems
  refine aj (wpAny_typeOf (s:={ s with heap:=h',toks:=tk }) ⟨_,A7,rM⟩ ?_)
  rw[aA (by decide)]
  unfold seqItems?
  refine aj (aj (wpAny_load (s:={ s with heap:=h',toks:=tk }) A7 ?_))
  rw[X9]
  refine aH (aH ?_)
  refine gN (wpAny_dictSet_pairs (s:={ s with heap:=h',toks:=tk }) (hk i aM) uk (λh2 hd2 i5=>?_) (hz i (vT aM)))
  rw[<-hL i aM] at hd2
  refine aH ⟨qI A4 _,ih (i+1) _ _ (by lia) aM (W.frame _ _ _ jz λb hb o e=>?_) hd2 (λj hj=>?_) λh3 rN eF mw=>?_⟩
  .exact i5.extBut b o (λz=>MK (z ▸ hb)) e
  .obtain⟨o,c,h1,h2,h3⟩:=E3 j hj
   exact⟨o,c,i5.extBut _ _ (ht j hj).2 (dZ _ _ (ht j hj).1 h1),h2,h3⟩
  .exact hR h3 rN (λb o mB xC e=>eF b o mB xC (i5.extBut b o xC (dZ b o mB e))) mw
end
section
variable{prog:Program}{w:World}{A:Around}{E:Value->Shared->Prop}{s:Shared}
def Ya{l:Addr}{xs:Array Value}{k:Nat}(hx:s.heap.get? l=some { cls := .type "list",data := .seq xs k })(hA:A.handled=none)
  (h:∀h' tk,(∀b o,s.heap.get? b=some o->h'.get? b=some o)->h'.get? s.heap.objs.size=some { cls := .type "dict",data := .dict #[] }->wpAny (model prog w) A.in1.in1 (pyIter (.ref l)) (λit s1=>codeAny (model prog w) A.in1 (.builtin "dict.update.loop" ⟨[.ref s.heap.objs.size,it,rawInt 0,.none],[]⟩) (wants (λr s2=>r = .none/\Q (.ref s.heap.objs.size) s2) E) s1) E { s with heap:=h',toks:=tk }) :
  wpAny (model prog w) A (call (.type "dict") [.ref l]) Q E s:=by
 refine callType_codes (Q₁:=λobj s₁=>obj = .ref s.heap.objs.size/\s₁={ s with heap:=s.heap.push { cls := .type "dict",data := .dict #[] } }) F.kt_called_dict (F.kt_typeCall_dict_1 _) F.entry_dict_init (kt_code_dict_new _ ⟨rfl,rfl⟩) λobj s1 hq=>?_
 obtain⟨rfl,rfl⟩:=hq
 have Ay:(s.heap.push { cls := .type "dict",data := .dict #[] }).get? s.heap.objs.size=some { cls := .type "dict",data := .dict #[] }:=cq _ rfl
 have hT:Shared.TypeIs { s with heap:=s.heap.push { cls := .type "dict",data := .dict #[] } } (.ref s.heap.objs.size) "dict":=⟨_,Ay,rfl⟩
 have pN:(s.heap.push { cls := .type "dict",data := .dict #[] }).get? l=some { cls := .type "list",data := .seq xs k }:=bx _ hx
 refine⟨hT,F.args_dict_init_2 _ _,?_⟩
 unfold Builtin.«dict.__init__» Builtin.Dict.selfAndRest
 refine aj (aj (wpAny_notOrdered_dict hT ?_))
 show wpAny _ _ (pure (s.heap.objs.size,[Value.ref l])) _ _ _
 refine aH ?_
 show wpAny _ _ (Builtin.Dict.updateFrom "dict.__init__" s.heap.objs.size (.ref l) [] .none) _ _ _
 unfold Builtin.Dict.updateFrom
 refine aj (wpAny_typeOf (s:={ s with heap:=s.heap.push { cls := .type "dict",data := .dict #[] } }) ⟨_,pN,rfl⟩ ?_)
 rw[aA (by decide)]
 refine aj (X7 (s:={ s with heap:=s.heap.push { cls := .type "dict",data := .dict #[] } }) pN hA λh' tk kp=>?_)
 rw[aA (show(none:Option Value).isNone=true from rfl)]
 refine aj (tE ?_)
 refine aj (jE (h h' tk (λb o e=>kp b o (bx _ e)) (kp _ _ Ay)) (λit s1 z=>aH ⟨qI A4 _,z⟩) λ_ _ z=>z)
end
noncomputable def i6(ps:List (Str×V)):List (Key×V):=ps.foldl (λkvs p=>putK kvs (Sum.inr p.1) p.2) []
def MM(ps:List (Str×V))(p:Str×V):i6 (ps++[p])=putK (i6 ps) (Sum.inr p.1) p.2:=by unfold i6;rw[List.foldl_append];rfl
noncomputable def strN(ks:Nat->Key)(vl:Nat->Value):Nat->List (Key×Value)
 |0=>[]
 |i+1=>stored (strN ks vl i) (ks i) (vl i)
theorem Yb(kvs:List (Key×Value))(k:Key)(v:Value):(stored kvs k v).length<=kvs.length+1:=by
 unfold stored
 split
 .rw[aq];lia
 .rw[cE];exact aN _
theorem E5(ks:Nat->Key)(vl:Nat->Value):∀i,(strN ks vl i).length<=i
 |0=>aN _
 |i+1=>bL (Yb _ _ _) (kF (E5 ks vl i))
theorem MN{H:Hp}:∀{ts:List Addr}{ps:List (Str×V)},Paired (λt p=>H t=some (.tup [.str p.1,p.2])) ts ps->∀{i:Nat}{t:Addr},ts[i]? = some t->∃p,ps[i]? = some p/\H t=some (.tup [.str p.1,p.2])
 |_,_,.nil,_,_,h=>by cases h
 |_,_,.cons h1 h2,0,_,h=>⟨_,rfl,by cases h;exact h1⟩
 |_,_,.cons h1 h2,i+1,_,h=>MN h2 (i:=i) (by simpa using h)
theorem Yc(hc:X.calm=true):fL X (.type "dict") (λxs H Q=>∃(a:Addr) (ts:List Addr) (ps:List (Str×V)),xs=[.ref a]/\H a=some (.lst (ts.map V.ref))/\Paired (λt p=>H t=some (.tup [.str p.1,p.2])) ts ps/\ps.length<=10000/\
  ∀d,H d=none->Q (.ref d) (upd H d (.dK (i6 ps)))):=by
 intro pins s O H xs us Q I r h
 obtain⟨l,ts,ps,rfl,hl,hp,hn,q⟩:=h
 obtain⟨u,rfl,ru⟩:=vals1 r
 cases ru
 obtain⟨z,its,n,rv,hlen,e⟩:=I.pA hl
 have hh:X.A.handled=none:=I.ok.hd hc
 have gI:=dy hp
 rw[aq] at hlen
 have xD:l<s.heap.objs.size:=bF e
 have ex:∀i:Nat,∃kv:Value×Value,∀(t:Addr) (p:Str×V),ts[i]? = some t->ps[i]? = some p->(bV X.prog X.w).is (Sum.inr p.1) kv.1=true/\RelV p.2 kv.2/\IsTup s.heap t #[kv.1,kv.2]:=by
  intro i
  by_cases hi:i<ts.length
  .have e1:ts[i]? = some ts[i]:=aS hi
   have e2:ps[i]? = some ps[i]:=aS (by lia)
   obtain⟨p,gX,ht⟩:=MN hp e1
   obtain⟨Yd,E6,hT,_⟩:=I.tuple (ax.of ht)
   obtain⟨a1,a2,rfl,r1,r2⟩:=vals2 E6
   obtain⟨tk,rfl⟩:=r1
   refine⟨(.str p.1 tk,a2),λt p' h1 h2=>?_⟩
   rw[e1] at h1
   rw[gX] at h2
   cases h1
   cases h2
   exact⟨Dy p.1 tk,r2,hT⟩
  .exact⟨(.none,.none),λt p h1=>by rw[cR (by lia)] at h1;cases h1⟩
 obtain⟨f,hf⟩:=Classical.axiomOfChoice ex
 refine Ya e hh λh' tk kp iC=>?_
 have e':=kp _ _ e
 have hD:h'.DictOf (bV X.prog X.w) s.heap.objs.size (strN (λi=>Sum.inr (ps.getD i (⟨#[]⟩,.aB)).1) (λi=>(f i).2) 0):=⟨_,#[],0,iC,⟨rfl,rfl,rfl⟩,rfl,(λe he=>by simp at he),.nil,jh⟩
 have xE:h'.IsList l its.toArray:=⟨_,e',rfl,n,rfl⟩
 refine sX (s:={ s with heap:=h',toks:=tk }) xE ?_
 have hsz:s.heap.objs.size<h'.objs.size:=bF iC
 have aM:l<h'.objs.size:=Nat.lt_trans xD hsz
 have gt:∀i,i<its.toArray.size->∃(t:Addr) (p:Str×V),ts[i]? = some t/\ps[i]? = some p/\its[i]? = some (.ref t):=λi hi=>by
  rw[bg] at hi
  have e1:ts[i]? = some ts[i]:=aS (by lia)
  have e2:ps[i]? = some ps[i]:=aS (by lia)
  obtain⟨u,hu,ru⟩:=rv.get (i:=i) (x:=V.ref ts[i]) (by rw[bq,e1];rfl)
  cases ru
  exact⟨_,_,e1,e2,hu⟩
 refine X8 (knd:=bV X.prog X.w) (zH (A:=X.A.in1.in1) hh _ l (bO aM) its.toArray) s.heap.objs.size ?_ (λi=>Sum.inr (ps.getD i (⟨#[]⟩,.aB)).1) (λi=>(f i).1) (λi=>(f i).2) (λi=>ts.getD i 0) (λi v hP=>?_) (λi hi=>?_) (λi hi=>?_)
  (strN (λi=>Sum.inr (ps.getD i (⟨#[]⟩,.aB)).1) (λi=>(f i).2)) (λi _=>rfl) (λi hi=>?_) its.toArray.size 0 _ _ (by lia) (bA _) ⟨⟨_,cq _ rfl,rfl,rfl⟩,xE.push _⟩ (hD.push _) (λi hi=>?_) λh3 rN k3 d3=>⟨rfl,?_⟩
 .intro m
  have m:s.heap.objs.size=h'.objs.size\/s.heap.objs.size=l:=by simpa using m
  rcases m with m | m
  .exact bO hsz m
  .exact zo xD m
 .have hP:its[i]? = some v:=by simpa using hP
  have hi:i<its.toArray.size:=by rw[bg];exact(bP.mp hP).1
  obtain⟨t,p,e1,_,e3⟩:=gt i hi
  rw[hP] at e3
  cases e3
  show _=Value.ref (ts.getD i 0)
  rw[bR,e1]
  rfl
 .obtain⟨t,p,e1,e2,_⟩:=gt i hi
  have:=(hf i t p e1 e2).1
  show(bV X.prog X.w).is (Sum.inr (ps.getD i (⟨#[]⟩,.aB)).1) (f i).1=true
  rw[bR,e2]
  exact this
 .obtain⟨t,p,e1,e2,_⟩:=gt i hi
  obtain⟨o,ho,_⟩:=(hf i t p e1 e2).2.2
  have pB:=bF ho
  show ts.getD i 0∉[h'.objs.size]/\ts.getD i 0≠s.heap.objs.size
  rw[bR,e1]
  refine⟨λm=>?_,bO pB⟩
  exact bO (Nat.lt_trans pB hsz) (cb.mp m)
 .have:=E5 (λi=>Sum.inr (ps.getD i (⟨#[]⟩,.aB)).1) (λi=>(f i).2) i
  rw[bg] at hi
  have MO:(10000:Nat)<=sizeLine:=by decide
  lia
 .obtain⟨t,p,e1,e2,_⟩:=gt i hi
  obtain⟨o,ho,As,c,hd2⟩:=(hf i t p e1 e2).2.2
  refine⟨o,c,?_,As,hd2⟩
  show(h'.push _).get? (ts.getD i 0)=_
  rw[bR,e1]
  exact bx _ (kp _ _ ho)
 .have kv:∀i,i<=ps.length->KV (i6 (ps.take i)) (strN (λi=>Sum.inr (ps.getD i (⟨#[]⟩,.aB)).1) (λi=>(f i).2) i):=by
   intro i
   induction i with
   |zero=>intro _;rw[oU];exact .nil
   |succ i ih=>
    intro hi
    have e2:ps[i]? = some ps[i]:=aS hi
    obtain⟨t,p,e1,e3,_⟩:=gt i (by rw[bg];lia)
    rw[e2] at e3
    cases e3
    rw[eD,e2]
    show KV (i6 (ps.take i++[ps[i]])) (stored _ _ _)
    have eg:(ps.getD i (⟨#[]⟩,.aB))=ps[i]:=by rw[bR,e2];rfl
    dsimp only
    rw[MM,eg]
    exact(ih (by lia)).put _ (hf i t _ e1 e2).2.1
  have E7:=kv ps.length (aN _)
  rw[eE (aN _)] at E7
  have en:its.toArray.size=ps.length:=by rw[bg];lia
  rw[en] at d3
  have nS:(i6 ps).length<=sizeLine:=by
   rw[E7.length]
   exact bL (E5 _ _ _) (bL hn (by decide))
  have fr:=I.fresh
  refine⟨.ref s.heap.objs.size,_,I.laid (a:=s.heap.objs.size) (o := .dK (i6 ps)) (t':=rN) (λb o hb=>?_) (aN _) (Lo nS (sV.mpr (bu (bO I.big))) E7 d3),rfl,q _ fr⟩
  have jr:=bF hb
  refine k3 b o (λm=>?_) (bO jr) (bx _ (kp _ _ hb))
  exact bO (Nat.lt_trans jr hsz) (cb.mp m)
def Ye:bootBuiltins "dict"=some (.type "dict"):=by decide +kernel
section
variable{prog:Program}{w:World}{KK:Type}[DecidableEq KK]{knd:HeapKind prog w KK}{A:Around}{E:Value->Shared->Prop}{s:Shared}
theorem Yf{d:Addr}{xs:List (KK×Addr×Value)}{k:KK}{v:Value}(hu:knd.room A)(qX:knd.is s.heap k a)(hm:s.heap.DictOfH knd d xs)(hz:xs.length<=sizeLine)
  (old:∀p,atKey xs k=some p->Q p.2 { s with toks:=s.toks+knd.draws k })
  (new:atKey xs k=none->∀h',h'.DictOfH knd d (storedH xs k a v)->Heap.SameBut d s.heap h'->Q v { s with heap:=h',toks:=s.toks+knd.draws k }):wpAny (model prog w) A (dictSetDefault d (.ref a) v) Q E s:=by
 obtain⟨o,es,ep,ho,hc,hd,he,MP,hn⟩:=hm
 unfold dictSetDefault
 refine gN (aj (knd.pyHash hu qX (aj (wpAny_dictFind_heap (s:={ s with toks:=s.toks+knd.draws k }) hu qX ho hd he MP hn (λkZ=>?_) λj p hj=>?_))))
 .have e0:=atKey_none_of_get kZ
  have Yg:k∉xs.map (·.1):=not_mem_keys_of_get kZ
  have ez:=size_of_entries he
  have nw:=new e0
  rw[storedH_new e0] at nw
  refine aj (tE (aj (wpAny_updateDictKeys (hz:=by lia) (s:={ s with toks:=s.toks+knd.draws k }) ho hd (aH (nw _ ⟨_,_,ep+1,oN _ ho (Obj.isFreed_of_dict (Obj.data_mapDictKeys hd _)),hc.mapDictKeys _,Obj.data_mapDictKeys hd _,?_,λx hx=>?_,?_⟩ (qG ..))))))
  .simp[he,entryOfKey]
  .rcases cX.mp hx with hx | hx
   .exact knd.keeps (MP x hx) ho hd (qG ..)
   .rw[cb.mp hx]
    exact knd.keeps qX ho hd (qG ..)
  .rw[dQ,oX]
   exact⟨hn,by simp,λx hx y hy z=>Yg (by rw[<-show y=k by simpa using hy,<-z];exact hx)⟩
 .refine aj (wpAny_dictEntries (s:={ s with toks:=s.toks+knd.draws k }) ho hd ?_)
  rw[entry_at he j,hj]
  exact aj (tE (aH (old p (atKey_of_get hn hj))))
end
section
variable{X:Cx}{pins:List (Addr×Obj)}{O:St}{H:Hp}{s:Shared}{a b:Addr}{A:Around}{E:Value->Shared->Prop}{kvs:List (List Key×V)}{k:List Key}{z:V}{r:Value}
theorem Yh(hu:A.units+1<cLine)(I:Inv X pins O H s)(e:H a=some (.dT kvs))(eb:H b=some (.tup (k.map kV)))(hl:kvs.length<sizeLine)(rz:RelV z r)
  (old:∀v,aP kvs k=some v->∀u s',Inv X pins O H s'->RelV v u->Q u s') (new:aP kvs k=none->∀s',Inv X pins O (upd H a (.dT (putK kvs k z))) s'->Q r s') :
  wpAny (model X.prog X.w) A (call (.builtin "dict.setdefault") [.ref a,.ref b,r]) Q E s:=by
 obtain⟨hz,hd,xs,rel,dd⟩:=Ln I.aD e
 refine qF PySem.F.slot_dict_setdefault dd.typeIs PySem.F.entry_dict_setdefault ?_ (PySem.F.args_dict_setdefault_3 _ _ _)
 unfold Builtin.«dict.setdefault» Builtin.Dict.keyAndDefault
 refine aj (aj (wpAny_notOrdered_dict dd.typeIs ?_))
 show wpAny _ A.in1 (pure (a,Value.ref b,some r)) _ _ s
 refine aH ?_
 show wpAny _ A.in1 (if (a==sysModules)=true then _ else (dictSetDefault a (.ref b) r >>= λv=>ret v)) _ _ s
 rw[av (show ¬(a==sysModules)=true by rw[hd];decide)]
 refine aj (Yf (zE hu) (rk I.aD eb) dd (by rw[<-dy rel];exact hz) (λp hp=>?_) λhp h' tX hs=>?_)
 .obtain⟨v,hv,rv⟩:∃v,aP kvs k=some v/\RelV v p.2:=by
   have:=rel.val k
   rw[hp] at this
   cases hv:aP kvs k with
   |none=>rw[hv] at this;exact this.elim
   |some v=>rw[hv] at this;exact⟨v,rfl,this⟩
  exact aH ⟨_,rfl,old v hv _ _ (I.tok _) rv⟩
 .have hv:aP kvs k=none:=by
   have:=rel.val k
   rw[hp] at this
   cases hv:aP kvs k with
   |none=>rfl
   |some v=>rw[hv] at this;exact this.elim
  have kO:(putK kvs k z).length<=sizeLine:=by have:=tU kvs k z;lia
  refine aH ⟨_,rfl,new hv _ ?_⟩
  obtain⟨q,es,ep,hq,h2,h3,h4,_,h5⟩:=tX
  refine D7 I (by rw[e];exact True.intro) hs ⟨q,hq⟩ ⟨kO,hd,_,(rel.put k eb rz).keeps λc ys ec=>?_,q,es,ep,hq,h2,h3,h4,h5⟩
  rw[ao (cy ec e (λz=>nomatch z))]
  exact ec
end
section
variable{X:Cx}{o e f:Expr}{td ty tx:TE}{apos dU:Pos}
def Yi(td ty tx:TE):TE:=λO H Q=>td O H λx H1=>∃a,x = .ref a/\Ea H1 a/\ty O H1 λy H2=>tx O H2 λz H3=>∃kvs k b,H3 a=some (.dT kvs)/\y = .ref b/\H3 b=some (.tup (k.map kV))/\kvs.length<sizeLine/\
 (∀v,aP kvs k=some v->Q v H3)/\(aP kvs k=none->Q z (upd H3 a (.dT (putK kvs k z))))
def Yj(hu:X.A.units+1<cLine)(ho:PE X o td)(he:PE X e ty)(hf:PE X f tx)(m:M2 X o "setdefault" apos e f dU):PE X (.Call (.Attribute o "setdefault" apos) [e,f] [] dU) (Yi td ty tx):=by
 intro pins s O H Q I h
 refine wpAny_Call_method m.base m.fq m.line PySem.F.plainAttrs_dict PySem.F.slot_dict_setdefault PySem.F.type_dict_setdefault (aE (ho pins s O H _ I h) λu s1 h_=>?_)
 obtain⟨x,H1,I1,rx,a,ex,d,q1⟩:=h_
 subst ex
 obtain rfl:u=Value.ref a:=rx
 obtain⟨t1,t2,_⟩:=Lu I1 d
 refine⟨t1,t2,?_⟩
 rw[m.trees]
 refine SJ rfl (SK (Dh (aE (he pins s1 O H1 _ I1 q1) λiv s2 ⟨y,H2,I2,ry,q2⟩=>Dh (aE (hf pins s2 O H2 _ I2 q2) λfv s3 ⟨z,H3,I3,rz,kvs,k,b,ea,ey,eb,hl,q3,q4⟩=>Calls.spliced_nil ?_))))
 subst ey
 obtain rfl:iv=Value.ref b:=ry
 exact Yh hu I3 ea eb hl rz (λv hv u s4 I4 ru=>⟨v,H3,I4,ru,q3 v hv⟩) λhv s4 I4=>⟨z,_,I4,rz,q4 hv⟩
end
section
variable{prog:Program}{w:World}{A:Around}{R:Result->Shared->Prop}{I:Addr}{fp wr:List Addr}{n:Nat}{P:Nat->Value->Prop}{St:Nat->Heap->Prop}
def mC(h:Heap)(t:Addr)(a b:Int):Prop := ∃u v:Tok,IsTup h t #[.int a u,.int b v]
def mC.ext{t:Addr}{a b:Int}(x:mC h t a b)(k:∀o,h.get? t=some o->h'.get? t=some o):mC h' t a b:=let ⟨u,v,o,ho,r⟩:=x;⟨u,v,o,k o ho,r⟩
def Yk{t t':Addr}{a b a' b':Int}(x:mC s.heap t a b)(y:mC s.heap t' a' b')(hu:A.units<cLine)(h:Q (.bool (HT.lexLt [a,b] [a',b'])) s) :
  wpAny (model prog w) A (richCompare .Lt (.ref t) (.ref t')) Q E s:=by
 obtain⟨u,v,p⟩:=x
 obtain⟨u',v',p'⟩:=y
 exact HT.U9 p p' (.cons a u (.cons b v .nil)) (.cons a' u' (.cons b' v' .nil)) hu h
theorem MQ{a b a' b':Int}:(HT.lexLt [a,b] [a',b']=true->a<=a')/\(HT.lexLt [a,b] [a',b']=false->a'<=a):=by
 rw[HT.K8]
 by_cases e:a=a'
 .exact⟨λ_=>by lia,λ_=>by lia⟩
 .rw[av e]
  exact⟨λh=>by have:=fF h;lia,λh=>by have:=of_decide_eq_false h;lia⟩
theorem Yl(W:Walks prog w A.in1 I fp wr n P St)(bs:Addr)(um:bs∉fp)(hu:A.in1.units<cLine)(tt:Nat->Addr)(fa fb:Nat->Int)(hP:∀i v,P i v->v = .ref (tt i))(ht:∀i,i<n->tt i∉wr/\tt i≠bs) :
  ∀(k j:Nat) (s:Shared) (b c:Nat),n - (j+1)=k->j+1<=n->St (j+1) s.heap->b<=j->(∀i,i<=j->fa b<=fa i)->s.heap.get? bs=some { cls := .type "list",data := .seq #[.ref (tt b),.ref (tt b)] c }->(∀i,i<n->mC s.heap (tt i) (fa i) (fb i))->
  (∀b h' tk,b<n->(∀i,i<n->fa b<=fa i)->(∀x o,x∉wr->x≠bs->s.heap.get? x=some o->h'.get? x=some o)->R (.ok (.ret (.ref (tt b)))) { s with heap:=h',toks:=tk })->
  codeAny (model prog w) A (.builtin "min.loop" ⟨[.ref I,.none,.ref bs],[]⟩) R s:=by
 have mB:bs∉wr:=λh=>um (W.sub _ h)
 have uo:(toString "min"++toString ".loop":String)="min.loop":=by decide
 intro k
 induction k with
 |zero=>
  intro j s b c hk hj cS hb mD hS hT hR
  have bb:j+1=n:=by lia
  refine m8 F.entry_min_loop ?_
  rw[oV wt _]
  show wpAny _ A.in1 (seqItems? (.ref bs) >>= _) _ _ s
  refine aj (kE hS rfl ?_)
  show wpAny _ A.in1 (tryCatch (pyNext (.ref I)) _ >>= _) _ _ s;refine aj (Ds (W.done s _ _ (by rw[<-bb];exact cS) λh' tk kp=>?_))
  have jZ:=kp bs _ mB hS
  show wpAny _ A.in1 (updateSeq bs (λ_=>#[]) >>= _) _ _ _
  refine aj (wpAny_updateSeq jZ rfl (aj (wm (aH (hR b _ tk (by lia) (λi hi=>mD i (by lia)) λx o h1 h2 e=>(m4 _ _ (bu h2)).trans (kp x o h1 e))))))
 |succ k ih=>
  intro j s b c hk hj cS hb mD hS hT hR
  have aM:j+1<n:=by lia
  refine m8 F.entry_min_loop ?_
  rw[oV wt _]
  show wpAny _ A.in1 (seqItems? (.ref bs) >>= _) _ _ s
  refine aj (kE hS rfl ?_)
  show wpAny _ A.in1 (tryCatch (pyNext (.ref I)) _ >>= _) _ _ s;refine aj (Ds (W.item (j+1) s _ _ aM cS λv h' tk hv jz kp=>?_))
  have jZ:=kp bs _ mB hS
  have A8:∀i,i<n->mC h' (tt i) (fa i) (fb i):=λi hi=>(hT i hi).ext λo e=>kp _ o (ht i hi).1 e
  rw[hP _ v hv]
  show wpAny _ A.in1 (tryCatch (holding _ (richCompare .Lt (.ref (tt (j+1))) (.ref (tt b)) >>= _)) _ >>= _) _ _ _
  refine aj (Ds (gN (aj (Yk (s:={ s with heap:=h',toks:=tk }) (A8 _ aM) (A8 b (by lia)) hu ?_))))
  refine aj (gN (oJ (aj (wm (aH ?_)))))
  cases hc:HT.lexLt [fa (j+1),fb (j+1)] [fa b,fb b] with
  |true=>
   have h1:=MQ.1 hc
   simp only[gr]
   refine aj (wpAny_updateSeq jZ rfl (aj (wm ?_)))
   rw[uo]
   refine aH ⟨qI wt _,ih (j+1) _ (j+1) _ (by lia) aM (W.frame _ _ _ jz λx hx o e=>?_) (aN _) (λi hi=>?_) (oN _ jZ rfl) (λi hi=>(A8 i hi).ext λo e=>(m4 _ _ (bu (ht i hi).2)).trans e) λb' h2 jw q1 q2 q3=>hR b' h2 jw q1 q2 λx o h1 h2 e=>q3 x o h1 h2 ((m4 _ _ (bu h2)).trans (kp x o h1 e))⟩
   .exact(m4 _ _ (λz:bs=x=>um (by rw[z];exact hx))).trans e
   .rcases wu j i with z | z
    .rw[show i=j+1 by lia];exact Int.le_refl _
    .have:=mD i z;lia
  |false=>
   have h1:=MQ.2 hc
   simp only[fG,eO]
   refine aj (wm ?_)
   rw[uo]
   refine aH ⟨qI wt _,ih (j+1) _ b c (by lia) aM jz (by lia) (λi hi=>?_) jZ A8 λb' h2 jw q1 q2 q3=>hR b' h2 jw q1 q2 λx o h1 h2 e=>q3 x o h1 h2 (kp x o h1 e)⟩
   rcases wu j i with z | z
   .rw[show i=j+1 by lia];exact h1
   .exact mD i z
theorem Ym(W:Walks prog w A.in1 I fp wr n P St)(bs:Addr)(um:bs∉fp)(hu:A.in1.units<cLine)(tt:Nat->Addr)(fa fb:Nat->Int)(hP:∀i v,P i v->v = .ref (tt i))(ht:∀i,i<n->tt i∉wr/\tt i≠bs)(hn:0<n)(cS:St 0 s.heap)
  (hS:s.heap.get? bs=some { cls := .type "list",data := .seq #[] c }) (hT:∀i,i<n->mC s.heap (tt i) (fa i) (fb i))
  (hR:∀b h' tk,b<n->(∀i,i<n->fa b<=fa i)->(∀x o,x∉wr->x≠bs->s.heap.get? x=some o->h'.get? x=some o)->R (.ok (.ret (.ref (tt b)))) { s with heap:=h',toks:=tk }) :
  codeAny (model prog w) A (.builtin "min.loop" ⟨[.ref I,.none,.ref bs],[]⟩) R s:=by
 have mB:bs∉wr:=λh=>um (W.sub _ h)
 have uo:(toString "min"++toString ".loop":String)="min.loop":=by decide
 refine m8 F.entry_min_loop ?_
 rw[oV wt _]
 show wpAny _ A.in1 (seqItems? (.ref bs) >>= _) _ _ s
 refine aj (kE hS rfl ?_)
 show wpAny _ A.in1 (tryCatch (pyNext (.ref I)) _ >>= _) _ _ s;refine aj (Ds (W.item 0 s _ _ hn cS λv h' tk hv jz kp=>?_))
 have jZ:=kp bs _ mB hS
 rw[hP _ v hv]
 show wpAny _ A.in1 (updateSeq bs (λ_=>#[.ref (tt 0),.ref (tt 0)]) >>= _) _ _ _
 refine aj (wpAny_updateSeq jZ rfl ?_)
 rw[uo]
 refine aH ⟨qI wt _,Yl W bs um hu tt fa fb hP ht _ 0 _ 0 _ rfl hn (W.frame _ _ _ jz λx hx o e=>?_) (aN _) (λi hi=>?_) (oN _ jZ rfl) (λi hi=>((hT i hi).ext λo e=>kp _ o (ht i hi).1 e).ext λo e=>(m4 _ _ (bu (ht i hi).2)).trans e)
  λb' h2 jw q1 q2 q3=>hR b' h2 jw q1 q2 λx o h1 h2 e=>q3 x o h1 h2 ((m4 _ _ (bu h2)).trans (kp x o h1 e))⟩
 .exact(m4 _ _ (λz:bs=x=>um (by rw[z];exact hx))).trans e
 .rw[show i=0 by lia];exact Int.le_refl _
end
section
variable{X:Cx}
theorem Yn(hc:X.calm=true)(hu:X.A.units+4<cLine):fL X (.builtin "min") (λxs H Q=>∃(a:Addr) (ts:List Addr) (ps:List (Int×Int)),xs=[.ref a]/\H a=some (.lst (ts.map V.ref))/\Paired (λt p=>H t=some (.tup [.int p.1,.int p.2])) ts ps/\0<ps.length/\
  ∀(b:Nat) (t:Addr) (p:Int×Int),ts[b]? = some t->ps[b]? = some p->(∀q∈ps,p.1<=q.1)->Q (.ref t) H):=by
 intro pins s O H xs us Q I r h
 obtain⟨l,ts,ps,rfl,hl,hp,hn,q⟩:=h
 obtain⟨u,rfl,ru⟩:=vals1 r
 cases ru
 obtain⟨z,its,n,rv,hlen,e⟩:=I.pA hl
 have hh:X.A.handled=none:=I.ok.hd hc
 have gI:=dy hp
 rw[aq] at hlen
 have xD:l<s.heap.objs.size:=bF e
 have xE:s.heap.IsList l its.toArray:=⟨_,e,rfl,n,rfl⟩
 have gt:∀i,i<ts.length->∃(t:Addr) (p:Int×Int),ts[i]? = some t/\ps[i]? = some p/\its[i]? = some (.ref t)/\mC s.heap t p.1 p.2:=λi hi=>by
  have e1:ts[i]? = some ts[i]:=aS hi
  obtain⟨p,gX,ht⟩:=Paired.getL hp e1
  obtain⟨u,hu,ru⟩:=rv.get (i:=i) (x:=V.ref ts[i]) (by rw[bq,e1];rfl)
  cases ru
  obtain⟨Yd,E6,hT,_⟩:=I.tuple (ax.of ht)
  obtain⟨a1,a2,rfl,r1,r2⟩:=vals2 E6
  obtain⟨t1,rfl⟩:=r1
  obtain⟨t2,rfl⟩:=r2
  exact⟨_,p,e1,gX,hu,t1,t2,hT⟩
 refine call_function_tree F.kind_min F.plain_min F.entry_min (F.args_min1 _) ?_
 show wpAny _ X.A.in1 (Builtin.Builtins.bindParams "min" ["key","default"] 0 ⟨[],[]⟩ >>= _) _ _ s
 refine aj (oS (a:=[none,none]) rfl (aj (aH (aj (sX xE ?_)))))
 refine aj (we ?_)
 have uo:(toString "min"++toString ".loop":String)="min.loop":=by decide
 rw[uo]
 have z1:(s.heap.push { cls := .type "list_iterator",data := .fields #[.ref l,.int 0 0] }).objs.size=s.heap.objs.size+1:=lO _ _
 refine aH ⟨qI wt _,Ym (zH (A:=X.A.in1) hh s.heap.objs.size l (bO xD) its.toArray) _ ?_ (by show X.A.units+1<cLine;lia) (λi=>ts.getD i 0) (λi=>(ps.getD i (0,0)).1) (λi=>(ps.getD i (0,0)).2) (λi v hP=>?_) (λi hi=>?_) (by rw[bg];lia)
  ⟨⟨_,bx _ (cq _ rfl),rfl,rfl⟩,(xE.push _).push _⟩ (cq _ rfl) (λi hi=>?_) λb h' tk hb hm kp=>?_⟩
 .intro m
  have m:(s.heap.push { cls := .type "list_iterator",data := .fields #[.ref l,.int 0 0] }).objs.size=s.heap.objs.size\/(s.heap.push { cls := .type "list_iterator",data := .fields #[.ref l,.int 0 0] }).objs.size=l:=by simpa using m
  rw[z1] at m
  rcases m with m | m
  .exact zo (oK _) m
  .exact zo (lN xD) m
 .have hP:its[i]? = some v:=by simpa using hP
  obtain⟨t,p,e1,_,e3,_⟩:=gt i (by have:=(bP.mp hP).1;lia)
  rw[hP] at e3
  cases e3
  show _=Value.ref (ts.getD i 0)
  rw[bR,e1]
  rfl
 .obtain⟨t,p,e1,e2,_,x,y,o,ho,_⟩:=gt i (by rw[bg] at hi;lia)
  have pB:=bF ho
  show ts.getD i 0∉[s.heap.objs.size]/\ts.getD i 0≠(s.heap.push _).objs.size
  rw[bR,e1,z1]
  exact⟨λm=>bO pB (cb.mp m),bO (lN pB)⟩
 .obtain⟨t,p,e1,e2,_,hT⟩:=gt i (by rw[bg] at hi;lia)
  show mC _ (ts.getD i 0) (ps.getD i (0,0)).1 (ps.getD i (0,0)).2
  rw[bR,bR,e1,e2]
  exact hT.ext λo e=>bx _ (bx _ e)
 .obtain⟨t,p,e1,e2,_⟩:=gt b (by rw[bg] at hb;lia)
  have et:ts.getD b 0=t:=by rw[bR,e1];rfl
  have ep:ps.getD b (0,0)=p:=by rw[bR,e2];rfl
  show EP X pins O Q (.ref (ts.getD b 0)) _
  rw[et]
  refine⟨.ref t,H,I.kept (t':=tk) (λx o hx=>?_),rfl,q b t p e1 e2 λp' eI=>?_⟩
  .have hlx:=bF hx
   exact kp x o (λm=>bO hlx (cb.mp m)) (by show x≠(s.heap.push _).objs.size;rw[z1];exact bO (lN hlx)) (bx _ (bx _ hx))
  .obtain⟨i,hi⟩:=dR eI
   have MR:=(bP.mp hi).1
   have:=hm i (by rw[bg];lia)
   rw[ep,bR,hi] at this
   exact this
end
structure A9(K:Frag)(mg:Str->Option Value)(x:Str)(C:Addr):Prop where
 MS:makesIn K C=true
 it:findIn K (.ref C) "__init__"=some (some (.builtin "object.__init__"))
 kp:keepIn K (.ref C)=true
 gl:mg x=some (.ref C)
def Yo(C:Addr):TE:=λ_ H Q=>∀x dx,H x=none->H dx=none->dx≠x->Q (.ref x) (upd (upd H dx (.own x)) x (.ins C dx []))
def Yp(N:A9 X.K X.mg x C)(hg:Gl X x)(gD:(x==("__debug__":Str))=false:=by decide):PE X (.Call (.Name x p) [] [] pos) (Yo C):=by
 intro pins s O H Q I h
 refine vX (wH I hg N.gl ?_ gD)
 refine PySem.W.callWith_K0 I.cY N.kp (zt (UB I.cY N.MS N.it (λself=>Looks.of_pure (PySem.W.oi_bind self)) ?_))
 have I2:=Inv.made (C:=C) I
 have q:=h (s.heap.objs.size+1) s.heap.objs.size (I.aD.fresh (gO _)) (I.aD.fresh (aN _)) (bO (oK _))
 have Y:=PySem.W.makes_of (M:=model X.prog X.w) I.cY N.MS
 have e2:((s.heap.push emptyDict).push (instObj C s.heap.objs.size)).get? (s.heap.objs.size+1)=some (instObj C s.heap.objs.size):=by
  have:((s.heap.push emptyDict).push (instObj C s.heap.objs.size)).get? (s.heap.push emptyDict).objs.size=some (instObj C s.heap.objs.size):=cq _ rfl
  rwa [km] at this
 have lt:Looks (model X.prog X.w) ((s.heap.push emptyDict).push (instObj C s.heap.objs.size)) (typeOf (.ref (s.heap.objs.size+1))) (.ref C):=(Looks.ld e2).andThen .now
 have lk:Looks (model X.prog X.w) ((s.heap.push emptyDict).push (instObj C s.heap.objs.size)) (isInstance (.ref (s.heap.objs.size+1)) (.type "object")) true:=lt.andThen (Y.top.keeps λb o e=>bx _ (bx _ e))
 refine codeAny_call_builtin PySem.W.oi_plain PySem.W.entry_oi (@PySem.W.check_slot (model X.prog X.w) _ _ _ "object.__init__" "object" "__init__" (.ref (s.heap.objs.size+1)) [] [] _ PySem.W.oi_kind PySem.W.oi_split lk (PySem.W.oi_args _) ?_)
 rw[PySem.W.oi_run]
 exact aH ⟨rfl,.ref (s.heap.objs.size+1),_,I2,rfl,q⟩
structure pO(K:Frag)(C:Addr):Prop where
 cl:cG K C
 ha:findIn K (.ref C) "__class__"=some (some (.builtin "object.__class__"))
 hn:specialIn K (.builtin "object.__class__") "__get__"=some (some (.builtin "getset_descriptor.__get__"))
 ht:takesIn K (.builtin "object.__class__")=some true
 hm:mroIn K C (.type "object")=some true
def pO.ty{dx:Addr}{fs:List (Str×V)}(t:pO K C)(e:H a=some (.ins C dx fs)):gU K H (.ref a) (.ref C) := .ins e t.cl t.ha t.hn t.ht t.hm
def MT:fL X (.builtin "isinstance") (λxs H Q=>∃x D t b,(xs=[x,.ref D]/\gU X.K H x t/\kitOne X.K t (.ref D)=some b)/\Q (.bl b) H):=by
 intro pins s O H xs us Q I r h
 obtain⟨x,D,t,b,⟨rfl,ty,e⟩,q⟩:=h
 obtain⟨u,v,rfl,ru,rv⟩:=vals2 r
 cases rv
 exact KU I ru ty e λtk=>⟨.bl b,H,I.tok tk,rfl,q⟩
section
variable{X:Cx}{pins:List (Addr×Obj)}{O:St}{H:Hp}{s:Shared}
noncomputable def fD(K:Frag)(H:Hp)(e:D)(u:Value):Bool :=@decide (∃d x,At K H d x/\RelV x u/\dH d e=true) (Classical.propDecidable _)
def Yq(I:Inv X pins O H s){d e:D}{x:V}(a:At X.K H d x)(r:RelV x u):fD X.K H e u=dH d e:=by
 unfold fD
 rw[sY]
 constructor
 .intro hh
  obtain⟨d',x',a',r',h⟩ :=@fF _ (Classical.propDecidable _) hh
  have ex:=r.inj r'
  subst ex
  rw[At.inj I d d' x a a']
  exact h
 .intro h
  exact @aI _ (Classical.propDecidable _) ⟨d,x,a,r,h⟩
theorem MU(I:Inv X pins O H s){e:D}{y:V}{v:Value}{A:Around}(hu:A.units+50<cLine)(ae:At X.K H e y)(ry:RelV y v):∀{ds:List D}{xs:List V}{us:List Value},dh X.K H ds xs->Vals xs us->dO ds<=50->(∀u∈us,SeqAt.EqAt A s u v (fD X.K H e u))/\us.any (fD X.K H e)=ds.any λd=>dH d e
 |[],xs,us,a,r,_=>by
  rw[dh] at a
  subst a
  cases r
  exact⟨λu m=>by(cases m),rfl⟩
 |d::ds,xs,us,a,r,hd=>by
  rw[dh] at a
  obtain⟨x,xr,rfl,a1,a2⟩:=a
  cases r with
  |cons r1 r2=>
   rw[dO] at hd
   obtain⟨i1,i2⟩:=MU I hu ae ry a2 r2 (by lia)
   have ef:=Yq I (e:=e) a1 r1
   refine⟨λu m=>?_,?_⟩
   .rcases b9.mp m with z | z
    .subst z
     rw[ef]
     exact LS I d e x y _ v A 50 (by lia) hu a1 ae r1 ry
    .exact i1 u z
   .rw[vZ,vZ,ef,i2]
def MV(K:Frag)(neg:Bool):R2:=λx y H Q=>∃p xs ds e,y = .ref p/\ak K H p xs/\dh K H ds xs/\At K H e x/\dO ds<=50/\Q (.bl (if neg then !(ds.any λd=>dH d e) else ds.any λd=>dH d e)) H
theorem MW(hu:X.A.units+64<cLine):cK X (compareOp .In) (MV X.K false):=by
 intro pins s O H x y v u Q I rx ry h
 obtain⟨p,xs,ds,e,rfl,hq,ad,ae,hd,q⟩:=h
 cases ry
 obtain⟨its,r,pl,hz⟩:=I.list hq
 obtain⟨h1,h2⟩:=MU I (A:=X.A.in1) (by show X.A.units+1+50<cLine;lia) ae rx ad r hd
 refine SeqAt.in_listAt (fD X.K H e) pl.isList (λw hw=>h1 w (by simpa using hw)) ⟨.bl _,H,I,rfl,?_⟩
 rw[show its.toArray.any (fD X.K H e)=its.any (fD X.K H e) by simp,h2]
 exact q
end
def uq:plainId "set.update.loop"=true:=by decide +kernel
def Ba:entryFor table "set.update.loop"=some Builtin.«set.update.loop»:=entryFor_of_fast (by kernel_rfl)
section
variable{prog:Program}{w:World}{A:Around}{R:Result->Shared->Prop}{I:Addr}{fp wr:List Addr}{n:Nat}{P:Nat->Value->Prop}{St:Nat->Heap->Prop}{KK:Type}[DecidableEq KK]{knd:KeyKind prog w KK}
theorem Yr(W:Walks prog w A.in1 I fp wr n P St)(S:Addr)(xF:S∉fp)(ks:Nat->KK)(hP:∀i v,P i v->knd.is (ks i) v=true/\v.scannable=true)(hn:n+1<scanBound)
  (J:Nat->(KK->Bool)->Nat->Prop) (hJ:∀i T c,i<n->J i T c->J (i+1) (λk'=>T k'||decide (k'=ks i)) (if T (ks i)=true then c else c+1)) (hc:∀i T c,J i T c->c<=i) :
  ∀(k i:Nat) (s:Shared) (T:KK->Bool) (c:Nat),n - i=k->i<=n->St i s.heap->J i T c->s.heap.SetOf knd S T c->
  (∀h' tk T' c',(∀b o,b∉wr->b≠S->s.heap.get? b=some o->h'.get? b=some o)->J n T' c'->h'.SetOf knd S T' c'->R (.ok (.ret .none)) { s with heap:=h',toks:=tk })->
  codeAny (model prog w) A (.builtin "set.update.loop" ⟨[.ref S,.ref I],[]⟩) R s:=by
 have xG:S∉wr:=λh=>xF (W.sub _ h)
 intro k
 induction k with
 |zero=>
  intro i s T c hk hi cS hj hS hR
  have bb:i=n:=by lia
  subst bb
  refine m8 Ba ?_
  rw[oV uq _]
  show wpAny _ A.in1 (pyNext (.ref I) >>= _) _ _ s
  refine aj (W.done s _ _ cS λh' tk dZ=>?_)
  obtain⟨o,es,ep,t,ho,r⟩:=hS
  exact aH (hR h' tk T c (λb o hb _ e=>dZ b o hb e) hj ⟨o,es,ep,t,dZ S o xG ho,r⟩)
 |succ k ih=>
  intro i s T c hk hi cS hj hS hR
  have aM:i<n:=by lia
  refine m8 Ba ?_
  rw[oV uq _]
  show wpAny _ A.in1 (pyNext (.ref I) >>= _) _ _ s
  refine aj (W.item i s _ _ aM cS λv h' tk hv jz dZ=>?_)
  have jZ:h'.SetOf knd S T c:=by
   obtain⟨o,es,ep,t,ho,r⟩:=hS
   exact⟨o,es,ep,t,dZ S o xG ho,r⟩
  have hci:=hc i T c hj
  show wpAny _ A.in1 (holding [v] (setAdd S v) >>= _) _ _ _
  refine aj (gN ?_)
  unfold setAdd
  refine gN ?_
  refine aj ((knd.pyHash (hP i v hv).1) ?_)
  refine wpAny_setAddHashed_of (hP i v hv).1 (hP i v hv).2 jZ (by lia) λYs i5 Bb=>?_
  refine aH ⟨qI uq _,ih (i+1) _ _ _ (by lia) aM (W.frame _ _ _ jz λb hb o e=>?_) (hJ i T c aM hj) Bb λh3 rN T' c' eF Yt E8=>?_⟩
  .exact i5.extBut b o (λz=>xF (z ▸ hb)) e
  .exact hR h3 rN T' c' (λb o mB xC e=>eF b o mB xC (i5.extBut b o xC (dZ b o mB e))) Yt E8
end
section
variable{prog:Program}{w:World}{A:Around}{E:Value->Shared->Prop}{s:Shared}
noncomputable def iD(b:Bool):Obj:={ cls := .type "set",dict:=none,data := .set #[] 0 (.fresh 0 0 b) }
def Yu(x:Value):checkBuiltinCall "set.__new__" ⟨[.type "set",x],[]⟩=pure ():=by kernel_rfl
def Yv(x:Value):checkTypeCall "set" ⟨[x],[]⟩=pure ():=by kernel_rfl
def Yw{x:Value}{Z:Value->Shared->Prop}(hq:∀b:Bool,Z (.ref s.heap.objs.size) { s with heap:=s.heap.push (iD b) }) :
  codeAny (model prog w) A (.call (.builtin "set.__new__") ⟨[.type "set",x],[]⟩) (wants Z E) s:=by
 refine codeAny_of_tree ?_
 refine aj (m:=checkBuiltinCall "set.__new__" ⟨[.type "set",x],[]⟩) (oS (Yu x) (aH ⟨qI F.plain_set_new _,m8 F.entry_set_new ?_⟩))
 rw[oV F.plain_set_new _]
 unfold Builtin.«set.__new__» Builtin.Frozenset.newClass
 have hb:=sub_set_self
 cases s
 dsimp only
 wp_walk
 refine wpAny_askSetting (aH ?_)
 dsimp only
 simp only[newObj]
 exact aj (wpAny_alloc (aH (aH (hq _))))
def Yx{o x:Value}(hT:s.TypeIs o "set")(hZ:Z () s):wpAny M A (checkBuiltinCall "set.__init__" ⟨[o,x],[]⟩) Z E s:=by
 simp only[checkBuiltinCall,kind_set_init,split_set_init,sig_set_init]
 refine aj (JQ hT sub_set_self ?_)
 simp only[wx,fG,eO]
 unfold Bind.checkArgs
 dsimp only
 refine aj (m:=Bind.printed "set" true _ _) (printed_name (by decide) ?_)
 refine aj (m:=Bind.printed "*" false _ _) (printed_star (self:=o) rfl hT λsh=>?_)
 have e1:(if (Manifest.Receiver.self==Manifest.Receiver.none)=true then [o,x].length else [o,x].length - 1)=1:=by simp[show(Manifest.Receiver.self==Manifest.Receiver.none)=false from by decide]
 rw[e1]
 simp only[wb]
 have e2:Bind.check ⟨.positional,"set","*",.self,[⟨"iterable",.posOnly,false⟩]⟩ "set" sh 1 []=pure ():=by
  simp[Bind.check,Bind.checkCount,Bind.isPositional]
  intro z
  exact absurd z (by decide)
 rw[e2]
 exact aH hZ
def MX:isSubtype (.type "list") (.type "set")=pure false:=by rw[zJ];kernel_rfl
def MY:isSubtype (.type "list") (.type "frozenset")=pure false:=by rw[zJ];kernel_rfl
def Yy{S p:Addr}(hL:s.TypeIs (.ref p) "list")
  (h:wpAny (model prog w) A (pyIter (.ref p)) (λit s1=>wpAny (model prog w) A (runValue (.builtin "set.update.loop" ⟨[.ref S,it],[]⟩)) (λ_ s2=>Z () s2) E s1) E s) :
  wpAny (model prog w) A (Builtin.Frozenset.updateFrom "set.__init__" S (.ref p)) Z E s:=by
 unfold Builtin.Frozenset.updateFrom Builtin.Frozenset.isAnySet
 generalize pyIter (.ref p)=it at h ⊢
 have s1:=MX
 have s2:=MY
 wp_walk
 exact aE h λa s' hq=>aj (aE hq λ_ _ z=>aH z)
def MZ{p:Addr}(hL:s.TypeIs (.ref p) "list")
  (h:∀b:Bool,wpAny (model prog w) A.in1.in1 (pyIter (.ref p)) (λit s1=>wpAny (model prog w) A.in1.in1 (runValue (.builtin "set.update.loop" ⟨[.ref s.heap.objs.size,it],[]⟩)) (λ_ s2=>Q (.ref s.heap.objs.size) s2) E s1) E { s with heap:=s.heap.push (iD b) }) :
  wpAny (model prog w) A (call (.type "set") [.ref p]) Q E s:=by
 obtain⟨c,tl,agM⟩:=tF.mro
 have agN:=tF.made
 have Xy:=tF.sub
 refine zt (codeAny_of_tree ?_)
 refine aH ⟨Code.quiet_builtin _ (by decide +kernel),m8 F.entry_type_call ?_⟩
 rw[Around.under_plain (weight_type_call_type "set" [.ref p] []) rfl]
 have h1:=tF.notType
 have h2:=tF.canCreate
 have h3:=Yv (.ref p)
 repeat (any_goals (first | assumption | wp_step))
 refine vW (Yw (E:=E) (Z:=λo s1=>∃b:Bool,o = .ref s.heap.objs.size/\s1={ s with heap:=s.heap.push (iD b) }) λb=>⟨b,rfl,rfl⟩) λr s1 hr=>?_
 rcases r with e | fl
 .exact hr
 .cases fl with
  |ret o=>
   obtain⟨b,rfl,rfl⟩:=hr
   have hS:(s.heap.push (iD b)).get? s.heap.objs.size=some (iD b):=cq _ rfl
   have hT:Shared.TypeIs { s with heap:=s.heap.push (iD b) } (.ref s.heap.objs.size) "set":=⟨_,hS,rfl⟩
   have li:=tF.init.lookup
   have bi:=tF.init.bind (.ref s.heap.objs.size)
   repeat (any_goals (first | assumption | wp_step))
   refine vW (codeAny_call_builtin (R:=wants (λr s2=>r = .none/\Q (.ref s.heap.objs.size) s2) E) tF.init.plain F.entry_set_init (Yx hT ?_)) λr2 s2 xB=>?_
   .unfold Builtin.«set.__init__» noKeywords
    have Yz:Shared.TypeIs { s with heap:=s.heap.push (iD b) } (.ref p) "list":=let ⟨o,e,c⟩:=hL;⟨o,bx _ e,c⟩
    have s1:=MX
    have s2:=MY
    generalize hU:Builtin.Frozenset.updateFrom "set.__init__"=U
    wp_walk
    subst hU
    exact Yy Yz (aE (h b) λit s1 hz=>aE hz λ_ s2 hq=>aH ⟨rfl,hq⟩)
   .rcases r2 with e | fl
    .exact xB
    .cases fl with
     |ret r=>
      obtain⟨rfl,hq⟩:=xB
      repeat (any_goals (first | assumption | wp_step))
     |_=>exact xB.elim
  |_=>exact hr.elim
end
def E9(ss:List Str)(i:Nat)(T:Key->Bool)(c:Nat):Prop:=c<=i/\(c=i↔(ss.take i).Nodup)/\∀k,T k=true↔∃x∈ss.take i,k=Sum.inr x
noncomputable def pP(ss:List Str)(i:Nat):Key:=Sum.inr ((ss[i]?).getD ⟨#[]⟩)
theorem YA{i:Nat}(hi:i<ss.length)(h:E9 ss i T c):E9 ss (i+1) (λk'=>T k'||decide (k'=pP ss i)) (if T (pP ss i)=true then c else c+1):=by
 obtain⟨h1,h2,h3⟩:=h
 have e:ss[i]? = some ss[i]:=aS hi
 have ek:pP ss i=Sum.inr ss[i]:=by unfold pP;rw[e];rfl
 have et:ss.take (i+1)=ss.take i++[ss[i]]:=by rw[eD,e];rfl
 have hT:T (pP ss i)=true↔ss[i]∈ss.take i:=by
  rw[h3,ek]
  constructor
  .rintro⟨x,hx,z⟩
   rw[Sum.inr.inj z]
   exact hx
  .exact λm=>⟨_,m,rfl⟩
 have hN:(ss.take (i+1)).Nodup↔(ss.take i).Nodup/\ss[i]∉ss.take i:=by
  rw[et,oX]
  constructor
  .rintro⟨a,_,c⟩
   exact⟨a,λm=>c _ m _ (cb.mpr rfl) rfl⟩
  .rintro⟨a,b⟩
   exact⟨a,gq.mpr ⟨ip,jh⟩,λu hu v hv z=>b (by rw[<-cb.mp hv,<-z];exact hu)⟩
 refine⟨by split <;> lia,?_,λk=>?_⟩
 .rw[hN]
  by_cases m:ss[i]∈ss.take i
  .rw[aA (hT.mpr m)]
   exact⟨λz=>by lia,λz=>absurd m z.2⟩
  .rw[av (λz=>m (hT.mp z))]
   exact⟨λz=>⟨h2.mp (by lia),m⟩,λz=>by have:=h2.mpr z.1;lia⟩
 .rw[wc,h3,zP,ek,et]
  constructor
  .rintro(⟨x,hx,z⟩ | z)
   .exact⟨x,cX.mpr (.inl hx),z⟩
   .exact⟨_,cX.mpr (.inr (cb.mpr rfl)),z⟩
  .rintro⟨x,hx,z⟩
   rcases cX.mp hx with m | m
   .exact .inl ⟨x,m,z⟩
   .rw[cb.mp m] at z
    exact .inr z
def ur(prog:Program)(w:World)(p:Addr)(T:Key->Bool)(c:Nat):Heap->Prop:=λh=>h.SetOf (bV prog w) p T c
theorem YB(hc:X.calm=true):fL X (.type "set") (λxs H Q=>∃(a:Addr) (ss:List Str),xs=[.ref a]/\ak X.K H a (ss.map V.str)/\ss.length+1<scanBound/\
  ∀p T c,H p=none->(c=ss.length↔ss.Nodup)->Q (.ref p) (upd H p (.ext (ur X.prog X.w p T c)))):=by
 intro pins s O H xs us Q I r h
 obtain⟨l,ss,rfl,hq,hn,q⟩:=h
 obtain⟨u,rfl,ru⟩:=vals1 r
 cases ru
 obtain⟨its,rv,pl,hz⟩:=I.list hq
 have hl:=pl.isList
 have hh:X.A.handled=none:=I.ok.hd hc
 have aM:l<s.heap.objs.size:=by obtain⟨_,e,_⟩:=hl;exact bF e
 have hlen:its.length=ss.length:=by rw[<-rv.length,aq]
 refine MZ (let ⟨o,e,c,_⟩:=hl;⟨o,e,c⟩) λb=>?_
 refine sX (hl.push _) ?_
 refine wpAny_runValue ?_
 have hT:its.toArray.size=ss.length:=by rw[bg,hlen]
 refine Yr (knd:=bV X.prog X.w) (zH (A:=X.A.in1.in1.in1) hh _ l ?_ its.toArray) s.heap.objs.size ?_ (pP ss) (λi v hP=>?_) (by lia) (E9 ss) (λi T c hi h=>YA (by lia) h) (λ_ _ _ h=>h.1)
  its.toArray.size 0 _ (λ_=>false) 0 (by lia) (bA _) ⟨⟨_,cq _ rfl,rfl,rfl⟩,(hl.push _).push _⟩ ⟨aN _,⟨λ_=>jh,λ_=>rfl⟩,λk=>⟨λz=>(by cases z),λ⟨x,hx,_⟩=>by cases hx⟩⟩
  ⟨iD b,#[],0,.fresh 0 0 b,bx _ (cq _ rfl),⟨rfl,rfl,rfl⟩,rfl,(λe he=>by cases he),(λk=>⟨λz=>(by cases z),λ⟨e,he,_⟩=>by cases he⟩),(by decide),rfl,rfl⟩ λh' tk T c hk hj hS=>?_
 .show l≠(s.heap.push (iD b)).objs.size
  rw[lO]
  exact bO (lN aM)
 .intro z
  have z:s.heap.objs.size=(s.heap.push (iD b)).objs.size\/s.heap.objs.size=l:=by simpa using z
  rw[lO] at z
  rcases z with z | z
  .exact bO (oK _) z
  .exact bO aM z.symm
 .have hv:its[i]? = some v:=by simpa using hP
  have hi:i<ss.length:=by rw[<-hlen];exact(bP.mp hv).1
  obtain⟨u',e1,e2⟩:=rv.get (i:=i) (x:=V.str ss[i]) (by simp[hi])
  rw[hv] at e1
  cases e1
  obtain⟨t,rfl⟩:=e2
  have ek:pP ss i=Sum.inr ss[i]:=by unfold pP;rw[aS hi];rfl
  rw[ek]
  exact⟨Dy ss[i] t,rfl⟩
 .rw[hT] at hj
  obtain⟨_,h2,_⟩:=hj
  rw[Dr] at h2
  have xH:=hS
  obtain⟨o,es,ep,tt,ho,_⟩:=xH
  refine⟨.ref s.heap.objs.size,_,I.laid (t':=tk) (λb' o' e=>?_) ?_ (show cO X.prog X.w _ h' _ (.ext (ur X.prog X.w s.heap.objs.size T c)) from⟨hS,⟨o,ho⟩,λh1 h3 x k=>?_⟩),rfl,q _ T c (I.aD.fresh (aN _)) h2⟩
  .have hb:=bF e
   refine hk b' o' (λz=>?_) (λz=>?_) (bx _ (bx _ e))
   .have z:b'=(s.heap.push (iD b)).objs.size:=by simpa using z
    rw[lO] at z
    exact bO (lN hb) z
   .exact bO hb z
  .exact aN _
  .obtain⟨o,es,ep,tt,ho,r⟩:=x
   exact⟨o,es,ep,tt,k _ ho,r⟩
theorem YC:fL X (.builtin "len") (λxs H Q=>∃p T c,xs=[.ref p]/\H p=some (.ext (ur X.prog X.w p T c))/\Q (.int (c:Nat)) H):=by
 intro pins s O H xs us Q I r h
 obtain⟨p,T,c,rfl,hp,q⟩:=h
 obtain⟨u,rfl,rx⟩:=vals1 r
 cases rx
 obtain⟨hS,_⟩:=(show cO X.prog X.w H s.heap p (.ext (ur X.prog X.w p T c)) from I.aD p _ hp)
 obtain⟨o,es,ep,t,ho,hx,hd,_,_,hb,hf,hc⟩:=hS
 have i5:scanBound<=2 ^ 62:=by decide
 refine call_len_set ho hx hd hf (by lia) ⟨.int (c:Nat),H,(I.tok _).tok _,⟨s.toks+1,by rw[hc]⟩,q⟩
def M0:bootBuiltins "set"=some (.type "set"):=by decide +kernel
end L2
namespace L2
open PySem
variable{p:SetTable.Probe}
noncomputable def nT(t:SetTable):Nat->SetTable.Probe->SetTable.Probe
 |0,p=>p
 |n+1,p=>nT t n (t.advance p)
theorem M1(t:SetTable):∀(m n:Nat) (p:SetTable.Probe),nT t (m+n) p=nT t n (nT t m p)
 |0,n,p=>by rw[m7];rfl
 |m+1,n,p=>by rw[Nat.succ_add];exact M1 t m n (t.advance p)
noncomputable def Bc(t:SetTable)(p:SetTable.Probe)(i q:Nat):SetTable.Probe:={ p with j:=i,more:=SetTable.runEnd t.mask i - i,i:=i,perturb:=q }
theorem Fb(t:SetTable):∀(m:Nat) (p:SetTable.Probe),p.more=m->nT t (m+1) p=Bc t p (SetTable.leap t.mask p.i p.perturb).1 (SetTable.leap t.mask p.i p.perturb).2
 |0,p,h=>by
  show t.advance p=_
  unfold SetTable.advance Bc
  rw[av (by lia)]
 |m+1,p,h=>by
  show nT t (m+1) (t.advance p)=_
  have e:t.advance p={ p with j:=p.j+1,more:=p.more - 1 }:=by
   unfold SetTable.advance
   rw[aA (by lia)]
  rw[e,Fb t m _ (by show p.more - 1=m;lia)]
  rfl
theorem Fc(m i:Nat):SetTable.runEnd m i - i<=9:=by
 unfold SetTable.runEnd
 split <;> lia
noncomputable def eJ(m:Nat):Nat->Nat×Nat->Nat×Nat
 |0,x=>x
 |n+1,x=>eJ m n (SetTable.leap m x.1 x.2)
theorem Fd(m:Nat):∀(a b:Nat) (x:Nat×Nat),eJ m (a+b) x=eJ m b (eJ m a x)
 |0,b,x=>by rw[m7];rfl
 |a+1,b,x=>by rw[Nat.succ_add];exact Fd m a b _
theorem M3(t:SetTable):∀(n:Nat) (p:SetTable.Probe),p.more<=9->∃d,d<=10*(n+1)/\n+1<=d/\nT t d p=Bc t p (eJ t.mask (n+1) (p.i,p.perturb)).1 (eJ t.mask (n+1) (p.i,p.perturb)).2
 |0,p,h=>⟨p.more+1,by lia,by lia,Fb t p.more p rfl⟩
 |n+1,p,h=>by
  have e:=Fb t p.more p rfl
  obtain⟨d,hd,hd2,ed⟩:=M3 t n (Bc t p (SetTable.leap t.mask p.i p.perturb).1 (SetTable.leap t.mask p.i p.perturb).2) (Fc _ _)
  refine⟨p.more+1+d,by lia,by lia,?_⟩
  rw[M1,e,ed]
  rfl
theorem Fe(m:Nat):∀(n:Nat) (x:Nat×Nat),(eJ m n x).2=x.2 / 32 ^ n
 |0,x=>by simp[eJ]
 |n+1,x=>by
  rw[eJ,Fe m n]
  show x.2 / 32 / 32 ^ n=_
  rw[Nat.div_div_eq_div_mul,Nat.pow_succ,qD]
theorem Ff(m:Nat):∀(n:Nat) (x:Nat×Nat),(eJ m (n+1) x).1<=m
 |0,x=>by
  show(x.1*5+1+x.2 / 32) % (m+1)<=m
  have:=Nat.mod_lt (x.1*5+1+x.2 / 32) (show 0<m+1 by lia)
  lia
 |n+1,x=>Ff m n _
noncomputable def Fg(m i:Nat):Nat:=(i*5+1) % (m+1)
noncomputable def k6(m:Nat):Nat->Nat->Nat
 |0,i=>i
 |n+1,i=>k6 m n (Fg m i)
theorem Fh(m:Nat):∀(n i:Nat),eJ m n (i,0)=(k6 m n i,0)
 |0,i=>rfl
 |n+1,i=>by
  rw[eJ,k6]
  have:SetTable.leap m i 0=(Fg m i,0):=by
   unfold SetTable.leap Fg
   simp
  rw[this]
  exact Fh m n _
def Full(m:Nat):Prop := ∀i,i<=m->∀j,j<=m->∃n,n<=m/\k6 m n i=j
theorem YD:Full 7:=by
 have h:∀i:Fin 8,∀j:Fin 8,∃n:Fin 8,k6 7 n.1 i.1=j.1:=by decide
 intro i hi j hj
 obtain⟨n,e⟩:=h ⟨i,by lia⟩ ⟨j,by lia⟩
 exact⟨n.1,by lia,e⟩
structure nU(t:SetTable)(p:SetTable.Probe):Prop where
 more:p.more<=9
 Fi:p.perturb<2 ^ 64
 k7:p.dummy=none
theorem reach{t:SetTable}(F:Full t.mask)(σ:nU t p){j:Nat}(hj:j<=t.mask):∃d,d<=10*(t.mask+14)/\(nT t d p).j=j:=by
 obtain⟨n,hn,e⟩:=F (eJ t.mask (12+1) (p.i,p.perturb)).1 (Ff _ _ _) j hj
 obtain⟨d,hd,_,ed⟩:=M3 t (12+n) p σ.more
 refine⟨d,by lia,?_⟩
 rw[ed]
 show(eJ t.mask (12+n+1) (p.i,p.perturb)).1=j
 have hz:(eJ t.mask (12+1) (p.i,p.perturb)).2=0:=by
  rw[Fe]
  show p.perturb / 32 ^ 13=0
  have:=σ.Fi
  lia
 have Bd:eJ t.mask (12+1) (p.i,p.perturb)=((eJ t.mask (12+1) (p.i,p.perturb)).1,0):=by rw[<-hz]
 rw[show 12+n+1=(12+1)+n from by lia,Fd,Bd,Fh,e]
theorem M4(t:SetTable)(h:Int):nU t (t.probeStart h):=by
 refine⟨Fc _ _,?_,rfl⟩
 show SetTable.bits h<2 ^ 64
 unfold SetTable.bits
 have h1:=lP h (show(2 ^ 64:Int)≠0 by decide)
 have h2:=lQ h (show(0:Int)<2 ^ 64 by decide)
 lia
theorem M5{t:SetTable}(σ:nU t p):nU t (t.advance p):=by
 unfold SetTable.advance
 split
 .exact⟨by show p.more - 1<=9;have:=σ.more;lia,σ.Fi,σ.k7⟩
 .refine⟨Fc _ _,?_,σ.k7⟩
  show p.perturb / 32<2 ^ 64
  have:=σ.Fi
  lia
theorem uu{α:Type}[DecidableEq α]:∀{l m:List α},l.Nodup->(∀x∈l,x∈m)->l.length<=m.length
 |[],m,_,_=>bA _
 |a::l,m,nd,h=>by
  have ha:=h a bG
  have h1:=uu (gq.mp nd).2 (m:=m.erase a) λx mx=>(List.mem_erase_of_ne λz:x=a=>(gq.mp nd).1 (by rw[<-z];exact mx)).mpr (h x (bU _ mx))
  rw[List.length_erase_of_mem ha] at h1
  have:=List.length_pos_of_mem ha
  rw[cQ]
  lia
theorem YE{t:SetTable}(hd:t.dummies = #[])(hs:t.place.size<=t.mask):∃j,j<=t.mask/\t.slot j = .empty:=by
 refine zQ λhn=>?_
 have dX:∀j,j<=t.mask->j∈t.place.toList:=λj hj=>by
  refine zQ λhm=>hn ⟨j,hj,?_⟩
  unfold SetTable.slot
  rw[av (λz=>hm ?_)]
  .rw[av]
   rw[hd]
   unfold SetTable.has
   simp
  .have z:t.place[SetTable.below t.place j]? = some j:=by simpa using z
   exact SG.mpr (Array.mem_of_getElem? z)
 have h1:(List.range (t.mask+1)).length<=t.place.toList.length:=uu Dt λj mj=>dX j (by have:=dP.mp mj;lia)
 rw[gR,fB] at h1
 lia
def YF{t:SetTable}(hd:t.dummies = #[])(j:Nat):t.slot j = .empty\/∃i,t.slot j = .live i/\i<t.place.size:=by
 unfold SetTable.slot
 by_cases h:(t.place[SetTable.below t.place j]? == some j)=true
 .rw[aA h]
  have z:t.place[SetTable.below t.place j]? = some j:=by simpa using h
  refine .inr ⟨_,rfl,(Array.getElem?_eq_some_iff.mp z).1⟩
 .rw[av h,av]
  .exact .inl rfl
  .rw[hd]
   unfold SetTable.has
   simp
def rO(t:SetTable)(d:Nat)(p:SetTable.Probe):Prop:=t.slot (nT t d p).j = .empty
def YG{t:SetTable}(F:Full t.mask)(hd:t.dummies = #[])(hs:t.place.size<=t.mask)(σ:nU t p):∃d,d<=10*(t.mask+14)/\rO t d p:=by
 obtain⟨j,hj,e⟩:=YE hd hs
 obtain⟨d,h1,h2⟩:=reach F σ hj
 exact⟨d,h1,by unfold rO;rw[h2];exact e⟩
theorem M6{t:SetTable}(hd:t.dummies = #[])(ha:Nat->Int)(h:Int):∀(d fuel:Nat) (p:SetTable.Probe),d<fuel->rO t d p->nU t p->
  (∃j,SetTable.probe.go t ha h fuel p=some (.empty j none)/\t.slot j = .empty)\/∃j i q d',SetTable.probe.go t ha h fuel p=some (.candidate j i q)/\t.slot j = .live i/\i<t.place.size/\nU t q/\d'<d/\rO t d' q
 |d,0,p,hf,_,_=>by lia
 |d,fuel+1,p,hf,hn,σ=>by
  rw[SetTable.probe.go]
  rcases YF hd p.j with e | ⟨i,e,hi⟩
  .rw[e]
   exact .inl ⟨p.j,by show some (SetTable.Met.empty p.j p.dummy)=_;rw[σ.k7],e⟩
  .have j3:d≠0:=λz=>by
    rw[z] at hn
    have hn:t.slot p.j = .empty:=hn
    rw[e] at hn
    cases hn
   obtain⟨d',rfl⟩:∃d',d=d'+1:=⟨d - 1,by lia⟩
   have tI:rO t d' (t.advance p):=hn
   rw[e]
   show(∃j,(if ha i==h then some (SetTable.Met.candidate p.j i (t.advance p)) else SetTable.probe.go t ha h fuel (t.advance p))=_/\_)\/∃j i_1 q agO,(if ha i==h then some (SetTable.Met.candidate p.j i (t.advance p)) else SetTable.probe.go t ha h fuel (t.advance p))=_/\_
   by_cases hh:(ha i==h)=true
   .rw[aA hh]
    exact .inr ⟨p.j,i,t.advance p,d',rfl,e,hi,M5 σ,by lia,tI⟩
   .rw[av hh]
    rcases M6 hd ha h d' fuel (t.advance p) (by lia) tI (M5 σ) with z | ⟨j,i',q,YH,z1,z2,z3,z4,z5,z6⟩
    .exact .inl z
    .exact .inr ⟨j,i',q,YH,z1,z2,z3,z4,by lia,z6⟩
def YI(t:SetTable)(j:Nat):(t.put j).1.place.size=t.place.size+1:=by
 show(SetTable.insertAt t.place (SetTable.below t.place j) j).size=_
 rw[<-fB,(SV t.place _ j).length_eq,fB,JW]
def YJ{t:SetTable}(hd:t.dummies = #[])(j:Nat):(t.put j).1.dummies = #[]:=by
 show(if SetTable.has t.dummies j then SetTable.eraseAt t.dummies (SetTable.below t.dummies j) else t.dummies) = #[]
 rw[hd]
 split
 .rfl
 .rfl
end L2
namespace L2
open PySem PySem.Spec PyProof.Rows
variable{ks:List Key}{S a b x:Addr}{ep m n:Nat}{Q:Bool->Shared->Prop}{l:List Value}{o:Obj}{c4 es:Array (Int×Value)}{h h' h0:Heap}
section
variable{prog:Program}{w:World}{A:Around}{E:Value->Shared->Prop}{s:Shared}
structure k8(t:SetTable)(n:Nat):Prop where
 k7:t.dummies = #[]
 rP:t.place.size=n
 odd:t.gaveWay=false
 Fj:Full t.mask
 fq:n<=t.mask
 low:t.mask<=1000
theorem k8.fits{t:SetTable}{n:Nat}(T:k8 t n):t.fits n=true:=by
 unfold SetTable.fits SetTable.fill
 rw[T.k7,T.rP]
 simp[T.fq]
def YK(prog:Program)(w:World)(h:Heap)(es:Array (Int×Value))(ks:List Key):Prop := ∀e∈es.toList,∃b mE,e.2 = .ref b/\IsTupleKey (bV prog w) h mE b/\mE≠ks
def M7(hk:IsTupleKey (bV prog w) s.heap ks a)(h:Q false s):wpAny (model prog w) A (ofAClassStatement (n+1) (.ref a)) Q E s:=by
 have hT:=hk.typeIs
 obtain⟨o,items,m,ho,_,hd,hi⟩:=hk
 have hv:∀v∈items.toList,carriedByValue v=true:=hi.byValue
 unfold ofAClassStatement
 refine aj (wpAny_typeOf hT ?_)
 dsimp only
 refine aj ?_
 refine aH ?_
 simp only[wx,fG,eO]
 refine aj (kE ho hd ?_)
 dsimp only
 refine aj ?_
 rw[<-Array.forIn_toList]
 refine JJ _ (λrest r s'=>r.1=none/\s'=s/\∀v∈rest,carriedByValue v=true) _ (λv rest r s' hh=>?_) (λr s' hh=>?_) _ _ ⟨rfl,rfl,hv⟩
 .obtain⟨hr,rfl,dX⟩:=hh
  have hc:=dX v bG
  have e:ofAClassStatement n v=pure false:=by
   cases v with
   |ref b=>simp[carriedByValue] at hc
   |_=>unfold ofAClassStatement;rfl
  rw[e]
  refine aj (aH ?_)
  simp only[fG,eO]
  exact aH ⟨rfl,rfl,λu rQ=>dX u (bU _ rQ)⟩
 .obtain⟨r1,r2⟩:=r
  obtain⟨hr,rfl,_⟩:=hh
  simp only at hr
  subst hr
  exact aH h
def YL(hk:IsTupleKey (bV prog w) s.heap ks x)(hl:∀v∈l,∃b mE,v = .ref b/\IsTupleKey (bV prog w) s.heap mE b)(h:Q false s) :
  wpAny (model prog w) A (searchCouldBeSeen (.ref x) l) Q E s:=by
 unfold searchCouldBeSeen
 refine aj ?_
 refine JJ _ (λrest r s'=>r.1=none/\s'=s/\∀v∈rest,∃b mE,v = .ref b/\IsTupleKey (bV prog w) s.heap mE b) _ (λv rest r s' hh=>?_) (λr s' hh=>?_) _ _ ⟨rfl,rfl,hl⟩
 .obtain⟨hr,rfl,dX⟩:=hh
  obtain⟨b,mE,rfl,hb⟩:=dX v bG
  have hq:∀{Q:Bool->Shared->Prop}{c:Addr}{YM:List Key},IsTupleKey (bV prog w) s'.heap YM c->Q true s'->wpAny (model prog w) A (eqIsQuiet 8 (.ref c)) Q E s':=λhk hq=>(tupleKind (bV prog w)).quiet hk hq
  dsimp only
  by_cases hv:((x==b)||(carriedByValue (.ref x)&&carriedByValue (.ref b)))=true
  .rw[aA hv]
   exact aH ⟨rfl,rfl,λu rQ=>dX u (bU _ rQ)⟩
  .rw[av hv]
   refine aj (hq hk ?_)
   simp only[wx,fG,eO]
   refine aj (hq hb ?_)
   simp only[wx,fG,eO]
   refine aj (M7 hk ?_)
   simp only[fG,eO]
   refine aj (M7 hb ?_)
   simp only[fG,eO]
   exact aH ⟨rfl,rfl,λu rQ=>dX u (bU _ rQ)⟩
 .obtain⟨r1,r2⟩:=r
  obtain⟨hr,rfl,_⟩:=hh
  simp only at hr
  subst hr
  exact aH h
theorem YN{t:SetTable}{eS:Int}(hu:A.units<cLine)(hk:IsTupleKey (bV prog w) s.heap ks x)(ho:s.heap.get? a=some o)(hd:o.data = .set es ep t)(T:k8 t es.size)(j4:YK prog w s.heap es ks){Q:SetFound->Shared->Prop}(h:∀j,Q (.free j false) s) :
  ∀(d fuel:Nat) (st:Option SetTable.Probe),d<fuel->d<=10*(t.mask+14)->nU t (st.getD (t.probeStart eS))->rO t d (st.getD (t.probeStart eS))->wpAny (model prog w) A (setSearchFrom a (.ref x) eS true fuel st) Q E s:=by
 intro d
 induction d using Nat.strongRecOn with
 |ind d ih=>
  intro fuel st hf agP σ N
  obtain⟨fuel,rfl⟩:∃f,fuel=f+1:=⟨fuel - 1,by lia⟩
  unfold setSearchFrom
  refine aj (zR ho hd T.fits ?_)
  dsimp only
  rw[T.odd]
  simp only[fG,eO]
  generalize hp:SetTable.probe t _ eS _=met
  have hm:(∃j,met=some (.empty j none)/\t.slot j = .empty)\/∃j i q d',met=some (.candidate j i q)/\t.slot j = .live i/\i<t.place.size/\nU t q/\d'<d/\rO t d' q:=by
   rw[<-hp]
   exact M6 T.k7 _ eS d (10*SetTable.turns t.mask) _ (by unfold SetTable.turns;lia) N σ
  rcases hm with ⟨j,rfl,_⟩ | ⟨j,i,q,d',rfl,g9,hi,Oq,Be,Nq⟩
  .dsimp only
   exact aH (h j)
  .dsimp only
   rw[T.rP] at hi
   have pL:es[i]? = some es[i]:=Array.getElem?_eq_getElem hi
   obtain⟨b,mE,eb,hb,cJ⟩:=j4 es[i] (SG.mpr (Array.getElem_mem hi))
   have cS:∀v∈((es.filter (λx=>x.1==eS)).toList.map (λx=>x.2)),∃b mE,v = .ref b/\IsTupleKey (bV prog w) s.heap mE b:=λv mv=>by
    obtain⟨e,me,rfl⟩:=bM.mp mv
    have me:e∈es.toList:=by
     rw[Array.toList_filter] at me
     exact(b8.mp me).1
    obtain⟨b,k2,e1,e2,_⟩:=j4 e me
    exact⟨b,k2,e1,e2⟩
   have nV:t.sameMemory t.moves t.mask=some true:=by
    unfold SetTable.sameMemory
    rw[aA (by simp)]
   cases hl:t.led
   all_goals simp only[wx,JX,fG,eO,gr]
   .refine aj (YL hk cS ?_)
    simp only[fG,eO]
    rw[pL]
    dsimp only
    rw[eb]
    refine aj (gN (wpAny_eqBool_tuple hu hb hk ?_))
    refine aj (zR ho hd T.fits ?_)
    rw[aK cJ]
    dsimp only
    simp only[m5,fG,eO]
    rw[nV]
    dsimp only
    rw[aA rfl,g9]
    dsimp only
    rw[pL]
    dsimp only
    rw[eb]
    refine aj (wpAny_isSame_ref_self ?_)
    refine aj (aH ?_)
    simp only[gr]
    exact ih d' Be fuel (some q) (by lia) (by lia) Oq Nq
   .rw[pL]
    dsimp only
    rw[eb]
    refine aj (gN (wpAny_eqBool_tuple hu hb hk ?_))
    refine aj (zR ho hd T.fits ?_)
    rw[aK cJ]
    dsimp only
    simp only[m5,fG,eO]
    rw[nV]
    dsimp only
    rw[aA rfl,g9]
    dsimp only
    rw[pL]
    dsimp only
    rw[eb]
    refine aj (wpAny_isSame_ref_self ?_)
    refine aj (aH ?_)
    simp only[gr]
    exact ih d' Be fuel (some q) (by lia) (by lia) Oq Nq
def YO(hk:IsTupleKey (bV prog w) s.heap ks a)(h:∀b,Q b s):wpAny (model prog w) A (hashByValue (n+1) (.ref a)) Q E s:=by
 have hT:=hk.typeIs
 obtain⟨o,items,m,ho,_,hd,hi⟩:=hk
 have hv:∀v∈items.toList,∃k,(bV prog w).is k v=true:=by
  clear h ho hd hT
  generalize items.toList=l at hi
  induction hi with
  |nil=>intro v m;cases m
  |cons h1 _ ih=>
   intro v m
   rcases b9.mp m with z | z
   .rw[z];exact⟨_,h1⟩
   .exact ih v z
 unfold hashByValue
 refine aj (Dm hT F.slot_tuple_hash.lookup ?_)
 dsimp only
 refine aj (kE ho hd ?_)
 refine aj ?_
 show wpAny _ _ (forIn items _ _) _ _ s
 rw[<-Array.forIn_toList]
 refine JJ _ (λrest r s'=>r.1=none/\s'=s/\∀v∈rest,∃k,(bV prog w).is k v=true) _ (λv rest r s' hh=>?_) (λr s' hh=>?_) _ _ ⟨rfl,rfl,hv⟩
 .obtain⟨hr,rfl,dX⟩:=hh
  obtain⟨k,hk⟩:=dX v bG
  rcases jJ hk with ⟨i,t,rfl,rfl⟩ | ⟨x,t,rfl,rfl⟩
  .have e:hashByValue n (.int i t)=pure true:=by cases n <;> rfl
   rw[e]
   refine aj (aH ?_)
   simp only[wx,fG,eO]
   exact aH ⟨rfl,rfl,λu rQ=>dX u (bU _ rQ)⟩
  .have e:hashByValue n (.str x t)=pure false:=by cases n <;> rfl
   rw[e]
   refine aj (aH ?_)
   simp only[JX,gr]
   exact aH (aH (h _))
 .obtain⟨r1,r2⟩:=r
  obtain⟨hr,rfl,_⟩:=hh
  simp only at hr
  subst hr
  exact aH (h _)
def mF(prog:Program)(w:World)(h0 h:Heap)(S:Addr)(m:Nat)(done:List (List Key)):Prop := ∃o es ep t,h.get? S=some o/\o.ExactSet/\o.data = .set es ep t/\k8 t es.size/\t.mask=m/\es.size=done.length/\∀e∈es.toList,∃b ks,e.2 = .ref b/\IsTupleKey (bV prog w) h0 ks b/\ks∈done
def mF.keep{done:List (List Key)}(k:∀o,h.get? S=some o->h'.get? S=some o)(x:mF prog w h0 h S m done):mF prog w h0 h' S m done:=
 let ⟨o,es,ep,t,ho,r⟩:=x;⟨o,es,ep,t,k _ ho,r⟩
def Fp(k:∀b o,h.get? b=some o->h'.get? b=some o)(x:IsTupleKey (bV prog w) h ks b):IsTupleKey (bV prog w) h' ks b:=
 let ⟨o,items,n,ho,r⟩:=x;⟨o,items,n,k _ _ ho,r⟩
def M8{t:SetTable}(T:k8 t n)(b:Bool):k8 (if b=true then t else { t with plain:=false }) n:=by
 cases b
 .exact⟨T.k7,T.rP,T.odd,T.Fj,T.fq,T.low⟩
 .exact T
def Na(t:SetTable)(b:Bool):(if b=true then t else { t with plain:=false }).mask=t.mask:=by cases b <;> rfl
def YQ{t:SetTable}(T:k8 t n)(hn:n+1<=t.mask)(j:Nat):k8 (t.put j).1 (n+1):=
 ⟨YJ T.k7 j,by rw[YI,T.rP],T.odd,T.Fj,hn,T.low⟩
theorem YR{g:Nat}{t t2:SetTable}{done:List (List Key)}(ho:s.heap.get? S=some o)(hex:o.ExactSet)(hd:o.data = .set es ep t)(T2:k8 t2 c4.size)(hm:t2.mask=m)(Fq:5*c4.size<3*m)
  (hl:c4.size=done.length) (j4:∀e∈c4.toList,∃b ks,e.2 = .ref b/\IsTupleKey (bV prog w) h0 ks b/\ks∈done) (h:∀h',Heap.SameBut S s.heap h'->mF prog w h0 h' S m done->Q true { s with heap:=h' }) :
  wpAny (model prog w) A (storeSet S c4 t2 >>= λ_=>if (!false&&t2.tooFull)=true then (setRelay S g >>= λ_=>pure true) else pure true) Q E s:=by
 have Bf:=T2.low
 have g9:c4.size<=sizeLine:=by rw[zr];lia
 refine aj (wpAny_storeSet_of ho hd ?_ g9)
 have Fs:t2.tooFull=false:=by
  unfold SetTable.tooFull SetTable.fill
  rw[T2.k7,T2.rP,hm]
  simp
  lia
 rw[Fs]
 simp only[m5,fG,eO]
 have i5:=qG s.heap S (Obj.putSet c4 t2)
 have hg:(s.heap.update S (Obj.putSet c4 t2)).get? S=some { o with data := .set c4 (ep+1) t2 }:=by
  have:=oN (Obj.putSet c4 t2) ho (by rw[putSet_of c4 t2 hd];rfl)
  rw[putSet_of c4 t2 hd] at this
  exact this
 refine aH (h _ i5 ⟨_,c4,ep+1,t2,hg,hex,rfl,T2,hm,hl,j4⟩)
end
def uv(p:Addr)(c:Nat):Heap->Prop:=λh=>∃o es ep t,h.get? p=some o/\o.ExactSet/\o.data = .set es ep t/\t.fits es.size=true/\es.size=c/\c<=1000
theorem YS{X:Cx}:fL X (.builtin "len") (λxs H Q=>∃p c,xs=[.ref p]/\H p=some (.ext (uv p c))/\Q (.int (c:Nat)) H):=by
 intro pins s O H xs us Q I r h
 obtain⟨p,c,rfl,hp,q⟩:=h
 obtain⟨u,rfl,rx⟩:=vals1 r
 cases rx
 obtain⟨hS,_⟩:=(show cO X.prog X.w H s.heap p (.ext (uv p c)) from I.aD p _ hp)
 obtain⟨o,es,ep,t,ho,hx,hd,hf,hc,hb⟩:=hS
 refine call_len_set ho hx hd hf (by lia) ⟨.int (c:Nat),H,(I.tok _).tok _,⟨s.toks+1,by rw[hc]⟩,q⟩
end L2
namespace L2
open PySem
variable{m:Nat}{o:Array (Option Nat)}
theorem YT:Full 31:=by
 have h:∀i:Fin 32,∀j:Fin 32,∃n:Fin 32,k6 31 n.1 i.1=j.1:=by decide +kernel
 intro i hi j hj
 obtain⟨n,e⟩:=h ⟨i,by lia⟩ ⟨j,by lia⟩
 exact⟨n.1,by lia,e⟩
theorem Bg(m:Nat):∀(a b i:Nat),k6 m (a+b) i=k6 m b (k6 m a i)
 |0,b,i=>by rw[m7];rfl
 |a+1,b,i=>by rw[Nat.succ_add];exact Bg m a b _
noncomputable def Bh:List Nat:=[0,1,70,111,28,109,2,123,120,25,126,71,20,5,58,83,112,49,54,31,12,29,114,43,104,73,110,119,4,53,42,3,96,97,38,79,124,77,98,91,88,121,94,39,116,101,26,51,80,17,22,127,108,125,82,11,72,41,78,87,100,21,10,99,64,65,6,47,92,45,66,59,56,89,62,7,84,69,122,19,48,113,118,95,76,93,50,107,40,9,46,55,68,117,106,67,32,33,102,15,60,13,34,27,24,57,30,103,52,37,90,115,16,81,86,63,44,61,18,75,8,105,14,23,36,85,74,35]
theorem YU:Full 127:=by
 have h:∀j:Fin 128,k6 127 (Bh.getD j.1 0) 0=j.1/\Bh.getD j.1 0<=127:=by decide +kernel
 have h0:k6 127 128 0=0:=by decide +kernel
 intro i hi j hj
 obtain⟨ei,li⟩:=h ⟨i,by lia⟩
 obtain⟨ej,lj⟩:=h ⟨j,by lia⟩
 dsimp only at ei li ej lj
 generalize Bh.getD i 0=a at ei li
 generalize Bh.getD j 0=b at ej lj
 rcases wu b a with z | z
 .refine⟨128+b - a,by lia,?_⟩
  rw[<-ei,<-Bg,show a+(128+b - a)=128+b from by lia,Bg,h0,ej]
 .refine⟨b - a,by lia,?_⟩
  rw[<-ei,<-Bg,show a+(b - a)=b from by lia,ej]
theorem YV(m i:Nat):i<=SetTable.runEnd m i:=by
 unfold SetTable.runEnd
 split <;> lia
theorem Nb{m:Nat}{o:Array (Option Nat)}{j0:Nat}(he:o.getD j0 (some 0)=none):∀(n fuel:Nat) (x:Nat×Nat),n<fuel->(eJ m n x).1=j0->∃j,SetTable.layClean.free m o fuel x.1 x.2=some j/\o.getD j (some 0)=none
 |n,0,x,h,_=>absurd h (gQ _)
 |n,fuel+1,x,h,e=>by
  rw[SetTable.layClean.free]
  cases hf:(List.range (SetTable.runEnd m x.1+1 - x.1)).find? λk=>(o.getD (x.1+k) (some 0)).isNone with
  |some k=>
   refine⟨x.1+k,rfl,?_⟩
   have:=List.find?_some hf
   simpa using this
  |none=>
   cases n with
   |zero=>
    have:=List.find?_eq_none.mp hf 0 (dP.mpr (by have:=YV m x.1;lia))
    have e:x.1=j0:=e
    rw[Du,e,he] at this
    exact absurd rfl this
   |succ n=>exact Nb he n fuel (SetTable.leap m x.1 x.2) (by lia) e
theorem YW(F:Full m){j0:Nat}(hj:j0<=m)(he:o.getD j0 (some 0)=none)(i p:Nat)(hp:p<2 ^ 64):∃j,SetTable.layClean.free m o (SetTable.turns m) i p=some j/\o.getD j (some 0)=none:=by
 obtain⟨n,hn,e⟩:=F (eJ m (12+1) (i,p)).1 (Ff _ _ _) j0 hj
 refine Nb he (13+n) _ (i,p) (by unfold SetTable.turns;lia) ?_
 have hz:(eJ m (12+1) (i,p)).2=0:=by
  rw[Fe]
  show p / 32 ^ 13=0
  lia
 have Bd:eJ m (12+1) (i,p)=((eJ m (12+1) (i,p)).1,0):=by rw[<-hz]
 rw[Fd,Bd,Fh,e]
theorem xI{α β:Type}{f g:α->Option β}:∀{l:List α},(∀a∈l,f a=g a)->l.filterMap f=l.filterMap g
 |[],_=>rfl
 |a::l,h=>by
  rw[Df,Df,h a bG,xI λx m=>h x (bU _ m)]
theorem Nc{α β:Type}{f:α->Option β}:∀{l:List α},(∀a∈l,f a≠none)->(l.filterMap f).length=l.length
 |[],_=>rfl
 |a::l,h=>by
  cases e:f a with
  |none=>exact absurd e (h a bG)
  |some b=>rw[JY e,cQ,cQ,Nc λx m=>h x (bU _ m)]
theorem Nd{α β:Type}{f g:α->Option β}{j:α}{b:β}:∀{l:List α},l.Nodup->j∈l->f j=none->g j=some b->(∀a∈l,a≠j->g a=f a)->(l.filterMap g).Perm (b::l.filterMap f)
 |[],_,m,_,_,_=>nomatch m
 |a::l,nd,m,hf,hg,h=>by
  obtain⟨n1,n2⟩:=gq.mp nd
  by_cases e:a=j
  .subst e
   have e2:l.filterMap g=l.filterMap f:=xI λx mx=>h x (bU _ mx) λz=>n1 (z ▸ mx)
   rw[JY hg,SW hf,e2]
  .have mj:j∈l:=by
    rcases b9.mp m with z | z
    .exact absurd z.symm e
    .exact z
   have ih:=Nd n2 mj hf hg λx mx=>h x (bU _ mx)
   have ea:=h a bG e
   cases ef:f a with
   |none=>
    rw[ef] at ea
    rw[SW ea,SW ef]
    exact ih
   |some c=>
    rw[ef] at ea
    rw[JY ea,JY ef]
    exact(ih.cons c).trans (List.Perm.swap _ _ _)
noncomputable def mG(o:Array (Option Nat))(m:Nat):List Nat:=(List.range (m+1)).filterMap λj=>o.getD j none
theorem YX(hs:o.size=m+1)(h:(mG o m).length<=m):∃j,j<=m/\o.getD j (some 0)=none:=by
 refine zQ λhn=>?_
 have:=Nc (f:=λj=>o.getD j none) (l:=List.range (m+1)) λj mj e=>hn ⟨j,by have:=dP.mp mj;lia,by
  have hj:j<o.size:=by rw[hs];exact dP.mp mj
  simp only[Array.getD,hj,dif_pos] at e ⊢
  exact e⟩
 unfold mG at h
 rw[this,gR] at h
 lia
noncomputable def Ft(m:Nat)(acc:Option (Array (Option Nat)×Nat))(h:Int):Option (Array (Option Nat)×Nat):=do
  let (owner,k)<-acc
  let j<-SetTable.layClean.free m owner (SetTable.turns m) (SetTable.bits h % (m+1)) (SetTable.bits h)
  pure (owner.setIfInBounds j (some k),k+1)
theorem YY(h:Int):SetTable.bits h<2 ^ 64:=by
 unfold SetTable.bits
 have h1:=lP h (show(2 ^ 64:Int)≠0 by decide)
 have h2:=lQ h (show(0:Int)<2 ^ 64 by decide)
 lia
theorem Ng{m:Nat}(F:Full m):∀(hs:List Int) (o:Array (Option Nat)) (k:Nat),o.size=m+1->(mG o m).Perm (List.range k)->k+hs.length<=m->∃o',hs.foldl (Ft m) (some (o,k))=some (o',k+hs.length)/\o'.size=m+1/\(mG o' m).Perm (List.range (k+hs.length))
 |[],o,k,h1,h2,_=>⟨o,rfl,h1,h2⟩
 |h::hs,o,k,h1,h2,h3=>by
  rw[cQ] at h3
  obtain⟨j0,YZ,e0⟩:=YX h1 (by rw[h2.length_eq,gR];lia)
  obtain⟨j,ej,e1⟩:=YW F YZ e0 (SetTable.bits h % (m+1)) (SetTable.bits h) (YY h)
  have hj:j<o.size:=by
   refine zQ λhn=>?_
   simp only[Array.getD,hn,dif_neg,not_false_eq_true] at e1
   cases e1
  have ef:Ft m (some (o,k)) h=some (o.setIfInBounds j (some k),k+1):=by
   show(SetTable.layClean.free m o (SetTable.turns m) (SetTable.bits h % (m+1)) (SetTable.bits h)).bind (λj=>some (o.setIfInBounds j (some k),k+1))=_
   rw[ej]
   rfl
  have hv:(mG (o.setIfInBounds j (some k)) m).Perm (List.range (k+1)):=by
   refine(Nd (f:=λj=>o.getD j none) (j:=j) (b:=k) Dt (dP.mpr (by lia)) ?_ ?_ ?_).trans ?_
   .simp only[Array.getD,hj,dif_pos] at e1 ⊢
    exact e1
   .simp[Array.getD,hj]
   .intro a ma cJ
    rw[Array.getD_eq_getD_getElem?,Array.getD_eq_getD_getElem?,Array.getElem?_setIfInBounds_ne (bu cJ)]
   .rw[show List.range (k+1)=List.range k++[k] from ku]
    exact(h2.cons k).trans (List.perm_append_singleton k _).symm
  obtain⟨o',a1,a2,a3⟩:=Ng F hs (o.setIfInBounds j (some k)) (k+1) (by rw[Array.size_setIfInBounds];exact h1) hv (by lia)
  refine⟨o',?_,a2,?_⟩
  .rw[List.foldl_cons,ef,a1,cQ]
   congr 2
   lia
  .rw[cQ,show k+(hs.length+1)=k+1+hs.length by lia]
   exact a3
theorem Y0(F:Full m)(fi mo:Nat)(led pl:Bool)(hs:Array Int)(hn:hs.size<=m):∃t ord,SetTable.laid m fi mo led pl hs=some (t,ord)/\t.mask=m/\t.dummies = #[]/\t.place.size=hs.size/\ord.toList.Perm (List.range hs.size):=by
 have h0:(mG (Array.replicate (m+1) none) m).Perm (List.range 0):=by
  have:mG (Array.replicate (m+1) none) m=[]:=by
   unfold mG
   refine List.filterMap_eq_nil_iff.mpr λj mj=>?_
   have:=dP.mp mj
   simp[Array.getD,this]
  rw[this]
  exact List.Perm.refl _
 obtain⟨o,e,h1,h2⟩:=Ng F hs.toList (Array.replicate (m+1) none) 0 (by simp) h0 (by rw[fB];lia)
 rw[fB,m7] at e h2
 have ec:SetTable.layClean m hs=some o:=by
  show(hs.foldl (Ft m) (some (Array.replicate (m+1) none,0))).map (·.1)=some o
  rw[<-Array.foldl_toList,e]
  rfl
 refine⟨_,_,(by unfold SetTable.laid;rw[ec];rfl),rfl,rfl,?_,?_⟩
 .rw[bg,aq]
  have:=h2.length_eq
  rw[gR] at this
  rw[<-this]
  unfold mG
  rw[<-aq (f:=λx:Nat×Nat=>x.2),List.map_filterMap]
  congr 1
  refine xI λj _=>?_
  cases o.getD j none <;> rfl
 .refine List.Perm.trans (List.Perm.of_eq ?_) h2
  unfold mG
  show List.map (λx:Nat×Nat=>x.2) _=_
  rw[List.map_filterMap]
  refine xI λj _=>?_
  cases o.getD j none <;> rfl
end L2
namespace L2
open PySem PySem.Spec PyProof.Rows
variable{α:Type}{ord:Array Nat}{S:Addr}{o:Obj}{c4 es:Array (Int×Value)}{ep m:Nat}{Q:Bool->Shared->Prop}{h0:Heap}{ks:List Key}
section
theorem Nh{α:Type}(l:List α):∀n,n<=l.length->(List.range n).filterMap (λi=>l[i]?)=l.take n
 |0,_=>by rw[oU];rfl
 |n+1,h=>by
  rw[ku,List.filterMap_append,Nh l n (by lia),eD]
  congr 1
def Y1{es:Array α}(p:ord.toList.Perm (List.range es.size)):(ord.filterMap (es[·]?)).toList.Perm es.toList:=by
 rw[Array.toList_filterMap]
 refine(p.filterMap _).trans (List.Perm.of_eq ?_)
 have:=Nh es.toList es.size (by rw[fB];exact aN _)
 rw[eE (by rw[fB];exact aN _)] at this
 rw[<-this]
 refine xI λi _=>?_
 rw[SO]
variable{prog:Program}{w:World}{A:Around}{E:Value->Shared->Prop}{s:Shared}
theorem Y2{wanted:Nat}{t:SetTable}{Q:Unit->Shared->Prop}(ho:s.heap.get? S=some o)(hd:o.data = .set es ep t)(hf:t.fits es.size=true)(F:Full m)(hm:SetTable.sizeAbove wanted - 1=m)(hz:SetTable.sizeAbove wanted<=sizeLine)(Fu:(m % 2==0)=false)(Bf:m<=1000)(hn:es.size<=m)
  (h:∀iu t',iu.toList.Perm es.toList->k8 t' iu.size->t'.mask=m->Q () { s with heap:=s.heap.update S (Obj.putSet iu t') }):wpAny (model prog w) A (setRelay S wanted) Q E s:=by
 obtain⟨t',ord,e,h1,h2,h3,h4⟩:=Y0 F t.finger (t.movedTo m) t.led t.plain (es.map (·.1)) (by rw[Array.size_map];exact hn)
 rw[Array.size_map] at h3 h4
 have er:t.relaid (es.map (·.1)) wanted=some (t',ord):=by
  unfold SetTable.relaid
  rw[hm]
  exact e
 have hp:=Y1 h4
 have hsz:(ord.filterMap (es[·]?)).size=es.size:=by rw[<-fB,hp.length_eq,fB]
 unfold setRelay
 refine aj (zR ho hd hf ?_)
 dsimp only
 rw[av (tq.mpr hz),er]
 refine aj ?_
 show wpAny (model prog w) A (ite (((ord.filterMap (es[·]?)).size != es.size)=true) _ _) _ E s
 rw[av (by simp[hsz])]
 refine aH ?_
 dsimp only
 refine wpAny_storeSet_of ho hd ?_ (by rw[hsz,zr];lia)
 exact h _ t' hp ⟨h2,h3.trans hsz.symm,by show(t'.mask % 2==0)=false;rw[h1];exact Fu,by rw[h1];exact F,by rw[hsz,h1];exact hn,by rw[h1];exact Bf⟩ h1
theorem Ni{m' g:Nat}{t t2:SetTable}{done:List (List Key)}(ho:s.heap.get? S=some o)(hex:o.ExactSet)(hd:o.data = .set es ep t)(T2:k8 t2 c4.size)(hm:t2.mask=m)
  (Bi:(5*c4.size<3*m/\m'=m)\/(3*m<=5*c4.size/\Full m'/\SetTable.sizeAbove g - 1=m'/\SetTable.sizeAbove g<=sizeLine/\(m' % 2==0)=false/\m'<=1000/\c4.size<=m'))
  (hl:c4.size=done.length) (j4:∀e∈c4.toList,∃b ks,e.2 = .ref b/\IsTupleKey (bV prog w) h0 ks b/\ks∈done) (h:∀h',Heap.SameBut S s.heap h'->mF prog w h0 h' S m' done->Q true { s with heap:=h' }) :
  wpAny (model prog w) A (storeSet S c4 t2 >>= λ_=>if (!false&&t2.tooFull)=true then (setRelay S g >>= λ_=>pure true) else pure true) Q E s:=by
 rcases Bi with ⟨Fq,rfl⟩ | ⟨Fq,F,hg,Y3,Fu,Y4,tI⟩
 .exact YR ho hex hd T2 hm Fq hl j4 h
 have Bf:=T2.low
 have g9:c4.size<=sizeLine:=by rw[zr];lia
 refine aj (wpAny_storeSet_of ho hd ?_ g9)
 have Fs:t2.tooFull=true:=by
  unfold SetTable.tooFull SetTable.fill
  rw[T2.k7,T2.rP,hm]
  simp
  lia
 rw[Fs]
 simp only[JX,zG,gr]
 have i5:=qG s.heap S (Obj.putSet c4 t2)
 have Bj:(s.heap.update S (Obj.putSet c4 t2)).get? S=some { o with data := .set c4 (ep+1) t2 }:=by
  have:=oN (Obj.putSet c4 t2) ho (by rw[putSet_of c4 t2 hd];rfl)
  rw[putSet_of c4 t2 hd] at this
  exact this
 refine aj (Y2 (o:={ o with data := .set c4 (ep+1) t2 }) Bj rfl T2.fits F hg Y3 Fu Y4 tI λiu t' hp T' EZ=>?_)
 have Y5:=qG (s.heap.update S (Obj.putSet c4 t2)) S (Obj.putSet iu t')
 have xJ:((s.heap.update S (Obj.putSet c4 t2)).update S (Obj.putSet iu t')).get? S=some { o with data := .set iu (ep+1+1) t' }:=by
  have:=oN (Obj.putSet iu t') Bj (by rw[putSet_of iu t' rfl];rfl)
  rw[putSet_of iu t' rfl] at this
  exact this
 exact aH (h _ (i5.trans Y5) ⟨_,iu,ep+1+1,t',xJ,hex,rfl,T',EZ,by rw[<-hl,<-fB,hp.length_eq,fB],λe me=>j4 e (hp.mem_iff.mp me)⟩)
theorem Y6{x:Addr}{done:List (List Key)}{eS:Int}(hu:A.units<cLine)(hold:∀b o,h0.get? b=some o->s.heap.get? b=some o)(A6:IsTupleKey (bV prog w) h0 ks x)(hS:mF prog w h0 s.heap S m done)(hn:ks∉done)(hM:7<=m/\m<=1000)(aM:done.length+1<=m)(m':Nat)(Bi:(5*(done.length+1)<3*m/\m'=m)\/(3*m<=5*(done.length+1)/\Full m'/\SetTable.sizeAbove (SetTable.grown (done.length+1)) - 1=m'/\SetTable.sizeAbove (SetTable.grown (done.length+1))<=sizeLine/\(m' % 2==0)=false/\m'<=1000/\done.length+1<=m'))
  (h:∀h',Heap.SameBut S s.heap h'->mF prog w h0 h' S m' (done++[ks])->Q true { s with heap:=h' }):wpAny (model prog w) A (setAddHashed S (.ref x) eS) Q E s:=by
 have hk:=Fp hold A6
 obtain⟨o,es,ep,t,ho,hex,hd,T,hm,hl,j4⟩:=hS
 unfold setAddHashed
 refine gN ?_
 unfold setAddHashedIn
 refine aj (zR ho hd T.fits ?_)
 dsimp only
 have hb:byScan (.ref x) es=false:=rfl
 rw[hb]
 simp only[fG,eO]
 obtain⟨d,j3,hN⟩:=YG T.Fj T.k7 (by rw[T.rP];exact T.fq) (M4 t eS)
 have Bf:=T.low
 refine aj ?_
 unfold setSearch
 refine YN hu hk ho hd T (λe me=>?_) (λj=>?_) d 100000 none (by lia) j3 (M4 t eS) hN
 .obtain⟨b,k2,e1,e2,e3⟩:=j4 e me
  exact⟨b,k2,e1,Fp hold e2,λz=>hn (z ▸ e3)⟩
 .dsimp only
  refine aj (zR ho hd T.fits ?_)
  dsimp only
  have hsz:(SetTable.insertAt es (t.put j).2 (eS,Value.ref x)).size=es.size+1:=by
   rw[<-fB,(SV es _ _).length_eq,fB,JW]
  have T1:=YQ T (by rw[hm,hl];lia) j
  rw[<-hsz] at T1
  have Nj:∀e∈(SetTable.insertAt es (t.put j).2 (eS,Value.ref x)).toList,∃b k2,e.2 = .ref b/\IsTupleKey (bV prog w) h0 k2 b/\k2∈done++[ks]:=λe me=>by
   have me:=(SV es (t.put j).2 (eS,Value.ref x)).mem_iff.mp me
   rw[Array.toList_push] at me
   rcases cX.mp me with z | z
   .obtain⟨b,k2,e1,e2,e3⟩:=j4 e z
    exact⟨b,k2,e1,e2,jg _ e3⟩
   .rw[cb.mp z]
    exact⟨x,ks,rfl,A6,gc _ bG⟩
  have mH:(SetTable.insertAt es (t.put j).2 (eS,Value.ref x)).size=(done++[ks]).length:=by rw[hsz,cE,hl];rfl
  by_cases hp:(t.put j).1.plain=true
  .rw[aA hp]
   refine aj (YO (n:=7) hk λb=>?_)
   exact Ni (g:=SetTable.grown (es.size+1)) (m:=m) (m':=m') (t2:=if b=true then (t.put j).1 else { (t.put j).1 with plain:=false }) ho hex hd (M8 T1 b) (by rw[Na];exact hm) (by rw[hsz,hl];exact Bi) mH Nj h
  .rw[av hp]
   refine aj (aH ?_)
   exact Ni (g:=SetTable.grown (es.size+1)) (m:=m) (m':=m') (t2:=if true=true then (t.put j).1 else { (t.put j).1 with plain:=false }) ho hex hd (M8 T1 true) (by rw[Na];exact hm) (by rw[hsz,hl];exact Bi) mH Nj h
end
noncomputable def eA(n:Nat):Nat:=if n<5 then 7 else if n<19 then 31 else 127
theorem Nk(n:Nat):(7<=eA n/\eA n<=1000)/\(n+1<=76->n+1<=eA n):=by
 unfold eA
 split
 .lia
 .split <;> lia
theorem Y7(i:Nat)(h:i+1<=76):(5*(i+1)<3*eA i/\eA (i+1)=eA i)\/(3*eA i<=5*(i+1)/\Full (eA (i+1))/\SetTable.sizeAbove (SetTable.grown (i+1)) - 1=eA (i+1)/\SetTable.sizeAbove (SetTable.grown (i+1))<=sizeLine/\(eA (i+1) % 2==0)=false/\eA (i+1)<=1000/\i+1<=eA (i+1)):=by
 by_cases h4:i=4
 .subst h4
  exact .inr ⟨by decide,YT,by decide,by decide,by decide,by decide,by decide⟩
 by_cases Y8:i=18
 .subst Y8
  exact .inr ⟨by decide,YU,by decide,by decide,by decide,by decide,by decide⟩
 have v1:∀n,n<5->eA n=7:=λn z=>by unfold eA;rw[aA z]
 have v2:∀n,5<=n->n<19->eA n=31:=λn y z=>by unfold eA;rw[av (tq.mpr y),aA z]
 have v3:∀n,19<=n->eA n=127:=λn y=>by unfold eA;rw[av (show ¬n<5 by lia),av (tq.mpr y)]
 refine .inl ?_
 by_cases a:i<4
 .rw[v1 i (by lia),v1 (i+1) (by lia)];lia
 .by_cases b:i<18
  .rw[v2 i (by lia) (by lia),v2 (i+1) (by lia) (by lia)];lia
  .rw[v3 i (by lia),v3 (i+1) (by lia)];lia
section
variable{prog:Program}{w:World}{A:Around}{R:Result->Shared->Prop}{I:Addr}{fp wr:List Addr}{n:Nat}{P:Nat->Value->Prop}{St:Nat->Heap->Prop}
theorem Y9(hu:A.units+1<cLine)(W:Walks prog w A.in1 I fp wr n P St)(S:Addr)(xF:S∉fp)(h0:Heap)(Za:∀b∈wr,h0.get? b=none)(Zb:h0.get? S=none)(eK:List (List Key))(dz:eK.Nodup)(cP:eK.length=n)(hm:n<=76)
  (hP:∀i v,P i v->∃b ks,v = .ref b/\eK[i]? = some ks/\IsTupleKey (bV prog w) h0 ks b) :
  ∀(k i:Nat) (s:Shared),n - i=k->i<=n->St i s.heap->(∀b o,h0.get? b=some o->s.heap.get? b=some o)->mF prog w h0 s.heap S (eA i) (eK.take i)->
  (∀h' tk,(∀b o,h0.get? b=some o->h'.get? b=some o)->mF prog w h0 h' S (eA n) eK->R (.ok (.ret .none)) { s with heap:=h',toks:=tk })->
  codeAny (model prog w) A (.builtin "set.update.loop" ⟨[.ref S,.ref I],[]⟩) R s:=by
 have xG:S∉wr:=λh=>xF (W.sub _ h)
 have Nl:∀b o,h0.get? b=some o->b∉wr:=λb o e z=>by rw[Za b z] at e;cases e
 intro k
 induction k with
 |zero=>
  intro i s hk hi cS hold hS hR
  have bb:i=n:=by lia
  subst bb
  refine m8 Ba ?_
  rw[oV uq _]
  show wpAny _ A.in1 (pyNext (.ref I) >>= _) _ _ s
  refine aj (W.done s _ _ cS λh' tk dZ=>?_)
  rw[eE (by lia)] at hS
  exact aH (hR h' tk (λb o e=>dZ b o (Nl b o e) (hold b o e)) (hS.keep λo e=>dZ S o xG e))
 |succ k ih=>
  intro i s hk hi cS hold hS hR
  have aM:i<n:=by lia
  refine m8 Ba ?_
  rw[oV uq _]
  show wpAny _ A.in1 (pyNext (.ref I) >>= _) _ _ s
  refine aj (W.item i s _ _ aM cS λv h' tk hv jz dZ=>?_)
  obtain⟨b,ks,rfl,Fv,hb⟩:=hP i v hv
  have Fw:∀b o,h0.get? b=some o->h'.get? b=some o:=λb o e=>dZ b o (Nl b o e) (hold b o e)
  have jZ:mF prog w h0 h' S (eA i) (eK.take i):=hS.keep λo e=>dZ S o xG e
  have ht:eK.take (i+1)=eK.take i++[ks]:=by rw[eD,Fv];rfl
  have Zc:ks∉eK.take i:=λz=>by
   have h1:(eK.take (i+1)).Nodup:=dz.sublist (vY _ _)
   rw[ht,oX] at h1
   exact h1.2.2 ks z ks (cb.mpr rfl) rfl
  have dr:A.in1.units<cLine:=hu
  show wpAny _ A.in1 (holding [.ref b] (setAdd S (.ref b)) >>= _) _ _ _
  refine aj (gN ?_)
  unfold setAdd
  refine gN ?_
  refine aj (wpAny_pyHash_tuple dr (Fp Fw hb) ?_)
  have mn:(eK.take i).length=i:=by rw[fC];lia
  refine Y6 dr Fw hb jZ Zc (Nk i).1 (by rw[mn];exact(Nk i).2 (by lia)) (eA (i+1)) (by rw[mn];exact Y7 i (by lia)) λYs i5 Bb=>?_
  rw[<-ht] at Bb
  refine aH ⟨qI uq _,ih (i+1) _ (by lia) aM (W.frame _ _ _ jz λc hc o e=>?_) (λc o e=>?_) Bb λh3 rN eF E8=>?_⟩
  .exact i5.extBut c o (λz=>xF (z ▸ hc)) e
  .exact i5.extBut c o (λz=>by rw[z,Zb] at e;cases e) (Fw c o e)
  .exact hR h3 rN eF E8
end
theorem Zd{X:Cx}(hc:X.calm=true)(hu:X.A.units+4<cLine):fL X (.type "set") (λxs H Q=>∃(a:Addr) (ts:List Addr) (eK:List (List Key)),xs=[.ref a]/\H a=some (.lst (ts.map V.ref))/\Paired (λt ks=>ax X.K H t (ks.map kV)) ts eK/\eK.Nodup/\eK.length<=76/\
  ∀p,H p=none->Q (.ref p) (upd H p (.ext (uv p eK.length)))):=by
 intro pins s O H xs us Q I r h
 obtain⟨l,ts,eK,rfl,hq,hp,dz,h4,q⟩:=h
 obtain⟨u,rfl,ru⟩:=vals1 r
 cases ru
 obtain⟨its,rv,pl,hz⟩:=I.list (ak.of hq)
 have hl:=pl.isList
 have hh:X.A.handled=none:=I.ok.hd hc
 have aM:l<s.heap.objs.size:=by obtain⟨_,e,_⟩:=hl;exact bF e
 have Nm:=hp.length
 have hlen:its.length=eK.length:=by rw[<-rv.length,aq];lia
 have qX:∀(i:Nat) (v:Value),its[i]? = some v->∃(b:Addr) (ks:List Key),v=Value.ref b/\eK[i]? = some ks/\IsTupleKey (bV X.prog X.w) s.heap ks b:=λi v hv=>by
  have hi:i<its.length:=(bP.mp hv).1
  obtain⟨t,ht⟩:∃t,ts[i]? = some t:=⟨_,aS (by lia)⟩
  obtain⟨ks,Fv,hk⟩:=Paired.getL hp ht
  obtain⟨u',e1,e2⟩:=rv.get (i:=i) (x:=V.ref t) (by rw[bq,ht];rfl)
  rw[hv] at e1
  cases e1
  cases e2
  obtain⟨nF,r2,⟨o2,h1,h2,n2,h3⟩,_⟩:=I.tuple hk
  exact⟨t,ks,rfl,Fv,⟨o2,nF.toArray,n2,h1,h2,h3,by simpa using D6 r2⟩⟩
 refine MZ (let ⟨o,e,c,_⟩:=hl;⟨o,e,c⟩) λb=>?_
 refine sX (hl.push _) ?_
 refine wpAny_runValue ?_
 have hT:its.toArray.size=eK.length:=by rw[bg,hlen]
 have Nn:∀c,s.heap.objs.size<=c->s.heap.get? c=none:=λc hc=>by
  cases e:s.heap.get? c with
  |none=>rfl
  |some o=>exact absurd (bF e) (tq.mpr hc)
 refine Y9 (A:=X.A.in1.in1) ?_ (zH (A:=X.A.in1.in1.in1) hh _ l ?_ its.toArray) s.heap.objs.size ?_ s.heap ?_ ?_ eK dz hT.symm (by lia) (λi v hP=>qX i v (by simpa using hP))
  its.toArray.size 0 _ (by lia) (bA _) ⟨⟨_,cq _ rfl,rfl,rfl⟩,(hl.push _).push _⟩ (λc o e=>bx _ (bx _ e)) ⟨iD b,#[],0,.fresh 0 0 b,bx _ (cq _ rfl),⟨rfl,rfl,rfl⟩,rfl,⟨rfl,rfl,(by show(7 % 2==0)=false;decide),YD,bA _,by show 7<=1000;decide⟩,rfl,rfl,λe he=>by cases he⟩ λh' tk hold hS=>?_
 .have:=hu
  show X.A.units+2+1<cLine
  lia
 .show l≠(s.heap.push (iD b)).objs.size
  rw[lO]
  exact bO (lN aM)
 .intro z
  have z:s.heap.objs.size=(s.heap.push (iD b)).objs.size\/s.heap.objs.size=l:=by simpa using z
  rw[lO] at z
  rcases z with z | z
  .exact bO (oK _) z
  .exact bO aM z.symm
 .intro c hc
  have hc:c=(s.heap.push (iD b)).objs.size:=by simpa using hc
  refine Nn c ?_
  rw[hc,lO]
  exact gO _
 .exact Nn _ (aN _)
 .obtain⟨o,es,ep,t,ho,hex,hd,T,_,Fx,_⟩:=hS
  refine⟨.ref s.heap.objs.size,_,I.laid (t':=tk) (λb' o' e=>hold b' o' e) (aN _) (show cO X.prog X.w _ h' _ (.ext (uv s.heap.objs.size eK.length)) from⟨⟨o,es,ep,t,ho,hex,hd,T.fits,Fx,by lia⟩,⟨o,ho⟩,λh1 h3 x k=>?_⟩),rfl,q _ (I.aD.fresh (aN _))⟩
  obtain⟨o,es,ep,tt,ho,r⟩:=x
  exact⟨o,es,ep,tt,k _ ho,r⟩
end L2
namespace Cw
open PySem
variable{x:Str}{ch h i j n w:Nat}{c d:C2}{α:Type}{l:List Str}{cs:List C2}
def mI{y:Str}(h:x.cps.toList=y.cps.toList):x=y:=by
 cases x;cases y
 exact eX Str.mk (Array.toList_inj.mp h)
def j5(x y:Str):(x++y).cps.toList=x.cps.toList++y.cps.toList:=by
 show(x.cps++y.cps).toList=_
 simp
def bD(x:Str):x.cps.toList.length=x.length:=by simp[Str.length]
noncomputable def cellAt(ns:List Int)(k:Nat):Int:=ns.getD k 0
def rR(c:Nat):Prop:=c=35\/c=46\/(97<=c/\c<=122)
structure aV(l:List Str)(w:Nat):Prop where
 one:1<=l.length
 nine:l.length<=9
 w1:1<=w
 w9:w<=9
 len:∀x∈l,x.length=w
 ok:∀x∈l,∀c∈x.cps.toList,rR c
noncomputable def iE:Str:="abcdefghijklmnopqrstuvwxyz"
def Bk:iE.cps.toList=(List.range 26).map (97 + ·):=by decide +kernel
noncomputable def cells(h w:Nat):List (Nat×Nat):=(List.range h).flatMap λi=>(List.range w).map λj=>(i,j)
def Fy(h w:Nat):cells (h+1) w=cells h w++(List.range w).map λj=>(h,j):=by
 unfold cells
 rw[ku,JZ]
 simp
def pQ(h w:Nat):(cells h w).length=h*w:=by
 induction h with
 |zero=>simp[cells]
 |succ h ih=>rw[Fy,cE,ih,aq,gR,lM]
theorem xK{w:Nat}:∀{h i j:Nat},i<h->j<w->(cells h w)[i*w+j]? = some (i,j)
 |0,_,_,hi,_=>absurd hi (gQ _)
 |h+1,i,j,hi,hj=>by
  rw[Fy]
  by_cases e:i<h
  .have:i*w+j<(cells h w).length:=by
    rw[pQ]
    have h1:(i+1)*w<=h*w:=SX w e
    rw[lM] at h1
    lia
   rw[JI this]
   exact xK e hj
  .have e:i=h:=by lia
   subst e
   rw[zu (by rw[pQ];lia),pQ,Nat.add_sub_cancel_left,bq,qH hj]
   rfl
def rS{c:Nat×Nat}(m:c∈cells h w):c.1<h/\c.2<w:=by
 unfold cells at m
 obtain⟨i,hi,m⟩:=zS.mp m
 obtain⟨j,hj,rfl⟩:=bM.mp m
 exact⟨dP.mp hi,dP.mp hj⟩
def Ze(hi:i<h)(hj:j<w):(i,j)∈cells h w:=bh (xK hi hj)
def Fz{c:Nat×Nat}(e:(cells h w)[n]? = some c):n=c.1*w+c.2/\c.1<h/\c.2<w:=by
 have hn:n<h*w:=by rw[<-pQ];exact(bP.mp e).1
 have hw:0<w:=by
  rcases Nat.eq_zero_or_pos w with z | z
  .rw[z] at hn;simp at hn
  .exact z
 have hi:n / w<h:=J0 (by rw[qD];exact hn)
 have hj:n % w<w:=Nat.mod_lt _ hw
 have q:=xK hi hj
 have e2:n / w*w+n % w=n:=by rw[qD];exact Nat.div_add_mod n w
 rw[e2,e] at q
 cases q
 exact⟨e2.symm,hi,hj⟩
def Np(hi:i<h)(hj:j<w):(cells h w).take (i*w+j+1)=(cells h w).take (i*w+j)++[(i,j)]:=by
 rw[eD,xK hi hj]
 rfl
noncomputable def sg(l:List Str)(c:Nat×Nat):Nat:=((l.getD c.1 ⟨#[]⟩).cps.toList).getD c.2 0
def bE{l:List α}{x d:α}(h:l[i]? = some x):l.getD i d=x:=by rw[bR,h];rfl
def aV.row(S:aV l w)(hi:i<l.length):∃x,l[i]? = some x/\x∈l/\x.length=w/\x.cps.toList.length=w/\∀j,j<w->x.cps.toList[j]? = some (sg l (i,j)):=by
 refine⟨l[i],aS hi,m9 hi,S.len _ (m9 hi),by rw[bD];exact S.len _ (m9 hi),λj hj=>?_⟩
 have hl:j<l[i].cps.toList.length:=by rw[bD,S.len _ (m9 hi)];exact hj
 unfold sg
 rw[bE (aS hi),aS hl]
 simp only[bE (aS hl)]
noncomputable def bW(l:List Str)(c:Nat×Nat):Bool := !decide (sg l c=35)
noncomputable def Bm(l:List Str)(c:Nat×Nat):Bool:=decide (sg l c=46)
noncomputable def b6(l:List Str)(w:Nat):List (Nat×Nat):=(cells l.length w).filter (bW l)
noncomputable def fJ(l:List Str)(w:Nat):List (Nat×Nat):=(cells l.length w).filter (Bm l)
def xM(S:aV l w):(cells l.length w).length<=81:=by
 rw[pQ]
 exact wk S.nine S.w9
noncomputable def bI(x:Str)(j ch:Nat):Str:=⟨(x.cps.toList.take j++ch::x.cps.toList.drop (j+1)).toArray⟩
noncomputable def setC(l:List Str)(c:Nat×Nat)(ch:Nat):List Str:=l.set c.1 (bI (l.getD c.1 ⟨#[]⟩) c.2 ch)
def dB(l:List Str)(c:Nat×Nat)(ch:Nat):(setC l c ch).length=l.length:=by unfold setC;rw[JK]
theorem xN(h:j<x.length):(bI x j ch).length=x.length:=by
 show(x.cps.toList.take j++ch::x.cps.toList.drop (j+1)).toArray.size=x.length
 have hl:x.cps.toList.length=x.length:=bD x
 rw[bg,cE,fC,cQ,zw,hl]
 lia
theorem FA{k:Nat}(h:j<x.length)(hk:k<x.length):(bI x j ch).cps.toList[k]? = if k=j then some ch else x.cps.toList[k]? :=by
 have hl:x.cps.toList.length=x.length:=bD x
 have e:(bI x j ch).cps.toList=x.cps.toList.take j++ch::x.cps.toList.drop (j+1):=by simp[bI]
 have ht:(x.cps.toList.take j).length=j:=by rw[fC];lia
 rw[e]
 rcases Nat.lt_trichotomy k j with h1 | h1 | h1
 .rw[av (by lia),JI (by lia),sZ h1]
 .subst h1
  rw[aA rfl,zu (by lia),ht,Nat.sub_self]
  rfl
 .rw[av (by lia),zu (by lia),ht]
  obtain⟨m,rfl⟩:∃m,k=j+1+m:=⟨k - (j+1),by lia⟩
  rw[show j+1+m - j=m+1 by lia,List.getElem?_cons_succ,List.getElem?_drop]
def FC{a b:Str}(ha:a.cps.toList=x.cps.toList.take j)(hb:b.cps.toList=x.cps.toList.drop (j+1)):a++⟨#[ch]⟩++b=bI x j ch:=by
 apply mI
 rw[j5,j5,ha,hb]
 simp[bI]
def Zf(h:∀c∈x.cps.toList,rR c)(hc:rR ch):∀c∈(bI x j ch).cps.toList,rR c:=λc m=>by
 have m:c∈x.cps.toList.take j++ch::x.cps.toList.drop (j+1):=by simpa[bI] using m
 rcases cX.mp m with z | z
 .exact h c (tG z)
 .rcases b9.mp z with z | z
  .rw[z];exact hc
  .exact h c (SY z)
theorem Bn(S:aV l w){c:Nat×Nat}(h1:c.1<l.length)(h2:c.2<w)(hc:rR ch):aV (setC l c ch) w:=by
 obtain⟨x,hx,mx,lx,pR,hj⟩:=S.row h1
 refine⟨by rw[dB];exact S.one,by rw[dB];exact S.nine,S.w1,S.w9,λy my=>?_,λy my=>?_⟩
 .unfold setC at my
  rcases J1 my with z | z
  .exact S.len y z
  .rw[z,bE hx,xN (by lia),lx]
 .unfold setC at my
  rcases J1 my with z | z
  .exact S.ok y z
  .rw[z,bE hx]
   exact Zf (S.ok x mx) hc
abbrev C2:=Nat×Nat
noncomputable def go(c d:C2)(n:Nat):C2:=(c.1+n*d.1,c.2+n*d.2)
noncomputable def line(c d:C2)(n:Nat):List C2:=(List.range n).map (go c d)
def i7(c d:C2):go c d 0=c:=by simp[go]
def go_succ(c d:C2)(n:Nat):go c d (n+1)=((go c d n).1+d.1,(go c d n).2+d.2):=by
 simp only[go,lM,Nat.add_assoc]
def Nr(c d:C2)(n:Nat):line c d (n+1)=line c d n++[go c d n]:=by
 unfold line
 rw[ku,dQ]
 rfl
def uw(c d:C2)(n:Nat):(line c d n).length=n:=by simp[line]
noncomputable def runN(op:C2->Bool)(d:C2):Nat->C2->Nat
 |0,_=>0
 |f+1,c=>if op c=true then runN op d f (c.1+d.1,c.2+d.2)+1 else 0
theorem FD{op:C2->Bool}{d:C2}:∀{f n:Nat}{c:C2},n<f->(∀k,k<n->op (go c d k)=true)->op (go c d n)=false->runN op d f c=n
 |0,_,_,h,_,_=>absurd h (gQ _)
 |f+1,0,c,_,_,h=>by
  rw[i7] at h
  unfold runN
  rw[h,av bZ]
 |f+1,n+1,c,hf,hk,h=>by
  have h0:=hk 0 (Nat.succ_pos _)
  rw[i7] at h0
  have e:∀k,go c d (k+1)=go (c.1+d.1,c.2+d.2) d k:=λk=>by
   simp only[go,lM,lR]
   lia
  unfold runN
  rw[h0,aA rfl,FD (f:=f) (n:=n) (by lia) (λk q=>by rw[<-e];exact hk (k+1) (by lia)) (by rw[<-e];exact h)]
noncomputable def gj(op:C2->Bool)(d c:C2):Bool:=decide (d.1<=c.1)&&(decide (d.2<=c.2)&&op (c.1 - d.1,c.2 - d.2))
noncomputable def bY(op:C2->Bool)(d c:C2):List C2:=if gj op d c=true then [] else if runN op d 10 c<2 then [] else line c d (runN op d 10 c)
noncomputable abbrev nW(op:C2->Bool):C2->List C2:=bY op (0,1)
noncomputable abbrev mJ(op:C2->Bool):C2->List C2:=bY op (1,0)
noncomputable def eB(op:C2->Bool)(c:C2):Bool := !(nW op c).isEmpty || !(mJ op c).isEmpty
noncomputable def d6(op:C2->Bool)(cs:List C2):Nat:=(cs.filter (eB op)).length
def Nt(op:C2->Bool)(cs:List C2)(c:C2):d6 op (cs++[c])=if eB op c=true then d6 op cs+1 else d6 op cs:=by
 unfold d6
 rw[kD,dF,oQ]
 split
 .rw[cE];rfl
 .rw[iQ]
noncomputable def di(op:C2->Bool)(f:C2->List C2):Nat->List C2->List (Nat×List C2)
 |_,[]=>[]
 |n,c::r=>if (f c).isEmpty=true then di op f (if eB op c=true then n+1 else n) r else (if eB op c=true then n+1 else n,f c)::di op f (if eB op c=true then n+1 else n) r
theorem Nu(op:C2->Bool)(f:C2->List C2)(c:C2):∀(n:Nat) (cs:List C2),di op f n (cs++[c]) =
  di op f n cs++if (f c).isEmpty=true then [] else [(if eB op c=true then n+d6 op cs+1 else n+d6 op cs,f c)]
 |n,[]=>by
  show di op f n [c]=[]++_
  unfold di
  simp only[di,Dl]
  rfl
 |n,x::r=>by
  have ih:=Nu op f c (if eB op x=true then n+1 else n) r
  have e:d6 op (x::r)=(if eB op x=true then 1 else 0)+d6 op r:=by
   unfold d6
   rw[dF]
   split
   .rw[cQ,Nat.add_comm]
   .rw[m7]
  have e2:(if eB op x=true then n+1 else n)+d6 op r=n+d6 op (x::r):=by
   rw[e]
   split <;> lia
  rw[e2] at ih
  show di op f n (x::(r++[c]))=_
  unfold di
  rw[ih]
  split
  .rfl
  .rfl
def FE{op:C2->Bool}(h:(nW op c).isEmpty=false):eB op c=true:=by unfold eB;rw[h];rfl
def FF{op:C2->Bool}(h:(mJ op c).isEmpty=false):eB op c=true:=by unfold eB;rw[h];simp
theorem Nv{op:C2->Bool}{f:C2->List C2}(hf:∀c,(f c).isEmpty=false->eB op c=true):∀{n:Nat}{cs:List C2}{q:Nat×List C2},q∈di op f n cs->
  n<q.1/\∃c,(cs.filter (eB op))[q.1 - n - 1]? = some c/\c∈cs/\q.2=f c/\(f c).isEmpty=false
 |n,[],q,h=>by simp[di] at h
 |n,x::r,q,h=>by
  unfold di at h
  have step:q∈di op f (if eB op x=true then n+1 else n) r->n<q.1/\∃c,((x::r).filter (eB op))[q.1 - n - 1]? = some c/\c∈x::r/\q.2=f c/\(f c).isEmpty=false:=λh=>by
   obtain⟨h1,c,h2,h3,h4⟩:=Nv hf h
   rw[dF]
   by_cases e:eB op x=true
   .rw[aA e] at h1 h2 ⊢
    refine⟨by lia,c,?_,bU _ h3,h4⟩
    have:q.1 - n - 1=(q.1 - (n+1) - 1)+1:=by lia
    rw[this,List.getElem?_cons_succ]
    exact h2
   .rw[av e] at h1 h2 ⊢
    exact⟨h1,c,h2,bU _ h3,h4⟩
  split at h
  .exact step h
  .rename_i he
   rcases b9.mp h with z | z
   .have he:(f x).isEmpty=false:=gS.mpr he
    have hx:=hf x he
    subst z
    rw[aA hx]
    refine⟨oK _,x,?_,bG,rfl,he⟩
    rw[dF,aA hx,show n+1 - n - 1=0 by lia]
    rfl
   .exact step z
noncomputable def bo(l:List Str)(w:Nat)(c:C2):Bool:=decide (c.1<l.length)&&(decide (c.2<w)&&bW l c)
def pS(h:bo l w c=true):c.1<l.length/\c.2<w/\bW l c=true:=by
 unfold bo at h
 simp only[eY,decide_eq_true_eq] at h
 exact⟨h.1,h.2.1,h.2.2⟩
def nX(h1:c.1<l.length)(h2:c.2<w):bo l w c=bW l c:=by
 unfold bo
 rw[aI h1,aI h2,zT,zT]
noncomputable def nY(l:List Str)(w:Nat):List (Nat×List C2):=di (bo l w) (nW (bo l w)) 0 (b6 l w)
noncomputable def nZ(l:List Str)(w:Nat):List (Nat×List C2):=di (bo l w) (mJ (bo l w)) 0 (b6 l w)
def Dir(d:C2):Prop:=d=(0,1)\/d=(1,0)
theorem go_inj{x:C2}(hd:Dir d)(h:go x d i=go x d j):i=j:=by
 rcases hd with rfl | rfl
 .simp only[go,lR,iT,oY] at h;lia
 .simp only[go,lR,iT,oY] at h;lia
theorem Nx(x d:C2)(i j:Nat):go (go x d i) d j=go x d (i+j):=by
 simp only[go,lR,Nat.add_mul]
 lia
theorem go_eq{x y:C2}(hd:Dir d)(ux:i<=j)(h:go x d i=go y d j):x=go y d (j - i):=by
 rcases hd with rfl | rfl
 .simp only[go,lR,iT,oY] at h
  refine Dv.mpr ?_
  simp only[go,iT,oY]
  lia
 .simp only[go,lR,iT,oY] at h
  refine Dv.mpr ?_
  simp only[go,iT,oY]
  lia
theorem Ny{op:C2->Bool}{x:C2}(hd:Dir d){k:Nat}(h:op (go x d k)=true):gj op d (go x d (k+1))=true:=by
 have e:((go x d (k+1)).1 - d.1,(go x d (k+1)).2 - d.2)=go x d k:=by
  rcases hd with rfl | rfl
  .simp only[go,lR,iT,oY];lia
  .simp only[go,lR,iT,oY];lia
 unfold gj
 rw[e,h,aI,aI]
 .rfl
 .rcases hd with rfl | rfl
  .simp only[go,iT];lia
  .simp only[go,oY];lia
 .rcases hd with rfl | rfl
  .simp only[go,oY];lia
  .simp only[go,iT];lia
theorem Zg{op:C2->Bool}(hd:Dir d)(h:gj op d c=true):∃b,c=go b d 1/\op b=true/\b.1+b.2<c.1+c.2:=by
 unfold gj at h
 simp only[eY,decide_eq_true_eq] at h
 refine⟨_,?_,h.2.2,?_⟩
 .refine Dv.mpr ?_
  simp only[go,Nat.one_mul]
  lia
 .rcases hd with rfl | rfl
  .have:=h.2.1;simp only at this ⊢;lia
  .have:=h.1;simp only at this ⊢;lia
theorem xO{op:C2->Bool}{d:C2}:∀{f:Nat}{c:C2}{k:Nat},k<runN op d f c->op (go c d k)=true
 |0,_,_,h=>by unfold runN at h;exact absurd h (gQ _)
 |f+1,c,k,h=>by
  unfold runN at h
  split at h
  .rename_i ho
   cases k with
   |zero=>rw[i7];exact ho
   |succ k=>
    have:=xO (op:=op) (d:=d) (f:=f) (c:=(c.1+d.1,c.2+d.2)) (k:=k) (by lia)
    have e:go c d (k+1)=go (c.1+d.1,c.2+d.2) d k:=by
     simp only[go,lM,lR]
     lia
    rw[e]
    exact this
  .exact absurd h (gQ _)
theorem FG{op:C2->Bool}{d:C2}:∀{f n:Nat}{c:C2},n<=f->(∀k,k<n->op (go c d k)=true)->n<=runN op d f c
 |_,0,_,_,_=>bA _
 |0,n+1,_,h,_=>absurd h (Nat.not_succ_le_zero _)
 |f+1,n+1,c,h,hk=>by
  have h0:=hk 0 (Nat.succ_pos _)
  rw[i7] at h0
  unfold runN
  rw[h0,aA rfl]
  refine kF (FG (Nat.le_of_succ_le_succ h) λk q=>?_)
  have e:go c d (k+1)=go (c.1+d.1,c.2+d.2) d k:=by
   simp only[go,lM,lR]
   lia
  rw[<-e]
  exact hk (k+1) (by lia)
theorem rT{op:C2->Bool}{x:C2}(h:c∈bY op d x):¬gj op d x=true/\2<=runN op d 10 x/\∃k,k<runN op d 10 x/\go x d k=c:=by
 unfold bY at h
 split at h
 .exact absurd h ip
 .rename_i h1
  split at h
  .exact absurd h ip
  .obtain⟨k,hk,e⟩:=bM.mp h
   exact⟨h1,by lia,k,dP.mp hk,e⟩
theorem Zh{op:C2->Bool}{x:C2}(h1:¬gj op d x=true)(h2:2<=runN op d 10 x){k:Nat}(hk:k<runN op d 10 x)(e:go x d k=c):c∈bY op d x:=by
 unfold bY
 rw[av h1,av (by lia)]
 exact bM.mpr ⟨k,dP.mpr hk,e⟩
theorem Nz{op:C2->Bool}{x y:C2}(hd:Dir d)(hx:c∈bY op d x)(hy:c∈bY op d y):x=y:=by
 obtain⟨px,_,i,hi,ei⟩:=rT hx
 obtain⟨py,_,j,hj,ej⟩:=rT hy
 have key:∀{x y:C2}{i j:Nat},¬gj op d x=true->j<runN op d 10 y->i<=j->go x d i=c->go y d j=c->x=y:=λ{x y i j} px hj ux ei ej=>by
  have e:=go_eq hd ux (ei.trans ej.symm)
  cases hz:j - i with
  |zero=>rw[hz,i7] at e;exact e
  |succ z=>
   rw[hz] at e
   exact absurd (by rw[e];exact Ny hd (xO (f:=10) (by lia))) px
 rcases Nat.le_total i j with h | h
 .exact key px hj h ei ej
 .exact(key py hi h ej ei).symm
theorem Zi{op:C2->Bool}(hd:Dir d):∀(k:Nat) (c:C2),c.1+c.2=k->op c=true->∃x i,c=go x d i/\¬gj op d x=true/\∀j,j<=i->op (go x d j)=true:=by
 intro k
 induction k using Nat.strongRecOn with
 |_ k ih=>
  intro c hc ho
  by_cases hp:gj op d c=true
  .obtain⟨b,e,hb,aM⟩:=Zg hd hp
   obtain⟨x,i,ex,px,ox⟩:=ih (b.1+b.2) (by lia) b rfl hb
   refine⟨x,i+1,?_,px,λj hj=>?_⟩
   .rw[e,ex,Nx]
   .rcases Nat.lt_or_eq_of_le hj with z | z
    .exact ox j (by lia)
    .rw[z,<-Nx,<-ex,<-e];exact ho
  .refine⟨c,0,by rw[i7],hp,λj hj=>?_⟩
   have:j=0:=by lia
   rw[this,i7];exact ho
noncomputable def hX(op:C2->Bool)(d c:C2):Bool:=op c&&(gj op d c||op (go c d 1))
theorem Zj{op:C2->Bool}(hd:Dir d)(hb:∀c,op c=true->c.1<9/\c.2<9)(h:hX op d c=true):∃x,op x=true/\c∈bY op d x:=by
 unfold hX at h
 simp only[eY,wc] at h
 obtain⟨ho,hs⟩:=h
 obtain⟨x,i,e,px,ox⟩:=Zi hd _ c rfl ho
 have hx:op x=true:=by have:=ox 0 (bA _);rw[i7] at this;exact this
 have hi:i<=8:=by
  have:=hb c ho
  rcases hd with rfl | rfl
  .rw[e] at this;simp only[go,iT] at this;lia
  .rw[e] at this;simp only[go,iT] at this;lia
 have h1:i+1<=runN op d 10 x:=FG (by lia) λk hk=>ox k (by lia)
 have h2:2<=runN op d 10 x:=by
  rcases Nat.eq_zero_or_pos i with z | z
  .subst z
   rw[i7] at e
   subst e
   have hn:op (go c d 1)=true:=by
    rcases hs with hs | hs
    .exact absurd hs px
    .exact hs
   refine FG (by lia) λk hk=>?_
   rcases(by lia:k=0\/k=1) with z | z
   .rw[z,i7];exact ho
   .rw[z];exact hn
  .lia
 exact⟨x,hx,Zh px h2 (by lia) e.symm⟩
theorem Zk{op:C2->Bool}{x:C2}(hd:Dir d)(h:c∈bY op d x):hX op d c=true:=by
 obtain⟨px,h2,k,hk,e⟩:=rT h
 have ho:op c=true:=by rw[<-e];exact xO hk
 unfold hX
 rw[ho,zT,wc]
 cases k with
 |zero=>
  rw[i7] at e
  rw[<-e]
  exact .inr (xO (f:=10) (by lia))
 |succ k=>rw[<-e];exact .inl (Ny hd (xO (f:=10) (by lia)))
def Zl(hd:Dir d)(n:Nat):(line c d n).Nodup:=by
 unfold line
 refine List.Pairwise.map _ (λi j ux=>?_) (Dt (n:=n))
 exact λe=>ux (go_inj hd e)
def FH{op:C2->Bool}{x:C2}(hd:Dir d):(bY op d x).Nodup:=by
 unfold bY
 split
 .exact jh
 .split
  .exact jh
  .exact Zl hd _
noncomputable def c5(c:C2)(rs:List (Nat×List C2)):Nat:=(rs.map λq=>q.2.count c).sum
theorem NA{op:C2->Bool}{f:C2->List C2}(c:C2):∀(n:Nat) (cs:List C2),c5 c (di op f n cs)=(cs.map λx=>(f x).count c).sum
 |n,[]=>rfl
 |n,x::r=>by
  have ih:=NA (op:=op) (f:=f) c (if eB op x=true then n+1 else n) r
  unfold di
  rw[bQ,fH,<-ih]
  split
  .rename_i he
   rw[List.isEmpty_iff.mp he,List.count_nil,m7]
  .unfold c5
   rw[bQ,fH]
theorem xP:∀{l:List Nat},(∀y∈l,y=0)->l.sum=0
 |[],_=>rfl
 |x::r,h=>by rw[fH,h x bG,xP λy hy=>h y (bU _ hy)]
theorem NB{α:Type}[DecidableEq α]{g:α->Nat}{a:α}:∀{cs:List α},cs.Nodup->a∈cs->g a=1->(∀x∈cs,x≠a->g x=0)->(cs.map g).sum=1
 |[],_,h,_,_=>absurd h ip
 |x::r,nd,h,ga,gz=>by
  rw[bQ,fH]
  obtain⟨n1,n2⟩:=gq.mp nd
  by_cases e:x=a
  .subst e
   have z:(r.map g).sum=0:=by
    have:∀y∈r.map g,y=0:=λy hy=>by
     obtain⟨u,hu,rfl⟩:=bM.mp hy
     exact gz u (bU _ hu) λe=>n1 (e ▸ hu)
    exact xP this
   rw[ga,z]
  .rcases b9.mp h with q | q
   .exact absurd q.symm e
   .rw[gz x bG e,m7]
    exact NB n2 q ga λy hy=>gz y (bU _ hy)
theorem NC(h w:Nat):(cells h w).Nodup:=by
 refine J2.mpr λi j hi hj ux e=>?_
 have h1:(cells h w)[i]? = some (cells h w)[i]:=aS hi
 have h2:(cells h w)[j]? = some (cells h w)[j]:=aS hj
 rw[<-e] at h2
 obtain⟨e1,_⟩:=Fz h1
 obtain⟨e2,_⟩:=Fz h2
 lia
def ND{op:C2->Bool}(hd:Dir d)(hb:∀c,op c=true->c.1<9/\c.2<9)(hn:cs.Nodup)(hc:∀x,op x=true->x∈cs):c5 c (di op (bY op d) n cs)=if hX op d c=true then 1 else 0:=by
 rw[NA]
 by_cases h:hX op d c=true
 .rw[aA h]
  obtain⟨x,hx,hm⟩:=Zj hd hb h
  refine NB hn (hc x hx) ?_ λy _ hy=>?_
  .exact Nat.le_antisymm (List.nodup_iff_count.mp (FH hd) c) (List.count_pos_iff.mpr hm)
  .refine List.count_eq_zero.mpr λz=>hy (Nz hd z hm)
 .rw[av h]
  refine xP λy hy=>?_
  obtain⟨u,hu,rfl⟩:=bM.mp hy
  exact List.count_eq_zero.mpr λz=>h (Zk hd z)
def FI(l:List Str)(w:Nat):(b6 l w).Nodup:=List.Pairwise.filter _ (NC _ _)
def Bo(h:bo l w c=true):c∈b6 l w:=by
 obtain⟨h1,h2,h3⟩:=pS h
 exact b8.mpr ⟨Ze h1 h2,h3⟩
theorem NF(S:aV l w):∀c,bo l w c=true->c.1<9/\c.2<9:=λc h=>by
 obtain⟨h1,h2,_⟩:=pS h
 have:=S.nine
 have:=S.w9
 lia
def NG(S:aV l w)(c:C2):c5 c (nY l w)=if hX (bo l w) (0,1) c=true then 1 else 0:=ND (.inl rfl) (NF S) (FI l w) λ_ h=>Bo h
def NH(S:aV l w)(c:C2):c5 c (nZ l w)=if hX (bo l w) (1,0) c=true then 1 else 0:=ND (.inr rfl) (NF S) (FI l w) λ_ h=>Bo h
end Cw
namespace Cw
open PySem L2
variable{ns:List Int}{H H' H1 H2:Hp}{c d:C2}{x:Str}{a ch h i j most n pl w:Nat}{Xs ks l loose m ps s ws:List Str}{K:Frag}{o p:Nat×Nat}{xs ys zs:List V}{α β:Type}{cs r:List C2}{q:Nat×List C2}{C CB CC CG CS CW Sr Ss b dx f fa fo ik je kn mX oH qB:Addr}{kvs:List (Key×V)}{dv:Value}{u v:V}{g g':C2->List (Nat×Nat)}{R rs:List (List C2)}{wf:Str->Int}{ls ts:List Addr}{A:List (Nat×Nat)}{Z Z':Addr->Prop}{B c7 new nw:List (List Str)}{mg:Str->Option Value}{afi afp:Option Addr}{afk afr:Array (Option Value)}{XP:(Str->Option Value)->Heap->Prop}{YP:World->Heap->Prop}{P:Program}{base:Heap}{fd:FuncData}
noncomputable def top(i:Nat):Stmt:=PySem.Challenge.pw_crosswright_k43_whole_great_sheets.main.body.getD i (.Pass ⟨0,0,0,0⟩)
structure Bl(mg:Str->Option Value):Prop where
 b7:mg "len"=none
 k9:mg "range"=none
 rV:mg "tuple"=none
 pT:mg "list"=none
 NI:mg "str"=none
 pU:mg "isinstance"=none
 NJ:mg "all"=none
 xQ:mg "sorted"=none
 xR:mg "enumerate"=none
 xS:mg "zip"=none
 Zm:mg "dict"=none
 Zn:mg "min"=none
 Zo:mg "reversed"=none
 Zp:mg "sum"=none
 NK:mg "int"=none
 NL:mg "set"=none
 Zq:mg "bool"=none
section
variable{w:World}
def FJ(K:Frag):Sp:=λvs H Q _=>∃(a:Addr) (ns:List Int) (k:Nat),vs=[.ref a,.int k]/\ak K H a (ns.map V.int)/\Q (.int (cellAt ns k)) H
theorem Zr{k:Nat}(h:k<ns.length):(ns.map V.int)[k]? = some (.int (cellAt ns k)):=by grind [cellAt]
theorem Zs:bp ["_law_script","_law_k"] ["_law_script","_law_k"] (aU (top 53)):={}
theorem Zt(B:Bl mg)(F:ba K "_law_cell_at" "_law_cell_at" (top 53) f fd):aO P w K mg base aQ 1 f fd ["_law_script","_law_k"] (FJ K):=by
 refine F.bH Zs λaF A outer s H vs Q E hr h=>?_
 refine hide λG_ aG=>?_
 obtain⟨a,ns,k,rfl,hS,q⟩:=h
 refine aG.k ?_
 refine⟨_,(aw (bS (cg kK (pv 1) (br dg (by rfl) B.b7 b0 (ab (pv 0) ah)))
  (az (aW (bf eQ (pv 0) (pv 1))))
  bX)
  (az (aW aJ))),?_⟩
 try dsimp only[bC]
 refine⟨_,rfl,_,rfl,a,_,rfl,.inl hS,_,_,rfl,rfl,_,rfl,gY (λh=>?_) (λh=>?_)⟩
 .have h:(k:Int)<((ns.map V.int).length:Int):=fF h
  rw[aq] at h
  exact⟨_,rfl,_,rfl,a,_,_,_,rfl,rfl,hS,de (Zr (by lia)),q⟩
 .have h:¬(k:Int)<((ns.map V.int).length:Int):=λz=>h (aI z)
  rw[aq] at h
  have e:cellAt ns k=0:=by
   unfold cellAt
   rw[bR,cR (by lia)]
   rfl
  rw[e] at q
  exact q
end
def mK(H:Hp)(c:Nat×Nat)(x:V):Prop := ∃a,x = .ref a/\H a=some (.tup [.int c.1,.int c.2])
abbrev bz(H:Hp)(cs:List (Nat×Nat))(xs:List V):Prop:=Paired (mK H) cs xs
theorem mK.mono{c:Nat×Nat}{x:V}(s:af H H')(h:mK H c x):mK H' c x:=let ⟨a,e,q⟩:=h;⟨a,e,s _ _ q⟩
theorem mK.off{D:Addr}{c:Nat×Nat}{x:V}(hD:∃o,H D=some (.lst o))(k:∀b o,b≠D->H b=some o->H' b=some o)(h:mK H c x):mK H' c x:=by grind [mK]
theorem bz.mono{H H':Hp}{cs:List (Nat×Nat)}{xs:List V}(s:af H H')(h:bz H cs xs):bz H' cs xs:=Paired.bJ h λ_ _ q=>q.mono s
theorem bz.off{H H':Hp}{D:Addr}{cs:List (Nat×Nat)}{xs:List V}(hD:∃o,H D=some (.lst o))(k:∀b o,b≠D->H b=some o->H' b=some o)(h:bz H cs xs):bz H' cs xs:=Paired.bJ h λ_ _ q=>q.off hD k
theorem NM(n m:Nat):decide (V.str ⟨#[n]⟩=V.str ⟨#[m]⟩)=decide (n=m):=by grind
theorem rW:("#":Str)=⟨#[35]⟩:=by decide +kernel
theorem rX:(".":Str)=⟨#[46]⟩:=by decide +kernel
section
variable{w:World}
theorem fP(h:n<=10000):n<=sizeLine:=bL h (by decide)
theorem uy(h:n<=10000):n<sizeLine:=kq h (by decide)
theorem mM(h:l[i]? = some x):iy (l.map V.str) (i:Int)=some (.str x):=de (by rw[bq,h];rfl)
def FN(K:Frag):Sp:=λvs H Q _=>∃(a b:Addr) (l:List Str) (w:Nat) (c:Nat×Nat),vs=[.ref a,.ref b]/\ax K H a (l.map V.str)/\aV l w/\ax K H b [.int c.1,.int c.2]/\c.1<l.length/\c.2<w/\Q (.str ⟨#[sg l c]⟩) H
theorem Zu:bp ["sheet","cell"] ["sheet","cell"] (aU (top 13)):={}
theorem Zv(F:ba K "sign_at" "sign_at" (top 13) f fd):aO P w K mg base aQ 1 f fd ["sheet","cell"] (FN K):=by
 refine F.bH Zu λaF A outer s H vs Q E hr h=>?_
 refine hide λG_ aG=>?_
 obtain⟨a,b,l,wd,c,rfl,hT,S,hb,h1,h2,q⟩:=h
 obtain⟨x,hx,mx,lx,pR,hj⟩:=S.row h1
 refine aG.k ?_
 have hw:=S.w9
 refine⟨_,(az (aW (bf iX (bf cM (pv 0) (bf cM (pv 1) aJ)) (bf cM (pv 1) aJ)))),?_⟩
 try dsimp only[bC]
 exact⟨_,rfl,_,rfl,b,_,0,.int c.1,rfl,rfl,hb,rfl,a,_,_,.str x,rfl,rfl,hT,mM hx,_,rfl,b,_,1,.int c.2,rfl,rfl,hb,rfl,x,_,sg l c,rfl,rfl,fP (by lia),de (hj c.2 h2),q⟩
def Bp(K:Frag):Sp:=λvs H Q _=>∃(a b:Addr) (l:List Str) (w:Nat) (c:Nat×Nat),vs=[.ref a,.ref b]/\ax K H a (l.map V.str)/\aV l w/\ax K H b [.int c.1,.int c.2]/\c.1<l.length/\c.2<w/\Q (.bl (bW l c)) H
theorem Zw:bp ["sheet","cell"] ["sheet","cell"] (aU (top 14)):={}
theorem Zx(F:ba K "is_open" "is_open" (top 14) f fd)(FO:Cn mg "SHUT" (.str "#"))(FQ:Fn P w K mg base "sign_at" 1 (FN K)):aO P w K mg base aQ 2 f fd ["sheet","cell"] (Bp K):=by
 refine F.bH Zw λaF A outer s H vs Q E hr h=>?_
 refine hide λG_ aG=>?_
 obtain⟨a,b,l,wd,c,rfl,hT,S,hb,h1,h2,q⟩:=h
 refine aG.k ?_
 refine⟨_,(az (aW (nA jQ (aY FQ hr (ab (pv 0) (ab (pv 1) ah))) (kT FO (by rfl))))),?_⟩
 try dsimp only[bC]
 refine⟨_,rfl,_,rfl,a,b,l,wd,c,rfl,hT,S,hb,h1,h2,rfl,?_⟩
 rw[rW,NM]
 exact q
def NN(K:Frag):Sp:=λvs H Q _=>∃(a:Addr) (l:List Str) (w:Nat),vs=[.ref a]/\ax K H a (l.map V.str)/\aV l w/\
 ∀p xs H',H p=none->af H H'->H' p=some (.lst xs)->bz H' (cells l.length w) xs->Q (.ref p) H'
theorem Bq:bp ["sheet","cells","line","column"] ["sheet"] (aU (top 12)):={}
theorem Zy(B:Bl mg)(F:ba K "all_cells" "all_cells" (top 12) f fd):aO P w K mg base aQ 1 f fd ["sheet"] (NN K):=by
 refine F.bH Bq λaF A outer s H vs Q E hr h=>?_
 refine hide λG_ aG=>?_
 obtain⟨a,l,wd,rfl,hT,S,q⟩:=h
 refine aG.k ?_
 have h9:=S.nine
 have hw:=S.w9
 have nV:=xM S
 refine⟨_,(aw (aL 1 Bq.nd (dN ah))
  (aw (cF (kJ (by rfl) B.k9 (ab (br dg (by rfl) B.b7 b0 (ab (pv 0) ah)) ah)) (bK 2 Bq.nd)
  (az (cF (kJ (by rfl) B.k9 (ab (br iZ (by rfl) B.b7 b0 (ab (bf cM (pv 0) (pv 2)) ah)) ah)) (bK 3 Bq.nd)
   (az (eZ (fm jj jF jG iA (pv 1) (ab (gC (ab (pv 2) (ab (pv 3) ah))) ah)))))))
  (az (aW (pv 1))))),?_⟩
 try dsimp only[bC]
 refine⟨bA _,λp hp=>?_⟩
 have eU:af H (upd H p (.lst [])):=af.upd hp
 refine⟨_,rfl,a,_,rfl,.inr (eU.tup hT),_,rfl,by rw[aq];lia,by rw[aq];lia,?_⟩
 rw[fE,aq]
 refine nO (λi O H2=>∃v2 v3 xs,O=[some (.ref a),some (.ref p),v2,v3]/\af H H2/\H2 p=some (.lst xs)/\bz H2 ((cells l.length wd).take (i*wd)) xs)
  ⟨none,none,[],rfl,eU,au,by rw[Nat.zero_mul,oU];exact .nil⟩ ?_ ?_
 .intro i O H2 hi Zz
  refine hide λG_ bc=>?_
  obtain⟨v2,v3,xs,rfl,sm,hL,hC⟩:=Zz
  obtain⟨x,hx,mx,lx,pR,hj⟩:=S.row hi
  refine bc.k ?_
  refine⟨_,rfl,_,rfl,a,_,_,.str x,rfl,rfl,sm.tup hT,mM hx,x,rfl,fP (by lia),_,rfl,by lia,by lia,?_⟩
  rw[fE,lx]
  refine nO (λj O H3=>∃v3 xs,O=[some (.ref a),some (.ref p),some (.int i),v3]/\af H H3/\H3 p=some (.lst xs)/\bz H3 ((cells l.length wd).take (i*wd+j)) xs)
   ⟨v3,xs,rfl,sm,hL,hC⟩ ?_ ?_
  .intro j O H3 ZA ZC
   refine hide λG_ bT=>?_
   obtain⟨v3,ys,rfl,fQ,n0,jA⟩:=ZC
   refine bT.k ?_
   refine⟨_,rfl,.inl ⟨rfl,_,ak.of n0⟩,_,rfl,_,rfl,by show 2<=sizeLine;decide,λt ht=>?_⟩
   have rY:t≠p:=bu (bB n0 ht)
   have NO:upd H3 t (.tup [.int i,.int j]) p=some (.lst ys):=by rw[ao (bu rY)];exact n0
   have hlen:ys.length<=81:=by
    have e1:=jA.length
    rw[fC] at e1
    lia
   refine⟨p,ys,_,rfl,rfl,NO,uy (by lia),some (.int j),ys++[.ref t],rfl,(fQ.trans (af.upd ht)).jV hp,au,?_⟩
   have off:∀b o,b≠p->upd H3 t (.tup [.int i,.int j]) b=some o->upd (upd H3 t (.tup [.int i,.int j])) p (.lst (ys++[.ref t])) b=some o:=λb o hb e=>by rw[ao hb];exact e
   have e2:i*wd+(j+1)=i*wd+j+1:=rfl
   rw[e2,Np hi ZA]
   exact m6 (bz.off ⟨ys,NO⟩ off (bz.mono (af.upd ht) jA)) ⟨t,rfl,off t _ rY au⟩
  .intro O H3 ZD
   refine hide λG_ cN=>?_
   obtain⟨v3,ys,rfl,fQ,n0,jA⟩:=ZD
   refine cN.k ?_
   refine⟨_,_,ys,rfl,fQ,n0,?_⟩
   rw[lM]
   exact jA
 .intro O H2 ZE
  refine hide λG_ fR=>?_
  obtain⟨v2,v3,xs,rfl,sm,hL,hC⟩:=ZE
  refine fR.k ?_
  refine⟨_,rfl,q p xs H2 hp sm hL ?_⟩
  rw[eE (by rw[pQ];exact aN _)] at hC
  exact hC
def FR(K:Frag):Sp:=λvs H Q _=>∃(a:Addr) (l:List Str) (w:Nat),vs=[.ref a]/\ax K H a (l.map V.str)/\aV l w/\
 ∀p xs H',H p=none->af H H'->H' p=some (.lst xs)->bz H' (b6 l w) xs->Q (.ref p) H'
theorem ZF:bp ["sheet"] ["sheet"] (aU (top 10)):={}
theorem ZG(F:ba K "open_cells" "open_cells" (top 10) f fd)(ZH:Fn P w K mg base "all_cells" 1 (NN K))(xT:Fn P w K mg base "is_open" 2 (Bp K)):aO P w K mg base aQ 3 f fd ["sheet"] (FR K):=by
 refine F.bH ZF λaF A outer s H vs Q E hr h=>?_
 refine hide λG_ aG=>?_
 obtain⟨a,l,wd,rfl,hT,S,q⟩:=h
 refine aG.k ?_
 have nV:=xM S
 refine⟨_,(az (aW (i3 (js:=[0]) (ns:=["sheet"]) (dn (aY ZH hr (ab (pv 0) ah))) rfl rfl rfl rfl (λ_ _ _ _=>(nK (fK (aY xT hr (ab (pv 1) (ab (pv 0) ah)))))) (λ_ _ _ _=>(pv 0))))),?_⟩
 try dsimp only[bC]
 refine⟨_,rfl,a,l,wd,rfl,hT,S,λp xs H1 hp sm hL hC=>⟨p,rfl,⟨_,ak.of hL⟩,?_⟩⟩
 have hlx:=hC.length
 refine l7 jv (by lia) (λi=>bW l ((cells l.length wd).getD i (0,0))) (λ_ i y _=>xs[i]? = some y) (λH2 s2=>ak.of (s2 _ _ hL)) (λ_ _ _ _ _ _ _ _ h=>h) ?_ ?_
 .intro D i x H2 Z0 Z hD hx s2 _ k0 k1
  refine hide λG_ bc=>?_
  obtain⟨c,hc,b,rfl,hb⟩:=Paired.get hC hx
  obtain⟨_,m1,m2⟩:=Fz hc
  refine bc.k ?_
  have ec:(cells l.length wd).getD i (0,0)=c:=bE hc
  rw[ec] at k0 k1
  refine⟨_,rfl,_,rfl,a,b,l,wd,c,rfl,(sm.trans s2).tup hT,S,ax.of (s2 _ _ hb),m1,m2,_,rfl,gY (λh=>?_) (λh=>?_)⟩
  .exact⟨_,rfl,k1 _ _ (af.cI _) h hx⟩
  .exact k0 _ (af.cI _) (by simpa using h)
 .intro D ys H2 hD bw s2 pr
  refine q D ys H2 (sm.free hD) (sm.trans s2) bw ?_
  exact Paired.pick (bz.mono s2 hC) (bW l) _ (λi c e=>by rw[bE e]) pr
end
def pV(H:Hp)(way:Str)(q:Nat×List C2)(x:V):Prop := ∃a t xs,x = .ref a/\H a=some (.tup [.int q.1,.str way,.ref t])/\H t=some (.tup xs)/\bz H q.2 xs
abbrev gk(H:Hp)(way:Str)(qs:List (Nat×List C2))(xs:List V):Prop:=Paired (pV H way) qs xs
theorem pV.mono{H H':Hp}{way:Str}{q:Nat×List C2}{x:V}(s:af H H')(h:pV H way q x):pV H' way q x:=let ⟨a,t,xs,e,h1,h2,h3⟩:=h;⟨a,t,xs,e,s _ _ h1,s _ _ h2,h3.mono s⟩
theorem pV.off{H H':Hp}{D:Addr}{way:Str}{q:Nat×List C2}{x:V}(hD:∃o,H D=some (.lst o))(k:∀b o,b≠D->H b=some o->H' b=some o)(h:pV H way q x):pV H' way q x:=by
 obtain⟨a,t,xs,e,h1,h2,h3⟩:=h
 have uk:=hD
 obtain⟨o,uk⟩:=uk
 exact⟨a,t,xs,e,k a _ (cy h1 uk (by intro z;cases z)) h1,k t _ (cy h2 uk (by intro z;cases z)) h2,bz.off hD k h3⟩
theorem gk.mono{H H':Hp}{way:Str}{qs:List (Nat×List C2)}{xs:List V}(s:af H H')(h:gk H way qs xs):gk H' way qs xs:=Paired.bJ h λ_ _ q=>q.mono s
theorem gk.off{H H':Hp}{D:Addr}{way:Str}{qs:List (Nat×List C2)}{xs:List V}(hD:∃o,H D=some (.lst o))(k:∀b o,b≠D->H b=some o->H' b=some o)(h:gk H way qs xs):gk H' way qs xs:=Paired.bJ h λ_ _ q=>q.off hD k
theorem NP{p e:Addr}{o:HO}(hp:H p=some (.lst ys))(h:ax K H e xs):ax K (upd H p o) e xs:=by
 rcases h with (h | ⟨ob,h⟩) | h
 .exact .inl (.inl (by rw[ao (cy h hp (by intro z;cases z))];exact h))
 .exact .inl (.inr ⟨ob,by rw[ao (cy h hp (by intro z;cases z))];exact h⟩)
 .exact .inr h
noncomputable def jo(l:List Str)(w:Nat)(i j:Int):Bool:=decide (0<=i)&&(decide (i<(l.length:Int))&&(decide (0<=j)&&(decide (j<(w:Int))&&bW l (i.toNat,j.toNat))))
theorem FT(l:List Str)(w:Nat)(c:C2):jo l w (c.1:Int) (c.2:Int)=bo l w c:=by simp_all [C2,bo,jo]
theorem NQ(l:List Str)(w:Nat)(c d:C2):jo l w ((c.1:Int) - (d.1:Int)) ((c.2:Int) - (d.2:Int))=gj (bo l w) d c:=by
 unfold gj
 by_cases h1:d.1<=c.1
 .by_cases h2:d.2<=c.2
  .have e1:(c.1:Int) - (d.1:Int)=((c.1 - d.1:Nat):Int):=by lia
   have e2:(c.2:Int) - (d.2:Int)=((c.2 - d.2:Nat):Int):=by lia
   rw[e1,e2,FT l w (c.1 - d.1,c.2 - d.2),aI h1,aI h2,zT,zT]
  .unfold jo
   rw[aK h2,il,m5,aK (p:=(0:Int)<=(c.2:Int) - (d.2:Int)) (by lia),il,m5,m5]
 .unfold jo
  rw[aK h1,il,aK (p:=(0:Int)<=(c.1:Int) - (d.1:Int)) (by lia),il]
theorem pW(op:C2->Bool)(f:C2->List C2):∀(n:Nat) (cs:List C2),(di op f n cs).length<=cs.length
 |n,[]=>aN _
 |n,c::r=>by
  unfold di
  split
  .exact Nat.le_succ_of_le (pW op f _ r)
  .exact kF (pW op f _ r)
theorem NR{R:α->β->Prop}:∀{l:List α}{m:List β},Paired R l m->m.isEmpty=l.isEmpty
 |_,_,.nil=>rfl
 |_,_,.cons _ _=>rfl
theorem NS{op:C2->Bool}{f:C2->List C2}(hf:∀{c},(f c).isEmpty=false->eB op c=true)(hc:cs[i]? = some c) :
  di op f 0 (cs.take (i+1))=di op f 0 (cs.take i)++if (f c).isEmpty=true then [] else [(d6 op (cs.take (i+1)),f c)]:=by
 have iF:cs.take (i+1)=cs.take i++[c]:=by rw[eD,hc];rfl
 rw[iF,Nu,Nt,m7]
def Br(K:Frag)(mg:Str->Option Value)(x:Str)(xs:List V):Prop := ∃a,Cn mg x (.ref a)/\∀H,ax K H a xs
section
variable{w:World}
def NT(K:Frag):Sp:=λvs H Q _=>∃(a b:Addr) (l:List Str) (w:Nat) (i j:Int),vs=[.ref a,.ref b]/\ax K H a (l.map V.str)/\aV l w/\ax K H b [.int i,.int j]/\Q (.bl (jo l w i j)) H
theorem ZI:bp ["sheet","cell"] ["sheet","cell"] (aU (top 22)):={}
theorem ZJ(B:Bl mg)(F:ba K "is_open_within" "is_open_within" (top 22) f fd)(xT:Fn P w K mg base "is_open" 2 (Bp K)):aO P w K mg base aQ 3 f fd ["sheet","cell"] (NT K):=by
 refine F.bH ZI λaF A outer s H vs Q E hr h=>?_
 refine hide λG_ aG=>?_
 obtain⟨a,b,l,wd,i,j,rfl,hT,S,hb,q⟩:=h
 obtain⟨x0,xU,NU,xV,_⟩:=S.row (i:=0) S.one
 refine aG.k ?_
 have h9:=S.nine
 have hw:=S.w9
 refine⟨_,(aw (bS (gT (wO qU kK aJ (bf cM (pv 1) aJ) (br dg (by rfl) B.b7 b0 (ab (pv 0) ah))))
  (az (aW gh))
  bX)
  (aw (bS (gT (wO qU kK aJ (bf cM (pv 1) aJ) (br iZ (by rfl) B.b7 b0 (ab (bf cM (pv 0) aJ) ah))))
  (az (aW gh))
  bX)
  (az (aW (aY xT hr (ab (pv 0) (ab (pv 1) ah))))))),?_⟩
 try dsimp only[bC]
 unfold jo at q
 refine⟨_,rfl,b,_,0,.int i,rfl,rfl,hb,rfl,_,_,rfl,rfl,_,rfl,?_⟩
 by_cases h0:(0:Int)<=i
 .rw[aI h0] at q ⊢
  refine bt ⟨_,rfl,a,_,rfl,.inr hT,_,_,rfl,rfl,_,rfl,?_⟩
  rw[aq]
  by_cases h1:i<(l.length:Int)
  .rw[aI h1] at q ⊢
   refine aR ?_
   refine⟨_,rfl,b,_,1,.int j,rfl,rfl,hb,rfl,_,_,rfl,rfl,_,rfl,?_⟩
   by_cases h2:(0:Int)<=j
   .rw[aI h2] at q ⊢
    refine bt ⟨_,rfl,a,_,0,.str x0,rfl,rfl,hT,mM xU,x0,rfl,fP (by lia),_,_,rfl,rfl,_,rfl,?_⟩
    rw[xV]
    by_cases h3:j<(wd:Int)
    .rw[aI h3] at q ⊢
     refine aR ?_
     obtain⟨i',rfl⟩:=nh h0
     obtain⟨j',rfl⟩:=nh h2
     rw[fE,fE] at q
     exact⟨_,rfl,_,rfl,a,b,l,wd,(i',j'),rfl,hT,S,hb,by lia,by lia,q⟩
    .rw[aK h3] at q ⊢
     exact bt q
   .rw[aK h2] at q ⊢
    refine aR ⟨_,rfl,?_⟩
    exact bt q
  .rw[aK h1] at q ⊢
   exact bt q
 .rw[aK h0] at q ⊢
  refine aR ⟨_,rfl,?_⟩
  exact bt q
def NV(K:Frag)(a b d t p:Addr)(H:Hp)(l:List Str)(wd:Nat)(c dd:C2):Nat->St->Hp->Prop:=λm O H2=>∃n xs e,m=10 - n/\n<=9/\O=[some (.ref a),some (.ref b),some (.ref d),some (.ref t),some (.ref p),some (.ref e)]/\af H H2/\
 H2 p=some (.lst xs)/\bz H2 (line c dd n) xs/\H2 e=some (.tup [.int (go c dd n).1,.int (go c dd n).2])/\∀k,k<n->bo l wd (go c dd k)=true
def NW(K:Frag):Sp:=λvs H Q _=>∃(a b d:Addr) (l:List Str) (w:Nat) (c dd:C2),vs=[.ref a,.ref b,.ref d]/\ax K H a (l.map V.str)/\aV l w/\H b=some (.tup [.int c.1,.int c.2])/\ax K H d [.int dd.1,.int dd.2]/\(dd=(0,1)\/dd=(1,0))/\
 ∀t xs H',af H H'->H' t=some (.tup xs)->bz H' (bY (bo l w) dd c) xs->Q (.ref t) H'
theorem xW:bp ["sheet","cell","way","before","cells","here"] ["sheet","cell","way"] (aU (top 21)):={}
theorem ZL(B:Bl mg)(F:ba K "row_from" "row_from" (top 21) f fd)(NX:Fn P w K mg base "is_open_within" 3 (NT K)):aO P w K mg base aQ 4 f fd ["sheet","cell","way"] (NW K):=by
 refine F.bH xW λaF A outer s H vs Q E hr h=>?_
 refine hide λG_ aG=>?_
 obtain⟨a,b,d,l,wd,c,dd,rfl,hT,S,hb,hd,Be,q⟩:=h
 refine aG.k ?_
 have h9:=S.nine
 have hw:=S.w9
 have NY:ax K H b [.int c.1,.int c.2]:=ax.of hb
 refine⟨_,(aw (aL 3 xW.nd (gC (ab (aT nz (bf cM (pv 1) aJ) (bf cM (pv 2) aJ)) (ab (aT nz (bf cM (pv 1) aJ) (bf cM (pv 2) aJ)) ah))))
  (aw (bS (fK (aY NX hr (ab (pv 0) (ab (pv 3) ah))))
  (az (aW (gC ah)))
  bX)
  (aw (aL 4 xW.nd (dN ah))
  (aw (aL 5 xW.nd (pv 1))
  (aw (Kx PassesOwn.never (fK (aY NX hr (ab (pv 0) (ab (pv 5) ah))))
  (aw (eZ (fm jj jF jG iA (pv 4) (ab (pv 5) ah)))
   (az (aL 5 xW.nd (gC (ab (aT fh (bf cM (pv 5) aJ) (bf cM (pv 2) aJ)) (ab (aT fh (bf cM (pv 5) aJ) (bf cM (pv 2) aJ)) ah)))))))
  (aw (bS (cg kK (br dg (by rfl) B.b7 b0 (ab (pv 4) ah)) aJ)
  (az (aW (gC ah)))
  bX)
  (az (aW (gE tT (by rfl) B.rV rC (ab (pv 4) ah)))))))))),?_⟩
 try dsimp only[bC]
 refine⟨_,rfl,b,_,0,.int c.1,rfl,rfl,NY,rfl,_,rfl,d,_,0,.int dd.1,rfl,rfl,hd,rfl,_,_,rfl,rfl,_,rfl,b,_,1,.int c.2,rfl,rfl,NY,rfl,_,rfl,d,_,1,.int dd.2,rfl,rfl,hd,rfl,_,_,rfl,rfl,by show 2<=sizeLine;decide,λt ht=>?_⟩
 have eU:af H (upd H t (.tup [.int ((c.1:Int) - (dd.1:Int)),.int ((c.2:Int) - (dd.2:Int))])):=af.upd ht
 refine⟨_,rfl,_,rfl,a,t,l,wd,_,_,rfl,eU.tup hT,S,ax.of au,_,rfl,?_⟩
 rw[NQ]
 refine gY (λjX=>?_) (λjX=>?_)
 .refine⟨bA _,λp hp=>q p [] _ (eU.trans (af.upd hp)) au ?_⟩
  unfold bY
  rw[aA jX]
  exact .nil
 .refine⟨bA _,λp hp=>?_⟩
  have i8:af H (upd (upd H t (.tup [.int ((c.1:Int) - (dd.1:Int)),.int ((c.2:Int) - (dd.2:Int))])) p (.lst [])):=eU.trans (af.upd hp)
  have gm:H p=none:=eU.free hp
  refine⟨_,rfl,?_⟩
  refine⟨NV K a b d t p H l wd c dd,⟨10,0,[],b,rfl,by lia,rfl,i8,au,.nil,by rw[i7];exact i8 _ _ hb,λk hk=>absurd hk (gQ _)⟩,?_⟩
  intro m O H2 ZM
  refine hide λG_ bc=>?_
  obtain⟨n,xs,e,rfl,hn,rfl,sm,hL,hC,hE,ho⟩:=ZM
  refine bc.k ?_
  refine⟨_,rfl,_,rfl,a,e,l,wd,_,_,rfl,sm.tup hT,S,ax.of hE,_,rfl,?_⟩
  rw[FT]
  have hlen:xs.length=n:=by rw[<-hC.length,uw]
  refine gY (λj6=>?_) (λj6=>?_)
  .have ZN:n<=8:=by
    obtain⟨o1,o2,_⟩:=pS j6
    simp only[go] at o1 o2
    rcases Be with rfl | rfl
    .simp only[iT] at o2
     lia
    .simp only[iT] at o1
     lia
   refine⟨λO' H' =>∃m',m'<10 - n/\NV K a b d t p H l wd c dd m' O' H',λ_ _ z=>z,?_⟩
   have FU:∀o,upd H2 p o e=some (.tup [.int (go c dd n).1,.int (go c dd n).2]):=λo=>by rw[ao (cy hE hL (by intro z;cases z))];exact hE
   refine⟨_,rfl,.inl ⟨rfl,_,ak.of hL⟩,_,rfl,p,xs,_,rfl,rfl,hL,uy (by lia),?_⟩
   refine⟨_,rfl,e,_,0,.int (go c dd n).1,rfl,rfl,ax.of (FU _),rfl,_,rfl,d,_,0,.int dd.1,rfl,rfl,NP hL (sm.tup hd),rfl,_,_,rfl,rfl,_,rfl,e,_,1,.int (go c dd n).2,rfl,rfl,ax.of (FU _),rfl,_,rfl,d,_,1,.int dd.2,rfl,rfl,NP hL (sm.tup hd),rfl,_,_,rfl,rfl,by show 2<=sizeLine;decide,λt2 fS=>?_⟩
   refine⟨10 - (n+1),by lia,n+1,xs++[.ref e],t2,rfl,by lia,rfl,(sm.jV gm).trans (af.upd fS),af.upd fS _ _ au,?_,?_,?_⟩
   .rw[Nr]
    refine bz.mono (af.upd fS) (m6 (bz.off ⟨xs,hL⟩ (λb' o jr z=>by rw[ao jr];exact z) hC) ⟨e,rfl,FU _⟩)
   .rw[au,go_succ]
    simp only[Int.natCast_add]
   .intro k hk
    rcases wy.mp hk with z | z
    .exact ho k z
    .rw[z];exact j6
  .have Bs:runN (bo l wd) dd 10 c=n:=FD (by lia) ho (gS.mpr j6)
   refine⟨_,rfl,p,_,rfl,.inl (ak.of hL),_,_,rfl,rfl,_,rfl,?_⟩
   rw[hlen]
   refine gY (λh2=>?_) (λh2=>?_)
   .have h2:(n:Int)<2:=fF h2
    refine⟨bA _,λp' eI=>q p' [] _ (sm.trans (af.upd eI)) au ?_⟩
    unfold bY
    rw[av jX,Bs,aA (by lia)]
    exact .nil
   .have h2:¬(n:Int)<2:=λz=>h2 (aI z)
    refine⟨_,rfl,p,_,rfl,.inl ⟨ak.of hL,λp' eI=>?_⟩⟩
    refine q p' xs _ (sm.trans (af.upd eI)) au ?_
    unfold bY
    rw[av jX,Bs,av (by lia)]
    exact hC.mono (af.upd eI)
def FV(K:Frag):Sp:=λvs H Q _=>∃(a:Addr) (l:List Str) (w:Nat),vs=[.ref a]/\ax K H a (l.map V.str)/\aV l w/\
 ∀p xs ys H',H p=none->af H H'->H' p=some (.lst (xs++ys))->gk H' "across" (nY l w) xs->gk H' "down" (nZ l w) ys->Q (.ref p) H'
theorem pX:bp ["sheet","across","down","number","cell","to_the_right","to_below"] ["sheet"] (aU (top 20)):={}
theorem ZO(F:ba K "rows_of" "rows_of" (top 20) f fd)(CA:Br K mg "ACROSS" [.int 0,.int 1])(CD:Br K mg "DOWN" [.int 1,.int 0])(FW:Fn P w K mg base "open_cells" 3 (FR K))(NZ:Fn P w K mg base "row_from" 4 (NW K)):aO P w K mg base aQ 5 f fd ["sheet"] (FV K):=by
 refine F.bH pX λaF A outer s H vs Q E hr h=>?_
 refine hide λG_ aG=>?_
 obtain⟨a,l,wd,rfl,hT,S,q⟩:=h
 obtain⟨dA,FX,tA⟩:=CA
 obtain⟨dD,FY,tD⟩:=CD
 refine aG.k ?_
 have nV:=xM S
 have Bt:(b6 l wd).length<=81:=bL (ji _ _) nV
 refine⟨_,(aw (aL 1 pX.nd (dN ah))
  (aw (aL 2 pX.nd (dN ah))
  (aw (aL 3 pX.nd aJ)
  (aw (cF (dn (aY FW hr (ab (pv 0) ah))) (bK 4 pX.nd)
  (aw (aL 5 pX.nd (aY NZ hr (ab (pv 0) (ab (pv 4) (ab (kT FX (by rfl)) ah)))))
   (aw (aL 6 pX.nd (aY NZ hr (ab (pv 0) (ab (pv 4) (ab (kT FY (by rfl)) ah)))))
   (aw (AQ (bS (PW.pt (jl (tQ (pv 5) (by intro _;rfl)) (jN (tQ (pv 6) (by intro _;rfl)))))
   (az (aL 3 pX.nd (aT fh (pv 3) aJ)))
   bX))
   (aw (AQ (bS (tQ (pv 5) (by intro _;rfl))
   (az (eZ (fm jj jF jG iA (pv 1) (ab (gC (ab (pv 3) (ab dM (ab (pv 5) ah)))) ah))))
   bX))
   (az (bS (tQ (pv 6) (by intro _;rfl))
   (az (eZ (fm jj jF jG iA (pv 2) (ab (gC (ab (pv 3) (ab dM (ab (pv 6) ah)))) ah))))
   bX)))))))
  (az (aW (aT Ax (pv 1) (pv 2)))))))),?_⟩
 try dsimp only[bC]
 refine⟨bA _,λpa xX=>?_⟩
 refine⟨bA _,λpd uz=>?_⟩
 have FZ:pa≠pd:=by intro z;rw[<-z,au] at uz;cases uz
 have N0:af H (upd H pa (.lst [])):=af.upd xX
 have N1:af H (upd (upd H pa (.lst [])) pd (.lst [])):=N0.trans (af.upd uz)
 have ZP:H pd=none:=N0.free uz
 have Bu:upd (upd H pa (.lst [])) pd (.lst []) pa=some (.lst []):=by rw[ao FZ,au]
 have xY:upd (upd H pa (.lst [])) pd (.lst []) pd=some (.lst []):=au
 refine⟨_,rfl,a,l,wd,rfl,N1.tup hT,S,λp xs H1 hp i8 hL hC=>⟨p,rfl,⟨_,ak.of hL⟩,?_⟩⟩
 have rZ:p≠pa:=λz=>by rw[z] at hp;rw[Bu] at hp;cases hp
 have uA:p≠pd:=λz=>by rw[z] at hp;rw[xY] at hp;cases hp
 generalize j6:bo l wd=op at *
 have gJ:xs.length=(b6 l wd).length:=hC.length.symm
 refine iW (xs:=xs) (λi O H2=>∃v4 v5 v6 as ds,O=[some (.ref a),some (.ref pa),some (.ref pd),some (.int (d6 op ((b6 l wd).take i))),v4,v5,v6]/\af H H2/\(∀b o,b≠pa->b≠pd->H1 b=some o->H2 b=some o)/\
   H2 pa=some (.lst as)/\H2 pd=some (.lst ds)/\gk H2 "across" (di op (nW op) 0 ((b6 l wd).take i)) as/\gk H2 "down" (di op (mJ op) 0 ((b6 l wd).take i)) ds)
  ⟨none,none,none,[],[],rfl,N1.trans i8,λ_ _ _ _ z=>z,i8 _ _ Bu,i8 _ _ xY,.nil,.nil⟩ ?_ ?_ ?_
 .rintro i O H2 _ ⟨v4,v5,v6,as,ds,rfl,sm,off,hA,hD,rA,rD⟩
  exact ak.of (off _ _ rZ uA hL)
 .intro i x O H2 hi ZQ
  refine hide λG_ bc=>?_
  obtain⟨v4,v5,v6,as,ds,rfl,sm,off,hA,hD,rA,rD⟩:=ZQ
  obtain⟨c,hc,b,rfl,hb⟩:=Paired.get hC hi
  refine bc.k ?_
  have agQ:∀o,H1 pa=some o->∃z,o=HO.lst z:=λo e=>⟨[],by rw[i8 _ _ Bu] at e;exact(dm e).symm⟩
  have ZR:b≠pa:=cy hb (i8 _ _ Bu) (by intro z;cases z)
  have ZS:b≠pd:=cy hb (i8 _ _ xY) (by intro z;cases z)
  have nQ:=off _ _ ZR ZS hb
  have iF:(b6 l wd).take (i+1)=(b6 l wd).take i++[c]:=by rw[eD,hc];rfl
  have Bv:as.length<=81:=by rw[<-rA.length];exact bL (pW _ _ _ _) (bL (List.length_take_le' _ _) Bt)
  have ZT:ds.length<=81:=by rw[<-rD.length];exact bL (pW _ _ _ _) (bL (List.length_take_le' _ _) Bt)
  refine⟨_,rfl,_,rfl,a,b,dA,l,wd,c,(0,1),rfl,sm.tup hT,S,nQ,tA _,.inl rfl,λt1 Bw H3 fQ ZU F0=>?_⟩
  refine⟨_,rfl,_,rfl,a,b,dD,l,wd,c,(1,0),rfl,(sm.trans fQ).tup hT,S,fQ _ _ nQ,tD _,.inr rfl,λt2 xZ H4 du fS F3=>?_⟩
  rw[j6] at F0 F3
  have e1:Bw.isEmpty=(nW op c).isEmpty:=NR F0
  have e2:xZ.isEmpty=(mJ op c).isEmpty:=NR F3
  have r6:=fQ.trans du
  have uB:=r6 _ _ hA
  have ZV:=r6 _ _ hD
  have Bx:=du _ _ ZU
  refine⟨λO' H'=>O'=[some (.ref a),some (.ref pa),some (.ref pd),some (.int (d6 op ((b6 l wd).take (i+1)))),some (.ref b),some (.ref t1),some (.ref t2)]/\H4=H',?_,?_⟩
  .rintro O' H' ⟨rfl,rfl⟩
   refine⟨λO' H'=>O'=[some (.ref a),some (.ref pa),some (.ref pd),some (.int (d6 op ((b6 l wd).take (i+1)))),some (.ref b),some (.ref t1),some (.ref t2)]/\(∀b o,b≠pa->H4 b=some o->H' b=some o)/\
    ∃x4,H' pa=some (.lst x4)/\gk H' "across" (di op (nW op) 0 ((b6 l wd).take (i+1))) x4,?_,?_⟩
   .rintro O' H5 ⟨rfl,n5,x4,N2,N3⟩
    have F4:=n5 _ _ (bu FZ) ZV
    have F5:=n5 _ _ (cy fS uB (by intro z;cases z)) fS
    have ZW:bz H5 (mJ op c) xZ:=bz.off ⟨as,uB⟩ n5 F3
    have N4:gk H5 "down" (di op (mJ op) 0 ((b6 l wd).take i)) ds:=gk.off ⟨as,uB⟩ n5 (rD.mono r6)
    have iG:af H H5:=λb o z=>n5 b o (bB z xX) ((sm.trans r6) _ _ z)
    have N5:∀b o,b≠pa->b≠pd->H1 b=some o->H5 b=some o:=λb o h1 h2 z=>n5 b o h1 (r6 _ _ (off b o h1 h2 z))
    have er:=NS (op:=op) (f:=mJ op) FF hc
    refine⟨_,rfl,_,Or.inr (Or.inl ⟨xZ,ax.of F5,rfl⟩),?_⟩
    by_cases z:(mJ op c).isEmpty=true
    .rw[e2,z]
     refine aR ⟨some (.ref b),some (.ref t1),some (.ref t2),x4,ds,rfl,iG,N5,N2,F4,N3,?_⟩
     rw[er,aA z,iQ]
     exact N4
    .rw[e2,gS.mpr z]
     refine bt ⟨_,rfl,.inl ⟨rfl,_,ak.of F4⟩,_,rfl,_,rfl,by show 3<=sizeLine;decide,λt ht=>?_⟩
     have h8:af H5 (upd H5 t (.tup [.int (d6 op ((b6 l wd).take (i+1))),.str "down",.ref t2])):=af.upd ht
     have uC:=h8 _ _ F4
     have ib:∀o' b o,b≠pd->upd H5 t (.tup [.int (d6 op ((b6 l wd).take (i+1))),.str "down",.ref t2]) b=some o->upd (upd H5 t (.tup [.int (d6 op ((b6 l wd).take (i+1))),.str "down",.ref t2])) pd o' b=some o:=λo' b o hb y=>by rw[ao hb];exact y
     refine⟨pd,ds,_,rfl,rfl,uC,uy (by lia),some (.ref b),some (.ref t1),some (.ref t2),x4,ds++[.ref t],rfl,(iG.trans h8).jV ZP,λb o h1 h2 y=>ib _ b o h2 (h8 _ _ (N5 b o h1 h2 y)),ib _ pa _ FZ (h8 _ _ N2),au,?_,?_⟩
     .exact gk.off ⟨ds,uC⟩ (ib _) (N3.mono h8)
     .rw[er,av z]
      refine m6 (gk.off ⟨ds,uC⟩ (ib _) (N4.mono h8)) ⟨t,t2,xZ,rfl,ib _ t _ (cy au uC (by intro y;cases y)) au,ib _ t2 _ (cy (h8 _ _ F5) uC (by intro y;cases y)) (h8 _ _ F5),bz.off ⟨ds,uC⟩ (ib _) (ZW.mono h8)⟩
   .have er:=NS (op:=op) (f:=nW op) FE hc
    refine⟨_,rfl,_,Or.inr (Or.inl ⟨Bw,ax.of Bx,rfl⟩),?_⟩
    by_cases z:(nW op c).isEmpty=true
    .rw[e1,z]
     refine aR ⟨rfl,λ_ _ _ y=>y,as,uB,?_⟩
     rw[er,aA z,iQ]
     exact rA.mono r6
    .rw[e1,gS.mpr z]
     refine bt ⟨_,rfl,.inl ⟨rfl,_,ak.of uB⟩,_,rfl,_,rfl,by show 3<=sizeLine;decide,λt ht=>?_⟩
     have h8:af H4 (upd H4 t (.tup [.int (d6 op ((b6 l wd).take (i+1))),.str "across",.ref t1])):=af.upd ht
     have x5:=h8 _ _ uB
     have ib:∀o' b o,b≠pa->upd H4 t (.tup [.int (d6 op ((b6 l wd).take (i+1))),.str "across",.ref t1]) b=some o->upd (upd H4 t (.tup [.int (d6 op ((b6 l wd).take (i+1))),.str "across",.ref t1])) pa o' b=some o:=λo' b o hb y=>by rw[ao hb];exact y
     refine⟨pa,as,_,rfl,rfl,x5,uy (by lia),rfl,λb o h1 y=>ib _ b o h1 (h8 _ _ y),as++[.ref t],au,?_⟩
     rw[er,av z]
     exact m6 (gk.off ⟨as,x5⟩ (ib _) ((rA.mono r6).mono h8)) ⟨t,t1,Bw,rfl,ib _ t _ (cy au x5 (by intro y;cases y)) au,ib _ t1 _ (cy (h8 _ _ Bx) x5 (by intro y;cases y)) (h8 _ _ Bx),bz.off ⟨as,x5⟩ (ib _) ((F0.mono du).mono h8)⟩
  .have enum:d6 op ((b6 l wd).take (i+1))=if eB op c=true then d6 op ((b6 l wd).take i)+1 else d6 op ((b6 l wd).take i):=by rw[iF,Nt]
   refine⟨_,rfl,_,Or.inr (Or.inl ⟨Bw,ax.of Bx,rfl⟩),?_⟩
   by_cases z1:(nW op c).isEmpty=true
   .rw[e1,z1]
    refine aR ⟨_,rfl,_,Or.inr (Or.inl ⟨xZ,ax.of fS,rfl⟩),?_⟩
    by_cases z2:(mJ op c).isEmpty=true
    .rw[e2,z2]
     refine aR ⟨?_,rfl⟩
     rw[enum,av (by unfold eB;rw[z1,z2];decide)]
     rfl
    .rw[e2,gS.mpr z2]
     refine bt ⟨_,rfl,_,_,rfl,rfl,?_,rfl⟩
     rw[enum,aA (FF (gS.mpr z2))]
     rfl
   .rw[e1,gS.mpr z1]
    refine bt (bt ⟨_,rfl,_,_,rfl,rfl,?_,rfl⟩)
    rw[enum,aA (FE (gS.mpr z1))]
    rfl
 .intro O H2 ZX
  refine hide λG_ bT=>?_
  obtain⟨v4,v5,v6,as,ds,rfl,sm,off,hA,hD,rA,rD⟩:=ZX
  refine bT.k ?_
  rw[eE (by lia)] at rA rD
  have Bv:as.length<=81:=by rw[<-rA.length];exact bL (pW _ _ _ _) Bt
  have ZT:ds.length<=81:=by rw[<-rD.length];exact bL (pW _ _ _ _) Bt
  subst j6
  refine⟨_,rfl,_,rfl,pa,pd,as,ds,rfl,rfl,hA,hD,fP (by lia),λp' eI=>?_⟩
  exact q p' as ds _ (sm.free eI) (sm.trans (af.upd eI)) au (rA.mono (af.upd eI)) (rD.mono (af.upd eI))
end
theorem F6{op:C2->Bool}{d:C2}:∀{f:Nat}{c:C2}{k:Nat},k<runN op d f c->op (go c d k)=true
 |0,_,_,h=>by unfold runN at h;exact absurd h (gQ _)
 |f+1,c,k,h=>by
  unfold runN at h
  split at h
  .rename_i ho
   cases k with
   |zero=>rw[i7];exact ho
   |succ k=>
    have:=F6 (op:=op) (d:=d) (f:=f) (c:=(c.1+d.1,c.2+d.2)) (k:=k) (by lia)
    have e:go c d (k+1)=go (c.1+d.1,c.2+d.2) d k:=by
     simp only[go,lM,lR]
     lia
    rw[e]
    exact this
  .exact absurd h (gQ _)
theorem N6{op:C2->Bool}{d:C2}:∀{f:Nat}{c:C2},runN op d f c<=f
 |0,_=>by unfold runN;exact aN _
 |f+1,c=>by
  unfold runN
  split
  .exact kF N6
  .exact bA _
theorem ZY{op:C2->Bool}{x:C2}(h:x∈bY op d c):op x=true:=by
 unfold bY at h
 split at h
 .exact absurd h ip
 .split at h
  .exact absurd h ip
  .obtain⟨k,hk,rfl⟩:=bM.mp h
   exact F6 (dP.mp hk)
theorem ZZ{op:C2->Bool}:(bY op d c).length<=10:=by
 unfold bY
 split
 .exact bA _
 .split
  .exact bA _
  .rw[uw];exact N6
noncomputable def dj(l:List Str)(w:Nat):List (Nat×List C2):=nY l w++nZ l w
theorem N7{op:C2->Bool}(hf:∀c,(bY op d c).isEmpty=false->eB op c=true)(h:q∈di op (bY op d) n cs):q.2.length<=10/\∀c∈q.2,op c=true:=by
 obtain⟨_,c,_,_,e,_⟩:=Nv hf h
 rw[e]
 exact⟨ZZ,λx hx=>ZY hx⟩
theorem F7(h:q∈dj l w):q.2.length<=10/\∀c∈q.2,c.1<l.length/\c.2<w/\bW l c=true:=by
 have z:q.2.length<=10/\∀c∈q.2,bo l w c=true:=by
  rcases cX.mp h with h | h
  .exact N7 (λc=>FE) h
  .exact N7 (λc=>FF) h
 exact⟨z.1,λc hc=>pS (z.2 c hc)⟩
theorem r8(S:aV l w):(dj l w).length<=162:=by
 unfold dj
 rw[cE]
 have h1:(nY l w).length<=(b6 l w).length:=pW _ _ _ _
 have h2:(nZ l w).length<=(b6 l w).length:=pW _ _ _ _
 have h3:(b6 l w).length<=(cells l.length w).length:=ji _ _
 have h4:=xM S
 lia
def Z1(H:Hp)(q:Nat×List C2)(x:V):Prop := ∃way,pV H way q x
theorem N8{α β:Type}{R:α->β->Prop}:∀{l:List α}{m:List β}{l':List α}{m':List β},Paired R l m->Paired R l' m'->Paired R (l++l') (m++m')
 |_,_,_,_,.nil,h=>h
 |_,_,_,_,.cons h t,h' =>.cons h (N8 t h')
theorem N9(h1:gk H "across" (nY l w) xs)(h2:gk H "down" (nZ l w) ys):Paired (Z1 H) (dj l w) (xs++ys):=
 N8 (Paired.bJ h1 λ_ _ h=>⟨_,h⟩) (Paired.bJ h2 λ_ _ h=>⟨_,h⟩)
noncomputable def ar(l:List Str)(cs:List C2):Str:=⟨(cs.map (sg l)).toArray⟩
theorem F8:∀xs:List Nat,Str.join ⟨#[]⟩ (xs.map λc=>(⟨#[c]⟩:Str))=⟨xs.toArray⟩
 |[]=>rfl
 |[x]=>rfl
 |x::y::r=>by
  have ih:=F8 (y::r)
  show(⟨#[x]⟩++⟨#[]⟩++Str.join ⟨#[]⟩ ((y::r).map λc=>(⟨#[c]⟩:Str)):Str)=_
  rw[ih]
  apply mI
  rw[j5,j5]
  simp
theorem F9:∀xs:List Nat,(((xs.map λc=>(⟨#[c]⟩:Str)).map (·.length)).sum)=xs.length
 |[]=>rfl
 |x::r=>by
  rw[bQ,bQ,fH,F9 r,cQ,Nat.add_comm]
  rfl
theorem pY:("":Str)=⟨#[]⟩:=by decide +kernel
theorem mN{α β:Type}{f:α->β}:∀{l:List α}{ys:List β},Paired (λi y=>y=f i) l ys->ys=l.map f
 |_,_,.nil=>rfl
 |_,_,.cons h t=>by rw[bQ,<-mN t,h]
theorem lb(g:α->β)(d:α)(l:List α):(List.range l.length).map (λi=>g (l.getD i d))=l.map g:=by
 apply iS
 intro i
 rw[bq,bq]
 by_cases h:i<l.length
 .rw[qH h,aS h,iR,iR,bR,aS h,oP]
 .rw[cR (by simpa using h),cR (by simpa using h)]
  rfl
section
variable{w:World}
def Oa(K:Frag):Sp:=λvs H Q _=>∃(a t:Addr) (l:List Str) (w:Nat) (cs:List C2) (xs:List V),vs=[.ref a,.ref t]/\ax K H a (l.map V.str)/\aV l w/\H t=some (.tup xs)/\bz H cs xs/\cs.length<=100/\(∀c∈cs,c.1<l.length/\c.2<w)/\
 ∀H',af H H'->Q (.str (ar l cs)) H'
theorem Z3:bp ["sheet","cells"] ["sheet","cells"] (aU (top 26)):={}
theorem Z4(F:ba K "pattern" "pattern" (top 26) f fd)(FQ:Fn P w K mg base "sign_at" 1 (FN K)):aO P w K mg base aQ 2 f fd ["sheet","cells"] (Oa K):=by
 refine F.bH Z3 λaF A outer s H vs Q E hr h=>?_
 refine hide λG_ aG=>?_
 obtain⟨a,t,l,wd,cs,xs,rfl,hT,S,ht,hC,hlen,bb,q⟩:=h
 refine aG.k ?_
 have hlx:=hC.length
 refine⟨_,(az (aW (fm Dw J3 Ka AO dM (ab (i3 (js:=[0]) (ns:=["sheet"]) (wJ (pv 1)) rfl rfl rfl rfl (λ_ _ _ _=>ju) (λ_ _ _ _=>(aY FQ hr (ab (pv 1) (ab (pv 0) ah))))) ah)))),?_⟩
 try dsimp only[bC]
 refine⟨rfl,_,rfl,t,rfl,⟨_,ax.of ht⟩,?_⟩
 refine comp_map Et (by lia) (λ_ i y _=>y = .str ⟨#[sg l (cs.getD i (0,0))]⟩) (λH2 s2=>ax.of (s2 _ _ ht)) (λ_ _ _ _ _ _ _ _ h=>h) ?_ ?_
 .intro D i x H2 Z hD hx s2 _ k1
  obtain⟨c,hc,b,rfl,hb⟩:=Paired.get hC hx
  have eV:=bb c (bh hc)
  exact⟨_,rfl,_,rfl,a,b,l,wd,c,rfl,s2.tup hT,S,ax.of (s2 _ _ hb),eV.1,eV.2,k1 _ _ (af.cI _) (by rw[bE hc])⟩
 .intro D ys H2 hD bw s2 pr
  have e:=mN pr
  rw[<-hlx,lb (λc=>V.str ⟨#[sg l c]⟩)] at e
  have e1:ys=((cs.map (sg l)).map λc=>(⟨#[c]⟩:Str)).map V.str:=by rw[e,jH,jH];rfl
  rw[e1] at bw
  refine⟨_,D,(cs.map (sg l)).map λc=>(⟨#[c]⟩:Str),rfl,rfl,.inl (ak.of bw),?_,?_⟩
  .rw[F9,aq,aq,pY]
   show _+_*0<=_
   lia
  .rw[pY,F8]
   exact q H2 s2
end
structure eC(l:List Str)(w:Nat):Prop where
 one:1<=l.length
 nine:l.length<=9
 w9:w<=9
 len:∀x∈l,x.length=w
theorem aV.dC(S:aV l w):eC l w:=⟨S.one,S.nine,S.w9,S.len⟩
theorem eC.row(S:eC l w)(hi:i<l.length):∃x,l[i]? = some x/\x∈l/\x.length=w/\x.cps.toList.length=w/\∀j,j<w->x.cps.toList[j]? = some (sg l (i,j)):=by
 refine⟨l[i],aS hi,m9 hi,S.len _ (m9 hi),by rw[bD];exact S.len _ (m9 hi),λj hj=>?_⟩
 have hl:j<l[i].cps.toList.length:=by rw[bD,S.len _ (m9 hi)];exact hj
 unfold sg
 rw[bE (aS hi),aS hl]
 simp only[bE (aS hl)]
theorem eC.set(S:eC l w){c:Nat×Nat}(h1:c.1<l.length)(h2:c.2<w):eC (setC l c ch) w:=by
 obtain⟨x,hx,mx,lx,pR,hj⟩:=S.row h1
 refine⟨by rw[dB];exact S.one,by rw[dB];exact S.nine,S.w9,λy my=>?_⟩
 unfold setC at my
 rcases J1 my with z | z
 .exact S.len y z
 .rw[z,bE hx,xN (by lia),lx]
theorem eC.lg(S:eC l w){c:Nat×Nat}(h1:c.1<l.length)(h2:c.2<w){d:Nat×Nat}(d1:d.1<l.length)(d2:d.2<w):sg (setC l c ch) d=if d=c then ch else sg l d:=by
 obtain⟨x,hx,mx,lx,pR,hj⟩:=S.row d1
 have g:=hj d.2 d2
 by_cases e:d.1=c.1
 .have pN:(setC l c ch)[d.1]? = some (bI x c.2 ch):=by
   unfold setC
   rw[e] at hx ⊢
   rw[vU h1,bE hx]
  have q:sg (setC l c ch) d=(bI x c.2 ch).cps.toList.getD d.2 0:=by unfold sg;rw[bE pN]
  rw[q,bR,FA (by lia) (by lia),g]
  by_cases e2:d.2=c.2
  .rw[aA e2,aA (Dv.mpr ⟨e,e2⟩)]
   rfl
  .rw[av e2,av (λz=>e2 (eX Prod.snd z))]
   rfl
 .have pN:(setC l c ch)[d.1]? = some x:=by
   unfold setC
   rw[zm (bu e)]
   exact hx
  have q:sg (setC l c ch) d=sg l d:=by unfold sg;rw[bE pN,bE hx]
  rw[q,av (λz=>e (eX Prod.fst z))]
section
variable{w:World}
theorem Ga(h:j<=x.length):(Txt.slice x none (some (j:Int))).cps.toList=x.cps.toList.take j:=by
 have e:=mY.mp (PyProof.Rows.slice_closes_to (x:=x) (j:=(j:Int)) ⟨by lia,by rw[bD];lia⟩)
 rw[e]
 simp
theorem Gb(h:j+1<=x.length):(Txt.slice x (some ((j:Int)+1)) none).cps.toList=x.cps.toList.drop (j+1):=by
 have e:=PyProof.Rows.slice_from_eq (x:=x) (i:=(j:Int)+1) (b:=(x.length:Int)) (by lia) (by lia) rfl
 rw[e]
 have e1:((j:Int)+1).toNat=j+1:=by lia
 rw[e1]
 show(x.cps.toList.drop (j+1)).take _=_
 refine eE ?_
 rw[zw,bD]
 lia
def uD(K:Frag):Sp:=λvs H Q _=>∃(a b:Addr) (l:List Str) (w:Nat) (c:Nat×Nat) (ch:Nat),vs=[.ref a,.ref b,.str ⟨#[ch]⟩]/\ax K H a (l.map V.str)/\eC l w/\ax K H b [.int c.1,.int c.2]/\c.1<l.length/\c.2<w/\
 ∀t H',H t=none->af H H'->H' t=some (.tup ((setC l c ch).map V.str))->Q (.ref t) H'
theorem By:bp ["sheet","cell","sign","number","column","lines"] ["sheet","cell","sign"] (aU (top 16)):={}
theorem Z5(B:Bl mg)(F:ba K "with_sign" "with_sign" (top 16) f fd):aO P w K mg base aQ 1 f fd ["sheet","cell","sign"] (uD K):=by
 refine F.bH By λaF A outer s H vs Q E hr h=>?_
 refine hide λG_ aG=>?_
 obtain⟨a,b,l,wd,c,ch,rfl,hT,S,hb,h1,h2,q⟩:=h
 obtain⟨x,hx,mx,lx,pR,hj⟩:=S.row h1
 refine aG.k ?_
 have hw:=S.w9
 refine⟨_,(aw (aL 3 By.nd (bf cM (pv 1) aJ))
  (aw (aL 4 By.nd (bf cM (pv 1) aJ))
  (aw (aL 5 By.nd (gE rf (by rfl) B.pT pG (ab (pv 0) ah)))
  (aw (pf (aT pq (aT pq (l3 ub (bf eQ (pv 5) (pv 3)) l0 (jS (pv 4))) (pv 2)) (l3 ub (bf eQ (pv 5) (pv 3)) (jS (aT fh (pv 4) aJ)) l0)) (tL (pv 5) (pv 3) set_list))
  (az (aW (gE tT (by rfl) B.rV rC (ab (pv 5) ah)))))))),?_⟩
 try dsimp only[bC]
 refine⟨_,rfl,b,_,0,.int c.1,rfl,rfl,hb,rfl,_,rfl,b,_,1,.int c.2,rfl,rfl,hb,rfl,_,rfl,a,_,rfl,.inr hT,λp hp=>?_⟩
 have l1:(Txt.slice x none (some (c.2:Int))).length<=100:=bL (wg x _ _) (by lia)
 have l2:(Txt.slice x (some ((c.2:Int)+1)) none).length<=100:=bL (wg x _ _) (by lia)
 refine⟨_,rfl,_,rfl,p,_,_,.str x,rfl,rfl,ak.of au,mM hx,_,rfl,_,rfl,x,rfl,fP (by lia),_,rfl,_,_,rfl,rfl,fP (by show _+1<=_;lia),?_⟩
 refine⟨_,rfl,_,rfl,p,_,_,.str x,rfl,rfl,ak.of au,mM hx,_,rfl,_,_,rfl,rfl,_,rfl,x,rfl,fP (by lia),_,_,rfl,rfl,fP ?_,?_⟩
 .rw[<-bD,j5,cE,bD]
  show _+1+_<=_
  lia
 have eg:=FC (x:=x) (j:=c.2) (ch:=ch) (Ga (by lia)) (Gb (by lia))
 refine⟨_,rfl,_,rfl,p,_,_,c.1,rfl,rfl,au,uc (by rw[aq];exact h1),?_⟩
 rw[eg,Kg]
 refine⟨_,rfl,p,_,rfl,.inl ⟨ak.of au,λt ht=>?_⟩⟩
 have sm:af H (upd H p (.lst ((l.map V.str).set c.1 (.str (bI x c.2 ch))))):=af.upd hp
 refine q t _ (sm.free ht) (sm.trans (af.upd ht)) ?_
 rw[au]
 unfold setC
 rw[bE hx,List.map_set]
end
noncomputable def iH(x:Str):Bool:=x.cps.toList.all λc=>decide (c∈iE.cps.toList)
noncomputable def n6(x:Str)(a b:Int):Bool:=decide (a<=(x.length:Int))&&(decide ((x.length:Int)<=b)&&iH x)
theorem Bz{α β:Type}{f:α->β}:∀{l:List α}{ys:List β},Paired (λi y=>y=f i) l ys->ys=l.map f
 |_,_,.nil=>rfl
 |_,_,.cons h t=>by rw[bQ,<-Bz t,h]
theorem Z6(g:α->β)(d:α)(l:List α):(List.range l.length).map (λi=>g (l.getD i d))=l.map g:=by
 apply iS
 intro i
 rw[bq,bq]
 by_cases h:i<l.length
 .rw[qH h,aS h,iR,iR,bR,aS h,oP]
 .rw[cR (by simpa using h),cR (by simpa using h)]
  rfl
section
variable{w:World}
def Ob(K:Frag):Sp:=λvs H Q _=>(∃(x:Str) (a b:Int),vs=[.str x,.int a,.int b]/\x.length<=1000/\∀H',af H H'->Q (.bl (n6 x a b)) H')\/
 ∃(v:V) (t:Value) (a b:Int),vs=[v,.int a,.int b]/\gU K H v t/\kitOne K t (.type "str")=some false/\Q (.bl false) H
theorem Z7:bp ["thing","least","most"] ["thing","least","most"] (aU (top 44)):={}
theorem Z8(B:Bl mg)(Ge:Cn mg "LETTERS" (.str iE))(F:ba K "is_letters" "is_letters" (top 44) f fd):aO P w K mg base aQ 1 f fd ["thing","least","most"] (Ob K):=by
 refine F.ok Z7 (λvs H Q E h=>?_) (λaF A outer s H vs Q E hr h=>?_)
 .rcases h with ⟨x,a,b,rfl,_⟩ | ⟨v,t,a,b,rfl,_⟩ <;> rfl
 .refine⟨_,(aw (bS (gT (fK (br ua (by rfl) B.pU pF (ab (pv 0) (ab (tK (v := .ty "str") (by rfl) B.NI LY rfl) ah)))))
   (az (aW gh))
   bX)
   (az (aW (Kt (Up qU qU (pv 1) (br iZ (by rfl) B.b7 b0 (ab (pv 0) ah)) (pv 2)) (Ks (br (L0 rfl) (by rfl) B.NJ LX (ab (i3 (js:=[]) (ns:=[]) (L4 (pv 0)) rfl rfl rfl rfl (λ_ _ _ _=>ju) (λ_ _ _ _=>(nA Am (pv 0) (kT Ge (by rfl))))) ah))))))),?_⟩
  try dsimp only[bC]
  rcases h with ⟨x,a,b,rfl,hx,q⟩ | ⟨v,t,a,b,rfl,ty,hk,q⟩
  .refine⟨_,rfl,_,_,_,true,⟨rfl,.str _,Wo⟩,_,rfl,aR ?_⟩
   refine⟨_,rfl,_,rfl,x,rfl,dq (by lia),_,_,rfl,rfl,_,rfl,?_⟩
   by_cases h2:a<=(x.length:Int)
   .rw[aI h2]
    refine bt ⟨_,rfl,_,_,rfl,rfl,_,rfl,?_⟩
    by_cases h3:(x.length:Int)<=b
    .rw[aI h3]
     refine bt ?_
     refine⟨_,rfl,x,rfl,comp_map L6 (by rw[aq,fB];show x.length<=15752961;lia) (λ_ i y _=>y = .bl (decide (x.cps.toList.getD i 0∈iE.cps.toList))) (λ_ _=>trivial) (λ_ _ _ _ _ _ _ _ h=>h) ?_ ?_⟩
     .intro D i z H2 Z _ hz _ _ k1
      rw[bq] at hz
      cases e:x.cps.toList[i]? with
      |none=>rw[e] at hz;cases hz
      |some c=>
       rw[e] at hz
       cases hz
       refine⟨_,rfl,_,_,rfl,rfl,k1 _ _ (af.cI _) ?_⟩
       rw[zU,bR,e]
       all_goals rfl
     .intro D ys H2 hD bw sm pr
      have e:=Bz pr
      rw[aq,Z6 (λc=>V.bl (decide (c∈iE.cps.toList)))] at e
      refine⟨D,x.cps.toList.map λc=>decide (c∈iE.cps.toList),rfl,ak.of (by rw[bw,e,jH];rfl),?_⟩
      have e2:((x.cps.toList.map λc=>decide (c∈iE.cps.toList)).all id)=n6 x a b:=by
       unfold n6 iH
       rw[tu,aI h2,aI h3]
       rfl
      rw[e2]
      exact q H2 sm
    .rw[aK h3]
     refine aR ?_
     have e:n6 x a b=false:=by
      unfold n6
      rw[aK h3,il,m5]
     rw[<-e]
     exact q H (af.cI _)
   .rw[aK h2]
    refine aR ⟨_,rfl,aR ?_⟩
    have e:n6 x a b=false:=by
     unfold n6
     rw[aK h2,il]
    rw[<-e]
    exact q H (af.cI _)
  .exact⟨_,rfl,_,_,_,false,⟨rfl,ty,hk⟩,_,rfl,bt q⟩
end
noncomputable def cB(x:Str):Bool:=decide (2<=x.length)&&(decide (x.length<=9)&&iH x)
theorem BA(h:cB x=true):2<=x.length/\x.length<=9:=by grind [cB]
theorem Gf{α β:Type}{f:α->β}:∀{l:List α}{ys:List β},Paired (λi y=>y=f i) l ys->ys=l.map f
 |_,_,.nil=>rfl
 |_,_,.cons h t=>by rw[bQ,<-Gf t,h]
theorem Z9(g:α->β)(d:α)(l:List α):(List.range l.length).map (λi=>g (l.getD i d))=l.map g:=by
 apply iS
 intro i
 rw[bq,bq]
 by_cases h:i<l.length
 .rw[qH h,aS h,iR,iR,bR,aS h,oP]
 .rw[cR (by simpa using h),cR (by simpa using h)]
  rfl
theorem Oc(h:n<=10000):n<sizeLine:=kq h (by decide)
noncomputable def uE(d:Addr):List (Str×V):=aX "worths" (.ref d) []
theorem uF(d:Addr):(uE d).lookup ("worths":Str)=some (.ref d):=by
 unfold uE
 rw[cL,aA rfl]
theorem uG(d:Addr){m:Str}(h:¬m="worths"):(uE d).lookup m=none:=by
 unfold uE
 rw[cL,av h]
 rfl
structure iI(C:Addr)(H:Hp)(p d:Addr)(kvs:List (Key×V)):Prop where
 ob:∃dx,H p=some (.ins C dx (uE d))
 dc:H d=some (.dK kvs)
 nd:(kvs.map (·.1)).Nodup
 tx:mf kvs
theorem iI.mono{p d:Addr}(s:af H H')(h:iI C H p d kvs):iI C H' p d kvs:=let ⟨⟨dx,e⟩,b,c,t⟩:=h;⟨⟨dx,s _ _ e⟩,s _ _ b,c,t⟩
theorem aaa(h:mf kvs)(x:Str)(v:V)(e:aP kvs (Sum.inr x:Key)=none):mf (putK kvs (Sum.inr x) v):=by
 rw[tV v e]
 intro q m
 rcases cX.mp m with z | z
 .exact h q z
 .rw[cb.mp z];exact⟨x,rfl⟩
section
variable{w:World}
def Od:Sp:=λvs H Q _=>∃(x:Str),vs=[.str x]/\x.length<=1000/\∀H',af H H'->Q (.bl (cB x)) H'
theorem aab(x:Str):n6 x 2 9=cB x:=by grind [n6,cB]
theorem aac:bp ["thing"] ["thing"] (aU (top 50)):={}
theorem aad(Gg:Cn mg "LEAST_LETTERS" (.int 2))(Gh:Cn mg "MOST_LETTERS" (.int 9))(F:ba K "is_word" "is_word" (top 50) f fd)(aae:Fn P w K mg base "is_letters" 1 (Ob K)):aO P w K mg base aQ 2 f fd ["thing"] Od:=by
 refine F.bH aac λaF A outer s H vs Q E hr h=>?_
 obtain⟨x,rfl,hx,q⟩:=h
 refine⟨_,(az (aW (aY aae hr (ab (pv 0) (ab (kT Gg (by rfl)) (ab (kT Gh (by rfl)) ah)))))),?_⟩
 try dsimp only[bC]
 refine⟨_,rfl,.inl ⟨x,2,9,rfl,hx,λH1 s1=>?_⟩⟩
 rw[aab]
 exact q H1 s1
def Gi:Sp:=λvs H Q _=>∃(x:Str),vs=[.str x]/\cB x=true/\∀H',af H H'->Q .aB H'
theorem aaf:bp ["thing"] ["thing"] (aU (top 49)):={}
theorem aag(F:ba K "need_word" "need_word" (top 49) f fd)(aah:Fn P w K mg base "is_word" 2 Od):aO P w K mg base aQ 3 f fd ["thing"] Gi:=by
 refine F.bH aaf λaF A outer s H vs Q E hr h=>?_
 obtain⟨x,rfl,hw,q⟩:=h
 have hl:=BA hw
 refine⟨_,(az (bS (gT (fK (aY aah hr (ab (pv 0) ah))))
  (az wI)
  bX)),?_⟩
 try dsimp only[bC]
 refine⟨_,rfl,x,rfl,by lia,λH1 s1=>⟨_,rfl,?_⟩⟩
 rw[hw]
 exact aR (q H1 s1)
def Oe(C:Addr):Sp:=λvs H Q _=>∃(p dx:Addr),vs=[.ref p]/\H p=some (.ins C dx [])/\∀(d:Addr) (H':Hp),H d=none->iI C H' p d []->(∀b o,H b=some o->b≠p->H' b=some o)->Q .aB H'
theorem aai:bp ["self"] ["self"] (aU (inClass (top 48) 0)):={}
theorem aaj(F:ba K "__init__" "Book.__init__" (inClass (top 48) 0) f fd)(T:cG K C)(nw:bN K C "worths"):aO P w K mg base aQ 1 f fd ["self"] (Oe C):=by
 refine F.bH aai λaF A outer s H vs Q E hr h=>?_
 obtain⟨p,dx,rfl,hp,q⟩:=h
 refine⟨_,(az (kL (pv 0) D9 rfl)),?_⟩
 try dsimp only[bC]
 intro d hd
 have uA:p≠d:=bB hp hd
 refine⟨_,rfl,p,C,dx,[],rfl,(by rw[ao uA];exact hp),T,nw,(by show 0<1000;decide),?_⟩
 refine q d _ hd ⟨⟨dx,au⟩,by rw[ao uA.symm,au],jh,λq m=>absurd m ip⟩ λb o e hb=>?_
 rw[ao hb,ao (bB e hd)]
 exact e
def Of(C:Addr):Sp:=λvs H Q _=>∃(p d:Addr) (kvs:List (Key×V)) (x:Str) (v:V),vs=[.ref p,.str x]/\iI C H p d kvs/\cB x=true/\aP kvs (Sum.inr x:Key)=some v/\∀H',af H H'->Q .aB H'
theorem aak:bp ["self","word"] ["self","word"] (aU (inClass (top 48) 8)):={}
theorem aal(F:ba K "need_there" "Book.need_there" (inClass (top 48) 8) f fd)(T:cG K C)(nw:bN K C "worths")(Gj:Fn P w K mg base "need_word" 3 Gi):aO P w K mg base aQ 4 f fd ["self","word"] (Of C):=by
 refine F.bH aak λaF A outer s H vs Q E hr h=>?_
 refine hide λG_ aG=>?_
 obtain⟨p,d,kvs,x,v,rfl,S,hw,hv,q⟩:=h
 refine aG.k ?_
 have dr:=jU hr
 refine⟨_,(aw (eZ (aY Gj hr (ab (pv 1) ah)))
  (az (bS (Ab (Lr dr (pv 1) (cH (pv 0) rfl)))
  (az wI)
  bX))),?_⟩
 try dsimp only[bC]
 refine⟨_,rfl,x,rfl,hw,λH1 s1=>?_⟩
 obtain⟨⟨dx,h1⟩,hd,_⟩:=S.mono s1
 refine⟨_,rfl,_,rfl,p,C,dx,_,_,rfl,h1,T,nw,uF _,d,_,rfl,dW.k (k:=Sum.inr x) hd,_,rfl,?_⟩
 rw[hv]
 exact aR (q H1 s1)
def BB(C:Addr):Sp:=λvs H Q _=>∃(p d:Addr) (kvs:List (Key×V)) (x:Str) (v:V),vs=[.ref p,.str x,v]/\iI C H p d kvs/\cB x=true/\aP kvs (Sum.inr x:Key)=none/\kvs.length<=1000/\
 ∀H',iI C H' p d (putK kvs (Sum.inr x) v)->(∀b o,b≠d->H b=some o->H' b=some o)->Q .aB H'
theorem aam:bp ["self","word","worth"] ["self","word","worth"] (aU (inClass (top 48) 1)):={}
theorem Oh(F:pH K "put" "Book.put" (inClass (top 48) 1) f fd dv)(T:cG K C)(nw:bN K C "worths")(Gj:Fn P w K mg base "need_word" 3 Gi):aO P w K mg base aQ 4 f fd ["self","word","worth"] (BB C):=by
 refine F.ok aam (λvs H Q E h=>?_) (λaF A outer s H vs Q E hr h=>?_)
 .refine hide λG_ aG=>?_
  obtain⟨p,d,kvs,x,v,rfl,_⟩:=h
  refine aG.k ?_
  rfl
 .refine hide λG_ bc=>?_
  obtain⟨p,d,kvs,x,v,rfl,S,hw,hv,hl,q⟩:=h
  refine bc.k ?_
  have dr:=jU hr
  refine⟨_,(aw (eZ (aY Gj hr (ab (pv 1) ah)))
   (aw (bS (Ab (Lq dr (pv 1) (cH (pv 0) rfl)))
   (az wI)
   bX)
   (az (Az dr (cH (pv 0) rfl) (pv 1) (pv 2) rfl)))),?_⟩
  try dsimp only[bC]
  refine⟨_,rfl,x,rfl,hw,λH1 s1=>?_⟩
  obtain⟨⟨dx,h1⟩,hd,nd,tx⟩:=S.mono s1
  refine⟨_,rfl,_,rfl,p,C,dx,_,_,rfl,h1,T,nw,uF _,d,_,rfl,dW.k (k:=Sum.inr x) hd,_,rfl,?_⟩
  rw[hv]
  have uA:p≠d:=cy h1 hd (by intro z;cases z)
  refine aR ⟨_,rfl,_,rfl,p,C,dx,_,_,rfl,h1,T,nw,uF _,_,rfl,d,_,rfl,l6.k (k:=Sum.inr x) hd (VY (by lia)),?_⟩
  refine q _ ⟨⟨dx,by rw[ao uA];exact h1⟩,au,VZ v nd hv,aaa tx x v hv⟩ λb o hb e=>?_
  rw[ao hb]
  exact s1 _ _ e
def Gm(C:Addr):Sp:=λvs H Q _=>∃(p d:Addr) (kvs:List (Key×V)) (x:Str) (v:V),vs=[.ref p,.str x]/\iI C H p d kvs/\cB x=true/\aP kvs (Sum.inr x:Key)=some v/\∀H',af H H'->Q v H'
theorem aan:bp ["self","word"] ["self","word"] (aU (inClass (top 48) 4)):={}
theorem aao(F:ba K "worth" "Book.worth" (inClass (top 48) 4) f fd)(T:cG K C)(nw:bN K C "worths")(Gn:Mt P w K mg base C "need_there" 4 (Of C) []):aO P w K mg base aQ 5 f fd ["self","word"] (Gm C):=by
 refine F.bH aan λaF A outer s H vs Q E hr h=>?_
 refine hide λG_ aG=>?_
 obtain⟨p,d,kvs,x,v,rfl,S,hw,hv,q⟩:=h
 have dr:=jU hr
 obtain⟨⟨x6,MO⟩,_⟩:=id S
 refine aG.k ?_
 refine⟨_,(aw (eZ (rE Gn hr (pv 0) (ab (pv 1) ah)))
  (az (aW (D8 dr (cH (pv 0) rfl) (pv 1) (λ_ _=>rfl))))),?_⟩
 try dsimp only[bC]
 refine⟨_,rfl,p,x6,_,rfl,MO,uG _ (by decide +kernel),_,rfl,p,d,kvs,x,v,rfl,S,hw,hv,λH1 s1=>?_⟩
 obtain⟨⟨dx,h1⟩,hd,nd,tx⟩:=S.mono s1
 exact⟨_,rfl,p,C,dx,_,_,rfl,h1,T,nw,uF _,_,rfl,d,v,rfl,hv ▸ dW.k (k:=Sum.inr x) hd,q H1 s1⟩
def Oi(C:Addr):Sp:=λvs H Q _=>∃(p d:Addr) (kvs:List (Key×V)),vs=[.ref p]/\iI C H p d kvs/\kvs.length<64/\∀l H',H l=none->af H H'->H' l=some (.lst ((cn (aZ kvs)).map V.str))->Q (.ref l) H'
theorem aap:bp ["self"] ["self"] (aU (inClass (top 48) 3)):={}
theorem aaq(B:Bl mg)(F:ba K "words" "Book.words" (inClass (top 48) 3) f fd)(T:cG K C)(nw:bN K C "worths"):aO P w K mg base aQ 1 f fd ["self"] (Oi C):=by
 refine F.bH aap λaF A outer s H vs Q E hr h=>?_
 refine hide λG_ aG=>?_
 obtain⟨p,d,kvs,rfl,S,hl,q⟩:=h
 obtain⟨⟨dx,h1⟩,hd,nd,tx⟩:=id S
 refine aG.k ?_
 refine⟨_,(az (aW (br (W0 rfl) (by rfl) B.xQ xk (ab (cH (pv 0) rfl) ah)))),?_⟩
 try dsimp only[bC]
 exact⟨_,rfl,p,C,dx,_,_,rfl,h1,T,nw,uF _,d,kvs,rfl,hd,tx,hl,λl x8=>q l _ x8 (af.upd x8) au⟩
end
noncomputable def lh(c d:Nat):Bool:=decide (d=46)||decide (d=c)
noncomputable def cz(x p:Str):Bool:=decide (x.length=p.length)&&(List.range x.length).all λi=>lh (x.cps.toList.getD i 0) (p.cps.toList.getD i 0)
theorem r9(n m:Nat):decide (V.str ⟨#[n]⟩=V.str ⟨#[m]⟩)=decide (n=m):=by grind
theorem Oj:(".":Str)=⟨#[46]⟩:=by decide +kernel
theorem Gp{l:List α}{x d:α}(h:l[i]? = some x):l.getD i d=x:=by rw[bR,h];rfl
theorem Ol(h:α->β)(d:α)(l:List α)(g:α->Bool):((List.range l.length).filter λi=>g (l.getD i d)).map (λi=>h (l.getD i d))=(l.filter g).map h:=by
 have e:((List.range l.length).map λi=>l.getD i d)=l:=by
  have:=Z9 (λx:α=>x) d l
  rw[this,List.map_id']
 conv=>rhs;rw[<-e]
 rw[tw,jH]
 rfl
theorem aar(h:mf kvs)(e:(kvs.map λq=>kV q.1)[i]? = some v):∃x,v = .str x/\(aZ kvs)[i]? = some x:=by
 rw[bq] at e
 cases q:kvs[i]? with
 |none=>rw[q] at e;cases e
 |some y=>
  rw[q] at e
  obtain⟨x,hx⟩:=h y (bh q)
  have e:kV y.1=v:=dm e
  rw[hx] at e
  refine⟨x,e.symm,?_⟩
  unfold aZ
  rw[bq,q,iR,hx]
section
variable{w:World}
theorem aas{g:Nat->Bool}:(List.range (i+1)).all g=((List.range i).all g&&g i):=by grind
noncomputable def eM(p:Str)(n:Nat)(x:Str):Bool:=decide (x.length=p.length)&&(List.range n).all λi=>lh (x.cps.toList.getD i 0) (p.cps.toList.getD i 0)
theorem aat(x p:Str):eM p p.cps.size x=cz x p:=by
 unfold eM cz
 by_cases h:x.length=p.length
 .rw[aI h,h]
  rfl
 .rw[aK h,il,il]
theorem Oo(x p:Str)(n:Nat):eM p (n+1) x=(eM p n x&&lh (x.cps.toList.getD n 0) (p.cps.toList.getD n 0)):=by
 unfold eM
 rw[aas,Bool.and_assoc]
def Ot:Sp:=λvs H Q _=>∃(d:Addr) (kvs:List (Key×V)) (pt:Str),vs=[.ref d,.str pt]/\H d=some (.dK kvs)/\mf kvs/\kvs.length<=1000/\pt.length<=1000/\(∀x∈aZ kvs,x.length<=1000)/\
 ∀l H',H l=none->af H H'->H' l=some (.lst (((aZ kvs).filter λx=>cz x pt).map V.str))->Q (.ref l) H'
theorem Ou(x p:Str):decide (V.int (x.length:Int)=V.int (p.length:Int))=decide (x.length=p.length):=by grind
theorem uH:bp ["words","pattern","length","fits","at","sign"] ["words","pattern"] (aU (top 51)):={}
theorem aau(B:Bl mg)(F:ba K "words_fitting" "words_fitting" (top 51) f fd)(n8:Cn mg "FREE" (.str ".")):aO P w K mg base aQ 1 f fd ["words","pattern"] Ot:=by
 refine F.bH uH λaF A outer s H vs Q E hr h=>?_
 refine hide λG_ aG=>?_
 obtain⟨d,kvs,pt,rfl,hd,tx,hl,hpt,hk,q⟩:=h
 refine aG.k ?_
 have kY:(aZ kvs).length=kvs.length:=by unfold aZ;rw[aq]
 refine⟨_,(aw (aL 2 uH.nd (br iZ (by rfl) B.b7 b0 (ab (pv 1) ah)))
  (aw (W8 (t9 (i:=3) uH.nd rfl (Or.inl rfl) (js:=[2]) (ns:=["length"]) (W5 (pv 0)) rfl rfl rfl rfl (λ_ _ _ _=>(nK (cg lW (br iZ (by rfl) B.b7 b0 (ab (pv 0) ah)) (pv 1)))) (λ_ _ _ _=>(pv 0))))
  (aw (cF (XI (by rfl) B.xR (ab (pv 1) ah)) (jn rfl (dG (bK 4 uH.nd) (dG (bK 5 uH.nd) jm)))
  (az (bS (cg jQ (pv 5) (kT n8 (by rfl)))
   (az (t9 (i:=3) uH.nd rfl (Or.inl rfl) (js:=[5,4]) (ns:=["sign","at"]) (dn (pv 3)) rfl rfl rfl rfl (λ_ _ _ _=>(nK (cg lW (bf iX (pv 0) (pv 2)) (pv 1)))) (λ_ _ _ _=>(pv 0))))
   bX)))
  (az (aW (pv 3)))))),?_⟩
 try dsimp only[bC]
 refine⟨_,rfl,pt,rfl,dq (by lia),?_⟩
 refine⟨d,kvs,hd,λob=>?_⟩
 refine⟨_,rfl,d,ob,kvs,rfl,au,?_⟩
 refine l7 W6 (by rw[aq];lia) (λi=>eM pt 0 ((aZ kvs).getD i ⟨#[]⟩)) (λ_ i y _=>y = .str ((aZ kvs).getD i ⟨#[]⟩)) (λH2 s2=>s2 _ _ au) (λ_ _ _ _ _ _ _ _ h=>h) ?_ ?_
 .intro D i v H2 Z0 Z hD hv s2 _ k0 k1
  obtain⟨x,rfl,hx⟩:=aar tx hv
  have d7:=hk x (bh hx)
  rw[Gp hx] at k0 k1
  have e0:eM pt 0 x=decide (x.length=pt.length):=by unfold eM;rw[List.range_zero,List.all_nil,zG]
  refine⟨_,rfl,x,rfl,dq (by lia),_,rfl,rfl,_,rfl,?_⟩
  rw[Ou,<-e0]
  refine gY (λh=>?_) (λh=>?_)
  .exact⟨_,rfl,k1 _ _ (af.cI _) h rfl⟩
  .exact k0 _ (af.cI _) (gS.mpr h)
 .intro D ys H2 hD bw s2 pr
  have e:=Gf pr
  rw[aq,<-kY,Ol V.str ⟨#[]⟩ (aZ kvs) λx=>eM pt 0 x] at e
  have hd2:H2 d=some (.dS ob (.dK kvs)):=s2 _ _ au
  have Ov:D≠d:=λz=>by rw[z,au] at hD;cases hD
  have xY:H D=none:=by rw[ao Ov] at hD;exact hD
  refine⟨hd2,?_⟩
  have sm:af H (upd H2 d (.dK kvs)):=λb o hb=>by
   by_cases z:b=d
   .subst z
    rw[hd] at hb
    rw[au,hb]
   .rw[ao z]
    exact s2 _ _ (by rw[ao z];exact hb)
  have Ow:upd H2 d (.dK kvs) D=some (.lst (((aZ kvs).filter λx=>eM pt 0 x).map V.str)):=by rw[ao Ov,bw,e]
  generalize upd H2 d (.dK kvs)=H3 at sm Ow
  refine⟨_,rfl,pt,rfl,?_⟩
  refine XM (λi O H4=>∃p v4 v5,O=[some (.ref d),some (.str pt),some (.int pt.length),some (.ref p),v4,v5]/\H p=none/\af H H4/\H4 p=some (.lst (((aZ kvs).filter λx=>eM pt i x).map V.str))) ⟨D,none,none,rfl,xY,sm,Ow⟩ ?_ ?_
  .intro i c t O H4 hc q8_ ht
   refine hide λG_ bc=>?_
   obtain⟨p,v4,v5,rfl,gm,du,hp⟩:=q8_
   refine bc.k ?_
   have st:af H4 (upd H4 t (.tup [.int i,.str ⟨#[c]⟩])):=af.upd ht
   have hi:i<pt.length:=by rw[<-bD];exact(bP.mp hc).1
   have gp:pt.cps.toList.getD i 0=c:=Gp hc
   refine⟨t,_,rfl,ax.of au,rfl,_,_,rfl,_,_,rfl,rfl,?_⟩
   generalize upd H4 t (.tup [.int i,.str ⟨#[c]⟩])=H5 at st
   have sd:=st _ _ hp
   refine⟨_,rfl,rfl,_,rfl,?_⟩
   rw[Oj,r9]
   by_cases cC:c=46
   .rw[aI cC]
    refine aR ⟨p,_,_,rfl,gm,du.trans st,?_⟩
    have ef:(λx=>eM pt (i+1) x)=λx=>eM pt i x:=by
     funext x
     rw[Oo,gp]
     unfold lh
     rw[aI cC,Bool.true_or,zG]
    rw[ef]
    exact sd
   .rw[aK cC]
    refine bt ⟨_,rfl,p,rfl,⟨_,ak.of sd⟩,?_⟩
    have fM:((aZ kvs).filter λx=>eM pt i x).length<=1000:=bL (ji _ _) (by lia)
    refine l7 jv (by rw[aq];lia) (λj=>decide ((((aZ kvs).filter λx=>eM pt i x).getD j ⟨#[]⟩).cps.toList.getD i 0=c)) (λ_ j y _=>y = .str (((aZ kvs).filter λx=>eM pt i x).getD j ⟨#[]⟩)) (λH6 s6=>ak.of (s6 _ _ sd)) (λ_ _ _ _ _ _ _ _ h=>h) ?_ ?_
    .intro D2 j v H6 Z0 Z ll hv s6 _ k0 k1
     rw[bq] at hv
     cases e:((aZ kvs).filter λx=>eM pt i x)[j]? with
     |none=>rw[e] at hv;cases hv
     |some x=>
      rw[e] at hv
      cases hv
      rw[Gp e] at k0 k1
      have mx:=b8.mp (bh e)
      have d7:x.length=pt.length:=by
       have:=mx.2
       unfold eM at this
       rw[eY] at this
       exact fF this.1
      have Gq:x.cps.toList[i]? = some (x.cps.toList.getD i 0):=by
       rw[bR,aS (by rw[bD];lia)]
       rfl
      refine⟨_,rfl,_,rfl,x,_,_,rfl,rfl,dq (by lia),de Gq,_,rfl,rfl,_,rfl,?_⟩
      rw[r9]
      refine gY (λh=>?_) (λh=>?_)
      .exact⟨_,rfl,k1 _ _ (af.cI _) h rfl⟩
      .exact k0 _ (af.cI _) (gS.mpr h)
    .intro D2 zs H6 ll mO s6 n9
     have e2:=Gf n9
     rw[aq,Ol V.str ⟨#[]⟩ ((aZ kvs).filter λx=>eM pt i x) λx=>decide (x.cps.toList.getD i 0=c)] at e2
     refine⟨D2,_,_,rfl,(du.trans st).free ll,du.trans (st.trans s6),?_⟩
     rw[mO,e2,List.filter_filter]
     have ef:(λx:Str=>decide (x.cps.toList.getD i 0=c)&&eM pt i x)=λx=>eM pt (i+1) x:=by
      funext x
      rw[Oo,gp,Bool.and_comm]
      unfold lh
      rw[aK cC,Bool.false_or]
      congr 1
      by_cases h:x.cps.toList.getD i 0=c
      .rw[aI h,aI h.symm]
      .rw[aK h,aK (bu h)]
     rw[ef]
  .intro O H4 q9_
   refine hide λG_ bT=>?_
   obtain⟨p,v4,v5,rfl,gm,du,hp⟩:=q9_
   refine bT.k ?_
   refine⟨_,rfl,q p H4 gm du ?_⟩
   have ef:(λx=>eM pt pt.cps.size x)=λx=>cz x pt:=by funext x;exact aat x pt
   rw[ef] at hp
   exact hp
def Ox(C:Addr):Sp:=λvs H Q _=>∃(p d:Addr) (kvs:List (Key×V)) (pt:Str),vs=[.ref p,.str pt]/\iI C H p d kvs/\kvs.length<64/\pt.length<=1000/\(∀x∈aZ kvs,x.length<=1000)/\
 ∀l H',H l=none->af H H'->H' l=some (.lst ((cn ((aZ kvs).filter λx=>cz x pt)).map V.str))->Q (.ref l) H'
theorem aav:bp ["self","pattern"] ["self","pattern"] (aU (inClass (top 48) 5)):={}
theorem aaw(B:Bl mg)(F:ba K "fitting" "Book.fitting" (inClass (top 48) 5) f fd)(T:cG K C)(nw:bN K C "worths")(aax:Fn P w K mg base "words_fitting" 1 Ot):aO P w K mg base aQ 2 f fd ["self","pattern"] (Ox C):=by
 refine F.bH aav λaF A outer s H vs Q E hr h=>?_
 refine hide λG_ aG=>?_
 obtain⟨p,d,kvs,pt,rfl,S,hl,hpt,hk,q⟩:=h
 obtain⟨⟨dx,h1⟩,hd,nd,tx⟩:=id S
 refine aG.k ?_
 have kY:(aZ kvs).length=kvs.length:=by unfold aZ;rw[aq]
 refine⟨_,(az (aW (br EA (by rfl) B.xQ xk (ab (aY aax hr (ab (cH (pv 0) rfl) (ab (pv 1) ah))) ah)))),?_⟩
 try dsimp only[bC]
 refine⟨_,rfl,p,C,dx,_,_,rfl,h1,T,nw,uF _,_,rfl,d,kvs,pt,rfl,hd,tx,by lia,hpt,hk,λg H1 hg s1 hL=>?_⟩
 exact⟨g,_,rfl,ak.of hL,kq (ji _ _) (by lia),λl x8=>q l _ (s1.free x8) (s1.trans (af.upd x8)) au⟩
end
noncomputable def runC(op:C2->Bool)(d c:C2):List C2:=if gj op d c=true then [] else line c d (runN op d 10 c)
theorem aay(op:C2->Bool)(d c:C2):bY op d c=if (runC op d c).length<2 then [] else runC op d c:=by
 unfold bY runC
 split
 .rfl
 .rw[uw]
noncomputable def cf(k:Nat):C2:=(k,1 - k)
noncomputable def ic(l:List Str)(w k n:Nat):List (List C2):=(((cells l.length w).take n).map (bY (bo l w) (cf k))).filter (λr=>!r.isEmpty)
theorem aaz{k:Nat}(hi:i<l.length)(hj:j<w):ic l w k (i*w+(j+1))=ic l w k (i*w+j)++if (bY (bo l w) (cf k) (i,j)).isEmpty=true then [] else [bY (bo l w) (cf k) (i,j)]:=by
 unfold ic
 rw[show i*w+(j+1)=i*w+j+1 from rfl,Np hi hj,dQ,kD,bQ,wb,dF,oQ]
 cases(bY (bo l w) (cf k) (i,j)).isEmpty <;> rfl
noncomputable def lr(l:List Str)(w k:Nat):List (List C2):=ic l w k (l.length*w)
noncomputable def aC(l:List Str)(w:Nat):List (List C2):=lr l w 0++lr l w 1
theorem BC(op:C2->Bool)(f:C2->List C2):∀(n:Nat) (cs:List C2),(di op f n cs).map (·.2)=(cs.map f).filter λr=>!r.isEmpty
 |n,[]=>rfl
 |n,c::r=>by
  unfold di
  rw[bQ,dF]
  cases h:(f c).isEmpty with
  |true=>
   rw[aA rfl,BC op f _ r]
   rfl
  |false=>
   rw[av bZ,bQ,BC op f _ r]
   rfl
theorem aaA{op:C2->Bool}(h:op c=false):bY op d c=[]:=by
 unfold bY
 have:runN op d 10 c=0:=by
  unfold runN
  rw[h,av bZ]
 rw[this]
 split
 .rfl
 .rw[aA (by decide)]
theorem Oy(d:C2):((b6 l w).map (bY (bo l w) d)).filter (λr=>!r.isEmpty)=((cells l.length w).map (bY (bo l w) d)).filter (λr=>!r.isEmpty):=by
 unfold b6
 have:∀cs:List C2,(∀c∈cs,c.1<l.length/\c.2<w)->((cs.filter (bW l)).map (bY (bo l w) d)).filter (λr=>!r.isEmpty)=(cs.map (bY (bo l w) d)).filter (λr=>!r.isEmpty):=by
  intro cs
  induction cs with
  |nil=>intro _;rfl
  |cons c r ih=>
   intro h
   have hc:=h c bG
   have ih:=ih λx m=>h x (bU _ m)
   rw[dF,bQ,dF]
   cases ho:bW l c with
   |true=>
    rw[aA rfl,bQ,dF,ih]
   |false=>
    rw[av bZ,ih,aaA (by rw[nX hc.1 hc.2];exact ho)]
    rfl
 exact this _ λc m=>rS m
theorem se(l:List Str)(w:Nat):aC l w=(dj l w).map (·.2):=by
 unfold aC lr ic dj nY nZ
 rw[dQ,BC,BC,Oy,Oy,eE (by rw[pQ];exact aN _)]
 rfl
def BD(g:Addr)(H:Hp)(r:List C2)(x:V):Prop := ∃p ys,x = .ref p/\p≠g/\H p=some (.lst ys)/\bz H r ys
theorem BD.mono{g:Addr}{H H':Hp}{r:List C2}{x:V}(s:af H H')(h:BD g H r x):BD g H' r x:=let ⟨p,ys,e,n,a,b⟩:=h;⟨p,ys,e,n,s _ _ a,b.mono s⟩
abbrev dI(g:Addr)(H:Hp):List (List C2)->List V->Prop:=Paired (BD g H)
theorem dI.mono{g:Addr}{H H':Hp}{rs:List (List C2)}{xs:List V}(s:af H H')(h:dI g H rs xs):dI g H' rs xs:=Paired.bJ h λ_ _ q=>q.mono s
theorem dI.off{g:Addr}{H H':Hp}{rs:List (List C2)}{xs:List V}(hg:∃o,H g=some (.lst o))(k:∀b o,b≠g->H b=some o->H' b=some o)(h:dI g H rs xs):dI g H' rs xs:=
 Paired.bJ h λ_ _ ⟨p,ys,e,n,a,b⟩=>⟨p,ys,e,n,k _ _ n a,bz.off hg k b⟩
section
variable{w:World}
def Oz(K:Frag):Sp:=λvs H Q _=>∃(a:Addr) (l:List Str) (w:Nat) (i j:Int),vs=[.ref a,.int i,.int j]/\ax K H a (l.map V.str)/\aV l w/\Q (.bl (jo l w i j)) H
theorem aaB:bp ["_law_sheet","_law_line","_law_column"] ["_law_sheet","_law_line","_law_column"] (aU (top 54)):={}
theorem aaC(B:Bl mg)(F:ba K "_law_open" "_law_open" (top 54) f fd):aO P w K mg base aQ 1 f fd ["_law_sheet","_law_line","_law_column"] (Oz K):=by
 refine F.bH aaB λaF A outer s H vs Q E hr h=>?_
 refine hide λG_ aG=>?_
 obtain⟨a,l,wd,i,j,rfl,hT,S,q⟩:=h
 obtain⟨x0,xU,NU,xV,_⟩:=S.row (i:=0) S.one
 refine aG.k ?_
 have h9:=S.nine
 have hw:=S.w9
 refine⟨_,(aw (bS (PW.pt (Ae (wO qU kK aJ (pv 1) (br dg (by rfl) B.b7 b0 (ab (pv 0) ah))) (Ad (wO qU kK aJ (pv 2) (br iZ (by rfl) B.b7 b0 (ab (bf cM (pv 0) aJ) ah))))))
  (az (aW (nA jQ (bf iX (bf cM (pv 0) (pv 1)) (pv 2)) dM)))
  bX)
  (az (aW gh))),?_⟩
 try dsimp only[bC]
 unfold jo at q
 refine⟨_,rfl,_,_,rfl,rfl,_,rfl,?_⟩
 by_cases h0:(0:Int)<=i
 .rw[aI h0] at q ⊢
  refine bt ⟨_,rfl,a,_,rfl,.inr hT,_,_,rfl,rfl,_,rfl,?_⟩
  rw[aq]
  by_cases h1:i<(l.length:Int)
  .rw[aI h1] at q ⊢
   refine bt ⟨_,rfl,_,_,rfl,rfl,_,rfl,?_⟩
   by_cases h2:(0:Int)<=j
   .rw[aI h2] at q ⊢
    refine bt ⟨_,rfl,a,_,0,.str x0,rfl,rfl,hT,mM xU,x0,rfl,fP (by lia),_,_,rfl,rfl,_,rfl,?_⟩
    rw[xV]
    by_cases h3:j<(wd:Int)
    .rw[aI h3] at q ⊢
     refine hide λG_ bc=>?_
     obtain⟨i',rfl⟩:=nh h0
     obtain⟨j',rfl⟩:=nh h2
     rw[fE,fE] at q
     obtain⟨x,hx,mx,lx,_,hj⟩:=S.row (i:=i') (by lia)
     refine bc.k ?_
     refine bt ⟨_,rfl,_,rfl,a,_,_,.str x,rfl,rfl,hT,mM hx,_,rfl,x,_,sg l (i',j'),rfl,rfl,fP (by lia),de (hj j' (by lia)),rfl,?_⟩
     rw[rW,NM]
     exact q
    .rw[aK h3] at q ⊢
     exact aR q
   .rw[aK h2] at q ⊢
    exact aR ⟨_,rfl,aR q⟩
  .rw[aK h1] at q ⊢
   exact aR (aR q)
 .rw[aK h0] at q ⊢
  exact aR ⟨_,rfl,aR (aR q)⟩
def OA(K:Frag)(a p:Addr)(H:Hp)(l:List Str)(wd:Nat)(c:C2)(k:Nat):Nat->St->Hp->Prop:=λm O H2=>∃n xs,m=10 - n/\n<=9/\O=[some (.ref a),some (.int (go c (cf k) n).1),some (.int (go c (cf k) n).2),some (.int k),some (.ref p)]/\af H H2/\
 H2 p=some (.lst xs)/\bz H2 (line c (cf k) n) xs/\∀j,j<n->bo l wd (go c (cf k) j)=true
def OB(K:Frag):Sp:=λvs H Q _=>∃(a:Addr) (l:List Str) (w:Nat) (c:C2) (k:Nat),vs=[.ref a,.int c.1,.int c.2,.int k]/\ax K H a (l.map V.str)/\aV l w/\k<=1/\
 ∀p xs H',H p=none->af H H'->H' p=some (.lst xs)->bz H' (runC (bo l w) (cf k) c) xs->Q (.ref p) H'
theorem BE:bp ["_law_sheet","_law_line","_law_column","_law_down","_law_cells"] ["_law_sheet","_law_line","_law_column","_law_down"] (aU (top 55)):={}
theorem aaD(F:ba K "_law_run" "_law_run" (top 55) f fd)(OC:Fn P w K mg base "_law_open" 1 (Oz K)):aO P w K mg base aQ 2 f fd ["_law_sheet","_law_line","_law_column","_law_down"] (OB K):=by
 refine F.bH BE λaF A outer s H vs Q E hr h=>?_
 refine hide λG_ aG=>?_
 obtain⟨a,l,wd,c,k,rfl,hT,S,hk,q⟩:=h
 refine aG.k ?_
 have h9:=S.nine
 have hw:=S.w9
 refine⟨_,(aw (aL 4 BE.nd (dN ah))
  (aw (bS (fK (aY OC hr (ab (pv 0) (ab (aT nz (pv 1) (pv 3)) (ab (aT fh (aT nz (pv 2) aJ) (pv 3)) ah)))))
  (az (aW (pv 4)))
  bX)
  (aw (Kx PassesOwn.never (fK (aY OC hr (ab (pv 0) (ab (pv 1) (ab (pv 2) ah)))))
  (aw (eZ (fm jj jF jG iA (pv 4) (ab (gC (ab (pv 1) (ab (pv 2) ah))) ah)))
   (aw (aL 1 BE.nd (aT fh (pv 1) (pv 3)))
   (az (aL 2 BE.nd (aT nz (aT fh (pv 2) aJ) (pv 3)))))))
  (az (aW (pv 4)))))),?_⟩
 try dsimp only[bC]
 refine⟨bA _,λp hp=>?_⟩
 have eU:=af.upd (o:=HO.lst []) hp
 have Gr:((1 - k:Nat):Int)=1 - (k:Int):=by lia
 have OD:=NQ l wd c (cf k)
 have e2:(c.2:Int) - (((cf k).2:Nat):Int)=(c.2:Int) - 1+(k:Int):=by show(c.2:Int) - ((1 - k:Nat):Int)=_;lia
 rw[e2] at OD
 refine⟨_,rfl,_,rfl,_,rfl,_,_,rfl,rfl,_,rfl,_,_,rfl,rfl,_,rfl,_,_,rfl,rfl,a,l,wd,_,_,rfl,eU.tup hT,S,_,rfl,?_⟩
 rw[show(c.1:Int) - (k:Int)=(c.1:Int) - (((cf k).1:Nat):Int) from rfl,OD]
 refine gY (λjX=>?_) (λjX=>?_)
 .refine⟨_,rfl,q p [] _ hp eU au ?_⟩
  unfold runC
  rw[aA jX]
  exact .nil
 .refine⟨OA K a p H l wd c k,⟨10,0,[],rfl,by lia,by rw[i7];rfl,eU,au,.nil,λj hj=>absurd hj (gQ _)⟩,?_⟩
  intro m O H2 aaE
  refine hide λG_ bc=>?_
  obtain⟨n,xs,rfl,hn,rfl,sm,hL,hC,ho⟩:=aaE
  refine bc.k ?_
  refine⟨_,rfl,_,rfl,_,rfl,a,l,wd,_,_,rfl,sm.tup hT,S,_,rfl,?_⟩
  rw[FT]
  have hlen:xs.length=n:=by rw[<-hC.length,uw]
  refine gY (λj6=>?_) (λj6=>?_)
  .have ZN:n<=8:=by
    obtain⟨o1,o2,_⟩:=pS j6
    simp only[go,cf] at o1 o2
    rcases(by lia:k=0\/k=1) with rfl | rfl
    .simp only[Nat.sub_zero,iT] at o2
     lia
    .simp only[iT] at o1
     lia
   refine⟨λO' H' =>∃m',m'<10 - n/\OA K a p H l wd c k m' O' H',λ_ _ z=>z,?_⟩
   refine⟨_,rfl,.inl ⟨rfl,_,ak.of hL⟩,_,rfl,_,rfl,by show 2<=sizeLine;decide,λt ht=>?_⟩
   have rY:t≠p:=bu (bB hL ht)
   have tt:=af.upd (o:=HO.tup [V.int ((go c (cf k) n).1:Nat),V.int ((go c (cf k) n).2:Nat)]) ht
   refine⟨p,xs,_,rfl,rfl,tt _ _ hL,uy (by lia),?_⟩
   refine⟨_,rfl,_,rfl,_,_,rfl,rfl,_,rfl,_,_,rfl,rfl,_,rfl,_,_,rfl,rfl,?_⟩
   refine⟨10 - (n+1),by lia,n+1,xs++[.ref t],rfl,by lia,?_,(sm.trans tt).jV hp,au,?_,?_⟩
   .rw[go_succ]
    have g1:(((go c (cf k) n).1+(cf k).1:Nat):Int)=((go c (cf k) n).1:Int)+(k:Int):=by show(((go c (cf k) n).1+k:Nat):Int)=_;lia
    have g2:(((go c (cf k) n).2+(cf k).2:Nat):Int)=((go c (cf k) n).2:Int)+1 - (k:Int):=by show(((go c (cf k) n).2+(1 - k):Nat):Int)=_;lia
    simp only[g1,g2]
    rfl
   .rw[Nr]
    have off:∀b o,b≠p->upd H2 t (HO.tup [V.int ((go c (cf k) n).1:Nat),V.int ((go c (cf k) n).2:Nat)]) b=some o->upd (upd H2 t (HO.tup [V.int ((go c (cf k) n).1:Nat),V.int ((go c (cf k) n).2:Nat)])) p (.lst (xs++[.ref t])) b=some o:=λb o hb z=>by rw[ao hb];exact z
    exact m6 (bz.off ⟨xs,tt _ _ hL⟩ off (hC.mono tt)) ⟨t,rfl,off _ _ rY au⟩
   .intro j hj
    rcases wy.mp hj with z | z
    .exact ho j z
    .rw[z];exact j6
  .have Bs:runN (bo l wd) (cf k) 10 c=n:=FD (by lia) ho (gS.mpr j6)
   refine⟨_,rfl,q p xs H2 hp sm hL ?_⟩
   unfold runC
   rw[av jX,Bs]
   exact hC
def BF(K:Frag):Sp:=λvs H Q _=>∃(a:Addr) (l:List Str) (w:Nat),vs=[.ref a]/\ax K H a (l.map V.str)/\aV l w/\
 ∀g xs H',H g=none->af H H'->H' g=some (.lst xs)->dI g H' (aC l w) xs->Q (.ref g) H'
theorem Gs(l:List Str)(w k n:Nat):(ic l w k n).length<=(cells l.length w).length:=by grind [cells,ic]
noncomputable def BG(l:List Str)(w:Nat):Nat->List (List C2)
 |0=>[]
 |1=>lr l w 0
 |_=>aC l w
noncomputable def mP(l:List Str)(w k n:Nat):List (List C2):=BG l w k++ic l w k n
theorem uI:bp ["_law_sheet","_law_rows_here","_law_down","_law_line","_law_column","_law_cells"] ["_law_sheet"] (aU (top 56)):={}
theorem aaF(B:Bl mg)(F:ba K "_law_rows" "_law_rows" (top 56) f fd)(aaG:Fn P w K mg base "_law_run" 2 (OB K)):aO P w K mg base aQ 3 f fd ["_law_sheet"] (BF K):=by
 refine F.bH uI λaF A outer s H vs Q E hr h=>?_
 refine hide λG_ aG=>?_
 obtain⟨a,l,wd,rfl,hT,S,q⟩:=h
 have h9:=S.nine
 have hw:=S.w9
 have nV:=xM S
 obtain⟨x0,xU,NU,xV,_⟩:=S.row (i:=0) S.one
 refine aG.k ?_
 refine⟨_,(aw (aL 1 uI.nd (dN ah))
  (aw (cF (kJ (by rfl) B.k9 (ab aJ ah)) (bK 2 uI.nd)
  (az (cF (kJ (by rfl) B.k9 (ab (br dg (by rfl) B.b7 b0 (ab (pv 0) ah)) ah)) (bK 3 uI.nd)
   (az (cF (kJ (by rfl) B.k9 (ab (br iZ (by rfl) B.b7 b0 (ab (bf cM (pv 0) aJ) ah)) ah)) (bK 4 uI.nd)
    (aw (aL 5 uI.nd (aY aaG hr (ab (pv 0) (ab (pv 3) (ab (pv 4) (ab (pv 2) ah))))))
     (az (bS (cg Um (br dg (by rfl) B.b7 b0 (ab (pv 5) ah)) aJ)
     (az (eZ (fm jj jF jG iA (pv 1) (ab (pv 5) ah))))
     bX))))))))
  (az (aW (pv 1))))),?_⟩
 try dsimp only[bC]
 refine⟨bA _,λg hg=>?_⟩
 have eU:=af.upd (o:=HO.lst []) hg
 have aaH:∀k n,(mP l wd k n).length<=300:=λk n=>by
  unfold mP
  have h1:=Gs l wd k n
  have h2:(lr l wd 0).length<=81:=bL (Gs l wd 0 _) nV
  have h3:(BG l wd k).length<=162:=by
   match k with
   |0=>exact bA _
   |1=>show(lr l wd 0).length<=_;lia
   |k+2=>
    show(aC l wd).length<=_
    unfold aC
    have h2:(lr l wd 1).length<=81:=bL (Gs l wd 1 _) nV
    rw[cE]
    lia
  rw[cE]
  lia
 refine⟨_,rfl,by decide,by decide,nO (n:=2) (λk O H2=>∃v2 v3 v4 v5 xs,O=[some (.ref a),some (.ref g),v2,v3,v4,v5]/\af H H2/\H2 g=some (.lst xs)/\dI g H2 (BG l wd k) xs)
  ⟨none,none,none,none,[],rfl,eU,au,.nil⟩ ?_ ?_⟩
 .intro k O H2 hk aaI
  refine hide λG_ bc=>?_
  obtain⟨v2,v3,v4,v5,xs,rfl,sm,hL,hC⟩:=aaI
  refine bc.k ?_
  refine⟨_,rfl,a,_,rfl,.inr (sm.tup hT),_,rfl,by rw[aq];lia,by rw[aq];lia,?_⟩
  rw[fE,aq]
  refine nO (λi O H3=>∃v3 v4 v5 xs,O=[some (.ref a),some (.ref g),some (.int k),v3,v4,v5]/\af H H3/\H3 g=some (.lst xs)/\dI g H3 (mP l wd k (i*wd)) xs)
   ⟨v3,v4,v5,xs,rfl,sm,hL,by unfold mP ic;rw[Nat.zero_mul,oU];simpa using hC⟩ ?_ ?_
  .intro i O H3 hi aaJ
   refine hide λG_ bT=>?_
   obtain⟨v3,v4,v5,ys,rfl,fQ,n0,jA⟩:=aaJ
   refine bT.k ?_
   refine⟨_,rfl,a,_,0,.str x0,rfl,rfl,fQ.tup hT,mM xU,x0,rfl,fP (by lia),_,rfl,by lia,by lia,?_⟩
   rw[fE,xV]
   refine nO (λj O H4=>∃v4 v5 xs,O=[some (.ref a),some (.ref g),some (.int k),some (.int i),v4,v5]/\af H H4/\H4 g=some (.lst xs)/\dI g H4 (mP l wd k (i*wd+j)) xs)
    ⟨v4,v5,ys,rfl,fQ,n0,jA⟩ ?_ ?_
   .intro j O H4 hj aaK
    refine hide λG_ cN=>?_
    obtain⟨v4,v5,zs,rfl,du,sf,x9⟩:=aaK
    refine cN.k ?_
    refine⟨_,rfl,_,rfl,_,rfl,_,rfl,a,l,wd,(i,j),k,rfl,du.tup hT,S,by lia,λp us H5 hp s5 hP OE=>?_⟩
    have ya:=s5 _ _ sf
    have OF:p≠g:=λz=>by rw[z,sf] at hp;cases hp
    have Gu:=OE.length
    have e1:mP l wd k (i*wd+(j+1))=mP l wd k (i*wd+j)++if (bY (bo l wd) (cf k) (i,j)).isEmpty=true then [] else [bY (bo l wd) (cf k) (i,j)]:=by
     unfold mP
     rw[aaz hi hj,tf]
    have e2:=aay (bo l wd) (cf k) (i,j)
    refine⟨_,rfl,p,_,rfl,.inl (ak.of hP),_,_,rfl,rfl,_,rfl,gY (λh1=>?_) (λh1=>?_)⟩
    .have h1:(1:Int)<(us.length:Int):=fF h1
     have hz:=x9.length
     have kO:=aaH k (i*wd+j)
     refine⟨_,rfl,.inl ⟨rfl,_,ak.of ya⟩,_,rfl,g,zs,_,rfl,rfl,ya,uy (by lia),?_⟩
     refine⟨_,_,_,rfl,(du.trans s5).jV hg,au,?_⟩
     rw[av (by lia)] at e2
     have cJ:(bY (bo l wd) (cf k) (i,j)).isEmpty=false:=by
      rw[e2]
      cases eW:runC (bo l wd) (cf k) (i,j) with
      |nil=>
       exfalso
       rw[eW] at Gu
       have Gu:0=us.length:=Gu
       lia
      |cons _ _=>rfl
     rw[e1,av (by rw[cJ];exact bZ),e2]
     have off:∀b o,b≠g->H5 b=some o->upd H5 g (.lst (zs++[.ref p])) b=some o:=λb o hb z=>by rw[ao hb];exact z
     exact m6 (dI.off ⟨zs,ya⟩ off (dI.mono s5 x9)) ⟨p,us,rfl,OF,off _ _ OF hP,bz.off ⟨zs,ya⟩ off OE⟩
    .have h1:¬(1:Int)<(us.length:Int):=λz=>h1 (aI z)
     rw[aA (by lia)] at e2
     refine⟨_,_,zs,rfl,du.trans s5,ya,?_⟩
     rw[e1,e2,aA (show([]:List C2).isEmpty=true from rfl),iQ]
     exact dI.mono s5 x9
   .intro O H4 aaL
    refine hide λG_ fR=>?_
    obtain⟨v4,v5,zs,rfl,du,sf,x9⟩:=aaL
    refine fR.k ?_
    refine⟨_,_,_,zs,rfl,du,sf,?_⟩
    rw[lM]
    exact x9
  .intro O H3 aaM
   refine hide λG_ oa=>?_
   obtain⟨v3,v4,v5,ys,rfl,fQ,n0,jA⟩:=aaM
   refine oa.k ?_
   refine⟨_,_,_,_,ys,rfl,fQ,n0,?_⟩
   have e3:mP l wd k (l.length*wd)=BG l wd (k+1):=by
    rcases(by lia:k=0\/k=1) with rfl | rfl
    .unfold mP
     exact Dl _
    .rfl
   rw[<-e3]
   exact jA
 .intro O H2 aaN
  refine hide λG_ og=>?_
  obtain⟨v2,v3,v4,v5,xs,rfl,sm,hL,hC⟩:=aaN
  refine og.k ?_
  exact⟨_,rfl,q g xs H2 hg sm hL hC⟩
end
noncomputable def putL(l:List Str):List C2->List Nat->List Str
 |c::cs,x::xs=>putL (setC l c x) cs xs
 |_,_=>l
theorem si(l:List Str):∀(cs:List C2) (xs:List Nat) (i:Nat) (c:C2) (x:Nat),cs[i]? = some c->xs[i]? = some x->putL l (cs.take (i+1)) (xs.take (i+1))=setC (putL l (cs.take i) (xs.take i)) c x:=by
 intro cs
 induction cs generalizing l with
 |nil=>intro xs i c x h;simp at h
 |cons d r ih=>
  intro xs i c x h1 h2
  cases xs with
  |nil=>simp at h2
  |cons y s=>
   cases i with
   |zero=>
    have h1:d=c:=by simpa using h1
    have h2:y=x:=by simpa using h2
    subst h1 h2
    rfl
   |succ i=>
    have h1:r[i]? = some c:=by simpa using h1
    have h2:s[i]? = some x:=by simpa using h2
    exact ih (setC l d y) s i c x h1 h2
theorem OG(l:List Str):∀(cs:List C2) (xs:List Nat),putL l (cs.take (min cs.length xs.length)) (xs.take (min cs.length xs.length))=putL l cs xs:=by
 intro cs
 induction cs generalizing l with
 |nil=>intro xs;simp[putL]
 |cons d r ih=>
  intro xs
  cases xs with
  |nil=>simp[putL]
  |cons y s=>
   have e:min (d::r).length (y::s).length=min r.length s.length+1:=by simp only[cQ];lia
   rw[e]
   exact ih (setC l d y) s
section
variable{w:World}
theorem Gv:bp ["_law_sheet","_law_cell","_law_sign","_law_lines","_law_line"] ["_law_sheet","_law_cell","_law_sign"] (aU (top 57)):={}
theorem aaO(B:Bl mg)(F:ba K "_law_with" "_law_with" (top 57) f fd):aO P w K mg base aQ 1 f fd ["_law_sheet","_law_cell","_law_sign"] (uD K):=by
 refine F.bH Gv λaF A outer s H vs Q E hr h=>?_
 refine hide λG_ aG=>?_
 obtain⟨a,b,l,wd,c,ch,rfl,hT,S,hb,h1,h2,q⟩:=h
 obtain⟨x,hx,mx,lx,pR,hj⟩:=S.row h1
 refine aG.k ?_
 have hw:=S.w9
 refine⟨_,(aw (aL 3 Gv.nd (gE rf (by rfl) B.pT pG (ab (pv 0) ah)))
  (aw (aL 4 Gv.nd (bf eQ (pv 3) (bf cM (pv 1) aJ)))
  (aw (pf (aT pq (aT pq (l3 ub (pv 4) l0 (jS (bf cM (pv 1) aJ))) (pv 2)) (l3 ub (pv 4) (jS (aT fh (bf cM (pv 1) aJ) aJ)) l0)) (tL (pv 3) (bf cM (pv 1) aJ) set_list))
  (az (aW (gE tT (by rfl) B.rV rC (ab (pv 3) ah))))))),?_⟩
 try dsimp only[bC]
 refine⟨_,rfl,a,_,rfl,.inr hT,λp hp=>?_⟩
 have t1:=af.upd (o:=HO.lst (l.map V.str)) hp
 have l1:(Txt.slice x none (some (c.2:Int))).length<=100:=bL (wg x _ _) (by lia)
 have l2:(Txt.slice x (some ((c.2:Int)+1)) none).length<=100:=bL (wg x _ _) (by lia)
 have jY:=t1.tup hb
 refine⟨_,rfl,_,rfl,b,_,0,.int c.1,rfl,rfl,jY,rfl,p,_,_,.str x,rfl,rfl,ak.of au,mM hx,?_⟩
 refine⟨_,rfl,_,rfl,b,_,1,.int c.2,rfl,rfl,jY,rfl,_,rfl,x,rfl,fP (by lia),_,rfl,_,_,rfl,rfl,fP (by show _+1<=_;lia),?_⟩
 refine⟨_,rfl,_,rfl,b,_,1,.int c.2,rfl,rfl,jY,rfl,_,_,rfl,rfl,_,rfl,x,rfl,fP (by lia),_,_,rfl,rfl,fP ?_,?_⟩
 .rw[<-bD,j5,cE,bD]
  show _+1+_<=_
  lia
 have eg:=FC (x:=x) (j:=c.2) (ch:=ch) (Ga (by lia)) (Gb (by lia))
 refine⟨_,rfl,_,rfl,b,_,0,.int c.1,rfl,rfl,jY,rfl,p,_,_,c.1,rfl,rfl,au,uc (by rw[aq];exact h1),?_⟩
 rw[eg,Kg]
 refine⟨_,rfl,p,_,rfl,.inl ⟨ak.of au,λt ht=>?_⟩⟩
 have sm:af H (upd H p (.lst ((l.map V.str).set c.1 (.str (bI x c.2 ch))))):=af.upd hp
 refine q t _ (sm.free ht) (sm.trans (af.upd ht)) ?_
 rw[au]
 unfold setC
 rw[bE hx,List.map_set]
def yb(K:Frag):Sp:=λvs H Q _=>∃(a t:Addr) (l:List Str) (w:Nat) (cs:List C2) (xs:List V),vs=[.ref a,.ref t]/\ax K H a (l.map V.str)/\aV l w/\H t=some (.lst xs)/\bz H cs xs/\cs.length<=100/\(∀c∈cs,c.1<l.length/\c.2<w)/\
 ∀H',af H H'->Q (.str (ar l cs)) H'
theorem aaP:bp ["_law_sheet","_law_cells"] ["_law_sheet","_law_cells"] (aU (top 62)):={}
theorem aaQ(F:ba K "_law_text" "_law_text" (top 62) f fd):aO P w K mg base aQ 1 f fd ["_law_sheet","_law_cells"] (yb K):=by
 refine F.bH aaP λaF A outer s H vs Q E hr h=>?_
 refine hide λG_ aG=>?_
 obtain⟨a,t,l,wd,cs,xs,rfl,hT,S,ht,hC,hlen,bb,q⟩:=h
 refine aG.k ?_
 have hlx:=hC.length
 have hw:=S.w9
 refine⟨_,(az (aW (fm Dw J3 Ka AO dM (ab (LR (js:=[0]) (ns:=["_law_sheet"]) (dn (pv 1)) rfl rfl rfl rfl (λ_ _ _ _=>ju) (λ_ _ _ _=>(bf iX (AV (K:=K) (rr:=wW) rfl cM (pv 2) (pv 0)) (pv 1)))) ah)))),?_⟩
 try dsimp only[bC]
 refine⟨rfl,_,rfl,t,rfl,⟨_,ak.of ht⟩,?_⟩
 refine WV (by lia) (ak.of ht) (λ_=>true) (λ_ i y _=>y = .str ⟨#[sg l (cs.getD i (0,0))]⟩) (λ_ _ _ _ _ _ _ _ h=>h) ?_ ?_
 .intro D i x H2 Z0 Z hD hx s2 _ k0 k1
  refine hide λG_ bc=>?_
  obtain⟨c,hc,b,rfl,hb⟩:=Paired.get hC hx
  have eV:=bb c (bh hc)
  obtain⟨y,hy,my,ly,_,hj⟩:=S.row eV.1
  refine bc.k ?_
  refine⟨b,_,_,rfl,ax.of (s2 _ _ hb),bt (B:=Z0 H2) ?_⟩
  exact⟨_,rfl,_,rfl,a,_,_,.str y,rfl,rfl,s2.tup hT,mM hy,_,rfl,y,_,_,rfl,rfl,fP (by lia),de (hj c.2 eV.2),k1 _ _ (af.cI _) rfl (by rw[bE hc])⟩
 .intro D ys H2 hD bw s2 pr
  rw[List.filter_eq_self.mpr (λ_ _=>rfl)] at pr
  have e:=mN pr
  rw[<-hlx,lb (λc=>V.str ⟨#[sg l c]⟩)] at e
  have e1:ys=((cs.map (sg l)).map λc=>(⟨#[c]⟩:Str)).map V.str:=by rw[e,jH,jH];rfl
  rw[e1] at bw
  refine⟨_,D,(cs.map (sg l)).map λc=>(⟨#[c]⟩:Str),rfl,rfl,.inl (ak.of bw),?_,?_⟩
  .rw[F9,aq,aq,pY]
   show _+_*0<=_
   lia
  .rw[pY,F8]
   exact q H2 s2
theorem BH(z:Int):iy iE.cps.toList (z % 26)=some (97+(z % 26).toNat)/\97<=97+(z % 26).toNat/\97+(z % 26).toNat<=122:=by
 have h1:=lP z (show(26:Int)≠0 by decide)
 have h2:=lQ z (show(0:Int)<26 by decide)
 obtain⟨k,hk⟩:=nh h1
 rw[hk,fE]
 have e:iE.cps.toList[k]? = some (97+k):=by
  rw[Bk,bq,qH (by lia)]
  rfl
 exact⟨de e,by lia,by lia⟩
def BI(K:Frag):Sp:=λvs H Q _=>∃(n:Int),vs=[.int n]/\Q (.str ⟨#[97+(n % 26).toNat]⟩) H
theorem aaR:bp ["_law_number"] ["_law_number"] (aU (top 60)):={}
theorem aaS(F:ba K "_law_letter" "_law_letter" (top 60) f fd):aO P w K mg base aQ 1 f fd ["_law_number"] (BI K):=by
 refine F.bH aaR λaF A outer s H vs Q E hr h=>?_
 obtain⟨n,rfl,q⟩:=h
 refine⟨_,(az (aW (bf iX dM (aT gy (pv 0) aJ)))),?_⟩
 try dsimp only[bC]
 exact⟨_,rfl,_,_,rfl,rfl,(by show(0:Int)<26;decide),iE,_,_,rfl,rfl,by decide,(BH _).1,q⟩
def OH(K:Frag):Sp:=λvs H Q _=>∃(a t:Addr) (l:List Str) (w:Nat) (cs:List C2) (xs:List V) (x:Str),vs=[.ref a,.ref t,.str x]/\H a=some (.tup (l.map V.str))/\eC l w/\H t=some (.tup xs)/\bz H cs xs/\(∀c∈cs,c.1<l.length/\c.2<w)/\
 ∀p H',af H H'->H' p=some (.tup ((putL l cs x.cps.toList).map V.str))->Q (.ref p) H'
theorem yc:bp ["sheet","cells","word","after","cell","letter"] ["sheet","cells","word"] (aU (top 27)):={}
theorem aaT(B:Bl mg)(F:ba K "put_word" "put_word" (top 27) f fd)(aaU:Fn P w K mg base "with_sign" 1 (uD K)):aO P w K mg base aQ 2 f fd ["sheet","cells","word"] (OH K):=by
 refine F.bH yc λaF A outer s H vs Q E hr h=>?_
 refine hide λG_ aG=>?_
 obtain⟨a,t,l,wd,cs,xs,x,rfl,hT,S,ht,hC,bb,q⟩:=h
 refine aG.k ?_
 have hlx:=hC.length
 have lx:x.cps.toList.length=x.length:=bD x
 refine⟨_,(aw (aL 3 yc.nd (pv 0))
  (aw (cF (xx .T .S (by rfl) B.xS (ab (pv 1) (ab (pv 2) ah))) (jn rfl (dG (bK 4 yc.nd) (dG (bK 5 yc.nd) jm)))
  (az (aL 3 yc.nd (aY aaU hr (ab (pv 3) (ab (pv 4) (ab (pv 5) ah)))))))
  (az (aW (pv 3))))),?_⟩
 try dsimp only[bC]
 refine⟨_,rfl,?_⟩
 refine⟨_,rfl,_,rfl,_,_,rfl,⟨_,t,rfl,ax.of ht⟩,⟨_,x,rfl,rfl⟩,?_⟩
 refine xy (K:=K) (k1 := .T) (k2 := .S) (xs:=xs) (ys:=x.cps.toList.map λc=>V.str ⟨#[c]⟩) (λi O H2=>∃p v4 v5,O=[some (.ref a),some (.ref t),some (.str x),some (.ref p),v4,v5]/\af H H2/\H2 p=some (.tup ((putL l (cs.take i) (x.cps.toList.take i)).map V.str))/\eC (putL l (cs.take i) (x.cps.toList.take i)) wd/\(putL l (cs.take i) (x.cps.toList.take i)).length=l.length)
  ⟨a,none,none,rfl,af.cI _,hT,S,rfl⟩ (λi O H2 _ h=>?_) ?_ ?_
 .refine hide λG_ bc=>?_
  obtain⟨p,v4,v5,rfl,sm,_⟩:=h
  refine bc.k ?_
  exact⟨⟨_,rfl,ax.of (sm _ _ ht)⟩,_,rfl,rfl⟩
 .intro i y cv p O H2 hy lu aaV hp
  refine hide λG_ bT=>?_
  obtain⟨p0,v4,v5,rfl,sm,hP,G,hl⟩:=aaV
  rw[bq] at lu
  obtain⟨c,hc,rfl⟩:=gu.mp lu
  obtain⟨cc,hcc,b,rfl,hb⟩:=Paired.get hC hy
  refine bT.k ?_
  have eV:=bb cc (bh hcc)
  have tp:=af.upd (o:=HO.tup [V.ref b,V.str ⟨#[c]⟩]) hp
  refine⟨p,_,rfl,ax.of au,rfl,_,_,rfl,_,_,rfl,rfl,?_⟩
  have s2:=sm.trans tp
  refine⟨_,rfl,_,rfl,_,rfl,p0,b,_,wd,cc,c,rfl,ax.of (tp _ _ hP),G,ax.of (s2 _ _ hb),by rw[hl];exact eV.1,eV.2,λt2 H3 fS s3 rM=>?_⟩
  rw[<-si l cs x.cps.toList i cc c hcc hc] at rM
  refine⟨t2,_,_,rfl,s2.trans s3,rM,?_,?_⟩
  .rw[si l cs x.cps.toList i cc c hcc hc]
   exact G.set (by rw[hl];exact eV.1) eV.2
  .rw[si l cs x.cps.toList i cc c hcc hc,dB]
   exact hl
 .intro O H2 aaW
  refine hide λG_ cN=>?_
  obtain⟨p,v4,v5,rfl,sm,hP,_⟩:=aaW
  refine cN.k ?_
  refine⟨_,rfl,q p H2 sm ?_⟩
  have e:=OG l cs x.cps.toList
  rw[lx,hlx] at e
  rw[aq,lx,e] at hP
  exact hP
def uJ(K:Frag):Sp:=λvs H Q _=>∃(a t:Addr) (l:List Str) (w:Nat) (cs:List C2) (xs:List V) (x:Str),vs=[.ref a,.ref t,.str x]/\H a=some (.tup (l.map V.str))/\eC l w/\H t=some (.lst xs)/\bz H cs xs/\(∀c∈cs,c.1<l.length/\c.2<w)/\
 ∀p H',af H H'->H' p=some (.tup ((putL l cs x.cps.toList).map V.str))->Q (.ref p) H'
theorem BJ:bp ["_law_sheet","_law_cells","_law_word_here","_law_cell","_law_letter_here"] ["_law_sheet","_law_cells","_law_word_here"] (aU (top 66)):={}
theorem aaX(B:Bl mg)(F:ba K "_law_put" "_law_put" (top 66) f fd)(sj:Fn P w K mg base "_law_with" 1 (uD K)):aO P w K mg base aQ 2 f fd ["_law_sheet","_law_cells","_law_word_here"] (uJ K):=by
 refine F.bH BJ λaF A outer s H vs Q E hr h=>?_
 refine hide λG_ aG=>?_
 obtain⟨a,t,l,wd,cs,xs,x,rfl,hT,S,ht,hC,bb,q⟩:=h
 refine aG.k ?_
 have hlx:=hC.length
 have lx:x.cps.toList.length=x.length:=bD x
 refine⟨_,(aw (cF (xx .L .S (by rfl) B.xS (ab (pv 1) (ab (pv 2) ah))) (jn rfl (dG (bK 3 BJ.nd) (dG (bK 4 BJ.nd) jm)))
  (az (aL 0 BJ.nd (aY sj hr (ab (pv 0) (ab (pv 3) (ab (pv 4) ah)))))))
  (az (aW (pv 0)))),?_⟩
 try dsimp only[bC]
 refine⟨_,rfl,_,rfl,_,_,rfl,⟨_,t,rfl,ak.of ht⟩,⟨_,x,rfl,rfl⟩,?_⟩
 refine xy (K:=K) (k1 := .L) (k2 := .S) (xs:=xs) (ys:=x.cps.toList.map λc=>V.str ⟨#[c]⟩) (λi O H2=>∃p v3 v4,O=[some (.ref p),some (.ref t),some (.str x),v3,v4]/\af H H2/\H2 p=some (.tup ((putL l (cs.take i) (x.cps.toList.take i)).map V.str))/\eC (putL l (cs.take i) (x.cps.toList.take i)) wd/\(putL l (cs.take i) (x.cps.toList.take i)).length=l.length)
  ⟨a,none,none,rfl,af.cI _,hT,S,rfl⟩ (λi O H2 _ h=>?_) ?_ ?_
 .refine hide λG_ bc=>?_
  obtain⟨p,v3,v4,rfl,sm,_⟩:=h
  refine bc.k ?_
  exact⟨⟨_,rfl,ak.of (sm _ _ ht)⟩,_,rfl,rfl⟩
 .intro i y cv p O H2 hy lu aaY hp
  refine hide λG_ bT=>?_
  obtain⟨p0,v3,v4,rfl,sm,hP,G,hl⟩:=aaY
  rw[bq] at lu
  obtain⟨c,hc,rfl⟩:=gu.mp lu
  obtain⟨cc,hcc,b,rfl,hb⟩:=Paired.get hC hy
  refine bT.k ?_
  have eV:=bb cc (bh hcc)
  have tp:=af.upd (o:=HO.tup [V.ref b,V.str ⟨#[c]⟩]) hp
  refine⟨p,_,rfl,ax.of au,rfl,_,_,rfl,_,_,rfl,rfl,?_⟩
  have s2:=sm.trans tp
  refine⟨_,rfl,_,rfl,_,rfl,p0,b,_,wd,cc,c,rfl,ax.of (tp _ _ hP),G,ax.of (s2 _ _ hb),by rw[hl];exact eV.1,eV.2,λt2 H3 fS s3 rM=>?_⟩
  rw[<-si l cs x.cps.toList i cc c hcc hc] at rM
  refine⟨t2,_,_,rfl,s2.trans s3,rM,?_,?_⟩
  .rw[si l cs x.cps.toList i cc c hcc hc]
   exact G.set (by rw[hl];exact eV.1) eV.2
  .rw[si l cs x.cps.toList i cc c hcc hc,dB]
   exact hl
 .intro O H2 aaZ
  refine hide λG_ cN=>?_
  obtain⟨p,v3,v4,rfl,sm,hP,_⟩:=aaZ
  refine cN.k ?_
  refine⟨_,rfl,q p H2 sm ?_⟩
  have e:=OG l cs x.cps.toList
  rw[lx,hlx] at e
  rw[aq,lx,e] at hP
  exact hP
end
noncomputable def oh(l:List Str):List Int:=l.map λx=>(x.length:Int) - (Txt.count x "#":Int)
noncomputable def yd(l:List Str)(w:Nat):Bool:=decide (((((aC l w).map (·.length)).sum:Nat):Int)=2*(oh l).sum)
structure sk(l:List Str)(w:Nat):Prop where
 sh:aV l w
 sg:∀x∈l,∀c∈x.cps.toList,c=35\/c=46
theorem aV.of(h1:1<=l.length)(h9:l.length<=9)(w1:1<=w)(w9:w<=9)(hl:∀x∈l,x.length=w)(hc:∀x∈l,∀c∈x.cps.toList,c=35\/c=46):aV l w:=
 ⟨h1,h9,w1,w9,hl,λx m c mc=>by rcases hc x m c mc with h | h <;> rw[h] <;> unfold rR <;> lia⟩
theorem aa0{P:Nat->Prop}(h:∀x∈l,∀d∈x.cps.toList,P d)(h1:c.1<l.length)(hP:P ch):∀x∈setC l c ch,∀d∈x.cps.toList,P d:=by
 intro x m d md
 unfold setC at m
 rcases J1 m with z | z
 .exact h x z d md
 .rw[z] at md
  have md:d∈(l.getD c.1 ⟨#[]⟩).cps.toList.take c.2++ch::(l.getD c.1 ⟨#[]⟩).cps.toList.drop (c.2+1):=by
   unfold bI at md
   simpa using md
  have hm:l.getD c.1 ⟨#[]⟩∈l:=by rw[bR,aS h1];exact m9 h1
  rcases cX.mp md with md | md
  .exact h _ hm d (tG md)
  .rcases b9.mp md with md | md
   .rw[md];exact hP
   .exact h _ hm d (SY md)
theorem sk.set(F:sk l w)(h1:c.1<l.length)(h2:c.2<w):sk (setC l c 35) w:=
 ⟨Bn F.sh h1 h2 (.inl rfl),aa0 (P:=λd=>d=35\/d=46) F.sg h1 (.inl rfl)⟩
theorem ye(n:Nat):(fN "." n).cps.toList=List.replicate n 46:=by
 show(List.replicate n (".":Str).cps.toList).flatten=_
 rw[show(".":Str).cps.toList=[46] from by decide +kernel]
 induction n with
 |zero=>rfl
 |succ n ih=>rw[oO,wa,ih,oO];rfl
theorem OI(h1:1<=h)(h4:h<=9)(w1:1<=w)(w4:w<=9):sk (List.replicate h (fN "." w)) w:=by
 have hs:∀x∈List.replicate h (fN "." w),∀c∈x.cps.toList,c=35\/c=46:=λx m c mc=>by
  rw[Kb m,ye] at mc
  exact .inr (Kb mc)
 refine⟨aV.of (by rw[qC];exact h1) (by rw[qC];lia) w1 (by lia) (λx m=>?_) hs,hs⟩
 rw[Kb m,<-bD,ye,qC]
theorem OJ{α:Type}(x:α):∀n:Nat,(List.replicate n [x]).flatten=List.replicate n x
 |0=>rfl
 |n+1=>by rw[oO,wa,OJ x n];rfl
theorem dIv(a b:Int):decide (V.int a=V.int b)=decide (a=b):=by grind
theorem uK{p:Addr}{o:HO}(_:af H (upd H p o)):upd H p o p=some o:=au
def j7(l:List Str)(w:Nat):Prop := ∀c:C2,c.1<l.length->c.2<w->(sg l c=35↔sg l (l.length - 1 - c.1,w - 1 - c.2)=35)
theorem BK(h1:c.1<h)(h2:c.2<w):sg (List.replicate h (fN "." w)) c=46:=by
 unfold sg
 have e1:(List.replicate h (fN "." w))[c.1]? = some (fN "." w):=by rw[SH,aA h1]
 rw[bE e1]
 rw[ye,bR,SH,aA h2]
 rfl
theorem aa1:j7 (List.replicate h (fN "." w)) w:=λc h1 h2=>by
 rw[qC] at h1 ⊢
 rw[BK h1 h2,BK (c:=(h - 1 - c.1,w - 1 - c.2)) (by show h - 1 - c.1<h;lia) (by show w - 1 - c.2<w;lia)]
theorem j7.set{l:List Str}{w:Nat}(S:aV l w)(Y:j7 l w){c:C2}(h1:c.1<l.length)(h2:c.2<w):j7 (setC (setC l c 35) (l.length - 1 - c.1,w - 1 - c.2) 35) w:=by
 have G:=S.dC
 have G1:=G.set (ch:=35) h1 h2
 have t1:l.length - 1 - c.1<l.length:=by lia
 have t2:w - 1 - c.2<w:=by lia
 have key:∀d:C2,d.1<l.length->d.2<w->(sg (setC (setC l c 35) (l.length - 1 - c.1,w - 1 - c.2) 35) d=35↔d=c\/d=(l.length - 1 - c.1,w - 1 - c.2)\/sg l d=35):=λd d1 d2=>by
  rw[G1.lg (c:=(l.length - 1 - c.1,w - 1 - c.2)) (by rw[dB];exact t1) t2 (by rw[dB];exact d1) d2,G.lg h1 h2 d1 d2]
  by_cases e1:d=(l.length - 1 - c.1,w - 1 - c.2)
  .rw[aA e1]
   exact⟨λ_=>.inr (.inl e1),λ_=>rfl⟩
  .rw[av e1]
   by_cases e2:d=c
   .rw[aA e2]
    exact⟨λ_=>.inl e2,λ_=>rfl⟩
   .rw[av e2]
    exact⟨λz=>.inr (.inr z),λz=>by rcases z with z | z | z;exact absurd z e2;exact absurd z e1;exact z⟩
 intro d d1 d2
 rw[dB,dB] at d1 ⊢
 rw[key d d1 d2,key (l.length - 1 - d.1,w - 1 - d.2) (by show l.length - 1 - d.1<_;lia) (by show w - 1 - d.2<w;lia),Y d d1 d2]
 have a1:(d=c)↔((l.length - 1 - d.1,w - 1 - d.2)=(l.length - 1 - c.1,w - 1 - c.2)):=by
  constructor
  .intro z;rw[z]
  .intro z
   injection z with z1 z2
   exact ni (by lia) (by lia)
 have a2:(d=(l.length - 1 - c.1,w - 1 - c.2))↔((l.length - 1 - d.1,w - 1 - d.2)=c):=by
  constructor
  .intro z
   rw[z]
   exact ni (by show l.length - 1 - (l.length - 1 - c.1)=c.1;lia) (by show w - 1 - (w - 1 - c.2)=c.2;lia)
  .intro z
   rw[<-z]
   exact ni (by show d.1=l.length - 1 - (l.length - 1 - d.1);lia) (by show d.2=w - 1 - (w - 1 - d.2);lia)
 rw[a1,a2]
 constructor
 .rintro(z | z | z)
  .exact .inr (.inl z)
  .exact .inl z
  .exact .inr (.inr z)
 .rintro(z | z | z)
  .exact .inr (.inl z)
  .exact .inl z
  .exact .inr (.inr z)
theorem aa2{sp:Nat}(hw:0<w)(hs:sp<h*w):(h*w - 1 - sp) / w=h - 1 - sp / w/\(h*w - 1 - sp) % w=w - 1 - sp % w:=by
 have e:=Nat.div_add_mod sp w
 have hm:=Nat.mod_lt sp hw
 have hd:sp / w<h:=J0 (by rw[qD];exact hs)
 obtain⟨k,hk⟩:∃k,h=sp / w+1+k:=⟨h - (sp / w+1),by lia⟩
 have e3:h*w - 1 - sp=(w - 1 - sp % w)+w*k:=by
  have e4:h*w=w*(sp / w)+w+w*k:=by rw[hk,Nat.add_mul,Nat.add_mul,Nat.one_mul,qD (sp / w) w,qD k w]
  lia
 have e5:h - 1 - sp / w=k:=by lia
 rw[e3,e5]
 exact⟨by rw[Nat.add_mul_div_left _ _ hw,Nat.div_eq_of_lt (by lia),m7],by rw[Nat.add_mul_mod_self_left,Nat.mod_eq_of_lt (by lia)]⟩
theorem aa3:∀h∈[4,5,6,7,8,9],∀w∈[4,5,6,7,8,9],yd (List.replicate h (fN "." w)) w=true:=by decide +kernel
theorem OK{c:Nat}(h1:97<=c)(h2:c<=122):c∈iE.cps.toList:=by
 rw[Bk]
 exact bM.mpr ⟨c - 97,dP.mpr (by lia),by lia⟩
theorem aa4{y:Str}(h1:iH x=true)(h2:iH y=true):iH (x++y)=true:=by
 unfold iH at *
 rw[j5,List.all_append,h1,h2]
 rfl
theorem OL(h1:2<=x.length)(h2:x.length<=9)(h3:iH x=true):cB x=true:=by grind [iH,cB]
theorem aa5{c:Nat}(h:c∈iE.cps.toList):iH ⟨#[c]⟩=true:=by grind [iE,iH]
theorem OM(ns:List Int)(lo hi:Option Int):∀y∈gV (ns.map V.int) lo hi,∃z,y=V.int z:=λy m=>by
 unfold gV at m
 obtain⟨z,_,e⟩:=bM.mp (SY (tG m))
 exact⟨z,e.symm⟩
theorem aa6(h:iY (.str x) (ps.map V.str)=false):x∉ps:=λm=>by
 unfold iY at h
 rw[Dx] at h
 have:=JG.mp h x m
 exact this (by show gW (.str x) (.str x)=true;simp[gW])
def yf(m:List Str)(w:Nat):Prop := ∀c:C2,c.1<m.length->c.2<w->bW m c=true->97<=sg m c/\sg m c<=122
theorem aa7{k:Nat}(S:aV l w)(hk:k<=1):(bY (bo l w) (cf k) c).length<=9:=by
 have h9:=S.nine
 have hw:=S.w9
 unfold bY
 split
 .exact bA _
 .split
  .exact bA _
  .rw[uw]
   rcases wu 9 (runN (bo l w) (cf k) 10 c) with z | z
   .exfalso
    have:=pS (F6 z)
    unfold go cf at this
    dsimp only at this
    have e:k=0\/k=1:=by lia
    rcases e with e | e <;> subst e <;> lia
   .exact z
theorem aa8{op:C2->Bool}(h:(bY op d c).isEmpty=false):2<=(bY op d c).length:=by
 unfold bY at h ⊢
 split at h
 .cases h
 .split at h
  .cases h
  .rw[av (by assumption),av (by assumption),uw]
   lia
theorem ON{k:Nat}(S:aV l w)(hk:k<=1)(h:r∈ic l w k n):2<=r.length/\r.length<=9:=by
 unfold ic at h
 have h:=b8.mp h
 obtain⟨c,_,e⟩:=bM.mp h.1
 subst e
 exact⟨aa8 (by simpa using h.2),aa7 S hk⟩
theorem fT(S:aV l w)(h:r∈aC l w):2<=r.length/\r.length<=9/\∀c∈r,c.1<l.length/\c.2<w/\bW l c=true:=by
 have a:2<=r.length/\r.length<=9:=by
  unfold aC at h
  rcases cX.mp h with z | z
  .exact ON S (by decide) z
  .exact ON S (by decide) z
 refine⟨a.1,a.2,?_⟩
 rw[se] at h
 obtain⟨q,hq,e⟩:=bM.mp h
 rw[<-e]
 exact(F7 hq).2
theorem dJ(l:List Str)(cs:List C2):(ar l cs).length=cs.length:=by
 rw[<-bD]
 unfold ar
 simp
theorem aa9(S:aV m w)(L:yf m w)(h:r∈aC m w):cB (ar m r)=true:=by
 obtain⟨h2,h9,bb⟩:=fT S h
 refine OL (by rw[dJ];exact h2) (by rw[dJ];exact h9) ?_
 unfold iH ar
 rw[kr]
 intro c mc
 have mc:c∈r.map (sg m):=by simpa using mc
 obtain⟨d,hd,e⟩:=bM.mp mc
 have hb:=bb d hd
 have:=L d hb.1 hb.2.1 hb.2.2
 rw[<-e]
 exact aI (OK this.1 this.2)
theorem OO(h:ps.Nodup)(hn:x∉ps):(ps++[x]).Nodup:=by grind
noncomputable def ai(rs:List (List C2))(i:Nat):List C2:=rs.getD i []
noncomputable def oi(l:List Str)(rs:List (List C2))(pl:Nat):List Str:=((List.range rs.length).filter λi=>!decide (i=pl)).map λi=>ar l (ai rs i)
noncomputable def c6(l:List Str)(rs:List (List C2))(pl:Nat)(ks:List Str):List Str:=(cn (ks.filter λx=>cz x (ar l (ai rs pl)))).filter λx=>!decide (x∈oi l rs pl)
theorem yg(l:List Str)(w:Nat):(aC l w).length=(dj l w).length:=by rw[se,aq]
theorem dIn(i j:Nat):decide (V.int (i:Int)=V.int (j:Int))=decide (i=j):=by grind
theorem yh(x:Str)(ps:List Str):iY (.str x) (ps.map V.str)=decide (x∈ps):=by
 by_cases h:x∈ps
 .rw[aI h]
  cases e:iY (.str x) (ps.map V.str) with
  |true=>rfl
  |false=>exact absurd h (aa6 e)
 .rw[aK h]
  unfold iY
  rw[Dx,JG]
  intro y hy e
  have e:gW (.str x) (.str y)=true\/gW (.str y) (.str x)=true := .inr e
  have:x=y:=by rcases e with e | e <;> simp[gW] at e <;> simp[e]
  exact h (this ▸ hy)
theorem aba(l:List Str)(p:Str->Bool):cn (l.filter p)=(cn l).filter p:=AW ((gH l).filter p) ((Ez l).filter p)
noncomputable def yi(l:List Str)(rs:List (List C2))(pl j:Nat):Bool := !decide (j=pl) && !decide (46∈(ar l (ai rs j)).cps.toList)
noncomputable def ie(l:List Str)(rs:List (List C2))(pl i:Nat):List Str:=((List.range i).filter (yi l rs pl)).map λj=>ar l (ai rs j)
theorem abb(l:List Str)(rs:List (List C2))(pl i:Nat):ie l rs pl (i+1)=ie l rs pl i++if yi l rs pl i=true then [ar l (ai rs i)] else []:=by
 unfold ie
 rw[ku,kD,dQ,dF,oQ]
 cases yi l rs pl i <;> rfl
theorem abc(hx:46∉x.cps.toList):x∈ie l rs pl rs.length↔x∈oi l rs pl:=by
 unfold ie oi yi
 constructor
 .intro h
  obtain⟨j,hj,e⟩:=bM.mp h
  have hj:=b8.mp hj
  rw[eY] at hj
  exact bM.mpr ⟨j,b8.mpr ⟨hj.1,hj.2.1⟩,e⟩
 .intro h
  obtain⟨j,hj,e⟩:=bM.mp h
  have hj:=b8.mp hj
  refine bM.mpr ⟨j,b8.mpr ⟨hj.1,?_⟩,e⟩
  rw[hj.2,e,aK hx]
  rfl
theorem abd(h:cB x=true):46∉x.cps.toList:=λm=>by
 unfold cB at h
 simp only[eY] at h
 have:=h.2.2
 unfold iH at this
 have:=fF (kr.mp this 46 m)
 rw[Bk] at this
 obtain⟨k,_,e⟩:=bM.mp this
 lia
noncomputable def jB(l:List Str)(rs:List (List C2))(pl:Nat)(x:Str):Bool:=cz x (ar l (ai rs pl)) && !decide (x∈ie l rs pl rs.length)
theorem abe(h:∀x∈ws,cB x=true):c6 l rs pl ws=cn (ws.filter (jB l rs pl)):=by
 unfold c6
 rw[<-aba,List.filter_filter]
 congr 1
 apply List.filter_congr
 intro x mx
 unfold jB
 have:=abc (l:=l) (rs:=rs) (pl:=pl) (abd (h x mx))
 rw[Bool.and_comm]
 congr 2
 by_cases z:x∈oi l rs pl
 .rw[aI z,aI (this.mpr z)]
 .rw[aK z,aK (λy=>z (this.mp y))]
theorem abf{ws:List α}{x:α}(hx:ws[i]? = some x)(f:α->Bool):(ws.take (i+1)).filter f=(ws.take i).filter f++if f x=true then [x] else []:=by
 rw[eD,hx,kD]
 show _++[x].filter f=_
 rw[dF,oQ]
noncomputable def uL(x t:Str)(i:Nat):Bool := !lh (x.cps.toList.getD i 0) (t.cps.toList.getD i 0)
theorem abg{t:Str}(h:x.length=t.length):cz x t=decide ((List.range t.length).filter (uL x t)=[]):=by
 unfold cz
 rw[aI h,zT,h]
 by_cases z:(List.range t.length).filter (uL x t)=[]
 .rw[aI z,kr]
  intro i mi
  have:=S0.mp z i mi
  unfold uL at this
  simpa using this
 .rw[aK z,gS]
  intro y
  refine z (S0.mpr λi mi=>?_)
  have:=kr.mp y i mi
  unfold uL
  rw[this]
  decide
theorem Gw(K:Frag)(H:Hp):∀is:List Nat,dh K H (is.map λ(i:Nat)=>D.int (0+(i:Int))) (is.map λ(i:Nat)=>V.int (0+(i:Int)))
 |[]=>rfl
 |i::r=>⟨.int (0+(i:Int)),r.map λ(i:Nat)=>V.int (0+(i:Int)),rfl,rfl,Gw K H r⟩
theorem OP(is:List Nat):dep (.lst (is.map λ(i:Nat)=>D.int (0+(i:Int))))<=50:=by
 have:dO (is.map λ(i:Nat)=>D.int (0+(i:Int)))=0:=by
  induction is with
  |nil=>rfl
  |cons x r ih=>rw[bQ,dO,ih];rfl
 rw[dep,this]
 decide
theorem OQ(is:List Nat):dH (.lst (is.map λ(i:Nat)=>D.int (0+(i:Int)))) (.lst [])=decide (is=[]):=by
 cases is <;> rfl
theorem abh(c d:Nat):decide ((⟨#[d]⟩:Str)∈[(".":Str),⟨#[c]⟩])=lh c d:=by
 rw[Oj]
 unfold lh
 have e:∀a b:Nat,((⟨#[a]⟩:Str)=⟨#[b]⟩)↔a=b:=λa b=>⟨λz=>(List.cons.inj (show [a]=[b] from eX (λy:Str=>y.cps.toList) z)).1,λz=>by rw[z]⟩
 rw[<-Bool.decide_or]
 congr 1
 rw[b9,cb,e,e]
theorem OR(h:((List.range n).map λ(i:Nat)=>V.int (0+(i:Int)))[i]? = some v):i<n/\v = .int (0+(i:Int)):=by grind
noncomputable def dw(l:List Str)(w:Nat):List Str:=(aC l w).map (ar l)
noncomputable def fU(l:List Str):Bool:=l.any λx=>decide (46∈x.cps.toList)
noncomputable def eN(ks:List Str)(l:List Str)(w:Nat):Bool := !fU l&&(decide (dw l w).Nodup&&(dw l w).all λx=>decide (x∈ks))
theorem OS(h1:c.1<h)(h2:c.2<w):c∈cells h w:=bh (xK (w:=w) h1 h2)
theorem Gx(t:mf kvs)(x:Str):(aP kvs (Sum.inr x:Key)).isSome=decide (x∈aZ kvs):=by
 cases e:aP kvs (Sum.inr x:Key) with
 |none=>
  refine(aK λm=>LA e ?_).symm
  unfold aZ at m
  obtain⟨q,hq,eq⟩:=bM.mp m
  obtain⟨y,ey⟩:=t q hq
  rw[ey] at eq
  have eq:y=x:=eq
  exact bM.mpr ⟨q,hq,by rw[ey,eq]⟩
 |some v=>
  refine(aI ?_).symm
  obtain⟨q,hq,e1⟩:=bM.mp (LB e)
  unfold aZ
  exact bM.mpr ⟨q,hq,by rw[e1]⟩
theorem abi(v:V)(e:aP kvs (Sum.inr x:Key)=none):aZ (putK kvs (Sum.inr x) v)=aZ kvs++[x]:=by
 rw[tV v e]
 unfold aZ
 rw[dQ]
 rfl
theorem abj(n:x∉aZ kvs):aP kvs (Sum.inr x:Key)=none:=by
 cases e:aP kvs (Sum.inr x:Key) with
 |none=>rfl
 |some v=>
  refine absurd ?_ n
  have m:=LB e
  obtain⟨q,hq,e1⟩:=bM.mp m
  unfold aZ
  exact bM.mpr ⟨q,hq,by rw[e1]⟩
theorem uM(kvs:List (Key×V)):(aZ kvs).length=kvs.length:=by unfold aZ;rw[aq]
theorem OT(h1:fU l=false)(h2:(dw l w).Nodup)(h3:∀x∈dw l w,x∈ks):eN ks l w=true:=by grind [fU,eN,dw]
theorem Gy(h:eN ks l w=true):fU l=false/\(dw l w).Nodup/\∀x∈dw l w,x∈ks:=by grind [fU,eN,dw]
theorem abk(l:List Str)(w:Nat):(dw l w).length=(dj l w).length:=by unfold dw;rw[aq,se,aq]
def uN(kvs:List (Key×V)):Prop := ∀q∈kvs,∃n,q.2=V.int n
noncomputable def uO(kvs:List (Key×V))(x:Str):Int:=match aP kvs (Sum.inr x:Key) with | some (.int n)=>n | _=>0
theorem abl{k:Key}(h:aP kvs k=some v):∃q∈kvs,q.1=k/\q.2=v:=by
 unfold aP at h
 cases e:kvs.find? (λkv=>decide (kv.1=k)) with
 |none=>rw[e] at h;cases h
 |some q=>
  rw[e] at h
  exact⟨q,List.mem_of_find?_eq_some e,fF (by simpa using List.find?_some e),dm h⟩
theorem abm(t:mf kvs)(hi:uN kvs)(m:x∈aZ kvs):aP kvs (Sum.inr x:Key)=some (.int (uO kvs x)):=by
 have:=Gx t x
 rw[aI m] at this
 cases e:aP kvs (Sum.inr x:Key) with
 |none=>rw[e] at this;cases this
 |some v=>
  obtain⟨q,hq,_,e2⟩:=abl e
  obtain⟨n,en⟩:=hi q hq
  have ev:v = .int n:=by rw[<-e2,en]
  unfold uO
  rw[e,ev]
section
variable{w:World}
def BL(K:Frag):Sp:=λvs H Q _=>∃(ww g a:Addr) (ws:List Str) (l:List Str) (w pl:Nat) (zs:List V),vs=[.ref ww,.ref g,.ref a,.int pl]/\H ww=some (.lst (ws.map V.str))/\ws.length<64/\(∀x∈ws,cB x=true)/\ax K H a (l.map V.str)/\aV l w/\H g=some (.lst zs)/\dI g H (aC l w) zs/\pl<(aC l w).length/\
 ∀t H',H t=none->af H H'->H' t=some (.lst ((c6 l (aC l w) pl ws).map V.str))->Q (.ref t) H'
theorem pZ:bp ["_law_words","_law_rows_here","_law_sheet","_law_place","_law_text_here","_law_taken","_law_k","_law_other","_law_found","_law_word_here","_law_wrong"] ["_law_words","_law_rows_here","_law_sheet","_law_place"] (aU (top 65)):={}
theorem abn(B:Bl mg)(F:ba K "_law_left" "_law_left" (top 65) f fd)(oj:Fn P w K mg base "_law_text" 1 (yb K)):aO P w K mg base aQ 2 f fd ["_law_words","_law_rows_here","_law_sheet","_law_place"] (BL K):=by
 refine F.bH pZ λaF A outer s H vs Q E hr h=>?_
 refine hide λG_ aG=>?_
 obtain⟨ww,g,a,ws,l,wd,pl,zs,rfl,hW,da,qb,hT,S,hG,hR,bj,q⟩:=h
 refine aG.k ?_
 have hu:=hr.units
 refine⟨_,(aw (aL 4 pZ.nd (aY oj hr (ab (pv 2) (ab (bf eQ (pv 1) (pv 3)) ah))))
  (aw (aL 5 pZ.nd (dN ah))
  (aw (cF (kJ (by rfl) B.k9 (ab (br dg (by rfl) B.b7 b0 (ab (pv 1) ah)) ah)) (bK 6 pZ.nd)
  (aw (aL 7 pZ.nd (aY oj hr (ab (pv 2) (ab (bf eQ (pv 1) (pv 6)) ah))))
   (az (bS (PW.pt (Ae (cg jQ (pv 6) (pv 3)) (Ad (cg KN dM (pv 7)))))
   (az (eZ (fm jj jF jG iA (pv 5) (ab (pv 7) ah))))
   bX))))
  (aw (aL 8 pZ.nd (dN ah))
  (aw (cF (dn (pv 0)) (bK 9 pZ.nd)
  (az (bS (PW.pt (Ae (cg lW (br iZ (by rfl) B.b7 b0 (ab (pv 9) ah)) (br iZ (by rfl) B.b7 b0 (ab (pv 4) ah))) (Ad (cg w6 (pv 9) (pv 5)))))
   (aw (t9 (i:=10) pZ.nd rfl (Or.inl rfl) (js:=[4,9]) (ns:=["_law_text_here","_law_word_here"]) (kJ (by rfl) B.k9 (ab (br iZ (by rfl) B.b7 b0 (ab (pv 4) ah)) ah)) rfl rfl rfl rfl (λ_ _ _ _=>(nK (Ey (K:=K) (rr:=λK=>wZ K true) rfl w6 (bf iX (pv 1) (pv 0)) (dN (ab dM (ab (bf iX (pv 2) (pv 0)) ah)))))) (λ_ _ _ _=>(pv 0)))
    (az (bS (cg (LV hu) (pv 10) (dN ah))
    (az (eZ (fm jj jF jG iA (pv 8) (ab (pv 9) ah))))
    bX)))
   bX)))
  (az (aW (br EA (by rfl) B.xQ xk (ab (pv 8) ah))))))))),?_⟩
 try dsimp only[bC]
 have sr:=hR.length
 have j8:=r8 S
 rw[<-yg] at j8
 rw[abe qb] at q
 refine hide λG_ bc=>?_
 obtain⟨v0,OU⟩:∃v,zs[pl]? = some v:=⟨_,aS (by lia)⟩
 obtain⟨r0,hr0,p0,j9,rfl,_,gm,hc0⟩:=Paired.get hR OU
 refine bc.k ?_
 have Gz:=fT S (bh hr0)
 have e0:ai (aC l wd) pl=r0:=bE hr0
 refine⟨_,rfl,_,rfl,_,rfl,g,_,_,.ref p0,rfl,rfl,ak.of hG,de OU,a,p0,l,wd,r0,j9,rfl,hT,S,gm,hc0,by lia,λc hc=>⟨(Gz.2.2 c hc).1,(Gz.2.2 c hc).2.1⟩,λH1 s1=>?_⟩
 rw[<-e0]
 have Nm:(ar l (ai (aC l wd) pl)).length<=9:=by rw[e0,dJ];exact Gz.2.1
 refine⟨bA _,λtk gB=>?_⟩
 have abo:=s1.free gB
 have i8:=s1.trans (af.upd (o:=HO.lst []) gB)
 have GA:=uK (af.upd (o:=HO.lst []) gB)
 revert i8 GA
 generalize upd H1 tk (.lst [])=H2
 intro i8 GA
 refine⟨_,rfl,g,_,rfl,.inl (ak.of (i8 _ _ hG)),_,rfl,by lia,by lia,?_⟩
 rw[fE,<-sr]
 refine nO (λi O H2=>∃(v6 v7:Option V),O=[some (.ref ww),some (.ref g),some (.ref a),some (.int pl),some (.str (ar l (ai (aC l wd) pl))),some (.ref tk),v6,v7,none,none,none]/\af H H2/\H2 tk=some (.lst ((ie l (aC l wd) pl i).map V.str)))
  ⟨none,none,rfl,i8,GA⟩ ?_ ?_
 .intro i O H3 hi abp
  refine hide λG_ bT=>?_
  obtain⟨v6,v7,rfl,sm,BM⟩:=abp
  obtain⟨v,hv⟩:∃v,zs[i]? = some v:=⟨_,aS (by lia)⟩
  obtain⟨r,eW,p,ys,rfl,_,hp,hc⟩:=Paired.get hR hv
  refine bT.k ?_
  have bb:=fT S (bh eW)
  have er:ai (aC l wd) i=r:=bE eW
  refine⟨_,rfl,_,rfl,_,rfl,g,_,_,.ref p,rfl,rfl,ak.of (sm _ _ hG),de hv,a,p,l,wd,r,ys,rfl,sm.tup hT,S,sm _ _ hp,hc.mono sm,by lia,λc hc=>⟨(bb.2.2 c hc).1,(bb.2.2 c hc).2.1⟩,λH4 s4=>?_⟩
  have du:=sm.trans s4
  have BN:=s4 _ _ BM
  have ef:(!(Builtin.Str.occurrences (ar l r) (Str.ofString ".") 0 (ar l r).length 1).isEmpty)=decide (46∈(ar l r).cps.toList):=by
   rw[rX]
   exact zU (ar l r) 46
  have et:=abb l (aC l wd) pl i
  unfold yi at et
  rw[er] at et
  refine⟨_,rfl,_,rfl,rfl,_,rfl,?_⟩
  rw[dIn]
  by_cases OV:i=pl
  .rw[aI OV] at et ⊢
   refine aR (aR ⟨_,_,rfl,du,?_⟩)
   rw[et]
   show H4 tk=some (.lst ((ie l (aC l wd) pl i++[]).map V.str))
   rw[iQ]
   exact BN
  .rw[aK OV] at et ⊢
   refine bt ⟨_,rfl,_,_,rfl,rfl,_,rfl,?_⟩
   rw[ef]
   by_cases cC:46∈(ar l r).cps.toList
   .rw[aI cC] at et ⊢
    refine aR ⟨_,_,rfl,du,?_⟩
    rw[et]
    show H4 tk=some (.lst ((ie l (aC l wd) pl i++[]).map V.str))
    rw[iQ]
    exact BN
   .rw[aK cC] at et ⊢
    have eG:(ie l (aC l wd) pl i).length<=i:=by
     unfold ie
     rw[aq]
     exact bL (ji _ _) (by rw[gR];exact aN _)
    refine bt ⟨_,rfl,.inl ⟨rfl,_,ak.of BN⟩,_,rfl,tk,_,_,rfl,rfl,BN,Oc (by rw[aq];lia),?_⟩
    refine⟨_,_,rfl,du.jV abo,?_⟩
    rw[au,et]
    show _=some (HO.lst ((ie l (aC l wd) pl i++[ar l r]).map V.str))
    rw[dQ]
    rfl
 .rintro O H3 ⟨v6,v7,rfl,sm,BM⟩
  refine⟨bA _,λfo dk=>?_⟩
  have abq:=sm.free dk
  have nft:fo≠tk:=λz=>by rw[z,BM] at dk;cases dk
  have BO:=sm.trans (af.upd (o:=HO.lst []) dk)
  have GB:=(af.upd (o:=HO.lst []) dk) _ _ BM
  have lz:=uK (af.upd (o:=HO.lst []) dk)
  revert BO GB lz
  generalize upd H3 fo (.lst [])=H4
  intro BO GB lz
  have fM:((ie l (aC l wd) pl (aC l wd).length).map V.str).all l4=true:=by rw[tu];exact kr.mpr λ_ _=>rfl
  refine⟨_,rfl,ww,rfl,⟨_,ak.of (BO _ _ hW)⟩,?_⟩
  refine iW (xs:=ws.map V.str) (λi O H2=>∃(v9 v10:Option V),O=[some (.ref ww),some (.ref g),some (.ref a),some (.int pl),some (.str (ar l (ai (aC l wd) pl))),some (.ref tk),v6,v7,some (.ref fo),v9,v10]/\af H H2/\H2 tk=some (.lst ((ie l (aC l wd) pl (aC l wd).length).map V.str))/\H2 fo=some (.lst (((ws.take i).filter (jB l (aC l wd) pl)).map V.str)))
   ⟨none,none,rfl,BO,GB,lz⟩ (λi O H2 _ ⟨_,_,_,sm',_⟩=>ak.of (sm' _ _ hW)) ?_ ?_
  .intro i y O H5 hy abr
   refine hide λG_ cN=>?_
   obtain⟨v9,v10,rfl,iG,BP,sy⟩:=abr
   refine cN.k ?_
   rw[bq] at hy
   cases e:ws[i]? with
   |none=>rw[e] at hy;cases hy
   |some x=>
    rw[e] at hy
    cases hy
    have hi:=(bP.mp e).1
    have d7:=BA (qb x (bh e))
    have ek:=abf e (jB l (aC l wd) pl)
    have same:∀H6 v10,af H5 H6->jB l (aC l wd) pl x=false->∃(v9 abt:Option V),[some (.ref ww),some (.ref g),some (.ref a),some (.int pl),some (.str (ar l (ai (aC l wd) pl))),some (.ref tk),v6,v7,some (.ref fo),some (V.str x),v10]=[some (.ref ww),some (.ref g),some (.ref a),some (.int pl),some (.str (ar l (ai (aC l wd) pl))),some (.ref tk),v6,v7,some (.ref fo),v9,abt]/\af H H6/\H6 tk=some (.lst ((ie l (aC l wd) pl (aC l wd).length).map V.str))/\H6 fo=some (.lst (((ws.take (i+1)).filter (jB l (aC l wd) pl)).map V.str)):=λH6 v10 s6 hb=>by
     refine⟨_,_,rfl,iG.trans s6,s6 _ _ BP,?_⟩
     rw[ek,hb,av bZ,iQ]
     exact s6 _ _ sy
    refine⟨_,rfl,x,rfl,dq (by lia),_,rfl,_,rfl,dq (by lia),rfl,_,rfl,?_⟩
    rw[Ou]
    by_cases hl:x.length=(ar l (ai (aC l wd) pl)).length
    .rw[aI hl]
     refine bt ⟨_,rfl,_,rfl,tk,_,rfl,.inl (ak.of BP),rfl,fM,_,rfl,?_⟩
     rw[yh,aA rfl]
     by_cases hm:x∈ie l (aC l wd) pl (aC l wd).length
     .rw[aI hm]
      exact aR (same H5 _ (af.cI _) (by unfold jB;rw[aI hm];simp))
     .rw[aK hm]
      refine bt ⟨_,rfl,_,rfl,dq (by lia),_,rfl,by lia,by lia,?_⟩
      rw[fE]
      generalize yj:ar l (ai (aC l wd) pl)=tx at *
      refine l7 L5 (by rw[aq,gR];lia) (uL x tx) (λ_ i y _=>y = .int (0+(i:Int))) (λ_ _=>trivial) (λ_ _ _ _ _ _ _ _ h=>h) ?_ ?_
      .intro D2 j v H6 Z0 Z ll hv s6 _ k0 k1
       obtain⟨hj,rfl⟩:=OR hv
       have Gq:x.cps.toList[j]? = some (x.cps.toList.getD j 0):=by
        rw[bR,aS (by rw[bD];lia)]
        rfl
       have Bj:tx.cps.toList[j]? = some (tx.cps.toList.getD j 0):=by
        rw[bR,aS (by rw[bD];lia)]
        rfl
       have a1:iy x.cps.toList (0+(j:Int))=some (x.cps.toList.getD j 0):=by rw[zI];exact de Gq
       have a2:iy tx.cps.toList (0+(j:Int))=some (tx.cps.toList.getD j 0):=by rw[zI];exact de Bj
       refine⟨_,rfl,_,rfl,tx,_,_,rfl,rfl,dq (by lia),a2,_,rfl,_,rfl,x,_,_,rfl,rfl,dq (by lia),a1,(by show 2<=sizeLine;decide),λlp gI=>?_⟩
       refine⟨lp,_,rfl,.inl (ak.of au),rfl,rfl,_,rfl,?_⟩
       have ei:iY (.str ⟨#[tx.cps.toList.getD j 0]⟩) [V.str (Str.ofString "."),V.str ⟨#[x.cps.toList.getD j 0]⟩]=lh (x.cps.toList.getD j 0) (tx.cps.toList.getD j 0):=by
        rw[<-abh]
        exact yh _ [(".":Str),⟨#[x.cps.toList.getD j 0]⟩]
       rw[ei,aA rfl]
       refine gY (λh=>?_) (λh=>?_)
       .exact⟨_,rfl,k1 _ _ (af.upd gI) h rfl⟩
       .exact k0 _ (af.upd gI) (gS.mpr h)
      .intro D2 ys H6 ll mO s6 n9
       have e2:=mN n9
       rw[aq,gR] at e2
       rw[e2] at mO
       refine⟨_,rfl,bA _,λen sD=>?_⟩
       have sE:=s6.trans (af.upd (o:=HO.lst []) sD)
       refine⟨.lst (((List.range tx.length).filter (uL x tx)).map λ(i:Nat)=>D.int (0+(i:Int))),.lst [],⟨D2,_,rfl,ak.of ((af.upd sD) _ _ mO),Gw _ _ _⟩,⟨en,_,rfl,ak.of au,rfl⟩,.inr ⟨_,_,rfl,rfl⟩,OP _,_,rfl,?_⟩
       rw[OQ,<-abg hl]
       refine gY (λh=>?_) (λh=>?_)
       .have h:cz x tx=true:=by simpa using h
        have hb:jB l (aC l wd) pl x=true:=by
         unfold jB
         rw[yj,h,aK hm]
         rfl
        have uP:=sE _ _ sy
        have:=ji (jB l (aC l wd) pl) (ws.take i)
        have:=List.length_take_le i ws
        refine⟨_,rfl,.inl ⟨rfl,_,ak.of uP⟩,_,rfl,fo,_,_,rfl,rfl,uP,Oc (by rw[aq];lia),?_⟩
        refine⟨_,_,rfl,(iG.trans sE).jV abq,by rw[ao (bu nft)];exact sE _ _ BP,?_⟩
        rw[au,ek,hb,aA rfl,dQ]
        rfl
       .have h:cz x tx=false:=by simpa using h
        exact same _ _ sE (by unfold jB;rw[yj,h];rfl)
    .rw[aK hl]
     exact aR (aR (same H5 _ (af.cI _) (by unfold jB cz;rw[aK hl];rfl)))
  .intro O H5 abu
   refine hide λG_ fR=>?_
   obtain⟨v9,v10,rfl,iG,BP,sy⟩:=abu
   refine fR.k ?_
   rw[aq,eE (aN _)] at sy
   have:=ji (jB l (aC l wd) pl) ws
   exact⟨_,rfl,fo,_,rfl,ak.of sy,by lia,λt ht=>q t _ (iG.free ht) (iG.trans (af.upd ht)) au⟩
end
open PySem.StrLaws PySem.Builtin.Str in
theorem GC(x:Str)(c:Nat):∀(k i free:Nat) (found:Array Nat),i+k=x.length+1->free<=i->i<=x.length+1->found.size=(x.cps.toList.take i).count c->(forIn (List.range' i k) (found,free) (occBody x ⟨#[c]⟩ x.length (x.length+1))).run.fst.toList.length=x.cps.toList.count c
 |0,i,free,found,h,hf,hi,hs=>by
  show found.toList.length=_
  rw[fB,hs,eE]
  rw[bD]
  lia
 |k+1,i,free,found,h,hf,hi,hs=>by
  rw[List.range'_succ,JM]
  unfold occBody
  have eG:(x.cps.toList.take i).count c<=i:=bL List.count_le_length (by rw[fC];lia)
  by_cases hc:x.cps.toList[i]? = some c
  .obtain⟨c1,c2⟩:=(subAt_one x c i).mpr hc
   have c1':i+1<=x.length:=c1
   rw[aA ⟨⟨⟨by show found.size<_;lia,hf⟩,c1⟩,c2⟩]
   refine GC x c k (i+1) (i+1) (found.push i) (by lia) (aN _) (by lia) ?_
   rw[JW,hs,eD,hc,Kc]
   simp
  .rw[av (λz=>hc ((subAt_one x c i).mp ⟨z.1.2,z.2⟩))]
   refine GC x c k (i+1) free found (by lia) (by lia) (by lia) ?_
   rw[hs,eD,Kc]
   cases e:x.cps.toList[i]? with
   |none=>simp
   |some d=>
    have:d≠c:=λz=>hc (by rw[e,z])
    simp[this]
open PySem.StrLaws in
theorem abv(x:Str)(c:Nat):Txt.count x ⟨#[c]⟩=((x.cps.toList.count c:Nat):Int):=by
 unfold Txt.count
 rw[occ_eq]
 congr 1
 exact GC x c (x.length+1) 0 0 #[] (by lia) (aN _) (bA _) rfl
theorem abw(x:List Nat)(w:Nat)(h:x.length=w):((List.range w).filter λj=>!decide (x.getD j 0=35)).length+x.count 35=w:=by
 subst h
 induction x with
 |nil=>rfl
 |cons a r ih=>
  rw[cQ,JN,dF,tw,Kd]
  have e:((λj=>!decide ((a::r).getD j 0=35))∘Nat.succ)=λj=>!decide (r.getD j 0=35):=by funext j;rfl
  rw[e]
  by_cases z:a=35
  .subst z
   simp only[List.getD_cons_zero,decide_true,wx,fG,eO,aq,zF,gr]
   lia
  .have:¬(a==35)=true:=by simpa using z
   rw[av this]
   simp only[List.getD_cons_zero,aK z,JX,gr,cQ,aq]
   lia
theorem OW(l:List Str)(w:Nat):∀n,((cells n w).filter (bW l)).length=((List.range n).map λi=>((List.range w).filter λj=>!decide ((l.getD i ⟨#[]⟩).cps.toList.getD j 0=35)).length).sum
 |0=>rfl
 |n+1=>by
  rw[Fy,kD,cE,OW l w n,ku,dQ,JS,tw,aq]
  simp only[bQ,wb,fH,List.sum_nil,Du]
  rfl
theorem OX:∀l:List Nat,((l.sum:Nat):Int)=(l.map λ(n:Nat)=>(n:Int)).sum
 |[]=>rfl
 |a::r=>by rw[fH,bQ,fH,<-OX r];simp
theorem abx(g:α->β)(d:α)(l:List α):(List.range l.length).map (λi=>g (l.getD i d))=l.map g:=lb g d l
theorem aby(S:aV l w):((b6 l w).length:Int)=(oh l).sum:=by
 unfold b6 oh
 rw[OW,abx (λx:Str=>((List.range w).filter λj=>!decide (x.cps.toList.getD j 0=35)).length),OX,jH]
 congr 1
 refine Ke λx mx=>?_
 have hl:=S.len x mx
 have e:=abw x.cps.toList w (by rw[bD];exact hl)
 have e2:Txt.count x "#"=((x.cps.toList.count 35:Nat):Int):=by rw[<-abv,<-rW]
 show((((List.range w).filter λj=>!decide (x.cps.toList.getD j 0=35)).length:Nat):Int)=(x.length:Int) - Txt.count x "#"
 rw[e2,hl]
 lia
theorem OY{cs:List C2}(nd:cs.Nodup):∀{r:List C2},(∀c∈r,c∈cs)->(cs.map λc=>r.count c).sum=r.length
 |[],_=>by
  rw[xP]
  .rfl
  .intro y my
   obtain⟨c,_,rfl⟩:=bM.mp my
   rfl
 |a::r,h=>by
  have ih:=OY nd (r:=r) λc m=>h c (bU _ m)
  have e:∀xs:List C2,(xs.map λc=>(a::r).count c).sum=(xs.map λc=>r.count c).sum+xs.count a:=by
   intro xs
   induction xs with
   |nil=>rfl
   |cons x t GD=>
    rw[bQ,fH,GD,bQ,fH,Kd,Kd]
    by_cases z:a=x
    .subst z
     simp
     lia
    .have z1:¬(a==x)=true:=by simpa using z
     have z2:¬(x==a)=true:=by simpa using λy=>z y.symm
     rw[av z1,av z2]
     lia
  rw[e,ih,cQ,List.Nodup.count nd,aA (h a bG)]
theorem OZ{cs:List C2}(nd:cs.Nodup):∀{rs:List (Nat×List C2)},(∀q∈rs,∀c∈q.2,c∈cs)->(cs.map λc=>c5 c rs).sum=(rs.map λq=>q.2.length).sum
 |[],_=>by
  rw[xP]
  .rfl
  .intro y my
   obtain⟨c,_,rfl⟩:=bM.mp my
   rfl
 |q::rs,h=>by
  have ih:=OZ nd (rs:=rs) λp m=>h p (bU _ m)
  have e:∀xs:List C2,(xs.map λc=>c5 c (q::rs)).sum=(xs.map λc=>q.2.count c).sum+(xs.map λc=>c5 c rs).sum:=by
   intro xs
   induction xs with
   |nil=>rfl
   |cons x t GD=>
    rw[bQ,fH,GD,bQ,fH,bQ,fH]
    have:c5 x (q::rs)=q.2.count x+c5 x rs:=by unfold c5;rw[bQ,fH]
    lia
  rw[e,ih,OY nd (h q bG),bQ,fH]
theorem σ0:∀{l:List Nat},(∀x∈l,x<=2)->l.sum=2*l.length->∀x∈l,x=2
 |[],_,_,x,m=>by cases m
 |a::r,h,e,x,m=>by
  rw[fH,cQ] at e
  have ha:=h a bG
  have hr:r.sum<=2*r.length:=by
   clear e m ha
   have h':∀x∈r,x<=2:=λy my=>h y (bU _ my)
   clear h
   induction r with
   |nil=>exact aN _
   |cons b t ih=>
    rw[fH,cQ]
    have:=h' b bG
    have:=ih λy my=>h' y (bU _ my)
    lia
  rcases b9.mp m with z | z
  .lia
  .exact σ0 (λy my=>h y (bU _ my)) (by lia) x z
theorem σ2(c:C2):c5 c (dj l w)=c5 c (nY l w)+c5 c (nZ l w):=by simp_all [C2,nY,nZ,dj,c5]
def ka(l:List Str)(w:Nat):Prop := ∀c,bo l w c=true->c5 c (dj l w)=2
theorem σ3(S:aV l w)(h:yd l w=true):ka l w:=by
 have h:=fF h
 rw[<-aby S] at h
 have e1:((b6 l w).map λc=>c5 c (dj l w)).sum=((aC l w).map (·.length)).sum:=by
  rw[OZ (FI l w) λq mq c mc=>?_,se,jH]
  .rfl
  .have hc:=(F7 mq).2 c mc
   exact Bo (by rw[nX hc.1 hc.2.1];exact hc.2.2)
 have e2:((b6 l w).map λc=>c5 c (dj l w)).sum=2*((b6 l w).map λc=>c5 c (dj l w)).length:=by
  rw[e1,aq]
  lia
 intro c hc
 refine σ0 (λx mx=>?_) e2 _ (zV (Bo hc))
 obtain⟨d,_,rfl⟩:=bM.mp mx
 rw[σ2,NG S,NH S]
 split <;> split <;> lia
def om(l:List Str)(w:Nat):Prop := ∃c,bo l w c=true
theorem abz(h:hX (bo l w) (0,1) c=true):∃d:C2,bo l w d=true/\d.1=c.1/\d.2≠c.2:=by
 unfold hX gj at h
 rw[eY,wc,eY,eY] at h
 rcases h.2 with z | z
 .have h1:1<=c.2:=fF z.2.1
  exact⟨_,z.2.2,by show c.1 - 0=c.1;lia,by show c.2 - 1≠c.2;lia⟩
 .exact⟨_,z,by unfold go;show c.1+1*0=c.1;lia,by unfold go;show c.2+1*1≠c.2;lia⟩
theorem abA(h:hX (bo l w) (1,0) c=true):∃d:C2,bo l w d=true/\d.2=c.2/\d.1≠c.1:=by
 unfold hX gj at h
 rw[eY,wc,eY,eY] at h
 rcases h.2 with z | z
 .have h1:1<=c.1:=fF z.1
  exact⟨_,z.2.2,by show c.2 - 0=c.2;lia,by show c.1 - 1≠c.1;lia⟩
 .exact⟨_,z,by unfold go;show c.2+1*0=c.2;lia,by unfold go;show c.1+1*1≠c.1;lia⟩
theorem om.set{l:List Str}{w:Nat}(S:aV l w)(T:ka l w)(N:om l w){c1 c2:C2}(a1:c1.1<l.length)(a2:c1.2<w)(b1:c2.1<l.length)(b2:c2.2<w):om (setC (setC l c1 35) c2 35) w:=by
 obtain⟨c,hc⟩:=N
 have h2:=T c hc
 rw[σ2,NG S,NH S] at h2
 have hA:hX (bo l w) (0,1) c=true:=by
  by_cases z:hX (bo l w) (0,1) c=true
  .exact z
  .rw[av z] at h2
   split at h2 <;> lia
 have hD:hX (bo l w) (1,0) c=true:=by
  by_cases z:hX (bo l w) (1,0) c=true
  .exact z
  .rw[av z] at h2
   split at h2 <;> lia
 obtain⟨d,hd,d1,d2⟩:=abz hA
 obtain⟨e,he,e1,e2⟩:=abA hD
 have key:∀x:C2,bo l w x=true->x≠c1->x≠c2->om (setC (setC l c1 35) c2 35) w:=λx hx n1 n2=>by
  obtain⟨x1,x2,x3⟩:=pS hx
  refine⟨x,?_⟩
  rw[nX (by rw[dB,dB];exact x1) x2]
  unfold bW at x3 ⊢
  rw[(S.dC.set (ch:=35) a1 a2).lg (by rw[dB];exact b1) b2 (by rw[dB];exact x1) x2,av n2,S.dC.lg a1 a2 x1 x2,av n1]
  exact x3
 by_cases z1:c=c1\/c=c2
 .by_cases z2:d=c1\/d=c2
  .refine key e he (λz=>?_) (λz=>?_)
   .rcases z1 with y1 | y1
    .rw[y1,z] at e2;exact e2 rfl
    .rcases z2 with y2 | y2
     .rw[z,<-y2,d1] at e2;exact e2 rfl
     .rw[y2,<-y1] at d2;exact d2 rfl
   .rcases z1 with y1 | y1
    .rcases z2 with y2 | y2
     .rw[y2,<-y1] at d2;exact d2 rfl
     .rw[z,<-y2,d1] at e2;exact e2 rfl
    .rw[y1,z] at e2;exact e2 rfl
  .exact key d hd (λz=>z2 (.inl z)) (λz=>z2 (.inr z))
 .exact key c hc (λz=>z1 (.inl z)) (λz=>z1 (.inr z))
theorem yk{l:List α}(h:l.Nodup){a:α}(hi:l[i]? = some a)(hj:l[j]? = some a):i=j:=by
 obtain⟨yl,ei⟩:=bP.mp hi
 obtain⟨sF,ej⟩:=bP.mp hj
 rcases Nat.lt_trichotomy i j with z | z | z
 .exact absurd (ei.trans ej.symm) (J2.mp h i j yl sF z)
 .exact z
 .exact absurd (ej.trans ei.symm) (J2.mp h j i sF yl z)
noncomputable def cW(R:List (List C2))(c:C2):List (Nat×Nat):=(List.range R.length).flatMap λi=>((List.range (ai R i).length).filter λk=>decide ((ai R i)[k]? = some c)).map λk=>(i,k)
theorem lA{k:Nat}(h:(ai R i)[k]? = some c):i<R.length/\k<(ai R i).length:=by
 refine⟨?_,(bP.mp h).1⟩
 by_cases z:i<R.length
 .exact z
 .have e:ai R i=[]:=by
   unfold ai
   rw[bR,cR (JL z)]
   rfl
  rw[e] at h
  cases h
theorem qc:p∈cW R c↔(ai R p.1)[p.2]? = some c:=by
 unfold cW
 rw[zS]
 constructor
 .rintro⟨i,_,h⟩
  obtain⟨k,hk,rfl⟩:=bM.mp h
  exact fF (b8.mp hk).2
 .intro h
  have:=lA h
  exact⟨p.1,dP.mpr this.1,bM.mpr ⟨p.2,b8.mpr ⟨dP.mpr this.2,aI h⟩,rfl⟩⟩
theorem GF(R:List (List C2))(c:C2):(cW R c).Nodup:=by
 unfold cW List.Nodup
 rw[List.pairwise_flatMap]
 refine⟨λi _=>?_,?_⟩
 .exact List.Pairwise.map _ (λa b h z=>h (eX Prod.snd z)) (Dt.filter _)
 .refine List.Pairwise.imp (λ{a b} h x hx y hy z=>?_) Dt
  obtain⟨_,_,rfl⟩:=bM.mp hx
  obtain⟨_,_,rfl⟩:=bM.mp hy
  exact h (eX Prod.fst z)
structure GoodR(R:List (List C2)):Prop where
 nd:∀i,(ai R i).Nodup
 two:∀(i k:Nat) (c:C2),(ai R i)[k]? = some c->∃(j a:Nat),j≠i/\(ai R j)[a]? = some c/\∀(i' k':Nat),(ai R i')[k']? = some c->(i'=i/\k'=k)\/(i'=j/\k'=a)
theorem σ4{l:List α}{x:α}(nd:l.Nodup)(m:x∈l)(u:∀y∈l,y=x):l=[x]:=by
 cases l with
 |nil=>cases m
 |cons a r=>
  have ea:=u a bG
  subst ea
  cases r with
  |nil=>rfl
  |cons b s=>
   have eb:=u b (bU _ bG)
   exact absurd (by rw[eb];exact bG) (gq.mp nd).1
noncomputable def uQ(R:List (List C2))(pl:Nat)(c:C2):List (Nat×Nat):=(cW R c).filter λp=>!decide (p.1=pl)
noncomputable def kb(R:List (List C2))(pl:Nat):List (Nat×Nat):=(ai R pl).flatMap (uQ R pl)
structure GG(R:List (List C2))(pl:Nat)(c:C2)(p:Nat×Nat):Prop where
 ne:p.1≠pl
 lt:p.1<R.length
 ix:(ai R p.1)[p.2]? = some c
 un:∀(i' k':Nat),(ai R i')[k']? = some c->i'≠pl->i'=p.1/\k'=p.2
theorem BQ(G:GoodR R){k:Nat}(h:(ai R pl)[k]? = some c):∃p,uQ R pl c=[p]/\GG R pl c p:=by
 obtain⟨j,a,hj,GH,hu⟩:=G.two pl k c h
 have ym:∀(i' k':Nat),(ai R i')[k']? = some c->i'≠pl->i'=j/\k'=a:=λi' k' e n=>by
  rcases hu i' k' e with z | z
  .exact absurd z.1 n
  .exact z
 refine⟨(j,a),σ4 ((GF R c).filter _) (b8.mpr ⟨qc.mpr GH,by simp[hj]⟩) (λy hy=>?_),hj,(lA GH).1,GH,ym⟩
 obtain⟨h1,h2⟩:=b8.mp hy
 have:=ym y.1 y.2 (qc.mp h1) (by simpa using h2)
 exact ni this.1 this.2
theorem σ6{α β:Type}{f:α->List β}{g:α->β}:∀{l:List α},(∀x∈l,f x=[g x])->l.flatMap f=l.map g
 |[],_=>rfl
 |a::r,h=>by
  rw[List.flatMap_cons,bQ,h a bG,σ6 λx m=>h x (bU _ m)]
  rfl
theorem σ7(G:GoodR R)(pl:Nat):kb R pl=(ai R pl).map λc=>(uQ R pl c).headD (0,0):=by
 unfold kb
 refine σ6 λc mc=>?_
 obtain⟨k,hk⟩:=dR mc
 obtain⟨p,e,_⟩:=BQ G hk
 rw[e]
 rfl
theorem abB(G:GoodR R)(pl:Nat):(kb R pl).length=(ai R pl).length:=by rw[σ7 G,aq]
theorem abC(G:GoodR R){k:Nat}(h:(ai R pl)[k]? = some c):∃p,(kb R pl)[k]? = some p/\GG R pl c p:=by
 obtain⟨p,e,hp⟩:=BQ G h
 refine⟨p,?_,hp⟩
 rw[σ7 G,bq,h,iR,e]
 rfl
theorem ig(m:List Str)(r:List C2):(ar m r).cps.toList=r.map (sg m):=by simp[ar]
theorem iJ{k:Nat}(h:r[k]? = some c):(ar m r).cps.toList[k]? = some (sg m c):=by rw[ig,bq,h];rfl
theorem abD(S:eC m w)(nd:r.Nodup)(bb:∀c∈r,c.1<m.length/\c.2<w)(ha:r[a]? = some c)(ch:Nat):ar (setC m c ch) r=bI (ar m r) a ch:=by
 have hc:=bb c (bh ha)
 have Bv:a<(ar m r).length:=by rw[dJ];exact(bP.mp ha).1
 apply mI
 apply iS
 intro k
 by_cases hk:k<r.length
 .have ek:r[k]? = some r[k]:=aS hk
  have dZ:=bb r[k] (m9 hk)
  rw[FA Bv (by rw[dJ];exact hk),iJ ek,iJ ek,S.lg hc.1 hc.2 dZ.1 dZ.2]
  by_cases e:k=a
  .subst e
   rw[ek] at ha
   rw[aA (dm ha),aA rfl]
  .rw[av e,av λz=>e (yk nd (by rw[ek,z]) ha)]
 .rw[cR (by rw[ig,aq];lia),cR (by rw[bD,xN Bv,dJ];lia)]
theorem σ8(S:eC m w)(bb:∀c∈r,c.1<m.length/\c.2<w)(h1:c.1<m.length)(h2:c.2<w)(hc:c∉r\/sg m c=ch):ar (setC m c ch) r=ar m r:=by
 apply mI
 rw[ig,ig]
 refine Ke λd md=>?_
 have hd:=bb d md
 rw[S.lg h1 h2 hd.1 hd.2]
 by_cases e:d=c
 .rw[aA e]
  rcases hc with z | z
  .exact absurd (e ▸ md) z
  .rw[e,z]
 .rw[av e]
theorem mQ:∀(m:List Str) (cs:List C2) (xs:List Nat),(putL m cs xs).length=m.length
 |m,[],_=>by simp[putL]
 |m,c::cs,[]=>by simp[putL]
 |m,c::cs,x::xs=>by rw[putL,mQ,dB]
theorem GI{w:Nat}:∀{m:List Str}(_:eC m w) (cs:List C2) (xs:List Nat),(∀c∈cs,c.1<m.length/\c.2<w)->eC (putL m cs xs) w
 |m,S,[],_,_=>by simpa[putL] using S
 |m,S,c::cs,[],_=>by simpa[putL] using S
 |m,S,c::cs,x::xs,h=>by
  rw[putL]
  have hc:=h c bG
  exact GI (S.set hc.1 hc.2) cs xs λd md=>by rw[dB];exact h d (bU _ md)
theorem GJ{w:Nat}:∀{m:List Str}(_:aV m w) (cs:List C2) (xs:List Nat),(∀c∈cs,c.1<m.length/\c.2<w)->(∀x∈xs,rR x)->aV (putL m cs xs) w
 |m,S,[],_,_,_=>by simpa[putL] using S
 |m,S,c::cs,[],_,_=>by simpa[putL] using S
 |m,S,c::cs,x::xs,h,h2=>by
  rw[putL]
  have hc:=h c bG
  exact GJ (Bn S hc.1 hc.2 (h2 x bG)) cs xs (λd md=>by rw[dB];exact h d (bU _ md)) λy my=>h2 y (bU _ my)
theorem qd{w:Nat}:∀{m:List Str}(_:eC m w) (cs:List C2) (xs:List Nat),(∀c∈cs,c.1<m.length/\c.2<w)->∀{d:C2},d.1<m.length->d.2<w->d∉cs->sg (putL m cs xs) d=sg m d
 |m,S,[],_,_,d,_,_,_=>by simp[putL]
 |m,S,c::cs,[],_,d,_,_,_=>by simp[putL]
 |m,S,c::cs,x::xs,h,d,d1,d2,hd=>by
  have hc:=h c bG
  rw[putL,qd (S.set hc.1 hc.2) cs xs (λe me=>by rw[dB];exact h e (bU _ me)) (by rw[dB];exact d1) d2 (λz=>hd (bU _ z)),
   S.lg hc.1 hc.2 d1 d2,av λz=>hd (by rw[z];exact bG)]
theorem sG{w:Nat}:∀{m:List Str}(_:eC m w) (cs:List C2) (xs:List Nat),(∀c∈cs,c.1<m.length/\c.2<w)->cs.Nodup->∀{k:Nat}{c:C2}{x:Nat},cs[k]? = some c->xs[k]? = some x->sg (putL m cs xs) c=x
 |m,S,[],_,_,_,k,c,x,hc,_=>by cases hc
 |m,S,c::cs,[],_,_,k,_,x,_,hx=>by cases hx
 |m,S,c::cs,y::xs,h,nd,k,d,x,hd,hx=>by
  have hc:=h c bG
  have h':∀e∈cs,e.1<(setC m c y).length/\e.2<w:=λe me=>by rw[dB];exact h e (bU _ me)
  rw[putL]
  cases k with
  |zero=>
   have e1:c=d:=by simpa using hd
   have e2:y=x:=by simpa using hx
   subst e1 e2
   rw[qd (S.set hc.1 hc.2) cs xs h' (by rw[dB];exact hc.1) hc.2 (gq.mp nd).1,S.lg hc.1 hc.2 hc.1 hc.2,aA rfl]
  |succ k=>exact sG (S.set hc.1 hc.2) cs xs h' (gq.mp nd).2 (by simpa using hd) (by simpa using hx)
theorem abE(S:eC m w)(bb:∀c∈r,c.1<m.length/\c.2<w)(nd:r.Nodup)(hl:x.length=r.length):ar (putL m r x.cps.toList) r=x:=by
 have hx:=bD x
 apply mI
 apply iS
 intro k
 by_cases hk:k<r.length
 .have ek:r[k]? = some r[k]:=aS hk
  have ex:x.cps.toList[k]? = some x.cps.toList[k]:=aS (by lia)
  rw[iJ ek,sG S r x.cps.toList bb nd ek ex,ex]
 .rw[cR (by rw[ig,aq];lia),cR (by lia)]
theorem fV{t:Str}:cz x t=true↔x.length=t.length/\∀i,i<x.length->t.cps.toList.getD i 0=46\/t.cps.toList.getD i 0=x.cps.toList.getD i 0:=by
 unfold cz
 rw[eY,kr,zP]
 refine and_congr_right λ_=>⟨λh i hi=>?_,λh i hi=>?_⟩
 .have:=h i (dP.mpr hi)
  unfold lh at this
  simpa using this
 .have:=h i (dP.mp hi)
  unfold lh
  simpa using this
theorem BR{k:Nat}(h:j<x.length)(hk:k<x.length):(bI x j ch).cps.toList.getD k 0=if k=j then ch else x.cps.toList.getD k 0:=by
 rw[bR,FA h hk,bR]
 by_cases e:k=j
 .rw[aA e,aA e]
  rfl
 .rw[av e,av e]
theorem abF{t:Str}(ha:a<t.length)(cC:t.cps.toList.getD a 0=46)(hc:ch≠46):cz x (bI t a ch)=true↔cz x t=true/\x.cps.toList.getD a 0=ch:=by
 rw[fV,fV,xN ha]
 constructor
 .rintro⟨hl,h⟩
  have ea:=h a (by lia)
  rw[BR ha ha,aA rfl] at ea
  refine⟨⟨hl,λi hi=>?_⟩,?_⟩
  .have:=h i hi
   rw[BR ha (by lia)] at this
   by_cases e:i=a
   .rw[e];exact .inl cC
   .rw[av e] at this;exact this
  .rcases ea with z | z
   .exact absurd z hc
   .exact z.symm
 .rintro⟨⟨hl,h⟩,e⟩
  refine⟨hl,λi hi=>?_⟩
  rw[BR ha (by lia)]
  by_cases ei:i=a
  .rw[aA ei,ei];exact .inr e.symm
  .rw[av ei];exact h i hi
theorem GK{t:Str}(h:cz x t=true)(hd:46∉t.cps.toList):x=t:=by
 obtain⟨hl,h⟩:=fV.mp h
 have hx:=bD x
 have ht:=bD t
 apply mI
 apply iS
 intro k
 by_cases hk:k<x.length
 .have:=h k hk
  rw[bR,bR,aS (by lia),aS (by lia),oP,oP] at this
  rw[aS (by lia),aS (by lia)]
  rcases this with z | z
  .exact absurd (by rw[<-z];exact m9 _) hd
  .rw[z]
 .rw[cR (by lia),cR (by lia)]
theorem abG(t:Str):cz t t=true:=fV.mpr ⟨rfl,λ_ _=>.inr rfl⟩
structure lB(ks:List Str)(wf:Str->Int)(t:Str)(ws:List Str):Prop where
 nd:ws.Nodup
 mem:∀x,x∈ws↔x∈ks/\cz x t=true
 up:ws.Pairwise λa b=>wf b<=wf a
theorem lB.narrow{t:Str}(F:lB ks wf t ws)(ha:a<t.length)(cC:t.cps.toList.getD a 0=46)(hc:ch≠46):lB ks wf (bI t a ch) (ws.filter λx=>decide (x.cps.toList.getD a 0=ch)):=by
 refine⟨F.nd.filter _,λx=>?_,F.up.filter _⟩
 rw[b8,F.mem,abF ha cC hc,zP,and_assoc]
theorem lB.one(m:x∈ks)(hd:46∉x.cps.toList):lB ks wf x [x]:=by
 refine⟨gq.mpr ⟨ip,jh⟩,λy=>?_,List.pairwise_singleton _ _⟩
 rw[cb]
 constructor
 .rintro rfl
  exact⟨m,abG y⟩
 .rintro⟨_,h⟩
  exact GK h hd
theorem GL(hl:m.length=l.length)(h:∀c:C2,c.1<l.length->c.2<w->bW m c=bW l c):aC m w=aC l w:=by
 have e:bo m w=bo l w:=by
  funext c
  unfold bo
  rw[hl]
  by_cases h1:c.1<l.length
  .by_cases h2:c.2<w
   .rw[h c h1 h2]
   .rw[aK h2,il,il]
  .rw[aK h1,il,il]
 unfold aC lr ic
 rw[e,hl]
structure cj(l:List Str)(w:Nat)(R:List (List C2)):Prop where
 sh:aV l w
 eq:aC l w=R
 good:GoodR R
 all:∀c:C2,c.1<l.length->c.2<w->bW l c=true->∃i k:Nat,(ai R i)[k]? = some c
theorem oo(h:i<R.length):ai R i∈R:=by simp_all [C2,ai]
theorem cj.sH(F:cj l w R){k:Nat}(h:(ai R i)[k]? = some c):c.1<l.length/\c.2<w/\bW l c=true:=by
 have:=oo (lA h).1
 rw[<-F.eq] at this
 have hc:=bh h
 rw[<-F.eq] at hc
 exact(fT F.sh this).2.2 c hc
theorem cj.iK(F:cj l w R)(i:Nat):∀c∈ai R i,c.1<l.length/\c.2<w:=λc m=>by
 obtain⟨k,hk⟩:=dR m
 have:=F.sH hk
 exact⟨this.1,this.2.1⟩
theorem cj.len(F:cj l w R)(hi:i<R.length):2<=(ai R i).length/\(ai R i).length<=9:=by
 have:=oo hi
 rw[<-F.eq] at this
 have:=fT F.sh this
 rw[F.eq] at this
 exact⟨this.1,this.2.1⟩
def i9(x:Str):Prop := ∀ch∈x.cps.toList,97<=ch/\ch<=122
theorem abH(h:cB x=true):i9 x:=λch m=>by
 unfold cB at h
 simp only[eY] at h
 have:=h.2.2
 unfold iH at this
 have:=fF (kr.mp this ch m)
 rw[Bk] at this
 obtain⟨k,hk,e⟩:=bM.mp this
 have:=dP.mp hk
 lia
theorem i9.abI(h:i9 x):46∉x.cps.toList:=λm=>by have:=h 46 m;lia
theorem BS(F:cj m w R)(pl:Nat)(hl:x.length=(ai R pl).length)(h1:c.1<m.length)(h2:c.2<w) :
  (∃(k ch:Nat),(ai R pl)[k]? = some c/\x.cps.toList[k]? = some ch/\sg (putL m (ai R pl) x.cps.toList) c=ch)\/(c∉ai R pl/\sg (putL m (ai R pl) x.cps.toList) c=sg m c):=by
 by_cases hc:c∈ai R pl
 .refine Or.inl ?_
  obtain⟨k,hk⟩:=dR hc
  have i0:=(lA hk).2
  have hx:=bD x
  have ex:x.cps.toList[k]? = some x.cps.toList[k]:=aS (by lia)
  exact⟨k,_,hk,ex,sG F.sh.dC _ _ (F.iK pl) (F.good.nd pl) hk ex⟩
 .exact .inr ⟨hc,qd F.sh.dC _ _ (F.iK pl) h1 h2 hc⟩
theorem cj.O9(F:cj m w R)(pl:Nat)(hx:i9 x)(hl:x.length=(ai R pl).length)(h1:c.1<m.length)(h2:c.2<w):bW (putL m (ai R pl) x.cps.toList) c=bW m c:=by
 rcases BS F pl hl h1 h2 with ⟨k,ch,hk,hch,e⟩ | ⟨_,e⟩
 .rw[(F.sH hk).2.2]
  unfold bW
  rw[e]
  have:=hx ch (bh hch)
  rw[aK (by lia)]
  rfl
 .unfold bW
  rw[e]
theorem cj.put(F:cj m w R)(pl:Nat)(hx:i9 x)(hl:x.length=(ai R pl).length):cj (putL m (ai R pl) x.cps.toList) w R:=by
 have hlen:=mQ m (ai R pl) x.cps.toList
 refine⟨GJ F.sh _ _ (F.iK pl) (λch mc=>.inr (.inr (hx ch mc))),?_,F.good,λc h1 h2 ho=>?_⟩
 .rw[GL hlen λc h1 h2=>F.O9 pl hx hl h1 h2]
  exact F.eq
 .rw[hlen] at h1
  rw[F.O9 pl hx hl h1 h2] at ho
  exact F.all c h1 h2 ho
structure mR(R:List (List C2))(m:List Str)(pl:Nat)(x:Str)(k:Nat)(ps:List Str):Prop where
 len:ps.length=R.length
 own:ps[pl]? = some (ar m (ai R pl))
 ja:∀i,i<R.length->i≠pl->ps[i]? = some (ar (putL m ((ai R pl).take k) (x.cps.toList.take k)) (ai R i))
theorem kd(R:List (List C2))(f:List C2->β)(h:i<R.length):(R.map f)[i]? = some (f (ai R i)):=by simp_all [C2,ai]
theorem mR.zero(bj:pl<R.length):mR R m pl x 0 (R.map (ar m)):=
 ⟨aq ..,kd R _ bj,λi hi _=>by rw[oU,oU,kd R _ hi];rfl⟩
theorem mR.step{k:Nat}(F:cj m w R)(cV:cz x (ar m (ai R pl))=true)(A:mR R m pl x k ps)(hc:(ai R pl)[k]? = some c)(hch:x.cps.toList[k]? = some ch)(hp:GG R pl c p) :
  ∃b,ps[p.1]? = some b/\b.cps.toList[p.2]? = some (sg m c)/\p.2<b.length/\b.length<=9/\(sg m c=46->mR R m pl x (k+1) (ps.set p.1 (bI b p.2 ch)))/\(sg m c≠46->mR R m pl x (k+1) ps):=by
 have gB:∀d∈(ai R pl).take k,d.1<m.length/\d.2<w:=λd md=>F.iK pl d (tG md)
 have Gk:=GI F.sh.dC ((ai R pl).take k) (x.cps.toList.take k) gB
 have nR:=mQ m ((ai R pl).take k) (x.cps.toList.take k)
 have eV:=F.sH hc
 have Fx:c∉(ai R pl).take k:=λz=>by
  obtain⟨j,hj⟩:=dR z
  have hjk:j<k:=by
   have:=(bP.mp hj).1
   rw[fC] at this
   lia
  rw[sZ hjk] at hj
  have:=yk (F.good.nd pl) hj hc
  lia
 have Pa:sg (putL m ((ai R pl).take k) (x.cps.toList.take k)) c=sg m c:=qd F.sh.dC _ _ gB eV.1 eV.2.1 Fx
 have Pb:putL m ((ai R pl).take (k+1)) (x.cps.toList.take (k+1))=setC (putL m ((ai R pl).take k) (x.cps.toList.take k)) c ch:=si m _ _ k c ch hc hch
 have jY:c.1<(putL m ((ai R pl).take k) (x.cps.toList.take k)).length:=by rw[nR];exact eV.1
 have uR:∀i,∀d∈ai R i,d.1<(putL m ((ai R pl).take k) (x.cps.toList.take k)).length/\d.2<w:=λi d md=>by rw[nR];exact F.iK i d md
 have gI:=F.len hp.lt
 refine⟨_,A.ja p.1 hp.lt hp.ne,?_,?_,?_,λcC=>⟨by rw[JK];exact A.len,?_,λi hi cJ=>?_⟩,λcC=>⟨A.len,A.own,λi hi cJ=>?_⟩⟩
 .rw[iJ hp.ix,Pa]
 .rw[dJ];exact(lA hp.ix).2
 .rw[dJ];exact gI.2
 .rw[zm hp.ne];exact A.own
 .rw[Pb]
  by_cases e:i=p.1
  .rw[e,vU (by rw[A.len];exact hp.lt),abD Gk (F.good.nd p.1) (uR p.1) hp.ix]
  .rw[zm (bu e),A.ja i hi cJ,σ8 Gk (uR i) jY eV.2.1 (.inl λz=>?_)]
   obtain⟨j,hj⟩:=dR z
   exact e (hp.un i j hj cJ).1
 .have ech:sg m c=ch:=by
   obtain⟨hl,h⟩:=fV.mp cV
   have hk:k<x.length:=by rw[<-bD];exact(bP.mp hch).1
   have:=h k hk
   rw[bE (iJ hc),bE hch] at this
   rcases this with z | z
   .exact absurd z cC
   .exact z
  rw[Pb,σ8 Gk (uR i) jY eV.2.1 (.inr (Pa.trans ech))]
  exact A.ja i hi cJ
theorem mR.done(F:cj m w R)(A:mR R m pl x (ai R pl).length ps)(hl:x.length=(ai R pl).length)(bj:pl<R.length):ps.set pl x=R.map (ar (putL m (ai R pl) x.cps.toList)):=by
 have hx:=bD x
 apply iS
 intro i
 by_cases hi:i<R.length
 .rw[kd R _ hi]
  by_cases e:i=pl
  .rw[e,vU (by rw[A.len];exact bj),abE F.sh.dC (F.iK pl) (F.good.nd pl) hl]
  .rw[zm (bu e),A.ja i hi e,eE (aN _),eE (by lia)]
 .rw[cR (by rw[JK,A.len];lia),cR (by rw[aq];lia)]
theorem Pc(S:eC l w)(T:eC m w)(hl:l.length=m.length)(h:∀c:C2,c.1<l.length->c.2<w->sg l c=sg m c):l=m:=by
 apply iS
 intro i
 by_cases hi:i<l.length
 .obtain⟨x,hx,_,_,lx,hxj⟩:=S.row hi
  obtain⟨y,hy,_,_,ly,GN⟩:=T.row (i:=i) (by lia)
  rw[hx,hy]
  congr 1
  apply mI
  apply iS
  intro j
  by_cases hj:j<w
  .rw[hxj j hj,GN j hj,h (i,j) hi hj]
  .rw[cR (by lia),cR (by lia)]
 .rw[cR (by lia),cR (by lia)]
noncomputable def ke(l:List Str)(R:List (List C2))(m:List Str):Nat->List Str
 |0=>l
 |n+1=>putL (ke l R m n) (ai R n) (ar m (ai R n)).cps.toList
theorem qe(l:List Str)(R:List (List C2))(m:List Str):∀n,(ke l R m n).length=l.length
 |0=>rfl
 |n+1=>by rw[ke,mQ,qe l R m n]
theorem uS{l m:List Str}{w:Nat}{R:List (List C2)}(F:cj l w R):∀n,eC (ke l R m n) w
 |0=>F.sh.dC
 |n+1=>by
  rw[ke]
  exact GI (uS F n) _ _ λd md=>by rw[qe];exact F.iK n d md
theorem Pd{l m:List Str}{w:Nat}{R:List (List C2)}(F:cj l w R){c:C2}(h1:c.1<l.length)(h2:c.2<w):∀n,((∃i,i<n/\c∈ai R i)->sg (ke l R m n) c=sg m c)/\((∀i,i<n->c∉ai R i)->sg (ke l R m n) c=sg l c)
 |0=>⟨λ⟨i,hi,_⟩=>absurd hi (gQ _),λ_=>rfl⟩
 |n+1=>by
  have ih:=Pd (m:=m) F h1 h2 n
  have hc:∀d∈ai R n,d.1<(ke l R m n).length/\d.2<w:=λd md=>by rw[qe];exact F.iK n d md
  rw[ke]
  refine⟨λ⟨i,hi,hm⟩=>?_,λh=>?_⟩
  .by_cases z:c∈ai R n
   .obtain⟨k,hk⟩:=dR z
    exact sG (uS F n) _ _ hc (F.good.nd n) hk (iJ hk)
   .rw[qd (uS F n) _ _ hc (by rw[qe];exact h1) h2 z]
    refine ih.1 ⟨i,?_,hm⟩
    rcases wy.mp hi with y | y
    .exact y
    .exact absurd (y ▸ hm) z
  .rw[qd (uS F n) _ _ hc (by rw[qe];exact h1) h2 (h n (oK _))]
   exact ih.2 λi hi=>h i (lN hi)
theorem Pe(h:¬bW l c=true):sg l c=35:=by
 unfold bW at h
 simpa using h
theorem abJ(F:cj l w R)(M:cj m w R)(hl:m.length=l.length):ke l R m R.length=m:=by
 refine Pc (uS F _) M.sh.dC (by rw[qe,hl]) λc h1 h2=>?_
 rw[qe] at h1
 have s:=Pd (m:=m) F h1 h2 R.length
 by_cases ho:bW l c=true
 .obtain⟨i,k,hk⟩:=F.all c h1 h2 ho
  exact s.1 ⟨i,(lA hk).1,bh hk⟩
 .have no:∀i,i<R.length->c∉ai R i:=λi _ z=>by
   obtain⟨k,hk⟩:=dR z
   exact ho (F.sH hk).2.2
  have hm:¬bW m c=true:=λz=>by
   obtain⟨i,k,hk⟩:=M.all c (by rw[hl];exact h1) h2 z
   exact no i (lA hk).1 (bh hk)
  rw[s.2 no,Pe ho,Pe hm]
structure cD(s m:List Str)(w:Nat):Prop where
 sh:aV s w
 ln:s.length=m.length
 cl:∀c:C2,c.1<m.length->c.2<w->(sg m c≠46->sg s c=sg m c)/\(sg m c=46->sg s c≠35)
theorem cD.refl(S:aV m w):cD m m w:=⟨S,rfl,λc _ _=>⟨λ_=>rfl,λh=>by rw[h];decide⟩⟩
theorem abK{w:Nat}{k:Nat}(cV:cz x (ar m (ai R pl))=true)(hc:(ai R pl)[k]? = some c)(hch:x.cps.toList[k]? = some ch):sg m c=46\/sg m c=ch:=by
 obtain⟨hl,h⟩:=fV.mp cV
 have hk:k<x.length:=by rw[<-bD];exact(bP.mp hch).1
 have:=h k hk
 rw[bE (iJ hc),bE hch] at this
 exact this
theorem cD.Pf(F:cj m w R)(hx:i9 x)(cV:cz x (ar m (ai R pl))=true)(A:cD s (putL m (ai R pl) x.cps.toList) w):cD s m w:=by
 have hl:x.length=(ai R pl).length:=by rw[(fV.mp cV).1,dJ]
 have hlen:=mQ m (ai R pl) x.cps.toList
 refine⟨A.sh,by rw[A.ln,hlen],λc h1 h2=>?_⟩
 have a:=A.cl c (by rw[hlen];exact h1) h2
 rcases BS F pl hl h1 h2 with ⟨k,ch,hk,hch,e⟩ | ⟨_,e⟩
 .have hb:=hx ch (bh hch)
  rw[e] at a
  have es:=a.1 (by lia)
  rcases abK (w:=w) cV hk hch with z | z
  .exact⟨λy=>absurd z y,λ_=>by lia⟩
  .exact⟨λ_=>by lia,λy=>by lia⟩
 .rw[e] at a
  exact a
theorem cD.text(F:cj m w R)(hx:i9 x)(hl:x.length=(ai R pl).length)(A:cD s (putL m (ai R pl) x.cps.toList) w):ar s (ai R pl)=x:=by
 have d7:=bD x
 have hlen:=mQ m (ai R pl) x.cps.toList
 apply mI
 apply iS
 intro k
 by_cases hk:k<(ai R pl).length
 .have ek:(ai R pl)[k]? = some (ai R pl)[k]:=aS hk
  have ex:x.cps.toList[k]? = some x.cps.toList[k]:=aS (by lia)
  have hb:=F.sH ek
  have a:=A.cl _ (by rw[hlen];exact hb.1) hb.2.1
  have e:=sG F.sh.dC _ _ (F.iK pl) (F.good.nd pl) ek ex
  rw[e] at a
  have:=hx _ (bh ex)
  rw[iJ ek,ex,a.1 (by lia)]
 .rw[cR (by rw[ig,aq];lia),cR (by lia)]
theorem Pg{α:Type}{p q:α->Bool}:∀{l:List α},(∀x∈l,p x=true->q x=true)->(l.filter p).length<=(l.filter q).length/\((∃x∈l,q x=true/\p x=false)->(l.filter p).length<(l.filter q).length)
 |[],_=>⟨aN _,λ⟨_,m,_⟩=>by cases m⟩
 |a::r,h=>by
  have ih:=Pg (l:=r) λx m=>h x (bU _ m)
  have ha:=h a bG
  rw[dF,dF]
  cases hp:p a with
  |true=>
   rw[ha hp]
   refine⟨kF ih.1,λ⟨x,m,hq,hx⟩=>?_⟩
   rcases b9.mp m with z | z
   .rw[z,hp] at hx;cases hx
   .exact Nat.succ_lt_succ (ih.2 ⟨x,z,hq,hx⟩)
  |false=>
   cases hq:q a with
   |true=>exact⟨Nat.le_succ_of_le ih.1,λ_=>Nat.lt_succ_of_le ih.1⟩
   |false=>
    refine⟨ih.1,λ⟨x,m,jq,hx⟩=>?_⟩
    rcases b9.mp m with z | z
    .rw[z,hq] at jq;cases jq
    .exact ih.2 ⟨x,z,jq,hx⟩
theorem Ph(F:cj m w R)(hx:i9 x)(cV:cz x (ar m (ai R pl))=true)(hd:46∈(ar m (ai R pl)).cps.toList):(fJ (putL m (ai R pl) x.cps.toList) w).length<(fJ m w).length:=by
 have hl:x.length=(ai R pl).length:=by rw[(fV.mp cV).1,dJ]
 unfold fJ
 rw[mQ]
 have key:∀c∈cells m.length w,Bm (putL m (ai R pl) x.cps.toList) c=true->Bm m c=true/\c∉ai R pl:=λc mc h=>by
  have hb:=rS mc
  unfold Bm at h ⊢
  have h:=fF h
  rcases BS F pl hl hb.1 hb.2 with ⟨k,ch,hk,hch,e⟩ | ⟨hn,e⟩
  .have:=hx ch (bh hch)
   rw[e] at h
   lia
  .exact⟨aI (e.symm.trans h),hn⟩
 refine(Pg λc mc h=>(key c mc h).1).2 ?_
 rw[ig] at hd
 obtain⟨c,mc,ec⟩:=bM.mp hd
 have hb:=F.iK pl c mc
 refine⟨c,OS hb.1 hb.2,aI ec,gS.mpr λz=>?_⟩
 exact(key c (OS hb.1 hb.2) z).2 mc
theorem abL(hk:ks.Nodup)(Fo:lB ks wf (ar m (ai R pl)) ws):cn (ws.filter λx=>!decide (x∈oi m R pl))=c6 m R pl ks:=by
 unfold c6
 refine AW ?_ ((Ez _).filter _)
 refine List.Perm.filter _ ?_
 refine(gH _).trans ?_
 rw[List.perm_ext_iff_of_nodup (hk.filter _) Fo.nd]
 intro x
 rw[b8,Fo.mem]
theorem GO:x∈oi m R pl↔∃i,i<R.length/\i≠pl/\ar m (ai R i)=x:=by
 unfold oi
 constructor
 .intro h
  obtain⟨i,hi,e⟩:=bM.mp h
  obtain⟨h1,h2⟩:=b8.mp hi
  exact⟨i,dP.mp h1,by simpa using h2,e⟩
 .rintro⟨i,h1,h2,e⟩
  exact bM.mpr ⟨i,b8.mpr ⟨dP.mpr h1,by simpa using h2⟩,e⟩
def kf(H:Hp)(r:List C2)(x:V):Prop := ∃t ys,x = .ref t/\H t=some (.tup ys)/\bz H r ys
noncomputable def kC(c:C2):List Key:=[Sum.inl (c.1:Int),Sum.inl (c.2:Int)]
theorem uT(h:kC c=kC d):c=d:=by
 unfold kC at h
 injection h with h1 h2
 injection h2 with h2
 injection h1 with h1
 injection h2 with h2
 exact ni (by lia) (by lia)
theorem oq{α β:Type}{R:α->β->Prop}:∀{l1 l2:List α}{m1 m2:List β},Paired R l1 m1->Paired R l2 m2->Paired R (l1++l2) (m1++m2)
 |_,_,_,_,.nil,h=>h
 |_,_,_,_,.cons h t,g=>.cons h (oq t g)
structure jb(H:Hp)(d:Addr)(g:C2->List (Nat×Nat))(ls:List Addr)(n:Nat):Prop where
 ex:∃kvs:List (List Key×V),H d=some (.dT kvs)/\kvs.length<=n/\(∀c,g c=[]->aP kvs (kC c)=none)/\
  (∀c,g c≠[]->∃q zs,aP kvs (kC c)=some (.ref q)/\q∈ls/\H q=some (.lst zs)/\bz H (g c) zs)/\
  (∀c c' q,aP kvs (kC c)=some (.ref q)->aP kvs (kC c')=some (.ref q)->c=c')
theorem bz.lists{cs:List (Nat×Nat)}(k:∀b o,H b=some (.tup o)->H' b=some (.tup o))(h:bz H cs xs):bz H' cs xs:=Paired.bJ h λ_ _ q=>let ⟨b,e,hb⟩:=q;⟨b,e,k _ _ hb⟩
theorem jb.mono{H H':Hp}{d:Addr}{g:C2->List (Nat×Nat)}{ls:List Addr}{n:Nat}(s:af H H')(h:jb H d g ls n):jb H' d g ls n:=by
 obtain⟨kvs,hd,hl,h1,h2,h3⟩:=h.ex
 refine⟨kvs,s _ _ hd,hl,h1,λc hc=>?_,h3⟩
 obtain⟨q,zs,a,b,e,f⟩:=h2 c hc
 exact⟨q,zs,a,b,s _ _ e,f.mono s⟩
theorem jb.fresh{d p0:Addr}{kvs:List (List Key×V)}(h:jb H d g ls n)(hd:H d=some (.dT kvs))(hp:H p0=none)(hc:g c=[])
  (e1:g' c=[o]) (e2:∀x,x≠c->g' x=g x) (wC:H' d=some (.dT (putK kvs (kC c) (.ref p0)))) (eI:H' p0=some (.lst [u])) (hu:mK H' o u) (k:∀b x,b≠d->b≠p0->H b=some x->H' b=some x):jb H' d g' (p0::ls) (n+1):=by
 obtain⟨abM,iC,hl,h1,h2,h3⟩:=h.ex
 rw[hd] at iC
 cases iC
 have kt:∀b o,H b=some (.tup o)->H' b=some (.tup o):=λb o e=>k b _ (λz=>by rw[z,hd] at e;cases e) (λz=>by rw[z,hp] at e;cases e) e
 refine⟨_,wC,bL (tU _ _ _) (by lia),λx hx=>?_,λx hx=>?_,λx y q hx hy=>?_⟩
 .by_cases z:x=c
  .rw[z,e1] at hx;cases hx
  .rw[nG,av (λw=>z (uT w))]
   exact h1 x (by rw[<-e2 x z];exact hx)
 .by_cases z:x=c
  .subst z
   refine⟨p0,[u],by rw[nG,aA rfl],bG,eI,?_⟩
   rw[e1]
   exact .cons hu .nil
  .rw[e2 x z] at hx ⊢
   obtain⟨q,zs,a,b,e,f⟩:=h2 x hx
   refine⟨q,zs,by rw[nG,av (λw=>z (uT w))];exact a,bU _ b,k q _ (λw=>by rw[w,hd] at e;cases e) (λw=>by rw[w,hp] at e;cases e) e,f.lists kt⟩
 .have old:∀x,x≠c->aP kvs (kC x)=some (.ref q)->q≠p0:=λx z hv w=>by
   by_cases gx:g x=[]
   .rw[h1 x gx] at hv;cases hv
   .obtain⟨q',zs,a,b,e,f⟩:=h2 x gx
    rw[a] at hv
    cases hv
    rw[w,hp] at e
    cases e
  rw[nG] at hx hy
  by_cases zx:x=c <;> by_cases zy:y=c
  .rw[zx,zy]
  .rw[aA (by rw[zx])] at hx
   rw[av (λw=>zy (uT w))] at hy
   cases hx
   exact absurd rfl (old y zy hy)
  .rw[av (λw=>zx (uT w))] at hx
   rw[aA (by rw[zy])] at hy
   cases hy
   exact absurd rfl (old x zx hx)
  .rw[av (λw=>zx (uT w))] at hx
   rw[av (λw=>zy (uT w))] at hy
   exact h3 x y q hx hy
theorem jb.more{d q:Addr}{kvs:List (List Key×V)}(h:jb H d g ls n)(hd:H d=some (.dT kvs))(hq:aP kvs (kC c)=some (.ref q))(hz:H q=some (.lst zs))(hc:bz H (g c) zs)
  (e1:g' c=g c++[o]) (e2:∀x,x≠c->g' x=g x) (jq:H' q=some (.lst (zs++[u]))) (hu:mK H' o u) (k:∀b x,b≠q->H b=some x->H' b=some x):jb H' d g' ls n:=by
 obtain⟨abM,iC,hl,h1,h2,h3⟩:=h.ex
 rw[hd] at iC
 cases iC
 have kt:∀b o,H b=some (.tup o)->H' b=some (.tup o):=λb o e=>k b _ (λz=>by rw[z,hz] at e;cases e) e
 have hgc:g c≠[]:=λz=>by rw[h1 c z] at hq;cases hq
 refine⟨_,k d _ (λz=>by rw[z,hz] at hd;cases hd) hd,hl,λx hx=>?_,λx hx=>?_,h3⟩
 .by_cases z:x=c
  .rw[z,e1] at hx
   simp at hx
  .exact h1 x (by rw[<-e2 x z];exact hx)
 .by_cases z:x=c
  .subst z
   obtain⟨q',Pj,a,b,e,f⟩:=h2 x hgc
   rw[hq] at a
   cases a
   refine⟨q,zs++[u],hq,b,jq,?_⟩
   rw[e1]
   exact oq (hc.lists kt) (.cons hu .nil)
  .rw[e2 x z] at hx ⊢
   obtain⟨q',Pj,a,b,e,f⟩:=h2 x hx
   refine⟨q',Pj,a,b,k q' _ (λw=>?_) e,f.lists kt⟩
   subst w
   exact z (h3 x c q' a hq)
noncomputable def gP(R:List (List C2))(i j:Nat)(c:C2):List (Nat×Nat):=((List.range i).flatMap λi=>((List.range (ai R i).length).filter λk=>decide ((ai R i)[k]? = some c)).map λk=>(i,k))++((List.range j).filter λk=>decide ((ai R i)[k]? = some c)).map λk=>(i,k)
theorem Pk(h:(ai R i)[j]? = some c):gP R i (j+1) c=gP R i j c++[(i,j)]:=by
 unfold gP
 rw[ku,kD,dQ,tf]
 simp[h]
theorem Pl{x:C2}(h:(ai R i)[j]? = some c)(n:x≠c):gP R i (j+1) x=gP R i j x:=by
 unfold gP
 rw[ku,kD,dQ]
 simp[h,bu n]
theorem abN(R:List (List C2))(i:Nat)(c:C2):gP R (i+1) 0 c=gP R i (ai R i).length c:=by
 unfold gP
 rw[ku,JZ]
 simp
theorem abO(R:List (List C2))(c:C2):gP R R.length 0 c=cW R c:=by
 unfold gP cW
 simp
theorem Pm{R:List (List C2)}(h9:∀i,(ai R i).length<=9)(c:C2):∀i,((List.range i).flatMap λi=>((List.range (ai R i).length).filter λk=>decide ((ai R i)[k]? = some c)).map λk=>(i,k)).length<=9*i
 |0=>by simp
 |i+1=>by
  have ih:=Pm h9 c i
  rw[ku,JZ,cE]
  have e:=ji (λk=>decide ((ai R i)[k]? = some c)) (List.range (ai R i).length)
  rw[gR] at e
  have:=h9 i
  simp only[List.flatMap_cons,List.flatMap_nil,iQ,aq]
  lia
theorem abP(h9:∀i,(ai R i).length<=9)(i j:Nat)(c:C2):(gP R i j c).length<=9*i+j:=by
 have h1:=Pm h9 c i
 have e:=ji (λk=>decide ((ai R i)[k]? = some c)) (List.range j)
 rw[gR] at e
 unfold gP
 rw[cE,aq]
 lia
theorem abQ(R:List (List C2))(c:C2):gP R 0 0 c=[]:=rfl
theorem Pn(A:List α)(p:α->Bool)(d:α):((List.range A.length).filter λk=>p (A.getD k d)).map (λk=>A.getD k d)=A.filter p:=by
 have e:(List.range A.length).map (λk=>A.getD k d)=A:=by
  apply iS
  intro i
  rw[bq]
  by_cases h:i<A.length
  .rw[qH h,aS h,iR,bR,aS h,oP]
  .rw[cR (by simpa using h),cR (by simpa using h)]
   rfl
 have:=tw (f:=λk=>A.getD k d) (p:=p) (l:=List.range A.length)
 rw[e] at this
 rw[this]
 rfl
theorem Po{α β γ:Type}{S:β->γ->Prop}{g:α->β}:∀{l:List α}{m:List γ},Paired (λa y=>S (g a) y) l m->Paired S (l.map g) m
 |_,_,.nil=>.nil
 |_,_,.cons h t=>.cons h (Po t)
theorem abR{p:Nat×Nat->Bool}{us vs:List V}(h:bz H A us)(pr:Paired (λk y=>us[k]? = some y) ((List.range us.length).filter λk=>p (A.getD k (0,0))) vs):bz H (A.filter p) vs:=by
 rw[<-Pn A p (0,0)]
 have hl:=h.length
 rw[hl]
 refine Po (Paired.bJ pr λk y e=>?_)
 obtain⟨o,ho,hc⟩:=Paired.get h e
 rw[bR,ho]
 exact hc
theorem abS(G:GoodR R){k:Nat}(h:(ai R pl)[k]? = some c):(cW R c).length<=2:=by
 obtain⟨p,e,_⟩:=BQ G h
 have e1:(cW R c).countP (λp=>!decide (p.1=pl))=1:=by
  rw[List.countP_eq_length_filter]
  show(uQ R pl c).length=1
  rw[e]
  rfl
 have e2:(cW R c).countP (λp=>decide (p.1=pl))<=1:=by
  rw[List.countP_eq_length_filter]
  have nd:=(GF R c).filter (λp=>decide (p.1=pl))
  have u:∀y∈(cW R c).filter (λp=>decide (p.1=pl)),y=(pl,k):=λy my=>by
   obtain⟨m1,m2⟩:=b8.mp my
   have hy:=qc.mp m1
   have h1:y.1=pl:=fF m2
   rw[h1] at hy
   have h2:y.2=k:=(List.getElem?_inj (lA hy).2 (G.nd pl)).mp (hy.trans h.symm)
   exact ni h1 h2
  cases hl:(cW R c).filter (λp=>decide (p.1=pl)) with
  |nil=>exact bA _
  |cons a r=>
   have m:(pl,k)∈(cW R c).filter (λp=>decide (p.1=pl)):=by
    rw[<-u a (by rw[hl];exact bG),hl]
    exact bG
   rw[<-hl,σ4 nd m u]
   exact aN _
 have:=List.length_eq_countP_add_countP (l:=cW R c) (λp=>decide (p.1=pl))
 have e3:(cW R c).countP (λa=>decide ¬(decide (a.1=pl))=true)=(cW R c).countP (λp=>!decide (p.1=pl)):=by
  congr 1
  funext a
  by_cases z:a.1=pl <;> simp[z]
 rw[e3] at this
 lia
section
variable{w:World}
def Pp(K:Frag):Sp:=λvs H Q _=>∃(d t:Addr) (R:List (List C2)) (pl:Nat) (ys:List V) (ls:List Addr),vs=[.ref d,.int pl,.ref t]/\(∃n,jb H d (cW R) ls n)/\H t=some (.tup ys)/\bz H (ai R pl) ys/\pl<R.length/\GoodR R/\(ai R pl).length<=9/\
 ∀p zs H',H p=none->af H H'->H' p=some (.lst zs)->bz H' (kb R pl) zs->Q (.ref p) H'
theorem GP:bp ["through","place","cells","crossings","cell"] ["through","place","cells"] (aU (top 38)):={}
theorem abT(F:ba K "crossings_on" "crossings_on" (top 38) f fd):aO P w K mg base aQ 1 f fd ["through","place","cells"] (Pp K):=by
 refine F.bH GP λaF A outer s H vs Q E hr h=>?_
 refine hide λG_ aG=>?_
 obtain⟨d,t,R,pl,ys,ls,rfl,hD,ht,hC,bj,G,h9,q⟩:=h
 refine aG.k ?_
 have dr:=jU hr
 refine⟨_,(aw (aL 3 GP.nd (dN ah))
  (aw (cF (wJ (pv 2)) (bK 4 GP.nd)
  (az (eZ (fm jj PySem.F.slot_list_extend PySem.F.type_list_extend Vq (pv 3) (ab (i3 (js:=[1]) (ns:=["place"]) (dn (D8 dr (pv 0) (pv 4) (λ_ _=>rfl))) rfl rfl rfl rfl (λ_ _ _ _=>(nK (cg jQ (AV (K:=K) (rr:=wW) rfl cM (pv 0) aJ) (pv 1)))) (λ_ _ _ _=>(pv 0))) ah)))))
  (az (aW (pv 3))))),?_⟩
 try dsimp only[bC]
 refine hide λG_ bc=>?_
 obtain⟨nn,hD⟩:=hD
 obtain⟨kvs,hd,kY,kZ,BU,abU⟩:=hD.ex
 refine bc.k ?_
 have tZ:=hC.length
 refine⟨bA _,λp hp=>?_⟩
 have s0:af H (upd H p (.lst [])):=af.upd hp
 refine⟨_,rfl,t,rfl,⟨_,ax.of (s0 _ _ ht)⟩,?_⟩
 refine KA (K:=K) (xs:=ys) (λi O H2=>∃v4 zs,O=[some (.ref d),some (.int (pl:Int)),some (.ref t),some (.ref p),v4]/\af H H2/\H2 p=some (.lst zs)/\bz H2 (((ai R pl).take i).flatMap (uQ R pl)) zs/\zs.length<=i)
  ⟨none,[],rfl,s0,au,.nil,aN _⟩ ?_ ?_ ?_
 .rintro i O H2 _ ⟨v4,zs,rfl,s2,_⟩
  exact ax.of (s2 _ _ ht)
 .intro i x O H2 hx abV
  refine hide λG_ bT=>?_
  obtain⟨v4,zs,rfl,s2,gX,hz,sI⟩:=abV
  obtain⟨c,hc,b,rfl,hb⟩:=Paired.get hC hx
  have hi:=(bP.mp hx).1
  have nQ:H2 b=some (.tup ((kC c).map kV)):=s2 _ _ hb
  have o8:cW R c≠[]:=λz=>by
   have:=qc (p:=(pl,i)).mpr hc
   rw[z] at this
   cases this
  obtain⟨qa,us,abW,hql,fO,xl⟩:=BU c o8
  refine bT.k ?_
  have GQ:=xl.length
  have h2:=abS G hc
  have hg:dW H2 d (.ref b) (some (.ref qa)):=by rw[<-abW];exact dW.t (s2 _ _ hd) nQ
  have Pq:=s2 _ _ fO
  refine⟨_,rfl,.inl ⟨rfl,_,ak.of gX⟩,_,rfl,_,rfl,d,.ref qa,rfl,hg,qa,rfl,⟨_,ak.of Pq⟩,?_⟩
  refine l7 (jv (K:=K) (xs:=us)) (by lia) (λk=>!decide (((cW R c).getD k (0,0)).1=pl)) (λ_ k y _=>us[k]? = some y) (λH3 s3=>ak.of (s3 _ _ Pq)) (λ_ _ _ _ _ _ _ _ h=>h) ?_ ?_
  .intro D k y H3 Z0 Z hD hy s3 _ k0 k1
   obtain⟨o,ho,ob,rfl,pI⟩:=Paired.get xl hy
   have abX:=s3 _ _ (s2 _ _ pI)
   have Pr:(cW R c).getD k (0,0)=o:=by rw[bR,ho];rfl
   refine⟨_,rfl,ob,_,0,.int (o.1:Int),rfl,rfl,ax.of abX,rfl,_,rfl,rfl,_,rfl,?_⟩
   by_cases z:o.1=pl
   .rw[aI (by rw[z])]
    exact aR (k0 _ (af.cI _) (by show(!decide _)=false;rw[Pr,aI z];rfl))
   .rw[aK (λy=>z (by injection y with y;lia))]
    exact bt ⟨_,rfl,k1 _ _ (af.cI _) (by show(!decide _)=true;rw[Pr,aK z];rfl) hy⟩
  .intro D vs H3 hD bw s3 pr
   have ou:af H H3:=s2.trans s3
   have BV:bz H3 (uQ R pl c) vs:=by
    have e:=abR (A:=cW R c) (p:=λo=>!decide (o.1=pl)) (bz.mono ou xl) pr
    exact e
   have yn:=BV.length
   obtain⟨o1,eo,_⟩:=BQ G hc
   rw[eo] at yn
   have yn:vs.length=1:=yn.symm
   have kg:=s3 _ _ gX
   have nD:D≠p:=λz=>by rw[z,gX] at hD;cases hD
   refine⟨p,D,zs,vs,rfl,rfl,kg,bw,vT (jW (by lia)),?_⟩
   have hn:H p=none:=hp
   have sU:af H (upd H3 p (.lst (zs++vs))):=λb o e=>by rw[ao (bB e hn)];exact ou _ _ e
   refine⟨_,zs++vs,rfl,sU,au,?_,by rw[cE];lia⟩
   have tk:(ai R pl).take (i+1)=(ai R pl).take i++[c]:=by rw[eD,hc];rfl
   rw[tk,JZ]
   refine oq (bz.off ⟨_,kg⟩ (λb o hb e=>by rw[ao hb];exact e) (bz.mono s3 hz)) ?_
   simpa using bz.off ⟨_,kg⟩ (λb o hb e=>by rw[ao hb];exact e) BV
 .intro O H2 abY
  refine hide λG_ cN=>?_
  obtain⟨v4,zs,rfl,s2,gX,hz,sI⟩:=abY
  refine cN.k ?_
  rw[eE (by lia)] at hz
  exact⟨_,rfl,q p zs H2 hp s2 gX hz⟩
def Pt(K:Frag):Sp:=λvs H Q _=>∃(a:Addr) (R:List (List C2)) (xs:List V),vs=[.ref a]/\H a=some (.lst xs)/\Paired (kf H) R xs/\GoodR R/\R.length<=162/\(∀i,(ai R i).length<=9)/\
 ∀p zs H',H p=none->af H H'->H' p=some (.lst zs)->Paired (λi x=>∃q us,x = .ref q/\H q=none/\H' q=some (.lst us)/\bz H' (kb R i) us) (List.range R.length) zs->Q (.ref p) H'
theorem uU:bp ["rows","through","place","cells","at","cell"] ["rows"] (aU (top 37)):={}
theorem abZ(B:Bl mg)(F:ba K "crossings_of" "crossings_of" (top 37) f fd)(ab0:Fn P w K mg base "crossings_on" 1 (Pp K)):aO P w K mg base aQ 2 f fd ["rows"] (Pt K):=by
 refine F.bH uU λaF A outer s H vs Q E hr h=>?_
 refine hide λG_ aG=>?_
 obtain⟨a,R,xs,rfl,ha,hR,G,j8,h9,q⟩:=h
 refine aG.k ?_
 have dr:=jU hr
 refine⟨_,(aw (aL 1 uU.nd Ls)
  (aw (cF (EU (by rfl) B.xR (ab (pv 0) ah)) (jn rfl (dG (bK 2 uU.nd) (dG (bK 3 uU.nd) jm)))
  (az (cF (XH (by rfl) B.xR (ab (pv 3) ah)) (jn rfl (dG (bK 4 uU.nd) (dG (bK 5 uU.nd) jm)))
   (az (eZ (fm jj jF jG iA (Yj dr (pv 1) (pv 5) (dN ah) ⟨rfl,rfl,rfl,rfl⟩) (ab (gC (ab (pv 2) (ab (pv 4) ah))) ah)))))))
  (az (aW (LR (js:=[1]) (ns:=["through"]) (EU (by rfl) B.xR (ab (pv 0) ah)) rfl rfl rfl rfl (λ_ _ _ _=>ju) (λ_ _ _ _=>(aY ab0 hr (ab (pv 2) (ab (pv 0) (ab (pv 1) ah)))))))))),?_⟩
 try dsimp only[bC]
 intro d iC
 have eU:af H (upd H d (.dT [])):=af.upd iC
 have t0:jb (upd H d (.dT [])) d (gP R 0 0) [] 0:=⟨[],au,aN _,λ_ _=>rfl,λc hc=>absurd (abQ R c) hc,λc c' q h=>by cases h⟩
 generalize upd H d (.dT [])=H0 at eU t0
 have d7:=hR.length
 refine⟨_,rfl,a,xs,rfl,ak.of (eU _ _ ha),?_⟩
 refine My (K:=K) (xs:=xs) (λi O H2=>∃v2 v3 v4 v5 ls n,O=[some (.ref a),some (.ref d),v2,v3,v4,v5]/\af H H2/\(∀q∈ls,H q=none)/\n<=9*i/\jb H2 d (gP R i 0) ls n)
  ⟨none,none,none,none,[],0,rfl,eU,(λ_ m=>nomatch m),aN _,t0⟩ ?_ ?_ ?_
 .rintro i O H2 _ ⟨v2,v3,v4,v5,ls,n,rfl,s2,_⟩
  exact ak.of (s2 _ _ ha)
 .intro i x pt O H2 hx ab1 hpt
  refine hide λG_ bc=>?_
  obtain⟨v2,v3,v4,v5,ls,n,rfl,s2,qf,hn,T2⟩:=ab1
  obtain⟨row,hq,t,ys,rfl,ht,gJ⟩:=Paired.get hR hx
  refine bc.k ?_
  have hi:i<R.length:=by rw[d7];exact(bP.mp hx).1
  have jC:ai R i=row:=by unfold ai;rw[bR,hq];rfl
  have tZ:=gJ.length
  have h9i:=h9 i
  rw[jC] at h9i
  have su:af H2 (upd H2 pt (.tup [.int i,.ref t])):=af.upd hpt
  refine⟨pt,_,rfl,ax.of au,rfl,_,_,rfl,_,_,rfl,rfl,?_⟩
  have xt:=s2.trans su
  have Pu:=T2.mono su
  generalize upd H2 pt (.tup [.int i,.ref t])=H3 at su xt Pu
  refine⟨_,rfl,t,ys,rfl,ax.of (xt _ _ ht),?_⟩
  refine XJ (K:=K) (xs:=ys) (λj O H4=>∃v4 v5 ls n,O=[some (.ref a),some (.ref d),some (.int (i:Int)),some (.ref t),v4,v5]/\af H H4/\(∀q∈ls,H q=none)/\n<=9*i+j/\jb H4 d (gP R i j) ls n)
   ⟨v4,v5,ls,n,rfl,xt,qf,hn,Pu⟩ ?_ ?_ ?_
  .rintro j O H4 _ ⟨v4,v5,ls,n,rfl,s4,_⟩
   exact ax.of (s4 _ _ ht)
  .intro j y pu O H4 hy ab2 hpu
   refine hide λG_ bT=>?_
   obtain⟨v4,v5,ls,n,rfl,s4,qf,hn,T4⟩:=ab2
   obtain⟨c,hc,b,rfl,hb⟩:=Paired.get gJ hy
   refine bT.k ?_
   have hj:j<ys.length:=(bP.mp hy).1
   have BW:(ai R i)[j]? = some c:=by rw[jC];exact hc
   have sv:af H4 (upd H4 pu (.tup [.int j,.ref b])):=af.upd hpu
   refine⟨pu,_,rfl,ax.of au,rfl,_,_,rfl,_,_,rfl,rfl,?_⟩
   have s5:=s4.trans sv
   have T5:=T4.mono sv
   generalize upd H4 pu (.tup [.int j,.ref b])=H5 at sv s5 T5
   refine hide λG_ cN=>?_
   obtain⟨kvs,uV,kY,kZ,BU,abU⟩:=id T5.ex
   refine cN.k ?_
   have hb5:H5 b=some (.tup ((kC c).map kV)):=s5 _ _ hb
   refine⟨_,rfl,d,rfl,.inr ⟨kvs,.inl uV⟩,_,rfl,bA _,λp0 gm=>?_⟩
   have s6:af H5 (upd H5 p0 (.lst [])):=af.upd gm
   refine⟨kvs,kC c,b,s6 _ _ uV,rfl,s6 _ _ hb5,jW (by lia),λv hv=>?_,λhv=>?_⟩
   .have hg:gP R i j c≠[]:=λz=>by rw[kZ c z] at hv;cases hv
    refine hide λG_ fR=>?_
    obtain⟨qa,zs,uW,GR,yo,Pw⟩:=BU c hg
    refine fR.k ?_
    rw[uW] at hv
    cases hv
    have sI:=Pw.length
    have Px:=abP h9 i j c
    have T6:=T5.mono s6
    refine⟨.inl ⟨rfl,_,ak.of (s6 _ _ yo)⟩,_,rfl,_,rfl,(show 2<=sizeLine by decide),λu hu=>?_⟩
    have s7:af (upd H5 p0 (.lst [])) (upd (upd H5 p0 (.lst [])) u (.tup [.int (i:Int),.int (j:Int)])):=af.upd hu
    have BX:upd (upd H5 p0 (.lst [])) u (.tup [.int (i:Int),.int (j:Int)]) u=some (.tup [.int (i:Int),.int (j:Int)]):=au
    have T7:=T6.mono s7
    have yp:=s6.trans s7
    generalize upd (upd H5 p0 (.lst [])) u (.tup [.int (i:Int),.int (j:Int)])=H7 at s7 T7 yp BX
    have GS:=yp _ _ yo
    have nu:u≠qa:=λz=>by rw[z,GS] at BX;cases BX
    refine⟨qa,zs,_,rfl,rfl,GS,jW (by lia),?_⟩
    have uX:=qf qa GR
    refine⟨_,_,ls,n,rfl,λb o e=>?_,qf,by lia,T7.more (yp _ _ uV) uW GS (Pw.mono yp) (Pk BW) (λx z=>Pl BW z) au ⟨u,rfl,by rw[ao nu];exact BX⟩ λb o hb e=>by rw[ao hb];exact e⟩
    rw[ao (bB e uX)]
    exact yp _ _ (s5 _ _ e)
   .have hg:gP R i j c=[]:=zQ λz=>by
     obtain⟨qa,zs,uW,_⟩:=BU c z
     rw[uW] at hv
     cases hv
    have Py:d≠p0:=λz=>by rw[z,gm] at uV;cases uV
    have Pz:H p0=none:=by
     cases e:H p0 with
     |none=>rfl
     |some o=>rw[s5 _ _ e] at gm;cases gm
    have GU:upd (upd H5 p0 (.lst [])) d (.dT (putK kvs (kC c) (.ref p0))) p0=some (.lst []):=by rw[ao (bu Py)];exact au
    refine⟨.inl ⟨rfl,_,ak.of GU⟩,_,rfl,_,rfl,(show 2<=sizeLine by decide),λu hu=>?_⟩
    have PB:u≠p0:=λz=>by rw[z,GU] at hu;cases hu
    have nud:u≠d:=λz=>by rw[z,au] at hu;cases hu
    refine⟨p0,[],_,rfl,rfl,by rw[ao (bu PB)];exact GU,jW (by simp),?_⟩
    refine⟨_,_,p0::ls,n+1,rfl,λb o e=>?_,λx m=>?_,by lia,T5.fresh uV gm hg (by rw[Pk BW,hg];rfl) (λx z=>Pl BW z) ?_ au ⟨u,rfl,?_⟩ λb o h1 h2 e=>?_⟩
    .have e5:=s5 _ _ e
     have GV:b≠d:=bB e iC
     have uY:b≠p0:=bB e Pz
     have GW:b≠u:=λz=>by
      rw[z] at e5 GV uY
      rw[ao GV,ao uY,e5] at hu
      cases hu
     rw[ao uY,ao GW,ao GV,ao uY]
     exact e5
    .rcases b9.mp m with z | z
     .rw[z];exact Pz
     .exact qf x z
    .rw[ao Py,ao (bu nud),au]
    .rw[ao PB,au]
    .have GW:b≠u:=λz=>by
      rw[z] at e h1 h2
      rw[ao h1,ao h2,e] at hu
      cases hu
     rw[ao h2,ao GW,ao h1,ao h2]
     exact e
  .intro O H4 ab3
   refine hide λG_ oa=>?_
   obtain⟨v4,v5,ls,n,rfl,s4,qf,hn,T4⟩:=ab3
   refine oa.k ?_
   refine⟨_,_,_,_,ls,n,rfl,s4,qf,by lia,?_⟩
   have eg:gP R (i+1) 0=gP R i ys.length:=by
    funext c
    rw[abN,jC,tZ]
   rw[eg]
   exact T4
 .intro O H2 ab4
  refine hide λG_ og=>?_
  obtain⟨v2,v3,v4,v5,ls,n,rfl,s2,qf,hn,T2⟩:=ab4
  refine og.k ?_
  rw[<-d7] at T2
  have T3:jb H2 d (cW R) ls n:=by
   have eg:gP R R.length 0=cW R:=funext λc=>abO R c
   rw[<-eg]
   exact T2
  refine⟨_,rfl,a,xs,rfl,ak.of (s2 _ _ ha),?_⟩
  refine XN (by lia) (ak.of (s2 _ _ ha)) (λ_=>true) (λD i y H5=>∃qa us,y = .ref qa/\qa≠D/\H qa=none/\H5 qa=some (.lst us)/\bz H5 (kb R i) us) ?_ ?_ ?_
  .intro D i y Ha Hb hD ho k ab5
   refine hide λG_ yq=>?_
   obtain⟨qa,us,rfl,n1,n2,n3,n4⟩:=ab5
   refine yq.k ?_
   exact⟨qa,us,rfl,n1,n2,k _ _ n1 n3,n4.off ho k⟩
  .intro D i x H5 Z0 Z hD hx s5 ho k0 k1
   refine hide λG_ GX=>?_
   obtain⟨row,hq,t,ys,rfl,ht,gJ⟩:=Paired.get hR hx
   refine GX.k ?_
   have hi:i<R.length:=by rw[d7];exact(bP.mp hx).1
   have jC:ai R i=row:=by unfold ai;rw[bR,hq];rfl
   have GY:=s2.trans s5
   refine bt (B:=Z0 H5) ⟨_,rfl,_,rfl,_,rfl,d,t,R,i,ys,ls,rfl,⟨n,T3.mono s5⟩,GY _ _ ht,by rw[jC];exact gJ.mono GY,hi,G,h9 i,λqa us H6 uX s6 hqs hqc=>?_⟩
   obtain⟨o,ho⟩:=ho
   refine k1 _ _ s6 rfl ⟨qa,us,rfl,(λz=>by rw[z,ho] at uX;cases uX),?_,hqs,hqc⟩
   cases e:H qa with
   |none=>rfl
   |some o'=>rw[GY _ _ e] at uX;cases uX
  .intro D zs H5 hD bw s5 pr
   refine q D zs H5 ?_ (s2.trans s5) bw ?_
   .cases e:H D with
    |none=>rfl
    |some o'=>rw[s2 _ _ e] at hD;cases hD
   .rw[List.filter_eq_self.mpr (λ_ _=>rfl)] at pr
    rw[d7]
    exact Paired.bJ pr λi y h=>let ⟨qa,us,e1,_,e3,e4,e5⟩:=h;⟨qa,us,e1,e3,e4,e5⟩
end
noncomputable def gn(sh ce cr wo kn:V):List (Str×V):=aX "known" kn (aX "worths" wo (aX "crossings" cr (aX "cells" ce (aX "sheet" sh []))))
theorem BY(sh ce cr wo kn:V):(gn sh ce cr wo kn).lookup ("known":Str)=some kn:=by
 unfold gn
 rw[cL,aA rfl]
theorem ab6(sh ce cr wo kn:V):(gn sh ce cr wo kn).lookup ("crossings":Str)=some cr:=by
 unfold gn
 rw[cL,av (by decide +kernel),cL,av (by decide +kernel),cL,aA rfl]
theorem PD(sh ce cr wo kn:V):(gn sh ce cr wo kn).lookup ("cells":Str)=some ce:=by
 unfold gn
 rw[cL,av (by decide +kernel),cL,av (by decide +kernel),cL,av (by decide +kernel),cL,aA rfl]
theorem ab7(sh ce cr wo kn:V):(gn sh ce cr wo kn).lookup ("sheet":Str)=some sh:=by
 unfold gn
 rw[cL,av (by decide +kernel),cL,av (by decide +kernel),cL,av (by decide +kernel),cL,av (by decide +kernel),cL,aA rfl]
def gK(Z:Addr->Prop)(H:Hp)(ks:List Str)(wf:Str->Int)(t:Str)(v:V):Prop := ∃q ws,v = .ref q/\Z q/\H q=some (.lst (ws.map V.str))/\lB ks wf t ws/\ws.length<=64
structure ij(Z:Addr->Prop)(M:Str->Prop)(H:Hp)(ks:List Str)(wf:Str->Int)(kvs:List (Key×V)):Prop where
 nd:(kvs.map (·.1)).Nodup
 key:∀k∈kvs.map (·.1),∃x,k=Sum.inr x/\M x
 fit:∀x v,aP kvs (Sum.inr x:Key)=some v->gK Z H ks wf x v
def BZ(M:Str->Prop):Prop := ∀l:List Key,l.Nodup->(∀k∈l,∃x,k=Sum.inr x/\M x)->l.length<sizeLine
theorem gK.keep{t:Str}(k:∀b o,H b=some (.lst o)->Z b->H' b=some (.lst o))(h:gK Z H ks wf t v):gK Z H' ks wf t v:=let ⟨q,ws,e,z,a,b,c⟩:=h;⟨q,ws,e,z,k _ _ a z,b,c⟩
theorem ab8{k:Key}(h:aP kvs k=none):k∉kvs.map (·.1):=by
 induction kvs with
 |nil=>simp
 |cons p r ih=>
  obtain⟨k',v⟩:=p
  intro m
  unfold aP at h ih
  by_cases z:k'=k
  .simp[tj,z] at h
  .simp only[tj,aK z] at h
   rcases b9.mp m with w | w
   .exact z w.symm
   .exact ih h w
theorem PF(p:Str->Bool):((List.range ws.length).filter λk=>p (ws.getD k ⟨#[]⟩)).map (λk=>V.str (ws.getD k ⟨#[]⟩))=(ws.filter p).map V.str:=by
 rw[<-Pn ws p ⟨#[]⟩,jH]
 rfl
section
variable{w:World}
def PH(K:Frag)(C:Addr):Sp:=λvs H Q _=>∃(g dx l kn:Addr) (sh ce cr wo:V) (ws ks:List Str) (wf:Str->Int) (t:Str) (a ch:Nat) (kvs:List (Key×V)) (Z:Addr->Prop) (M:Str->Prop),vs=[.ref g,.ref l,.str (bI t a ch),.int (a:Int)]/\H g=some (.ins C dx (gn sh ce cr wo (.ref kn)))/\H kn=some (.dK kvs)/\ij Z M H ks wf kvs/\BZ M/\
 H l=some (.lst (ws.map V.str))/\lB ks wf t ws/\ws.length<=64/\a<t.length/\t.length<=1000/\t.cps.toList.getD a 0=46/\ch≠46/\M (bI t a ch)/\(∀q,H q=none->Z q)/\
 ∀H' uZ v,(∀b o,b≠kn->H b=some o->H' b=some o)->H' kn=some (.dK uZ)->ij Z M H' ks wf uZ->gK Z H' ks wf (bI t a ch) v->Q v H'
theorem ab9:bp ["self","words","signs","at"] ["self","words","signs","at"] (aU (inClass (top 34) 1)):={}
theorem aca(F:ba K "narrowed" "Ground.narrowed" (inClass (top 34) 1) f fd)(T:cG K C)(nk:bN K C "known"):aO P w K mg base aQ 1 f fd ["self","words","signs","at"] (PH K C):=by
 refine F.bH ab9 λaF A outer s H vs Q E hr h=>?_
 refine hide λG_ aG=>?_
 obtain⟨g,dx,l,kn,sh,ce,cr,wo,ws,ks,wf,t,a,ch,kvs,Z,M,rfl,hg,hk,hK,hM,hl,hF,da,ha,ht,cC,hch,hm,hZ,q⟩:=h
 refine aG.k ?_
 have dr:=jU hr
 refine⟨_,(aw (bS (Ab (Lr dr (pv 2) (cH (pv 0) rfl)))
  (az (Az dr (cH (pv 0) rfl) (pv 2) (i3 (js:=[3,2]) (ns:=["at","signs"]) (dn (pv 1)) rfl rfl rfl rfl (λ_ _ _ _=>(nK (cg lW (bf iX (pv 0) (pv 1)) (bf iX (pv 2) (pv 1))))) (λ_ _ _ _=>(pv 0))) rfl))
  bX)
  (az (aW (D8 dr (cH (pv 0) rfl) (pv 2) (λ_ _=>rfl))))),?_⟩
 try dsimp only[bC]
 refine⟨_,rfl,_,rfl,g,C,dx,_,_,rfl,hg,T,nk,BY ..,kn,_,rfl,dW.k (k:=Sum.inr (bI t a ch)) hk,_,rfl,?_⟩
 cases hv:aP kvs (Sum.inr (bI t a ch):Key) with
 |some v=>exact aR ⟨_,rfl,g,C,dx,_,_,rfl,hg,T,nk,BY ..,_,rfl,kn,v,rfl,hv ▸ dW.k (k:=Sum.inr (bI t a ch)) hk,q H kvs v (λ_ _ _ e=>e) hk hK (hK.fit _ _ hv)⟩
 |none=>
  refine bt ⟨_,rfl,l,rfl,⟨_,ak.of hl⟩,?_⟩
  have g9:(bI t a ch).length=t.length:=xN ha
  have hsa:(bI t a ch).cps.toList[a]? = some ch:=by
   have h1:=BR (x:=t) (j:=a) (ch:=ch) (k:=a) ha ha
   rw[aA rfl,bR] at h1
   have h2:a<(bI t a ch).cps.toList.length:=by show a<(bI t a ch).cps.size;exact(show a<(bI t a ch).length from by lia)
   rw[aS h2] at h1 ⊢
   exact eX some h1
  refine l7 (jv (K:=K) (xs:=ws.map V.str)) (by rw[aq];lia) (λk=>decide ((ws.getD k ⟨#[]⟩).cps.toList.getD a 0=ch)) (λ_ k y _=>y = .str (ws.getD k ⟨#[]⟩)) (λH3 s3=>ak.of (s3 _ _ hl)) (λ_ _ _ _ _ _ _ _ h=>h) ?_ ?_
  .intro D k y H3 Z0 Z' hD hy s3 _ k0 k1
   rw[bq] at hy
   obtain⟨x,hx,rfl⟩:=gu.mp hy
   have ow:ws.getD k ⟨#[]⟩=x:=by rw[bR,hx];rfl
   have yr:=((hF.mem x).mp (bh hx)).2
   have d7:=(fV.mp yr).1
   obtain⟨c,hc⟩:∃c,x.cps.toList[a]? = some c:=⟨_,aS (show a<x.cps.toList.length from by show a<x.cps.size;exact(show a<x.length from by lia))⟩
   refine⟨_,rfl,_,rfl,x,_,c,rfl,rfl,dq (by lia),de hc,_,rfl,_,rfl,_,_,ch,rfl,rfl,dq (by lia),de hsa,rfl,_,rfl,?_⟩
   rw[r9]
   by_cases z:c=ch
   .rw[aI z]
    exact bt ⟨_,rfl,k1 _ _ (af.cI _) (by show decide _=true;rw[ow,bR,hc];exact aI z) (by rw[ow])⟩
   .rw[aK z]
    exact aR (k0 _ (af.cI _) (by show decide _=false;rw[ow,bR,hc];exact aK z))
  .intro D ys H3 hD bw s3 pr
   have e:=Bz pr
   rw[aq,PF (λx=>decide (x.cps.toList.getD a 0=ch))] at e
   subst e
   have eF:=s3 _ _ hk
   have nkD:D≠kn:=λz=>by rw[z,hk] at hD;cases hD
   refine⟨_,rfl,g,C,dx,_,_,rfl,s3 _ _ hg,T,nk,BY ..,_,rfl,kn,_,rfl,l6.k (k:=Sum.inr (bI t a ch)) eF ?_,?_⟩
   .have:=hM (kvs.map (·.1)) hK.nd hK.key
    rw[aq] at this
    exact this
   have yt:upd H3 kn (.dK (putK kvs (Sum.inr (bI t a ch)) (.ref D))) g=some (.ins C dx (gn sh ce cr wo (.ref kn))):=by
    rw[ao (λz=>by rw[z,hk] at hg;cases hg)]
    exact s3 _ _ hg
   have nw:=hF.narrow ha cC hch
   have cV:gK Z (upd H3 kn (.dK (putK kvs (Sum.inr (bI t a ch)) (.ref D)))) ks wf (bI t a ch) (.ref D):=⟨D,_,rfl,hZ D hD,by rw[ao nkD];exact bw,nw,bL (ji _ _) da⟩
   refine⟨_,rfl,g,C,dx,_,_,rfl,yt,T,nk,BY ..,_,rfl,kn,.ref D,rfl,?_,q _ (putK kvs (Sum.inr (bI t a ch)) (.ref D)) (.ref D) (λb o hb e=>by rw[ao hb];exact s3 _ _ e) au ⟨?_,?_,λx v hx=>?_⟩ cV⟩
   .have e2:aP (putK kvs (Sum.inr (bI t a ch):Key) (.ref D)) (Sum.inr (bI t a ch))=some (.ref D):=by rw[nG,aA rfl]
    exact e2 ▸ dW.k (k:=Sum.inr (bI t a ch)) au
   .rw[tV _ hv,dQ]
    refine oX.mpr ⟨hK.nd,by simp,λx mx y my z=>?_⟩
    have e3:y=Sum.inr (bI t a ch):=by simpa using my
    rw[z,e3] at mx
    exact ab8 hv mx
   .rw[tV _ hv,dQ]
    intro k mk
    rcases cX.mp mk with z | z
    .exact hK.key k z
    .exact⟨_,by simpa using z,hm⟩
   .rw[nG] at hx
    by_cases z:(Sum.inr x:Key)=Sum.inr (bI t a ch)
    .rw[aA z] at hx
     cases hx
     injection z with z
     rw[z]
     exact cV
    .rw[av z] at hx
     refine(hK.fit x v hx).keep λb o e _=>?_
     rw[ao (λw=>by rw[w,hk] at e;cases e)]
     exact s3 _ _ e
end
noncomputable def iL(g p f:V):List (Str×V):=aX "fits" f (aX "patterns" p (aX "ground" g []))
theorem B1(g p f:V):(iL g p f).lookup ("fits":Str)=some f:=by
 unfold iL
 rw[cL,aA rfl]
theorem yu(g p f:V):(iL g p f).lookup ("patterns":Str)=some p:=by
 unfold iL
 rw[cL,av (by decide +kernel),cL,aA rfl]
theorem yw(g p f:V):(iL g p f).lookup ("ground":Str)=some g:=by
 unfold iL
 rw[cL,av (by decide +kernel),cL,av (by decide +kernel),cL,aA rfl]
section
variable{w:World}
def GZ(C:Addr):Sp:=λvs H Q _=>∃(s dx:Addr) (g p f:V),vs=[.ref s,g,p,f]/\H s=some (.ins C dx [])/\∀H':Hp,H' s=some (.ins C dx (iL g p f))->(∀b o,b≠s->H b=some o->H' b=some o)->Q .aB H'
theorem acb:bp ["self","ground","patterns","fits"] ["self","ground","patterns","fits"] (aU (inClass (top 35) 0)):={}
theorem acd(F:ba K "__init__" "Standing.__init__" (inClass (top 35) 0) f fd)(T:cG K C)(ng:bN K C "ground")(np:bN K C "patterns")(nf:bN K C "fits"):aO P w K mg base aQ 1 f fd ["self","ground","patterns","fits"] (GZ C):=by
 refine F.bH acb λaF A outer s H vs Q E hr h=>?_
 refine hide λG_ aG=>?_
 obtain⟨s,dx,g,p,f,rfl,hs,q⟩:=h
 refine aG.k ?_
 refine⟨_,(aw (kL (pv 0) (pv 1) rfl)
  (aw (kL (pv 0) (pv 2) rfl)
  (az (kL (pv 0) (pv 3) rfl)))),?_⟩
 try dsimp only[bC]
 refine⟨_,rfl,_,rfl,s,C,dx,[],rfl,hs,T,ng,(by show 0<1000;decide),?_⟩
 refine⟨_,rfl,_,rfl,s,C,dx,_,rfl,au,T,np,(by show 1<1000;decide),?_⟩
 refine⟨_,rfl,_,rfl,s,C,dx,_,rfl,au,T,nf,(by
  have h:¬(Str.ofString "ground")=Str.ofString "patterns":=by decide +kernel
  show(aX (Str.ofString "patterns") p [(Str.ofString "ground",g)]).length<1000
  rw[aX,av h,aX]
  show 2<1000
  decide),?_⟩
 exact q _ au λb o hb e=>by rw[ao hb,ao hb,ao hb];exact e
theorem ace(h:x∈ps):iY (.str x) (ps.map V.str)=true:=by
 unfold iY
 rw[Dx,tm]
 exact⟨x,h,by simp[gW]⟩
theorem acf(h:x∉ps):iY (.str x) (ps.map V.str)=false:=by
 unfold iY
 rw[Dx,JG]
 intro y my z
 have z:gW (.str y) (.str x)=true:=z
 have:y=x:=by simpa[gW] using z
 exact h (this ▸ my)
theorem acg(ss:List Str)(j:Nat):gV (ss.map V.str) none (some (j:Int))=(ss.take j).map V.str:=by
 unfold gV
 rw[HT.La,HT.Au,List.drop_zero,Nat.sub_zero,List.map_take,aq]
 rcases Nat.le_total j ss.length with h | h
 .rw[Nat.min_eq_left h]
 .rw[Nat.min_eq_right h,eE (by simp),eE (by simpa using h)]
theorem ach(ss:List Str)(j:Nat):gV (ss.map V.str) (some (j:Int)) none=(ss.drop j).map V.str:=by
 unfold gV
 rw[HT.La,HT.Au,List.map_drop,aq]
 rcases Nat.le_total j ss.length with h | h
 .rw[Nat.min_eq_left h,eE (by simp)]
 .rw[Nat.min_eq_right h,List.drop_of_length_le (by simp),List.drop_of_length_le (by simpa using h),List.take_nil]
noncomputable def fW(ps:List Str)(pl:Nat):List Str:=ps.take pl++ps.drop (pl+1)
def G0(K:Frag)(C:Addr):Sp:=λvs H Q _=>∃(s dx p fl l:Addr) (g:V) (pats ws:List Str) (fs:List V) (pl:Nat),vs=[.ref s,.int (pl:Int)]/\H s=some (.ins C dx (iL g (.ref p) (.ref fl)))/\H p=some (.lst (pats.map V.str))/\H fl=some (.lst fs)/\fs[pl]? = some (.ref l)/\H l=some (.lst (ws.map V.str))/\pl<pats.length/\pats.length<=200/\ws.length<=64/\
 ∀q H',H q=none->af H H'->H' q=some (.lst ((ws.filter λx=>!decide (x∈fW pats pl)).map V.str))->Q (.ref q) H'
theorem PJ:bp ["self","place","others"] ["self","place"] (aU (inClass (top 35) 3)):={}
theorem aci(F:ba K "left" "Standing.left" (inClass (top 35) 3) f fd)(T:cG K C)(np:bN K C "patterns")(nf:bN K C "fits"):aO P w K mg base aQ 1 f fd ["self","place"] (G0 K C):=by
 refine F.bH PJ λaF A outer s H vs Q E hr h=>?_
 refine hide λG_ aG=>?_
 obtain⟨s,dx,p,fl,l,g,pats,ws,fs,pl,rfl,hs,hp,fM,PK,hl,bj,qg,da,q⟩:=h
 refine aG.k ?_
 refine⟨_,(aw (aL 2 PJ.nd (aT Ax (l3 Aw (cH (pv 0) rfl) l0 (jS (pv 1))) (l3 Aw (cH (pv 0) rfl) (jS (aT fh (pv 1) aJ)) l0)))
  (az (aW (i3 (js:=[2]) (ns:=["others"]) (dn (bf eQ (cH (pv 0) rfl) (pv 1))) rfl rfl rfl rfl (λ_ _ _ _=>(nK (Ey (K:=K) (rr:=λK=>wZ K true) rfl w6 (pv 0) (pv 1)))) (λ_ _ _ _=>(pv 0)))))),?_⟩
 try dsimp only[bC]
 have d1:pl<fs.length:=(bP.mp PK).1
 refine⟨_,rfl,s,C,dx,_,_,rfl,hs,T,np,yu ..,_,rfl,_,rfl,p,_,rfl,ak.of hp,λq1 e1=>?_⟩
 rw[acg]
 have s1:af H (upd H q1 (.lst ((pats.take pl).map V.str))):=af.upd e1
 have h1:upd H q1 (.lst ((pats.take pl).map V.str)) q1=some (.lst ((pats.take pl).map V.str)):=au
 generalize upd H q1 (.lst ((pats.take pl).map V.str))=H1 at s1 h1
 refine⟨_,rfl,s,C,dx,_,_,rfl,s1 _ _ hs,T,np,yu ..,_,rfl,_,_,rfl,rfl,_,rfl,p,_,rfl,ak.of (s1 _ _ hp),λq2 e2=>?_⟩
 rw[show((pl:Int)+1)=((pl+1:Nat):Int) by lia,ach]
 have s2:af H1 (upd H1 q2 (.lst ((pats.drop (pl+1)).map V.str))):=af.upd e2
 have h2:upd H1 q2 (.lst ((pats.drop (pl+1)).map V.str)) q2=some (.lst ((pats.drop (pl+1)).map V.str)):=au
 generalize upd H1 q2 (.lst ((pats.drop (pl+1)).map V.str))=H2 at s2 h2
 refine⟨q1,q2,_,_,rfl,rfl,s2 _ _ h1,h2,vT (jW (by rw[aq,aq,fC,zw];lia)),λq3 e3=>?_⟩
 have s3:af H2 (upd H2 q3 (.lst ((pats.take pl).map V.str++(pats.drop (pl+1)).map V.str))):=af.upd e3
 have h3:upd H2 q3 (.lst ((pats.take pl).map V.str++(pats.drop (pl+1)).map V.str)) q3=some (.lst ((fW pats pl).map V.str)):=by rw[au];unfold fW;rw[dQ]
 generalize upd H2 q3 (.lst ((pats.take pl).map V.str++(pats.drop (pl+1)).map V.str))=H3 at s3 h3
 have d8:=(s1.trans s2).trans s3
 refine⟨_,rfl,s,C,dx,_,_,rfl,d8 _ _ hs,T,nf,B1 ..,_,rfl,fl,_,_,.ref l,rfl,rfl,ak.of (d8 _ _ fM),de PK,l,rfl,⟨_,ak.of (d8 _ _ hl)⟩,?_⟩
 refine l7 (jv (K:=K) (xs:=ws.map V.str)) (by rw[aq];lia) (λk=>!decide (ws.getD k ⟨#[]⟩∈fW pats pl)) (λ_ k y _=>y = .str (ws.getD k ⟨#[]⟩)) (λH4 s4=>ak.of (s4 _ _ (d8 _ _ hl))) (λ_ _ _ _ _ _ _ _ h=>h) ?_ ?_
 .intro D k y H4 Z0 Z' hD hy s4 _ k0 k1
  rw[bq] at hy
  obtain⟨x,hx,rfl⟩:=gu.mp hy
  have ow:ws.getD k ⟨#[]⟩=x:=by rw[bR,hx];rfl
  have dk:((fW pats pl).map V.str).all l4=true:=by rw[tu];exact kr.mpr λ_ _=>rfl
  refine⟨_,rfl,_,rfl,q3,_,rfl,.inl (ak.of (s4 _ _ h3)),rfl,dk,_,rfl,?_⟩
  rw[aA rfl]
  by_cases z:x∈fW pats pl
  .have e:iY (.str x) ((fW pats pl).map V.str)=true:=ace z
   rw[e]
   exact aR (k0 _ (af.cI _) (by show(!decide _)=false;rw[ow,aI z];rfl))
  .have e:iY (.str x) ((fW pats pl).map V.str)=false:=acf z
   rw[e]
   exact bt ⟨_,rfl,k1 _ _ (af.cI _) (by show(!decide _)=true;rw[ow,aK z];rfl) (by rw[ow])⟩
 .intro D ys H4 hD bw s4 pr
  have e:=Bz pr
  rw[aq,PF (λx=>!decide (x∈fW pats pl))] at e
  subst e
  refine q D H4 ?_ (d8.trans s4) bw
  cases e:H D with
  |none=>rfl
  |some o=>rw[d8 _ _ e] at hD;cases hD
end
theorem acj{q:Addr}(h:H q=some (.lst (ws.map V.str))):DL K (.ref q) H (!decide (ws=[])):=by
 refine Or.inl ⟨_,ak.of h,?_⟩
 cases ws <;> rfl
section
variable{w:World}
def PL(H:Hp)(dE:List (List Str))(fs:List V):Prop:=Paired (λws v=>∃q,v=V.ref q/\H q=some (.lst (ws.map V.str))/\ws.length<=64) dE fs
def G2(C:Addr):Sp:=λvs H Q _=>∃(s dx p fl:Addr) (g:V) (pats:List Str) (dE:List (List Str)) (fs:List V),vs=[.ref s]/\H s=some (.ins C dx (iL g (.ref p) (.ref fl)))/\H p=some (.lst (pats.map V.str))/\H fl=some (.lst fs)/\PL H dE fs/\dE.length=pats.length/\pats.length<=200/\(∀t∈pats,t.length<=1000)/\
 (((∀t∈pats,46∉t.cps.toList)/\pats.Nodup/\∀ws∈dE,ws≠[])->∀H',af H H'->Q .aB H')/\
 ∀pl H',pl<pats.length->((46∈(pats.getD pl ⟨#[]⟩).cps.toList/\∀j,j<pats.length->46∈(pats.getD j ⟨#[]⟩).cps.toList->(dE.getD pl []).length<=(dE.getD j []).length)\/(46∉(pats.getD pl ⟨#[]⟩).cps.toList/\(pats.getD pl ⟨#[]⟩∈pats.take pl\/dE.getD pl []=[])))->af H H'->Q (.int (pl:Int)) H'
theorem yx:bp ["self","sizes","seen","place","signs"] ["self"] (aU (inClass (top 35) 2)):={}
theorem ack(B:Bl mg)(n8:Cn mg "FREE" (.str "."))(F:ba K "narrowest" "Standing.narrowest" (inClass (top 35) 2) f fd)(T:cG K C)(np:bN K C "patterns")(nf:bN K C "fits"):aO P w K mg base aQ 1 f fd ["self"] (G2 C):=by
 refine F.bH yx λaF A outer s H vs Q E hr h=>?_
 have dr:=jU hr
 have hu:=hr.units
 have G3:(A.deeper (PyProof.Rows.envOfC "Standing.narrowest" (aU (inClass (top 35) 2)) s.heap.objs.size f aF)).units+4<cLine:=by have:=hr.un;lia
 refine⟨_,(aw (aL 1 yx.nd (dN ah))
  (aw (aL 2 yx.nd D9)
  (aw (cF (EU (by rfl) B.xR (ab (cH (pv 0) rfl) ah)) (jn rfl (dG (bK 3 yx.nd) (dG (bK 4 yx.nd) jm)))
  (az (bS (cg Am (kT n8 (by rfl)) (pv 4))
   (az (eZ (fm jj jF jG iA (pv 1) (ab (gC (ab (br dg (by rfl) B.b7 b0 (ab (bf eQ (cH (pv 0) rfl) (pv 3)) ah)) (ab (pv 3) ah))) ah))))
   (az (bS (PW.pt (jl (Ab (Lq dr (pv 4) (pv 2))) (jN (gT (tQ (bf eQ (cH (pv 0) rfl) (pv 3)) (by intro _;rfl))))))
    (az (aW (pv 3)))
    (az (Az dr (pv 2) (pv 4) gh rfl)))))))
  (aw (bS (gT (tQ (pv 1) (by intro _;rfl)))
  (az (aW lS))
  bX)
  (az (aW (bf cM (br (Yn rfl G3) (by rfl) B.Zn WQ (ab (pv 1) ah)) aJ))))))),?_⟩
 try dsimp only[bC]
 refine hide λG_ aG=>?_
 obtain⟨s0,dx,p,fl,g,pats,dE,fs,rfl,hs,hp,fM,hF,nH,qg,hlen,qn,qp⟩:=h
 refine aG.k ?_
 have G4:=hF.length
 refine⟨bA _,λsz hsz sn hsn=>?_⟩
 have sa:af H (upd H sz (.lst [])):=af.upd hsz
 have sb:af (upd H sz (.lst [])) (upd (upd H sz (.lst [])) sn (.dK [])):=af.upd hsn
 have G5:sz≠sn:=λz=>by rw[<-z,au] at hsn;cases hsn
 have PM:upd (upd H sz (.lst [])) sn (.dK []) sz=some (.lst (([]:List Addr).map V.ref)):=by rw[ao G5];exact au
 have rp:upd (upd H sz (.lst [])) sn (.dK []) sn=some (.dK []):=au
 have acm:H sn=none:=by
  cases e:H sn with
  |none=>rfl
  |some o=>rw[sa _ _ e] at hsn;cases hsn
 have sm:=sa.trans sb
 generalize upd (upd H sz (.lst [])) sn (.dK [])=H0 at sm PM rp
 refine⟨_,rfl,s0,C,dx,_,_,rfl,sm _ _ hs,T,np,yu ..,p,_,rfl,ak.of (sm _ _ hp),?_⟩
 refine My (K:=K) (xs:=pats.map V.str) (λi O H2=>∃(v3 v4:Option V) (ts:List Addr) (ps:List (Int×Int)) (kvs:List (Key×V)),O=[some (.ref s0),some (.ref sz),some (.ref sn),v3,v4]/\af H H2/\H2 sz=some (.lst (ts.map V.ref))/\Paired (λt p=>H2 t=some (.tup [.int p.1,.int p.2])) ts ps/\ps.length<=i/\(∀q∈ps,∃k:Nat,q.2=(k:Int)/\k<pats.length/\46∈(pats.getD k ⟨#[]⟩).cps.toList/\q.1=((dE.getD k []).length:Int))/\(∀k,k<i->46∈(pats.getD k ⟨#[]⟩).cps.toList->∃q∈ps,q.1=((dE.getD k []).length:Int))/\H2 sn=some (.dK kvs)/\kvs.length<=i/\(∀x:Str,(aP kvs (Sum.inr x:Key)).isSome=true↔x∈pats.take i/\46∉x.cps.toList)/\(ps=[]->(∀t∈pats.take i,46∉t.cps.toList)/\(pats.take i).Nodup/\∀ws∈dE.take i,ws≠[]))
  ⟨none,none,[],[],[],rfl,sm,PM,.nil,aN _,(λ_ m=>nomatch m),(λk hk=>absurd hk (gQ _)),rp,aN _,λx=>⟨λz=>(by cases z),λz=>(by simp at z)⟩,λ_=>⟨λ_ m=>(by simp at m),(by simp),λ_ m=>(by simp at m)⟩⟩ ?_ ?_ ?_
 .rintro i O H2 _ ⟨v3,v4,ts,ps,kvs,rfl,s2,_⟩
  exact ak.of (s2 _ _ hp)
 .intro i x pt O H2 hx acn hpt
  refine hide λG_ bc=>?_
  obtain⟨v3,v4,ts,ps,kvs,rfl,s2,nS,qh,bj,B2,B3,qY,kY,rH,yz⟩:=acn
  rw[bq] at hx
  obtain⟨t,ht,rfl⟩:=gu.mp hx
  have hi:i<pats.length:=(bP.mp ht).1
  have yA:pats.getD i ⟨#[]⟩=t:=by rw[bR,ht];rfl
  have gB:pats.take (i+1)=pats.take i++[t]:=by rw[eD,ht];rfl
  obtain⟨ws,hws⟩:∃ws,dE[i]? = some ws:=⟨_,aS (by lia)⟩
  have qb:dE.getD i []=ws:=by rw[bR,hws];rfl
  have hwk:dE.take (i+1)=dE.take i++[ws]:=by rw[eD,hws];rfl
  obtain⟨fv,yB⟩:∃fv,fs[i]? = some fv:=⟨_,aS (by lia)⟩
  obtain⟨fX,PN,qa,rfl,fO,B4⟩:=Paired.get hF yB
  refine bc.k ?_
  rw[hws] at PN
  cases PN
  have su:af H2 (upd H2 pt (.tup [.int i,.str t])):=af.upd hpt
  refine⟨pt,_,rfl,ax.of au,rfl,_,_,rfl,_,_,rfl,rfl,?_⟩
  have s3:=s2.trans su
  have u0:=su _ _ nS
  have yC:=su _ _ qY
  have G6:=Paired.bJ qh λa b e=>su _ _ e
  generalize upd H2 pt (.tup [.int i,.str t])=H3 at su s3 u0 yC G6
  have e46:(!(Builtin.Str.occurrences t (Str.ofString ".") 0 t.length 1).isEmpty)=decide (46∈t.cps.toList):=zU t 46
  refine⟨_,rfl,_,t,rfl,rfl,_,rfl,?_⟩
  rw[e46]
  by_cases hd:46∈t.cps.toList
  .rw[aI hd]
   refine bt ⟨_,rfl,.inl ⟨rfl,_,ak.of u0⟩,_,rfl,s0,C,dx,_,_,rfl,s3 _ _ hs,T,nf,B1 ..,_,rfl,fl,_,_,.ref qa,rfl,rfl,ak.of (s3 _ _ fM),de yB,qa,_,rfl,.inl (ak.of (s3 _ _ fO)),_,rfl,(show 2<=sizeLine by decide),λu hu=>?_⟩
   have nu:u≠sz:=λz=>by rw[z,u0] at hu;cases hu
   have nsz:sn≠sz:=bu G5
   refine⟨sz,_,_,rfl,rfl,by rw[ao (bu nu)];exact u0,jW (by rw[aq];have:=qh.length;lia),?_⟩
   have lC:∀b o,b≠sz->H3 b=some o->upd (upd H3 u (.tup [.int ((ws.map V.str).length:Int),.int (i:Int)])) sz (.lst (ts.map V.ref++[.ref u])) b=some o:=λb o hb e=>by rw[ao hb,ao (λz=>by rw[z,hu] at e;cases e)];exact e
   refine⟨_,_,ts++[u],ps++[(((ws.map V.str).length:Int),(i:Int))],kvs,rfl,λb o e=>lC b o (bB e hsz) (s3 _ _ e),by rw[au,dQ];rfl,?_,by rw[cE];simp;lia,?_,?_,lC _ _ nsz yC,by lia,λx=>?_,λz=>by simp at z⟩
   .exact oq (Paired.bJ G6 λa b e=>lC _ _ (λz=>by rw[z,u0] at e;cases e) e) (.cons (by rw[ao nu];exact au) .nil)
   .intro q mq
    rcases cX.mp mq with z | z
    .exact B2 q z
    .rw[cb.mp z]
     exact⟨i,rfl,hi,by rw[yA];exact hd,by rw[qb,aq]⟩
   .intro k hk yD
    rcases wy.mp hk with z | z
    .obtain⟨q,mq,eq⟩:=B3 k z yD
     exact⟨q,jg _ mq,eq⟩
    .exact⟨_,gc _ bG,by rw[z,qb,aq]⟩
   .rw[rH x,gB]
    constructor
    .exact λz=>⟨jg _ z.1,z.2⟩
    .rintro⟨z,zz⟩
     rcases cX.mp z with z | z
     .exact⟨z,zz⟩
     .rw[cb.mp z] at zz
      exact absurd hd zz
  .rw[aK hd]
   refine aR ⟨_,rfl,_,rfl,sn,_,rfl,dW.k (k:=Sum.inr t) yC,_,rfl,?_⟩
   cases hv:(aP kvs (Sum.inr t:Key)).isSome with
   |true=>exact bt (bt ⟨_,rfl,qp i H3 hi (.inr ⟨by rw[yA];exact hd,.inl (by rw[yA];exact((rH t).mp hv).1)⟩) s3⟩)
   |false=>
    refine aR ⟨_,rfl,s0,C,dx,_,_,rfl,s3 _ _ hs,T,nf,B1 ..,_,rfl,fl,_,_,.ref qa,rfl,rfl,ak.of (s3 _ _ fM),de yB,!decide (ws=[]),acj (s3 _ _ fO),?_⟩
    by_cases B5:ws=[]
    .rw[aI B5]
     exact bt ⟨_,rfl,qp i H3 hi (.inr ⟨by rw[yA];exact hd,.inr (by rw[qb];exact B5)⟩) s3⟩
    .rw[aK B5]
     have hvn:aP kvs (Sum.inr t:Key)=none:=by
      cases e:aP kvs (Sum.inr t:Key) with
      |none=>rfl
      |some v=>rw[e] at hv;cases hv
     have hnt:t∉pats.take i:=λz=>by
      have:=(rH t).mpr ⟨z,hd⟩
      rw[hv] at this
      cases this
     refine aR ?_
     refine⟨_,rfl,_,rfl,sn,_,rfl,l6.k (k:=Sum.inr t) yC (jW (by lia)),?_⟩
     have lC:∀b o,b≠sn->H3 b=some o->upd H3 sn (.dK (putK kvs (Sum.inr t) (.bl true))) b=some o:=λb o hb e=>by rw[ao hb];exact e
     refine⟨_,_,ts,ps,putK kvs (Sum.inr t) (.bl true),rfl,λb o e=>lC b o (bB e acm) (s3 _ _ e),lC _ _ G5 u0,Paired.bJ G6 (λa b e=>lC _ _ (λz=>by rw[z,yC] at e;cases e) e),by lia,B2,(λk hk yD=>by
      rcases wy.mp hk with z | z
      .exact B3 k z yD
      .rw[z,yA] at yD;exact absurd yD hd),au,bL (tU _ _ _) (by lia),λx=>?_,λz=>?_⟩
     .rw[nG,gB]
      by_cases zx:x=t
      .subst zx
       rw[aA rfl]
       exact⟨λ_=>⟨gc _ bG,hd⟩,λ_=>rfl⟩
      .rw[av (λw=>zx (by injection w)),rH x]
       constructor
       .exact λw=>⟨jg _ w.1,w.2⟩
       .rintro⟨w,ww⟩
        rcases cX.mp w with w | w
        .exact⟨w,ww⟩
        .exact absurd (cb.mp w) zx
     .obtain⟨a1,a2,a3⟩:=yz z
      rw[gB,hwk]
      refine⟨λx m=>?_,oX.mpr ⟨a2,by simp,λx mx y my w=>?_⟩,λx m=>?_⟩
      .rcases cX.mp m with w | w
       .exact a1 x w
       .rw[cb.mp w];exact hd
      .rw[cb.mp my] at w
       rw[w] at mx
       exact hnt mx
      .rcases cX.mp m with w | w
       .exact a3 x w
       .rw[cb.mp w];exact B5
 .intro O H2 aco
  refine hide λG_ bT=>?_
  obtain⟨v3,v4,ts,ps,kvs,rfl,s2,nS,qh,bj,B2,B3,qY,kY,rH,yz⟩:=aco
  refine bT.k ?_
  have mS:=qh.length
  rw[aq,Dr] at yz
  rw[<-nH,Dr] at yz
  refine⟨_,rfl,!decide (ps=[]),?_,?_⟩
  .refine Or.inl ⟨_,ak.of nS,?_⟩
   cases ts with
   |nil=>cases ps with
    |nil=>rfl
    |cons _ _=>cases mS
   |cons _ _=>cases ps with
    |nil=>cases mS
    |cons _ _=>rfl
  by_cases gm:ps=[]
  .rw[aI gm]
   exact bt (qn (yz gm) H2 s2)
  .rw[aK gm]
   refine aR ⟨_,rfl,sz,ts,ps,rfl,nS,qh,List.length_pos_iff.mpr gm,λb tt pp hb hpb hmn=>?_⟩
   obtain⟨pp',yE,htt⟩:=Paired.getL qh hb
   rw[hpb] at yE
   cases yE
   obtain⟨k,ek,Gr,i0,eF⟩:=B2 pp (bh hpb)
   refine⟨tt,_,1,.int pp.2,rfl,rfl,ax.of htt,rfl,?_⟩
   rw[ek]
   refine qp k H2 Gr (.inl ⟨i0,λj hj acp=>?_⟩) s2
   obtain⟨q,mq,eq⟩:=B3 j (by rw[aq];exact hj) acp
   have:=hmn q mq
   lia
def G7(K:Frag)(CS CG:Addr):Sp:=λvs H Q _=>∃(s dx g cZ p ce a:Addr) (fv cr wo kn:V) (l m:List Str) (w:Nat) (R:List (List C2)) (xs:List V),vs=[.ref s]/\H s=some (.ins CS dx (iL (.ref g) (.ref p) fv))/\H g=some (.ins CG cZ (gn (.ref a) (.ref ce) cr wo kn))/\H a=some (.tup (l.map V.str))/\H ce=some (.lst xs)/\Paired (kf H) R xs/\H p=some (.lst ((R.map (ar m)).map V.str))/\cj l w R/\cj m w R/\m.length=l.length/\
 ∀q H',af H H'->H' q=some (.tup (m.map V.str))->Q (.ref q) H'
theorem yF:bp ["self","sheet","cells","signs"] ["self"] (aU (inClass (top 35) 5)):={}
theorem acq(B:Bl mg)(F:ba K "filled" "Standing.filled" (inClass (top 35) 5) f fd)(TS:cG K CS)(TG:cG K CG)(ng:bN K CS "ground")(np:bN K CS "patterns")(G8:bN K CG "sheet")(nc:bN K CG "cells")(acs:Fn P w K mg base "put_word" 2 (OH K)):aO P w K mg base aQ 3 f fd ["self"] (G7 K CS CG):=by
 refine F.bH yF λaF A outer s H vs Q E hr h=>?_
 refine hide λG_ aG=>?_
 obtain⟨s0,dx,g,cZ,p,ce,a,fv,cr,wo,kn,l,m,wd,R,xs,rfl,hs,hg,ha,mT,hR,hp,FL,FM,qi,q⟩:=h
 refine aG.k ?_
 refine⟨_,(aw (aL 1 yF.nd (cH (cH (pv 0) rfl) rfl))
  (aw (cF (xx .L .L (by rfl) B.xS (ab (cH (cH (pv 0) rfl) rfl) (ab (cH (pv 0) rfl) ah))) (jn rfl (dG (bK 2 yF.nd) (dG (bK 3 yF.nd) jm)))
  (az (aL 1 yF.nd (aY acs hr (ab (pv 1) (ab (pv 2) (ab (pv 3) ah)))))))
  (az (aW (pv 1))))),?_⟩
 try dsimp only[bC]
 have d7:=hR.length
 refine⟨_,rfl,s0,CS,dx,_,_,rfl,hs,TS,ng,yw ..,g,CG,cZ,_,_,rfl,hg,TG,G8,ab7 ..,?_⟩
 refine⟨_,rfl,s0,CS,dx,_,_,rfl,hs,TS,ng,yw ..,g,CG,cZ,_,_,rfl,hg,TG,nc,PD ..,_,rfl,s0,CS,dx,_,_,rfl,hs,TS,np,yu ..,_,_,rfl,⟨_,ce,rfl,ak.of mT⟩,⟨_,p,rfl,ak.of hp⟩,?_⟩
 have mD:min xs.length ((R.map (ar m)).map V.str).length=R.length:=by rw[aq,aq];lia
 refine xy (K:=K) (k1 := .L) (k2 := .L) (xs:=xs) (ys:=(R.map (ar m)).map V.str) (λi O H2=>∃v2 v3 qa,O=[some (.ref s0),some (.ref qa),v2,v3]/\af H H2/\H2 qa=some (.tup ((ke l R m i).map V.str)))
  ⟨none,none,a,rfl,af.cI _,ha⟩ ?_ ?_ ?_
 .intro i O H2 _ acu
  refine hide λG_ bc=>?_
  obtain⟨v2,v3,qa,rfl,s2,_⟩:=acu
  refine bc.k ?_
  exact⟨⟨_,rfl,ak.of (s2 _ _ mT)⟩,_,rfl,ak.of (s2 _ _ hp)⟩
 .intro i x y pt O H2 hx hy acv hpt
  refine hide λG_ bT=>?_
  obtain⟨v2,v3,qa,rfl,s2,hq⟩:=acv
  obtain⟨row,hrow,t,ys,rfl,ht,gJ⟩:=Paired.get hR hx
  refine bT.k ?_
  have jC:ai R i=row:=by unfold ai;rw[bR,hrow];rfl
  have hyv:y = .str (ar m (ai R i)):=by
   rw[bq,bq,hrow] at hy
   cases hy
   rw[jC]
  subst hyv
  have su:af H2 (upd H2 pt (.tup [.ref t,.str (ar m (ai R i))])):=af.upd hpt
  refine⟨pt,_,rfl,ax.of au,rfl,_,_,rfl,_,_,rfl,rfl,?_⟩
  have s3:=s2.trans su
  have yo:=su _ _ hq
  generalize upd H2 pt (.tup [.ref t,.str (ar m (ai R i))])=H3 at su s3 yo
  refine⟨_,rfl,_,rfl,_,rfl,qa,t,ke l R m i,wd,ai R i,ys,ar m (ai R i),rfl,yo,uS FL i,s3 _ _ ht,by rw[jC];exact gJ.mono s3,λc hc=>by rw[qe];exact FL.iK i c hc,λq' H' s' jq=>?_⟩
  exact⟨_,_,q',rfl,s3.trans s',jq⟩
 .intro O H2 acw
  refine hide λG_ cN=>?_
  obtain⟨v2,v3,qa,rfl,s2,hq⟩:=acw
  refine cN.k ?_
  rw[mD,abJ FL FM qi] at hq
  exact⟨_,rfl,q qa H2 s2 hq⟩
theorem acx(sh ce cr wo kn:V):(gn sh ce cr wo kn).lookup ("narrowed":Str)=none:=by
 unfold gn
 rw[cL,av (by decide +kernel),cL,av (by decide +kernel),cL,av (by decide +kernel),cL,av (by decide +kernel),cL,av (by decide +kernel)]
 rfl
theorem gK.weak{t:Str}(k:∀b o,Z b->H b=some o->Z' b)(h:gK Z H ks wf t v):gK Z' H ks wf t v:=let ⟨q,ws,e,z,a,b,c⟩:=h;⟨q,ws,e,k _ _ z a,a,b,c⟩
theorem ij.weak{Z Z':Addr->Prop}{M:Str->Prop}{H:Hp}{ks:List Str}{wf:Str->Int}{kvs:List (Key×V)}(k:∀b o,Z b->H b=some o->Z' b)(h:ij Z M H ks wf kvs):ij Z' M H ks wf kvs:=⟨h.nd,h.key,λx v e=>(h.fit x v e).weak k⟩
theorem ij.keep{Z:Addr->Prop}{M:Str->Prop}{H H':Hp}{ks:List Str}{wf:Str->Int}{kvs:List (Key×V)}(k:∀b o,H b=some (.lst o)->Z b->H' b=some (.lst o))(h:ij Z M H ks wf kvs):ij Z M H' ks wf kvs:=⟨h.nd,h.key,λx v e=>(h.fit x v e).keep k⟩
theorem G9{α β:Type}{R:α->β->Prop}:∀{xs:List α}{ys:List β}{i:Nat}{x:α}{y:β},Paired R xs ys->R x y->Paired R (xs.set i x) (ys.set i y)
 |_,_,_,_,_,.nil,_=>.nil
 |_,_,0,_,_,.cons _ t,h=>.cons h t
 |_,_,i+1,_,_,.cons g t,h=>.cons g (G9 t h)
structure acy(Z:Addr->Prop)(M:Str->Prop)(H:Hp)(CS CG s dx g cZ p fl cA kn:Addr)(sh ce wo:V)(m ks:List Str)(wf:Str->Int)(w pl:Nat)(R:List (List C2))(fs cs:List V)(x:Str)(kvs:List (Key×V)):Prop where
 e1:H s=some (.ins CS dx (iL (.ref g) (.ref p) (.ref fl)))
 e2:H g=some (.ins CG cZ (gn sh ce (.ref cA) wo (.ref kn)))
 e3:H kn=some (.dK kvs)
 e4:ij Z M H ks wf kvs
 e5:BZ M
 e6:H p=some (.lst ((R.map (ar m)).map V.str))
 e7:H fl=some (.lst fs)
 e8:Paired (gK Z H ks wf) (R.map (ar m)) fs
 e9:H cA=some (.lst cs)
 e10:Paired (λi x=>∃q us,x=V.ref q/\H q=some (.lst us)/\bz H (kb R i) us) (List.range R.length) cs
 LP:cj m w R
 e12:pl<R.length
 Bd:R.length<=200
 PQ:cz x (ar m (ai R pl))=true
 e15:x∈ks
 e16:46∉x.cps.toList
 e17:∀q,H q=none->Z q
 e18:∀k i,i<R.length->46∈(ar m (ai R i)).cps.toList->M (ar (putL m ((ai R pl).take k) (x.cps.toList.take k)) (ai R i))
structure acz(Z:Addr->Prop)(M:Str->Prop)(H H':Hp)(CS g kn s dx p fl:Addr)(m ks:List Str)(wf:Str->Int)(pl:Nat)(R:List (List C2))(fs:List V)(x:Str)(kvs:List (Key×V)):Prop where
 e1:H p=none
 e2:H fl=none
 e3:∀b o,b≠kn->H b=some o->H' b=some o
 e4:H' kn=some (.dK kvs)
 e5:ij Z M H' ks wf kvs
 e6:H' s=some (.ins CS dx (iL (.ref g) (.ref p) (.ref fl)))
 e7:H' p=some (.lst ((R.map (ar (putL m (ai R pl) x.cps.toList))).map V.str))
 e8:H' fl=some (.lst fs)
 e9:Paired (gK Z H' ks wf) (R.map (ar (putL m (ai R pl) x.cps.toList))) fs
def Hc(K:Frag)(CS CG:Addr):Sp:=λvs H Q _=>∃(s dx g cZ p fl cA kn:Addr) (sh ce wo:V) (m ks:List Str) (wf:Str->Int) (w pl:Nat) (R:List (List C2)) (fs cs:List V) (x:Str) (kvs:List (Key×V)) (Z:Addr->Prop) (M:Str->Prop),vs=[.ref s,.int (pl:Int),.str x]/\acy Z M H CS CG s dx g cZ p fl cA kn sh ce wo m ks wf w pl R fs cs x kvs/\∀(s' oy p' cx:Addr) wA uZ H',acz Z M H H' CS g kn s' oy p' cx m ks wf pl R wA x uZ->Q (.ref s') H'
structure acA(Z:Addr->Prop)(M:Str->Prop)(H H2:Hp)(p' cx kn:Addr)(m ks:List Str)(wf:Str->Int)(pl i:Nat)(R:List (List C2))(x:Str)(ps:List Str)(fY:List V)(gL:List (Key×V)):Prop where
 e1:∀b o,b≠kn->H b=some o->H2 b=some o
 e2:H2 kn=some (.dK gL)
 e3:ij (λb=>Z b/\b≠p'/\b≠cx) M H2 ks wf gL
 e4:H2 p'=some (.lst (ps.map V.str))
 e5:H2 cx=some (.lst fY)
 e6:mR R m pl x i ps
 e7:Paired (gK (λb=>Z b/\b≠p'/\b≠cx) H2 ks wf) ps fY
theorem qj:bp ["self","place","word","patterns","fits","letter","crossing","other","at","before"] ["self","place","word"] (aU (inClass (top 35) 1)):={}
theorem acB(B:Bl mg)(n8:Cn mg "FREE" (.str "."))(F:ba K "after" "Standing.after" (inClass (top 35) 1) f fd)(TS:cG K CS)(TG:cG K CG)(ng:bN K CS "ground")(np:bN K CS "patterns")(nf:bN K CS "fits")(nx:bN K CG "crossings")(u6:Nw P w K mg base "Standing" CS 1 (GZ CS))(Hd:Mt P w K mg base CG "narrowed" 1 (PH K CG) []):aO P w K mg base aQ 3 f fd ["self","place","word"] (Hc K CS CG):=by
 refine F.bH qj λaF A outer s H vs Q E hr h=>?_
 refine hide λG_ aG=>?_
 obtain⟨s0,dx,g,cZ,p,fl,cA,kn,sh,ce,wo,m,ks,wf,wd,pl,R,fs,cs,x,kvs,Z,M,rfl,⟨hs,hg,cP,hK,hM,hp,fM,u9,hcr,PR,FL,bj,qg,cV,fA,B6,hZ,hMk⟩,q⟩:=h
 refine aG.k ?_
 refine⟨_,(aw (aL 3 qj.nd (gE rf (by rfl) B.pT pG (ab (cH (pv 0) rfl) ah)))
  (aw (aL 4 qj.nd (gE rf (by rfl) B.pT pG (ab (cH (pv 0) rfl) ah)))
  (aw (cF (xx .S .L (by rfl) B.xS (ab (pv 2) (ab (bf eQ (cH (cH (pv 0) rfl) rfl) (pv 1)) ah))) (jn rfl (dG (bK 5 qj.nd) (dG (bK 6 qj.nd) jm)))
  (aw (aL 7 qj.nd (bf cM (pv 6) aJ))
   (aw (aL 8 qj.nd (bf cM (pv 6) aJ))
   (aw (aL 9 qj.nd (bf eQ (pv 3) (pv 7)))
   (az (bS (cg lW (bf iX (pv 9) (pv 8)) (kT n8 (by rfl)))
   (aw (pf (aT pq (aT pq (l3 ub (pv 9) l0 (jS (pv 8))) (pv 5)) (l3 ub (pv 9) (jS (aT fh (pv 8) aJ)) l0)) (tL (pv 3) (pv 7) set_list))
    (az (pf (rE Hd hr (cH (pv 0) rfl) (ab (bf eQ (pv 4) (pv 7)) (ab (bf eQ (pv 3) (pv 7)) (ab (pv 8) ah)))) (tL (pv 4) (pv 7) set_list))))
   bX))))))
  (aw (pf (pv 2) (tL (pv 3) (pv 1) set_list))
  (aw (pf (dN (ab (pv 2) ah)) (tL (pv 4) (pv 1) set_list))
  (az (aW (A2 u6 hr (ab (cH (pv 0) rfl) (ab (pv 3) (ab (pv 4) ah))))))))))),?_⟩
 try dsimp only[bC]
 have G4:=u9.length
 rw[aq] at G4
 have d7:x.length=(ai R pl).length:=by rw[(fV.mp cV).1,dJ]
 have h9:=(FL.len bj).2
 refine⟨_,rfl,s0,CS,dx,_,_,rfl,hs,TS,np,yu ..,p,_,rfl,.inl (ak.of hp),λp' eI=>?_⟩
 have s1:af H (upd H p' (.lst ((R.map (ar m)).map V.str))):=af.upd eI
 refine⟨_,rfl,s0,CS,dx,_,_,rfl,s1 _ _ hs,TS,nf,B1 ..,fl,_,rfl,.inl (ak.of (s1 _ _ fM)),λcx B7=>?_⟩
 have s2:af (upd H p' (.lst ((R.map (ar m)).map V.str))) (upd (upd H p' (.lst ((R.map (ar m)).map V.str))) cx (.lst fs)):=af.upd B7
 have PU:H cx=none:=s1.free B7
 have yG:p'≠cx:=λz=>by rw[<-z,au] at B7;cases B7
 have PV:upd (upd H p' (.lst ((R.map (ar m)).map V.str))) cx (.lst fs) p'=some (.lst ((R.map (ar m)).map V.str)):=by rw[ao yG];exact au
 have PX:upd (upd H p' (.lst ((R.map (ar m)).map V.str))) cx (.lst fs) cx=some (.lst fs):=au
 have sm:=s1.trans s2
 generalize upd (upd H p' (.lst ((R.map (ar m)).map V.str))) cx (.lst fs)=H0 at sm PV PX
 clear s1 s2
 refine hide λG_ bc=>?_
 obtain⟨cv,lu⟩:∃cv,cs[pl]? = some cv:=⟨_,aS (by have:=PR.length;rw[gR] at this;lia)⟩
 obtain⟨pl',PY,qa,us,rfl,fO,lC⟩:=Paired.get PR lu
 refine bc.k ?_
 have epl:pl'=pl:=by
  rw[qH bj] at PY
  exact(dm PY).symm
 rw[epl] at lC
 have GQ:us.length=(ai R pl).length:=by rw[<-lC.length,abB FL.good]
 refine⟨_,rfl,_,rfl,s0,CS,dx,_,_,rfl,sm _ _ hs,TS,ng,yw ..,g,CG,cZ,_,_,rfl,sm _ _ hg,TG,nx,ab6 ..,_,rfl,cA,_,_,.ref qa,rfl,rfl,ak.of (sm _ _ hcr),de lu,_,_,rfl,⟨_,x,rfl,rfl⟩,⟨_,qa,rfl,ak.of (sm _ _ fO)⟩,?_⟩
 have jc:∀b o,H b=some o->b≠p'/\b≠cx:=λb o e=>⟨bB e eI,bB e PU⟩
 have mD:min (x.cps.toList.map λc=>V.str ⟨#[c]⟩).length us.length=(ai R pl).length:=by rw[aq,bD];lia
 refine xy (K:=K) (k1 := .S) (k2 := .L) (xs:=x.cps.toList.map λc=>V.str ⟨#[c]⟩) (ys:=us) (λi O H2=>∃v5 v6 v7 v8 v9 ps fY gL,O=[some (.ref s0),some (.int (pl:Int)),some (.str x),some (.ref p'),some (.ref cx),v5,v6,v7,v8,v9]/\acA Z M H H2 p' cx kn m ks wf pl i R x ps fY gL)
  ⟨none,none,none,none,none,R.map (ar m),fs,kvs,rfl,⟨λb o _ e=>sm _ _ e,sm _ _ cP,?_,PV,PX,mR.zero bj,?_⟩⟩ ?_ ?_ ?_
 .exact(hK.weak λb o z e=>⟨z,jc b o e⟩).keep λb o e _=>sm _ _ e
 .exact Paired.bJ u9 λt v e=>(e.weak λb o z e=>⟨z,jc b o e⟩).keep λb o e _=>sm _ _ e
 .intro i O H2 _ acC
  refine hide λG_ bT=>?_
  obtain⟨v5,v6,v7,v8,v9,ps,fY,gL,rfl,SI⟩:=acC
  refine bT.k ?_
  exact⟨⟨_,rfl,rfl⟩,_,rfl,ak.of (SI.e1 _ _ (cy fO cP (by intro z;cases z)) fO)⟩
 .intro i cv y pt O H2 lu hy acD hpt
  refine hide λG_ cN=>?_
  obtain⟨v5,v6,v7,v8,v9,ps,fY,gL,rfl,⟨off,i0,B8,gX,yH,AI,lz⟩⟩:=acD
  rw[bq] at lu
  obtain⟨ch,hch,rfl⟩:=gu.mp lu
  obtain⟨pp,xA,u,rfl,hu⟩:=Paired.get lC hy
  have hi:i<(ai R pl).length:=by rw[<-GQ];exact(bP.mp hy).1
  obtain⟨c,hc⟩:∃c,(ai R pl)[i]? = some c:=⟨_,aS hi⟩
  obtain⟨pp',yE,CR⟩:=abC FL.good hc
  refine cN.k ?_
  rw[xA] at yE
  cases yE
  refine hide λG_ fR=>?_
  obtain⟨b,hb,PZ,nQ,hb9,ay,an⟩:=AI.step FL cV hc hch CR
  refine fR.k ?_
  have su:af H2 (upd H2 pt (.tup [.str ⟨#[ch]⟩,.ref u])):=af.upd hpt
  refine⟨pt,_,rfl,ax.of au,rfl,_,_,rfl,_,_,rfl,rfl,?_⟩
  have iM:∀b o,b≠kn->H b=some o->upd H2 pt (.tup [.str ⟨#[ch]⟩,.ref u]) b=some o:=λb o n e=>su _ _ (off b o n e)
  have eF:=su _ _ i0
  have kg:=su _ _ gX
  have qk:=su _ _ yH
  have oz:=B8.keep λb o e _=>su _ _ e
  have iN:=Paired.bJ lz λt v e=>e.keep λb o e _=>su _ _ e
  generalize upd H2 pt (.tup [.str ⟨#[ch]⟩,.ref u])=H3 at iM eF kg qk oz iN
  clear su i0 gX yH B8 lz off hpt
  have P0:H3 u=some (.tup [.int (pp.1:Int),.int (pp.2:Int)]):=iM _ _ (cy hu cP (by intro z;cases z)) hu
  have mS:ps.length=R.length:=AI.len
  have jX:(ps.map V.str)[pp.1]? = some (.str b):=by rw[bq,hb];rfl
  refine⟨_,rfl,u,_,0,.int (pp.1:Int),rfl,rfl,ax.of P0,rfl,?_⟩
  refine⟨_,rfl,u,_,1,.int (pp.2:Int),rfl,rfl,ax.of P0,rfl,?_⟩
  refine⟨_,rfl,_,rfl,p',_,_,.str b,rfl,rfl,ak.of kg,de jX,?_⟩
  refine⟨_,rfl,_,rfl,b,_,sg m c,rfl,rfl,dq (by lia),de PZ,rfl,_,rfl,?_⟩
  rw[rX,r9]
  by_cases cC:sg m c=46
  .rw[aI cC]
   have l1:(Txt.slice b none (some (pp.2:Int))).length<=100:=bL (wg b _ _) (by lia)
   have l2:(Txt.slice b (some ((pp.2:Int)+1)) none).length<=100:=bL (wg b _ _) (by lia)
   refine bt ⟨_,rfl,_,rfl,_,rfl,b,rfl,dq (by lia),_,rfl,_,_,rfl,rfl,dq (by show _+1<=_;lia),?_⟩
   refine⟨_,rfl,_,rfl,_,_,rfl,rfl,_,rfl,b,rfl,dq (by lia),_,_,rfl,rfl,dq ?_,?_⟩
   .rw[<-bD,j5,cE,bD]
    show _+1+_<=_
    lia
   have eg:=FC (x:=b) (j:=pp.2) (ch:=ch) (Ga (by lia)) (Gb (by lia))
   refine⟨_,rfl,_,rfl,p',_,_,pp.1,rfl,rfl,kg,uc (by rw[aq,mS];exact CR.lt),?_⟩
   rw[eg]
   have A1:=ay cC
   have B9:kn≠p':=(jc _ _ cP).1
   have Ca:kn≠cx:=(jc _ _ cP).2
   have vc:∀b' o,b'≠kn->H b'=some o->upd H3 p' (.lst ((ps.map V.str).set pp.1 (.str (bI b pp.2 ch)))) b'=some o:=λb' o n e=>by rw[ao (jc _ _ e).1];exact iM b' o n e
   have yI:upd H3 p' (.lst ((ps.map V.str).set pp.1 (.str (bI b pp.2 ch)))) kn=some (.dK gL):=by rw[ao B9];exact eF
   have Cb:upd H3 p' (.lst ((ps.map V.str).set pp.1 (.str (bI b pp.2 ch)))) p'=some (.lst ((ps.set pp.1 (bI b pp.2 ch)).map V.str)):=by rw[au,List.map_set]
   have Cc:upd H3 p' (.lst ((ps.map V.str).set pp.1 (.str (bI b pp.2 ch)))) cx=some (.lst fY):=by rw[ao (bu yG)];exact qk
   have He:ij (λb=>Z b/\b≠p'/\b≠cx) M (upd H3 p' (.lst ((ps.map V.str).set pp.1 (.str (bI b pp.2 ch))))) ks wf gL:=oz.keep λb' o e z=>by rw[ao z.2.1];exact e
   have qm:Paired (gK (λb=>Z b/\b≠p'/\b≠cx) (upd H3 p' (.lst ((ps.map V.str).set pp.1 (.str (bI b pp.2 ch))))) ks wf) ps fY:=Paired.bJ iN λt v e=>e.keep λb' o e z=>by rw[ao z.2.1];exact e
   have Hf:∀b',upd H3 p' (.lst ((ps.map V.str).set pp.1 (.str (bI b pp.2 ch)))) b'=none->H b'=none/\b'≠p'/\b'≠cx:=λb' e=>by
    refine⟨?_,(λz=>by rw[z,Cb] at e;cases e),(λz=>by rw[z,Cc] at e;cases e)⟩
    cases eb:H b' with
    |none=>rfl
    |some o=>
     by_cases zk:b'=kn
     .rw[zk,yI] at e;cases e
     .rw[vc b' o zk eb] at e;cases e
   generalize upd H3 p' (.lst ((ps.map V.str).set pp.1 (.str (bI b pp.2 ch))))=H4 at vc yI Cb Cc He qm Hf
   refine hide λG_ oa=>?_
   obtain⟨lv,xp,l,ws,rfl,zl,hl4,yJ,B4⟩:=Paired.getL qm hb
   refine oa.k ?_
   have acE:((ps.set pp.1 (bI b pp.2 ch)).map V.str)[pp.1]? = some (.str (bI b pp.2 ch)):=by
    rw[bq,vU (by rw[mS];exact CR.lt)]
    rfl
   have acF:b.cps.toList.getD pp.2 0=46:=by rw[bE PZ];exact cC
   have acG:ch≠46:=λz=>B6 (by rw[<-z];exact bh hch)
   have hMb:M (bI b pp.2 ch):=by
    have e1:=A1.ja pp.1 CR.lt CR.ne
    rw[vU (by rw[mS];exact CR.lt)] at e1
    rw[dm e1]
    exact hMk (i+1) pp.1 CR.lt (by rw[ig,<-cC];exact zV (bh CR.ix))
   refine⟨_,rfl,s0,CS,dx,_,_,rfl,vc _ _ (cy hs cP (by intro z;cases z)) hs,TS,ng,yw ..,g,cZ,_,rfl,vc _ _ (cy hg cP (by intro z;cases z)) hg,acx ..,?_⟩
   refine⟨_,rfl,_,rfl,cx,_,_,.ref l,rfl,rfl,ak.of Cc,de xp,_,rfl,_,rfl,p',_,_,.str (bI b pp.2 ch),rfl,rfl,ak.of Cb,de acE,_,rfl,?_⟩
   refine⟨g,cZ,l,kn,sh,ce,.ref cA,wo,ws,ks,wf,b,pp.2,ch,gL,(λb=>Z b/\b≠p'/\b≠cx),M,rfl,vc _ _ (cy hg cP (by intro z;cases z)) hg,yI,He,hM,hl4,yJ,B4,nQ,by lia,acF,acG,hMb,λb' e=>⟨hZ b' (Hf b' e).1,(Hf b' e).2⟩,λH5 kv5 v o5 sJ Hg hFv=>?_⟩
   have Cd:=o5 _ _ (bu Ca) Cc
   refine⟨_,rfl,_,rfl,cx,_,_,pp.1,rfl,rfl,Cd,uc (by rw[<-qm.length,mS];exact CR.lt),?_⟩
   refine⟨_,_,_,_,_,ps.set pp.1 (bI b pp.2 ch),fY.set pp.1 v,kv5,rfl,⟨λb' o n e=>?_,?_,?_,?_,au,A1,?_⟩⟩
   .rw[ao (jc _ _ e).2]
    exact o5 _ _ n (vc b' o n e)
   .rw[ao Ca];exact sJ
   .exact Hg.keep λb' o e z=>by rw[ao z.2.2];exact e
   .rw[ao yG];exact o5 _ _ (bu B9) Cb
   .refine G9 (Paired.bJ qm λt v' e=>e.keep λb' o e z=>?_) (hFv.keep λb' o e z=>by rw[ao z.2.2];exact e)
    rw[ao z.2.2]
    exact o5 _ _ (cy e yI (by intro z;cases z)) e
  .rw[aK cC]
   exact aR ⟨_,_,_,_,_,ps,fY,gL,rfl,⟨iM,eF,oz,kg,qk,an cC,iN⟩⟩
 .intro O H2 acH
  refine hide λG_ og=>?_
  obtain⟨v5,v6,v7,v8,v9,ps,fY,gL,rfl,⟨off,i0,B8,gX,yH,AI,lz⟩⟩:=acH
  refine og.k ?_
  rw[mD] at AI
  have mS:ps.length=R.length:=AI.len
  have B9:kn≠p':=(jc _ _ cP).1
  have Ca:kn≠cx:=(jc _ _ cP).2
  refine⟨_,rfl,_,rfl,_,rfl,p',_,_,pl,rfl,rfl,gX,uc (by rw[aq,mS];exact bj),?_⟩
  have ed:=AI.done FL d7 bj
  have kg:upd H2 p' (.lst ((ps.map V.str).set pl (.str x))) p'=some (.lst ((R.map (ar (putL m (ai R pl) x.cps.toList))).map V.str)):=by rw[au,<-List.map_set,ed]
  have iM:∀b' o,b'≠kn->H b'=some o->upd H2 p' (.lst ((ps.map V.str).set pl (.str x))) b'=some o:=λb' o n e=>by rw[ao (jc _ _ e).1];exact off b' o n e
  have eF:upd H2 p' (.lst ((ps.map V.str).set pl (.str x))) kn=some (.dK gL):=by rw[ao B9];exact i0
  have qk:upd H2 p' (.lst ((ps.map V.str).set pl (.str x))) cx=some (.lst fY):=by rw[ao (bu yG)];exact yH
  have oz:ij (λb=>Z b/\b≠p'/\b≠cx) M (upd H2 p' (.lst ((ps.map V.str).set pl (.str x)))) ks wf gL:=B8.keep λb' o e z=>by rw[ao z.2.1];exact e
  have iN:Paired (gK (λb=>Z b/\b≠p'/\b≠cx) (upd H2 p' (.lst ((ps.map V.str).set pl (.str x)))) ks wf) ps fY:=Paired.bJ lz λt v e=>e.keep λb' o e z=>by rw[ao z.2.1];exact e
  generalize upd H2 p' (.lst ((ps.map V.str).set pl (.str x)))=H3 at iM eF kg qk oz iN
  refine⟨_,rfl,(by show 1<=sizeLine;decide),λl hl=>⟨_,rfl,_,rfl,cx,fY,_,pl,rfl,rfl,?_,uc (by rw[<-lz.length,mS];exact bj),?_⟩⟩
  .rw[ao (λz=>by rw[<-z,qk] at hl;cases hl)]
   exact qk
  have nlp:l≠p':=λz=>by rw[z,kg] at hl;cases hl
  have nlf:l≠cx:=λz=>by rw[z,qk] at hl;cases hl
  have nlk:kn≠l:=λz=>by rw[<-z,eF] at hl;cases hl
  have hlH:H l=none:=by
   cases eb:H l with
   |none=>rfl
   |some o=>
    rw[iM l o (bu nlk) eb] at hl;cases hl
  have h5:∀b o,b≠cx->H3 b=some o->upd (upd H3 l (.lst [.str x])) cx (.lst (fY.set pl (.ref l))) b=some o:=λb o n e=>by rw[ao n,ao (bB e hl)];exact e
  have P4:upd (upd H3 l (.lst [.str x])) cx (.lst (fY.set pl (.ref l))) l=some (.lst ([x].map V.str)):=by rw[ao nlf];exact au
  have Cd:upd (upd H3 l (.lst [.str x])) cx (.lst (fY.set pl (.ref l))) cx=some (.lst (fY.set pl (.ref l))):=au
  generalize upd (upd H3 l (.lst [.str x])) cx (.lst (fY.set pl (.ref l)))=H5 at h5 P4 Cd
  have n5:∀b' o,b'≠kn->H b'=some o->H5 b'=some o:=λb' o n e=>h5 _ _ (jc _ _ e).2 (iM b' o n e)
  have Hh:=n5 _ _ (cy hs cP (by intro z;cases z)) hs
  refine⟨_,rfl,s0,CS,dx,_,_,rfl,Hh,TS,ng,yw ..,_,rfl,_,rfl,λs' oy rJ Hj cJ=>⟨s',oy,.ref g,.ref p',.ref cx,rfl,au,λH' h1 h2=>⟨rfl,?_⟩⟩⟩
  have h6:∀b o,H5 b=some o->H' b=some o:=λb o e=>h2 _ _ (λz=>by rw[z,rJ] at e;cases e) (by rw[ao (λz=>by rw[z,rJ] at e;cases e),ao (λz=>by rw[z,Hj] at e;cases e)];exact e)
  have sd:=h5 _ _ yG kg
  have sJ:=h5 _ _ Ca eF
  refine q s' oy p' cx _ gL H' ⟨eI,PU,λb o n e=>h6 _ _ (n5 b o n e),h6 _ _ sJ,?_,h1,h6 _ _ sd,h6 _ _ Cd,?_⟩
  .exact(oz.keep λb o e z=>h6 _ _ (h5 _ _ z.2.2 e)).weak λb o z _=>z.1
  .rw[<-ed]
   refine G9 (Paired.bJ iN λt v e=>(e.keep λb o e z=>h6 _ _ (h5 _ _ z.2.2 e)).weak λb o z _=>z.1) ?_
   exact⟨l,[x],rfl,hZ l hlH,h6 _ _ P4,lB.one fA B6,by show 1<=64;decide⟩
end
theorem lD(f:Str)(v:V):∀fs:List (Str×V),(aX f v fs).length<=fs.length+1
 |[]=>aN _
 |(g,u)::r=>by
  unfold aX
  split
  .exact gO _
  .exact kF (lD f v r)
theorem ax.acI{a g:Addr}{fs:List (Str×V)}(hg:H g=some (.ins C dx fs))(k:∀b o,b≠g->H b=some o->H' b=some o)(h:ax K H a xs):ax K H' a xs:=by
 rcases h with (h | ⟨o,h⟩) | h
 .exact .inl (.inl (k _ _ (cy h hg (by intro z;cases z)) h))
 .exact .inl (.inr ⟨o,k _ _ (cy h hg (by intro z;cases z)) h⟩)
 .exact .inr h
theorem kf.off{H H':Hp}{D:Addr}{r:List C2}{x:V}(hD:∃o,H D=some (.lst o))(k:∀b o,b≠D->H b=some o->H' b=some o)(h:kf H r x):kf H' r x:=by
 obtain⟨t,ys,e,ht,hc⟩:=h
 obtain⟨o,ho⟩:=id hD
 exact⟨t,ys,e,k _ _ (cy ht ho (by intro z;cases z)) ht,hc.off hD k⟩
theorem kf.gv{x:V}(k:∀b o,H b=some (.tup o)->H' b=some (.tup o))(h:kf H r x):kf H' r x:=by
 obtain⟨t,ys,e,ht,hc⟩:=h
 exact⟨t,ys,e,k _ _ ht,hc.lists k⟩
theorem Hk{α β:Type}{F:α->β->Prop}(d:α):∀(R:List α) (ys:List β) (k:Nat),Paired (λi y=>F (R.getD (i - k) d) y) (List.range' k R.length) ys->Paired F R ys
 |[],ys,k,h=>by cases h;exact .nil
 |r::R,ys,k,h=>by
  rw[cQ,List.range'_succ] at h
  cases h with
  |cons h t=>
   refine .cons ?_ (Hk d R _ (k+1) (P5 t λi y mi e=>?_))
   .rw[Nat.sub_self] at h
    exact h
   .have h1:=(List.mem_range'_1.mp mi).1
    have e2:i - k=(i - (k+1))+1:=by lia
    rw[e2] at e
    exact e
where
 P5 {α β:Type}{F G:α->β->Prop}:∀{xs:List α}{ys:List β},Paired F xs ys->(∀x y,x∈xs->F x y->G x y)->Paired G xs ys
  |_,_,.nil,_=>.nil
  |_,_,.cons h t,k=>.cons (k _ _ bG h) (P5 t λx y m e=>k x y (bU _ m) e)
theorem acJ{F:List C2->β->Prop}{ys:List β}(h:Paired (λi y=>F (ai R i) y) (List.range R.length) ys):Paired F R ys:=by
 refine Hk [] R ys 0 ?_
 rw[<-List.range_eq_range']
 exact h
theorem P6{α:Type}{G:α->Addr->Prop}:∀{l:List α}{ys:List V},Paired (λi y=>∃t,y=V.ref t/\G i t) l ys->∃ts:List Addr,ys=ts.map V.ref/\Paired (λt i=>G i t) ts l
 |_,_,.nil=>⟨[],rfl,.nil⟩
 |_,_,.cons ⟨t,e,h⟩ r=>by
  obtain⟨ts,e2,p⟩:=P6 r
  exact⟨t::ts,by rw[e,e2];rfl,.cons h p⟩
theorem P7(h:Str->V)(x:Str):∀(n:Nat) (xs:List Str),xs.length=n->aP (i6 (xs.map λx=>(x,h x))) (Sum.inr x:Key)=if x∈xs then some (h x) else none
 |0,xs,e=>by
  have:xs=[]:=List.length_eq_zero_iff.mp e
  subst this
  rfl
 |n+1,xs,e=>by
  have cJ:xs≠[]:=λz=>by rw[z] at e;cases e
  obtain⟨ys,y,rfl⟩:∃ys y,xs=ys++[y]:=⟨xs.dropLast,xs.getLast cJ,(List.dropLast_concat_getLast cJ).symm⟩
  have ih:=P7 h x n ys (by simpa using e)
  rw[dQ,bQ,wb,MM,nG]
  by_cases z:x=y
  .rw[aA (by rw[z]),aA (by rw[z];simp),z]
  .rw[av (λw=>z (by injection w)),ih]
   by_cases m:x∈ys
   .rw[aA m,aA (jg _ m)]
   .rw[av m,av (λw=>by rcases cX.mp w with w | w;exact m w;exact z (cb.mp w))]
theorem Hl{α β γ:Type}{F:α->γ->Prop}{f:β->γ}:∀{xs:List α}{ys:List β},Paired (λx y=>F x (f y)) xs ys->Paired F xs (ys.map f)
 |_,_,.nil=>.nil
 |_,_,.cons h t=>.cons h (Hl t)
section
variable{w:World}
def acK(H H':Hp)(R:List (List C2))(cs:List V):Prop:=Paired (λi x=>∃q us,x=V.ref q/\H q=none/\H' q=some (.lst us)/\bz H' (kb R i) us) (List.range R.length) cs
def P8(K:Frag)(CG CB:Addr):Sp:=λvs H Q _=>∃(g dx a bk d:Addr) (l:List Str) (w:Nat) (kvs:List (Key×V)),vs=[.ref g,.ref bk,.ref a]/\H g=some (.ins CG dx [])/\ax K H a (l.map V.str)/\aV l w/\GoodR (aC l w)/\iI CB H bk d kvs/\kvs.length<64/\(∀x∈aZ kvs,cB x=true)/\
 ∀(ce cA wo kn:Addr) (xs cs:List V) (wd:List (Key×V)) (H':Hp),(∀b o,b≠g->H b=some o->H' b=some o)->H' g=some (.ins CG dx (gn (.ref a) (.ref ce) (.ref cA) (.ref wo) (.ref kn)))->H ce=none->H' ce=some (.lst xs)->Paired (kf H') (aC l w) xs->H cA=none->H' cA=some (.lst cs)->acK H H' (aC l w) cs->
  H wo=none->H' wo=some (.dK wd)->(∀x∈aZ kvs,aP wd (Sum.inr x:Key)=aP kvs (Sum.inr x:Key))->H kn=none->H' kn=some (.dK [])->Q .aB H'
theorem acL:bp ["self","book","sheet"] ["self","book","sheet"] (aU (inClass (top 34) 0)):={}
theorem acM(B:Bl mg)(F:ba K "__init__" "Ground.__init__" (inClass (top 34) 0) f fd)(T:cG K CG)(G8:bN K CG "sheet")(Ce:bN K CG "cells")(ncr:bN K CG "crossings")(P9:bN K CG "worths")(Hm:bN K CG "known")(Hn:Fn P w K mg base "rows_of" 5 (FV K))(acN:Fn P w K mg base "crossings_of" 2 (Pt K))(Ho:Mt P w K mg base CB "words" 1 (Oi CB) [])(ve:Mt P w K mg base CB "worth" 5 (Gm CB) []):aO P w K mg base aQ 6 f fd ["self","book","sheet"] (P8 K CG CB):=by
 refine F.bH acL λaF A outer s H vs Q E hr h=>?_
 refine hide λG_ aG=>?_
 obtain⟨g,dx,a,bk,d,l,wd,kvs,rfl,hg,hT,S,G,hB,da,fZ,q⟩:=h
 refine aG.k ?_
 refine⟨_,(aw (kL (pv 0) (pv 2) rfl)
  (aw (kL (pv 0) (i3 (js:=[]) (ns:=[]) (dn (aY Hn hr (ab (pv 2) ah))) rfl rfl rfl rfl (λ_ _ _ _=>ju) (λ_ _ _ _=>(AV (K:=K) (rr:=wW) rfl cM (pv 0) aJ))) rfl)
  (aw (kL (pv 0) (aY acN hr (ab (cH (pv 0) rfl) ah)) rfl)
  (aw (kL (pv 0) (gE (Yc rfl) (by rfl) B.Zm Ye (ab (i3 (js:=[1]) (ns:=["book"]) (dn (Ex Ho hr (pv 1))) rfl rfl rfl rfl (λ_ _ _ _=>ju) (λ_ _ _ _=>(gC (ab (pv 0) (ab (rE ve hr (pv 1) (ab (pv 0) ah)) ah))))) ah)) rfl)
  (az (kL (pv 0) D9 rfl)))))),?_⟩
 try dsimp only[bC]
 have hR9:∀i,(ai (aC l wd) i).length<=9:=λi=>by
  by_cases hi:i<(aC l wd).length
  .exact(fT S (oo hi)).2.1
  .unfold ai
   rw[bR,cR (JL hi)]
   exact bA _
 have j8:=r8 S
 rw[<-yg] at j8
 obtain⟨⟨Hq,pM⟩,Hr,Hs,vf⟩:=id hB
 have Qa:bk≠g:=cy pM hg (λz=>by injection z with _ _ z;unfold uE at z;cases z)
 have ndg:d≠g:=cy Hr hg (λz=>by cases z)
 refine⟨_,rfl,_,rfl,g,CG,dx,[],rfl,hg,T,G8,(by show 0<1000;decide),?_⟩
 have o1:∀b o,b≠g->H b=some o->upd H g (.ins CG dx (aX "sheet" (.ref a) [])) b=some o:=λb o n e=>by rw[ao n];exact e
 have g1:upd H g (.ins CG dx (aX "sheet" (.ref a) [])) g=some (.ins CG dx (aX "sheet" (.ref a) [])):=au
 have Qb:∀b,upd H g (.ins CG dx (aX "sheet" (.ref a) [])) b=none->H b=none:=λb e=>by
  cases eb:H b with
  |none=>rfl
  |some o=>
   by_cases z:b=g
   .rw[z,g1] at e;cases e
   .rw[o1 b o z eb] at e;cases e
 generalize upd H g (.ins CG dx (aX "sheet" (.ref a) []))=H1 at o1 g1 Qb
 have E4:=ax.acI hg o1 hT
 refine⟨_,rfl,a,l,wd,rfl,E4,S,λgg xa xd H2 hgg s2 hL rA rD=>⟨gg,rfl,⟨_,ak.of hL⟩,?_⟩⟩
 have rB:=N9 rA rD
 have Qc:=rB.length
 have eG:(aC l wd).length=(xa++xd).length:=by rw[se,aq,Qc]
 refine comp_map jv (by lia) (λ_ i y H3=>kf H3 (ai (aC l wd) i) y) (λH3 s3=>ak.of (s3 _ _ hL)) (λD i y Ha Hb _ hD k h=>h.off hD k) ?_ ?_
 .intro D i y H3 Z hD hy s3 _ k1
  refine hide λG_ bc=>?_
  obtain⟨row,hrow,way,aa,t,ys,rfl,e1,e2,e3⟩:=Paired.get rB hy
  refine bc.k ?_
  have er:ai (aC l wd) i=row.2:=by unfold ai;rw[se,bR,bq,hrow];rfl
  exact⟨_,rfl,aa,_,2,.ref t,rfl,rfl,ax.of (s3 _ _ e1),rfl,k1 _ _ (af.cI _) ⟨t,ys,rfl,s3 _ _ e2,by rw[er];exact e3.mono s3⟩⟩
 .intro ce ys H3 mT uR s3 pr
  rw[<-eG] at pr
  have sL:=acJ (F:=kf H3) pr
  have oB:=s2.trans s3
  have vg:H1 ce=none:=s2.free mT
  have Ht:ce≠g:=λz=>by rw[z,g1] at vg;cases vg
  refine⟨_,rfl,g,CG,dx,_,rfl,oB _ _ g1,T,Ce,kq (lD _ _ _) (by show 1<1000;decide),?_⟩
  have o4:∀b o,b≠g->H3 b=some o->upd H3 g (.ins CG dx (aX "cells" (.ref ce) (aX "sheet" (.ref a) []))) b=some o:=λb o n e=>by rw[ao n];exact e
  have g4:upd H3 g (.ins CG dx (aX "cells" (.ref ce) (aX "sheet" (.ref a) []))) g=some (.ins CG dx (aX "cells" (.ref ce) (aX "sheet" (.ref a) []))):=au
  generalize upd H3 g (.ins CG dx (aX "cells" (.ref ce) (aX "sheet" (.ref a) [])))=H4 at o4 g4
  have ng3:∀b o,H3 b=some (.tup o)->b≠g:=λb o e=>cy e (oB _ _ g1) (by intro z;cases z)
  have Qd:=Paired.bJ sL λr x h=>h.gv λb o e=>o4 b _ (ng3 b o e) e
  have Hu:∀b o,b≠g->H b=some o->H4 b=some o:=λb o n e=>o4 b o n (oB _ _ (o1 b o n e))
  have Cf:∀b,H4 b=none->H b=none:=λb e=>by
   cases eb:H b with
   |none=>rfl
   |some o=>
    by_cases z:b=g
    .rw[z,g4] at e;cases e
    .rw[Hu b o z eb] at e;cases e
  have lc:(aX "cells" (.ref ce) (aX "sheet" (.ref a) [])).lookup ("cells":Str)=some (V.ref ce):=by rw[cL,aA rfl]
  refine⟨_,rfl,g,CG,dx,_,_,rfl,g4,T,Ce,lc,ce,aC l wd,ys,rfl,o4 _ _ Ht uR,Qd,G,j8,hR9,λcA zs H5 sM s5 acO gJ=>?_⟩
  have acP:cA≠g:=λz=>by rw[z,g4] at sM;cases sM
  refine⟨_,rfl,g,CG,dx,_,rfl,s5 _ _ g4,T,ncr,kq (bL (lD _ _ _) (kF (lD _ _ _))) (by show 2<1000;decide),?_⟩
  have g5:=s5 _ _ g4
  have o6:∀b o,b≠g->H5 b=some o->upd H5 g (.ins CG dx (aX "crossings" (.ref cA) (aX "cells" (.ref ce) (aX "sheet" (.ref a) [])))) b=some o:=λb o n e=>by rw[ao n];exact e
  have g6:upd H5 g (.ins CG dx (aX "crossings" (.ref cA) (aX "cells" (.ref ce) (aX "sheet" (.ref a) [])))) g=some (.ins CG dx (aX "crossings" (.ref cA) (aX "cells" (.ref ce) (aX "sheet" (.ref a) [])))):=au
  generalize upd H5 g (.ins CG dx (aX "crossings" (.ref cA) (aX "cells" (.ref ce) (aX "sheet" (.ref a) []))))=H6 at o6 g6
  have Hv:∀b o,b≠g->H b=some o->H6 b=some o:=λb o n e=>o6 b o n (s5 _ _ (Hu b o n e))
  have Qe:iI CB H6 bk d kvs:=⟨⟨Hq,Hv _ _ Qa pM⟩,Hv _ _ ndg Hr,Hs,vf⟩
  refine⟨_,rfl,bk,Hq,_,rfl,Hv _ _ Qa pM,uG _ (by decide +kernel),bk,d,kvs,rfl,Qe,da,λlw H7 hlw s7 Qf=>⟨lw,rfl,⟨_,ak.of Qf⟩,?_⟩⟩
  have kY:(cn (aZ kvs)).length=kvs.length:=by rw[(gH _).length_eq,uM]
  have Qg:∀x,x∈cn (aZ kvs)↔x∈aZ kvs:=λx=>(gH _).mem_iff
  refine comp_map jv (by rw[aq];lia) (λ_ i y H8=>∃t,y = .ref t/\H8 t=some (.tup [.str ((cn (aZ kvs)).getD i ⟨#[]⟩),(aP kvs (Sum.inr ((cn (aZ kvs)).getD i ⟨#[]⟩):Key)).getD .aB])) (λH8 s8=>ak.of (s8 _ _ Qf)) (λD i y Ha Hb _ hD k h=>?_) ?_ ?_
  .obtain⟨t,e1,e2⟩:=h
   obtain⟨o,ho⟩:=hD
   exact⟨t,e1,k _ _ (cy e2 ho (by intro z;cases z)) e2⟩
  .intro D i y H8 Z hD hy s8 _ k1
   rw[bq] at hy
   refine hide λG_ bT=>?_
   obtain⟨x,hx,rfl⟩:=gu.mp hy
   have hxd:(cn (aZ kvs)).getD i ⟨#[]⟩=x:=bE hx
   have fA:x∈aZ kvs:=(Qg x).mp (bh hx)
   obtain⟨v,hv⟩:∃v,aP kvs (Sum.inr x:Key)=some v:=by
    have:=Gx vf x
    rw[aI fA] at this
    cases e:aP kvs (Sum.inr x:Key) with
    |none=>rw[e] at this;cases this
    |some v=>exact⟨v,rfl⟩
   have Qh:=Qe.mono (s7.trans s8)
   obtain⟨⟨dx8,acQ⟩,_⟩:=id Qh
   refine bT.k ?_
   refine⟨_,rfl,_,rfl,bk,dx8,_,rfl,acQ,uG _ (by decide +kernel),_,rfl,bk,d,kvs,x,v,rfl,Qh,fZ x fA,hv,λH9 s9=>⟨by show 2<=sizeLine;decide,λt ht=>k1 _ _ (s9.trans (af.upd ht)) ⟨t,rfl,?_⟩⟩⟩
   rw[au,hxd,hv]
   rfl
  .intro D us H8 hD bw s8 pr8
   obtain⟨ts,rfl,Qi⟩:=P6 pr8
   rw[aq] at Qi
   have acR:Paired (λt p=>H8 t=some (HO.tup [V.str p.1,p.2])) ts ((cn (aZ kvs)).map λx=>(x,(aP kvs (Sum.inr x:Key)).getD .aB)):=by
    have e:=Hl (F:=λt p=>H8 t=some (HO.tup [V.str p.1,p.2])) (f:=λi=>((cn (aZ kvs)).getD i ⟨#[]⟩,(aP kvs (Sum.inr ((cn (aZ kvs)).getD i ⟨#[]⟩):Key)).getD .aB)) Qi
    rw[lb (λx=>(x,(aP kvs (Sum.inr x:Key)).getD .aB))] at e
    exact e
   refine⟨D,ts,_,rfl,bw,acR,by rw[aq];lia,λwo vh=>?_⟩
   have s6:=s7.trans s8
   have s9:af H8 (upd H8 wo (.dK (i6 ((cn (aZ kvs)).map λx=>(x,(aP kvs (Sum.inr x:Key)).getD .aB))))):=af.upd vh
   have w9:upd H8 wo (.dK (i6 ((cn (aZ kvs)).map λx=>(x,(aP kvs (Sum.inr x:Key)).getD .aB)))) wo=some (.dK (i6 ((cn (aZ kvs)).map λx=>(x,(aP kvs (Sum.inr x:Key)).getD .aB)))):=au
   generalize upd H8 wo (.dK (i6 ((cn (aZ kvs)).map λx=>(x,(aP kvs (Sum.inr x:Key)).getD .aB))))=H9 at s9 w9
   have Cg:=s6.trans s9
   have Hw:wo≠g:=λz=>by rw[z,s6 _ _ g6] at vh;cases vh
   refine⟨_,rfl,g,CG,dx,_,rfl,Cg _ _ g6,T,P9,kq (bL (lD _ _ _) (kF (bL (lD _ _ _) (kF (lD _ _ _))))) (by show 3<1000;decide),?_⟩
   have oA:∀b o,b≠g->H9 b=some o->upd H9 g (.ins CG dx (aX "worths" (.ref wo) (aX "crossings" (.ref cA) (aX "cells" (.ref ce) (aX "sheet" (.ref a) []))))) b=some o:=λb o n e=>by rw[ao n];exact e
   have gA:upd H9 g (.ins CG dx (aX "worths" (.ref wo) (aX "crossings" (.ref cA) (aX "cells" (.ref ce) (aX "sheet" (.ref a) []))))) g=some (.ins CG dx (aX "worths" (.ref wo) (aX "crossings" (.ref cA) (aX "cells" (.ref ce) (aX "sheet" (.ref a) []))))):=au
   generalize upd H9 g (.ins CG dx (aX "worths" (.ref wo) (aX "crossings" (.ref cA) (aX "cells" (.ref ce) (aX "sheet" (.ref a) [])))))=HA at oA gA
   intro kn cP
   have sB:af HA (upd HA kn (.dK [])):=af.upd cP
   have kB:upd HA kn (.dK []) kn=some (.dK []):=au
   generalize upd HA kn (.dK [])=HB at sB kB
   have Hx:kn≠g:=λz=>by rw[z,gA] at cP;cases cP
   refine⟨_,rfl,g,CG,dx,_,rfl,sB _ _ gA,T,Hm,kq (bL (lD _ _ _) (kF (bL (lD _ _ _) (kF (bL (lD _ _ _) (kF (lD _ _ _))))))) (by show 4<1000;decide),?_⟩
   have Hy:∀b o,b≠g->H4 b=some o->upd HB g (.ins CG dx (gn (.ref a) (.ref ce) (.ref cA) (.ref wo) (.ref kn))) b=some o:=λb o n e=>by
    rw[ao n]
    exact sB _ _ (oA b o n (Cg _ _ (o6 b o n (s5 _ _ e))))
   have Hz:∀b o,b≠g->H5 b=some o->upd HB g (.ins CG dx (gn (.ref a) (.ref ce) (.ref cA) (.ref wo) (.ref kn))) b=some o:=λb o n e=>by
    rw[ao n]
    exact sB _ _ (oA b o n (Cg _ _ (o6 b o n e)))
   have ng5:∀b o,H5 b=some (.tup o)->b≠g:=λb o e=>cy e g5 (by intro z;cases z)
   have ng4:∀b o,H4 b=some (.tup o)->b≠g:=λb o e=>cy e g4 (by intro z;cases z)
   refine q ce cA wo kn ys zs (i6 ((cn (aZ kvs)).map λx=>(x,(aP kvs (Sum.inr x:Key)).getD .aB))) _ (λb o n e=>Hy b o n (Hu b o n e)) au (Qb _ vg) (Hy _ _ Ht (o4 _ _ Ht uR)) (Paired.bJ Qd λr x h=>h.gv λb o e=>Hy b _ (ng4 b o e) e) (Cf _ sM) (Hz _ _ acP acO) ?_ ?_ ?_ (λx hx=>?_) ?_ ?_
   .refine Paired.bJ gJ λi x h=>?_
    refine hide λG_ cN=>?_
    obtain⟨qq,vs,e1,e2,e3,e4⟩:=h
    refine cN.k ?_
    exact⟨qq,vs,e1,Cf _ e2,Hz _ _ (cy e3 g5 (by intro z;cases z)) e3,e4.lists λb o e=>Hz b _ (ng5 b o e) e⟩
   .refine Cf _ ?_
    cases eb:H4 wo with
    |none=>rfl
    |some o=>rw[s6 _ _ (o6 _ _ Hw (s5 _ _ eb))] at vh;cases vh
   .rw[ao Hw]
    exact sB _ _ (oA _ _ Hw w9)
   .rw[P7 (λx=>(aP kvs (Sum.inr x:Key)).getD .aB) x _ _ rfl,aA ((Qg x).mpr hx)]
    have:=Gx vf x
    rw[aI hx] at this
    cases e:aP kvs (Sum.inr x:Key) with
    |none=>rw[e] at this;cases this
    |some v=>rfl
   .refine Cf _ ?_
    cases eb:H4 kn with
    |none=>rfl
    |some o=>rw[oA _ _ Hx (Cg _ _ (o6 _ _ Hx (s5 _ _ eb)))] at cP;cases cP
   .rw[ao Hx]
    exact kB
end
structure qo(K:Frag)(CG:Addr)(Z:Addr->Prop)(H:Hp)(g kn:Addr)(l:List Str)(R:List (List C2)):Prop where
 ex:∃(cZ a ce cA:Addr) (wo:V) (xs cs:List V),H g=some (.ins CG cZ (gn (.ref a) (.ref ce) (.ref cA) wo (.ref kn)))/\H a=some (.tup (l.map V.str))/\H ce=some (.lst xs)/\Z ce/\Paired (kf H) R xs/\H cA=some (.lst cs)/\Z cA/\
  Paired (λi x=>∃q us,x=V.ref q/\Z q/\H q=some (.lst us)/\bz H (kb R i) us) (List.range R.length) cs
structure Std(CS:Addr)(Z:Addr->Prop)(H:Hp)(s g:Addr)(m:List Str)(R:List (List C2))(ks:List Str)(wf:Str->Int):Prop where
 ex:∃(dx p fl:Addr) (fs:List V),H s=some (.ins CS dx (iL (.ref g) (.ref p) (.ref fl)))/\H p=some (.lst ((R.map (ar m)).map V.str))/\Z p/\H fl=some (.lst fs)/\Z fl/\Paired (gK Z H ks wf) (R.map (ar m)) fs
theorem Qj(h:(kvs.map (·.1)).Nodup)(t:mf kvs):(aZ kvs).Nodup:=by
 induction kvs with
 |nil=>exact jh
 |cons q r ih=>
  obtain⟨h1,h2⟩:=gq.mp h
  have t2:mf r:=λx m=>t x (bU _ m)
  refine gq.mpr ⟨λm=>h1 ?_,ih h2 t2⟩
  obtain⟨x,ex⟩:=t q bG
  obtain⟨y,my,ey⟩:=bM.mp m
  obtain⟨z,ez⟩:=t2 y my
  refine bM.mpr ⟨y,my,?_⟩
  dsimp only at ey ⊢
  rw[ex,ez] at ey
  rw[ex,ez]
  exact eX Sum.inr ey
structure Kp(Z:Addr->Prop)(H H':Hp):Prop where
 ja:∀b o,(∀l,o ≠ .lst l)->(∀l,o ≠ .dK l)->H b=some o->H' b=some o
 lst:∀b l,Z b->H b=some (.lst l)->H' b=some (.lst l)
theorem Kp.trans(a:Kp Z H H1)(b:Kp Z H1 H2):Kp Z H H2:=⟨λc o n1 n2 e=>b.ja c o n1 n2 (a.ja c o n1 n2 e),λc l z e=>b.lst c l z (a.lst c l z e)⟩
theorem Kp.of(a:af H H1):Kp Z H H1:=⟨λc o _ _ e=>a c o e,λc l _ e=>a c _ e⟩
theorem Kp.tup(k:Kp Z H H'){o:List V}(h:H b=some (.tup o)):H' b=some (.tup o):=k.ja _ _ (by intro _ z;cases z) (by intro _ z;cases z) h
theorem Kp.ins(k:Kp Z H H'){fs:List (Str×V)}(h:H b=some (.ins C dx fs)):H' b=some (.ins C dx fs):=k.ja _ _ (by intro _ z;cases z) (by intro _ z;cases z) h
theorem qo.keep{g:Addr}(k:Kp Z H H')(h:qo K CG Z H g kn l R):qo K CG Z H' g kn l R:=by
 obtain⟨cZ,a,ce,cA,wo,xs,cs,h1,h2,h3,z3,h4,h5,z5,h6⟩:=h.ex
 exact⟨cZ,a,ce,cA,wo,xs,cs,k.ins h1,k.tup h2,k.lst _ _ z3 h3,z3,Paired.bJ h4 λr x e=>e.gv λb o e=>k.tup e,k.lst _ _ z5 h5,z5,Paired.bJ h6 λi x e=>let ⟨q,us,e1,e2,e3,e4⟩:=e;⟨q,us,e1,e2,k.lst _ _ e2 e3,e4.lists λb o e=>k.tup e⟩⟩
theorem qo.weak{g:Addr}(k:∀b o,Z b->H b=some o->Z' b)(h:qo K CG Z H g kn l R):qo K CG Z' H g kn l R:=by
 obtain⟨cZ,a,ce,cA,wo,xs,cs,h1,h2,h3,z3,h4,h5,z5,h6⟩:=h.ex
 exact⟨cZ,a,ce,cA,wo,xs,cs,h1,h2,h3,k _ _ z3 h3,h4,h5,k _ _ z5 h5,Paired.bJ h6 λi x e=>let ⟨q,us,e1,e2,e3,e4⟩:=e;⟨q,us,e1,k _ _ e2 e3,e3,e4⟩⟩
section
variable{w:World}
def Qk(K:Frag)(CB CG CS:Addr):Sp:=λvs H Q _=>∃(a bk d:Addr) (l:List Str) (w:Nat) (R:List (List C2)) (kvs:List (Key×V)),vs=[.ref bk,.ref a]/\H a=some (.tup (l.map V.str))/\cj l w R/\iI CB H bk d kvs/\kvs.length<64/\(∀x∈aZ kvs,cB x=true)/\uN kvs/\
 ∀(s g kn wo:Addr) (H':Hp),af H H'->H kn=none->qo K CG (λb=>H b=none) H' g kn l R->H' kn=some (.dK [])->Std CS (λb=>H b=none) H' s g l R (aZ kvs) (uO kvs)->Q (.ref s) H'
theorem Ci:bp ["book","sheet","ground","patterns","fits"] ["book","sheet"] (aU (top 36)):={}
theorem acS(B:Bl mg)(F:ba K "first_standing" "first_standing" (top 36) f fd)(TG:cG K CG)(TB:cG K CB)(Ce:bN K CG "cells")(acT:Fn P w K mg base "pattern" 2 (Oa K))(HD:Mt P w K mg base CB "fitting" 2 (Ox CB) [])(ve:Mt P w K mg base CB "worth" 5 (Gm CB) [])(acU:E1 K CB "worth")(HE:Nw P w K mg base "Ground" CG 6 (P8 K CG CB))(u6:Nw P w K mg base "Standing" CS 1 (GZ CS)):aO P w K mg base aQ 8 f fd ["book","sheet"] (Qk K CB CG CS):=by
 refine F.bH Ci λaF A outer s H vs Q E hr h=>?_
 refine hide λG_ aG=>?_
 obtain⟨a,bk,d,l,wd,R,kvs,rfl,hT,FL,hB,da,fZ,HF,q⟩:=h
 refine aG.k ?_
 refine⟨_,(aw (aL 2 Ci.nd (A2 HE hr (ab (pv 0) (ab (pv 1) ah))))
  (aw (t9 (i:=3) Ci.nd rfl (Or.inl rfl) (js:=[1]) (ns:=["sheet"]) (dn (cH (pv 2) rfl)) rfl rfl rfl rfl (λ_ _ _ _=>ju) (λ_ _ _ _=>(aY acT hr (ab (pv 1) (ab (pv 0) ah)))))
  (aw (t9 (i:=4) Ci.nd rfl (Or.inl rfl) (js:=[0]) (ns:=["book"]) (dn (pv 3)) rfl rfl rfl rfl (λ_ _ _ _=>ju) (λ_ _ _ _=>(X4 (K:=K) rfl ve acU (hr.mono (by decide)) (by rfl) B.xQ xk (ab (rE HD hr (pv 1) (ab (pv 0) ah)) ah) (pv 1) rfl)))
  (az (aW (A2 u6 hr (ab (pv 2) (ab (pv 3) (ab (pv 4) ah))))))))),?_⟩
 try dsimp only[bC]
 have eR:=FL.eq
 subst eR
 have S:=FL.sh
 obtain⟨⟨Hq,pM⟩,Hr,Hs,vf⟩:=id hB
 have cP:(aZ kvs).Nodup:=Qj Hs vf
 refine⟨_,rfl,_,rfl,λg cZ hg yK cJ=>?_⟩
 have o0:af H (upd (upd H cZ (.own g)) g (.ins CG cZ [])):=λb o e=>by rw[ao (bB e hg),ao (bB e yK)];exact e
 have g0:upd (upd H cZ (.own g)) g (.ins CG cZ []) g=some (.ins CG cZ []):=au
 generalize upd (upd H cZ (.own g)) g (.ins CG cZ [])=H0 at o0 g0
 refine⟨g,cZ,a,bk,d,l,wd,kvs,rfl,g0,ax.of (o0 _ _ hT),S,FL.good,hB.mono o0,da,fZ,λce cA wo kn xs cs wdd H1 off g1 vg mT sL Ql sM HG P9 vh hwv Hm acV=>⟨rfl,?_⟩⟩
 have s1:af H H1:=λb o e=>off b o (bB e hg) (o0 b o e)
 have d7:=sL.length
 have j8:=r8 S
 rw[<-yg] at j8
 refine⟨_,rfl,g,CG,cZ,_,_,rfl,g1,TG,Ce,PD ..,ce,rfl,⟨_,ak.of mT⟩,?_⟩
 refine comp_map jv (by lia) (λ_ i y _=>y = .str (ar l (ai (aC l wd) i))) (λH2 s2=>ak.of (s2 _ _ mT)) (λ_ _ _ _ _ _ _ _ h=>h) ?_ ?_
 .intro D i y H2 Z hD hy s2 _ k1
  refine hide λG_ bc=>?_
  obtain⟨row,hrow,t,ys,rfl,ht,gJ⟩:=Paired.get sL hy
  refine bc.k ?_
  have jC:ai (aC l wd) i=row:=bE hrow
  have bb:=fT S (bh hrow)
  exact⟨_,rfl,_,rfl,a,t,l,wd,row,ys,rfl,ax.of ((s1.trans s2) _ _ hT),S,s2 _ _ ht,gJ.mono s2,by lia,λc hc=>⟨(bb.2.2 c hc).1,(bb.2.2 c hc).2.1⟩,λH3 s3=>k1 _ _ s3 (by rw[jC])⟩
 .intro pp ys H2 xA Cj s2 pr
  have e:=mN pr
  have e2:(List.range xs.length).map (λi=>V.str (ar l (ai (aC l wd) i)))=(aC l wd).map (λr=>V.str (ar l r)):=by
   rw[<-d7]
   exact lb (λr=>V.str (ar l r)) [] (aC l wd)
  rw[e2] at e
  have e3:ys=((aC l wd).map (ar l)).map V.str:=by rw[e,jH];rfl
  rw[e3] at Cj
  clear e e2 e3 pr
  have sN:=s1.trans s2
  refine⟨_,rfl,pp,rfl,⟨_,ak.of Cj⟩,?_⟩
  refine comp_map jv (by rw[aq,aq];lia) (λD i y H4=>∃q ws,y = .ref q/\q≠D/\H q=none/\H4 q=some (.lst (ws.map V.str))/\lB (aZ kvs) (uO kvs) (((aC l wd).map (ar l)).getD i ⟨#[]⟩) ws/\ws.length<=64) (λH3 s3=>ak.of (s3 _ _ Cj)) (λD i y Ha Hb _ _ k h=>?_) ?_ ?_
  .refine hide λG_ bT=>?_
   obtain⟨q,ws,e1,e2,e3,e4,e5⟩:=h
   refine bT.k ?_
   exact⟨q,ws,e1,e2,e3,k _ _ e2 e4,e5⟩
  .intro D i y H3 Z hD hy s3 hDo k1
   rw[bq] at hy
   refine hide λG_ cN=>?_
   obtain⟨pt,hpt,rfl⟩:=gu.mp hy
   have uz:((aC l wd).map (ar l)).getD i ⟨#[]⟩=pt:=bE hpt
   have bj:pt.length<=9:=by
    obtain⟨r,mr,rfl⟩:=bM.mp (bh hpt)
    rw[dJ]
    exact(fT S mr).2.1
   have d8:=sN.trans s3
   have HH:=hB.mono d8
   obtain⟨⟨dx3,acW⟩,_⟩:=id HH
   refine cN.k ?_
   refine⟨_,rfl,bk,dx3,_,rfl,acW,uG _ (by decide +kernel),_,rfl,bk,d,kvs,pt,rfl,HH,da,by lia,λx mx=>by have:=BA (fZ x mx);lia,λlf H4 Ck s4 hLf=>?_⟩
   have Qm:=HH.mono s4
   obtain⟨⟨dx4,acX⟩,_⟩:=id Qm
   have Qn:∀x,x∈cn ((aZ kvs).filter λx=>cz x pt)↔x∈aZ kvs/\cz x pt=true:=λx=>by rw[(gH _).mem_iff,b8]
   have g9:(cn ((aZ kvs).filter λx=>cz x pt)).length<=kvs.length:=by
    rw[(gH _).length_eq]
    exact bL (ji _ _) (by rw[uM];exact aN _)
   refine⟨_,rfl,lf,_,bk,dx4,_,uO kvs,rfl,rfl,ak.of hLf,by lia,acX,uG _ (by decide +kernel),λx mx H5 s5 Q' hQ' =>?_,λp out H5 hp s5 qh HI hpw=>?_⟩
   .have fA:=((Qn x).mp mx).1
    exact⟨bk,d,kvs,x,_,rfl,Qm.mono s5,fZ x fA,abm vf HF fA,λH6 s6=>hQ' H6 s6⟩
   .obtain⟨o,ho⟩:=hDo
    refine k1 _ _ (s4.trans s5) ⟨p,out,rfl,(λz=>by rw[z,s4 _ _ ho] at hp;cases hp),?_,qh,?_,by rw[HI.length_eq];lia⟩
    .cases eb:H p with
     |none=>rfl
     |some o'=>rw[s4 _ _ (d8 _ _ eb)] at hp;cases hp
    .rw[uz]
     exact⟨HI.nodup_iff.mpr ((gH _).nodup_iff.mpr (cP.filter _)),λx=>by rw[HI.mem_iff];exact Qn x,hpw⟩
  .intro fl fs H3 fM acY s3 pr
   have d8:=sN.trans s3
   refine⟨_,rfl,_,rfl,_,rfl,λs' oy rJ Hj agR=>⟨s',oy,.ref g,.ref pp,.ref fl,rfl,au,λH' h1 h2=>⟨rfl,?_⟩⟩⟩
   have h6:af H3 H':=λb o e=>h2 _ _ (λz=>by rw[z,rJ] at e;cases e) (by rw[ao (λz=>by rw[z,rJ] at e;cases e),ao (λz=>by rw[z,Hj] at e;cases e)];exact e)
   have sO:af H1 H':=s2.trans (s3.trans h6)
   refine q s' g kn wo H' (d8.trans h6) (o0.free Hm) ⟨cZ,a,ce,cA,.ref wo,xs,cs,sO _ _ g1,(d8.trans h6) _ _ hT,sO _ _ mT,?_,Paired.bJ sL λr x h=>h.gv λb o e=>sO _ _ e,sO _ _ sM,?_,Paired.bJ HG λi x h=>?_⟩ (sO _ _ acV) ⟨oy,pp,fl,fs,h1,h6 _ _ (s3 _ _ Cj),s1.free xA,h6 _ _ acY,sN.free fM,?_⟩
   .cases eb:H ce with
    |none=>rfl
    |some o=>rw[o0 _ _ eb] at vg;cases vg
   .cases eb:H cA with
    |none=>rfl
    |some o=>rw[o0 _ _ eb] at Ql;cases Ql
   .refine hide λG_ fR=>?_
    obtain⟨qq,us,e1,e2,e3,e4⟩:=h
    refine fR.k ?_
    refine⟨qq,us,e1,?_,sO _ _ e3,e4.lists λb o e=>sO _ _ e⟩
    cases eb:H qq with
    |none=>rfl
    |some o=>rw[o0 _ _ eb] at e2;cases e2
   .rw[aq] at pr
    refine Hk ⟨#[]⟩ _ fs 0 ?_
    rw[<-List.range_eq_range']
    exact Paired.bJ pr λi y h=>let ⟨qq,ws,e1,_,e3,e4,e5,e6⟩:=h;⟨qq,ws,e1,e3,h6 _ _ e4,e5,e6⟩
end
noncomputable def vi(pl q:V):List (Str×V):=aX "parts" q (aX "place" pl [])
theorem HJ(pl q:V):(vi pl q).lookup ("parts":Str)=some q:=by
 unfold vi
 rw[cL,aA rfl]
theorem yL(pl q:V):(vi pl q).lookup ("place":Str)=some pl:=by
 unfold vi
 rw[cL,av (by decide +kernel),cL,aA rfl]
def mU(Z:Addr->Prop)(H:Hp)(CW CC:Addr)(R:List (List C2))(ks:List Str)(told:List (List Str)):Nat->V->List Str->Prop
 |0,_,_=>False
 |n+1,v,m=>(∃p dx,v = .ref p/\H p=some (.ins CW dx [])/\fU m=false/\m∈told)\/
   ∃(p dx q:Addr) (pl:Nat) (xs:List Str) (vs:List V),v = .ref p/\H p=some (.ins CC dx (vi (.int (pl:Int)) (.ref q)))/\Z q/\H q=some (.lst vs)/\pl<R.length/\cn xs=c6 m R pl ks/\xs.length<64/\
    Paired (λx v=>∃t u,v=V.ref t/\H t=some (.tup [.str x,u])/\cz x (ar m (ai R pl))=true/\mU Z H CW CC R ks told n u (putL m (ai R pl) x.cps.toList)) xs vs
theorem mU.mono{Z Z':Addr->Prop}{H H':Hp}{CW CC:Addr}{R:List (List C2)}{ks:List Str}{told Qo:List (List Str)}(k:Kp Z H H')(hz:∀b o,Z b->H b=some o->Z' b)(ht:∀s∈told,s∈Qo):∀{n:Nat}{v:V}{m:List Str},mU Z H CW CC R ks told n v m->mU Z' H' CW CC R ks Qo n v m
 |0,_,_,h=>h
 |n+1,v,m,h=>by
  rcases h with ⟨p,dx,e,h1,h2,h3⟩ | ⟨p,dx,q,pl,xs,vs,e,h1,hq,h2,h3,h4,h5,h6⟩
  .exact .inl ⟨p,dx,e,k.ins h1,h2,ht _ h3⟩
  .exact .inr ⟨p,dx,q,pl,xs,vs,e,k.ins h1,hz _ _ hq h2,k.lst _ _ hq h2,h3,h4,h5,Paired.bJ h6 λx v g=>let ⟨t,u,e1,e2,e3,e4⟩:=g;⟨t,u,e1,k.tup e2,e3,mU.mono k hz ht e4⟩⟩
def jd(H:Hp)(ts:List Addr)(c7:List (List Str)):Prop:=Paired (λt s=>H t=some (.tup (s.map V.str))) ts c7
theorem jd.keep(k:∀b o,(∀l,o ≠ .lst l)->(∀l,o ≠ .dK l)->H b=some o->H' b=some o)(h:jd H ts c7):jd H' ts c7:=Paired.bJ h λ_ _ e=>k _ _ (by intro _ z;cases z) (by intro _ z;cases z) e
def KX(kn fo:Addr)(H H':Hp):Prop := ∀b o,b≠kn->b≠fo->H b=some o->H' b=some o
theorem KX.trans(a:KX kn fo H H1)(b:KX kn fo H1 H2):KX kn fo H H2:=λc o n1 n2 e=>b c o n1 n2 (a c o n1 n2 e)
theorem KX.of(a:af H H1):KX kn fo H H1:=λc o _ _ e=>a c o e
theorem KX.kp(k:KX kn fo H H')(hk:H kn=some (.dK kvs))(hf:H fo=some (.lst ys))(hz:¬Z fo):Kp Z H H':=
 ⟨λb o n1 n2 e=>k b o (λz=>by rw[z,hk] at e;exact n2 _ (dm e).symm) (λz=>by rw[z,hf] at e;exact n1 _ (dm e).symm) e,λb l z e=>k b _ (λy=>by rw[y,hk] at e;cases e) (λy=>hz (y ▸ z)) e⟩
theorem KX.none{kn fo:Addr}{H H':Hp}(k:KX kn fo H H')(hk:∃o,H' kn=some o)(hf:∃o,H' fo=some o){b:Addr}(e:H' b=none):H b=none:=by
 obtain⟨ok,hk⟩:=hk
 obtain⟨of,hf⟩:=hf
 cases eb:H b with
 |none=>rfl
 |some o=>rw[k b o (λz=>by rw[z,hk] at e;cases e) (λz=>by rw[z,hf] at e;cases e) eb] at e;cases e
theorem Qp(bj:pl<R.length):x∈fW (R.map (ar m)) pl↔x∈oi m R pl:=by
 rw[GO]
 unfold fW
 rw[cX]
 constructor
 .rintro(h | h)
  .obtain⟨i,hi⟩:=dR h
   have aM:i<pl:=by
    have:=(bP.mp hi).1
    rw[fC] at this
    lia
   rw[sZ aM,kd R _ (by lia)] at hi
   exact⟨i,by lia,by lia,dm hi⟩
  .obtain⟨i,hi⟩:=dR h
   have aM:=(bP.mp hi).1
   rw[zw,aq] at aM
   rw[List.getElem?_drop,kd R _ (by lia)] at hi
   exact⟨_,by lia,by lia,dm hi⟩
 .rintro⟨i,h1,h2,e⟩
  have hg:=kd R (ar m) h1
  rcases Nat.lt_or_gt_of_ne h2 with z | z
  .refine Or.inl ?_
   exact bh (i:=i) (by rw[sZ z,hg,e])
  .refine Or.inr ?_
   exact bh (i:=i - (pl+1)) (by rw[List.getElem?_drop,show pl+1+(i - (pl+1))=i from by lia,hg,e])
theorem Qq(F:cj m w R)(h:∀r∈R,46∉(ar m r).cps.toList):fU m=false:=by
 refine gS.mpr λz=>?_
 unfold fU at z
 obtain⟨x,mx,hx⟩:=tm.mp z
 have hx:46∈x.cps.toList:=fF hx
 obtain⟨i,hi⟩:=dR mx
 obtain⟨j,hj⟩:=dR hx
 have yl:=(bP.mp hi).1
 obtain⟨y,hy,_,_,ly,GN⟩:=F.sh.dC.row yl
 rw[hi] at hy
 cases hy
 have sF:j<w:=by
  have:=(bP.mp hj).1
  lia
 have e:=GN j sF
 rw[hj] at e
 have Qr:sg m (i,j)=46:=(dm e).symm
 have ho:bW m (i,j)=true:=by
  unfold bW
  rw[Qr]
  rfl
 obtain⟨a,b,hab⟩:=F.all (i,j) yl sF ho
 refine h _ (oo (lA hab).1) ?_
 rw[ig,<-Qr]
 exact zV (bh hab)
theorem yM(h:cB x=true):i9 x:=by
 unfold cB at h
 rw[eY,eY] at h
 intro ch m
 have hl:=fF (kr.mp h.2.2 ch m)
 have:∀c∈iE.cps.toList,97<=c/\c<=122:=by decide +kernel
 exact this ch hl
theorem Cm(g p f:V){m:Str}(h1:¬m="fits")(h2:¬m="patterns")(h3:¬m="ground"):(iL g p f).lookup m=none:=by
 unfold iL
 rw[cL,av h1,cL,av h2,cL,av h3]
 rfl
theorem Qs{Z:Addr->Prop}{H:Hp}{ks:List Str}{wf:Str->Int}:∀{pats:List Str}{fs:List V},Paired (gK Z H ks wf) pats fs->∃dE,PL H dE fs/\Paired (λt ws=>lB ks wf t ws) pats dE
 |_,_,.nil=>⟨[],.nil,.nil⟩
 |_,_,.cons ⟨q,ws,e,_,h1,h2,h3⟩ r=>by
  obtain⟨dE,a,b⟩:=Qs r
  exact⟨ws::dE,.cons ⟨q,e,h1,h3⟩ a,.cons h2 b⟩
section
variable{w:World}
def HK(C:Addr):Sp:=λvs H Q _=>∃(s dx q:Addr) (p:V) (us:List V),vs=[.ref s,p,.ref q]/\H s=some (.ins C dx [])/\H q=some (.lst us)/\∀(r:Addr) (H':Hp),H r=none->H' s=some (.ins C dx (vi p (.ref r)))->H' r=some (.lst us)->(∀b o,b≠s->H b=some o->H' b=some o)->Q .aB H'
theorem acZ:bp ["self","place","parts"] ["self","place","parts"] (aU (inClass (top 31) 0)):={}
theorem ac0(B:Bl mg)(F:ba K "__init__" "Cases.__init__" (inClass (top 31) 0) f fd)(T:cG K C)(np:bN K C "place")(nq:bN K C "parts"):aO P w K mg base aQ 1 f fd ["self","place","parts"] (HK C):=by
 refine F.bH acZ λaF A outer s H vs Q E hr h=>?_
 refine hide λG_ aG=>?_
 obtain⟨s,dx,q,p,us,rfl,hs,hq,k⟩:=h
 refine aG.k ?_
 refine⟨_,(aw (kL (pv 0) (pv 1) rfl)
  (az (kL (pv 0) (gE rf (by rfl) B.pT pG (ab (pv 2) ah)) rfl))),?_⟩
 try dsimp only[bC]
 refine⟨_,rfl,_,rfl,s,C,dx,[],rfl,hs,T,np,(by show 0<1000;decide),?_⟩
 have nqs:q≠s:=cy hq hs (by intro z;cases z)
 refine⟨_,rfl,q,us,rfl,.inl (ak.of (by rw[ao nqs];exact hq)),λr eW=>?_⟩
 have Co:r≠s:=λz=>by rw[z,au] at eW;cases eW
 refine⟨_,rfl,s,C,dx,_,rfl,by rw[ao (bu Co)];exact au,T,nq,(by show 1<1000;decide),?_⟩
 refine k r _ (by rw[ao Co] at eW;exact eW) au (by rw[ao Co];exact au) λb o hb e=>?_
 rw[ao Co] at eW
 rw[ao hb,ao (λz=>by rw[z,eW] at e;cases e),ao hb]
 exact e
structure ac1(K:Frag)(CG CS:Addr)(Z:Addr->Prop)(M:Str->Prop)(H:Hp)(s g kn fo:Addr)(most w n:Nat)(l m ks:List Str)(wf:Str->Int)(R:List (List C2))(kvs:List (Key×V))(ts:List Addr)(c7:List (List Str)):Prop where
 e1:qo K CG Z H g kn l R
 e2:Std CS Z H s g m R ks wf
 e3:H kn=some (.dK kvs)
 e4:ij Z M H ks wf kvs
 e5:BZ M
 e6:∀m' pl x k i,cj m' w R->m'.length=l.length->pl<R.length->x∈ks->cz x (ar m' (ai R pl))=true->(∀j,j<R.length->46∈(ar m' (ai R j)).cps.toList->∃y∈ks,cz y (ar m' (ai R j))=true)->i<R.length->46∈(ar m' (ai R i)).cps.toList->M (ar (putL m' ((ai R pl).take k) (x.cps.toList.take k)) (ai R i))
 e7:cj l w R
 e8:cj m w R
 e9:m.length=l.length
 ea:R.length<=200
 eb:∀x∈ks,cB x=true
 ec:ks.Nodup
 ed:ks.length<64
 ee:∀q,H q=none->Z q
 ef:¬Z fo
 eg:H fo=some (.lst (ts.map V.ref))
 eh:jd H ts c7
 ei:c7.length<most
 ej:most<=1000
 ek:(fJ m w).length<n
structure ac2(Z:Addr->Prop)(M:Str->Prop)(H H':Hp)(CW CC kn fo:Addr)(most w n:Nat)(m ks:List Str)(wf:Str->Int)(R:List (List C2))(kvs:List (Key×V))(ts dY:List Addr)(c7 new:List (List Str))(v:V):Prop where
 e1:KX kn fo H H'
 e2:H' kn=some (.dK kvs)
 e3:ij Z M H' ks wf kvs
 e4:H' fo=some (.lst ((ts++dY).map V.ref))
 e5:jd H' (ts++dY) (c7++new)
 e6:new.Nodup
 e7:∀s∈new,cD s m w/\eN ks s w=true
 e8:(v = .aB/\(c7++new).length=most)\/(v ≠ .aB/\(c7++new).length<most/\∀told,(∀s∈new,s∈told)->mU Z H' CW CC R ks told n v m)
def Cp(K:Frag)(CG CS CW CC:Addr)(n:Nat):Sp:=λvs H Q _=>∃(s g kn fo:Addr) (most w:Nat) (l m ks:List Str) (wf:Str->Int) (R:List (List C2)) (kvs:List (Key×V)) (Z:Addr->Prop) (M:Str->Prop) (ts:List Addr) (c7:List (List Str)),vs=[.ref s,.int (most:Int),.ref fo]/\ac1 K CG CS Z M H s g kn fo most w n l m ks wf R kvs ts c7/\∀v new dY uZ H',ac2 Z M H H' CW CC kn fo most w n m ks wf R uZ ts dY c7 new v->Q v H'
structure ac3(Z:Addr->Prop)(M:Str->Prop)(H3 Hi:Hp)(CW CC kn fo pa:Addr)(most w n pl i:Nat)(m ks:List Str)(wf:Str->Int)(R:List (List C2))(Xs:List Str)(ts dY:List Addr)(c7 new:List (List Str))(kv:List (Key×V))(us:List V):Prop where
 e1:∀b o,b≠kn->b≠fo->b≠pa->H3 b=some o->Hi b=some o
 e2:Hi kn=some (.dK kv)
 e3:ij (λb=>Z b/\b≠pa) M Hi ks wf kv
 e4:Hi fo=some (.lst ((ts++dY).map V.ref))
 e5:jd Hi (ts++dY) (c7++new)
 e6:new.Nodup
 e7:∀s∈new,cD s m w/\eN ks s w=true/\ar s (ai R pl)∈Xs.take i
 e8:(c7++new).length<most
 e9:Hi pa=some (.lst us)
 ea:Paired (λx v=>∃t u,v=V.ref t/\Hi t=some (.tup [.str x,u])/\cz x (ar m (ai R pl))=true/\∀told,(∀s∈new,s∈told)->mU (λb=>Z b/\b≠pa) Hi CW CC R ks told n u (putL m (ai R pl) x.cps.toList)) (Xs.take i) us
theorem vj:bp ["standing","most","found","place","parts","word","paper"] ["standing","most","found"] (aU (top 41)):={}
theorem ac4(n:Nat)(B:Bl mg)(F:ba K "closing_paper" "closing_paper" (top 41) f fd)(HL:Fn P w K mg base "closing_paper" (n+4) (Cp K CG CS CW CC n))(vk:Mt P w K mg base CS "narrowest" 1 (G2 CS) [])(vm:Mt P w K mg base CS "filled" 3 (G7 K CS CG) [])(vn:Mt P w K mg base CS "left" 1 (G0 K CS) [])(vo:Mt P w K mg base CS "after" 3 (Hc K CS CG) [])(vp:A9 K mg "Whole" CW)(vq:Nw P w K mg base "Cases" CC 1 (HK CC)) :
  aO P w K mg base aQ (n+5) f fd ["standing","most","found"] (Cp K CG CS CW CC (n+1)):=by
 refine F.bH vj λaF A outer s H vs Q E hr h=>?_
 refine hide λG_ aG=>?_
 obtain⟨s0,g,kn,fo,most,wd,l,m,ks,wf,R,kvs,Z,M,ts,c7,rfl,⟨hG,hS,cP,hK,hM,Qt,FL,FM,qi,qg,fZ,dz,da,hZ,Cq,dk,hF,aM,HM,hn⟩,q⟩:=h
 refine aG.k ?_
 refine⟨_,(aw (bS (cg Uo (br dg (by rfl) B.b7 b0 (ab (pv 2) ah)) (pv 1))
  (az (aW lS))
  bX)
  (aw (aL 3 vj.nd (Ex vk hr (pv 0)))
  (aw (bS (cg wN (pv 3) lS)
  (aw (eZ (fm jj jF jG iA (pv 2) (ab (Ex vm hr (pv 0)) ah)))
   (az (aW (Tz (cg kK (br dg (by rfl) B.b7 b0 (ab (pv 2) ah)) (pv 1)) (Yp vp (by rfl)) lS))))
  bX)
  (aw (aL 4 vj.nd (dN ah))
  (aw (cF (dn (rE vn hr (pv 0) (ab (pv 3) ah))) (bK 5 vj.nd)
  (aw (aL 6 vj.nd (aY HL hr (ab (rE vo hr (pv 0) (ab (pv 3) (ab (pv 5) ah))) (ab (pv 1) (ab (pv 2) ah)))))
   (aw (bS (cg wN (pv 6) lS)
   (az (aW lS))
   bX)
   (az (eZ (fm jj jF jG iA (pv 4) (ab (gC (ab (pv 5) (ab (pv 6) ah))) ah)))))))
  (az (aW (A2 vq hr (ab (pv 3) (ab (pv 4) ah)))))))))),?_⟩
 try dsimp only[bC]
 refine hide λG_ bc=>?_
 obtain⟨dx,p,fl,fs,hs,hp,zp,fM,zfl,u9⟩:=hS.ex
 obtain⟨cZ,a,ce,cA,wo,xs,cs,hg,hT,mT,zce,sL,sM,ac5,HG⟩:=hG.ex
 obtain⟨dE,HN,Cr⟩:=Qs u9
 refine bc.k ?_
 have G4:=HN.length
 have Qu:=Cr.length
 rw[aq] at Qu
 have vt:=dy hF
 have Qv:∀{i:Nat},i<R.length->(R.map (ar m)).getD i ⟨#[]⟩=ar m (ai R i):=λhi=>bE (kd R _ hi)
 refine⟨_,rfl,fo,_,rfl,.inl (ak.of dk),_,rfl,_,_,rfl,rfl,_,rfl,?_⟩
 rw[aK (by rw[aq];lia)]
 refine aR ?_
 refine⟨_,rfl,s0,dx,_,rfl,hs,Cm _ _ _ (by decide +kernel) (by decide +kernel) (by decide +kernel),s0,dx,p,fl,.ref g,R.map (ar m),dE,fs,rfl,hs,hp,fM,HN,by rw[aq];exact Qu.symm,by rw[aq];exact qg,λt mt=>?_,λac6 H1 s1=>?_,λpl H1 bj HP s1=>?_⟩
 .obtain⟨r,mr,rfl⟩:=bM.mp mt
  rw[dJ]
  obtain⟨i,hi⟩:=dR mr
  have:=(FM.len (bP.mp hi).1).2
  have e:ai R i=r:=bE hi
  rw[e] at this
  lia
 .
  obtain⟨j3,hd2,mw⟩:=ac6
  have mV:fU m=false:=Qq FM λr mr=>j3 _ (zV mr)
  have yj:dw m wd=R.map (ar m):=by
   unfold dw
   rw[FM.eq]
  have BV:eN ks m wd=true:=by
   refine OT mV (by rw[yj];exact hd2) (λx mx=>?_)
   rw[yj] at mx
   obtain⟨i,hi⟩:=dR mx
   obtain⟨ws,hws,ac7⟩:=Paired.getL Cr hi
   have cJ:=mw ws (bh hws)
   obtain⟨y,my⟩:∃y,y∈ws:=by
    cases ws with
    |nil=>exact absurd rfl cJ
    |cons y r=>exact⟨y,bG⟩
   obtain⟨y1,y2⟩:=(ac7.mem y).mp my
   rw[<-GK y2 (j3 x mx)]
   exact y1
  refine⟨_,rfl,rfl,_,rfl,?_⟩
  rw[aI rfl]
  refine bt ⟨_,rfl,.inl ⟨rfl,_,ak.of (s1 _ _ dk)⟩,?_⟩
  refine⟨_,rfl,s0,dx,_,rfl,s1 _ _ hs,Cm _ _ _ (by decide +kernel) (by decide +kernel) (by decide +kernel),s0,dx,g,cZ,p,ce,a,.ref fl,.ref cA,wo,.ref kn,l,m,wd,R,xs,rfl,s1 _ _ hs,s1 _ _ hg,s1 _ _ hT,s1 _ _ mT,Paired.bJ sL λr x e=>e.gv λb o e=>s1 _ _ e,s1 _ _ hp,FL,FM,qi,λt H2 s2 ht=>?_⟩
  have sN:=s1.trans s2
  have vv:=sN _ _ dk
  refine⟨fo,_,.ref t,rfl,rfl,vv,jW (by rw[aq];lia),?_⟩
  have o3:∀b o,b≠fo->H2 b=some o->upd H2 fo (.lst (ts.map V.ref++[.ref t])) b=some o:=λb o n e=>by rw[ao n];exact e
  have f3:upd H2 fo (.lst (ts.map V.ref++[.ref t])) fo=some (.lst ((ts++[t]).map V.ref)):=by rw[au,dQ];rfl
  generalize upd H2 fo (.lst (ts.map V.ref++[.ref t]))=H3 at o3 f3
  have Cs:KX kn fo H H3:=λb o _ n e=>o3 b o n (sN _ _ e)
  have HQ:kn≠fo:=cy cP dk (by intro z;cases z)
  have eF:H3 kn=some (.dK kvs):=o3 _ _ HQ (sN _ _ cP)
  have ht3:H3 t=some (.tup (m.map V.str)):=o3 _ _ (cy ht vv (by intro z;cases z)) ht
  have iN:jd H3 (ts++[t]) (c7++[m]):=oq (hF.keep (Cs.kp cP dk Cq).ja) (.cons ht3 .nil)
  have oz:=hK.keep λb o e z=>(Cs.kp cP dk Cq).lst _ _ z e
  refine⟨_,rfl,fo,_,rfl,.inl (ak.of f3),_,rfl,_,_,rfl,rfl,_,rfl,?_⟩
  have sP:∀s∈[m],cD s m wd/\eN ks s wd=true:=λs ms=>by rw[cb.mp ms];exact⟨cD.refl FM.sh,BV⟩
  by_cases ui:c7.length+1<most
  .rw[aI (by rw[aq,cE,Dk];lia)]
   refine bt λx qr hx yK cJ=>?_
   have s4:af H3 (upd (upd H3 qr (.own x)) x (.ins CW qr [])):=λb o e=>by rw[ao (bB e hx),ao (bB e yK)];exact e
   have yN:upd (upd H3 qr (.own x)) x (.ins CW qr []) x=some (.ins CW qr []):=au
   generalize upd (upd H3 qr (.own x)) x (.ins CW qr [])=H4 at s4 yN
   refine q (.ref x) [m] [t] kvs H4 ⟨Cs.trans (KX.of s4),s4 _ _ eF,oz.keep λb o e _=>s4 _ _ e,s4 _ _ f3,iN.keep λb o _ _ e=>s4 _ _ e,by simp,sP,.inr ⟨(by intro z;cases z),by rw[cE,Dk];exact ui,λtold ht=>.inl ⟨x,qr,rfl,yN,mV,ht m bG⟩⟩⟩
  .rw[aK (by rw[aq,cE,Dk];lia)]
   exact aR (q .aB [m] [t] kvs H3 ⟨Cs,eF,oz,f3,iN,by simp,sP,.inl ⟨rfl,by rw[cE,Dk];lia⟩⟩)
 .
  rw[aq] at bj
  rw[Qv bj] at HP
  refine⟨_,rfl,rfl,_,rfl,?_⟩
  rw[aK (by intro z;cases z)]
  refine aR ⟨bA _,λpa xX=>?_⟩
  have s2:af H (upd H1 pa (.lst [])):=s1.trans (af.upd xX)
  have HR:upd H1 pa (.lst []) pa=some (.lst []):=au
  have ac8:H pa=none:=s1.free xX
  generalize upd H1 pa (.lst [])=H2 at s2 HR
  refine hide λG_ bT=>?_
  obtain⟨ws,hws⟩:∃ws,dE[pl]? = some ws:=⟨_,aS (by lia)⟩
  obtain⟨fv,yB,lf,rfl,Ck,B4⟩:=Paired.getL HN hws
  obtain⟨pt,hpt,yJ⟩:=Paired.get Cr hws
  refine bT.k ?_
  rw[kd R _ bj] at hpt
  cases hpt
  have qb:dE.getD pl []=ws:=bE hws
  rw[qb] at HP
  refine⟨_,rfl,s0,dx,_,rfl,s2 _ _ hs,Cm _ _ _ (by decide +kernel) (by decide +kernel) (by decide +kernel),_,rfl,s0,dx,p,fl,lf,.ref g,R.map (ar m),ws,fs,pl,rfl,s2 _ _ hs,s2 _ _ hp,s2 _ _ fM,yB,s2 _ _ Ck,by rw[aq];exact bj,by rw[aq];exact qg,B4,λlq H3 vw s3 HS=>⟨lq,rfl,⟨_,ak.of HS⟩,?_⟩⟩
  have HU:∀x,x∈(ws.filter λx=>!decide (x∈fW (R.map (ar m)) pl))->x∈ks/\cz x (ar m (ai R pl))=true/\x∈ws/\x∉fW (R.map (ar m)) pl:=λx mx=>by
   obtain⟨m1,m2⟩:=b8.mp mx
   have:=(yJ.mem x).mp m1
   exact⟨this.1,this.2,m1,by simpa using m2⟩
  have HV:(ws.filter λx=>!decide (x∈fW (R.map (ar m)) pl)).Nodup:=yJ.nd.filter _
  have Qw:(ws.filter λx=>!decide (x∈fW (R.map (ar m)) pl)).length<64:=kq (uu HV λx mx=>(HU x mx).1) da
  have yO:cn (ws.filter λx=>!decide (x∈fW (R.map (ar m)) pl))=c6 m R pl ks:=by
   rw[<-abL dz yJ]
   congr 1
   refine List.filter_congr λx _=>?_
   by_cases z:x∈fW (R.map (ar m)) pl
   .rw[aI z,aI ((Qp bj).mp z)]
   .rw[aK z,aK λy=>z ((Qp bj).mpr y)]
  generalize hXs:(ws.filter λx=>!decide (x∈fW (R.map (ar m)) pl))=Xs at HS HU HV Qw yO
  have oB:=s2.trans s3
  have ac9:=s3 _ _ HR
  have rZ:∀b o,H b=some o->b≠pa:=λb o e=>bB e ac8
  have HQ:kn≠fo:=cy cP dk (by intro z;cases z)
  have jc:kn≠pa:=rZ _ _ cP
  have Qx:fo≠pa:=rZ _ _ dk
  have ada:lq≠fo:=λz=>by rw[z,s2 _ _ dk] at vw;cases vw
  have adb:lq≠pa:=λz=>by rw[z,HR] at vw;cases vw
  have ade:lq≠kn:=λz=>by rw[z,s2 _ _ cP] at vw;cases vw
  have HW:∀{Hi:Hp},(∀b o,b≠kn->b≠fo->b≠pa->H3 b=some o->Hi b=some o)->KX kn fo H Hi:=λk b o n1 n2 e=>k b o n1 n2 (rZ b o e) (oB _ _ e)
  refine iW (K:=K) (xs:=Xs.map V.str) (λi O Hi=>∃(v5 v6:Option V) (dY:List Addr) (new:List (List Str)) (kv:List (Key×V)) (us:List V),O=[some (.ref s0),some (.int (most:Int)),some (.ref fo),some (.int (pl:Int)),some (.ref pa),v5,v6]/\ac3 Z M H3 Hi CW CC kn fo pa most wd n pl i m ks wf R Xs ts dY c7 new kv us)
   ⟨none,none,[],[],kvs,[],rfl,⟨λb o _ _ _ e=>e,oB _ _ cP,(hK.weak λb o z e=>⟨z,rZ b o e⟩).keep λb o e _=>oB _ _ e,by rw[iQ];exact oB _ _ dk,by rw[iQ,iQ];exact hF.keep λb o _ _ e=>oB _ _ e,jh,(λ_ ms=>nomatch ms),by rw[iQ];exact aM,ac9,.nil⟩⟩ ?_ ?_ ?_
  .rintro i O Hi _ ⟨v5,v6,dY,new,kv,us,rfl,CI⟩
   exact ak.of (CI.e1 _ _ ade ada adb HS)
  .intro i y O Hi hy adf
   refine hide λG_ cN=>?_
   obtain⟨v5,v6,dY,new,kv,us,rfl,⟨off,vx,HX,vy,sQ,HY,sR,HZ,Ct,iO⟩⟩:=adf
   rw[bq] at hy
   obtain⟨x,hx,rfl⟩:=gu.mp hy
   have hi:i<Xs.length:=(bP.mp hx).1
   obtain⟨fA,cV,Ia,Qy⟩:=HU x (bh hx)
   have gB:Xs.take (i+1)=Xs.take i++[x]:=by rw[eD,hx];rfl
   have hxn:x∉Xs.take i:=λz=>by
    have h1:(Xs.take (i+1)).Nodup:=HV.sublist (vY _ _)
    rw[gB,oX] at h1
    exact h1.2.2 x z x (cb.mpr rfl) rfl
   obtain⟨mV,mD⟩:46∈(ar m (ai R pl)).cps.toList/\∀j,j<(R.map (ar m)).length->46∈((R.map (ar m)).getD j ⟨#[]⟩).cps.toList->ws.length<=(dE.getD j []).length:=by
    rcases HP with z | ⟨z1,z2⟩
    .exact z
    .exfalso
     rcases z2 with z2 | z2
     .rw[GK cV z1] at Qy
      exact Qy (by unfold fW;exact jg _ z2)
     .rw[z2] at Ia
      cases Ia
   refine cN.k ?_
   have dX:∀j,j<R.length->46∈(ar m (ai R j)).cps.toList->∃y∈ks,cz y (ar m (ai R j))=true:=λj hj cC=>by
    have h1:=mD j (by rw[aq];exact hj) (by rw[Qv hj];exact cC)
    obtain⟨wj,Qz⟩:∃wj,dE[j]? = some wj:=⟨_,aS (by lia)⟩
    obtain⟨pj,QA,hFj⟩:=Paired.get Cr Qz
    rw[kd R _ hj] at QA
    cases QA
    rw[bE Qz] at h1
    have h0:=List.length_pos_of_mem Ia
    cases wj with
    |nil=>rw[Dj] at h1;lia
    |cons y r=>exact⟨y,(hFj.mem y).mp bG⟩
   have lE:=yM (fZ x fA)
   have B6:46∉x.cps.toList:=λz=>by have:=lE 46 z;lia
   have QB:x.length=(ai R pl).length:=by rw[(fV.mp cV).1,dJ]
   have yP:=HW off
   have kh:=yP.kp cP dk Cq
   have Ib:¬(λb=>Z b/\b≠pa) fo:=λz=>Cq z.1
   have Cu:∀b,Hi b=none->Z b/\b≠pa:=λb e=>⟨hZ b (yP.none ⟨_,vx⟩ ⟨_,vy⟩ e),λz=>by rw[z,Ct] at e;cases e⟩
   have QC:∀b o,Z b->H b=some o->(Z b/\b≠pa):=λb o z e=>⟨z,rZ b o e⟩
   have adg:=Paired.bJ HG λi v (e:∃q us,v=V.ref q/\Z q/\H q=some (.lst us)/\bz H (kb R i) us)=>(show ∃q us,v=V.ref q/\Hi q=some (.lst us)/\bz Hi (kb R i) us from let ⟨q,us,e1,e2,e3,e4⟩:=e;⟨q,us,e1,kh.lst _ _ e2 e3,e4.lists λb o e=>kh.tup e⟩)
   have agS:=Paired.bJ u9 λt v e=>(e.keep (H':=Hi) λb o e z=>kh.lst _ _ z e)
   have adh:Paired (gK (λb=>Z b/\b≠pa) Hi ks wf) (R.map (ar m)) fs:=Paired.bJ u9 λt v e=>(e.weak QC).keep λb o e z=>kh.lst _ _ z.1 e
   refine⟨_,rfl,s0,dx,_,rfl,kh.ins hs,Cm _ _ _ (by decide +kernel) (by decide +kernel) (by decide +kernel),_,rfl,_,rfl,?_⟩
   refine⟨s0,dx,g,cZ,p,fl,cA,kn,.ref a,.ref ce,wo,m,ks,wf,wd,pl,R,fs,cs,x,kv,(λb=>Z b/\b≠pa),M,rfl,⟨kh.ins hs,kh.ins hg,vx,HX,hM,kh.lst _ _ zp hp,kh.lst _ _ zfl fM,adh,kh.lst _ _ ac5 sM,adg,FM,bj,qg,cV,fA,B6,Cu,λk i hi cC=>Qt m pl x k i FM qi bj fA cV dX hi cC⟩,λs' oy p' cx wA QD H5 SP=>?_⟩
   refine hide λG_ fR=>?_
   obtain⟨uY,adi,o5,sJ,Hg,Hh,sd,adj,adk⟩:=SP
   refine fR.k ?_
   have QE:KX kn fo Hi H5:=λb o n _ e=>o5 b o n e
   have Ic:=o5 _ _ (bu HQ) vy
   have adl:=o5 _ _ (bu jc) Ct
   have Ie:Kp (λb=>Z b/\b≠pa) Hi H5:=QE.kp vx vy Ib
   have adm:Kp (λb=>Z b/\b≠pa) H Hi:=⟨kh.ja,λb l z e=>kh.lst b l z.1 e⟩
   have nn5:∀b,H5 b=none->Z b/\b≠pa:=λb e=>Cu b (QE.none ⟨_,sJ⟩ ⟨_,Ic⟩ e)
   refine⟨_,rfl,_,rfl,s',g,kn,fo,most,wd,l,putL m (ai R pl) x.cps.toList,ks,wf,R,QD,(λb=>Z b/\b≠pa),M,ts++dY,c7++new,rfl,⟨((hG.weak QC).keep adm).keep Ie,⟨oy,p',cx,wA,Hh,sd,Cu _ uY,adj,Cu _ adi,adk⟩,sJ,Hg,hM,Qt,FL,FM.put pl lE QB,by rw[mQ,qi],qg,fZ,dz,da,nn5,Ib,Ic,sQ.keep Ie.ja,HZ,HM,by have:=Ph FM lE cV mV;lia⟩,λv nw Ig gL H6 CP=>?_⟩
   refine hide λG_ oa=>?_
   obtain⟨kx,QF,QG,Ih,uP,adn,Ii,lF⟩:=CP
   refine oa.k ?_
   rw[tf] at Ih
   rw[tf,tf] at uP
   rw[tf] at lF
   have ib:∀b o,b≠kn->b≠fo->b≠pa->H3 b=some o->H6 b=some o:=λb o n1 n2 n3 e=>kx b o n1 n2 (o5 b o n1 (off b o n1 n2 n3 e))
   have Cv:=kx _ _ (bu jc) (bu Qx) adl
   have QH:∀s∈nw,ar s (ai R pl)=x:=λs ms=>cD.text FM lE QB (Ii s ms).1
   have Ij:∀s∈new++nw,cD s m wd/\eN ks s wd=true/\ar s (ai R pl)∈Xs.take (i+1):=λs ms=>by
    rw[gB]
    rcases cX.mp ms with z | z
    .exact⟨(sR s z).1,(sR s z).2.1,jg _ (sR s z).2.2⟩
    .exact⟨cD.Pf FM lE cV (Ii s z).1,(Ii s z).2,gc _ (by rw[QH s z];exact bG)⟩
   have QI:(new++nw).Nodup:=oX.mpr ⟨HY,adn,λs ms t mt z=>by
    have h1:=(sR s ms).2.2
    rw[z,QH t mt] at h1
    exact hxn h1⟩
   rcases lF with ⟨rfl,ado⟩ | ⟨hv,adp,eG⟩
   .refine⟨_,rfl,rfl,_,rfl,?_⟩
    rw[aI rfl]
    exact bt (q .aB (new++nw) (dY++Ig) gL H6 ⟨HW ib,QF,QG.weak λb o z _=>z.1,Ih,uP,QI,λs ms=>⟨(Ij s ms).1,(Ij s ms).2.1⟩,.inl ⟨rfl,ado⟩⟩)
   .refine⟨_,rfl,rfl,_,rfl,?_⟩
    rw[aK hv]
    have GQ:us.length<=64:=by rw[<-iO.length,fC];lia
    refine aR ⟨_,rfl,.inl ⟨rfl,_,ak.of Cv⟩,_,rfl,_,rfl,(by show 2<=sizeLine;decide),λt ht=>?_⟩
    have rY:t≠pa:=λz=>by rw[z,Cv] at ht;cases ht
    refine⟨pa,us,_,rfl,rfl,by rw[ao (bu rY)];exact Cv,jW (by lia),?_⟩
    have o7:∀b o,b≠pa->H6 b=some o->upd (upd H6 t (.tup [.str x,v])) pa (.lst (us++[.ref t])) b=some o:=λb o n e=>by rw[ao n,ao (bB e ht)];exact e
    have QJ:upd (upd H6 t (.tup [.str x,v])) pa (.lst (us++[.ref t])) t=some (.tup [.str x,v]):=by rw[ao rY];exact au
    have QK:upd (upd H6 t (.tup [.str x,v])) pa (.lst (us++[.ref t])) pa=some (.lst (us++[.ref t])):=au
    generalize upd (upd H6 t (.tup [.str x,v])) pa (.lst (us++[.ref t]))=H7 at o7 QJ QK
    have Ik:Kp (λb=>Z b/\b≠pa) H6 H7:=⟨λb o n1 _ e=>o7 b o (λz=>by rw[z,Cv] at e;exact n1 _ (dm e).symm) e,λb l z e=>o7 b _ z.2 e⟩
    have adq:Kp (λb=>Z b/\b≠pa) H5 H6:=kx.kp sJ Ic Ib
    have QL:=(Ie.trans adq).trans Ik
    refine⟨_,_,dY++Ig,new++nw,gL,us++[.ref t],rfl,⟨λb o n1 n2 n3 e=>o7 b o n3 (ib b o n1 n2 n3 e),o7 _ _ jc QF,QG.keep λb o e z=>o7 b _ z.2 e,o7 _ _ Qx Ih,uP.keep Ik.ja,QI,Ij,adp,QK,?_⟩⟩
    rw[gB]
    refine oq (Paired.bJ iO λx' v' g=>?_) (.cons ⟨t,v,rfl,QJ,cV,λtold ht=>(eG told λs ms=>ht s (gc _ ms)).mono Ik (λ_ _ z _=>z) λ_ z=>z⟩ .nil)
    refine hide λG_ og=>?_
    obtain⟨t',u',e1,e2,e3,e4⟩:=g
    refine og.k ?_
    exact⟨t',u',e1,QL.tup e2,e3,λtold ht=>(e4 told λs ms=>ht s (jg _ ms)).mono QL (λ_ _ z _=>z) λ_ z=>z⟩
  .intro O Hi ads
   refine hide λG_ yq=>?_
   obtain⟨v5,v6,dY,new,kv,us,rfl,⟨off,vx,HX,vy,sQ,HY,sR,HZ,Ct,iO⟩⟩:=ads
   refine yq.k ?_
   rw[aq,Dr] at iO
   refine⟨_,rfl,_,rfl,λx oC hx yK cJ=>?_⟩
   have s4:af Hi (upd (upd Hi oC (.own x)) x (.ins CC oC [])):=λb o e=>by rw[ao (bB e hx),ao (bB e yK)];exact e
   have yN:upd (upd Hi oC (.own x)) x (.ins CC oC []) x=some (.ins CC oC []):=au
   generalize upd (upd Hi oC (.own x)) x (.ins CC oC [])=H4 at s4 yN
   refine⟨x,oC,pa,.int (pl:Int),us,rfl,yN,s4 _ _ Ct,λr H5 vz h1 h2 h3=>⟨rfl,?_⟩⟩
   have s5:af Hi H5:=λb o e=>h3 _ _ (λz=>by rw[z,hx] at e;cases e) (s4 _ _ e)
   have yP:=HW off
   have hrH:H r=none:=by
    cases eb:H r with
    |none=>rfl
    |some o=>
     by_cases z1:r=kn
     .rw[z1,s4 _ _ vx] at vz;cases vz
     .by_cases z2:r=fo
      .rw[z2,s4 _ _ vy] at vz;cases vz
      .rw[s4 _ _ (yP r o z1 z2 eb)] at vz;cases vz
   refine q (.ref x) new dY kv H5 ⟨yP.trans (KX.of s5),s5 _ _ vx,(HX.weak λb o z _=>z.1).keep λb o e _=>s5 _ _ e,s5 _ _ vy,sQ.keep λb o _ _ e=>s5 _ _ e,HY,λs ms=>⟨(sR s ms).1,(sR s ms).2.1⟩,.inr ⟨(by intro z;cases z),HZ,λtold adt=>.inr ⟨x,oC,r,pl,Xs,us,rfl,h1,hZ r hrH,h2,bj,yO,Qw,Paired.bJ iO λx v g=>?_⟩⟩⟩
   refine hide λG_ GX=>?_
   obtain⟨t,u,e1,e2,e3,e4⟩:=g
   refine GX.k ?_
   exact⟨t,u,e1,s5 _ _ e2,e3,(e4 told adt).mono (Kp.of s5) (λb o z _=>z.1) λ_ z=>z⟩
theorem QM{CG CS CW CC:Addr}(B:Bl mg)(F:ba K "closing_paper" "closing_paper" (top 41) f fd)(hm:mg "closing_paper"=some (.ref f))(hk:keepIn K (.ref f)=true)(hb:Binds K fd ["standing","most","found"] [])(vk:Mt P w K mg base CS "narrowest" 1 (G2 CS) [])(vm:Mt P w K mg base CS "filled" 3 (G7 K CS CG) [])(vn:Mt P w K mg base CS "left" 1 (G0 K CS) [])(vo:Mt P w K mg base CS "after" 3 (Hc K CS CG) [])(vp:A9 K mg "Whole" CW)(vq:Nw P w K mg base "Cases" CC 1 (HK CC)) :
  ∀n:Nat,aO P w K mg base aQ (n+4) f fd ["standing","most","found"] (Cp K CG CS CW CC n)
 |0=>F.ok vj (λvs H Q E h=>by obtain⟨s,g,kn,fo,most,w,l,m,ks,wf,R,kvs,Z,M,ts,c7,rfl,hp,_⟩:=h;have:=hp.ek;lia) (λaF A outer s H vs Q E hr h=>by obtain⟨s,g,kn,fo,most,w,l,m,ks,wf,R,kvs,Z,M,ts,c7,rfl,hp,_⟩:=h;have:=hp.ek;lia)
 |n+1=>ac4 n B F ⟨f,fd,_,QM B F hm hk hb vk vm vn vo vp vq n,hm,hk,hb⟩ vk vm vn vo vp vq
end
theorem QN:∀(r:List C2) (c:C2),((List.range r.length).filter λk=>decide (r[k]? = some c)).length=r.count c
 |[],c=>rfl
 |a::r,c=>by
  rw[cQ,JN,dF,tw,Kd]
  have e:((λk=>decide ((a::r)[k]? = some c))∘Nat.succ)=λk=>decide (r[k]? = some c):=by funext k;rfl
  rw[e]
  have ih:=QN r c
  by_cases z:a=c
  .have:decide ((a::r)[0]? = some c)=true:=by simp[z]
   rw[aA this,cQ,aq,ih,aA (by simp[z])]
  .have:¬decide ((a::r)[0]? = some c)=true:=by simp[z]
   rw[av this,aq,ih,av (by simpa using z)]
   rfl
theorem QO(R:List (List C2))(c:C2):(cW R c).length=(R.map λr=>r.count c).sum:=by
 unfold cW
 rw[List.length_flatMap]
 have e:(List.map (λi=>(((List.range (ai R i).length).filter λk=>decide ((ai R i)[k]? = some c)).map λk=>(i,k)).length) (List.range R.length))=(List.range R.length).map (λi=>(λr:List C2=>r.count c) (R.getD i [])):=by
  refine Ke λi _=>?_
  rw[aq,QN]
  rfl
 rw[e,lb (λr:List C2=>r.count c)]
theorem Il(c:C2):(cW (aC l w) c).length=c5 c (dj l w):=by
 rw[QO,se,jH]
 rfl
theorem QP(h:r∈aC l w):r.Nodup:=by
 unfold aC lr ic at h
 rcases cX.mp h with h | h
 .obtain⟨c,_,e⟩:=bM.mp (b8.mp h).1
  rw[<-e]
  exact FH (.inl rfl)
 .obtain⟨c,_,e⟩:=bM.mp (b8.mp h).1
  rw[<-e]
  exact FH (.inr rfl)
theorem adu(S:aV l w)(T:ka l w):GoodR (aC l w):=by
 have nd:∀i,(ai (aC l w) i).Nodup:=λi=>by
  by_cases hi:i<(aC l w).length
  .exact QP (oo hi)
  .have:ai (aC l w) i=[]:=by
    unfold ai
    rw[bR,cR (JL hi)]
    rfl
   rw[this]
   exact jh
 refine⟨nd,λi k c h=>?_⟩
 have hb:=(fT S (oo (lA h).1)).2.2 c (bh h)
 have h2:(cW (aC l w) c).length=2:=by
  rw[Il]
  exact T c (by rw[nX hb.1 hb.2.1];exact hb.2.2)
 have mo:(i,k)∈cW (aC l w) c:=qc.mpr h
 have QQ:=GF (aC l w) c
 obtain⟨p,p',ep⟩:∃p p',cW (aC l w) c=[p,p']:=by
  match ho:cW (aC l w) c,h2 with
  |[a,b],_=>exact⟨a,b,rfl⟩
 have key:∃o:Nat×Nat,o≠(i,k)/\o∈cW (aC l w) c/\∀y∈cW (aC l w) c,y=(i,k)\/y=o:=by
  rw[ep] at mo QQ ⊢
  have cJ:p≠p':=by
   have:=(gq.mp QQ).1
   simpa using this
  rcases b9.mp mo with z | z
  .refine⟨p',λy=>cJ (by rw[<-z,y]),by simp,λy my=>?_⟩
   rcases b9.mp my with m | m
   .exact .inl (m.trans z.symm)
   .exact .inr (cb.mp m)
  .have z:=cb.mp z
   refine⟨p,λy=>cJ (by rw[<-z,y]),by simp,λy my=>?_⟩
   rcases b9.mp my with m | m
   .exact .inr m
   .exact .inl ((cb.mp m).trans z.symm)
 obtain⟨o,EF,jt,uj⟩:=key
 have o8:=qc.mp jt
 refine⟨o.1,o.2,λz=>EF ?_,o8,λi' k' h' =>?_⟩
 .rw[z] at o8
  exact ni z (yk (nd i) o8 h)
 .rcases uj (i',k') (qc.mpr h') with z | z
  .injection z with z1 z2
   exact .inl ⟨z1,z2⟩
  .exact .inr ⟨by rw[<-z],by rw[<-z]⟩
theorem Im(S:aV l w)(T:ka l w):cj l w (aC l w):=by
 refine⟨S,rfl,adu S T,λc h1 h2 ho=>?_⟩
 have h:=T c (by rw[nX h1 h2];exact ho)
 rw[<-Il] at h
 cases e:cW (aC l w) c with
 |nil=>rw[e] at h;cases h
 |cons p r=>exact⟨p.1,p.2,qc.mp (by rw[e];exact bG)⟩
structure d9(l m:List Str)(w:Nat):Prop where
 ln:m.length=l.length
 op:∀c:C2,c.1<l.length->c.2<w->bW m c=bW l c
theorem d9.bo{l m:List Str}{w:Nat}(F:d9 l m w):bo m w=bo l w:=by
 funext c
 unfold Cw.bo
 rw[F.ln]
 by_cases h1:c.1<l.length
 .by_cases h2:c.2<w
  .rw[F.op c h1 h2]
  .rw[aK h2,il,il]
 .rw[aK h1,il,il]
theorem d9.b6{l m:List Str}{w:Nat}(F:d9 l m w):b6 m w=b6 l w:=by
 unfold Cw.b6
 rw[F.ln]
 refine List.filter_congr λc mc=>?_
 have:=rS mc
 exact F.op c this.1 this.2
theorem d9.dj{l m:List Str}{w:Nat}(F:d9 l m w):dj m w=dj l w:=by
 unfold Cw.dj nY nZ
 rw[F.bo,F.b6]
theorem d9.two(F:d9 l m w)(T:ka l w):ka m w:=λc hc=>by
 rw[F.dj]
 exact T c (by rw[<-F.bo];exact hc)
theorem d9.aC(F:d9 l m w):aC m w=aC l w:=GL F.ln F.op
noncomputable def ki(l:List Str):List Str:=l.reverse.map kW
theorem Io(x:Str):(kW x).cps.toList=x.cps.toList.reverse:=by simp[kW]
theorem adv(x:Str):(kW x).length=x.length:=by rw[<-bD,Io,Dp,bD]
theorem Cy(l:List Str):(ki l).length=l.length:=by simp[ki]
theorem QR(S:aV l w):aV (ki l) w:=by
 refine⟨by rw[Cy];exact S.one,by rw[Cy];exact S.nine,S.w1,S.w9,λx m=>?_,λx m c mc=>?_⟩
 .obtain⟨y,hy,rfl⟩:=bM.mp m
  rw[adv,S.len y (Kf.mp hy)]
 .obtain⟨y,hy,rfl⟩:=bM.mp m
  rw[Io] at mc
  exact S.ok y (Kf.mp hy) c (Kf.mp mc)
theorem adw(hi:i<l.length):(ki l)[i]? = (l[l.length - 1 - i]?).map kW:=by
 unfold ki
 rw[bq,JR hi]
theorem adx(S:aV l w)(hi:i<l.length)(hj:j<w):sg (ki l) (i,j)=sg l (l.length - 1 - i,w - 1 - j):=by
 obtain⟨x,hx,mx,lx,pR,jx⟩:=S.row (i:=l.length - 1 - i) (by lia)
 obtain⟨y,hy,my,ly,ly',jy⟩:=(QR S).row (i:=i) (by rw[Cy];exact hi)
 rw[adw hi,hx] at hy
 cases hy
 have h1:=jy j hj
 rw[Io,JR (by lia),pR,jx (w - 1 - j) (by lia)] at h1
 exact(dm h1).symm
section
variable{w:World}
theorem QS{β:Type}{f:Nat->β}:∀{l:List Nat}{ys:List β},Paired (λi y=>y=f i) l ys->ys=l.map f
 |_,_,.nil=>rfl
 |_,_,.cons h t=>by rw[bQ,<-QS t,h]
theorem ady(g:α->β)(d:α)(l:List α):(List.range l.length).map (λi=>g (l.getD i d))=l.map g:=by
 apply iS
 intro i
 rw[bq,bq]
 by_cases h:i<l.length
 .rw[qH h,aS h,iR,iR,bR,aS h,oP]
 .rw[cR (by simpa using h),cR (by simpa using h)]
  rfl
def QT(K:Frag):Sp:=λvs H Q _=>∃(a:Addr) (l:List Str) (w:Nat),vs=[.ref a]/\ax K H a (l.map V.str)/\aV l w/\∀t H',H t=none->af H H'->H' t=some (.tup ((ki l).map V.str))->Q (.ref t) H'
theorem adz:bp ["sheet"] ["sheet"] (aU (top 15)):={}
theorem adA(B:Bl mg)(F:ba K "turned" "turned" (top 15) f fd):aO P w K mg base aQ 1 f fd ["sheet"] (QT K):=by
 refine F.bH adz λaF A outer s H vs Q E hr h=>?_
 refine hide λG_ aG=>?_
 obtain⟨a,l,wd,rfl,hT,S,q⟩:=h
 refine aG.k ?_
 have h9:=S.nine
 have hw:=S.w9
 refine⟨_,(az (aW (gE tT (by rfl) B.rV rC (ab (i3 (js:=[]) (ns:=[]) (WK (by rfl) B.Zo (ab (pv 0) ah)) rfl rfl rfl rfl (λ_ _ _ _=>ju) (λ_ _ _ _=>(WN (pv 0) (Uh Uj aJ)))) ah)))),?_⟩
 try dsimp only[bC]
 refine⟨_,rfl,a,_,rfl,hT,comp_map WL (by rw[Dp,aq];lia) (λ_ i y _=>y = .str (kW (l.reverse.getD i ⟨#[]⟩))) (λH2 s2=>s2.tup hT) (λ_ _ _ _ _ _ _ _ h=>h) ?_ ?_⟩
 .intro D i x H2 Z hD hx s2 _ k1
  rw[<-List.map_reverse,bq] at hx
  cases e:l.reverse[i]? with
  |none=>rw[e] at hx;cases hx
  |some z=>
   rw[e] at hx
   cases hx
   have mz:=S.len z (Kf.mp (bh e))
   exact⟨_,rfl,_,rfl,z,rfl,rfl,fP (by lia),k1 _ _ (af.cI _) (by rw[bE e])⟩
 .intro D ys H2 hD bw s2 pr
  have e:=QS pr
  rw[Dp,aq,<-Dp (as:=l),ady (λz=>V.str (kW z))] at e
  refine⟨D,_,rfl,.inl ⟨ak.of bw,λt ht=>?_⟩⟩
  refine q t _ (s2.free ht) (s2.trans (af.upd ht)) ?_
  rw[au,e]
  unfold ki
  rw[jH]
  rfl
end
noncomputable def kc(c:C2):List Key:=[Sum.inl (c.1:Int),Sum.inl (c.2:Int)]
theorem adB(h:kc c=kc d):c=d:=by
 unfold kc at h
 injection h with h1 h2
 injection h2 with h2 _
 injection h1 with h1
 injection h2 with h2
 exact Dv.mpr ⟨by lia,by lia⟩
def qt(kvs:List (List Key×V))(g:C2->Nat):Prop := ∀c,aP kvs (kc c)=if g c=0 then none else some (.int (g c))
theorem qt.get{kvs:List (List Key×V)}{g:C2->Nat}(h:qt kvs g)(c:C2):(aP kvs (kc c)).getD (.int 0) = .int (g c):=by
 rw[h c]
 split
 .rename_i e;rw[e];rfl
 .rfl
theorem qt.put{kvs:List (List Key×V)}{g g':C2->Nat}(h:qt kvs g)(c:C2)(e1:g' c=g c+1)(e2:∀x,x≠c->g' x=g x):qt (putK kvs (kc c) (.int ((g c:Int)+1))) g':=by
 intro x
 rw[nG]
 by_cases e:x=c
 .subst e
  rw[aA rfl,av (by lia),e1]
  rfl
 .rw[av (λz=>e (adB z)),h x,e2 x e]
theorem adC(c:C2):c5 c []=0:=rfl
theorem adD(c:C2)(rs:List (Nat×List C2))(q:Nat×List C2):c5 c (rs++[q])=c5 c rs+q.2.count c:=by
 unfold c5
 rw[dQ,JS,bQ,fH]
 rfl
theorem Ip{α:Type}{p:α->Bool}:∀{l:List α}{i:Nat}{c:α},l[i]? = some c->p c=true->(∀(j:Nat) (x:α),j<i->l[j]? = some x->p x=false)->l.find? p=some c
 |[],_,_,h,_,_=>by simp at h
 |y::r,0,c,h,hp,_=>by
  have h:y=c:=by simpa using h
  rw[h,List.find?_cons_of_pos hp]
 |y::r,i+1,c,h,hp,hj=>by
  have h0:=hj 0 y (Nat.succ_pos _) rfl
  rw[List.find?_cons_of_neg (by rw[h0];exact bZ)]
  exact Ip (i:=i) (by simpa using h) hp λj x q e=>hj (j+1) x (by lia) (by simpa using e)
theorem Iq{p:α->Bool}{l:List α}(h:∀(j:Nat) (x:α),l[j]? = some x->p x=false):l.find? p=none:=by
 rw[List.find?_eq_none]
 intro x hx
 obtain⟨j,hj⟩:=dR hx
 rw[h j x hj]
 exact bZ
noncomputable def vA(l:List Str)(c:C2):Bool := !bW (ki l) c
noncomputable def fq(l:List Str)(w:Nat)(c:C2):Bool:=decide (c5 c (dj l w)<2)
noncomputable def yQ(l:List Str)(w:Nat):Option C2:=((b6 l w).find? (vA l)).or ((b6 l w).find? (fq l w))
section
variable{w:World}
def QU(K:Frag):Sp:=λvs H Q _=>∃(a:Addr) (l:List Str) (w:Nat),vs=[.ref a]/\ax K H a (l.map V.str)/\aV l w/\
 ∀p kvs H',H p=none->af H H'->H' p=some (.dT kvs)->qt kvs (λc=>c5 c (dj l w))->Q (.ref p) H'
theorem Cz:bp ["sheet","counts","row","cell"] ["sheet"] (aU (top 24)):={}
theorem adE(F:ba K "rows_through" "rows_through" (top 24) f fd)(Hn:Fn P w K mg base "rows_of" 5 (FV K)):aO P w K mg base aQ 6 f fd ["sheet"] (QU K):=by
 refine F.bH Cz λaF A outer s H vs Q E hr h=>?_
 refine hide λG_ aG=>?_
 obtain⟨a,l,wd,rfl,hT,S,q⟩:=h
 refine aG.k ?_
 have dr:=jU hr
 have QV:=r8 S
 refine⟨_,(aw (aL 1 Cz.nd Ls)
  (aw (cF (dn (aY Hn hr (ab (pv 0) ah))) (bK 2 Cz.nd)
  (az (cF (wJ (bf cM (pv 2) aJ)) (bK 3 Cz.nd)
   (az (Az dr (pv 1) (pv 3) (aT fh (Lv dr (pv 1) (pv 3) aJ ⟨rfl,rfl,rfl,rfl⟩) aJ) rfl)))))
  (az (aW (pv 1))))),?_⟩
 try dsimp only[bC]
 intro p hp
 have eU:af H (upd H p (.dT [])):=af.upd hp
 have iC:upd H p (.dT []) p=some (.dT []):=au
 generalize upd H p (.dT [])=H0 at eU iC
 refine⟨_,rfl,a,l,wd,rfl,eU.tup hT,S,λg xa xd H1 hg s1 hL rA rD=>⟨g,rfl,⟨_,ak.of hL⟩,?_⟩⟩
 have rB:=N9 rA rD
 have Qc:=rB.length
 have j3:=s1 _ _ iC
 refine iW (xs:=xa++xd) (λi O H2=>∃v2 v3 kvs,O=[some (.ref a),some (.ref p),v2,v3]/\(∀b o,b≠p->H1 b=some o->H2 b=some o)/\H2 p=some (.dT kvs)/\kvs.length<=10*i/\qt kvs (λc=>c5 c ((dj l wd).take i)))
  ⟨none,none,[],rfl,λ_ _ _ z=>z,j3,aN _,λc=>by rw[oU,aA (adC c)];rfl⟩ ?_ ?_ ?_
 .rintro i O H2 _ ⟨v2,v3,kvs,rfl,off,_⟩
  exact ak.of (off _ _ (cy hL j3 (by intro z;cases z)) hL)
 .intro i x O H2 hx adF
  refine hide λG_ bc=>?_
  obtain⟨v2,v3,kvs,rfl,off,hd,nR,hC⟩:=adF
  have hi:i<(xa++xd).length:=(bP.mp hx).1
  obtain⟨row,hq,way,aa,t,xs3,rfl,g1,g2,g3⟩:=Paired.get rB hx
  refine bc.k ?_
  have bb:=F7 (bh hq)
  have CF:∀b o,H1 b=some (.tup o)->b≠p:=λb o z=>cy z j3 (by intro y;cases y)
  have EM:=off _ _ (CF _ _ g2) g2
  have hxs:=g3.length
  refine⟨_,rfl,aa,_,2,.ref t,rfl,rfl,ax.of (off _ _ (CF _ _ g1) g1),rfl,t,rfl,⟨_,ax.of EM⟩,?_⟩
  have iF:(dj l wd).take (i+1)=(dj l wd).take i++[row]:=by rw[eD,hq];rfl
  refine L7 Et (λj O H3=>∃v3 kvs,O=[some (.ref a),some (.ref p),some (.ref aa),v3]/\(∀b o,b≠p->H1 b=some o->H3 b=some o)/\H3 p=some (.dT kvs)/\kvs.length<=10*i+j/\qt kvs (λc=>c5 c ((dj l wd).take i)+(row.2.take j).count c))
   ⟨v3,kvs,rfl,off,hd,nR,λc=>by simp only[oU,List.count_nil,Du];exact hC c⟩ (λj O H3 _ ⟨_,_,_,iM,_⟩=>ax.of (iM _ _ (CF _ _ g2) g2)) ?_ ?_
  .intro j x O H3 hx3 adG
   refine hide λG_ bT=>?_
   obtain⟨v3,Ir,rfl,iM,mw,adH,jA⟩:=adG
   obtain⟨c,hc,b,rfl,hb⟩:=Paired.get g3 hx3
   refine bT.k ?_
   have hj:j<row.2.length:=(bP.mp hc).1
   have QW:H3 b=some (.tup ((kc c).map kV)):=iM _ _ (CF _ _ hb) hb
   refine⟨_,rfl,p,rfl,.inr ⟨Ir,.inl mw⟩,_,rfl,_,dW.t mw QW,?_⟩
   rw[jA.get c]
   refine⟨_,_,rfl,rfl,_,rfl,_,rfl,p,_,rfl,l6.t mw QW (jW (by lia)),?_⟩
   refine⟨_,_,rfl,λb' o jr z=>by rw[ao jr];exact iM b' o jr z,au,bL (tU _ _ _) (by lia),?_⟩
   have et:row.2.take (j+1)=row.2.take j++[c]:=by rw[eD,hc];rfl
   refine jA.put c ?_ λx pN=>?_
   .rw[et,Kc,List.count_singleton_self]
    lia
   .rw[et,Kc,(List.count_eq_zero (l:=[c])).mpr (by simpa using pN),Du]
  .intro O H3 adI
   refine hide λG_ cN=>?_
   obtain⟨v3,Ir,rfl,iM,mw,adH,jA⟩:=adI
   refine cN.k ?_
   refine⟨_,_,Ir,rfl,iM,mw,by lia,λc=>?_⟩
   have:=jA c
   dsimp only at this ⊢
   rw[eE (l:=row.2) (i:=xs3.length) (by lia)] at this
   have e9:c5 c ((dj l wd).take (i+1))=c5 c ((dj l wd).take i)+row.2.count c:=by rw[iF,adD]
   rw[this]
   simp only[e9]
 .intro O H2 adJ
  refine hide λG_ fR=>?_
  obtain⟨v2,v3,kvs,rfl,off,hd,nR,hC⟩:=adJ
  refine fR.k ?_
  rw[eE (by lia)] at hC
  refine⟨_,rfl,q p kvs H2 hp (λb o z=>off b o (bB z hp) (s1 _ _ (eU _ _ z))) hd hC⟩
def QX(K:Frag):Sp:=λvs H Q _=>∃(a:Addr) (l:List Str) (w:Nat),vs=[.ref a]/\ax K H a (l.map V.str)/\aV l w/\yQ l w=none/\∀H',af H H'->Q .aB H'
theorem vB:bp ["sheet","about","cells","cell","counts"] ["sheet"] (aU (top 23)):={}
theorem adK(F:ba K "need_floor" "need_floor" (top 23) f fd)(adL:Fn P w K mg base "turned" 1 (QT K))(FW:Fn P w K mg base "open_cells" 3 (FR K))(xT:Fn P w K mg base "is_open" 2 (Bp K))
  (adM:Fn P w K mg base "rows_through" 6 (QU K)):aO P w K mg base aQ 7 f fd ["sheet"] (QX K):=by
 refine F.bH vB λaF A outer s H vs Q E hr h=>?_
 refine hide λG_ aG=>?_
 obtain⟨a,l,wd,rfl,hT,S,vC,q⟩:=h
 refine aG.k ?_
 have dr:=jU hr
 refine⟨_,(aw (aL 1 vB.nd (aY adL hr (ab (pv 0) ah)))
  (aw (aL 2 vB.nd (aY FW hr (ab (pv 0) ah)))
  (aw (cF (dn (pv 2)) (bK 3 vB.nd)
  (az (bS (gT (fK (aY xT hr (ab (pv 1) (ab (pv 3) ah)))))
   (az wI)
   bX)))
  (aw (aL 4 vB.nd (aY adM hr (ab (pv 0) ah)))
  (az (cF (dn (pv 2)) (bK 3 vB.nd)
  (az (bS (cg kK (Lv dr (pv 4) (pv 3) aJ ⟨rfl,rfl,rfl,rfl⟩) aJ)
   (az wI)
   bX)))))))),?_⟩
 try dsimp only[bC]
 refine⟨_,rfl,a,l,wd,rfl,hT,S,λt H1 ht s1 hTt=>?_⟩
 refine⟨_,rfl,a,l,wd,rfl,s1.tup hT,S,λp xs H2 hp s2 hL hC=>?_⟩
 have lG:=s1.trans s2
 have hcx:=hC.length
 refine⟨_,rfl,p,rfl,⟨_,ak.of hL⟩,iW (xs:=xs) (λi O H3=>∃v3,O=[some (.ref a),some (.ref t),some (.ref p),v3,none]/\H3=H2/\∀j c,j<i->(b6 l wd)[j]? = some c->vA l c=false)
  ⟨none,rfl,rfl,λj c z=>absurd z (gQ _)⟩ (λi O H3 _ ⟨_,_,e,_⟩=>by rw[e];exact ak.of hL) ?_ ?_⟩
 .intro i x O H3 hx adN
  refine hide λG_ bc=>?_
  obtain⟨v3,rfl,rfl,dX⟩:=adN
  obtain⟨c,hc,b,rfl,hb⟩:=Paired.get hC hx
  obtain⟨m1,m2⟩:=rS (b8.mp (bh hc)).1
  refine bc.k ?_
  refine⟨_,rfl,_,rfl,t,b,ki l,wd,c,rfl,ax.of (s2 _ _ hTt),QR S,ax.of hb,by rw[Cy];exact m1,m2,_,rfl,?_⟩
  cases ho:bW (ki l) c with
  |true=>
   refine aR ⟨_,rfl,rfl,λj x hj e=>?_⟩
   rcases wy.mp hj with z | z
   .exact dX j x z e
   .rw[z,hc] at e
    cases e
    unfold vA
    rw[ho]
    rfl
  |false=>
   refine bt ?_
   unfold yQ at vC
   rw[Ip hc (by unfold vA;rw[ho];rfl) dX] at vC
   cases vC
 .rintro O H3 ⟨v3,rfl,rfl,dX⟩
  have kZ:(b6 l wd).find? (vA l)=none:=Iq λj x e=>dX j x (by rw[<-hcx];exact(bP.mp e).1) e
  refine⟨_,rfl,a,l,wd,rfl,lG.tup hT,S,λd kvs H4 iC s4 hd hCn=>?_⟩
  have sf:=s4 _ _ hL
  refine⟨_,rfl,p,rfl,⟨_,ak.of sf⟩,iW (xs:=xs) (λi O H5=>∃v3,O=[some (.ref a),some (.ref t),some (.ref p),v3,some (.ref d)]/\H5=H4/\∀j c,j<i->(b6 l wd)[j]? = some c->fq l wd c=false)
   ⟨v3,rfl,rfl,λj c z=>absurd z (gQ _)⟩ (λi O H5 _ ⟨_,_,e,_⟩=>by rw[e];exact ak.of sf) ?_ ?_⟩
  .intro i x O H5 hx adO
   refine hide λG_ bT=>?_
   obtain⟨v3,rfl,rfl,Iu⟩:=adO
   obtain⟨c,hc,b,rfl,hb⟩:=Paired.get hC hx
   refine bT.k ?_
   have hb4:H5 b=some (.tup ((kc c).map kV)):=s4 _ _ hb
   refine⟨_,rfl,d,rfl,.inr ⟨kvs,.inl hd⟩,_,rfl,_,dW.t hd hb4,?_⟩
   rw[hCn.get c]
   refine⟨_,_,rfl,rfl,_,rfl,?_⟩
   by_cases h2:c5 c (dj l wd)<2
   .rw[aI (by lia)]
    refine bt ?_
    unfold yQ at vC
    rw[kZ,Ip hc (by unfold fq;exact aI h2) Iu] at vC
    cases vC
   .rw[aK (by lia)]
    refine aR ⟨_,rfl,rfl,λj x hj e=>?_⟩
    rcases wy.mp hj with z | z
    .exact Iu j x z e
    .rw[z,hc] at e
     cases e
     unfold fq
     exact aK h2
  .rintro O H5 ⟨v3,rfl,rfl,Iu⟩
   exact q _ (lG.trans s4)
end
theorem adP(S:aV l w)(T:ka l w)(Y:j7 l w):yQ l w=none:=by
 unfold yQ
 rw[Iq λj x e=>?_,Iq λj x e=>?_]
 .rfl
 .have mx:=bh e
  have hb:=rS (b8.mp mx).1
  unfold fq
  rw[T x (by rw[nX hb.1 hb.2];exact(b8.mp mx).2)]
  rfl
 .have mx:=bh e
  have hb:=rS (b8.mp mx).1
  have ho:=(b8.mp mx).2
  unfold vA
  have:bW (ki l) x=true:=by
   unfold bW at ho ⊢
   rw[show x=(x.1,x.2) from rfl,adx S hb.1 hb.2]
   have ho:¬sg l x=35:=by simpa using ho
   rw[aK λz=>ho ((Y x hb.1 hb.2).mpr z)]
   rfl
  rw[this]
  rfl
theorem d9.sym(F:d9 l m w)(Y:j7 l w):j7 m w:=λc h1 h2=>by
 have i4:c.1<l.length:=by rw[<-F.ln];exact h1
 have e:∀d:C2,d.1<l.length->d.2<w->(sg m d=35↔sg l d=35):=λd d1 d2=>by
  have:=F.op d d1 d2
  unfold bW at this
  constructor
  .intro z
   rw[aI z] at this
   simpa using this
  .intro z
   rw[aI z] at this
   simpa using this
 rw[F.ln,e c i4 h2,e (l.length - 1 - c.1,w - 1 - c.2) (by show l.length - 1 - c.1<_;lia) (by show w - 1 - c.2<w;lia)]
 exact Y c i4 h2
theorem QY(h:r∈aC l w):∃k x,Dir (cf k)/\(k=0\/k=1)/\r=bY (bo l w) (cf k) x:=by
 unfold aC lr ic at h
 rcases cX.mp h with h | h
 .obtain⟨c,_,e⟩:=bM.mp (b8.mp h).1
  exact⟨0,c,.inl rfl,.inl rfl,e.symm⟩
 .obtain⟨c,_,e⟩:=bM.mp (b8.mp h).1
  exact⟨1,c,.inr rfl,.inr rfl,e.symm⟩
theorem adQ{q:List C2}(hr:r∈aC l w)(hq:q∈aC l w)(cJ:r≠q){c1 c2:C2}(a1:c1∈r)(a2:c2∈r)(b1:c1∈q)(b2:c2∈q):c1=c2:=by
 obtain⟨k,x,D,hk,rfl⟩:=QY hr
 obtain⟨k',y,D',dZ,rfl⟩:=QY hq
 by_cases e:k=k'
 .subst e
  exact absurd (by rw[Nz D a1 b1]) cJ
 .obtain⟨_,_,i1,_,rfl⟩:=rT a1
  obtain⟨_,_,i2,_,rfl⟩:=rT a2
  obtain⟨_,_,j1,_,e1⟩:=rT b1
  obtain⟨_,_,j2,_,e2⟩:=rT b2
  unfold go cf at *
  rw[lR] at e1 e2 ⊢
  dsimp only at e1 e2 ⊢
  rcases hk with rfl | rfl <;> rcases dZ with rfl | rfl <;> simp at * <;> lia
def iP(l:List Str)(w n:Nat):Prop := ∃Z:List C2,Z.length<=n/\∀c:C2,c.1<l.length->c.2<w->sg l c=35->c∈Z
theorem QZ{k N:Nat}(S:aV l w)(h:iP l w n)(hk:k=0\/k=1):(ic l w k N).length<=9+n:=by
 obtain⟨Z,hZ,hs⟩:=h
 have h9:=S.nine
 have w9:=S.w9
 unfold ic
 rw[tw,aq]
 have hl:=uu (l:=((cells l.length w).take N).filter ((λr=>!r.isEmpty)∘bY (bo l w) (cf k))) (m:=(List.range 9).map (λi=>((i*(1 - k),i*k):C2))++Z.map λe=>((e.1+k,e.2+(1 - k)):C2)) (((NC _ _).sublist (vY _ _)).filter _) λc mc=>by
  obtain⟨m1,m2⟩:=b8.mp mc
  have bb:=rS (tG m1)
  have hp:¬gj (bo l w) (cf k) c=true:=λz=>by
   have m2:(!(bY (bo l w) (cf k) c).isEmpty)=true:=m2
   unfold bY at m2
   rw[aA z] at m2
   cases m2
  have key:∀d:C2,d.1<l.length->d.2<w->bo l w d=false->d∈Z:=λd d1 d2 h=>by
   refine hs d d1 d2 ?_
   rw[nX d1 d2] at h
   unfold bW at h
   simpa using h
  rw[cX,bM,bM]
  unfold gj cf at hp
  rcases hk with rfl | rfl
  .by_cases z:c.2=0
   .exact .inl ⟨c.1,dP.mpr (by lia),ni (by simp) (by simp[z])⟩
   .refine .inr ⟨(c.1,c.2 - 1),key _ bb.1 (by show c.2 - 1<w;lia) ?_,ni rfl (by show c.2 - 1+1=c.2;lia)⟩
    have:decide (1<=c.2)=true:=aI (by lia)
    simpa[this] using hp
  .by_cases z:c.1=0
   .exact .inl ⟨c.2,dP.mpr (by lia),ni (by simp[z]) (by simp)⟩
   .refine .inr ⟨(c.1 - 1,c.2),key _ (by show c.1 - 1<l.length;lia) bb.2 ?_,ni (by show c.1 - 1+1=c.1;lia) rfl⟩
    have:decide (1<=c.1)=true:=aI (by lia)
    simpa[this] using hp
 rw[cE,aq,aq,gR] at hl
 lia
theorem adR(S:aV l w)(h:iP l w n):(aC l w).length<=18+2*n:=by
 unfold aC lr
 rw[cE]
 have:=QZ (N:=l.length*w) S h (.inl rfl)
 have:=QZ (N:=l.length*w) S h (.inr rfl)
 lia
noncomputable def qu:List Nat->List (List Nat)
 |[]=>[[]]
 |c::r=>(qu r).map (46 :: ·)++(qu r).map (c :: ·)
theorem Q0:∀l,(qu l).length=2 ^ l.length
 |[]=>rfl
 |c::r=>by
  rw[qu,cE,aq,aq,Q0 r,cQ,Nat.pow_succ]
  lia
theorem Q1:∀{y p:List Nat},p.length=y.length->(∀k,k<y.length->p.getD k 0=46\/p.getD k 0=y.getD k 0)->p∈qu y
 |[],[],_,_=>bG
 |c::y,d::p,h,k=>by
  have ih:=Q1 (y:=y) (p:=p) (Nat.succ.inj h) λi hi=>k (i+1) (Nat.succ_lt_succ hi)
  rw[qu,cX,bM,bM]
  rcases k 0 (Nat.succ_pos _) with z | z
  .exact .inl ⟨p,ih,by rw[show d=46 from z]⟩
  .exact .inr ⟨p,ih,by rw[show d=c from z]⟩
theorem CH{α β:Type}{f:α->List β}{B:Nat}:∀{l:List α},(∀x∈l,(f x).length<=B)->(l.flatMap f).length<=l.length*B
 |[],_=>bA _
 |a::r,h=>by
  have:=CH (l:=r) λx m=>h x (bU _ m)
  have:=h a bG
  rw[List.flatMap_cons,cE,cQ,lM]
  lia
def M9(ks:List Str)(t:Str):Prop := ∃y∈ks,∃p,cz y p=true/\∃j ch:Nat,j<10/\97<=ch/\ch<=122/\t.cps.toList=p.cps.toList.set j ch
theorem adS(da:ks.length<64)(hw:∀x∈ks,cB x=true):BZ (M9 ks):=by
 intro kl nd h
 have h1:kl.length<=((ks.flatMap λy=>(qu y.cps.toList).flatMap λp=>(List.range 10).flatMap λj=>(List.range 26).map λc=>p.set j (c+97)).map λr=>(Sum.inr ⟨r.toArray⟩:Key)).length:=by
  refine uu nd λk mk=>?_
  obtain⟨t,rfl,y,my,p,hf,j,ch,hj,Q2,Q3,e⟩:=h k mk
  obtain⟨hl,hp⟩:=fV.mp hf
  refine bM.mpr ⟨t.cps.toList,zS.mpr ⟨y,my,zS.mpr ⟨p.cps.toList,Q1 (by rw[bD,bD,hl]) (λi hi=>hp i (by rw[bD] at hi;exact hi)),zS.mpr ⟨j,dP.mpr hj,bM.mpr ⟨ch - 97,dP.mpr (by lia),?_⟩⟩⟩⟩,by simp⟩
  rw[e,show ch - 97+97=ch by lia]
 rw[aq] at h1
 have h2:∀p:List Nat,((List.range 10).flatMap λj=>(List.range 26).map λc=>p.set j (c+97)).length<=260:=λp=>by
  have:=CH (l:=List.range 10) (f:=λj=>(List.range 26).map λc=>p.set j (c+97)) (B:=26) λj _=>by rw[aq,gR];exact aN _
  rw[gR] at this
  exact this
 have h3:=CH (l:=ks) (f:=λy=>(qu y.cps.toList).flatMap λp=>(List.range 10).flatMap λj=>(List.range 26).map λc=>p.set j (c+97)) (B:=512*260) λy my=>by
  refine bL (CH (B:=260) λp _=>h2 p) (SX _ ?_)
  rw[Q0,bD]
  have:=BA (hw y my)
  exact bL (Nat.pow_le_pow_right (by decide) (show y.length<=9 by lia)) (by decide)
 have h4:ks.length*(512*260)<=63*(512*260):=SX _ (by lia)
 exact kq (bL h1 (bL h3 h4)) (by decide)
theorem adT{k:Nat}(F:cj m w R)(hx:i9 x)(fA:x∈ks)(yr:cz x (ar m (ai R pl))=true)(bj:pl<R.length)(hi:i<R.length)(hy:∃y∈ks,cz y (ar m (ai R i))=true):M9 ks (ar (putL m ((ai R pl).take k) (x.cps.toList.take k)) (ai R i)):=by
 have hq:ai R pl∈aC m w:=by rw[F.eq];exact oo bj
 have hr:ai R i∈aC m w:=by rw[F.eq];exact oo hi
 have bb:∀c∈(ai R pl).take k,c.1<m.length/\c.2<w:=λc mc=>F.iK pl c (tG mc)
 have G:=F.sh.dC
 have nq:=F.good.nd pl
 have nr:=F.good.nd i
 have l9:=(fT F.sh hr).2.1
 obtain⟨d7,yR⟩:=fV.mp yr
 rw[dJ] at d7
 have Q4:∀{a:Nat}{d:C2},((ai R pl).take k)[a]? = some d->∃ch,x.cps.toList[a]? = some ch/\sg (putL m ((ai R pl).take k) (x.cps.toList.take k)) d=ch:=λ{a d} ha=>by
  have h1:=(bP.mp ha).1
  rw[fC] at h1
  have e:x.cps.toList[a]? = some (x.cps.toList[a]'(by rw[bD];lia)):=aS _
  exact⟨_,e,sG G _ _ bb (nq.sublist (vY _ _)) ha (by rw[sZ (by lia)];exact e)⟩
 have Iv:∀{d:C2},d∈ai R i->d∉(ai R pl).take k->sg (putL m ((ai R pl).take k) (x.cps.toList.take k)) d=sg m d:=λ{d} md hd=>by
  have:=F.iK i d md
  exact qd G _ _ bb this.1 this.2 hd
 have Q5:∀p:Str,p.length<=9->p.cps.toList=p.cps.toList.set 9 97:=λp hp=>(List.set_eq_of_length_le (by rw[bD];exact hp)).symm
 by_cases e:ai R i=ai R pl
 .refine⟨x,fA,_,fV.mpr ⟨by rw[dJ,e];exact d7,λa ha=>?_⟩,9,97,by decide,by decide,by decide,Q5 _ (by rw[dJ];exact l9)⟩
  rw[e]
  have hd:(ai R pl)[a]? = some ((ai R pl)[a]'(by lia)):=aS _
  rw[bE (iJ hd)]
  by_cases hak:a<k
  .obtain⟨ch,h1,h2⟩:=Q4 (a:=a) (by rw[sZ hak];exact hd)
   rw[h2,bE h1]
   exact .inr rfl
  .rw[Iv (by rw[e];exact bh hd) λz=>?_,<-bE (d:=0) (iJ (m:=m) hd)]
   .exact yR a ha
   .obtain⟨b,hb⟩:=dR z
    have jY:=(bP.mp hb).1
    rw[fC] at jY
    rw[sZ (by lia)] at hb
    have:=yk nq hb hd
    lia
 .obtain⟨y,my,Q6⟩:=hy
  by_cases hc:∃d,d∈ai R i/\d∈(ai R pl).take k
  .obtain⟨d,j3,hd2⟩:=hc
   obtain⟨j,hj⟩:=dR j3
   obtain⟨a,ha⟩:=dR hd2
   obtain⟨ch,h1,h2⟩:=Q4 ha
   have hl:=hx ch (bh h1)
   have sF:=(bP.mp hj).1
   refine⟨y,my,_,Q6,j,ch,by lia,hl.1,hl.2,?_⟩
   apply iS
   intro b
   rw[ig,ig,bq,List.getElem?_set,aq]
   by_cases Iw:j=b
   .subst Iw
    rw[aA rfl,aA sF,hj]
    show some _=_
    rw[h2]
   .rw[av Iw,bq]
    cases hb:(ai R i)[b]? with
    |none=>rfl
    |some c=>
     show some _=some _
     rw[Iv (bh hb) λz=>?_]
     have:=adQ hr hq e j3 (bh hb) (tG hd2) (tG z)
     rw[<-this] at hb
     exact Iw (yk nr hj hb)
  .refine⟨y,my,_,Q6,9,97,by decide,by decide,by decide,?_⟩
   rw[<-Q5 _ (by rw[dJ];exact l9),ig,ig]
   exact Ke λd md=>Iv md λz=>hc ⟨d,md,z⟩
theorem Q7(l:List Str)(w:Nat):(fJ l w).length<=l.length*w:=by
 unfold fJ
 exact bL (ji _ _) (by rw[pQ];exact aN _)
section
variable{w:World}
def Iy(K:Frag)(CB CW CC:Addr):Sp:=λvs H Q _=>∃(a bk d:Addr) (l:List Str) (w most:Nat) (kvs:List (Key×V)),vs=[.ref bk,.ref a,.int (most:Int)]/\H a=some (.tup (l.map V.str))/\aV l w/\ka l w/\j7 l w/\iI CB H bk d kvs/\kvs.length<64/\(∀x∈aZ kvs,cB x=true)/\uN kvs/\1<=most/\most<=1000/\
 ∀(t fo:Addr) (v:V) (ts:List Addr) (new:List (List Str)) (H':Hp),af H H'->H' t=some (.tup [.ref fo,v])->H' fo=some (.lst (ts.map V.ref))->jd H' ts new->new.Nodup->(∀s∈new,cD s l w/\eN (aZ kvs) s w=true)->
  ((v = .aB/\new.length=most)\/(v ≠ .aB/\new.length<most/\mU (λ_=>True) H' CW CC (aC l w) (aZ kvs) new 82 v l))->Q (.ref t) H'
theorem Iz:bp ["book","sheet","most","found","paper"] ["book","sheet","most"] (aU (top 40)):={}
theorem adU(F:pH K "fillings" "fillings" (top 40) f fd dv)(adV:Fn P w K mg base "need_floor" 7 (QX K))(adW:Fn P w K mg base "first_standing" 8 (Qk K CB CG CS))(HL:Fn P w K mg base "closing_paper" 86 (Cp K CG CS CW CC 82)):aO P w K mg base aQ 87 f fd ["book","sheet","most"] (Iy K CB CW CC):=by
 refine F.ok Iz (λvs H Q E h=>?_) (λaF A outer s H vs Q E hr h=>?_)
 .refine hide λG_ aG=>?_
  obtain⟨a,bk,d,l,w,most,kvs,rfl,_⟩:=h
  refine aG.k ?_
  rfl
 .refine hide λG_ bc=>?_
  obtain⟨a,bk,d,l,wd,most,kvs,rfl,hT,S,T2,Sy,hB,da,fZ,HF,IA,Q8,q⟩:=h
  refine bc.k ?_
  refine⟨_,(aw (eZ (aY adV hr (ab (pv 1) ah)))
   (aw (aL 3 Iz.nd (dN ah))
   (aw (aL 4 Iz.nd (aY HL hr (ab (aY adW hr (ab (pv 0) (ab (pv 1) ah))) (ab (pv 2) (ab (pv 3) ah)))))
   (az (aW (gC (ab (pv 3) (ab (pv 4) ah)))))))),?_⟩
  try dsimp only[bC]
  have FL:=Im S T2
  refine⟨_,rfl,a,l,wd,rfl,ax.of hT,S,adP S T2 Sy,λH1 s1=>?_⟩
  refine⟨bA _,λfo dk=>?_⟩
  have s2:af H (upd H1 fo (.lst [])):=s1.trans (af.upd dk)
  have vv:upd H1 fo (.lst []) fo=some (.lst (([]:List Addr).map V.ref)):=au
  have adX:H fo=none:=s1.free dk
  generalize upd H1 fo (.lst [])=H2 at s2 vv
  refine⟨_,rfl,_,rfl,a,bk,d,l,wd,aC l wd,kvs,rfl,s2 _ _ hT,FL,hB.mono s2,da,fZ,HF,λst g kn wo H3 s3 adY hG cP hS=>?_⟩
  have adZ:=s3 _ _ vv
  have d7:∀x∈aZ kvs,i9 x:=λx mx=>yM (fZ x mx)
  have hkd:(aZ kvs).Nodup:=Qj hB.nd hB.tx
  have j8:=r8 S
  rw[<-yg] at j8
  have ad0:H kn=none:=s2.free adY
  refine⟨_,rfl,_,rfl,st,g,kn,fo,most,wd,l,l,aZ kvs,uO kvs,aC l wd,[],(λb=>H2 b=none),M9 (aZ kvs),[],[],rfl,⟨hG,hS,cP,⟨jh,(λk mk=>nomatch mk),(λx v hv=>by cases hv)⟩,adS (by rw[uM];exact da) fZ,λm' pl x k i Fm qi bj fA yr dX hi cC=>adT Fm (d7 x fA) fA yr bj hi (dX i hi cC),FL,FL,rfl,by lia,fZ,hkd,by rw[uM];exact da,λb e=>?_,(λz=>by have z:H2 fo=none:=z;rw[vv] at z;cases z),adZ,.nil,IA,Q8,?_⟩,λv new dY QD H4 CP=>?_⟩
  .exact s3.free e
  .have:=Q7 l wd
   have:l.length*wd<=9*9:=wk S.nine S.w9
   lia
  refine hide λG_ bT=>?_
  obtain⟨kx,yI,He,Q9,qm,ad1,ad2,lF⟩:=CP
  refine bT.k ?_
  rw[Dl] at Q9 qm lF
  rw[Dl] at qm
  refine⟨_,rfl,_,rfl,(by show 2<=sizeLine;decide),λt ht=>?_⟩
  have s5:af H4 (upd H4 t (.tup [.ref fo,v])):=af.upd ht
  have t5:upd H4 t (.tup [.ref fo,v]) t=some (.tup [.ref fo,v]):=au
  generalize upd H4 t (.tup [.ref fo,v])=H5 at s5 t5
  have oE:af H H4:=λb o e=>kx b o (bB e ad0) (bB e adX) (s3 _ _ (s2 _ _ e))
  refine q t fo v dY new H5 (oE.trans s5) t5 (s5 _ _ Q9) (qm.keep λb o _ _ e=>s5 _ _ e) ad1 ad2 ?_
  rcases lF with z | ⟨z1,z2,z3⟩
  .exact .inl z
  .exact .inr ⟨z1,z2,(z3 new λ_ ms=>ms).mono (Kp.of s5) (λ_ _ _ _=>trivial) λ_ ms=>ms⟩
end
theorem Ra(K:Frag)(H:Hp):∀ss:List Str,dh K H (ss.map D.str) (ss.map V.str)
 |[]=>rfl
 |x::r=>⟨.str x,r.map V.str,rfl,rfl,Ra K H r⟩
theorem Rb:∀ss:List Str,dO (ss.map D.str)=0
 |[]=>rfl
 |x::r=>by
  rw[bQ,dO,Rb r]
  rfl
theorem ad3(ss:List Str):dH (.lst (ss.map D.str)) (.lst [])=decide (ss=[]):=by
 cases ss with
 |nil=>rfl
 |cons x r=>rfl
section
variable{w:World}
def yS(H:Hp)(m:List Str)(R:List (List C2))(ks:List Str)(n:Nat)(v:V):Prop:=
 (v = .aB/\∀pl,pl<n->c6 m R pl ks≠[]/\46∉(ar m (ai R pl)).cps.toList)\/
 ∃(t q:Addr) (pl:Nat),v = .ref t/\H t=some (.tup [.int (pl:Int),.ref q])/\H q=some (.lst ((c6 m R pl ks).map V.str))/\pl<R.length/\(c6 m R pl ks=[]\/46∈(ar m (ai R pl)).cps.toList)
theorem yS.mono(s:af H H')(h:yS H m R ks n v):yS H' m R ks n v:=by
 rcases h with h | ⟨t,q,pl,e,h1,h2,h3,h4⟩
 .exact .inl h
 .exact .inr ⟨t,q,pl,e,s _ _ h1,s _ _ h2,h3,h4⟩
def IB(K:Frag):Sp:=λvs H Q _=>∃(ww g a:Addr) (ws:List Str) (l:List Str) (w:Nat) (R:List (List C2)) (zs:List V),vs=[.ref ww,.ref g,.ref a,.int 0]/\H ww=some (.lst (ws.map V.str))/\ws.length<64/\(∀x∈ws,cB x=true)/\ax K H a (l.map V.str)/\cj l w R/\H g=some (.lst zs)/\dI g H R zs/\
 ∀v H',af H H'->yS H' l R ws R.length v->Q v H'
theorem vD:bp ["_law_words","_law_rows_here","_law_sheet","_law_at","_law_narrow","_law_k","_law_place","_law_left_here"] ["_law_words","_law_rows_here","_law_sheet","_law_at"] (aU (top 70)):={}
theorem ad4(B:Bl mg)(F:ba K "_law_turn" "_law_turn" (top 70) f fd)(vE:Fn P w K mg base "_law_left" 2 (BL K))(oj:Fn P w K mg base "_law_text" 1 (yb K)):aO P w K mg base aQ 3 f fd ["_law_words","_law_rows_here","_law_sheet","_law_at"] (IB K):=by
 refine F.bH vD λaF A outer s H vs Q E hr h=>?_
 refine hide λG_ aG=>?_
 obtain⟨ww,g,a,ws,l,wd,R,zs,rfl,hW,da,fZ,hT,FM,hG,hR,q⟩:=h
 refine aG.k ?_
 have hu:=hr.units
 refine⟨_,(aw (aL 4 vD.nd lS)
  (aw (cF (kJ (by rfl) B.k9 (ab (br dg (by rfl) B.b7 b0 (ab (pv 1) ah)) ah)) (bK 5 vD.nd)
  (aw (aL 6 vD.nd (aT gy (aT fh (pv 3) (pv 5)) (br dg (by rfl) B.b7 b0 (ab (pv 1) ah))))
   (aw (aL 7 vD.nd (aY vE hr (ab (pv 0) (ab (pv 1) (ab (pv 2) (ab (pv 6) ah))))))
   (az (bS (PW.pt (jl (cg (LV hu) (pv 7) (dN ah)) (jN (cg Am dM (aY oj hr (ab (pv 2) (ab (bf eQ (pv 1) (pv 6)) ah)))))))
   (az (bS (PW.pt (jl (cg wN (pv 4) lS) (jN (cg kK (br dg (by rfl) B.b7 b0 (ab (pv 7) ah)) (br dg (by rfl) B.b7 b0 (ab (bf cM (pv 4) aJ) ah))))))
    (az (aL 4 vD.nd (gC (ab (pv 6) (ab (pv 7) ah)))))
    bX))
   bX)))))
  (az (aW (pv 4))))),?_⟩
 try dsimp only[bC]
 have sr:=hR.length
 have j8:=r8 FM.sh
 rw[<-yg,FM.eq] at j8
 refine⟨_,rfl,g,_,rfl,.inl (ak.of hG),_,rfl,by lia,by lia,?_⟩
 rw[fE,<-sr]
 refine nO (λi O H2=>∃(v4:V) (v5 v6 v7:Option V),O=[some (.ref ww),some (.ref g),some (.ref a),some (.int 0),some v4,v5,v6,v7]/\af H H2/\yS H2 l R ws i v4)
  ⟨.aB,none,none,none,rfl,af.cI _,.inl ⟨rfl,λpl h=>absurd h (gQ _)⟩⟩ ?_ ?_
 .intro i O H3 hi ad5
  refine hide λG_ bc=>?_
  obtain⟨v4,v5,v6,v7,rfl,sm,hN⟩:=ad5
  obtain⟨v,hv⟩:∃v,zs[i]? = some v:=⟨_,aS (by lia)⟩
  obtain⟨r,eW,p,ys,rfl,_,hp,hc⟩:=Paired.get hR hv
  refine bc.k ?_
  have er:ai R i=r:=bE eW
  have bb:=fT FM.sh (r:=r) (by rw[FM.eq];exact bh eW)
  have ei:(0+(i:Int)) % (zs.length:Int)=(i:Int):=by rw[zI];exact Int.emod_eq_of_lt (by lia) (by lia)
  refine⟨_,rfl,_,rfl,_,_,rfl,rfl,_,rfl,g,_,rfl,.inl (ak.of (sm _ _ hG)),_,_,rfl,rfl,(by lia),?_⟩
  dsimp only
  rw[ei]
  refine⟨_,rfl,_,rfl,_,rfl,_,rfl,ww,g,a,ws,l,wd,i,zs,rfl,sm _ _ hW,da,fZ,sm.tup hT,FM.sh,sm _ _ hG,by rw[FM.eq];exact dI.mono sm hR,by rw[FM.eq];exact hi,λt H4 ht s4 yT=>?_⟩
  rw[FM.eq] at yT
  have du:=sm.trans s4
  refine⟨_,rfl,bA _,λen sD=>?_⟩
  have s5:af H4 (upd H4 en (.lst [])):=af.upd sD
  have Rc:upd H4 en (.lst []) en=some (.lst []):=au
  generalize upd H4 en (.lst [])=H5 at s5 Rc
  have iG:=du.trans s5
  have yU:=s5 _ _ yT
  have Rf:=hN.mono (s4.trans s5)
  refine⟨.lst ((c6 l R i ws).map D.str),.lst [],⟨t,_,rfl,ak.of yU,Ra _ _ _⟩,⟨en,_,rfl,ak.of Rc,rfl⟩,.inr ⟨_,_,rfl,rfl⟩,by rw[dep,Rb];decide,_,rfl,?_⟩
  rw[ad3]
  by_cases h0:c6 l R i ws=[]
  .rw[aI h0]
   refine bt (bt ?_)
   have hb:c6 l R i ws=[]\/46∈(ar l (ai R i)).cps.toList := .inl h0
   have CJ:=Rf
   have qv:=iG
   have sS:=yU
   rcases CJ with ⟨rfl,kZ⟩ | ⟨t0,q0,ID,rfl,h1,h2,h3,h4⟩
   .refine⟨_,rfl,rfl,_,rfl,bt (bt ⟨_,rfl,_,rfl,(by show 2<=sizeLine;decide),λtn lH=>?_⟩)⟩
    exact⟨.ref tn,_,_,_,rfl,qv.trans (af.upd lH),.inr ⟨tn,t,i,rfl,au,(af.upd lH) _ _ sS,hi,hb⟩⟩
   .refine⟨_,rfl,rfl,_,rfl,aR ⟨_,rfl,t,_,rfl,.inl (ak.of sS),_,rfl,t0,_,1,.ref q0,rfl,rfl,ax.of h1,rfl,q0,_,rfl,.inl (ak.of h2),_,_,rfl,rfl,_,rfl,gY (λh=>?_) (λh=>?_)⟩⟩
    .refine⟨_,rfl,_,rfl,(by show 2<=sizeLine;decide),λtn lH=>?_⟩
     exact⟨.ref tn,_,_,_,rfl,qv.trans (af.upd lH),.inr ⟨tn,t,i,rfl,au,(af.upd lH) _ _ sS,hi,hb⟩⟩
    .exact⟨.ref t0,_,_,_,rfl,qv,.inr ⟨t0,q0,ID,rfl,h1,h2,h3,h4⟩⟩
  .rw[aK h0]
   refine aR ⟨_,rfl,_,rfl,_,rfl,g,_,_,.ref p,rfl,rfl,ak.of (iG _ _ hG),de hv,a,p,l,wd,r,ys,rfl,iG.tup hT,FM.sh,iG _ _ hp,hc.mono iG,by have:=bb.2.1;lia,λc hc=>⟨(bb.2.2 c hc).1,(bb.2.2 c hc).2.1⟩,λH6 s6=>⟨_,_,rfl,rfl,_,rfl,?_⟩⟩
   have qv:=iG.trans s6
   have sS:=s6 _ _ yU
   have CJ:=Rf.mono s6
   have ef:(!(Builtin.Str.occurrences (ar l r) (Str.ofString ".") 0 (ar l r).length 1).isEmpty)=decide (46∈(ar l r).cps.toList):=by
    rw[rX]
    exact zU (ar l r) 46
   rw[ef]
   by_cases cC:46∈(ar l r).cps.toList
   .rw[aI cC]
    have hb:c6 l R i ws=[]\/46∈(ar l (ai R i)).cps.toList := .inr (by rw[er];exact cC)
    refine bt ?_
    rcases CJ with ⟨rfl,kZ⟩ | ⟨t0,q0,ID,rfl,h1,h2,h3,h4⟩
    .refine⟨_,rfl,rfl,_,rfl,bt (bt ⟨_,rfl,_,rfl,(by show 2<=sizeLine;decide),λtn lH=>?_⟩)⟩
     exact⟨.ref tn,_,_,_,rfl,qv.trans (af.upd lH),.inr ⟨tn,t,i,rfl,au,(af.upd lH) _ _ sS,hi,hb⟩⟩
    .refine⟨_,rfl,rfl,_,rfl,aR ⟨_,rfl,t,_,rfl,.inl (ak.of sS),_,rfl,t0,_,1,.ref q0,rfl,rfl,ax.of h1,rfl,q0,_,rfl,.inl (ak.of h2),_,_,rfl,rfl,_,rfl,gY (λh=>?_) (λh=>?_)⟩⟩
     .refine⟨_,rfl,_,rfl,(by show 2<=sizeLine;decide),λtn lH=>?_⟩
      exact⟨.ref tn,_,_,_,rfl,qv.trans (af.upd lH),.inr ⟨tn,t,i,rfl,au,(af.upd lH) _ _ sS,hi,hb⟩⟩
     .exact⟨.ref t0,_,_,_,rfl,qv,.inr ⟨t0,q0,ID,rfl,h1,h2,h3,h4⟩⟩
   .rw[aK cC]
    refine aR ⟨v4,_,_,_,rfl,qv,?_⟩
    rcases CJ with ⟨e,kZ⟩ | z
    .refine .inl ⟨e,λpl bj=>?_⟩
     rcases wu pl i with y | y
     .exact kZ pl y
     .have e2:pl=i:=by lia
      rw[e2,er]
      exact⟨h0,cC⟩
    .exact .inr z
 .intro O H3 ad6
  refine hide λG_ bT=>?_
  obtain⟨v4,v5,v6,v7,rfl,sm,hN⟩:=ad6
  refine bT.k ?_
  exact⟨_,rfl,q _ _ sm hN⟩
end
theorem cD.op(A:cD s m w)(h1:c.1<m.length)(h2:c.2<w):bW s c=bW m c:=by
 have a:=A.cl c h1 h2
 unfold bW
 by_cases h:sg m c=46
 .have e1:¬sg s c=35:=a.2 h
  have e2:¬sg m c=35:=by lia
  rw[aK e1,aK e2]
 .rw[a.1 h]
theorem cD.rows(A:cD s m w):aC s w=aC m w:=GL A.ln λ_ h1 h2=>A.op h1 h2
theorem cD.get(F:cj m w R)(A:cD s m w){k:Nat}(hc:(ai R pl)[k]? = some c):(ar m (ai R pl)).cps.toList.getD k 0=46\/(ar m (ai R pl)).cps.toList.getD k 0=(ar s (ai R pl)).cps.toList.getD k 0:=by
 have hb:=F.sH hc
 rw[bE (iJ hc),bE (iJ hc)]
 by_cases h:sg m c=46
 .exact .inl h
 .exact .inr ((A.cl c hb.1 hb.2.1).1 h).symm
theorem cD.fit(F:cj m w R)(A:cD s m w)(pl:Nat):cz (ar s (ai R pl)) (ar m (ai R pl))=true:=by
 refine fV.mpr ⟨by rw[dJ,dJ],λk hk=>?_⟩
 rw[dJ] at hk
 exact A.get F (aS hk)
theorem cD.put(F:cj m w R)(A:cD s m w)(pl:Nat)(hx:i9 (ar s (ai R pl))):cD s (putL m (ai R pl) (ar s (ai R pl)).cps.toList) w:=by
 have hlen:=mQ m (ai R pl) (ar s (ai R pl)).cps.toList
 refine⟨A.sh,by rw[A.ln,hlen],λc h1 h2=>?_⟩
 rw[hlen] at h1
 rcases BS F pl (dJ s (ai R pl)) h1 h2 with ⟨k,ch,hk,hch,e⟩ | ⟨_,e⟩
 .have hb:=hx ch (bh hch)
  rw[iJ hk] at hch
  rw[e,dm hch]
  exact⟨λ_=>rfl,λh=>by lia⟩
 .rw[e]
  exact A.cl c h1 h2
theorem cD.left(F:cj m w R)(A:cD s m w)(hw:∀x∈ks,cB x=true)(hf:eN ks s w=true)(bj:pl<R.length):ar s (ai R pl)∈c6 m R pl ks:=by
 obtain⟨_,nd,h3⟩:=Gy hf
 have et:dw s w=R.map (ar s):=by unfold dw;rw[A.rows,F.eq]
 rw[et] at nd h3
 have hk:∀i,i<R.length->ar s (ai R i)∈ks:=λi hi=>h3 _ (zV (oo hi))
 unfold c6
 refine b8.mpr ⟨(gH _).mem_iff.mpr (b8.mpr ⟨hk pl bj,A.fit F pl⟩),?_⟩
 rw[aK]
 .rfl
 intro h
 obtain⟨i,hi,cJ,e⟩:=GO.mp h
 have dz:=(abH (hw _ (hk pl bj))).abI
 have e2:ar s (ai R i)=ar m (ai R i):=by
  apply mI
  apply iS
  intro k
  by_cases i0:k<(ai R i).length
  .have hc:(ai R i)[k]? = some (ai R i)[k]:=aS i0
   have hb:=F.sH hc
   rw[iJ hc,iJ hc,(A.cl _ hb.1 hb.2.1).1 λz=>dz ?_]
   rw[<-e,ig,<-z]
   exact zV (bh hc)
  .rw[cR (by rw[ig,aq];lia),cR (by rw[ig,aq];lia)]
 have e3:(R.map (ar s))[i]? = (R.map (ar s))[pl]? :=by
  rw[kd R _ hi,kd R _ bj,e2,e]
 exact cJ ((List.getElem?_inj (by rw[aq];exact hi) nd).mp e3)
theorem cD.same(S:aV m w)(A:cD s m w)(h:fU m=false):s=m:=by
 refine Pc A.sh.dC S.dC A.ln λc h1 h2=>?_
 rw[A.ln] at h1
 refine(A.cl c h1 h2).1 λz=>?_
 obtain⟨x,hx,mx,_,hl,hj⟩:=S.row h1
 have:fU m=true:=by
  unfold fU
  refine tm.mpr ⟨x,mx,aI ?_⟩
  rw[<-z]
  exact bh (hj _ h2)
 rw[h] at this
 cases this
theorem ad7(F:cj m w R)(h:∀pl,pl<R.length->c6 m R pl ks≠[]/\46∉(ar m (ai R pl)).cps.toList):fU m=false/\eN ks m w=true:=by
 have hd:fU m=false:=Qq F λr mr=>by
  obtain⟨i,hi⟩:=dR mr
  have:=(h i (bP.mp hi).1).2
  rwa [show ai R i=r from bE hi] at this
 have key:∀pl,pl<R.length->ar m (ai R pl)∈ks/\ar m (ai R pl)∉oi m R pl:=λpl bj=>by
  obtain⟨h1,h2⟩:=h pl bj
  obtain⟨x,mx⟩:=List.exists_mem_of_ne_nil _ h1
  unfold c6 at mx
  obtain⟨mx,hn⟩:=b8.mp mx
  obtain⟨hk,hf⟩:=b8.mp ((gH _).mem_iff.mp mx)
  obtain⟨hl,hx⟩:=fV.mp hf
  have e:x=ar m (ai R pl):=by
   apply mI
   apply iS
   intro k
   by_cases i0:k<x.length
   .have a1:x.cps.toList[k]? = some (x.cps.toList.getD k 0):=by
     rw[bR,aS (by rw[bD];exact i0)];rfl
    have a2:(ar m (ai R pl)).cps.toList[k]? = some ((ar m (ai R pl)).cps.toList.getD k 0):=by
     rw[bR,aS (by rw[bD];lia)];rfl
    rw[a1,a2]
    rcases hx k i0 with z | z
    .exact absurd (by rw[<-z];exact bh a2) h2
    .rw[z]
   .rw[cR (by rw[bD];lia),cR (by rw[bD];lia)]
  rw[<-e]
  exact⟨hk,by simpa using hn⟩
 refine⟨hd,OT hd ?_ ?_⟩
 .unfold dw
  rw[F.eq,List.Nodup,J2]
  intro i j hi hj ux e
  rw[aq] at hi hj
  have g:∀k (hk:k<R.length),(R.map (ar m))[k]'(by rw[aq];exact hk)=ar m (ai R k):=λk hk=>by
   have:=kd R (ar m) hk
   rw[aS (by rw[aq];exact hk)] at this
   exact dm this
  rw[g i hi,g j hj] at e
  exact(key i hi).2 (GO.mpr ⟨j,hj,by lia,e.symm⟩)
 .intro x mx
  unfold dw at mx
  rw[F.eq] at mx
  obtain⟨r,mr,rfl⟩:=bM.mp mx
  obtain⟨i,hi⟩:=dR mr
  have:=(key i (bP.mp hi).1).1
  rwa [show ai R i=r from bE hi] at this
def IE(ks m:List Str)(w:Nat)(new:List (List Str)):Prop:=new.Nodup/\∀s,s∈new↔cD s m w/\eN ks s w=true
theorem IE.whole(F:cj m w R)(h:∀pl,pl<R.length->c6 m R pl ks≠[]/\46∉(ar m (ai R pl)).cps.toList):IE ks m w [m]:=by
 obtain⟨hd,hf⟩:=ad7 F h
 refine⟨gq.mpr ⟨ip,jh⟩,λs=>⟨λms=>?_,λ⟨a,_⟩=>?_⟩⟩
 .rw[cb.mp ms]
  exact⟨cD.refl F.sh,hf⟩
 .exact cb.mpr (a.same F.sh hd)
theorem Rg(h:x∈c6 m R pl ks):x∈ks/\cz x (ar m (ai R pl))=true:=by
 unfold c6 at h
 exact b8.mp ((gH _).mem_iff.mp (b8.mp h).1)
theorem ad8(h1:0<h)(w1:0<w):om (List.replicate h (fN "." w)) w:=by
 refine⟨(0,0),?_⟩
 rw[nX (by rw[qC];exact h1) w1]
 unfold bW
 rw[BK (c:=(0,0)) h1 w1]
 rfl
theorem iP.set(S:aV l w)(h:iP l w n)(h1:c.1<l.length)(h2:c.2<w):iP (setC l c 35) w (n+1):=by
 obtain⟨Z,hZ,hs⟩:=h
 refine⟨c::Z,kF hZ,λd d1 d2 hd=>?_⟩
 rw[dB] at d1
 rw[S.dC.lg h1 h2 d1 d2] at hd
 by_cases e:d=c
 .rw[e];exact bG
 .rw[av e] at hd
  exact bU _ (hs d d1 d2 hd)
theorem iP.le{k:Nat}(h:iP l w n)(e:n<=k):iP l w k:=let ⟨Z,a,b⟩:=h;⟨Z,bL a e,b⟩
theorem iP.ad9(h w n:Nat):iP (List.replicate h (fN "." w)) w n:=⟨[],bA _,λc h1 h2 z=>by
 rw[qC] at h1
 rw[BK h1 h2] at z
 cases z⟩
section
variable{w:World}
def Rh(K:Frag):Sp:=λvs H Q _=>∃(a:Addr) (l:List Str) (w:Nat),vs=[.ref a]/\ax K H a (l.map V.str)/\aV l w/\∀H',af H H'->Q (.bl (yd l w)) H'
theorem CK:bp ["_law_sheet","_law_many","_law_cells"] ["_law_sheet"] (aU (top 58)):={}
theorem aea(B:Bl mg)(F:ba K "_law_good" "_law_good" (top 58) f fd)(yV:Fn P w K mg base "_law_rows" 3 (BF K)):aO P w K mg base aQ 4 f fd ["_law_sheet"] (Rh K):=by
 refine F.bH CK λaF A outer s H vs Q E hr h=>?_
 refine hide λG_ aG=>?_
 obtain⟨a,l,wd,rfl,hT,S,q⟩:=h
 refine aG.k ?_
 have h9:=S.nine
 have hw:=S.w9
 refine⟨_,(aw (aL 1 CK.nd aJ)
  (aw (cF (dn (aY yV hr (ab (pv 0) ah))) (bK 2 CK.nd)
  (az (aL 1 CK.nd (aT fh (pv 1) (br dg (by rfl) B.b7 b0 (ab (pv 2) ah))))))
  (az (aW (nA lW (pv 1) (aT wM aJ (br (WS rfl) (by rfl) B.Zp WO (ab (i3 (js:=[]) (ns:=[]) (wJ (pv 0)) rfl rfl rfl rfl (λ_ _ _ _=>ju) (λ_ _ _ _=>(aT nz (br iZ (by rfl) B.b7 b0 (ab (pv 0) ah)) (WU (K:=K) (rr:=λ_=>Mp) rfl Dw PySem.F.slot_str_count PySem.F.type_str_count Xa (pv 0) (ab dM ah))))) ah)))))))),?_⟩
 try dsimp only[bC]
 refine⟨_,rfl,a,l,wd,rfl,hT,S,λg xs H1 hg s1 hL hR=>⟨g,rfl,⟨_,ak.of hL⟩,?_⟩⟩
 have Ri:=hR.length
 refine iW (xs:=xs) (λi O H2=>∃v2,O=[some (.ref a),some (.int (((((aC l wd).take i).map (·.length)).sum:Nat):Int)),v2]/\H2=H1) ⟨none,rfl,rfl⟩ (λi O H2 _ ⟨_,_,e⟩=>by rw[e];exact ak.of hL) ?_ ?_
 .intro i x O H2 hx aeb
  refine hide λG_ bc=>?_
  obtain⟨v2,rfl,rfl⟩:=aeb
  obtain⟨r,eW,p,ys,rfl,_,hp,hc⟩:=Paired.get hR hx
  refine bc.k ?_
  refine⟨_,rfl,_,rfl,p,_,rfl,.inl (ak.of hp),_,_,rfl,rfl,?_⟩
  refine⟨some (.ref p),?_,rfl⟩
  rw[eD,eW]
  simp only[Option.toList_some,dQ,bQ,wb,JS,fH,List.sum_nil,Du,Int.natCast_add,hc.length]
  rfl
 .rintro O H2 ⟨v2,rfl,rfl⟩
  rw[eE (by lia)]
  refine⟨_,rfl,_,rfl,a,rfl,⟨_,s1.tup hT⟩,?_⟩
  refine comp_map Et (by rw[aq];lia) (λ_ i y _=>y = .int ((oh l).getD i 0)) (λH3 s3=>(s1.trans s3).tup hT) (λ_ _ _ _ _ _ _ _ h=>h) ?_ ?_
  .intro D i z H3 Z hD hz s3 _ k1
   rw[bq] at hz
   cases e:l[i]? with
   |none=>rw[e] at hz;cases hz
   |some x=>
    rw[e] at hz
    cases hz
    have lx:=S.len x (bh e)
    refine⟨_,rfl,x,rfl,fP (by lia),_,rfl,rfl,_,_,rfl,rfl,_,_,rfl,rfl,k1 _ _ (af.cI _) ?_⟩
    have:(oh l)[i]? = some ((x.length:Int) - (Txt.count x "#":Int)):=by unfold oh;rw[bq,e];rfl
    rw[bE this]
  .intro D ys H3 hD bw s3 pr
   have e:=mN pr
   have el:(l.map V.str).length=(oh l).length:=by unfold oh;rw[aq,aq]
   rw[el,lb V.int] at e
   refine⟨D,oh l,rfl,ak.of (by rw[bw,e]),_,_,rfl,rfl,.inl ⟨by decide,by decide⟩,rfl,?_⟩
   have:=q H3 (s1.trans s3)
   unfold yd at this
   rw[dIv]
   exact this
def Rj(K:Frag):Sp:=λvs H Q _=>∃(c:Int),vs=[.int c]/\∀p l w H',af H H'->H' p=some (.tup (l.map V.str))->sk l w->ka l w->j7 l w->om l w->iP l w 4->Q (.ref p) H'
theorem mW:bp ["_law_cell","_law_high","_law_wide","_law_sheet","_law_k","_law_spot","_law_other","_law_some_here"] ["_law_cell"] (aU (top 59)):={}
theorem aec(B:Bl mg)(F:ba K "_law_floor" "_law_floor" (top 59) f fd)(sj:Fn P w K mg base "_law_with" 1 (uD K))(aed:Fn P w K mg base "_law_good" 4 (Rh K)):aO P w K mg base aQ 5 f fd ["_law_cell"] (Rj K):=by
 refine F.bH mW λaF A outer s H vs Q E hr h=>?_
 obtain⟨c,rfl,q⟩:=h
 refine⟨_,(aw (aL 1 mW.nd (aT fh aJ (aT gy (pv 0) aJ)))
  (aw (aL 2 mW.nd (aT fh aJ (aT gy (aT lV (pv 0) aJ) aJ)))
  (aw (aL 3 mW.nd (gE tT (by rfl) B.rV rC (ab (aT Vt (dN (ab (aT Mo dM (pv 2)) ah)) (pv 1)) ah)))
  (aw (cF (kJ (by rfl) B.k9 (ab (aT gy (aT lV (pv 0) aJ) aJ) ah)) (bK 4 mW.nd)
  (aw (aL 5 mW.nd (aT gy (aT lV (aT lV (pv 0) aJ) (aT fh (pv 4) aJ)) (aT wM (pv 1) (pv 2))))
   (aw (aL 6 mW.nd (aT nz (aT nz (aT wM (pv 1) (pv 2)) aJ) (pv 5)))
   (aw (aL 7 mW.nd (aY sj hr (ab (pv 3) (ab (gC (ab (aT lV (pv 5) (pv 2)) (ab (aT gy (pv 5) (pv 2)) ah))) (ab dM ah)))))
   (aw (aL 7 mW.nd (aY sj hr (ab (pv 7) (ab (gC (ab (aT lV (pv 6) (pv 2)) (ab (aT gy (pv 6) (pv 2)) ah))) (ab dM ah)))))
   (az (AQ (bS (fK (aY aed hr (ab (pv 7) ah)))
   (az (aL 3 mW.nd (pv 7)))
   bX))))))))
  (az (aW (pv 3))))))),?_⟩
 try dsimp only[bC]
 have s2:2<=sizeLine:=by decide
 have d0:=lP c (show(6:Int)≠0 by decide)
 have d1:=lQ c (show(0:Int)<6 by decide)
 have e0:=lP (c / 6) (show(6:Int)≠0 by decide)
 have e1:=lQ (c / 6) (show(0:Int)<6 by decide)
 obtain⟨hh,Rk⟩:=nh (show 0<=4+c % 6 by lia)
 obtain⟨ww,Rl⟩:=nh (show 0<=4+c / 6 % 6 by lia)
 have hd:4<=hh/\hh<=9/\4<=ww/\ww<=9:=by lia
 refine⟨_,rfl,_,_,rfl,rfl,(by show(0:Int)<6;decide),_,_,rfl,rfl,?_⟩
 refine⟨_,rfl,_,_,rfl,rfl,⟨by decide,by decide⟩,_,_,rfl,rfl,(by show(0:Int)<6;decide),_,_,rfl,rfl,?_⟩
 dsimp only
 rw[Rk,Rl]
 clear Rk Rl d0 d1 e0 e1
 have aee:(".":Str).length=1:=by decide +kernel
 refine⟨_,rfl,_,_,rfl,rfl,by lia,by lia,by rw[aee];decide,by show 1<=sizeLine;decide,λl1 mH=>?_⟩
 rw[fE]
 refine⟨_,rfl,l1,_,_,rfl,rfl,au,by lia,by lia,fP (by rw[fE];show 1*_<=_;lia),λl2 kO=>?_⟩
 rw[fE,OJ]
 refine⟨l2,_,rfl,.inl ⟨ak.of au,λtp htp=>?_⟩⟩
 have u1:=af.upd (o:=HO.lst [V.str (fN "." ww)]) mH
 have u2:=af.upd (o:=HO.lst (List.replicate hh (V.str (fN "." ww)))) kO
 have u3:=af.upd (o:=HO.tup (List.replicate hh (V.str (fN "." ww)))) htp
 have sB:=u1.trans (u2.trans u3)
 have CL:=uK u3
 revert sB CL
 clear u1 u2 u3
 generalize upd _ tp (HO.tup (List.replicate hh (V.str (fN "." ww))))=HB
 intro sB CL
 rw[<-List.map_replicate] at CL
 have m0:=lP (c / 36) (show(3:Int)≠0 by decide)
 have m1:=lQ (c / 36) (show(0:Int)<3 by decide)
 refine⟨_,rfl,_,_,rfl,rfl,⟨by decide,by decide⟩,_,_,rfl,rfl,(by show(0:Int)<3;decide),_,rfl,by lia,by lia,?_⟩
 refine nO (λi O H2=>∃p l v4 v5 v6 v7,O=[some (.int c),some (.int hh),some (.int ww),some (.ref p),v4,v5,v6,v7]/\af H H2/\H2 p=some (.tup (l.map V.str))/\sk l ww/\l.length=hh/\ka l ww/\j7 l ww/\om l ww/\iP l ww (2*i))
  ⟨tp,_,none,none,none,none,rfl,sB,CL,OI (by lia) (by lia) (by lia) (by lia),by rw[qC],σ3 (OI (by lia) (by lia) (by lia) (by lia)).sh (aa3 hh (by simp;lia) ww (by simp;lia)),aa1,ad8 (by lia) (by lia),iP.ad9 ..⟩ ?_ ?_
 .intro i O H2 hi aef
  refine hide λG_ aG=>?_
  obtain⟨p,l,v4,v5,v6,v7,rfl,sm,hP,Fl,hl,Gd,Sy,Ne,Sn⟩:=aef
  refine aG.k ?_
  have hhw:0<hh*ww:=Nat.mul_pos (by lia) (by lia)
  have agT:hh*ww<=81:=by
   have:=wk hd.2.1 hd.2.2.2
   lia
  have hn:((hh:Int)*(ww:Int))=((hh*ww:Nat):Int):=by simp
  have p1:(0:Int)<(i:Int)+1:=by lia
  have p2:(i:Int)+1<1073741824:=by lia
  have cm:Al (hh:Int) (ww:Int) := .inl ⟨by lia,by lia⟩
  have rp:(0:Int)<(hh:Int)*(ww:Int):=by rw[hn];lia
  refine⟨_,rfl,_,_,rfl,rfl,⟨by decide,by decide⟩,_,rfl,_,_,rfl,rfl,_,_,rfl,rfl,⟨p1,p2⟩,_,rfl,_,rfl,_,_,rfl,rfl,cm,_,_,rfl,rfl,rp,?_⟩
  have z0:=lP (c / 108 / ((i:Int)+1)) (Int.ne_of_gt rp)
  have z1:=lQ (c / 108 / ((i:Int)+1)) rp
  dsimp only
  generalize c / 108 / ((i:Int)+1) % ((hh:Int)*(ww:Int))=z at z0 z1 ⊢
  obtain⟨sp,rfl⟩:=nh z0
  rw[hn] at z1
  have z1:sp<hh*ww:=Int.ofNat_lt.mp z1
  refine⟨_,rfl,_,rfl,_,_,rfl,rfl,cm,_,_,rfl,rfl,_,rfl,_,_,rfl,rfl,?_⟩
  have j4:(hh:Int)*(ww:Int) - 1 - (sp:Int)=((hh*ww - 1 - sp:Nat):Int):=by rw[hn];lia
  dsimp only
  rw[j4]
  have o1:hh*ww - 1 - sp<hh*ww:=by lia
  have ti:=aa2 (h:=hh) (w:=ww) (sp:=sp) (by lia) z1
  generalize hh*ww - 1 - sp=ot at o1 ti ⊢
  have wp:0<ww:=by lia
  have dv:KD (0:Int) (ww:Int):=⟨by lia,by lia⟩
  have a1:sp / ww<hh:=J0 (by rw[qD];exact z1)
  have b1:ot / ww<hh:=J0 (by rw[qD];exact o1)
  have a2:sp % ww<ww:=Nat.mod_lt _ wp
  have b2:ot % ww<ww:=Nat.mod_lt _ wp
  refine⟨_,rfl,_,rfl,_,rfl,_,_,rfl,rfl,dv,_,rfl,_,rfl,_,_,rfl,rfl,dv.1,s2,λq1 uW=>?_⟩
  have y1:=af.upd (o:=HO.tup [V.int ((sp:Int) / (ww:Int)),V.int ((sp:Int) % (ww:Int))]) uW
  refine⟨p,q1,l,ww,(sp / ww,sp % ww),35,by rw[<-rW];rfl,y1.tup (ax.of hP),Fl.sh.dC,ax.of (by rw[au];simp),by rw[hl];exact a1,a2,λt H3 _ s3 ht=>?_⟩
  have F1:=Fl.set (c:=(sp / ww,sp % ww)) (by rw[hl];exact a1) a2
  have mH:(setC l (sp / ww,sp % ww) 35).length=hh:=by rw[dB,hl]
  have IF:j7 (setC (setC l (sp / ww,sp % ww) 35) (ot / ww,ot % ww) 35) ww:=by
   have e:=Sy.set Fl.sh (c:=(sp / ww,sp % ww)) (by rw[hl];exact a1) a2
   rw[hl] at e
   rw[ti.1,ti.2]
   exact e
  have IG:om (setC (setC l (sp / ww,sp % ww) 35) (ot / ww,ot % ww) 35) ww:=Ne.set Fl.sh Gd (by rw[hl];exact a1) a2 (by rw[hl];exact b1) b2
  have IH:iP (setC (setC l (sp / ww,sp % ww) 35) (ot / ww,ot % ww) 35) ww (2*(i+1)):=(Sn.set Fl.sh (by rw[hl];exact a1) a2).set F1.sh (by rw[mH];exact b1) b2
  generalize setC l (sp / ww,sp % ww) 35=l1 at ht F1 mH IF IG IH
  have fQ:=sm.trans (y1.trans s3)
  have hP3:=(y1.trans s3) _ _ hP
  clear y1 s3
  refine⟨_,rfl,_,rfl,_,rfl,_,_,rfl,rfl,dv,_,rfl,_,rfl,_,_,rfl,rfl,dv.1,s2,λq2 GR=>?_⟩
  have y2:=af.upd (o:=HO.tup [V.int ((ot:Int) / (ww:Int)),V.int ((ot:Int) % (ww:Int))]) GR
  refine⟨t,q2,l1,ww,(ot / ww,ot % ww),35,by rw[<-rW];rfl,y2.tup (ax.of ht),F1.sh.dC,ax.of (by rw[au];simp),by rw[mH];exact b1,b2,λt2 H4 _ s4 fS=>?_⟩
  have F2:=F1.set (c:=(ot / ww,ot % ww)) (by rw[mH];exact b1) b2
  have kO:(setC l1 (ot / ww,ot % ww) 35).length=hh:=by rw[dB,mH]
  generalize setC l1 (ot / ww,ot % ww) 35=l2 at fS F2 kO IF IG IH
  have du:=fQ.trans (y2.trans s4)
  have hP4:=(y2.trans s4) _ _ hP3
  clear y2 s4
  refine⟨λO H5=>∃p l,O=[some (.int c),some (.int hh),some (.int ww),some (.ref p),some (.int i),some (.int sp),some (.int ot),some (.ref t2)]/\af H H5/\H5 p=some (.tup (l.map V.str))/\sk l ww/\l.length=hh/\ka l ww/\j7 l ww/\om l ww/\iP l ww (2*(i+1)),λO H5 ⟨p,l,e,h⟩=>⟨p,l,_,_,_,_,e,h⟩,?_⟩
  refine⟨_,rfl,t2,l2,ww,rfl,ax.of fS,F2.sh,λH5 s5=>⟨_,rfl,?_⟩⟩
  cases ow:yd l2 ww with
  |true=>exact bt ⟨_,rfl,t2,l2,rfl,du.trans s5,s5 _ _ fS,F2,kO,σ3 F2.sh ow,IF,IG,IH⟩
  |false=>exact aR ⟨p,l,rfl,du.trans s5,s5 _ _ hP4,Fl,hl,Gd,Sy,Ne,Sn.le (by lia)⟩
 .intro O H2 aeg
  refine hide λG_ bc=>?_
  obtain⟨p,l,v4,v5,v6,v7,rfl,sm,hP,Fl,hl,Gd,Sy,Ne,Sn⟩:=aeg
  refine bc.k ?_
  exact⟨_,rfl,q p l ww H2 sm hP Fl Gd Sy Ne (Sn.le (by lia))⟩
end
def yW(a b:Nat):Prop:=(a=35->b=35)/\(a≠35->97<=b/\b<=122)
def vF(x y:Str):Prop:=Paired yW x.cps.toList y.cps.toList
theorem dSh(a:Nat):decide (V.str ⟨#[a]⟩=V.str (Str.ofString "#"))=decide (a=35):=by
 have e:(Str.ofString "#")=⟨#[35]⟩:=rW
 rw[e]
 by_cases h:a=35
 .rw[h,aI rfl,aI rfl]
 .rw[aK h,aK]
  intro z
  injection z with z
  injection z with z
  have z:=eX Array.toList z
  injection z with z
  exact h z
section
variable{w:World}
def Rm(K:Frag):Sp:=λvs H Q _=>∃(b:Addr) (l:List Str) (w:Nat) (c:Int),vs=[.ref b,.int c]/\H b=some (.tup (l.map V.str))/\aV l w/\
 ∀p (m:List Str) H',af H H'->H' p=some (.tup (m.map V.str))->Paired vF l m->Q (.ref p) H'
theorem qw:bp ["_law_floor_here","_law_cell","_law_sheet","_law_number","_law_line","_law_signs","_law_sign"] ["_law_floor_here","_law_cell"] (aU (top 61)):={}
theorem aeh(B:Bl mg)(F:ba K "_law_filled" "_law_filled" (top 61) f fd)(yX:Fn P w K mg base "_law_letter" 1 (BI K)):aO P w K mg base aQ 2 f fd ["_law_floor_here","_law_cell"] (Rm K):=by
 refine F.bH qw λaF A outer s H vs Q E hr h=>?_
 refine hide λG_ aG=>?_
 obtain⟨b,l,wd,c,rfl,hT,S,q⟩:=h
 refine aG.k ?_
 refine⟨_,(aw (aL 2 qw.nd (dN ah))
  (aw (aL 3 qw.nd (aT fh (aT gy (pv 1) aJ) aJ))
  (aw (cF (wJ (pv 0)) (bK 4 qw.nd)
  (aw (aL 5 qw.nd dM)
   (aw (cF (L4 (pv 4)) (bK 6 qw.nd)
   (aw (aL 3 qw.nd (aT gy (aT wM (pv 3) aJ) aJ))
    (az (aL 5 qw.nd (aT pq (pv 5) (bf eQ (dN (ab (aY yX hr (ab (aT lV (pv 3) aJ) ah)) (ab dM ah))) (gE Us (by rfl) B.NK LZ (ab (nA lW (pv 6) dM) ah))))))))
   (az (eZ (fm jj jF jG iA (pv 2) (ab (pv 5) ah)))))))
  (az (aW (gE tT (by rfl) B.rV rC (ab (pv 2) ah))))))),?_⟩
 try dsimp only[bC]
 refine⟨bA _,λg hg=>?_⟩
 have t0:=af.upd (o:=HO.lst []) hg
 have Rn:upd H g (.lst []) g=some (.lst (([]:List Str).map V.str)):=au
 generalize upd H g (.lst [])=H0 at t0 Rn
 refine⟨_,rfl,_,_,rfl,rfl,(by show(0:Int)<2147483646;decide),_,_,rfl,rfl,?_⟩
 refine⟨_,rfl,b,rfl,⟨_,ax.of (t0 _ _ hT)⟩,?_⟩
 refine KA (K:=K) (xs:=l.map V.str) (λi O H2=>∃(n:Int) (v4 v5 v6:Option V) (ms:List Str),O=[some (.ref b),some (.int c),some (.ref g),some (.int n),v4,v5,v6]/\af H H2/\H2 g=some (.lst (ms.map V.str))/\Paired vF (l.take i) ms) ⟨_,none,none,none,[],rfl,t0,Rn,.nil⟩ (λi O H2 _ ⟨_,_,_,_,_,_,s2,_⟩=>ax.of (s2 _ _ hT)) ?_ ?_
 .intro i y O H2 hy aei
  refine hide λG_ bc=>?_
  obtain⟨n,v4,v5,v6,ms,rfl,s2,xJ,yY⟩:=aei
  rw[bq] at hy
  obtain⟨x,hx,rfl⟩:=gu.mp hy
  refine bc.k ?_
  have d7:=S.len x (bh hx)
  have hw9:=S.w9
  have h9:=S.nine
  refine⟨_,rfl,x,rfl,?_⟩
  refine L7 L6 (λj O H3=>∃(n:Int) (v6:Option V) (z:Str),O=[some (.ref b),some (.int c),some (.ref g),some (.int n),some (.str x),some (.str z),v6]/\af H H3/\H3 g=some (.lst (ms.map V.str))/\Paired yW (x.cps.toList.take j) z.cps.toList) ⟨n,v6,"",rfl,s2,xJ,by rw[show(("":Str).cps.toList)=[] from rfl];exact .nil⟩ (λ_ _ _ _ _=>trivial) ?_ ?_
  .intro j u O H3 hu aej
   refine hide λG_ bT=>?_
   obtain⟨n,v6,z,rfl,s3,CM,hz⟩:=aej
   rw[bq] at hu
   obtain⟨a,ha,rfl⟩:=gu.mp hu
   refine bT.k ?_
   have hj:=(bP.mp ha).1
   rw[bD] at hj
   have sI:=dy hz
   rw[fC,bD,bD] at sI
   refine⟨_,rfl,_,_,rfl,rfl,.inr ⟨by decide,by decide⟩,_,_,rfl,rfl,(by show(0:Int)<2147483647;decide),?_⟩
   refine⟨_,rfl,_,rfl,_,_,rfl,rfl,⟨by decide,by decide⟩,_,rfl,?_⟩
   have nS:=(BH (n*48271 % 2147483647 / 7)).2
   dsimp only
   generalize 97+(n*48271 % 2147483647 / 7 % 26).toNat=ch at nS ⊢
   obtain⟨Q2,Q3⟩:=nS
   refine⟨(by show 2<=sizeLine;decide),λlp gI=>?_⟩
   have s4:=s3.trans (af.upd (o:=HO.lst [.str ⟨#[ch]⟩,.str (Str.ofString "#")]) gI)
   have yt:=(af.upd (o:=HO.lst [.str ⟨#[ch]⟩,.str (Str.ofString "#")]) gI) _ _ CM
   have CN:=uK (af.upd (o:=HO.lst [.str ⟨#[ch]⟩,.str (Str.ofString "#")]) gI)
   revert s4 yt CN
   generalize upd H3 lp (.lst [.str ⟨#[ch]⟩,.str (Str.ofString "#")])=H4
   intro s4 yt CN
   have fin:∀d:Nat,yW a d->∃(n':Int) (v6':Option V) (z':Str),[some (.ref b),some (.int c),some (.ref g),some (.int (n*48271 % 2147483647)),some (.str x),some (.str (z++⟨#[d]⟩)),some (V.str ⟨#[a]⟩)]=[some (.ref b),some (.int c),some (.ref g),some (.int n'),some (.str x),some (.str z'),v6']/\af H H4/\H4 g=some (.lst (ms.map V.str))/\Paired yW (x.cps.toList.take (j+1)) z'.cps.toList:=λd hd=>by
    refine⟨_,_,_,rfl,s4,yt,?_⟩
    rw[eD,ha,j5]
    exact oq hz (.cons hd .nil)
   have l1:∀d:Nat,(⟨#[d]⟩:Str).length=1:=λ_=>rfl
   refine⟨_,rfl,rfl,.inr ⟨_,rfl,?_⟩⟩
   rw[dSh]
   by_cases vG:a=35
   .rw[aI vG]
    refine⟨lp,_,_,_,rfl,rfl,ak.of CN,rfl,_,_,rfl,rfl,dq ?_,?_⟩
    .rw[show(Str.ofString "#").length=1 from rfl];lia
    .exact fin 35 ⟨λ_=>rfl,λz=>absurd vG z⟩
   .rw[aK vG]
    refine⟨lp,_,_,_,rfl,rfl,ak.of CN,rfl,_,_,rfl,rfl,dq ?_,?_⟩
    .rw[l1];lia
    .exact fin ch ⟨λz=>absurd z vG,λ_=>⟨Q2,Q3⟩⟩
  .intro O H3 aek
   refine hide λG_ cN=>?_
   obtain⟨n,v6,z,rfl,s3,CM,hz⟩:=aek
   refine cN.k ?_
   rw[aq,eE (aN _)] at hz
   have qi:=dy yY
   rw[fC] at qi
   refine⟨_,rfl,.inl ⟨rfl,_,ak.of CM⟩,_,rfl,g,_,_,rfl,rfl,CM,jW (by rw[aq];lia),?_⟩
   refine⟨n,_,_,_,ms++[z],rfl,s3.jV hg,?_,?_⟩
   .rw[au,dQ];rfl
   .rw[eD,hx]
    exact oq yY (.cons hz .nil)
 .intro O H2 ael
  refine hide λG_ fR=>?_
  obtain⟨n,v4,v5,v6,ms,rfl,s2,xJ,yY⟩:=ael
  refine fR.k ?_
  rw[aq,eE (aN _)] at yY
  exact⟨_,rfl,g,_,rfl,.inl ⟨ak.of xJ,λp hp=>q p ms _ (s2.trans (af.upd hp)) au yY⟩⟩
end
theorem Ro(S:aV l w)(h:Paired vF l m)(h1:c.1<l.length)(h2:c.2<w):yW (sg l c) (sg m c):=by
 obtain⟨x,hx,_,_,_,hj⟩:=S.row h1
 obtain⟨y,hy,f⟩:=Paired.getL h hx
 obtain⟨b,hb,e⟩:=Paired.getL f (hj _ h2)
 have:sg m c=b:=by
  unfold sg
  rw[bE hy,bE hb]
 rw[this]
 exact e
theorem aem(S:aV l w)(h:Paired vF l m):aV m w:=by
 have hl:=dy h
 refine⟨by have:=S.one;lia,by have:=S.nine;lia,S.w1,S.w9,λy my=>?_,λy my c mc=>?_⟩
 .obtain⟨i,hi⟩:=dR my
  obtain⟨x,hx,f⟩:=Paired.get h hi
  have:=dy f
  rw[bD,bD] at this
  rw[<-this]
  exact S.len x (bh hx)
 .obtain⟨i,hi⟩:=dR my
  obtain⟨x,_,f⟩:=Paired.get h hi
  obtain⟨k,hk⟩:=dR mc
  obtain⟨a,_,g⟩:=Paired.get f hk
  by_cases e:a=35
  .exact .inl (g.1 e)
  .exact .inr (.inr (g.2 e))
theorem aen(S:aV l w)(h:Paired vF l m):d9 l m w:=by
 refine⟨(dy h).symm,λc h1 h2=>?_⟩
 have g:=Ro S h h1 h2
 unfold bW
 by_cases z:sg l c=35
 .rw[aI z,aI (g.1 z)]
 .have:=g.2 z
  rw[aK z,aK (by lia)]
theorem aeo(S:aV l w)(h:Paired vF l m):yf m w:=λc h1 h2 ho=>by
 rw[<-dy h] at h1
 have g:=Ro S h h1 h2
 refine g.2 λz=>?_
 unfold bW at ho
 rw[g.1 z] at ho
 cases ho
noncomputable def lI(n:Int):Nat->Str×Int
 |0=>("",n)
 |k+1=>((lI n k).1++⟨#[97+((lI n k).2 % 26).toNat]⟩,((lI n k).2+1)*48271 % 2147483647)
noncomputable def vH(c:Int):Str:=(lI (c / 8 % 2147483647) (2+c % 8).toNat).1
theorem II(n:Int):∀k,(lI n k).1.length=k/\iH (lI n k).1=true
 |0=>⟨rfl,rfl⟩
 |k+1=>by
  obtain⟨a,b⟩:=II n k
  have h:=(BH (lI n k).2).2
  refine⟨?_,aa4 b (aa5 (OK h.1 h.2))⟩
  show((lI n k).1++⟨#[97+((lI n k).2 % 26).toNat]⟩:Str).length=_
  rw[<-bD,j5,cE,bD,a]
  rfl
theorem aep(c:Int):cB (vH c)=true:=by
 have d0:=lP c (show(8:Int)≠0 by decide)
 have d1:=lQ c (show(0:Int)<8 by decide)
 have:=II (c / 8 % 2147483647) (2+c % 8).toNat
 exact OL (by unfold vH;lia) (by unfold vH;lia) this.2
def qx(H:Hp)(rs:List (List C2))(xs:List V):Prop:=Paired (λr x=>∃p ys,x=V.ref p/\H p=some (.lst ys)/\bz H r ys) rs xs
theorem qx.mono{H H':Hp}{rs:List (List C2)}{xs:List V}(s:af H H')(h:qx H rs xs):qx H' rs xs:=Paired.bJ h λ_ _ q=>let ⟨p,ys,e,a,b⟩:=q;⟨p,ys,e,s _ _ a,b.mono s⟩
structure Rp(ws:List Str)(s:List Str)(rs:List (List C2))(fX:List Str):Prop where
 nd:ws.Nodup->fX.Nodup
 mem:∀x∈fX,x∈ws\/∃r∈rs,x=ar s r
 len:fX.length<=ws.length+rs.length
section
variable{w:World}
def Rq(K:Frag):Sp:=λvs H Q _=>∃(ww g a:Addr) (ws:List Str) (s:List Str) (w:Nat) (rs:List (List C2)) (zs:List V),vs=[.ref ww,.ref a,.ref g]/\H ww=some (.lst (ws.map V.str))/\ws.length+rs.length<=200/\H a=some (.tup (s.map V.str))/\aV s w/\H g=some (.lst zs)/\qx H rs zs/\(∀r∈rs,r.length<=9/\∀c∈r,c.1<s.length/\c.2<w)/\
 ∀t fX H',af H H'->(t=ww\/H t=none)->H' t=some (.lst (fX.map V.str))->Rp ws s rs fX->Q (.ref t) H'
theorem IJ:bp ["_law_words","_law_sheet","_law_rows_here","_law_cells"] ["_law_words","_law_sheet","_law_rows_here"] (aU (top 63)):={}
theorem aeq(F:ba K "_law_more" "_law_more" (top 63) f fd)(oj:Fn P w K mg base "_law_text" 1 (yb K)):aO P w K mg base aQ 2 f fd ["_law_words","_law_sheet","_law_rows_here"] (Rq K):=by
 refine F.bH IJ λaF A outer s H vs Q E hr h=>?_
 refine hide λG_ aG=>?_
 obtain⟨ww,g,a,ws,s,wd,rs,zs,rfl,hW,qg,hT,S,hG,hR,bb,q⟩:=h
 refine aG.k ?_
 have hu:=hr.units
 refine⟨_,(aw (cF (dn (pv 2)) (bK 3 IJ.nd)
  (az (bS (cg w6 (aY oj hr (ab (pv 1) (ab (pv 3) ah))) (pv 0))
   (az (aL 0 IJ.nd (aT Ax (pv 0) (dN (ab (aY oj hr (ab (pv 1) (ab (pv 3) ah))) ah)))))
   bX)))
  (az (aW (pv 0)))),?_⟩
 try dsimp only[bC]
 have QV:=dy hR
 refine⟨_,rfl,g,rfl,⟨_,ak.of hG⟩,?_⟩
 refine iW (K:=K) (xs:=zs) (λi O H2=>∃(t:Addr) (v3:Option V) (fX:List Str),O=[some (.ref t),some (.ref a),some (.ref g),v3]/\af H H2/\(t=ww\/H t=none)/\H2 t=some (.lst (fX.map V.str))/\Rp ws s (rs.take i) fX) ⟨ww,none,ws,rfl,af.cI _,.inl rfl,hW,⟨λh=>h,λx m=>.inl m,by lia⟩⟩ (λi O H2 _ ⟨_,_,_,_,s2,_⟩=>ak.of (s2 _ _ hG)) ?_ ?_
 .intro i y O H2 hy aer
  refine hide λG_ bc=>?_
  obtain⟨t,v3,fX,rfl,s2,ht,hw,M⟩:=aer
  obtain⟨r,hr0,p,ys,rfl,hp,hc⟩:=Paired.get hR hy
  refine bc.k ?_
  have hi:=bb r (bh hr0)
  have MR:=(bP.mp hr0).1
  have iF:rs.take (i+1)=rs.take i++[r]:=by rw[eD,hr0];rfl
  have ml:=M.len
  rw[fC] at ml
  refine⟨_,rfl,_,rfl,a,p,s,wd,r,ys,rfl,ax.of (s2 _ _ hT),S,s2 _ _ hp,hc.mono s2,by lia,hi.2,λH3 s3=>?_⟩
  have ou:=s2.trans s3
  refine⟨_,rfl,t,_,rfl,.inl (ak.of (s3 _ _ hw)),rfl,(by rw[tu];exact kr.mpr λ_ _=>rfl),_,rfl,?_⟩
  rw[aA rfl,yh]
  by_cases hm:ar s r∈fX
  .rw[aI hm]
   exact aR ⟨t,_,fX,rfl,ou,ht,s3 _ _ hw,M.nd,λx mx=>(M.mem x mx).imp id λ⟨q,mq,e⟩=>⟨q,by rw[iF];exact jg _ mq,e⟩,by rw[fC];lia⟩
  .rw[aK hm]
   refine bt ⟨_,rfl,_,rfl,_,rfl,a,p,s,wd,r,ys,rfl,ax.of (ou _ _ hT),S,ou _ _ hp,hc.mono ou,by lia,hi.2,λH4 s4=>⟨(by show 1<=sizeLine;decide),λlp gI=>?_⟩⟩
   have s5:=s4.trans (af.upd (o:=HO.lst [.str (ar s r)]) gI)
   refine⟨t,lp,_,_,rfl,rfl,s5 _ _ (s3 _ _ hw),au,dq (by rw[aq];show _+1<=_;lia),λn hn=>?_⟩
   have s6:=(ou.trans s5).trans (af.upd (o:=HO.lst (fX.map V.str++[.str (ar s r)])) hn)
   refine⟨n,_,fX++[ar s r],rfl,s6,.inr ((ou.trans s5).free hn),by rw[au,dQ];rfl,λh=>OO (M.nd h) hm,λx mx=>?_,by rw[cE,fC];show _+1<=_;lia⟩
   rw[iF]
   rcases cX.mp mx with z | z
   .exact(M.mem x z).imp id λ⟨q,mq,e⟩=>⟨q,jg _ mq,e⟩
   .exact .inr ⟨r,gc _ (cb.mpr rfl),cb.mp z⟩
 .intro O H2 aes
  refine hide λG_ bT=>?_
  obtain⟨t,v3,fX,rfl,s2,ht,hw,M⟩:=aes
  refine bT.k ?_
  rw[<-QV,eE (aN _)] at M
  exact⟨_,rfl,q t fX H2 s2 ht hw M⟩
def Rr(K:Frag):Sp:=λvs H Q _=>∃(c:Int),vs=[.int c]/\Q (.str (vH c)) H
theorem vI:bp ["_law_cell","_law_word_here","_law_number","_law_k"] ["_law_cell"] (aU (top 64)):={}
theorem aet(B:Bl mg)(F:ba K "_law_word" "_law_word" (top 64) f fd)(yX:Fn P w K mg base "_law_letter" 1 (BI K)):aO P w K mg base aQ 2 f fd ["_law_cell"] (Rr K):=by
 refine F.bH vI λaF A outer s H vs Q E hr h=>?_
 obtain⟨c,rfl,q⟩:=h
 have hu:=hr.units
 refine⟨_,(aw (aL 1 vI.nd dM)
  (aw (aL 2 vI.nd (aT gy (aT lV (pv 0) aJ) aJ))
  (aw (cF (kJ (by rfl) B.k9 (ab (aT fh aJ (aT gy (pv 0) aJ)) ah)) (bK 3 vI.nd)
  (aw (aL 1 vI.nd (aT pq (pv 1) (aY yX hr (ab (pv 2) ah))))
   (az (aL 2 vI.nd (aT gy (aT wM (aT fh (pv 2) aJ) aJ) aJ)))))
  (az (aW (pv 1)))))),?_⟩
 try dsimp only[bC]
 have d0:=lP c (show(8:Int)≠0 by decide)
 have d1:=lQ c (show(0:Int)<8 by decide)
 refine⟨_,rfl,_,_,rfl,rfl,⟨by decide,by decide⟩,_,_,rfl,rfl,(by show(0:Int)<2147483647;decide),?_⟩
 refine⟨_,rfl,_,_,rfl,rfl,(by show(0:Int)<8;decide),_,_,rfl,rfl,_,rfl,by lia,by lia,?_⟩
 refine nO (λi O H2=>∃(v3:Option V),O=[some (.int c),some (.str (lI (c / 8 % 2147483647) i).1),some (.int (lI (c / 8 % 2147483647) i).2),v3]/\H2=H) ⟨none,rfl,rfl⟩ ?_ ?_
 .rintro i O H2 hi ⟨v3,rfl,rfl⟩
  have:=(II (c / 8 % 2147483647) i).1
  refine⟨_,rfl,_,rfl,_,rfl,_,_,rfl,rfl,dq (by rw[show ∀d:Nat,(⟨#[d]⟩:Str).length=1 from λ_=>rfl];lia),?_⟩
  exact⟨_,rfl,_,_,rfl,rfl,_,_,rfl,rfl,.inr ⟨by decide,by decide⟩,_,_,rfl,rfl,(by show(0:Int)<2147483647;decide),_,rfl,rfl⟩
 .rintro O H2 ⟨v3,rfl,rfl⟩
  exact⟨_,rfl,q⟩
end
theorem aeu(h:ks.Nodup):(c6 m R pl ks).Nodup:=by
 unfold c6
 exact((gH _).nodup_iff.mpr (h.filter _)).filter _
structure kj(ks m:List Str)(w most:Nat)(Q:List Str->Prop)(new:List (List Str)):Prop where
 nd:new.Nodup
 ok:∀s∈new,cD s m w/\eN ks s w=true/\Q s
 le:new.length<=most
 all:new.length<most->∀s,cD s m w->eN ks s w=true->Q s->s∈new
theorem kj.step(F:cj m w R)(hx:i9 x)(cV:cz x (ar m (ai R pl))=true)(hn:x∉Xs)(S:kj ks m w most (λs=>ar s (ai R pl)∈Xs) new)(A:kj ks (putL m (ai R pl) x.cps.toList) w (most - new.length) (λ_=>True) nw):kj ks m w most (λs=>ar s (ai R pl)∈Xs++[x]) (new++nw):=by
 have hl:x.length=(ai R pl).length:=by rw[(fV.mp cV).1,dJ]
 have ht:∀s∈nw,cD s m w/\eN ks s w=true/\ar s (ai R pl)=x:=λs ms=>by
  obtain⟨a,b,_⟩:=A.ok s ms
  exact⟨a.Pf F hx cV,b,a.text F hx hl⟩
 have l1:=S.le
 have l2:=A.le
 refine⟨oX.mpr ⟨S.nd,A.nd,λs ms t mt e=>?_⟩,λs ms=>?_,by rw[cE];lia,λh s a b c=>?_⟩
 .have h1:=(S.ok s ms).2.2
  rw[e,(ht t mt).2.2] at h1
  exact hn h1
 .rcases cX.mp ms with z | z
  .obtain⟨a,b,c⟩:=S.ok s z
   exact⟨a,b,jg _ c⟩
  .obtain⟨a,b,c⟩:=ht s z
   exact⟨a,b,gc _ (cb.mpr c)⟩
 .rw[cE] at h
  rcases cX.mp c with c | c
  .exact jg _ (S.all (by lia) s a b c)
  .have c:=cb.mp c
   refine gc _ (A.all (by lia) s ?_ b trivial)
   have:=a.put F pl (by rw[c];exact hx)
   rwa [c] at this
section
variable{w:World}
structure aev(K:Frag)(H:Hp)(ww g a:Addr)(ws l:List Str)(w n:Nat)(R:List (List C2))(zs:List V):Prop where
 hW:H ww=some (.lst (ws.map V.str))
 fq:ws.length<64
 wd:∀x∈ws,cB x=true
 nd:ws.Nodup
 hT:H a=some (.tup (l.map V.str))
 fl:cj l w R
 free:(fJ l w).length<n
 hG:H g=some (.lst zs)
 hR:dI g H R zs
def CO(K:Frag)(n:Nat):Sp:=λvs H Q _=>∃(ww g a:Addr) (ws l:List Str) (w most:Nat) (R:List (List C2)) (zs:List V),vs=[.ref ww,.ref g,.ref a,.int most]/\aev K H ww g a ws l w n R zs/\1<=most/\most<=1000/\
 ∀t ts new H',H t=none->af H H'->H' t=some (.lst (ts.map V.ref))->jd H' ts new->kj ws l w most (λ_=>True) new->Q (.ref t) H'
theorem vJ:bp ["_law_words","_law_rows_here","_law_sheet","_law_most","_law_turn_here","_law_told","_law_word_here"] ["_law_words","_law_rows_here","_law_sheet","_law_most"] (aU (top 71)):={}
theorem aew(n:Nat)(B:Bl mg)(F:ba K "_law_some" "_law_some" (top 71) f fd)(IK:Fn P w K mg base "_law_some" (n+3) (CO K n))(CQ:Fn P w K mg base "_law_turn" 3 (IB K))(lJ:Fn P w K mg base "_law_put" 2 (uJ K)):aO P w K mg base aQ (n+4) f fd ["_law_words","_law_rows_here","_law_sheet","_law_most"] (CO K (n+1)):=by
 refine F.bH vJ λaF A outer s H vs Q E hr h=>?_
 refine hide λG_ aG=>?_
 obtain⟨ww,g,a,ws,l,wd,most,R,zs,rfl,PA,IA,Q8,q⟩:=h
 refine aG.k ?_
 have hu:=hr.units
 refine⟨_,(aw (aL 4 vJ.nd (aY CQ hr (ab (pv 0) (ab (pv 1) (ab (pv 2) (ab aJ ah))))))
  (aw (bS (cg wN (pv 4) lS)
  (az (aW (dN (ab (pv 2) ah))))
  bX)
  (aw (aL 5 vJ.nd (dN ah))
  (aw (cF (dn (bf cM (pv 4) aJ)) (bK 6 vJ.nd)
  (az (bS (cg kK (br dg (by rfl) B.b7 b0 (ab (pv 5) ah)) (pv 3))
   (az (aL 5 vJ.nd (aT Ax (pv 5) (aY IK hr (ab (pv 0) (ab (pv 1) (ab (aY lJ hr (ab (pv 2) (ab (bf eQ (pv 1) (bf cM (pv 4) aJ)) (ab (pv 6) ah)))) (ab (aT nz (pv 3) (br dg (by rfl) B.b7 b0 (ab (pv 5) ah))) ah))))))))
   bX)))
  (az (aW (pv 5))))))),?_⟩
 try dsimp only[bC]
 refine⟨_,rfl,_,rfl,_,rfl,ww,g,a,ws,l,wd,R,zs,rfl,PA.hW,PA.fq,PA.wd,ax.of PA.hT,PA.fl,PA.hG,PA.hR,λv H1 s1 hN=>?_⟩
 rcases hN with ⟨rfl,dX⟩ | ⟨t,lf,pl,rfl,ht,Ck,bj,hd⟩
 .refine⟨_,rfl,rfl,_,rfl,bt ⟨_,rfl,(by show 1<=sizeLine;decide),λr Rt=>?_⟩⟩
  have s2:=s1.trans (af.upd (o:=HO.lst [V.ref a]) Rt)
  have AF:=IE.whole PA.fl dX
  exact q r [a] [l] _ (s1.free Rt) s2 au (.cons (s2 _ _ PA.hT) .nil) ⟨AF.1,λs ms=>⟨((AF.2 s).mp ms).1,((AF.2 s).mp ms).2,trivial⟩,IA,λ_ s a b _=>(AF.2 s).mpr ⟨a,b⟩⟩
 .refine⟨_,rfl,rfl,_,rfl,aR ⟨bA _,λlt aM=>?_⟩⟩
  have ltH:=s1.free aM
  have s2:=af.upd (o:=HO.lst []) aM
  have ui:upd H1 lt (.lst []) lt=some (.lst (([]:List Addr).map V.ref)):=au
  have fS:=s2 _ _ ht
  have IL:=s2 _ _ Ck
  have lG:=s1.trans s2
  generalize upd H1 lt (.lst [])=H2 at lG ui fS IL
  clear s2
  have sI:=PA.hR.length
  refine hide λG_ bc=>?_
  obtain⟨zv,yZ⟩:∃zv,zs[pl]? = some zv:=⟨_,aS (by lia)⟩
  obtain⟨r0,hr0,y0,j9,rfl,_,IM,hc0⟩:=Paired.get PA.hR yZ
  refine bc.k ?_
  have y9:ai R pl=r0:=bE hr0
  refine⟨_,rfl,t,_,1,.ref lf,rfl,rfl,ax.of fS,rfl,lf,rfl,⟨_,ak.of IL⟩,?_⟩
  refine iW (K:=K) (xs:=(c6 l R pl ws).map V.str) (λi O H3=>∃(lt:Addr) (v6:Option V) (ts:List Addr) (new:List (List Str)),O=[some (.ref ww),some (.ref g),some (.ref a),some (.int most),some (.ref t),some (.ref lt),v6]/\af H2 H3/\H lt=none/\H3 lt=some (.lst (ts.map V.ref))/\jd H3 ts new/\kj ws l wd most (λs=>ar s (ai R pl)∈(c6 l R pl ws).take i) new)
   ⟨lt,none,[],[],rfl,af.cI _,ltH,ui,.nil,⟨jh,(λ_ m=>nomatch m),bA _,(λ_ s _ _ m=>nomatch m)⟩⟩ (λi O H3 _ ⟨_,_,_,_,_,s3,_⟩=>ak.of (s3 _ _ IL)) ?_ ?_
  .intro i y O H3 hy aex
   refine hide λG_ bT=>?_
   obtain⟨lt,v6,ts,new,rfl,s3,za,vK,iN,S3⟩:=aex
   rw[bq] at hy
   obtain⟨x,hx,rfl⟩:=gu.mp hy
   have yR:=bh hx
   obtain⟨fA,cV⟩:=Rg yR
   refine bT.k ?_
   have lE:=yM (PA.wd x fA)
   have d7:x.length=(ai R pl).length:=by rw[(fV.mp cV).1,dJ]
   have d8:=lG.trans s3
   have aey:46∈(ar l (ai R pl)).cps.toList:=by
    rcases hd with z | z
    .rw[z] at yR;exact nomatch yR
    .exact z
   have fM:=Ph PA.fl lE cV aey
   have nJ:=PA.free
   have iF:(c6 l R pl ws).take (i+1)=(c6 l R pl ws).take i++[x]:=by rw[eD,hx];rfl
   have hnx:x∉(c6 l R pl ws).take i:=by
    have h1:((c6 l R pl ws).take (i+1)).Nodup:=(aeu PA.nd).sublist (vY _ _)
    rw[iF,oX] at h1
    exact λm=>h1.2.2 x m x (cb.mpr rfl) rfl
   have e1:=dy iN
   refine⟨_,rfl,lt,_,rfl,.inl (ak.of vK),_,rfl,_,_,rfl,rfl,_,rfl,?_⟩
   rw[aq]
   by_cases Ru:new.length<most
   .rw[aI (by lia)]
    refine bt ⟨_,rfl,_,rfl,_,rfl,_,rfl,_,rfl,_,rfl,t,_,0,.int pl,rfl,rfl,ax.of (s3 _ _ fS),rfl,g,_,_,.ref y0,rfl,rfl,ak.of (d8 _ _ PA.hG),de yZ,_,rfl,?_⟩
    refine⟨a,y0,l,wd,r0,j9,x,rfl,d8 _ _ PA.hT,PA.fl.sh.dC,d8 _ _ IM,hc0.mono d8,by rw[<-y9];exact PA.fl.iK pl,λa2 H4 s4 rL=>?_⟩
    rw[<-y9] at rL
    have oE:=d8.trans s4
    have aez:=s4 _ _ vK
    refine⟨_,rfl,_,rfl,lt,_,rfl,.inl (ak.of aez),_,_,rfl,rfl,?_⟩
    refine⟨ww,g,a2,ws,putL l (ai R pl) x.cps.toList,wd,most - new.length,R,zs,by rw[aq,e1,Int.ofNat_sub (vT Ru)];rfl,⟨oE _ _ PA.hW,PA.fq,PA.wd,PA.nd,rL,PA.fl.put pl lE d7,by lia,oE _ _ PA.hG,dI.mono oE PA.hR⟩,by lia,by lia,λt' dY nw H5 _ s5 yU sy A5=>?_⟩
    have S5:=S3.step PA.fl lE cV hnx A5
    have CT:=s4.trans s5
    have Rv:jd H5 (ts++dY) (new++nw):=oq (iN.keep λb o _ _ e=>CT _ _ e) sy
    have e2:=dy Rv
    have l5:=S5.le
    refine⟨lt,t',_,_,rfl,rfl,CT _ _ vK,yU,dq (by rw[aq,aq,<-cE];lia),λp hp=>?_⟩
    have s6:=af.upd (o:=HO.lst (ts.map V.ref++dY.map V.ref)) hp
    exact⟨p,_,ts++dY,new++nw,rfl,s3.trans (CT.trans s6),lG.free (s3.free (CT.free hp)),by rw[au,dQ],Rv.keep (λb o _ _ e=>s6 _ _ e),by rw[iF];exact S5⟩
   .rw[aK (by lia)]
    exact aR ⟨lt,_,ts,new,rfl,s3,za,vK,iN,S3.nd,λs ms=>by obtain⟨a,b,c⟩:=S3.ok s ms;exact⟨a,b,by rw[iF];exact jg _ c⟩,S3.le,λz=>absurd z Ru⟩
  .intro O H3 aeA
   refine hide λG_ cN=>?_
   obtain⟨lt,v6,ts,new,rfl,s3,za,vK,iN,S3⟩:=aeA
   refine cN.k ?_
   rw[aq,eE (aN _)] at S3
   exact⟨_,rfl,q lt ts new H3 za (lG.trans s3) vK iN ⟨S3.nd,λs ms=>by obtain⟨a,b,_⟩:=S3.ok s ms;exact⟨a,b,trivial⟩,S3.le,λz s a b _=>S3.all z s a b (a.left PA.fl PA.wd b bj)⟩⟩
theorem Rw(B:Bl mg)(F:ba K "_law_some" "_law_some" (top 71) f fd)(hm:mg "_law_some"=some (.ref f))(hk:keepIn K (.ref f)=true)(hb:Binds K fd ["_law_words","_law_rows_here","_law_sheet","_law_most"] [])(CQ:Fn P w K mg base "_law_turn" 3 (IB K))(lJ:Fn P w K mg base "_law_put" 2 (uJ K)):∀n:Nat,aO P w K mg base aQ (n+3) f fd ["_law_words","_law_rows_here","_law_sheet","_law_most"] (CO K n)
 |0=>F.ok vJ (λvs H Q E h=>by obtain⟨ww,g,a,ws,l,w,most,R,zs,rfl,PA,_⟩:=h;exact absurd PA.free (gQ _)) (λaF A outer s H vs Q E hr h=>by obtain⟨ww,g,a,ws,l,w,most,R,zs,rfl,PA,_⟩:=h;exact absurd PA.free (gQ _))
 |n+1=>aew n B F ⟨f,fd,_,Rw B F hm hk hb CQ lJ n,hm,hk,hb⟩ CQ lJ
end
theorem Rx:∀zs:List Str,(Str.join ⟨#[]⟩ zs).cps.toList=zs.flatMap λx=>x.cps.toList
 |[]=>rfl
 |[x]=>by simp[Str.join]
 |x::y::r=>by
  have ih:=Rx (y::r)
  show((x++⟨#[]⟩++Str.join ⟨#[]⟩ (y::r):Str)).cps.toList=_
  rw[j5,j5,ih]
  simp
theorem Ry(l:List Str):decide (46∈(Str.join ⟨#[]⟩ l).cps.toList)=fU l:=by
 rw[Rx]
 unfold fU
 rw[sY,zP,zS,tm]
 constructor
 .rintro⟨x,m,h⟩
  exact⟨x,m,aI h⟩
 .rintro⟨x,m,h⟩
  exact⟨x,m,fF h⟩
theorem IP{w:Nat}:∀{l:List Str},(∀x∈l,x.length=w)->(l.map (·.length)).sum=l.length*w
 |[],_=>by simp
 |x::r,h=>by
  rw[bQ,fH,IP λy m=>h y (bU _ m),h x bG,cQ,lM,Nat.add_comm]
theorem aeB(h:(aC l w)[i]? = some r):(dw l w)[i]? = some (ar l r):=by
 unfold dw
 rw[bq,h]
 rfl
theorem vL(i j:Nat):decide (V.int (i:Int)=V.int (j:Int))=decide (i=j):=by
 by_cases h:i=j
 .rw[h,aI rfl,aI rfl]
 .rw[aK h,aK]
  intro z
  injection z with z
  lia
section
variable{w:World}
def Rz(K:Frag):Sp:=λvs H Q _=>∃(d a:Addr) (ks:List Str) (l:List Str) (w:Nat),vs=[.ref d,.ref a]/\H d=some (.lst (ks.map V.str))/\ax K H a (l.map V.str)/\aV l w/\∀H',af H H'->Q (.bl (eN ks l w)) H'
theorem RA:bp ["_law_words","_law_sheet","_law_texts"] ["_law_words","_law_sheet"] (aU (top 67)):={}
theorem aeC(B:Bl mg)(F:ba K "_law_is_filling" "_law_is_filling" (top 67) f fd)(yV:Fn P w K mg base "_law_rows" 3 (BF K))(oj:Fn P w K mg base "_law_text" 1 (yb K)):aO P w K mg base aQ 4 f fd ["_law_words","_law_sheet"] (Rz K):=by
 refine F.bH RA λaF A outer s H vs Q E hr h=>?_
 refine hide λG_ aG=>?_
 obtain⟨d,a,ks,l,wd,rfl,hd,hT,S,q⟩:=h
 refine aG.k ?_
 have dr:=jU hr
 refine⟨_,(aw (t9 (i:=2) RA.nd rfl (Or.inl rfl) (js:=[1]) (ns:=["_law_sheet"]) (dn (aY yV hr (ab (pv 1) ah))) rfl rfl rfl rfl (λ_ _ _ _=>ju) (λ_ _ _ _=>(aY oj hr (ab (pv 1) (ab (pv 0) ah)))))
  (aw (bS (PW.pt (jl (cg Am dM (fm Dw J3 Ka AO dM (ab (gE rf (by rfl) B.pT pG (ab (pv 1) ah)) ah))) (jN (cg jQ (br YC (by rfl) B.b7 b0 (ab (gE (YB rfl) (by rfl) B.NL M0 (ab (pv 2) ah)) ah)) (br dg (by rfl) B.b7 b0 (ab (pv 2) ah))))))
  (az (aW gh))
  bX)
  (az (aW (br (L0 rfl) (by rfl) B.NJ LX (ab (i3 (js:=[0]) (ns:=["_law_words"]) (dn (pv 2)) rfl rfl rfl rfl (λ_ _ _ _=>ju) (λ_ _ _ _=>(WW (K:=K) (rr:=λK=>wZ K false) rfl Vm (pv 0) (pv 1)))) ah)))))),?_⟩
 try dsimp only[bC]
 refine⟨_,rfl,a,l,wd,rfl,hT,S,λg xs H1 hg s1 hL hR=>⟨g,rfl,⟨_,ak.of hL⟩,?_⟩⟩
 have Ri:=dy hR
 have j8:=r8 S
 have Nm:=abk l wd
 have htc:(dw l wd).length=(aC l wd).length:=by unfold dw;rw[aq]
 refine comp_map jv (by lia) (λ_ i y _=>y = .str ((dw l wd).getD i ⟨#[]⟩)) (λH2 s2=>ak.of (s2 _ _ hL)) (λ_ _ _ _ _ _ _ _ h=>h) ?_ ?_
 .intro D i x H2 Z ll hx s2 _ k1
  refine hide λG_ bc=>?_
  obtain⟨r,eW,p1,ys,rfl,_,hp,hc⟩:=Paired.get hR hx
  refine bc.k ?_
  have bb:=fT S (bh eW)
  exact⟨_,rfl,_,rfl,a,p1,l,wd,r,ys,rfl,(s1.trans s2).tup hT,S,s2 _ _ hp,hc.mono s2,by lia,λc mc=>⟨(bb.2.2 c mc).1,(bb.2.2 c mc).2.1⟩,λH3 s3=>k1 _ _ s3 (by rw[bE (aeB eW)])⟩
 .intro D zs H2 ll bw s2 pr
  have e:=mN pr
  rw[<-Ri,<-htc,lb (λx=>V.str x)] at e
  rw[e] at bw
  have sm:=s1.trans s2
  clear pr e hR hL ll
  refine⟨rfl,_,rfl,a,_,rfl,.inr (sm.tup hT),λlp gI=>⟨_,lp,l,rfl,rfl,.inl (ak.of au),?_,_,_,rfl,rfl,_,rfl,?_⟩⟩
  .rw[IP S.len,pY]
   have h9:=S.nine
   have w9:=S.w9
   have:l.length*wd<=9*9:=wk h9 w9
   show _+_*0<=_
   lia
  .have ef:(!(Builtin.Str.occurrences (Str.join (Str.ofString "") l) (Str.ofString ".") 0 (Str.join (Str.ofString "") l).length 1).isEmpty)=fU l:=by
    rw[<-Ry,rX,pY]
    exact zU _ 46
   rw[ef]
   have fQ:=sm.trans (af.upd (o:=HO.lst (l.map V.str)) gI)
   have zb:=(af.upd (o:=HO.lst (l.map V.str)) gI) _ _ bw
   revert fQ zb
   generalize upd H2 lp (.lst (l.map V.str))=H3
   intro fQ zb
   cases mV:fU l with
   |true=>
    have e:eN (ks) l wd=false:=gS.mpr λe=>by rw[(Gy e).1] at mV;cases mV
    rw[e] at q
    exact bt (bt (q H3 fQ))
   |false=>
    refine aR ?_
    refine⟨_,rfl,D,dw l wd,rfl,ak.of zb,kq (show(dw l wd).length+1<=1000 by lia) (by decide),λst T c cS hc=>⟨st,T,c,rfl,au,_,rfl,D,_,rfl,.inl (ak.of ((af.upd cS) _ _ zb)),rfl,_,rfl,?_⟩⟩
    have du:=fQ.trans (af.upd (o:=HO.ext (ur P w st T c)) cS)
    have RB:=(af.upd (o:=HO.ext (ur P w st T c)) cS) _ _ zb
    rw[aq,vL]
    by_cases dz:(dw l wd).Nodup
    .rw[aI (hc.mpr dz)]
     refine aR ?_
     refine⟨_,rfl,D,rfl,⟨_,ak.of RB⟩,?_⟩
     refine comp_map jv (by rw[aq];lia) (λ_ i y _=>y = .bl (decide ((dw l wd).getD i ⟨#[]⟩∈ks))) (λH5 s5=>ak.of (s5 _ _ RB)) (λ_ _ _ _ _ _ _ _ h=>h) ?_ ?_
     .intro D2 i v H5 Z ll hv s5 _ k1
      rw[bq] at hv
      cases ex:(dw l wd)[i]? with
      |none=>rw[ex] at hv;cases hv
      |some x=>
       rw[ex] at hv
       cases hv
       refine⟨_,rfl,_,rfl,d,_,rfl,.inl (ak.of ((du.trans s5) _ _ hd)),rfl,by rw[tu];exact kr.mpr λ_ _=>rfl,k1 _ _ (af.cI _) ?_⟩
       rw[yh,bE ex]
       rfl
     .intro D2 bs H5 ll mO s5 n9
      have e2:=mN n9
      rw[aq,lb (λx=>V.bl (decide (x∈ks)))] at e2
      have e3:bs=((dw l wd).map λx=>decide (x∈ks)).map V.bl:=by rw[e2,jH];rfl
      rw[e3] at mO
      refine⟨D2,_,rfl,ak.of mO,?_⟩
      have ea:(((dw l wd).map λx=>decide (x∈ks)).all id)=eN (ks) l wd:=by
       unfold eN
       rw[mV,aI dz,tu]
       rfl
      rw[ea]
      exact q H5 (du.trans s5)
    .rw[aK λz=>dz (hc.mp z)]
     have e:eN (ks) l wd=false:=gS.mpr λe=>dz (Gy e).2.1
     rw[e] at q
     exact bt (q _ du)
def RC(K:Frag):Sp:=λvs H Q _=>∃(b a:Addr) (s l:List Str) (w:Nat),vs=[.ref b,.ref a]/\H b=some (.tup (s.map V.str))/\H a=some (.tup (l.map V.str))/\aV l w/\cD s l w/\∀H',af H H'->Q (.bl true) H'
theorem IQ:bp ["_law_sheet","_law_given","_law_line","_law_other"] ["_law_sheet","_law_given"] (aU (top 69)):={}
theorem aeD(B:Bl mg)(F:ba K "_law_agreeing" "_law_agreeing" (top 69) f fd):aO P w K mg base aQ 1 f fd ["_law_sheet","_law_given"] (RC K):=by
 refine F.bH IQ λaF A outer s H vs Q E hr h=>?_
 refine hide λG_ aG=>?_
 obtain⟨b,a,t,l,wd,rfl,hb,ha,S,AG,q⟩:=h
 refine aG.k ?_
 have hu:=hr.units
 refine⟨_,(aw (bS (PW.pt (jl (gT (fK (br ua (by rfl) B.pU pF (ab (pv 0) (ab (tK (v := .ty "tuple") (by rfl) B.rV rC rfl) ah))))) (jN (cg jQ (br dg (by rfl) B.b7 b0 (ab (pv 0) ah)) (br dg (by rfl) B.b7 b0 (ab (pv 1) ah))))))
  (az (aW gh))
  bX)
  (aw (cF (xx .T .T (by rfl) B.xS (ab (pv 0) (ab (pv 1) ah))) (jn rfl (dG (bK 2 IQ.nd) (dG (bK 3 IQ.nd) jm)))
  (aw (bS (PW.pt (jl (gT (fK (br ua (by rfl) B.pU pF (ab (pv 2) (ab (tK (v := .ty "str") (by rfl) B.NI LY rfl) ah))))) (jN (cg jQ (br iZ (by rfl) B.b7 b0 (ab (pv 2) ah)) (br iZ (by rfl) B.b7 b0 (ab (pv 3) ah))))))
   (az (aW gh))
   bX)
   (az (bS (cg (LW hu) (i3 (js:=[3,2]) (ns:=["_law_other","_law_line"]) (kJ (by rfl) B.k9 (ab (br iZ (by rfl) B.b7 b0 (ab (pv 2) ah)) ah)) rfl rfl rfl rfl (λ_ _ _ _=>(nK (PW.pt (Ae (cg jQ (bf iX (pv 1) (pv 0)) (bf iX (pv 2) (pv 0))) (Ad (PW.pt (jl (cg jQ (bf iX (pv 1) (pv 0)) dM) (jN (cg lW (bf iX (pv 2) (pv 0)) dM))))))))) (λ_ _ _ _=>(pv 0))) (dN ah))
   (az (aW gh))
   bX))))
  (az (aW gh)))),?_⟩
 try dsimp only[bC]
 have hln:=AG.ln
 have k1:kitOne K (.type "tuple") (.type "tuple")=some true:=by kernel_rfl
 have k2:kitOne K (.type "str") (.type "str")=some true:=by kernel_rfl
 refine⟨_,rfl,_,_,_,true,⟨rfl,.tup hb,k1⟩,_,rfl,aR ⟨_,rfl,b,_,rfl,.inr (ax.of hb),_,rfl,a,_,rfl,.inr (ax.of ha),rfl,_,rfl,?_⟩⟩
 rw[aq,aq,vL,aI hln]
 refine aR ⟨_,rfl,_,rfl,_,_,rfl,⟨_,b,rfl,ax.of hb⟩,⟨_,a,rfl,ax.of ha⟩,?_⟩
 refine xy (K:=K) (k1 := .T) (k2 := .T) (xs:=t.map V.str) (ys:=l.map V.str) (λi O H2=>∃(v2 v3:Option V),O=[some (.ref b),some (.ref a),v2,v3]/\af H H2) ⟨none,none,rfl,af.cI _⟩ ?_ ?_ ?_
 .rintro i O H2 _ ⟨v2,v3,rfl,s2⟩
  exact⟨⟨_,rfl,ax.of (s2 _ _ hb)⟩,_,rfl,ax.of (s2 _ _ ha)⟩
 .intro i x y pt O H2 hx hy aeE hpt
  refine hide λG_ bc=>?_
  obtain⟨v2,v3,rfl,s2⟩:=aeE
  rw[bq] at hx hy
  obtain⟨sx,hsx,rfl⟩:=gu.mp hx
  obtain⟨lx,hlx,rfl⟩:=gu.mp hy
  refine bc.k ?_
  have hil:i<l.length:=(bP.mp hlx).1
  have w9:=S.w9
  have lsx:=AG.sh.len sx (bh hsx)
  have llx:=S.len lx (bh hlx)
  refine⟨pt,_,rfl,ax.of au,rfl,_,_,rfl,_,_,rfl,rfl,?_⟩
  have s3:af H (upd H2 pt (.tup [.str sx,.str lx])):=s2.trans (af.upd hpt)
  generalize upd H2 pt (.tup [.str sx,.str lx])=H3 at s3
  refine⟨_,rfl,_,_,_,true,⟨rfl,.str sx,k2⟩,_,rfl,aR ⟨_,rfl,sx,rfl,dq (by lia),_,rfl,lx,rfl,dq (by lia),rfl,_,rfl,?_⟩⟩
  rw[vL,aI (by lia)]
  refine aR ⟨_,rfl,sx,rfl,dq (by lia),_,rfl,by lia,by lia,?_⟩
  rw[fE]
  refine l7 L5 (by rw[aq,gR];lia) (λ_=>false) (λ_ i y _=>y = .int (0+(i:Int))) (λ_ _=>trivial) (λ_ _ _ _ _ _ _ _ h=>h) ?_ ?_
  .intro D2 j v H6 Z0 Z ll hv s6 _ k0 k1
   obtain⟨hj,rfl⟩:=OR hv
   have hgs:sx.cps.toList[j]? = some (sx.cps.toList.getD j 0):=by
    rw[bR,aS (by rw[bD];lia)]
    rfl
   have Px:lx.cps.toList[j]? = some (lx.cps.toList.getD j 0):=by
    rw[bR,aS (by rw[bD];lia)]
    rfl
   have e1:sg t (i,j)=sx.cps.toList.getD j 0:=by unfold sg;rw[bE hsx]
   have e2:sg l (i,j)=lx.cps.toList.getD j 0:=by unfold sg;rw[bE hlx]
   have cl:=AG.cl (i,j) hil (by show j<wd;lia)
   rw[e1,e2] at cl
   have a1:iy sx.cps.toList (0+(j:Int))=some (sx.cps.toList.getD j 0):=by rw[zI];exact de hgs
   have a2:iy lx.cps.toList (0+(j:Int))=some (lx.cps.toList.getD j 0):=by rw[zI];exact de Px
   generalize sx.cps.toList.getD j 0=gs at a1 cl
   generalize lx.cps.toList.getD j 0=gl at a2 cl
   refine⟨_,rfl,_,rfl,lx,_,gl,rfl,rfl,dq (by lia),a2,_,rfl,_,rfl,sx,_,gs,rfl,rfl,dq (by lia),a1,rfl,_,rfl,?_⟩
   rw[r9]
   by_cases e:gl=gs
   .rw[aI e]
    exact aR (aR (k0 _ (af.cI _) rfl))
   .rw[aK e]
    have cC:gl=46:=zQ λz=>e (cl.1 z).symm
    have vG:¬gs=35:=cl.2 cC
    refine bt ⟨_,rfl,_,rfl,lx,_,gl,rfl,rfl,dq (by lia),a2,rfl,_,rfl,?_⟩
    rw[rX,r9,aI cC]
    refine aR ⟨_,rfl,_,rfl,sx,_,gs,rfl,rfl,dq (by lia),a1,rfl,_,rfl,?_⟩
    rw[rW,r9,aK vG]
    exact aR (k0 _ (af.cI _) rfl)
  .intro D2 ys H6 ll mO s6 n9
   have e2:=mN n9
   rw[S0.mpr (λ_ _=>bZ)] at e2
   rw[e2] at mO
   refine⟨bA _,λen sD=>?_⟩
   have sE:=s6.trans (af.upd (o:=HO.lst []) sD)
   refine⟨.lst (([]:List Nat).map λ(i:Nat)=>D.int (0+(i:Int))),.lst [],⟨D2,_,rfl,ak.of ((af.upd sD) _ _ mO),Gw _ _ _⟩,⟨en,_,rfl,ak.of au,rfl⟩,.inr ⟨_,_,rfl,rfl⟩,OP _,_,rfl,?_⟩
   rw[OQ,aI rfl]
   exact aR ⟨_,_,rfl,s3.trans sE⟩
 .rintro O H2 ⟨v2,v3,rfl,s2⟩
  exact q H2 s2
end
theorem zc(K:Frag)(H:Hp):∀ss:List Str,dh K H (ss.map D.str) (ss.map V.str)
 |[]=>rfl
 |x::r=>⟨.str x,r.map V.str,rfl,rfl,zc K H r⟩
theorem IS:∀ss:List Str,dO (ss.map D.str)=0
 |[]=>rfl
 |x::r=>by
  rw[bQ,dO,IS r]
  rfl
noncomputable def vM(c7:List (List Str)):List D:=c7.map λs=>D.tup (s.map D.str)
theorem RD(K:Frag)(H:Hp):∀{ts:List Addr}{c7:List (List Str)},jd H ts c7->dh K H (vM c7) (ts.map V.ref)
 |_,_,.nil=>rfl
 |_,_,.cons h t=>⟨_,_,rfl,⟨_,_,rfl,ax.of h,zc K H _⟩,RD K H t⟩
theorem RE:∀c7:List (List Str),dO (vM c7)<=50
 |[]=>bA _
 |s::r=>by
  unfold vM
  rw[bQ,dO]
  have:=RE r
  unfold vM at this
  have e:dep (D.tup (s.map D.str))=1:=by rw[dep,IS]
  lia
section
variable{w:World}
structure aeF(K:Frag)(H:Hp)(CW CC:Addr)(n:Nat)(ww g a fo:Addr)(v:V)(ws m:List Str)(w:Nat)(R:List (List C2))(zs:List V)(ts:List Addr)(told:List (List Str)):Prop where
 e1:mU (λ_=>True) H CW CC R ws told n v m
 e2:H ww=some (.lst (ws.map V.str))
 e3:ws.length<64
 e4:∀x∈ws,cB x=true
 e5:H a=some (.tup (m.map V.str))
 e6:cj m w R
 e7:H g=some (.lst zs)
 e8:dI g H R zs
 e9:H fo=some (.lst (ts.map V.ref))
 ea:jd H ts told
 eb:told.length<=1000
def CU(K:Frag)(CW CC:Addr)(n:Nat):Sp:=λvs H Q _=>∃(ww g a fo:Addr) (v:V) (ws m:List Str) (w:Nat) (R:List (List C2)) (zs:List V) (ts:List Addr) (told:List (List Str)),vs=[v,.ref ww,.ref g,.ref a,.ref fo]/\aeF K H CW CC n ww g a fo v ws m w R zs ts told/\
 ∀H',af H H'->Q (.bl true) H'
theorem CV:bp ["_law_paper","_law_words","_law_rows_here","_law_sheet","_law_told","_law_word_here","_law_other"] ["_law_paper","_law_words","_law_rows_here","_law_sheet","_law_told"] (aU (top 68)):={}
theorem aeG(n:Nat)(B:Bl mg)(F:ba K "_law_walked" "_law_walked" (top 68) f fd)(vN:Cn mg "Whole" (.ref CW))(vO:Cn mg "Cases" (.ref CC))(IW:pO K CW)(IC:pO K CC)(vP:kitOne K (.ref CC) (.ref CW)=some false)(T:cG K CC)(np:bN K CC "place")(nq:bN K CC "parts")(IT:Fn P w K mg base "_law_walked" (n+3) (CU K CW CC n))(vE:Fn P w K mg base "_law_left" 2 (BL K))(lJ:Fn P w K mg base "_law_put" 2 (uJ K)) :
  aO P w K mg base aQ (n+4) f fd ["_law_paper","_law_words","_law_rows_here","_law_sheet","_law_told"] (CU K CW CC (n+1)):=by
 refine F.bH CV λaF A outer s H vs Q E hr h=>?_
 refine hide λG_ aG=>?_
 obtain⟨ww,g,a,fo,v,ws,m,wd,R,zs,ts,told,rfl,⟨hC,hW,da,fZ,hT,FM,hG,hR,dk,hF,aeH⟩,q⟩:=h
 refine aG.k ?_
 have hu:=hr.units
 refine⟨_,(aw (bS (fK (br MT (by rfl) B.pU pF (ab (pv 0) (ab (kT vN (by rfl)) ah))))
  (az (aW (Kt (nA KN dM (fm Dw J3 Ka AO dM (ab (gE rf (by rfl) B.pT pG (ab (pv 3) ah)) ah))) (Ks (nA (MW hu) (pv 3) (pv 4))))))
  bX)
  (aw (bS (PW.pt (jl (gT (fK (br MT (by rfl) B.pU pF (ab (pv 0) (ab (kT vO (by rfl)) ah))))) (jl (fK (br ua (by rfl) B.pU pF (ab (cH (pv 0) rfl) (ab (tK (v := .ty "bool") (by rfl) B.Zq Wn rfl) ah)))) (jN (gT (fK (br ua (by rfl) B.pU pF (ab (cH (pv 0) rfl) (ab (tK (v := .ty "int") (by rfl) B.NK LZ rfl) ah)))))))))
  (az (aW gh))
  bX)
  (aw (bS (PW.pt (jl (gT (wO qU kK aJ (cH (pv 0) rfl) (br dg (by rfl) B.b7 b0 (ab (pv 2) ah)))) (jN (gT (fK (br ua (by rfl) B.pU pF (ab (cH (pv 0) rfl) (ab (tK (v := .ty "list") (by rfl) B.pT pG rfl) ah))))))))
  (az (aW gh))
  bX)
  (aw (bS (cg (LW hu) (br EA (by rfl) B.xQ xk (ab (i3 (js:=[]) (ns:=[]) (dn (cH (pv 0) rfl)) rfl rfl rfl rfl (λ_ _ _ _=>ju) (λ_ _ _ _=>(AV (K:=K) (rr:=wW) rfl cM (pv 0) aJ))) ah)) (aY vE hr (ab (pv 1) (ab (pv 2) (ab (pv 3) (ab (cH (pv 0) rfl) ah))))))
  (az (aW gh))
  bX)
  (aw (cF (dn (cH (pv 0) rfl)) (jn rfl (dG (bK 5 CV.nd) (dG (bK 6 CV.nd) jm)))
  (az (bS (gT (fK (aY IT hr (ab (pv 6) (ab (pv 1) (ab (pv 2) (ab (aY lJ hr (ab (pv 3) (ab (bf eQ (pv 2) (cH (pv 0) rfl)) (ab (pv 5) ah)))) (ab (pv 4) ah))))))))
   (az (aW gh))
   bX)))
  (az (aW gh))))))),?_⟩
 try dsimp only[bC]
 have k3:kitOne K (.type "int") (.type "bool")=some false:=by kernel_rfl
 have k4:kitOne K (.type "int") (.type "int")=some true:=by kernel_rfl
 have k5:kitOne K (.type "list") (.type "list")=some true:=by kernel_rfl
 have RF:∀C:Addr,kitOne K (.ref C) (.ref C)=some true:=λC=>by unfold kitOne;rw[aA (by simp)]
 rcases hC with ⟨p,dx,rfl,hp,mV,hmt⟩ | ⟨p,dx,qa,pl,xs,vs,rfl,hp,_,fO,bj,yO,d7,iO⟩
 .refine⟨_,rfl,_,CW,_,true,⟨rfl,IW.ty hp,RF CW⟩,_,rfl,bt ?_⟩
  have S:=FM.sh
  refine⟨rfl,_,rfl,a,_,rfl,.inr (ax.of hT),λlp gI=>⟨_,lp,m,rfl,rfl,.inl (ak.of au),?_,_,_,rfl,rfl,_,rfl,?_⟩⟩
  .rw[IP S.len,pY]
   have h9:=S.nine
   have w9:=S.w9
   have:m.length*wd<=9*9:=wk h9 w9
   show _+_*0<=_
   lia
  .have ef:(!(Builtin.Str.occurrences (Str.join (Str.ofString "") m) (Str.ofString ".") 0 (Str.join (Str.ofString "") m).length 1).isEmpty)=fU m:=by
    rw[<-Ry,rX,pY]
    exact zU _ 46
   rw[ef,mV]
   have s1:af H (upd H lp (.lst (m.map V.str))):=af.upd gI
   refine bt ⟨_,rfl,_,rfl,fo,_,vM told,.tup (m.map D.str),rfl,ak.of (s1 _ _ dk),RD K _ (hF.keep λb o _ _ e=>s1 _ _ e),⟨a,_,rfl,ax.of (s1 _ _ hT),zc K _ _⟩,RE _,?_⟩
   have e1:((vM told).any λd=>dH d (.tup (m.map D.str)))=true:=tm.mpr ⟨D.tup (m.map D.str),bM.mpr ⟨m,hmt,rfl⟩,xj _⟩
   rw[av bZ,e1]
   exact q _ s1
 .refine⟨_,rfl,_,CW,_,false,⟨rfl,IC.ty hp,vP⟩,_,rfl,aR ?_⟩
  refine⟨_,rfl,_,CC,_,true,⟨rfl,IC.ty hp,RF CC⟩,_,rfl,aR ?_⟩
  refine⟨_,rfl,p,CC,dx,_,_,rfl,hp,T,np,yL ..,_,_,_,false,⟨rfl,.int _,k3⟩,_,rfl,aR ?_⟩
  refine⟨_,rfl,p,CC,dx,_,_,rfl,hp,T,np,yL ..,_,_,_,true,⟨rfl,.int _,k4⟩,_,rfl,aR ?_⟩
  have sI:=dy hR
  rw[dI] at hR
  refine hide λG_ bc=>?_
  obtain⟨zv,yZ⟩:∃zv,zs[pl]? = some zv:=⟨_,aS (by lia)⟩
  obtain⟨r0,hr0,y0,j9,rfl,_,IM,hc0⟩:=Paired.get hR yZ
  refine bc.k ?_
  have y9:ai R pl=r0:=bE hr0
  have yn:=dy iO
  refine⟨_,rfl,p,CC,dx,_,_,rfl,hp,T,np,yL ..,?_⟩
  refine⟨_,_,rfl,rfl,_,rfl,?_⟩
  rw[aI (by lia)]
  refine bt ⟨_,rfl,g,_,rfl,.inl (ak.of hG),_,_,rfl,rfl,_,rfl,?_⟩
  rw[aI (by lia)]
  refine aR ⟨_,rfl,p,CC,dx,_,_,rfl,hp,T,nq,HJ ..,_,_,_,true,⟨rfl,.lst fO,k5⟩,_,rfl,aR ?_⟩
  refine⟨_,rfl,p,CC,dx,_,_,rfl,hp,T,nq,HJ ..,qa,rfl,⟨_,ak.of fO⟩,?_⟩
  refine comp_map jv (by lia) (λ_ i y _=>y = .str (xs.getD i ⟨#[]⟩)) (λH3 s3=>ak.of (s3 _ _ fO)) (λ_ _ _ _ _ _ _ _ h=>h) ?_ ?_
  .intro D i y H3 Z hD hy s3 _ k1
   refine hide λG_ bT=>?_
   obtain⟨x,hx,t,u,rfl,ht,_⟩:=Paired.get iO hy
   refine bT.k ?_
   exact⟨_,rfl,t,_,0,.str x,rfl,rfl,ax.of (s3 _ _ ht),rfl,k1 _ _ (af.cI _) (by rw[bE hx])⟩
  .intro Dq ys H2 hD bw s2 pr
   have e:=mN pr
   rw[<-yn,lb (λx=>V.str x)] at e
   rw[e] at bw
   clear e pr
   refine⟨Dq,xs,rfl,ak.of bw,d7,λso hso=>?_⟩
   have s3:af H (upd H2 so (.lst ((cn xs).map V.str))):=s2.trans (af.upd hso)
   have RG:upd H2 so (.lst ((cn xs).map V.str)) so=some (.lst ((cn xs).map V.str)):=au
   generalize upd H2 so (.lst ((cn xs).map V.str))=H3 at s3 RG
   refine⟨_,rfl,_,rfl,_,rfl,_,rfl,p,CC,dx,_,_,rfl,s3 _ _ hp,T,np,yL ..,?_⟩
   refine⟨ww,g,a,ws,m,wd,pl,zs,rfl,s3 _ _ hW,da,fZ,ax.of (s3 _ _ hT),FM.sh,s3 _ _ hG,by rw[FM.eq];exact dI.mono s3 hR,by rw[FM.eq];exact bj,λt H4 ht s4 yT=>?_⟩
   rw[FM.eq] at yT
   have oE:=s3.trans s4
   refine⟨.lst ((cn xs).map D.str),.lst ((c6 m R pl ws).map D.str),⟨so,_,rfl,ak.of (s4 _ _ RG),zc _ _ _⟩,⟨t,_,rfl,ak.of yT,zc _ _ _⟩,.inr ⟨_,_,rfl,rfl⟩,by rw[dep,IS];decide,_,rfl,?_⟩
   rw[yO,xj]
   refine aR ⟨_,rfl,p,CC,dx,_,_,rfl,oE _ _ hp,T,nq,HJ ..,qa,rfl,⟨_,ak.of (oE _ _ fO)⟩,?_⟩
   refine iW (K:=K) (xs:=vs) (λi O H5=>∃(v5 v6:Option V),O=[some (.ref p),some (.ref ww),some (.ref g),some (.ref a),some (.ref fo),v5,v6]/\af H H5) ⟨none,none,rfl,oE⟩ ?_ ?_ ?_
   .rintro i O H5 _ ⟨v5,v6,rfl,s5⟩
    exact ak.of (s5 _ _ fO)
   .intro i y O H5 hy aeI
    refine hide λG_ cN=>?_
    obtain⟨v5,v6,rfl,s5⟩:=aeI
    obtain⟨x,hx,t,u,rfl,ht,cV,eG⟩:=Paired.get iO hy
    refine cN.k ?_
    have fA:x∈ws:=by
     have h1:x∈cn xs:=(gH xs).mem_iff.mpr (bh hx)
     rw[yO] at h1
     unfold c6 at h1
     have h2:=(gH _).mem_iff.mp (b8.mp h1).1
     exact(b8.mp h2).1
    have lE:=yM (fZ x fA)
    have aeJ:x.length=(ai R pl).length:=by rw[(fV.mp cV).1,dJ]
    refine⟨t,_,rfl,ax.of (s5 _ _ ht),rfl,_,_,rfl,_,_,rfl,rfl,?_⟩
    refine⟨_,rfl,_,rfl,_,rfl,_,rfl,_,rfl,_,rfl,p,CC,dx,_,_,rfl,s5 _ _ hp,T,np,yL ..,g,_,_,.ref y0,rfl,rfl,ak.of (s5 _ _ hG),de yZ,_,rfl,?_⟩
    refine⟨a,y0,m,wd,r0,j9,x,rfl,s5 _ _ hT,FM.sh.dC,s5 _ _ IM,hc0.mono s5,by rw[<-y9];exact FM.iK pl,λa2 H6 s6 rL=>?_⟩
    rw[<-y9] at rL
    have gb:=s5.trans s6
    refine⟨_,rfl,ww,g,a2,fo,u,ws,putL m (ai R pl) x.cps.toList,wd,R,zs,ts,told,rfl,⟨eG.mono (Kp.of gb) (λ_ _ _ _=>trivial) (λ_ z=>z),gb _ _ hW,da,fZ,rL,FM.put pl lE aeJ,gb _ _ hG,dI.mono gb hR,gb _ _ dk,hF.keep (λb o _ _ e=>gb _ _ e),aeH⟩,λH7 s7=>⟨_,rfl,aR ⟨_,_,rfl,gb.trans s7⟩⟩⟩
   .rintro O H5 ⟨v5,v6,rfl,s5⟩
    exact q H5 s5
theorem RH{CW CC:Addr}(B:Bl mg)(F:ba K "_law_walked" "_law_walked" (top 68) f fd)(hm:mg "_law_walked"=some (.ref f))(hk:keepIn K (.ref f)=true)(hb:Binds K fd ["_law_paper","_law_words","_law_rows_here","_law_sheet","_law_told"] [])(vN:Cn mg "Whole" (.ref CW))(vO:Cn mg "Cases" (.ref CC))(IW:pO K CW)(IC:pO K CC)(vP:kitOne K (.ref CC) (.ref CW)=some false)(T:cG K CC)(np:bN K CC "place")(nq:bN K CC "parts")(vE:Fn P w K mg base "_law_left" 2 (BL K))(lJ:Fn P w K mg base "_law_put" 2 (uJ K)) :
  ∀n:Nat,aO P w K mg base aQ (n+3) f fd ["_law_paper","_law_words","_law_rows_here","_law_sheet","_law_told"] (CU K CW CC n)
 |0=>F.ok CV (λvs H Q E h=>by obtain⟨ww,g,a,fo,v,ws,m,w,R,zs,ts,told,rfl,hC,_⟩:=h;exact hC.e1.elim) (λaF A outer s H vs Q E hr h=>by obtain⟨ww,g,a,fo,v,ws,m,w,R,zs,ts,told,rfl,hC,_⟩:=h;exact hC.e1.elim)
 |n+1=>aeG n B F vN vO IW IC vP T np nq ⟨f,fd,_,RH B F hm hk hb vN vO IW IC vP T np nq vE lJ n,hm,hk,hb⟩ vE lJ
end
theorem RI{Z:Addr->Prop}{H:Hp}{CW CC:Addr}{R:List (List C2)}{ks:List Str}{told:List (List Str)}{w:Nat}(hw:∀x∈ks,cB x=true):∀{n:Nat}{v:V}{m:List Str},mU Z H CW CC R ks told n v m->cj m w R->∀s,cD s m w->eN ks s w=true->s∈told
 |0,_,_,h,_,_,_,_=>h.elim
 |n+1,v,m,h,F,s,A,hf=>by
  rcases h with ⟨p,dx,e,h1,h2,h3⟩ | ⟨p,dx,q,pl,xs,vs,e,h1,hq,h2,bj,h4,h5,h6⟩
  .rw[A.same F.sh h2];exact h3
  .have hx:=A.left F hw hf bj
   rw[<-h4] at hx
   have hx:=(gH xs).mem_iff.mp hx
   obtain⟨i,hi⟩:=dR hx
   obtain⟨y,hy,t,u,e1,e2,e3,e4⟩:=Paired.getL h6 hi
   have hl:i9 (ar s (ai R pl)):=yM (hw _ (Rg (A.left F hw hf bj)).1)
   exact RI hw e4 (F.put pl hl (dJ _ _)) s (A.put F pl hl) hf
noncomputable def jD(c:C2):D := .tup [.int c.1,.int c.2]
theorem RJ{K:Frag}{H:Hp}:∀{cs:List C2}{xs:List V},bz H cs xs->dh K H (cs.map jD) xs
 |_,_,.nil=>rfl
 |_,_,.cons ⟨a,e,h⟩ t=>⟨_,_,rfl,⟨a,_,e,ax.of h,_,_,rfl,rfl,_,_,rfl,rfl,rfl⟩,RJ t⟩
theorem RK:∀cs:List C2,dO (cs.map jD)<=1
 |[]=>bA _
 |c::r=>by
  have h:=RK r
  rw[bQ,dO]
  have e:dep (jD c)=1:=by simp[jD,dep,dO]
  rw[e]
  lia
theorem aeK(cs:List C2)(c:C2):((cs.map jD).any λd=>dH d (jD c))=decide (c∈cs):=by
 have e:∀d:C2,dH (jD d) (jD c)=decide (d=c):=λd=>by
  rw[sY,zP]
  obtain⟨a,b⟩:=c
  obtain⟨x,y⟩:=d
  simp[jD,dH,gZ]
  lia
 rw[Dx,sY,tm,zP]
 constructor
 .rintro⟨d,md,h⟩
  have h:dH (jD d) (jD c)=true:=h
  rw[e] at h
  rw[<-fF h]
  exact md
 .exact λm=>⟨c,m,(e c).trans (aI rfl)⟩
theorem aeL(l:List α)(d:α):(List.range l.length).map (λi=>l.getD i d)=l:=lb (λx=>x) d l |>.trans (List.map_id _)
theorem aeM(h:qx H rs zs)(q:List C2->Bool)(P:Paired (λi y=>y=zs.getD i V.aB) ((List.range zs.length).filter λi=>q (rs.getD i [])) ys):qx H (rs.filter q) ys:=by
 have hl:=dy h
 have e1:rs.filter q=((List.range zs.length).filter λi=>q (rs.getD i [])).map λi=>rs.getD i []:=by
  rw[<-hl]
  conv=>lhs;rw[<-aeL rs []]
  rw[tw]
  rfl
 have key:∀(l:List Nat),(∀i∈l,i<zs.length)->∀ys,Paired (λi y=>y=zs.getD i V.aB) l ys->qx H (l.map λi=>rs.getD i []) ys:=by
  intro l
  induction l with
  |nil=>intro _ ys p;cases p;exact .nil
  |cons i r ih=>
   intro hi ys p
   cases p with
   |cons e p=>
    have aM:=hi i bG
    obtain⟨z,hz⟩:∃z,zs[i]? = some z:=⟨_,aS aM⟩
    obtain⟨x,hx,e3⟩:=Paired.get h hz
    rw[bQ,bE hx]
    rw[bE hz] at e
    rw[e]
    exact .cons e3 (ih (λj m=>hi j (bU _ m)) _ p)
 rw[e1]
 exact key _ (λi m=>dP.mp (b8.mp m).1) ys P
theorem RL(c:C2):∀R:List (List C2),(R.filter λr=>decide (c∈r)).length<=(R.map λr=>r.count c).sum
 |[]=>bA _
 |r::R=>by
  have ih:=RL c R
  rw[dF,bQ,fH]
  by_cases h:c∈r
  .rw[aA (aI h),cQ]
   have:=List.count_pos_iff.mpr h
   lia
  .rw[av (by rw[aK h];exact bZ)]
   lia
theorem d9.setC(σ:d9 m l w)(S:aV l w)(h1:c.1<m.length)(h2:c.2<w)(ho:bW m c=true)(hc:ch≠35):d9 m (setC l c ch) w:=by
 refine⟨(dB _ _ _).trans σ.ln,λd d1 d2=>?_⟩
 rw[<-σ.op d d1 d2]
 have l1:=σ.ln
 have e:=S.dC.lg (ch:=ch) (c:=c) (d:=d) (by lia) h2 (by lia) d2
 unfold bW
 rw[e]
 by_cases z:d=c
 .rw[aA z,aK hc,z]
  have:=(σ.op c h1 h2).trans ho
  unfold bW at this
  exact this.symm
 .rw[av z]
theorem aeN(σ:d9 m l w)(S:aV l w)(hr:r∈aC m w)(Sm:aV m w){xs:List Nat}(hx:∀x∈xs,x=46)(hl:xs.length=r.length):d9 m (putL l r xs) w/\aV (putL l r xs) w:=by
 have bb:∀c∈r,c.1<l.length/\c.2<w:=λc mc=>by
  have:=(fT Sm hr).2.2 c mc
  rw[σ.ln]
  exact⟨this.1,this.2.1⟩
 refine⟨⟨(mQ _ _ _).trans σ.ln,λd d1 d2=>?_⟩,GJ S _ _ bb λx mx=>.inr (.inl (hx x mx))⟩
 by_cases md:d∈r
 .obtain⟨k,hk⟩:=dR md
  have Gr:=(bP.mp hk).1
  have e:xs[k]? = some (xs[k]'(by lia)):=aS _
  have:=sG S.dC r xs bb (QP hr) hk e
  rw[((fT Sm hr).2.2 d md).2.2]
  unfold bW
  rw[this,hx _ (bh e)]
  rfl
 .rw[<-σ.op d d1 d2]
  unfold bW
  rw[qd S.dC r xs bb (by rw[σ.ln];exact d1) d2 md]
theorem RM(xs:List V)(a b:Nat):(gV xs (some (a:Int)) (some (b:Int))).length<=b - a:=by
 unfold gV
 rw[HT.Au,HT.Au,fC,zw]
 lia
section
variable{w:World}
structure DrP(m:List Str)(w:Nat)(ws g:List Str):Prop where
 nd:ws.Nodup
 wd:∀x∈ws,cB x=true
 fq:ws.length<64
 one:d9 m g w
 sh:aV g w
def RN(K:Frag):Sp:=λvs H Q _=>∃(a b g:Addr) (ns:List Int) (m:List Str) (w:Nat) (zs:List V),vs=[.ref a,.ref b,.ref g]/\ak K H a (ns.map V.int)/\H b=some (.tup (m.map V.str))/\aV m w/\ka m w/\yf m w/\H g=some (.lst zs)/\dI g H (aC m w) zs/\aC m w≠[]/\(aC m w).length<=26/\
 ∀t wl sh ws l H',af H H'->H' t=some (.tup [.ref wl,.ref sh])->H' wl=some (.lst (ws.map V.str))->H' sh=some (.tup (l.map V.str))->DrP m w ws l->Q (.ref t) H'
theorem lK:bp ["_law_script","_law_filled_here","_law_rows_here","_law_words","_law_sheet","_law_cell","_law_cells","_law_free","_law_other"] ["_law_script","_law_filled_here","_law_rows_here"] (aU (top 72)):={}
theorem aeO(B:Bl mg)(F:ba K "_law_drawn" "_law_drawn" (top 72) f fd)(zd:Fn P w K mg base "_law_cell_at" 1 (FJ K))(RO:Fn P w K mg base "_law_more" 2 (Rq K))(sj:Fn P w K mg base "_law_with" 1 (uD K))(yX:Fn P w K mg base "_law_letter" 1 (BI K))(lJ:Fn P w K mg base "_law_put" 2 (uJ K))(RP:Fn P w K mg base "_law_word" 2 (Rr K)):aO P w K mg base aQ 3 f fd ["_law_script","_law_filled_here","_law_rows_here"] (RN K):=by
 refine F.bH lK λaF A outer s H vs Q E hr h=>?_
 refine hide λG_ aG=>?_
 obtain⟨a,b,g,ns,m,wd,zs,rfl,hS,hT,S,T2,L,hG,hR,cJ,IU,q⟩:=h
 refine aG.k ?_
 have hu:=hr.units
 have dr:=jU hr
 refine⟨_,(aw (aL 3 lK.nd (aY RO hr (ab (dN ah) (ab (pv 1) (ab (pv 2) ah)))))
  (aw (aL 4 lK.nd (pv 1))
  (aw (cF (dn (l3 Aw (pv 0) (jS aJ) (jS aJ))) (bK 5 lK.nd)
  (aw (aL 6 lK.nd (bf eQ (pv 2) (aT gy (pv 5) (br dg (by rfl) B.b7 b0 (ab (pv 2) ah)))))
   (aw (aL 7 lK.nd (bf eQ (pv 6) (aT gy (aT lV (pv 5) aJ) (br dg (by rfl) B.b7 b0 (ab (pv 6) ah)))))
   (aw (aL 8 lK.nd (aY sj hr (ab (pv 1) (ab (pv 7) (ab (aY yX hr (ab (aT lV (pv 5) aJ) ah)) ah)))))
   (aw (aL 3 lK.nd (aY RO hr (ab (pv 3) (ab (pv 8) (ab (i3 (js:=[7]) (ns:=["_law_free"]) (dn (pv 2)) rfl rfl rfl rfl (λ_ _ _ _=>(nK (Ey (K:=K) (rr:=λK=>MV K false) rfl (MW (by exact hu)) (pv 1) (pv 0)))) (λ_ _ _ _=>(pv 0))) ah)))))
   (az (aL 4 lK.nd (aY sj hr (ab (pv 4) (ab (pv 7) (ab dM ah)))))))))))
  (aw (AQ (bS (cg lW (aT gy (aY zd hr (ab (pv 0) (ab aJ ah))) aJ) aJ)
  (az (aL 4 lK.nd (aY lJ hr (ab (pv 4) (ab (bf eQ (pv 2) aJ) (ab (aT Mo dM (br dg (by rfl) B.b7 b0 (ab (bf eQ (pv 2) aJ) ah))) ah))))))
  bX))
  (aw (cF (dn (l3 Aw (pv 0) (jS aJ) (jS aJ))) (bK 5 lK.nd)
  (az (bS (cg w6 (aY RP hr (ab (pv 5) ah)) (pv 3))
   (az (eZ (fm jj jF jG iA (pv 3) (ab (aY RP hr (ab (pv 5) ah)) ah))))
   bX)))
  (az (aW (gC (ab (pv 3) (ab (pv 4) ah)))))))))),?_⟩
 try dsimp only[bC]
 have bb:∀r∈aC m wd,r.length<=9/\∀c∈r,c.1<m.length/\c.2<wd:=λr mr=>⟨(fT S mr).2.1,λc mc=>⟨((fT S mr).2.2 c mc).1,((fT S mr).2.2 c mc).2.1⟩⟩
 have sI:=dy hR
 have ze:qx H (aC m wd) zs:=Paired.bJ hR λ_ _ q=>let ⟨p,ys,e,_,a,b⟩:=q;⟨p,ys,e,a,b⟩
 have za:0<zs.length:=by
  have:(aC m wd).length≠0:=λz=>cJ (List.length_eq_zero_iff.mp z)
  lia
 have jC:∀{l:List Str},yf l wd->aV l wd->d9 m l wd->∀r∈aC m wd,cB (ar l r)=true:=λL' S' σ r mr=>aa9 S' L' (by rw[σ.aC];exact mr)
 refine⟨bA _,λe0 nP=>?_⟩
 have t0:=af.upd (o:=HO.lst []) nP
 refine⟨_,rfl,_,rfl,e0,g,b,[],m,wd,aC m wd,zs,rfl,au,by show 0+_<=_;lia,t0 _ _ hT,S,t0 _ _ hG,ze.mono t0,bb,λt ws H2 s2 ht hw M=>?_⟩
 have lG:=t0.trans s2
 have RQ:H t=none:=by
  rcases ht with z | z
  .rw[z];exact nP
  .exact t0.free z
 have RS:∀x∈ws,cB x=true:=λx mx=>by
  rcases M.mem x mx with z | ⟨r,mr,rfl⟩
  .cases z
  .exact jC L S ⟨rfl,λ_ _ _=>rfl⟩ r mr
 have RT:ws.Nodup:=M.nd jh
 have RU:ws.length<=26:=by have:=M.len;simp at this;lia
 clear t0 s2 ht M nP
 refine⟨_,rfl,?_⟩
 refine⟨_,rfl,_,rfl,_,rfl,a,_,rfl,lG.seq hS,λsl g9=>⟨sl,rfl,⟨_,ak.of au⟩,?_⟩⟩
 have hc0:=OM ns (some 3) (some 7)
 have eG:=RM (ns.map V.int) 3 7
 revert hc0 eG
 show _->(gV (ns.map V.int) (some 3) (some 7)).length<=_->_
 generalize gV (ns.map V.int) (some 3) (some 7)=cs
 intro hc0 eG
 have ss:=af.upd (o:=HO.lst cs) g9
 have qy:=uK ss
 have CY:=ss _ _ hw
 have d8:=lG.trans ss
 revert qy CY d8
 clear ss
 generalize upd H2 sl (.lst cs)=H3
 intro qy CY d8
 refine iW (K:=K) (xs:=cs) (λi O H4=>∃(wl sh:Addr) (v5 v6 v7 v8:Option V) (ws l:List Str),O=[some (.ref a),some (.ref b),some (.ref g),some (.ref wl),some (.ref sh),v5,v6,v7,v8]/\af H H4/\H4 sl=some (.lst cs)/\H wl=none/\H4 wl=some (.lst (ws.map V.str))/\H4 sh=some (.tup (l.map V.str))/\ws.Nodup/\(∀x∈ws,cB x=true)/\ws.length<=26+2*i/\d9 m l wd/\aV l wd)
  ⟨t,b,none,none,none,none,ws,m,rfl,d8,qy,RQ,CY,d8 _ _ hT,RT,RS,RU,⟨rfl,λ_ _ _=>rfl⟩,S⟩ (λi O H4 _ ⟨_,_,_,_,_,_,_,_,_,_,h,_⟩=>ak.of h) ?_ ?_
 .intro i y O H4 hy aeP
  refine hide λG_ bc=>?_
  obtain⟨wl,sh,v5,v6,v7,v8,ws,l,rfl,s4,IV,nH,CZ,eS,nd,qz,hlen,σ,Sl⟩:=aeP
  obtain⟨z,rfl⟩:=hc0 y (bh hy)
  have hi:=(bP.mp hy).1
  have IX:(0:Int)<(zs.length:Int):=by lia
  have z2:=lP z (Int.ne_of_gt IX)
  have z3:=lQ z IX
  obtain⟨k,hk⟩:=nh z2
  obtain⟨u,zf⟩:∃u,zs[k]? = some u:=⟨_,aS (by lia)⟩
  obtain⟨r0,hr0,pr,j9,rfl,iO,gJ⟩:=Paired.get ze zf
  have vQ:=bh hr0
  have RV:=dy gJ
  have h2r:=(fT S vQ).1
  have IY:(0:Int)<(j9.length:Int):=by lia
  have y2:=lP (z / 18) (Int.ne_of_gt IY)
  have y3:=lQ (z / 18) IY
  obtain⟨j,hj⟩:=nh y2
  obtain⟨u2,ym⟩:∃u,j9[j]? = some u:=⟨_,aS (by lia)⟩
  obtain⟨c0,aeQ,fc,rfl,IZ⟩:=Paired.get gJ ym
  refine bc.k ?_
  have mc0:=bh aeQ
  have hb:=(fT S vQ).2.2 c0 mc0
  refine⟨_,rfl,_,rfl,_,rfl,g,_,rfl,.inl (ak.of (s4 _ _ hG)),_,_,rfl,rfl,IX,g,zs,_,.ref pr,rfl,rfl,ak.of (s4 _ _ hG),by rw[hk];exact de zf,?_⟩
  refine⟨_,rfl,_,rfl,_,_,rfl,rfl,⟨by decide,by decide⟩,_,rfl,pr,_,rfl,.inl (ak.of (s4 _ _ iO)),_,_,rfl,rfl,IY,pr,j9,_,.ref fc,rfl,rfl,ak.of (s4 _ _ iO),by rw[hj];exact de ym,?_⟩
  refine⟨_,rfl,_,rfl,_,rfl,_,_,rfl,rfl,⟨by decide,by decide⟩,_,rfl,?_⟩
  have sr:=(BH (z / 162)).2
  dsimp only
  generalize 97+(z / 162 % 26).toNat=ch at sr ⊢
  refine⟨b,fc,m,wd,c0,ch,rfl,ax.of (s4 _ _ hT),S.dC,ax.of (s4 _ _ IZ),hb.1,hb.2.1,λot H5 _ s5 I0=>?_⟩
  have σ1:d9 m (setC m c0 ch) wd:=d9.setC ⟨rfl,λ_ _ _=>rfl⟩ S hb.1 hb.2.1 hb.2.2 (by lia)
  have S1:aV (setC m c0 ch) wd:=Bn S hb.1 hb.2.1 (.inr (.inr sr))
  have L1:yf (setC m c0 ch) wd:=λd d1 d2 ho=>by
   rw[dB] at d1
   have e:=S.dC.lg (ch:=ch) hb.1 hb.2.1 d1 d2
   rw[σ1.op d d1 d2] at ho
   rw[e]
   by_cases z:d=c0
   .rw[aA z];exact sr
   .rw[av z];exact L d d1 d2 ho
  have I8:∀r∈(aC m wd).filter λr=>decide (c0∈r),r.length<=9/\∀c∈r,c.1<(setC m c0 ch).length/\c.2<wd:=λr mr=>by
   rw[dB]
   exact bb r (b8.mp mr).1
  have I9:∀r∈(aC m wd).filter λr=>decide (c0∈r),cB (ar (setC m c0 ch) r)=true:=λr mr=>jC L1 S1 σ1 r (b8.mp mr).1
  have yH:((aC m wd).filter λr=>decide (c0∈r)).length<=2:=by
   refine bL (RL c0 _) ?_
   rw[<-QO,Il,T2 c0 (by rw[nX hb.1 hb.2.1];exact hb.2.2)]
   exact aN _
  have C1:=s4.trans s5
  revert I0 S1 I8 I9
  generalize setC m c0 ch=ms
  intro I0 S1 I8 I9
  refine⟨_,rfl,_,rfl,_,rfl,g,rfl,⟨_,ak.of (C1 _ _ hG)⟩,?_⟩
  refine l7 jv (by lia) (λi=>decide (c0∈(aC m wd).getD i [])) (λ_ i y _=>y=zs.getD i V.aB) (λH2 s2=>ak.of ((C1.trans s2) _ _ hG)) (λ_ _ _ _ _ _ _ _ h=>h) ?_ ?_
  .intro D i' y H6 Z0 Z hD hy s6 _ k0 k1
   refine hide λG_ bT=>?_
   obtain⟨r,eW,p,ys,rfl,hp,hc⟩:=Paired.get ze hy
   refine bT.k ?_
   have gb:=C1.trans s6
   refine⟨_,rfl,_,rfl,p,ys,r.map jD,jD c0,rfl,ak.of (gb _ _ hp),RJ (Paired.bJ hc λ_ _ e=>e.mono gb),⟨fc,_,rfl,ax.of (gb _ _ IZ),_,_,rfl,rfl,_,_,rfl,rfl,rfl⟩,bL (RK r) (by decide),_,rfl,?_⟩
   rw[av bZ,aeK]
   have er:decide (c0∈(aC m wd).getD i' [])=decide (c0∈r):=by rw[bE eW]
   refine gY (λh=>?_) (λh=>?_)
   .exact⟨_,rfl,k1 _ _ (af.cI _) (er.trans h) (by rw[bE hy])⟩
   .exact k0 _ (af.cI _) (er.trans (gS.mpr h))
  .intro D ys H6 hD bw s6 n9
   have gb:=C1.trans s6
   have hRf:=aeM (ze.mono gb) (λr=>decide (c0∈r)) n9
   refine⟨wl,D,ot,ws,ms,wd,_,ys,rfl,s6 _ _ (s5 _ _ CZ),by lia,s6 _ _ I0,S1,bw,hRf,I8,λt' fX H7 s7 A7 oG M=>?_⟩
   have RW:=gb.trans s7
   refine⟨_,rfl,_,rfl,sh,fc,l,wd,c0,46,by rw[<-rX];rfl,ax.of (s7 _ _ (s6 _ _ (s5 _ _ eS))),Sl.dC,ax.of (RW _ _ IZ),by rw[σ.ln];exact hb.1,hb.2.1,λsh' H8 _ s8 aeR=>?_⟩
   have Ml:=M.len
   refine⟨t',sh',_,_,_,_,fX,setC l c0 46,rfl,RW.trans s8,s8 _ _ (s7 _ _ (s6 _ _ (s5 _ _ IV))),?_,s8 _ _ oG,aeR,M.nd nd,λx mx=>?_,by lia,σ.setC Sl hb.1 hb.2.1 hb.2.2 (by decide),Bn Sl (by rw[σ.ln];exact hb.1) hb.2.1 (.inr (.inl rfl))⟩
   .rcases A7 with z | z
    .rw[z];exact nH
    .exact gb.free z
   .rcases M.mem x mx with z | ⟨r,mr,rfl⟩
    .exact qz x z
    .exact I9 r mr
 .intro O H4 aeS
  refine hide λG_ cN=>?_
  obtain⟨wl,sh,v5,v6,v7,v8,ws,l,rfl,s4,IV,nH,CZ,eS,nd,qz,hlen,σ,Sl⟩:=aeS
  refine cN.k ?_
  have aeT:ws.length<=34:=by lia
  clear IV hlen qy CY d8 eG hc0 g9 hw lG RQ RS RT RU
  refine⟨λO H5=>∃(sh:Addr) (l:List Str),O=[some (.ref a),some (.ref b),some (.ref g),some (.ref wl),some (.ref sh),v5,v6,v7,v8]/\af H H5/\H5 wl=some (.lst (ws.map V.str))/\H5 sh=some (.tup (l.map V.str))/\d9 m l wd/\aV l wd,?_,?_⟩
  .intro O H5 aeU
   refine hide λG_ fR=>?_
   obtain⟨sh,l,rfl,s5,Ja,aeV,σ5,S5⟩:=aeU
   refine fR.k ?_
   refine⟨_,rfl,_,rfl,_,rfl,a,_,rfl,s5.seq hS,λsl g9=>⟨sl,rfl,⟨_,ak.of au⟩,?_⟩⟩
   have hc0:=OM ns (some 10) (some 18)
   have eG:=RM (ns.map V.int) 10 18
   revert hc0 eG
   show _->(gV (ns.map V.int) (some 10) (some 18)).length<=_->_
   generalize gV (ns.map V.int) (some 10) (some 18)=cs
   intro hc0 eG
   have ss:=af.upd (o:=HO.lst cs) g9
   have qy:=uK ss
   have Jb:=ss _ _ Ja
   have Jc:=ss _ _ aeV
   have gb:=s5.trans ss
   have nws:wl≠sl:=λz=>by rw[z] at Ja;rw[Ja] at g9;cases g9
   revert qy Jb Jc gb
   clear ss
   generalize upd H5 sl (.lst cs)=H6
   intro qy Jb Jc gb
   refine iW (K:=K) (xs:=cs) (λi O H7=>∃(v5:Option V) (ws:List Str),O=[some (.ref a),some (.ref b),some (.ref g),some (.ref wl),some (.ref sh),v5,v6,v7,v8]/\af H H7/\H7 sl=some (.lst cs)/\H7 wl=some (.lst (ws.map V.str))/\H7 sh=some (.tup (l.map V.str))/\ws.Nodup/\(∀x∈ws,cB x=true)/\ws.length<=34+i)
    ⟨_,ws,rfl,gb,qy,Jb,Jc,nd,qz,aeT⟩ (λi O H4 _ ⟨_,_,_,_,h,_⟩=>ak.of h) ?_ ?_
   .intro i y O H7 hy aeW
    refine hide λG_ oa=>?_
    obtain⟨v5,ws,rfl,s7,Jd,oG,zg,nd,qz,hlen⟩:=aeW
    obtain⟨z,rfl⟩:=hc0 y (bh hy)
    refine oa.k ?_
    have hi:=(bP.mp hy).1
    refine⟨_,rfl,z,rfl,_,rfl,wl,_,rfl,.inl (ak.of oG),rfl,(by rw[tu];exact kr.mpr λ_ _=>rfl),_,rfl,?_⟩
    rw[aA rfl,yh]
    by_cases hm:vH z∈ws
    .rw[aI hm]
     exact aR ⟨_,ws,rfl,s7,Jd,oG,zg,nd,qz,by lia⟩
    .rw[aK hm]
     refine bt ⟨_,rfl,.inl ⟨rfl,_,ak.of oG⟩,_,rfl,z,rfl,wl,_,_,rfl,rfl,oG,jW (by rw[aq];lia),?_⟩
     refine⟨_,ws++[vH z],rfl,s7.jV nH,by rw[ao (bu nws)];exact Jd,by rw[au,dQ];rfl,by rw[ao (cy zg oG (by intro z;cases z))];exact zg,OO nd hm,λx mx=>?_,by rw[cE];show _+1<=_;lia⟩
     rcases cX.mp mx with z' | z'
     .exact qz x z'
     .rw[cb.mp z'];exact aep z
   .intro O H7 aeX
    refine hide λG_ og=>?_
    obtain⟨v5,ws,rfl,s7,Jd,oG,zg,nd,qz,hlen⟩:=aeX
    refine og.k ?_
    refine⟨_,rfl,_,rfl,(by show 2<=sizeLine;decide),λt ht=>?_⟩
    have s8:=af.upd (o:=HO.tup [.ref wl,.ref sh]) ht
    exact q t wl sh ws l _ (s7.trans s8) au (s8 _ _ oG) (s8 _ _ zg) ⟨nd,qz,by lia,σ5,S5⟩
  .refine⟨_,rfl,a,ns,7,rfl,s4.seq hS,_,_,rfl,rfl,(by show(0:Int)<4;decide),rfl,_,rfl,?_⟩
   refine gY (λ_=>?_) (λ_=>?_)
   .refine hide λG_ yq=>?_
    obtain⟨u,zf⟩:∃u,zs[0]? = some u:=⟨_,aS za⟩
    obtain⟨r0,hr0,pr,j9,rfl,iO,gJ⟩:=Paired.get ze zf
    refine yq.k ?_
    have vQ:=bh hr0
    have RV:=dy gJ
    have h9:=(bb r0 vQ).1
    have rG:iy zs 0=some (.ref pr):=show iy zs ((0:Nat):Int)=_ from de zf
    refine⟨_,rfl,_,rfl,g,zs,0,.ref pr,rfl,rfl,ak.of (s4 _ _ hG),rG,_,rfl,g,zs,0,.ref pr,rfl,rfl,ak.of (s4 _ _ hG),rG,pr,_,rfl,.inl (ak.of (s4 _ _ iO)),_,_,rfl,rfl,by lia,by lia,by decide,?_⟩
    rw[fE]
    refine⟨sh,pr,l,wd,r0,j9,_,rfl,eS,Sl.dC,s4 _ _ iO,Paired.bJ gJ λ_ _ e=>e.mono s4,λc mc=>by rw[σ.ln];exact(bb r0 vQ).2 c mc,λp' H5 s5 eI=>?_⟩
    have D2:=aeN σ Sl vQ S (xs:=(fN (Str.ofString ".") j9.length).cps.toList) (λx mx=>by rw[ye] at mx;exact Kb mx) (by rw[ye,qC];exact RV.symm)
    exact⟨p',_,rfl,s4.trans s5,s5 _ _ CZ,eI,D2.1,D2.2⟩
   .exact⟨sh,l,rfl,s4,CZ,eS,σ,Sl⟩
end
theorem aeY(h:uN kvs)(n:Int)(e:aP kvs (Sum.inr x:Key)=none):uN (putK kvs (Sum.inr x) (.int n)):=by
 rw[tV _ e]
 intro q mq
 rcases cX.mp mq with z | z
 .exact h q z
 .rw[cb.mp z]
  exact⟨n,rfl⟩
theorem Je(s:List Str):(s.map λx=>(Sum.inr x:Key)).map kV=s.map V.str:=by
 rw[jH]
 rfl
theorem kj.same{A:List (List Str)}(a:kj ks m w most (λ_=>True) A)(b:kj ks m w most (λ_=>True) B):A.length=B.length:=by
 have key:∀{A B:List (List Str)},kj ks m w most (λ_=>True) A->kj ks m w most (λ_=>True) B->A.length<most->B.length<=A.length:=λa b h=>uu b.nd λs ms=>a.all h s (b.ok s ms).1 (b.ok s ms).2.1 trivial
 have l1:=a.le
 have l2:=b.le
 rcases wu A.length most with h | h
 .have h1:=key a b h
  have h2:=key b a (by lia)
  lia
 .rcases wu B.length most with g | g
  .have h2:=key b a g
   lia
  .lia
def C3(K:Frag):Sp:=λvs H Q _=>∃(a:Addr) (ns:List Int),vs=[.ref a]/\ak K H a (ns.map V.int)/\ns.length<=63/\∀H',Q (.bl true) H'
section
variable{w:World}
theorem lL:bp ["_law_script","_law_filled_here","_law_rows_here","_law_words","_law_sheet","_law_book","_law_word_here","_law_most","_law_found","_law_paper","_law_other"] ["_law_script"] (aU (top 73)):={}
theorem aeZ(B:Bl mg)(F:ba K "law" "law" (top 73) f fd)(zd:Fn P w K mg base "_law_cell_at" 1 (FJ K))(ae0:Fn P w K mg base "_law_floor" 5 (Rj K))(ae1:Fn P w K mg base "_law_filled" 2 (Rm K))(yV:Fn P w K mg base "_law_rows" 3 (BF K))(ae2:Fn P w K mg base "_law_drawn" 3 (RN K))
  (Jf:Nw P w K mg base "Book" C 1 (Oe C)) (Jg:Mt P w K mg base C "put" 4 (BB C) [.int 0]) (ae3:Fn P w K mg base "fillings" 87 (Iy K C CW CC)) (IK:Fn P w K mg base "_law_some" 85 (CO K 82)) (ae4:Fn P w K mg base "_law_agreeing" 1 (RC K)) (ae5:Fn P w K mg base "_law_is_filling" 4 (Rz K)) (IT:Fn P w K mg base "_law_walked" 85 (CU K CW CC 82)):aO P w K mg base aQ 88 f fd ["_law_script"] (C3 K):=by
 refine F.bH lL λaF A outer s H vs Q E hr h=>?_
 refine hide λG_ aG=>?_
 obtain⟨a,ns,rfl,hS,hlen,q⟩:=h
 refine aG.k ?_
 have hu:=hr.units
 have dr:=jU hr
 have G3:(A.deeper (PyProof.Rows.envOfC "law" (aU (top 73)) s.heap.objs.size f aF)).units+4<cLine:=by have:=hr.un;lia
 refine⟨_,(aw (aL 1 lL.nd (aY ae1 hr (ab (aY ae0 hr (ab (aY zd hr (ab (pv 0) (ab aJ ah))) ah)) (ab (aY zd hr (ab (pv 0) (ab aJ ah))) ah))))
  (aw (aL 2 lL.nd (aY yV hr (ab (pv 1) ah)))
  (aw (pf (aY ae2 hr (ab (pv 0) (ab (pv 1) (ab (pv 2) ah)))) (jn rfl (dG (bK 3 lL.nd) (dG (bK 4 lL.nd) jm))))
  (aw (aL 5 lL.nd (WT Jf hr))
  (aw (cF (dn (pv 3)) (bK 6 lL.nd)
  (az (eZ (rE Jg hr (pv 5) (ab (pv 6) ah)))))
  (aw (aL 7 lL.nd (aT fh aJ (aT gy (aY zd hr (ab (pv 0) (ab aJ ah))) aJ)))
  (aw (pf (aY ae3 hr (ab (pv 5) (ab (pv 4) (ab (pv 7) ah)))) (jn rfl (dG (bK 8 lL.nd) (dG (bK 9 lL.nd) jm))))
  (aw (bS (PW.pt (jl (cg jQ (br dg (by rfl) B.b7 b0 (ab (pv 8) ah)) (br dg (by rfl) B.b7 b0 (ab (aY IK hr (ab (pv 3) (ab (pv 2) (ab (pv 4) (ab (pv 7) ah))))) ah))) (jN (cg jQ (br YS (by rfl) B.b7 b0 (ab (gE (Zd rfl G3) (by rfl) B.NL M0 (ab (pv 8) ah)) ah)) (br dg (by rfl) B.b7 b0 (ab (pv 8) ah))))))
  (az (aW gh))
  bX)
  (aw (cF (dn (pv 8)) (bK 10 lL.nd)
  (az (bS (PW.pt (jl (gT (fK (aY ae4 hr (ab (pv 10) (ab (pv 4) ah))))) (jN (gT (fK (aY ae5 hr (ab (pv 3) (ab (pv 10) ah))))))))
   (az (aW gh))
   bX)))
  (aw (bS (cg lW (br dg (by rfl) B.b7 b0 (ab (pv 8) ah)) (pv 7))
  (az (aW (nA wN (pv 9) lS)))
  bX)
  (az (aW (aY IT hr (ab (pv 9) (ab (pv 3) (ab (pv 2) (ab (pv 4) (ab (pv 8) ah)))))))))))))))))),?_⟩
 try dsimp only[bC]
 refine⟨_,rfl,a,ns,0,rfl,hS,_,rfl,λfl l wd H1 s1 vt FP T2 Sy Nf Sn=>?_⟩
 refine⟨_,rfl,a,ns,1,rfl,s1.seq hS,fl,l,wd,_,rfl,vt,FP.sh,λfi m H2 s2 sQ FM=>?_⟩
 have xH:=(s1.trans s2).seq hS
 have Om:=aen FP.sh FM
 have Jh:=Om.two T2
 have Sym:=Om.sym Sy
 have Sm:=aem FP.sh FM
 have Lm:=aeo FP.sh FM
 have RX:aC m wd≠[]:=λz=>by
  obtain⟨c,hc⟩:=Nf
  have bb:=pS hc
  obtain⟨i,k,hik⟩:=(Im FP.sh T2).all c bb.1 bb.2.1 bb.2.2
  have:=(lA hik).1
  rw[<-Om.aC,z] at this
  exact gQ _ this
 have IU:(aC m wd).length<=26:=by
  have:=adR FP.sh Sn
  rw[Om.aC]
  exact this
 refine⟨_,rfl,fi,m,wd,rfl,ax.of sQ,Sm,λrg zs H3 hrg s3 Ji hR=>?_⟩
 refine⟨_,rfl,_,rfl,_,rfl,a,fi,rg,ns,m,wd,zs,rfl,s3.seq xH,s3 _ _ sQ,Sm,Jh,Lm,Ji,hR,RX,IU,λt wl sh ws g H5 s5 ht hW C4 D=>?_⟩
 have Og:=D.one
 have RY:=Og.two Jh
 have Syg:=Og.sym Sym
 have Sg:=D.sh
 have hS5:=(s3.trans s5).seq xH
 have RZ:=s5 _ _ Ji
 have Jj:=dI.mono s5 hR
 rw[<-Og.aC] at Jj
 have dz:=D.nd
 have hw:=D.wd
 have da:=D.fq
 clear D Og Sym Jh Sm Lm RX IU Om Nf Sn Ji hR xH hS s1 s2 s3 s5 vt FP T2 Sy FM sQ hrg
 refine⟨t,_,rfl,ax.of ht,rfl,_,_,rfl,_,_,rfl,rfl,?_⟩
 intro p x6 Jk R0 R1
 refine⟨p,x6,rfl,au,λd H6 R3 B0 R4=>⟨rfl,?_⟩⟩
 have t1:af H5 (upd (upd H5 x6 (.own p)) p (.ins C x6 [])):=(af.upd R0).trans (af.upd (by rw[ao (bu R1)];exact Jk))
 have t6:af H5 H6:=λb o e=>R4 b o (t1 b o e) (bB e Jk)
 have d5:H5 d=none:=t1.free R3
 clear t1 R4 R3 R1 R0 Jk ht
 refine⟨_,rfl,wl,rfl,⟨_,ak.of (t6 _ _ hW)⟩,?_⟩
 refine iW (xs:=ws.map V.str) (λi O H7=>∃(v6:Option V) (kvs:List (Key×V)),O=[some (.ref a),some (.ref fi),some (.ref rg),some (.ref wl),some (.ref sh),some (.ref p),v6,none,none,none,none]/\iI C H7 p d kvs/\aZ kvs=ws.take i/\uN kvs/\af H5 H7)
  ⟨none,[],rfl,B0,by rw[oU];rfl,(λ_ mq=>nomatch mq),t6⟩ (λi O H7 _ ⟨_,_,_,_,_,_,h4⟩=>ak.of (h4 _ _ hW)) ?_ ?_
 .intro i y O H7 hi ae6
  refine hide λG_ bc=>?_
  obtain⟨v6,kvs,rfl,S7,qA,Jl,s7⟩:=ae6
  rw[bq] at hi
  obtain⟨x,hx,rfl⟩:=gu.mp hi
  have mx:x∈ws:=bh hx
  have MR:i<ws.length:=(bP.mp hx).1
  have iF:ws.take (i+1)=ws.take i++[x]:=by rw[eD,hx];rfl
  have hn:x∉ws.take i:=by
   have h1:(ws.take (i+1)).Nodup:=dz.sublist (vY _ _)
   rw[iF,oX] at h1
   exact λm=>h1.2.2 x m x (cb.mpr rfl) rfl
  have hv:=abj (kvs:=kvs) (x:=x) (by rw[qA];exact hn)
  have kY:kvs.length<64:=by rw[<-uM,qA,fC];lia
  obtain⟨⟨dx,h1⟩,mw,_⟩:=id S7
  refine bc.k ?_
  refine⟨_,rfl,p,dx,_,rfl,h1,uG _ (by decide +kernel),_,rfl,p,d,kvs,x,.int 0,rfl,S7,hw x mx,hv,by lia,λH8 S8 ae7=>?_⟩
  refine⟨_,_,rfl,S8,?_,aeY Jl 0 hv,λb o e=>ae7 b o (bB e d5) (s7 b o e)⟩
  rw[abi _ hv,qA,iF]
 .intro O H7 ae8
  refine hide λG_ bT=>?_
  obtain⟨v6,kvs,rfl,S7,qA,Jl,s7⟩:=ae8
  refine bT.k ?_
  rw[aq,eE (aN _)] at qA
  have kY:kvs.length<64:=by rw[<-uM,qA];exact da
  clear B0 t6
  refine⟨_,rfl,a,ns,2,rfl,s7.seq hS5,_,_,rfl,rfl,(by show(0:Int)<5;decide),_,_,rfl,rfl,?_⟩
  have z0:=lP (cellAt ns 2) (show(5:Int)≠0 by decide)
  have z1:=lQ (cellAt ns 2) (show(0:Int)<5 by decide)
  generalize cellAt ns 2 % 5=z at z0 z1
  obtain⟨mo,HM⟩:=nh (show 0<=1+z by lia)
  dsimp only
  rw[HM]
  have FL:=Im Sg RY
  refine⟨_,rfl,_,rfl,_,rfl,sh,p,d,g,wd,mo,kvs,rfl,s7 _ _ C4,Sg,RY,Syg,S7,kY,by rw[qA];exact hw,Jl,by lia,by lia,λt fo v ts new H8 s8 ht dk hF R5 sP lF=>?_⟩
  rw[qA] at sP lF
  have zh:=s7.trans s8
  have vt:=dy hF
  have UF:kj ws g wd mo (λ_=>True) new:=by
   refine⟨R5,λs ms=>⟨(sP s ms).1,(sP s ms).2,trivial⟩,?_,λh s A hf _=>?_⟩
   .rcases lF with z | z
    .lia
    .lia
   .rcases lF with z | z
    .lia
    .exact RI hw z.2.2 FL s A hf
  have hnl:=UF.le
  refine⟨t,_,rfl,ax.of ht,rfl,_,_,rfl,_,_,rfl,rfl,?_⟩
  refine⟨_,rfl,fo,_,rfl,.inl (ak.of dk),_,rfl,_,rfl,_,rfl,_,rfl,wl,rg,sh,ws,g,wd,mo,aC g wd,zs,rfl,⟨zh _ _ hW,da,hw,dz,zh _ _ C4,FL,?_,zh _ _ RZ,dI.mono zh Jj⟩,by lia,by lia,λt2 Ig agU H9 _ s9 fS lz U2=>?_⟩
  .have:=Q7 g wd
   have:g.length*wd<=9*9:=wk Sg.nine Sg.w9
   lia
  refine⟨t2,_,rfl,.inl (ak.of fS),rfl,_,rfl,?_⟩
  rw[vL,aq,aq,aI (by rw[vt,dy lz];exact UF.same U2)]
  have vR:=s9 _ _ dk
  have Jm:jd H9 ts new:=hF.keep λb o _ _ e=>s9 _ _ e
  have Jn:=zh.trans s9
  have EC:Paired (λt ks=>ax K H9 t (ks.map kV)) ts (new.map λs=>s.map λx=>(Sum.inr x:Key)):=Hl (Paired.bJ Jm λt s e=>by rw[Je];exact ax.of e)
  have cP:(new.map λs=>s.map λx=>(Sum.inr x:Key)).Nodup:=by
   refine List.Pairwise.map _ (λs t h z=>h ?_) R5
   have e:=eX (λu:List Key=>u.map kV) z
   rw[Je,Je] at e
   exact List.map_inj_right (λx y h=>by injection h) |>.mp e
  refine aR ⟨_,rfl,fo,ts,_,rfl,vR,EC,cP,by rw[aq];lia,λst cS=>⟨st,_,rfl,au,?_⟩⟩
  have tY:af H9 (upd H9 st (.ext (uv st (new.map λs=>s.map λx=>(Sum.inr x:Key)).length))):=af.upd cS
  generalize upd H9 st (.ext (uv st (new.map λs=>s.map λx=>(Sum.inr x:Key)).length))=En at tY
  refine⟨_,rfl,fo,_,rfl,.inl (ak.of (tY _ _ vR)),rfl,_,rfl,?_⟩
  rw[vL,aq,aq,aI vt.symm]
  have agV:=lF
  refine aR ⟨_,rfl,fo,rfl,⟨_,ak.of (tY _ _ vR)⟩,?_⟩
  refine iW (K:=K) (xs:=ts.map V.ref) (λi O HA=>∃(v10:Option V),O=[some (.ref a),some (.ref fi),some (.ref rg),some (.ref wl),some (.ref sh),some (.ref p),v6,some (.int (mo:Int)),some (.ref fo),some v,v10]/\af H9 HA) ⟨none,rfl,tY⟩ (λi O HA _ ⟨_,_,sA⟩=>ak.of (sA _ _ vR)) ?_ ?_
  .intro i y O HA hy ae9
   refine hide λG_ cN=>?_
   obtain⟨v10,rfl,sA⟩:=ae9
   rw[bq] at hy
   obtain⟨ti,hti,rfl⟩:=gu.mp hy
   obtain⟨sn,hsn,jz⟩:=Paired.getL Jm hti
   obtain⟨ag,fb⟩:=sP sn (bh hsn)
   refine cN.k ?_
   refine⟨_,rfl,_,rfl,ti,sh,sn,g,wd,rfl,sA _ _ jz,(Jn.trans sA) _ _ C4,Sg,ag,λHB sB=>⟨_,rfl,aR ⟨_,rfl,_,rfl,wl,ti,ws,sn,wd,rfl,(Jn.trans (sA.trans sB)) _ _ hW,ax.of ((sA.trans sB) _ _ jz),ag.sh,λHC sC=>⟨_,rfl,?_⟩⟩⟩⟩
   rw[fb]
   exact aR ⟨_,rfl,sA.trans (sB.trans sC)⟩
  .rintro O HA ⟨v10,rfl,sA⟩
   refine⟨_,rfl,fo,_,rfl,.inl (ak.of (sA _ _ vR)),_,rfl,rfl,_,rfl,?_⟩
   rw[vL,aq]
   rcases lF with ⟨rfl,hl⟩ | ⟨hv,hl,eG⟩
   .rw[aI (by lia)]
    refine bt ⟨_,rfl,rfl,?_⟩
    rw[aI rfl]
    exact q _
   .rw[aK (by lia)]
    have s9A:=s9.trans sA
    have C5:=Jn.trans sA
    exact aR ⟨_,rfl,_,rfl,_,rfl,_,rfl,_,rfl,wl,rg,sh,fo,v,ws,g,wd,aC g wd,zs,ts,new,rfl,⟨eG.mono (Kp.of s9A) (λ_ _ _ _=>trivial) (λ_ z=>z),C5 _ _ hW,da,hw,C5 _ _ C4,FL,C5 _ _ RZ,dI.mono C5 Jj,sA _ _ vR,Jm.keep (λb o _ _ e=>sA _ _ e),by lia⟩,λHC _=>q HC⟩
end
abbrev hN(K:Frag)(x:Str)(f:Addr):Prop:=nsIn K mainGlobals x=some (some (.ref f))
abbrev hZ(K:Frag)(x:Str):Prop:=nsIn K mainGlobals x=some none
abbrev hL(K:Frag)(f:Addr)(nm ql:Str)(st:Stmt)(df oc:Value)(od an:Option Addr)(kV dc pm cd ct:Value)(sl:Array (Option Value)):Prop:=K.lookup f=some ⟨oc,od,.func (fnOf nm ql (pC st) (kR st) (aU st) df kV dc pm an cd ct),sl⟩
def hD(K:Frag)(nm ql:Str)(st:Stmt)(df:Value)(f:Addr):Prop := ∃oc od an kV dc pm cd ct sl,hL K f nm ql st df oc od an kV dc pm cd ct sl/\codeIn K cd ql=true/\keepIn K (.ref f)=true
def hF(K:Frag)(nm:Str)(st:Stmt)(df:Value)(f:Addr):Prop:=hN K nm f/\hD K nm nm st df f
def hM(K:Frag)(C:Addr)(nm ql:Str)(st:Stmt)(df:Value)(f:Addr):Prop:=findIn K (.ref C) nm=some (some (.ref f))/\isFn K (.ref f)=true/\hD K nm ql st df f
def hT(K:Frag)(x:Str)(C:Addr):Prop:=hN K x C/\plainGet K C Str.empty=true/\hasDictIn K C=true/\plainOver K C=true/\findIn K (.ref C) "__setattr__"=some (some (.builtin "object.__setattr__"))/\makesIn K C=true/\keepIn K (.ref C)=true
def hV(K:Frag)(T:Addr)(n:Int):Prop := ∃od tk k sl,K.lookup T=some ⟨.type "tuple",od,.seq #[.int n tk] k,sl⟩
section
variable{K:Frag}{nm ql x:Str}{st:Stmt}{df:Value}{f C T:Addr}{n:Int}{oc:Value}{od an:Option Addr}{kV dc pm cd ct:Value}{sl:Array (Option Value)}{tk:Tok}{k:Nat}
theorem hF_mk(a:hN K nm f)(l:hL K f nm nm st df oc od an kV dc pm cd ct sl)(c:codeIn K cd nm=true)(q:keepIn K (.ref f)=true):hF K nm st df f:=⟨a,_,_,_,_,_,_,_,_,_,l,c,q⟩
theorem hM_mk(a:findIn K (.ref C) nm=some (some (.ref f)))(i:isFn K (.ref f)=true)(l:hL K f nm ql st df oc od an kV dc pm cd ct sl)(c:codeIn K cd ql=true)(q:keepIn K (.ref f)=true):hM K C nm ql st df f:=⟨a,i,_,_,_,_,_,_,_,_,_,l,c,q⟩
theorem hT_mk(a:hN K x C)(b:plainGet K C Str.empty=true)(c:hasDictIn K C=true)(d:plainOver K C=true)(e:findIn K (.ref C) "__setattr__"=some (some (.builtin "object.__setattr__")))(g:makesIn K C=true)(q:keepIn K (.ref C)=true):hT K x C:=⟨a,b,c,d,e,g,q⟩
theorem hV_mk(l:K.lookup T=some ⟨.type "tuple",od,.seq #[.int n tk] k,sl⟩):hV K T n:=⟨_,_,_,_,l⟩
theorem hT.cls(t:hT K x C):cG K C:=⟨t.2.1,t.2.2.1,t.2.2.2.1,t.2.2.2.2.1⟩
end
section
variable{P:Program}{w:World}{K:Frag}{mg:Str->Option Value}{base h:Heap}
def C6(K:Frag)(nm ql:Str)(st:Stmt)(f:Addr)(ps:List Str):Prop := ∀fd,ba K nm ql st f fd->Binds K fd ps []
theorem R6(X:K.In h)(G:h.Ns mainGlobals mg){nm:Str}{st:Stmt}{f:Addr}{ps:List Str}{k:Nat}{sp:Sp}(a:hF K nm st .none f)(ok:∀fd,ba K nm nm st f fd->mg nm=some (.ref f)->keepIn K (.ref f)=true->Binds K fd ps []->aO P w K mg base aQ k f fd ps sp)
  (hb:C6 K nm nm st f ps:=by intro _ F;exact F.binds λ_ _ _ _ _ _=>by first | exact AR λ_=>rfl | exact ud λ_ _=>rfl | exact ue λ_ _ _=>rfl | exact AS λ_ _ _ _=>rfl | exact AU λ_ _ _ _ _=>rfl):Fn P w K mg base nm k sp:=by
 obtain⟨a,_,_,_,_,_,_,_,_,_,l,c,q⟩:=a
 have F:=AH l c q
 have m:=jI X G a
 have b:=hb _ F
 exact⟨_,_,_,ok _ F m q b,m,q,b⟩
theorem Aq(X:K.In h)(G:h.Ns mainGlobals mg){nm:Str}{st:Stmt}{f:Addr}{ps:List Str}{k:Nat}{sp:Sp}(a:hF K nm st .none f)(ok:∀fd,ba K nm nm st f fd->aO P w K mg base aQ k f fd ps sp)
  (hb:C6 K nm nm st f ps:=by intro _ F;exact F.binds λ_ _ _ _ _ _=>by first | exact AR λ_=>rfl | exact ud λ_ _=>rfl | exact ue λ_ _ _=>rfl | exact AS λ_ _ _ _=>rfl | exact AU λ_ _ _ _ _=>rfl):Fn P w K mg base nm k sp:=R6 X G a (λfd F _ _ _=>ok fd F) hb
theorem afa{C:Addr}{nm ql:Str}{st:Stmt}{f:Addr}{ps:List Str}{k:Nat}{sp:Sp}(T:cG K C)(a:hM K C nm ql st .none f)(ok:∀fd,ba K nm ql st f fd->aO P w K mg base aQ k f fd ps sp)
  (hb:C6 K nm ql st f ps:=by intro _ F;exact F.binds λ_ _ _ _ _ _=>by first | exact AR λ_=>rfl | exact ud λ_ _=>rfl | exact ue λ_ _ _=>rfl | exact AS λ_ _ _ _=>rfl | exact AU λ_ _ _ _ _=>rfl):Mt P w K mg base C nm k sp []:=by
 obtain⟨a,i,_,_,_,_,_,_,_,_,_,l,c,q⟩:=a
 have F:=AH l c q
 exact⟨T,_,_,_,_,⟨a,i,q⟩,ok _ F,hb _ F,.nil⟩
theorem afb(X:K.In h)(G:h.Ns mainGlobals mg){x:Str}{C:Addr}{ql:Str}{st:Stmt}{f:Addr}{ps:List Str}{k:Nat}{sp:Sp}(t:hT K x C)(a:hM K C "__init__" ql st .none f)(ok:∀fd,ba K "__init__" ql st f fd->aO P w K mg base aQ k f fd ps sp)
  (hb:C6 K "__init__" ql st f ps:=by intro _ F;exact F.binds λ_ _ _ _ _ _=>by first | exact AR λ_=>rfl | exact ud λ_ _=>rfl | exact ue λ_ _ _=>rfl | exact AS λ_ _ _ _=>rfl | exact AU λ_ _ _ _ _=>rfl):Nw P w K mg base x C k sp:=by
 obtain⟨a,i,_,_,_,_,_,_,_,_,_,l,c,q⟩:=a
 have F:=AH l c q
 exact⟨_,_,_,⟨t.2.2.2.2.2.1,a,i,t.2.2.2.2.2.2⟩,ok _ F,hb _ F,jI X G t.1⟩
end
theorem all_mk{l:OpenLaw}{w:World}{h:Heap}(X:K.In h)(G:h.Ns mainGlobals mg)(hfa:mg "law"=some (.ref fa))
  {f0 f1 f2 f3 f4 f5 f6 f7 f8 f9 f10 f11 f12 f13 R7 f15 C7 f17 f18 f19 f20 f21 f22 f23 f24 f25 f26 f27 f28 f29 f30 f31 f32 f33 f34 f35 f36 f37 f38 f39 f40 f41 f42 f43 R8 f45 f46 f47 f48 f49 f50 f51 f52 f53 f54 f55 f56 R9 Sa:Addr}
  (Sb:hT K "Book" je)
  (sT:bN K je "worths")
  (Sd:hT K "Ground" qB)
  (Se:bN K qB "sheet")
  (Jo:bN K qB "cells")
  (Sf:bN K qB "crossings")
  (afc:bN K qB "worths")
  (Sh:bN K qB "known")
  (Si:hT K "Standing" oH)
  (Jp:bN K oH "ground")
  (zj:bN K oH "patterns")
  (C8:bN K oH "fits")
  (Jq:hT K "Cases" mX)
  (Sj:bN K mX "place")
  (Sk:bN K mX "parts")
  (So:nsIn K mainGlobals "Whole"=some (some (.ref ik))) (afd:makesIn K ik=true) (afe:findIn K (.ref ik) "__init__"=some (some (.builtin "object.__init__"))) (aff:keepIn K (.ref ik)=true)
  (a0:hF K "_law_cell_at" (top 53) .none f0)
  (a1:hF K "sign_at" (top 13) .none f1)
  (a2:hF K "is_open" (top 14) .none f2)
  (a3:hF K "all_cells" (top 12) .none f3)
  (a4:hF K "open_cells" (top 10) .none f4)
  (a5:hF K "is_open_within" (top 22) .none f5)
  (a6:hF K "row_from" (top 21) .none f6)
  (a7:hF K "rows_of" (top 20) .none f7)
  (a8:hF K "pattern" (top 26) .none f8)
  (a9:hF K "with_sign" (top 16) .none f9)
  (a10:hF K "is_letters" (top 44) .none f10)
  (a11:hF K "is_word" (top 50) .none f11)
  (a12:hF K "need_word" (top 49) .none f12)
  (a13:hM K je "__init__" "Book.__init__" (inClass (top 48) 0) .none f13)
  (C9:hM K je "put" "Book.put" (inClass (top 48) 1) (.ref R9) R7)
  (Jr:hV K R9 0)
  (a15:hM K je "need_there" "Book.need_there" (inClass (top 48) 8) .none f15)
  (Sq:hM K je "worth" "Book.worth" (inClass (top 48) 4) .none C7)
  (a17:hM K je "words" "Book.words" (inClass (top 48) 3) .none f17)
  (a18:hF K "words_fitting" (top 51) .none f18)
  (a19:hM K je "fitting" "Book.fitting" (inClass (top 48) 5) .none f19)
  (a20:hF K "_law_open" (top 54) .none f20)
  (a21:hF K "_law_run" (top 55) .none f21)
  (a22:hF K "_law_rows" (top 56) .none f22)
  (a23:hF K "_law_with" (top 57) .none f23)
  (a24:hF K "_law_text" (top 62) .none f24)
  (a25:hF K "_law_letter" (top 60) .none f25)
  (a26:hF K "put_word" (top 27) .none f26)
  (a27:hF K "_law_put" (top 66) .none f27)
  (a28:hF K "_law_left" (top 65) .none f28)
  (a29:hF K "crossings_on" (top 38) .none f29)
  (a30:hF K "crossings_of" (top 37) .none f30)
  (a31:hM K qB "__init__" "Ground.__init__" (inClass (top 34) 0) .none f31)
  (a32:hM K qB "narrowed" "Ground.narrowed" (inClass (top 34) 1) .none f32)
  (a33:hM K oH "__init__" "Standing.__init__" (inClass (top 35) 0) .none f33)
  (a34:hM K oH "left" "Standing.left" (inClass (top 35) 3) .none f34)
  (a35:hM K oH "narrowest" "Standing.narrowest" (inClass (top 35) 2) .none f35)
  (a36:hM K oH "filled" "Standing.filled" (inClass (top 35) 5) .none f36)
  (a37:hM K oH "after" "Standing.after" (inClass (top 35) 1) .none f37)
  (a38:hF K "first_standing" (top 36) .none f38)
  (a39:hM K mX "__init__" "Cases.__init__" (inClass (top 31) 0) .none f39)
  (a40:hF K "closing_paper" (top 41) .none f40)
  (a41:hF K "turned" (top 15) .none f41)
  (a42:hF K "rows_through" (top 24) .none f42)
  (a43:hF K "need_floor" (top 23) .none f43)
  (Js:hF K "fillings" (top 40) (.ref Sa) R8)
  (Jt:hV K Sa 2)
  (a45:hF K "_law_turn" (top 70) .none f45)
  (a46:hF K "_law_good" (top 58) .none f46)
  (a47:hF K "_law_floor" (top 59) .none f47)
  (a48:hF K "_law_filled" (top 61) .none f48)
  (a49:hF K "_law_more" (top 63) .none f49)
  (a50:hF K "_law_word" (top 64) .none f50)
  (a51:hF K "_law_some" (top 71) .none f51)
  (a52:hF K "_law_is_filling" (top 67) .none f52)
  (a53:hF K "_law_agreeing" (top 69) .none f53)
  (a54:hF K "_law_walked" (top 68) .none f54)
  (a55:hF K "_law_drawn" (top 72) .none f55)
  (Ju:hF K "law" (top 73) .none f56)
  {afg:Tok}(afh:nsIn K mainGlobals "SHUT"=some (some (.str "#" afg)))
  {afj:Nat}{afl afm:Tok}
  (afn:nsIn K mainGlobals "ACROSS"=some (some (.ref Sr)))
  (afo:K.lookup Sr=some ⟨.type "tuple",afi,.seq #[.int 0 afl,.int 1 afm] afj,afk⟩)
  {afq:Nat}{afs aft:Tok}
  (afu:nsIn K mainGlobals "DOWN"=some (some (.ref Ss)))
  (afv:K.lookup Ss=some ⟨.type "tuple",afp,.seq #[.int 1 afs,.int 0 aft] afq,afr⟩)
  {afw:Tok}(afx:nsIn K mainGlobals "LETTERS"=some (some (.str "abcdefghijklmnopqrstuvwxyz" afw)))
  {afy:Tok}(afz:nsIn K mainGlobals "LEAST_LETTERS"=some (some (.int 2 afy)))
  {afA:Tok}(afB:nsIn K mainGlobals "MOST_LETTERS"=some (some (.int 9 afA)))
  {afC:Tok}(afD:nsIn K mainGlobals "FREE"=some (some (.str "." afC)))
  (vP:kitOne K (.ref mX) (.ref ik)=some false)
  (zB:hZ K "len"/\hZ K "range"/\hZ K "tuple"/\hZ K "list"/\hZ K "str"/\hZ K "isinstance"/\hZ K "all"/\hZ K "sorted"/\hZ K "enumerate"/\hZ K "zip"/\hZ K "dict"/\hZ K "min"/\hZ K "reversed"/\hZ K "sum"/\hZ K "int"/\hZ K "set"/\hZ K "bool")
  (Su:specialIn K (.builtin "object.__class__") "__get__"=some (some (.builtin "getset_descriptor.__get__"))) (Sv:takesIn K (.builtin "object.__class__")=some true)
  (afE:plainGet K ik Str.empty=true) (afF:hasDictIn K ik=true) (afG:plainOver K ik=true) (afH:findIn K (.ref ik) "__setattr__"=some (some (.builtin "object.__setattr__")))
  (afI:findIn K (.ref ik) "__class__"=some (some (.builtin "object.__class__"))) (afJ:mroIn K ik (.type "object")=some true)
  (afK:findIn K (.ref mX) "__class__"=some (some (.builtin "object.__class__"))) (afL:mroIn K mX (.type "object")=some true)
  (afM:specialIn K (.ref C7) "__get__"=some (some (.builtin "function.__get__"))) (afN:takesIn K (.ref C7)=some false)
  : ∃fd:FuncData,(∀(s:Shared) (v:Value),BindsTo s fd ⟨[v],[]⟩ [("_law_script",v)])/\∀base:Heap,K.In base->base.Ns mainGlobals mg->aO l.prog w K mg base aQ 88 fa fd ["_law_script"] (C3 K):=by
 obtain⟨C9,Sw,agW,agX,agY,agZ,ag0,ag1,ag2,ag3,ag4,l14,c14,Jv⟩:=C9
 obtain⟨_,_,_,_,Jr⟩:=Jr
 obtain⟨Js,ag5,ag6,ag7,ag8,ag9,aha,ahb,ahc,ahd,l44,c44,Sx⟩:=Js
 obtain⟨_,_,_,_,Jt⟩:=Jt
 obtain⟨Ju,ahe,ahf,afO,afP,afQ,afR,afS,afT,ahg,l56,c56,k56⟩:=Ju
 have e:=hfa.symm.trans (jI X G Ju)
 cases e
 obtain⟨afU,afV,afW,afX,afY,afZ,af0,af1,af2,af3,af4,af5,af6,af7,af8,af9,aga⟩:=zB
 have B:Bl mg:=⟨ir X G afU,ir X G afV,ir X G afW,ir X G afX,ir X G afY,ir X G afZ,ir X G af0,ir X G af1,ir X G af2,ir X G af3,ir X G af4,ir X G af5,ir X G af6,ir X G af7,ir X G af8,ir X G af9,ir X G aga⟩
 have FO:Cn mg "SHUT" (.str "#"):=⟨_,jI X G afh,_,rfl⟩
 have FX:Br K mg "ACROSS" [.int 0,.int 1]:=⟨_,⟨_,jI X G afn,rfl⟩,λH=>.inr ⟨_,_,_,afo,rfl,rfl,(by show 2<=sizeLine;decide),(.cons ⟨_,rfl⟩ (.cons ⟨_,rfl⟩ .nil))⟩⟩
 have FY:Br K mg "DOWN" [.int 1,.int 0]:=⟨_,⟨_,jI X G afu,rfl⟩,λH=>.inr ⟨_,_,_,afv,rfl,rfl,(by show 2<=sizeLine;decide),(.cons ⟨_,rfl⟩ (.cons ⟨_,rfl⟩ .nil))⟩⟩
 have Ge:Cn mg "LETTERS" (.str iE):=⟨_,jI X G afx,_,rfl⟩
 have Gg:Cn mg "LEAST_LETTERS" (.int 2):=⟨_,jI X G afz,_,rfl⟩
 have Gh:Cn mg "MOST_LETTERS" (.int 9):=⟨_,jI X G afB,_,rfl⟩
 have n8:Cn mg "FREE" (.str "."):=⟨_,jI X G afD,_,rfl⟩
 have jf:=Sb.cls
 have vS:=Sd.cls
 have oI:=Si.cls
 have Jw:=Jq.cls
 have vp:A9 K mg "Whole" ik:=⟨afd,afe,aff,jI X G So⟩
 have agb:cG K ik:=⟨afE,afF,afG,afH⟩
 have agc:pO K ik:=⟨agb,afI,Su,Sv,afJ⟩
 have vN:Cn mg "Whole" (.ref ik):=⟨_,jI X G So,rfl⟩
 have agd:pO K mX:=⟨Jw,afK,Su,Sv,afL⟩
 have vO:Cn mg "Cases" (.ref mX):=⟨_,jI X G Jq.1,rfl⟩
 have age:E1 K je "worth":=⟨⟨C7,Sq.1,⟨afM,afN⟩⟩,by decide +kernel⟩
 have Dc:pH K "put" "Book.put" (inClass (top 48) 1) R7 _ _:=⟨⟨_,_,_,_,_,_,_,_,_,_,rfl,l14,c14,_,_,_,Jr⟩,Jv⟩
 have b14:=Dc.binds (ps:=["self","word","worth"]) (ds:=[]) λ_ _ _ _ _ _ _ _ us _ _ _ hT hl=>by obtain⟨_,_,_,rfl⟩:=ue (P:=λus=>∃a b c,us=[a,b,c]) (λa b c=>⟨a,b,c,rfl⟩) us (by simpa using hl);exact .of_defaults rfl hT rfl rfl rfl
 have PQ:=Dc.binds (ps:=["self","word","worth"]) (ds:=[.int 0 _]) λ_ _ _ _ _ _ _ _ us _ _ _ hT hl=>by obtain⟨_,_,rfl⟩:=ud (P:=λus=>∃a b,us=[a,b]) (λa b=>⟨a,b,rfl⟩) us (by simpa using hl);exact .of_defaults rfl hT rfl rfl rfl
 have Jx:pH K "fillings" "fillings" (top 40) R8 _ _:=⟨⟨_,_,_,_,_,_,_,_,_,_,rfl,l44,c44,_,_,_,Jt⟩,Sx⟩
 have b44:=Jx.binds (ps:=["book","sheet","most"]) (ds:=[]) λ_ _ _ _ _ _ _ _ us _ _ _ hT hl=>by obtain⟨_,_,_,rfl⟩:=ue (P:=λus=>∃a b c,us=[a,b,c]) (λa b c=>⟨a,b,c,rfl⟩) us (by simpa using hl);exact .of_defaults rfl hT rfl rfl rfl
 have e44:=Jx.binds (ps:=["book","sheet","most"]) (ds:=[.int 2 _]) λ_ _ _ _ _ _ _ _ us _ _ _ hT hl=>by obtain⟨_,_,rfl⟩:=ud (P:=λus=>∃a b,us=[a,b]) (λa b=>⟨a,b,rfl⟩) us (by simpa using hl);exact .of_defaults rfl hT rfl rfl rfl
 have F56:=AH (st:=(top 73)) l56 c56 k56
 refine⟨fnOf "law" "law" (pC (top 73)) (kR (top 73)) (aU (top 73)) .none afP afQ afR afO afS afT,λs v=>.of_eq rfl,λbase _ _=>?_⟩
 have oF :=@Aq l.prog w K mg base h X G
 have oR :=@R6 l.prog w K mg base h X G
 have oM :=@afa l.prog w K mg base
 have oW :=@afb l.prog w K mg base h X G
 have Sz:=oF a0 λ_ F=>Zt B F
 have SA:=oF a1 λ_ F=>Zv F
 have Jy:=oF a2 λ_ F=>Zx F FO SA
 have agf:=oF a3 λ_ F=>Zy B F
 have SD:=oF a4 λ_ F=>ZG F agf Jy
 have agg:=oF a5 λ_ F=>ZJ B F Jy
 have agh:=oF a6 λ_ F=>ZL B F agg
 have SE:=oF a7 λ_ F=>ZO F FX FY SD agh
 have agi:=oF a8 λ_ F=>Z4 F SA
 have agj:=oF a9 λ_ F=>Z5 B F
 have agk:=oF a10 λ_ F=>Z8 B Ge F
 have agl:=oF a11 λ_ F=>aad Gg Gh F agk
 have Jz:=oF a12 λ_ F=>aag F agl
 have Jf:=oW Sb a13 λ_ F=>aaj F jf sT
 have ahh:Mt l.prog w K mg base je "put" 4 (BB je) []:=⟨jf,_,_,_,_,⟨C9,Sw,Jv⟩,Oh Dc jf sT Jz,b14,.nil⟩
 have Jg:Mt l.prog w K mg base je "put" 4 (BB je) [.int 0]:=⟨jf,_,_,_,_,⟨C9,Sw,Jv⟩,Oh Dc jf sT Jz,PQ,.cons ⟨_,rfl⟩ .nil⟩
 have Gn:=oM jf a15 λ_ F=>aal F jf sT Jz
 have ve:=oM jf Sq λ_ F=>aao F jf sT Gn
 have Ho:=oM jf a17 λ_ F=>aaq B F jf sT
 have agm:=oF a18 λ_ F=>aau B F n8
 have HD:=oM jf a19 λ_ F=>aaw B F jf sT agm
 have agn:=oF a20 λ_ F=>aaC B F
 have ago:=oF a21 λ_ F=>aaD F agn
 have JA:=oF a22 λ_ F=>aaF B F ago
 have JB:=oF a23 λ_ F=>aaO B F
 have De:=oF a24 λ_ F=>aaQ F
 have JC:=oF a25 λ_ F=>aaS F
 have agp:=oF a26 λ_ F=>aaT B F agj
 have JD:=oF a27 λ_ F=>aaX B F JB
 have SF:=oF a28 λ_ F=>abn B F De
 have agq:=oF a29 λ_ F=>abT F
 have agr:=oF a30 λ_ F=>abZ B F agq
 have HE:=oW Sd a31 λ_ F=>acM B F vS Se Jo Sf afc Sh SE agr Ho ve
 have Hd:=oM vS a32 λ_ F=>aca F vS Sh
 have u6:=oW Si a33 λ_ F=>acd F oI Jp zj C8
 have vn:=oM oI a34 λ_ F=>aci F oI zj C8
 have vk:=oM oI a35 λ_ F=>ack B n8 F oI zj C8
 have vm:=oM oI a36 λ_ F=>acq B F oI vS Jp zj Se Jo agp
 have vo:=oM oI a37 λ_ F=>acB B n8 F oI vS Jp zj C8 Sf u6 Hd
 have ags:=oF a38 λ_ F=>acS B F vS jf Jo agi HD ve age HE u6
 have vq:=oW Jq a39 λ_ F=>ac0 B F Jw Sj Sk
 have agt:=oR a40 λ_ F hm hk hb=>QM B F hm hk hb vk vm vn vo vp vq 82
 have agu:=oF a41 λ_ F=>adA B F
 have agv:=oF a42 λ_ F=>adE F SE
 have agw:=oF a43 λ_ F=>adK F agu SD Jy agv
 have agx:Fn l.prog w K mg base "fillings" 87 (Iy K je ik mX):=⟨_,_,_,adU Jx agw ags agt,jI X G Js,Sx,b44⟩
 have agy:=oF a45 λ_ F=>ad4 B F SF De
 have agz:=oF a46 λ_ F=>aea B F JA
 have agA:=oF a47 λ_ F=>aec B F JB agz
 have agB:=oF a48 λ_ F=>aeh B F JC
 have agC:=oF a49 λ_ F=>aeq F De
 have agD:=oF a50 λ_ F=>aet B F JC
 have agE:=oR a51 λ_ F hm hk hb=>Rw B F hm hk hb agy JD 82
 have agF:=oF a52 λ_ F=>aeC B F JA De
 have agG:=oF a53 λ_ F=>aeD B F
 have agH:=oR a54 λ_ F hm hk hb=>RH B F hm hk hb vN vO agc agd vP Jw Sj Sk SF JD 82
 have agI:=oF a55 λ_ F=>aeO B F Sz agC JB JC JD agD
 exact aeZ B F56 Sz agA agB JA agI Jf Jg agx agE agG agF agH
theorem walk{l:OpenLaw}{q:Program}{d:DefRec}{K:Params->Frag}(hn:l.most=some 63)(xb:d.params.defaults=[])
  (hY:∀(w:World) (h:Heap),YP w h->(K w.params).In h)
  (F:∀(w:World) (mg:Str->Option Value) (fa:Addr) (h:Heap),(K w.params).In h->h.Ns mainGlobals mg->mg d.name=some (.ref fa)->
   ∃fd:FuncData,(∀(s:Shared) (u:Value),BindsTo s fd ⟨[u],[]⟩ [("_law_script",u)])/\∀base:Heap,(K w.params).In base->base.Ns mainGlobals mg->aO l.prog w (K w.params) mg base aQ 88 fa fd ["_law_script"] (C3 (K w.params))) :
  PySem.W.WalkO q loose XP YP l.row.toRowW d [] (λf vs=>PySem.call f vs):=
 L2.VX (n:=63) (k:=88) (x:="_law_script") (CX:=λ_=>aQ) (sp:=λw=>C3 (K w.params)) hn (by decide) xb ⟨rfl,by decide,by decide,rfl⟩ hY F (λ_ _ a ns hl _ hS=>⟨a,ns,rfl,hS,hl,λ_=>rfl⟩) λ_ _ _ _ _ z=>z
end Cw
open L2 in
noncomputable def PySem.W.Fast:=V
where
tw3926354769733468224:=V
tw6149924211721513120:=V
tw14355917949537208480:=V
tw9247404508722942112:=V
tw8230197712606787776:=V
tw2301507507694253312:=V
tw13416197263465247040:=V
tw11129059029449556320:=V
tw7811934094712899968:=V
tw5043467378948272544:=V
tw14626656525917231552:=V
tw5916778399275292128:=V
tw5851763568275373536:=V
tw12851499755709831712:=V
tw16349836424972432992:=V
tw4203265385302195808:=V
tw14166447709264105216:=V
tw12985916473502565152:=V
tw8903318932465596192:=V
tw7903879290505253664:=V
tw13189810811903739744:=V
tw17696774352817091617:=V
tw4094782235943852097:=V
tw17494862075050994785:=V
tw4225289017179232353:=V
tw5108038234361079937:=V
tw9854788723082649793:=V
tw8622702026222144769:=V
tw15423919377533496577:=V
tw17068494404114612513:=V
tw11335009009219315009:=V
tw11980792868082634081:=V
tw9145392596421664129:=V
tw9449046369585351073:=V
tw5584457699863493025:=V
tw11477134963031055809:=V
tw18413780950715827745:=V
tw12937921261862362657:=V
tw12274554715257831009:=V
tw28502208343062145:=V
tw13803662049324456577:=V
tw8207410137914342017:=V
tw4896643516286618369:=V
tw4423830664788565761:=V
tw17545186424493382529:=V
tw8164840422935054241:=V
tw10720752865885578145:=V
tw3877931958229665729:=V
tw322439538917775329:=V
tw13096051152976951265:=V
tw7089983835727382497:=V
tw14537116324794652706:=V
tw8008079597726872642:=V
tw13844495751057936482:=V
tw11593859812669445250:=V
tw767275776605823138:=V
tw14077130110779974818:=V
tw17785446909656783042:=V
tw13910760826373299394:=V
tw17527921437522377954:=V
tw13121906547250605314:=V
tw3870365783342543106:=V
tw15045930894102601026:=V
tw17247033294278762946:=V
tw17060017203240477122:=V
tw2398284018248808930:=V
tw16580265344079736418:=V
tw1856090850921592450:=V
tw18399404497385875074:=V
tw11319205815578223298:=V
tw14096519782174254786:=V
tw258606504755168994:=V
tw12145409072181296930:=V
tw4081624290826149794:=V
tw4712347009056923683:=V
tw11614511253326380067:=V
tw10797332362979569763:=V
tw2741453887796679843:=V
tw17957226377013573795:=V
tw17013255774576795811:=V
tw18362813111575615779:=V
tw4961104624603801955:=V
tw9496867911851225539:=V
tw7280536474993636803:=V
tw1372034344178283971:=V
tw1823765503467431459:=V
tw11994718379835118115:=V
tw13168444793206564387:=V
tw111120464156081827:=V
tw7110048573594195619:=V
tw3017763325350137539:=V
tw8837885049862864675:=V
tw12862350272331729699:=V
tw12507128580247973667:=V
tw11863536660349371203:=V
tw15877244035955616611:=V
tw7302098013161882499:=V
tw1071026799813659523:=V
tw3137098981432787907:=V
tw11919472033553360835:=V
tw15144715254991952867:=V
tw8811380062025887780:=V
tw256240996931615780:=V
tw3478656005184234564:=V
tw3803166169796896868:=V
tw15668084276438804612:=V
tw15673900746614462596:=V
tw9456169755128322212:=V
tw10070080293583822052:=V
tw16709993714764578052:=V
tw8139281316966282532:=V
tw8564534408380150084:=V
tw13573357312448953668:=V
tw15106594533015930212:=V
tw17579639060625780100:=V
tw10270634101833599460:=V
tw15218586984499531364:=V
tw4901808330872617572:=V
tw6147833786782134916:=V
tw13994916463768410788:=V
tw6443687030689878756:=V
tw15862981143978622724:=V
tw7656042679886140356:=V
tw15854850812435700708:=V
tw14434839058775990277:=V
tw4333732835360697349:=V
tw5722152270356856901:=V
tw6907547252193036485:=V
tw16780662104986828005:=V
tw997361294142391557:=V
tw11409475135777755397:=V
tw1387805858577643877:=V
tw1303104701176674693:=V
tw12983596910656166277:=V
tw3304286629497859493:=V
tw739863681524991429:=V
tw6496815076641228261:=V
tw13660230688887423525:=V
tw13076737405672984165:=V
tw517261312961572485:=V
tw524790745278026437:=V
tw15963445229474095909:=V
tw4888752061139785541:=V
tw363127939015740261:=V
tw12875527696787006341:=V
tw16033929589216100293:=V
tw11490649236725055461:=V
tw3993509419086268454:=V
tw4492058006584547366:=V
tw1111059729277480006:=V
tw11083689439816446054:=V
tw6340052455854102694:=V
tw14551584773137023206:=V
tw16800506490955880710:=V
tw4136654867160295686:=V
tw17114425319033369894:=V
tw14166622786123099494:=V
tw6982411539290831238:=V
tw707434472189903302:=V
tw389671364286196294:=V
tw16046659497346047654:=V
tw3169651593699457798:=V
tw9903822166345272294:=V
tw6068492681178133511:=V
tw17175886505597671495:=V
tw4898242416760552551:=V
tw4913168454819259559:=V
tw11945721767763339463:=V
tw18057551151140403399:=V
tw3308669060451819783:=V
tw2704704574656789831:=V
tw17538078012511656327:=V
tw6087567568380899751:=V
tw17572658124028690887:=V
tw7545771157133118919:=V
tw13375416647394242119:=V
tw5024190478640597607:=V
tw12210697471540349543:=V
tw1325020259416968871:=V
tw17405719385608318631:=V
tw4619752515723469511:=V
tw12139912580983099143:=V
tw9062277618450649895:=V
tw14041010960682464167:=V
tw9178997018759840679:=V
tw7738593528157753255:=V
tw8451251489778853831:=V
tw9277804301555630055:=V
tw18006482649181559816:=V
tw14787253953293878600:=V
tw5668869433526141256:=V
tw734678542789008808:=V
tw3307875988923252136:=V
tw12005306281455031752:=V
tw11221663522814082504:=V
tw16519738042092304936:=V
tw11074298274664859272:=V
tw14887638416963621576:=V
tw8222505055238636328:=V
tw8671713088533237576:=V
tw605714860341458824:=V
tw14261678342932316104:=V
tw12724507762037715912:=V
tw10194838971059073000:=V
tw5323832668679457929:=V
tw11854870977078993097:=V
tw18081906312965420393:=V
tw4917029394621669769:=V
tw9475003398144001449:=V
tw2787939565127087561:=V
tw14911107064158125641:=V
tw11973566791008532105:=V
tw3779057573599271593:=V
tw16294857748983555785:=V
tw1616593268848664297:=V
tw17924646930128791273:=V
tw4207943540561148809:=V
tw3235166156611684265:=V
tw9413425175138836425:=V
tw4399729752407139273:=V
tw18063372331119498217:=V
tw9851940236089389033:=V
tw18234241140083596298:=V
tw16705295694367959050:=V
tw9223234221078220874:=V
tw5790187766917104746:=V
tw16698845518391585962:=V
tw7180565466164816106:=V
tw29046175632728362:=V
tw1589855704218737034:=V
tw8118379176225191306:=V
tw4951610586396362186:=V
tw14802769358950522314:=V
tw11034293689711886890:=V
tw4939951057687877194:=V
tw14741381024861800010:=V
tw10722636034896133866:=V
tw14706304012123340586:=V
tw4503917971206833034:=V
tw12540291850124257162:=V
tw4861492454387075018:=V
tw2320541426664787914:=V
tw6578849696621461515:=V
tw14037407542222201899:=V
tw16868218408820177963:=V
tw8542839760807857227:=V
tw17846445142877289547:=V
tw2474369072575966443:=V
tw15346005519261063435:=V
tw16641368914358985995:=V
tw6817812232368534123:=V
tw11403896172232024843:=V
tw2405592106619158283:=V
tw275776295767574379:=V
tw12108269432947707883:=V
tw17285281020258136076:=V
tw1589375211126632460:=V
tw13874347561727669260:=V
tw1176235323803518988:=V
tw2954960084783040588:=V
tw11774048227934944332:=V
tw9641306105210219628:=V
tw11697805953969546348:=V
tw11060258613244691692:=V
tw9758053134250373356:=V
tw2897826473795711212:=V
tw3995730567590967564:=V
tw17786105918113126764:=V
tw8861753966845378924:=V
tw16543127212615331180:=V
tw5950995175682700652:=V
tw12207914812582589932:=V
tw18434823730642120204:=V
tw10399597708728405580:=V
tw12581821141712846412:=V
tw16644441872231727724:=V
tw3918645468506832556:=V
tw5618330720004163276:=V
tw8921083063982712524:=V
tw6955598412530234092:=V
tw9967378938686498540:=V
tw6914322995126344460:=V
tw12875606426950533932:=V
tw12326806075494242092:=V
tw1118648709594506028:=V
tw18369315581030745996:=V
tw7273782737421714348:=V
tw17019737361528153036:=V
tw10712493041786571724:=V
tw14500253048421542892:=V
tw3878181963998073901:=V
tw10763790447061000237:=V
tw13024037585181321293:=V
tw17590449155981060237:=V
tw14449606657778456749:=V
tw13979497221549356205:=V
tw11761500728637463757:=V
tw2277383669693236429:=V
tw978665135933674765:=V
tw12938439928948188461:=V
tw964454831553081709:=V
tw1586112105157100941:=V
tw6378600170070970765:=V
tw2704001200461606349:=V
tw12846566021378129421:=V
tw14045898450740546221:=V
tw8080788270847020749:=V
tw6585729354571312845:=V
tw3019041285068549837:=V
tw15395901224793993933:=V
tw16913224397790201581:=V
tw12464768835461509933:=V
tw17636228641724020557:=V
tw18037503995327247213:=V
tw8470052668933433229:=V
tw8023841625973081037:=V
tw18073750824512443341:=V
tw11636699688982298638:=V
tw2483596441364851726:=V
tw2178292887584568430:=V
tw267786916848045358:=V
tw16010252114707552622:=V
tw625099136577081742:=V
tw10600014431484175758:=V
tw10024009496682414574:=V
tw9125784381984239182:=V
tw10286013849221983854:=V
tw2338833965077858030:=V
tw13764946638328457966:=V
tw8227290363959278318:=V
tw3320234387611054862:=V
tw4134477927979132782:=V
tw1744949530917674894:=V
tw5731381267224709070:=V
tw17248037494722166799:=V
tw13805880944234441743:=V
tw9772706688835068975:=V
tw8411328304955702319:=V
tw12620476322358130799:=V
tw8688396754496268591:=V
tw9780023324658416943:=V
tw6865233017223278991:=V
tw14965284056592006703:=V
tw4893558945532392015:=V
tw4423022607690739375:=V
tw10598648354825526991:=V
tw1813564141242599151:=V
tw6830719550365636399:=V
tw1907594985468829551:=V
tw9686690346574606191:=V
tw17277853491043852464:=V
tw13851117167975996720:=V
tw10713138602038404400:=V
tw3717239693222610256:=V
tw12813903824051095888:=V
tw16036738538074062192:=V
tw18244375695520637424:=V
tw1202678306269552112:=V
tw17261924627894980112:=V
tw16180099442157113872:=V
tw14553488290208456304:=V
tw10360880534730071664:=V
tw1955800215899365040:=V
tw16632792908093359856:=V
tw8309883886527642352:=V
tw1498508471413523280:=V
tw5685873570609230704:=V
tw7621265944809212816:=V
tw10455022064850245584:=V
tw17805526218673312913:=V
tw6975792405661949105:=V
tw2939797340227605713:=V
tw2555819086687305009:=V
tw17612329851819378097:=V
tw14815093892251601361:=V
tw17295669614347202033:=V
tw18292568353329514001:=V
tw9620177333284511249:=V
tw10279361493563311665:=V
tw15401095690059420209:=V
tw9229331144221508145:=V
tw11821250749534883377:=V
tw10828238176757680785:=V
tw1528155297407864465:=V
tw1263437247277176465:=V
tw4737899887227615889:=V
tw6580182519943337649:=V
tw364976274296448753:=V
tw16577482694666676977:=V
tw8422496648515374865:=V
tw3574953558475875153:=V
tw18357953024094151505:=V
tw11703284899717349201:=V
tw6227993535718506353:=V
tw7765637830484833169:=V
tw3676448257326604177:=V
tw2078822651575435153:=V
tw7659414610530363442:=V
tw3541968920240803954:=V
tw11718591321434239122:=V
tw13442843532726895794:=V
tw14259895053367307442:=V
tw18438409132505002162:=V
tw17555689352138069266:=V
tw14779915556210594066:=V
tw14207332714794620210:=V
tw17768543274044614066:=V
tw16454940967983976946:=V
tw7873624962380526098:=V
tw2972701602369649202:=V
tw9794329163230628402:=V
tw16178597557430354546:=V
tw7920128819849551538:=V
tw11991385870830341842:=V
tw13799949067547805426:=V
tw13181964314188057330:=V
tw1701156989628621682:=V
tw8075895817354727314:=V
tw15059287512360401842:=V
tw12059079883274408914:=V
tw16939514952475972594:=V
tw8082147503486027762:=V
tw12388797861038964755:=V
tw325353780263584851:=V
tw3736580060572524627:=V
tw1695401283845851251:=V
tw14065523617412330611:=V
tw6889919459504609395:=V
tw14590212037169222803:=V
tw12700856281658173587:=V
tw13249638238712609939:=V
tw4158613742040309011:=V
tw15655626219968136531:=V
tw10011601573410908531:=V
tw13057396188530055571:=V
tw1930209341148850579:=V
tw10009771015604300275:=V
tw298828929903603219:=V
tw14985291978383527507:=V
tw14413555231589177939:=V
tw14804955001006555795:=V
tw17363148295410394771:=V
tw11771265409632807571:=V
tw7540416229184430771:=V
tw12472616373489589971:=V
tw3605393239746425587:=V
tw11215511841183166291:=V
tw2235478650491424820:=V
tw11521277439828012148:=V
tw306243103918929012:=V
tw3914917003788786836:=V
tw11243458499093598388:=V
tw1438709487958157492:=V
tw16791801691094942932:=V
tw7993715751009694964:=V
tw12253867982543957268:=V
tw15839424893505533268:=V
tw9090705938465180020:=V
tw9640668347505443316:=V
tw1397554298094753268:=V
tw9740553234026192436:=V
tw11567476996159317652:=V
tw11119880011323096724:=V
tw13024958369439868564:=V
tw13109211766125654740:=V
tw17373739290724115188:=V
tw7305143674074620660:=V
tw627251554957769492:=V
tw5756369211249431380:=V
tw11705883527011937140:=V
tw9758581096938142580:=V
tw14671914449253430196:=V
tw6530449240908434453:=V
tw9386466114492825653:=V
tw5931517775002364981:=V
tw12020604484651913333:=V
tw12980894919978128629:=V
tw12831924266402236661:=V
tw6027271259602300181:=V
tw18433728473712473365:=V
tw16178184285713933685:=V
tw4598363351969999253:=V
tw17567449310693241237:=V
tw1638027836644633173:=V
tw12313517590874831509:=V
tw4218289438515566261:=V
tw12035753226650791701:=V
tw11209011411032738613:=V
tw18307363164996918069:=V
tw15564281180061142933:=V
tw17482679210680882069:=V
tw11315727926613060501:=V
tw8462235247778491349:=V
tw2261395093475188854:=V
tw3024724301189699862:=V
tw8633423254556875062:=V
tw9652440491125204470:=V
tw14651838958645931510:=V
tw16606523843958999606:=V
tw12597266315445485110:=V
tw4879164296055312022:=V
tw10850112778157584086:=V
tw9527994622775565046:=V
tw4146389056746946390:=V
tw5425638292061618038:=V
tw6433616400596068246:=V
tw8362821348953061334:=V
tw5957170686675167222:=V
tw1975420245966266391:=V
tw1287801852869918807:=V
tw11863067324181896279:=V
tw4731209855984749719:=V
tw2803164360634191095:=V
tw6175676573263275287:=V
tw5205849636403380599:=V
tw14758693251012450743:=V
tw14938295962076213687:=V
tw18391108238320578007:=V
tw8619627706012046839:=V
tw2261195424371023351:=V
tw7025646551417102903:=V
tw6384750452951782007:=V
tw10544274863573069463:=V
tw6612081892473173655:=V
tw369962612228549303:=V
tw11620087156728749815:=V
tw9444136588882971415:=V
tw10217058555968460567:=V
tw5505552966324415319:=V
tw3970280707372276599:=V
tw6293410575429597143:=V
tw2671967483811560472:=V
tw16899143971354932280:=V
tw8249179095890493592:=V
tw2533595355328976216:=V
tw15683114481805603160:=V
tw17711649697729726808:=V
tw17868286854443123064:=V
tw373225140865099128:=V
tw17531117090112166328:=V
tw2735493415711314392:=V
tw17188107418412953048:=V
tw17862121268529014296:=V
tw4934331071325548056:=V
tw15409958202840076856:=V
tw9388756516162069080:=V
tw5305479863515420312:=V
tw10209252409071532696:=V
tw5761755468169682648:=V
tw10800120894324187864:=V
tw12363831003183903448:=V
tw10968787065640554264:=V
tw3171897905287741240:=V
tw15001414535638545208:=V
tw4570430806432335704:=V
tw18127297609579063128:=V
tw11703617221006150520:=V
tw12211533870135096248:=V
tw6220622249378710553:=V
tw15155463272428525593:=V
tw16643962145676976185:=V
tw5714708987269248057:=V
tw6181259016589852825:=V
tw8822600802724519097:=V
tw16916810800076529945:=V
tw11002816786038583577:=V
tw8299912375586864441:=V
tw2687887454365615481:=V
tw18133674712472947129:=V
tw1254396593018932665:=V
tw15226728908228637113:=V
tw16475777164060367353:=V
tw10581150004270754361:=V
tw11084585075794502297:=V
tw12021302926702837561:=V
tw2016984791254895449:=V
tw2453966705702917049:=V
tw6996913308047700921:=V
tw7950225868021038073:=V
tw11306166107660338298:=V
tw3001807647080368410:=V
tw4959184392112550234:=V
tw10065510295852425594:=V
tw10675319206463091098:=V
tw11665755919297382842:=V
tw8459788071756735930:=V
tw4767435354558739034:=V
tw2463663122543249018:=V
tw146460556370048698:=V
tw750930038087258842:=V
tw17268278725246353114:=V
tw17775576292339500858:=V
tw1331331489572735866:=V
tw13209311711585878938:=V
tw18107675127382754202:=V
tw17658008182889350074:=V
tw7944341800547021786:=V
tw6171286085165751419:=V
tw6575144225264032955:=V
tw79938442021693627:=V
tw13701594969970833595:=V
tw11552269137130892507:=V
tw10475873349123924187:=V
tw7769158684347631963:=V
tw745111726492508507:=V
tw1661323162221706587:=V
tw3588938920455743963:=V
tw16368247495614966299:=V
tw7578554120466454043:=V
tw7731587939621189179:=V
tw11004736403969356379:=V
tw2831729359107391131:=V
tw2591120529292454587:=V
tw1573614476142596827:=V
tw3163595872408839931:=V
tw11624143583532252923:=V
tw9090416290848632603:=V
tw1424176656831699867:=V
tw3518193456961787835:=V
tw17785538731301173243:=V
tw684571893453075484:=V
tw14403461777329338492:=V
tw17599801175243135196:=V
tw8563172229358725340:=V
tw17980775435240184092:=V
tw4991347587027995004:=V
tw1772767453019822460:=V
tw3482323554357428700:=V
tw14251421307680823836:=V
tw5576003941317108252:=V
tw3923920474996460092:=V
tw10188821001694065244:=V
tw146420453771581052:=V
tw15854089514888753788:=V
tw4467087917157184124:=V
tw5157431239378438876:=V
tw4201773556870656828:=V
tw7835741532033351580:=V
tw3105460794322653148:=V
tw16067045159281663964:=V
tw10431224093522875388:=V
tw11304263072827418653:=V
tw9959625592270241821:=V
tw2036841650706137149:=V
tw220936893963459677:=V
tw17626031608625052861:=V
tw14945014143839329501:=V
tw3151947174501640413:=V
tw3588622815135763837:=V
tw12118655107408716189:=V
tw1828295263085204957:=V
tw13349649281846994493:=V
tw7875457683247591069:=V
tw3017109914550974205:=V
tw4343160634037001021:=V
tw11467862590284573533:=V
tw8805611215823876957:=V
tw5150245938987993981:=V
tw16589606159383729021:=V
tw6640272777834173341:=V
tw1998150053697371101:=V
tw11712810857429850109:=V
tw553238736245469214:=V
tw3772010024268603550:=V
tw8720770793931278526:=V
tw6332703808419224830:=V
tw7175747344710526206:=V
tw16416793438281027902:=V
tw1234950574737866078:=V
tw6246864755765215646:=V
tw10777521341575791038:=V
tw687945391458141630:=V
tw7605832355937749502:=V
tw9587915027042008638:=V
tw10304817346095907422:=V
tw14824185778607500926:=V
tw15676549397391118046:=V
tw10030240544336821982:=V
tw15768962421012890430:=V
tw4958108374197866334:=V
tw3393251088293539710:=V
tw12929269006079243134:=V
tw2243404522660630430:=V
tw16422429223607918526:=V
tw5929870398957990878:=V
tw7125117085231436798:=V
tw3042265320762340383:=V
tw1821616490395412575:=V
tw8619044391062550687:=V
tw7513307476622366911:=V
tw2428334884668258527:=V
tw3476472785198828863:=V
tw4952120500369472895:=V
tw1255417176706079231:=V
tw10470199636927566367:=V
tw7426153000943837727:=V
tw13227291872478947871:=V
tw9770613505270668863:=V
tw18035288508690417247:=V
tw12785914634940688127:=V
tw1232605434577214207:=V
tw17606640255669147423:=V
tw9138889432093366079:=V
tw4947414885620806463:=V
tw12169247496957068127:=V
tw17091619560151265215:=V
tw10527790479717009375:=V
tw10094040083658419167:=V
tw4342195598920809119:=V
open PySem PySem.W PyProof.Rows
set_option maxRecDepth 100000 in
set_option maxHeartbeats 0 in
theorem PySem.Challenge.cw_crosswright_k43_whole_great_sheets_holds : PySem.Challenge.rw_crosswright_k43_whole_great_sheets.Holds := by
  w_on; o_law; k_head; (case hw => w_witness2)
  k_fill
  refine Cw.walk (l := PySem.Challenge.rw_crosswright_k43_whole_great_sheets) rfl rfl (fun w h Y => PySem.W.kIn_of Y) ?F
  case F =>
    intro w mg fa h KX G hmg
    apply Cw.all_mk KX G hmg
    repeat (first | (show _ = _; k_is) | apply Cw.hF_mk | apply Cw.hM_mk | apply Cw.hT_mk | apply Cw.hV_mk | apply And.intro | (with_unfolding_all exact rfl) | kernel_rfl)
#print axioms PySem.Challenge.cw_crosswright_k43_whole_great_sheets_holds
