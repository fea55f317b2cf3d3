import PyProof.Rows.All
import Wide.All
import OpenK.AllK
import Wide.FinOn
import Lean
import PyProof.EqAt
import PyProof.EqKinds
import PyProof.TupleCall
import PyProof.NeKinds
import PyProof.SetRoads
import PyProof.SetNew
import PyProof.TupleKey
import PyProof.AttrMissHeap
import PySem.Challenge.RW_crosswright_k51_whole_least_givens
open PySem.W(Frag findIn nsIn keepIn kitOne instObj emptyDict fnOf specialIn makesIn codeIn clsIn plainGet takesIn methodObj hasDictIn isFn lookIn plainOver Looks mroIn takerIn OpenLaw)
set_option Elab.async false
set_option linter.all false
set_option compiler.extract_closed false
set_option maxRecDepth 100000
section
open PySem PySem.Spec PyProof.Rows PySem.W
def ah:=@wpAny_bind
def av:=@if_neg
def aw:=@List.length_map
def az:=@if_pos
def aI:=@decide_eq_false
def aJ:=@decide_eq_true
def aL:=@wpAny_pure
def aO:=@Nat.le_refl
def bf:=@List.getElem?_eq_getElem
def bj:=@List.mem_of_getElem?
def bo:=@Ne.symm
def br:=@List.size_toArray
def bu:=@Heap.get?_push_of_some
def bw:=@List.getElem?_map
def bz:=@List.mem_cons_self
def bA:=@Heap.lt_size
def bF:=@Nat.le_trans
def bG:=@Nat.zero_le
def bM:=@List.mem_map
def bQ:=@List.getD_eq_getElem?_getD
def bR:=@Nat.ne_of_lt
def bS:=@List.map_cons
def bX:=@List.mem_cons_of_mem
def bY:=@List.getElem?_eq_some_iff
def b8:=@Bool.false_ne_true
def cn:=@List.mem_singleton
def cq:=@List.mem_filter
def cw:=@List.mem_cons
def cz:=@Heap.get?_push_size
def cS:=@List.mem_append
def cY:=@Option.some.inj
def cZ:=@List.getElem?_eq_none
def di:=@List.length_append
def dj:=@List.filter_cons
def dO:=@List.length_cons
def dP:=@PySem.W.mg_of
def d9:=@Bool.and_eq_true
def eI:=@Int.toNat_natCast
def eJ:=@List.take_add_one
def eV:=@List.append_nil
def eW:=@List.map_append
def fc:=@congrArg
def fg:=@List.take_of_length_le
def fG:=@of_decide_eq_true
def fH:=@List.not_mem_nil
def fI:=@wpAny_field
def fJ:=@List.getElem?_of_mem
def fK:=@Bool.eq_false_iff
def fY:=@List.length_filter_le
def fZ:=@List.sum_cons
def gu:=@Nat.lt_of_lt_of_le
def gw:=@Nat.le_succ
def gE:=@Paired.length
def gF:=@wpAny_mono
def gG:=@List.nodup_cons
def ib:=@Bool.false_and
def ic:=@Nat.not_lt_zero
def ie:=@List.filter_append
def iK:=@List.mem_range
def iL:=@wpAny_holding
def iM:=@Heap.get?_update_other
def iN:=@Nat.succ_mul
def iO:=@Option.map_eq_some_iff
def iP:=@Nat.mul_one
def iQ:=@PySem.F.plainAttrs_list
def jc:=@List.mem_append_right
def jd:=@Option.map_some
def je:=@List.nodup_nil
def jf:=@PySem.F.slot_list_append
def jg:=@PySem.F.type_list_append
def jh:=@PySem.W.mg_none_of
def jM:=@beq_iff_eq
def jN:=@List.length_take
def jO:=@if_true
def jP:=@List.ext_getElem?
def kN:=@List.filter_nil
def kO:=@List.map_map
def lI:=@Heap.size_push
def lJ:=@Paired.snoc
def lK:=@Nat.lt_of_le_of_lt
def lL:=@List.all_eq_true
def mQ:=@List.mem_append_left
def mR:=@PySem.W.kia_one
def mS:=@List.length_range
def mT:=@Nat.succ_le_succ
def mU:=@List.mem_map_of_mem
def nT:=@wpAny_call
def nU:=@Nat.lt_succ_of_lt
def nV:=@List.range_succ
def nW:=@wpAny_seqItems
def nX:=@List.take_zero
def nY:=@List.getElem_mem
def nZ:=@Prod.mk.injEq
def pU:=@Nat.lt_irrefl
def pV:=@wpAny_truthy_bool
def pW:=@Heap.get?_update_self
def pX:=@if_false
def pY:=@List.replicate_succ
def pZ:=@List.append_assoc
def qb:=@Nat.mul_comm
def qc:=@Option.getD_some
def qd:=@wpAny_of_eq
def qe:=@List.nodup_append
def qf:=@Nat.mul_zero
def rF:=@List.getElem?_set_self
def rG:=@Nat.lt_succ_self
def rH:=@wpAny_Call_Name_kw
def rJ:=@List.lookup_cons
def rK:=@wpAny_call_entry
def rL:=@Obj.data_mapFields
def rM:=@List.getElem?_range
def rN:=@size_push'
def rO:=@Bool.or_true
def rP:=@codeAny_builtin
def rQ:=@Prod.ext
def uy:=@beq_eq_false_iff_ne
def uz:=@List.getElem?_set_ne
def uA:=@Array.length_toList
def uB:=@codeAny_mono
def uC:=@List.length_replicate
def uD:=@Bool.and_false
def uE:=@List.find?_cons
def uF:=@List.map_nil
def uG:=@List.any_eq_true
def uH:=@Bool.false_eq_true
def uI:=@Bool.or_eq_true
def uJ:=@wpAny_newObj_type
def uK:=@List.all_map
def uL:=@Int.zero_add
def uM:=@wpAny_attempt
def uN:=@wpAny_setField
def uO:=@wpAny_rule
def uP:=@Nat.mul_le_mul
def uQ:=@Around.under_plainId
def uR:=@plainId_quiet
def uS:=@F.called_set
def uT:=@List.contains_cons
def xr:=@wpAny_passesOwn
def xt:=@Nat.ne_of_gt
def xu:=@wpAny_pyIter_list
def xw:=@List.flatten_cons
def xx:=@Txt.slice_le
def xy:=@wpAny_letGo
def xA:=@or_false
def xB:=@Nat.zero_add
def xC:=@F.plain_min_loop
def xD:=@decide_eq_true_iff
def xE:=@wpAny_loadPart_at
def xF:=@Bool.true_and
def xG:=@Int.eq_ofNat_of_zero_le
def xH:=@Nat.lt_succ_iff_lt_or_eq
def xI:=@Int.emod_nonneg
def Ax:=@Nat.le_of_lt
def Ay:=@Bool.eq_iff_iff
def Az:=@List.getElem?_append_right
def AA:=@List.getElem?_take_of_lt
def AB:=@List.any_cons
def AD:=@tupleKind_room_in1
def AE:=@List.cons.inj
def AH:=@beq_self_eq_true
def AJ:=@List.filter_map
def AK:=@isSubtype_type
def AL:=@wpAny_callSpecial?_slot
def AM:=@Heap.SameBut.update
def AN:=@wpAny_setField_rec
def AO:=@Nat.le_add_right
def AQ:=@List.mem_flatMap
def AR:=@List.mem_of_mem_take
def AS:=@Int.emod_lt_of_pos
def Ed:=@wpAny_execs_nil
def Ee:=@wpAny_standAt
def Ef:=@PyProof.Rows.callWith_type1
def Eg:=@List.any_eq_false
def Eh:=@Calls.spliced_cons
def Ei:=@PySem.W.callWith_K
def Ej:=@PySem.mem_of_lookup
def Ek:=@List.take_sublist
def El:=@List.length_nil
def Em:=@List.length_drop
def En:=@List.length_set
def Eo:=@List.length_singleton
def Ep:=@List.nil_append
def Er:=@Bool.and_true
def Es:=@Obj.isFreed_of_fields
def Et:=@List.length_reverse
def Eu:=@List.take_length
def Ew:=@wpAny_onRaise
def Ex:=@wpAny_tryCatch
def Ey:=@Nat.lt_or_ge
def Ez:=@Nat.mul_le_mul_right
def EA:=@Prod.ext_iff
def EB:=@StrLaws.found_one
def EC:=@List.filter_congr
def Lu:=@wpAny_pyIter_tuple
def Lv:=@PySem.W.plainGet_of
def Lw:=@PySem.W.looks_findIn
def Lx:=@List.getElem?_append_left
def Ly:=@wpAny_specialOf
def Lz:=@Nat.le_of_not_lt
def LB:=@List.forIn_cons
def LC:=@Bool.not_eq_true'
def LD:=@List.range_succ_eq_map
def LF:=@typeLookup_type
def LG:=@builtinLookup_eq_fast
def LH:=@wpAny_isInstance
def LJ:=@List.getElem?_reverse
def LK:=@List.sum_append
def LL:=@F.slot_zip_next
def LM:=@F.slot_tuple_iterator_next
def LN:=@Heap.get?_update_ne
def LO:=@codeAny_call_builtin
def LQ:=@wpAny_isSubtype_exc
def LR:=@Option.bind_some
def LU:=@List.flatMap_append
def LV:=@Nat.div_lt_of_lt_mul
def LW:=@List.mem_or_eq_of_mem_set
def LX:=@List.pairwise_iff_getElem
def LY:=@List.count_eq_zero
def LZ:=@PySem.F.plainAttrs_str
def L4:=@List.count_append
def L5:=@List.count_cons
def L6:=@List.map_congr_left
def L7:=@List.length_flatMap
def L8:=@List.mem_reverse
def Uy:=@List.getElem?_replicate
def Uz:=@Calls.callWith_builtin
def UA:=@Calls.evalArgs_plain
def UB:=@PySem.F.slot_dict_get
def UC:=@Array.getElem?_eq_some_iff
def UD:=@wpAny_updateSeq_pair
def UE:=@AutoSeq1.wpAny_loadPart'
def UG:=@F.slot_list_getattribute
def UH:=@List.mem_of_mem_drop
def UI:=@PySem.F.slot_str_join
def UJ:=@PySem.F.type_str_join
def UK:=@List.eq_of_mem_replicate
def UL:=@List.filter_eq_nil_iff
def UM:=@Classical.byContradiction
def UN:=@List.sum_replicate_nat
end
namespace L2
open PySem PySem.Spec PyProof.Rows
variable{vs xs:List V}{its us:List Value}{H:Hp}{C a b dx it:Addr}{o:Obj}{cd u:Value}{P prog:Program}{w:World}{base h:Heap}{g':Array GenState}{i j n t':Nat}{d':Drawn}{ch fp:List Addr}{pins uW:List (Addr×Obj)}{N ns ps:List Str}{x:Str}{M:Model}{A:Around}{E Q:Value->Shared->Prop}{v y:V}{s s':Shared}{X:Cx}{c e iter l tg:Expr}{α κ:Type}{pos:Pos}{O:St}{K:Frag}{body st:List Stmt}{tc:TT}{es:List Expr}{te tl:TE}{g:Int->Int->Int}{tb:TS}{R:Result->Shared->Prop}{lo:Int}{p:Addr×Obj}{pl:Sem Bool}{f:Value->Value->Sem Value}{r r':R2}{r8:CmpOp}{mA mg:Str->Option Value}{expr:Bool}{kw:List (Str×Value)}{outer:List Env}{fd:FuncData}{sc scope:Scope}
abbrev Key:=Sum Int Str
noncomputable def n0:Key->Value->Bool
 |.inl k,v=>Value.isInt k v
 |.inr x,v=>Value.isStrOf x v
noncomputable def UO(w:World):Key->Int
 |.inl k=>hashInt k
 |.inr x=>hashStr w x
theorem lM:∀{k:Key}{v:Value},n0 k v=true->(∃i t,k=Sum.inl i/\v=Value.int i t)\/(∃x t,k=Sum.inr x/\v=Value.str x t)
 |.inl i,v,h=>by
  obtain⟨t,e⟩:=Value.isInt_shape (k:=i) (v:=v) h
  exact .inl ⟨i,t,rfl,e⟩
 |.inr x,v,h=>by
  obtain⟨t,e⟩:=Value.isStrOf_shape (x:=x) (v:=v) h
  exact .inr ⟨x,t,rfl,e⟩
def UP(i:Int)(t:Tok):n0 (.inl i) (.int i t)=true:=by simp[n0,Value.isInt]
def ED(x:Str)(t:Tok):n0 (.inr x) (.str x t)=true:=by simp[n0,Value.isStrOf]
def UQ(a b:Int):decide ((Sum.inl a:Key)=Sum.inl b)=(a==b):=by
 by_cases e:a=b
 .subst e;simp
 .have h:¬(Sum.inl a:Key)=Sum.inl b:=λq=>e (Sum.inl.inj q)
  rw[aI h]
  exact(uy.mpr e).symm
def UR(a b:Str):decide ((Sum.inr a:Key)=Sum.inr b)=decide (a=b):=by
 by_cases e:a=b
 .subst e;simp
 .have h:¬(Sum.inr a:Key)=Sum.inr b:=λq=>e (Sum.inr.inj q)
  rw[aI h,aI e]
def US(a:Int)(b:Str):decide ((Sum.inl a:Key)=Sum.inr b)=false:=aI (λq=>nomatch q)
def UT(a:Str)(b:Int):decide ((Sum.inr a:Key)=Sum.inl b)=false:=aI (λq=>nomatch q)
noncomputable def dQ(prog:Program)(w:World):PySem.KeyKind prog w Key where
 is:=n0
 hash:=UO w
 inj:=λv a b ha hb=>by
  rcases lM ha with ⟨i,t,rfl,rfl⟩ | ⟨x,t,rfl,rfl⟩
  .rcases lM hb with ⟨j,u,rfl,e⟩ | ⟨y,u,rfl,e⟩
   .injection e with e1 _;rw[e1]
   .exact nomatch e
  .rcases lM hb with ⟨j,u,rfl,e⟩ | ⟨y,u,rfl,e⟩
   .exact nomatch e
   .injection e with e1 _;rw[e1]
 byValue:=λk v h=>by
  rcases lM h with ⟨i,t,rfl,rfl⟩ | ⟨x,t,rfl,rfl⟩ <;> rfl
 pyHash:=λhv h=>by
  rcases lM hv with ⟨i,t,rfl,rfl⟩ | ⟨x,t,rfl,rfl⟩
  .exact wpAny_pyHash_int h
  .exact wpAny_pyHash_str h
 eqBool:=λhu hv h=>by
  rcases lM hu with ⟨i,t,rfl,rfl⟩ | ⟨x,t,rfl,rfl⟩
  .rcases lM hv with ⟨j,u,rfl,rfl⟩ | ⟨y,u,rfl,rfl⟩
   .rw[UQ] at h;exact wpAny_eqBool_int h
   .rw[US] at h;exact SeqAt.EqAt.int_str i t y u _ _ _ _ h
  .rcases lM hv with ⟨j,u,rfl,rfl⟩ | ⟨y,u,rfl,rfl⟩
   .rw[UT] at h;exact SeqAt.EqAt.str_int x t j u _ _ _ _ h
   .rw[UR] at h;exact wpAny_eqBool_str h
 «strs»:=λk x t v h=>by
  rcases lM h with ⟨i,u,rfl,e⟩ | ⟨y,u,rfl,e⟩
  .exact nomatch e
  .injection e with e1 _
   subst e1
   cases v <;> rfl
def UU(prog:Program)(w:World)(i:Int)(t:Tok):(dQ prog w).is (.inl i) (.int i t)=true:=UP i t
def UW(prog:Program)(w:World)(x:Str)(t:Tok):(dQ prog w).is (.inr x) (.str x t)=true:=ED x t
inductive V where
 |aB | bl (b:Bool) | int (i:Int) | str (x:Str) | ji (b:Array UInt8) | rR (b:UInt64) | ref (a:Addr) | ty (n:String)
 deriving DecidableEq
def RelV:V->Value->Prop
 |.aB,u=>u=Value.none
 |.bl b,u=>u=Value.bool b
 |.int i,u=>∃t,u=Value.int i t
 |.str x,u=>∃t,u=Value.str x t
 |.ji b,u=>∃t,u=Value.bytes b t
 |.rR b,u=>∃t,u=Value.float b t
 |.ref a,u=>u=Value.ref a
 |.ty n,u=>u=Value.type n
abbrev Vals:List V->List Value->Prop:=Paired RelV
theorem Vals.length(r:Vals xs us):xs.length=us.length:=gE r
theorem Vals.get:∀{xs:List V}{us:List Value}{i:Nat}{x:V},Vals xs us->xs[i]? = some x->∃u,us[i]? = some u/\RelV x u
 |_,_,_,_,.nil,e=>by simp at e
 |_,_,0,_,.cons r _,e=>by simp at e;subst e;exact⟨_,rfl,r⟩
 |_,_,i+1,x,.cons _ t,e=>by
  obtain⟨u,h1,h2⟩:=Vals.get (i:=i) (x:=x) t (by simpa using e)
  exact⟨u,by simpa using h1,h2⟩
theorem Vals.set{x:V}{u:Value}(r:RelV x u):∀{xs:List V}{us:List Value}(i:Nat),Vals xs us->Vals (xs.set i x) (us.set i u)
 |_,_,_,.nil=>.nil
 |_,_,0,.cons _ t=>.cons r t
 |_,_,i+1,.cons q t=>.cons q (Vals.set r i t)
theorem Vals.append:∀{xs ys:List V}{us ws:List Value},Vals xs us->Vals ys ws->Vals (xs++ys) (us++ws)
 |_,_,_,_,.nil,s=>s
 |_,_,_,_,.cons r t,s=>.cons r (Vals.append t s)
theorem Vals.take:∀{xs:List V}{us:List Value}(n:Nat),Vals xs us->Vals (xs.take n) (us.take n)
 |_,_,0,_=>.nil
 |_,_,_+1,.nil=>.nil
 |_,_,n+1,.cons r t=>.cons r (Vals.take n t)
theorem Vals.drop:∀{xs:List V}{us:List Value}(n:Nat),Vals xs us->Vals (xs.drop n) (us.drop n)
 |_,_,0,r=>r
 |_,_,_+1,.nil=>.nil
 |_,_,n+1,.cons _ t=>Vals.drop n t
def gb:Option V->Option Value->Prop
 |some v,some u=>RelV v u
 |none,none=>True
 |_,_=>False
def KV{κ:Type}:List (κ×V)->List (κ×Value)->Prop:=Paired λ(p:κ×V) (q:κ×Value)=>p.1=q.1/\RelV p.2 q.2
noncomputable def kV:Key->V
 |.inl i=>.int i
 |.inr x=>.str x
inductive HO where
 |lst (xs:List V)
 |tup (xs:List V)
 |dK (kvs:List (Key×V)) | dT (kvs:List (List Key×V))
 |set (S:Int->Bool) (n:Nat)
 |ins (C dx:Addr) (fs:List (Str×V))
 |own (x:Addr)
 |xd (fs:List (Str×V))
 |met (f x:Addr)
 |kP (lo hi:Int)
 |eA (o:Obj) (u:HO)
 |n5 (ps:Array Value)
 |ext (φ:Heap->Prop)
abbrev Hp:=Addr->Option HO
noncomputable def upd(H:Hp)(a:Addr)(o:HO):Hp:=λb=>if b=a then some o else H b
def ao{o:HO}:upd H a o a=some o:=by unfold upd;rw[az rfl]
def ar{o:HO}(h:b≠a):upd H a o b=H b:=by unfold upd;rw[av h]
def L9{o u:HO}:upd (upd H a o) a u=upd H a u:=by
 funext b;unfold upd;split <;> rfl
def bT{o u:HO}(h:H a=some o)(h':H b=some u)(d:o≠u):a≠b:=by
 intro e;subst e;rw[h] at h';exact d (cY h')
def bC{o:HO}(h:H a=some o)(h':H b=none):a≠b:=by
 intro e;subst e;rw[h] at h';cases h'
section
variable(P:Program)(w:World)
def da(H:Hp)(h:Heap)(a:Addr):HO->Prop
 |.lst xs=>xs.length<=sizeLine/\∃(its:List Value) (n:Nat),Vals xs its/\h.get? a=some { cls := .type "list",data := .seq its.toArray n }
 |.tup xs=>xs.length<=sizeLine/\∃its:List Value,Vals xs its/\IsTup h a its.toArray
 |.dK kvs=>kvs.length<=sizeLine/\(a==sysModules)=false/\∃vs,KV kvs vs/\h.DictOf (dQ P w) a vs
 |.dT kvs=>kvs.length<=sizeLine/\(a==sysModules)=false/\∃xs:List (List Key×Addr×Value),
   Paired (λ(p:List Key×V) (q:List Key×Addr×Value)=>p.1=q.1/\H q.2.1=some (.tup (p.1.map kV))/\RelV p.2 q.2.2) kvs xs/\
   ∃o es ep,h.get? a=some o/\o.ExactDict/\o.data = .dict es ep/\es.toList=xs.map (entryOfKey (tupleKind (dQ P w)))/\(xs.map (·.1)).Nodup
 |.set S n=>h.SetOf (intKind P w) a S n
 |.ins C dx fs=>H dx=some (.own a)/\fs.length<=1000/\dx≠a/\h.get? a=some (instObj C dx)/\
   ∃mA,h.Ns1 dx mA/\(∀f,gb (fs.lookup f) (mA f))/\PySem.Within mA (fs.map (·.1))
 |.own _=>∃o,h.get? a=some o
 |.xd fs=>∃mA,h.Ns1 a mA/\∀f,gb (fs.lookup f) (mA f)
 |.kP lo hi=>∃t u v,h.get? a=some { cls := .type "range",data := .fields #[.int lo t,.int hi u,.int 1 v] }
 |.eA o u=>h.get? a=some o/\da H h a u
 |.n5 ps=>h.get? a=some { cls := .none,data := .fields ps }
 |.met f x=>h.get? a=some (methodObj (.ref f) (.ref x))
 |.ext φ=>φ h/\(∃o,h.get? a=some o)/\∀h1 h2:Heap,φ h1->(∀o,h1.get? a=some o->h2.get? a=some o)->φ h2
def dr(H:Hp)(h:Heap):Prop := ∀a o,H a=some o->da P w H h a o
end
section
variable{P:Program}{w:World}{H H':Hp}{h h':Heap}{a:Addr}{o:HO}
theorem da.lt(x:da P w H h a o):a<h.objs.size:=by
 cases o with
 |lst xs=>obtain⟨_,_,_,_,e⟩:=x;exact bA e
 |tup xs=>obtain⟨_,_,_,p⟩:=x;exact p.lt
 |dK kvs=>obtain⟨_,_,_,_,o,_,_,e,_⟩:=x;exact bA e
 |dT kvs=>obtain⟨_,_,_,_,o,_,_,e,_⟩:=x;exact bA e
 |set S n=>obtain⟨o,_,_,_,e,_⟩:=x;exact bA e
 |ins C dx fs=>obtain⟨_,_,_,e,_⟩:=x;exact bA e
 |own y=>obtain⟨_,e⟩:=x;exact bA e
 |xd fs=>obtain⟨_,⟨_,_,_,e,_⟩,_⟩:=x;exact bA e
 |kP lo hi=>obtain⟨_,_,_,e⟩:=x;exact bA e
 |eA ob u=>obtain⟨e,_⟩:=x;exact bA e
 |n5 ps=>exact bA (show h.get? a=some _ from x)
 |met f y=>exact bA (show h.get? a=some _ from x)
 |ext φ=>obtain⟨_,⟨_,e⟩,_⟩:=x;exact bA e
theorem Paired.bU{α β:Type}{F G:α->β->Prop}:∀{l₁:List α}{l₂:List β},Paired F l₁ l₂->(∀a b,F a b->G a b)->Paired G l₁ l₂
 |_,_,.nil,_=>.nil
 |_,_,.cons r t,f=>.cons (f _ _ r) (Paired.bU t f)
def da.jQ(x:da P w H h a o)(k:∀b u,(b=a\/H b=some (.own a))->h.get? b=some u->h'.get? b=some u)
  (ho:∀b,H b=some (.own a)->H' b=some (.own a)) (ht:∀b xs,H b=some (.tup xs)->H' b=some (.tup xs)):da P w H' h' a o:=by
 induction o with
 |lst xs=>obtain⟨z,its,n,r,e⟩:=x;exact⟨z,its,n,r,k _ _ (.inl rfl) e⟩
 |tup xs=>obtain⟨z,its,r,ob,e,c⟩:=x;exact⟨z,its,r,ob,k _ _ (.inl rfl) e,c⟩
 |dK kvs=>obtain⟨z,y,vs,r,ob,es,ep,e,c⟩:=x;exact⟨z,y,vs,r,ob,es,ep,k _ _ (.inl rfl) e,c⟩
 |dT kvs=>
  obtain⟨z,y,xs,r,ob,es,ep,e,c⟩:=x
  exact⟨z,y,xs,Paired.bU r λp q z=>⟨z.1,ht _ _ z.2.1,z.2.2⟩,ob,es,ep,k _ _ (.inl rfl) e,c⟩
 |set S n=>obtain⟨ob,es,ep,t,e,c⟩:=x;exact⟨ob,es,ep,t,k _ _ (.inl rfl) e,c⟩
 |ins C dx fs=>
  obtain⟨d,z,ne,e,mA,⟨od,es,ep,e2,c⟩,r⟩:=x
  exact⟨ho _ d,z,ne,k _ _ (.inl rfl) e,mA,⟨od,es,ep,k _ _ (.inr d) e2,c⟩,r⟩
 |own y=>obtain⟨ob,e⟩:=x;exact⟨ob,k _ _ (.inl rfl) e⟩
 |xd fs=>obtain⟨mA,⟨od,es,ep,e,c⟩,r⟩:=x;exact⟨mA,⟨od,es,ep,k _ _ (.inl rfl) e,c⟩,r⟩
 |kP lo hi=>obtain⟨t,u,v,e⟩:=x;exact⟨t,u,v,k _ _ (.inl rfl) e⟩
 |eA ob u ih=>obtain⟨e,q⟩:=x;exact⟨k _ _ (.inl rfl) e,ih q⟩
 |n5 ps=>
  have e:h.get? a=some { cls := .none,data := .fields ps }:=x
  show h'.get? a=some { cls := .none,data := .fields ps }
  exact k a _ (.inl rfl) e
 |met f y=>
  have e:h.get? a=some (methodObj (.ref f) (.ref y)):=x
  show h'.get? a=some (methodObj (.ref f) (.ref y))
  exact k a _ (.inl rfl) e
 |ext φ=>obtain⟨p,⟨o,e⟩,st⟩:=x;exact⟨st _ _ p λo q=>k _ _ (.inl rfl) q,⟨o,k _ _ (.inl rfl) e⟩,st⟩
theorem dr.lt(x:dr P w H h)(e:H a=some o):a<h.objs.size:=(x a o e).lt
def dr.fresh(x:dr P w H h)(e:h.objs.size<=a):H a=none:=by
 cases q:H a with
 |none=>rfl
 |some u=>exact absurd (gu (x.lt q) e) (pU _)
def dr.kept(x:dr P w H h)(k:∀b u,h.get? b=some u->h'.get? b=some u):dr P w H h':=λa o e=>
 (x a o e).jQ (λb u _ q=>k b u q) (λ_ q=>q) λ_ _ q=>q
def dr.laid(x:dr P w H h)(k:∀b u,h.get? b=some u->h'.get? b=some u)(hp:h.objs.size<=a)(new:da P w (upd H a o) h' a o):dr P w (upd H a o) h':=λb u e=>by
 have hn:=x.fresh hp
 by_cases hb:b=a
 .subst hb;rw[ao] at e;cases e;exact new
 .rw[ar hb] at e
  exact(x b u e).jQ (λc v _ q=>k c v q) (λc q=>by rw[ar (bC q hn)];exact q) λc xs q=>by rw[ar (bC q hn)];exact q
end
def Rd(H:Hp)(a:Addr)(u:HO):Prop:=H a=some u\/∃o,H a=some (.eA o u)
def Rd.ok{u:HO}(r:Rd H a u)(x:dr P w H h):da P w H h a u:=by
 rcases r with r | ⟨o,r⟩
 .exact x a u r
 .obtain⟨_,q⟩:=x a _ r
  exact q
def xJ:Option HO->Prop
 |some (.lst _)=>True
 |some (.dK _)=>True
 |some (.dT _)=>True
 |some (.set _ _)=>True
 |some (.ins _ _ _)=>True
 |some (.ext _)=>True
 |_=>False
section
variable{P:Program}{w:World}{H:Hp}{h h':Heap}{x e:Addr}{o':HO}
def dr.write(ok:dr P w H h)(mu:xJ (H x))(he:e=x\/H e=some (.own x))(k:∀b u,b≠e->h.get? b=some u->h'.get? b=some u)(uU:∃u,h'.get? e=some u)
  (new:da P w (upd H x o') h' x o'):dr P w (upd H x o') h':=λb u q=>by
 have Ma:∀c y,H c=some (.own y)->c≠x:=λc y r z=>by subst z;rw[r] at mu;exact mu
 have UX:∀c xs,H c=some (.tup xs)->c≠x:=λc xs r z=>by subst z;rw[r] at mu;exact mu
 by_cases hb:b=x
 .subst hb;rw[ao] at q;cases q;exact new
 .rw[ar hb] at q
  by_cases jR:b=e
  .have q':H b=some (.own x):=by
    rcases he with z | z
    .exact absurd (jR.trans z) hb
    .rw[jR];exact z
   rw[q] at q';cases q'
   obtain⟨v,hv⟩:=uU
   exact⟨v,by rw[jR];exact hv⟩
  .refine(ok b u q).jQ (λc v hc r=>k c v ?_ r) (λc r=>by rw[ar (Ma c b r)];exact r) λc xs r=>by rw[ar (UX c xs r)];exact r
   rcases hc with rfl | hc
   .exact jR
   .rintro rfl
    rcases he with z | z
    .exact Ma c b hc z
    .rw[hc] at z;cases z;exact hb rfl
end
structure Un(fs ex:List Addr)(H H':Hp)(h h':Heap):Prop where
 keep:∀b o,h.get? b=some o->H b=none->b∉fs->b∉ex->h'.get? b=some o
 slot:∀b o,h.get? b=some o->H b=none->b∈fs->b∉ex->∃sl,h'.get? b=some { o with slots:=sl }
 free:∀b o,h.get? b=some o->H b=none->b∉ex->H' b=none
 there:∀b o,h.get? b=some o->b∉ex->∃o',h'.get? b=some o'
 gc:∀b xs,H b=some (.tup xs)->H' b=some (.tup xs)
 jj:∀b o u,H b=some (.eA o u)->H' b=some (.eA o u)
 jS:∀b ps,H b=some (.n5 ps)->∃more,H' b=some (.n5 (ps++more))
section
variable{fs xK ex ex':List Addr}{H H1 H2:Hp}{h h1 h2 h':Heap}{a x e:Addr}{o:HO}
def Un.any(u:Un fs ex H H1 h h1){ob:Obj}(q:h.get? b=some ob)(n:H b=none)(hx:b∉ex):∃sl,h1.get? b=some { ob with slots:=sl }:=by
 by_cases hb:b∈fs
 .exact u.slot b ob q n hb hx
 .exact⟨ob.slots,u.keep b ob q n hb hx⟩
def Un.kept(k:∀b u,h.get? b=some u->h'.get? b=some u):Un fs ex H H h h':=
 ⟨λb ob q _ _ _=>k b ob q,λb ob q _ _ _=>⟨ob.slots,k b ob q⟩,λ_ _ _ n _=>n,λb ob q _=>⟨ob,k b ob q⟩,λ_ _ q=>q,λ_ _ _ q=>q,λ_ ps q=>⟨#[],by rw[q];simp⟩⟩
def Un.refl:Un fs ex H H h h:=Un.kept λ_ _ q=>q
def Un.laid(k:∀b u,h.get? b=some u->h'.get? b=some u)(hp:h.objs.size<=a)(hn:H a=none):Un fs ex H (upd H a o) h h' where
 keep:=λb u q _ _ _=>k b u q
 slot:=λb u q _ _ _=>⟨u.slots,k b u q⟩
 free:=λb u q n _=>by rw[ar (bR (gu (bA q) hp))];exact n
 there:=λb u q _=>⟨u,k b u q⟩
 gc:=λb xs q=>by rw[ar (bC q hn)];exact q
 jj:=λb u xs q=>by rw[ar (bC q hn)];exact q
 jS:=λb ps q=>⟨#[],by rw[ar (bC q hn),q];simp⟩
def Un.write(mu:xJ (H x))(he:e=x\/H e=some (.own x))(k:∀b u,b≠e->h.get? b=some u->h'.get? b=some u)(uU:∃u,h'.get? e=some u):Un fs ex H (upd H x o) h h':=by
 have hx:∀b,H b=none->b≠x:=λb n z=>by subst z;rw[n] at mu;exact mu
 have hb:∀b,H b=none->b≠e:=λb n z=>by
  subst z
  rcases he with r | r
  .exact hx b n r
  .rw[n] at r;cases r
 have hm:∀b u,H b=some u->¬xJ (some u)->b≠x:=λb u q nm z=>by subst z;rw[q] at mu;exact nm mu
 refine⟨λb u q n _ _=>k b u (hb b n) q,λb u q n _ _=>⟨u.slots,k b u (hb b n) q⟩,λb u q n _=>by rw[ar (hx b n)];exact n,λb u q _=>?_,
  λb xs q=>by rw[ar (hm b _ q λz=>z)];exact q,λb u xs q=>by rw[ar (hm b _ q λz=>z)];exact q,λb ps q=>⟨#[],by rw[ar (hm b _ q λz=>z),q];simp⟩⟩
 by_cases jR:b=e
 .subst jR;exact uU
 .exact⟨u,k b u jR q⟩
end
noncomputable def AU(h:Heap)(H:Hp):List Addr:=(List.range h.objs.size).filter λa=>(H a).isSome
noncomputable def n6(h:Heap)(H:Hp):Heap:=PySem.W.hideAll h (AU h H)
def UY(h:Heap)(H:Hp):(n6 h H).objs.size=h.objs.size:=PySem.W.hideAll_size _ _
def UZ(e:h.get? b=some o)(n:H b=none):(n6 h H).get? b=some o:=
 PySem.W.hideAll_get _ e λhm=>by
  have q:(H b).isSome=true:=(cq.mp hm).2
  rw[n] at q;simp at q
def U0(e:(n6 h H).get? b=some o):h.get? b=some o/\H b=none:=by
 have e':h.get? b=some o:=PySem.W.of_hideAll (AU h H) e
 refine⟨e',?_⟩
 cases q:H b with
 |none=>rfl
 |some x=>
  have hm:b∈AU h H:=cq.mpr ⟨iK.mpr (bA e'),by simp[q]⟩
  have z:(n6 h H).get? b=none:=PySem.W.hideAll_none (AU h H) hm
  rw[z] at e;cases e
structure Mod(K:Frag)(mg:Str->Option Value)(base:Heap):Prop where
 n8:K.In base
 glob:base.Ns mainGlobals mg
 blt:∃mb,base.Ns builtinsNs mb/\∀x:Str,x≠"__name__"->mb x=bootBuiltins x
 nolimit:base.NoLimit
structure Cx where
 prog:Program
 w:World
 K:Frag
 mg:Str->Option Value
 base:Heap
 A:Around
 N:List Str
 s₀:Shared
 H₀:Hp
 env:Env
 outer:List Env
 stack:List Env
 ex:List Addr
 fn:Str->Bool
 calm:Bool
 pn:List (Addr×Obj)
 xe:Value->Shared->Prop
noncomputable def gh(l:List Env):List Addr:=l.filterMap (·.frame)
noncomputable abbrev Cx.fs(X:Cx):List Addr:=gh X.outer
def EE(sc:Scope)(x:Str):Prop:=sc.names.lookup x=some .local\/sc.names.lookup x=some .cell\/sc.names.lookup x=some .free
def Loc(sc:Scope)(x:Str):Prop:=sc.names.lookup x=some .local\/sc.names.lookup x=some .cell
def Look(env:Env)(h:Heap)(m:Str->Option Value)(x:Str)(u:Value):Prop:=
 (env.kindOf x=some .local/\m x=some u)\/((env.kindOf x=some .cell\/env.kindOf x=some .free)/\∃c,env.cells.lookup x=some c/\h.IsCell c (some u))
structure Cx.Ok(X:Cx):Prop where
 mod:Mod X.K X.mg X.base
 kind:X.env.scope.kind = .function
 glob:X.env.globals=mainGlobals
 blt:X.env.builtins=builtinsNs
 above:X.s₀.heap.objs.size<=X.env.locals
 inj:∀x y c,X.env.cells.lookup x=some c->X.env.cells.lookup y=some c->x=y
 has:∀x,(X.env.kindOf x=some .cell\/X.env.kindOf x=some .free)->∃c,X.env.cells.lookup x=some c
 qg:∀x c,X.fn x=true->X.env.cells.lookup x=some c->X.s₀.heap.objs.size<=c
 hd:X.calm=true->X.A.handled=none
 frames:X.A.frames=some X.stack
 rS:X.stack=X.outer\/(X.stack=X.env::X.outer/\X.env.frame=some X.env.locals)
 xM:∀b∈X.ex,b≠X.env.locals/\∀x c,X.env.cells.lookup x=some c->c≠b
 bs:∀b o,X.base.get? b=some o->X.s₀.heap.get? b=some o/\X.H₀ b=none
 kQ:X.base.objs.size<=X.s₀.heap.objs.size
 mV:∀b o,X.base.get? b=some o->b∉X.ex
 rT:∀b∈X.ex,b∉X.fs
 ig:X.s₀.heap.FunFrames X.base X.outer
 lN:∀b∈X.fs,X.H₀ b=none
structure Inv(X:Cx)(pins:List (Addr×Obj))(O:List (Option V))(H:Hp)(s:Shared):Prop where
 ok:X.Ok
 os:s.os=X.s₀.os
 bare:AllBare s.gens
 base:Un X.fs X.ex X.H₀ H X.s₀.heap s.heap
 loc:∃m,s.heap.Ns X.env.locals m/\∀(i:Nat) (x:Str) (v:V),X.N[i]? = some x->O[i]? = some (some v)->EE X.env.scope x->∃u,RelV v u/\Look X.env s.heap m x u
 cell:∀x c,X.env.cells.lookup x=some c->∃v,s.heap.IsCell c v
 free:H X.env.locals=none
 dk:∀x c,X.env.cells.lookup x=some c->H c=none
 pin:∀p∈X.pn++pins,s.heap.get? p.1=some p.2/\H p.1=none/\p.1≠X.env.locals/\p.1∉X.fs/\∀v,p.2.data ≠ .cell v
 aA:dr X.prog X.w H s.heap
 len:O.length=X.N.length
section
variable{X:Cx}{pins:List (Addr×Obj)}{O:List (Option V)}{H H':Hp}{s:Shared}{h':Heap}
def Cx.Ok.U1(ok:X.Ok)(e:X.base.get? b=some o):b∉X.fs:=λhb=>by
 have:=(ok.ig.mem hb).1
 rw[e] at this;cases this
theorem Inv.bs(I:Inv X pins O H s):∀b o,X.base.get? b=some o->s.heap.get? b=some o/\H b=none:=λb o e=>
 ⟨I.base.keep b o (I.ok.bs b o e).1 (I.ok.bs b o e).2 (I.ok.U1 e) (I.ok.mV b o e),I.base.free b o (I.ok.bs b o e).1 (I.ok.bs b o e).2 (I.ok.mV b o e)⟩
def Inv.bk(I:Inv X pins O H s):∀b o,X.base.get? b=some o->s.heap.get? b=some o:=λb o e=>(I.bs b o e).1
theorem Inv.mod(I:Inv X pins O H s):Mod X.K X.mg X.base:=I.ok.mod
def Inv.cG(I:Inv X pins O H s):X.K.In s.heap:=I.ok.mod.n8.keeps I.bk
theorem Inv.lt(I:Inv X pins O H s):X.env.locals<s.heap.objs.size:=let ⟨_,hn,_⟩:=I.loc;hn.lt
def Inv.sz(I:Inv X pins O H s):X.s₀.heap.objs.size<=s.heap.objs.size:=bF I.ok.above (Ax I.lt)
def Inv.U2(I:Inv X pins O H s)(h:s.heap.objs.size<=a):a∉X.fs:=λhb=>by
 obtain⟨_,o,ho,_⟩:=I.ok.ig.mem hb
 exact absurd (gu (bA ho) (bF I.sz h)) (pU _)
def Inv.qh(I:Inv X pins O H s):∀x c,X.env.cells.lookup x=some c->c≠X.env.locals:=λx c e z=>by
 obtain⟨v,o,ho,hd⟩:=I.cell x c e
 obtain⟨m,⟨o',es,ep,lO,uV,_⟩,_⟩:=I.loc
 rw[z,lO] at ho;cases ho;rw[uV] at hd;cases hd
theorem Inv.ig(I:Inv X pins O H s):s.heap.FunFrames X.base X.outer:=by
 have all:∀(l:List Env),(∀b∈gh l,b∈X.fs)->X.s₀.heap.FunFrames X.base l->s.heap.FunFrames X.base l:=by
  intro l
  induction l with
  |nil=>intro _ _;trivial
  |cons env r ih=>
   intro hs hl
   obtain⟨hk,⟨L,o,hf,hn,ho,hd⟩,hr⟩:=hl
   have hL:L∈X.fs:=hs L (by unfold gh;rw[List.filterMap_cons,hf];exact bz)
   obtain⟨sl,e⟩:=I.base.slot L o ho (I.ok.lN L hL) hL λz=>I.ok.rT L z hL
   exact⟨hk,⟨L,_,hf,hn,e,hd⟩,ih (λb hb=>hs b (by unfold gh;rw[List.filterMap_cons,hf];exact bX _ hb)) hr⟩
 exact all X.outer (λ_ hb=>hb) I.ok.ig
theorem Inv.stack(I:Inv X pins O H s):s.heap.FunFrames X.base X.stack:=by
 rcases I.ok.rS with e | ⟨e,hf⟩
 .rw[e];exact I.ig
 .rw[e]
  obtain⟨m,hn,_⟩:=I.loc
  refine .cons (by rw[I.ok.kind];decide) hf hn ?_ I.ig
  exact Heap.get?_none_of_le (bF I.ok.kQ I.ok.above)
def Inv.xN(I:Inv X pins O H s):∀b∈gh X.stack,b∈X.env.locals::X.fs:=λb hb=>by
 rcases I.ok.rS with e | ⟨e,hf⟩
 .rw[e] at hb;exact bX _ hb
 .rw[e] at hb
  unfold gh at hb
  rw[List.filterMap_cons,hf] at hb
  exact hb
def Inv.AV(I:Inv X pins O H s):∀b∈gh X.stack,H b=none:=λb hb=>by
 rcases cw.mp (I.xN b hb) with e | hb
 .rw[e];exact I.free
 .obtain⟨_,o,ho,_⟩:=I.ok.ig.mem hb
  exact I.base.free b o ho (I.ok.lN b hb) λz=>I.ok.rT b z hb
def Inv.step(I:Inv X pins O H s)
  (hch:∀b∈ch,(b∈X.ex\/X.s₀.heap.objs.size<=b)/\b≠X.env.locals/\(∀x c,X.env.cells.lookup x=some c->c≠b)/\∀p∈X.pn++pins,p.1≠b)
  (keep:∀b o,b≠X.env.locals->b∉X.fs->b∉ch->s.heap.get? b=some o->H b=none->h'.get? b=some o)
  (slot:∀b o,b≠X.env.locals->b∈X.fs->b∉ch->s.heap.get? b=some o->H b=none->∃sl,h'.get? b=some { o with slots:=sl }) (free:∀b o,b∉ch->s.heap.get? b=some o->H b=none->H' b=none)
  (there:∀b o,b∉ch->s.heap.get? b=some o->∃o',h'.get? b=some o')
  (gc:∀b xs,H b=some (.tup xs)->H' b=some (.tup xs)) (jj:∀b o u,H b=some (.eA o u)->H' b=some (.eA o u)) (jS:∀b ps,H b=some (.n5 ps)->∃more,H' b=some (.n5 (ps++more)))
  (ns:∀m,s.heap.Ns X.env.locals m->h'.Ns X.env.locals m) (aA:dr X.prog X.w H' h') (hg:AllBare g') :
  Inv X pins O H' { s with heap:=h',gens:=g',drawn:=d',toks:=t' }:=by
 have Mb:∀b o,X.s₀.heap.get? b=some o->b≠X.env.locals:=λb o e=>bR (gu (bA e) I.ok.above)
 have AW:∀b o,X.s₀.heap.get? b=some o->b∉X.ex->b∉ch:=λb o e hx hb=>by
  rcases(hch b hb).1 with z | z
  .exact hx z
  .exact absurd (gu (bA e) z) (pU _)
 have cellK:∀x c,X.env.cells.lookup x=some c->∀v,s.heap.IsCell c v->h'.IsCell c v:=λx c e v ⟨o,ho,hd⟩=>by
  have xO:c∉ch:=λz=>(hch c z).2.2.1 x c e rfl
  by_cases hc:c∈X.fs
  .obtain⟨sl,q⟩:=slot c o (I.qh x c e) hc xO ho (I.dk x c e)
   exact⟨_,q,hd⟩
  .exact⟨o,keep c o (I.qh x c e) hc xO ho (I.dk x c e),hd⟩
 refine⟨I.ok,I.os,hg,⟨λb o e n hb hx=>?_,λb o e n hb hx=>?_,λb o e n hx=>?_,λb o e hx=>?_,λb xs e=>gc b xs (I.base.gc b xs e),λb o xs e=>jj b o xs (I.base.jj b o xs e),λb ps e=>?_⟩,?_,λx c e=>?_,?_,λx c e=>?_,λp hp=>?_,aA,I.len⟩
 .exact keep b o (Mb b o e) hb (AW b o e hx) (I.base.keep b o e n hb hx) (I.base.free b o e n hx)
 .obtain⟨sl,e1⟩:=I.base.slot b o e n hb hx
  obtain⟨rV,e2⟩:=slot b _ (Mb b o e) hb (AW b o e hx) e1 (I.base.free b o e n hx)
  exact⟨rV,e2⟩
 .obtain⟨o',e1⟩:=I.base.there b o e hx
  exact free b o' (AW b o e hx) e1 (I.base.free b o e n hx)
 .obtain⟨o',e1⟩:=I.base.there b o e hx
  exact there b o' (AW b o e hx) e1
 .obtain⟨m1,e1⟩:=I.base.jS b ps e
  obtain⟨m2,e2⟩:=jS b _ e1
  exact⟨m1++m2,by rw[e2,Array.append_assoc]⟩
 .obtain⟨m,hn,hl⟩:=I.loc
  refine⟨m,ns m hn,λi x v e1 e2 e3=>?_⟩
  obtain⟨u,r,l⟩:=hl i x v e1 e2 e3
  refine⟨u,r,?_⟩
  rcases l with l | ⟨k,c,e,z⟩
  .exact .inl l
  .exact .inr ⟨k,c,e,cellK x c e _ z⟩
 .obtain⟨v,z⟩:=I.cell x c e
  exact⟨v,cellK x c e v z⟩
 .obtain⟨m,⟨o,_,_,ho,_⟩,_⟩:=I.loc
  exact free _ o (λz=>(hch _ z).2.1 rfl) ho I.free
 .obtain⟨v,o,ho,hd⟩:=I.cell x c e
  exact free c o (λz=>(hch c z).2.2.1 x c e rfl) ho (I.dk x c e)
 .obtain⟨e,n,ne,nf,d⟩:=I.pin p hp
  have xO:p.1∉ch:=λz=>(hch p.1 z).2.2.2 p hp rfl
  exact⟨keep p.1 p.2 ne nf xO e n,free p.1 p.2 xO e n,ne,nf,d⟩
def Inv.un(I:Inv X pins O H s)(u:Un X.fs [] H H' s.heap h')(aA:dr X.prog X.w H' h'):Inv X pins O H' { s with heap:=h',toks:=t' }:=by
 obtain⟨m,⟨o,es,ep,ho,r⟩,_⟩:=id I.loc
 obtain⟨sl,hL⟩:=u.any ho I.free (by simp)
 exact I.step (g':=s.gens) (d':=s.drawn) (ch:=[]) (λ_ z=>nomatch z) (λb o _ hb _ e n=>u.keep b o e n hb (by simp)) (λb o _ hb _ e n=>u.slot b o e n hb (by simp)) (λb o _ e n=>u.free b o e n (by simp)) (λb o _ e=>u.there b o e (by simp)) u.gc u.jj u.jS (λm' hm=>by
  obtain⟨o',EF,EG,lO,r'⟩:=hm
  rw[ho] at lO;cases lO
  exact⟨_,EF,EG,hL,r'⟩) aA I.bare
def Inv.call(I:Inv X pins O H s)(u:Un (gh X.stack) ch H H' s.heap h')(aA:dr X.prog X.w H' h')(hg:AllBare g')
  (hch:∀b∈ch,(b∈X.ex\/X.s₀.heap.objs.size<=b)/\b≠X.env.locals/\(∀x c,X.env.cells.lookup x=some c->c≠b)/\∀p∈X.pn++pins,p.1≠b) :
  Inv X pins O H' { s with heap:=h',gens:=g',drawn:=d',toks:=t' }:=by
 obtain⟨m,⟨o,es,ep,ho,r⟩,_⟩:=id I.loc
 obtain⟨sl,hL⟩:=u.any ho I.free λz=>(hch _ z).2.1 rfl
 exact I.step (ch:=ch) hch (λb o hL hb hc e n=>u.keep b o e n (λz=>(cw.mp (I.xN b z)).elim hL hb) hc) (λb o _ _ hc e n=>u.any e n hc) (λb o hc e n=>u.free b o e n hc) (λb o hc e=>u.there b o e hc) u.gc u.jj u.jS (λm' hm=>by
  obtain⟨o',EF,EG,lO,r'⟩:=hm
  rw[ho] at lO;cases lO
  exact⟨_,EF,EG,hL,r'⟩) aA hg
def Inv.turned(I:Inv X pins O H s)(k:∀b o,b≠it->s.heap.get? b=some o->h'.get? b=some o)(hn:H it=none)(hL:it≠X.env.locals)
  (h1:it∈X.ex\/X.s₀.heap.objs.size<=it) (h2:∀x c,X.env.cells.lookup x=some c->c≠it) (h3:∀p∈X.pn++pins,p.1≠it):Inv X pins O H { s with heap:=h',toks:=t' }:=by
 have Mc:∀b u,H b=some u->b≠it:=λb u e z=>by rw[z,hn] at e;cases e
 refine I.step (g':=s.gens) (d':=s.drawn) (ch:=[it]) (λb hb=>?_) (λb o _ _ hc e _=>k b o (λz=>hc (by simp[z])) e) (λb o _ _ hc e _=>⟨o.slots,k b o (λz=>hc (by simp[z])) e⟩) (λ_ _ _ _ n=>n)
  (λb o hc e=>⟨o,k b o (λz=>hc (by simp[z])) e⟩) (λ_ _ e=>e) (λ_ _ _ e=>e) (λb ps e=>⟨#[],by rw[e];simp⟩) (λm hm=>?_) (λb u e=>?_) I.bare
 .have e:b=it:=by simpa using hb
  subst e
  exact⟨h1,hL,h2,h3⟩
 .obtain⟨o,es,ep,ho,r⟩:=hm
  exact⟨o,es,ep,k _ o (bo hL) ho,r⟩
 .refine(I.aA b u e).jQ (λc v hc q=>k c v ?_ q) (λ_ q=>q) λ_ _ q=>q
  rcases hc with z | z
  .rw[z];exact Mc b u e
  .exact Mc c _ z
def Inv.tok(I:Inv X pins O H s)(t:Nat):Inv X pins O H { s with toks:=t }:=I.un (h':=s.heap) (t':=t) Un.refl I.aA
theorem Inv.kept{t':Nat}(I:Inv X pins O H s)(k:∀b u,s.heap.get? b=some u->h'.get? b=some u):Inv X pins O H { s with heap:=h',toks:=t' }:=I.un (Un.kept k) (I.aA.kept k)
theorem Inv.laid{a:Addr}{o:HO}{t':Nat}(I:Inv X pins O H s)(k:∀b u,s.heap.get? b=some u->h'.get? b=some u)(hp:s.heap.objs.size<=a)(new:da X.prog X.w (upd H a o) h' a o) :
  Inv X pins O (upd H a o) { s with heap:=h',toks:=t' }:=I.un (Un.laid k hp (I.aA.fresh hp)) (I.aA.laid k hp new)
theorem Inv.write{x e:Addr}{o:HO}{t':Nat}(I:Inv X pins O H s)(mu:xJ (H x))(he:e=x\/H e=some (.own x))(k:∀b u,b≠e->s.heap.get? b=some u->h'.get? b=some u)(uU:∃u,h'.get? e=some u)
  (new:da X.prog X.w (upd H x o) h' x o):Inv X pins O (upd H x o) { s with heap:=h',toks:=t' }:=I.un (Un.write mu he k uU) (I.aA.write mu he k uU new)
def Inv.xP(I:Inv X pins O H s)(h:∀p∈uW,s.heap.get? p.1=some p.2/\H p.1=none/\p.1≠X.env.locals/\p.1∉X.fs/\∀v,p.2.data ≠ .cell v):Inv X uW O H s:=
 ⟨I.ok,I.os,I.bare,I.base,I.loc,I.cell,I.free,I.dk,λp hp=>(cS.mp hp).elim (λz=>I.pin p (mQ _ z)) (h p),I.aA,I.len⟩
def EH(hN:N.Nodup)(a:N[i]? = some x)(b:N[j]? = some x):i=j:=by
 obtain⟨h1,e1⟩:=bY.mp a
 obtain⟨h2,e2⟩:=bY.mp b
 exact(List.getElem_inj hN).mp (e1.trans e2.symm)
def U3{Q:Unit->Shared->Prop}(I:Inv X pins O H s)(hN:X.N.Nodup)(hi:X.N[i]? = some x)(hx:Loc X.env.scope x)(r:RelV v u)
  (h:∀s',Inv X pins (O.set i (some v)) H s'->(∃a,Heap.SameBut a s.heap s'.heap/\(a=X.env.locals\/X.env.cells.lookup x=some a))->Q () s') (hf:X.fn x=true\/X.env.scope.names.lookup x=some .local:=by first | exact .inl rfl | exact .inr rfl | assumption):wpAny M A (storeName X.env x u) Q E s:=by
 obtain⟨m,hn,hl⟩:=id I.loc
 have EI:(X.env.scope.kind == .class||(X.env.scope.kind == .module&&X.env.locals != X.env.globals))=false:=by rw[I.ok.kind];rfl
 have xQ:i<O.length:=by rw[I.len];exact(bY.mp hi).1
 have qh:=I.qh
 have tracked:∀{a:Addr}{h':Heap},(∃o,s.heap.get? a=some o/\H a=none)->Heap.SameBut a s.heap h'->dr X.prog X.w H h':=λ{a h'} ha hs b ob e=>by
  obtain⟨_,_,Md⟩:=ha
  refine(I.aA b ob e).jQ (λc w' hc q=>(hs.2 c ?_).trans q) (λ_ q=>q) λ_ _ q=>q
  rintro rfl
  rcases hc with rfl | hc
  .rw[Md] at e;cases e
  .rw[Md] at hc;cases hc
 rcases hx with hk | hk
 .refine wpAny_storeName_local hk hn (λh' U4 hs=>?_) EI
  obtain⟨oL,_,_,xR,_⟩:=id hn
  refine h _ ⟨I.ok,I.os,I.bare,⟨λb o e n hb hx=>?_,λb o e n hb hx=>?_,I.base.free,λb o e hx=>?_,I.base.gc,I.base.jj,I.base.jS⟩,⟨_,U4,λj y v' e1 e2 e3=>?_⟩,λy c e=>?_,I.free,I.dk,λp hp=>?_,tracked ⟨oL,xR,I.free⟩ hs,by simpa using I.len⟩ ⟨_,hs,.inl rfl⟩
  .exact(hs.2 b (bR (gu (bA e) I.ok.above))).trans (I.base.keep b o e n hb hx)
  .obtain⟨sl,e1⟩:=I.base.slot b o e n hb hx
   exact⟨sl,(hs.2 b (bR (gu (bA e) I.ok.above))).trans e1⟩
  .obtain⟨o',e1⟩:=I.base.there b o e hx
   exact⟨o',(hs.2 b (bR (gu (bA e) I.ok.above))).trans e1⟩
  .by_cases hj:j=i
   .subst hj
    rw[hi] at e1;cases e1
    rw[rF xQ] at e2
    cases e2
    exact⟨u,r,.inl ⟨hk,by simp⟩⟩
   .rw[uz (bo hj)] at e2
    obtain⟨u',r',q⟩:=hl j y v' e1 e2 e3
    refine⟨u',r',?_⟩
    rcases q with ⟨k,e⟩ | ⟨k,c,e,z⟩
    .refine .inl ⟨k,?_⟩
     have:y≠x:=λe=>hj (EH hN e1 (e ▸ hi))
     simp[this,e]
    .exact .inr ⟨k,c,e,z.sameBut hs (qh y c e)⟩
  .obtain⟨w',z⟩:=I.cell y c e
   exact⟨w',z.sameBut hs (qh y c e)⟩
  .obtain⟨e,n,ne,nf,d⟩:=I.pin p hp
   exact⟨(hs.2 p.1 ne).trans e,n,ne,nf,d⟩
 .have EJ:X.fn x=true:=by
   rcases hf with z | z
   .exact z
   .rw[z] at hk;cases hk
  obtain⟨c,hc⟩:=I.ok.has x (.inl hk)
  obtain⟨w',z⟩:=I.cell x c hc
  refine wpAny_storeName_cell I.ok.kind hk hc z (λh' jT hs=>?_)
  obtain⟨oc,qi,U5⟩:=id z
  refine h { s with heap:=h' } ⟨I.ok,I.os,I.bare,⟨λb o e n hb hx=>?_,λb o e n hb hx=>?_,I.base.free,λb o e hx=>?_,I.base.gc,I.base.jj,I.base.jS⟩,⟨m,hn.sameBut hs (bo (qh x c hc)),λj y v' e1 e2 e3=>?_⟩,λy c' e=>?_,I.free,I.dk,λp hp=>?_,tracked ⟨oc,qi,I.dk x c hc⟩ hs,by simpa using I.len⟩ ⟨c,hs,.inr hc⟩
  .exact(hs.2 b (bR (gu (bA e) (I.ok.qg x c EJ hc)))).trans (I.base.keep b o e n hb hx)
  .obtain⟨sl,e1⟩:=I.base.slot b o e n hb hx
   exact⟨sl,(hs.2 b (bR (gu (bA e) (I.ok.qg x c EJ hc)))).trans e1⟩
  .obtain⟨o',e1⟩:=I.base.there b o e hx
   exact⟨o',(hs.2 b (bR (gu (bA e) (I.ok.qg x c EJ hc)))).trans e1⟩
  .by_cases hj:j=i
   .subst hj
    rw[hi] at e1;cases e1
    rw[rF xQ] at e2
    cases e2
    exact⟨u,r,.inr ⟨.inl hk,c,hc,jT⟩⟩
   .rw[uz (bo hj)] at e2
    obtain⟨u',r',q⟩:=hl j y v' e1 e2 e3
    refine⟨u',r',?_⟩
    rcases q with q | ⟨k,c',e,z'⟩
    .exact .inl q
    .refine .inr ⟨k,c',e,z'.sameBut hs ?_⟩
     rintro rfl
     exact hj (EH hN e1 (I.ok.inj _ _ _ e hc ▸ hi))
  .by_cases hcc:c'=c
   .subst hcc;exact⟨_,jT⟩
   .obtain⟨w2,z2⟩:=I.cell y c' e
    exact⟨w2,z2.sameBut hs hcc⟩
  .obtain⟨e,n,ne,nf,d⟩:=I.pin p hp
   refine⟨(hs.2 p.1 ?_).trans e,n,ne,nf,d⟩
   intro q
   rw[q,qi] at e
   have q':oc=p.2:=cY e
   exact d w' (by rw[<-q'];exact U5)
def xS{Q:Unit->Shared->Prop}(I:Inv X pins O H s)(hN:X.N.Nodup)(hi:X.N[i]? = some x)(hx:Loc X.env.scope x)(r:RelV v u)
  (h:∀s',Inv X pins (O.set i (some v)) H s'->Q () s') (hf:X.fn x=true\/X.env.scope.names.lookup x=some .local:=by first | exact .inl rfl | exact .inr rfl | assumption):wpAny M A (storeName X.env x u) Q E s:=
 U3 I hN hi hx r (λs' I' _=>h s' I') hf
def Inv.uX(I:Inv X pins O H s)(ho:s'.os=s.os)(u:Un (gh X.stack) ch H H' s.heap s'.heap)(aA:dr X.prog X.w H' s'.heap)(hg:AllBare s'.gens)
  (hch:∀b∈ch,(b∈X.ex\/X.s₀.heap.objs.size<=b)/\b≠X.env.locals/\(∀x c,X.env.cells.lookup x=some c->c≠b)/\∀p∈X.pn++pins,p.1≠b):Inv X pins O H' s':=by
 obtain⟨h',g',d',t',o'⟩:=s'
 have e:o'=s.os:=ho
 subst e
 exact I.call (g':=g') (t':=t') (d':=d') u aA hg hch
end
abbrev XK:=Value->Option Addr->Hp->Prop
abbrev St:=List (Option V)
abbrev VK:=V->Hp->Prop
abbrev TE:=St->Hp->VK->Prop
abbrev TT:=St->Hp->(Bool->Hp->Prop)->Prop
abbrev TA:=St->Hp->(List V->Hp->Prop)->Prop
structure Ends where
 nx:St->Hp->Prop
 rt:VK
 bk:St->Hp->Prop:=λ_ _=>False
 ct:St->Hp->Prop:=λ_ _=>False
abbrev TS:=Ends->St->Hp->Prop
def EP(X:Cx)(pins:List (Addr×Obj))(O:St)(Q:VK)(u:Value)(s':Shared):Prop := ∃v H',Inv X pins O H' s'/\RelV v u/\Q v H'
def TP(X:Cx)(pins:List (Addr×Obj))(O:St)(Q:Bool->Hp->Prop)(b:Bool)(s':Shared):Prop := ∃H',Inv X pins O H' s'/\Q b H'
def AP(X:Cx)(pins:List (Addr×Obj))(O:St)(Q:List V->Hp->Prop)(us:List Value)(s':Shared):Prop := ∃vs H',Inv X pins O H' s'/\Vals vs us/\Q vs H'
def SP(X:Cx)(pins:List (Addr×Obj))(D:Ends)(f:Flow)(s':Shared):Prop:=
 match f with
 |.next=>∃O' H',Inv X pins O' H' s'/\D.nx O' H'
 |.brk=>∃O' H',Inv X pins O' H' s'/\D.bk O' H'
 |.cont=>∃O' H',Inv X pins O' H' s'/\D.ct O' H'
 |.ret u=>∃v O' H',Inv X pins O' H' s'/\RelV v u/\D.rt v H'
def PE(X:Cx)(e:Expr)(t:TE):Prop:=
 ∀(pins:List (Addr×Obj)) (s:Shared) (O:St) (H:Hp) (Q:VK),Inv X pins O H s->t O H Q->wpAny (model X.prog X.w) X.A (eval e X.env) (EP X pins O Q) X.xe s
def PT(X:Cx)(e:Expr)(t:TT):Prop:=
 ∀(pins:List (Addr×Obj)) (s:Shared) (O:St) (H:Hp) (Q:Bool->Hp->Prop),Inv X pins O H s->t O H Q->wpAny (model X.prog X.w) X.A (isTrue e X.env (eval e X.env)) (TP X pins O Q) X.xe s
def PW(X:Cx)(e:Expr)(t:TT):Prop:=
 ∀(whole:Sem Value) (pins:List (Addr×Obj)) (s:Shared) (O:St) (H:Hp) (Q:Bool->Hp->Prop),Inv X pins O H s->t O H Q->wpAny (model X.prog X.w) X.A (isTrue e X.env whole) (TP X pins O Q) X.xe s
def PW.pt{t:TT}(h:PW X e t):PT X e t:=h _
def PA(X:Cx)(es:List Expr)(t:TA):Prop:=
 ∀(pos:Pos) (pins:List (Addr×Obj)) (s:Shared) (O:St) (H:Hp) (Q:List V->Hp->Prop),Inv X pins O H s->t O H Q->wpAny (model X.prog X.w) X.A (spliced (backTo pos (starEach es X.env))) (AP X pins O Q) X.xe s
def PS(X:Cx)(st:Stmt)(t:TS):Prop:=
 ∀(pins:List (Addr×Obj)) (s:Shared) (O:St) (H:Hp) (D:Ends),Inv X pins O H s->t D O H->wpAny (model X.prog X.w) X.A (exec st X.env) (SP X pins D) X.xe s
def eK(X:Cx)(st:List Stmt)(t:TS):Prop:=
 ∀(pins:List (Addr×Obj)) (s:Shared) (O:St) (H:Hp) (D:Ends),Inv X pins O H s->t D O H->wpAny (model X.prog X.w) X.A (execs st X.env) (SP X pins D) X.xe s
def aC{t:Sem α}{Q Q':α->Shared->Prop}(h:wpAny M A t Q E s)(hQ:∀a s,Q a s->Q' a s):wpAny M A t Q' E s:=gF h hQ λ_ _ x=>x
section
variable{X:Cx}
def Me(i:Nat):TE:=λO H Q=>∃v,O[i]? = some (some v)/\Q v H
def tC(v:V):TE:=λ_ H Q=>Q v H
def U6(hN:X.N[i]? = some x)(hv:EE X.env.scope x)(hd:(x==("__debug__":Str))=false:=by decide)(ij:(x==("__classdict__":Str))=false:=by decide):PE X (.Name x pos) (Me i):=by
 intro pins s O H Q I h
 obtain⟨v,e,h⟩:=h
 obtain⟨m,hn,hl⟩:=I.loc
 obtain⟨u,r,l⟩:=hl i x v hN e hv
 have fin:EP X pins O Q u s:=⟨v,H,I,r,h⟩
 rcases l with ⟨hk,hm⟩ | ⟨hk,c,hc,Mf⟩
 .exact wpAny_Name (wpAny_loadName_local I.ok.kind hk hn hm fin) hd
 .rcases hk with hk | hk
  .exact wpAny_Name (wpAny_loadName_cell I.ok.kind hk hc Mf fin) hd
  .exact wpAny_Name (wpAny_loadName_free I.ok.kind hk hc Mf fin ij) hd
def aF{i j pos}:PE X (.Constant (.int i) j pos) (tC (.int i)):=λ_ _ _ H _ I h=>wpAny_Constant_int ⟨.int i,H,I.tok _,⟨_,rfl⟩,h⟩
def fh{b j pos}:PE X (.Constant (.bool b) j pos) (tC (.bl b)):=λ_ _ _ H _ I h=>Constant_bool ⟨.bl b,H,I,rfl,h⟩
def jU{j pos}:PE X (.Constant .none j pos) (tC .aB):=λ_ _ _ H _ I h=>Constant_none ⟨.aB,H,I,rfl,h⟩
def eB{x j pos}:PE X (.Constant (.str x) j pos) (tC (.str x)):=λ_ _ _ H _ I h=>Calls.Constant_str ⟨.str x,H,I.tok _,⟨_,rfl⟩,h⟩
def Gl(X:Cx)(x:Str):Prop:=X.env.kindOf x=some .globalImplicit
def qj(I:Inv X pins O H s)(hg:Gl X x)(hm:X.mg x=some u)(h:Q u s)
  (hd:(x==("__debug__":Str))=false:=by decide):wpAny (model X.prog X.w) X.A (eval (.Name x pos) X.env) Q E s:=
 Calls.Name_function_global I.ok.kind hg (Calls.loadGlobal_global (by rw[I.ok.glob];exact I.mod.glob.keeps I.bk) hm h) hd
def qk(I:Inv X pins O H s)(hg:Gl X x)(hm:X.mg x=none)(hv:bootBuiltins x=some u)(h:Q u s)
  (hn:x≠"__name__":=by decide) (hd:(x==("__debug__":Str))=false:=by decide):wpAny (model X.prog X.w) X.A (eval (.Name x pos) X.env) Q E s:=by
 obtain⟨mb,h1,h2⟩:=I.mod.blt
 exact Calls.Name_function_global I.ok.kind hg (Calls.loadGlobal_builtin (by rw[I.ok.glob];exact I.mod.glob.keeps I.bk) hm (by rw[I.ok.blt];exact h1.keeps I.bk) ((h2 x hn).trans hv) h) hd
def U7(hg:Gl X x)(hm:X.mg x=some u)(r:RelV v u)(hd:(x==("__debug__":Str))=false:=by decide):PE X (.Name x pos) (tC v):=
 λ_ _ _ H _ I h=>qj I hg hm ⟨v,H,I,r,h⟩ hd
def qm(hg:Gl X x)(hm:X.mg x=none)(hv:bootBuiltins x=some u)(r:RelV v u)(hn:x≠"__name__":=by decide)(hd:(x==("__debug__":Str))=false:=by decide):PE X (.Name x pos) (tC v):=
 λ_ _ _ H _ I h=>qk I hg hm hv ⟨v,H,I,r,h⟩ hn hd
variable{a b:Expr}{ta tb:TE}{pos:Pos}
def PC(X:Cx)(op:CmpOp)(a b:Expr)(t:TE):Prop:=
 ∀(pins:List (Addr×Obj)) (s:Shared) (O:St) (H:Hp) (Q:VK),Inv X pins O H s->t O H Q->
  wpAny (model X.prog X.w) X.A (eval a X.env) (λv s₁=>wpAny (model X.prog X.w) X.A (eval b X.env) (λu s₂=>wpAny (model X.prog X.w) X.A (compareOp op v u) (EP X pins O Q) X.xe s₂) X.xe s₁) X.xe s
def tB(t:TE):TT:=λO H Q=>t O H λx H1=>∃c,x = .bl c/\Q c H1
def U8{op:CmpOp}{t:TE}(h:PC X op a b t)(h1:behindInMarks op b=false:=by first | exact U9 _ (by decide) (by decide) | rfl):PE X (.Compare a [op] [b] pos) t:=λpins s O H Q I hw=>wpAny_Compare1 (h pins s O H Q I hw) h1
def xT{op:CmpOp}{t:TE}(h:PC X op a b t)(h1:behindInMarks op b=false:=by first | exact U9 _ (by decide) (by decide) | rfl):PT X (.Compare a [op] [b] pos) (tB t):=by
 intro pins s O H Q I hw
 refine wpAny_isTrue_Compare1 (aC (h pins s O H _ I hw) λv s1 h1=>aC h1 λu s2 h2=>aC h2 λc s3 ⟨x,H1,I1,r1,q1⟩=>?_) h1
 obtain⟨d,rfl,q⟩:=q1
 cases r1
 exact pV ⟨H1,I1,q⟩
def eX{t:TE}(h:PE X e t)(he:∀whole,isTrue e X.env whole=(do let v<-whole;standAt e.pos;holding [v] (truthy v)):=by intro _;rfl):PT X e (tB t):=by
 intro pins s O H Q I hw
 refine isTrue_plain (aC (h pins s O H _ I hw) λv s1 ⟨x,H1,I1,r1,q1⟩=>?_) (he _)
 obtain⟨d,rfl,q⟩:=q1
 cases r1
 exact pV ⟨H1,I1,q⟩
variable{tA AX:TT}{rest:List Expr}
def Va(t u:TT):TT:=λO H Q=>t O H λc H1=>if c=true then u O H1 Q else Q false H1
def Vb(t u:TT):TT:=λO H Q=>t O H λc H1=>if c=true then Q true H1 else u O H1 Q
def Vc(t:TT):TT:=λO H Q=>t O H λc H1=>Q (!c) H1
def xU(ha:PT X a tA):PW X (.BoolOp .And [a] pos) tA:=by
 intro wh pins s O H Q I h
 refine isTrue_and (aC (ha pins s O H Q I h) λc s1 e=>?_)
 cases c with
 |true=>exact isTrue_and_nil e
 |false=>exact e
def jk(ha:PT X a tA):PW X (.BoolOp .Or [a] pos) tA:=by
 intro wh pins s O H Q I h
 refine isTrue_or (aC (ha pins s O H Q I h) λc s1 e=>?_)
 cases c with
 |false=>exact isTrue_or_nil e
 |true=>exact e
def xV(ha:PT X a tA)(hb:PW X (.BoolOp .And (b::rest) pos) AX):PW X (.BoolOp .And (a::b::rest) pos) (Va tA AX):=by
 intro wh pins s O H Q I h
 refine isTrue_and (aC (ha pins s O H _ I h) λc s1 ⟨H1,I1,q1⟩=>?_)
 cases c with
 |true=>exact hb wh pins s1 O H1 Q I1 q1
 |false=>exact⟨H1,I1,q1⟩
def gH(ha:PT X a tA)(hb:PW X (.BoolOp .Or (b::rest) pos) AX):PW X (.BoolOp .Or (a::b::rest) pos) (Vb tA AX):=by
 intro wh pins s O H Q I h
 refine isTrue_or (aC (ha pins s O H _ I h) λc s1 ⟨H1,I1,q1⟩=>?_)
 cases c with
 |true=>exact⟨H1,I1,q1⟩
 |false=>exact hb wh pins s1 O H1 Q I1 q1
def gi(ha:PT X a tA):PT X (.UnaryOp .Not a pos) (Vc tA):=by
 intro pins s O H Q I h
 exact isTrue_not (ha pins s O H (λc H1=>Q (!c) H1) I h)
def Vd(ta tb:TE):TE:=λO H Q=>ta O H λx H1=>∃c,x = .bl c/\if c=true then tb O H1 Q else Q (.bl false) H1
def Mg{op}{t:TE}(h:PE X a t):PE X (.BoolOp op [a] pos) t:=λpins s O H Q I hw=>BoolOp_one (h pins s O H Q I hw)
def EK(ha:PE X a ta)(hb:PE X (.BoolOp .And (b::rest) pos) tb):PE X (.BoolOp .And (a::b::rest) pos) (Vd ta tb):=by
 intro pins s O H Q I h
 refine BoolOp_and (aC (ha pins s O H _ I h) λv s1 ⟨x,H1,I1,r1,q1⟩=>?_)
 obtain⟨c,rfl,q1⟩:=q1
 cases r1
 refine pV ?_
 cases c with
 |true=>exact hb pins s1 O H1 Q I1 q1
 |false=>exact⟨.bl false,H1,I1,rfl,q1⟩
def Ve(t:TT)(ta tb:TE):TE:=λO H Q=>t O H λc H1=>if c=true then ta O H1 Q else tb O H1 Q
def Vf(hc:PT X c tA)(ha:PE X a ta)(hb:PE X b tb):PE X (.IfExp c a b pos) (Ve tA ta tb):=by
 intro pins s O H Q I h
 refine wpAny_IfExp (aC (hc pins s O H _ I h) λd s1 ⟨H1,I1,q1⟩=>?_)
 cases d with
 |true=>exact ha pins s1 O H1 Q I1 q1
 |false=>exact hb pins s1 O H1 Q I1 q1
end
def aj(K:Frag)(H:Hp)(a:Addr)(xs:List V):Prop:=
 Rd H a (.lst xs)\/
  ∃(o:Obj) (its:Array Value) (n:Nat),K.lookup a=some o/\o.cls = .type "list"/\o.dict=none/\o.data = .seq its n/\its.size<=sizeLine/\Vals xs its.toList
def ak(K:Frag)(H:Hp)(a:Addr)(xs:List V):Prop:=
 Rd H a (.tup xs)\/
  ∃(o:Obj) (its:Array Value) (n:Nat),K.lookup a=some o/\o.cls = .type "tuple"/\o.data = .seq its n/\its.size<=sizeLine/\Vals xs its.toList
noncomputable def Vg:Value->Option V
 |.none=>some .aB
 |.bool b=>some (.bl b)
 |.int i _=>some (.int i)
 |.str x _=>some (.str x)
 |.bytes b _=>some (.ji b)
 |.float b _=>some (.rR b)
 |.ref a=>some (.ref a)
 |.type n=>some (.ty n)
 |_=>none
def RelV.abs{x:V}(r:RelV x u):Vg u=some x:=by
 cases x with
 |aB=>cases r;rfl
 |bl _=>cases r;rfl
 |int _=>obtain⟨t,rfl⟩:=r;rfl
 |str _=>obtain⟨t,rfl⟩:=r;rfl
 |ji _=>obtain⟨t,rfl⟩:=r;rfl
 |rR _=>obtain⟨t,rfl⟩:=r;rfl
 |ref _=>cases r;rfl
 |ty _=>cases r;rfl
def RelV.inj{x:V}(r:RelV x u)(q:RelV y u):x=y:=cY (r.abs.symm.trans q.abs)
theorem Vals.inj:∀{xs ys:List V}{us:List Value},Vals xs us->Vals ys us->xs=ys
 |_,_,_,.nil,.nil=>rfl
 |_,_,_,.cons r t,.cons r' t'=>by rw[r.inj r',Vals.inj t t']
section
variable{X:Cx}{pins:List (Addr×Obj)}{O:St}{H:Hp}{s:Shared}{a:Addr}{xs ys:List V}
def aj.of(h:H a=some (.lst xs)):aj K H a xs := .inl (.inl h)
def ak.of(h:H a=some (.tup xs)):ak K H a xs := .inl (.inl h)
theorem Inv.list(I:Inv X pins O H s)(h:aj X.K H a xs):∃its:List Value,Vals xs its/\PlainL s.heap a its.toArray/\xs.length<=sizeLine:=by
 rcases h with h | ⟨o,its,n,hk,hc,hd,hs,hz,r⟩
 .obtain⟨z,its,n,r,e⟩:=h.ok I.aA
  exact⟨its,r,⟨_,n,e,rfl,rfl,rfl⟩,z⟩
 .refine⟨its.toList,r,⟨o,n,I.cG a o hk,hc,hd,by simpa using hs⟩,?_⟩
  have e:=r.length
  simp only[uA] at e
  lia
theorem Inv.tuple(I:Inv X pins O H s)(h:ak X.K H a xs):∃its:List Value,Vals xs its/\IsTup s.heap a its.toArray/\xs.length<=sizeLine:=by
 rcases h with h | ⟨o,its,n,hk,hc,hs,hz,r⟩
 .obtain⟨z,its,r,p⟩:=h.ok I.aA
  exact⟨its,r,p,z⟩
 .refine⟨its.toList,r,⟨o,I.cG a o hk,hc,n,by simpa using hs⟩,?_⟩
  have e:=r.length
  simp only[uA] at e
  lia
def Inv.EL(I:Inv X pins O H s)(h:aj X.K H a xs)(h':aj X.K H a ys):xs=ys:=by
 obtain⟨its,r,⟨o,n,e,_,_,d⟩,_⟩:=I.list h
 obtain⟨cA,r',⟨o',n',e',_,_,d'⟩,_⟩:=I.list h'
 rw[e] at e';cases e'
 rw[d] at d'
 injection d' with d1 _
 have:its=cA:=by simpa using fc Array.toList d1
 subst this
 exact r.inj r'
def Inv.EM(I:Inv X pins O H s)(h:ak X.K H a xs)(h':ak X.K H a ys):xs=ys:=by
 obtain⟨its,r,⟨o,e,_,n,d⟩,_⟩:=I.tuple h
 obtain⟨cA,r',⟨o',e',_,n',d'⟩,_⟩:=I.tuple h'
 rw[e] at e';cases e'
 rw[d] at d'
 injection d' with d1 _
 have:its=cA:=by simpa using fc Array.toList d1
 subst this
 exact r.inj r'
end
noncomputable abbrev Cx.cK(X:Cx)(E:Value->Shared->Prop):Cx:={ X with xe:=E }
noncomputable abbrev Cx.qo(X:Cx):Cx:=X.cK λ_ _=>False
theorem Cx.Ok.cK(ok:X.Ok)(E:Value->Shared->Prop):(X.cK E).Ok:=
 ⟨ok.mod,ok.kind,ok.glob,ok.blt,ok.above,ok.inj,ok.has,ok.qg,ok.hd,ok.frames,ok.rS,ok.xM,ok.bs,ok.kQ,ok.mV,ok.rT,ok.ig,ok.lN⟩
def Cx.Ok.gI(ok:(X.cK E).Ok):X.Ok:=
 ⟨ok.mod,ok.kind,ok.glob,ok.blt,ok.above,ok.inj,ok.has,ok.qg,ok.hd,ok.frames,ok.rS,ok.xM,ok.bs,ok.kQ,ok.mV,ok.rT,ok.ig,ok.lN⟩
section
variable{X:Cx}{pins:List (Addr×Obj)}{O:St}{H:Hp}{s:Shared}{E:Value->Shared->Prop}
theorem Inv.cK(I:Inv X pins O H s)(E:Value->Shared->Prop):Inv (X.cK E) pins O H s:=⟨I.ok.cK E,I.os,I.bare,I.base,I.loc,I.cell,I.free,I.dk,I.pin,I.aA,I.len⟩
theorem Inv.gI(I:Inv (X.cK E) pins O H s):Inv X pins O H s:=⟨I.ok.gI,I.os,I.bare,I.base,I.loc,I.cell,I.free,I.dk,I.pin,I.aA,I.len⟩
theorem SP.gI{D:Ends}{f:Flow}{s':Shared}(h:SP (X.cK E) pins D f s'):SP X pins D f s':=by
 cases f with
 |next=>obtain⟨O',H',I,q⟩:=h;exact⟨O',H',I.gI,q⟩
 |brk=>obtain⟨O',H',I,q⟩:=h;exact⟨O',H',I.gI,q⟩
 |cont=>obtain⟨O',H',I,q⟩:=h;exact⟨O',H',I.gI,q⟩
 |ret u=>obtain⟨v,O',H',I,r,q⟩:=h;exact⟨v,O',H',I.gI,r,q⟩
theorem eK.qo{t:TS}(h:eK X.qo st t):eK X st t:=λpins s O H D I hw=>
 gF (h pins s O H D (I.cK _) hw) (λ_ _ q=>q.gI) λ_ _ z=>False.elim z
end
section
variable{X:Cx}{st:Stmt}{rest:List Stmt}{t u:TS}{e:Expr}{te:TE}{pos:Pos}
def Vh:TS:=λD O H=>D.nx O H
def EN(t u:TS):TS:=λD O H=>t { D with nx:=u D } O H
def bN:eK X [] Vh:=λ_ _ O H _ I h=>Ed ⟨O,H,I,h⟩
def aq(h1:PS X st t)(h2:eK X rest u):eK X (st::rest) (EN t u):=by
 intro pins s O H D I h
 refine wpAny_execs_cons (aC (h1 pins s O H { D with nx:=u D } I h) λf s1 q=>?_)
 cases f with
 |next=>
  obtain⟨O',H',I',q⟩:=q
  exact h2 pins s1 O' H' D I' q
 |ret v=>exact q
 |brk=>exact q
 |cont=>exact q
def au(h1:PS X st t):eK X [st] t:=by
 intro pins s O H D I h
 refine wpAny_execs_cons (aC (h1 pins s O H D I h) λf s1 q=>?_)
 cases f with
 |next=>exact Ed q
 |ret v=>exact q
 |brk=>exact q
 |cont=>exact q
def Inv.quiet(I:Inv X pins O H s):interactive X.env=false:=by simp[interactive,I.ok.kind]
def Vi(te:TE):TS:=λD O H=>te O H λ_ H1=>D.nx O H1
def d6(he:PE X e te)(hs:swapsWith e none pos.line X.env=pure false:=by rfl):PS X (.Expr e pos) (Vi te):=by
 intro pins s O H D I h
 exact wpAny_Expr_any (aC (he pins s O H _ I h) λv s1 ⟨x,H1,I1,r1,q1⟩=>⟨O,H1,I1,q1⟩) I.quiet hs
def Vj(te:TE):TS:=λD O H=>te O H D.rt
def aS(he:PE X e te):PS X (.Return (some e) pos) (Vj te):=by
 intro pins s O H D I h
 exact wpAny_Return_some (aC (he pins s O H _ I h) λv s1 ⟨x,H1,I1,r1,q1⟩=>⟨x,O,H1,I1,r1,q1⟩)
def Vk(c:TT)(t u:TS):TS:=λD O H=>c O H λb H1=>if b=true then t D O H1 else u D O H1
def bH{a b:List Stmt}(hc:PT X c tc)(ha:eK X a t)(hb:eK X b u):PS X (.If c a b pos) (Vk tc t u):=by
 intro pins s O H D I h
 refine wpAny_If (aC (hc pins s O H _ I h) λd s1 ⟨H1,I1,q1⟩=>?_)
 cases d with
 |true=>exact ha pins s1 O H1 D I1 q1
 |false=>exact hb pins s1 O H1 D I1 q1
def Vl:TS:=λ_ _ _=>False
def xW:PS X st Vl:=λ_ _ _ _ _ _ h=>h.elim
end
abbrev TG:=V->St->Hp->(St->Hp->Prop)->Prop
abbrev rW:=List V->St->Hp->(St->Hp->Prop)->Prop
def PG(X:Cx)(target:Expr)(t:TG):Prop:=
 ∀(pins:List (Addr×Obj)) (s:Shared) (O:St) (H:Hp) (v:V) (u:Value) (Q:St->Hp->Prop),Inv X pins O H s->RelV v u->t v O H Q->
  wpAny (model X.prog X.w) X.A (assign target X.env u) (λ_ s' =>∃O' H',Inv X pins O' H' s'/\Q O' H') X.xe s
def AY(X:Cx)(ts:List Expr)(t:rW):Prop:=
 ∀(pins:List (Addr×Obj)) (s:Shared) (O:St) (H:Hp) (vs:List V) (us:List Value) (Q:St->Hp->Prop),Inv X pins O H s->Vals vs us->t vs O H Q->
  wpAny (model X.prog X.w) X.A (assignInOrder ((assignEach ts X.env).map (·.2)) us) (λ_ s' =>∃O' H',Inv X pins O' H' s'/\Q O' H') X.xe s
abbrev EO:=V->V->V->Hp->(Hp->Prop)->Prop
def Mh(X:Cx)(t:EO):Prop:=
 ∀(pins:List (Addr×Obj)) (s:Shared) (O:St) (H:Hp) (o i v:V) (ov iv u:Value) (Q:Hp->Prop),Inv X pins O H s->RelV o ov->RelV i iv->RelV v u->t o i v H Q->
  wpAny (model X.prog X.w) X.A (setItem ov iv u) (λ_ s' =>∃H',Inv X pins O H' s'/\Q H') X.xe s
section
variable{X:Cx}{pos:Pos}
def rX(i:Nat):TG:=λv O H Q=>Q (O.set i (some v)) H
def bI(i:Nat)(hN:X.N.Nodup)(hi:X.N[i]? = some x:=by rfl)(hx:Loc X.env.scope x:=by first | exact .inl rfl | exact .inr rfl)(hf:X.fn x=true\/X.env.scope.names.lookup x=some .local:=by first | exact .inl rfl | exact .inr rfl | assumption):PG X (.Name x pos) (rX i):=by
 intro pins s O H v u Q I r h
 exact wpAny_assign_Name (xS I hN hi hx r (λs' I'=>⟨_,H,I',h⟩) hf)
def Mi:rW:=λvs O H Q=>vs=[]/\Q O H
def ER(t:TG)(u:rW):rW:=λvs O H Q=>∃v r,vs=v::r/\t v O H λO' H'=>u r O' H' Q
def kR:AY X [] Mi:=by
 intro pins s O H vs us Q I r h
 obtain⟨e,h⟩:=h
 subst e
 cases r
 exact assignInOrder_nil ⟨O,H,I,h⟩
def eC{t:TG}{u:rW}(h1:PG X e t)(h2:AY X es u)
  (hs:(assignEach (e::es) X.env).map (·.2)=assign e X.env::(assignEach es X.env).map (·.2):=by rfl):AY X (e::es) (ER t u):=by
 intro pins s O H vs us Q I r h
 obtain⟨v,vr,e1,h⟩:=h
 subst e1
 cases r with
 |cons r rr=>
  rw[hs]
  refine assignInOrder_cons (aC (h1 pins s O H _ _ _ I r h) λ_ s1 ⟨O1,H1,I1,q1⟩=>?_)
  exact h2 pins s1 O1 H1 _ _ Q I1 rr q1
def Mj(K:Frag)(n:Nat)(t:rW):TG:=λv O H Q=>∃a xs,v = .ref a/\ak K H a xs/\xs.length=n/\t xs O H Q
def kT{k:Nat}{t:rW}(hc:X.calm=true)(h:AY X es t)
  (hn:(assignEach es X.env).length=n:=by rfl) (cL:(assignEach es X.env).findIdx? (·.1)=none:=by rfl):PG X (.Tuple es k pos) (Mj X.K n t):=by
 intro pins s O H v u Q I r hw
 obtain⟨a,xs,e1,hq,hl,hw⟩:=hw
 subst e1
 cases r
 obtain⟨its,rv,ht,hz⟩:=I.tuple hq
 refine assign_Tuple_tuple (I.ok.hd hc) ht (by simp[hn,<-hl,rv.length]) cL λh' hx=>?_
 have I1:Inv X pins O H { s with heap:=h' }:=I.kept (t':=s.toks) λb o e=>hx b o (bR (bA e)) e
 exact h pins _ O H xs _ Q I1 (by simpa using rv) hw
def Vm(to ti:TE)(t:EO):TG:=λv O H Q=>to O H λo H1=>ti O H1 λi H2=>t o i v H2 λH3=>Q O H3
def uY{o i:Expr}{to ti:TE}{t:EO}(ho:PE X o to)(hi:PE X i ti)(hs:Mh X t)
  (ha:∀v,assign (.Subscript o i pos) X.env v=(do
   let ov<-holding [v] (eval o X.env)
   let iv<-holding [v,ov] (eval i X.env)
   standAt pos
   holding [v,ov,iv] (setItem ov iv v)
   release [v,ov,iv] []):=by intro _;rfl):PG X (.Subscript o i pos) (Vm to ti t):=by
 intro pins s O H v u Q I r h
 rw[ha]
 refine ah (iL (aC (ho pins s O H _ I h) λov s1 ⟨x,H1,I1,r1,q1⟩=>?_))
 refine ah (iL (aC (hi pins s1 O H1 _ I1 q1) λiv s2 ⟨y,H2,I2,r2,q2⟩=>?_))
 refine ah (Ee (ah (iL (aC (hs pins s2 O H2 x y v ov iv u _ I2 r1 r2 r q2) λ_ s3 ⟨H3,I3,q3⟩=>?_))))
 exact wpAny_release ⟨O,H3,I3,q3⟩
def xX(te:TE)(g:TG):TS:=λD O H=>te O H λx H1=>g x O H1 D.nx
def rY{g:TG}(he:PE X e te)(hg:PG X tg g)(hs:swapsWithSole [tg] e pos.line X.env=pure false:=by rfl)(hw:swappedStores [tg] e X.env=pure none:=by rfl)
  (h1:(assignEach [tg] X.env).map (·.2)=[assign tg X.env]:=by rfl):PS X (.Assign [tg] e pos) (xX te g):=by
 intro pins s O H D I h
 refine wpAny_Assign_stores (aC (he pins s O H _ I h) λv s1 ⟨x,H1,I1,r1,q1⟩=>?_) hs hw
 rw[h1]
 exact aC (hg pins s1 O H1 x v _ I1 r1 q1) λ_ s2 q=>q
def aH(i:Nat){pos':Pos}(hN:X.N.Nodup)(he:PE X e te)(hi:X.N[i]? = some x:=by rfl)(hx:Loc X.env.scope x:=by first | exact .inl rfl | exact .inr rfl)(hs:swapsWith e (some (.Name x pos')) pos.line X.env=pure false:=by rfl)(hf:X.fn x=true\/X.env.scope.names.lookup x=some .local:=by first | exact .inl rfl | exact .inr rfl | assumption) :
  PS X (.Assign [.Name x pos'] e pos) (xX te (rX i)):=by
 intro pins s O H D I h
 refine wpAny_Assign_Name (aC (he pins s O H _ I h) λv s1 ⟨y,H1,I1,r1,q1⟩=>?_) hs
 exact xS I1 hN hi hx r1 (λs2 I2=>⟨_,H1,I2,q1⟩) hf
def Vn(c:TT)(tb:TS):TS:=λD O H=>∃W:Nat->St->Hp->Prop,(∃m,W m O H)/\∀m O H,W m O H->
 c O H λb H1=>if b=true then ∃N:St->Hp->Prop,(∀O' H',N O' H'->∃m',m'<m/\W m' O' H')/\tb { D with nx:=N,ct:=N,bk:=D.nx } O H1 else D.nx O H1
def Ml(hp:PassesOwn (model X.prog X.w) X.A X.env X.xe)(hc:PT X c tc)(hb:eK X body tb):PS X (.While c body [] pos) (Vn tc tb):=by
 intro pins s O H D I h
 obtain⟨W,⟨m0,w0⟩,turn⟩:=h
 refine wpAny_While (codeAny_whileLoop (λn s' =>∃O' H',Inv X pins O' H' s'/\W n O' H') ?_ m0 ⟨O,H,I,w0⟩)
 rintro n s1 ⟨O1,H1,I1,w1⟩
 refine xr hp (aC (hc pins s1 O1 H1 _ I1 (turn n O1 H1 w1)) λb s2 ⟨H2,I2,q2⟩=>?_)
 cases b with
 |true=>
  obtain⟨N,hN,q2⟩:=q2
  rw[az rfl]
  refine xr hp (aC (hb pins s2 O1 H2 _ I2 q2) λf s3 q3=>?_)
  cases f with
  |next=>
   obtain⟨O3,H3,I3,n3⟩:=q3
   obtain⟨m',hm,w3⟩:=hN O3 H3 n3
   exact⟨m',hm,O3,H3,I3,w3⟩
  |cont=>
   obtain⟨O3,H3,I3,n3⟩:=q3
   obtain⟨m',hm,w3⟩:=hN O3 H3 n3
   exact⟨m',hm,O3,H3,I3,w3⟩
  |brk=>exact q3
  |ret v=>exact q3
 |false=>
  rw[av b8]
  exact Ed ⟨O1,H2,I2,q2⟩
end
structure It where
 go:Nat->Hp->Prop
 gJ:Nat->Hp->V->Hp->Prop
 stop:Nat->Hp->Prop
def fL(X:Cx)(pins:List (Addr×Obj))(H:Hp)(b:Addr):Prop:=
 H b=none/\b≠X.env.locals/\b∉X.fs/\(b∈X.ex\/X.s₀.heap.objs.size<=b)/\(∀x c,X.env.cells.lookup x=some c->c≠b)/\∀p∈X.pn++pins,p.1≠b
def Inv.kU{H':Hp}(I:Inv X pins O H s)(hb:s.heap.objs.size<=b)(hn:H' b=none):fL X pins H' b:=by
 refine⟨hn,xt (gu I.lt hb),I.U2 hb,.inr (bF I.sz hb),λx c e z=>?_,λp hp z=>?_⟩
 .obtain⟨v,q⟩:=I.cell x c e
  exact absurd (gu q.lt (by rw[z];exact hb)) (pU _)
 .exact absurd (gu (bA (I.pin p hp).1) (by rw[z];exact hb)) (pU _)
structure Turn(P:Program)(w:World)(K:Frag)(tg:Expr)(J:It)(fp:List Addr)(it:Addr)(tn:Nat->Heap->Prop):Prop where
 mem:it∈fp
 obj:∀i h,tn i h->∀b∈fp,∃o,h.get? b=some o/\∀v,o.data ≠ .cell v
 keep:∀i h h',tn i h->(∀b∈fp,∀o,h.get? b=some o->h'.get? b=some o)->tn i h'
 item:∀(X:Cx),X.prog=P->X.w=w->X.K=K->X.calm=true->∀(i:Nat) (pins:List (Addr×Obj)) (s:Shared) (O:St) (H:Hp) (E:Value->Shared->Prop),Inv X pins O H s->(∀b∈fp,fL X pins H b)->tn i s.heap->J.go i H->
  wpAny (model P w) X.A (pyNext (.ref it)) (λr s1=>∃u,r=some u/\
   wpAny (model P w) X.A (letOwnedTupleGo tg (.ref it) u) (λ_ s2=>∃x H',Inv X pins O H' s2/\RelV x u/\J.gJ i H x H'/\tn (i+1) s2.heap/\∀b∈fp,H' b=none) E s1) E s
 done:∀(X:Cx),X.prog=P->X.w=w->X.K=K->X.calm=true->∀(i:Nat) (pins:List (Addr×Obj)) (s:Shared) (O:St) (H:Hp) (E:Value->Shared->Prop),Inv X pins O H s->(∀b∈fp,fL X pins H b)->tn i s.heap->J.stop i H->
  wpAny (model P w) X.A (pyNext (.ref it)) (λr s1=>r=none/\Inv X pins O H s1) E s
 self:∀(A:Around) (i:Nat) (s:Shared) (Q:Value->Shared->Prop) (E:Value->Shared->Prop),tn i s.heap->Q (.ref it) s->wpAny (model P w) A (pyIter (.ref it)) Q E s
abbrev TI:=St->Hp->(It->Hp->Prop)->Prop
def Mm(X:Cx)(pins:List (Addr×Obj))(O:St)(tg:Expr)(R:It->Hp->Prop)(AZ:Value)(s2:Shared):Prop:=
 ∃(it:Addr) (fp:List Addr) (tn:Nat->Heap->Prop) (J:It) (H':Hp),AZ = .ref it/\Inv X pins O H' s2/\Turn X.prog X.w X.K tg J fp it tn/\tn 0 s2.heap/\(∀b∈fp,fL X pins H' b)/\R J H'
def PI(X:Cx)(tg iter:Expr)(wi:TI):Prop:=
 ∀(pins:List (Addr×Obj)) (s:Shared) (O:St) (H:Hp) (R:It->Hp->Prop),Inv X pins O H s->wi O H R->
  wpAny (model X.prog X.w) X.A (eval iter X.env) (λv s1=>wpAny (model X.prog X.w) X.A (pyIter v) (Mm X pins O tg R) X.xe s1) X.xe s
def uZ{n:String}{vs:Array Value}{Q:Unit->Shared->Prop}(ho:s.heap.get? it=some o)(hc:o.cls = .type n)(hd:o.data = .fields vs)
  (hn:["enumerate","zip","dict_itemiterator","dict_reverseitemiterator","odict_iterator","itertools.zip_longest","itertools.pairwise"].contains n=false) (hQ:Q () s):wpAny M A (letOwnedTupleGo tg (.ref it) u) Q E s:=by
 unfold letOwnedTupleGo
 cases tg <;> first
  |exact aL hQ
  |(cases u <;> first
    |exact aL hQ
    |(refine ah (wpAny_load ho ?_)
      rw[hc,hd]
      show wpAny M A (if (["enumerate","zip","dict_itemiterator","dict_reverseitemiterator","odict_iterator","itertools.zip_longest","itertools.pairwise"].contains n&&vs[0]? == some (rawInt _))=true then _ else _) Q E s
      rw[av (by intro h;rw[hn,ib] at h;cases h)]
      exact aL hQ))
noncomputable def rZ(K:Frag)(a:Addr):It:=
 ⟨λi H=>∃xs x,aj K H a xs/\xs[i]? = some x,λi H x H'=>H'=H/\∀xs,aj K H a xs->xs[i]? = some x,λi H=>∃xs,aj K H a xs/\xs.length<=i⟩
noncomputable def u6(K:Frag)(a:Addr):It:=
 ⟨λi H=>∃xs x,ak K H a xs/\xs[i]? = some x,λi H x H'=>H'=H/\∀xs,ak K H a xs->xs[i]? = some x,λi H=>∃xs,ak K H a xs/\xs.length<=i⟩
noncomputable def mW(lo:Int)(n:Nat):It:=⟨λi _=>i<n,λi H x H'=>H'=H/\x = .int (lo+i),λi _=>n<=i⟩
theorem Vo(a it:Addr):Turn P w K tg (rZ K a) [it] it (λi h=>h.IsListIter it a i) where
 mem:=by simp
 obj:=λi h st b hb=>by
  have e:b=it:=by simpa using hb
  subst e
  obtain⟨o,e,c,d⟩:=st
  exact⟨o,e,λv z=>by rw[d] at z;cases z⟩
 keep:=λi h h' st k=>st.at λo e=>k it (by simp) o e
 item:=by
  intro X hP hw hK hc i pins s O H E I hf st hg
  subst hP hw hK
  obtain⟨xs,x,hq,hx⟩:=hg
  obtain⟨its,rv,p,hz⟩:=I.list hq
  obtain⟨u,hu,ru⟩:=rv.get hx
  obtain⟨f0,f1,f2,f3,f4,f5⟩:=hf it (by simp)
  refine wpAny_pyNext_list_item st p.isList (x:=u) (by simpa using hu) λh' eD sb=>?_
  have I1:Inv X pins O H { s with heap:=h' }:=I.turned (t':=s.toks) (λb o hb e=>(sb.2 b hb).trans e) f0 f1 f3 f4 f5
  obtain⟨o,e,c,d⟩:=id eD
  exact⟨u,rfl,uZ (s:={ s with heap:=h' }) e c d (by decide) ⟨x,H,I1,ru,⟨rfl,λys hy=>by rw[I.EL hy hq];exact hx⟩,eD,λb hb=>(hf b hb).1⟩⟩
 done:=by
  intro X hP hw hK hc i pins s O H E I hf st hg
  subst hP hw hK
  obtain⟨xs,hq,hx⟩:=hg
  obtain⟨its,rv,p,hz⟩:=I.list hq
  obtain⟨f0,f1,f2,f3,f4,f5⟩:=hf it (by simp)
  have hl:=rv.length
  exact wpAny_pyNext_list_end (I.ok.hd hc) st p.isList (by simp;lia) λh' eb=>⟨rfl,I.turned (t':=s.toks) (λb o hb e=>eb b o hb e) f0 f1 f3 f4 f5⟩
 self:=λ_ _ _ _ _ st h=>wpAny_pyIter_listiter st h
theorem Vp(a it:Addr):Turn P w K tg (u6 K a) [it] it (λi h=>h.IsTupleIter it a i) where
 mem:=by simp
 obj:=λi h st b hb=>by
  have e:b=it:=by simpa using hb
  subst e
  obtain⟨o,e,c,d⟩:=st
  exact⟨o,e,λv z=>by rw[d] at z;cases z⟩
 keep:=λi h h' st k=>st.at λo e=>k it (by simp) o e
 item:=by
  intro X hP hw hK hc i pins s O H E I hf st hg
  subst hP hw hK
  obtain⟨xs,x,hq,hx⟩:=hg
  obtain⟨its,rv,p,hz⟩:=I.tuple hq
  obtain⟨u,hu,ru⟩:=rv.get hx
  obtain⟨f0,f1,f2,f3,f4,f5⟩:=hf it (by simp)
  refine wpAny_pyNext_tuple_item st (show s.heap.IsTuple a its.toArray from p) (x:=u) (by simpa using hu) λh' eD sb=>?_
  have I1:Inv X pins O H { s with heap:=h' }:=I.turned (t':=s.toks) (λb o hb e=>(sb.2 b hb).trans e) f0 f1 f3 f4 f5
  obtain⟨o,e,c,d⟩:=id eD
  exact⟨u,rfl,uZ (s:={ s with heap:=h' }) e c d (by decide) ⟨x,H,I1,ru,⟨rfl,λys hy=>by rw[I.EM hy hq];exact hx⟩,eD,λb hb=>(hf b hb).1⟩⟩
 done:=by
  intro X hP hw hK hc i pins s O H E I hf st hg
  subst hP hw hK
  obtain⟨xs,hq,hx⟩:=hg
  obtain⟨its,rv,p,hz⟩:=I.tuple hq
  obtain⟨f0,f1,f2,f3,f4,f5⟩:=hf it (by simp)
  have hl:=rv.length
  exact wpAny_pyNext_tuple_end (I.ok.hd hc) st (show s.heap.IsTuple a its.toArray from p) (by simp;lia) λh' eb=>⟨rfl,I.turned (t':=s.toks) (λb o hb e=>eb b o hb e) f0 f1 f3 f4 f5⟩
 self:=λ_ _ _ _ _ st h=>wpAny_pyIter_tupleiter st h
theorem Vq(it:Addr)(lo:Int)(n:Nat):Turn P w K tg (mW lo n) [it] it (λi h=>IsRangeIter h it (lo+(i:Nat)*1) ((n:Int) - (i:Nat)) 1) where
 mem:=by simp
 obj:=λi h st b hb=>by
  have e:b=it:=by simpa using hb
  subst e
  exact⟨_,st,λv z=>by
   have z':Data.fields _=Data.cell v:=z
   cases z'⟩
 keep:=λi h h' st k=>k it (by simp) _ st
 item:=by
  intro X hP hw hK hc i pins s O H E I hf st hg
  subst hP hw hK
  obtain⟨f0,f1,f2,f3,f4,f5⟩:=hf it (by simp)
  have W:=Walks.range (prog:=X.prog) (w:=X.w) (I.ok.hd hc) it lo 1 n
  refine W.item i s _ _ hg st λv h' tk hv eD kk=>?_
  obtain⟨t,rfl⟩:=hv
  have I1:Inv X pins O H { s with heap:=h',toks:=tk }:=I.turned (λb o hb e=>kk b o (by simpa using hb) e) f0 f1 f3 f4 f5
  refine⟨_,rfl,uZ (s:={ s with heap:=h',toks:=tk }) (n:="range_iterator") eD rfl rfl (by decide) ⟨.int (lo+i),H,I1,⟨t,?_⟩,⟨rfl,rfl⟩,eD,λb hb=>(hf b hb).1⟩⟩
  rw[Int.mul_one]
 done:=by
  intro X hP hw hK hc i pins s O H E I hf st hg
  subst hP hw hK
  obtain⟨f0,f1,f2,f3,f4,f5⟩:=hf it (by simp)
  exact wpAny_pyNext_range_end (I.ok.hd hc) st (by have:n<=i:=hg;lia) λh' eb=>⟨rfl,I.turned (t':=s.toks) (λb o hb e=>eb b o hb e) f0 f1 f3 f4 f5⟩
 self:=λ_ _ _ _ _ st h=>wpAny_pyIter_rangeiter st h
section
variable{X:Cx}{tg:Expr}
def Vr(K:Frag)(tl:TE):TI:=λO H R=>tl O H λx H1=>∃a,x = .ref a/\(∃xs,aj K H1 a xs)/\R (rZ K a) H1
def Vs(K:Frag)(tl:TE):TI:=λO H R=>tl O H λx H1=>∃a,x = .ref a/\(∃xs,ak K H1 a xs)/\R (u6 K a) H1
def dJ(hl:PE X l tl):PI X tg l (Vr X.K tl):=by
 intro pins s O H R I h
 refine aC (hl pins s O H _ I h) λv s1 ⟨x,H1,I1,r1,q1⟩=>?_
 obtain⟨a,e,⟨xs,hq⟩,q⟩:=q1
 subst e
 cases r1
 obtain⟨its,rv,p,hz⟩:=I1.list hq
 refine xu p.isList ?_
 refine⟨s1.heap.objs.size,[s1.heap.objs.size],_,_,H1,rfl,I1.kept (t':=s1.toks) λb o e=>bu _ e,Vo a _,⟨_,cz _ rfl,rfl,rfl⟩,λb hb=>?_,q⟩
 have e:b=s1.heap.objs.size:=by simpa using hb
 subst e
 exact I1.kU (aO _) (I1.aA.fresh (aO _))
def A0(hl:PE X l tl):PI X tg l (Vs X.K tl):=by
 intro pins s O H R I h
 refine aC (hl pins s O H _ I h) λv s1 ⟨x,H1,I1,r1,q1⟩=>?_
 obtain⟨a,e,⟨xs,hq⟩,q⟩:=q1
 subst e
 cases r1
 obtain⟨its,rv,p,hz⟩:=I1.tuple hq
 refine Lu (show s1.heap.IsTuple a its.toArray from p) ?_
 refine⟨s1.heap.objs.size,[s1.heap.objs.size],_,_,H1,rfl,I1.kept (t':=s1.toks) λb o e=>bu _ e,Vp a _,⟨_,cz _ rfl,rfl,rfl⟩,λb hb=>?_,q⟩
 have e:b=s1.heap.objs.size:=by simpa using hb
 subst e
 exact I1.kU (aO _) (I1.aA.fresh (aO _))
theorem Vt{R:It->Hp->Prop}{hi:Int}{t u v:Tok}{tk:Nat}(I:Inv X pins O H s)(h1 : -(2 ^ 62)<=lo)(h2:lo<2 ^ 62)(h3 : -(2 ^ 62)<=hi)(h4:hi<2 ^ 62)
  (q:R (mW lo (hi - lo).toNat) H):wpAny (model X.prog X.w) X.A (pyIter (.ref s.heap.objs.size)) (Mm X pins O tg R) E { s with heap:=s.heap.push { cls := .type "range",data := .fields #[.int lo t,.int hi u,.int 1 v] },toks:=tk }:=by
 refine wpAny_pyIter_range (IsRange.new ..) (small_one h1 h2 h3 h4) ?_
 have I1:Inv X pins O H { s with heap:=s.heap.push { cls := .type "range",data := .fields #[.int lo t,.int hi u,.int 1 v] },toks:=tk }:=I.kept λb o e=>bu _ e
 refine⟨(s.heap.push { cls := .type "range",data := .fields #[.int lo t,.int hi u,.int 1 v] }).objs.size,[(s.heap.push { cls := .type "range",data := .fields #[.int lo t,.int hi u,.int 1 v] }).objs.size],_,_,H,rfl,
  I1.kept (t':=tk) λb o e=>bu _ e,Vq _ lo (hi - lo).toNat,?_,λb hb=>?_,q⟩
 .have e1:lo+((0:Nat):Int)*1=lo:=by simp
  have e2:(((hi - lo).toNat:Nat):Int) - ((0:Nat):Int)=Builtin.Range.rangeSize lo hi 1:=by rw[rangeSize_one];split <;> lia
  show IsRangeIter _ _ (lo+((0:Nat):Int)*1) ((((hi - lo).toNat:Nat):Int) - ((0:Nat):Int)) 1
  rw[e1,e2]
  exact cz _ rfl
 .have e:b=(s.heap.push { cls := .type "range",data := .fields #[.int lo t,.int hi u,.int 1 v] }).objs.size:=by simpa using hb
  subst e
  exact I1.kU (aO _) (I1.aA.fresh (aO _))
def Vu(ta:TA):TI:=λO H R=>ta O H λvs H1=>∃j:Int,vs=[.int j]/\ -(2 ^ 62)<=j/\j<2 ^ 62/\R (mW 0 j.toNat) H1
theorem ik{a:Expr}{ta:TA}{p:Pos}(hg:Gl X "range")(hm:X.mg "range"=none)(ha:PA X [a] ta)(hs:starEach [a] X.env=[(false,eval a X.env)]:=by rfl):PI X tg (.Call (.Name "range" p) [a] [] pos) (Vu ta):=by
 intro pins s O H R I h
 refine Call_ (qk I hg hm boot_range (Ef (aC (ha pos pins s O H _ I h) λus s1 ⟨vs,H1,I1,r1,q1⟩=>?_) hs rfl))
 obtain⟨j,e,q1,q2,q⟩:=q1
 subst e
 cases r1 with
 |cons r rr=>
  cases rr
  obtain⟨t,rfl⟩:=r
  exact call_range_1 (Vt I1 (by lia) (by lia) q1 q2 (by simpa using q))
def Vv(wi:TI)(g:TG)(tb:TS):TS:=λD O H=>wi O H λJ H1=>∃W:Nat->Nat->St->Hp->Prop,(∃m,W 0 m O H1)/\∀i m O H,W i m O H->
 (J.stop i H/\D.nx O H)\/(J.go i H/\∃N:St->Hp->Prop,(∀O' H',N O' H'->∃m',m'<m/\W (i+1) m' O' H')/\∀x H',J.gJ i H x H'->g x O H' λO2 H2=>tb { D with nx:=N,ct:=N,bk:=D.nx } O2 H2)
noncomputable def xY(fp:List Addr)(h:Heap):List (Addr×Obj):=fp.filterMap λb=>(h.get? b).map λo=>(b,o)
def A3(hb:b∈fp)(e:h.get? b=some o):(b,o)∈xY fp h:=List.mem_filterMap.mpr ⟨b,hb,by rw[e];rfl⟩
def Vw(hp:p∈xY fp h):p.1∈fp/\h.get? p.1=some p.2:=by
 obtain⟨b,hb,e⟩:=List.mem_filterMap.mp hp
 cases q:h.get? b with
 |none=>rw[q] at e;cases e
 |some o=>
  rw[q] at e
  have e':(b,o)=p:=cY e
  subst e'
  exact⟨hb,q⟩
def Inv.pinned(I:Inv X pins O H s)(hf:∀b∈fp,fL X pins H b)(ho:∀b∈fp,∃o,s.heap.get? b=some o/\∀v,o.data ≠ .cell v):Inv X (pins++xY fp s.heap) O H s:=
 I.xP λp hp=>(cS.mp hp).elim (λz=>I.pin p (jc _ z)) λz=>by
  obtain⟨hb,e⟩:=Vw z
  obtain⟨f0,f1,f2,_⟩:=hf p.1 hb
  obtain⟨o,e',d⟩:=ho p.1 hb
  rw[e] at e';cases e'
  exact⟨e,f0,f1,f2,d⟩
def Inv.u9{pl:List (Addr×Obj)}(I:Inv X (pins++pl) O H s):Inv X pins O H s:=I.xP λp hp=>I.pin p (jc _ (mQ _ hp))
def cD{wi:TI}{g:TG}(hi:PI X tg iter wi)(hg:PG X tg g)(hb:eK X body tb)(hp:PassesOwn (model X.prog X.w) X.A X.env X.xe:=by exact PassesOwn.never)(hc:X.calm=true:=by rfl)
  (hs:∀x,foldedSetIterable iter X.env x=pure x:=by intro _;rfl):PS X (.For tg iter body [] pos) (Vv wi g tb):=by
 intro pins s O H D I h
 refine wpAny_For (aC (hi pins s O H _ I h) λv s1 h1=>aC h1 λAZ s2 h2=>?_) hs
 obtain⟨it,fp,tn,J,H2,e,I2,T,kW,f2,W,⟨m0,w0⟩,turn⟩:=h2
 subst e
 have ES:∀{H':Hp},(∀b∈fp,H' b=none)->∀b∈fp,fL X pins H' b:=λhn b hb=>⟨hn b hb,(f2 b hb).2⟩
 refine codeAny_forLoop_any (λn s' =>∃i O' H',Inv X pins O' H' s'/\tn i s'.heap/\(∀b∈fp,H' b=none)/\W i n O' H') ?_ m0 ⟨0,O,H2,I2,kW,λb hb=>(f2 b hb).1,w0⟩
 rintro n s3 ⟨i,O3,H3,I3,xZ,Mn,w3⟩
 rcases turn i n O3 H3 w3 with ⟨stop,qn⟩ | ⟨go,N,hN,step⟩
 .refine xr hp (aC (T.done X rfl rfl rfl hc i pins s3 O3 H3 X.xe I3 (ES Mn) xZ stop) λr s4 ⟨hr,I4⟩=>?_)
  subst hr
  exact Ed ⟨O3,H3,I4,qn⟩
 .refine xr hp (aC (T.item X rfl rfl rfl hc i pins s3 O3 H3 X.xe I3 (ES Mn) xZ go) λr s4 ⟨u,hr,h4⟩=>?_)
  subst hr
  refine xr hp (aC h4 λ_ s5 ⟨x,H5,I5,r5,y5,vc,A4⟩=>?_)
  have Vx:=I5.pinned (ES A4) (T.obj _ _ vc)
  refine xr hp (aC (hg _ s5 O3 H5 x u _ Vx r5 (step x H5 y5)) λ_ s6 ⟨O6,H6,I6,q6⟩=>?_)
  refine xr hp (aC (hb _ s6 O6 H6 _ I6 q6) λf s7 q7=>?_)
  have again:∀{O7:St}{H7:Hp},Inv X (pins++xY fp s5.heap) O7 H7 s7->N O7 H7->∃m,m<n/\∃i O' H',Inv X pins O' H' s7/\tn i s7.heap/\(∀b∈fp,H' b=none)/\W i m O' H':=λ{O7 H7} I7 n7=>by
   obtain⟨m',hm,w7⟩:=hN O7 H7 n7
   refine⟨m',hm,i+1,O7,H7,I7.u9,T.keep _ _ _ vc λb hb o e=>(I7.pin (b,o) (jc _ (jc _ (A3 hb e)))).1,λb hb=>?_,w7⟩
   obtain⟨o,e,d⟩:=T.obj _ _ vc b hb
   exact(I7.pin (b,o) (jc _ (jc _ (A3 hb e)))).2.1
  cases f with
  |next=>obtain⟨O7,H7,I7,n7⟩:=q7;exact again I7 n7
  |cont=>obtain⟨O7,H7,I7,n7⟩:=q7;exact again I7 n7
  |brk=>obtain⟨O7,H7,I7,q7⟩:=q7;exact⟨O7,H7,I7.u9,q7⟩
  |ret v=>obtain⟨x7,O7,H7,I7,r7,q7⟩:=q7;exact⟨x7,O7,H7,I7.u9,r7,q7⟩
end
theorem jl{g:TG}{D:Ends}(Pv:Nat->St->Hp->Prop)(h0:Pv 0 O H)(hl:∀i O H,i<=xs.length->Pv i O H->aj K H a xs)
  (hs:∀i x O H,xs[i]? = some x->Pv i O H->g x O H λO2 H2=>tb { D with nx:=Pv (i+1),ct:=Pv (i+1),bk:=D.nx } O2 H2) (hd:∀O H,Pv xs.length O H->D.nx O H) :
  ∃W:Nat->Nat->St->Hp->Prop,(∃m,W 0 m O H)/\∀i m O H,W i m O H->
   ((rZ K a).stop i H/\D.nx O H)\/((rZ K a).go i H/\∃N:St->Hp->Prop,(∀O' H',N O' H'->∃m',m'<m/\W (i+1) m' O' H')/\∀x H',(rZ K a).gJ i H x H'->g x O H' λO2 H2=>tb { D with nx:=N,ct:=N,bk:=D.nx } O2 H2):=by
 refine⟨λi m O H=>m=xs.length - i/\i<=xs.length/\Pv i O H,⟨xs.length,by simp,bG _,h0⟩,?_⟩
 rintro i m O H ⟨rfl,hi,p⟩
 have q:=hl i O H hi p
 by_cases aT:i<xs.length
 .refine .inr ⟨⟨xs,xs[i],q,by simp[aT]⟩,Pv (i+1),λO' H' p'=>⟨xs.length - (i+1),by lia,rfl,aT,p'⟩,λx H' y=>?_⟩
  obtain⟨e,y⟩:=y
  subst e
  exact hs i x O _ (y xs q) p
 .have e:i=xs.length:=by lia
  subst e
  exact .inl ⟨⟨xs,q,aO _⟩,hd O H p⟩
theorem Vy{g:TG}{D:Ends}(Pv:Nat->St->Hp->Prop)(h0:Pv 0 O H)(hl:∀i O H,i<=xs.length->Pv i O H->ak K H a xs)
  (hs:∀i x O H,xs[i]? = some x->Pv i O H->g x O H λO2 H2=>tb { D with nx:=Pv (i+1),ct:=Pv (i+1),bk:=D.nx } O2 H2) (hd:∀O H,Pv xs.length O H->D.nx O H) :
  ∃W:Nat->Nat->St->Hp->Prop,(∃m,W 0 m O H)/\∀i m O H,W i m O H->
   ((u6 K a).stop i H/\D.nx O H)\/((u6 K a).go i H/\∃N:St->Hp->Prop,(∀O' H',N O' H'->∃m',m'<m/\W (i+1) m' O' H')/\∀x H',(u6 K a).gJ i H x H'->g x O H' λO2 H2=>tb { D with nx:=N,ct:=N,bk:=D.nx } O2 H2):=by
 refine⟨λi m O H=>m=xs.length - i/\i<=xs.length/\Pv i O H,⟨xs.length,by simp,bG _,h0⟩,?_⟩
 rintro i m O H ⟨rfl,hi,p⟩
 have q:=hl i O H hi p
 by_cases aT:i<xs.length
 .refine .inr ⟨⟨xs,xs[i],q,by simp[aT]⟩,Pv (i+1),λO' H' p'=>⟨xs.length - (i+1),by lia,rfl,aT,p'⟩,λx H' y=>?_⟩
  obtain⟨e,y⟩:=y
  subst e
  exact hs i x O _ (y xs q) p
 .have e:i=xs.length:=by lia
  subst e
  exact .inl ⟨⟨xs,q,aO _⟩,hd O H p⟩
theorem Vz{g:TG}{D:Ends}(Pv:Nat->St->Hp->Prop)(h0:Pv 0 O H)
  (hs:∀i O H,i<n->Pv i O H->g (.int (lo+i)) O H λO2 H2=>tb { D with nx:=Pv (i+1),ct:=Pv (i+1),bk:=D.nx } O2 H2) (hd:∀O H,Pv n O H->D.nx O H) :
  ∃W:Nat->Nat->St->Hp->Prop,(∃m,W 0 m O H)/\∀i m O H,W i m O H->
   ((mW lo n).stop i H/\D.nx O H)\/((mW lo n).go i H/\∃N:St->Hp->Prop,(∀O' H',N O' H'->∃m',m'<m/\W (i+1) m' O' H')/\∀x H',(mW lo n).gJ i H x H'->g x O H' λO2 H2=>tb { D with nx:=N,ct:=N,bk:=D.nx } O2 H2):=by
 refine⟨λi m O H=>m=n - i/\i<=n/\Pv i O H,⟨n,by simp,bG _,h0⟩,?_⟩
 rintro i m O H ⟨rfl,hi,p⟩
 by_cases aT:i<n
 .refine .inr ⟨aT,Pv (i+1),λO' H' p'=>⟨n - (i+1),by lia,rfl,aT,p'⟩,λx H' y=>?_⟩
  obtain⟨e,y⟩:=y
  subst e y
  exact hs i O _ aT p
 .have e:i=n:=by lia
  subst e
  exact .inl ⟨aO _,hd O H p⟩
abbrev R2:=V->V->Hp->VK->Prop
def cN(X:Cx)(f:Value->Value->Sem Value)(r:R2):Prop:=
 ∀(pins:List (Addr×Obj)) (s:Shared) (O:St) (H:Hp) (x y:V) (v u:Value) (Q:VK),Inv X pins O H s->RelV x v->RelV y u->r x y H Q->
  wpAny (model X.prog X.w) X.A (f v u) (EP X pins O Q) X.xe s
def ET(X:Cx)(f:Value->Sem Value)(r:V->Hp->VK->Prop):Prop:=
 ∀(pins:List (Addr×Obj)) (s:Shared) (O:St) (H:Hp) (x:V) (v:Value) (Q:VK),Inv X pins O H s->RelV x v->r x H Q->
  wpAny (model X.prog X.w) X.A (f v) (EP X pins O Q) X.xe s
def il(X:Cx)(f:Value)(r:List V->Hp->VK->Prop):Prop:=
 ∀(pins:List (Addr×Obj)) (s:Shared) (O:St) (H:Hp) (xs:List V) (us:List Value) (Q:VK),Inv X pins O H s->Vals xs us->r xs H Q->
  wpAny (model X.prog X.w) X.A (call f us) (EP X pins O Q) X.xe s
def VA(X:Cx)(r:V->Hp->(Bool->Hp->Prop)->Prop):Prop:=
 ∀(pins:List (Addr×Obj)) (s:Shared) (O:St) (H:Hp) (x:V) (v:Value) (Q:Bool->Hp->Prop),Inv X pins O H s->RelV x v->r x H Q->
  wpAny (model X.prog X.w) X.A (truthy v) (TP X pins O Q) X.xe s
def qr(r:R2)(ta tb:TE):TE:=λO H Q=>ta O H λx H1=>tb O H1 λy H2=>r x y H2 Q
def VB(r:V->Hp->VK->Prop)(ta:TE):TE:=λO H Q=>ta O H λx H1=>r x H1 Q
def rI(C:Int->Int->Prop)(g:Int->Int->V):R2:=λx y H Q=>∃i j,x = .int i/\y = .int j/\C i j/\Q (g i j) H
def qt(g:Int->Int->V):R2:=λx y H Q=>∃i j,x = .int i/\y = .int j/\Q (g i j) H
def rU(g:Int->V):V->Hp->VK->Prop:=λx H Q=>∃i,x = .int i/\Q (g i) H
section
variable{X:Cx}{a b c:Expr}{ta tb tc:TE}{pos:Pos}
def EU(ha:PE X a ta)(hb:PE X b tb){R:V->V->Hp->Prop}(I:Inv X pins O H s)
  (h:ta O H λx H1=>tb O H1 λy H2=>R x y H2) 
  (hf:∀v u s2 x y H2,Inv X pins O H2 s2->RelV x v->RelV y u->R x y H2->wpAny (model X.prog X.w) X.A (f v u) Q X.xe s2) :
  wpAny (model X.prog X.w) X.A (eval a X.env) (λv s₁=>wpAny (model X.prog X.w) X.A (eval b X.env) (λu s₂=>wpAny (model X.prog X.w) X.A (f v u) Q X.xe s₂) X.xe s₁) X.xe s:=by
 refine aC (ha pins s O H _ I h) λv s1 ⟨x,H1,I1,r1,q1⟩=>?_
 refine aC (hb pins s1 O H1 _ I1 q1) λu s2 ⟨y,H2,I2,r2,q2⟩=>?_
 exact hf v u s2 x y H2 I2 r1 r2 q2
def bb{op:Operator}(ho:cN X (binaryOp op) r)(ha:PE X a ta)(hb:PE X b tb):PE X (.BinOp a op b pos) (qr r ta tb):=by
 intro pins s O H Q I h
 exact wpAny_BinOp (EU ha hb I h λv u s2 x y H2 I2 rx ry q=>ho pins s2 O H2 x y v u Q I2 rx ry q)
def VC{op:UnaryOp}{r:V->Hp->VK->Prop}(ho:ET X (unaryOp op) r)(ha:PE X a ta):PE X (.UnaryOp op a pos) (VB r ta):=by
 intro pins s O H Q I h
 exact UnaryOp_ (aC (ha pins s O H _ I h) λv s1 ⟨x,H1,I1,r1,q1⟩=>ho pins s1 O H1 x v Q I1 r1 q1)
def jV{C:Int->Int->Prop}
  (rule:∀(i j:Int) (t u:Tok) (s:Shared) (Q:Value->Shared->Prop) (E:Value->Shared->Prop),C i j->Q (.int (g i j) s.toks) { s with toks:=s.toks+1 }->wpAny (model X.prog X.w) X.A (f (.int i t) (.int j u)) Q E s) :
  cN X f (rI C λi j=>.int (g i j)):=by
 intro pins s O H x y v u Q I rx ry h
 obtain⟨i,j,rfl,rfl,hc,q⟩:=h
 obtain⟨t,rfl⟩:=rx
 obtain⟨t',rfl⟩:=ry
 exact rule i j t t' s _ _ hc ⟨.int (g i j),H,I.tok _,⟨_,rfl⟩,q⟩
def Mo
  (rule:∀(i j:Int) (t u:Tok) (s:Shared) (Q:Value->Shared->Prop) (E:Value->Shared->Prop),Q (.int (g i j) s.toks) { s with toks:=s.toks+1 }->wpAny (model X.prog X.w) X.A (f (.int i t) (.int j u)) Q E s) :
  cN X f (qt λi j=>.int (g i j)):=by
 intro pins s O H x y v u Q I rx ry h
 obtain⟨i,j,rfl,rfl,q⟩:=h
 obtain⟨t,rfl⟩:=rx
 obtain⟨t',rfl⟩:=ry
 exact rule i j t t' s _ _ ⟨.int (g i j),H,I.tok _,⟨_,rfl⟩,q⟩
def A7{g:Int->Int->Bool}
  (rule:∀(i j:Int) (t u:Tok) (s:Shared) (Q:Value->Shared->Prop) (E:Value->Shared->Prop),Q (.bool (g i j)) s->wpAny (model X.prog X.w) X.A (f (.int i t) (.int j u)) Q E s) :
  cN X f (qt λi j=>.bl (g i j)):=by
 intro pins s O H x y v u Q I rx ry h
 obtain⟨i,j,rfl,rfl,q⟩:=h
 obtain⟨t,rfl⟩:=rx
 obtain⟨t',rfl⟩:=ry
 exact rule i j t t' s _ _ ⟨.bl (g i j),H,I,rfl,q⟩
def Mp(i j:Int):Prop:=0<j/\j<1073741824
def A8(i j:Int):Prop:=(-(2 ^ 64)<i/\i<2 ^ 64)\/(-(2 ^ 64)<j/\j<2 ^ 64)
def A8.ok{i j:Int}(h:A8 i j):IntMulOk i j:=by
 rcases h with ⟨h1,h2⟩ | ⟨h1,h2⟩
 .exact .of_left (intBits_le_64 h1 h2)
 .exact .of_right (intBits_le_64 h1 h2)
def fM:cN X (binaryOp .Add) (qt λi j=>.int (i+j)):=Mo λ_ _ _ _ _ _ _ q=>add_int q
def qu:cN X (binaryOp .Sub) (qt λi j=>.int (i - j)):=Mo λ_ _ _ _ _ _ _ q=>sub_int q
def ve:cN X (binaryOp .Mult) (rI A8 λi j=>.int (i*j)):=jV λ_ _ _ _ _ _ _ hc q=>mul_int q hc.ok
theorem mX:cN X (binaryOp .FloorDiv) (rI Mp λi j=>.int (i / j)):=jV λi j _ _ _ _ _ hc q=>by
 have h1:(0:Int)<j:=hc.1
 have h2:j<1073741824:=hc.2
 exact floordiv_int (by lia) (by rw[Int.fdiv_eq_ediv_of_nonneg i (by lia)];exact q) (.inl (PyProof.noPylong_small (by lia)))
theorem gK:cN X (binaryOp .Mod) (rI (λ_ j=>0<j) λi j=>.int (i % j)):=jV λi j _ _ _ _ _ hc q=>by
 have h1:(0:Int)<j:=hc
 exact mod_int' (by lia) (by rw[Int.fmod_eq_emod_of_nonneg i (by lia)];exact q)
def VD{f:Value->Sem Value}{g:Int->Int}
  (rule:∀(i:Int) (t:Tok) (s:Shared) (Q:Value->Shared->Prop) (E:Value->Shared->Prop),Q (.int (g i) s.toks) { s with toks:=s.toks+1 }->wpAny (model X.prog X.w) X.A (f (.int i t)) Q E s) :
  ET X f (rU λi=>.int (g i)):=by
 intro pins s O H x v Q I rx h
 obtain⟨i,rfl,q⟩:=h
 obtain⟨t,rfl⟩:=rx
 exact rule i t s _ _ ⟨.int (g i),H,I.tok _,⟨_,rfl⟩,q⟩
def VE:ET X (unaryOp .USub) (rU λi=>.int (-i)):=VD λ_ _ _ _ _ q=>neg_int q
end
noncomputable def Mq:V->V->Bool
 |.aB,.aB=>true | .aB,.int _=>true | .int _,.aB=>true | .aB,.bl _=>true | .bl _,.aB=>true | .aB,.str _=>true | .str _,.aB=>true
 |.int _,.int _=>true | .bl _,.bl _=>true | .str _,.str _=>true | .ji _,.ji _=>true
 |.int _,.str _=>true | .str _,.int _=>true | .bl _,.str _=>true | .str _,.bl _=>true
 |_,_=>false
def VF:R2:=λx y H Q=>Mq x y=true/\Q (.bl (decide (x=y))) H
def VG:R2:=λx y H Q=>Mq x y=true/\Q (.bl (!decide (x=y))) H
def Mr{i j:Int}:decide (V.int i=V.int j)=(i==j):=by
 rw[Ay]
 simp
def Ms{i j:Bool}:decide (V.bl i=V.bl j)=(i==j):=by
 rw[Ay]
 simp
def Mu{i j:Str}:decide (V.str i=V.str j)=(i==j):=by
 rw[Ay]
 simp
def Mv{i j:Array UInt8}:decide (V.ji i=V.ji j)=(i.toList==j.toList):=by
 rw[Ay]
 cases i
 cases j
 simp
section
variable{X:Cx}{a b c:Expr}{ta tb tc:TE}{pos:Pos}
def cU{Q:VK}{k k':Bool}(I:Inv X pins O H s)(q:Q (.bl k) H)(e:k=k'):EP X pins O Q (.bool k') s:=by
 subst e
 exact⟨.bl k,H,I,rfl,q⟩
def mY:cN X (compareOp .Eq) VF:=by
 intro pins s O H x y v u Q I rx ry h
 obtain⟨hs,q⟩:=h
 cases x with
 |aB=>
  cases rx
  cases y with
  |aB=>cases ry;exact PySem.EqNone.eq_none_none (cU I q (by simp))
  |bl j=>cases ry;exact PySem.EqNone.eq_none_bool (cU I q (by simp))
  |int j=>obtain⟨t',rfl⟩:=ry;exact PySem.EqNone.eq_none_int (cU I q (by simp))
  |str j=>obtain⟨t',rfl⟩:=ry;exact PySem.EqNone.eq_none_str (cU I q (by simp))
  |_=>exact absurd (show false=true from hs) b8
 |bl i=>
  cases rx
  cases y with
  |aB=>cases ry;exact PySem.EqNone.eq_bool_none (cU I q (by simp))
  |bl j=>cases ry;exact eq_bool (cU I q Ms)
  |str j=>obtain⟨t',rfl⟩:=ry;exact PySem.EqMixed.eq_bool_str (cU I q (by simp))
  |_=>exact absurd (show false=true from hs) b8
 |int i=>
  obtain⟨t,rfl⟩:=rx
  cases y with
  |aB=>cases ry;exact PySem.EqNone.eq_int_none (cU I q (by simp))
  |int j=>obtain⟨t',rfl⟩:=ry;exact eq_int (cU I q Mr)
  |str j=>obtain⟨t',rfl⟩:=ry;exact PySem.EqMixed.eq_int_str (cU I q (by simp))
  |_=>exact absurd (show false=true from hs) b8
 |str i=>
  obtain⟨t,rfl⟩:=rx
  cases y with
  |aB=>cases ry;exact PySem.EqNone.eq_str_none (cU I q (by simp))
  |bl j=>cases ry;exact PySem.EqMixed.eq_str_bool (cU I q (by simp))
  |int j=>obtain⟨t',rfl⟩:=ry;exact PySem.EqMixed.eq_str_int (cU I q (by simp))
  |str j=>obtain⟨t',rfl⟩:=ry;exact eq_str (cU I q Mu)
  |_=>exact absurd (show false=true from hs) b8
 |ji i=>
  obtain⟨t,rfl⟩:=rx
  cases y with
  |ji j=>obtain⟨t',rfl⟩:=ry;exact PySem.W.eq_bytes (cU I q Mv)
  |_=>exact absurd (show false=true from hs) b8
 |_=>cases y <;> exact absurd (show false=true from hs) b8
def jm:cN X (compareOp .NotEq) VG:=by
 intro pins s O H x y v u Q I rx ry h
 obtain⟨hs,q⟩:=h
 cases x with
 |aB=>
  cases rx
  cases y with
  |aB=>cases ry;exact PySem.EqNone.ne_none_none (cU I q (by simp))
  |bl j=>cases ry;exact PySem.EqNone.ne_none_bool (cU I q (by simp))
  |int j=>obtain⟨t',rfl⟩:=ry;exact PySem.EqNone.ne_none_int (cU I q (by simp))
  |str j=>obtain⟨t',rfl⟩:=ry;exact PySem.EqNone.ne_none_str (cU I q (by simp))
  |_=>exact absurd (show false=true from hs) b8
 |bl i=>
  cases rx
  cases y with
  |aB=>cases ry;exact PySem.EqNone.ne_bool_none (cU I q (by simp))
  |bl j=>cases ry;exact ne_bool (cU I q (fc not Ms))
  |str j=>obtain⟨t',rfl⟩:=ry;exact PySem.EqMixed.ne_bool_str (cU I q (by simp))
  |_=>exact absurd (show false=true from hs) b8
 |int i=>
  obtain⟨t,rfl⟩:=rx
  cases y with
  |aB=>cases ry;exact PySem.EqNone.ne_int_none (cU I q (by simp))
  |int j=>obtain⟨t',rfl⟩:=ry;exact ne_int (cU I q (fc not Mr))
  |str j=>obtain⟨t',rfl⟩:=ry;exact PySem.EqMixed.ne_int_str (cU I q (by simp))
  |_=>exact absurd (show false=true from hs) b8
 |str i=>
  obtain⟨t,rfl⟩:=rx
  cases y with
  |aB=>cases ry;exact PySem.EqNone.ne_str_none (cU I q (by simp))
  |bl j=>cases ry;exact PySem.EqMixed.ne_str_bool (cU I q (by simp))
  |int j=>obtain⟨t',rfl⟩:=ry;exact PySem.EqMixed.ne_str_int (cU I q (by simp))
  |str j=>obtain⟨t',rfl⟩:=ry;exact ne_str (cU I q (fc not Mu))
  |_=>exact absurd (show false=true from hs) b8
 |ji i=>
  obtain⟨t,rfl⟩:=rx
  cases y with
  |ji j=>obtain⟨t',rfl⟩:=ry;exact PySem.W.ne_bytes (cU I q (fc not Mv))
  |_=>exact absurd (show false=true from hs) b8
 |_=>cases y <;> exact absurd (show false=true from hs) b8
def mZ:cN X (compareOp .Lt) (qt λi j=>.bl (decide (i<j))):=A7 λ_ _ _ _ _ _ _ q=>lt_int q
def vf:cN X (compareOp .LtE) (qt λi j=>.bl (decide (i<=j))):=A7 λ_ _ _ _ _ _ _ q=>le_int q
def Mw:cN X (compareOp .Gt) (qt λi j=>.bl (decide (j<i))):=A7 λ_ _ _ _ _ _ _ q=>gt_int q
def VH:cN X (compareOp .GtE) (qt λi j=>.bl (decide (j<=i))):=A7 λ_ _ _ _ _ _ _ q=>ge_int q
def A9:cN X (compareOp .In) (λx y H Q=>∃i j,x = .str i/\y = .str j/\Q (.bl (!(Builtin.Str.occurrences j i 0 j.length 1).isEmpty)) H):=by
 intro pins s O H x y v u Q I rx ry h
 obtain⟨i,j,rfl,rfl,q⟩:=h
 obtain⟨t,rfl⟩:=rx
 obtain⟨t',rfl⟩:=ry
 exact in_str (cU I q rfl)
def x4:cN X (compareOp .Is) (λx y H Q=>y = .aB/\Q (.bl (decide (x = .aB))) H):=by
 intro pins s O H x y v u Q I rx ry h
 obtain⟨rfl,q⟩:=h
 cases ry
 refine is_none_gen (cU I q ?_)
 cases x <;> first
  |(cases rx;rfl)
  |(obtain⟨t,rfl⟩:=rx;rfl)
def VI:cN X (compareOp .IsNot) (λx y H Q=>y = .aB/\Q (.bl (!decide (x = .aB))) H):=by
 intro pins s O H x y v u Q I rx ry h
 obtain⟨rfl,q⟩:=h
 cases ry
 refine isnot_none_gen (cU I q ?_)
 cases x <;> first
  |(cases rx;rfl)
  |(obtain⟨t,rfl⟩:=rx;rfl)
def VJ:cN X (compareOp .NotIn) (λx y H Q=>∃i j,x = .str i/\y = .str j/\Q (.bl (!(!(Builtin.Str.occurrences j i 0 j.length 1).isEmpty))) H):=by
 intro pins s O H x y v u Q I rx ry h
 obtain⟨i,j,rfl,rfl,q⟩:=h
 obtain⟨t,rfl⟩:=rx
 obtain⟨t',rfl⟩:=ry
 exact notIn_str (cU I q rfl)
def Ba(b:Expr){op:CmpOp}(h:op ≠ .In:=by decide)(h2:op ≠ .NotIn:=by decide):behindInMarks op b=false:=by
 have e1:(op==CmpOp.In)=false:=by cases op <;> first | rfl | exact absurd rfl h
 have e2:(op==CmpOp.NotIn)=false:=by cases op <;> first | rfl | exact absurd rfl h2
 cases b <;> simp[behindInMarks,e1,e2]
def r6{op:CmpOp}(ho:cN X (compareOp op) r)(ha:PE X a ta)(hb:PE X b tb)(hm:behindInMarks op b=false:=by first | exact Ba _ | rfl):PE X (.Compare a [op] [b] pos) (qr r ta tb):=by
 intro pins s O H Q I h
 exact wpAny_Compare1 (EU ha hb I h λv u s2 x y H2 I2 rx ry q=>ho pins s2 O H2 x y v u Q I2 rx ry q) hm
def EV(t:TE):TT:=λO H Q=>t O H λx H' =>∃k,x = .bl k/\Q k H'
def bO{op:CmpOp}(ho:cN X (compareOp op) r)(ha:PE X a ta)(hb:PE X b tb)(hm:behindInMarks op b=false:=by first | exact Ba _ | rfl):PT X (.Compare a [op] [b] pos) (EV (qr r ta tb)):=by
 intro pins s O H Q I h
 refine wpAny_isTrue_Compare1 (aC (ha pins s O H _ I h) λv s1 ⟨x,H1,I1,r1,q1⟩=>aC (hb pins s1 O H1 _ I1 q1) λu s2 ⟨y,H2,I2,r2,q2⟩=>
  aC (ho pins s2 O H2 x y v u _ I2 r1 r2 q2) λc s3 ⟨z,H3,I3,r3,k,e,q3⟩=>?_) hm
 subst e
 cases r3
 exact pV ⟨H3,I3,q3⟩
def Mx(r r':R2)(ta tb tc:TE):TE:=λO H Q=>ta O H λx H1=>tb O H1 λy H2=>r x y H2 λz H3=>∃k,z = .bl k/\
 (if k=true then tc O H3 λw' H4=>r' y w' H4 Q else Q (.bl false) H3)
def VL{op:CmpOp}(ho:cN X (compareOp op) r)(lO:cN X (compareOp r8) r')(ha:PE X a ta)(hb:PE X b tb)(hc:PE X c tc)
  (hm:lastMarks [op,r8] [b,c]=false:=by with_unfolding_all rfl):PE X (.Compare a [op,r8] [b,c] pos) (Mx r r' ta tb tc):=by
 intro pins s O H Q I h
 refine Compare_chain (aC (ha pins s O H _ I h) λv s1 ⟨x,H1,I1,r1,q1⟩=>chain_link (aC (hb pins s1 O H1 _ I1 q1) λu s2 ⟨y,H2,I2,r2,q2⟩=>
  aC (ho pins s2 O H2 x y v u _ I2 r1 r2 q2) λd s3 ⟨z,H3,I3,r3,k,e,q3⟩=>?_)) hm
 subst e
 cases r3
 refine pV ?_
 cases k with
 |false=>exact ite_ff ⟨.bl false,H3,I3,rfl,q3⟩
 |true=>exact ite_tt (chain_last (aC (hc pins s3 O H3 _ I3 q3) λw' s4 ⟨z',H4,I4,r4,q4⟩=>lO pins s4 O H4 y z' u w' Q I4 r2 r4 q4))
def Bb{op:CmpOp}(ho:cN X (compareOp op) r)(lO:cN X (compareOp r8) r')(ha:PE X a ta)(hb:PE X b tb)(hc:PE X c tc)
  (hm:lastMarks [op,r8] [b,c]=false:=by with_unfolding_all rfl):PT X (.Compare a [op,r8] [b,c] pos) (EV (Mx r r' ta tb tc)):=by
 intro pins s O H Q I h
 refine isTrue_chain (aC (ha pins s O H _ I h) λv s1 ⟨x,H1,I1,r1,q1⟩=>test_link (aC (hb pins s1 O H1 _ I1 q1) λu s2 ⟨y,H2,I2,r2,q2⟩=>
  aC (ho pins s2 O H2 x y v u _ I2 r1 r2 q2) λd s3 ⟨z,H3,I3,r3,k,e,q3⟩=>?_)) hm
 subst e
 cases r3
 refine pV ?_
 cases k with
 |false=>
  obtain⟨k',e',q'⟩:=q3
  cases e'
  exact ite_ff ⟨H3,I3,q'⟩
 |true=>
  refine ite_tt (test_last (aC (hc pins s3 O H3 _ I3 q3) λw' s4 ⟨z',H4,I4,r4,q4⟩=>aC (lO pins s4 O H4 y z' u w' _ I4 r2 r4 q4) λd' s5 ⟨z2,H5,I5,r5,k2,e2,q5⟩=>?_))
  subst e2
  cases r5
  exact pV ⟨H5,I5,q5⟩
def EW(K:Frag)(x:V)(H:Hp)(k:Bool):Prop:=
 match x with
 |.aB=>k=false
 |.bl b=>k=b
 |.int i=>k=(i != 0)
 |.str y=>y.length<=sizeLine/\k=((y.length:Int) != 0)
 |.ji y=>y.size<=sizeLine/\k=((y.size:Int) != 0)
 |.ref p=>(∃xs,aj K H p xs/\k = !xs.isEmpty)\/(∃xs,ak K H p xs/\k = !xs.isEmpty)\/∃kvs,H p=some (.dK kvs)/\k = !kvs.isEmpty
 |_=>False
def VM{kvs:List (κ×V)}{vs:List (κ×Value)}(r:KV kvs vs):(!vs.isEmpty) = !kvs.isEmpty:=by
 cases r <;> rfl
def My(r:Vals xs its):(!its.toArray.isEmpty) = !xs.isEmpty:=by
 cases r <;> simp
def n9:(sizeLine:Nat)<2 ^ 63:=by rw[sizeLine_eq];decide
theorem VN:VA X (λx H Q=>∃k,EW X.K x H k/\Q k H):=by
 intro pins s O H x v Q I rx h
 obtain⟨k,e,q⟩:=h
 have hl:=n9
 have hs:sizeLine=16777216:=sizeLine_eq
 cases x with
 |aB=>
  cases rx
  have e':k=false:=e
  subst e'
  exact truthy_none ⟨H,I,q⟩
 |bl b=>
  cases rx
  have e':k=b:=e
  subst e'
  exact pV ⟨H,I,q⟩
 |int i=>
  obtain⟨t,rfl⟩:=rx
  have e':k=(i != 0):=e
  subst e'
  exact PySem.P.truthy_int ⟨H,I,q⟩
 |str y=>
  obtain⟨t,rfl⟩:=rx
  obtain⟨hy,e'⟩:y.length<=sizeLine/\k=((y.length:Int) != 0):=e
  subst e'
  exact PySem.P.truthy_str (by lia) ⟨H,I.tok _,q⟩
 |ji y=>
  obtain⟨t,rfl⟩:=rx
  obtain⟨hy,e'⟩:y.size<=sizeLine/\k=((y.size:Int) != 0):=e
  subst e'
  exact PySem.W.truthy_bytes (by lia) ⟨H,I.tok _,q⟩
 |ref p=>
  cases rx
  have e':(∃xs,aj X.K H p xs/\k = !xs.isEmpty)\/(∃xs,ak X.K H p xs/\k = !xs.isEmpty)\/∃kvs,H p=some (.dK kvs)/\k = !kvs.isEmpty:=e
  rcases e' with ⟨xs,hx,e'⟩ | ⟨xs,hx,e'⟩ | ⟨kvs,hx,e'⟩
  .subst e'
   obtain⟨its,r,pl,hz⟩:=I.list hx
   have hlen:=r.length
   exact wpAny_truthy_list pl.isList (by simp only[br];lia) ⟨H,I.tok _,by rw[My r];exact q⟩
  .subst e'
   obtain⟨its,r,pl,hz⟩:=I.tuple hx
   have hlen:=r.length
   exact truthy_tuple pl (by simp only[br];lia) ⟨H,I.tok _,by rw[My r];exact q⟩
  .subst e'
   obtain⟨hz,hS,vs,r,m⟩:kvs.length<=sizeLine/\(p==sysModules)=false/\∃vs,KV kvs vs/\s.heap.DictOf (dQ X.prog X.w) p vs:=I.aA p _ hx
   have hlen:kvs.length=vs.length:=gE r
   exact wpAny_truthy_dict hS m (by lia) ⟨H,I.tok _,by rw[VM r];exact q⟩
 |_=>exact(show False from e).elim
def se(ha:PE X a ta)(he:∀whole,isTrue a X.env whole=(do let v<-whole;standAt a.pos;holding [v] (truthy v))) :
  PT X a (λO H Q=>ta O H λx H' =>∃k,EW X.K x H' k/\Q k H'):=by
 intro pins s O H Q I h
 exact isTrue_plain (aC (ha pins s O H _ I h) λv s1 ⟨x,H1,I1,r1,q1⟩=>VN pins s1 O H1 x v Q I1 r1 q1) (he _)
def sf:cN X (binaryOp .Add) (λx y H Q=>∃i j,x = .str i/\y = .str j/\i.length+j.length<=sizeLine/\Q (.str (i++j)) H):=by
 intro pins s O H x y v u Q I rx ry h
 obtain⟨i,j,rfl,rfl,hz,q⟩:=h
 obtain⟨t,rfl⟩:=rx
 obtain⟨t',rfl⟩:=ry
 exact add_str (λt' tk=>⟨.str (i++j),H,I.tok _,⟨_,rfl⟩,q⟩) hz
def vals1{x:V}(r:Vals [x] us):∃u,us=[u]/\RelV x u:=by
 cases r with
 |cons r1 r2=>cases r2;exact⟨_,rfl,r1⟩
def vals2{x:V}(r:Vals [x,y] us):∃u w',us=[u,w']/\RelV x u/\RelV y w':=by
 cases r with
 |cons r1 r2=>
  cases r2 with
  |cons r3 r4=>cases r4;exact⟨_,_,rfl,r1,r3⟩
end
structure si(h:Heap)(x dx C:Addr)(mA:Str->Option Value):Prop where
 obj:h.get? x=some (instObj C dx)
 ns:h.Ns1 dx mA
 ne:dx≠x
def VO(n:h.Ns1 dx mA):∃od,h.get? dx=some od/\∀name,lookIn name od=some (mA name):=by
 obtain⟨o,es,ep,ho,hd,hk,_,hm⟩:=n
 refine⟨o,ho,λname=>?_⟩
 have e:=hm name
 unfold nsFind findBy at e
 rw[<-Array.find?_toList] at e
 unfold lookIn
 rw[hd]
 dsimp only
 split
 .rename_i y q
  rw[q] at e
  exact fc some e
 .rename_i q
  rw[q] at e
  have a:es.toList.any (·.refKey)=false:=by
   rw[Eg]
   intro y hy
   obtain⟨z,t,x5⟩:=hk y (Array.mem_toList_iff.mp hy)
   simp[DictEntry.refKey,x5]
  have a':¬es.toList.any (·.refKey)=true:=by rw[a];exact b8
  rw[av a']
  exact fc some e
def si.look{x:Addr}(I:si h x dx C mA):∃od,PySem.W.InstAt h x (instObj C dx) C (some od)/\∀name,lookIn name od=some (mA name):=
 let ⟨od,ho,hl⟩:=VO I.ns
 ⟨od,⟨I.obj,rfl,rfl,ho⟩,hl⟩
section
variable{prog:Program}{w:World}{A:Around}{E:Value->Shared->Prop}{s:Shared}{K:Frag}{x dx C f:Addr}{mA:Str->Option Value}{name:Str}{v:Value}
def get_map(X:K.In s.heap)(I:si s.heap x dx C mA)(hg:plainGet K C name=true)(hh:hasDictIn K C=true)
  (ha:findIn K (.ref C) name=some none) (hv:mA name=some v) (VP:PySem.W.handedIn v=true) (h:Q v { s with toks:=s.toks+1 }) :
  wpAny (model prog w) A (getAttr (.ref x) name expr) Q E s:=by
 obtain⟨od,J,hl⟩:=I.look
 exact PySem.W.get_value X J (Lv hg).1 (PySem.W.findObj_own hh ha rfl (by rw[hl,hv])) VP h
def VQ{Q:Value×List Value->Shared->Prop}(X:K.In s.heap)(I:si s.heap x dx C mA)(hg:plainGet K C name=true)
  (hf:findIn K (.ref C) name=some (some (.ref f))) (ht:isFn K (.ref f)=true) (hv:mA name=none) (h:Q (.ref f,[.ref x]) s) :
  wpAny (model prog w) A (getMethod (.ref x) name pl) Q E s:=by
 obtain⟨od,J,hl⟩:=I.look
 exact PySem.W.method_fn X J (Lv hg).1 (Lv hg).2 hf (jM.mp ht) (by show(lookIn name od).map (·.isSome)=some false;rw[hl,hv];rfl) h
theorem VR{Q:Unit->Shared->Prop}(X:K.In s.heap)(I:si s.heap x dx C mA)
  (hs:findIn K (.ref C) "__setattr__"=some (some (.builtin "object.__setattr__"))) (hp:plainOver K C=true) (ht:takerIn K C name=some none) (hh:hasDictIn K C=true)
  (hw:PySem.Within mA ns) (hsz:ns.length<=sizeLine)
  (h:∀h',si h' x dx C (λy=>if y=name then some v else mA y)->Heap.SameBut dx s.heap h'->Q () { s with heap:=h',toks:=s.toks+2 }) :
  wpAny (model prog w) A (setAttr (.ref x) name v) Q E s:=by
 obtain⟨od,J,hl⟩:=I.look
 refine PySem.W.set_plain X J hs (PySem.W.osa_open (s:={ s with toks:=s.toks+1 }) (r:=none) X J hp ht λb=>?_)
 obtain⟨cd,hc,uV⟩:=PySem.W.any_some hh
 have hx:s.heap.get? x=some ⟨.ref C,some dx,.plain,#[]⟩:=I.obj
 refine ah (aL (ah (ah (wpAny_loadPart hx (ah (Looks.here (s:={ s with toks:=s.toks+1 }) (PySem.W.looks_clsIn X hc) ?_))))))
 rw[uV]
 refine aL (a:=some dx) (ah (aL (ah ?_)))
 refine wpAny_nsSet1 (s:={ s with toks:=s.toks+1 }) I.ns λh' sj x6=>?_
 obtain⟨oD,esD,epD,VS,VT,VU⟩:=sj.count (PySem.Within.cons name v hw)
 refine ah (wpAny_lookBehind VS (by rw[VT];exact pastItsLine_dict (bF VU (by rw[dO];lia))) ?_)
 exact aL (h _ ⟨(x6.2 _ (bo I.ne)).trans I.obj,sj,I.ne⟩ x6)
def VV{vs:List Value}(X:K.In s.heap)(hm:makesIn K C=true)
  (hi:findIn K (.ref C) "__init__"=some (some (.ref f))) (hf:PySem.W.typeIn K (.ref f)=some (.type "function"))
  (h:codeAny (model prog w) (A.under (.builtin "type.__call__" ⟨.ref C::vs,kw⟩)) (.call (.ref f) ⟨.ref (s.heap.objs.size+1)::vs,kw⟩) (PySem.W.InitBack (s.heap.objs.size+1) R)
   { s with heap:=(s.heap.push emptyDict).push (instObj C s.heap.objs.size) }) :
  codeAny (model prog w) A (.call (.ref C) ⟨vs,kw⟩) R s:=by
 obtain⟨hh,g,d,t,os⟩:=s
 exact PySem.W.make_core (PySem.W.makes_of X hm) (Lw X hi) (λself=>PySem.W.bind_fn X self hf) (.inl rfl) h
def VW(X:K.In s.heap)(hm:makesIn K C=true)
  (hi:findIn K (.ref C) "__init__"=some (some (.builtin "object.__init__")))
  (hb:∀self,Looks (model prog w) s.heap (bindSpecial (.builtin "object.__init__") self) (.builtin "object.__init__",[self]))
  (h:codeAny (model prog w) (A.under (.builtin "type.__call__" ⟨[.ref C],[]⟩)) (.call (.builtin "object.__init__") ⟨[.ref (s.heap.objs.size+1)],[]⟩) (PySem.W.InitBack (s.heap.objs.size+1) R)
   { s with heap:=(s.heap.push emptyDict).push (instObj C s.heap.objs.size) }) :
  codeAny (model prog w) A (.call (.ref C) ⟨[],[]⟩) R s:=by
 obtain⟨hh,g,d,t,os⟩:=s
 exact PySem.W.make_core (PySem.W.makes_of X hm) (Lw X hi) hb (.inr ⟨rfl,rfl⟩) h
end
noncomputable def bc(f:Str)(v:V):List (Str×V)->List (Str×V)
 |[]=>[(f,v)]
 |(g,x)::r=>if g=f then (g,v)::r else (g,x)::bc f v r
theorem dm(f g:Str)(v:V):∀fs:List (Str×V),(bc f v fs).lookup g=if g=f then some v else fs.lookup g
 |[]=>by
  show List.lookup g [(f,v)]=_
  by_cases h:g=f
  .have hb:(g==f)=true:=jM.mpr h
   simp only[List.lookup,hb,az h]
  .have hb:(g==f)=false:=uy.mpr h
   simp only[List.lookup,hb,av h]
 |(k,x)::r=>by
  have ih:=dm f g v r
  rw[show bc f v ((k,x)::r)=(if k=f then (k,v)::r else (k,x)::bc f v r) from rfl]
  by_cases hk:k=f
  .rw[az hk]
   by_cases h:g=k
   .have hb:(g==k)=true:=jM.mpr h
    simp only[List.lookup,hb,az (h.trans hk)]
   .have hb:(g==k)=false:=uy.mpr h
    simp only[List.lookup,hb,av (λe:g=f=>h (e.trans hk.symm))]
  .rw[av hk]
   by_cases h:g=k
   .have hb:(g==k)=true:=jM.mpr h
    simp only[List.lookup,hb,av (λe:g=f=>hk (h.symm.trans e))]
   .have hb:(g==k)=false:=uy.mpr h
    simp only[List.lookup,hb]
    exact ih
theorem EX(f:Str)(v:V):∀fs:List (Str×V),f∈(bc f v fs).map (·.1)/\∀g,g∈fs.map (·.1)->g∈(bc f v fs).map (·.1)
 |[]=>⟨by simp[bc],λg h=>by simp at h⟩
 |(k,x)::r=>by
  obtain⟨i1,i2⟩:=EX f v r
  rw[show bc f v ((k,x)::r)=(if k=f then (k,v)::r else (k,x)::bc f v r) from rfl]
  by_cases hk:k=f
  .rw[az hk]
   subst hk
   exact⟨by simp,λg h=>by simpa using h⟩
  .rw[av hk]
   refine⟨?_,λg h=>?_⟩
   .rw[bS]
    exact bX _ i1
   .rw[bS] at h ⊢
    rcases cw.mp h with e | e
    .exact cw.mpr (.inl e)
    .exact bX _ (i2 g e)
theorem Mz(f:Str)(v:V):∀fs:List (Str×V),(bc f v fs).length<=fs.length+1
 |[]=>by simp[bc]
 |(k,x)::r=>by
  have ih:=Mz f v r
  rw[show bc f v ((k,x)::r)=(if k=f then (k,v)::r else (k,x)::bc f v r) from rfl]
  by_cases hk:k=f
  .rw[az hk,dO,dO];lia
  .rw[av hk,dO,dO];lia
def gb.some_of{o:Option Value}(r:gb (some v) o):∃u,o=some u/\RelV v u:=by
 cases o with
 |none=>exact(show False from r).elim
 |some u=>exact⟨u,rfl,r⟩
def gb.none_of{o:Option Value}(r:gb none o):o=none:=by
 cases o with
 |none=>rfl
 |some u=>exact(show False from r).elim
def VX(r:RelV v u):PySem.W.handedIn u=true:=by
 cases v with
 |aB=>cases(show u=Value.none from r);rfl
 |bl b=>cases(show u=Value.bool b from r);rfl
 |int i=>obtain⟨t,e⟩:=(show ∃t,u=Value.int i t from r);cases e;rfl
 |str x=>obtain⟨t,e⟩:=(show ∃t,u=Value.str x t from r);cases e;rfl
 |ji b=>obtain⟨t,e⟩:=(show ∃t,u=Value.bytes b t from r);cases e;rfl
 |rR b=>obtain⟨t,e⟩:=(show ∃t,u=Value.float b t from r);cases e;rfl
 |ref a=>cases(show u=Value.ref a from r);rfl
 |ty n=>cases(show u=Value.type n from r);rfl
section
variable{P:Program}{w:World}{H H':Hp}{h h':Heap}{a C dx:Addr}{fs xK:List (Str×V)}
def x8(aA:dr P w H h)(e:H a=some (.ins C dx fs)):∃mA,si h a dx C mA/\(∀f,gb (fs.lookup f) (mA f))/\PySem.Within mA (fs.map (·.1))/\fs.length<=1000/\H dx=some (.own a):=by
 obtain⟨d,z,ne,ob,mA,n,r,q⟩:=(show da P w H h a (.ins C dx fs) from aA a _ e)
 exact⟨mA,⟨ob,n,ne⟩,r,q,z,d⟩
end
structure de(K:Frag)(C:Addr):Prop where
 pg:plainGet K C Str.empty=true
 hd:hasDictIn K C=true
 po:plainOver K C=true
 sa:findIn K (.ref C) "__setattr__"=some (some (.builtin "object.__setattr__"))
def de.get(c:de K C)(f:Str):plainGet K C f=true:=c.pg
def bW(K:Frag)(C:Addr)(f:Str):Prop:=findIn K (.ref C) f=some none
def bW.VY{f:Str}(n:bW K C f):takerIn K C f=some none:=by
 unfold takerIn
 rw[show findIn K (.ref C) f=some none from n]
 rfl
structure Meth(K:Frag)(C:Addr)(m:Str)(f:Addr):Prop where
 at_:findIn K (.ref C) m=some (some (.ref f))
 fn:isFn K (.ref f)=true
 kp:keepIn K (.ref f)=true
section
variable{X:Cx}{pins:List (Addr×Obj)}{O:St}{H:Hp}{s:Shared}{a C dx:Addr}{fs:List (Str×V)}{f:Str}{v:V}{A:Around}{E:Value->Shared->Prop}
def VZ{b:Bool}(I:Inv X pins O H s)(e:H a=some (.ins C dx fs))(c:de X.K C)(n:bW X.K C f)(l:fs.lookup f=some v)
  (h:∀u s',Inv X pins O H s'->RelV v u->Q u s'):wpAny (model X.prog X.w) A (getAttr (.ref a) f b) Q E s:=by
 obtain⟨mA,σ,r,_,_,_⟩:=x8 I.aA e
 obtain⟨u,hu,ru⟩:=gb.some_of (v:=v) (o:=mA f) (by rw[<-l];exact r f)
 exact get_map I.cG σ (c.get f) c.hd n hu (VX ru) (h u _ (I.tok _) ru)
def MA{m:Str}{g:Addr}{Q:Value×List Value->Shared->Prop}(I:Inv X pins O H s)(e:H a=some (.ins C dx fs))(c:de X.K C)(k:Meth X.K C m g)(l:fs.lookup m=none)
  (h:Q (.ref g,[.ref a]) s):wpAny (model X.prog X.w) A (getMethod (.ref a) m pl) Q E s:=by
 obtain⟨mA,σ,r,_,_,_⟩:=x8 I.aA e
 have hn:mA m=none:=gb.none_of (by rw[<-l];exact r m)
 exact VQ I.cG σ (c.get m) k.at_ k.fn hn h
theorem V0{Q:Unit->Shared->Prop}(I:Inv X pins O H s)(e:H a=some (.ins C dx fs))(c:de X.K C)(n:bW X.K C f)(hl:fs.length<1000)(ry:RelV y u)
  (h:∀s',Inv X pins O (upd H a (.ins C dx (bc f y fs))) s'->Q () s'):wpAny (model X.prog X.w) A (setAttr (.ref a) f u) Q E s:=by
 obtain⟨mA,σ,r,wi,_,ho⟩:=x8 I.aA e
 have hz:(fs.map (·.1)).length<=sizeLine:=by rw[aw,sizeLine_eq];lia
 refine VR I.cG σ c.sa c.po n.VY c.hd wi hz λh' σ' sb=>h _ ?_
 have hd:∃o,h'.get? dx=some o:=let ⟨o,_,_,e',_⟩:=σ'.ns;⟨o,e'⟩
 refine I.write (x:=a) (e:=dx) (by rw[e];exact True.intro) (.inr ho) (λb q hb z=>(sb.2 b hb).trans z) hd ?_
 refine⟨by rw[ar σ.ne];exact ho,?_,σ.ne,σ'.obj,_,σ'.ns,λg=>?_,λg hg=>?_⟩
 .have:=Mz f y fs;lia
 .show gb ((bc f y fs).lookup g) (if g=f then some u else mA g)
  rw[dm]
  by_cases q:g=f
  .rw[az q,az q];exact ry
  .rw[av q,av q];exact r g
 .by_cases q:g=f
  .rw[q];exact(EX f y fs).1
  .refine(EX f y fs).2 g (wi g λz=>hg ?_)
   show(if g=f then some u else mA g)=none
   rw[av q];exact z
def Inv.made(I:Inv X pins O H s):Inv X pins O (upd (upd H s.heap.objs.size (.own (s.heap.objs.size+1))) (s.heap.objs.size+1) (.ins C s.heap.objs.size []))
  { s with heap:=(s.heap.push emptyDict).push (instObj C s.heap.objs.size) }:=by
 have e1:(s.heap.push emptyDict).get? s.heap.objs.size=some emptyDict:=cz s.heap rfl
 have e2:((s.heap.push emptyDict).push (instObj C s.heap.objs.size)).get? (s.heap.objs.size+1)=some (instObj C s.heap.objs.size):=by
  have:=cz (s.heap.push emptyDict) (o:=instObj C s.heap.objs.size) rfl
  rwa [lI] at this
 have e3:(s.heap.push emptyDict).Ns s.heap.objs.size (λ_=>none):=⟨emptyDict,#[],_,e1,rfl,(λe he=>absurd he (by simp)),λ_=>rfl⟩
 have I1:=I.laid (a:=s.heap.objs.size) (o := .own (s.heap.objs.size+1)) (h':=s.heap.push emptyDict) (t':=s.toks) (λb u q=>bu _ q) (aO _) ⟨_,e1⟩
 refine I1.laid (a:=s.heap.objs.size+1) (o := .ins C s.heap.objs.size []) (t':=s.toks) (λb u q=>bu _ q) (Nat.le_of_eq (lI _ _)) ?_
 have ne:s.heap.objs.size≠s.heap.objs.size+1:=bR (rG _)
 refine⟨by rw[ar ne,ao],bG _,ne,e2,λ_=>none,(Heap.Ns1.of_empty e3).at λo q=>bu _ q,λ_=>True.intro,λy hy=>absurd rfl hy⟩
def MB{env:Env}{f:Str}{s:Shared}(hb:attributeBase e f env (eval e env)=eval e env)
  (h:wpAny (model prog w) A (eval e env) (λo s₁=>wpAny (model prog w) A (getAttr o f true) Q E s₁) E s):wpAny (model prog w) A (eval (.Attribute e f pos) env) Q E s:=
 Attribute_any_ h (by rw[arm_eval_Attribute,hb])
end
def V1(K:Frag)(ta:TE)(f:Str):TE:=λO H Q=>ta O H λx H1=>∃a C dx fs v,x = .ref a/\H1 a=some (.ins C dx fs)/\de K C/\bW K C f/\fs.lookup f=some v/\Q v H1
def V2(K:Frag)(ta tv:TE)(f:Str):TS:=λD O H=>tv O H λy H1=>ta O H1 λx H2=>∃a C dx fs,x = .ref a/\H2 a=some (.ins C dx fs)/\de K C/\bW K C f/\fs.length<1000/\
 D.nx O (upd H2 a (.ins C dx (bc f y fs)))
section
variable{X:Cx}{o e value:Expr}{f:Str}{pos pos' oa:Pos}{ta tv:TE}
def dC(he:PE X e ta)(hb:attributeBase e f X.env (eval e X.env)=eval e X.env):PE X (.Attribute e f pos) (V1 X.K ta f):=by
 intro pins s O H Q I h
 refine MB hb (aC (he pins s O H _ I h) λu s1 h_=>?_)
 obtain⟨x,H1,I1,rx,a,C,dx,fs,v,ex,ea,c,n,l,q⟩:=h_
 subst ex
 obtain rfl:u=Value.ref a:=rx
 exact VZ I1 ea c n l λu' s2 I2 ru=>⟨v,H1,I2,ru,q⟩
def lP(ha:PE X o ta)(hv:PE X value tv)(hs:swapsWith value (some (.Attribute o f pos')) pos.line X.env=pure false):PS X (.Assign [.Attribute o f pos'] value pos) (V2 X.K ta tv f):=by
 intro pins s O H D I h
 refine plainObj_wpAny_Assign_Attribute (aC (hv pins s O H _ I h) λu s1 ⟨y,H1,I1,ry,q⟩=>aC (ha pins s1 O H1 _ I1 q) λov s2 ⟨x,H2,I2,rx,a,C,dx,fs,ex,ea,c,n,l,q2⟩=>?_) hs
 subst ex
 obtain rfl:ov=Value.ref a:=rx
 exact V0 I2 ea c n l ry λs3 I3=>⟨O,_,I3,q2⟩
end
section
variable{X:Cx}{pins:List (Addr×Obj)}{O:St}{H:Hp}{s:Shared}{A:Around}{E:Value->Shared->Prop}{Q:Value->Shared->Prop}{c:Value}{b:Bool}
inductive jn(K:Frag)(H:Hp):V->Value->Prop where
 |aB:jn K H .aB (.type "NoneType")
 |bl (x:Bool):jn K H (.bl x) (.type "bool")
 |int (i:Int):jn K H (.int i) (.type "int")
 |str (x:Str):jn K H (.str x) (.type "str")
 |rR (x:UInt64):jn K H (.rR x) (.type "float")
 |lst {a:Addr}{xs:List V}(e:H a=some (.lst xs)):jn K H (.ref a) (.type "list")
 |eA {a:Addr}{o:Obj}{xs:List V}(e:H a=some (.eA o (.lst xs))):jn K H (.ref a) (.type "list")
 |tup {a:Addr}{xs:List V}(e:H a=some (.tup xs)):jn K H (.ref a) (.type "tuple")
 |dK {a:Addr}{kvs:List (Key×V)}(e:H a=some (.dK kvs)):jn K H (.ref a) (.type "dict")
 |dT {a:Addr}{kvs:List (List Key×V)}(e:H a=some (.dT kvs)):jn K H (.ref a) (.type "dict")
 |ins {a C dx:Addr}{fs:List (Str×V)}(e:H a=some (.ins C dx fs)) (cl:de K C) (ha:findIn K (.ref C) "__class__"=some (some (.builtin "object.__class__")))
   (hn:specialIn K (.builtin "object.__class__") "__get__"=some (some (.builtin "getset_descriptor.__get__"))) (gM:takesIn K (.builtin "object.__class__")=some true)
   (hm:mroIn K C (.type "object")=some true):jn K H (.ref a) (.ref C)
def V3{x:V}{t:Value}(I:Inv X pins O H s)(rx:RelV x u)(ty:jn X.K H x t)(e:kitOne X.K t c=some b)(h:∀tk,Q (.bool b) { s with toks:=tk }) :
  wpAny (model X.prog X.w) A (call (.builtin "isinstance") [u,c]) Q E s:=by
 cases ty with
 |aB=>cases(show u=Value.none from rx);exact mR PySem.W.kitx_none I.cG True.intro e (λz=>nomatch z) h
 |bl y=>cases(show u=Value.bool y from rx);exact mR PySem.W.kitx_bool I.cG True.intro e (λz=>nomatch z) h
 |int i=>obtain⟨t,q⟩:=(show ∃t,u=Value.int i t from rx);cases q;exact mR PySem.W.kitx_int I.cG True.intro e (λz=>nomatch z) h
 |str y=>obtain⟨t,q⟩:=(show ∃t,u=Value.str y t from rx);cases q;exact mR PySem.W.kitx_str I.cG True.intro e (λz=>nomatch z) h
 |rR y=>obtain⟨t,q⟩:=(show ∃t,u=Value.float y t from rx);cases q;exact mR PySem.W.kitx_float I.cG True.intro e (λz=>nomatch z) h
 |@lst a xs ea=>
  cases(show u=Value.ref a from rx)
  obtain⟨_,_,n,_,h1⟩:=(show da X.prog X.w H s.heap a (.lst xs) from I.aA a _ ea)
  exact mR PySem.W.kitx_list I.cG ⟨_,h1,rfl⟩ e (λz=>nomatch z) h
 |@eA a ob xs ea=>
  cases(show u=Value.ref a from rx)
  obtain⟨_,_,_,n,_,h1⟩:=(show da X.prog X.w H s.heap a (.eA ob (.lst xs)) from I.aA a _ ea)
  exact mR PySem.W.kitx_list I.cG ⟨_,h1,rfl⟩ e (λz=>nomatch z) h
 |@tup a xs ea=>
  cases(show u=Value.ref a from rx)
  obtain⟨_,_,_,p⟩:=(show da X.prog X.w H s.heap a (.tup xs) from I.aA a _ ea)
  obtain⟨o,h1,h2,_⟩:=p
  exact mR PySem.W.kitx_tuple I.cG ⟨o,h1,h2⟩ e (λz=>nomatch z) h
 |@dK a kvs ea=>
  cases(show u=Value.ref a from rx)
  obtain⟨_,_,vs,_,p⟩:=(show da X.prog X.w H s.heap a (.dK kvs) from I.aA a _ ea)
  obtain⟨o,es,ep,h1,h2,_⟩:=p
  exact mR PySem.W.kitx_dict I.cG ⟨o,h1,h2.1⟩ e (λz=>nomatch z) h
 |@dT a kvs ea=>
  cases(show u=Value.ref a from rx)
  obtain⟨_,_,xs,_,o,es,ep,h1,h2,_⟩:=(show da X.prog X.w H s.heap a (.dT kvs) from I.aA a _ ea)
  exact mR PySem.W.kitx_dict I.cG ⟨o,h1,h2.1⟩ e (λz=>nomatch z) h
 |@ins a C dx fs ea cl ha hn gM hm=>
  cases(show u=Value.ref a from rx)
  obtain⟨mA,σ,_⟩:=x8 I.aA ea
  obtain⟨od,J,_⟩:=σ.look
  exact mR (PySem.W.kitx_own (cl.get _) cl.hd ha hn gM hm) I.cG J e (λz=>nomatch z) h
end
structure bZ(k:Nat)(A:Around):Prop where
 hd:A.handled=none
 dp:A.depth+3*k+5<recursionLimit
 un:A.units+16*k+200<cLine
 gd:A.guards=some []
theorem bZ.mono{k:Nat}(r:bZ k A)(h:j<=k):bZ j A:=⟨r.hd,by have:=r.dp;lia,by have:=r.un;lia,r.gd⟩
theorem bZ.deeper{k:Nat}(r:bZ (k+1) A)(env:Env):bZ k (A.deeper env):=
 ⟨r.hd,by have:=r.dp;show A.depth+1+3*k+5<_;lia,by have:=r.un;show A.units+3+16*k+200<_;lia,r.gd⟩
theorem bZ.in1{k:Nat}(r:bZ (k+1) A):bZ k A.in1:=
 ⟨r.hd,by have:=r.dp;show A.depth+3*k+5<_;lia,by have:=r.un;show A.units+1+16*k+200<_;lia,r.gd⟩
def V4:(A.under (.builtin "type.__call__" ⟨.ref C::us,kw⟩)).depth=A.depth+1:=by
 first | rfl | simp[Around.under,Code.weight,Code.isCreation,Code.isGuard,Code.isCaller,Code.frames,Code.isFrame,guardIds]
def V5:(A.under (.builtin "type.__call__" ⟨.ref C::us,kw⟩)).units=A.units+1:=by
 first | rfl | simp[Around.under,Code.cUnits,Code.frames,Code.isFrame]
theorem bZ.make{k:Nat}(r:bZ (k+1) A)(C:Addr)(us:List Value)(kw:List (Str×Value)):bZ k (A.under (.builtin "type.__call__" ⟨.ref C::us,kw⟩)):=
 ⟨r.hd,by have:=r.dp;rw[V4];lia,by have:=r.un;rw[V5];lia,r.gd⟩
theorem bZ.depth{k:Nat}(r:bZ k A):A.depth<recursionLimit:=by have:=r.dp;lia
theorem bZ.units{k:Nat}(r:bZ k A):A.units+64<cLine:=by have:=r.un;lia
def m5:TA:=λ_ H Q=>Q [] H
def qv(ta:TE)(tr:TA):TA:=λO H Q=>ta O H λx H1=>tr O H1 λxs H2=>Q (x::xs) H2
section
variable{X:Cx}{e:Expr}{es:List Expr}{te:TE}{t:TA}{pos:Pos}
def ag:PA X [] m5:=λ_ _ _ _ H Q I h=>Calls.spliced_nil ⟨[],H,I,.nil,h⟩
def ae(ha:PE X e te)(hr:PA X es t)(hs:starEach (e::es) X.env=(false,eval e X.env)::starEach es X.env:=by rfl):PA X (e::es) (qv te t):=by
 intro pos pins s O H Q I h
 rw[hs]
 show wpAny _ _ (spliced ((false,eval e X.env)::backTo pos (starEach es X.env))) _ _ s
 refine Eh (aC (ha pins s O H _ I h) λu s1 ⟨x,H1,I1,r1,q1⟩=>?_)
 exact aC (hr pos pins s1 O H1 _ I1 q1) λus s2 ⟨xs,H2,I2,r2,q2⟩=>⟨x::xs,H2,I2,.cons r1 r2,q2⟩
def EY(t:TA):TE:=λO H Q=>t O H λxs H1=>xs.length<=sizeLine/\∀p,H1 p=none->Q (.ref p) (upd H1 p (.tup xs))
def MC(t:TA):TE:=λO H Q=>t O H λxs H1=>xs.length<=sizeLine/\∀p,H1 p=none->Q (.ref p) (upd H1 p (.lst xs))
def fm{x1}(h:PA X es t):PE X (.Tuple es x1 pos) (EY t):=by
 intro pins s O H Q I hq
 refine wpAny_Tuple_spliced (aC (h pos pins s O H _ I hq) λus s1 ⟨xs,H1,I1,r,z,q⟩=>⟨by rw[<-r.length];exact z,?_⟩)
 have hf:H1 s1.heap.objs.size=none:=I1.aA.fresh (aO _)
 refine⟨.ref s1.heap.objs.size,upd H1 s1.heap.objs.size (.tup xs),I1.laid (t':=s1.toks) (λb u e=>bu _ e) (aO _) ?_,rfl,q _ hf⟩
 exact⟨z,us,r,⟨_,cz _ rfl,rfl,_,rfl⟩⟩
def du(h:PA X es t):PE X (.List es pos) (MC t):=by
 intro pins s O H Q I hq
 refine wpAny_List_spliced (aC (h pos pins s O H _ I hq) λus s1 ⟨xs,H1,I1,r,z,q⟩=>⟨by rw[<-r.length];exact z,?_⟩)
 have hf:H1 s1.heap.objs.size=none:=I1.aA.fresh (aO _)
 refine⟨.ref s1.heap.objs.size,upd H1 s1.heap.objs.size (.lst xs),I1.laid (t':=s1.toks) (λb u e=>bu _ e) (aO _) ?_,rfl,q _ hf⟩
 exact⟨z,us,0,r,cz _ rfl⟩
end
abbrev Sp:=List V->Hp->VK->XK->Prop
abbrev lQ:=List Env->Hp->Shared->XK->Value->Shared->Prop
structure lR(P:Program)(w:World)(K:Frag)(mg:Str->Option Value)(base:Heap)(A:Around)(outer:List Env)(s:Shared)(H:Hp):Prop where
 frames:A.frames=some outer
 mod:Mod K mg base
 bs:∀b o,base.get? b=some o->s.heap.get? b=some o/\H b=none
 kQ:base.objs.size<=s.heap.objs.size
 ig:s.heap.FunFrames base outer
 lN:∀b∈gh outer,H b=none
 aA:dr P w H s.heap
 bare:AllBare s.gens
def CE(outer:List Env)(P:Program)(w:World)(H:Hp)(s:Shared)(Q:VK)(u:Value)(s':Shared):Prop:=
 ∃v H',s'.os=s.os/\AllBare s'.gens/\Un (gh outer) [] H H' s.heap s'.heap/\dr P w H' s'.heap/\RelV v u/\Q v H'
def CR(CX:lQ)(outer:List Env)(P:Program)(w:World)(H:Hp)(s:Shared)(Q:VK)(E:XK)(r:Result)(s':Shared):Prop:=
 match r with
 |.ok (.ret u)=>CE outer P w H s Q u s'
 |.ok _=>False
 |.error e=>CX outer H s E e s'
structure aK(P:Program)(w:World)(K:Frag)(mg:Str->Option Value)(base:Heap)(CX:lQ)(k:Nat)(f:Addr)(fd:FuncData)(ps:List Str)(sp:Sp):Prop where
 len:∀vs H Q E,sp vs H Q E->vs.length=ps.length
 run:∀(A:Around) (outer:List Env) (s:Shared) (H:Hp) (args:Args) (us:List Value) (vs:List V) (Q:VK) (E:XK),bZ k A->lR P w K mg base A outer s H->BindsTo s fd args (ps.zip us)->Vals vs us->sp vs H Q E->
  codeAny (model P w) A (.call (.ref f) args) (CR CX outer P w H s Q E) s
def lR.make(e:lR P w K mg base A outer s H)(C:Addr)(us:List Value)(kw:List (Str×Value)) :
  lR P w K mg base (A.under (.builtin "type.__call__" ⟨.ref C::us,kw⟩)) outer s H:=⟨by first | exact e.frames | (simpa[Around.under,Code.envs,Code.isFrame,pushEnvs] using e.frames),e.mod,e.bs,e.kQ,e.ig,e.lN,e.aA,e.bare⟩
theorem lR.in1(e:lR P w K mg base A outer s H) :
  lR P w K mg base A.in1 outer s H:=⟨e.frames,e.mod,e.bs,e.kQ,e.ig,e.lN,e.aA,e.bare⟩
section
variable{X:Cx}{pins:List (Addr×Obj)}{O:St}{H:Hp}{s s':Shared}
def Inv.Bc(I:Inv X pins O H s):lR X.prog X.w X.K X.mg X.base X.A X.stack s H:=
 ⟨I.ok.frames,I.ok.mod,I.bs,bF I.ok.kQ I.sz,I.stack,I.AV,I.aA,I.bare⟩
def Inv.after{Q:VK}(I:Inv X pins O H s)(h:CE X.stack X.prog X.w H s Q u s'):EP X pins O Q u s':=by
 obtain⟨v,H',os,bare,un,aA,r,q⟩:=h
 obtain⟨hh,g,d,t,V6⟩:=s'
 obtain rfl:V6=s.os:=os
 exact⟨v,H',I.call (h':=hh) (g':=g) (d':=d) (t':=t) (ch:=[]) un aA bare (λb z=>absurd z (by simp)),r,q⟩
end
def Bd(sp:Sp)(cI:List V)(E:XK)(t:TA):TE:=λO H Q=>t O H λvs H1=>sp (vs++cI) H1 Q E
def Be(C:Addr)(m:Str)(sp:Sp)(cI:List V)(E:XK)(ta:TE)(t:TA):TE:=λO H Q=>ta O H λx H1=>∃a dx fs,x = .ref a/\H1 a=some (.ins C dx fs)/\fs.lookup m=none/\
 t O H1 λvs H2=>sp (x::(vs++cI)) H2 Q E
def Bf(C:Addr)(sp:Sp)(cI:List V)(E:XK)(t:TA):TE:=λO H Q=>t O H λvs H1=>∀x dx,H1 x=none->H1 dx=none->dx≠x->
 sp (.ref x::(vs++cI)) (upd (upd H1 dx (.own x)) x (.ins C dx [])) (λv H2=>v = .aB/\Q (.ref x) H2) E
def Binds(K:Frag)(fd:FuncData)(ps:List Str)(ds:List Value):Prop:=
 ∀(s:Shared) (us:List Value),K.In s.heap->(us++ds).length=ps.length->BindsTo s fd ⟨us,[]⟩ (ps.zip (us++ds))
def Binds.all(h:∀us:List Value,us.length=ps.length->bindArgs fd ⟨us,[]⟩=pure (ps.zip us)):Binds K fd ps []:=λs us _ hl=>by
 rw[eV] at hl ⊢
 exact .of_eq (h us hl)
def Passes(CX:lQ)(X:Cx)(E:XK):Prop := ∀(pins:List (Addr×Obj)) (O:St) (H:Hp) (s:Shared) (e:Value) (s':Shared),Inv X pins O H s->CX X.stack H s E e s'->X.xe e s'
section
variable{X:Cx}{CX:lQ}{k:Nat}{f C:Addr}{fd:FuncData}{ps:List Str}{sp:Sp}{cI:List V}{ds:List Value}{E:XK}{x m:Str}{p pos apos:Pos}{e o:Expr}{es:List Expr}{ta:TE}{t:TA}
def EZ{Q:VK}(F:aK X.prog X.w X.K X.mg X.base CX k f fd ps sp)(hr:bZ k X.A)(hb:Binds X.K fd ps ds)(hd:Vals cI ds)(hx:Passes CX X E)
  (I:Inv X pins O H s) (r:Vals vs us) (h:sp (vs++cI) H Q E):wpAny (model X.prog X.w) X.A (call (.ref f) us) (EP X pins O Q) X.xe s:=by
 have r2:Vals (vs++cI) (us++ds):=r.append hd
 have hl:(us++ds).length=ps.length:=by rw[<-r2.length];exact F.len _ _ _ _ h
 refine nT (uB (F.run X.A X.stack s H ⟨us,[]⟩ (us++ds) (vs++cI) Q E hr I.Bc (hb s us I.cG hl) r2 h) λr s' hq=>?_)
 cases r with
 |error e=>exact hx pins O H s e s' I hq
 |ok fl=>
  cases fl with
  |ret u=>exact I.after hq
  |next=>exact False.elim hq
  |brk=>exact False.elim hq
  |cont=>exact False.elim hq
def E2(F:aK X.prog X.w X.K X.mg X.base CX k f fd ps sp)(hr:bZ k X.A)(hg:Gl X x)(hm:X.mg x=some (.ref f))(hk:keepIn X.K (.ref f)=true)(hb:Binds X.K fd ps ds)(hd:Vals cI ds)(hx:Passes CX X E)
  (ha:PA X (e::es) t) (dR:(x==("__debug__":Str))=false:=by decide) (he:starEach (e::es) X.env=(false,eval e X.env)::starEach es X.env:=by rfl) (hpl:(backTo pos (starEach es X.env)).any (·.1)=false:=by rfl) :
  PE X (.Call (.Name x p) (e::es) [] pos) (Bd sp cI E t):=by
 intro pins s O H Q I h
 refine rH (qj I hg hm ?_ dR)
 refine Ei (h₀:=X.base) I.ok.mod.n8 hk (aC (ha pos pins s O H _ I h) λus s1 ⟨vs,H1,I1,r,q⟩=>⟨I1.cG,?_⟩) he hpl
 exact EZ F hr hb hd hx I1 r q
def V7(he:PE X o ta)(c:de X.K C)(hm:Meth X.K C m f)(F:aK X.prog X.w X.K X.mg X.base CX k f fd ps sp)(hr:bZ k X.A)(hb:Binds X.K fd ps ds)(hd:Vals cI ds)(hx:Passes CX X E)(ha:PA X (e::es) t)
  (cL:starEach (e::es) X.env=(false,eval e X.env)::starEach es X.env:=by rfl) (hpl:(backTo pos (starEach es X.env)).any (·.1)=false:=by rfl)
  (ht:eval (.Call (.Attribute o m apos) (e::es) [] pos) X.env=(do
   let ov<-eval o X.env
   standAt apos.atName
   let (f,first)<-holding [ov] (getMethod ov m pl)
   callWith pos f first (backTo pos (starEach (e::es) X.env)) (backToKw pos (keywordEach [] X.env))):=by rfl) :
  PE X (.Call (.Attribute o m apos) (e::es) [] pos) (Be C m sp cI E ta t):=by
 intro pins s O H Q I h
 refine PySem.W.methodCall_KW (pl:=pl) (aC (he pins s O H _ I h) λu s1 ⟨x,H1,I1,rx,a,dx,fs,ex,ea,l,q⟩=>?_) ht
 subst ex
 obtain rfl:u=Value.ref a:=rx
 refine MA I1 ea c hm l ?_
 refine Ei (first:=[.ref a]) (h₀:=X.base) I.ok.mod.n8 hm.kp (aC (ha pos pins s1 O H1 _ I1 q) λus s2 ⟨vs,H2,I2,r,q2⟩=>⟨I2.cG,?_⟩) cL hpl
 exact EZ (us := .ref a::us) (vs := .ref a::vs) F hr hb hd hx I2 (.cons rfl r) q2
def V8(he:PE X o ta)(c:de X.K C)(hm:Meth X.K C m f)(F:aK X.prog X.w X.K X.mg X.base CX k f fd ps sp)(hr:bZ k X.A)(hb:Binds X.K fd ps ds)(hd:Vals cI ds)(hx:Passes CX X E)
  (ht:eval (.Call (.Attribute o m apos) [] [] pos) X.env=(do
   let ov<-eval o X.env
   standAt apos.atName
   let (f,first)<-holding [ov] (getMethod ov m pl)
   callWith pos f first (backTo pos (starEach [] X.env)) (backToKw pos (keywordEach [] X.env))):=by rfl) :
  PE X (.Call (.Attribute o m apos) [] [] pos) (Be C m sp cI E ta m5):=by
 intro pins s O H Q I h
 refine PySem.W.methodCall_KW (pl:=pl) (aC (he pins s O H _ I h) λu s1 ⟨x,H1,I1,rx,a,dx,fs,ex,ea,l,q⟩=>?_) ht
 subst ex
 obtain rfl:u=Value.ref a:=rx
 refine MA I1 ea c hm l ?_
 exact PySem.W.callWith_K0 (first:=[.ref a]) I1.cG hm.kp (EZ (us:=[.ref a]) (vs:=[.ref a]) F hr hb hd hx I1 (.cons rfl .nil) q)
structure Mk(K:Frag)(C f:Addr):Prop where
 makes:makesIn K C=true
 init:findIn K (.ref C) "__init__"=some (some (.ref f))
 fn:isFn K (.ref f)=true
 kp:keepIn K (.ref C)=true
def MD{Q:VK}(M:Mk X.K C f)(F:aK X.prog X.w X.K X.mg X.base CX k f fd ps sp)(hr:bZ (k+1) X.A)(hb:Binds X.K fd ps ds)(hd:Vals cI ds)
  (hx:Passes CX X E) (I:Inv X pins O H s) (r:Vals vs us)
  (h:∀x dx,H x=none->H dx=none->dx≠x->sp (.ref x::(vs++cI)) (upd (upd H dx (.own x)) x (.ins C dx [])) (λv H2=>v = .aB/\Q (.ref x) H2) E) :
  wpAny (model X.prog X.w) X.A (call (.ref C) us) (EP X pins O Q) X.xe s:=by
 have hq:=h (s.heap.objs.size+1) s.heap.objs.size (I.aA.fresh (gw _)) (I.aA.fresh (aO _)) (bR (rG _))
 have I2:=Inv.made (C:=C) I
 have r2:Vals (V.ref (s.heap.objs.size+1)::(vs++cI)) (Value.ref (s.heap.objs.size+1)::(us++ds)) := .cons rfl (r.append hd)
 have hl:(Value.ref (s.heap.objs.size+1)::us++ds).length=ps.length:=by
  have e:=r2.length
  rw[F.len _ _ _ _ hq] at e
  exact e.symm
 refine nT (VV (f:=f) I.cG M.makes M.init (jM.mp M.fn) (uB (F.run _ X.stack _ _ ⟨Value.ref (s.heap.objs.size+1)::us,[]⟩ (Value.ref (s.heap.objs.size+1)::(us++ds)) _ _ E (hr.make C us [])
  (I2.Bc.make C us []) (hb _ (Value.ref (s.heap.objs.size+1)::us) I2.cG hl) r2 hq) λr s' jW=>?_))
 cases r with
 |error e=>exact hx pins O _ _ e s' I2 jW
 |ok fl=>
  cases fl with
  |ret u=>
   obtain⟨v,H',I3,rv,ev,q3⟩:=I2.after jW
   subst ev
   exact⟨rv,⟨V.ref (s.heap.objs.size+1),H',I3,rfl,q3⟩⟩
  |next=>exact False.elim jW
  |brk=>exact False.elim jW
  |cont=>exact False.elim jW
def V9(M:Mk X.K C f)(F:aK X.prog X.w X.K X.mg X.base CX k f fd ps sp)(hr:bZ (k+1) X.A)(hg:Gl X x)(hm:X.mg x=some (.ref C))(hb:Binds X.K fd ps ds)(hd:Vals cI ds)(hx:Passes CX X E)
  (ha:PA X (e::es) t) (dR:(x==("__debug__":Str))=false:=by decide) (he:starEach (e::es) X.env=(false,eval e X.env)::starEach es X.env:=by rfl) (hpl:(backTo pos (starEach es X.env)).any (·.1)=false:=by rfl) :
  PE X (.Call (.Name x p) (e::es) [] pos) (Bf C sp cI E t):=by
 intro pins s O H Q I h
 refine rH (qj I hg hm ?_ dR)
 refine Ei (h₀:=X.base) I.ok.mod.n8 M.kp (aC (ha pos pins s O H _ I h) λus s1 ⟨vs,H1,I1,r,q⟩=>⟨I1.cG,?_⟩) he hpl
 exact MD M F hr hb hd hx I1 r q
def Wa(M:Mk X.K C f)(F:aK X.prog X.w X.K X.mg X.base CX k f fd ps sp)(hr:bZ (k+1) X.A)(hg:Gl X x)(hm:X.mg x=some (.ref C))(hb:Binds X.K fd ps ds)(hd:Vals cI ds)(hx:Passes CX X E)
  (dR:(x==("__debug__":Str))=false:=by decide):PE X (.Call (.Name x p) [] [] pos) (Bf C sp cI E m5):=by
 intro pins s O H Q I h
 refine rH (qj I hg hm ?_ dR)
 exact PySem.W.callWith_K0 I.cG M.kp (MD (us:=[]) M F hr hb hd hx I .nil h)
end
structure bh(N P:List Str)(sc:Scope):Prop where
 kind:sc.kind = .function:=by first | rfl | decide +kernel
 co:sc.isCoroutine=false:=by first | rfl | decide +kernel
 gen:sc.isGenerator=false:=by first | rfl | decide +kernel
 nd:N.Nodup:=by first | rfl | decide +kernel
 pre:N.take P.length=P:=by first | rfl | decide +kernel
 par:∀x∈P,sc.names.lookup x=some .local\/sc.names.lookup x=some .cell:=by first | rfl | decide +kernel
 Wb:∀y∈sc.names,y.2 ≠ .free:=by first | rfl | decide +kernel
theorem ME{kindOf:Str->Option NameKind}{x:Str}:∀{binds:List (Str×Value)}{m:Str->Option Value},(∀v,(x,v)∉binds)->bindL kindOf binds m x=m x
 |[],_,_=>rfl
 |(n,v)::r,m,h=>by
  unfold bindL
  rw[ME λw hw=>h w (bX _ hw)]
  split
  .have:x≠n:=by rintro rfl;exact h v bz
   simp[this]
  .rfl
theorem MF{kindOf:Str->Option NameKind}{x:Str}:∀{binds:List (Str×Value)}{m:Str->Option Value},(∀v,(x,v)∉binds)->bindC kindOf binds m x=m x
 |[],_,_=>rfl
 |(n,v)::r,m,h=>by
  unfold bindC
  rw[MF λw hw=>h w (bX _ hw)]
  split
  .rfl
  .have:x≠n:=by rintro rfl;exact h v bz
   simp[this]
theorem MG{kindOf:Str->Option NameKind}{x:Str}{v:Value}:∀{P:List Str}{vs:List Value}{i:Nat}{m:Str->Option Value},P.Nodup->P[i]? = some x->vs[i]? = some v->kindOf x=some .local->
  bindL kindOf (P.zip vs) m x=some v
 |[],_,_,_,_,h,_,_=>by simp at h
 |_::_,[],_,_,_,_,h,_=>by simp at h
 |p::P,w::vs,0,m,nd,h1,h2,hk=>by
  simp at h1 h2;subst h1;subst h2
  show bindL kindOf ((p,w)::P.zip vs) m p=_
  unfold bindL
  rw[ME λv hv=>(gG.mp nd).1 (List.of_mem_zip hv).1,az hk]
  simp
 |p::P,w::vs,i+1,m,nd,h1,h2,hk=>by
  show bindL kindOf ((p,w)::P.zip vs) m x=_
  unfold bindL
  exact MG (i:=i) (gG.mp nd).2 (by simpa using h1) (by simpa using h2) hk
theorem MH{kindOf:Str->Option NameKind}{x:Str}{v:Value}:∀{P:List Str}{vs:List Value}{i:Nat}{m:Str->Option Value},P.Nodup->P[i]? = some x->vs[i]? = some v->kindOf x≠some .local->
  bindC kindOf (P.zip vs) m x=some v
 |[],_,_,_,_,h,_,_=>by simp at h
 |_::_,[],_,_,_,_,h,_=>by simp at h
 |p::P,w::vs,0,m,nd,h1,h2,hk=>by
  simp at h1 h2;subst h1;subst h2
  show bindC kindOf ((p,w)::P.zip vs) m p=_
  unfold bindC
  rw[MF λv hv=>(gG.mp nd).1 (List.of_mem_zip hv).1,av hk]
  simp
 |p::P,w::vs,i+1,m,nd,h1,h2,hk=>by
  show bindC kindOf ((p,w)::P.zip vs) m x=_
  unfold bindC
  exact MH (i:=i) (gG.mp nd).2 (by simpa using h1) (by simpa using h2) hk
noncomputable def start(N:List Str)(vs:List V):St:=vs.map some++List.replicate (N.length - vs.length) none
noncomputable def ip(CX:lQ)(P:Program)(w:World)(K:Frag)(mg:Str->Option Value)(base:Heap)(N:List Str)(qual:Str)(scope:Scope)(f:Addr)(cd:Value)(A:Around)(outer:List Env)(s:Shared)(H:Hp)(E:XK):Cx where
 prog:=P
 w:=w
 K:=K
 mg:=mg
 base:=base
 A:=A.deeper (envOfC qual scope s.heap.objs.size f cd)
 N:=N
 s₀:=s
 H₀:=H
 env:=envOfC qual scope s.heap.objs.size f cd
 outer:=outer
 stack:=envOfC qual scope s.heap.objs.size f cd::outer
 ex:=[]
 calm:=true
 fn:=λ_=>true
 pn:=[]
 xe:=λe s'=>wpAny (model P w) (A.deeper (envOfC qual scope s.heap.objs.size f cd)) (leaving (envOfC qual scope s.heap.objs.size f cd) e) (λ_ E3=>CX outer H s E e E3) (λe' E3=>CX outer H s E e' E3) s'
def MI(h:sc.names.lookup x=some .cell):∃c,(cellsFrom n sc.names []).lookup x=some c:=by
 have q:=PySem.W.cellsFrom_some sc.names n [] (.inl h)
 exact Option.isSome_iff_exists.mp q
theorem Wc{CX:lQ}{qual:Str}{f:Addr}{s1:Shared}{E:XK}
  (S:bh N ps scope) (hd:A.handled=none) (e0:lR P w K mg base A outer s H) (hl:vs.length=ps.length) (r:Vals vs us)
  (x:InCallC s s.heap.objs.size (bindL (envOfC qual scope s.heap.objs.size f cd).kindOf (ps.zip us) λ_=>none) (cellsFrom (s.heap.objs.size+1) scope.names []) (bindC (envOfC qual scope s.heap.objs.size f cd).kindOf (ps.zip us) λ_=>none) s1) :
  Inv (ip CX P w K mg base N qual scope f cd A outer s H E) [] (start N vs) H s1:=by
 have hpl:ps.length<=N.length:=by have:=fc List.length S.pre;rw[jN] at this;lia
 obtain⟨h1,tk,rfl,hk⟩:=x.done
 have x9:∀b:Addr,b∉(ip CX P w K mg base N qual scope f cd A outer s H E).ex:=λb z=>absurd (show b∈([]:List Addr) from z) (by simp)
 refine⟨⟨e0.mod,S.kind,rfl,rfl,aO _,λy z c h1 h2=>?_,λy hy=>?_,λy c _ h=>?_,λ_=>hd,Around.frames_deeper e0.frames,.inr ⟨rfl,rfl⟩,λb z=>absurd z (x9 b),e0.bs,e0.kQ,λb _ _=>x9 b,λb z=>absurd z (x9 b),e0.ig,e0.lN⟩,
  rfl,e0.bare,Un.kept hk,⟨_,x.toInCall.ns,λi y v h1 h2 h3=>?_⟩,λy c h=>⟨_,x.cell y c h⟩,e0.aA.fresh (aO _),λy c h=>?_,λp hp=>absurd (show p∈([]:List (Addr×Obj)) from hp) (by simp),e0.aA.kept hk,?_⟩
 .exact name_of_addr x.apart (Ej h1) (Ej h2)
 .have hy:scope.names.lookup y=some .cell\/scope.names.lookup y=some .free:=hy
  rcases hy with hy | hy
  .exact MI hy
  .exact absurd rfl (S.Wb _ (Ej hy))
 .exact Ax (x.above y c (Ej h))
 .have hi:i<vs.length:=by
   unfold start at h2
   by_cases hi:i<vs.length
   .exact hi
   .rw[Az (by simpa using hi)] at h2
    rw[Uy] at h2
    split at h2 <;> cases h2
  have ha:vs[i]? = some v:=by
   unfold start at h2
   rw[Lx (by simpa using hi),bw] at h2
   cases e:vs[i]? with
   |none=>rw[e] at h2;cases h2
   |some a=>rw[e] at h2;cases h2;rfl
  obtain⟨u,hu,rv⟩:=r.get ha
  have hp:ps[i]? = some y:=by
   rw[<-S.pre,AA (by lia)];exact h1
  have MJ:ps.Nodup:=by rw[<-S.pre];exact S.nd.sublist (Ek _ _)
  refine⟨u,rv,?_⟩
  rcases S.par y (bj hp) with k | k
  .exact .inl ⟨k,MG MJ hp hu k⟩
  .obtain⟨c,e⟩:=MI (n:=s.heap.objs.size+1) k
   refine .inr ⟨.inl k,c,e,?_⟩
   have q:=x.cell y c e
   rw[MH MJ hp hu (by show scope.names.lookup y≠_;rw[k];decide)] at q
   exact q
 .exact e0.aA.fresh (Ax (x.above y c (Ej h)))
 .unfold start
  show _=N.length
  rw[di,aw,uC]
  lia
def ya{CX:lQ}{P:Program}{w:World}{K:Frag}{mg:Str->Option Value}{base:Heap}{k:Nat}{f:Addr}{name qual:Str}{params:Arguments}{body:List Stmt}{scope:Scope}{dV kV doc pm aE ct oc:Value}{an od:Option Addr}
  {jX:Array (Option Value)}{N ps:List Str}{sp:Sp}(lk:K.lookup f=some ⟨oc,od,.func (fnOf name qual params body scope dV kV doc pm an aE ct),jX⟩) (ij:codeIn K aE qual=true) (S:bh N ps scope)
  (len:∀vs H Q E,sp vs H Q E->vs.length=ps.length)
  (lS:∀(A:Around) (outer:List Env) (s:Shared) (H:Hp) (vs:List V) (Q:VK) (E:XK),bZ k (A.deeper (envOfC qual scope s.heap.objs.size f aE))->sp vs H Q E->
   ∃t,eK (ip CX P w K mg base N qual scope f aE A outer s H E) body t/\t { nx:=λ_ H'=>Q .aB H',rt:=Q } (start N vs) H) :
  aK P w K mg base CX (k+1) f (fnOf name qual params body scope dV kV doc pm an aE ct) ps sp:=by
 refine⟨len,λA outer s H args us vs Q E hr e0 hb r kX=>?_⟩
 have hl:=len _ _ _ _ kX
 have KX:K.In s.heap:=e0.mod.n8.keeps λb o e=>(e0.bs b o e).1
 have lim:s.heap.NoLimit:=e0.mod.nolimit.keeps λb o e=>(e0.bs b o e).1
 have Wd:∀y∈ps.zip us,scope.names.lookup y.1=some .local\/(scope.names.lookup y.1=some .cell/\((cellsFrom (s.heap.objs.size+1) scope.names []).lookup y.1).isSome=true):=λ⟨n,v⟩ hy=>by
  rcases S.par n (List.of_mem_zip hy).1 with q | q
  .exact .inl q
  .exact .inr ⟨q,PySem.W.cellsFrom_some _ _ _ (.inl q)⟩
 refine codeAny_call_function hr.depth (KX _ _ lk) rfl S.co S.gen rfl (PySem.W.codeRec_of KX ij) (hb _ _ _ _ ?_)
 refine wpAny_newFunctionEnv_cells S.kind Wd λenv he s1 x=>?_
 subst he
 refine⟨lim.keeps x.toInCall.keep,codeAny_func ?_⟩
 obtain⟨t,ht,hq⟩:=lS A outer s H vs Q E (hr.deeper _) kX
 have I:Inv (ip CX P w K mg base N qual scope f aE A outer s H E) [] (start N vs) H s1:=Wc S hr.hd e0 hl r x
 refine gF (ht [] s1 (start N vs) H _ I hq) (λfl s' hs=>?_) λe s' hs=>hs
 have fin:∀{O':St}{H':Hp}{v:V}{u:Value},Inv (ip CX P w K mg base N qual scope f aE A outer s H E) [] O' H' s'->RelV v u->Q v H'->CE outer P w H s Q u s':=
  λ{O' H' v u} J rv q=>⟨v,H',J.os,J.bare,J.base,J.aA,rv,q⟩
 cases fl with
 |ret u=>
  obtain⟨v,O',H',J,rv,q⟩:=hs
  exact fin J rv q
 |next=>
  obtain⟨O',H',J,q⟩:=hs
  exact fin (v:=V.aB) (u:=Value.none) J rfl q
 |brk=>
  obtain⟨_,_,_,q⟩:=hs
  exact False.elim q
 |cont=>
  obtain⟨_,_,_,q⟩:=hs
  exact False.elim q
section
variable{X:Cx}{x:Str}{p pos:Pos}{e:Expr}{es:List Expr}{t:TA}{id T:String}{r:List V->Hp->VK->Prop}
def MK(r:List V->Hp->VK->Prop)(t:TA):TE:=λO H Q=>t O H λvs H1=>r vs H1 Q
def bg(hc:il X (.builtin id) r)(hg:Gl X x)(hm:X.mg x=none)(hv:bootBuiltins x=some (.builtin id))(ha:PA X (e::es) t)(hn:x≠"__name__":=by decide)(dR:(x==("__debug__":Str))=false:=by decide)
  (he:starEach (e::es) X.env=(false,eval e X.env)::starEach es X.env:=by rfl) (hpl:(backTo pos (starEach es X.env)).any (·.1)=false:=by rfl):PE X (.Call (.Name x p) (e::es) [] pos) (MK r t):=by
 intro pins s O H Q I h
 refine rH (qk I hg hm hv ?_ hn dR)
 exact PyProof.Rows.callWith_builtin1 (aC (ha pos pins s O H _ I h) λus s1 ⟨vs,H1,I1,r1,q1⟩=>hc pins s1 O H1 vs us Q I1 r1 q1) he hpl
def jY(hc:il X (.type T) r)(hg:Gl X x)(hm:X.mg x=none)(hv:bootBuiltins x=some (.type T))(ha:PA X (e::es) t)(hn:x≠"__name__":=by decide)(dR:(x==("__debug__":Str))=false:=by decide)
  (he:starEach (e::es) X.env=(false,eval e X.env)::starEach es X.env:=by rfl) (hpl:(backTo pos (starEach es X.env)).any (·.1)=false:=by rfl):PE X (.Call (.Name x p) (e::es) [] pos) (MK r t):=by
 intro pins s O H Q I h
 refine rH (qk I hg hm hv ?_ hn dR)
 exact Ef (aC (ha pos pins s O H _ I h) λus s1 ⟨vs,H1,I1,r1,q1⟩=>hc pins s1 O H1 vs us Q I1 r1 q1) he hpl
end
end L2
namespace HT
open PySem PyProof.Rows
variable{items m6:Array Value}{Q:Value->Shared->Prop}
noncomputable def lexLt:List Int->List Int->Bool
 |[],[]=>false
 |[],_::_=>true
 |_::_,[]=>false
 |x::xs,y::ys=>if x=y then lexLt xs ys else decide (x<y)
def ML(x y:Int)(xs ys:List Int):lexLt (x::xs) (y::ys)=if x=y then lexLt xs ys else decide (x<y):=rfl
def We:lexLt [] []=false:=rfl
def Wf(y:Int)(ys:List Int):lexLt [] (y::ys)=true:=rfl
def Wg(x:Int)(xs:List Int):lexLt (x::xs) []=false:=rfl
def Wh(A:Around)(s:Shared)(a:Int)(t:Tok)(c:Int)(u:Tok):∃e,SeqAt.EqAt A s (.int a t) (.int c u) e/\(e=true↔a=c):=
 ⟨(a==c),SeqAt.EqAt.int_int a t c u,by simp⟩
def Wi(A:Around)(s:Shared)(a:Int)(t:Tok)(c:Int)(u:Tok)(prog:Program)(w:World)(E:Value->Shared->Prop)(Q:Value->Shared->Prop)(h:Q (.bool (decide (a<c))) s) :
  wpAny (model prog w) A (richCompare .Lt (.int a t) (.int c u)) Q E s:=
 (PyProof.Rows.lt_int h:wpAny (model prog w) A (compareOp .Lt (.int a t) (.int c u)) Q E s)
section
open PySem.SeqAt
open PySem.AutoSeq1 (wpAny_loadPart')
open PySem.MeetsSeq PySem.MeetsSeq2 PySem.MeetsSeq3
theorem Wj(l b:Addr)(items m6:Array Value)(n n2:Nat)(dd E4:Option Addr)(sl E5:Array (Option Value))(ns ms:List Int)(hi:IntsAre items.toList ns)(hj:IntsAre m6.toList ms) :
  Meets (Builtin.«tuple.__lt__» ⟨[.ref l,.ref b],[]⟩)
   (λ_ R s=>s.heap.get? l=some { cls := .type "tuple",dict:=dd,data := .seq items n,slots:=sl }/\s.heap.get? b=some { cls := .type "tuple",dict:=E4,data := .seq m6 n2,slots:=E5 } /\
    R (.ok (.ret (.bool (lexLt ns ms)))) s):=
 .of_wp λprog w A R s h=>by
  obtain⟨hp,g,d,tk,os⟩:=s;obtain⟨hl,hb,h⟩:=h
  have f2:=AutoSeq1.sub_tuple_tuple
  have z1:items.size=ns.length:=by rw[<-hi.length];simp
  have z2:m6.size=ms.length:=by rw[<-hj.length];simp
  wp_walk using wpAny_loadPart' hl,wpAny_loadPart' hb,wpAny_forIn_list _ (λrest b s'=>b.1=none/\s'=⟨hp,g,d,tk,os⟩/\∃(vs ws:List Value) (vg vh:List Int),rest=vs.zip ws/\
   IntsAre vs vg/\IntsAre ws vh/\vg.length+m6.size=vh.length+items.size/\R (.ok (.ret (.bool (lexLt vg vh)))) ⟨hp,g,d,tk,os⟩) _
  case turn=>
   rintro⟨y,x⟩ rest b s' ⟨jZ,rfl,vs,ws,vg,vh,hz,E6,Bg,hlen,hR⟩
   cases E6 with
   |nil=>rw[List.zip_nil_left] at hz;cases hz
   |cons a t Wk=>
    cases Bg with
    |nil=>rw[List.zip_nil_right] at hz;cases hz
    |cons c u Wl=>
     rw[List.zip_cons_cons] at hz
     injection hz with Wm Wn
     injection Wm with hy hx
     subst hy hx
     rw[ML] at hR
     simp only[dO] at hlen
     obtain⟨e,he,MM⟩:=Wh A.in1 ⟨hp,g,d,tk,os⟩ a t c u
     refine ah (he prog w _ _ ?_)
     cases e with
     |true=>
      rw[az (MM.mp rfl)] at hR
      wp_walk
      exact⟨rfl,rfl,_,_,_,_,Wn,Wk,Wl,by lia,hR⟩
     |false=>
      rw[av (λq=>absurd (MM.mpr q) b8)] at hR
      have Wo:=Wi A.in1 ⟨hp,g,d,tk,os⟩ a t c u prog w
      wp_walk using Wo
      exact⟨_,rfl,by simpa using hR⟩
  case fin=>
   rintro⟨b1,b2⟩ s' ⟨jZ,rfl,vs,ws,vg,vh,hz,E6,Bg,hlen,hR⟩
   simp only at jZ
   subst jZ
   have hv:lexLt vg vh=decide (items.size<m6.size):=by
    cases E6 with
    |nil=>
     cases Bg with
     |nil=>
      simp only[El] at hlen
      rw[We]
      exact(aI (by lia)).symm
     |cons c u hw=>
      simp only[El,dO] at hlen
      rw[Wf]
      exact(aJ (by lia)).symm
    |cons a t hv=>
     cases Bg with
     |nil=>
      simp only[El,dO] at hlen
      rw[Wg]
      exact(aI (by lia)).symm
     |cons c u hw=>
      rw[List.zip_cons_cons] at hz
      cases hz
   rw[hv] at hR
   wp_walk
   exact⟨_,rfl,by simpa[Builtin.Tuple.tupleCompareSizes] using hR⟩
  case h=>
   exact⟨rfl,rfl,items.toList,m6.toList,ns,ms,rfl,hi,hj,by lia,h⟩
end
section
variable{prog:Program}{w:World}{A:Around}{E:Value->Shared->Prop}{s:Shared}
def Wq{l b:Addr}{ns ms:List Int}(hl:IsTup s.heap l items)(hb:IsTup s.heap b m6)(hi:IntsAre items.toList ns)(hj:IntsAre m6.toList ms)
  (hu:A.units<cLine) (h:Q (.bool (lexLt ns ms)) s):wpAny (model prog w) A (compareOp .Lt (.ref l) (.ref b)) Q E s:=by
 obtain⟨⟨cls,dd,data,sl⟩,ho,hc,n,hd⟩:=id hl
 obtain⟨⟨aiE,E4,data2,E5⟩,j0,sk,n2,hd2⟩:=id hb
 simp only at hc hd sk hd2
 subst hc hd sk hd2
 exact richCompare_meets_room (op := .Lt) ⟨_,ho,rfl⟩ ⟨_,j0,rfl⟩ PySem.F.slot_tuple_lt PySem.F.entry_tuple_lt (PySem.F.args_tuple_lt_2 _ _) (Wj l b items m6 n n2 dd E4 sl E5 ns ms hi hj)
  ⟨ho,j0,show Value.bool (lexLt ns ms)≠Value.notImplemented/\Q (.bool (lexLt ns ms)) s from⟨(λx=>nomatch x),h⟩⟩ hu
noncomputable def gN(n d:Nat):Option Int->Nat
 |none=>d
 |some v=>if v<0 then (v+(n:Int)).toNat else min v.toNat n
def MN(n d:Nat):gN n d none=d:=rfl
theorem MO(n d k:Nat):gN n d (some (k:Int))=min k n:=by
 show(if (k:Int)<0 then ((k:Int)+(n:Int)).toNat else min (k:Int).toNat n)=min k n
 rw[av (by lia),eI]
end
end HT
namespace L2
open PySem PySem.Spec PyProof.Rows
variable{r:V->Option Int->Option Int->Hp->VK->Prop}{j n t':Nat}{i:Int}{α:Type}{pins:List (Addr×Obj)}{O:St}{H H':Hp}{s:Shared}{a b p:Addr}{xs:List (List Key×Addr×Value)}{cA its:List Value}{f:Array Value->Array Value}{A:Around}{x y:V}{d' u v:Value}{T:String}{o:Option V}{P prog:Program}{w:World}{kvs:List (List Key×V)}{ks:List Key}{E Q:Value->Shared->Prop}{h':Heap}{vs:List (Key×Value)}{X:Cx}
abbrev TO:=St->Hp->(Option Int->Hp->Prop)->Prop
def PO(X:Cx)(e:Option Expr)(t:TO):Prop:=
 ∀(pins:List (Addr×Obj)) (s:Shared) (O:St) (H:Hp) (Q:Option Int->Hp->Prop),Inv X pins O H s->t O H Q->
  wpAny (model X.prog X.w) X.A (evalPart e X.env) (λu s' =>∃o H',Inv X pins O H' s'/\IsPart u o/\Q o H') X.xe s
noncomputable def Wr:TO:=λ_ H Q=>Q none H
noncomputable def Ws(t:TE):TO:=λO H Q=>t O H λx H1=>∃i,x = .int i/\Q (some i) H1
section
variable{X:Cx}{e:Expr}{te:TE}{lo hi:Option Expr}{tl th:TO}{pos p2:Pos}
def m7:PO X none Wr:=by
 intro pins s O H Q I h
 rw[evalPart_none]
 exact aL ⟨none,H,I,.none,h⟩
def m8(h:PE X e te):PO X (some e) (Ws te):=by
 intro pins s O H Q I hw
 rw[evalPart_some]
 refine aC (h pins s O H _ I hw) λu s1 ⟨x,H1,I1,r1,q1⟩=>?_
 obtain⟨i,rfl,q⟩:=q1
 obtain⟨t,rfl⟩:=r1
 exact⟨some i,H1,I1,.int i t,q⟩
def E7(X:Cx)(r:V->Option Int->Option Int->Hp->VK->Prop):Prop:=
 ∀(pins:List (Addr×Obj)) (s:Shared) (O:St) (H:Hp) (x:V) (v vl vu:Value) (lo hi:Option Int) (sl:Addr) (Q:VK),Inv X pins O H s->RelV x v->s.heap.IsSliceOf sl vl vu .none->IsPart vl lo->IsPart vu hi->r x lo hi H Q->
  ∃T id,typeLookup (.type T) "__getitem__"=pure (some (.builtin id))/\s.TypeIs v T/\wpAny (model X.prog X.w) X.A (getItem v (.ref sl)) (EP X pins O Q) X.xe s
def Wt(r:V->Option Int->Option Int->Hp->VK->Prop)(te:TE)(tl th:TO):TE:=λO H Q=>te O H λx H1=>tl O H1 λl H2=>th O H2 λu H3=>r x l u H3 Q
def og(hr:E7 X r)(he:PE X e te)(hl:PO X lo tl)(hu:PO X hi th):PE X (.Subscript e (.Slice lo hi none p2) pos) (Wt r te tl th):=by
 intro pins s O H Q I h
 refine Subscript_ (aC (he pins s O H _ I h) λv s1 ⟨x,H1,I1,r1,q1⟩=>?_)
 refine wpAny_Slice (aC (hl pins s1 O H1 _ I1 q1) λvl s2 ⟨l,H2,I2,pl,q2⟩=>aC (hu pins s2 O H2 _ I2 q2) λvu s3 ⟨u,H3,I3,pu,q3⟩=>?_)
 rw[evalPart_none]
 refine aL ?_
 have I4:Inv X pins O H3 { s3 with heap:=s3.heap.push { cls := .type "slice",data := .fields #[vl,vu,.none] } }:=I3.kept (t':=s3.toks) λb ob q=>bu _ q
 obtain⟨T,id,hT,ht,hg⟩:=hr pins { s3 with heap:=s3.heap.push { cls := .type "slice",data := .fields #[vl,vu,.none] } } O H3 x v vl vu l u s3.heap.objs.size Q I4 r1 (Heap.IsSliceOf.new ..) pl pu q3
 show wpAny (model X.prog X.w) X.A (subscriptTail e (.Slice lo hi none p2) v (.ref s3.heap.objs.size)) (EP X pins O Q) X.xe { s3 with heap:=s3.heap.push { cls := .type "slice",data := .fields #[vl,vu,.none] } }
 exact tail_any (ops:=[.ref s3.heap.objs.size,v]) ht hT hg (by with_unfolding_all rfl)
noncomputable def lT(xs:List V)(lo hi:Option Int):List V:=(xs.drop (HT.gN xs.length 0 lo)).take (HT.gN xs.length xs.length hi - HT.gN xs.length 0 lo)
theorem Wu(xs:List V)(lo hi:Option Int):(lT xs lo hi).length<=xs.length:=by
 unfold lT
 rw[jN,Em]
 lia
end
noncomputable def oh(n:Nat)(i:Int):Option Nat:=if 0<=i then (if i<n then some i.toNat else none) else if -(n:Int)<=i then some (i+n).toNat else none
noncomputable def gO{α:Type}(xs:List α)(i:Int):Option α:=(oh xs.length i).bind λj=>xs[j]?
theorem MP(h:oh n i=some j):seqIndex? i n=some j/\j<n/\ -(n:Int)<=i/\i<n:=by
 unfold oh at h
 by_cases h0:0<=i
 .rw[az h0] at h
  by_cases h1:i<n
  .rw[az h1] at h
   have e:i.toNat=j:=cY h
   exact⟨by rw[seqIndex_of h0 h1,e],by lia,by lia,h1⟩
  .rw[av h1] at h;cases h
 .rw[av h0] at h
  by_cases h1 : -(n:Int)<=i
  .rw[az h1] at h
   have e:(i+n).toNat=j:=cY h
   exact⟨by rw[seqIndex_neg (by lia) h1,e],by lia,h1,by lia⟩
  .rw[av h1] at h;cases h
def E8{xs:List α}{v:α}(h:gO xs i=some v):∃j,seqIndex? i xs.length=some j/\xs[j]? = some v/\j<xs.length/\ -(xs.length:Int)<=i/\i<xs.length:=by
 unfold gO at h
 cases e:oh xs.length i with
 |none=>rw[e] at h;cases h
 |some j=>
  rw[e] at h
  obtain⟨h1,h2,h3,h4⟩:=MP e
  exact⟨j,h1,h,h2,h3,h4⟩
theorem dz{xs:List α}{v:α}(h:xs[j]? = some v):gO xs (j:Int)=some v:=by
 have hj:j<xs.length:=(bY.mp h).1
 have e:oh xs.length (j:Int)=some j:=by
  unfold oh
  rw[az (by lia),az (by lia)];simp
 unfold gO;rw[e];exact h
def E9(b:Expr):Prop := ∀o i,subscripted b false o i=operate [o,i] (getItem o i)
def vi(X:Cx)(r:R2):Prop:=
 ∀(value slice:Expr) (pins:List (Addr×Obj)) (s:Shared) (O:St) (H:Hp) (x y:V) (v u:Value) (Q:VK),Inv X pins O H s->RelV x v->RelV y u->r x y H Q->
  subscripted slice false v u=operate [v,u] (getItem v u)->wpAny (model X.prog X.w) X.A (subscriptTail value slice v u) (EP X pins O Q) X.xe s
def Bh(X:Cx)(id:String)(r:V->List V->Hp->VK->Prop):Prop:=
 ∀(pins:List (Addr×Obj)) (s:Shared) (O:St) (H:Hp) (x:V) (xs:List V) (v:Value) (us:List Value) (Q:VK),Inv X pins O H s->RelV x v->Vals xs us->r x xs H Q->
  wpAny (model X.prog X.w) X.A (call (.builtin id) (v::us)) (EP X pins O Q) X.xe s
section
variable{X:Cx}{a b:Expr}{ta tb:TE}{pos:Pos}
def aV{r:R2}(hr:vi X r)(ha:PE X a ta)(hb:PE X b tb)(hs:E9 b:=by exact λ_ _=>rfl):PE X (.Subscript a b pos) (qr r ta tb):=by
 intro pins s O H Q I h
 exact Subscript_ (EU ha hb I h λv u s2 x y H2 I2 rx ry q=>hr a b pins s2 O H2 x y v u Q I2 rx ry q (hs _ _))
def MQ(K:Frag):R2:=λx y H Q=>∃p xs i v,x = .ref p/\y = .int i/\aj K H p xs/\gO xs i=some v/\Q v H
def Bi(K:Frag):R2:=λx y H Q=>∃p xs i v,x = .ref p/\y = .int i/\ak K H p xs/\gO xs i=some v/\Q v H
def Wv:R2:=λx y H Q=>∃z i c,x = .str z/\y = .int i/\z.length<=sizeLine/\gO z.cps.toList i=some c/\Q (.str ⟨#[c]⟩) H
theorem gj:vi X (MQ X.K):=by
 intro value slice pins s O H x y v u Q I rx ry h hs
 obtain⟨p,xs,i,z,rfl,rfl,hq,he,q⟩:=h
 cases rx
 obtain⟨t,rfl⟩:=ry
 obtain⟨its,r,pl,hz⟩:=I.list hq
 obtain⟨j,h1,h2,h3,h4,h5⟩:=E8 he
 obtain⟨w,ew,lU⟩:=r.get h2
 have hl:=r.length
 have hn:=n9
 have fin:EP X pins O Q w s:=⟨z,H,I,lU,q⟩
 by_cases h0:0<=i
 .have hj:i.toNat=j:=by
   rw[seqIndex_of h0 h5] at h1
   exact cY h1
  exact item_listR pl.isList h0 (by lia) (by rw[hj];simpa using ew) fin hs
 .have hj:(i+(its.toArray.size:Int)).toNat=j:=by
   rw[seqIndex_neg (by lia) h4] at h1
   rw[br,<-hl]
   exact cY h1
  exact subscriptTail_builtinR (x:=w) pl.isList.typeIs slot_list_getitem.lookup
   (wpAny_getItem_list_neg (Q:=λr s'=>r=w/\EP X pins O Q r s') pl.isList (by lia) (by rw[br] <;> lia) (by lia) (by rw[hj];simpa using ew) ⟨rfl,fin⟩) hs
theorem bV:vi X (Bi X.K):=by
 intro value slice pins s O H x y v u Q I rx ry h hs
 obtain⟨p,xs,i,z,rfl,rfl,hq,he,q⟩:=h
 cases rx
 obtain⟨t,rfl⟩:=ry
 obtain⟨its,r,pl,hz⟩:=I.tuple hq
 obtain⟨j,h1,h2,h3,h4,h5⟩:=E8 he
 obtain⟨w,ew,lU⟩:=r.get h2
 have hl:=r.length
 have hn:=n9
 have fin:EP X pins O Q w s:=⟨z,H,I,lU,q⟩
 exact subscriptTail_builtinR (x:=w) pl.typeIs slot_tuple_getitem.lookup
  (getItem_tuple (j:=j) (Q:=λr s'=>r=w/\EP X pins O Q r s') pl (by lia) (by lia) (by rw[br,<-hl];exact h1) (by simpa using ew) ⟨rfl,fin⟩) hs
theorem iq:vi X Wv:=by
 intro value slice pins s O H x y v u Q I rx ry h hs
 obtain⟨z,i,c,rfl,rfl,hz,he,q⟩:=h
 obtain⟨t,rfl⟩:=rx
 obtain⟨t',rfl⟩:=ry
 obtain⟨j,h1,h2,h3,h4,h5⟩:=E8 he
 have hl:z.cps.toList.length=z.length:=by simp[Str.length]
 rw[hl] at h1 h4 h5
 have hn:=n9
 exact tail_any (typeIs_str s z t) slot_str_getitem.lookup (getItem_str (c:=c) (by
  have e1:decide (i < -(2 ^ 63:Int))=false:=aI (by lia)
  have e2:decide (i>=2 ^ 63)=false:=aI (by lia)
  rw[e1,e2,Bool.or_false]) (by rw[h1];simpa using h2) ⟨.str ⟨#[c]⟩,H,I.tok _,⟨_,rfl⟩,q⟩) hs
def Ww(its:List Value)(n j:Nat)(u:Value):Obj.mapSeq (·.setIfInBounds j u) { cls := .type "list",data := .seq its.toArray n }={ cls := .type "list",data := .seq (its.set j u).toArray n }:=by
 simp[Obj.mapSeq]
theorem Inv.lst{xs:List V}(I:Inv X pins O H s)(h:H p=some (.lst xs)) :
  ∃(its:List Value) (n:Nat),Vals xs its/\s.heap.get? p=some { cls := .type "list",data := .seq its.toArray n }/\xs.length<=sizeLine:=by
 obtain⟨z,its,n,r,e⟩:=I.aA p _ h
 exact⟨its,n,r,e,z⟩
def Inv.Wx{xs ys:List V}{n':Nat}{f:Obj->Obj}(I:Inv X pins O H s)(h:H p=some (.lst xs))
  (ho:s.heap.get? p=some { cls := .type "list",data := .seq its.toArray n }) (hf:f { cls := .type "list",data := .seq its.toArray n }={ cls := .type "list",data := .seq cA.toArray n' }) (r:Vals ys cA) (hz:ys.length<=sizeLine) (t:Nat) :
  Inv X pins O (upd H p (.lst ys)) { s with heap:=s.heap.update p f,toks:=t }:=by
 have e:(s.heap.update p f).get? p=some { cls := .type "list",data := .seq cA.toArray n' }:=by
  rw[pW f ho (by rw[hf] <;> rfl),hf]
 refine I.write (x:=p) (e:=p) (by rw[h];trivial) (.inl rfl) (λb u hb q=>(iM _ _ (bo hb)).trans q) ⟨_,e⟩ ?_
 exact⟨hz,cA,n',r,e⟩
def Wy:V->V->V->Hp->(Hp->Prop)->Prop:=λo i v H Q=>∃p xs k j,o = .ref p/\i = .int k/\H p=some (.lst xs)/\oh xs.length k=some j/\Q (upd H p (.lst (xs.set j v)))
theorem set_list:Mh X Wy:=by
 intro pins s O H o i v ov iv u Q I ro ri rv h
 obtain⟨p,xs,k,j,rfl,rfl,hp,hj,q⟩:=h
 cases ro
 obtain⟨t,rfl⟩:=ri
 obtain⟨its,n,r,ho,hz⟩:=I.lst hp
 obtain⟨h1,h2,h3,h4⟩:=MP hj
 have hl:=r.length
 have hn:=n9
 have I':Inv X pins O (upd H p (.lst (xs.set j v))) { s with heap:=s.heap.update p (Obj.mapSeq (·.setIfInBounds j u)) } :=
  I.Wx hp ho (Ww its n j u) (r.set rv j) (by rw[En];exact hz) s.toks
 by_cases h0:0<=k
 .have hk:k.toNat=j:=by
   rw[seqIndex_of h0 h4] at h1
   exact cY h1
  exact PySem.W.ki_setAt ho h0 (by lia) (by rw[br,<-hl];exact h4) (by rw[hk];exact⟨_,I',q⟩)
 .have hk:(k+(its.toArray.size:Int)).toNat=j:=by
   rw[seqIndex_neg (by lia) h3] at h1
   rw[br,<-hl]
   exact cY h1
  exact PySem.W.ki_setBack ho (by lia) (by rw[br,<-hl];exact h3) (by lia) (by rw[hk];exact⟨_,I',q⟩)
theorem Wz(lo hi:Option Int)(n:Nat):(sliceBounds lo hi none n).1=((HT.gN n 0 lo:Nat):Int)/\(sliceBounds lo hi none n).2.1=((HT.gN n n hi:Nat):Int)/\(sliceBounds lo hi none n).2.2=1:=by
 refine⟨?_,?_,rfl⟩
 .cases lo with
  |none=>simp[sliceBounds,HT.gN]
  |some i=>
   simp only[sliceBounds,HT.gN,Option.getD_none,show(1:Int)>0 by decide,jO]
   by_cases h:i<0
   .simp only[h,jO] <;> lia
   .simp only[h,pX] <;> lia
 .cases hi with
  |none=>simp[sliceBounds,HT.gN]
  |some i=>
   simp only[sliceBounds,HT.gN,Option.getD_none,show(1:Int)>0 by decide,jO]
   by_cases h:i<0
   .simp only[h,jO] <;> lia
   .simp only[h,pX] <;> lia
def WA(its:List Value)(lo hi:Option Int):slicePick its.toArray lo hi none=((its.drop (HT.gN its.length 0 lo)).take (HT.gN its.length its.length hi - HT.gN its.length 0 lo)).toArray:=by
 obtain⟨h1,h2,h3⟩:=Wz lo hi its.toArray.size
 unfold slicePick
 rw[h1,h2,h3]
 simp only[sliceRange_one,pick_run,br] <;> rfl
def WB(K:Frag):V->Option Int->Option Int->Hp->VK->Prop:=λx lo hi H Q=>∃a xs,x = .ref a/\aj K H a xs/\∀p,H p=none->Q (.ref p) (upd H p (.lst (lT xs lo hi)))
theorem Fb:E7 X (WB X.K):=by
 intro pins s O H x v vl vu lo hi sl Q I rx hs pl pu h
 obtain⟨a,xs,rfl,hx,q⟩:=h
 cases rx
 obtain⟨its,r,ht,hz⟩:=I.list hx
 have hlen:=r.length
 refine⟨"list",_,slot_list_getitem.lookup,ht.isList.typeIs,?_⟩
 refine wpAny_getItem_list_slice ht.isList hs pl pu .none (by simp) ?_ (by rw[br] <;> lia)
 rw[WA,<-hlen]
 refine⟨.ref s.heap.objs.size,_,I.laid (t':=s.toks) (o := .lst (lT xs lo hi)) (λb ob q=>bu _ q) (aO _) ?_,rfl,q _ (I.aA.fresh (aO _))⟩
 exact⟨bF (Wu xs lo hi) hz,_,0,(r.drop (HT.gN xs.length 0 lo)).take (HT.gN xs.length xs.length hi - HT.gN xs.length 0 lo),cz _ rfl⟩
noncomputable def kY:V->Bool
 |.aB=>true
 |.bl _=>true
 |.int _=>true
 |.str _=>true
 |_=>false
noncomputable def ir:V->V->Bool
 |.aB,.aB=>true
 |.bl a,.bl b=>a==b
 |.bl a,.int b=>(if a then 1 else 0)==b
 |.int a,.bl b=>a==(if b then 1 else 0)
 |.int a,.int b=>a==b
 |.str a,.str b=>a==b
 |_,_=>false
def gQ(ry:RelV y u)(rx:RelV x v)(fy:kY y=true)(fx:kY x=true):SeqAt.EqAt A s u v (ir y x):=by
 cases y with
 |aB=>
  cases ry
  cases x with
  |aB=>cases rx;exact SeqAt.EqAt.same _
  |bl b=>cases rx;exact SeqAt.EqAt.none_bool b
  |int b=>obtain⟨t,rfl⟩:=rx;exact SeqAt.EqAt.none_int b t
  |str b=>obtain⟨t,rfl⟩:=rx;exact SeqAt.EqAt.none_str b t
  |_=>exact absurd (show false=true from fx) b8
 |bl a=>
  cases ry
  cases x with
  |aB=>cases rx;exact SeqAt.EqAt.bool_none a
  |bl b=>cases rx;exact SeqAt.EqAt.bool_bool a b
  |int b=>obtain⟨t,rfl⟩:=rx;exact SeqAt.EqAt.bool_int a b t
  |str b=>obtain⟨t,rfl⟩:=rx;exact SeqAt.EqAt.bool_str a b t
  |_=>exact absurd (show false=true from fx) b8
 |int a=>
  obtain⟨t',rfl⟩:=ry
  cases x with
  |aB=>cases rx;exact SeqAt.EqAt.int_none a t'
  |bl b=>cases rx;exact SeqAt.EqAt.int_bool a t' b
  |int b=>obtain⟨t,rfl⟩:=rx;exact SeqAt.EqAt.int_int a t' b t
  |str b=>obtain⟨t,rfl⟩:=rx;exact SeqAt.EqAt.int_str a t' b t
  |_=>exact absurd (show false=true from fx) b8
 |str a=>
  obtain⟨t',rfl⟩:=ry
  cases x with
  |aB=>cases rx;exact SeqAt.EqAt.str_none a t'
  |bl b=>cases rx;exact SeqAt.EqAt.str_bool a t' b
  |int b=>obtain⟨t,rfl⟩:=rx;exact SeqAt.EqAt.str_int a t' b t
  |str b=>obtain⟨t,rfl⟩:=rx;exact SeqAt.EqAt.str_str a t' b t
  |_=>exact absurd (show false=true from fx) b8
 |_=>exact absurd (show false=true from fy) b8
noncomputable def iR(x:V)(u:Value):Bool:=match u with
 |.none=>ir .aB x
 |.bool b=>ir (.bl b) x
 |.int i _=>ir (.int i) x
 |.str z _=>ir (.str z) x
 |_=>false
def MR(r:RelV y u)(f:kY y=true):iR x u=ir y x:=by
 cases y with
 |aB=>cases r;rfl
 |bl b=>cases r;rfl
 |int i=>obtain⟨t,rfl⟩:=r;rfl
 |str z=>obtain⟨t,rfl⟩:=r;rfl
 |_=>exact absurd (show false=true from f) b8
theorem yb{x:V}:∀{xs:List V}{us:List Value},Vals xs us->xs.all kY=true->us.any (iR x)=xs.any λy=>ir y x
 |_,_,.nil,_=>rfl
 |y::xs,u::us,.cons r t,f=>by
  rw[List.all_cons,d9] at f
  rw[AB,AB,MR r f.1,yb t f.2]
theorem yc{A:Around}{s:Shared}{x:V}{v:Value}(rx:RelV x v)(fx:kY x=true):∀{xs:List V}{us:List Value},Vals xs us->xs.all kY=true->∀u∈us,SeqAt.EqAt A s u v (iR x u)
 |_,_,.nil,_=>λu hu=>by cases hu
 |y::xs,u::us,.cons r t,f=>λu' hu=>by
  rw[List.all_cons,d9] at f
  rcases cw.mp hu with rfl | hu
  .rw[MR r f.1];exact gQ r rx f.1 fx
  .exact yc rx fx t f.2 u' hu
noncomputable def gR(x:V)(xs:List V):Bool:=xs.any λy=>ir y x
def yd(K:Frag)(neg:Bool):R2:=λx y H Q=>∃p xs,y = .ref p/\(aj K H p xs\/ak K H p xs)/\kY x=true/\xs.all kY=true/\Q (.bl (if neg then !gR x xs else gR x xs)) H
def WC:cN X (compareOp .In) (yd X.K false):=by
 intro pins s O H x y v u Q I rx ry h
 obtain⟨p,xs,rfl,hq,fx,fs,q⟩:=h
 cases ry
 rcases hq with hq | hq
 .obtain⟨its,r,pl,hz⟩:=I.list hq
  refine SeqAt.in_listAt (iR x) pl.isList (λw hw=>yc rx fx r fs w (by simpa using hw)) ⟨.bl _,H,I,rfl,?_⟩
  rw[show its.toArray.any (iR x)=its.any (iR x) by simp,yb r fs]
  exact q
 .obtain⟨its,r,pl,hz⟩:=I.tuple hq
  refine SeqAt.in_tupleAt (iR x) pl (λw hw=>yc rx fx r fs w (by simpa using hw)) ⟨.bl _,H,I,rfl,?_⟩
  rw[show its.toArray.any (iR x)=its.any (iR x) by simp,yb r fs]
  exact q
def vj:cN X (compareOp .NotIn) (yd X.K true):=by
 intro pins s O H x y v u Q I rx ry h
 obtain⟨p,xs,rfl,hq,fx,fs,q⟩:=h
 cases ry
 rcases hq with hq | hq
 .obtain⟨its,r,pl,hz⟩:=I.list hq
  refine SeqAt.notIn_listAt (iR x) pl.isList (λw hw=>yc rx fx r fs w (by simpa using hw)) ⟨.bl _,H,I,rfl,?_⟩
  rw[show its.toArray.any (iR x)=its.any (iR x) by simp,yb r fs]
  exact q
 .obtain⟨its,r,pl,hz⟩:=I.tuple hq
  refine SeqAt.notIn_tupleAt (iR x) pl (λw hw=>yc rx fx r fs w (by simpa using hw)) ⟨.bl _,H,I,rfl,?_⟩
  rw[show its.toArray.any (iR x)=its.any (iR x) by simp,yb r fs]
  exact q
theorem dX:il X (.builtin "len") (λxs H Q=>∃p ys,xs=[.ref p]/\(aj X.K H p ys\/ak X.K H p ys)/\Q (.int ys.length) H):=by
 intro pins s O H xs us Q I r h
 obtain⟨p,ys,rfl,hq,q⟩:=h
 obtain⟨u,rfl,rx⟩:=vals1 r
 cases rx
 have hn:=n9
 rcases hq with hq | hq
 .obtain⟨its,r',pl,hz⟩:=I.list hq
  have hlen:=r'.length
  exact Calls.call_len_list pl.isList (by simp only[br] <;> lia) ⟨.int ys.length,H,I.tok _,⟨s.toks+1,by rw[br,hlen]⟩,q⟩
 .obtain⟨its,r',pl,hz⟩:=I.tuple hq
  have hlen:=r'.length
  exact len_tuple pl (by simp only[br] <;> lia) ⟨.int ys.length,H,I.tok _,⟨s.toks+1,by rw[br,hlen]⟩,q⟩
theorem gy:il X (.builtin "len") (λxs H Q=>∃z,xs=[.str z]/\z.length<=sizeLine/\Q (.int z.length) H):=by
 intro pins s O H xs us Q I r h
 obtain⟨z,rfl,hz,q⟩:=h
 obtain⟨u,rfl,t,rfl⟩:=vals1 r
 have hn:=n9
 exact len_str (by lia) ⟨.int z.length,H,I.tok _,⟨_,rfl⟩,q⟩
theorem vk:il X (.type "list") (λxs H Q=>∃p ys,xs=[.ref p]/\(aj X.K H p ys\/ak X.K H p ys)/\∀l,H l=none->Q (.ref l) (upd H l (.lst ys))):=by
 intro pins s O H xs us Q I r h
 obtain⟨p,ys,rfl,hq,q⟩:=h
 obtain⟨u,rfl,rx⟩:=vals1 r
 cases rx
 have fin:∀(its:List Value),Vals ys its->ys.length<=sizeLine->∀(h':Heap) (c':Nat),(∀b o',s.heap.get? b=some o'->h'.get? b=some o')->
   h'.get? s.heap.objs.size=some { cls := .type "list",dict:=none,data := .seq its.toArray c',slots := #[] }->EP X pins O Q (.ref s.heap.objs.size) { s with heap:=h' }:=λits r' hz h' c' kp e=>
  ⟨.ref s.heap.objs.size,_,I.laid (t':=s.toks) kp (aO _) (show da X.prog X.w _ h' _ (.lst ys) from⟨hz,its,c',r',e⟩),rfl,q _ (I.aA.fresh (aO _))⟩
 rcases hq with hq | hq
 .obtain⟨its,r',pl,hz⟩:=I.list hq
  have hlen:=r'.length
  obtain⟨o,ho,hc,n,hd⟩:=pl.isList
  exact call_list_seq p (.inl rfl) ho hc hd (λh' c' kp e=>fin its r' hz h' c' kp e) (by simp only[br] <;> lia)
 .obtain⟨its,r',pl,hz⟩:=I.tuple hq
  have hlen:=r'.length
  obtain⟨o,ho,hc,n,hd⟩:=pl
  exact call_list_seq p (.inr rfl) ho hc hd (λh' c' kp e=>fin its r' hz h' c' kp e) (by simp only[br] <;> lia)
theorem ye:il X (.type "tuple") (λxs H Q=>∃p ys,xs=[.ref p]/\((aj X.K H p ys/\∀l,H l=none->Q (.ref l) (upd H l (.tup ys)))\/(ak X.K H p ys/\Q (.ref p) H))):=by
 intro pins s O H xs us Q I r h
 obtain⟨p,ys,rfl,h⟩:=h
 obtain⟨u,rfl,rx⟩:=vals1 r
 cases rx
 rcases h with ⟨hq,q⟩ | ⟨hq,q⟩
 .obtain⟨its,r',pl,hz⟩:=I.list hq
  have hlen:=r'.length
  refine call_tuple_list pl.isList (λh' kp=>?_) (by simp only[br] <;> lia)
  have I1:Inv X pins O H { s with heap:=h' }:=I.kept (t':=s.toks) kp
  have I2:Inv X pins O (upd H h'.objs.size (.tup ys)) { s with heap:=h'.push { cls := .type "tuple",data := .seq its.toArray } } :=
   I1.laid (t':=s.toks) (λb o e=>bu _ e) (aO _) (show da X.prog X.w _ _ _ (.tup ys) from⟨hz,its,r',IsTup.new _ _⟩)
  exact⟨.ref h'.objs.size,_,I2,rfl,q _ (I1.aA.fresh (aO _))⟩
 .obtain⟨its,r',pl,hz⟩:=I.tuple hq
  exact call_tuple_same pl ⟨.ref p,H,I,rfl,q⟩
def MS(K:Frag)(T:String)(x:V)(H:Hp):Prop:=match x with
 |.str _=>T="str"
 |.int _=>T="int"
 |.ref p=>(T="list" /\∃xs,aj K H p xs)\/(T="tuple" /\∃o,K.lookup p=some o/\o.cls = .type "tuple"/\o.dict=none)\/
   (T="dict"/\((∃kvs,H p=some (.dK kvs))\/∃kvs,H p=some (.dT kvs)))\/(T="set" /\∃S n,H p=some (.set S n))
 |_=>False
def WD(I:Inv X pins O H s)(r:RelV x v)(ty:MS X.K T x H) :
  s.TypeIs v T/\∀a,v = .ref a->∃ob,s.heap.get? a=some ob/\ob.dict=none:=by
 cases x with
 |str z=>
  obtain⟨t,rfl⟩:=r
  cases(show T="str" from ty)
  exact⟨typeIs_str s z t,λ_ e=>nomatch e⟩
 |int i=>
  obtain⟨t,rfl⟩:=r
  cases(show T="int" from ty)
  exact⟨typeIs_int s i t,λ_ e=>nomatch e⟩
 |ref p=>
  cases r
  rcases ty with ⟨rfl,xs,hq⟩ | ⟨rfl,o,hk,hc,hd⟩ | ⟨rfl,hk⟩ | ⟨rfl,S,n,hk⟩
  .obtain⟨its,_,pl,_⟩:=I.list hq
   refine⟨pl.isList.typeIs,λa e=>?_⟩
   cases e
   obtain⟨o,n,e,c,hd,_⟩:=pl
   exact⟨o,e,hd⟩
  .refine⟨⟨o,I.cG p o hk,hc⟩,λa e=>?_⟩
   cases e
   exact⟨o,I.cG _ o hk,hd⟩
  .have z:∃o,s.heap.get? p=some o/\o.ExactDict:=by
    rcases hk with ⟨kvs,hk⟩ | ⟨kvs,hk⟩
    .obtain⟨_,_,_,_,o,_,_,e,ex,_⟩:=I.aA p _ hk
     exact⟨o,e,ex⟩
    .obtain⟨_,_,_,_,o,_,_,e,ex,_⟩:=I.aA p _ hk
     exact⟨o,e,ex⟩
   obtain⟨o,e,ex⟩:=z
   refine⟨⟨o,e,ex.1⟩,λa e2=>?_⟩
   cases e2
   exact⟨o,e,ex.2.1⟩
  .obtain⟨o,_,_,_,e,ex,_⟩:=I.aA p _ hk
   refine⟨⟨o,e,ex.1⟩,λa e2=>?_⟩
   cases e2
   exact⟨o,e,ex.2.1⟩
 |_=>exact False.elim ty
def MT(K:Frag)(T:String)(r:V->List V->Hp->VK->Prop)(to:TE)(t:TA):TE:=λO H Q=>to O H λx H1=>MS K T x H1/\t O H1 λxs H2=>r x xs H2 Q
variable{o e:Expr}{es:List Expr}{to:TE}{t:TA}{name:Str}{apos dM:Pos}{T id:String}{r:V->List V->Hp->VK->Prop}
def fq(pa:PlainAttrs T)(slot:Slot T name id)(Fc:typeOf (.builtin id)=pure (.type "method_descriptor"))(hm:Bh X id r)(ho:PE X o to)(ha:PA X (e::es) t)
  (yf:attributeBase o name X.env (eval o X.env)=eval o X.env:=by rfl)
  (Fd:((backTo dM (starEach (e::es) X.env)).all (λx=>!x.1)&&(backToKw dM (keywordEach [] X.env)).all (λx=>x.1.isSome)
   && decide ((e::es).length+([]:List Keyword).length+(if ([]:List Keyword).isEmpty then 0 else 1)<30))=true:=by rfl)
  (Fe:(apos.endLine==dM.line)=true:=by rfl) (hs:starEach (e::es) X.env=(false,eval e X.env)::starEach es X.env:=by rfl) (Ff:(backTo dM (starEach es X.env)).any (·.1)=false:=by rfl) :
  PE X (.Call (.Attribute o name apos) (e::es) [] dM) (MT X.K T r to t):=by
 intro pins s O H Q I h
 refine wpAny_Call_method_late yf Fd Fe rfl (aC (ho pins s O H _ I h) λv s1 ⟨x,H1,I1,r1,ty,q1⟩=>?_)
 obtain⟨h1,h2⟩:=WD I1 r1 ty
 refine⟨T,id,pa,slot,Fc,h1,h2,?_⟩
 have hA:=ha dM pins s1 O H1 _ I1 q1
 rw[hs] at hA ⊢
 refine Uz (by show(false||(backTo dM (starEach es X.env)).any (·.1))=false;rw[Ff] <;> rfl) (UA ?_)
 exact aC hA λus s2 ⟨vs,H2,I2,r2,q2⟩=>hm pins s2 O H2 x vs v us Q I2 r1 r2 q2
end
def MU(X:Cx)(id:String)(r:V->List V->Hp->VK->Prop):Prop:=
 ∀(pins:List (Addr×Obj)) (s:Shared) (O:St) (H:Hp) (x:V) (xs:List V) (v:Value) (us:List Value) (Q:VK),Inv X pins O H s->RelV x v->Vals xs us->r x xs H Q->
  wpAny (model X.prog X.w) X.A (call (.builtin id) (v::us)) (EP X pins O Q) X.xe s
theorem Vals.one:∀{x:V}{us:List Value},Vals [x] us->∃u,us=[u]/\RelV x u
 |_,_,.cons r .nil=>⟨_,rfl,r⟩
theorem Vals.rep{xs:List V}{us:List Value}(h:Vals xs us):∀k:Nat,Vals (List.replicate k xs).flatten (List.replicate k us).flatten
 |0=>.nil
 |k+1=>by
  rw[pY,pY,xw,xw]
  exact Vals.append h (Vals.rep h k)
theorem foldl_rep(its:List Value):∀(k:Nat) (acc:List Value),
  List.foldl (λx1 x2=>x1++x2) acc.toArray (List.replicate k its.toArray)=(acc++(List.replicate k its).flatten).toArray
 |0,acc=>by simp
 |k+1,acc=>by
  have e:acc.toArray++its.toArray=(acc++its).toArray:=by simp
  have e2:(acc++its)++(List.replicate k its).flatten=acc++(List.replicate (k+1) its).flatten:=by
   rw[pY,xw,pZ]
  rw[<-e2,<-foldl_rep its k (acc++its),<-e,pY,List.foldl_cons]
section
variable{X:Cx}{pins:List (Addr×Obj)}{O:St}{H:Hp}{s:Shared}{l b:Addr}{xs ys zs:List V}
def Inv.MV(I:Inv X pins O H s)(hH:H l=some (.lst xs))
  (e:s.heap.get? l=some { cls := .type "list",data := .seq its.toArray n }) (hf:f its.toArray=cA.toArray) (hv:Vals ys cA) (hz:ys.length<=sizeLine) :
  Inv X pins O (upd H l (.lst ys)) { s with heap:=s.heap.update l (Obj.mapSeq f),toks:=t' }:=by
 have q:=PySem.IsL.update e f
 rw[hf] at q
 refine I.write (x:=l) (e:=l) (by rw[hH];exact trivial) (.inl rfl) (λb' u hb hu=>(iM s.heap (Obj.mapSeq f) (bo hb)).trans hu) ⟨_,q⟩ ?_
 exact⟨hz,cA,_,hv,q⟩
def Inv.Fg(I:Inv X pins O H s)(hv:Vals ys its)(hz:ys.length<=sizeLine) :
  Inv X pins O (upd H s.heap.objs.size (.lst ys)) { s with heap:=s.heap.push { cls := .type "list",data := .seq its.toArray },toks:=t' } :=
 I.laid (λ_ _ q=>bu _ q) (aO _) ⟨hz,its,0,hv,cz _ rfl⟩
theorem Inv.fresh(I:Inv X pins O H s):H s.heap.objs.size=none:=I.aA.fresh (aO _)
def Inv.qw(I:Inv X pins O H s)(hH:H l=some (.lst xs)):xs.length<=sizeLine/\∃(its:List Value) (n:Nat),Vals xs its/\xs.length=its.length/\s.heap.get? l=some { cls := .type "list",data := .seq its.toArray n }:=by
 obtain⟨z,its,n,r,e⟩:=I.aA l _ hH
 exact⟨z,its,n,r,r.length,e⟩
theorem MW(h:n<=sizeLine):Builtin.List.listTooLong n=false:=by
 unfold Builtin.List.listTooLong
 exact aI (by lia)
end
section
variable{X:Cx}
def WE:V->List V->Hp->VK->Prop:=λx vs H Q=>∃l xs y,x = .ref l/\vs=[y]/\H l=some (.lst xs)/\xs.length<sizeLine/\Q .aB (upd H l (.lst (xs++[y])))
theorem gS:MU X "list.append" WE:=by
 intro pins s O H x vs v us Q I rx rv h
 obtain⟨l,xs,y,rfl,rfl,hH,hz,q⟩:=h
 cases rx
 obtain⟨u,rfl,ru⟩:=rv.one
 obtain⟨z,its,n,r,hl,e⟩:=I.qw hH
 refine call_meets F.slot_list_append ⟨_,e,rfl⟩ F.entry_list_append (F.args_list_append_2 _ _) (PySem.list_append l its.toArray n u (by rw[br];lia)) ⟨e,?_⟩
 refine⟨.aB,_,I.MV (cA:=its++[u]) hH e (by simp) (r.append (.cons ru .nil)) ?_,rfl,q⟩
 rw[di,Eo]
 lia
def WG:V->List V->Hp->VK->Prop:=λx vs H Q=>∃l b xs zs,x = .ref l/\vs=[.ref b]/\H l=some (.lst xs)/\H b=some (.lst zs)/\xs.length+zs.length<=sizeLine/\Q .aB (upd H l (.lst (xs++zs)))
theorem WH:MU X "list.extend" WG:=by
 intro pins s O H x vs v us Q I rx rv h
 obtain⟨l,b,xs,zs,rfl,rfl,hH,hB,hz,q⟩:=h
 cases rx
 obtain⟨u,rfl,ru⟩:=rv.one
 cases ru
 obtain⟨z,its,n,r,hl,e⟩:=I.qw hH
 obtain⟨z2,sr,n2,r2,kZ,e2⟩:=I.qw hB
 have hsz:its.toArray.size+sr.toArray.size<=sizeLine:=by rw[br,br];lia
 have Fh:¬(!its.toArray.isEmpty&&Builtin.List.listTooLong (its.toArray.size+sr.toArray.size))=true:=by
  rw[MW hsz,uD]
  exact b8
 refine call_meets F.slot_list_extend ⟨_,e,rfl⟩ F.entry_list_extend (F.args_list_extend_2 _ _)
  (AutoSeq1.list_extend_list_list_0 l its.toArray n b sr.toArray n2 Fh (by rw[br];lia) (by lia)) ⟨e,e2,?_⟩
 refine⟨.aB,_,I.MV (cA:=its++sr) hH e (by simp) (r.append r2) ?_,rfl,q⟩
 rw[di]
 lia
def WI:R2:=λx y H Q=>∃l b xs zs,x = .ref l/\y = .ref b/\H l=some (.lst xs)/\H b=some (.lst zs)/\xs.length+zs.length<=sizeLine/\∀p,H p=none->Q (.ref p) (upd H p (.lst (xs++zs)))
theorem yg:cN X (binaryOp .Add) WI:=by
 intro pins s O H x y v u Q I rx ry h
 obtain⟨l,b,xs,zs,rfl,rfl,hH,hB,hz,q⟩:=h
 cases rx
 cases ry
 obtain⟨z,its,n,r,hl,e⟩:=I.qw hH
 obtain⟨z2,sr,n2,r2,kZ,e2⟩:=I.qw hB
 refine PySem.P.add_list e e2 ?_ (by rw[br,br];lia)
 have ea:its.toArray++sr.toArray=(its++sr).toArray:=by simp
 rw[ea]
 exact⟨.ref _,_,I.Fg (t':=s.toks) (r.append r2) (by rw[di];lia),rfl,q _ I.fresh⟩
def WJ:R2:=λx y H Q=>∃l k xs,x = .ref l/\y = .int k/\H l=some (.lst xs)/\ -(2 ^ 63)<=k/\k<2 ^ 63/\xs.length*k.toNat<=sizeLine/\
 ∀p,H p=none->Q (.ref p) (upd H p (.lst (List.replicate k.toNat xs).flatten))
def len_rep(xs:List α)(k:Nat):(List.replicate k xs).flatten.length=k*xs.length:=by
 induction k with
 |zero=>simp
 |succ k ih=>rw[pY,xw,di,ih,iN,Nat.add_comm]
theorem WK:cN X (binaryOp .Mult) WJ:=by
 intro pins s O H x y v u Q I rx ry h
 obtain⟨l,k,xs,rfl,rfl,hH,h1,h2,hz,q⟩:=h
 cases rx
 obtain⟨t,rfl⟩:=ry
 obtain⟨z,its,n,r,hl,e⟩:=I.qw hH
 have hlen:its.toArray.size*k.toNat<=sizeLine:=by rw[br,<-hl];exact hz
 have WL:¬its.toArray.size*k.toNat>(2 ^ 63 - 1) / 8:=by
  have:(sizeLine:Nat)<=(2 ^ 63 - 1) / 8:=by decide
  lia
 have dB:¬(!Builtin.List.listFitsIndex k)=true:=by
  rw[fitsIndex_both h1 h2]
  exact b8
 have Fh:¬Builtin.List.listTooLong (its.toArray.size*k.toNat)=true:=by
  rw[MW hlen]
  exact b8
 have Bj:List.foldl (λx1 x2=>x1++x2) #[] (List.replicate (if its.toArray.isEmpty=true then 0 else k.toNat) its.toArray)=(List.replicate k.toNat its).flatten.toArray:=by
  have f0:∀m:Nat,List.foldl (λx1 x2=>x1++x2) #[] (List.replicate m its.toArray)=(List.replicate m its).flatten.toArray:=λm=>by
   have:=foldl_rep its m []
   rw[Ep] at this
   exact this
  rw[f0]
  cases its with
  |nil=>simp
  |cons a r'=>rw[av (by simp)]
 refine wpAny_binaryOp_repeat_ref (T:="list") (U:="int") (by decide) ⟨_,e,rfl⟩ (λs'=>typeIs_int s' k t) noFill_list_mul F.fills_int_mul F.slot_int_rmul repeat_list F.slot_int_index.lookup
  (call_meets F.slot_int_rmul (typeIs_int s k t) F.entry_int_rmul (F.args_int_rmul_2 _ _) (int___rmul___int_list k t l its.toArray n)
   ⟨e,rfl,⟨_,e,rfl⟩,call_meets F.slot_list_mul ⟨_,e,rfl⟩ F.entry_list_mul (F.args_list_mul_2 _ _) (AutoListH.list___mul___list_int_3 l its.toArray n k t dB WL Fh) ⟨e,?_⟩⟩)
 rw[Bj]
 exact⟨.ref _,_,I.Fg (t':=s.toks) (r.rep k.toNat) (by rw[len_rep,qb];exact hz),rfl,q _ I.fresh⟩
end
section
variable{κ:Type}[DecidableEq κ]
noncomputable def aU(kvs:List (κ×V))(k:κ):Option V:=(kvs.find? λkv=>decide (kv.1=k)).map (·.2)
noncomputable def putK(kvs:List (κ×V))(k:κ)(v:V):List (κ×V):=
 if (kvs.any λkv=>decide (kv.1=k))=true then kvs.map (λkv=>if kv.1=k then (kv.1,v) else kv) else kvs++[(k,v)]
def lV{p:κ×V}{r:List (κ×V)}{k:κ}(e:p.1=k):aU (p::r) k=some p.2:=by simp[aU,uE,e]
def lW{p:κ×V}{r:List (κ×V)}{k:κ}(e:¬p.1=k):aU (p::r) k=aU r k:=by simp[aU,uE,e]
theorem sC(k:κ):∀kvs:List (κ×V),(kvs.any λkv=>decide (kv.1=k))=(aU kvs k).isSome
 |[]=>rfl
 |p::r=>by
  rw[AB]
  by_cases e:p.1=k
  .simp only[lV e,aJ e,Bool.true_or,Option.isSome_some]
  .rw[lW e,aI e,Bool.false_or];exact sC k r
theorem MX(k j:κ)(y:V):∀kvs:List (κ×V),aU (kvs.map λkv=>if kv.1=k then (kv.1,y) else kv) j=(aU kvs j).map λx=>if j=k then y else x
 |[]=>rfl
 |p::r=>by
  have ih:=MX k j y r
  rw[bS]
  by_cases h:p.1=k
  .rw[az h]
   by_cases e:p.1=j
   .rw[lV (p:=(p.1,y)) e,lV e,jd,az (e.symm.trans h)]
   .rw[lW (p:=(p.1,y)) e,lW e,ih]
  .rw[av h]
   by_cases e:p.1=j
   .rw[lV (p:=p) e,lV e,jd,av (λz=>h (e.trans z))]
   .rw[lW (p:=p) e,lW e,ih]
theorem MY(k j:κ)(y:V):∀kvs:List (κ×V),aU kvs k=none->aU (kvs++[(k,y)]) j=if j=k then some y else aU kvs j
 |[],_=>by
  by_cases e:k=j
  .rw[az e.symm];exact lV (p:=(k,y)) e
  .rw[av (λz=>e z.symm)];exact lW (p:=(k,y)) e
 |p::r,hn=>by
  rw[List.cons_append]
  have hk:¬p.1=k:=λz=>by rw[lV z] at hn;cases hn
  rw[lW hk] at hn
  have ih:=MY k j y r hn
  by_cases e:p.1=j
  .rw[lV e,lV e,av (λz=>hk (e.trans z))]
  .rw[lW e,lW e,ih]
def oi(kvs:List (κ×V))(k j:κ)(y:V):aU (putK kvs k y) j=if j=k then some y else aU kvs j:=by
 unfold putK
 by_cases a:(kvs.any λkv=>decide (kv.1=k))=true
 .rw[az a,MX]
  rw[sC] at a
  by_cases e:j=k
  .obtain⟨x,hx⟩:=Option.isSome_iff_exists.mp a
   rw[az e,e,hx,jd,az rfl]
  .rw[av e]
   cases aU kvs j with
   |none=>rfl
   |some x=>rw[jd,av e]
 .rw[av a]
  refine MY k j y kvs ?_
  rw[sC] at a
  cases q:aU kvs k with
  |none=>rfl
  |some x=>rw[q] at a;exact(a rfl).elim
theorem vm(kvs:List (κ×V))(k:κ)(v:V):(putK kvs k v).length<=kvs.length+1:=by
 unfold putK
 split
 .rw[aw];lia
 .rw[di,dO,El];lia
def vn{kvs:List (κ×V)}{k:κ}(v:V)(h:aU kvs k=none):putK kvs k v=kvs++[(k,v)]:=by
 unfold putK
 rw[sC,h]
 exact av (by decide)
def gb.yh{u:Option Value}(r:gb o u):o.isSome=u.isSome:=by
 cases o with
 |none=>cases u with
  |none=>rfl
  |some _=>exact(show False from r).elim
 |some _=>cases u with
  |none=>exact(show False from r).elim
  |some _=>rfl
theorem gb.getD{u:Option Value}{d:V}(r:gb o u)(rd:RelV d d'):RelV (o.getD d) (u.getD d'):=by
 cases o with
 |none=>cases u with
  |none=>exact rd
  |some _=>exact(show False from r).elim
 |some _=>cases u with
  |none=>exact(show False from r).elim
  |some _=>exact r
def KV.val{kvs:List (κ×V)}{vs:List (κ×Value)}(r:KV kvs vs)(k:κ):gb (aU kvs k) (valueAt vs k):=by
 unfold KV at r
 induction r with
 |nil=>exact True.intro
 |@cons p q ps qs h t ih=>
  obtain⟨h1,h2⟩:=h
  by_cases e:p.1=k
  .have e':q.1=k:=h1.symm.trans e
   have b:valueAt (q::qs) k=some q.2:=by simp[valueAt,uE,e']
   rw[lV e,b];exact h2
  .have e':¬q.1=k:=λz=>e (h1.trans z)
   have b:valueAt (q::qs) k=valueAt qs k:=by simp[valueAt,uE,e']
   rw[lW e,b];exact ih
theorem KV.any{kvs:List (κ×V)}{vs:List (κ×Value)}(r:KV kvs vs)(k:κ):(kvs.any λkv=>decide (kv.1=k))=vs.any λkv=>decide (kv.1=k):=by
 unfold KV at r
 induction r with
 |nil=>rfl
 |cons h t ih=>rw[AB,AB,ih,h.1]
def KV.Fi{kvs:List (κ×V)}{vs:List (κ×Value)}(r:KV kvs vs)(k:κ)(ry:RelV y u) :
  KV (kvs.map λkv=>if kv.1=k then (kv.1,y) else kv) (vs.map λkv=>if kv.1=k then (kv.1,u) else kv):=by
 unfold KV at r ⊢
 induction r with
 |nil=>exact .nil
 |@cons p q ps qs h t ih=>
  rw[bS,bS]
  refine .cons ?_ ih
  obtain⟨h1,h2⟩:=h
  by_cases e:p.1=k
  .rw[az e,az (h1.symm.trans e)];exact⟨h1,ry⟩
  .rw[av e,av (λz=>e (h1.trans z))];exact⟨h1,h2⟩
def KV.put{kvs:List (κ×V)}{vs:List (κ×Value)}(r:KV kvs vs)(k:κ)(ry:RelV y u):KV (putK kvs k y) (stored vs k u):=by
 unfold putK stored
 rw[r.any k]
 by_cases e:(vs.any λkv=>decide (kv.1=k))=true
 .rw[az e,az e];exact r.Fi k ry
 .rw[av e,av e];exact lJ r ⟨rfl,ry⟩
theorem KV.length{kvs:List (κ×V)}{vs:List (κ×Value)}(r:KV kvs vs):kvs.length=vs.length:=gE r
end
def vo{k:Key}(r:RelV (kV k) u):(dQ P w).is k u=true:=by
 cases k with
 |inl i=>obtain⟨t,e⟩:=(show ∃t,u=Value.int i t from r);subst e;exact UU P w i t
 |inr x=>obtain⟨t,e⟩:=(show ∃t,u=Value.str x t from r);subst e;exact UW P w x t
theorem MZ{P:Program}{w:World}:∀{ks:List Key}{us:List Value},Vals (ks.map kV) us->ItemsAre (dQ P w) ks us
 |[],_,r=>by rw[uF] at r;cases r;exact .nil
 |k::ks,_,r=>by
  rw[bS] at r
  cases r with
  |cons h t=>exact .cons (vo h) (MZ t)
abbrev KT(H:Hp):List (List Key×V)->List (List Key×Addr×Value)->Prop:=Paired λp q=>p.1=q.1/\H q.2.1=some (.tup (p.1.map kV))/\RelV p.2 q.2.2
def KT.val(r:KT H kvs xs)(k:List Key):gb (aU kvs k) ((atKey xs k).map (·.2)):=by
 induction r with
 |nil=>exact True.intro
 |@cons p q ps qs h t ih=>
  obtain⟨h1,_,h2⟩:=h
  by_cases e:p.1=k
  .have e':q.1=k:=h1.symm.trans e
   have b:atKey (q::qs) k=some q.2:=by simp[atKey,uE,e']
   rw[lV e,b];exact h2
  .have e':¬q.1=k:=λz=>e (h1.trans z)
   have b:atKey (q::qs) k=atKey qs k:=by simp[atKey,uE,e']
   rw[lW e,b];exact ih
def KT.Fi(r:KT H kvs xs)(k:List Key)(ry:RelV y u) :
  KT H (kvs.map λkv=>if kv.1=k then (kv.1,y) else kv) (xs.map (putAt k u)):=by
 induction r with
 |nil=>exact .nil
 |@cons p q ps qs h t ih=>
  rw[bS,bS]
  refine .cons ?_ ih
  obtain⟨h1,h2,h3⟩:=h
  unfold putAt
  by_cases e:p.1=k
  .rw[az e,az (h1.symm.trans e)];exact⟨h1,h2,ry⟩
  .rw[av e,av (λz=>e (h1.trans z))];exact⟨h1,h2,h3⟩
def KT.put(r:KT H kvs xs)(k:List Key)(hb:H b=some (.tup (k.map kV)))(ry:RelV y u) :
  KT H (putK kvs k y) (storedH xs k b u):=by
 have e:(kvs.any λkv=>decide (kv.1=k))=(atKey xs k).isSome:=by
  rw[sC,(r.val k).yh,Option.isSome_map]
 unfold putK storedH
 rw[e]
 by_cases q:(atKey xs k).isSome=true
 .rw[az q,az q];exact r.Fi k ry
 .rw[av q,av q];exact lJ r ⟨rfl,hb,ry⟩
def KT.keeps(r:KT H kvs xs)(ht:∀b ys,H b=some (.tup ys)->H' b=some (.tup ys)):KT H' kvs xs:=
 Paired.bU r λ_ _ z=>⟨z.1,ht _ _ z.2.1,z.2.2⟩
section
variable{P:Program}{w:World}{H:Hp}{h:Heap}{a:Addr}
def M0{u:HO}(ok:dr P w H h)(e:Rd H a u):da P w H h a u:=e.ok ok
def sD{kvs:List (Key×V)}(ok:dr P w H h)(e:Rd H a (.dK kvs)):kvs.length<=sizeLine/\(a==sysModules)=false/\∃vs,KV kvs vs/\h.DictOf (dQ P w) a vs:=
 show da P w H h a (.dK kvs) from M0 ok e
def WM{kvs:List (Key×V)}(ok:dr P w H h)(e:H a=some (.dK kvs)):kvs.length<=sizeLine/\(a==sysModules)=false/\∃vs,KV kvs vs/\h.DictOf (dQ P w) a vs:=sD ok (.inl e)
def sF(ok:dr P w H h)(e:H a=some (.tup (ks.map kV))):(tupleKind (dQ P w)).is h ks a:=by
 obtain⟨_,its,r,o,h1,h2,n,h3⟩:=(show da P w H h a (.tup (ks.map kV)) from ok a _ e)
 exact⟨o,its.toArray,n,h1,h2,h3,by simpa using MZ r⟩
def sG(ok:dr P w H h)(e:Rd H a (.dT kvs)):kvs.length<=sizeLine/\(a==sysModules)=false/\
  ∃xs,KT H kvs xs/\h.DictOfH (tupleKind (dQ P w)) a xs:=by
 obtain⟨z,y,xs,r,o,es,ep,h1,h2,h3,h4,h5⟩:=(show da P w H h a (.dT kvs) from M0 ok e)
 refine⟨z,y,xs,r,o,es,ep,h1,h2,h3,h4,λx hx=>?_,h5⟩
 have all:∀{l:List (List Key×V)}{m:List (List Key×Addr×Value)},KT H l m->∀x∈m,(tupleKind (dQ P w)).is h x.1 x.2.1:=by
  intro l m q
  induction q with
  |nil=>intro x hx;exact nomatch hx
  |@cons p q ps qs hq t ih=>
   intro x hx
   rcases cw.mp hx with e | hx
   .subst e
    exact sF ok (by rw[<-hq.1];exact hq.2.1)
   .exact ih x hx
 exact all r x hx
def M1(ok:dr P w H h)(e:H a=some (.dT kvs)):kvs.length<=sizeLine/\(a==sysModules)=false/\
  ∃xs,KT H kvs xs/\h.DictOfH (tupleKind (dQ P w)) a xs:=sG ok (.inl e)
end
def dY(H:Hp)(a:Addr)(y:V)(r:Option V):Prop:=
 (∃kvs k,Rd H a (.dK kvs)/\y=kV k/\r=aU kvs k)\/∃kvs k b,Rd H a (.dT kvs)/\y = .ref b/\H b=some (.tup (k.map kV))/\r=aU kvs k
def lX(H:Hp)(a:Addr)(y v:V)(H':Hp):Prop:=
 (∃kvs k,H a=some (.dK kvs)/\y=kV k/\kvs.length<sizeLine/\H'=upd H a (.dK (putK kvs k v)))\/
 ∃kvs k b,H a=some (.dT kvs)/\y = .ref b/\H b=some (.tup (k.map kV))/\kvs.length<sizeLine/\H'=upd H a (.dT (putK kvs k v))
theorem dY.k{H:Hp}{a:Addr}{kvs:List (Key×V)}{k:Key}(e:H a=some (.dK kvs)):dY H a (kV k) (aU kvs k) := .inl ⟨kvs,k,.inl e,rfl,rfl⟩
def dY.t{k:List Key}(e:H a=some (.dT kvs))(eb:H b=some (.tup (k.map kV))):dY H a (.ref b) (aU kvs k) := .inr ⟨kvs,k,b,.inl e,rfl,eb,rfl⟩
theorem lX.k{H:Hp}{a:Addr}{kvs:List (Key×V)}{k:Key}{v:V}(e:H a=some (.dK kvs))(hl:kvs.length<sizeLine):lX H a (kV k) v (upd H a (.dK (putK kvs k v))) := .inl ⟨kvs,k,e,rfl,hl,rfl⟩
def lX.t{k:List Key}{v:V}(e:H a=some (.dT kvs))(eb:H b=some (.tup (k.map kV)))(hl:kvs.length<sizeLine) :
  lX H a (.ref b) v (upd H a (.dT (putK kvs k v))) := .inr ⟨kvs,k,b,e,rfl,eb,hl,rfl⟩
section
variable{X:Cx}{pins:List (Addr×Obj)}{O:St}{H:Hp}{s:Shared}{a:Addr}{y v:V}{u r:Value}{o:Option V}{A:Around}{E:Value->Shared->Prop}
def Inv.big(I:Inv X pins O H s):sysModules<s.heap.objs.size:=by
 have h:mainGlobals<s.heap.objs.size:=(I.mod.glob.keeps I.bk).lt
 exact Nat.lt_trans (by decide) h
def WN(hu:A.units+1<cLine)(I:Inv X pins O H s)(g:dY H a y (some v))(ry:RelV y u)(h:∀w' s',Inv X pins O H s'->RelV v w'->Q w' s') :
  wpAny (model X.prog X.w) A (getItem (.ref a) u) Q E s:=by
 rcases g with ⟨kvs,k,e,ey,l⟩ | ⟨kvs,k,b,e,ey,eb,l⟩
 .subst ey
  obtain⟨z,hd,vs,rel,dd⟩:=sD I.aA e
  obtain⟨w',hw,lU⟩:=gb.some_of (v:=v) (o:=valueAt vs k) (by rw[l];exact rel.val k)
  exact wpAny_getItem_of (vo ry) dd.mapOf hw (h w' _ (I.tok _) lU)
 .subst ey
  cases(show u=Value.ref b from ry)
  obtain⟨z,hd,xs,rel,dd⟩:=sG I.aA e
  obtain⟨w',hw,lU⟩:=gb.some_of (v:=v) (o:=(atKey xs k).map (·.2)) (by rw[l];exact rel.val k)
  obtain⟨p,hp,gk⟩:=iO.mp hw
  refine wpAny_getItem_heap (AD hu) (sF I.aA eb) dd hp ?_
  rw[gk]
  exact h w' _ (I.tok _) lU
def WO(hu:A.units+1<cLine)(I:Inv X pins O H s)(g:dY H a y o)(ry:RelV y u)(h:∀s',Inv X pins O H s'->Q (.bool o.isSome) s') :
  wpAny (model X.prog X.w) A (compareOp .In u (.ref a)) Q E s:=by
 rcases g with ⟨kvs,k,e,ey,l⟩ | ⟨kvs,k,b,e,ey,eb,l⟩
 .subst ey
  obtain⟨z,hd,vs,rel,dd⟩:=sD I.aA e
  refine wpAny_in_of (vo ry) hd dd.mapOf ?_
  rw[<-(rel.val k).yh,<-l]
  exact h _ (I.tok _)
 .subst ey
  cases(show u=Value.ref b from ry)
  obtain⟨z,hd,xs,rel,dd⟩:=sG I.aA e
  refine wpAny_in_heap (AD hu) (sF I.aA eb) hd dd ?_
  have q:=(rel.val k).yh
  rw[Option.isSome_map] at q
  rw[<-q,<-l]
  exact h _ (I.tok _)
def WQ(hu:A.units+1<cLine)(I:Inv X pins O H s)(g:dY H a y o)(ry:RelV y u)(h:∀s',Inv X pins O H s'->Q (.bool (!o.isSome)) s') :
  wpAny (model X.prog X.w) A (compareOp .NotIn u (.ref a)) Q E s:=by
 rcases g with ⟨kvs,k,e,ey,l⟩ | ⟨kvs,k,b,e,ey,eb,l⟩
 .subst ey
  obtain⟨z,hd,vs,rel,dd⟩:=sD I.aA e
  refine wpAny_notIn_of (vo ry) hd dd.mapOf ?_
  rw[<-(rel.val k).yh,<-l]
  exact h _ (I.tok _)
 .subst ey
  cases(show u=Value.ref b from ry)
  obtain⟨z,hd,xs,rel,dd⟩:=sG I.aA e
  refine wpAny_notIn_heap (AD hu) (sF I.aA eb) hd dd ?_
  have q:=(rel.val k).yh
  rw[Option.isSome_map] at q
  rw[<-q,<-l]
  exact h _ (I.tok _)
def Fj{ob:HO}(I:Inv X pins O H s)(mu:xJ (H a))(hs:Heap.SameBut a s.heap h')(he:∃q,h'.get? a=some q)(new:da X.prog X.w (upd H a ob) h' a ob) :
  Inv X pins O (upd H a ob) { s with heap:=h',toks:=t' } :=
 I.write (x:=a) (e:=a) mu (.inl rfl) (λb q hb z=>(hs.2 b hb).trans z) he new
def M3{kvs:List (Key×V)}(z:kvs.length<=sizeLine)(hd:(a==sysModules)=false)(rel:KV kvs vs)(dd:h'.DictOf (dQ P w) a vs) :
  da P w H' h' a (.dK kvs):=⟨z,hd,vs,rel,dd⟩
theorem WR{Q:Unit->Shared->Prop}(hu:A.units+1<cLine)(I:Inv X pins O H s)(g:lX H a y v H')(ry:RelV y u)(rv:RelV v r)(h:∀s',Inv X pins O H' s'->Q () s') :
  wpAny (model X.prog X.w) A (setItem (.ref a) u r) Q E s:=by
 rcases g with ⟨kvs,k,e,ey,l,eH⟩ | ⟨kvs,k,b,e,ey,eb,l,eH⟩
 .subst ey eH
  obtain⟨z,hd,vs,rel,dd⟩:=WM I.aA e
  have hz:vs.length<=sizeLine:=by rw[<-rel.length];exact z
  have hl:(putK kvs k v).length<=sizeLine:=by have:=vm kvs k v;lia
  refine wpAny_setItem_pairs (hsz:=hz) (vo ry) dd λh' sH hs=>h _ ?_
  have he:∃q,h'.get? a=some q:=let ⟨q,_,_,hq,_⟩:=sH;⟨q,hq⟩
  exact Fj I (by rw[e];exact True.intro) hs he (M3 hl hd (rel.put k rv) sH)
 .subst ey eH
  cases(show u=Value.ref b from ry)
  obtain⟨z,hd,xs,rel,dd⟩:=M1 I.aA e
  have hz:xs.length<=sizeLine:=by rw[<-gE rel];exact z
  have hl:(putK kvs k v).length<=sizeLine:=by have:=vm kvs k v;lia
  refine wpAny_setItem_heap (hsz:=hz) (AD hu) (sF I.aA eb) dd λh' sH hs=>h _ ?_
  obtain⟨q,es,ep,hq,h2,h3,h4,_,h5⟩:=sH
  refine Fj I (by rw[e];exact True.intro) hs ⟨q,hq⟩ ⟨hl,hd,_,(rel.put k eb rv).keeps λc ys ec=>?_,q,es,ep,hq,h2,h3,h4,h5⟩
  rw[ar (bT ec e (λz=>nomatch z))]
  exact ec
end
def M5(i:Expr):Prop := ∀ov iv,subscripted i false ov iv=operate [ov,iv] (getItem ov iv)
def WS{env:Env}{value slice:Expr}{pos:Pos}{id:String}
  (hl:typeLookup (.type T) "__getitem__"=pure (some (.builtin id))) (hs:M5 slice)
  (h:wpAny (model prog w) A (eval value env) (λo s₁=>wpAny (model prog w) A (eval slice env) (λi s₂=>s₂.TypeIs o T/\wpAny (model prog w) A (getItem o i) Q E s₂) E s₁) E s) :
  wpAny (model prog w) A (eval (.Subscript value slice pos) env) Q E s:=by
 refine Subscript_ (gF h (λo s₁ h₁=>gF h₁ (λi s₂ h₂=>?_) λ_ _ x=>x) λ_ _ x=>x)
 obtain⟨hT,h₂⟩:=h₂
 unfold subscriptTail
 refine ah ?_
 rw[getitemInPython_of_ne hT.not_modules]
 refine ah (Ly hT hl ?_)
 have fin:wpAny (model prog w) A (subscripted slice false o i) (λr s₃=>wpAny (model prog w) A (letTemporaryGo value o r >>= λ_=>pure r) Q E s₃) E s₂:=by
  rw[hs o i]
  exact wpAny_operating (gF h₂ (λr s₃ h₃=>ah (wpAny_letTemporaryGo (aL h₃))) λ_ _ x=>x)
 first
  |exact aL (ah fin)
  |exact ah (aL (ah fin))
  |exact ah fin
def WT(I:Inv X pins O H s)(g:dY H a y o):s.TypeIs (.ref a) "dict":=by
 rcases g with ⟨kvs,k,e,_,_⟩ | ⟨kvs,k,b,e,_,_,_⟩
 .obtain⟨_,_,vs,_,dd⟩:=sD I.aA e
  exact dd.typeIs
 .obtain⟨_,_,xs,_,dd⟩:=sG I.aA e
  exact dd.typeIs
def WU(td ty:TE):TE:=λO H Q=>td O H λx H1=>ty O H1 λy H2=>∃a v,x = .ref a/\dY H2 a y (some v)/\Q v H2
def WV(ty td:TE):TE:=λO H Q=>ty O H λy H1=>td O H1 λx H2=>∃a o,x = .ref a/\dY H2 a y o/\Q (.bl o.isSome) H2
def WW(ty td:TE):TE:=λO H Q=>ty O H λy H1=>td O H1 λx H2=>∃a o,x = .ref a/\dY H2 a y o/\Q (.bl (!o.isSome)) H2
def WX(td ty tv:TE):TS:=λD O H=>tv O H λv H1=>td O H1 λx H2=>ty O H2 λy H3=>∃a H4,x = .ref a/\lX H3 a y v H4/\D.nx O H4
section
variable{X:Cx}{o i e value:Expr}{pos pos' oa:Pos}{td ty tv:TE}
def Fp(hu:X.A.units+1<cLine)(ho:PE X o td)(hi:PE X i ty)(hs:M5 i):PE X (.Subscript o i pos) (WU td ty):=by
 intro pins s O H Q I h
 refine WS PySem.F.slot_dict_getitem.lookup hs (aC (ho pins s O H _ I h) λu s1 ⟨x,H1,I1,rx,q1⟩=>aC (hi pins s1 O H1 _ I1 q1) λiv s2 h_=>?_)
 obtain⟨y,H2,I2,ry,a,v,ex,g,q2⟩:=h_
 subst ex
 obtain rfl:u=Value.ref a:=rx
 exact⟨WT I2 g,WN hu I2 g ry λw' s3 I3 lU=>⟨v,H2,I3,lU,q2⟩⟩
def Bk(hu:X.A.units+1<cLine)(hi:PE X i ty)(ho:PE X o td):PC X .In i o (WV ty td):=by
 intro pins s O H Q I h
 refine aC (hi pins s O H _ I h) λiv s1 ⟨y,H1,I1,ry,q1⟩=>aC (ho pins s1 O H1 _ I1 q1) λu s2 h_=>?_
 obtain⟨x,H2,I2,rx,a,ov,ex,g,q2⟩:=h_
 subst ex
 obtain rfl:u=Value.ref a:=rx
 exact WO hu I2 g ry λs3 I3=>⟨.bl ov.isSome,H2,I3,rfl,q2⟩
def M6(hu:X.A.units+1<cLine)(hi:PE X i ty)(ho:PE X o td):PC X .NotIn i o (WW ty td):=by
 intro pins s O H Q I h
 refine aC (hi pins s O H _ I h) λiv s1 ⟨y,H1,I1,ry,q1⟩=>aC (ho pins s1 O H1 _ I1 q1) λu s2 h_=>?_
 obtain⟨x,H2,I2,rx,a,ov,ex,g,q2⟩:=h_
 subst ex
 obtain rfl:u=Value.ref a:=rx
 exact WQ hu I2 g ry λs3 I3=>⟨.bl (!ov.isSome),H2,I3,rfl,q2⟩
def yi(hu:X.A.units+1<cLine)(ho:PE X o td)(hi:PE X i ty)(hv:PE X value tv)(hs:swapsWith value (some (.Subscript o i pos')) pos.line X.env=pure false) :
  PS X (.Assign [.Subscript o i pos'] value pos) (WX td ty tv):=by
 intro pins s O H D I h
 refine wpAny_Assign_Subscript (aC (hv pins s O H _ I h) λr s1 ⟨v,H1,I1,rv,q1⟩=>aC (ho pins s1 O H1 _ I1 q1) λu s2 ⟨x,H2,I2,rx,q2⟩=>aC (hi pins s2 O H2 _ I2 q2) λiv s3 ⟨y,H3,I3,ry,a,H4,ex,g,q3⟩=>?_) hs
 subst ex
 obtain rfl:u=Value.ref a:=rx
 exact WR hu I3 g ry rv λs4 I4=>⟨O,H4,I4,q3⟩
end
def WY(h:Heap)(hb:sysModules<h.objs.size):da P w H (h.push { cls := .type "dict",data := .dict #[] }) h.objs.size (.dK []):=
 ⟨bG _,uy.mpr (bo (bR hb)),[],.nil,Heap.DictOf.new h⟩
def WZ(h:Heap)(hb:sysModules<h.objs.size):da P w H (h.push { cls := .type "dict",data := .dict #[] }) h.objs.size (.dT []):=
 ⟨bG _,uy.mpr (bo (bR hb)),[],.nil,_,#[],0,cz _ rfl,⟨rfl,rfl,rfl⟩,rfl,rfl,je⟩
def W0:TE:=λ_ H Q=>∀p,H p=none->Q (.ref p) (upd H p (.dK []))
def W2:TE:=λ_ H Q=>∀p,H p=none->Q (.ref p) (upd H p (.dT []))
section
variable{X:Cx}{pos:Pos}
def Bm:PE X (.Dict [] [] pos) W0:=λpins s O H Q I h=>
 wpAny_Dict_empty ⟨.ref s.heap.objs.size,_,I.laid (a:=s.heap.objs.size) (o := .dK []) (t':=s.toks) (λ_ _ q=>bu _ q) (aO _) (WY s.heap I.big),rfl,h _ (I.aA.fresh (aO _))⟩
def M7:PE X (.Dict [] [] pos) W2:=λpins s O H Q I h=>
 wpAny_Dict_empty ⟨.ref s.heap.objs.size,_,I.laid (a:=s.heap.objs.size) (o := .dT []) (t':=s.toks) (λ_ _ q=>bu _ q) (aO _) (WZ s.heap I.big),rfl,h _ (I.aA.fresh (aO _))⟩
end
structure M2(X:Cx)(o:Expr)(m:Str)(apos:Pos)(e f:Expr)(dM:Pos):Prop where
 base:attributeBase o m X.env (eval o X.env)=eval o X.env
 eM:((backTo dM (starEach [e,f] X.env)).all (λx=>!x.1)&&(backToKw dM (keywordEach [] X.env)).all (λx=>x.1.isSome)
  && decide (([e,f]:List Expr).length+([]:List Keyword).length+(if ([]:List Keyword).isEmpty then 0 else 1)<30))=true
 line:(apos.endLine==dM.line)=true
 trees:backTo dM (starEach [e,f] X.env)=[(false,eval e X.env),(false,eval f X.env)]
def Fq(H:Hp)(a:Addr):Prop:=(∃kvs,Rd H a (.dK kvs))\/∃kvs,Rd H a (.dT kvs)
def M8(I:Inv X pins O H s)(d:Fq H a) :
  s.TypeIs (.ref a) "dict"/\(∀b,Value.ref a = .ref b->∃ob,s.heap.get? b=some ob/\ob.dict=none)/\(a==sysModules)=false:=by
 rcases d with ⟨kvs,e⟩ | ⟨kvs,e⟩
 .obtain⟨_,hd,vs,_,dd⟩:=sD I.aA e
  refine⟨dd.typeIs,λb q=>?_,hd⟩
  cases q
  obtain⟨ob,_,_,h1,h2,_⟩:=dd
  exact⟨ob,h1,h2.2.1⟩
 .obtain⟨_,hd,xs,_,dd⟩:=sG I.aA e
  refine⟨dd.typeIs,λb q=>?_,hd⟩
  cases q
  obtain⟨ob,_,_,h1,h2,_⟩:=dd
  exact⟨ob,h1,h2.2.1⟩
section
variable{X:Cx}{pins:List (Addr×Obj)}{O:St}{H:Hp}{s:Shared}{a:Addr}{y d:V}{u r:Value}{o:Option V}{A:Around}{E:Value->Shared->Prop}
def W3(hu:A.units+1<cLine)(I:Inv X pins O H s)(g:dY H a y o)(ry:RelV y u)(rd:RelV d r)(h:∀w' s',Inv X pins O H s'->RelV (o.getD d) w'->Q w' s') :
  wpAny (model X.prog X.w) A (call (.builtin "dict.get") [.ref a,u,r]) Q E s:=by
 rcases g with ⟨kvs,k,e,ey,l⟩ | ⟨kvs,k,b,e,ey,eb,l⟩
 .subst ey
  obtain⟨z,hd,vs,rel,dd⟩:=sD I.aA e
  refine call_meetsIn UB dd.typeIs PySem.F.entry_dict_get (PySem.F.args_dict_get_3 _ _ _) (meets_dict_get_default (dQ X.prog X.w) a (vo ry) hd r) ⟨_,dd.mapOf,h _ _ (I.tok _) ?_⟩
  rw[l]
  exact(rel.val k).getD rd
 .subst ey
  cases(show u=Value.ref b from ry)
  obtain⟨z,hd,xs,rel,dd⟩:=sG I.aA e
  refine call_meetsIn UB dd.typeIs PySem.F.entry_dict_get (PySem.F.args_dict_get_3 _ _ _) (meetsH_dict_get_default (tupleKind (dQ X.prog X.w)) a b hd r) ⟨AD hu,k,xs,sF I.aA eb,dd,h _ _ (I.tok _) ?_⟩
  rw[l]
  exact(rel.val k).getD rd
end
def W4(td ty tx:TE):TE:=λO H Q=>td O H λx H1=>∃a,x = .ref a/\Fq H1 a/\ty O H1 λy H2=>tx O H2 λz H3=>∃o,dY H3 a y o/\Q (o.getD z) H3
section
variable{X:Cx}{o e f:Expr}{apos dM:Pos}{td ty tx:TE}
def M9(hu:X.A.units+1<cLine)(ho:PE X o td)(he:PE X e ty)(hf:PE X f tx)(m:M2 X o "get" apos e f dM):PE X (.Call (.Attribute o "get" apos) [e,f] [] dM) (W4 td ty tx):=by
 intro pins s O H Q I h
 refine wpAny_Call_method m.base m.eM m.line PySem.F.plainAttrs_dict UB PySem.F.type_dict_get (aC (ho pins s O H _ I h) λu s1 h_=>?_)
 obtain⟨x,H1,I1,rx,a,ex,d,q1⟩:=h_
 subst ex
 obtain rfl:u=Value.ref a:=rx
 obtain⟨t1,t2,_⟩:=M8 I1 d
 refine⟨t1,t2,?_⟩
 rw[m.trees]
 refine Uz rfl (UA (Eh (aC (he pins s1 O H1 _ I1 q1) λiv s2 ⟨y,H2,I2,ry,q2⟩=>
  Eh (aC (hf pins s2 O H2 _ I2 q2) λfv s3 ⟨z,H3,I3,rz,ov,g,q3⟩=>Calls.spliced_nil ?_))))
 exact W3 hu I3 g ry rz λw' s4 I4 lU=>⟨_,H3,I4,lU,q3⟩
end
end L2
namespace lb
open PySem PySem.W PySem.Calls PyProof.Rows
variable{P:Params}{h:Heap}{l:OpenLaw}{n:Nat}{args:List WData}{vals:List Value}{q:Program}{loose:List Str}{XP:(Str->Option Value)->Heap->Prop}{YP:World->Heap->Prop}{d:DefRec}{L:Addr}{m:Str->Option Value}
def W5:∀(ns:List Int) (vs:List Value),WellAll P h vs (ns.map WData.int)->IntsAre vs ns:=by
 intro ns
 induction ns with
 |nil=>
  intro vs w
  rw[uF] at w
  cases w
  exact .nil
 |cons n ns ih=>
  intro vs w
  rw[bS] at w
  cases w with
  |cons a b=>
   cases a
   exact .cons _ _ (ih _ b)
theorem W6(hn:l.most=some n)
  (Bn:l.row.toRowW.claim.pre args=true) (sI:WellAll P h vals args) :
  ∃a vs ns,vals=[Value.ref a]/\args=[WData.list (ns.map WData.int)]/\h.get? a=some { cls := .type "list",data := .seq vs.toArray }/\IntsAre vs ns/\ns.length<=n:=by
 have W7:WShape.hasAll [] args [.list .int]=true:=(pre_splitW Bn).1
 have hc:l.pre.holds [] { args:=args }=true:=(pre_splitW Bn).2
 obtain⟨d,r,rfl,h1,h2⟩:=hasAllW_cons W7
 obtain rfl:=hasAllW_nil h2
 obtain⟨xs,rfl,h3⟩:=hasW_list h1
 obtain⟨ns,rfl⟩:=items_int h3
 have hlen:ns.length<=n:=by
  unfold OpenLaw.pre at hc
  have h4:(WTm.not (.lt (.lit (.int (n:Int))) (.len (.arg 0)))).holds [] { args:=[.list (ns.map .int)] }=true:=by
   have h4:=(holds_andW hc).1
   rw[hn] at h4
   exact h4
  have h5:=condW_of h4 (w_not (w_lt w_lit (w_len_list (w_arg rfl))))
  rw[aw] at h5
  refine Lz λq=>?_
  have q':(n:Int)<((ns.length:Nat):Int):=by lia
  first
   |(rw[aJ q'] at h5;exact absurd h5 (by decide))
   |(simp at h5;lia)
 cases sI with
 |cons w1 w2=>
  cases w2
  cases w1 with
  |list ho gT=>exact⟨_,_,ns,rfl,rfl,ho,W5 ns _ gT,hlen⟩
def W8(l:OpenLaw)(args:List WData):l.row.toRowW.claim.post args (.bool true) args=true:=
 postW_of (r:=l.row.toRowW) (X:=(true==true))
  (show WShape.has [] (.bool true) .bool=true by first | rfl | decide | simp[WShape.has,WShape.arms,WShape.armsAll])
  (show(WTm.eq .res (.lit (.bool true))).value [] { args:=args,res:=some (.bool true),after:=args }=some (.bool (true==true)) from w_eq_bool (w_res rfl) w_lit) rfl
def W9
  (hn:l.most=some n) (yj:d.params.defaults=[])
  (call:∀(w:World) (s₀ s₁:Shared) (mg mb:Str->Option Value) (fa:Addr) (o:Obj) (pm cd doc:Value) (a:Addr) (vs:List Value) (ns:List Int),
   Ground q loose [] XP w s₀ mg mb s₁.heap->YP w s₁.heap->
   s₁.heap.get? fa=some o->o.data = .func (docDef d.name d.params d.body d.scope pm cd doc)->s₁.heap.CodeRec cd d.name->mg d.name=some (.ref fa)->
   s₁.heap.get? a=some { cls := .type "list",data := .seq vs.toArray }->IntsAre vs ns->ns.length<=n->s₁.gens = #[]->
   codeAny (model l.prog w) callerA (.call (.ref fa) ⟨[.ref a],[]⟩) (λr s'=>r = .ok (.ret (.bool true))/\OldK s₁.heap s'.heap/\s'.os=s₁.os/\AllBare s'.gens) s₁) :
  WalkO q loose XP YP l.row.toRowW d [] (λf vs=>PySem.call f vs):=by
 intro w s₀ s₁ mg mb G Y fa o pm cd doc dV kV ho hd ij hD hmg hg args vals as Bn aiF hrd sI lY
 obtain rfl:dV = .none:=Dflts.none hD yj
 obtain rfl:kV = .none:=Dflts.noKw hD
 obtain⟨a,vs,ns,rfl,rfl,Fs,hints,hlen⟩:=W6 hn Bn sI
 refine enter_call (uB (call w s₀ s₁ mg mb fa o pm cd doc a vs ns G Y ho (fd_plain hd) ij hmg Fs hints hlen hg) λr s' hq=>?_)
 obtain⟨rfl,h2,h3,h4⟩:=hq
 exact⟨.inl ⟨.bool true,.bool true,[],rfl,λ_=>rfl,.bool true,W8 l _,λ_=>⟨List.Pairwise.nil,λ_ hm=>(nomatch hm)⟩⟩,h2,h3,h4⟩
section
variable{prog:Program}{w:World}{A:Around}{E:Value->Shared->Prop}{s:Shared}{K:Frag}
noncomputable def Bo(h:Heap):Heap:={ h with objs := #[] }
def Bp(h:Heap)(b:Addr):(Bo h).get? b=none:=by
 cases e:(Bo h).get? b with
 |none=>rfl
 |some o=>exact absurd (bA e) (ic _)
noncomputable def ledger(h:Heap)(L d:Addr):List (Addr×Obj):=(List.range h.objs.size).filterMap λa=>if a=L\/a=d then none else (h.get? a).map λo=>(a,o)
def Ft{d a:Addr}{o:Obj}:(a,o)∈ledger h L d↔a≠L/\a≠d/\h.get? a=some o:=by
 unfold ledger
 rw[List.mem_filterMap]
 constructor
 .rintro⟨b,_,e⟩
  split at e
  .cases e
  .rename_i hb
   obtain⟨o',ho,e'⟩:=iO.mp e
   cases e'
   exact⟨λq=>hb (.inl q),λq=>hb (.inr q),ho⟩
 .rintro⟨n1,n2,ho⟩
  refine⟨a,iK.mpr (bA ho),?_⟩
  rw[av (show ¬(a=L\/a=d) from λq=>q.elim n1 n2),ho] <;> rfl
def Xa(n:h.Ns L m):Fr (Bo h) L h m:=
 ⟨n,λb o e=>(by rw[Bp] at e;cases e),bG _⟩
end
end lb
namespace L2
open PySem PySem.Spec PyProof.Rows
variable{P q:Program}{w:World}{K:Frag}{mb mg:Str->Option Value}{CX:World->lQ}{a f:Addr}{fd:FuncData}{qual x:Str}{sp:Sp}{s₁:Shared}{vs:List Value}{ns:List Int}{l:OpenLaw}{n:Nat}{loose ps:List Str}{XP:(Str->Option Value)->Heap->Prop}{YP:World->Heap->Prop}{d:DefRec}{st:Stmt}{oc:Value}{an od:Option Addr}{jX:Array (Option Value)}{A B:Prop}{H H':Hp}{xs:List V}
theorem Na:∀{vs:List Value}{ns:List Int},IntsAre vs ns->Vals (ns.map V.int) vs
 |_,_,.nil=>.nil
 |_,_,.cons n t h=>.cons ⟨t,rfl⟩ (Na h)
def Fu(H:Hp):Prop := ∀b,H b=none\/∃o xs,H b=some (.eA o (.lst xs))
def Xb{CX:lQ}{k:Nat}{fa:Addr}
  (KX:K.In s₁.heap) (Nb:s₁.heap.Ns mainGlobals mg) (hb:s₁.heap.Ns builtinsNs mb) (yk:∀x:Str,x≠"__name__"->mb x=bootBuiltins x) (Xc:s₁.heap.NoLimit) (hg:s₁.gens = #[])
  (ha:s₁.heap.get? a=some { cls := .type "list",data := .seq vs.toArray }) (hi:IntsAre vs ns) (hl:ns.length<=sizeLine) (hr:bZ k callerA)
  (F:∀base:Heap,K.In base->base.Ns mainGlobals mg->aK P w K mg base CX k fa fd [x] sp) (Xd:∀(s:Shared) (u:Value),BindsTo s fd ⟨[u],[]⟩ [(x,u)])
  (kX:∀H:Hp,Fu H->aj K H a (ns.map V.int)->sp [.ref a] H (λv _=>v = .bl true) λ_ _ _=>False)
  (Fv:∀H e s',CX [] H s₁ (λ_ _ _=>False) e s'->False) :
  codeAny (model P w) callerA (.call (.ref fa) ⟨[.ref a],[]⟩) (λr s'=>r = .ok (.ret (.bool true))/\OldK s₁.heap s'.heap/\s'.os=s₁.os/\AllBare s'.gens) s₁:=by
 have rv:=Na hi
 have Xe:=hi.length
 have core:∀H:Hp,Fu H->aj K H a (ns.map V.int)->dr P w H s₁.heap->(∀b,H b≠none->b=a)->(H a≠none->K.lookup a=none)->
   codeAny (model P w) callerA (.call (.ref fa) ⟨[.ref a],[]⟩) (λr s'=>r = .ok (.ret (.bool true))/\OldK s₁.heap s'.heap/\s'.os=s₁.os/\AllBare s'.gens) s₁:=by
  intro H hO hS aA hA hK
  have Nc:∀{b:Addr}{o:Obj},s₁.heap.get? b=some o->H b=none->(n6 s₁.heap H).get? b=some o:=λe n=>UZ e n
  have x9:∀{b:Addr}{o:Obj}{es:Array DictEntry}{ep:Nat},s₁.heap.get? b=some o->o.data = .dict es ep->H b=none:=λ{b o es ep} e d=>by
   cases q:H b with
   |none=>rfl
   |some u=>
    have e':b=a:=hA b (by rw[q];simp)
    subst e'
    rw[ha] at e;cases e
    have d':Data.seq vs.toArray _=Data.dict es ep:=d
    cases d'
  have Bq:∀{b:Addr}{m:Str->Option Value},s₁.heap.Ns b m->(n6 s₁.heap H).Ns b m:=λ{b m} ⟨o,es,ep,e,d,r⟩=>⟨o,es,ep,Nc e (x9 e d),d,r⟩
  have Nd:K.In (n6 s₁.heap H):=λb o e=>Nc (KX b o e) (by
   cases q:H b with
   |none=>rfl
   |some u=>
    have e':b=a:=hA b (by rw[q];simp)
    subst e'
    rw[hK (by rw[q];simp)] at e;cases e)
  have hM:Mod K mg (n6 s₁.heap H):=⟨Nd,Bq Nb,⟨mb,Bq hb,yk⟩,let ⟨mc,h1,h2⟩:=Xc;⟨mc,Bq h1,h2⟩⟩
  have e0:lR P w K mg (n6 s₁.heap H) callerA [] s₁ H:=⟨rfl,hM,λb o e=>U0 e,Nat.le_of_eq (UY _ _),trivial,λb hb=>absurd (show b∈([]:List Addr) from hb) (by simp),aA,.of_eq hg⟩
  refine uB ((F _ Nd (Bq Nb)).run callerA [] s₁ H ⟨[.ref a],[]⟩ [.ref a] [.ref a] _ _ hr e0 (Xd s₁ (.ref a)) (.cons rfl .nil) (kX H hO hS)) λr s' h=>?_
  cases r with
  |error e=>exact(Fv H e s' h).elim
  |ok fl=>
   cases fl with
   |next=>exact False.elim h
   |brk=>exact False.elim h
   |cont=>exact False.elim h
   |ret u=>
    obtain⟨v,H',os,bare,un,Xf,r',q⟩:=h
    have q':v = .bl true:=q
    subst q'
    obtain rfl:u=Value.bool true:=r'
    refine⟨rfl,OldK.of_keep λb o e=>?_,os,bare⟩
    cases q:H b with
    |none=>exact un.keep b o e q (by intro z;exact absurd (show b∈([]:List Addr) from z) (by simp)) (by simp)
    |some u=>
     rcases hO b with z | ⟨ob,xs,z⟩
     .rw[q] at z;cases z
     .have z2:=un.jj b ob _ z
      obtain⟨e1,_⟩:=aA b _ z
      obtain⟨e2,_⟩:=Xf b _ z2
      rw[e] at e1;cases e1
      exact e2
 cases hk:K.lookup a with
 |some o=>
  have e:=KX a o hk
  rw[ha] at e
  cases e
  refine core (λ_=>none) (λ_=>.inl rfl) (.inr ⟨_,vs.toArray,_,hk,rfl,rfl,rfl,by rw[br,Xe];exact hl,by simpa using rv⟩) (λb u z=>by have z':(none:Option HO)=some u:=z;cases z') (λb z=>absurd rfl z) λz=>absurd rfl z
 |none=>
  refine core (λb=>if b=a then some (.eA { cls := .type "list",data := .seq vs.toArray } (.lst (ns.map V.int))) else none) (λb=>?_) (.inl (.inr ⟨{ cls := .type "list",data := .seq vs.toArray },az rfl⟩)) (λb u z=>?_) (λb z=>?_) λ_=>hk
  .by_cases hb:b=a
   .exact .inr ⟨_,_,az hb⟩
   .exact .inl (av hb)
  .by_cases hb:b=a
   .have z':=(az hb).symm.trans z
    cases z'
    subst hb
    exact⟨ha,by rw[aw];exact hl,vs,_,rv,ha⟩
   .have z':=(av hb).symm.trans z
    cases z'
  .by_cases hb:b=a
   .exact hb
   .exact absurd (av hb) z
def Xg{k:Nat}{K:Params->Frag}{sp:World->Sp}
  (hn:l.most=some n) (sj:n<=sizeLine) (yj:d.params.defaults=[]) (hr:bZ k callerA)
  (hY:∀(w:World) (h:Heap),YP w h->(K w.params).In h)
  (F:∀(w:World) (mg:Str->Option Value) (fa:Addr) (h:Heap),(K w.params).In h->h.Ns mainGlobals mg->mg d.name=some (.ref fa)->
   ∃fd:FuncData,(∀(s:Shared) (u:Value),BindsTo s fd ⟨[u],[]⟩ [(x,u)])/\
    ∀base:Heap,(K w.params).In base->base.Ns mainGlobals mg->aK l.prog w (K w.params) mg base (CX w) k fa fd [x] (sp w))
  (kX:∀(w:World) (H:Hp) (a:Addr) (ns:List Int),ns.length<=n->Fu H->aj (K w.params) H a (ns.map V.int)->sp w [.ref a] H (λv _=>v = .bl true) λ_ _ _=>False)
  (Fv:∀(w:World) (H:Hp) (s:Shared) (e:Value) (s':Shared),CX w [] H s (λ_ _ _=>False) e s'->False) :
  PySem.W.WalkO q loose XP YP l.row.toRowW d [] (λf vs=>PySem.call f vs):=by
 refine lb.W9 hn yj λw s₀ s₁ mg mb fa o pm cd doc a vs ns G Y ho hd ij hmg Fs hints hlen hg=>?_
 have KX:=hY w _ Y
 obtain⟨fd,hb,hF⟩:=F w mg fa _ KX G.T.g hmg
 exact Xb KX G.T.g G.T.b G.T.builtins G.T.nolimit hg Fs hints (bF hlen sj) hr hF hb (λH hO hS=>kX w H a ns hlen hO hS) λH e s'=>Fv w H s₁ e s'
noncomputable def inClass(s:Stmt)(j:Nat):Stmt:=match s with
 |.ClassDef _ _ _ body _ _ _ _ _ _ _=>body.getD j (.Pass ⟨0,0,0,0⟩)
 |_=>.Pass ⟨0,0,0,0⟩
noncomputable def qx(s:Stmt):Arguments:=match s with
 |.FunctionDef _ a _ _ _ _ _ _ _ _=>a
 |_=>{ posonlyargs:=[],args:=[],vararg:=none,kwonlyargs:=[],kw_defaults:=[],kwarg:=none,defaults:=[] }
noncomputable def kd(s:Stmt):List Stmt:=match s with
 |.FunctionDef _ _ b _ _ _ _ _ _ _=>b
 |_=>[]
noncomputable def aN(s:Stmt):Scope:=match s with
 |.FunctionDef _ _ _ _ _ _ sc _ _ _=>sc
 |_=>{ kind := .function,names:=[],isGenerator:=false,isCoroutine:=false }
noncomputable abbrev aP:lQ:=λ_ _ _ _ _ _=>False
abbrev E0:XK:=λ_ _ _=>False
def yl{X:Cx}:Passes aP X E0:=λ_ _ _ _ _ _ _ h=>h.elim
structure aW(K:Frag)(x qual:Str)(st:Stmt)(f:Addr)(fd:FuncData):Prop where
 ex:∃(oc:Value) (od:Option Addr) (kV doc pm:Value) (an:Option Addr) (aE ct:Value) (jX:Array (Option Value)),
  fd=fnOf x qual (qx st) (kd st) (aN st) .none kV doc pm an aE ct/\K.lookup f=some ⟨oc,od,.func fd,jX⟩/\codeIn K aE qual=true
 kp:keepIn K (.ref f)=true
section
variable{P:Program}{w:World}{K:Frag}{mg:Str->Option Value}{base:Heap}
def aW.ok{N:List Str}{k:Nat}(F:aW K x qual st f fd)(S:bh N ps (aN st))(len:∀vs H Q E,sp vs H Q E->vs.length=ps.length)
  (lS:∀(aE:Value) (A:Around) (outer:List Env) (s:Shared) (H:Hp) (vs:List V) (Q:VK) (E:XK),bZ k (A.deeper (envOfC qual (aN st) s.heap.objs.size f aE))->sp vs H Q E->
   ∃t,eK (ip aP P w K mg base N qual (aN st) f aE A outer s H E).qo (kd st) t/\t { nx:=λ_ H'=>Q .aB H',rt:=Q } (start N vs) H):aK P w K mg base aP (k+1) f fd ps sp:=by
 obtain⟨oc,od,kV,doc,pm,an,aE,ct,jX,rfl,lk,ij⟩:=F.ex
 refine ya lk ij S len λA outer s H vs Q E hr kX=>?_
 obtain⟨t,h,q⟩:=lS aE A outer s H vs Q E hr kX
 exact⟨t,h.qo,q⟩
def aW.binds(F:aW K x qual st f fd)
  (h:∀(kV doc pm:Value) (an:Option Addr) (aE ct:Value) (us:List Value),us.length=ps.length->bindArgs (fnOf x qual (qx st) (kd st) (aN st) .none kV doc pm an aE ct) ⟨us,[]⟩=pure (ps.zip us)):Binds K fd ps []:=by
 obtain⟨oc,od,kV,doc,pm,an,aE,ct,jX,rfl,lk,ij⟩:=F.ex
 exact .all (h kV doc pm an aE ct)
def ym{kV doc pm aE ct:Value}(l:K.lookup f=some ⟨oc,od,.func (fnOf x qual (qx st) (kd st) (aN st) .none kV doc pm an aE ct),jX⟩)
  (c:codeIn K aE qual=true) (k:keepIn K (.ref f)=true):aW K x qual st f (fnOf x qual (qx st) (kd st) (aN st) .none kV doc pm an aE ct):=⟨⟨oc,od,kV,doc,pm,an,aE,ct,jX,rfl,l,c⟩,k⟩
end
def ke{A:Around}{k:Nat}(hr:bZ k A):A.units+1<cLine:=lK (Nat.add_le_add_left (by decide:1<=64) _) hr.units
def Ng(h:n<=1000):n<sizeLine:=lK h (by decide)
section
variable{X:Cx}
def pv(i:Nat){pos:Pos}(hN:X.N[i]? = some x:=by rfl)(hv:EE X.env.scope x:=by first | exact Or.inl rfl | exact Or.inr (Or.inl rfl) | exact Or.inr (Or.inr rfl))(hd:(x==("__debug__":Str))=false:=by decide)
  (ij:(x==("__classdict__":Str))=false:=by decide):PE X (.Name x pos) (Me i):=U6 hN hv hd ij
end
def aQ(h:B):if false=true then A else B:=by
 rw[av b8]
 exact h
def bp(h:A):if true=true then A else B:=by
 rw[az rfl]
 exact h
def eY{c:Prop}[Decidable c](h1:c->A)(h2:¬c->B):if c then A else B:=by
 by_cases h:c
 .rw[az h]
  exact h1 h
 .rw[av h]
  exact h2 h
def af(H H':Hp):Prop := ∀b o,H b=some o->H' b=some o
def af.refl(H:Hp):af H H:=λ_ _ h=>h
def af.trans{H1 H2:Hp}(a:af H H1)(b:af H1 H2):af H H2:=λc o h=>b c o (a c o h)
def af.free(e:af H H'){l:Addr}(h:H' l=Option.none):H l=Option.none:=by
 cases q:H l with
 |none=>rfl
 |some o=>
  rw[e l o q] at h
  cases h
def af.seq(e:af H H')(h:aj K H a xs):aj K H' a xs:=by
 rcases h with (h | ⟨o,h⟩) | h
 .exact .inl (.inl (e _ _ h))
 .exact .inl (.inr ⟨o,e _ _ h⟩)
 .exact .inr h
section
variable{κ:Type}[DecidableEq κ]
def Nh{kvs:List (κ×V)}{k:κ}(h:aU kvs k=none):¬k∈kvs.map (·.1):=by
 intro m
 obtain⟨p,hp,e⟩:=bM.mp m
 have q:(kvs.any λkv=>decide (kv.1=k))=true:=uG.mpr ⟨p,hp,aJ e⟩
 rw[sC,h] at q
 exact absurd q (by simp)
def Ni{kvs:List (κ×V)}{k:κ}{v:V}(h:aU kvs k=some v):k∈kvs.map (·.1):=by
 have q:(kvs.any λkv=>decide (kv.1=k))=true:=by
  rw[sC,h]
  all_goals rfl
 obtain⟨p,hp,e⟩:=uG.mp q
 exact bM.mpr ⟨p,hp,fG e⟩
theorem Fw:∀{l:List κ}{k:κ},l.Nodup->¬k∈l->(l++[k]).Nodup
 |[],k,_,_=>by simp
 |a::r,k,h,hk=>by
  obtain⟨h1,h2⟩:=gG.mp h
  show(a::(r++[k])).Nodup
  refine gG.mpr ⟨λm=>?_,Fw h2 λm=>hk (cw.mpr (Or.inr m))⟩
  rcases cS.mp m with q | q
  .exact h1 q
  .exact hk (cw.mpr (Or.inl (cn.mp q).symm))
def Xh{kvs:List (κ×V)}{k:κ}(v:V)(hn:(kvs.map (·.1)).Nodup)(h:aU kvs k=none):((putK kvs k v).map (·.1)).Nodup:=by
 rw[vn v h,eW]
 exact Fw hn (Nh h)
end
end L2
set_option maxHeartbeats 4000000
namespace L2
open PySem PySem.Spec PyProof.Rows
variable{H H':Hp}{a c globals it:Addr}{o:HO}{K:Frag}{ns own xs:List Str}{prog:Program}{w:World}{A:Around}{R:Result->Shared->Prop}{s s₂:Shared}{ifs:List Expr}{scope:Scope}{env:Env}{x y z:Str}{h h' h2:Heap}{M:Model}{E:Value->Shared->Prop}{cl:List (Str×Addr)}{Q:Env->Shared->Prop}{ck i n:Nat}{X:Cx}{pins uW:List (Addr×Obj)}{O:List (Option V)}{js:List Nat}{fp:List Addr}{m:Str->Option Value}{px py pz tp yq:Pos}{tn:Nat->Heap->Prop}{RR:Value->Addr->Result->Shared->Prop}
def af.cx(H:Hp):af H H:=λ_ _ h=>h
theorem af.upd(h:H a=none):af H (upd H a o):=λb u e=>by rw[ar (bC e h)];exact e
def af.kf(s:af H H')(h:H a=none):af H (L2.upd H' a o):=λb u e=>by rw[ar (bC e h)];exact s b u e
def af.tup{xs:List V}(e:af H H')(h:ak K H a xs):ak K H' a xs:=by
 rcases h with (h | ⟨o,h⟩) | h
 .exact .inl (.inl (e _ _ h))
 .exact .inl (.inr ⟨o,e _ _ h⟩)
 .exact .inr h
theorem Xi{elt target iter:Expr}{pos:Pos}{it acc:Value}(I:Nat->Shared->Prop)
  (turn:∀n s,I n s->wpAny (model prog w) A (pyNext it) (λr s₁=>match r with
   |none=>R (.ok .next) s₁
   |some v=>wpAny (model prog w) A (letOwnedTupleGo target it v) (λ_ s₂=>wpAny (model prog w) A (assign target env v) (λ_ s₃=>
     wpAny (model prog w) A (forIn ifs true λc r=>if r=true then do let ok<-isTrue c env (eval c env);pure (ForInStep.yield ok) else pure (ForInStep.yield r)) (λok s₄=>
      if ok=true then wpAny (model prog w) A (eval elt env) (λx s₅=>
       wpAny (model prog w) A (call (.builtin "list.append") [acc,x]) (λ_ s₆=>∃m,m<n/\I m s₆) (λ_ _=>False) s₅) (λ_ _=>False) s₄
      else ∃m,m<n/\I m s₄) (λ_ _=>False) s₃) (λ_ _=>False) s₂) (λ_ _=>False) s₁) (λ_ _=>False) s)
  (n:Nat) (h:I n s) :
  codeAny (model prog w) A (.compLoop (.ListComp elt [⟨target,iter,ifs,0⟩] scope pos) 0 it acc env) R s:=by
 refine codeAny_loop rfl I (λn s hI=>?_) n h
 show wpAny _ A ((compTurn (.ListComp elt [⟨target,iter,ifs,0⟩] scope pos) 0 it acc env).onRaise (λx=>do noteFrame x env;theTreesLotGoes x)) _ _ s
 refine wpAny_noted ?_
 rw[compTurn_list]
 refine ah (Ee (ah (gF (turn n s hI) (λr s₁ h₁=>?_) λ_ _ f=>f.elim)))
 cases r with
 |none=>exact aL h₁
 |some v=>
  refine ah (gF h₁ (λ_ s₂ h₂=>ah (gF h₂ (λ_ s₃ h₃=>ah (gF h₃ (λok s₄ h₄=>?_) λ_ _ f=>f.elim)) λ_ _ f=>f.elim)) λ_ _ f=>f.elim)
  cases ok with
  |false=>exact aL ⟨rfl,h₄⟩
  |true=>
   exact ah (ah (gF h₄ (λx s₅ h₅=>ah (gF h₅ (λ_ s₆ h₆=>aL (aL ⟨rfl,h₆⟩)) λ_ _ f=>f.elim)) λ_ _ f=>f.elim))
noncomputable def oj(own:List Str)(n:Nat):List (Str×Addr):=own.map λx=>(x,n+1)
noncomputable def fu(X:Cx)(xs own ns:List Str)(scope:Scope)(cl:List (Str×Addr))(fp:List Addr)(pins:List (Addr×Obj))(s:Shared)(H:Hp):Cx:=
 { X with N:=xs++ns,s₀:=s,H₀:=H,env:=compEnvC scope (oj own s.heap.objs.size++cl) s.heap.objs.size X.env,outer:=X.stack,ex:=fp,fn:=λy=>own.contains y,pn:=X.pn++pins,xe:=λ_ _=>False }
structure Fy(X:Cx)(own:List Str)(scope:Scope)(cl:List (Str×Addr)):Prop where
 Nj:closureFor scope X.env=pure cl
 sub:∀x c,cl.lookup x=some c->X.env.cells.lookup x=some c
 all:∀x,((relabel scope X.env).names.lookup x=some .cell\/(relabel scope X.env).names.lookup x=some .free)->x∉own->∃c,cl.lookup x=some c
 kind:scope.kind = .function
 cell:(scope.names.filter λy=>y.2 == .cell).map (·.1)=own
 eM:own.length<=1
 names:∀y∈scope.names,y.2 = .local->scope.names.lookup y.1=some .local
noncomputable def fN(cells:List (Str×Addr)):List (Str×NameKind)->List (Str×Addr)->List (Str×Addr)
 |[],acc=>acc
 |(n,k)::r,acc=>if k == .free then fN cells r ((n,(cells.lookup n).getD 0)::acc) else fN cells r acc
def Xj(h:∀y∈scope.names,y.2 = .free->∃c,env.cells.lookup y.1=some c):closureFor scope env=pure (fN env.cells scope.names []):=by
 unfold closureFor
 suffices H:∀(l:List (Str×NameKind)) (acc:List (Str×Addr)),(∀y∈l,y.2 = .free->∃c,env.cells.lookup y.1=some c)->
   (forIn l acc (λ(x:Str×NameKind) (r:List (Str×Addr))=>(do
    let (name,kind):=x
    let cs:=r
    if (kind==NameKind.free)=true then do
     let a<-cellOf env name
     pure (ForInStep.yield ((name,a)::cs))
    else pure (ForInStep.yield cs):Sem (ForInStep (List (Str×Addr))))):Sem (List (Str×Addr)))=pure (fN env.cells l acc) by
  have:=H scope.names [] h
  simp only at this ⊢
  first | (rw[this];rfl) | exact this | (simp only[this];rfl)
 intro l
 induction l with
 |nil=>intro acc _;rfl
 |cons y r ih=>
  intro acc hy
  obtain⟨n,k⟩:=y
  rw[LB]
  have hr:∀y∈r,y.2 = .free->∃c,env.cells.lookup y.1=some c:=λy m=>hy y (bX _ m)
  cases hk:(k==NameKind.free) with
  |false=>
   simp only[hk,uH,pX,fN]
   exact ih acc hr
  |true=>
   obtain⟨c,ec⟩:=hy (n,k) bz (jM.mp hk)
   simp only[hk,jO,fN,ec,qc]
   have e:cellOf env n=pure c:=by
    unfold cellOf
    rw[show env.cells.lookup n=some c from ec]
   rw[e]
   exact ih ((n,c)::acc) hr
theorem Br(cells:List (Str×Addr))(x:Str):∀(l:List (Str×NameKind)) (acc:List (Str×Addr)),(∀y∈l,y.2 = .free->∃c,cells.lookup y.1=some c)->(∀c,acc.lookup x=some c->cells.lookup x=some c)->
  (∀c,(fN cells l acc).lookup x=some c->cells.lookup x=some c)/\(((x,NameKind.free)∈l\/∃c,acc.lookup x=some c)->∃c,(fN cells l acc).lookup x=some c)
 |[],acc,_,ha=>⟨ha,λh=>h.elim (λz=>nomatch z) id⟩
 |(n,k)::r,acc,hy,ha=>by
  have hr:∀y∈r,y.2 = .free->∃c,cells.lookup y.1=some c:=λy m=>hy y (bX _ m)
  unfold fN
  cases hk:(k==NameKind.free) with
  |false=>
   rw[av b8]
   obtain⟨h1,h2⟩:=Br cells x r acc hr ha
   refine⟨h1,λh=>h2 ?_⟩
   rcases h with h | h
   .rcases cw.mp h with z | z
    .cases z
     exact absurd hk (by decide)
    .exact .inl z
   .exact .inr h
  |true=>
   rw[az rfl]
   obtain⟨c,ec⟩:=hy (n,k) bz (jM.mp hk)
   have ec:cells.lookup n=some c:=ec
   rw[ec,qc]
   have Xk:∀d,List.lookup x ((n,c)::acc)=some d->cells.lookup x=some d:=λd e=>by
    rw[rJ] at e
    cases hx:x==n with
    |true=>rw[hx] at e;cases e;rw[eq_of_beq hx];exact ec
    |false=>rw[hx] at e;exact ha d e
   obtain⟨h1,h2⟩:=Br cells x r ((n,c)::acc) hr Xk
   refine⟨h1,λh=>h2 ?_⟩
   rcases h with h | ⟨d,h⟩
   .rcases cw.mp h with z | z
    .cases z
     exact .inr ⟨c,by simp[rJ]⟩
    .exact .inl z
   .refine .inr ?_
    rw[rJ]
    cases hx:x==n with
    |true=>exact⟨c,rfl⟩
    |false=>exact⟨d,h⟩
theorem mem_of_lookupK:∀{l:List (Str×NameKind)}{x:Str}{k:NameKind},l.lookup x=some k->(x,k)∈l
 |[],_,_,h=>by simp at h
 |(n,k')::r,x,k,h=>by
  rw[rJ] at h
  cases hx:x==n with
  |true=>rw[hx] at h;cases h;rw[eq_of_beq hx];exact bz
  |false=>rw[hx] at h;exact bX _ (mem_of_lookupK h)
def Bs:(∀k,(relabel scope env).names.lookup x=some k->scope.names.lookup x=some k\/(k = .cell/\scope.names.lookup x=some .free))/\
  (∀k,scope.names.lookup x=some k->(relabel scope env).names.lookup x=some k\/(k = .free/\(relabel scope env).names.lookup x=some .cell)):=by
 show(∀k,(scope.names.map λ(n,k)=>if (k==NameKind.free&&env.scope.kind == .function&&env.kindOf n==some .cell) then (n,NameKind.cell) else (n,k)).lookup x=some k->_)/\(∀k,_->(scope.names.map λ(n,k)=>if (k==NameKind.free&&env.scope.kind == .function&&env.kindOf n==some .cell) then (n,NameKind.cell) else (n,k)).lookup x=some k\/(_/\(scope.names.map λ(n,k)=>if (k==NameKind.free&&env.scope.kind == .function&&env.kindOf n==some .cell) then (n,NameKind.cell) else (n,k)).lookup x=some .cell))
 generalize scope.names=l
 induction l with
 |nil=>exact⟨λk h=>by simp at h,λk h=>by simp at h⟩
 |cons y r ih=>
  obtain⟨n,k0⟩:=y
  rw[bS]
  cases hc:(k0==NameKind.free&&env.scope.kind == .function&&env.kindOf n==some .cell) with
  |true=>
   simp only[hc,jO,rJ]
   have hf:k0 = .free:=by
    rw[d9,d9] at hc
    exact jM.mp hc.1.1
   cases hx:x==n with
   |true=>exact⟨λk h=>by cases h;exact .inr ⟨rfl,by rw[hf]⟩,λk h=>by cases h;exact .inr ⟨hf,rfl⟩⟩
   |false=>exact ih
  |false=>
   simp only[hc,uH,pX,rJ]
   cases hx:x==n with
   |true=>exact⟨λk h=>by cases h;exact .inl rfl,λk h=>by cases h;exact .inl rfl⟩
   |false=>exact ih
theorem yn(n:Nat):∀(l:List (Str×NameKind)) (acc:List (Str×Addr)),((l.filter λy=>y.2 == .cell).map (·.1)=[])->cellsFrom n l acc=acc/\∀h:Heap,pushCells h l=h
 |[],_,_=>⟨rfl,λ_=>rfl⟩
 |(y,k)::r,acc,e=>by
  cases hk:(k==NameKind.cell) with
  |true=>
   rw[dj] at e
   simp only[hk,jO,bS] at e
   cases e
  |false=>
   rw[dj] at e
   simp only[hk,uH,pX] at e
   obtain⟨h1,h2⟩:=yn n r acc e
   unfold cellsFrom
   refine⟨by rw[av (by rw[hk];exact b8)];exact h1,λh=>?_⟩
   unfold pushCells
   rw[av (by rw[hk];exact b8)]
   exact h2 h
theorem Fz(n:Nat)(x:Str):∀(l:List (Str×NameKind)) (acc:List (Str×Addr)),((l.filter λy=>y.2 == .cell).map (·.1)=[x])->cellsFrom n l acc=(x,n)::acc/\∀h:Heap,pushCells h l=h.push { cls := .type "cell",data := .cell none }
 |[],_,e=>by cases e
 |(y,k)::r,acc,e=>by
  cases hk:(k==NameKind.cell) with
  |true=>
   rw[dj] at e
   simp only[hk,jO,bS] at e
   have e1:y=x:=(AE e).1
   have e2:=(AE e).2
   subst e1
   obtain⟨h1,_⟩:=yn (n+1) r ((y,n)::acc) e2
   unfold cellsFrom
   refine⟨by rw[az hk];exact h1,λh=>?_⟩
   unfold pushCells
   rw[az hk]
   exact(yn 0 r [] e2).2 _
  |false=>
   rw[dj] at e
   simp only[hk,uH,pX] at e
   obtain⟨h1,h2⟩:=Fz n x r acc e
   unfold cellsFrom
   refine⟨by rw[av (by rw[hk];exact b8)];exact h1,λh=>?_⟩
   unfold pushCells
   rw[av (by rw[hk];exact b8)]
   exact h2 h
noncomputable def Bt(h:Heap):List Str->Heap
 |[]=>h
 |_::_=>h.push { cls := .type "cell",data := .cell none }
theorem Nk:∀{own:List Str}{b:Addr}{o:Obj},h.get? b=some o->(Bt h own).get? b=some o
 |[],_,_,e=>e
 |_::_,_,_,e=>bu _ e
def Xl{qual:Str}{outer:Env}
  (hx:(scope.names.filter λy=>y.2 == .cell).map (·.1)=own) (hl:own.length<=1)
  (hQ:Q (newEnv scope s.heap.objs.size globals (oj own s.heap.objs.size++cl) qual none .none (some outer) builtinsNs) { s with heap:=Bt (s.heap.push { cls := .type "dict",data := .dict #[] }) own }) :
  wpAny M A (newFunctionEnv scope globals cl [] qual none .none (some outer)) Q E s:=by
 simp only[newFunctionEnv,Option.isSome_some,jO]
 refine ah (wpAny_alloc ?_)
 refine ah (wpAny_layCells _ (λname kind cells=>by cases Xm:kind==NameKind.cell <;> simp[Xm]) _ _ _ _ ?_)
 refine ah ?_
 rw[List.forIn_nil]
 refine aL (aL ?_)
 have e:(s.heap.push { cls := .type "dict",data := .dict #[] }:Heap).objs.size=s.heap.objs.size+1:=lI ..
 match own,hl,hx,hQ with
 |[],_,hx,hQ=>
  rw[(yn _ scope.names cl hx).1,(yn 0 scope.names [] hx).2]
  exact hQ
 |[x],_,hx,hQ=>
  rw[(Fz _ x scope.names cl hx).1,(Fz 0 x scope.names [] hx).2]
  dsimp only
  rw[e]
  exact hQ
 |_::_::_,hl,_,_=>simp at hl
def sJ(e:List.lookup y (oj own n++cl)=some c):(y∈own/\c=n+1)\/(y∉own/\cl.lookup y=some c):=by
 induction own with
 |nil=>exact .inr ⟨fH,e⟩
 |cons x r ih=>
  have e:List.lookup y ((x,n+1)::(oj r n++cl))=some c:=e
  rw[rJ] at e
  cases h:y==x with
  |true=>rw[h] at e;cases e;exact .inl ⟨cw.mpr (.inl (eq_of_beq h)),rfl⟩
  |false=>
   rw[h] at e
   have hn:y≠x:=by intro z;rw[z,AH] at h;cases h
   rcases ih e with ⟨a,b⟩ | ⟨a,b⟩
   .exact .inl ⟨bX _ a,b⟩
   .exact .inr ⟨λz=>(cw.mp z).elim hn a,b⟩
def Nl(h:y∉own):List.lookup y (oj own n++cl)=cl.lookup y:=by
 induction own with
 |nil=>rfl
 |cons x r ih=>
  show List.lookup y ((x,n+1)::(oj r n++cl))=_
  rw[rJ,uy.mpr λz=>h (by rw[z];exact bz)]
  exact ih λz=>h (bX _ z)
def Xn(h:y∈own):List.lookup y (oj own n++cl)=some (n+1):=by
 induction own with
 |nil=>cases h
 |cons x r ih=>
  show List.lookup y ((x,n+1)::(oj r n++cl))=_
  rw[rJ]
  cases hb:y==x with
  |true=>rfl
  |false=>exact ih ((cw.mp h).resolve_left λz=>by rw[z,AH] at hb;cases hb)
noncomputable def sL(xs own ns:List Str)(names outer:List (Str×NameKind)):Bool:=
 names.all (λy=>(y.2 != .cell||own.contains y.1)&&(y.2 != .free||outer.lookup y.1==some .cell)&&(y.2 != .local||names.lookup y.1==some .local))&&((names.filter λy=>y.2 == .cell).map (·.1)==own)&&decide (own.length<=1)&&xs.all (λx=>names.lookup x==some (if own.contains x then .cell else .local))&&ns.all (λy=>names.lookup y==some .free && !own.contains y)&&decide (xs++ns).Nodup
def Nm(I:Inv X pins O H s)(hk:scope.kind = .function)(ho:sL xs own ns scope.names X.env.scope.names=true) :
  Fy X own scope (fN X.env.cells scope.names [])/\(∀y∈ns,X.env.scope.names.lookup y=some .cell)/\(∀y∈ns,((relabel scope X.env).names.lookup y=some .cell\/(relabel scope X.env).names.lookup y=some .free)/\y∉own)/\(∀x∈xs,scope.names.lookup x=some .local\/(scope.names.lookup x=some .cell/\own.contains x=true))/\(xs++ns).Nodup:=by
 unfold sL at ho
 simp only[d9,lL,uI,bne_iff_ne,jM,decide_eq_true_eq,LC,List.contains_eq_mem,decide_eq_false_iff_not] at ho
 obtain⟨⟨⟨⟨⟨h1,h0⟩,hl⟩,h2⟩,h3⟩,h4⟩:=ho
 have om:∀y∈scope.names,y.2 = .free->∃c,X.env.cells.lookup y.1=some c:=λy m e=>by
  rcases(h1 y m).1.2 with z | z
  .exact absurd e z
  .exact I.ok.has y.1 (.inl z)
 refine⟨⟨Xj om,λy c e=>(Br X.env.cells y scope.names [] om (by simp)).1 c e,λy hy cE=>?_,hk,h0,hl,λy m e=>?_⟩,λy m=>?_,λy m=>⟨?_,(h3 y m).2⟩,λx m=>?_,h4⟩
 .refine(Br X.env.cells y scope.names [] om (by simp)).2 (.inl ?_)
  rcases hy with hy | hy
  .rcases Bs.1 _ hy with z | ⟨_,z⟩
   .rcases(h1 _ (mem_of_lookupK z)).1.1 with q | q
    .exact absurd rfl q
    .exact absurd q cE
   .exact mem_of_lookupK z
  .rcases Bs.1 _ hy with z | ⟨z,_⟩
   .exact mem_of_lookupK z
   .cases z
 .rcases(h1 y m).2 with z | z
  .exact absurd e z
  .exact z
 .rcases(h1 _ (mem_of_lookupK (h3 y m).1)).1.2 with z | z
  .exact absurd rfl z
  .exact z
 .rcases Bs.2 _ (h3 y m).1 with z | ⟨_,z⟩
  .exact .inr z
  .exact .inl z
 .have:=h2 x m
  by_cases hx:x∈own
  .rw[az hx] at this
   exact .inr ⟨this,by simpa using hx⟩
  .rw[av hx] at this
   exact .inl this
noncomputable def fO(js:List Nat)(O:St):St:=js.map λj=>(O[j]?).join
theorem Xo{O:St}{tk:Nat}(I:Inv X pins O H s)
  (L:Fy X own scope cl) (hj:js.map (λj=>X.N[j]?)=ns.map some) (qy:∀y∈ns,X.env.scope.names.lookup y=some .cell)
  (aY:∀y∈ns,((relabel scope X.env).names.lookup y=some .cell\/(relabel scope X.env).names.lookup y=some .free)/\y∉own) (jo:∀y∈own,h'.IsCell (s.heap.objs.size+1) none)
  (hf:∀b∈fp,fL X pins H b) (d7:∀b∈fp,b<s.heap.objs.size) (hn:h'.Ns s.heap.objs.size m) (hk:∀b o,s.heap.get? b=some o->h'.get? b=some o) :
  Inv (fu X xs own ns scope cl fp pins s H) [] (xs.map (λ_=>none)++fO js O) H { s with heap:=h',toks:=tk }:=by
 have Nn:∀y c,cl.lookup y=some c->c<s.heap.objs.size:=λy c e=>by
  obtain⟨v,z⟩:=I.cell y c (L.sub _ _ e)
  exact z.lt
 have len:js.length=ns.length:=by have:=fc List.length hj;simpa using this
 refine⟨⟨I.ok.mod,L.kind,I.ok.glob,I.ok.blt,aO _,λy z c h1 h2=>?_,λy hy=>?_,λy c z h1=>?_,I.ok.hd,I.ok.frames,.inl rfl,
  λb hb=>⟨bR (d7 b hb),λy c e=>?_⟩,I.bs,bF I.ok.kQ I.sz,λb o e hb=>?_,λb hb z=>?_,I.stack,I.AV⟩,
  rfl,I.bare,Un.kept hk,⟨m,hn,λi y v e1 e2 _=>?_⟩,λy c e=>?_,I.fresh,λy c e=>?_,λp hp=>?_,I.aA.kept hk,?_⟩
 .rcases sJ h1 with ⟨a,e⟩ | ⟨a,e⟩ <;> rcases sJ h2 with ⟨a',e'⟩ | ⟨a',e'⟩
  .have hl:=L.eM
   match own,hl,a,a' with
   |[x],_,a,a'=>rw[cn.mp a,cn.mp a']
   |[],_,a,_=>cases a
   |_::_::_,hl,_,_=>simp at hl
  .exact absurd (Nn z c e') (by rw[e];exact Nat.not_lt.mpr (gw _))
  .exact absurd (Nn y c e) (by rw[e'];exact Nat.not_lt.mpr (gw _))
  .exact I.ok.inj y z c (L.sub _ _ e) (L.sub _ _ e')
 .by_cases z:y∈own
  .exact⟨_,Xn z⟩
  .obtain⟨c,e⟩:=L.all y hy z
   exact⟨c,(Nl z).trans e⟩
 .rcases sJ h1 with ⟨_,e⟩ | ⟨a,_⟩
  .rw[e];exact gw _
  .exact absurd (by simpa using(show own.contains y=true from z)) a
 .rcases sJ e with ⟨_,e⟩ | ⟨_,e⟩
  .rw[e];exact λz=>absurd (d7 b hb) (by rw[<-z];exact Nat.not_lt.mpr (gw _))
  .exact(hf b hb).2.2.2.2.1 y c (L.sub _ _ e)
 .rcases(hf b hb).2.2.2.1 with z | z
  .exact I.ok.mV b o e z
  .exact absurd (gu (bA (I.ok.bs b o e).1) z) (pU _)
 .rcases cw.mp (I.xN b z) with z | z
  .exact(hf b hb).2.1 z
  .exact(hf b hb).2.2.1 z
 .have e1:(xs++ns)[i]? = some y:=e1
  by_cases hi:i<xs.length
  .rw[Lx (by rw[aw];exact hi),bw,bf hi] at e2
   cases e2
  .rw[Az (by lia)] at e1
   rw[Az (by rw[aw];lia),aw] at e2
   generalize i - xs.length=k at e1 e2
   unfold fO at e2
   rw[bw] at e2
   cases ej:js[k]? with
   |none=>rw[ej] at e2;cases e2
   |some j=>
    rw[ej] at e2
    have e2:(O[j]?).join=some v:=cY e2
    have e3:O[j]? = some (some v):=by
     cases q:O[j]? with
     |none=>rw[q] at e2;cases e2
     |some o=>rw[q] at e2;rw[show o=some v from e2]
    have e4:X.N[j]? = some y:=by
     have q:=fc (λl=>l[k]?) hj
     simp only[bw,ej,e1,jd] at q
     exact cY q
    have my:y∈ns:=bj e1
    obtain⟨m0,oo,hl⟩:=I.loc
    obtain⟨u,r,lk⟩:=hl j y v e4 e3 (.inr (.inl (qy y my)))
    refine⟨u,r,.inr ⟨(aY y my).1,?_⟩⟩
    obtain⟨c,ec⟩:=L.all y (aY y my).1 (aY y my).2
    rcases lk with ⟨k1,_⟩ | ⟨_,c',e5,e6⟩
    .have k2:X.env.scope.names.lookup y=some .local:=k1
     rw[qy y my] at k2;cases k2
    .have:=L.sub _ _ ec
     rw[e5] at this;cases this
     obtain⟨o,ho,hd⟩:=e6
     exact⟨c,(Nl (aY y my).2).trans ec,o,hk _ _ ho,hd⟩
 .rcases sJ e with ⟨a,e⟩ | ⟨_,e⟩
  .rw[e];exact⟨none,jo y a⟩
  .obtain⟨v,o,ho,hd⟩:=I.cell y c (L.sub _ _ e)
   exact⟨v,o,hk _ _ ho,hd⟩
 .rcases sJ e with ⟨_,e⟩ | ⟨_,e⟩
  .rw[e];exact I.aA.fresh (gw _)
  .exact I.dk y c (L.sub _ _ e)
 .have hp:p∈X.pn++pins:=by
   have hp:p∈(X.pn++pins)++[]:=hp
   simpa using hp
  obtain⟨e,n,nl,nf,d⟩:=I.pin p hp
  refine⟨hk _ _ e,n,bR (bA e),λz=>?_,d⟩
  rcases cw.mp (I.xN _ z) with z | z
  .exact nl z
  .exact nf z
 .show(xs.map (λ_=>(none:Option V))++fO js O).length=(xs++ns).length
  unfold fO
  rw[di,di,aw,aw,len]
def Inv.Xp{O O':St}{s':Shared}(I:Inv X pins O H s)
  (hf:∀b∈fp,fL X pins H b) (J:Inv (fu X xs own ns scope cl fp pins s H) uW O' H' s') (hk:∀b o,b≠s.heap.objs.size->s'.heap.get? b=some o->h2.get? b=some o) :
  Inv X pins O H' { s' with heap:=h2 }:=by
 have u:Un (gh X.stack) fp H H' s.heap s'.heap:=J.base
 have ne:∀b o,s.heap.get? b=some o->b≠s.heap.objs.size:=λb o e=>bR (bA e)
 have fr:H' s.heap.objs.size=none:=J.free
 refine I.uX (s':={ s' with heap:=h2 }) (ch:=fp) J.os ⟨λb o e n h1 h2=>hk b o (ne b o e) (u.keep b o e n h1 h2),λb o e n h1 h2=>?_,u.free,λb o e hx=>?_,u.gc,u.jj,u.jS⟩ (λb o e=>?_) J.bare
  (λb hb=>⟨(hf b hb).2.2.2.1,(hf b hb).2.1,(hf b hb).2.2.2.2.1,(hf b hb).2.2.2.2.2⟩)
 .obtain⟨sl,q⟩:=u.slot b o e n h1 h2
  exact⟨sl,hk _ _ (ne b o e) q⟩
 .obtain⟨o',q⟩:=u.there b o e hx
  exact⟨o',hk _ _ (ne b o e) q⟩
 .refine(J.aA b o e).jQ (λc v hc q=>hk c v ?_ q) (λ_ q=>q) λ_ _ q=>q
  rcases hc with z | z
  .rw[z];exact bC e fr
  .exact bC z fr
def qz(X:Cx)(ifs:List Expr)(t:TT):Prop:=
 ∀(pins:List (Addr×Obj)) (s:Shared) (O:St) (H:Hp) (Q:Bool->Hp->Prop),Inv X pins O H s->t O H Q->
  wpAny (model X.prog X.w) X.A (forIn ifs true λc r=>if r=true then do let ok<-isTrue c X.env (eval c X.env);pure (ForInStep.yield ok) else pure (ForInStep.yield r)) (TP X pins O Q) X.xe s
def Np:TT:=λ_ H Q=>Q true H
def lg:qz X [] Np:=λ_ _ _ H _ I h=>wpAny_tests_nil ⟨H,I,h⟩
def lZ{c:Expr}{t:TT}(h:PT X c t):qz X [c] t:=λpins s O H Q I q=>wpAny_tests_one (h pins s O H Q I q)
def FA(js:List Nat)(tt:TT)(te:TE)(O:St)(J:It)(H1:Hp)(Q:VK):Prop:=
 ∀D,H1 D=none->∃W:Nat->Nat->Hp->Prop,(∃m,W 0 m (upd H1 D (.lst [])))/\∀i m H,W i m H->
  (J.stop i H/\Q (.ref D) H)\/(J.go i H/\∀x H',J.gJ i H x H'->tt (some x::fO js O) H' λb H2=>if b=true then te (some x::fO js O) H2 λy H3=>∃ys,H3 D=some (.lst ys)/\ys.length<sizeLine/\∃m',m'<m/\W (i+1) m' (upd H3 D (.lst (ys++[y])))
   else ∃m',m'<m/\W (i+1) m' H2)
def Nq(js:List Nat)(wi:TI)(tt:TT)(te:TE):TE:=λO H Q=>wi O H λJ H1=>FA js tt te O J H1 Q
def FC(K:Frag)(js:List Nat)(tt:TT)(te:TE)(O:St)(J:It)(H1:Hp)(Q:VK):Prop:=
 ∀D,H1 D=none->∃W:Nat->Nat->Hp->Prop,(∃m,W 0 m (upd H1 D (.lst [])))/\∀i m H,W i m H->
  (J.stop i H/\Q (.ref D) H)\/(J.go i H/\∀x H',J.gJ i H x H'->∃a v1 v2,x = .ref a/\ak K H' a [v1,v2]/\tt (some v1::some v2::fO js O) H' λb H2=>if b=true then te (some v1::some v2::fO js O) H2 λy H3=>∃ys,H3 D=some (.lst ys)/\ys.length<sizeLine/\∃m',m'<m/\W (i+1) m' (upd H3 D (.lst (ys++[y])))
   else ∃m',m'<m/\W (i+1) m' H2)
def Xq(K:Frag)(js:List Nat)(wi:TI)(tt:TT)(te:TE):TE:=λO H Q=>wi O H λJ H1=>FC K js tt te O J H1 Q
abbrev TU:=V->Hp->(List V->Hp->Prop)->Prop
def FD(G:TU)(js:List Nat)(tt:TT)(te:TE)(O:St)(J:It)(H1:Hp)(Q:VK):Prop:=
 ∀D,H1 D=none->∃W:Nat->Nat->Hp->Prop,(∃m,W 0 m (upd H1 D (.lst [])))/\∀i m H,W i m H->
  (J.stop i H/\Q (.ref D) H)\/(J.go i H/\∀x H',J.gJ i H x H'->G x H' λus H0=>tt (us.map some++fO js O) H0 λb H2=>if b=true then te (us.map some++fO js O) H2 λy H3=>∃ys,H3 D=some (.lst ys)/\ys.length<sizeLine/\∃m',m'<m/\W (i+1) m' (upd H3 D (.lst (ys++[y])))
   else ∃m',m'<m/\W (i+1) m' H2)
def yo(K:Frag)(xs:List Str)(tg:Expr)(G:TU):Prop:=
 ∀(Y:Cx) (ns:List Str),Y.N=xs++ns->Y.N.Nodup->(∀x∈xs,Loc Y.env.scope x/\(Y.fn x=true\/Y.env.scope.names.lookup x=some .local))->Y.K=K->Y.calm=true->∀(pins:List (Addr×Obj)) (s:Shared) (vs O:St) (H:Hp) (v:V) (u:Value) (R:List V->Hp->Prop),vs.length=xs.length->Inv Y pins (vs++O) H s->RelV v u->G v H R->
  wpAny (model Y.prog Y.w) Y.A (assign tg Y.env u) (λ_ s' =>∃us H',us.length=xs.length/\Inv Y pins (us.map some++O) H' s'/\R us H') Y.xe s
def Nr:yo K [x] (.Name x px) (λv H R=>R [v] H):=by
 intro Y ns hN b6 hl _ _ pins s vs O H v u R hv I r h
 match vs,hv,I with
 |[a],_,I=>
  obtain⟨h1,h2⟩:=hl x bz
  have hg:PG Y (.Name x px) (rX 0):=bI 0 b6 (by rw[hN];rfl) h1 h2
  refine aC (hg pins s (a::O) H v u (λO' H'=>O'=some v::O/\H'=H) I r ⟨rfl,rfl⟩) λ_ s' ⟨O',H',J,e1,e2⟩=>?_
  subst e1 e2
  exact⟨[v],_,rfl,J,h⟩
def Xr:yo K [x,z] (.Tuple [.Name x px,.Name z pz] ck tp) (λv H R=>∃a v1 v2,v = .ref a/\ak K H a [v1,v2]/\R [v1,v2] H):=by
 intro Y ns hN b6 hl hK vp pins s vs O H v u R hv I r h
 subst hK
 match vs,hv,I with
 |[a,b],_,I=>
  obtain⟨h1,h2⟩:=hl x bz
  obtain⟨h3,h4⟩:=hl z (bX _ bz)
  obtain⟨ad,v1,v2,e,hq,h⟩:=h
  have hg:PG Y (.Tuple [.Name x px,.Name z pz] ck tp) (Mj Y.K 2 (ER (rX 0) (ER (rX 1) Mi))):=kT vp (eC (bI 0 b6 (by rw[hN];rfl) h1 h2) (eC (bI 1 b6 (by rw[hN];rfl) h3 h4) kR))
  refine aC (hg pins s (a::b::O) H v u (λO' H'=>O'=some v1::some v2::O/\H'=H) I r ⟨ad,[v1,v2],e,hq,rfl,v1,[v2],rfl,v2,[],rfl,rfl,rfl,rfl⟩) λ_ s' ⟨O',H',J,e1,e2⟩=>?_
  subst e1 e2
  exact⟨[v1,v2],_,rfl,J,h⟩
section
variable{X:Cx}{xs own:List Str}{tg:Expr}{G:TU}{iter elt:Expr}{ifs:List Expr}{scope:Scope}{pos:Pos}{ns:List Str}{js:List Nat}{cl:List (Str×Addr)}{wi:TI}{tt:TT}{te:TE}
def Nt{O:St}{H₂:Hp}{J:It}{Q:VK}
  (L:Fy X own scope cl) (hc:X.calm=true) (hj:js.map (λj=>X.N[j]?)=ns.map some) (qy:∀y∈ns,X.env.scope.names.lookup y=some .cell)
  (aY:∀y∈ns,((relabel scope X.env).names.lookup y=some .cell\/(relabel scope X.env).names.lookup y=some .free)/\y∉own) (hx:∀x∈xs,scope.names.lookup x=some .local\/(scope.names.lookup x=some .cell/\own.contains x=true)) (b6:(xs++ns).Nodup) (TG:yo X.K xs tg G)
  (ht:∀fp pins s H,qz (fu X xs own ns scope cl fp pins s H) ifs tt) (he:∀fp pins s H,PE (fu X xs own ns scope cl fp pins s H) elt te)
  (I2:Inv X pins O H₂ s₂) (T:Turn X.prog X.w X.K tg J fp it tn) (kW:tn 0 s₂.heap) (f2:∀b∈fp,fL X pins H₂ b) (hq:FD G js tt te O J H₂ Q)
  (Xt:∀D H3 s',(∃m,s'.heap.Ns (s₂.heap.objs.size+1) m)->H3 (s₂.heap.objs.size+1)=none->(∀h2,(∀b o,b≠s₂.heap.objs.size+1->s'.heap.get? b=some o->h2.get? b=some o)->Inv X pins O H3 { s' with heap:=h2 })->Q (.ref D) H3->RR (.ref D) (s₂.heap.objs.size+1) (.ok .next) s') :
  wpAny (model X.prog X.w) X.A (newList []) (λacc s₃=>wpAny (model X.prog X.w) X.A (newFunctionEnv scope X.env.globals cl [] X.env.qual none .none (some X.env)) (λNu s₄=>
   codeAny (model X.prog X.w) X.A (.compStart (.ListComp elt [⟨tg,iter,ifs,0⟩] scope pos) 0 (.ref it) acc { Nu with scope:=relabel scope X.env }) (RR acc Nu.locals) s₄) E s₃) E s₂:=by
 have hD:H₂ s₂.heap.objs.size=none:=I2.fresh
 have I3:Inv X pins O (upd H₂ s₂.heap.objs.size (.lst [])) { s₂ with heap:=s₂.heap.push { cls := .type "list",data := .seq ([]:List Value).toArray } }:=I2.Fg (ys:=[]) (its:=[]) (t':=s₂.toks) .nil (bG _)
 obtain⟨W,⟨m0,w0⟩,turn⟩:=hq _ hD
 refine uJ (Xl L.cell L.eM ?_)
 have Bu:∀b∈fp,b<s₂.heap.objs.size:=λb hb=>let ⟨_,e,_⟩:=T.obj 0 _ kW b hb;bA e
 have Nv:(s₂.heap.push { cls := .type "list",data := .seq ([]:List Value).toArray }).objs.size=s₂.heap.objs.size+1:=lI ..
 obtain⟨h₁,Bv⟩:∃h₁,h₁=Bt ((s₂.heap.push { cls := .type "list",data := .seq ([]:List Value).toArray }).push { cls := .type "dict",data := .dict #[] }) own:=⟨_,rfl⟩
 have dS:∀b o,(s₂.heap.push { cls := .type "list",data := .seq ([]:List Value).toArray }).get? b=some o->h₁.get? b=some o:=λb o e=>by rw[Bv];exact Nk (bu _ e)
 have Xu:h₁.Ns (s₂.heap.push { cls := .type "list",data := .seq ([]:List Value).toArray }).objs.size (λ_=>none):=by rw[Bv];exact(Heap.Ns.new _ (.type "dict")).keeps λb o e=>Nk e
 have jo:∀y∈own,h₁.IsCell ((s₂.heap.push { cls := .type "list",data := .seq ([]:List Value).toArray }).objs.size+1) none:=λy my=>by
  rw[Bv,<-lI (s₂.heap.push { cls := .type "list",data := .seq ([]:List Value).toArray }) { cls := .type "dict",data := .dict #[] }]
  match own,my with
  |_::_,_=>exact⟨{ cls := .type "cell",data := .cell none },cz _ rfl,rfl⟩
 show codeAny _ _ _ _ { s₂ with heap:=Bt ((s₂.heap.push { cls := .type "list",data := .seq ([]:List Value).toArray }).push { cls := .type "dict",data := .dict #[] }) own }
 rw[<-Bv]
 have f3:∀b∈fp,fL X pins (upd H₂ s₂.heap.objs.size (.lst [])) b:=λb hb=>⟨by rw[ar (bR (Bu b hb))];exact(f2 b hb).1,(f2 b hb).2⟩
 have C0:=Xo (xs:=xs) (tk:=s₂.toks) I3 L hj qy aY jo f3 (λb hb=>gu (Bu b hb) (by rw[Nv];exact gw _)) Xu dS
 have xZ:tn 0 h₁:=T.keep _ _ _ kW λb hb o e=>dS b o (bu _ e)
 generalize FE:({ s₂ with heap:=s₂.heap.push { cls := .type "list",data := .seq ([]:List Value).toArray } }:Shared)=s₃ at *
 have hsz:s₃.heap.objs.size=s₂.heap.objs.size+1:=by rw[<-FE];exact Nv
 have loop:∀s₄:Shared,s₄={ s₃ with heap:=h₁ } ->
   codeAny (model X.prog X.w) X.A (.compLoop (.ListComp elt [⟨tg,iter,ifs,0⟩] scope pos) 0 (.ref it) (.ref s₂.heap.objs.size) (compEnvC scope (oj own s₃.heap.objs.size++cl) s₃.heap.objs.size X.env)) (RR (.ref s₂.heap.objs.size) s₃.heap.objs.size) s₄:=by
  rintro s₄ rfl
  refine Xi (λn s' =>∃i vs H',vs.length=xs.length/\Inv (fu X xs own ns scope cl fp pins s₃ (upd H₂ s₂.heap.objs.size (.lst []))) [] (vs++fO js O) H' s'/\tn i s'.heap/\(∀b∈fp,H' b=none)/\W i n H') ?_ m0
   ⟨0,_,_,aw _,by subst FE;exact C0,xZ,λb hb=>(f3 b hb).1,w0⟩
  rintro n s5 ⟨i,v5,H5,l5,J5,vc,A4,w5⟩
  have FF:∀{H':Hp},(∀b∈fp,H' b=none)->∀b∈fp,fL (fu X xs own ns scope cl fp pins s₃ (upd H₂ s₂.heap.objs.size (.lst []))) [] H' b:=λhn b hb=>by
   refine⟨hn b hb,?_,?_,.inl hb,λy c e=>?_,λp hp=>?_⟩
   .show b≠s₃.heap.objs.size
    rw[hsz]
    exact bR (nU (Bu b hb))
   .intro z
    rcases cw.mp (I2.xN b z) with z | z
    .exact(f2 b hb).2.1 z
    .exact(f2 b hb).2.2.1 z
   .rcases sJ e with ⟨_,e⟩ | ⟨_,e⟩
    .rw[e];exact λz=>absurd (Bu b hb) (by rw[<-z,hsz];exact Nat.not_lt.mpr (bF (gw _) (gw _)))
    .exact(f2 b hb).2.2.2.2.1 y c (L.sub _ _ e)
   .have hp:p∈(X.pn++pins)++[]:=hp
    exact(f2 b hb).2.2.2.2.2 p (by simpa using hp)
  rcases turn i n H5 w5 with ⟨stop,qn⟩ | ⟨go,step⟩
  .refine aC (T.done (fu X xs own ns scope cl fp pins s₃ _) rfl rfl rfl hc i [] s5 _ H5 (λ_ _=>False) J5 (FF A4) vc stop) λr s6 ⟨hr,J6⟩=>?_
   subst hr
   show RR _ _ (.ok .next) s6
   rw[hsz]
   refine Xt _ H5 s6 ?_ (by rw[<-hsz];exact J6.free) (λh2 jq=>?_) qn
   .obtain⟨mm,hn,_⟩:=J6.loc
    exact⟨mm,by rw[<-hsz];exact hn⟩
   .refine Inv.Xp I3 f3 J6 λb o hb e=>jq b o ?_ e
    rw[<-hsz];exact hb
  .refine aC (T.item (fu X xs own ns scope cl fp pins s₃ _) rfl rfl rfl hc i [] s5 _ H5 (λ_ _=>False) J5 (FF A4) vc go) λr s6 ⟨u,hr,h6⟩=>?_
   subst hr
   refine aC h6 λ_ s7 ⟨xv,H7,J7,r7,y7,FG,Xv⟩=>?_
   have Xw:=J7.pinned (FF Xv) (T.obj _ _ FG)
   have hl:∀x∈xs,Loc (relabel scope X.env) x/\(own.contains x=true\/(relabel scope X.env).names.lookup x=some .local):=λx mx=>by
    rcases hx x mx with z | ⟨z,z'⟩
    .exact⟨.inl (lookup_relabel_local z),.inr (lookup_relabel_local z)⟩
    .exact⟨.inr ((Bs.2 _ z).elim id λq=>nomatch q.1),.inl z'⟩
   refine aC (TG (fu X xs own ns scope cl fp pins s₃ (upd H₂ s₂.heap.objs.size (.lst []))) ns rfl b6 hl rfl hc _ s7 v5 _ H7 xv u _ l5 Xw r7 (step xv H7 y7)) λ_ s8 ⟨us,H8,l8,J8,q8⟩=>?_
   have fin:∀{H':Hp}{s':Shared},Inv (fu X xs own ns scope cl fp pins s₃ (upd H₂ s₂.heap.objs.size (.lst []))) ([]++xY fp s7.heap) (us.map some++fO js O) H' s'->(∃m',m'<n/\W (i+1) m' H')->
     ∃m',m'<n/\∃i vs H',vs.length=xs.length/\Inv (fu X xs own ns scope cl fp pins s₃ (upd H₂ s₂.heap.objs.size (.lst []))) [] (vs++fO js O) H' s'/\tn i s'.heap/\(∀b∈fp,H' b=none)/\W i m' H':=λ{H' s'} J9 ⟨m',hm,w9⟩=>by
    refine⟨m',hm,i+1,us.map some,H',(aw _).trans l8,J9.u9,T.keep _ _ _ FG λb hb o e=>(J9.pin (b,o) (jc _ (jc _ (A3 hb e)))).1,λb hb=>?_,w9⟩
    obtain⟨o,e,d⟩:=T.obj _ _ FG b hb
    exact(J9.pin (b,o) (jc _ (jc _ (A3 hb e)))).2.1
   refine aC (ht fp pins s₃ _ _ s8 _ H8 _ J8 q8) λok s9 ⟨H9,J9,q9⟩=>?_
   cases ok with
   |false=>
    rw[av b8] at q9 ⊢
    exact fin J9 q9
   |true=>
    rw[az rfl] at q9 ⊢
    refine aC (he fp pins s₃ _ _ s9 _ H9 _ J9 q9) λyv vq h_=>?_
    obtain⟨y,FH,Xx,Xy,ys,Xz,hz,m',hm,XA⟩:=h_
    refine aC (gS _ vq _ FH (.ref s₂.heap.objs.size) [y] _ [yv] (λ_ H'=>H'=upd FH s₂.heap.objs.size (.lst (ys++[y]))) Xx rfl (.cons Xy .nil) ⟨_,ys,y,rfl,rfl,Xz,hz,rfl⟩) λ_ yp ⟨_,XB,XC,_,Nx⟩=>?_
    subst Nx
    exact fin XC ⟨m',hm,XA⟩
 have eN:=loop _ rfl
 subst FE
 exact codeAny_compStart_list eN (T.self _ 0 _ _ _ xZ eN)
def Ny(TG:yo X.K xs tg G)(hi:PI X tg iter wi)(hc:X.calm=true)(hk:scope.kind = .function)(hj:js.map (λj=>X.N[j]?)=ns.map some)(ho:sL xs own ns scope.names X.env.scope.names=true)
  (ht:∀fp pins s H,qz (fu X xs own ns scope (fN X.env.cells scope.names []) fp pins s H) ifs tt) (he:∀fp pins s H,PE (fu X xs own ns scope (fN X.env.cells scope.names []) fp pins s H) elt te) (hs:∀x,foldedSetIterable iter X.env x=pure x:=by intro _;rfl) :
  PE X (.ListComp elt [⟨tg,iter,ifs,0⟩] scope pos) (λO H Q=>wi O H λJ H1=>FD G js tt te O J H1 Q):=by
 intro pins s O H Q I h
 obtain⟨L,qy,aY,hx,b6⟩:=Nm I hk ho
 rw[eval_ListComp]
 refine wpAny_comprehension_free (use:=none) rfl hs L.Nj L.kind L.names (aC (hi pins s O H _ I h) λv s1 h1=>aC h1 λAZ s2 h2=>?_)
 obtain⟨it,fp,tn,J,H2,e,I2,T,kW,f2,hq⟩:=h2
 subst e
 refine Nt (RR:=λacc C=>compPost (model X.prog X.w) X.A X.xe none (EP X pins O Q) acc C) L hc hj qy aY hx b6 TG ht he I2 T kW f2 hq ?_
 intro D H3 s' ⟨m,hn⟩ om hI q
 exact⟨m,hn,λh' sb=>⟨.ref D,H3,hI h' λb o hb e=>sb.extBut b o hb e,rfl,q⟩⟩
def XD(TG:yo X.K xs tg G)(hN:X.N.Nodup)(hy:X.N[i]? = some y)(sM:Loc X.env.scope y)(hi:PI X tg iter wi)(hc:X.calm=true)(hk:scope.kind = .function)(hj:js.map (λj=>X.N[j]?)=ns.map some)(ho:sL xs own ns scope.names X.env.scope.names=true)
  (ht:∀fp pins s H,qz (fu X xs own ns scope (fN X.env.cells scope.names []) fp pins s H) ifs tt) (he:∀fp pins s H,PE (fu X xs own ns scope (fN X.env.cells scope.names []) fp pins s H) elt te)
  (FI:swapsWith (.ListComp elt [⟨tg,iter,ifs,0⟩] scope pos) (some (.Name y py)) yq.line X.env=pure true:=by rfl) (hs:∀x,foldedSetIterable iter X.env x=pure x:=by intro _;rfl)
  (hf:X.fn y=true\/X.env.scope.names.lookup y=some .local:=by first | exact .inl rfl | exact .inr rfl | assumption) :
  PS X (.Assign [.Name y py] (.ListComp elt [⟨tg,iter,ifs,0⟩] scope pos) yq) (xX (λO H Q=>wi O H λJ H1=>FD G js tt te O J H1 Q) (rX i)):=by
 intro pins s O H D I h
 obtain⟨L,qy,aY,hx,b6⟩:=Nm I hk ho
 rw[exec_Assign_Name_used _ _ _ _ FI]
 refine ah (Ee (ah ?_))
 show wpAny _ X.A (do let _<-comprehension (.ListComp elt [⟨tg,iter,ifs,0⟩] scope pos) scope X.env _ (newList []) false (eval iter X.env) (some (assign (.Name y py) X.env))) _ _ s
 refine ah (aC (wpAny_comprehension_free (use:=some (assign (.Name y py) X.env)) (Q:=λ_ s'=>SP X pins D .next s') rfl hs L.Nj L.kind L.names
  (aC (hi pins s O H _ I h) λv s1 h1=>aC h1 λAZ s2 h2=>?_)) λ_ s' hq=>aL (aL hq))
 obtain⟨it,fp,tn,J,H2,e,I2,T,kW,f2,hq⟩:=h2
 subst e
 refine Nt (Q:=λz H1=>D.nx (O.set i (some z)) H1) (RR:=λacc C=>compPost (model X.prog X.w) X.A X.xe (some (assign (.Name y py) X.env)) (λ_ s'=>SP X pins D .next s') acc C) L hc hj qy aY hx b6 TG ht he I2 T kW f2 hq ?_
 intro Dd H3 s' ⟨m,hn⟩ om hI q
 have I3:Inv X pins O H3 s':=hI s'.heap λ_ _ _ e=>e
 have vt:fL X pins H3 (s2.heap.objs.size+1):=I2.kU (gw _) om
 obtain⟨o,es,ep,ho,hd,r⟩:=hn
 have I4:Inv X (pins++[(s2.heap.objs.size+1,o)]) O H3 s':=I3.xP λp hp=>(cS.mp hp).elim (λz=>I3.pin p (jc _ z)) λz=>by
  have e:p=(s2.heap.objs.size+1,o):=by simpa using z
  subst e
  exact⟨ho,om,vt.2.1,vt.2.2.1,λv z=>by rw[hd] at z;cases z⟩
 show wpAny _ X.A (assign (.Name y py) X.env (.ref Dd)) _ _ s'
 refine wpAny_assign_Name (xS I4 hN hy sM (v := .ref Dd) rfl (λs4 I5=>?_) hf)
 have hp:=I5.pin (s2.heap.objs.size+1,o) (by simp)
 refine⟨m,⟨o,es,ep,hp.1,hd,r⟩,λh' sb=>⟨_,H3,?_,q⟩⟩
 refine(I5.u9 (pl:=[(s2.heap.objs.size+1,o)])).turned (t':=s4.toks) (it:=s2.heap.objs.size+1) (λb o' hb e=>sb.extBut b o' hb e) om vt.2.1 vt.2.2.2.1 vt.2.2.2.2.1 vt.2.2.2.2.2
def iS(hi:PI X (.Name x px) iter wi)(hc:X.calm=true)(hk:scope.kind = .function)(hj:js.map (λj=>X.N[j]?)=ns.map some)(ho:sL [x] [] ns scope.names X.env.scope.names=true)
  (ht:∀fp pins s H,qz (fu X [x] [] ns scope (fN X.env.cells scope.names []) fp pins s H) ifs tt) (he:∀fp pins s H,PE (fu X [x] [] ns scope (fN X.env.cells scope.names []) fp pins s H) elt te) (hs:∀x,foldedSetIterable iter X.env x=pure x:=by intro _;rfl) :
  PE X (.ListComp elt [⟨.Name x px,iter,ifs,0⟩] scope pos) (Nq js wi tt te):=Ny Nr hi hc hk hj ho ht he hs
def vv(hN:X.N.Nodup)(hy:X.N[i]? = some y)(sM:Loc X.env.scope y)(hi:PI X (.Name x px) iter wi)(hc:X.calm=true)(hk:scope.kind = .function)(hj:js.map (λj=>X.N[j]?)=ns.map some)(ho:sL [x] [] ns scope.names X.env.scope.names=true)
  (ht:∀fp pins s H,qz (fu X [x] [] ns scope (fN X.env.cells scope.names []) fp pins s H) ifs tt) (he:∀fp pins s H,PE (fu X [x] [] ns scope (fN X.env.cells scope.names []) fp pins s H) elt te)
  (FI:swapsWith (.ListComp elt [⟨.Name x px,iter,ifs,0⟩] scope pos) (some (.Name y py)) yq.line X.env=pure true:=by rfl) (hs:∀x,foldedSetIterable iter X.env x=pure x:=by intro _;rfl)
  (hf:X.fn y=true\/X.env.scope.names.lookup y=some .local:=by first | exact .inl rfl | exact .inr rfl | assumption) :
  PS X (.Assign [.Name y py] (.ListComp elt [⟨.Name x px,iter,ifs,0⟩] scope pos) yq) (xX (Nq js wi tt te) (rX i)):=XD Nr hN hy sM hi hc hk hj ho ht he FI hs hf
def Nz(hi:PI X (.Tuple [.Name x px,.Name z pz] ck tp) iter wi)(hc:X.calm=true)(hk:scope.kind = .function)(hj:js.map (λj=>X.N[j]?)=ns.map some)(ho:sL [x,z] [] ns scope.names X.env.scope.names=true)
  (ht:∀fp pins s H,qz (fu X [x,z] [] ns scope (fN X.env.cells scope.names []) fp pins s H) ifs tt) (he:∀fp pins s H,PE (fu X [x,z] [] ns scope (fN X.env.cells scope.names []) fp pins s H) elt te) (hs:∀x,foldedSetIterable iter X.env x=pure x:=by intro _;rfl) :
  PE X (.ListComp elt [⟨.Tuple [.Name x px,.Name z pz] ck tp,iter,ifs,0⟩] scope pos) (Xq X.K js wi tt te):=Ny Xr hi hc hk hj ho ht he hs
end
inductive D where
 |aB
 |bl (b:Bool)
 |int (i:Int)
 |str (x:Str)
 |tup (ds:List D)
 |lst (ds:List D)
mutual
def At(K:Frag)(H:Hp):D->V->Prop
 |.aB,v=>v = .aB
 |.bl b,v=>v = .bl b
 |.int i,v=>v = .int i
 |.str x,v=>v = .str x
 |.tup ds,v=>∃a xs,v = .ref a/\ak K H a xs/\eO K H ds xs
 |.lst ds,v=>∃a xs,v = .ref a/\aj K H a xs/\eO K H ds xs
def eO(K:Frag)(H:Hp):List D->List V->Prop
 |[],xs=>xs=[]
 |d::ds,xs=>∃x r,xs=x::r/\At K H d x/\eO K H ds r
end
mutual
theorem At.mono{K:Frag}{H H':Hp}(s:af H H'):∀(d:D) (v:V),At K H d v->At K H' d v
 |.aB,_,h=>h
 |.bl _,_,h=>h
 |.int _,_,h=>h
 |.str _,_,h=>h
 |.tup ds,_,⟨a,xs,e,q,l⟩=>⟨a,xs,e,s.tup q,eO.mono s ds xs l⟩
 |.lst ds,_,⟨a,xs,e,q,l⟩=>⟨a,xs,e,s.seq q,eO.mono s ds xs l⟩
theorem eO.mono{K:Frag}{H H':Hp}(s:af H H'):∀(ds:List D) (xs:List V),eO K H ds xs->eO K H' ds xs
 |[],_,h=>h
 |d::ds,_,⟨x,r,e,h,t⟩=>⟨x,r,e,At.mono s d x h,eO.mono s ds r t⟩
end
theorem eO.length{K:Frag}{H:Hp}:∀{ds:List D}{xs:List V},eO K H ds xs->xs.length=ds.length
 |[],_,h=>by rw[show _=[] from h];rfl
 |_::ds,_,⟨x,r,e,_,t⟩=>by rw[e,dO,dO,eO.length t]
mutual
noncomputable def fP:D->D->Bool
 |.aB,.aB=>true
 |.bl a,.bl b=>a==b
 |.bl a,.int b=>(if a then 1 else 0)==b
 |.int a,.bl b=>a==(if b then 1 else 0)
 |.int a,.int b=>a==b
 |.str a,.str b=>a==b
 |.tup a,.tup b=>gU a b
 |.lst a,.lst b=>gU a b
 |_,_=>false
noncomputable def gU:List D->List D->Bool
 |[],[]=>true
 |a::r,b::t=>fP a b&&gU r t
 |_,_=>false
end
mutual
noncomputable def dep:D->Nat
 |.tup ds=>iT ds+1
 |.lst ds=>iT ds+1
 |_=>0
noncomputable def iT:List D->Nat
 |[]=>0
 |d::r=>max (dep d) (iT r)
end
mutual
theorem sN:∀d:D,fP d d=true
 |.aB=>rfl
 |.bl b=>by simp[fP]
 |.int i=>by simp[fP]
 |.str x=>by simp[fP]
 |.tup ds=>by rw[fP];exact FJ ds
 |.lst ds=>by rw[fP];exact FJ ds
theorem FJ:∀ds:List D,gU ds ds=true
 |[]=>rfl
 |d::r=>by rw[gU,sN d,FJ r];rfl
end
noncomputable def oq:List D->List D->List Bool
 |a::r,b::t=>fP a b::oq r t
 |_,_=>[]
theorem ou:∀(ds es:List D),((List.range (min ds.length es.length)).all (λj=>(oq ds es).getD j true)&&ds.length==es.length)=gU ds es
 |[],[]=>rfl
 |[],_::_=>rfl
 |_::_,[]=>by simp[gU]
 |a::r,b::t=>by
  have ih:=ou r t
  have e:min (a::r).length (b::t).length=min r.length t.length+1:=by simp only[dO];lia
  rw[e,LD,List.all_cons,uK,gU,<-ih]
  have e2:((a::r).length==(b::t).length)=(r.length==t.length):=by simp
  rw[e2]
  show(fP a b&&_&&_)=_
  rw[Bool.and_assoc]
  rfl
section
variable{X:Cx}{pins:List (Addr×Obj)}{O:St}{H:Hp}{s:Shared}
mutual
theorem At.inj(I:Inv X pins O H s):∀(d e:D) (x:V),At X.K H d x->At X.K H e x->d=e
 |.aB,e,x,h,g=>by
  cases(show x = .aB from h)
  cases e with
  |aB=>rfl
  |tup ds=>obtain⟨a,xs,z,_⟩:=g;cases z
  |lst ds=>obtain⟨a,xs,z,_⟩:=g;cases z
  |bl b=>cases(show V.aB = .bl b from g)
  |int b=>cases(show V.aB = .int b from g)
  |str b=>cases(show V.aB = .str b from g)
 |.bl k,e,x,h,g=>by
  cases(show x = .bl k from h)
  cases e with
  |aB=>cases(show V.bl k = .aB from g)
  |tup ds=>obtain⟨a,xs,z,_⟩:=g;cases z
  |lst ds=>obtain⟨a,xs,z,_⟩:=g;cases z
  |bl b=>cases(show V.bl k = .bl b from g);rfl
  |int b=>cases(show V.bl k = .int b from g)
  |str b=>cases(show V.bl k = .str b from g)
 |.int k,e,x,h,g=>by
  cases(show x = .int k from h)
  cases e with
  |aB=>cases(show V.int k = .aB from g)
  |tup ds=>obtain⟨a,xs,z,_⟩:=g;cases z
  |lst ds=>obtain⟨a,xs,z,_⟩:=g;cases z
  |bl b=>cases(show V.int k = .bl b from g)
  |int b=>cases(show V.int k = .int b from g);rfl
  |str b=>cases(show V.int k = .str b from g)
 |.str k,e,x,h,g=>by
  cases(show x = .str k from h)
  cases e with
  |aB=>cases(show V.str k = .aB from g)
  |tup ds=>obtain⟨a,xs,z,_⟩:=g;cases z
  |lst ds=>obtain⟨a,xs,z,_⟩:=g;cases z
  |bl b=>cases(show V.str k = .bl b from g)
  |int b=>cases(show V.str k = .int b from g)
  |str b=>cases(show V.str k = .str b from g);rfl
 |.tup ds,e,x,h,g=>by
  obtain⟨a,xs,z,q,l⟩:=h
  subst z
  cases e with
  |aB=>cases(show V.ref a = .aB from g)
  |bl b=>cases(show V.ref a = .bl b from g)
  |int b=>cases(show V.ref a = .int b from g)
  |str b=>cases(show V.ref a = .str b from g)
  |tup es=>
   obtain⟨b,ys,z,q',l'⟩:=g
   cases z
   have e:=I.EM q q'
   subst e
   rw[eO.inj I ds es xs l l']
  |lst es=>
   obtain⟨b,ys,z,q',l'⟩:=g
   cases z
   obtain⟨_,_,p1,_⟩:=I.tuple q
   obtain⟨_,_,p2,_⟩:=I.list q'
   exact absurd rfl (SeqAt.ne_of_list_tuple p2.isList p1)
 |.lst ds,e,x,h,g=>by
  obtain⟨a,xs,z,q,l⟩:=h
  subst z
  cases e with
  |aB=>cases(show V.ref a = .aB from g)
  |bl b=>cases(show V.ref a = .bl b from g)
  |int b=>cases(show V.ref a = .int b from g)
  |str b=>cases(show V.ref a = .str b from g)
  |lst es=>
   obtain⟨b,ys,z,q',l'⟩:=g
   cases z
   have e:=I.EL q q'
   subst e
   rw[eO.inj I ds es xs l l']
  |tup es=>
   obtain⟨b,ys,z,q',l'⟩:=g
   cases z
   obtain⟨_,_,p1,_⟩:=I.tuple q'
   obtain⟨_,_,p2,_⟩:=I.list q
   exact absurd rfl (SeqAt.ne_of_list_tuple p2.isList p1)
theorem eO.inj(I:Inv X pins O H s):∀(ds es:List D) (xs:List V),eO X.K H ds xs->eO X.K H es xs->ds=es
 |[],[],_,_,_=>rfl
 |[],_::_,xs,h,⟨x,r,e,_⟩=>by rw[show xs=[] from h] at e;cases e
 |_::_,[],xs,⟨x,r,e,_⟩,h=>by rw[show xs=[] from h] at e;cases e
 |d::ds,e::es,xs,⟨x,r,z,h,t⟩,⟨y,q,z',h',t'⟩=>by
  subst z
  cases z'
  rw[At.inj I d e x h h',eO.inj I ds es r t t']
end
mutual
theorem XF(I:Inv X pins O H s):∀(d e:D) (x y:V) (u v:Value) (A:Around) (n:Nat),dep d<=n->A.units+n<cLine->At X.K H d x->At X.K H e y->RelV x u->RelV y v->SeqAt.EqAt A s u v (fP d e)
 |.tup ds,.tup es,x,y,u,v,A,n,hn,hu,h,g,rx,ry=>by
  by_cases same:x=y
  .subst same
   cases At.inj I _ _ x h g
   rw[sN]
   obtain⟨a,xs,rfl,_⟩:=h
   cases rx
   cases ry
   exact SeqAt.EqAt.same _
  .obtain⟨a,xs,rfl,q,l⟩:=h
   obtain⟨b,ys,rfl,q',l'⟩:=g
   cases rx
   cases ry
   obtain⟨its,r,p,_⟩:=I.tuple q
   obtain⟨cA,r',p',_⟩:=I.tuple q'
   have hn:iT ds+1<=n:=hn
   have l1:its.length=ds.length:=by rw[<-r.length,l.length]
   have l2:cA.length=es.length:=by rw[<-r'.length,l'.length]
   have R:=SeqAt.RcAt.tuples (A:=A) (s:=s) (e:=λj=>(oq ds es).getD j true) p p' (by lia) λj h1 h2=>by
    have jr:j<its.length:=by simpa using h1
    have iU:j<cA.length:=by simpa using h2
    have:=sO I ds es xs ys its cA A.in1 (n - 1) (by lia) (by show A.units+1+(n - 1)<cLine;lia) l l' r r' j jr iU
    simpa using this
   have E:=SeqAt.EqAt.of_refs (λz=>same (by rw[z])) R
   rw[br,br,l1,l2,ou] at E
   exact E
 |.lst ds,.lst es,x,y,u,v,A,n,hn,hu,h,g,rx,ry=>by
  by_cases same:x=y
  .subst same
   cases At.inj I _ _ x h g
   rw[sN]
   obtain⟨a,xs,rfl,_⟩:=h
   cases rx
   cases ry
   exact SeqAt.EqAt.same _
  .obtain⟨a,xs,rfl,q,l⟩:=h
   obtain⟨b,ys,rfl,q',l'⟩:=g
   cases rx
   cases ry
   obtain⟨its,r,p,_⟩:=I.list q
   obtain⟨cA,r',p',_⟩:=I.list q'
   have hn:iT ds+1<=n:=hn
   have l1:its.length=ds.length:=by rw[<-r.length,l.length]
   have l2:cA.length=es.length:=by rw[<-r'.length,l'.length]
   refine SeqAt.EqAt.of_refs (λz=>same (by rw[z])) ?_
   show SeqAt.RcAt A s (.ref a) (.ref b) (gU ds es)
   rw[<-ou ds es]
   by_cases hl:ds.length=es.length
   .have R:=SeqAt.RcAt.lists (A:=A) (s:=s) (e:=λj=>(oq ds es).getD j true) p.isList p'.isList (by rw[br,br,l1,l2,hl]) (by lia) λj h1 h2=>by
     have jr:j<its.length:=by simpa using h1
     have iU:j<cA.length:=by simpa using h2
     have:=sO I ds es xs ys its cA A.in1 (n - 1) (by lia) (by show A.units+1+(n - 1)<cLine;lia) l l' r r' j jr iU
     simpa using this
    rw[br,l1] at R
    rw[<-hl,Nat.min_self,AH,Er]
    exact R
   .have R:=SeqAt.RcAt.lists_lengths (A:=A) (s:=s) p.isList p'.isList (by rw[br,br,l1,l2];simpa using hl) (by lia)
    rw[show(ds.length==es.length)=false by simpa using hl,uD]
    exact R
 |.tup ds,.lst es,x,y,u,v,A,n,hn,hu,h,g,rx,ry=>by
  obtain⟨a,xs,rfl,q,l⟩:=h
  obtain⟨b,ys,rfl,q',l'⟩:=g
  cases rx
  cases ry
  obtain⟨its,r,p,_⟩:=I.tuple q
  obtain⟨cA,r',p',_⟩:=I.list q'
  exact SeqAt.EqAt.tuple_list p p'.isList (by lia)
 |.lst ds,.tup es,x,y,u,v,A,n,hn,hu,h,g,rx,ry=>by
  obtain⟨a,xs,rfl,q,l⟩:=h
  obtain⟨b,ys,rfl,q',l'⟩:=g
  cases rx
  cases ry
  obtain⟨its,r,p,_⟩:=I.list q
  obtain⟨cA,r',p',_⟩:=I.tuple q'
  exact SeqAt.EqAt.list_tuple p.isList p' (by lia)
 |.aB,.aB,x,y,u,v,A,n,hn,hu,h,g,rx,ry=>by cases(show x=_ from h);cases(show y=_ from g);exact gQ rx ry rfl rfl
 |.aB,.bl _,x,y,u,v,A,n,hn,hu,h,g,rx,ry=>by cases(show x=_ from h);cases(show y=_ from g);exact gQ rx ry rfl rfl
 |.aB,.int _,x,y,u,v,A,n,hn,hu,h,g,rx,ry=>by cases(show x=_ from h);cases(show y=_ from g);exact gQ rx ry rfl rfl
 |.aB,.str _,x,y,u,v,A,n,hn,hu,h,g,rx,ry=>by cases(show x=_ from h);cases(show y=_ from g);exact gQ rx ry rfl rfl
 |.bl _,.aB,x,y,u,v,A,n,hn,hu,h,g,rx,ry=>by cases(show x=_ from h);cases(show y=_ from g);exact gQ rx ry rfl rfl
 |.bl _,.bl _,x,y,u,v,A,n,hn,hu,h,g,rx,ry=>by cases(show x=_ from h);cases(show y=_ from g);exact gQ rx ry rfl rfl
 |.bl _,.int _,x,y,u,v,A,n,hn,hu,h,g,rx,ry=>by cases(show x=_ from h);cases(show y=_ from g);exact gQ rx ry rfl rfl
 |.bl _,.str _,x,y,u,v,A,n,hn,hu,h,g,rx,ry=>by cases(show x=_ from h);cases(show y=_ from g);exact gQ rx ry rfl rfl
 |.int _,.aB,x,y,u,v,A,n,hn,hu,h,g,rx,ry=>by cases(show x=_ from h);cases(show y=_ from g);exact gQ rx ry rfl rfl
 |.int _,.bl _,x,y,u,v,A,n,hn,hu,h,g,rx,ry=>by cases(show x=_ from h);cases(show y=_ from g);exact gQ rx ry rfl rfl
 |.int _,.int _,x,y,u,v,A,n,hn,hu,h,g,rx,ry=>by cases(show x=_ from h);cases(show y=_ from g);exact gQ rx ry rfl rfl
 |.int _,.str _,x,y,u,v,A,n,hn,hu,h,g,rx,ry=>by cases(show x=_ from h);cases(show y=_ from g);exact gQ rx ry rfl rfl
 |.str _,.aB,x,y,u,v,A,n,hn,hu,h,g,rx,ry=>by cases(show x=_ from h);cases(show y=_ from g);exact gQ rx ry rfl rfl
 |.str _,.bl _,x,y,u,v,A,n,hn,hu,h,g,rx,ry=>by cases(show x=_ from h);cases(show y=_ from g);exact gQ rx ry rfl rfl
 |.str _,.int _,x,y,u,v,A,n,hn,hu,h,g,rx,ry=>by cases(show x=_ from h);cases(show y=_ from g);exact gQ rx ry rfl rfl
 |.str _,.str _,x,y,u,v,A,n,hn,hu,h,g,rx,ry=>by cases(show x=_ from h);cases(show y=_ from g);exact gQ rx ry rfl rfl
 |.tup ds,.aB,x,y,u,v,A,n,hn,hu,⟨a,xs,z,q,l⟩,g,rx,ry=>by subst z;cases rx;cases(show y=_ from g);cases ry;obtain⟨its,r,p,_⟩:=I.tuple q;exact SeqAt.EqAt.tuple_none p (by lia)
 |.tup ds,.bl _,x,y,u,v,A,n,hn,hu,⟨a,xs,z,q,l⟩,g,rx,ry=>by subst z;cases rx;cases(show y=_ from g);cases ry;obtain⟨its,r,p,_⟩:=I.tuple q;exact SeqAt.EqAt.tuple_bool _ p (by lia)
 |.tup ds,.int _,x,y,u,v,A,n,hn,hu,⟨a,xs,z,q,l⟩,g,rx,ry=>by subst z;cases rx;cases(show y=_ from g);obtain⟨t,rfl⟩:=ry;obtain⟨its,r,p,_⟩:=I.tuple q;exact SeqAt.EqAt.tuple_int _ _ p (by lia)
 |.tup ds,.str _,x,y,u,v,A,n,hn,hu,⟨a,xs,z,q,l⟩,g,rx,ry=>by subst z;cases rx;cases(show y=_ from g);obtain⟨t,rfl⟩:=ry;obtain⟨its,r,p,_⟩:=I.tuple q;exact SeqAt.EqAt.tuple_str _ _ p (by lia)
 |.lst ds,.aB,x,y,u,v,A,n,hn,hu,⟨a,xs,z,q,l⟩,g,rx,ry=>by subst z;cases rx;cases(show y=_ from g);cases ry;obtain⟨its,r,p,_⟩:=I.list q;exact SeqAt.EqAt.list_none p.isList (by lia)
 |.lst ds,.bl _,x,y,u,v,A,n,hn,hu,⟨a,xs,z,q,l⟩,g,rx,ry=>by subst z;cases rx;cases(show y=_ from g);cases ry;obtain⟨its,r,p,_⟩:=I.list q;exact SeqAt.EqAt.list_bool _ p.isList (by lia)
 |.lst ds,.int _,x,y,u,v,A,n,hn,hu,⟨a,xs,z,q,l⟩,g,rx,ry=>by subst z;cases rx;cases(show y=_ from g);obtain⟨t,rfl⟩:=ry;obtain⟨its,r,p,_⟩:=I.list q;exact SeqAt.EqAt.list_int _ _ p.isList (by lia)
 |.lst ds,.str _,x,y,u,v,A,n,hn,hu,⟨a,xs,z,q,l⟩,g,rx,ry=>by subst z;cases rx;cases(show y=_ from g);obtain⟨t,rfl⟩:=ry;obtain⟨its,r,p,_⟩:=I.list q;exact SeqAt.EqAt.list_str _ _ p.isList (by lia)
 |.aB,.tup ds,x,y,u,v,A,n,hn,hu,g,⟨a,xs,z,q,l⟩,rx,ry=>by subst z;cases ry;cases(show x=_ from g);cases rx;obtain⟨its,r,p,_⟩:=I.tuple q;exact SeqAt.EqAt.none_tuple p (by lia)
 |.bl _,.tup ds,x,y,u,v,A,n,hn,hu,g,⟨a,xs,z,q,l⟩,rx,ry=>by subst z;cases ry;cases(show x=_ from g);cases rx;obtain⟨its,r,p,_⟩:=I.tuple q;exact SeqAt.EqAt.bool_tuple _ p (by lia)
 |.int _,.tup ds,x,y,u,v,A,n,hn,hu,g,⟨a,xs,z,q,l⟩,rx,ry=>by subst z;cases ry;cases(show x=_ from g);obtain⟨t,rfl⟩:=rx;obtain⟨its,r,p,_⟩:=I.tuple q;exact SeqAt.EqAt.int_tuple _ _ p (by lia)
 |.str _,.tup ds,x,y,u,v,A,n,hn,hu,g,⟨a,xs,z,q,l⟩,rx,ry=>by subst z;cases ry;cases(show x=_ from g);obtain⟨t,rfl⟩:=rx;obtain⟨its,r,p,_⟩:=I.tuple q;exact SeqAt.EqAt.str_tuple _ _ p (by lia)
 |.aB,.lst ds,x,y,u,v,A,n,hn,hu,g,⟨a,xs,z,q,l⟩,rx,ry=>by subst z;cases ry;cases(show x=_ from g);cases rx;obtain⟨its,r,p,_⟩:=I.list q;exact SeqAt.EqAt.none_list p.isList (by lia)
 |.bl _,.lst ds,x,y,u,v,A,n,hn,hu,g,⟨a,xs,z,q,l⟩,rx,ry=>by subst z;cases ry;cases(show x=_ from g);cases rx;obtain⟨its,r,p,_⟩:=I.list q;exact SeqAt.EqAt.bool_list _ p.isList (by lia)
 |.int _,.lst ds,x,y,u,v,A,n,hn,hu,g,⟨a,xs,z,q,l⟩,rx,ry=>by subst z;cases ry;cases(show x=_ from g);obtain⟨t,rfl⟩:=rx;obtain⟨its,r,p,_⟩:=I.list q;exact SeqAt.EqAt.int_list _ _ p.isList (by lia)
 |.str _,.lst ds,x,y,u,v,A,n,hn,hu,g,⟨a,xs,z,q,l⟩,rx,ry=>by subst z;cases ry;cases(show x=_ from g);obtain⟨t,rfl⟩:=rx;obtain⟨its,r,p,_⟩:=I.list q;exact SeqAt.EqAt.str_list _ _ p.isList (by lia)
theorem sO(I:Inv X pins O H s):∀(ds es:List D) (xs ys:List V) (us vs:List Value) (A:Around) (n:Nat),iT ds<=n->A.units+n<cLine->eO X.K H ds xs->eO X.K H es ys->Vals xs us->Vals ys vs->
  ∀(j:Nat) (h1:j<us.length) (h2:j<vs.length),SeqAt.EqAt A s us[j] vs[j] ((oq ds es).getD j true)
 |[],es,xs,ys,us,vs,A,n,hn,hu,h,g,r,r',j,h1,h2=>by
  rw[show xs=[] from h] at r
  cases r
  cases h1
 |d::ds,[],xs,ys,us,vs,A,n,hn,hu,h,g,r,r',j,h1,h2=>by
  rw[show ys=[] from g] at r'
  cases r'
  cases h2
 |d::ds,e::es,xs,ys,us,vs,A,n,hn,hu,⟨x,q,z,h,t⟩,⟨y,q',z',h',t'⟩,r,r',j,h1,h2=>by
  subst z
  subst z'
  have hn:max (dep d) (iT ds)<=n:=hn
  cases r with
  |cons r0 r1=>
   cases r' with
   |cons XG XH=>
    cases j with
    |zero=>exact XF I d e x y _ _ A n (by lia) hu h h' r0 XG
    |succ j=>exact sO I ds es q q' _ _ A n (by lia) hu t t' r1 XH j (Nat.lt_of_succ_lt_succ h1) (Nat.lt_of_succ_lt_succ h2)
end
def NA(K:Frag)(neg:Bool):R2:=λx y H Q=>∃d e,At K H d x/\At K H e y/\((∃ds es,d = .tup ds/\e = .tup es)\/(∃ds es,d = .lst ds/\e = .lst es))/\dep d<=50/\Q (.bl (if neg then !fP d e else fP d e)) H
end
section
variable{X:Cx}
theorem Bw(hu:X.A.units+64<cLine):cN X (compareOp .Eq) (NA X.K false):=by
 intro pins s O H x y v u Q I rx ry h
 obtain⟨d,e,h1,h2,hk,hd,q⟩:=h
 have q:Q (.bl (fP d e)) H:=q
 rcases hk with ⟨ds,es,rfl,rfl⟩ | ⟨ds,es,rfl,rfl⟩
 .obtain⟨a,xs,rfl,p,l⟩:=h1
  obtain⟨b,ys,rfl,p',l'⟩:=h2
  cases rx
  cases ry
  obtain⟨its,r,t,_⟩:=I.tuple p
  obtain⟨cA,r',t',_⟩:=I.tuple p'
  have hd:iT ds+1<=50:=hd
  have l1:its.length=ds.length:=by rw[<-r.length,l.length]
  have l2:cA.length=es.length:=by rw[<-r'.length,l'.length]
  refine SeqAt.eq_tupleAt (e:=λj=>(oq ds es).getD j true) t t' (by lia) (λj h1 h2=>?_) ⟨.bl (gU ds es),H,I,?_,q⟩
  .have jr:j<its.length:=by simpa using h1
   have iU:j<cA.length:=by simpa using h2
   have:=sO I ds es xs ys its cA X.A.in1 49 (by lia) (by show X.A.units+1+49<cLine;lia) l l' r r' j jr iU
   simpa using this
  .show Value.bool _=Value.bool _
   rw[br,br,l1,l2,ou]
 .obtain⟨a,xs,rfl,p,l⟩:=h1
  obtain⟨b,ys,rfl,p',l'⟩:=h2
  cases rx
  cases ry
  obtain⟨its,r,t,_⟩:=I.list p
  obtain⟨cA,r',t',_⟩:=I.list p'
  have hd:iT ds+1<=50:=hd
  have l1:its.length=ds.length:=by rw[<-r.length,l.length]
  have l2:cA.length=es.length:=by rw[<-r'.length,l'.length]
  by_cases hl:ds.length=es.length
  .refine SeqAt.eq_listAt (e:=λj=>(oq ds es).getD j true) t.isList t'.isList (by rw[br,br,l1,l2,hl]) (by lia) (λj h1 h2=>?_) ⟨.bl (gU ds es),H,I,?_,q⟩
   .have jr:j<its.length:=by simpa using h1
    have iU:j<cA.length:=by simpa using h2
    have:=sO I ds es xs ys its cA X.A.in1 49 (by lia) (by show X.A.units+1+49<cLine;lia) l l' r r' j jr iU
    simpa using this
   .show Value.bool _=Value.bool _
    rw[br,l1,<-ou ds es,<-hl,Nat.min_self,AH,Er]
  .refine SeqAt.eq_list_lengthsAt t.isList t'.isList (by rw[br,br,l1,l2];simpa using hl) (by lia) ⟨.bl (gU ds es),H,I,?_,q⟩
   show Value.bool _=Value.bool _
   rw[<-ou ds es,show(ds.length==es.length)=false by simpa using hl,uD]
theorem Bx(hu:X.A.units+64<cLine):cN X (compareOp .NotEq) (NA X.K true):=by
 intro pins s O H x y v u Q I rx ry h
 obtain⟨d,e,h1,h2,hk,hd,q⟩:=h
 have q:Q (.bl (!fP d e)) H:=q
 rcases hk with ⟨ds,es,rfl,rfl⟩ | ⟨ds,es,rfl,rfl⟩
 .obtain⟨a,xs,rfl,p,l⟩:=h1
  obtain⟨b,ys,rfl,p',l'⟩:=h2
  cases rx
  cases ry
  obtain⟨its,r,t,_⟩:=I.tuple p
  obtain⟨cA,r',t',_⟩:=I.tuple p'
  have hd:iT ds+1<=50:=hd
  have l1:its.length=ds.length:=by rw[<-r.length,l.length]
  have l2:cA.length=es.length:=by rw[<-r'.length,l'.length]
  refine SeqAt.RcNeAt.tuples (e:=λj=>(oq ds es).getD j true) t t' (by lia) (λj h1 h2=>?_) X.prog X.w X.xe _ ⟨.bl (!gU ds es),H,I,?_,q⟩
  .have jr:j<its.length:=by simpa using h1
   have iU:j<cA.length:=by simpa using h2
   have:=sO I ds es xs ys its cA X.A.in1 49 (by lia) (by show X.A.units+1+49<cLine;lia) l l' r r' j jr iU
   simpa using this
  .show Value.bool _=Value.bool _
   rw[br,br,l1,l2,ou]
 .obtain⟨a,xs,rfl,p,l⟩:=h1
  obtain⟨b,ys,rfl,p',l'⟩:=h2
  cases rx
  cases ry
  obtain⟨its,r,t,_⟩:=I.list p
  obtain⟨cA,r',t',_⟩:=I.list p'
  have hd:iT ds+1<=50:=hd
  have l1:its.length=ds.length:=by rw[<-r.length,l.length]
  have l2:cA.length=es.length:=by rw[<-r'.length,l'.length]
  by_cases hl:ds.length=es.length
  .refine SeqAt.RcNeAt.lists (e:=λj=>(oq ds es).getD j true) t.isList t'.isList (by rw[br,br,l1,l2,hl]) (by lia) (λj h1 h2=>?_) X.prog X.w X.xe _ ⟨.bl (!gU ds es),H,I,?_,q⟩
   .have jr:j<its.length:=by simpa using h1
    have iU:j<cA.length:=by simpa using h2
    have:=sO I ds es xs ys its cA X.A.in1 49 (by lia) (by show X.A.units+1+49<cLine;lia) l l' r r' j jr iU
    simpa using this
   .show Value.bool _=Value.bool _
    rw[br,l1,<-ou ds es,<-hl,Nat.min_self,AH,Er]
  .refine SeqAt.RcNeAt.lists_lengths t.isList t'.isList (by rw[br,br,l1,l2];simpa using hl) (by lia) X.prog X.w X.xe _ ⟨.bl (!gU ds es),H,I,?_,q⟩
   show Value.bool _=Value.bool _
   rw[<-ou ds es,show(ds.length==es.length)=false by simpa using hl,uD]
   rfl
end
def b9:bootBuiltins "len"=some (.builtin "len"):=by decide +kernel
def NB:bootBuiltins "all"=some (.builtin "all"):=by decide +kernel
def fQ:bootBuiltins "isinstance"=some (.builtin "isinstance"):=by decide +kernel
def By:bootBuiltins "sorted"=some (.builtin "sorted"):=by decide +kernel
def ow:bootBuiltins "tuple"=some (.type "tuple"):=by decide +kernel
def sP:bootBuiltins "list"=some (.type "list"):=by decide +kernel
def NC:bootBuiltins "str"=some (.type "str"):=by decide +kernel
structure Fn(P:Program)(w:World)(K:Frag)(mg:Str->Option Value)(base:Heap)(x:Str)(k:Nat)(sp:Sp):Prop where
 ex:∃(f:Addr) (fd:FuncData) (ps:List Str),aK P w K mg base aP k f fd ps sp/\mg x=some (.ref f)/\keepIn K (.ref f)=true/\Binds K fd ps []
section
variable{X:Cx}{x:Str}{p pos:Pos}{e:Expr}{es:List Expr}{t:TA}{sp:Sp}{k:Nat}
theorem aR{m:Nat}(F:Fn X.prog X.w X.K X.mg X.base x k sp)(hr:bZ m X.A)(ha:PA X (e::es) t)(hle:k<=m:=by first | decide | lia)(hg:Gl X x:=by rfl)(dR:(x==("__debug__":Str))=false:=by decide)
  (he:starEach (e::es) X.env=(false,eval e X.env)::starEach es X.env:=by rfl) (hpl:(backTo pos (starEach es X.env)).any (·.1)=false:=by rfl):PE X (.Call (.Name x p) (e::es) [] pos) (Bd sp [] E0 t):=by
 obtain⟨f,fd,ps,G,hm,hk,hb⟩:=F.ex
 exact E2 G (hr.mono hle) hg hm hk hb .nil yl ha dR he hpl
end
def Cn(mg:Str->Option Value)(x:Str)(v:V):Prop := ∃u,mg x=some u/\RelV v u
def eP{X:Cx}{x:Str}{v:V}{pos:Pos}(h:Cn X.mg x v)(hg:Gl X x)(hd:(x==("__debug__":Str))=false:=by decide):PE X (.Name x pos) (tC v):=by
 obtain⟨u,hm,r⟩:=h
 exact U7 hg hm r hd
def sQ{X:Cx}:il X (.builtin "isinstance") (λxs H Q=>∃x c t b,(xs=[x,.ty c]/\jn X.K H x t/\kitOne X.K t (.type c)=some b)/\Q (.bl b) H):=by
 intro pins s O H xs us Q I r h
 obtain⟨x,c,t,b,⟨rfl,ty,e⟩,q⟩:=h
 obtain⟨u,v,rfl,ru,rv⟩:=vals2 r
 cases rv
 exact V3 I ru ty e λtk=>⟨.bl b,H,I.tok tk,rfl,q⟩
def XJ{K:Frag}{t:String}:kitOne K (.type t) (.type t)=some true:=by
 unfold kitOne
 rw[az (by simp)]
def ND{X:Cx}(hc:X.calm=true):il X (.builtin "all") (λxs H Q=>∃(a:Addr) (bs:List Bool),xs=[.ref a]/\aj X.K H a (bs.map V.bl)/\Q (.bl (bs.all id)) H):=by
 intro pins s O H xs us Q I r h
 obtain⟨l,bs,rfl,hq,q⟩:=h
 obtain⟨u,rfl,ru⟩:=vals1 r
 cases ru
 obtain⟨its,rv,pl,hz⟩:=I.list hq
 have hl:=pl.isList
 have hh:X.A.handled=none:=I.ok.hd hc
 have aT:l<s.heap.objs.size:=by obtain⟨_,e,_⟩:=hl;exact bA e
 have hlen:its.length=bs.length:=by rw[<-rv.length,aw]
 refine call_all_walk (xu hl ?_)
 refine⟨s.heap.objs.size,[s.heap.objs.size,l],[s.heap.objs.size],its.toArray.size,_,_,λi=>(bs[i]?).getD true,rfl,Walks.list (A:=X.A.in1) hh _ l (bR aT) its.toArray,
  ⟨⟨_,cz _ rfl,rfl,rfl⟩,hl.push _⟩,λi v s' Q' E' hP hQ=>?_,λh' tk hk=>?_⟩
 .have hv:its[i]? = some v:=by simpa using hP
  have hi:i<bs.length:=by rw[<-hlen];exact(bY.mp hv).1
  obtain⟨u',e1,e2⟩:=rv.get (i:=i) (x:=V.bl bs[i]) (by simp[hi])
  rw[hv] at e1
  cases e1
  have e2:v=Value.bool bs[i]:=e2
  subst e2
  simp only[bf hi,qc] at hQ
  exact pV hQ
 .have e:((List.range its.toArray.size).all λi=>(bs[i]?).getD true)=bs.all id:=by
   rw[br,hlen];exact LSm.range_all bs
  rw[e]
  exact⟨.bl _,H,I.kept λb o e=>LSm.kept_iter hk b o e,rfl,q⟩
def FN{xs:List Str}:∀{us:List Value},Vals (xs.map V.str) us->StrsAre us xs:=by
 induction xs with
 |nil=>intro us h;cases h;exact .nil
 |cons x r ih=>
  intro us h
  cases h with
  |cons q t=>
   obtain⟨t',rfl⟩:=q
   exact .cons _ _ (ih t)
def rJoin(K:Frag):V->List V->Hp->VK->Prop:=λx vs H Q=>∃y a zs,x = .str y/\vs=[.ref a]/\(aj K H a (zs.map V.str)\/ak K H a (zs.map V.str))/\(zs.map (·.length)).sum+zs.length*y.length<=16777216/\Q (.str (Str.join y zs)) H
def FO{X:Cx}:Bh X "str.join" (rJoin X.K):=by
 intro pins s O H x vs v us Q I rx rv h
 obtain⟨y,a,zs,rfl,rfl,hq,hz,q⟩:=h
 obtain⟨t,rfl⟩:=rx
 obtain⟨u,rfl,ru⟩:=rv.one
 cases ru
 have e:Txt.join y zs=Str.join y zs:=StrLaws.glued_eq_join y zs
 rcases hq with hq | hq
 .obtain⟨its,r,pl,_⟩:=I.list hq
  refine join_list pl.isList (by simpa using FN r) hz λt' k=>⟨.str (Str.join y zs),H,I.tok k,⟨t',by rw[e]⟩,q⟩
 .obtain⟨its,r,pl,_⟩:=I.tuple hq
  refine join_tuple pl (by simpa using FN r) hz λt' k=>⟨.str (Str.join y zs),H,I.tok k,⟨t',by rw[e]⟩,q⟩
noncomputable def FQ(x:Str):It:=⟨λi _=>i<x.cps.size,λi H v H'=>H'=H/\∃c,x.cps.toList[i]? = some c/\v = .str ⟨#[c]⟩,λi _=>i=x.cps.size⟩
def XM(x:Str):["enumerate","zip","dict_itemiterator","dict_reverseitemiterator","odict_iterator","itertools.zip_longest","itertools.pairwise"].contains (strIterType x)=false:=by
 unfold strIterType
 split <;> decide
def NF{prog:Program}{w:World}{A:Around}(hh:A.handled=none)(I:Addr)(x:Str)(t:Tok):Walks prog w A I [I] [I] x.cps.size (SignAt x) (λi h=>h.IsStrIter I (strIterType x) x t i):=by
 unfold strIterType
 split
 .exact Walks.strAscii hh I x t
 .exact Walks.strWide hh I x t
def XN{prog:Program}{w:World}{A:Around}{I:Addr}{x:Str}{t:Tok}{i:Nat}{s:Shared}{Q:Value->Shared->Prop}{E:Value->Shared->Prop}(h:s.heap.IsStrIter I (strIterType x) x t i)(q:Q (.ref I) s):wpAny (model prog w) A (pyIter (.ref I)) Q E s:=by
 unfold strIterType at h
 split at h
 .exact wpAny_pyIter_striter_ascii h q
 .exact wpAny_pyIter_striter_wide h q
def XO{P:Program}{w:World}{K:Frag}{tg:Expr}(x:Str)(t:Tok)(it:Addr):Turn P w K tg (FQ x) [it] it (λi h=>h.IsStrIter it (strIterType x) x t i) where
 mem:=by simp
 obj:=λi h st b hb=>by
  have e:b=it:=by simpa using hb
  subst e
  obtain⟨o,e,c,d⟩:=st
  exact⟨o,e,λv z=>by rw[d] at z;cases z⟩
 keep:=λi h h' st k=>let ⟨o,ho,r⟩:=st;⟨o,k it (by simp) o ho,r⟩
 item:=by
  intro X hP hw hK hc i pins s O H E I hf st hg
  subst hP hw hK
  obtain⟨f0,f1,f2,f3,f4,f5⟩:=hf it (by simp)
  have W:=NF (prog:=X.prog) (w:=X.w) (I.ok.hd hc) it x t
  refine W.item i s _ _ hg st λv h' tk hv eD kk=>?_
  obtain⟨c,u,yr,rfl⟩:=hv
  have I1:Inv X pins O H { s with heap:=h',toks:=tk }:=I.turned (λb o hb e=>kk b o (by simpa using hb) e) f0 f1 f3 f4 f5
  obtain⟨o,e1,e2,e3⟩:=id eD
  refine⟨_,rfl,uZ (s:={ s with heap:=h',toks:=tk }) (n:=strIterType x) e1 e2 e3 (XM x) ⟨.str ⟨#[c]⟩,H,I1,⟨u,rfl⟩,⟨rfl,c,by simpa using yr,rfl⟩,eD,λb hb=>(hf b hb).1⟩⟩
 done:=by
  intro X hP hw hK hc i pins s O H E I hf st hg
  subst hP hw hK
  obtain⟨f0,f1,f2,f3,f4,f5⟩:=hf it (by simp)
  have hg:i=x.cps.size:=hg
  subst hg
  have W:=NF (prog:=X.prog) (w:=X.w) (I.ok.hd hc) it x t
  exact W.done s _ _ st λh' tk kk=>⟨rfl,I.turned (λb o hb e=>kk b o (by simpa using hb) e) f0 f1 f3 f4 f5⟩
 self:=λ_ _ _ _ _ st h=>XN st h
def XQ(tl:TE):TI:=λO H R=>tl O H λx H1=>∃z,x = .str z/\R (FQ z) H1
def XR{X:Cx}{tg l:Expr}{tl:TE}(hl:PE X l tl):PI X tg l (XQ tl):=by
 intro pins s O H R I h
 refine aC (hl pins s O H _ I h) λv s1 ⟨x,H1,I1,r1,q1⟩=>?_
 obtain⟨z,e,q⟩:=q1
 subst e
 obtain⟨t,rfl⟩:=r1
 refine wpAny_pyIter_strU ?_
 refine⟨s1.heap.objs.size,[s1.heap.objs.size],_,_,H1,rfl,I1.kept (t':=s1.toks) λb o e=>bu _ e,XO z t _,⟨_,cz _ rfl,rfl,rfl⟩,λb hb=>?_,q⟩
 have e:b=s1.heap.objs.size:=by simpa using hb
 subst e
 exact I1.kU (aO _) I1.fresh
structure oy(J:It)(Ok:Hp->Prop)(vs:List V):Prop where
 go:∀i H,Ok H->i<vs.length->J.go i H
 gJ:∀i H x H',Ok H->i<vs.length->J.gJ i H x H'->H'=H/\vs[i]? = some x
 stop:∀H,Ok H->J.stop vs.length H
def kg{K:Frag}{a:Addr}{xs:List V}:oy (rZ K a) (λH=>aj K H a xs) xs:=
 ⟨λi H h hi=>⟨xs,xs[i],h,by simp[hi]⟩,λi H x H' h _ y=>⟨y.1,y.2 xs h⟩,λH h=>⟨xs,h,aO _⟩⟩
def FR{K:Frag}{a:Addr}{xs:List V}:oy (u6 K a) (λH=>ak K H a xs) xs:=
 ⟨λi H h hi=>⟨xs,xs[i],h,by simp[hi]⟩,λi H x H' h _ y=>⟨y.1,y.2 xs h⟩,λH h=>⟨xs,h,aO _⟩⟩
def FT{lo:Int}{n:Nat}:oy (mW lo n) (λ_=>True) ((List.range n).map λ(i:Nat)=>V.int (lo+(i:Int))):=
 ⟨λi H _ hi=>(by simpa using hi:i<n),λi H x H' _ hi y=>⟨y.1,by
  obtain⟨_,e⟩:=y
  subst e
  have hi:i<n:=by simpa using hi
  simp[hi]⟩,λH _=>(by simp:n<=((List.range n).map λ(i:Nat)=>V.int (lo+(i:Int))).length)⟩
def XS{x:Str}:oy (FQ x) (λ_=>True) (x.cps.toList.map λc=>V.str ⟨#[c]⟩):=
 ⟨λi H _ hi=>(by simpa using hi:i<x.cps.size),λi H v H' _ _ y=>⟨y.1,by
  obtain⟨_,c,e1,e2⟩:=y
  rw[bw,e1,e2]
  all_goals rfl⟩,λH _=>(by simp:(x.cps.toList.map λc=>V.str ⟨#[c]⟩).length=x.cps.size)⟩
theorem XT{J:It}{Ok:Hp->Prop}{vs:List V}{g:TG}{tb:TS}{D:Ends}{O:St}{H:Hp}(S:oy J Ok vs)(Pv:Nat->St->Hp->Prop)(h0:Pv 0 O H)(aA:∀i O H,i<=vs.length->Pv i O H->Ok H)
  (hs:∀i x O H,vs[i]? = some x->Pv i O H->g x O H λO2 H2=>tb { D with nx:=Pv (i+1),ct:=Pv (i+1),bk:=D.nx } O2 H2) (hd:∀O H,Pv vs.length O H->D.nx O H) :
  ∃W:Nat->Nat->St->Hp->Prop,(∃m,W 0 m O H)/\∀i m O H,W i m O H->
   (J.stop i H/\D.nx O H)\/(J.go i H/\∃N:St->Hp->Prop,(∀O' H',N O' H'->∃m',m'<m/\W (i+1) m' O' H')/\∀x H',J.gJ i H x H'->g x O H' λO2 H2=>tb { D with nx:=N,ct:=N,bk:=D.nx } O2 H2):=by
 refine⟨λi m O H=>m=vs.length - i/\i<=vs.length/\Pv i O H,⟨vs.length,by simp,bG _,h0⟩,?_⟩
 rintro i m O H ⟨rfl,hi,p⟩
 have q:=aA i O H hi p
 by_cases aT:i<vs.length
 .refine .inr ⟨S.go i H q aT,Pv (i+1),λO' H' p'=>⟨vs.length - (i+1),by lia,rfl,aT,p'⟩,λx H' y=>?_⟩
  obtain⟨e,yy⟩:=S.gJ i H x H' q aT y
  subst e
  exact hs i x O _ yy p
 .have e:i=vs.length:=by lia
  subst e
  exact .inl ⟨S.stop H q,hd O H p⟩
theorem lh{J:It}{Ok:Hp->Prop}{vs:List V}{js:List Nat}{tt:TT}{te:TE}{O:St}{H1:Hp}{Q:VK}(S:oy J Ok vs)(hn:vs.length<=15752961)(p:Nat->Bool)(F:Addr->Nat->V->Hp->Prop)(aA:∀H,af H1 H->Ok H)
  (mono:∀D i y H H',H1 D=none->(∃o,H D=some (.lst o))->(∀b o,b≠D->H b=some o->H' b=some o)->F D i y H->F D i y H')
  (hs:∀D i x H (Z0:Hp->Prop) (Z:V->Hp->Prop),H1 D=none->vs[i]? = some x->af H1 H->(∃o,H D=some (.lst o))->(∀H2,af H H2->p i=false->Z0 H2)->(∀y H2,af H H2->p i=true->F D i y H2->Z y H2)->
   tt (some x::fO js O) H λb H2=>if b=true then te (some x::fO js O) H2 Z else Z0 H2)
  (hd:∀D ys H,H1 D=none->H D=some (.lst ys)->af H1 H->Paired (λi y=>F D i y H) ((List.range vs.length).filter p) ys->Q (.ref D) H):FA js tt te O J H1 Q:=by
 intro D hD
 have hz:15752961<sizeLine:=by decide
 refine⟨λi m H=>m=vs.length - i/\i<=vs.length/\∃ys,H D=some (.lst ys)/\af H1 H/\Paired (λi y=>F D i y H) ((List.range i).filter p) ys,⟨vs.length,by simp,bG _,[],ao,af.upd hD,.nil⟩,?_⟩
 rintro i m H ⟨rfl,hi,ys,bD,sm,pr⟩
 have q:=aA H sm
 by_cases aT:i<vs.length
 .refine .inr ⟨S.go i H q aT,λx H' y=>?_⟩
  obtain⟨e,yy⟩:=S.gJ i H x H' q aT y
  subst e
  have kP:List.range (i+1)=List.range i++[i]:=nV
  have ln:ys.length<=i:=by
   have h1:=pr.length
   have h2:((List.range i).filter p).length<=(List.range i).length:=fY _ _
   rw[mS] at h2
   lia
  refine hs D i x H' _ _ hD yy sm ⟨ys,bD⟩ (λH2 s2 hp=>?_) (λz H2 s2 hp hF=>?_)
  .refine⟨vs.length - (i+1),by lia,rfl,aT,ys,s2 _ _ bD,sm.trans s2,?_⟩
   rw[kP,ie,dj,av (by rw[hp];exact b8),kN,eV]
   exact Paired.bU pr λj z f=>mono D j z H' H2 hD ⟨ys,bD⟩ (λb o _ e=>s2 b o e) f
  .refine⟨ys,s2 _ _ bD,by lia,vs.length - (i+1),by lia,rfl,aT,ys++[z],ao,(sm.trans s2).kf hD,?_⟩
   have up:∀b o,b≠D->H2 b=some o->upd H2 D (.lst (ys++[z])) b=some o:=λb o hb e=>by rw[ar hb];exact e
   rw[kP,ie,dj,az hp,kN]
   refine lJ (Paired.bU pr λj z' f=>?_) (mono D i z H2 _ hD ⟨ys,s2 _ _ bD⟩ up hF)
   exact mono D j z' H2 _ hD ⟨ys,s2 _ _ bD⟩ up (mono D j z' H' H2 hD ⟨ys,bD⟩ (λb o _ e=>s2 b o e) f)
 .have e:i=vs.length:=by lia
  subst e
  exact .inl ⟨S.stop H q,hd D ys H hD bD sm pr⟩
def comp_map{J:It}{Ok:Hp->Prop}{vs:List V}{js:List Nat}{te:TE}{O:St}{H1:Hp}{Q:VK}(S:oy J Ok vs)(hn:vs.length<=15752961)(F:Addr->Nat->V->Hp->Prop)(aA:∀H,af H1 H->Ok H)
  (mono:∀D i y H H',H1 D=none->(∃o,H D=some (.lst o))->(∀b o,b≠D->H b=some o->H' b=some o)->F D i y H->F D i y H')
  (hs:∀D i x H (Z:V->Hp->Prop),H1 D=none->vs[i]? = some x->af H1 H->(∃o,H D=some (.lst o))->(∀y H2,af H H2->F D i y H2->Z y H2)->te (some x::fO js O) H Z)
  (hd:∀D ys H,H1 D=none->H D=some (.lst ys)->af H1 H->Paired (λi y=>F D i y H) (List.range vs.length) ys->Q (.ref D) H):FA js Np te O J H1 Q:=by
 refine lh S hn (λ_=>true) F aA mono (λD i x H Z0 Z h1 h2 h3 h4 _ k1=>bp (B:=Z0 H) (hs D i x H Z h1 h2 h3 h4 λy H2 s f=>k1 y H2 s rfl f)) λD ys H h1 h2 h3 pr=>hd D ys H h1 h2 h3 ?_
 rw[List.filter_eq_self.mpr (λ_ _=>rfl)] at pr
 exact pr
def XU:V->Option Int->Option Int->Hp->VK->Prop:=λx lo hi H Q=>∃z,x = .str z/\z.length<=sizeLine/\Q (.str (Txt.slice z lo hi)) H
def part_of{v:Value}{o:Option Int}(p:IsPart v o):∃l:Option (Int×Tok),v=partValue l/\l.map (·.1)=o:=by
 cases p with
 |none=>exact⟨none,rfl,rfl⟩
 |int i t=>exact⟨some (i,t),rfl,rfl⟩
def vw{X:Cx}:E7 X XU:=by
 intro pins s O H x v vl vu lo hi sl Q I rx hs pl pu h
 obtain⟨z,rfl,hz,q⟩:=h
 obtain⟨t,rfl⟩:=rx
 obtain⟨l,rfl,rfl⟩:=part_of pl
 obtain⟨u,rfl,rfl⟩:=part_of pu
 exact⟨"str",_,F.slot_str_getitem.lookup,typeIs_str _ _ _,wpAny_getItem_str_slice (l:=l) (u:=u) (st:=none) hs rfl
  (post_val_or_str ⟨bF (xx z _ _) hz,λt' k=>⟨.str (Txt.slice z _ _),H,I.tok k,⟨t',rfl⟩,q⟩⟩)⟩
def kh{n:Nat}{g:TG}{tb:TS}{D:Ends}{O:St}{H:Hp}(Pv:Nat->St->Hp->Prop)(h0:Pv 0 O H)
  (hs:∀(i:Nat) O H,i<n->Pv i O H->g (.int (i:Int)) O H λO2 H2=>tb { D with nx:=Pv (i+1),ct:=Pv (i+1),bk:=D.nx } O2 H2) (hd:∀O H,Pv n O H->D.nx O H) :
  ∃W:Nat->Nat->St->Hp->Prop,(∃m,W 0 m O H)/\∀i m O H,W i m O H->
   ((mW 0 n).stop i H/\D.nx O H)\/((mW 0 n).go i H/\∃N:St->Hp->Prop,(∀O' H',N O' H'->∃m',m'<m/\W (i+1) m' O' H')/\∀x H',(mW 0 n).gJ i H x H'->g x O H' λO2 H2=>tb { D with nx:=N,ct:=N,bk:=D.nx } O2 H2):=
 Vz Pv h0 (λi O H hi p=>by rw[uL];exact hs i O H hi p) hd
theorem vx{n k:Nat}(h:k<n):oh n (k:Int)=some k:=by
 unfold oh
 rw[az (by lia),az (by lia),eI]
theorem Paired.get{α β:Type}{R:α->β->Prop}:∀{l:List α}{m:List β}{i:Nat}{y:β},Paired R l m->m[i]? = some y->∃x,l[i]? = some x/\R x y
 |_,_,_,_,.nil,e=>by simp at e
 |_,_,0,_,.cons r _,e=>by simp at e;subst e;exact⟨_,rfl,r⟩
 |_,_,i+1,y,.cons _ t,e=>by
  obtain⟨x,h1,h2⟩:=Paired.get (i:=i) (y:=y) t (by simpa using e)
  exact⟨x,by simpa using h1,h2⟩
theorem Paired.getL{α β:Type}{R:α->β->Prop}:∀{l:List α}{m:List β}{i:Nat}{x:α},Paired R l m->l[i]? = some x->∃y,m[i]? = some y/\R x y
 |_,_,_,_,.nil,e=>by simp at e
 |_,_,0,_,.cons r _,e=>by simp at e;subst e;exact⟨_,rfl,r⟩
 |_,_,i+1,x,.cons _ t,e=>by
  obtain⟨y,h1,h2⟩:=Paired.getL (i:=i) (x:=x) t (by simpa using e)
  exact⟨y,by simpa using h1,h2⟩
theorem Paired.FU{α β γ:Type}{R:α->β->Prop}{g:γ->α}:∀{l:List γ}{m:List β},Paired R (l.map g) m->Paired (λc y=>R (g c) y) l m
 |[],_,h=>by cases h;exact .nil
 |_::r,_,h=>by
  cases h with
  |cons h1 h2=>exact .cons h1 (Paired.FU h2)
theorem Paired.pick{α β:Type}{R:α->β->Prop}:∀{cs:List α}{xs:List β}(_:Paired R cs xs) (q:α->Bool) (p:Nat->Bool) (_:∀i c,cs[i]? = some c->p i=q c) {ys:List β}
  (_:Paired (λ(i:Nat) y=>xs[i]? = some y) ((List.range xs.length).filter p) ys),Paired R (cs.filter q) ys
 |_,_,.nil,q,p,hp,ys,pr=>by
  have:ys=[]:=by cases pr;rfl
  rw[this]
  exact .nil
 |c::cs,x::xs,.cons h t,q,p,hp,ys,pr=>by
  have e0:p 0=q c:=hp 0 c rfl
  rw[dO,LD,dj,AJ] at pr
  have fR:∀i c',cs[i]? = some c'->(p∘Nat.succ) i=q c':=λi c' e=>hp (i+1) c' (by simpa using e)
  rw[dj]
  by_cases hq:q c=true
  .rw[e0,az hq] at pr
   rw[az hq]
   cases pr with
   |cons h1 h2=>
    have h1:some x=some _:=h1
    cases h1
    exact .cons h (Paired.pick t q (p∘Nat.succ) fR (Paired.bU (Paired.FU h2) λi y e=>by simpa using e))
  .rw[e0,av hq] at pr
   rw[av hq]
   exact Paired.pick t q (p∘Nat.succ) fR (Paired.bU (Paired.FU pr) λi y e=>by simpa using e)
def XW(t:TS):TS:=λD O H=>∃I:St->Hp->Prop,(∀O' H',I O' H'->D.nx O' H')/\t { D with nx:=I } O H
def vy{X:Cx}{st:Stmt}{t:TS}(h:PS X st t):PS X st (XW t):=by
 intro pins s O H D I q
 obtain⟨J,hJ,q⟩:=q
 refine aC (h pins s O H _ I q) λf s' hs=>?_
 cases f with
 |next=>obtain⟨O',H',I',z⟩:=hs;exact⟨O',H',I',hJ _ _ z⟩
 |brk=>exact hs
 |cont=>exact hs
 |ret u=>exact hs
def yt:Slot "reversed" "__next__" "reversed.__next__" :=
 .of (owner:="reversed") (n:="__next__") (by rw[LF,LG];kernel_rfl) (by decide +kernel) (by decide +kernel) (by decide +kernel)
  (by first | exact .inl (by decide +kernel) | exact .inr (by decide +kernel)) (by rw[AK];kernel_rfl)
def NG:entryFor table "reversed.__next__"=some Builtin.«reversed.__next__»:=entryFor_of_tree (by kernel_rfl)
def NH(a:Value):argsOk "reversed.__next__" ⟨[a],[]⟩:=by unfold argsOk;kernel_rfl
def NI:Slot "reversed" "__iter__" "reversed.__iter__" :=
 .of (owner:="reversed") (n:="__iter__") (by rw[LF,LG];kernel_rfl) (by decide +kernel) (by decide +kernel) (by decide +kernel)
  (by first | exact .inl (by decide +kernel) | exact .inr (by decide +kernel)) (by rw[AK];kernel_rfl)
def XX(a:Value):argsOk "reversed.__iter__" ⟨[a],[]⟩:=by unfold argsOk;kernel_rfl
def XY:entryFor table "reversed.__iter__"=some Builtin.«dict_keyiterator.__iter__» :=
 entryFor_alias (id':="dict_keyiterator.__iter__") (by kernel_rfl) (by first | rfl | decide +kernel | (unfold String.splitOn;simp +decide [String.splitOnAux])) (by decide +kernel) (by kernel_rfl)
def XZ:Slot "reversed" "__init__" "object.__init__" :=
 .of (owner:="object") (n:="__init__") (by rw[LF,LG];kernel_rfl) (by decide +kernel) (by decide +kernel) (by decide +kernel)
  (by first | exact .inl (by decide +kernel) | exact .inr (by decide +kernel)) (by rw[AK];kernel_rfl)
def X0:TypeCalled "reversed" "reversed.__new__" "object.__init__" :=
 ⟨by decide +kernel,by decide +kernel,⟨_,_,F.mro_reversed⟩,F.made_reversed,by decide +kernel,F.sub_reversed_self,XZ⟩
def X1:typeLookup (.type "tuple") "__reversed__"=pure none:=by rw[LF,LG];kernel_rfl
def X2:isSubtype (.type "tuple") (.type "dict")=pure false:=by rw[AK];kernel_rfl
noncomputable def yu(l:Addr)(i:Int):Obj:={ cls := .type "reversed",data := .fields #[.ref l,rawInt i] }
def l0(h:Heap)(a l:Addr)(i:Int):Prop := ∃o,h.get? a=some o/\o.cls = .type "reversed"/\o.data = .fields #[.ref l,rawInt i]
def l0.typeIs{s:Shared}{a l:Addr}{i:Int}(x:l0 s.heap a l i):s.TypeIs (.ref a) "reversed":=let ⟨o,ho,hc,_⟩:=x;⟨o,ho,hc⟩
def l0.at{h h':Heap}{a l:Addr}{i:Int}(x:l0 h a l i)(e:∀o,h.get? a=some o->h'.get? a=some o):l0 h' a l i:=let ⟨o,ho,r⟩:=x;⟨o,e _ ho,r⟩
theorem X3(t:Addr)(items:Array Value)(hz:items.size<=sizeLine):Meets (Builtin.«reversed.__new__» ⟨[.type "reversed",.ref t],[]⟩) (λ_ R s=>IsTup s.heap t items/\
  ∀tk,R (.ok (.ret (.ref s.heap.objs.size))) { s with heap:=s.heap.push (yu t ((items.size:Int) - 1)),toks:=tk }):=
 .of_wp λprog w A R s h=>by
  obtain⟨hT,h⟩:=h
  unfold Builtin.«reversed.__new__»
  refine ah (qd (newClass_reversed _) ?_)
  try dsimp only
  refine ah (qd (a:=()) (by first | rfl | kernel_rfl) ?_)
  refine ah (qd (a:=()) (by first | rfl | kernel_rfl) ?_)
  try dsimp only
  refine ah (Ly hT.typeIs X1 ?_)
  try dsimp only
  refine ah ?_
  show wpAny _ _ (isInstance (.ref t) (.type "dict") >>= _) _ _ _
  refine ah (LH hT.typeIs X2 ?_)
  show wpAny _ _ (specialOf (.ref t) "__getitem__" >>= _) _ _ _
  refine ah (Ly hT.typeIs PyProof.Rows.slot_tuple_getitem.lookup ?_)
  show wpAny _ _ (pure true) _ _ _
  refine aL ?_
  show wpAny _ _ (call (.builtin "len") [.ref t] >>= _) _ _ _
  refine ah (len_tuple hT (by have:=n9;lia) ?_)
  refine ah (qd (a:=some (items.size:Int)) rfl ?_)
  show wpAny _ _ (newObj (.type "reversed") (.fields #[.ref t,rawInt ((items.size:Int) - 1)]) none >>= _) _ _ _
  exact ah (uJ (aL ⟨_,rfl,h _⟩))
section
variable{prog:Program}{w:World}{A:Around}{E:Value->Shared->Prop}{s:Shared}
def X4{t:Addr}{items:Array Value}{Q:Value->Shared->Prop}(hT:IsTup s.heap t items)(hz:items.size<=sizeLine)
  (h:∀tk,Q (.ref s.heap.objs.size) { s with heap:=s.heap.push (yu t ((items.size:Int) - 1)),toks:=tk }):wpAny (model prog w) A (call (.type "reversed") [.ref t]) Q E s:=
 callType_new X0 (by decide) (F.typeCall_reversed_1 _) (F.newCall_reversed_1 _) (λobj=>F.args_object_init_2 obj _) F.entry_reversed_new (X3 t items hz) ⟨hT,λtk=>⟨⟨_,cz _ rfl,rfl⟩,h tk⟩⟩
theorem X5{it t:Addr}{i:Nat}{items:Array Value}{x:Value}{Q:Option Value->Shared->Prop}(hit:l0 s.heap it t (i:Int))(hT:IsTup s.heap t items)(hz:items.size<=sizeLine)(hx:items[i]? = some x)
  (hQ:∀h' tk,l0 h' it t ((i:Int) - 1)->Heap.SameBut it s.heap h'->Q (some x) { s with heap:=h',toks:=tk }):wpAny (model prog w) A (pyNext (.ref it)) Q E s:=by
 obtain⟨o,ho,hc,hd⟩:=id hit
 have hi:i<items.size:=(UC.mp hx).1
 have hl:=n9
 unfold pyNext
 refine ah (uM (AL (name:=Str.ofString "__next__") hit.typeIs yt
  (rK yt hit.typeIs NG ?_ (NH _))))
 unfold Builtin.«reversed.__next__»
 refine ah (qd (a:=(Value.ref it,[])) rfl ?_)
 try dsimp only
 refine ah (fI ho hd (x := .ref t) rfl ?_)
 refine ah (fI ho hd (x:=rawInt (i:Int)) rfl ?_)
 show wpAny _ _ (if (i:Int)<0 then _ else _) _ _ s
 rw[av (by lia)]
 show wpAny _ _ (specialOf (.ref t) "__getitem__" >>= _) _ _ _
 refine ah (Ly hT.typeIs PyProof.Rows.slot_tuple_getitem.lookup ?_)
 show wpAny _ _ (mkInt (i:Int) >>= _) _ _ _
 refine ah (wpAny_mkInt ?_)
 refine ah (uM (getItem_tuple (j:=i) hT (by lia) (by lia) (seqIndex_of (by lia) (by lia)) hx ?_))
 try dsimp only
 refine ah (fI ho hd (x:=rawInt (i:Int)) rfl ?_)
 show wpAny _ _ (setField (.ref it) 1 (rawInt ((i:Int) - 1)) >>= _) _ _ _
 refine ah (uN ho hd (by simp) ?_)
 refine aL ⟨x,rfl,aL (hQ _ _ ?_ (AM ..))⟩
 exact⟨_,pW _ ho (Es (rL hd _)),(Obj.cls_mapFields ..).trans hc,by
  rw[rL hd];simp⟩
def X6{it t:Addr}{Q:Option Value->Shared->Prop}(hh:A.handled=none)(hit:l0 s.heap it t (-1))
  (hQ:∀h',Heap.ExtBut it s.heap h'->Q none { s with heap:=h' }):wpAny (model prog w) A (pyNext (.ref it)) Q E s:=by
 obtain⟨o,ho,hc,hd⟩:=id hit
 unfold pyNext
 refine ah (uM (AL (name:=Str.ofString "__next__") hit.typeIs yt
  (rK yt hit.typeIs NG ?_ (NH _))))
 unfold Builtin.«reversed.__next__»
 refine ah (qd (a:=(Value.ref it,[])) rfl ?_)
 try dsimp only
 refine ah (fI ho hd (x := .ref t) rfl ?_)
 refine ah (fI ho hd (x:=rawInt (-1)) rfl ?_)
 show wpAny _ _ (if (-1:Int)<0 then _ else _) _ _ s
 rw[az (by decide)]
 refine ah (uO ?_)
 refine ah ?_
 show wpAny _ _ (setField (.ref it) 1 (rawInt (-1)) >>= λ_=>setField (.ref it) 0 .none) _ _ _
 refine ah (uN ho hd (by simp) ?_)
 refine uN (pW _ ho (Es (rL hd _))) (rL hd _) (by simp) ?_
 refine ah ?_
 show wpAny _ _ (newExc (.type "StopIteration") [] >>= _) _ _ _
 refine ah ?_
 simp only[newExc,newTuple]
 refine ah (uJ ?_ (by size_fits))
 refine ah (m:=firstArgMember _ _) (qd (a:=Value.none) (by first | rfl | (simp only[firstArgMember];rfl)) ?_)
 refine uJ ?_ (by size_fits)
 simp only[raiseNew]
 refine ah (wpAny_handled ?_)
 first | rw[show A.in1.handled=none from hh] | rw[hh]
 refine ah (aL (wpAny_throw ?_))
 refine ah (LH (T:="StopIteration") (b:=true) ⟨_,cz _ rfl,rfl⟩ isSubtype_stop ?_)
 refine aL (hQ _ λb ob hb e=>?_)
 refine bu _ (bu _ ?_)
 exact(iM _ _ (bo hb)).trans ((iM _ _ (bo hb)).trans e)
def NJ{it t:Addr}{i:Int}{Q:Value->Shared->Prop}(hit:l0 s.heap it t i)(h:Q (.ref it) s):wpAny (model prog w) A (pyIter (.ref it)) Q E s:=by
 refine wpAny_pyIter_slot hit.typeIs NI (rK NI hit.typeIs XY ?_ (XX _))
 show wpAny _ _ (ret (.ref it)) _ _ s
 exact aL ⟨_,rfl,"reversed",_,hit.typeIs,yt.lookup,h⟩
end
noncomputable def FV(K:Frag)(a:Addr)(xs:List V):It:=
 ⟨λi H=>ak K H a xs/\i<xs.length,λi H x H'=>H'=H/\xs.reverse[i]? = some x,λi H=>ak K H a xs/\i=xs.length⟩
theorem X7{P:Program}{w:World}{K:Frag}{tg:Expr}(a it:Addr)(xs:List V):Turn P w K tg (FV K a xs) [it] it (λi h=>l0 h it a ((xs.length:Int) - 1 - (i:Nat))) where
 mem:=by simp
 obj:=λi h st b hb=>by
  have e:b=it:=by simpa using hb
  subst e
  obtain⟨o,e,c,d⟩:=st
  exact⟨o,e,λv z=>by rw[d] at z;cases z⟩
 keep:=λi h h' st k=>st.at λo e=>k it (by simp) o e
 item:=by
  intro X hP hw hK hc i pins s O H E I hf st hg
  subst hP hw hK
  obtain⟨hq,hi⟩:=hg
  obtain⟨its,rv,p,hz⟩:=I.tuple hq
  have hl:=rv.length
  obtain⟨f0,f1,f2,f3,f4,f5⟩:=hf it (by simp)
  have e1:(xs.length:Int) - 1 - (i:Nat)=((xs.length - 1 - i:Nat):Int):=by lia
  have hx:xs[xs.length - 1 - i]? = some (xs[xs.length - 1 - i]'(by lia)):=bf (by lia)
  obtain⟨u,hu,ru⟩:=rv.get hx
  rw[e1] at st
  refine X5 st p (by rw[br];lia) (x:=u) (by simpa using hu) λh' tk eD sb=>?_
  have I1:Inv X pins O H { s with heap:=h',toks:=tk }:=I.turned (λb o hb e=>(sb.2 b hb).trans e) f0 f1 f3 f4 f5
  obtain⟨o,e,c,d⟩:=id eD
  refine⟨u,rfl,uZ (s:={ s with heap:=h',toks:=tk }) e c d (by decide) ⟨_,H,I1,ru,⟨rfl,?_⟩,?_,λb hb=>(hf b hb).1⟩⟩
  .rw[LJ hi]
   exact hx
  .have e2:((xs.length - 1 - i:Nat):Int) - 1=(xs.length:Int) - 1 - ((i+1:Nat):Int):=by lia
   rw[e2] at eD
   exact eD
 done:=by
  intro X hP hw hK hc i pins s O H E I hf st hg
  subst hP hw hK
  obtain⟨hq,hi⟩:=hg
  obtain⟨f0,f1,f2,f3,f4,f5⟩:=hf it (by simp)
  have e1:(xs.length:Int) - 1 - (i:Nat) = -1:=by lia
  rw[e1] at st
  exact X6 (I.ok.hd hc) st λh' eb=>⟨rfl,I.turned (t':=s.toks) (λb o hb e=>eb b o hb e) f0 f1 f3 f4 f5⟩
 self:=λ_ _ _ _ _ st h=>NJ st h
def X8(K:Frag)(ta:TA):TI:=λO H R=>ta O H λvs H1=>∃a xs,vs=[.ref a]/\ak K H1 a xs/\R (FV K a xs) H1
def X9:bootBuiltins "reversed"=some (.type "reversed"):=by decide +kernel
theorem Ya{X:Cx}{tg a:Expr}{ta:TA}{p pos:Pos}(hg:Gl X "reversed")(hm:X.mg "reversed"=none)(ha:PA X [a] ta)(hs:starEach [a] X.env=[(false,eval a X.env)]:=by rfl) :
  PI X tg (.Call (.Name "reversed" p) [a] [] pos) (X8 X.K ta):=by
 intro pins s O H R I h
 refine Call_ (qk I hg hm X9 (Ef (aC (ha pos pins s O H _ I h) λus s1 ⟨vs,H1,I1,r1,q1⟩=>?_) hs rfl))
 obtain⟨t,xs,e,hq,q⟩:=q1
 subst e
 obtain⟨u,rfl,ru⟩:=vals1 r1
 cases ru
 obtain⟨its,rv,pl,hz⟩:=I1.tuple hq
 have hl:=rv.length
 refine X4 pl (by rw[br];lia) λtk=>?_
 have I2:Inv X pins O H1 { s1 with heap:=s1.heap.push (yu t ((its.toArray.size:Int) - 1)),toks:=tk }:=I1.kept λb o e=>bu _ e
 have NK:l0 (s1.heap.push (yu t ((its.toArray.size:Int) - 1))) s1.heap.objs.size t ((xs.length:Int) - 1 - ((0:Nat):Int)):=by
  have e:(its.toArray.size:Int) - 1=(xs.length:Int) - 1 - ((0:Nat):Int):=by rw[br];lia
  rw[<-e]
  exact⟨_,cz _ rfl,rfl,rfl⟩
 refine NJ (s:={ s1 with heap:=s1.heap.push (yu t ((its.toArray.size:Int) - 1)),toks:=tk }) NK ?_
 refine⟨s1.heap.objs.size,[s1.heap.objs.size],_,_,H1,rfl,I2,X7 t _ xs,NK,λb hb=>?_,q⟩
 have e:b=s1.heap.objs.size:=by simpa using hb
 subst e
 exact I1.kU (aO _) I1.fresh
def Yb{K:Frag}{a:Addr}{xs:List V}:oy (FV K a xs) (λH=>ak K H a xs) xs.reverse:=
 ⟨λi H h hi=>⟨h,by simpa using hi⟩,λi H x H' h _ y=>y,λH h=>⟨h,by simp⟩⟩
noncomputable def l6(x:Str):Str:=⟨x.cps.toList.reverse.toArray⟩
theorem rev_eq(x:Str)(u:Tok):Txt.sliceBy x none none (-1,u)=l6 x:=by
 have h:=step_rev_list x u
 have e:(List.range x.length).map (λk=>x.cps.getD (x.length - 1 - k) 0)=x.cps.toList.reverse:=by
  apply jP
  intro i
  have hl:x.cps.toList.length=x.length:=by simp[Str.length]
  rw[bw]
  by_cases hi:i<x.length
  .rw[rM hi,LJ (by rw[hl];exact hi),hl]
   have hb:x.length - 1 - i<x.cps.size:=by show _<x.length;lia
   simp[Array.getD,hb]
  .rw[cZ (by simpa using hi),cZ (by rw[Et,hl];lia)]
   rfl
 rw[e] at h
 generalize Txt.sliceBy x none none (-1,u)=y at h
 cases y with
 |mk c=>
  unfold l6
  rw[<-h]
def Yc(te ts:TE):TE:=λO H Q=>te O H λx H1=>ts O H1 λy H2=>∃z,x = .str z/\y = .int (-1)/\z.length<=sizeLine/\Q (.str (l6 z)) H2
def Yd{X:Cx}{e st:Expr}{te ts:TE}{pos p2:Pos}(he:PE X e te)(cL:PE X st ts):PE X (.Subscript e (.Slice none none (some st) p2) pos) (Yc te ts):=by
 intro pins s O H Q I h
 refine Subscript_ (aC (he pins s O H _ I h) λv s1 ⟨x,H1,I1,r1,q1⟩=>?_)
 refine wpAny_Slice (aC (m7 pins s1 O H1 (λo H'=>o=none/\H'=H1) I1 ⟨rfl,rfl⟩) λvl s2 ⟨l,H2,I2,pl,el,eh⟩=>?_)
 subst el eh
 refine aC (m7 pins s2 O H2 (λo H'=>o=none/\H'=H2) I2 ⟨rfl,rfl⟩) λvu s3 ⟨u,H3,I3,pu,eu,eh⟩=>?_
 subst eu eh
 rw[evalPart_some]
 refine aC (cL pins s3 O H3 _ I3 q1) λvs s4 h_=>?_
 obtain⟨y,H4,I4,r4,z,e1,e2,hz,q⟩:=h_
 subst e1 e2
 obtain⟨t,rfl⟩:=r1
 obtain⟨t4,rfl⟩:=r4
 cases pl
 cases pu
 have I5:Inv X pins O H4 { s4 with heap:=s4.heap.push { cls := .type "slice",data := .fields #[.none,.none,.int (-1) t4] } }:=I4.kept (t':=s4.toks) λb ob q=>bu _ q
 show wpAny (model X.prog X.w) X.A (subscriptTail e (.Slice none none (some st) p2) (.str z t) (.ref s4.heap.objs.size)) (EP X pins O Q) X.xe { s4 with heap:=s4.heap.push { cls := .type "slice",data := .fields #[.none,.none,.int (-1) t4] } }
 refine tail_any (ops:=[.ref s4.heap.objs.size,.str z t]) (typeIs_str _ _ _) F.slot_str_getitem.lookup (wpAny_getItem_str_slice (l:=none) (u:=none) (st:=some (-1,t4)) ⟨_,cz _ rfl,rfl,rfl⟩ rfl
  (post_val_or_str ⟨bF (Txt.sliceBy_le z _ _ (-1,t4) (show(-1:Int)≠0 by decide)) hz,λt' k=>?_⟩)) (by with_unfolding_all rfl)
 exact⟨.str (l6 z),H4,I5.tok k,⟨t',by show Value.str (Txt.sliceBy z none none (-1,t4)) t'=_;rw[rev_eq]⟩,q⟩
end L2
namespace L2
open PySem
variable{p:Prop}{α:Type}{P:Program}{w:World}{K:Frag}{mg:Str->Option Value}{base:Heap}{st:Stmt}{f:Addr}{fd:FuncData}
structure Hid(p G:Prop):Prop where
 k:p->G
def hide(h:∀G:Prop,Hid p G->G):p:=h p ⟨id⟩
theorem yw{P:List α->Prop}(h:∀a,P [a]):∀us:List α,us.length=1->P us
 |[a],_=>h a
theorem sR{P:List α->Prop}(h:∀a b,P [a,b]):∀us:List α,us.length=2->P us
 |[a,b],_=>h a b
theorem sS{P:List α->Prop}(h:∀a b c,P [a,b,c]):∀us:List α,us.length=3->P us
 |[a,b,c],_=>h a b c
theorem yx{P:List α->Prop}(h:∀a b c d,P [a,b,c,d]):∀us:List α,us.length=4->P us
 |[a,b,c,d],_=>h a b c d
def aW.bE{x qual:Str}{N ps:List Str}{k:Nat}{sp:Sp}(F:aW K x qual st f fd)(S:bh N ps (aN st))
  (lS:∀(aE:Value) (A:Around) (outer:List Env) (s:Shared) (H:Hp) (vs:List V) (Q:VK) (E:XK),bZ k (A.deeper (PyProof.Rows.envOfC qual (aN st) s.heap.objs.size f aE))->sp vs H Q E->
   ∃t,eK (ip aP P w K mg base N qual (aN st) f aE A outer s H E).qo (kd st) t/\t { nx:=λ_ H'=>Q .aB H',rt:=Q } (start N vs) H)
  (len:∀vs H Q E,sp vs H Q E->vs.length=ps.length:=by intro vs H Q E h;repeat (first | (obtain⟨rfl,_⟩:=h;rfl) | obtain⟨_,h⟩:=h)):aK P w K mg base aP (k+1) f fd ps sp:=F.ok S len lS
end L2
namespace L2
open PySem PySem.Spec PyProof.Rows
variable{c j' kk l n q:Nat}{X:Cx}{qual x:Str}{st:Stmt}{C a f i y:Addr}{fd:FuncData}{d u v1 v2:Value}{N ps ss:List Str}{sp:Sp}{ds us vs:List Value}{rr:Frag->R2}{ta:TA}{K K':Frag}{xs ys:List V}{js:List Nat}{tt:TT}{te:TE}{O:St}{H H1:Hp}{E Q:Value->Shared->Prop}{b:Int}{v:V}{P prog:Program}{w:World}{e tg:Expr}{o1 o2 ob:Obj}{kvs:List (Key×V)}{h h':Heap}{U:Nat->Heap->Prop}{K1 K2:Shared->Prop}{A:Around}{pins:List (Addr×Obj)}{s:Shared}{elts es:List Expr}{oa p p' pos:Pos}{g:TG}{items:Array Value}{W:List V->Hp->(It->Hp->Prop)->Prop}{rest:List Stmt}{expr:Bool}{kz:Str->Int}{Z:Unit->Shared->Prop}{M:Model}{T:Key->Bool}
def d8(h:n<=10000):n<=sizeLine:=bF h (by decide)
def lj(h:n<=10000):n<sizeLine:=lK h (by decide)
def Ye:bootBuiltins "sum"=some (.builtin "sum"):=by decide +kernel
def Yf:bootBuiltins "min"=some (.builtin "min"):=by decide +kernel
theorem Yg(is:List Int):∀n,n<=is.length->preSum (λi=>(is[i]?).getD 0) n=(is.take n).sum:=by
 intro n
 induction n with
 |zero=>intro _;rfl
 |succ n ih=>
  intro h
  have e:is[n]? = some (is[n]'(by lia)):=bf _
  rw[eJ,LK,<-ih (by lia)]
  show preSum _ n+(is[n]?).getD 0=_
  rw[e]
  simp
def Yh(hc:X.calm=true):il X (.builtin "sum") (λxs H Q=>∃(a:Addr) (is:List Int),xs=[.ref a]/\aj X.K H a (is.map V.int)/\Q (.int is.sum) H):=by
 intro pins s O H xs us Q I r h
 obtain⟨l,is,rfl,hq,q⟩:=h
 obtain⟨u,rfl,ru⟩:=vals1 r
 cases ru
 obtain⟨its,rv,pl,hz⟩:=I.list hq
 have hl:=pl.isList
 have hh:X.A.handled=none:=I.ok.hd hc
 have aT:l<s.heap.objs.size:=by obtain⟨_,e,_⟩:=hl;exact bA e
 have hlen:its.length=is.length:=by rw[<-rv.length,aw]
 refine call_sum_walkG (xu hl ?_)
 refine⟨s.heap.objs.size,[s.heap.objs.size,l],[s.heap.objs.size],its.toArray.size,_,_,λi=>(is[i]?).getD 0,rfl,Walks.list (A:=X.A.in1) hh _ l (bR aT) its.toArray,
  ⟨⟨_,cz _ rfl,rfl,rfl⟩,hl.push _⟩,λb hb=>?_,λi v hP=>?_,λh' tk t' hk=>?_⟩
 .have z:b=s.heap.objs.size\/b=l:=by simpa using hb
  show b<(s.heap.push _).objs.size
  rw[rN]
  rcases z with z | z
  .rw[z];exact rG _
  .rw[z];exact nU aT
 .have hv:its[i]? = some v:=by simpa using hP
  have hi:i<is.length:=by rw[<-hlen];exact(bY.mp hv).1
  obtain⟨u',e1,e2⟩:=rv.get (i:=i) (x:=V.int is[i]) (by simp[hi])
  rw[hv] at e1
  cases e1
  obtain⟨t,rfl⟩:=e2
  exact⟨t,by simp[hi]⟩
 .have e:preSum (λi=>(is[i]?).getD 0) its.toArray.size=is.sum:=by
   rw[br,hlen,Yg is _ (aO _),Eu]
  rw[e]
  exact⟨.int _,H,I.kept λb o e=>LSm.kept_iter hk b o e,⟨_,rfl⟩,q⟩
structure qA(K:Frag)(x qual:Str)(st:Stmt)(f:Addr)(fd:FuncData)(d:Value):Prop where
 ex:∃(oc:Value) (od:Option Addr) (T:Addr) (kV doc pm:Value) (an:Option Addr) (aE ct:Value) (jX:Array (Option Value)),
  fd=fnOf x qual (qx st) (kd st) (aN st) (.ref T) kV doc pm an aE ct/\K.lookup f=some ⟨oc,od,.func fd,jX⟩/\codeIn K aE qual=true/\
  ∃(yz:Option Addr) (n:Nat) (rV:Array (Option Value)),K.lookup T=some ⟨.type "tuple",yz,.seq #[d] n,rV⟩
 kp:keepIn K (.ref f)=true
section
variable{P:Program}{w:World}{K:Frag}{mg:Str->Option Value}{base:Heap}
def qA.ok{k:Nat}(F:qA K x qual st f fd d)(S:bh N ps (aN st))(len:∀vs H Q E,sp vs H Q E->vs.length=ps.length)
  (lS:∀(aE:Value) (A:Around) (outer:List Env) (s:Shared) (H:Hp) (vs:List V) (Q:VK) (E:XK),bZ k (A.deeper (envOfC qual (aN st) s.heap.objs.size f aE))->sp vs H Q E->
   ∃t,eK (ip aP P w K mg base N qual (aN st) f aE A outer s H E).qo (kd st) t/\t { nx:=λ_ H'=>Q .aB H',rt:=Q } (start N vs) H):aK P w K mg base aP (k+1) f fd ps sp:=by
 obtain⟨oc,od,T,kV,doc,pm,an,aE,ct,jX,rfl,lk,ij,_⟩:=F.ex
 refine ya lk ij S len λA outer s H vs Q E hr kX=>?_
 obtain⟨t,h,q⟩:=lS aE A outer s H vs Q E hr kX
 exact⟨t,h.qo,q⟩
def qA.binds(F:qA K x qual st f fd d)
  (h:∀(T:Addr) (kV doc pm:Value) (an:Option Addr) (aE ct:Value) (s:Shared) (us:List Value) (yz:Option Addr) (n:Nat) (rV:Array (Option Value)),s.heap.get? T=some ⟨.type "tuple",yz,.seq #[d] n,rV⟩->(us++ds).length=ps.length->
   BindsTo s (fnOf x qual (qx st) (kd st) (aN st) (.ref T) kV doc pm an aE ct) ⟨us,[]⟩ (ps.zip (us++ds))):Binds K fd ps ds:=by
 obtain⟨oc,od,T,kV,doc,pm,an,aE,ct,jX,rfl,lk,ij,yz,n,rV,hT⟩:=F.ex
 intro s us KX hl
 exact h T kV doc pm an aE ct s us yz n rV (KX _ _ hT) hl
structure Mt(P:Program)(w:World)(K:Frag)(mg:Str->Option Value)(base:Heap)(C:Addr)(m:Str)(k:Nat)(sp:Sp)(cI:List V):Prop where
 cl:de K C
 ex:∃(f:Addr) (fd:FuncData) (ps:List Str) (ds:List Value),Meth K C m f/\aK P w K mg base aP k f fd ps sp/\Binds K fd ps ds/\Vals cI ds
structure Nw(P:Program)(w:World)(K:Frag)(mg:Str->Option Value)(base:Heap)(x:Str)(C:Addr)(k:Nat)(sp:Sp):Prop where
 ex:∃(f:Addr) (fd:FuncData) (ps:List Str),Mk K C f/\aK P w K mg base aP k f fd ps sp/\Binds K fd ps []/\mg x=some (.ref C)
end
section
variable{X:Cx}{C:Addr}{x m:Str}{p pos apos:Pos}{e o:Expr}{es:List Expr}{t:TA}{ta:TE}{sp:Sp}{k:Nat}{cI:List V}{pl:Sem Bool}
theorem qB(M:Mt X.prog X.w X.K X.mg X.base C m k sp cI)(hr:bZ l X.A)(he:PE X o ta)(ha:PA X (e::es) t)(hle:k<=l:=by first | decide | lia)
  (cL:starEach (e::es) X.env=(false,eval e X.env)::starEach es X.env:=by rfl) (hpl:(backTo pos (starEach es X.env)).any (·.1)=false:=by rfl)
  (ht:eval (.Call (.Attribute o m apos) (e::es) [] pos) X.env=(do
   let ov<-eval o X.env
   standAt apos.atName
   let (f,first)<-holding [ov] (getMethod ov m pl)
   callWith pos f first (backTo pos (starEach (e::es) X.env)) (backToKw pos (keywordEach [] X.env))):=by rfl):PE X (.Call (.Attribute o m apos) (e::es) [] pos) (Be C m sp cI E0 ta t):=by
 obtain⟨f,fd,ps,ds,hm,G,hb,hd⟩:=M.ex
 exact V7 he M.cl hm G (hr.mono hle) hb hd yl ha cL hpl ht
theorem FW(M:Mt X.prog X.w X.K X.mg X.base C m k sp cI)(hr:bZ l X.A)(he:PE X o ta)(hle:k<=l:=by first | decide | lia)
  (ht:eval (.Call (.Attribute o m apos) [] [] pos) X.env=(do
   let ov<-eval o X.env
   standAt apos.atName
   let (f,first)<-holding [ov] (getMethod ov m pl)
   callWith pos f first (backTo pos (starEach [] X.env)) (backToKw pos (keywordEach [] X.env))):=by rfl):PE X (.Call (.Attribute o m apos) [] [] pos) (Be C m sp cI E0 ta m5):=by
 obtain⟨f,fd,ps,ds,hm,G,hb,hd⟩:=M.ex
 exact V8 he M.cl hm G (hr.mono hle) hb hd yl ht
theorem Yi(N:Nw X.prog X.w X.K X.mg X.base x C k sp)(hr:bZ l X.A)(hle:k+1<=l:=by first | decide | lia)(hg:Gl X x:=by rfl)(dR:(x==("__debug__":Str))=false:=by decide):PE X (.Call (.Name x p) [] [] pos) (Bf C sp [] E0 m5):=by
 obtain⟨f,fd,ps,M,G,hb,hm⟩:=N.ex
 exact Wa M G (hr.mono hle) hg hm hb .nil yl dR
end
section
variable{X:Cx}{K:Frag}{o e:Expr}{es:List Expr}{to:TE}{t:TA}{name:Str}{apos dM pos:Pos}{T id:String}
def Yj{rr:Frag->V->List V->Hp->VK->Prop}(hK:X.K=K)(pa:PlainAttrs T)(slot:Slot T name id)(Fc:typeOf (.builtin id)=pure (.type "method_descriptor"))(hm:Bh X id (rr X.K))(ho:PE X o to)(ha:PA X (e::es) t)
  (yf:attributeBase o name X.env (eval o X.env)=eval o X.env:=by rfl)
  (Fd:((backTo dM (starEach (e::es) X.env)).all (λx=>!x.1)&&(backToKw dM (keywordEach [] X.env)).all (λx=>x.1.isSome)
   && decide ((e::es).length+([]:List Keyword).length+(if ([]:List Keyword).isEmpty then 0 else 1)<30))=true:=by rfl)
  (Fe:(apos.endLine==dM.line)=true:=by rfl) (hs:starEach (e::es) X.env=(false,eval e X.env)::starEach es X.env:=by rfl) (Ff:(backTo dM (starEach es X.env)).any (·.1)=false:=by rfl) :
  PE X (.Call (.Attribute o name apos) (e::es) [] dM) (MT K T (rr K) to t):=by
 subst hK
 exact fq pa slot Fc hm ho ha yf Fd Fe hs Ff
def Bz{a i:Expr}{ta ti:TE}(hK:X.K=K)(hr:vi X (rr X.K))(ha:PE X a ta)(hi:PE X i ti)(hp:E9 i:=by exact λ_ _=>rfl):PE X (.Subscript a i pos) (qr (rr K) ta ti):=by
 subst hK
 exact aV hr ha hi hp
end
theorem Yk{Q:VK}(hn:xs.length<=10000)(ha:aj K H1 a xs)(p:Nat->Bool)(F:Addr->Nat->V->Hp->Prop)
  (mono:∀D i y H H',H1 D=none->(∃o,H D=some (.lst o))->(∀b o,b≠D->H b=some o->H' b=some o)->F D i y H->F D i y H')
  (hs:∀D i x H (Z0:Hp->Prop) (Z:V->Hp->Prop),H1 D=none->xs[i]? = some x->af H1 H->(∃o,H D=some (.lst o))->(∀H2,af H H2->p i=false->Z0 H2)->(∀y H2,af H H2->p i=true->F D i y H2->Z y H2)->
   ∃b v1 v2,x = .ref b/\ak K' H b [v1,v2]/\tt (some v1::some v2::fO js O) H λb H2=>if b=true then te (some v1::some v2::fO js O) H2 Z else Z0 H2)
  (hd:∀D ys H,H1 D=none->H D=some (.lst ys)->af H1 H->Paired (λi y=>F D i y H) ((List.range xs.length).filter p) ys->Q (.ref D) H):FC K' js tt te O (rZ K a) H1 Q:=by
 intro D hD
 have hz:10000<sizeLine:=by decide
 refine⟨λi m H=>m=xs.length - i/\i<=xs.length/\∃ys,H D=some (.lst ys)/\af H1 H/\Paired (λi y=>F D i y H) ((List.range i).filter p) ys,⟨xs.length,by simp,bG _,[],ao,af.upd hD,.nil⟩,?_⟩
 rintro i m H ⟨rfl,hi,ys,bD,sm,pr⟩
 have q:=sm.seq ha
 by_cases aT:i<xs.length
 .refine .inr ⟨⟨xs,_,q,bf aT⟩,λv H' y=>?_⟩
  obtain⟨rfl,yy⟩:=y
  have yy:=yy xs q
  have kP:List.range (i+1)=List.range i++[i]:=nV
  have ln:ys.length<=i:=by
   have h1:=pr.length
   have h2:((List.range i).filter p).length<=(List.range i).length:=fY _ _
   rw[mS] at h2
   lia
  have sp:af H' H':=af.cx _
  refine hs D i v _ _ _ hD yy (sm.trans sp) ⟨ys,sp _ _ bD⟩ (λH2 s2 hp=>?_) (λz H2 s2 hp hF=>?_)
  .refine⟨xs.length - (i+1),by lia,rfl,aT,ys,s2 _ _ (sp _ _ bD),sm.trans (sp.trans s2),?_⟩
   rw[kP,ie,dj,av (by rw[hp];exact b8),kN,eV]
   exact Paired.bU pr λj z f=>mono D j z H' H2 hD ⟨ys,bD⟩ (λb o _ e=>s2 b o (sp b o e)) f
  .refine⟨ys,s2 _ _ (sp _ _ bD),by lia,xs.length - (i+1),by lia,rfl,aT,ys++[z],ao,(sm.trans (sp.trans s2)).kf hD,?_⟩
   have up:∀b o,b≠D->H2 b=some o->upd H2 D (.lst (ys++[z])) b=some o:=λb o hb e=>by rw[ar hb];exact e
   rw[kP,ie,dj,az hp,kN]
   refine lJ (Paired.bU pr λj z' f=>?_) (mono D i z H2 _ hD ⟨ys,s2 _ _ (sp _ _ bD)⟩ up hF)
   exact mono D j z' H2 _ hD ⟨ys,s2 _ _ (sp _ _ bD)⟩ up (mono D j z' H' H2 hD ⟨ys,bD⟩ (λb o _ e=>s2 b o (sp b o e)) f)
 .have e:i=xs.length:=by lia
  subst e
  exact .inl ⟨⟨xs,q,aO _⟩,hd D ys H hD bD sm pr⟩
section
variable{X:Cx}{K:Frag}{a b:Expr}{ta tb:TE}{pos:Pos}
def Yl{op:CmpOp}(hK:X.K=K)(hr:cN X (compareOp op) (rr X.K))(ha:PE X a ta)(hb:PE X b tb)(hm:behindInMarks op b=false:=by first | exact Ba _ | rfl):PE X (.Compare a [op] [b] pos) (qr (rr K) ta tb):=by
 subst hK
 exact r6 hr ha hb hm
def NL{op:CmpOp}(hK:X.K=K)(hr:cN X (compareOp op) (rr X.K))(ha:PE X a ta)(hb:PE X b tb)(hm:behindInMarks op b=false:=by first | exact Ba _ | rfl):PT X (.Compare a [op] [b] pos) (EV (qr (rr K) ta tb)):=by
 subst hK
 exact bO hr ha hb hm
end
noncomputable def gB(a b:Str):Bool := !ltCps b.cps.toList a.cps.toList
def sT{a b:Str}:gB a b=true↔a.cps.toList<=b.cps.toList:=by
 unfold gB
 rw[ltCps_eq]
 by_cases h:b.cps.toList<a.cps.toList
 .rw[aJ h]
  exact⟨(λz=>nomatch z),(λz=>absurd h (List.not_lt.mpr z))⟩
 .rw[aI h]
  exact⟨λ_=>List.not_lt.mp h,λ_=>rfl⟩
def Ym{a b:Str}(h1:gB a b=true)(h2:gB b a=true):a=b:=by
 have e:=List.le_antisymm (sT.mp h1) (sT.mp h2)
 cases a;cases b
 exact fc Str.mk (Array.toList_inj.mp e)
def NM{a b c:Str}(h1:gB a b=true)(h2:gB b c=true):gB a c=true:=sT.mpr (List.le_trans (sT.mp h1) (sT.mp h2))
def Yn(a b:Str):(gB a b||gB b a)=true:=by
 rcases List.le_total a.cps.toList b.cps.toList with h | h
 .rw[sT.mpr h,Bool.true_or]
 .rw[sT.mpr h,rO]
noncomputable def cV(l:List Str):List Str:=l.mergeSort gB
def iV(l:List Str):(cV l).Perm l:=List.mergeSort_perm l gB
def FX(l:List Str):(cV l).Pairwise (λa b=>gB a b=true):=List.pairwise_mergeSort (le:=gB) (λ_ _ _ h1 h2=>NM h1 h2) Yn l
theorem NN:∀{p:Str}{l:List Str},risingS p l=true->(p::l).Pairwise (λa b=>gB a b=true)
 |p,[],_=>List.pairwise_singleton _ _
 |p,x::r,h=>by
  unfold risingS at h
  rw[d9] at h
  have ih:=NN h.2
  have h1:gB p x=true:=h.1
  refine List.Pairwise.cons (λy hy=>?_) ih
  rcases cw.mp hy with z | z
  .rw[z];exact h1
  .exact NM h1 ((List.pairwise_cons.mp ih).1 y z)
def NO{l:List Str}(h:sortedS l=true):l.Pairwise (λa b=>gB a b=true):=by
 cases l with
 |nil=>exact List.Pairwise.nil
 |cons p r=>exact NN h
def BA{l m:List Str}(hp:l.Perm m)(h:l.Pairwise (λa b=>gB a b=true)):cV m=l:=
 (List.Perm.eq_of_pairwise (le:=λa b=>gB a b=true) (λ_ _ _ _=>Ym) h (FX m) (hp.trans (iV m).symm)).symm
def NP:∀{us:List Value},StrsAre us ss->Vals (ss.map V.str) us:=by
 induction ss with
 |nil=>intro us h;cases h;exact .nil
 |cons x r ih=>
  intro us h
  cases h with
  |cons _ t q=>exact .cons ⟨t,rfl⟩ (ih q)
section
variable{X:Cx}
theorem NQ:il X (.builtin "sorted") (λxs H Q=>∃(a:Addr) (ss:List Str),xs=[.ref a]/\aj X.K H a (ss.map V.str)/\ss.length<64/\∀p,H p=none->Q (.ref p) (upd H p (.lst ((cV ss).map V.str)))):=by
 intro pins s O H xs us Q I r h
 obtain⟨l,ss,rfl,hq,fA,q⟩:=h
 obtain⟨u,rfl,ru⟩:=vals1 r
 cases ru
 obtain⟨its,rv,pl,hz⟩:=I.list hq
 have hS:StrsAre its ss:=FN rv
 have hlen:its.length=ss.length:=by rw[<-rv.length,aw]
 refine sorted_strs pl.isList hS (by lia) λout FY a1 a2 a3=>?_
 obtain⟨e,he⟩:=sortedAll_at s.heap its out
 have e1:cV ss=FY:=BA a2 (NO a3)
 have hf:H (s.heap.objs.size+1)=none:=I.aA.fresh (gw _)
 refine⟨.ref (s.heap.objs.size+1),_,I.laid (a:=s.heap.objs.size+1) (o := .lst ((cV ss).map V.str)) (t':=s.toks) (λb o z=>sortedAll_old z) (gw _) ?_,rfl,q _ hf⟩
 have kZ:(cV ss).length=ss.length:=(iV ss).length_eq
 have Yo:(64:Nat)<=sizeLine:=by decide
 refine⟨by rw[aw];lia,out.toList,e,?_,by simpa using he⟩
 rw[e1]
 exact NP a1
theorem NR:∀{ss:List Str}{vs:List Value},vs.length=ss.length->(∀(j:Nat) (v:Value),vs[j]? = some v->∃x t,ss[j]? = some x/\v = .str x t)->StrsAre vs ss
 |[],[],_,_=>.nil
 |[],_::_,h,_=>by simp at h
 |_::_,[],h,_=>by simp at h
 |x::r,v::t,h,f=>by
  obtain⟨y,tk,e1,e2⟩:=f 0 v rfl
  simp at e1
  subst e1 e2
  exact .cons _ _ (NR (by simpa using h) λj u hu=>by simpa using f (j+1) u (by simpa using hu))
noncomputable def aM(kvs:List (Key×V)):List Str:=kvs.map λq=>match q.1 with | .inr x=>x | .inl _=>⟨#[]⟩
def l7(kvs:List (Key×V)):Prop := ∀q∈kvs,∃x,q.1=Sum.inr x
theorem Yp(hc:X.calm=true):il X (.builtin "sorted") (λxs H Q=>∃(a:Addr) (kvs:List (Key×V)),xs=[.ref a]/\H a=some (.dK kvs)/\l7 kvs/\kvs.length<64/\∀p,H p=none->Q (.ref p) (upd H p (.lst ((cV (aM kvs)).map V.str)))):=by
 intro pins s O H xs us Q I r h
 obtain⟨d,kvs,rfl,hd,hk,fA,q⟩:=h
 obtain⟨u,rfl,ru⟩:=vals1 r
 cases ru
 have Yo:(64:Nat)<=sizeLine:=by decide
 obtain⟨hz,hS,vs,rel,dd⟩:kvs.length<=sizeLine/\(d==sysModules)=false/\∃vs,KV kvs vs/\s.heap.DictOf (dQ X.prog X.w) d vs:=I.aA d _ hd
 obtain⟨ep,sV⟩:=dd.dictAt
 have yA:vs.length=kvs.length:=(gE rel).symm
 have hh:X.A.handled=none:=I.ok.hd hc
 refine Calls.call_function_entry kind_sorted plain_sorted entry_sorted (args_sorted1 _) ?_
 unfold Builtin.«sorted»
 refine ah (m:=checkCount "sorted" 1 1 _) (aL ?_)
 refine ah (PySem.W.kdu_collect (A:=X.A.in1) (PySem.W.kdl_dict (knd:=dQ X.prog X.w) (kvs:=vs) (ep:=ep) hS) hh sV (by lia) λh' tk acc Yq NS=>?_)
 have hl:acc.toList.length=kvs.length:=by rw[uA,<-yA];exact NS.1
 have FZ:StrsAre acc.toList (aM kvs):=by
  refine NR (by rw[hl];unfold aM;rw[aw]) λj v e=>?_
  obtain⟨k,x,hx,sW⟩:=NS.2 j v (by rw[<-Array.getElem?_toList];exact e)
  obtain⟨y,hy,e1,_⟩:=Paired.get rel hx
  obtain⟨z,NT⟩:=hk y (bj hy)
  have e1:y.1=k:=e1
  rw[NT] at e1
  subst e1
  rcases lM (show n0 (Sum.inr z) v=true from sW) with ⟨i,t,e2,e3⟩ | ⟨x',t,e2,e3⟩
  .cases e2
  .cases e2
   refine⟨z,t,?_,e3⟩
   unfold aM
   rw[bw,hy]
   simp[NT]
 refine ah (wpAny_newList ?_ (by rw[hl];lia))
 have xR:(h'.push (seqObj "list" acc.toList.toArray 0)).get? h'.objs.size=some (seqObj "list" acc.toList.toArray 0):=cz _ rfl
 refine ah (iL (rK slot_list_sort ⟨_,xR,rfl⟩ entry_list_sort (list_sort_treeK strKind_oneLt xR FZ.keysOf (λv₁ v₂ rest e=>keyKind_strs (by rw[<-e];exact FZ)) (by lia) λeD hp hs=>⟨_,rfl,?_⟩) (args_list_sort _)))
 refine aL ⟨_,rfl,?_⟩
 obtain⟨FY,a1,a2,a3⟩:=sorted_out_str FZ hp hs
 obtain⟨e,he⟩:=sortedHeap_at (out:=(arrOf eD).map (·.2)) xR
 have e1:cV (aM kvs)=FY:=BA a2 (NO a3)
 have I1:Inv X pins O H { s with heap:=h',toks:=tk }:=I.kept Yq
 have hf:H h'.objs.size=none:=I1.aA.fresh (aO _)
 refine⟨.ref h'.objs.size,_,I1.laid (a:=h'.objs.size) (o := .lst ((cV (aM kvs)).map V.str)) (t':=tk) (λb o z=>?_) (aO _) ?_,rfl,q _ hf⟩
 .have z:h'.get? b=some o:=z
  have hb:b<h'.objs.size:=bA z
  rw[sortedHeap_old (bR hb) (by rw[rN];exact nU hb),Heap.get?_push_ne _ _ _ (bR hb)]
  exact z
 .have kZ:(cV (aM kvs)).length=kvs.length:=by rw[(iV _).length_eq];unfold aM;rw[aw]
  refine⟨by rw[aw];lia,((arrOf eD).map (·.2)).toList,e,?_,by rw[Array.toArray_toList];exact he⟩
  rw[e1]
  exact NP a1
end
section
variable{X:Cx}{pins:List (Addr×Obj)}{O:St}{H:Hp}{s:Shared}
def Inv.NU{o u:HO}(I:Inv X pins O H s)(ha:H a=some o)(new:da X.prog X.w (upd H a u) s.heap a u)(h0:∀ob v,X.H₀ a≠some (.eA ob v))(h1:∀xs,X.H₀ a≠some (.tup xs))(h2:∀ps,X.H₀ a≠some (.n5 ps))
  (n1:∀xs,o ≠ .tup xs) (n2:∀y,o ≠ .own y):Inv X pins O (upd H a u) s:=by
 have no:∀b,H b=none->upd H a u b=none:=λb hb=>by rw[ar (λz=>by rw[z,ha] at hb;cases hb)];exact hb
 refine⟨I.ok,I.os,I.bare,⟨I.base.keep,I.base.slot,λb ob e n hx=>no b (I.base.free b ob e n hx),I.base.there,λb xs e=>?_,λb ob v e=>?_,λb ps e=>?_⟩,I.loc,I.cell,no _ I.free,λx c e=>no c (I.dk x c e),λp hp=>?_,λb v q=>?_,I.len⟩
 .rw[ar (λz=>h1 xs (by rw[<-z];exact e))];exact I.base.gc b xs e
 .rw[ar (λz=>h0 ob v (by rw[<-z];exact e))];exact I.base.jj b ob v e
 .rw[ar (λz=>h2 ps (by rw[<-z];exact e))];exact I.base.jS b ps e
 .obtain⟨p1,p2,p3,p4,p5⟩:=I.pin p hp
  exact⟨p1,no _ p2,p3,p4,p5⟩
 .by_cases hb:b=a
  .subst hb
   rw[ao] at q
   cases q
   exact new
  .rw[ar hb] at q
   refine(I.aA b v q).jQ (λc w _ e=>e) (λc e=>?_) λc xs e=>?_
   .rw[ar (λz=>n2 b (by rw[z,ha] at e;exact cY e))];exact e
   .rw[ar (λz=>n1 xs (by rw[z,ha] at e;exact cY e))];exact e
end
noncomputable def F0(a:Addr)(ob:Obj)(kvs:List (Key×V)):It:=
 ⟨λi H=>H a=some (.eA ob (.dK kvs))/\i<kvs.length,λi H x H'=>H'=H/\∃q,kvs[i]? = some q/\x=kV q.1,λi H=>H a=some (.eA ob (.dK kvs))/\i=kvs.length⟩
def Yr{k:Key}{v:Value}(h:n0 k v=true):RelV (kV k) v:=by
 rcases lM h with ⟨i,t,rfl,rfl⟩ | ⟨x,t,rfl,rfl⟩
 .exact⟨t,rfl⟩
 .exact⟨t,rfl⟩
theorem Ys{it:Addr}{vs:List (Key×Value)}{ep:Nat}(cE:a≠it)(rel:KV kvs vs)(hD:∀h:Heap,h.get? a=some ob->h.DictAt (dQ P w) a vs ep) :
  Turn P w K tg (F0 a ob kvs) [it] it (λi h=>h.IsKeyIter it a i vs.length ep) where
 mem:=by simp
 obj:=λi h st b hb=>by
  obtain rfl:b=it:=by simpa using hb
  obtain⟨o,e,c,d⟩:=st
  exact⟨o,e,λv z=>by rw[d] at z;cases z⟩
 keep:=λi h h' st k=>st.at λo e=>k it (by simp) o e
 item:=by
  intro X hP hw hK hc i pins s O H E I hf st hg
  subst hP hw hK
  obtain⟨f0,f1,f2,f3,f4,f5⟩:=hf it (by simp)
  obtain⟨ha,hi⟩:=hg
  have W:=Walks.dictKeys (knd:=dQ X.prog X.w) (A:=X.A) (I.ok.hd hc) it a cE vs ep
  have yA:kvs.length=vs.length:=gE rel
  refine W.item i s _ _ (by lia) ⟨st,hD _ (I.aA a _ ha).1⟩ λv h' tk hv eD kk=>?_
  obtain⟨k,x,hx,hk⟩:=hv
  obtain⟨q,hq,e1,_⟩:=Paired.get rel hx
  have I1:Inv X pins O H { s with heap:=h',toks:=tk }:=I.turned (λb o hb e=>kk b o (by simpa using hb) e) f0 f1 f3 f4 f5
  obtain⟨o,e4,e5,e6⟩:=id eD.1
  have hk:n0 k v=true:=hk
  refine⟨_,rfl,uZ (s:={ s with heap:=h',toks:=tk }) e4 e5 e6 (by decide) ⟨kV k,H,I1,Yr hk,⟨rfl,q,hq,by rw[show q.1=k from e1]⟩,eD.1,λb hb=>(hf b hb).1⟩⟩
 done:=by
  intro X hP hw hK hc i pins s O H E I hf st hg
  subst hP hw hK
  obtain⟨f0,f1,f2,f3,f4,f5⟩:=hf it (by simp)
  obtain⟨ha,hi⟩:=hg
  have W:=Walks.dictKeys (knd:=dQ X.prog X.w) (A:=X.A) (I.ok.hd hc) it a cE vs ep
  have yA:kvs.length=vs.length:=gE rel
  have hi:i=vs.length:=by lia
  subst hi
  exact W.done s _ _ ⟨st,hD _ (I.aA a _ ha).1⟩ λh' tk kk=>⟨rfl,I.turned (λb o hb e=>kk b o (by simpa using hb) e) f0 f1 f3 f4 f5⟩
 self:=λ_ _ _ _ _ st h=>wpAny_pyIter_keyiter st h
def Yt(tl:TE):TI:=λO H R=>tl O H λx H1=>∃a ob kvs,x = .ref a/\H1 a=some (.eA ob (.dK kvs))/\R (F0 a ob kvs) H1
def Yu{l:Expr}{tl:TE}(hl:PE X l tl):PI X tg l (Yt tl):=by
 intro pins s O H R I h
 refine aC (hl pins s O H _ I h) λv s1 ⟨x,H1,I1,r1,q1⟩=>?_
 obtain⟨a,ob,kvs,rfl,ha,q⟩:=q1
 cases r1
 obtain⟨ki,hz,hS,vs,rel,dd⟩:=I1.aA a _ ha
 obtain⟨ep,sV⟩:=dd.dictAt
 have aT:a<s1.heap.objs.size:=bA ki
 refine wpAny_pyIter_dict hS sV ?_
 refine⟨s1.heap.objs.size,[s1.heap.objs.size],_,_,H1,rfl,I1.kept (t':=s1.toks) λb o e=>bu _ e,Ys (bR aT) rel (λh' e=>?_),⟨_,cz _ rfl,rfl,rfl⟩,λb hb=>?_,q⟩
 .exact sV.at' λo e'=>by rw[ki] at e';cases e';exact e
 .obtain rfl:b=s1.heap.objs.size:=by simpa using hb
  exact I1.kU (aO _) I1.fresh
def Yv:oy (F0 a ob kvs) (λH=>H a=some (.eA ob (.dK kvs))) (kvs.map λq=>kV q.1):=
 ⟨λi H h hi=>⟨h,by simpa using hi⟩,λi H x H' h _ y=>⟨y.1,by
  obtain⟨_,q,e1,e2⟩:=y
  rw[bw,e1,e2]
  rfl⟩,λH h=>⟨h,by simp⟩⟩
def Yw(t:TS):TS:=λD O H=>∃a kvs,H a=some (.dK kvs)/\∀ob,t { nx:=λO' H'=>H' a=some (.eA ob (.dK kvs))/\D.nx O' (upd H' a (.dK kvs)),bk:=λ_ _=>False,ct:=λ_ _=>False,rt:=λ_ _=>False } O (upd H a (.eA ob (.dK kvs)))
def Yx{t:TS}(h:PS X st t):PS X st (Yw t):=by
 intro pins s O H D I hq
 obtain⟨a,kvs,ha,hq⟩:=hq
 have ok:=I.aA a _ ha
 obtain⟨z,y,vs,r,ob,es,ep,ki,rest⟩:=id ok
 have h0:∀ob v,X.H₀ a≠some (.eA ob v):=λob v e=>by have:=I.base.jj a ob v e;rw[ha] at this;cases this
 have h1:∀xs,X.H₀ a≠some (.tup xs):=λxs e=>by have:=I.base.gc a xs e;rw[ha] at this;cases this
 have h2:∀ps,X.H₀ a≠some (.n5 ps):=λps e=>by obtain⟨m,this⟩:=I.base.jS a ps e;rw[ha] at this;cases this
 have I1:Inv X pins O (upd H a (.eA ob (.dK kvs))) s:=I.NU ha ⟨ki,ok⟩ h0 h1 h2 (λ_ z=>by cases z) (λ_ z=>by cases z)
 refine aC (h pins s O _ _ I1 (hq ob)) λf s1 hs=>?_
 cases f with
 |next=>
  obtain⟨O',H1,J,e1,q⟩:=hs
  exact⟨O',upd H1 a (.dK kvs),J.NU e1 (J.aA a _ e1).2 h0 h1 h2 (λ_ z=>by cases z) (λ_ z=>by cases z),q⟩
 |brk=>obtain⟨_,_,_,q⟩:=hs;exact q.elim
 |cont=>obtain⟨_,_,_,q⟩:=hs;exact q.elim
 |ret u=>obtain⟨_,_,_,_,_,q⟩:=hs;exact q.elim
section
variable{X:Cx}
noncomputable def gV(z:Str)(n:Nat):Str:=⟨(List.replicate n z.cps.toList).flatten.toArray⟩
theorem NV(a:Array Nat):∀(n:Nat) (b:Array Nat),((List.replicate n a).foldl (· ++ ·) b).toList=b.toList++(List.replicate n a.toList).flatten
 |0,b=>by simp
 |n+1,b=>by
  rw[pY,List.foldl_cons,NV a n (b++a),pY,xw,Array.toList_append,pZ]
theorem Yy(z:Str){k:Int}(h:0<=k):Txt.mul z k=gV z k.toNat:=by
 unfold Txt.mul gV
 by_cases h1:k<1
 .have:k=0:=by lia
  subst this
  rw[az (by decide)]
  rfl
 .rw[av h1]
  split
  .rename_i hc
   rcases(uI _ _ ▸ hc:(k==1)=true\/(z.length==0)=true) with hc | hc
   .have:k=1:=eq_of_beq hc
    subst this
    simp
   .have hz:z.cps.toList=[]:=List.eq_nil_of_length_eq_zero (by have:=eq_of_beq hc;simpa[Str.length] using this)
    cases z with
    |mk a=>
     have ha:a = #[]:=by simpa using hz
     subst ha
     simp
  .congr 1
   apply Array.toList_inj.mp
   rw[NV]
   simp
theorem Yz:cN X (binaryOp .Mult) (λx y H Q=>∃z k,x = .str z/\y = .int k/\0<=k/\k<=1000/\z.length<=1000/\Q (.str (gV z k.toNat)) H):=by
 intro pins s O H x y v u Q I rx ry h
 obtain⟨z,k,rfl,rfl,h0,h1,hz,q⟩:=h
 obtain⟨t,rfl⟩:=rx
 obtain⟨t',rfl⟩:=ry
 refine SB.mul ⟨?_,λhk _=>?_,λhk _=>?_⟩ λt2 k2=>⟨.str (gV z k.toNat),H,I.tok _,⟨t2,by rw[Yy z h0]⟩,q⟩
 .rw[Bool.or_eq_false_iff]
  exact⟨aI (by lia),aI (by lia)⟩
 .have:(1000:Int)<=(2 ^ 63 - 1) / k:=by
   rw[Int.le_ediv_iff_mul_le (by lia)]
   have:1000*k<=1000*1000:=Int.mul_le_mul_of_nonneg_left h1 (by decide)
   exact Int.le_trans this (by decide)
  lia
 .have:z.length*k.toNat<=1000*1000:=uP hz (by lia)
  unfold Builtin.Str.tooLong
  exact aI (by have hs:1000*1000<=sizeLine:=(by decide);lia)
def NW:V->List V->Hp->VK->Prop:=λx vs H Q=>∃y z,x = .str y/\vs=[.str z]/\Q (.int (Txt.count y z)) H
def YA:Bh X "str.count" NW:=by
 intro pins s O H x vs v us Q I rx rv h
 obtain⟨y,z,rfl,rfl,q⟩:=h
 obtain⟨t,rfl⟩:=rx
 obtain⟨u,rfl,t',rfl⟩:=rv.one
 exact SC.count ⟨.int _,H,I.tok _,⟨_,rfl⟩,q⟩
end
structure qC(z ti to i j:Addr)(f g:List Addr):Prop where
 a1:ti≠z
 a2:to≠z
 a3:i≠z
 a4:j≠z
 a6:to≠i
 a7:to≠j
 a8:i≠j
 b1:z∉f
 b2:to∉f
 b3:j∉f
 c1:z∉g
 c2:to∉g
 c3:i∉g
section
variable{prog:Program}{w:World}{A:Around}{E:Value->Shared->Prop}{s:Shared}{z ti to i j:Addr}{f g:List Addr}{n m k:Nat}{P R:Nat->Value->Prop}{S T:Nat->Heap->Prop}{a b:Value}
def mv{l:List Addr}(fr:∀i h h',U i h->(∀b∈l,∀o,h.get? b=some o->h'.get? b=some o)->U i h')(hy:y∉l)(hs:Heap.SameBut y h h')(u:U q h):U q h':=
 fr q h h' u λb hb o e=>hs.extBut b o (λx=>hy (x ▸ hb)) e
def YB(D1:Draws prog w A i f n P S)(D2:Draws prog w A j g m R T)(Z:qC z ti to i j f g)(hz:IsZip s.heap z ti to .none)(ht:IsPair s.heap ti (.ref i) (.ref j))(ho:IsPair s.heap to a b)
  (s1:S k s.heap) (s2:T k s.heap) (l1:k<n) (l2:k<m)
  (fin:∀h' tk x y,P k x->R k y->IsZip h' z ti to (rawInt s.heap.objs.size)->IsPair h' to x y->S (k+1) h'->T (k+1) h'->IsPair h' s.heap.objs.size x y->h'.objs.size=s.heap.objs.size+1->
   (∀c o,c≠z->c≠to->c≠i->c≠j->s.heap.get? c=some o->h'.get? c=some o)->Q (.ref s.heap.objs.size) { s with heap:=h',toks:=tk }) :
  wpAny (model prog w) A (Builtin.«zip.__next__» ⟨[.ref z],[]⟩) (λr s' =>∃v,r = .done (.ret v)/\Q v s') E s:=by
 show wpAny _ _ (field (Value.ref z) 2 >>= _) _ _ s
 refine ah (fI (i:=2) hz rfl (x := .bool false) rfl ?_)
 show wpAny _ _ (field (Value.ref z) 3 >>= _) _ _ s
 refine ah (fI (i:=3) hz rfl (x := .ref ti) rfl (ah (nW ht rfl ?_)))
 show wpAny _ _ (Builtin.SmallTypes.ownedTupleIsFree (Value.ref z) >>= _) _ _ s
 refine ah ?_
 unfold Builtin.SmallTypes.ownedTupleIsFree
 refine ah (fI (i:=0) hz rfl (x := .none) rfl (aL ?_))
 simp only[jO]
 refine ah (uO (ah (fI (i:=4) hz rfl (x := .ref to) rfl (ah (AN hz (by simp) λg1 y1 u1=>?_)))))
 have y1:IsZip g1 z ti to .ellipsis:=y1
 refine ah ?_
 simp only[List.zipIdx_cons,List.zipIdx_nil,LB,List.forIn_nil]
 refine ah (ah (Ew ?_))
 show wpAny _ _ (Builtin.SmallTypes.nextOf (Value.ref i) >>= _) _ _ _
 refine ah (D1.item k { s with heap:=g1 } _ _ l1 (mv D1.frame Z.b1 u1 s1) λx g2 kj px NX u2=>aL ?_)
 have o2:IsPair g2 to a b:=u2.extBut _ _ Z.a6 (u1.extBut _ _ Z.a2 ho)
 refine ah (nW o2 rfl (ah (UD (s:={ s with heap:=g2,toks:=kj }) o2 λg3 o3 u3=>?_)))
 have o3:IsPair g3 to x b:=o3
 refine ah (xy (aL ?_))
 refine ah (ah (Ew ?_))
 show wpAny _ _ (Builtin.SmallTypes.nextOf (Value.ref j) >>= _) _ _ _
 refine ah (D2.item k { s with heap:=g3,toks:=kj } _ _ l2 (mv D2.frame Z.c2 u3 (mv D2.frame Z.c3 u2 (mv D2.frame Z.c1 u1 s2))) λy g4 yB py yC u4=>aL ?_)
 have o4:IsPair g4 to x b:=u4.extBut _ _ Z.a7 o3
 refine ah (nW o4 rfl (ah (UD (s:={ s with heap:=g4,toks:=yB }) o4 λg5 o5 u5=>?_)))
 have o5:IsPair g5 to x y:=o5
 refine ah (xy (aL (aL ?_)))
 refine ah (nW o5 rfl (ah (wpAny_newTuple ?_)))
 have sz:g5.objs.size=s.heap.objs.size:=by rw[u5.1,u4.1,u3.1,u2.1,u1.1]
 have y5:IsZip g5 z ti to .ellipsis:=u5.extBut _ _ (bo Z.a2) (u4.extBut _ _ (bo Z.a4) (u3.extBut _ _ (bo Z.a2) (u2.extBut _ _ (bo Z.a3) y1)))
 have zl:z<g5.objs.size:=bA y5
 have kp:∀c o,c≠z->c≠to->c≠i->c≠j->s.heap.get? c=some o->g5.get? c=some o:=λc o d1 d2 d3 d4 q=>
  u5.extBut _ _ d2 (u4.extBut _ _ d4 (u3.extBut _ _ d2 (u2.extBut _ _ d3 (u1.extBut _ _ d1 q))))
 have r1:S (k+1) g5:=mv D1.frame Z.b2 u5 (mv D1.frame Z.b3 u4 (mv D1.frame Z.b2 u3 NX))
 have r2:T (k+1) g5:=mv D2.frame Z.c2 u5 yC
 show wpAny _ _ (Builtin.SmallTypes.ownedTupleHandOut (Value.ref z) (.ref g5.objs.size) >>= _) _ _ _
 refine ah ?_
 unfold Builtin.SmallTypes.ownedTupleHandOut
 have y6:IsZip (g5.push { cls := .type "tuple",data := .seq #[x,y] }) z ti to .ellipsis:=bu _ y5
 refine ah (AN (s:={ s with heap:=g5.push { cls := .type "tuple",data := .seq #[x,y] },toks:=yB }) y6 (by simp) λg7 y7 u7=>?_)
 have y7:IsZip g7 z ti to (rawInt g5.objs.size):=y7
 refine AN (s:={ s with heap:=g7,toks:=yB }) y7 (by simp) λg8 y8 u8=>?_
 have y8:IsZip g8 z ti to (rawInt g5.objs.size):=y8
 have up:∀c o,c≠z->g5.get? c=some o->g8.get? c=some o:=λc o d q=>u8.extBut _ _ d (u7.extBut _ _ d (bu _ q))
 have t8:IsPair g8 g5.objs.size x y:=u8.extBut _ _ (xt zl) (u7.extBut _ _ (xt zl) (cz _ rfl))
 have z8:g8.objs.size=g5.objs.size+1:=by rw[u8.1,u7.1,lI]
 have w1:S (k+1) g8:=D1.frame _ g5 g8 r1 λc hc o q=>up c o (λv=>Z.b1 (v ▸ hc)) q
 have w2:T (k+1) g8:=D2.frame _ g5 g8 r2 λc hc o q=>up c o (λv=>Z.c1 (v ▸ hc)) q
 refine aL ⟨_,rfl,?_⟩
 show Q (.ref g5.objs.size) { s with heap:=g8,toks:=yB }
 rw[sz] at y8 t8 z8 ⊢
 exact fin g8 yB x y px py y8 (up _ _ Z.a2 o5) w1 w2 t8 z8 λc o d1 d2 d3 d4 q=>up c o d1 (kp c o d1 d2 d3 d4 q)
def YC{Q:Fin->Shared->Prop}(D1:Draws prog w A i f n P S)(D2:Draws prog w A j g m R T)(Z:qC z ti to i j f g)(hz:IsZip s.heap z ti to .none)(ht:IsPair s.heap ti (.ref i) (.ref j))(ho:IsPair s.heap to a b)
  (s1:S k s.heap) (s2:T k s.heap) (l:k=n\/(k<n/\k=m))
  (fin:∀h' tk e,(∀c o,c≠z->c≠to->c≠i->c≠j->s.heap.get? c=some o->h'.get? c=some o)->(∃o,h'.get? e=some o/\o.cls = .type "StopIteration")->E (.ref e) { s with heap:=h',toks:=tk }) :
  wpAny (model prog w) A (Builtin.«zip.__next__» ⟨[.ref z],[]⟩) Q E s:=by
 show wpAny _ _ (field (Value.ref z) 2 >>= _) _ _ s
 refine ah (fI (i:=2) hz rfl (x := .bool false) rfl ?_)
 show wpAny _ _ (field (Value.ref z) 3 >>= _) _ _ s
 refine ah (fI (i:=3) hz rfl (x := .ref ti) rfl (ah (nW ht rfl ?_)))
 show wpAny _ _ (Builtin.SmallTypes.ownedTupleIsFree (Value.ref z) >>= _) _ _ s
 refine ah ?_
 unfold Builtin.SmallTypes.ownedTupleIsFree
 refine ah (fI (i:=0) hz rfl (x := .none) rfl (aL ?_))
 simp only[jO]
 refine ah (uO (ah (fI (i:=4) hz rfl (x := .ref to) rfl (ah (AN hz (by simp) λg1 y1 u1=>?_)))))
 have y1:IsZip g1 z ti to .ellipsis:=y1
 refine ah ?_
 simp only[List.zipIdx_cons,List.zipIdx_nil,LB,List.forIn_nil]
 refine ah (ah (Ew ?_))
 show wpAny _ _ (Builtin.SmallTypes.nextOf (Value.ref i) >>= _) _ _ _
 rcases l with l | ⟨l,l'⟩
 .subst l
  refine ah (D1.done { s with heap:=g1 } _ _ (mv D1.frame Z.b1 u1 s1) λg2 e u2 he=>?_)
  obtain⟨oe,e1,e2⟩:=he
  have y2:IsZip g2 z ti to .ellipsis:=u2 _ _ (bo Z.a3) y1
  have ez:e≠z:=λv=>by
   subst v
   rw[y2] at e1
   cases e1
   simp at e2
  refine AN (s:={ s with heap:=g2 }) y2 (by simp) λg3 _ u3=>fin g3 s.toks e (λc o d1 _ d3 _ q=>u3.extBut _ _ d1 (u2 _ _ d3 (u1.extBut _ _ d1 q))) ⟨oe,u3.extBut _ _ ez e1,e2⟩
 .subst l'
  refine ah (D1.item k { s with heap:=g1 } _ _ l (mv D1.frame Z.b1 u1 s1) λx g2 kj px NX u2=>aL ?_)
  have o2:IsPair g2 to a b:=u2.extBut _ _ Z.a6 (u1.extBut _ _ Z.a2 ho)
  refine ah (nW o2 rfl (ah (UD (s:={ s with heap:=g2,toks:=kj }) o2 λg3 o3 u3=>?_)))
  refine ah (xy (aL ?_))
  refine ah (ah (Ew ?_))
  show wpAny _ _ (Builtin.SmallTypes.nextOf (Value.ref j) >>= _) _ _ _
  refine ah (D2.done { s with heap:=g3,toks:=kj } _ _ (mv D2.frame Z.c2 u3 (mv D2.frame Z.c3 u2 (mv D2.frame Z.c1 u1 s2))) λg4 e u4 he=>?_)
  obtain⟨oe,e1,e2⟩:=he
  have y4:IsZip g4 z ti to .ellipsis:=u4 _ _ (bo Z.a4) (u3.extBut _ _ (bo Z.a2) (u2.extBut _ _ (bo Z.a3) y1))
  have ez:e≠z:=λv=>by
   subst v
   rw[y4] at e1
   cases e1
   simp at e2
  refine AN (s:={ s with heap:=g4,toks:=kj }) y4 (by simp) λg5 _ u5=>fin g5 kj e (λc o d1 d2 d3 d4 q=>u5.extBut _ _ d1 (u4 _ _ d4 (u3.extBut _ _ d2 (u2.extBut _ _ d3 (u1.extBut _ _ d1 q))))) ⟨oe,u5.extBut _ _ ez e1,e2⟩
def YD{Q:Option Value->Shared->Prop}(D1:Draws prog w A.in1 i f n P S)(D2:Draws prog w A.in1 j g m R T)(Z:qC z ti to i j f g)(hz:IsZip s.heap z ti to .none)(ht:IsPair s.heap ti (.ref i) (.ref j))(ho:IsPair s.heap to a b)
  (s1:S k s.heap) (s2:T k s.heap) (l1:k<n) (l2:k<m)
  (fin:∀h' tk x y,P k x->R k y->IsZip h' z ti to (rawInt s.heap.objs.size)->IsPair h' to x y->S (k+1) h'->T (k+1) h'->IsPair h' s.heap.objs.size x y->h'.objs.size=s.heap.objs.size+1->
   (∀c o,c≠z->c≠to->c≠i->c≠j->s.heap.get? c=some o->h'.get? c=some o)->Q (some (.ref s.heap.objs.size)) { s with heap:=h',toks:=tk }) :
  wpAny (model prog w) A (pyNext (.ref z)) Q E s:=by
 have tz:s.TypeIs (.ref z) "zip":=⟨_,hz,rfl⟩
 unfold pyNext
 refine ah (uM (AL (name:=Str.ofString "__next__") tz LL (rK LL tz F.entry_zip_next
   (YB D1 D2 Z hz ht ho s1 s2 l1 l2 λh' tk x y p1 p2 p3 p4 p5 p6 p7 p8 p9=>aL (fin h' tk x y p1 p2 p3 p4 p5 p6 p7 p8 p9)) (F.args_zip_next_1 _))))
def YE{Q:Option Value->Shared->Prop}(D1:Draws prog w A.in1 i f n P S)(D2:Draws prog w A.in1 j g m R T)(Z:qC z ti to i j f g)(hz:IsZip s.heap z ti to .none)(ht:IsPair s.heap ti (.ref i) (.ref j))(ho:IsPair s.heap to a b)
  (s1:S k s.heap) (s2:T k s.heap) (l:k=n\/(k<n/\k=m))
  (fin:∀h' tk,(∀c o,c≠z->c≠to->c≠i->c≠j->s.heap.get? c=some o->h'.get? c=some o)->Q none { s with heap:=h',toks:=tk }):wpAny (model prog w) A (pyNext (.ref z)) Q E s:=by
 have tz:s.TypeIs (.ref z) "zip":=⟨_,hz,rfl⟩
 unfold pyNext
 refine ah (uM (AL (name:=Str.ofString "__next__") tz LL (rK LL tz F.entry_zip_next (YC D1 D2 Z hz ht ho s1 s2 l λh' tk e kp he=>?_) (F.args_zip_next_1 _))))
 obtain⟨o,e1,e2⟩:=he
 exact ah (LH (T:="StopIteration") (b:=true) ⟨o,e1,e2⟩ isSubtype_stop (aL (fin h' tk kp)))
noncomputable abbrev zA(h:Heap)(o1 o2:Obj):Heap:=(h.push o1).push o2
noncomputable abbrev zB(h:Heap)(o1 o2:Obj):Heap:=(zA h o1 o2).push { cls := .type "tuple",data := .seq #[.ref h.objs.size,.ref (h.push o1).objs.size] }
noncomputable abbrev zC(h:Heap)(o1 o2:Obj):Heap:=(zB h o1 o2).push { cls := .type "tuple",data := .seq #[.none,.none] }
noncomputable abbrev zD(h:Heap)(o1 o2:Obj):Heap:=(zC h o1 o2).push { cls := .type "zip",data := .fields #[.none,.bool false,.bool false,.ref (zA h o1 o2).objs.size,.ref (zB h o1 o2).objs.size] }
def YF(h1:∀(prog:Program) (w:World) (A:Around) (E:Value->Shared->Prop) (s:Shared) (Q:Value->Shared->Prop),K1 s->Q (.ref s.heap.objs.size) { s with heap:=s.heap.push o1 }->wpAny (model prog w) A (pyIter v1) Q E s)
  (h2:∀(prog:Program) (w:World) (A:Around) (E:Value->Shared->Prop) (s:Shared) (Q:Value->Shared->Prop),K2 s->Q (.ref s.heap.objs.size) { s with heap:=s.heap.push o2 }->wpAny (model prog w) A (pyIter v2) Q E s) :
  Meets (Builtin.«zip.__new__» ⟨[.type "zip",v1,v2],[]⟩) (λ_ R s=>K1 s/\K2 { s with heap:=s.heap.push o1 }/\R (.ok (.ret (.ref (zC s.heap o1 o2).objs.size))) { s with heap:=zD s.heap o1 o2 }):=
 .of_wp λprog w A R s h=>by
  obtain⟨hp,gg,dd,tk,os⟩:=s
  obtain⟨k1,k2,h⟩:=h
  have sz:=sub_zip
  have i1:=λ(E:Value->Shared->Prop) (A:Around) (Q:Value->Shared->Prop)=>h1 prog w A E ⟨hp,gg,dd,tk,os⟩ Q k1
  have i2:=λ(E:Value->Shared->Prop) (A:Around) (Q:Value->Shared->Prop)=>h2 prog w A E ⟨hp.push o1,gg,dd,tk,os⟩ Q k2
  wp_walk using i1 _ _ _,i2 _ _ _
  exact⟨_,rfl,h⟩
end
section
variable{prog:Program}{w:World}{A:Around}{E:Value->Shared->Prop}{s:Shared}
def YG(h1:∀(prog:Program) (w:World) (A:Around) (E:Value->Shared->Prop) (s:Shared) (Q:Value->Shared->Prop),K1 s->Q (.ref s.heap.objs.size) { s with heap:=s.heap.push o1 }->wpAny (model prog w) A (pyIter v1) Q E s)
  (h2:∀(prog:Program) (w:World) (A:Around) (E:Value->Shared->Prop) (s:Shared) (Q:Value->Shared->Prop),K2 s->Q (.ref s.heap.objs.size) { s with heap:=s.heap.push o2 }->wpAny (model prog w) A (pyIter v2) Q E s)
  (k1:K1 s) (k2:K2 { s with heap:=s.heap.push o1 }) (F3:o1.isFreed=false) (j0:o2.isFreed=false)
  (fin:∀h',IsZip h' (s.heap.objs.size+4) (s.heap.objs.size+2) (s.heap.objs.size+3) .none->IsPair h' (s.heap.objs.size+2) (.ref s.heap.objs.size) (.ref (s.heap.objs.size+1))->IsPair h' (s.heap.objs.size+3) .none .none->
   h'.get? s.heap.objs.size=some o1->h'.get? (s.heap.objs.size+1)=some o2->(∀c o,s.heap.get? c=some o->h'.get? c=some o)->Q (.ref (s.heap.objs.size+4)) { s with heap:=h' }) :
  wpAny (model prog w) A (call (.type "zip") [v1,v2]) Q E s:=by
 refine callType_new F.called_zip (by decide) (F.typeCall_zip_2 _ _) (F.newCall_zip_2 _ _) (λobj=>F.args_object_init_3 obj _ _) F.entry_zip_new (YF h1 h2) ⟨k1,k2,?_⟩
 have y1:(s.heap.push o1).objs.size=s.heap.objs.size+1:=lI ..
 have y2:(zA s.heap o1 o2).objs.size=s.heap.objs.size+2:=by rw[lI,y1]
 have y3:(zB s.heap o1 o2).objs.size=s.heap.objs.size+3:=by rw[lI,y2]
 have y4:(zC s.heap o1 o2).objs.size=s.heap.objs.size+4:=by rw[lI,y3]
 have e5:(zD s.heap o1 o2).get? (zC s.heap o1 o2).objs.size=some _:=cz _ rfl
 have e4:(zD s.heap o1 o2).get? (zB s.heap o1 o2).objs.size=some _:=bu _ (cz _ rfl)
 have F4:∀{c o},(zA s.heap o1 o2).get? c=some o->(zD s.heap o1 o2).get? c=some o:=λq=>bu _ (bu _ (bu _ q))
 have e3:(zD s.heap o1 o2).get? (zA s.heap o1 o2).objs.size=some _:=bu _ (bu _ (cz _ rfl))
 have e2:(zD s.heap o1 o2).get? (s.heap.push o1).objs.size=some o2:=F4 (cz _ j0)
 have e1:(zD s.heap o1 o2).get? s.heap.objs.size=some o1:=F4 (bu _ (cz _ F3))
 show _/\_
 rw[y2,y3,y4] at e5
 rw[y1,y2] at e3
 rw[y3] at e4
 rw[y1] at e2
 rw[y4]
 exact⟨⟨_,e5,rfl⟩,fin _ e5 e3 e4 e1 e2 λc o q=>F4 (bu _ (bu _ q))⟩
end
def YH(hh:A.handled=none)(it:Addr)(x:Str)(t:Tok):Draws prog w A it [it] x.cps.size (λi v=>∃c u,x.cps[i]? = some c/\v = .str ⟨#[c]⟩ u) (λi h=>h.IsStrIter it (strIterType x) x t i):=by
 unfold strIterType
 split
 .exact Draws.strAscii hh it x t
 .exact Draws.strWide hh it x t
theorem BB(n:Nat):qC (n+4) (n+2) (n+3) n (n+1) [n] [n+1]/\(n+2:Nat)≠n+3/\(n+2:Nat)≠n/\(n+2:Nat)≠n+1:=by
 have ne:∀a b:Nat,a≠b->(n+a:Nat)≠n+b:=λa b h=>by lia
 have m1:∀a b:Nat,a≠b->(n+a:Nat)∉[n+b]:=λa b h hm=>ne a b h (cn.mp hm)
 exact⟨⟨ne 2 4 (by decide),ne 3 4 (by decide),ne 0 4 (by decide),ne 1 4 (by decide),ne 3 0 (by decide),ne 3 1 (by decide),ne 0 1 (by decide),m1 4 0 (by decide),m1 3 0 (by decide),m1 1 0 (by decide),m1 4 1 (by decide),m1 3 1 (by decide),m1 0 1 (by decide)⟩,ne 2 3 (by decide),ne 2 0 (by decide),ne 2 1 (by decide)⟩
def YI:bootBuiltins "zip"=some (.type "zip"):=by decide +kernel
section
variable{prog:Program}{w:World}{A:Around}{E:Value->Shared->Prop}{s:Shared}{it l:Addr}{i:Nat}{items:Array Value}
def YJ{x:Value}(hit:s.heap.IsTupleIter it l i)(hl:s.heap.IsTuple l items)(hx:items[i]? = some x)(hQ:∀h',h'.IsTupleIter it l (i+1)->Heap.SameBut it s.heap h'->Q x { s with heap:=h' }):wpAny (model prog w) A (Builtin.SmallTypes.nextOf (.ref it)) Q E s:=by
 obtain⟨o,ho,hc,hd⟩:=id hit;obtain⟨ol,BC,_,nl,F5⟩:=hl
 unfold Builtin.SmallTypes.nextOf;refine ah (AL (name:=Str.ofString "__next__") hit.typeIs LM (rK LM hit.typeIs F.entry_tuple_iterator_next ?_ (F.args_tuple_iterator_next_1 _)))
 show wpAny _ _ (field (.ref it) 0 >>= _) _ _ s;refine ah (fI ho hd (x := .ref l) rfl ?_)
 show wpAny _ _ (if (Value.ref l==Value.none)=true then _ else _) _ _ s;rw[av (show ¬((Value.ref l==Value.none)=true) from b8)]
 show wpAny _ _ (field (.ref it) 1 >>= _) _ _ s;refine ah (fI ho hd (x := .int i 0) rfl ?_)
 show wpAny _ _ (seqItems? (.ref l) >>= _) _ _ s;refine ah (nW BC F5 ?_);simp only[eI,hx]
 refine ah (uN ho hd (by simp) (aL ⟨x,rfl,aL (hQ _ ⟨_,pW _ ho (Es (rL hd _)),(Obj.cls_mapFields ..).trans hc,?_⟩ (AM ..))⟩))
 rw[rL hd];simp[rawInt]
def YK(hh:A.handled=none)(hit:s.heap.IsTupleIter it l i)(hl:s.heap.IsTuple l items)(hx:items[i]? = none)(hE:∀h' e,Heap.ExtBut it s.heap h'->(∃o,h'.get? e=some o/\o.cls = .type "StopIteration")->E (.ref e) { s with heap:=h' }):wpAny (model prog w) A (Builtin.SmallTypes.nextOf (.ref it)) Q E s:=by
 obtain⟨o,ho,hc,hd⟩:=id hit;obtain⟨ol,BC,_,nl,F5⟩:=hl
 unfold Builtin.SmallTypes.nextOf;refine ah (AL (name:=Str.ofString "__next__") hit.typeIs LM (rK LM hit.typeIs F.entry_tuple_iterator_next ?_ (F.args_tuple_iterator_next_1 _)))
 show wpAny _ _ (field (.ref it) 0 >>= _) _ _ s;refine ah (fI ho hd (x := .ref l) rfl ?_)
 show wpAny _ _ (if (Value.ref l==Value.none)=true then _ else _) _ _ s;rw[av (show ¬((Value.ref l==Value.none)=true) from b8)]
 show wpAny _ _ (field (.ref it) 1 >>= _) _ _ s;refine ah (fI ho hd (x := .int i 0) rfl ?_)
 show wpAny _ _ (seqItems? (.ref l) >>= _) _ _ s;refine ah (nW BC F5 ?_);simp only[eI,hx]
 refine ah (uO (ah (uN ho hd (by simp) ?_)));show wpAny _ _ (newExc (.type "StopIteration") [] >>= _) _ _ _
 refine ah ?_;simp only[newExc,newTuple];refine ah (uJ ?_ (by size_fits))
 refine ah (m:=firstArgMember _ _) (qd (a:=Value.none) (by first | rfl | (simp only[firstArgMember];rfl)) (uJ ?_ (by size_fits)))
 simp only[raiseNew];refine ah (wpAny_handled ?_)
 first | rw[show A.in1.handled=none from hh];refine ah (aL (wpAny_throw ?_)) | rw[hh];refine ah (aL (wpAny_throw ?_))
 exact hE _ _ (((AM ..).extBut.push _).push _) ⟨_,cz _ rfl,rfl⟩
end
def YL(hh:A.handled=none)(it l:Addr)(cE:l≠it)(items:Array Value) :
  Draws prog w A it [it,l] items.size (λi v=>items[i]? = some v) (λi h=>h.IsTupleIter it l i/\h.IsTuple l items) where
 live:=λ_ _ st=>by obtain⟨⟨o,ho,_⟩,_⟩:=st;exact⟨o,ho⟩
 frame:=λ_ _ _ st hk=>by obtain⟨⟨o,ho,r⟩,⟨p,hp,q⟩⟩:=st;exact⟨⟨o,hk it (by simp) o ho,r⟩,⟨p,hk l (by simp) p hp,q⟩⟩
 item:=λi s Q E hi st hQ=>YJ st.1 st.2 (x:=items[i]) (by simp[hi]) λh' a b=>hQ _ h' s.toks (by simp[hi]) ⟨a,st.2.extBut b.extBut cE⟩ b
 done:=λs Q E st hE=>YK hh st.1 st.2 (by simp) hE
def YM{b:Addr}(I:Inv X pins O H s)(h:ak X.K H a xs)(f:fL X pins H b):a≠b:=by
 intro z
 subst z
 rcases h with (h | ⟨o,h⟩) | ⟨o,its,n,hk,_⟩
 .rw[f.1] at h;cases h
 .rw[f.1] at h;cases h
 .have e:=I.mod.n8 a o hk
  rcases f.2.2.2.1 with h | h
  .exact I.ok.mV a o e h
  .exact absurd (gu (bA (I.ok.bs a o e).1) h) (pU _)
def YN{b:Addr}(I:Inv X pins O H s)(h:aj X.K H a xs)(f:fL X pins H b):a≠b:=by
 intro z
 subst z
 rcases h with (h | ⟨o,h⟩) | ⟨o,its,n,hk,_⟩
 .rw[f.1] at h;cases h
 .rw[f.1] at h;cases h
 .have e:=I.mod.n8 a o hk
  rcases f.2.2.2.1 with h | h
  .exact I.ok.mV a o e h
  .exact absurd (gu (bA (I.ok.bs a o e).1) h) (pU _)
inductive ZK where
 |L | T | S
def zq(k:ZK)(K:Frag)(H:Hp)(v:V)(xs:List V):Prop:=match k with
 |.L=>∃a,v = .ref a/\aj K H a xs
 |.T=>∃a,v = .ref a/\ak K H a xs
 |.S=>∃x:Str,v = .str x/\xs=x.cps.toList.map λc=>V.str ⟨#[c]⟩
def m9(k:ZK)(v:V)(t:Tok)(h:Heap)(i:Addr)(q:Nat):Prop:=match k with
 |.L=>∃a,v = .ref a/\h.IsListIter i a q
 |.T=>∃a,v = .ref a/\h.IsTupleIter i a q
 |.S=>∃x:Str,v = .str x/\h.IsStrIter i (strIterType x) x t q
def vz{k:ZK}{t:Tok}(z:m9 k v t h i q):∃o,h.get? i=some o/\∀v,o.data ≠ .cell v:=by
 cases k <;> obtain⟨_,_,o,h1,_,h3⟩:=z <;> exact⟨o,h1,λv e=>by rw[h3] at e;cases e⟩
def vA{k:ZK}{t:Tok}(z:m9 k v t h i q)(m:∀o,h.get? i=some o->h'.get? i=some o):m9 k v t h' i q:=by
 cases k <;> obtain⟨a,e,o,h1,r⟩:=z <;> exact⟨a,e,o,m o h1,r⟩
def NY{k:ZK}(I:Inv X pins O H s)(h:zq k X.K H v xs)(g:zq k X.K H v ys):xs=ys:=by
 cases k with
 |L=>obtain⟨a,rfl,h⟩:=h;obtain⟨_,e,g⟩:=g;cases e;exact I.EL h g
 |T=>obtain⟨a,rfl,h⟩:=h;obtain⟨_,e,g⟩:=g;cases e;exact I.EM h g
 |S=>obtain⟨a,rfl,rfl⟩:=h;obtain⟨_,e,rfl⟩:=g;cases e;rfl
def vB{k:ZK}{t:Tok}(I:Inv X pins O H s)(hh:X.A.in1.handled=none)(hq:zq k X.K H v xs)(st:m9 k v t s.heap i q)(hi:fL X pins H i) :
  ∃(f:List Addr) (P:Nat->Value->Prop) (S:Nat->Heap->Prop),Draws X.prog X.w X.A.in1 i f xs.length P S/\S q s.heap/\(∀b,b≠i->fL X pins H b->b∉f)/\(∀n u x,P n u->xs[n]? = some x->RelV x u)/\∀n h,S n h->m9 k v t h i n:=by
 cases k with
 |L=>
  obtain⟨a,rfl,hq⟩:=hq
  obtain⟨_,e,st⟩:=st
  cases e
  obtain⟨ia,ra,pa,_⟩:=I.list hq
  have na:=λb (hb:fL X pins H b)=>YN I hq hb
  have la:ia.toArray.size=xs.length:=by rw[br];exact ra.length.symm
  refine⟨_,_,_,la ▸ Draws.list hh i a (na i hi) ia.toArray,⟨st,pa.isList⟩,λb hb f m=>?_,λn u x p hx=>?_,λn h s=>⟨a,rfl,s.1⟩⟩
  .rcases cw.mp m with z | z
   .exact hb z
   .exact na b f (cn.mp z).symm
  .obtain⟨u',e1,e2⟩:=ra.get hx
   have p:ia.toArray[n]? = some u:=p
   obtain rfl:u'=u:=by simpa[e1] using p
   exact e2
 |T=>
  obtain⟨a,rfl,hq⟩:=hq
  obtain⟨_,e,st⟩:=st
  cases e
  obtain⟨ia,ra,pa,_⟩:=I.tuple hq
  have na:=λb (hb:fL X pins H b)=>YM I hq hb
  have la:ia.toArray.size=xs.length:=by rw[br];exact ra.length.symm
  refine⟨_,_,_,la ▸ YL hh i a (na i hi) ia.toArray,⟨st,pa⟩,λb hb f m=>?_,λn u x p hx=>?_,λn h s=>⟨a,rfl,s.1⟩⟩
  .rcases cw.mp m with z | z
   .exact hb z
   .exact na b f (cn.mp z).symm
  .obtain⟨u',e1,e2⟩:=ra.get hx
   have p:ia.toArray[n]? = some u:=p
   obtain rfl:u'=u:=by simpa[e1] using p
   exact e2
 |S=>
  obtain⟨x,rfl,rfl⟩:=hq
  obtain⟨_,e,st⟩:=st
  cases e
  refine⟨_,_,_,(show x.cps.size=(x.cps.toList.map λc=>V.str ⟨#[c]⟩).length by rw[aw,uA]) ▸ YH hh i x t,st,λb hb f m=>hb (cn.mp m),λn u y p hy=>?_,λn h s=>⟨x,rfl,s⟩⟩
  obtain⟨c,u1,h1,rfl⟩:=p
  rw[bw,Array.getElem?_toList,h1] at hy
  cases hy
  exact⟨u1,rfl⟩
def NZ{k:ZK}(I:Inv X pins O H s)(hq:zq k X.K H v xs)(r:RelV v u) :
  ∃(o1:Obj) (K1:Shared->Prop) (t:Tok),(∀(prog:Program) (w:World) (A:Around) (E:Value->Shared->Prop) (s:Shared) (Q:Value->Shared->Prop),K1 s->Q (.ref s.heap.objs.size) { s with heap:=s.heap.push o1 }->wpAny (model prog w) A (pyIter u) Q E s)/\K1 s/\(∀o,K1 { s with heap:=s.heap.push o })/\o1.isFreed=false/\∀h i,h.get? i=some o1->m9 k v t h i 0:=by
 cases k with
 |L=>
  obtain⟨a,rfl,hq⟩:=hq
  cases r
  obtain⟨ia,ra,pa,_⟩:=I.list hq
  exact⟨{ cls := .type "list_iterator",data := .fields #[.ref a,.int 0 0] },λs=>s.heap.IsList a ia.toArray,0,λ_ _ _ _ _ _ hk hq=>xu hk hq,pa.isList,λo=>pa.isList.push o,rfl,λh i e=>⟨a,rfl,_,e,rfl,rfl⟩⟩
 |T=>
  obtain⟨a,rfl,hq⟩:=hq
  cases r
  obtain⟨ia,ra,pa,_⟩:=I.tuple hq
  exact⟨{ cls := .type "tuple_iterator",data := .fields #[.ref a,.int 0 0] },λs=>s.heap.IsTuple a ia.toArray,0,λ_ _ _ _ _ _ hk hq=>Lu hk hq,pa,λo=>pa.push o,rfl,λh i e=>⟨a,rfl,_,e,rfl,rfl⟩⟩
 |S=>
  obtain⟨x,rfl,_⟩:=hq
  obtain⟨t,rfl⟩:=r
  exact⟨{ cls := .type (strIterType x),data := .fields #[.str x t,.int 0 0] },λ_=>True,t,λ_ _ _ _ _ _ _ hq=>wpAny_pyIter_strU hq,trivial,λ_=>trivial,rfl,λh i e=>⟨x,rfl,_,e,rfl,rfl⟩⟩
noncomputable def yD(k1 k2:ZK)(K:Frag)(va vb:V):It:=
 ⟨λi H=>∃xs ys x y,zq k1 K H va xs/\zq k2 K H vb ys/\xs[i]? = some x/\ys[i]? = some y,
  λi H v H' =>∃p x y,H p=none/\v = .ref p/\(∀xs,zq k1 K H va xs->xs[i]? = some x)/\(∀ys,zq k2 K H vb ys->ys[i]? = some y)/\H'=upd H p (.tup [x,y]),
  λi H=>∃xs ys,zq k1 K H va xs/\zq k2 K H vb ys/\i=min xs.length ys.length⟩
theorem YO(k1 k2:ZK)(va vb:V)(t1 t2:Tok)(z ti to i j:Addr)(Z:qC z ti to i j [i] [j])(YQ:ti≠to)(YR:ti≠i)(YS:ti≠j) :
  Turn P w K (.Tuple elts kk pos) (yD k1 k2 K va vb) [z,ti,to,i,j] z (λq h=>IsZip h z ti to .none/\IsPair h ti (.ref i) (.ref j)/\(∃a b,IsPair h to a b)/\m9 k1 va t1 h i q/\m9 k2 vb t2 h j q) where
 mem:=by simp
 obj:=λq h st b hb=>by
  obtain⟨h1,h2,⟨a,b',h3⟩,h4,h5⟩:=st
  simp only[cw,fH,xA] at hb
  rcases hb with rfl | rfl | rfl | rfl | rfl
  .exact⟨_,h1,λv e=>by have e:Data.fields _=Data.cell v:=e;cases e⟩
  .exact⟨_,h2,λv e=>by have e:Data.seq _ _=Data.cell v:=e;cases e⟩
  .exact⟨_,h3,λv e=>by have e:Data.seq _ _=Data.cell v:=e;cases e⟩
  .exact vz h4
  .exact vz h5
 keep:=λq h h' st k=>by
  obtain⟨h1,h2,⟨a,b',h3⟩,h4,h5⟩:=st
  exact⟨k z (by simp) _ h1,k ti (by simp) _ h2,⟨a,b',k to (by simp) _ h3⟩,vA h4 (k i (by simp)),vA h5 (k j (by simp))⟩
 item:=by
  intro X hP hw hK hc q pins s O H E I hf st hg
  subst hP hw hK
  obtain⟨h1,h2,⟨a,b',h3⟩,h4,h5⟩:=st
  obtain⟨xs,ys,c,d,kl,BD,F6,F7⟩:=hg
  have YT:=(bY.mp F6).1
  have YU:=(bY.mp F7).1
  have hh:X.A.in1.handled=none:=I.ok.hd hc
  obtain⟨f1,P1,S1,D1,F8,n1,N0,up1⟩:=vB I hh kl h4 (hf i (by simp))
  obtain⟨f2,P2,S2,D2,kW,n2,Oa,Ob⟩:=vB I hh BD h5 (hf j (by simp))
  have Z2:qC z ti to i j f1 f2:=⟨Z.a1,Z.a2,Z.a3,Z.a4,Z.a6,Z.a7,Z.a8,n1 z (bo Z.a3) (hf z (by simp)),n1 to Z.a6 (hf to (by simp)),n1 j (bo Z.a8) (hf j (by simp)),n2 z (bo Z.a4) (hf z (by simp)),n2 to Z.a7 (hf to (by simp)),n2 i Z.a8 (hf i (by simp))⟩
  refine YD D1 D2 Z2 h1 h2 h3 F8 kW YT YU λh' tk u1 u2 p1 p2 g1 g2 g3 g4 g5 g6 kp=>?_
  have r1:=N0 _ _ _ p1 F6
  have r2:=Oa _ _ _ p2 F7
  have fr:H s.heap.objs.size=none:=I.fresh
  have fz:=hf z (by simp)
  have ft:=hf ti (by simp)
  have fo:=hf to (by simp)
  have fi:=hf i (by simp)
  have fj:=hf j (by simp)
  have l9:∀b o,b∉[z,to,i,j]->s.heap.get? b=some o->h'.get? b=some o:=λb o hb e=>kp b o (λv=>hb (by simp[v])) (λv=>hb (by simp[v])) (λv=>hb (by simp[v])) (λv=>hb (by simp[v])) e
  have yE:∀b o,H b=some o->b∉[z,to,i,j]:=λb o e hb=>by
   simp only[cw,fH,xA] at hb
   rcases hb with v | v | v | v
   .exact bC e fz.1 v
   .exact bC e fo.1 v
   .exact bC e fi.1 v
   .exact bC e fj.1 v
  have I1:Inv X pins O (upd H s.heap.objs.size (.tup [c,d])) { s with heap:=h',toks:=tk }:=by
   refine I.uX (s':={ s with heap:=h',toks:=tk }) (ch:=[z,to,i,j]) rfl ⟨λb o e n _ hx=>l9 b o hx e,λb o e n _ hx=>⟨o.slots,l9 b o hx e⟩,
    λb o e n hx=>by rw[ar (bR (bA e))];exact n,λb o e hx=>⟨o,l9 b o hx e⟩,
    λb ys e=>by rw[ar (bC e fr)];exact e,λb ob ys e=>by rw[ar (bC e fr)];exact e,λb ps e=>⟨#[],by rw[ar (bC e fr),e];simp⟩⟩ (λb o e=>?_) I.bare (λb hb=>?_)
   .by_cases hb:b=s.heap.objs.size
    .subst hb
     rw[ao] at e
     cases e
     exact⟨by show 2<=sizeLine;decide,[u1,u2],.cons r1 (.cons r2 .nil),⟨_,g5,rfl,_,rfl⟩⟩
    .rw[ar hb] at e
     refine(I.aA b o e).jQ (λc' v jT e' =>?_) (λc' e'=>by rw[ar (bC e' fr)];exact e') λc' ys e'=>by rw[ar (bC e' fr)];exact e'
     rcases jT with v' | v'
     .subst v'
      exact l9 c' v (yE c' o e) e'
     .exact l9 c' v (yE c' _ v') e'
   .simp only[cw,fH,xA] at hb
    rcases hb with v | v | v | v <;> subst v
    .exact⟨fz.2.2.2.1,fz.2.1,fz.2.2.2.2.1,fz.2.2.2.2.2⟩
    .exact⟨fo.2.2.2.1,fo.2.1,fo.2.2.2.2.1,fo.2.2.2.2.2⟩
    .exact⟨fi.2.2.2.1,fi.2.1,fi.2.2.2.2.1,fi.2.2.2.2.2⟩
    .exact⟨fj.2.2.2.1,fj.2.1,fj.2.2.2.2.1,fj.2.2.2.2.2⟩
  have lt:∀{b o},s.heap.get? b=some o->b≠s.heap.objs.size:=λe=>bR (bA e)
  have sX:∀b∈[z,ti,to,i,j],upd H s.heap.objs.size (.tup [c,d]) b=none:=λb hb=>by
   have jZ:∃o,s.heap.get? b=some o:=by
    obtain⟨o4,e4,_⟩:=vz h4
    obtain⟨o5,e5,_⟩:=vz h5
    simp only[cw,fH,xA] at hb
    rcases hb with v | v | v | v | v <;> subst v
    .exact⟨_,h1⟩
    .exact⟨_,h2⟩
    .exact⟨_,h3⟩
    .exact⟨_,e4⟩
    .exact⟨_,e5⟩
   obtain⟨o,e⟩:=jZ
   rw[ar (lt e)]
   exact(hf b hb).1
  have F9:IsPair h' ti (.ref i) (.ref j):=kp ti _ Z.a1 YQ YR YS h2
  refine⟨_,rfl,wpAny_letOwnedTupleGo_zip (s:={ s with heap:=h',toks:=tk }) g1 λiU y1 sb=>?_⟩
  have I2:Inv X pins O (upd H s.heap.objs.size (.tup [c,d])) { s with heap:=iU,toks:=tk } :=
   Inv.turned (s:={ s with heap:=h',toks:=tk }) (h':=iU) (t':=tk) (it:=z) I1 (λb o hb e=>(sb.2 b hb).trans e) (sX z (by simp)) fz.2.1 fz.2.2.2.1 fz.2.2.2.2.1 fz.2.2.2.2.2
  have BE:∀b o,b≠z->h'.get? b=some o->iU.get? b=some o:=λb o hb e=>(sb.2 b hb).trans e
  exact⟨.ref s.heap.objs.size,_,I2,rfl,⟨_,c,d,fr,rfl,λYV h=>by rw[NY I h kl];exact F6,λYV h=>by rw[NY I h BD];exact F7,rfl⟩,⟨y1,BE _ _ Z.a1 F9,⟨_,_,BE _ _ Z.a2 g2⟩,vA (up1 _ _ g3) λo e=>BE _ _ Z.a3 e,vA (Ob _ _ g4) λo e=>BE _ _ Z.a4 e⟩,sX⟩
 done:=by
  intro X hP hw hK hc q pins s O H E I hf st hg
  subst hP hw hK
  obtain⟨h1,h2,⟨a,b',h3⟩,h4,h5⟩:=st
  obtain⟨xs,ys,kl,BD,hg⟩:=hg
  have hh:X.A.in1.handled=none:=I.ok.hd hc
  obtain⟨f1,P1,S1,D1,F8,n1,N0,up1⟩:=vB I hh kl h4 (hf i (by simp))
  obtain⟨f2,P2,S2,D2,kW,n2,Oa,Ob⟩:=vB I hh BD h5 (hf j (by simp))
  have Z2:qC z ti to i j f1 f2:=⟨Z.a1,Z.a2,Z.a3,Z.a4,Z.a6,Z.a7,Z.a8,n1 z (bo Z.a3) (hf z (by simp)),n1 to Z.a6 (hf to (by simp)),n1 j (bo Z.a8) (hf j (by simp)),n2 z (bo Z.a4) (hf z (by simp)),n2 to Z.a7 (hf to (by simp)),n2 i Z.a8 (hf i (by simp))⟩
  have fz:=hf z (by simp)
  have fo:=hf to (by simp)
  have fi:=hf i (by simp)
  have fj:=hf j (by simp)
  refine YE D1 D2 Z2 h1 h2 h3 F8 kW (by lia) λh' tk kp=>⟨rfl,?_⟩
  have l9:∀b o,b∉[z,to,i,j]->s.heap.get? b=some o->h'.get? b=some o:=λb o hb e=>kp b o (λv=>hb (by simp[v])) (λv=>hb (by simp[v])) (λv=>hb (by simp[v])) (λv=>hb (by simp[v])) e
  have yE:∀b o,H b=some o->b∉[z,to,i,j]:=λb o e hb=>by
   simp only[cw,fH,xA] at hb
   rcases hb with v | v | v | v
   .exact bC e fz.1 v
   .exact bC e fo.1 v
   .exact bC e fi.1 v
   .exact bC e fj.1 v
  refine I.uX (s':={ s with heap:=h',toks:=tk }) (ch:=[z,to,i,j]) rfl ⟨λb o e n _ hx=>l9 b o hx e,λb o e n _ hx=>⟨o.slots,l9 b o hx e⟩,λb o e n hx=>n,λb o e hx=>⟨o,l9 b o hx e⟩,
    λb ys e=>e,λb ob ys e=>e,λb ps e=>⟨#[],by rw[e];simp⟩⟩ (λb o e=>?_) I.bare (λb hb=>?_)
  .refine(I.aA b o e).jQ (λc' v jT e' =>?_) (λc' e'=>e') λc' ys e'=>e'
   rcases jT with v' | v'
   .subst v'
    exact l9 c' v (yE c' o e) e'
   .exact l9 c' v (yE c' _ v') e'
  .simp only[cw,fH,xA] at hb
   rcases hb with v | v | v | v <;> subst v
   .exact⟨fz.2.2.2.1,fz.2.1,fz.2.2.2.2.1,fz.2.2.2.2.2⟩
   .exact⟨fo.2.2.2.1,fo.2.1,fo.2.2.2.2.1,fo.2.2.2.2.2⟩
   .exact⟨fi.2.2.2.1,fi.2.1,fi.2.2.2.2.1,fi.2.2.2.2.2⟩
   .exact⟨fj.2.2.2.1,fj.2.1,fj.2.2.2.2.1,fj.2.2.2.2.2⟩
 self:=λ_ _ _ _ _ st h=>wpAny_pyIter_zip st.1 h
def YW(k1 k2:ZK)(K:Frag)(ta:TA):TI:=λO H R=>ta O H λvs H1=>∃a b,vs=[a,b]/\(∃xs,zq k1 K H1 a xs)/\(∃ys,zq k2 K H1 b ys)/\R (yD k1 k2 K a b) H1
def vC(k1 k2:ZK){k:Nat}{a b:Expr}(hg:Gl X "zip")(hm:X.mg "zip"=none)(ha:PA X [a,b] ta)(hs:starEach [a,b] X.env=(false,eval a X.env)::starEach [b] X.env:=by rfl)(hpl:(backTo pos (starEach [b] X.env)).any (·.1)=false:=by rfl) :
  PI X (.Tuple elts k oa) (.Call (.Name "zip" p) [a,b] [] pos) (YW k1 k2 X.K ta):=by
 intro pins s O H R I h
 refine Call_ (qk I hg hm YI (Ef (aC (ha pos pins s O H _ I h) λus s1 ⟨vs,H1,I1,r1,q1⟩=>?_) hs hpl))
 obtain⟨ta,tb,e,⟨xs,hx⟩,⟨ys,hy⟩,q⟩:=q1
 subst e
 obtain⟨u1,u2,rfl,ru,rv⟩:=vals2 r1
 obtain⟨o1,K1,t1,a1,a2,a3,a4,a5⟩:=NZ I1 hx ru
 obtain⟨o2,K2,t2,b1,b2,b3,b4,b5⟩:=NZ I1 hy rv
 refine YG a1 b1 a2 (b3 _) a4 b4 λh' g1 g2 g3 g4 g5 kp=>?_
 have I2:Inv X pins O H1 { s1 with heap:=h' }:=I1.kept (t':=s1.toks) kp
 refine wpAny_pyIter_zip (s:={ s1 with heap:=h' }) g1 ?_
 refine⟨s1.heap.objs.size+4,[s1.heap.objs.size+4,s1.heap.objs.size+2,s1.heap.objs.size+3,s1.heap.objs.size,s1.heap.objs.size+1],_,_,H1,rfl,I2,
  YO k1 k2 ta tb t1 t2 _ _ _ _ _ (BB s1.heap.objs.size).1 (BB s1.heap.objs.size).2.1 (BB s1.heap.objs.size).2.2.1 (BB s1.heap.objs.size).2.2.2,
  ⟨g1,g2,⟨_,_,g3⟩,a5 _ _ g4,b5 _ _ g5⟩,λb hb=>?_,q⟩
 have oz:s1.heap.objs.size<=b:=by
  simp only[cw,fH,xA] at hb
  rcases hb with v | v | v | v | v <;> rw[v]
  .exact AO _ _
  .exact AO _ _
  .exact AO _ _
  .exact aO _
  .exact AO _ _
 exact I1.kU oz (I1.aA.fresh oz)
theorem vD{k1 k2:ZK}{ta tb:V}{Oc:TS}{D:Ends}(Pv:Nat->St->Hp->Prop)(h0:Pv 0 O H)(hl:∀i O H,i<=min xs.length ys.length->Pv i O H->zq k1 K H ta xs/\zq k2 K H tb ys)
  (hs:∀i x y p O H,xs[i]? = some x->ys[i]? = some y->Pv i O H->H p=none->g (.ref p) O (upd H p (.tup [x,y])) λO2 H2=>Oc { D with nx:=Pv (i+1),ct:=Pv (i+1),bk:=D.nx } O2 H2) (hd:∀O H,Pv (min xs.length ys.length) O H->D.nx O H) :
  ∃W:Nat->Nat->St->Hp->Prop,(∃m,W 0 m O H)/\∀i m O H,W i m O H->
   ((yD k1 k2 K ta tb).stop i H/\D.nx O H)\/((yD k1 k2 K ta tb).go i H/\∃N:St->Hp->Prop,(∀O' H',N O' H'->∃m',m'<m/\W (i+1) m' O' H')/\∀v H',(yD k1 k2 K ta tb).gJ i H v H'->g v O H' λO2 H2=>Oc { D with nx:=N,ct:=N,bk:=D.nx } O2 H2):=by
 refine⟨λi m O H=>m=min xs.length ys.length - i/\i<=min xs.length ys.length/\Pv i O H,⟨_,rfl,bG _,h0⟩,?_⟩
 rintro i m O H ⟨rfl,hi,p⟩
 obtain⟨q1,q2⟩:=hl i O H hi p
 by_cases aT:i<min xs.length ys.length
 .have e1:=bf (l:=xs) (i:=i) (by lia)
  have e2:=bf (l:=ys) (i:=i) (by lia)
  refine .inr ⟨⟨xs,ys,_,_,q1,q2,e1,e2⟩,Pv (i+1),λO' H' p'=>⟨min xs.length ys.length - (i+1),by lia,rfl,aT,p'⟩,λv H' yy=>?_⟩
  obtain⟨pp,x,y,hn,rfl,f1,f2,rfl⟩:=yy
  exact hs i x y pp O H (f1 xs q1) (f2 ys q2) p hn
 .have e:i=min xs.length ys.length:=by lia
  subst e
  exact .inl ⟨⟨xs,ys,q1,q2,rfl⟩,hd O H p⟩
set_option maxRecDepth 100000 in
theorem YX(l:Addr)(items:Array Value)(n:Nat)(Ga:Option Addr)(sl:Array (Option Value)) :
  Meets (Builtin.«enumerate.__new__» ⟨[.type "enumerate",.ref l],[]⟩) (λ_ R s=>s.heap.get? l=some ⟨.type "tuple",Ga,.seq items n,sl⟩/\
   R (.ok (.ret (.ref (s.heap.push ⟨.type "tuple_iterator",none,.fields #[.ref l,.int 0 0],#[]⟩).objs.size)))
    { s with heap:=(s.heap.push ⟨.type "tuple_iterator",none,.fields #[.ref l,.int 0 0],#[]⟩).push ⟨.type "enumerate",none,.fields #[.none,.bool false,.ref s.heap.objs.size,rawInt 0,.none,.none],#[]⟩ }):=
 .of_wp λprog w A R s h=>by
  obtain⟨hp,g,d,tk,os⟩:=s;obtain⟨hl,h⟩:=h
  have YY:=sub_enumerate
  have hL:Heap.IsTuple (Shared.heap ⟨hp,g,d,tk,os⟩) l items:=⟨_,hl,rfl,n,rfl⟩
  wp_walk using UE hl
  refine wpAny_stack_any λst=>aL ?_
  split
  .rename_i c _ _ _ _ _
   cases(c==Value.type "enumerate") <;> (wp_walk using UE hl,Lu hL;exact⟨_,rfl,h⟩)
  .wp_walk using UE hl,Lu hL
   exact⟨_,rfl,h⟩
def YZ{l:Addr}(hL:IsTup s.heap l items)
  (h:∀h',IsEnum h' (s.heap.objs.size+1) s.heap.objs.size 0 .none->h'.IsTupleIter s.heap.objs.size l 0->h'.objs.size=s.heap.objs.size+2->(∀b o,s.heap.get? b=some o->h'.get? b=some o)->Q (.ref (s.heap.objs.size+1)) { s with heap:=h' }) :
  wpAny (model prog w) A (call (.type "enumerate") [.ref l]) Q E s:=by
 obtain⟨⟨c,Ga,dt,sl⟩,hl,hc,n,hd⟩:=hL
 have hc:c = .type "tuple":=hc
 have hd:dt = .seq items n:=hd
 subst hc hd
 refine callType_new F.called_enumerate (by decide) (F.typeCall_enumerate_1 _) (F.newCall_enumerate_1 _) (λobj=>F.args_object_init_2 obj _) F.entry_enumerate_new (YX l items n Ga sl) ⟨hl,?_⟩
 have hz:(s.heap.push ⟨.type "tuple_iterator",none,.fields #[.ref l,.int 0 0],#[]⟩).objs.size=s.heap.objs.size+1:=lI ..
 show _/\_
 rw[hz]
 have he:IsEnum ((s.heap.push ⟨.type "tuple_iterator",none,.fields #[.ref l,.int 0 0],#[]⟩).push ⟨.type "enumerate",none,.fields #[.none,.bool false,.ref s.heap.objs.size,rawInt 0,.none,.none],#[]⟩) (s.heap.objs.size+1) s.heap.objs.size 0 .none:=by
  have e:=cz (s.heap.push ⟨.type "tuple_iterator",none,.fields #[.ref l,.int 0 0],#[]⟩) (o:=⟨.type "enumerate",none,.fields #[.none,.bool false,.ref s.heap.objs.size,rawInt 0,.none,.none],#[]⟩) rfl
  rw[hz] at e;exact e
 exact⟨⟨_,he,rfl⟩,h _ he ⟨_,bu _ (cz _ rfl),rfl,rfl⟩ (by rw[lI,hz]) λb o x=>bu _ (bu _ x)⟩
noncomputable def qD(k:ZK)(K:Frag)(va:V)(xs:List V):It:=
 ⟨λi H=>zq k K H va xs/\i<xs.length,λi H x H' =>∃p v,H p=none/\x = .ref p/\xs[i]? = some v/\H'=upd H p (.tup [.int i,v]),λi H=>zq k K H va xs/\i=xs.length⟩
theorem Y0(k:ZK)(va:V)(t:Tok)(it e:Addr)(xs:List V)(Gb:e≠it) :
  Turn P w K (.Tuple elts kk pos) (qD k K va xs) [e,it] e (λi h=>(∃old,IsEnum h e it i old)/\m9 k va t h it i) where
 mem:=by simp
 obj:=λi h st b hb=>by
  obtain⟨⟨old,he⟩,hz⟩:=st
  rcases cw.mp hb with z | z
  .subst z
   exact⟨_,he,λv z=>by
    have z':Data.fields _=Data.cell v:=z
    cases z'⟩
  .have z:b=it:=by simpa using z
   subst z
   exact vz hz
 keep:=λi h h' st kk=>by
  obtain⟨⟨old,he⟩,hit⟩:=st
  exact⟨⟨old,kk e (by simp) _ he⟩,vA hit λo q=>kk it (by simp) o q⟩
 item:=by
  intro X hP hw hK hc i pins s O H E I hf st hg
  subst hP hw hK
  obtain⟨⟨old,he⟩,hit⟩:=st
  obtain⟨hq,aT⟩:=hg
  have fe:=hf e (by simp)
  have fi:=hf it (by simp)
  obtain⟨ff,PP,SS,D1,d1,nf,rel,zi⟩:=vB I (I.ok.hd hc) hq hit fi
  refine wpAny_pyNext_enum_itemD D1 he d1 aT Gb (nf e Gb fe) λv h' tk Y1 ho oB hT hsz hk=>?_
  obtain⟨c,eN⟩:∃c,xs[i]? = some c:=⟨_,bf aT⟩
  have ru:=rel i v c Y1 eN
  have fr:H s.heap.objs.size=none:=I.fresh
  have neT:∀b o,H b=some o->b≠e/\b≠it:=λb o q=>⟨bC q fe.1,bC q fi.1⟩
  have I1:Inv X pins O (upd H s.heap.objs.size (.tup [.int i,c])) { s with heap:=h',toks:=tk+1 }:=by
   refine I.uX (s':={ s with heap:=h',toks:=tk+1 }) (ch:=[e,it]) rfl ⟨λb o q n _ hx=>hk b o (λz=>hx (by simp[z])) (λz=>hx (by simp[z])) q,λb o q n _ hx=>⟨o.slots,hk b o (λz=>hx (by simp[z])) (λz=>hx (by simp[z])) q⟩,
    λb o q n hx=>by rw[ar (bR (bA q))];exact n,λb o q hx=>⟨o,hk b o (λz=>hx (by simp[z])) (λz=>hx (by simp[z])) q⟩,
    λb ys q=>by rw[ar (bC q fr)];exact q,λb ob ys q=>by rw[ar (bC q fr)];exact q,λb ps q=>⟨#[],by rw[ar (bC q fr),q];simp⟩⟩ (λb o q=>?_) I.bare (λb hb=>?_)
   .by_cases hb:b=s.heap.objs.size
    .subst hb
     rw[ao] at q
     cases q
     exact⟨by show 2<=sizeLine;decide,[.int i tk,v],.cons ⟨tk,rfl⟩ (.cons ru .nil),⟨_,hT,rfl,_,rfl⟩⟩
    .rw[ar hb] at q
     refine(I.aA b o q).jQ (λc v hc q' =>?_) (λc q'=>by rw[ar (bC q' fr)];exact q') λc ys q'=>by rw[ar (bC q' fr)];exact q'
     rcases hc with z | z
     .subst z
      exact hk c v (neT c o q).1 (neT c o q).2 q'
     .exact hk c v (neT c _ z).1 (neT c _ z).2 q'
   .have z:b=e\/b=it:=by simpa using hb
    rcases z with z | z
    .subst z
     exact⟨fe.2.2.2.1,fe.2.1,fe.2.2.2.2.1,fe.2.2.2.2.2⟩
    .subst z
     exact⟨fi.2.2.2.1,fi.2.1,fi.2.2.2.2.1,fi.2.2.2.2.2⟩
  have sX:∀b∈[e,it],upd H s.heap.objs.size (.tup [.int i,c]) b=none:=λb hb=>by
   have z:b=e\/b=it:=by simpa using hb
   have vE:b<s.heap.objs.size:=by
    rcases z with z | z
    .subst z;exact bA he
    .subst z;obtain⟨o,q,_⟩:=vz hit;exact bA q
   rw[ar (bR vE)]
   rcases z with z | z
   .subst z;exact fe.1
   .subst z;exact fi.1
  refine⟨_,rfl,wpAny_letOwnedTupleGo_enum (s:={ s with heap:=h',toks:=tk+1 }) ho λh2 Y2 x6=>?_⟩
  have I2:Inv X pins O (upd H s.heap.objs.size (.tup [.int i,c])) { s with heap:=h2,toks:=tk+1 } :=
   Inv.turned (s:={ s with heap:=h',toks:=tk+1 }) (h':=h2) (t':=tk+1) (it:=e) I1 (λb o hb q=>(x6.2 b hb).trans q) (sX e (by simp)) fe.2.1 fe.2.2.2.1 fe.2.2.2.2.1 fe.2.2.2.2.2
  refine⟨.ref s.heap.objs.size,_,I2,rfl,⟨_,_,fr,rfl,eN,rfl⟩,⟨⟨v,?_⟩,vA (zi _ _ oB) λo q=>(x6.2 it (bo Gb)).trans q⟩,sX⟩
  have e1:((i+1:Nat):Int)=(i:Int)+1:=by lia
  rw[e1]
  exact Y2
 done:=by
  intro X hP hw hK hc i pins s O H E I hf st hg
  subst hP hw hK
  obtain⟨⟨old,he⟩,hit⟩:=st
  obtain⟨hq,ei⟩:=hg
  have fi:=hf it (by simp)
  obtain⟨ff,PP,SS,D1,d1,nf,rel,zi⟩:=vB I (I.ok.hd hc) hq hit fi
  refine wpAny_pyNext_enum_endD D1 he (by rw[<-ei];exact d1) λh' eb=>⟨rfl,?_⟩
  exact I.turned (t':=s.toks) (it:=it) (λb o hb q=>eb b o hb q) fi.1 fi.2.1 fi.2.2.2.1 fi.2.2.2.2.1 fi.2.2.2.2.2
 self:=λ_ _ _ _ _ st h=>by
  obtain⟨⟨old,he⟩,_⟩:=st
  exact wpAny_pyIter_enum he h
def Y3{k:ZK}(I:Inv X pins O H s)(hq:zq k X.K H v xs)(r:RelV v u) :
  ∃t:Tok,∀(A:Around) (E:Value->Shared->Prop) (Q:Value->Shared->Prop),(∀h',IsEnum h' (s.heap.objs.size+1) s.heap.objs.size 0 .none->m9 k v t h' s.heap.objs.size 0->(∀b o,s.heap.get? b=some o->h'.get? b=some o)->Q (.ref (s.heap.objs.size+1)) { s with heap:=h' })->
   wpAny (model X.prog X.w) A (call (.type "enumerate") [u]) Q E s:=by
 cases k with
 |L=>
  obtain⟨a,rfl,hq⟩:=hq
  cases r
  obtain⟨ia,ra,pa,_⟩:=I.list hq
  exact⟨0,λA E Q h=>call_enumerate_list pa.isList λh' he sY _ hk=>h h' he ⟨a,rfl,sY⟩ hk⟩
 |T=>
  obtain⟨a,rfl,hq⟩:=hq
  cases r
  obtain⟨ia,ra,pa,_⟩:=I.tuple hq
  exact⟨0,λA E Q h=>YZ pa λh' he sY _ hk=>h h' he ⟨a,rfl,sY⟩ hk⟩
 |S=>
  obtain⟨x,rfl,_⟩:=hq
  obtain⟨t,rfl⟩:=r
  exact⟨t,λA E Q h=>call_enumerate_str λh' he sY _ hk=>h h' he ⟨x,rfl,sY⟩ hk⟩
def Ge(k:ZK){a:Expr}(hW:∀vs H R,W vs H R->∃va xs,vs=[va]/\zq k X.K H va xs/\R (qD k X.K va xs) H)(hg:Gl X "enumerate")(hm:X.mg "enumerate"=none)(ha:PA X [a] ta)(hs:starEach [a] X.env=[(false,eval a X.env)]:=by rfl) :
  PI X (.Tuple elts kk oa) (.Call (.Name "enumerate" p) [a] [] pos) (λO H R=>ta O H λvs H1=>W vs H1 R):=by
 intro pins s O H R I h
 refine Call_ (qk I hg hm boot_enumerate (Ef (aC (ha pos pins s O H _ I h) λus s1 ⟨vs,H1,I1,r1,q1⟩=>?_) hs rfl))
 obtain⟨va,xs,e,hq,q⟩:=hW _ _ _ q1
 subst e
 obtain⟨u,rfl,ru⟩:=vals1 r1
 obtain⟨t,hz⟩:=Y3 I1 hq ru
 refine hz _ _ _ λh' he sY hk=>?_
 have I2:Inv X pins O H1 { s1 with heap:=h' }:=I1.kept (t':=s1.toks) hk
 refine wpAny_pyIter_enum (s:={ s1 with heap:=h' }) he ?_
 refine⟨s1.heap.objs.size+1,[s1.heap.objs.size+1,s1.heap.objs.size],_,_,H1,rfl,I2,Y0 k va t s1.heap.objs.size (s1.heap.objs.size+1) xs (Nat.succ_ne_self _),⟨⟨.none,he⟩,sY⟩,λb hb=>?_,q⟩
 have z:b=s1.heap.objs.size+1\/b=s1.heap.objs.size:=by simpa using hb
 rcases z with z | z
 .subst z;exact I1.kU (gw _) (I1.aA.fresh (gw _))
 .subst z;exact I1.kU (aO _) I1.fresh
theorem Gf{k:ZK}{va:V}{tb:TS}{D:Ends}(Pv:Nat->St->Hp->Prop)(h0:Pv 0 O H)(hl:∀i O H,i<=xs.length->Pv i O H->zq k K H va xs)
  (hs:∀i x p O H,xs[i]? = some x->Pv i O H->H p=none->g (.ref p) O (upd H p (.tup [.int i,x])) λO2 H2=>tb { D with nx:=Pv (i+1),ct:=Pv (i+1),bk:=D.nx } O2 H2) (hd:∀O H,Pv xs.length O H->D.nx O H) :
  ∃W:Nat->Nat->St->Hp->Prop,(∃m,W 0 m O H)/\∀i m O H,W i m O H->
   ((qD k K va xs).stop i H/\D.nx O H)\/((qD k K va xs).go i H/\∃N:St->Hp->Prop,(∀O' H',N O' H'->∃m',m'<m/\W (i+1) m' O' H')/\∀x H',(qD k K va xs).gJ i H x H'->g x O H' λO2 H2=>tb { D with nx:=N,ct:=N,bk:=D.nx } O2 H2):=by
 refine⟨λi m O H=>m=xs.length - i/\i<=xs.length/\Pv i O H,⟨xs.length,by simp,bG _,h0⟩,?_⟩
 rintro i m O H ⟨rfl,hi,p⟩
 have q:=hl i O H hi p
 by_cases aT:i<xs.length
 .refine .inr ⟨⟨q,aT⟩,Pv (i+1),λO' H' p'=>⟨xs.length - (i+1),by lia,rfl,aT,p'⟩,λx H' y=>?_⟩
  obtain⟨pp,v,hn,e1,e2,e3⟩:=y
  subst e1 e3
  exact hs i v pp O H e2 p hn
 .have e:i=xs.length:=by lia
  subst e
  exact .inl ⟨⟨q,rfl⟩,hd O H p⟩
noncomputable abbrev BF(K:Frag)(a:Addr)(xs:List V):It:=qD .L K (.ref a) xs
noncomputable abbrev Gg(K:Frag)(a:Addr)(xs:List V):It:=qD .T K (.ref a) xs
noncomputable abbrev Gh(K:Frag)(x:Str):It:=qD .S K (.str x) (x.cps.toList.map λc=>V.str ⟨#[c]⟩)
def Y4(K:Frag)(ta:TA):TI:=λO H R=>ta O H λvs H1=>∃a xs,vs=[.ref a]/\aj K H1 a xs/\R (BF K a xs) H1
def Y5(K:Frag)(ta:TA):TI:=λO H R=>ta O H λvs H1=>∃a xs,vs=[.ref a]/\ak K H1 a xs/\R (Gg K a xs) H1
def Y6(K:Frag)(ta:TA):TI:=λO H R=>ta O H λvs H1=>∃x,vs=[.str x]/\R (Gh K x) H1
section
variable{X:Cx}{elts:List Expr}{kk:Nat}{oa:Pos}{a:Expr}{ta:TA}{p pos:Pos}
def Gi(hg:Gl X "enumerate")(hm:X.mg "enumerate"=none)(ha:PA X [a] ta)(hs:starEach [a] X.env=[(false,eval a X.env)]:=by rfl):PI X (.Tuple elts kk oa) (.Call (.Name "enumerate" p) [a] [] pos) (Y4 X.K ta):=
 Ge .L (W:=λvs H1 R=>∃a xs,vs=[.ref a]/\aj X.K H1 a xs/\R (BF X.K a xs) H1) (λ_ _ _ ⟨a,xs,e,q,r⟩=>⟨.ref a,xs,e,⟨a,rfl,q⟩,r⟩) hg hm ha hs
def Y7(hg:Gl X "enumerate")(hm:X.mg "enumerate"=none)(ha:PA X [a] ta)(hs:starEach [a] X.env=[(false,eval a X.env)]:=by rfl):PI X (.Tuple elts kk oa) (.Call (.Name "enumerate" p) [a] [] pos) (Y5 X.K ta):=
 Ge .T (W:=λvs H1 R=>∃a xs,vs=[.ref a]/\ak X.K H1 a xs/\R (Gg X.K a xs) H1) (λ_ _ _ ⟨a,xs,e,q,r⟩=>⟨.ref a,xs,e,⟨a,rfl,q⟩,r⟩) hg hm ha hs
def Y8(hg:Gl X "enumerate")(hm:X.mg "enumerate"=none)(ha:PA X [a] ta)(hs:starEach [a] X.env=[(false,eval a X.env)]:=by rfl):PI X (.Tuple elts kk oa) (.Call (.Name "enumerate" p) [a] [] pos) (Y6 X.K ta):=
 Ge .S (W:=λvs H1 R=>∃x,vs=[.str x]/\R (Gh X.K x) H1) (λ_ _ _ ⟨x,e,r⟩=>⟨.str x,_,e,⟨x,rfl,rfl⟩,r⟩) hg hm ha hs
end
section
variable{K:Frag}{a:Addr}{xs:List V}{g:TG}{tb:TS}{D:Ends}{O:St}{H:Hp}
def Gj(J:It)(g:TG)(tb:TS)(D:Ends)(O:St)(H:Hp):Prop := ∃W:Nat->Nat->St->Hp->Prop,(∃m,W 0 m O H)/\∀i m O H,W i m O H->
   (J.stop i H/\D.nx O H)\/(J.go i H/\∃N:St->Hp->Prop,(∀O' H',N O' H'->∃m',m'<m/\W (i+1) m' O' H')/\∀x H',J.gJ i H x H'->g x O H' λO2 H2=>tb { D with nx:=N,ct:=N,bk:=D.nx } O2 H2)
def Od(Pv:Nat->St->Hp->Prop)(h0:Pv 0 O H)(hl:∀i O H,i<=xs.length->Pv i O H->aj K H a xs)
  (hs:∀i x p O H,xs[i]? = some x->Pv i O H->H p=none->g (.ref p) O (upd H p (.tup [.int i,x])) λO2 H2=>tb { D with nx:=Pv (i+1),ct:=Pv (i+1),bk:=D.nx } O2 H2) (hd:∀O H,Pv xs.length O H->D.nx O H):Gj (BF K a xs) g tb D O H:=
 Gf Pv h0 (λi O H hi p=>⟨a,rfl,hl i O H hi p⟩) hs hd
def Y9(Pv:Nat->St->Hp->Prop)(h0:Pv 0 O H)(hl:∀i O H,i<=xs.length->Pv i O H->ak K H a xs)
  (hs:∀i x p O H,xs[i]? = some x->Pv i O H->H p=none->g (.ref p) O (upd H p (.tup [.int i,x])) λO2 H2=>tb { D with nx:=Pv (i+1),ct:=Pv (i+1),bk:=D.nx } O2 H2) (hd:∀O H,Pv xs.length O H->D.nx O H):Gj (Gg K a xs) g tb D O H:=
 Gf Pv h0 (λi O H hi p=>⟨a,rfl,hl i O H hi p⟩) hs hd
def Za(Pv:Nat->St->Hp->Prop)(h0:Pv 0 O H)
  (hs:∀i c p O H,x.cps.toList[i]? = some c->Pv i O H->H p=none->g (.ref p) O (upd H p (.tup [.int i,.str ⟨#[c]⟩])) λO2 H2=>tb { D with nx:=Pv (i+1),ct:=Pv (i+1),bk:=D.nx } O2 H2) (hd:∀O H,Pv x.cps.size O H->D.nx O H):Gj (Gh K x) g tb D O H:=
 Gf Pv h0 (λ_ _ _ _ _=>⟨x,rfl,rfl⟩) (λi y p O H hy pv hn=>by
  rw[bw] at hy
  obtain⟨c,hc,rfl⟩:=iO.mp hy
  exact hs i c p O H hc pv hn) (λO H h=>hd O H (by rw[aw,uA] at h;exact h))
end
theorem Zb{Q:VK}(hn:xs.length<=10000)(ha:aj K H1 a xs)(p:Nat->Bool)(F:Addr->Nat->V->Hp->Prop)
  (mono:∀D i y H H',H1 D=none->(∃o,H D=some (.lst o))->(∀b o,b≠D->H b=some o->H' b=some o)->F D i y H->F D i y H')
  (hs:∀D i x H (Z0:Hp->Prop) (Z:V->Hp->Prop),H1 D=none->xs[i]? = some x->af H1 H->(∃o,H D=some (.lst o))->(∀H2,af H H2->p i=false->Z0 H2)->(∀y H2,af H H2->p i=true->F D i y H2->Z y H2)->
   tt (some (.int i)::some x::fO js O) H λb H2=>if b=true then te (some (.int i)::some x::fO js O) H2 Z else Z0 H2)
  (hd:∀D ys H,H1 D=none->H D=some (.lst ys)->af H1 H->Paired (λi y=>F D i y H) ((List.range xs.length).filter p) ys->Q (.ref D) H):FC K' js tt te O (BF K a xs) H1 Q:=by
 intro D hD
 have hz:10000<sizeLine:=by decide
 refine⟨λi m H=>m=xs.length - i/\i<=xs.length/\∃ys,H D=some (.lst ys)/\af H1 H/\Paired (λi y=>F D i y H) ((List.range i).filter p) ys,⟨xs.length,by simp,bG _,[],ao,af.upd hD,.nil⟩,?_⟩
 rintro i m H ⟨rfl,hi,ys,bD,sm,pr⟩
 have q:=sm.seq ha
 by_cases aT:i<xs.length
 .refine .inr ⟨⟨⟨a,rfl,q⟩,aT⟩,λx H' y=>?_⟩
  obtain⟨pp,v,yF,rfl,yy,rfl⟩:=y
  have kP:List.range (i+1)=List.range i++[i]:=nV
  have ln:ys.length<=i:=by
   have h1:=pr.length
   have h2:((List.range i).filter p).length<=(List.range i).length:=fY _ _
   rw[mS] at h2
   lia
  have sp:af H (upd H pp (.tup [.int i,v])):=af.upd yF
  refine⟨pp,.int i,v,rfl,ak.of ao,hs D i v _ _ _ hD yy (sm.trans sp) ⟨ys,sp _ _ bD⟩ (λH2 s2 hp=>?_) (λz H2 s2 hp hF=>?_)⟩
  .refine⟨xs.length - (i+1),by lia,rfl,aT,ys,s2 _ _ (sp _ _ bD),sm.trans (sp.trans s2),?_⟩
   rw[kP,ie,dj,av (by rw[hp];exact b8),kN,eV]
   exact Paired.bU pr λj z f=>mono D j z H H2 hD ⟨ys,bD⟩ (λb o _ e=>s2 b o (sp b o e)) f
  .refine⟨ys,s2 _ _ (sp _ _ bD),by lia,xs.length - (i+1),by lia,rfl,aT,ys++[z],ao,(sm.trans (sp.trans s2)).kf hD,?_⟩
   have up:∀b o,b≠D->H2 b=some o->upd H2 D (.lst (ys++[z])) b=some o:=λb o hb e=>by rw[ar hb];exact e
   rw[kP,ie,dj,az hp,kN]
   refine lJ (Paired.bU pr λj z' f=>?_) (mono D i z H2 _ hD ⟨ys,s2 _ _ (sp _ _ bD)⟩ up hF)
   exact mono D j z' H2 _ hD ⟨ys,s2 _ _ (sp _ _ bD)⟩ up (mono D j z' H H2 hD ⟨ys,bD⟩ (λb o _ e=>s2 b o (sp b o e)) f)
 .have e:i=xs.length:=by lia
  subst e
  exact .inl ⟨⟨⟨a,rfl,q⟩,rfl⟩,hd D ys H hD bD sm pr⟩
theorem BG{t:TA}{k:Nat}(N:Nw X.prog X.w X.K X.mg X.base x C k sp)(hr:bZ l X.A)(ha:PA X (e::es) t)(hle:k+1<=l:=by first | decide | lia)(hg:Gl X x:=by rfl)(dR:(x==("__debug__":Str))=false:=by decide)
  (he:starEach (e::es) X.env=(false,eval e X.env)::starEach es X.env:=by rfl) (hpl:(backTo pos (starEach es X.env)).any (·.1)=false:=by rfl):PE X (.Call (.Name x p) (e::es) [] pos) (Bf C sp [] E0 t):=by
 obtain⟨f,fd,ps,M,G,hb,hm⟩:=N.ex
 exact V9 M G (hr.mono hle) hg hm hb .nil yl ha dR he hpl
noncomputable def BH:Expr->Bool
 |.Starred .. =>true
 |_=>false
def dN{env:Env}(h:BH e=false):starEach (e::es) env=(false,eval e env)::starEach es env:=by
 cases e <;> first | rfl | cases h
theorem BI:∀{es:List Expr}{env:Env}{pos:Pos},es.all (λe=>!BH e)=true->(backTo pos (starEach es env)).any (·.1)=false
 |[],_,_,_=>rfl
 |e::es,env,pos,h=>by
  rw[List.all_cons,d9] at h
  rw[dN (by cases hs:BH e with | false=>rfl | true=>rw[hs] at h;cases h.1)]
  have ih:=BI (es:=es) (env:=env) (pos:=pos) h.2
  unfold backTo at ih ⊢
  rw[bS,AB,ih]
  rfl
def Zc{a:Int}{j k:Nat}:PE X (.Tuple [.Constant (.int a) j p,.Constant (.int b) j' p'] k pos) (EY (qv (tC (.int a)) (qv (tC (.int b)) m5))):=
 fm (ae aF (ae aF ag (hs:=dN rfl)) (hs:=dN rfl))
structure LE(X:Cx)(e:Expr)(t:TE):Prop where
 h:PE X e t
structure LA(X:Cx)(es:List Expr)(t:TA):Prop where
 h:PA X es t
structure LS(X:Cx)(st:Stmt)(t:TS):Prop where
 h:PS X st t
structure Oe(X:Cx)(st:List Stmt)(t:TS):Prop where
 h:eK X st t
section
variable{X:Cx}{e a b:Expr}{es:List Expr}{te ta tb:TE}{t:TA}{pos:Pos}
def Zd:LA X [] m5:=⟨ag⟩
def sZ(ha:LE X e te)(hr:LA X es t)(h:BH e=false):LA X (e::es) (qv te t):=⟨ae ha.h hr.h (dN h)⟩
def Ze(h:LA X es t):LE X (.List es pos) (MC t):=⟨du h.h⟩
def tf{i k:Int}{j:Nat}:LE X (.Tuple [.Constant (.int i) j p,.Constant (.int k) j' p'] n pos) (EY (qv (tC (.int i)) (qv (tC (.int k)) m5))):=⟨Zc⟩
def Zf{r:R2}(hr:vi X r)(ha:LE X a ta)(hb:PE X b tb)(hs:E9 b):LE X (.Subscript a b pos) (qr r ta tb):=⟨aV hr ha.h hb hs⟩
def Zg(he:LE X e te)(hg:PG X tg g)(hs:swapsWithSole [tg] e pos.line X.env=pure false:=by rfl)(hw:swappedStores [tg] e X.env=pure none:=by rfl)
  (h1:(assignEach [tg] X.env).map (·.2)=[assign tg X.env]:=by rfl):LS X (.Assign [tg] e pos) (xX te g):=⟨rY he.h hg hs hw h1⟩
def Zh{eD:Stmt}{ts tr:TS}(h:LS X st ts)(hr:eK X (eD::rest) tr):Oe X (st::eD::rest) (EN ts tr):=⟨aq h.h hr⟩
end
section
variable{P:Program}{w:World}{K:Frag}{mg:Str->Option Value}{base:Heap}
def aW.Zi{k:Nat}(F:aW K x qual st f fd)(S:bh N ps (aN st))(len:∀vs H Q E,sp vs H Q E->vs.length=ps.length)
  (lS:∀(aE:Value) (A:Around) (outer:List Env) (s:Shared) (H:Hp) (vs:List V) (Q:VK) (E:XK),bZ k (A.deeper (envOfC qual (aN st) s.heap.objs.size f aE))->sp vs H Q E->
   ∃t,Oe (ip aP P w K mg base N qual (aN st) f aE A outer s H E).qo (kd st) t/\t { nx:=λ_ H'=>Q .aB H',rt:=Q } (start N vs) H):aK P w K mg base aP (k+1) f fd ps sp:=
 F.ok S len λaE A outer s H vs Q E hr h=>let ⟨t,a,q⟩:=lS aE A outer s H vs Q E hr h;⟨t,a.h,q⟩
end
def tj(q f a:Addr):Heap->Prop:=λh=>h.get? q=some (methodObj (.ref f) (.ref a))
def Zj{q:Addr}(e:h.get? q=some (methodObj (.ref f) (.ref a))):da P w H h q (.ext (tj q f a)):=⟨e,⟨_,e⟩,λ_ _ x k=>k _ x⟩
structure Of(K:Frag)(f:Addr):Prop where
 gf:specialIn K (.ref f) "__get__"=some (some (.builtin "function.__get__"))
 tk:takesIn K (.ref f)=some false
section
variable{X:Cx}{pins:List (Addr×Obj)}{O:St}{H:Hp}{s:Shared}{a C dx g q l:Addr}{fs:List (Str×V)}{m:Str}{A:Around}{E:Value->Shared->Prop}
def Zk(I:Inv X pins O H s)(e:H a=some (.ins C dx fs))(c:de X.K C)(k:Meth X.K C m g)(b:Of X.K g)(hc:PySem.W.copiedNames.contains m=false)(hl:fs.lookup m=none)
  (h:∀q s',H q=none->Inv X pins O (upd H q (.ext (tj q g a))) s'->Q (.ref q) s'):wpAny (model X.prog X.w) A (getAttr (.ref a) m expr) Q E s:=by
 obtain⟨mA,σ,r,_,_,_⟩:=x8 I.aA e
 have hn:mA m=none:=gb.none_of (by rw[<-hl];exact r m)
 obtain⟨od,J,oE⟩:=σ.look
 have hp:=Lv (c.get m)
 refine PySem.W.get_bind I.cG J hp.1 (PySem.W.findObj_fn c.hd k.at_ b.gf b.tk hc (by rw[oE,hn])) hp.2 (nT (PySem.W.fn_get (s:={ s with toks:=s.toks+1 }) I.cG (jM.mp k.fn) (PySem.W.handed_on rfl ?_)))
 exact h s.heap.objs.size _ I.fresh (I.laid (t':=s.toks+1) (λ_ _ z=>bu _ z) (aO _) (Zj (cz _ rfl)))
theorem Og:∀{vs:List Value}{ns:List Int},Vals (ns.map V.int) vs->IntsAre vs ns
 |_,[],.nil=>.nil
 |_,n::_,.cons h t=>by
  obtain⟨t',rfl⟩:=h
  exact .cons n t' (Og t)
theorem Oh{kz:Str->Int}:∀{ss:List Str}{vs:List Value}{ps:List (Int×Value)},Vals (ss.map V.str) vs->(∀p∈ps,p∈(ss.map kz).zip vs)->∃ts:List Str,Vals (ts.map V.str) (ps.map Prod.snd)/\ts.map kz=ps.map Prod.fst
 |_,_,[],_,_=>⟨[],.nil,rfl⟩
 |ss,vs,p::r,hv,h=>by
  obtain⟨ts,h1,h2⟩:=Oh (ps:=r) hv λq hq=>h q (bX _ hq)
  obtain⟨i,hi⟩:=fJ (h p bz)
  rw[List.getElem?_zip_eq_some] at hi
  obtain⟨e1,e2⟩:=hi
  rw[bw] at e1
  cases es:ss[i]? with
  |none=>rw[es] at e1;cases e1
  |some x=>
   rw[es] at e1
   have e1:kz x=p.1:=cY e1
   obtain⟨u,hu,ru⟩:=hv.get (i:=i) (x:=V.str x) (by rw[bw,es];rfl)
   rw[e2] at hu
   cases hu
   exact⟨x::ts,.cons ru h1,by rw[bS,bS,h2,e1]⟩
theorem Oi:∀{ss ts:List Str},ss.map V.str=ts.map V.str->ss=ts
 |[],[],_=>rfl
 |[],_::_,h=>by cases h
 |_::_,[],h=>by cases h
 |x::r,y::t,h=>by
  rw[bS,bS] at h
  obtain⟨h1,h2⟩:=AE h
  cases h1
  rw[Oi h2]
def Zl(h:Vals (ss.map V.str) vs)(p:us.Perm vs):∃ts:List Str,Vals (ts.map V.str) us/\ts.Perm ss:=by
 induction p generalizing ss with
 |nil=>exact⟨ss,h,List.Perm.refl _⟩
 |cons x _ ih=>
  cases ss with
  |nil=>cases h
  |cons y r=>
   cases h with
   |cons h1 h2=>
    obtain⟨ts,a,b⟩:=ih h2
    exact⟨y::ts,.cons h1 a,b.cons y⟩
 |swap x y l=>
  match ss,h with
  |u::v::r,.cons h1 (.cons h2 h3)=>exact⟨v::u::r,.cons h2 (.cons h1 h3),List.Perm.swap ..⟩
 |trans _ _ Zm Zn=>
  obtain⟨ts,a,b⟩:=Zn h
  obtain⟨us,c,d⟩:=Zm a
  exact⟨us,c,d.trans b⟩
def Zo{k:Nat}{Q:VK}(F:aK X.prog X.w X.K X.mg X.base aP k f fd ps sp)(hr:bZ k A)(he:lR X.prog X.w X.K X.mg X.base A X.stack s H)(hb:Binds X.K fd ps [])(I:Inv X pins O H s)(hq:H q=some (.ext (tj q f a)))
  (rv:RelV v u) (h:sp [.ref a,v] H Q E0):wpAny (model X.prog X.w) A (call (.ref q) [u]) (EP X pins O Q) (λ_ _=>False) s:=by
 have hm:tj q f a s.heap:=(I.aA q _ hq).1
 have hl:([.ref a,u]++([]:List Value)).length=ps.length:=(F.len _ _ _ _ h)
 refine nT (ks_codeAny_call_bound hm ?_)
 refine uB (F.run A X.stack s H ⟨[.ref a,u],[]⟩ [.ref a,u] [.ref a,v] Q E0 hr he (hb s [.ref a,u] I.cG hl) (.cons rfl (.cons rv .nil)) h) λr s' z=>?_
 cases r with
 |error e=>exact z
 |ok fl=>
  cases fl with
  |ret w'=>exact I.after z
  |next=>exact False.elim z
  |brk=>exact False.elim z
  |cont=>exact False.elim z
theorem sorted_out{out:List Value}(hv:Vals (ss.map V.str) vs)(h:KskOut true (ss.map kz) vs out):∃ts:List Str,Vals (ts.map V.str) out/\ts.Perm ss/\ts.Pairwise λx y=>kz y<=kz x:=by
 obtain⟨ps,hp,rfl,ho⟩:=h
 obtain⟨ts,h1,h2⟩:=Oh (kz:=kz) hv λp hm=>hp.mem_iff.mp hm
 have hl:ss.length=vs.length:=by rw[<-hv.length,aw]
 have ll:(ps.map Prod.snd).Perm vs:=by
  have:=hp.map Prod.snd
  rw[List.map_snd_zip (by rw[aw];lia)] at this
  exact this
 obtain⟨eE,h3,h4⟩:=Zl hv ll
 have e:ts=eE:=Oi (Vals.inj h1 h3)
 subst e
 refine⟨ts,h1,h4,?_⟩
 have h5:(ps.map Prod.fst).Pairwise (λx y:Int=>y<=x):=by
  rw[List.pairwise_map]
  exact ho.imp λ{a b} z=>by simpa using z
 rw[<-h2,List.pairwise_map] at h5
 exact h5
theorem Zp{k:Nat}(I:Inv X pins O H s)(hq:H q=some (.ext (tj q f a)))(F:aK X.prog X.w X.K X.mg X.base aP k f fd ps sp)(hr:bZ (k+2) X.A)(hb:Binds X.K fd ps [])
  (hl:aj X.K H l (ss.map V.str)) (fA:ss.length<64) (turn:∀x∈ss,∀H3,af H H3->∀Q':VK,(∀H4,af H3 H4->Q' (.int (kz x)) H4)->sp [.ref a,.str x] H3 Q' E0)
  (fin:∀(p:Addr) (out:List Str) (H5:Hp) (s':Shared),H p=none->af H H5->H5 p=some (.lst (out.map V.str))->out.Perm ss->(out.Pairwise λx y=>kz y<=kz x)->Inv X pins O H5 s'->Q (.ref p) s') :
  wpAny (model X.prog X.w) X.A (call (.builtin "sorted") [.ref l] [(Str.ofString "key",.ref q),(Str.ofString "reverse",.bool true)]) Q E s:=by
 obtain⟨its,rv,pl,hz⟩:=I.list hl
 have hL:=pl.isList
 have hlen:its.length=ss.length:=by rw[<-rv.length,aw]
 have mf:(64:Nat)<=sizeLine:=by decide
 refine call_function_entry_kw kind_sorted plain_sorted entry_sorted (ksk_s2 _ _ _) ?_
 unfold Builtin.«sorted»
 refine ah (m:=checkCount "sorted" 1 1 _) (aL ?_)
 refine ah (collect_list hL ?_ (by lia))
 refine ah (wpAny_newList ?_ (by lia))
 generalize jt:(s.heap.push (seqObj "list" #[] 0)).update s.heap.objs.size (Obj.mapSeq (· ++ its.toArray))=g1
 have z1:g1.objs.size=s.heap.objs.size+1:=by rw[<-jt,Heap.size_update,rN]
 have k1:∀b o,s.heap.get? b=some o->g1.get? b=some o:=λb o e=>by
  have aT:=bA e
  rw[<-jt,LN _ _ _ _ (bR aT),Heap.get?_push_ne _ _ _ (bR aT)]
  exact e
 show wpAny _ _ _ _ _ { s with heap:=g1.push (seqObj "list" its.toArray 0) }
 have j0:(g1.push (seqObj "list" its.toArray 0)).get? (s.heap.objs.size+1)=some (seqObj "list" its.toArray 0):=by
  have:(g1.push (seqObj "list" its.toArray 0)).get? g1.objs.size=some (seqObj "list" its.toArray 0):=cz _ rfl
  rwa [z1] at this
 have k2:∀b o,s.heap.get? b=some o->(g1.push (seqObj "list" its.toArray 0)).get? b=some o:=λb o e=>bu _ (k1 b o e)
 have z2:(g1.push (seqObj "list" its.toArray 0)).objs.size=s.heap.objs.size+2:=by rw[rN,z1]
 rw[show(Value.ref g1.objs.size) = .ref (s.heap.objs.size+1) by rw[z1]]
 generalize g1.push (seqObj "list" its.toArray 0)=g2 at j0 k2 z2
 generalize yk:s.heap.objs.size+1=b at j0
 have nh:s.heap.objs.size<=b:=by rw[<-yk];exact gw _
 clear jt z1 k1
 refine ah (iL (wpAny_call_entry_kw slot_list_sort ⟨_,j0,rfl⟩ entry_list_sort ?body (ksk_l2 _ _ _)))
 case body=>
  rw[ksk_t2]
  unfold ksk_tree
  refine ah (listItems_at j0 rfl ?_)
  refine ah (listUpdate_at j0 rfl ?_ (by rw[br];lia) (bG _))
  obtain⟨e1,vF⟩:∃e1,(g2.update b (Obj.mapSeq λ_=>(#[]:Array Value))).get? b=some (seqObj "list" #[] e1):=⟨_,get?_update_seq j0 λ_=>#[]⟩
  have k3:∀c o,s.heap.get? c=some o->(g2.update b (Obj.mapSeq λ_=>(#[]:Array Value))).get? c=some o:=λc o e=>by
   have aT:=bA e
   rw[LN _ _ _ _ (bR (by rw[<-yk];exact nU aT))]
   exact k2 c o e
  have z3:(g2.update b (Obj.mapSeq λ_=>(#[]:Array Value))).objs.size=s.heap.objs.size+2:=by rw[Heap.size_update,z2]
  show wpAny _ _ _ _ _ { s with heap:=g2.update b (Obj.mapSeq λ_=>(#[]:Array Value)) }
  generalize g2.update b (Obj.mapSeq λ_=>(#[]:Array Value))=g3 at vF k3 z3
  refine ah (seqEpoch_at vF rfl ?_)
  refine ah (wpAny_newTuple ?_ (by show its.length<=_;lia))
  refine ah (wpAny_newList ?_ (bG _))
  refine iL ?_
  have z4:(g3.push { cls := .type "tuple",data := .seq its.toArray }).objs.size=s.heap.objs.size+3:=by rw[rN,z3]
  have Gm:((g3.push { cls := .type "tuple",data := .seq its.toArray }).push { cls := .type "list",data := .seq ([]:List Value).toArray }).get? (s.heap.objs.size+3)=some (seqObj "list" #[] 0):=by
   have:((g3.push { cls := .type "tuple",data := .seq its.toArray }).push { cls := .type "list",data := .seq ([]:List Value).toArray }).get? (g3.push { cls := .type "tuple",data := .seq its.toArray }).objs.size=some (seqObj "list" #[] 0):=cz _ rfl
   rwa [z4] at this
  have k5:∀c o,g3.get? c=some o->((g3.push { cls := .type "tuple",data := .seq its.toArray }).push { cls := .type "list",data := .seq ([]:List Value).toArray }).get? c=some o:=λc o e=>bu _ (bu _ e)
  show wpAny _ _ (ksk_rest b (.ref q) true its.toArray e1 (.ref (g3.push { cls := .type "tuple",data := .seq its.toArray }).objs.size)) _ _ { s with heap:=(g3.push { cls := .type "tuple",data := .seq its.toArray }).push { cls := .type "list",data := .seq ([]:List Value).toArray } }
  rw[z4]
  have Oj:=k5 _ _ vF
  have I5:Inv X pins O H { s with heap:=(g3.push { cls := .type "tuple",data := .seq its.toArray }).push { cls := .type "list",data := .seq ([]:List Value).toArray } }:=I.kept (t':=s.toks) λc o e=>k5 c o (k3 c o e)
  have Gn:H b=none:=I.aA.fresh nh
  have Ol:H (s.heap.objs.size+3)=none:=I.aA.fresh (AO _ _)
  have fb:∀{H':Hp},H' b=none->fL X pins H' b:=λh=>I.kU nh h
  have fk:∀{H':Hp},H' (s.heap.objs.size+3)=none->fL X pins H' (s.heap.objs.size+3):=λh=>I.kU (AO _ _) h
  have qE:b≠s.heap.objs.size+3:=by rw[<-yk];exact bR (nU (rG _))
  generalize (g3.push { cls := .type "tuple",data := .seq its.toArray }).push { cls := .type "list",data := .seq ([]:List Value).toArray }=g5 at Gm Oj I5
  clear z4 k5 k3 z3 k2 z2 vF
  generalize s.heap.objs.size+3=kS at Gm Ol fk qE
  have Oo:∀{H':Hp}{s':Shared}{ok:Obj},Inv X pins O H' s'->H' b=none->H' kS=none->s'.heap.get? b=some (seqObj "list" #[] e1)->s'.heap.get? kS=some ok->(∀v,ok.data ≠ .cell v)->Inv X (pins++[(b,seqObj "list" #[] e1),(kS,ok)]) O H' s':=λJ nb nk eb ek hd=>
   J.xP λp hp=>(cS.mp hp).elim (λz=>J.pin p (jc _ z)) λz=>by
    rcases cw.mp z with z | z
    .subst z
     exact⟨eb,nb,(fb nb).2.1,(fb nb).2.2.1,λv z=>nomatch z⟩
    .have z:=cn.mp z
     subst z
     exact⟨ek,nk,(fk nk).2.1,(fk nk).2.2.1,hd⟩
  have Oq:∀{H':Hp}{s':Shared}{l2:List (Addr×Obj)},Inv X (pins++l2) O H' s'->Inv X pins O H' s':=λJ=>J.u9
  unfold ksk_rest
  refine ah (uO ?_)
  rw[List.forIn_toArray]
  refine ah (ksk_fold (λi s' =>∃(H':Hp) (kA:Array Value) (e:Nat),Inv X (pins++[(b,seqObj "list" #[] e1),(kS,seqObj "list" kA e)]) O H' s'/\af H H'/\Vals (((ss.take i).map kz).map V.int) kA.toList) its 0 _
   ⟨H,#[],0,Oo I5 Gn Ol Oj Gm (λv z=>nomatch z),af.refl _,by rw[nX];exact .nil⟩ ?step ?done)
  case step=>
   rintro j x s' hx ⟨H',kA,e,J,sm,hk⟩
   rw[xB] at hk ⊢
   have hj:j<ss.length:=by rw[<-hlen];exact(bY.mp hx).1
   obtain⟨y,hy⟩:∃y,ss[j]? = some y:=⟨_,bf hj⟩
   obtain⟨u,hu,ru⟩:=rv.get (i:=j) (x:=V.str y) (by rw[bw,hy];rfl)
   rw[hx] at hu
   cases hu
   have yG:bZ k X.A.in1.in1:=hr.in1.in1
   refine ah (uM (gF (Zo (Q:=λv H4=>v = .int (kz y)/\af H' H4) F yG J.Bc.in1.in1 hb J (sm _ _ hq) ru (turn y (bj hy) H' sm _ λH4 s4=>⟨rfl,s4⟩)) (λv s2 he=>?_) λ_ _ hF=>hF.elim))
   obtain⟨v',H4,J4,r4,rfl,s4⟩:=he
   obtain⟨t4,rfl⟩:=r4
   dsimp only
   have pb:=J4.pin (b,seqObj "list" #[] e1) (by simp)
   have pk:=J4.pin (kS,seqObj "list" kA e) (by simp)
   have mh:kA.size<=64:=by
    have h1:=hk.length
    have h2:kA.toList.length=kA.size:=uA
    rw[aw,aw,jN] at h1
    lia
   refine ah (listUpdate_at pk.1 rfl ?_ (by lia) (by rw[Array.size_push];lia))
   have ek:(s2.heap.update kS (Obj.mapSeq (·.push (.int (kz y) t4)))).get? kS=some (seqObj "list" (kA.push (.int (kz y) t4)) _):=get?_update_seq pk.1 (·.push (.int (kz y) t4))
   have eb:(s2.heap.update kS (Obj.mapSeq (·.push (.int (kz y) t4)))).get? b=some (seqObj "list" #[] e1):=by
    rw[LN _ _ _ _ qE]
    exact pb.1
   have BJ:=fk pk.2.1
   have J5:Inv X pins O H4 { s2 with heap:=s2.heap.update kS (Obj.mapSeq (·.push (.int (kz y) t4))) }:=(Oq J4).turned (t':=s2.toks) (it:=kS) (λc o hc e=>by rw[LN _ _ _ _ hc];exact e) pk.2.1 BJ.2.1 BJ.2.2.2.1 BJ.2.2.2.2.1 BJ.2.2.2.2.2
   refine aL ⟨rfl,H4,_,_,Oo J5 pb.2.1 pk.2.1 eb ek (λv z=>nomatch z),sm.trans s4,?_⟩
   rw[eJ,hy,eW,eW,Array.toList_push]
   exact hk.append (.cons ⟨t4,rfl⟩ .nil)
  case done=>
   rintro s' ⟨H',kA,e,J,sm,hk⟩
   rw[xB,hlen,fg (aO _)] at hk
   have pb:=J.pin (b,seqObj "list" #[] e1) (by simp)
   have pk:=J.pin (kS,seqObj "list" kA e) (by simp)
   refine ah (listItems_at pk.1 rfl ?_)
   obtain⟨mL,Ot,_⟩:=id J.loc
   have Zq:=(fb pb.2.1).2.1
   have Zr:=(fk pk.2.1).2.1
   have BK:∀{c:Addr}{o:Obj},c≠X.env.locals->c≠kS->c≠b->s'.heap.get? c=some o->(c,o)∈(lb.ledger s'.heap X.env.locals kS).filter λp=>decide (p.1≠b):=λh1 h2 h3 h4=>cq.mpr ⟨lb.Ft.mpr ⟨h1,h2,h4⟩,aJ h3⟩
   refine ksk_end_ (h₀:=lb.Bo s'.heap) (L:=X.env.locals) (m:=mL) (news:=(lb.ledger s'.heap X.env.locals kS).filter λp=>decide (p.1≠b)) (e:=e) (kz:=ss.map kz) (lb.Xa Ot) (λp hp=>?_) (bo qE) (λp hp=>?_) (λp hp=>?_) (Og hk) (by rw[aw,hlen]) (by lia) λh' tk out c Ou N' ko=>?_
   .rcases cS.mp hp with hp | hp
    .obtain⟨h1,_⟩:=cq.mp hp
     obtain⟨n1,n2,h3⟩:=lb.Ft.mp h1
     exact⟨h3,n1,lb.Bp _ _⟩
    .rcases cw.mp hp with z | z
     .subst z
      exact⟨pk.1,Zr,lb.Bp _ _⟩
     .have z:=cn.mp z
      subst z
      exact⟨pb.1,Zq,lb.Bp _ _⟩
   .exact(lb.Ft.mp (cq.mp hp).1).2.1
   .exact fG (cq.mp hp).2
   .obtain⟨ts,v1,v2,v3⟩:=sorted_out rv ko
    have ki:h'.get? b=some (seqObj "list" out c):=(N' (b,seqObj "list" out c) bz).1
    have kp:∀{x:Addr}{o:Obj},x≠X.env.locals->x≠kS->x≠b->s'.heap.get? x=some o->h'.get? x=some o:=λh1 h2 h3 h4=>(N' _ (bX _ (BK h1 h2 h3 h4))).1
    have tl:∀x u,H' x=some u->x≠X.env.locals/\x≠kS/\x≠b:=λx u z=>⟨λy=>(by rw[y,J.free] at z;cases z),λy=>(by rw[y,pk.2.1] at z;cases z),λy=>(by rw[y,pb.2.1] at z;cases z)⟩
    have FB:=fb pb.2.1
    have FK:=fk pk.2.1
    have lY:(ts.map V.str).length<=sizeLine:=by rw[aw,v2.length_eq];lia
    have J6:Inv X pins O (upd H' b (.lst (ts.map V.str))) { s' with heap:=h',toks:=tk }:=by
     refine(Oq J).step (g':=s'.gens) (d':=s'.drawn) (ch:=[kS,b]) (λx hx=>?_) (λx o n1 _ hc e _=>kp n1 (λz=>hc (by simp[z])) (λz=>hc (by simp[z])) e) (λx o n1 _ hc e _=>⟨o.slots,kp n1 (λz=>hc (by simp[z])) (λz=>hc (by simp[z])) e⟩)
      (λx o hc _ n=>by rw[ar (λz=>hc (by simp[z]))];exact n) (λx o hc e=>?_) (λx xs z=>by rw[ar (tl x _ z).2.2];exact z) (λx o u z=>by rw[ar (tl x _ z).2.2];exact z) (λx ps z=>⟨#[],by rw[ar (tl x _ z).2.2,z];simp⟩) (λm' Zs=>?_) (λx u z=>?_) J.bare
     .have hx:x=kS\/x=b:=by simpa using hx
      rcases hx with rfl | rfl
      .exact⟨FK.2.2.2.1,FK.2.1,FK.2.2.2.2.1,FK.2.2.2.2.2⟩
      .exact⟨FB.2.2.2.1,FB.2.1,FB.2.2.2.2.1,FB.2.2.2.2.2⟩
     .by_cases y:x=X.env.locals
      .obtain⟨oL,_,_,eL,_⟩:=Ou.ns
       exact⟨oL,by rw[y];exact eL⟩
      .exact⟨o,kp y (λz=>hc (by simp[z])) (λz=>hc (by simp[z])) e⟩
     .have:m'=mL:=funext λnm=>Zs.agree Ot nm
      rw[this]
      exact Ou.ns
     .by_cases y:x=b
      .subst y
       rw[ao] at z
       cases z
       exact⟨lY,out.toList,c,v1,by rw[Array.toArray_toList];exact ki⟩
      .rw[ar y] at z
       obtain⟨n1,n2,n3⟩:=tl x u z
       refine(J.aA x u z).jQ (λd v hd e=>?_) (λdd e=>by rw[ar (tl dd _ e).2.2];exact e) λdd u' e=>by rw[ar (tl dd _ e).2.2];exact e
       rcases hd with rfl | hd
       .exact kp n1 n2 n3 e
       .obtain⟨m1,m2,m3⟩:=tl d _ hd
        exact kp m1 m2 m3 e
    refine⟨_,rfl,?_⟩
    exact aL ⟨_,rfl,fin b ts _ _ Gn (λx o z=>by rw[ar (λy=>by rw[y,Gn] at z;cases z)];exact sm x o z) ao v2 v3 J6⟩
end
section
variable{X:Cx}{K:Frag}{C g:Addr}{m:Str}{o e:Expr}{to tl:TE}{sp:Sp}{k:Nat}{p pos ap Zt Zu cp:Pos}{ck:Nat}
structure Gp(K:Frag)(C:Addr)(m:Str):Prop where
 ex:∃f,findIn K (.ref C) m=some (some (.ref f))/\Of K f
 nm:PySem.W.copiedNames.contains m=false
def Gq(K:Frag)(C:Addr)(m:Str)(sp:Sp)(to:TE)(O:St)(Q:VK)(x:V)(H1:Hp):Prop:=to O H1 λy H2=>∃(l:Addr) (ss:List Str) (a dx:Addr) (fs:List (Str×V)) (kz:Str->Int),x = .ref l/\y = .ref a/\aj K H2 l (ss.map V.str)/\ss.length<64/\H2 a=some (.ins C dx fs)/\fs.lookup m=none/\
 (∀x∈ss,∀H3,af H2 H3->∀Q':VK,(∀H4,af H3 H4->Q' (.int (kz x)) H4)->sp [.ref a,.str x] H3 Q' E0)/\
 ∀(p:Addr) (out:List Str) (H5:Hp),H2 p=none->af H2 H5->H5 p=some (.lst (out.map V.str))->out.Perm ss->(out.Pairwise λx y=>kz y<=kz x)->Q (.ref p) H5
def Zv(K:Frag)(C:Addr)(m:Str)(sp:Sp)(tl to:TE):TE:=λO H Q=>tl O H (Gq K C m sp to O Q)
def Zw(k:V->Hp->Prop):List V->Hp->Prop
 |[x],H=>k x H
 |_,_=>False
def Zx(hK:X.K=K)(M:Mt X.prog X.w X.K X.mg X.base C m k sp [])(hM:Gp X.K C m)(hr:bZ (k+2) X.A)(hg:Gl X "sorted")(hm:X.mg "sorted"=none)(hv:bootBuiltins "sorted"=some (.builtin "sorted"))(ha:PA X [e] (qv tl m5))(ho:PE X o to)
  (hb:attributeBase o m X.env (eval o X.env)=eval o X.env) (he:backTo pos (starEach [e] X.env)=(false,eval e X.env)::backTo pos (starEach [] X.env):=by rfl) (hp:(backTo pos (starEach [e] X.env)).any (·.1)=false:=by rfl) :
  PE X (.Call (.Name "sorted" p) [e] [⟨some "key",.Attribute o m ap,Zt⟩,⟨some "reverse",.Constant (.bool true) ck cp,Zu⟩] pos) (Zv K C m sp tl to):=by
 subst hK
 intro pins s O H Q I h
 obtain⟨f,fd,ps,ds,mt,F,bn,vd⟩:=M.ex
 cases vd
 obtain⟨f',Zy,bd⟩:=hM.ex
 have ef:f'=f:=by
  have:=Zy.symm.trans mt.at_
  injection this with this
  injection this with this
  injection this with this
 subst ef
 refine rH (qk I hg hm hv ?_ (by decide) (by decide))
 have h':qv tl m5 O H (Zw (Gq X.K C m sp to O Q)):=h
 refine callWith_kw (aC (ha pos pins s O H _ I h') λus s1 ⟨vs,H1,I1,r1,q1⟩=>?_) he hp
 obtain⟨x,rfl,q1⟩:∃x,vs=[x]/\Gq X.K C m sp to O Q x H1:=by
  match vs,q1 with
  |[x],q1=>exact⟨x,rfl,q1⟩
 obtain⟨u,rfl,ru⟩:∃u,us=[u]/\RelV _ u:=vals1 r1
 refine kws_cons (MB hb (aC (ho pins s1 O H1 _ I1 q1) λw' s2 ⟨y,H2,I2,ry,q2⟩=>?_))
 obtain⟨l,ss,a,dx,fs,kz,rfl,rfl,hl,fA,BL,oE,turn,fin⟩:=q2
 cases ru
 cases ry
 refine Zk I2 BL M.cl mt bd hM.nm oE λq s3 hq I3=>?_
 have sq:=af.upd (o:=HO.ext (tj q f' a)) hq
 refine kws_cons (aC (fh pins s3 O _ (λv H'=>v = .bl true/\H'=upd H2 q (.ext (tj q f' a))) I3 ⟨rfl,rfl⟩) λb s4 ⟨v4,H4,I4,r4,e4,e5⟩=>?_)
 subst e4 e5
 cases r4
 refine kws_nil ?_
 refine Zp (a:=a) (q:=q) I4 ao F hr bn (sq.seq hl) fA (λx mx H3 s3=>turn x mx H3 (sq.trans s3)) λp out H5 s5 hp s6 h5 h6 h7 I5=>?_
 exact⟨.ref p,H5,I5,rfl,fin p out H5 (sq.free hp) (sq.trans s6) h5 h6 h7⟩
end
def Zz:typeLookup (.type "list") "keys"=pure none:=am_miss_of_fast (by kernel_rfl)
def BM:plainId "dict.update.loop"=true:=by decide +kernel
def Ov:entryFor table "dict.update.loop"=some Builtin.«dict.update.loop»:=entryFor_of_fast (by kernel_rfl)
section
variable{prog:Program}{w:World}{A:Around}{E:Value->Shared->Prop}{s:Shared}
def ZA{xs:Array Value}{k:Nat}{Q:Option Value->Shared->Prop}(hx:s.heap.get? a=some { cls := .type "list",data := .seq xs k })(hA:A.handled=none)
  (h:∀h' tk,(∀b o,s.heap.get? b=some o->h'.get? b=some o)->Q none { s with heap:=h',toks:=tk }):wpAny (model prog w) A (getAttr? (.ref a) "keys") Q E s:=by
 obtain⟨hp,g,d,tk,os⟩:=s
 have hT:∀n,(⟨hp,g,d,n,os⟩:Shared).TypeIs (.ref a) "list":=λ_=>⟨_,hx,rfl⟩
 have g1:=sub_AttributeError
 have g2:=UG.lookup;have g3:=UG.bind (.ref a);have g4:=am_list_getattr_none
 unfold getAttr? getAttrBy? getAttrBy
 repeat (any_goals (first | assumption | exact hT _ | ((with_reducible show wpAny _ _ (call (Value.builtin "list.__getattribute__") _ _) _ _ _);refine call_meets UG (hT _) am_entry_list_getattribute (F.args_list_getattribute_2 _ _) (meets_getattribute_miss_list a xs k _ "keys" _ Zz (by decide +kernel) (by decide)) ⟨hx,hA,λh' n e hn=>?_⟩) | wp_step))
 obtain⟨t',u',he⟩:=hn.there
 show wpAny _ _ (getattributeRaised _ _ _ _ _ _ _) _ _ _
 unfold getattributeRaised
 repeat (any_goals (first | assumption | wp_step))
 exact h _ _ hn.keeps
end
section
variable{prog:Program}{w:World}{A:Around}{R:Result->Shared->Prop}{I:Addr}{fp wr:List Addr}{n:Nat}{P:Nat->Value->Prop}{St:Nat->Heap->Prop}{KK:Type}[DecidableEq KK]{knd:KeyKind prog w KK}
theorem ZC(W:Walks prog w A.in1 I fp wr n P St)(D:Addr)(Ow:D∉fp)(ks:Nat->KK)(ky vl:Nat->Value)(tt:Nat->Addr)(hP:∀i v,P i v->v = .ref (tt i))(hk:∀i,i<n->knd.is (ks i) (ky i)=true)(ht:∀i,i<n->tt i∉wr/\tt i≠D)
  (L:Nat->List (KK×Value)) (hL:∀i,i<n->L (i+1)=stored (L i) (ks i) (vl i)) (hz:∀i,i<=n->(L i).length<=sizeLine) :
  ∀(k i:Nat) (s:Shared) (it:Tok),n - i=k->i<=n->St i s.heap->s.heap.DictOf knd D (L i)->(∀i,i<n->∃o c,s.heap.get? (tt i)=some o/\o.cls = .type "tuple"/\o.data = .seq #[ky i,vl i] c)->
  (∀h' tk,(∀b o,b∉wr->b≠D->s.heap.get? b=some o->h'.get? b=some o)->h'.DictOf knd D (L n)->R (.ok (.ret .none)) { s with heap:=h',toks:=tk })->
  codeAny (model prog w) A (.builtin "dict.update.loop" ⟨[.ref D,.ref I,.int i it,.none],[]⟩) R s:=by
 have Ox:D∉wr:=λh=>Ow (W.sub _ h)
 intro k
 induction k with
 |zero=>
  intro i s it ZD hi cL hD Gr hR
  have aY:i=n:=by lia
  subst aY
  refine rP Ov ?_
  rw[uQ BM _]
  show wpAny _ A.in1 (pyNext (.ref I) >>= _) _ _ s
  refine ah (W.done s _ _ cL λh' tk iu=>?_)
  obtain⟨o,es,ep,ho,r⟩:=hD
  show wpAny _ A.in1 (Builtin.Dict.addKeywords D [] >>= _) _ _ _
  exact ah (aL (aL (hR h' tk (λb o hb _ e=>iu b o hb e) ⟨o,es,ep,iu D o Ox ho,r⟩)))
 |succ k ih=>
  intro i s it ZD hi cL hD Gr hR
  have aT:i<n:=by lia
  refine rP Ov ?_
  rw[uQ BM _]
  show wpAny _ A.in1 (pyNext (.ref I) >>= _) _ _ s
  refine ah (W.item i s _ _ aT cL λv h' tk hv qF iu=>?_)
  have vG:h'.DictOf knd D (L i):=by
   obtain⟨o,es,ep,ho,r⟩:=hD
   exact⟨o,es,ep,iu D o Ox ho,r⟩
  rw[hP i v hv]
  obtain⟨oT,cT,oG,tm,ZE⟩:=Gr i aT
  have Oy:=iu _ _ (ht i aT).1 oG
  show wpAny _ A.in1 (holding _ _ >>= _) _ _ _
  refine ah (iL (ah (Ex ?_)))
  unfold Builtin.Dict.pairItems
  refine ah (wpAny_typeOf (s:={ s with heap:=h',toks:=tk }) ⟨_,Oy,tm⟩ ?_)
  rw[az (by decide)]
  unfold seqItems?
  refine ah (ah (wpAny_load (s:={ s with heap:=h',toks:=tk }) Oy ?_))
  rw[ZE]
  refine aL (aL ?_)
  refine iL (wpAny_dictSet_pairs (s:={ s with heap:=h',toks:=tk }) (hk i aT) vG (λh2 hd2 tq=>?_) (hz i (Ax aT)))
  rw[<-hL i aT] at hd2
  refine aL ⟨uR BM _,ih (i+1) _ _ (by lia) aT (W.frame _ _ _ qF λb hb o e=>?_) hd2 (λj hj=>?_) λh3 yH dS ni=>?_⟩
  .exact tq.extBut b o (λz=>Ow (z ▸ hb)) e
  .obtain⟨o,c,h1,h2,h3⟩:=Gr j hj
   exact⟨o,c,tq.extBut _ _ (ht j hj).2 (iu _ _ (ht j hj).1 h1),h2,h3⟩
  .exact hR h3 yH (λb o nj yI e=>dS b o nj yI (tq.extBut b o yI (iu b o nj e))) ni
end
section
variable{prog:Program}{w:World}{A:Around}{E:Value->Shared->Prop}{s:Shared}
def ZF{l:Addr}{xs:Array Value}{k:Nat}(hx:s.heap.get? l=some { cls := .type "list",data := .seq xs k })(hA:A.handled=none)
  (h:∀h' tk,(∀b o,s.heap.get? b=some o->h'.get? b=some o)->h'.get? s.heap.objs.size=some { cls := .type "dict",data := .dict #[] }->wpAny (model prog w) A.in1.in1 (pyIter (.ref l)) (λit s1=>codeAny (model prog w) A.in1 (.builtin "dict.update.loop" ⟨[.ref s.heap.objs.size,it,rawInt 0,.none],[]⟩) (wants (λr s2=>r = .none/\Q (.ref s.heap.objs.size) s2) E) s1) E { s with heap:=h',toks:=tk }) :
  wpAny (model prog w) A (call (.type "dict") [.ref l]) Q E s:=by
 refine callType_codes (Q₁:=λobj s₁=>obj = .ref s.heap.objs.size/\s₁={ s with heap:=s.heap.push { cls := .type "dict",data := .dict #[] } }) F.kt_called_dict (F.kt_typeCall_dict_1 _) F.entry_dict_init (kt_code_dict_new _ ⟨rfl,rfl⟩) λobj s1 hq=>?_
 obtain⟨rfl,rfl⟩:=hq
 have Bj:(s.heap.push { cls := .type "dict",data := .dict #[] }).get? s.heap.objs.size=some { cls := .type "dict",data := .dict #[] }:=cz _ rfl
 have hT:Shared.TypeIs { s with heap:=s.heap.push { cls := .type "dict",data := .dict #[] } } (.ref s.heap.objs.size) "dict":=⟨_,Bj,rfl⟩
 have qG:(s.heap.push { cls := .type "dict",data := .dict #[] }).get? l=some { cls := .type "list",data := .seq xs k }:=bu _ hx
 refine⟨hT,F.args_dict_init_2 _ _,?_⟩
 unfold Builtin.«dict.__init__» Builtin.Dict.selfAndRest
 refine ah (ah (wpAny_notOrdered_dict hT ?_))
 show wpAny _ _ (pure (s.heap.objs.size,[Value.ref l])) _ _ _
 refine aL ?_
 show wpAny _ _ (Builtin.Dict.updateFrom "dict.__init__" s.heap.objs.size (.ref l) [] .none) _ _ _
 unfold Builtin.Dict.updateFrom
 refine ah (wpAny_typeOf (s:={ s with heap:=s.heap.push { cls := .type "dict",data := .dict #[] } }) ⟨_,qG,rfl⟩ ?_)
 rw[az (by decide)]
 refine ah (ZA (s:={ s with heap:=s.heap.push { cls := .type "dict",data := .dict #[] } }) qG hA λh' tk kp=>?_)
 rw[az (show(none:Option Value).isNone=true from rfl)]
 refine ah (uO ?_)
 refine ah (gF (h h' tk (λb o e=>kp b o (bu _ e)) (kp _ _ Bj)) (λit s1 z=>aL ⟨uR BM _,z⟩) λ_ _ z=>z)
end
noncomputable def ju(ps:List (Str×V)):List (Key×V):=ps.foldl (λkvs p=>putK kvs (Sum.inr p.1) p.2) []
def Oz(ps:List (Str×V))(p:Str×V):ju (ps++[p])=putK (ju ps) (Sum.inr p.1) p.2:=by unfold ju;rw[List.foldl_append];rfl
noncomputable def strN(ks:Nat->Key)(vl:Nat->Value):Nat->List (Key×Value)
 |0=>[]
 |i+1=>stored (strN ks vl i) (ks i) (vl i)
theorem ZG(kvs:List (Key×Value))(k:Key)(v:Value):(stored kvs k v).length<=kvs.length+1:=by
 unfold stored
 split
 .rw[aw];lia
 .rw[di];exact aO _
theorem Gs(ks:Nat->Key)(vl:Nat->Value):∀i,(strN ks vl i).length<=i
 |0=>aO _
 |i+1=>bF (ZG _ _ _) (mT (Gs ks vl i))
theorem OA{H:Hp}:∀{ts:List Addr}{ps:List (Str×V)},Paired (λt p=>H t=some (.tup [.str p.1,p.2])) ts ps->∀{i:Nat}{t:Addr},ts[i]? = some t->∃p,ps[i]? = some p/\H t=some (.tup [.str p.1,p.2])
 |_,_,.nil,_,_,h=>by cases h
 |_,_,.cons h1 h2,0,_,h=>⟨_,rfl,by cases h;exact h1⟩
 |_,_,.cons h1 h2,i+1,_,h=>OA h2 (i:=i) (by simpa using h)
theorem ZH(hc:X.calm=true):il X (.type "dict") (λxs H Q=>∃(a:Addr) (ts:List Addr) (ps:List (Str×V)),xs=[.ref a]/\H a=some (.lst (ts.map V.ref))/\Paired (λt p=>H t=some (.tup [.str p.1,p.2])) ts ps/\ps.length<=10000/\
  ∀d,H d=none->Q (.ref d) (upd H d (.dK (ju ps)))):=by
 intro pins s O H xs us Q I r h
 obtain⟨l,ts,ps,rfl,hl,hp,hn,q⟩:=h
 obtain⟨u,rfl,ru⟩:=vals1 r
 cases ru
 obtain⟨z,its,n,rv,hlen,e⟩:=I.qw hl
 have hh:X.A.handled=none:=I.ok.hd hc
 have oH:=gE hp
 rw[aw] at hlen
 have yJ:l<s.heap.objs.size:=bA e
 have ex:∀i:Nat,∃kv:Value×Value,∀(t:Addr) (p:Str×V),ts[i]? = some t->ps[i]? = some p->(dQ X.prog X.w).is (Sum.inr p.1) kv.1=true/\RelV p.2 kv.2/\IsTup s.heap t #[kv.1,kv.2]:=by
  intro i
  by_cases hi:i<ts.length
  .have e1:ts[i]? = some ts[i]:=bf hi
   have e2:ps[i]? = some ps[i]:=bf (by lia)
   obtain⟨p,gk,ht⟩:=OA hp e1
   obtain⟨ZI,Gu,hT,_⟩:=I.tuple (ak.of ht)
   obtain⟨a1,a2,rfl,r1,r2⟩:=vals2 Gu
   obtain⟨tk,rfl⟩:=r1
   refine⟨(.str p.1 tk,a2),λt p' h1 h2=>?_⟩
   rw[e1] at h1
   rw[gk] at h2
   cases h1
   cases h2
   exact⟨ED p.1 tk,r2,hT⟩
  .exact⟨(.none,.none),λt p h1=>by rw[cZ (by lia)] at h1;cases h1⟩
 obtain⟨f,hf⟩:=Classical.axiomOfChoice ex
 refine ZF e hh λh' tk kp iW=>?_
 have e':=kp _ _ e
 have hD:h'.DictOf (dQ X.prog X.w) s.heap.objs.size (strN (λi=>Sum.inr (ps.getD i (⟨#[]⟩,.aB)).1) (λi=>(f i).2) 0):=⟨_,#[],0,iW,⟨rfl,rfl,rfl⟩,rfl,(λe he=>by simp at he),.nil,je⟩
 have yK:h'.IsList l its.toArray:=⟨_,e',rfl,n,rfl⟩
 refine xu (s:={ s with heap:=h',toks:=tk }) yK ?_
 have hsz:s.heap.objs.size<h'.objs.size:=bA iW
 have aT:l<h'.objs.size:=Nat.lt_trans yJ hsz
 have gt:∀i,i<its.toArray.size->∃(t:Addr) (p:Str×V),ts[i]? = some t/\ps[i]? = some p/\its[i]? = some (.ref t):=λi hi=>by
  rw[br] at hi
  have e1:ts[i]? = some ts[i]:=bf (by lia)
  have e2:ps[i]? = some ps[i]:=bf (by lia)
  obtain⟨u,hu,ru⟩:=rv.get (i:=i) (x:=V.ref ts[i]) (by rw[bw,e1];rfl)
  cases ru
  exact⟨_,_,e1,e2,hu⟩
 refine ZC (knd:=dQ X.prog X.w) (Walks.list (A:=X.A.in1.in1) hh _ l (bR aT) its.toArray) s.heap.objs.size ?_ (λi=>Sum.inr (ps.getD i (⟨#[]⟩,.aB)).1) (λi=>(f i).1) (λi=>(f i).2) (λi=>ts.getD i 0) (λi v hP=>?_) (λi hi=>?_) (λi hi=>?_)
  (strN (λi=>Sum.inr (ps.getD i (⟨#[]⟩,.aB)).1) (λi=>(f i).2)) (λi _=>rfl) (λi hi=>?_) its.toArray.size 0 _ _ (by lia) (bG _) ⟨⟨_,cz _ rfl,rfl,rfl⟩,yK.push _⟩ (hD.push _) (λi hi=>?_) λh3 yH k3 d3=>⟨rfl,?_⟩
 .intro m
  have m:s.heap.objs.size=h'.objs.size\/s.heap.objs.size=l:=by simpa using m
  rcases m with m | m
  .exact bR hsz m
  .exact xt yJ m
 .have hP:its[i]? = some v:=by simpa using hP
  have hi:i<its.toArray.size:=by rw[br];exact(bY.mp hP).1
  obtain⟨t,p,e1,_,e3⟩:=gt i hi
  rw[hP] at e3
  cases e3
  show _=Value.ref (ts.getD i 0)
  rw[bQ,e1]
  rfl
 .obtain⟨t,p,e1,e2,_⟩:=gt i hi
  have:=(hf i t p e1 e2).1
  show(dQ X.prog X.w).is (Sum.inr (ps.getD i (⟨#[]⟩,.aB)).1) (f i).1=true
  rw[bQ,e2]
  exact this
 .obtain⟨t,p,e1,e2,_⟩:=gt i hi
  obtain⟨o,ho,_⟩:=(hf i t p e1 e2).2.2
  have lY:=bA ho
  show ts.getD i 0∉[h'.objs.size]/\ts.getD i 0≠s.heap.objs.size
  rw[bQ,e1]
  refine⟨λm=>?_,bR lY⟩
  exact bR (Nat.lt_trans lY hsz) (cn.mp m)
 .have:=Gs (λi=>Sum.inr (ps.getD i (⟨#[]⟩,.aB)).1) (λi=>(f i).2) i
  rw[br] at hi
  have OB:(10000:Nat)<=sizeLine:=by decide
  lia
 .obtain⟨t,p,e1,e2,_⟩:=gt i hi
  obtain⟨o,ho,sk,c,hd2⟩:=(hf i t p e1 e2).2.2
  refine⟨o,c,?_,sk,hd2⟩
  show(h'.push _).get? (ts.getD i 0)=_
  rw[bQ,e1]
  exact bu _ (kp _ _ ho)
 .have kv:∀i,i<=ps.length->KV (ju (ps.take i)) (strN (λi=>Sum.inr (ps.getD i (⟨#[]⟩,.aB)).1) (λi=>(f i).2) i):=by
   intro i
   induction i with
   |zero=>intro _;rw[nX];exact .nil
   |succ i ih=>
    intro hi
    have e2:ps[i]? = some ps[i]:=bf hi
    obtain⟨t,p,e1,e3,_⟩:=gt i (by rw[br];lia)
    rw[e2] at e3
    cases e3
    rw[eJ,e2]
    show KV (ju (ps.take i++[ps[i]])) (stored _ _ _)
    have eg:(ps.getD i (⟨#[]⟩,.aB))=ps[i]:=by rw[bQ,e2];rfl
    dsimp only
    rw[Oz,eg]
    exact(ih (by lia)).put _ (hf i t _ e1 e2).2.1
  have Gv:=kv ps.length (aO _)
  rw[fg (aO _)] at Gv
  have en:its.toArray.size=ps.length:=by rw[br];lia
  rw[en] at d3
  have vH:(ju ps).length<=sizeLine:=by
   rw[Gv.length]
   exact bF (Gs _ _ _) (bF hn (by decide))
  have fr:=I.fresh
  refine⟨.ref s.heap.objs.size,_,I.laid (a:=s.heap.objs.size) (o := .dK (ju ps)) (t':=yH) (λb o hb=>?_) (aO _) (M3 vH (uy.mpr (bo (bR I.big))) Gv d3),rfl,q _ fr⟩
  have jZ:=bA hb
  refine k3 b o (λm=>?_) (bR jZ) (bu _ (kp _ _ hb))
  exact bR (Nat.lt_trans jZ hsz) (cn.mp m)
def ZJ:bootBuiltins "dict"=some (.type "dict"):=by decide +kernel
section
variable{prog:Program}{w:World}{KK:Type}[DecidableEq KK]{knd:HeapKind prog w KK}{A:Around}{E:Value->Shared->Prop}{s:Shared}
theorem ZL{d:Addr}{xs:List (KK×Addr×Value)}{k:KK}{v:Value}(hu:knd.room A)(x5:knd.is s.heap k a)(hm:s.heap.DictOfH knd d xs)(hz:xs.length<=sizeLine)
  (old:∀p,atKey xs k=some p->Q p.2 { s with toks:=s.toks+knd.draws k })
  (new:atKey xs k=none->∀h',h'.DictOfH knd d (storedH xs k a v)->Heap.SameBut d s.heap h'->Q v { s with heap:=h',toks:=s.toks+knd.draws k }):wpAny (model prog w) A (dictSetDefault d (.ref a) v) Q E s:=by
 obtain⟨o,es,ep,ho,hc,hd,he,OC,hn⟩:=hm
 unfold dictSetDefault
 refine iL (ah (knd.pyHash hu x5 (ah (wpAny_dictFind_heap (s:={ s with toks:=s.toks+knd.draws k }) hu x5 ho hd he OC hn (λmj=>?_) λj p hj=>?_))))
 .have e0:=atKey_none_of_get mj
  have ZM:k∉xs.map (·.1):=not_mem_keys_of_get mj
  have ez:=size_of_entries he
  have nw:=new e0
  rw[storedH_new e0] at nw
  refine ah (uO (ah (wpAny_updateDictKeys (hz:=by lia) (s:={ s with toks:=s.toks+knd.draws k }) ho hd (aL (nw _ ⟨_,_,ep+1,pW _ ho (Obj.isFreed_of_dict (Obj.data_mapDictKeys hd _)),hc.mapDictKeys _,Obj.data_mapDictKeys hd _,?_,λx hx=>?_,?_⟩ (AM ..))))))
  .simp[he,entryOfKey]
  .rcases cS.mp hx with hx | hx
   .exact knd.keeps (OC x hx) ho hd (AM ..)
   .rw[cn.mp hx]
    exact knd.keeps x5 ho hd (AM ..)
  .rw[eW,qe]
   exact⟨hn,by simp,λx hx y hy z=>ZM (by rw[<-show y=k by simpa using hy,<-z];exact hx)⟩
 .refine ah (wpAny_dictEntries (s:={ s with toks:=s.toks+knd.draws k }) ho hd ?_)
  rw[entry_at he j,hj]
  exact ah (uO (aL (old p (atKey_of_get hn hj))))
end
section
variable{X:Cx}{pins:List (Addr×Obj)}{O:St}{H:Hp}{s:Shared}{a b:Addr}{A:Around}{E:Value->Shared->Prop}{kvs:List (List Key×V)}{k:List Key}{z:V}{r:Value}
theorem ZN(hu:A.units+1<cLine)(I:Inv X pins O H s)(e:H a=some (.dT kvs))(eb:H b=some (.tup (k.map kV)))(hl:kvs.length<sizeLine)(rz:RelV z r)
  (old:∀v,aU kvs k=some v->∀u s',Inv X pins O H s'->RelV v u->Q u s') (new:aU kvs k=none->∀s',Inv X pins O (upd H a (.dT (putK kvs k z))) s'->Q r s') :
  wpAny (model X.prog X.w) A (call (.builtin "dict.setdefault") [.ref a,.ref b,r]) Q E s:=by
 obtain⟨hz,hd,xs,rel,dd⟩:=M1 I.aA e
 refine rK PySem.F.slot_dict_setdefault dd.typeIs PySem.F.entry_dict_setdefault ?_ (PySem.F.args_dict_setdefault_3 _ _ _)
 unfold Builtin.«dict.setdefault» Builtin.Dict.keyAndDefault
 refine ah (ah (wpAny_notOrdered_dict dd.typeIs ?_))
 show wpAny _ A.in1 (pure (a,Value.ref b,some r)) _ _ s
 refine aL ?_
 show wpAny _ A.in1 (if (a==sysModules)=true then _ else (dictSetDefault a (.ref b) r >>= λv=>ret v)) _ _ s
 rw[av (show ¬(a==sysModules)=true by rw[hd];decide)]
 refine ah (ZL (AD hu) (sF I.aA eb) dd (by rw[<-gE rel];exact hz) (λp hp=>?_) λhp h' sH hs=>?_)
 .obtain⟨v,hv,rv⟩:∃v,aU kvs k=some v/\RelV v p.2:=by
   have:=rel.val k
   rw[hp] at this
   cases hv:aU kvs k with
   |none=>rw[hv] at this;exact this.elim
   |some v=>rw[hv] at this;exact⟨v,rfl,this⟩
  exact aL ⟨_,rfl,old v hv _ _ (I.tok _) rv⟩
 .have hv:aU kvs k=none:=by
   have:=rel.val k
   rw[hp] at this
   cases hv:aU kvs k with
   |none=>rfl
   |some v=>rw[hv] at this;exact this.elim
  have kZ:(putK kvs k z).length<=sizeLine:=by have:=vm kvs k z;lia
  refine aL ⟨_,rfl,new hv _ ?_⟩
  obtain⟨q,es,ep,hq,h2,h3,h4,_,h5⟩:=sH
  refine Fj I (by rw[e];exact True.intro) hs ⟨q,hq⟩ ⟨kZ,hd,_,(rel.put k eb rz).keeps λc ys ec=>?_,q,es,ep,hq,h2,h3,h4,h5⟩
  rw[ar (bT ec e (λz=>nomatch z))]
  exact ec
end
section
variable{X:Cx}{o e f:Expr}{td ty tx:TE}{apos dM:Pos}
def ZO(td ty tx:TE):TE:=λO H Q=>td O H λx H1=>∃a,x = .ref a/\Fq H1 a/\ty O H1 λy H2=>tx O H2 λz H3=>∃kvs k b,H3 a=some (.dT kvs)/\y = .ref b/\H3 b=some (.tup (k.map kV))/\kvs.length<sizeLine/\
 (∀v,aU kvs k=some v->Q v H3)/\(aU kvs k=none->Q z (upd H3 a (.dT (putK kvs k z))))
def ZP(hu:X.A.units+1<cLine)(ho:PE X o td)(he:PE X e ty)(hf:PE X f tx)(m:M2 X o "setdefault" apos e f dM):PE X (.Call (.Attribute o "setdefault" apos) [e,f] [] dM) (ZO td ty tx):=by
 intro pins s O H Q I h
 refine wpAny_Call_method m.base m.eM m.line PySem.F.plainAttrs_dict PySem.F.slot_dict_setdefault PySem.F.type_dict_setdefault (aC (ho pins s O H _ I h) λu s1 h_=>?_)
 obtain⟨x,H1,I1,rx,a,ex,d,q1⟩:=h_
 subst ex
 obtain rfl:u=Value.ref a:=rx
 obtain⟨t1,t2,_⟩:=M8 I1 d
 refine⟨t1,t2,?_⟩
 rw[m.trees]
 refine Uz rfl (UA (Eh (aC (he pins s1 O H1 _ I1 q1) λiv s2 ⟨y,H2,I2,ry,q2⟩=>Eh (aC (hf pins s2 O H2 _ I2 q2) λfv s3 ⟨z,H3,I3,rz,kvs,k,b,ea,ey,eb,hl,q3,q4⟩=>Calls.spliced_nil ?_))))
 subst ey
 obtain rfl:iv=Value.ref b:=ry
 exact ZN hu I3 ea eb hl rz (λv hv u s4 I4 ru=>⟨v,H3,I4,ru,q3 v hv⟩) λhv s4 I4=>⟨z,_,I4,rz,q4 hv⟩
end
section
variable{prog:Program}{w:World}{A:Around}{R:Result->Shared->Prop}{I:Addr}{fp wr:List Addr}{n:Nat}{P:Nat->Value->Prop}{St:Nat->Heap->Prop}
def nr(h:Heap)(t:Addr)(a b:Int):Prop := ∃u v:Tok,IsTup h t #[.int a u,.int b v]
def nr.ext{t:Addr}{a:Int}(x:nr h t a b)(k:∀o,h.get? t=some o->h'.get? t=some o):nr h' t a b:=let ⟨u,v,o,ho,r⟩:=x;⟨u,v,o,k o ho,r⟩
def ZQ{t t':Addr}{a a' b':Int}(x:nr s.heap t a b)(y:nr s.heap t' a' b')(hu:A.units<cLine)(h:Q (.bool (HT.lexLt [a,b] [a',b'])) s) :
  wpAny (model prog w) A (richCompare .Lt (.ref t) (.ref t')) Q E s:=by
 obtain⟨u,v,p⟩:=x
 obtain⟨u',v',p'⟩:=y
 exact HT.Wq p p' (.cons a u (.cons b v .nil)) (.cons a' u' (.cons b' v' .nil)) hu h
theorem OD{a a' b':Int}:(HT.lexLt [a,b] [a',b']=true->a<=a')/\(HT.lexLt [a,b] [a',b']=false->a'<=a):=by
 rw[HT.ML]
 by_cases e:a=a'
 .exact⟨λ_=>by lia,λ_=>by lia⟩
 .rw[av e]
  exact⟨λh=>by have:=fG h;lia,λh=>by have:=of_decide_eq_false h;lia⟩
theorem ZR(W:Walks prog w A.in1 I fp wr n P St)(bs:Addr)(vI:bs∉fp)(hu:A.in1.units<cLine)(tt:Nat->Addr)(fa fb:Nat->Int)(hP:∀i v,P i v->v = .ref (tt i))(ht:∀i,i<n->tt i∉wr/\tt i≠bs) :
  ∀(k j:Nat) (s:Shared) (b c:Nat),n - (j+1)=k->j+1<=n->St (j+1) s.heap->b<=j->(∀i,i<=j->fa b<=fa i)->s.heap.get? bs=some { cls := .type "list",data := .seq #[.ref (tt b),.ref (tt b)] c }->(∀i,i<n->nr s.heap (tt i) (fa i) (fb i))->
  (∀b h' tk,b<n->(∀i,i<n->fa b<=fa i)->(∀x o,x∉wr->x≠bs->s.heap.get? x=some o->h'.get? x=some o)->R (.ok (.ret (.ref (tt b)))) { s with heap:=h',toks:=tk })->
  codeAny (model prog w) A (.builtin "min.loop" ⟨[.ref I,.none,.ref bs],[]⟩) R s:=by
 have nj:bs∉wr:=λh=>vI (W.sub _ h)
 have vJ:(toString "min"++toString ".loop":String)="min.loop":=by decide
 intro k
 induction k with
 |zero=>
  intro j s b c hk hj cL hb nt hS hT hR
  have aY:j+1=n:=by lia
  refine rP F.entry_min_loop ?_
  rw[uQ xC _]
  show wpAny _ A.in1 (seqItems? (.ref bs) >>= _) _ _ s
  refine ah (nW hS rfl ?_)
  show wpAny _ A.in1 (tryCatch (pyNext (.ref I)) _ >>= _) _ _ s;refine ah (Ex (W.done s _ _ (by rw[<-aY];exact cL) λh' tk kp=>?_))
  have nv:=kp bs _ nj hS
  show wpAny _ A.in1 (updateSeq bs (λ_=>#[]) >>= _) _ _ _
  refine ah (wpAny_updateSeq nv rfl (ah (xy (aL (hR b _ tk (by lia) (λi hi=>nt i (by lia)) λx o h1 h2 e=>(iM _ _ (bo h2)).trans (kp x o h1 e))))))
 |succ k ih=>
  intro j s b c hk hj cL hb nt hS hT hR
  have aT:j+1<n:=by lia
  refine rP F.entry_min_loop ?_
  rw[uQ xC _]
  show wpAny _ A.in1 (seqItems? (.ref bs) >>= _) _ _ s
  refine ah (nW hS rfl ?_)
  show wpAny _ A.in1 (tryCatch (pyNext (.ref I)) _ >>= _) _ _ s;refine ah (Ex (W.item (j+1) s _ _ aT cL λv h' tk hv qF kp=>?_))
  have nv:=kp bs _ nj hS
  have BN:∀i,i<n->nr h' (tt i) (fa i) (fb i):=λi hi=>(hT i hi).ext λo e=>kp _ o (ht i hi).1 e
  rw[hP _ v hv]
  show wpAny _ A.in1 (tryCatch (holding _ (richCompare .Lt (.ref (tt (j+1))) (.ref (tt b)) >>= _)) _ >>= _) _ _ _
  refine ah (Ex (iL (ah (ZQ (s:={ s with heap:=h',toks:=tk }) (BN _ aT) (BN b (by lia)) hu ?_))))
  refine ah (iL (pV (ah (xy (aL ?_)))))
  cases hc:HT.lexLt [fa (j+1),fb (j+1)] [fa b,fb b] with
  |true=>
   have h1:=OD.1 hc
   simp only[jO]
   refine ah (wpAny_updateSeq nv rfl (ah (xy ?_)))
   rw[vJ]
   refine aL ⟨uR xC _,ih (j+1) _ (j+1) _ (by lia) aT (W.frame _ _ _ qF λx hx o e=>?_) (aO _) (λi hi=>?_) (pW _ nv rfl) (λi hi=>(BN i hi).ext λo e=>(iM _ _ (bo (ht i hi).2)).trans e) λb' h2 kj q1 q2 q3=>hR b' h2 kj q1 q2 λx o h1 h2 e=>q3 x o h1 h2 ((iM _ _ (bo h2)).trans (kp x o h1 e))⟩
   .exact(iM _ _ (λz:bs=x=>vI (by rw[z];exact hx))).trans e
   .rcases Ey j i with z | z
    .rw[show i=j+1 by lia];exact Int.le_refl _
    .have:=nt i z;lia
  |false=>
   have h1:=OD.2 hc
   simp only[uH,pX]
   refine ah (xy ?_)
   rw[vJ]
   refine aL ⟨uR xC _,ih (j+1) _ b c (by lia) aT qF (by lia) (λi hi=>?_) nv BN λb' h2 kj q1 q2 q3=>hR b' h2 kj q1 q2 λx o h1 h2 e=>q3 x o h1 h2 (kp x o h1 e)⟩
   rcases Ey j i with z | z
   .rw[show i=j+1 by lia];exact h1
   .exact nt i z
theorem ZS(W:Walks prog w A.in1 I fp wr n P St)(bs:Addr)(vI:bs∉fp)(hu:A.in1.units<cLine)(tt:Nat->Addr)(fa fb:Nat->Int)(hP:∀i v,P i v->v = .ref (tt i))(ht:∀i,i<n->tt i∉wr/\tt i≠bs)(hn:0<n)(cL:St 0 s.heap)
  (hS:s.heap.get? bs=some { cls := .type "list",data := .seq #[] c }) (hT:∀i,i<n->nr s.heap (tt i) (fa i) (fb i))
  (hR:∀b h' tk,b<n->(∀i,i<n->fa b<=fa i)->(∀x o,x∉wr->x≠bs->s.heap.get? x=some o->h'.get? x=some o)->R (.ok (.ret (.ref (tt b)))) { s with heap:=h',toks:=tk }) :
  codeAny (model prog w) A (.builtin "min.loop" ⟨[.ref I,.none,.ref bs],[]⟩) R s:=by
 have nj:bs∉wr:=λh=>vI (W.sub _ h)
 have vJ:(toString "min"++toString ".loop":String)="min.loop":=by decide
 refine rP F.entry_min_loop ?_
 rw[uQ xC _]
 show wpAny _ A.in1 (seqItems? (.ref bs) >>= _) _ _ s
 refine ah (nW hS rfl ?_)
 show wpAny _ A.in1 (tryCatch (pyNext (.ref I)) _ >>= _) _ _ s;refine ah (Ex (W.item 0 s _ _ hn cL λv h' tk hv qF kp=>?_))
 have nv:=kp bs _ nj hS
 rw[hP _ v hv]
 show wpAny _ A.in1 (updateSeq bs (λ_=>#[.ref (tt 0),.ref (tt 0)]) >>= _) _ _ _
 refine ah (wpAny_updateSeq nv rfl ?_)
 rw[vJ]
 refine aL ⟨uR xC _,ZR W bs vI hu tt fa fb hP ht _ 0 _ 0 _ rfl hn (W.frame _ _ _ qF λx hx o e=>?_) (aO _) (λi hi=>?_) (pW _ nv rfl) (λi hi=>((hT i hi).ext λo e=>kp _ o (ht i hi).1 e).ext λo e=>(iM _ _ (bo (ht i hi).2)).trans e)
  λb' h2 kj q1 q2 q3=>hR b' h2 kj q1 q2 λx o h1 h2 e=>q3 x o h1 h2 ((iM _ _ (bo h2)).trans (kp x o h1 e))⟩
 .exact(iM _ _ (λz:bs=x=>vI (by rw[z];exact hx))).trans e
 .rw[show i=0 by lia];exact Int.le_refl _
end
section
variable{X:Cx}
theorem ZT(hc:X.calm=true)(hu:X.A.units+4<cLine):il X (.builtin "min") (λxs H Q=>∃(a:Addr) (ts:List Addr) (ps:List (Int×Int)),xs=[.ref a]/\H a=some (.lst (ts.map V.ref))/\Paired (λt p=>H t=some (.tup [.int p.1,.int p.2])) ts ps/\0<ps.length/\
  ∀(b:Nat) (t:Addr) (p:Int×Int),ts[b]? = some t->ps[b]? = some p->(∀q∈ps,p.1<=q.1)->Q (.ref t) H):=by
 intro pins s O H xs us Q I r h
 obtain⟨l,ts,ps,rfl,hl,hp,hn,q⟩:=h
 obtain⟨u,rfl,ru⟩:=vals1 r
 cases ru
 obtain⟨z,its,n,rv,hlen,e⟩:=I.qw hl
 have hh:X.A.handled=none:=I.ok.hd hc
 have oH:=gE hp
 rw[aw] at hlen
 have yJ:l<s.heap.objs.size:=bA e
 have yK:s.heap.IsList l its.toArray:=⟨_,e,rfl,n,rfl⟩
 have gt:∀i,i<ts.length->∃(t:Addr) (p:Int×Int),ts[i]? = some t/\ps[i]? = some p/\its[i]? = some (.ref t)/\nr s.heap t p.1 p.2:=λi hi=>by
  have e1:ts[i]? = some ts[i]:=bf hi
  obtain⟨p,gk,ht⟩:=Paired.getL hp e1
  obtain⟨u,hu,ru⟩:=rv.get (i:=i) (x:=V.ref ts[i]) (by rw[bw,e1];rfl)
  cases ru
  obtain⟨ZI,Gu,hT,_⟩:=I.tuple (ak.of ht)
  obtain⟨a1,a2,rfl,r1,r2⟩:=vals2 Gu
  obtain⟨t1,rfl⟩:=r1
  obtain⟨t2,rfl⟩:=r2
  exact⟨_,p,e1,gk,hu,t1,t2,hT⟩
 refine call_function_tree F.kind_min F.plain_min F.entry_min (F.args_min1 _) ?_
 show wpAny _ X.A.in1 (Builtin.Builtins.bindParams "min" ["key","default"] 0 ⟨[],[]⟩ >>= _) _ _ s
 refine ah (qd (a:=[none,none]) rfl (ah (aL (ah (xu yK ?_)))))
 refine ah (uJ ?_)
 have vJ:(toString "min"++toString ".loop":String)="min.loop":=by decide
 rw[vJ]
 have z1:(s.heap.push { cls := .type "list_iterator",data := .fields #[.ref l,.int 0 0] }).objs.size=s.heap.objs.size+1:=rN _ _
 refine aL ⟨uR xC _,ZS (Walks.list (A:=X.A.in1) hh s.heap.objs.size l (bR yJ) its.toArray) _ ?_ (by show X.A.units+1<cLine;lia) (λi=>ts.getD i 0) (λi=>(ps.getD i (0,0)).1) (λi=>(ps.getD i (0,0)).2) (λi v hP=>?_) (λi hi=>?_) (by rw[br];lia)
  ⟨⟨_,bu _ (cz _ rfl),rfl,rfl⟩,(yK.push _).push _⟩ (cz _ rfl) (λi hi=>?_) λb h' tk hb hm kp=>?_⟩
 .intro m
  have m:(s.heap.push { cls := .type "list_iterator",data := .fields #[.ref l,.int 0 0] }).objs.size=s.heap.objs.size\/(s.heap.push { cls := .type "list_iterator",data := .fields #[.ref l,.int 0 0] }).objs.size=l:=by simpa using m
  rw[z1] at m
  rcases m with m | m
  .exact xt (rG _) m
  .exact xt (nU yJ) m
 .have hP:its[i]? = some v:=by simpa using hP
  obtain⟨t,p,e1,_,e3,_⟩:=gt i (by have:=(bY.mp hP).1;lia)
  rw[hP] at e3
  cases e3
  show _=Value.ref (ts.getD i 0)
  rw[bQ,e1]
  rfl
 .obtain⟨t,p,e1,e2,_,x,y,o,ho,_⟩:=gt i (by rw[br] at hi;lia)
  have lY:=bA ho
  show ts.getD i 0∉[s.heap.objs.size]/\ts.getD i 0≠(s.heap.push _).objs.size
  rw[bQ,e1,z1]
  exact⟨λm=>bR lY (cn.mp m),bR (nU lY)⟩
 .obtain⟨t,p,e1,e2,_,hT⟩:=gt i (by rw[br] at hi;lia)
  show nr _ (ts.getD i 0) (ps.getD i (0,0)).1 (ps.getD i (0,0)).2
  rw[bQ,bQ,e1,e2]
  exact hT.ext λo e=>bu _ (bu _ e)
 .obtain⟨t,p,e1,e2,_⟩:=gt b (by rw[br] at hb;lia)
  have et:ts.getD b 0=t:=by rw[bQ,e1];rfl
  have ep:ps.getD b (0,0)=p:=by rw[bQ,e2];rfl
  show EP X pins O Q (.ref (ts.getD b 0)) _
  rw[et]
  refine⟨.ref t,H,I.kept (t':=tk) (λx o hx=>?_),rfl,q b t p e1 e2 λp' fR=>?_⟩
  .have hlx:=bA hx
   exact kp x o (λm=>bR hlx (cn.mp m)) (by show x≠(s.heap.push _).objs.size;rw[z1];exact bR (nU hlx)) (bu _ (bu _ hx))
  .obtain⟨i,hi⟩:=fJ fR
   have OE:=(bY.mp hi).1
   have:=hm i (by rw[br];lia)
   rw[ep,bQ,hi] at this
   exact this
end
structure BO(K:Frag)(mg:Str->Option Value)(x:Str)(C:Addr):Prop where
 OF:makesIn K C=true
 it:findIn K (.ref C) "__init__"=some (some (.builtin "object.__init__"))
 kp:keepIn K (.ref C)=true
 gl:mg x=some (.ref C)
def ZU(C:Addr):TE:=λ_ H Q=>∀x dx,H x=none->H dx=none->dx≠x->Q (.ref x) (upd (upd H dx (.own x)) x (.ins C dx []))
def ZV(N:BO X.K X.mg x C)(hg:Gl X x)(dR:(x==("__debug__":Str))=false:=by decide):PE X (.Call (.Name x p) [] [] pos) (ZU C):=by
 intro pins s O H Q I h
 refine rH (qj I hg N.gl ?_ dR)
 refine PySem.W.callWith_K0 I.cG N.kp (nT (VW I.cG N.OF N.it (λself=>Looks.of_pure (PySem.W.oi_bind self)) ?_))
 have I2:=Inv.made (C:=C) I
 have q:=h (s.heap.objs.size+1) s.heap.objs.size (I.aA.fresh (gw _)) (I.aA.fresh (aO _)) (bR (rG _))
 have Y:=PySem.W.makes_of (M:=model X.prog X.w) I.cG N.OF
 have e2:((s.heap.push emptyDict).push (instObj C s.heap.objs.size)).get? (s.heap.objs.size+1)=some (instObj C s.heap.objs.size):=by
  have:((s.heap.push emptyDict).push (instObj C s.heap.objs.size)).get? (s.heap.push emptyDict).objs.size=some (instObj C s.heap.objs.size):=cz _ rfl
  rwa [lI] at this
 have lt:Looks (model X.prog X.w) ((s.heap.push emptyDict).push (instObj C s.heap.objs.size)) (typeOf (.ref (s.heap.objs.size+1))) (.ref C):=(Looks.ld e2).andThen .now
 have lk:Looks (model X.prog X.w) ((s.heap.push emptyDict).push (instObj C s.heap.objs.size)) (isInstance (.ref (s.heap.objs.size+1)) (.type "object")) true:=lt.andThen (Y.top.keeps λb o e=>bu _ (bu _ e))
 refine LO PySem.W.oi_plain PySem.W.entry_oi (@PySem.W.check_slot (model X.prog X.w) _ _ _ "object.__init__" "object" "__init__" (.ref (s.heap.objs.size+1)) [] [] _ PySem.W.oi_kind PySem.W.oi_split lk (PySem.W.oi_args _) ?_)
 rw[PySem.W.oi_run]
 exact aL ⟨rfl,.ref (s.heap.objs.size+1),_,I2,rfl,q⟩
def Gw:plainId "set.update.loop"=true:=by decide +kernel
def OG:entryFor table "set.update.loop"=some Builtin.«set.update.loop»:=entryFor_of_fast (by kernel_rfl)
section
variable{prog:Program}{w:World}{A:Around}{R:Result->Shared->Prop}{I:Addr}{fp wr:List Addr}{n:Nat}{P:Nat->Value->Prop}{St:Nat->Heap->Prop}{KK:Type}[DecidableEq KK]{knd:KeyKind prog w KK}
theorem ZW(W:Walks prog w A.in1 I fp wr n P St)(S:Addr)(OH:S∉fp)(ks:Nat->KK)(hP:∀i v,P i v->knd.is (ks i) v=true/\v.scannable=true)(hn:n+1<scanBound)
  (J:Nat->(KK->Bool)->Nat->Prop) (hJ:∀i T c,i<n->J i T c->J (i+1) (λk'=>T k'||decide (k'=ks i)) (if T (ks i)=true then c else c+1)) (hc:∀i T c,J i T c->c<=i) :
  ∀(k i:Nat) (s:Shared) (T:KK->Bool) (c:Nat),n - i=k->i<=n->St i s.heap->J i T c->s.heap.SetOf knd S T c->
  (∀h' tk T' c',(∀b o,b∉wr->b≠S->s.heap.get? b=some o->h'.get? b=some o)->J n T' c'->h'.SetOf knd S T' c'->R (.ok (.ret .none)) { s with heap:=h',toks:=tk })->
  codeAny (model prog w) A (.builtin "set.update.loop" ⟨[.ref S,.ref I],[]⟩) R s:=by
 have OI:S∉wr:=λh=>OH (W.sub _ h)
 intro k
 induction k with
 |zero=>
  intro i s T c hk hi cL hj hS hR
  have aY:i=n:=by lia
  subst aY
  refine rP OG ?_
  rw[uQ Gw _]
  show wpAny _ A.in1 (pyNext (.ref I) >>= _) _ _ s
  refine ah (W.done s _ _ cL λh' tk iu=>?_)
  obtain⟨o,es,ep,t,ho,r⟩:=hS
  exact aL (hR h' tk T c (λb o hb _ e=>iu b o hb e) hj ⟨o,es,ep,t,iu S o OI ho,r⟩)
 |succ k ih=>
  intro i s T c hk hi cL hj hS hR
  have aT:i<n:=by lia
  refine rP OG ?_
  rw[uQ Gw _]
  show wpAny _ A.in1 (pyNext (.ref I) >>= _) _ _ s
  refine ah (W.item i s _ _ aT cL λv h' tk hv qF iu=>?_)
  have nv:h'.SetOf knd S T c:=by
   obtain⟨o,es,ep,t,ho,r⟩:=hS
   exact⟨o,es,ep,t,iu S o OI ho,r⟩
  have hci:=hc i T c hj
  show wpAny _ A.in1 (holding [v] (setAdd S v) >>= _) _ _ _
  refine ah (iL ?_)
  unfold setAdd
  refine iL ?_
  refine ah ((knd.pyHash (hP i v hv).1) ?_)
  refine wpAny_setAddHashed_of (hP i v hv).1 (hP i v hv).2 nv (by lia) λh'' tq ZX=>?_
  refine aL ⟨uR Gw _,ih (i+1) _ _ _ (by lia) aT (W.frame _ _ _ qF λb hb o e=>?_) (hJ i T c aT hj) ZX λh3 yH T' c' dS ZY BP=>?_⟩
  .exact tq.extBut b o (λz=>OH (z ▸ hb)) e
  .exact hR h3 yH T' c' (λb o nj yI e=>dS b o nj yI (tq.extBut b o yI (iu b o nj e))) ZY BP
end
section
variable{prog:Program}{w:World}{A:Around}{E:Value->Shared->Prop}{s:Shared}
noncomputable def ml(b:Bool):Obj:={ cls := .type "set",dict:=none,data := .set #[] 0 (.fresh 0 0 b) }
def ZZ(x:Value):checkBuiltinCall "set.__new__" ⟨[.type "set",x],[]⟩=pure ():=by kernel_rfl
def Z1(x:Value):checkTypeCall "set" ⟨[x],[]⟩=pure ():=by kernel_rfl
def Z3{x:Value}{Z:Value->Shared->Prop}(hq:∀b:Bool,Z (.ref s.heap.objs.size) { s with heap:=s.heap.push (ml b) }) :
  codeAny (model prog w) A (.call (.builtin "set.__new__") ⟨[.type "set",x],[]⟩) (wants Z E) s:=by
 refine codeAny_of_tree ?_
 refine ah (m:=checkBuiltinCall "set.__new__" ⟨[.type "set",x],[]⟩) (qd (ZZ x) (aL ⟨uR F.plain_set_new _,rP F.entry_set_new ?_⟩))
 rw[uQ F.plain_set_new _]
 unfold Builtin.«set.__new__» Builtin.Frozenset.newClass
 have hb:=sub_set_self
 cases s
 dsimp only
 wp_walk
 refine wpAny_askSetting (aL ?_)
 dsimp only
 simp only[newObj]
 exact ah (wpAny_alloc (aL (aL (hq _))))
def Z4{o x:Value}(hT:s.TypeIs o "set")(hZ:Z () s):wpAny M A (checkBuiltinCall "set.__init__" ⟨[o,x],[]⟩) Z E s:=by
 simp only[checkBuiltinCall,kind_set_init,split_set_init,sig_set_init]
 refine ah (LH hT sub_set_self ?_)
 simp only[Bool.not_true,uH,pX]
 unfold Bind.checkArgs
 dsimp only
 refine ah (m:=Bind.printed "set" true _ _) (printed_name (by decide) ?_)
 refine ah (m:=Bind.printed "*" false _ _) (printed_star (self:=o) rfl hT λsh=>?_)
 have e1:(if (Manifest.Receiver.self==Manifest.Receiver.none)=true then [o,x].length else [o,x].length - 1)=1:=by simp[show(Manifest.Receiver.self==Manifest.Receiver.none)=false from by decide]
 rw[e1]
 simp only[uF]
 have e2:Bind.check ⟨.positional,"set","*",.self,[⟨"iterable",.posOnly,false⟩]⟩ "set" sh 1 []=pure ():=by
  simp[Bind.check,Bind.checkCount,Bind.isPositional]
  intro z
  exact absurd z (by decide)
 rw[e2]
 exact aL hZ
def OJ:isSubtype (.type "list") (.type "set")=pure false:=by rw[AK];kernel_rfl
def OK:isSubtype (.type "list") (.type "frozenset")=pure false:=by rw[AK];kernel_rfl
def Z5{S p:Addr}(hL:s.TypeIs (.ref p) "list")
  (h:wpAny (model prog w) A (pyIter (.ref p)) (λit s1=>wpAny (model prog w) A (runValue (.builtin "set.update.loop" ⟨[.ref S,it],[]⟩)) (λ_ s2=>Z () s2) E s1) E s) :
  wpAny (model prog w) A (Builtin.Frozenset.updateFrom "set.__init__" S (.ref p)) Z E s:=by
 unfold Builtin.Frozenset.updateFrom Builtin.Frozenset.isAnySet
 generalize pyIter (.ref p)=it at h ⊢
 have s1:=OJ
 have s2:=OK
 wp_walk
 exact aC h λa s' hq=>ah (aC hq λ_ _ z=>aL z)
def Z6{p:Addr}(hL:s.TypeIs (.ref p) "list")
  (h:∀b:Bool,wpAny (model prog w) A.in1.in1 (pyIter (.ref p)) (λit s1=>wpAny (model prog w) A.in1.in1 (runValue (.builtin "set.update.loop" ⟨[.ref s.heap.objs.size,it],[]⟩)) (λ_ s2=>Q (.ref s.heap.objs.size) s2) E s1) E { s with heap:=s.heap.push (ml b) }) :
  wpAny (model prog w) A (call (.type "set") [.ref p]) Q E s:=by
 obtain⟨c,tl,Gx⟩:=uS.mro
 have aiG:=uS.made
 have YY:=uS.sub
 refine nT (codeAny_of_tree ?_)
 refine aL ⟨Code.quiet_builtin _ (by decide +kernel),rP F.entry_type_call ?_⟩
 rw[Around.under_plain (weight_type_call_type "set" [.ref p] []) rfl]
 have h1:=uS.notType
 have h2:=uS.canCreate
 have h3:=Z1 (.ref p)
 repeat (any_goals (first | assumption | wp_step))
 refine uB (Z3 (E:=E) (Z:=λo s1=>∃b:Bool,o = .ref s.heap.objs.size/\s1={ s with heap:=s.heap.push (ml b) }) λb=>⟨b,rfl,rfl⟩) λr s1 hr=>?_
 rcases r with e | fl
 .exact hr
 .cases fl with
  |ret o=>
   obtain⟨b,rfl,rfl⟩:=hr
   have hS:(s.heap.push (ml b)).get? s.heap.objs.size=some (ml b):=cz _ rfl
   have hT:Shared.TypeIs { s with heap:=s.heap.push (ml b) } (.ref s.heap.objs.size) "set":=⟨_,hS,rfl⟩
   have li:=uS.init.lookup
   have bi:=uS.init.bind (.ref s.heap.objs.size)
   repeat (any_goals (first | assumption | wp_step))
   refine uB (LO (R:=wants (λr s2=>r = .none/\Q (.ref s.heap.objs.size) s2) E) uS.init.plain F.entry_set_init (Z4 hT ?_)) λr2 s2 yG=>?_
   .unfold Builtin.«set.__init__» noKeywords
    have yL:Shared.TypeIs { s with heap:=s.heap.push (ml b) } (.ref p) "list":=let ⟨o,e,c⟩:=hL;⟨o,bu _ e,c⟩
    have s1:=OJ
    have s2:=OK
    generalize hU:Builtin.Frozenset.updateFrom "set.__init__"=U
    wp_walk
    subst hU
    exact Z5 yL (aC (h b) λit s1 hz=>aC hz λ_ s2 hq=>aL ⟨rfl,hq⟩)
   .rcases r2 with e | fl
    .exact yG
    .cases fl with
     |ret r=>
      obtain⟨rfl,hq⟩:=yG
      repeat (any_goals (first | assumption | wp_step))
     |_=>exact yG.elim
  |_=>exact hr.elim
end
def Gy(ss:List Str)(i:Nat)(T:Key->Bool)(c:Nat):Prop:=c<=i/\(c=i↔(ss.take i).Nodup)/\∀k,T k=true↔∃x∈ss.take i,k=Sum.inr x
noncomputable def qH(ss:List Str)(i:Nat):Key:=Sum.inr ((ss[i]?).getD ⟨#[]⟩)
theorem Z7{i:Nat}(hi:i<ss.length)(h:Gy ss i T c):Gy ss (i+1) (λk'=>T k'||decide (k'=qH ss i)) (if T (qH ss i)=true then c else c+1):=by
 obtain⟨h1,h2,h3⟩:=h
 have e:ss[i]? = some ss[i]:=bf hi
 have ek:qH ss i=Sum.inr ss[i]:=by unfold qH;rw[e];rfl
 have et:ss.take (i+1)=ss.take i++[ss[i]]:=by rw[eJ,e];rfl
 have hT:T (qH ss i)=true↔ss[i]∈ss.take i:=by
  rw[h3,ek]
  constructor
  .rintro⟨x,hx,z⟩
   rw[Sum.inr.inj z]
   exact hx
  .exact λm=>⟨_,m,rfl⟩
 have hN:(ss.take (i+1)).Nodup↔(ss.take i).Nodup/\ss[i]∉ss.take i:=by
  rw[et,qe]
  constructor
  .rintro⟨a,_,c⟩
   exact⟨a,λm=>c _ m _ (cn.mpr rfl) rfl⟩
  .rintro⟨a,b⟩
   exact⟨a,gG.mpr ⟨fH,je⟩,λu hu v hv z=>b (by rw[<-cn.mp hv,<-z];exact hu)⟩
 refine⟨by split <;> lia,?_,λk=>?_⟩
 .rw[hN]
  by_cases m:ss[i]∈ss.take i
  .rw[az (hT.mpr m)]
   exact⟨λz=>by lia,λz=>absurd m z.2⟩
  .rw[av (λz=>m (hT.mp z))]
   exact⟨λz=>⟨h2.mp (by lia),m⟩,λz=>by have:=h2.mpr z.1;lia⟩
 .rw[uI,h3,xD,ek,et]
  constructor
  .rintro(⟨x,hx,z⟩ | z)
   .exact⟨x,cS.mpr (.inl hx),z⟩
   .exact⟨_,cS.mpr (.inr (cn.mpr rfl)),z⟩
  .rintro⟨x,hx,z⟩
   rcases cS.mp hx with m | m
   .exact .inl ⟨x,m,z⟩
   .rw[cn.mp m] at z
    exact .inr z
def vK(prog:Program)(w:World)(p:Addr)(T:Key->Bool)(c:Nat):Heap->Prop:=λh=>h.SetOf (dQ prog w) p T c
theorem Z8(hc:X.calm=true):il X (.type "set") (λxs H Q=>∃(a:Addr) (ss:List Str),xs=[.ref a]/\aj X.K H a (ss.map V.str)/\ss.length+1<scanBound/\
  ∀p T c,H p=none->(c=ss.length↔ss.Nodup)->Q (.ref p) (upd H p (.ext (vK X.prog X.w p T c)))):=by
 intro pins s O H xs us Q I r h
 obtain⟨l,ss,rfl,hq,hn,q⟩:=h
 obtain⟨u,rfl,ru⟩:=vals1 r
 cases ru
 obtain⟨its,rv,pl,hz⟩:=I.list hq
 have hl:=pl.isList
 have hh:X.A.handled=none:=I.ok.hd hc
 have aT:l<s.heap.objs.size:=by obtain⟨_,e,_⟩:=hl;exact bA e
 have hlen:its.length=ss.length:=by rw[<-rv.length,aw]
 refine Z6 (let ⟨o,e,c,_⟩:=hl;⟨o,e,c⟩) λb=>?_
 refine xu (hl.push _) ?_
 refine wpAny_runValue ?_
 have hT:its.toArray.size=ss.length:=by rw[br,hlen]
 refine ZW (knd:=dQ X.prog X.w) (Walks.list (A:=X.A.in1.in1.in1) hh _ l ?_ its.toArray) s.heap.objs.size ?_ (qH ss) (λi v hP=>?_) (by lia) (Gy ss) (λi T c hi h=>Z7 (by lia) h) (λ_ _ _ h=>h.1)
  its.toArray.size 0 _ (λ_=>false) 0 (by lia) (bG _) ⟨⟨_,cz _ rfl,rfl,rfl⟩,(hl.push _).push _⟩ ⟨aO _,⟨λ_=>je,λ_=>rfl⟩,λk=>⟨λz=>(by cases z),λ⟨x,hx,_⟩=>by cases hx⟩⟩
  ⟨ml b,#[],0,.fresh 0 0 b,bu _ (cz _ rfl),⟨rfl,rfl,rfl⟩,rfl,(λe he=>by cases he),(λk=>⟨λz=>(by cases z),λ⟨e,he,_⟩=>by cases he⟩),(by decide),rfl,rfl⟩ λh' tk T c hk hj hS=>?_
 .show l≠(s.heap.push (ml b)).objs.size
  rw[rN]
  exact bR (nU aT)
 .intro z
  have z:s.heap.objs.size=(s.heap.push (ml b)).objs.size\/s.heap.objs.size=l:=by simpa using z
  rw[rN] at z
  rcases z with z | z
  .exact bR (rG _) z
  .exact bR aT z.symm
 .have hv:its[i]? = some v:=by simpa using hP
  have hi:i<ss.length:=by rw[<-hlen];exact(bY.mp hv).1
  obtain⟨u',e1,e2⟩:=rv.get (i:=i) (x:=V.str ss[i]) (by simp[hi])
  rw[hv] at e1
  cases e1
  obtain⟨t,rfl⟩:=e2
  have ek:qH ss i=Sum.inr ss[i]:=by unfold qH;rw[bf hi];rfl
  rw[ek]
  exact⟨ED ss[i] t,rfl⟩
 .rw[hT] at hj
  obtain⟨_,h2,_⟩:=hj
  rw[Eu] at h2
  have yM:=hS
  obtain⟨o,es,ep,tt,ho,_⟩:=yM
  refine⟨.ref s.heap.objs.size,_,I.laid (t':=tk) (λb' o' e=>?_) ?_ (show da X.prog X.w _ h' _ (.ext (vK X.prog X.w s.heap.objs.size T c)) from⟨hS,⟨o,ho⟩,λh1 h3 x k=>?_⟩),rfl,q _ T c (I.aA.fresh (aO _)) h2⟩
  .have hb:=bA e
   refine hk b' o' (λz=>?_) (λz=>?_) (bu _ (bu _ e))
   .have z:b'=(s.heap.push (ml b)).objs.size:=by simpa using z
    rw[rN] at z
    exact bR (nU hb) z
   .exact bR hb z
  .exact aO _
  .obtain⟨o,es,ep,tt,ho,r⟩:=x
   exact⟨o,es,ep,tt,k _ ho,r⟩
theorem Z9:il X (.builtin "len") (λxs H Q=>∃p T c,xs=[.ref p]/\H p=some (.ext (vK X.prog X.w p T c))/\Q (.int (c:Nat)) H):=by
 intro pins s O H xs us Q I r h
 obtain⟨p,T,c,rfl,hp,q⟩:=h
 obtain⟨u,rfl,rx⟩:=vals1 r
 cases rx
 obtain⟨hS,_⟩:=(show da X.prog X.w H s.heap p (.ext (vK X.prog X.w p T c)) from I.aA p _ hp)
 obtain⟨o,es,ep,t,ho,hx,hd,_,_,hb,hf,hc⟩:=hS
 have tq:scanBound<=2 ^ 62:=by decide
 refine call_len_set ho hx hd hf (by lia) ⟨.int (c:Nat),H,(I.tok _).tok _,⟨s.toks+1,by rw[hc]⟩,q⟩
def aaa:bootBuiltins "set"=some (.type "set"):=by decide +kernel
end L2
namespace L2
open PySem
theorem Gz{α:Type}[DecidableEq α]:∀{l m:List α},l.Nodup->(∀x∈l,x∈m)->l.length<=m.length
 |[],m,_,_=>bG _
 |a::l,m,nd,h=>by
  have ha:=h a bz
  have h1:=Gz (gG.mp nd).2 (m:=m.erase a) λx mx=>(List.mem_erase_of_ne λz:x=a=>(gG.mp nd).1 (by rw[<-z];exact mx)).mpr (h x (bX _ mx))
  rw[List.length_erase_of_mem ha] at h1
  have:=List.length_pos_of_mem ha
  rw[dO]
  lia
end L2
namespace L2
open PySem PySem.Spec PyProof.Rows
variable{C S e f:Addr}{dx od:Option Addr}{cd v:Value}{Q:Unit->Shared->Prop}{P:Program}{w:World}{H:Hp}{base h:Heap}{vs:Array Value}{ch:List Addr}{M:Model}{E:Value->Shared->Prop}{A:Around}{fl g:Value->Prop}{pins pm pn uW:List (Addr×Obj)}{n qual:Str}{m mN mg:Str->Option Value}{O:St}{s s':Shared}{K:Frag}{N:List Str}{scope:Scope}{outer:List Env}{st:List Stmt}{x:Sem Value}{fd:FuncData}{bm tF us vL:List Value}
section
variable{prog:Program}{w:World}{A:Around}{E:Value->Shared->Prop}{h:Heap}{g:Array GenState}{d:Drawn}{t:Nat}{os:OsState}
variable{nm q:Str}{C N:Addr}{bs bm GA:List Value}{km:Bool}{sn:List Str}{sub:List Value}{ab:Bool}{col:Option Bool}{dd:Option Addr}{k0 k1 k2 k3 k5:Option Value}{B newId GB:String}
noncomputable abbrev BQ(C:Addr)(u:Addr):Obj:={ cls := .ref C,data := .fields #[.ref u,.none,.none,.none,.bool false,.none] }
noncomputable abbrev yN(vs:List Value):Obj:={ cls := .type "tuple",data := .seq vs.toArray }
end
section
variable{prog:Program}{w:World}{A:Around}{E:Value->Shared->Prop}{h:Heap}{g:Array GenState}{d:Drawn}{t:Nat}{os:OsState}
variable{nm q:Str}{C N:Addr}{bs bm GA:List Value}{km:Bool}{sn:List Str}{sub:List Value}{ab:Bool}{col:Option Bool}{dd:Option Addr}{k0 k1 k2 k3 k5:Option Value}{B newId GB nid:String}
noncomputable abbrev tu(C:Addr)(od:Option Addr)(u:Addr):Obj:={ cls := .ref C,dict:=od,data := .fields #[.ref u,.none,.none,.none,.bool false,.none] }
def aab(F:ExcBaseFacts B newId GB GA)(T:OwnTail h GA bm){u:Addr}{Q:Value->Shared->Prop}
  (hC:h.get? C=some (excClassObj nm q C N bs bm km sn sub ab col dd k0 k1 k2 k3 k5 newId)) (he:h.get? e=some (tu C od u))
  (fin:∀h',h'.get? e=some (tu C od h.objs.size)->h'.get? h.objs.size=some (yN [v])->(∀b o,b≠e->h.get? b=some o->h'.get? b=some o)->Q .none ⟨h',g,d,t,os⟩) :
  wpAny (model prog w) A (call (.builtin GB) [.ref e,v]) Q E ⟨h,g,d,t,os⟩:=by
 refine nT (LO F.init.plain F.initEntry (wpAny_check_init_subT F T hC he rfl ?_))
 have e1:(h.push (yN [v])).get? e=some (tu C od u):=bu _ he
 wp_walk
 refine fin _ ?_ ?_ λb o hb z=>?_
 .rw[pW _ e1 rfl]
  rfl
 .rw[iM _ _ (bR (bA he))]
  exact cz _ rfl
 .rw[iM _ _ (bo hb)]
  exact bu _ z
end
noncomputable abbrev fB:List Value:=[.type "ValueError",.type "Exception",.type "BaseException",.type "object"]
noncomputable abbrev ny(C:Addr)(od:Option Addr)(vs:Array Value):Obj:={ cls := .ref C,dict:=od,data := .fields vs }
section
variable{prog:Program}{w:World}{A:Around}{E:Value->Shared->Prop}{s:Shared}{K:Frag}{C CE e dx:Addr}{vs:Array Value}{cd:ClassData}{name:Str}{v:Value}{mA:Str->Option Value}
def aac(self:Value):bindSpecial (.builtin "BaseException.__getattribute__") self=pure (.builtin "BaseException.__getattribute__",[self]):=by kernel_rfl
end
noncomputable abbrev kq(C:Addr)(dx:Option Addr)(e:Addr):HO := .ext λh=>∃vs:Array Value,vs.size=6/\h.get? e=some (ny C dx vs)
def OL(hs:vs.size=6)(he:h.get? e=some (ny C dx vs)):da P w H h e (kq C dx e):=
 ⟨⟨vs,hs,he⟩,⟨_,he⟩,λ_ _ ⟨OM,oB,yO⟩ k=>⟨OM,oB,k _ yO⟩⟩
def ON(h:Heap)(e C:Addr)(dx:Option Addr):Prop := ∃vs:Array Value,vs.size=6/\h.get? e=some (ny C dx vs)/\vs[1]? = some .none
def oI(pn:List (Addr×Obj))(n₀:Nat)(H:Hp)(h:Heap)(e C:Addr)(dx:Option Addr)(fl:Value->Prop):Prop:=
 ∃(vs:Array Value) (T:Addr) (oT:Obj) (ts:Array Value) (v:Value),(∀p∈pn,p.1≠T)/\vs.size=6/\h.get? e=some (ny C dx vs)/\vs[1]? = some (.ref T)/\n₀<=T/\H T=none/\T≠e/\h.get? T=some oT/\oT.data = .fields ts/\ts[3]? = some v/\fl v
section
variable{X:Cx}{O:St}{H:Hp}{s:Shared}{e C:Addr}{dx:Option Addr}{h':Heap}
def Inv.GC(I:Inv X [] O H s)(he:H e=some (kq C dx e))(hch:∀b∈ch,(∀p∈X.pn,p.1≠b)/\X.s₀.heap.objs.size<=b/\H b=none/\∃o vs,s.heap.get? b=some o/\o.data = .fields vs)
  (k1:∀b o,b∉gh X.stack->b≠e->b∉ch->s.heap.get? b=some o->h'.get? b=some o) (k2:∀b o,b∈gh X.stack->b≠e->b∉ch->s.heap.get? b=some o->∃sl,h'.get? b=some { o with slots:=sl })
  (hs:vs.size=6) (hn:h'.get? e=some (ny C dx vs)):Inv X [] O H { s with heap:=h' }:=by
 have cE:∀b,H b=none->b≠e:=λb z y=>by rw[y,he] at z;cases z
 have OO:∀b u,H b=some u->b∉ch:=λb u z y=>by rw[(hch b y).2.2.1] at z;cases z
 refine I.call (g':=s.gens) (d':=s.drawn) (t':=s.toks) (ch:=ch) ⟨λb o q n hb hc=>k1 b o hb (cE b n) hc q,λb o q n hb hc=>k2 b o hb (cE b n) hc q,λ_ _ _ n _=>n,λb o q hc=>?_,λ_ _ z=>z,λ_ _ _ z=>z,λb ps z=>⟨#[],by rw[z];simp⟩⟩ (λb u z=>?_) I.bare λb hb=>?_
 .by_cases h1:b=e
  .subst h1;exact⟨_,hn⟩
  .by_cases h2:b∈gh X.stack
   .obtain⟨sl,z⟩:=k2 b o h2 h1 hc q
    exact⟨_,z⟩
   .exact⟨_,k1 b o h2 h1 hc q⟩
 .by_cases h1:b=e
  .subst h1
   rw[he] at z;cases z
   exact OL hs hn
  .have nf:∀c v,H c=some v->c∉gh X.stack:=λc v y m=>by rw[I.AV c m] at y;cases y
   refine(I.aA b u z).jQ (λc v hc q=>?_) (λ_ q=>q) λ_ _ q=>q
   rcases hc with y | y
   .subst y;exact k1 c v (nf c u z) h1 (OO c u z) q
   .exact k1 c v (nf c _ y) (λm=>by rw[m,he] at y;cases y) (OO c _ y) q
 .obtain⟨h0,h1,h2,o,OM,h3,h4⟩:=hch b hb
  refine⟨.inr h1,?_,λx c q m=>?_,λp hp=>?_⟩
  .intro m
   obtain⟨m',⟨oL,es,ep,q,d,_⟩,_⟩:=I.loc
   rw[<-m,h3] at q;cases q
   rw[h4] at d;cases d
  .obtain⟨v,oc,q2,d⟩:=I.cell x c q
   rw[m,h3] at q2;cases q2
   rw[h4] at d;cases d
  .rw[eV] at hp;exact h0 p hp
theorem GD(I:Inv X [] O H s)(cL:X.stack=X.env::X.outer)(hf:X.env.frame=some X.env.locals)(he:H e=some (kq C dx e))
  (hx:ON s.heap e C dx\/oI X.pn X.s₀.heap.objs.size H s.heap e C dx (λ_=>True))
  (fin:∀s',Inv X [] O H s'->oI X.pn X.s₀.heap.objs.size H s'.heap e C dx (λv=>v=rawInt X.env.locals)->Q () s'):wpAny M X.A (noteFrame (.ref e) X.env) Q E s:=by
 have core:∀(s:Shared) (head:Value) (vs:Array Value) (OP:Bool),Inv X [] O H s->vs.size=6->s.heap.get? e=some (ny C dx vs)->
   wpAny M X.A (do setField (.ref e) 1 (<- EntryCells.newEntry head (<- frameOf X.env) .none (rawInt X.env.locals) .none (<- entryPlaceOf X.env.locals OP))) Q E s:=by
  intro s head vs OP I hs hv
  have hl:=I.stack
  rw[cL] at hl
  refine ah (wpAny_frameOf_fun (by rw[<-cL];exact I.ok.frames) hl hf λh₁ yP=>?_)
  refine ah (wpAny_entryPlaceOf λpl hpl=>?_)
  unfold EntryCells.newEntry newFields
  refine ah (uJ ?_ (hpl.sizeOk5 _ _ _ _ _))
  have fr:(X.env::X.outer).filterMap (·.frame)=gh X.stack:=by rw[cL];rfl
  rw[fr] at yP
  have aad:e∉gh X.stack:=λhm=>by rw[I.AV e hm] at he;cases he
  have OQ:h₁.get? e=some (ny C dx vs):=(yP.2.1 e aad).trans hv
  have hsz:h₁.objs.size=s.heap.objs.size:=yP.1
  generalize hO:({ cls := .type "traceback",dict:=none,data := .fields ([head,.ref X.env.locals,.none,rawInt X.env.locals,.none]++(if pl.isEmpty then List.replicate 6 Value.none else pl)).toArray }:Obj)=oT
  have dT:∃ts:Array Value,oT.data = .fields ts/\ts[3]? = some (rawInt X.env.locals):=by
   subst hO;exact⟨_,rfl,by first | (simp;done) | (rcases hpl with rfl | ⟨_,_,_,_,_,_,_,rfl⟩ <;> simp)⟩
  have fT:oT.isFreed=false:=by subst hO;rfl
  have OR:=bu (h:=h₁) oT OQ
  refine uN OR rfl (by lia) ?_
  have nz:h₁.objs.size≠e:=xt (bA OQ)
  have yQ:=pW (Obj.mapFields (·.setIfInBounds 1 (Value.ref h₁.objs.size))) OR (Es (rL (o:=ny C dx vs) rfl (·.setIfInBounds 1 (Value.ref h₁.objs.size))))
  have GF:=(iM (h₁.push oT) (Obj.mapFields (·.setIfInBounds 1 (Value.ref h₁.objs.size))) (bo nz)).trans (cz h₁ fT)
  have hv3:Obj.mapFields (·.setIfInBounds 1 (Value.ref h₁.objs.size)) (ny C dx vs)=ny C dx (vs.setIfInBounds 1 (Value.ref h₁.objs.size)):=rfl
  rw[hv3] at yQ
  have keep:∀b o,b≠e->h₁.get? b=some o->((h₁.push oT).update e (Obj.mapFields (·.setIfInBounds 1 (Value.ref h₁.objs.size)))).get? b=some o:=λb o jR hb=>by
   rw[iM _ _ (bo jR)]
   exact bu _ hb
  revert yQ GF keep
  generalize ((h₁.push oT).update e (Obj.mapFields (·.setIfInBounds 1 (Value.ref h₁.objs.size))))=h₃
  intro yQ GF keep
  refine fin _ (I.GC he (ch:=[]) (λ_ z=>nomatch z) (λb o hb jR _ q=>keep b o jR ((yP.2.1 b hb).trans q)) (λb o hb jR _ q=>?_) (by simpa using hs) yQ) ?_
  .obtain⟨sl,z⟩:=yP.2.2 b o q
   exact⟨sl,keep b _ jR z⟩
  .obtain⟨ts,d1,d2⟩:=dT
   exact⟨_,h₁.objs.size,oT,ts,_,λp hp m=>pU _ (m ▸ hsz ▸ bA (I.pin p (mQ _ hp)).1),by simpa using hs,yQ,by simp[hs],by rw[hsz];exact I.sz,I.aA.fresh (Nat.le_of_eq hsz.symm),nz,GF,d1,d2,rfl⟩
 unfold noteFrame
 simp only[hf]
 rcases hx with ⟨vs,hs,hv,h1⟩ | ⟨vs,T,oT,ts,v,hp,hs,hv,h1,hn,yR,nz,hT,hd,h3,d7⟩
 .refine ah (fI hv rfl h1 ?_)
  rw[av (by decide)]
  exact core s _ vs _ I hs hv
 .refine ah (fI hv rfl h1 ?_)
  rw[az (show(Value.ref T != Value.none)=true from by simp)]
  refine ah (fI hT hd h3 ?_)
  by_cases GG:v=rawInt X.env.locals
  .rw[az (by rw[GG];simp)]
   exact aL (fin s I ⟨vs,T,oT,ts,v,hp,hs,hv,h1,hn,yR,nz,hT,hd,h3,GG⟩)
  .rw[av (by simpa using GG)]
   refine ah (uN hT hd (UC.mp h3).1 ?_)
   have other:∀b,b≠T->(s.heap.update T (Obj.mapFields (·.setIfInBounds 3 Value.none))).get? b=s.heap.get? b:=λb hb=>iM _ _ (bo hb)
   refine core { s with heap:=s.heap.update T (Obj.mapFields (·.setIfInBounds 3 Value.none)) } _ vs _ (I.GC he (ch:=[T]) (λb hb=>?_) (λb o _ _ hc q=>(other b λz=>hc (by simp[z])).trans q)
    (λb o _ _ hc q=>⟨o.slots,(other b λz=>hc (by simp[z])).trans q⟩) hs ((other e (bo nz)).trans hv)) hs ((other e (bo nz)).trans hv)
   have z:b=T:=by simpa using hb
   subst z
   exact⟨hp,hn,yR,oT,ts,hT,hd⟩
def BR(fr:Option Addr)(I:Inv X [] O H s)(he:H e=some (kq C dx e))
  (hx:oI X.pn X.s₀.heap.objs.size H s.heap e C dx fl)
  (fin:∀s',Inv X [] O H s'->oI X.pn X.s₀.heap.objs.size H s'.heap e C dx (λv=>v=fr.elim .none λf=>rawInt f)->Q () s'):wpAny M A (setFlight (.ref e) fr) Q E s:=by
 obtain⟨vs,T,oT,ts,v,hp,hs,hv,h1,hn,yR,nz,hT,hd,h3,d7⟩:=hx
 have OS:=(UC.mp h3).1
 unfold setFlight
 refine ah (fI hv rfl h1 ?_)
 rw[az (show(Value.ref T != Value.none)=true from by simp)]
 refine uN hT hd OS ?_
 have other:∀b,b≠T->(s.heap.update T (Obj.mapFields (·.setIfInBounds 3 (fr.elim Value.none λf=>rawInt f)))).get? b=s.heap.get? b:=λb hb=>iM _ _ (bo hb)
 refine fin _ (I.GC he (ch:=[T]) (λb hb=>?_) (λb o _ _ hc q=>(other b λz=>hc (by simp[z])).trans q)
  (λb o _ _ hc q=>⟨o.slots,(other b λz=>hc (by simp[z])).trans q⟩) hs ((other e (bo nz)).trans hv)) ?_
 .have z:b=T:=by simpa using hb
  subst z
  exact⟨hp,hn,yR,oT,ts,hT,hd⟩
 .exact⟨vs,T,_,_,_,hp,hs,(other e (bo nz)).trans hv,h1,hn,yR,nz,pW _ hT (Es (rL hd _)),rL hd _,by simp[OS],rfl⟩
end
def oJ(X:Cx)(E:St->XK)(v:Value)(s:Shared):Prop:=
 ∃(e C:Addr) (dx:Option Addr) (O:St) (H:Hp),v = .ref e/\Inv X [] O H s/\H e=some (kq C dx e)/\(ON s.heap e C dx\/oI X.pn X.s₀.heap.objs.size H s.heap e C dx (λ_=>True))/\E O (.ref C) (some e) H
abbrev Fx(X:Cx)(E:XK):Value->Shared->Prop:=oJ X λ_=>E
noncomputable def iw(P:Program)(w:World):lQ:=λouter H s E v s' =>∃(e C:Addr) (dx:Option Addr) (H':Hp),v = .ref e/\s'.os=s.os/\AllBare s'.gens/\Un (gh outer) [] H H' s.heap s'.heap/\dr P w H' s'.heap/\H' e=some (kq C dx e)/\
 oI [] s.heap.objs.size H' s'.heap e C dx (λv=>v = .none)/\E (.ref C) (some e) H'
def oI.imp{n m:Nat}{f:Value->Prop}(x:oI pn n H h e C dx f)(hm:m<=n)(k:∀v,f v->g v)(hp:(∀p∈pm,p.1<n)\/pm=pn):oI pm m H h e C dx g:=by
 obtain⟨vs,T,oT,ts,v,a0,a1,a2,a3,a4,a5,a6,a7,a8,a9,GH⟩:=x
 refine⟨vs,T,oT,ts,v,?_,a1,a2,a3,bF hm a4,a5,a6,a7,a8,a9,k v GH⟩
 rcases hp with hp | rfl
 .exact λp hq m=>pU _ (gu (m ▸ hp p hq) a4)
 .exact a0
def Inv.GI{X:Cx}(I:Inv X pins O H s):Inv X [] O H s:=I.xP λ_ z=>nomatch z
section
variable{X:Cx}{E:XK}
def aae{E':XK}(hE:∀c o H,E' c o H->E c o H):Passes (iw X.prog X.w) (X.cK (Fx X E)) E':=by
 intro pins O H s v s' I h
 obtain⟨e,C,dx,H',ev,ho,hb,un,aA,he,tb,q⟩:=h
 subst ev
 have I1:Inv X pins O H s:=I.gI
 exact⟨e,C,dx,O,H',rfl,(I1.uX (ch:=[]) ho un aA hb λ_ z=>nomatch z).GI,he,.inr (tb.imp I1.sz (λ_ _=>trivial) (.inl λp hp=>bA (I1.pin p (mQ _ hp)).1)),hE _ _ _ q⟩
def aaf:Passes (iw P w) X E0:=by
 intro pins O H s v s' I h
 obtain⟨e,C,dx,H',_,_,_,_,_,_,_,q⟩:=h
 exact q.elim
def aag{E:St->XK}(cL:X.stack=X.env::X.outer)(hf:X.env.frame=some X.env.locals):PassesOwn M X.A X.env (oJ X E):=by
 intro v s ⟨e,C,dx,O,H,ev,I,he,hx,q⟩
 subst ev
 refine GD I cL hf he hx λs1 I1 t1=>?_
 unfold cameBackBy
 obtain⟨vs,T,oT,ts,v,_,a1,a2,a3,a4⟩:=id t1
 refine ah (fI a2 rfl a3 ?_)
 rw[av (by simp)]
 refine BR _ I1 he t1 λs2 I2 t2=>?_
 exact⟨e,C,dx,O,H,rfl,I2,he,.inr (t2.imp (aO _) (λ_ _=>trivial) (.inr rfl)),q⟩
end
def aah{E:XK}
  (h:Fx (ip (iw P w) P w K mg base N qual scope f cd A outer s H E) E v s'):(ip (iw P w) P w K mg base N qual scope f cd A outer s H E).xe v s':=by
 obtain⟨e,C,dx,O,H',ev,I,he,hx,q⟩:=h
 subst ev
 show wpAny _ _ (leaving _ _) _ _ _
 unfold leaving
 refine ah (GD I rfl rfl he hx λs1 I1 t1=>?_)
 refine BR _ I1 he t1 λs2 I2 t2=>?_
 exact⟨e,C,dx,H',rfl,I2.os,I2.bare,I2.base,I2.aA,he,t2,q⟩
def eK.out{E:XK}{t:TS}
  (h:eK ((ip (iw P w) P w K mg base N qual scope f cd A outer s H E).cK (Fx (ip (iw P w) P w K mg base N qual scope f cd A outer s H E) E)) st t):eK (ip (iw P w) P w K mg base N qual scope f cd A outer s H E) st t:=λpins s O H D I hw=>
 gF (h pins s O H D (I.cK _) hw) (λ_ _ q=>q.gI) λ_ _ z=>aah z
section
variable{P:Program}{w:World}{K:Frag}{mg:Str->Option Value}{base:Heap}
def aW.OT{x:Str}{st:Stmt}{ps:List Str}{k:Nat}{sp:Sp}(F:aW K x qual st f fd)(S:bh N ps (aN st))(len:∀vs H Q E,sp vs H Q E->vs.length=ps.length)
  (lS:∀(aE:Value) (A:Around) (outer:List Env) (s:Shared) (H:Hp) (vs:List V) (Q:VK) (E:XK),bZ k (A.deeper (envOfC qual (aN st) s.heap.objs.size f aE))->sp vs H Q E->
   ∃t,eK ((ip (iw P w) P w K mg base N qual (aN st) f aE A outer s H E).cK (Fx (ip (iw P w) P w K mg base N qual (aN st) f aE A outer s H E) E)) (kd st) t/\t { nx:=λ_ H'=>Q .aB H',rt:=Q } (start N vs) H) :
  aK P w K mg base (iw P w) (k+1) f fd ps sp:=by
 obtain⟨oc,od,kV,doc,pm,an,aE,ct,jX,rfl,lk,ij⟩:=F.ex
 refine ya lk ij S len λA outer s H vs Q E hr kX=>?_
 obtain⟨t,h,q⟩:=lS aE A outer s H vs Q E hr kX
 exact⟨t,h.out,q⟩
end
structure tw(P:Program)(w:World)(K:Frag)(mg:Str->Option Value)(base:Heap)(x:Str)(k:Nat)(sp:Sp):Prop where
 ex:∃(f:Addr) (fd:FuncData) (ps:List Str),aK P w K mg base (iw P w) k f fd ps sp/\mg x=some (.ref f)/\keepIn K (.ref f)=true/\Binds K fd ps []
section
variable{X:Cx}{x:Str}{p pos:Pos}{e:Expr}{es:List Expr}{t:TA}{sp:Sp}{k:Nat}{E E':XK}
def aai(F:tw X.prog X.w X.K X.mg X.base x k sp)(hE:∀c o H,E' c o H->E c o H)(hr:bZ k X.A)(hg:Gl X x)(ha:PA (X.cK (Fx X E)) (e::es) t)(dR:(x==("__debug__":Str))=false:=by decide)
  (he:starEach (e::es) X.env=(false,eval e X.env)::starEach es X.env:=by rfl) (hpl:(backTo pos (starEach es X.env)).any (·.1)=false:=by rfl):PE (X.cK (Fx X E)) (.Call (.Name x p) (e::es) [] pos) (Bd sp [] E' t):=by
 obtain⟨f,fd,ps,G,hm,hk,hb⟩:=F.ex
 exact E2 (X:=X.cK (Fx X E)) G hr hg hm hk hb .nil (aae hE) ha dR he hpl
def aaj(F:tw X.prog X.w X.K X.mg X.base x k sp)(hr:bZ k X.A)(hg:Gl X x)(ha:PA X (e::es) t)(dR:(x==("__debug__":Str))=false:=by decide)
  (he:starEach (e::es) X.env=(false,eval e X.env)::starEach es X.env:=by rfl) (hpl:(backTo pos (starEach es X.env)).any (·.1)=false:=by rfl):PE X (.Call (.Name x p) (e::es) [] pos) (Bd sp [] E0 t):=by
 obtain⟨f,fd,ps,G,hm,hk,hb⟩:=F.ex
 exact E2 G hr hg hm hk hb .nil aaf ha dR he hpl
end
structure XE(K:Frag)(CE:Addr):Prop where
 ga:specialIn K (.ref CE) "__getattribute__"=some (some (.builtin "type.__getattribute__"))
 rd:PySem.W.readsIn K CE (.type "type")=true
 fd:PySem.W.findCls K (.ref CE) (.type "type") "__init__"=some (.val (.builtin "ValueError.__init__"))
section
variable{X:Cx}{pins:List (Addr×Obj)}{O:St}{H:Hp}{s:Shared}
def BS{i:Nat}{pos:Pos}(I:Inv X pins O H s)(hN:X.N.Nodup)(hi:X.N[i]? = some n)(hl:X.env.kindOf n=some .local)
  (h:∀s',Inv X pins (O.set i none) H s'->Q () s'):wpAny M A (do bindName X.env n .none;unbindBehindTheSuite X.env n pos) Q E s:=by
 have EI:(X.env.scope.kind == .class||(X.env.scope.kind == .module&&X.env.locals != X.env.globals))=false:=by rw[I.ok.kind];rfl
 refine ah (wpAny_bindName (xS (v := .aB) I hN hi (.inl hl) rfl (λs1 I1=>?_) (.inr hl)))
 obtain⟨m,hn,lY⟩:=id I1.loc
 have xQ:i<O.length:=by rw[I.len];exact(bY.mp hi).1
 have GJ:∃u,m n=some u:=by
  obtain⟨u,_,l⟩:=lY i n .aB hi (rF xQ) (.inl hl)
  rcases l with ⟨_,e⟩ | ⟨k,_⟩
  .exact⟨u,e⟩
  .rw[hl] at k;rcases k with k | k <;> cases k
 unfold unbindBehindTheSuite
 refine Ew ?_
 unfold unbindName
 refine ah (wpAny_point (ah ?_))
 unfold deleteName
 simp only[hl,EI]
 rw[av (by decide)]
 refine ah (wpAny_nsDel_keeps hn λh₂ v hn₂ hs=>?_)
 obtain⟨u0,GK⟩:=GJ
 rw[GK]
 simp only[jO,Option.isSome_some,Bool.not_true,uH,pX]
 refine aL (wpAny_point (h _ ?_))
 have same:∀b o,b≠X.env.locals->s1.heap.get? b=some o->h₂.get? b=some o:=λb o hb e=>(hs.2 b hb).trans e
 have old:∀b o,X.s₀.heap.get? b=some o->b≠X.env.locals:=λb o e=>bR (gu (bA e) I1.ok.above)
 have OU:∀b u,H b=some u->b≠X.env.locals:=λb u e z=>by rw[z,I1.free] at e;cases e
 have cl:∀y c v,X.env.cells.lookup y=some c->s1.heap.IsCell c v->h₂.IsCell c v:=λy c v e z=>z.sameBut hs (I1.qh y c e)
 exact
  {
   ok:=I1.ok,os:=I1.os,bare:=I1.bare,free:=I1.free,dk:=I1.dk
   len:=by rw[En];exact I.len
   base:=
    {
     keep:=λb o e n hb hx=>same b o (old b o e) (I1.base.keep b o e n hb hx)
     slot:=λb o e n hb hx=>(I1.base.slot b o e n hb hx).imp λsl z=>same b _ (old b o e) z
     free:=I1.base.free
     there:=λb o e hx=>(I1.base.there b o e hx).imp λo' z=>same b o' (old b o e) z
     gc:=I1.base.gc,jj:=I1.base.jj,jS:=I1.base.jS }
   cell:=λy c e=>(I1.cell y c e).imp λv z=>cl y c v e z
   pin:=λp hp=>⟨same p.1 p.2 (I1.pin p hp).2.2.1 (I1.pin p hp).1,(I1.pin p hp).2⟩
   aA:=λb u e=>(I1.aA b u e).jQ (λc v hc z=>same c v (by rcases hc with rfl | hc;exact OU _ _ e;exact OU _ _ hc) z) (λ_ z=>z) λ_ _ z=>z
   loc:=by
    refine⟨_,hn₂,λj y v' e1 e2 e3=>?_⟩
    have hj:j≠i:=λz=>by rw[z,rF xQ] at e2;cases e2
    rw[uz (bo hj)] at e2
    obtain⟨u',r',w⟩:=lY j y v' e1 (by rw[uz (bo hj)];exact e2) e3
    refine⟨u',r',w.imp (λk=>⟨k.1,?_⟩) λ⟨k,c,e,z⟩=>⟨k,c,e,cl y c _ e z⟩⟩
    have hy:¬y=n:=λz=>hj (EH hN e1 (by rw[z];exact hi))
    show(if y=n then v else m y)=some u'
    rw[av hy]
    exact k.2 }
end
noncomputable def mn(K:Frag)(S:Addr)(bm:List Value):Bool:=match K.lookup S with
 |some ⟨.type "type",_,.cls cd,sl⟩=>(match cd.mro,sl.toList with
  |.ref S'::OV,[_,_,_,_,some (.builtin _),_]=>S'==S && !cd.hasDel&&OV==bm
  |_,_=>false)
 |_=>false
def OW(X:K.In h)(q:mn K S bm=true) :
  ∃(nm q:Str) (N:Addr) (bs:List Value) (hd:Bool) (sn:List Str) (sub:List Value) (ab:Bool) (col:Option Bool) (dd:Option Addr) (k0 k1 k2 k3 k5:Option Value) (n:String),
   h.get? S=some (excClassObj nm q S N bs bm hd sn sub ab col dd k0 k1 k2 k3 k5 n):=by
 unfold mn at q
 split at q
 .rename_i dd cd sl ho
  split at q
  .rename_i S' OV k0 k1 k2 k3 n k5 hm hs
   simp only[d9,jM,LC] at q
   obtain⟨⟨rfl,tE⟩,yS⟩:=q
   obtain⟨nm,bs,mro,ns,qn,hd,sn,sub,ab,col,del⟩:=cd
   dsimp only at hm tE
   subst hm tE yS
   have mf:sl = #[k0,k1,k2,k3,some (.builtin n),k5]:=by
    obtain⟨l⟩:=sl
    simp only at hs
    rw[hs]
   subst mf
   exact⟨nm,qn,ns,bs,hd,sn,sub,ab,col,dd,k0,k1,k2,k3,k5,n,X _ _ ho⟩
  .cases q
 .cases q
def aak{oe:Obj}{Q:Bool->Shared->Prop}(X:K.In s.heap)(hC:mn K C tF=true)(hS:mn K S vL=true)
  (hb:vL.contains (.type "BaseException")=true) (he:s.heap.get? e=some oe) (hc:oe.cls = .ref C) (h:Q ((Value.ref C::tF).contains (.ref S)) s):wpAny M A (excMatches (.ref e) (.ref S)) Q E s:=by
 obtain⟨nm,q,N,bs,hd,sn,sub,ab,col,dd,k0,k1,k2,k3,k5,n,oC⟩:=OW X hC
 obtain⟨nm',q',N',bs',uV,sn',aiH,ab',aiI,sH,k0',k1',k2',k3',k5',n',oS⟩:=OW X hS
 obtain⟨hp,g,d,tk,os⟩:=s
 have GL:(Value.ref S::vL).contains (.type "BaseException")=true:=by rw[uT,hb,rO]
 have f1:=tc_notTuple
 have hT:(⟨hp,g,d,tk,os⟩:Shared).TypeIs (.ref S) "type":=⟨_,oS,rfl⟩
 unfold excMatches
 repeat (any_goals (first | assumption | (with_reducible refine xE he ?_;rw[hc]) | with_reducible refine xE oS ?_ | (with_reducible refine LQ oS ?_;rw[GL]) | with_reducible refine LQ oC ?_ | wp_step))
 revert h
 generalize (Value.ref C::tF).contains (Value.ref S)=b
 intro h
 cases b with
 |true=>
  rw[az rfl]
  exact aL (aL (aL h))
 |false=>
  rw[av (by decide)]
  exact aL (aL (aL h))
noncomputable abbrev Cx.oK(X:Cx)(pn:List (Addr×Obj)):Cx:={ X with pn:=X.pn++pn }
noncomputable abbrev Cx.b6(X:Cx)(e:Addr):Cx:={ X with A:=X.A.mark (some (.ref e)),calm:=false,xe:=λ_ _=>False }
section
variable{X:Cx}{pins:List (Addr×Obj)}{O:St}{H:Hp}{s:Shared}{e:Addr}
theorem Inv.oK(I:Inv X pins O H s):Inv (X.oK pins) [] O H s:=
 ⟨⟨I.ok.mod,I.ok.kind,I.ok.glob,I.ok.blt,I.ok.above,I.ok.inj,I.ok.has,I.ok.qg,I.ok.hd,I.ok.frames,I.ok.rS,I.ok.xM,I.ok.bs,I.ok.kQ,I.ok.mV,I.ok.rT,I.ok.ig,I.ok.lN⟩,
  I.os,I.bare,I.base,I.loc,I.cell,I.free,I.dk,λp hp=>I.pin p (by rw[eV] at hp;exact hp),I.aA,I.len⟩
def Inv.vM(I:Inv (X.oK pins) [] O H s):Inv X pins O H s:=
 ⟨⟨I.ok.mod,I.ok.kind,I.ok.glob,I.ok.blt,I.ok.above,I.ok.inj,I.ok.has,I.ok.qg,I.ok.hd,I.ok.frames,I.ok.rS,I.ok.xM,I.ok.bs,I.ok.kQ,I.ok.mV,I.ok.rT,I.ok.ig,I.ok.lN⟩,
  I.os,I.bare,I.base,I.loc,I.cell,I.free,I.dk,λp hp=>I.pin p (by rw[eV];exact hp),I.aA,I.len⟩
theorem Inv.b6(I:Inv X pins O H s)(e:Addr):Inv (X.b6 e) pins O H s:=
 ⟨⟨I.ok.mod,I.ok.kind,I.ok.glob,I.ok.blt,I.ok.above,I.ok.inj,I.ok.has,I.ok.qg,(λz=>nomatch z),I.ok.frames,I.ok.rS,I.ok.xM,I.ok.bs,I.ok.kQ,I.ok.mV,I.ok.rT,I.ok.ig,I.ok.lN⟩,
  I.os,I.bare,I.base,I.loc,I.cell,I.free,I.dk,I.pin,I.aA,I.len⟩
def Inv.BU{Y:Cx}{O':St}{H':Hp}(I:Inv (X.b6 e) pins O H s)(J:Inv X uW O' H' s'):Inv X pins O H s:=
 ⟨J.ok,I.os,I.bare,I.base,I.loc,I.cell,I.free,I.dk,I.pin,I.aA,I.len⟩
end
noncomputable abbrev Ends.out(D:Ends)(i:Nat):Ends:={ nx:=λO H=>D.nx (O.set i none) H,rt:=D.rt,bk:=λO H=>D.bk (O.set i none) H,ct:=λO H=>D.ct (O.set i none) H }
def aal(K:Frag)(S:Addr)(i:Nat)(tb:(St->XK)->TS)(th:TS):TS:=λD O H=>
 tb (λO' c o H' =>∃C e tF,c = .ref C/\o=some e/\mn K C tF=true/\(Value.ref C::tF).contains (.ref S)=true/\th (D.out i) (O'.set i (some (.ref e))) H') D O H
section
variable{X:Cx}{W:Value->Shared->Prop}{x n:Str}{i:Nat}{S:Addr}{vL:List Value}{body OX:List Stmt}{b0:Stmt}{aam np pos:Pos}{tb:(St->XK)->TS}{th:TS}
def aan(cL:X.stack=X.env::X.outer)(hf:X.env.frame=some X.env.locals)(hN:X.N.Nodup)(hi:X.N[i]? = some n)(hl:X.env.kindOf n=some .local)(hS:mn X.K S vL=true)(hSb:vL.contains (.type "BaseException")=true)
  (hg:Gl X x) (hm:X.mg x=some (.ref S)) (hb:∀(pn:List (Addr×Obj)) (E1:St->XK),eK ((X.oK pn).cK (oJ (X.oK pn) E1)) body (tb E1)) (hh:∀e,eK (X.b6 e) (b0::OX) th) (dR:(x==("__debug__":Str))=false:=by decide) :
  PS (X.cK W) (.Try body [.ExceptHandler (some (.Name x np)) (some n) (b0::OX) aam] [] [] pos) (aal X.K S i tb th):=by
 intro pins s O H D I h
 have I0:Inv X pins O H s:=I.gI
 refine wpAny_Try_except (gF (hb pins _ [] s O H D (I0.oK.cK _) h) (λf s1 q=>?_) λv s1 q=>?_)
 .cases f with
  |next=>
   obtain⟨O',H',I1,q⟩:=q
   exact Ed ⟨O',H',(I1.gI.vM).cK W,q⟩
  |brk=>obtain⟨O',H',I1,q⟩:=q;exact⟨O',H',(I1.gI.vM).cK W,q⟩
  |cont=>obtain⟨O',H',I1,q⟩:=q;exact⟨O',H',(I1.gI.vM).cK W,q⟩
  |ret u=>obtain⟨v,O',H',I1,r,q⟩:=q;exact⟨v,O',H',(I1.gI.vM).cK W,r,q⟩
 .obtain⟨e,C,dx,O',H',ev,I1,he,hx,C',e',tF,hc,ho,hec,tG,hth⟩:=q
  subst ev
  cases hc
  cases ho
  refine GD (X:=X.oK pins) I1 cL hf he hx λs2 I2 t2=>?_
  refine BR (X:=X.oK pins) none I2 he t2 λs3 I3 t3=>?_
  refine wpAny_handleBy_cons (codeAny_handlers_test ?_) (by intro q;cases q)
  refine qj (X:=X.b6 e) (I3.vM.b6 e) hg hm ?_ dR
  obtain⟨⟨vs,_,sX⟩,_,_⟩:=I3.aA e _ he
  refine aak (K:=X.K) I3.cG hec hS hSb sX rfl ?_
  rw[tG]
  refine codeAny_handlers_suite_as ?_
  refine BR (X:=X.oK pins) none I3 he t3 λs4 I4 t4=>?_
  refine xS (X:=X.b6 e) (v := .ref e) (I4.vM.b6 e) hN hi (.inl hl) rfl (λs5 I5=>?_) (.inr hl)
  refine gF (hh e pins s5 _ H' (D.out i) I5 hth) (λf s6 q=>?_) λ_ _ z=>z.elim
  cases f with
  |next=>
   obtain⟨O6,H6,I6,q⟩:=q
   exact BS (X:=X) (I6.BU (Y:=X) I0) hN hi hl λs7 I7=>⟨_,H6,I7.cK W,q⟩
  |brk=>
   obtain⟨O6,H6,I6,q⟩:=q
   exact BS (X:=X) (I6.BU (Y:=X) I0) hN hi hl λs7 I7=>⟨_,H6,I7.cK W,q⟩
  |cont=>
   obtain⟨O6,H6,I6,q⟩:=q
   exact BS (X:=X) (I6.BU (Y:=X) I0) hN hi hl λs7 I7=>⟨_,H6,I7.cK W,q⟩
  |ret u=>
   obtain⟨v,O6,H6,I6,r,q⟩:=q
   exact BS (X:=X) (I6.BU (Y:=X) I0) hN hi hl λs7 I7=>⟨v,_,H6,I7.cK W,r,q⟩
end
section
variable{X:Cx}{x:Str}{p pos:Pos}{e:Expr}{es:List Expr}{t:TA}{sp:Sp}{k:Nat}{E1:St->XK}{f:Addr}{fd:FuncData}{ps:List Str}{cI:List V}{ds:List Value}
def aao{Q:VK}{vs:List V}(F:aK X.prog X.w X.K X.mg X.base (iw X.prog X.w) k f fd ps sp)(hr:bZ k X.A)(hb:Binds X.K fd ps ds)(hd:Vals cI ds)
  (I:Inv (X.cK (oJ X E1)) pins O H s) (r:Vals vs us) (h:sp (vs++cI) H Q (E1 O)):wpAny (model X.prog X.w) X.A (call (.ref f) us) (EP (X.cK (oJ X E1)) pins O Q) (oJ X E1) s:=by
 have r2:Vals (vs++cI) (us++ds):=r.append hd
 have hl:(us++ds).length=ps.length:=by rw[<-r2.length];exact F.len _ _ _ _ h
 refine nT (uB (F.run X.A X.stack s H ⟨us,[]⟩ (us++ds) (vs++cI) Q (E1 O) hr I.Bc (hb s us I.cG hl) r2 h) λr s' hq=>?_)
 cases r with
 |error v=>
  obtain⟨e,C,dx,H',ev,ho,hb,un,aA,he,tb,q⟩:=(show iw X.prog X.w X.stack H s (E1 O) v s' from hq)
  subst ev
  have I1:Inv X pins O H s:=I.gI
  exact⟨e,C,dx,O,H',rfl,(I1.uX (ch:=[]) ho un aA hb λ_ z=>nomatch z).GI,he,.inr (tb.imp I1.sz (λ_ _=>trivial) (.inl λp hp=>bA (I1.pin p (mQ _ hp)).1)),q⟩
 |ok fl=>
  cases fl with
  |ret u=>exact I.after hq
  |next=>exact False.elim hq
  |brk=>exact False.elim hq
  |cont=>exact False.elim hq
def aap(sp:Sp)(cI:List V)(E:St->XK)(t:TA):TE:=λO H Q=>t O H λvs H1=>sp (vs++cI) H1 Q (E O)
def aaq(F:tw X.prog X.w X.K X.mg X.base x k sp)(hr:bZ k X.A)(hg:Gl X x)(ha:PA (X.cK (oJ X E1)) (e::es) t)(dR:(x==("__debug__":Str))=false:=by decide)
  (he:starEach (e::es) X.env=(false,eval e X.env)::starEach es X.env:=by rfl) (hpl:(backTo pos (starEach es X.env)).any (·.1)=false:=by rfl):PE (X.cK (oJ X E1)) (.Call (.Name x p) (e::es) [] pos) (aap sp [] E1 t):=by
 intro pins s O H Q I h
 obtain⟨f,fd,ps,G,hm,hk,hb⟩:=F.ex
 refine rH (qj (X:=X.cK (oJ X E1)) I hg hm ?_ dR)
 refine Ei (h₀:=X.base) I.ok.mod.n8 hk (aC (ha pos pins s O H _ I h) λus s1 ⟨vs,H1,I1,r,q⟩=>⟨I1.cG,?_⟩) he hpl
 exact aao G hr hb .nil I1 r q
end
section
variable{prog:Program}{w:World}{A:Around}{E:Value->Shared->Prop}{s:Shared}{K:Frag}{C e dx:Addr}{vs:Array Value}{bm:List Value}{cd:ClassData}
structure XI(K:Frag)(C:Addr):Prop where
 ec:∃cd,clsIn K C=some cd/\cd.mro.contains (.type "BaseException")=true/\cd.mro.contains (.type "object")=true/\cd.mro.isEmpty=false
 get:findIn K (.ref C) "__getattribute__"=some (some (.builtin "BaseException.__getattribute__"))
 OY:findIn K (.ref C) "__getattr__"=some none
 cl:findIn K (.ref C) "__class__"=some (some (.builtin "object.__class__"))
 cg:specialIn K (.builtin "object.__class__") "__get__"=some (some (.builtin "getset_descriptor.__get__"))
 ct:takesIn K (.builtin "object.__class__")=some true
def OZ(X:K.In h)(hc:clsIn K C=some cd):∃o,h.get? C=some o/\o.data = .cls cd:=by
 cases q:K.lookup C with
 |none=>unfold clsIn at hc;rw[q] at hc;cases hc
 |some o=>
  obtain⟨oc,od,dt,os⟩:=o
  unfold clsIn at hc
  rw[q] at hc
  cases dt <;> cases hc
  exact⟨_,X _ _ q,rfl⟩
end
structure Ec(K:Frag)(mg:Str->Option Value)(x:Str)(S:Addr)(bm:List Value):Prop where
 ec:mn K S bm=true
 mg:mg x=some (.ref S)
 hb:bm.contains (.type "BaseException")=true
def aar(self:Value):bindSpecial (.builtin "ValueError.__init__") self=pure (.builtin "ValueError.__init__",[self]):=by kernel_rfl
section
variable{prog:Program}{w:World}{A:Around}{E:Value->Shared->Prop}{h:Heap}{g:Array GenState}{d:Drawn}{t:Nat}{os:OsState}
variable{nm q:Str}{C N:Addr}{bs bm:List Value}{km:Bool}{sn:List Str}{sub:List Value}{ab:Bool}{col:Option Bool}{dd:Option Addr}{k0 k1 k2 k3 k5:Option Value}
def aas(T:OwnTail h fB bm){Q:Fin->Shared->Prop}
  (hC:h.get? C=some (excClassObj nm q C N bs bm km sn sub ab col dd k0 k1 k2 k3 k5 "ValueError.__new__")) (hn:h.Ns N mN) (hi:mN "__init__"=none)
  (fin:∀h' u,h'.get? (h.objs.size+1)=some (tu C none u)->(∀b o,h.get? b=some o->h'.get? b=some o)->Q (.done (.ret (.ref (h.objs.size+1)))) ⟨h',g,d,t,os⟩) :
  wpAny (model prog w) A (Builtin.«type.__call__» ⟨[.ref C,v],[]⟩) Q E ⟨h,g,d,t,os⟩:=by
 have F:=PySem.F.excBase_ValueError
 have hz:[v].length<=sizeLine:=by show 1<=sizeLine;decide
 repeat (first | with_reducible refine xE hC ?_ | with_reducible refine wpAny_madeBy_exc hC ?_ | wp_step)
 refine codeAny_call_builtin_code (Code.quiet_builtin _ F.quiet) (wpAny_check_new_subT F T hC (codeAny_exc_new_subT F T hC ?_ hz))
 show wpAny _ _ _ _ _ _
 have up:∀b o,h.get? b=some o->((h.push (yN [v])).push (BQ C h.objs.size)).get? b=some o:=λb o e=>bu _ (bu _ e)
 have c1:=up _ _ hC
 have n1:((h.push (yN [v])).push (BQ C h.objs.size)).Ns N mN:=hn.keeps up
 have e1:((h.push (yN [v])).push (BQ C h.objs.size)).get? (h.objs.size+1)=some (BQ C h.objs.size):=by heap_get
 have cc:(Value.ref C::bm).contains (.ref C)=true:=by simp
 have T1:=T.keeps up
 unfold isInstance
 repeat (first | with_reducible refine xE e1 ?_ | (with_reducible refine LQ c1 ?_;rw[cc]) | wp_step)
 show wpAny _ _ (typeLookup (.ref C) _) _ _ _
 refine wpAny_typeLookup_tail c1 n1 T1 F.mroIs F.init.lookup ?_
 rw[hi]
 refine iL (ah ?_)
 rw[aar]
 refine aL (ah (aab F T1 c1 (od:=none) (u:=h.objs.size) e1 λh' g1 g2 k=>?_))
 wp_walk
 refine fin h' _ g1 λb o z=>k b o ?_ (up b o z)
 have:=bA z
 intro y
 rw[y] at this
 exact absurd this (Nat.not_lt.mpr (gw _))
def aat(T:OwnTail h fB bm){Q:Value->Shared->Prop}
  (hC:h.get? C=some (excClassObj nm q C N bs bm km sn sub ab col dd k0 k1 k2 k3 k5 "ValueError.__new__")) (hn:h.Ns N mN) (hi:mN "__init__"=none)
  (fin:∀h' u,h'.get? (h.objs.size+1)=some (tu C none u)->(∀b o,h.get? b=some o->h'.get? b=some o)->Q (.ref (h.objs.size+1)) ⟨h',g,d,t,os⟩) :
  wpAny (model prog w) A (call (.ref C) [v]) Q E ⟨h,g,d,t,os⟩:=by
 have f1:=tc_lookup
 have f2:=tc_bind (.ref C)
 have hT:(⟨h,g,d,t,os⟩:Shared).TypeIs (.ref C) "type":=⟨_,hC,rfl⟩
 refine nT (codeAny_of_tree ?_)
 show wpAny _ _ (callAny (.ref C) _) _ _ _
 repeat (any_goals (first | assumption | with_reducible refine xE hC ?_ | wp_step))
 refine⟨rfl,codeAny_call_builtin_at (Code.quiet_builtin _ (by decide +kernel)) entry_typeCall (wpAny_check_type_call_sub hC (aas T hC hn hi λh' u a b=>fin h' u a b))⟩
end
noncomputable def tH(K:Frag)(C CE:Addr):Bool:=match K.lookup C with
 |some ⟨.type "type",_,.cls cd,sl⟩=>(match cd.mro,sl.toList with
  |.ref C'::bm,[_,_,_,_,some (.builtin n),_]=>C'==C&&n=="ValueError.__new__" && !cd.hasDel&&PySem.W.tailIn K fB bm&&bm == .ref CE::fB&&PySem.W.nsOkIn K cd.ns&&nsIn K cd.ns "__init__"==some none
  |_,_=>false)
 |_=>false
def aau{N:Addr}(X:K.In h)(G:h.Ns N m)(e:nsIn K N n=some none):m n=none:=by
 obtain⟨ob,es,ep,h1,h2,_,h3⟩:=G
 unfold nsIn at e
 split at e
 .rename_i q
  have z:=X _ _ q
  rw[h1] at z
  cases z
  cases h2
  split at e
  .cases e
  .rename_i he
   rw[<-h3]
   unfold nsFind findBy
   rw[<-Array.find?_toList,he]
   rfl
 .cases e
structure aav(h:Heap)(K:Frag)(C CE:Addr):Prop where
 ex:∃(nm q:Str) (N:Addr) (bs:List Value) (km:Bool) (sn:List Str) (sub:List Value) (ab:Bool) (col:Option Bool) (dd:Option Addr) (k0 k1 k2 k3 k5:Option Value) (mN:Str->Option Value) (cd:ClassData),
  h.get? C=some (excClassObj nm q C N bs (.ref CE::fB) km sn sub ab col dd k0 k1 k2 k3 k5 "ValueError.__new__")/\h.Ns N mN/\mN "__init__"=none/\OwnTail h fB (.ref CE::fB)/\
  clsIn K C=some cd/\cd.mro = .ref C :: .ref CE::fB
def σ0{CE:Addr}(X:K.In h)(q:tH K C CE=true):aav h K C CE:=by
 unfold tH at q
 split at q
 .rename_i dd cd sl ho
  split at q
  .rename_i C' bm k0 k1 k2 k3 n k5 hm hs
   simp only[d9,jM,LC] at q
   obtain⟨⟨⟨⟨⟨⟨rfl,rfl⟩,tE⟩,ht⟩,yS⟩,aA⟩,GN⟩:=q
   have eN:clsIn K C'=some cd:=by unfold clsIn;rw[ho]
   obtain⟨nm,bs,mro,ns,qn,hd,sn,sub,ab,col,del⟩:=cd
   dsimp only at hm tE aA GN
   subst hm tE yS
   have mf:sl = #[k0,k1,k2,k3,some (.builtin "ValueError.__new__"),k5]:=by
    obtain⟨l⟩:=sl
    simp only at hs
    rw[hs]
   subst mf
   exact⟨nm,qn,ns,bs,hd,sn,sub,ab,col,dd,k0,k1,k2,k3,k5,h.nsMap ns,_,X _ _ ho,.of_isNs (PySem.W.isNs_of_in X aA),aau X (.of_isNs (PySem.W.isNs_of_in X aA)) GN,PySem.W.tail_of_in X ht,eN,rfl⟩
  .cases q
 .cases q
structure GO(K:Frag)(mg:Str->Option Value)(x:Str)(C CE:Addr):Prop where
 cls:tH K C CE=true
 kp:keepIn K (.ref C)=true
 mg:mg x=some (.ref C)
section
variable{M:Model}{A:Around}{E:Value->Shared->Prop}{env:Env}{C:Addr}{bm:List Value}
def aaw{Q:Flow->Shared->Prop}(yf:bm.contains (.type "BaseException")=true)(hh:A.handled=none)
  (h:wpAny M A x (λv s₁=>∃e t nm q N bs km sn sub ab col dd k0 k1 k2 k3 k5 newId,v = .ref e/\s₁.heap.get? C=some (excClassObj nm q C N bs bm km sn sub ab col dd k0 k1 k2 k3 k5 newId)/\
   s₁.heap.get? e=some (tu C none t)/\E (.ref e) s₁) E s) :
  wpAny M A (raiseStmt env (some x) none) Q E s:=by
 have GL:(Value.ref C::bm).contains (.type "BaseException")=true:=by rw[uT,yf,rO]
 unfold raiseStmt
 refine ah (gF h (λv s₁ h₁=>?_) λ_ _ x=>x)
 obtain⟨e,t,nm,q,N,bs,km,sn,sub,ab,col,dd,k0,k1,k2,k3,k5,newId,rfl,hC,he,hE⟩:=h₁
 obtain⟨hp,g,d,tk,os⟩:=s₁
 repeat (first | with_reducible refine xE he ?_ | with_reducible refine xE hC ?_ | (with_reducible refine LQ hC ?_;rw[GL]) | wp_step)
 exact wpAny_raiseNew_none hh hE
end
def aax(C:Addr)(E:XK)(t:TA):TS:=λ_ O H=>t O H λvs H1=>∃v,vs=[v]/\∀e,H1 e=none->E (.ref C) (some e) (upd H1 e (kq C none e))
section
variable{X:Cx}{C CE:Addr}{x:Str}{e0:Expr}{t:TA}{np dM pos:Pos}{E:XK}
def aay(R:GO X.K X.mg x C CE)(aaz:X.calm=true)(hg:Gl X x)(ha:PA (X.cK (Fx X E)) [e0] t)
  (dR:(x==("__debug__":Str))=false:=by decide) (he:starEach [e0] X.env=(false,eval e0 X.env)::starEach [] X.env:=by rfl) (hpl:(backTo dM (starEach [] X.env)).any (·.1)=false:=by rfl) :
  PS (X.cK (Fx X E)) (.Raise (some (.Call (.Name x np) [e0] [] dM)) none pos) (aax C E t):=by
 intro pins s O H D I h
 have hh:X.A.handled=none:=I.ok.hd aaz
 rw[arm_exec_Raise]
 refine ah (Ee ?_)
 simp only[evalOpt,Option.map]
 refine aaw (C:=C) (bm := .ref CE::fB) (by rw[uT,show fB.contains (.type "BaseException")=true from by decide +kernel,rO]) hh (ah ?_)
 refine gF (Q:=λv s₁=>∃e t nm q N bs km sn sub ab col dd k0 k1 k2 k3 k5 newId,v = .ref e/\s₁.heap.get? C=some (excClassObj nm q C N bs (.ref CE::fB) km sn sub ab col dd k0 k1 k2 k3 k5 newId)/\
   s₁.heap.get? e=some (tu C none t)/\Fx X E (.ref e) s₁) ?_ (λv s3 h3=>ah (Ee (aL h3))) λ_ _ z=>z
 refine rH (qj (X:=X.cK (Fx X E)) I hg R.mg ?_ dR)
 refine Ei (h₀:=X.base) I.ok.mod.n8 R.kp (aC (ha dM pins s O H _ I h) λus s1 ⟨vs,H1,I1,r,q0⟩=>⟨I1.cG,?_⟩) he hpl
 obtain⟨v,rfl,q⟩:=q0
 obtain⟨u,rfl,ru⟩:=vals1 r
 obtain⟨nm,qn,N,bs,km,sn,sub,ab,col,dd,k0,k1,k2,k3,k5,mN,cd,hC,hN,hi,hT,eN,Gx⟩:=(σ0 I1.cG R.cls).ex
 obtain⟨hp,g,d,tk,os⟩:=s1
 refine aat hT hC hN hi λh' u' yO k=>?_
 have oo:H1 (hp.objs.size+1)=none:=I1.aA.fresh (gw _)
 have I2:=I1.laid (a:=hp.objs.size+1) (o:=kq C none (hp.objs.size+1)) (h':=h') (t':=tk) (λb o z=>k b o z) (gw _) (OL rfl yO)
 exact⟨_,_,_,_,_,_,_,_,_,_,_,_,_,_,_,_,_,_,rfl,k _ _ hC,yO,hp.objs.size+1,C,none,O,_,rfl,I2.gI.GI,ao,.inl ⟨_,rfl,yO,rfl⟩,q _ oo⟩
end
section
variable{prog:Program}{w:World}{A:Around}{E:Value->Shared->Prop}{s:Shared}{K:Frag}{C e dx:Addr}{vs:Array Value}{bm:List Value}{cd:ClassData}
def aaA{ox:Obj}{od:Option Obj}{Q:Option Value->Shared->Prop}(X:K.In s.heap)(hI:XI K C)(J:PySem.W.InstAt s.heap e ox C od)(h:Q (some (.ref C)) { s with toks:=s.toks+1 }) :
  wpAny (model prog w) A (getAttr? (.ref e) "__class__") Q E s:=by
 obtain⟨⟨cd,hc,hmB,hmO,cE⟩,hg,hga,eN,GQ,tG⟩:=hI
 have hf:PySem.W.findObj K C od "__class__"=some (.bind (.builtin "getset_descriptor.__get__") (.builtin "object.__class__")):=(by unfold PySem.W.findObj;rw[hc,LR,eN,LR];simp[GQ,tG])
 have L0:=J.type (M:=model prog w)
 have L1:=Lw (M:=model prog w) X hg
 have L2x:=Lw (M:=model prog w) X hga
 have L3:=PySem.W.looks_find (M:=model prog w) X J hf
 have sub:Looks (model prog w) s.heap (isInstance (.ref e) (.type "BaseException")) true:=J.type.andThen (PySem.W.looks_mroIn X (by unfold mroIn;rw[hc,LR,av (by rw[cE];decide),hmB]))
 have Gx:mroIn K C (.type "object")=some true:=by unfold mroIn;rw[hc,LR,av (by rw[cE];decide),hmO]
 have hk:builtinKind "BaseException.__getattribute__"=some .slot:=by decide +kernel
 have aaB:splitId "BaseException.__getattribute__"=some ("BaseException","__getattribute__"):=by decide +kernel
 have GR:(Value.builtin "BaseException.__getattribute__"==Value.builtin "object.__getattribute__")=false:=by decide +kernel
 have σ1:(onTheHeap (Value.ref C)&&Value.builtin "BaseException.__getattribute__"==Value.builtin "object.__getattribute__")=false:=by rw[GR];rfl
 obtain⟨hh,g,d,t,os⟩:=s
 unfold getAttr? getAttrBy? getAttrBy
 refine ah (wpAny_mkText (ah (uM (iL (ah (L0.at (ah (L1.at ?_))))))))
 dsimp only
 rw[σ1]
 show wpAny _ _ (getAttrByItsOwn _ _ _ _ _ _) _ _ _
 unfold getAttrByItsOwn hookBefore
 refine ah ?_
 rw[az (show onTheHeap (Value.ref C)=true from rfl)]
 refine L2x.at (ah (uM (iL ?_)))
 unfold callGetattribute
 rw[av (by decide)]
 unfold boundAndCalled
 rw[aac]
 refine ah (aL (nT ?_))
 refine LO (by decide +kernel) F.entry_bexc_ga (@PySem.W.check_slot (model prog w) _ _ ⟨hh,g,d,t+1,os⟩ "BaseException.__getattribute__" "BaseException" "__getattribute__" (.ref e) [.str "__class__" t] [] _ hk aaB sub (F.args_bexc_ga _ _) ?_)
 refine ah (aL (ah (aL (ah (L0.at (ah (L3.at ?_)))))))
 show wpAny _ _ (holding [Value.builtin "object.__class__"] (call (.builtin "getset_descriptor.__get__") [.builtin "object.__class__",.ref e,.ref C]) >>= ret) _ _ _
 refine ah (iL (nT (PySem.W.class_get (s:=⟨hh,g,d,t+1,os⟩) (ox:=ox) (od:=od) X J Gx ?_)))
 refine aL ?_
 show wpAny _ _ (handedOut (.ref C)) _ _ _
 rw[PySem.W.handedOut_of rfl]
 exact aL (aL h)
def aaC(hI:XI K C):PySem.W.KitX K (.ref e) (.ref C) (λh=>∃ox od,PySem.W.InstAt h e ox C od) where
 ty:=λ_ _ _ ⟨_,_,J⟩=>J.type
 it:=λM h X _ A' Q' E' s' k q=>by
  obtain⟨cd',jT,_⟩:=hI.ec
  obtain⟨o,ho,hd⟩:=OZ X jT
  unfold isType loadHead
  refine ah (wpAny_loadPart (k _ _ ho) ?_)
  rw[hd]
  exact aL q
 ne:=λh tp dd its n sl X BV=>by
  obtain⟨cd',jT,_⟩:=hI.ec
  obtain⟨o,ho,hd⟩:=OZ X jT
  cases hq:(Value.ref C==Value.ref tp) with
  |false=>rfl
  |true=>
   cases Value.ref.inj (jM.mp hq)
   rw[ho] at BV
   cases BV
   cases hd
 ca:=λX ⟨_,_,J⟩ k=>aaA X hI J k
end
section
variable{X:Cx}{K:Frag}{C e:Addr}
def Inv.instN(I:Inv X pins O H s)(he:H e=some (kq C none e)):∃ox od,PySem.W.InstAt s.heap e ox C od:=by
 obtain⟨⟨vs,_,h1⟩,_,_⟩:=I.aA e _ he
 exact⟨_,none,h1,rfl,rfl,trivial⟩
def kr(hK:X.K=K):il X (.builtin "isinstance") (λxs H Q=>∃e C c v b,xs=[.ref e,c]/\H e=some (kq C none e)/\XI K C/\(∀u,RelV c u->u=v)/\kitOne K (.ref C) v=some b/\Q (.bl b) H):=by
 subst hK
 intro pins s O H xs us Q I r h
 obtain⟨e,C,c,v,b,rfl,he,hI,hv,hk,q⟩:=h
 obtain⟨u,u2,rfl,ru,ru2⟩:=vals2 r
 cases ru
 cases hv _ ru2
 exact mR (aaC hI) I.cG (I.instN he) hk (λz=>nomatch z) λtk=>⟨.bl b,H,I.tok tk,rfl,q⟩
end
def aaD{CE:Addr}(X:K.In h)(hX:tH K C CE=true)(get:findIn K (.ref C) "__getattribute__"=some (some (.builtin "BaseException.__getattribute__")))(OY:findIn K (.ref C) "__getattr__"=some none)
  (eN:findIn K (.ref C) "__class__"=some (some (.builtin "object.__class__")))
  (GQ:specialIn K (.builtin "object.__class__") "__get__"=some (some (.builtin "getset_descriptor.__get__"))) (tG:takesIn K (.builtin "object.__class__")=some true):XI K C:=by
 obtain⟨nm,qn,N,bs,hd,sn,sub,ab,col,dd,k0,k1,k2,k3,k5,mN,cd,_,_,_,_,hc,hm⟩:=(σ0 X hX).ex
 have b1:fB.contains (.type "BaseException")=true:=by decide +kernel
 have b2:fB.contains (.type "object")=true:=by decide +kernel
 exact⟨⟨cd,hc,by rw[hm,uT,uT,b1,rO,rO],by rw[hm,uT,uT,b2,rO,rO],by rw[hm];rfl⟩,get,OY,eN,GQ,tG⟩
def aaE{CE:Addr}(h:tH K C CE=true):mn K C (.ref CE::fB)=true:=by
 unfold tH at h
 unfold mn
 split at h
 .rename_i ho
  try rw[ho]
  split at h
  .rename_i hm hs
   simp only[d9,jM,LC] at h
   obtain⟨⟨⟨⟨⟨⟨rfl,rfl⟩,tE⟩,ht⟩,yS⟩,aA⟩,GN⟩:=h
   try simp only[hm,hs]
   rw[yS,tE]
   simp
  .cases h
 .cases h
def oN{t u:TS}{D:Ends}(h:∀N:St->Hp->Prop,(∀O H,u D O H->N O H)->t { D with nx:=N } O H):EN t u D O H:=h _ λ_ _ x=>x
end L2
namespace Cw
open PySem
variable{x:Str}{ch h i j n w:Nat}{c d:C2}{α:Type}{l:List Str}{cs:List C2}
def nA{y:Str}(h:x.cps.toList=y.cps.toList):x=y:=by
 cases x;cases y
 exact fc Str.mk (Array.toList_inj.mp h)
def nB(x y:Str):(x++y).cps.toList=x.cps.toList++y.cps.toList:=by
 show(x.cps++y.cps).toList=_
 simp
def cu(x:Str):x.cps.toList.length=x.length:=by simp[Str.length]
noncomputable def cellAt(ns:List Int)(k:Nat):Int:=ns.getD k 0
def qI(c:Nat):Prop:=c=35\/c=46\/(97<=c/\c<=122)
structure aZ(l:List Str)(w:Nat):Prop where
 one:1<=l.length
 nine:l.length<=9
 w1:1<=w
 w9:w<=9
 len:∀x∈l,x.length=w
 ok:∀x∈l,∀c∈x.cps.toList,qI c
noncomputable def iX:Str:="abcdefghijklmnopqrstuvwxyz"
def BW:iX.cps.toList=(List.range 26).map (97 + ·):=by decide +kernel
noncomputable def cells(h w:Nat):List (Nat×Nat):=(List.range h).flatMap λi=>(List.range w).map λj=>(i,j)
def GS(h w:Nat):cells (h+1) w=cells h w++(List.range w).map λj=>(h,j):=by
 unfold cells
 rw[nV,LU]
 simp
def jv(h w:Nat):(cells h w).length=h*w:=by
 induction h with
 |zero=>simp[cells]
 |succ h ih=>rw[GS,di,ih,aw,mS,iN]
theorem vN{w:Nat}:∀{h i j:Nat},i<h->j<w->(cells h w)[i*w+j]? = some (i,j)
 |0,_,_,hi,_=>absurd hi (ic _)
 |h+1,i,j,hi,hj=>by
  rw[GS]
  by_cases e:i<h
  .have:i*w+j<(cells h w).length:=by
    rw[jv]
    have h1:(i+1)*w<=h*w:=Ez w e
    rw[iN] at h1
    lia
   rw[Lx this]
   exact vN e hj
  .have e:i=h:=by lia
   subst e
   rw[Az (by rw[jv];lia),jv,Nat.add_sub_cancel_left,bw,rM hj]
   rfl
def nC{c:Nat×Nat}(m:c∈cells h w):c.1<h/\c.2<w:=by
 unfold cells at m
 obtain⟨i,hi,m⟩:=AQ.mp m
 obtain⟨j,hj,rfl⟩:=bM.mp m
 exact⟨iK.mp hi,iK.mp hj⟩
def aaF(hi:i<h)(hj:j<w):(i,j)∈cells h w:=bj (vN hi hj)
def BX{c:Nat×Nat}(e:(cells h w)[n]? = some c):n=c.1*w+c.2/\c.1<h/\c.2<w:=by
 have hn:n<h*w:=by rw[<-jv];exact(bY.mp e).1
 have hw:0<w:=by
  rcases Nat.eq_zero_or_pos w with z | z
  .rw[z] at hn;simp at hn
  .exact z
 have hi:n / w<h:=LV (by rw[qb];exact hn)
 have hj:n % w<w:=Nat.mod_lt _ hw
 have q:=vN hi hj
 have e2:n / w*w+n % w=n:=by rw[qb];exact Nat.div_add_mod n w
 rw[e2,e] at q
 cases q
 exact⟨e2.symm,hi,hj⟩
def σ3(hi:i<h)(hj:j<w):(cells h w).take (i*w+j+1)=(cells h w).take (i*w+j)++[(i,j)]:=by
 rw[eJ,vN hi hj]
 rfl
noncomputable def sg(l:List Str)(c:Nat×Nat):Nat:=((l.getD c.1 ⟨#[]⟩).cps.toList).getD c.2 0
def b7{l:List α}{x d:α}(h:l[i]? = some x):l.getD i d=x:=by rw[bQ,h];rfl
def aZ.row(S:aZ l w)(hi:i<l.length):∃x,l[i]? = some x/\x∈l/\x.length=w/\x.cps.toList.length=w/\∀j,j<w->x.cps.toList[j]? = some (sg l (i,j)):=by
 refine⟨l[i],bf hi,nY hi,S.len _ (nY hi),by rw[cu];exact S.len _ (nY hi),λj hj=>?_⟩
 have hl:j<l[i].cps.toList.length:=by rw[cu,S.len _ (nY hi)];exact hj
 unfold sg
 rw[b7 (bf hi),bf hl]
 simp only[b7 (bf hl)]
noncomputable def bL(l:List Str)(c:Nat×Nat):Bool := !decide (sg l c=35)
noncomputable def qJ(l:List Str)(c:Nat×Nat):Bool:=decide (sg l c=46)
noncomputable def ba(l:List Str)(w:Nat):List (Nat×Nat):=(cells l.length w).filter (bL l)
noncomputable def dk(l:List Str)(w:Nat):List (Nat×Nat):=(cells l.length w).filter (qJ l)
def vO(S:aZ l w):(cells l.length w).length<=81:=by
 rw[jv]
 exact uP S.nine S.w9
noncomputable def bJ(x:Str)(j ch:Nat):Str:=⟨(x.cps.toList.take j++ch::x.cps.toList.drop (j+1)).toArray⟩
noncomputable def setC(l:List Str)(c:Nat×Nat)(ch:Nat):List Str:=l.set c.1 (bJ (l.getD c.1 ⟨#[]⟩) c.2 ch)
def dg(l:List Str)(c:Nat×Nat)(ch:Nat):(setC l c ch).length=l.length:=by unfold setC;rw[En]
theorem yT(h:j<x.length):(bJ x j ch).length=x.length:=by
 show(x.cps.toList.take j++ch::x.cps.toList.drop (j+1)).toArray.size=x.length
 have hl:x.cps.toList.length=x.length:=cu x
 rw[br,di,jN,dO,Em,hl]
 lia
theorem GU{k:Nat}(h:j<x.length)(hk:k<x.length):(bJ x j ch).cps.toList[k]? = if k=j then some ch else x.cps.toList[k]? :=by
 have hl:x.cps.toList.length=x.length:=cu x
 have e:(bJ x j ch).cps.toList=x.cps.toList.take j++ch::x.cps.toList.drop (j+1):=by simp[bJ]
 have ht:(x.cps.toList.take j).length=j:=by rw[jN];lia
 rw[e]
 rcases Nat.lt_trichotomy k j with h1 | h1 | h1
 .rw[av (by lia),Lx (by lia),AA h1]
 .subst h1
  rw[az rfl,Az (by lia),ht,Nat.sub_self]
  rfl
 .rw[av (by lia),Az (by lia),ht]
  obtain⟨m,rfl⟩:∃m,k=j+1+m:=⟨k - (j+1),by lia⟩
  rw[show j+1+m - j=m+1 by lia,List.getElem?_cons_succ,List.getElem?_drop]
def GV{a b:Str}(ha:a.cps.toList=x.cps.toList.take j)(hb:b.cps.toList=x.cps.toList.drop (j+1)):a++⟨#[ch]⟩++b=bJ x j ch:=by
 apply nA
 rw[nB,nB,ha,hb]
 simp[bJ]
def aaG(h:∀c∈x.cps.toList,qI c)(hc:qI ch):∀c∈(bJ x j ch).cps.toList,qI c:=λc m=>by
 have m:c∈x.cps.toList.take j++ch::x.cps.toList.drop (j+1):=by simpa[bJ] using m
 rcases cS.mp m with z | z
 .exact h c (AR z)
 .rcases cw.mp z with z | z
  .rw[z];exact hc
  .exact h c (UH z)
theorem tI(S:aZ l w){c:Nat×Nat}(h1:c.1<l.length)(h2:c.2<w)(hc:qI ch):aZ (setC l c ch) w:=by
 obtain⟨x,hx,mx,lx,qK,hj⟩:=S.row h1
 refine⟨by rw[dg];exact S.one,by rw[dg];exact S.nine,S.w1,S.w9,λy my=>?_,λy my=>?_⟩
 .unfold setC at my
  rcases LW my with z | z
  .exact S.len y z
  .rw[z,b7 hx,yT (by lia),lx]
 .unfold setC at my
  rcases LW my with z | z
  .exact S.ok y z
  .rw[z,b7 hx]
   exact aaG (S.ok x mx) hc
abbrev C2:=Nat×Nat
noncomputable def go(c d:C2)(n:Nat):C2:=(c.1+n*d.1,c.2+n*d.2)
noncomputable def line(c d:C2)(n:Nat):List C2:=(List.range n).map (go c d)
def jw(c d:C2):go c d 0=c:=by simp[go]
def go_succ(c d:C2)(n:Nat):go c d (n+1)=((go c d n).1+d.1,(go c d n).2+d.2):=by
 simp only[go,iN,Nat.add_assoc]
def σ4(c d:C2)(n:Nat):line c d (n+1)=line c d n++[go c d n]:=by
 unfold line
 rw[nV,eW]
 rfl
def tJ(c d:C2)(n:Nat):(line c d n).length=n:=by simp[line]
noncomputable def runN(op:C2->Bool)(d:C2):Nat->C2->Nat
 |0,_=>0
 |f+1,c=>if op c=true then runN op d f (c.1+d.1,c.2+d.2)+1 else 0
theorem GW{op:C2->Bool}{d:C2}:∀{f n:Nat}{c:C2},n<f->(∀k,k<n->op (go c d k)=true)->op (go c d n)=false->runN op d f c=n
 |0,_,_,h,_,_=>absurd h (ic _)
 |f+1,0,c,_,_,h=>by
  rw[jw] at h
  unfold runN
  rw[h,av b8]
 |f+1,n+1,c,hf,hk,h=>by
  have h0:=hk 0 (Nat.succ_pos _)
  rw[jw] at h0
  have e:∀k,go c d (k+1)=go (c.1+d.1,c.2+d.2) d k:=λk=>by
   simp only[go,iN,nZ]
   lia
  unfold runN
  rw[h0,az rfl,GW (f:=f) (n:=n) (by lia) (λk q=>by rw[<-e];exact hk (k+1) (by lia)) (by rw[<-e];exact h)]
noncomputable def iy(op:C2->Bool)(d c:C2):Bool:=decide (d.1<=c.1)&&(decide (d.2<=c.2)&&op (c.1 - d.1,c.2 - d.2))
noncomputable def cf(op:C2->Bool)(d c:C2):List C2:=if iy op d c=true then [] else if runN op d 10 c<2 then [] else line c d (runN op d 10 c)
noncomputable abbrev oO(op:C2->Bool):C2->List C2:=cf op (0,1)
noncomputable abbrev nE(op:C2->Bool):C2->List C2:=cf op (1,0)
noncomputable def eQ(op:C2->Bool)(c:C2):Bool := !(oO op c).isEmpty || !(nE op c).isEmpty
noncomputable def eF(op:C2->Bool)(cs:List C2):Nat:=(cs.filter (eQ op)).length
def σ5(op:C2->Bool)(cs:List C2)(c:C2):eF op (cs++[c])=if eQ op c=true then eF op cs+1 else eF op cs:=by
 unfold eF
 rw[ie,dj,kN]
 split
 .rw[di];rfl
 .rw[eV]
noncomputable def dE(op:C2->Bool)(f:C2->List C2):Nat->List C2->List (Nat×List C2)
 |_,[]=>[]
 |n,c::r=>if (f c).isEmpty=true then dE op f (if eQ op c=true then n+1 else n) r else (if eQ op c=true then n+1 else n,f c)::dE op f (if eQ op c=true then n+1 else n) r
theorem σ6(op:C2->Bool)(f:C2->List C2)(c:C2):∀(n:Nat) (cs:List C2),dE op f n (cs++[c]) =
  dE op f n cs++if (f c).isEmpty=true then [] else [(if eQ op c=true then n+eF op cs+1 else n+eF op cs,f c)]
 |n,[]=>by
  show dE op f n [c]=[]++_
  unfold dE
  simp only[dE,Ep]
  rfl
 |n,x::r=>by
  have ih:=σ6 op f c (if eQ op x=true then n+1 else n) r
  have e:eF op (x::r)=(if eQ op x=true then 1 else 0)+eF op r:=by
   unfold eF
   rw[dj]
   split
   .rw[dO,Nat.add_comm]
   .rw[xB]
  have e2:(if eQ op x=true then n+1 else n)+eF op r=n+eF op (x::r):=by
   rw[e]
   split <;> lia
  rw[e2] at ih
  show dE op f n (x::(r++[c]))=_
  unfold dE
  rw[ih]
  split
  .rfl
  .rfl
def GX{op:C2->Bool}(h:(oO op c).isEmpty=false):eQ op c=true:=by unfold eQ;rw[h];rfl
def GY{op:C2->Bool}(h:(nE op c).isEmpty=false):eQ op c=true:=by unfold eQ;rw[h];simp
theorem σ7{op:C2->Bool}{f:C2->List C2}(hf:∀c,(f c).isEmpty=false->eQ op c=true):∀{n:Nat}{cs:List C2}{q:Nat×List C2},q∈dE op f n cs->
  n<q.1/\∃c,(cs.filter (eQ op))[q.1 - n - 1]? = some c/\c∈cs/\q.2=f c/\(f c).isEmpty=false
 |n,[],q,h=>by simp[dE] at h
 |n,x::r,q,h=>by
  unfold dE at h
  have step:q∈dE op f (if eQ op x=true then n+1 else n) r->n<q.1/\∃c,((x::r).filter (eQ op))[q.1 - n - 1]? = some c/\c∈x::r/\q.2=f c/\(f c).isEmpty=false:=λh=>by
   obtain⟨h1,c,h2,h3,h4⟩:=σ7 hf h
   rw[dj]
   by_cases e:eQ op x=true
   .rw[az e] at h1 h2 ⊢
    refine⟨by lia,c,?_,bX _ h3,h4⟩
    have:q.1 - n - 1=(q.1 - (n+1) - 1)+1:=by lia
    rw[this,List.getElem?_cons_succ]
    exact h2
   .rw[av e] at h1 h2 ⊢
    exact⟨h1,c,h2,bX _ h3,h4⟩
  split at h
  .exact step h
  .rename_i he
   rcases cw.mp h with z | z
   .have he:(f x).isEmpty=false:=fK.mpr he
    have hx:=hf x he
    subst z
    rw[az hx]
    refine⟨rG _,x,?_,bz,rfl,he⟩
    rw[dj,az hx,show n+1 - n - 1=0 by lia]
    rfl
   .exact step z
noncomputable def bx(l:List Str)(w:Nat)(c:C2):Bool:=decide (c.1<l.length)&&(decide (c.2<w)&&bL l c)
def oP(h:bx l w c=true):c.1<l.length/\c.2<w/\bL l c=true:=by
 unfold bx at h
 simp only[d9,decide_eq_true_eq] at h
 exact⟨h.1,h.2.1,h.2.2⟩
def nF(h1:c.1<l.length)(h2:c.2<w):bx l w c=bL l c:=by
 unfold bx
 rw[aJ h1,aJ h2,xF,xF]
noncomputable def iz(l:List Str)(w:Nat):List (Nat×List C2):=dE (bx l w) (oO (bx l w)) 0 (ba l w)
noncomputable def oQ(l:List Str)(w:Nat):List (Nat×List C2):=dE (bx l w) (nE (bx l w)) 0 (ba l w)
def Dir(d:C2):Prop:=d=(0,1)\/d=(1,0)
theorem go_inj{x:C2}(hd:Dir d)(h:go x d i=go x d j):i=j:=by
 rcases hd with rfl | rfl
 .simp only[go,nZ,iP,qf] at h;lia
 .simp only[go,nZ,iP,qf] at h;lia
theorem σ8(x d:C2)(i j:Nat):go (go x d i) d j=go x d (i+j):=by
 simp only[go,nZ,Nat.add_mul]
 lia
theorem go_eq{x y:C2}(hd:Dir d)(vP:i<=j)(h:go x d i=go y d j):x=go y d (j - i):=by
 rcases hd with rfl | rfl
 .simp only[go,nZ,iP,qf] at h
  refine EA.mpr ?_
  simp only[go,iP,qf]
  lia
 .simp only[go,nZ,iP,qf] at h
  refine EA.mpr ?_
  simp only[go,iP,qf]
  lia
theorem σ9{op:C2->Bool}{x:C2}(hd:Dir d){k:Nat}(h:op (go x d k)=true):iy op d (go x d (k+1))=true:=by
 have e:((go x d (k+1)).1 - d.1,(go x d (k+1)).2 - d.2)=go x d k:=by
  rcases hd with rfl | rfl
  .simp only[go,nZ,iP,qf];lia
  .simp only[go,nZ,iP,qf];lia
 unfold iy
 rw[e,h,aJ,aJ]
 .rfl
 .rcases hd with rfl | rfl
  .simp only[go,iP];lia
  .simp only[go,qf];lia
 .rcases hd with rfl | rfl
  .simp only[go,qf];lia
  .simp only[go,iP];lia
theorem aaH{op:C2->Bool}(hd:Dir d)(h:iy op d c=true):∃b,c=go b d 1/\op b=true/\b.1+b.2<c.1+c.2:=by
 unfold iy at h
 simp only[d9,decide_eq_true_eq] at h
 refine⟨_,?_,h.2.2,?_⟩
 .refine EA.mpr ?_
  simp only[go,Nat.one_mul]
  lia
 .rcases hd with rfl | rfl
  .have:=h.2.1;simp only at this ⊢;lia
  .have:=h.1;simp only at this ⊢;lia
theorem vQ{op:C2->Bool}{d:C2}:∀{f:Nat}{c:C2}{k:Nat},k<runN op d f c->op (go c d k)=true
 |0,_,_,h=>by unfold runN at h;exact absurd h (ic _)
 |f+1,c,k,h=>by
  unfold runN at h
  split at h
  .rename_i ho
   cases k with
   |zero=>rw[jw];exact ho
   |succ k=>
    have:=vQ (op:=op) (d:=d) (f:=f) (c:=(c.1+d.1,c.2+d.2)) (k:=k) (by lia)
    have e:go c d (k+1)=go (c.1+d.1,c.2+d.2) d k:=by
     simp only[go,iN,nZ]
     lia
    rw[e]
    exact this
  .exact absurd h (ic _)
theorem GZ{op:C2->Bool}{d:C2}:∀{f n:Nat}{c:C2},n<=f->(∀k,k<n->op (go c d k)=true)->n<=runN op d f c
 |_,0,_,_,_=>bG _
 |0,n+1,_,h,_=>absurd h (Nat.not_succ_le_zero _)
 |f+1,n+1,c,h,hk=>by
  have h0:=hk 0 (Nat.succ_pos _)
  rw[jw] at h0
  unfold runN
  rw[h0,az rfl]
  refine mT (GZ (Nat.le_of_succ_le_succ h) λk q=>?_)
  have e:go c d (k+1)=go (c.1+d.1,c.2+d.2) d k:=by
   simp only[go,iN,nZ]
   lia
  rw[<-e]
  exact hk (k+1) (by lia)
theorem G0{op:C2->Bool}{x:C2}(h:c∈cf op d x):¬iy op d x=true/\2<=runN op d 10 x/\∃k,k<runN op d 10 x/\go x d k=c:=by
 unfold cf at h
 split at h
 .exact absurd h fH
 .rename_i h1
  split at h
  .exact absurd h fH
  .obtain⟨k,hk,e⟩:=bM.mp h
   exact⟨h1,by lia,k,iK.mp hk,e⟩
theorem aaI{op:C2->Bool}{x:C2}(h1:¬iy op d x=true)(h2:2<=runN op d 10 x){k:Nat}(hk:k<runN op d 10 x)(e:go x d k=c):c∈cf op d x:=by
 unfold cf
 rw[av h1,av (by lia)]
 exact bM.mpr ⟨k,iK.mpr hk,e⟩
theorem aaJ{op:C2->Bool}{x y:C2}(hd:Dir d)(hx:c∈cf op d x)(hy:c∈cf op d y):x=y:=by
 obtain⟨px,_,i,hi,ei⟩:=G0 hx
 obtain⟨py,_,j,hj,ej⟩:=G0 hy
 have key:∀{x y:C2}{i j:Nat},¬iy op d x=true->j<runN op d 10 y->i<=j->go x d i=c->go y d j=c->x=y:=λ{x y i j} px hj vP ei ej=>by
  have e:=go_eq hd vP (ei.trans ej.symm)
  cases hz:j - i with
  |zero=>rw[hz,jw] at e;exact e
  |succ z=>
   rw[hz] at e
   exact absurd (by rw[e];exact σ9 hd (vQ (f:=10) (by lia))) px
 rcases Nat.le_total i j with h | h
 .exact key px hj h ei ej
 .exact(key py hi h ej ei).symm
theorem aaK{op:C2->Bool}(hd:Dir d):∀(k:Nat) (c:C2),c.1+c.2=k->op c=true->∃x i,c=go x d i/\¬iy op d x=true/\∀j,j<=i->op (go x d j)=true:=by
 intro k
 induction k using Nat.strongRecOn with
 |_ k ih=>
  intro c hc ho
  by_cases hp:iy op d c=true
  .obtain⟨b,e,hb,aT⟩:=aaH hd hp
   obtain⟨x,i,ex,px,ox⟩:=ih (b.1+b.2) (by lia) b rfl hb
   refine⟨x,i+1,?_,px,λj hj=>?_⟩
   .rw[e,ex,σ8]
   .rcases Nat.lt_or_eq_of_le hj with z | z
    .exact ox j (by lia)
    .rw[z,<-σ8,<-ex,<-e];exact ho
  .refine⟨c,0,by rw[jw],hp,λj hj=>?_⟩
   have:j=0:=by lia
   rw[this,jw];exact ho
noncomputable def iA(op:C2->Bool)(d c:C2):Bool:=op c&&(iy op d c||op (go c d 1))
theorem aaL{op:C2->Bool}(hd:Dir d)(hb:∀c,op c=true->c.1<9/\c.2<9)(h:iA op d c=true):∃x,op x=true/\c∈cf op d x:=by
 unfold iA at h
 simp only[d9,uI] at h
 obtain⟨ho,hs⟩:=h
 obtain⟨x,i,e,px,ox⟩:=aaK hd _ c rfl ho
 have hx:op x=true:=by have:=ox 0 (bG _);rw[jw] at this;exact this
 have hi:i<=8:=by
  have:=hb c ho
  rcases hd with rfl | rfl
  .rw[e] at this;simp only[go,iP] at this;lia
  .rw[e] at this;simp only[go,iP] at this;lia
 have h1:i+1<=runN op d 10 x:=GZ (by lia) λk hk=>ox k (by lia)
 have h2:2<=runN op d 10 x:=by
  rcases Nat.eq_zero_or_pos i with z | z
  .subst z
   rw[jw] at e
   subst e
   have hn:op (go c d 1)=true:=by
    rcases hs with hs | hs
    .exact absurd hs px
    .exact hs
   refine GZ (by lia) λk hk=>?_
   rcases(by lia:k=0\/k=1) with z | z
   .rw[z,jw];exact ho
   .rw[z];exact hn
  .lia
 exact⟨x,hx,aaI px h2 (by lia) e.symm⟩
theorem aaM{op:C2->Bool}{x:C2}(hd:Dir d)(h:c∈cf op d x):iA op d c=true:=by
 obtain⟨px,h2,k,hk,e⟩:=G0 h
 have ho:op c=true:=by rw[<-e];exact vQ hk
 unfold iA
 rw[ho,xF,uI]
 cases k with
 |zero=>
  rw[jw] at e
  rw[<-e]
  exact .inr (vQ (f:=10) (by lia))
 |succ k=>rw[<-e];exact .inl (σ9 hd (vQ (f:=10) (by lia)))
def aaN(hd:Dir d)(n:Nat):(line c d n).Nodup:=by
 unfold line
 refine List.Pairwise.map _ (λi j vP=>?_) (List.nodup_range (n:=n))
 exact λe=>vP (go_inj hd e)
def G2{op:C2->Bool}{x:C2}(hd:Dir d):(cf op d x).Nodup:=by
 unfold cf
 split
 .exact je
 .split
  .exact je
  .exact aaN hd _
noncomputable def cO(c:C2)(rs:List (Nat×List C2)):Nat:=(rs.map λq=>q.2.count c).sum
theorem Pa{op:C2->Bool}{f:C2->List C2}(c:C2):∀(n:Nat) (cs:List C2),cO c (dE op f n cs)=(cs.map λx=>(f x).count c).sum
 |n,[]=>rfl
 |n,x::r=>by
  have ih:=Pa (op:=op) (f:=f) c (if eQ op x=true then n+1 else n) r
  unfold dE
  rw[bS,fZ,<-ih]
  split
  .rename_i he
   rw[List.isEmpty_iff.mp he,List.count_nil,xB]
  .unfold cO
   rw[bS,fZ]
theorem vR:∀{l:List Nat},(∀y∈l,y=0)->l.sum=0
 |[],_=>rfl
 |x::r,h=>by rw[fZ,h x bz,vR λy hy=>h y (bX _ hy)]
theorem Pb{α:Type}[DecidableEq α]{g:α->Nat}{a:α}:∀{cs:List α},cs.Nodup->a∈cs->g a=1->(∀x∈cs,x≠a->g x=0)->(cs.map g).sum=1
 |[],_,h,_,_=>absurd h fH
 |x::r,nd,h,ga,gz=>by
  rw[bS,fZ]
  obtain⟨n1,n2⟩:=gG.mp nd
  by_cases e:x=a
  .subst e
   have z:(r.map g).sum=0:=by
    have:∀y∈r.map g,y=0:=λy hy=>by
     obtain⟨u,hu,rfl⟩:=bM.mp hy
     exact gz u (bX _ hu) λe=>n1 (e ▸ hu)
    exact vR this
   rw[ga,z]
  .rcases cw.mp h with q | q
   .exact absurd q.symm e
   .rw[gz x bz e,xB]
    exact Pb n2 q ga λy hy=>gz y (bX _ hy)
theorem aaO(h w:Nat):(cells h w).Nodup:=by
 refine LX.mpr λi j hi hj vP e=>?_
 have h1:(cells h w)[i]? = some (cells h w)[i]:=bf hi
 have h2:(cells h w)[j]? = some (cells h w)[j]:=bf hj
 rw[<-e] at h2
 obtain⟨e1,_⟩:=BX h1
 obtain⟨e2,_⟩:=BX h2
 lia
def Pc{op:C2->Bool}(hd:Dir d)(hb:∀c,op c=true->c.1<9/\c.2<9)(hn:cs.Nodup)(hc:∀x,op x=true->x∈cs):cO c (dE op (cf op d) n cs)=if iA op d c=true then 1 else 0:=by
 rw[Pa]
 by_cases h:iA op d c=true
 .rw[az h]
  obtain⟨x,hx,hm⟩:=aaL hd hb h
  refine Pb hn (hc x hx) ?_ λy _ hy=>?_
  .exact Nat.le_antisymm (List.nodup_iff_count.mp (G2 hd) c) (List.count_pos_iff.mpr hm)
  .refine LY.mpr λz=>hy (aaJ hd z hm)
 .rw[av h]
  refine vR λy hy=>?_
  obtain⟨u,hu,rfl⟩:=bM.mp hy
  exact LY.mpr λz=>h (aaM hd z)
def yU(l:List Str)(w:Nat):(ba l w).Nodup:=List.Pairwise.filter _ (aaO _ _)
def yV(h:bx l w c=true):c∈ba l w:=by
 obtain⟨h1,h2,h3⟩:=oP h
 exact cq.mpr ⟨aaF h1 h2,h3⟩
theorem Pd(S:aZ l w):∀c,bx l w c=true->c.1<9/\c.2<9:=λc h=>by
 obtain⟨h1,h2,_⟩:=oP h
 have:=S.nine
 have:=S.w9
 lia
def BY(S:aZ l w)(c:C2):cO c (iz l w)=if iA (bx l w) (0,1) c=true then 1 else 0:=Pc (.inl rfl) (Pd S) (yU l w) λ_ h=>yV h
def G3(S:aZ l w)(c:C2):cO c (oQ l w)=if iA (bx l w) (1,0) c=true then 1 else 0:=Pc (.inr rfl) (Pd S) (yU l w) λ_ h=>yV h
end Cw
namespace Cw
open PySem L2
variable{ns:List Int}{H H' H1:Hp}{c d e:C2}{x:Str}{a ch h i j n pl w:Nat}{Xs es g ks l loose m ps s ws:List Str}{K:Frag}{o p:Nat×Nat}{us xs ys zs:List V}{α β:Type}{cs r:List C2}{q:Nat×List C2}{Av C CB CC CG CS CW K5 K6 K7 K8 K9 La Lb Lc Ld Le Lf Ul Um b dx eU f fa fo jb kn mP pS rE xp:Addr}{kvs:List (Key×V)}{dv:Value}{u v:V}{R rs:List (List C2)}{wf:Str->Int}{g':C2->List (Nat×Nat)}{Cs ls ts:List Addr}{A:List (Nat×Nat)}{Z Z':Addr->Prop}{dI new nw:List (List Str)}{E:XK}{mg:Str->Option Value}{ahe ahl:Option Addr}{ahg ahn:Array (Option Value)}{XP:(Str->Option Value)->Heap->Prop}{YP:World->Heap->Prop}{P:Program}{base:Heap}{fd:FuncData}
noncomputable def top(i:Nat):Stmt:=PySem.Challenge.pw_crosswright_k51_whole_least_givens.main.body.getD i (.Pass ⟨0,0,0,0⟩)
structure Bl(mg:Str->Option Value):Prop where
 cj:mg "len"=none
 iB:mg "range"=none
 oU:mg "tuple"=none
 tK:mg "list"=none
 Pe:mg "str"=none
 fS:mg "isinstance"=none
 Pf:mg "all"=none
 BZ:mg "sorted"=none
 yW:mg "enumerate"=none
 vS:mg "zip"=none
 aaP:mg "sum"=none
 aaQ:mg "dict"=none
 aaR:mg "min"=none
 aaS:mg "reversed"=none
 aaT:mg "set"=none
 aaU:mg "ValueError"=none
section
variable{w:World}
def B1(K:Frag):Sp:=λvs H Q _=>∃(a:Addr) (ns:List Int) (k:Nat),vs=[.ref a,.int k]/\aj K H a (ns.map V.int)/\Q (.int (cellAt ns k)) H
theorem aaV{k:Nat}(h:k<ns.length):(ns.map V.int)[k]? = some (.int (cellAt ns k)):=by grind [cellAt]
theorem aaW:bh ["_law_script","_law_k"] ["_law_script","_law_k"] (aN (top 66)):={}
theorem aaX(B:Bl mg)(F:aW K "_law_cell_at" "_law_cell_at" (top 66) f fd):aK P w K mg base aP 1 f fd ["_law_script","_law_k"] (B1 K):=by
 refine F.bE aaW λaE A outer s H vs Q E hr h=>?_
 refine hide λG_ aD=>?_
 obtain⟨a,ns,k,rfl,hS,q⟩:=h
 refine aD.k ?_
 refine⟨_,(aq (bH (bO mZ (pv 1) (bg dX (by rfl) B.cj b9 (ae (pv 0) ag)))
  (au (aS (aV gj (pv 0) (pv 1))))
  bN)
  (au (aS aF))),?_⟩
 try dsimp only[bt]
 refine⟨_,rfl,_,rfl,a,_,rfl,.inl hS,_,_,rfl,rfl,_,rfl,eY (λh=>?_) (λh=>?_)⟩
 .have h:(k:Int)<((ns.map V.int).length:Int):=fG h
  rw[aw] at h
  exact⟨_,rfl,_,rfl,a,_,_,_,rfl,rfl,hS,dz (aaV (by lia)),q⟩
 .have h:¬(k:Int)<((ns.map V.int).length:Int):=λz=>h (aJ z)
  rw[aw] at h
  have e:cellAt ns k=0:=by
   unfold cellAt
   rw[bQ,cZ (by lia)]
   rfl
  rw[e] at q
  exact q
end
def nG(H:Hp)(c:Nat×Nat)(x:V):Prop := ∃a,x = .ref a/\H a=some (.tup [.int c.1,.int c.2])
abbrev bq(H:Hp)(cs:List (Nat×Nat))(xs:List V):Prop:=Paired (nG H) cs xs
theorem nG.mono{c:Nat×Nat}{x:V}(s:af H H')(h:nG H c x):nG H' c x:=let ⟨a,e,q⟩:=h;⟨a,e,s _ _ q⟩
theorem nG.off{D:Addr}{c:Nat×Nat}{x:V}(hD:∃o,H D=some (.lst o))(k:∀b o,b≠D->H b=some o->H' b=some o)(h:nG H c x):nG H' c x:=by grind [nG]
theorem bq.mono{H H':Hp}{cs:List (Nat×Nat)}{xs:List V}(s:af H H')(h:bq H cs xs):bq H' cs xs:=Paired.bU h λ_ _ q=>q.mono s
theorem bq.off{H H':Hp}{D:Addr}{cs:List (Nat×Nat)}{xs:List V}(hD:∃o,H D=some (.lst o))(k:∀b o,b≠D->H b=some o->H' b=some o)(h:bq H cs xs):bq H' cs xs:=Paired.bU h λ_ _ q=>q.off hD k
theorem B2(n m:Nat):decide (V.str ⟨#[n]⟩=V.str ⟨#[m]⟩)=decide (n=m):=by grind
theorem qL:("#":Str)=⟨#[35]⟩:=by decide +kernel
theorem tL:(".":Str)=⟨#[46]⟩:=by decide +kernel
section
variable{w:World}
theorem eS(h:n<=10000):n<=sizeLine:=bF h (by decide)
theorem vT(h:n<=10000):n<sizeLine:=lK h (by decide)
theorem jz(h:l[i]? = some x):gO (l.map V.str) (i:Int)=some (.str x):=dz (by rw[bw,h];rfl)
def B3(K:Frag):Sp:=λvs H Q _=>∃(a b:Addr) (l:List Str) (w:Nat) (c:Nat×Nat),vs=[.ref a,.ref b]/\ak K H a (l.map V.str)/\aZ l w/\ak K H b [.int c.1,.int c.2]/\c.1<l.length/\c.2<w/\Q (.str ⟨#[sg l c]⟩) H
theorem aaY:bh ["sheet","cell"] ["sheet","cell"] (aN (top 21)):={}
theorem aaZ(F:aW K "sign_at" "sign_at" (top 21) f fd):aK P w K mg base aP 1 f fd ["sheet","cell"] (B3 K):=by
 refine F.bE aaY λaE A outer s H vs Q E hr h=>?_
 refine hide λG_ aD=>?_
 obtain⟨a,b,l,wd,c,rfl,hT,S,hb,h1,h2,q⟩:=h
 obtain⟨x,hx,mx,lx,qK,hj⟩:=S.row h1
 refine aD.k ?_
 have hw:=S.w9
 refine⟨_,(au (aS (aV iq (aV bV (pv 0) (aV bV (pv 1) aF)) (aV bV (pv 1) aF)))),?_⟩
 try dsimp only[bt]
 exact⟨_,rfl,_,rfl,b,_,0,.int c.1,rfl,rfl,hb,rfl,a,_,_,.str x,rfl,rfl,hT,jz hx,_,rfl,b,_,1,.int c.2,rfl,rfl,hb,rfl,x,_,sg l c,rfl,rfl,eS (by lia),dz (hj c.2 h2),q⟩
def B4(K:Frag):Sp:=λvs H Q _=>∃(a b:Addr) (l:List Str) (w:Nat) (c:Nat×Nat),vs=[.ref a,.ref b]/\ak K H a (l.map V.str)/\aZ l w/\ak K H b [.int c.1,.int c.2]/\c.1<l.length/\c.2<w/\Q (.bl (bL l c)) H
theorem aa0:bh ["sheet","cell"] ["sheet","cell"] (aN (top 22)):={}
theorem aa1(F:aW K "is_open" "is_open" (top 22) f fd)(G4:Cn mg "SHUT" (.str "#"))(yX:Fn P w K mg base "sign_at" 1 (B3 K)):aK P w K mg base aP 2 f fd ["sheet","cell"] (B4 K):=by
 refine F.bE aa0 λaE A outer s H vs Q E hr h=>?_
 refine hide λG_ aD=>?_
 obtain⟨a,b,l,wd,c,rfl,hT,S,hb,h1,h2,q⟩:=h
 refine aD.k ?_
 refine⟨_,(au (aS (r6 jm (aR yX hr (ae (pv 0) (ae (pv 1) ag))) (eP G4 (by rfl))))),?_⟩
 try dsimp only[bt]
 refine⟨_,rfl,_,rfl,a,b,l,wd,c,rfl,hT,S,hb,h1,h2,rfl,?_⟩
 rw[qL,B2]
 exact q
def G5(K:Frag):Sp:=λvs H Q _=>∃(a:Addr) (l:List Str) (w:Nat),vs=[.ref a]/\ak K H a (l.map V.str)/\aZ l w/\
 ∀p xs H',H p=none->af H H'->H' p=some (.lst xs)->bq H' (cells l.length w) xs->Q (.ref p) H'
theorem B5:bh ["sheet","cells","line","column"] ["sheet"] (aN (top 20)):={}
theorem aa2(B:Bl mg)(F:aW K "all_cells" "all_cells" (top 20) f fd):aK P w K mg base aP 1 f fd ["sheet"] (G5 K):=by
 refine F.bE B5 λaE A outer s H vs Q E hr h=>?_
 refine hide λG_ aD=>?_
 obtain⟨a,l,wd,rfl,hT,S,q⟩:=h
 refine aD.k ?_
 have h9:=S.nine
 have hw:=S.w9
 have tM:=vO S
 refine⟨_,(aq (aH 1 B5.nd (du ag))
  (aq (cD (ik (by rfl) B.iB (ae (bg dX (by rfl) B.cj b9 (ae (pv 0) ag)) ag)) (bI 2 B5.nd)
  (au (cD (ik (by rfl) B.iB (ae (bg gy (by rfl) B.cj b9 (ae (aV bV (pv 0) (pv 2)) ag)) ag)) (bI 3 B5.nd)
   (au (d6 (fq iQ jf jg gS (pv 1) (ae (fm (ae (pv 2) (ae (pv 3) ag))) ag (hs:=dN rfl))))))))
  (au (aS (pv 1))))),?_⟩
 try dsimp only[bt]
 refine⟨bG _,λp hp=>?_⟩
 have fC:af H (upd H p (.lst [])):=af.upd hp
 refine⟨_,rfl,a,_,rfl,.inr (fC.tup hT),_,rfl,by rw[aw];lia,by rw[aw];lia,?_⟩
 rw[eI,aw]
 refine kh (λi O H2=>∃v2 v3 xs,O=[some (.ref a),some (.ref p),v2,v3]/\af H H2/\H2 p=some (.lst xs)/\bq H2 ((cells l.length wd).take (i*wd)) xs)
  ⟨none,none,[],rfl,fC,ao,by rw[Nat.zero_mul,nX];exact .nil⟩ ?_ ?_
 .intro i O H2 hi q1_
  refine hide λG_ aX=>?_
  obtain⟨v2,v3,xs,rfl,sm,hL,hC⟩:=q1_
  obtain⟨x,hx,mx,lx,qK,hj⟩:=S.row hi
  refine aX.k ?_
  refine⟨_,rfl,_,rfl,a,_,_,.str x,rfl,rfl,sm.tup hT,jz hx,x,rfl,eS (by lia),_,rfl,by lia,by lia,?_⟩
  rw[eI,lx]
  refine kh (λj O H3=>∃v3 xs,O=[some (.ref a),some (.ref p),some (.int i),v3]/\af H H3/\H3 p=some (.lst xs)/\bq H3 ((cells l.length wd).take (i*wd+j)) xs)
   ⟨v3,xs,rfl,sm,hL,hC⟩ ?_ ?_
  .intro j O H3 B6 q2_
   refine hide λG_ bK=>?_
   obtain⟨v3,ys,rfl,gm,jA,ku⟩:=q2_
   refine bK.k ?_
   refine⟨_,rfl,.inl ⟨rfl,_,aj.of jA⟩,_,rfl,_,rfl,by show 2<=sizeLine;decide,λt ht=>?_⟩
   have vU:t≠p:=bo (bC jA ht)
   have Pg:upd H3 t (.tup [.int i,.int j]) p=some (.lst ys):=by rw[ar (bo vU)];exact jA
   have hlen:ys.length<=81:=by
    have e1:=ku.length
    rw[jN] at e1
    lia
   refine⟨p,ys,_,rfl,rfl,Pg,vT (by lia),some (.int j),ys++[.ref t],rfl,(gm.trans (af.upd ht)).kf hp,ao,?_⟩
   have off:∀b o,b≠p->upd H3 t (.tup [.int i,.int j]) b=some o->upd (upd H3 t (.tup [.int i,.int j])) p (.lst (ys++[.ref t])) b=some o:=λb o hb e=>by rw[ar hb];exact e
   have e2:i*wd+(j+1)=i*wd+j+1:=rfl
   rw[e2,σ3 hi B6]
   exact lJ (bq.off ⟨ys,Pg⟩ off (bq.mono (af.upd ht) ku)) ⟨t,rfl,off t _ vU ao⟩
  .intro O H3 q3_
   refine hide λG_ cJ=>?_
   obtain⟨v3,ys,rfl,gm,jA,ku⟩:=q3_
   refine cJ.k ?_
   refine⟨_,_,ys,rfl,gm,jA,?_⟩
   rw[iN]
   exact ku
 .intro O H2 q4_
  refine hide λG_ eT=>?_
  obtain⟨v2,v3,xs,rfl,sm,hL,hC⟩:=q4_
  refine eT.k ?_
  refine⟨_,rfl,q p xs H2 hp sm hL ?_⟩
  rw[fg (by rw[jv];exact aO _)] at hC
  exact hC
def B7(K:Frag):Sp:=λvs H Q _=>∃(a:Addr) (l:List Str) (w:Nat),vs=[.ref a]/\ak K H a (l.map V.str)/\aZ l w/\
 ∀p xs H',H p=none->af H H'->H' p=some (.lst xs)->bq H' (ba l w) xs->Q (.ref p) H'
theorem aa3:bh ["sheet"] ["sheet"] (aN (top 18)):={}
theorem aa4(F:aW K "open_cells" "open_cells" (top 18) f fd)(G6:Fn P w K mg base "all_cells" 1 (G5 K))(yY:Fn P w K mg base "is_open" 2 (B4 K)):aK P w K mg base aP 3 f fd ["sheet"] (B7 K):=by
 refine F.bE aa3 λaE A outer s H vs Q E hr h=>?_
 refine hide λG_ aD=>?_
 obtain⟨a,l,wd,rfl,hT,S,q⟩:=h
 refine aD.k ?_
 have tM:=vO S
 refine⟨_,(au (aS (iS (js:=[0]) (ns:=["sheet"]) (dJ (aR G6 hr (ae (pv 0) ag))) rfl rfl rfl rfl (λ_ _ _ _=>(lZ (eX (aR yY hr (ae (pv 1) (ae (pv 0) ag)))))) (λ_ _ _ _=>(pv 0))))),?_⟩
 try dsimp only[bt]
 refine⟨_,rfl,a,l,wd,rfl,hT,S,λp xs H1 hp sm hL hC=>⟨p,rfl,⟨_,aj.of hL⟩,?_⟩⟩
 have hlx:=hC.length
 refine lh kg (by lia) (λi=>bL l ((cells l.length wd).getD i (0,0))) (λ_ i y _=>xs[i]? = some y) (λH2 s2=>aj.of (s2 _ _ hL)) (λ_ _ _ _ _ _ _ _ h=>h) ?_ ?_
 .intro D i x H2 Z0 Z hD hx s2 _ k0 k1
  refine hide λG_ aX=>?_
  obtain⟨c,hc,b,rfl,hb⟩:=Paired.get hC hx
  obtain⟨_,m1,m2⟩:=BX hc
  refine aX.k ?_
  have ec:(cells l.length wd).getD i (0,0)=c:=b7 hc
  rw[ec] at k0 k1
  refine⟨_,rfl,_,rfl,a,b,l,wd,c,rfl,(sm.trans s2).tup hT,S,ak.of (s2 _ _ hb),m1,m2,_,rfl,eY (λh=>?_) (λh=>?_)⟩
  .exact⟨_,rfl,k1 _ _ (af.cx _) h hx⟩
  .exact k0 _ (af.cx _) (by simpa using h)
 .intro D ys H2 hD bD s2 pr
  refine q D ys H2 (sm.free hD) (sm.trans s2) bD ?_
  exact Paired.pick (bq.mono s2 hC) (bL l) _ (λi c e=>by rw[b7 e]) pr
end
def qM(H:Hp)(way:Str)(q:Nat×List C2)(x:V):Prop := ∃a t xs,x = .ref a/\H a=some (.tup [.int q.1,.str way,.ref t])/\H t=some (.tup xs)/\bq H q.2 xs
abbrev gC(H:Hp)(way:Str)(qs:List (Nat×List C2))(xs:List V):Prop:=Paired (qM H way) qs xs
theorem qM.mono{H H':Hp}{way:Str}{q:Nat×List C2}{x:V}(s:af H H')(h:qM H way q x):qM H' way q x:=let ⟨a,t,xs,e,h1,h2,h3⟩:=h;⟨a,t,xs,e,s _ _ h1,s _ _ h2,h3.mono s⟩
theorem qM.off{H H':Hp}{D:Addr}{way:Str}{q:Nat×List C2}{x:V}(hD:∃o,H D=some (.lst o))(k:∀b o,b≠D->H b=some o->H' b=some o)(h:qM H way q x):qM H' way q x:=by
 obtain⟨a,t,xs,e,h1,h2,h3⟩:=h
 have vG:=hD
 obtain⟨o,vG⟩:=vG
 exact⟨a,t,xs,e,k a _ (bT h1 vG (by intro z;cases z)) h1,k t _ (bT h2 vG (by intro z;cases z)) h2,bq.off hD k h3⟩
theorem gC.mono{H H':Hp}{way:Str}{qs:List (Nat×List C2)}{xs:List V}(s:af H H')(h:gC H way qs xs):gC H' way qs xs:=Paired.bU h λ_ _ q=>q.mono s
theorem gC.off{H H':Hp}{D:Addr}{way:Str}{qs:List (Nat×List C2)}{xs:List V}(hD:∃o,H D=some (.lst o))(k:∀b o,b≠D->H b=some o->H' b=some o)(h:gC H way qs xs):gC H' way qs xs:=Paired.bU h λ_ _ q=>q.off hD k
theorem Ph{p e:Addr}{o:HO}(hp:H p=some (.lst ys))(h:ak K H e xs):ak K (upd H p o) e xs:=by
 rcases h with (h | ⟨ob,h⟩) | h
 .exact .inl (.inl (by rw[ar (bT h hp (by intro z;cases z))];exact h))
 .exact .inl (.inr ⟨ob,by rw[ar (bT h hp (by intro z;cases z))];exact h⟩)
 .exact .inr h
noncomputable def jV(l:List Str)(w:Nat)(i j:Int):Bool:=decide (0<=i)&&(decide (i<(l.length:Int))&&(decide (0<=j)&&(decide (j<(w:Int))&&bL l (i.toNat,j.toNat))))
theorem G7(l:List Str)(w:Nat)(c:C2):jV l w (c.1:Int) (c.2:Int)=bx l w c:=by simp_all [C2,bx,jV]
theorem Pj(l:List Str)(w:Nat)(c d:C2):jV l w ((c.1:Int) - (d.1:Int)) ((c.2:Int) - (d.2:Int))=iy (bx l w) d c:=by
 unfold iy
 by_cases h1:d.1<=c.1
 .by_cases h2:d.2<=c.2
  .have e1:(c.1:Int) - (d.1:Int)=((c.1 - d.1:Nat):Int):=by lia
   have e2:(c.2:Int) - (d.2:Int)=((c.2 - d.2:Nat):Int):=by lia
   rw[e1,e2,G7 l w (c.1 - d.1,c.2 - d.2),aJ h1,aJ h2,xF,xF]
  .unfold jV
   rw[aI h2,ib,uD,aI (p:=(0:Int)<=(c.2:Int) - (d.2:Int)) (by lia),ib,uD,uD]
 .unfold jV
  rw[aI h1,ib,aI (p:=(0:Int)<=(c.1:Int) - (d.1:Int)) (by lia),ib]
theorem qN(op:C2->Bool)(f:C2->List C2):∀(n:Nat) (cs:List C2),(dE op f n cs).length<=cs.length
 |n,[]=>aO _
 |n,c::r=>by
  unfold dE
  split
  .exact Nat.le_succ_of_le (qN op f _ r)
  .exact mT (qN op f _ r)
theorem Pk{R:α->β->Prop}:∀{l:List α}{m:List β},Paired R l m->m.isEmpty=l.isEmpty
 |_,_,.nil=>rfl
 |_,_,.cons _ _=>rfl
theorem Pl{op:C2->Bool}{f:C2->List C2}(hf:∀{c},(f c).isEmpty=false->eQ op c=true)(hc:cs[i]? = some c) :
  dE op f 0 (cs.take (i+1))=dE op f 0 (cs.take i)++if (f c).isEmpty=true then [] else [(eF op (cs.take (i+1)),f c)]:=by
 have jB:cs.take (i+1)=cs.take i++[c]:=by rw[eJ,hc];rfl
 rw[jB,σ6,σ5,xB]
def B8(K:Frag)(mg:Str->Option Value)(x:Str)(xs:List V):Prop := ∃a,Cn mg x (.ref a)/\∀H,ak K H a xs
section
variable{w:World}
def Pm(K:Frag):Sp:=λvs H Q _=>∃(a b:Addr) (l:List Str) (w:Nat) (i j:Int),vs=[.ref a,.ref b]/\ak K H a (l.map V.str)/\aZ l w/\ak K H b [.int i,.int j]/\Q (.bl (jV l w i j)) H
theorem aa5:bh ["sheet","cell"] ["sheet","cell"] (aN (top 30)):={}
theorem aa6(B:Bl mg)(F:aW K "is_open_within" "is_open_within" (top 30) f fd)(yY:Fn P w K mg base "is_open" 2 (B4 K)):aK P w K mg base aP 3 f fd ["sheet","cell"] (Pm K):=by
 refine F.bE aa5 λaE A outer s H vs Q E hr h=>?_
 refine hide λG_ aD=>?_
 obtain⟨a,b,l,wd,i,j,rfl,hT,S,hb,q⟩:=h
 obtain⟨x0,oV,B9,oY,_⟩:=S.row (i:=0) S.one
 refine aD.k ?_
 have h9:=S.nine
 have hw:=S.w9
 refine⟨_,(aq (bH (gi (Bb vf mZ aF (aV bV (pv 1) aF) (bg dX (by rfl) B.cj b9 (ae (pv 0) ag))))
  (au (aS fh))
  bN)
  (aq (bH (gi (Bb vf mZ aF (aV bV (pv 1) aF) (bg gy (by rfl) B.cj b9 (ae (aV bV (pv 0) aF) ag))))
  (au (aS fh))
  bN)
  (au (aS (aR yY hr (ae (pv 0) (ae (pv 1) ag))))))),?_⟩
 try dsimp only[bt]
 unfold jV at q
 refine⟨_,rfl,b,_,0,.int i,rfl,rfl,hb,rfl,_,_,rfl,rfl,_,rfl,?_⟩
 by_cases h0:(0:Int)<=i
 .rw[aJ h0] at q ⊢
  refine bp ⟨_,rfl,a,_,rfl,.inr hT,_,_,rfl,rfl,_,rfl,?_⟩
  rw[aw]
  by_cases h1:i<(l.length:Int)
  .rw[aJ h1] at q ⊢
   refine aQ ?_
   refine⟨_,rfl,b,_,1,.int j,rfl,rfl,hb,rfl,_,_,rfl,rfl,_,rfl,?_⟩
   by_cases h2:(0:Int)<=j
   .rw[aJ h2] at q ⊢
    refine bp ⟨_,rfl,a,_,0,.str x0,rfl,rfl,hT,jz oV,x0,rfl,eS (by lia),_,_,rfl,rfl,_,rfl,?_⟩
    rw[oY]
    by_cases h3:j<(wd:Int)
    .rw[aJ h3] at q ⊢
     refine aQ ?_
     obtain⟨i',rfl⟩:=xG h0
     obtain⟨j',rfl⟩:=xG h2
     rw[eI,eI] at q
     exact⟨_,rfl,_,rfl,a,b,l,wd,(i',j'),rfl,hT,S,hb,by lia,by lia,q⟩
    .rw[aI h3] at q ⊢
     exact bp q
   .rw[aI h2] at q ⊢
    refine aQ ⟨_,rfl,?_⟩
    exact bp q
  .rw[aI h1] at q ⊢
   exact bp q
 .rw[aI h0] at q ⊢
  refine aQ ⟨_,rfl,?_⟩
  exact bp q
def Pn(K:Frag)(a b d t p:Addr)(H:Hp)(l:List Str)(wd:Nat)(c dd:C2):Nat->St->Hp->Prop:=λm O H2=>∃n xs e,m=10 - n/\n<=9/\O=[some (.ref a),some (.ref b),some (.ref d),some (.ref t),some (.ref p),some (.ref e)]/\af H H2/\
 H2 p=some (.lst xs)/\bq H2 (line c dd n) xs/\H2 e=some (.tup [.int (go c dd n).1,.int (go c dd n).2])/\∀k,k<n->bx l wd (go c dd k)=true
def Po(K:Frag):Sp:=λvs H Q _=>∃(a b d:Addr) (l:List Str) (w:Nat) (c dd:C2),vs=[.ref a,.ref b,.ref d]/\ak K H a (l.map V.str)/\aZ l w/\H b=some (.tup [.int c.1,.int c.2])/\ak K H d [.int dd.1,.int dd.2]/\(dd=(0,1)\/dd=(1,0))/\
 ∀t xs H',af H H'->H' t=some (.tup xs)->bq H' (cf (bx l w) dd c) xs->Q (.ref t) H'
theorem yZ:bh ["sheet","cell","way","before","cells","here"] ["sheet","cell","way"] (aN (top 29)):={}
theorem aa7(B:Bl mg)(F:aW K "row_from" "row_from" (top 29) f fd)(Pp:Fn P w K mg base "is_open_within" 3 (Pm K)):aK P w K mg base aP 4 f fd ["sheet","cell","way"] (Po K):=by
 refine F.bE yZ λaE A outer s H vs Q E hr h=>?_
 refine hide λG_ aD=>?_
 obtain⟨a,b,d,l,wd,c,dd,rfl,hT,S,hb,hd,hdd,q⟩:=h
 refine aD.k ?_
 have h9:=S.nine
 have hw:=S.w9
 have Pq:ak K H b [.int c.1,.int c.2]:=ak.of hb
 refine⟨_,(aq (aH 3 yZ.nd (fm (ae (bb qu (aV bV (pv 1) aF) (aV bV (pv 2) aF)) (ae (bb qu (aV bV (pv 1) aF) (aV bV (pv 2) aF)) ag))))
  (aq (bH (eX (aR Pp hr (ae (pv 0) (ae (pv 3) ag))))
  (au (aS (fm ag)))
  bN)
  (aq (aH 4 yZ.nd (du ag))
  (aq (aH 5 yZ.nd (pv 1))
  (aq (Ml PassesOwn.never (eX (aR Pp hr (ae (pv 0) (ae (pv 5) ag))))
  (aq (d6 (fq iQ jf jg gS (pv 4) (ae (pv 5) ag)))
   (au (aH 5 yZ.nd (fm (ae (bb fM (aV bV (pv 5) aF) (aV bV (pv 2) aF)) (ae (bb fM (aV bV (pv 5) aF) (aV bV (pv 2) aF)) ag)))))))
  (aq (bH (bO mZ (bg dX (by rfl) B.cj b9 (ae (pv 4) ag)) aF)
  (au (aS (fm ag)))
  bN)
  (au (aS (jY ye (by rfl) B.oU ow (ae (pv 4) ag)))))))))),?_⟩
 try dsimp only[bt]
 refine⟨_,rfl,b,_,0,.int c.1,rfl,rfl,Pq,rfl,_,rfl,d,_,0,.int dd.1,rfl,rfl,hd,rfl,_,_,rfl,rfl,_,rfl,b,_,1,.int c.2,rfl,rfl,Pq,rfl,_,rfl,d,_,1,.int dd.2,rfl,rfl,hd,rfl,_,_,rfl,rfl,by show 2<=sizeLine;decide,λt ht=>?_⟩
 have fC:af H (upd H t (.tup [.int ((c.1:Int) - (dd.1:Int)),.int ((c.2:Int) - (dd.2:Int))])):=af.upd ht
 refine⟨_,rfl,_,rfl,a,t,l,wd,_,_,rfl,fC.tup hT,S,ak.of ao,_,rfl,?_⟩
 rw[Pj]
 refine eY (λll=>?_) (λll=>?_)
 .refine⟨bG _,λp hp=>q p [] _ (fC.trans (af.upd hp)) ao ?_⟩
  unfold cf
  rw[az ll]
  exact .nil
 .refine⟨bG _,λp hp=>?_⟩
  have fU:af H (upd (upd H t (.tup [.int ((c.1:Int) - (dd.1:Int)),.int ((c.2:Int) - (dd.2:Int))])) p (.lst [])):=fC.trans (af.upd hp)
  have fV:H p=none:=fC.free hp
  refine⟨_,rfl,?_⟩
  refine⟨Pn K a b d t p H l wd c dd,⟨10,0,[],b,rfl,by lia,rfl,fU,ao,.nil,by rw[jw];exact fU _ _ hb,λk hk=>absurd hk (ic _)⟩,?_⟩
  intro m O H2 q5_
  refine hide λG_ aX=>?_
  obtain⟨n,xs,e,rfl,hn,rfl,sm,hL,hC,hE,ho⟩:=q5_
  refine aX.k ?_
  refine⟨_,rfl,_,rfl,a,e,l,wd,_,_,rfl,sm.tup hT,S,ak.of hE,_,rfl,?_⟩
  rw[G7]
  have hlen:xs.length=n:=by rw[<-hC.length,tJ]
  refine eY (λjC=>?_) (λjC=>?_)
  .have hn8:n<=8:=by
    obtain⟨o1,o2,_⟩:=oP jC
    simp only[go] at o1 o2
    rcases hdd with rfl | rfl
    .simp only[iP] at o2
     lia
    .simp only[iP] at o1
     lia
   refine⟨λO' H' =>∃m',m'<10 - n/\Pn K a b d t p H l wd c dd m' O' H',λ_ _ z=>z,?_⟩
   have G8:∀o,upd H2 p o e=some (.tup [.int (go c dd n).1,.int (go c dd n).2]):=λo=>by rw[ar (bT hE hL (by intro z;cases z))];exact hE
   refine⟨_,rfl,.inl ⟨rfl,_,aj.of hL⟩,_,rfl,p,xs,_,rfl,rfl,hL,vT (by lia),?_⟩
   refine⟨_,rfl,e,_,0,.int (go c dd n).1,rfl,rfl,ak.of (G8 _),rfl,_,rfl,d,_,0,.int dd.1,rfl,rfl,Ph hL (sm.tup hd),rfl,_,_,rfl,rfl,_,rfl,e,_,1,.int (go c dd n).2,rfl,rfl,ak.of (G8 _),rfl,_,rfl,d,_,1,.int dd.2,rfl,rfl,Ph hL (sm.tup hd),rfl,_,_,rfl,rfl,by show 2<=sizeLine;decide,λt2 gW=>?_⟩
   refine⟨10 - (n+1),by lia,n+1,xs++[.ref e],t2,rfl,by lia,rfl,(sm.kf fV).trans (af.upd gW),af.upd gW _ _ ao,?_,?_,?_⟩
   .rw[σ4]
    refine bq.mono (af.upd gW) (lJ (bq.off ⟨xs,hL⟩ (λb' o jZ z=>by rw[ar jZ];exact z) hC) ⟨e,rfl,G8 _⟩)
   .rw[ao,go_succ]
    simp only[Int.natCast_add]
   .intro k hk
    rcases xH.mp hk with z | z
    .exact ho k z
    .rw[z];exact jC
  .have Ca:runN (bx l wd) dd 10 c=n:=GW (by lia) ho (fK.mpr jC)
   refine⟨_,rfl,p,_,rfl,.inl (aj.of hL),_,_,rfl,rfl,_,rfl,?_⟩
   rw[hlen]
   refine eY (λh2=>?_) (λh2=>?_)
   .have h2:(n:Int)<2:=fG h2
    refine⟨bG _,λp' fR=>q p' [] _ (sm.trans (af.upd fR)) ao ?_⟩
    unfold cf
    rw[av ll,Ca,az (by lia)]
    exact .nil
   .have h2:¬(n:Int)<2:=λz=>h2 (aJ z)
    refine⟨_,rfl,p,_,rfl,.inl ⟨aj.of hL,λp' fR=>?_⟩⟩
    refine q p' xs _ (sm.trans (af.upd fR)) ao ?_
    unfold cf
    rw[av ll,Ca,av (by lia)]
    exact hC.mono (af.upd fR)
def Cb(K:Frag):Sp:=λvs H Q _=>∃(a:Addr) (l:List Str) (w:Nat),vs=[.ref a]/\ak K H a (l.map V.str)/\aZ l w/\
 ∀p xs ys H',H p=none->af H H'->H' p=some (.lst (xs++ys))->gC H' "across" (iz l w) xs->gC H' "down" (oQ l w) ys->Q (.ref p) H'
theorem qO:bh ["sheet","across","down","number","cell","to_the_right","to_below"] ["sheet"] (aN (top 28)):={}
theorem aa8(F:aW K "rows_of" "rows_of" (top 28) f fd)(CA:B8 K mg "ACROSS" [.int 0,.int 1])(CD:B8 K mg "DOWN" [.int 1,.int 0])(y0:Fn P w K mg base "open_cells" 3 (B7 K))(Pr:Fn P w K mg base "row_from" 4 (Po K)):aK P w K mg base aP 5 f fd ["sheet"] (Cb K):=by
 refine F.bE qO λaE A outer s H vs Q E hr h=>?_
 refine hide λG_ aD=>?_
 obtain⟨a,l,wd,rfl,hT,S,q⟩:=h
 obtain⟨dA,G9,tA⟩:=CA
 obtain⟨dD,Hc,tD⟩:=CD
 refine aD.k ?_
 have tM:=vO S
 have Cc:(ba l wd).length<=81:=bF (fY _ _) tM
 refine⟨_,(aq (aH 1 qO.nd (du ag))
  (aq (aH 2 qO.nd (du ag))
  (aq (aH 3 qO.nd aF)
  (aq (cD (dJ (aR y0 hr (ae (pv 0) ag))) (bI 4 qO.nd)
  (aq (aH 5 qO.nd (aR Pr hr (ae (pv 0) (ae (pv 4) (ae (eP G9 (by rfl)) ag)))))
   (aq (aH 6 qO.nd (aR Pr hr (ae (pv 0) (ae (pv 4) (ae (eP Hc (by rfl)) ag)))))
   (aq (vy (bH (PW.pt (gH (se (pv 5) (by intro _;rfl)) (jk (se (pv 6) (by intro _;rfl)))))
   (au (aH 3 qO.nd (bb fM (pv 3) aF)))
   bN))
   (aq (vy (bH (se (pv 5) (by intro _;rfl))
   (au (d6 (fq iQ jf jg gS (pv 1) (ae (fm (ae (pv 3) (ae eB (ae (pv 5) ag)))) ag (hs:=dN rfl)))))
   bN))
   (au (bH (se (pv 6) (by intro _;rfl))
   (au (d6 (fq iQ jf jg gS (pv 2) (ae (fm (ae (pv 3) (ae eB (ae (pv 6) ag)))) ag (hs:=dN rfl)))))
   bN)))))))
  (au (aS (bb yg (pv 1) (pv 2)))))))),?_⟩
 try dsimp only[bt]
 refine⟨bG _,λpa y9=>?_⟩
 refine⟨bG _,λpd qP=>?_⟩
 have Hd:pa≠pd:=by intro z;rw[<-z,ao] at qP;cases qP
 have Pt:af H (upd H pa (.lst [])):=af.upd y9
 have Pu:af H (upd (upd H pa (.lst [])) pd (.lst [])):=Pt.trans (af.upd qP)
 have aa9:H pd=none:=Pt.free qP
 have Cd:upd (upd H pa (.lst [])) pd (.lst []) pa=some (.lst []):=by rw[ar Hd,ao]
 have za:upd (upd H pa (.lst [])) pd (.lst []) pd=some (.lst []):=ao
 refine⟨_,rfl,a,l,wd,rfl,Pu.tup hT,S,λp xs H1 hp fU hL hC=>⟨p,rfl,⟨_,aj.of hL⟩,?_⟩⟩
 have tN:p≠pa:=λz=>by rw[z] at hp;rw[Cd] at hp;cases hp
 have vV:p≠pd:=λz=>by rw[z] at hp;rw[za] at hp;cases hp
 generalize jC:bx l wd=op at *
 have mw:xs.length=(ba l wd).length:=hC.length.symm
 refine jl (xs:=xs) (λi O H2=>∃v4 v5 v6 as ds,O=[some (.ref a),some (.ref pa),some (.ref pd),some (.int (eF op ((ba l wd).take i))),v4,v5,v6]/\af H H2/\(∀b o,b≠pa->b≠pd->H1 b=some o->H2 b=some o)/\
   H2 pa=some (.lst as)/\H2 pd=some (.lst ds)/\gC H2 "across" (dE op (oO op) 0 ((ba l wd).take i)) as/\gC H2 "down" (dE op (nE op) 0 ((ba l wd).take i)) ds)
  ⟨none,none,none,[],[],rfl,Pu.trans fU,λ_ _ _ _ z=>z,fU _ _ Cd,fU _ _ za,.nil,.nil⟩ ?_ ?_ ?_
 .rintro i O H2 _ ⟨v4,v5,v6,as,ds,rfl,sm,off,hA,hD,rA,rD⟩
  exact aj.of (off _ _ tN vV hL)
 .intro i x O H2 hi q6_
  refine hide λG_ aX=>?_
  obtain⟨v4,v5,v6,as,ds,rfl,sm,off,hA,hD,rA,rD⟩:=q6_
  obtain⟨c,hc,b,rfl,hb⟩:=Paired.get hC hi
  refine aX.k ?_
  have aiJ:∀o,H1 pa=some o->∃z,o=HO.lst z:=λo e=>⟨[],by rw[fU _ _ Cd] at e;exact(cY e).symm⟩
  have nba:b≠pa:=bT hb (fU _ _ Cd) (by intro z;cases z)
  have nbd:b≠pd:=bT hb (fU _ _ za) (by intro z;cases z)
  have oz:=off _ _ nba nbd hb
  have jB:(ba l wd).take (i+1)=(ba l wd).take i++[c]:=by rw[eJ,hc];rfl
  have Ce:as.length<=81:=by rw[<-rA.length];exact bF (qN _ _ _ _) (bF (List.length_take_le' _ _) Cc)
  have hld:ds.length<=81:=by rw[<-rD.length];exact bF (qN _ _ _ _) (bF (List.length_take_le' _ _) Cc)
  refine⟨_,rfl,_,rfl,a,b,dA,l,wd,c,(0,1),rfl,sm.tup hT,S,oz,tA _,.inl rfl,λt1 Cf H3 gm ht1 He=>?_⟩
  refine⟨_,rfl,_,rfl,a,b,dD,l,wd,c,(1,0),rfl,(sm.trans gm).tup hT,S,gm _ _ oz,tD _,.inr rfl,λt2 tO H4 cW gW Hf=>?_⟩
  rw[jC] at He Hf
  have e1:Cf.isEmpty=(oO op c).isEmpty:=Pk He
  have e2:tO.isEmpty=(nE op c).isEmpty:=Pk Hf
  have tP:=gm.trans cW
  have vW:=tP _ _ hA
  have hD4:=tP _ _ hD
  have Cg:=cW _ _ ht1
  refine⟨λO' H'=>O'=[some (.ref a),some (.ref pa),some (.ref pd),some (.int (eF op ((ba l wd).take (i+1)))),some (.ref b),some (.ref t1),some (.ref t2)]/\H4=H',?_,?_⟩
  .rintro O' H' ⟨rfl,rfl⟩
   refine⟨λO' H'=>O'=[some (.ref a),some (.ref pa),some (.ref pd),some (.int (eF op ((ba l wd).take (i+1)))),some (.ref b),some (.ref t1),some (.ref t2)]/\(∀b o,b≠pa->H4 b=some o->H' b=some o)/\
    ∃zb,H' pa=some (.lst zb)/\gC H' "across" (dE op (oO op) 0 ((ba l wd).take (i+1))) zb,?_,?_⟩
   .rintro O' H5 ⟨rfl,kD,zb,Pw,Px⟩
    have Hg:=kD _ _ (bo Hd) hD4
    have Hh:=kD _ _ (bT gW vW (by intro z;cases z)) gW
    have aba:bq H5 (nE op c) tO:=bq.off ⟨as,vW⟩ kD Hf
    have Py:gC H5 "down" (dE op (nE op) 0 ((ba l wd).take i)) ds:=gC.off ⟨as,vW⟩ kD (rD.mono tP)
    have iY:af H H5:=λb o z=>kD b o (bC z y9) ((sm.trans tP) _ _ z)
    have Pz:∀b o,b≠pa->b≠pd->H1 b=some o->H5 b=some o:=λb o h1 h2 z=>kD b o h1 (tP _ _ (off b o h1 h2 z))
    have er:=Pl (op:=op) (f:=nE op) GY hc
    refine⟨_,rfl,_,Or.inr (Or.inl ⟨tO,ak.of Hh,rfl⟩),?_⟩
    by_cases z:(nE op c).isEmpty=true
    .rw[e2,z]
     refine aQ ⟨some (.ref b),some (.ref t1),some (.ref t2),zb,ds,rfl,iY,Pz,Pw,Hg,Px,?_⟩
     rw[er,az z,eV]
     exact Py
    .rw[e2,fK.mpr z]
     refine bp ⟨_,rfl,.inl ⟨rfl,_,aj.of Hg⟩,_,rfl,_,rfl,by show 3<=sizeLine;decide,λt ht=>?_⟩
     have iC:af H5 (upd H5 t (.tup [.int (eF op ((ba l wd).take (i+1))),.str "down",.ref t2])):=af.upd ht
     have vX:=iC _ _ Hg
     have iD:∀o' b o,b≠pd->upd H5 t (.tup [.int (eF op ((ba l wd).take (i+1))),.str "down",.ref t2]) b=some o->upd (upd H5 t (.tup [.int (eF op ((ba l wd).take (i+1))),.str "down",.ref t2])) pd o' b=some o:=λo' b o hb y=>by rw[ar hb];exact y
     refine⟨pd,ds,_,rfl,rfl,vX,vT (by lia),some (.ref b),some (.ref t1),some (.ref t2),zb,ds++[.ref t],rfl,(iY.trans iC).kf aa9,λb o h1 h2 y=>iD _ b o h2 (iC _ _ (Pz b o h1 h2 y)),iD _ pa _ Hd (iC _ _ Pw),ao,?_,?_⟩
     .exact gC.off ⟨ds,vX⟩ (iD _) (Px.mono iC)
     .rw[er,av z]
      refine lJ (gC.off ⟨ds,vX⟩ (iD _) (Py.mono iC)) ⟨t,t2,tO,rfl,iD _ t _ (bT ao vX (by intro y;cases y)) ao,iD _ t2 _ (bT (iC _ _ Hh) vX (by intro y;cases y)) (iC _ _ Hh),bq.off ⟨ds,vX⟩ (iD _) (aba.mono iC)⟩
   .have er:=Pl (op:=op) (f:=oO op) GX hc
    refine⟨_,rfl,_,Or.inr (Or.inl ⟨Cf,ak.of Cg,rfl⟩),?_⟩
    by_cases z:(oO op c).isEmpty=true
    .rw[e1,z]
     refine aQ ⟨rfl,λ_ _ _ y=>y,as,vW,?_⟩
     rw[er,az z,eV]
     exact rA.mono tP
    .rw[e1,fK.mpr z]
     refine bp ⟨_,rfl,.inl ⟨rfl,_,aj.of vW⟩,_,rfl,_,rfl,by show 3<=sizeLine;decide,λt ht=>?_⟩
     have iC:af H4 (upd H4 t (.tup [.int (eF op ((ba l wd).take (i+1))),.str "across",.ref t1])):=af.upd ht
     have zc:=iC _ _ vW
     have iD:∀o' b o,b≠pa->upd H4 t (.tup [.int (eF op ((ba l wd).take (i+1))),.str "across",.ref t1]) b=some o->upd (upd H4 t (.tup [.int (eF op ((ba l wd).take (i+1))),.str "across",.ref t1])) pa o' b=some o:=λo' b o hb y=>by rw[ar hb];exact y
     refine⟨pa,as,_,rfl,rfl,zc,vT (by lia),rfl,λb o h1 y=>iD _ b o h1 (iC _ _ y),as++[.ref t],ao,?_⟩
     rw[er,av z]
     exact lJ (gC.off ⟨as,zc⟩ (iD _) ((rA.mono tP).mono iC)) ⟨t,t1,Cf,rfl,iD _ t _ (bT ao zc (by intro y;cases y)) ao,iD _ t1 _ (bT (iC _ _ Cg) zc (by intro y;cases y)) (iC _ _ Cg),bq.off ⟨as,zc⟩ (iD _) ((He.mono cW).mono iC)⟩
  .have enum:eF op ((ba l wd).take (i+1))=if eQ op c=true then eF op ((ba l wd).take i)+1 else eF op ((ba l wd).take i):=by rw[jB,σ5]
   refine⟨_,rfl,_,Or.inr (Or.inl ⟨Cf,ak.of Cg,rfl⟩),?_⟩
   by_cases z1:(oO op c).isEmpty=true
   .rw[e1,z1]
    refine aQ ⟨_,rfl,_,Or.inr (Or.inl ⟨tO,ak.of gW,rfl⟩),?_⟩
    by_cases z2:(nE op c).isEmpty=true
    .rw[e2,z2]
     refine aQ ⟨?_,rfl⟩
     rw[enum,av (by unfold eQ;rw[z1,z2];decide)]
     rfl
    .rw[e2,fK.mpr z2]
     refine bp ⟨_,rfl,_,_,rfl,rfl,?_,rfl⟩
     rw[enum,az (GY (fK.mpr z2))]
     rfl
   .rw[e1,fK.mpr z1]
    refine bp (bp ⟨_,rfl,_,_,rfl,rfl,?_,rfl⟩)
    rw[enum,az (GX (fK.mpr z1))]
    rfl
 .intro O H2 q7_
  refine hide λG_ bK=>?_
  obtain⟨v4,v5,v6,as,ds,rfl,sm,off,hA,hD,rA,rD⟩:=q7_
  refine bK.k ?_
  rw[fg (by lia)] at rA rD
  have Ce:as.length<=81:=by rw[<-rA.length];exact bF (qN _ _ _ _) Cc
  have hld:ds.length<=81:=by rw[<-rD.length];exact bF (qN _ _ _ _) Cc
  subst jC
  refine⟨_,rfl,_,rfl,pa,pd,as,ds,rfl,rfl,hA,hD,eS (by lia),λp' fR=>?_⟩
  exact q p' as ds _ (sm.free fR) (sm.trans (af.upd fR)) ao (rA.mono (af.upd fR)) (rD.mono (af.upd fR))
end
theorem Hj{op:C2->Bool}{d:C2}:∀{f:Nat}{c:C2}{k:Nat},k<runN op d f c->op (go c d k)=true
 |0,_,_,h=>by unfold runN at h;exact absurd h (ic _)
 |f+1,c,k,h=>by
  unfold runN at h
  split at h
  .rename_i ho
   cases k with
   |zero=>rw[jw];exact ho
   |succ k=>
    have:=Hj (op:=op) (d:=d) (f:=f) (c:=(c.1+d.1,c.2+d.2)) (k:=k) (by lia)
    have e:go c d (k+1)=go (c.1+d.1,c.2+d.2) d k:=by
     simp only[go,iN,nZ]
     lia
    rw[e]
    exact this
  .exact absurd h (ic _)
theorem PB{op:C2->Bool}{d:C2}:∀{f:Nat}{c:C2},runN op d f c<=f
 |0,_=>by unfold runN;exact aO _
 |f+1,c=>by
  unfold runN
  split
  .exact mT PB
  .exact bG _
theorem abb{op:C2->Bool}{x:C2}(h:x∈cf op d c):op x=true:=by
 unfold cf at h
 split at h
 .exact absurd h fH
 .split at h
  .exact absurd h fH
  .obtain⟨k,hk,rfl⟩:=bM.mp h
   exact Hj (iK.mp hk)
theorem abc{op:C2->Bool}:(cf op d c).length<=10:=by
 unfold cf
 split
 .exact bG _
 .split
  .exact bG _
  .rw[tJ];exact PB
noncomputable def dw(l:List Str)(w:Nat):List (Nat×List C2):=iz l w++oQ l w
theorem PD{op:C2->Bool}(hf:∀c,(cf op d c).isEmpty=false->eQ op c=true)(h:q∈dE op (cf op d) n cs):q.2.length<=10/\∀c∈q.2,op c=true:=by
 obtain⟨_,c,_,_,e,_⟩:=σ7 hf h
 rw[e]
 exact⟨abc,λx hx=>abb hx⟩
theorem Ci(h:q∈dw l w):q.2.length<=10/\∀c∈q.2,c.1<l.length/\c.2<w/\bL l c=true:=by
 have z:q.2.length<=10/\∀c∈q.2,bx l w c=true:=by
  rcases cS.mp h with h | h
  .exact PD (λc=>GX) h
  .exact PD (λc=>GY) h
 exact⟨z.1,λc hc=>oP (z.2 c hc)⟩
theorem qQ(S:aZ l w):(dw l w).length<=162:=by
 unfold dw
 rw[di]
 have h1:(iz l w).length<=(ba l w).length:=qN _ _ _ _
 have h2:(oQ l w).length<=(ba l w).length:=qN _ _ _ _
 have h3:(ba l w).length<=(cells l.length w).length:=fY _ _
 have h4:=vO S
 lia
def RAt(H:Hp)(q:Nat×List C2)(x:V):Prop := ∃way,qM H way q x
theorem PH{α β:Type}{R:α->β->Prop}:∀{l:List α}{m:List β}{l':List α}{m':List β},Paired R l m->Paired R l' m'->Paired R (l++l') (m++m')
 |_,_,_,_,.nil,h=>h
 |_,_,_,_,.cons h t,h' =>.cons h (PH t h')
theorem Hk(h1:gC H "across" (iz l w) xs)(h2:gC H "down" (oQ l w) ys):Paired (RAt H) (dw l w) (xs++ys):=
 PH (Paired.bU h1 λ_ _ h=>⟨_,h⟩) (Paired.bU h2 λ_ _ h=>⟨_,h⟩)
noncomputable def ax(l:List Str)(cs:List C2):Str:=⟨(cs.map (sg l)).toArray⟩
theorem Hl:∀xs:List Nat,Str.join ⟨#[]⟩ (xs.map λc=>(⟨#[c]⟩:Str))=⟨xs.toArray⟩
 |[]=>rfl
 |[x]=>rfl
 |x::y::r=>by
  have ih:=Hl (y::r)
  show(⟨#[x]⟩++⟨#[]⟩++Str.join ⟨#[]⟩ ((y::r).map λc=>(⟨#[c]⟩:Str)):Str)=_
  rw[ih]
  apply nA
  rw[nB,nB]
  simp
theorem Hm:∀xs:List Nat,(((xs.map λc=>(⟨#[c]⟩:Str)).map (·.length)).sum)=xs.length
 |[]=>rfl
 |x::r=>by
  rw[bS,bS,fZ,Hm r,dO,Nat.add_comm]
  rfl
theorem vY:("":Str)=⟨#[]⟩:=by decide +kernel
theorem oZ{α β:Type}{f:α->β}:∀{l:List α}{ys:List β},Paired (λi y=>y=f i) l ys->ys=l.map f
 |_,_,.nil=>rfl
 |_,_,.cons h t=>by rw[bS,<-oZ t,h]
theorem o9(g:α->β)(d:α)(l:List α):(List.range l.length).map (λi=>g (l.getD i d))=l.map g:=by
 apply jP
 intro i
 rw[bw,bw]
 by_cases h:i<l.length
 .rw[rM h,bf h,jd,jd,bQ,bf h,qc]
 .rw[cZ (by simpa using h),cZ (by simpa using h)]
  rfl
section
variable{w:World}
def Hn(K:Frag):Sp:=λvs H Q _=>∃(a t:Addr) (l:List Str) (w:Nat) (cs:List C2) (xs:List V),vs=[.ref a,.ref t]/\ak K H a (l.map V.str)/\aZ l w/\H t=some (.tup xs)/\bq H cs xs/\cs.length<=100/\(∀c∈cs,c.1<l.length/\c.2<w)/\
 ∀H',af H H'->Q (.str (ax l cs)) H'
theorem abd:bh ["sheet","cells"] ["sheet","cells"] (aN (top 34)):={}
theorem abe(F:aW K "pattern" "pattern" (top 34) f fd)(yX:Fn P w K mg base "sign_at" 1 (B3 K)):aK P w K mg base aP 2 f fd ["sheet","cells"] (Hn K):=by
 refine F.bE abd λaE A outer s H vs Q E hr h=>?_
 refine hide λG_ aD=>?_
 obtain⟨a,t,l,wd,cs,xs,rfl,hT,S,ht,hC,hlen,aY,q⟩:=h
 refine aD.k ?_
 have hlx:=hC.length
 refine⟨_,(au (aS (fq LZ UI UJ FO eB (ae (iS (js:=[0]) (ns:=["sheet"]) (A0 (pv 1)) rfl rfl rfl rfl (λ_ _ _ _=>lg) (λ_ _ _ _=>(aR yX hr (ae (pv 1) (ae (pv 0) ag))))) ag)))),?_⟩
 try dsimp only[bt]
 refine⟨rfl,_,rfl,t,rfl,⟨_,ak.of ht⟩,?_⟩
 refine comp_map FR (by lia) (λ_ i y _=>y = .str ⟨#[sg l (cs.getD i (0,0))]⟩) (λH2 s2=>ak.of (s2 _ _ ht)) (λ_ _ _ _ _ _ _ _ h=>h) ?_ ?_
 .intro D i x H2 Z hD hx s2 _ k1
  obtain⟨c,hc,b,rfl,hb⟩:=Paired.get hC hx
  have cM:=aY c (bj hc)
  exact⟨_,rfl,_,rfl,a,b,l,wd,c,rfl,s2.tup hT,S,ak.of (s2 _ _ hb),cM.1,cM.2,k1 _ _ (af.cx _) (by rw[b7 hc])⟩
 .intro D ys H2 hD bD s2 pr
  have e:=oZ pr
  rw[<-hlx,o9 (λc=>V.str ⟨#[sg l c]⟩)] at e
  have e1:ys=((cs.map (sg l)).map λc=>(⟨#[c]⟩:Str)).map V.str:=by rw[e,kO,kO];rfl
  rw[e1] at bD
  refine⟨_,D,(cs.map (sg l)).map λc=>(⟨#[c]⟩:Str),rfl,rfl,.inl (aj.of bD),?_,?_⟩
  .rw[Hm,aw,aw,vY]
   show _+_*0<=_
   lia
  .rw[vY,Hl]
   exact q H2 s2
def PJ(K:Frag):Sp:=λvs H Q _=>∃(a:Addr) (l:List Str) (w:Nat),vs=[.ref a]/\ak K H a (l.map V.str)/\aZ l w/\
 ∀p xs H',H p=none->af H H'->H' p=some (.lst xs)->bq H' (dk l w) xs->Q (.ref p) H'
theorem abf:bh ["sheet"] ["sheet"] (aN (top 19)):={}
theorem abg(F:aW K "free_cells" "free_cells" (top 19) f fd)(iZ:Cn mg "FREE" (.str "."))(G6:Fn P w K mg base "all_cells" 1 (G5 K))(yX:Fn P w K mg base "sign_at" 1 (B3 K)):aK P w K mg base aP 3 f fd ["sheet"] (PJ K):=by
 refine F.bE abf λaE A outer s H vs Q E hr h=>?_
 refine hide λG_ aD=>?_
 obtain⟨a,l,wd,rfl,hT,S,q⟩:=h
 refine aD.k ?_
 have tM:=vO S
 refine⟨_,(au (aS (iS (js:=[0]) (ns:=["sheet"]) (dJ (aR G6 hr (ae (pv 0) ag))) rfl rfl rfl rfl (λ_ _ _ _=>(lZ (bO mY (aR yX hr (ae (pv 1) (ae (pv 0) ag))) (eP iZ (by rfl))))) (λ_ _ _ _=>(pv 0))))),?_⟩
 try dsimp only[bt]
 refine⟨_,rfl,a,l,wd,rfl,hT,S,λp xs H1 hp sm hL hC=>⟨p,rfl,⟨_,aj.of hL⟩,?_⟩⟩
 have hlx:=hC.length
 refine lh kg (by lia) (λi=>qJ l ((cells l.length wd).getD i (0,0))) (λ_ i y _=>xs[i]? = some y) (λH2 s2=>aj.of (s2 _ _ hL)) (λ_ _ _ _ _ _ _ _ h=>h) ?_ ?_
 .intro D i x H2 Z0 Z hD hx s2 _ k0 k1
  refine hide λG_ aX=>?_
  obtain⟨c,hc,b,rfl,hb⟩:=Paired.get hC hx
  obtain⟨_,m1,m2⟩:=BX hc
  refine aX.k ?_
  have ec:(cells l.length wd).getD i (0,0)=c:=b7 hc
  rw[ec] at k0 k1
  refine⟨_,rfl,_,rfl,a,b,l,wd,c,rfl,(sm.trans s2).tup hT,S,ak.of (s2 _ _ hb),m1,m2,rfl,_,rfl,?_⟩
  rw[tL,B2]
  refine eY (λh=>?_) (λh=>?_)
  .exact⟨_,rfl,k1 _ _ (af.cx _) h hx⟩
  .exact k0 _ (af.cx _) (fK.mpr h)
 .intro D ys H2 hD bD s2 pr
  refine q D ys H2 (sm.free hD) (sm.trans s2) bD ?_
  exact Paired.pick (bq.mono s2 hC) (qJ l) _ (λi c e=>by rw[b7 e]) pr
end
structure eG(l:List Str)(w:Nat):Prop where
 one:1<=l.length
 nine:l.length<=9
 w9:w<=9
 len:∀x∈l,x.length=w
theorem aZ.dn(S:aZ l w):eG l w:=⟨S.one,S.nine,S.w9,S.len⟩
theorem eG.row(S:eG l w)(hi:i<l.length):∃x,l[i]? = some x/\x∈l/\x.length=w/\x.cps.toList.length=w/\∀j,j<w->x.cps.toList[j]? = some (sg l (i,j)):=by
 refine⟨l[i],bf hi,nY hi,S.len _ (nY hi),by rw[cu];exact S.len _ (nY hi),λj hj=>?_⟩
 have hl:j<l[i].cps.toList.length:=by rw[cu,S.len _ (nY hi)];exact hj
 unfold sg
 rw[b7 (bf hi),bf hl]
 simp only[b7 (bf hl)]
theorem eG.set(S:eG l w){c:Nat×Nat}(h1:c.1<l.length)(h2:c.2<w):eG (setC l c ch) w:=by
 obtain⟨x,hx,mx,lx,qK,hj⟩:=S.row h1
 refine⟨by rw[dg];exact S.one,by rw[dg];exact S.nine,S.w9,λy my=>?_⟩
 unfold setC at my
 rcases LW my with z | z
 .exact S.len y z
 .rw[z,b7 hx,yT (by lia),lx]
theorem eG.gX(S:eG l w){c:Nat×Nat}(h1:c.1<l.length)(h2:c.2<w){d:Nat×Nat}(d1:d.1<l.length)(d2:d.2<w):sg (setC l c ch) d=if d=c then ch else sg l d:=by
 obtain⟨x,hx,mx,lx,qK,hj⟩:=S.row d1
 have g:=hj d.2 d2
 by_cases e:d.1=c.1
 .have qG:(setC l c ch)[d.1]? = some (bJ x c.2 ch):=by
   unfold setC
   rw[e] at hx ⊢
   rw[rF h1,b7 hx]
  have q:sg (setC l c ch) d=(bJ x c.2 ch).cps.toList.getD d.2 0:=by unfold sg;rw[b7 qG]
  rw[q,bQ,GU (by lia) (by lia),g]
  by_cases e2:d.2=c.2
  .rw[az e2,az (EA.mpr ⟨e,e2⟩)]
   rfl
  .rw[av e2,av (λz=>e2 (fc Prod.snd z))]
   rfl
 .have qG:(setC l c ch)[d.1]? = some x:=by
   unfold setC
   rw[uz (bo e)]
   exact hx
  have q:sg (setC l c ch) d=sg l d:=by unfold sg;rw[b7 qG,b7 hx]
  rw[q,av (λz=>e (fc Prod.fst z))]
section
variable{w:World}
theorem Ho(h:j<=x.length):(Txt.slice x none (some (j:Int))).cps.toList=x.cps.toList.take j:=by
 have e:=jM.mp (PyProof.Rows.slice_closes_to (x:=x) (j:=(j:Int)) ⟨by lia,by rw[cu];lia⟩)
 rw[e]
 simp
theorem Hq(h:j+1<=x.length):(Txt.slice x (some ((j:Int)+1)) none).cps.toList=x.cps.toList.drop (j+1):=by
 have e:=PyProof.Rows.slice_from_eq (x:=x) (i:=(j:Int)+1) (b:=(x.length:Int)) (by lia) (by lia) rfl
 rw[e]
 have e1:((j:Int)+1).toNat=j+1:=by lia
 rw[e1]
 show(x.cps.toList.drop (j+1)).take _=_
 refine fg ?_
 rw[Em,cu]
 lia
def pe(K:Frag):Sp:=λvs H Q _=>∃(a b:Addr) (l:List Str) (w:Nat) (c:Nat×Nat) (ch:Nat),vs=[.ref a,.ref b,.str ⟨#[ch]⟩]/\ak K H a (l.map V.str)/\eG l w/\ak K H b [.int c.1,.int c.2]/\c.1<l.length/\c.2<w/\
 ∀t H',H t=none->af H H'->H' t=some (.tup ((setC l c ch).map V.str))->Q (.ref t) H'
theorem Cj:bh ["sheet","cell","sign","number","column","lines"] ["sheet","cell","sign"] (aN (top 24)):={}
theorem abh(B:Bl mg)(F:aW K "with_sign" "with_sign" (top 24) f fd):aK P w K mg base aP 1 f fd ["sheet","cell","sign"] (pe K):=by
 refine F.bE Cj λaE A outer s H vs Q E hr h=>?_
 refine hide λG_ aD=>?_
 obtain⟨a,b,l,wd,c,ch,rfl,hT,S,hb,h1,h2,q⟩:=h
 obtain⟨x,hx,mx,lx,qK,hj⟩:=S.row h1
 refine aD.k ?_
 have hw:=S.w9
 refine⟨_,(aq (aH 3 Cj.nd (aV bV (pv 1) aF))
  (aq (aH 4 Cj.nd (aV bV (pv 1) aF))
  (aq (aH 5 Cj.nd (jY vk (by rfl) B.tK sP (ae (pv 0) ag)))
  (aq (rY (bb sf (bb sf (og vw (aV gj (pv 5) (pv 3)) m7 (m8 (pv 4))) (pv 2)) (og vw (aV gj (pv 5) (pv 3)) (m8 (bb fM (pv 4) aF)) m7)) (uY (pv 5) (pv 3) set_list))
  (au (aS (jY ye (by rfl) B.oU ow (ae (pv 5) ag)))))))),?_⟩
 try dsimp only[bt]
 refine⟨_,rfl,b,_,0,.int c.1,rfl,rfl,hb,rfl,_,rfl,b,_,1,.int c.2,rfl,rfl,hb,rfl,_,rfl,a,_,rfl,.inr hT,λp hp=>?_⟩
 have l1:(Txt.slice x none (some (c.2:Int))).length<=100:=bF (xx x _ _) (by lia)
 have l2:(Txt.slice x (some ((c.2:Int)+1)) none).length<=100:=bF (xx x _ _) (by lia)
 refine⟨_,rfl,_,rfl,p,_,_,.str x,rfl,rfl,aj.of ao,jz hx,_,rfl,_,rfl,x,rfl,eS (by lia),_,rfl,_,_,rfl,rfl,eS (by show _+1<=_;lia),?_⟩
 refine⟨_,rfl,_,rfl,p,_,_,.str x,rfl,rfl,aj.of ao,jz hx,_,rfl,_,_,rfl,rfl,_,rfl,x,rfl,eS (by lia),_,_,rfl,rfl,eS ?_,?_⟩
 .rw[<-cu,nB,di,cu]
  show _+1+_<=_
  lia
 have eg:=GV (x:=x) (j:=c.2) (ch:=ch) (Ho (by lia)) (Hq (by lia))
 refine⟨_,rfl,_,rfl,p,_,_,c.1,rfl,rfl,ao,vx (by rw[aw];exact h1),?_⟩
 rw[eg,L9]
 refine⟨_,rfl,p,_,rfl,.inl ⟨aj.of ao,λt ht=>?_⟩⟩
 have sm:af H (upd H p (.lst ((l.map V.str).set c.1 (.str (bJ x c.2 ch))))):=af.upd hp
 refine q t _ (sm.free ht) (sm.trans (af.upd ht)) ?_
 rw[ao]
 unfold setC
 rw[b7 hx,List.map_set]
end
noncomputable def i0(x:Str):Bool:=x.cps.toList.all λc=>decide (c∈iX.cps.toList)
noncomputable def pf(x:Str)(a b:Int):Bool:=decide (a<=(x.length:Int))&&(decide ((x.length:Int)<=b)&&i0 x)
theorem Ck{α β:Type}{f:α->β}:∀{l:List α}{ys:List β},Paired (λi y=>y=f i) l ys->ys=l.map f
 |_,_,.nil=>rfl
 |_,_,.cons h t=>by rw[bS,<-Ck t,h]
theorem abi(g:α->β)(d:α)(l:List α):(List.range l.length).map (λi=>g (l.getD i d))=l.map g:=by
 apply jP
 intro i
 rw[bw,bw]
 by_cases h:i<l.length
 .rw[rM h,bf h,jd,jd,bQ,bf h,qc]
 .rw[cZ (by simpa using h),cZ (by simpa using h)]
  rfl
section
variable{w:World}
def PK(K:Frag):Sp:=λvs H Q _=>(∃(x:Str) (a b:Int),vs=[.str x,.int a,.int b]/\x.length<=1000/\∀H',af H H'->Q (.bl (pf x a b)) H')\/
 ∃(v:V) (t:Value) (a b:Int),vs=[v,.int a,.int b]/\jn K H v t/\kitOne K t (.type "str")=some false/\Q (.bl false) H
theorem abj:bh ["thing","least","most"] ["thing","least","most"] (aN (top 57)):={}
theorem abk(B:Bl mg)(Hr:Cn mg "LETTERS" (.str iX))(F:aW K "is_letters" "is_letters" (top 57) f fd):aK P w K mg base aP 1 f fd ["thing","least","most"] (PK K):=by
 refine F.ok abj (λvs H Q E h=>?_) (λaE A outer s H vs Q E hr h=>?_)
 .rcases h with ⟨x,a,b,rfl,_⟩ | ⟨v,t,a,b,rfl,_⟩ <;> rfl
 .refine⟨_,(aq (bH (gi (eX (bg sQ (by rfl) B.fS fQ (ae (pv 0) (ae (qm (v := .ty "str") (by rfl) B.Pe NC rfl) ag)))))
   (au (aS fh))
   bN)
   (au (aS (EK (VL vf vf (pv 1) (bg gy (by rfl) B.cj b9 (ae (pv 0) ag)) (pv 2)) (Mg (bg (ND rfl) (by rfl) B.Pf NB (ae (iS (js:=[]) (ns:=[]) (XR (pv 0)) rfl rfl rfl rfl (λ_ _ _ _=>lg) (λ_ _ _ _=>(r6 A9 (pv 0) (eP Hr (by rfl))))) ag))))))),?_⟩
  try dsimp only[bt]
  rcases h with ⟨x,a,b,rfl,hx,q⟩ | ⟨v,t,a,b,rfl,ty,hk,q⟩
  .refine⟨_,rfl,_,_,_,true,⟨rfl,.str _,XJ⟩,_,rfl,aQ ?_⟩
   refine⟨_,rfl,_,rfl,x,rfl,d8 (by lia),_,_,rfl,rfl,_,rfl,?_⟩
   by_cases h2:a<=(x.length:Int)
   .rw[aJ h2]
    refine bp ⟨_,rfl,_,_,rfl,rfl,_,rfl,?_⟩
    by_cases h3:(x.length:Int)<=b
    .rw[aJ h3]
     refine bp ?_
     refine⟨_,rfl,x,rfl,comp_map XS (by rw[aw,uA];show x.length<=15752961;lia) (λ_ i y _=>y = .bl (decide (x.cps.toList.getD i 0∈iX.cps.toList))) (λ_ _=>trivial) (λ_ _ _ _ _ _ _ _ h=>h) ?_ ?_⟩
     .intro D i z H2 Z _ hz _ _ k1
      rw[bw] at hz
      cases e:x.cps.toList[i]? with
      |none=>rw[e] at hz;cases hz
      |some c=>
       rw[e] at hz
       cases hz
       refine⟨_,rfl,_,_,rfl,rfl,k1 _ _ (af.cx _) ?_⟩
       rw[EB,bQ,e]
       all_goals rfl
     .intro D ys H2 hD bD sm pr
      have e:=Ck pr
      rw[aw,abi (λc=>V.bl (decide (c∈iX.cps.toList)))] at e
      refine⟨D,x.cps.toList.map λc=>decide (c∈iX.cps.toList),rfl,aj.of (by rw[bD,e,kO];rfl),?_⟩
      have e2:((x.cps.toList.map λc=>decide (c∈iX.cps.toList)).all id)=pf x a b:=by
       unfold pf i0
       rw[uK,aJ h2,aJ h3]
       rfl
      rw[e2]
      exact q H2 sm
    .rw[aI h3]
     refine aQ ?_
     have e:pf x a b=false:=by
      unfold pf
      rw[aI h3,ib,uD]
     rw[<-e]
     exact q H (af.cx _)
   .rw[aI h2]
    refine aQ ⟨_,rfl,aQ ?_⟩
    have e:pf x a b=false:=by
     unfold pf
     rw[aI h2,ib]
    rw[<-e]
    exact q H (af.cx _)
  .exact⟨_,rfl,_,_,_,false,⟨rfl,ty,hk⟩,_,rfl,bp q⟩
end
noncomputable def cP(x:Str):Bool:=decide (2<=x.length)&&(decide (x.length<=9)&&i0 x)
theorem zd(h:cP x=true):2<=x.length/\x.length<=9:=by grind [cP]
theorem ze{α β:Type}{f:α->β}:∀{l:List α}{ys:List β},Paired (λi y=>y=f i) l ys->ys=l.map f
 |_,_,.nil=>rfl
 |_,_,.cons h t=>by rw[bS,<-ze t,h]
theorem abl(g:α->β)(d:α)(l:List α):(List.range l.length).map (λi=>g (l.getD i d))=l.map g:=by
 apply jP
 intro i
 rw[bw,bw]
 by_cases h:i<l.length
 .rw[rM h,bf h,jd,jd,bQ,bf h,qc]
 .rw[cZ (by simpa using h),cZ (by simpa using h)]
  rfl
theorem abm(h:n<=10000):n<=sizeLine:=bF h (by decide)
theorem Cm(h:n<=10000):n<sizeLine:=lK h (by decide)
noncomputable def vZ(d:Addr):List (Str×V):=bc "worths" (.ref d) []
theorem tQ(d:Addr):(vZ d).lookup ("worths":Str)=some (.ref d):=by
 unfold vZ
 rw[dm,az rfl]
theorem tR(d:Addr){m:Str}(h:¬m="worths"):(vZ d).lookup m=none:=by
 unfold vZ
 rw[dm,av h]
 rfl
structure fW(C:Addr)(H:Hp)(p d:Addr)(kvs:List (Key×V)):Prop where
 ob:∃dx,H p=some (.ins C dx (vZ d))
 dc:H d=some (.dK kvs)
 nd:(kvs.map (·.1)).Nodup
 tx:l7 kvs
theorem fW.mono{p d:Addr}(s:af H H')(h:fW C H p d kvs):fW C H' p d kvs:=let ⟨⟨dx,e⟩,b,c,t⟩:=h;⟨⟨dx,s _ _ e⟩,s _ _ b,c,t⟩
theorem PL(h:l7 kvs)(x:Str)(v:V)(e:aU kvs (Sum.inr x:Key)=none):l7 (putK kvs (Sum.inr x) v):=by
 rw[vn v e]
 intro q m
 rcases cS.mp m with z | z
 .exact h q z
 .rw[cn.mp z];exact⟨x,rfl⟩
section
variable{w:World}
def PM:Sp:=λvs H Q _=>∃(x:Str),vs=[.str x]/\x.length<=1000/\∀H',af H H'->Q (.bl (cP x)) H'
theorem abn(x:Str):pf x 2 9=cP x:=by grind [pf,cP]
theorem abo:bh ["thing"] ["thing"] (aN (top 63)):={}
theorem abp(Hs:Cn mg "LEAST_LETTERS" (.int 2))(Ht:Cn mg "MOST_LETTERS" (.int 9))(F:aW K "is_word" "is_word" (top 63) f fd)(abq:Fn P w K mg base "is_letters" 1 (PK K)):aK P w K mg base aP 2 f fd ["thing"] PM:=by
 refine F.bE abo λaE A outer s H vs Q E hr h=>?_
 obtain⟨x,rfl,hx,q⟩:=h
 refine⟨_,(au (aS (aR abq hr (ae (pv 0) (ae (eP Hs (by rfl)) (ae (eP Ht (by rfl)) ag)))))),?_⟩
 try dsimp only[bt]
 refine⟨_,rfl,.inl ⟨x,2,9,rfl,hx,λH1 s1=>?_⟩⟩
 rw[abn]
 exact q H1 s1
def Hu:Sp:=λvs H Q _=>∃(x:Str),vs=[.str x]/\cP x=true/\∀H',af H H'->Q .aB H'
theorem abr:bh ["thing"] ["thing"] (aN (top 62)):={}
theorem abt(F:aW K "need_word" "need_word" (top 62) f fd)(abu:Fn P w K mg base "is_word" 2 PM):aK P w K mg base aP 3 f fd ["thing"] Hu:=by
 refine F.bE abr λaE A outer s H vs Q E hr h=>?_
 obtain⟨x,rfl,hw,q⟩:=h
 have hl:=zd hw
 refine⟨_,(au (bH (gi (eX (aR abu hr (ae (pv 0) ag))))
  (au xW)
  bN)),?_⟩
 try dsimp only[bt]
 refine⟨_,rfl,x,rfl,by lia,λH1 s1=>⟨_,rfl,?_⟩⟩
 rw[hw]
 exact aQ (q H1 s1)
def PN(C:Addr):Sp:=λvs H Q _=>∃(p dx:Addr),vs=[.ref p]/\H p=some (.ins C dx [])/\∀(d:Addr) (H':Hp),H d=none->fW C H' p d []->(∀b o,H b=some o->b≠p->H' b=some o)->Q .aB H'
theorem abv:bh ["self"] ["self"] (aN (inClass (top 61) 0)):={}
theorem abw(F:aW K "__init__" "Book.__init__" (inClass (top 61) 0) f fd)(T:de K C)(nw:bW K C "worths"):aK P w K mg base aP 1 f fd ["self"] (PN C):=by
 refine F.bE abv λaE A outer s H vs Q E hr h=>?_
 obtain⟨p,dx,rfl,hp,q⟩:=h
 refine⟨_,(au (lP (pv 0) Bm rfl)),?_⟩
 try dsimp only[bt]
 intro d hd
 have vV:p≠d:=bC hp hd
 refine⟨_,rfl,p,C,dx,[],rfl,(by rw[ar vV];exact hp),T,nw,(by show 0<1000;decide),?_⟩
 refine q d _ hd ⟨⟨dx,ao⟩,by rw[ar vV.symm,ao],je,λq m=>absurd m fH⟩ λb o e hb=>?_
 rw[ar hb,ar (bC e hd)]
 exact e
def PQ(C:Addr):Sp:=λvs H Q _=>∃(p d:Addr) (kvs:List (Key×V)) (x:Str) (v:V),vs=[.ref p,.str x]/\fW C H p d kvs/\cP x=true/\aU kvs (Sum.inr x:Key)=some v/\∀H',af H H'->Q .aB H'
theorem abx:bh ["self","word"] ["self","word"] (aN (inClass (top 61) 8)):={}
theorem aby(F:aW K "need_there" "Book.need_there" (inClass (top 61) 8) f fd)(T:de K C)(nw:bW K C "worths")(Hv:Fn P w K mg base "need_word" 3 Hu):aK P w K mg base aP 4 f fd ["self","word"] (PQ C):=by
 refine F.bE abx λaE A outer s H vs Q E hr h=>?_
 refine hide λG_ aD=>?_
 obtain⟨p,d,kvs,x,v,rfl,S,hw,hv,q⟩:=h
 refine aD.k ?_
 have dF:=ke hr
 refine⟨_,(aq (d6 (aR Hv hr (ae (pv 1) ag)))
  (au (bH (xT (M6 dF (pv 1) (dC (pv 0) rfl)))
  (au xW)
  bN))),?_⟩
 try dsimp only[bt]
 refine⟨_,rfl,x,rfl,hw,λH1 s1=>?_⟩
 obtain⟨⟨dx,h1⟩,hd,_⟩:=S.mono s1
 refine⟨_,rfl,_,rfl,p,C,dx,_,_,rfl,h1,T,nw,tQ _,d,_,rfl,dY.k (k:=Sum.inr x) hd,_,rfl,?_⟩
 rw[hv]
 exact aQ (q H1 s1)
def Co(C:Addr):Sp:=λvs H Q _=>∃(p d:Addr) (kvs:List (Key×V)) (x:Str) (v:V),vs=[.ref p,.str x,v]/\fW C H p d kvs/\cP x=true/\aU kvs (Sum.inr x:Key)=none/\kvs.length<=1000/\
 ∀H',fW C H' p d (putK kvs (Sum.inr x) v)->(∀b o,b≠d->H b=some o->H' b=some o)->Q .aB H'
theorem abz:bh ["self","word","worth"] ["self","word","worth"] (aN (inClass (top 61) 1)):={}
theorem PR(F:qA K "put" "Book.put" (inClass (top 61) 1) f fd dv)(T:de K C)(nw:bW K C "worths")(Hv:Fn P w K mg base "need_word" 3 Hu):aK P w K mg base aP 4 f fd ["self","word","worth"] (Co C):=by
 refine F.ok abz (λvs H Q E h=>?_) (λaE A outer s H vs Q E hr h=>?_)
 .refine hide λG_ aD=>?_
  obtain⟨p,d,kvs,x,v,rfl,_⟩:=h
  refine aD.k ?_
  rfl
 .refine hide λG_ aX=>?_
  obtain⟨p,d,kvs,x,v,rfl,S,hw,hv,hl,q⟩:=h
  refine aX.k ?_
  have dF:=ke hr
  refine⟨_,(aq (d6 (aR Hv hr (ae (pv 1) ag)))
   (aq (bH (xT (Bk dF (pv 1) (dC (pv 0) rfl)))
   (au xW)
   bN)
   (au (yi dF (dC (pv 0) rfl) (pv 1) (pv 2) rfl)))),?_⟩
  try dsimp only[bt]
  refine⟨_,rfl,x,rfl,hw,λH1 s1=>?_⟩
  obtain⟨⟨dx,h1⟩,hd,nd,tx⟩:=S.mono s1
  refine⟨_,rfl,_,rfl,p,C,dx,_,_,rfl,h1,T,nw,tQ _,d,_,rfl,dY.k (k:=Sum.inr x) hd,_,rfl,?_⟩
  rw[hv]
  have vV:p≠d:=bT h1 hd (by intro z;cases z)
  refine aQ ⟨_,rfl,_,rfl,p,C,dx,_,_,rfl,h1,T,nw,tQ _,_,rfl,d,_,rfl,lX.k (k:=Sum.inr x) hd (Ng (by lia)),?_⟩
  refine q _ ⟨⟨dx,by rw[ar vV];exact h1⟩,ao,Xh v nd hv,PL tx x v hv⟩ λb o hb e=>?_
  rw[ar hb]
  exact s1 _ _ e
def PU(C:Addr):Sp:=λvs H Q _=>∃(p d:Addr) (kvs:List (Key×V)) (x:Str),vs=[.ref p,.str x]/\fW C H p d kvs/\Q (.bl (aU kvs (Sum.inr x:Key)).isSome) H
theorem abA:bh ["self","word"] ["self","word"] (aN (inClass (top 61) 7)):={}
theorem abB(F:aW K "has" "Book.has" (inClass (top 61) 7) f fd)(T:de K C)(nw:bW K C "worths"):aK P w K mg base aP 1 f fd ["self","word"] (PU C):=by
 refine F.bE abA λaE A outer s H vs Q E hr h=>?_
 refine hide λG_ aD=>?_
 obtain⟨p,d,kvs,x,rfl,S,q⟩:=h
 have dF:=ke hr
 obtain⟨⟨dx,h1⟩,hd,nd,tx⟩:=id S
 refine aD.k ?_
 refine⟨_,(au (aS (U8 (Bk dF (pv 1) (dC (pv 0) rfl))))),?_⟩
 try dsimp only[bt]
 exact⟨_,rfl,_,rfl,p,C,dx,_,_,rfl,h1,T,nw,tQ _,d,_,rfl,dY.k (k:=Sum.inr x) hd,q⟩
def Hw(C:Addr):Sp:=λvs H Q _=>∃(p d:Addr) (kvs:List (Key×V)) (x:Str) (v:V),vs=[.ref p,.str x]/\fW C H p d kvs/\cP x=true/\aU kvs (Sum.inr x:Key)=some v/\∀H',af H H'->Q v H'
theorem abC:bh ["self","word"] ["self","word"] (aN (inClass (top 61) 4)):={}
theorem abD(F:aW K "worth" "Book.worth" (inClass (top 61) 4) f fd)(T:de K C)(nw:bW K C "worths")(Hx:Mt P w K mg base C "need_there" 4 (PQ C) []):aK P w K mg base aP 5 f fd ["self","word"] (Hw C):=by
 refine F.bE abC λaE A outer s H vs Q E hr h=>?_
 refine hide λG_ aD=>?_
 obtain⟨p,d,kvs,x,v,rfl,S,hw,hv,q⟩:=h
 have dF:=ke hr
 obtain⟨⟨zf,OB⟩,_⟩:=id S
 refine aD.k ?_
 refine⟨_,(aq (d6 (qB Hx hr (pv 0) (ae (pv 1) ag)))
  (au (aS (Fp dF (dC (pv 0) rfl) (pv 1) (λ_ _=>rfl))))),?_⟩
 try dsimp only[bt]
 refine⟨_,rfl,p,zf,_,rfl,OB,tR _ (by decide +kernel),_,rfl,p,d,kvs,x,v,rfl,S,hw,hv,λH1 s1=>?_⟩
 obtain⟨⟨dx,h1⟩,hd,nd,tx⟩:=S.mono s1
 exact⟨_,rfl,p,C,dx,_,_,rfl,h1,T,nw,tQ _,_,rfl,d,v,rfl,hv ▸ dY.k (k:=Sum.inr x) hd,q H1 s1⟩
def PV(C:Addr):Sp:=λvs H Q _=>∃(p d:Addr) (kvs:List (Key×V)),vs=[.ref p]/\fW C H p d kvs/\kvs.length<64/\∀l H',H l=none->af H H'->H' l=some (.lst ((cV (aM kvs)).map V.str))->Q (.ref l) H'
theorem abE:bh ["self"] ["self"] (aN (inClass (top 61) 3)):={}
theorem abF(B:Bl mg)(F:aW K "words" "Book.words" (inClass (top 61) 3) f fd)(T:de K C)(nw:bW K C "worths"):aK P w K mg base aP 1 f fd ["self"] (PV C):=by
 refine F.bE abE λaE A outer s H vs Q E hr h=>?_
 refine hide λG_ aD=>?_
 obtain⟨p,d,kvs,rfl,S,hl,q⟩:=h
 obtain⟨⟨dx,h1⟩,hd,nd,tx⟩:=id S
 refine aD.k ?_
 refine⟨_,(au (aS (bg (Yp rfl) (by rfl) B.BZ By (ae (dC (pv 0) rfl) ag)))),?_⟩
 try dsimp only[bt]
 exact⟨_,rfl,p,C,dx,_,_,rfl,h1,T,nw,tQ _,d,kvs,rfl,hd,tx,hl,λl zg=>q l _ zg (af.upd zg) ao⟩
end
noncomputable def mB(c d:Nat):Bool:=decide (d=46)||decide (d=c)
noncomputable def cX(x p:Str):Bool:=decide (x.length=p.length)&&(List.range x.length).all λi=>mB (x.cps.toList.getD i 0) (p.cps.toList.getD i 0)
theorem tS(n m:Nat):decide (V.str ⟨#[n]⟩=V.str ⟨#[m]⟩)=decide (n=m):=by grind
theorem PX:(".":Str)=⟨#[46]⟩:=by decide +kernel
theorem Cp{l:List α}{x d:α}(h:l[i]? = some x):l.getD i d=x:=by rw[bQ,h];rfl
theorem Hy(h:α->β)(d:α)(l:List α)(g:α->Bool):((List.range l.length).filter λi=>g (l.getD i d)).map (λi=>h (l.getD i d))=(l.filter g).map h:=by
 have e:((List.range l.length).map λi=>l.getD i d)=l:=by
  have:=abl (λx:α=>x) d l
  rw[this,List.map_id']
 conv=>rhs;rw[<-e]
 rw[AJ,kO]
 rfl
theorem abG(h:l7 kvs)(e:(kvs.map λq=>kV q.1)[i]? = some v):∃x,v = .str x/\(aM kvs)[i]? = some x:=by
 rw[bw] at e
 cases q:kvs[i]? with
 |none=>rw[q] at e;cases e
 |some y=>
  rw[q] at e
  obtain⟨x,hx⟩:=h y (bj q)
  have e:kV y.1=v:=cY e
  rw[hx] at e
  refine⟨x,e.symm,?_⟩
  unfold aM
  rw[bw,q,jd,hx]
section
variable{w:World}
theorem abH{g:Nat->Bool}:(List.range (i+1)).all g=((List.range i).all g&&g i):=by grind
noncomputable def eZ(p:Str)(n:Nat)(x:Str):Bool:=decide (x.length=p.length)&&(List.range n).all λi=>mB (x.cps.toList.getD i 0) (p.cps.toList.getD i 0)
theorem abI(x p:Str):eZ p p.cps.size x=cX x p:=by
 unfold eZ cX
 by_cases h:x.length=p.length
 .rw[aJ h,h]
  rfl
 .rw[aI h,ib,ib]
theorem PY(x p:Str)(n:Nat):eZ p (n+1) x=(eZ p n x&&mB (x.cps.toList.getD n 0) (p.cps.toList.getD n 0)):=by
 unfold eZ
 rw[abH,Bool.and_assoc]
def PZ:Sp:=λvs H Q _=>∃(d:Addr) (kvs:List (Key×V)) (pt:Str),vs=[.ref d,.str pt]/\H d=some (.dK kvs)/\l7 kvs/\kvs.length<=1000/\pt.length<=1000/\(∀x∈aM kvs,x.length<=1000)/\
 ∀l H',H l=none->af H H'->H' l=some (.lst (((aM kvs).filter λx=>cX x pt).map V.str))->Q (.ref l) H'
theorem Hz(x p:Str):decide (V.int (x.length:Int)=V.int (p.length:Int))=decide (x.length=p.length):=by grind
theorem wa:bh ["words","pattern","length","fits","at","sign"] ["words","pattern"] (aN (top 64)):={}
theorem abJ(B:Bl mg)(F:aW K "words_fitting" "words_fitting" (top 64) f fd)(iZ:Cn mg "FREE" (.str ".")):aK P w K mg base aP 1 f fd ["words","pattern"] PZ:=by
 refine F.bE wa λaE A outer s H vs Q E hr h=>?_
 refine hide λG_ aD=>?_
 obtain⟨d,kvs,pt,rfl,hd,tx,hl,hpt,hk,q⟩:=h
 refine aD.k ?_
 have mh:(aM kvs).length=kvs.length:=by unfold aM;rw[aw]
 refine⟨_,(aq (aH 2 wa.nd (bg gy (by rfl) B.cj b9 (ae (pv 1) ag)))
  (aq (Yx (vv (i:=3) wa.nd rfl (Or.inl rfl) (js:=[2]) (ns:=["length"]) (Yu (pv 0)) rfl rfl rfl rfl (λ_ _ _ _=>(lZ (bO mY (bg gy (by rfl) B.cj b9 (ae (pv 0) ag)) (pv 1)))) (λ_ _ _ _=>(pv 0))))
  (aq (cD (Y8 (by rfl) B.yW (ae (pv 1) ag)) (kT rfl (eC (bI 4 wa.nd) (eC (bI 5 wa.nd) kR)))
  (au (bH (bO jm (pv 5) (eP iZ (by rfl)))
   (au (vv (i:=3) wa.nd rfl (Or.inl rfl) (js:=[5,4]) (ns:=["sign","at"]) (dJ (pv 3)) rfl rfl rfl rfl (λ_ _ _ _=>(lZ (bO mY (aV iq (pv 0) (pv 2)) (pv 1)))) (λ_ _ _ _=>(pv 0))))
   bN)))
  (au (aS (pv 3)))))),?_⟩
 try dsimp only[bt]
 refine⟨_,rfl,pt,rfl,d8 (by lia),?_⟩
 refine⟨d,kvs,hd,λob=>?_⟩
 refine⟨_,rfl,d,ob,kvs,rfl,ao,?_⟩
 refine lh Yv (by rw[aw];lia) (λi=>eZ pt 0 ((aM kvs).getD i ⟨#[]⟩)) (λ_ i y _=>y = .str ((aM kvs).getD i ⟨#[]⟩)) (λH2 s2=>s2 _ _ ao) (λ_ _ _ _ _ _ _ _ h=>h) ?_ ?_
 .intro D i v H2 Z0 Z hD hv s2 _ k0 k1
  obtain⟨x,rfl,hx⟩:=abG tx hv
  have fD:=hk x (bj hx)
  rw[Cp hx] at k0 k1
  have e0:eZ pt 0 x=decide (x.length=pt.length):=by unfold eZ;rw[List.range_zero,List.all_nil,Er]
  refine⟨_,rfl,x,rfl,d8 (by lia),_,rfl,rfl,_,rfl,?_⟩
  rw[Hz,<-e0]
  refine eY (λh=>?_) (λh=>?_)
  .exact⟨_,rfl,k1 _ _ (af.cx _) h rfl⟩
  .exact k0 _ (af.cx _) (fK.mpr h)
 .intro D ys H2 hD bD s2 pr
  have e:=ze pr
  rw[aw,<-mh,Hy V.str ⟨#[]⟩ (aM kvs) λx=>eZ pt 0 x] at e
  have hd2:H2 d=some (.eA ob (.dK kvs)):=s2 _ _ ao
  have P0:D≠d:=λz=>by rw[z,ao] at hD;cases hD
  have za:H D=none:=by rw[ar P0] at hD;exact hD
  refine⟨hd2,?_⟩
  have sm:af H (upd H2 d (.dK kvs)):=λb o hb=>by
   by_cases z:b=d
   .subst z
    rw[hd] at hb
    rw[ao,hb]
   .rw[ar z]
    exact s2 _ _ (by rw[ar z];exact hb)
  have P4:upd H2 d (.dK kvs) D=some (.lst (((aM kvs).filter λx=>eZ pt 0 x).map V.str)):=by rw[ar P0,bD,e]
  generalize upd H2 d (.dK kvs)=H3 at sm P4
  refine⟨_,rfl,pt,rfl,?_⟩
  refine Za (λi O H4=>∃p v4 v5,O=[some (.ref d),some (.str pt),some (.int pt.length),some (.ref p),v4,v5]/\H p=none/\af H H4/\H4 p=some (.lst (((aM kvs).filter λx=>eZ pt i x).map V.str))) ⟨D,none,none,rfl,za,sm,P4⟩ ?_ ?_
  .intro i c t O H4 hc q8_ ht
   refine hide λG_ aX=>?_
   obtain⟨p,v4,v5,rfl,fV,cW,hp⟩:=q8_
   refine aX.k ?_
   have st:af H4 (upd H4 t (.tup [.int i,.str ⟨#[c]⟩])):=af.upd ht
   have hi:i<pt.length:=by rw[<-cu];exact(bY.mp hc).1
   have gp:pt.cps.toList.getD i 0=c:=Cp hc
   refine⟨t,_,rfl,ak.of ao,rfl,_,_,rfl,_,_,rfl,rfl,?_⟩
   generalize upd H4 t (.tup [.int i,.str ⟨#[c]⟩])=H5 at st
   have tT:=st _ _ hp
   refine⟨_,rfl,rfl,_,rfl,?_⟩
   rw[PX,tS]
   by_cases cQ:c=46
   .rw[aJ cQ]
    refine aQ ⟨p,_,_,rfl,fV,cW.trans st,?_⟩
    have ef:(λx=>eZ pt (i+1) x)=λx=>eZ pt i x:=by
     funext x
     rw[PY,gp]
     unfold mB
     rw[aJ cQ,Bool.true_or,Er]
    rw[ef]
    exact tT
   .rw[aI cQ]
    refine bp ⟨_,rfl,p,rfl,⟨_,aj.of tT⟩,?_⟩
    have d7:((aM kvs).filter λx=>eZ pt i x).length<=1000:=bF (fY _ _) (by lia)
    refine lh kg (by rw[aw];lia) (λj=>decide ((((aM kvs).filter λx=>eZ pt i x).getD j ⟨#[]⟩).cps.toList.getD i 0=c)) (λ_ j y _=>y = .str (((aM kvs).filter λx=>eZ pt i x).getD j ⟨#[]⟩)) (λH6 s6=>aj.of (s6 _ _ tT)) (λ_ _ _ _ _ _ _ _ h=>h) ?_ ?_
    .intro D2 j v H6 Z0 Z kE hv s6 _ k0 k1
     rw[bw] at hv
     cases e:((aM kvs).filter λx=>eZ pt i x)[j]? with
     |none=>rw[e] at hv;cases hv
     |some x=>
      rw[e] at hv
      cases hv
      rw[Cp e] at k0 k1
      have mx:=cq.mp (bj e)
      have fD:x.length=pt.length:=by
       have:=mx.2
       unfold eZ at this
       rw[d9] at this
       exact fG this.1
      have HC:x.cps.toList[i]? = some (x.cps.toList.getD i 0):=by
       rw[bQ,bf (by rw[cu];lia)]
       rfl
      refine⟨_,rfl,_,rfl,x,_,_,rfl,rfl,d8 (by lia),dz HC,_,rfl,rfl,_,rfl,?_⟩
      rw[tS]
      refine eY (λh=>?_) (λh=>?_)
      .exact⟨_,rfl,k1 _ _ (af.cx _) h rfl⟩
      .exact k0 _ (af.cx _) (fK.mpr h)
    .intro D2 zs H6 kE lr s6 ph
     have e2:=ze ph
     rw[aw,Hy V.str ⟨#[]⟩ ((aM kvs).filter λx=>eZ pt i x) λx=>decide (x.cps.toList.getD i 0=c)] at e2
     refine⟨D2,_,_,rfl,(cW.trans st).free kE,cW.trans (st.trans s6),?_⟩
     rw[lr,e2,List.filter_filter]
     have ef:(λx:Str=>decide (x.cps.toList.getD i 0=c)&&eZ pt i x)=λx=>eZ pt (i+1) x:=by
      funext x
      rw[PY,gp,Bool.and_comm]
      unfold mB
      rw[aI cQ,Bool.false_or]
      congr 1
      by_cases h:x.cps.toList.getD i 0=c
      .rw[aJ h,aJ h.symm]
      .rw[aI h,aI (bo h)]
     rw[ef]
  .intro O H4 q9_
   refine hide λG_ bK=>?_
   obtain⟨p,v4,v5,rfl,fV,cW,hp⟩:=q9_
   refine bK.k ?_
   refine⟨_,rfl,q p H4 fV cW ?_⟩
   have ef:(λx=>eZ pt pt.cps.size x)=λx=>cX x pt:=by funext x;exact abI x pt
   rw[ef] at hp
   exact hp
def P5(C:Addr):Sp:=λvs H Q _=>∃(p d:Addr) (kvs:List (Key×V)) (pt:Str),vs=[.ref p,.str pt]/\fW C H p d kvs/\kvs.length<64/\pt.length<=1000/\(∀x∈aM kvs,x.length<=1000)/\
 ∀l H',H l=none->af H H'->H' l=some (.lst ((cV ((aM kvs).filter λx=>cX x pt)).map V.str))->Q (.ref l) H'
theorem abK:bh ["self","pattern"] ["self","pattern"] (aN (inClass (top 61) 5)):={}
theorem abL(B:Bl mg)(F:aW K "fitting" "Book.fitting" (inClass (top 61) 5) f fd)(T:de K C)(nw:bW K C "worths")(abM:Fn P w K mg base "words_fitting" 1 PZ):aK P w K mg base aP 2 f fd ["self","pattern"] (P5 C):=by
 refine F.bE abK λaE A outer s H vs Q E hr h=>?_
 refine hide λG_ aD=>?_
 obtain⟨p,d,kvs,pt,rfl,S,hl,hpt,hk,q⟩:=h
 obtain⟨⟨dx,h1⟩,hd,nd,tx⟩:=id S
 refine aD.k ?_
 have mh:(aM kvs).length=kvs.length:=by unfold aM;rw[aw]
 refine⟨_,(au (aS (bg NQ (by rfl) B.BZ By (ae (aR abM hr (ae (dC (pv 0) rfl) (ae (pv 1) ag))) ag)))),?_⟩
 try dsimp only[bt]
 refine⟨_,rfl,p,C,dx,_,_,rfl,h1,T,nw,tQ _,_,rfl,d,kvs,pt,rfl,hd,tx,by lia,hpt,hk,λg H1 hg s1 hL=>?_⟩
 exact⟨g,_,rfl,aj.of hL,lK (fY _ _) (by lia),λl zg=>q l _ (s1.free zg) (s1.trans (af.upd zg)) ao⟩
end
noncomputable def runC(op:C2->Bool)(d c:C2):List C2:=if iy op d c=true then [] else line c d (runN op d 10 c)
theorem abN(op:C2->Bool)(d c:C2):cf op d c=if (runC op d c).length<2 then [] else runC op d c:=by
 unfold cf runC
 split
 .rfl
 .rw[tJ]
noncomputable def cF(k:Nat):C2:=(k,1 - k)
noncomputable def jD(l:List Str)(w k n:Nat):List (List C2):=(((cells l.length w).take n).map (cf (bx l w) (cF k))).filter (λr=>!r.isEmpty)
theorem abO{k:Nat}(hi:i<l.length)(hj:j<w):jD l w k (i*w+(j+1))=jD l w k (i*w+j)++if (cf (bx l w) (cF k) (i,j)).isEmpty=true then [] else [cf (bx l w) (cF k) (i,j)]:=by
 unfold jD
 rw[show i*w+(j+1)=i*w+j+1 from rfl,σ3 hi hj,eW,ie,bS,uF,dj,kN]
 cases(cf (bx l w) (cF k) (i,j)).isEmpty <;> rfl
noncomputable def mC(l:List Str)(w k:Nat):List (List C2):=jD l w k (l.length*w)
noncomputable def aG(l:List Str)(w:Nat):List (List C2):=mC l w 0++mC l w 1
theorem Cq(op:C2->Bool)(f:C2->List C2):∀(n:Nat) (cs:List C2),(dE op f n cs).map (·.2)=(cs.map f).filter λr=>!r.isEmpty
 |n,[]=>rfl
 |n,c::r=>by
  unfold dE
  rw[bS,dj]
  cases h:(f c).isEmpty with
  |true=>
   rw[az rfl,Cq op f _ r]
   rfl
  |false=>
   rw[av b8,bS,Cq op f _ r]
   rfl
theorem abP{op:C2->Bool}(h:op c=false):cf op d c=[]:=by
 unfold cf
 have:runN op d 10 c=0:=by
  unfold runN
  rw[h,av b8]
 rw[this]
 split
 .rfl
 .rw[az (by decide)]
theorem P6(d:C2):((ba l w).map (cf (bx l w) d)).filter (λr=>!r.isEmpty)=((cells l.length w).map (cf (bx l w) d)).filter (λr=>!r.isEmpty):=by
 unfold ba
 have:∀cs:List C2,(∀c∈cs,c.1<l.length/\c.2<w)->((cs.filter (bL l)).map (cf (bx l w) d)).filter (λr=>!r.isEmpty)=(cs.map (cf (bx l w) d)).filter (λr=>!r.isEmpty):=by
  intro cs
  induction cs with
  |nil=>intro _;rfl
  |cons c r ih=>
   intro h
   have hc:=h c bz
   have ih:=ih λx m=>h x (bX _ m)
   rw[dj,bS,dj]
   cases ho:bL l c with
   |true=>
    rw[az rfl,bS,dj,ih]
   |false=>
    rw[av b8,ih,abP (by rw[nF hc.1 hc.2];exact ho)]
    rfl
 exact this _ λc m=>nC m
theorem pq(l:List Str)(w:Nat):aG l w=(dw l w).map (·.2):=by
 unfold aG mC jD dw iz oQ
 rw[eW,Cq,Cq,P6,P6,fg (by rw[jv];exact aO _)]
 rfl
def Cr(g:Addr)(H:Hp)(r:List C2)(x:V):Prop := ∃p ys,x = .ref p/\p≠g/\H p=some (.lst ys)/\bq H r ys
theorem Cr.mono{g:Addr}{H H':Hp}{r:List C2}{x:V}(s:af H H')(h:Cr g H r x):Cr g H' r x:=let ⟨p,ys,e,n,a,b⟩:=h;⟨p,ys,e,n,s _ _ a,b.mono s⟩
abbrev fX(g:Addr)(H:Hp):List (List C2)->List V->Prop:=Paired (Cr g H)
theorem fX.mono{g:Addr}{H H':Hp}{rs:List (List C2)}{xs:List V}(s:af H H')(h:fX g H rs xs):fX g H' rs xs:=Paired.bU h λ_ _ q=>q.mono s
theorem fX.off{g:Addr}{H H':Hp}{rs:List (List C2)}{xs:List V}(hg:∃o,H g=some (.lst o))(k:∀b o,b≠g->H b=some o->H' b=some o)(h:fX g H rs xs):fX g H' rs xs:=
 Paired.bU h λ_ _ ⟨p,ys,e,n,a,b⟩=>⟨p,ys,e,n,k _ _ n a,bq.off hg k b⟩
section
variable{w:World}
def P7(K:Frag):Sp:=λvs H Q _=>∃(a:Addr) (l:List Str) (w:Nat) (i j:Int),vs=[.ref a,.int i,.int j]/\ak K H a (l.map V.str)/\aZ l w/\Q (.bl (jV l w i j)) H
theorem abQ:bh ["_law_sheet","_law_line","_law_column"] ["_law_sheet","_law_line","_law_column"] (aN (top 67)):={}
theorem abR(B:Bl mg)(F:aW K "_law_open" "_law_open" (top 67) f fd):aK P w K mg base aP 1 f fd ["_law_sheet","_law_line","_law_column"] (P7 K):=by
 refine F.bE abQ λaE A outer s H vs Q E hr h=>?_
 refine hide λG_ aD=>?_
 obtain⟨a,l,wd,i,j,rfl,hT,S,q⟩:=h
 obtain⟨x0,oV,B9,oY,_⟩:=S.row (i:=0) S.one
 refine aD.k ?_
 have h9:=S.nine
 have hw:=S.w9
 refine⟨_,(aq (bH (PW.pt (xV (Bb vf mZ aF (pv 1) (bg dX (by rfl) B.cj b9 (ae (pv 0) ag))) (xU (Bb vf mZ aF (pv 2) (bg gy (by rfl) B.cj b9 (ae (aV bV (pv 0) aF) ag))))))
  (au (aS (r6 jm (aV iq (aV bV (pv 0) (pv 1)) (pv 2)) eB)))
  bN)
  (au (aS fh))),?_⟩
 try dsimp only[bt]
 unfold jV at q
 refine⟨_,rfl,_,_,rfl,rfl,_,rfl,?_⟩
 by_cases h0:(0:Int)<=i
 .rw[aJ h0] at q ⊢
  refine bp ⟨_,rfl,a,_,rfl,.inr hT,_,_,rfl,rfl,_,rfl,?_⟩
  rw[aw]
  by_cases h1:i<(l.length:Int)
  .rw[aJ h1] at q ⊢
   refine bp ⟨_,rfl,_,_,rfl,rfl,_,rfl,?_⟩
   by_cases h2:(0:Int)<=j
   .rw[aJ h2] at q ⊢
    refine bp ⟨_,rfl,a,_,0,.str x0,rfl,rfl,hT,jz oV,x0,rfl,eS (by lia),_,_,rfl,rfl,_,rfl,?_⟩
    rw[oY]
    by_cases h3:j<(wd:Int)
    .rw[aJ h3] at q ⊢
     refine hide λG_ aX=>?_
     obtain⟨i',rfl⟩:=xG h0
     obtain⟨j',rfl⟩:=xG h2
     rw[eI,eI] at q
     obtain⟨x,hx,mx,lx,_,hj⟩:=S.row (i:=i') (by lia)
     refine aX.k ?_
     refine bp ⟨_,rfl,_,rfl,a,_,_,.str x,rfl,rfl,hT,jz hx,_,rfl,x,_,sg l (i',j'),rfl,rfl,eS (by lia),dz (hj j' (by lia)),rfl,?_⟩
     rw[qL,B2]
     exact q
    .rw[aI h3] at q ⊢
     exact aQ q
   .rw[aI h2] at q ⊢
    exact aQ ⟨_,rfl,aQ q⟩
  .rw[aI h1] at q ⊢
   exact aQ (aQ q)
 .rw[aI h0] at q ⊢
  exact aQ ⟨_,rfl,aQ (aQ q)⟩
def P8(K:Frag)(a p:Addr)(H:Hp)(l:List Str)(wd:Nat)(c:C2)(k:Nat):Nat->St->Hp->Prop:=λm O H2=>∃n xs,m=10 - n/\n<=9/\O=[some (.ref a),some (.int (go c (cF k) n).1),some (.int (go c (cF k) n).2),some (.int k),some (.ref p)]/\af H H2/\
 H2 p=some (.lst xs)/\bq H2 (line c (cF k) n) xs/\∀j,j<n->bx l wd (go c (cF k) j)=true
def P9(K:Frag):Sp:=λvs H Q _=>∃(a:Addr) (l:List Str) (w:Nat) (c:C2) (k:Nat),vs=[.ref a,.int c.1,.int c.2,.int k]/\ak K H a (l.map V.str)/\aZ l w/\k<=1/\
 ∀p xs H',H p=none->af H H'->H' p=some (.lst xs)->bq H' (runC (bx l w) (cF k) c) xs->Q (.ref p) H'
theorem Ct:bh ["_law_sheet","_law_line","_law_column","_law_down","_law_cells"] ["_law_sheet","_law_line","_law_column","_law_down"] (aN (top 68)):={}
theorem abS(F:aW K "_law_run" "_law_run" (top 68) f fd)(Qa:Fn P w K mg base "_law_open" 1 (P7 K)):aK P w K mg base aP 2 f fd ["_law_sheet","_law_line","_law_column","_law_down"] (P9 K):=by
 refine F.bE Ct λaE A outer s H vs Q E hr h=>?_
 refine hide λG_ aD=>?_
 obtain⟨a,l,wd,c,k,rfl,hT,S,hk,q⟩:=h
 refine aD.k ?_
 have h9:=S.nine
 have hw:=S.w9
 refine⟨_,(aq (aH 4 Ct.nd (du ag))
  (aq (bH (eX (aR Qa hr (ae (pv 0) (ae (bb qu (pv 1) (pv 3)) (ae (bb fM (bb qu (pv 2) aF) (pv 3)) ag)))))
  (au (aS (pv 4)))
  bN)
  (aq (Ml PassesOwn.never (eX (aR Qa hr (ae (pv 0) (ae (pv 1) (ae (pv 2) ag)))))
  (aq (d6 (fq iQ jf jg gS (pv 4) (ae (fm (ae (pv 1) (ae (pv 2) ag))) ag (hs:=dN rfl))))
   (aq (aH 1 Ct.nd (bb fM (pv 1) (pv 3)))
   (au (aH 2 Ct.nd (bb qu (bb fM (pv 2) aF) (pv 3)))))))
  (au (aS (pv 4)))))),?_⟩
 try dsimp only[bt]
 refine⟨bG _,λp hp=>?_⟩
 have fC:=af.upd (o:=HO.lst []) hp
 have Qb:((1 - k:Nat):Int)=1 - (k:Int):=by lia
 have Qc:=Pj l wd c (cF k)
 have e2:(c.2:Int) - (((cF k).2:Nat):Int)=(c.2:Int) - 1+(k:Int):=by show(c.2:Int) - ((1 - k:Nat):Int)=_;lia
 rw[e2] at Qc
 refine⟨_,rfl,_,rfl,_,rfl,_,_,rfl,rfl,_,rfl,_,_,rfl,rfl,_,rfl,_,_,rfl,rfl,a,l,wd,_,_,rfl,fC.tup hT,S,_,rfl,?_⟩
 rw[show(c.1:Int) - (k:Int)=(c.1:Int) - (((cF k).1:Nat):Int) from rfl,Qc]
 refine eY (λll=>?_) (λll=>?_)
 .refine⟨_,rfl,q p [] _ hp fC ao ?_⟩
  unfold runC
  rw[az ll]
  exact .nil
 .refine⟨P8 K a p H l wd c k,⟨10,0,[],rfl,by lia,by rw[jw];rfl,fC,ao,.nil,λj hj=>absurd hj (ic _)⟩,?_⟩
  intro m O H2 abT
  refine hide λG_ aX=>?_
  obtain⟨n,xs,rfl,hn,rfl,sm,hL,hC,ho⟩:=abT
  refine aX.k ?_
  refine⟨_,rfl,_,rfl,_,rfl,a,l,wd,_,_,rfl,sm.tup hT,S,_,rfl,?_⟩
  rw[G7]
  have hlen:xs.length=n:=by rw[<-hC.length,tJ]
  refine eY (λjC=>?_) (λjC=>?_)
  .have hn8:n<=8:=by
    obtain⟨o1,o2,_⟩:=oP jC
    simp only[go,cF] at o1 o2
    rcases(by lia:k=0\/k=1) with rfl | rfl
    .simp only[Nat.sub_zero,iP] at o2
     lia
    .simp only[iP] at o1
     lia
   refine⟨λO' H' =>∃m',m'<10 - n/\P8 K a p H l wd c k m' O' H',λ_ _ z=>z,?_⟩
   refine⟨_,rfl,.inl ⟨rfl,_,aj.of hL⟩,_,rfl,_,rfl,by show 2<=sizeLine;decide,λt ht=>?_⟩
   have vU:t≠p:=bo (bC hL ht)
   have tt:=af.upd (o:=HO.tup [V.int ((go c (cF k) n).1:Nat),V.int ((go c (cF k) n).2:Nat)]) ht
   refine⟨p,xs,_,rfl,rfl,tt _ _ hL,vT (by lia),?_⟩
   refine⟨_,rfl,_,rfl,_,_,rfl,rfl,_,rfl,_,_,rfl,rfl,_,rfl,_,_,rfl,rfl,?_⟩
   refine⟨10 - (n+1),by lia,n+1,xs++[.ref t],rfl,by lia,?_,(sm.trans tt).kf hp,ao,?_,?_⟩
   .rw[go_succ]
    have g1:(((go c (cF k) n).1+(cF k).1:Nat):Int)=((go c (cF k) n).1:Int)+(k:Int):=by show(((go c (cF k) n).1+k:Nat):Int)=_;lia
    have g2:(((go c (cF k) n).2+(cF k).2:Nat):Int)=((go c (cF k) n).2:Int)+1 - (k:Int):=by show(((go c (cF k) n).2+(1 - k):Nat):Int)=_;lia
    simp only[g1,g2]
    rfl
   .rw[σ4]
    have off:∀b o,b≠p->upd H2 t (HO.tup [V.int ((go c (cF k) n).1:Nat),V.int ((go c (cF k) n).2:Nat)]) b=some o->upd (upd H2 t (HO.tup [V.int ((go c (cF k) n).1:Nat),V.int ((go c (cF k) n).2:Nat)])) p (.lst (xs++[.ref t])) b=some o:=λb o hb z=>by rw[ar hb];exact z
    exact lJ (bq.off ⟨xs,tt _ _ hL⟩ off (hC.mono tt)) ⟨t,rfl,off _ _ vU ao⟩
   .intro j hj
    rcases xH.mp hj with z | z
    .exact ho j z
    .rw[z];exact jC
  .have Ca:runN (bx l wd) (cF k) 10 c=n:=GW (by lia) ho (fK.mpr jC)
   refine⟨_,rfl,q p xs H2 hp sm hL ?_⟩
   unfold runC
   rw[av ll,Ca]
   exact hC
def zh(K:Frag):Sp:=λvs H Q _=>∃(a:Addr) (l:List Str) (w:Nat),vs=[.ref a]/\ak K H a (l.map V.str)/\aZ l w/\
 ∀g xs H',H g=none->af H H'->H' g=some (.lst xs)->fX g H' (aG l w) xs->Q (.ref g) H'
theorem zj(l:List Str)(w k n:Nat):(jD l w k n).length<=(cells l.length w).length:=by grind [cells,jD]
noncomputable def Cu(l:List Str)(w:Nat):Nat->List (List C2)
 |0=>[]
 |1=>mC l w 0
 |_=>aG l w
noncomputable def nH(l:List Str)(w k n:Nat):List (List C2):=Cu l w k++jD l w k n
theorem wb:bh ["_law_sheet","_law_rows_here","_law_down","_law_line","_law_column","_law_cells"] ["_law_sheet"] (aN (top 69)):={}
theorem abU(B:Bl mg)(F:aW K "_law_rows" "_law_rows" (top 69) f fd)(abV:Fn P w K mg base "_law_run" 2 (P9 K)):aK P w K mg base aP 3 f fd ["_law_sheet"] (zh K):=by
 refine F.bE wb λaE A outer s H vs Q E hr h=>?_
 refine hide λG_ aD=>?_
 obtain⟨a,l,wd,rfl,hT,S,q⟩:=h
 have h9:=S.nine
 have hw:=S.w9
 have tM:=vO S
 obtain⟨x0,oV,B9,oY,_⟩:=S.row (i:=0) S.one
 refine aD.k ?_
 refine⟨_,(aq (aH 1 wb.nd (du ag))
  (aq (cD (ik (by rfl) B.iB (ae aF ag)) (bI 2 wb.nd)
  (au (cD (ik (by rfl) B.iB (ae (bg dX (by rfl) B.cj b9 (ae (pv 0) ag)) ag)) (bI 3 wb.nd)
   (au (cD (ik (by rfl) B.iB (ae (bg gy (by rfl) B.cj b9 (ae (aV bV (pv 0) aF) ag)) ag)) (bI 4 wb.nd)
    (aq (aH 5 wb.nd (aR abV hr (ae (pv 0) (ae (pv 3) (ae (pv 4) (ae (pv 2) ag))))))
     (au (bH (bO Mw (bg dX (by rfl) B.cj b9 (ae (pv 5) ag)) aF)
     (au (d6 (fq iQ jf jg gS (pv 1) (ae (pv 5) ag))))
     bN))))))))
  (au (aS (pv 1))))),?_⟩
 try dsimp only[bt]
 refine⟨bG _,λg hg=>?_⟩
 have fC:=af.upd (o:=HO.lst []) hg
 have abW:∀k n,(nH l wd k n).length<=300:=λk n=>by
  unfold nH
  have h1:=zj l wd k n
  have h2:(mC l wd 0).length<=81:=bF (zj l wd 0 _) tM
  have h3:(Cu l wd k).length<=162:=by
   match k with
   |0=>exact bG _
   |1=>show(mC l wd 0).length<=_;lia
   |k+2=>
    show(aG l wd).length<=_
    unfold aG
    have h2:(mC l wd 1).length<=81:=bF (zj l wd 1 _) tM
    rw[di]
    lia
  rw[di]
  lia
 refine⟨_,rfl,by decide,by decide,kh (n:=2) (λk O H2=>∃v2 v3 v4 v5 xs,O=[some (.ref a),some (.ref g),v2,v3,v4,v5]/\af H H2/\H2 g=some (.lst xs)/\fX g H2 (Cu l wd k) xs)
  ⟨none,none,none,none,[],rfl,fC,ao,.nil⟩ ?_ ?_⟩
 .intro k O H2 hk abX
  refine hide λG_ aX=>?_
  obtain⟨v2,v3,v4,v5,xs,rfl,sm,hL,hC⟩:=abX
  refine aX.k ?_
  refine⟨_,rfl,a,_,rfl,.inr (sm.tup hT),_,rfl,by rw[aw];lia,by rw[aw];lia,?_⟩
  rw[eI,aw]
  refine kh (λi O H3=>∃v3 v4 v5 xs,O=[some (.ref a),some (.ref g),some (.int k),v3,v4,v5]/\af H H3/\H3 g=some (.lst xs)/\fX g H3 (nH l wd k (i*wd)) xs)
   ⟨v3,v4,v5,xs,rfl,sm,hL,by unfold nH jD;rw[Nat.zero_mul,nX];simpa using hC⟩ ?_ ?_
  .intro i O H3 hi abY
   refine hide λG_ bK=>?_
   obtain⟨v3,v4,v5,ys,rfl,gm,jA,ku⟩:=abY
   refine bK.k ?_
   refine⟨_,rfl,a,_,0,.str x0,rfl,rfl,gm.tup hT,jz oV,x0,rfl,eS (by lia),_,rfl,by lia,by lia,?_⟩
   rw[eI,oY]
   refine kh (λj O H4=>∃v4 v5 xs,O=[some (.ref a),some (.ref g),some (.int k),some (.int i),v4,v5]/\af H H4/\H4 g=some (.lst xs)/\fX g H4 (nH l wd k (i*wd+j)) xs)
    ⟨v4,v5,ys,rfl,gm,jA,ku⟩ ?_ ?_
   .intro j O H4 hj abZ
    refine hide λG_ cJ=>?_
    obtain⟨v4,v5,zs,rfl,cW,tU,nI⟩:=abZ
    refine cJ.k ?_
    refine⟨_,rfl,_,rfl,_,rfl,_,rfl,a,l,wd,(i,j),k,rfl,cW.tup hT,S,by lia,λp us H5 hp s5 hP Qd=>?_⟩
    have zm:=s5 _ _ tU
    have Qe:p≠g:=λz=>by rw[z,tU] at hp;cases hp
    have HD:=Qd.length
    have e1:nH l wd k (i*wd+(j+1))=nH l wd k (i*wd+j)++if (cf (bx l wd) (cF k) (i,j)).isEmpty=true then [] else [cf (bx l wd) (cF k) (i,j)]:=by
     unfold nH
     rw[abO hi hj,pZ]
    have e2:=abN (bx l wd) (cF k) (i,j)
    refine⟨_,rfl,p,_,rfl,.inl (aj.of hP),_,_,rfl,rfl,_,rfl,eY (λh1=>?_) (λh1=>?_)⟩
    .have h1:(1:Int)<(us.length:Int):=fG h1
     have hz:=nI.length
     have kZ:=abW k (i*wd+j)
     refine⟨_,rfl,.inl ⟨rfl,_,aj.of zm⟩,_,rfl,g,zs,_,rfl,rfl,zm,vT (by lia),?_⟩
     refine⟨_,_,_,rfl,(cW.trans s5).kf hg,ao,?_⟩
     rw[av (by lia)] at e2
     have cE:(cf (bx l wd) (cF k) (i,j)).isEmpty=false:=by
      rw[e2]
      cases fE:runC (bx l wd) (cF k) (i,j) with
      |nil=>
       exfalso
       rw[fE] at HD
       have HD:0=us.length:=HD
       lia
      |cons _ _=>rfl
     rw[e1,av (by rw[cE];exact b8),e2]
     have off:∀b o,b≠g->H5 b=some o->upd H5 g (.lst (zs++[.ref p])) b=some o:=λb o hb z=>by rw[ar hb];exact z
     exact lJ (fX.off ⟨zs,zm⟩ off (fX.mono s5 nI)) ⟨p,us,rfl,Qe,off _ _ Qe hP,bq.off ⟨zs,zm⟩ off Qd⟩
    .have h1:¬(1:Int)<(us.length:Int):=λz=>h1 (aJ z)
     rw[az (by lia)] at e2
     refine⟨_,_,zs,rfl,cW.trans s5,zm,?_⟩
     rw[e1,e2,az (show([]:List C2).isEmpty=true from rfl),eV]
     exact fX.mono s5 nI
   .intro O H4 ab0
    refine hide λG_ eT=>?_
    obtain⟨v4,v5,zs,rfl,cW,tU,nI⟩:=ab0
    refine eT.k ?_
    refine⟨_,_,_,zs,rfl,cW,tU,?_⟩
    rw[iN]
    exact nI
  .intro O H3 ab1
   refine hide λG_ pw=>?_
   obtain⟨v3,v4,v5,ys,rfl,gm,jA,ku⟩:=ab1
   refine pw.k ?_
   refine⟨_,_,_,_,ys,rfl,gm,jA,?_⟩
   have e3:nH l wd k (l.length*wd)=Cu l wd (k+1):=by
    rcases(by lia:k=0\/k=1) with rfl | rfl
    .unfold nH
     exact Ep _
    .rfl
   rw[<-e3]
   exact ku
 .intro O H2 ab2
  refine hide λG_ pA=>?_
  obtain⟨v2,v3,v4,v5,xs,rfl,sm,hL,hC⟩:=ab2
  refine pA.k ?_
  exact⟨_,rfl,q g xs H2 hg sm hL hC⟩
end
noncomputable def putL(l:List Str):List C2->List Nat->List Str
 |c::cs,x::xs=>putL (setC l c x) cs xs
 |_,_=>l
theorem tV(l:List Str):∀(cs:List C2) (xs:List Nat) (i:Nat) (c:C2) (x:Nat),cs[i]? = some c->xs[i]? = some x->putL l (cs.take (i+1)) (xs.take (i+1))=setC (putL l (cs.take i) (xs.take i)) c x:=by
 intro cs
 induction cs generalizing l with
 |nil=>intro xs i c x h;simp at h
 |cons d r ih=>
  intro xs i c x h1 h2
  cases xs with
  |nil=>simp at h2
  |cons y s=>
   cases i with
   |zero=>
    have h1:d=c:=by simpa using h1
    have h2:y=x:=by simpa using h2
    subst h1 h2
    rfl
   |succ i=>
    have h1:r[i]? = some c:=by simpa using h1
    have h2:s[i]? = some x:=by simpa using h2
    exact ih (setC l d y) s i c x h1 h2
theorem Qf(l:List Str):∀(cs:List C2) (xs:List Nat),putL l (cs.take (min cs.length xs.length)) (xs.take (min cs.length xs.length))=putL l cs xs:=by
 intro cs
 induction cs generalizing l with
 |nil=>intro xs;simp[putL]
 |cons d r ih=>
  intro xs
  cases xs with
  |nil=>simp[putL]
  |cons y s=>
   have e:min (d::r).length (y::s).length=min r.length s.length+1:=by simp only[dO];lia
   rw[e]
   exact ih (setC l d y) s
section
variable{w:World}
theorem HE:bh ["_law_sheet","_law_cell","_law_sign","_law_lines","_law_line"] ["_law_sheet","_law_cell","_law_sign"] (aN (top 70)):={}
theorem ab3(B:Bl mg)(F:aW K "_law_with" "_law_with" (top 70) f fd):aK P w K mg base aP 1 f fd ["_law_sheet","_law_cell","_law_sign"] (pe K):=by
 refine F.bE HE λaE A outer s H vs Q E hr h=>?_
 refine hide λG_ aD=>?_
 obtain⟨a,b,l,wd,c,ch,rfl,hT,S,hb,h1,h2,q⟩:=h
 obtain⟨x,hx,mx,lx,qK,hj⟩:=S.row h1
 refine aD.k ?_
 have hw:=S.w9
 refine⟨_,(aq (aH 3 HE.nd (jY vk (by rfl) B.tK sP (ae (pv 0) ag)))
  (aq (aH 4 HE.nd (aV gj (pv 3) (aV bV (pv 1) aF)))
  (aq (rY (bb sf (bb sf (og vw (pv 4) m7 (m8 (aV bV (pv 1) aF))) (pv 2)) (og vw (pv 4) (m8 (bb fM (aV bV (pv 1) aF) aF)) m7)) (uY (pv 3) (aV bV (pv 1) aF) set_list))
  (au (aS (jY ye (by rfl) B.oU ow (ae (pv 3) ag))))))),?_⟩
 try dsimp only[bt]
 refine⟨_,rfl,a,_,rfl,.inr hT,λp hp=>?_⟩
 have t1:=af.upd (o:=HO.lst (l.map V.str)) hp
 have l1:(Txt.slice x none (some (c.2:Int))).length<=100:=bF (xx x _ _) (by lia)
 have l2:(Txt.slice x (some ((c.2:Int)+1)) none).length<=100:=bF (xx x _ _) (by lia)
 have nh:=t1.tup hb
 refine⟨_,rfl,_,rfl,b,_,0,.int c.1,rfl,rfl,nh,rfl,p,_,_,.str x,rfl,rfl,aj.of ao,jz hx,?_⟩
 refine⟨_,rfl,_,rfl,b,_,1,.int c.2,rfl,rfl,nh,rfl,_,rfl,x,rfl,eS (by lia),_,rfl,_,_,rfl,rfl,eS (by show _+1<=_;lia),?_⟩
 refine⟨_,rfl,_,rfl,b,_,1,.int c.2,rfl,rfl,nh,rfl,_,_,rfl,rfl,_,rfl,x,rfl,eS (by lia),_,_,rfl,rfl,eS ?_,?_⟩
 .rw[<-cu,nB,di,cu]
  show _+1+_<=_
  lia
 have eg:=GV (x:=x) (j:=c.2) (ch:=ch) (Ho (by lia)) (Hq (by lia))
 refine⟨_,rfl,_,rfl,b,_,0,.int c.1,rfl,rfl,nh,rfl,p,_,_,c.1,rfl,rfl,ao,vx (by rw[aw];exact h1),?_⟩
 rw[eg,L9]
 refine⟨_,rfl,p,_,rfl,.inl ⟨aj.of ao,λt ht=>?_⟩⟩
 have sm:af H (upd H p (.lst ((l.map V.str).set c.1 (.str (bJ x c.2 ch))))):=af.upd hp
 refine q t _ (sm.free ht) (sm.trans (af.upd ht)) ?_
 rw[ao]
 unfold setC
 rw[b7 hx,List.map_set]
def zo(K:Frag):Sp:=λvs H Q _=>∃(a t:Addr) (l:List Str) (w:Nat) (cs:List C2) (xs:List V),vs=[.ref a,.ref t]/\ak K H a (l.map V.str)/\aZ l w/\H t=some (.lst xs)/\bq H cs xs/\cs.length<=100/\(∀c∈cs,c.1<l.length/\c.2<w)/\
 ∀H',af H H'->Q (.str (ax l cs)) H'
theorem ab4:bh ["_law_sheet","_law_cells"] ["_law_sheet","_law_cells"] (aN (top 75)):={}
theorem ab5(F:aW K "_law_text" "_law_text" (top 75) f fd):aK P w K mg base aP 1 f fd ["_law_sheet","_law_cells"] (zo K):=by
 refine F.bE ab4 λaE A outer s H vs Q E hr h=>?_
 refine hide λG_ aD=>?_
 obtain⟨a,t,l,wd,cs,xs,rfl,hT,S,ht,hC,hlen,aY,q⟩:=h
 refine aD.k ?_
 have hlx:=hC.length
 have hw:=S.w9
 refine⟨_,(au (aS (fq LZ UI UJ FO eB (ae (Nz (js:=[0]) (ns:=["_law_sheet"]) (dJ (pv 1)) rfl rfl rfl rfl (λ_ _ _ _=>lg) (λ_ _ _ _=>(aV iq (Bz (K:=K) (rr:=Bi) rfl bV (pv 2) (pv 0)) (pv 1)))) ag (hs:=dN rfl))))),?_⟩
 try dsimp only[bt]
 refine⟨rfl,_,rfl,t,rfl,⟨_,aj.of ht⟩,?_⟩
 refine Yk (by lia) (aj.of ht) (λ_=>true) (λ_ i y _=>y = .str ⟨#[sg l (cs.getD i (0,0))]⟩) (λ_ _ _ _ _ _ _ _ h=>h) ?_ ?_
 .intro D i x H2 Z0 Z hD hx s2 _ k0 k1
  refine hide λG_ aX=>?_
  obtain⟨c,hc,b,rfl,hb⟩:=Paired.get hC hx
  have cM:=aY c (bj hc)
  obtain⟨y,hy,my,ly,_,hj⟩:=S.row cM.1
  refine aX.k ?_
  refine⟨b,_,_,rfl,ak.of (s2 _ _ hb),bp (B:=Z0 H2) ?_⟩
  exact⟨_,rfl,_,rfl,a,_,_,.str y,rfl,rfl,s2.tup hT,jz hy,_,rfl,y,_,_,rfl,rfl,eS (by lia),dz (hj c.2 cM.2),k1 _ _ (af.cx _) rfl (by rw[b7 hc])⟩
 .intro D ys H2 hD bD s2 pr
  rw[List.filter_eq_self.mpr (λ_ _=>rfl)] at pr
  have e:=oZ pr
  rw[<-hlx,o9 (λc=>V.str ⟨#[sg l c]⟩)] at e
  have e1:ys=((cs.map (sg l)).map λc=>(⟨#[c]⟩:Str)).map V.str:=by rw[e,kO,kO];rfl
  rw[e1] at bD
  refine⟨_,D,(cs.map (sg l)).map λc=>(⟨#[c]⟩:Str),rfl,rfl,.inl (aj.of bD),?_,?_⟩
  .rw[Hm,aw,aw,vY]
   show _+_*0<=_
   lia
  .rw[vY,Hl]
   exact q H2 s2
theorem HF(z:Int):gO iX.cps.toList (z % 26)=some (97+(z % 26).toNat)/\97<=97+(z % 26).toNat/\97+(z % 26).toNat<=122:=by
 have h1:=xI z (show(26:Int)≠0 by decide)
 have h2:=AS z (show(0:Int)<26 by decide)
 obtain⟨k,hk⟩:=xG h1
 rw[hk,eI]
 have e:iX.cps.toList[k]? = some (97+k):=by
  rw[BW,bw,rM (by lia)]
  rfl
 exact⟨dz e,by lia,by lia⟩
def HG(K:Frag):Sp:=λvs H Q _=>∃(a:Addr) (ns:List Int) (n:Int),vs=[.ref a,.int n]/\aj K H a (ns.map V.int)/\∀ch:Nat,97<=ch->ch<=122->Q (.str ⟨#[ch]⟩) H
theorem HH:bh ["_law_script","_law_number","_law_letters_here","_law_cell"] ["_law_script","_law_number"] (aN (top 73)):={}
theorem ab6(F:aW K "_law_letter" "_law_letter" (top 73) f fd)(tW:Fn P w K mg base "_law_cell_at" 1 (B1 K)):aK P w K mg base aP 2 f fd ["_law_script","_law_number"] (HG K):=by
 refine F.bE HH λaE A outer s H vs Q E hr h=>?_
 refine hide λG_ aD=>?_
 obtain⟨a,ns,n,rfl,hS,q⟩:=h
 refine aD.k ?_
 refine⟨_,(aq (aH 2 HH.nd eB)
  (aq (aH 3 HH.nd (aR tW hr (ae (pv 0) (ae aF ag))))
  (au (aS (aV iq (pv 2) (bb gK (bb fM (bb mX (pv 3) aF) (bb ve (bb gK (pv 1) (bb fM aF (bb gK (pv 3) aF))) (bb fM aF (bb gK (bb mX (pv 3) aF) aF)))) aF)))))),?_⟩
 try dsimp only[bt]
 have c0:=xI (cellAt ns 1) (show(3:Int)≠0 by decide)
 have d0:=xI (cellAt ns 1 / 78) (show(8:Int)≠0 by decide)
 have d1:=AS (cellAt ns 1 / 78) (show(0:Int)<8 by decide)
 refine⟨_,rfl,a,ns,1,rfl,hS,?_⟩
 refine⟨_,rfl,_,rfl,_,_,rfl,rfl,⟨by decide,by decide⟩,_,rfl,_,rfl,_,_,rfl,rfl,(by show(0:Int)<3;decide),_,_,rfl,rfl,_,_,rfl,rfl,(by show(0:Int)<2+cellAt ns 1 % 3;lia),?_⟩
 refine⟨_,rfl,_,_,rfl,rfl,⟨by decide,by decide⟩,_,_,rfl,rfl,(by show(0:Int)<8;decide),_,_,rfl,rfl,_,_,rfl,rfl,.inr ⟨by lia,by lia⟩,_,_,rfl,rfl,_,_,rfl,rfl,(by show(0:Int)<26;decide),?_⟩
 exact⟨iX,_,_,rfl,rfl,by decide,(HF _).1,q _ (HF _).2.1 (HF _).2.2⟩
def Qg(K:Frag):Sp:=λvs H Q _=>∃(a t:Addr) (l:List Str) (w:Nat) (cs:List C2) (xs:List V) (x:Str),vs=[.ref a,.ref t,.str x]/\H a=some (.tup (l.map V.str))/\eG l w/\H t=some (.tup xs)/\bq H cs xs/\(∀c∈cs,c.1<l.length/\c.2<w)/\
 ∀p H',af H H'->H' p=some (.tup ((putL l cs x.cps.toList).map V.str))->Q (.ref p) H'
theorem zr:bh ["sheet","cells","word","after","cell","letter"] ["sheet","cells","word"] (aN (top 37)):={}
theorem ab7(B:Bl mg)(F:aW K "put_word" "put_word" (top 37) f fd)(HI:Fn P w K mg base "with_sign" 1 (pe K)):aK P w K mg base aP 2 f fd ["sheet","cells","word"] (Qg K):=by
 refine F.bE zr λaE A outer s H vs Q E hr h=>?_
 refine hide λG_ aD=>?_
 obtain⟨a,t,l,wd,cs,xs,x,rfl,hT,S,ht,hC,aY,q⟩:=h
 refine aD.k ?_
 have hlx:=hC.length
 have lx:x.cps.toList.length=x.length:=cu x
 refine⟨_,(aq (aH 3 zr.nd (pv 0))
  (aq (cD (vC .T .S (by rfl) B.vS (ae (pv 1) (ae (pv 2) ag))) (kT rfl (eC (bI 4 zr.nd) (eC (bI 5 zr.nd) kR)))
  (au (aH 3 zr.nd (aR HI hr (ae (pv 3) (ae (pv 4) (ae (pv 5) ag)))))))
  (au (aS (pv 3))))),?_⟩
 try dsimp only[bt]
 refine⟨_,rfl,?_⟩
 refine⟨_,rfl,_,rfl,_,_,rfl,⟨_,t,rfl,ak.of ht⟩,⟨_,x,rfl,rfl⟩,?_⟩
 refine vD (K:=K) (k1 := .T) (k2 := .S) (xs:=xs) (ys:=x.cps.toList.map λc=>V.str ⟨#[c]⟩) (λi O H2=>∃p v4 v5,O=[some (.ref a),some (.ref t),some (.str x),some (.ref p),v4,v5]/\af H H2/\H2 p=some (.tup ((putL l (cs.take i) (x.cps.toList.take i)).map V.str))/\eG (putL l (cs.take i) (x.cps.toList.take i)) wd/\(putL l (cs.take i) (x.cps.toList.take i)).length=l.length)
  ⟨a,none,none,rfl,af.cx _,hT,S,rfl⟩ (λi O H2 _ h=>?_) ?_ ?_
 .refine hide λG_ aX=>?_
  obtain⟨p,v4,v5,rfl,sm,_⟩:=h
  refine aX.k ?_
  exact⟨⟨_,rfl,ak.of (sm _ _ ht)⟩,_,rfl,rfl⟩
 .intro i y cv p O H2 hy mD ab8 hp
  refine hide λG_ bK=>?_
  obtain⟨p0,v4,v5,rfl,sm,hP,G,hl⟩:=ab8
  rw[bw] at mD
  obtain⟨c,hc,rfl⟩:=iO.mp mD
  obtain⟨cc,hcc,b,rfl,hb⟩:=Paired.get hC hy
  refine bK.k ?_
  have cM:=aY cc (bj hcc)
  have tp:=af.upd (o:=HO.tup [V.ref b,V.str ⟨#[c]⟩]) hp
  refine⟨p,_,rfl,ak.of ao,rfl,_,_,rfl,_,_,rfl,rfl,?_⟩
  have s2:=sm.trans tp
  refine⟨_,rfl,_,rfl,_,rfl,p0,b,_,wd,cc,c,rfl,ak.of (tp _ _ hP),G,ak.of (s2 _ _ hb),by rw[hl];exact cM.1,cM.2,λt2 H3 gW s3 tm=>?_⟩
  rw[<-tV l cs x.cps.toList i cc c hcc hc] at tm
  refine⟨t2,_,_,rfl,s2.trans s3,tm,?_,?_⟩
  .rw[tV l cs x.cps.toList i cc c hcc hc]
   exact G.set (by rw[hl];exact cM.1) cM.2
  .rw[tV l cs x.cps.toList i cc c hcc hc,dg]
   exact hl
 .intro O H2 ab9
  refine hide λG_ cJ=>?_
  obtain⟨p,v4,v5,rfl,sm,hP,_⟩:=ab9
  refine cJ.k ?_
  refine⟨_,rfl,q p H2 sm ?_⟩
  have e:=Qf l cs x.cps.toList
  rw[lx,hlx] at e
  rw[aw,lx,e] at hP
  exact hP
def HJ(K:Frag):Sp:=λvs H Q _=>∃(a t:Addr) (l:List Str) (w:Nat) (cs:List C2) (xs:List V) (x:Str),vs=[.ref a,.ref t,.str x]/\H a=some (.tup (l.map V.str))/\eG l w/\H t=some (.lst xs)/\bq H cs xs/\(∀c∈cs,c.1<l.length/\c.2<w)/\
 ∀p H',af H H'->H' p=some (.tup ((putL l cs x.cps.toList).map V.str))->Q (.ref p) H'
theorem Cv:bh ["_law_sheet","_law_cells","_law_word","_law_cell","_law_letter_here"] ["_law_sheet","_law_cells","_law_word"] (aN (top 78)):={}
theorem aca(B:Bl mg)(F:aW K "_law_put" "_law_put" (top 78) f fd)(nJ:Fn P w K mg base "_law_with" 1 (pe K)):aK P w K mg base aP 2 f fd ["_law_sheet","_law_cells","_law_word"] (HJ K):=by
 refine F.bE Cv λaE A outer s H vs Q E hr h=>?_
 refine hide λG_ aD=>?_
 obtain⟨a,t,l,wd,cs,xs,x,rfl,hT,S,ht,hC,aY,q⟩:=h
 refine aD.k ?_
 have hlx:=hC.length
 have lx:x.cps.toList.length=x.length:=cu x
 refine⟨_,(aq (cD (vC .L .S (by rfl) B.vS (ae (pv 1) (ae (pv 2) ag))) (kT rfl (eC (bI 3 Cv.nd) (eC (bI 4 Cv.nd) kR)))
  (au (aH 0 Cv.nd (aR nJ hr (ae (pv 0) (ae (pv 3) (ae (pv 4) ag)))))))
  (au (aS (pv 0)))),?_⟩
 try dsimp only[bt]
 refine⟨_,rfl,_,rfl,_,_,rfl,⟨_,t,rfl,aj.of ht⟩,⟨_,x,rfl,rfl⟩,?_⟩
 refine vD (K:=K) (k1 := .L) (k2 := .S) (xs:=xs) (ys:=x.cps.toList.map λc=>V.str ⟨#[c]⟩) (λi O H2=>∃p v3 v4,O=[some (.ref p),some (.ref t),some (.str x),v3,v4]/\af H H2/\H2 p=some (.tup ((putL l (cs.take i) (x.cps.toList.take i)).map V.str))/\eG (putL l (cs.take i) (x.cps.toList.take i)) wd/\(putL l (cs.take i) (x.cps.toList.take i)).length=l.length)
  ⟨a,none,none,rfl,af.cx _,hT,S,rfl⟩ (λi O H2 _ h=>?_) ?_ ?_
 .refine hide λG_ aX=>?_
  obtain⟨p,v3,v4,rfl,sm,_⟩:=h
  refine aX.k ?_
  exact⟨⟨_,rfl,aj.of (sm _ _ ht)⟩,_,rfl,rfl⟩
 .intro i y cv p O H2 hy mD acb hp
  refine hide λG_ bK=>?_
  obtain⟨p0,v3,v4,rfl,sm,hP,G,hl⟩:=acb
  rw[bw] at mD
  obtain⟨c,hc,rfl⟩:=iO.mp mD
  obtain⟨cc,hcc,b,rfl,hb⟩:=Paired.get hC hy
  refine bK.k ?_
  have cM:=aY cc (bj hcc)
  have tp:=af.upd (o:=HO.tup [V.ref b,V.str ⟨#[c]⟩]) hp
  refine⟨p,_,rfl,ak.of ao,rfl,_,_,rfl,_,_,rfl,rfl,?_⟩
  have s2:=sm.trans tp
  refine⟨_,rfl,_,rfl,_,rfl,p0,b,_,wd,cc,c,rfl,ak.of (tp _ _ hP),G,ak.of (s2 _ _ hb),by rw[hl];exact cM.1,cM.2,λt2 H3 gW s3 tm=>?_⟩
  rw[<-tV l cs x.cps.toList i cc c hcc hc] at tm
  refine⟨t2,_,_,rfl,s2.trans s3,tm,?_,?_⟩
  .rw[tV l cs x.cps.toList i cc c hcc hc]
   exact G.set (by rw[hl];exact cM.1) cM.2
  .rw[tV l cs x.cps.toList i cc c hcc hc,dg]
   exact hl
 .intro O H2 acd
  refine hide λG_ cJ=>?_
  obtain⟨p,v3,v4,rfl,sm,hP,_⟩:=acd
  refine cJ.k ?_
  refine⟨_,rfl,q p H2 sm ?_⟩
  have e:=Qf l cs x.cps.toList
  rw[lx,hlx] at e
  rw[aw,lx,e] at hP
  exact hP
end
noncomputable def pB(l:List Str):List Int:=l.map λx=>(x.length:Int) - (Txt.count x "#":Int)
noncomputable def zt(l:List Str)(w:Nat):Bool:=decide (((((aG l w).map (·.length)).sum:Nat):Int)=2*(pB l).sum)
structure pC(l:List Str)(w:Nat):Prop where
 sh:aZ l w
 h4:l.length<=4
 w4:w<=4
 sg:∀x∈l,∀c∈x.cps.toList,c=35\/c=46
theorem aZ.of(h1:1<=l.length)(h9:l.length<=9)(w1:1<=w)(w9:w<=9)(hl:∀x∈l,x.length=w)(hc:∀x∈l,∀c∈x.cps.toList,c=35\/c=46):aZ l w:=
 ⟨h1,h9,w1,w9,hl,λx m c mc=>by rcases hc x m c mc with h | h <;> rw[h] <;> unfold qI <;> lia⟩
theorem ace{P:Nat->Prop}(h:∀x∈l,∀d∈x.cps.toList,P d)(h1:c.1<l.length)(hP:P ch):∀x∈setC l c ch,∀d∈x.cps.toList,P d:=by
 intro x m d md
 unfold setC at m
 rcases LW m with z | z
 .exact h x z d md
 .rw[z] at md
  have md:d∈(l.getD c.1 ⟨#[]⟩).cps.toList.take c.2++ch::(l.getD c.1 ⟨#[]⟩).cps.toList.drop (c.2+1):=by
   unfold bJ at md
   simpa using md
  have hm:l.getD c.1 ⟨#[]⟩∈l:=by rw[bQ,bf h1];exact nY h1
  rcases cS.mp md with md | md
  .exact h _ hm d (AR md)
  .rcases cw.mp md with md | md
   .rw[md];exact hP
   .exact h _ hm d (UH md)
theorem pC.set(F:pC l w)(h1:c.1<l.length)(h2:c.2<w):pC (setC l c 35) w:=
 ⟨tI F.sh h1 h2 (.inl rfl),by rw[dg];exact F.h4,F.w4,ace (P:=λd=>d=35\/d=46) F.sg h1 (.inl rfl)⟩
theorem HK(n:Nat):(gV "." n).cps.toList=List.replicate n 46:=by
 show(List.replicate n (".":Str).cps.toList).flatten=_
 rw[show(".":Str).cps.toList=[46] from by decide +kernel]
 induction n with
 |zero=>rfl
 |succ n ih=>rw[pY,xw,ih,pY];rfl
theorem Qh(h1:1<=h)(h4:h<=4)(w1:1<=w)(w4:w<=4):pC (List.replicate h (gV "." w)) w:=by
 have hs:∀x∈List.replicate h (gV "." w),∀c∈x.cps.toList,c=35\/c=46:=λx m c mc=>by
  rw[UK m,HK] at mc
  exact .inr (UK mc)
 refine⟨aZ.of (by rw[uC];exact h1) (by rw[uC];lia) w1 (by lia) (λx m=>?_) hs,by rw[uC];exact h4,w4,hs⟩
 rw[UK m,<-cu,HK,uC]
theorem Qi{α:Type}(x:α):∀n:Nat,(List.replicate n [x]).flatten=List.replicate n x
 |0=>rfl
 |n+1=>by rw[pY,xw,Qi x n];rfl
theorem dIv(a b:Int):decide (V.int a=V.int b)=decide (a=b):=by grind
theorem wc{p:Addr}{o:HO}(_:af H (upd H p o)):upd H p o p=some o:=ao
def kF(l:List Str)(w:Nat):Prop := ∀c:C2,c.1<l.length->c.2<w->(sg l c=35↔sg l (l.length - 1 - c.1,w - 1 - c.2)=35)
theorem HL(h1:c.1<h)(h2:c.2<w):sg (List.replicate h (gV "." w)) c=46:=by
 unfold sg
 have e1:(List.replicate h (gV "." w))[c.1]? = some (gV "." w):=by rw[Uy,az h1]
 rw[b7 e1]
 rw[HK,bQ,Uy,az h2]
 rfl
theorem acf:kF (List.replicate h (gV "." w)) w:=λc h1 h2=>by
 rw[uC] at h1 ⊢
 rw[HL h1 h2,HL (c:=(h - 1 - c.1,w - 1 - c.2)) (by show h - 1 - c.1<h;lia) (by show w - 1 - c.2<w;lia)]
theorem kF.set{l:List Str}{w:Nat}(S:aZ l w)(Y:kF l w){c:C2}(h1:c.1<l.length)(h2:c.2<w):kF (setC (setC l c 35) (l.length - 1 - c.1,w - 1 - c.2) 35) w:=by
 have G:=S.dn
 have G1:=G.set (ch:=35) h1 h2
 have t1:l.length - 1 - c.1<l.length:=by lia
 have t2:w - 1 - c.2<w:=by lia
 have key:∀d:C2,d.1<l.length->d.2<w->(sg (setC (setC l c 35) (l.length - 1 - c.1,w - 1 - c.2) 35) d=35↔d=c\/d=(l.length - 1 - c.1,w - 1 - c.2)\/sg l d=35):=λd d1 d2=>by
  rw[G1.gX (c:=(l.length - 1 - c.1,w - 1 - c.2)) (by rw[dg];exact t1) t2 (by rw[dg];exact d1) d2,G.gX h1 h2 d1 d2]
  by_cases e1:d=(l.length - 1 - c.1,w - 1 - c.2)
  .rw[az e1]
   exact⟨λ_=>.inr (.inl e1),λ_=>rfl⟩
  .rw[av e1]
   by_cases e2:d=c
   .rw[az e2]
    exact⟨λ_=>.inl e2,λ_=>rfl⟩
   .rw[av e2]
    exact⟨λz=>.inr (.inr z),λz=>by rcases z with z | z | z;exact absurd z e2;exact absurd z e1;exact z⟩
 intro d d1 d2
 rw[dg,dg] at d1 ⊢
 rw[key d d1 d2,key (l.length - 1 - d.1,w - 1 - d.2) (by show l.length - 1 - d.1<_;lia) (by show w - 1 - d.2<w;lia),Y d d1 d2]
 have a1:(d=c)↔((l.length - 1 - d.1,w - 1 - d.2)=(l.length - 1 - c.1,w - 1 - c.2)):=by
  constructor
  .intro z;rw[z]
  .intro z
   injection z with z1 z2
   exact rQ (by lia) (by lia)
 have a2:(d=(l.length - 1 - c.1,w - 1 - c.2))↔((l.length - 1 - d.1,w - 1 - d.2)=c):=by
  constructor
  .intro z
   rw[z]
   exact rQ (by show l.length - 1 - (l.length - 1 - c.1)=c.1;lia) (by show w - 1 - (w - 1 - c.2)=c.2;lia)
  .intro z
   rw[<-z]
   exact rQ (by show d.1=l.length - 1 - (l.length - 1 - d.1);lia) (by show d.2=w - 1 - (w - 1 - d.2);lia)
 rw[a1,a2]
 constructor
 .rintro(z | z | z)
  .exact .inr (.inl z)
  .exact .inl z
  .exact .inr (.inr z)
 .rintro(z | z | z)
  .exact .inr (.inl z)
  .exact .inl z
  .exact .inr (.inr z)
theorem acg{sp:Nat}(hw:0<w)(hs:sp<h*w):(h*w - 1 - sp) / w=h - 1 - sp / w/\(h*w - 1 - sp) % w=w - 1 - sp % w:=by
 have e:=Nat.div_add_mod sp w
 have hm:=Nat.mod_lt sp hw
 have hd:sp / w<h:=LV (by rw[qb];exact hs)
 obtain⟨k,hk⟩:∃k,h=sp / w+1+k:=⟨h - (sp / w+1),by lia⟩
 have e3:h*w - 1 - sp=(w - 1 - sp % w)+w*k:=by
  have e4:h*w=w*(sp / w)+w+w*k:=by rw[hk,Nat.add_mul,Nat.add_mul,Nat.one_mul,qb (sp / w) w,qb k w]
  lia
 have e5:h - 1 - sp / w=k:=by lia
 rw[e3,e5]
 exact⟨by rw[Nat.add_mul_div_left _ _ hw,Nat.div_eq_of_lt (by lia),xB],by rw[Nat.add_mul_mod_self_left,Nat.mod_eq_of_lt (by lia)]⟩
theorem ach:∀h∈[2,3,4],∀w∈[2,3,4],zt (List.replicate h (gV "." w)) w=true:=by decide +kernel
def Qj(l m:List Str)(w n:Nat)(c:C2):Prop:=(sg l c=35->sg m c=35)/\(sg l c≠35->if c.1*w+c.2<n then 97<=sg m c/\sg m c<=122 else sg m c=46)
structure iE(l m:List Str)(w n:Nat):Prop where
 sh:aZ m w
 ln:m.length=l.length
 cl:∀c:C2,c.1<l.length->c.2<w->Qj l m w n c
theorem HM{b c d:Nat}(h:b<w)(h':d<w)(e:a*w+b=c*w+d):a=c/\b=d:=by
 rcases Nat.lt_trichotomy a c with z | z | z
 .have:=Ez w z
  rw[iN] at this
  lia
 .subst z
  exact⟨rfl,by lia⟩
 .have:=Ez w z
  rw[iN] at this
  lia
theorem iE.zero(F:pC l w):iE l l w 0:=by
 refine⟨F.sh,rfl,λc h1 h2=>⟨id,λh=>?_⟩⟩
 rw[av (ic _)]
 obtain⟨x,_,mx,_,_,hj⟩:=F.sh.row h1
 rcases F.sg x mx _ (bj (hj _ h2)) with z | z
 .exact absurd z h
 .exact z
theorem iE.aci(F:iE l m w (i*w+j))(hj:j<w)(hc:sg l (i,j)=35):iE l m w (i*w+(j+1)):=by
 refine⟨F.sh,F.ln,λc h1 h2=>⟨(F.cl c h1 h2).1,λh=>?_⟩⟩
 have g:=(F.cl c h1 h2).2 h
 have ne:c.1*w+c.2≠i*w+j:=λe=>by
  have:=HM h2 hj e
  exact h (by rw[show c=(i,j) from rQ this.1 this.2];exact hc)
 by_cases z:c.1*w+c.2<i*w+j
 .rw[az z] at g
  rw[az (by lia)]
  exact g
 .rw[av z] at g
  rw[av (by lia)]
  exact g
theorem iE.put(F:iE l m w (i*w+j))(hi:i<l.length)(hj:j<w)(hc:sg l (i,j)≠35)(c1:97<=ch)(c2:ch<=122):iE l (setC m (i,j) ch) w (i*w+(j+1)):=by
 have zu:i<m.length:=by rw[F.ln];exact hi
 refine⟨tI F.sh zu hj (.inr (.inr ⟨c1,c2⟩)),by rw[dg];exact F.ln,λc h1 h2=>?_⟩
 unfold Qj
 rw[F.sh.dn.gX (c:=(i,j)) zu hj (by rw[F.ln];exact h1) h2]
 by_cases e:c=(i,j)
 .rw[az e,e]
  refine⟨λz=>absurd z hc,λ_=>?_⟩
  rw[az (by show i*w+j<_;lia)]
  exact⟨c1,c2⟩
 .rw[av e]
  refine⟨(F.cl c h1 h2).1,λh=>?_⟩
  have g:=(F.cl c h1 h2).2 h
  have ne:c.1*w+c.2≠i*w+j:=λz=>e (rQ (HM h2 hj z).1 (HM h2 hj z).2)
  by_cases z:c.1*w+c.2<i*w+j
  .rw[az z] at g
   rw[az (by lia)]
   exact g
  .rw[av z] at g
   rw[av (by lia)]
   exact g
structure gY(m g:List Str)(w:Nat):Prop where
 sh:aZ g w
 ln:g.length=m.length
 cl:∀c:C2,c.1<m.length->c.2<w->sg g c=sg m c\/(sg m c≠35/\sg g c=46)
theorem gY.put(F:gY m g w)(h1:c.1<m.length)(h2:c.2<w)(hc:sg m c≠35):gY m (setC g c 46) w:=by
 have zu:c.1<g.length:=by rw[F.ln];exact h1
 refine⟨tI F.sh zu h2 (.inr (.inl rfl)),by rw[dg];exact F.ln,λd d1 d2=>?_⟩
 rw[F.sh.dn.gX zu h2 (by rw[F.ln];exact d1) d2]
 by_cases e:d=c
 .rw[az e,e]
  exact .inr ⟨hc,rfl⟩
 .rw[av e]
  exact F.cl d d1 d2
section
variable{w:World}
def Qk(K:Frag):Sp:=λvs H Q _=>∃(a b:Addr) (ns:List Int) (l:List Str) (w:Nat) (c:Int),vs=[.ref a,.ref b,.int c]/\aj K H a (ns.map V.int)/\H b=some (.tup (l.map V.str))/\pC l w/\
 ∀p m H',af H H'->H' p=some (.tup (m.map V.str))->iE l m w (l.length*w)->Q (.ref p) H'
theorem tX:bh ["_law_script","_law_floor_here","_law_cell","_law_sheet","_law_number","_law_line","_law_column"] ["_law_script","_law_floor_here","_law_cell"] (aN (top 74)):={}
theorem acj(B:Bl mg)(F:aW K "_law_filled" "_law_filled" (top 74) f fd)(nJ:Fn P w K mg base "_law_with" 1 (pe K))(HN:Fn P w K mg base "_law_letter" 2 (HG K)):aK P w K mg base aP 3 f fd ["_law_script","_law_floor_here","_law_cell"] (Qk K):=by
 refine F.bE tX λaE A outer s H vs Q E hr h=>?_
 refine hide λG_ aD=>?_
 obtain⟨a,b,ns,l,wd,c,rfl,hS,hT,Fl,q⟩:=h
 have S:=Fl.sh
 have h9:=S.nine
 have hw:=S.w9
 obtain⟨x0,oV,B9,oY,_⟩:=S.row (i:=0) S.one
 refine aD.k ?_
 refine⟨_,(aq (aH 3 tX.nd (pv 1))
  (aq (aH 4 tX.nd (bb fM (bb gK (pv 2) aF) aF))
  (aq (cD (ik (by rfl) B.iB (ae (bg dX (by rfl) B.cj b9 (ae (pv 1) ag)) ag)) (bI 5 tX.nd)
  (au (cD (ik (by rfl) B.iB (ae (bg gy (by rfl) B.cj b9 (ae (aV bV (pv 1) aF) ag)) ag)) (bI 6 tX.nd)
   (aq (aH 4 tX.nd (bb gK (bb ve (pv 4) aF) aF))
    (au (vy (bH (bO jm (aV iq (aV bV (pv 1) (pv 5)) (pv 6)) eB)
    (au (aH 3 tX.nd (aR nJ hr (ae (pv 3) (ae (fm (ae (pv 5) (ae (pv 6) ag))) (ae (aR HN hr (ae (pv 0) (ae (bb mX (pv 4) aF) ag))) ag (hs:=dN rfl)) (hs:=dN rfl)) (hs:=dN rfl)) (he:=dN rfl) (hpl:=BI rfl))))
    bN)))))))
  (au (aS (pv 3)))))),?_⟩
 try dsimp only[bt]
 refine⟨_,rfl,_,rfl,_,_,rfl,rfl,(by show(0:Int)<2147483647;decide),_,_,rfl,rfl,?_⟩
 refine⟨_,rfl,b,_,rfl,.inr (ak.of hT),_,rfl,by rw[aw];lia,by rw[aw];lia,?_⟩
 rw[eI,aw]
 refine kh (λi O H2=>∃p m n v5 v6,O=[some (.ref a),some (.ref b),some (.int c),some (.ref p),some (.int n),v5,v6]/\af H H2/\H2 p=some (.tup (m.map V.str))/\iE l m wd (i*wd))
  ⟨b,l,_,none,none,rfl,af.cx _,hT,by rw[Nat.zero_mul];exact iE.zero Fl⟩ ?_ ?_
 .intro i O H2 hi ack
  refine hide λG_ aX=>?_
  obtain⟨p,m,n,v5,v6,rfl,sm,hP,Fm⟩:=ack
  refine aX.k ?_
  refine⟨_,rfl,b,_,0,.str x0,rfl,rfl,ak.of (sm _ _ hT),jz oV,x0,rfl,eS (by lia),_,rfl,by lia,by lia,?_⟩
  rw[eI,oY]
  refine kh (λj O H2=>∃p m n v6,O=[some (.ref a),some (.ref b),some (.int c),some (.ref p),some (.int n),some (.int i),v6]/\af H H2/\H2 p=some (.tup (m.map V.str))/\iE l m wd (i*wd+j))
   ⟨p,m,n,v6,rfl,sm,hP,Fm⟩ ?_ ?_
  .intro j O H3 hj acm
   refine hide λG_ bK=>?_
   obtain⟨p,m,n,v6,rfl,sm,hP,Fm⟩:=acm
   obtain⟨x,hx,mx,lx,_,zw⟩:=S.row hi
   refine bK.k ?_
   refine⟨_,rfl,_,_,rfl,rfl,.inr ⟨by decide,by decide⟩,_,_,rfl,rfl,(by show(0:Int)<2147483647;decide),?_⟩
   refine⟨λO H2=>∃p m n v6,O=[some (.ref a),some (.ref b),some (.int c),some (.ref p),some (.int n),some (.int i),v6]/\af H H2/\H2 p=some (.tup (m.map V.str))/\iE l m wd (i*wd+(j+1)),λ_ _ h=>h,?_⟩
   refine⟨_,rfl,_,rfl,b,_,_,.str x,rfl,rfl,ak.of (sm _ _ hT),jz hx,_,rfl,x,_,_,rfl,rfl,eS (by lia),dz (zw j hj),rfl,_,rfl,?_⟩
   rw[qL,B2]
   by_cases we:sg l (i,j)=35
   .rw[aJ we]
    exact aQ ⟨p,m,_,_,rfl,sm,hP,Fm.aci hj we⟩
   .rw[aI we]
    refine bp ?_
    refine⟨_,rfl,_,rfl,_,rfl,(by show 2<=sizeLine;decide),λq1 qR=>?_⟩
    have y1:=af.upd (o:=HO.tup [V.int (i:Int),V.int (j:Int)]) qR
    refine⟨_,rfl,_,rfl,_,_,rfl,rfl,⟨by decide,by decide⟩,a,ns,_,rfl,(sm.trans y1).seq hS,λch c1 c2=>?_⟩
    refine⟨p,q1,m,wd,(i,j),ch,rfl,ak.of (y1 _ _ hP),Fm.sh.dn,ak.of ao,by rw[Fm.ln];exact hi,hj,λt H4 _ s4 ht=>?_⟩
    exact⟨t,_,_,_,rfl,sm.trans (y1.trans s4),ht,Fm.put hi hj we c1 c2⟩
  .intro O H3 acn
   refine hide λG_ cJ=>?_
   obtain⟨p,m,n,v6,rfl,sm,hP,Fm⟩:=acn
   refine cJ.k ?_
   exact⟨p,m,n,_,_,rfl,sm,hP,by rw[iN];exact Fm⟩
 .intro O H2 aco
  refine hide λG_ eT=>?_
  obtain⟨p,m,n,v5,v6,rfl,sm,hP,Fm⟩:=aco
  refine eT.k ?_
  exact⟨_,rfl,q p m H2 sm hP Fm⟩
end
theorem Ql{c:Nat}(h1:97<=c)(h2:c<=122):c∈iX.cps.toList:=by
 rw[BW]
 exact bM.mpr ⟨c - 97,iK.mpr (by lia),by lia⟩
theorem acp{y:Str}(h1:i0 x=true)(h2:i0 y=true):i0 (x++y)=true:=by
 unfold i0 at *
 rw[nB,List.all_append,h1,h2]
 rfl
theorem Qm(h1:2<=x.length)(h2:x.length<=9)(h3:i0 x=true):cP x=true:=by grind [i0,cP]
theorem acq{c:Nat}(h:c∈iX.cps.toList):i0 ⟨#[c]⟩=true:=by grind [iX,i0]
theorem acs(ns:List Int)(lo hi:Option Int):∀y∈lT (ns.map V.int) lo hi,∃z,y=V.int z:=λy m=>by
 unfold lT at m
 obtain⟨z,_,e⟩:=bM.mp (UH (AR m))
 exact⟨z,e.symm⟩
theorem HP(h:gR (.str x) (ps.map V.str)=false):x∉ps:=λm=>by
 unfold gR at h
 rw[List.any_map] at h
 have:=Eg.mp h x m
 exact this (by show ir (.str x) (.str x)=true;simp[ir])
def HQ(m:List Str)(w:Nat):Prop := ∀c:C2,c.1<m.length->c.2<w->bL m c=true->97<=sg m c/\sg m c<=122
theorem iE.lets(F:iE l m w (l.length*w)):HQ m w:=by
 intro c h1 h2 ho
 rw[F.ln] at h1
 have hc:=F.cl c h1 h2
 have hm:sg m c≠35:=by
  unfold bL at ho
  simpa using ho
 have hl:sg l c≠35:=λz=>hm (hc.1 z)
 have:=hc.2 hl
 have hx:c.1*w+c.2<l.length*w:=by
  have:=Ez w h1
  rw[iN] at this
  lia
 rw[az hx] at this
 exact this
theorem acu{k:Nat}(S:aZ l w)(hk:k<=1):(cf (bx l w) (cF k) c).length<=9:=by
 have h9:=S.nine
 have hw:=S.w9
 unfold cf
 split
 .exact bG _
 .split
  .exact bG _
  .rw[tJ]
   rcases Ey 9 (runN (bx l w) (cF k) 10 c) with z | z
   .exfalso
    have:=oP (Hj z)
    unfold go cF at this
    dsimp only at this
    have e:k=0\/k=1:=by lia
    rcases e with e | e <;> subst e <;> lia
   .exact z
theorem acv{op:C2->Bool}(h:(cf op d c).isEmpty=false):2<=(cf op d c).length:=by
 unfold cf at h ⊢
 split at h
 .cases h
 .split at h
  .cases h
  .rw[av (by assumption),av (by assumption),tJ]
   lia
theorem Qn{k:Nat}(S:aZ l w)(hk:k<=1)(h:r∈jD l w k n):2<=r.length/\r.length<=9:=by
 unfold jD at h
 have h:=cq.mp h
 obtain⟨c,_,e⟩:=bM.mp h.1
 subst e
 exact⟨acv (by simpa using h.2),acu S hk⟩
theorem jE(S:aZ l w)(h:r∈aG l w):2<=r.length/\r.length<=9/\∀c∈r,c.1<l.length/\c.2<w/\bL l c=true:=by
 have a:2<=r.length/\r.length<=9:=by
  unfold aG at h
  rcases cS.mp h with z | z
  .exact Qn S (by decide) z
  .exact Qn S (by decide) z
 refine⟨a.1,a.2,?_⟩
 rw[pq] at h
 obtain⟨q,hq,e⟩:=bM.mp h
 rw[<-e]
 exact(Ci hq).2
theorem fF(l:List Str)(cs:List C2):(ax l cs).length=cs.length:=by
 rw[<-cu]
 unfold ax
 simp
theorem acw(S:aZ m w)(L:HQ m w)(h:r∈aG m w):cP (ax m r)=true:=by
 obtain⟨h2,h9,aY⟩:=jE S h
 refine Qm (by rw[fF];exact h2) (by rw[fF];exact h9) ?_
 unfold i0 ax
 rw[lL]
 intro c mc
 have mc:c∈r.map (sg m):=by simpa using mc
 obtain⟨d,hd,e⟩:=bM.mp mc
 have hb:=aY d hd
 have:=L d hb.1 hb.2.1 hb.2.2
 rw[<-e]
 exact aJ (Ql this.1 this.2)
theorem acx(h4:m.length<=4)(w4:w<=4):(aG m w).length<=32:=by
 have h:=uP h4 w4
 have a:=zj m w 0 (m.length*w)
 have b:=zj m w 1 (m.length*w)
 rw[jv] at a b
 unfold aG mC
 rw[di]
 lia
noncomputable def jF(ps:List Str)(n:Nat):List Str:=ps.filter λx=>decide (x.length=n)
theorem Qo(ps qs:List Str)(n:Nat):jF (ps++qs) n=jF ps n++jF qs n:=ie ..
theorem Qp:∀{es:List Str},(∀x∈es,2<=x.length/\x.length<=4)->es.length=(jF es 2).length+(jF es 3).length+(jF es 4).length
 |[],_=>rfl
 |x::r,h=>by
  have ih:=Qp (es:=r) λy my=>h y (bX _ my)
  have hx:=h x bz
  unfold jF at ih ⊢
  have e:x.length=2\/x.length=3\/x.length=4:=by lia
  rcases e with e | e | e <;> simp only[dj,e,dO] <;> simp <;> lia
structure tY(rs es:List Str):Prop where
 Qq:rs.length<=32
 nd:(rs++es).Nodup
 wd:∀x∈rs++es,cP x=true
 e4:∀x∈es,2<=x.length/\x.length<=4
 e5:∀n,(jF es n).length<=5
theorem tY.eM{rs:List Str}(W:tY rs es):(rs++es).length<=47:=by
 have:=Qp W.e4
 have a:=W.e5 2
 have b:=W.e5 3
 have c:=W.e5 4
 have d:=W.Qq
 rw[di]
 lia
theorem Qr(h:ps.Nodup)(hn:x∉ps):(ps++[x]).Nodup:=by grind
theorem tY.more{rs:List Str}(W:tY rs es)(hn:x∉rs++es)(hw:cP x=true)(h4:x.length<=4)(h5:(jF (rs++es) x.length).length<5):tY rs (es++[x]):=by
 refine⟨W.Qq,by rw[<-pZ];exact Qr W.nd hn,λy my=>?_,λy my=>?_,λn=>?_⟩
 .rw[<-pZ] at my
  rcases cS.mp my with z | z
  .exact W.wd y z
  .rw[cn.mp z];exact hw
 .rcases cS.mp my with z | z
  .exact W.e4 y z
  .rw[cn.mp z];exact⟨(zd hw).1,h4⟩
 .rw[Qo,di]
  rw[Qo,di] at h5
  by_cases e:x.length=n
  .rw[e] at h5
   have:(jF [x] n).length=1:=by unfold jF;rw[dj,aJ e];rfl
   lia
  .have:(jF [x] n).length=0:=by unfold jF;rw[dj,aI e];rfl
   have:=W.e5 n
   lia
section
variable{w:World}
def Qs(K:Frag):Sp:=λvs H Q _=>∃(a b:Addr) (ns:List Int) (m:List Str) (w k:Nat),vs=[.ref a,.ref b,.int k]/\aj K H a (ns.map V.int)/\ak K H b (m.map V.str)/\aZ m w/\HQ m w/\m.length<=4/\w<=4/\
 ∀(l:Addr) (rs es:List Str) (H':Hp),H l=none->af H H'->H' l=some (.lst ((rs++es).map V.str))->tY rs es->Q (.ref l) H'
theorem pD:bh ["_law_script","_law_filled_here","_law_start","_law_words_here","_law_cells","_law_cell","_law_word","_law_number","_law_k"] ["_law_script","_law_filled_here","_law_start"] (aN (top 76)):={}
theorem acy(B:Bl mg)(F:aW K "_law_words" "_law_words" (top 76) f fd)(tW:Fn P w K mg base "_law_cell_at" 1 (B1 K))(tZ:Fn P w K mg base "_law_rows" 3 (zh K))(pE:Fn P w K mg base "_law_text" 1 (zo K))(HN:Fn P w K mg base "_law_letter" 2 (HG K)):aK P w K mg base aP 4 f fd ["_law_script","_law_filled_here","_law_start"] (Qs K):=by
 refine F.bE pD λaE A outer s H vs Q E hr h=>?_
 refine hide λG_ aD=>?_
 obtain⟨a,b,ns,m,wd,k,rfl,hS,hT,S,L,m4,w4,q⟩:=h
 refine aD.k ?_
 refine⟨_,(aq (aH 3 pD.nd (du ag))
  (aq (vy (bH (bO Mw (bb gK (aR tW hr (ae (pv 0) (ae aF ag))) aF) aF)
  (au (cD (dJ (aR tZ hr (ae (pv 1) ag))) (bI 4 pD.nd)
   (au (bH (bO vj (aR pE hr (ae (pv 1) (ae (pv 4) ag))) (pv 3))
    (au (d6 (fq iQ jf jg gS (pv 3) (ae (aR pE hr (ae (pv 1) (ae (pv 4) ag))) ag))))
    bN))))
  bN))
  (aq (cD (dJ (og Fb (pv 0) (m8 (pv 2)) (m8 aF))) (bI 5 pD.nd)
  (aq (aH 6 pD.nd eB)
   (aq (aH 7 pD.nd (bb gK (bb mX (pv 5) aF) aF))
   (aq (cD (ik (by rfl) B.iB (ae (bb fM aF (bb gK (pv 5) aF)) ag)) (bI 8 pD.nd)
   (aq (aH 6 pD.nd (bb sf (pv 6) (aR HN hr (ae (pv 0) (ae (pv 7) ag)))))
    (au (aH 7 pD.nd (bb gK (bb ve (bb fM (pv 7) aF) aF) aF)))))
   (au (bH (PW.pt (xV (bO vj (pv 6) (pv 3)) (xU (bO mZ (bg dX (by rfl) B.cj b9 (ae (iS (js:=[6]) (ns:=["_law_word"]) (dJ (pv 3)) rfl rfl rfl rfl (λ_ _ _ _=>(lZ (bO mY (bg gy (by rfl) B.cj b9 (ae (pv 0) ag)) (bg gy (by rfl) B.cj b9 (ae (pv 1) ag))))) (λ_ _ _ _=>(pv 0))) ag)) aF))))
   (au (d6 (fq iQ jf jg gS (pv 3) (ae (pv 6) ag))))
   bN))))))
  (au (aS (pv 3)))))),?_⟩
 try dsimp only[bt]
 refine⟨bG _,λl hl=>?_⟩
 have s0:=af.upd (o:=HO.lst []) hl
 have zE:=wc s0
 revert s0 zE
 generalize upd H l (.lst [])=H0
 intro s0 zE
 refine⟨λO H2=>∃(v4:Option V) (rs:List Str),O=[some (.ref a),some (.ref b),some (.int k),some (.ref l),v4,none,none,none,none]/\af H H2/\H2 l=some (.lst (rs.map V.str))/\rs.Nodup/\(∀x∈rs,cP x=true)/\rs.length<=32,?_,?_⟩
 .intro O H2 acz
  refine hide λG_ aX=>?_
  obtain⟨v4,rs,rfl,sm,hL,b6,i3,Qt⟩:=acz
  refine aX.k ?_
  refine⟨_,rfl,_,rfl,_,rfl,_,rfl,a,_,rfl,sm.seq hS,λsl mf=>⟨sl,rfl,⟨_,aj.of ao⟩,?_⟩⟩
  have jo:=acs ns (some (k:Int)) (some 63)
  revert jo
  generalize lT (ns.map V.int) (some (k:Int)) (some 63)=cs
  intro jo
  have ss:=af.upd (o:=HO.lst cs) mf
  have HR:=wc ss
  have mE:=ss _ _ hL
  have fU:=sm.trans ss
  have nsl:sl≠l:=λz=>by rw[z,hL] at mf;cases mf
  revert HR mE fU
  clear ss
  generalize upd H2 sl (.lst cs)=H3
  intro HR mE fU
  refine jl (xs:=cs) (λi O H2=>∃(v5 v6 v7 v8:Option V) (es:List Str),O=[some (.ref a),some (.ref b),some (.int k),some (.ref l),v4,v5,v6,v7,v8]/\af H H2/\H2 sl=some (.lst cs)/\H2 l=some (.lst ((rs++es).map V.str))/\tY rs es)
   ⟨none,none,none,none,[],rfl,fU,HR,by rw[eV];exact mE,⟨Qt,by rw[eV];exact b6,by rw[eV];exact i3,λ_ z=>absurd z fH,λ_=>bG _⟩⟩ ?_ ?_ ?_
  .rintro i O H2 _ ⟨v5,v6,v7,v8,es,rfl,sm,wg,_⟩
   exact aj.of wg
  .intro i y O H2 hi acA
   refine hide λG_ bK=>?_
   obtain⟨v5,v6,v7,v8,es,rfl,sm,wg,hL,W⟩:=acA
   obtain⟨c,rfl⟩:=jo y (bj hi)
   have m1:=xI c (show(3:Int)≠0 by decide)
   have m2:=AS c (show(0:Int)<3 by decide)
   obtain⟨r,hr3⟩:=xG m1
   refine bK.k ?_
   have er:2+c % 3=((2+r:Nat):Int):=by lia
   refine⟨_,rfl,_,_,rfl,rfl,⟨by decide,by decide⟩,_,_,rfl,rfl,(by show(0:Int)<2147483647;decide),?_⟩
   refine⟨_,rfl,_,_,rfl,rfl,(by show(0:Int)<3;decide),_,_,rfl,rfl,_,rfl,by lia,by lia,?_⟩
   rw[er,eI]
   refine kh (λj O H3=>∃x z v8,O=[some (.ref a),some (.ref b),some (.int k),some (.ref l),v4,some (.int c),some (.str x),some (.int z),v8]/\H3=H2/\x.length=j/\i0 x=true)
    ⟨Str.ofString "",_,v8,rfl,rfl,rfl,rfl⟩ ?_ ?_
   .intro j O H3 hj acB
    refine hide λG_ cJ=>?_
    obtain⟨x,z,v8',rfl,rfl,hx,hlx⟩:=acB
    refine cJ.k ?_
    refine⟨_,rfl,_,rfl,_,rfl,a,ns,z,rfl,sm.seq hS,λch c1 c2=>?_⟩
    refine⟨_,_,rfl,rfl,abm (by rw[hx];show j+1<=10000;lia),?_⟩
    refine⟨_,rfl,_,_,rfl,rfl,_,_,rfl,rfl,.inr ⟨by decide,by decide⟩,_,_,rfl,rfl,(by show(0:Int)<2147483647;decide),?_⟩
    exact⟨_,_,_,rfl,rfl,by rw[Str.length_append,hx];rfl,acp hlx (acq (Ql c1 c2))⟩
   .intro O H3 acC
    refine hide λG_ eT=>?_
    obtain⟨x,z,v8',rfl,rfl,hx,hlx⟩:=acC
    refine eT.k ?_
    have hwx:cP x=true:=Qm (by lia) (by lia) hlx
    have d7:((rs++es).map V.str).all kY=true:=by rw[uK];exact lL.mpr λ_ _=>rfl
    have eM:=W.eM
    refine⟨_,rfl,_,rfl,l,_,rfl,.inl (aj.of hL),rfl,d7,_,rfl,eY (λh=>?_) (λh=>aQ ⟨_,_,_,_,es,rfl,sm,wg,hL,W⟩)⟩
    have hn:x∉rs++es:=HP (by simpa using h)
    refine⟨_,rfl,l,rfl,⟨_,aj.of hL⟩,?_⟩
    refine lh kg (by rw[aw];lia) (λj=>decide (((rs++es).getD j ⟨#[]⟩).length=x.length)) (λ_ j y _=>y = .str ((rs++es).getD j ⟨#[]⟩)) (λH6 s6=>aj.of (s6 _ _ hL)) (λ_ _ _ _ _ _ _ _ h=>h) ?_ ?_
    .intro D2 j v H6 Z0 Z kE hv s6 _ k0 k1
     rw[bw] at hv
     cases e:(rs++es)[j]? with
     |none=>rw[e] at hv;cases hv
     |some y=>
      rw[e] at hv
      cases hv
      rw[Cp e] at k0 k1
      have hy:=zd (W.wd y (bj e))
      refine⟨_,rfl,y,rfl,d8 (by lia),_,rfl,x,rfl,d8 (by lia),rfl,_,rfl,?_⟩
      rw[Hz]
      refine eY (λh=>?_) (λh=>?_)
      .exact⟨_,rfl,k1 _ _ (af.cx _) h rfl⟩
      .exact k0 _ (af.cx _) (fK.mpr h)
    .intro D2 zs H6 kE lr s6 ph
     have e2:=ze ph
     rw[aw,Hy V.str ⟨#[]⟩ (rs++es) λy=>decide (y.length=x.length)] at e2
     have HS:=s6 _ _ hL
     have hz:zs.length=(jF (rs++es) x.length).length:=by rw[e2,aw];rfl
     refine⟨D2,zs,rfl,.inl (aj.of lr),_,_,rfl,rfl,_,rfl,eY (λh5=>?_) (λ_=>⟨_,_,_,_,es,rfl,sm.trans s6,s6 _ _ wg,HS,W⟩)⟩
     have h5:(zs.length:Int)<5:=fG h5
     refine⟨_,rfl,.inl ⟨rfl,_,aj.of HS⟩,_,rfl,l,_,_,rfl,rfl,HS,Cm (by rw[aw];lia),?_⟩
     exact⟨_,_,_,_,es++[x],rfl,(sm.trans s6).kf hl,by rw[ar nsl];exact s6 _ _ wg,by rw[ao];simp,W.more hn hwx (by lia) (by lia)⟩
  .intro O H2 acD
   refine hide λG_ pw=>?_
   obtain⟨v5,v6,v7,v8,es,rfl,sm,wg,hL,W⟩:=acD
   refine pw.k ?_
   exact⟨_,rfl,q l rs es H2 hl sm hL W⟩
 .refine⟨_,rfl,a,ns,3,rfl,s0.seq hS,_,_,rfl,rfl,(by show(0:Int)<4;decide),_,_,rfl,rfl,_,rfl,eY (λ_=>?_) (λ_=>?_)⟩
  .refine⟨_,rfl,b,m,wd,rfl,s0.tup hT,S,λg xs H1 hg s1 hG hR=>⟨g,rfl,⟨_,aj.of hG⟩,?_⟩⟩
   have Cy:=hR.length
   have Qt:=acx m4 w4
   have HU:=s1 _ _ zE
   have ngl:g≠l:=λz=>by rw[z,zE] at hg;cases hg
   have fU:=s0.trans s1
   refine jl (xs:=xs) (λi O H2=>∃(v4:Option V) (rs:List Str),O=[some (.ref a),some (.ref b),some (.int k),some (.ref l),v4,none,none,none,none]/\af H H2/\(∀c o,c≠l->H1 c=some o->H2 c=some o)/\H2 l=some (.lst (rs.map V.str))/\rs.Nodup/\(∀x∈rs,cP x=true)/\rs.length<=i)
    ⟨none,[],rfl,fU,λ_ _ _ h=>h,HU,je,λ_ z=>absurd z fH,aO _⟩ ?_ ?_ ?_
   .rintro i O H2 _ ⟨v4,rs,rfl,sm,kp,_⟩
    exact aj.of (kp _ _ ngl hG)
   .intro i x O H2 hx acE
    refine hide λG_ pA=>?_
    obtain⟨v4,rs,rfl,sm,kp,hL,b6,i3,hle⟩:=acE
    have HV:=(bY.mp hx).1
    obtain⟨r,fE,p,ys,rfl,_,hp,hc⟩:=Paired.get hR hx
    have mr:=bj fE
    obtain⟨r2,r9,aY⟩:=jE S mr
    refine pA.k ?_
    have eN:=hc.length
    have npl:p≠l:=λz=>by
     rw[z,HU] at hp
     injection hp with hp
     injection hp with hp
     rw[<-hp] at eN
     have eN:r.length=0:=eN
     lia
    have gk:=kp _ _ npl hp
    have sk:bq H2 r ys:=bq.off ⟨_,HU⟩ kp hc
    have d7:(rs.map V.str).all kY=true:=by rw[uK];exact lL.mpr λ_ _=>rfl
    refine⟨_,rfl,_,rfl,b,p,m,wd,r,ys,rfl,sm.tup hT,S,gk,sk,by lia,λc mc=>⟨(aY c mc).1,(aY c mc).2.1⟩,λH3 s3=>?_⟩
    have jA:=s3 _ _ hL
    refine⟨_,rfl,l,_,rfl,.inl (aj.of jA),rfl,d7,_,rfl,eY (λh=>?_) (λh=>?_)⟩
    .have hn:ax m r∉rs:=HP (by simpa using h)
     refine⟨_,rfl,.inl ⟨rfl,_,aj.of jA⟩,_,rfl,_,rfl,b,p,m,wd,r,ys,rfl,(sm.trans s3).tup hT,S,s3 _ _ gk,sk.mono s3,by lia,λc mc=>⟨(aY c mc).1,(aY c mc).2.1⟩,λH4 s4=>?_⟩
     have Qu:=s3.trans s4
     refine⟨l,_,_,rfl,rfl,s4 _ _ jA,Cm (by rw[aw];lia),?_⟩
     refine⟨_,rs++[ax m r],rfl,(sm.trans Qu).kf hl,λc o hc h=>by rw[ar hc];exact Qu _ _ (kp c o hc h),by rw[ao,eW];rfl,Qr b6 hn,λy my=>?_,by rw[di];show _+1<=_;lia⟩
     rcases cS.mp my with z | z
     .exact i3 y z
     .rw[cn.mp z];exact acw S L mr
    .exact⟨_,rs,rfl,sm.trans s3,λc o hc h=>s3 _ _ (kp c o hc h),jA,b6,i3,by lia⟩
   .intro O H2 acF
    refine hide λG_ HW=>?_
    obtain⟨v4,rs,rfl,sm,kp,hL,b6,i3,hle⟩:=acF
    refine HW.k ?_
    exact⟨v4,rs,rfl,sm,hL,b6,i3,by lia⟩
  .exact⟨none,[],rfl,s0,zE,je,λ_ z=>absurd z fH,bG _⟩
end
noncomputable def ai(rs:List (List C2))(i:Nat):List C2:=rs.getD i []
noncomputable def pF(l:List Str)(rs:List (List C2))(pl:Nat):List Str:=((List.range rs.length).filter λi=>!decide (i=pl)).map λi=>ax l (ai rs i)
noncomputable def dG(l:List Str)(rs:List (List C2))(pl:Nat)(ks:List Str):List Str:=(cV (ks.filter λx=>cX x (ax l (ai rs pl)))).filter λx=>!decide (x∈pF l rs pl)
theorem zF(l:List Str)(w:Nat):(aG l w).length=(dw l w).length:=by rw[pq,aw]
theorem dIn(i j:Nat):decide (V.int (i:Int)=V.int (j:Int))=decide (i=j):=by grind
theorem Cz(x:Str)(ps:List Str):gR (.str x) (ps.map V.str)=decide (x∈ps):=by
 by_cases h:x∈ps
 .rw[aJ h]
  cases e:gR (.str x) (ps.map V.str) with
  |true=>rfl
  |false=>exact absurd h (HP e)
 .rw[aI h]
  unfold gR
  rw[List.any_map,Eg]
  intro y hy e
  have e:ir (.str x) (.str y)=true\/ir (.str y) (.str x)=true := .inr e
  have:x=y:=by rcases e with e | e <;> simp[ir] at e <;> simp[e]
  exact h (this ▸ hy)
theorem acG(l:List Str)(p:Str->Bool):cV (l.filter p)=(cV l).filter p:=BA ((iV l).filter p) ((FX l).filter p)
noncomputable def zG(l:List Str)(rs:List (List C2))(pl j:Nat):Bool := !decide (j=pl) && !decide (46∈(ax l (ai rs j)).cps.toList)
noncomputable def iF(l:List Str)(rs:List (List C2))(pl i:Nat):List Str:=((List.range i).filter (zG l rs pl)).map λj=>ax l (ai rs j)
theorem acH(l:List Str)(rs:List (List C2))(pl i:Nat):iF l rs pl (i+1)=iF l rs pl i++if zG l rs pl i=true then [ax l (ai rs i)] else []:=by
 unfold iF
 rw[nV,ie,eW,dj,kN]
 cases zG l rs pl i <;> rfl
theorem acI(hx:46∉x.cps.toList):x∈iF l rs pl rs.length↔x∈pF l rs pl:=by
 unfold iF pF zG
 constructor
 .intro h
  obtain⟨j,hj,e⟩:=bM.mp h
  have hj:=cq.mp hj
  rw[d9] at hj
  exact bM.mpr ⟨j,cq.mpr ⟨hj.1,hj.2.1⟩,e⟩
 .intro h
  obtain⟨j,hj,e⟩:=bM.mp h
  have hj:=cq.mp hj
  refine bM.mpr ⟨j,cq.mpr ⟨hj.1,?_⟩,e⟩
  rw[hj.2,e,aI hx]
  rfl
theorem acJ(h:cP x=true):46∉x.cps.toList:=λm=>by
 unfold cP at h
 simp only[d9] at h
 have:=h.2.2
 unfold i0 at this
 have:=fG (lL.mp this 46 m)
 rw[BW] at this
 obtain⟨k,_,e⟩:=bM.mp this
 lia
noncomputable def kG(l:List Str)(rs:List (List C2))(pl:Nat)(x:Str):Bool:=cX x (ax l (ai rs pl)) && !decide (x∈iF l rs pl rs.length)
theorem acK(h:∀x∈ws,cP x=true):dG l rs pl ws=cV (ws.filter (kG l rs pl)):=by
 unfold dG
 rw[<-acG,List.filter_filter]
 congr 1
 apply EC
 intro x mx
 unfold kG
 have:=acI (l:=l) (rs:=rs) (pl:=pl) (acJ (h x mx))
 rw[Bool.and_comm]
 congr 2
 by_cases z:x∈pF l rs pl
 .rw[aJ z,aJ (this.mpr z)]
 .rw[aI z,aI (λy=>z (this.mp y))]
theorem acL{ws:List α}{x:α}(hx:ws[i]? = some x)(f:α->Bool):(ws.take (i+1)).filter f=(ws.take i).filter f++if f x=true then [x] else []:=by
 rw[eJ,hx,ie]
 show _++[x].filter f=_
 rw[dj,kN]
noncomputable def wk(x t:Str)(i:Nat):Bool := !mB (x.cps.toList.getD i 0) (t.cps.toList.getD i 0)
theorem acM{t:Str}(h:x.length=t.length):cX x t=decide ((List.range t.length).filter (wk x t)=[]):=by
 unfold cX
 rw[aJ h,xF,h]
 by_cases z:(List.range t.length).filter (wk x t)=[]
 .rw[aJ z,lL]
  intro i mi
  have:=UL.mp z i mi
  unfold wk at this
  simpa using this
 .rw[aI z,fK]
  intro y
  refine z (UL.mpr λi mi=>?_)
  have:=lL.mp y i mi
  unfold wk
  rw[this]
  decide
theorem HX(K:Frag)(H:Hp):∀is:List Nat,eO K H (is.map λ(i:Nat)=>D.int (0+(i:Int))) (is.map λ(i:Nat)=>V.int (0+(i:Int)))
 |[]=>rfl
 |i::r=>⟨.int (0+(i:Int)),r.map λ(i:Nat)=>V.int (0+(i:Int)),rfl,rfl,HX K H r⟩
theorem Qv(is:List Nat):dep (.lst (is.map λ(i:Nat)=>D.int (0+(i:Int))))<=50:=by
 have:iT (is.map λ(i:Nat)=>D.int (0+(i:Int)))=0:=by
  induction is with
  |nil=>rfl
  |cons x r ih=>rw[bS,iT,ih];rfl
 rw[dep,this]
 decide
theorem Qw(is:List Nat):fP (.lst (is.map λ(i:Nat)=>D.int (0+(i:Int)))) (.lst [])=decide (is=[]):=by
 cases is <;> rfl
theorem acN(c d:Nat):decide ((⟨#[d]⟩:Str)∈[(".":Str),⟨#[c]⟩])=mB c d:=by
 rw[PX]
 unfold mB
 have e:∀a b:Nat,((⟨#[a]⟩:Str)=⟨#[b]⟩)↔a=b:=λa b=>⟨λz=>(AE (show [a]=[b] from fc (λy:Str=>y.cps.toList) z)).1,λz=>by rw[z]⟩
 rw[<-Bool.decide_or]
 congr 1
 rw[cw,cn,e,e]
theorem HY(h:((List.range n).map λ(i:Nat)=>V.int (0+(i:Int)))[i]? = some v):i<n/\v = .int (0+(i:Int)):=by grind
noncomputable def cR(l:List Str)(w:Nat):List Str:=(aG l w).map (ax l)
noncomputable def dU(l:List Str):Bool:=l.any λx=>decide (46∈x.cps.toList)
noncomputable def cB(ks:List Str)(l:List Str)(w:Nat):Bool := !dU l&&(decide (cR l w).Nodup&&(cR l w).all λx=>decide (x∈ks))
theorem HZ(h1:c.1<h)(h2:c.2<w):c∈cells h w:=bj (vN (w:=w) h1 h2)
theorem acO(S:aZ l w):(dk l w).isEmpty = !dU l:=by
 cases e:dU l with
 |true=>
  unfold dU at e
  obtain⟨x,mx,hx⟩:=uG.mp e
  have hx:=fG hx
  obtain⟨i,hi,ei⟩:=List.getElem_of_mem mx
  obtain⟨j,hj,ej⟩:=List.getElem_of_mem hx
  obtain⟨y,hy,my,ly,Qx,t9⟩:=S.row hi
  have exy:y=x:=by rw[bf hi,ei] at hy;exact(cY hy).symm
  subst exy
  have B6:j<w:=by lia
  have g:=t9 j B6
  rw[bf hj,ej] at g
  have g:=cY g
  have m:(i,j)∈dk l w:=cq.mpr ⟨HZ hi B6,by unfold qJ;exact aJ g.symm⟩
  cases z:dk l w with
  |nil=>rw[z] at m;cases m
  |cons _ _=>rfl
 |false=>
  cases z:dk l w with
  |nil=>rfl
  |cons c r=>
   have m:c∈dk l w:=by rw[z];exact bz ..
   obtain⟨m1,m2⟩:=cq.mp m
   obtain⟨h1,h2⟩:=nC m1
   obtain⟨y,hy,my,ly,Qx,t9⟩:=S.row h1
   unfold qJ at m2
   have g:=t9 c.2 h2
   rw[show sg l (c.1,c.2)=46 from fG m2] at g
   unfold dU at e
   have:=Eg.mp e y my
   exact absurd (aJ (bj g)) this
theorem zH(t:l7 kvs)(x:Str):(aU kvs (Sum.inr x:Key)).isSome=decide (x∈aM kvs):=by
 cases e:aU kvs (Sum.inr x:Key) with
 |none=>
  refine(aI λm=>Nh e ?_).symm
  unfold aM at m
  obtain⟨q,hq,eq⟩:=bM.mp m
  obtain⟨y,ey⟩:=t q hq
  rw[ey] at eq
  have eq:y=x:=eq
  exact bM.mpr ⟨q,hq,by rw[ey,eq]⟩
 |some v=>
  refine(aJ ?_).symm
  obtain⟨q,hq,e1⟩:=bM.mp (Ni e)
  unfold aM
  exact bM.mpr ⟨q,hq,by rw[e1]⟩
theorem CF(v:V)(e:aU kvs (Sum.inr x:Key)=none):aM (putK kvs (Sum.inr x) v)=aM kvs++[x]:=by
 rw[vn v e]
 unfold aM
 rw[eW]
 rfl
theorem Qy(n:x∉aM kvs):aU kvs (Sum.inr x:Key)=none:=by
 cases e:aU kvs (Sum.inr x:Key) with
 |none=>rfl
 |some v=>
  refine absurd ?_ n
  have m:=Ni e
  obtain⟨q,hq,e1⟩:=bM.mp m
  unfold aM
  exact bM.mpr ⟨q,hq,by rw[e1]⟩
theorem wm(kvs:List (Key×V)):(aM kvs).length=kvs.length:=by unfold aM;rw[aw]
theorem Ia(h1:dU l=false)(h2:(cR l w).Nodup)(h3:∀x∈cR l w,x∈ks):cB ks l w=true:=by grind [dU,cB,cR]
theorem qS(h:cB ks l w=true):dU l=false/\(cR l w).Nodup/\∀x∈cR l w,x∈ks:=by grind [dU,cB,cR]
theorem Qz(hx:(cR l w)[i]? = some x)(h:x∈(cR l w).take i\/x∉ks):cB ks l w=false:=by
 refine fK.mpr λe=>?_
 obtain⟨_,nd,h3⟩:=qS e
 rcases h with h | h
 .have h1:((cR l w).take (i+1)).Nodup:=nd.sublist (Ek _ _)
  rw[eJ,hx,qe] at h1
  exact h1.2.2 x h x (cn.mpr rfl) rfl
 .exact h (h3 x (bj hx))
theorem QA(l:List Str)(w:Nat):(cR l w).length=(dw l w).length:=by unfold cR;rw[aw,pq,aw]
theorem acP(h:(dw l w)[i]? = some q):(cR l w)[i]? = some (ax l q.2):=by
 unfold cR
 rw[pq,kO,bw,h]
 rfl
def ua(kvs:List (Key×V)):Prop := ∀q∈kvs,∃n,q.2=V.int n
noncomputable def wq(kvs:List (Key×V))(x:Str):Int:=match aU kvs (Sum.inr x:Key) with | some (.int n)=>n | _=>0
theorem acQ{k:Key}(h:aU kvs k=some v):∃q∈kvs,q.1=k/\q.2=v:=by
 unfold aU at h
 cases e:kvs.find? (λkv=>decide (kv.1=k)) with
 |none=>rw[e] at h;cases h
 |some q=>
  rw[e] at h
  exact⟨q,List.mem_of_find?_eq_some e,fG (by simpa using List.find?_some e),cY h⟩
theorem acR(t:l7 kvs)(hi:ua kvs)(m:x∈aM kvs):aU kvs (Sum.inr x:Key)=some (.int (wq kvs x)):=by
 have:=zH t x
 rw[aJ m] at this
 cases e:aU kvs (Sum.inr x:Key) with
 |none=>rw[e] at this;cases this
 |some v=>
  obtain⟨q,hq,_,e2⟩:=acQ e
  obtain⟨n,en⟩:=hi q hq
  have ev:v = .int n:=by rw[<-e2,en]
  unfold wq
  rw[e,ev]
section
variable{w:World}
def QB(K:Frag):Sp:=λvs H Q _=>∃(ww g a:Addr) (ws:List Str) (l:List Str) (w pl:Nat) (zs:List V),vs=[.ref ww,.ref g,.ref a,.int pl]/\H ww=some (.lst (ws.map V.str))/\ws.length<64/\(∀x∈ws,cP x=true)/\ak K H a (l.map V.str)/\aZ l w/\H g=some (.lst zs)/\fX g H (aG l w) zs/\pl<(aG l w).length/\
 ∀t H',H t=none->af H H'->H' t=some (.lst ((dG l (aG l w) pl ws).map V.str))->Q (.ref t) H'
theorem qT:bh ["_law_words_here","_law_rows_here","_law_sheet","_law_place","_law_text_here","_law_taken","_law_k","_law_other","_law_found","_law_word","_law_wrong"] ["_law_words_here","_law_rows_here","_law_sheet","_law_place"] (aN (top 77)):={}
theorem acS(B:Bl mg)(F:aW K "_law_left" "_law_left" (top 77) f fd)(pE:Fn P w K mg base "_law_text" 1 (zo K)):aK P w K mg base aP 2 f fd ["_law_words_here","_law_rows_here","_law_sheet","_law_place"] (QB K):=by
 refine F.bE qT λaE A outer s H vs Q E hr h=>?_
 refine hide λG_ aD=>?_
 obtain⟨ww,g,a,ws,l,wd,pl,zs,rfl,hW,fA,i3,hT,S,hG,hR,hpl,q⟩:=h
 refine aD.k ?_
 have hu:=hr.units
 refine⟨_,(aq (aH 4 qT.nd (aR pE hr (ae (pv 2) (ae (aV gj (pv 1) (pv 3)) ag))))
  (aq (aH 5 qT.nd (du ag))
  (aq (cD (ik (by rfl) B.iB (ae (bg dX (by rfl) B.cj b9 (ae (pv 1) ag)) ag)) (bI 6 qT.nd)
  (aq (aH 7 qT.nd (aR pE hr (ae (pv 2) (ae (aV gj (pv 1) (pv 6)) ag))))
   (au (bH (PW.pt (xV (bO jm (pv 6) (pv 3)) (xU (bO VJ eB (pv 7)))))
   (au (d6 (fq iQ jf jg gS (pv 5) (ae (pv 7) ag))))
   bN))))
  (aq (aH 8 qT.nd (du ag))
  (aq (cD (dJ (pv 0)) (bI 9 qT.nd)
  (au (bH (PW.pt (xV (bO mY (bg gy (by rfl) B.cj b9 (ae (pv 9) ag)) (bg gy (by rfl) B.cj b9 (ae (pv 4) ag))) (xU (bO vj (pv 9) (pv 5)))))
   (aq (vv (i:=10) qT.nd rfl (Or.inl rfl) (js:=[4,9]) (ns:=["_law_text_here","_law_word"]) (ik (by rfl) B.iB (ae (bg gy (by rfl) B.cj b9 (ae (pv 4) ag)) ag)) rfl rfl rfl rfl (λ_ _ _ _=>(lZ (NL (K:=K) (rr:=λK=>yd K true) rfl vj (aV iq (pv 1) (pv 0)) (du (ae eB (ae (aV iq (pv 2) (pv 0)) ag)))))) (λ_ _ _ _=>(pv 0)))
    (au (bH (bO (Bw hu) (pv 10) (du ag))
    (au (d6 (fq iQ jf jg gS (pv 8) (ae (pv 9) ag))))
    bN)))
   bN)))
  (au (aS (bg NQ (by rfl) B.BZ By (ae (pv 8) ag))))))))),?_⟩
 try dsimp only[bt]
 have Ib:=hR.length
 have kH:=qQ S
 rw[<-zF] at kH
 rw[acK i3] at q
 refine hide λG_ aX=>?_
 obtain⟨v0,CH⟩:∃v,zs[pl]? = some v:=⟨_,bf (by lia)⟩
 obtain⟨r0,hr0,p0,wt,rfl,_,fV,jo⟩:=Paired.get hR CH
 refine aX.k ?_
 have Ic:=jE S (bj hr0)
 have e0:ai (aG l wd) pl=r0:=b7 hr0
 refine⟨_,rfl,_,rfl,_,rfl,g,_,_,.ref p0,rfl,rfl,aj.of hG,dz CH,a,p0,l,wd,r0,wt,rfl,hT,S,fV,jo,by lia,λc hc=>⟨(Ic.2.2 c hc).1,(Ic.2.2 c hc).2.1⟩,λH1 s1=>?_⟩
 rw[<-e0]
 have QC:(ax l (ai (aG l wd) pl)).length<=9:=by rw[e0,fF];exact Ic.2.1
 refine⟨bG _,λtk gM=>?_⟩
 have acT:=s1.free gM
 have fU:=s1.trans (af.upd (o:=HO.lst []) gM)
 have Ie:=wc (af.upd (o:=HO.lst []) gM)
 revert fU Ie
 generalize upd H1 tk (.lst [])=H2
 intro fU Ie
 refine⟨_,rfl,g,_,rfl,.inl (aj.of (fU _ _ hG)),_,rfl,by lia,by lia,?_⟩
 rw[eI,<-Ib]
 refine kh (λi O H2=>∃(v6 v7:Option V),O=[some (.ref ww),some (.ref g),some (.ref a),some (.int pl),some (.str (ax l (ai (aG l wd) pl))),some (.ref tk),v6,v7,none,none,none]/\af H H2/\H2 tk=some (.lst ((iF l (aG l wd) pl i).map V.str)))
  ⟨none,none,rfl,fU,Ie⟩ ?_ ?_
 .intro i O H3 hi acU
  refine hide λG_ bK=>?_
  obtain⟨v6,v7,rfl,sm,CJ⟩:=acU
  obtain⟨v,hv⟩:∃v,zs[i]? = some v:=⟨_,bf (by lia)⟩
  obtain⟨r,fE,p,ys,rfl,_,hp,hc⟩:=Paired.get hR hv
  refine bK.k ?_
  have aY:=jE S (bj fE)
  have er:ai (aG l wd) i=r:=b7 fE
  refine⟨_,rfl,_,rfl,_,rfl,g,_,_,.ref p,rfl,rfl,aj.of (sm _ _ hG),dz hv,a,p,l,wd,r,ys,rfl,sm.tup hT,S,sm _ _ hp,hc.mono sm,by lia,λc hc=>⟨(aY.2.2 c hc).1,(aY.2.2 c hc).2.1⟩,λH4 s4=>?_⟩
  have cW:=sm.trans s4
  have CK:=s4 _ _ CJ
  have ef:(!(Builtin.Str.occurrences (ax l r) (Str.ofString ".") 0 (ax l r).length 1).isEmpty)=decide (46∈(ax l r).cps.toList):=by
   rw[tL]
   exact EB (ax l r) 46
  have et:=acH l (aG l wd) pl i
  unfold zG at et
  rw[er] at et
  refine⟨_,rfl,_,rfl,rfl,_,rfl,?_⟩
  rw[dIn]
  by_cases QD:i=pl
  .rw[aJ QD] at et ⊢
   refine aQ (aQ ⟨_,_,rfl,cW,?_⟩)
   rw[et]
   show H4 tk=some (.lst ((iF l (aG l wd) pl i++[]).map V.str))
   rw[eV]
   exact CK
  .rw[aI QD] at et ⊢
   refine bp ⟨_,rfl,_,_,rfl,rfl,_,rfl,?_⟩
   rw[ef]
   by_cases cQ:46∈(ax l r).cps.toList
   .rw[aJ cQ] at et ⊢
    refine aQ ⟨_,_,rfl,cW,?_⟩
    rw[et]
    show H4 tk=some (.lst ((iF l (aG l wd) pl i++[]).map V.str))
    rw[eV]
    exact CK
   .rw[aI cQ] at et ⊢
    have eN:(iF l (aG l wd) pl i).length<=i:=by
     unfold iF
     rw[aw]
     exact bF (fY _ _) (by rw[mS];exact aO _)
    refine bp ⟨_,rfl,.inl ⟨rfl,_,aj.of CK⟩,_,rfl,tk,_,_,rfl,rfl,CK,Cm (by rw[aw];lia),?_⟩
    refine⟨_,_,rfl,cW.kf acT,?_⟩
    rw[ao,et]
    show _=some (HO.lst ((iF l (aG l wd) pl i++[ax l r]).map V.str))
    rw[eW]
    rfl
 .rintro O H3 ⟨v6,v7,rfl,sm,CJ⟩
  refine⟨bG _,λfo dZ=>?_⟩
  have acV:=sm.free dZ
  have nft:fo≠tk:=λz=>by rw[z,CJ] at dZ;cases dZ
  have CL:=sm.trans (af.upd (o:=HO.lst []) dZ)
  have Ig:=(af.upd (o:=HO.lst []) dZ) _ _ CJ
  have pG:=wc (af.upd (o:=HO.lst []) dZ)
  revert CL Ig pG
  generalize upd H3 fo (.lst [])=H4
  intro CL Ig pG
  have d7:((iF l (aG l wd) pl (aG l wd).length).map V.str).all kY=true:=by rw[uK];exact lL.mpr λ_ _=>rfl
  refine⟨_,rfl,ww,rfl,⟨_,aj.of (CL _ _ hW)⟩,?_⟩
  refine jl (xs:=ws.map V.str) (λi O H2=>∃(v9 v10:Option V),O=[some (.ref ww),some (.ref g),some (.ref a),some (.int pl),some (.str (ax l (ai (aG l wd) pl))),some (.ref tk),v6,v7,some (.ref fo),v9,v10]/\af H H2/\H2 tk=some (.lst ((iF l (aG l wd) pl (aG l wd).length).map V.str))/\H2 fo=some (.lst (((ws.take i).filter (kG l (aG l wd) pl)).map V.str)))
   ⟨none,none,rfl,CL,Ig,pG⟩ (λi O H2 _ ⟨_,_,_,sm',_⟩=>aj.of (sm' _ _ hW)) ?_ ?_
  .intro i y O H5 hy acW
   refine hide λG_ cJ=>?_
   obtain⟨v9,v10,rfl,iY,CM,ub⟩:=acW
   refine cJ.k ?_
   rw[bw] at hy
   cases e:ws[i]? with
   |none=>rw[e] at hy;cases hy
   |some x=>
    rw[e] at hy
    cases hy
    have hi:=(bY.mp e).1
    have fD:=zd (i3 x (bj e))
    have ek:=acL e (kG l (aG l wd) pl)
    have same:∀H6 v10,af H5 H6->kG l (aG l wd) pl x=false->∃(v9 acX:Option V),[some (.ref ww),some (.ref g),some (.ref a),some (.int pl),some (.str (ax l (ai (aG l wd) pl))),some (.ref tk),v6,v7,some (.ref fo),some (V.str x),v10]=[some (.ref ww),some (.ref g),some (.ref a),some (.int pl),some (.str (ax l (ai (aG l wd) pl))),some (.ref tk),v6,v7,some (.ref fo),v9,acX]/\af H H6/\H6 tk=some (.lst ((iF l (aG l wd) pl (aG l wd).length).map V.str))/\H6 fo=some (.lst (((ws.take (i+1)).filter (kG l (aG l wd) pl)).map V.str)):=λH6 v10 s6 hb=>by
     refine⟨_,_,rfl,iY.trans s6,s6 _ _ CM,?_⟩
     rw[ek,hb,av b8,eV]
     exact s6 _ _ ub
    refine⟨_,rfl,x,rfl,d8 (by lia),_,rfl,_,rfl,d8 (by lia),rfl,_,rfl,?_⟩
    rw[Hz]
    by_cases hl:x.length=(ax l (ai (aG l wd) pl)).length
    .rw[aJ hl]
     refine bp ⟨_,rfl,_,rfl,tk,_,rfl,.inl (aj.of CM),rfl,d7,_,rfl,?_⟩
     rw[Cz,az rfl]
     by_cases hm:x∈iF l (aG l wd) pl (aG l wd).length
     .rw[aJ hm]
      exact aQ (same H5 _ (af.cx _) (by unfold kG;rw[aJ hm];simp))
     .rw[aI hm]
      refine bp ⟨_,rfl,_,rfl,d8 (by lia),_,rfl,by lia,by lia,?_⟩
      rw[eI]
      generalize uc:ax l (ai (aG l wd) pl)=tx at *
      refine lh FT (by rw[aw,mS];lia) (wk x tx) (λ_ i y _=>y = .int (0+(i:Int))) (λ_ _=>trivial) (λ_ _ _ _ _ _ _ _ h=>h) ?_ ?_
      .intro D2 j v H6 Z0 Z kE hv s6 _ k0 k1
       obtain⟨hj,rfl⟩:=HY hv
       have HC:x.cps.toList[j]? = some (x.cps.toList.getD j 0):=by
        rw[bQ,bf (by rw[cu];lia)]
        rfl
       have hgt:tx.cps.toList[j]? = some (tx.cps.toList.getD j 0):=by
        rw[bQ,bf (by rw[cu];lia)]
        rfl
       have a1:gO x.cps.toList (0+(j:Int))=some (x.cps.toList.getD j 0):=by rw[uL];exact dz HC
       have a2:gO tx.cps.toList (0+(j:Int))=some (tx.cps.toList.getD j 0):=by rw[uL];exact dz hgt
       refine⟨_,rfl,_,rfl,tx,_,_,rfl,rfl,d8 (by lia),a2,_,rfl,_,rfl,x,_,_,rfl,rfl,d8 (by lia),a1,(by show 2<=sizeLine;decide),λlp oH=>?_⟩
       refine⟨lp,_,rfl,.inl (aj.of ao),rfl,rfl,_,rfl,?_⟩
       have ei:gR (.str ⟨#[tx.cps.toList.getD j 0]⟩) [V.str (Str.ofString "."),V.str ⟨#[x.cps.toList.getD j 0]⟩]=mB (x.cps.toList.getD j 0) (tx.cps.toList.getD j 0):=by
        rw[<-acN]
        exact Cz _ [(".":Str),⟨#[x.cps.toList.getD j 0]⟩]
       rw[ei,az rfl]
       refine eY (λh=>?_) (λh=>?_)
       .exact⟨_,rfl,k1 _ _ (af.upd oH) h rfl⟩
       .exact k0 _ (af.upd oH) (fK.mpr h)
      .intro D2 ys H6 kE lr s6 ph
       have e2:=oZ ph
       rw[aw,mS] at e2
       rw[e2] at lr
       refine⟨_,rfl,bG _,λen ud=>?_⟩
       have sE:=s6.trans (af.upd (o:=HO.lst []) ud)
       refine⟨.lst (((List.range tx.length).filter (wk x tx)).map λ(i:Nat)=>D.int (0+(i:Int))),.lst [],⟨D2,_,rfl,aj.of ((af.upd ud) _ _ lr),HX _ _ _⟩,⟨en,_,rfl,aj.of ao,rfl⟩,.inr ⟨_,_,rfl,rfl⟩,Qv _,_,rfl,?_⟩
       rw[Qw,<-acM hl]
       refine eY (λh=>?_) (λh=>?_)
       .have h:cX x tx=true:=by simpa using h
        have hb:kG l (aG l wd) pl x=true:=by
         unfold kG
         rw[uc,h,aI hm]
         rfl
        have wu:=sE _ _ ub
        have:=fY (kG l (aG l wd) pl) (ws.take i)
        have:=List.length_take_le i ws
        refine⟨_,rfl,.inl ⟨rfl,_,aj.of wu⟩,_,rfl,fo,_,_,rfl,rfl,wu,Cm (by rw[aw];lia),?_⟩
        refine⟨_,_,rfl,(iY.trans sE).kf acV,by rw[ar (bo nft)];exact sE _ _ CM,?_⟩
        rw[ao,ek,hb,az rfl,eW]
        rfl
       .have h:cX x tx=false:=by simpa using h
        exact same _ _ sE (by unfold kG;rw[uc,h];rfl)
    .rw[aI hl]
     exact aQ (aQ (same H5 _ (af.cx _) (by unfold kG cX;rw[aI hl];rfl)))
  .intro O H5 acY
   refine hide λG_ eT=>?_
   obtain⟨v9,v10,rfl,iY,CM,ub⟩:=acY
   refine eT.k ?_
   rw[aw,fg (aO _)] at ub
   have:=fY (kG l (aG l wd) pl) ws
   exact⟨_,rfl,fo,_,rfl,aj.of ub,by lia,λt ht=>q t _ (iY.free ht) (iY.trans (af.upd ht)) ao⟩
end
open PySem.StrLaws PySem.Builtin.Str in
theorem Ih(x:Str)(c:Nat):∀(k i free:Nat) (found:Array Nat),i+k=x.length+1->free<=i->i<=x.length+1->found.size=(x.cps.toList.take i).count c->(forIn (List.range' i k) (found,free) (occBody x ⟨#[c]⟩ x.length (x.length+1))).run.fst.toList.length=x.cps.toList.count c
 |0,i,free,found,h,hf,hi,hs=>by
  show found.toList.length=_
  rw[uA,hs,fg]
  rw[cu]
  lia
 |k+1,i,free,found,h,hf,hi,hs=>by
  rw[List.range'_succ,LB]
  unfold occBody
  have eN:(x.cps.toList.take i).count c<=i:=bF List.count_le_length (by rw[jN];lia)
  by_cases hc:x.cps.toList[i]? = some c
  .obtain⟨c1,c2⟩:=(subAt_one x c i).mpr hc
   have c1':i+1<=x.length:=c1
   rw[az ⟨⟨⟨by show found.size<_;lia,hf⟩,c1⟩,c2⟩]
   refine Ih x c k (i+1) (i+1) (found.push i) (by lia) (aO _) (by lia) ?_
   rw[Array.size_push,hs,eJ,hc,L4]
   simp
  .rw[av (λz=>hc ((subAt_one x c i).mp ⟨z.1.2,z.2⟩))]
   refine Ih x c k (i+1) free found (by lia) (by lia) (by lia) ?_
   rw[hs,eJ,L4]
   cases e:x.cps.toList[i]? with
   |none=>simp
   |some d=>
    have:d≠c:=λz=>hc (by rw[e,z])
    simp[this]
open PySem.StrLaws in
theorem acZ(x:Str)(c:Nat):Txt.count x ⟨#[c]⟩=((x.cps.toList.count c:Nat):Int):=by
 unfold Txt.count
 rw[occ_eq]
 congr 1
 exact Ih x c (x.length+1) 0 0 #[] (by lia) (aO _) (bG _) rfl
theorem ac0(x:List Nat)(w:Nat)(h:x.length=w):((List.range w).filter λj=>!decide (x.getD j 0=35)).length+x.count 35=w:=by
 subst h
 induction x with
 |nil=>rfl
 |cons a r ih=>
  rw[dO,LD,dj,AJ,L5]
  have e:((λj=>!decide ((a::r).getD j 0=35))∘Nat.succ)=λj=>!decide (r.getD j 0=35):=by funext j;rfl
  rw[e]
  by_cases z:a=35
  .subst z
   simp only[List.getD_cons_zero,decide_true,Bool.not_true,uH,pX,aw,AH,jO]
   lia
  .have:¬(a==35)=true:=by simpa using z
   rw[av this]
   simp only[List.getD_cons_zero,aI z,Bool.not_false,jO,dO,aw]
   lia
theorem QE(l:List Str)(w:Nat):∀n,((cells n w).filter (bL l)).length=((List.range n).map λi=>((List.range w).filter λj=>!decide ((l.getD i ⟨#[]⟩).cps.toList.getD j 0=35)).length).sum
 |0=>rfl
 |n+1=>by
  rw[GS,ie,di,QE l w n,nV,eW,LK,AJ,aw]
  simp only[bS,uF,fZ,List.sum_nil,Nat.add_zero]
  rfl
theorem QF:∀l:List Nat,((l.sum:Nat):Int)=(l.map λ(n:Nat)=>(n:Int)).sum
 |[]=>rfl
 |a::r=>by rw[fZ,bS,fZ,<-QF r];simp
theorem ac1(g:α->β)(d:α)(l:List α):(List.range l.length).map (λi=>g (l.getD i d))=l.map g:=o9 g d l
theorem ac2(S:aZ l w):((ba l w).length:Int)=(pB l).sum:=by
 unfold ba pB
 rw[QE,ac1 (λx:Str=>((List.range w).filter λj=>!decide (x.cps.toList.getD j 0=35)).length),QF,kO]
 congr 1
 refine L6 λx mx=>?_
 have hl:=S.len x mx
 have e:=ac0 x.cps.toList w (by rw[cu];exact hl)
 have e2:Txt.count x "#"=((x.cps.toList.count 35:Nat):Int):=by rw[<-acZ,<-qL]
 show((((List.range w).filter λj=>!decide (x.cps.toList.getD j 0=35)).length:Nat):Int)=(x.length:Int) - Txt.count x "#"
 rw[e2,hl]
 lia
theorem QG{cs:List C2}(nd:cs.Nodup):∀{r:List C2},(∀c∈r,c∈cs)->(cs.map λc=>r.count c).sum=r.length
 |[],_=>by
  rw[vR]
  .rfl
  .intro y my
   obtain⟨c,_,rfl⟩:=bM.mp my
   rfl
 |a::r,h=>by
  have ih:=QG nd (r:=r) λc m=>h c (bX _ m)
  have e:∀xs:List C2,(xs.map λc=>(a::r).count c).sum=(xs.map λc=>r.count c).sum+xs.count a:=by
   intro xs
   induction xs with
   |nil=>rfl
   |cons x t Ii=>
    rw[bS,fZ,Ii,bS,fZ,L5,L5]
    by_cases z:a=x
    .subst z
     simp
     lia
    .have z1:¬(a==x)=true:=by simpa using z
     have z2:¬(x==a)=true:=by simpa using λy=>z y.symm
     rw[av z1,av z2]
     lia
  rw[e,ih,dO,List.Nodup.count nd,az (h a bz)]
theorem Ij{cs:List C2}(nd:cs.Nodup):∀{rs:List (Nat×List C2)},(∀q∈rs,∀c∈q.2,c∈cs)->(cs.map λc=>cO c rs).sum=(rs.map λq=>q.2.length).sum
 |[],_=>by
  rw[vR]
  .rfl
  .intro y my
   obtain⟨c,_,rfl⟩:=bM.mp my
   rfl
 |q::rs,h=>by
  have ih:=Ij nd (rs:=rs) λp m=>h p (bX _ m)
  have e:∀xs:List C2,(xs.map λc=>cO c (q::rs)).sum=(xs.map λc=>q.2.count c).sum+(xs.map λc=>cO c rs).sum:=by
   intro xs
   induction xs with
   |nil=>rfl
   |cons x t Ii=>
    rw[bS,fZ,Ii,bS,fZ,bS,fZ]
    have:cO x (q::rs)=q.2.count x+cO x rs:=by unfold cO;rw[bS,fZ]
    lia
  rw[e,ih,QG nd (h q bz),bS,fZ]
theorem QH:∀{l:List Nat},(∀x∈l,x<=2)->l.sum=2*l.length->∀x∈l,x=2
 |[],_,_,x,m=>by cases m
 |a::r,h,e,x,m=>by
  rw[fZ,dO] at e
  have ha:=h a bz
  have hr:r.sum<=2*r.length:=by
   clear e m ha
   have h':∀x∈r,x<=2:=λy my=>h y (bX _ my)
   clear h
   induction r with
   |nil=>exact aO _
   |cons b t ih=>
    rw[fZ,dO]
    have:=h' b bz
    have:=ih λy my=>h' y (bX _ my)
    lia
  rcases cw.mp m with z | z
  .lia
  .exact QH (λy my=>h y (bX _ my)) (by lia) x z
theorem Ik(c:C2):cO c (dw l w)=cO c (iz l w)+cO c (oQ l w):=by simp_all [C2,iz,oQ,dw,cO]
def gZ(l:List Str)(w:Nat):Prop := ∀c,bx l w c=true->cO c (dw l w)=2
theorem QI(S:aZ l w)(h:zt l w=true):gZ l w:=by
 have h:=fG h
 rw[<-ac2 S] at h
 have e1:((ba l w).map λc=>cO c (dw l w)).sum=((aG l w).map (·.length)).sum:=by
  rw[Ij (yU l w) λq mq c mc=>?_,pq,kO]
  .rfl
  .have hc:=(Ci mq).2 c mc
   exact yV (by rw[nF hc.1 hc.2.1];exact hc.2.2)
 have e2:((ba l w).map λc=>cO c (dw l w)).sum=2*((ba l w).map λc=>cO c (dw l w)).length:=by
  rw[e1,aw]
  lia
 intro c hc
 refine QH (λx mx=>?_) e2 _ (mU (yV hc))
 obtain⟨d,_,rfl⟩:=bM.mp mx
 rw[Ik,BY S,G3 S]
 split <;> split <;> lia
def pH(l:List Str)(w:Nat):Prop := ∃c,bx l w c=true
theorem ac3(h:iA (bx l w) (0,1) c=true):∃d:C2,bx l w d=true/\d.1=c.1/\d.2≠c.2:=by
 unfold iA iy at h
 rw[d9,uI,d9,d9] at h
 rcases h.2 with z | z
 .have h1:1<=c.2:=fG z.2.1
  exact⟨_,z.2.2,by show c.1 - 0=c.1;lia,by show c.2 - 1≠c.2;lia⟩
 .exact⟨_,z,by unfold go;show c.1+1*0=c.1;lia,by unfold go;show c.2+1*1≠c.2;lia⟩
theorem ac4(h:iA (bx l w) (1,0) c=true):∃d:C2,bx l w d=true/\d.2=c.2/\d.1≠c.1:=by
 unfold iA iy at h
 rw[d9,uI,d9,d9] at h
 rcases h.2 with z | z
 .have h1:1<=c.1:=fG z.1
  exact⟨_,z.2.2,by show c.2 - 0=c.2;lia,by show c.1 - 1≠c.1;lia⟩
 .exact⟨_,z,by unfold go;show c.2+1*0=c.2;lia,by unfold go;show c.1+1*1≠c.1;lia⟩
theorem pH.set{l:List Str}{w:Nat}(S:aZ l w)(T:gZ l w)(N:pH l w){c1 c2:C2}(a1:c1.1<l.length)(a2:c1.2<w)(b1:c2.1<l.length)(b2:c2.2<w):pH (setC (setC l c1 35) c2 35) w:=by
 obtain⟨c,hc⟩:=N
 have h2:=T c hc
 rw[Ik,BY S,G3 S] at h2
 have hA:iA (bx l w) (0,1) c=true:=by
  by_cases z:iA (bx l w) (0,1) c=true
  .exact z
  .rw[av z] at h2
   split at h2 <;> lia
 have hD:iA (bx l w) (1,0) c=true:=by
  by_cases z:iA (bx l w) (1,0) c=true
  .exact z
  .rw[av z] at h2
   split at h2 <;> lia
 obtain⟨d,hd,d1,d2⟩:=ac3 hA
 obtain⟨e,he,e1,e2⟩:=ac4 hD
 have key:∀x:C2,bx l w x=true->x≠c1->x≠c2->pH (setC (setC l c1 35) c2 35) w:=λx hx n1 n2=>by
  obtain⟨x1,x2,x3⟩:=oP hx
  refine⟨x,?_⟩
  rw[nF (by rw[dg,dg];exact x1) x2]
  unfold bL at x3 ⊢
  rw[(S.dn.set (ch:=35) a1 a2).gX (by rw[dg];exact b1) b2 (by rw[dg];exact x1) x2,av n2,S.dn.gX a1 a2 x1 x2,av n1]
  exact x3
 by_cases z1:c=c1\/c=c2
 .by_cases z2:d=c1\/d=c2
  .refine key e he (λz=>?_) (λz=>?_)
   .rcases z1 with y1 | y1
    .rw[y1,z] at e2;exact e2 rfl
    .rcases z2 with y2 | y2
     .rw[z,<-y2,d1] at e2;exact e2 rfl
     .rw[y2,<-y1] at d2;exact d2 rfl
   .rcases z1 with y1 | y1
    .rcases z2 with y2 | y2
     .rw[y2,<-y1] at d2;exact d2 rfl
     .rw[z,<-y2,d1] at e2;exact e2 rfl
    .rw[y1,z] at e2;exact e2 rfl
  .exact key d hd (λz=>z2 (.inl z)) (λz=>z2 (.inr z))
 .exact key c hc (λz=>z1 (.inl z)) (λz=>z1 (.inr z))
theorem ac5(h1:0<h)(w1:0<w):pH (List.replicate h (gV "." w)) w:=by
 refine⟨(0,0),?_⟩
 rw[nF (by rw[uC];exact h1) w1]
 unfold bL
 rw[HL (c:=(0,0)) h1 w1]
 rfl
section
variable{w:World}
def QJ(K:Frag):Sp:=λvs H Q _=>∃(a:Addr) (l:List Str) (w:Nat),vs=[.ref a]/\ak K H a (l.map V.str)/\aZ l w/\∀H',af H H'->Q (.bl (zt l w)) H'
theorem CO:bh ["_law_sheet","_law_many","_law_cells"] ["_law_sheet"] (aN (top 71)):={}
theorem ac6(B:Bl mg)(F:aW K "_law_good" "_law_good" (top 71) f fd)(tZ:Fn P w K mg base "_law_rows" 3 (zh K)):aK P w K mg base aP 4 f fd ["_law_sheet"] (QJ K):=by
 refine F.bE CO λaE A outer s H vs Q E hr h=>?_
 refine hide λG_ aD=>?_
 obtain⟨a,l,wd,rfl,hT,S,q⟩:=h
 refine aD.k ?_
 have h9:=S.nine
 have hw:=S.w9
 refine⟨_,(aq (aH 1 CO.nd aF)
  (aq (cD (dJ (aR tZ hr (ae (pv 0) ag))) (bI 2 CO.nd)
  (au (aH 1 CO.nd (bb fM (pv 1) (bg dX (by rfl) B.cj b9 (ae (pv 2) ag))))))
  (au (aS (r6 mY (pv 1) (bb ve aF (bg (Yh rfl) (by rfl) B.aaP Ye (ae (iS (js:=[]) (ns:=[]) (A0 (pv 0)) rfl rfl rfl rfl (λ_ _ _ _=>lg) (λ_ _ _ _=>(bb qu (bg gy (by rfl) B.cj b9 (ae (pv 0) ag)) (Yj (K:=K) (rr:=λ_=>NW) rfl LZ PySem.F.slot_str_count PySem.F.type_str_count YA (pv 0) (ae eB ag))))) ag)))))))),?_⟩
 try dsimp only[bt]
 refine⟨_,rfl,a,l,wd,rfl,hT,S,λg xs H1 hg s1 hL hR=>⟨g,rfl,⟨_,aj.of hL⟩,?_⟩⟩
 have Cy:=hR.length
 refine jl (xs:=xs) (λi O H2=>∃v2,O=[some (.ref a),some (.int (((((aG l wd).take i).map (·.length)).sum:Nat):Int)),v2]/\H2=H1) ⟨none,rfl,rfl⟩ (λi O H2 _ ⟨_,_,e⟩=>by rw[e];exact aj.of hL) ?_ ?_
 .intro i x O H2 hx ac7
  refine hide λG_ aX=>?_
  obtain⟨v2,rfl,rfl⟩:=ac7
  obtain⟨r,fE,p,ys,rfl,_,hp,hc⟩:=Paired.get hR hx
  refine aX.k ?_
  refine⟨_,rfl,_,rfl,p,_,rfl,.inl (aj.of hp),_,_,rfl,rfl,?_⟩
  refine⟨some (.ref p),?_,rfl⟩
  rw[eJ,fE]
  simp only[Option.toList_some,eW,bS,uF,LK,fZ,List.sum_nil,Nat.add_zero,Int.natCast_add,hc.length]
  rfl
 .rintro O H2 ⟨v2,rfl,rfl⟩
  rw[fg (by lia)]
  refine⟨_,rfl,_,rfl,a,rfl,⟨_,s1.tup hT⟩,?_⟩
  refine comp_map FR (by rw[aw];lia) (λ_ i y _=>y = .int ((pB l).getD i 0)) (λH3 s3=>(s1.trans s3).tup hT) (λ_ _ _ _ _ _ _ _ h=>h) ?_ ?_
  .intro D i z H3 Z hD hz s3 _ k1
   rw[bw] at hz
   cases e:l[i]? with
   |none=>rw[e] at hz;cases hz
   |some x=>
    rw[e] at hz
    cases hz
    have lx:=S.len x (bj e)
    refine⟨_,rfl,x,rfl,eS (by lia),_,rfl,rfl,_,_,rfl,rfl,_,_,rfl,rfl,k1 _ _ (af.cx _) ?_⟩
    have:(pB l)[i]? = some ((x.length:Int) - (Txt.count x "#":Int)):=by unfold pB;rw[bw,e];rfl
    rw[b7 this]
  .intro D ys H3 hD bD s3 pr
   have e:=oZ pr
   have el:(l.map V.str).length=(pB l).length:=by unfold pB;rw[aw,aw]
   rw[el,o9 V.int] at e
   refine⟨D,pB l,rfl,aj.of (by rw[bD,e]),_,_,rfl,rfl,.inl ⟨by decide,by decide⟩,rfl,?_⟩
   have:=q H3 (s1.trans s3)
   unfold zt at this
   rw[dIv]
   exact this
def QK(K:Frag):Sp:=λvs H Q _=>∃(c:Int),vs=[.int c]/\∀p l w H',af H H'->H' p=some (.tup (l.map V.str))->pC l w->gZ l w->kF l w->pH l w->l.length*w<=9->Q (.ref p) H'
theorem nK:bh ["_law_cell","_law_high","_law_wide","_law_sheet","_law_k","_law_spot","_law_other","_law_some"] ["_law_cell"] (aN (top 72)):={}
theorem ac8(B:Bl mg)(F:aW K "_law_floor" "_law_floor" (top 72) f fd)(nJ:Fn P w K mg base "_law_with" 1 (pe K))(ac9:Fn P w K mg base "_law_good" 4 (QJ K)):aK P w K mg base aP 5 f fd ["_law_cell"] (QK K):=by
 refine F.Zi nK (λvs H Q E h=>?_) (λaE A outer s H vs Q E hr h=>?_)
 .obtain⟨c,rfl,_⟩:=h
  rfl
 .obtain⟨c,rfl,q⟩:=h
  refine⟨_,(Zh (Zg (Zf gj (Ze (sZ tf (sZ tf (sZ tf (sZ tf (sZ tf (sZ tf (sZ tf Zd rfl) rfl) rfl) rfl) rfl) rfl) rfl)) (bb gK (pv 0) aF) (λ_ _=>rfl)) (kT rfl (eC (bI 1 nK.nd) (eC (bI 2 nK.nd) kR)))) (aq (aH 3 nK.nd (jY ye (by rfl) B.oU ow (ae (bb WK (du (ae (bb Yz eB (pv 2)) ag)) (pv 1)) ag (hs:=dN rfl))))
   (aq (cD (ik (by rfl) B.iB (ae (bb gK (bb mX (pv 0) aF) aF) ag)) (bI 4 nK.nd)
   (aq (aH 5 nK.nd (bb gK (bb mX (bb mX (pv 0) aF) (bb fM (pv 4) aF)) (bb ve (pv 1) (pv 2))))
    (aq (aH 6 nK.nd (bb qu (bb qu (bb ve (pv 1) (pv 2)) aF) (pv 5)))
    (aq (aH 7 nK.nd (aR nJ hr (ae (pv 3) (ae (fm (ae (bb mX (pv 5) (pv 2)) (ae (bb gK (pv 5) (pv 2)) ag))) (ae eB ag (hs:=dN rfl)) (hs:=dN rfl)) (hs:=dN rfl)) (he:=dN rfl) (hpl:=BI rfl)))
    (aq (aH 7 nK.nd (aR nJ hr (ae (pv 7) (ae (fm (ae (bb mX (pv 6) (pv 2)) (ae (bb gK (pv 6) (pv 2)) ag))) (ae eB ag (hs:=dN rfl)) (hs:=dN rfl)) (hs:=dN rfl)) (he:=dN rfl) (hpl:=BI rfl)))
    (au (vy (bH (eX (aR ac9 hr (ae (pv 7) ag)))
    (au (aH 3 nK.nd (pv 7)))
    bN))))))))
   (au (aS (pv 3)))))),?_⟩
  try dsimp only[bt]
  have s2:2<=sizeLine:=by decide
  refine⟨s2,λp0 h0=>⟨s2,λp1 h1=>⟨s2,λp2 h2=>⟨s2,λp3 h3=>⟨s2,λp4 h4=>⟨s2,λp5 h5=>⟨s2,λp6 h6=>⟨by show 7<=sizeLine;decide,λpo hpo=>?_⟩⟩⟩⟩⟩⟩⟩⟩
  have t0:=af.upd (o:=HO.tup [V.int 3,V.int 3]) h0
  have t1:=af.upd (o:=HO.tup [V.int 2,V.int 2]) h1
  have t2:=af.upd (o:=HO.tup [V.int 2,V.int 3]) h2
  have t3:=af.upd (o:=HO.tup [V.int 3,V.int 2]) h3
  have t4:=af.upd (o:=HO.tup [V.int 3,V.int 3]) h4
  have t5:=af.upd (o:=HO.tup [V.int 2,V.int 4]) h5
  have t6:=af.upd (o:=HO.tup [V.int 4,V.int 2]) h6
  have t7:=af.upd (o:=HO.lst [V.ref p0,V.ref p1,V.ref p2,V.ref p3,V.ref p4,V.ref p5,V.ref p6]) hpo
  have d0:=xI c (show(7:Int)≠0 by decide)
  have d1:=AS c (show(0:Int)<7 by decide)
  have sA:=t0.trans (t1.trans (t2.trans (t3.trans (t4.trans (t5.trans (t6.trans t7))))))
  have g6:=t7 _ _ (ao (a:=p6) (o:=HO.tup [V.int 4,V.int 2]))
  have g5:=t7 _ _ (t6 _ _ (ao (a:=p5) (o:=HO.tup [V.int 2,V.int 4])))
  have g4:=t7 _ _ (t6 _ _ (t5 _ _ (ao (a:=p4) (o:=HO.tup [V.int 3,V.int 3]))))
  have g3:=t7 _ _ (t6 _ _ (t5 _ _ (t4 _ _ (ao (a:=p3) (o:=HO.tup [V.int 3,V.int 2])))))
  have g2:=t7 _ _ (t6 _ _ (t5 _ _ (t4 _ _ (t3 _ _ (ao (a:=p2) (o:=HO.tup [V.int 2,V.int 3]))))))
  have g1:=t7 _ _ (t6 _ _ (t5 _ _ (t4 _ _ (t3 _ _ (t2 _ _ (ao (a:=p1) (o:=HO.tup [V.int 2,V.int 2])))))))
  have g0:=t7 _ _ (t6 _ _ (t5 _ _ (t4 _ _ (t3 _ _ (t2 _ _ (t1 _ _ (ao (a:=p0) (o:=HO.tup [V.int 3,V.int 3]))))))))
  have gL:=wc t7
  revert sA g0 g1 g2 g3 g4 g5 g6 gL
  generalize upd _ po (HO.lst [V.ref p0,V.ref p1,V.ref p2,V.ref p3,V.ref p4,V.ref p5,V.ref p6])=HA
  intro sA g6 g5 g4 g3 g2 g1 g0 gL
  clear t0 t1 t2 t3 t4 t5 t6 t7
  refine hide λG_ aD=>?_
  obtain⟨pd,hh,ww,sV,qP,hd⟩:∃(pd:Addr) (hh ww:Nat),gO [V.ref p0,V.ref p1,V.ref p2,V.ref p3,V.ref p4,V.ref p5,V.ref p6] (c % 7)=some (.ref pd)/\HA pd=some (.tup [V.int hh,V.int ww])/\(2<=hh/\hh<=4/\2<=ww/\ww<=4/\hh*ww<=9):=by
   have e:c % 7=0\/c % 7=1\/c % 7=2\/c % 7=3\/c % 7=4\/c % 7=5\/c % 7=6:=by lia
   rcases e with e | e | e | e | e | e | e <;> rw[e]
   .exact⟨p0,3,3,rfl,g0,by decide⟩
   .exact⟨p1,2,2,rfl,g1,by decide⟩
   .exact⟨p2,2,3,rfl,g2,by decide⟩
   .exact⟨p3,3,2,rfl,g3,by decide⟩
   .exact⟨p4,3,3,rfl,g4,by decide⟩
   .exact⟨p5,2,4,rfl,g5,by decide⟩
   .exact⟨p6,4,2,rfl,g6,by decide⟩
  refine aD.k ?_
  refine⟨_,rfl,_,_,rfl,rfl,(by show(0:Int)<7;decide),po,_,_,.ref pd,rfl,rfl,aj.of gL,sV,pd,_,rfl,ak.of qP,rfl,_,_,rfl,_,_,rfl,rfl,?_⟩
  clear g0 g1 g2 g3 g4 g5 g6 gL sV
  have ada:(".":Str).length=1:=by decide +kernel
  refine⟨_,rfl,_,_,rfl,rfl,by lia,by lia,by rw[ada];decide,by show 1<=sizeLine;decide,λl1 mE=>?_⟩
  rw[eI]
  refine⟨_,rfl,l1,_,_,rfl,rfl,ao,by lia,by lia,eS (by rw[eI];show 1*_<=_;lia),λl2 kZ=>?_⟩
  rw[eI,Qi]
  refine⟨l2,_,rfl,.inl ⟨aj.of ao,λtp BV=>?_⟩⟩
  have u1:=af.upd (o:=HO.lst [V.str (gV "." ww)]) mE
  have u2:=af.upd (o:=HO.lst (List.replicate hh (V.str (gV "." ww)))) kZ
  have u3:=af.upd (o:=HO.tup (List.replicate hh (V.str (gV "." ww)))) BV
  have sB:=sA.trans (u1.trans (u2.trans u3))
  have CQ:=wc u3
  revert sB CQ
  clear u1 u2 u3
  generalize upd _ tp (HO.tup (List.replicate hh (V.str (gV "." ww))))=HB
  intro sB CQ
  rw[<-List.map_replicate] at CQ
  have m0:=xI (c / 7) (show(3:Int)≠0 by decide)
  have m1:=AS (c / 7) (show(0:Int)<3 by decide)
  refine⟨_,rfl,_,_,rfl,rfl,⟨by decide,by decide⟩,_,_,rfl,rfl,(by show(0:Int)<3;decide),_,rfl,by lia,by lia,?_⟩
  refine kh (λi O H2=>∃p l v4 v5 v6 v7,O=[some (.int c),some (.int hh),some (.int ww),some (.ref p),v4,v5,v6,v7]/\af H H2/\H2 p=some (.tup (l.map V.str))/\pC l ww/\l.length=hh/\gZ l ww/\kF l ww/\pH l ww)
   ⟨tp,_,none,none,none,none,rfl,sB,CQ,Qh (by lia) (by lia) (by lia) (by lia),by rw[uC],QI (Qh (by lia) (by lia) (by lia) (by lia)).sh (ach hh (by simp;lia) ww (by simp;lia)),acf,ac5 (by lia) (by lia)⟩ ?_ ?_
  .intro i O H2 hi adb
   refine hide λG_ aX=>?_
   obtain⟨p,l,v4,v5,v6,v7,rfl,sm,hP,Fl,hl,Gd,Sy,Ne⟩:=adb
   refine aX.k ?_
   have hhw:0<hh*ww:=Nat.mul_pos (by lia) (by lia)
   have aiK:hh*ww<=16:=by
    have:=uP hd.2.1 hd.2.2.2.1
    lia
   have hn:((hh:Int)*(ww:Int))=((hh*ww:Nat):Int):=by simp
   have p1:(0:Int)<(i:Int)+1:=by lia
   have p2:(i:Int)+1<1073741824:=by lia
   have cm:A8 (hh:Int) (ww:Int) := .inl ⟨by lia,by lia⟩
   have oo:(0:Int)<(hh:Int)*(ww:Int):=by rw[hn];lia
   refine⟨_,rfl,_,_,rfl,rfl,⟨by decide,by decide⟩,_,rfl,_,_,rfl,rfl,_,_,rfl,rfl,⟨p1,p2⟩,_,rfl,_,rfl,_,_,rfl,rfl,cm,_,_,rfl,rfl,oo,?_⟩
   have z0:=xI (c / 21 / ((i:Int)+1)) (Int.ne_of_gt oo)
   have z1:=AS (c / 21 / ((i:Int)+1)) oo
   dsimp only
   generalize c / 21 / ((i:Int)+1) % ((hh:Int)*(ww:Int))=z at z0 z1 ⊢
   obtain⟨sp,rfl⟩:=xG z0
   rw[hn] at z1
   have z1:sp<hh*ww:=Int.ofNat_lt.mp z1
   refine⟨_,rfl,_,rfl,_,_,rfl,rfl,cm,_,_,rfl,rfl,_,rfl,_,_,rfl,rfl,?_⟩
   have ue:(hh:Int)*(ww:Int) - 1 - (sp:Int)=((hh*ww - 1 - sp:Nat):Int):=by rw[hn];lia
   dsimp only
   rw[ue]
   have o1:hh*ww - 1 - sp<hh*ww:=by lia
   have ti:=acg (h:=hh) (w:=ww) (sp:=sp) (by lia) z1
   generalize hh*ww - 1 - sp=ot at o1 ti ⊢
   have wp:0<ww:=by lia
   have dv:Mp (0:Int) (ww:Int):=⟨by lia,by lia⟩
   have a1:sp / ww<hh:=LV (by rw[qb];exact z1)
   have b1:ot / ww<hh:=LV (by rw[qb];exact o1)
   have a2:sp % ww<ww:=Nat.mod_lt _ wp
   have b2:ot % ww<ww:=Nat.mod_lt _ wp
   refine⟨_,rfl,_,rfl,_,rfl,_,_,rfl,rfl,dv,_,rfl,_,rfl,_,_,rfl,rfl,dv.1,s2,λq1 qR=>?_⟩
   have y1:=af.upd (o:=HO.tup [V.int ((sp:Int) / (ww:Int)),V.int ((sp:Int) % (ww:Int))]) qR
   refine⟨p,q1,l,ww,(sp / ww,sp % ww),35,by rw[<-qL];rfl,y1.tup (ak.of hP),Fl.sh.dn,ak.of (by rw[ao];simp),by rw[hl];exact a1,a2,λt H3 _ s3 ht=>?_⟩
   have F1:=Fl.set (c:=(sp / ww,sp % ww)) (by rw[hl];exact a1) a2
   have mE:(setC l (sp / ww,sp % ww) 35).length=hh:=by rw[dg,hl]
   have Il:kF (setC (setC l (sp / ww,sp % ww) 35) (ot / ww,ot % ww) 35) ww:=by
    have e:=Sy.set Fl.sh (c:=(sp / ww,sp % ww)) (by rw[hl];exact a1) a2
    rw[hl] at e
    rw[ti.1,ti.2]
    exact e
   have Im:pH (setC (setC l (sp / ww,sp % ww) 35) (ot / ww,ot % ww) 35) ww:=Ne.set Fl.sh Gd (by rw[hl];exact a1) a2 (by rw[hl];exact b1) b2
   generalize setC l (sp / ww,sp % ww) 35=l1 at ht F1 mE Il Im
   have gm:=sm.trans (y1.trans s3)
   have hP3:=(y1.trans s3) _ _ hP
   clear y1 s3
   refine⟨_,rfl,_,rfl,_,rfl,_,_,rfl,rfl,dv,_,rfl,_,rfl,_,_,rfl,rfl,dv.1,s2,λq2 Io=>?_⟩
   have y2:=af.upd (o:=HO.tup [V.int ((ot:Int) / (ww:Int)),V.int ((ot:Int) % (ww:Int))]) Io
   refine⟨t,q2,l1,ww,(ot / ww,ot % ww),35,by rw[<-qL];rfl,y2.tup (ak.of ht),F1.sh.dn,ak.of (by rw[ao];simp),by rw[mE];exact b1,b2,λt2 H4 _ s4 gW=>?_⟩
   have F2:=F1.set (c:=(ot / ww,ot % ww)) (by rw[mE];exact b1) b2
   have kZ:(setC l1 (ot / ww,ot % ww) 35).length=hh:=by rw[dg,mE]
   generalize setC l1 (ot / ww,ot % ww) 35=l2 at gW F2 kZ Il Im
   have cW:=gm.trans (y2.trans s4)
   have hP4:=(y2.trans s4) _ _ hP3
   clear y2 s4
   refine⟨λO H5=>∃p l,O=[some (.int c),some (.int hh),some (.int ww),some (.ref p),some (.int i),some (.int sp),some (.int ot),some (.ref t2)]/\af H H5/\H5 p=some (.tup (l.map V.str))/\pC l ww/\l.length=hh/\gZ l ww/\kF l ww/\pH l ww,λO H5 ⟨p,l,e,h⟩=>⟨p,l,_,_,_,_,e,h⟩,?_⟩
   refine⟨_,rfl,t2,l2,ww,rfl,ak.of gW,F2.sh,λH5 s5=>⟨_,rfl,?_⟩⟩
   cases pI:zt l2 ww with
   |true=>exact bp ⟨_,rfl,t2,l2,rfl,cW.trans s5,s5 _ _ gW,F2,kZ,QI F2.sh pI,Il,Im⟩
   |false=>exact aQ ⟨p,l,rfl,cW.trans s5,s5 _ _ hP4,Fl,hl,Gd,Sy,Ne⟩
  .intro O H2 ade
   refine hide λG_ bK=>?_
   obtain⟨p,l,v4,v5,v6,v7,rfl,sm,hP,Fl,hl,Gd,Sy,Ne⟩:=ade
   refine bK.k ?_
   exact⟨_,rfl,q p l ww H2 sm hP Fl Gd Sy Ne (by rw[hl];exact hd.2.2.2.2)⟩
end
theorem Ip{l:List α}(h:l.Nodup){a:α}(hi:l[i]? = some a)(hj:l[j]? = some a):i=j:=by
 obtain⟨zI,ei⟩:=bY.mp hi
 obtain⟨zJ,ej⟩:=bY.mp hj
 rcases Nat.lt_trichotomy i j with z | z | z
 .exact absurd (ei.trans ej.symm) (LX.mp h i j zI zJ z)
 .exact z
 .exact absurd (ej.trans ei.symm) (LX.mp h j i zJ zI z)
noncomputable def dh(R:List (List C2))(c:C2):List (Nat×Nat):=(List.range R.length).flatMap λi=>((List.range (ai R i).length).filter λk=>decide ((ai R i)[k]? = some c)).map λk=>(i,k)
theorem mF{k:Nat}(h:(ai R i)[k]? = some c):i<R.length/\k<(ai R i).length:=by
 refine⟨?_,(bY.mp h).1⟩
 by_cases z:i<R.length
 .exact z
 .have e:ai R i=[]:=by
   unfold ai
   rw[bQ,cZ (Lz z)]
   rfl
  rw[e] at h
  cases h
theorem qU:p∈dh R c↔(ai R p.1)[p.2]? = some c:=by
 unfold dh
 rw[AQ]
 constructor
 .rintro⟨i,_,h⟩
  obtain⟨k,hk,rfl⟩:=bM.mp h
  exact fG (cq.mp hk).2
 .intro h
  have:=mF h
  exact⟨p.1,iK.mpr this.1,bM.mpr ⟨p.2,cq.mpr ⟨iK.mpr this.2,aJ h⟩,rfl⟩⟩
theorem Iq(R:List (List C2))(c:C2):(dh R c).Nodup:=by
 unfold dh List.Nodup
 rw[List.pairwise_flatMap]
 refine⟨λi _=>?_,?_⟩
 .exact List.Pairwise.map _ (λa b h z=>h (fc Prod.snd z)) (List.nodup_range.filter _)
 .refine List.Pairwise.imp (λ{a b} h x hx y hy z=>?_) List.nodup_range
  obtain⟨_,_,rfl⟩:=bM.mp hx
  obtain⟨_,_,rfl⟩:=bM.mp hy
  exact h (fc Prod.fst z)
structure GoodR(R:List (List C2)):Prop where
 nd:∀i,(ai R i).Nodup
 two:∀(i k:Nat) (c:C2),(ai R i)[k]? = some c->∃(j a:Nat),j≠i/\(ai R j)[a]? = some c/\∀(i' k':Nat),(ai R i')[k']? = some c->(i'=i/\k'=k)\/(i'=j/\k'=a)
theorem QL{l:List α}{x:α}(nd:l.Nodup)(m:x∈l)(u:∀y∈l,y=x):l=[x]:=by
 cases l with
 |nil=>cases m
 |cons a r=>
  have ea:=u a bz
  subst ea
  cases r with
  |nil=>rfl
  |cons b s=>
   have eb:=u b (bX _ bz)
   exact absurd (by rw[eb];exact bz) (gG.mp nd).1
noncomputable def wx(R:List (List C2))(pl:Nat)(c:C2):List (Nat×Nat):=(dh R c).filter λp=>!decide (p.1=pl)
noncomputable def lu(R:List (List C2))(pl:Nat):List (Nat×Nat):=(ai R pl).flatMap (wx R pl)
structure Ir(R:List (List C2))(pl:Nat)(c:C2)(p:Nat×Nat):Prop where
 ne:p.1≠pl
 lt:p.1<R.length
 ix:(ai R p.1)[p.2]? = some c
 un:∀(i' k':Nat),(ai R i')[k']? = some c->i'≠pl->i'=p.1/\k'=p.2
theorem CT(G:GoodR R){k:Nat}(h:(ai R pl)[k]? = some c):∃p,wx R pl c=[p]/\Ir R pl c p:=by
 obtain⟨j,a,hj,Iu,hu⟩:=G.two pl k c h
 have QM:∀(i' k':Nat),(ai R i')[k']? = some c->i'≠pl->i'=j/\k'=a:=λi' k' e n=>by
  rcases hu i' k' e with z | z
  .exact absurd z.1 n
  .exact z
 refine⟨(j,a),QL ((Iq R c).filter _) (cq.mpr ⟨qU.mpr Iu,by simp[hj]⟩) (λy hy=>?_),hj,(mF Iu).1,Iu,QM⟩
 obtain⟨h1,h2⟩:=cq.mp hy
 have:=QM y.1 y.2 (qU.mp h1) (by simpa using h2)
 exact rQ this.1 this.2
theorem QN{α β:Type}{f:α->List β}{g:α->β}:∀{l:List α},(∀x∈l,f x=[g x])->l.flatMap f=l.map g
 |[],_=>rfl
 |a::r,h=>by
  rw[List.flatMap_cons,bS,h a bz,QN λx m=>h x (bX _ m)]
  rfl
theorem QO(G:GoodR R)(pl:Nat):lu R pl=(ai R pl).map λc=>(wx R pl c).headD (0,0):=by
 unfold lu
 refine QN λc mc=>?_
 obtain⟨k,hk⟩:=fJ mc
 obtain⟨p,e,_⟩:=CT G hk
 rw[e]
 rfl
theorem adf(G:GoodR R)(pl:Nat):(lu R pl).length=(ai R pl).length:=by rw[QO G,aw]
theorem adg(G:GoodR R){k:Nat}(h:(ai R pl)[k]? = some c):∃p,(lu R pl)[k]? = some p/\Ir R pl c p:=by
 obtain⟨p,e,hp⟩:=CT G h
 refine⟨p,?_,hp⟩
 rw[QO G,bw,h,jd,e]
 rfl
theorem kI(m:List Str)(r:List C2):(ax m r).cps.toList=r.map (sg m):=by simp[ax]
theorem i4{k:Nat}(h:r[k]? = some c):(ax m r).cps.toList[k]? = some (sg m c):=by rw[kI,bw,h];rfl
theorem adh(S:eG m w)(nd:r.Nodup)(aY:∀c∈r,c.1<m.length/\c.2<w)(ha:r[a]? = some c)(ch:Nat):ax (setC m c ch) r=bJ (ax m r) a ch:=by
 have hc:=aY c (bj ha)
 have Ce:a<(ax m r).length:=by rw[fF];exact(bY.mp ha).1
 apply nA
 apply jP
 intro k
 by_cases hk:k<r.length
 .have ek:r[k]? = some r[k]:=bf hk
  have iu:=aY r[k] (nY hk)
  rw[GU Ce (by rw[fF];exact hk),i4 ek,i4 ek,S.gX hc.1 hc.2 iu.1 iu.2]
  by_cases e:k=a
  .subst e
   rw[ek] at ha
   rw[az (cY ha),az rfl]
  .rw[av e,av λz=>e (Ip nd (by rw[ek,z]) ha)]
 .rw[cZ (by rw[kI,aw];lia),cZ (by rw[cu,yT Ce,fF];lia)]
theorem QP(S:eG m w)(aY:∀c∈r,c.1<m.length/\c.2<w)(h1:c.1<m.length)(h2:c.2<w)(hc:c∉r\/sg m c=ch):ax (setC m c ch) r=ax m r:=by
 apply nA
 rw[kI,kI]
 refine L6 λd md=>?_
 have hd:=aY d md
 rw[S.gX h1 h2 hd.1 hd.2]
 by_cases e:d=c
 .rw[az e]
  rcases hc with z | z
  .exact absurd (e ▸ md) z
  .rw[e,z]
 .rw[av e]
theorem mG:∀(m:List Str) (cs:List C2) (xs:List Nat),(putL m cs xs).length=m.length
 |m,[],_=>by simp[putL]
 |m,c::cs,[]=>by simp[putL]
 |m,c::cs,x::xs=>by rw[putL,mG,dg]
theorem Iv{w:Nat}:∀{m:List Str}(_:eG m w) (cs:List C2) (xs:List Nat),(∀c∈cs,c.1<m.length/\c.2<w)->eG (putL m cs xs) w
 |m,S,[],_,_=>by simpa[putL] using S
 |m,S,c::cs,[],_=>by simpa[putL] using S
 |m,S,c::cs,x::xs,h=>by
  rw[putL]
  have hc:=h c bz
  exact Iv (S.set hc.1 hc.2) cs xs λd md=>by rw[dg];exact h d (bX _ md)
theorem QQ{w:Nat}:∀{m:List Str}(_:aZ m w) (cs:List C2) (xs:List Nat),(∀c∈cs,c.1<m.length/\c.2<w)->(∀x∈xs,qI x)->aZ (putL m cs xs) w
 |m,S,[],_,_,_=>by simpa[putL] using S
 |m,S,c::cs,[],_,_=>by simpa[putL] using S
 |m,S,c::cs,x::xs,h,h2=>by
  rw[putL]
  have hc:=h c bz
  exact QQ (tI S hc.1 hc.2 (h2 x bz)) cs xs (λd md=>by rw[dg];exact h d (bX _ md)) λy my=>h2 y (bX _ my)
theorem wy{w:Nat}:∀{m:List Str}(_:eG m w) (cs:List C2) (xs:List Nat),(∀c∈cs,c.1<m.length/\c.2<w)->∀{d:C2},d.1<m.length->d.2<w->d∉cs->sg (putL m cs xs) d=sg m d
 |m,S,[],_,_,d,_,_,_=>by simp[putL]
 |m,S,c::cs,[],_,d,_,_,_=>by simp[putL]
 |m,S,c::cs,x::xs,h,d,d1,d2,hd=>by
  have hc:=h c bz
  rw[putL,wy (S.set hc.1 hc.2) cs xs (λe me=>by rw[dg];exact h e (bX _ me)) (by rw[dg];exact d1) d2 (λz=>hd (bX _ z)),
   S.gX hc.1 hc.2 d1 d2,av λz=>hd (by rw[z];exact bz)]
theorem zK{w:Nat}:∀{m:List Str}(_:eG m w) (cs:List C2) (xs:List Nat),(∀c∈cs,c.1<m.length/\c.2<w)->cs.Nodup->∀{k:Nat}{c:C2}{x:Nat},cs[k]? = some c->xs[k]? = some x->sg (putL m cs xs) c=x
 |m,S,[],_,_,_,k,c,x,hc,_=>by cases hc
 |m,S,c::cs,[],_,_,k,_,x,_,hx=>by cases hx
 |m,S,c::cs,y::xs,h,nd,k,d,x,hd,hx=>by
  have hc:=h c bz
  have h':∀e∈cs,e.1<(setC m c y).length/\e.2<w:=λe me=>by rw[dg];exact h e (bX _ me)
  rw[putL]
  cases k with
  |zero=>
   have e1:c=d:=by simpa using hd
   have e2:y=x:=by simpa using hx
   subst e1 e2
   rw[wy (S.set hc.1 hc.2) cs xs h' (by rw[dg];exact hc.1) hc.2 (gG.mp nd).1,S.gX hc.1 hc.2 hc.1 hc.2,az rfl]
  |succ k=>exact zK (S.set hc.1 hc.2) cs xs h' (gG.mp nd).2 (by simpa using hd) (by simpa using hx)
theorem adi(S:eG m w)(aY:∀c∈r,c.1<m.length/\c.2<w)(nd:r.Nodup)(hl:x.length=r.length):ax (putL m r x.cps.toList) r=x:=by
 have hx:=cu x
 apply nA
 apply jP
 intro k
 by_cases hk:k<r.length
 .have ek:r[k]? = some r[k]:=bf hk
  have ex:x.cps.toList[k]? = some x.cps.toList[k]:=bf (by lia)
  rw[i4 ek,zK S r x.cps.toList aY nd ek ex,ex]
 .rw[cZ (by rw[kI,aw];lia),cZ (by lia)]
theorem i5{t:Str}:cX x t=true↔x.length=t.length/\∀i,i<x.length->t.cps.toList.getD i 0=46\/t.cps.toList.getD i 0=x.cps.toList.getD i 0:=by
 unfold cX
 rw[d9,lL,xD]
 refine and_congr_right λ_=>⟨λh i hi=>?_,λh i hi=>?_⟩
 .have:=h i (iK.mpr hi)
  unfold mB at this
  simpa using this
 .have:=h i (iK.mp hi)
  unfold mB
  simpa using this
theorem CU{k:Nat}(h:j<x.length)(hk:k<x.length):(bJ x j ch).cps.toList.getD k 0=if k=j then ch else x.cps.toList.getD k 0:=by
 rw[bQ,GU h hk,bQ]
 by_cases e:k=j
 .rw[az e,az e]
  rfl
 .rw[av e,av e]
theorem adj{t:Str}(ha:a<t.length)(cQ:t.cps.toList.getD a 0=46)(hc:ch≠46):cX x (bJ t a ch)=true↔cX x t=true/\x.cps.toList.getD a 0=ch:=by
 rw[i5,i5,yT ha]
 constructor
 .rintro⟨hl,h⟩
  have ea:=h a (by lia)
  rw[CU ha ha,az rfl] at ea
  refine⟨⟨hl,λi hi=>?_⟩,?_⟩
  .have:=h i hi
   rw[CU ha (by lia)] at this
   by_cases e:i=a
   .rw[e];exact .inl cQ
   .rw[av e] at this;exact this
  .rcases ea with z | z
   .exact absurd z hc
   .exact z.symm
 .rintro⟨⟨hl,h⟩,e⟩
  refine⟨hl,λi hi=>?_⟩
  rw[CU ha (by lia)]
  by_cases ei:i=a
  .rw[az ei,ei];exact .inr e.symm
  .rw[av ei];exact h i hi
theorem Iw{t:Str}(h:cX x t=true)(hd:46∉t.cps.toList):x=t:=by
 obtain⟨hl,h⟩:=i5.mp h
 have hx:=cu x
 have ht:=cu t
 apply nA
 apply jP
 intro k
 by_cases hk:k<x.length
 .have:=h k hk
  rw[bQ,bQ,bf (by lia),bf (by lia),qc,qc] at this
  rw[bf (by lia),bf (by lia)]
  rcases this with z | z
  .exact absurd (by rw[<-z];exact nY _) hd
  .rw[z]
 .rw[cZ (by lia),cZ (by lia)]
theorem adk(t:Str):cX t t=true:=i5.mpr ⟨rfl,λ_ _=>.inr rfl⟩
structure mH(ks:List Str)(wf:Str->Int)(t:Str)(ws:List Str):Prop where
 nd:ws.Nodup
 mem:∀x,x∈ws↔x∈ks/\cX x t=true
 up:ws.Pairwise λa b=>wf b<=wf a
theorem mH.narrow{t:Str}(F:mH ks wf t ws)(ha:a<t.length)(cQ:t.cps.toList.getD a 0=46)(hc:ch≠46):mH ks wf (bJ t a ch) (ws.filter λx=>decide (x.cps.toList.getD a 0=ch)):=by
 refine⟨F.nd.filter _,λx=>?_,F.up.filter _⟩
 rw[cq,F.mem,adj ha cQ hc,xD,and_assoc]
theorem mH.one(m:x∈ks)(hd:46∉x.cps.toList):mH ks wf x [x]:=by
 refine⟨gG.mpr ⟨fH,je⟩,λy=>?_,List.pairwise_singleton _ _⟩
 rw[cn]
 constructor
 .rintro rfl
  exact⟨m,adk y⟩
 .rintro⟨_,h⟩
  exact Iw h hd
theorem Iy(hl:m.length=l.length)(h:∀c:C2,c.1<l.length->c.2<w->bL m c=bL l c):aG m w=aG l w:=by
 have e:bx m w=bx l w:=by
  funext c
  unfold bx
  rw[hl]
  by_cases h1:c.1<l.length
  .by_cases h2:c.2<w
   .rw[h c h1 h2]
   .rw[aI h2,ib,ib]
  .rw[aI h1,ib,ib]
 unfold aG mC jD
 rw[e,hl]
structure cy(l:List Str)(w:Nat)(R:List (List C2)):Prop where
 sh:aZ l w
 eq:aG l w=R
 good:GoodR R
 all:∀c:C2,c.1<l.length->c.2<w->bL l c=true->∃i k:Nat,(ai R i)[k]? = some c
theorem qV(h:i<R.length):ai R i∈R:=by simp_all [C2,ai]
theorem cy.pJ(F:cy l w R){k:Nat}(h:(ai R i)[k]? = some c):c.1<l.length/\c.2<w/\bL l c=true:=by
 have:=qV (mF h).1
 rw[<-F.eq] at this
 have hc:=bj h
 rw[<-F.eq] at hc
 exact(jE F.sh this).2.2 c hc
theorem cy.kJ(F:cy l w R)(i:Nat):∀c∈ai R i,c.1<l.length/\c.2<w:=λc m=>by
 obtain⟨k,hk⟩:=fJ m
 have:=F.pJ hk
 exact⟨this.1,this.2.1⟩
theorem cy.len(F:cy l w R)(hi:i<R.length):2<=(ai R i).length/\(ai R i).length<=9:=by
 have:=qV hi
 rw[<-F.eq] at this
 have:=jE F.sh this
 rw[F.eq] at this
 exact⟨this.1,this.2.1⟩
def jG(x:Str):Prop := ∀ch∈x.cps.toList,97<=ch/\ch<=122
theorem adl(h:cP x=true):jG x:=λch m=>by
 unfold cP at h
 simp only[d9] at h
 have:=h.2.2
 unfold i0 at this
 have:=fG (lL.mp this ch m)
 rw[BW] at this
 obtain⟨k,hk,e⟩:=bM.mp this
 have:=iK.mp hk
 lia
theorem jG.adm(h:jG x):46∉x.cps.toList:=λm=>by have:=h 46 m;lia
theorem zL(F:cy m w R)(pl:Nat)(hl:x.length=(ai R pl).length)(h1:c.1<m.length)(h2:c.2<w) :
  (∃(k ch:Nat),(ai R pl)[k]? = some c/\x.cps.toList[k]? = some ch/\sg (putL m (ai R pl) x.cps.toList) c=ch)\/(c∉ai R pl/\sg (putL m (ai R pl) x.cps.toList) c=sg m c):=by
 by_cases hc:c∈ai R pl
 .refine Or.inl ?_
  obtain⟨k,hk⟩:=fJ hc
  have jq:=(mF hk).2
  have hx:=cu x
  have ex:x.cps.toList[k]? = some x.cps.toList[k]:=bf (by lia)
  exact⟨k,_,hk,ex,zK F.sh.dn _ _ (F.kJ pl) (F.good.nd pl) hk ex⟩
 .exact .inr ⟨hc,wy F.sh.dn _ _ (F.kJ pl) h1 h2 hc⟩
theorem cy.QR(F:cy m w R)(pl:Nat)(hx:jG x)(hl:x.length=(ai R pl).length)(h1:c.1<m.length)(h2:c.2<w):bL (putL m (ai R pl) x.cps.toList) c=bL m c:=by
 rcases zL F pl hl h1 h2 with ⟨k,ch,hk,hch,e⟩ | ⟨_,e⟩
 .rw[(F.pJ hk).2.2]
  unfold bL
  rw[e]
  have:=hx ch (bj hch)
  rw[aI (by lia)]
  rfl
 .unfold bL
  rw[e]
theorem cy.put(F:cy m w R)(pl:Nat)(hx:jG x)(hl:x.length=(ai R pl).length):cy (putL m (ai R pl) x.cps.toList) w R:=by
 have hlen:=mG m (ai R pl) x.cps.toList
 refine⟨QQ F.sh _ _ (F.kJ pl) (λch mc=>.inr (.inr (hx ch mc))),?_,F.good,λc h1 h2 ho=>?_⟩
 .rw[Iy hlen λc h1 h2=>F.QR pl hx hl h1 h2]
  exact F.eq
 .rw[hlen] at h1
  rw[F.QR pl hx hl h1 h2] at ho
  exact F.all c h1 h2 ho
structure nL(R:List (List C2))(m:List Str)(pl:Nat)(x:Str)(k:Nat)(ps:List Str):Prop where
 len:ps.length=R.length
 own:ps[pl]? = some (ax m (ai R pl))
 lz:∀i,i<R.length->i≠pl->ps[i]? = some (ax (putL m ((ai R pl).take k) (x.cps.toList.take k)) (ai R i))
theorem lA(R:List (List C2))(f:List C2->β)(h:i<R.length):(R.map f)[i]? = some (f (ai R i)):=by simp_all [C2,ai]
theorem nL.zero(hpl:pl<R.length):nL R m pl x 0 (R.map (ax m)):=
 ⟨aw ..,lA R _ hpl,λi hi _=>by rw[nX,nX,lA R _ hi];rfl⟩
theorem nL.step{k:Nat}(F:cy m w R)(dB:cX x (ax m (ai R pl))=true)(A:nL R m pl x k ps)(hc:(ai R pl)[k]? = some c)(hch:x.cps.toList[k]? = some ch)(hp:Ir R pl c p) :
  ∃b,ps[p.1]? = some b/\b.cps.toList[p.2]? = some (sg m c)/\p.2<b.length/\b.length<=9/\(sg m c=46->nL R m pl x (k+1) (ps.set p.1 (bJ b p.2 ch)))/\(sg m c≠46->nL R m pl x (k+1) ps):=by
 have gM:∀d∈(ai R pl).take k,d.1<m.length/\d.2<w:=λd md=>F.kJ pl d (AR md)
 have Gk:=Iv F.sh.dn ((ai R pl).take k) (x.cps.toList.take k) gM
 have oE:=mG m ((ai R pl).take k) (x.cps.toList.take k)
 have cM:=F.pJ hc
 have hcn:c∉(ai R pl).take k:=λz=>by
  obtain⟨j,hj⟩:=fJ z
  have hjk:j<k:=by
   have:=(bY.mp hj).1
   rw[jN] at this
   lia
  rw[AA hjk] at hj
  have:=Ip (F.good.nd pl) hj hc
  lia
 have QS:sg (putL m ((ai R pl).take k) (x.cps.toList.take k)) c=sg m c:=wy F.sh.dn _ _ gM cM.1 cM.2.1 hcn
 have QT:putL m ((ai R pl).take (k+1)) (x.cps.toList.take (k+1))=setC (putL m ((ai R pl).take k) (x.cps.toList.take k)) c ch:=tV m _ _ k c ch hc hch
 have nh:c.1<(putL m ((ai R pl).take k) (x.cps.toList.take k)).length:=by rw[oE];exact cM.1
 have wz:∀i,∀d∈ai R i,d.1<(putL m ((ai R pl).take k) (x.cps.toList.take k)).length/\d.2<w:=λi d md=>by rw[oE];exact F.kJ i d md
 have oH:=F.len hp.lt
 refine⟨_,A.lz p.1 hp.lt hp.ne,?_,?_,?_,λcQ=>⟨by rw[En];exact A.len,?_,λi hi cE=>?_⟩,λcQ=>⟨A.len,A.own,λi hi cE=>?_⟩⟩
 .rw[i4 hp.ix,QS]
 .rw[fF];exact(mF hp.ix).2
 .rw[fF];exact oH.2
 .rw[uz hp.ne];exact A.own
 .rw[QT]
  by_cases e:i=p.1
  .rw[e,rF (by rw[A.len];exact hp.lt),adh Gk (F.good.nd p.1) (wz p.1) hp.ix]
  .rw[uz (bo e),A.lz i hi cE,QP Gk (wz i) nh cM.2.1 (.inl λz=>?_)]
   obtain⟨j,hj⟩:=fJ z
   exact e (hp.un i j hj cE).1
 .have ech:sg m c=ch:=by
   obtain⟨hl,h⟩:=i5.mp dB
   have hk:k<x.length:=by rw[<-cu];exact(bY.mp hch).1
   have:=h k hk
   rw[b7 (i4 hc),b7 hch] at this
   rcases this with z | z
   .exact absurd z cQ
   .exact z
  rw[QT,QP Gk (wz i) nh cM.2.1 (.inr (QS.trans ech))]
  exact A.lz i hi cE
theorem nL.done(F:cy m w R)(A:nL R m pl x (ai R pl).length ps)(hl:x.length=(ai R pl).length)(hpl:pl<R.length):ps.set pl x=R.map (ax (putL m (ai R pl) x.cps.toList)):=by
 have hx:=cu x
 apply jP
 intro i
 by_cases hi:i<R.length
 .rw[lA R _ hi]
  by_cases e:i=pl
  .rw[e,rF (by rw[A.len];exact hpl),adi F.sh.dn (F.kJ pl) (F.good.nd pl) hl]
  .rw[uz (bo e),A.lz i hi e,fg (aO _),fg (by lia)]
 .rw[cZ (by rw[En,A.len];lia),cZ (by rw[aw];lia)]
theorem Iz(S:eG l w)(T:eG m w)(hl:l.length=m.length)(h:∀c:C2,c.1<l.length->c.2<w->sg l c=sg m c):l=m:=by
 apply jP
 intro i
 by_cases hi:i<l.length
 .obtain⟨x,hx,_,_,lx,zw⟩:=S.row hi
  obtain⟨y,hy,_,_,ly,t9⟩:=T.row (i:=i) (by lia)
  rw[hx,hy]
  congr 1
  apply nA
  apply jP
  intro j
  by_cases hj:j<w
  .rw[zw j hj,t9 j hj,h (i,j) hi hj]
  .rw[cZ (by lia),cZ (by lia)]
 .rw[cZ (by lia),cZ (by lia)]
noncomputable def lB(l:List Str)(R:List (List C2))(m:List Str):Nat->List Str
 |0=>l
 |n+1=>putL (lB l R m n) (ai R n) (ax m (ai R n)).cps.toList
theorem qW(l:List Str)(R:List (List C2))(m:List Str):∀n,(lB l R m n).length=l.length
 |0=>rfl
 |n+1=>by rw[lB,mG,qW l R m n]
theorem wA{l m:List Str}{w:Nat}{R:List (List C2)}(F:cy l w R):∀n,eG (lB l R m n) w
 |0=>F.sh.dn
 |n+1=>by
  rw[lB]
  exact Iv (wA F n) _ _ λd md=>by rw[qW];exact F.kJ n d md
theorem QU{l m:List Str}{w:Nat}{R:List (List C2)}(F:cy l w R){c:C2}(h1:c.1<l.length)(h2:c.2<w):∀n,((∃i,i<n/\c∈ai R i)->sg (lB l R m n) c=sg m c)/\((∀i,i<n->c∉ai R i)->sg (lB l R m n) c=sg l c)
 |0=>⟨λ⟨i,hi,_⟩=>absurd hi (ic _),λ_=>rfl⟩
 |n+1=>by
  have ih:=QU (m:=m) F h1 h2 n
  have hc:∀d∈ai R n,d.1<(lB l R m n).length/\d.2<w:=λd md=>by rw[qW];exact F.kJ n d md
  rw[lB]
  refine⟨λ⟨i,hi,hm⟩=>?_,λh=>?_⟩
  .by_cases z:c∈ai R n
   .obtain⟨k,hk⟩:=fJ z
    exact zK (wA F n) _ _ hc (F.good.nd n) hk (i4 hk)
   .rw[wy (wA F n) _ _ hc (by rw[qW];exact h1) h2 z]
    refine ih.1 ⟨i,?_,hm⟩
    rcases xH.mp hi with y | y
    .exact y
    .exact absurd (y ▸ hm) z
  .rw[wy (wA F n) _ _ hc (by rw[qW];exact h1) h2 (h n (rG _))]
   exact ih.2 λi hi=>h i (nU hi)
theorem CV(h:¬bL l c=true):sg l c=35:=by
 unfold bL at h
 simpa using h
theorem adn(F:cy l w R)(M:cy m w R)(hl:m.length=l.length):lB l R m R.length=m:=by
 refine Iz (wA F _) M.sh.dn (by rw[qW,hl]) λc h1 h2=>?_
 rw[qW] at h1
 have s:=QU (m:=m) F h1 h2 R.length
 by_cases ho:bL l c=true
 .obtain⟨i,k,hk⟩:=F.all c h1 h2 ho
  exact s.1 ⟨i,(mF hk).1,bj hk⟩
 .have no:∀i,i<R.length->c∉ai R i:=λi _ z=>by
   obtain⟨k,hk⟩:=fJ z
   exact ho (F.pJ hk).2.2
  have hm:¬bL m c=true:=λz=>by
   obtain⟨i,k,hk⟩:=M.all c (by rw[hl];exact h1) h2 z
   exact no i (mF hk).1 (bj hk)
  rw[s.2 no,CV ho,CV hm]
structure bP(s m:List Str)(w:Nat):Prop where
 sh:aZ s w
 ln:s.length=m.length
 cl:∀c:C2,c.1<m.length->c.2<w->(sg m c≠46->sg s c=sg m c)/\(sg m c=46->sg s c≠35)
theorem bP.refl(S:aZ m w):bP m m w:=⟨S,rfl,λc _ _=>⟨λ_=>rfl,λh=>by rw[h];decide⟩⟩
theorem ado{w:Nat}{k:Nat}(dB:cX x (ax m (ai R pl))=true)(hc:(ai R pl)[k]? = some c)(hch:x.cps.toList[k]? = some ch):sg m c=46\/sg m c=ch:=by
 obtain⟨hl,h⟩:=i5.mp dB
 have hk:k<x.length:=by rw[<-cu];exact(bY.mp hch).1
 have:=h k hk
 rw[b7 (i4 hc),b7 hch] at this
 exact this
theorem bP.QV(F:cy m w R)(hx:jG x)(dB:cX x (ax m (ai R pl))=true)(A:bP s (putL m (ai R pl) x.cps.toList) w):bP s m w:=by
 have hl:x.length=(ai R pl).length:=by rw[(i5.mp dB).1,fF]
 have hlen:=mG m (ai R pl) x.cps.toList
 refine⟨A.sh,by rw[A.ln,hlen],λc h1 h2=>?_⟩
 have a:=A.cl c (by rw[hlen];exact h1) h2
 rcases zL F pl hl h1 h2 with ⟨k,ch,hk,hch,e⟩ | ⟨_,e⟩
 .have hb:=hx ch (bj hch)
  rw[e] at a
  have es:=a.1 (by lia)
  rcases ado (w:=w) dB hk hch with z | z
  .exact⟨λy=>absurd z y,λ_=>by lia⟩
  .exact⟨λ_=>by lia,λy=>by lia⟩
 .rw[e] at a
  exact a
theorem bP.text(F:cy m w R)(hx:jG x)(hl:x.length=(ai R pl).length)(A:bP s (putL m (ai R pl) x.cps.toList) w):ax s (ai R pl)=x:=by
 have fD:=cu x
 have hlen:=mG m (ai R pl) x.cps.toList
 apply nA
 apply jP
 intro k
 by_cases hk:k<(ai R pl).length
 .have ek:(ai R pl)[k]? = some (ai R pl)[k]:=bf hk
  have ex:x.cps.toList[k]? = some x.cps.toList[k]:=bf (by lia)
  have hb:=F.pJ ek
  have a:=A.cl _ (by rw[hlen];exact hb.1) hb.2.1
  have e:=zK F.sh.dn _ _ (F.kJ pl) (F.good.nd pl) ek ex
  rw[e] at a
  have:=hx _ (bj ex)
  rw[i4 ek,ex,a.1 (by lia)]
 .rw[cZ (by rw[kI,aw];lia),cZ (by lia)]
theorem QW{α:Type}{p q:α->Bool}:∀{l:List α},(∀x∈l,p x=true->q x=true)->(l.filter p).length<=(l.filter q).length/\((∃x∈l,q x=true/\p x=false)->(l.filter p).length<(l.filter q).length)
 |[],_=>⟨aO _,λ⟨_,m,_⟩=>by cases m⟩
 |a::r,h=>by
  have ih:=QW (l:=r) λx m=>h x (bX _ m)
  have ha:=h a bz
  rw[dj,dj]
  cases hp:p a with
  |true=>
   rw[ha hp]
   refine⟨mT ih.1,λ⟨x,m,hq,hx⟩=>?_⟩
   rcases cw.mp m with z | z
   .rw[z,hp] at hx;cases hx
   .exact Nat.succ_lt_succ (ih.2 ⟨x,z,hq,hx⟩)
  |false=>
   cases hq:q a with
   |true=>exact⟨Nat.le_succ_of_le ih.1,λ_=>Nat.lt_succ_of_le ih.1⟩
   |false=>
    refine⟨ih.1,λ⟨x,m,jW,hx⟩=>?_⟩
    rcases cw.mp m with z | z
    .rw[z,hq] at jW;cases jW
    .exact ih.2 ⟨x,z,jW,hx⟩
theorem QX(F:cy m w R)(hx:jG x)(dB:cX x (ax m (ai R pl))=true)(hd:46∈(ax m (ai R pl)).cps.toList):(dk (putL m (ai R pl) x.cps.toList) w).length<(dk m w).length:=by
 have hl:x.length=(ai R pl).length:=by rw[(i5.mp dB).1,fF]
 unfold dk
 rw[mG]
 have key:∀c∈cells m.length w,qJ (putL m (ai R pl) x.cps.toList) c=true->qJ m c=true/\c∉ai R pl:=λc mc h=>by
  have hb:=nC mc
  unfold qJ at h ⊢
  have h:=fG h
  rcases zL F pl hl hb.1 hb.2 with ⟨k,ch,hk,hch,e⟩ | ⟨hn,e⟩
  .have:=hx ch (bj hch)
   rw[e] at h
   lia
  .exact⟨aJ (e.symm.trans h),hn⟩
 refine(QW λc mc h=>(key c mc h).1).2 ?_
 rw[kI] at hd
 obtain⟨c,mc,ec⟩:=bM.mp hd
 have hb:=F.kJ pl c mc
 refine⟨c,HZ hb.1 hb.2,aJ ec,fK.mpr λz=>?_⟩
 exact(key c (HZ hb.1 hb.2) z).2 mc
theorem adp(hk:ks.Nodup)(Fo:mH ks wf (ax m (ai R pl)) ws):cV (ws.filter λx=>!decide (x∈pF m R pl))=dG m R pl ks:=by
 unfold dG
 refine BA ?_ ((FX _).filter _)
 refine List.Perm.filter _ ?_
 refine(iV _).trans ?_
 rw[List.perm_ext_iff_of_nodup (hk.filter _) Fo.nd]
 intro x
 rw[cq,Fo.mem]
theorem IA:x∈pF m R pl↔∃i,i<R.length/\i≠pl/\ax m (ai R i)=x:=by
 unfold pF
 constructor
 .intro h
  obtain⟨i,hi,e⟩:=bM.mp h
  obtain⟨h1,h2⟩:=cq.mp hi
  exact⟨i,iK.mp h1,by simpa using h2,e⟩
 .rintro⟨i,h1,h2,e⟩
  exact bM.mpr ⟨i,cq.mpr ⟨iK.mpr h1,by simpa using h2⟩,e⟩
def lC(H:Hp)(r:List C2)(x:V):Prop := ∃t ys,x = .ref t/\H t=some (.tup ys)/\bq H r ys
noncomputable def kC(c:C2):List Key:=[Sum.inl (c.1:Int),Sum.inl (c.2:Int)]
theorem wB(h:kC c=kC d):c=d:=by
 unfold kC at h
 injection h with h1 h2
 injection h2 with h2
 injection h1 with h1
 injection h2 with h2
 exact rQ (by lia) (by lia)
theorem wC{α β:Type}{R:α->β->Prop}:∀{l1 l2:List α}{m1 m2:List β},Paired R l1 m1->Paired R l2 m2->Paired R (l1++l2) (m1++m2)
 |_,_,_,_,.nil,h=>h
 |_,_,_,_,.cons h t,g=>.cons h (wC t g)
structure jH(H:Hp)(d:Addr)(g:C2->List (Nat×Nat))(ls:List Addr)(n:Nat):Prop where
 ex:∃kvs:List (List Key×V),H d=some (.dT kvs)/\kvs.length<=n/\(∀c,g c=[]->aU kvs (kC c)=none)/\
  (∀c,g c≠[]->∃q zs,aU kvs (kC c)=some (.ref q)/\q∈ls/\H q=some (.lst zs)/\bq H (g c) zs)/\
  (∀c c' q,aU kvs (kC c)=some (.ref q)->aU kvs (kC c')=some (.ref q)->c=c')
theorem bq.lists{cs:List (Nat×Nat)}(k:∀b o,H b=some (.tup o)->H' b=some (.tup o))(h:bq H cs xs):bq H' cs xs:=Paired.bU h λ_ _ q=>let ⟨b,e,hb⟩:=q;⟨b,e,k _ _ hb⟩
theorem jH.mono{H H':Hp}{d:Addr}{g:C2->List (Nat×Nat)}{ls:List Addr}{n:Nat}(s:af H H')(h:jH H d g ls n):jH H' d g ls n:=by
 obtain⟨kvs,hd,hl,h1,h2,h3⟩:=h.ex
 refine⟨kvs,s _ _ hd,hl,h1,λc hc=>?_,h3⟩
 obtain⟨q,zs,a,b,e,f⟩:=h2 c hc
 exact⟨q,zs,a,b,s _ _ e,f.mono s⟩
theorem jH.fresh{d p0:Addr}{g:C2->List (Nat×Nat)}{kvs:List (List Key×V)}(h:jH H d g ls n)(hd:H d=some (.dT kvs))(hp:H p0=none)(hc:g c=[])
  (e1:g' c=[o]) (e2:∀x,x≠c->g' x=g x) (uV:H' d=some (.dT (putK kvs (kC c) (.ref p0)))) (fR:H' p0=some (.lst [u])) (hu:nG H' o u) (k:∀b x,b≠d->b≠p0->H b=some x->H' b=some x):jH H' d g' (p0::ls) (n+1):=by
 obtain⟨adq,iW,hl,h1,h2,h3⟩:=h.ex
 rw[hd] at iW
 cases iW
 have kt:∀b o,H b=some (.tup o)->H' b=some (.tup o):=λb o e=>k b _ (λz=>by rw[z,hd] at e;cases e) (λz=>by rw[z,hp] at e;cases e) e
 refine⟨_,uV,bF (vm _ _ _) (by lia),λx hx=>?_,λx hx=>?_,λx y q hx hy=>?_⟩
 .by_cases z:x=c
  .rw[z,e1] at hx;cases hx
  .rw[oi,av (λw=>z (wB w))]
   exact h1 x (by rw[<-e2 x z];exact hx)
 .by_cases z:x=c
  .subst z
   refine⟨p0,[u],by rw[oi,az rfl],bz,fR,?_⟩
   rw[e1]
   exact .cons hu .nil
  .rw[e2 x z] at hx ⊢
   obtain⟨q,zs,a,b,e,f⟩:=h2 x hx
   refine⟨q,zs,by rw[oi,av (λw=>z (wB w))];exact a,bX _ b,k q _ (λw=>by rw[w,hd] at e;cases e) (λw=>by rw[w,hp] at e;cases e) e,f.lists kt⟩
 .have old:∀x,x≠c->aU kvs (kC x)=some (.ref q)->q≠p0:=λx z hv w=>by
   by_cases gx:g x=[]
   .rw[h1 x gx] at hv;cases hv
   .obtain⟨q',zs,a,b,e,f⟩:=h2 x gx
    rw[a] at hv
    cases hv
    rw[w,hp] at e
    cases e
  rw[oi] at hx hy
  by_cases zx:x=c <;> by_cases zy:y=c
  .rw[zx,zy]
  .rw[az (by rw[zx])] at hx
   rw[av (λw=>zy (wB w))] at hy
   cases hx
   exact absurd rfl (old y zy hy)
  .rw[av (λw=>zx (wB w))] at hx
   rw[az (by rw[zy])] at hy
   cases hy
   exact absurd rfl (old x zx hx)
  .rw[av (λw=>zx (wB w))] at hx
   rw[av (λw=>zy (wB w))] at hy
   exact h3 x y q hx hy
theorem jH.more{d q:Addr}{g:C2->List (Nat×Nat)}{kvs:List (List Key×V)}(h:jH H d g ls n)(hd:H d=some (.dT kvs))(hq:aU kvs (kC c)=some (.ref q))(hz:H q=some (.lst zs))(hc:bq H (g c) zs)
  (e1:g' c=g c++[o]) (e2:∀x,x≠c->g' x=g x) (jW:H' q=some (.lst (zs++[u]))) (hu:nG H' o u) (k:∀b x,b≠q->H b=some x->H' b=some x):jH H' d g' ls n:=by
 obtain⟨adq,iW,hl,h1,h2,h3⟩:=h.ex
 rw[hd] at iW
 cases iW
 have kt:∀b o,H b=some (.tup o)->H' b=some (.tup o):=λb o e=>k b _ (λz=>by rw[z,hz] at e;cases e) e
 have hgc:g c≠[]:=λz=>by rw[h1 c z] at hq;cases hq
 refine⟨_,k d _ (λz=>by rw[z,hz] at hd;cases hd) hd,hl,λx hx=>?_,λx hx=>?_,h3⟩
 .by_cases z:x=c
  .rw[z,e1] at hx
   simp at hx
  .exact h1 x (by rw[<-e2 x z];exact hx)
 .by_cases z:x=c
  .subst z
   obtain⟨q',QY,a,b,e,f⟩:=h2 x hgc
   rw[hq] at a
   cases a
   refine⟨q,zs++[u],hq,b,jW,?_⟩
   rw[e1]
   exact wC (hc.lists kt) (.cons hu .nil)
  .rw[e2 x z] at hx ⊢
   obtain⟨q',QY,a,b,e,f⟩:=h2 x hx
   refine⟨q',QY,a,b,k q' _ (λw=>?_) e,f.lists kt⟩
   subst w
   exact z (h3 x c q' a hq)
noncomputable def gP(R:List (List C2))(i j:Nat)(c:C2):List (Nat×Nat):=((List.range i).flatMap λi=>((List.range (ai R i).length).filter λk=>decide ((ai R i)[k]? = some c)).map λk=>(i,k))++((List.range j).filter λk=>decide ((ai R i)[k]? = some c)).map λk=>(i,k)
theorem QZ(h:(ai R i)[j]? = some c):gP R i (j+1) c=gP R i j c++[(i,j)]:=by
 unfold gP
 rw[nV,ie,eW,pZ]
 simp[h]
theorem Q0{x:C2}(h:(ai R i)[j]? = some c)(n:x≠c):gP R i (j+1) x=gP R i j x:=by
 unfold gP
 rw[nV,ie,eW]
 simp[h,bo n]
theorem ads(R:List (List C2))(i:Nat)(c:C2):gP R (i+1) 0 c=gP R i (ai R i).length c:=by
 unfold gP
 rw[nV,LU]
 simp
theorem adt(R:List (List C2))(c:C2):gP R R.length 0 c=dh R c:=by
 unfold gP dh
 simp
theorem Q1{R:List (List C2)}(h9:∀i,(ai R i).length<=9)(c:C2):∀i,((List.range i).flatMap λi=>((List.range (ai R i).length).filter λk=>decide ((ai R i)[k]? = some c)).map λk=>(i,k)).length<=9*i
 |0=>by simp
 |i+1=>by
  have ih:=Q1 h9 c i
  rw[nV,LU,di]
  have e:=fY (λk=>decide ((ai R i)[k]? = some c)) (List.range (ai R i).length)
  rw[mS] at e
  have:=h9 i
  simp only[List.flatMap_cons,List.flatMap_nil,eV,aw]
  lia
theorem adu(h9:∀i,(ai R i).length<=9)(i j:Nat)(c:C2):(gP R i j c).length<=9*i+j:=by
 have h1:=Q1 h9 c i
 have e:=fY (λk=>decide ((ai R i)[k]? = some c)) (List.range j)
 rw[mS] at e
 unfold gP
 rw[di,aw]
 lia
theorem adv(R:List (List C2))(c:C2):gP R 0 0 c=[]:=rfl
theorem Q2(A:List α)(p:α->Bool)(d:α):((List.range A.length).filter λk=>p (A.getD k d)).map (λk=>A.getD k d)=A.filter p:=by
 have e:(List.range A.length).map (λk=>A.getD k d)=A:=by
  apply jP
  intro i
  rw[bw]
  by_cases h:i<A.length
  .rw[rM h,bf h,jd,bQ,bf h,qc]
  .rw[cZ (by simpa using h),cZ (by simpa using h)]
   rfl
 have:=AJ (f:=λk=>A.getD k d) (p:=p) (l:=List.range A.length)
 rw[e] at this
 rw[this]
 rfl
theorem Q3{α β γ:Type}{S:β->γ->Prop}{g:α->β}:∀{l:List α}{m:List γ},Paired (λa y=>S (g a) y) l m->Paired S (l.map g) m
 |_,_,.nil=>.nil
 |_,_,.cons h t=>.cons h (Q3 t)
theorem adw{p:Nat×Nat->Bool}{vs:List V}(h:bq H A us)(pr:Paired (λk y=>us[k]? = some y) ((List.range us.length).filter λk=>p (A.getD k (0,0))) vs):bq H (A.filter p) vs:=by
 rw[<-Q2 A p (0,0)]
 have hl:=h.length
 rw[hl]
 refine Q3 (Paired.bU pr λk y e=>?_)
 obtain⟨o,ho,hc⟩:=Paired.get h e
 rw[bQ,ho]
 exact hc
theorem adx(G:GoodR R){k:Nat}(h:(ai R pl)[k]? = some c):(dh R c).length<=2:=by
 obtain⟨p,e,_⟩:=CT G h
 have e1:(dh R c).countP (λp=>!decide (p.1=pl))=1:=by
  rw[List.countP_eq_length_filter]
  show(wx R pl c).length=1
  rw[e]
  rfl
 have e2:(dh R c).countP (λp=>decide (p.1=pl))<=1:=by
  rw[List.countP_eq_length_filter]
  have nd:=(Iq R c).filter (λp=>decide (p.1=pl))
  have u:∀y∈(dh R c).filter (λp=>decide (p.1=pl)),y=(pl,k):=λy my=>by
   obtain⟨m1,m2⟩:=cq.mp my
   have hy:=qU.mp m1
   have h1:y.1=pl:=fG m2
   rw[h1] at hy
   have h2:y.2=k:=(List.getElem?_inj (mF hy).2 (G.nd pl)).mp (hy.trans h.symm)
   exact rQ h1 h2
  cases hl:(dh R c).filter (λp=>decide (p.1=pl)) with
  |nil=>exact bG _
  |cons a r=>
   have m:(pl,k)∈(dh R c).filter (λp=>decide (p.1=pl)):=by
    rw[<-u a (by rw[hl];exact bz),hl]
    exact bz
   rw[<-hl,QL nd m u]
   exact aO _
 have:=List.length_eq_countP_add_countP (l:=dh R c) (λp=>decide (p.1=pl))
 have e3:(dh R c).countP (λa=>decide ¬(decide (a.1=pl))=true)=(dh R c).countP (λp=>!decide (p.1=pl)):=by
  congr 1
  funext a
  by_cases z:a.1=pl <;> simp[z]
 rw[e3] at this
 lia
section
variable{w:World}
def Q4(K:Frag):Sp:=λvs H Q _=>∃(d t:Addr) (R:List (List C2)) (pl:Nat) (ys:List V) (ls:List Addr),vs=[.ref d,.int pl,.ref t]/\(∃n,jH H d (dh R) ls n)/\H t=some (.tup ys)/\bq H (ai R pl) ys/\pl<R.length/\GoodR R/\(ai R pl).length<=9/\
 ∀p zs H',H p=none->af H H'->H' p=some (.lst zs)->bq H' (lu R pl) zs->Q (.ref p) H'
theorem IB:bh ["through","place","cells","crossings","cell"] ["through","place","cells"] (aN (top 48)):={}
theorem ady(F:aW K "crossings_on" "crossings_on" (top 48) f fd):aK P w K mg base aP 1 f fd ["through","place","cells"] (Q4 K):=by
 refine F.bE IB λaE A outer s H vs Q E hr h=>?_
 refine hide λG_ aD=>?_
 obtain⟨d,t,R,pl,ys,ls,rfl,hD,ht,hC,hpl,G,h9,q⟩:=h
 refine aD.k ?_
 have dF:=ke hr
 refine⟨_,(aq (aH 3 IB.nd (du ag))
  (aq (cD (A0 (pv 2)) (bI 4 IB.nd)
  (au (d6 (fq iQ PySem.F.slot_list_extend PySem.F.type_list_extend WH (pv 3) (ae (iS (js:=[1]) (ns:=["place"]) (dJ (Fp dF (pv 0) (pv 4) (λ_ _=>rfl))) rfl rfl rfl rfl (λ_ _ _ _=>(lZ (bO jm (Bz (K:=K) (rr:=Bi) rfl bV (pv 0) aF) (pv 1)))) (λ_ _ _ _=>(pv 0))) ag)))))
  (au (aS (pv 3))))),?_⟩
 try dsimp only[bt]
 refine hide λG_ aX=>?_
 obtain⟨nn,hD⟩:=hD
 obtain⟨kvs,hd,mh,mj,CY,adz⟩:=hD.ex
 refine aX.k ?_
 have sM:=hC.length
 refine⟨bG _,λp hp=>?_⟩
 have s0:af H (upd H p (.lst [])):=af.upd hp
 refine⟨_,rfl,t,rfl,⟨_,ak.of (s0 _ _ ht)⟩,?_⟩
 refine Vy (K:=K) (xs:=ys) (λi O H2=>∃v4 zs,O=[some (.ref d),some (.int (pl:Int)),some (.ref t),some (.ref p),v4]/\af H H2/\H2 p=some (.lst zs)/\bq H2 (((ai R pl).take i).flatMap (wx R pl)) zs/\zs.length<=i)
  ⟨none,[],rfl,s0,ao,.nil,aO _⟩ ?_ ?_ ?_
 .rintro i O H2 _ ⟨v4,zs,rfl,s2,_⟩
  exact ak.of (s2 _ _ ht)
 .intro i x O H2 hx adA
  refine hide λG_ bK=>?_
  obtain⟨v4,zs,rfl,s2,gk,hz,IC⟩:=adA
  obtain⟨c,hc,b,rfl,hb⟩:=Paired.get hC hx
  have hi:=(bY.mp hx).1
  have oz:H2 b=some (.tup ((kC c).map kV)):=s2 _ _ hb
  have qi:dh R c≠[]:=λz=>by
   have:=qU (p:=(pl,i)).mpr hc
   rw[z] at this
   cases this
  obtain⟨qa,us,adB,hql,kl,yr⟩:=CY c qi
  refine bK.k ?_
  have ID:=yr.length
  have h2:=adx G hc
  have hg:dY H2 d (.ref b) (some (.ref qa)):=by rw[<-adB];exact dY.t (s2 _ _ hd) oz
  have Q5:=s2 _ _ kl
  refine⟨_,rfl,.inl ⟨rfl,_,aj.of gk⟩,_,rfl,_,rfl,d,.ref qa,rfl,hg,qa,rfl,⟨_,aj.of Q5⟩,?_⟩
  refine lh (kg (K:=K) (xs:=us)) (by lia) (λk=>!decide (((dh R c).getD k (0,0)).1=pl)) (λ_ k y _=>us[k]? = some y) (λH3 s3=>aj.of (s3 _ _ Q5)) (λ_ _ _ _ _ _ _ _ h=>h) ?_ ?_
  .intro D k y H3 Z0 Z hD hy s3 _ k0 k1
   obtain⟨o,ho,ob,rfl,ki⟩:=Paired.get yr hy
   have adC:=s3 _ _ (s2 _ _ ki)
   have Q6:(dh R c).getD k (0,0)=o:=by rw[bQ,ho];rfl
   refine⟨_,rfl,ob,_,0,.int (o.1:Int),rfl,rfl,ak.of adC,rfl,_,rfl,rfl,_,rfl,?_⟩
   by_cases z:o.1=pl
   .rw[aJ (by rw[z])]
    exact aQ (k0 _ (af.cx _) (by show(!decide _)=false;rw[Q6,aJ z];rfl))
   .rw[aI (λy=>z (by injection y with y;lia))]
    exact bp ⟨_,rfl,k1 _ _ (af.cx _) (by show(!decide _)=true;rw[Q6,aI z];rfl) hy⟩
  .intro D vs H3 hD bD s3 pr
   have Q7:af H H3:=s2.trans s3
   have CZ:bq H3 (wx R pl c) vs:=by
    have e:=adw (A:=dh R c) (p:=λo=>!decide (o.1=pl)) (bq.mono Q7 yr) pr
    exact e
   have IE:=CZ.length
   obtain⟨o1,eo,_⟩:=CT G hc
   rw[eo] at IE
   have IE:vs.length=1:=IE.symm
   have lD:=s3 _ _ gk
   have nD:D≠p:=λz=>by rw[z,gk] at hD;cases hD
   refine⟨p,D,zs,vs,rfl,rfl,lD,bD,Ax (lj (by lia)),?_⟩
   have hn:H p=none:=hp
   have sU:af H (upd H3 p (.lst (zs++vs))):=λb o e=>by rw[ar (bC e hn)];exact Q7 _ _ e
   refine⟨_,zs++vs,rfl,sU,ao,?_,by rw[di];lia⟩
   have tk:(ai R pl).take (i+1)=(ai R pl).take i++[c]:=by rw[eJ,hc];rfl
   rw[tk,LU]
   refine wC (bq.off ⟨_,lD⟩ (λb o hb e=>by rw[ar hb];exact e) (bq.mono s3 hz)) ?_
   simpa using bq.off ⟨_,lD⟩ (λb o hb e=>by rw[ar hb];exact e) CZ
 .intro O H2 adD
  refine hide λG_ cJ=>?_
  obtain⟨v4,zs,rfl,s2,gk,hz,IC⟩:=adD
  refine cJ.k ?_
  rw[fg (by lia)] at hz
  exact⟨_,rfl,q p zs H2 hp s2 gk hz⟩
def Q8(K:Frag):Sp:=λvs H Q _=>∃(a:Addr) (R:List (List C2)) (xs:List V),vs=[.ref a]/\H a=some (.lst xs)/\Paired (lC H) R xs/\GoodR R/\R.length<=162/\(∀i,(ai R i).length<=9)/\
 ∀p zs H',H p=none->af H H'->H' p=some (.lst zs)->Paired (λi x=>∃q us,x = .ref q/\H q=none/\H' q=some (.lst us)/\bq H' (lu R i) us) (List.range R.length) zs->Q (.ref p) H'
theorem wD:bh ["rows","through","place","cells","at","cell"] ["rows"] (aN (top 47)):={}
theorem adE(B:Bl mg)(F:aW K "crossings_of" "crossings_of" (top 47) f fd)(adF:Fn P w K mg base "crossings_on" 1 (Q4 K)):aK P w K mg base aP 2 f fd ["rows"] (Q8 K):=by
 refine F.bE wD λaE A outer s H vs Q E hr h=>?_
 refine hide λG_ aD=>?_
 obtain⟨a,R,xs,rfl,ha,hR,G,kH,h9,q⟩:=h
 refine aD.k ?_
 have dF:=ke hr
 refine⟨_,(aq (aH 1 wD.nd M7)
  (aq (cD (Gi (by rfl) B.yW (ae (pv 0) ag)) (kT rfl (eC (bI 2 wD.nd) (eC (bI 3 wD.nd) kR)))
  (au (cD (Y7 (by rfl) B.yW (ae (pv 3) ag)) (kT rfl (eC (bI 4 wD.nd) (eC (bI 5 wD.nd) kR)))
   (au (d6 (fq iQ jf jg gS (ZP dF (pv 1) (pv 5) (du ag) ⟨rfl,rfl,rfl,rfl⟩) (ae (fm (ae (pv 2) (ae (pv 4) ag))) ag (hs:=dN rfl))))))))
  (au (aS (Nz (js:=[1]) (ns:=["through"]) (Gi (by rfl) B.yW (ae (pv 0) ag)) rfl rfl rfl rfl (λ_ _ _ _=>lg) (λ_ _ _ _=>(aR adF hr (ae (pv 2) (ae (pv 0) (ae (pv 1) ag)))))))))),?_⟩
 try dsimp only[bt]
 intro d iW
 have fC:af H (upd H d (.dT [])):=af.upd iW
 have t0:jH (upd H d (.dT [])) d (gP R 0 0) [] 0:=⟨[],ao,aO _,λ_ _=>rfl,λc hc=>absurd (adv R c) hc,λc c' q h=>by cases h⟩
 generalize upd H d (.dT [])=H0 at fC t0
 have fD:=hR.length
 refine⟨_,rfl,a,xs,rfl,aj.of (fC _ _ ha),?_⟩
 refine Od (K:=K) (xs:=xs) (λi O H2=>∃v2 v3 v4 v5 ls n,O=[some (.ref a),some (.ref d),v2,v3,v4,v5]/\af H H2/\(∀q∈ls,H q=none)/\n<=9*i/\jH H2 d (gP R i 0) ls n)
  ⟨none,none,none,none,[],0,rfl,fC,(λ_ m=>nomatch m),aO _,t0⟩ ?_ ?_ ?_
 .rintro i O H2 _ ⟨v2,v3,v4,v5,ls,n,rfl,s2,_⟩
  exact aj.of (s2 _ _ ha)
 .intro i x pt O H2 hx adG hpt
  refine hide λG_ aX=>?_
  obtain⟨v2,v3,v4,v5,ls,n,rfl,s2,qX,hn,T2⟩:=adG
  obtain⟨row,hq,t,ys,rfl,ht,mw⟩:=Paired.get hR hx
  refine aX.k ?_
  have hi:i<R.length:=by rw[fD];exact(bY.mp hx).1
  have nM:ai R i=row:=by unfold ai;rw[bQ,hq];rfl
  have sM:=mw.length
  have h9i:=h9 i
  rw[nM] at h9i
  have su:af H2 (upd H2 pt (.tup [.int i,.ref t])):=af.upd hpt
  refine⟨pt,_,rfl,ak.of ao,rfl,_,_,rfl,_,_,rfl,rfl,?_⟩
  have yC:=s2.trans su
  have Q9:=T2.mono su
  generalize upd H2 pt (.tup [.int i,.ref t])=H3 at su yC Q9
  refine⟨_,rfl,t,ys,rfl,ak.of (yC _ _ ht),?_⟩
  refine Y9 (K:=K) (xs:=ys) (λj O H4=>∃v4 v5 ls n,O=[some (.ref a),some (.ref d),some (.int (i:Int)),some (.ref t),v4,v5]/\af H H4/\(∀q∈ls,H q=none)/\n<=9*i+j/\jH H4 d (gP R i j) ls n)
   ⟨v4,v5,ls,n,rfl,yC,qX,hn,Q9⟩ ?_ ?_ ?_
  .rintro j O H4 _ ⟨v4,v5,ls,n,rfl,s4,_⟩
   exact ak.of (s4 _ _ ht)
  .intro j y pu O H4 hy adH hpu
   refine hide λG_ bK=>?_
   obtain⟨v4,v5,ls,n,rfl,s4,qX,hn,T4⟩:=adH
   obtain⟨c,hc,b,rfl,hb⟩:=Paired.get mw hy
   refine bK.k ?_
   have hj:j<ys.length:=(bY.mp hy).1
   have C1:(ai R i)[j]? = some c:=by rw[nM];exact hc
   have sv:af H4 (upd H4 pu (.tup [.int j,.ref b])):=af.upd hpu
   refine⟨pu,_,rfl,ak.of ao,rfl,_,_,rfl,_,_,rfl,rfl,?_⟩
   have s5:=s4.trans sv
   have T5:=T4.mono sv
   generalize upd H4 pu (.tup [.int j,.ref b])=H5 at sv s5 T5
   refine hide λG_ cJ=>?_
   obtain⟨kvs,wF,mh,mj,CY,adz⟩:=id T5.ex
   refine cJ.k ?_
   have IF:H5 b=some (.tup ((kC c).map kV)):=s5 _ _ hb
   refine⟨_,rfl,d,rfl,.inr ⟨kvs,.inl wF⟩,_,rfl,bG _,λp0 fV=>?_⟩
   have s6:af H5 (upd H5 p0 (.lst [])):=af.upd fV
   refine⟨kvs,kC c,b,s6 _ _ wF,rfl,s6 _ _ IF,lj (by lia),λv hv=>?_,λhv=>?_⟩
   .have hg:gP R i j c≠[]:=λz=>by rw[mj c z] at hv;cases hv
    refine hide λG_ eT=>?_
    obtain⟨qa,zs,qR,Io,zM,Ra⟩:=CY c hg
    refine eT.k ?_
    rw[qR] at hv
    cases hv
    have IC:=Ra.length
    have Rb:=adu h9 i j c
    have T6:=T5.mono s6
    refine⟨.inl ⟨rfl,_,aj.of (s6 _ _ zM)⟩,_,rfl,_,rfl,(show 2<=sizeLine by decide),λu hu=>?_⟩
    have s7:af (upd H5 p0 (.lst [])) (upd (upd H5 p0 (.lst [])) u (.tup [.int (i:Int),.int (j:Int)])):=af.upd hu
    have C3:upd (upd H5 p0 (.lst [])) u (.tup [.int (i:Int),.int (j:Int)]) u=some (.tup [.int (i:Int),.int (j:Int)]):=ao
    have T7:=T6.mono s7
    have zN:=s6.trans s7
    generalize upd (upd H5 p0 (.lst [])) u (.tup [.int (i:Int),.int (j:Int)])=H7 at s7 T7 zN C3
    have IG:=zN _ _ zM
    have nu:u≠qa:=λz=>by rw[z,IG] at C3;cases C3
    refine⟨qa,zs,_,rfl,rfl,IG,lj (by lia),?_⟩
    have wG:=qX qa Io
    refine⟨_,_,ls,n,rfl,λb o e=>?_,qX,by lia,T7.more (zN _ _ wF) qR IG (Ra.mono zN) (QZ C1) (λx z=>Q0 C1 z) ao ⟨u,rfl,by rw[ar nu];exact C3⟩ λb o hb e=>by rw[ar hb];exact e⟩
    rw[ar (bC e wG)]
    exact zN _ _ (s5 _ _ e)
   .have hg:gP R i j c=[]:=UM λz=>by
     obtain⟨qa,zs,qR,_⟩:=CY c z
     rw[qR] at hv
     cases hv
    have Rc:d≠p0:=λz=>by rw[z,fV] at wF;cases wF
    have Rf:H p0=none:=by
     cases e:H p0 with
     |none=>rfl
     |some o=>rw[s5 _ _ e] at fV;cases fV
    have IH:upd (upd H5 p0 (.lst [])) d (.dT (putK kvs (kC c) (.ref p0))) p0=some (.lst []):=by rw[ar (bo Rc)];exact ao
    refine⟨.inl ⟨rfl,_,aj.of IH⟩,_,rfl,_,rfl,(show 2<=sizeLine by decide),λu hu=>?_⟩
    have Rg:u≠p0:=λz=>by rw[z,IH] at hu;cases hu
    have nud:u≠d:=λz=>by rw[z,ao] at hu;cases hu
    refine⟨p0,[],_,rfl,rfl,by rw[ar (bo Rg)];exact IH,lj (by simp),?_⟩
    refine⟨_,_,p0::ls,n+1,rfl,λb o e=>?_,λx m=>?_,by lia,T5.fresh wF fV hg (by rw[QZ C1,hg];rfl) (λx z=>Q0 C1 z) ?_ ao ⟨u,rfl,?_⟩ λb o h1 h2 e=>?_⟩
    .have e5:=s5 _ _ e
     have II:b≠d:=bC e iW
     have wH:b≠p0:=bC e Rf
     have IJ:b≠u:=λz=>by
      rw[z] at e5 II wH
      rw[ar II,ar wH,e5] at hu
      cases hu
     rw[ar wH,ar IJ,ar II,ar wH]
     exact e5
    .rcases cw.mp m with z | z
     .rw[z];exact Rf
     .exact qX x z
    .rw[ar Rc,ar (bo nud),ao]
    .rw[ar Rg,ao]
    .have IJ:b≠u:=λz=>by
      rw[z] at e h1 h2
      rw[ar h1,ar h2,e] at hu
      cases hu
     rw[ar h2,ar IJ,ar h1,ar h2]
     exact e
  .intro O H4 adI
   refine hide λG_ pw=>?_
   obtain⟨v4,v5,ls,n,rfl,s4,qX,hn,T4⟩:=adI
   refine pw.k ?_
   refine⟨_,_,_,_,ls,n,rfl,s4,qX,by lia,?_⟩
   have eg:gP R (i+1) 0=gP R i ys.length:=by
    funext c
    rw[ads,nM,sM]
   rw[eg]
   exact T4
 .intro O H2 adJ
  refine hide λG_ pA=>?_
  obtain⟨v2,v3,v4,v5,ls,n,rfl,s2,qX,hn,T2⟩:=adJ
  refine pA.k ?_
  rw[<-fD] at T2
  have T3:jH H2 d (dh R) ls n:=by
   have eg:gP R R.length 0=dh R:=funext λc=>adt R c
   rw[<-eg]
   exact T2
  refine⟨_,rfl,a,xs,rfl,aj.of (s2 _ _ ha),?_⟩
  refine Zb (by lia) (aj.of (s2 _ _ ha)) (λ_=>true) (λD i y H5=>∃qa us,y = .ref qa/\qa≠D/\H qa=none/\H5 qa=some (.lst us)/\bq H5 (lu R i) us) ?_ ?_ ?_
  .intro D i y Ha Hb hD ho k adK
   refine hide λG_ HW=>?_
   obtain⟨qa,us,rfl,n1,n2,n3,n4⟩:=adK
   refine HW.k ?_
   exact⟨qa,us,rfl,n1,n2,k _ _ n1 n3,n4.off ho k⟩
  .intro D i x H5 Z0 Z hD hx s5 ho k0 k1
   refine hide λG_ k9_=>?_
   obtain⟨row,hq,t,ys,rfl,ht,mw⟩:=Paired.get hR hx
   refine k9_.k ?_
   have hi:i<R.length:=by rw[fD];exact(bY.mp hx).1
   have nM:ai R i=row:=by unfold ai;rw[bQ,hq];rfl
   have IK:=s2.trans s5
   refine bp (B:=Z0 H5) ⟨_,rfl,_,rfl,_,rfl,d,t,R,i,ys,ls,rfl,⟨n,T3.mono s5⟩,IK _ _ ht,by rw[nM];exact mw.mono IK,hi,G,h9 i,λqa us H6 wG s6 hqs hqc=>?_⟩
   obtain⟨o,ho⟩:=ho
   refine k1 _ _ s6 rfl ⟨qa,us,rfl,(λz=>by rw[z,ho] at wG;cases wG),?_,hqs,hqc⟩
   cases e:H qa with
   |none=>rfl
   |some o'=>rw[IK _ _ e] at wG;cases wG
  .intro D zs H5 hD bD s5 pr
   refine q D zs H5 ?_ (s2.trans s5) bD ?_
   .cases e:H D with
    |none=>rfl
    |some o'=>rw[s2 _ _ e] at hD;cases hD
   .rw[List.filter_eq_self.mpr (λ_ _=>rfl)] at pr
    rw[fD]
    exact Paired.bU pr λi y h=>let ⟨qa,us,e1,_,e3,e4,e5⟩:=h;⟨qa,us,e1,e3,e4,e5⟩
end
noncomputable def gD(sh ce cr wo kn:V):List (Str×V):=bc "known" kn (bc "worths" wo (bc "crossings" cr (bc "cells" ce (bc "sheet" sh []))))
theorem C4(sh ce cr wo kn:V):(gD sh ce cr wo kn).lookup ("known":Str)=some kn:=by
 unfold gD
 rw[dm,az rfl]
theorem adL(sh ce cr wo kn:V):(gD sh ce cr wo kn).lookup ("crossings":Str)=some cr:=by
 unfold gD
 rw[dm,av (by decide +kernel),dm,av (by decide +kernel),dm,az rfl]
theorem Rh(sh ce cr wo kn:V):(gD sh ce cr wo kn).lookup ("cells":Str)=some ce:=by
 unfold gD
 rw[dm,av (by decide +kernel),dm,av (by decide +kernel),dm,av (by decide +kernel),dm,az rfl]
theorem adM(sh ce cr wo kn:V):(gD sh ce cr wo kn).lookup ("sheet":Str)=some sh:=by
 unfold gD
 rw[dm,av (by decide +kernel),dm,av (by decide +kernel),dm,av (by decide +kernel),dm,av (by decide +kernel),dm,az rfl]
def g9(Z:Addr->Prop)(H:Hp)(ks:List Str)(wf:Str->Int)(t:Str)(v:V):Prop := ∃q ws,v = .ref q/\Z q/\H q=some (.lst (ws.map V.str))/\mH ks wf t ws/\ws.length<=64
structure iG(Z:Addr->Prop)(M:Str->Prop)(H:Hp)(ks:List Str)(wf:Str->Int)(kvs:List (Key×V)):Prop where
 nd:(kvs.map (·.1)).Nodup
 key:∀k∈kvs.map (·.1),∃x,k=Sum.inr x/\M x
 fit:∀x v,aU kvs (Sum.inr x:Key)=some v->g9 Z H ks wf x v
def C5(M:Str->Prop):Prop := ∀l:List Key,l.Nodup->(∀k∈l,∃x,k=Sum.inr x/\M x)->l.length<sizeLine
theorem g9.keep{t:Str}(k:∀b o,H b=some (.lst o)->Z b->H' b=some (.lst o))(h:g9 Z H ks wf t v):g9 Z H' ks wf t v:=let ⟨q,ws,e,z,a,b,c⟩:=h;⟨q,ws,e,z,k _ _ a z,b,c⟩
theorem adN{k:Key}(h:aU kvs k=none):k∉kvs.map (·.1):=by
 induction kvs with
 |nil=>simp
 |cons p r ih=>
  obtain⟨k',v⟩:=p
  intro m
  unfold aU at h ih
  by_cases z:k'=k
  .simp[uE,z] at h
  .simp only[uE,aI z] at h
   rcases cw.mp m with w | w
   .exact z w.symm
   .exact ih h w
theorem Ri(p:Str->Bool):((List.range ws.length).filter λk=>p (ws.getD k ⟨#[]⟩)).map (λk=>V.str (ws.getD k ⟨#[]⟩))=(ws.filter p).map V.str:=by
 rw[<-Q2 ws p ⟨#[]⟩,kO]
 rfl
section
variable{w:World}
def Rj(K:Frag)(C:Addr):Sp:=λvs H Q _=>∃(g dx l kn:Addr) (sh ce cr wo:V) (ws ks:List Str) (wf:Str->Int) (t:Str) (a ch:Nat) (kvs:List (Key×V)) (Z:Addr->Prop) (M:Str->Prop),vs=[.ref g,.ref l,.str (bJ t a ch),.int (a:Int)]/\H g=some (.ins C dx (gD sh ce cr wo (.ref kn)))/\H kn=some (.dK kvs)/\iG Z M H ks wf kvs/\C5 M/\
 H l=some (.lst (ws.map V.str))/\mH ks wf t ws/\ws.length<=64/\a<t.length/\t.length<=1000/\t.cps.toList.getD a 0=46/\ch≠46/\M (bJ t a ch)/\(∀q,H q=none->Z q)/\
 ∀H' wI v,(∀b o,b≠kn->H b=some o->H' b=some o)->H' kn=some (.dK wI)->iG Z M H' ks wf wI->g9 Z H' ks wf (bJ t a ch) v->Q v H'
theorem adO:bh ["self","words","signs","at"] ["self","words","signs","at"] (aN (inClass (top 44) 1)):={}
theorem adP(F:aW K "narrowed" "Ground.narrowed" (inClass (top 44) 1) f fd)(T:de K C)(nk:bW K C "known"):aK P w K mg base aP 1 f fd ["self","words","signs","at"] (Rj K C):=by
 refine F.bE adO λaE A outer s H vs Q E hr h=>?_
 refine hide λG_ aD=>?_
 obtain⟨g,dx,l,kn,sh,ce,cr,wo,ws,ks,wf,t,a,ch,kvs,Z,M,rfl,hg,hk,hK,hM,hl,hF,fA,ha,ht,cQ,hch,hm,hZ,q⟩:=h
 refine aD.k ?_
 have dF:=ke hr
 refine⟨_,(aq (bH (xT (M6 dF (pv 2) (dC (pv 0) rfl)))
  (au (yi dF (dC (pv 0) rfl) (pv 2) (iS (js:=[3,2]) (ns:=["at","signs"]) (dJ (pv 1)) rfl rfl rfl rfl (λ_ _ _ _=>(lZ (bO mY (aV iq (pv 0) (pv 1)) (aV iq (pv 2) (pv 1))))) (λ_ _ _ _=>(pv 0))) rfl))
  bN)
  (au (aS (Fp dF (dC (pv 0) rfl) (pv 2) (λ_ _=>rfl))))),?_⟩
 try dsimp only[bt]
 refine⟨_,rfl,_,rfl,g,C,dx,_,_,rfl,hg,T,nk,C4 ..,kn,_,rfl,dY.k (k:=Sum.inr (bJ t a ch)) hk,_,rfl,?_⟩
 cases hv:aU kvs (Sum.inr (bJ t a ch):Key) with
 |some v=>exact aQ ⟨_,rfl,g,C,dx,_,_,rfl,hg,T,nk,C4 ..,_,rfl,kn,v,rfl,hv ▸ dY.k (k:=Sum.inr (bJ t a ch)) hk,q H kvs v (λ_ _ _ e=>e) hk hK (hK.fit _ _ hv)⟩
 |none=>
  refine bp ⟨_,rfl,l,rfl,⟨_,aj.of hl⟩,?_⟩
  have mf:(bJ t a ch).length=t.length:=yT ha
  have hsa:(bJ t a ch).cps.toList[a]? = some ch:=by
   have h1:=CU (x:=t) (j:=a) (ch:=ch) (k:=a) ha ha
   rw[az rfl,bQ] at h1
   have h2:a<(bJ t a ch).cps.toList.length:=by show a<(bJ t a ch).cps.size;exact(show a<(bJ t a ch).length from by lia)
   rw[bf h2] at h1 ⊢
   exact fc some h1
  refine lh (kg (K:=K) (xs:=ws.map V.str)) (by rw[aw];lia) (λk=>decide ((ws.getD k ⟨#[]⟩).cps.toList.getD a 0=ch)) (λ_ k y _=>y = .str (ws.getD k ⟨#[]⟩)) (λH3 s3=>aj.of (s3 _ _ hl)) (λ_ _ _ _ _ _ _ _ h=>h) ?_ ?_
  .intro D k y H3 Z0 Z' hD hy s3 _ k0 k1
   rw[bw] at hy
   obtain⟨x,hx,rfl⟩:=iO.mp hy
   have pI:ws.getD k ⟨#[]⟩=x:=by rw[bQ,hx];rfl
   have Rk:=((hF.mem x).mp (bj hx)).2
   have fD:=(i5.mp Rk).1
   obtain⟨c,hc⟩:∃c,x.cps.toList[a]? = some c:=⟨_,bf (show a<x.cps.toList.length from by show a<x.cps.size;exact(show a<x.length from by lia))⟩
   refine⟨_,rfl,_,rfl,x,_,c,rfl,rfl,d8 (by lia),dz hc,_,rfl,_,rfl,_,_,ch,rfl,rfl,d8 (by lia),dz hsa,rfl,_,rfl,?_⟩
   rw[tS]
   by_cases z:c=ch
   .rw[aJ z]
    exact bp ⟨_,rfl,k1 _ _ (af.cx _) (by show decide _=true;rw[pI,bQ,hc];exact aJ z) (by rw[pI])⟩
   .rw[aI z]
    exact aQ (k0 _ (af.cx _) (by show decide _=false;rw[pI,bQ,hc];exact aI z))
  .intro D ys H3 hD bD s3 pr
   have e:=Ck pr
   rw[aw,Ri (λx=>decide (x.cps.toList.getD a 0=ch))] at e
   subst e
   have dS:=s3 _ _ hk
   have nkD:D≠kn:=λz=>by rw[z,hk] at hD;cases hD
   refine⟨_,rfl,g,C,dx,_,_,rfl,s3 _ _ hg,T,nk,C4 ..,_,rfl,kn,_,rfl,lX.k (k:=Sum.inr (bJ t a ch)) dS ?_,?_⟩
   .have:=hM (kvs.map (·.1)) hK.nd hK.key
    rw[aw] at this
    exact this
   have hg4:upd H3 kn (.dK (putK kvs (Sum.inr (bJ t a ch)) (.ref D))) g=some (.ins C dx (gD sh ce cr wo (.ref kn))):=by
    rw[ar (λz=>by rw[z,hk] at hg;cases hg)]
    exact s3 _ _ hg
   have nw:=hF.narrow ha cQ hch
   have dB:g9 Z (upd H3 kn (.dK (putK kvs (Sum.inr (bJ t a ch)) (.ref D)))) ks wf (bJ t a ch) (.ref D):=⟨D,_,rfl,hZ D hD,by rw[ar nkD];exact bD,nw,bF (fY _ _) fA⟩
   refine⟨_,rfl,g,C,dx,_,_,rfl,hg4,T,nk,C4 ..,_,rfl,kn,.ref D,rfl,?_,q _ (putK kvs (Sum.inr (bJ t a ch)) (.ref D)) (.ref D) (λb o hb e=>by rw[ar hb];exact s3 _ _ e) ao ⟨?_,?_,λx v hx=>?_⟩ dB⟩
   .have e2:aU (putK kvs (Sum.inr (bJ t a ch):Key) (.ref D)) (Sum.inr (bJ t a ch))=some (.ref D):=by rw[oi,az rfl]
    exact e2 ▸ dY.k (k:=Sum.inr (bJ t a ch)) ao
   .rw[vn _ hv,eW]
    refine qe.mpr ⟨hK.nd,by simp,λx mx y my z=>?_⟩
    have e3:y=Sum.inr (bJ t a ch):=by simpa using my
    rw[z,e3] at mx
    exact adN hv mx
   .rw[vn _ hv,eW]
    intro k mk
    rcases cS.mp mk with z | z
    .exact hK.key k z
    .exact⟨_,by simpa using z,hm⟩
   .rw[oi] at hx
    by_cases z:(Sum.inr x:Key)=Sum.inr (bJ t a ch)
    .rw[az z] at hx
     cases hx
     injection z with z
     rw[z]
     exact dB
    .rw[av z] at hx
     refine(hK.fit x v hx).keep λb o e _=>?_
     rw[ar (λw=>by rw[w,hk] at e;cases e)]
     exact s3 _ _ e
end
noncomputable def i6(g p f:V):List (Str×V):=bc "fits" f (bc "patterns" p (bc "ground" g []))
theorem C6(g p f:V):(i6 g p f).lookup ("fits":Str)=some f:=by
 unfold i6
 rw[dm,az rfl]
theorem zO(g p f:V):(i6 g p f).lookup ("patterns":Str)=some p:=by
 unfold i6
 rw[dm,av (by decide +kernel),dm,az rfl]
theorem zP(g p f:V):(i6 g p f).lookup ("ground":Str)=some g:=by
 unfold i6
 rw[dm,av (by decide +kernel),dm,av (by decide +kernel),dm,az rfl]
section
variable{w:World}
def IL(C:Addr):Sp:=λvs H Q _=>∃(s dx:Addr) (g p f:V),vs=[.ref s,g,p,f]/\H s=some (.ins C dx [])/\∀H':Hp,H' s=some (.ins C dx (i6 g p f))->(∀b o,b≠s->H b=some o->H' b=some o)->Q .aB H'
theorem adQ:bh ["self","ground","patterns","fits"] ["self","ground","patterns","fits"] (aN (inClass (top 45) 0)):={}
theorem adR(F:aW K "__init__" "Standing.__init__" (inClass (top 45) 0) f fd)(T:de K C)(ng:bW K C "ground")(np:bW K C "patterns")(nf:bW K C "fits"):aK P w K mg base aP 1 f fd ["self","ground","patterns","fits"] (IL C):=by
 refine F.bE adQ λaE A outer s H vs Q E hr h=>?_
 refine hide λG_ aD=>?_
 obtain⟨s,dx,g,p,f,rfl,hs,q⟩:=h
 refine aD.k ?_
 refine⟨_,(aq (lP (pv 0) (pv 1) rfl)
  (aq (lP (pv 0) (pv 2) rfl)
  (au (lP (pv 0) (pv 3) rfl)))),?_⟩
 try dsimp only[bt]
 refine⟨_,rfl,_,rfl,s,C,dx,[],rfl,hs,T,ng,(by show 0<1000;decide),?_⟩
 refine⟨_,rfl,_,rfl,s,C,dx,_,rfl,ao,T,np,(by show 1<1000;decide),?_⟩
 refine⟨_,rfl,_,rfl,s,C,dx,_,rfl,ao,T,nf,(by
  have h:¬(Str.ofString "ground")=Str.ofString "patterns":=by decide +kernel
  show(bc (Str.ofString "patterns") p [(Str.ofString "ground",g)]).length<1000
  rw[bc,av h,bc]
  show 2<1000
  decide),?_⟩
 exact q _ ao λb o hb e=>by rw[ar hb,ar hb,ar hb];exact e
theorem adS(h:x∈ps):gR (.str x) (ps.map V.str)=true:=by
 unfold gR
 rw[List.any_map,uG]
 exact⟨x,h,by simp[ir]⟩
theorem adT(h:x∉ps):gR (.str x) (ps.map V.str)=false:=by
 unfold gR
 rw[List.any_map,Eg]
 intro y my z
 have z:ir (.str y) (.str x)=true:=z
 have:y=x:=by simpa[ir] using z
 exact h (this ▸ my)
theorem adU(ss:List Str)(j:Nat):lT (ss.map V.str) none (some (j:Int))=(ss.take j).map V.str:=by
 unfold lT
 rw[HT.MN,HT.MO,List.drop_zero,Nat.sub_zero,List.map_take,aw]
 rcases Nat.le_total j ss.length with h | h
 .rw[Nat.min_eq_left h]
 .rw[Nat.min_eq_right h,fg (by simp),fg (by simpa using h)]
theorem adV(ss:List Str)(j:Nat):lT (ss.map V.str) (some (j:Int)) none=(ss.drop j).map V.str:=by
 unfold lT
 rw[HT.MN,HT.MO,List.map_drop,aw]
 rcases Nat.le_total j ss.length with h | h
 .rw[Nat.min_eq_left h,fg (by simp)]
 .rw[Nat.min_eq_right h,List.drop_of_length_le (by simp),List.drop_of_length_le (by simpa using h),List.take_nil]
noncomputable def gn(ps:List Str)(pl:Nat):List Str:=ps.take pl++ps.drop (pl+1)
def IM(K:Frag)(C:Addr):Sp:=λvs H Q _=>∃(s dx p fl l:Addr) (g:V) (pats ws:List Str) (fs:List V) (pl:Nat),vs=[.ref s,.int (pl:Int)]/\H s=some (.ins C dx (i6 g (.ref p) (.ref fl)))/\H p=some (.lst (pats.map V.str))/\H fl=some (.lst fs)/\fs[pl]? = some (.ref l)/\H l=some (.lst (ws.map V.str))/\pl<pats.length/\pats.length<=200/\ws.length<=64/\
 ∀q H',H q=none->af H H'->H' q=some (.lst ((ws.filter λx=>!decide (x∈gn pats pl)).map V.str))->Q (.ref q) H'
theorem Rl:bh ["self","place","others"] ["self","place"] (aN (inClass (top 45) 3)):={}
theorem adW(F:aW K "left" "Standing.left" (inClass (top 45) 3) f fd)(T:de K C)(np:bW K C "patterns")(nf:bW K C "fits"):aK P w K mg base aP 1 f fd ["self","place"] (IM K C):=by
 refine F.bE Rl λaE A outer s H vs Q E hr h=>?_
 refine hide λG_ aD=>?_
 obtain⟨s,dx,p,fl,l,g,pats,ws,fs,pl,rfl,hs,hp,d7,Rm,hl,hpl,uf,fA,q⟩:=h
 refine aD.k ?_
 refine⟨_,(aq (aH 2 Rl.nd (bb yg (og Fb (dC (pv 0) rfl) m7 (m8 (pv 1))) (og Fb (dC (pv 0) rfl) (m8 (bb fM (pv 1) aF)) m7)))
  (au (aS (iS (js:=[2]) (ns:=["others"]) (dJ (aV gj (dC (pv 0) rfl) (pv 1))) rfl rfl rfl rfl (λ_ _ _ _=>(lZ (NL (K:=K) (rr:=λK=>yd K true) rfl vj (pv 0) (pv 1)))) (λ_ _ _ _=>(pv 0)))))),?_⟩
 try dsimp only[bt]
 have d1:pl<fs.length:=(bY.mp Rm).1
 refine⟨_,rfl,s,C,dx,_,_,rfl,hs,T,np,zO ..,_,rfl,_,rfl,p,_,rfl,aj.of hp,λq1 e1=>?_⟩
 rw[adU]
 have s1:af H (upd H q1 (.lst ((pats.take pl).map V.str))):=af.upd e1
 have h1:upd H q1 (.lst ((pats.take pl).map V.str)) q1=some (.lst ((pats.take pl).map V.str)):=ao
 generalize upd H q1 (.lst ((pats.take pl).map V.str))=H1 at s1 h1
 refine⟨_,rfl,s,C,dx,_,_,rfl,s1 _ _ hs,T,np,zO ..,_,rfl,_,_,rfl,rfl,_,rfl,p,_,rfl,aj.of (s1 _ _ hp),λq2 e2=>?_⟩
 rw[show((pl:Int)+1)=((pl+1:Nat):Int) by lia,adV]
 have s2:af H1 (upd H1 q2 (.lst ((pats.drop (pl+1)).map V.str))):=af.upd e2
 have h2:upd H1 q2 (.lst ((pats.drop (pl+1)).map V.str)) q2=some (.lst ((pats.drop (pl+1)).map V.str)):=ao
 generalize upd H1 q2 (.lst ((pats.drop (pl+1)).map V.str))=H2 at s2 h2
 refine⟨q1,q2,_,_,rfl,rfl,s2 _ _ h1,h2,Ax (lj (by rw[aw,aw,jN,Em];lia)),λq3 e3=>?_⟩
 have s3:af H2 (upd H2 q3 (.lst ((pats.take pl).map V.str++(pats.drop (pl+1)).map V.str))):=af.upd e3
 have h3:upd H2 q3 (.lst ((pats.take pl).map V.str++(pats.drop (pl+1)).map V.str)) q3=some (.lst ((gn pats pl).map V.str)):=by rw[ao];unfold gn;rw[eW]
 generalize upd H2 q3 (.lst ((pats.take pl).map V.str++(pats.drop (pl+1)).map V.str))=H3 at s3 h3
 have dH:=(s1.trans s2).trans s3
 refine⟨_,rfl,s,C,dx,_,_,rfl,dH _ _ hs,T,nf,C6 ..,_,rfl,fl,_,_,.ref l,rfl,rfl,aj.of (dH _ _ d7),dz Rm,l,rfl,⟨_,aj.of (dH _ _ hl)⟩,?_⟩
 refine lh (kg (K:=K) (xs:=ws.map V.str)) (by rw[aw];lia) (λk=>!decide (ws.getD k ⟨#[]⟩∈gn pats pl)) (λ_ k y _=>y = .str (ws.getD k ⟨#[]⟩)) (λH4 s4=>aj.of (s4 _ _ (dH _ _ hl))) (λ_ _ _ _ _ _ _ _ h=>h) ?_ ?_
 .intro D k y H4 Z0 Z' hD hy s4 _ k0 k1
  rw[bw] at hy
  obtain⟨x,hx,rfl⟩:=iO.mp hy
  have pI:ws.getD k ⟨#[]⟩=x:=by rw[bQ,hx];rfl
  have dZ:((gn pats pl).map V.str).all kY=true:=by rw[uK];exact lL.mpr λ_ _=>rfl
  refine⟨_,rfl,_,rfl,q3,_,rfl,.inl (aj.of (s4 _ _ h3)),rfl,dZ,_,rfl,?_⟩
  rw[az rfl]
  by_cases z:x∈gn pats pl
  .have e:gR (.str x) ((gn pats pl).map V.str)=true:=adS z
   rw[e]
   exact aQ (k0 _ (af.cx _) (by show(!decide _)=false;rw[pI,aJ z];rfl))
  .have e:gR (.str x) ((gn pats pl).map V.str)=false:=adT z
   rw[e]
   exact bp ⟨_,rfl,k1 _ _ (af.cx _) (by show(!decide _)=true;rw[pI,aI z];rfl) (by rw[pI])⟩
 .intro D ys H4 hD bD s4 pr
  have e:=Ck pr
  rw[aw,Ri (λx=>!decide (x∈gn pats pl))] at e
  subst e
  refine q D H4 ?_ (dH.trans s4) bD
  cases e:H D with
  |none=>rfl
  |some o=>rw[dH _ _ e] at hD;cases hD
end
theorem adX{q:Addr}(h:H q=some (.lst (ws.map V.str))):EW K (.ref q) H (!decide (ws=[])):=by
 refine Or.inl ⟨_,aj.of h,?_⟩
 cases ws <;> rfl
section
variable{w:World}
def Rn(H:Hp)(dW:List (List Str))(fs:List V):Prop:=Paired (λws v=>∃q,v=V.ref q/\H q=some (.lst (ws.map V.str))/\ws.length<=64) dW fs
def IP(C:Addr):Sp:=λvs H Q _=>∃(s dx p fl:Addr) (g:V) (pats:List Str) (dW:List (List Str)) (fs:List V),vs=[.ref s]/\H s=some (.ins C dx (i6 g (.ref p) (.ref fl)))/\H p=some (.lst (pats.map V.str))/\H fl=some (.lst fs)/\Rn H dW fs/\dW.length=pats.length/\pats.length<=200/\(∀t∈pats,t.length<=1000)/\
 (((∀t∈pats,46∉t.cps.toList)/\pats.Nodup/\∀ws∈dW,ws≠[])->∀H',af H H'->Q .aB H')/\
 ∀pl H',pl<pats.length->((46∈(pats.getD pl ⟨#[]⟩).cps.toList/\∀j,j<pats.length->46∈(pats.getD j ⟨#[]⟩).cps.toList->(dW.getD pl []).length<=(dW.getD j []).length)\/(46∉(pats.getD pl ⟨#[]⟩).cps.toList/\(pats.getD pl ⟨#[]⟩∈pats.take pl\/dW.getD pl []=[])))->af H H'->Q (.int (pl:Int)) H'
theorem zQ:bh ["self","sizes","seen","place","signs"] ["self"] (aN (inClass (top 45) 2)):={}
theorem adY(B:Bl mg)(iZ:Cn mg "FREE" (.str "."))(F:aW K "narrowest" "Standing.narrowest" (inClass (top 45) 2) f fd)(T:de K C)(np:bW K C "patterns")(nf:bW K C "fits"):aK P w K mg base aP 1 f fd ["self"] (IP C):=by
 refine F.bE zQ λaE A outer s H vs Q E hr h=>?_
 have dF:=ke hr
 have hu:=hr.units
 have hu4:(A.deeper (PyProof.Rows.envOfC "Standing.narrowest" (aN (inClass (top 45) 2)) s.heap.objs.size f aE)).units+4<cLine:=by have:=hr.un;lia
 refine⟨_,(aq (aH 1 zQ.nd (du ag))
  (aq (aH 2 zQ.nd Bm)
  (aq (cD (Gi (by rfl) B.yW (ae (dC (pv 0) rfl) ag)) (kT rfl (eC (bI 3 zQ.nd) (eC (bI 4 zQ.nd) kR)))
  (au (bH (bO A9 (eP iZ (by rfl)) (pv 4))
   (au (d6 (fq iQ jf jg gS (pv 1) (ae (fm (ae (bg dX (by rfl) B.cj b9 (ae (aV gj (dC (pv 0) rfl) (pv 3)) ag)) (ae (pv 3) ag))) ag (hs:=dN rfl)))))
   (au (bH (PW.pt (gH (xT (Bk dF (pv 4) (pv 2))) (jk (gi (se (aV gj (dC (pv 0) rfl) (pv 3)) (by intro _;rfl))))))
    (au (aS (pv 3)))
    (au (yi dF (pv 2) (pv 4) fh rfl)))))))
  (aq (bH (gi (se (pv 1) (by intro _;rfl)))
  (au (aS jU))
  bN)
  (au (aS (aV bV (bg (ZT rfl hu4) (by rfl) B.aaR Yf (ae (pv 1) ag)) aF))))))),?_⟩
 try dsimp only[bt]
 refine hide λG_ aD=>?_
 obtain⟨s0,dx,p,fl,g,pats,dW,fs,rfl,hs,hp,d7,hF,sI,uf,hlen,qn,qp⟩:=h
 refine aD.k ?_
 have IQ:=hF.length
 refine⟨bG _,λsz hsz sn hsn=>?_⟩
 have sa:af H (upd H sz (.lst [])):=af.upd hsz
 have sb:af (upd H sz (.lst [])) (upd (upd H sz (.lst [])) sn (.dK [])):=af.upd hsn
 have IS:sz≠sn:=λz=>by rw[<-z,ao] at hsn;cases hsn
 have Ro:upd (upd H sz (.lst [])) sn (.dK []) sz=some (.lst (([]:List Addr).map V.ref)):=by rw[ar IS];exact ao
 have oo:upd (upd H sz (.lst [])) sn (.dK []) sn=some (.dK []):=ao
 have adZ:H sn=none:=by
  cases e:H sn with
  |none=>rfl
  |some o=>rw[sa _ _ e] at hsn;cases hsn
 have sm:=sa.trans sb
 generalize upd (upd H sz (.lst [])) sn (.dK [])=H0 at sm Ro oo
 refine⟨_,rfl,s0,C,dx,_,_,rfl,sm _ _ hs,T,np,zO ..,p,_,rfl,aj.of (sm _ _ hp),?_⟩
 refine Od (K:=K) (xs:=pats.map V.str) (λi O H2=>∃(v3 v4:Option V) (ts:List Addr) (ps:List (Int×Int)) (kvs:List (Key×V)),O=[some (.ref s0),some (.ref sz),some (.ref sn),v3,v4]/\af H H2/\H2 sz=some (.lst (ts.map V.ref))/\Paired (λt p=>H2 t=some (.tup [.int p.1,.int p.2])) ts ps/\ps.length<=i/\(∀q∈ps,∃k:Nat,q.2=(k:Int)/\k<pats.length/\46∈(pats.getD k ⟨#[]⟩).cps.toList/\q.1=((dW.getD k []).length:Int))/\(∀k,k<i->46∈(pats.getD k ⟨#[]⟩).cps.toList->∃q∈ps,q.1=((dW.getD k []).length:Int))/\H2 sn=some (.dK kvs)/\kvs.length<=i/\(∀x:Str,(aU kvs (Sum.inr x:Key)).isSome=true↔x∈pats.take i/\46∉x.cps.toList)/\(ps=[]->(∀t∈pats.take i,46∉t.cps.toList)/\(pats.take i).Nodup/\∀ws∈dW.take i,ws≠[]))
  ⟨none,none,[],[],[],rfl,sm,Ro,.nil,aO _,(λ_ m=>nomatch m),(λk hk=>absurd hk (ic _)),oo,aO _,λx=>⟨λz=>(by cases z),λz=>(by simp at z)⟩,λ_=>⟨λ_ m=>(by simp at m),(by simp),λ_ m=>(by simp at m)⟩⟩ ?_ ?_ ?_
 .rintro i O H2 _ ⟨v3,v4,ts,ps,kvs,rfl,s2,_⟩
  exact aj.of (s2 _ _ hp)
 .intro i x pt O H2 hx ad0 hpt
  refine hide λG_ aX=>?_
  obtain⟨v3,v4,ts,ps,kvs,rfl,s2,vH,qY,hpl,C7,C8,sj,mh,sW,zR⟩:=ad0
  rw[bw] at hx
  obtain⟨t,ht,rfl⟩:=iO.mp hx
  have hi:i<pats.length:=(bY.mp ht).1
  have zS:pats.getD i ⟨#[]⟩=t:=by rw[bQ,ht];rfl
  have gM:pats.take (i+1)=pats.take i++[t]:=by rw[eJ,ht];rfl
  obtain⟨ws,hws⟩:∃ws,dW[i]? = some ws:=⟨_,bf (by lia)⟩
  have i3:dW.getD i []=ws:=by rw[bQ,hws];rfl
  have IT:dW.take (i+1)=dW.take i++[ws]:=by rw[eJ,hws];rfl
  obtain⟨fv,zT⟩:∃fv,fs[i]? = some fv:=⟨_,bf (by lia)⟩
  obtain⟨ws',Rp,qa,rfl,kl,C9⟩:=Paired.get hF zT
  refine aX.k ?_
  rw[hws] at Rp
  cases Rp
  have su:af H2 (upd H2 pt (.tup [.int i,.str t])):=af.upd hpt
  refine⟨pt,_,rfl,ak.of ao,rfl,_,_,rfl,_,_,rfl,rfl,?_⟩
  have s3:=s2.trans su
  have wJ:=su _ _ vH
  have zU:=su _ _ sj
  have IU:=Paired.bU qY λa b e=>su _ _ e
  generalize upd H2 pt (.tup [.int i,.str t])=H3 at su s3 wJ zU IU
  have e46:(!(Builtin.Str.occurrences t (Str.ofString ".") 0 t.length 1).isEmpty)=decide (46∈t.cps.toList):=EB t 46
  refine⟨_,rfl,_,t,rfl,rfl,_,rfl,?_⟩
  rw[e46]
  by_cases hd:46∈t.cps.toList
  .rw[aJ hd]
   refine bp ⟨_,rfl,.inl ⟨rfl,_,aj.of wJ⟩,_,rfl,s0,C,dx,_,_,rfl,s3 _ _ hs,T,nf,C6 ..,_,rfl,fl,_,_,.ref qa,rfl,rfl,aj.of (s3 _ _ d7),dz zT,qa,_,rfl,.inl (aj.of (s3 _ _ kl)),_,rfl,(show 2<=sizeLine by decide),λu hu=>?_⟩
   have nu:u≠sz:=λz=>by rw[z,wJ] at hu;cases hu
   have nsz:sn≠sz:=bo IS
   refine⟨sz,_,_,rfl,rfl,by rw[ar (bo nu)];exact wJ,lj (by rw[aw];have:=qY.length;lia),?_⟩
   have mI:∀b o,b≠sz->H3 b=some o->upd (upd H3 u (.tup [.int ((ws.map V.str).length:Int),.int (i:Int)])) sz (.lst (ts.map V.ref++[.ref u])) b=some o:=λb o hb e=>by rw[ar hb,ar (λz=>by rw[z,hu] at e;cases e)];exact e
   refine⟨_,_,ts++[u],ps++[(((ws.map V.str).length:Int),(i:Int))],kvs,rfl,λb o e=>mI b o (bC e hsz) (s3 _ _ e),by rw[ao,eW];rfl,?_,by rw[di];simp;lia,?_,?_,mI _ _ nsz zU,by lia,λx=>?_,λz=>by simp at z⟩
   .exact wC (Paired.bU IU λa b e=>mI _ _ (λz=>by rw[z,wJ] at e;cases e) e) (.cons (by rw[ar nu];exact ao) .nil)
   .intro q mq
    rcases cS.mp mq with z | z
    .exact C7 q z
    .rw[cn.mp z]
     exact⟨i,rfl,hi,by rw[zS];exact hd,by rw[i3,aw]⟩
   .intro k hk zV
    rcases xH.mp hk with z | z
    .obtain⟨q,mq,eq⟩:=C8 k z zV
     exact⟨q,mQ _ mq,eq⟩
    .exact⟨_,jc _ bz,by rw[z,i3,aw]⟩
   .rw[sW x,gM]
    constructor
    .exact λz=>⟨mQ _ z.1,z.2⟩
    .rintro⟨z,zz⟩
     rcases cS.mp z with z | z
     .exact⟨z,zz⟩
     .rw[cn.mp z] at zz
      exact absurd hd zz
  .rw[aI hd]
   refine aQ ⟨_,rfl,_,rfl,sn,_,rfl,dY.k (k:=Sum.inr t) zU,_,rfl,?_⟩
   cases hv:(aU kvs (Sum.inr t:Key)).isSome with
   |true=>exact bp (bp ⟨_,rfl,qp i H3 hi (.inr ⟨by rw[zS];exact hd,.inl (by rw[zS];exact((sW t).mp hv).1)⟩) s3⟩)
   |false=>
    refine aQ ⟨_,rfl,s0,C,dx,_,_,rfl,s3 _ _ hs,T,nf,C6 ..,_,rfl,fl,_,_,.ref qa,rfl,rfl,aj.of (s3 _ _ d7),dz zT,!decide (ws=[]),adX (s3 _ _ kl),?_⟩
    by_cases Dc:ws=[]
    .rw[aJ Dc]
     exact bp ⟨_,rfl,qp i H3 hi (.inr ⟨by rw[zS];exact hd,.inr (by rw[i3];exact Dc)⟩) s3⟩
    .rw[aI Dc]
     have hvn:aU kvs (Sum.inr t:Key)=none:=by
      cases e:aU kvs (Sum.inr t:Key) with
      |none=>rfl
      |some v=>rw[e] at hv;cases hv
     have hnt:t∉pats.take i:=λz=>by
      have:=(sW t).mpr ⟨z,hd⟩
      rw[hv] at this
      cases this
     refine aQ ?_
     refine⟨_,rfl,_,rfl,sn,_,rfl,lX.k (k:=Sum.inr t) zU (lj (by lia)),?_⟩
     have mI:∀b o,b≠sn->H3 b=some o->upd H3 sn (.dK (putK kvs (Sum.inr t) (.bl true))) b=some o:=λb o hb e=>by rw[ar hb];exact e
     refine⟨_,_,ts,ps,putK kvs (Sum.inr t) (.bl true),rfl,λb o e=>mI b o (bC e adZ) (s3 _ _ e),mI _ _ IS wJ,Paired.bU IU (λa b e=>mI _ _ (λz=>by rw[z,zU] at e;cases e) e),by lia,C7,(λk hk zV=>by
      rcases xH.mp hk with z | z
      .exact C8 k z zV
      .rw[z,zS] at zV;exact absurd zV hd),ao,bF (vm _ _ _) (by lia),λx=>?_,λz=>?_⟩
     .rw[oi,gM]
      by_cases zx:x=t
      .subst zx
       rw[az rfl]
       exact⟨λ_=>⟨jc _ bz,hd⟩,λ_=>rfl⟩
      .rw[av (λw=>zx (by injection w)),sW x]
       constructor
       .exact λw=>⟨mQ _ w.1,w.2⟩
       .rintro⟨w,ww⟩
        rcases cS.mp w with w | w
        .exact⟨w,ww⟩
        .exact absurd (cn.mp w) zx
     .obtain⟨a1,a2,a3⟩:=zR z
      rw[gM,IT]
      refine⟨λx m=>?_,qe.mpr ⟨a2,by simp,λx mx y my w=>?_⟩,λx m=>?_⟩
      .rcases cS.mp m with w | w
       .exact a1 x w
       .rw[cn.mp w];exact hd
      .rw[cn.mp my] at w
       rw[w] at mx
       exact hnt mx
      .rcases cS.mp m with w | w
       .exact a3 x w
       .rw[cn.mp w];exact Dc
 .intro O H2 ad1
  refine hide λG_ bK=>?_
  obtain⟨v3,v4,ts,ps,kvs,rfl,s2,vH,qY,hpl,C7,C8,sj,mh,sW,zR⟩:=ad1
  refine bK.k ?_
  have nN:=qY.length
  rw[aw,Eu] at zR
  rw[<-sI,Eu] at zR
  refine⟨_,rfl,!decide (ps=[]),?_,?_⟩
  .refine Or.inl ⟨_,aj.of vH,?_⟩
   cases ts with
   |nil=>cases ps with
    |nil=>rfl
    |cons _ _=>cases nN
   |cons _ _=>cases ps with
    |nil=>cases nN
    |cons _ _=>rfl
  by_cases fV:ps=[]
  .rw[aJ fV]
   exact bp (qn (zR fV) H2 s2)
  .rw[aI fV]
   refine aQ ⟨_,rfl,sz,ts,ps,rfl,vH,qY,List.length_pos_iff.mpr fV,λb tt pp hb hpb GJ=>?_⟩
   obtain⟨pp',zW,IV⟩:=Paired.getL qY hb
   rw[hpb] at zW
   cases zW
   obtain⟨k,ek,Qb,jq,dS⟩:=C7 pp (bj hpb)
   refine⟨tt,_,1,.int pp.2,rfl,rfl,ak.of IV,rfl,?_⟩
   rw[ek]
   refine qp k H2 Qb (.inl ⟨jq,λj hj ad2=>?_⟩) s2
   obtain⟨q,mq,eq⟩:=C8 j (by rw[aw];exact hj) ad2
   have:=GJ q mq
   lia
def IW(K:Frag)(CS CG:Addr):Sp:=λvs H Q _=>∃(s dx g dq p ce a:Addr) (fv cr wo kn:V) (l m:List Str) (w:Nat) (R:List (List C2)) (xs:List V),vs=[.ref s]/\H s=some (.ins CS dx (i6 (.ref g) (.ref p) fv))/\H g=some (.ins CG dq (gD (.ref a) (.ref ce) cr wo kn))/\H a=some (.tup (l.map V.str))/\H ce=some (.lst xs)/\Paired (lC H) R xs/\H p=some (.lst ((R.map (ax m)).map V.str))/\cy l w R/\cy m w R/\m.length=l.length/\
 ∀q H',af H H'->H' q=some (.tup (m.map V.str))->Q (.ref q) H'
theorem zX:bh ["self","sheet","cells","signs"] ["self"] (aN (inClass (top 45) 5)):={}
theorem ad3(B:Bl mg)(F:aW K "filled" "Standing.filled" (inClass (top 45) 5) f fd)(TS:de K CS)(TG:de K CG)(ng:bW K CS "ground")(np:bW K CS "patterns")(IX:bW K CG "sheet")(nc:bW K CG "cells")(ad4:Fn P w K mg base "put_word" 2 (Qg K)):aK P w K mg base aP 3 f fd ["self"] (IW K CS CG):=by
 refine F.bE zX λaE A outer s H vs Q E hr h=>?_
 refine hide λG_ aD=>?_
 obtain⟨s0,dx,g,dq,p,ce,a,fv,cr,wo,kn,l,m,wd,R,xs,rfl,hs,hg,ha,nO,hR,hp,FL,FM,qZ,q⟩:=h
 refine aD.k ?_
 refine⟨_,(aq (aH 1 zX.nd (dC (dC (pv 0) rfl) rfl))
  (aq (cD (vC .L .L (by rfl) B.vS (ae (dC (dC (pv 0) rfl) rfl) (ae (dC (pv 0) rfl) ag))) (kT rfl (eC (bI 2 zX.nd) (eC (bI 3 zX.nd) kR)))
  (au (aH 1 zX.nd (aR ad4 hr (ae (pv 1) (ae (pv 2) (ae (pv 3) ag)))))))
  (au (aS (pv 1))))),?_⟩
 try dsimp only[bt]
 have fD:=hR.length
 refine⟨_,rfl,s0,CS,dx,_,_,rfl,hs,TS,ng,zP ..,g,CG,dq,_,_,rfl,hg,TG,IX,adM ..,?_⟩
 refine⟨_,rfl,s0,CS,dx,_,_,rfl,hs,TS,ng,zP ..,g,CG,dq,_,_,rfl,hg,TG,nc,Rh ..,_,rfl,s0,CS,dx,_,_,rfl,hs,TS,np,zO ..,_,_,rfl,⟨_,ce,rfl,aj.of nO⟩,⟨_,p,rfl,aj.of hp⟩,?_⟩
 have nt:min xs.length ((R.map (ax m)).map V.str).length=R.length:=by rw[aw,aw];lia
 refine vD (K:=K) (k1 := .L) (k2 := .L) (xs:=xs) (ys:=(R.map (ax m)).map V.str) (λi O H2=>∃v2 v3 qa,O=[some (.ref s0),some (.ref qa),v2,v3]/\af H H2/\H2 qa=some (.tup ((lB l R m i).map V.str)))
  ⟨none,none,a,rfl,af.cx _,ha⟩ ?_ ?_ ?_
 .intro i O H2 _ ad5
  refine hide λG_ aX=>?_
  obtain⟨v2,v3,qa,rfl,s2,_⟩:=ad5
  refine aX.k ?_
  exact⟨⟨_,rfl,aj.of (s2 _ _ nO)⟩,_,rfl,aj.of (s2 _ _ hp)⟩
 .intro i x y pt O H2 hx hy ad6 hpt
  refine hide λG_ bK=>?_
  obtain⟨v2,v3,qa,rfl,s2,hq⟩:=ad6
  obtain⟨row,hrow,t,ys,rfl,ht,mw⟩:=Paired.get hR hx
  refine bK.k ?_
  have nM:ai R i=row:=by unfold ai;rw[bQ,hrow];rfl
  have hyv:y = .str (ax m (ai R i)):=by
   rw[bw,bw,hrow] at hy
   cases hy
   rw[nM]
  subst hyv
  have su:af H2 (upd H2 pt (.tup [.ref t,.str (ax m (ai R i))])):=af.upd hpt
  refine⟨pt,_,rfl,ak.of ao,rfl,_,_,rfl,_,_,rfl,rfl,?_⟩
  have s3:=s2.trans su
  have zM:=su _ _ hq
  generalize upd H2 pt (.tup [.ref t,.str (ax m (ai R i))])=H3 at su s3 zM
  refine⟨_,rfl,_,rfl,_,rfl,qa,t,lB l R m i,wd,ai R i,ys,ax m (ai R i),rfl,zM,wA FL i,s3 _ _ ht,by rw[nM];exact mw.mono s3,λc hc=>by rw[qW];exact FL.kJ i c hc,λq' H' s' jW=>?_⟩
  exact⟨_,_,q',rfl,s3.trans s',jW⟩
 .intro O H2 ad7
  refine hide λG_ cJ=>?_
  obtain⟨v2,v3,qa,rfl,s2,hq⟩:=ad7
  refine cJ.k ?_
  rw[nt,adn FL FM qZ] at hq
  exact⟨_,rfl,q qa H2 s2 hq⟩
theorem ad8(sh ce cr wo kn:V):(gD sh ce cr wo kn).lookup ("narrowed":Str)=none:=by
 unfold gD
 rw[dm,av (by decide +kernel),dm,av (by decide +kernel),dm,av (by decide +kernel),dm,av (by decide +kernel),dm,av (by decide +kernel)]
 rfl
theorem g9.weak{t:Str}(k:∀b o,Z b->H b=some o->Z' b)(h:g9 Z H ks wf t v):g9 Z' H ks wf t v:=let ⟨q,ws,e,z,a,b,c⟩:=h;⟨q,ws,e,k _ _ z a,a,b,c⟩
theorem iG.weak{Z Z':Addr->Prop}{M:Str->Prop}{H:Hp}{ks:List Str}{wf:Str->Int}{kvs:List (Key×V)}(k:∀b o,Z b->H b=some o->Z' b)(h:iG Z M H ks wf kvs):iG Z' M H ks wf kvs:=⟨h.nd,h.key,λx v e=>(h.fit x v e).weak k⟩
theorem iG.keep{Z:Addr->Prop}{M:Str->Prop}{H H':Hp}{ks:List Str}{wf:Str->Int}{kvs:List (Key×V)}(k:∀b o,H b=some (.lst o)->Z b->H' b=some (.lst o))(h:iG Z M H ks wf kvs):iG Z M H' ks wf kvs:=⟨h.nd,h.key,λx v e=>(h.fit x v e).keep k⟩
theorem IY{α β:Type}{R:α->β->Prop}:∀{xs:List α}{ys:List β}{i:Nat}{x:α}{y:β},Paired R xs ys->R x y->Paired R (xs.set i x) (ys.set i y)
 |_,_,_,_,_,.nil,_=>.nil
 |_,_,0,_,_,.cons _ t,h=>.cons h t
 |_,_,i+1,_,_,.cons g t,h=>.cons g (IY t h)
structure ad9(Z:Addr->Prop)(M:Str->Prop)(H:Hp)(CS CG s dx g dq p fl cH kn:Addr)(sh ce wo:V)(m ks:List Str)(wf:Str->Int)(w pl:Nat)(R:List (List C2))(fs cs:List V)(x:Str)(kvs:List (Key×V)):Prop where
 e1:H s=some (.ins CS dx (i6 (.ref g) (.ref p) (.ref fl)))
 e2:H g=some (.ins CG dq (gD sh ce (.ref cH) wo (.ref kn)))
 e3:H kn=some (.dK kvs)
 e4:iG Z M H ks wf kvs
 e5:C5 M
 e6:H p=some (.lst ((R.map (ax m)).map V.str))
 e7:H fl=some (.lst fs)
 e8:Paired (g9 Z H ks wf) (R.map (ax m)) fs
 e9:H cH=some (.lst cs)
 e10:Paired (λi x=>∃q us,x=V.ref q/\H q=some (.lst us)/\bq H (lu R i) us) (List.range R.length) cs
 Nx:cy m w R
 e12:pl<R.length
 e13:R.length<=200
 e14:cX x (ax m (ai R pl))=true
 Rq:x∈ks
 e16:46∉x.cps.toList
 e17:∀q,H q=none->Z q
 e18:∀k i,i<R.length->46∈(ax m (ai R i)).cps.toList->M (ax (putL m ((ai R pl).take k) (x.cps.toList.take k)) (ai R i))
structure aea(Z:Addr->Prop)(M:Str->Prop)(H H':Hp)(CS g kn s dx p fl:Addr)(m ks:List Str)(wf:Str->Int)(pl:Nat)(R:List (List C2))(fs:List V)(x:Str)(kvs:List (Key×V)):Prop where
 e1:H p=none
 e2:H fl=none
 e3:∀b o,b≠kn->H b=some o->H' b=some o
 e4:H' kn=some (.dK kvs)
 e5:iG Z M H' ks wf kvs
 e6:H' s=some (.ins CS dx (i6 (.ref g) (.ref p) (.ref fl)))
 e7:H' p=some (.lst ((R.map (ax (putL m (ai R pl) x.cps.toList))).map V.str))
 e8:H' fl=some (.lst fs)
 e9:Paired (g9 Z H' ks wf) (R.map (ax (putL m (ai R pl) x.cps.toList))) fs
def IZ(K:Frag)(CS CG:Addr):Sp:=λvs H Q _=>∃(s dx g dq p fl cH kn:Addr) (sh ce wo:V) (m ks:List Str) (wf:Str->Int) (w pl:Nat) (R:List (List C2)) (fs cs:List V) (x:Str) (kvs:List (Key×V)) (Z:Addr->Prop) (M:Str->Prop),vs=[.ref s,.int (pl:Int),.str x]/\ad9 Z M H CS CG s dx g dq p fl cH kn sh ce wo m ks wf w pl R fs cs x kvs/\∀(s' pK p' cC:Addr) xK wI H',aea Z M H H' CS g kn s' pK p' cC m ks wf pl R xK x wI->Q (.ref s') H'
structure aeb(Z:Addr->Prop)(M:Str->Prop)(H H2:Hp)(p' cC kn:Addr)(m ks:List Str)(wf:Str->Int)(pl i:Nat)(R:List (List C2))(x:Str)(ps:List Str)(gq:List V)(h8:List (Key×V)):Prop where
 e1:∀b o,b≠kn->H b=some o->H2 b=some o
 e2:H2 kn=some (.dK h8)
 e3:iG (λb=>Z b/\b≠p'/\b≠cC) M H2 ks wf h8
 e4:H2 p'=some (.lst (ps.map V.str))
 e5:H2 cC=some (.lst gq)
 e6:nL R m pl x i ps
 e7:Paired (g9 (λb=>Z b/\b≠p'/\b≠cC) H2 ks wf) ps gq
theorem rb:bh ["self","place","word","patterns","fits","letter","crossing","other","at","before"] ["self","place","word"] (aN (inClass (top 45) 1)):={}
theorem aec(B:Bl mg)(iZ:Cn mg "FREE" (.str "."))(F:aW K "after" "Standing.after" (inClass (top 45) 1) f fd)(TS:de K CS)(TG:de K CG)(ng:bW K CS "ground")(np:bW K CS "patterns")(nf:bW K CS "fits")(nx:bW K CG "crossings")(wK:Nw P w K mg base "Standing" CS 1 (IL CS))(I8:Mt P w K mg base CG "narrowed" 1 (Rj K CG) []):aK P w K mg base aP 3 f fd ["self","place","word"] (IZ K CS CG):=by
 refine F.bE rb λaE A outer s H vs Q E hr h=>?_
 refine hide λG_ aD=>?_
 obtain⟨s0,dx,g,dq,p,fl,cH,kn,sh,ce,wo,m,ks,wf,wd,pl,R,fs,cs,x,kvs,Z,M,rfl,⟨hs,hg,dy,hK,hM,hp,d7,wL,hcr,Rr,FL,hpl,uf,dB,i7,De,hZ,hMk⟩,q⟩:=h
 refine aD.k ?_
 refine⟨_,(aq (aH 3 rb.nd (jY vk (by rfl) B.tK sP (ae (dC (pv 0) rfl) ag)))
  (aq (aH 4 rb.nd (jY vk (by rfl) B.tK sP (ae (dC (pv 0) rfl) ag)))
  (aq (cD (vC .S .L (by rfl) B.vS (ae (pv 2) (ae (aV gj (dC (dC (pv 0) rfl) rfl) (pv 1)) ag))) (kT rfl (eC (bI 5 rb.nd) (eC (bI 6 rb.nd) kR)))
  (aq (aH 7 rb.nd (aV bV (pv 6) aF))
   (aq (aH 8 rb.nd (aV bV (pv 6) aF))
   (aq (aH 9 rb.nd (aV gj (pv 3) (pv 7)))
   (au (bH (bO mY (aV iq (pv 9) (pv 8)) (eP iZ (by rfl)))
   (aq (rY (bb sf (bb sf (og vw (pv 9) m7 (m8 (pv 8))) (pv 5)) (og vw (pv 9) (m8 (bb fM (pv 8) aF)) m7)) (uY (pv 3) (pv 7) set_list))
    (au (rY (qB I8 hr (dC (pv 0) rfl) (ae (aV gj (pv 4) (pv 7)) (ae (aV gj (pv 3) (pv 7)) (ae (pv 8) ag)))) (uY (pv 4) (pv 7) set_list))))
   bN))))))
  (aq (rY (pv 2) (uY (pv 3) (pv 1) set_list))
  (aq (rY (du (ae (pv 2) ag)) (uY (pv 4) (pv 1) set_list))
  (au (aS (BG wK hr (ae (dC (pv 0) rfl) (ae (pv 3) (ae (pv 4) ag))))))))))),?_⟩
 try dsimp only[bt]
 have IQ:=wL.length
 rw[aw] at IQ
 have fD:x.length=(ai R pl).length:=by rw[(i5.mp dB).1,fF]
 have h9:=(FL.len hpl).2
 refine⟨_,rfl,s0,CS,dx,_,_,rfl,hs,TS,np,zO ..,p,_,rfl,.inl (aj.of hp),λp' fR=>?_⟩
 have s1:af H (upd H p' (.lst ((R.map (ax m)).map V.str))):=af.upd fR
 refine⟨_,rfl,s0,CS,dx,_,_,rfl,s1 _ _ hs,TS,nf,C6 ..,fl,_,rfl,.inl (aj.of (s1 _ _ d7)),λcC Df=>?_⟩
 have s2:af (upd H p' (.lst ((R.map (ax m)).map V.str))) (upd (upd H p' (.lst ((R.map (ax m)).map V.str))) cC (.lst fs)):=af.upd Df
 have Rt:H cC=none:=s1.free Df
 have zY:p'≠cC:=λz=>by rw[<-z,ao] at Df;cases Df
 have wM:upd (upd H p' (.lst ((R.map (ax m)).map V.str))) cC (.lst fs) p'=some (.lst ((R.map (ax m)).map V.str)):=by rw[ar zY];exact ao
 have Ru:upd (upd H p' (.lst ((R.map (ax m)).map V.str))) cC (.lst fs) cC=some (.lst fs):=ao
 have sm:=s1.trans s2
 generalize upd (upd H p' (.lst ((R.map (ax m)).map V.str))) cC (.lst fs)=H0 at sm wM Ru
 clear s1 s2
 refine hide λG_ aX=>?_
 obtain⟨cv,mD⟩:∃cv,cs[pl]? = some cv:=⟨_,bf (by have:=Rr.length;rw[mS] at this;lia)⟩
 obtain⟨pl',Rv,qa,us,rfl,kl,mI⟩:=Paired.get Rr mD
 refine aX.k ?_
 have epl:pl'=pl:=by
  rw[rM hpl] at Rv
  exact(cY Rv).symm
 rw[epl] at mI
 have ID:us.length=(ai R pl).length:=by rw[<-mI.length,adf FL.good]
 refine⟨_,rfl,_,rfl,s0,CS,dx,_,_,rfl,sm _ _ hs,TS,ng,zP ..,g,CG,dq,_,_,rfl,sm _ _ hg,TG,nx,adL ..,_,rfl,cH,_,_,.ref qa,rfl,rfl,aj.of (sm _ _ hcr),dz mD,_,_,rfl,⟨_,x,rfl,rfl⟩,⟨_,qa,rfl,aj.of (sm _ _ kl)⟩,?_⟩
 have jI:∀b o,H b=some o->b≠p'/\b≠cC:=λb o e=>⟨bC e fR,bC e Rt⟩
 have nt:min (x.cps.toList.map λc=>V.str ⟨#[c]⟩).length us.length=(ai R pl).length:=by rw[aw,cu];lia
 refine vD (K:=K) (k1 := .S) (k2 := .L) (xs:=x.cps.toList.map λc=>V.str ⟨#[c]⟩) (ys:=us) (λi O H2=>∃v5 v6 v7 v8 v9 ps gq h8,O=[some (.ref s0),some (.int (pl:Int)),some (.str x),some (.ref p'),some (.ref cC),v5,v6,v7,v8,v9]/\aeb Z M H H2 p' cC kn m ks wf pl i R x ps gq h8)
  ⟨none,none,none,none,none,R.map (ax m),fs,kvs,rfl,⟨λb o _ e=>sm _ _ e,sm _ _ dy,?_,wM,Ru,nL.zero hpl,?_⟩⟩ ?_ ?_ ?_
 .exact(hK.weak λb o z e=>⟨z,jI b o e⟩).keep λb o e _=>sm _ _ e
 .exact Paired.bU wL λt v e=>(e.weak λb o z e=>⟨z,jI b o e⟩).keep λb o e _=>sm _ _ e
 .intro i O H2 _ aed
  refine hide λG_ bK=>?_
  obtain⟨v5,v6,v7,v8,v9,ps,gq,h8,rfl,SI⟩:=aed
  refine bK.k ?_
  exact⟨⟨_,rfl,rfl⟩,_,rfl,aj.of (SI.e1 _ _ (bT kl dy (by intro z;cases z)) kl)⟩
 .intro i cv y pt O H2 mD hy aee hpt
  refine hide λG_ cJ=>?_
  obtain⟨v5,v6,v7,v8,v9,ps,gq,h8,rfl,⟨off,jq,Dg,gk,Dh,AI,pG⟩⟩:=aee
  rw[bw] at mD
  obtain⟨ch,hch,rfl⟩:=iO.mp mD
  obtain⟨pp,yF,u,rfl,hu⟩:=Paired.get mI hy
  have hi:i<(ai R pl).length:=by rw[<-ID];exact(bY.mp hy).1
  obtain⟨c,hc⟩:∃c,(ai R pl)[i]? = some c:=⟨_,bf hi⟩
  obtain⟨pp',zW,CR⟩:=adg FL.good hc
  refine cJ.k ?_
  rw[yF] at zW
  cases zW
  refine hide λG_ eT=>?_
  obtain⟨b,hb,Rw,oz,hb9,ay,an⟩:=AI.step FL dB hc hch CR
  refine eT.k ?_
  have su:af H2 (upd H2 pt (.tup [.str ⟨#[ch]⟩,.ref u])):=af.upd hpt
  refine⟨pt,_,rfl,ak.of ao,rfl,_,_,rfl,_,_,rfl,rfl,?_⟩
  have i8:∀b o,b≠kn->H b=some o->upd H2 pt (.tup [.str ⟨#[ch]⟩,.ref u]) b=some o:=λb o n e=>su _ _ (off b o n e)
  have dS:=su _ _ jq
  have lD:=su _ _ gk
  have rf:=su _ _ Dh
  have pL:=Dg.keep λb o e _=>su _ _ e
  have kK:=Paired.bU pG λt v e=>e.keep λb o e _=>su _ _ e
  generalize upd H2 pt (.tup [.str ⟨#[ch]⟩,.ref u])=H3 at i8 dS lD rf pL kK
  clear su jq gk Dh Dg pG off hpt
  have Rx:H3 u=some (.tup [.int (pp.1:Int),.int (pp.2:Int)]):=i8 _ _ (bT hu dy (by intro z;cases z)) hu
  have nN:ps.length=R.length:=AI.len
  have ll:(ps.map V.str)[pp.1]? = some (.str b):=by rw[bw,hb];rfl
  refine⟨_,rfl,u,_,0,.int (pp.1:Int),rfl,rfl,ak.of Rx,rfl,?_⟩
  refine⟨_,rfl,u,_,1,.int (pp.2:Int),rfl,rfl,ak.of Rx,rfl,?_⟩
  refine⟨_,rfl,_,rfl,p',_,_,.str b,rfl,rfl,aj.of lD,dz ll,?_⟩
  refine⟨_,rfl,_,rfl,b,_,sg m c,rfl,rfl,d8 (by lia),dz Rw,rfl,_,rfl,?_⟩
  rw[tL,tS]
  by_cases cQ:sg m c=46
  .rw[aJ cQ]
   have l1:(Txt.slice b none (some (pp.2:Int))).length<=100:=bF (xx b _ _) (by lia)
   have l2:(Txt.slice b (some ((pp.2:Int)+1)) none).length<=100:=bF (xx b _ _) (by lia)
   refine bp ⟨_,rfl,_,rfl,_,rfl,b,rfl,d8 (by lia),_,rfl,_,_,rfl,rfl,d8 (by show _+1<=_;lia),?_⟩
   refine⟨_,rfl,_,rfl,_,_,rfl,rfl,_,rfl,b,rfl,d8 (by lia),_,_,rfl,rfl,d8 ?_,?_⟩
   .rw[<-cu,nB,di,cu]
    show _+1+_<=_
    lia
   have eg:=GV (x:=b) (j:=pp.2) (ch:=ch) (Ho (by lia)) (Hq (by lia))
   refine⟨_,rfl,_,rfl,p',_,_,pp.1,rfl,rfl,lD,vx (by rw[aw,nN];exact CR.lt),?_⟩
   rw[eg]
   have A1:=ay cQ
   have Di:kn≠p':=(jI _ _ dy).1
   have Dj:kn≠cC:=(jI _ _ dy).2
   have nP:∀b' o,b'≠kn->H b'=some o->upd H3 p' (.lst ((ps.map V.str).set pp.1 (.str (bJ b pp.2 ch)))) b'=some o:=λb' o n e=>by rw[ar (jI _ _ e).1];exact i8 b' o n e
   have zZ:upd H3 p' (.lst ((ps.map V.str).set pp.1 (.str (bJ b pp.2 ch)))) kn=some (.dK h8):=by rw[ar Di];exact dS
   have ug:upd H3 p' (.lst ((ps.map V.str).set pp.1 (.str (bJ b pp.2 ch)))) p'=some (.lst ((ps.set pp.1 (bJ b pp.2 ch)).map V.str)):=by rw[ao,List.map_set]
   have Dk:upd H3 p' (.lst ((ps.map V.str).set pp.1 (.str (bJ b pp.2 ch)))) cC=some (.lst gq):=by rw[ar (bo zY)];exact rf
   have I9:iG (λb=>Z b/\b≠p'/\b≠cC) M (upd H3 p' (.lst ((ps.map V.str).set pp.1 (.str (bJ b pp.2 ch))))) ks wf h8:=pL.keep λb' o e z=>by rw[ar z.2.1];exact e
   have rh:Paired (g9 (λb=>Z b/\b≠p'/\b≠cC) (upd H3 p' (.lst ((ps.map V.str).set pp.1 (.str (bJ b pp.2 ch))))) ks wf) ps gq:=Paired.bU kK λt v e=>e.keep λb' o e z=>by rw[ar z.2.1];exact e
   have Ja:∀b',upd H3 p' (.lst ((ps.map V.str).set pp.1 (.str (bJ b pp.2 ch)))) b'=none->H b'=none/\b'≠p'/\b'≠cC:=λb' e=>by
    refine⟨?_,(λz=>by rw[z,ug] at e;cases e),(λz=>by rw[z,Dk] at e;cases e)⟩
    cases eb:H b' with
    |none=>rfl
    |some o=>
     by_cases zk:b'=kn
     .rw[zk,zZ] at e;cases e
     .rw[nP b' o zk eb] at e;cases e
   generalize upd H3 p' (.lst ((ps.map V.str).set pp.1 (.str (bJ b pp.2 ch))))=H4 at nP zZ ug Dk I9 rh Ja
   refine hide λG_ pw=>?_
   obtain⟨lv,yA,l,ws,rfl,zl,hl4,z6,C9⟩:=Paired.getL rh hb
   refine pw.k ?_
   have aef:((ps.set pp.1 (bJ b pp.2 ch)).map V.str)[pp.1]? = some (.str (bJ b pp.2 ch)):=by
    rw[bw,rF (by rw[nN];exact CR.lt)]
    rfl
   have aeg:b.cps.toList.getD pp.2 0=46:=by rw[b7 Rw];exact cQ
   have aeh:ch≠46:=λz=>De (by rw[<-z];exact bj hch)
   have hMb:M (bJ b pp.2 ch):=by
    have e1:=A1.lz pp.1 CR.lt CR.ne
    rw[rF (by rw[nN];exact CR.lt)] at e1
    rw[cY e1]
    exact hMk (i+1) pp.1 CR.lt (by rw[kI,<-cQ];exact mU (bj CR.ix))
   refine⟨_,rfl,s0,CS,dx,_,_,rfl,nP _ _ (bT hs dy (by intro z;cases z)) hs,TS,ng,zP ..,g,dq,_,rfl,nP _ _ (bT hg dy (by intro z;cases z)) hg,ad8 ..,?_⟩
   refine⟨_,rfl,_,rfl,cC,_,_,.ref l,rfl,rfl,aj.of Dk,dz yA,_,rfl,_,rfl,p',_,_,.str (bJ b pp.2 ch),rfl,rfl,aj.of ug,dz aef,_,rfl,?_⟩
   refine⟨g,dq,l,kn,sh,ce,.ref cH,wo,ws,ks,wf,b,pp.2,ch,h8,(λb=>Z b/\b≠p'/\b≠cC),M,rfl,nP _ _ (bT hg dy (by intro z;cases z)) hg,zZ,I9,hM,hl4,z6,C9,oz,by lia,aeg,aeh,hMb,λb' e=>⟨hZ b' (Ja b' e).1,(Ja b' e).2⟩,λH5 kv5 v o5 wN Jb hFv=>?_⟩
   have Dl:=o5 _ _ (bo Dj) Dk
   refine⟨_,rfl,_,rfl,cC,_,_,pp.1,rfl,rfl,Dl,vx (by rw[<-rh.length,nN];exact CR.lt),?_⟩
   refine⟨_,_,_,_,_,ps.set pp.1 (bJ b pp.2 ch),gq.set pp.1 v,kv5,rfl,⟨λb' o n e=>?_,?_,?_,?_,ao,A1,?_⟩⟩
   .rw[ar (jI _ _ e).2]
    exact o5 _ _ n (nP b' o n e)
   .rw[ar Dj];exact wN
   .exact Jb.keep λb' o e z=>by rw[ar z.2.2];exact e
   .rw[ar zY];exact o5 _ _ (bo Di) ug
   .refine IY (Paired.bU rh λt v' e=>e.keep λb' o e z=>?_) (hFv.keep λb' o e z=>by rw[ar z.2.2];exact e)
    rw[ar z.2.2]
    exact o5 _ _ (bT e zZ (by intro z;cases z)) e
  .rw[aI cQ]
   exact aQ ⟨_,_,_,_,_,ps,gq,h8,rfl,⟨i8,dS,pL,lD,rf,an cQ,kK⟩⟩
 .intro O H2 aei
  refine hide λG_ pA=>?_
  obtain⟨v5,v6,v7,v8,v9,ps,gq,h8,rfl,⟨off,jq,Dg,gk,Dh,AI,pG⟩⟩:=aei
  refine pA.k ?_
  rw[nt] at AI
  have nN:ps.length=R.length:=AI.len
  have Di:kn≠p':=(jI _ _ dy).1
  have Dj:kn≠cC:=(jI _ _ dy).2
  refine⟨_,rfl,_,rfl,_,rfl,p',_,_,pl,rfl,rfl,gk,vx (by rw[aw,nN];exact hpl),?_⟩
  have ed:=AI.done FL fD hpl
  have lD:upd H2 p' (.lst ((ps.map V.str).set pl (.str x))) p'=some (.lst ((R.map (ax (putL m (ai R pl) x.cps.toList))).map V.str)):=by rw[ao,<-List.map_set,ed]
  have i8:∀b' o,b'≠kn->H b'=some o->upd H2 p' (.lst ((ps.map V.str).set pl (.str x))) b'=some o:=λb' o n e=>by rw[ar (jI _ _ e).1];exact off b' o n e
  have dS:upd H2 p' (.lst ((ps.map V.str).set pl (.str x))) kn=some (.dK h8):=by rw[ar Di];exact jq
  have rf:upd H2 p' (.lst ((ps.map V.str).set pl (.str x))) cC=some (.lst gq):=by rw[ar (bo zY)];exact Dh
  have pL:iG (λb=>Z b/\b≠p'/\b≠cC) M (upd H2 p' (.lst ((ps.map V.str).set pl (.str x)))) ks wf h8:=Dg.keep λb' o e z=>by rw[ar z.2.1];exact e
  have kK:Paired (g9 (λb=>Z b/\b≠p'/\b≠cC) (upd H2 p' (.lst ((ps.map V.str).set pl (.str x)))) ks wf) ps gq:=Paired.bU pG λt v e=>e.keep λb' o e z=>by rw[ar z.2.1];exact e
  generalize upd H2 p' (.lst ((ps.map V.str).set pl (.str x)))=H3 at i8 dS lD rf pL kK
  refine⟨_,rfl,(by show 1<=sizeLine;decide),λl hl=>⟨_,rfl,_,rfl,cC,gq,_,pl,rfl,rfl,?_,vx (by rw[<-pG.length,nN];exact hpl),?_⟩⟩
  .rw[ar (λz=>by rw[<-z,rf] at hl;cases hl)]
   exact rf
  have nlp:l≠p':=λz=>by rw[z,lD] at hl;cases hl
  have nlf:l≠cC:=λz=>by rw[z,rf] at hl;cases hl
  have nlk:kn≠l:=λz=>by rw[<-z,dS] at hl;cases hl
  have hlH:H l=none:=by
   cases eb:H l with
   |none=>rfl
   |some o=>
    rw[i8 l o (bo nlk) eb] at hl;cases hl
  have h5:∀b o,b≠cC->H3 b=some o->upd (upd H3 l (.lst [.str x])) cC (.lst (gq.set pl (.ref l))) b=some o:=λb o n e=>by rw[ar n,ar (bC e hl)];exact e
  have Ry:upd (upd H3 l (.lst [.str x])) cC (.lst (gq.set pl (.ref l))) l=some (.lst ([x].map V.str)):=by rw[ar nlf];exact ao
  have Dl:upd (upd H3 l (.lst [.str x])) cC (.lst (gq.set pl (.ref l))) cC=some (.lst (gq.set pl (.ref l))):=ao
  generalize upd (upd H3 l (.lst [.str x])) cC (.lst (gq.set pl (.ref l)))=H5 at h5 Ry Dl
  have kD:∀b' o,b'≠kn->H b'=some o->H5 b'=some o:=λb' o n e=>h5 _ _ (jI _ _ e).2 (i8 b' o n e)
  have Jc:=kD _ _ (bT hs dy (by intro z;cases z)) hs
  refine⟨_,rfl,s0,CS,dx,_,_,rfl,Jc,TS,ng,zP ..,_,rfl,_,rfl,λs' pK oB Jd cE=>⟨s',pK,.ref g,.ref p',.ref cC,rfl,ao,λH' h1 h2=>⟨rfl,?_⟩⟩⟩
  have h6:∀b o,H5 b=some o->H' b=some o:=λb o e=>h2 _ _ (λz=>by rw[z,oB] at e;cases e) (by rw[ar (λz=>by rw[z,oB] at e;cases e),ar (λz=>by rw[z,Jd] at e;cases e)];exact e)
  have tT:=h5 _ _ zY lD
  have wN:=h5 _ _ Dj dS
  refine q s' pK p' cC _ h8 H' ⟨fR,Rt,λb o n e=>h6 _ _ (kD b o n e),h6 _ _ wN,?_,h1,h6 _ _ tT,h6 _ _ Dl,?_⟩
  .exact(pL.keep λb o e z=>h6 _ _ (h5 _ _ z.2.2 e)).weak λb o z _=>z.1
  .rw[<-ed]
   refine IY (Paired.bU kK λt v e=>(e.keep λb o e z=>h6 _ _ (h5 _ _ z.2.2 e)).weak λb o z _=>z.1) ?_
   exact⟨l,[x],rfl,hZ l hlH,h6 _ _ Ry,mH.one i7 De,by show 1<=64;decide⟩
end
theorem mJ(f:Str)(v:V):∀fs:List (Str×V),(bc f v fs).length<=fs.length+1
 |[]=>aO _
 |(g,u)::r=>by
  unfold bc
  split
  .exact gw _
  .exact mT (mJ f v r)
theorem ak.aej{a g:Addr}{fs:List (Str×V)}(hg:H g=some (.ins C dx fs))(k:∀b o,b≠g->H b=some o->H' b=some o)(h:ak K H a xs):ak K H' a xs:=by
 rcases h with (h | ⟨o,h⟩) | h
 .exact .inl (.inl (k _ _ (bT h hg (by intro z;cases z)) h))
 .exact .inl (.inr ⟨o,k _ _ (bT h hg (by intro z;cases z)) h⟩)
 .exact .inr h
theorem lC.off{H H':Hp}{D:Addr}{r:List C2}{x:V}(hD:∃o,H D=some (.lst o))(k:∀b o,b≠D->H b=some o->H' b=some o)(h:lC H r x):lC H' r x:=by
 obtain⟨t,ys,e,ht,hc⟩:=h
 obtain⟨o,ho⟩:=id hD
 exact⟨t,ys,e,k _ _ (bT ht ho (by intro z;cases z)) ht,hc.off hD k⟩
theorem lC.gc{x:V}(k:∀b o,H b=some (.tup o)->H' b=some (.tup o))(h:lC H r x):lC H' r x:=by
 obtain⟨t,ys,e,ht,hc⟩:=h
 exact⟨t,ys,e,k _ _ ht,hc.lists k⟩
theorem Je{α β:Type}{F:α->β->Prop}(d:α):∀(R:List α) (ys:List β) (k:Nat),Paired (λi y=>F (R.getD (i - k) d) y) (List.range' k R.length) ys->Paired F R ys
 |[],ys,k,h=>by cases h;exact .nil
 |r::R,ys,k,h=>by
  rw[dO,List.range'_succ] at h
  cases h with
  |cons h t=>
   refine .cons ?_ (Je d R _ (k+1) (Rz t λi y mi e=>?_))
   .rw[Nat.sub_self] at h
    exact h
   .have h1:=(List.mem_range'_1.mp mi).1
    have e2:i - k=(i - (k+1))+1:=by lia
    rw[e2] at e
    exact e
where
 Rz {α β:Type}{F G:α->β->Prop}:∀{xs:List α}{ys:List β},Paired F xs ys->(∀x y,x∈xs->F x y->G x y)->Paired G xs ys
  |_,_,.nil,_=>.nil
  |_,_,.cons h t,k=>.cons (k _ _ bz h) (Rz t λx y m e=>k x y (bX _ m) e)
theorem aek{F:List C2->β->Prop}{ys:List β}(h:Paired (λi y=>F (ai R i) y) (List.range R.length) ys):Paired F R ys:=by
 refine Je [] R ys 0 ?_
 rw[<-List.range_eq_range']
 exact h
theorem RA{α:Type}{G:α->Addr->Prop}:∀{l:List α}{ys:List V},Paired (λi y=>∃t,y=V.ref t/\G i t) l ys->∃ts:List Addr,ys=ts.map V.ref/\Paired (λt i=>G i t) ts l
 |_,_,.nil=>⟨[],rfl,.nil⟩
 |_,_,.cons ⟨t,e,h⟩ r=>by
  obtain⟨ts,e2,p⟩:=RA r
  exact⟨t::ts,by rw[e,e2];rfl,.cons h p⟩
theorem RB(h:Str->V)(x:Str):∀(n:Nat) (xs:List Str),xs.length=n->aU (ju (xs.map λx=>(x,h x))) (Sum.inr x:Key)=if x∈xs then some (h x) else none
 |0,xs,e=>by
  have:xs=[]:=List.length_eq_zero_iff.mp e
  subst this
  rfl
 |n+1,xs,e=>by
  have cE:xs≠[]:=λz=>by rw[z] at e;cases e
  obtain⟨ys,y,rfl⟩:∃ys y,xs=ys++[y]:=⟨xs.dropLast,xs.getLast cE,(List.dropLast_concat_getLast cE).symm⟩
  have ih:=RB h x n ys (by simpa using e)
  rw[eW,bS,uF,Oz,oi]
  by_cases z:x=y
  .rw[az (by rw[z]),az (by rw[z];simp),z]
  .rw[av (λw=>z (by injection w)),ih]
   by_cases m:x∈ys
   .rw[az m,az (mQ _ m)]
   .rw[av m,av (λw=>by rcases cS.mp w with w | w;exact m w;exact z (cn.mp w))]
theorem RC{α β γ:Type}{F:α->γ->Prop}{f:β->γ}:∀{xs:List α}{ys:List β},Paired (λx y=>F x (f y)) xs ys->Paired F xs (ys.map f)
 |_,_,.nil=>.nil
 |_,_,.cons h t=>.cons h (RC t)
section
variable{w:World}
def ael(H H':Hp)(R:List (List C2))(cs:List V):Prop:=Paired (λi x=>∃q us,x=V.ref q/\H q=none/\H' q=some (.lst us)/\bq H' (lu R i) us) (List.range R.length) cs
def RD(K:Frag)(CG CB:Addr):Sp:=λvs H Q _=>∃(g dx a bk d:Addr) (l:List Str) (w:Nat) (kvs:List (Key×V)),vs=[.ref g,.ref bk,.ref a]/\H g=some (.ins CG dx [])/\ak K H a (l.map V.str)/\aZ l w/\GoodR (aG l w)/\fW CB H bk d kvs/\kvs.length<64/\(∀x∈aM kvs,cP x=true)/\
 ∀(ce cH wo kn:Addr) (xs cs:List V) (wd:List (Key×V)) (H':Hp),(∀b o,b≠g->H b=some o->H' b=some o)->H' g=some (.ins CG dx (gD (.ref a) (.ref ce) (.ref cH) (.ref wo) (.ref kn)))->H ce=none->H' ce=some (.lst xs)->Paired (lC H') (aG l w) xs->H cH=none->H' cH=some (.lst cs)->ael H H' (aG l w) cs->
  H wo=none->H' wo=some (.dK wd)->(∀x∈aM kvs,aU wd (Sum.inr x:Key)=aU kvs (Sum.inr x:Key))->H kn=none->H' kn=some (.dK [])->Q .aB H'
theorem aem:bh ["self","book","sheet"] ["self","book","sheet"] (aN (inClass (top 44) 0)):={}
theorem aen(B:Bl mg)(F:aW K "__init__" "Ground.__init__" (inClass (top 44) 0) f fd)(T:de K CG)(IX:bW K CG "sheet")(Dm:bW K CG "cells")(ncr:bW K CG "crossings")(RE:bW K CG "worths")(Jf:bW K CG "known")(z7:Fn P w K mg base "rows_of" 5 (Cb K))(aeo:Fn P w K mg base "crossings_of" 2 (Q8 K))(Jg:Mt P w K mg base CB "words" 1 (PV CB) [])(wO:Mt P w K mg base CB "worth" 5 (Hw CB) []):aK P w K mg base aP 6 f fd ["self","book","sheet"] (RD K CG CB):=by
 refine F.bE aem λaE A outer s H vs Q E hr h=>?_
 refine hide λG_ aD=>?_
 obtain⟨g,dx,a,bk,d,l,wd,kvs,rfl,hg,hT,S,G,hB,fA,i9,q⟩:=h
 refine aD.k ?_
 refine⟨_,(aq (lP (pv 0) (pv 2) rfl)
  (aq (lP (pv 0) (iS (js:=[]) (ns:=[]) (dJ (aR z7 hr (ae (pv 2) ag))) rfl rfl rfl rfl (λ_ _ _ _=>lg) (λ_ _ _ _=>(Bz (K:=K) (rr:=Bi) rfl bV (pv 0) aF))) rfl)
  (aq (lP (pv 0) (aR aeo hr (ae (dC (pv 0) rfl) ag)) rfl)
  (aq (lP (pv 0) (jY (ZH rfl) (by rfl) B.aaQ ZJ (ae (iS (js:=[1]) (ns:=["book"]) (dJ (FW Jg hr (pv 1))) rfl rfl rfl rfl (λ_ _ _ _=>lg) (λ_ _ _ _=>(fm (ae (pv 0) (ae (qB wO hr (pv 1) (ae (pv 0) ag)) ag))))) ag (hs:=dN rfl))) rfl)
  (au (lP (pv 0) Bm rfl)))))),?_⟩
 try dsimp only[bt]
 have hR9:∀i,(ai (aG l wd) i).length<=9:=λi=>by
  by_cases hi:i<(aG l wd).length
  .exact(jE S (qV hi)).2.1
  .unfold ai
   rw[bQ,cZ (Lz hi)]
   exact bG _
 have kH:=qQ S
 rw[<-zF] at kH
 obtain⟨⟨z9,qE⟩,Jh,Aa,rj⟩:=id hB
 have RF:bk≠g:=bT qE hg (λz=>by injection z with _ _ z;unfold vZ at z;cases z)
 have ndg:d≠g:=bT Jh hg (λz=>by cases z)
 refine⟨_,rfl,_,rfl,g,CG,dx,[],rfl,hg,T,IX,(by show 0<1000;decide),?_⟩
 have o1:∀b o,b≠g->H b=some o->upd H g (.ins CG dx (bc "sheet" (.ref a) [])) b=some o:=λb o n e=>by rw[ar n];exact e
 have g1:upd H g (.ins CG dx (bc "sheet" (.ref a) [])) g=some (.ins CG dx (bc "sheet" (.ref a) [])):=ao
 have RG:∀b,upd H g (.ins CG dx (bc "sheet" (.ref a) [])) b=none->H b=none:=λb e=>by
  cases eb:H b with
  |none=>rfl
  |some o=>
   by_cases z:b=g
   .rw[z,g1] at e;cases e
   .rw[o1 b o z eb] at e;cases e
 generalize upd H g (.ins CG dx (bc "sheet" (.ref a) []))=H1 at o1 g1 RG
 have oG:=ak.aej hg o1 hT
 refine⟨_,rfl,a,l,wd,rfl,oG,S,λgg xa xd H2 hgg s2 hL rA rD=>⟨gg,rfl,⟨_,aj.of hL⟩,?_⟩⟩
 have rB:=Hk rA rD
 have RH:=rB.length
 have eN:(aG l wd).length=(xa++xd).length:=by rw[pq,aw,RH]
 refine comp_map kg (by lia) (λ_ i y H3=>lC H3 (ai (aG l wd) i) y) (λH3 s3=>aj.of (s3 _ _ hL)) (λD i y Ha Hb _ hD k h=>h.off hD k) ?_ ?_
 .intro D i y H3 Z hD hy s3 _ k1
  refine hide λG_ aX=>?_
  obtain⟨row,hrow,way,aa,t,ys,rfl,e1,e2,e3⟩:=Paired.get rB hy
  refine aX.k ?_
  have er:ai (aG l wd) i=row.2:=by unfold ai;rw[pq,bQ,bw,hrow];rfl
  exact⟨_,rfl,aa,_,2,.ref t,rfl,rfl,ak.of (s3 _ _ e1),rfl,k1 _ _ (af.cx _) ⟨t,ys,rfl,s3 _ _ e2,by rw[er];exact e3.mono s3⟩⟩
 .intro ce ys H3 nO wz s3 pr
  rw[<-eN] at pr
  have uh:=aek (F:=lC H3) pr
  have iH:=s2.trans s3
  have wQ:H1 ce=none:=s2.free nO
  have Ji:ce≠g:=λz=>by rw[z,g1] at wQ;cases wQ
  refine⟨_,rfl,g,CG,dx,_,rfl,iH _ _ g1,T,Dm,lK (mJ _ _ _) (by show 1<1000;decide),?_⟩
  have o4:∀b o,b≠g->H3 b=some o->upd H3 g (.ins CG dx (bc "cells" (.ref ce) (bc "sheet" (.ref a) []))) b=some o:=λb o n e=>by rw[ar n];exact e
  have g4:upd H3 g (.ins CG dx (bc "cells" (.ref ce) (bc "sheet" (.ref a) []))) g=some (.ins CG dx (bc "cells" (.ref ce) (bc "sheet" (.ref a) []))):=ao
  generalize upd H3 g (.ins CG dx (bc "cells" (.ref ce) (bc "sheet" (.ref a) [])))=H4 at o4 g4
  have ng3:∀b o,H3 b=some (.tup o)->b≠g:=λb o e=>bT e (iH _ _ g1) (by intro z;cases z)
  have RI:=Paired.bU uh λr x h=>h.gc λb o e=>o4 b _ (ng3 b o e) e
  have Jj:∀b o,b≠g->H b=some o->H4 b=some o:=λb o n e=>o4 b o n (iH _ _ (o1 b o n e))
  have Dn:∀b,H4 b=none->H b=none:=λb e=>by
   cases eb:H b with
   |none=>rfl
   |some o=>
    by_cases z:b=g
    .rw[z,g4] at e;cases e
    .rw[Jj b o z eb] at e;cases e
  have lc:(bc "cells" (.ref ce) (bc "sheet" (.ref a) [])).lookup ("cells":Str)=some (V.ref ce):=by rw[dm,az rfl]
  refine⟨_,rfl,g,CG,dx,_,_,rfl,g4,T,Dm,lc,ce,aG l wd,ys,rfl,o4 _ _ Ji wz,RI,G,kH,hR9,λcH zs H5 ui s5 aep mw=>?_⟩
  have aeq:cH≠g:=λz=>by rw[z,g4] at ui;cases ui
  refine⟨_,rfl,g,CG,dx,_,rfl,s5 _ _ g4,T,ncr,lK (bF (mJ _ _ _) (mT (mJ _ _ _))) (by show 2<1000;decide),?_⟩
  have g5:=s5 _ _ g4
  have o6:∀b o,b≠g->H5 b=some o->upd H5 g (.ins CG dx (bc "crossings" (.ref cH) (bc "cells" (.ref ce) (bc "sheet" (.ref a) [])))) b=some o:=λb o n e=>by rw[ar n];exact e
  have g6:upd H5 g (.ins CG dx (bc "crossings" (.ref cH) (bc "cells" (.ref ce) (bc "sheet" (.ref a) [])))) g=some (.ins CG dx (bc "crossings" (.ref cH) (bc "cells" (.ref ce) (bc "sheet" (.ref a) [])))):=ao
  generalize upd H5 g (.ins CG dx (bc "crossings" (.ref cH) (bc "cells" (.ref ce) (bc "sheet" (.ref a) []))))=H6 at o6 g6
  have Jk:∀b o,b≠g->H b=some o->H6 b=some o:=λb o n e=>o6 b o n (s5 _ _ (Jj b o n e))
  have RJ:fW CB H6 bk d kvs:=⟨⟨z9,Jk _ _ RF qE⟩,Jk _ _ ndg Jh,Aa,rj⟩
  refine⟨_,rfl,bk,z9,_,rfl,Jk _ _ RF qE,tR _ (by decide +kernel),bk,d,kvs,rfl,RJ,fA,λlw H7 hlw s7 RK=>⟨lw,rfl,⟨_,aj.of RK⟩,?_⟩⟩
  have mh:(cV (aM kvs)).length=kvs.length:=by rw[(iV _).length_eq,wm]
  have RL:∀x,x∈cV (aM kvs)↔x∈aM kvs:=λx=>(iV _).mem_iff
  refine comp_map kg (by rw[aw];lia) (λ_ i y H8=>∃t,y = .ref t/\H8 t=some (.tup [.str ((cV (aM kvs)).getD i ⟨#[]⟩),(aU kvs (Sum.inr ((cV (aM kvs)).getD i ⟨#[]⟩):Key)).getD .aB])) (λH8 s8=>aj.of (s8 _ _ RK)) (λD i y Ha Hb _ hD k h=>?_) ?_ ?_
  .obtain⟨t,e1,e2⟩:=h
   obtain⟨o,ho⟩:=hD
   exact⟨t,e1,k _ _ (bT e2 ho (by intro z;cases z)) e2⟩
  .intro D i y H8 Z hD hy s8 _ k1
   rw[bw] at hy
   refine hide λG_ bK=>?_
   obtain⟨x,hx,rfl⟩:=iO.mp hy
   have hxd:(cV (aM kvs)).getD i ⟨#[]⟩=x:=b7 hx
   have i7:x∈aM kvs:=(RL x).mp (bj hx)
   obtain⟨v,hv⟩:∃v,aU kvs (Sum.inr x:Key)=some v:=by
    have:=zH rj x
    rw[aJ i7] at this
    cases e:aU kvs (Sum.inr x:Key) with
    |none=>rw[e] at this;cases this
    |some v=>exact⟨v,rfl⟩
   have RM:=RJ.mono (s7.trans s8)
   obtain⟨⟨dx8,aer⟩,_⟩:=id RM
   refine bK.k ?_
   refine⟨_,rfl,_,rfl,bk,dx8,_,rfl,aer,tR _ (by decide +kernel),_,rfl,bk,d,kvs,x,v,rfl,RM,i9 x i7,hv,λH9 s9=>⟨by show 2<=sizeLine;decide,λt ht=>k1 _ _ (s9.trans (af.upd ht)) ⟨t,rfl,?_⟩⟩⟩
   rw[ao,hxd,hv]
   rfl
  .intro D us H8 hD bD s8 pr8
   obtain⟨ts,rfl,RN⟩:=RA pr8
   rw[aw] at RN
   have aes:Paired (λt p=>H8 t=some (HO.tup [V.str p.1,p.2])) ts ((cV (aM kvs)).map λx=>(x,(aU kvs (Sum.inr x:Key)).getD .aB)):=by
    have e:=RC (F:=λt p=>H8 t=some (HO.tup [V.str p.1,p.2])) (f:=λi=>((cV (aM kvs)).getD i ⟨#[]⟩,(aU kvs (Sum.inr ((cV (aM kvs)).getD i ⟨#[]⟩):Key)).getD .aB)) RN
    rw[o9 (λx=>(x,(aU kvs (Sum.inr x:Key)).getD .aB))] at e
    exact e
   refine⟨D,ts,_,rfl,bD,aes,by rw[aw];lia,λwo wR=>?_⟩
   have s6:=s7.trans s8
   have s9:af H8 (upd H8 wo (.dK (ju ((cV (aM kvs)).map λx=>(x,(aU kvs (Sum.inr x:Key)).getD .aB))))):=af.upd wR
   have w9:upd H8 wo (.dK (ju ((cV (aM kvs)).map λx=>(x,(aU kvs (Sum.inr x:Key)).getD .aB)))) wo=some (.dK (ju ((cV (aM kvs)).map λx=>(x,(aU kvs (Sum.inr x:Key)).getD .aB)))):=ao
   generalize upd H8 wo (.dK (ju ((cV (aM kvs)).map λx=>(x,(aU kvs (Sum.inr x:Key)).getD .aB))))=H9 at s9 w9
   have Dp:=s6.trans s9
   have Jl:wo≠g:=λz=>by rw[z,s6 _ _ g6] at wR;cases wR
   refine⟨_,rfl,g,CG,dx,_,rfl,Dp _ _ g6,T,RE,lK (bF (mJ _ _ _) (mT (bF (mJ _ _ _) (mT (mJ _ _ _))))) (by show 3<1000;decide),?_⟩
   have oA:∀b o,b≠g->H9 b=some o->upd H9 g (.ins CG dx (bc "worths" (.ref wo) (bc "crossings" (.ref cH) (bc "cells" (.ref ce) (bc "sheet" (.ref a) []))))) b=some o:=λb o n e=>by rw[ar n];exact e
   have gA:upd H9 g (.ins CG dx (bc "worths" (.ref wo) (bc "crossings" (.ref cH) (bc "cells" (.ref ce) (bc "sheet" (.ref a) []))))) g=some (.ins CG dx (bc "worths" (.ref wo) (bc "crossings" (.ref cH) (bc "cells" (.ref ce) (bc "sheet" (.ref a) []))))):=ao
   generalize upd H9 g (.ins CG dx (bc "worths" (.ref wo) (bc "crossings" (.ref cH) (bc "cells" (.ref ce) (bc "sheet" (.ref a) [])))))=HA at oA gA
   intro kn dy
   have sB:af HA (upd HA kn (.dK [])):=af.upd dy
   have kB:upd HA kn (.dK []) kn=some (.dK []):=ao
   generalize upd HA kn (.dK [])=HB at sB kB
   have Jm:kn≠g:=λz=>by rw[z,gA] at dy;cases dy
   refine⟨_,rfl,g,CG,dx,_,rfl,sB _ _ gA,T,Jf,lK (bF (mJ _ _ _) (mT (bF (mJ _ _ _) (mT (bF (mJ _ _ _) (mT (mJ _ _ _))))))) (by show 4<1000;decide),?_⟩
   have Jn:∀b o,b≠g->H4 b=some o->upd HB g (.ins CG dx (gD (.ref a) (.ref ce) (.ref cH) (.ref wo) (.ref kn))) b=some o:=λb o n e=>by
    rw[ar n]
    exact sB _ _ (oA b o n (Dp _ _ (o6 b o n (s5 _ _ e))))
   have Jo:∀b o,b≠g->H5 b=some o->upd HB g (.ins CG dx (gD (.ref a) (.ref ce) (.ref cH) (.ref wo) (.ref kn))) b=some o:=λb o n e=>by
    rw[ar n]
    exact sB _ _ (oA b o n (Dp _ _ (o6 b o n e)))
   have ng5:∀b o,H5 b=some (.tup o)->b≠g:=λb o e=>bT e g5 (by intro z;cases z)
   have ng4:∀b o,H4 b=some (.tup o)->b≠g:=λb o e=>bT e g4 (by intro z;cases z)
   refine q ce cH wo kn ys zs (ju ((cV (aM kvs)).map λx=>(x,(aU kvs (Sum.inr x:Key)).getD .aB))) _ (λb o n e=>Jn b o n (Jj b o n e)) ao (RG _ wQ) (Jn _ _ Ji (o4 _ _ Ji wz)) (Paired.bU RI λr x h=>h.gc λb o e=>Jn b _ (ng4 b o e) e) (Dn _ ui) (Jo _ _ aeq aep) ?_ ?_ ?_ (λx hx=>?_) ?_ ?_
   .refine Paired.bU mw λi x h=>?_
    refine hide λG_ cJ=>?_
    obtain⟨qq,vs,e1,e2,e3,e4⟩:=h
    refine cJ.k ?_
    exact⟨qq,vs,e1,Dn _ e2,Jo _ _ (bT e3 g5 (by intro z;cases z)) e3,e4.lists λb o e=>Jo b _ (ng5 b o e) e⟩
   .refine Dn _ ?_
    cases eb:H4 wo with
    |none=>rfl
    |some o=>rw[s6 _ _ (o6 _ _ Jl (s5 _ _ eb))] at wR;cases wR
   .rw[ar Jl]
    exact sB _ _ (oA _ _ Jl w9)
   .rw[RB (λx=>(aU kvs (Sum.inr x:Key)).getD .aB) x _ _ rfl,az ((RL x).mpr hx)]
    have:=zH rj x
    rw[aJ hx] at this
    cases e:aU kvs (Sum.inr x:Key) with
    |none=>rw[e] at this;cases this
    |some v=>rfl
   .refine Dn _ ?_
    cases eb:H4 kn with
    |none=>rfl
    |some o=>rw[oA _ _ Jm (Dp _ _ (o6 _ _ Jm (s5 _ _ eb)))] at dy;cases dy
   .rw[ar Jm]
    exact kB
end
structure rk(K:Frag)(CG:Addr)(Z:Addr->Prop)(H:Hp)(g kn:Addr)(l:List Str)(R:List (List C2)):Prop where
 ex:∃(dq a ce cH:Addr) (wo:V) (xs cs:List V),H g=some (.ins CG dq (gD (.ref a) (.ref ce) (.ref cH) wo (.ref kn)))/\H a=some (.tup (l.map V.str))/\H ce=some (.lst xs)/\Z ce/\Paired (lC H) R xs/\H cH=some (.lst cs)/\Z cH/\
  Paired (λi x=>∃q us,x=V.ref q/\Z q/\H q=some (.lst us)/\bq H (lu R i) us) (List.range R.length) cs
structure Std(CS:Addr)(Z:Addr->Prop)(H:Hp)(s g:Addr)(m:List Str)(R:List (List C2))(ks:List Str)(wf:Str->Int):Prop where
 ex:∃(dx p fl:Addr) (fs:List V),H s=some (.ins CS dx (i6 (.ref g) (.ref p) (.ref fl)))/\H p=some (.lst ((R.map (ax m)).map V.str))/\Z p/\H fl=some (.lst fs)/\Z fl/\Paired (g9 Z H ks wf) (R.map (ax m)) fs
theorem RO(h:(kvs.map (·.1)).Nodup)(t:l7 kvs):(aM kvs).Nodup:=by
 induction kvs with
 |nil=>exact je
 |cons q r ih=>
  obtain⟨h1,h2⟩:=gG.mp h
  have t2:l7 r:=λx m=>t x (bX _ m)
  refine gG.mpr ⟨λm=>h1 ?_,ih h2 t2⟩
  obtain⟨x,ex⟩:=t q bz
  obtain⟨y,my,ey⟩:=bM.mp m
  obtain⟨z,ez⟩:=t2 y my
  refine bM.mpr ⟨y,my,?_⟩
  dsimp only at ey ⊢
  rw[ex,ez] at ey
  rw[ex,ez]
  exact fc Sum.inr ey
structure Kp(Z:Addr->Prop)(H H':Hp):Prop where
 lz:∀b o,(∀l,o ≠ .lst l)->(∀l,o ≠ .dK l)->H b=some o->H' b=some o
 lst:∀b l,Z b->H b=some (.lst l)->H' b=some (.lst l)
theorem Kp.tup(k:Kp Z H H'){o:List V}(h:H b=some (.tup o)):H' b=some (.tup o):=k.lz _ _ (by intro _ z;cases z) (by intro _ z;cases z) h
theorem Kp.ins(k:Kp Z H H'){fs:List (Str×V)}(h:H b=some (.ins C dx fs)):H' b=some (.ins C dx fs):=k.lz _ _ (by intro _ z;cases z) (by intro _ z;cases z) h
theorem rk.keep{g:Addr}(k:Kp Z H H')(h:rk K CG Z H g kn l R):rk K CG Z H' g kn l R:=by
 obtain⟨dq,a,ce,cH,wo,xs,cs,h1,h2,h3,z3,h4,h5,z5,h6⟩:=h.ex
 exact⟨dq,a,ce,cH,wo,xs,cs,k.ins h1,k.tup h2,k.lst _ _ z3 h3,z3,Paired.bU h4 λr x e=>e.gc λb o e=>k.tup e,k.lst _ _ z5 h5,z5,Paired.bU h6 λi x e=>let ⟨q,us,e1,e2,e3,e4⟩:=e;⟨q,us,e1,e2,k.lst _ _ e2 e3,e4.lists λb o e=>k.tup e⟩⟩
theorem rk.weak{g:Addr}(k:∀b o,Z b->H b=some o->Z' b)(h:rk K CG Z H g kn l R):rk K CG Z' H g kn l R:=by
 obtain⟨dq,a,ce,cH,wo,xs,cs,h1,h2,h3,z3,h4,h5,z5,h6⟩:=h.ex
 exact⟨dq,a,ce,cH,wo,xs,cs,h1,h2,h3,k _ _ z3 h3,h4,h5,k _ _ z5 h5,Paired.bU h6 λi x e=>let ⟨q,us,e1,e2,e3,e4⟩:=e;⟨q,us,e1,k _ _ e2 e3,e3,e4⟩⟩
section
variable{w:World}
def RP(K:Frag)(CB CG CS:Addr):Sp:=λvs H Q _=>∃(a bk d:Addr) (l:List Str) (w:Nat) (R:List (List C2)) (kvs:List (Key×V)),vs=[.ref bk,.ref a]/\H a=some (.tup (l.map V.str))/\cy l w R/\fW CB H bk d kvs/\kvs.length<64/\(∀x∈aM kvs,cP x=true)/\ua kvs/\
 ∀(s g kn wo:Addr) (H':Hp),af H H'->H kn=none->rk K CG (λb=>H b=none) H' g kn l R->H' kn=some (.dK [])->Std CS (λb=>H b=none) H' s g l R (aM kvs) (wq kvs)->Q (.ref s) H'
theorem Dq:bh ["book","sheet","ground","patterns","fits"] ["book","sheet"] (aN (top 46)):={}
theorem aet(B:Bl mg)(F:aW K "first_standing" "first_standing" (top 46) f fd)(TG:de K CG)(TB:de K CB)(Dm:bW K CG "cells")(Jp:Fn P w K mg base "pattern" 2 (Hn K))(Jq:Mt P w K mg base CB "fitting" 2 (P5 CB) [])(wO:Mt P w K mg base CB "worth" 5 (Hw CB) [])(aeu:Gp K CB "worth")(Jr:Nw P w K mg base "Ground" CG 6 (RD K CG CB))(wK:Nw P w K mg base "Standing" CS 1 (IL CS)):aK P w K mg base aP 8 f fd ["book","sheet"] (RP K CB CG CS):=by
 refine F.bE Dq λaE A outer s H vs Q E hr h=>?_
 refine hide λG_ aD=>?_
 obtain⟨a,bk,d,l,wd,R,kvs,rfl,hT,FL,hB,fA,i9,Js,q⟩:=h
 refine aD.k ?_
 refine⟨_,(aq (aH 2 Dq.nd (BG Jr hr (ae (pv 0) (ae (pv 1) ag))))
  (aq (vv (i:=3) Dq.nd rfl (Or.inl rfl) (js:=[1]) (ns:=["sheet"]) (dJ (dC (pv 2) rfl)) rfl rfl rfl rfl (λ_ _ _ _=>lg) (λ_ _ _ _=>(aR Jp hr (ae (pv 1) (ae (pv 0) ag)))))
  (aq (vv (i:=4) Dq.nd rfl (Or.inl rfl) (js:=[0]) (ns:=["book"]) (dJ (pv 3)) rfl rfl rfl rfl (λ_ _ _ _=>lg) (λ_ _ _ _=>(Zx (K:=K) rfl wO aeu (hr.mono (by decide)) (by rfl) B.BZ By (ae (qB Jq hr (pv 1) (ae (pv 0) ag)) ag) (pv 1) rfl)))
  (au (aS (BG wK hr (ae (pv 2) (ae (pv 3) (ae (pv 4) ag))))))))),?_⟩
 try dsimp only[bt]
 have eR:=FL.eq
 subst eR
 have S:=FL.sh
 obtain⟨⟨z9,qE⟩,Jh,Aa,rj⟩:=id hB
 have dy:(aM kvs).Nodup:=RO Aa rj
 refine⟨_,rfl,_,rfl,λg dq hg Ab cE=>?_⟩
 have o0:af H (upd (upd H dq (.own g)) g (.ins CG dq [])):=λb o e=>by rw[ar (bC e hg),ar (bC e Ab)];exact e
 have g0:upd (upd H dq (.own g)) g (.ins CG dq []) g=some (.ins CG dq []):=ao
 generalize upd (upd H dq (.own g)) g (.ins CG dq [])=H0 at o0 g0
 refine⟨g,dq,a,bk,d,l,wd,kvs,rfl,g0,ak.of (o0 _ _ hT),S,FL.good,hB.mono o0,fA,i9,λce cH wo kn xs cs wdd H1 off g1 wQ nO uh RQ ui Jt RE wR hwv Jf aev=>⟨rfl,?_⟩⟩
 have s1:af H H1:=λb o e=>off b o (bC e hg) (o0 b o e)
 have fD:=uh.length
 have kH:=qQ S
 rw[<-zF] at kH
 refine⟨_,rfl,g,CG,dq,_,_,rfl,g1,TG,Dm,Rh ..,ce,rfl,⟨_,aj.of nO⟩,?_⟩
 refine comp_map kg (by lia) (λ_ i y _=>y = .str (ax l (ai (aG l wd) i))) (λH2 s2=>aj.of (s2 _ _ nO)) (λ_ _ _ _ _ _ _ _ h=>h) ?_ ?_
 .intro D i y H2 Z hD hy s2 _ k1
  refine hide λG_ aX=>?_
  obtain⟨row,hrow,t,ys,rfl,ht,mw⟩:=Paired.get uh hy
  refine aX.k ?_
  have nM:ai (aG l wd) i=row:=b7 hrow
  have aY:=jE S (bj hrow)
  exact⟨_,rfl,_,rfl,a,t,l,wd,row,ys,rfl,ak.of ((s1.trans s2) _ _ hT),S,s2 _ _ ht,mw.mono s2,by lia,λc hc=>⟨(aY.2.2 c hc).1,(aY.2.2 c hc).2.1⟩,λH3 s3=>k1 _ _ s3 (by rw[nM])⟩
 .intro pp ys H2 yF Dr s2 pr
  have e:=oZ pr
  have e2:(List.range xs.length).map (λi=>V.str (ax l (ai (aG l wd) i)))=(aG l wd).map (λr=>V.str (ax l r)):=by
   rw[<-fD]
   exact o9 (λr=>V.str (ax l r)) [] (aG l wd)
  rw[e2] at e
  have e3:ys=((aG l wd).map (ax l)).map V.str:=by rw[e,kO];rfl
  rw[e3] at Dr
  clear e e2 e3 pr
  have iI:=s1.trans s2
  refine⟨_,rfl,pp,rfl,⟨_,aj.of Dr⟩,?_⟩
  refine comp_map kg (by rw[aw,aw];lia) (λD i y H4=>∃q ws,y = .ref q/\q≠D/\H q=none/\H4 q=some (.lst (ws.map V.str))/\mH (aM kvs) (wq kvs) (((aG l wd).map (ax l)).getD i ⟨#[]⟩) ws/\ws.length<=64) (λH3 s3=>aj.of (s3 _ _ Dr)) (λD i y Ha Hb _ _ k h=>?_) ?_ ?_
  .refine hide λG_ bK=>?_
   obtain⟨q,ws,e1,e2,e3,e4,e5⟩:=h
   refine bK.k ?_
   exact⟨q,ws,e1,e2,e3,k _ _ e2 e4,e5⟩
  .intro D i y H3 Z hD hy s3 hDo k1
   rw[bw] at hy
   refine hide λG_ cJ=>?_
   obtain⟨pt,hpt,rfl⟩:=iO.mp hy
   have qP:((aG l wd).map (ax l)).getD i ⟨#[]⟩=pt:=b7 hpt
   have hpl:pt.length<=9:=by
    obtain⟨r,mr,rfl⟩:=bM.mp (bj hpt)
    rw[fF]
    exact(jE S mr).2.1
   have dH:=iI.trans s3
   have Ju:=hB.mono dH
   obtain⟨⟨dx3,aew⟩,_⟩:=id Ju
   refine cJ.k ?_
   refine⟨_,rfl,bk,dx3,_,rfl,aew,tR _ (by decide +kernel),_,rfl,bk,d,kvs,pt,rfl,Ju,fA,by lia,λx mx=>by have:=zd (i9 x mx);lia,λlf H4 Ds s4 hLf=>?_⟩
   have RS:=Ju.mono s4
   obtain⟨⟨dx4,aex⟩,_⟩:=id RS
   have RT:∀x,x∈cV ((aM kvs).filter λx=>cX x pt)↔x∈aM kvs/\cX x pt=true:=λx=>by rw[(iV _).mem_iff,cq]
   have mf:(cV ((aM kvs).filter λx=>cX x pt)).length<=kvs.length:=by
    rw[(iV _).length_eq]
    exact bF (fY _ _) (by rw[wm];exact aO _)
   refine⟨_,rfl,lf,_,bk,dx4,_,wq kvs,rfl,rfl,aj.of hLf,by lia,aex,tR _ (by decide +kernel),λx mx H5 s5 Q' hQ' =>?_,λp out H5 hp s5 qY Jv hpw=>?_⟩
   .have i7:=((RT x).mp mx).1
    exact⟨bk,d,kvs,x,_,rfl,RS.mono s5,i9 x i7,acR rj Js i7,λH6 s6=>hQ' H6 s6⟩
   .obtain⟨o,ho⟩:=hDo
    refine k1 _ _ (s4.trans s5) ⟨p,out,rfl,(λz=>by rw[z,s4 _ _ ho] at hp;cases hp),?_,qY,?_,by rw[Jv.length_eq];lia⟩
    .cases eb:H p with
     |none=>rfl
     |some o'=>rw[s4 _ _ (dH _ _ eb)] at hp;cases hp
    .rw[qP]
     exact⟨Jv.nodup_iff.mpr ((iV _).nodup_iff.mpr (dy.filter _)),λx=>by rw[Jv.mem_iff];exact RT x,hpw⟩
  .intro fl fs H3 d7 aey s3 pr
   have dH:=iI.trans s3
   refine⟨_,rfl,_,rfl,_,rfl,λs' pK oB Jd aiL=>⟨s',pK,.ref g,.ref pp,.ref fl,rfl,ao,λH' h1 h2=>⟨rfl,?_⟩⟩⟩
   have h6:af H3 H':=λb o e=>h2 _ _ (λz=>by rw[z,oB] at e;cases e) (by rw[ar (λz=>by rw[z,oB] at e;cases e),ar (λz=>by rw[z,Jd] at e;cases e)];exact e)
   have uj:af H1 H':=s2.trans (s3.trans h6)
   refine q s' g kn wo H' (dH.trans h6) (o0.free Jf) ⟨dq,a,ce,cH,.ref wo,xs,cs,uj _ _ g1,(dH.trans h6) _ _ hT,uj _ _ nO,?_,Paired.bU uh λr x h=>h.gc λb o e=>uj _ _ e,uj _ _ ui,?_,Paired.bU Jt λi x h=>?_⟩ (uj _ _ aev) ⟨pK,pp,fl,fs,h1,h6 _ _ (s3 _ _ Dr),s1.free yF,h6 _ _ aey,iI.free d7,?_⟩
   .cases eb:H ce with
    |none=>rfl
    |some o=>rw[o0 _ _ eb] at wQ;cases wQ
   .cases eb:H cH with
    |none=>rfl
    |some o=>rw[o0 _ _ eb] at RQ;cases RQ
   .refine hide λG_ eT=>?_
    obtain⟨qq,us,e1,e2,e3,e4⟩:=h
    refine eT.k ?_
    refine⟨qq,us,e1,?_,uj _ _ e3,e4.lists λb o e=>uj _ _ e⟩
    cases eb:H qq with
    |none=>rfl
    |some o=>rw[o0 _ _ eb] at e2;cases e2
   .rw[aw] at pr
    refine Je ⟨#[]⟩ _ fs 0 ?_
    rw[<-List.range_eq_range']
    exact Paired.bU pr λi y h=>let ⟨qq,ws,e1,_,e3,e4,e5,e6⟩:=h;⟨qq,ws,e1,e3,h6 _ _ e4,e5,e6⟩
end
theorem bP.op(A:bP s m w)(h1:c.1<m.length)(h2:c.2<w):bL s c=bL m c:=by
 have a:=A.cl c h1 h2
 unfold bL
 by_cases h:sg m c=46
 .have e1:¬sg s c=35:=a.2 h
  have e2:¬sg m c=35:=by lia
  rw[aI e1,aI e2]
 .rw[a.1 h]
theorem bP.rows(A:bP s m w):aG s w=aG m w:=Iy A.ln λ_ h1 h2=>A.op h1 h2
theorem bP.get(F:cy m w R)(A:bP s m w){k:Nat}(hc:(ai R pl)[k]? = some c):(ax m (ai R pl)).cps.toList.getD k 0=46\/(ax m (ai R pl)).cps.toList.getD k 0=(ax s (ai R pl)).cps.toList.getD k 0:=by
 have hb:=F.pJ hc
 rw[b7 (i4 hc),b7 (i4 hc)]
 by_cases h:sg m c=46
 .exact .inl h
 .exact .inr ((A.cl c hb.1 hb.2.1).1 h).symm
theorem bP.fit(F:cy m w R)(A:bP s m w)(pl:Nat):cX (ax s (ai R pl)) (ax m (ai R pl))=true:=by
 refine i5.mpr ⟨by rw[fF,fF],λk hk=>?_⟩
 rw[fF] at hk
 exact A.get F (bf hk)
theorem bP.put(F:cy m w R)(A:bP s m w)(pl:Nat)(hx:jG (ax s (ai R pl))):bP s (putL m (ai R pl) (ax s (ai R pl)).cps.toList) w:=by
 have hlen:=mG m (ai R pl) (ax s (ai R pl)).cps.toList
 refine⟨A.sh,by rw[A.ln,hlen],λc h1 h2=>?_⟩
 rw[hlen] at h1
 rcases zL F pl (fF s (ai R pl)) h1 h2 with ⟨k,ch,hk,hch,e⟩ | ⟨_,e⟩
 .have hb:=hx ch (bj hch)
  rw[i4 hk] at hch
  rw[e,cY hch]
  exact⟨λ_=>rfl,λh=>by lia⟩
 .rw[e]
  exact A.cl c h1 h2
theorem bP.left(F:cy m w R)(A:bP s m w)(hw:∀x∈ks,cP x=true)(hf:cB ks s w=true)(hpl:pl<R.length):ax s (ai R pl)∈dG m R pl ks:=by
 obtain⟨_,nd,h3⟩:=qS hf
 have et:cR s w=R.map (ax s):=by unfold cR;rw[A.rows,F.eq]
 rw[et] at nd h3
 have hk:∀i,i<R.length->ax s (ai R i)∈ks:=λi hi=>h3 _ (mU (qV hi))
 unfold dG
 refine cq.mpr ⟨(iV _).mem_iff.mpr (cq.mpr ⟨hk pl hpl,A.fit F pl⟩),?_⟩
 rw[aI]
 .rfl
 intro h
 obtain⟨i,hi,cE,e⟩:=IA.mp h
 have b6:=(adl (hw _ (hk pl hpl))).adm
 have e2:ax s (ai R i)=ax m (ai R i):=by
  apply nA
  apply jP
  intro k
  by_cases jq:k<(ai R i).length
  .have hc:(ai R i)[k]? = some (ai R i)[k]:=bf jq
   have hb:=F.pJ hc
   rw[i4 hc,i4 hc,(A.cl _ hb.1 hb.2.1).1 λz=>b6 ?_]
   rw[<-e,kI,<-z]
   exact mU (bj hc)
  .rw[cZ (by rw[kI,aw];lia),cZ (by rw[kI,aw];lia)]
 have e3:(R.map (ax s))[i]? = (R.map (ax s))[pl]? :=by
  rw[lA R _ hi,lA R _ hpl,e2,e]
 exact cE ((List.getElem?_inj (by rw[aw];exact hi) nd).mp e3)
theorem bP.same(S:aZ m w)(A:bP s m w)(h:dU m=false):s=m:=by
 refine Iz A.sh.dn S.dn A.ln λc h1 h2=>?_
 rw[A.ln] at h1
 refine(A.cl c h1 h2).1 λz=>?_
 obtain⟨x,hx,mx,_,hl,hj⟩:=S.row h1
 have:dU m=true:=by
  unfold dU
  refine uG.mpr ⟨x,mx,aJ ?_⟩
  rw[<-z]
  exact bj (hj _ h2)
 rw[h] at this
 cases this
noncomputable def csF(pl q:V):List (Str×V):=bc "parts" q (bc "place" pl [])
def kM(H:Hp)(ts:List Addr)(dI:List (List Str)):Prop:=Paired (λt s=>H t=some (.tup (s.map V.str))) ts dI
theorem kM.keep(k:∀b o,(∀l,o ≠ .lst l)->(∀l,o ≠ .dK l)->H b=some o->H' b=some o)(h:kM H ts dI):kM H' ts dI:=Paired.bU h λ_ _ e=>k _ _ (by intro _ z;cases z) (by intro _ z;cases z) e
def KX(kn fo:Addr)(H H':Hp):Prop := ∀b o,b≠kn->b≠fo->H b=some o->H' b=some o
theorem KX.trans{H2:Hp}(a:KX kn fo H H1)(b:KX kn fo H1 H2):KX kn fo H H2:=λc o n1 n2 e=>b c o n1 n2 (a c o n1 n2 e)
theorem KX.of(a:af H H1):KX kn fo H H1:=λc o _ _ e=>a c o e
theorem KX.kp(k:KX kn fo H H')(hk:H kn=some (.dK kvs))(hf:H fo=some (.lst ys))(hz:¬Z fo):Kp Z H H':=
 ⟨λb o n1 n2 e=>k b o (λz=>by rw[z,hk] at e;exact n2 _ (cY e).symm) (λz=>by rw[z,hf] at e;exact n1 _ (cY e).symm) e,λb l z e=>k b _ (λy=>by rw[y,hk] at e;cases e) (λy=>hz (y ▸ z)) e⟩
theorem KX.none{kn fo:Addr}{H H':Hp}(k:KX kn fo H H')(hk:∃o,H' kn=some o)(hf:∃o,H' fo=some o){b:Addr}(e:H' b=none):H b=none:=by
 obtain⟨ok,hk⟩:=hk
 obtain⟨of,hf⟩:=hf
 cases eb:H b with
 |none=>rfl
 |some o=>rw[k b o (λz=>by rw[z,hk] at e;cases e) (λz=>by rw[z,hf] at e;cases e) eb] at e;cases e
theorem RU(hpl:pl<R.length):x∈gn (R.map (ax m)) pl↔x∈pF m R pl:=by
 rw[IA]
 unfold gn
 rw[cS]
 constructor
 .rintro(h | h)
  .obtain⟨i,hi⟩:=fJ h
   have aT:i<pl:=by
    have:=(bY.mp hi).1
    rw[jN] at this
    lia
   rw[AA aT,lA R _ (by lia)] at hi
   exact⟨i,by lia,by lia,cY hi⟩
  .obtain⟨i,hi⟩:=fJ h
   have aT:=(bY.mp hi).1
   rw[Em,aw] at aT
   rw[List.getElem?_drop,lA R _ (by lia)] at hi
   exact⟨_,by lia,by lia,cY hi⟩
 .rintro⟨i,h1,h2,e⟩
  have hg:=lA R (ax m) h1
  rcases Nat.lt_or_gt_of_ne h2 with z | z
  .refine Or.inl ?_
   exact bj (i:=i) (by rw[AA z,hg,e])
  .refine Or.inr ?_
   exact bj (i:=i - (pl+1)) (by rw[List.getElem?_drop,show pl+1+(i - (pl+1))=i from by lia,hg,e])
theorem RV(F:cy m w R)(h:∀r∈R,46∉(ax m r).cps.toList):dU m=false:=by
 refine fK.mpr λz=>?_
 unfold dU at z
 obtain⟨x,mx,hx⟩:=uG.mp z
 have hx:46∈x.cps.toList:=fG hx
 obtain⟨i,hi⟩:=fJ mx
 obtain⟨j,hj⟩:=fJ hx
 have zI:=(bY.mp hi).1
 obtain⟨y,hy,_,_,ly,t9⟩:=F.sh.dn.row zI
 rw[hi] at hy
 cases hy
 have zJ:j<w:=by
  have:=(bY.mp hj).1
  lia
 have e:=t9 j zJ
 rw[hj] at e
 have RW:sg m (i,j)=46:=(cY e).symm
 have ho:bL m (i,j)=true:=by
  unfold bL
  rw[RW]
  rfl
 obtain⟨a,b,hab⟩:=F.all (i,j) zI zJ ho
 refine h _ (qV (mF hab).1) ?_
 rw[kI,<-RW]
 exact mU (bj hab)
theorem Jw(h:cP x=true):jG x:=by
 unfold cP at h
 rw[d9,d9] at h
 intro ch m
 have hl:=fG (lL.mp h.2.2 ch m)
 have:∀c∈iX.cps.toList,97<=c/\c<=122:=by decide +kernel
 exact this ch hl
theorem Dt(g p f:V){m:Str}(h1:¬m="fits")(h2:¬m="patterns")(h3:¬m="ground"):(i6 g p f).lookup m=none:=by
 unfold i6
 rw[dm,av h1,dm,av h2,dm,av h3]
 rfl
theorem RX{Z:Addr->Prop}{H:Hp}{ks:List Str}{wf:Str->Int}:∀{pats:List Str}{fs:List V},Paired (g9 Z H ks wf) pats fs->∃dW,Rn H dW fs/\Paired (λt ws=>mH ks wf t ws) pats dW
 |_,_,.nil=>⟨[],.nil,.nil⟩
 |_,_,.cons ⟨q,ws,e,_,h1,h2,h3⟩ r=>by
  obtain⟨dW,a,b⟩:=RX r
  exact⟨ws::dW,.cons ⟨q,e,h1,h3⟩ a,.cons h2 b⟩
section
variable{w:World}
def Jx(C:Addr):Sp:=λvs H Q _=>∃(s dx q:Addr) (p:V) (us:List V),vs=[.ref s,p,.ref q]/\H s=some (.ins C dx [])/\H q=some (.lst us)/\∀(r:Addr) (H':Hp),H r=none->H' s=some (.ins C dx (csF p (.ref r)))->H' r=some (.lst us)->(∀b o,b≠s->H b=some o->H' b=some o)->Q .aB H'
theorem aez:bh ["self","place","parts"] ["self","place","parts"] (aN (inClass (top 41) 0)):={}
theorem aeA(B:Bl mg)(F:aW K "__init__" "Cases.__init__" (inClass (top 41) 0) f fd)(T:de K C)(np:bW K C "place")(nq:bW K C "parts"):aK P w K mg base aP 1 f fd ["self","place","parts"] (Jx C):=by
 refine F.bE aez λaE A outer s H vs Q E hr h=>?_
 refine hide λG_ aD=>?_
 obtain⟨s,dx,q,p,us,rfl,hs,hq,k⟩:=h
 refine aD.k ?_
 refine⟨_,(aq (lP (pv 0) (pv 1) rfl)
  (au (lP (pv 0) (jY vk (by rfl) B.tK sP (ae (pv 2) ag)) rfl))),?_⟩
 try dsimp only[bt]
 refine⟨_,rfl,_,rfl,s,C,dx,[],rfl,hs,T,np,(by show 0<1000;decide),?_⟩
 have nqs:q≠s:=bT hq hs (by intro z;cases z)
 refine⟨_,rfl,q,us,rfl,.inl (aj.of (by rw[ar nqs];exact hq)),λr fE=>?_⟩
 have Du:r≠s:=λz=>by rw[z,ao] at fE;cases fE
 refine⟨_,rfl,s,C,dx,_,rfl,by rw[ar (bo Du)];exact ao,T,nq,(by show 1<1000;decide),?_⟩
 refine k r _ (by rw[ar Du] at fE;exact fE) ao (by rw[ar Du];exact ao) λb o hb e=>?_
 rw[ar Du] at fE
 rw[ar hb,ar (λz=>by rw[z,fE] at e;cases e),ar hb]
 exact e
structure aeB(K:Frag)(CG CS:Addr)(Z:Addr->Prop)(M:Str->Prop)(H:Hp)(s g kn fo:Addr)(most w n:Nat)(l m ks:List Str)(wf:Str->Int)(R:List (List C2))(kvs:List (Key×V))(ts:List Addr)(dI:List (List Str)):Prop where
 e1:rk K CG Z H g kn l R
 e2:Std CS Z H s g m R ks wf
 e3:H kn=some (.dK kvs)
 e4:iG Z M H ks wf kvs
 e5:C5 M
 e6:∀m' pl x k i,cy m' w R->m'.length=l.length->pl<R.length->x∈ks->cX x (ax m' (ai R pl))=true->(∀j,j<R.length->46∈(ax m' (ai R j)).cps.toList->∃y∈ks,cX y (ax m' (ai R j))=true)->i<R.length->46∈(ax m' (ai R i)).cps.toList->M (ax (putL m' ((ai R pl).take k) (x.cps.toList.take k)) (ai R i))
 e7:cy l w R
 e8:cy m w R
 e9:m.length=l.length
 ea:R.length<=200
 eb:∀x∈ks,cP x=true
 ec:ks.Nodup
 ed:ks.length<64
 ee:∀q,H q=none->Z q
 ef:¬Z fo
 eg:H fo=some (.lst (ts.map V.ref))
 eh:kM H ts dI
 ei:dI.length<most
 ej:most<=1000
 ek:(dk m w).length<n
structure aeC(Z:Addr->Prop)(M:Str->Prop)(H H':Hp)(CW CC kn fo:Addr)(most w n:Nat)(m ks:List Str)(wf:Str->Int)(R:List (List C2))(kvs:List (Key×V))(ts eE:List Addr)(dI new:List (List Str))(v:V):Prop where
 e1:KX kn fo H H'
 e2:H' kn=some (.dK kvs)
 e3:iG Z M H' ks wf kvs
 e4:H' fo=some (.lst ((ts++eE).map V.ref))
 e5:kM H' (ts++eE) (dI++new)
 e6:new.Nodup
 e7:∀s∈new,bP s m w/\cB ks s w=true
 e8:(v = .aB/\(dI++new).length=most)\/(v ≠ .aB/\(dI++new).length<most/\∀s,bP s m w->cB ks s w=true->s∈new)
def Dv(K:Frag)(CG CS CW CC:Addr)(n:Nat):Sp:=λvs H Q _=>∃(s g kn fo:Addr) (most w:Nat) (l m ks:List Str) (wf:Str->Int) (R:List (List C2)) (kvs:List (Key×V)) (Z:Addr->Prop) (M:Str->Prop) (ts:List Addr) (dI:List (List Str)),vs=[.ref s,.int (most:Int),.ref fo]/\aeB K CG CS Z M H s g kn fo most w n l m ks wf R kvs ts dI/\∀v new eE wI H',aeC Z M H H' CW CC kn fo most w n m ks wf R wI ts eE dI new v->Q v H'
structure aeD(Z:Addr->Prop)(M:Str->Prop)(H3 Hi:Hp)(CW CC kn fo pa:Addr)(most w n pl i:Nat)(m ks:List Str)(wf:Str->Int)(R:List (List C2))(Xs:List Str)(ts eE:List Addr)(dI new:List (List Str))(kv:List (Key×V))(us:List V):Prop where
 e1:∀b o,b≠kn->b≠fo->b≠pa->H3 b=some o->Hi b=some o
 e2:Hi kn=some (.dK kv)
 e3:iG (λb=>Z b/\b≠pa) M Hi ks wf kv
 e4:Hi fo=some (.lst ((ts++eE).map V.ref))
 e5:kM Hi (ts++eE) (dI++new)
 e6:new.Nodup
 e7:∀s∈new,bP s m w/\cB ks s w=true/\ax s (ai R pl)∈Xs.take i
 e8:(dI++new).length<most
 e9:Hi pa=some (.lst us)
 ea:us.length=i
 eb:∀s,bP s m w->cB ks s w=true->ax s (ai R pl)∈Xs.take i->s∈new
theorem wU:bh ["standing","most","found","place","parts","word","paper"] ["standing","most","found"] (aN (top 51)):={}
theorem aeE(n:Nat)(B:Bl mg)(F:aW K "closing_paper" "closing_paper" (top 51) f fd)(Jy:Fn P w K mg base "closing_paper" (n+4) (Dv K CG CS CW CC n))(wV:Mt P w K mg base CS "narrowest" 1 (IP CS) [])(wW:Mt P w K mg base CS "filled" 3 (IW K CS CG) [])(wX:Mt P w K mg base CS "left" 1 (IM K CS) [])(wY:Mt P w K mg base CS "after" 3 (IZ K CS CG) [])(wZ:BO K mg "Whole" CW)(w6:Nw P w K mg base "Cases" CC 1 (Jx CC)) :
  aK P w K mg base aP (n+5) f fd ["standing","most","found"] (Dv K CG CS CW CC (n+1)):=by
 refine F.bE wU λaE A outer s H vs Q E hr h=>?_
 refine hide λG_ aD=>?_
 obtain⟨s0,g,kn,fo,most,wd,l,m,ks,wf,R,kvs,Z,M,ts,dI,rfl,⟨hG,hS,dy,hK,hM,RY,FL,FM,qZ,uf,i9,b6,fA,hZ,Dw,dZ,hF,aT,hmo,hn⟩,q⟩:=h
 refine aD.k ?_
 refine⟨_,(aq (bH (bO VH (bg dX (by rfl) B.cj b9 (ae (pv 2) ag)) (pv 1))
  (au (aS jU))
  bN)
  (aq (aH 3 wU.nd (FW wV hr (pv 0)))
  (aq (bH (bO x4 (pv 3) jU)
  (aq (d6 (fq iQ jf jg gS (pv 2) (ae (FW wW hr (pv 0)) ag)))
   (au (aS (Vf (bO mZ (bg dX (by rfl) B.cj b9 (ae (pv 2) ag)) (pv 1)) (ZV wZ (by rfl)) jU))))
  bN)
  (aq (aH 4 wU.nd (du ag))
  (aq (cD (dJ (qB wX hr (pv 0) (ae (pv 3) ag))) (bI 5 wU.nd)
  (aq (aH 6 wU.nd (aR Jy hr (ae (qB wY hr (pv 0) (ae (pv 3) (ae (pv 5) ag))) (ae (pv 1) (ae (pv 2) ag)))))
   (aq (bH (bO x4 (pv 6) jU)
   (au (aS jU))
   bN)
   (au (d6 (fq iQ jf jg gS (pv 4) (ae (fm (ae (pv 5) (ae (pv 6) ag))) ag (hs:=dN rfl))))))))
  (au (aS (BG w6 hr (ae (pv 3) (ae (pv 4) ag)))))))))),?_⟩
 try dsimp only[bt]
 refine hide λG_ aX=>?_
 obtain⟨dx,p,fl,fs,hs,hp,zp,d7,zfl,wL⟩:=hS.ex
 obtain⟨dq,a,ce,cH,wo,xs,cs,hg,hT,nO,zce,uh,ui,aeF,Jt⟩:=hG.ex
 obtain⟨dW,Jz,Dx⟩:=RX wL
 refine aX.k ?_
 have IQ:=Jz.length
 have RZ:=Dx.length
 rw[aw] at RZ
 have Ac:=gE hF
 have R0:∀{i:Nat},i<R.length->(R.map (ax m)).getD i ⟨#[]⟩=ax m (ai R i):=λhi=>b7 (lA R _ hi)
 refine⟨_,rfl,fo,_,rfl,.inl (aj.of dZ),_,rfl,_,_,rfl,rfl,_,rfl,?_⟩
 rw[aI (by rw[aw];lia)]
 refine aQ ?_
 refine⟨_,rfl,s0,dx,_,rfl,hs,Dt _ _ _ (by decide +kernel) (by decide +kernel) (by decide +kernel),s0,dx,p,fl,.ref g,R.map (ax m),dW,fs,rfl,hs,hp,d7,Jz,by rw[aw];exact RZ.symm,by rw[aw];exact uf,λt mt=>?_,λaeG H1 s1=>?_,λpl H1 hpl JA s1=>?_⟩
 .obtain⟨r,mr,rfl⟩:=bM.mp mt
  rw[fF]
  obtain⟨i,hi⟩:=fJ mr
  have:=(FM.len (bY.mp hi).1).2
  have e:ai R i=r:=b7 hi
  rw[e] at this
  lia
 .
  obtain⟨w8,hd2,ni⟩:=aeG
  have gr:dU m=false:=RV FM λr mr=>w8 _ (mU mr)
  have uc:cR m wd=R.map (ax m):=by
   unfold cR
   rw[FM.eq]
  have CZ:cB ks m wd=true:=by
   refine Ia gr (by rw[uc];exact hd2) (λx mx=>?_)
   rw[uc] at mx
   obtain⟨i,hi⟩:=fJ mx
   obtain⟨ws,hws,aeH⟩:=Paired.getL Dx hi
   have cE:=ni ws (bj hws)
   obtain⟨y,my⟩:∃y,y∈ws:=by
    cases ws with
    |nil=>exact absurd rfl cE
    |cons y r=>exact⟨y,bz⟩
   obtain⟨y1,y2⟩:=(aeH.mem y).mp my
   rw[<-Iw y2 (w8 x mx)]
   exact y1
  refine⟨_,rfl,rfl,_,rfl,?_⟩
  rw[aJ rfl]
  refine bp ⟨_,rfl,.inl ⟨rfl,_,aj.of (s1 _ _ dZ)⟩,?_⟩
  refine⟨_,rfl,s0,dx,_,rfl,s1 _ _ hs,Dt _ _ _ (by decide +kernel) (by decide +kernel) (by decide +kernel),s0,dx,g,dq,p,ce,a,.ref fl,.ref cH,wo,.ref kn,l,m,wd,R,xs,rfl,s1 _ _ hs,s1 _ _ hg,s1 _ _ hT,s1 _ _ nO,Paired.bU uh λr x e=>e.gc λb o e=>s1 _ _ e,s1 _ _ hp,FL,FM,qZ,λt H2 s2 ht=>?_⟩
  have iI:=s1.trans s2
  have xb:=iI _ _ dZ
  refine⟨fo,_,.ref t,rfl,rfl,xb,lj (by rw[aw];lia),?_⟩
  have o3:∀b o,b≠fo->H2 b=some o->upd H2 fo (.lst (ts.map V.ref++[.ref t])) b=some o:=λb o n e=>by rw[ar n];exact e
  have f3:upd H2 fo (.lst (ts.map V.ref++[.ref t])) fo=some (.lst ((ts++[t]).map V.ref)):=by rw[ao,eW];rfl
  generalize upd H2 fo (.lst (ts.map V.ref++[.ref t]))=H3 at o3 f3
  have Dy:KX kn fo H H3:=λb o _ n e=>o3 b o n (iI _ _ e)
  have JB:kn≠fo:=bT dy dZ (by intro z;cases z)
  have dS:H3 kn=some (.dK kvs):=o3 _ _ JB (iI _ _ dy)
  have ht3:H3 t=some (.tup (m.map V.str)):=o3 _ _ (bT ht xb (by intro z;cases z)) ht
  have kK:kM H3 (ts++[t]) (dI++[m]):=wC (hF.keep (Dy.kp dy dZ Dw).lz) (.cons ht3 .nil)
  have pL:=hK.keep λb o e z=>(Dy.kp dy dZ Dw).lst _ _ z e
  refine⟨_,rfl,fo,_,rfl,.inl (aj.of f3),_,rfl,_,_,rfl,rfl,_,rfl,?_⟩
  have Ad:∀s∈[m],bP s m wd/\cB ks s wd=true:=λs ms=>by rw[cn.mp ms];exact⟨bP.refl FM.sh,CZ⟩
  by_cases vE:dI.length+1<most
  .rw[aJ (by rw[aw,di,Eo];lia)]
   refine bp λx uk hx Ab cE=>?_
   have s4:af H3 (upd (upd H3 uk (.own x)) x (.ins CW uk [])):=λb o e=>by rw[ar (bC e hx),ar (bC e Ab)];exact e
   have pM:upd (upd H3 uk (.own x)) x (.ins CW uk []) x=some (.ins CW uk []):=ao
   generalize upd (upd H3 uk (.own x)) x (.ins CW uk [])=H4 at s4 pM
   refine q (.ref x) [m] [t] kvs H4 ⟨Dy.trans (KX.of s4),s4 _ _ dS,pL.keep λb o e _=>s4 _ _ e,s4 _ _ f3,kK.keep λb o _ _ e=>s4 _ _ e,by simp,Ad,.inr ⟨(by intro z;cases z),by rw[di,Eo];exact vE,λs A _=>by rw[A.same FM.sh gr];exact bz⟩⟩
  .rw[aI (by rw[aw,di,Eo];lia)]
   exact aQ (q .aB [m] [t] kvs H3 ⟨Dy,dS,pL,f3,kK,by simp,Ad,.inl ⟨rfl,by rw[di,Eo];lia⟩⟩)
 .
  rw[aw] at hpl
  rw[R0 hpl] at JA
  refine⟨_,rfl,rfl,_,rfl,?_⟩
  rw[aI (by intro z;cases z)]
  refine aQ ⟨bG _,λpa y9=>?_⟩
  have s2:af H (upd H1 pa (.lst [])):=s1.trans (af.upd y9)
  have JC:upd H1 pa (.lst []) pa=some (.lst []):=ao
  have aeI:H pa=none:=s1.free y9
  generalize upd H1 pa (.lst [])=H2 at s2 JC
  refine hide λG_ bK=>?_
  obtain⟨ws,hws⟩:∃ws,dW[pl]? = some ws:=⟨_,bf (by lia)⟩
  obtain⟨fv,zT,lf,rfl,Ds,C9⟩:=Paired.getL Jz hws
  obtain⟨pt,hpt,z6⟩:=Paired.get Dx hws
  refine bK.k ?_
  rw[lA R _ hpl] at hpt
  cases hpt
  have i3:dW.getD pl []=ws:=b7 hws
  rw[i3] at JA
  refine⟨_,rfl,s0,dx,_,rfl,s2 _ _ hs,Dt _ _ _ (by decide +kernel) (by decide +kernel) (by decide +kernel),_,rfl,s0,dx,p,fl,lf,.ref g,R.map (ax m),ws,fs,pl,rfl,s2 _ _ hs,s2 _ _ hp,s2 _ _ d7,zT,s2 _ _ Ds,by rw[aw];exact hpl,by rw[aw];exact uf,C9,λlq H3 xc s3 JD=>⟨lq,rfl,⟨_,aj.of JD⟩,?_⟩⟩
  have JE:∀x,x∈(ws.filter λx=>!decide (x∈gn (R.map (ax m)) pl))->x∈ks/\cX x (ax m (ai R pl))=true/\x∈ws/\x∉gn (R.map (ax m)) pl:=λx mx=>by
   obtain⟨m1,m2⟩:=cq.mp mx
   have:=(z6.mem x).mp m1
   exact⟨this.1,this.2,m1,by simpa using m2⟩
  have JF:(ws.filter λx=>!decide (x∈gn (R.map (ax m)) pl)).Nodup:=z6.nd.filter _
  have aeJ:(ws.filter λx=>!decide (x∈gn (R.map (ax m)) pl)).length<64:=lK (Gz JF λx mx=>(JE x mx).1) fA
  have R1:cV (ws.filter λx=>!decide (x∈gn (R.map (ax m)) pl))=dG m R pl ks:=by
   rw[<-adp b6 z6]
   congr 1
   refine EC λx _=>?_
   by_cases z:x∈gn (R.map (ax m)) pl
   .rw[aJ z,aJ ((RU hpl).mp z)]
   .rw[aI z,aI λy=>z ((RU hpl).mpr y)]
  generalize hXs:(ws.filter λx=>!decide (x∈gn (R.map (ax m)) pl))=Xs at JD JE JF aeJ R1
  have iH:=s2.trans s3
  have aeK:=s3 _ _ JC
  have tN:∀b o,H b=some o->b≠pa:=λb o e=>bC e aeI
  have JB:kn≠fo:=bT dy dZ (by intro z;cases z)
  have jI:kn≠pa:=tN _ _ dy
  have R3:fo≠pa:=tN _ _ dZ
  have aeL:lq≠fo:=λz=>by rw[z,s2 _ _ dZ] at xc;cases xc
  have aeM:lq≠pa:=λz=>by rw[z,JC] at xc;cases xc
  have aeN:lq≠kn:=λz=>by rw[z,s2 _ _ dy] at xc;cases xc
  have JG:∀{Hi:Hp},(∀b o,b≠kn->b≠fo->b≠pa->H3 b=some o->Hi b=some o)->KX kn fo H Hi:=λk b o n1 n2 e=>k b o n1 n2 (tN b o e) (iH _ _ e)
  refine jl (K:=K) (xs:=Xs.map V.str) (λi O Hi=>∃(v5 v6:Option V) (eE:List Addr) (new:List (List Str)) (kv:List (Key×V)) (us:List V),O=[some (.ref s0),some (.int (most:Int)),some (.ref fo),some (.int (pl:Int)),some (.ref pa),v5,v6]/\aeD Z M H3 Hi CW CC kn fo pa most wd n pl i m ks wf R Xs ts eE dI new kv us)
   ⟨none,none,[],[],kvs,[],rfl,⟨λb o _ _ _ e=>e,iH _ _ dy,(hK.weak λb o z e=>⟨z,tN b o e⟩).keep λb o e _=>iH _ _ e,by rw[eV];exact iH _ _ dZ,by rw[eV,eV];exact hF.keep λb o _ _ e=>iH _ _ e,je,(λ_ ms=>nomatch ms),by rw[eV];exact aT,aeK,rfl,λs _ _ h=>nomatch h⟩⟩ ?_ ?_ ?_
  .rintro i O Hi _ ⟨v5,v6,eE,new,kv,us,rfl,CI⟩
   exact aj.of (CI.e1 _ _ aeN aeL aeM JD)
  .intro i y O Hi hy aeO
   refine hide λG_ cJ=>?_
   obtain⟨v5,v6,eE,new,kv,us,rfl,⟨off,Ae,JH,Af,um,JI,uo,JJ,Dz,Ag,vp⟩⟩:=aeO
   rw[bw] at hy
   obtain⟨x,hx,rfl⟩:=iO.mp hy
   have hi:i<Xs.length:=(bY.mp hx).1
   obtain⟨i7,dB,JK,R4⟩:=JE x (bj hx)
   have gM:Xs.take (i+1)=Xs.take i++[x]:=by rw[eJ,hx];rfl
   have hxn:x∉Xs.take i:=λz=>by
    have h1:(Xs.take (i+1)).Nodup:=JF.sublist (Ek _ _)
    rw[gM,qe] at h1
    exact h1.2.2 x z x (cn.mpr rfl) rfl
   obtain⟨gr,nt⟩:46∈(ax m (ai R pl)).cps.toList/\∀j,j<(R.map (ax m)).length->46∈((R.map (ax m)).getD j ⟨#[]⟩).cps.toList->ws.length<=(dW.getD j []).length:=by
    rcases JA with z | ⟨z1,z2⟩
    .exact z
    .exfalso
     rcases z2 with z2 | z2
     .rw[Iw dB z1] at R4
      exact R4 (by unfold gn;exact mQ _ z2)
     .rw[z2] at JK
      cases JK
   refine cJ.k ?_
   have gT:∀j,j<R.length->46∈(ax m (ai R j)).cps.toList->∃y∈ks,cX y (ax m (ai R j))=true:=λj hj cQ=>by
    have h1:=nt j (by rw[aw];exact hj) (by rw[R0 hj];exact cQ)
    obtain⟨wj,R5⟩:∃wj,dW[j]? = some wj:=⟨_,bf (by lia)⟩
    obtain⟨pj,R6,hFj⟩:=Paired.get Dx R5
    rw[lA R _ hj] at R6
    cases R6
    rw[b7 R5] at h1
    have h0:=List.length_pos_of_mem JK
    cases wj with
    |nil=>rw[El] at h1;lia
    |cons y r=>exact⟨y,(hFj.mem y).mp bz⟩
   have mK:=Jw (i9 x i7)
   have De:46∉x.cps.toList:=λz=>by have:=mK 46 z;lia
   have R7:x.length=(ai R pl).length:=by rw[(i5.mp dB).1,fF]
   have DA:=JG off
   have lE:=DA.kp dy dZ Dw
   have R8:¬(λb=>Z b/\b≠pa) fo:=λz=>Dw z.1
   have DB:∀b,Hi b=none->Z b/\b≠pa:=λb e=>⟨hZ b (DA.none ⟨_,Ae⟩ ⟨_,Af⟩ e),λz=>by rw[z,Dz] at e;cases e⟩
   have R9:∀b o,Z b->H b=some o->(Z b/\b≠pa):=λb o z e=>⟨z,tN b o e⟩
   have aeP:=Paired.bU Jt λi v (e:∃q us,v=V.ref q/\Z q/\H q=some (.lst us)/\bq H (lu R i) us)=>(show ∃q us,v=V.ref q/\Hi q=some (.lst us)/\bq Hi (lu R i) us from let ⟨q,us,e1,e2,e3,e4⟩:=e;⟨q,us,e1,lE.lst _ _ e2 e3,e4.lists λb o e=>lE.tup e⟩)
   have aiM:=Paired.bU wL λt v e=>(e.keep (H':=Hi) λb o e z=>lE.lst _ _ z e)
   have aeQ:Paired (g9 (λb=>Z b/\b≠pa) Hi ks wf) (R.map (ax m)) fs:=Paired.bU wL λt v e=>(e.weak R9).keep λb o e z=>lE.lst _ _ z.1 e
   refine⟨_,rfl,s0,dx,_,rfl,lE.ins hs,Dt _ _ _ (by decide +kernel) (by decide +kernel) (by decide +kernel),_,rfl,_,rfl,?_⟩
   refine⟨s0,dx,g,dq,p,fl,cH,kn,.ref a,.ref ce,wo,m,ks,wf,wd,pl,R,fs,cs,x,kv,(λb=>Z b/\b≠pa),M,rfl,⟨lE.ins hs,lE.ins hg,Ae,JH,hM,lE.lst _ _ zp hp,lE.lst _ _ zfl d7,aeQ,lE.lst _ _ aeF ui,aeP,FM,hpl,uf,dB,i7,De,DB,λk i hi cQ=>RY m pl x k i FM qZ hpl i7 dB gT hi cQ⟩,λs' pK p' cC xK Sa H5 SP=>?_⟩
   refine hide λG_ eT=>?_
   obtain⟨wH,aeR,o5,wN,Jb,Jc,tT,aeS,aeT⟩:=SP
   refine eT.k ?_
   have Sb:KX kn fo Hi H5:=λb o n _ e=>o5 b o n e
   have Sd:=o5 _ _ (bo JB) Af
   have aeU:=o5 _ _ (bo jI) Dz
   have Sf:Kp (λb=>Z b/\b≠pa) Hi H5:=Sb.kp Ae Af R8
   have aeV:Kp (λb=>Z b/\b≠pa) H Hi:=⟨lE.lz,λb l z e=>lE.lst b l z.1 e⟩
   have nn5:∀b,H5 b=none->Z b/\b≠pa:=λb e=>DB b (Sb.none ⟨_,wN⟩ ⟨_,Sd⟩ e)
   refine⟨_,rfl,_,rfl,s',g,kn,fo,most,wd,l,putL m (ai R pl) x.cps.toList,ks,wf,R,Sa,(λb=>Z b/\b≠pa),M,ts++eE,dI++new,rfl,⟨((hG.weak R9).keep aeV).keep Sf,⟨pK,p',cC,xK,Jc,tT,DB _ wH,aeS,DB _ aeR,aeT⟩,wN,Jb,hM,RY,FL,FM.put pl mK R7,by rw[mG,qZ],uf,i9,b6,fA,nn5,R8,Sd,um.keep Sf.lz,JJ,hmo,by have:=QX FM mK dB gr;lia⟩,λv nw Sg h8 H6 CP=>?_⟩
   refine hide λG_ pw=>?_
   obtain⟨kx,Sh,Si,JL,wu,aeW,JM,ur⟩:=CP
   refine pw.k ?_
   rw[pZ] at JL
   rw[pZ,pZ] at wu
   rw[pZ] at ur
   have iD:∀b o,b≠kn->b≠fo->b≠pa->H3 b=some o->H6 b=some o:=λb o n1 n2 n3 e=>kx b o n1 n2 (o5 b o n1 (off b o n1 n2 n3 e))
   have DC:=kx _ _ (bo jI) (bo R3) aeU
   have Sj:∀s∈nw,ax s (ai R pl)=x:=λs ms=>bP.text FM mK R7 (JM s ms).1
   have JN:∀s∈new++nw,bP s m wd/\cB ks s wd=true/\ax s (ai R pl)∈Xs.take (i+1):=λs ms=>by
    rw[gM]
    rcases cS.mp ms with z | z
    .exact⟨(uo s z).1,(uo s z).2.1,mQ _ (uo s z).2.2⟩
    .exact⟨bP.QV FM mK dB (JM s z).1,(JM s z).2,jc _ (by rw[Sj s z];exact bz)⟩
   have Sk:(new++nw).Nodup:=qe.mpr ⟨JI,aeW,λs ms t mt z=>by
    have h1:=(uo s ms).2.2
    rw[z,Sj t mt] at h1
    exact hxn h1⟩
   rcases ur with ⟨rfl,aeX⟩ | ⟨hv,aeY,eN⟩
   .refine⟨_,rfl,rfl,_,rfl,?_⟩
    rw[aJ rfl]
    exact bp (q .aB (new++nw) (eE++Sg) h8 H6 ⟨JG iD,Sh,Si.weak λb o z _=>z.1,JL,wu,Sk,λs ms=>⟨(JN s ms).1,(JN s ms).2.1⟩,.inl ⟨rfl,aeX⟩⟩)
   .refine⟨_,rfl,rfl,_,rfl,?_⟩
    rw[aI hv]
    have ID:us.length<=64:=by lia
    refine aQ ⟨_,rfl,.inl ⟨rfl,_,aj.of DC⟩,_,rfl,_,rfl,(by show 2<=sizeLine;decide),λt ht=>?_⟩
    have vU:t≠pa:=λz=>by rw[z,DC] at ht;cases ht
    refine⟨pa,us,_,rfl,rfl,by rw[ar (bo vU)];exact DC,lj (by lia),?_⟩
    have o7:∀b o,b≠pa->H6 b=some o->upd (upd H6 t (.tup [.str x,v])) pa (.lst (us++[.ref t])) b=some o:=λb o n e=>by rw[ar n,ar (bC e ht)];exact e
    have Sl:upd (upd H6 t (.tup [.str x,v])) pa (.lst (us++[.ref t])) pa=some (.lst (us++[.ref t])):=ao
    generalize upd (upd H6 t (.tup [.str x,v])) pa (.lst (us++[.ref t]))=H7 at o7 Sl
    have aeZ:Kp (λb=>Z b/\b≠pa) H6 H7:=⟨λb o n1 _ e=>o7 b o (λz=>by rw[z,DC] at e;exact n1 _ (cY e).symm) e,λb l z e=>o7 b _ z.2 e⟩
    refine⟨_,_,eE++Sg,new++nw,h8,us++[.ref t],rfl,⟨λb o n1 n2 n3 e=>o7 b o n3 (iD b o n1 n2 n3 e),o7 _ _ jI Sh,Si.keep λb o e z=>o7 b _ z.2 e,o7 _ _ R3 JL,wu.keep aeZ.lz,Sk,JN,aeY,Sl,by rw[di,Ag];rfl,λs A hf hx=>?_⟩⟩
    rw[gM] at hx
    rcases cS.mp hx with z | z
    .exact mQ _ (vp s A hf z)
    .have z:=cn.mp z
     have A2:=A.put FM pl (by rw[z];exact mK)
     rw[z] at A2
     exact jc _ (eN s A2 hf)
  .intro O Hi ae0
   refine hide λG_ pA=>?_
   obtain⟨v5,v6,eE,new,kv,us,rfl,⟨off,Ae,JH,Af,um,JI,uo,JJ,Dz,Ag,vp⟩⟩:=ae0
   refine pA.k ?_
   rw[aw,Eu] at vp
   refine⟨_,rfl,_,rfl,λx rl hx Ab cE=>?_⟩
   have s4:af Hi (upd (upd Hi rl (.own x)) x (.ins CC rl [])):=λb o e=>by rw[ar (bC e hx),ar (bC e Ab)];exact e
   have pM:upd (upd Hi rl (.own x)) x (.ins CC rl []) x=some (.ins CC rl []):=ao
   generalize upd (upd Hi rl (.own x)) x (.ins CC rl [])=H4 at s4 pM
   refine⟨x,rl,pa,.int (pl:Int),us,rfl,pM,s4 _ _ Dz,λr H5 hr5 h1 h2 h3=>⟨rfl,?_⟩⟩
   have s5:af Hi H5:=λb o e=>h3 _ _ (λz=>by rw[z,hx] at e;cases e) (s4 _ _ e)
   have DA:=JG off
   refine q (.ref x) new eE kv H5 ⟨DA.trans (KX.of s5),s5 _ _ Ae,(JH.weak λb o z _=>z.1).keep λb o e _=>s5 _ _ e,s5 _ _ Af,um.keep λb o _ _ e=>s5 _ _ e,JI,λs ms=>⟨(uo s ms).1,(uo s ms).2.1⟩,.inr ⟨(by intro z;cases z),JJ,λs A hf=>vp s A hf ((iV Xs).mem_iff.mp (by rw[R1];exact A.left FM i9 hf hpl))⟩⟩
theorem Sn{CG CS CW CC:Addr}(B:Bl mg)(F:aW K "closing_paper" "closing_paper" (top 51) f fd)(hm:mg "closing_paper"=some (.ref f))(hk:keepIn K (.ref f)=true)(hb:Binds K fd ["standing","most","found"] [])(wV:Mt P w K mg base CS "narrowest" 1 (IP CS) [])(wW:Mt P w K mg base CS "filled" 3 (IW K CS CG) [])(wX:Mt P w K mg base CS "left" 1 (IM K CS) [])(wY:Mt P w K mg base CS "after" 3 (IZ K CS CG) [])(wZ:BO K mg "Whole" CW)(w6:Nw P w K mg base "Cases" CC 1 (Jx CC)) :
  ∀n:Nat,aK P w K mg base aP (n+4) f fd ["standing","most","found"] (Dv K CG CS CW CC n)
 |0=>F.ok wU (λvs H Q E h=>by obtain⟨s,g,kn,fo,most,w,l,m,ks,wf,R,kvs,Z,M,ts,dI,rfl,hp,_⟩:=h;have:=hp.ek;lia) (λaE A outer s H vs Q E hr h=>by obtain⟨s,g,kn,fo,most,w,l,m,ks,wf,R,kvs,Z,M,ts,dI,rfl,hp,_⟩:=h;have:=hp.ek;lia)
 |n+1=>aeE n B F ⟨f,fd,_,Sn B F hm hk hb wV wW wX wY wZ w6 n,hm,hk,hb⟩ wV wW wX wY wZ w6
end
theorem So:∀(r:List C2) (c:C2),((List.range r.length).filter λk=>decide (r[k]? = some c)).length=r.count c
 |[],c=>rfl
 |a::r,c=>by
  rw[dO,LD,dj,AJ,L5]
  have e:((λk=>decide ((a::r)[k]? = some c))∘Nat.succ)=λk=>decide (r[k]? = some c):=by funext k;rfl
  rw[e]
  have ih:=So r c
  by_cases z:a=c
  .have:decide ((a::r)[0]? = some c)=true:=by simp[z]
   rw[az this,dO,aw,ih,az (by simp[z])]
  .have:¬decide ((a::r)[0]? = some c)=true:=by simp[z]
   rw[av this,aw,ih,av (by simpa using z)]
   rfl
theorem ae1(R:List (List C2))(c:C2):(dh R c).length=(R.map λr=>r.count c).sum:=by
 unfold dh
 rw[L7]
 have e:(List.map (λi=>(((List.range (ai R i).length).filter λk=>decide ((ai R i)[k]? = some c)).map λk=>(i,k)).length) (List.range R.length))=(List.range R.length).map (λi=>(λr:List C2=>r.count c) (R.getD i [])):=by
  refine L6 λi _=>?_
  rw[aw,So]
  rfl
 rw[e,o9 (λr:List C2=>r.count c)]
theorem Sq(c:C2):(dh (aG l w) c).length=cO c (dw l w):=by
 rw[ae1,pq,kO]
 rfl
theorem ae2(h:r∈aG l w):r.Nodup:=by
 unfold aG mC jD at h
 rcases cS.mp h with h | h
 .obtain⟨c,_,e⟩:=bM.mp (cq.mp h).1
  rw[<-e]
  exact G2 (.inl rfl)
 .obtain⟨c,_,e⟩:=bM.mp (cq.mp h).1
  rw[<-e]
  exact G2 (.inr rfl)
theorem ae3(S:aZ l w)(T:gZ l w):GoodR (aG l w):=by
 have nd:∀i,(ai (aG l w) i).Nodup:=λi=>by
  by_cases hi:i<(aG l w).length
  .exact ae2 (qV hi)
  .have:ai (aG l w) i=[]:=by
    unfold ai
    rw[bQ,cZ (Lz hi)]
    rfl
   rw[this]
   exact je
 refine⟨nd,λi k c h=>?_⟩
 have hb:=(jE S (qV (mF h).1)).2.2 c (bj h)
 have h2:(dh (aG l w) c).length=2:=by
  rw[Sq]
  exact T c (by rw[nF hb.1 hb.2.1];exact hb.2.2)
 have mo:(i,k)∈dh (aG l w) c:=qU.mpr h
 have Sr:=Iq (aG l w) c
 obtain⟨p,p',ep⟩:∃p p',dh (aG l w) c=[p,p']:=by
  match ho:dh (aG l w) c,h2 with
  |[a,b],_=>exact⟨a,b,rfl⟩
 have key:∃o:Nat×Nat,o≠(i,k)/\o∈dh (aG l w) c/\∀y∈dh (aG l w) c,y=(i,k)\/y=o:=by
  rw[ep] at mo Sr ⊢
  have cE:p≠p':=by
   have:=(gG.mp Sr).1
   simpa using this
  rcases cw.mp mo with z | z
  .refine⟨p',λy=>cE (by rw[<-z,y]),by simp,λy my=>?_⟩
   rcases cw.mp my with m | m
   .exact .inl (m.trans z.symm)
   .exact .inr (cn.mp m)
  .have z:=cn.mp z
   refine⟨p,λy=>cE (by rw[<-z,y]),by simp,λy my=>?_⟩
   rcases cw.mp my with m | m
   .exact .inr m
   .exact .inl ((cn.mp m).trans z.symm)
 obtain⟨o,F3,j0,vF⟩:=key
 have qi:=qU.mp j0
 refine⟨o.1,o.2,λz=>F3 ?_,qi,λi' k' h' =>?_⟩
 .rw[z] at qi
  exact rQ z (Ip (nd i) qi h)
 .rcases vF (i',k') (qU.mpr h') with z | z
  .injection z with z1 z2
   exact .inl ⟨z1,z2⟩
  .exact .inr ⟨by rw[<-z],by rw[<-z]⟩
theorem JO(S:aZ l w)(T:gZ l w):cy l w (aG l w):=by
 refine⟨S,rfl,ae3 S T,λc h1 h2 ho=>?_⟩
 have h:=T c (by rw[nF h1 h2];exact ho)
 rw[<-Sq] at h
 cases e:dh (aG l w) c with
 |nil=>rw[e] at h;cases h
 |cons p r=>exact⟨p.1,p.2,qU.mp (by rw[e];exact bz)⟩
structure ja(l m:List Str)(w:Nat):Prop where
 ln:m.length=l.length
 op:∀c:C2,c.1<l.length->c.2<w->bL m c=bL l c
theorem ja.bx{l m:List Str}{w:Nat}(F:ja l m w):bx m w=bx l w:=by
 funext c
 unfold Cw.bx
 rw[F.ln]
 by_cases h1:c.1<l.length
 .by_cases h2:c.2<w
  .rw[F.op c h1 h2]
  .rw[aI h2,ib,ib]
 .rw[aI h1,ib,ib]
theorem ja.ba{l m:List Str}{w:Nat}(F:ja l m w):ba m w=ba l w:=by
 unfold Cw.ba
 rw[F.ln]
 refine EC λc mc=>?_
 have:=nC mc
 exact F.op c this.1 this.2
theorem ja.dw{l m:List Str}{w:Nat}(F:ja l m w):dw m w=dw l w:=by
 unfold Cw.dw iz oQ
 rw[F.bx,F.ba]
theorem ja.two(F:ja l m w)(T:gZ l w):gZ m w:=λc hc=>by
 rw[F.dw]
 exact T c (by rw[<-F.bx];exact hc)
theorem ja.aG(F:ja l m w):aG m w=aG l w:=Iy F.ln F.op
noncomputable def lF(l:List Str):List Str:=l.reverse.map l6
theorem JP(x:Str):(l6 x).cps.toList=x.cps.toList.reverse:=by simp[l6]
theorem ae4(x:Str):(l6 x).length=x.length:=by rw[<-cu,JP,Et,cu]
theorem DD(l:List Str):(lF l).length=l.length:=by simp[lF]
theorem Ss(S:aZ l w):aZ (lF l) w:=by
 refine⟨by rw[DD];exact S.one,by rw[DD];exact S.nine,S.w1,S.w9,λx m=>?_,λx m c mc=>?_⟩
 .obtain⟨y,hy,rfl⟩:=bM.mp m
  rw[ae4,S.len y (L8.mp hy)]
 .obtain⟨y,hy,rfl⟩:=bM.mp m
  rw[JP] at mc
  exact S.ok y (L8.mp hy) c (L8.mp mc)
theorem ae5(hi:i<l.length):(lF l)[i]? = (l[l.length - 1 - i]?).map l6:=by
 unfold lF
 rw[bw,LJ hi]
theorem ae6(S:aZ l w)(hi:i<l.length)(hj:j<w):sg (lF l) (i,j)=sg l (l.length - 1 - i,w - 1 - j):=by
 obtain⟨x,hx,mx,lx,qK,jx⟩:=S.row (i:=l.length - 1 - i) (by lia)
 obtain⟨y,hy,my,ly,Qx,jy⟩:=(Ss S).row (i:=i) (by rw[DD];exact hi)
 rw[ae5 hi,hx] at hy
 cases hy
 have h1:=jy j hj
 rw[JP,LJ (by lia),qK,jx (w - 1 - j) (by lia)] at h1
 exact(cY h1).symm
section
variable{w:World}
theorem Su{β:Type}{f:Nat->β}:∀{l:List Nat}{ys:List β},Paired (λi y=>y=f i) l ys->ys=l.map f
 |_,_,.nil=>rfl
 |_,_,.cons h t=>by rw[bS,<-Su t,h]
theorem ae7(g:α->β)(d:α)(l:List α):(List.range l.length).map (λi=>g (l.getD i d))=l.map g:=by
 apply jP
 intro i
 rw[bw,bw]
 by_cases h:i<l.length
 .rw[rM h,bf h,jd,jd,bQ,bf h,qc]
 .rw[cZ (by simpa using h),cZ (by simpa using h)]
  rfl
def Sv(K:Frag):Sp:=λvs H Q _=>∃(a:Addr) (l:List Str) (w:Nat),vs=[.ref a]/\ak K H a (l.map V.str)/\aZ l w/\∀t H',H t=none->af H H'->H' t=some (.tup ((lF l).map V.str))->Q (.ref t) H'
theorem ae8:bh ["sheet"] ["sheet"] (aN (top 23)):={}
theorem ae9(B:Bl mg)(F:aW K "turned" "turned" (top 23) f fd):aK P w K mg base aP 1 f fd ["sheet"] (Sv K):=by
 refine F.bE ae8 λaE A outer s H vs Q E hr h=>?_
 refine hide λG_ aD=>?_
 obtain⟨a,l,wd,rfl,hT,S,q⟩:=h
 refine aD.k ?_
 have h9:=S.nine
 have hw:=S.w9
 refine⟨_,(au (aS (jY ye (by rfl) B.oU ow (ae (iS (js:=[]) (ns:=[]) (Ya (by rfl) B.aaS (ae (pv 0) ag)) rfl rfl rfl rfl (λ_ _ _ _=>lg) (λ_ _ _ _=>(Yd (pv 0) (VC VE aF)))) ag)))),?_⟩
 try dsimp only[bt]
 refine⟨_,rfl,a,_,rfl,hT,comp_map Yb (by rw[Et,aw];lia) (λ_ i y _=>y = .str (l6 (l.reverse.getD i ⟨#[]⟩))) (λH2 s2=>s2.tup hT) (λ_ _ _ _ _ _ _ _ h=>h) ?_ ?_⟩
 .intro D i x H2 Z hD hx s2 _ k1
  rw[<-List.map_reverse,bw] at hx
  cases e:l.reverse[i]? with
  |none=>rw[e] at hx;cases hx
  |some z=>
   rw[e] at hx
   cases hx
   have mz:=S.len z (L8.mp (bj e))
   exact⟨_,rfl,_,rfl,z,rfl,rfl,eS (by lia),k1 _ _ (af.cx _) (by rw[b7 e])⟩
 .intro D ys H2 hD bD s2 pr
  have e:=Su pr
  rw[Et,aw,<-Et (as:=l),ae7 (λz=>V.str (l6 z))] at e
  refine⟨D,_,rfl,.inl ⟨aj.of bD,λt ht=>?_⟩⟩
  refine q t _ (s2.free ht) (s2.trans (af.upd ht)) ?_
  rw[ao,e]
  unfold lF
  rw[kO]
  rfl
end
noncomputable def kc(c:C2):List Key:=[Sum.inl (c.1:Int),Sum.inl (c.2:Int)]
theorem afa(h:kc c=kc d):c=d:=by
 unfold kc at h
 injection h with h1 h2
 injection h2 with h2 _
 injection h1 with h1
 injection h2 with h2
 exact EA.mpr ⟨by lia,by lia⟩
def rm(kvs:List (List Key×V))(g:C2->Nat):Prop := ∀c,aU kvs (kc c)=if g c=0 then none else some (.int (g c))
theorem rm.get{kvs:List (List Key×V)}{g:C2->Nat}(h:rm kvs g)(c:C2):(aU kvs (kc c)).getD (.int 0) = .int (g c):=by
 rw[h c]
 split
 .rename_i e;rw[e];rfl
 .rfl
theorem rm.put{kvs:List (List Key×V)}{g g':C2->Nat}(h:rm kvs g)(c:C2)(e1:g' c=g c+1)(e2:∀x,x≠c->g' x=g x):rm (putK kvs (kc c) (.int ((g c:Int)+1))) g':=by
 intro x
 rw[oi]
 by_cases e:x=c
 .subst e
  rw[az rfl,av (by lia),e1]
  rfl
 .rw[av (λz=>e (afa z)),h x,e2 x e]
theorem afb(c:C2):cO c []=0:=rfl
theorem afc(c:C2)(rs:List (Nat×List C2))(q:Nat×List C2):cO c (rs++[q])=cO c rs+q.2.count c:=by
 unfold cO
 rw[eW,LK,bS,fZ]
 rfl
theorem JQ{α:Type}{p:α->Bool}:∀{l:List α}{i:Nat}{c:α},l[i]? = some c->p c=true->(∀(j:Nat) (x:α),j<i->l[j]? = some x->p x=false)->l.find? p=some c
 |[],_,_,h,_,_=>by simp at h
 |y::r,0,c,h,hp,_=>by
  have h:y=c:=by simpa using h
  rw[h,List.find?_cons_of_pos hp]
 |y::r,i+1,c,h,hp,hj=>by
  have h0:=hj 0 y (Nat.succ_pos _) rfl
  rw[List.find?_cons_of_neg (by rw[h0];exact b8)]
  exact JQ (i:=i) (by simpa using h) hp λj x q e=>hj (j+1) x (by lia) (by simpa using e)
theorem JR{p:α->Bool}{l:List α}(h:∀(j:Nat) (x:α),l[j]? = some x->p x=false):l.find? p=none:=by
 rw[List.find?_eq_none]
 intro x hx
 obtain⟨j,hj⟩:=fJ hx
 rw[h j x hj]
 exact b8
noncomputable def xf(l:List Str)(c:C2):Bool := !bL (lF l) c
noncomputable def eM(l:List Str)(w:Nat)(c:C2):Bool:=decide (cO c (dw l w)<2)
noncomputable def Ah(l:List Str)(w:Nat):Option C2:=((ba l w).find? (xf l)).or ((ba l w).find? (eM l w))
section
variable{w:World}
def Sw(K:Frag):Sp:=λvs H Q _=>∃(a:Addr) (l:List Str) (w:Nat),vs=[.ref a]/\ak K H a (l.map V.str)/\aZ l w/\
 ∀p kvs H',H p=none->af H H'->H' p=some (.dT kvs)->rm kvs (λc=>cO c (dw l w))->Q (.ref p) H'
theorem DE:bh ["sheet","counts","row","cell"] ["sheet"] (aN (top 32)):={}
theorem afd(F:aW K "rows_through" "rows_through" (top 32) f fd)(z7:Fn P w K mg base "rows_of" 5 (Cb K)):aK P w K mg base aP 6 f fd ["sheet"] (Sw K):=by
 refine F.bE DE λaE A outer s H vs Q E hr h=>?_
 refine hide λG_ aD=>?_
 obtain⟨a,l,wd,rfl,hT,S,q⟩:=h
 refine aD.k ?_
 have dF:=ke hr
 have hrl:=qQ S
 refine⟨_,(aq (aH 1 DE.nd M7)
  (aq (cD (dJ (aR z7 hr (ae (pv 0) ag))) (bI 2 DE.nd)
  (au (cD (A0 (aV bV (pv 2) aF)) (bI 3 DE.nd)
   (au (yi dF (pv 1) (pv 3) (bb fM (M9 dF (pv 1) (pv 3) aF ⟨rfl,rfl,rfl,rfl⟩) aF) rfl)))))
  (au (aS (pv 1))))),?_⟩
 try dsimp only[bt]
 intro p hp
 have fC:af H (upd H p (.dT [])):=af.upd hp
 have iW:upd H p (.dT []) p=some (.dT []):=ao
 generalize upd H p (.dT [])=H0 at fC iW
 refine⟨_,rfl,a,l,wd,rfl,fC.tup hT,S,λg xa xd H1 hg s1 hL rA rD=>⟨g,rfl,⟨_,aj.of hL⟩,?_⟩⟩
 have rB:=Hk rA rD
 have RH:=rB.length
 have w8:=s1 _ _ iW
 refine jl (xs:=xa++xd) (λi O H2=>∃v2 v3 kvs,O=[some (.ref a),some (.ref p),v2,v3]/\(∀b o,b≠p->H1 b=some o->H2 b=some o)/\H2 p=some (.dT kvs)/\kvs.length<=10*i/\rm kvs (λc=>cO c ((dw l wd).take i)))
  ⟨none,none,[],rfl,λ_ _ _ z=>z,w8,aO _,λc=>by rw[nX,az (afb c)];rfl⟩ ?_ ?_ ?_
 .rintro i O H2 _ ⟨v2,v3,kvs,rfl,off,_⟩
  exact aj.of (off _ _ (bT hL w8 (by intro z;cases z)) hL)
 .intro i x O H2 hx afe
  refine hide λG_ aX=>?_
  obtain⟨v2,v3,kvs,rfl,off,hd,oE,hC⟩:=afe
  have hi:i<(xa++xd).length:=(bY.mp hx).1
  obtain⟨row,hq,way,aa,t,DF,rfl,g1,g2,g3⟩:=Paired.get rB hx
  refine aX.k ?_
  have aY:=Ci (bj hq)
  have DG:∀b o,H1 b=some (.tup o)->b≠p:=λb o z=>bT z w8 (by intro y;cases y)
  have F9:=off _ _ (DG _ _ g2) g2
  have hxs:=g3.length
  refine⟨_,rfl,aa,_,2,.ref t,rfl,rfl,ak.of (off _ _ (DG _ _ g1) g1),rfl,t,rfl,⟨_,ak.of F9⟩,?_⟩
  have jB:(dw l wd).take (i+1)=(dw l wd).take i++[row]:=by rw[eJ,hq];rfl
  refine XT FR (λj O H3=>∃v3 kvs,O=[some (.ref a),some (.ref p),some (.ref aa),v3]/\(∀b o,b≠p->H1 b=some o->H3 b=some o)/\H3 p=some (.dT kvs)/\kvs.length<=10*i+j/\rm kvs (λc=>cO c ((dw l wd).take i)+(row.2.take j).count c))
   ⟨v3,kvs,rfl,off,hd,oE,λc=>by simp only[nX,List.count_nil,Nat.add_zero];exact hC c⟩ (λj O H3 _ ⟨_,_,_,i8,_⟩=>ak.of (i8 _ _ (DG _ _ g2) g2)) ?_ ?_
  .intro j x O H3 hx3 aff
   refine hide λG_ bK=>?_
   obtain⟨v3,JS,rfl,i8,ni,afg,ku⟩:=aff
   obtain⟨c,hc,b,rfl,hb⟩:=Paired.get g3 hx3
   refine bK.k ?_
   have hj:j<row.2.length:=(bY.mp hc).1
   have Sx:H3 b=some (.tup ((kc c).map kV)):=i8 _ _ (DG _ _ hb) hb
   refine⟨_,rfl,p,rfl,.inr ⟨JS,.inl ni⟩,_,rfl,_,dY.t ni Sx,?_⟩
   rw[ku.get c]
   refine⟨_,_,rfl,rfl,_,rfl,_,rfl,p,_,rfl,lX.t ni Sx (lj (by lia)),?_⟩
   refine⟨_,_,rfl,λb' o jZ z=>by rw[ar jZ];exact i8 b' o jZ z,ao,bF (vm _ _ _) (by lia),?_⟩
   have et:row.2.take (j+1)=row.2.take j++[c]:=by rw[eJ,hc];rfl
   refine ku.put c ?_ λx qG=>?_
   .rw[et,L4,List.count_singleton_self]
    lia
   .rw[et,L4,(LY (l:=[c])).mpr (by simpa using qG),Nat.add_zero]
  .intro O H3 afh
   refine hide λG_ cJ=>?_
   obtain⟨v3,JS,rfl,i8,ni,afg,ku⟩:=afh
   refine cJ.k ?_
   refine⟨_,_,JS,rfl,i8,ni,by lia,λc=>?_⟩
   have:=ku c
   dsimp only at this ⊢
   rw[fg (l:=row.2) (i:=DF.length) (by lia)] at this
   have e9:cO c ((dw l wd).take (i+1))=cO c ((dw l wd).take i)+row.2.count c:=by rw[jB,afc]
   rw[this]
   simp only[e9]
 .intro O H2 afi
  refine hide λG_ eT=>?_
  obtain⟨v2,v3,kvs,rfl,off,hd,oE,hC⟩:=afi
  refine eT.k ?_
  rw[fg (by lia)] at hC
  refine⟨_,rfl,q p kvs H2 hp (λb o z=>off b o (bC z hp) (s1 _ _ (fC _ _ z))) hd hC⟩
def JT(K:Frag):Sp:=λvs H Q _=>∃(a:Addr) (l:List Str) (w:Nat),vs=[.ref a]/\ak K H a (l.map V.str)/\aZ l w/\Ah l w=none/\∀H',af H H'->Q .aB H'
theorem xg:bh ["sheet","about","cells","cell","counts"] ["sheet"] (aN (top 31)):={}
theorem afj(F:aW K "need_floor" "need_floor" (top 31) f fd)(afk:Fn P w K mg base "turned" 1 (Sv K))(y0:Fn P w K mg base "open_cells" 3 (B7 K))(yY:Fn P w K mg base "is_open" 2 (B4 K))
  (afl:Fn P w K mg base "rows_through" 6 (Sw K)):aK P w K mg base aP 7 f fd ["sheet"] (JT K):=by
 refine F.bE xg λaE A outer s H vs Q E hr h=>?_
 refine hide λG_ aD=>?_
 obtain⟨a,l,wd,rfl,hT,S,xh,q⟩:=h
 refine aD.k ?_
 have dF:=ke hr
 refine⟨_,(aq (aH 1 xg.nd (aR afk hr (ae (pv 0) ag)))
  (aq (aH 2 xg.nd (aR y0 hr (ae (pv 0) ag)))
  (aq (cD (dJ (pv 2)) (bI 3 xg.nd)
  (au (bH (gi (eX (aR yY hr (ae (pv 1) (ae (pv 3) ag)))))
   (au xW)
   bN)))
  (aq (aH 4 xg.nd (aR afl hr (ae (pv 0) ag)))
  (au (cD (dJ (pv 2)) (bI 3 xg.nd)
  (au (bH (bO mZ (M9 dF (pv 4) (pv 3) aF ⟨rfl,rfl,rfl,rfl⟩) aF)
   (au xW)
   bN)))))))),?_⟩
 try dsimp only[bt]
 refine⟨_,rfl,a,l,wd,rfl,hT,S,λt H1 ht s1 hTt=>?_⟩
 refine⟨_,rfl,a,l,wd,rfl,s1.tup hT,S,λp xs H2 hp s2 hL hC=>?_⟩
 have jJ:=s1.trans s2
 have hcx:=hC.length
 refine⟨_,rfl,p,rfl,⟨_,aj.of hL⟩,jl (xs:=xs) (λi O H3=>∃v3,O=[some (.ref a),some (.ref t),some (.ref p),v3,none]/\H3=H2/\∀j c,j<i->(ba l wd)[j]? = some c->xf l c=false)
  ⟨none,rfl,rfl,λj c z=>absurd z (ic _)⟩ (λi O H3 _ ⟨_,_,e,_⟩=>by rw[e];exact aj.of hL) ?_ ?_⟩
 .intro i x O H3 hx afm
  refine hide λG_ aX=>?_
  obtain⟨v3,rfl,rfl,gT⟩:=afm
  obtain⟨c,hc,b,rfl,hb⟩:=Paired.get hC hx
  obtain⟨m1,m2⟩:=nC (cq.mp (bj hc)).1
  refine aX.k ?_
  refine⟨_,rfl,_,rfl,t,b,lF l,wd,c,rfl,ak.of (s2 _ _ hTt),Ss S,ak.of hb,by rw[DD];exact m1,m2,_,rfl,?_⟩
  cases ho:bL (lF l) c with
  |true=>
   refine aQ ⟨_,rfl,rfl,λj x hj e=>?_⟩
   rcases xH.mp hj with z | z
   .exact gT j x z e
   .rw[z,hc] at e
    cases e
    unfold xf
    rw[ho]
    rfl
  |false=>
   refine bp ?_
   unfold Ah at xh
   rw[JQ hc (by unfold xf;rw[ho];rfl) gT] at xh
   cases xh
 .rintro O H3 ⟨v3,rfl,rfl,gT⟩
  have mj:(ba l wd).find? (xf l)=none:=JR λj x e=>gT j x (by rw[<-hcx];exact(bY.mp e).1) e
  refine⟨_,rfl,a,l,wd,rfl,jJ.tup hT,S,λd kvs H4 iW s4 hd hCn=>?_⟩
  have tU:=s4 _ _ hL
  refine⟨_,rfl,p,rfl,⟨_,aj.of tU⟩,jl (xs:=xs) (λi O H5=>∃v3,O=[some (.ref a),some (.ref t),some (.ref p),v3,some (.ref d)]/\H5=H4/\∀j c,j<i->(ba l wd)[j]? = some c->eM l wd c=false)
   ⟨v3,rfl,rfl,λj c z=>absurd z (ic _)⟩ (λi O H5 _ ⟨_,_,e,_⟩=>by rw[e];exact aj.of tU) ?_ ?_⟩
  .intro i x O H5 hx afn
   refine hide λG_ bK=>?_
   obtain⟨v3,rfl,rfl,JU⟩:=afn
   obtain⟨c,hc,b,rfl,hb⟩:=Paired.get hC hx
   refine bK.k ?_
   have hb4:H5 b=some (.tup ((kc c).map kV)):=s4 _ _ hb
   refine⟨_,rfl,d,rfl,.inr ⟨kvs,.inl hd⟩,_,rfl,_,dY.t hd hb4,?_⟩
   rw[hCn.get c]
   refine⟨_,_,rfl,rfl,_,rfl,?_⟩
   by_cases h2:cO c (dw l wd)<2
   .rw[aJ (by lia)]
    refine bp ?_
    unfold Ah at xh
    rw[mj,JQ hc (by unfold eM;exact aJ h2) JU] at xh
    cases xh
   .rw[aI (by lia)]
    refine aQ ⟨_,rfl,rfl,λj x hj e=>?_⟩
    rcases xH.mp hj with z | z
    .exact JU j x z e
    .rw[z,hc] at e
     cases e
     unfold eM
     exact aI h2
  .rintro O H5 ⟨v3,rfl,rfl,JU⟩
   exact q _ (jJ.trans s4)
end
theorem Sz(S:aZ l w)(T:gZ l w)(Y:kF l w):Ah l w=none:=by
 unfold Ah
 rw[JR λj x e=>?_,JR λj x e=>?_]
 .rfl
 .have mx:=bj e
  have hb:=nC (cq.mp mx).1
  unfold eM
  rw[T x (by rw[nF hb.1 hb.2];exact(cq.mp mx).2)]
  rfl
 .have mx:=bj e
  have hb:=nC (cq.mp mx).1
  have ho:=(cq.mp mx).2
  unfold xf
  have:bL (lF l) x=true:=by
   unfold bL at ho ⊢
   rw[show x=(x.1,x.2) from rfl,ae6 S hb.1 hb.2]
   have ho:¬sg l x=35:=by simpa using ho
   rw[aI λz=>ho ((Y x hb.1 hb.2).mpr z)]
   rfl
  rw[this]
  rfl
theorem ja.sym(F:ja l m w)(Y:kF l w):kF m w:=λc h1 h2=>by
 have jr:c.1<l.length:=by rw[<-F.ln];exact h1
 have e:∀d:C2,d.1<l.length->d.2<w->(sg m d=35↔sg l d=35):=λd d1 d2=>by
  have:=F.op d d1 d2
  unfold bL at this
  constructor
  .intro z
   rw[aJ z] at this
   simpa using this
  .intro z
   rw[aJ z] at this
   simpa using this
 rw[F.ln,e c jr h2,e (l.length - 1 - c.1,w - 1 - c.2) (by show l.length - 1 - c.1<_;lia) (by show w - 1 - c.2<w;lia)]
 exact Y c jr h2
noncomputable def Ai(al:List Nat):Nat->List (List Nat)
 |0=>[[]]
 |n+1=>al.flatMap λa=>(Ai al n).map λr=>a::r
theorem SA(al:List Nat):∀n,(Ai al n).length=al.length ^ n
 |0=>rfl
 |n+1=>by
  rw[Ai,L7]
  simp only[aw,SA al n]
  rw[List.map_const',UN,Nat.pow_succ,qb]
theorem SD{al:List Nat}:∀{r:List Nat},(∀c∈r,c∈al)->r∈Ai al r.length
 |[],_=>bz
 |a::r,h=>AQ.mpr ⟨a,h a bz,mU (SD λc m=>h c (bX _ m))⟩
noncomputable def JV:List Nat:=46::(List.range 26).map (· + 97)
def M4(t:Str):Prop:=t.length<=4/\∀c∈t.cps.toList,c=46\/(97<=c/\c<=122)
theorem afo:C5 M4:=by
 intro ks nd h
 have h1:ks.length<=(((List.range 5).flatMap λn=>Ai JV n).map λr=>(Sum.inr ⟨r.toArray⟩:Key)).length:=by
  refine Gz nd λk mk=>?_
  obtain⟨x,rfl,σ1,GR⟩:=h k mk
  refine bM.mpr ⟨x.cps.toList,AQ.mpr ⟨x.cps.toList.length,iK.mpr (by rw[cu];lia),SD λc mc=>?_⟩,by simp⟩
  unfold JV
  rcases GR c mc with z | z
  .rw[z];exact bz
  .exact bX _ (bM.mpr ⟨c - 97,iK.mpr (by lia),by lia⟩)
 rw[aw,L7] at h1
 simp only[SA] at h1
 have e:JV.length=27:=by decide
 rw[e] at h1
 have e2:((List.range 5).map λn=>27 ^ n).sum=551881:=by decide
 rw[e2] at h1
 exact lK h1 (by decide)
theorem afp(h4:l.length<=4)(w4:w<=4)(h:r∈aG l w):r.length<=4:=by
 have key:∀k:Nat,k<=1->∀c:C2,(cf (bx l w) (cF k) c).length<=4:=λk hk c=>by
  unfold cf
  split
  .exact bG _
  .split
   .exact bG _
   .rw[tJ]
    rcases Ey 4 (runN (bx l w) (cF k) 10 c) with z | z
    .exfalso
     have:=oP (vQ z)
     unfold go cF at this
     dsimp only at this
     have e:k=0\/k=1:=by lia
     rcases e with e | e <;> subst e <;> simp at this <;> lia
    .exact z
 unfold aG mC jD at h
 rcases cS.mp h with h | h
 .obtain⟨c,_,e⟩:=bM.mp (cq.mp h).1
  rw[<-e]
  exact key 0 (by decide) c
 .obtain⟨c,_,e⟩:=bM.mp (cq.mp h).1
  rw[<-e]
  exact key 1 (by decide) c
theorem SE{w:Nat}:∀{m:List Str}(_:eG m w) (cs:List C2) (xs:List Nat),(∀c∈cs,c.1<m.length/\c.2<w)->∀{d:C2},d.1<m.length->d.2<w->sg (putL m cs xs) d=sg m d\/sg (putL m cs xs) d∈xs
 |m,S,[],_,_,d,_,_=>by simp[putL]
 |m,S,c::cs,[],_,d,_,_=>by simp[putL]
 |m,S,c::cs,x::xs,h,d,d1,d2=>by
  have hc:=h c bz
  rw[putL]
  rcases SE (S.set (ch:=x) hc.1 hc.2) cs xs (λe me=>by rw[dg];exact h e (bX _ me)) (d:=d) (by rw[dg];exact d1) d2 with z | z
  .rw[z,S.gX hc.1 hc.2 d1 d2]
   by_cases e:d=c
   .rw[az e];exact .inr bz
   .rw[av e];exact .inl rfl
  .exact .inr (bX _ z)
theorem afq(S:aZ l w)(h1:c.1<l.length)(h2:c.2<w):qI (sg l c):=by
 obtain⟨x,_,mx,_,_,hj⟩:=S.row h1
 exact S.ok x mx _ (bj (hj _ h2))
theorem afr{k:Nat}(F:cy m w R)(h4:m.length<=4)(w4:w<=4)(hx:jG x)(hi:i<R.length):M4 (ax (putL m ((ai R pl).take k) (x.cps.toList.take k)) (ai R i)):=by
 refine⟨?_,λc mc=>?_⟩
 .rw[fF]
  have:=qV hi
  rw[<-F.eq] at this
  rw[<-F.eq]
  exact afp h4 w4 this
 .rw[kI] at mc
  obtain⟨d,md,rfl⟩:=bM.mp mc
  obtain⟨j,hj⟩:=fJ md
  have hb:=F.pJ hj
  rcases SE F.sh.dn ((ai R pl).take k) (x.cps.toList.take k) (λe me=>F.kJ pl e (AR me)) hb.1 hb.2.1 with z | z
  .rw[z]
   have ho:=afq F.sh hb.1 hb.2.1
   have jC:¬sg m d=35:=by
    have:=hb.2.2
    unfold bL at this
    simpa using this
   rcases ho with y | y | y
   .exact absurd y jC
   .exact .inl y
   .exact .inr y
  .exact .inr (hx _ (AR z))
theorem SF(l:List Str)(w:Nat):(dk l w).length<=l.length*w:=by
 unfold dk
 exact bF (fY _ _) (by rw[jv];exact aO _)
section
variable{w:World}
def JW(K:Frag)(CB CW CC:Addr):Sp:=λvs H Q _=>∃(a bk d:Addr) (l:List Str) (w most:Nat) (kvs:List (Key×V)),vs=[.ref bk,.ref a,.int (most:Int)]/\H a=some (.tup (l.map V.str))/\aZ l w/\gZ l w/\kF l w/\l.length<=4/\w<=4/\fW CB H bk d kvs/\kvs.length<64/\(∀x∈aM kvs,cP x=true)/\ua kvs/\1<=most/\most<=1000/\
 ∀(t fo:Addr) (v:V) (ts:List Addr) (new:List (List Str)) (H':Hp),af H H'->H' t=some (.tup [.ref fo,v])->H' fo=some (.lst (ts.map V.ref))->kM H' ts new->new.Nodup->(∀s∈new,bP s l w/\cB (aM kvs) s w=true)->
  ((v = .aB/\new.length=most)\/(v ≠ .aB/\new.length<most/\∀s,bP s l w->cB (aM kvs) s w=true->s∈new))->Q (.ref t) H'
theorem JX:bh ["book","sheet","most","found","paper"] ["book","sheet","most"] (aN (top 50)):={}
theorem afs(F:qA K "fillings" "fillings" (top 50) f fd dv)(JY:Fn P w K mg base "need_floor" 7 (JT K))(aft:Fn P w K mg base "first_standing" 8 (RP K CB CG CS))(Jy:Fn P w K mg base "closing_paper" 21 (Dv K CG CS CW CC 17)):aK P w K mg base aP 22 f fd ["book","sheet","most"] (JW K CB CW CC):=by
 refine F.ok JX (λvs H Q E h=>?_) (λaE A outer s H vs Q E hr h=>?_)
 .refine hide λG_ aD=>?_
  obtain⟨a,bk,d,l,w,most,kvs,rfl,_⟩:=h
  refine aD.k ?_
  rfl
 .refine hide λG_ aX=>?_
  obtain⟨a,bk,d,l,wd,most,kvs,rfl,hT,S,T2,Sy,h4,w4,hB,fA,i9,Js,hm1,hm2,q⟩:=h
  refine aX.k ?_
  refine⟨_,(aq (d6 (aR JY hr (ae (pv 1) ag)))
   (aq (aH 3 JX.nd (du ag))
   (aq (aH 4 JX.nd (aR Jy hr (ae (aR aft hr (ae (pv 0) (ae (pv 1) ag))) (ae (pv 2) (ae (pv 3) ag)))))
   (au (aS (fm (ae (pv 3) (ae (pv 4) ag)))))))),?_⟩
  try dsimp only[bt]
  have FL:=JO S T2
  refine⟨_,rfl,a,l,wd,rfl,ak.of hT,S,Sz S T2 Sy,λH1 s1=>?_⟩
  refine⟨bG _,λfo dZ=>?_⟩
  have s2:af H (upd H1 fo (.lst [])):=s1.trans (af.upd dZ)
  have xb:upd H1 fo (.lst []) fo=some (.lst (([]:List Addr).map V.ref)):=ao
  have afu:H fo=none:=s1.free dZ
  generalize upd H1 fo (.lst [])=H2 at s2 xb
  refine⟨_,rfl,_,rfl,a,bk,d,l,wd,aG l wd,kvs,rfl,s2 _ _ hT,FL,hB.mono s2,fA,i9,Js,λst g kn wo H3 s3 afv hG dy hS=>?_⟩
  have afw:=s3 _ _ xb
  have fD:∀x∈aM kvs,jG x:=λx mx=>Jw (i9 x mx)
  have hkd:(aM kvs).Nodup:=RO hB.nd hB.tx
  have kH:=qQ S
  rw[<-zF] at kH
  have afx:H kn=none:=s2.free afv
  refine⟨_,rfl,_,rfl,st,g,kn,fo,most,wd,l,l,aM kvs,wq kvs,aG l wd,[],(λb=>H2 b=none),M4,[],[],rfl,⟨hG,hS,dy,⟨je,(λk mk=>nomatch mk),(λx v hv=>by cases hv)⟩,afo,λm' pl x k i Fm qZ hpl i7 Rk _ hi _=>afr Fm (by lia) w4 (fD x i7) hi,FL,FL,rfl,by lia,i9,hkd,by rw[wm];exact fA,λb e=>?_,(λz=>by have z:H2 fo=none:=z;rw[xb] at z;cases z),afw,.nil,hm1,hm2,?_⟩,λv new eE Sa H4 CP=>?_⟩
  .exact s3.free e
  .have:=SF l wd
   have:l.length*wd<=4*4:=uP h4 w4
   lia
  refine hide λG_ bK=>?_
  obtain⟨kx,zZ,I9,SG,rh,afy,afz,ur⟩:=CP
  refine bK.k ?_
  rw[Ep] at SG rh ur
  rw[Ep] at rh
  refine⟨_,rfl,_,rfl,(by show 2<=sizeLine;decide),λt ht=>?_⟩
  have s5:af H4 (upd H4 t (.tup [.ref fo,v])):=af.upd ht
  have t5:upd H4 t (.tup [.ref fo,v]) t=some (.tup [.ref fo,v]):=ao
  generalize upd H4 t (.tup [.ref fo,v])=H5 at s5 t5
  have jK:af H H4:=λb o e=>kx b o (bC e afx) (bC e afu) (s3 _ _ (s2 _ _ e))
  refine q t fo v eE new H5 (jK.trans s5) t5 (s5 _ _ SG) (rh.keep λb o _ _ e=>s5 _ _ e) afy afz ?_
  rcases ur with z | ⟨z1,z2,z3⟩
  .exact .inl z
  .exact .inr ⟨z1,z2,z3⟩
end
theorem uu(K:Frag)(H:Hp):∀ss:List Str,eO K H (ss.map D.str) (ss.map V.str)
 |[]=>rfl
 |x::r=>⟨.str x,r.map V.str,rfl,rfl,uu K H r⟩
theorem Aj:∀ss:List Str,iT (ss.map D.str)=0
 |[]=>rfl
 |x::r=>by
  rw[bS,iT,Aj r]
  rfl
theorem afA(ss:List Str):fP (.lst (ss.map D.str)) (.lst [])=decide (ss=[]):=by
 cases ss with
 |nil=>rfl
 |cons x r=>rfl
section
variable{w:World}
def Ak(H:Hp)(m:List Str)(R:List (List C2))(ks:List Str)(n:Nat)(v:V):Prop:=
 (v = .aB/\∀pl,pl<n->dG m R pl ks≠[]/\46∉(ax m (ai R pl)).cps.toList)\/
 ∃(t q:Addr) (pl:Nat),v = .ref t/\H t=some (.tup [.int (pl:Int),.ref q])/\H q=some (.lst ((dG m R pl ks).map V.str))/\pl<R.length/\(dG m R pl ks=[]\/46∈(ax m (ai R pl)).cps.toList)
theorem Ak.mono(s:af H H')(h:Ak H m R ks n v):Ak H' m R ks n v:=by
 rcases h with h | ⟨t,q,pl,e,h1,h2,h3,h4⟩
 .exact .inl h
 .exact .inr ⟨t,q,pl,e,s _ _ h1,s _ _ h2,h3,h4⟩
def JZ(K:Frag):Sp:=λvs H Q _=>∃(ww g a:Addr) (ws:List Str) (l:List Str) (w:Nat) (R:List (List C2)) (zs:List V),vs=[.ref ww,.ref g,.ref a,.int 0]/\H ww=some (.lst (ws.map V.str))/\ws.length<64/\(∀x∈ws,cP x=true)/\ak K H a (l.map V.str)/\cy l w R/\H g=some (.lst zs)/\fX g H R zs/\
 ∀v H',af H H'->Ak H' l R ws R.length v->Q v H'
theorem xi:bh ["_law_words_here","_law_rows_here","_law_sheet","_law_at","_law_narrow","_law_k","_law_place","_law_left_here"] ["_law_words_here","_law_rows_here","_law_sheet","_law_at"] (aN (top 81)):={}
theorem afB(B:Bl mg)(F:aW K "_law_turn" "_law_turn" (top 81) f fd)(afC:Fn P w K mg base "_law_left" 2 (QB K))(pE:Fn P w K mg base "_law_text" 1 (zo K)):aK P w K mg base aP 3 f fd ["_law_words_here","_law_rows_here","_law_sheet","_law_at"] (JZ K):=by
 refine F.bE xi λaE A outer s H vs Q E hr h=>?_
 refine hide λG_ aD=>?_
 obtain⟨ww,g,a,ws,l,wd,R,zs,rfl,hW,fA,i9,hT,FM,hG,hR,q⟩:=h
 refine aD.k ?_
 have hu:=hr.units
 refine⟨_,(aq (aH 4 xi.nd jU)
  (aq (cD (ik (by rfl) B.iB (ae (bg dX (by rfl) B.cj b9 (ae (pv 1) ag)) ag)) (bI 5 xi.nd)
  (aq (aH 6 xi.nd (bb gK (bb fM (pv 3) (pv 5)) (bg dX (by rfl) B.cj b9 (ae (pv 1) ag))))
   (aq (aH 7 xi.nd (aR afC hr (ae (pv 0) (ae (pv 1) (ae (pv 2) (ae (pv 6) ag))))))
   (au (bH (PW.pt (gH (bO (Bw hu) (pv 7) (du ag)) (jk (bO A9 eB (aR pE hr (ae (pv 2) (ae (aV gj (pv 1) (pv 6)) ag)))))))
   (au (bH (PW.pt (gH (bO x4 (pv 4) jU) (jk (bO mZ (bg dX (by rfl) B.cj b9 (ae (pv 7) ag)) (bg dX (by rfl) B.cj b9 (ae (aV bV (pv 4) aF) ag))))))
    (au (aH 4 xi.nd (fm (ae (pv 6) (ae (pv 7) ag)))))
    bN))
   bN)))))
  (au (aS (pv 4))))),?_⟩
 try dsimp only[bt]
 have Ib:=hR.length
 have kH:=qQ FM.sh
 rw[<-zF,FM.eq] at kH
 refine⟨_,rfl,g,_,rfl,.inl (aj.of hG),_,rfl,by lia,by lia,?_⟩
 rw[eI,<-Ib]
 refine kh (λi O H2=>∃(v4:V) (v5 v6 v7:Option V),O=[some (.ref ww),some (.ref g),some (.ref a),some (.int 0),some v4,v5,v6,v7]/\af H H2/\Ak H2 l R ws i v4)
  ⟨.aB,none,none,none,rfl,af.cx _,.inl ⟨rfl,λpl h=>absurd h (ic _)⟩⟩ ?_ ?_
 .intro i O H3 hi afD
  refine hide λG_ aX=>?_
  obtain⟨v4,v5,v6,v7,rfl,sm,hN⟩:=afD
  obtain⟨v,hv⟩:∃v,zs[i]? = some v:=⟨_,bf (by lia)⟩
  obtain⟨r,fE,p,ys,rfl,_,hp,hc⟩:=Paired.get hR hv
  refine aX.k ?_
  have er:ai R i=r:=b7 fE
  have aY:=jE FM.sh (r:=r) (by rw[FM.eq];exact bj fE)
  have ei:(0+(i:Int)) % (zs.length:Int)=(i:Int):=by rw[uL];exact Int.emod_eq_of_lt (by lia) (by lia)
  refine⟨_,rfl,_,rfl,_,_,rfl,rfl,_,rfl,g,_,rfl,.inl (aj.of (sm _ _ hG)),_,_,rfl,rfl,(by lia),?_⟩
  dsimp only
  rw[ei]
  refine⟨_,rfl,_,rfl,_,rfl,_,rfl,ww,g,a,ws,l,wd,i,zs,rfl,sm _ _ hW,fA,i9,sm.tup hT,FM.sh,sm _ _ hG,by rw[FM.eq];exact fX.mono sm hR,by rw[FM.eq];exact hi,λt H4 ht s4 SH=>?_⟩
  rw[FM.eq] at SH
  have cW:=sm.trans s4
  refine⟨_,rfl,bG _,λen ud=>?_⟩
  have s5:af H4 (upd H4 en (.lst [])):=af.upd ud
  have SJ:upd H4 en (.lst []) en=some (.lst []):=ao
  generalize upd H4 en (.lst [])=H5 at s5 SJ
  have iY:=cW.trans s5
  have pN:=s5 _ _ SH
  have SK:=hN.mono (s4.trans s5)
  refine⟨.lst ((dG l R i ws).map D.str),.lst [],⟨t,_,rfl,aj.of pN,uu _ _ _⟩,⟨en,_,rfl,aj.of SJ,rfl⟩,.inr ⟨_,_,rfl,rfl⟩,by rw[dep,Aj];decide,_,rfl,?_⟩
  rw[afA]
  by_cases h0:dG l R i ws=[]
  .rw[aJ h0]
   refine bp (bp ?_)
   have hb:dG l R i ws=[]\/46∈(ax l (ai R i)).cps.toList := .inl h0
   have DH:=SK
   have rn:=iY
   have uv:=pN
   rcases DH with ⟨rfl,mj⟩ | ⟨t0,q0,J0,rfl,h1,h2,h3,h4⟩
   .refine⟨_,rfl,rfl,_,rfl,bp (bp ⟨_,rfl,_,rfl,(by show 2<=sizeLine;decide),λtn mM=>?_⟩)⟩
    exact⟨.ref tn,_,_,_,rfl,rn.trans (af.upd mM),.inr ⟨tn,t,i,rfl,ao,(af.upd mM) _ _ uv,hi,hb⟩⟩
   .refine⟨_,rfl,rfl,_,rfl,aQ ⟨_,rfl,t,_,rfl,.inl (aj.of uv),_,rfl,t0,_,1,.ref q0,rfl,rfl,ak.of h1,rfl,q0,_,rfl,.inl (aj.of h2),_,_,rfl,rfl,_,rfl,eY (λh=>?_) (λh=>?_)⟩⟩
    .refine⟨_,rfl,_,rfl,(by show 2<=sizeLine;decide),λtn mM=>?_⟩
     exact⟨.ref tn,_,_,_,rfl,rn.trans (af.upd mM),.inr ⟨tn,t,i,rfl,ao,(af.upd mM) _ _ uv,hi,hb⟩⟩
    .exact⟨.ref t0,_,_,_,rfl,rn,.inr ⟨t0,q0,J0,rfl,h1,h2,h3,h4⟩⟩
  .rw[aI h0]
   refine aQ ⟨_,rfl,_,rfl,_,rfl,g,_,_,.ref p,rfl,rfl,aj.of (iY _ _ hG),dz hv,a,p,l,wd,r,ys,rfl,iY.tup hT,FM.sh,iY _ _ hp,hc.mono iY,by have:=aY.2.1;lia,λc hc=>⟨(aY.2.2 c hc).1,(aY.2.2 c hc).2.1⟩,λH6 s6=>⟨_,_,rfl,rfl,_,rfl,?_⟩⟩
   have rn:=iY.trans s6
   have uv:=s6 _ _ pN
   have DH:=SK.mono s6
   have ef:(!(Builtin.Str.occurrences (ax l r) (Str.ofString ".") 0 (ax l r).length 1).isEmpty)=decide (46∈(ax l r).cps.toList):=by
    rw[tL]
    exact EB (ax l r) 46
   rw[ef]
   by_cases cQ:46∈(ax l r).cps.toList
   .rw[aJ cQ]
    have hb:dG l R i ws=[]\/46∈(ax l (ai R i)).cps.toList := .inr (by rw[er];exact cQ)
    refine bp ?_
    rcases DH with ⟨rfl,mj⟩ | ⟨t0,q0,J0,rfl,h1,h2,h3,h4⟩
    .refine⟨_,rfl,rfl,_,rfl,bp (bp ⟨_,rfl,_,rfl,(by show 2<=sizeLine;decide),λtn mM=>?_⟩)⟩
     exact⟨.ref tn,_,_,_,rfl,rn.trans (af.upd mM),.inr ⟨tn,t,i,rfl,ao,(af.upd mM) _ _ uv,hi,hb⟩⟩
    .refine⟨_,rfl,rfl,_,rfl,aQ ⟨_,rfl,t,_,rfl,.inl (aj.of uv),_,rfl,t0,_,1,.ref q0,rfl,rfl,ak.of h1,rfl,q0,_,rfl,.inl (aj.of h2),_,_,rfl,rfl,_,rfl,eY (λh=>?_) (λh=>?_)⟩⟩
     .refine⟨_,rfl,_,rfl,(by show 2<=sizeLine;decide),λtn mM=>?_⟩
      exact⟨.ref tn,_,_,_,rfl,rn.trans (af.upd mM),.inr ⟨tn,t,i,rfl,ao,(af.upd mM) _ _ uv,hi,hb⟩⟩
     .exact⟨.ref t0,_,_,_,rfl,rn,.inr ⟨t0,q0,J0,rfl,h1,h2,h3,h4⟩⟩
   .rw[aI cQ]
    refine aQ ⟨v4,_,_,_,rfl,rn,?_⟩
    rcases DH with ⟨e,mj⟩ | z
    .refine .inl ⟨e,λpl hpl=>?_⟩
     rcases Ey pl i with y | y
     .exact mj pl y
     .have e2:pl=i:=by lia
      rw[e2,er]
      exact⟨h0,cQ⟩
    .exact .inr z
 .intro O H3 afE
  refine hide λG_ bK=>?_
  obtain⟨v4,v5,v6,v7,rfl,sm,hN⟩:=afE
  refine bK.k ?_
  exact⟨_,rfl,q _ _ sm hN⟩
end
theorem afF(F:cy m w R)(h:∀pl,pl<R.length->dG m R pl ks≠[]/\46∉(ax m (ai R pl)).cps.toList):dU m=false/\cB ks m w=true:=by
 have hd:dU m=false:=RV F λr mr=>by
  obtain⟨i,hi⟩:=fJ mr
  have:=(h i (bY.mp hi).1).2
  rwa [show ai R i=r from b7 hi] at this
 have key:∀pl,pl<R.length->ax m (ai R pl)∈ks/\ax m (ai R pl)∉pF m R pl:=λpl hpl=>by
  obtain⟨h1,h2⟩:=h pl hpl
  obtain⟨x,mx⟩:=List.exists_mem_of_ne_nil _ h1
  unfold dG at mx
  obtain⟨mx,hn⟩:=cq.mp mx
  obtain⟨hk,hf⟩:=cq.mp ((iV _).mem_iff.mp mx)
  obtain⟨hl,hx⟩:=i5.mp hf
  have e:x=ax m (ai R pl):=by
   apply nA
   apply jP
   intro k
   by_cases jq:k<x.length
   .have a1:x.cps.toList[k]? = some (x.cps.toList.getD k 0):=by
     rw[bQ,bf (by rw[cu];exact jq)];rfl
    have a2:(ax m (ai R pl)).cps.toList[k]? = some ((ax m (ai R pl)).cps.toList.getD k 0):=by
     rw[bQ,bf (by rw[cu];lia)];rfl
    rw[a1,a2]
    rcases hx k jq with z | z
    .exact absurd (by rw[<-z];exact bj a2) h2
    .rw[z]
   .rw[cZ (by rw[cu];lia),cZ (by rw[cu];lia)]
  rw[<-e]
  exact⟨hk,by simpa using hn⟩
 refine⟨hd,Ia hd ?_ ?_⟩
 .unfold cR
  rw[F.eq,List.Nodup,LX]
  intro i j hi hj vP e
  rw[aw] at hi hj
  have g:∀k (hk:k<R.length),(R.map (ax m))[k]'(by rw[aw];exact hk)=ax m (ai R k):=λk hk=>by
   have:=lA R (ax m) hk
   rw[bf (by rw[aw];exact hk)] at this
   exact cY this
  rw[g i hi,g j hj] at e
  exact(key i hi).2 (IA.mpr ⟨j,hj,by lia,e.symm⟩)
 .intro x mx
  unfold cR at mx
  rw[F.eq] at mx
  obtain⟨r,mr,rfl⟩:=bM.mp mx
  obtain⟨i,hi⟩:=fJ mr
  have:=(key i (bY.mp hi).1).1
  rwa [show ai R i=r from b7 hi] at this
def xj(ks m:List Str)(w:Nat)(new:List (List Str)):Prop:=new.Nodup/\∀s,s∈new↔bP s m w/\cB ks s w=true
theorem xj.whole(F:cy m w R)(h:∀pl,pl<R.length->dG m R pl ks≠[]/\46∉(ax m (ai R pl)).cps.toList):xj ks m w [m]:=by
 obtain⟨hd,hf⟩:=afF F h
 refine⟨gG.mpr ⟨fH,je⟩,λs=>⟨λms=>?_,λ⟨a,_⟩=>?_⟩⟩
 .rw[cn.mp ms]
  exact⟨bP.refl F.sh,hf⟩
 .exact cn.mpr (a.same F.sh hd)
def nQ(ks m:List Str)(w:Nat)(R:List (List C2))(pl:Nat)(Xs:List Str)(new:List (List Str)):Prop:=new.Nodup/\∀s,s∈new↔bP s m w/\cB ks s w=true/\ax s (ai R pl)∈Xs
theorem afG(h:x∈dG m R pl ks):x∈ks/\cX x (ax m (ai R pl))=true:=by
 unfold dG at h
 exact cq.mp ((iV _).mem_iff.mp (cq.mp h).1)
theorem nQ.step(F:cy m w R)(hx:jG x)(dB:cX x (ax m (ai R pl))=true)(hn:x∉Xs)(S:nQ ks m w R pl Xs new)(A:xj ks (putL m (ai R pl) x.cps.toList) w nw):nQ ks m w R pl (Xs++[x]) (new++nw):=by
 have hl:x.length=(ai R pl).length:=by rw[(i5.mp dB).1,fF]
 have ht:∀s∈nw,bP s m w/\cB ks s w=true/\ax s (ai R pl)=x:=λs ms=>by
  obtain⟨a,b⟩:=(A.2 s).mp ms
  exact⟨a.QV F hx dB,b,a.text F hx hl⟩
 refine⟨qe.mpr ⟨S.1,A.1,λs ms t mt e=>?_⟩,λs=>?_⟩
 .have h1:=((S.2 s).mp ms).2.2
  rw[e,(ht t mt).2.2] at h1
  exact hn h1
 .rw[cS,S.2,cS,cn]
  constructor
  .rintro(⟨a,b,c⟩ | h)
   .exact⟨a,b,.inl c⟩
   .obtain⟨a,b,c⟩:=ht s h
    exact⟨a,b,.inr c⟩
  .rintro⟨a,b,c | c⟩
   .exact .inl ⟨a,b,c⟩
   .refine .inr ((A.2 s).mpr ⟨?_,b⟩)
    have:=a.put F pl (by rw[c];exact hx)
    rwa [c] at this
theorem nQ.all(F:cy m w R)(hw:∀x∈ks,cP x=true)(hpl:pl<R.length)(S:nQ ks m w R pl (dG m R pl ks) new):xj ks m w new:=
 ⟨S.1,λs=>by
  rw[S.2]
  exact⟨λh=>⟨h.1,h.2.1⟩,λh=>⟨h.1,h.2,h.1.left F hw h.2 hpl⟩⟩⟩
theorem nQ.nil(ks m:List Str)(w:Nat)(R:List (List C2))(pl:Nat):nQ ks m w R pl [] []:=by simp_all [C2,nQ]
noncomputable def lsN{α:Type}(al:List α):Nat->List (List α)
 |0=>[[]]
 |n+1=>al.flatMap λa=>(lsN al n).map λr=>a::r
theorem SM{α:Type}(al:List α):∀n,(lsN al n).length=al.length ^ n
 |0=>rfl
 |n+1=>by
  rw[lsN,L7]
  simp only[aw,SM al n]
  rw[List.map_const',UN,Nat.pow_succ,qb]
theorem SN{α:Type}{al:List α}:∀{r:List α},(∀c∈r,c∈al)->r∈lsN al r.length
 |[],_=>bz
 |a::r,h=>AQ.mpr ⟨a,h a bz,mU (SN λc m=>h c (bX _ m))⟩
noncomputable def pO(m:List Str)(w:Nat):List (List C2):=(iz m w).map (·.2)
theorem SO(h:r∈pO m w):r∈aG m w:=by
 obtain⟨q,mq,rfl⟩:=bM.mp h
 rw[pq]
 exact mU (cS.mpr (.inl mq))
theorem SQ(S:aZ m w)(T:gZ m w)(h:bx m w c=true):cO c (iz m w)=1:=by
 have:=T c h
 rw[Ik,BY S,G3 S] at this
 rw[BY S]
 split at this <;> split at this <;> simp_all
theorem afH(S:aZ m w)(T:gZ m w)(h9:m.length*w<=9):(pO m w).length<=4:=by
 have aY:∀q∈iz m w,2<=q.2.length/\∀c∈q.2,c∈ba m w:=λq mq=>by
  have h1:q.2∈aG m w:=SO (mU mq)
  have h2:=jE S h1
  exact⟨h2.1,λc mc=>by
   have hc:=h2.2.2 c mc
   exact yV (by rw[nF hc.1 hc.2.1];exact hc.2.2)⟩
 have e:=Ij (yU m w) (rs:=iz m w) λq mq=>(aY q mq).2
 have e2:((ba m w).map λc=>cO c (iz m w)).sum=(ba m w).length:=by
  rw[L6 (g:=λ_=>1) λc mc=>?_,List.map_const',UN,iP]
  refine SQ S T ?_
  unfold ba at mc
  obtain⟨m1,m2⟩:=cq.mp mc
  have:=nC m1
  rw[nF this.1 this.2]
  exact m2
 have e3:(ba m w).length<=9:=by
  refine bF ?_ h9
  unfold ba
  exact bF (fY _ _) (by rw[jv];exact aO _)
 have e4:∀rs:List (Nat×List C2),(∀q∈rs,2<=q.2.length)->2*rs.length<=(rs.map λq=>q.2.length).sum:=by
  intro rs
  induction rs with
  |nil=>intro _;exact aO _
  |cons a t ih=>
   intro h
   rw[bS,fZ,dO]
   have:=h a bz
   have:=ih λq mq=>h q (bX _ mq)
   lia
 have:=e4 (iz m w) λq mq=>(aY q mq).1
 unfold pO
 rw[aw]
 lia
theorem afI(S:aZ m w)(T:gZ m w){t:List Str}(A:bP s m w)(B:bP t m w)(e:(pO m w).map (ax s)=(pO m w).map (ax t)):s=t:=by
 refine Iz A.sh.dn B.sh.dn (A.ln.trans B.ln.symm) λc h1 h2=>?_
 rw[A.ln] at h1
 by_cases ho:bL m c=true
 .have h:=SQ S T (c:=c) (by rw[nF h1 h2];exact ho)
  have hx:∃r∈pO m w,c∈r:=by
   refine UM λhn=>?_
   have:cO c (iz m w)=0:=by
    unfold cO
    refine vR λy my=>?_
    obtain⟨q,mq,rfl⟩:=bM.mp my
    exact LY.mpr λmc=>hn ⟨q.2,mU mq,mc⟩
   lia
  obtain⟨r,mr,mc⟩:=hx
  have er:ax s r=ax t r:=by
   obtain⟨i,hi⟩:=fJ mr
   have:=fc (λz=>z[i]?) e
   rw[bw,bw,hi] at this
   exact cY this
  obtain⟨k,hk⟩:=fJ mc
  have:=fc (λz:Str=>z.cps.toList[k]?) er
  rw[i4 hk,i4 hk] at this
  exact cY this
 .have a:¬bL s c=true:=by rw[A.op h1 h2];exact ho
  have b:¬bL t c=true:=by rw[B.op h1 h2];exact ho
  rw[CV a,CV b]
theorem afJ(S:aZ m w)(T:gZ m w)(h9:m.length*w<=9)(hk:ks.length<64)(nd:new.Nodup)(h:∀s∈new,bP s m w/\cB ks s w=true):new.length<=15752961:=by
 have h1:(new.map λs=>(pO m w).map (ax s)).length<=(lsN ks (pO m w).length).length:=by
  refine List.Nodup.length_le_of_subset ?_ ?_
  .rw[List.Nodup,List.pairwise_map]
   refine List.Pairwise.imp_of_mem (λma mb cE e=>cE ?_) nd
   exact afI S T (h _ ma).1 (h _ mb).1 e
  .intro y my
   obtain⟨s,ms,rfl⟩:=bM.mp my
   obtain⟨A,hf⟩:=h s ms
   have h3:=(qS hf).2.2
   have:=SN (al:=ks) (r:=(pO m w).map (ax s)) λx mx=>by
    obtain⟨r,mr,rfl⟩:=bM.mp mx
    refine h3 _ ?_
    unfold cR
    rw[A.rows]
    exact mU (SO mr)
   rwa [aw] at this
 rw[aw,SM] at h1
 have h2:=afH S T h9
 refine bF h1 (bF (Nat.pow_le_pow_left (show ks.length<=63 by lia) _) ?_)
 exact bF (Nat.pow_le_pow_right (by decide) h2) (by decide)
theorem afK(h:ks.Nodup):(dG m R pl ks).Nodup:=by
 unfold dG
 exact((iV _).nodup_iff.mpr (h.filter _)).filter _
theorem afL(F:cy m w R)(hx:jG x)(hl:x.length=(ai R pl).length):ja m (putL m (ai R pl) x.cps.toList) w:=by
 refine⟨mG _ _ _,λc h1 h2=>?_⟩
 rcases zL F pl hl h1 h2 with ⟨k,ch,hk,hch,e⟩ | ⟨_,e⟩
 .rw[(F.pJ hk).2.2]
  unfold bL
  have:=hx ch (bj hch)
  rw[e,aI (by lia)]
  rfl
 .unfold bL
  rw[e]
section
variable{w:World}
structure afM(K:Frag)(H:Hp)(ww g a:Addr)(ws l:List Str)(w n:Nat)(R:List (List C2))(zs:List V):Prop where
 hW:H ww=some (.lst (ws.map V.str))
 eM:ws.length<64
 wd:∀x∈ws,cP x=true
 nd:ws.Nodup
 hT:H a=some (.tup (l.map V.str))
 fl:cy l w R
 two:gZ l w
 nine:l.length*w<=9
 free:(dk l w).length<n
 hG:H g=some (.lst zs)
 hR:fX g H R zs
def DI(K:Frag)(n:Nat):Sp:=λvs H Q _=>∃(ww g a:Addr) (ws l:List Str) (w:Nat) (R:List (List C2)) (zs:List V),vs=[.ref ww,.ref g,.ref a]/\afM K H ww g a ws l w n R zs/\
 ∀t ts new H',H t=none->af H H'->H' t=some (.lst (ts.map V.ref))->kM H' ts new->xj ws l w new->Q (.ref t) H'
theorem xk:bh ["_law_words_here","_law_rows_here","_law_sheet","_law_turn_here","_law_told","_law_word"] ["_law_words_here","_law_rows_here","_law_sheet"] (aN (top 82)):={}
theorem afN(n:Nat)(B:Bl mg)(F:aW K "_law_all" "_law_all" (top 82) f fd)(J1:Fn P w K mg base "_law_all" (n+3) (DI K n))(DJ:Fn P w K mg base "_law_turn" 3 (JZ K))(DK:Fn P w K mg base "_law_put" 2 (HJ K)):aK P w K mg base aP (n+4) f fd ["_law_words_here","_law_rows_here","_law_sheet"] (DI K (n+1)):=by
 refine F.bE xk λaE A outer s H vs Q E hr h=>?_
 refine hide λG_ aD=>?_
 obtain⟨ww,g,a,ws,l,wd,R,zs,rfl,PA,q⟩:=h
 refine aD.k ?_
 have hu:=hr.units
 refine⟨_,(aq (aH 3 xk.nd (aR DJ hr (ae (pv 0) (ae (pv 1) (ae (pv 2) (ae aF ag))))))
  (aq (bH (bO x4 (pv 3) jU)
  (au (aS (du (ae (pv 2) ag))))
  bN)
  (aq (aH 4 xk.nd (du ag))
  (aq (cD (dJ (aV bV (pv 3) aF)) (bI 5 xk.nd)
  (au (aH 4 xk.nd (bb yg (pv 4) (aR J1 hr (ae (pv 0) (ae (pv 1) (ae (aR DK hr (ae (pv 2) (ae (aV gj (pv 1) (aV bV (pv 3) aF)) (ae (pv 5) ag)))) ag))))))))
  (au (aS (pv 4))))))),?_⟩
 try dsimp only[bt]
 refine⟨_,rfl,_,rfl,_,rfl,ww,g,a,ws,l,wd,R,zs,rfl,PA.hW,PA.eM,PA.wd,ak.of PA.hT,PA.fl,PA.hG,PA.hR,λv H1 s1 hN=>?_⟩
 rcases hN with ⟨rfl,gT⟩ | ⟨t,lf,pl,rfl,ht,Ds,hpl,hd⟩
 .refine⟨_,rfl,rfl,_,rfl,bp ⟨_,rfl,(by show 1<=sizeLine;decide),λr SR=>?_⟩⟩
  have s2:=s1.trans (af.upd (o:=HO.lst [V.ref a]) SR)
  exact q r [a] [l] _ (s1.free SR) s2 ao (.cons (s2 _ _ PA.hT) .nil) (xj.whole PA.fl gT)
 .refine⟨_,rfl,rfl,_,rfl,aQ ⟨bG _,λlt aT=>?_⟩⟩
  have ltH:=s1.free aT
  have s2:=af.upd (o:=HO.lst []) aT
  have vE:upd H1 lt (.lst []) lt=some (.lst (([]:List Addr).map V.ref)):=ao
  have gW:=s2 _ _ ht
  have J2:=s2 _ _ Ds
  have jJ:=s1.trans s2
  generalize upd H1 lt (.lst [])=H2 at jJ vE gW J2
  clear s2
  have hsz:(15752961:Nat)<=sizeLine:=by decide
  have IC:=PA.hR.length
  refine hide λG_ aX=>?_
  obtain⟨zv,SU⟩:∃zv,zs[pl]? = some zv:=⟨_,bf (by lia)⟩
  obtain⟨r0,hr0,SV,wt,rfl,_,afO,jo⟩:=Paired.get PA.hR SU
  refine aX.k ?_
  have SW:ai R pl=r0:=b7 hr0
  refine⟨_,rfl,t,_,1,.ref lf,rfl,rfl,ak.of gW,rfl,lf,rfl,⟨_,aj.of J2⟩,?_⟩
  refine jl (K:=K) (xs:=(dG l R pl ws).map V.str) (λi O H3=>∃(lt:Addr) (v5:Option V) (ts:List Addr) (new:List (List Str)),O=[some (.ref ww),some (.ref g),some (.ref a),some (.ref t),some (.ref lt),v5]/\af H2 H3/\H lt=none/\H3 lt=some (.lst (ts.map V.ref))/\kM H3 ts new/\nQ ws l wd R pl ((dG l R pl ws).take i) new)
   ⟨lt,none,[],[],rfl,af.cx _,ltH,vE,.nil,nQ.nil ..⟩ (λi O H3 _ ⟨_,_,_,_,_,s3,_⟩=>aj.of (s3 _ _ J2)) ?_ ?_
  .intro i y O H3 hy afP
   refine hide λG_ bK=>?_
   obtain⟨lt,v5,ts,new,rfl,s3,SX,J3,kK,S3⟩:=afP
   rw[bw] at hy
   obtain⟨x,hx,rfl⟩:=iO.mp hy
   have Ka:=bj hx
   obtain⟨i7,dB⟩:=afG Ka
   refine bK.k ?_
   have mK:=Jw (PA.wd x i7)
   have fD:x.length=(ai R pl).length:=by rw[(i5.mp dB).1,fF]
   have dH:=jJ.trans s3
   have afQ:46∈(ax l (ai R pl)).cps.toList:=by
    rcases hd with z | z
    .rw[z] at Ka;exact nomatch Ka
    .exact z
   have d7:=QX PA.fl mK dB afQ
   have om:=PA.free
   refine⟨_,rfl,_,rfl,_,rfl,_,rfl,_,rfl,_,rfl,t,_,0,.int pl,rfl,rfl,ak.of (s3 _ _ gW),rfl,g,_,_,.ref SV,rfl,rfl,aj.of (dH _ _ PA.hG),dz SU,_,rfl,?_⟩
   refine⟨a,SV,l,wd,r0,wt,x,rfl,dH _ _ PA.hT,PA.fl.sh.dn,dH _ _ afO,jo.mono dH,by rw[<-SW];exact PA.fl.kJ pl,λa2 H4 s4 BL=>?_⟩
   rw[<-SW] at BL
   have jK:=dH.trans s4
   refine⟨ww,g,a2,ws,putL l (ai R pl) x.cps.toList,wd,R,zs,rfl,⟨jK _ _ PA.hW,PA.eM,PA.wd,PA.nd,BL,PA.fl.put pl mK fD,(afL PA.fl mK fD).two PA.two,by rw[mG];exact PA.nine,by lia,jK _ _ PA.hG,fX.mono jK PA.hR⟩,λt' eE nw H5 _ s5 pN ub A5=>?_⟩
   have jB:(dG l R pl ws).take (i+1)=(dG l R pl ws).take i++[x]:=by rw[eJ,hx];rfl
   have hnx:x∉(dG l R pl ws).take i:=by
    have h1:((dG l R pl ws).take (i+1)).Nodup:=(afK PA.nd).sublist (Ek _ _)
    rw[jB,qe] at h1
    exact λm=>h1.2.2 x m x (cn.mpr rfl) rfl
   have S5:=S3.step PA.fl mK dB hnx A5
   have DL:=s4.trans s5
   have afR:kM H5 ts new:=kK.keep λb o _ _ e=>DL _ _ e
   have SY:kM H5 (ts++eE) (new++nw):=wC afR ub
   have hle:=afJ PA.fl.sh PA.two PA.nine PA.eM S5.1 λs ms=>⟨((S5.2 s).mp ms).1,((S5.2 s).mp ms).2.1⟩
   have e1:=gE SY
   refine⟨lt,t',_,_,rfl,rfl,DL _ _ J3,pN,by rw[aw,aw,<-di];lia,λp hp=>?_⟩
   have s6:=af.upd (o:=HO.lst (ts.map V.ref++eE.map V.ref)) hp
   refine⟨p,_,ts++eE,new++nw,rfl,s3.trans (DL.trans s6),jJ.free (s3.free (DL.free hp)),by rw[ao,eW],SY.keep (λb o _ _ e=>s6 _ _ e),by rw[jB];exact S5⟩
  .intro O H3 afS
   refine hide λG_ cJ=>?_
   obtain⟨lt,v5,ts,new,rfl,s3,SX,J3,kK,S3⟩:=afS
   refine cJ.k ?_
   rw[aw,fg (aO _)] at S3
   exact⟨_,rfl,q lt ts new H3 SX (jJ.trans s3) J3 kK (S3.all PA.fl PA.wd hpl)⟩
theorem S0(B:Bl mg)(F:aW K "_law_all" "_law_all" (top 82) f fd)(hm:mg "_law_all"=some (.ref f))(hk:keepIn K (.ref f)=true)(hb:Binds K fd ["_law_words_here","_law_rows_here","_law_sheet"] [])(DJ:Fn P w K mg base "_law_turn" 3 (JZ K))(DK:Fn P w K mg base "_law_put" 2 (HJ K)):∀n:Nat,aK P w K mg base aP (n+3) f fd ["_law_words_here","_law_rows_here","_law_sheet"] (DI K n)
 |0=>F.ok xk (λvs H Q E h=>by obtain⟨ww,g,a,ws,l,w,R,zs,rfl,PA,_⟩:=h;exact absurd PA.free (ic _)) (λaE A outer s H vs Q E hr h=>by obtain⟨ww,g,a,ws,l,w,R,zs,rfl,PA,_⟩:=h;exact absurd PA.free (ic _))
 |n+1=>afN n B F ⟨f,fd,_,S0 B F hm hk hb DJ DK n,hm,hk,hb⟩ DJ DK
end
noncomputable def DM(dI:List (List Str)):List D:=dI.map λs=>D.tup (s.map D.str)
theorem Kb(K:Frag)(H:Hp):∀{ts:List Addr}{dI:List (List Str)},kM H ts dI->eO K H (DM dI) (ts.map V.ref)
 |_,_,.nil=>rfl
 |_,_,.cons h t=>⟨_,_,rfl,⟨_,_,rfl,ak.of h,uu K H _⟩,Kb K H t⟩
def xl(C:Addr)(E:XK)(H:Hp):Prop := ∀e H',af H H'->H' e=some (kq C none e)->E (.ref C) (some e) H'
theorem xl.mono(s:af H H1)(h:xl C E H):xl C E H1:=λe H' s' he=>h e H' (s.trans s') he
theorem afT(s:af H H1)(h:xl C E H):∃v',[v]=[v']/\∀e,H1 e=none->E (.ref C) (some e) (upd H1 e (kq C none e)):=⟨v,rfl,λe he=>h e _ (s.trans (af.upd he)) ao⟩
section
variable{w:World}
def S4(K:Frag)(C:Addr):Sp:=λvs H Q _=>∃(p d a:Addr) (kvs:List (Key×V)) (l:List Str) (w:Nat),vs=[.ref p,.ref a]/\fW C H p d kvs/\ak K H a (l.map V.str)/\aZ l w/\
 ∀H',af H H'->Q (.bl (cB (aM kvs) l w)) H'
theorem DN:bh ["book","sheet","seen","row","word"] ["book","sheet"] (aN (top 35)):={}
theorem afU(F:aW K "is_filling" "is_filling" (top 35) f fd)(afV:Fn P w K mg base "free_cells" 3 (PJ K))(z7:Fn P w K mg base "rows_of" 5 (Cb K))(Jp:Fn P w K mg base "pattern" 2 (Hn K))(Kc:Mt P w K mg base C "has" 1 (PU C) []):aK P w K mg base aP 6 f fd ["book","sheet"] (S4 K C):=by
 refine F.bE DN λaE A outer s H vs Q E hr h=>?_
 refine hide λG_ aD=>?_
 obtain⟨p,d,a,kvs,l,wd,rfl,hB,hT,S,q⟩:=h
 have dF:=ke hr
 obtain⟨⟨dx,ki⟩,Kd,b6,uc⟩:=id hB
 refine aD.k ?_
 refine⟨_,(aq (bH (se (aR afV hr (ae (pv 1) ag)) (by intro _;rfl))
  (au (aS fh))
  bN)
  (aq (aH 2 DN.nd Bm)
  (aq (cD (dJ (aR z7 hr (ae (pv 1) ag))) (bI 3 DN.nd)
  (aq (aH 4 DN.nd (aR Jp hr (ae (pv 1) (ae (aV bV (pv 3) aF) ag))))
   (aq (bH (PW.pt (gH (xT (Bk dF (pv 4) (pv 2))) (jk (gi (eX (qB Kc hr (pv 0) (ae (pv 4) ag)))))))
   (au (aS fh))
   bN)
   (au (yi dF (pv 2) (pv 4) fh rfl)))))
  (au (aS fh))))),?_⟩
 try dsimp only[bt]
 refine⟨_,rfl,a,l,wd,rfl,hT,S,λfp xs H1 hfp s1 hL hC=>⟨_,.inl ⟨xs,aj.of hL,rfl⟩,?_⟩⟩
 have exs:xs.isEmpty = !dU l:=by
  rw[<-acO S]
  have:=gE hC
  cases xs with
  |nil=>rw[List.length_eq_zero_iff.mp this];rfl
  |cons y r=>
   cases z:dk l wd with
   |nil=>rw[z] at this;cases this
   |cons _ _=>rfl
 rw[exs,Bool.not_not]
 refine eY (λgr=>?_) (λgr=>?_)
 .have e:cB (aM kvs) l wd=false:=fK.mpr λe=>by rw[(qS e).1] at gr;cases gr
  rw[e] at q
  exact q H1 s1
 .have gr:=fK.mpr gr
  intro sd Ke
  have t1:=s1.trans (af.upd (o:=HO.dK []) Ke)
  have afW:=s1.free Ke
  refine⟨_,rfl,a,l,wd,rfl,t1.tup hT,S,λg tO ys H2 hg s2 yL hA hD=>⟨g,rfl,⟨_,aj.of yL⟩,?_⟩⟩
  have Al:H2 sd=some (.dK []):=s2 _ _ ao
  have t2:=t1.trans s2
  have hR:=Hk hA hD
  have Cy:=gE hR
  have kH:=qQ S
  have QC:=QA l wd
  clear hA hD s2 t1 Ke hL hC
  have ngs:g≠sd:=bT yL Al (by intro z;cases z)
  refine jl (xs:=tO++ys) (λi O H3=>∃(v3 v4:Option V) (pP:List (Key×V)),O=[some (.ref p),some (.ref a),some (.ref sd),v3,v4]/\af H H3/\(∀b o,b≠sd->H2 b=some o->H3 b=some o)/\H3 sd=some (.dK pP)/\l7 pP/\aM pP=(cR l wd).take i/\(aM pP).Nodup/\∀x∈aM pP,x∈aM kvs)
   ⟨none,none,[],rfl,t2,λ_ _ _ h=>h,Al,λq m=>absurd m fH,by rw[nX];rfl,je,λx m=>absurd m fH⟩ (λi O H3 _ ⟨_,_,_,_,_,off,_⟩=>aj.of (off _ _ ngs yL)) ?_ ?_
  .intro i y O H3 hi afX
   refine hide λG_ aX=>?_
   obtain⟨v3,v4,pP,rfl,sm,off,BP,Kf,dS,DO,DP⟩:=afX
   obtain⟨Kg,hq,way,aa,t,DF,rfl,g1,g2,g3⟩:=Paired.get hR hi
   refine aX.k ?_
   have aY:=Ci (bj hq)
   have g1:=off _ _ (bT g1 Al (by intro z;cases z)) g1
   have g2:=off _ _ (bT g2 Al (by intro z;cases z)) g2
   have g3:bq H3 Kg.2 DF:=Paired.bU g3 λ_ _ ⟨b,e,hb⟩=>⟨b,e,off _ _ (bT hb Al (by intro z;cases z)) hb⟩
   have OE:i<(dw l wd).length:=(bY.mp hq).1
   have Am:=acP hq
   refine⟨_,rfl,_,rfl,aa,_,2,.ref t,rfl,rfl,ak.of g1,rfl,a,t,l,wd,Kg.2,DF,rfl,sm.tup hT,S,g2,g3,by lia,λc hc=>⟨(aY.2 c hc).1,(aY.2 c hc).2.1⟩,λH4 s4=>?_⟩
   revert Am
   generalize ax l Kg.2=x
   intro Am
   have S6:=s4 _ _ BP
   have cW:=sm.trans s4
   refine⟨_,rfl,_,rfl,sd,_,rfl,dY.k (k:=Sum.inr x) S6,_,rfl,?_⟩
   rw[zH Kf]
   by_cases hx:x∈aM pP
   .rw[aJ hx]
    rw[Qz Am (.inl (by rw[<-dS];exact hx))] at q
    exact bp (bp (q H4 cW))
   .rw[aI hx]
    refine aQ ?_
    refine⟨_,rfl,p,dx,_,rfl,cW _ _ ki,tR _ (by decide +kernel),_,rfl,p,d,kvs,x,rfl,hB.mono cW,_,rfl,?_⟩
    rw[zH uc]
    by_cases hy:x∈aM kvs
    .rw[aJ hy]
     refine aQ ?_
     have hv:=Qy hx
     have mf:pP.length<=200:=by rw[<-wm,dS,jN];lia
     refine⟨_,rfl,_,rfl,sd,_,rfl,lX.k (k:=Sum.inr x) S6 (Ng (by lia)),?_⟩
     refine⟨_,_,_,rfl,cW.kf afW,λb o hb h=>?_,ao,PL Kf x _ hv,?_,?_,?_⟩
     .rw[ar hb]
      exact s4 _ _ (off b o hb h)
     .rw[CF _ hv,dS,eJ,Am]
      rfl
     .rw[CF _ hv]
      exact Fw DO hx
     .intro z mz
      rw[CF _ hv] at mz
      rcases cS.mp mz with m | m
      .exact DP z m
      .rw[cn.mp m]
       exact hy
    .rw[aI hy]
     rw[Qz Am (.inr hy)] at q
     exact bp (q H4 cW)
  .intro O H3 afY
   refine hide λG_ bK=>?_
   obtain⟨v3,v4,pP,rfl,sm,off,BP,Kf,dS,DO,DP⟩:=afY
   refine bK.k ?_
   rw[fg (by lia)] at dS
   rw[dS] at DO DP
   rw[Ia gr DO DP] at q
   exact q H3 sm
end
theorem S9:∀zs:List Str,(Str.join ⟨#[]⟩ zs).cps.toList=zs.flatMap λx=>x.cps.toList
 |[]=>rfl
 |[x]=>by simp[Str.join]
 |x::y::r=>by
  have ih:=S9 (y::r)
  show((x++⟨#[]⟩++Str.join ⟨#[]⟩ (y::r):Str)).cps.toList=_
  rw[nB,nB,ih]
  simp
theorem afZ(l:List Str):decide (46∈(Str.join ⟨#[]⟩ l).cps.toList)=dU l:=by
 rw[S9]
 unfold dU
 rw[Ay,xD,AQ,uG]
 constructor
 .rintro⟨x,m,h⟩
  exact⟨x,m,aJ h⟩
 .rintro⟨x,m,h⟩
  exact⟨x,m,fG h⟩
theorem Ta{w:Nat}:∀{l:List Str},(∀x∈l,x.length=w)->(l.map (·.length)).sum=l.length*w
 |[],_=>by simp
 |x::r,h=>by
  rw[bS,fZ,Ta λy m=>h y (bX _ m),h x bz,dO,iN,Nat.add_comm]
theorem af0(h:(aG l w)[i]? = some r):(cR l w)[i]? = some (ax l r):=by
 unfold cR
 rw[bw,h]
 rfl
theorem DQ(i j:Nat):decide (V.int (i:Int)=V.int (j:Int))=decide (i=j):=by
 by_cases h:i=j
 .rw[h,aJ rfl,aJ rfl]
 .rw[aI h,aI]
  intro z
  injection z with z
  lia
section
variable{w:World}
def Kh(K:Frag):Sp:=λvs H Q _=>∃(d a:Addr) (ks:List Str) (l:List Str) (w:Nat),vs=[.ref d,.ref a]/\H d=some (.lst (ks.map V.str))/\ak K H a (l.map V.str)/\aZ l w/\∀H',af H H'->Q (.bl (cB ks l w)) H'
theorem Tb:bh ["_law_words_here","_law_sheet","_law_texts"] ["_law_words_here","_law_sheet"] (aN (top 79)):={}
theorem af1(B:Bl mg)(F:aW K "_law_is_filling" "_law_is_filling" (top 79) f fd)(tZ:Fn P w K mg base "_law_rows" 3 (zh K))(pE:Fn P w K mg base "_law_text" 1 (zo K)):aK P w K mg base aP 4 f fd ["_law_words_here","_law_sheet"] (Kh K):=by
 refine F.bE Tb λaE A outer s H vs Q E hr h=>?_
 refine hide λG_ aD=>?_
 obtain⟨d,a,ks,l,wd,rfl,hd,hT,S,q⟩:=h
 refine aD.k ?_
 have dF:=ke hr
 refine⟨_,(aq (vv (i:=2) Tb.nd rfl (Or.inl rfl) (js:=[1]) (ns:=["_law_sheet"]) (dJ (aR tZ hr (ae (pv 1) ag))) rfl rfl rfl rfl (λ_ _ _ _=>lg) (λ_ _ _ _=>(aR pE hr (ae (pv 1) (ae (pv 0) ag)))))
  (aq (bH (PW.pt (gH (bO A9 eB (fq LZ UI UJ FO eB (ae (jY vk (by rfl) B.tK sP (ae (pv 1) ag)) ag))) (jk (bO jm (bg Z9 (by rfl) B.cj b9 (ae (jY (Z8 rfl) (by rfl) B.aaT aaa (ae (pv 2) ag)) ag)) (bg dX (by rfl) B.cj b9 (ae (pv 2) ag))))))
  (au (aS fh))
  bN)
  (au (aS (bg (ND rfl) (by rfl) B.Pf NB (ae (iS (js:=[0]) (ns:=["_law_words_here"]) (dJ (pv 2)) rfl rfl rfl rfl (λ_ _ _ _=>lg) (λ_ _ _ _=>(Yl (K:=K) (rr:=λK=>yd K false) rfl WC (pv 0) (pv 1)))) ag)))))),?_⟩
 try dsimp only[bt]
 refine⟨_,rfl,a,l,wd,rfl,hT,S,λg xs H1 hg s1 hL hR=>⟨g,rfl,⟨_,aj.of hL⟩,?_⟩⟩
 have Cy:=gE hR
 have kH:=qQ S
 have QC:=QA l wd
 have htc:(cR l wd).length=(aG l wd).length:=by unfold cR;rw[aw]
 refine comp_map kg (by lia) (λ_ i y _=>y = .str ((cR l wd).getD i ⟨#[]⟩)) (λH2 s2=>aj.of (s2 _ _ hL)) (λ_ _ _ _ _ _ _ _ h=>h) ?_ ?_
 .intro D i x H2 Z kE hx s2 _ k1
  refine hide λG_ aX=>?_
  obtain⟨r,fE,p1,ys,rfl,_,hp,hc⟩:=Paired.get hR hx
  refine aX.k ?_
  have aY:=jE S (bj fE)
  exact⟨_,rfl,_,rfl,a,p1,l,wd,r,ys,rfl,(s1.trans s2).tup hT,S,s2 _ _ hp,hc.mono s2,by lia,λc mc=>⟨(aY.2.2 c mc).1,(aY.2.2 c mc).2.1⟩,λH3 s3=>k1 _ _ s3 (by rw[b7 (af0 fE)])⟩
 .intro D zs H2 kE bD s2 pr
  have e:=oZ pr
  rw[<-Cy,<-htc,o9 (λx=>V.str x)] at e
  rw[e] at bD
  have sm:=s1.trans s2
  clear pr e hR hL kE
  refine⟨rfl,_,rfl,a,_,rfl,.inr (sm.tup hT),λlp oH=>⟨_,lp,l,rfl,rfl,.inl (aj.of ao),?_,_,_,rfl,rfl,_,rfl,?_⟩⟩
  .rw[Ta S.len,vY]
   have h9:=S.nine
   have w9:=S.w9
   have:l.length*wd<=9*9:=uP h9 w9
   show _+_*0<=_
   lia
  .have ef:(!(Builtin.Str.occurrences (Str.join (Str.ofString "") l) (Str.ofString ".") 0 (Str.join (Str.ofString "") l).length 1).isEmpty)=dU l:=by
    rw[<-afZ,tL,vY]
    exact EB _ 46
   rw[ef]
   have gm:=sm.trans (af.upd (o:=HO.lst (l.map V.str)) oH)
   have An:=(af.upd (o:=HO.lst (l.map V.str)) oH) _ _ bD
   revert gm An
   generalize upd H2 lp (.lst (l.map V.str))=H3
   intro gm An
   cases gr:dU l with
   |true=>
    have e:cB (ks) l wd=false:=fK.mpr λe=>by rw[(qS e).1] at gr;cases gr
    rw[e] at q
    exact bp (bp (q H3 gm))
   |false=>
    refine aQ ?_
    refine⟨_,rfl,D,cR l wd,rfl,aj.of An,lK (show(cR l wd).length+1<=1000 by lia) (by decide),λst T c cL hc=>⟨st,T,c,rfl,ao,_,rfl,D,_,rfl,.inl (aj.of ((af.upd cL) _ _ An)),rfl,_,rfl,?_⟩⟩
    have cW:=gm.trans (af.upd (o:=HO.ext (vK P w st T c)) cL)
    have Tc:=(af.upd (o:=HO.ext (vK P w st T c)) cL) _ _ An
    rw[aw,DQ]
    by_cases b6:(cR l wd).Nodup
    .rw[aJ (hc.mpr b6)]
     refine aQ ?_
     refine⟨_,rfl,D,rfl,⟨_,aj.of Tc⟩,?_⟩
     refine comp_map kg (by rw[aw];lia) (λ_ i y _=>y = .bl (decide ((cR l wd).getD i ⟨#[]⟩∈ks))) (λH5 s5=>aj.of (s5 _ _ Tc)) (λ_ _ _ _ _ _ _ _ h=>h) ?_ ?_
     .intro D2 i v H5 Z kE hv s5 _ k1
      rw[bw] at hv
      cases ex:(cR l wd)[i]? with
      |none=>rw[ex] at hv;cases hv
      |some x=>
       rw[ex] at hv
       cases hv
       refine⟨_,rfl,_,rfl,d,_,rfl,.inl (aj.of ((cW.trans s5) _ _ hd)),rfl,by rw[uK];exact lL.mpr λ_ _=>rfl,k1 _ _ (af.cx _) ?_⟩
       rw[Cz,b7 ex]
       rfl
     .intro D2 bs H5 kE lr s5 ph
      have e2:=oZ ph
      rw[aw,o9 (λx=>V.bl (decide (x∈ks)))] at e2
      have e3:bs=((cR l wd).map λx=>decide (x∈ks)).map V.bl:=by rw[e2,kO];rfl
      rw[e3] at lr
      refine⟨D2,_,rfl,aj.of lr,?_⟩
      have ea:(((cR l wd).map λx=>decide (x∈ks)).all id)=cB (ks) l wd:=by
       unfold cB
       rw[gr,aJ b6,uK]
       rfl
      rw[ea]
      exact q H5 (cW.trans s5)
    .rw[aI λz=>b6 (hc.mp z)]
     have e:cB (ks) l wd=false:=fK.mpr λe=>b6 (qS e).2.1
     rw[e] at q
     exact bp (q _ cW)
def Ki(K:Frag):Sp:=λvs H Q _=>∃(b a:Addr) (s l:List Str) (w:Nat),vs=[.ref b,.ref a]/\H b=some (.tup (s.map V.str))/\H a=some (.tup (l.map V.str))/\aZ l w/\bP s l w/\∀H',af H H'->Q (.bl true) H'
theorem Kj:bh ["_law_sheet","_law_given","_law_line","_law_other"] ["_law_sheet","_law_given"] (aN (top 80)):={}
theorem af2(B:Bl mg)(F:aW K "_law_agreeing" "_law_agreeing" (top 80) f fd):aK P w K mg base aP 1 f fd ["_law_sheet","_law_given"] (Ki K):=by
 refine F.bE Kj λaE A outer s H vs Q E hr h=>?_
 refine hide λG_ aD=>?_
 obtain⟨b,a,t,l,wd,rfl,hb,ha,S,AG,q⟩:=h
 refine aD.k ?_
 have hu:=hr.units
 refine⟨_,(aq (bH (PW.pt (gH (gi (eX (bg sQ (by rfl) B.fS fQ (ae (pv 0) (ae (qm (v := .ty "tuple") (by rfl) B.oU ow rfl) ag))))) (jk (bO jm (bg dX (by rfl) B.cj b9 (ae (pv 0) ag)) (bg dX (by rfl) B.cj b9 (ae (pv 1) ag))))))
  (au (aS fh))
  bN)
  (aq (cD (vC .T .T (by rfl) B.vS (ae (pv 0) (ae (pv 1) ag))) (kT rfl (eC (bI 2 Kj.nd) (eC (bI 3 Kj.nd) kR)))
  (aq (bH (PW.pt (gH (gi (eX (bg sQ (by rfl) B.fS fQ (ae (pv 2) (ae (qm (v := .ty "str") (by rfl) B.Pe NC rfl) ag))))) (jk (bO jm (bg gy (by rfl) B.cj b9 (ae (pv 2) ag)) (bg gy (by rfl) B.cj b9 (ae (pv 3) ag))))))
   (au (aS fh))
   bN)
   (au (bH (bO (Bx hu) (iS (js:=[3,2]) (ns:=["_law_other","_law_line"]) (ik (by rfl) B.iB (ae (bg gy (by rfl) B.cj b9 (ae (pv 2) ag)) ag)) rfl rfl rfl rfl (λ_ _ _ _=>(lZ (PW.pt (xV (bO jm (aV iq (pv 1) (pv 0)) (aV iq (pv 2) (pv 0))) (xU (PW.pt (gH (bO jm (aV iq (pv 1) (pv 0)) eB) (jk (bO mY (aV iq (pv 2) (pv 0)) eB))))))))) (λ_ _ _ _=>(pv 0))) (du ag))
   (au (aS fh))
   bN))))
  (au (aS fh)))),?_⟩
 try dsimp only[bt]
 have hln:=AG.ln
 have k1:kitOne K (.type "tuple") (.type "tuple")=some true:=by kernel_rfl
 have k2:kitOne K (.type "str") (.type "str")=some true:=by kernel_rfl
 refine⟨_,rfl,_,_,_,true,⟨rfl,.tup hb,k1⟩,_,rfl,aQ ⟨_,rfl,b,_,rfl,.inr (ak.of hb),_,rfl,a,_,rfl,.inr (ak.of ha),rfl,_,rfl,?_⟩⟩
 rw[aw,aw,DQ,aJ hln]
 refine aQ ⟨_,rfl,_,rfl,_,_,rfl,⟨_,b,rfl,ak.of hb⟩,⟨_,a,rfl,ak.of ha⟩,?_⟩
 refine vD (K:=K) (k1 := .T) (k2 := .T) (xs:=t.map V.str) (ys:=l.map V.str) (λi O H2=>∃(v2 v3:Option V),O=[some (.ref b),some (.ref a),v2,v3]/\af H H2) ⟨none,none,rfl,af.cx _⟩ ?_ ?_ ?_
 .rintro i O H2 _ ⟨v2,v3,rfl,s2⟩
  exact⟨⟨_,rfl,ak.of (s2 _ _ hb)⟩,_,rfl,ak.of (s2 _ _ ha)⟩
 .intro i x y pt O H2 hx hy af3 hpt
  refine hide λG_ aX=>?_
  obtain⟨v2,v3,rfl,s2⟩:=af3
  rw[bw] at hx hy
  obtain⟨sx,hsx,rfl⟩:=iO.mp hx
  obtain⟨lx,hlx,rfl⟩:=iO.mp hy
  refine aX.k ?_
  have HV:i<l.length:=(bY.mp hlx).1
  have w9:=S.w9
  have lsx:=AG.sh.len sx (bj hsx)
  have llx:=S.len lx (bj hlx)
  refine⟨pt,_,rfl,ak.of ao,rfl,_,_,rfl,_,_,rfl,rfl,?_⟩
  have s3:af H (upd H2 pt (.tup [.str sx,.str lx])):=s2.trans (af.upd hpt)
  generalize upd H2 pt (.tup [.str sx,.str lx])=H3 at s3
  refine⟨_,rfl,_,_,_,true,⟨rfl,.str sx,k2⟩,_,rfl,aQ ⟨_,rfl,sx,rfl,d8 (by lia),_,rfl,lx,rfl,d8 (by lia),rfl,_,rfl,?_⟩⟩
  rw[DQ,aJ (by lia)]
  refine aQ ⟨_,rfl,sx,rfl,d8 (by lia),_,rfl,by lia,by lia,?_⟩
  rw[eI]
  refine lh FT (by rw[aw,mS];lia) (λ_=>false) (λ_ i y _=>y = .int (0+(i:Int))) (λ_ _=>trivial) (λ_ _ _ _ _ _ _ _ h=>h) ?_ ?_
  .intro D2 j v H6 Z0 Z kE hv s6 _ k0 k1
   obtain⟨hj,rfl⟩:=HY hv
   have hgs:sx.cps.toList[j]? = some (sx.cps.toList.getD j 0):=by
    rw[bQ,bf (by rw[cu];lia)]
    rfl
   have Rb:lx.cps.toList[j]? = some (lx.cps.toList.getD j 0):=by
    rw[bQ,bf (by rw[cu];lia)]
    rfl
   have e1:sg t (i,j)=sx.cps.toList.getD j 0:=by unfold sg;rw[b7 hsx]
   have e2:sg l (i,j)=lx.cps.toList.getD j 0:=by unfold sg;rw[b7 hlx]
   have cl:=AG.cl (i,j) HV (by show j<wd;lia)
   rw[e1,e2] at cl
   have a1:gO sx.cps.toList (0+(j:Int))=some (sx.cps.toList.getD j 0):=by rw[uL];exact dz hgs
   have a2:gO lx.cps.toList (0+(j:Int))=some (lx.cps.toList.getD j 0):=by rw[uL];exact dz Rb
   generalize sx.cps.toList.getD j 0=gs at a1 cl
   generalize lx.cps.toList.getD j 0=gl at a2 cl
   refine⟨_,rfl,_,rfl,lx,_,gl,rfl,rfl,d8 (by lia),a2,_,rfl,_,rfl,sx,_,gs,rfl,rfl,d8 (by lia),a1,rfl,_,rfl,?_⟩
   rw[tS]
   by_cases e:gl=gs
   .rw[aJ e]
    exact aQ (aQ (k0 _ (af.cx _) rfl))
   .rw[aI e]
    have cQ:gl=46:=UM λz=>e (cl.1 z).symm
    have we:¬gs=35:=cl.2 cQ
    refine bp ⟨_,rfl,_,rfl,lx,_,gl,rfl,rfl,d8 (by lia),a2,rfl,_,rfl,?_⟩
    rw[tL,tS,aJ cQ]
    refine aQ ⟨_,rfl,_,rfl,sx,_,gs,rfl,rfl,d8 (by lia),a1,rfl,_,rfl,?_⟩
    rw[qL,tS,aI we]
    exact aQ (k0 _ (af.cx _) rfl)
  .intro D2 ys H6 kE lr s6 ph
   have e2:=oZ ph
   rw[UL.mpr (λ_ _=>b8)] at e2
   rw[e2] at lr
   refine⟨bG _,λen ud=>?_⟩
   have sE:=s6.trans (af.upd (o:=HO.lst []) ud)
   refine⟨.lst (([]:List Nat).map λ(i:Nat)=>D.int (0+(i:Int))),.lst [],⟨D2,_,rfl,aj.of ((af.upd ud) _ _ lr),HX _ _ _⟩,⟨en,_,rfl,aj.of ao,rfl⟩,.inr ⟨_,_,rfl,rfl⟩,Qv _,_,rfl,?_⟩
   rw[Qw,aJ rfl]
   exact aQ ⟨_,_,rfl,s3.trans sE⟩
 .rintro O H2 ⟨v2,v3,rfl,s2⟩
  exact q H2 s2
def Td(K:Frag)(CB C:Addr):Sp:=λvs H Q E=>∃(p d a:Addr) (kvs:List (Key×V)) (l:List Str) (w:Nat),vs=[.ref p,.ref a]/\fW CB H p d kvs/\ak K H a (l.map V.str)/\aZ l w/\(cB (aM kvs) l w=false->xl C E H)/\(cB (aM kvs) l w=true->∀H',af H H'->Q .aB H')
theorem af4:bh ["book","sheet"] ["book","sheet"] (aN (top 36)):={}
theorem af5{CE:Addr}(F:aW K "need_filling" "need_filling" (top 36) f fd)(af6:Fn P w K mg base "is_filling" 6 (S4 K CB))(Kk:GO K mg "NotFilled" C CE):aK P w K mg base (iw P w) 7 f fd ["book","sheet"] (Td K CB C):=by
 refine F.OT af4 (λvs H Q E h=>?_) (λaE A outer s H vs Q E hr h=>?_)
 .refine hide λG_ aD=>?_
  obtain⟨p,d,a,kvs,l,w,rfl,_⟩:=h
  refine aD.k ?_
  rfl
 .refine hide λG_ aX=>?_
  obtain⟨p,d,a,kvs,l,wd,rfl,hB,hT,S,hz,q⟩:=h
  refine aX.k ?_
  refine⟨_,(au (bH (gi (eX (aR af6 hr (ae (pv 0) (ae (pv 1) ag)))))
   (au (aay Kk rfl (by rfl) (ae eB ag)))
   bN)),?_⟩
  try dsimp only[bt]
  refine⟨_,rfl,_,rfl,p,d,a,kvs,l,wd,rfl,hB,hT,S,λH1 s1=>⟨_,rfl,?_⟩⟩
  cases e:cB (aM kvs) l wd with
  |true=>exact aQ (q e H1 s1)
  |false=>exact bp (afT s1 (hz e))
end
theorem Kl:∀s m:List Str,gU (s.map D.str) (m.map D.str)=decide (s=m)
 |[],[]=>by rw[aJ rfl];rfl
 |[],_::_=>by rw[aI (by intro z;cases z)];rfl
 |_::_,[]=>by rw[aI (by intro z;cases z)];rfl
 |x::r,y::t=>by
  rw[bS,bS,gU,Kl r t]
  by_cases h:x=y
  .subst h
   rw[sN,xF]
   by_cases h2:r=t
   .rw[aJ h2,aJ (by rw[h2])]
   .rw[aI h2,aI λz=>h2 (AE z).2]
  .have e:fP (.str x) (.str y)=false:=by rw[fP];simpa using h
   rw[e,ib,aI λz=>h (AE z).1]
structure uw(CB:Addr)(H:Hp)(a bk d:Addr)(l:List Str)(w:Nat)(kvs:List (Key×V)):Prop where
 hT:H a=some (.tup (l.map V.str))
 sh:aZ l w
 two:gZ l w
 sy:kF l w
 h4:l.length<=4
 w4:w<=4
 bk:fW CB H bk d kvs
 eM:kvs.length<64
 wd:∀x∈aM kvs,cP x=true
 iv:ua kvs
section
variable{w:World}
def Te(K:Frag)(CB CW CC:Addr):Sp:=λvs H Q _=>∃(a b bk d:Addr) (l m:List Str) (w:Nat) (kvs:List (Key×V)),vs=[.ref bk,.ref a,.ref b]/\uw CB H a bk d l w kvs/\H b=some (.tup (m.map V.str))/\
 (∀H',af H H'->(∀s,bP s l w->cB (aM kvs) s w=true->s=m)->Q .aB H')/\(∀t s H',af H H'->H' t=some (.tup (s.map V.str))->bP s l w->cB (aM kvs) s w=true->s≠m->Q (.ref t) H')
theorem Tf:bh ["book","sheet","filling","told"] ["book","sheet","filling"] (aN (top 54)):={}
theorem af7(F:aW K "other_filling" "other_filling" (top 54) f fd)(af8:Fn P w K mg base "fillings" 22 (JW K CB CW CC)):aK P w K mg base aP 23 f fd ["book","sheet","filling"] (Te K CB CW CC):=by
 refine F.bE Tf λaE A outer s H vs Q E hr h=>?_
 refine hide λG_ aD=>?_
 obtain⟨a,b,bk,d,l,m,wd,kvs,rfl,PF,hb,q1,q2⟩:=h
 refine aD.k ?_
 have hu:=hr.units
 refine⟨_,(aq (cD (dJ (aV bV (aR af8 hr (ae (pv 0) (ae (pv 1) (ae aF ag)))) aF)) (bI 3 Tf.nd)
  (au (bH (bO (Bx hu) (pv 3) (pv 2))
   (au (aS (pv 3)))
   bN)))
  (au (aS jU))),?_⟩
 try dsimp only[bt]
 refine⟨_,rfl,_,rfl,a,bk,d,l,wd,2,kvs,rfl,PF.hT,PF.sh,PF.two,PF.sy,PF.h4,PF.w4,PF.bk,PF.eM,PF.wd,PF.iv,by decide,by decide,λt fo v ts new H1 s1 ht dZ hF b6 Ad ur=>?_⟩
 refine⟨t,_,0,.ref fo,rfl,rfl,ak.of ht,rfl,fo,rfl,⟨_,aj.of dZ⟩,?_⟩
 have Ac:=gE hF
 refine jl (K:=K) (xs:=ts.map V.ref) (λi O H2=>∃v3:Option V,O=[some (.ref bk),some (.ref a),some (.ref b),v3]/\af H1 H2/\∀s∈new.take i,s=m)
  ⟨none,rfl,af.cx _,(λ_ ms=>nomatch ms)⟩ (λi O H2 _ ⟨_,_,s2,_⟩=>aj.of (s2 _ _ dZ)) ?_ ?_
 .intro i y O H2 hy af9
  refine hide λG_ aX=>?_
  obtain⟨v3,rfl,s2,rp⟩:=af9
  rw[bw] at hy
  obtain⟨ti,hti,rfl⟩:=iO.mp hy
  obtain⟨sn,hsn,cL⟩:=Paired.getL hF hti
  refine aX.k ?_
  have jJ:=s1.trans s2
  have BK:=bj hsn
  refine⟨_,rfl,_,rfl,.tup (sn.map D.str),.tup (m.map D.str),⟨ti,_,rfl,ak.of (s2 _ _ cL),uu K _ _⟩,⟨b,_,rfl,ak.of (jJ _ _ hb),uu K _ _⟩,.inl ⟨_,_,rfl,rfl⟩,by rw[dep,Aj];decide,?_⟩
  refine⟨!decide (sn=m),by rw[az rfl,fP,Kl],?_⟩
  by_cases h:sn=m
  .rw[aJ h]
   refine aQ ⟨_,rfl,s2,λs ms=>?_⟩
   rw[eJ,hsn] at ms
   rcases cS.mp ms with z | z
   .exact rp s z
   .rw[cn.mp z];exact h
  .rw[aI h]
   exact bp ⟨_,rfl,q2 ti sn H2 jJ (s2 _ _ cL) (Ad sn BK).1 (Ad sn BK).2 h⟩
 .rintro O H2 ⟨v3,rfl,s2,rp⟩
  rw[aw,Ac,fg (aO _)] at rp
  refine q1 H2 (s1.trans s2) λs A hf=>?_
  rcases ur with ⟨_,hl⟩ | ⟨_,_,hc⟩
  .match new,b6,rp,hl with
   |[x,y],b6,rp,_=>
    have e1:=rp x bz
    have e2:=rp y (bX _ bz)
    exact absurd (e1.trans e2.symm) (by simpa using b6)
  .exact rp s (hc s A hf)
end
theorem Tg{α β:Type}{F G:α->β->Prop}:∀{l:List α}{m:List β},Paired F l m->(∀a b,a∈l->F a b->G a b)->Paired G l m
 |_,_,.nil,_=>.nil
 |_,_,.cons h t,k=>.cons (k _ _ bz h) (Tg t λa b ma=>k a b (bX _ ma))
theorem gY.Th(G:gY m g w)(Sm:aZ m w):bP m g w:=⟨Sm,G.ln.symm,λc h1 h2=>by
 rcases G.cl c (by rw[<-G.ln];exact h1) h2 with z | ⟨z1,z2⟩
 .exact⟨λ_=>z.symm,λh=>by rw[<-z,h];decide⟩
 .exact⟨λh=>absurd z2 h,λ_=>z1⟩⟩
theorem bP.giv(A:bP s l w)(G:gY l g w):bP s g w:=⟨A.sh,by rw[A.ln,G.ln],λc h1 h2=>by
 rw[G.ln] at h1
 have a:=A.cl c h1 h2
 rcases G.cl c h1 h2 with z | ⟨z1,z2⟩
 .rw[z];exact a
 .refine⟨λh=>absurd z2 h,λ_ z=>?_⟩
  by_cases h:sg l c=46
  .exact a.2 h z
  .exact z1 ((a.1 h).symm.trans z)⟩
theorem gY.refl(S:aZ m w):gY m m w:=⟨S,rfl,λ_ _ _=>.inl rfl⟩
theorem DR(G:gY m g w):ja m g w:=by
 refine⟨G.ln,λc h1 h2=>?_⟩
 unfold bL
 rcases G.cl c h1 h2 with z | ⟨z1,z2⟩
 .rw[z]
 .rw[z2,aI z1]
  rfl
theorem aga(S:aZ m w)(h:dU m=false)(h1:c.1<m.length)(h2:c.2<w):sg m c≠46:=λz=>by
 obtain⟨x,hx,mx,_,hl,hj⟩:=S.row h1
 have:dU m=true:=by
  unfold dU
  refine uG.mpr ⟨x,mx,aJ ?_⟩
  rw[<-z]
  exact bj (hj _ h2)
 rw[h] at this
 cases this
theorem agb(S:aZ g w)(c1:c.1<g.length)(c2:c.2<w)(e1:e.1<g.length)(e2:e.2<w)(ho:sg g e≠35):gY (setC g c 46) (setC (setC g e 46) c 46) w:=by
 have Se:=tI S e1 e2 (ch:=46) (.inr (.inl rfl))
 have el:(setC g e 46).length=g.length:=dg _ _ _
 refine⟨tI Se (by rw[el];exact c1) c2 (.inr (.inl rfl)),by rw[dg,dg,dg],λd d1 d2=>?_⟩
 rw[dg] at d1
 rw[Se.dn.gX (by rw[el];exact c1) c2 (by rw[el];exact d1) d2,S.dn.gX e1 e2 d1 d2,S.dn.gX c1 c2 d1 d2]
 by_cases hc:d=c
 .rw[az hc,az hc];exact .inl rfl
 .rw[av hc,av hc]
  by_cases he:d=e
  .rw[az he,he];exact .inr ⟨ho,rfl⟩
  .rw[av he];exact .inl rfl
noncomputable def lG(g:List Str)(cs:List C2):List C2:=cs.filter λc=>!decide (sg g c=46)
def pQ(H:Hp)(ks m g:List Str)(w:Nat)(c:C2)(v:V):Prop := ∃(t ct ot:Addr) (s:List Str),v=V.ref t/\H t=some (.tup [.ref ct,.ref ot])/\H ct=some (.tup [.int c.1,.int c.2])/\H ot=some (.tup (s.map V.str))/\bP s (setC g c 46) w/\cB ks s w=true/\s≠m
theorem pQ.off(k:∀b o,H b=some (.tup o)->H' b=some (.tup o))(h:pQ H ks m g w c v):pQ H' ks m g w c v:=
 let ⟨t,ct,ot,s,e,a,b,d,r⟩:=h;⟨t,ct,ot,s,e,k _ _ a,k _ _ b,k _ _ d,r⟩
theorem pQ.less(S:aZ g w)(c1:c.1<g.length)(c2:c.2<w)(e1:e.1<g.length)(e2:e.2<w)(ho:sg g e≠35)(h:pQ H ks m g w c v):pQ H ks m (setC g e 46) w c v:=
 let ⟨t,ct,ot,s,e,a,b,d,A,r⟩:=h;⟨t,ct,ot,s,e,a,b,d,A.giv (agb S c1 c2 e1 e2 ho),r⟩
structure nR(H:Hp)(ks m g:List Str)(w:Nat)(cs:List C2)(i:Nat)(us:List V):Prop where
 gp:gY m g w
 rest:∀(k:Nat) (c:C2),cs[k]? = some c->i<=k->sg g c=sg m c
 uq:∀s,bP s g w->cB ks s w=true->s=m
 pr:Paired (pQ H ks m g w) (lG g (cs.take i)) us
theorem nR.off{H H':Hp}{ks m g:List Str}{w i:Nat}{cs:List C2}{us:List V}(L:nR H ks m g w cs i us)(k:∀b o,H b=some (.tup o)->H' b=some (.tup o)):nR H' ks m g w cs i us:=⟨L.gp,L.rest,L.uq,Paired.bU L.pr λ_ _ h=>h.off k⟩
theorem xm(h:c∈ba m w):c.1<m.length/\c.2<w/\sg m c≠35:=by
 unfold ba at h
 obtain⟨h1,h2⟩:=cq.mp h
 have h3:=nC h1
 unfold bL at h2
 exact⟨h3.1,h3.2,λz=>by rw[z] at h2;cases h2⟩
theorem nR.free(L:nR H ks m g w (ba m w) i us)(hc:(ba m w)[i]? = some c)(uq:∀s,bP s (setC g c 46) w->cB ks s w=true->s=m):nR H ks m (setC g c 46) w (ba m w) (i+1) us:=by
 have hi:=xm (bj hc)
 have S:=L.gp.sh
 have jt:c.1<g.length:=by rw[L.gp.ln];exact hi.1
 have nd:=yU m w
 have HV:=(bY.mp hc).1
 have ne:∀k d,(ba m w)[k]? = some d->k≠i->d≠c:=λk d hd hk z=>hk ((List.getElem?_inj (bY.mp hd).1 nd).mp (by rw[hd,hc,z]))
 have jL:sg g c=sg m c:=L.rest i c hc (aO _)
 have aY:∀d∈(ba m w).take i,d≠c/\d.1<g.length/\d.2<w:=λd md=>by
  obtain⟨k,hk⟩:=fJ md
  have aT:k<i:=by
   have:=(bY.mp hk).1
   rw[jN] at this
   lia
  rw[AA aT] at hk
  have:=xm (bj hk)
  exact⟨ne k d hk (by lia),by rw[L.gp.ln];exact this.1,this.2.1⟩
 have ek:lG (setC g c 46) ((ba m w).take (i+1))=lG g ((ba m w).take i):=by
  unfold lG
  rw[eJ,hc,Option.toList_some,ie,dj,kN,S.dn.gX jt hi.2.1 jt hi.2.1,az rfl,aJ rfl]
  rw[show(if (!true)=true then [c] else [])=([]:List C2) from rfl,eV]
  refine EC λd md=>?_
  have h:=aY d md
  rw[S.dn.gX jt hi.2.1 h.2.1 h.2.2,av h.1]
 refine⟨L.gp.put hi.1 hi.2.1 hi.2.2,λk d hd hk=>?_,uq,?_⟩
 .have h:=xm (bj hd)
  rw[S.dn.gX jt hi.2.1 (by rw[L.gp.ln];exact h.1) h.2.1,av (ne k d hd (by lia))]
  exact L.rest k d hd (by lia)
 .rw[ek]
  refine Tg L.pr λd v md h=>?_
  have hd:=aY d (cq.mp md).1
  exact h.less S hd.2.1 hd.2.2 jt hi.2.1 (by rw[jL];exact hi.2.2)
theorem nR.keep(L:nR H ks m g w (ba m w) i us)(hm:dU m=false)(Sm:aZ m w)(hc:(ba m w)[i]? = some c)(h:pQ H ks m g w c v):nR H ks m g w (ba m w) (i+1) (us++[v]):=by
 have hi:=xm (bj hc)
 have jL:sg g c=sg m c:=L.rest i c hc (aO _)
 refine⟨L.gp,λk d hd hk=>L.rest k d hd (by lia),L.uq,?_⟩
 have ek:lG g ((ba m w).take (i+1))=lG g ((ba m w).take i)++[c]:=by
  unfold lG
  rw[eJ,hc,Option.toList_some,ie,dj,kN,jL,aI (aga Sm hm hi.1 hi.2.1)]
  rfl
 rw[ek]
 exact lJ L.pr h
structure Ti(H:Hp)(ks m g:List Str)(w:Nat)(us:List V):Prop where
 gp:gY m g w
 uq:∀s,bP s g w->cB ks s w=true->s=m
 pr:Paired (pQ H ks m g w) (lG g (ba m w)) us
section
variable{w:World}
def Km(K:Frag)(CB C:Addr):Sp:=λvs H Q E=>∃(b bk d:Addr) (m:List Str) (w:Nat) (kvs:List (Key×V)),vs=[.ref bk,.ref b]/\uw CB H b bk d m w kvs/\(cB (aM kvs) m w=false->xl C E H)/\
 (cB (aM kvs) m w=true->∀(t gv sc:Addr) (g:List Str) (us:List V) (H':Hp),af H H'->H' t=some (.tup [.ref gv,.ref sc])->H' gv=some (.tup (g.map V.str))->H' sc=some (.lst us)->Ti H' (aM kvs) m g w us->Q (.ref t) H')
theorem ux:bh ["book","filling","givens","seconds","cell","fewer","other"] ["book","filling"] (aN (top 53)):={}
theorem agc(B:Bl mg)(F:aW K "least" "least" (top 53) f fd)(iZ:Cn mg "FREE" (.str "."))(JY:Fn P w K mg base "need_floor" 7 (JT K))(agd:tw P w K mg base "need_filling" 7 (Td K CB C))(y0:Fn P w K mg base "open_cells" 3 (B7 K))(HI:Fn P w K mg base "with_sign" 1 (pe K))(age:Fn P w K mg base "other_filling" 23 (Te K CB CW CC)):aK P w K mg base (iw P w) 24 f fd ["book","filling"] (Km K CB C):=by
 refine F.OT ux (λvs H Q E h=>?_) (λaE A outer s H vs Q E hr h=>?_)
 .refine hide λG_ aD=>?_
  obtain⟨b,bk,d,m,w,kvs,rfl,_⟩:=h
  refine aD.k ?_
  rfl
 .refine hide λG_ aX=>?_
  obtain⟨b,bk,d,m,wd,kvs,rfl,PF,hz,q⟩:=h
  refine aX.k ?_
  refine⟨_,(aq (d6 (aR JY hr (ae (pv 1) ag)))
   (aq (d6 (aai agd (λ_ _ _ z=>z) (hr.mono (by decide)) (by rfl) (ae (pv 0) (ae (pv 1) ag))))
   (aq (aH 2 ux.nd (pv 1))
   (aq (aH 3 ux.nd (du ag))
   (aq (cD (dJ (aR y0 hr (ae (pv 1) ag))) (bI 4 ux.nd)
   (aq (aH 5 ux.nd (aR HI hr (ae (pv 2) (ae (pv 4) (ae (eP iZ (by rfl)) ag)))))
    (aq (aH 6 ux.nd (aR age hr (ae (pv 0) (ae (pv 5) (ae (pv 1) ag)))))
    (au (bH (bO x4 (pv 6) jU)
    (au (aH 2 ux.nd (pv 5)))
    (au (d6 (fq iQ jf jg gS (pv 3) (ae (fm (ae (pv 4) (ae (pv 6) ag))) ag (hs:=dN rfl))))))))) (aag rfl rfl))
   (au (aS (fm (ae (pv 2) (ae (pv 3) ag)))))))))),?_⟩
  try dsimp only[bt]
  have S:=PF.sh
  have Tj:=Sz S PF.two PF.sy
  refine⟨_,rfl,b,m,wd,rfl,ak.of PF.hT,S,Tj,λH1 s1=>?_⟩
  refine⟨_,rfl,_,rfl,bk,d,b,kvs,m,wd,rfl,PF.bk.mono s1,ak.of (s1 _ _ PF.hT),S,λhf=>(hz hf).mono s1,λhf H2 s2=>?_⟩
  have jJ:=s1.trans s2
  refine⟨_,rfl,bG _,λsc jL=>?_⟩
  have s3:af H (upd H2 sc (.lst [])):=jJ.trans (af.upd jL)
  have scH:H sc=none:=jJ.free jL
  have Kn:upd H2 sc (.lst []) sc=some (.lst []):=ao
  generalize upd H2 sc (.lst [])=H3 at s3 Kn
  clear s1 s2 jJ jL Tj
  have gr:=(qS hf).1
  refine⟨_,rfl,b,m,wd,rfl,ak.of (s3 _ _ PF.hT),S,λp xs H4 hp s4 ug hC=>⟨p,rfl,⟨_,aj.of ug⟩,?_⟩⟩
  have agf:p≠sc:=λz=>by rw[z,Kn] at hp;cases hp
  have fD:=hC.length
  have BC:(ba m wd).length<=16:=by
   have h1:=PF.h4
   have h2:=PF.w4
   have:m.length*wd<=4*4:=uP h1 h2
   refine bF ?_ this
   unfold ba
   exact bF (fY _ _) (by rw[jv];exact aO _)
  have jK:=s3.trans s4
  have Ao:=s4 _ _ Kn
  refine jl (K:=K) (xs:=xs) (λi O Hi=>∃(gv:Addr) (v4 v5 v6:Option V) (g:List Str) (us:List V),O=[some (.ref bk),some (.ref b),some (.ref gv),some (.ref sc),v4,v5,v6]/\(∀b o,b≠sc->H4 b=some o->Hi b=some o)/\Hi gv=some (.tup (g.map V.str))/\Hi sc=some (.lst us)/\nR Hi (aM kvs) m g wd (ba m wd) i us)
   ⟨b,none,none,none,m,[],rfl,λ_ _ _ e=>e,jK _ _ PF.hT,Ao,⟨gY.refl S,λ_ _ _ _=>rfl,λs A _=>A.same S gr,.nil⟩⟩ (λi O Hi _ ⟨_,_,_,_,_,_,_,off,_⟩=>aj.of (off _ _ agf ug)) ?_ ?_
  .intro i y O Hi hy agg
   refine hide λG_ bK=>?_
   obtain⟨gv,v4,v5,v6,g,us,rfl,off,lH,Ap,LI⟩:=agg
   obtain⟨c,hc,cb,rfl,cM⟩:=Paired.get hC hy
   refine bK.k ?_
   have aY:=xm (bj hc)
   have cM:=off _ _ (bT cM Ao (by intro z;cases z)) cM
   have jt:c.1<g.length:=by rw[LI.gp.ln];exact aY.1
   refine⟨_,rfl,_,rfl,gv,cb,g,wd,c,46,rfl,ak.of lH,LI.gp.sh.dn,ak.of cM,jt,aY.2.1,λfw H5 _ s5 DS=>?_⟩
   have Ko:=LI.gp.put aY.1 aY.2.1 aY.2.2
   have σ:=DR Ko
   have kD:∀b o,b≠sc->H4 b=some o->H5 b=some o:=λb o n e=>s5 _ _ (off b o n e)
   have IF:H5 b=some (.tup (m.map V.str)):=kD _ _ (bT (jK _ _ PF.hT) Ao (by intro z;cases z)) (jK _ _ PF.hT)
   obtain⟨⟨z9,ki⟩,Kd,Aa,rj⟩:=PF.bk.mono jK
   have hB5:fW CB H5 bk d kvs:=⟨⟨z9,kD _ _ (bT ki Ao (by intro z;cases z)) ki⟩,kD _ _ (bT Kd Ao (by intro z;cases z)) Kd,Aa,rj⟩
   refine⟨_,rfl,_,rfl,_,rfl,fw,b,bk,d,setC g c 46,m,wd,kvs,rfl,⟨DS,Ko.sh,σ.two PF.two,σ.sym PF.sy,by rw[Ko.ln];exact PF.h4,PF.w4,hB5,PF.eM,PF.wd,PF.iv⟩,IF,λH6 s6 uq=>?_,λot so H6 s6 ue A6 Kq cE=>?_⟩
   .have xn:=s5.trans s6
    refine⟨_,rfl,rfl,_,rfl,bp ⟨_,rfl,fw,_,_,_,_,us,rfl,λb o n e=>xn _ _ (off b o n e),s6 _ _ DS,xn _ _ Ap,?_⟩⟩
    exact(LI.free hc uq).off λb o e=>xn _ _ e
   .have xn:=s5.trans s6
    refine⟨_,rfl,rfl,_,rfl,aQ ⟨_,rfl,.inl ⟨rfl,_,aj.of (xn _ _ Ap)⟩,_,rfl,_,rfl,(by show 2<=sizeLine;decide),λtt IV=>?_⟩⟩
    have s7:=af.upd (o:=HO.tup [V.ref cb,V.ref ot]) IV
    have Tn:upd H6 tt (.tup [.ref cb,.ref ot]) tt=some (.tup [.ref cb,.ref ot]):=ao
    generalize upd H6 tt (.tup [.ref cb,.ref ot])=H7 at s7 Tn
    have Aq:=xn.trans s7
    have To:=Aq _ _ Ap
    have hlen:us.length<=16:=by
     have h1:=gE LI.pr
     have h2:(lG g ((ba m wd).take i)).length<=((ba m wd).take i).length:=fY _ _
     rw[jN] at h2
     lia
    refine⟨sc,us,.ref tt,rfl,rfl,To,lj (by lia),?_⟩
    have o8:∀b o,b≠sc->H7 b=some o->upd H7 sc (.lst (us++[.ref tt])) b=some o:=λb o n e=>by rw[ar n];exact e
    have t8:∀b o,H7 b=some (.tup o)->upd H7 sc (.lst (us++[.ref tt])) b=some (.tup o):=λb o e=>o8 b _ (bT e To (by intro z;cases z)) e
    refine⟨gv,_,_,_,g,us++[.ref tt],rfl,λb o n e=>o8 b o n (Aq _ _ (off b o n e)),t8 _ _ (Aq _ _ lH),ao,?_⟩
    exact((LI.off λb o e=>Aq _ _ e).keep gr S hc ⟨tt,cb,ot,so,rfl,Tn,Aq _ _ cM,s7 _ _ ue,A6,Kq,cE⟩).off t8
  .intro O Hi agh
   refine hide λG_ cJ=>?_
   obtain⟨gv,v4,v5,v6,g,us,rfl,off,lH,Ap,LI⟩:=agh
   refine cJ.k ?_
   have Ag:=LI.pr
   rw[<-fD,fg (aO _)] at Ag
   refine⟨_,rfl,_,rfl,(by show 2<=sizeLine;decide),λt ht=>?_⟩
   have s9:=af.upd (o:=HO.tup [V.ref gv,V.ref sc]) ht
   refine q hf t gv sc g us _ (λb o e=>s9 _ _ (off b o (bC e scH) (jK b o e))) ao (s9 _ _ lH) (s9 _ _ Ap) ⟨LI.gp,LI.uq,Paired.bU Ag λ_ _ h=>h.off λb o e=>s9 _ _ e⟩
end
noncomputable def mO:List Bool:=[false,false,false,false,false,false,true,false,false,false,false,false]
section
variable{w:World}
def Tp(K:Frag)(Cs:List Addr):Sp:=λvs H Q _=>∃(e C:Addr),vs=[.ref e]/\H e=some (kq C none e)/\XI K C/\Cs.map (λc=>kitOne K (.ref C) (.ref c))=mO.map some/\∀l H',af H H'->H' l=some (.lst [.int 6])->Q (.ref l) H'
theorem DT:bh ["_law_e","_law_some"] ["_law_e"] (aN (top 83)):={}
theorem agi{c0 c1 c2 c3 c4 c5 c6 c7 c8 c9 ca cb:Addr}(B:Bl mg)(F:aW K "_law_kinds" "_law_kinds" (top 83) f fd)(Kr:Cn mg "NoSheet" (.ref c0))(Ks:Cn mg "NoFloor" (.ref c1))(Kt:Cn mg "NoWord" (.ref c2))(Ku:Cn mg "Twice" (.ref c3))(Kv:Cn mg "NotThere" (.ref c4))(Kw:Cn mg "NoLine" (.ref c5))(Kx:Cn mg "NotFilled" (.ref c6))(Ky:Cn mg "NoMatch" (.ref c7))(Kz:Cn mg "NoWorking" (.ref c8))(KA:Cn mg "NoStep" (.ref c9))(KC:Cn mg "NoName" (.ref ca))(KD:Cn mg "NoDeed" (.ref cb)):aK P w K mg base aP 1 f fd ["_law_e"] (Tp K [c0,c1,c2,c3,c4,c5,c6,c7,c8,c9,ca,cb]):=by
 refine F.bE DT λaE A outer s H vs Q E hr h=>?_
 refine hide λG_ aD=>?_
 obtain⟨e,C,rfl,he,hI,hk,q⟩:=h
 refine aD.k ?_
 refine⟨_,(aq (aH 1 DT.nd (du (ae (bg (kr (K:=K) rfl) (by rfl) B.fS fQ (ae (pv 0) (ae (eP Kr (by rfl)) ag))) (ae (bg (kr (K:=K) rfl) (by rfl) B.fS fQ (ae (pv 0) (ae (eP Ks (by rfl)) ag))) (ae (bg (kr (K:=K) rfl) (by rfl) B.fS fQ (ae (pv 0) (ae (eP Kt (by rfl)) ag))) (ae (bg (kr (K:=K) rfl) (by rfl) B.fS fQ (ae (pv 0) (ae (eP Ku (by rfl)) ag))) ag))))))
  (aq (aH 1 DT.nd (bb yg (pv 1) (du (ae (bg (kr (K:=K) rfl) (by rfl) B.fS fQ (ae (pv 0) (ae (eP Kv (by rfl)) ag))) (ae (bg (kr (K:=K) rfl) (by rfl) B.fS fQ (ae (pv 0) (ae (eP Kw (by rfl)) ag))) (ae (bg (kr (K:=K) rfl) (by rfl) B.fS fQ (ae (pv 0) (ae (eP Kx (by rfl)) ag))) (ae (bg (kr (K:=K) rfl) (by rfl) B.fS fQ (ae (pv 0) (ae (eP Ky (by rfl)) ag))) ag)))))))
  (aq (aH 1 DT.nd (bb yg (pv 1) (du (ae (bg (kr (K:=K) rfl) (by rfl) B.fS fQ (ae (pv 0) (ae (eP Kz (by rfl)) ag))) (ae (bg (kr (K:=K) rfl) (by rfl) B.fS fQ (ae (pv 0) (ae (eP KA (by rfl)) ag))) (ae (bg (kr (K:=K) rfl) (by rfl) B.fS fQ (ae (pv 0) (ae (eP KC (by rfl)) ag))) (ae (bg (kr (K:=K) rfl) (by rfl) B.fS fQ (ae (pv 0) (ae (eP KD (by rfl)) ag))) ag)))))))
  (au (aS (iS (js:=[1]) (ns:=["_law_some"]) (ik (by rfl) B.iB (ae aF ag)) rfl rfl rfl rfl (λ_ _ _ _=>(lZ (eX (Bz (K:=K) (rr:=MQ) rfl gj (pv 1) (pv 0))))) (λ_ _ _ _=>(pv 0)))))))),?_⟩
 try dsimp only[bt]
 unfold mO at hk
 simp only[bS,uF,List.cons.injEq,and_true] at hk
 refine hide λG_ aX=>?_
 obtain⟨k0,k1,k2,k3,k4,k5,k6,k7,k8,k9,ka,kb⟩:=hk
 refine aX.k ?_
 refine⟨_,rfl,e,C,_,.ref c0,_,rfl,he,hI,λu r=>r,k0,_,rfl,e,C,_,.ref c1,_,rfl,he,hI,λu r=>r,k1,_,rfl,e,C,_,.ref c2,_,rfl,he,hI,λu r=>r,k2,_,rfl,e,C,_,.ref c3,_,rfl,he,hI,λu r=>r,k3,by show 4<=sizeLine;decide,λl1 h1=>⟨_,rfl,?_⟩⟩
 have s1:=af.upd (o:=HO.lst [V.bl false,V.bl false,V.bl false,V.bl false]) h1
 have e1:=s1 _ _ he
 refine⟨_,rfl,e,C,_,.ref c4,_,rfl,e1,hI,λu r=>r,k4,_,rfl,e,C,_,.ref c5,_,rfl,e1,hI,λu r=>r,k5,_,rfl,e,C,_,.ref c6,_,rfl,e1,hI,λu r=>r,k6,_,rfl,e,C,_,.ref c7,_,rfl,e1,hI,λu r=>r,k7,by show 4<=sizeLine;decide,λl2 h2=>?_⟩
 have t2:=af.upd (o:=HO.lst [V.bl false,V.bl false,V.bl true,V.bl false]) h2
 refine⟨l1,l2,_,_,rfl,rfl,t2 _ _ ao,ao,by show 8<=sizeLine;decide,λl3 h3=>⟨_,rfl,?_⟩⟩
 have s3:=(s1.trans t2).trans (af.upd (o:=HO.lst [V.bl false,V.bl false,V.bl false,V.bl false,V.bl false,V.bl false,V.bl true,V.bl false]) h3)
 have e3:=s3 _ _ he
 refine⟨_,rfl,e,C,_,.ref c8,_,rfl,e3,hI,λu r=>r,k8,_,rfl,e,C,_,.ref c9,_,rfl,e3,hI,λu r=>r,k9,_,rfl,e,C,_,.ref ca,_,rfl,e3,hI,λu r=>r,ka,_,rfl,e,C,_,.ref cb,_,rfl,e3,hI,λu r=>r,kb,by show 4<=sizeLine;decide,λl4 h4=>?_⟩
 have t4:=af.upd (o:=HO.lst [V.bl false,V.bl false,V.bl false,V.bl false]) h4
 refine⟨l3,l4,_,_,rfl,rfl,t4 _ _ ao,ao,by show 12<=sizeLine;decide,λl5 h5=>⟨_,rfl,?_⟩⟩
 have s5:=(s3.trans t4).trans (af.upd (o:=HO.lst (mO.map V.bl)) h5)
 refine⟨by decide,by decide,lh (FT (lo:=0) (n:=12)) (by simp) (λi=>mO.getD i false) (λ_ i y _=>y = .int i) (λ_ _=>trivial) (λ_ _ _ _ _ _ _ _ h=>h) ?_ ?_⟩
 .intro D i x H6 Z0 Z hD hx s6 _ z0 z1
  obtain⟨hi,rfl⟩:=HY hx
  have ea:gO (mO.map V.bl) ((i:Nat):Int)=some (.bl (mO.getD i false)):=dz (by
   rw[bw,bQ,bf (show i<mO.length from hi)]
   rfl)
  refine⟨_,rfl,_,rfl,l5,mO.map V.bl,_,.bl (mO.getD i false),rfl,rfl,aj.of (s6 _ _ ao),(by rw[uL];exact ea),_,rfl,?_⟩
  revert z0 z1
  generalize mO.getD i false=b
  intro z0 z1
  cases b
  .exact aQ (z0 _ (af.cx _) rfl)
  .exact bp ⟨_,rfl,z1 _ _ (af.cx _) rfl (fc V.int (uL _))⟩
 .intro D ys H6 hD bD s6 pr
  refine q D H6 (s5.trans s6) ?_
  rw[bD,ze pr,aw,mS]
  rfl
end
theorem agj:bootBuiltins "ValueError"=some (.type "ValueError"):=by decide +kernel
section
variable{w:World}
def Tq(K:Frag)(CB:Addr):Sp:=λvs H Q _=>∃(b bk d:Addr) (m:List Str) (w:Nat) (kvs:List (Key×V)),vs=[.ref bk,.ref b]/\uw CB H b bk d m w kvs/\cB (aM kvs) m w=false/\∀H',af H H'->Q (.bl true) H'
theorem DU:bh ["_law_book","_law_sheet","_law_kept","_law_e"] ["_law_book","_law_sheet"] (aN (top 84)):={}
theorem agk{CE:Addr}(B:Bl mg)(F:aW K "_law_refused" "_law_refused" (top 84) f fd)(Ar:Ec K mg "CrossError" CE fB)(en:mn K eU (.ref CE::fB)=true)(hI:XI K eU)(kV:kitOne K (.ref eU) (.type "ValueError")=some true)
  (kL:Cs.map (λc=>kitOne K (.ref eU) (.ref c))=mO.map some)
  (KG:tw P w K mg base "least" 24 (Km K CB eU)) (agl:Fn P w K mg base "_law_kinds" 1 (Tp K Cs)):aK P w K mg base aP 25 f fd ["_law_book","_law_sheet"] (Tq K CB):=by
 refine F.bE DU λaE A outer s H vs Q E hr h=>?_
 refine hide λG_ aD=>?_
 obtain⟨b,bk,d,m,wd,kvs,rfl,PF,hf,q⟩:=h
 refine aD.k ?_
 have hu:=hr.units
 have agm:(Value.ref eU :: .ref CE::fB).contains (.ref CE)=true:=by simp
 refine⟨_,(aq (aH 2 DU.nd jU)
  (aq (aan (i:=3) rfl rfl DU.nd rfl rfl Ar.ec Ar.hb (by rfl) Ar.mg
  (λ_ _=>(au (d6 (aaq KG (hr.mono (by decide)) (by rfl) (ae (pv 0) (ae (pv 1) ag))))))
  (λ_=>(au (aH 2 DU.nd (pv 3)))))
  (au (aS (EK (r6 VI (pv 2) jU) (EK (bg (kr (K:=K) rfl) (by rfl) B.fS fQ (ae (pv 2) (ae (qm (v := .ty "ValueError") (by rfl) B.aaU agj rfl) ag))) (Mg (r6 (Bw hu) (aR agl hr (ae (pv 2) ag)) (du (ae aF ag)))))))))),?_⟩
 try dsimp only[bt]
 refine⟨_,rfl,_,rfl,b,bk,d,m,wd,kvs,rfl,PF,λ_ e H1 s1 he=>?_,λz=>by rw[hf] at z;cases z⟩
 refine⟨eU,e,_,rfl,rfl,en,agm,_,rfl,?_⟩
 refine⟨_,rfl,rfl,_,rfl,bp ?_⟩
 refine⟨_,rfl,e,eU,_,.type "ValueError",true,rfl,he,hI,λu r=>r,kV,_,rfl,bp ?_⟩
 refine⟨_,rfl,e,eU,rfl,he,hI,kL,λl H2 s2 hl=>?_⟩
 refine⟨(by show 1<=sizeLine;decide),λr hr=>?_⟩
 have s3:=af.upd (o:=HO.lst [V.int 6]) hr
 refine⟨.lst [.int 6],.lst [.int 6],⟨l,_,rfl,aj.of (s3 _ _ hl),_,_,rfl,rfl,rfl⟩,⟨r,_,rfl,aj.of ao,_,_,rfl,rfl,rfl⟩,.inr ⟨_,_,rfl,rfl⟩,by decide,?_⟩
 rw[av b8,sN]
 exact q _ (s1.trans (s2.trans s3))
end
noncomputable def KH(g:List Str)(w:Nat):List C2:=(cells g.length w).filter λc=>!(decide (sg g c=35)||decide (sg g c=46))
theorem agn(a:Nat):gR (.str ⟨#[a]⟩) [.str "#",.str "."]=(decide (a=35)||decide (a=46)):=by
 have e:=Cz ⟨#[a]⟩ [("#":Str),"."]
 rw[show gR (.str ⟨#[a]⟩) [.str "#",.str "."]=gR (.str ⟨#[a]⟩) (([("#":Str),"."]:List Str).map V.str) from rfl,e]
 rw[Ay,xD,uI,xD,xD,cw,cw,qL,tL]
 have h:∀x:Nat,((⟨#[a]⟩:Str)=⟨#[x]⟩)↔a=x:=λx=>⟨λz=>by injection z with z;simpa using z,λz=>by rw[z]⟩
 rw[h,h]
 simp
theorem ago(G:gY m g w):KH g w=lG g (ba m w):=by
 unfold KH lG ba
 rw[List.filter_filter,G.ln]
 refine EC λc mc=>?_
 obtain⟨h1,h2⟩:=nC mc
 rw[<-(DR G).op c h1 h2]
 unfold bL
 cases decide (sg g c=35) <;> cases decide (sg g c=46) <;> rfl
section
variable{w:World}
def Tr(K:Frag):Sp:=λvs H Q _=>∃(a:Addr) (l:List Str) (w:Nat),vs=[.ref a]/\H a=some (.tup (l.map V.str))/\aZ l w/\∀p xs H',H p=none->af H H'->H' p=some (.lst xs)->bq H' (KH l w) xs->Q (.ref p) H'
theorem DV:bh ["_law_sheet","_law_cells","_law_line","_law_column"] ["_law_sheet"] (aN (top 85)):={}
theorem agp(B:Bl mg)(F:aW K "_law_letters" "_law_letters" (top 85) f fd):aK P w K mg base aP 1 f fd ["_law_sheet"] (Tr K):=by
 refine F.bE DV λaE A outer s H vs Q E hr h=>?_
 refine hide λG_ aD=>?_
 obtain⟨a,l,wd,rfl,hT,S,q⟩:=h
 have h9:=S.nine
 have hw:=S.w9
 obtain⟨x0,oV,B9,oY,_⟩:=S.row (i:=0) S.one
 refine aD.k ?_
 refine⟨_,(aq (aH 1 DV.nd (du ag))
  (aq (cD (ik (by rfl) B.iB (ae (bg dX (by rfl) B.cj b9 (ae (pv 0) ag)) ag)) (bI 2 DV.nd)
  (au (cD (ik (by rfl) B.iB (ae (bg gy (by rfl) B.cj b9 (ae (aV bV (pv 0) aF) ag)) ag)) (bI 3 DV.nd)
   (au (bH (bO vj (aV iq (aV bV (pv 0) (pv 2)) (pv 3)) (du (ae eB (ae eB ag))))
    (au (d6 (fq iQ jf jg gS (pv 1) (ae (fm (ae (pv 2) (ae (pv 3) ag))) ag (hs:=dN rfl)))))
    bN)))))
  (au (aS (pv 1))))),?_⟩
 try dsimp only[bt]
 refine⟨bG _,λp hp=>?_⟩
 have s1:=af.upd (o:=HO.lst []) hp
 have wM:upd H p (.lst []) p=some (.lst []):=ao
 have oG:=s1 _ _ hT
 generalize upd H p (.lst [])=H1 at s1 wM oG
 have Ts:a≠p:=bT oG wM (by intro z;cases z)
 refine⟨_,rfl,a,_,rfl,.inr (ak.of oG),_,rfl,by rw[aw];lia,by rw[aw];lia,?_⟩
 rw[eI,aw]
 refine kh (λi O H2=>∃(v2 v3:Option V) (xs:List V),O=[some (.ref a),some (.ref p),v2,v3]/\(∀b o,b≠p->H1 b=some o->H2 b=some o)/\H2 p=some (.lst xs)/\bq H2 (((cells l.length wd).take (i*wd)).filter λc=>!(decide (sg l c=35)||decide (sg l c=46))) xs)
  ⟨none,none,[],rfl,λ_ _ _ e=>e,wM,by rw[Nat.zero_mul,nX];exact .nil⟩ ?_ ?_
 .intro i O H2 hi agq
  refine hide λG_ aX=>?_
  obtain⟨v2,v3,xs,rfl,off,hx,hC⟩:=agq
  refine aX.k ?_
  refine⟨_,rfl,a,_,0,.str x0,rfl,rfl,ak.of (off _ _ Ts oG),jz oV,x0,rfl,eS (by lia),_,rfl,by lia,by lia,?_⟩
  rw[eI,oY]
  refine kh (λj O H2=>∃(v3:Option V) (xs:List V),O=[some (.ref a),some (.ref p),some (.int i),v3]/\(∀b o,b≠p->H1 b=some o->H2 b=some o)/\H2 p=some (.lst xs)/\bq H2 (((cells l.length wd).take (i*wd+j)).filter λc=>!(decide (sg l c=35)||decide (sg l c=46))) xs)
   ⟨v3,xs,rfl,off,hx,hC⟩ ?_ ?_
  .intro j O H3 hj ags
   refine hide λG_ bK=>?_
   obtain⟨v3,xs,rfl,off,hx,hC⟩:=ags
   obtain⟨x,hxr,mx,lx,_,zw⟩:=S.row hi
   refine bK.k ?_
   refine⟨_,rfl,_,rfl,a,_,_,.str x,rfl,rfl,ak.of (off _ _ Ts oG),jz hxr,_,rfl,x,_,_,rfl,rfl,eS (by lia),dz (zw j hj),?_⟩
   refine⟨(by show 2<=sizeLine;decide),λr hr=>⟨r,_,rfl,.inl (aj.of ao),rfl,rfl,?_⟩⟩
   have s4:=af.upd (o:=HO.lst [V.str "#",V.str "."]) hr
   have pM:=s4 _ _ hx
   have nP:∀b o,b≠p->H1 b=some o->upd H3 r (HO.lst [V.str "#",V.str "."]) b=some o:=λb o n e=>s4 _ _ (off b o n e)
   have nI:=hC.mono s4
   generalize upd H3 r (HO.lst [V.str "#",V.str "."])=H4 at s4 pM nP nI
   have jB:(cells l.length wd).take (i*wd+(j+1))=(cells l.length wd).take (i*wd+j)++[(i,j)]:=by rw[<-Nat.add_assoc,eJ,vN hi hj];rfl
   refine⟨_,rfl,?_⟩
   rw[az rfl,agn]
   have hlen:xs.length<=81:=by
    have h1:=nI.length
    have h2:((((cells l.length wd).take (i*wd+j)).filter λc=>!(decide (sg l c=35)||decide (sg l c=46)))).length<=((cells l.length wd).take (i*wd+j)).length:=fY _ _
    rw[jN,jv] at h2
    have:l.length*wd<=9*9:=uP h9 hw
    lia
   cases hb:(decide (sg l (i,j)=35)||decide (sg l (i,j)=46)) with
   |true=>
    refine aQ ⟨_,xs,rfl,nP,pM,?_⟩
    rw[jB,ie,dj,hb,kN]
    rw[show(if (!true)=true then [(i,j)] else [])=([]:List C2) from rfl,eV]
    exact nI
   |false=>
    refine bp ⟨_,rfl,.inl ⟨rfl,_,aj.of pM⟩,_,rfl,_,rfl,(by show 2<=sizeLine;decide),λt ht=>?_⟩
    have s5:=af.upd (o:=HO.tup [V.int (i:Int),V.int (j:Int)]) ht
    have pN:upd H4 t (HO.tup [V.int (i:Int),V.int (j:Int)]) t=some (.tup [V.int (i:Int),V.int (j:Int)]):=ao
    have DW:=s5 _ _ pM
    have Tt:=nI.mono s5
    generalize upd H4 t (HO.tup [V.int (i:Int),V.int (j:Int)])=H5 at s5 pN DW Tt
    refine⟨p,xs,.ref t,rfl,rfl,DW,lj (by lia),?_⟩
    have o6:∀b o,b≠p->H5 b=some o->upd H5 p (.lst (xs++[.ref t])) b=some o:=λb o n e=>by rw[ar n];exact e
    refine⟨_,xs++[.ref t],rfl,λb o n e=>o6 b o n (s5 _ _ (nP b o n e)),ao,?_⟩
    rw[jB,ie,dj,hb,kN]
    exact lJ (bq.off ⟨xs,DW⟩ o6 Tt) ⟨t,rfl,o6 _ _ (bT pN DW (by intro z;cases z)) pN⟩
  .intro O H3 agt
   refine hide λG_ cJ=>?_
   obtain⟨v3,xs,rfl,off,hx,hC⟩:=agt
   refine cJ.k ?_
   exact⟨_,_,xs,rfl,off,hx,by rw[iN];exact hC⟩
 .intro O H2 agu
  refine hide λG_ eT=>?_
  obtain⟨v2,v3,xs,rfl,off,hx,hC⟩:=agu
  refine eT.k ?_
  rw[fg (by rw[jv];exact aO _)] at hC
  exact⟨_,rfl,q p xs H2 hp (λb o e=>off b o (bC e hp) (s1 _ _ e)) hx hC⟩
def Tu(K:Frag):Sp:=λvs H Q _=>∃(wl b gv sc:Addr) (ks m g:List Str) (w:Nat) (us:List V),vs=[.ref wl,.ref b,.ref gv,.ref sc]/\H wl=some (.lst (ks.map V.str))/\H b=some (.tup (m.map V.str))/\aZ m w/\dU m=false/\H gv=some (.tup (g.map V.str))/\H sc=some (.lst us)/\us.length<=100/\Ti H ks m g w us/\∀H',af H H'->Q (.bl true) H'
theorem DX:bh ["_law_words_here","_law_filled_here","_law_givens","_law_seconds_here","_law_cells","_law_cell","_law_pair"] ["_law_words_here","_law_filled_here","_law_givens","_law_seconds_here"] (aN (top 86)):={}
theorem agv(B:Bl mg)(F:aW K "_law_seconds" "_law_seconds" (top 86) f fd)(agw:Fn P w K mg base "_law_letters" 1 (Tr K))(KI:Fn P w K mg base "_law_agreeing" 1 (Ki K))(nJ:Fn P w K mg base "_law_with" 1 (pe K))(KJ:Fn P w K mg base "_law_is_filling" 4 (Kh K)):aK P w K mg base aP 5 f fd ["_law_words_here","_law_filled_here","_law_givens","_law_seconds_here"] (Tu K):=by
 refine F.bE DX λaE A outer s H vs Q E hr h=>?_
 refine hide λG_ aD=>?_
 obtain⟨wl,b,gv,sc,ks,m,g,wd,us,rfl,hW,hb,S,gr,lH,jL,aiN,LP,q⟩:=h
 refine aD.k ?_
 have hu:=hr.units
 refine⟨_,(aq (aH 4 DX.nd (aR agw hr (ae (pv 2) ag)))
  (aq (bH (PW.pt (gH (gi (eX (bg sQ (by rfl) B.fS fQ (ae (pv 3) (ae (qm (v := .ty "list") (by rfl) B.tK sP rfl) ag))))) (jk (bO jm (bg dX (by rfl) B.cj b9 (ae (pv 3) ag)) (bg dX (by rfl) B.cj b9 (ae (pv 4) ag))))))
  (au (aS fh))
  bN)
  (aq (cD (vC .L .L (by rfl) B.vS (ae (pv 4) (ae (pv 3) ag))) (kT rfl (eC (bI 5 DX.nd) (eC (bI 6 DX.nd) kR)))
  (aq (bH (PW.pt (gH (gi (eX (bg sQ (by rfl) B.fS fQ (ae (pv 6) (ae (qm (v := .ty "tuple") (by rfl) B.oU ow rfl) ag))))) (gH (bO jm (bg dX (by rfl) B.cj b9 (ae (pv 6) ag)) aF) (gH (bO (Bx hu) (aV bV (pv 6) aF) (pv 5)) (jk (bO (Bw hu) (aV bV (pv 6) aF) (pv 1)))))))
   (au (aS fh))
   bN)
   (au (bH (PW.pt (gH (gi (eX (aR KI hr (ae (aV bV (pv 6) aF) (ae (aR nJ hr (ae (pv 2) (ae (pv 5) (ae eB ag)))) ag))))) (jk (gi (eX (aR KJ hr (ae (pv 0) (ae (aV bV (pv 6) aF) ag))))))))
   (au (aS fh))
   bN))))
  (au (aS fh))))),?_⟩
 try dsimp only[bt]
 have k1:kitOne K (.type "tuple") (.type "tuple")=some true:=by kernel_rfl
 have k5:kitOne K (.type "list") (.type "list")=some true:=by kernel_rfl
 refine⟨_,rfl,gv,g,wd,rfl,lH,LP.gp.sh,λcl xs H1 eN s1 KL hC=>?_⟩
 rw[ago LP.gp] at hC
 have mE:=hC.length
 have kZ:=gE LP.pr
 refine⟨_,rfl,_,_,_,true,⟨rfl,.lst (s1 _ _ jL),k5⟩,_,rfl,aQ ⟨_,rfl,sc,_,rfl,.inl (aj.of (s1 _ _ jL)),_,rfl,cl,_,rfl,.inl (aj.of KL),rfl,_,rfl,?_⟩⟩
 rw[DQ,aJ (by lia)]
 refine aQ ⟨_,rfl,_,rfl,_,_,rfl,⟨_,cl,rfl,aj.of KL⟩,⟨_,sc,rfl,aj.of (s1 _ _ jL)⟩,?_⟩
 refine vD (K:=K) (k1 := .L) (k2 := .L) (xs:=xs) (ys:=us) (λi O H2=>∃(v5 v6:Option V),O=[some (.ref wl),some (.ref b),some (.ref gv),some (.ref sc),some (.ref cl),v5,v6]/\af H1 H2) ⟨none,none,rfl,af.cx _⟩ ?_ ?_ ?_
 .rintro i O H2 _ ⟨v5,v6,rfl,s2⟩
  exact⟨⟨_,rfl,aj.of (s2 _ _ KL)⟩,_,rfl,aj.of (s2 _ _ (s1 _ _ jL))⟩
 .intro i x y pt O H2 hx hy agx hpt
  refine hide λG_ aX=>?_
  obtain⟨v5,v6,rfl,s2⟩:=agx
  obtain⟨c,hc,cb,rfl,cM⟩:=Paired.get hC hx
  obtain⟨c',jT,t,ct,ot,so,rfl,ht,tG,ue,A6,Kq,cE⟩:=Paired.get LP.pr hy
  obtain rfl:c=c':=by rw[hc] at jT;exact cY jT
  refine aX.k ?_
  have aY:=xm (cq.mp (bj hc)).1
  refine⟨pt,_,rfl,ak.of ao,rfl,_,_,rfl,_,_,rfl,rfl,?_⟩
  have s3:af H2 (upd H2 pt (.tup [.ref cb,.ref t])):=af.upd hpt
  generalize upd H2 pt (.tup [.ref cb,.ref t])=H3 at s3
  have iH:=s2.trans s3
  have dH:=s1.trans iH
  refine⟨_,rfl,_,_,_,true,⟨rfl,.tup (dH _ _ ht),k1⟩,_,rfl,aQ ⟨_,rfl,t,_,rfl,.inr (ak.of (dH _ _ ht)),rfl,_,rfl,?_⟩⟩
  rw[aJ (show V.int (([V.ref ct,V.ref ot]:List V).length:Int)=V.int 2 from rfl)]
  refine aQ ⟨_,rfl,t,_,0,.ref ct,rfl,rfl,ak.of (dH _ _ ht),rfl,_,rfl,.tup [.int c.1,.int c.2],.tup [.int c.1,.int c.2],⟨ct,_,rfl,ak.of (dH _ _ tG),_,_,rfl,rfl,_,_,rfl,rfl,rfl⟩,⟨cb,_,rfl,ak.of (iH _ _ cM),_,_,rfl,rfl,_,_,rfl,rfl,rfl⟩,.inl ⟨_,_,rfl,rfl⟩,(by show 1<=50;decide),false,by rw[az rfl,sN];rfl,aQ ?_⟩
  refine⟨_,rfl,t,_,1,.ref ot,rfl,rfl,ak.of (dH _ _ ht),rfl,_,rfl,.tup (so.map D.str),.tup (m.map D.str),⟨ot,_,rfl,ak.of (dH _ _ ue),uu K _ _⟩,⟨b,_,rfl,ak.of (dH _ _ hb),uu K _ _⟩,.inl ⟨_,_,rfl,rfl⟩,by rw[dep,Aj];decide,false,by rw[av b8,fP,Kl,aI cE],aQ ?_⟩
  have jt:c.1<g.length:=by rw[LP.gp.ln];exact aY.1
  refine⟨_,rfl,t,_,1,.ref ot,rfl,rfl,ak.of (dH _ _ ht),rfl,_,rfl,_,rfl,gv,cb,g,wd,c,46,rfl,ak.of (dH _ _ lH),LP.gp.sh.dn,ak.of (iH _ _ cM),jt,aY.2.1,λfw H4 _ s4 DS=>?_⟩
  have jK:=dH.trans s4
  refine⟨ot,fw,so,setC g c 46,wd,rfl,jK _ _ ue,DS,tI LP.gp.sh jt aY.2.1 (.inr (.inl rfl)),A6,λH5 s5=>⟨_,rfl,aQ ?_⟩⟩
  have KN:=jK.trans s5
  refine⟨_,rfl,_,rfl,t,_,1,.ref ot,rfl,rfl,ak.of (KN _ _ ht),rfl,wl,ot,ks,so,wd,rfl,KN _ _ hW,ak.of (KN _ _ ue),A6.sh,λH6 s6=>⟨_,rfl,?_⟩⟩
  rw[Kq]
  exact aQ ⟨_,_,rfl,iH.trans (s4.trans (s5.trans s6))⟩
 .rintro O H2 ⟨v5,v6,rfl,s2⟩
  exact q H2 (s1.trans s2)
end
theorem agy(F:iE l m w (l.length*w))(hw:0<w):ja l m w:=by
 refine⟨F.ln,λc h1 h2=>?_⟩
 have g:=F.cl c h1 h2
 unfold bL
 by_cases z:sg l c=35
 .rw[aJ z,aJ (g.1 z)]
 .have h:=g.2 z
  have aT:c.1*w+c.2<l.length*w:=by
   have:=Ez w (Nat.succ_le_of_lt h1)
   rw[iN] at this
   lia
  rw[az aT] at h
  rw[aI z,aI (by lia)]
theorem agz(h:ua kvs)(n:Int)(e:aU kvs (Sum.inr x:Key)=none):ua (putK kvs (Sum.inr x) (.int n)):=by
 rw[vn _ e]
 intro q mq
 rcases cS.mp mq with z | z
 .exact h q z
 .rw[cn.mp z]
  exact⟨n,rfl⟩
theorem uw.mono{CB:Addr}{H H':Hp}{a bk d:Addr}{l:List Str}{w:Nat}{kvs:List (Key×V)}(s:af H H')(h:uw CB H a bk d l w kvs):uw CB H' a bk d l w kvs:=
 ⟨s _ _ h.hT,h.sh,h.two,h.sy,h.h4,h.w4,h.bk.mono s,h.eM,h.wd,h.iv⟩
def DY(K:Frag):Sp:=λvs H Q _=>∃(a:Addr) (ns:List Int),vs=[.ref a]/\aj K H a (ns.map V.int)/\ns.length<=63/\∀H',Q (.bl true) H'
section
variable{w:World}
theorem pR:bh ["_law_script","_law_filled_here","_law_words_here","_law_book","_law_word","_law_rows_here","_law_sheet","_law_found"] ["_law_script"] (aN (top 87)):={}
theorem agA{CN:Addr}(B:Bl mg)(F:aW K "law" "law" (top 87) f fd)(tW:Fn P w K mg base "_law_cell_at" 1 (B1 K))(agB:Fn P w K mg base "_law_floor" 5 (QK K))(agC:Fn P w K mg base "_law_filled" 3 (Qk K))(agD:Fn P w K mg base "_law_words" 4 (Qs K))(KO:Nw P w K mg base "Book" C 1 (PN C))(KP:Mt P w K mg base C "put" 4 (Co C) [.int 0])
  (tZ:Fn P w K mg base "_law_rows" 3 (zh K)) (nJ:Fn P w K mg base "_law_with" 1 (pe K)) (KJ:Fn P w K mg base "_law_is_filling" 4 (Kh K)) (agE:Fn P w K mg base "_law_refused" 25 (Tq K C)) (KG:tw P w K mg base "least" 24 (Km K C CN)) (KI:Fn P w K mg base "_law_agreeing" 1 (Ki K)) (J1:Fn P w K mg base "_law_all" 13 (DI K 10)) (agF:Fn P w K mg base "_law_seconds" 5 (Tu K)):aK P w K mg base aP 26 f fd ["_law_script"] (DY K):=by
 refine F.bE pR λaE A outer s H vs Q E hr h=>?_
 refine hide λG_ aD=>?_
 obtain⟨a,ns,rfl,hS,hlen,q⟩:=h
 refine aD.k ?_
 have hu:=hr.units
 have dF:=ke hr
 refine⟨_,(aq (aH 1 pR.nd (aR agC hr (ae (pv 0) (ae (aR agB hr (ae (aR tW hr (ae (pv 0) (ae aF ag))) ag)) (ae (aR tW hr (ae (pv 0) (ae aF ag))) ag)))))
  (aq (aH 2 pR.nd (aR agD hr (ae (pv 0) (ae (pv 1) (ae aF ag)))))
  (aq (aH 3 pR.nd (Yi KO hr))
  (aq (cD (dJ (pv 2)) (bI 4 pR.nd)
  (au (d6 (qB KP hr (pv 3) (ae (pv 4) ag)))))
  (aq (aH 5 pR.nd (aR tZ hr (ae (pv 1) ag)))
  (aq (aH 6 pR.nd (pv 1))
  (aq (vy (bH (bO mY (bb gK (bb mX (aR tW hr (ae (pv 0) (ae aF ag))) aF) aF) aF)
  (au (aH 6 pR.nd (aR nJ hr (ae (pv 1) (ae (aV gj (aV gj (pv 5) aF) aF) (ae eB ag))))))
  bN))
  (aq (bH (gi (eX (aR KJ hr (ae (pv 2) (ae (pv 6) ag)))))
  (au (aS (aR agE hr (ae (pv 3) (ae (pv 6) ag)))))
  bN)
  (aq (aH 7 pR.nd (aaj KG (hr.mono (by decide)) (by rfl) (ae (pv 3) (ae (pv 6) ag))))
  (aq (bH (PW.pt (gH (gi (eX (bg sQ (by rfl) B.fS fQ (ae (pv 7) (ae (qm (v := .ty "tuple") (by rfl) B.oU ow rfl) ag))))) (gH (bO jm (bg dX (by rfl) B.cj b9 (ae (pv 7) ag)) aF) (jk (gi (eX (aR KI hr (ae (pv 6) (ae (aV bV (pv 7) aF) ag)))))))))
  (au (aS fh))
  bN)
  (aq (bH (PW.pt (gH (gi (eX (bg sQ (by rfl) B.fS fQ (ae (aV bV (pv 7) aF) (ae (qm (v := .ty "tuple") (by rfl) B.oU ow rfl) ag))))) (jk (bO (Bx hu) (aR J1 hr (ae (pv 2) (ae (pv 5) (ae (aV bV (pv 7) aF) ag)))) (du (ae (pv 6) ag))))))
  (au (aS fh))
  bN)
  (au (aS (aR agF hr (ae (pv 2) (ae (pv 6) (ae (aV bV (pv 7) aF) (ae (aV bV (pv 7) aF) ag)))))))))))))))))),?_⟩
 try dsimp only[bt]
 refine oN λN1 j1=>?_
 have k1:kitOne K (.type "tuple") (.type "tuple")=some true:=by kernel_rfl
 refine⟨_,rfl,_,rfl,a,ns,0,rfl,hS,_,rfl,λfl l wd H1 s1 Ac FP T2 Sy Nf N9=>?_⟩
 refine⟨_,rfl,a,ns,2,rfl,s1.seq hS,a,fl,ns,l,wd,_,rfl,s1.seq hS,Ac,FP,λfi m H2 s2 um FM=>?_⟩
 refine j1 _ _ (oN λN2 j2=>?_)
 have yM:=(s1.trans s2).seq hS
 have Om:=agy FM FP.sh.w1
 have Tv:=Om.two T2
 have Sym:=Om.sym Sy
 have agG:aG m wd≠[]:=λz=>by
  obtain⟨c,hc⟩:=Nf
  have aY:=oP hc
  obtain⟨i,k,hik⟩:=(JO FP.sh T2).all c aY.1 aY.2.1 aY.2.2
  have:=(mF hik).1
  rw[<-Om.aG,z] at this
  exact ic _ this
 refine⟨_,rfl,_,rfl,a,fi,ns,m,wd,5,rfl,yM,ak.of um,FM.sh,FM.lets,by rw[FM.ln];exact FP.h4,FP.w4,λwl rs es H5 sI s5 xo W=>?_⟩
 refine j2 _ _ (oN λN3 j3=>?_)
 have Tw:=s5.seq yM
 have Tx:=s5 _ _ um
 intro p zf KQ Tz TC
 refine⟨p,zf,rfl,ao,λd H6 TF B0 TH=>⟨rfl,?_⟩⟩
 refine j3 _ _ (oN λN4 j4=>?_)
 have t1:af H5 (upd (upd H5 zf (.own p)) p (.ins C zf [])):=(af.upd Tz).trans (af.upd (by rw[ar (bo TC)];exact KQ))
 have t6:af H5 H6:=λb o e=>TH b o (t1 b o e) (bC e KQ)
 have d5:H5 d=none:=t1.free TF
 have qZ:m.length<=4:=by rw[FM.ln];exact FP.h4
 have hm9:m.length*wd<=9:=by rw[FM.ln];exact N9
 have hw4:=FP.w4
 have Sm:=FM.sh
 have b6:=W.nd
 have hw:=W.wd
 have TJ:=W.eM
 clear t1 TH TF TC Tz KQ W hS yM um Ac s1 s2 s5 FP T2 Sy Nf N9 FM Om sI
 revert xo b6 hw TJ
 generalize rs++es=ws
 intro xo b6 hw TJ
 refine⟨_,rfl,wl,rfl,⟨_,aj.of (t6 _ _ xo)⟩,?_⟩
 refine jl (xs:=ws.map V.str) (λi O H7=>∃(v4:Option V) (kvs:List (Key×V)),O=[some (.ref a),some (.ref fi),some (.ref wl),some (.ref p),v4,none,none,none]/\fW C H7 p d kvs/\aM kvs=ws.take i/\ua kvs/\af H5 H7)
  ⟨none,[],rfl,B0,by rw[nX];rfl,(λ_ mq=>nomatch mq),t6⟩ (λi O H7 _ ⟨_,_,_,_,_,_,h4⟩=>aj.of (h4 _ _ xo)) ?_ ?_
 .intro i y O H7 hi agH
  refine hide λG_ aX=>?_
  obtain⟨v4,kvs,rfl,S7,nS,KR,s7⟩:=agH
  rw[bw] at hi
  obtain⟨x,hx,rfl⟩:=iO.mp hi
  have mx:x∈ws:=bj hx
  have OE:i<ws.length:=(bY.mp hx).1
  have jB:ws.take (i+1)=ws.take i++[x]:=by rw[eJ,hx];rfl
  have hn:x∉ws.take i:=by
   have h1:(ws.take (i+1)).Nodup:=b6.sublist (Ek _ _)
   rw[jB,qe] at h1
   exact λm=>h1.2.2 x m x (cn.mpr rfl) rfl
  have hv:=Qy (kvs:=kvs) (x:=x) (by rw[nS];exact hn)
  have mh:kvs.length<=60:=by rw[<-wm,nS,jN];lia
  obtain⟨⟨dx,h1⟩,ni,_⟩:=id S7
  refine aX.k ?_
  refine⟨_,rfl,p,dx,_,rfl,h1,tR _ (by decide +kernel),_,rfl,p,d,kvs,x,.int 0,rfl,S7,hw x mx,hv,by lia,λH8 S8 agI=>?_⟩
  refine⟨_,_,rfl,S8,?_,agz KR 0 hv,λb o e=>agI b o (bC e d5) (s7 b o e)⟩
  rw[CF _ hv,nS,jB]
 .intro O H7 agJ
  refine hide λG_ bK=>?_
  obtain⟨v4,kvs,rfl,S7,nS,KR,s7⟩:=agJ
  refine bK.k ?_
  refine j4 _ _ (oN λN5 j5=>?_)
  rw[aw,fg (aO _)] at nS
  have mh:kvs.length<64:=by rw[<-wm,nS];lia
  have IT:∀x∈aM kvs,cP x=true:=by rw[nS];exact hw
  have TK:=s7.seq Tw
  have DZ:=s7 _ _ Tx
  have TL:=s7 _ _ xo
  clear B0 t6 Tw Tx xo s7
  refine⟨_,rfl,fi,m,wd,rfl,ak.of DZ,Sm,λrg zs H8 hrg s8 KS hR=>?_⟩
  refine j5 _ _ (oN λN6 j6=>⟨_,rfl,j6 _ _ (oN λN7 j7=>⟨λO H9=>∃(sh:Addr) (g:List Str),O=[some (.ref a),some (.ref fi),some (.ref wl),some (.ref p),v4,some (.ref rg),some (.ref sh),none]/\af H8 H9/\H9 sh=some (.tup (g.map V.str))/\gY m g wd,?_,?_⟩)⟩)
  .intro O H9 agK
   refine hide λG_ cJ=>?_
   obtain⟨sh,g,rfl,s9,KU,GP⟩:=agK
   refine cJ.k ?_
   refine j7 _ _ (oN λN8 j8=>?_)
   have σ:=DR GP
   have D0:=s8.trans s9
   have TM:uw C H9 sh p d g wd kvs:=⟨KU,GP.sh,σ.two Tv,σ.sym Sym,by rw[GP.ln];exact qZ,hw4,S7.mono D0,mh,IT,KR⟩
   refine⟨_,rfl,_,rfl,wl,sh,ws,g,wd,rfl,D0 _ _ TL,ak.of KU,GP.sh,λFH vq=>⟨_,rfl,?_⟩⟩
   have D3:=TM.mono vq
   cases hf:cB ws g wd with
   |false=>exact bp ⟨_,rfl,_,rfl,sh,p,d,g,wd,kvs,rfl,D3,by rw[nS];exact hf,λH' _=>q H'⟩
   |true=>
    refine aQ (j8 _ _ (oN λN9 j9=>⟨_,rfl,_,rfl,sh,p,d,g,wd,kvs,rfl,D3,(λz=>by rw[nS,hf] at z;cases z),λ_ t gv sc g2 us XB yp ht lH jL LP=>?_⟩))
    refine j9 _ _ ?_
    rw[nS] at LP
    have KW:=yp _ _ D3.hT
    have TN:=(D0.trans (vq.trans yp)) _ _ TL
    have KY:=s9.trans (vq.trans yp)
    have agL:=KY _ _ KS
    have agM:=fX.mono KY hR
    clear TM D3 D0 s8 s9 vq yp KY KU S7 KS hR DZ TK
    refine⟨_,rfl,_,_,_,true,⟨rfl,.tup ht,k1⟩,_,rfl,aQ ⟨_,rfl,t,_,rfl,.inr (ak.of ht),rfl,_,rfl,?_⟩⟩
    rw[aJ (show V.int (([V.ref gv,V.ref sc]:List V).length:Int)=V.int 2 from rfl)]
    refine aQ ⟨_,rfl,_,rfl,t,_,0,.ref gv,rfl,rfl,ak.of ht,rfl,sh,gv,g,g2,wd,rfl,KW,lH,LP.gp.sh,LP.gp.Th GP.sh,λH12 iI=>⟨_,rfl,aQ ?_⟩⟩
    refine⟨_,rfl,t,_,0,.ref gv,rfl,rfl,ak.of (iI _ _ ht),rfl,_,_,_,true,⟨rfl,.tup (iI _ _ lH),k1⟩,_,rfl,aQ ?_⟩
    have σ2:=DR LP.gp
    have er:aG g2 wd=aG m wd:=by rw[σ2.aG,σ.aG]
    have TQ:=σ2.two (σ.two Tv)
    have TR:g2.length*wd<=9:=by rw[LP.gp.ln,GP.ln];exact hm9
    refine⟨_,rfl,_,rfl,_,rfl,t,_,0,.ref gv,rfl,rfl,ak.of (iI _ _ ht),rfl,wl,rg,gv,ws,g2,wd,aG g2 wd,zs,rfl,⟨iI _ _ TN,by lia,hw,b6,iI _ _ lH,JO LP.gp.sh TQ,TQ,TR,Nat.lt_succ_of_le (bF (SF g2 wd) TR),iI _ _ agL,by rw[er];exact fX.mono iI agM⟩,λr ts new TV _ iH agN hF AF=>?_⟩
    have agO:new=[g]:=by
     have hg:g∈new:=(AF.2 g).mpr ⟨LP.gp.Th GP.sh,hf⟩
     have gT:∀s∈new,s=g:=λs ms=>LP.uq s ((AF.2 s).mp ms).1 ((AF.2 s).mp ms).2
     have KZ:=AF.1
     match new,hg,gT,KZ with
     |[x],_,gT,_=>rw[gT x bz]
     |x::y::r,_,gT,KZ=>exact absurd ((gT x bz).trans (gT y (bX _ bz)).symm) λz=>(gG.mp KZ).1 (z ▸ bz)
    subst agO
    have agP:=iI.trans iH
    refine⟨_,rfl,(by show 1<=sizeLine;decide),λe he=>?_⟩
    have D4:=af.upd (o:=HO.lst [V.ref sh]) he
    have TX:upd TV e (.lst [.ref sh]) e=some (.lst [.ref sh]):=ao
    generalize upd TV e (.lst [.ref sh])=H14 at D4 TX
    have rq:=agP.trans D4
    refine⟨.lst (DM [g]),.lst (DM [g]),⟨r,_,rfl,aj.of (D4 _ _ agN),Kb K _ (hF.keep λb o _ _ e=>D4 _ _ e)⟩,⟨e,_,rfl,aj.of TX,Kb K _ (ts:=[sh]) (.cons (rq _ _ KW) .nil)⟩,.inr ⟨_,_,rfl,rfl⟩,?_,false,by rw[az rfl,sN];rfl,aQ ?_⟩
    .have h1:dep (D.tup (g.map D.str))=1:=by rw[dep,Aj]
     have h2:dep (.lst (DM [g]))=max (dep (D.tup (g.map D.str))) 0+1:=rfl
     rw[h2,h1]
     decide
    refine⟨_,rfl,_,rfl,_,rfl,t,_,0,.ref gv,rfl,rfl,ak.of (rq _ _ ht),rfl,_,rfl,t,_,1,.ref sc,rfl,rfl,ak.of (rq _ _ ht),rfl,wl,sh,gv,sc,ws,g,g2,wd,us,rfl,rq _ _ TN,rq _ _ KW,GP.sh,(qS hf).1,rq _ _ lH,rq _ _ jL,?_,⟨LP.gp,LP.uq,Paired.bU LP.pr λ_ _ h=>h.off λb o e=>rq _ _ e⟩,λH' _=>q H'⟩
    have h1:=gE LP.pr
    have h2:(lG g2 (ba g wd)).length<=(ba g wd).length:=fY _ _
    have h3:(ba g wd).length<=g.length*wd:=by
     unfold ba
     exact bF (fY _ _) (by rw[jv];exact aO _)
    rw[GP.ln] at h3
    lia
  .refine hide λG_ eT=>?_
   obtain⟨r0,hr0⟩:∃r0,(aG m wd)[0]? = some r0:=by
    cases e:aG m wd with
    |nil=>exact absurd e agG
    |cons r t=>exact⟨r,rfl⟩
   obtain⟨v0,CH,p0,wt,rfl,_,fV,jo⟩:=Paired.getL hR hr0
   have aY:=jE Sm (bj hr0)
   have sM:=jo.length
   obtain⟨y,hy⟩:∃y,wt[0]? = some y:=⟨_,bf (by lia)⟩
   obtain⟨c,hcc,u,rfl,GK⟩:=Paired.get jo hy
   refine eT.k ?_
   have cM:=aY.2.2 c (bj hcc)
   have agQ:sg m c≠35:=λz=>by
    have:=cM.2.2
    unfold bL at this
    rw[z] at this
    cases this
   refine⟨_,rfl,a,ns,3,rfl,s8.seq TK,_,_,rfl,rfl,⟨by decide,by decide⟩,_,_,rfl,rfl,(by show(0:Int)<8;decide),rfl,_,rfl,eY (λ_=>?_) (λ_=>⟨fi,m,rfl,af.cx _,s8 _ _ DZ,gY.refl Sm⟩)⟩
   refine⟨_,rfl,_,rfl,rg,_,0,.ref p0,rfl,rfl,aj.of KS,(show gO zs ((0:Nat):Int)=_ from dz CH),p0,_,0,.ref u,rfl,rfl,aj.of fV,(show gO wt ((0:Nat):Int)=_ from dz hy),fi,u,m,wd,c,46,rfl,ak.of (s8 _ _ DZ),Sm.dn,ak.of GK,cM.1,cM.2.1,λt H9 _ s9 ht=>?_⟩
   exact⟨t,setC m c 46,rfl,s9,ht,(gY.refl Sm).put cM.1 cM.2.1 agQ⟩
end
abbrev hN(K:Frag)(x:Str)(f:Addr):Prop:=nsIn K mainGlobals x=some (some (.ref f))
abbrev hZ(K:Frag)(x:Str):Prop:=nsIn K mainGlobals x=some none
abbrev hL(K:Frag)(f:Addr)(nm ql:Str)(st:Stmt)(df oc:Value)(od an:Option Addr)(kV dc pm cd ct:Value)(sl:Array (Option Value)):Prop:=K.lookup f=some ⟨oc,od,.func (fnOf nm ql (qx st) (kd st) (aN st) df kV dc pm an cd ct),sl⟩
def hD(K:Frag)(nm ql:Str)(st:Stmt)(df:Value)(f:Addr):Prop := ∃oc od an kV dc pm cd ct sl,hL K f nm ql st df oc od an kV dc pm cd ct sl/\codeIn K cd ql=true/\keepIn K (.ref f)=true
def hF(K:Frag)(nm:Str)(st:Stmt)(df:Value)(f:Addr):Prop:=hN K nm f/\hD K nm nm st df f
def hM(K:Frag)(C:Addr)(nm ql:Str)(st:Stmt)(df:Value)(f:Addr):Prop:=findIn K (.ref C) nm=some (some (.ref f))/\isFn K (.ref f)=true/\hD K nm ql st df f
def hT(K:Frag)(x:Str)(C:Addr):Prop:=hN K x C/\plainGet K C Str.empty=true/\hasDictIn K C=true/\plainOver K C=true/\findIn K (.ref C) "__setattr__"=some (some (.builtin "object.__setattr__"))/\makesIn K C=true/\keepIn K (.ref C)=true
def hV(K:Frag)(T:Addr)(n:Int):Prop := ∃od tk k sl,K.lookup T=some ⟨.type "tuple",od,.seq #[.int n tk] k,sl⟩
section
variable{K:Frag}{nm ql x:Str}{st:Stmt}{df:Value}{f C T:Addr}{n:Int}{oc:Value}{od an:Option Addr}{kV dc pm cd ct:Value}{sl:Array (Option Value)}{tk:Tok}{k:Nat}
theorem hF_mk(a:hN K nm f)(l:hL K f nm nm st df oc od an kV dc pm cd ct sl)(c:codeIn K cd nm=true)(q:keepIn K (.ref f)=true):hF K nm st df f:=⟨a,_,_,_,_,_,_,_,_,_,l,c,q⟩
theorem hM_mk(a:findIn K (.ref C) nm=some (some (.ref f)))(i:isFn K (.ref f)=true)(l:hL K f nm ql st df oc od an kV dc pm cd ct sl)(c:codeIn K cd ql=true)(q:keepIn K (.ref f)=true):hM K C nm ql st df f:=⟨a,i,_,_,_,_,_,_,_,_,_,l,c,q⟩
theorem hT_mk(a:hN K x C)(b:plainGet K C Str.empty=true)(c:hasDictIn K C=true)(d:plainOver K C=true)(e:findIn K (.ref C) "__setattr__"=some (some (.builtin "object.__setattr__")))(g:makesIn K C=true)(q:keepIn K (.ref C)=true):hT K x C:=⟨a,b,c,d,e,g,q⟩
theorem hV_mk(l:K.lookup T=some ⟨.type "tuple",od,.seq #[.int n tk] k,sl⟩):hV K T n:=⟨_,_,_,_,l⟩
theorem hT.cls(t:hT K x C):de K C:=⟨t.2.1,t.2.2.1,t.2.2.2.1,t.2.2.2.2.1⟩
end
section
variable{P:Program}{w:World}{K:Frag}{mg:Str->Option Value}{base h:Heap}
def As(K:Frag)(nm ql:Str)(st:Stmt)(f:Addr)(ps:List Str):Prop := ∀fd,aW K nm ql st f fd->Binds K fd ps []
theorem TY(X:K.In h)(G:h.Ns mainGlobals mg){nm:Str}{st:Stmt}{f:Addr}{ps:List Str}{k:Nat}{sp:Sp}(a:hF K nm st .none f)(ok:∀fd,aW K nm nm st f fd->mg nm=some (.ref f)->keepIn K (.ref f)=true->Binds K fd ps []->aK P w K mg base aP k f fd ps sp)
  (hb:As K nm nm st f ps:=by intro _ F;exact F.binds λ_ _ _ _ _ _=>by first | exact yw λ_=>rfl | exact sR λ_ _=>rfl | exact sS λ_ _ _=>rfl | exact yx λ_ _ _ _=>rfl | exact D5 λ_ _ _ _ _=>rfl):Fn P w K mg base nm k sp:=by
 obtain⟨a,_,_,_,_,_,_,_,_,_,l,c,q⟩:=a
 have F:=ym l c q
 have m:=dP X G a
 have b:=hb _ F
 exact⟨_,_,_,ok _ F m q b,m,q,b⟩
theorem ya(X:K.In h)(G:h.Ns mainGlobals mg){nm:Str}{st:Stmt}{f:Addr}{ps:List Str}{k:Nat}{sp:Sp}(a:hF K nm st .none f)(ok:∀fd,aW K nm nm st f fd->aK P w K mg base aP k f fd ps sp)
  (hb:As K nm nm st f ps:=by intro _ F;exact F.binds λ_ _ _ _ _ _=>by first | exact yw λ_=>rfl | exact sR λ_ _=>rfl | exact sS λ_ _ _=>rfl | exact yx λ_ _ _ _=>rfl | exact D5 λ_ _ _ _ _=>rfl):Fn P w K mg base nm k sp:=TY X G a (λfd F _ _ _=>ok fd F) hb
theorem agR{C:Addr}{nm ql:Str}{st:Stmt}{f:Addr}{ps:List Str}{k:Nat}{sp:Sp}(T:de K C)(a:hM K C nm ql st .none f)(ok:∀fd,aW K nm ql st f fd->aK P w K mg base aP k f fd ps sp)
  (hb:As K nm ql st f ps:=by intro _ F;exact F.binds λ_ _ _ _ _ _=>by first | exact yw λ_=>rfl | exact sR λ_ _=>rfl | exact sS λ_ _ _=>rfl | exact yx λ_ _ _ _=>rfl | exact D5 λ_ _ _ _ _=>rfl):Mt P w K mg base C nm k sp []:=by
 obtain⟨a,i,_,_,_,_,_,_,_,_,_,l,c,q⟩:=a
 have F:=ym l c q
 exact⟨T,_,_,_,_,⟨a,i,q⟩,ok _ F,hb _ F,.nil⟩
theorem agS(X:K.In h)(G:h.Ns mainGlobals mg){x:Str}{C:Addr}{ql:Str}{st:Stmt}{f:Addr}{ps:List Str}{k:Nat}{sp:Sp}(t:hT K x C)(a:hM K C "__init__" ql st .none f)(ok:∀fd,aW K "__init__" ql st f fd->aK P w K mg base aP k f fd ps sp)
  (hb:As K "__init__" ql st f ps:=by intro _ F;exact F.binds λ_ _ _ _ _ _=>by first | exact yw λ_=>rfl | exact sR λ_ _=>rfl | exact sS λ_ _ _=>rfl | exact yx λ_ _ _ _=>rfl | exact D5 λ_ _ _ _ _=>rfl):Nw P w K mg base x C k sp:=by
 obtain⟨a,i,_,_,_,_,_,_,_,_,_,l,c,q⟩:=a
 have F:=ym l c q
 exact⟨_,_,_,⟨t.2.2.2.2.2.1,a,i,t.2.2.2.2.2.2⟩,ok _ F,hb _ F,dP X G t.1⟩
end
theorem agT{P:Program}{w:World}{K:Frag}{mg:Str->Option Value}{base h:Heap}(X:K.In h)(G:h.Ns mainGlobals mg){nm:Str}{st:Stmt}{f:Addr}{ps:List Str}{k:Nat}{sp:Sp}(a:hF K nm st .none f)(ok:∀fd,aW K nm nm st f fd->aK P w K mg base (iw P w) k f fd ps sp)
  (hb:As K nm nm st f ps:=by intro _ F;exact F.binds λ_ _ _ _ _ _=>by first | exact yw λ_=>rfl | exact sR λ_ _=>rfl | exact sS λ_ _ _=>rfl | exact yx λ_ _ _ _=>rfl | exact D5 λ_ _ _ _ _=>rfl):tw P w K mg base nm k sp:=by
 obtain⟨a,_,_,_,_,_,_,_,_,_,l,c,q⟩:=a
 have F:=ym l c q
 exact⟨_,_,_,ok _ F,dP X G a,q,hb _ F⟩
theorem all_mk{l:OpenLaw}{w:World}{h:Heap}(X:K.In h)(G:h.Ns mainGlobals mg)(hfa:mg "law"=some (.ref fa))
  {f0 f1 f2 f3 f4 f5 f6 f7 f8 f9 f10 f11 f12 f13 f14 TZ f16 f17 D6 f19 f20 f21 f22 f23 f24 f25 f26 f27 f28 f29 f30 f31 f32 f33 f34 f35 f36 f37 f38 f39 f40 f41 f42 f43 f44 f45 f46 f47 f48 f49 T8 f51 f52 f53 f54 f55 f56 f57 f58 f59 f60 f61 f62 f63 T9 Ua:Addr}
  (Ub:hT K "Book" jb)
  (rC:bW K jb "worths")
  (Uc:hT K "Ground" rE)
  (Ud:bW K rE "sheet")
  (K0:bW K rE "cells")
  (Ue:bW K rE "crossings")
  (agU:bW K rE "worths")
  (Ug:bW K rE "known")
  (Uh:hT K "Standing" pS)
  (K3:bW K pS "ground")
  (Au:bW K pS "patterns")
  (D7:bW K pS "fits")
  (Ui:hT K "Cases" Av)
  (agV:bW K Av "place")
  (agW:bW K Av "parts")
  (agX:nsIn K mainGlobals "Whole"=some (some (.ref xp))) (agY:makesIn K xp=true) (agZ:findIn K (.ref xp) "__init__"=some (some (.builtin "object.__init__"))) (ag0:keepIn K (.ref xp)=true)
  (Uj:nsIn K mainGlobals "CrossError"=some (some (.ref mP)))
  (K4:nsIn K mainGlobals "NotFilled"=some (some (.ref eU)))
  (ag1:nsIn K mainGlobals "NoSheet"=some (some (.ref K5)))
  (ag2:nsIn K mainGlobals "NoFloor"=some (some (.ref K6)))
  (ag3:nsIn K mainGlobals "NoWord"=some (some (.ref K7)))
  (ag4:nsIn K mainGlobals "Twice"=some (some (.ref K8)))
  (ag5:nsIn K mainGlobals "NotThere"=some (some (.ref K9)))
  (ag6:nsIn K mainGlobals "NoLine"=some (some (.ref La)))
  (ag7:nsIn K mainGlobals "NoMatch"=some (some (.ref Lb)))
  (ag8:nsIn K mainGlobals "NoWorking"=some (some (.ref Lc)))
  (ag9:nsIn K mainGlobals "NoStep"=some (some (.ref Ld)))
  (aha:nsIn K mainGlobals "NoName"=some (some (.ref Le)))
  (ahb:nsIn K mainGlobals "NoDeed"=some (some (.ref Lf)))
  (a0:hF K "_law_cell_at" (top 66) .none f0)
  (a1:hF K "sign_at" (top 21) .none f1)
  (a2:hF K "is_open" (top 22) .none f2)
  (a3:hF K "all_cells" (top 20) .none f3)
  (a4:hF K "open_cells" (top 18) .none f4)
  (a5:hF K "is_open_within" (top 30) .none f5)
  (a6:hF K "row_from" (top 29) .none f6)
  (a7:hF K "rows_of" (top 28) .none f7)
  (a8:hF K "pattern" (top 34) .none f8)
  (a9:hF K "free_cells" (top 19) .none f9)
  (GH:hF K "with_sign" (top 24) .none f10)
  (a11:hF K "is_letters" (top 57) .none f11)
  (a12:hF K "is_word" (top 63) .none f12)
  (a13:hF K "need_word" (top 62) .none f13)
  (a14:hM K jb "__init__" "Book.__init__" (inClass (top 61) 0) .none f14)
  (D8:hM K jb "put" "Book.put" (inClass (top 61) 1) (.ref T9) TZ)
  (Lg:hV K T9 0)
  (a16:hM K jb "need_there" "Book.need_there" (inClass (top 61) 8) .none f16)
  (a17:hM K jb "has" "Book.has" (inClass (top 61) 7) .none f17)
  (Uk:hM K jb "worth" "Book.worth" (inClass (top 61) 4) .none D6)
  (a19:hM K jb "words" "Book.words" (inClass (top 61) 3) .none f19)
  (a20:hF K "words_fitting" (top 64) .none f20)
  (a21:hM K jb "fitting" "Book.fitting" (inClass (top 61) 5) .none f21)
  (a22:hF K "_law_open" (top 67) .none f22)
  (a23:hF K "_law_run" (top 68) .none f23)
  (a24:hF K "_law_rows" (top 69) .none f24)
  (a25:hF K "_law_with" (top 70) .none f25)
  (a26:hF K "_law_text" (top 75) .none f26)
  (a27:hF K "_law_letter" (top 73) .none f27)
  (a28:hF K "put_word" (top 37) .none f28)
  (a29:hF K "_law_put" (top 78) .none f29)
  (a30:hF K "_law_filled" (top 74) .none f30)
  (a31:hF K "_law_words" (top 76) .none f31)
  (a32:hF K "_law_left" (top 77) .none f32)
  (a33:hF K "_law_good" (top 71) .none f33)
  (a34:hF K "_law_floor" (top 72) .none f34)
  (a35:hF K "crossings_on" (top 48) .none f35)
  (a36:hF K "crossings_of" (top 47) .none f36)
  (a37:hM K rE "__init__" "Ground.__init__" (inClass (top 44) 0) .none f37)
  (a38:hM K rE "narrowed" "Ground.narrowed" (inClass (top 44) 1) .none f38)
  (a39:hM K pS "__init__" "Standing.__init__" (inClass (top 45) 0) .none f39)
  (a40:hM K pS "left" "Standing.left" (inClass (top 45) 3) .none f40)
  (a41:hM K pS "narrowest" "Standing.narrowest" (inClass (top 45) 2) .none f41)
  (a42:hM K pS "filled" "Standing.filled" (inClass (top 45) 5) .none f42)
  (a43:hM K pS "after" "Standing.after" (inClass (top 45) 1) .none f43)
  (a44:hF K "first_standing" (top 46) .none f44)
  (a45:hM K Av "__init__" "Cases.__init__" (inClass (top 41) 0) .none f45)
  (a46:hF K "closing_paper" (top 51) .none f46)
  (a47:hF K "turned" (top 23) .none f47)
  (a48:hF K "rows_through" (top 32) .none f48)
  (a49:hF K "need_floor" (top 31) .none f49)
  (Lh:hF K "fillings" (top 50) (.ref Ua) T8)
  (Li:hV K Ua 2)
  (a51:hF K "_law_turn" (top 81) .none f51)
  (a52:hF K "_law_all" (top 82) .none f52)
  (a53:hF K "is_filling" (top 35) .none f53)
  (a54:hF K "_law_is_filling" (top 79) .none f54)
  (a55:hF K "_law_agreeing" (top 80) .none f55)
  (a56:hF K "need_filling" (top 36) .none f56)
  (a57:hF K "other_filling" (top 54) .none f57)
  (a58:hF K "least" (top 53) .none f58)
  (a59:hF K "_law_kinds" (top 83) .none f59)
  (a60:hF K "_law_refused" (top 84) .none f60)
  (a61:hF K "_law_letters" (top 85) .none f61)
  (a62:hF K "_law_seconds" (top 86) .none f62)
  (Lj:hF K "law" (top 87) .none f63)
  {ahc:Tok}(ahd:nsIn K mainGlobals "SHUT"=some (some (.str "#" ahc)))
  {ahf:Nat}{ahh ahi:Tok}
  (ahj:nsIn K mainGlobals "ACROSS"=some (some (.ref Ul)))
  (ahk:K.lookup Ul=some ⟨.type "tuple",ahe,.seq #[.int 0 ahh,.int 1 ahi] ahf,ahg⟩)
  {ahm:Nat}{aho ahp:Tok}
  (ahq:nsIn K mainGlobals "DOWN"=some (some (.ref Um)))
  (ahr:K.lookup Um=some ⟨.type "tuple",ahl,.seq #[.int 1 aho,.int 0 ahp] ahm,ahn⟩)
  {ahs:Tok}(aht:nsIn K mainGlobals "FREE"=some (some (.str "." ahs)))
  {ahu:Tok}(ahv:nsIn K mainGlobals "LETTERS"=some (some (.str "abcdefghijklmnopqrstuvwxyz" ahu)))
  {ahw:Tok}(ahx:nsIn K mainGlobals "LEAST_LETTERS"=some (some (.int 2 ahw)))
  {ahy:Tok}(ahz:nsIn K mainGlobals "MOST_LETTERS"=some (some (.int 9 ahy)))
  (ahA:kitOne K (.ref eU) (.type "ValueError")=some true)
  (ahB:[K5,K6,K7,K8,K9,La,eU,Lb,Lc,Ld,Le,Lf].map (λc=>kitOne K (.ref eU) (.ref c))=[some false,some false,some false,some false,some false,some false,some true,some false,some false,some false,some false,some false])
  (zB:hZ K "len"/\hZ K "range"/\hZ K "tuple"/\hZ K "list"/\hZ K "str"/\hZ K "isinstance"/\hZ K "all"/\hZ K "sorted"/\hZ K "enumerate"/\hZ K "zip"/\hZ K "sum"/\hZ K "dict"/\hZ K "min"/\hZ K "reversed"/\hZ K "set"/\hZ K "ValueError")
  (ahC:specialIn K (.ref D6) "__get__"=some (some (.builtin "function.__get__"))) (ahD:takesIn K (.ref D6)=some false)
  (egX:specialIn K (.ref mP) "__getattribute__"=some (some (.builtin "type.__getattribute__"))) (erX:PySem.W.readsIn K mP (.type "type")=true) (efX:PySem.W.findCls K (.ref mP) (.type "type") "__init__"=some (.val (.builtin "ValueError.__init__"))) (eeX:mn K mP fB=true)
  (cgX:specialIn K (.builtin "object.__class__") "__get__"=some (some (.builtin "getset_descriptor.__get__"))) (ctX:takesIn K (.builtin "object.__class__")=some true)
  (Lk:tH K eU mP=true) (ahE:keepIn K (.ref eU)=true) (ahF:findIn K (.ref eU) "__getattribute__"=some (some (.builtin "BaseException.__getattribute__"))) (ahG:findIn K (.ref eU) "__getattr__"=some none) (ahH:findIn K (.ref eU) "__class__"=some (some (.builtin "object.__class__")))
  : ∃fd:FuncData,(∀(s:Shared) (v:Value),BindsTo s fd ⟨[v],[]⟩ [("_law_script",v)])/\∀base:Heap,K.In base->base.Ns mainGlobals mg->aK l.prog w K mg base aP 26 fa fd ["_law_script"] (DY K):=by
 obtain⟨D8,Uo,aiO,aiP,aiQ,aiR,aiS,aiT,aiU,aiV,aiW,l15,c15,Ll⟩:=D8
 obtain⟨_,_,_,_,Lg⟩:=Lg
 obtain⟨Lh,aiX,aiY,aiZ,ai0,ai1,ai2,ai3,ai4,ai5,l50,c50,Up⟩:=Lh
 obtain⟨_,_,_,_,Li⟩:=Li
 obtain⟨Lj,ai6,ai7,ahI,ahJ,ahK,ahL,ahM,ahN,ai8,l63,c63,k63⟩:=Lj
 have e:=hfa.symm.trans (dP X G Lj)
 cases e
 obtain⟨ahO,ahP,ahQ,ahR,ahS,ahT,ahU,ahV,ahW,ahX,ahY,ahZ,ah0,ah1,ah2,ah3⟩:=zB
 have B:Bl mg:=⟨jh X G ahO,jh X G ahP,jh X G ahQ,jh X G ahR,jh X G ahS,jh X G ahT,jh X G ahU,jh X G ahV,jh X G ahW,jh X G ahX,jh X G ahY,jh X G ahZ,jh X G ah0,jh X G ah1,jh X G ah2,jh X G ah3⟩
 have G4:Cn mg "SHUT" (.str "#"):=⟨_,dP X G ahd,_,rfl⟩
 have G9:B8 K mg "ACROSS" [.int 0,.int 1]:=⟨_,⟨_,dP X G ahj,rfl⟩,λH=>.inr ⟨_,_,_,ahk,rfl,rfl,(by show 2<=sizeLine;decide),(.cons ⟨_,rfl⟩ (.cons ⟨_,rfl⟩ .nil))⟩⟩
 have Hc:B8 K mg "DOWN" [.int 1,.int 0]:=⟨_,⟨_,dP X G ahq,rfl⟩,λH=>.inr ⟨_,_,_,ahr,rfl,rfl,(by show 2<=sizeLine;decide),(.cons ⟨_,rfl⟩ (.cons ⟨_,rfl⟩ .nil))⟩⟩
 have iZ:Cn mg "FREE" (.str "."):=⟨_,dP X G aht,_,rfl⟩
 have Hr:Cn mg "LETTERS" (.str iX):=⟨_,dP X G ahv,_,rfl⟩
 have Hs:Cn mg "LEAST_LETTERS" (.int 2):=⟨_,dP X G ahx,_,rfl⟩
 have Ht:Cn mg "MOST_LETTERS" (.int 9):=⟨_,dP X G ahz,_,rfl⟩
 have iJ:=Ub.cls
 have xq:=Uc.cls
 have pT:=Uh.cls
 have ah4:=Ui.cls
 have wZ:BO K mg "Whole" xp:=⟨agY,agZ,ag0,dP X G agX⟩
 have ah5:Gp K jb "worth":=⟨⟨D6,Uk.1,⟨ahC,ahD⟩⟩,by decide +kernel⟩
 have bB:fB.contains (.type "BaseException")=true:=by decide +kernel
 have ai9:XE K mP:=⟨egX,erX,efX⟩
 have aja:Cn mg "CrossError" (.ref mP):=⟨_,dP X G Uj,rfl⟩
 have Ar:Ec K mg "CrossError" mP fB:=⟨eeX,dP X G Uj,bB⟩
 have Kx:Cn mg "NotFilled" (.ref eU):=⟨_,dP X G K4,rfl⟩
 have Kk:GO K mg "NotFilled" eU mP:=⟨Lk,ahE,dP X G K4⟩
 have ah6:XI K eU:=aaD X Lk ahF ahG ahH cgX ctX
 have ah7:Ec K mg "NotFilled" eU (.ref mP::fB):=⟨aaE Lk,dP X G K4,by rw[uT,bB,rO]⟩
 have Kr:Cn mg "NoSheet" (.ref K5):=⟨_,dP X G ag1,rfl⟩
 have Ks:Cn mg "NoFloor" (.ref K6):=⟨_,dP X G ag2,rfl⟩
 have Kt:Cn mg "NoWord" (.ref K7):=⟨_,dP X G ag3,rfl⟩
 have Ku:Cn mg "Twice" (.ref K8):=⟨_,dP X G ag4,rfl⟩
 have Kv:Cn mg "NotThere" (.ref K9):=⟨_,dP X G ag5,rfl⟩
 have Kw:Cn mg "NoLine" (.ref La):=⟨_,dP X G ag6,rfl⟩
 have Ky:Cn mg "NoMatch" (.ref Lb):=⟨_,dP X G ag7,rfl⟩
 have Kz:Cn mg "NoWorking" (.ref Lc):=⟨_,dP X G ag8,rfl⟩
 have KA:Cn mg "NoStep" (.ref Ld):=⟨_,dP X G ag9,rfl⟩
 have KC:Cn mg "NoName" (.ref Le):=⟨_,dP X G aha,rfl⟩
 have KD:Cn mg "NoDeed" (.ref Lf):=⟨_,dP X G ahb,rfl⟩
 have D9:qA K "put" "Book.put" (inClass (top 61) 1) TZ _ _:=⟨⟨_,_,_,_,_,_,_,_,_,_,rfl,l15,c15,_,_,_,Lg⟩,Ll⟩
 have b15:=D9.binds (ps:=["self","word","worth"]) (ds:=[]) λ_ _ _ _ _ _ _ _ us _ _ _ hT hl=>by obtain⟨_,_,_,rfl⟩:=sS (P:=λus=>∃a b c,us=[a,b,c]) (λa b c=>⟨a,b,c,rfl⟩) us (by simpa using hl);exact .of_defaults rfl hT rfl rfl rfl
 have Rq:=D9.binds (ps:=["self","word","worth"]) (ds:=[.int 0 _]) λ_ _ _ _ _ _ _ _ us _ _ _ hT hl=>by obtain⟨_,_,rfl⟩:=sR (P:=λus=>∃a b,us=[a,b]) (λa b=>⟨a,b,rfl⟩) us (by simpa using hl);exact .of_defaults rfl hT rfl rfl rfl
 have Lm:qA K "fillings" "fillings" (top 50) T8 _ _:=⟨⟨_,_,_,_,_,_,_,_,_,_,rfl,l50,c50,_,_,_,Li⟩,Up⟩
 have b50:=Lm.binds (ps:=["book","sheet","most"]) (ds:=[]) λ_ _ _ _ _ _ _ _ us _ _ _ hT hl=>by obtain⟨_,_,_,rfl⟩:=sS (P:=λus=>∃a b c,us=[a,b,c]) (λa b c=>⟨a,b,c,rfl⟩) us (by simpa using hl);exact .of_defaults rfl hT rfl rfl rfl
 have e50:=Lm.binds (ps:=["book","sheet","most"]) (ds:=[.int 2 _]) λ_ _ _ _ _ _ _ _ us _ _ _ hT hl=>by obtain⟨_,_,rfl⟩:=sR (P:=λus=>∃a b,us=[a,b]) (λa b=>⟨a,b,rfl⟩) us (by simpa using hl);exact .of_defaults rfl hT rfl rfl rfl
 have F63:=ym (st:=(top 87)) l63 c63 k63
 refine⟨fnOf "law" "law" (qx (top 87)) (kd (top 87)) (aN (top 87)) .none ahJ ahK ahL ahI ahM ahN,λs v=>.of_eq rfl,λbase _ _=>?_⟩
 have oF :=@ya l.prog w K mg base h X G
 have oR :=@TY l.prog w K mg base h X G
 have oM :=@agR l.prog w K mg base
 have oW :=@agS l.prog w K mg base h X G
 have oX :=@agT l.prog w K mg base h X G
 have Ln:=oF a0 λ_ F=>aaX B F
 have Lo:=oF a1 λ_ F=>aaZ F
 have Lp:=oF a2 λ_ F=>aa1 F G4 Lo
 have Uq:=oF a3 λ_ F=>aa2 B F
 have Lq:=oF a4 λ_ F=>aa4 F Uq Lp
 have ah8:=oF a5 λ_ F=>aa6 B F Lp
 have ah9:=oF a6 λ_ F=>aa7 B F ah8
 have Lr:=oF a7 λ_ F=>aa8 F G9 Hc Lq ah9
 have Ur:=oF a8 λ_ F=>abe F Lo
 have aia:=oF a9 λ_ F=>abg F iZ Uq Lo
 have Us:=oF GH λ_ F=>abh B F
 have aib:=oF a11 λ_ F=>abk B Hr F
 have aic:=oF a12 λ_ F=>abp Hs Ht F aib
 have Ls:=oF a13 λ_ F=>abt F aic
 have KO:=oW Ub a14 λ_ F=>abw F iJ rC
 have ajb:Mt l.prog w K mg base jb "put" 4 (Co jb) []:=⟨iJ,_,_,_,_,⟨D8,Uo,Ll⟩,PR D9 iJ rC Ls,b15,.nil⟩
 have KP:Mt l.prog w K mg base jb "put" 4 (Co jb) [.int 0]:=⟨iJ,_,_,_,_,⟨D8,Uo,Ll⟩,PR D9 iJ rC Ls,Rq,.cons ⟨_,rfl⟩ .nil⟩
 have Hx:=oM iJ a16 λ_ F=>aby F iJ rC Ls
 have Kc:=oM iJ a17 λ_ F=>abB F iJ rC
 have wO:=oM iJ Uk λ_ F=>abD F iJ rC Hx
 have Jg:=oM iJ a19 λ_ F=>abF B F iJ rC
 have aid:=oF a20 λ_ F=>abJ B F iZ
 have Jq:=oM iJ a21 λ_ F=>abL B F iJ rC aid
 have aie:=oF a22 λ_ F=>abR B F
 have aif:=oF a23 λ_ F=>abS F aie
 have Ea:=oF a24 λ_ F=>abU B F aif
 have Aw:=oF a25 λ_ F=>ab3 B F
 have Eb:=oF a26 λ_ F=>ab5 F
 have Ut:=oF a27 λ_ F=>ab6 F Ln
 have aih:=oF a28 λ_ F=>ab7 B F Us
 have aii:=oF a29 λ_ F=>aca B F Aw
 have aij:=oF a30 λ_ F=>acj B F Aw Ut
 have aik:=oF a31 λ_ F=>acy B F Ln Ea Eb Ut
 have ail:=oF a32 λ_ F=>acS B F Eb
 have aim:=oF a33 λ_ F=>ac6 B F Ea
 have ain:=oF a34 λ_ F=>ac8 B F Aw aim
 have aio:=oF a35 λ_ F=>ady F
 have aip:=oF a36 λ_ F=>adE B F aio
 have Jr:=oW Uc a37 λ_ F=>aen B F xq Ud K0 Ue agU Ug Lr aip Jg wO
 have I8:=oM xq a38 λ_ F=>adP F xq Ug
 have wK:=oW Uh a39 λ_ F=>adR F pT K3 Au D7
 have wX:=oM pT a40 λ_ F=>adW F pT Au D7
 have wV:=oM pT a41 λ_ F=>adY B iZ F pT Au D7
 have wW:=oM pT a42 λ_ F=>ad3 B F pT xq K3 Au Ud K0 aih
 have wY:=oM pT a43 λ_ F=>aec B iZ F pT xq K3 Au D7 Ue wK I8
 have aiq:=oF a44 λ_ F=>aet B F xq iJ K0 Ur Jq wO ah5 Jr wK
 have w6:=oW Ui a45 λ_ F=>aeA B F ah4 agV agW
 have air:=oR a46 λ_ F hm hk hb=>Sn B F hm hk hb wV wW wX wY wZ w6 17
 have ais:=oF a47 λ_ F=>ae9 B F
 have ait:=oF a48 λ_ F=>afd F Lr
 have Uu:=oF a49 λ_ F=>afj F ais Lq Lp ait
 have aiu:Fn l.prog w K mg base "fillings" 22 (JW K jb xp Av):=⟨_,_,_,afs Lm Uu aiq air,dP X G Lh,Up,b50⟩
 have aiv:=oF a51 λ_ F=>afB B F ail Eb
 have aiw:=oR a52 λ_ F hm hk hb=>S0 B F hm hk hb aiv aii 10
 have aix:=oF a53 λ_ F=>afU F aia Lr Ur Kc
 have Uv:=oF a54 λ_ F=>af1 B F Ea Eb
 have Uw:=oF a55 λ_ F=>af2 B F
 have aiy:=oX a56 λ_ F=>af5 F aix Kk
 have aiz:=oF a57 λ_ F=>af7 F aiu
 have Ux:=oX a58 λ_ F=>agc B F iZ Uu aiy Lq Us aiz
 have aiA:=oF a59 λ_ F=>agi B F Kr Ks Kt Ku Kv Kw Kx Ky Kz KA KC KD
 have aiB:=oF a60 λ_ F=>agk B F Ar ah7.ec ah6 ahA ahB Ux aiA
 have aiC:=oF a61 λ_ F=>agp B F
 have aiD:=oF a62 λ_ F=>agv B F aiC Uw Aw Uv
 exact agA B F63 Ln ain aij aik KO KP Ea Aw Uv aiB Ux Uw aiw aiD
theorem walk{l:OpenLaw}{q:Program}{d:DefRec}{K:Params->Frag}(hn:l.most=some 63)(yj:d.params.defaults=[])
  (hY:∀(w:World) (h:Heap),YP w h->(K w.params).In h)
  (F:∀(w:World) (mg:Str->Option Value) (fa:Addr) (h:Heap),(K w.params).In h->h.Ns mainGlobals mg->mg d.name=some (.ref fa)->
   ∃fd:FuncData,(∀(s:Shared) (u:Value),BindsTo s fd ⟨[u],[]⟩ [("_law_script",u)])/\∀base:Heap,(K w.params).In base->base.Ns mainGlobals mg->aK l.prog w (K w.params) mg base aP 26 fa fd ["_law_script"] (DY (K w.params))) :
  PySem.W.WalkO q loose XP YP l.row.toRowW d [] (λf vs=>PySem.call f vs):=
 L2.Xg (n:=63) (k:=26) (x:="_law_script") (CX:=λ_=>aP) (sp:=λw=>DY (K w.params)) hn (by decide) yj ⟨rfl,by decide,by decide,rfl⟩ hY F (λ_ _ a ns hl _ hS=>⟨a,ns,rfl,hS,hl,λ_=>rfl⟩) λ_ _ _ _ _ z=>z
end Cw
open L2 in
noncomputable def PySem.W.Fast:=V
where
tw6159092120817674272:=V
tw2534719526768062560:=V
tw304470693162956896:=V
tw2733105382846903424:=V
tw14147872504671191200:=V
tw15126960834989205696:=V
tw9219272702399723712:=V
tw8729772408694547680:=V
tw9792277242468407648:=V
tw11893891997817136544:=V
tw11155304277443828160:=V
tw15208374383692148160:=V
tw8451701320255528416:=V
tw2555018879238412896:=V
tw13130247273246867040:=V
tw9138699922058823264:=V
tw3508311792060396224:=V
tw7274182915775551200:=V
tw2186396375141408480:=V
tw10123067690335563488:=V
tw5496268184283712256:=V
tw1602184045765439232:=V
tw9009324482961539904:=V
tw5226781546359321472:=V
tw16265412884018144289:=V
tw1467338108412119073:=V
tw15157307123162902561:=V
tw6262778473789191233:=V
tw11828160154220205185:=V
tw5082757433583757441:=V
tw8708907690054205601:=V
tw4247931994250250433:=V
tw4438784714657337537:=V
tw11682260714513750241:=V
tw11515791421697458465:=V
tw14097632016906093857:=V
tw3562963065875303713:=V
tw14684737031741600033:=V
tw11944031044414749025:=V
tw15852604109347536225:=V
tw9725698827398858081:=V
tw14049330860036020577:=V
tw12932721105978704257:=V
tw7075773599806493089:=V
tw17532144775597855137:=V
tw11762347140332592545:=V
tw7073194503822081441:=V
tw12971393902338050561:=V
tw10184076352434960897:=V
tw12718753452708529697:=V
tw9449310407431166497:=V
tw2142760455104248385:=V
tw9462602878527567425:=V
tw15030899574295795297:=V
tw11235854007089234561:=V
tw14232269678513357441:=V
tw16074040269571100289:=V
tw11874539162484243073:=V
tw9308636738507729569:=V
tw8462133712320657057:=V
tw14836069735361755905:=V
tw1657862654715273985:=V
tw13908144615544190753:=V
tw7018106972421126945:=V
tw16871756623983867713:=V
tw9081806837747479425:=V
tw10950182517604047777:=V
tw15726138161263020993:=V
tw3026300252716166081:=V
tw6395583619986174945:=V
tw7969696060424852482:=V
tw17295178246455298146:=V
tw248138593322755170:=V
tw7923789352059307138:=V
tw15758704043253675202:=V
tw6992590973623529698:=V
tw2518943655111178498:=V
tw4557837154410136866:=V
tw14183195694126387490:=V
tw15447548112516117794:=V
tw10936260780039760194:=V
tw1403786286094905730:=V
tw9047959455301082530:=V
tw5942374311531586978:=V
tw10410581227372886466:=V
tw1794916522997230050:=V
tw15870260889270863330:=V
tw14786031840776971810:=V
tw9274081156627641922:=V
tw6491439776037387842:=V
tw2657063291408686690:=V
tw7342458166582139586:=V
tw16242565245615251234:=V
tw5101918586957719330:=V
tw5525202634911590210:=V
tw15437167461201203106:=V
tw2283831628211143683:=V
tw6530676049605826563:=V
tw1742827125419223075:=V
tw8272591625269867811:=V
tw9544862869955521859:=V
tw6861068673887447459:=V
tw9047959297716276643:=V
tw16807592883152298435:=V
tw15290923742634318339:=V
tw12887515799881213475:=V
tw438861176710070883:=V
tw6052245427292145283:=V
tw13269815747513932419:=V
tw15162569692951404163:=V
tw7739624442627014307:=V
tw16764615532849974947:=V
tw2212670154320736931:=V
tw8806552960673483587:=V
tw16423434858478283619:=V
tw1329052968094724963:=V
tw14708951703139176323:=V
tw16993265083188106115:=V
tw3816639414782977923:=V
tw18413382683415911428:=V
tw8738490993039255588:=V
tw7893323183689922596:=V
tw241515076052299940:=V
tw1981052425004882180:=V
tw1441696442770139396:=V
tw11991739249257182468:=V
tw16046337718222387524:=V
tw12458867875189900676:=V
tw5482464517949941124:=V
tw16360480465331310020:=V
tw9745750630144928260:=V
tw4890720800507278948:=V
tw17355121202335683204:=V
tw447272755619522180:=V
tw7800629013140832932:=V
tw3916941520241858276:=V
tw17734683288828370692:=V
tw1443453679675798276:=V
tw7923007517992663844:=V
tw5068208560629759780:=V
tw7117610408531789636:=V
tw16762297808478676868:=V
tw6478570150133022596:=V
tw8479094883000344452:=V
tw6323564395300911076:=V
tw3459008903655040133:=V
tw4085425424442828933:=V
tw9646663294855918789:=V
tw3199595752209146085:=V
tw17384211078899779877:=V
tw12238414009941051717:=V
tw541156877584927077:=V
tw18294987195259901413:=V
tw12685949681691639333:=V
tw5284132319162498597:=V
tw11695328828787411621:=V
tw8757974545235835557:=V
tw2583628830626283173:=V
tw5583094708907536069:=V
tw13474011374409251589:=V
tw4664723860746097445:=V
tw9759399000449614661:=V
tw9517865842639509317:=V
tw11237395969672937317:=V
tw3682765207562025893:=V
tw11307959986274205605:=V
tw1807394735585581029:=V
tw5684498775264165894:=V
tw2404499140961446918:=V
tw5450298048327109670:=V
tw156421328488058918:=V
tw1850613476986558534:=V
tw6618697180176033062:=V
tw17936953345764733222:=V
tw16243111598093067558:=V
tw9778113018757144902:=V
tw17088913570575644998:=V
tw14550974288320706918:=V
tw15816876741336089958:=V
tw10852691689843291526:=V
tw9671429653316985254:=V
tw9550455848634927654:=V
tw2189988281130006118:=V
tw1447799756386246278:=V
tw17700251806147054246:=V
tw2389839706367599334:=V
tw15286947649668951782:=V
tw15823073026185942758:=V
tw7458643430391549766:=V
tw15989542300361385798:=V
tw14176908367529225062:=V
tw3095518370952700774:=V
tw11804141010652243846:=V
tw16358649251557917574:=V
tw6998087383406368646:=V
tw12072083754359746438:=V
tw8523884888796349382:=V
tw10284743413134504934:=V
tw8831464201131280391:=V
tw15752518298694086695:=V
tw5713959021878150279:=V
tw7064422676172970119:=V
tw683860136121763015:=V
tw3480754565565445319:=V
tw6295809996388611303:=V
tw10980647826797316391:=V
tw14697818738122064231:=V
tw6883978874012851591:=V
tw1913138414071734663:=V
tw10754297561060471207:=V
tw10257762366538089927:=V
tw4577771667519315431:=V
tw12738041288453704199:=V
tw752441442863427175:=V
tw14473363300392899239:=V
tw10384167930302549671:=V
tw14098273099924180711:=V
tw16352138450410215143:=V
tw10174783588437086951:=V
tw15209637735347774215:=V
tw6056624484443313959:=V
tw11021582132958965607:=V
tw12782049552011812711:=V
tw3179845992379452327:=V
tw4680533576273199015:=V
tw17956795063917971399:=V
tw17723066010396259303:=V
tw2479063166107677671:=V
tw15811257499529801768:=V
tw2964276310034875496:=V
tw8967688764801586344:=V
tw12373005008305892552:=V
tw18100089332758096104:=V
tw245666346932551912:=V
tw15054589509374332168:=V
tw16133417902772904296:=V
tw12399660748081977768:=V
tw14246198031384269256:=V
tw7230713942151001544:=V
tw3605482305821524488:=V
tw9281080568161154632:=V
tw6544232855650994792:=V
tw15500440694625261160:=V
tw3139348291451225736:=V
tw605796382140780264:=V
tw5766618285052392200:=V
tw6038801087215733544:=V
tw15017430596263232296:=V
tw2877697049445313352:=V
tw9581226211534280552:=V
tw11201234346058939304:=V
tw7860355481899313096:=V
tw7454360858290761672:=V
tw2849952207898881992:=V
tw13433112305263843304:=V
tw4369581528841207784:=V
tw7171386738871469065:=V
tw9108786938204546089:=V
tw13509517204983442473:=V
tw17189895279985978601:=V
tw4381138424373996777:=V
tw4299605882568355113:=V
tw12480981902250526025:=V
tw14295954881555385673:=V
tw3337021770415084937:=V
tw4581448718757822889:=V
tw9620135150788878793:=V
tw8722568412658017769:=V
tw16964442382272495081:=V
tw4581840643788585481:=V
tw12796101181572174345:=V
tw6572656745441950217:=V
tw17094270175697294889:=V
tw6426850847454930537:=V
tw1342794800987835049:=V
tw17240409569558563497:=V
tw1640746508482218793:=V
tw6704242815425133353:=V
tw1985821542161079113:=V
tw13594641598526849929:=V
tw1768701809596740489:=V
tw4553508624330720169:=V
tw14449769702708626345:=V
tw13631838363780170697:=V
tw5173563405880777738:=V
tw14841548769482246186:=V
tw10805485173711933482:=V
tw9082227445596133418:=V
tw14295582149994319978:=V
tw17520225694308426858:=V
tw12111818014856280170:=V
tw12707093472690379946:=V
tw1924281862520683722:=V
tw906132859626061034:=V
tw2823120294526524682:=V
tw2755194921474713866:=V
tw1918024714506385706:=V
tw13510210119237617002:=V
tw1776624970717589866:=V
tw15849936039721244042:=V
tw1784003171221199306:=V
tw15929878959978512874:=V
tw14199251021965875722:=V
tw14762371126069147178:=V
tw9624685058827286090:=V
tw1425059519570759274:=V
tw2501356259125705354:=V
tw14591346003954221834:=V
tw8502981254450441994:=V
tw7010757257823634250:=V
tw6870490369445089098:=V
tw1191482314375542666:=V
tw3729326274891073450:=V
tw5835872150729944042:=V
tw11918048837477954538:=V
tw16454026013241533451:=V
tw2119145632787669131:=V
tw8484781901468829867:=V
tw16352681349039604907:=V
tw9691705007902902443:=V
tw101649364134617291:=V
tw14795749061295430891:=V
tw4794568871014265067:=V
tw11838616729372344587:=V
tw14749357509558071563:=V
tw13093375369918244139:=V
tw210355607392518475:=V
tw2660904525995333995:=V
tw9391717925496185195:=V
tw12972345643703199083:=V
tw10977046598257797483:=V
tw12560006672800786827:=V
tw2420663333284720075:=V
tw9269241396830108107:=V
tw18286614170940843563:=V
tw18162862447592364619:=V
tw4370066750627672683:=V
tw999701562457729675:=V
tw4608066394871038699:=V
tw977093571830115051:=V
tw10407611914428270347:=V
tw428928732088096555:=V
tw1686531269150223179:=V
tw11260781285971014475:=V
tw5452161175723163563:=V
tw1965592784827267051:=V
tw10116291782573074444:=V
tw14007447609240238092:=V
tw15013612951705959436:=V
tw2371695134176954380:=V
tw5593277415122433068:=V
tw5114800988895635564:=V
tw10863015843733310636:=V
tw15088490467355828396:=V
tw12281067782632909036:=V
tw15887223574927341804:=V
tw4211880903401455884:=V
tw15787959014098747756:=V
tw15564586293548189068:=V
tw4466308654755718540:=V
tw6201044131816131084:=V
tw13587447061106338348:=V
tw7381632249892492844:=V
tw17953763245394369100:=V
tw17804230255281561164:=V
tw14748382543314986604:=V
tw7912093074222104172:=V
tw5574382858692897452:=V
tw9687742744227596972:=V
tw225376733168068268:=V
tw15808202266909604524:=V
tw3858956950361565900:=V
tw14473311644374273772:=V
tw14100009950757223148:=V
tw8100726862049345292:=V
tw4733523922504425260:=V
tw9111561264263743308:=V
tw4242038273265813356:=V
tw11058941680405717900:=V
tw5271993657483633548:=V
tw14786086750912001932:=V
tw6426135824642586572:=V
tw10764163171492215756:=V
tw5352671633058927629:=V
tw147420543495944205:=V
tw12715563803809680429:=V
tw6404823147567879277:=V
tw3110856556442454157:=V
tw16141474116941588621:=V
tw16620788416954990861:=V
tw14739938352862371085:=V
tw6609682013329599757:=V
tw13617446752324810061:=V
tw346888476493345133:=V
tw13055970647519038893:=V
tw3210033804221770189:=V
tw1787635961332855245:=V
tw8686883977551524397:=V
tw15681289138020464205:=V
tw2561998479354505837:=V
tw8234924472166538861:=V
tw8967787613986228877:=V
tw3965019009662129805:=V
tw8488791287580499597:=V
tw5763295277011523213:=V
tw11359499605643657901:=V
tw9931359897733768877:=V
tw18055675938987503277:=V
tw737151614164739789:=V
tw18030537099933651693:=V
tw14236298440509049645:=V
tw3433068279805710157:=V
tw7682812419484154701:=V
tw18105722225525851021:=V
tw5751057791638445:=V
tw9120522816660378573:=V
tw14435669997909064718:=V
tw17844942206311415822:=V
tw5744527887463728142:=V
tw8908176977128877070:=V
tw10749134110035873838:=V
tw11593388244229263406:=V
tw4422204486180773998:=V
tw2541408237752971470:=V
tw15947770784850968814:=V
tw4661942373655333102:=V
tw7003117526809171182:=V
tw13534504479789215022:=V
tw306885975003044206:=V
tw17125358013107919214:=V
tw15872860451366501742:=V
tw7563886870806236590:=V
tw11607512711051748814:=V
tw195436604870377934:=V
tw10333269730311222798:=V
tw8888332489825461838:=V
tw6865245463040909902:=V
tw11732107343699353198:=V
tw1024631950812506734:=V
tw5443058746831272558:=V
tw637840303672201966:=V
tw4083458689012038382:=V
tw7290083812266266414:=V
tw6838465623279296366:=V
tw8367463774040032206:=V
tw9088543542520398798:=V
tw2597962443694667726:=V
tw82197488962535374:=V
tw9480212372367539182:=V
tw4182504605708948495:=V
tw5092192903907762191:=V
tw9896188996902319119:=V
tw14590332642832597135:=V
tw17331574035084098767:=V
tw155439729006209295:=V
tw1636953517861735727:=V
tw6697009295817085263:=V
tw9481156960146178383:=V
tw7887729601842073967:=V
tw6786922887829876079:=V
tw9080903345988937135:=V
tw7250299112786717135:=V
tw6528333641017063951:=V
tw3105388092351735343:=V
tw8178076615919603311:=V
tw14203845887147769455:=V
tw1111064538796605231:=V
tw4795538901857709903:=V
tw18135973712130813775:=V
tw546055838236235599:=V
tw7915700850591103855:=V
tw2865236625092328335:=V
tw12812637636801494927:=V
tw6870266239970282447:=V
tw17756339315655266255:=V
tw3382152969944975376:=V
tw8467611456758462512:=V
tw17417786759767339152:=V
tw13112893404033182864:=V
tw4126057390390751408:=V
tw11481729299113230544:=V
tw11001198522446977264:=V
tw17280124503095477520:=V
tw66379299049859344:=V
tw9398816235897618736:=V
tw17542600321578974512:=V
tw2782464615607174480:=V
tw7520619241104159120:=V
tw18211247265809572272:=V
tw16897113224520616400:=V
tw3876632258103645680:=V
tw235262977718650448:=V
tw2296595839589427792:=V
tw8307033434833716848:=V
tw2742934638344374896:=V
tw2925657648668028592:=V
tw16765121104972859056:=V
tw12411173760393082576:=V
tw5737257156600714000:=V
tw18411121672967058192:=V
tw7603515765591122736:=V
tw17201261264274121584:=V
tw3708004747355890576:=V
tw12991482957136482224:=V
tw16567988878315870128:=V
tw15780291228389852112:=V
tw234976620353189905:=V
tw6127799836576645201:=V
tw2545278031147349073:=V
tw13256232228870672593:=V
tw4472873810959512849:=V
tw17396570376748007793:=V
tw14513475524967663025:=V
tw15344313610950190545:=V
tw8215026207300742609:=V
tw5338891455376515569:=V
tw7150405804857714161:=V
tw8255624900463519217:=V
tw15209257970464102929:=V
tw434989920779946513:=V
tw6017885351235885649:=V
tw9528834524163278449:=V
tw4701966865134515825:=V
tw3736571854598273681:=V
tw11453799436452710065:=V
tw10353031211999481521:=V
tw7453267734400640785:=V
tw5663234904869951249:=V
tw8694030237291287409:=V
tw17326424157491574641:=V
tw17408637907954284401:=V
tw8576964853337476049:=V
tw6932294216241925170:=V
tw1726807605712284754:=V
tw16085574349000568914:=V
tw7094596420450170002:=V
tw5003950222262600882:=V
tw16984732406266589394:=V
tw14554148337452631282:=V
tw14023819020003674418:=V
tw220126799530953010:=V
tw17040879261678658898:=V
tw5698407737153467794:=V
tw2201995358820542898:=V
tw4868676339612942802:=V
tw1700074911197049330:=V
tw6331554606321029618:=V
tw3823999456445147666:=V
tw10235841932708251250:=V
tw1029724389304197778:=V
tw11030558949984169650:=V
tw14594092987657067218:=V
tw8687512313537604306:=V
tw1548745458344733426:=V
tw307197714218452786:=V
tw5746872896052669266:=V
tw2870015866864532306:=V
tw2893239969143725010:=V
tw4953345231593760722:=V
tw13306248844585616370:=V
tw15611114831669874674:=V
tw4616092620815269874:=V
tw5190420585748375571:=V
tw16368490882724378643:=V
tw16356456114253743155:=V
tw4386844943265246291:=V
tw15439755175640533107:=V
tw13560391160278123667:=V
tw2710509099063474355:=V
tw16657171813141896403:=V
tw9972180218942060787:=V
tw11820128264625858835:=V
tw14536006014194788627:=V
tw11156831812801200435:=V
tw1993590195500578099:=V
tw11510247295618827603:=V
tw2589672512666868083:=V
tw11267778054687616371:=V
tw9392548717472333203:=V
tw2660399772696828307:=V
tw13018914776711203251:=V
tw12388477706037499315:=V
tw10453982469339568627:=V
tw15648475824899794611:=V
tw10222994656073174739:=V
tw15439545761361056499:=V
tw5340536730372417331:=V
tw11048415661682351923:=V
tw50876388556187475:=V
tw16680900784518897555:=V
tw17894932638809017267:=V
tw16945229517079294931:=V
tw1744349913006154772:=V
tw11064784232846241812:=V
tw6924596666830387284:=V
tw881582490877980884:=V
tw635515150375989492:=V
tw15411503591768446228:=V
tw10553902075353346484:=V
tw8414088361960274356:=V
tw5170022397749570004:=V
tw49892782967621108:=V
tw14166344218371725844:=V
tw5241137006947832500:=V
tw2746779471685449396:=V
tw18172518357122224852:=V
tw422087122319610580:=V
tw14307274440185239252:=V
tw15040876410559508212:=V
tw13176909397325177620:=V
tw9358810305784770324:=V
tw803611754883509044:=V
tw17938978134838095828:=V
tw3286164199187627029:=V
tw8851863622906496021:=V
tw15946182181812136981:=V
tw7267388539501297717:=V
tw15355474570277484629:=V
tw14292690272487505045:=V
tw8814740796104030389:=V
tw5588606670482857141:=V
tw16032390433308095733:=V
tw11420890711944823125:=V
tw1973837819822940501:=V
tw6468426626948450645:=V
tw12165416435551742325:=V
tw5269955513193429461:=V
tw16409474756634612309:=V
tw3502879681682963061:=V
tw13676065127591576213:=V
tw5124797669249281685:=V
tw1404716239922599637:=V
tw14074712679629660885:=V
tw10458060312871266005:=V
tw11850061474277363445:=V
tw786967368368966453:=V
tw8763141922591138709:=V
tw3427005510674672533:=V
tw7655490715741279157:=V
tw14185612562576888757:=V
tw12310493337699959797:=V
tw2977885938402074742:=V
tw9213856831035553942:=V
tw3173851387770719382:=V
tw5203101192060329110:=V
tw18167887007911982262:=V
tw81951466053954742:=V
tw1401080655768847606:=V
tw16273731767068828022:=V
tw2962928088574325110:=V
tw10737826425705638358:=V
tw17717628936942368214:=V
tw16445224645351739094:=V
tw1858154164777751254:=V
tw23070488081658614:=V
tw9374137851492941782:=V
tw9218231770025247702:=V
tw5856695509153938422:=V
tw8820499471799063639:=V
tw6991735154684054615:=V
tw7298546024500783191:=V
tw13006069702525959319:=V
tw6253480937299049623:=V
tw5899933086530541815:=V
tw16224062698799409399:=V
tw11508301716708662551:=V
tw11463621312756942167:=V
tw5503495011178391927:=V
tw110572928877800823:=V
tw16773947880559567255:=V
tw13588958867164587415:=V
tw2907569474140512695:=V
tw393659383400177111:=V
tw308543642857594391:=V
tw15808722317888676407:=V
tw8788607823855385207:=V
tw9063881003830671991:=V
tw6185777501011024695:=V
tw18436894969891237687:=V
tw2574591083009388343:=V
tw8341895042908294999:=V
tw12248148565356655479:=V
tw16127786401959230327:=V
tw6965192009824264055:=V
tw13988353178680615799:=V
tw3413398760094042007:=V
tw9739190893416140727:=V
tw4641879245992320951:=V
tw14819966081119079383:=V
tw6234124237986109431:=V
tw16068529863378471960:=V
tw7825793692885892120:=V
tw7016210718230586456:=V
tw6983656301261320280:=V
tw11563712984526296184:=V
tw16615366848241005688:=V
tw10509065271873075352:=V
tw1529291197186370744:=V
tw9589989012428294392:=V
tw8860145335560001816:=V
tw12420581939899457816:=V
tw11840122691121054008:=V
tw6464294156994960696:=V
tw3596804551506201976:=V
tw5438851634139891128:=V
tw6988177528877801912:=V
tw6399105830422962712:=V
tw12940395629832961560:=V
tw13019146824921861720:=V
tw1663970072871567992:=V
tw4434909376316161688:=V
tw12175894775631812280:=V
tw14703696820580739768:=V
tw9781064800452669112:=V
tw4574799106365967064:=V
tw16696210366712739576:=V
tw13121257022020029208:=V
tw4818217330202941208:=V
tw15482783187403813656:=V
tw3149516335878977304:=V
tw344380125268752152:=V
tw14483796690043260696:=V
tw7866961388638280504:=V
tw11568575900408899416:=V
tw12064506463193638808:=V
tw78831550670399448:=V
tw14008727613800109113:=V
tw622411626849078361:=V
tw7096563792376297625:=V
tw7893692784765329593:=V
tw10000356018221471961:=V
tw1630071865035519193:=V
tw11687425312649331961:=V
tw13949421276008099097:=V
tw1409325661833132313:=V
tw4422407220155382105:=V
tw15589289100385281465:=V
tw2212385775482704377:=V
tw7416279342234064377:=V
tw17455524177810021913:=V
tw5698370017755762233:=V
tw7301099470585009721:=V
tw9101957517988873817:=V
tw4621840637128534681:=V
tw192780298820889273:=V
tw5723841536616839865:=V
tw7443212112919665369:=V
tw9520678746155864825:=V
tw14188329142478976857:=V
tw3729413792685866873:=V
tw7917950583606016953:=V
tw9864953105779696601:=V
tw1028828722425091130:=V
tw474950635367008442:=V
tw4888026464492611770:=V
tw3148830599991790970:=V
tw3741988863825591674:=V
tw11177646104030583226:=V
tw14557526939256845754:=V
tw18021343490209987034:=V
tw9568558378325366266:=V
tw13497266528927301146:=V
tw9744803583242320506:=V
tw4569341582031583898:=V
tw11131348295442837178:=V
tw6302951076393588442:=V
tw2019413257427202778:=V
tw9312760413315774234:=V
tw8569904748366609242:=V
tw5679301002133989242:=V
tw9937927116521757626:=V
tw9240418812586143706:=V
tw17868345397366301851:=V
tw17054544336615377115:=V
tw16231652560151276795:=V
tw15334486563628225819:=V
tw12510648469397742907:=V
tw2238414047147105691:=V
tw14924477405064639995:=V
tw14851572383985053211:=V
tw10414266419361373723:=V
tw2899232970168805979:=V
tw2789021625176329851:=V
tw11964483580925224635:=V
tw17222354765713064667:=V
tw7851867291183565531:=V
tw13435059845509666587:=V
tw8855723536210975515:=V
tw3328092605895051067:=V
tw5286442784181548859:=V
tw16093456785394081627:=V
tw13838926383920531355:=V
tw9974729539367034843:=V
tw13724389021452313595:=V
tw12507529959368853628:=V
tw18439203298896986332:=V
tw7205806819910608124:=V
tw16532206975703247100:=V
tw16425266858579907868:=V
tw7076769821716811068:=V
tw16933818635351501148:=V
tw18020608307217121628:=V
tw18136286787738584412:=V
tw4273291305516168540:=V
tw14128350316348802588:=V
tw13454996172727781948:=V
tw6473942026071754332:=V
tw4817031397537106524:=V
tw15466423097098361436:=V
tw16525329065957554812:=V
tw620118369582983836:=V
tw16657025742288770716:=V
tw18317796398890505884:=V
tw14844724718778221244:=V
tw7166343609134667452:=V
tw15878883611066571484:=V
tw2200692888520794940:=V
tw3904468483750771548:=V
tw452950033546629020:=V
tw6902485547791292348:=V
tw12465909098062650300:=V
tw11417882808803210172:=V
tw15898393347970426812:=V
tw7085144493813701596:=V
tw16358934869280662492:=V
tw5397331442872744956:=V
tw8101235833461817373:=V
tw11197559457411295421:=V
tw15499013302236970173:=V
tw11483951790053855549:=V
tw3141546732246576509:=V
tw16680085612998129021:=V
tw5568831662717085117:=V
tw11263285864541432253:=V
tw5746366482518721021:=V
tw3879619048957279741:=V
tw4612748524097768061:=V
tw16457325674752168669:=V
tw4338513652461658909:=V
tw12926476421317526365:=V
tw11475759073687338845:=V
tw9697964049406919549:=V
tw7355480805278646141:=V
tw7972447350574886813:=V
tw14910802365684311037:=V
tw10973773295821404222:=V
tw8324846567796040766:=V
tw5601400762576870494:=V
tw18033690928118616158:=V
tw6163053514569348190:=V
tw3925650843515658366:=V
tw14855898262995245214:=V
tw9647218223303048350:=V
tw8009374178405220542:=V
tw4256632629551765726:=V
tw9740720700594408702:=V
tw17149427630789573950:=V
tw3316643864877121950:=V
tw11815572272973168094:=V
tw15981321770672024062:=V
tw13552855378853707294:=V
tw14055696181343985246:=V
tw9219960571660022366:=V
tw6803093377305197150:=V
tw14379510373838619262:=V
tw1922696348543786622:=V
tw11165127443491729022:=V
tw15473079197135864478:=V
tw16850987048605798046:=V
tw3718453270286059230:=V
tw16723195370008642366:=V
tw2435509246109168478:=V
tw2441486622498767710:=V
tw12413586229441536894:=V
tw7807108662865221534:=V
tw10524455148194557886:=V
tw13355430254308323294:=V
tw11127566059056254974:=V
tw10194665092702332959:=V
tw9480859448493770815:=V
tw4967142628799094911:=V
tw9881034864436693119:=V
tw1924974847874789503:=V
tw3853426593399154879:=V
tw3370479962505411775:=V
tw14314149361790292255:=V
tw1327930753812202815:=V
tw7932728694253915455:=V
tw17738277139880989023:=V
tw12606567267659775391:=V
tw2380426423198550527:=V
tw4383941684728920575:=V
tw8043012088239397407:=V
tw767146561036918335:=V
tw12366024147388355135:=V
tw9481355544921994847:=V
tw13469025511617868415:=V
tw10948089970490145407:=V
tw14683565316827335359:=V
tw4277046201139783359:=V
tw3613551891794747167:=V
tw12953941100011793215:=V
tw5107323823299651423:=V
tw11441669040813866879:=V
tw12423359867535444959:=V
tw11120077964696919039:=V
tw5045796674326556671:=V
tw6212363810697257204:=V
open PySem PySem.W PyProof.Rows
set_option maxRecDepth 100000 in
set_option maxHeartbeats 0 in
theorem PySem.Challenge.cw_crosswright_k51_whole_least_givens_holds : PySem.Challenge.rw_crosswright_k51_whole_least_givens.Holds := by
  w_on; o_law; k_head; (case hw => w_witness2)
  k_fill
  refine Cw.walk (l := PySem.Challenge.rw_crosswright_k51_whole_least_givens) rfl rfl (fun w h Y => PySem.W.kIn_of Y) ?F
  case F =>
    intro w mg fa h KX G hmg
    apply Cw.all_mk KX G hmg
    repeat (first | (show _ = _; k_is) | apply Cw.hF_mk | apply Cw.hM_mk | apply Cw.hT_mk | apply Cw.hV_mk | apply And.intro | (with_unfolding_all exact rfl) | kernel_rfl)
#print axioms PySem.Challenge.cw_crosswright_k51_whole_least_givens_holds
