import PyProof.Rows.All
import Wide.All
import OpenK.AllK
import Wide.FinOn
import Lean
import PyProof.EqAt
import PyProof.EqKinds
import PyProof.TupleCall
import PyProof.NeKinds
import PyProof.SetRoads
import PyProof.SetNew
import PyProof.TupleKey
import PyProof.AttrMissHeap
import PySem.Challenge.RW_crosswright_k61_whole_best
open PySem.W(Frag findIn nsIn keepIn kitOne instObj emptyDict fnOf specialIn makesIn codeIn clsIn plainGet takesIn methodObj hasDictIn isFn lookIn plainOver Looks mroIn takerIn OpenLaw)
set_option Elab.async false
set_option linter.all false
set_option compiler.extract_closed false
set_option maxRecDepth 100000
section
open PySem PySem.Spec PyProof.Rows PySem.W
def aj:=@wpAny_bind
def av:=@List.length_map
def ax:=@if_neg
def aA:=@if_pos
def aJ:=@decide_eq_true
def aN:=@decide_eq_false
def aW:=@Nat.le_refl
def aY:=@wpAny_pure
def bb:=@List.getElem?_eq_getElem
def bj:=@List.mem_of_getElem?
def bp:=@List.size_toArray
def br:=@Ne.symm
def bt:=@List.mem_cons_self
def bu:=@Nat.zero_le
def bE:=@List.getElem?_map
def bI:=@List.map_cons
def bL:=@Heap.get?_push_of_some
def bM:=@List.mem_map
def bQ:=@Nat.le_trans
def bS:=@Heap.lt_size
def bT:=@List.getD_eq_getElem?_getD
def bX:=@List.mem_cons_of_mem
def bZ:=@Nat.ne_of_lt
def b0:=@Bool.false_ne_true
def cf:=@List.mem_cons
def cg:=@List.getElem?_eq_some_iff
def cj:=@List.mem_singleton
def cy:=@List.mem_filter
def cI:=@Heap.get?_push_size
def cQ:=@Option.some.inj
def cV:=@List.mem_append
def cW:=@List.getElem?_eq_none
def dw:=@List.filter_cons
def dC:=@List.length_cons
def dE:=@List.length_append
def dF:=@List.map_append
def dG:=@List.sum_cons
def dJ:=@List.append_nil
def dQ:=@Int.toNat_natCast
def eP:=@Bool.and_eq_true
def eQ:=@List.getElem?_of_mem
def fh:=@congrArg
def fm:=@List.not_mem_nil
def fq:=@List.take_of_length_le
def fJ:=@Paired.length
def fK:=@of_decide_eq_true
def fL:=@List.take_add_one
def gi:=@Bool.eq_false_iff
def gK:=@Nat.lt_of_lt_of_le
def gM:=@List.nodup_cons
def gN:=@PySem.W.mg_none_of
def ip:=@List.mem_range
def iq:=@Bool.false_and
def ir:=@Nat.le_succ
def iu:=@Nat.not_lt_zero
def iw:=@List.length_filter_le
def iy:=@wpAny_field
def iz:=@Nat.mul_one
def iQ:=@Nat.succ_mul
def iR:=@Option.map_some
def iS:=@Option.map_eq_some_iff
def iT:=@List.nodup_nil
def iU:=@List.mem_map_of_mem
def jt:=@List.mem_append_right
def ju:=@List.ext_getElem?
def jv:=@PySem.F.plainAttrs_list
def jw:=@List.map_map
def jV:=@wpAny_mono
def jW:=@if_true
def jX:=@Nat.lt_of_le_of_lt
def jY:=@List.filter_append
def jZ:=@PySem.F.slot_list_append
def j0:=@PySem.F.type_list_append
def j1:=@PySem.W.mg_of
def kJ:=@wpAny_holding
def kK:=@Heap.size_push
def kL:=@List.length_take
def kM:=@List.length_range
def lQ:=@List.append_assoc
def lR:=@List.all_eq_true
def lS:=@Nat.succ_le_succ
def nt:=@Array.length_toList
def nv:=@beq_iff_eq
def ny:=@PySem.W.kia_one
def nz:=@Heap.get?_update_other
def nA:=@Paired.snoc
def nB:=@Nat.lt_succ_of_lt
def nC:=@List.range_succ
def nE:=@wpAny_seqItems
def nF:=@List.getElem_mem
def nG:=@Prod.mk.injEq
def oQ:=@wpAny_truthy_bool
def oS:=@List.replicate_succ
def oU:=@Nat.mul_comm
def oV:=@Option.getD_some
def oX:=@List.filter_nil
def oY:=@wpAny_of_eq
def oZ:=@List.nodup_append
def o8:=@Nat.mul_zero
def o9:=@Prod.ext
def qS:=@Nat.lt_succ_self
def qT:=@if_false
def qU:=@List.any_cons
def qV:=@List.find?_cons
def qW:=@List.lookup_cons
def qX:=@wpAny_call_entry
def qY:=@List.getElem?_range
def qZ:=@size_push'
def rb:=@List.take_zero
def rf:=@codeAny_builtin
def rh:=@Int.le_refl
def rj:=@Int.emod_nonneg
def tV:=@beq_eq_false_iff_ne
def tW:=@Nat.lt_irrefl
def tX:=@List.length_replicate
def tY:=@Bool.and_false
def tZ:=@Int.zero_add
def t9:=@wpAny_rule
def ua:=@Around.under_plainId
def ub:=@plainId_quiet
def uc:=@F.called_set
def ud:=@Int.eq_ofNat_of_zero_le
def wD:=@List.mem_append_left
def wF:=@List.getElem?_set_self
def wG:=@wpAny_passesOwn
def wH:=@wpAny_pyIter_list
def wI:=@codeAny_mono
def wJ:=@wpAny_Call_Name_kw
def wK:=@Heap.get?_update_self
def wL:=@List.flatten_cons
def wM:=@List.map_nil
def wN:=@Bool.false_eq_true
def wO:=@Bool.or_eq_true
def wQ:=@wpAny_newObj_type
def wR:=@List.all_map
def wU:=@Txt.slice_le
def wV:=@wpAny_letGo
def wW:=@or_false
def wX:=@Nat.zero_add
def wY:=@F.plain_min_loop
def wZ:=@Nat.lt_succ_iff_lt_or_eq
def w6:=@Int.emod_lt_of_pos
def zO:=@Nat.le_of_lt
def zP:=@List.getElem?_set_ne
def zQ:=@Nat.ne_of_gt
def zR:=@Bool.eq_iff_iff
def zS:=@wpAny_call
def zT:=@List.getElem?_append_right
def zU:=@tupleKind_room_in1
def zV:=@List.any_eq_true
def zW:=@beq_self_eq_true
def zX:=@List.filter_map
def zY:=@isSubtype_type
def zZ:=@wpAny_attempt
def z6:=@wpAny_callSpecial?_slot
def z7:=@Heap.SameBut.update
def z9:=@Obj.data_mapFields
def Aa:=@Nat.mul_le_mul
def Ab:=@wpAny_setField_rec
def Ac:=@Nat.le_add_right
def Ad:=@List.mem_flatMap
def Ae:=@List.mem_of_mem_take
def Af:=@Bool.true_and
def DF:=@PyProof.Rows.callWith_type1
def DG:=@Calls.spliced_cons
def DH:=@PySem.mem_of_lookup
def DI:=@List.getElem?_take_of_lt
def DJ:=@List.take_sublist
def DK:=@List.length_nil
def DL:=@List.length_drop
def DM:=@List.nil_append
def DN:=@Bool.and_true
def DO:=@wpAny_setField
def DP:=@List.length_reverse
def DQ:=@List.take_length
def DR:=@wpAny_tryCatch
def DS:=@Nat.lt_or_ge
def DT:=@Nat.mul_le_mul_right
def DU:=@Prod.ext_iff
def DV:=@PySem.F.plainAttrs_str
def DW:=@StrLaws.found_one
def JK:=@wpAny_execs_nil
def JL:=@wpAny_pyIter_tuple
def JM:=@List.any_eq_false
def JN:=@PySem.W.plainGet_of
def JO:=@List.getElem?_append_left
def JP:=@List.length_set
def JQ:=@wpAny_specialOf
def JR:=@Nat.le_of_not_lt
def JS:=@List.forIn_cons
def JT:=@List.range_succ_eq_map
def JU:=@typeLookup_type
def JV:=@builtinLookup_eq_fast
def JW:=@wpAny_isInstance
def JX:=@List.getElem?_reverse
def JY:=@List.sum_append
def JZ:=@F.slot_zip_next
def J0:=@F.slot_tuple_iterator_next
def J1:=@Heap.get?_update_ne
def J2:=@decide_eq_true_iff
def J3:=@List.flatMap_append
def Ka:=@Nat.div_lt_of_lt_mul
def Kb:=@List.mem_or_eq_of_mem_set
def Kc:=@List.pairwise_iff_getElem
def Kd:=@List.count_eq_zero
def Ke:=@PySem.F.slot_str_join
def Kf:=@PySem.F.type_str_join
def Kg:=@List.count_append
def Kh:=@List.count_cons
def Ki:=@List.map_congr_left
def Kj:=@List.length_flatMap
def Kk:=@List.mem_reverse
def R6:=@List.getElem?_replicate
def R7:=@Calls.callWith_builtin
def R8:=@Calls.evalArgs_plain
def R9:=@PySem.F.slot_dict_get
def Sa:=@Obj.isFreed_of_fields
def Sb:=@wpAny_updateSeq_pair
def Sd:=@AutoSeq1.wpAny_loadPart'
def Se:=@F.slot_list_getattribute
def Sf:=@List.mem_of_mem_drop
def Sh:=@List.eq_of_mem_replicate
def Si:=@List.filter_eq_nil_iff
def Sj:=@Classical.byContradiction
def Sk:=@List.dropLast_concat_getLast
def Sl:=@List.sum_replicate_nat
end
namespace L2
open PySem PySem.Spec PyProof.Rows
variable{vs xs:List V}{its us:List Value}{H:Hp}{C a b dx it:Addr}{o:Obj}{cd u:Value}{P prog:Program}{w:World}{base h:Heap}{g':Array GenState}{i j n t':Nat}{d':Drawn}{ch fp:List Addr}{Al pins:List (Addr×Obj)}{N ns ps:List Str}{x:Str}{M:Model}{A:Around}{E Q:Value->Shared->Prop}{v y:V}{s s':Shared}{X:Cx}{c e iter l tg:Expr}{α κ:Type}{pos:Pos}{O:St}{K:Frag}{body st:List Stmt}{tc:TT}{es:List Expr}{te tl:TE}{g:Int->Int->Int}{tb:TS}{R:Result->Shared->Prop}{lo:Int}{p:Addr×Obj}{pl:Sem Bool}{f:Value->Value->Sem Value}{r r':R2}{rK:CmpOp}{mA mg:Str->Option Value}{expr:Bool}{kw:List (Str×Value)}{outer:List Env}{fd:FuncData}{sc scope:Scope}
abbrev Key:=Sum Int Str
noncomputable def nH:Key->Value->Bool
 |.inl k,v=>Value.isInt k v
 |.inr x,v=>Value.isStrOf x v
noncomputable def Sm(w:World):Key->Int
 |.inl k=>hashInt k
 |.inr x=>hashStr w x
theorem kN:∀{k:Key}{v:Value},nH k v=true->(∃i t,k=Sum.inl i/\v=Value.int i t)\/(∃x t,k=Sum.inr x/\v=Value.str x t)
 |.inl i,v,h=>by
  obtain⟨t,e⟩:=Value.isInt_shape (k:=i) (v:=v) h
  exact .inl ⟨i,t,rfl,e⟩
 |.inr x,v,h=>by
  obtain⟨t,e⟩:=Value.isStrOf_shape (x:=x) (v:=v) h
  exact .inr ⟨x,t,rfl,e⟩
def Sn(i:Int)(t:Tok):nH (.inl i) (.int i t)=true:=by simp[nH,Value.isInt]
def DX(x:Str)(t:Tok):nH (.inr x) (.str x t)=true:=by simp[nH,Value.isStrOf]
def So(a b:Int):decide ((Sum.inl a:Key)=Sum.inl b)=(a==b):=by
 by_cases e:a=b
 .subst e;simp
 .have h:¬(Sum.inl a:Key)=Sum.inl b:=λq=>e (Sum.inl.inj q)
  rw[aN h]
  exact(tV.mpr e).symm
def Sq(a b:Str):decide ((Sum.inr a:Key)=Sum.inr b)=decide (a=b):=by
 by_cases e:a=b
 .subst e;simp
 .have h:¬(Sum.inr a:Key)=Sum.inr b:=λq=>e (Sum.inr.inj q)
  rw[aN h,aN e]
def Sr(a:Int)(b:Str):decide ((Sum.inl a:Key)=Sum.inr b)=false:=aN (λq=>nomatch q)
def Ss(a:Str)(b:Int):decide ((Sum.inr a:Key)=Sum.inl b)=false:=aN (λq=>nomatch q)
noncomputable def dH(prog:Program)(w:World):PySem.KeyKind prog w Key where
 is:=nH
 hash:=Sm w
 inj:=λv a b ha hb=>by
  rcases kN ha with ⟨i,t,rfl,rfl⟩ | ⟨x,t,rfl,rfl⟩
  .rcases kN hb with ⟨j,u,rfl,e⟩ | ⟨y,u,rfl,e⟩
   .injection e with e1 _;rw[e1]
   .exact nomatch e
  .rcases kN hb with ⟨j,u,rfl,e⟩ | ⟨y,u,rfl,e⟩
   .exact nomatch e
   .injection e with e1 _;rw[e1]
 byValue:=λk v h=>by
  rcases kN h with ⟨i,t,rfl,rfl⟩ | ⟨x,t,rfl,rfl⟩ <;> rfl
 pyHash:=λhv h=>by
  rcases kN hv with ⟨i,t,rfl,rfl⟩ | ⟨x,t,rfl,rfl⟩
  .exact wpAny_pyHash_int h
  .exact wpAny_pyHash_str h
 eqBool:=λhu hv h=>by
  rcases kN hu with ⟨i,t,rfl,rfl⟩ | ⟨x,t,rfl,rfl⟩
  .rcases kN hv with ⟨j,u,rfl,rfl⟩ | ⟨y,u,rfl,rfl⟩
   .rw[So] at h;exact wpAny_eqBool_int h
   .rw[Sr] at h;exact SeqAt.EqAt.int_str i t y u _ _ _ _ h
  .rcases kN hv with ⟨j,u,rfl,rfl⟩ | ⟨y,u,rfl,rfl⟩
   .rw[Ss] at h;exact SeqAt.EqAt.str_int x t j u _ _ _ _ h
   .rw[Sq] at h;exact wpAny_eqBool_str h
 «strs»:=λk x t v h=>by
  rcases kN h with ⟨i,u,rfl,e⟩ | ⟨y,u,rfl,e⟩
  .exact nomatch e
  .injection e with e1 _
   subst e1
   cases v <;> rfl
def Su(prog:Program)(w:World)(i:Int)(t:Tok):(dH prog w).is (.inl i) (.int i t)=true:=Sn i t
def Sv(prog:Program)(w:World)(x:Str)(t:Tok):(dH prog w).is (.inr x) (.str x t)=true:=DX x t
inductive V where
 |aB | bl (b:Bool) | int (i:Int) | str (x:Str) | iV (b:Array UInt8) | rk (b:UInt64) | ref (a:Addr) | ty (n:String)
 deriving DecidableEq
def RelV:V->Value->Prop
 |.aB,u=>u=Value.none
 |.bl b,u=>u=Value.bool b
 |.int i,u=>∃t,u=Value.int i t
 |.str x,u=>∃t,u=Value.str x t
 |.iV b,u=>∃t,u=Value.bytes b t
 |.rk b,u=>∃t,u=Value.float b t
 |.ref a,u=>u=Value.ref a
 |.ty n,u=>u=Value.type n
abbrev Vals:List V->List Value->Prop:=Paired RelV
theorem Vals.length(r:Vals xs us):xs.length=us.length:=fJ r
theorem Vals.get:∀{xs:List V}{us:List Value}{i:Nat}{x:V},Vals xs us->xs[i]? = some x->∃u,us[i]? = some u/\RelV x u
 |_,_,_,_,.nil,e=>by simp at e
 |_,_,0,_,.cons r _,e=>by simp at e;subst e;exact⟨_,rfl,r⟩
 |_,_,i+1,x,.cons _ t,e=>by
  obtain⟨u,h1,h2⟩:=Vals.get (i:=i) (x:=x) t (by simpa using e)
  exact⟨u,by simpa using h1,h2⟩
theorem Vals.set{x:V}{u:Value}(r:RelV x u):∀{xs:List V}{us:List Value}(i:Nat),Vals xs us->Vals (xs.set i x) (us.set i u)
 |_,_,_,.nil=>.nil
 |_,_,0,.cons _ t=>.cons r t
 |_,_,i+1,.cons q t=>.cons q (Vals.set r i t)
theorem Vals.append:∀{xs ys:List V}{us ws:List Value},Vals xs us->Vals ys ws->Vals (xs++ys) (us++ws)
 |_,_,_,_,.nil,s=>s
 |_,_,_,_,.cons r t,s=>.cons r (Vals.append t s)
theorem Vals.take:∀{xs:List V}{us:List Value}(n:Nat),Vals xs us->Vals (xs.take n) (us.take n)
 |_,_,0,_=>.nil
 |_,_,_+1,.nil=>.nil
 |_,_,n+1,.cons r t=>.cons r (Vals.take n t)
theorem Vals.drop:∀{xs:List V}{us:List Value}(n:Nat),Vals xs us->Vals (xs.drop n) (us.drop n)
 |_,_,0,r=>r
 |_,_,_+1,.nil=>.nil
 |_,_,n+1,.cons _ t=>Vals.drop n t
def fM:Option V->Option Value->Prop
 |some v,some u=>RelV v u
 |none,none=>True
 |_,_=>False
def KV{κ:Type}:List (κ×V)->List (κ×Value)->Prop:=Paired λ(p:κ×V) (q:κ×Value)=>p.1=q.1/\RelV p.2 q.2
noncomputable def kV:Key->V
 |.inl i=>.int i
 |.inr x=>.str x
inductive HO where
 |lst (xs:List V)
 |tup (xs:List V)
 |dK (kvs:List (Key×V)) | dT (kvs:List (List Key×V))
 |set (S:Int->Bool) (n:Nat)
 |ins (C dx:Addr) (fs:List (Str×V))
 |own (x:Addr)
 |xd (fs:List (Str×V))
 |met (f x:Addr)
 |j2 (lo hi:Int)
 |cB (o:Obj) (u:HO)
 |nI (ps:Array Value)
 |ext (φ:Heap->Prop)
abbrev Hp:=Addr->Option HO
noncomputable def upd(H:Hp)(a:Addr)(o:HO):Hp:=λb=>if b=a then some o else H b
def ao{o:HO}:upd H a o a=some o:=by unfold upd;rw[aA rfl]
def ak{o:HO}(h:b≠a):upd H a o b=H b:=by unfold upd;rw[ax h]
def Kl{o u:HO}:upd (upd H a o) a u=upd H a u:=by
 funext b;unfold upd;split <;> rfl
def cx{o u:HO}(h:H a=some o)(h':H b=some u)(d:o≠u):a≠b:=by
 intro e;subst e;rw[h] at h';exact d (cQ h')
def bq{o:HO}(h:H a=some o)(h':H b=none):a≠b:=by
 intro e;subst e;rw[h] at h';cases h'
section
variable(P:Program)(w:World)
def c5(H:Hp)(h:Heap)(a:Addr):HO->Prop
 |.lst xs=>xs.length<=sizeLine/\∃(its:List Value) (n:Nat),Vals xs its/\h.get? a=some { cls := .type "list",data := .seq its.toArray n }
 |.tup xs=>xs.length<=sizeLine/\∃its:List Value,Vals xs its/\IsTup h a its.toArray
 |.dK kvs=>kvs.length<=sizeLine/\(a==sysModules)=false/\∃vs,KV kvs vs/\h.DictOf (dH P w) a vs
 |.dT kvs=>kvs.length<=sizeLine/\(a==sysModules)=false/\∃xs:List (List Key×Addr×Value),
   Paired (λ(p:List Key×V) (q:List Key×Addr×Value)=>p.1=q.1/\H q.2.1=some (.tup (p.1.map kV))/\RelV p.2 q.2.2) kvs xs/\
   ∃o es ep,h.get? a=some o/\o.ExactDict/\o.data = .dict es ep/\es.toList=xs.map (entryOfKey (tupleKind (dH P w)))/\(xs.map (·.1)).Nodup
 |.set S n=>h.SetOf (intKind P w) a S n
 |.ins C dx fs=>H dx=some (.own a)/\fs.length<=1000/\dx≠a/\h.get? a=some (instObj C dx)/\
   ∃mA,h.Ns1 dx mA/\(∀f,fM (fs.lookup f) (mA f))/\PySem.Within mA (fs.map (·.1))
 |.own _=>∃o,h.get? a=some o
 |.xd fs=>∃mA,h.Ns1 a mA/\∀f,fM (fs.lookup f) (mA f)
 |.j2 lo hi=>∃t u v,h.get? a=some { cls := .type "range",data := .fields #[.int lo t,.int hi u,.int 1 v] }
 |.cB o u=>h.get? a=some o/\c5 H h a u
 |.nI ps=>h.get? a=some { cls := .none,data := .fields ps }
 |.met f x=>h.get? a=some (methodObj (.ref f) (.ref x))
 |.ext φ=>φ h/\(∃o,h.get? a=some o)/\∀h1 h2:Heap,φ h1->(∀o,h1.get? a=some o->h2.get? a=some o)->φ h2
def dg(H:Hp)(h:Heap):Prop := ∀a o,H a=some o->c5 P w H h a o
end
section
variable{P:Program}{w:World}{H H':Hp}{h h':Heap}{a:Addr}{o:HO}
theorem c5.lt(x:c5 P w H h a o):a<h.objs.size:=by
 cases o with
 |lst xs=>obtain⟨_,_,_,_,e⟩:=x;exact bS e
 |tup xs=>obtain⟨_,_,_,p⟩:=x;exact p.lt
 |dK kvs=>obtain⟨_,_,_,_,o,_,_,e,_⟩:=x;exact bS e
 |dT kvs=>obtain⟨_,_,_,_,o,_,_,e,_⟩:=x;exact bS e
 |set S n=>obtain⟨o,_,_,_,e,_⟩:=x;exact bS e
 |ins C dx fs=>obtain⟨_,_,_,e,_⟩:=x;exact bS e
 |own y=>obtain⟨_,e⟩:=x;exact bS e
 |xd fs=>obtain⟨_,⟨_,_,_,e,_⟩,_⟩:=x;exact bS e
 |j2 lo hi=>obtain⟨_,_,_,e⟩:=x;exact bS e
 |cB ob u=>obtain⟨e,_⟩:=x;exact bS e
 |nI ps=>exact bS (show h.get? a=some _ from x)
 |met f y=>exact bS (show h.get? a=some _ from x)
 |ext φ=>obtain⟨_,⟨_,e⟩,_⟩:=x;exact bS e
theorem Paired.bU{α β:Type}{F G:α->β->Prop}:∀{l₁:List α}{l₂:List β},Paired F l₁ l₂->(∀a b,F a b->G a b)->Paired G l₁ l₂
 |_,_,.nil,_=>.nil
 |_,_,.cons r t,f=>.cons (f _ _ r) (Paired.bU t f)
def c5.kO(x:c5 P w H h a o)(k:∀b u,(b=a\/H b=some (.own a))->h.get? b=some u->h'.get? b=some u)
  (ho:∀b,H b=some (.own a)->H' b=some (.own a)) (ht:∀b xs,H b=some (.tup xs)->H' b=some (.tup xs)):c5 P w H' h' a o:=by
 induction o with
 |lst xs=>obtain⟨z,its,n,r,e⟩:=x;exact⟨z,its,n,r,k _ _ (.inl rfl) e⟩
 |tup xs=>obtain⟨z,its,r,ob,e,c⟩:=x;exact⟨z,its,r,ob,k _ _ (.inl rfl) e,c⟩
 |dK kvs=>obtain⟨z,y,vs,r,ob,es,ep,e,c⟩:=x;exact⟨z,y,vs,r,ob,es,ep,k _ _ (.inl rfl) e,c⟩
 |dT kvs=>
  obtain⟨z,y,xs,r,ob,es,ep,e,c⟩:=x
  exact⟨z,y,xs,Paired.bU r λp q z=>⟨z.1,ht _ _ z.2.1,z.2.2⟩,ob,es,ep,k _ _ (.inl rfl) e,c⟩
 |set S n=>obtain⟨ob,es,ep,t,e,c⟩:=x;exact⟨ob,es,ep,t,k _ _ (.inl rfl) e,c⟩
 |ins C dx fs=>
  obtain⟨d,z,ne,e,mA,⟨od,es,ep,e2,c⟩,r⟩:=x
  exact⟨ho _ d,z,ne,k _ _ (.inl rfl) e,mA,⟨od,es,ep,k _ _ (.inr d) e2,c⟩,r⟩
 |own y=>obtain⟨ob,e⟩:=x;exact⟨ob,k _ _ (.inl rfl) e⟩
 |xd fs=>obtain⟨mA,⟨od,es,ep,e,c⟩,r⟩:=x;exact⟨mA,⟨od,es,ep,k _ _ (.inl rfl) e,c⟩,r⟩
 |j2 lo hi=>obtain⟨t,u,v,e⟩:=x;exact⟨t,u,v,k _ _ (.inl rfl) e⟩
 |cB ob u ih=>obtain⟨e,q⟩:=x;exact⟨k _ _ (.inl rfl) e,ih q⟩
 |nI ps=>
  have e:h.get? a=some { cls := .none,data := .fields ps }:=x
  show h'.get? a=some { cls := .none,data := .fields ps }
  exact k a _ (.inl rfl) e
 |met f y=>
  have e:h.get? a=some (methodObj (.ref f) (.ref y)):=x
  show h'.get? a=some (methodObj (.ref f) (.ref y))
  exact k a _ (.inl rfl) e
 |ext φ=>obtain⟨p,⟨o,e⟩,st⟩:=x;exact⟨st _ _ p λo q=>k _ _ (.inl rfl) q,⟨o,k _ _ (.inl rfl) e⟩,st⟩
theorem dg.lt(x:dg P w H h)(e:H a=some o):a<h.objs.size:=(x a o e).lt
def dg.fresh(x:dg P w H h)(e:h.objs.size<=a):H a=none:=by
 cases q:H a with
 |none=>rfl
 |some u=>exact absurd (gK (x.lt q) e) (tW _)
def dg.kept(x:dg P w H h)(k:∀b u,h.get? b=some u->h'.get? b=some u):dg P w H h':=λa o e=>
 (x a o e).kO (λb u _ q=>k b u q) (λ_ q=>q) λ_ _ q=>q
def dg.laid(x:dg P w H h)(k:∀b u,h.get? b=some u->h'.get? b=some u)(hp:h.objs.size<=a)(new:c5 P w (upd H a o) h' a o):dg P w (upd H a o) h':=λb u e=>by
 have hn:=x.fresh hp
 by_cases hb:b=a
 .subst hb;rw[ao] at e;cases e;exact new
 .rw[ak hb] at e
  exact(x b u e).kO (λc v _ q=>k c v q) (λc q=>by rw[ak (bq q hn)];exact q) λc xs q=>by rw[ak (bq q hn)];exact q
end
def Rd(H:Hp)(a:Addr)(u:HO):Prop:=H a=some u\/∃o,H a=some (.cB o u)
def Rd.ok{u:HO}(r:Rd H a u)(x:dg P w H h):c5 P w H h a u:=by
 rcases r with r | ⟨o,r⟩
 .exact x a u r
 .obtain⟨_,q⟩:=x a _ r
  exact q
def w8:Option HO->Prop
 |some (.lst _)=>True
 |some (.dK _)=>True
 |some (.dT _)=>True
 |some (.set _ _)=>True
 |some (.ins _ _ _)=>True
 |some (.ext _)=>True
 |_=>False
section
variable{P:Program}{w:World}{H:Hp}{h h':Heap}{x e:Addr}{o':HO}
def dg.write(ok:dg P w H h)(mu:w8 (H x))(he:e=x\/H e=some (.own x))(k:∀b u,b≠e->h.get? b=some u->h'.get? b=some u)(ue:∃u,h'.get? e=some u)
  (new:c5 P w (upd H x o') h' x o'):dg P w (upd H x o') h':=λb u q=>by
 have Km:∀c y,H c=some (.own y)->c≠x:=λc y r z=>by subst z;rw[r] at mu;exact mu
 have Sw:∀c xs,H c=some (.tup xs)->c≠x:=λc xs r z=>by subst z;rw[r] at mu;exact mu
 by_cases hb:b=x
 .subst hb;rw[ao] at q;cases q;exact new
 .rw[ak hb] at q
  by_cases rl:b=e
  .have q':H b=some (.own x):=by
    rcases he with z | z
    .exact absurd (rl.trans z) hb
    .rw[rl];exact z
   rw[q] at q';cases q'
   obtain⟨v,hv⟩:=ue
   exact⟨v,by rw[rl];exact hv⟩
  .refine(ok b u q).kO (λc v hc r=>k c v ?_ r) (λc r=>by rw[ak (Km c b r)];exact r) λc xs r=>by rw[ak (Sw c xs r)];exact r
   rcases hc with rfl | hc
   .exact rl
   .rintro rfl
    rcases he with z | z
    .exact Km c b hc z
    .rw[hc] at z;cases z;exact hb rfl
end
structure Un(fs ex:List Addr)(H H':Hp)(h h':Heap):Prop where
 keep:∀b o,h.get? b=some o->H b=none->b∉fs->b∉ex->h'.get? b=some o
 slot:∀b o,h.get? b=some o->H b=none->b∈fs->b∉ex->∃sl,h'.get? b=some { o with slots:=sl }
 free:∀b o,h.get? b=some o->H b=none->b∉ex->H' b=none
 there:∀b o,h.get? b=some o->b∉ex->∃o',h'.get? b=some o'
 gj:∀b xs,H b=some (.tup xs)->H' b=some (.tup xs)
 j3:∀b o u,H b=some (.cB o u)->H' b=some (.cB o u)
 kP:∀b ps,H b=some (.nI ps)->∃more,H' b=some (.nI (ps++more))
section
variable{fs xb ex ex':List Addr}{H H1 H2:Hp}{h h1 h2 h':Heap}{a x e:Addr}{o:HO}
def Un.any(u:Un fs ex H H1 h h1){ob:Obj}(q:h.get? b=some ob)(n:H b=none)(hx:b∉ex):∃sl,h1.get? b=some { ob with slots:=sl }:=by
 by_cases hb:b∈fs
 .exact u.slot b ob q n hb hx
 .exact⟨ob.slots,u.keep b ob q n hb hx⟩
def Un.kept(k:∀b u,h.get? b=some u->h'.get? b=some u):Un fs ex H H h h':=
 ⟨λb ob q _ _ _=>k b ob q,λb ob q _ _ _=>⟨ob.slots,k b ob q⟩,λ_ _ _ n _=>n,λb ob q _=>⟨ob,k b ob q⟩,λ_ _ q=>q,λ_ _ _ q=>q,λ_ ps q=>⟨#[],by rw[q];simp⟩⟩
def Un.refl:Un fs ex H H h h:=Un.kept λ_ _ q=>q
def Un.laid(k:∀b u,h.get? b=some u->h'.get? b=some u)(hp:h.objs.size<=a)(hn:H a=none):Un fs ex H (upd H a o) h h' where
 keep:=λb u q _ _ _=>k b u q
 slot:=λb u q _ _ _=>⟨u.slots,k b u q⟩
 free:=λb u q n _=>by rw[ak (bZ (gK (bS q) hp))];exact n
 there:=λb u q _=>⟨u,k b u q⟩
 gj:=λb xs q=>by rw[ak (bq q hn)];exact q
 j3:=λb u xs q=>by rw[ak (bq q hn)];exact q
 kP:=λb ps q=>⟨#[],by rw[ak (bq q hn),q];simp⟩
def Un.write(mu:w8 (H x))(he:e=x\/H e=some (.own x))(k:∀b u,b≠e->h.get? b=some u->h'.get? b=some u)(ue:∃u,h'.get? e=some u):Un fs ex H (upd H x o) h h':=by
 have hx:∀b,H b=none->b≠x:=λb n z=>by subst z;rw[n] at mu;exact mu
 have hb:∀b,H b=none->b≠e:=λb n z=>by
  subst z
  rcases he with r | r
  .exact hx b n r
  .rw[n] at r;cases r
 have hm:∀b u,H b=some u->¬w8 (some u)->b≠x:=λb u q nm z=>by subst z;rw[q] at mu;exact nm mu
 refine⟨λb u q n _ _=>k b u (hb b n) q,λb u q n _ _=>⟨u.slots,k b u (hb b n) q⟩,λb u q n _=>by rw[ak (hx b n)];exact n,λb u q _=>?_,
  λb xs q=>by rw[ak (hm b _ q λz=>z)];exact q,λb u xs q=>by rw[ak (hm b _ q λz=>z)];exact q,λb ps q=>⟨#[],by rw[ak (hm b _ q λz=>z),q];simp⟩⟩
 by_cases rl:b=e
 .subst rl;exact ue
 .exact⟨u,k b u rl q⟩
end
noncomputable def Ag(h:Heap)(H:Hp):List Addr:=(List.range h.objs.size).filter λa=>(H a).isSome
noncomputable def nJ(h:Heap)(H:Hp):Heap:=PySem.W.hideAll h (Ag h H)
def Sx(h:Heap)(H:Hp):(nJ h H).objs.size=h.objs.size:=PySem.W.hideAll_size _ _
def Sz(e:h.get? b=some o)(n:H b=none):(nJ h H).get? b=some o:=
 PySem.W.hideAll_get _ e λhm=>by
  have q:(H b).isSome=true:=(cy.mp hm).2
  rw[n] at q;simp at q
def SA(e:(nJ h H).get? b=some o):h.get? b=some o/\H b=none:=by
 have e':h.get? b=some o:=PySem.W.of_hideAll (Ag h H) e
 refine⟨e',?_⟩
 cases q:H b with
 |none=>rfl
 |some x=>
  have hm:b∈Ag h H:=cy.mpr ⟨ip.mpr (bS e'),by simp[q]⟩
  have z:(nJ h H).get? b=none:=PySem.W.hideAll_none (Ag h H) hm
  rw[z] at e;cases e
structure Mod(K:Frag)(mg:Str->Option Value)(base:Heap):Prop where
 rm:K.In base
 glob:base.Ns mainGlobals mg
 blt:∃mb,base.Ns builtinsNs mb/\∀x:Str,x≠"__name__"->mb x=bootBuiltins x
 nolimit:base.NoLimit
structure Cx where
 prog:Program
 w:World
 K:Frag
 mg:Str->Option Value
 base:Heap
 A:Around
 N:List Str
 s₀:Shared
 H₀:Hp
 env:Env
 outer:List Env
 stack:List Env
 ex:List Addr
 fn:Str->Bool
 calm:Bool
 pn:List (Addr×Obj)
 xe:Value->Shared->Prop
noncomputable def j4(l:List Env):List Addr:=l.filterMap (·.frame)
noncomputable abbrev Cx.fs(X:Cx):List Addr:=j4 X.outer
def DY(sc:Scope)(x:Str):Prop:=sc.names.lookup x=some .local\/sc.names.lookup x=some .cell\/sc.names.lookup x=some .free
def Loc(sc:Scope)(x:Str):Prop:=sc.names.lookup x=some .local\/sc.names.lookup x=some .cell
def Look(env:Env)(h:Heap)(m:Str->Option Value)(x:Str)(u:Value):Prop:=
 (env.kindOf x=some .local/\m x=some u)\/((env.kindOf x=some .cell\/env.kindOf x=some .free)/\∃c,env.cells.lookup x=some c/\h.IsCell c (some u))
structure Cx.Ok(X:Cx):Prop where
 mod:Mod X.K X.mg X.base
 kind:X.env.scope.kind = .function
 glob:X.env.globals=mainGlobals
 blt:X.env.builtins=builtinsNs
 above:X.s₀.heap.objs.size<=X.env.locals
 inj:∀x y c,X.env.cells.lookup x=some c->X.env.cells.lookup y=some c->x=y
 has:∀x,(X.env.kindOf x=some .cell\/X.env.kindOf x=some .free)->∃c,X.env.cells.lookup x=some c
 xc:∀x c,X.fn x=true->X.env.cells.lookup x=some c->X.s₀.heap.objs.size<=c
 hd:X.calm=true->X.A.handled=none
 frames:X.A.frames=some X.stack
 Ah:X.stack=X.outer\/(X.stack=X.env::X.outer/\X.env.frame=some X.env.locals)
 Kn:∀b∈X.ex,b≠X.env.locals/\∀x c,X.env.cells.lookup x=some c->c≠b
 bs:∀b o,X.base.get? b=some o->X.s₀.heap.get? b=some o/\X.H₀ b=none
 nK:X.base.objs.size<=X.s₀.heap.objs.size
 rn:∀b o,X.base.get? b=some o->b∉X.ex
 Ai:∀b∈X.ex,b∉X.fs
 jz:X.s₀.heap.FunFrames X.base X.outer
 pe:∀b∈X.fs,X.H₀ b=none
structure Inv(X:Cx)(pins:List (Addr×Obj))(O:List (Option V))(H:Hp)(s:Shared):Prop where
 ok:X.Ok
 os:s.os=X.s₀.os
 bare:AllBare s.gens
 base:Un X.fs X.ex X.H₀ H X.s₀.heap s.heap
 loc:∃m,s.heap.Ns X.env.locals m/\∀(i:Nat) (x:Str) (v:V),X.N[i]? = some x->O[i]? = some (some v)->DY X.env.scope x->∃u,RelV v u/\Look X.env s.heap m x u
 cell:∀x c,X.env.cells.lookup x=some c->∃v,s.heap.IsCell c v
 free:H X.env.locals=none
 fN:∀x c,X.env.cells.lookup x=some c->H c=none
 pin:∀p∈X.pn++pins,s.heap.get? p.1=some p.2/\H p.1=none/\p.1≠X.env.locals/\p.1∉X.fs/\∀v,p.2.data ≠ .cell v
 aD:dg X.prog X.w H s.heap
 len:O.length=X.N.length
section
variable{X:Cx}{pins:List (Addr×Obj)}{O:List (Option V)}{H H':Hp}{s:Shared}{h':Heap}
def Cx.Ok.SD(ok:X.Ok)(e:X.base.get? b=some o):b∉X.fs:=λhb=>by
 have:=(ok.jz.mem hb).1
 rw[e] at this;cases this
theorem Inv.bs(I:Inv X pins O H s):∀b o,X.base.get? b=some o->s.heap.get? b=some o/\H b=none:=λb o e=>
 ⟨I.base.keep b o (I.ok.bs b o e).1 (I.ok.bs b o e).2 (I.ok.SD e) (I.ok.rn b o e),I.base.free b o (I.ok.bs b o e).1 (I.ok.bs b o e).2 (I.ok.rn b o e)⟩
def Inv.bk(I:Inv X pins O H s):∀b o,X.base.get? b=some o->s.heap.get? b=some o:=λb o e=>(I.bs b o e).1
theorem Inv.mod(I:Inv X pins O H s):Mod X.K X.mg X.base:=I.ok.mod
def Inv.c6(I:Inv X pins O H s):X.K.In s.heap:=I.ok.mod.rm.keeps I.bk
theorem Inv.lt(I:Inv X pins O H s):X.env.locals<s.heap.objs.size:=let ⟨_,hn,_⟩:=I.loc;hn.lt
def Inv.sz(I:Inv X pins O H s):X.s₀.heap.objs.size<=s.heap.objs.size:=bQ I.ok.above (zO I.lt)
def Inv.SE(I:Inv X pins O H s)(h:s.heap.objs.size<=a):a∉X.fs:=λhb=>by
 obtain⟨_,o,ho,_⟩:=I.ok.jz.mem hb
 exact absurd (gK (bS ho) (bQ I.sz h)) (tW _)
def Inv.rp(I:Inv X pins O H s):∀x c,X.env.cells.lookup x=some c->c≠X.env.locals:=λx c e z=>by
 obtain⟨v,o,ho,hd⟩:=I.cell x c e
 obtain⟨m,⟨o',es,ep,kQ,xf,_⟩,_⟩:=I.loc
 rw[z,kQ] at ho;cases ho;rw[xf] at hd;cases hd
theorem Inv.jz(I:Inv X pins O H s):s.heap.FunFrames X.base X.outer:=by
 have all:∀(l:List Env),(∀b∈j4 l,b∈X.fs)->X.s₀.heap.FunFrames X.base l->s.heap.FunFrames X.base l:=by
  intro l
  induction l with
  |nil=>intro _ _;trivial
  |cons env r ih=>
   intro hs hl
   obtain⟨hk,⟨L,o,hf,hn,ho,hd⟩,hr⟩:=hl
   have hL:L∈X.fs:=hs L (by unfold j4;rw[List.filterMap_cons,hf];exact bt)
   obtain⟨sl,e⟩:=I.base.slot L o ho (I.ok.pe L hL) hL λz=>I.ok.Ai L z hL
   exact⟨hk,⟨L,_,hf,hn,e,hd⟩,ih (λb hb=>hs b (by unfold j4;rw[List.filterMap_cons,hf];exact bX _ hb)) hr⟩
 exact all X.outer (λ_ hb=>hb) I.ok.jz
theorem Inv.stack(I:Inv X pins O H s):s.heap.FunFrames X.base X.stack:=by
 rcases I.ok.Ah with e | ⟨e,hf⟩
 .rw[e];exact I.jz
 .rw[e]
  obtain⟨m,hn,_⟩:=I.loc
  refine .cons (by rw[I.ok.kind];decide) hf hn ?_ I.jz
  exact Heap.get?_none_of_le (bQ I.ok.nK I.ok.above)
def Inv.xg(I:Inv X pins O H s):∀b∈j4 X.stack,b∈X.env.locals::X.fs:=λb hb=>by
 rcases I.ok.Ah with e | ⟨e,hf⟩
 .rw[e] at hb;exact bX _ hb
 .rw[e] at hb
  unfold j4 at hb
  rw[List.filterMap_cons,hf] at hb
  exact hb
def Inv.Ko(I:Inv X pins O H s):∀b∈j4 X.stack,H b=none:=λb hb=>by
 rcases cf.mp (I.xg b hb) with e | hb
 .rw[e];exact I.free
 .obtain⟨_,o,ho,_⟩:=I.ok.jz.mem hb
  exact I.base.free b o ho (I.ok.pe b hb) λz=>I.ok.Ai b z hb
def Inv.step(I:Inv X pins O H s)
  (hch:∀b∈ch,(b∈X.ex\/X.s₀.heap.objs.size<=b)/\b≠X.env.locals/\(∀x c,X.env.cells.lookup x=some c->c≠b)/\∀p∈X.pn++pins,p.1≠b)
  (keep:∀b o,b≠X.env.locals->b∉X.fs->b∉ch->s.heap.get? b=some o->H b=none->h'.get? b=some o)
  (slot:∀b o,b≠X.env.locals->b∈X.fs->b∉ch->s.heap.get? b=some o->H b=none->∃sl,h'.get? b=some { o with slots:=sl }) (free:∀b o,b∉ch->s.heap.get? b=some o->H b=none->H' b=none)
  (there:∀b o,b∉ch->s.heap.get? b=some o->∃o',h'.get? b=some o')
  (gj:∀b xs,H b=some (.tup xs)->H' b=some (.tup xs)) (j3:∀b o u,H b=some (.cB o u)->H' b=some (.cB o u)) (kP:∀b ps,H b=some (.nI ps)->∃more,H' b=some (.nI (ps++more)))
  (ns:∀m,s.heap.Ns X.env.locals m->h'.Ns X.env.locals m) (aD:dg X.prog X.w H' h') (hg:AllBare g') :
  Inv X pins O H' { s with heap:=h',gens:=g',drawn:=d',toks:=t' }:=by
 have Kq:∀b o,X.s₀.heap.get? b=some o->b≠X.env.locals:=λb o e=>bZ (gK (bS e) I.ok.above)
 have Aj:∀b o,X.s₀.heap.get? b=some o->b∉X.ex->b∉ch:=λb o e hx hb=>by
  rcases(hch b hb).1 with z | z
  .exact hx z
  .exact absurd (gK (bS e) z) (tW _)
 have cellK:∀x c,X.env.cells.lookup x=some c->∀v,s.heap.IsCell c v->h'.IsCell c v:=λx c e v ⟨o,ho,hd⟩=>by
  have xh:c∉ch:=λz=>(hch c z).2.2.1 x c e rfl
  by_cases hc:c∈X.fs
  .obtain⟨sl,q⟩:=slot c o (I.rp x c e) hc xh ho (I.fN x c e)
   exact⟨_,q,hd⟩
  .exact⟨o,keep c o (I.rp x c e) hc xh ho (I.fN x c e),hd⟩
 refine⟨I.ok,I.os,hg,⟨λb o e n hb hx=>?_,λb o e n hb hx=>?_,λb o e n hx=>?_,λb o e hx=>?_,λb xs e=>gj b xs (I.base.gj b xs e),λb o xs e=>j3 b o xs (I.base.j3 b o xs e),λb ps e=>?_⟩,?_,λx c e=>?_,?_,λx c e=>?_,λp hp=>?_,aD,I.len⟩
 .exact keep b o (Kq b o e) hb (Aj b o e hx) (I.base.keep b o e n hb hx) (I.base.free b o e n hx)
 .obtain⟨sl,e1⟩:=I.base.slot b o e n hb hx
  obtain⟨rq,e2⟩:=slot b _ (Kq b o e) hb (Aj b o e hx) e1 (I.base.free b o e n hx)
  exact⟨rq,e2⟩
 .obtain⟨o',e1⟩:=I.base.there b o e hx
  exact free b o' (Aj b o e hx) e1 (I.base.free b o e n hx)
 .obtain⟨o',e1⟩:=I.base.there b o e hx
  exact there b o' (Aj b o e hx) e1
 .obtain⟨m1,e1⟩:=I.base.kP b ps e
  obtain⟨m2,e2⟩:=kP b _ e1
  exact⟨m1++m2,by rw[e2,Array.append_assoc]⟩
 .obtain⟨m,hn,hl⟩:=I.loc
  refine⟨m,ns m hn,λi x v e1 e2 e3=>?_⟩
  obtain⟨u,r,l⟩:=hl i x v e1 e2 e3
  refine⟨u,r,?_⟩
  rcases l with l | ⟨k,c,e,z⟩
  .exact .inl l
  .exact .inr ⟨k,c,e,cellK x c e _ z⟩
 .obtain⟨v,z⟩:=I.cell x c e
  exact⟨v,cellK x c e v z⟩
 .obtain⟨m,⟨o,_,_,ho,_⟩,_⟩:=I.loc
  exact free _ o (λz=>(hch _ z).2.1 rfl) ho I.free
 .obtain⟨v,o,ho,hd⟩:=I.cell x c e
  exact free c o (λz=>(hch c z).2.2.1 x c e rfl) ho (I.fN x c e)
 .obtain⟨e,n,ne,nf,d⟩:=I.pin p hp
  have xh:p.1∉ch:=λz=>(hch p.1 z).2.2.2 p hp rfl
  exact⟨keep p.1 p.2 ne nf xh e n,free p.1 p.2 xh e n,ne,nf,d⟩
def Inv.un(I:Inv X pins O H s)(u:Un X.fs [] H H' s.heap h')(aD:dg X.prog X.w H' h'):Inv X pins O H' { s with heap:=h',toks:=t' }:=by
 obtain⟨m,⟨o,es,ep,ho,r⟩,_⟩:=id I.loc
 obtain⟨sl,hL⟩:=u.any ho I.free (by simp)
 exact I.step (g':=s.gens) (d':=s.drawn) (ch:=[]) (λ_ z=>nomatch z) (λb o _ hb _ e n=>u.keep b o e n hb (by simp)) (λb o _ hb _ e n=>u.slot b o e n hb (by simp)) (λb o _ e n=>u.free b o e n (by simp)) (λb o _ e=>u.there b o e (by simp)) u.gj u.j3 u.kP (λm' hm=>by
  obtain⟨o',DZ,D0,kQ,r'⟩:=hm
  rw[ho] at kQ;cases kQ
  exact⟨_,DZ,D0,hL,r'⟩) aD I.bare
def Inv.call(I:Inv X pins O H s)(u:Un (j4 X.stack) ch H H' s.heap h')(aD:dg X.prog X.w H' h')(hg:AllBare g')
  (hch:∀b∈ch,(b∈X.ex\/X.s₀.heap.objs.size<=b)/\b≠X.env.locals/\(∀x c,X.env.cells.lookup x=some c->c≠b)/\∀p∈X.pn++pins,p.1≠b) :
  Inv X pins O H' { s with heap:=h',gens:=g',drawn:=d',toks:=t' }:=by
 obtain⟨m,⟨o,es,ep,ho,r⟩,_⟩:=id I.loc
 obtain⟨sl,hL⟩:=u.any ho I.free λz=>(hch _ z).2.1 rfl
 exact I.step (ch:=ch) hch (λb o hL hb hc e n=>u.keep b o e n (λz=>(cf.mp (I.xg b z)).elim hL hb) hc) (λb o _ _ hc e n=>u.any e n hc) (λb o hc e n=>u.free b o e n hc) (λb o hc e=>u.there b o e hc) u.gj u.j3 u.kP (λm' hm=>by
  obtain⟨o',DZ,D0,kQ,r'⟩:=hm
  rw[ho] at kQ;cases kQ
  exact⟨_,DZ,D0,hL,r'⟩) aD hg
def Inv.turned(I:Inv X pins O H s)(k:∀b o,b≠it->s.heap.get? b=some o->h'.get? b=some o)(hn:H it=none)(hL:it≠X.env.locals)
  (h1:it∈X.ex\/X.s₀.heap.objs.size<=it) (h2:∀x c,X.env.cells.lookup x=some c->c≠it) (h3:∀p∈X.pn++pins,p.1≠it):Inv X pins O H { s with heap:=h',toks:=t' }:=by
 have Kr:∀b u,H b=some u->b≠it:=λb u e z=>by rw[z,hn] at e;cases e
 refine I.step (g':=s.gens) (d':=s.drawn) (ch:=[it]) (λb hb=>?_) (λb o _ _ hc e _=>k b o (λz=>hc (by simp[z])) e) (λb o _ _ hc e _=>⟨o.slots,k b o (λz=>hc (by simp[z])) e⟩) (λ_ _ _ _ n=>n)
  (λb o hc e=>⟨o,k b o (λz=>hc (by simp[z])) e⟩) (λ_ _ e=>e) (λ_ _ _ e=>e) (λb ps e=>⟨#[],by rw[e];simp⟩) (λm hm=>?_) (λb u e=>?_) I.bare
 .have e:b=it:=by simpa using hb
  subst e
  exact⟨h1,hL,h2,h3⟩
 .obtain⟨o,es,ep,ho,r⟩:=hm
  exact⟨o,es,ep,k _ o (br hL) ho,r⟩
 .refine(I.aD b u e).kO (λc v hc q=>k c v ?_ q) (λ_ q=>q) λ_ _ q=>q
  rcases hc with z | z
  .rw[z];exact Kr b u e
  .exact Kr c _ z
def Inv.tok(I:Inv X pins O H s)(t:Nat):Inv X pins O H { s with toks:=t }:=I.un (h':=s.heap) (t':=t) Un.refl I.aD
theorem Inv.kept{t':Nat}(I:Inv X pins O H s)(k:∀b u,s.heap.get? b=some u->h'.get? b=some u):Inv X pins O H { s with heap:=h',toks:=t' }:=I.un (Un.kept k) (I.aD.kept k)
theorem Inv.laid{a:Addr}{o:HO}{t':Nat}(I:Inv X pins O H s)(k:∀b u,s.heap.get? b=some u->h'.get? b=some u)(hp:s.heap.objs.size<=a)(new:c5 X.prog X.w (upd H a o) h' a o) :
  Inv X pins O (upd H a o) { s with heap:=h',toks:=t' }:=I.un (Un.laid k hp (I.aD.fresh hp)) (I.aD.laid k hp new)
theorem Inv.write{x e:Addr}{o:HO}{t':Nat}(I:Inv X pins O H s)(mu:w8 (H x))(he:e=x\/H e=some (.own x))(k:∀b u,b≠e->s.heap.get? b=some u->h'.get? b=some u)(ue:∃u,h'.get? e=some u)
  (new:c5 X.prog X.w (upd H x o) h' x o):Inv X pins O (upd H x o) { s with heap:=h',toks:=t' }:=I.un (Un.write mu he k ue) (I.aD.write mu he k ue new)
def Inv.Ak(I:Inv X pins O H s)(h:∀p∈Al,s.heap.get? p.1=some p.2/\H p.1=none/\p.1≠X.env.locals/\p.1∉X.fs/\∀v,p.2.data ≠ .cell v):Inv X Al O H s:=
 ⟨I.ok,I.os,I.bare,I.base,I.loc,I.cell,I.free,I.fN,λp hp=>(cV.mp hp).elim (λz=>I.pin p (wD _ z)) (h p),I.aD,I.len⟩
def Ks(hN:N.Nodup)(a:N[i]? = some x)(b:N[j]? = some x):i=j:=by
 obtain⟨h1,e1⟩:=cg.mp a
 obtain⟨h2,e2⟩:=cg.mp b
 exact(List.getElem_inj hN).mp (e1.trans e2.symm)
def SF{Q:Unit->Shared->Prop}(I:Inv X pins O H s)(hN:X.N.Nodup)(hi:X.N[i]? = some x)(hx:Loc X.env.scope x)(r:RelV v u)
  (h:∀s',Inv X pins (O.set i (some v)) H s'->(∃a,Heap.SameBut a s.heap s'.heap/\(a=X.env.locals\/X.env.cells.lookup x=some a))->Q () s') (hf:X.fn x=true\/X.env.scope.names.lookup x=some .local:=by first | exact .inl rfl | exact .inr rfl | assumption):wpAny M A (storeName X.env x u) Q E s:=by
 obtain⟨m,hn,hl⟩:=id I.loc
 have SG:(X.env.scope.kind == .class||(X.env.scope.kind == .module&&X.env.locals != X.env.globals))=false:=by rw[I.ok.kind];rfl
 have Ku:i<O.length:=by rw[I.len];exact(cg.mp hi).1
 have rp:=I.rp
 have tracked:∀{a:Addr}{h':Heap},(∃o,s.heap.get? a=some o/\H a=none)->Heap.SameBut a s.heap h'->dg X.prog X.w H h':=λ{a h'} ha hs b ob e=>by
  obtain⟨_,_,Kv⟩:=ha
  refine(I.aD b ob e).kO (λc w' hc q=>(hs.2 c ?_).trans q) (λ_ q=>q) λ_ _ q=>q
  rintro rfl
  rcases hc with rfl | hc
  .rw[Kv] at e;cases e
  .rw[Kv] at hc;cases hc
 rcases hx with hk | hk
 .refine wpAny_storeName_local hk hn (λh' SH hs=>?_) SG
  obtain⟨oL,_,_,xi,_⟩:=id hn
  refine h _ ⟨I.ok,I.os,I.bare,⟨λb o e n hb hx=>?_,λb o e n hb hx=>?_,I.base.free,λb o e hx=>?_,I.base.gj,I.base.j3,I.base.kP⟩,⟨_,SH,λj y v' e1 e2 e3=>?_⟩,λy c e=>?_,I.free,I.fN,λp hp=>?_,tracked ⟨oL,xi,I.free⟩ hs,by simpa using I.len⟩ ⟨_,hs,.inl rfl⟩
  .exact(hs.2 b (bZ (gK (bS e) I.ok.above))).trans (I.base.keep b o e n hb hx)
  .obtain⟨sl,e1⟩:=I.base.slot b o e n hb hx
   exact⟨sl,(hs.2 b (bZ (gK (bS e) I.ok.above))).trans e1⟩
  .obtain⟨o',e1⟩:=I.base.there b o e hx
   exact⟨o',(hs.2 b (bZ (gK (bS e) I.ok.above))).trans e1⟩
  .by_cases hj:j=i
   .subst hj
    rw[hi] at e1;cases e1
    rw[wF Ku] at e2
    cases e2
    exact⟨u,r,.inl ⟨hk,by simp⟩⟩
   .rw[zP (br hj)] at e2
    obtain⟨u',r',q⟩:=hl j y v' e1 e2 e3
    refine⟨u',r',?_⟩
    rcases q with ⟨k,e⟩ | ⟨k,c,e,z⟩
    .refine .inl ⟨k,?_⟩
     have:y≠x:=λe=>hj (Ks hN e1 (e ▸ hi))
     simp[this,e]
    .exact .inr ⟨k,c,e,z.sameBut hs (rp y c e)⟩
  .obtain⟨w',z⟩:=I.cell y c e
   exact⟨w',z.sameBut hs (rp y c e)⟩
  .obtain⟨e,n,ne,nf,d⟩:=I.pin p hp
   exact⟨(hs.2 p.1 ne).trans e,n,ne,nf,d⟩
 .have rC:X.fn x=true:=by
   rcases hf with z | z
   .exact z
   .rw[z] at hk;cases hk
  obtain⟨c,hc⟩:=I.ok.has x (.inl hk)
  obtain⟨w',z⟩:=I.cell x c hc
  refine wpAny_storeName_cell I.ok.kind hk hc z (λh' lT hs=>?_)
  obtain⟨oc,pf,SJ⟩:=id z
  refine h { s with heap:=h' } ⟨I.ok,I.os,I.bare,⟨λb o e n hb hx=>?_,λb o e n hb hx=>?_,I.base.free,λb o e hx=>?_,I.base.gj,I.base.j3,I.base.kP⟩,⟨m,hn.sameBut hs (br (rp x c hc)),λj y v' e1 e2 e3=>?_⟩,λy c' e=>?_,I.free,I.fN,λp hp=>?_,tracked ⟨oc,pf,I.fN x c hc⟩ hs,by simpa using I.len⟩ ⟨c,hs,.inr hc⟩
  .exact(hs.2 b (bZ (gK (bS e) (I.ok.xc x c rC hc)))).trans (I.base.keep b o e n hb hx)
  .obtain⟨sl,e1⟩:=I.base.slot b o e n hb hx
   exact⟨sl,(hs.2 b (bZ (gK (bS e) (I.ok.xc x c rC hc)))).trans e1⟩
  .obtain⟨o',e1⟩:=I.base.there b o e hx
   exact⟨o',(hs.2 b (bZ (gK (bS e) (I.ok.xc x c rC hc)))).trans e1⟩
  .by_cases hj:j=i
   .subst hj
    rw[hi] at e1;cases e1
    rw[wF Ku] at e2
    cases e2
    exact⟨u,r,.inr ⟨.inl hk,c,hc,lT⟩⟩
   .rw[zP (br hj)] at e2
    obtain⟨u',r',q⟩:=hl j y v' e1 e2 e3
    refine⟨u',r',?_⟩
    rcases q with q | ⟨k,c',e,z'⟩
    .exact .inl q
    .refine .inr ⟨k,c',e,z'.sameBut hs ?_⟩
     rintro rfl
     exact hj (Ks hN e1 (I.ok.inj _ _ _ e hc ▸ hi))
  .by_cases hcc:c'=c
   .subst hcc;exact⟨_,lT⟩
   .obtain⟨w2,z2⟩:=I.cell y c' e
    exact⟨w2,z2.sameBut hs hcc⟩
  .obtain⟨e,n,ne,nf,d⟩:=I.pin p hp
   refine⟨(hs.2 p.1 ?_).trans e,n,ne,nf,d⟩
   intro q
   rw[q,pf] at e
   have q':oc=p.2:=cQ e
   exact d w' (by rw[<-q'];exact SJ)
def D3{Q:Unit->Shared->Prop}(I:Inv X pins O H s)(hN:X.N.Nodup)(hi:X.N[i]? = some x)(hx:Loc X.env.scope x)(r:RelV v u)
  (h:∀s',Inv X pins (O.set i (some v)) H s'->Q () s') (hf:X.fn x=true\/X.env.scope.names.lookup x=some .local:=by first | exact .inl rfl | exact .inr rfl | assumption):wpAny M A (storeName X.env x u) Q E s:=
 SF I hN hi hx r (λs' I' _=>h s' I') hf
def Inv.Am(I:Inv X pins O H s)(ho:s'.os=s.os)(u:Un (j4 X.stack) ch H H' s.heap s'.heap)(aD:dg X.prog X.w H' s'.heap)(hg:AllBare s'.gens)
  (hch:∀b∈ch,(b∈X.ex\/X.s₀.heap.objs.size<=b)/\b≠X.env.locals/\(∀x c,X.env.cells.lookup x=some c->c≠b)/\∀p∈X.pn++pins,p.1≠b):Inv X pins O H' s':=by
 obtain⟨h',g',d',t',o'⟩:=s'
 have e:o'=s.os:=ho
 subst e
 exact I.call (g':=g') (t':=t') (d':=d') u aD hg hch
end
abbrev XK:=Value->Option Addr->Hp->Prop
abbrev St:=List (Option V)
abbrev VK:=V->Hp->Prop
abbrev TE:=St->Hp->VK->Prop
abbrev TT:=St->Hp->(Bool->Hp->Prop)->Prop
abbrev TA:=St->Hp->(List V->Hp->Prop)->Prop
structure Ends where
 nx:St->Hp->Prop
 rt:VK
 bk:St->Hp->Prop:=λ_ _=>False
 ct:St->Hp->Prop:=λ_ _=>False
abbrev TS:=Ends->St->Hp->Prop
def EP(X:Cx)(pins:List (Addr×Obj))(O:St)(Q:VK)(u:Value)(s':Shared):Prop := ∃v H',Inv X pins O H' s'/\RelV v u/\Q v H'
def TP(X:Cx)(pins:List (Addr×Obj))(O:St)(Q:Bool->Hp->Prop)(b:Bool)(s':Shared):Prop := ∃H',Inv X pins O H' s'/\Q b H'
def AP(X:Cx)(pins:List (Addr×Obj))(O:St)(Q:List V->Hp->Prop)(us:List Value)(s':Shared):Prop := ∃vs H',Inv X pins O H' s'/\Vals vs us/\Q vs H'
def SP(X:Cx)(pins:List (Addr×Obj))(D:Ends)(f:Flow)(s':Shared):Prop:=
 match f with
 |.next=>∃O' H',Inv X pins O' H' s'/\D.nx O' H'
 |.brk=>∃O' H',Inv X pins O' H' s'/\D.bk O' H'
 |.cont=>∃O' H',Inv X pins O' H' s'/\D.ct O' H'
 |.ret u=>∃v O' H',Inv X pins O' H' s'/\RelV v u/\D.rt v H'
def PE(X:Cx)(e:Expr)(t:TE):Prop:=
 ∀(pins:List (Addr×Obj)) (s:Shared) (O:St) (H:Hp) (Q:VK),Inv X pins O H s->t O H Q->wpAny (model X.prog X.w) X.A (eval e X.env) (EP X pins O Q) X.xe s
def PT(X:Cx)(e:Expr)(t:TT):Prop:=
 ∀(pins:List (Addr×Obj)) (s:Shared) (O:St) (H:Hp) (Q:Bool->Hp->Prop),Inv X pins O H s->t O H Q->wpAny (model X.prog X.w) X.A (isTrue e X.env (eval e X.env)) (TP X pins O Q) X.xe s
def PW(X:Cx)(e:Expr)(t:TT):Prop:=
 ∀(whole:Sem Value) (pins:List (Addr×Obj)) (s:Shared) (O:St) (H:Hp) (Q:Bool->Hp->Prop),Inv X pins O H s->t O H Q->wpAny (model X.prog X.w) X.A (isTrue e X.env whole) (TP X pins O Q) X.xe s
def PW.pt{t:TT}(h:PW X e t):PT X e t:=h _
def PA(X:Cx)(es:List Expr)(t:TA):Prop:=
 ∀(pos:Pos) (pins:List (Addr×Obj)) (s:Shared) (O:St) (H:Hp) (Q:List V->Hp->Prop),Inv X pins O H s->t O H Q->wpAny (model X.prog X.w) X.A (spliced (backTo pos (starEach es X.env))) (AP X pins O Q) X.xe s
def PS(X:Cx)(st:Stmt)(t:TS):Prop:=
 ∀(pins:List (Addr×Obj)) (s:Shared) (O:St) (H:Hp) (D:Ends),Inv X pins O H s->t D O H->wpAny (model X.prog X.w) X.A (exec st X.env) (SP X pins D) X.xe s
def gk(X:Cx)(st:List Stmt)(t:TS):Prop:=
 ∀(pins:List (Addr×Obj)) (s:Shared) (O:St) (H:Hp) (D:Ends),Inv X pins O H s->t D O H->wpAny (model X.prog X.w) X.A (execs st X.env) (SP X pins D) X.xe s
def aE{t:Sem α}{Q Q':α->Shared->Prop}(h:wpAny M A t Q E s)(hQ:∀a s,Q a s->Q' a s):wpAny M A t Q' E s:=jV h hQ λ_ _ x=>x
section
variable{X:Cx}
def uf(i:Nat):TE:=λO H Q=>∃v,O[i]? = some (some v)/\Q v H
def tC(v:V):TE:=λ_ H Q=>Q v H
def SK(hN:X.N[i]? = some x)(hv:DY X.env.scope x)(hd:(x==("__debug__":Str))=false:=by decide)(iW:(x==("__classdict__":Str))=false:=by decide):PE X (.Name x pos) (uf i):=by
 intro pins s O H Q I h
 obtain⟨v,e,h⟩:=h
 obtain⟨m,hn,hl⟩:=I.loc
 obtain⟨u,r,l⟩:=hl i x v hN e hv
 have fin:EP X pins O Q u s:=⟨v,H,I,r,h⟩
 rcases l with ⟨hk,hm⟩ | ⟨hk,c,hc,Kw⟩
 .exact wpAny_Name (wpAny_loadName_local I.ok.kind hk hn hm fin) hd
 .rcases hk with hk | hk
  .exact wpAny_Name (wpAny_loadName_cell I.ok.kind hk hc Kw fin) hd
  .exact wpAny_Name (wpAny_loadName_free I.ok.kind hk hc Kw fin iW) hd
def az{i j pos}:PE X (.Constant (.int i) j pos) (tC (.int i)):=λ_ _ _ H _ I h=>wpAny_Constant_int ⟨.int i,H,I.tok _,⟨_,rfl⟩,h⟩
def dR{b j pos}:PE X (.Constant (.bool b) j pos) (tC (.bl b)):=λ_ _ _ H _ I h=>Constant_bool ⟨.bl b,H,I,rfl,h⟩
def kR{j pos}:PE X (.Constant .none j pos) (tC .aB):=λ_ _ _ H _ I h=>Constant_none ⟨.aB,H,I,rfl,h⟩
def dY{x j pos}:PE X (.Constant (.str x) j pos) (tC (.str x)):=λ_ _ _ H _ I h=>Calls.Constant_str ⟨.str x,H,I.tok _,⟨_,rfl⟩,h⟩
def Gl(X:Cx)(x:Str):Prop:=X.env.kindOf x=some .globalImplicit
def xj(I:Inv X pins O H s)(hg:Gl X x)(hm:X.mg x=some u)(h:Q u s)
  (hd:(x==("__debug__":Str))=false:=by decide):wpAny (model X.prog X.w) X.A (eval (.Name x pos) X.env) Q E s:=
 Calls.Name_function_global I.ok.kind hg (Calls.loadGlobal_global (by rw[I.ok.glob];exact I.mod.glob.keeps I.bk) hm h) hd
def ph(I:Inv X pins O H s)(hg:Gl X x)(hm:X.mg x=none)(hv:bootBuiltins x=some u)(h:Q u s)
  (hn:x≠"__name__":=by decide) (hd:(x==("__debug__":Str))=false:=by decide):wpAny (model X.prog X.w) X.A (eval (.Name x pos) X.env) Q E s:=by
 obtain⟨mb,h1,h2⟩:=I.mod.blt
 exact Calls.Name_function_global I.ok.kind hg (Calls.loadGlobal_builtin (by rw[I.ok.glob];exact I.mod.glob.keeps I.bk) hm (by rw[I.ok.blt];exact h1.keeps I.bk) ((h2 x hn).trans hv) h) hd
def SM(hg:Gl X x)(hm:X.mg x=some u)(r:RelV v u)(hd:(x==("__debug__":Str))=false:=by decide):PE X (.Name x pos) (tC v):=
 λ_ _ _ H _ I h=>xj I hg hm ⟨v,H,I,r,h⟩ hd
def nL(hg:Gl X x)(hm:X.mg x=none)(hv:bootBuiltins x=some u)(r:RelV v u)(hn:x≠"__name__":=by decide)(hd:(x==("__debug__":Str))=false:=by decide):PE X (.Name x pos) (tC v):=
 λ_ _ _ H _ I h=>ph I hg hm hv ⟨v,H,I,r,h⟩ hn hd
variable{a b:Expr}{ta tb:TE}{pos:Pos}
def PC(X:Cx)(op:CmpOp)(a b:Expr)(t:TE):Prop:=
 ∀(pins:List (Addr×Obj)) (s:Shared) (O:St) (H:Hp) (Q:VK),Inv X pins O H s->t O H Q->
  wpAny (model X.prog X.w) X.A (eval a X.env) (λv s₁=>wpAny (model X.prog X.w) X.A (eval b X.env) (λu s₂=>wpAny (model X.prog X.w) X.A (compareOp op v u) (EP X pins O Q) X.xe s₂) X.xe s₁) X.xe s
def tB(t:TE):TT:=λO H Q=>t O H λx H1=>∃c,x = .bl c/\Q c H1
def SN{op:CmpOp}{t:TE}(h:PC X op a b t)(h1:behindInMarks op b=false:=by first | exact SO _ (by decide) (by decide) | rfl):PE X (.Compare a [op] [b] pos) t:=λpins s O H Q I hw=>wpAny_Compare1 (h pins s O H Q I hw) h1
def Ao{op:CmpOp}{t:TE}(h:PC X op a b t)(h1:behindInMarks op b=false:=by first | exact SO _ (by decide) (by decide) | rfl):PT X (.Compare a [op] [b] pos) (tB t):=by
 intro pins s O H Q I hw
 refine wpAny_isTrue_Compare1 (aE (h pins s O H _ I hw) λv s1 h1=>aE h1 λu s2 h2=>aE h2 λc s3 ⟨x,H1,I1,r1,q1⟩=>?_) h1
 obtain⟨d,rfl,q⟩:=q1
 cases r1
 exact oQ ⟨H1,I1,q⟩
def dS{t:TE}(h:PE X e t)(he:∀whole,isTrue e X.env whole=(do let v<-whole;standAt e.pos;holding [v] (truthy v)):=by intro _;rfl):PT X e (tB t):=by
 intro pins s O H Q I hw
 refine isTrue_plain (aE (h pins s O H _ I hw) λv s1 ⟨x,H1,I1,r1,q1⟩=>?_) (he _)
 obtain⟨d,rfl,q⟩:=q1
 cases r1
 exact oQ ⟨H1,I1,q⟩
variable{tA Ap:TT}{rest:List Expr}
def D4(t u:TT):TT:=λO H Q=>t O H λc H1=>if c=true then u O H1 Q else Q false H1
def SQ(t u:TT):TT:=λO H Q=>t O H λc H1=>if c=true then Q true H1 else u O H1 Q
def SR(t:TT):TT:=λO H Q=>t O H λc H1=>Q (!c) H1
def rE(ha:PT X a tA):PW X (.BoolOp .And [a] pos) tA:=by
 intro wh pins s O H Q I h
 refine isTrue_and (aE (ha pins s O H Q I h) λc s1 e=>?_)
 cases c with
 |true=>exact isTrue_and_nil e
 |false=>exact e
def iA(ha:PT X a tA):PW X (.BoolOp .Or [a] pos) tA:=by
 intro wh pins s O H Q I h
 refine isTrue_or (aE (ha pins s O H Q I h) λc s1 e=>?_)
 cases c with
 |false=>exact isTrue_or_nil e
 |true=>exact e
def pq(ha:PT X a tA)(hb:PW X (.BoolOp .And (b::rest) pos) Ap):PW X (.BoolOp .And (a::b::rest) pos) (D4 tA Ap):=by
 intro wh pins s O H Q I h
 refine isTrue_and (aE (ha pins s O H _ I h) λc s1 ⟨H1,I1,q1⟩=>?_)
 cases c with
 |true=>exact hb wh pins s1 O H1 Q I1 q1
 |false=>exact⟨H1,I1,q1⟩
def gO(ha:PT X a tA)(hb:PW X (.BoolOp .Or (b::rest) pos) Ap):PW X (.BoolOp .Or (a::b::rest) pos) (SQ tA Ap):=by
 intro wh pins s O H Q I h
 refine isTrue_or (aE (ha pins s O H _ I h) λc s1 ⟨H1,I1,q1⟩=>?_)
 cases c with
 |true=>exact⟨H1,I1,q1⟩
 |false=>exact hb wh pins s1 O H1 Q I1 q1
def eI(ha:PT X a tA):PT X (.UnaryOp .Not a pos) (SR tA):=by
 intro pins s O H Q I h
 exact isTrue_not (ha pins s O H (λc H1=>Q (!c) H1) I h)
def SU(ta tb:TE):TE:=λO H Q=>ta O H λx H1=>∃c,x = .bl c/\if c=true then tb O H1 Q else Q (.bl false) H1
def D5{op}{t:TE}(h:PE X a t):PE X (.BoolOp op [a] pos) t:=λpins s O H Q I hw=>BoolOp_one (h pins s O H Q I hw)
def Aq(ha:PE X a ta)(hb:PE X (.BoolOp .And (b::rest) pos) tb):PE X (.BoolOp .And (a::b::rest) pos) (SU ta tb):=by
 intro pins s O H Q I h
 refine BoolOp_and (aE (ha pins s O H _ I h) λv s1 ⟨x,H1,I1,r1,q1⟩=>?_)
 obtain⟨c,rfl,q1⟩:=q1
 cases r1
 refine oQ ?_
 cases c with
 |true=>exact hb pins s1 O H1 Q I1 q1
 |false=>exact⟨.bl false,H1,I1,rfl,q1⟩
end
def ai(K:Frag)(H:Hp)(a:Addr)(xs:List V):Prop:=
 Rd H a (.lst xs)\/
  ∃(o:Obj) (its:Array Value) (n:Nat),K.lookup a=some o/\o.cls = .type "list"/\o.dict=none/\o.data = .seq its n/\its.size<=sizeLine/\Vals xs its.toList
def aq(K:Frag)(H:Hp)(a:Addr)(xs:List V):Prop:=
 Rd H a (.tup xs)\/
  ∃(o:Obj) (its:Array Value) (n:Nat),K.lookup a=some o/\o.cls = .type "tuple"/\o.data = .seq its n/\its.size<=sizeLine/\Vals xs its.toList
noncomputable def SV:Value->Option V
 |.none=>some .aB
 |.bool b=>some (.bl b)
 |.int i _=>some (.int i)
 |.str x _=>some (.str x)
 |.bytes b _=>some (.iV b)
 |.float b _=>some (.rk b)
 |.ref a=>some (.ref a)
 |.type n=>some (.ty n)
 |_=>none
def RelV.abs{x:V}(r:RelV x u):SV u=some x:=by
 cases x with
 |aB=>cases r;rfl
 |bl _=>cases r;rfl
 |int _=>obtain⟨t,rfl⟩:=r;rfl
 |str _=>obtain⟨t,rfl⟩:=r;rfl
 |iV _=>obtain⟨t,rfl⟩:=r;rfl
 |rk _=>obtain⟨t,rfl⟩:=r;rfl
 |ref _=>cases r;rfl
 |ty _=>cases r;rfl
def RelV.inj{x:V}(r:RelV x u)(q:RelV y u):x=y:=cQ (r.abs.symm.trans q.abs)
theorem Vals.inj:∀{xs ys:List V}{us:List Value},Vals xs us->Vals ys us->xs=ys
 |_,_,_,.nil,.nil=>rfl
 |_,_,_,.cons r t,.cons r' t'=>by rw[r.inj r',Vals.inj t t']
section
variable{X:Cx}{pins:List (Addr×Obj)}{O:St}{H:Hp}{s:Shared}{a:Addr}{xs ys:List V}
def ai.of(h:H a=some (.lst xs)):ai K H a xs := .inl (.inl h)
def aq.of(h:H a=some (.tup xs)):aq K H a xs := .inl (.inl h)
theorem Inv.list(I:Inv X pins O H s)(h:ai X.K H a xs):∃its:List Value,Vals xs its/\PlainL s.heap a its.toArray/\xs.length<=sizeLine:=by
 rcases h with h | ⟨o,its,n,hk,hc,hd,hs,hz,r⟩
 .obtain⟨z,its,n,r,e⟩:=h.ok I.aD
  exact⟨its,r,⟨_,n,e,rfl,rfl,rfl⟩,z⟩
 .refine⟨its.toList,r,⟨o,n,I.c6 a o hk,hc,hd,by simpa using hs⟩,?_⟩
  have e:=r.length
  simp only[nt] at e
  lia
theorem Inv.tuple(I:Inv X pins O H s)(h:aq X.K H a xs):∃its:List Value,Vals xs its/\IsTup s.heap a its.toArray/\xs.length<=sizeLine:=by
 rcases h with h | ⟨o,its,n,hk,hc,hs,hz,r⟩
 .obtain⟨z,its,r,p⟩:=h.ok I.aD
  exact⟨its,r,p,z⟩
 .refine⟨its.toList,r,⟨o,I.c6 a o hk,hc,n,by simpa using hs⟩,?_⟩
  have e:=r.length
  simp only[nt] at e
  lia
def Inv.D6(I:Inv X pins O H s)(h:ai X.K H a xs)(h':ai X.K H a ys):xs=ys:=by
 obtain⟨its,r,⟨o,n,e,_,_,d⟩,_⟩:=I.list h
 obtain⟨cC,r',⟨o',n',e',_,_,d'⟩,_⟩:=I.list h'
 rw[e] at e';cases e'
 rw[d] at d'
 injection d' with d1 _
 have:its=cC:=by simpa using fh Array.toList d1
 subst this
 exact r.inj r'
def Inv.D7(I:Inv X pins O H s)(h:aq X.K H a xs)(h':aq X.K H a ys):xs=ys:=by
 obtain⟨its,r,⟨o,e,_,n,d⟩,_⟩:=I.tuple h
 obtain⟨cC,r',⟨o',e',_,n',d'⟩,_⟩:=I.tuple h'
 rw[e] at e';cases e'
 rw[d] at d'
 injection d' with d1 _
 have:its=cC:=by simpa using fh Array.toList d1
 subst this
 exact r.inj r'
end
noncomputable abbrev Cx.lU(X:Cx)(E:Value->Shared->Prop):Cx:={ X with xe:=E }
noncomputable abbrev Cx.pw(X:Cx):Cx:=X.lU λ_ _=>False
theorem Cx.Ok.lU(ok:X.Ok)(E:Value->Shared->Prop):(X.lU E).Ok:=
 ⟨ok.mod,ok.kind,ok.glob,ok.blt,ok.above,ok.inj,ok.has,ok.xc,ok.hd,ok.frames,ok.Ah,ok.Kn,ok.bs,ok.nK,ok.rn,ok.Ai,ok.jz,ok.pe⟩
def Cx.Ok.pA(ok:(X.lU E).Ok):X.Ok:=
 ⟨ok.mod,ok.kind,ok.glob,ok.blt,ok.above,ok.inj,ok.has,ok.xc,ok.hd,ok.frames,ok.Ah,ok.Kn,ok.bs,ok.nK,ok.rn,ok.Ai,ok.jz,ok.pe⟩
section
variable{X:Cx}{pins:List (Addr×Obj)}{O:St}{H:Hp}{s:Shared}{E:Value->Shared->Prop}
theorem Inv.lU(I:Inv X pins O H s)(E:Value->Shared->Prop):Inv (X.lU E) pins O H s:=⟨I.ok.lU E,I.os,I.bare,I.base,I.loc,I.cell,I.free,I.fN,I.pin,I.aD,I.len⟩
theorem Inv.pA(I:Inv (X.lU E) pins O H s):Inv X pins O H s:=⟨I.ok.pA,I.os,I.bare,I.base,I.loc,I.cell,I.free,I.fN,I.pin,I.aD,I.len⟩
theorem SP.pA{D:Ends}{f:Flow}{s':Shared}(h:SP (X.lU E) pins D f s'):SP X pins D f s':=by
 cases f with
 |next=>obtain⟨O',H',I,q⟩:=h;exact⟨O',H',I.pA,q⟩
 |brk=>obtain⟨O',H',I,q⟩:=h;exact⟨O',H',I.pA,q⟩
 |cont=>obtain⟨O',H',I,q⟩:=h;exact⟨O',H',I.pA,q⟩
 |ret u=>obtain⟨v,O',H',I,r,q⟩:=h;exact⟨v,O',H',I.pA,r,q⟩
theorem gk.pw{t:TS}(h:gk X.pw st t):gk X st t:=λpins s O H D I hw=>
 jV (h pins s O H D (I.lU _) hw) (λ_ _ q=>q.pA) λ_ _ z=>False.elim z
end
section
variable{X:Cx}{st:Stmt}{rest:List Stmt}{t u:TS}{e:Expr}{te:TE}{pos:Pos}
def SW:TS:=λD O H=>D.nx O H
def Kx(t u:TS):TS:=λD O H=>t { D with nx:=u D } O H
def bC:gk X [] SW:=λ_ _ O H _ I h=>JK ⟨O,H,I,h⟩
def ar(h1:PS X st t)(h2:gk X rest u):gk X (st::rest) (Kx t u):=by
 intro pins s O H D I h
 refine wpAny_execs_cons (aE (h1 pins s O H { D with nx:=u D } I h) λf s1 q=>?_)
 cases f with
 |next=>
  obtain⟨O',H',I',q⟩:=q
  exact h2 pins s1 O' H' D I' q
 |ret v=>exact q
 |brk=>exact q
 |cont=>exact q
def aw(h1:PS X st t):gk X [st] t:=by
 intro pins s O H D I h
 refine wpAny_execs_cons (aE (h1 pins s O H D I h) λf s1 q=>?_)
 cases f with
 |next=>exact JK q
 |ret v=>exact q
 |brk=>exact q
 |cont=>exact q
def Inv.quiet(I:Inv X pins O H s):interactive X.env=false:=by simp[interactive,I.ok.kind]
def SX(te:TE):TS:=λD O H=>te O H λ_ H1=>D.nx O H1
def fu(he:PE X e te)(hs:swapsWith e none pos.line X.env=pure false:=by rfl):PS X (.Expr e pos) (SX te):=by
 intro pins s O H D I h
 exact wpAny_Expr_any (aE (he pins s O H _ I h) λv s1 ⟨x,H1,I1,r1,q1⟩=>⟨O,H1,I1,q1⟩) I.quiet hs
def SY(te:TE):TS:=λD O H=>te O H D.rt
def aP(he:PE X e te):PS X (.Return (some e) pos) (SY te):=by
 intro pins s O H D I h
 exact wpAny_Return_some (aE (he pins s O H _ I h) λv s1 ⟨x,H1,I1,r1,q1⟩=>⟨x,O,H1,I1,r1,q1⟩)
def S0(c:TT)(t u:TS):TS:=λD O H=>c O H λb H1=>if b=true then t D O H1 else u D O H1
def bw{a b:List Stmt}(hc:PT X c tc)(ha:gk X a t)(hb:gk X b u):PS X (.If c a b pos) (S0 tc t u):=by
 intro pins s O H D I h
 refine wpAny_If (aE (hc pins s O H _ I h) λd s1 ⟨H1,I1,q1⟩=>?_)
 cases d with
 |true=>exact ha pins s1 O H1 D I1 q1
 |false=>exact hb pins s1 O H1 D I1 q1
def S4:TS:=λ_ _ _=>False
def xk:PS X st S4:=λ_ _ _ _ _ _ h=>h.elim
end
abbrev TG:=V->St->Hp->(St->Hp->Prop)->Prop
abbrev rF:=List V->St->Hp->(St->Hp->Prop)->Prop
def PG(X:Cx)(target:Expr)(t:TG):Prop:=
 ∀(pins:List (Addr×Obj)) (s:Shared) (O:St) (H:Hp) (v:V) (u:Value) (Q:St->Hp->Prop),Inv X pins O H s->RelV v u->t v O H Q->
  wpAny (model X.prog X.w) X.A (assign target X.env u) (λ_ s' =>∃O' H',Inv X pins O' H' s'/\Q O' H') X.xe s
def Ar(X:Cx)(ts:List Expr)(t:rF):Prop:=
 ∀(pins:List (Addr×Obj)) (s:Shared) (O:St) (H:Hp) (vs:List V) (us:List Value) (Q:St->Hp->Prop),Inv X pins O H s->Vals vs us->t vs O H Q->
  wpAny (model X.prog X.w) X.A (assignInOrder ((assignEach ts X.env).map (·.2)) us) (λ_ s' =>∃O' H',Inv X pins O' H' s'/\Q O' H') X.xe s
abbrev D8:=V->V->V->Hp->(Hp->Prop)->Prop
def Ky(X:Cx)(t:D8):Prop:=
 ∀(pins:List (Addr×Obj)) (s:Shared) (O:St) (H:Hp) (o i v:V) (ov iv u:Value) (Q:Hp->Prop),Inv X pins O H s->RelV o ov->RelV i iv->RelV v u->t o i v H Q->
  wpAny (model X.prog X.w) X.A (setItem ov iv u) (λ_ s' =>∃H',Inv X pins O H' s'/\Q H') X.xe s
section
variable{X:Cx}{pos:Pos}
def rG(i:Nat):TG:=λv O H Q=>Q (O.set i (some v)) H
def bN(i:Nat)(hN:X.N.Nodup)(hi:X.N[i]? = some x:=by rfl)(hx:Loc X.env.scope x:=by first | exact .inl rfl | exact .inr rfl)(hf:X.fn x=true\/X.env.scope.names.lookup x=some .local:=by first | exact .inl rfl | exact .inr rfl | assumption):PG X (.Name x pos) (rG i):=by
 intro pins s O H v u Q I r h
 exact wpAny_assign_Name (D3 I hN hi hx r (λs' I'=>⟨_,H,I',h⟩) hf)
def Kz:rF:=λvs O H Q=>vs=[]/\Q O H
def D9(t:TG)(u:rF):rF:=λvs O H Q=>∃v r,vs=v::r/\t v O H λO' H'=>u r O' H' Q
def jA:Ar X [] Kz:=by
 intro pins s O H vs us Q I r h
 obtain⟨e,h⟩:=h
 subst e
 cases r
 exact assignInOrder_nil ⟨O,H,I,h⟩
def dM{t:TG}{u:rF}(h1:PG X e t)(h2:Ar X es u)
  (hs:(assignEach (e::es) X.env).map (·.2)=assign e X.env::(assignEach es X.env).map (·.2):=by rfl):Ar X (e::es) (D9 t u):=by
 intro pins s O H vs us Q I r h
 obtain⟨v,vr,e1,h⟩:=h
 subst e1
 cases r with
 |cons r rr=>
  rw[hs]
  refine assignInOrder_cons (aE (h1 pins s O H _ _ _ I r h) λ_ s1 ⟨O1,H1,I1,q1⟩=>?_)
  exact h2 pins s1 O1 H1 _ _ Q I1 rr q1
def KA(K:Frag)(n:Nat)(t:rF):TG:=λv O H Q=>∃a xs,v = .ref a/\aq K H a xs/\xs.length=n/\t xs O H Q
def jB{k:Nat}{t:rF}(hc:X.calm=true)(h:Ar X es t)
  (hn:(assignEach es X.env).length=n:=by rfl) (dI:(assignEach es X.env).findIdx? (·.1)=none:=by rfl):PG X (.Tuple es k pos) (KA X.K n t):=by
 intro pins s O H v u Q I r hw
 obtain⟨a,xs,e1,hq,hl,hw⟩:=hw
 subst e1
 cases r
 obtain⟨its,rv,ht,hz⟩:=I.tuple hq
 refine assign_Tuple_tuple (I.ok.hd hc) ht (by simp[hn,<-hl,rv.length]) dI λh' hx=>?_
 have I1:Inv X pins O H { s with heap:=h' }:=I.kept (t':=s.toks) λb o e=>hx b o (bZ (bS e)) e
 exact h pins _ O H xs _ Q I1 (by simpa using rv) hw
def S6(to ti:TE)(t:D8):TG:=λv O H Q=>to O H λo H1=>ti O H1 λi H2=>t o i v H2 λH3=>Q O H3
def ug{o i:Expr}{to ti:TE}{t:D8}(ho:PE X o to)(hi:PE X i ti)(hs:Ky X t)
  (ha:∀v,assign (.Subscript o i pos) X.env v=(do
   let ov<-holding [v] (eval o X.env)
   let iv<-holding [v,ov] (eval i X.env)
   standAt pos
   holding [v,ov,iv] (setItem ov iv v)
   release [v,ov,iv] []):=by intro _;rfl):PG X (.Subscript o i pos) (S6 to ti t):=by
 intro pins s O H v u Q I r h
 rw[ha]
 refine aj (kJ (aE (ho pins s O H _ I h) λov s1 ⟨x,H1,I1,r1,q1⟩=>?_))
 refine aj (kJ (aE (hi pins s1 O H1 _ I1 q1) λiv s2 ⟨y,H2,I2,r2,q2⟩=>?_))
 refine aj (wpAny_standAt (aj (kJ (aE (hs pins s2 O H2 x y v ov iv u _ I2 r1 r2 r q2) λ_ s3 ⟨H3,I3,q3⟩=>?_))))
 exact wpAny_release ⟨O,H3,I3,q3⟩
def xl(te:TE)(g:TG):TS:=λD O H=>te O H λx H1=>g x O H1 D.nx
def rH{g:TG}(he:PE X e te)(hg:PG X tg g)(hs:swapsWithSole [tg] e pos.line X.env=pure false:=by rfl)(hw:swappedStores [tg] e X.env=pure none:=by rfl)
  (h1:(assignEach [tg] X.env).map (·.2)=[assign tg X.env]:=by rfl):PS X (.Assign [tg] e pos) (xl te g):=by
 intro pins s O H D I h
 refine wpAny_Assign_stores (aE (he pins s O H _ I h) λv s1 ⟨x,H1,I1,r1,q1⟩=>?_) hs hw
 rw[h1]
 exact aE (hg pins s1 O H1 x v _ I1 r1 q1) λ_ s2 q=>q
def aK(i:Nat){pos':Pos}(hN:X.N.Nodup)(he:PE X e te)(hi:X.N[i]? = some x:=by rfl)(hx:Loc X.env.scope x:=by first | exact .inl rfl | exact .inr rfl)(hs:swapsWith e (some (.Name x pos')) pos.line X.env=pure false:=by rfl)(hf:X.fn x=true\/X.env.scope.names.lookup x=some .local:=by first | exact .inl rfl | exact .inr rfl | assumption) :
  PS X (.Assign [.Name x pos'] e pos) (xl te (rG i)):=by
 intro pins s O H D I h
 refine wpAny_Assign_Name (aE (he pins s O H _ I h) λv s1 ⟨y,H1,I1,r1,q1⟩=>?_) hs
 exact D3 I1 hN hi hx r1 (λs2 I2=>⟨_,H1,I2,q1⟩) hf
def S7(c:TT)(tb:TS):TS:=λD O H=>∃W:Nat->St->Hp->Prop,(∃m,W m O H)/\∀m O H,W m O H->
 c O H λb H1=>if b=true then ∃N:St->Hp->Prop,(∀O' H',N O' H'->∃m',m'<m/\W m' O' H')/\tb { D with nx:=N,ct:=N,bk:=D.nx } O H1 else D.nx O H1
def KC(hp:PassesOwn (model X.prog X.w) X.A X.env X.xe)(hc:PT X c tc)(hb:gk X body tb):PS X (.While c body [] pos) (S7 tc tb):=by
 intro pins s O H D I h
 obtain⟨W,⟨m0,w0⟩,turn⟩:=h
 refine wpAny_While (codeAny_whileLoop (λn s' =>∃O' H',Inv X pins O' H' s'/\W n O' H') ?_ m0 ⟨O,H,I,w0⟩)
 rintro n s1 ⟨O1,H1,I1,w1⟩
 refine wG hp (aE (hc pins s1 O1 H1 _ I1 (turn n O1 H1 w1)) λb s2 ⟨H2,I2,q2⟩=>?_)
 cases b with
 |true=>
  obtain⟨N,hN,q2⟩:=q2
  rw[aA rfl]
  refine wG hp (aE (hb pins s2 O1 H2 _ I2 q2) λf s3 q3=>?_)
  cases f with
  |next=>
   obtain⟨O3,H3,I3,n3⟩:=q3
   obtain⟨m',hm,w3⟩:=hN O3 H3 n3
   exact⟨m',hm,O3,H3,I3,w3⟩
  |cont=>
   obtain⟨O3,H3,I3,n3⟩:=q3
   obtain⟨m',hm,w3⟩:=hN O3 H3 n3
   exact⟨m',hm,O3,H3,I3,w3⟩
  |brk=>exact q3
  |ret v=>exact q3
 |false=>
  rw[ax b0]
  exact JK ⟨O1,H2,I2,q2⟩
end
structure It where
 go:Nat->Hp->Prop
 fU:Nat->Hp->V->Hp->Prop
 stop:Nat->Hp->Prop
def fw(X:Cx)(pins:List (Addr×Obj))(H:Hp)(b:Addr):Prop:=
 H b=none/\b≠X.env.locals/\b∉X.fs/\(b∈X.ex\/X.s₀.heap.objs.size<=b)/\(∀x c,X.env.cells.lookup x=some c->c≠b)/\∀p∈X.pn++pins,p.1≠b
def Inv.j5{H':Hp}(I:Inv X pins O H s)(hb:s.heap.objs.size<=b)(hn:H' b=none):fw X pins H' b:=by
 refine⟨hn,zQ (gK I.lt hb),I.SE hb,.inr (bQ I.sz hb),λx c e z=>?_,λp hp z=>?_⟩
 .obtain⟨v,q⟩:=I.cell x c e
  exact absurd (gK q.lt (by rw[z];exact hb)) (tW _)
 .exact absurd (gK (bS (I.pin p hp).1) (by rw[z];exact hb)) (tW _)
structure Turn(P:Program)(w:World)(K:Frag)(tg:Expr)(J:It)(fp:List Addr)(it:Addr)(tn:Nat->Heap->Prop):Prop where
 mem:it∈fp
 obj:∀i h,tn i h->∀b∈fp,∃o,h.get? b=some o/\∀v,o.data ≠ .cell v
 keep:∀i h h',tn i h->(∀b∈fp,∀o,h.get? b=some o->h'.get? b=some o)->tn i h'
 item:∀(X:Cx),X.prog=P->X.w=w->X.K=K->X.calm=true->∀(i:Nat) (pins:List (Addr×Obj)) (s:Shared) (O:St) (H:Hp) (E:Value->Shared->Prop),Inv X pins O H s->(∀b∈fp,fw X pins H b)->tn i s.heap->J.go i H->
  wpAny (model P w) X.A (pyNext (.ref it)) (λr s1=>∃u,r=some u/\
   wpAny (model P w) X.A (letOwnedTupleGo tg (.ref it) u) (λ_ s2=>∃x H',Inv X pins O H' s2/\RelV x u/\J.fU i H x H'/\tn (i+1) s2.heap/\∀b∈fp,H' b=none) E s1) E s
 done:∀(X:Cx),X.prog=P->X.w=w->X.K=K->X.calm=true->∀(i:Nat) (pins:List (Addr×Obj)) (s:Shared) (O:St) (H:Hp) (E:Value->Shared->Prop),Inv X pins O H s->(∀b∈fp,fw X pins H b)->tn i s.heap->J.stop i H->
  wpAny (model P w) X.A (pyNext (.ref it)) (λr s1=>r=none/\Inv X pins O H s1) E s
 self:∀(A:Around) (i:Nat) (s:Shared) (Q:Value->Shared->Prop) (E:Value->Shared->Prop),tn i s.heap->Q (.ref it) s->wpAny (model P w) A (pyIter (.ref it)) Q E s
abbrev TI:=St->Hp->(It->Hp->Prop)->Prop
def KD(X:Cx)(pins:List (Addr×Obj))(O:St)(tg:Expr)(R:It->Hp->Prop)(As:Value)(s2:Shared):Prop:=
 ∃(it:Addr) (fp:List Addr) (tn:Nat->Heap->Prop) (J:It) (H':Hp),As = .ref it/\Inv X pins O H' s2/\Turn X.prog X.w X.K tg J fp it tn/\tn 0 s2.heap/\(∀b∈fp,fw X pins H' b)/\R J H'
def PI(X:Cx)(tg iter:Expr)(wi:TI):Prop:=
 ∀(pins:List (Addr×Obj)) (s:Shared) (O:St) (H:Hp) (R:It->Hp->Prop),Inv X pins O H s->wi O H R->
  wpAny (model X.prog X.w) X.A (eval iter X.env) (λv s1=>wpAny (model X.prog X.w) X.A (pyIter v) (KD X pins O tg R) X.xe s1) X.xe s
def uh{n:String}{vs:Array Value}{Q:Unit->Shared->Prop}(ho:s.heap.get? it=some o)(hc:o.cls = .type n)(hd:o.data = .fields vs)
  (hn:["enumerate","zip","dict_itemiterator","dict_reverseitemiterator","odict_iterator","itertools.zip_longest","itertools.pairwise"].contains n=false) (hQ:Q () s):wpAny M A (letOwnedTupleGo tg (.ref it) u) Q E s:=by
 unfold letOwnedTupleGo
 cases tg <;> first
  |exact aY hQ
  |(cases u <;> first
    |exact aY hQ
    |(refine aj (wpAny_load ho ?_)
      rw[hc,hd]
      show wpAny M A (if (["enumerate","zip","dict_itemiterator","dict_reverseitemiterator","odict_iterator","itertools.zip_longest","itertools.pairwise"].contains n&&vs[0]? == some (rawInt _))=true then _ else _) Q E s
      rw[ax (by intro h;rw[hn,iq] at h;cases h)]
      exact aY hQ))
noncomputable def rJ(K:Frag)(a:Addr):It:=
 ⟨λi H=>∃xs x,ai K H a xs/\xs[i]? = some x,λi H x H'=>H'=H/\∀xs,ai K H a xs->xs[i]? = some x,λi H=>∃xs,ai K H a xs/\xs.length<=i⟩
noncomputable def ui(K:Frag)(a:Addr):It:=
 ⟨λi H=>∃xs x,aq K H a xs/\xs[i]? = some x,λi H x H'=>H'=H/\∀xs,aq K H a xs->xs[i]? = some x,λi H=>∃xs,aq K H a xs/\xs.length<=i⟩
noncomputable def lV(lo:Int)(n:Nat):It:=⟨λi _=>i<n,λi H x H'=>H'=H/\x = .int (lo+i),λi _=>n<=i⟩
theorem S8(a it:Addr):Turn P w K tg (rJ K a) [it] it (λi h=>h.IsListIter it a i) where
 mem:=by simp
 obj:=λi h st b hb=>by
  have e:b=it:=by simpa using hb
  subst e
  obtain⟨o,e,c,d⟩:=st
  exact⟨o,e,λv z=>by rw[d] at z;cases z⟩
 keep:=λi h h' st k=>st.at λo e=>k it (by simp) o e
 item:=by
  intro X hP hw hK hc i pins s O H E I hf st hg
  subst hP hw hK
  obtain⟨xs,x,hq,hx⟩:=hg
  obtain⟨its,rv,p,hz⟩:=I.list hq
  obtain⟨u,hu,ru⟩:=rv.get hx
  obtain⟨f0,f1,f2,f3,f4,f5⟩:=hf it (by simp)
  refine wpAny_pyNext_list_item st p.isList (x:=u) (by simpa using hu) λh' dZ sb=>?_
  have I1:Inv X pins O H { s with heap:=h' }:=I.turned (t':=s.toks) (λb o hb e=>(sb.2 b hb).trans e) f0 f1 f3 f4 f5
  obtain⟨o,e,c,d⟩:=id dZ
  exact⟨u,rfl,uh (s:={ s with heap:=h' }) e c d (by decide) ⟨x,H,I1,ru,⟨rfl,λys hy=>by rw[I.D6 hy hq];exact hx⟩,dZ,λb hb=>(hf b hb).1⟩⟩
 done:=by
  intro X hP hw hK hc i pins s O H E I hf st hg
  subst hP hw hK
  obtain⟨xs,hq,hx⟩:=hg
  obtain⟨its,rv,p,hz⟩:=I.list hq
  obtain⟨f0,f1,f2,f3,f4,f5⟩:=hf it (by simp)
  have hl:=rv.length
  exact wpAny_pyNext_list_end (I.ok.hd hc) st p.isList (by simp;lia) λh' eb=>⟨rfl,I.turned (t':=s.toks) (λb o hb e=>eb b o hb e) f0 f1 f3 f4 f5⟩
 self:=λ_ _ _ _ _ st h=>wpAny_pyIter_listiter st h
theorem S9(a it:Addr):Turn P w K tg (ui K a) [it] it (λi h=>h.IsTupleIter it a i) where
 mem:=by simp
 obj:=λi h st b hb=>by
  have e:b=it:=by simpa using hb
  subst e
  obtain⟨o,e,c,d⟩:=st
  exact⟨o,e,λv z=>by rw[d] at z;cases z⟩
 keep:=λi h h' st k=>st.at λo e=>k it (by simp) o e
 item:=by
  intro X hP hw hK hc i pins s O H E I hf st hg
  subst hP hw hK
  obtain⟨xs,x,hq,hx⟩:=hg
  obtain⟨its,rv,p,hz⟩:=I.tuple hq
  obtain⟨u,hu,ru⟩:=rv.get hx
  obtain⟨f0,f1,f2,f3,f4,f5⟩:=hf it (by simp)
  refine wpAny_pyNext_tuple_item st (show s.heap.IsTuple a its.toArray from p) (x:=u) (by simpa using hu) λh' dZ sb=>?_
  have I1:Inv X pins O H { s with heap:=h' }:=I.turned (t':=s.toks) (λb o hb e=>(sb.2 b hb).trans e) f0 f1 f3 f4 f5
  obtain⟨o,e,c,d⟩:=id dZ
  exact⟨u,rfl,uh (s:={ s with heap:=h' }) e c d (by decide) ⟨x,H,I1,ru,⟨rfl,λys hy=>by rw[I.D7 hy hq];exact hx⟩,dZ,λb hb=>(hf b hb).1⟩⟩
 done:=by
  intro X hP hw hK hc i pins s O H E I hf st hg
  subst hP hw hK
  obtain⟨xs,hq,hx⟩:=hg
  obtain⟨its,rv,p,hz⟩:=I.tuple hq
  obtain⟨f0,f1,f2,f3,f4,f5⟩:=hf it (by simp)
  have hl:=rv.length
  exact wpAny_pyNext_tuple_end (I.ok.hd hc) st (show s.heap.IsTuple a its.toArray from p) (by simp;lia) λh' eb=>⟨rfl,I.turned (t':=s.toks) (λb o hb e=>eb b o hb e) f0 f1 f3 f4 f5⟩
 self:=λ_ _ _ _ _ st h=>wpAny_pyIter_tupleiter st h
theorem Ta(it:Addr)(lo:Int)(n:Nat):Turn P w K tg (lV lo n) [it] it (λi h=>IsRangeIter h it (lo+(i:Nat)*1) ((n:Int) - (i:Nat)) 1) where
 mem:=by simp
 obj:=λi h st b hb=>by
  have e:b=it:=by simpa using hb
  subst e
  exact⟨_,st,λv z=>by
   have z':Data.fields _=Data.cell v:=z
   cases z'⟩
 keep:=λi h h' st k=>k it (by simp) _ st
 item:=by
  intro X hP hw hK hc i pins s O H E I hf st hg
  subst hP hw hK
  obtain⟨f0,f1,f2,f3,f4,f5⟩:=hf it (by simp)
  have W:=Walks.range (prog:=X.prog) (w:=X.w) (I.ok.hd hc) it lo 1 n
  refine W.item i s _ _ hg st λv h' tk hv dZ kk=>?_
  obtain⟨t,rfl⟩:=hv
  have I1:Inv X pins O H { s with heap:=h',toks:=tk }:=I.turned (λb o hb e=>kk b o (by simpa using hb) e) f0 f1 f3 f4 f5
  refine⟨_,rfl,uh (s:={ s with heap:=h',toks:=tk }) (n:="range_iterator") dZ rfl rfl (by decide) ⟨.int (lo+i),H,I1,⟨t,?_⟩,⟨rfl,rfl⟩,dZ,λb hb=>(hf b hb).1⟩⟩
  rw[Int.mul_one]
 done:=by
  intro X hP hw hK hc i pins s O H E I hf st hg
  subst hP hw hK
  obtain⟨f0,f1,f2,f3,f4,f5⟩:=hf it (by simp)
  exact wpAny_pyNext_range_end (I.ok.hd hc) st (by have:n<=i:=hg;lia) λh' eb=>⟨rfl,I.turned (t':=s.toks) (λb o hb e=>eb b o hb e) f0 f1 f3 f4 f5⟩
 self:=λ_ _ _ _ _ st h=>wpAny_pyIter_rangeiter st h
section
variable{X:Cx}{tg:Expr}
def Tb(K:Frag)(tl:TE):TI:=λO H R=>tl O H λx H1=>∃a,x = .ref a/\(∃xs,ai K H1 a xs)/\R (rJ K a) H1
def Tc(K:Frag)(tl:TE):TI:=λO H R=>tl O H λx H1=>∃a,x = .ref a/\(∃xs,aq K H1 a xs)/\R (ui K a) H1
def dn(hl:PE X l tl):PI X tg l (Tb X.K tl):=by
 intro pins s O H R I h
 refine aE (hl pins s O H _ I h) λv s1 ⟨x,H1,I1,r1,q1⟩=>?_
 obtain⟨a,e,⟨xs,hq⟩,q⟩:=q1
 subst e
 cases r1
 obtain⟨its,rv,p,hz⟩:=I1.list hq
 refine wH p.isList ?_
 refine⟨s1.heap.objs.size,[s1.heap.objs.size],_,_,H1,rfl,I1.kept (t':=s1.toks) λb o e=>bL _ e,S8 a _,⟨_,cI _ rfl,rfl,rfl⟩,λb hb=>?_,q⟩
 have e:b=s1.heap.objs.size:=by simpa using hb
 subst e
 exact I1.j5 (aW _) (I1.aD.fresh (aW _))
def Au(hl:PE X l tl):PI X tg l (Tc X.K tl):=by
 intro pins s O H R I h
 refine aE (hl pins s O H _ I h) λv s1 ⟨x,H1,I1,r1,q1⟩=>?_
 obtain⟨a,e,⟨xs,hq⟩,q⟩:=q1
 subst e
 cases r1
 obtain⟨its,rv,p,hz⟩:=I1.tuple hq
 refine JL (show s1.heap.IsTuple a its.toArray from p) ?_
 refine⟨s1.heap.objs.size,[s1.heap.objs.size],_,_,H1,rfl,I1.kept (t':=s1.toks) λb o e=>bL _ e,S9 a _,⟨_,cI _ rfl,rfl,rfl⟩,λb hb=>?_,q⟩
 have e:b=s1.heap.objs.size:=by simpa using hb
 subst e
 exact I1.j5 (aW _) (I1.aD.fresh (aW _))
theorem Td{R:It->Hp->Prop}{hi:Int}{t u v:Tok}{tk:Nat}(I:Inv X pins O H s)(h1 : -(2 ^ 62)<=lo)(h2:lo<2 ^ 62)(h3 : -(2 ^ 62)<=hi)(h4:hi<2 ^ 62)
  (q:R (lV lo (hi - lo).toNat) H):wpAny (model X.prog X.w) X.A (pyIter (.ref s.heap.objs.size)) (KD X pins O tg R) E { s with heap:=s.heap.push { cls := .type "range",data := .fields #[.int lo t,.int hi u,.int 1 v] },toks:=tk }:=by
 refine wpAny_pyIter_range (IsRange.new ..) (small_one h1 h2 h3 h4) ?_
 have I1:Inv X pins O H { s with heap:=s.heap.push { cls := .type "range",data := .fields #[.int lo t,.int hi u,.int 1 v] },toks:=tk }:=I.kept λb o e=>bL _ e
 refine⟨(s.heap.push { cls := .type "range",data := .fields #[.int lo t,.int hi u,.int 1 v] }).objs.size,[(s.heap.push { cls := .type "range",data := .fields #[.int lo t,.int hi u,.int 1 v] }).objs.size],_,_,H,rfl,
  I1.kept (t':=tk) λb o e=>bL _ e,Ta _ lo (hi - lo).toNat,?_,λb hb=>?_,q⟩
 .have e1:lo+((0:Nat):Int)*1=lo:=by simp
  have e2:(((hi - lo).toNat:Nat):Int) - ((0:Nat):Int)=Builtin.Range.rangeSize lo hi 1:=by rw[rangeSize_one];split <;> lia
  show IsRangeIter _ _ (lo+((0:Nat):Int)*1) ((((hi - lo).toNat:Nat):Int) - ((0:Nat):Int)) 1
  rw[e1,e2]
  exact cI _ rfl
 .have e:b=(s.heap.push { cls := .type "range",data := .fields #[.int lo t,.int hi u,.int 1 v] }).objs.size:=by simpa using hb
  subst e
  exact I1.j5 (aW _) (I1.aD.fresh (aW _))
def Te(ta:TA):TI:=λO H R=>ta O H λvs H1=>∃j:Int,vs=[.int j]/\ -(2 ^ 62)<=j/\j<2 ^ 62/\R (lV 0 j.toNat) H1
theorem gm{a:Expr}{ta:TA}{p:Pos}(hg:Gl X "range")(hm:X.mg "range"=none)(ha:PA X [a] ta)(hs:starEach [a] X.env=[(false,eval a X.env)]:=by rfl):PI X tg (.Call (.Name "range" p) [a] [] pos) (Te ta):=by
 intro pins s O H R I h
 refine Call_ (ph I hg hm boot_range (DF (aE (ha pos pins s O H _ I h) λus s1 ⟨vs,H1,I1,r1,q1⟩=>?_) hs rfl))
 obtain⟨j,e,q1,q2,q⟩:=q1
 subst e
 cases r1 with
 |cons r rr=>
  cases rr
  obtain⟨t,rfl⟩:=r
  exact call_range_1 (Td I1 (by lia) (by lia) q1 q2 (by simpa using q))
def Tf(wi:TI)(g:TG)(tb:TS):TS:=λD O H=>wi O H λJ H1=>∃W:Nat->Nat->St->Hp->Prop,(∃m,W 0 m O H1)/\∀i m O H,W i m O H->
 (J.stop i H/\D.nx O H)\/(J.go i H/\∃N:St->Hp->Prop,(∀O' H',N O' H'->∃m',m'<m/\W (i+1) m' O' H')/\∀x H',J.fU i H x H'->g x O H' λO2 H2=>tb { D with nx:=N,ct:=N,bk:=D.nx } O2 H2)
noncomputable def xm(fp:List Addr)(h:Heap):List (Addr×Obj):=fp.filterMap λb=>(h.get? b).map λo=>(b,o)
def Av(hb:b∈fp)(e:h.get? b=some o):(b,o)∈xm fp h:=List.mem_filterMap.mpr ⟨b,hb,by rw[e];rfl⟩
def Tg(hp:p∈xm fp h):p.1∈fp/\h.get? p.1=some p.2:=by
 obtain⟨b,hb,e⟩:=List.mem_filterMap.mp hp
 cases q:h.get? b with
 |none=>rw[q] at e;cases e
 |some o=>
  rw[q] at e
  have e':(b,o)=p:=cQ e
  subst e'
  exact⟨hb,q⟩
def Inv.pinned(I:Inv X pins O H s)(hf:∀b∈fp,fw X pins H b)(ho:∀b∈fp,∃o,s.heap.get? b=some o/\∀v,o.data ≠ .cell v):Inv X (pins++xm fp s.heap) O H s:=
 I.Ak λp hp=>(cV.mp hp).elim (λz=>I.pin p (jt _ z)) λz=>by
  obtain⟨hb,e⟩:=Tg z
  obtain⟨f0,f1,f2,_⟩:=hf p.1 hb
  obtain⟨o,e',d⟩:=ho p.1 hb
  rw[e] at e';cases e'
  exact⟨e,f0,f1,f2,d⟩
def Inv.uj{pl:List (Addr×Obj)}(I:Inv X (pins++pl) O H s):Inv X pins O H s:=I.Ak λp hp=>I.pin p (jt _ (wD _ hp))
def cF{wi:TI}{g:TG}(hi:PI X tg iter wi)(hg:PG X tg g)(hb:gk X body tb)(hp:PassesOwn (model X.prog X.w) X.A X.env X.xe:=by exact PassesOwn.never)(hc:X.calm=true:=by rfl)
  (hs:∀x,foldedSetIterable iter X.env x=pure x:=by intro _;rfl):PS X (.For tg iter body [] pos) (Tf wi g tb):=by
 intro pins s O H D I h
 refine wpAny_For (aE (hi pins s O H _ I h) λv s1 h1=>aE h1 λAs s2 h2=>?_) hs
 obtain⟨it,fp,tn,J,H2,e,I2,T,j6,f2,W,⟨m0,w0⟩,turn⟩:=h2
 subst e
 have Ea:∀{H':Hp},(∀b∈fp,H' b=none)->∀b∈fp,fw X pins H' b:=λhn b hb=>⟨hn b hb,(f2 b hb).2⟩
 refine codeAny_forLoop_any (λn s' =>∃i O' H',Inv X pins O' H' s'/\tn i s'.heap/\(∀b∈fp,H' b=none)/\W i n O' H') ?_ m0 ⟨0,O,H2,I2,j6,λb hb=>(f2 b hb).1,w0⟩
 rintro n s3 ⟨i,O3,H3,I3,xn,KG,w3⟩
 rcases turn i n O3 H3 w3 with ⟨stop,qn⟩ | ⟨go,N,hN,step⟩
 .refine wG hp (aE (T.done X rfl rfl rfl hc i pins s3 O3 H3 X.xe I3 (Ea KG) xn stop) λr s4 ⟨hr,I4⟩=>?_)
  subst hr
  exact JK ⟨O3,H3,I4,qn⟩
 .refine wG hp (aE (T.item X rfl rfl rfl hc i pins s3 O3 H3 X.xe I3 (Ea KG) xn go) λr s4 ⟨u,hr,h4⟩=>?_)
  subst hr
  refine wG hp (aE h4 λ_ s5 ⟨x,H5,I5,r5,y5,uk,Aw⟩=>?_)
  have Th:=I5.pinned (Ea Aw) (T.obj _ _ uk)
  refine wG hp (aE (hg _ s5 O3 H5 x u _ Th r5 (step x H5 y5)) λ_ s6 ⟨O6,H6,I6,q6⟩=>?_)
  refine wG hp (aE (hb _ s6 O6 H6 _ I6 q6) λf s7 q7=>?_)
  have again:∀{O7:St}{H7:Hp},Inv X (pins++xm fp s5.heap) O7 H7 s7->N O7 H7->∃m,m<n/\∃i O' H',Inv X pins O' H' s7/\tn i s7.heap/\(∀b∈fp,H' b=none)/\W i m O' H':=λ{O7 H7} I7 n7=>by
   obtain⟨m',hm,w7⟩:=hN O7 H7 n7
   refine⟨m',hm,i+1,O7,H7,I7.uj,T.keep _ _ _ uk λb hb o e=>(I7.pin (b,o) (jt _ (jt _ (Av hb e)))).1,λb hb=>?_,w7⟩
   obtain⟨o,e,d⟩:=T.obj _ _ uk b hb
   exact(I7.pin (b,o) (jt _ (jt _ (Av hb e)))).2.1
  cases f with
  |next=>obtain⟨O7,H7,I7,n7⟩:=q7;exact again I7 n7
  |cont=>obtain⟨O7,H7,I7,n7⟩:=q7;exact again I7 n7
  |brk=>obtain⟨O7,H7,I7,q7⟩:=q7;exact⟨O7,H7,I7.uj,q7⟩
  |ret v=>obtain⟨x7,O7,H7,I7,r7,q7⟩:=q7;exact⟨x7,O7,H7,I7.uj,r7,q7⟩
end
theorem kT{g:TG}{D:Ends}(Pv:Nat->St->Hp->Prop)(h0:Pv 0 O H)(hl:∀i O H,i<=xs.length->Pv i O H->ai K H a xs)
  (hs:∀i x O H,xs[i]? = some x->Pv i O H->g x O H λO2 H2=>tb { D with nx:=Pv (i+1),ct:=Pv (i+1),bk:=D.nx } O2 H2) (hd:∀O H,Pv xs.length O H->D.nx O H) :
  ∃W:Nat->Nat->St->Hp->Prop,(∃m,W 0 m O H)/\∀i m O H,W i m O H->
   ((rJ K a).stop i H/\D.nx O H)\/((rJ K a).go i H/\∃N:St->Hp->Prop,(∀O' H',N O' H'->∃m',m'<m/\W (i+1) m' O' H')/\∀x H',(rJ K a).fU i H x H'->g x O H' λO2 H2=>tb { D with nx:=N,ct:=N,bk:=D.nx } O2 H2):=by
 refine⟨λi m O H=>m=xs.length - i/\i<=xs.length/\Pv i O H,⟨xs.length,by simp,bu _,h0⟩,?_⟩
 rintro i m O H ⟨rfl,hi,p⟩
 have q:=hl i O H hi p
 by_cases aT:i<xs.length
 .refine .inr ⟨⟨xs,xs[i],q,by simp[aT]⟩,Pv (i+1),λO' H' p'=>⟨xs.length - (i+1),by lia,rfl,aT,p'⟩,λx H' y=>?_⟩
  obtain⟨e,y⟩:=y
  subst e
  exact hs i x O _ (y xs q) p
 .have e:i=xs.length:=by lia
  subst e
  exact .inl ⟨⟨xs,q,aW _⟩,hd O H p⟩
theorem Ti{g:TG}{D:Ends}(Pv:Nat->St->Hp->Prop)(h0:Pv 0 O H)(hl:∀i O H,i<=xs.length->Pv i O H->aq K H a xs)
  (hs:∀i x O H,xs[i]? = some x->Pv i O H->g x O H λO2 H2=>tb { D with nx:=Pv (i+1),ct:=Pv (i+1),bk:=D.nx } O2 H2) (hd:∀O H,Pv xs.length O H->D.nx O H) :
  ∃W:Nat->Nat->St->Hp->Prop,(∃m,W 0 m O H)/\∀i m O H,W i m O H->
   ((ui K a).stop i H/\D.nx O H)\/((ui K a).go i H/\∃N:St->Hp->Prop,(∀O' H',N O' H'->∃m',m'<m/\W (i+1) m' O' H')/\∀x H',(ui K a).fU i H x H'->g x O H' λO2 H2=>tb { D with nx:=N,ct:=N,bk:=D.nx } O2 H2):=by
 refine⟨λi m O H=>m=xs.length - i/\i<=xs.length/\Pv i O H,⟨xs.length,by simp,bu _,h0⟩,?_⟩
 rintro i m O H ⟨rfl,hi,p⟩
 have q:=hl i O H hi p
 by_cases aT:i<xs.length
 .refine .inr ⟨⟨xs,xs[i],q,by simp[aT]⟩,Pv (i+1),λO' H' p'=>⟨xs.length - (i+1),by lia,rfl,aT,p'⟩,λx H' y=>?_⟩
  obtain⟨e,y⟩:=y
  subst e
  exact hs i x O _ (y xs q) p
 .have e:i=xs.length:=by lia
  subst e
  exact .inl ⟨⟨xs,q,aW _⟩,hd O H p⟩
theorem Tj{g:TG}{D:Ends}(Pv:Nat->St->Hp->Prop)(h0:Pv 0 O H)
  (hs:∀i O H,i<n->Pv i O H->g (.int (lo+i)) O H λO2 H2=>tb { D with nx:=Pv (i+1),ct:=Pv (i+1),bk:=D.nx } O2 H2) (hd:∀O H,Pv n O H->D.nx O H) :
  ∃W:Nat->Nat->St->Hp->Prop,(∃m,W 0 m O H)/\∀i m O H,W i m O H->
   ((lV lo n).stop i H/\D.nx O H)\/((lV lo n).go i H/\∃N:St->Hp->Prop,(∀O' H',N O' H'->∃m',m'<m/\W (i+1) m' O' H')/\∀x H',(lV lo n).fU i H x H'->g x O H' λO2 H2=>tb { D with nx:=N,ct:=N,bk:=D.nx } O2 H2):=by
 refine⟨λi m O H=>m=n - i/\i<=n/\Pv i O H,⟨n,by simp,bu _,h0⟩,?_⟩
 rintro i m O H ⟨rfl,hi,p⟩
 by_cases aT:i<n
 .refine .inr ⟨aT,Pv (i+1),λO' H' p'=>⟨n - (i+1),by lia,rfl,aT,p'⟩,λx H' y=>?_⟩
  obtain⟨e,y⟩:=y
  subst e y
  exact hs i O _ aT p
 .have e:i=n:=by lia
  subst e
  exact .inl ⟨aW _,hd O H p⟩
abbrev R2:=V->V->Hp->VK->Prop
def cR(X:Cx)(f:Value->Value->Sem Value)(r:R2):Prop:=
 ∀(pins:List (Addr×Obj)) (s:Shared) (O:St) (H:Hp) (x y:V) (v u:Value) (Q:VK),Inv X pins O H s->RelV x v->RelV y u->r x y H Q->
  wpAny (model X.prog X.w) X.A (f v u) (EP X pins O Q) X.xe s
def Eb(X:Cx)(f:Value->Sem Value)(r:V->Hp->VK->Prop):Prop:=
 ∀(pins:List (Addr×Obj)) (s:Shared) (O:St) (H:Hp) (x:V) (v:Value) (Q:VK),Inv X pins O H s->RelV x v->r x H Q->
  wpAny (model X.prog X.w) X.A (f v) (EP X pins O Q) X.xe s
def gn(X:Cx)(f:Value)(r:List V->Hp->VK->Prop):Prop:=
 ∀(pins:List (Addr×Obj)) (s:Shared) (O:St) (H:Hp) (xs:List V) (us:List Value) (Q:VK),Inv X pins O H s->Vals xs us->r xs H Q->
  wpAny (model X.prog X.w) X.A (call f us) (EP X pins O Q) X.xe s
def Tn(X:Cx)(r:V->Hp->(Bool->Hp->Prop)->Prop):Prop:=
 ∀(pins:List (Addr×Obj)) (s:Shared) (O:St) (H:Hp) (x:V) (v:Value) (Q:Bool->Hp->Prop),Inv X pins O H s->RelV x v->r x H Q->
  wpAny (model X.prog X.w) X.A (truthy v) (TP X pins O Q) X.xe s
def kU(r:R2)(ta tb:TE):TE:=λO H Q=>ta O H λx H1=>tb O H1 λy H2=>r x y H2 Q
def KH(r:V->Hp->VK->Prop)(ta:TE):TE:=λO H Q=>ta O H λx H1=>r x H1 Q
def rI(C:Int->Int->Prop)(g:Int->Int->V):R2:=λx y H Q=>∃i j,x = .int i/\y = .int j/\C i j/\Q (g i j) H
def pB(g:Int->Int->V):R2:=λx y H Q=>∃i j,x = .int i/\y = .int j/\Q (g i j) H
def rU(g:Int->V):V->Hp->VK->Prop:=λx H Q=>∃i,x = .int i/\Q (g i) H
section
variable{X:Cx}{a b c:Expr}{ta tb tc:TE}{pos:Pos}
def Ec(ha:PE X a ta)(hb:PE X b tb){R:V->V->Hp->Prop}(I:Inv X pins O H s)
  (h:ta O H λx H1=>tb O H1 λy H2=>R x y H2) 
  (hf:∀v u s2 x y H2,Inv X pins O H2 s2->RelV x v->RelV y u->R x y H2->wpAny (model X.prog X.w) X.A (f v u) Q X.xe s2) :
  wpAny (model X.prog X.w) X.A (eval a X.env) (λv s₁=>wpAny (model X.prog X.w) X.A (eval b X.env) (λu s₂=>wpAny (model X.prog X.w) X.A (f v u) Q X.xe s₂) X.xe s₁) X.xe s:=by
 refine aE (ha pins s O H _ I h) λv s1 ⟨x,H1,I1,r1,q1⟩=>?_
 refine aE (hb pins s1 O H1 _ I1 q1) λu s2 ⟨y,H2,I2,r2,q2⟩=>?_
 exact hf v u s2 x y H2 I2 r1 r2 q2
def aS{op:Operator}(ho:cR X (binaryOp op) r)(ha:PE X a ta)(hb:PE X b tb):PE X (.BinOp a op b pos) (kU r ta tb):=by
 intro pins s O H Q I h
 exact wpAny_BinOp (Ec ha hb I h λv u s2 x y H2 I2 rx ry q=>ho pins s2 O H2 x y v u Q I2 rx ry q)
def xo{op:UnaryOp}{r:V->Hp->VK->Prop}(ho:Eb X (unaryOp op) r)(ha:PE X a ta):PE X (.UnaryOp op a pos) (KH r ta):=by
 intro pins s O H Q I h
 exact UnaryOp_ (aE (ha pins s O H _ I h) λv s1 ⟨x,H1,I1,r1,q1⟩=>ho pins s1 O H1 x v Q I1 r1 q1)
def iX{C:Int->Int->Prop}
  (rule:∀(i j:Int) (t u:Tok) (s:Shared) (Q:Value->Shared->Prop) (E:Value->Shared->Prop),C i j->Q (.int (g i j) s.toks) { s with toks:=s.toks+1 }->wpAny (model X.prog X.w) X.A (f (.int i t) (.int j u)) Q E s) :
  cR X f (rI C λi j=>.int (g i j)):=by
 intro pins s O H x y v u Q I rx ry h
 obtain⟨i,j,rfl,rfl,hc,q⟩:=h
 obtain⟨t,rfl⟩:=rx
 obtain⟨t',rfl⟩:=ry
 exact rule i j t t' s _ _ hc ⟨.int (g i j),H,I.tok _,⟨_,rfl⟩,q⟩
def KI
  (rule:∀(i j:Int) (t u:Tok) (s:Shared) (Q:Value->Shared->Prop) (E:Value->Shared->Prop),Q (.int (g i j) s.toks) { s with toks:=s.toks+1 }->wpAny (model X.prog X.w) X.A (f (.int i t) (.int j u)) Q E s) :
  cR X f (pB λi j=>.int (g i j)):=by
 intro pins s O H x y v u Q I rx ry h
 obtain⟨i,j,rfl,rfl,q⟩:=h
 obtain⟨t,rfl⟩:=rx
 obtain⟨t',rfl⟩:=ry
 exact rule i j t t' s _ _ ⟨.int (g i j),H,I.tok _,⟨_,rfl⟩,q⟩
def Ed{g:Int->Int->Bool}
  (rule:∀(i j:Int) (t u:Tok) (s:Shared) (Q:Value->Shared->Prop) (E:Value->Shared->Prop),Q (.bool (g i j)) s->wpAny (model X.prog X.w) X.A (f (.int i t) (.int j u)) Q E s) :
  cR X f (pB λi j=>.bl (g i j)):=by
 intro pins s O H x y v u Q I rx ry h
 obtain⟨i,j,rfl,rfl,q⟩:=h
 obtain⟨t,rfl⟩:=rx
 obtain⟨t',rfl⟩:=ry
 exact rule i j t t' s _ _ ⟨.bl (g i j),H,I,rfl,q⟩
def KJ(i j:Int):Prop:=0<j/\j<1073741824
def To(i j:Int):Prop:=0<=j/\j<=1000000/\i.natAbs<2 ^ 64
def Ax(i j:Int):Prop:=(-(2 ^ 64)<i/\i<2 ^ 64)\/(-(2 ^ 64)<j/\j<2 ^ 64)
def Ax.ok{i j:Int}(h:Ax i j):IntMulOk i j:=by
 rcases h with ⟨h1,h2⟩ | ⟨h1,h2⟩
 .exact .of_left (intBits_le_64 h1 h2)
 .exact .of_right (intBits_le_64 h1 h2)
def d5:cR X (binaryOp .Add) (pB λi j=>.int (i+j)):=KI λ_ _ _ _ _ _ _ q=>add_int q
def pC:cR X (binaryOp .Sub) (pB λi j=>.int (i - j)):=KI λ_ _ _ _ _ _ _ q=>sub_int q
def pD:cR X (binaryOp .Mult) (rI Ax λi j=>.int (i*j)):=iX λ_ _ _ _ _ _ _ hc q=>mul_int q hc.ok
theorem j7:cR X (binaryOp .FloorDiv) (rI KJ λi j=>.int (i / j)):=iX λi j _ _ _ _ _ hc q=>by
 have h1:(0:Int)<j:=hc.1
 have h2:j<1073741824:=hc.2
 exact floordiv_int (by lia) (by rw[Int.fdiv_eq_ediv_of_nonneg i (by lia)];exact q) (.inl (PyProof.noPylong_small (by lia)))
theorem fA:cR X (binaryOp .Mod) (rI (λ_ j=>0<j) λi j=>.int (i % j)):=iX λi j _ _ _ _ _ hc q=>by
 have h1:(0:Int)<j:=hc
 exact mod_int' (by lia) (by rw[Int.fmod_eq_emod_of_nonneg i (by lia)];exact q)
def Tp:cR X (binaryOp .Pow) (rI To λi j=>.int (i ^ j.toNat)):=iX λ_ _ _ _ _ _ _ hc q=>pow_int_small hc.1 hc.2.1 hc.2.2 q
def Tq{f:Value->Sem Value}{g:Int->Int}
  (rule:∀(i:Int) (t:Tok) (s:Shared) (Q:Value->Shared->Prop) (E:Value->Shared->Prop),Q (.int (g i) s.toks) { s with toks:=s.toks+1 }->wpAny (model X.prog X.w) X.A (f (.int i t)) Q E s) :
  Eb X f (rU λi=>.int (g i)):=by
 intro pins s O H x v Q I rx h
 obtain⟨i,rfl,q⟩:=h
 obtain⟨t,rfl⟩:=rx
 exact rule i t s _ _ ⟨.int (g i),H,I.tok _,⟨_,rfl⟩,q⟩
def xp:Eb X (unaryOp .USub) (rU λi=>.int (-i)):=Tq λ_ _ _ _ _ q=>neg_int q
end
noncomputable def KL:V->V->Bool
 |.aB,.aB=>true | .aB,.int _=>true | .int _,.aB=>true | .aB,.bl _=>true | .bl _,.aB=>true | .aB,.str _=>true | .str _,.aB=>true
 |.int _,.int _=>true | .bl _,.bl _=>true | .str _,.str _=>true | .iV _,.iV _=>true
 |.int _,.str _=>true | .str _,.int _=>true | .bl _,.str _=>true | .str _,.bl _=>true
 |_,_=>false
def Tr:R2:=λx y H Q=>KL x y=true/\Q (.bl (decide (x=y))) H
def Ts:R2:=λx y H Q=>KL x y=true/\Q (.bl (!decide (x=y))) H
def KN{i j:Int}:decide (V.int i=V.int j)=(i==j):=by
 rw[zR]
 simp
def KO{i j:Bool}:decide (V.bl i=V.bl j)=(i==j):=by
 rw[zR]
 simp
def KP{i j:Str}:decide (V.str i=V.str j)=(i==j):=by
 rw[zR]
 simp
def KQ{i j:Array UInt8}:decide (V.iV i=V.iV j)=(i.toList==j.toList):=by
 rw[zR]
 cases i
 cases j
 simp
section
variable{X:Cx}{a b c:Expr}{ta tb tc:TE}{pos:Pos}
def cS{Q:VK}{k k':Bool}(I:Inv X pins O H s)(q:Q (.bl k) H)(e:k=k'):EP X pins O Q (.bool k') s:=by
 subst e
 exact⟨.bl k,H,I,rfl,q⟩
def lW:cR X (compareOp .Eq) Tr:=by
 intro pins s O H x y v u Q I rx ry h
 obtain⟨hs,q⟩:=h
 cases x with
 |aB=>
  cases rx
  cases y with
  |aB=>cases ry;exact PySem.EqNone.eq_none_none (cS I q (by simp))
  |bl j=>cases ry;exact PySem.EqNone.eq_none_bool (cS I q (by simp))
  |int j=>obtain⟨t',rfl⟩:=ry;exact PySem.EqNone.eq_none_int (cS I q (by simp))
  |str j=>obtain⟨t',rfl⟩:=ry;exact PySem.EqNone.eq_none_str (cS I q (by simp))
  |_=>exact absurd (show false=true from hs) b0
 |bl i=>
  cases rx
  cases y with
  |aB=>cases ry;exact PySem.EqNone.eq_bool_none (cS I q (by simp))
  |bl j=>cases ry;exact eq_bool (cS I q KO)
  |str j=>obtain⟨t',rfl⟩:=ry;exact PySem.EqMixed.eq_bool_str (cS I q (by simp))
  |_=>exact absurd (show false=true from hs) b0
 |int i=>
  obtain⟨t,rfl⟩:=rx
  cases y with
  |aB=>cases ry;exact PySem.EqNone.eq_int_none (cS I q (by simp))
  |int j=>obtain⟨t',rfl⟩:=ry;exact eq_int (cS I q KN)
  |str j=>obtain⟨t',rfl⟩:=ry;exact PySem.EqMixed.eq_int_str (cS I q (by simp))
  |_=>exact absurd (show false=true from hs) b0
 |str i=>
  obtain⟨t,rfl⟩:=rx
  cases y with
  |aB=>cases ry;exact PySem.EqNone.eq_str_none (cS I q (by simp))
  |bl j=>cases ry;exact PySem.EqMixed.eq_str_bool (cS I q (by simp))
  |int j=>obtain⟨t',rfl⟩:=ry;exact PySem.EqMixed.eq_str_int (cS I q (by simp))
  |str j=>obtain⟨t',rfl⟩:=ry;exact eq_str (cS I q KP)
  |_=>exact absurd (show false=true from hs) b0
 |iV i=>
  obtain⟨t,rfl⟩:=rx
  cases y with
  |iV j=>obtain⟨t',rfl⟩:=ry;exact PySem.W.eq_bytes (cS I q KQ)
  |_=>exact absurd (show false=true from hs) b0
 |_=>cases y <;> exact absurd (show false=true from hs) b0
def iY:cR X (compareOp .NotEq) Ts:=by
 intro pins s O H x y v u Q I rx ry h
 obtain⟨hs,q⟩:=h
 cases x with
 |aB=>
  cases rx
  cases y with
  |aB=>cases ry;exact PySem.EqNone.ne_none_none (cS I q (by simp))
  |bl j=>cases ry;exact PySem.EqNone.ne_none_bool (cS I q (by simp))
  |int j=>obtain⟨t',rfl⟩:=ry;exact PySem.EqNone.ne_none_int (cS I q (by simp))
  |str j=>obtain⟨t',rfl⟩:=ry;exact PySem.EqNone.ne_none_str (cS I q (by simp))
  |_=>exact absurd (show false=true from hs) b0
 |bl i=>
  cases rx
  cases y with
  |aB=>cases ry;exact PySem.EqNone.ne_bool_none (cS I q (by simp))
  |bl j=>cases ry;exact ne_bool (cS I q (fh not KO))
  |str j=>obtain⟨t',rfl⟩:=ry;exact PySem.EqMixed.ne_bool_str (cS I q (by simp))
  |_=>exact absurd (show false=true from hs) b0
 |int i=>
  obtain⟨t,rfl⟩:=rx
  cases y with
  |aB=>cases ry;exact PySem.EqNone.ne_int_none (cS I q (by simp))
  |int j=>obtain⟨t',rfl⟩:=ry;exact ne_int (cS I q (fh not KN))
  |str j=>obtain⟨t',rfl⟩:=ry;exact PySem.EqMixed.ne_int_str (cS I q (by simp))
  |_=>exact absurd (show false=true from hs) b0
 |str i=>
  obtain⟨t,rfl⟩:=rx
  cases y with
  |aB=>cases ry;exact PySem.EqNone.ne_str_none (cS I q (by simp))
  |bl j=>cases ry;exact PySem.EqMixed.ne_str_bool (cS I q (by simp))
  |int j=>obtain⟨t',rfl⟩:=ry;exact PySem.EqMixed.ne_str_int (cS I q (by simp))
  |str j=>obtain⟨t',rfl⟩:=ry;exact ne_str (cS I q (fh not KP))
  |_=>exact absurd (show false=true from hs) b0
 |iV i=>
  obtain⟨t,rfl⟩:=rx
  cases y with
  |iV j=>obtain⟨t',rfl⟩:=ry;exact PySem.W.ne_bytes (cS I q (fh not KQ))
  |_=>exact absurd (show false=true from hs) b0
 |_=>cases y <;> exact absurd (show false=true from hs) b0
def kW:cR X (compareOp .Lt) (pB λi j=>.bl (decide (i<j))):=Ed λ_ _ _ _ _ _ _ q=>lt_int q
def lX:cR X (compareOp .LtE) (pB λi j=>.bl (decide (i<=j))):=Ed λ_ _ _ _ _ _ _ q=>le_int q
def Ay:cR X (compareOp .Gt) (pB λi j=>.bl (decide (j<i))):=Ed λ_ _ _ _ _ _ _ q=>gt_int q
def Az:cR X (compareOp .In) (λx y H Q=>∃i j,x = .str i/\y = .str j/\Q (.bl (!(Builtin.Str.occurrences j i 0 j.length 1).isEmpty)) H):=by
 intro pins s O H x y v u Q I rx ry h
 obtain⟨i,j,rfl,rfl,q⟩:=h
 obtain⟨t,rfl⟩:=rx
 obtain⟨t',rfl⟩:=ry
 exact in_str (cS I q rfl)
def xq:cR X (compareOp .Is) (λx y H Q=>y = .aB/\Q (.bl (decide (x = .aB))) H):=by
 intro pins s O H x y v u Q I rx ry h
 obtain⟨rfl,q⟩:=h
 cases ry
 refine is_none_gen (cS I q ?_)
 cases x <;> first
  |(cases rx;rfl)
  |(obtain⟨t,rfl⟩:=rx;rfl)
def Tt:cR X (compareOp .IsNot) (λx y H Q=>y = .aB/\Q (.bl (!decide (x = .aB))) H):=by
 intro pins s O H x y v u Q I rx ry h
 obtain⟨rfl,q⟩:=h
 cases ry
 refine isnot_none_gen (cS I q ?_)
 cases x <;> first
  |(cases rx;rfl)
  |(obtain⟨t,rfl⟩:=rx;rfl)
def KR:cR X (compareOp .NotIn) (λx y H Q=>∃i j,x = .str i/\y = .str j/\Q (.bl (!(!(Builtin.Str.occurrences j i 0 j.length 1).isEmpty))) H):=by
 intro pins s O H x y v u Q I rx ry h
 obtain⟨i,j,rfl,rfl,q⟩:=h
 obtain⟨t,rfl⟩:=rx
 obtain⟨t',rfl⟩:=ry
 exact notIn_str (cS I q rfl)
def Ee(b:Expr){op:CmpOp}(h:op ≠ .In:=by decide)(h2:op ≠ .NotIn:=by decide):behindInMarks op b=false:=by
 have e1:(op==CmpOp.In)=false:=by cases op <;> first | rfl | exact absurd rfl h
 have e2:(op==CmpOp.NotIn)=false:=by cases op <;> first | rfl | exact absurd rfl h2
 cases b <;> simp[behindInMarks,e1,e2]
def nM{op:CmpOp}(ho:cR X (compareOp op) r)(ha:PE X a ta)(hb:PE X b tb)(hm:behindInMarks op b=false:=by first | exact Ee _ | rfl):PE X (.Compare a [op] [b] pos) (kU r ta tb):=by
 intro pins s O H Q I h
 exact wpAny_Compare1 (Ec ha hb I h λv u s2 x y H2 I2 rx ry q=>ho pins s2 O H2 x y v u Q I2 rx ry q) hm
def xt(t:TE):TT:=λO H Q=>t O H λx H' =>∃k,x = .bl k/\Q k H'
def bR{op:CmpOp}(ho:cR X (compareOp op) r)(ha:PE X a ta)(hb:PE X b tb)(hm:behindInMarks op b=false:=by first | exact Ee _ | rfl):PT X (.Compare a [op] [b] pos) (xt (kU r ta tb)):=by
 intro pins s O H Q I h
 refine wpAny_isTrue_Compare1 (aE (ha pins s O H _ I h) λv s1 ⟨x,H1,I1,r1,q1⟩=>aE (hb pins s1 O H1 _ I1 q1) λu s2 ⟨y,H2,I2,r2,q2⟩=>
  aE (ho pins s2 O H2 x y v u _ I2 r1 r2 q2) λc s3 ⟨z,H3,I3,r3,k,e,q3⟩=>?_) hm
 subst e
 cases r3
 exact oQ ⟨H3,I3,q3⟩
def KS(r r':R2)(ta tb tc:TE):TE:=λO H Q=>ta O H λx H1=>tb O H1 λy H2=>r x y H2 λz H3=>∃k,z = .bl k/\
 (if k=true then tc O H3 λw' H4=>r' y w' H4 Q else Q (.bl false) H3)
def Tu{op:CmpOp}(ho:cR X (compareOp op) r)(kQ:cR X (compareOp rK) r')(ha:PE X a ta)(hb:PE X b tb)(hc:PE X c tc)
  (hm:lastMarks [op,rK] [b,c]=false:=by with_unfolding_all rfl):PE X (.Compare a [op,rK] [b,c] pos) (KS r r' ta tb tc):=by
 intro pins s O H Q I h
 refine Compare_chain (aE (ha pins s O H _ I h) λv s1 ⟨x,H1,I1,r1,q1⟩=>chain_link (aE (hb pins s1 O H1 _ I1 q1) λu s2 ⟨y,H2,I2,r2,q2⟩=>
  aE (ho pins s2 O H2 x y v u _ I2 r1 r2 q2) λd s3 ⟨z,H3,I3,r3,k,e,q3⟩=>?_)) hm
 subst e
 cases r3
 refine oQ ?_
 cases k with
 |false=>exact ite_ff ⟨.bl false,H3,I3,rfl,q3⟩
 |true=>exact ite_tt (chain_last (aE (hc pins s3 O H3 _ I3 q3) λw' s4 ⟨z',H4,I4,r4,q4⟩=>kQ pins s4 O H4 y z' u w' Q I4 r2 r4 q4))
def um{op:CmpOp}(ho:cR X (compareOp op) r)(kQ:cR X (compareOp rK) r')(ha:PE X a ta)(hb:PE X b tb)(hc:PE X c tc)
  (hm:lastMarks [op,rK] [b,c]=false:=by with_unfolding_all rfl):PT X (.Compare a [op,rK] [b,c] pos) (xt (KS r r' ta tb tc)):=by
 intro pins s O H Q I h
 refine isTrue_chain (aE (ha pins s O H _ I h) λv s1 ⟨x,H1,I1,r1,q1⟩=>test_link (aE (hb pins s1 O H1 _ I1 q1) λu s2 ⟨y,H2,I2,r2,q2⟩=>
  aE (ho pins s2 O H2 x y v u _ I2 r1 r2 q2) λd s3 ⟨z,H3,I3,r3,k,e,q3⟩=>?_)) hm
 subst e
 cases r3
 refine oQ ?_
 cases k with
 |false=>
  obtain⟨k',e',q'⟩:=q3
  cases e'
  exact ite_ff ⟨H3,I3,q'⟩
 |true=>
  refine ite_tt (test_last (aE (hc pins s3 O H3 _ I3 q3) λw' s4 ⟨z',H4,I4,r4,q4⟩=>aE (kQ pins s4 O H4 y z' u w' _ I4 r2 r4 q4) λd' s5 ⟨z2,H5,I5,r5,k2,e2,q5⟩=>?_))
  subst e2
  cases r5
  exact oQ ⟨H5,I5,q5⟩
def AA(K:Frag)(x:V)(H:Hp)(k:Bool):Prop:=
 match x with
 |.aB=>k=false
 |.bl b=>k=b
 |.int i=>k=(i != 0)
 |.str y=>y.length<=sizeLine/\k=((y.length:Int) != 0)
 |.iV y=>y.size<=sizeLine/\k=((y.size:Int) != 0)
 |.ref p=>(∃xs,ai K H p xs/\k = !xs.isEmpty)\/(∃xs,aq K H p xs/\k = !xs.isEmpty)\/∃kvs,H p=some (.dK kvs)/\k = !kvs.isEmpty
 |_=>False
def Tv{kvs:List (κ×V)}{vs:List (κ×Value)}(r:KV kvs vs):(!vs.isEmpty) = !kvs.isEmpty:=by
 cases r <;> rfl
def KU(r:Vals xs its):(!its.toArray.isEmpty) = !xs.isEmpty:=by
 cases r <;> simp
def nN:(sizeLine:Nat)<2 ^ 63:=by rw[sizeLine_eq];decide
theorem Tw:Tn X (λx H Q=>∃k,AA X.K x H k/\Q k H):=by
 intro pins s O H x v Q I rx h
 obtain⟨k,e,q⟩:=h
 have hl:=nN
 have hs:sizeLine=16777216:=sizeLine_eq
 cases x with
 |aB=>
  cases rx
  have e':k=false:=e
  subst e'
  exact truthy_none ⟨H,I,q⟩
 |bl b=>
  cases rx
  have e':k=b:=e
  subst e'
  exact oQ ⟨H,I,q⟩
 |int i=>
  obtain⟨t,rfl⟩:=rx
  have e':k=(i != 0):=e
  subst e'
  exact PySem.P.truthy_int ⟨H,I,q⟩
 |str y=>
  obtain⟨t,rfl⟩:=rx
  obtain⟨hy,e'⟩:y.length<=sizeLine/\k=((y.length:Int) != 0):=e
  subst e'
  exact PySem.P.truthy_str (by lia) ⟨H,I.tok _,q⟩
 |iV y=>
  obtain⟨t,rfl⟩:=rx
  obtain⟨hy,e'⟩:y.size<=sizeLine/\k=((y.size:Int) != 0):=e
  subst e'
  exact PySem.W.truthy_bytes (by lia) ⟨H,I.tok _,q⟩
 |ref p=>
  cases rx
  have e':(∃xs,ai X.K H p xs/\k = !xs.isEmpty)\/(∃xs,aq X.K H p xs/\k = !xs.isEmpty)\/∃kvs,H p=some (.dK kvs)/\k = !kvs.isEmpty:=e
  rcases e' with ⟨xs,hx,e'⟩ | ⟨xs,hx,e'⟩ | ⟨kvs,hx,e'⟩
  .subst e'
   obtain⟨its,r,pl,hz⟩:=I.list hx
   have hlen:=r.length
   exact wpAny_truthy_list pl.isList (by simp only[bp];lia) ⟨H,I.tok _,by rw[KU r];exact q⟩
  .subst e'
   obtain⟨its,r,pl,hz⟩:=I.tuple hx
   have hlen:=r.length
   exact truthy_tuple pl (by simp only[bp];lia) ⟨H,I.tok _,by rw[KU r];exact q⟩
  .subst e'
   obtain⟨hz,hS,vs,r,m⟩:kvs.length<=sizeLine/\(p==sysModules)=false/\∃vs,KV kvs vs/\s.heap.DictOf (dH X.prog X.w) p vs:=I.aD p _ hx
   have hlen:kvs.length=vs.length:=fJ r
   exact wpAny_truthy_dict hS m (by lia) ⟨H,I.tok _,by rw[Tv r];exact q⟩
 |_=>exact(show False from e).elim
def pE(ha:PE X a ta)(he:∀whole,isTrue a X.env whole=(do let v<-whole;standAt a.pos;holding [v] (truthy v))) :
  PT X a (λO H Q=>ta O H λx H' =>∃k,AA X.K x H' k/\Q k H'):=by
 intro pins s O H Q I h
 exact isTrue_plain (aE (ha pins s O H _ I h) λv s1 ⟨x,H1,I1,r1,q1⟩=>Tw pins s1 O H1 x v Q I1 r1 q1) (he _)
def rL:cR X (binaryOp .Add) (λx y H Q=>∃i j,x = .str i/\y = .str j/\i.length+j.length<=sizeLine/\Q (.str (i++j)) H):=by
 intro pins s O H x y v u Q I rx ry h
 obtain⟨i,j,rfl,rfl,hz,q⟩:=h
 obtain⟨t,rfl⟩:=rx
 obtain⟨t',rfl⟩:=ry
 exact add_str (λt' tk=>⟨.str (i++j),H,I.tok _,⟨_,rfl⟩,q⟩) hz
def vals1{x:V}(r:Vals [x] us):∃u,us=[u]/\RelV x u:=by
 cases r with
 |cons r1 r2=>cases r2;exact⟨_,rfl,r1⟩
def vals2{x:V}(r:Vals [x,y] us):∃u w',us=[u,w']/\RelV x u/\RelV y w':=by
 cases r with
 |cons r1 r2=>
  cases r2 with
  |cons r3 r4=>cases r4;exact⟨_,_,rfl,r1,r3⟩
end
structure rM(h:Heap)(x dx C:Addr)(mA:Str->Option Value):Prop where
 obj:h.get? x=some (instObj C dx)
 ns:h.Ns1 dx mA
 ne:dx≠x
def Tx(n:h.Ns1 dx mA):∃od,h.get? dx=some od/\∀name,lookIn name od=some (mA name):=by
 obtain⟨o,es,ep,ho,hd,hk,_,hm⟩:=n
 refine⟨o,ho,λname=>?_⟩
 have e:=hm name
 unfold nsFind findBy at e
 rw[<-Array.find?_toList] at e
 unfold lookIn
 rw[hd]
 dsimp only
 split
 .rename_i y q
  rw[q] at e
  exact fh some e
 .rename_i q
  rw[q] at e
  have a:es.toList.any (·.refKey)=false:=by
   rw[JM]
   intro y hy
   obtain⟨z,t,xu⟩:=hk y (Array.mem_toList_iff.mp hy)
   simp[DictEntry.refKey,xu]
  have a':¬es.toList.any (·.refKey)=true:=by rw[a];exact b0
  rw[ax a']
  exact fh some e
def rM.look{x:Addr}(I:rM h x dx C mA):∃od,PySem.W.InstAt h x (instObj C dx) C (some od)/\∀name,lookIn name od=some (mA name):=
 let ⟨od,ho,hl⟩:=Tx I.ns
 ⟨od,⟨I.obj,rfl,rfl,ho⟩,hl⟩
section
variable{prog:Program}{w:World}{A:Around}{E:Value->Shared->Prop}{s:Shared}{K:Frag}{x dx C f:Addr}{mA:Str->Option Value}{name:Str}{v:Value}
def get_map(X:K.In s.heap)(I:rM s.heap x dx C mA)(hg:plainGet K C name=true)(hh:hasDictIn K C=true)
  (ha:findIn K (.ref C) name=some none) (hv:mA name=some v) (Tz:PySem.W.handedIn v=true) (h:Q v { s with toks:=s.toks+1 }) :
  wpAny (model prog w) A (getAttr (.ref x) name expr) Q E s:=by
 obtain⟨od,J,hl⟩:=I.look
 exact PySem.W.get_value X J (JN hg).1 (PySem.W.findObj_own hh ha rfl (by rw[hl,hv])) Tz h
def TC{Q:Value×List Value->Shared->Prop}(X:K.In s.heap)(I:rM s.heap x dx C mA)(hg:plainGet K C name=true)
  (hf:findIn K (.ref C) name=some (some (.ref f))) (ht:isFn K (.ref f)=true) (hv:mA name=none) (h:Q (.ref f,[.ref x]) s) :
  wpAny (model prog w) A (getMethod (.ref x) name pl) Q E s:=by
 obtain⟨od,J,hl⟩:=I.look
 exact PySem.W.method_fn X J (JN hg).1 (JN hg).2 hf (nv.mp ht) (by show(lookIn name od).map (·.isSome)=some false;rw[hl,hv];rfl) h
theorem TF{Q:Unit->Shared->Prop}(X:K.In s.heap)(I:rM s.heap x dx C mA)
  (hs:findIn K (.ref C) "__setattr__"=some (some (.builtin "object.__setattr__"))) (hp:plainOver K C=true) (ht:takerIn K C name=some none) (hh:hasDictIn K C=true)
  (hw:PySem.Within mA ns) (hsz:ns.length<=sizeLine)
  (h:∀h',rM h' x dx C (λy=>if y=name then some v else mA y)->Heap.SameBut dx s.heap h'->Q () { s with heap:=h',toks:=s.toks+2 }) :
  wpAny (model prog w) A (setAttr (.ref x) name v) Q E s:=by
 obtain⟨od,J,hl⟩:=I.look
 refine PySem.W.set_plain X J hs (PySem.W.osa_open (s:={ s with toks:=s.toks+1 }) (r:=none) X J hp ht λb=>?_)
 obtain⟨cd,hc,xf⟩:=PySem.W.any_some hh
 have hx:s.heap.get? x=some ⟨.ref C,some dx,.plain,#[]⟩:=I.obj
 refine aj (aY (aj (aj (wpAny_loadPart hx (aj (Looks.here (s:={ s with toks:=s.toks+1 }) (PySem.W.looks_clsIn X hc) ?_))))))
 rw[xf]
 refine aY (a:=some dx) (aj (aY (aj ?_)))
 refine wpAny_nsSet1 (s:={ s with toks:=s.toks+1 }) I.ns λh' rN xw=>?_
 obtain⟨oD,esD,epD,TH,TJ,TK⟩:=rN.count (PySem.Within.cons name v hw)
 refine aj (wpAny_lookBehind TH (by rw[TJ];exact pastItsLine_dict (bQ TK (by rw[dC];lia))) ?_)
 exact aY (h _ ⟨(xw.2 _ (br I.ne)).trans I.obj,rN,I.ne⟩ xw)
def TL{vs:List Value}(X:K.In s.heap)(hm:makesIn K C=true)
  (hi:findIn K (.ref C) "__init__"=some (some (.ref f))) (hf:PySem.W.typeIn K (.ref f)=some (.type "function"))
  (h:codeAny (model prog w) (A.under (.builtin "type.__call__" ⟨.ref C::vs,kw⟩)) (.call (.ref f) ⟨.ref (s.heap.objs.size+1)::vs,kw⟩) (PySem.W.InitBack (s.heap.objs.size+1) R)
   { s with heap:=(s.heap.push emptyDict).push (instObj C s.heap.objs.size) }) :
  codeAny (model prog w) A (.call (.ref C) ⟨vs,kw⟩) R s:=by
 obtain⟨hh,g,d,t,os⟩:=s
 exact PySem.W.make_core (PySem.W.makes_of X hm) (PySem.W.looks_findIn X hi) (λself=>PySem.W.bind_fn X self hf) (.inl rfl) h
def TM(X:K.In s.heap)(hm:makesIn K C=true)
  (hi:findIn K (.ref C) "__init__"=some (some (.builtin "object.__init__")))
  (hb:∀self,Looks (model prog w) s.heap (bindSpecial (.builtin "object.__init__") self) (.builtin "object.__init__",[self]))
  (h:codeAny (model prog w) (A.under (.builtin "type.__call__" ⟨[.ref C],[]⟩)) (.call (.builtin "object.__init__") ⟨[.ref (s.heap.objs.size+1)],[]⟩) (PySem.W.InitBack (s.heap.objs.size+1) R)
   { s with heap:=(s.heap.push emptyDict).push (instObj C s.heap.objs.size) }) :
  codeAny (model prog w) A (.call (.ref C) ⟨[],[]⟩) R s:=by
 obtain⟨hh,g,d,t,os⟩:=s
 exact PySem.W.make_core (PySem.W.makes_of X hm) (PySem.W.looks_findIn X hi) hb (.inr ⟨rfl,rfl⟩) h
end
noncomputable def ba(f:Str)(v:V):List (Str×V)->List (Str×V)
 |[]=>[(f,v)]
 |(g,x)::r=>if g=f then (g,v)::r else (g,x)::ba f v r
theorem cL(f g:Str)(v:V):∀fs:List (Str×V),(ba f v fs).lookup g=if g=f then some v else fs.lookup g
 |[]=>by
  show List.lookup g [(f,v)]=_
  by_cases h:g=f
  .have hb:(g==f)=true:=nv.mpr h
   simp only[List.lookup,hb,aA h]
  .have hb:(g==f)=false:=tV.mpr h
   simp only[List.lookup,hb,ax h]
 |(k,x)::r=>by
  have ih:=cL f g v r
  rw[show ba f v ((k,x)::r)=(if k=f then (k,v)::r else (k,x)::ba f v r) from rfl]
  by_cases hk:k=f
  .rw[aA hk]
   by_cases h:g=k
   .have hb:(g==k)=true:=nv.mpr h
    simp only[List.lookup,hb,aA (h.trans hk)]
   .have hb:(g==k)=false:=tV.mpr h
    simp only[List.lookup,hb,ax (λe:g=f=>h (e.trans hk.symm))]
  .rw[ax hk]
   by_cases h:g=k
   .have hb:(g==k)=true:=nv.mpr h
    simp only[List.lookup,hb,ax (λe:g=f=>hk (h.symm.trans e))]
   .have hb:(g==k)=false:=tV.mpr h
    simp only[List.lookup,hb]
    exact ih
theorem Ef(f:Str)(v:V):∀fs:List (Str×V),f∈(ba f v fs).map (·.1)/\∀g,g∈fs.map (·.1)->g∈(ba f v fs).map (·.1)
 |[]=>⟨by simp[ba],λg h=>by simp at h⟩
 |(k,x)::r=>by
  obtain⟨i1,i2⟩:=Ef f v r
  rw[show ba f v ((k,x)::r)=(if k=f then (k,v)::r else (k,x)::ba f v r) from rfl]
  by_cases hk:k=f
  .rw[aA hk]
   subst hk
   exact⟨by simp,λg h=>by simpa using h⟩
  .rw[ax hk]
   refine⟨?_,λg h=>?_⟩
   .rw[bI]
    exact bX _ i1
   .rw[bI] at h ⊢
    rcases cf.mp h with e | e
    .exact cf.mpr (.inl e)
    .exact bX _ (i2 g e)
theorem KW(f:Str)(v:V):∀fs:List (Str×V),(ba f v fs).length<=fs.length+1
 |[]=>by simp[ba]
 |(k,x)::r=>by
  have ih:=KW f v r
  rw[show ba f v ((k,x)::r)=(if k=f then (k,v)::r else (k,x)::ba f v r) from rfl]
  by_cases hk:k=f
  .rw[aA hk,dC,dC];lia
  .rw[ax hk,dC,dC];lia
def fM.some_of{o:Option Value}(r:fM (some v) o):∃u,o=some u/\RelV v u:=by
 cases o with
 |none=>exact(show False from r).elim
 |some u=>exact⟨u,rfl,r⟩
def fM.none_of{o:Option Value}(r:fM none o):o=none:=by
 cases o with
 |none=>rfl
 |some u=>exact(show False from r).elim
def TN(r:RelV v u):PySem.W.handedIn u=true:=by
 cases v with
 |aB=>cases(show u=Value.none from r);rfl
 |bl b=>cases(show u=Value.bool b from r);rfl
 |int i=>obtain⟨t,e⟩:=(show ∃t,u=Value.int i t from r);cases e;rfl
 |str x=>obtain⟨t,e⟩:=(show ∃t,u=Value.str x t from r);cases e;rfl
 |iV b=>obtain⟨t,e⟩:=(show ∃t,u=Value.bytes b t from r);cases e;rfl
 |rk b=>obtain⟨t,e⟩:=(show ∃t,u=Value.float b t from r);cases e;rfl
 |ref a=>cases(show u=Value.ref a from r);rfl
 |ty n=>cases(show u=Value.type n from r);rfl
section
variable{P:Program}{w:World}{H H':Hp}{h h':Heap}{a C dx:Addr}{fs xb:List (Str×V)}
def xx(aD:dg P w H h)(e:H a=some (.ins C dx fs)):∃mA,rM h a dx C mA/\(∀f,fM (fs.lookup f) (mA f))/\PySem.Within mA (fs.map (·.1))/\fs.length<=1000/\H dx=some (.own a):=by
 obtain⟨d,z,ne,ob,mA,n,r,q⟩:=(show c5 P w H h a (.ins C dx fs) from aD a _ e)
 exact⟨mA,⟨ob,n,ne⟩,r,q,z,d⟩
end
structure cD(K:Frag)(C:Addr):Prop where
 pg:plainGet K C Str.empty=true
 hd:hasDictIn K C=true
 po:plainOver K C=true
 sa:findIn K (.ref C) "__setattr__"=some (some (.builtin "object.__setattr__"))
def cD.get(c:cD K C)(f:Str):plainGet K C f=true:=c.pg
def bF(K:Frag)(C:Addr)(f:Str):Prop:=findIn K (.ref C) f=some none
def bF.TQ{f:Str}(n:bF K C f):takerIn K C f=some none:=by
 unfold takerIn
 rw[show findIn K (.ref C) f=some none from n]
 rfl
structure Meth(K:Frag)(C:Addr)(m:Str)(f:Addr):Prop where
 at_:findIn K (.ref C) m=some (some (.ref f))
 fn:isFn K (.ref f)=true
 kp:keepIn K (.ref f)=true
section
variable{X:Cx}{pins:List (Addr×Obj)}{O:St}{H:Hp}{s:Shared}{a C dx:Addr}{fs:List (Str×V)}{f:Str}{v:V}{A:Around}{E:Value->Shared->Prop}
def TR{b:Bool}(I:Inv X pins O H s)(e:H a=some (.ins C dx fs))(c:cD X.K C)(n:bF X.K C f)(l:fs.lookup f=some v)
  (h:∀u s',Inv X pins O H s'->RelV v u->Q u s'):wpAny (model X.prog X.w) A (getAttr (.ref a) f b) Q E s:=by
 obtain⟨mA,σ,r,_,_,_⟩:=xx I.aD e
 obtain⟨u,hu,ru⟩:=fM.some_of (v:=v) (o:=mA f) (by rw[<-l];exact r f)
 exact get_map I.c6 σ (c.get f) c.hd n hu (TN ru) (h u _ (I.tok _) ru)
def KY{m:Str}{g:Addr}{Q:Value×List Value->Shared->Prop}(I:Inv X pins O H s)(e:H a=some (.ins C dx fs))(c:cD X.K C)(k:Meth X.K C m g)(l:fs.lookup m=none)
  (h:Q (.ref g,[.ref a]) s):wpAny (model X.prog X.w) A (getMethod (.ref a) m pl) Q E s:=by
 obtain⟨mA,σ,r,_,_,_⟩:=xx I.aD e
 have hn:mA m=none:=fM.none_of (by rw[<-l];exact r m)
 exact TC I.c6 σ (c.get m) k.at_ k.fn hn h
theorem TV{Q:Unit->Shared->Prop}(I:Inv X pins O H s)(e:H a=some (.ins C dx fs))(c:cD X.K C)(n:bF X.K C f)(hl:fs.length<1000)(ry:RelV y u)
  (h:∀s',Inv X pins O (upd H a (.ins C dx (ba f y fs))) s'->Q () s'):wpAny (model X.prog X.w) A (setAttr (.ref a) f u) Q E s:=by
 obtain⟨mA,σ,r,wi,_,ho⟩:=xx I.aD e
 have hz:(fs.map (·.1)).length<=sizeLine:=by rw[av,sizeLine_eq];lia
 refine TF I.c6 σ c.sa c.po n.TQ c.hd wi hz λh' σ' sb=>h _ ?_
 have hd:∃o,h'.get? dx=some o:=let ⟨o,_,_,e',_⟩:=σ'.ns;⟨o,e'⟩
 refine I.write (x:=a) (e:=dx) (by rw[e];exact True.intro) (.inr ho) (λb q hb z=>(sb.2 b hb).trans z) hd ?_
 refine⟨by rw[ak σ.ne];exact ho,?_,σ.ne,σ'.obj,_,σ'.ns,λg=>?_,λg hg=>?_⟩
 .have:=KW f y fs;lia
 .show fM ((ba f y fs).lookup g) (if g=f then some u else mA g)
  rw[cL]
  by_cases q:g=f
  .rw[aA q,aA q];exact ry
  .rw[ax q,ax q];exact r g
 .by_cases q:g=f
  .rw[q];exact(Ef f y fs).1
  .refine(Ef f y fs).2 g (wi g λz=>hg ?_)
   show(if g=f then some u else mA g)=none
   rw[ax q];exact z
def Inv.made(I:Inv X pins O H s):Inv X pins O (upd (upd H s.heap.objs.size (.own (s.heap.objs.size+1))) (s.heap.objs.size+1) (.ins C s.heap.objs.size []))
  { s with heap:=(s.heap.push emptyDict).push (instObj C s.heap.objs.size) }:=by
 have e1:(s.heap.push emptyDict).get? s.heap.objs.size=some emptyDict:=cI s.heap rfl
 have e2:((s.heap.push emptyDict).push (instObj C s.heap.objs.size)).get? (s.heap.objs.size+1)=some (instObj C s.heap.objs.size):=by
  have:=cI (s.heap.push emptyDict) (o:=instObj C s.heap.objs.size) rfl
  rwa [kK] at this
 have e3:(s.heap.push emptyDict).Ns s.heap.objs.size (λ_=>none):=⟨emptyDict,#[],_,e1,rfl,(λe he=>absurd he (by simp)),λ_=>rfl⟩
 have I1:=I.laid (a:=s.heap.objs.size) (o := .own (s.heap.objs.size+1)) (h':=s.heap.push emptyDict) (t':=s.toks) (λb u q=>bL _ q) (aW _) ⟨_,e1⟩
 refine I1.laid (a:=s.heap.objs.size+1) (o := .ins C s.heap.objs.size []) (t':=s.toks) (λb u q=>bL _ q) (Nat.le_of_eq (kK _ _)) ?_
 have ne:s.heap.objs.size≠s.heap.objs.size+1:=bZ (qS _)
 refine⟨by rw[ak ne,ao],bu _,ne,e2,λ_=>none,(Heap.Ns1.of_empty e3).at λo q=>bL _ q,λ_=>True.intro,λy hy=>absurd rfl hy⟩
def KZ{env:Env}{f:Str}{s:Shared}(hb:attributeBase e f env (eval e env)=eval e env)
  (h:wpAny (model prog w) A (eval e env) (λo s₁=>wpAny (model prog w) A (getAttr o f true) Q E s₁) E s):wpAny (model prog w) A (eval (.Attribute e f pos) env) Q E s:=
 Attribute_any_ h (by rw[arm_eval_Attribute,hb])
end
def K0(K:Frag)(ta:TE)(f:Str):TE:=λO H Q=>ta O H λx H1=>∃a C dx fs v,x = .ref a/\H1 a=some (.ins C dx fs)/\cD K C/\bF K C f/\fs.lookup f=some v/\Q v H1
def TX(K:Frag)(ta tv:TE)(f:Str):TS:=λD O H=>tv O H λy H1=>ta O H1 λx H2=>∃a C dx fs,x = .ref a/\H2 a=some (.ins C dx fs)/\cD K C/\bF K C f/\fs.length<1000/\
 D.nx O (upd H2 a (.ins C dx (ba f y fs)))
section
variable{X:Cx}{o e value:Expr}{f:Str}{pos pos' nO:Pos}{ta tv:TE}
def cn(he:PE X e ta)(hb:attributeBase e f X.env (eval e X.env)=eval e X.env):PE X (.Attribute e f pos) (K0 X.K ta f):=by
 intro pins s O H Q I h
 refine KZ hb (aE (he pins s O H _ I h) λu s1 h_=>?_)
 obtain⟨x,H1,I1,rx,a,C,dx,fs,v,ex,ea,c,n,l,q⟩:=h_
 subst ex
 obtain rfl:u=Value.ref a:=rx
 exact TR I1 ea c n l λu' s2 I2 ru=>⟨v,H1,I2,ru,q⟩
def kX(ha:PE X o ta)(hv:PE X value tv)(hs:swapsWith value (some (.Attribute o f pos')) pos.line X.env=pure false):PS X (.Assign [.Attribute o f pos'] value pos) (TX X.K ta tv f):=by
 intro pins s O H D I h
 refine plainObj_wpAny_Assign_Attribute (aE (hv pins s O H _ I h) λu s1 ⟨y,H1,I1,ry,q⟩=>aE (ha pins s1 O H1 _ I1 q) λov s2 ⟨x,H2,I2,rx,a,C,dx,fs,ex,ea,c,n,l,q2⟩=>?_) hs
 subst ex
 obtain rfl:ov=Value.ref a:=rx
 exact TV I2 ea c n l ry λs3 I3=>⟨O,_,I3,q2⟩
end
section
variable{X:Cx}{pins:List (Addr×Obj)}{O:St}{H:Hp}{s:Shared}{A:Around}{E:Value->Shared->Prop}{Q:Value->Shared->Prop}{c:Value}{b:Bool}
inductive gQ(K:Frag)(H:Hp):V->Value->Prop where
 |aB:gQ K H .aB (.type "NoneType")
 |bl (x:Bool):gQ K H (.bl x) (.type "bool")
 |int (i:Int):gQ K H (.int i) (.type "int")
 |str (x:Str):gQ K H (.str x) (.type "str")
 |rk (x:UInt64):gQ K H (.rk x) (.type "float")
 |lst {a:Addr}{xs:List V}(e:H a=some (.lst xs)):gQ K H (.ref a) (.type "list")
 |cB {a:Addr}{o:Obj}{xs:List V}(e:H a=some (.cB o (.lst xs))):gQ K H (.ref a) (.type "list")
 |tup {a:Addr}{xs:List V}(e:H a=some (.tup xs)):gQ K H (.ref a) (.type "tuple")
 |dK {a:Addr}{kvs:List (Key×V)}(e:H a=some (.dK kvs)):gQ K H (.ref a) (.type "dict")
 |dT {a:Addr}{kvs:List (List Key×V)}(e:H a=some (.dT kvs)):gQ K H (.ref a) (.type "dict")
 |ins {a C dx:Addr}{fs:List (Str×V)}(e:H a=some (.ins C dx fs)) (cl:cD K C) (ha:findIn K (.ref C) "__class__"=some (some (.builtin "object.__class__")))
   (hn:specialIn K (.builtin "object.__class__") "__get__"=some (some (.builtin "getset_descriptor.__get__"))) (gq:takesIn K (.builtin "object.__class__")=some true)
   (hm:mroIn K C (.type "object")=some true):gQ K H (.ref a) (.ref C)
def K3{x:V}{t:Value}(I:Inv X pins O H s)(rx:RelV x u)(ty:gQ X.K H x t)(e:kitOne X.K t c=some b)(h:∀tk,Q (.bool b) { s with toks:=tk }) :
  wpAny (model X.prog X.w) A (call (.builtin "isinstance") [u,c]) Q E s:=by
 cases ty with
 |aB=>cases(show u=Value.none from rx);exact ny PySem.W.kitx_none I.c6 True.intro e (λz=>nomatch z) h
 |bl y=>cases(show u=Value.bool y from rx);exact ny PySem.W.kitx_bool I.c6 True.intro e (λz=>nomatch z) h
 |int i=>obtain⟨t,q⟩:=(show ∃t,u=Value.int i t from rx);cases q;exact ny PySem.W.kitx_int I.c6 True.intro e (λz=>nomatch z) h
 |str y=>obtain⟨t,q⟩:=(show ∃t,u=Value.str y t from rx);cases q;exact ny PySem.W.kitx_str I.c6 True.intro e (λz=>nomatch z) h
 |rk y=>obtain⟨t,q⟩:=(show ∃t,u=Value.float y t from rx);cases q;exact ny PySem.W.kitx_float I.c6 True.intro e (λz=>nomatch z) h
 |@lst a xs ea=>
  cases(show u=Value.ref a from rx)
  obtain⟨_,_,n,_,h1⟩:=(show c5 X.prog X.w H s.heap a (.lst xs) from I.aD a _ ea)
  exact ny PySem.W.kitx_list I.c6 ⟨_,h1,rfl⟩ e (λz=>nomatch z) h
 |@cB a ob xs ea=>
  cases(show u=Value.ref a from rx)
  obtain⟨_,_,_,n,_,h1⟩:=(show c5 X.prog X.w H s.heap a (.cB ob (.lst xs)) from I.aD a _ ea)
  exact ny PySem.W.kitx_list I.c6 ⟨_,h1,rfl⟩ e (λz=>nomatch z) h
 |@tup a xs ea=>
  cases(show u=Value.ref a from rx)
  obtain⟨_,_,_,p⟩:=(show c5 X.prog X.w H s.heap a (.tup xs) from I.aD a _ ea)
  obtain⟨o,h1,h2,_⟩:=p
  exact ny PySem.W.kitx_tuple I.c6 ⟨o,h1,h2⟩ e (λz=>nomatch z) h
 |@dK a kvs ea=>
  cases(show u=Value.ref a from rx)
  obtain⟨_,_,vs,_,p⟩:=(show c5 X.prog X.w H s.heap a (.dK kvs) from I.aD a _ ea)
  obtain⟨o,es,ep,h1,h2,_⟩:=p
  exact ny PySem.W.kitx_dict I.c6 ⟨o,h1,h2.1⟩ e (λz=>nomatch z) h
 |@dT a kvs ea=>
  cases(show u=Value.ref a from rx)
  obtain⟨_,_,xs,_,o,es,ep,h1,h2,_⟩:=(show c5 X.prog X.w H s.heap a (.dT kvs) from I.aD a _ ea)
  exact ny PySem.W.kitx_dict I.c6 ⟨o,h1,h2.1⟩ e (λz=>nomatch z) h
 |@ins a C dx fs ea cl ha hn gq hm=>
  cases(show u=Value.ref a from rx)
  obtain⟨mA,σ,_⟩:=xx I.aD ea
  obtain⟨od,J,_⟩:=σ.look
  exact ny (PySem.W.kitx_own (cl.get _) cl.hd ha hn gq hm) I.c6 J e (λz=>nomatch z) h
end
structure cz(k:Nat)(A:Around):Prop where
 hd:A.handled=none
 dp:A.depth+3*k+5<recursionLimit
 un:A.units+16*k+200<cLine
 gd:A.guards=some []
theorem cz.mono{k:Nat}(r:cz k A)(h:j<=k):cz j A:=⟨r.hd,by have:=r.dp;lia,by have:=r.un;lia,r.gd⟩
theorem cz.deeper{k:Nat}(r:cz (k+1) A)(env:Env):cz k (A.deeper env):=
 ⟨r.hd,by have:=r.dp;show A.depth+1+3*k+5<_;lia,by have:=r.un;show A.units+3+16*k+200<_;lia,r.gd⟩
theorem cz.in1{k:Nat}(r:cz (k+1) A):cz k A.in1:=
 ⟨r.hd,by have:=r.dp;show A.depth+3*k+5<_;lia,by have:=r.un;show A.units+1+16*k+200<_;lia,r.gd⟩
def TY:(A.under (.builtin "type.__call__" ⟨.ref C::us,kw⟩)).depth=A.depth+1:=by
 first | rfl | simp[Around.under,Code.weight,Code.isCreation,Code.isGuard,Code.isCaller,Code.frames,Code.isFrame,guardIds]
def TZ:(A.under (.builtin "type.__call__" ⟨.ref C::us,kw⟩)).units=A.units+1:=by
 first | rfl | simp[Around.under,Code.cUnits,Code.frames,Code.isFrame]
theorem cz.make{k:Nat}(r:cz (k+1) A)(C:Addr)(us:List Value)(kw:List (Str×Value)):cz k (A.under (.builtin "type.__call__" ⟨.ref C::us,kw⟩)):=
 ⟨r.hd,by have:=r.dp;rw[TY];lia,by have:=r.un;rw[TZ];lia,r.gd⟩
theorem cz.depth{k:Nat}(r:cz k A):A.depth<recursionLimit:=by have:=r.dp;lia
theorem cz.units{k:Nat}(r:cz k A):A.units+64<cLine:=by have:=r.un;lia
def lY:TA:=λ_ H Q=>Q [] H
def pF(ta:TE)(tr:TA):TA:=λO H Q=>ta O H λx H1=>tr O H1 λxs H2=>Q (x::xs) H2
section
variable{X:Cx}{e:Expr}{es:List Expr}{te:TE}{t:TA}{pos:Pos}
def ag:PA X [] lY:=λ_ _ _ _ H Q I h=>Calls.spliced_nil ⟨[],H,I,.nil,h⟩
def ab(ha:PE X e te)(hr:PA X es t)(hs:starEach (e::es) X.env=(false,eval e X.env)::starEach es X.env:=by rfl):PA X (e::es) (pF te t):=by
 intro pos pins s O H Q I h
 rw[hs]
 show wpAny _ _ (spliced ((false,eval e X.env)::backTo pos (starEach es X.env))) _ _ s
 refine DG (aE (ha pins s O H _ I h) λu s1 ⟨x,H1,I1,r1,q1⟩=>?_)
 exact aE (hr pos pins s1 O H1 _ I1 q1) λus s2 ⟨xs,H2,I2,r2,q2⟩=>⟨x::xs,H2,I2,.cons r1 r2,q2⟩
def Eg(t:TA):TE:=λO H Q=>t O H λxs H1=>xs.length<=sizeLine/\∀p,H1 p=none->Q (.ref p) (upd H1 p (.tup xs))
def K4(t:TA):TE:=λO H Q=>t O H λxs H1=>xs.length<=sizeLine/\∀p,H1 p=none->Q (.ref p) (upd H1 p (.lst xs))
def eS{x1}(h:PA X es t):PE X (.Tuple es x1 pos) (Eg t):=by
 intro pins s O H Q I hq
 refine wpAny_Tuple_spliced (aE (h pos pins s O H _ I hq) λus s1 ⟨xs,H1,I1,r,z,q⟩=>⟨by rw[<-r.length];exact z,?_⟩)
 have hf:H1 s1.heap.objs.size=none:=I1.aD.fresh (aW _)
 refine⟨.ref s1.heap.objs.size,upd H1 s1.heap.objs.size (.tup xs),I1.laid (t':=s1.toks) (λb u e=>bL _ e) (aW _) ?_,rfl,q _ hf⟩
 exact⟨z,us,r,⟨_,cI _ rfl,rfl,_,rfl⟩⟩
def de(h:PA X es t):PE X (.List es pos) (K4 t):=by
 intro pins s O H Q I hq
 refine wpAny_List_spliced (aE (h pos pins s O H _ I hq) λus s1 ⟨xs,H1,I1,r,z,q⟩=>⟨by rw[<-r.length];exact z,?_⟩)
 have hf:H1 s1.heap.objs.size=none:=I1.aD.fresh (aW _)
 refine⟨.ref s1.heap.objs.size,upd H1 s1.heap.objs.size (.lst xs),I1.laid (t':=s1.toks) (λb u e=>bL _ e) (aW _) ?_,rfl,q _ hf⟩
 exact⟨z,us,0,r,cI _ rfl⟩
end
abbrev Sp:=List V->Hp->VK->XK->Prop
abbrev lZ:=List Env->Hp->Shared->XK->Value->Shared->Prop
structure kY(P:Program)(w:World)(K:Frag)(mg:Str->Option Value)(base:Heap)(A:Around)(outer:List Env)(s:Shared)(H:Hp):Prop where
 frames:A.frames=some outer
 mod:Mod K mg base
 bs:∀b o,base.get? b=some o->s.heap.get? b=some o/\H b=none
 nK:base.objs.size<=s.heap.objs.size
 jz:s.heap.FunFrames base outer
 pe:∀b∈j4 outer,H b=none
 aD:dg P w H s.heap
 bare:AllBare s.gens
def CE(outer:List Env)(P:Program)(w:World)(H:Hp)(s:Shared)(Q:VK)(u:Value)(s':Shared):Prop:=
 ∃v H',s'.os=s.os/\AllBare s'.gens/\Un (j4 outer) [] H H' s.heap s'.heap/\dg P w H' s'.heap/\RelV v u/\Q v H'
def CR(CX:lZ)(outer:List Env)(P:Program)(w:World)(H:Hp)(s:Shared)(Q:VK)(E:XK)(r:Result)(s':Shared):Prop:=
 match r with
 |.ok (.ret u)=>CE outer P w H s Q u s'
 |.ok _=>False
 |.error e=>CX outer H s E e s'
structure aO(P:Program)(w:World)(K:Frag)(mg:Str->Option Value)(base:Heap)(CX:lZ)(k:Nat)(f:Addr)(fd:FuncData)(ps:List Str)(sp:Sp):Prop where
 len:∀vs H Q E,sp vs H Q E->vs.length=ps.length
 run:∀(A:Around) (outer:List Env) (s:Shared) (H:Hp) (args:Args) (us:List Value) (vs:List V) (Q:VK) (E:XK),cz k A->kY P w K mg base A outer s H->BindsTo s fd args (ps.zip us)->Vals vs us->sp vs H Q E->
  codeAny (model P w) A (.call (.ref f) args) (CR CX outer P w H s Q E) s
def kY.make(e:kY P w K mg base A outer s H)(C:Addr)(us:List Value)(kw:List (Str×Value)) :
  kY P w K mg base (A.under (.builtin "type.__call__" ⟨.ref C::us,kw⟩)) outer s H:=⟨by first | exact e.frames | (simpa[Around.under,Code.envs,Code.isFrame,pushEnvs] using e.frames),e.mod,e.bs,e.nK,e.jz,e.pe,e.aD,e.bare⟩
theorem kY.in1(e:kY P w K mg base A outer s H) :
  kY P w K mg base A.in1 outer s H:=⟨e.frames,e.mod,e.bs,e.nK,e.jz,e.pe,e.aD,e.bare⟩
section
variable{X:Cx}{pins:List (Addr×Obj)}{O:St}{H:Hp}{s s':Shared}
def Inv.Eh(I:Inv X pins O H s):kY X.prog X.w X.K X.mg X.base X.A X.stack s H:=
 ⟨I.ok.frames,I.ok.mod,I.bs,bQ I.ok.nK I.sz,I.stack,I.Ko,I.aD,I.bare⟩
def Inv.after{Q:VK}(I:Inv X pins O H s)(h:CE X.stack X.prog X.w H s Q u s'):EP X pins O Q u s':=by
 obtain⟨v,H',os,bare,un,aD,r,q⟩:=h
 obtain⟨hh,g,d,t,T1⟩:=s'
 obtain rfl:T1=s.os:=os
 exact⟨v,H',I.call (h':=hh) (g':=g) (d':=d) (t':=t) (ch:=[]) un aD bare (λb z=>absurd z (by simp)),r,q⟩
end
def K5(sp:Sp)(dh:List V)(E:XK)(t:TA):TE:=λO H Q=>t O H λvs H1=>sp (vs++dh) H1 Q E
def AB(C:Addr)(m:Str)(sp:Sp)(dh:List V)(E:XK)(ta:TE)(t:TA):TE:=λO H Q=>ta O H λx H1=>∃a dx fs,x = .ref a/\H1 a=some (.ins C dx fs)/\fs.lookup m=none/\
 t O H1 λvs H2=>sp (x::(vs++dh)) H2 Q E
def AD(C:Addr)(sp:Sp)(dh:List V)(E:XK)(t:TA):TE:=λO H Q=>t O H λvs H1=>∀x dx,H1 x=none->H1 dx=none->dx≠x->
 sp (.ref x::(vs++dh)) (upd (upd H1 dx (.own x)) x (.ins C dx [])) (λv H2=>v = .aB/\Q (.ref x) H2) E
def Binds(K:Frag)(fd:FuncData)(ps:List Str)(ds:List Value):Prop:=
 ∀(s:Shared) (us:List Value),K.In s.heap->(us++ds).length=ps.length->BindsTo s fd ⟨us,[]⟩ (ps.zip (us++ds))
def Binds.all(h:∀us:List Value,us.length=ps.length->bindArgs fd ⟨us,[]⟩=pure (ps.zip us)):Binds K fd ps []:=λs us _ hl=>by
 rw[dJ] at hl ⊢
 exact .of_eq (h us hl)
def Passes(CX:lZ)(X:Cx)(E:XK):Prop := ∀(pins:List (Addr×Obj)) (O:St) (H:Hp) (s:Shared) (e:Value) (s':Shared),Inv X pins O H s->CX X.stack H s E e s'->X.xe e s'
section
variable{X:Cx}{CX:lZ}{k:Nat}{f C:Addr}{fd:FuncData}{ps:List Str}{sp:Sp}{dh:List V}{ds:List Value}{E:XK}{x m:Str}{p pos apos:Pos}{e o:Expr}{es:List Expr}{ta:TE}{t:TA}
def Ei{Q:VK}(F:aO X.prog X.w X.K X.mg X.base CX k f fd ps sp)(hr:cz k X.A)(hb:Binds X.K fd ps ds)(hd:Vals dh ds)(hx:Passes CX X E)
  (I:Inv X pins O H s) (r:Vals vs us) (h:sp (vs++dh) H Q E):wpAny (model X.prog X.w) X.A (call (.ref f) us) (EP X pins O Q) X.xe s:=by
 have r2:Vals (vs++dh) (us++ds):=r.append hd
 have hl:(us++ds).length=ps.length:=by rw[<-r2.length];exact F.len _ _ _ _ h
 refine zS (wI (F.run X.A X.stack s H ⟨us,[]⟩ (us++ds) (vs++dh) Q E hr I.Eh (hb s us I.c6 hl) r2 h) λr s' hq=>?_)
 cases r with
 |error e=>exact hx pins O H s e s' I hq
 |ok fl=>
  cases fl with
  |ret u=>exact I.after hq
  |next=>exact False.elim hq
  |brk=>exact False.elim hq
  |cont=>exact False.elim hq
def T8(F:aO X.prog X.w X.K X.mg X.base CX k f fd ps sp)(hr:cz k X.A)(hg:Gl X x)(hm:X.mg x=some (.ref f))(hk:keepIn X.K (.ref f)=true)(hb:Binds X.K fd ps ds)(hd:Vals dh ds)(hx:Passes CX X E)
  (ha:PA X (e::es) t) (gr:(x==("__debug__":Str))=false:=by decide) (he:starEach (e::es) X.env=(false,eval e X.env)::starEach es X.env:=by rfl) (hpl:(backTo pos (starEach es X.env)).any (·.1)=false:=by rfl) :
  PE X (.Call (.Name x p) (e::es) [] pos) (K5 sp dh E t):=by
 intro pins s O H Q I h
 refine wJ (xj I hg hm ?_ gr)
 refine PySem.W.callWith_K (h₀:=X.base) I.ok.mod.rm hk (aE (ha pos pins s O H _ I h) λus s1 ⟨vs,H1,I1,r,q⟩=>⟨I1.c6,?_⟩) he hpl
 exact Ei F hr hb hd hx I1 r q
def T9(he:PE X o ta)(c:cD X.K C)(hm:Meth X.K C m f)(F:aO X.prog X.w X.K X.mg X.base CX k f fd ps sp)(hr:cz k X.A)(hb:Binds X.K fd ps ds)(hd:Vals dh ds)(hx:Passes CX X E)(ha:PA X (e::es) t)
  (dI:starEach (e::es) X.env=(false,eval e X.env)::starEach es X.env:=by rfl) (hpl:(backTo pos (starEach es X.env)).any (·.1)=false:=by rfl)
  (ht:eval (.Call (.Attribute o m apos) (e::es) [] pos) X.env=(do
   let ov<-eval o X.env
   standAt apos.atName
   let (f,first)<-holding [ov] (getMethod ov m pl)
   callWith pos f first (backTo pos (starEach (e::es) X.env)) (backToKw pos (keywordEach [] X.env))):=by rfl) :
  PE X (.Call (.Attribute o m apos) (e::es) [] pos) (AB C m sp dh E ta t):=by
 intro pins s O H Q I h
 refine PySem.W.methodCall_KW (pl:=pl) (aE (he pins s O H _ I h) λu s1 ⟨x,H1,I1,rx,a,dx,fs,ex,ea,l,q⟩=>?_) ht
 subst ex
 obtain rfl:u=Value.ref a:=rx
 refine KY I1 ea c hm l ?_
 refine PySem.W.callWith_K (first:=[.ref a]) (h₀:=X.base) I.ok.mod.rm hm.kp (aE (ha pos pins s1 O H1 _ I1 q) λus s2 ⟨vs,H2,I2,r,q2⟩=>⟨I2.c6,?_⟩) dI hpl
 exact Ei (us := .ref a::us) (vs := .ref a::vs) F hr hb hd hx I2 (.cons rfl r) q2
def Ua(he:PE X o ta)(c:cD X.K C)(hm:Meth X.K C m f)(F:aO X.prog X.w X.K X.mg X.base CX k f fd ps sp)(hr:cz k X.A)(hb:Binds X.K fd ps ds)(hd:Vals dh ds)(hx:Passes CX X E)
  (ht:eval (.Call (.Attribute o m apos) [] [] pos) X.env=(do
   let ov<-eval o X.env
   standAt apos.atName
   let (f,first)<-holding [ov] (getMethod ov m pl)
   callWith pos f first (backTo pos (starEach [] X.env)) (backToKw pos (keywordEach [] X.env))):=by rfl) :
  PE X (.Call (.Attribute o m apos) [] [] pos) (AB C m sp dh E ta lY):=by
 intro pins s O H Q I h
 refine PySem.W.methodCall_KW (pl:=pl) (aE (he pins s O H _ I h) λu s1 ⟨x,H1,I1,rx,a,dx,fs,ex,ea,l,q⟩=>?_) ht
 subst ex
 obtain rfl:u=Value.ref a:=rx
 refine KY I1 ea c hm l ?_
 exact PySem.W.callWith_K0 (first:=[.ref a]) I1.c6 hm.kp (Ei (us:=[.ref a]) (vs:=[.ref a]) F hr hb hd hx I1 (.cons rfl .nil) q)
structure Mk(K:Frag)(C f:Addr):Prop where
 makes:makesIn K C=true
 init:findIn K (.ref C) "__init__"=some (some (.ref f))
 fn:isFn K (.ref f)=true
 kp:keepIn K (.ref C)=true
def K6{Q:VK}(M:Mk X.K C f)(F:aO X.prog X.w X.K X.mg X.base CX k f fd ps sp)(hr:cz (k+1) X.A)(hb:Binds X.K fd ps ds)(hd:Vals dh ds)
  (hx:Passes CX X E) (I:Inv X pins O H s) (r:Vals vs us)
  (h:∀x dx,H x=none->H dx=none->dx≠x->sp (.ref x::(vs++dh)) (upd (upd H dx (.own x)) x (.ins C dx [])) (λv H2=>v = .aB/\Q (.ref x) H2) E) :
  wpAny (model X.prog X.w) X.A (call (.ref C) us) (EP X pins O Q) X.xe s:=by
 have hq:=h (s.heap.objs.size+1) s.heap.objs.size (I.aD.fresh (ir _)) (I.aD.fresh (aW _)) (bZ (qS _))
 have I2:=Inv.made (C:=C) I
 have r2:Vals (V.ref (s.heap.objs.size+1)::(vs++dh)) (Value.ref (s.heap.objs.size+1)::(us++ds)) := .cons rfl (r.append hd)
 have hl:(Value.ref (s.heap.objs.size+1)::us++ds).length=ps.length:=by
  have e:=r2.length
  rw[F.len _ _ _ _ hq] at e
  exact e.symm
 refine zS (TL (f:=f) I.c6 M.makes M.init (nv.mp M.fn) (wI (F.run _ X.stack _ _ ⟨Value.ref (s.heap.objs.size+1)::us,[]⟩ (Value.ref (s.heap.objs.size+1)::(us++ds)) _ _ E (hr.make C us [])
  (I2.Eh.make C us []) (hb _ (Value.ref (s.heap.objs.size+1)::us) I2.c6 hl) r2 hq) λr s' jC=>?_))
 cases r with
 |error e=>exact hx pins O _ _ e s' I2 jC
 |ok fl=>
  cases fl with
  |ret u=>
   obtain⟨v,H',I3,rv,ev,q3⟩:=I2.after jC
   subst ev
   exact⟨rv,⟨V.ref (s.heap.objs.size+1),H',I3,rfl,q3⟩⟩
  |next=>exact False.elim jC
  |brk=>exact False.elim jC
  |cont=>exact False.elim jC
def Ub(M:Mk X.K C f)(F:aO X.prog X.w X.K X.mg X.base CX k f fd ps sp)(hr:cz (k+1) X.A)(hg:Gl X x)(hm:X.mg x=some (.ref C))(hb:Binds X.K fd ps ds)(hd:Vals dh ds)(hx:Passes CX X E)
  (ha:PA X (e::es) t) (gr:(x==("__debug__":Str))=false:=by decide) (he:starEach (e::es) X.env=(false,eval e X.env)::starEach es X.env:=by rfl) (hpl:(backTo pos (starEach es X.env)).any (·.1)=false:=by rfl) :
  PE X (.Call (.Name x p) (e::es) [] pos) (AD C sp dh E t):=by
 intro pins s O H Q I h
 refine wJ (xj I hg hm ?_ gr)
 refine PySem.W.callWith_K (h₀:=X.base) I.ok.mod.rm M.kp (aE (ha pos pins s O H _ I h) λus s1 ⟨vs,H1,I1,r,q⟩=>⟨I1.c6,?_⟩) he hpl
 exact K6 M F hr hb hd hx I1 r q
def Uc(M:Mk X.K C f)(F:aO X.prog X.w X.K X.mg X.base CX k f fd ps sp)(hr:cz (k+1) X.A)(hg:Gl X x)(hm:X.mg x=some (.ref C))(hb:Binds X.K fd ps ds)(hd:Vals dh ds)(hx:Passes CX X E)
  (gr:(x==("__debug__":Str))=false:=by decide):PE X (.Call (.Name x p) [] [] pos) (AD C sp dh E lY):=by
 intro pins s O H Q I h
 refine wJ (xj I hg hm ?_ gr)
 exact PySem.W.callWith_K0 I.c6 M.kp (K6 (us:=[]) M F hr hb hd hx I .nil h)
end
structure bg(N P:List Str)(sc:Scope):Prop where
 kind:sc.kind = .function:=by first | rfl | decide +kernel
 co:sc.isCoroutine=false:=by first | rfl | decide +kernel
 gen:sc.isGenerator=false:=by first | rfl | decide +kernel
 nd:N.Nodup:=by first | rfl | decide +kernel
 pre:N.take P.length=P:=by first | rfl | decide +kernel
 par:∀x∈P,sc.names.lookup x=some .local\/sc.names.lookup x=some .cell:=by first | rfl | decide +kernel
 Ud:∀y∈sc.names,y.2 ≠ .free:=by first | rfl | decide +kernel
theorem K7{kindOf:Str->Option NameKind}{x:Str}:∀{binds:List (Str×Value)}{m:Str->Option Value},(∀v,(x,v)∉binds)->bindL kindOf binds m x=m x
 |[],_,_=>rfl
 |(n,v)::r,m,h=>by
  unfold bindL
  rw[K7 λw hw=>h w (bX _ hw)]
  split
  .have:x≠n:=by rintro rfl;exact h v bt
   simp[this]
  .rfl
theorem K8{kindOf:Str->Option NameKind}{x:Str}:∀{binds:List (Str×Value)}{m:Str->Option Value},(∀v,(x,v)∉binds)->bindC kindOf binds m x=m x
 |[],_,_=>rfl
 |(n,v)::r,m,h=>by
  unfold bindC
  rw[K8 λw hw=>h w (bX _ hw)]
  split
  .rfl
  .have:x≠n:=by rintro rfl;exact h v bt
   simp[this]
theorem K9{kindOf:Str->Option NameKind}{x:Str}{v:Value}:∀{P:List Str}{vs:List Value}{i:Nat}{m:Str->Option Value},P.Nodup->P[i]? = some x->vs[i]? = some v->kindOf x=some .local->
  bindL kindOf (P.zip vs) m x=some v
 |[],_,_,_,_,h,_,_=>by simp at h
 |_::_,[],_,_,_,_,h,_=>by simp at h
 |p::P,w::vs,0,m,nd,h1,h2,hk=>by
  simp at h1 h2;subst h1;subst h2
  show bindL kindOf ((p,w)::P.zip vs) m p=_
  unfold bindL
  rw[K7 λv hv=>(gM.mp nd).1 (List.of_mem_zip hv).1,aA hk]
  simp
 |p::P,w::vs,i+1,m,nd,h1,h2,hk=>by
  show bindL kindOf ((p,w)::P.zip vs) m x=_
  unfold bindL
  exact K9 (i:=i) (gM.mp nd).2 (by simpa using h1) (by simpa using h2) hk
theorem La{kindOf:Str->Option NameKind}{x:Str}{v:Value}:∀{P:List Str}{vs:List Value}{i:Nat}{m:Str->Option Value},P.Nodup->P[i]? = some x->vs[i]? = some v->kindOf x≠some .local->
  bindC kindOf (P.zip vs) m x=some v
 |[],_,_,_,_,h,_,_=>by simp at h
 |_::_,[],_,_,_,_,h,_=>by simp at h
 |p::P,w::vs,0,m,nd,h1,h2,hk=>by
  simp at h1 h2;subst h1;subst h2
  show bindC kindOf ((p,w)::P.zip vs) m p=_
  unfold bindC
  rw[K8 λv hv=>(gM.mp nd).1 (List.of_mem_zip hv).1,ax hk]
  simp
 |p::P,w::vs,i+1,m,nd,h1,h2,hk=>by
  show bindC kindOf ((p,w)::P.zip vs) m x=_
  unfold bindC
  exact La (i:=i) (gM.mp nd).2 (by simpa using h1) (by simpa using h2) hk
noncomputable def start(N:List Str)(vs:List V):St:=vs.map some++List.replicate (N.length - vs.length) none
noncomputable def nP(CX:lZ)(P:Program)(w:World)(K:Frag)(mg:Str->Option Value)(base:Heap)(N:List Str)(qual:Str)(scope:Scope)(f:Addr)(cd:Value)(A:Around)(outer:List Env)(s:Shared)(H:Hp)(E:XK):Cx where
 prog:=P
 w:=w
 K:=K
 mg:=mg
 base:=base
 A:=A.deeper (envOfC qual scope s.heap.objs.size f cd)
 N:=N
 s₀:=s
 H₀:=H
 env:=envOfC qual scope s.heap.objs.size f cd
 outer:=outer
 stack:=envOfC qual scope s.heap.objs.size f cd::outer
 ex:=[]
 calm:=true
 fn:=λ_=>true
 pn:=[]
 xe:=λe s'=>wpAny (model P w) (A.deeper (envOfC qual scope s.heap.objs.size f cd)) (leaving (envOfC qual scope s.heap.objs.size f cd) e) (λ_ Ej=>CX outer H s E e Ej) (λe' Ej=>CX outer H s E e' Ej) s'
def Lb(h:sc.names.lookup x=some .cell):∃c,(cellsFrom n sc.names []).lookup x=some c:=by
 have q:=PySem.W.cellsFrom_some sc.names n [] (.inl h)
 exact Option.isSome_iff_exists.mp q
theorem Ue{CX:lZ}{qual:Str}{f:Addr}{s1:Shared}{E:XK}
  (S:bg N ps scope) (hd:A.handled=none) (e0:kY P w K mg base A outer s H) (hl:vs.length=ps.length) (r:Vals vs us)
  (x:InCallC s s.heap.objs.size (bindL (envOfC qual scope s.heap.objs.size f cd).kindOf (ps.zip us) λ_=>none) (cellsFrom (s.heap.objs.size+1) scope.names []) (bindC (envOfC qual scope s.heap.objs.size f cd).kindOf (ps.zip us) λ_=>none) s1) :
  Inv (nP CX P w K mg base N qual scope f cd A outer s H E) [] (start N vs) H s1:=by
 have hpl:ps.length<=N.length:=by have:=fh List.length S.pre;rw[kL] at this;lia
 obtain⟨h1,tk,rfl,hk⟩:=x.done
 have xy:∀b:Addr,b∉(nP CX P w K mg base N qual scope f cd A outer s H E).ex:=λb z=>absurd (show b∈([]:List Addr) from z) (by simp)
 refine⟨⟨e0.mod,S.kind,rfl,rfl,aW _,λy z c h1 h2=>?_,λy hy=>?_,λy c _ h=>?_,λ_=>hd,Around.frames_deeper e0.frames,.inr ⟨rfl,rfl⟩,λb z=>absurd z (xy b),e0.bs,e0.nK,λb _ _=>xy b,λb z=>absurd z (xy b),e0.jz,e0.pe⟩,
  rfl,e0.bare,Un.kept hk,⟨_,x.toInCall.ns,λi y v h1 h2 h3=>?_⟩,λy c h=>⟨_,x.cell y c h⟩,e0.aD.fresh (aW _),λy c h=>?_,λp hp=>absurd (show p∈([]:List (Addr×Obj)) from hp) (by simp),e0.aD.kept hk,?_⟩
 .exact name_of_addr x.apart (DH h1) (DH h2)
 .have hy:scope.names.lookup y=some .cell\/scope.names.lookup y=some .free:=hy
  rcases hy with hy | hy
  .exact Lb hy
  .exact absurd rfl (S.Ud _ (DH hy))
 .exact zO (x.above y c (DH h))
 .have hi:i<vs.length:=by
   unfold start at h2
   by_cases hi:i<vs.length
   .exact hi
   .rw[zT (by simpa using hi)] at h2
    rw[R6] at h2
    split at h2 <;> cases h2
  have ha:vs[i]? = some v:=by
   unfold start at h2
   rw[JO (by simpa using hi),bE] at h2
   cases e:vs[i]? with
   |none=>rw[e] at h2;cases h2
   |some a=>rw[e] at h2;cases h2;rfl
  obtain⟨u,hu,rv⟩:=r.get ha
  have hp:ps[i]? = some y:=by
   rw[<-S.pre,DI (by lia)];exact h1
  have Lc:ps.Nodup:=by rw[<-S.pre];exact S.nd.sublist (DJ _ _)
  refine⟨u,rv,?_⟩
  rcases S.par y (bj hp) with k | k
  .exact .inl ⟨k,K9 Lc hp hu k⟩
  .obtain⟨c,e⟩:=Lb (n:=s.heap.objs.size+1) k
   refine .inr ⟨.inl k,c,e,?_⟩
   have q:=x.cell y c e
   rw[La Lc hp hu (by show scope.names.lookup y≠_;rw[k];decide)] at q
   exact q
 .exact e0.aD.fresh (zO (x.above y c (DH h)))
 .unfold start
  show _=N.length
  rw[dE,av,tX]
  lia
def AE{CX:lZ}{P:Program}{w:World}{K:Frag}{mg:Str->Option Value}{base:Heap}{k:Nat}{f:Addr}{name qual:Str}{params:Arguments}{body:List Stmt}{scope:Scope}{dV kV doc pm aH ct oc:Value}{an od:Option Addr}
  {j8:Array (Option Value)}{N ps:List Str}{sp:Sp}(lk:K.lookup f=some ⟨oc,od,.func (fnOf name qual params body scope dV kV doc pm an aH ct),j8⟩) (iW:codeIn K aH qual=true) (S:bg N ps scope)
  (len:∀vs H Q E,sp vs H Q E->vs.length=ps.length)
  (nQ:∀(A:Around) (outer:List Env) (s:Shared) (H:Hp) (vs:List V) (Q:VK) (E:XK),cz k (A.deeper (envOfC qual scope s.heap.objs.size f aH))->sp vs H Q E->
   ∃t,gk (nP CX P w K mg base N qual scope f aH A outer s H E) body t/\t { nx:=λ_ H'=>Q .aB H',rt:=Q } (start N vs) H) :
  aO P w K mg base CX (k+1) f (fnOf name qual params body scope dV kV doc pm an aH ct) ps sp:=by
 refine⟨len,λA outer s H args us vs Q E hr e0 hb r l0=>?_⟩
 have hl:=len _ _ _ _ l0
 have KX:K.In s.heap:=e0.mod.rm.keeps λb o e=>(e0.bs b o e).1
 have lim:s.heap.NoLimit:=e0.mod.nolimit.keeps λb o e=>(e0.bs b o e).1
 have Ug:∀y∈ps.zip us,scope.names.lookup y.1=some .local\/(scope.names.lookup y.1=some .cell/\((cellsFrom (s.heap.objs.size+1) scope.names []).lookup y.1).isSome=true):=λ⟨n,v⟩ hy=>by
  rcases S.par n (List.of_mem_zip hy).1 with q | q
  .exact .inl q
  .exact .inr ⟨q,PySem.W.cellsFrom_some _ _ _ (.inl q)⟩
 refine codeAny_call_function hr.depth (KX _ _ lk) rfl S.co S.gen rfl (PySem.W.codeRec_of KX iW) (hb _ _ _ _ ?_)
 refine wpAny_newFunctionEnv_cells S.kind Ug λenv he s1 x=>?_
 subst he
 refine⟨lim.keeps x.toInCall.keep,codeAny_func ?_⟩
 obtain⟨t,ht,hq⟩:=nQ A outer s H vs Q E (hr.deeper _) l0
 have I:Inv (nP CX P w K mg base N qual scope f aH A outer s H E) [] (start N vs) H s1:=Ue S hr.hd e0 hl r x
 refine jV (ht [] s1 (start N vs) H _ I hq) (λfl s' hs=>?_) λe s' hs=>hs
 have fin:∀{O':St}{H':Hp}{v:V}{u:Value},Inv (nP CX P w K mg base N qual scope f aH A outer s H E) [] O' H' s'->RelV v u->Q v H'->CE outer P w H s Q u s':=
  λ{O' H' v u} J rv q=>⟨v,H',J.os,J.bare,J.base,J.aD,rv,q⟩
 cases fl with
 |ret u=>
  obtain⟨v,O',H',J,rv,q⟩:=hs
  exact fin J rv q
 |next=>
  obtain⟨O',H',J,q⟩:=hs
  exact fin (v:=V.aB) (u:=Value.none) J rfl q
 |brk=>
  obtain⟨_,_,_,q⟩:=hs
  exact False.elim q
 |cont=>
  obtain⟨_,_,_,q⟩:=hs
  exact False.elim q
section
variable{X:Cx}{x:Str}{p pos:Pos}{e:Expr}{es:List Expr}{t:TA}{id T:String}{r:List V->Hp->VK->Prop}
def Ld(r:List V->Hp->VK->Prop)(t:TA):TE:=λO H Q=>t O H λvs H1=>r vs H1 Q
def bc(hc:gn X (.builtin id) r)(hg:Gl X x)(hm:X.mg x=none)(hv:bootBuiltins x=some (.builtin id))(ha:PA X (e::es) t)(hn:x≠"__name__":=by decide)(gr:(x==("__debug__":Str))=false:=by decide)
  (he:starEach (e::es) X.env=(false,eval e X.env)::starEach es X.env:=by rfl) (hpl:(backTo pos (starEach es X.env)).any (·.1)=false:=by rfl):PE X (.Call (.Name x p) (e::es) [] pos) (Ld r t):=by
 intro pins s O H Q I h
 refine wJ (ph I hg hm hv ?_ hn gr)
 exact PyProof.Rows.callWith_builtin1 (aE (ha pos pins s O H _ I h) λus s1 ⟨vs,H1,I1,r1,q1⟩=>hc pins s1 O H1 vs us Q I1 r1 q1) he hpl
def iZ(hc:gn X (.type T) r)(hg:Gl X x)(hm:X.mg x=none)(hv:bootBuiltins x=some (.type T))(ha:PA X (e::es) t)(hn:x≠"__name__":=by decide)(gr:(x==("__debug__":Str))=false:=by decide)
  (he:starEach (e::es) X.env=(false,eval e X.env)::starEach es X.env:=by rfl) (hpl:(backTo pos (starEach es X.env)).any (·.1)=false:=by rfl):PE X (.Call (.Name x p) (e::es) [] pos) (Ld r t):=by
 intro pins s O H Q I h
 refine wJ (ph I hg hm hv ?_ hn gr)
 exact DF (aE (ha pos pins s O H _ I h) λus s1 ⟨vs,H1,I1,r1,q1⟩=>hc pins s1 O H1 vs us Q I1 r1 q1) he hpl
end
end L2
namespace HT
open PySem PyProof.Rows
variable{items l3:Array Value}{Q:Value->Shared->Prop}
noncomputable def lexLt:List Int->List Int->Bool
 |[],[]=>false
 |[],_::_=>true
 |_::_,[]=>false
 |x::xs,y::ys=>if x=y then lexLt xs ys else decide (x<y)
def Le(x y:Int)(xs ys:List Int):lexLt (x::xs) (y::ys)=if x=y then lexLt xs ys else decide (x<y):=rfl
def Uh:lexLt [] []=false:=rfl
def Ui(y:Int)(ys:List Int):lexLt [] (y::ys)=true:=rfl
def Uj(x:Int)(xs:List Int):lexLt (x::xs) []=false:=rfl
def Uk(A:Around)(s:Shared)(a:Int)(t:Tok)(c:Int)(u:Tok):∃e,SeqAt.EqAt A s (.int a t) (.int c u) e/\(e=true↔a=c):=
 ⟨(a==c),SeqAt.EqAt.int_int a t c u,by simp⟩
def Ul(A:Around)(s:Shared)(a:Int)(t:Tok)(c:Int)(u:Tok)(prog:Program)(w:World)(E:Value->Shared->Prop)(Q:Value->Shared->Prop)(h:Q (.bool (decide (a<c))) s) :
  wpAny (model prog w) A (richCompare .Lt (.int a t) (.int c u)) Q E s:=
 (PyProof.Rows.lt_int h:wpAny (model prog w) A (compareOp .Lt (.int a t) (.int c u)) Q E s)
section
open PySem.SeqAt
open PySem.AutoSeq1 (wpAny_loadPart')
open PySem.MeetsSeq PySem.MeetsSeq2 PySem.MeetsSeq3
theorem Um(l b:Addr)(items l3:Array Value)(n n2:Nat)(dd Ek:Option Addr)(sl El:Array (Option Value))(ns ms:List Int)(hi:IntsAre items.toList ns)(hj:IntsAre l3.toList ms) :
  Meets (Builtin.«tuple.__lt__» ⟨[.ref l,.ref b],[]⟩)
   (λ_ R s=>s.heap.get? l=some { cls := .type "tuple",dict:=dd,data := .seq items n,slots:=sl }/\s.heap.get? b=some { cls := .type "tuple",dict:=Ek,data := .seq l3 n2,slots:=El } /\
    R (.ok (.ret (.bool (lexLt ns ms)))) s):=
 .of_wp λprog w A R s h=>by
  obtain⟨hp,g,d,tk,os⟩:=s;obtain⟨hl,hb,h⟩:=h
  have f2:=AutoSeq1.sub_tuple_tuple
  have z1:items.size=ns.length:=by rw[<-hi.length];simp
  have z2:l3.size=ms.length:=by rw[<-hj.length];simp
  wp_walk using wpAny_loadPart' hl,wpAny_loadPart' hb,wpAny_forIn_list _ (λrest b s'=>b.1=none/\s'=⟨hp,g,d,tk,os⟩/\∃(vs ws:List Value) (uo uq:List Int),rest=vs.zip ws/\
   IntsAre vs uo/\IntsAre ws uq/\uo.length+l3.size=uq.length+items.size/\R (.ok (.ret (.bool (lexLt uo uq)))) ⟨hp,g,d,tk,os⟩) _
  case turn=>
   rintro⟨y,x⟩ rest b s' ⟨jD,rfl,vs,ws,uo,uq,hz,Em,AH,hlen,hR⟩
   cases Em with
   |nil=>rw[List.zip_nil_left] at hz;cases hz
   |cons a t Uo=>
    cases AH with
    |nil=>rw[List.zip_nil_right] at hz;cases hz
    |cons c u Up=>
     rw[List.zip_cons_cons] at hz
     injection hz with Uq Ur
     injection Uq with hy hx
     subst hy hx
     rw[Le] at hR
     simp only[dC] at hlen
     obtain⟨e,he,Lf⟩:=Uk A.in1 ⟨hp,g,d,tk,os⟩ a t c u
     refine aj (he prog w _ _ ?_)
     cases e with
     |true=>
      rw[aA (Lf.mp rfl)] at hR
      wp_walk
      exact⟨rfl,rfl,_,_,_,_,Ur,Uo,Up,by lia,hR⟩
     |false=>
      rw[ax (λq=>absurd (Lf.mpr q) b0)] at hR
      have Us:=Ul A.in1 ⟨hp,g,d,tk,os⟩ a t c u prog w
      wp_walk using Us
      exact⟨_,rfl,by simpa using hR⟩
  case fin=>
   rintro⟨b1,b2⟩ s' ⟨jD,rfl,vs,ws,uo,uq,hz,Em,AH,hlen,hR⟩
   simp only at jD
   subst jD
   have hv:lexLt uo uq=decide (items.size<l3.size):=by
    cases Em with
    |nil=>
     cases AH with
     |nil=>
      simp only[DK] at hlen
      rw[Uh]
      exact(aN (by lia)).symm
     |cons c u hw=>
      simp only[DK,dC] at hlen
      rw[Ui]
      exact(aJ (by lia)).symm
    |cons a t hv=>
     cases AH with
     |nil=>
      simp only[DK,dC] at hlen
      rw[Uj]
      exact(aN (by lia)).symm
     |cons c u hw=>
      rw[List.zip_cons_cons] at hz
      cases hz
   rw[hv] at hR
   wp_walk
   exact⟨_,rfl,by simpa[Builtin.Tuple.tupleCompareSizes] using hR⟩
  case h=>
   exact⟨rfl,rfl,items.toList,l3.toList,ns,ms,rfl,hi,hj,by lia,h⟩
end
section
variable{prog:Program}{w:World}{A:Around}{E:Value->Shared->Prop}{s:Shared}
def Ut{l b:Addr}{ns ms:List Int}(hl:IsTup s.heap l items)(hb:IsTup s.heap b l3)(hi:IntsAre items.toList ns)(hj:IntsAre l3.toList ms)
  (hu:A.units<cLine) (h:Q (.bool (lexLt ns ms)) s):wpAny (model prog w) A (compareOp .Lt (.ref l) (.ref b)) Q E s:=by
 obtain⟨⟨cls,dd,data,sl⟩,ho,hc,n,hd⟩:=id hl
 obtain⟨⟨afM,Ek,data2,El⟩,jE,rO,n2,hd2⟩:=id hb
 simp only at hc hd rO hd2
 subst hc hd rO hd2
 exact richCompare_meets_room (op := .Lt) ⟨_,ho,rfl⟩ ⟨_,jE,rfl⟩ PySem.F.slot_tuple_lt PySem.F.entry_tuple_lt (PySem.F.args_tuple_lt_2 _ _) (Um l b items l3 n n2 dd Ek sl El ns ms hi hj)
  ⟨ho,jE,show Value.bool (lexLt ns ms)≠Value.notImplemented/\Q (.bool (lexLt ns ms)) s from⟨(λx=>nomatch x),h⟩⟩ hu
noncomputable def gu(n d:Nat):Option Int->Nat
 |none=>d
 |some v=>if v<0 then (v+(n:Int)).toNat else min v.toNat n
def Lg(n d:Nat):gu n d none=d:=rfl
theorem Lh(n d k:Nat):gu n d (some (k:Int))=min k n:=by
 show(if (k:Int)<0 then ((k:Int)+(n:Int)).toNat else min (k:Int).toNat n)=min k n
 rw[ax (by lia),dQ]
end
end HT
namespace L2
open PySem PySem.Spec PyProof.Rows
variable{r:V->Option Int->Option Int->Hp->VK->Prop}{j n t':Nat}{i:Int}{α:Type}{pins:List (Addr×Obj)}{O:St}{H H':Hp}{s:Shared}{a b p:Addr}{xs:List (List Key×Addr×Value)}{cC its:List Value}{f:Array Value->Array Value}{A:Around}{x y:V}{d' u v:Value}{T:String}{o:Option V}{P prog:Program}{w:World}{kvs:List (List Key×V)}{ks:List Key}{E Q:Value->Shared->Prop}{h':Heap}{vs:List (Key×Value)}{X:Cx}
abbrev TO:=St->Hp->(Option Int->Hp->Prop)->Prop
def PO(X:Cx)(e:Option Expr)(t:TO):Prop:=
 ∀(pins:List (Addr×Obj)) (s:Shared) (O:St) (H:Hp) (Q:Option Int->Hp->Prop),Inv X pins O H s->t O H Q->
  wpAny (model X.prog X.w) X.A (evalPart e X.env) (λu s' =>∃o H',Inv X pins O H' s'/\IsPart u o/\Q o H') X.xe s
noncomputable def Uu:TO:=λ_ H Q=>Q none H
noncomputable def Uv(t:TE):TO:=λO H Q=>t O H λx H1=>∃i,x = .int i/\Q (some i) H1
section
variable{X:Cx}{e:Expr}{te:TE}{lo hi:Option Expr}{tl th:TO}{pos p2:Pos}
def l4:PO X none Uu:=by
 intro pins s O H Q I h
 rw[evalPart_none]
 exact aY ⟨none,H,I,.none,h⟩
def l6(h:PE X e te):PO X (some e) (Uv te):=by
 intro pins s O H Q I hw
 rw[evalPart_some]
 refine aE (h pins s O H _ I hw) λu s1 ⟨x,H1,I1,r1,q1⟩=>?_
 obtain⟨i,rfl,q⟩:=q1
 obtain⟨t,rfl⟩:=r1
 exact⟨some i,H1,I1,.int i t,q⟩
def En(X:Cx)(r:V->Option Int->Option Int->Hp->VK->Prop):Prop:=
 ∀(pins:List (Addr×Obj)) (s:Shared) (O:St) (H:Hp) (x:V) (v vl vu:Value) (lo hi:Option Int) (sl:Addr) (Q:VK),Inv X pins O H s->RelV x v->s.heap.IsSliceOf sl vl vu .none->IsPart vl lo->IsPart vu hi->r x lo hi H Q->
  ∃T id,typeLookup (.type T) "__getitem__"=pure (some (.builtin id))/\s.TypeIs v T/\wpAny (model X.prog X.w) X.A (getItem v (.ref sl)) (EP X pins O Q) X.xe s
def Uw(r:V->Option Int->Option Int->Hp->VK->Prop)(te:TE)(tl th:TO):TE:=λO H Q=>te O H λx H1=>tl O H1 λl H2=>th O H2 λu H3=>r x l u H3 Q
def nR(hr:En X r)(he:PE X e te)(hl:PO X lo tl)(hu:PO X hi th):PE X (.Subscript e (.Slice lo hi none p2) pos) (Uw r te tl th):=by
 intro pins s O H Q I h
 refine Subscript_ (aE (he pins s O H _ I h) λv s1 ⟨x,H1,I1,r1,q1⟩=>?_)
 refine wpAny_Slice (aE (hl pins s1 O H1 _ I1 q1) λvl s2 ⟨l,H2,I2,pl,q2⟩=>aE (hu pins s2 O H2 _ I2 q2) λvu s3 ⟨u,H3,I3,pu,q3⟩=>?_)
 rw[evalPart_none]
 refine aY ?_
 have I4:Inv X pins O H3 { s3 with heap:=s3.heap.push { cls := .type "slice",data := .fields #[vl,vu,.none] } }:=I3.kept (t':=s3.toks) λb ob q=>bL _ q
 obtain⟨T,id,hT,ht,hg⟩:=hr pins { s3 with heap:=s3.heap.push { cls := .type "slice",data := .fields #[vl,vu,.none] } } O H3 x v vl vu l u s3.heap.objs.size Q I4 r1 (Heap.IsSliceOf.new ..) pl pu q3
 show wpAny (model X.prog X.w) X.A (subscriptTail e (.Slice lo hi none p2) v (.ref s3.heap.objs.size)) (EP X pins O Q) X.xe { s3 with heap:=s3.heap.push { cls := .type "slice",data := .fields #[vl,vu,.none] } }
 exact tail_any (ops:=[.ref s3.heap.objs.size,v]) ht hT hg (by with_unfolding_all rfl)
noncomputable def kZ(xs:List V)(lo hi:Option Int):List V:=(xs.drop (HT.gu xs.length 0 lo)).take (HT.gu xs.length xs.length hi - HT.gu xs.length 0 lo)
theorem Ux(xs:List V)(lo hi:Option Int):(kZ xs lo hi).length<=xs.length:=by
 unfold kZ
 rw[kL,DL]
 lia
end
noncomputable def k6(n:Nat)(i:Int):Option Nat:=if 0<=i then (if i<n then some i.toNat else none) else if -(n:Int)<=i then some (i+n).toNat else none
noncomputable def eT{α:Type}(xs:List α)(i:Int):Option α:=(k6 xs.length i).bind λj=>xs[j]?
theorem Li(h:k6 n i=some j):seqIndex? i n=some j/\j<n/\ -(n:Int)<=i/\i<n:=by
 unfold k6 at h
 by_cases h0:0<=i
 .rw[aA h0] at h
  by_cases h1:i<n
  .rw[aA h1] at h
   have e:i.toNat=j:=cQ h
   exact⟨by rw[seqIndex_of h0 h1,e],by lia,by lia,h1⟩
  .rw[ax h1] at h;cases h
 .rw[ax h0] at h
  by_cases h1 : -(n:Int)<=i
  .rw[aA h1] at h
   have e:(i+n).toNat=j:=cQ h
   exact⟨by rw[seqIndex_neg (by lia) h1,e],by lia,h1,by lia⟩
  .rw[ax h1] at h;cases h
def Eo{xs:List α}{v:α}(h:eT xs i=some v):∃j,seqIndex? i xs.length=some j/\xs[j]? = some v/\j<xs.length/\ -(xs.length:Int)<=i/\i<xs.length:=by
 unfold eT at h
 cases e:k6 xs.length i with
 |none=>rw[e] at h;cases h
 |some j=>
  rw[e] at h
  obtain⟨h1,h2,h3,h4⟩:=Li e
  exact⟨j,h1,h,h2,h3,h4⟩
theorem c7{xs:List α}{v:α}(h:xs[j]? = some v):eT xs (j:Int)=some v:=by
 have hj:j<xs.length:=(cg.mp h).1
 have e:k6 xs.length (j:Int)=some j:=by
  unfold k6
  rw[aA (by lia),aA (by lia)];simp
 unfold eT;rw[e];exact h
theorem Lj(xs:List α)(v:α):eT (xs++[v]) (-1)=some v:=by
 have hl:(xs++[v]).length=xs.length+1:=by simp
 have e:k6 (xs++[v]).length (-1)=some xs.length:=by
  unfold k6
  rw[hl,ax (by decide),aA (by lia)]
  congr 1
  lia
 unfold eT
 rw[e]
 show(xs++[v])[xs.length]? = some v
 simp
def Ep(b:Expr):Prop := ∀o i,subscripted b false o i=operate [o,i] (getItem o i)
def ur(X:Cx)(r:R2):Prop:=
 ∀(value slice:Expr) (pins:List (Addr×Obj)) (s:Shared) (O:St) (H:Hp) (x y:V) (v u:Value) (Q:VK),Inv X pins O H s->RelV x v->RelV y u->r x y H Q->
  subscripted slice false v u=operate [v,u] (getItem v u)->wpAny (model X.prog X.w) X.A (subscriptTail value slice v u) (EP X pins O Q) X.xe s
def AJ(X:Cx)(id:String)(r:V->List V->Hp->VK->Prop):Prop:=
 ∀(pins:List (Addr×Obj)) (s:Shared) (O:St) (H:Hp) (x:V) (xs:List V) (v:Value) (us:List Value) (Q:VK),Inv X pins O H s->RelV x v->Vals xs us->r x xs H Q->
  wpAny (model X.prog X.w) X.A (call (.builtin id) (v::us)) (EP X pins O Q) X.xe s
section
variable{X:Cx}{a b:Expr}{ta tb:TE}{pos:Pos}
def aM{r:R2}(hr:ur X r)(ha:PE X a ta)(hb:PE X b tb)(hs:Ep b:=by exact λ_ _=>rfl):PE X (.Subscript a b pos) (kU r ta tb):=by
 intro pins s O H Q I h
 exact Subscript_ (Ec ha hb I h λv u s2 x y H2 I2 rx ry q=>hr a b pins s2 O H2 x y v u Q I2 rx ry q (hs _ _))
def Er(K:Frag):R2:=λx y H Q=>∃p xs i v,x = .ref p/\y = .int i/\ai K H p xs/\eT xs i=some v/\Q v H
def pG(K:Frag):R2:=λx y H Q=>∃p xs i v,x = .ref p/\y = .int i/\aq K H p xs/\eT xs i=some v/\Q v H
def Uy:R2:=λx y H Q=>∃z i c,x = .str z/\y = .int i/\z.length<=sizeLine/\eT z.cps.toList i=some c/\Q (.str ⟨#[c]⟩) H
theorem d6:ur X (Er X.K):=by
 intro value slice pins s O H x y v u Q I rx ry h hs
 obtain⟨p,xs,i,z,rfl,rfl,hq,he,q⟩:=h
 cases rx
 obtain⟨t,rfl⟩:=ry
 obtain⟨its,r,pl,hz⟩:=I.list hq
 obtain⟨j,h1,h2,h3,h4,h5⟩:=Eo he
 obtain⟨w,ew,k7⟩:=r.get h2
 have hl:=r.length
 have hn:=nN
 have fin:EP X pins O Q w s:=⟨z,H,I,k7,q⟩
 by_cases h0:0<=i
 .have hj:i.toNat=j:=by
   rw[seqIndex_of h0 h5] at h1
   exact cQ h1
  exact item_listR pl.isList h0 (by lia) (by rw[hj];simpa using ew) fin hs
 .have hj:(i+(its.toArray.size:Int)).toNat=j:=by
   rw[seqIndex_neg (by lia) h4] at h1
   rw[bp,<-hl]
   exact cQ h1
  exact subscriptTail_builtinR (x:=w) pl.isList.typeIs slot_list_getitem.lookup
   (wpAny_getItem_list_neg (Q:=λr s'=>r=w/\EP X pins O Q r s') pl.isList (by lia) (by rw[bp] <;> lia) (by lia) (by rw[hj];simpa using ew) ⟨rfl,fin⟩) hs
theorem bO:ur X (pG X.K):=by
 intro value slice pins s O H x y v u Q I rx ry h hs
 obtain⟨p,xs,i,z,rfl,rfl,hq,he,q⟩:=h
 cases rx
 obtain⟨t,rfl⟩:=ry
 obtain⟨its,r,pl,hz⟩:=I.tuple hq
 obtain⟨j,h1,h2,h3,h4,h5⟩:=Eo he
 obtain⟨w,ew,k7⟩:=r.get h2
 have hl:=r.length
 have hn:=nN
 have fin:EP X pins O Q w s:=⟨z,H,I,k7,q⟩
 exact subscriptTail_builtinR (x:=w) pl.typeIs slot_tuple_getitem.lookup
  (getItem_tuple (j:=j) (Q:=λr s'=>r=w/\EP X pins O Q r s') pl (by lia) (by lia) (by rw[bp,<-hl];exact h1) (by simpa using ew) ⟨rfl,fin⟩) hs
theorem fV:ur X Uy:=by
 intro value slice pins s O H x y v u Q I rx ry h hs
 obtain⟨z,i,c,rfl,rfl,hz,he,q⟩:=h
 obtain⟨t,rfl⟩:=rx
 obtain⟨t',rfl⟩:=ry
 obtain⟨j,h1,h2,h3,h4,h5⟩:=Eo he
 have hl:z.cps.toList.length=z.length:=by simp[Str.length]
 rw[hl] at h1 h4 h5
 have hn:=nN
 exact tail_any (typeIs_str s z t) slot_str_getitem.lookup (getItem_str (c:=c) (by
  have e1:decide (i < -(2 ^ 63:Int))=false:=aN (by lia)
  have e2:decide (i>=2 ^ 63)=false:=aN (by lia)
  rw[e1,e2,Bool.or_false]) (by rw[h1];simpa using h2) ⟨.str ⟨#[c]⟩,H,I.tok _,⟨_,rfl⟩,q⟩) hs
def Uz(its:List Value)(n j:Nat)(u:Value):Obj.mapSeq (·.setIfInBounds j u) { cls := .type "list",data := .seq its.toArray n }={ cls := .type "list",data := .seq (its.set j u).toArray n }:=by
 simp[Obj.mapSeq]
theorem Inv.lst{xs:List V}(I:Inv X pins O H s)(h:H p=some (.lst xs)) :
  ∃(its:List Value) (n:Nat),Vals xs its/\s.heap.get? p=some { cls := .type "list",data := .seq its.toArray n }/\xs.length<=sizeLine:=by
 obtain⟨z,its,n,r,e⟩:=I.aD p _ h
 exact⟨its,n,r,e,z⟩
def Inv.UA{xs ys:List V}{n':Nat}{f:Obj->Obj}(I:Inv X pins O H s)(h:H p=some (.lst xs))
  (ho:s.heap.get? p=some { cls := .type "list",data := .seq its.toArray n }) (hf:f { cls := .type "list",data := .seq its.toArray n }={ cls := .type "list",data := .seq cC.toArray n' }) (r:Vals ys cC) (hz:ys.length<=sizeLine) (t:Nat) :
  Inv X pins O (upd H p (.lst ys)) { s with heap:=s.heap.update p f,toks:=t }:=by
 have e:(s.heap.update p f).get? p=some { cls := .type "list",data := .seq cC.toArray n' }:=by
  rw[wK f ho (by rw[hf] <;> rfl),hf]
 refine I.write (x:=p) (e:=p) (by rw[h];trivial) (.inl rfl) (λb u hb q=>(nz _ _ (br hb)).trans q) ⟨_,e⟩ ?_
 exact⟨hz,cC,n',r,e⟩
def UB:V->V->V->Hp->(Hp->Prop)->Prop:=λo i v H Q=>∃p xs k j,o = .ref p/\i = .int k/\H p=some (.lst xs)/\k6 xs.length k=some j/\Q (upd H p (.lst (xs.set j v)))
theorem set_list:Ky X UB:=by
 intro pins s O H o i v ov iv u Q I ro ri rv h
 obtain⟨p,xs,k,j,rfl,rfl,hp,hj,q⟩:=h
 cases ro
 obtain⟨t,rfl⟩:=ri
 obtain⟨its,n,r,ho,hz⟩:=I.lst hp
 obtain⟨h1,h2,h3,h4⟩:=Li hj
 have hl:=r.length
 have hn:=nN
 have I':Inv X pins O (upd H p (.lst (xs.set j v))) { s with heap:=s.heap.update p (Obj.mapSeq (·.setIfInBounds j u)) } :=
  I.UA hp ho (Uz its n j u) (r.set rv j) (by rw[JP];exact hz) s.toks
 by_cases h0:0<=k
 .have hk:k.toNat=j:=by
   rw[seqIndex_of h0 h4] at h1
   exact cQ h1
  exact PySem.W.ki_setAt ho h0 (by lia) (by rw[bp,<-hl];exact h4) (by rw[hk];exact⟨_,I',q⟩)
 .have hk:(k+(its.toArray.size:Int)).toNat=j:=by
   rw[seqIndex_neg (by lia) h3] at h1
   rw[bp,<-hl]
   exact cQ h1
  exact PySem.W.ki_setBack ho (by lia) (by rw[bp,<-hl];exact h3) (by lia) (by rw[hk];exact⟨_,I',q⟩)
theorem UC(lo hi:Option Int)(n:Nat):(sliceBounds lo hi none n).1=((HT.gu n 0 lo:Nat):Int)/\(sliceBounds lo hi none n).2.1=((HT.gu n n hi:Nat):Int)/\(sliceBounds lo hi none n).2.2=1:=by
 refine⟨?_,?_,rfl⟩
 .cases lo with
  |none=>simp[sliceBounds,HT.gu]
  |some i=>
   simp only[sliceBounds,HT.gu,Option.getD_none,show(1:Int)>0 by decide,jW]
   by_cases h:i<0
   .simp only[h,jW] <;> lia
   .simp only[h,qT] <;> lia
 .cases hi with
  |none=>simp[sliceBounds,HT.gu]
  |some i=>
   simp only[sliceBounds,HT.gu,Option.getD_none,show(1:Int)>0 by decide,jW]
   by_cases h:i<0
   .simp only[h,jW] <;> lia
   .simp only[h,qT] <;> lia
def UD(its:List Value)(lo hi:Option Int):slicePick its.toArray lo hi none=((its.drop (HT.gu its.length 0 lo)).take (HT.gu its.length its.length hi - HT.gu its.length 0 lo)).toArray:=by
 obtain⟨h1,h2,h3⟩:=UC lo hi its.toArray.size
 unfold slicePick
 rw[h1,h2,h3]
 simp only[sliceRange_one,pick_run,bp] <;> rfl
def UE(K:Frag):V->Option Int->Option Int->Hp->VK->Prop:=λx lo hi H Q=>∃a xs,x = .ref a/\ai K H a xs/\∀p,H p=none->Q (.ref p) (upd H p (.lst (kZ xs lo hi)))
theorem Es:En X (UE X.K):=by
 intro pins s O H x v vl vu lo hi sl Q I rx hs pl pu h
 obtain⟨a,xs,rfl,hx,q⟩:=h
 cases rx
 obtain⟨its,r,ht,hz⟩:=I.list hx
 have hlen:=r.length
 refine⟨"list",_,slot_list_getitem.lookup,ht.isList.typeIs,?_⟩
 refine wpAny_getItem_list_slice ht.isList hs pl pu .none (by simp) ?_ (by rw[bp] <;> lia)
 rw[UD,<-hlen]
 refine⟨.ref s.heap.objs.size,_,I.laid (t':=s.toks) (o := .lst (kZ xs lo hi)) (λb ob q=>bL _ q) (aW _) ?_,rfl,q _ (I.aD.fresh (aW _))⟩
 exact⟨bQ (Ux xs lo hi) hz,_,0,(r.drop (HT.gu xs.length 0 lo)).take (HT.gu xs.length xs.length hi - HT.gu xs.length 0 lo),cI _ rfl⟩
noncomputable def j9:V->Bool
 |.aB=>true
 |.bl _=>true
 |.int _=>true
 |.str _=>true
 |_=>false
noncomputable def gR:V->V->Bool
 |.aB,.aB=>true
 |.bl a,.bl b=>a==b
 |.bl a,.int b=>(if a then 1 else 0)==b
 |.int a,.bl b=>a==(if b then 1 else 0)
 |.int a,.int b=>a==b
 |.str a,.str b=>a==b
 |_,_=>false
def gv(ry:RelV y u)(rx:RelV x v)(fy:j9 y=true)(fx:j9 x=true):SeqAt.EqAt A s u v (gR y x):=by
 cases y with
 |aB=>
  cases ry
  cases x with
  |aB=>cases rx;exact SeqAt.EqAt.same _
  |bl b=>cases rx;exact SeqAt.EqAt.none_bool b
  |int b=>obtain⟨t,rfl⟩:=rx;exact SeqAt.EqAt.none_int b t
  |str b=>obtain⟨t,rfl⟩:=rx;exact SeqAt.EqAt.none_str b t
  |_=>exact absurd (show false=true from fx) b0
 |bl a=>
  cases ry
  cases x with
  |aB=>cases rx;exact SeqAt.EqAt.bool_none a
  |bl b=>cases rx;exact SeqAt.EqAt.bool_bool a b
  |int b=>obtain⟨t,rfl⟩:=rx;exact SeqAt.EqAt.bool_int a b t
  |str b=>obtain⟨t,rfl⟩:=rx;exact SeqAt.EqAt.bool_str a b t
  |_=>exact absurd (show false=true from fx) b0
 |int a=>
  obtain⟨t',rfl⟩:=ry
  cases x with
  |aB=>cases rx;exact SeqAt.EqAt.int_none a t'
  |bl b=>cases rx;exact SeqAt.EqAt.int_bool a t' b
  |int b=>obtain⟨t,rfl⟩:=rx;exact SeqAt.EqAt.int_int a t' b t
  |str b=>obtain⟨t,rfl⟩:=rx;exact SeqAt.EqAt.int_str a t' b t
  |_=>exact absurd (show false=true from fx) b0
 |str a=>
  obtain⟨t',rfl⟩:=ry
  cases x with
  |aB=>cases rx;exact SeqAt.EqAt.str_none a t'
  |bl b=>cases rx;exact SeqAt.EqAt.str_bool a t' b
  |int b=>obtain⟨t,rfl⟩:=rx;exact SeqAt.EqAt.str_int a t' b t
  |str b=>obtain⟨t,rfl⟩:=rx;exact SeqAt.EqAt.str_str a t' b t
  |_=>exact absurd (show false=true from fx) b0
 |_=>exact absurd (show false=true from fy) b0
noncomputable def nS(x:V)(u:Value):Bool:=match u with
 |.none=>gR .aB x
 |.bool b=>gR (.bl b) x
 |.int i _=>gR (.int i) x
 |.str z _=>gR (.str z) x
 |_=>false
def Lk(r:RelV y u)(f:j9 y=true):nS x u=gR y x:=by
 cases y with
 |aB=>cases r;rfl
 |bl b=>cases r;rfl
 |int i=>obtain⟨t,rfl⟩:=r;rfl
 |str z=>obtain⟨t,rfl⟩:=r;rfl
 |_=>exact absurd (show false=true from f) b0
theorem Et{x:V}:∀{xs:List V}{us:List Value},Vals xs us->xs.all j9=true->us.any (nS x)=xs.any λy=>gR y x
 |_,_,.nil,_=>rfl
 |y::xs,u::us,.cons r t,f=>by
  rw[List.all_cons,eP] at f
  rw[qU,qU,Lk r f.1,Et t f.2]
theorem Eu{A:Around}{s:Shared}{x:V}{v:Value}(rx:RelV x v)(fx:j9 x=true):∀{xs:List V}{us:List Value},Vals xs us->xs.all j9=true->∀u∈us,SeqAt.EqAt A s u v (nS x u)
 |_,_,.nil,_=>λu hu=>by cases hu
 |y::xs,u::us,.cons r t,f=>λu' hu=>by
  rw[List.all_cons,eP] at f
  rcases cf.mp hu with rfl | hu
  .rw[Lk r f.1];exact gv r rx f.1 fx
  .exact Eu rx fx t f.2 u' hu
noncomputable def iB(x:V)(xs:List V):Bool:=xs.any λy=>gR y x
def AK(K:Frag)(neg:Bool):R2:=λx y H Q=>∃p xs,y = .ref p/\(ai K H p xs\/aq K H p xs)/\j9 x=true/\xs.all j9=true/\Q (.bl (if neg then !iB x xs else iB x xs)) H
def uu:cR X (compareOp .NotIn) (AK X.K true):=by
 intro pins s O H x y v u Q I rx ry h
 obtain⟨p,xs,rfl,hq,fx,fs,q⟩:=h
 cases ry
 rcases hq with hq | hq
 .obtain⟨its,r,pl,hz⟩:=I.list hq
  refine SeqAt.notIn_listAt (nS x) pl.isList (λw hw=>Eu rx fx r fs w (by simpa using hw)) ⟨.bl _,H,I,rfl,?_⟩
  rw[show its.toArray.any (nS x)=its.any (nS x) by simp,Et r fs]
  exact q
 .obtain⟨its,r,pl,hz⟩:=I.tuple hq
  refine SeqAt.notIn_tupleAt (nS x) pl (λw hw=>Eu rx fx r fs w (by simpa using hw)) ⟨.bl _,H,I,rfl,?_⟩
  rw[show its.toArray.any (nS x)=its.any (nS x) by simp,Et r fs]
  exact q
theorem d7:gn X (.builtin "len") (λxs H Q=>∃p ys,xs=[.ref p]/\(ai X.K H p ys\/aq X.K H p ys)/\Q (.int ys.length) H):=by
 intro pins s O H xs us Q I r h
 obtain⟨p,ys,rfl,hq,q⟩:=h
 obtain⟨u,rfl,rx⟩:=vals1 r
 cases rx
 have hn:=nN
 rcases hq with hq | hq
 .obtain⟨its,r',pl,hz⟩:=I.list hq
  have hlen:=r'.length
  exact Calls.call_len_list pl.isList (by simp only[bp] <;> lia) ⟨.int ys.length,H,I.tok _,⟨s.toks+1,by rw[bp,hlen]⟩,q⟩
 .obtain⟨its,r',pl,hz⟩:=I.tuple hq
  have hlen:=r'.length
  exact len_tuple pl (by simp only[bp] <;> lia) ⟨.int ys.length,H,I.tok _,⟨s.toks+1,by rw[bp,hlen]⟩,q⟩
theorem eU:gn X (.builtin "len") (λxs H Q=>∃z,xs=[.str z]/\z.length<=sizeLine/\Q (.int z.length) H):=by
 intro pins s O H xs us Q I r h
 obtain⟨z,rfl,hz,q⟩:=h
 obtain⟨u,rfl,t,rfl⟩:=vals1 r
 have hn:=nN
 exact len_str (by lia) ⟨.int z.length,H,I.tok _,⟨_,rfl⟩,q⟩
theorem rP:gn X (.type "list") (λxs H Q=>∃p ys,xs=[.ref p]/\(ai X.K H p ys\/aq X.K H p ys)/\∀l,H l=none->Q (.ref l) (upd H l (.lst ys))):=by
 intro pins s O H xs us Q I r h
 obtain⟨p,ys,rfl,hq,q⟩:=h
 obtain⟨u,rfl,rx⟩:=vals1 r
 cases rx
 have fin:∀(its:List Value),Vals ys its->ys.length<=sizeLine->∀(h':Heap) (c':Nat),(∀b o',s.heap.get? b=some o'->h'.get? b=some o')->
   h'.get? s.heap.objs.size=some { cls := .type "list",dict:=none,data := .seq its.toArray c',slots := #[] }->EP X pins O Q (.ref s.heap.objs.size) { s with heap:=h' }:=λits r' hz h' c' kp e=>
  ⟨.ref s.heap.objs.size,_,I.laid (t':=s.toks) kp (aW _) (show c5 X.prog X.w _ h' _ (.lst ys) from⟨hz,its,c',r',e⟩),rfl,q _ (I.aD.fresh (aW _))⟩
 rcases hq with hq | hq
 .obtain⟨its,r',pl,hz⟩:=I.list hq
  have hlen:=r'.length
  obtain⟨o,ho,hc,n,hd⟩:=pl.isList
  exact call_list_seq p (.inl rfl) ho hc hd (λh' c' kp e=>fin its r' hz h' c' kp e) (by simp only[bp] <;> lia)
 .obtain⟨its,r',pl,hz⟩:=I.tuple hq
  have hlen:=r'.length
  obtain⟨o,ho,hc,n,hd⟩:=pl
  exact call_list_seq p (.inr rfl) ho hc hd (λh' c' kp e=>fin its r' hz h' c' kp e) (by simp only[bp] <;> lia)
theorem xA:gn X (.type "tuple") (λxs H Q=>∃p ys,xs=[.ref p]/\((ai X.K H p ys/\∀l,H l=none->Q (.ref l) (upd H l (.tup ys)))\/(aq X.K H p ys/\Q (.ref p) H))):=by
 intro pins s O H xs us Q I r h
 obtain⟨p,ys,rfl,h⟩:=h
 obtain⟨u,rfl,rx⟩:=vals1 r
 cases rx
 rcases h with ⟨hq,q⟩ | ⟨hq,q⟩
 .obtain⟨its,r',pl,hz⟩:=I.list hq
  have hlen:=r'.length
  refine call_tuple_list pl.isList (λh' kp=>?_) (by simp only[bp] <;> lia)
  have I1:Inv X pins O H { s with heap:=h' }:=I.kept (t':=s.toks) kp
  have I2:Inv X pins O (upd H h'.objs.size (.tup ys)) { s with heap:=h'.push { cls := .type "tuple",data := .seq its.toArray } } :=
   I1.laid (t':=s.toks) (λb o e=>bL _ e) (aW _) (show c5 X.prog X.w _ _ _ (.tup ys) from⟨hz,its,r',IsTup.new _ _⟩)
  exact⟨.ref h'.objs.size,_,I2,rfl,q _ (I1.aD.fresh (aW _))⟩
 .obtain⟨its,r',pl,hz⟩:=I.tuple hq
  exact call_tuple_same pl ⟨.ref p,H,I,rfl,q⟩
def Ll(K:Frag)(T:String)(x:V)(H:Hp):Prop:=match x with
 |.str _=>T="str"
 |.int _=>T="int"
 |.ref p=>(T="list" /\∃xs,ai K H p xs)\/(T="tuple" /\∃o,K.lookup p=some o/\o.cls = .type "tuple"/\o.dict=none)\/
   (T="dict"/\((∃kvs,H p=some (.dK kvs))\/∃kvs,H p=some (.dT kvs)))\/(T="set" /\∃S n,H p=some (.set S n))
 |_=>False
def UG(I:Inv X pins O H s)(r:RelV x v)(ty:Ll X.K T x H) :
  s.TypeIs v T/\∀a,v = .ref a->∃ob,s.heap.get? a=some ob/\ob.dict=none:=by
 cases x with
 |str z=>
  obtain⟨t,rfl⟩:=r
  cases(show T="str" from ty)
  exact⟨typeIs_str s z t,λ_ e=>nomatch e⟩
 |int i=>
  obtain⟨t,rfl⟩:=r
  cases(show T="int" from ty)
  exact⟨typeIs_int s i t,λ_ e=>nomatch e⟩
 |ref p=>
  cases r
  rcases ty with ⟨rfl,xs,hq⟩ | ⟨rfl,o,hk,hc,hd⟩ | ⟨rfl,hk⟩ | ⟨rfl,S,n,hk⟩
  .obtain⟨its,_,pl,_⟩:=I.list hq
   refine⟨pl.isList.typeIs,λa e=>?_⟩
   cases e
   obtain⟨o,n,e,c,hd,_⟩:=pl
   exact⟨o,e,hd⟩
  .refine⟨⟨o,I.c6 p o hk,hc⟩,λa e=>?_⟩
   cases e
   exact⟨o,I.c6 _ o hk,hd⟩
  .have z:∃o,s.heap.get? p=some o/\o.ExactDict:=by
    rcases hk with ⟨kvs,hk⟩ | ⟨kvs,hk⟩
    .obtain⟨_,_,_,_,o,_,_,e,ex,_⟩:=I.aD p _ hk
     exact⟨o,e,ex⟩
    .obtain⟨_,_,_,_,o,_,_,e,ex,_⟩:=I.aD p _ hk
     exact⟨o,e,ex⟩
   obtain⟨o,e,ex⟩:=z
   refine⟨⟨o,e,ex.1⟩,λa e2=>?_⟩
   cases e2
   exact⟨o,e,ex.2.1⟩
  .obtain⟨o,_,_,_,e,ex,_⟩:=I.aD p _ hk
   refine⟨⟨o,e,ex.1⟩,λa e2=>?_⟩
   cases e2
   exact⟨o,e,ex.2.1⟩
 |_=>exact False.elim ty
def Lm(K:Frag)(T:String)(r:V->List V->Hp->VK->Prop)(to:TE)(t:TA):TE:=λO H Q=>to O H λx H1=>Ll K T x H1/\t O H1 λxs H2=>r x xs H2 Q
variable{o e:Expr}{es:List Expr}{to:TE}{t:TA}{name:Str}{apos d8:Pos}{T id:String}{r:V->List V->Hp->VK->Prop}
def fB(pa:PlainAttrs T)(slot:Slot T name id)(Ew:typeOf (.builtin id)=pure (.type "method_descriptor"))(hm:AJ X id r)(ho:PE X o to)(ha:PA X (e::es) t)
  (Ex:attributeBase o name X.env (eval o X.env)=eval o X.env:=by rfl)
  (uv:((backTo d8 (starEach (e::es) X.env)).all (λx=>!x.1)&&(backToKw d8 (keywordEach [] X.env)).all (λx=>x.1.isSome)
   && decide ((e::es).length+([]:List Keyword).length+(if ([]:List Keyword).isEmpty then 0 else 1)<30))=true:=by rfl)
  (Ey:(apos.endLine==d8.line)=true:=by rfl) (hs:starEach (e::es) X.env=(false,eval e X.env)::starEach es X.env:=by rfl) (Ez:(backTo d8 (starEach es X.env)).any (·.1)=false:=by rfl) :
  PE X (.Call (.Attribute o name apos) (e::es) [] d8) (Lm X.K T r to t):=by
 intro pins s O H Q I h
 refine wpAny_Call_method_late Ex uv Ey rfl (aE (ho pins s O H _ I h) λv s1 ⟨x,H1,I1,r1,ty,q1⟩=>?_)
 obtain⟨h1,h2⟩:=UG I1 r1 ty
 refine⟨T,id,pa,slot,Ew,h1,h2,?_⟩
 have hA:=ha d8 pins s1 O H1 _ I1 q1
 rw[hs] at hA ⊢
 refine R7 (by show(false||(backTo d8 (starEach es X.env)).any (·.1))=false;rw[Ez] <;> rfl) (R8 ?_)
 exact aE hA λus s2 ⟨vs,H2,I2,r2,q2⟩=>hm pins s2 O H2 x vs v us Q I2 r1 r2 q2
end
def Ln(X:Cx)(id:String)(r:V->List V->Hp->VK->Prop):Prop:=
 ∀(pins:List (Addr×Obj)) (s:Shared) (O:St) (H:Hp) (x:V) (xs:List V) (v:Value) (us:List Value) (Q:VK),Inv X pins O H s->RelV x v->Vals xs us->r x xs H Q->
  wpAny (model X.prog X.w) X.A (call (.builtin id) (v::us)) (EP X pins O Q) X.xe s
theorem Vals.one:∀{x:V}{us:List Value},Vals [x] us->∃u,us=[u]/\RelV x u
 |_,_,.cons r .nil=>⟨_,rfl,r⟩
theorem Vals.rep{xs:List V}{us:List Value}(h:Vals xs us):∀k:Nat,Vals (List.replicate k xs).flatten (List.replicate k us).flatten
 |0=>.nil
 |k+1=>by
  rw[oS,oS,wL,wL]
  exact Vals.append h (Vals.rep h k)
theorem foldl_rep(its:List Value):∀(k:Nat) (acc:List Value),
  List.foldl (λx1 x2=>x1++x2) acc.toArray (List.replicate k its.toArray)=(acc++(List.replicate k its).flatten).toArray
 |0,acc=>by simp
 |k+1,acc=>by
  have e:acc.toArray++its.toArray=(acc++its).toArray:=by simp
  have e2:(acc++its)++(List.replicate k its).flatten=acc++(List.replicate (k+1) its).flatten:=by
   rw[oS,wL,lQ]
  rw[<-e2,<-foldl_rep its k (acc++its),<-e,oS,List.foldl_cons]
section
variable{X:Cx}{pins:List (Addr×Obj)}{O:St}{H:Hp}{s:Shared}{l b:Addr}{xs ys zs:List V}
def Inv.Lo(I:Inv X pins O H s)(hH:H l=some (.lst xs))
  (e:s.heap.get? l=some { cls := .type "list",data := .seq its.toArray n }) (hf:f its.toArray=cC.toArray) (hv:Vals ys cC) (hz:ys.length<=sizeLine) :
  Inv X pins O (upd H l (.lst ys)) { s with heap:=s.heap.update l (Obj.mapSeq f),toks:=t' }:=by
 have q:=PySem.IsL.update e f
 rw[hf] at q
 refine I.write (x:=l) (e:=l) (by rw[hH];exact trivial) (.inl rfl) (λb' u hb hu=>(nz s.heap (Obj.mapSeq f) (br hb)).trans hu) ⟨_,q⟩ ?_
 exact⟨hz,cC,_,hv,q⟩
def Inv.EA(I:Inv X pins O H s)(hv:Vals ys its)(hz:ys.length<=sizeLine) :
  Inv X pins O (upd H s.heap.objs.size (.lst ys)) { s with heap:=s.heap.push { cls := .type "list",data := .seq its.toArray },toks:=t' } :=
 I.laid (λ_ _ q=>bL _ q) (aW _) ⟨hz,its,0,hv,cI _ rfl⟩
theorem Inv.fresh(I:Inv X pins O H s):H s.heap.objs.size=none:=I.aD.fresh (aW _)
def Inv.pH(I:Inv X pins O H s)(hH:H l=some (.lst xs)):xs.length<=sizeLine/\∃(its:List Value) (n:Nat),Vals xs its/\xs.length=its.length/\s.heap.get? l=some { cls := .type "list",data := .seq its.toArray n }:=by
 obtain⟨z,its,n,r,e⟩:=I.aD l _ hH
 exact⟨z,its,n,r,r.length,e⟩
theorem Lp(h:n<=sizeLine):Builtin.List.listTooLong n=false:=by
 unfold Builtin.List.listTooLong
 exact aN (by lia)
end
section
variable{X:Cx}
def UH:V->List V->Hp->VK->Prop:=λx vs H Q=>∃l xs y,x = .ref l/\vs=[y]/\H l=some (.lst xs)/\xs.length<sizeLine/\Q .aB (upd H l (.lst (xs++[y])))
theorem iC:Ln X "list.append" UH:=by
 intro pins s O H x vs v us Q I rx rv h
 obtain⟨l,xs,y,rfl,rfl,hH,hz,q⟩:=h
 cases rx
 obtain⟨u,rfl,ru⟩:=rv.one
 obtain⟨z,its,n,r,hl,e⟩:=I.pH hH
 refine call_meets F.slot_list_append ⟨_,e,rfl⟩ F.entry_list_append (F.args_list_append_2 _ _) (PySem.list_append l its.toArray n u (by rw[bp];lia)) ⟨e,?_⟩
 refine⟨.aB,_,I.Lo (cC:=its++[u]) hH e (by simp) (r.append (.cons ru .nil)) ?_,rfl,q⟩
 rw[dE,List.length_singleton]
 lia
def UI:V->List V->Hp->VK->Prop:=λx vs H Q=>∃l b xs zs,x = .ref l/\vs=[.ref b]/\H l=some (.lst xs)/\H b=some (.lst zs)/\xs.length+zs.length<=sizeLine/\Q .aB (upd H l (.lst (xs++zs)))
theorem UJ:Ln X "list.extend" UI:=by
 intro pins s O H x vs v us Q I rx rv h
 obtain⟨l,b,xs,zs,rfl,rfl,hH,hB,hz,q⟩:=h
 cases rx
 obtain⟨u,rfl,ru⟩:=rv.one
 cases ru
 obtain⟨z,its,n,r,hl,e⟩:=I.pH hH
 obtain⟨z2,rQ,n2,r2,k8,e2⟩:=I.pH hB
 have hsz:its.toArray.size+rQ.toArray.size<=sizeLine:=by rw[bp,bp];lia
 have EB:¬(!its.toArray.isEmpty&&Builtin.List.listTooLong (its.toArray.size+rQ.toArray.size))=true:=by
  rw[Lp hsz,tY]
  exact b0
 refine call_meets F.slot_list_extend ⟨_,e,rfl⟩ F.entry_list_extend (F.args_list_extend_2 _ _)
  (AutoSeq1.list_extend_list_list_0 l its.toArray n b rQ.toArray n2 EB (by rw[bp];lia) (by lia)) ⟨e,e2,?_⟩
 refine⟨.aB,_,I.Lo (cC:=its++rQ) hH e (by simp) (r.append r2) ?_,rfl,q⟩
 rw[dE]
 lia
def UK:R2:=λx y H Q=>∃l b xs zs,x = .ref l/\y = .ref b/\H l=some (.lst xs)/\H b=some (.lst zs)/\xs.length+zs.length<=sizeLine/\∀p,H p=none->Q (.ref p) (upd H p (.lst (xs++zs)))
theorem EC:cR X (binaryOp .Add) UK:=by
 intro pins s O H x y v u Q I rx ry h
 obtain⟨l,b,xs,zs,rfl,rfl,hH,hB,hz,q⟩:=h
 cases rx
 cases ry
 obtain⟨z,its,n,r,hl,e⟩:=I.pH hH
 obtain⟨z2,rQ,n2,r2,k8,e2⟩:=I.pH hB
 refine PySem.P.add_list e e2 ?_ (by rw[bp,bp];lia)
 have ea:its.toArray++rQ.toArray=(its++rQ).toArray:=by simp
 rw[ea]
 exact⟨.ref _,_,I.EA (t':=s.toks) (r.append r2) (by rw[dE];lia),rfl,q _ I.fresh⟩
def UL:R2:=λx y H Q=>∃l k xs,x = .ref l/\y = .int k/\H l=some (.lst xs)/\ -(2 ^ 63)<=k/\k<2 ^ 63/\xs.length*k.toNat<=sizeLine/\
 ∀p,H p=none->Q (.ref p) (upd H p (.lst (List.replicate k.toNat xs).flatten))
def len_rep(xs:List α)(k:Nat):(List.replicate k xs).flatten.length=k*xs.length:=by
 induction k with
 |zero=>simp
 |succ k ih=>rw[oS,wL,dE,ih,iQ,Nat.add_comm]
theorem UM:cR X (binaryOp .Mult) UL:=by
 intro pins s O H x y v u Q I rx ry h
 obtain⟨l,k,xs,rfl,rfl,hH,h1,h2,hz,q⟩:=h
 cases rx
 obtain⟨t,rfl⟩:=ry
 obtain⟨z,its,n,r,hl,e⟩:=I.pH hH
 have hlen:its.toArray.size*k.toNat<=sizeLine:=by rw[bp,<-hl];exact hz
 have UN:¬its.toArray.size*k.toNat>(2 ^ 63 - 1) / 8:=by
  have:(sizeLine:Nat)<=(2 ^ 63 - 1) / 8:=by decide
  lia
 have cM:¬(!Builtin.List.listFitsIndex k)=true:=by
  rw[fitsIndex_both h1 h2]
  exact b0
 have EB:¬Builtin.List.listTooLong (its.toArray.size*k.toNat)=true:=by
  rw[Lp hlen]
  exact b0
 have AL:List.foldl (λx1 x2=>x1++x2) #[] (List.replicate (if its.toArray.isEmpty=true then 0 else k.toNat) its.toArray)=(List.replicate k.toNat its).flatten.toArray:=by
  have f0:∀m:Nat,List.foldl (λx1 x2=>x1++x2) #[] (List.replicate m its.toArray)=(List.replicate m its).flatten.toArray:=λm=>by
   have:=foldl_rep its m []
   rw[DM] at this
   exact this
  rw[f0]
  cases its with
  |nil=>simp
  |cons a r'=>rw[ax (by simp)]
 refine wpAny_binaryOp_repeat_ref (T:="list") (U:="int") (by decide) ⟨_,e,rfl⟩ (λs'=>typeIs_int s' k t) noFill_list_mul F.fills_int_mul F.slot_int_rmul repeat_list F.slot_int_index.lookup
  (call_meets F.slot_int_rmul (typeIs_int s k t) F.entry_int_rmul (F.args_int_rmul_2 _ _) (int___rmul___int_list k t l its.toArray n)
   ⟨e,rfl,⟨_,e,rfl⟩,call_meets F.slot_list_mul ⟨_,e,rfl⟩ F.entry_list_mul (F.args_list_mul_2 _ _) (AutoListH.list___mul___list_int_3 l its.toArray n k t cM UN EB) ⟨e,?_⟩⟩)
 rw[AL]
 exact⟨.ref _,_,I.EA (t':=s.toks) (r.rep k.toNat) (by rw[len_rep,oU];exact hz),rfl,q _ I.fresh⟩
end
section
variable{κ:Type}[DecidableEq κ]
noncomputable def aQ(kvs:List (κ×V))(k:κ):Option V:=(kvs.find? λkv=>decide (kv.1=k)).map (·.2)
noncomputable def putK(kvs:List (κ×V))(k:κ)(v:V):List (κ×V):=
 if (kvs.any λkv=>decide (kv.1=k))=true then kvs.map (λkv=>if kv.1=k then (kv.1,v) else kv) else kvs++[(k,v)]
def k9{p:κ×V}{r:List (κ×V)}{k:κ}(e:p.1=k):aQ (p::r) k=some p.2:=by simp[aQ,qV,e]
def lb{p:κ×V}{r:List (κ×V)}{k:κ}(e:¬p.1=k):aQ (p::r) k=aQ r k:=by simp[aQ,qV,e]
theorem rR(k:κ):∀kvs:List (κ×V),(kvs.any λkv=>decide (kv.1=k))=(aQ kvs k).isSome
 |[]=>rfl
 |p::r=>by
  rw[qU]
  by_cases e:p.1=k
  .simp only[k9 e,aJ e,Bool.true_or,Option.isSome_some]
  .rw[lb e,aN e,Bool.false_or];exact rR k r
theorem Lq(k j:κ)(y:V):∀kvs:List (κ×V),aQ (kvs.map λkv=>if kv.1=k then (kv.1,y) else kv) j=(aQ kvs j).map λx=>if j=k then y else x
 |[]=>rfl
 |p::r=>by
  have ih:=Lq k j y r
  rw[bI]
  by_cases h:p.1=k
  .rw[aA h]
   by_cases e:p.1=j
   .rw[k9 (p:=(p.1,y)) e,k9 e,iR,aA (e.symm.trans h)]
   .rw[lb (p:=(p.1,y)) e,lb e,ih]
  .rw[ax h]
   by_cases e:p.1=j
   .rw[k9 (p:=p) e,k9 e,iR,ax (λz=>h (e.trans z))]
   .rw[lb (p:=p) e,lb e,ih]
theorem Lr(k j:κ)(y:V):∀kvs:List (κ×V),aQ kvs k=none->aQ (kvs++[(k,y)]) j=if j=k then some y else aQ kvs j
 |[],_=>by
  by_cases e:k=j
  .rw[aA e.symm];exact k9 (p:=(k,y)) e
  .rw[ax (λz=>e z.symm)];exact lb (p:=(k,y)) e
 |p::r,hn=>by
  rw[List.cons_append]
  have hk:¬p.1=k:=λz=>by rw[k9 z] at hn;cases hn
  rw[lb hk] at hn
  have ih:=Lr k j y r hn
  by_cases e:p.1=j
  .rw[k9 e,k9 e,ax (λz=>hk (e.trans z))]
  .rw[lb e,lb e,ih]
def nT(kvs:List (κ×V))(k j:κ)(y:V):aQ (putK kvs k y) j=if j=k then some y else aQ kvs j:=by
 unfold putK
 by_cases a:(kvs.any λkv=>decide (kv.1=k))=true
 .rw[aA a,Lq]
  rw[rR] at a
  by_cases e:j=k
  .obtain⟨x,hx⟩:=Option.isSome_iff_exists.mp a
   rw[aA e,e,hx,iR,aA rfl]
  .rw[ax e]
   cases aQ kvs j with
   |none=>rfl
   |some x=>rw[iR,ax e]
 .rw[ax a]
  refine Lr k j y kvs ?_
  rw[rR] at a
  cases q:aQ kvs k with
  |none=>rfl
  |some x=>rw[q] at a;exact(a rfl).elim
theorem uw(kvs:List (κ×V))(k:κ)(v:V):(putK kvs k v).length<=kvs.length+1:=by
 unfold putK
 split
 .rw[av];lia
 .rw[dE,dC,DK];lia
def rS{kvs:List (κ×V)}{k:κ}(v:V)(h:aQ kvs k=none):putK kvs k v=kvs++[(k,v)]:=by
 unfold putK
 rw[rR,h]
 exact ax (by decide)
def fM.xB{u:Option Value}(r:fM o u):o.isSome=u.isSome:=by
 cases o with
 |none=>cases u with
  |none=>rfl
  |some _=>exact(show False from r).elim
 |some _=>cases u with
  |none=>exact(show False from r).elim
  |some _=>rfl
theorem fM.getD{u:Option Value}{d:V}(r:fM o u)(rd:RelV d d'):RelV (o.getD d) (u.getD d'):=by
 cases o with
 |none=>cases u with
  |none=>exact rd
  |some _=>exact(show False from r).elim
 |some _=>cases u with
  |none=>exact(show False from r).elim
  |some _=>exact r
def KV.val{kvs:List (κ×V)}{vs:List (κ×Value)}(r:KV kvs vs)(k:κ):fM (aQ kvs k) (valueAt vs k):=by
 unfold KV at r
 induction r with
 |nil=>exact True.intro
 |@cons p q ps qs h t ih=>
  obtain⟨h1,h2⟩:=h
  by_cases e:p.1=k
  .have e':q.1=k:=h1.symm.trans e
   have b:valueAt (q::qs) k=some q.2:=by simp[valueAt,qV,e']
   rw[k9 e,b];exact h2
  .have e':¬q.1=k:=λz=>e (h1.trans z)
   have b:valueAt (q::qs) k=valueAt qs k:=by simp[valueAt,qV,e']
   rw[lb e,b];exact ih
theorem KV.any{kvs:List (κ×V)}{vs:List (κ×Value)}(r:KV kvs vs)(k:κ):(kvs.any λkv=>decide (kv.1=k))=vs.any λkv=>decide (kv.1=k):=by
 unfold KV at r
 induction r with
 |nil=>rfl
 |cons h t ih=>rw[qU,qU,ih,h.1]
def KV.ED{kvs:List (κ×V)}{vs:List (κ×Value)}(r:KV kvs vs)(k:κ)(ry:RelV y u) :
  KV (kvs.map λkv=>if kv.1=k then (kv.1,y) else kv) (vs.map λkv=>if kv.1=k then (kv.1,u) else kv):=by
 unfold KV at r ⊢
 induction r with
 |nil=>exact .nil
 |@cons p q ps qs h t ih=>
  rw[bI,bI]
  refine .cons ?_ ih
  obtain⟨h1,h2⟩:=h
  by_cases e:p.1=k
  .rw[aA e,aA (h1.symm.trans e)];exact⟨h1,ry⟩
  .rw[ax e,ax (λz=>e (h1.trans z))];exact⟨h1,h2⟩
def KV.put{kvs:List (κ×V)}{vs:List (κ×Value)}(r:KV kvs vs)(k:κ)(ry:RelV y u):KV (putK kvs k y) (stored vs k u):=by
 unfold putK stored
 rw[r.any k]
 by_cases e:(vs.any λkv=>decide (kv.1=k))=true
 .rw[aA e,aA e];exact r.ED k ry
 .rw[ax e,ax e];exact nA r ⟨rfl,ry⟩
theorem KV.length{kvs:List (κ×V)}{vs:List (κ×Value)}(r:KV kvs vs):kvs.length=vs.length:=fJ r
end
def ux{k:Key}(r:RelV (kV k) u):(dH P w).is k u=true:=by
 cases k with
 |inl i=>obtain⟨t,e⟩:=(show ∃t,u=Value.int i t from r);subst e;exact Su P w i t
 |inr x=>obtain⟨t,e⟩:=(show ∃t,u=Value.str x t from r);subst e;exact Sv P w x t
theorem Ls{P:Program}{w:World}:∀{ks:List Key}{us:List Value},Vals (ks.map kV) us->ItemsAre (dH P w) ks us
 |[],_,r=>by rw[wM] at r;cases r;exact .nil
 |k::ks,_,r=>by
  rw[bI] at r
  cases r with
  |cons h t=>exact .cons (ux h) (Ls t)
abbrev KT(H:Hp):List (List Key×V)->List (List Key×Addr×Value)->Prop:=Paired λp q=>p.1=q.1/\H q.2.1=some (.tup (p.1.map kV))/\RelV p.2 q.2.2
def KT.val(r:KT H kvs xs)(k:List Key):fM (aQ kvs k) ((atKey xs k).map (·.2)):=by
 induction r with
 |nil=>exact True.intro
 |@cons p q ps qs h t ih=>
  obtain⟨h1,_,h2⟩:=h
  by_cases e:p.1=k
  .have e':q.1=k:=h1.symm.trans e
   have b:atKey (q::qs) k=some q.2:=by simp[atKey,qV,e']
   rw[k9 e,b];exact h2
  .have e':¬q.1=k:=λz=>e (h1.trans z)
   have b:atKey (q::qs) k=atKey qs k:=by simp[atKey,qV,e']
   rw[lb e,b];exact ih
def KT.ED(r:KT H kvs xs)(k:List Key)(ry:RelV y u) :
  KT H (kvs.map λkv=>if kv.1=k then (kv.1,y) else kv) (xs.map (putAt k u)):=by
 induction r with
 |nil=>exact .nil
 |@cons p q ps qs h t ih=>
  rw[bI,bI]
  refine .cons ?_ ih
  obtain⟨h1,h2,h3⟩:=h
  unfold putAt
  by_cases e:p.1=k
  .rw[aA e,aA (h1.symm.trans e)];exact⟨h1,h2,ry⟩
  .rw[ax e,ax (λz=>e (h1.trans z))];exact⟨h1,h2,h3⟩
def KT.put(r:KT H kvs xs)(k:List Key)(hb:H b=some (.tup (k.map kV)))(ry:RelV y u) :
  KT H (putK kvs k y) (storedH xs k b u):=by
 have e:(kvs.any λkv=>decide (kv.1=k))=(atKey xs k).isSome:=by
  rw[rR,(r.val k).xB,Option.isSome_map]
 unfold putK storedH
 rw[e]
 by_cases q:(atKey xs k).isSome=true
 .rw[aA q,aA q];exact r.ED k ry
 .rw[ax q,ax q];exact nA r ⟨rfl,hb,ry⟩
def KT.keeps(r:KT H kvs xs)(ht:∀b ys,H b=some (.tup ys)->H' b=some (.tup ys)):KT H' kvs xs:=
 Paired.bU r λ_ _ z=>⟨z.1,ht _ _ z.2.1,z.2.2⟩
section
variable{P:Program}{w:World}{H:Hp}{h:Heap}{a:Addr}
def Lu{u:HO}(ok:dg P w H h)(e:Rd H a u):c5 P w H h a u:=e.ok ok
def rT{kvs:List (Key×V)}(ok:dg P w H h)(e:Rd H a (.dK kvs)):kvs.length<=sizeLine/\(a==sysModules)=false/\∃vs,KV kvs vs/\h.DictOf (dH P w) a vs:=
 show c5 P w H h a (.dK kvs) from Lu ok e
def UO{kvs:List (Key×V)}(ok:dg P w H h)(e:H a=some (.dK kvs)):kvs.length<=sizeLine/\(a==sysModules)=false/\∃vs,KV kvs vs/\h.DictOf (dH P w) a vs:=rT ok (.inl e)
def rV(ok:dg P w H h)(e:H a=some (.tup (ks.map kV))):(tupleKind (dH P w)).is h ks a:=by
 obtain⟨_,its,r,o,h1,h2,n,h3⟩:=(show c5 P w H h a (.tup (ks.map kV)) from ok a _ e)
 exact⟨o,its.toArray,n,h1,h2,h3,by simpa using Ls r⟩
def rW(ok:dg P w H h)(e:Rd H a (.dT kvs)):kvs.length<=sizeLine/\(a==sysModules)=false/\
  ∃xs,KT H kvs xs/\h.DictOfH (tupleKind (dH P w)) a xs:=by
 obtain⟨z,y,xs,r,o,es,ep,h1,h2,h3,h4,h5⟩:=(show c5 P w H h a (.dT kvs) from Lu ok e)
 refine⟨z,y,xs,r,o,es,ep,h1,h2,h3,h4,λx hx=>?_,h5⟩
 have all:∀{l:List (List Key×V)}{m:List (List Key×Addr×Value)},KT H l m->∀x∈m,(tupleKind (dH P w)).is h x.1 x.2.1:=by
  intro l m q
  induction q with
  |nil=>intro x hx;exact nomatch hx
  |@cons p q ps qs hq t ih=>
   intro x hx
   rcases cf.mp hx with e | hx
   .subst e
    exact rV ok (by rw[<-hq.1];exact hq.2.1)
   .exact ih x hx
 exact all r x hx
def Lv(ok:dg P w H h)(e:H a=some (.dT kvs)):kvs.length<=sizeLine/\(a==sysModules)=false/\
  ∃xs,KT H kvs xs/\h.DictOfH (tupleKind (dH P w)) a xs:=rW ok (.inl e)
end
def dU(H:Hp)(a:Addr)(y:V)(r:Option V):Prop:=
 (∃kvs k,Rd H a (.dK kvs)/\y=kV k/\r=aQ kvs k)\/∃kvs k b,Rd H a (.dT kvs)/\y = .ref b/\H b=some (.tup (k.map kV))/\r=aQ kvs k
def lg(H:Hp)(a:Addr)(y v:V)(H':Hp):Prop:=
 (∃kvs k,H a=some (.dK kvs)/\y=kV k/\kvs.length<sizeLine/\H'=upd H a (.dK (putK kvs k v)))\/
 ∃kvs k b,H a=some (.dT kvs)/\y = .ref b/\H b=some (.tup (k.map kV))/\kvs.length<sizeLine/\H'=upd H a (.dT (putK kvs k v))
theorem dU.k{H:Hp}{a:Addr}{kvs:List (Key×V)}{k:Key}(e:H a=some (.dK kvs)):dU H a (kV k) (aQ kvs k) := .inl ⟨kvs,k,.inl e,rfl,rfl⟩
def dU.t{k:List Key}(e:H a=some (.dT kvs))(eb:H b=some (.tup (k.map kV))):dU H a (.ref b) (aQ kvs k) := .inr ⟨kvs,k,b,.inl e,rfl,eb,rfl⟩
theorem lg.k{H:Hp}{a:Addr}{kvs:List (Key×V)}{k:Key}{v:V}(e:H a=some (.dK kvs))(hl:kvs.length<sizeLine):lg H a (kV k) v (upd H a (.dK (putK kvs k v))) := .inl ⟨kvs,k,e,rfl,hl,rfl⟩
def lg.t{k:List Key}{v:V}(e:H a=some (.dT kvs))(eb:H b=some (.tup (k.map kV)))(hl:kvs.length<sizeLine) :
  lg H a (.ref b) v (upd H a (.dT (putK kvs k v))) := .inr ⟨kvs,k,b,e,rfl,eb,hl,rfl⟩
section
variable{X:Cx}{pins:List (Addr×Obj)}{O:St}{H:Hp}{s:Shared}{a:Addr}{y v:V}{u r:Value}{o:Option V}{A:Around}{E:Value->Shared->Prop}
def Inv.big(I:Inv X pins O H s):sysModules<s.heap.objs.size:=by
 have h:mainGlobals<s.heap.objs.size:=(I.mod.glob.keeps I.bk).lt
 exact Nat.lt_trans (by decide) h
def UP(hu:A.units+1<cLine)(I:Inv X pins O H s)(g:dU H a y (some v))(ry:RelV y u)(h:∀w' s',Inv X pins O H s'->RelV v w'->Q w' s') :
  wpAny (model X.prog X.w) A (getItem (.ref a) u) Q E s:=by
 rcases g with ⟨kvs,k,e,ey,l⟩ | ⟨kvs,k,b,e,ey,eb,l⟩
 .subst ey
  obtain⟨z,hd,vs,rel,dd⟩:=rT I.aD e
  obtain⟨w',hw,k7⟩:=fM.some_of (v:=v) (o:=valueAt vs k) (by rw[l];exact rel.val k)
  exact wpAny_getItem_of (ux ry) dd.mapOf hw (h w' _ (I.tok _) k7)
 .subst ey
  cases(show u=Value.ref b from ry)
  obtain⟨z,hd,xs,rel,dd⟩:=rW I.aD e
  obtain⟨w',hw,k7⟩:=fM.some_of (v:=v) (o:=(atKey xs k).map (·.2)) (by rw[l];exact rel.val k)
  obtain⟨p,hp,fO⟩:=iS.mp hw
  refine wpAny_getItem_heap (zU hu) (rV I.aD eb) dd hp ?_
  rw[fO]
  exact h w' _ (I.tok _) k7
def UQ(hu:A.units+1<cLine)(I:Inv X pins O H s)(g:dU H a y o)(ry:RelV y u)(h:∀s',Inv X pins O H s'->Q (.bool o.isSome) s') :
  wpAny (model X.prog X.w) A (compareOp .In u (.ref a)) Q E s:=by
 rcases g with ⟨kvs,k,e,ey,l⟩ | ⟨kvs,k,b,e,ey,eb,l⟩
 .subst ey
  obtain⟨z,hd,vs,rel,dd⟩:=rT I.aD e
  refine wpAny_in_of (ux ry) hd dd.mapOf ?_
  rw[<-(rel.val k).xB,<-l]
  exact h _ (I.tok _)
 .subst ey
  cases(show u=Value.ref b from ry)
  obtain⟨z,hd,xs,rel,dd⟩:=rW I.aD e
  refine wpAny_in_heap (zU hu) (rV I.aD eb) hd dd ?_
  have q:=(rel.val k).xB
  rw[Option.isSome_map] at q
  rw[<-q,<-l]
  exact h _ (I.tok _)
def UR(hu:A.units+1<cLine)(I:Inv X pins O H s)(g:dU H a y o)(ry:RelV y u)(h:∀s',Inv X pins O H s'->Q (.bool (!o.isSome)) s') :
  wpAny (model X.prog X.w) A (compareOp .NotIn u (.ref a)) Q E s:=by
 rcases g with ⟨kvs,k,e,ey,l⟩ | ⟨kvs,k,b,e,ey,eb,l⟩
 .subst ey
  obtain⟨z,hd,vs,rel,dd⟩:=rT I.aD e
  refine wpAny_notIn_of (ux ry) hd dd.mapOf ?_
  rw[<-(rel.val k).xB,<-l]
  exact h _ (I.tok _)
 .subst ey
  cases(show u=Value.ref b from ry)
  obtain⟨z,hd,xs,rel,dd⟩:=rW I.aD e
  refine wpAny_notIn_heap (zU hu) (rV I.aD eb) hd dd ?_
  have q:=(rel.val k).xB
  rw[Option.isSome_map] at q
  rw[<-q,<-l]
  exact h _ (I.tok _)
def EE{ob:HO}(I:Inv X pins O H s)(mu:w8 (H a))(hs:Heap.SameBut a s.heap h')(he:∃q,h'.get? a=some q)(new:c5 X.prog X.w (upd H a ob) h' a ob) :
  Inv X pins O (upd H a ob) { s with heap:=h',toks:=t' } :=
 I.write (x:=a) (e:=a) mu (.inl rfl) (λb q hb z=>(hs.2 b hb).trans z) he new
def Lw{kvs:List (Key×V)}(z:kvs.length<=sizeLine)(hd:(a==sysModules)=false)(rel:KV kvs vs)(dd:h'.DictOf (dH P w) a vs) :
  c5 P w H' h' a (.dK kvs):=⟨z,hd,vs,rel,dd⟩
theorem US{Q:Unit->Shared->Prop}(hu:A.units+1<cLine)(I:Inv X pins O H s)(g:lg H a y v H')(ry:RelV y u)(rv:RelV v r)(h:∀s',Inv X pins O H' s'->Q () s') :
  wpAny (model X.prog X.w) A (setItem (.ref a) u r) Q E s:=by
 rcases g with ⟨kvs,k,e,ey,l,eH⟩ | ⟨kvs,k,b,e,ey,eb,l,eH⟩
 .subst ey eH
  obtain⟨z,hd,vs,rel,dd⟩:=UO I.aD e
  have hz:vs.length<=sizeLine:=by rw[<-rel.length];exact z
  have hl:(putK kvs k v).length<=sizeLine:=by have:=uw kvs k v;lia
  refine wpAny_setItem_pairs (hsz:=hz) (ux ry) dd λh' uy hs=>h _ ?_
  have he:∃q,h'.get? a=some q:=let ⟨q,_,_,hq,_⟩:=uy;⟨q,hq⟩
  exact EE I (by rw[e];exact True.intro) hs he (Lw hl hd (rel.put k rv) uy)
 .subst ey eH
  cases(show u=Value.ref b from ry)
  obtain⟨z,hd,xs,rel,dd⟩:=Lv I.aD e
  have hz:xs.length<=sizeLine:=by rw[<-fJ rel];exact z
  have hl:(putK kvs k v).length<=sizeLine:=by have:=uw kvs k v;lia
  refine wpAny_setItem_heap (hsz:=hz) (zU hu) (rV I.aD eb) dd λh' uy hs=>h _ ?_
  obtain⟨q,es,ep,hq,h2,h3,h4,_,h5⟩:=uy
  refine EE I (by rw[e];exact True.intro) hs ⟨q,hq⟩ ⟨hl,hd,_,(rel.put k eb rv).keeps λc ys ec=>?_,q,es,ep,hq,h2,h3,h4,h5⟩
  rw[ak (cx ec e (λz=>nomatch z))]
  exact ec
end
def Lx(i:Expr):Prop := ∀ov iv,subscripted i false ov iv=operate [ov,iv] (getItem ov iv)
def UT{env:Env}{value slice:Expr}{pos:Pos}{id:String}
  (hl:typeLookup (.type T) "__getitem__"=pure (some (.builtin id))) (hs:Lx slice)
  (h:wpAny (model prog w) A (eval value env) (λo s₁=>wpAny (model prog w) A (eval slice env) (λi s₂=>s₂.TypeIs o T/\wpAny (model prog w) A (getItem o i) Q E s₂) E s₁) E s) :
  wpAny (model prog w) A (eval (.Subscript value slice pos) env) Q E s:=by
 refine Subscript_ (jV h (λo s₁ h₁=>jV h₁ (λi s₂ h₂=>?_) λ_ _ x=>x) λ_ _ x=>x)
 obtain⟨hT,h₂⟩:=h₂
 unfold subscriptTail
 refine aj ?_
 rw[getitemInPython_of_ne hT.not_modules]
 refine aj (JQ hT hl ?_)
 have fin:wpAny (model prog w) A (subscripted slice false o i) (λr s₃=>wpAny (model prog w) A (letTemporaryGo value o r >>= λ_=>pure r) Q E s₃) E s₂:=by
  rw[hs o i]
  exact wpAny_operating (jV h₂ (λr s₃ h₃=>aj (wpAny_letTemporaryGo (aY h₃))) λ_ _ x=>x)
 first
  |exact aY (aj fin)
  |exact aj (aY (aj fin))
  |exact aj fin
def UU(I:Inv X pins O H s)(g:dU H a y o):s.TypeIs (.ref a) "dict":=by
 rcases g with ⟨kvs,k,e,_,_⟩ | ⟨kvs,k,b,e,_,_,_⟩
 .obtain⟨_,_,vs,_,dd⟩:=rT I.aD e
  exact dd.typeIs
 .obtain⟨_,_,xs,_,dd⟩:=rW I.aD e
  exact dd.typeIs
def UW(td ty:TE):TE:=λO H Q=>td O H λx H1=>ty O H1 λy H2=>∃a v,x = .ref a/\dU H2 a y (some v)/\Q v H2
def UX(ty td:TE):TE:=λO H Q=>ty O H λy H1=>td O H1 λx H2=>∃a o,x = .ref a/\dU H2 a y o/\Q (.bl o.isSome) H2
def UY(ty td:TE):TE:=λO H Q=>ty O H λy H1=>td O H1 λx H2=>∃a o,x = .ref a/\dU H2 a y o/\Q (.bl (!o.isSome)) H2
def UZ(td ty tv:TE):TS:=λD O H=>tv O H λv H1=>td O H1 λx H2=>ty O H2 λy H3=>∃a H4,x = .ref a/\lg H3 a y v H4/\D.nx O H4
section
variable{X:Cx}{o i e value:Expr}{pos pos' nO:Pos}{td ty tv:TE}
def uz(hu:X.A.units+1<cLine)(ho:PE X o td)(hi:PE X i ty)(hs:Lx i):PE X (.Subscript o i pos) (UW td ty):=by
 intro pins s O H Q I h
 refine UT PySem.F.slot_dict_getitem.lookup hs (aE (ho pins s O H _ I h) λu s1 ⟨x,H1,I1,rx,q1⟩=>aE (hi pins s1 O H1 _ I1 q1) λiv s2 h_=>?_)
 obtain⟨y,H2,I2,ry,a,v,ex,g,q2⟩:=h_
 subst ex
 obtain rfl:u=Value.ref a:=rx
 exact⟨UU I2 g,UP hu I2 g ry λw' s3 I3 k7=>⟨v,H2,I3,k7,q2⟩⟩
def EF(hu:X.A.units+1<cLine)(hi:PE X i ty)(ho:PE X o td):PC X .In i o (UX ty td):=by
 intro pins s O H Q I h
 refine aE (hi pins s O H _ I h) λiv s1 ⟨y,H1,I1,ry,q1⟩=>aE (ho pins s1 O H1 _ I1 q1) λu s2 h_=>?_
 obtain⟨x,H2,I2,rx,a,ov,ex,g,q2⟩:=h_
 subst ex
 obtain rfl:u=Value.ref a:=rx
 exact UQ hu I2 g ry λs3 I3=>⟨.bl ov.isSome,H2,I3,rfl,q2⟩
def Ly(hu:X.A.units+1<cLine)(hi:PE X i ty)(ho:PE X o td):PC X .NotIn i o (UY ty td):=by
 intro pins s O H Q I h
 refine aE (hi pins s O H _ I h) λiv s1 ⟨y,H1,I1,ry,q1⟩=>aE (ho pins s1 O H1 _ I1 q1) λu s2 h_=>?_
 obtain⟨x,H2,I2,rx,a,ov,ex,g,q2⟩:=h_
 subst ex
 obtain rfl:u=Value.ref a:=rx
 exact UR hu I2 g ry λs3 I3=>⟨.bl (!ov.isSome),H2,I3,rfl,q2⟩
def xC(hu:X.A.units+1<cLine)(ho:PE X o td)(hi:PE X i ty)(hv:PE X value tv)(hs:swapsWith value (some (.Subscript o i pos')) pos.line X.env=pure false) :
  PS X (.Assign [.Subscript o i pos'] value pos) (UZ td ty tv):=by
 intro pins s O H D I h
 refine wpAny_Assign_Subscript (aE (hv pins s O H _ I h) λr s1 ⟨v,H1,I1,rv,q1⟩=>aE (ho pins s1 O H1 _ I1 q1) λu s2 ⟨x,H2,I2,rx,q2⟩=>aE (hi pins s2 O H2 _ I2 q2) λiv s3 ⟨y,H3,I3,ry,a,H4,ex,g,q3⟩=>?_) hs
 subst ex
 obtain rfl:u=Value.ref a:=rx
 exact US hu I3 g ry rv λs4 I4=>⟨O,H4,I4,q3⟩
end
def U0(h:Heap)(hb:sysModules<h.objs.size):c5 P w H (h.push { cls := .type "dict",data := .dict #[] }) h.objs.size (.dK []):=
 ⟨bu _,tV.mpr (br (bZ hb)),[],.nil,Heap.DictOf.new h⟩
def U1(h:Heap)(hb:sysModules<h.objs.size):c5 P w H (h.push { cls := .type "dict",data := .dict #[] }) h.objs.size (.dT []):=
 ⟨bu _,tV.mpr (br (bZ hb)),[],.nil,_,#[],0,cI _ rfl,⟨rfl,rfl,rfl⟩,rfl,rfl,iT⟩
def U2:TE:=λ_ H Q=>∀p,H p=none->Q (.ref p) (upd H p (.dK []))
def U3:TE:=λ_ H Q=>∀p,H p=none->Q (.ref p) (upd H p (.dT []))
section
variable{X:Cx}{pos:Pos}
def AM:PE X (.Dict [] [] pos) U2:=λpins s O H Q I h=>
 wpAny_Dict_empty ⟨.ref s.heap.objs.size,_,I.laid (a:=s.heap.objs.size) (o := .dK []) (t':=s.toks) (λ_ _ q=>bL _ q) (aW _) (U0 s.heap I.big),rfl,h _ (I.aD.fresh (aW _))⟩
def Lz:PE X (.Dict [] [] pos) U3:=λpins s O H Q I h=>
 wpAny_Dict_empty ⟨.ref s.heap.objs.size,_,I.laid (a:=s.heap.objs.size) (o := .dT []) (t':=s.toks) (λ_ _ q=>bL _ q) (aW _) (U1 s.heap I.big),rfl,h _ (I.aD.fresh (aW _))⟩
end
structure M2(X:Cx)(o:Expr)(m:Str)(apos:Pos)(e f:Expr)(d8:Pos):Prop where
 base:attributeBase o m X.env (eval o X.env)=eval o X.env
 fC:((backTo d8 (starEach [e,f] X.env)).all (λx=>!x.1)&&(backToKw d8 (keywordEach [] X.env)).all (λx=>x.1.isSome)
  && decide (([e,f]:List Expr).length+([]:List Keyword).length+(if ([]:List Keyword).isEmpty then 0 else 1)<30))=true
 line:(apos.endLine==d8.line)=true
 trees:backTo d8 (starEach [e,f] X.env)=[(false,eval e X.env),(false,eval f X.env)]
def EG(H:Hp)(a:Addr):Prop:=(∃kvs,Rd H a (.dK kvs))\/∃kvs,Rd H a (.dT kvs)
def LB(I:Inv X pins O H s)(d:EG H a) :
  s.TypeIs (.ref a) "dict"/\(∀b,Value.ref a = .ref b->∃ob,s.heap.get? b=some ob/\ob.dict=none)/\(a==sysModules)=false:=by
 rcases d with ⟨kvs,e⟩ | ⟨kvs,e⟩
 .obtain⟨_,hd,vs,_,dd⟩:=rT I.aD e
  refine⟨dd.typeIs,λb q=>?_,hd⟩
  cases q
  obtain⟨ob,_,_,h1,h2,_⟩:=dd
  exact⟨ob,h1,h2.2.1⟩
 .obtain⟨_,hd,xs,_,dd⟩:=rW I.aD e
  refine⟨dd.typeIs,λb q=>?_,hd⟩
  cases q
  obtain⟨ob,_,_,h1,h2,_⟩:=dd
  exact⟨ob,h1,h2.2.1⟩
section
variable{X:Cx}{pins:List (Addr×Obj)}{O:St}{H:Hp}{s:Shared}{a:Addr}{y d:V}{u r:Value}{o:Option V}{A:Around}{E:Value->Shared->Prop}
def U4(hu:A.units+1<cLine)(I:Inv X pins O H s)(g:dU H a y o)(ry:RelV y u)(rd:RelV d r)(h:∀w' s',Inv X pins O H s'->RelV (o.getD d) w'->Q w' s') :
  wpAny (model X.prog X.w) A (call (.builtin "dict.get") [.ref a,u,r]) Q E s:=by
 rcases g with ⟨kvs,k,e,ey,l⟩ | ⟨kvs,k,b,e,ey,eb,l⟩
 .subst ey
  obtain⟨z,hd,vs,rel,dd⟩:=rT I.aD e
  refine call_meetsIn R9 dd.typeIs PySem.F.entry_dict_get (PySem.F.args_dict_get_3 _ _ _) (meets_dict_get_default (dH X.prog X.w) a (ux ry) hd r) ⟨_,dd.mapOf,h _ _ (I.tok _) ?_⟩
  rw[l]
  exact(rel.val k).getD rd
 .subst ey
  cases(show u=Value.ref b from ry)
  obtain⟨z,hd,xs,rel,dd⟩:=rW I.aD e
  refine call_meetsIn R9 dd.typeIs PySem.F.entry_dict_get (PySem.F.args_dict_get_3 _ _ _) (meetsH_dict_get_default (tupleKind (dH X.prog X.w)) a b hd r) ⟨zU hu,k,xs,rV I.aD eb,dd,h _ _ (I.tok _) ?_⟩
  rw[l]
  exact(rel.val k).getD rd
end
def U5(td ty tx:TE):TE:=λO H Q=>td O H λx H1=>∃a,x = .ref a/\EG H1 a/\ty O H1 λy H2=>tx O H2 λz H3=>∃o,dU H3 a y o/\Q (o.getD z) H3
section
variable{X:Cx}{o e f:Expr}{apos d8:Pos}{td ty tx:TE}
def LC(hu:X.A.units+1<cLine)(ho:PE X o td)(he:PE X e ty)(hf:PE X f tx)(m:M2 X o "get" apos e f d8):PE X (.Call (.Attribute o "get" apos) [e,f] [] d8) (U5 td ty tx):=by
 intro pins s O H Q I h
 refine wpAny_Call_method m.base m.fC m.line PySem.F.plainAttrs_dict R9 PySem.F.type_dict_get (aE (ho pins s O H _ I h) λu s1 h_=>?_)
 obtain⟨x,H1,I1,rx,a,ex,d,q1⟩:=h_
 subst ex
 obtain rfl:u=Value.ref a:=rx
 obtain⟨t1,t2,_⟩:=LB I1 d
 refine⟨t1,t2,?_⟩
 rw[m.trees]
 refine R7 rfl (R8 (DG (aE (he pins s1 O H1 _ I1 q1) λiv s2 ⟨y,H2,I2,ry,q2⟩=>
  DG (aE (hf pins s2 O H2 _ I2 q2) λfv s3 ⟨z,H3,I3,rz,ov,g,q3⟩=>Calls.spliced_nil ?_))))
 exact U4 hu I3 g ry rz λw' s4 I4 k7=>⟨_,H3,I4,k7,q3⟩
end
end L2
namespace ka
open PySem PySem.W PySem.Calls PyProof.Rows
variable{P:Params}{h:Heap}{l:OpenLaw}{n:Nat}{args:List WData}{vals:List Value}{q:Program}{loose:List Str}{XP:(Str->Option Value)->Heap->Prop}{YP:World->Heap->Prop}{d:DefRec}{L:Addr}{m:Str->Option Value}
def U6:∀(ns:List Int) (vs:List Value),WellAll P h vs (ns.map WData.int)->IntsAre vs ns:=by
 intro ns
 induction ns with
 |nil=>
  intro vs w
  rw[wM] at w
  cases w
  exact .nil
 |cons n ns ih=>
  intro vs w
  rw[bI] at w
  cases w with
  |cons a b=>
   cases a
   exact .cons _ _ (ih _ b)
theorem U7(hn:l.most=some n)
  (AN:l.row.toRowW.claim.pre args=true) (rX:WellAll P h vals args) :
  ∃a vs ns,vals=[Value.ref a]/\args=[WData.list (ns.map WData.int)]/\h.get? a=some { cls := .type "list",data := .seq vs.toArray }/\IntsAre vs ns/\ns.length<=n:=by
 have U8:WShape.hasAll [] args [.list .int]=true:=(pre_splitW AN).1
 have hc:l.pre.holds [] { args:=args }=true:=(pre_splitW AN).2
 obtain⟨d,r,rfl,h1,h2⟩:=hasAllW_cons U8
 obtain rfl:=hasAllW_nil h2
 obtain⟨xs,rfl,h3⟩:=hasW_list h1
 obtain⟨ns,rfl⟩:=items_int h3
 have hlen:ns.length<=n:=by
  unfold OpenLaw.pre at hc
  have h4:(WTm.not (.lt (.lit (.int (n:Int))) (.len (.arg 0)))).holds [] { args:=[.list (ns.map .int)] }=true:=by
   have h4:=(holds_andW hc).1
   rw[hn] at h4
   exact h4
  have h5:=condW_of h4 (w_not (w_lt w_lit (w_len_list (w_arg rfl))))
  rw[av] at h5
  refine JR λq=>?_
  have q':(n:Int)<((ns.length:Nat):Int):=by lia
  first
   |(rw[aJ q'] at h5;exact absurd h5 (by decide))
   |(simp at h5;lia)
 cases rX with
 |cons w1 w2=>
  cases w2
  cases w1 with
  |list ho l7=>exact⟨_,_,ns,rfl,rfl,ho,U6 ns _ l7,hlen⟩
def U9(l:OpenLaw)(args:List WData):l.row.toRowW.claim.post args (.bool true) args=true:=
 postW_of (r:=l.row.toRowW) (X:=(true==true))
  (show WShape.has [] (.bool true) .bool=true by first | rfl | decide | simp[WShape.has,WShape.arms,WShape.armsAll])
  (show(WTm.eq .res (.lit (.bool true))).value [] { args:=args,res:=some (.bool true),after:=args }=some (.bool (true==true)) from w_eq_bool (w_res rfl) w_lit) rfl
def Va
  (hn:l.most=some n) (xD:d.params.defaults=[])
  (call:∀(w:World) (s₀ s₁:Shared) (mg mb:Str->Option Value) (fa:Addr) (o:Obj) (pm cd doc:Value) (a:Addr) (vs:List Value) (ns:List Int),
   Ground q loose [] XP w s₀ mg mb s₁.heap->YP w s₁.heap->
   s₁.heap.get? fa=some o->o.data = .func (docDef d.name d.params d.body d.scope pm cd doc)->s₁.heap.CodeRec cd d.name->mg d.name=some (.ref fa)->
   s₁.heap.get? a=some { cls := .type "list",data := .seq vs.toArray }->IntsAre vs ns->ns.length<=n->s₁.gens = #[]->
   codeAny (model l.prog w) callerA (.call (.ref fa) ⟨[.ref a],[]⟩) (λr s'=>r = .ok (.ret (.bool true))/\OldK s₁.heap s'.heap/\s'.os=s₁.os/\AllBare s'.gens) s₁) :
  WalkO q loose XP YP l.row.toRowW d [] (λf vs=>PySem.call f vs):=by
 intro w s₀ s₁ mg mb G Y fa o pm cd doc dV kV ho hd iW hD hmg hg args vals as AN afN hrd rX pI
 obtain rfl:dV = .none:=Dflts.none hD xD
 obtain rfl:kV = .none:=Dflts.noKw hD
 obtain⟨a,vs,ns,rfl,rfl,EH,hints,hlen⟩:=U7 hn AN rX
 refine enter_call (wI (call w s₀ s₁ mg mb fa o pm cd doc a vs ns G Y ho (fd_plain hd) iW hmg EH hints hlen hg) λr s' hq=>?_)
 obtain⟨rfl,h2,h3,h4⟩:=hq
 exact⟨.inl ⟨.bool true,.bool true,[],rfl,λ_=>rfl,.bool true,U9 l _,λ_=>⟨List.Pairwise.nil,λ_ hm=>(nomatch hm)⟩⟩,h2,h3,h4⟩
section
variable{prog:Program}{w:World}{A:Around}{E:Value->Shared->Prop}{s:Shared}{K:Frag}
noncomputable def AO(h:Heap):Heap:={ h with objs := #[] }
def AQ(h:Heap)(b:Addr):(AO h).get? b=none:=by
 cases e:(AO h).get? b with
 |none=>rfl
 |some o=>exact absurd (bS e) (iu _)
noncomputable def ledger(h:Heap)(L d:Addr):List (Addr×Obj):=(List.range h.objs.size).filterMap λa=>if a=L\/a=d then none else (h.get? a).map λo=>(a,o)
def EI{d a:Addr}{o:Obj}:(a,o)∈ledger h L d↔a≠L/\a≠d/\h.get? a=some o:=by
 unfold ledger
 rw[List.mem_filterMap]
 constructor
 .rintro⟨b,_,e⟩
  split at e
  .cases e
  .rename_i hb
   obtain⟨o',ho,e'⟩:=iS.mp e
   cases e'
   exact⟨λq=>hb (.inl q),λq=>hb (.inr q),ho⟩
 .rintro⟨n1,n2,ho⟩
  refine⟨a,ip.mpr (bS ho),?_⟩
  rw[ax (show ¬(a=L\/a=d) from λq=>q.elim n1 n2),ho] <;> rfl
def Vb(n:h.Ns L m):Fr (AO h) L h m:=
 ⟨n,λb o e=>(by rw[AQ] at e;cases e),bu _⟩
end
end ka
namespace L2
open PySem PySem.Spec PyProof.Rows
variable{P q:Program}{w:World}{K:Frag}{mb mg:Str->Option Value}{CX:World->lZ}{a f:Addr}{fd:FuncData}{qual x:Str}{sp:Sp}{s₁:Shared}{vs:List Value}{ns:List Int}{l:OpenLaw}{n:Nat}{loose ps:List Str}{XP:(Str->Option Value)->Heap->Prop}{YP:World->Heap->Prop}{d:DefRec}{st:Stmt}{oc:Value}{an od:Option Addr}{j8:Array (Option Value)}{A B:Prop}{H H':Hp}{xs:List V}
theorem LD:∀{vs:List Value}{ns:List Int},IntsAre vs ns->Vals (ns.map V.int) vs
 |_,_,.nil=>.nil
 |_,_,.cons n t h=>.cons ⟨t,rfl⟩ (LD h)
def EJ(H:Hp):Prop := ∀b,H b=none\/∃o xs,H b=some (.cB o (.lst xs))
def Vc{CX:lZ}{k:Nat}{fa:Addr}
  (KX:K.In s₁.heap) (uA:s₁.heap.Ns mainGlobals mg) (hb:s₁.heap.Ns builtinsNs mb) (xE:∀x:Str,x≠"__name__"->mb x=bootBuiltins x) (Vd:s₁.heap.NoLimit) (hg:s₁.gens = #[])
  (ha:s₁.heap.get? a=some { cls := .type "list",data := .seq vs.toArray }) (hi:IntsAre vs ns) (hl:ns.length<=sizeLine) (hr:cz k callerA)
  (F:∀base:Heap,K.In base->base.Ns mainGlobals mg->aO P w K mg base CX k fa fd [x] sp) (Ve:∀(s:Shared) (u:Value),BindsTo s fd ⟨[u],[]⟩ [(x,u)])
  (l0:∀H:Hp,EJ H->ai K H a (ns.map V.int)->sp [.ref a] H (λv _=>v = .bl true) λ_ _ _=>False)
  (EK:∀H e s',CX [] H s₁ (λ_ _ _=>False) e s'->False) :
  codeAny (model P w) callerA (.call (.ref fa) ⟨[.ref a],[]⟩) (λr s'=>r = .ok (.ret (.bool true))/\OldK s₁.heap s'.heap/\s'.os=s₁.os/\AllBare s'.gens) s₁:=by
 have rv:=LD hi
 have Vf:=hi.length
 have core:∀H:Hp,EJ H->ai K H a (ns.map V.int)->dg P w H s₁.heap->(∀b,H b≠none->b=a)->(H a≠none->K.lookup a=none)->
   codeAny (model P w) callerA (.call (.ref fa) ⟨[.ref a],[]⟩) (λr s'=>r = .ok (.ret (.bool true))/\OldK s₁.heap s'.heap/\s'.os=s₁.os/\AllBare s'.gens) s₁:=by
  intro H hO hS aD hA hK
  have LF:∀{b:Addr}{o:Obj},s₁.heap.get? b=some o->H b=none->(nJ s₁.heap H).get? b=some o:=λe n=>Sz e n
  have xy:∀{b:Addr}{o:Obj}{es:Array DictEntry}{ep:Nat},s₁.heap.get? b=some o->o.data = .dict es ep->H b=none:=λ{b o es ep} e d=>by
   cases q:H b with
   |none=>rfl
   |some u=>
    have e':b=a:=hA b (by rw[q];simp)
    subst e'
    rw[ha] at e;cases e
    have d':Data.seq vs.toArray _=Data.dict es ep:=d
    cases d'
  have AR:∀{b:Addr}{m:Str->Option Value},s₁.heap.Ns b m->(nJ s₁.heap H).Ns b m:=λ{b m} ⟨o,es,ep,e,d,r⟩=>⟨o,es,ep,LF e (xy e d),d,r⟩
  have LG:K.In (nJ s₁.heap H):=λb o e=>LF (KX b o e) (by
   cases q:H b with
   |none=>rfl
   |some u=>
    have e':b=a:=hA b (by rw[q];simp)
    subst e'
    rw[hK (by rw[q];simp)] at e;cases e)
  have hM:Mod K mg (nJ s₁.heap H):=⟨LG,AR uA,⟨mb,AR hb,xE⟩,let ⟨mc,h1,h2⟩:=Vd;⟨mc,AR h1,h2⟩⟩
  have e0:kY P w K mg (nJ s₁.heap H) callerA [] s₁ H:=⟨rfl,hM,λb o e=>SA e,Nat.le_of_eq (Sx _ _),trivial,λb hb=>absurd (show b∈([]:List Addr) from hb) (by simp),aD,.of_eq hg⟩
  refine wI ((F _ LG (AR uA)).run callerA [] s₁ H ⟨[.ref a],[]⟩ [.ref a] [.ref a] _ _ hr e0 (Ve s₁ (.ref a)) (.cons rfl .nil) (l0 H hO hS)) λr s' h=>?_
  cases r with
  |error e=>exact(EK H e s' h).elim
  |ok fl=>
   cases fl with
   |next=>exact False.elim h
   |brk=>exact False.elim h
   |cont=>exact False.elim h
   |ret u=>
    obtain⟨v,H',os,bare,un,Vg,r',q⟩:=h
    have q':v = .bl true:=q
    subst q'
    obtain rfl:u=Value.bool true:=r'
    refine⟨rfl,OldK.of_keep λb o e=>?_,os,bare⟩
    cases q:H b with
    |none=>exact un.keep b o e q (by intro z;exact absurd (show b∈([]:List Addr) from z) (by simp)) (by simp)
    |some u=>
     rcases hO b with z | ⟨ob,xs,z⟩
     .rw[q] at z;cases z
     .have z2:=un.j3 b ob _ z
      obtain⟨e1,_⟩:=aD b _ z
      obtain⟨e2,_⟩:=Vg b _ z2
      rw[e] at e1;cases e1
      exact e2
 cases hk:K.lookup a with
 |some o=>
  have e:=KX a o hk
  rw[ha] at e
  cases e
  refine core (λ_=>none) (λ_=>.inl rfl) (.inr ⟨_,vs.toArray,_,hk,rfl,rfl,rfl,by rw[bp,Vf];exact hl,by simpa using rv⟩) (λb u z=>by have z':(none:Option HO)=some u:=z;cases z') (λb z=>absurd rfl z) λz=>absurd rfl z
 |none=>
  refine core (λb=>if b=a then some (.cB { cls := .type "list",data := .seq vs.toArray } (.lst (ns.map V.int))) else none) (λb=>?_) (.inl (.inr ⟨{ cls := .type "list",data := .seq vs.toArray },aA rfl⟩)) (λb u z=>?_) (λb z=>?_) λ_=>hk
  .by_cases hb:b=a
   .exact .inr ⟨_,_,aA hb⟩
   .exact .inl (ax hb)
  .by_cases hb:b=a
   .have z':=(aA hb).symm.trans z
    cases z'
    subst hb
    exact⟨ha,by rw[av];exact hl,vs,_,rv,ha⟩
   .have z':=(ax hb).symm.trans z
    cases z'
  .by_cases hb:b=a
   .exact hb
   .exact absurd (ax hb) z
def Vh{k:Nat}{K:Params->Frag}{sp:World->Sp}
  (hn:l.most=some n) (rN:n<=sizeLine) (xD:d.params.defaults=[]) (hr:cz k callerA)
  (hY:∀(w:World) (h:Heap),YP w h->(K w.params).In h)
  (F:∀(w:World) (mg:Str->Option Value) (fa:Addr) (h:Heap),(K w.params).In h->h.Ns mainGlobals mg->mg d.name=some (.ref fa)->
   ∃fd:FuncData,(∀(s:Shared) (u:Value),BindsTo s fd ⟨[u],[]⟩ [(x,u)])/\
    ∀base:Heap,(K w.params).In base->base.Ns mainGlobals mg->aO l.prog w (K w.params) mg base (CX w) k fa fd [x] (sp w))
  (l0:∀(w:World) (H:Hp) (a:Addr) (ns:List Int),ns.length<=n->EJ H->ai (K w.params) H a (ns.map V.int)->sp w [.ref a] H (λv _=>v = .bl true) λ_ _ _=>False)
  (EK:∀(w:World) (H:Hp) (s:Shared) (e:Value) (s':Shared),CX w [] H s (λ_ _ _=>False) e s'->False) :
  PySem.W.WalkO q loose XP YP l.row.toRowW d [] (λf vs=>PySem.call f vs):=by
 refine ka.Va hn xD λw s₀ s₁ mg mb fa o pm cd doc a vs ns G Y ho hd iW hmg EH hints hlen hg=>?_
 have KX:=hY w _ Y
 obtain⟨fd,hb,hF⟩:=F w mg fa _ KX G.T.g hmg
 exact Vc KX G.T.g G.T.b G.T.builtins G.T.nolimit hg EH hints (bQ hlen rN) hr hF hb (λH hO hS=>l0 w H a ns hlen hO hS) λH e s'=>EK w H s₁ e s'
noncomputable def inClass(s:Stmt)(j:Nat):Stmt:=match s with
 |.ClassDef _ _ _ body _ _ _ _ _ _ _=>body.getD j (.Pass ⟨0,0,0,0⟩)
 |_=>.Pass ⟨0,0,0,0⟩
noncomputable def pJ(s:Stmt):Arguments:=match s with
 |.FunctionDef _ a _ _ _ _ _ _ _ _=>a
 |_=>{ posonlyargs:=[],args:=[],vararg:=none,kwonlyargs:=[],kw_defaults:=[],kwarg:=none,defaults:=[] }
noncomputable def kb(s:Stmt):List Stmt:=match s with
 |.FunctionDef _ _ b _ _ _ _ _ _ _=>b
 |_=>[]
noncomputable def aV(s:Stmt):Scope:=match s with
 |.FunctionDef _ _ _ _ _ _ sc _ _ _=>sc
 |_=>{ kind := .function,names:=[],isGenerator:=false,isCoroutine:=false }
noncomputable abbrev aR:lZ:=λ_ _ _ _ _ _=>False
abbrev E0:XK:=λ_ _ _=>False
def xF{X:Cx}:Passes aR X E0:=λ_ _ _ _ _ _ _ h=>h.elim
structure aX(K:Frag)(x qual:Str)(st:Stmt)(f:Addr)(fd:FuncData):Prop where
 ex:∃(oc:Value) (od:Option Addr) (kV doc pm:Value) (an:Option Addr) (aH ct:Value) (j8:Array (Option Value)),
  fd=fnOf x qual (pJ st) (kb st) (aV st) .none kV doc pm an aH ct/\K.lookup f=some ⟨oc,od,.func fd,j8⟩/\codeIn K aH qual=true
 kp:keepIn K (.ref f)=true
section
variable{P:Program}{w:World}{K:Frag}{mg:Str->Option Value}{base:Heap}
def aX.ok{N:List Str}{k:Nat}(F:aX K x qual st f fd)(S:bg N ps (aV st))(len:∀vs H Q E,sp vs H Q E->vs.length=ps.length)
  (nQ:∀(aH:Value) (A:Around) (outer:List Env) (s:Shared) (H:Hp) (vs:List V) (Q:VK) (E:XK),cz k (A.deeper (envOfC qual (aV st) s.heap.objs.size f aH))->sp vs H Q E->
   ∃t,gk (nP aR P w K mg base N qual (aV st) f aH A outer s H E).pw (kb st) t/\t { nx:=λ_ H'=>Q .aB H',rt:=Q } (start N vs) H):aO P w K mg base aR (k+1) f fd ps sp:=by
 obtain⟨oc,od,kV,doc,pm,an,aH,ct,j8,rfl,lk,iW⟩:=F.ex
 refine AE lk iW S len λA outer s H vs Q E hr l0=>?_
 obtain⟨t,h,q⟩:=nQ aH A outer s H vs Q E hr l0
 exact⟨t,h.pw,q⟩
def aX.binds(F:aX K x qual st f fd)
  (h:∀(kV doc pm:Value) (an:Option Addr) (aH ct:Value) (us:List Value),us.length=ps.length->bindArgs (fnOf x qual (pJ st) (kb st) (aV st) .none kV doc pm an aH ct) ⟨us,[]⟩=pure (ps.zip us)):Binds K fd ps []:=by
 obtain⟨oc,od,kV,doc,pm,an,aH,ct,j8,rfl,lk,iW⟩:=F.ex
 exact .all (h kV doc pm an aH ct)
def AS{kV doc pm aH ct:Value}(l:K.lookup f=some ⟨oc,od,.func (fnOf x qual (pJ st) (kb st) (aV st) .none kV doc pm an aH ct),j8⟩)
  (c:codeIn K aH qual=true) (k:keepIn K (.ref f)=true):aX K x qual st f (fnOf x qual (pJ st) (kb st) (aV st) .none kV doc pm an aH ct):=⟨⟨oc,od,kV,doc,pm,an,aH,ct,j8,rfl,l,c⟩,k⟩
end
def gS{A:Around}{k:Nat}(hr:cz k A):A.units+1<cLine:=jX (Nat.add_le_add_left (by decide:1<=64) _) hr.units
def LH(h:n<=1000):n<sizeLine:=jX h (by decide)
section
variable{X:Cx}
def pv(i:Nat){pos:Pos}(hN:X.N[i]? = some x:=by rfl)(hv:DY X.env.scope x:=by first | exact Or.inl rfl | exact Or.inr (Or.inl rfl) | exact Or.inr (Or.inr rfl))(hd:(x==("__debug__":Str))=false:=by decide)
  (iW:(x==("__classdict__":Str))=false:=by decide):PE X (.Name x pos) (uf i):=SK hN hv hd iW
end
def aL(h:B):if false=true then A else B:=by
 rw[ax b0]
 exact h
def bf(h:A):if true=true then A else B:=by
 rw[aA rfl]
 exact h
def eE{c:Prop}[Decidable c](h1:c->A)(h2:¬c->B):if c then A else B:=by
 by_cases h:c
 .rw[aA h]
  exact h1 h
 .rw[ax h]
  exact h2 h
def af(H H':Hp):Prop := ∀b o,H b=some o->H' b=some o
def af.refl(H:Hp):af H H:=λ_ _ h=>h
def af.trans{H1 H2:Hp}(a:af H H1)(b:af H1 H2):af H H2:=λc o h=>b c o (a c o h)
def af.free(e:af H H'){l:Addr}(h:H' l=Option.none):H l=Option.none:=by
 cases q:H l with
 |none=>rfl
 |some o=>
  rw[e l o q] at h
  cases h
def af.seq(e:af H H')(h:ai K H a xs):ai K H' a xs:=by
 rcases h with (h | ⟨o,h⟩) | h
 .exact .inl (.inl (e _ _ h))
 .exact .inl (.inr ⟨o,e _ _ h⟩)
 .exact .inr h
section
variable{κ:Type}[DecidableEq κ]
def LI{kvs:List (κ×V)}{k:κ}(h:aQ kvs k=none):¬k∈kvs.map (·.1):=by
 intro m
 obtain⟨p,hp,e⟩:=bM.mp m
 have q:(kvs.any λkv=>decide (kv.1=k))=true:=zV.mpr ⟨p,hp,aJ e⟩
 rw[rR,h] at q
 exact absurd q (by simp)
def EL{kvs:List (κ×V)}{k:κ}{v:V}(h:aQ kvs k=some v):k∈kvs.map (·.1):=by
 have q:(kvs.any λkv=>decide (kv.1=k))=true:=by
  rw[rR,h]
  all_goals rfl
 obtain⟨p,hp,e⟩:=zV.mp q
 exact bM.mpr ⟨p,hp,fK e⟩
theorem LJ:∀{l:List κ}{k:κ},l.Nodup->¬k∈l->(l++[k]).Nodup
 |[],k,_,_=>by simp
 |a::r,k,h,hk=>by
  obtain⟨h1,h2⟩:=gM.mp h
  show(a::(r++[k])).Nodup
  refine gM.mpr ⟨λm=>?_,LJ h2 λm=>hk (cf.mpr (Or.inr m))⟩
  rcases cV.mp m with q | q
  .exact h1 q
  .exact hk (cf.mpr (Or.inl (cj.mp q).symm))
def LK{kvs:List (κ×V)}{k:κ}(v:V)(hn:(kvs.map (·.1)).Nodup)(h:aQ kvs k=none):((putK kvs k v).map (·.1)).Nodup:=by
 rw[rS v h,dF]
 exact LJ hn (LI h)
end
end L2
set_option maxHeartbeats 4000000
namespace L2
open PySem PySem.Spec PyProof.Rows
variable{H H':Hp}{a c globals it:Addr}{o:HO}{K:Frag}{ns own xs:List Str}{prog:Program}{w:World}{A:Around}{R:Result->Shared->Prop}{s s₂:Shared}{ifs:List Expr}{scope:Scope}{env:Env}{x y z:Str}{h h' h2:Heap}{M:Model}{E:Value->Shared->Prop}{cl:List (Str×Addr)}{Q:Env->Shared->Prop}{ck i n:Nat}{X:Cx}{Al pins:List (Addr×Obj)}{O:List (Option V)}{js:List Nat}{fp:List Addr}{m:Str->Option Value}{px py pz tp xM:Pos}{tn:Nat->Heap->Prop}{RR:Value->Addr->Result->Shared->Prop}
def af.cA(H:Hp):af H H:=λ_ _ h=>h
theorem af.upd(h:H a=none):af H (upd H a o):=λb u e=>by rw[ak (bq e h)];exact e
def af.i0(s:af H H')(h:H a=none):af H (L2.upd H' a o):=λb u e=>by rw[ak (bq e h)];exact s b u e
def af.tup{xs:List V}(e:af H H')(h:aq K H a xs):aq K H' a xs:=by
 rcases h with (h | ⟨o,h⟩) | h
 .exact .inl (.inl (e _ _ h))
 .exact .inl (.inr ⟨o,e _ _ h⟩)
 .exact .inr h
theorem Vi{elt target iter:Expr}{pos:Pos}{it acc:Value}(I:Nat->Shared->Prop)
  (turn:∀n s,I n s->wpAny (model prog w) A (pyNext it) (λr s₁=>match r with
   |none=>R (.ok .next) s₁
   |some v=>wpAny (model prog w) A (letOwnedTupleGo target it v) (λ_ s₂=>wpAny (model prog w) A (assign target env v) (λ_ s₃=>
     wpAny (model prog w) A (forIn ifs true λc r=>if r=true then do let ok<-isTrue c env (eval c env);pure (ForInStep.yield ok) else pure (ForInStep.yield r)) (λok s₄=>
      if ok=true then wpAny (model prog w) A (eval elt env) (λx s₅=>
       wpAny (model prog w) A (call (.builtin "list.append") [acc,x]) (λ_ s₆=>∃m,m<n/\I m s₆) (λ_ _=>False) s₅) (λ_ _=>False) s₄
      else ∃m,m<n/\I m s₄) (λ_ _=>False) s₃) (λ_ _=>False) s₂) (λ_ _=>False) s₁) (λ_ _=>False) s)
  (n:Nat) (h:I n s) :
  codeAny (model prog w) A (.compLoop (.ListComp elt [⟨target,iter,ifs,0⟩] scope pos) 0 it acc env) R s:=by
 refine codeAny_loop rfl I (λn s hI=>?_) n h
 show wpAny _ A ((compTurn (.ListComp elt [⟨target,iter,ifs,0⟩] scope pos) 0 it acc env).onRaise (λx=>do noteFrame x env;theTreesLotGoes x)) _ _ s
 refine wpAny_noted ?_
 rw[compTurn_list]
 refine aj (wpAny_standAt (aj (jV (turn n s hI) (λr s₁ h₁=>?_) λ_ _ f=>f.elim)))
 cases r with
 |none=>exact aY h₁
 |some v=>
  refine aj (jV h₁ (λ_ s₂ h₂=>aj (jV h₂ (λ_ s₃ h₃=>aj (jV h₃ (λok s₄ h₄=>?_) λ_ _ f=>f.elim)) λ_ _ f=>f.elim)) λ_ _ f=>f.elim)
  cases ok with
  |false=>exact aY ⟨rfl,h₄⟩
  |true=>
   exact aj (aj (jV h₄ (λx s₅ h₅=>aj (jV h₅ (λ_ s₆ h₆=>aY (aY ⟨rfl,h₆⟩)) λ_ _ f=>f.elim)) λ_ _ f=>f.elim))
noncomputable def nU(own:List Str)(n:Nat):List (Str×Addr):=own.map λx=>(x,n+1)
noncomputable def eV(X:Cx)(xs own ns:List Str)(scope:Scope)(cl:List (Str×Addr))(fp:List Addr)(pins:List (Addr×Obj))(s:Shared)(H:Hp):Cx:=
 { X with N:=xs++ns,s₀:=s,H₀:=H,env:=compEnvC scope (nU own s.heap.objs.size++cl) s.heap.objs.size X.env,outer:=X.stack,ex:=fp,fn:=λy=>own.contains y,pn:=X.pn++pins,xe:=λ_ _=>False }
structure EM(X:Cx)(own:List Str)(scope:Scope)(cl:List (Str×Addr)):Prop where
 LL:closureFor scope X.env=pure cl
 sub:∀x c,cl.lookup x=some c->X.env.cells.lookup x=some c
 all:∀x,((relabel scope X.env).names.lookup x=some .cell\/(relabel scope X.env).names.lookup x=some .free)->x∉own->∃c,cl.lookup x=some c
 kind:scope.kind = .function
 cell:(scope.names.filter λy=>y.2 == .cell).map (·.1)=own
 fC:own.length<=1
 names:∀y∈scope.names,y.2 = .local->scope.names.lookup y.1=some .local
noncomputable def fE(cells:List (Str×Addr)):List (Str×NameKind)->List (Str×Addr)->List (Str×Addr)
 |[],acc=>acc
 |(n,k)::r,acc=>if k == .free then fE cells r ((n,(cells.lookup n).getD 0)::acc) else fE cells r acc
def Vj(h:∀y∈scope.names,y.2 = .free->∃c,env.cells.lookup y.1=some c):closureFor scope env=pure (fE env.cells scope.names []):=by
 unfold closureFor
 suffices H:∀(l:List (Str×NameKind)) (acc:List (Str×Addr)),(∀y∈l,y.2 = .free->∃c,env.cells.lookup y.1=some c)->
   (forIn l acc (λ(x:Str×NameKind) (r:List (Str×Addr))=>(do
    let (name,kind):=x
    let cs:=r
    if (kind==NameKind.free)=true then do
     let a<-cellOf env name
     pure (ForInStep.yield ((name,a)::cs))
    else pure (ForInStep.yield cs):Sem (ForInStep (List (Str×Addr))))):Sem (List (Str×Addr)))=pure (fE env.cells l acc) by
  have:=H scope.names [] h
  simp only at this ⊢
  first | (rw[this];rfl) | exact this | (simp only[this];rfl)
 intro l
 induction l with
 |nil=>intro acc _;rfl
 |cons y r ih=>
  intro acc hy
  obtain⟨n,k⟩:=y
  rw[JS]
  have hr:∀y∈r,y.2 = .free->∃c,env.cells.lookup y.1=some c:=λy m=>hy y (bX _ m)
  cases hk:(k==NameKind.free) with
  |false=>
   simp only[hk,wN,qT,fE]
   exact ih acc hr
  |true=>
   obtain⟨c,ec⟩:=hy (n,k) bt (nv.mp hk)
   simp only[hk,jW,fE,ec,oV]
   have e:cellOf env n=pure c:=by
    unfold cellOf
    rw[show env.cells.lookup n=some c from ec]
   rw[e]
   exact ih ((n,c)::acc) hr
theorem AU(cells:List (Str×Addr))(x:Str):∀(l:List (Str×NameKind)) (acc:List (Str×Addr)),(∀y∈l,y.2 = .free->∃c,cells.lookup y.1=some c)->(∀c,acc.lookup x=some c->cells.lookup x=some c)->
  (∀c,(fE cells l acc).lookup x=some c->cells.lookup x=some c)/\(((x,NameKind.free)∈l\/∃c,acc.lookup x=some c)->∃c,(fE cells l acc).lookup x=some c)
 |[],acc,_,ha=>⟨ha,λh=>h.elim (λz=>nomatch z) id⟩
 |(n,k)::r,acc,hy,ha=>by
  have hr:∀y∈r,y.2 = .free->∃c,cells.lookup y.1=some c:=λy m=>hy y (bX _ m)
  unfold fE
  cases hk:(k==NameKind.free) with
  |false=>
   rw[ax b0]
   obtain⟨h1,h2⟩:=AU cells x r acc hr ha
   refine⟨h1,λh=>h2 ?_⟩
   rcases h with h | h
   .rcases cf.mp h with z | z
    .cases z
     exact absurd hk (by decide)
    .exact .inl z
   .exact .inr h
  |true=>
   rw[aA rfl]
   obtain⟨c,ec⟩:=hy (n,k) bt (nv.mp hk)
   have ec:cells.lookup n=some c:=ec
   rw[ec,oV]
   have Vk:∀d,List.lookup x ((n,c)::acc)=some d->cells.lookup x=some d:=λd e=>by
    rw[qW] at e
    cases hx:x==n with
    |true=>rw[hx] at e;cases e;rw[eq_of_beq hx];exact ec
    |false=>rw[hx] at e;exact ha d e
   obtain⟨h1,h2⟩:=AU cells x r ((n,c)::acc) hr Vk
   refine⟨h1,λh=>h2 ?_⟩
   rcases h with h | ⟨d,h⟩
   .rcases cf.mp h with z | z
    .cases z
     exact .inr ⟨c,by simp[qW]⟩
    .exact .inl z
   .refine .inr ?_
    rw[qW]
    cases hx:x==n with
    |true=>exact⟨c,rfl⟩
    |false=>exact⟨d,h⟩
theorem mem_of_lookupK:∀{l:List (Str×NameKind)}{x:Str}{k:NameKind},l.lookup x=some k->(x,k)∈l
 |[],_,_,h=>by simp at h
 |(n,k')::r,x,k,h=>by
  rw[qW] at h
  cases hx:x==n with
  |true=>rw[hx] at h;cases h;rw[eq_of_beq hx];exact bt
  |false=>rw[hx] at h;exact bX _ (mem_of_lookupK h)
def AV:(∀k,(relabel scope env).names.lookup x=some k->scope.names.lookup x=some k\/(k = .cell/\scope.names.lookup x=some .free))/\
  (∀k,scope.names.lookup x=some k->(relabel scope env).names.lookup x=some k\/(k = .free/\(relabel scope env).names.lookup x=some .cell)):=by
 show(∀k,(scope.names.map λ(n,k)=>if (k==NameKind.free&&env.scope.kind == .function&&env.kindOf n==some .cell) then (n,NameKind.cell) else (n,k)).lookup x=some k->_)/\(∀k,_->(scope.names.map λ(n,k)=>if (k==NameKind.free&&env.scope.kind == .function&&env.kindOf n==some .cell) then (n,NameKind.cell) else (n,k)).lookup x=some k\/(_/\(scope.names.map λ(n,k)=>if (k==NameKind.free&&env.scope.kind == .function&&env.kindOf n==some .cell) then (n,NameKind.cell) else (n,k)).lookup x=some .cell))
 generalize scope.names=l
 induction l with
 |nil=>exact⟨λk h=>by simp at h,λk h=>by simp at h⟩
 |cons y r ih=>
  obtain⟨n,k0⟩:=y
  rw[bI]
  cases hc:(k0==NameKind.free&&env.scope.kind == .function&&env.kindOf n==some .cell) with
  |true=>
   simp only[hc,jW,qW]
   have hf:k0 = .free:=by
    rw[eP,eP] at hc
    exact nv.mp hc.1.1
   cases hx:x==n with
   |true=>exact⟨λk h=>by cases h;exact .inr ⟨rfl,by rw[hf]⟩,λk h=>by cases h;exact .inr ⟨hf,rfl⟩⟩
   |false=>exact ih
  |false=>
   simp only[hc,wN,qT,qW]
   cases hx:x==n with
   |true=>exact⟨λk h=>by cases h;exact .inl rfl,λk h=>by cases h;exact .inl rfl⟩
   |false=>exact ih
theorem xG(n:Nat):∀(l:List (Str×NameKind)) (acc:List (Str×Addr)),((l.filter λy=>y.2 == .cell).map (·.1)=[])->cellsFrom n l acc=acc/\∀h:Heap,pushCells h l=h
 |[],_,_=>⟨rfl,λ_=>rfl⟩
 |(y,k)::r,acc,e=>by
  cases hk:(k==NameKind.cell) with
  |true=>
   rw[dw] at e
   simp only[hk,jW,bI] at e
   cases e
  |false=>
   rw[dw] at e
   simp only[hk,wN,qT] at e
   obtain⟨h1,h2⟩:=xG n r acc e
   unfold cellsFrom
   refine⟨by rw[ax (by rw[hk];exact b0)];exact h1,λh=>?_⟩
   unfold pushCells
   rw[ax (by rw[hk];exact b0)]
   exact h2 h
theorem EN(n:Nat)(x:Str):∀(l:List (Str×NameKind)) (acc:List (Str×Addr)),((l.filter λy=>y.2 == .cell).map (·.1)=[x])->cellsFrom n l acc=(x,n)::acc/\∀h:Heap,pushCells h l=h.push { cls := .type "cell",data := .cell none }
 |[],_,e=>by cases e
 |(y,k)::r,acc,e=>by
  cases hk:(k==NameKind.cell) with
  |true=>
   rw[dw] at e
   simp only[hk,jW,bI] at e
   have e1:y=x:=(List.cons.inj e).1
   have e2:=(List.cons.inj e).2
   subst e1
   obtain⟨h1,_⟩:=xG (n+1) r ((y,n)::acc) e2
   unfold cellsFrom
   refine⟨by rw[aA hk];exact h1,λh=>?_⟩
   unfold pushCells
   rw[aA hk]
   exact(xG 0 r [] e2).2 _
  |false=>
   rw[dw] at e
   simp only[hk,wN,qT] at e
   obtain⟨h1,h2⟩:=EN n x r acc e
   unfold cellsFrom
   refine⟨by rw[ax (by rw[hk];exact b0)];exact h1,λh=>?_⟩
   unfold pushCells
   rw[ax (by rw[hk];exact b0)]
   exact h2 h
noncomputable def AW(h:Heap):List Str->Heap
 |[]=>h
 |_::_=>h.push { cls := .type "cell",data := .cell none }
theorem LM:∀{own:List Str}{b:Addr}{o:Obj},h.get? b=some o->(AW h own).get? b=some o
 |[],_,_,e=>e
 |_::_,_,_,e=>bL _ e
def Vl{qual:Str}{outer:Env}
  (hx:(scope.names.filter λy=>y.2 == .cell).map (·.1)=own) (hl:own.length<=1)
  (hQ:Q (newEnv scope s.heap.objs.size globals (nU own s.heap.objs.size++cl) qual none .none (some outer) builtinsNs) { s with heap:=AW (s.heap.push { cls := .type "dict",data := .dict #[] }) own }) :
  wpAny M A (newFunctionEnv scope globals cl [] qual none .none (some outer)) Q E s:=by
 simp only[newFunctionEnv,Option.isSome_some,jW]
 refine aj (wpAny_alloc ?_)
 refine aj (wpAny_layCells _ (λname kind cells=>by cases Vm:kind==NameKind.cell <;> simp[Vm]) _ _ _ _ ?_)
 refine aj ?_
 rw[List.forIn_nil]
 refine aY (aY ?_)
 have e:(s.heap.push { cls := .type "dict",data := .dict #[] }:Heap).objs.size=s.heap.objs.size+1:=kK ..
 match own,hl,hx,hQ with
 |[],_,hx,hQ=>
  rw[(xG _ scope.names cl hx).1,(xG 0 scope.names [] hx).2]
  exact hQ
 |[x],_,hx,hQ=>
  rw[(EN _ x scope.names cl hx).1,(EN 0 x scope.names [] hx).2]
  dsimp only
  rw[e]
  exact hQ
 |_::_::_,hl,_,_=>simp at hl
def rY(e:List.lookup y (nU own n++cl)=some c):(y∈own/\c=n+1)\/(y∉own/\cl.lookup y=some c):=by
 induction own with
 |nil=>exact .inr ⟨fm,e⟩
 |cons x r ih=>
  have e:List.lookup y ((x,n+1)::(nU r n++cl))=some c:=e
  rw[qW] at e
  cases h:y==x with
  |true=>rw[h] at e;cases e;exact .inl ⟨cf.mpr (.inl (eq_of_beq h)),rfl⟩
  |false=>
   rw[h] at e
   have hn:y≠x:=by intro z;rw[z,zW] at h;cases h
   rcases ih e with ⟨a,b⟩ | ⟨a,b⟩
   .exact .inl ⟨bX _ a,b⟩
   .exact .inr ⟨λz=>(cf.mp z).elim hn a,b⟩
def LN(h:y∉own):List.lookup y (nU own n++cl)=cl.lookup y:=by
 induction own with
 |nil=>rfl
 |cons x r ih=>
  show List.lookup y ((x,n+1)::(nU r n++cl))=_
  rw[qW,tV.mpr λz=>h (by rw[z];exact bt)]
  exact ih λz=>h (bX _ z)
def Vn(h:y∈own):List.lookup y (nU own n++cl)=some (n+1):=by
 induction own with
 |nil=>cases h
 |cons x r ih=>
  show List.lookup y ((x,n+1)::(nU r n++cl))=_
  rw[qW]
  cases hb:y==x with
  |true=>rfl
  |false=>exact ih ((cf.mp h).resolve_left λz=>by rw[z,zW] at hb;cases hb)
noncomputable def rZ(xs own ns:List Str)(names outer:List (Str×NameKind)):Bool:=
 names.all (λy=>(y.2 != .cell||own.contains y.1)&&(y.2 != .free||outer.lookup y.1==some .cell)&&(y.2 != .local||names.lookup y.1==some .local))&&((names.filter λy=>y.2 == .cell).map (·.1)==own)&&decide (own.length<=1)&&xs.all (λx=>names.lookup x==some (if own.contains x then .cell else .local))&&ns.all (λy=>names.lookup y==some .free && !own.contains y)&&decide (xs++ns).Nodup
def LO(I:Inv X pins O H s)(hk:scope.kind = .function)(ho:rZ xs own ns scope.names X.env.scope.names=true) :
  EM X own scope (fE X.env.cells scope.names [])/\(∀y∈ns,X.env.scope.names.lookup y=some .cell)/\(∀y∈ns,((relabel scope X.env).names.lookup y=some .cell\/(relabel scope X.env).names.lookup y=some .free)/\y∉own)/\(∀x∈xs,scope.names.lookup x=some .local\/(scope.names.lookup x=some .cell/\own.contains x=true))/\(xs++ns).Nodup:=by
 unfold rZ at ho
 simp only[eP,lR,wO,bne_iff_ne,nv,decide_eq_true_eq,Bool.not_eq_true',List.contains_eq_mem,decide_eq_false_iff_not] at ho
 obtain⟨⟨⟨⟨⟨h1,h0⟩,hl⟩,h2⟩,h3⟩,h4⟩:=ho
 have nV:∀y∈scope.names,y.2 = .free->∃c,X.env.cells.lookup y.1=some c:=λy m e=>by
  rcases(h1 y m).1.2 with z | z
  .exact absurd e z
  .exact I.ok.has y.1 (.inl z)
 refine⟨⟨Vj nV,λy c e=>(AU X.env.cells y scope.names [] nV (by simp)).1 c e,λy hy bx=>?_,hk,h0,hl,λy m e=>?_⟩,λy m=>?_,λy m=>⟨?_,(h3 y m).2⟩,λx m=>?_,h4⟩
 .refine(AU X.env.cells y scope.names [] nV (by simp)).2 (.inl ?_)
  rcases hy with hy | hy
  .rcases AV.1 _ hy with z | ⟨_,z⟩
   .rcases(h1 _ (mem_of_lookupK z)).1.1 with q | q
    .exact absurd rfl q
    .exact absurd q bx
   .exact mem_of_lookupK z
  .rcases AV.1 _ hy with z | ⟨z,_⟩
   .exact mem_of_lookupK z
   .cases z
 .rcases(h1 y m).2 with z | z
  .exact absurd e z
  .exact z
 .rcases(h1 _ (mem_of_lookupK (h3 y m).1)).1.2 with z | z
  .exact absurd rfl z
  .exact z
 .rcases AV.2 _ (h3 y m).1 with z | ⟨_,z⟩
  .exact .inr z
  .exact .inl z
 .have:=h2 x m
  by_cases hx:x∈own
  .rw[aA hx] at this
   exact .inr ⟨this,by simpa using hx⟩
  .rw[ax hx] at this
   exact .inl this
noncomputable def eJ(js:List Nat)(O:St):St:=js.map λj=>(O[j]?).join
theorem Vo{O:St}{tk:Nat}(I:Inv X pins O H s)
  (L:EM X own scope cl) (hj:js.map (λj=>X.N[j]?)=ns.map some) (pK:∀y∈ns,X.env.scope.names.lookup y=some .cell)
  (bD:∀y∈ns,((relabel scope X.env).names.lookup y=some .cell\/(relabel scope X.env).names.lookup y=some .free)/\y∉own) (iD:∀y∈own,h'.IsCell (s.heap.objs.size+1) none)
  (hf:∀b∈fp,fw X pins H b) (dy:∀b∈fp,b<s.heap.objs.size) (hn:h'.Ns s.heap.objs.size m) (hk:∀b o,s.heap.get? b=some o->h'.get? b=some o) :
  Inv (eV X xs own ns scope cl fp pins s H) [] (xs.map (λ_=>none)++eJ js O) H { s with heap:=h',toks:=tk }:=by
 have LP:∀y c,cl.lookup y=some c->c<s.heap.objs.size:=λy c e=>by
  obtain⟨v,z⟩:=I.cell y c (L.sub _ _ e)
  exact z.lt
 have len:js.length=ns.length:=by have:=fh List.length hj;simpa using this
 refine⟨⟨I.ok.mod,L.kind,I.ok.glob,I.ok.blt,aW _,λy z c h1 h2=>?_,λy hy=>?_,λy c z h1=>?_,I.ok.hd,I.ok.frames,.inl rfl,
  λb hb=>⟨bZ (dy b hb),λy c e=>?_⟩,I.bs,bQ I.ok.nK I.sz,λb o e hb=>?_,λb hb z=>?_,I.stack,I.Ko⟩,
  rfl,I.bare,Un.kept hk,⟨m,hn,λi y v e1 e2 _=>?_⟩,λy c e=>?_,I.fresh,λy c e=>?_,λp hp=>?_,I.aD.kept hk,?_⟩
 .rcases rY h1 with ⟨a,e⟩ | ⟨a,e⟩ <;> rcases rY h2 with ⟨a',e'⟩ | ⟨a',e'⟩
  .have hl:=L.fC
   match own,hl,a,a' with
   |[x],_,a,a'=>rw[cj.mp a,cj.mp a']
   |[],_,a,_=>cases a
   |_::_::_,hl,_,_=>simp at hl
  .exact absurd (LP z c e') (by rw[e];exact Nat.not_lt.mpr (ir _))
  .exact absurd (LP y c e) (by rw[e'];exact Nat.not_lt.mpr (ir _))
  .exact I.ok.inj y z c (L.sub _ _ e) (L.sub _ _ e')
 .by_cases z:y∈own
  .exact⟨_,Vn z⟩
  .obtain⟨c,e⟩:=L.all y hy z
   exact⟨c,(LN z).trans e⟩
 .rcases rY h1 with ⟨_,e⟩ | ⟨a,_⟩
  .rw[e];exact ir _
  .exact absurd (by simpa using(show own.contains y=true from z)) a
 .rcases rY e with ⟨_,e⟩ | ⟨_,e⟩
  .rw[e];exact λz=>absurd (dy b hb) (by rw[<-z];exact Nat.not_lt.mpr (ir _))
  .exact(hf b hb).2.2.2.2.1 y c (L.sub _ _ e)
 .rcases(hf b hb).2.2.2.1 with z | z
  .exact I.ok.rn b o e z
  .exact absurd (gK (bS (I.ok.bs b o e).1) z) (tW _)
 .rcases cf.mp (I.xg b z) with z | z
  .exact(hf b hb).2.1 z
  .exact(hf b hb).2.2.1 z
 .have e1:(xs++ns)[i]? = some y:=e1
  by_cases hi:i<xs.length
  .rw[JO (by rw[av];exact hi),bE,bb hi] at e2
   cases e2
  .rw[zT (by lia)] at e1
   rw[zT (by rw[av];lia),av] at e2
   generalize i - xs.length=k at e1 e2
   unfold eJ at e2
   rw[bE] at e2
   cases ej:js[k]? with
   |none=>rw[ej] at e2;cases e2
   |some j=>
    rw[ej] at e2
    have e2:(O[j]?).join=some v:=cQ e2
    have e3:O[j]? = some (some v):=by
     cases q:O[j]? with
     |none=>rw[q] at e2;cases e2
     |some o=>rw[q] at e2;rw[show o=some v from e2]
    have e4:X.N[j]? = some y:=by
     have q:=fh (λl=>l[k]?) hj
     simp only[bE,ej,e1,iR] at q
     exact cQ q
    have my:y∈ns:=bj e1
    obtain⟨m0,r6,hl⟩:=I.loc
    obtain⟨u,r,lk⟩:=hl j y v e4 e3 (.inr (.inl (pK y my)))
    refine⟨u,r,.inr ⟨(bD y my).1,?_⟩⟩
    obtain⟨c,ec⟩:=L.all y (bD y my).1 (bD y my).2
    rcases lk with ⟨k1,_⟩ | ⟨_,c',e5,e6⟩
    .have k2:X.env.scope.names.lookup y=some .local:=k1
     rw[pK y my] at k2;cases k2
    .have:=L.sub _ _ ec
     rw[e5] at this;cases this
     obtain⟨o,ho,hd⟩:=e6
     exact⟨c,(LN (bD y my).2).trans ec,o,hk _ _ ho,hd⟩
 .rcases rY e with ⟨a,e⟩ | ⟨_,e⟩
  .rw[e];exact⟨none,iD y a⟩
  .obtain⟨v,o,ho,hd⟩:=I.cell y c (L.sub _ _ e)
   exact⟨v,o,hk _ _ ho,hd⟩
 .rcases rY e with ⟨_,e⟩ | ⟨_,e⟩
  .rw[e];exact I.aD.fresh (ir _)
  .exact I.fN y c (L.sub _ _ e)
 .have hp:p∈X.pn++pins:=by
   have hp:p∈(X.pn++pins)++[]:=hp
   simpa using hp
  obtain⟨e,n,nl,nf,d⟩:=I.pin p hp
  refine⟨hk _ _ e,n,bZ (bS e),λz=>?_,d⟩
  rcases cf.mp (I.xg _ z) with z | z
  .exact nl z
  .exact nf z
 .show(xs.map (λ_=>(none:Option V))++eJ js O).length=(xs++ns).length
  unfold eJ
  rw[dE,dE,av,av,len]
def Inv.Vp{O O':St}{s':Shared}(I:Inv X pins O H s)
  (hf:∀b∈fp,fw X pins H b) (J:Inv (eV X xs own ns scope cl fp pins s H) Al O' H' s') (hk:∀b o,b≠s.heap.objs.size->s'.heap.get? b=some o->h2.get? b=some o) :
  Inv X pins O H' { s' with heap:=h2 }:=by
 have u:Un (j4 X.stack) fp H H' s.heap s'.heap:=J.base
 have ne:∀b o,s.heap.get? b=some o->b≠s.heap.objs.size:=λb o e=>bZ (bS e)
 have fr:H' s.heap.objs.size=none:=J.free
 refine I.Am (s':={ s' with heap:=h2 }) (ch:=fp) J.os ⟨λb o e n h1 h2=>hk b o (ne b o e) (u.keep b o e n h1 h2),λb o e n h1 h2=>?_,u.free,λb o e hx=>?_,u.gj,u.j3,u.kP⟩ (λb o e=>?_) J.bare
  (λb hb=>⟨(hf b hb).2.2.2.1,(hf b hb).2.1,(hf b hb).2.2.2.2.1,(hf b hb).2.2.2.2.2⟩)
 .obtain⟨sl,q⟩:=u.slot b o e n h1 h2
  exact⟨sl,hk _ _ (ne b o e) q⟩
 .obtain⟨o',q⟩:=u.there b o e hx
  exact⟨o',hk _ _ (ne b o e) q⟩
 .refine(J.aD b o e).kO (λc v hc q=>hk c v ?_ q) (λ_ q=>q) λ_ _ q=>q
  rcases hc with z | z
  .rw[z];exact bq e fr
  .exact bq z fr
def pL(X:Cx)(ifs:List Expr)(t:TT):Prop:=
 ∀(pins:List (Addr×Obj)) (s:Shared) (O:St) (H:Hp) (Q:Bool->Hp->Prop),Inv X pins O H s->t O H Q->
  wpAny (model X.prog X.w) X.A (forIn ifs true λc r=>if r=true then do let ok<-isTrue c X.env (eval c X.env);pure (ForInStep.yield ok) else pure (ForInStep.yield r)) (TP X pins O Q) X.xe s
def LQ:TT:=λ_ H Q=>Q true H
def gT:pL X [] LQ:=λ_ _ _ H _ I h=>wpAny_tests_nil ⟨H,I,h⟩
def lh{c:Expr}{t:TT}(h:PT X c t):pL X [c] t:=λpins s O H Q I q=>wpAny_tests_one (h pins s O H Q I q)
def AX(js:List Nat)(tt:TT)(te:TE)(O:St)(J:It)(H1:Hp)(Q:VK):Prop:=
 ∀D,H1 D=none->∃W:Nat->Nat->Hp->Prop,(∃m,W 0 m (upd H1 D (.lst [])))/\∀i m H,W i m H->
  (J.stop i H/\Q (.ref D) H)\/(J.go i H/\∀x H',J.fU i H x H'->tt (some x::eJ js O) H' λb H2=>if b=true then te (some x::eJ js O) H2 λy H3=>∃ys,H3 D=some (.lst ys)/\ys.length<sizeLine/\∃m',m'<m/\W (i+1) m' (upd H3 D (.lst (ys++[y])))
   else ∃m',m'<m/\W (i+1) m' H2)
def LR(js:List Nat)(wi:TI)(tt:TT)(te:TE):TE:=λO H Q=>wi O H λJ H1=>AX js tt te O J H1 Q
def EO(K:Frag)(js:List Nat)(tt:TT)(te:TE)(O:St)(J:It)(H1:Hp)(Q:VK):Prop:=
 ∀D,H1 D=none->∃W:Nat->Nat->Hp->Prop,(∃m,W 0 m (upd H1 D (.lst [])))/\∀i m H,W i m H->
  (J.stop i H/\Q (.ref D) H)\/(J.go i H/\∀x H',J.fU i H x H'->∃a v1 v2,x = .ref a/\aq K H' a [v1,v2]/\tt (some v1::some v2::eJ js O) H' λb H2=>if b=true then te (some v1::some v2::eJ js O) H2 λy H3=>∃ys,H3 D=some (.lst ys)/\ys.length<sizeLine/\∃m',m'<m/\W (i+1) m' (upd H3 D (.lst (ys++[y])))
   else ∃m',m'<m/\W (i+1) m' H2)
def Vq(K:Frag)(js:List Nat)(wi:TI)(tt:TT)(te:TE):TE:=λO H Q=>wi O H λJ H1=>EO K js tt te O J H1 Q
abbrev TU:=V->Hp->(List V->Hp->Prop)->Prop
def ER(G:TU)(js:List Nat)(tt:TT)(te:TE)(O:St)(J:It)(H1:Hp)(Q:VK):Prop:=
 ∀D,H1 D=none->∃W:Nat->Nat->Hp->Prop,(∃m,W 0 m (upd H1 D (.lst [])))/\∀i m H,W i m H->
  (J.stop i H/\Q (.ref D) H)\/(J.go i H/\∀x H',J.fU i H x H'->G x H' λus H0=>tt (us.map some++eJ js O) H0 λb H2=>if b=true then te (us.map some++eJ js O) H2 λy H3=>∃ys,H3 D=some (.lst ys)/\ys.length<sizeLine/\∃m',m'<m/\W (i+1) m' (upd H3 D (.lst (ys++[y])))
   else ∃m',m'<m/\W (i+1) m' H2)
def xH(K:Frag)(xs:List Str)(tg:Expr)(G:TU):Prop:=
 ∀(Y:Cx) (ns:List Str),Y.N=xs++ns->Y.N.Nodup->(∀x∈xs,Loc Y.env.scope x/\(Y.fn x=true\/Y.env.scope.names.lookup x=some .local))->Y.K=K->Y.calm=true->∀(pins:List (Addr×Obj)) (s:Shared) (vs O:St) (H:Hp) (v:V) (u:Value) (R:List V->Hp->Prop),vs.length=xs.length->Inv Y pins (vs++O) H s->RelV v u->G v H R->
  wpAny (model Y.prog Y.w) Y.A (assign tg Y.env u) (λ_ s' =>∃us H',us.length=xs.length/\Inv Y pins (us.map some++O) H' s'/\R us H') Y.xe s
def LU:xH K [x] (.Name x px) (λv H R=>R [v] H):=by
 intro Y ns hN cX hl _ _ pins s vs O H v u R hv I r h
 match vs,hv,I with
 |[a],_,I=>
  obtain⟨h1,h2⟩:=hl x bt
  have hg:PG Y (.Name x px) (rG 0):=bN 0 cX (by rw[hN];rfl) h1 h2
  refine aE (hg pins s (a::O) H v u (λO' H'=>O'=some v::O/\H'=H) I r ⟨rfl,rfl⟩) λ_ s' ⟨O',H',J,e1,e2⟩=>?_
  subst e1 e2
  exact⟨[v],_,rfl,J,h⟩
def Vr:xH K [x,z] (.Tuple [.Name x px,.Name z pz] ck tp) (λv H R=>∃a v1 v2,v = .ref a/\aq K H a [v1,v2]/\R [v1,v2] H):=by
 intro Y ns hN cX hl hK uB pins s vs O H v u R hv I r h
 subst hK
 match vs,hv,I with
 |[a,b],_,I=>
  obtain⟨h1,h2⟩:=hl x bt
  obtain⟨h3,h4⟩:=hl z (bX _ bt)
  obtain⟨ad,v1,v2,e,hq,h⟩:=h
  have hg:PG Y (.Tuple [.Name x px,.Name z pz] ck tp) (KA Y.K 2 (D9 (rG 0) (D9 (rG 1) Kz))):=jB uB (dM (bN 0 cX (by rw[hN];rfl) h1 h2) (dM (bN 1 cX (by rw[hN];rfl) h3 h4) jA))
  refine aE (hg pins s (a::b::O) H v u (λO' H'=>O'=some v1::some v2::O/\H'=H) I r ⟨ad,[v1,v2],e,hq,rfl,v1,[v2],rfl,v2,[],rfl,rfl,rfl,rfl⟩) λ_ s' ⟨O',H',J,e1,e2⟩=>?_
  subst e1 e2
  exact⟨[v1,v2],_,rfl,J,h⟩
section
variable{X:Cx}{xs own:List Str}{tg:Expr}{G:TU}{iter elt:Expr}{ifs:List Expr}{scope:Scope}{pos:Pos}{ns:List Str}{js:List Nat}{cl:List (Str×Addr)}{wi:TI}{tt:TT}{te:TE}
def LV{O:St}{H₂:Hp}{J:It}{Q:VK}
  (L:EM X own scope cl) (hc:X.calm=true) (hj:js.map (λj=>X.N[j]?)=ns.map some) (pK:∀y∈ns,X.env.scope.names.lookup y=some .cell)
  (bD:∀y∈ns,((relabel scope X.env).names.lookup y=some .cell\/(relabel scope X.env).names.lookup y=some .free)/\y∉own) (hx:∀x∈xs,scope.names.lookup x=some .local\/(scope.names.lookup x=some .cell/\own.contains x=true)) (cX:(xs++ns).Nodup) (TG:xH X.K xs tg G)
  (ht:∀fp pins s H,pL (eV X xs own ns scope cl fp pins s H) ifs tt) (he:∀fp pins s H,PE (eV X xs own ns scope cl fp pins s H) elt te)
  (I2:Inv X pins O H₂ s₂) (T:Turn X.prog X.w X.K tg J fp it tn) (j6:tn 0 s₂.heap) (f2:∀b∈fp,fw X pins H₂ b) (hq:ER G js tt te O J H₂ Q)
  (Vs:∀D H3 s',(∃m,s'.heap.Ns (s₂.heap.objs.size+1) m)->H3 (s₂.heap.objs.size+1)=none->(∀h2,(∀b o,b≠s₂.heap.objs.size+1->s'.heap.get? b=some o->h2.get? b=some o)->Inv X pins O H3 { s' with heap:=h2 })->Q (.ref D) H3->RR (.ref D) (s₂.heap.objs.size+1) (.ok .next) s') :
  wpAny (model X.prog X.w) X.A (newList []) (λacc s₃=>wpAny (model X.prog X.w) X.A (newFunctionEnv scope X.env.globals cl [] X.env.qual none .none (some X.env)) (λLW s₄=>
   codeAny (model X.prog X.w) X.A (.compStart (.ListComp elt [⟨tg,iter,ifs,0⟩] scope pos) 0 (.ref it) acc { LW with scope:=relabel scope X.env }) (RR acc LW.locals) s₄) E s₃) E s₂:=by
 have hD:H₂ s₂.heap.objs.size=none:=I2.fresh
 have I3:Inv X pins O (upd H₂ s₂.heap.objs.size (.lst [])) { s₂ with heap:=s₂.heap.push { cls := .type "list",data := .seq ([]:List Value).toArray } }:=I2.EA (ys:=[]) (its:=[]) (t':=s₂.toks) .nil (bu _)
 obtain⟨W,⟨m0,w0⟩,turn⟩:=hq _ hD
 refine wQ (Vl L.cell L.fC ?_)
 have xI:∀b∈fp,b<s₂.heap.objs.size:=λb hb=>let ⟨_,e,_⟩:=T.obj 0 _ j6 b hb;bS e
 have LX:(s₂.heap.push { cls := .type "list",data := .seq ([]:List Value).toArray }).objs.size=s₂.heap.objs.size+1:=kK ..
 obtain⟨h₁,AY⟩:∃h₁,h₁=AW ((s₂.heap.push { cls := .type "list",data := .seq ([]:List Value).toArray }).push { cls := .type "dict",data := .dict #[] }) own:=⟨_,rfl⟩
 have gw:∀b o,(s₂.heap.push { cls := .type "list",data := .seq ([]:List Value).toArray }).get? b=some o->h₁.get? b=some o:=λb o e=>by rw[AY];exact LM (bL _ e)
 have Vt:h₁.Ns (s₂.heap.push { cls := .type "list",data := .seq ([]:List Value).toArray }).objs.size (λ_=>none):=by rw[AY];exact(Heap.Ns.new _ (.type "dict")).keeps λb o e=>LM e
 have iD:∀y∈own,h₁.IsCell ((s₂.heap.push { cls := .type "list",data := .seq ([]:List Value).toArray }).objs.size+1) none:=λy my=>by
  rw[AY,<-kK (s₂.heap.push { cls := .type "list",data := .seq ([]:List Value).toArray }) { cls := .type "dict",data := .dict #[] }]
  match own,my with
  |_::_,_=>exact⟨{ cls := .type "cell",data := .cell none },cI _ rfl,rfl⟩
 show codeAny _ _ _ _ { s₂ with heap:=AW ((s₂.heap.push { cls := .type "list",data := .seq ([]:List Value).toArray }).push { cls := .type "dict",data := .dict #[] }) own }
 rw[<-AY]
 have f3:∀b∈fp,fw X pins (upd H₂ s₂.heap.objs.size (.lst [])) b:=λb hb=>⟨by rw[ak (bZ (xI b hb))];exact(f2 b hb).1,(f2 b hb).2⟩
 have C0:=Vo (xs:=xs) (tk:=s₂.toks) I3 L hj pK bD iD f3 (λb hb=>gK (xI b hb) (by rw[LX];exact ir _)) Vt gw
 have xn:tn 0 h₁:=T.keep _ _ _ j6 λb hb o e=>gw b o (bL _ e)
 generalize ES:({ s₂ with heap:=s₂.heap.push { cls := .type "list",data := .seq ([]:List Value).toArray } }:Shared)=s₃ at *
 have hsz:s₃.heap.objs.size=s₂.heap.objs.size+1:=by rw[<-ES];exact LX
 have loop:∀s₄:Shared,s₄={ s₃ with heap:=h₁ } ->
   codeAny (model X.prog X.w) X.A (.compLoop (.ListComp elt [⟨tg,iter,ifs,0⟩] scope pos) 0 (.ref it) (.ref s₂.heap.objs.size) (compEnvC scope (nU own s₃.heap.objs.size++cl) s₃.heap.objs.size X.env)) (RR (.ref s₂.heap.objs.size) s₃.heap.objs.size) s₄:=by
  rintro s₄ rfl
  refine Vi (λn s' =>∃i vs H',vs.length=xs.length/\Inv (eV X xs own ns scope cl fp pins s₃ (upd H₂ s₂.heap.objs.size (.lst []))) [] (vs++eJ js O) H' s'/\tn i s'.heap/\(∀b∈fp,H' b=none)/\W i n H') ?_ m0
   ⟨0,_,_,av _,by subst ES;exact C0,xn,λb hb=>(f3 b hb).1,w0⟩
  rintro n s5 ⟨i,v5,H5,l5,J5,uk,Aw,w5⟩
  have ET:∀{H':Hp},(∀b∈fp,H' b=none)->∀b∈fp,fw (eV X xs own ns scope cl fp pins s₃ (upd H₂ s₂.heap.objs.size (.lst []))) [] H' b:=λhn b hb=>by
   refine⟨hn b hb,?_,?_,.inl hb,λy c e=>?_,λp hp=>?_⟩
   .show b≠s₃.heap.objs.size
    rw[hsz]
    exact bZ (nB (xI b hb))
   .intro z
    rcases cf.mp (I2.xg b z) with z | z
    .exact(f2 b hb).2.1 z
    .exact(f2 b hb).2.2.1 z
   .rcases rY e with ⟨_,e⟩ | ⟨_,e⟩
    .rw[e];exact λz=>absurd (xI b hb) (by rw[<-z,hsz];exact Nat.not_lt.mpr (bQ (ir _) (ir _)))
    .exact(f2 b hb).2.2.2.2.1 y c (L.sub _ _ e)
   .have hp:p∈(X.pn++pins)++[]:=hp
    exact(f2 b hb).2.2.2.2.2 p (by simpa using hp)
  rcases turn i n H5 w5 with ⟨stop,qn⟩ | ⟨go,step⟩
  .refine aE (T.done (eV X xs own ns scope cl fp pins s₃ _) rfl rfl rfl hc i [] s5 _ H5 (λ_ _=>False) J5 (ET Aw) uk stop) λr s6 ⟨hr,J6⟩=>?_
   subst hr
   show RR _ _ (.ok .next) s6
   rw[hsz]
   refine Vs _ H5 s6 ?_ (by rw[<-hsz];exact J6.free) (λh2 i3=>?_) qn
   .obtain⟨mm,hn,_⟩:=J6.loc
    exact⟨mm,by rw[<-hsz];exact hn⟩
   .refine Inv.Vp I3 f3 J6 λb o hb e=>i3 b o ?_ e
    rw[<-hsz];exact hb
  .refine aE (T.item (eV X xs own ns scope cl fp pins s₃ _) rfl rfl rfl hc i [] s5 _ H5 (λ_ _=>False) J5 (ET Aw) uk go) λr s6 ⟨u,hr,h6⟩=>?_
   subst hr
   refine aE h6 λ_ s7 ⟨xv,H7,J7,r7,y7,EU,Vu⟩=>?_
   have Vv:=J7.pinned (ET Vu) (T.obj _ _ EU)
   have hl:∀x∈xs,Loc (relabel scope X.env) x/\(own.contains x=true\/(relabel scope X.env).names.lookup x=some .local):=λx mx=>by
    rcases hx x mx with z | ⟨z,z'⟩
    .exact⟨.inl (lookup_relabel_local z),.inr (lookup_relabel_local z)⟩
    .exact⟨.inr ((AV.2 _ z).elim id λq=>nomatch q.1),.inl z'⟩
   refine aE (TG (eV X xs own ns scope cl fp pins s₃ (upd H₂ s₂.heap.objs.size (.lst []))) ns rfl cX hl rfl hc _ s7 v5 _ H7 xv u _ l5 Vv r7 (step xv H7 y7)) λ_ s8 ⟨us,H8,l8,J8,q8⟩=>?_
   have fin:∀{H':Hp}{s':Shared},Inv (eV X xs own ns scope cl fp pins s₃ (upd H₂ s₂.heap.objs.size (.lst []))) ([]++xm fp s7.heap) (us.map some++eJ js O) H' s'->(∃m',m'<n/\W (i+1) m' H')->
     ∃m',m'<n/\∃i vs H',vs.length=xs.length/\Inv (eV X xs own ns scope cl fp pins s₃ (upd H₂ s₂.heap.objs.size (.lst []))) [] (vs++eJ js O) H' s'/\tn i s'.heap/\(∀b∈fp,H' b=none)/\W i m' H':=λ{H' s'} J9 ⟨m',hm,w9⟩=>by
    refine⟨m',hm,i+1,us.map some,H',(av _).trans l8,J9.uj,T.keep _ _ _ EU λb hb o e=>(J9.pin (b,o) (jt _ (jt _ (Av hb e)))).1,λb hb=>?_,w9⟩
    obtain⟨o,e,d⟩:=T.obj _ _ EU b hb
    exact(J9.pin (b,o) (jt _ (jt _ (Av hb e)))).2.1
   refine aE (ht fp pins s₃ _ _ s8 _ H8 _ J8 q8) λok s9 ⟨H9,J9,q9⟩=>?_
   cases ok with
   |false=>
    rw[ax b0] at q9 ⊢
    exact fin J9 q9
   |true=>
    rw[aA rfl] at q9 ⊢
    refine aE (he fp pins s₃ _ _ s9 _ H9 _ J9 q9) λyv jF h_=>?_
    obtain⟨y,xJ,Vw,Vx,ys,xK,hz,m',hm,Vy⟩:=h_
    refine aE (iC _ jF _ xJ (.ref s₂.heap.objs.size) [y] _ [yv] (λ_ H'=>H'=upd xJ s₂.heap.objs.size (.lst (ys++[y]))) Vw rfl (.cons Vx .nil) ⟨_,ys,y,rfl,rfl,xK,hz,rfl⟩) λ_ lj ⟨_,Vz,VA,_,LY⟩=>?_
    subst LY
    exact fin VA ⟨m',hm,Vy⟩
 have gy:=loop _ rfl
 subst ES
 exact codeAny_compStart_list gy (T.self _ 0 _ _ _ xn gy)
def LZ(TG:xH X.K xs tg G)(hi:PI X tg iter wi)(hc:X.calm=true)(hk:scope.kind = .function)(hj:js.map (λj=>X.N[j]?)=ns.map some)(ho:rZ xs own ns scope.names X.env.scope.names=true)
  (ht:∀fp pins s H,pL (eV X xs own ns scope (fE X.env.cells scope.names []) fp pins s H) ifs tt) (he:∀fp pins s H,PE (eV X xs own ns scope (fE X.env.cells scope.names []) fp pins s H) elt te) (hs:∀x,foldedSetIterable iter X.env x=pure x:=by intro _;rfl) :
  PE X (.ListComp elt [⟨tg,iter,ifs,0⟩] scope pos) (λO H Q=>wi O H λJ H1=>ER G js tt te O J H1 Q):=by
 intro pins s O H Q I h
 obtain⟨L,pK,bD,hx,cX⟩:=LO I hk ho
 rw[eval_ListComp]
 refine wpAny_comprehension_free (use:=none) rfl hs L.LL L.kind L.names (aE (hi pins s O H _ I h) λv s1 h1=>aE h1 λAs s2 h2=>?_)
 obtain⟨it,fp,tn,J,H2,e,I2,T,j6,f2,hq⟩:=h2
 subst e
 refine LV (RR:=λacc C=>compPost (model X.prog X.w) X.A X.xe none (EP X pins O Q) acc C) L hc hj pK bD hx cX TG ht he I2 T j6 f2 hq ?_
 intro D H3 s' ⟨m,hn⟩ nV hI q
 exact⟨m,hn,λh' sb=>⟨.ref D,H3,hI h' λb o hb e=>sb.extBut b o hb e,rfl,q⟩⟩
def VB(TG:xH X.K xs tg G)(hN:X.N.Nodup)(hy:X.N[i]? = some y)(uC:Loc X.env.scope y)(hi:PI X tg iter wi)(hc:X.calm=true)(hk:scope.kind = .function)(hj:js.map (λj=>X.N[j]?)=ns.map some)(ho:rZ xs own ns scope.names X.env.scope.names=true)
  (ht:∀fp pins s H,pL (eV X xs own ns scope (fE X.env.cells scope.names []) fp pins s H) ifs tt) (he:∀fp pins s H,PE (eV X xs own ns scope (fE X.env.cells scope.names []) fp pins s H) elt te)
  (EV:swapsWith (.ListComp elt [⟨tg,iter,ifs,0⟩] scope pos) (some (.Name y py)) xM.line X.env=pure true:=by rfl) (hs:∀x,foldedSetIterable iter X.env x=pure x:=by intro _;rfl)
  (hf:X.fn y=true\/X.env.scope.names.lookup y=some .local:=by first | exact .inl rfl | exact .inr rfl | assumption) :
  PS X (.Assign [.Name y py] (.ListComp elt [⟨tg,iter,ifs,0⟩] scope pos) xM) (xl (λO H Q=>wi O H λJ H1=>ER G js tt te O J H1 Q) (rG i)):=by
 intro pins s O H D I h
 obtain⟨L,pK,bD,hx,cX⟩:=LO I hk ho
 rw[exec_Assign_Name_used _ _ _ _ EV]
 refine aj (wpAny_standAt (aj ?_))
 show wpAny _ X.A (do let _<-comprehension (.ListComp elt [⟨tg,iter,ifs,0⟩] scope pos) scope X.env _ (newList []) false (eval iter X.env) (some (assign (.Name y py) X.env))) _ _ s
 refine aj (aE (wpAny_comprehension_free (use:=some (assign (.Name y py) X.env)) (Q:=λ_ s'=>SP X pins D .next s') rfl hs L.LL L.kind L.names
  (aE (hi pins s O H _ I h) λv s1 h1=>aE h1 λAs s2 h2=>?_)) λ_ s' hq=>aY (aY hq))
 obtain⟨it,fp,tn,J,H2,e,I2,T,j6,f2,hq⟩:=h2
 subst e
 refine LV (Q:=λz H1=>D.nx (O.set i (some z)) H1) (RR:=λacc C=>compPost (model X.prog X.w) X.A X.xe (some (assign (.Name y py) X.env)) (λ_ s'=>SP X pins D .next s') acc C) L hc hj pK bD hx cX TG ht he I2 T j6 f2 hq ?_
 intro Dd H3 s' ⟨m,hn⟩ nV hI q
 have I3:Inv X pins O H3 s':=hI s'.heap λ_ _ _ e=>e
 have uD:fw X pins H3 (s2.heap.objs.size+1):=I2.j5 (ir _) nV
 obtain⟨o,es,ep,ho,hd,r⟩:=hn
 have I4:Inv X (pins++[(s2.heap.objs.size+1,o)]) O H3 s':=I3.Ak λp hp=>(cV.mp hp).elim (λz=>I3.pin p (jt _ z)) λz=>by
  have e:p=(s2.heap.objs.size+1,o):=by simpa using z
  subst e
  exact⟨ho,nV,uD.2.1,uD.2.2.1,λv z=>by rw[hd] at z;cases z⟩
 show wpAny _ X.A (assign (.Name y py) X.env (.ref Dd)) _ _ s'
 refine wpAny_assign_Name (D3 I4 hN hy uC (v := .ref Dd) rfl (λs4 I5=>?_) hf)
 have hp:=I5.pin (s2.heap.objs.size+1,o) (by simp)
 refine⟨m,⟨o,es,ep,hp.1,hd,r⟩,λh' sb=>⟨_,H3,?_,q⟩⟩
 refine(I5.uj (pl:=[(s2.heap.objs.size+1,o)])).turned (t':=s4.toks) (it:=s2.heap.objs.size+1) (λb o' hb e=>sb.extBut b o' hb e) nV uD.2.1 uD.2.2.2.1 uD.2.2.2.2.1 uD.2.2.2.2.2
def fW(hi:PI X (.Name x px) iter wi)(hc:X.calm=true)(hk:scope.kind = .function)(hj:js.map (λj=>X.N[j]?)=ns.map some)(ho:rZ [x] [] ns scope.names X.env.scope.names=true)
  (ht:∀fp pins s H,pL (eV X [x] [] ns scope (fE X.env.cells scope.names []) fp pins s H) ifs tt) (he:∀fp pins s H,PE (eV X [x] [] ns scope (fE X.env.cells scope.names []) fp pins s H) elt te) (hs:∀x,foldedSetIterable iter X.env x=pure x:=by intro _;rfl) :
  PE X (.ListComp elt [⟨.Name x px,iter,ifs,0⟩] scope pos) (LR js wi tt te):=LZ LU hi hc hk hj ho ht he hs
def r8(hN:X.N.Nodup)(hy:X.N[i]? = some y)(uC:Loc X.env.scope y)(hi:PI X (.Name x px) iter wi)(hc:X.calm=true)(hk:scope.kind = .function)(hj:js.map (λj=>X.N[j]?)=ns.map some)(ho:rZ [x] [] ns scope.names X.env.scope.names=true)
  (ht:∀fp pins s H,pL (eV X [x] [] ns scope (fE X.env.cells scope.names []) fp pins s H) ifs tt) (he:∀fp pins s H,PE (eV X [x] [] ns scope (fE X.env.cells scope.names []) fp pins s H) elt te)
  (EV:swapsWith (.ListComp elt [⟨.Name x px,iter,ifs,0⟩] scope pos) (some (.Name y py)) xM.line X.env=pure true:=by rfl) (hs:∀x,foldedSetIterable iter X.env x=pure x:=by intro _;rfl)
  (hf:X.fn y=true\/X.env.scope.names.lookup y=some .local:=by first | exact .inl rfl | exact .inr rfl | assumption) :
  PS X (.Assign [.Name y py] (.ListComp elt [⟨.Name x px,iter,ifs,0⟩] scope pos) xM) (xl (LR js wi tt te) (rG i)):=VB LU hN hy uC hi hc hk hj ho ht he EV hs hf
def L0(hi:PI X (.Tuple [.Name x px,.Name z pz] ck tp) iter wi)(hc:X.calm=true)(hk:scope.kind = .function)(hj:js.map (λj=>X.N[j]?)=ns.map some)(ho:rZ [x,z] [] ns scope.names X.env.scope.names=true)
  (ht:∀fp pins s H,pL (eV X [x,z] [] ns scope (fE X.env.cells scope.names []) fp pins s H) ifs tt) (he:∀fp pins s H,PE (eV X [x,z] [] ns scope (fE X.env.cells scope.names []) fp pins s H) elt te) (hs:∀x,foldedSetIterable iter X.env x=pure x:=by intro _;rfl) :
  PE X (.ListComp elt [⟨.Tuple [.Name x px,.Name z pz] ck tp,iter,ifs,0⟩] scope pos) (Vq X.K js wi tt te):=LZ Vr hi hc hk hj ho ht he hs
end
inductive D where
 |aB
 |bl (b:Bool)
 |int (i:Int)
 |str (x:Str)
 |tup (ds:List D)
 |lst (ds:List D)
mutual
def At(K:Frag)(H:Hp):D->V->Prop
 |.aB,v=>v = .aB
 |.bl b,v=>v = .bl b
 |.int i,v=>v = .int i
 |.str x,v=>v = .str x
 |.tup ds,v=>∃a xs,v = .ref a/\aq K H a xs/\di K H ds xs
 |.lst ds,v=>∃a xs,v = .ref a/\ai K H a xs/\di K H ds xs
def di(K:Frag)(H:Hp):List D->List V->Prop
 |[],xs=>xs=[]
 |d::ds,xs=>∃x r,xs=x::r/\At K H d x/\di K H ds r
end
mutual
theorem At.mono{K:Frag}{H H':Hp}(s:af H H'):∀(d:D) (v:V),At K H d v->At K H' d v
 |.aB,_,h=>h
 |.bl _,_,h=>h
 |.int _,_,h=>h
 |.str _,_,h=>h
 |.tup ds,_,⟨a,xs,e,q,l⟩=>⟨a,xs,e,s.tup q,di.mono s ds xs l⟩
 |.lst ds,_,⟨a,xs,e,q,l⟩=>⟨a,xs,e,s.seq q,di.mono s ds xs l⟩
theorem di.mono{K:Frag}{H H':Hp}(s:af H H'):∀(ds:List D) (xs:List V),di K H ds xs->di K H' ds xs
 |[],_,h=>h
 |d::ds,_,⟨x,r,e,h,t⟩=>⟨x,r,e,At.mono s d x h,di.mono s ds r t⟩
end
theorem di.length{K:Frag}{H:Hp}:∀{ds:List D}{xs:List V},di K H ds xs->xs.length=ds.length
 |[],_,h=>by rw[show _=[] from h];rfl
 |_::ds,_,⟨x,r,e,_,t⟩=>by rw[e,dC,dC,di.length t]
mutual
noncomputable def dW:D->D->Bool
 |.aB,.aB=>true
 |.bl a,.bl b=>a==b
 |.bl a,.int b=>(if a then 1 else 0)==b
 |.int a,.bl b=>a==(if b then 1 else 0)
 |.int a,.int b=>a==b
 |.str a,.str b=>a==b
 |.tup a,.tup b=>gU a b
 |.lst a,.lst b=>gU a b
 |_,_=>false
noncomputable def gU:List D->List D->Bool
 |[],[]=>true
 |a::r,b::t=>dW a b&&gU r t
 |_,_=>false
end
mutual
noncomputable def dep:D->Nat
 |.tup ds=>dN ds+1
 |.lst ds=>dN ds+1
 |_=>0
noncomputable def dN:List D->Nat
 |[]=>0
 |d::r=>max (dep d) (dN r)
end
mutual
theorem xN:∀d:D,dW d d=true
 |.aB=>rfl
 |.bl b=>by simp[dW]
 |.int i=>by simp[dW]
 |.str x=>by simp[dW]
 |.tup ds=>by rw[dW];exact EW ds
 |.lst ds=>by rw[dW];exact EW ds
theorem EW:∀ds:List D,gU ds ds=true
 |[]=>rfl
 |d::r=>by rw[gU,xN d,EW r];rfl
end
noncomputable def nW:List D->List D->List Bool
 |a::r,b::t=>dW a b::nW r t
 |_,_=>[]
theorem nX:∀(ds es:List D),((List.range (min ds.length es.length)).all (λj=>(nW ds es).getD j true)&&ds.length==es.length)=gU ds es
 |[],[]=>rfl
 |[],_::_=>rfl
 |_::_,[]=>by simp[gU]
 |a::r,b::t=>by
  have ih:=nX r t
  have e:min (a::r).length (b::t).length=min r.length t.length+1:=by simp only[dC];lia
  rw[e,JT,List.all_cons,wR,gU,<-ih]
  have e2:((a::r).length==(b::t).length)=(r.length==t.length):=by simp
  rw[e2]
  show(dW a b&&_&&_)=_
  rw[Bool.and_assoc]
  rfl
section
variable{X:Cx}{pins:List (Addr×Obj)}{O:St}{H:Hp}{s:Shared}
mutual
theorem At.inj(I:Inv X pins O H s):∀(d e:D) (x:V),At X.K H d x->At X.K H e x->d=e
 |.aB,e,x,h,g=>by
  cases(show x = .aB from h)
  cases e with
  |aB=>rfl
  |tup ds=>obtain⟨a,xs,z,_⟩:=g;cases z
  |lst ds=>obtain⟨a,xs,z,_⟩:=g;cases z
  |bl b=>cases(show V.aB = .bl b from g)
  |int b=>cases(show V.aB = .int b from g)
  |str b=>cases(show V.aB = .str b from g)
 |.bl k,e,x,h,g=>by
  cases(show x = .bl k from h)
  cases e with
  |aB=>cases(show V.bl k = .aB from g)
  |tup ds=>obtain⟨a,xs,z,_⟩:=g;cases z
  |lst ds=>obtain⟨a,xs,z,_⟩:=g;cases z
  |bl b=>cases(show V.bl k = .bl b from g);rfl
  |int b=>cases(show V.bl k = .int b from g)
  |str b=>cases(show V.bl k = .str b from g)
 |.int k,e,x,h,g=>by
  cases(show x = .int k from h)
  cases e with
  |aB=>cases(show V.int k = .aB from g)
  |tup ds=>obtain⟨a,xs,z,_⟩:=g;cases z
  |lst ds=>obtain⟨a,xs,z,_⟩:=g;cases z
  |bl b=>cases(show V.int k = .bl b from g)
  |int b=>cases(show V.int k = .int b from g);rfl
  |str b=>cases(show V.int k = .str b from g)
 |.str k,e,x,h,g=>by
  cases(show x = .str k from h)
  cases e with
  |aB=>cases(show V.str k = .aB from g)
  |tup ds=>obtain⟨a,xs,z,_⟩:=g;cases z
  |lst ds=>obtain⟨a,xs,z,_⟩:=g;cases z
  |bl b=>cases(show V.str k = .bl b from g)
  |int b=>cases(show V.str k = .int b from g)
  |str b=>cases(show V.str k = .str b from g);rfl
 |.tup ds,e,x,h,g=>by
  obtain⟨a,xs,z,q,l⟩:=h
  subst z
  cases e with
  |aB=>cases(show V.ref a = .aB from g)
  |bl b=>cases(show V.ref a = .bl b from g)
  |int b=>cases(show V.ref a = .int b from g)
  |str b=>cases(show V.ref a = .str b from g)
  |tup es=>
   obtain⟨b,ys,z,q',l'⟩:=g
   cases z
   have e:=I.D7 q q'
   subst e
   rw[di.inj I ds es xs l l']
  |lst es=>
   obtain⟨b,ys,z,q',l'⟩:=g
   cases z
   obtain⟨_,_,p1,_⟩:=I.tuple q
   obtain⟨_,_,p2,_⟩:=I.list q'
   exact absurd rfl (SeqAt.ne_of_list_tuple p2.isList p1)
 |.lst ds,e,x,h,g=>by
  obtain⟨a,xs,z,q,l⟩:=h
  subst z
  cases e with
  |aB=>cases(show V.ref a = .aB from g)
  |bl b=>cases(show V.ref a = .bl b from g)
  |int b=>cases(show V.ref a = .int b from g)
  |str b=>cases(show V.ref a = .str b from g)
  |lst es=>
   obtain⟨b,ys,z,q',l'⟩:=g
   cases z
   have e:=I.D6 q q'
   subst e
   rw[di.inj I ds es xs l l']
  |tup es=>
   obtain⟨b,ys,z,q',l'⟩:=g
   cases z
   obtain⟨_,_,p1,_⟩:=I.tuple q'
   obtain⟨_,_,p2,_⟩:=I.list q
   exact absurd rfl (SeqAt.ne_of_list_tuple p2.isList p1)
theorem di.inj(I:Inv X pins O H s):∀(ds es:List D) (xs:List V),di X.K H ds xs->di X.K H es xs->ds=es
 |[],[],_,_,_=>rfl
 |[],_::_,xs,h,⟨x,r,e,_⟩=>by rw[show xs=[] from h] at e;cases e
 |_::_,[],xs,⟨x,r,e,_⟩,h=>by rw[show xs=[] from h] at e;cases e
 |d::ds,e::es,xs,⟨x,r,z,h,t⟩,⟨y,q,z',h',t'⟩=>by
  subst z
  cases z'
  rw[At.inj I d e x h h',di.inj I ds es r t t']
end
mutual
theorem L1(I:Inv X pins O H s):∀(d e:D) (x y:V) (u v:Value) (A:Around) (n:Nat),dep d<=n->A.units+n<cLine->At X.K H d x->At X.K H e y->RelV x u->RelV y v->SeqAt.EqAt A s u v (dW d e)
 |.tup ds,.tup es,x,y,u,v,A,n,hn,hu,h,g,rx,ry=>by
  by_cases same:x=y
  .subst same
   cases At.inj I _ _ x h g
   rw[xN]
   obtain⟨a,xs,rfl,_⟩:=h
   cases rx
   cases ry
   exact SeqAt.EqAt.same _
  .obtain⟨a,xs,rfl,q,l⟩:=h
   obtain⟨b,ys,rfl,q',l'⟩:=g
   cases rx
   cases ry
   obtain⟨its,r,p,_⟩:=I.tuple q
   obtain⟨cC,r',p',_⟩:=I.tuple q'
   have hn:dN ds+1<=n:=hn
   have l1:its.length=ds.length:=by rw[<-r.length,l.length]
   have l2:cC.length=es.length:=by rw[<-r'.length,l'.length]
   have R:=SeqAt.RcAt.tuples (A:=A) (s:=s) (e:=λj=>(nW ds es).getD j true) p p' (by lia) λj h1 h2=>by
    have i4:j<its.length:=by simpa using h1
    have iE:j<cC.length:=by simpa using h2
    have:=sd I ds es xs ys its cC A.in1 (n - 1) (by lia) (by show A.units+1+(n - 1)<cLine;lia) l l' r r' j i4 iE
    simpa using this
   have E:=SeqAt.EqAt.of_refs (λz=>same (by rw[z])) R
   rw[bp,bp,l1,l2,nX] at E
   exact E
 |.lst ds,.lst es,x,y,u,v,A,n,hn,hu,h,g,rx,ry=>by
  by_cases same:x=y
  .subst same
   cases At.inj I _ _ x h g
   rw[xN]
   obtain⟨a,xs,rfl,_⟩:=h
   cases rx
   cases ry
   exact SeqAt.EqAt.same _
  .obtain⟨a,xs,rfl,q,l⟩:=h
   obtain⟨b,ys,rfl,q',l'⟩:=g
   cases rx
   cases ry
   obtain⟨its,r,p,_⟩:=I.list q
   obtain⟨cC,r',p',_⟩:=I.list q'
   have hn:dN ds+1<=n:=hn
   have l1:its.length=ds.length:=by rw[<-r.length,l.length]
   have l2:cC.length=es.length:=by rw[<-r'.length,l'.length]
   refine SeqAt.EqAt.of_refs (λz=>same (by rw[z])) ?_
   show SeqAt.RcAt A s (.ref a) (.ref b) (gU ds es)
   rw[<-nX ds es]
   by_cases hl:ds.length=es.length
   .have R:=SeqAt.RcAt.lists (A:=A) (s:=s) (e:=λj=>(nW ds es).getD j true) p.isList p'.isList (by rw[bp,bp,l1,l2,hl]) (by lia) λj h1 h2=>by
     have i4:j<its.length:=by simpa using h1
     have iE:j<cC.length:=by simpa using h2
     have:=sd I ds es xs ys its cC A.in1 (n - 1) (by lia) (by show A.units+1+(n - 1)<cLine;lia) l l' r r' j i4 iE
     simpa using this
    rw[bp,l1] at R
    rw[<-hl,Nat.min_self,zW,DN]
    exact R
   .have R:=SeqAt.RcAt.lists_lengths (A:=A) (s:=s) p.isList p'.isList (by rw[bp,bp,l1,l2];simpa using hl) (by lia)
    rw[show(ds.length==es.length)=false by simpa using hl,tY]
    exact R
 |.tup ds,.lst es,x,y,u,v,A,n,hn,hu,h,g,rx,ry=>by
  obtain⟨a,xs,rfl,q,l⟩:=h
  obtain⟨b,ys,rfl,q',l'⟩:=g
  cases rx
  cases ry
  obtain⟨its,r,p,_⟩:=I.tuple q
  obtain⟨cC,r',p',_⟩:=I.list q'
  exact SeqAt.EqAt.tuple_list p p'.isList (by lia)
 |.lst ds,.tup es,x,y,u,v,A,n,hn,hu,h,g,rx,ry=>by
  obtain⟨a,xs,rfl,q,l⟩:=h
  obtain⟨b,ys,rfl,q',l'⟩:=g
  cases rx
  cases ry
  obtain⟨its,r,p,_⟩:=I.list q
  obtain⟨cC,r',p',_⟩:=I.tuple q'
  exact SeqAt.EqAt.list_tuple p.isList p' (by lia)
 |.aB,.aB,x,y,u,v,A,n,hn,hu,h,g,rx,ry=>by cases(show x=_ from h);cases(show y=_ from g);exact gv rx ry rfl rfl
 |.aB,.bl _,x,y,u,v,A,n,hn,hu,h,g,rx,ry=>by cases(show x=_ from h);cases(show y=_ from g);exact gv rx ry rfl rfl
 |.aB,.int _,x,y,u,v,A,n,hn,hu,h,g,rx,ry=>by cases(show x=_ from h);cases(show y=_ from g);exact gv rx ry rfl rfl
 |.aB,.str _,x,y,u,v,A,n,hn,hu,h,g,rx,ry=>by cases(show x=_ from h);cases(show y=_ from g);exact gv rx ry rfl rfl
 |.bl _,.aB,x,y,u,v,A,n,hn,hu,h,g,rx,ry=>by cases(show x=_ from h);cases(show y=_ from g);exact gv rx ry rfl rfl
 |.bl _,.bl _,x,y,u,v,A,n,hn,hu,h,g,rx,ry=>by cases(show x=_ from h);cases(show y=_ from g);exact gv rx ry rfl rfl
 |.bl _,.int _,x,y,u,v,A,n,hn,hu,h,g,rx,ry=>by cases(show x=_ from h);cases(show y=_ from g);exact gv rx ry rfl rfl
 |.bl _,.str _,x,y,u,v,A,n,hn,hu,h,g,rx,ry=>by cases(show x=_ from h);cases(show y=_ from g);exact gv rx ry rfl rfl
 |.int _,.aB,x,y,u,v,A,n,hn,hu,h,g,rx,ry=>by cases(show x=_ from h);cases(show y=_ from g);exact gv rx ry rfl rfl
 |.int _,.bl _,x,y,u,v,A,n,hn,hu,h,g,rx,ry=>by cases(show x=_ from h);cases(show y=_ from g);exact gv rx ry rfl rfl
 |.int _,.int _,x,y,u,v,A,n,hn,hu,h,g,rx,ry=>by cases(show x=_ from h);cases(show y=_ from g);exact gv rx ry rfl rfl
 |.int _,.str _,x,y,u,v,A,n,hn,hu,h,g,rx,ry=>by cases(show x=_ from h);cases(show y=_ from g);exact gv rx ry rfl rfl
 |.str _,.aB,x,y,u,v,A,n,hn,hu,h,g,rx,ry=>by cases(show x=_ from h);cases(show y=_ from g);exact gv rx ry rfl rfl
 |.str _,.bl _,x,y,u,v,A,n,hn,hu,h,g,rx,ry=>by cases(show x=_ from h);cases(show y=_ from g);exact gv rx ry rfl rfl
 |.str _,.int _,x,y,u,v,A,n,hn,hu,h,g,rx,ry=>by cases(show x=_ from h);cases(show y=_ from g);exact gv rx ry rfl rfl
 |.str _,.str _,x,y,u,v,A,n,hn,hu,h,g,rx,ry=>by cases(show x=_ from h);cases(show y=_ from g);exact gv rx ry rfl rfl
 |.tup ds,.aB,x,y,u,v,A,n,hn,hu,⟨a,xs,z,q,l⟩,g,rx,ry=>by subst z;cases rx;cases(show y=_ from g);cases ry;obtain⟨its,r,p,_⟩:=I.tuple q;exact SeqAt.EqAt.tuple_none p (by lia)
 |.tup ds,.bl _,x,y,u,v,A,n,hn,hu,⟨a,xs,z,q,l⟩,g,rx,ry=>by subst z;cases rx;cases(show y=_ from g);cases ry;obtain⟨its,r,p,_⟩:=I.tuple q;exact SeqAt.EqAt.tuple_bool _ p (by lia)
 |.tup ds,.int _,x,y,u,v,A,n,hn,hu,⟨a,xs,z,q,l⟩,g,rx,ry=>by subst z;cases rx;cases(show y=_ from g);obtain⟨t,rfl⟩:=ry;obtain⟨its,r,p,_⟩:=I.tuple q;exact SeqAt.EqAt.tuple_int _ _ p (by lia)
 |.tup ds,.str _,x,y,u,v,A,n,hn,hu,⟨a,xs,z,q,l⟩,g,rx,ry=>by subst z;cases rx;cases(show y=_ from g);obtain⟨t,rfl⟩:=ry;obtain⟨its,r,p,_⟩:=I.tuple q;exact SeqAt.EqAt.tuple_str _ _ p (by lia)
 |.lst ds,.aB,x,y,u,v,A,n,hn,hu,⟨a,xs,z,q,l⟩,g,rx,ry=>by subst z;cases rx;cases(show y=_ from g);cases ry;obtain⟨its,r,p,_⟩:=I.list q;exact SeqAt.EqAt.list_none p.isList (by lia)
 |.lst ds,.bl _,x,y,u,v,A,n,hn,hu,⟨a,xs,z,q,l⟩,g,rx,ry=>by subst z;cases rx;cases(show y=_ from g);cases ry;obtain⟨its,r,p,_⟩:=I.list q;exact SeqAt.EqAt.list_bool _ p.isList (by lia)
 |.lst ds,.int _,x,y,u,v,A,n,hn,hu,⟨a,xs,z,q,l⟩,g,rx,ry=>by subst z;cases rx;cases(show y=_ from g);obtain⟨t,rfl⟩:=ry;obtain⟨its,r,p,_⟩:=I.list q;exact SeqAt.EqAt.list_int _ _ p.isList (by lia)
 |.lst ds,.str _,x,y,u,v,A,n,hn,hu,⟨a,xs,z,q,l⟩,g,rx,ry=>by subst z;cases rx;cases(show y=_ from g);obtain⟨t,rfl⟩:=ry;obtain⟨its,r,p,_⟩:=I.list q;exact SeqAt.EqAt.list_str _ _ p.isList (by lia)
 |.aB,.tup ds,x,y,u,v,A,n,hn,hu,g,⟨a,xs,z,q,l⟩,rx,ry=>by subst z;cases ry;cases(show x=_ from g);cases rx;obtain⟨its,r,p,_⟩:=I.tuple q;exact SeqAt.EqAt.none_tuple p (by lia)
 |.bl _,.tup ds,x,y,u,v,A,n,hn,hu,g,⟨a,xs,z,q,l⟩,rx,ry=>by subst z;cases ry;cases(show x=_ from g);cases rx;obtain⟨its,r,p,_⟩:=I.tuple q;exact SeqAt.EqAt.bool_tuple _ p (by lia)
 |.int _,.tup ds,x,y,u,v,A,n,hn,hu,g,⟨a,xs,z,q,l⟩,rx,ry=>by subst z;cases ry;cases(show x=_ from g);obtain⟨t,rfl⟩:=rx;obtain⟨its,r,p,_⟩:=I.tuple q;exact SeqAt.EqAt.int_tuple _ _ p (by lia)
 |.str _,.tup ds,x,y,u,v,A,n,hn,hu,g,⟨a,xs,z,q,l⟩,rx,ry=>by subst z;cases ry;cases(show x=_ from g);obtain⟨t,rfl⟩:=rx;obtain⟨its,r,p,_⟩:=I.tuple q;exact SeqAt.EqAt.str_tuple _ _ p (by lia)
 |.aB,.lst ds,x,y,u,v,A,n,hn,hu,g,⟨a,xs,z,q,l⟩,rx,ry=>by subst z;cases ry;cases(show x=_ from g);cases rx;obtain⟨its,r,p,_⟩:=I.list q;exact SeqAt.EqAt.none_list p.isList (by lia)
 |.bl _,.lst ds,x,y,u,v,A,n,hn,hu,g,⟨a,xs,z,q,l⟩,rx,ry=>by subst z;cases ry;cases(show x=_ from g);cases rx;obtain⟨its,r,p,_⟩:=I.list q;exact SeqAt.EqAt.bool_list _ p.isList (by lia)
 |.int _,.lst ds,x,y,u,v,A,n,hn,hu,g,⟨a,xs,z,q,l⟩,rx,ry=>by subst z;cases ry;cases(show x=_ from g);obtain⟨t,rfl⟩:=rx;obtain⟨its,r,p,_⟩:=I.list q;exact SeqAt.EqAt.int_list _ _ p.isList (by lia)
 |.str _,.lst ds,x,y,u,v,A,n,hn,hu,g,⟨a,xs,z,q,l⟩,rx,ry=>by subst z;cases ry;cases(show x=_ from g);obtain⟨t,rfl⟩:=rx;obtain⟨its,r,p,_⟩:=I.list q;exact SeqAt.EqAt.str_list _ _ p.isList (by lia)
theorem sd(I:Inv X pins O H s):∀(ds es:List D) (xs ys:List V) (us vs:List Value) (A:Around) (n:Nat),dN ds<=n->A.units+n<cLine->di X.K H ds xs->di X.K H es ys->Vals xs us->Vals ys vs->
  ∀(j:Nat) (h1:j<us.length) (h2:j<vs.length),SeqAt.EqAt A s us[j] vs[j] ((nW ds es).getD j true)
 |[],es,xs,ys,us,vs,A,n,hn,hu,h,g,r,r',j,h1,h2=>by
  rw[show xs=[] from h] at r
  cases r
  cases h1
 |d::ds,[],xs,ys,us,vs,A,n,hn,hu,h,g,r,r',j,h1,h2=>by
  rw[show ys=[] from g] at r'
  cases r'
  cases h2
 |d::ds,e::es,xs,ys,us,vs,A,n,hn,hu,⟨x,q,z,h,t⟩,⟨y,q',z',h',t'⟩,r,r',j,h1,h2=>by
  subst z
  subst z'
  have hn:max (dep d) (dN ds)<=n:=hn
  cases r with
  |cons r0 r1=>
   cases r' with
   |cons VC VD=>
    cases j with
    |zero=>exact L1 I d e x y _ _ A n (by lia) hu h h' r0 VC
    |succ j=>exact sd I ds es q q' _ _ A n (by lia) hu t t' r1 VD j (Nat.lt_of_succ_lt_succ h1) (Nat.lt_of_succ_lt_succ h2)
end
def L3(K:Frag)(neg:Bool):R2:=λx y H Q=>∃d e,At K H d x/\At K H e y/\((∃ds es,d = .tup ds/\e = .tup es)\/(∃ds es,d = .lst ds/\e = .lst es))/\dep d<=50/\Q (.bl (if neg then !dW d e else dW d e)) H
end
section
variable{X:Cx}
theorem xO(hu:X.A.units+64<cLine):cR X (compareOp .Eq) (L3 X.K false):=by
 intro pins s O H x y v u Q I rx ry h
 obtain⟨d,e,h1,h2,hk,hd,q⟩:=h
 have q:Q (.bl (dW d e)) H:=q
 rcases hk with ⟨ds,es,rfl,rfl⟩ | ⟨ds,es,rfl,rfl⟩
 .obtain⟨a,xs,rfl,p,l⟩:=h1
  obtain⟨b,ys,rfl,p',l'⟩:=h2
  cases rx
  cases ry
  obtain⟨its,r,t,_⟩:=I.tuple p
  obtain⟨cC,r',t',_⟩:=I.tuple p'
  have hd:dN ds+1<=50:=hd
  have l1:its.length=ds.length:=by rw[<-r.length,l.length]
  have l2:cC.length=es.length:=by rw[<-r'.length,l'.length]
  refine SeqAt.eq_tupleAt (e:=λj=>(nW ds es).getD j true) t t' (by lia) (λj h1 h2=>?_) ⟨.bl (gU ds es),H,I,?_,q⟩
  .have i4:j<its.length:=by simpa using h1
   have iE:j<cC.length:=by simpa using h2
   have:=sd I ds es xs ys its cC X.A.in1 49 (by lia) (by show X.A.units+1+49<cLine;lia) l l' r r' j i4 iE
   simpa using this
  .show Value.bool _=Value.bool _
   rw[bp,bp,l1,l2,nX]
 .obtain⟨a,xs,rfl,p,l⟩:=h1
  obtain⟨b,ys,rfl,p',l'⟩:=h2
  cases rx
  cases ry
  obtain⟨its,r,t,_⟩:=I.list p
  obtain⟨cC,r',t',_⟩:=I.list p'
  have hd:dN ds+1<=50:=hd
  have l1:its.length=ds.length:=by rw[<-r.length,l.length]
  have l2:cC.length=es.length:=by rw[<-r'.length,l'.length]
  by_cases hl:ds.length=es.length
  .refine SeqAt.eq_listAt (e:=λj=>(nW ds es).getD j true) t.isList t'.isList (by rw[bp,bp,l1,l2,hl]) (by lia) (λj h1 h2=>?_) ⟨.bl (gU ds es),H,I,?_,q⟩
   .have i4:j<its.length:=by simpa using h1
    have iE:j<cC.length:=by simpa using h2
    have:=sd I ds es xs ys its cC X.A.in1 49 (by lia) (by show X.A.units+1+49<cLine;lia) l l' r r' j i4 iE
    simpa using this
   .show Value.bool _=Value.bool _
    rw[bp,l1,<-nX ds es,<-hl,Nat.min_self,zW,DN]
  .refine SeqAt.eq_list_lengthsAt t.isList t'.isList (by rw[bp,bp,l1,l2];simpa using hl) (by lia) ⟨.bl (gU ds es),H,I,?_,q⟩
   show Value.bool _=Value.bool _
   rw[<-nX ds es,show(ds.length==es.length)=false by simpa using hl,tY]
theorem AZ(hu:X.A.units+64<cLine):cR X (compareOp .NotEq) (L3 X.K true):=by
 intro pins s O H x y v u Q I rx ry h
 obtain⟨d,e,h1,h2,hk,hd,q⟩:=h
 have q:Q (.bl (!dW d e)) H:=q
 rcases hk with ⟨ds,es,rfl,rfl⟩ | ⟨ds,es,rfl,rfl⟩
 .obtain⟨a,xs,rfl,p,l⟩:=h1
  obtain⟨b,ys,rfl,p',l'⟩:=h2
  cases rx
  cases ry
  obtain⟨its,r,t,_⟩:=I.tuple p
  obtain⟨cC,r',t',_⟩:=I.tuple p'
  have hd:dN ds+1<=50:=hd
  have l1:its.length=ds.length:=by rw[<-r.length,l.length]
  have l2:cC.length=es.length:=by rw[<-r'.length,l'.length]
  refine SeqAt.RcNeAt.tuples (e:=λj=>(nW ds es).getD j true) t t' (by lia) (λj h1 h2=>?_) X.prog X.w X.xe _ ⟨.bl (!gU ds es),H,I,?_,q⟩
  .have i4:j<its.length:=by simpa using h1
   have iE:j<cC.length:=by simpa using h2
   have:=sd I ds es xs ys its cC X.A.in1 49 (by lia) (by show X.A.units+1+49<cLine;lia) l l' r r' j i4 iE
   simpa using this
  .show Value.bool _=Value.bool _
   rw[bp,bp,l1,l2,nX]
 .obtain⟨a,xs,rfl,p,l⟩:=h1
  obtain⟨b,ys,rfl,p',l'⟩:=h2
  cases rx
  cases ry
  obtain⟨its,r,t,_⟩:=I.list p
  obtain⟨cC,r',t',_⟩:=I.list p'
  have hd:dN ds+1<=50:=hd
  have l1:its.length=ds.length:=by rw[<-r.length,l.length]
  have l2:cC.length=es.length:=by rw[<-r'.length,l'.length]
  by_cases hl:ds.length=es.length
  .refine SeqAt.RcNeAt.lists (e:=λj=>(nW ds es).getD j true) t.isList t'.isList (by rw[bp,bp,l1,l2,hl]) (by lia) (λj h1 h2=>?_) X.prog X.w X.xe _ ⟨.bl (!gU ds es),H,I,?_,q⟩
   .have i4:j<its.length:=by simpa using h1
    have iE:j<cC.length:=by simpa using h2
    have:=sd I ds es xs ys its cC X.A.in1 49 (by lia) (by show X.A.units+1+49<cLine;lia) l l' r r' j i4 iE
    simpa using this
   .show Value.bool _=Value.bool _
    rw[bp,l1,<-nX ds es,<-hl,Nat.min_self,zW,DN]
  .refine SeqAt.RcNeAt.lists_lengths t.isList t'.isList (by rw[bp,bp,l1,l2];simpa using hl) (by lia) X.prog X.w X.xe _ ⟨.bl (!gU ds es),H,I,?_,q⟩
   show Value.bool _=Value.bool _
   rw[<-nX ds es,show(ds.length==es.length)=false by simpa using hl,tY]
   rfl
end
def b6:bootBuiltins "len"=some (.builtin "len"):=by decide +kernel
def L4:bootBuiltins "all"=some (.builtin "all"):=by decide +kernel
def jG:bootBuiltins "isinstance"=some (.builtin "isinstance"):=by decide +kernel
def uE:bootBuiltins "sorted"=some (.builtin "sorted"):=by decide +kernel
def se:bootBuiltins "tuple"=some (.type "tuple"):=by decide +kernel
def pM:bootBuiltins "list"=some (.type "list"):=by decide +kernel
def L5:bootBuiltins "str"=some (.type "str"):=by decide +kernel
def L6:bootBuiltins "int"=some (.type "int"):=by decide +kernel
def L7:bootBuiltins "bool"=some (.type "bool"):=by decide +kernel
structure Fn(P:Program)(w:World)(K:Frag)(mg:Str->Option Value)(base:Heap)(x:Str)(k:Nat)(sp:Sp):Prop where
 ex:∃(f:Addr) (fd:FuncData) (ps:List Str),aO P w K mg base aR k f fd ps sp/\mg x=some (.ref f)/\keepIn K (.ref f)=true/\Binds K fd ps []
section
variable{X:Cx}{x:Str}{p pos:Pos}{e:Expr}{es:List Expr}{t:TA}{sp:Sp}{k:Nat}
theorem aU{m:Nat}(F:Fn X.prog X.w X.K X.mg X.base x k sp)(hr:cz m X.A)(ha:PA X (e::es) t)(hle:k<=m:=by first | decide | lia)(hg:Gl X x:=by rfl)(gr:(x==("__debug__":Str))=false:=by decide)
  (he:starEach (e::es) X.env=(false,eval e X.env)::starEach es X.env:=by rfl) (hpl:(backTo pos (starEach es X.env)).any (·.1)=false:=by rfl):PE X (.Call (.Name x p) (e::es) [] pos) (K5 sp [] E0 t):=by
 obtain⟨f,fd,ps,G,hm,hk,hb⟩:=F.ex
 exact T8 G (hr.mono hle) hg hm hk hb .nil xF ha gr he hpl
end
def Cn(mg:Str->Option Value)(x:Str)(v:V):Prop := ∃u,mg x=some u/\RelV v u
def jH{X:Cx}{x:Str}{v:V}{pos:Pos}(h:Cn X.mg x v)(hg:Gl X x)(hd:(x==("__debug__":Str))=false:=by decide):PE X (.Name x pos) (tC v):=by
 obtain⟨u,hm,r⟩:=h
 exact SM hg hm r hd
def nY{X:Cx}:gn X (.builtin "isinstance") (λxs H Q=>∃x c t b,(xs=[x,.ty c]/\gQ X.K H x t/\kitOne X.K t (.type c)=some b)/\Q (.bl b) H):=by
 intro pins s O H xs us Q I r h
 obtain⟨x,c,t,b,⟨rfl,ty,e⟩,q⟩:=h
 obtain⟨u,v,rfl,ru,rv⟩:=vals2 r
 cases rv
 exact K3 I ru ty e λtk=>⟨.bl b,H,I.tok tk,rfl,q⟩
def VE{K:Frag}{t:String}:kitOne K (.type t) (.type t)=some true:=by
 unfold kitOne
 rw[aA (by simp)]
def L8{X:Cx}(hc:X.calm=true):gn X (.builtin "all") (λxs H Q=>∃(a:Addr) (bs:List Bool),xs=[.ref a]/\ai X.K H a (bs.map V.bl)/\Q (.bl (bs.all id)) H):=by
 intro pins s O H xs us Q I r h
 obtain⟨l,bs,rfl,hq,q⟩:=h
 obtain⟨u,rfl,ru⟩:=vals1 r
 cases ru
 obtain⟨its,rv,pl,hz⟩:=I.list hq
 have hl:=pl.isList
 have hh:X.A.handled=none:=I.ok.hd hc
 have aT:l<s.heap.objs.size:=by obtain⟨_,e,_⟩:=hl;exact bS e
 have hlen:its.length=bs.length:=by rw[<-rv.length,av]
 refine call_all_walk (wH hl ?_)
 refine⟨s.heap.objs.size,[s.heap.objs.size,l],[s.heap.objs.size],its.toArray.size,_,_,λi=>(bs[i]?).getD true,rfl,Walks.list (A:=X.A.in1) hh _ l (bZ aT) its.toArray,
  ⟨⟨_,cI _ rfl,rfl,rfl⟩,hl.push _⟩,λi v s' Q' E' hP hQ=>?_,λh' tk hk=>?_⟩
 .have hv:its[i]? = some v:=by simpa using hP
  have hi:i<bs.length:=by rw[<-hlen];exact(cg.mp hv).1
  obtain⟨u',e1,e2⟩:=rv.get (i:=i) (x:=V.bl bs[i]) (by simp[hi])
  rw[hv] at e1
  cases e1
  have e2:v=Value.bool bs[i]:=e2
  subst e2
  simp only[bb hi,oV] at hQ
  exact oQ hQ
 .have e:((List.range its.toArray.size).all λi=>(bs[i]?).getD true)=bs.all id:=by
   rw[bp,hlen];exact LSm.range_all bs
  rw[e]
  exact⟨.bl _,H,I.kept λb o e=>LSm.kept_iter hk b o e,rfl,q⟩
def EX{xs:List Str}:∀{us:List Value},Vals (xs.map V.str) us->StrsAre us xs:=by
 induction xs with
 |nil=>intro us h;cases h;exact .nil
 |cons x r ih=>
  intro us h
  cases h with
  |cons q t=>
   obtain⟨t',rfl⟩:=q
   exact .cons _ _ (ih t)
def rJoin(K:Frag):V->List V->Hp->VK->Prop:=λx vs H Q=>∃y a zs,x = .str y/\vs=[.ref a]/\(ai K H a (zs.map V.str)\/aq K H a (zs.map V.str))/\(zs.map (·.length)).sum+zs.length*y.length<=16777216/\Q (.str (Str.join y zs)) H
def A0{X:Cx}:AJ X "str.join" (rJoin X.K):=by
 intro pins s O H x vs v us Q I rx rv h
 obtain⟨y,a,zs,rfl,rfl,hq,hz,q⟩:=h
 obtain⟨t,rfl⟩:=rx
 obtain⟨u,rfl,ru⟩:=rv.one
 cases ru
 have e:Txt.join y zs=Str.join y zs:=StrLaws.glued_eq_join y zs
 rcases hq with hq | hq
 .obtain⟨its,r,pl,_⟩:=I.list hq
  refine join_list pl.isList (by simpa using EX r) hz λt' k=>⟨.str (Str.join y zs),H,I.tok k,⟨t',by rw[e]⟩,q⟩
 .obtain⟨its,r,pl,_⟩:=I.tuple hq
  refine join_tuple pl (by simpa using EX r) hz λt' k=>⟨.str (Str.join y zs),H,I.tok k,⟨t',by rw[e]⟩,q⟩
noncomputable def EY(x:Str):It:=⟨λi _=>i<x.cps.size,λi H v H'=>H'=H/\∃c,x.cps.toList[i]? = some c/\v = .str ⟨#[c]⟩,λi _=>i=x.cps.size⟩
def VF(x:Str):["enumerate","zip","dict_itemiterator","dict_reverseitemiterator","odict_iterator","itertools.zip_longest","itertools.pairwise"].contains (strIterType x)=false:=by
 unfold strIterType
 split <;> decide
def L9{prog:Program}{w:World}{A:Around}(hh:A.handled=none)(I:Addr)(x:Str)(t:Tok):Walks prog w A I [I] [I] x.cps.size (SignAt x) (λi h=>h.IsStrIter I (strIterType x) x t i):=by
 unfold strIterType
 split
 .exact Walks.strAscii hh I x t
 .exact Walks.strWide hh I x t
def VG{prog:Program}{w:World}{A:Around}{I:Addr}{x:Str}{t:Tok}{i:Nat}{s:Shared}{Q:Value->Shared->Prop}{E:Value->Shared->Prop}(h:s.heap.IsStrIter I (strIterType x) x t i)(q:Q (.ref I) s):wpAny (model prog w) A (pyIter (.ref I)) Q E s:=by
 unfold strIterType at h
 split at h
 .exact wpAny_pyIter_striter_ascii h q
 .exact wpAny_pyIter_striter_wide h q
def VH{P:Program}{w:World}{K:Frag}{tg:Expr}(x:Str)(t:Tok)(it:Addr):Turn P w K tg (EY x) [it] it (λi h=>h.IsStrIter it (strIterType x) x t i) where
 mem:=by simp
 obj:=λi h st b hb=>by
  have e:b=it:=by simpa using hb
  subst e
  obtain⟨o,e,c,d⟩:=st
  exact⟨o,e,λv z=>by rw[d] at z;cases z⟩
 keep:=λi h h' st k=>let ⟨o,ho,r⟩:=st;⟨o,k it (by simp) o ho,r⟩
 item:=by
  intro X hP hw hK hc i pins s O H E I hf st hg
  subst hP hw hK
  obtain⟨f0,f1,f2,f3,f4,f5⟩:=hf it (by simp)
  have W:=L9 (prog:=X.prog) (w:=X.w) (I.ok.hd hc) it x t
  refine W.item i s _ _ hg st λv h' tk hv dZ kk=>?_
  obtain⟨c,u,xP,rfl⟩:=hv
  have I1:Inv X pins O H { s with heap:=h',toks:=tk }:=I.turned (λb o hb e=>kk b o (by simpa using hb) e) f0 f1 f3 f4 f5
  obtain⟨o,e1,e2,e3⟩:=id dZ
  refine⟨_,rfl,uh (s:={ s with heap:=h',toks:=tk }) (n:=strIterType x) e1 e2 e3 (VF x) ⟨.str ⟨#[c]⟩,H,I1,⟨u,rfl⟩,⟨rfl,c,by simpa using xP,rfl⟩,dZ,λb hb=>(hf b hb).1⟩⟩
 done:=by
  intro X hP hw hK hc i pins s O H E I hf st hg
  subst hP hw hK
  obtain⟨f0,f1,f2,f3,f4,f5⟩:=hf it (by simp)
  have hg:i=x.cps.size:=hg
  subst hg
  have W:=L9 (prog:=X.prog) (w:=X.w) (I.ok.hd hc) it x t
  exact W.done s _ _ st λh' tk kk=>⟨rfl,I.turned (λb o hb e=>kk b o (by simpa using hb) e) f0 f1 f3 f4 f5⟩
 self:=λ_ _ _ _ _ st h=>VG st h
def VI(tl:TE):TI:=λO H R=>tl O H λx H1=>∃z,x = .str z/\R (EY z) H1
def VJ{X:Cx}{tg l:Expr}{tl:TE}(hl:PE X l tl):PI X tg l (VI tl):=by
 intro pins s O H R I h
 refine aE (hl pins s O H _ I h) λv s1 ⟨x,H1,I1,r1,q1⟩=>?_
 obtain⟨z,e,q⟩:=q1
 subst e
 obtain⟨t,rfl⟩:=r1
 refine wpAny_pyIter_strU ?_
 refine⟨s1.heap.objs.size,[s1.heap.objs.size],_,_,H1,rfl,I1.kept (t':=s1.toks) λb o e=>bL _ e,VH z t _,⟨_,cI _ rfl,rfl,rfl⟩,λb hb=>?_,q⟩
 have e:b=s1.heap.objs.size:=by simpa using hb
 subst e
 exact I1.j5 (aW _) I1.fresh
structure l9(J:It)(Ok:Hp->Prop)(vs:List V):Prop where
 go:∀i H,Ok H->i<vs.length->J.go i H
 fU:∀i H x H',Ok H->i<vs.length->J.fU i H x H'->H'=H/\vs[i]? = some x
 stop:∀H,Ok H->J.stop vs.length H
def gB{K:Frag}{a:Addr}{xs:List V}:l9 (rJ K a) (λH=>ai K H a xs) xs:=
 ⟨λi H h hi=>⟨xs,xs[i],h,by simp[hi]⟩,λi H x H' h _ y=>⟨y.1,y.2 xs h⟩,λH h=>⟨xs,h,aW _⟩⟩
def EZ{K:Frag}{a:Addr}{xs:List V}:l9 (ui K a) (λH=>aq K H a xs) xs:=
 ⟨λi H h hi=>⟨xs,xs[i],h,by simp[hi]⟩,λi H x H' h _ y=>⟨y.1,y.2 xs h⟩,λH h=>⟨xs,h,aW _⟩⟩
def E1{lo:Int}{n:Nat}:l9 (lV lo n) (λ_=>True) ((List.range n).map λ(i:Nat)=>V.int (lo+(i:Int))):=
 ⟨λi H _ hi=>(by simpa using hi:i<n),λi H x H' _ hi y=>⟨y.1,by
  obtain⟨_,e⟩:=y
  subst e
  have hi:i<n:=by simpa using hi
  simp[hi]⟩,λH _=>(by simp:n<=((List.range n).map λ(i:Nat)=>V.int (lo+(i:Int))).length)⟩
def VL{x:Str}:l9 (EY x) (λ_=>True) (x.cps.toList.map λc=>V.str ⟨#[c]⟩):=
 ⟨λi H _ hi=>(by simpa using hi:i<x.cps.size),λi H v H' _ _ y=>⟨y.1,by
  obtain⟨_,c,e1,e2⟩:=y
  rw[bE,e1,e2]
  all_goals rfl⟩,λH _=>(by simp:(x.cps.toList.map λc=>V.str ⟨#[c]⟩).length=x.cps.size)⟩
theorem A3{J:It}{Ok:Hp->Prop}{vs:List V}{g:TG}{tb:TS}{D:Ends}{O:St}{H:Hp}(S:l9 J Ok vs)(Pv:Nat->St->Hp->Prop)(h0:Pv 0 O H)(aD:∀i O H,i<=vs.length->Pv i O H->Ok H)
  (hs:∀i x O H,vs[i]? = some x->Pv i O H->g x O H λO2 H2=>tb { D with nx:=Pv (i+1),ct:=Pv (i+1),bk:=D.nx } O2 H2) (hd:∀O H,Pv vs.length O H->D.nx O H) :
  ∃W:Nat->Nat->St->Hp->Prop,(∃m,W 0 m O H)/\∀i m O H,W i m O H->
   (J.stop i H/\D.nx O H)\/(J.go i H/\∃N:St->Hp->Prop,(∀O' H',N O' H'->∃m',m'<m/\W (i+1) m' O' H')/\∀x H',J.fU i H x H'->g x O H' λO2 H2=>tb { D with nx:=N,ct:=N,bk:=D.nx } O2 H2):=by
 refine⟨λi m O H=>m=vs.length - i/\i<=vs.length/\Pv i O H,⟨vs.length,by simp,bu _,h0⟩,?_⟩
 rintro i m O H ⟨rfl,hi,p⟩
 have q:=aD i O H hi p
 by_cases aT:i<vs.length
 .refine .inr ⟨S.go i H q aT,Pv (i+1),λO' H' p'=>⟨vs.length - (i+1),by lia,rfl,aT,p'⟩,λx H' y=>?_⟩
  obtain⟨e,yy⟩:=S.fU i H x H' q aT y
  subst e
  exact hs i x O _ yy p
 .have e:i=vs.length:=by lia
  subst e
  exact .inl ⟨S.stop H q,hd O H p⟩
theorem kd{J:It}{Ok:Hp->Prop}{vs:List V}{js:List Nat}{tt:TT}{te:TE}{O:St}{H1:Hp}{Q:VK}(S:l9 J Ok vs)(hn:vs.length<=15752961)(p:Nat->Bool)(F:Addr->Nat->V->Hp->Prop)(aD:∀H,af H1 H->Ok H)
  (mono:∀D i y H H',H1 D=none->(∃o,H D=some (.lst o))->(∀b o,b≠D->H b=some o->H' b=some o)->F D i y H->F D i y H')
  (hs:∀D i x H (Z0:Hp->Prop) (Z:V->Hp->Prop),H1 D=none->vs[i]? = some x->af H1 H->(∃o,H D=some (.lst o))->(∀H2,af H H2->p i=false->Z0 H2)->(∀y H2,af H H2->p i=true->F D i y H2->Z y H2)->
   tt (some x::eJ js O) H λb H2=>if b=true then te (some x::eJ js O) H2 Z else Z0 H2)
  (hd:∀D ys H,H1 D=none->H D=some (.lst ys)->af H1 H->Paired (λi y=>F D i y H) ((List.range vs.length).filter p) ys->Q (.ref D) H):AX js tt te O J H1 Q:=by
 intro D hD
 have hz:15752961<sizeLine:=by decide
 refine⟨λi m H=>m=vs.length - i/\i<=vs.length/\∃ys,H D=some (.lst ys)/\af H1 H/\Paired (λi y=>F D i y H) ((List.range i).filter p) ys,⟨vs.length,by simp,bu _,[],ao,af.upd hD,.nil⟩,?_⟩
 rintro i m H ⟨rfl,hi,ys,bh,sm,pr⟩
 have q:=aD H sm
 by_cases aT:i<vs.length
 .refine .inr ⟨S.go i H q aT,λx H' y=>?_⟩
  obtain⟨e,yy⟩:=S.fU i H x H' q aT y
  subst e
  have j2:List.range (i+1)=List.range i++[i]:=nC
  have ln:ys.length<=i:=by
   have h1:=pr.length
   have h2:((List.range i).filter p).length<=(List.range i).length:=iw _ _
   rw[kM] at h2
   lia
  refine hs D i x H' _ _ hD yy sm ⟨ys,bh⟩ (λH2 s2 hp=>?_) (λz H2 s2 hp hF=>?_)
  .refine⟨vs.length - (i+1),by lia,rfl,aT,ys,s2 _ _ bh,sm.trans s2,?_⟩
   rw[j2,jY,dw,ax (by rw[hp];exact b0),oX,dJ]
   exact Paired.bU pr λj z f=>mono D j z H' H2 hD ⟨ys,bh⟩ (λb o _ e=>s2 b o e) f
  .refine⟨ys,s2 _ _ bh,by lia,vs.length - (i+1),by lia,rfl,aT,ys++[z],ao,(sm.trans s2).i0 hD,?_⟩
   have up:∀b o,b≠D->H2 b=some o->upd H2 D (.lst (ys++[z])) b=some o:=λb o hb e=>by rw[ak hb];exact e
   rw[j2,jY,dw,aA hp,oX]
   refine nA (Paired.bU pr λj z' f=>?_) (mono D i z H2 _ hD ⟨ys,s2 _ _ bh⟩ up hF)
   exact mono D j z' H2 _ hD ⟨ys,s2 _ _ bh⟩ up (mono D j z' H' H2 hD ⟨ys,bh⟩ (λb o _ e=>s2 b o e) f)
 .have e:i=vs.length:=by lia
  subst e
  exact .inl ⟨S.stop H q,hd D ys H hD bh sm pr⟩
def comp_map{J:It}{Ok:Hp->Prop}{vs:List V}{js:List Nat}{te:TE}{O:St}{H1:Hp}{Q:VK}(S:l9 J Ok vs)(hn:vs.length<=15752961)(F:Addr->Nat->V->Hp->Prop)(aD:∀H,af H1 H->Ok H)
  (mono:∀D i y H H',H1 D=none->(∃o,H D=some (.lst o))->(∀b o,b≠D->H b=some o->H' b=some o)->F D i y H->F D i y H')
  (hs:∀D i x H (Z:V->Hp->Prop),H1 D=none->vs[i]? = some x->af H1 H->(∃o,H D=some (.lst o))->(∀y H2,af H H2->F D i y H2->Z y H2)->te (some x::eJ js O) H Z)
  (hd:∀D ys H,H1 D=none->H D=some (.lst ys)->af H1 H->Paired (λi y=>F D i y H) (List.range vs.length) ys->Q (.ref D) H):AX js LQ te O J H1 Q:=by
 refine kd S hn (λ_=>true) F aD mono (λD i x H Z0 Z h1 h2 h3 h4 _ k1=>bf (B:=Z0 H) (hs D i x H Z h1 h2 h3 h4 λy H2 s f=>k1 y H2 s rfl f)) λD ys H h1 h2 h3 pr=>hd D ys H h1 h2 h3 ?_
 rw[List.filter_eq_self.mpr (λ_ _=>rfl)] at pr
 exact pr
def VM:V->Option Int->Option Int->Hp->VK->Prop:=λx lo hi H Q=>∃z,x = .str z/\z.length<=sizeLine/\Q (.str (Txt.slice z lo hi)) H
def part_of{v:Value}{o:Option Int}(p:IsPart v o):∃l:Option (Int×Tok),v=partValue l/\l.map (·.1)=o:=by
 cases p with
 |none=>exact⟨none,rfl,rfl⟩
 |int i t=>exact⟨some (i,t),rfl,rfl⟩
def uF{X:Cx}:En X VM:=by
 intro pins s O H x v vl vu lo hi sl Q I rx hs pl pu h
 obtain⟨z,rfl,hz,q⟩:=h
 obtain⟨t,rfl⟩:=rx
 obtain⟨l,rfl,rfl⟩:=part_of pl
 obtain⟨u,rfl,rfl⟩:=part_of pu
 exact⟨"str",_,F.slot_str_getitem.lookup,typeIs_str _ _ _,wpAny_getItem_str_slice (l:=l) (u:=u) (st:=none) hs rfl
  (post_val_or_str ⟨bQ (wU z _ _) hz,λt' k=>⟨.str (Txt.slice z _ _),H,I.tok k,⟨t',rfl⟩,q⟩⟩)⟩
def i5{n:Nat}{g:TG}{tb:TS}{D:Ends}{O:St}{H:Hp}(Pv:Nat->St->Hp->Prop)(h0:Pv 0 O H)
  (hs:∀(i:Nat) O H,i<n->Pv i O H->g (.int (i:Int)) O H λO2 H2=>tb { D with nx:=Pv (i+1),ct:=Pv (i+1),bk:=D.nx } O2 H2) (hd:∀O H,Pv n O H->D.nx O H) :
  ∃W:Nat->Nat->St->Hp->Prop,(∃m,W 0 m O H)/\∀i m O H,W i m O H->
   ((lV 0 n).stop i H/\D.nx O H)\/((lV 0 n).go i H/\∃N:St->Hp->Prop,(∀O' H',N O' H'->∃m',m'<m/\W (i+1) m' O' H')/\∀x H',(lV 0 n).fU i H x H'->g x O H' λO2 H2=>tb { D with nx:=N,ct:=N,bk:=D.nx } O2 H2):=
 Tj Pv h0 (λi O H hi p=>by rw[tZ];exact hs i O H hi p) hd
theorem uG{n k:Nat}(h:k<n):k6 n (k:Int)=some k:=by
 unfold k6
 rw[aA (by lia),aA (by lia),dQ]
theorem Paired.get{α β:Type}{R:α->β->Prop}:∀{l:List α}{m:List β}{i:Nat}{y:β},Paired R l m->m[i]? = some y->∃x,l[i]? = some x/\R x y
 |_,_,_,_,.nil,e=>by simp at e
 |_,_,0,_,.cons r _,e=>by simp at e;subst e;exact⟨_,rfl,r⟩
 |_,_,i+1,y,.cons _ t,e=>by
  obtain⟨x,h1,h2⟩:=Paired.get (i:=i) (y:=y) t (by simpa using e)
  exact⟨x,by simpa using h1,h2⟩
theorem Paired.getL{α β:Type}{R:α->β->Prop}:∀{l:List α}{m:List β}{i:Nat}{x:α},Paired R l m->l[i]? = some x->∃y,m[i]? = some y/\R x y
 |_,_,_,_,.nil,e=>by simp at e
 |_,_,0,_,.cons r _,e=>by simp at e;subst e;exact⟨_,rfl,r⟩
 |_,_,i+1,x,.cons _ t,e=>by
  obtain⟨y,h1,h2⟩:=Paired.getL (i:=i) (x:=x) t (by simpa using e)
  exact⟨y,by simpa using h1,h2⟩
theorem Paired.E2{α β γ:Type}{R:α->β->Prop}{g:γ->α}:∀{l:List γ}{m:List β},Paired R (l.map g) m->Paired (λc y=>R (g c) y) l m
 |[],_,h=>by cases h;exact .nil
 |_::r,_,h=>by
  cases h with
  |cons h1 h2=>exact .cons h1 (Paired.E2 h2)
theorem Paired.pick{α β:Type}{R:α->β->Prop}:∀{cs:List α}{xs:List β}(_:Paired R cs xs) (q:α->Bool) (p:Nat->Bool) (_:∀i c,cs[i]? = some c->p i=q c) {ys:List β}
  (_:Paired (λ(i:Nat) y=>xs[i]? = some y) ((List.range xs.length).filter p) ys),Paired R (cs.filter q) ys
 |_,_,.nil,q,p,hp,ys,pr=>by
  have:ys=[]:=by cases pr;rfl
  rw[this]
  exact .nil
 |c::cs,x::xs,.cons h t,q,p,hp,ys,pr=>by
  have e0:p 0=q c:=hp 0 c rfl
  rw[dC,JT,dw,zX] at pr
  have fF:∀i c',cs[i]? = some c'->(p∘Nat.succ) i=q c':=λi c' e=>hp (i+1) c' (by simpa using e)
  rw[dw]
  by_cases hq:q c=true
  .rw[e0,aA hq] at pr
   rw[aA hq]
   cases pr with
   |cons h1 h2=>
    have h1:some x=some _:=h1
    cases h1
    exact .cons h (Paired.pick t q (p∘Nat.succ) fF (Paired.bU (Paired.E2 h2) λi y e=>by simpa using e))
  .rw[e0,ax hq] at pr
   rw[ax hq]
   exact Paired.pick t q (p∘Nat.succ) fF (Paired.bU (Paired.E2 pr) λi y e=>by simpa using e)
def VN(t:TS):TS:=λD O H=>∃I:St->Hp->Prop,(∀O' H',I O' H'->D.nx O' H')/\t { D with nx:=I } O H
def uH{X:Cx}{st:Stmt}{t:TS}(h:PS X st t):PS X st (VN t):=by
 intro pins s O H D I q
 obtain⟨J,hJ,q⟩:=q
 refine aE (h pins s O H _ I q) λf s' hs=>?_
 cases f with
 |next=>obtain⟨O',H',I',z⟩:=hs;exact⟨O',H',I',hJ _ _ z⟩
 |brk=>exact hs
 |cont=>exact hs
 |ret u=>exact hs
def xQ:Slot "reversed" "__next__" "reversed.__next__" :=
 .of (owner:="reversed") (n:="__next__") (by rw[JU,JV];kernel_rfl) (by decide +kernel) (by decide +kernel) (by decide +kernel)
  (by first | exact .inl (by decide +kernel) | exact .inr (by decide +kernel)) (by rw[zY];kernel_rfl)
def Ma:entryFor table "reversed.__next__"=some Builtin.«reversed.__next__»:=entryFor_of_tree (by kernel_rfl)
def Mb(a:Value):argsOk "reversed.__next__" ⟨[a],[]⟩:=by unfold argsOk;kernel_rfl
def Mc:Slot "reversed" "__iter__" "reversed.__iter__" :=
 .of (owner:="reversed") (n:="__iter__") (by rw[JU,JV];kernel_rfl) (by decide +kernel) (by decide +kernel) (by decide +kernel)
  (by first | exact .inl (by decide +kernel) | exact .inr (by decide +kernel)) (by rw[zY];kernel_rfl)
def VO(a:Value):argsOk "reversed.__iter__" ⟨[a],[]⟩:=by unfold argsOk;kernel_rfl
def VP:entryFor table "reversed.__iter__"=some Builtin.«dict_keyiterator.__iter__» :=
 entryFor_alias (id':="dict_keyiterator.__iter__") (by kernel_rfl) (by first | rfl | decide +kernel | (unfold String.splitOn;simp +decide [String.splitOnAux])) (by decide +kernel) (by kernel_rfl)
def VQ:Slot "reversed" "__init__" "object.__init__" :=
 .of (owner:="object") (n:="__init__") (by rw[JU,JV];kernel_rfl) (by decide +kernel) (by decide +kernel) (by decide +kernel)
  (by first | exact .inl (by decide +kernel) | exact .inr (by decide +kernel)) (by rw[zY];kernel_rfl)
def VR:TypeCalled "reversed" "reversed.__new__" "object.__init__" :=
 ⟨by decide +kernel,by decide +kernel,⟨_,_,F.mro_reversed⟩,F.made_reversed,by decide +kernel,F.sub_reversed_self,VQ⟩
def VS:typeLookup (.type "tuple") "__reversed__"=pure none:=by rw[JU,JV];kernel_rfl
def VT:isSubtype (.type "tuple") (.type "dict")=pure false:=by rw[zY];kernel_rfl
noncomputable def xR(l:Addr)(i:Int):Obj:={ cls := .type "reversed",data := .fields #[.ref l,rawInt i] }
def ll(h:Heap)(a l:Addr)(i:Int):Prop := ∃o,h.get? a=some o/\o.cls = .type "reversed"/\o.data = .fields #[.ref l,rawInt i]
def ll.typeIs{s:Shared}{a l:Addr}{i:Int}(x:ll s.heap a l i):s.TypeIs (.ref a) "reversed":=let ⟨o,ho,hc,_⟩:=x;⟨o,ho,hc⟩
def ll.at{h h':Heap}{a l:Addr}{i:Int}(x:ll h a l i)(e:∀o,h.get? a=some o->h'.get? a=some o):ll h' a l i:=let ⟨o,ho,r⟩:=x;⟨o,e _ ho,r⟩
theorem VU(t:Addr)(items:Array Value)(hz:items.size<=sizeLine):Meets (Builtin.«reversed.__new__» ⟨[.type "reversed",.ref t],[]⟩) (λ_ R s=>IsTup s.heap t items/\
  ∀tk,R (.ok (.ret (.ref s.heap.objs.size))) { s with heap:=s.heap.push (xR t ((items.size:Int) - 1)),toks:=tk }):=
 .of_wp λprog w A R s h=>by
  obtain⟨hT,h⟩:=h
  unfold Builtin.«reversed.__new__»
  refine aj (oY (newClass_reversed _) ?_)
  try dsimp only
  refine aj (oY (a:=()) (by first | rfl | kernel_rfl) ?_)
  refine aj (oY (a:=()) (by first | rfl | kernel_rfl) ?_)
  try dsimp only
  refine aj (JQ hT.typeIs VS ?_)
  try dsimp only
  refine aj ?_
  show wpAny _ _ (isInstance (.ref t) (.type "dict") >>= _) _ _ _
  refine aj (JW hT.typeIs VT ?_)
  show wpAny _ _ (specialOf (.ref t) "__getitem__" >>= _) _ _ _
  refine aj (JQ hT.typeIs PyProof.Rows.slot_tuple_getitem.lookup ?_)
  show wpAny _ _ (pure true) _ _ _
  refine aY ?_
  show wpAny _ _ (call (.builtin "len") [.ref t] >>= _) _ _ _
  refine aj (len_tuple hT (by have:=nN;lia) ?_)
  refine aj (oY (a:=some (items.size:Int)) rfl ?_)
  show wpAny _ _ (newObj (.type "reversed") (.fields #[.ref t,rawInt ((items.size:Int) - 1)]) none >>= _) _ _ _
  exact aj (wQ (aY ⟨_,rfl,h _⟩))
section
variable{prog:Program}{w:World}{A:Around}{E:Value->Shared->Prop}{s:Shared}
def VV{t:Addr}{items:Array Value}{Q:Value->Shared->Prop}(hT:IsTup s.heap t items)(hz:items.size<=sizeLine)
  (h:∀tk,Q (.ref s.heap.objs.size) { s with heap:=s.heap.push (xR t ((items.size:Int) - 1)),toks:=tk }):wpAny (model prog w) A (call (.type "reversed") [.ref t]) Q E s:=
 callType_new VR (by decide) (F.typeCall_reversed_1 _) (F.newCall_reversed_1 _) (λobj=>F.args_object_init_2 obj _) F.entry_reversed_new (VU t items hz) ⟨hT,λtk=>⟨⟨_,cI _ rfl,rfl⟩,h tk⟩⟩
theorem VW{it t:Addr}{i:Nat}{items:Array Value}{x:Value}{Q:Option Value->Shared->Prop}(hit:ll s.heap it t (i:Int))(hT:IsTup s.heap t items)(hz:items.size<=sizeLine)(hx:items[i]? = some x)
  (hQ:∀h' tk,ll h' it t ((i:Int) - 1)->Heap.SameBut it s.heap h'->Q (some x) { s with heap:=h',toks:=tk }):wpAny (model prog w) A (pyNext (.ref it)) Q E s:=by
 obtain⟨o,ho,hc,hd⟩:=id hit
 have hi:i<items.size:=(Array.getElem?_eq_some_iff.mp hx).1
 have hl:=nN
 unfold pyNext
 refine aj (zZ (z6 (name:=Str.ofString "__next__") hit.typeIs xQ
  (qX xQ hit.typeIs Ma ?_ (Mb _))))
 unfold Builtin.«reversed.__next__»
 refine aj (oY (a:=(Value.ref it,[])) rfl ?_)
 try dsimp only
 refine aj (iy ho hd (x := .ref t) rfl ?_)
 refine aj (iy ho hd (x:=rawInt (i:Int)) rfl ?_)
 show wpAny _ _ (if (i:Int)<0 then _ else _) _ _ s
 rw[ax (by lia)]
 show wpAny _ _ (specialOf (.ref t) "__getitem__" >>= _) _ _ _
 refine aj (JQ hT.typeIs PyProof.Rows.slot_tuple_getitem.lookup ?_)
 show wpAny _ _ (mkInt (i:Int) >>= _) _ _ _
 refine aj (wpAny_mkInt ?_)
 refine aj (zZ (getItem_tuple (j:=i) hT (by lia) (by lia) (seqIndex_of (by lia) (by lia)) hx ?_))
 try dsimp only
 refine aj (iy ho hd (x:=rawInt (i:Int)) rfl ?_)
 show wpAny _ _ (setField (.ref it) 1 (rawInt ((i:Int) - 1)) >>= _) _ _ _
 refine aj (DO ho hd (by simp) ?_)
 refine aY ⟨x,rfl,aY (hQ _ _ ?_ (z7 ..))⟩
 exact⟨_,wK _ ho (Sa (z9 hd _)),(Obj.cls_mapFields ..).trans hc,by
  rw[z9 hd];simp⟩
def VX{it t:Addr}{Q:Option Value->Shared->Prop}(hh:A.handled=none)(hit:ll s.heap it t (-1))
  (hQ:∀h',Heap.ExtBut it s.heap h'->Q none { s with heap:=h' }):wpAny (model prog w) A (pyNext (.ref it)) Q E s:=by
 obtain⟨o,ho,hc,hd⟩:=id hit
 unfold pyNext
 refine aj (zZ (z6 (name:=Str.ofString "__next__") hit.typeIs xQ
  (qX xQ hit.typeIs Ma ?_ (Mb _))))
 unfold Builtin.«reversed.__next__»
 refine aj (oY (a:=(Value.ref it,[])) rfl ?_)
 try dsimp only
 refine aj (iy ho hd (x := .ref t) rfl ?_)
 refine aj (iy ho hd (x:=rawInt (-1)) rfl ?_)
 show wpAny _ _ (if (-1:Int)<0 then _ else _) _ _ s
 rw[aA (by decide)]
 refine aj (t9 ?_)
 refine aj ?_
 show wpAny _ _ (setField (.ref it) 1 (rawInt (-1)) >>= λ_=>setField (.ref it) 0 .none) _ _ _
 refine aj (DO ho hd (by simp) ?_)
 refine DO (wK _ ho (Sa (z9 hd _))) (z9 hd _) (by simp) ?_
 refine aj ?_
 show wpAny _ _ (newExc (.type "StopIteration") [] >>= _) _ _ _
 refine aj ?_
 simp only[newExc,newTuple]
 refine aj (wQ ?_ (by size_fits))
 refine aj (m:=firstArgMember _ _) (oY (a:=Value.none) (by first | rfl | (simp only[firstArgMember];rfl)) ?_)
 refine wQ ?_ (by size_fits)
 simp only[raiseNew]
 refine aj (wpAny_handled ?_)
 first | rw[show A.in1.handled=none from hh] | rw[hh]
 refine aj (aY (wpAny_throw ?_))
 refine aj (JW (T:="StopIteration") (b:=true) ⟨_,cI _ rfl,rfl⟩ isSubtype_stop ?_)
 refine aY (hQ _ λb ob hb e=>?_)
 refine bL _ (bL _ ?_)
 exact(nz _ _ (br hb)).trans ((nz _ _ (br hb)).trans e)
def Md{it t:Addr}{i:Int}{Q:Value->Shared->Prop}(hit:ll s.heap it t i)(h:Q (.ref it) s):wpAny (model prog w) A (pyIter (.ref it)) Q E s:=by
 refine wpAny_pyIter_slot hit.typeIs Mc (qX Mc hit.typeIs VP ?_ (VO _))
 show wpAny _ _ (ret (.ref it)) _ _ s
 exact aY ⟨_,rfl,"reversed",_,hit.typeIs,xQ.lookup,h⟩
end
noncomputable def E3(K:Frag)(a:Addr)(xs:List V):It:=
 ⟨λi H=>aq K H a xs/\i<xs.length,λi H x H'=>H'=H/\xs.reverse[i]? = some x,λi H=>aq K H a xs/\i=xs.length⟩
theorem VY{P:Program}{w:World}{K:Frag}{tg:Expr}(a it:Addr)(xs:List V):Turn P w K tg (E3 K a xs) [it] it (λi h=>ll h it a ((xs.length:Int) - 1 - (i:Nat))) where
 mem:=by simp
 obj:=λi h st b hb=>by
  have e:b=it:=by simpa using hb
  subst e
  obtain⟨o,e,c,d⟩:=st
  exact⟨o,e,λv z=>by rw[d] at z;cases z⟩
 keep:=λi h h' st k=>st.at λo e=>k it (by simp) o e
 item:=by
  intro X hP hw hK hc i pins s O H E I hf st hg
  subst hP hw hK
  obtain⟨hq,hi⟩:=hg
  obtain⟨its,rv,p,hz⟩:=I.tuple hq
  have hl:=rv.length
  obtain⟨f0,f1,f2,f3,f4,f5⟩:=hf it (by simp)
  have e1:(xs.length:Int) - 1 - (i:Nat)=((xs.length - 1 - i:Nat):Int):=by lia
  have hx:xs[xs.length - 1 - i]? = some (xs[xs.length - 1 - i]'(by lia)):=bb (by lia)
  obtain⟨u,hu,ru⟩:=rv.get hx
  rw[e1] at st
  refine VW st p (by rw[bp];lia) (x:=u) (by simpa using hu) λh' tk dZ sb=>?_
  have I1:Inv X pins O H { s with heap:=h',toks:=tk }:=I.turned (λb o hb e=>(sb.2 b hb).trans e) f0 f1 f3 f4 f5
  obtain⟨o,e,c,d⟩:=id dZ
  refine⟨u,rfl,uh (s:={ s with heap:=h',toks:=tk }) e c d (by decide) ⟨_,H,I1,ru,⟨rfl,?_⟩,?_,λb hb=>(hf b hb).1⟩⟩
  .rw[JX hi]
   exact hx
  .have e2:((xs.length - 1 - i:Nat):Int) - 1=(xs.length:Int) - 1 - ((i+1:Nat):Int):=by lia
   rw[e2] at dZ
   exact dZ
 done:=by
  intro X hP hw hK hc i pins s O H E I hf st hg
  subst hP hw hK
  obtain⟨hq,hi⟩:=hg
  obtain⟨f0,f1,f2,f3,f4,f5⟩:=hf it (by simp)
  have e1:(xs.length:Int) - 1 - (i:Nat) = -1:=by lia
  rw[e1] at st
  exact VX (I.ok.hd hc) st λh' eb=>⟨rfl,I.turned (t':=s.toks) (λb o hb e=>eb b o hb e) f0 f1 f3 f4 f5⟩
 self:=λ_ _ _ _ _ st h=>Md st h
def VZ(K:Frag)(ta:TA):TI:=λO H R=>ta O H λvs H1=>∃a xs,vs=[.ref a]/\aq K H1 a xs/\R (E3 K a xs) H1
def V0:bootBuiltins "reversed"=some (.type "reversed"):=by decide +kernel
theorem V1{X:Cx}{tg a:Expr}{ta:TA}{p pos:Pos}(hg:Gl X "reversed")(hm:X.mg "reversed"=none)(ha:PA X [a] ta)(hs:starEach [a] X.env=[(false,eval a X.env)]:=by rfl) :
  PI X tg (.Call (.Name "reversed" p) [a] [] pos) (VZ X.K ta):=by
 intro pins s O H R I h
 refine Call_ (ph I hg hm V0 (DF (aE (ha pos pins s O H _ I h) λus s1 ⟨vs,H1,I1,r1,q1⟩=>?_) hs rfl))
 obtain⟨t,xs,e,hq,q⟩:=q1
 subst e
 obtain⟨u,rfl,ru⟩:=vals1 r1
 cases ru
 obtain⟨its,rv,pl,hz⟩:=I1.tuple hq
 have hl:=rv.length
 refine VV pl (by rw[bp];lia) λtk=>?_
 have I2:Inv X pins O H1 { s1 with heap:=s1.heap.push (xR t ((its.toArray.size:Int) - 1)),toks:=tk }:=I1.kept λb o e=>bL _ e
 have Me:ll (s1.heap.push (xR t ((its.toArray.size:Int) - 1))) s1.heap.objs.size t ((xs.length:Int) - 1 - ((0:Nat):Int)):=by
  have e:(its.toArray.size:Int) - 1=(xs.length:Int) - 1 - ((0:Nat):Int):=by rw[bp];lia
  rw[<-e]
  exact⟨_,cI _ rfl,rfl,rfl⟩
 refine Md (s:={ s1 with heap:=s1.heap.push (xR t ((its.toArray.size:Int) - 1)),toks:=tk }) Me ?_
 refine⟨s1.heap.objs.size,[s1.heap.objs.size],_,_,H1,rfl,I2,VY t _ xs,Me,λb hb=>?_,q⟩
 have e:b=s1.heap.objs.size:=by simpa using hb
 subst e
 exact I1.j5 (aW _) I1.fresh
def V2{K:Frag}{a:Addr}{xs:List V}:l9 (E3 K a xs) (λH=>aq K H a xs) xs.reverse:=
 ⟨λi H h hi=>⟨h,by simpa using hi⟩,λi H x H' h _ y=>y,λH h=>⟨h,by simp⟩⟩
noncomputable def lr(x:Str):Str:=⟨x.cps.toList.reverse.toArray⟩
theorem rev_eq(x:Str)(u:Tok):Txt.sliceBy x none none (-1,u)=lr x:=by
 have h:=step_rev_list x u
 have e:(List.range x.length).map (λk=>x.cps.getD (x.length - 1 - k) 0)=x.cps.toList.reverse:=by
  apply ju
  intro i
  have hl:x.cps.toList.length=x.length:=by simp[Str.length]
  rw[bE]
  by_cases hi:i<x.length
  .rw[qY hi,JX (by rw[hl];exact hi),hl]
   have hb:x.length - 1 - i<x.cps.size:=by show _<x.length;lia
   simp[Array.getD,hb]
  .rw[cW (by simpa using hi),cW (by rw[DP,hl];lia)]
   rfl
 rw[e] at h
 generalize Txt.sliceBy x none none (-1,u)=y at h
 cases y with
 |mk c=>
  unfold lr
  rw[<-h]
def V3(te ts:TE):TE:=λO H Q=>te O H λx H1=>ts O H1 λy H2=>∃z,x = .str z/\y = .int (-1)/\z.length<=sizeLine/\Q (.str (lr z)) H2
def V4{X:Cx}{e st:Expr}{te ts:TE}{pos p2:Pos}(he:PE X e te)(dI:PE X st ts):PE X (.Subscript e (.Slice none none (some st) p2) pos) (V3 te ts):=by
 intro pins s O H Q I h
 refine Subscript_ (aE (he pins s O H _ I h) λv s1 ⟨x,H1,I1,r1,q1⟩=>?_)
 refine wpAny_Slice (aE (l4 pins s1 O H1 (λo H'=>o=none/\H'=H1) I1 ⟨rfl,rfl⟩) λvl s2 ⟨l,H2,I2,pl,el,eh⟩=>?_)
 subst el eh
 refine aE (l4 pins s2 O H2 (λo H'=>o=none/\H'=H2) I2 ⟨rfl,rfl⟩) λvu s3 ⟨u,H3,I3,pu,eu,eh⟩=>?_
 subst eu eh
 rw[evalPart_some]
 refine aE (dI pins s3 O H3 _ I3 q1) λvs s4 h_=>?_
 obtain⟨y,H4,I4,r4,z,e1,e2,hz,q⟩:=h_
 subst e1 e2
 obtain⟨t,rfl⟩:=r1
 obtain⟨t4,rfl⟩:=r4
 cases pl
 cases pu
 have I5:Inv X pins O H4 { s4 with heap:=s4.heap.push { cls := .type "slice",data := .fields #[.none,.none,.int (-1) t4] } }:=I4.kept (t':=s4.toks) λb ob q=>bL _ q
 show wpAny (model X.prog X.w) X.A (subscriptTail e (.Slice none none (some st) p2) (.str z t) (.ref s4.heap.objs.size)) (EP X pins O Q) X.xe { s4 with heap:=s4.heap.push { cls := .type "slice",data := .fields #[.none,.none,.int (-1) t4] } }
 refine tail_any (ops:=[.ref s4.heap.objs.size,.str z t]) (typeIs_str _ _ _) F.slot_str_getitem.lookup (wpAny_getItem_str_slice (l:=none) (u:=none) (st:=some (-1,t4)) ⟨_,cI _ rfl,rfl,rfl⟩ rfl
  (post_val_or_str ⟨bQ (Txt.sliceBy_le z _ _ (-1,t4) (show(-1:Int)≠0 by decide)) hz,λt' k=>?_⟩)) (by with_unfolding_all rfl)
 exact⟨.str (lr z),H4,I5.tok k,⟨t',by show Value.str (Txt.sliceBy z none none (-1,t4)) t'=_;rw[rev_eq]⟩,q⟩
end L2
namespace L2
open PySem
variable{p:Prop}{α:Type}{P:Program}{w:World}{K:Frag}{mg:Str->Option Value}{base:Heap}{st:Stmt}{f:Addr}{fd:FuncData}
structure Hid(p G:Prop):Prop where
 k:p->G
def hide(h:∀G:Prop,Hid p G->G):p:=h p ⟨id⟩
theorem A4{P:List α->Prop}(h:∀a,P [a]):∀us:List α,us.length=1->P us
 |[a],_=>h a
theorem xS{P:List α->Prop}(h:∀a b,P [a,b]):∀us:List α,us.length=2->P us
 |[a,b],_=>h a b
theorem xT{P:List α->Prop}(h:∀a b c,P [a,b,c]):∀us:List α,us.length=3->P us
 |[a,b,c],_=>h a b c
theorem A6{P:List α->Prop}(h:∀a b c d,P [a,b,c,d]):∀us:List α,us.length=4->P us
 |[a,b,c,d],_=>h a b c d
theorem A7{P:List α->Prop}(h:∀a b c d e,P [a,b,c,d,e]):∀us:List α,us.length=5->P us
 |[a,b,c,d,e],_=>h a b c d e
def aX.bG{x qual:Str}{N ps:List Str}{k:Nat}{sp:Sp}(F:aX K x qual st f fd)(S:bg N ps (aV st))
  (nQ:∀(aH:Value) (A:Around) (outer:List Env) (s:Shared) (H:Hp) (vs:List V) (Q:VK) (E:XK),cz k (A.deeper (PyProof.Rows.envOfC qual (aV st) s.heap.objs.size f aH))->sp vs H Q E->
   ∃t,gk (nP aR P w K mg base N qual (aV st) f aH A outer s H E).pw (kb st) t/\t { nx:=λ_ H'=>Q .aB H',rt:=Q } (start N vs) H)
  (len:∀vs H Q E,sp vs H Q E->vs.length=ps.length:=by intro vs H Q E h;repeat (first | (obtain⟨rfl,_⟩:=h;rfl) | obtain⟨_,h⟩:=h)):aO P w K mg base aR (k+1) f fd ps sp:=F.ok S len nQ
end L2
namespace L2
open PySem PySem.Spec PyProof.Rows
variable{c j' kk l n q:Nat}{X:Cx}{qual x:Str}{st:Stmt}{C a f i y:Addr}{fd:FuncData}{d u v1 v2:Value}{N ps ss:List Str}{sp:Sp}{ds out us vs:List Value}{rr:Frag->R2}{ta:TA}{K K':Frag}{xs ys:List V}{js:List Nat}{tt:TT}{te:TE}{O:St}{H H1:Hp}{E Q:Value->Shared->Prop}{b:Int}{v:V}{P prog:Program}{w:World}{e tg:Expr}{o1 o2 ob:Obj}{kvs:List (Key×V)}{h h':Heap}{U:Nat->Heap->Prop}{K1 K2:Shared->Prop}{A:Around}{pins:List (Addr×Obj)}{s:Shared}{elts es:List Expr}{nO p p' pos:Pos}{g:TG}{items:Array Value}{W:List V->Hp->(It->Hp->Prop)->Prop}{rest:List Stmt}{expr:Bool}{kz:Str->Int}{Z:Unit->Shared->Prop}{M:Model}{T:Key->Bool}
def dj(h:n<=10000):n<=sizeLine:=bQ h (by decide)
def pN(h:n<=10000):n<sizeLine:=jX h (by decide)
def Mf:bootBuiltins "sum"=some (.builtin "sum"):=by decide +kernel
def V5:bootBuiltins "min"=some (.builtin "min"):=by decide +kernel
def V6:bootBuiltins "max"=some (.builtin "max"):=by decide +kernel
theorem V7(is:List Int):∀n,n<=is.length->preSum (λi=>(is[i]?).getD 0) n=(is.take n).sum:=by
 intro n
 induction n with
 |zero=>intro _;rfl
 |succ n ih=>
  intro h
  have e:is[n]? = some (is[n]'(by lia)):=bb _
  rw[fL,JY,<-ih (by lia)]
  show preSum _ n+(is[n]?).getD 0=_
  rw[e]
  simp
def Mg(hc:X.calm=true):gn X (.builtin "sum") (λxs H Q=>∃(a:Addr) (is:List Int),xs=[.ref a]/\ai X.K H a (is.map V.int)/\Q (.int is.sum) H):=by
 intro pins s O H xs us Q I r h
 obtain⟨l,is,rfl,hq,q⟩:=h
 obtain⟨u,rfl,ru⟩:=vals1 r
 cases ru
 obtain⟨its,rv,pl,hz⟩:=I.list hq
 have hl:=pl.isList
 have hh:X.A.handled=none:=I.ok.hd hc
 have aT:l<s.heap.objs.size:=by obtain⟨_,e,_⟩:=hl;exact bS e
 have hlen:its.length=is.length:=by rw[<-rv.length,av]
 refine call_sum_walkG (wH hl ?_)
 refine⟨s.heap.objs.size,[s.heap.objs.size,l],[s.heap.objs.size],its.toArray.size,_,_,λi=>(is[i]?).getD 0,rfl,Walks.list (A:=X.A.in1) hh _ l (bZ aT) its.toArray,
  ⟨⟨_,cI _ rfl,rfl,rfl⟩,hl.push _⟩,λb hb=>?_,λi v hP=>?_,λh' tk t' hk=>?_⟩
 .have z:b=s.heap.objs.size\/b=l:=by simpa using hb
  show b<(s.heap.push _).objs.size
  rw[qZ]
  rcases z with z | z
  .rw[z];exact qS _
  .rw[z];exact nB aT
 .have hv:its[i]? = some v:=by simpa using hP
  have hi:i<is.length:=by rw[<-hlen];exact(cg.mp hv).1
  obtain⟨u',e1,e2⟩:=rv.get (i:=i) (x:=V.int is[i]) (by simp[hi])
  rw[hv] at e1
  cases e1
  obtain⟨t,rfl⟩:=e2
  exact⟨t,by simp[hi]⟩
 .have e:preSum (λi=>(is[i]?).getD 0) its.toArray.size=is.sum:=by
   rw[bp,hlen,V7 is _ (aW _),DQ]
  rw[e]
  exact⟨.int _,H,I.kept λb o e=>LSm.kept_iter hk b o e,⟨_,rfl⟩,q⟩
structure uI(K:Frag)(x qual:Str)(st:Stmt)(f:Addr)(fd:FuncData)(d:Value):Prop where
 ex:∃(oc:Value) (od:Option Addr) (T:Addr) (kV doc pm:Value) (an:Option Addr) (aH ct:Value) (j8:Array (Option Value)),
  fd=fnOf x qual (pJ st) (kb st) (aV st) (.ref T) kV doc pm an aH ct/\K.lookup f=some ⟨oc,od,.func fd,j8⟩/\codeIn K aH qual=true/\
  ∃(xU:Option Addr) (n:Nat) (rq:Array (Option Value)),K.lookup T=some ⟨.type "tuple",xU,.seq #[d] n,rq⟩
 kp:keepIn K (.ref f)=true
section
variable{P:Program}{w:World}{K:Frag}{mg:Str->Option Value}{base:Heap}
def uI.ok{k:Nat}(F:uI K x qual st f fd d)(S:bg N ps (aV st))(len:∀vs H Q E,sp vs H Q E->vs.length=ps.length)
  (nQ:∀(aH:Value) (A:Around) (outer:List Env) (s:Shared) (H:Hp) (vs:List V) (Q:VK) (E:XK),cz k (A.deeper (envOfC qual (aV st) s.heap.objs.size f aH))->sp vs H Q E->
   ∃t,gk (nP aR P w K mg base N qual (aV st) f aH A outer s H E).pw (kb st) t/\t { nx:=λ_ H'=>Q .aB H',rt:=Q } (start N vs) H):aO P w K mg base aR (k+1) f fd ps sp:=by
 obtain⟨oc,od,T,kV,doc,pm,an,aH,ct,j8,rfl,lk,iW,_⟩:=F.ex
 refine AE lk iW S len λA outer s H vs Q E hr l0=>?_
 obtain⟨t,h,q⟩:=nQ aH A outer s H vs Q E hr l0
 exact⟨t,h.pw,q⟩
def uI.binds(F:uI K x qual st f fd d)
  (h:∀(T:Addr) (kV doc pm:Value) (an:Option Addr) (aH ct:Value) (s:Shared) (us:List Value) (xU:Option Addr) (n:Nat) (rq:Array (Option Value)),s.heap.get? T=some ⟨.type "tuple",xU,.seq #[d] n,rq⟩->(us++ds).length=ps.length->
   BindsTo s (fnOf x qual (pJ st) (kb st) (aV st) (.ref T) kV doc pm an aH ct) ⟨us,[]⟩ (ps.zip (us++ds))):Binds K fd ps ds:=by
 obtain⟨oc,od,T,kV,doc,pm,an,aH,ct,j8,rfl,lk,iW,xU,n,rq,hT⟩:=F.ex
 intro s us KX hl
 exact h T kV doc pm an aH ct s us xU n rq (KX _ _ hT) hl
structure Mt(P:Program)(w:World)(K:Frag)(mg:Str->Option Value)(base:Heap)(C:Addr)(m:Str)(k:Nat)(sp:Sp)(dh:List V):Prop where
 cl:cD K C
 ex:∃(f:Addr) (fd:FuncData) (ps:List Str) (ds:List Value),Meth K C m f/\aO P w K mg base aR k f fd ps sp/\Binds K fd ps ds/\Vals dh ds
structure Nw(P:Program)(w:World)(K:Frag)(mg:Str->Option Value)(base:Heap)(x:Str)(C:Addr)(k:Nat)(sp:Sp):Prop where
 ex:∃(f:Addr) (fd:FuncData) (ps:List Str),Mk K C f/\aO P w K mg base aR k f fd ps sp/\Binds K fd ps []/\mg x=some (.ref C)
end
section
variable{X:Cx}{C:Addr}{x m:Str}{p pos apos:Pos}{e o:Expr}{es:List Expr}{t:TA}{ta:TE}{sp:Sp}{k:Nat}{dh:List V}{pl:Sem Bool}
theorem sf(M:Mt X.prog X.w X.K X.mg X.base C m k sp dh)(hr:cz l X.A)(he:PE X o ta)(ha:PA X (e::es) t)(hle:k<=l:=by first | decide | lia)
  (dI:starEach (e::es) X.env=(false,eval e X.env)::starEach es X.env:=by rfl) (hpl:(backTo pos (starEach es X.env)).any (·.1)=false:=by rfl)
  (ht:eval (.Call (.Attribute o m apos) (e::es) [] pos) X.env=(do
   let ov<-eval o X.env
   standAt apos.atName
   let (f,first)<-holding [ov] (getMethod ov m pl)
   callWith pos f first (backTo pos (starEach (e::es) X.env)) (backToKw pos (keywordEach [] X.env))):=by rfl):PE X (.Call (.Attribute o m apos) (e::es) [] pos) (AB C m sp dh E0 ta t):=by
 obtain⟨f,fd,ps,ds,hm,G,hb,hd⟩:=M.ex
 exact T9 he M.cl hm G (hr.mono hle) hb hd xF ha dI hpl ht
theorem A8(M:Mt X.prog X.w X.K X.mg X.base C m k sp dh)(hr:cz l X.A)(he:PE X o ta)(hle:k<=l:=by first | decide | lia)
  (ht:eval (.Call (.Attribute o m apos) [] [] pos) X.env=(do
   let ov<-eval o X.env
   standAt apos.atName
   let (f,first)<-holding [ov] (getMethod ov m pl)
   callWith pos f first (backTo pos (starEach [] X.env)) (backToKw pos (keywordEach [] X.env))):=by rfl):PE X (.Call (.Attribute o m apos) [] [] pos) (AB C m sp dh E0 ta lY):=by
 obtain⟨f,fd,ps,ds,hm,G,hb,hd⟩:=M.ex
 exact Ua he M.cl hm G (hr.mono hle) hb hd xF ht
theorem V8(N:Nw X.prog X.w X.K X.mg X.base x C k sp)(hr:cz l X.A)(hle:k+1<=l:=by first | decide | lia)(hg:Gl X x:=by rfl)(gr:(x==("__debug__":Str))=false:=by decide):PE X (.Call (.Name x p) [] [] pos) (AD C sp [] E0 lY):=by
 obtain⟨f,fd,ps,M,G,hb,hm⟩:=N.ex
 exact Uc M G (hr.mono hle) hg hm hb .nil xF gr
end
section
variable{X:Cx}{K:Frag}{o e:Expr}{es:List Expr}{to:TE}{t:TA}{name:Str}{apos d8 pos:Pos}{T id:String}
def V9{rr:Frag->V->List V->Hp->VK->Prop}(hK:X.K=K)(pa:PlainAttrs T)(slot:Slot T name id)(Ew:typeOf (.builtin id)=pure (.type "method_descriptor"))(hm:AJ X id (rr X.K))(ho:PE X o to)(ha:PA X (e::es) t)
  (Ex:attributeBase o name X.env (eval o X.env)=eval o X.env:=by rfl)
  (uv:((backTo d8 (starEach (e::es) X.env)).all (λx=>!x.1)&&(backToKw d8 (keywordEach [] X.env)).all (λx=>x.1.isSome)
   && decide ((e::es).length+([]:List Keyword).length+(if ([]:List Keyword).isEmpty then 0 else 1)<30))=true:=by rfl)
  (Ey:(apos.endLine==d8.line)=true:=by rfl) (hs:starEach (e::es) X.env=(false,eval e X.env)::starEach es X.env:=by rfl) (Ez:(backTo d8 (starEach es X.env)).any (·.1)=false:=by rfl) :
  PE X (.Call (.Attribute o name apos) (e::es) [] d8) (Lm K T (rr K) to t):=by
 subst hK
 exact fB pa slot Ew hm ho ha Ex uv Ey hs Ez
def si{a i:Expr}{ta ti:TE}(hK:X.K=K)(hr:ur X (rr X.K))(ha:PE X a ta)(hi:PE X i ti)(hp:Ep i:=by exact λ_ _=>rfl):PE X (.Subscript a i pos) (kU (rr K) ta ti):=by
 subst hK
 exact aM hr ha hi hp
end
theorem Wa{Q:VK}(hn:xs.length<=10000)(ha:ai K H1 a xs)(p:Nat->Bool)(F:Addr->Nat->V->Hp->Prop)
  (mono:∀D i y H H',H1 D=none->(∃o,H D=some (.lst o))->(∀b o,b≠D->H b=some o->H' b=some o)->F D i y H->F D i y H')
  (hs:∀D i x H (Z0:Hp->Prop) (Z:V->Hp->Prop),H1 D=none->xs[i]? = some x->af H1 H->(∃o,H D=some (.lst o))->(∀H2,af H H2->p i=false->Z0 H2)->(∀y H2,af H H2->p i=true->F D i y H2->Z y H2)->
   ∃b v1 v2,x = .ref b/\aq K' H b [v1,v2]/\tt (some v1::some v2::eJ js O) H λb H2=>if b=true then te (some v1::some v2::eJ js O) H2 Z else Z0 H2)
  (hd:∀D ys H,H1 D=none->H D=some (.lst ys)->af H1 H->Paired (λi y=>F D i y H) ((List.range xs.length).filter p) ys->Q (.ref D) H):EO K' js tt te O (rJ K a) H1 Q:=by
 intro D hD
 have hz:10000<sizeLine:=by decide
 refine⟨λi m H=>m=xs.length - i/\i<=xs.length/\∃ys,H D=some (.lst ys)/\af H1 H/\Paired (λi y=>F D i y H) ((List.range i).filter p) ys,⟨xs.length,by simp,bu _,[],ao,af.upd hD,.nil⟩,?_⟩
 rintro i m H ⟨rfl,hi,ys,bh,sm,pr⟩
 have q:=sm.seq ha
 by_cases aT:i<xs.length
 .refine .inr ⟨⟨xs,_,q,bb aT⟩,λv H' y=>?_⟩
  obtain⟨rfl,yy⟩:=y
  have yy:=yy xs q
  have j2:List.range (i+1)=List.range i++[i]:=nC
  have ln:ys.length<=i:=by
   have h1:=pr.length
   have h2:((List.range i).filter p).length<=(List.range i).length:=iw _ _
   rw[kM] at h2
   lia
  have sp:af H' H':=af.cA _
  refine hs D i v _ _ _ hD yy (sm.trans sp) ⟨ys,sp _ _ bh⟩ (λH2 s2 hp=>?_) (λz H2 s2 hp hF=>?_)
  .refine⟨xs.length - (i+1),by lia,rfl,aT,ys,s2 _ _ (sp _ _ bh),sm.trans (sp.trans s2),?_⟩
   rw[j2,jY,dw,ax (by rw[hp];exact b0),oX,dJ]
   exact Paired.bU pr λj z f=>mono D j z H' H2 hD ⟨ys,bh⟩ (λb o _ e=>s2 b o (sp b o e)) f
  .refine⟨ys,s2 _ _ (sp _ _ bh),by lia,xs.length - (i+1),by lia,rfl,aT,ys++[z],ao,(sm.trans (sp.trans s2)).i0 hD,?_⟩
   have up:∀b o,b≠D->H2 b=some o->upd H2 D (.lst (ys++[z])) b=some o:=λb o hb e=>by rw[ak hb];exact e
   rw[j2,jY,dw,aA hp,oX]
   refine nA (Paired.bU pr λj z' f=>?_) (mono D i z H2 _ hD ⟨ys,s2 _ _ (sp _ _ bh)⟩ up hF)
   exact mono D j z' H2 _ hD ⟨ys,s2 _ _ (sp _ _ bh)⟩ up (mono D j z' H' H2 hD ⟨ys,bh⟩ (λb o _ e=>s2 b o (sp b o e)) f)
 .have e:i=xs.length:=by lia
  subst e
  exact .inl ⟨⟨xs,q,aW _⟩,hd D ys H hD bh sm pr⟩
section
variable{X:Cx}{K:Frag}{a b:Expr}{ta tb:TE}{pos:Pos}
def E4{op:CmpOp}(hK:X.K=K)(hr:cR X (compareOp op) (rr X.K))(ha:PE X a ta)(hb:PE X b tb)(hm:behindInMarks op b=false:=by first | exact Ee _ | rfl):PT X (.Compare a [op] [b] pos) (xt (kU (rr K) ta tb)):=by
 subst hK
 exact bR hr ha hb hm
end
noncomputable def fX(a b:Str):Bool := !ltCps b.cps.toList a.cps.toList
def sj{a b:Str}:fX a b=true↔a.cps.toList<=b.cps.toList:=by
 unfold fX
 rw[ltCps_eq]
 by_cases h:b.cps.toList<a.cps.toList
 .rw[aJ h]
  exact⟨(λz=>nomatch z),(λz=>absurd h (List.not_lt.mpr z))⟩
 .rw[aN h]
  exact⟨λ_=>List.not_lt.mp h,λ_=>rfl⟩
def Wb{a b:Str}(h1:fX a b=true)(h2:fX b a=true):a=b:=by
 have e:=List.le_antisymm (sj.mp h1) (sj.mp h2)
 cases a;cases b
 exact fh Str.mk (Array.toList_inj.mp e)
def Mh{a b c:Str}(h1:fX a b=true)(h2:fX b c=true):fX a c=true:=sj.mpr (List.le_trans (sj.mp h1) (sj.mp h2))
def Wc(a b:Str):(fX a b||fX b a)=true:=by
 rcases List.le_total a.cps.toList b.cps.toList with h | h
 .rw[sj.mpr h,Bool.true_or]
 .rw[sj.mpr h,Bool.or_true]
noncomputable def b8(l:List Str):List Str:=l.mergeSort fX
def fY(l:List Str):(b8 l).Perm l:=List.mergeSort_perm l fX
def E5(l:List Str):(b8 l).Pairwise (λa b=>fX a b=true):=List.pairwise_mergeSort (le:=fX) (λ_ _ _ h1 h2=>Mh h1 h2) Wc l
theorem Mi:∀{p:Str}{l:List Str},risingS p l=true->(p::l).Pairwise (λa b=>fX a b=true)
 |p,[],_=>List.pairwise_singleton _ _
 |p,x::r,h=>by
  unfold risingS at h
  rw[eP] at h
  have ih:=Mi h.2
  have h1:fX p x=true:=h.1
  refine List.Pairwise.cons (λy hy=>?_) ih
  rcases cf.mp hy with z | z
  .rw[z];exact h1
  .exact Mh h1 ((List.pairwise_cons.mp ih).1 y z)
def Mj{l:List Str}(h:sortedS l=true):l.Pairwise (λa b=>fX a b=true):=by
 cases l with
 |nil=>exact List.Pairwise.nil
 |cons p r=>exact Mi h
def A9{l m:List Str}(hp:l.Perm m)(h:l.Pairwise (λa b=>fX a b=true)):b8 m=l:=
 (List.Perm.eq_of_pairwise (le:=λa b=>fX a b=true) (λ_ _ _ _=>Wb) h (E5 m) (hp.trans (fY m).symm)).symm
def Ml:∀{us:List Value},StrsAre us ss->Vals (ss.map V.str) us:=by
 induction ss with
 |nil=>intro us h;cases h;exact .nil
 |cons x r ih=>
  intro us h
  cases h with
  |cons _ t q=>exact .cons ⟨t,rfl⟩ (ih q)
section
variable{X:Cx}
theorem Ba:gn X (.builtin "sorted") (λxs H Q=>∃(a:Addr) (ss:List Str),xs=[.ref a]/\ai X.K H a (ss.map V.str)/\ss.length<64/\∀p,H p=none->Q (.ref p) (upd H p (.lst ((b8 ss).map V.str)))):=by
 intro pins s O H xs us Q I r h
 obtain⟨l,ss,rfl,hq,dk,q⟩:=h
 obtain⟨u,rfl,ru⟩:=vals1 r
 cases ru
 obtain⟨its,rv,pl,hz⟩:=I.list hq
 have hS:StrsAre its ss:=EX rv
 have hlen:its.length=ss.length:=by rw[<-rv.length,av]
 refine sorted_strs pl.isList hS (by lia) λout E6 a1 a2 a3=>?_
 obtain⟨e,he⟩:=sortedAll_at s.heap its out
 have e1:b8 ss=E6:=A9 a2 (Mj a3)
 have hf:H (s.heap.objs.size+1)=none:=I.aD.fresh (ir _)
 refine⟨.ref (s.heap.objs.size+1),_,I.laid (a:=s.heap.objs.size+1) (o := .lst ((b8 ss).map V.str)) (t':=s.toks) (λb o z=>sortedAll_old z) (ir _) ?_,rfl,q _ hf⟩
 have k8:(b8 ss).length=ss.length:=(fY ss).length_eq
 have Wd:(64:Nat)<=sizeLine:=by decide
 refine⟨by rw[av];lia,out.toList,e,?_,by simpa using he⟩
 rw[e1]
 exact Ml a1
theorem Mm:∀{ss:List Str}{vs:List Value},vs.length=ss.length->(∀(j:Nat) (v:Value),vs[j]? = some v->∃x t,ss[j]? = some x/\v = .str x t)->StrsAre vs ss
 |[],[],_,_=>.nil
 |[],_::_,h,_=>by simp at h
 |_::_,[],h,_=>by simp at h
 |x::r,v::t,h,f=>by
  obtain⟨y,tk,e1,e2⟩:=f 0 v rfl
  simp at e1
  subst e1 e2
  exact .cons _ _ (Mm (by simpa using h) λj u hu=>by simpa using f (j+1) u (by simpa using hu))
noncomputable def aC(kvs:List (Key×V)):List Str:=kvs.map λq=>match q.1 with | .inr x=>x | .inl _=>⟨#[]⟩
def iF(kvs:List (Key×V)):Prop := ∀q∈kvs,∃x,q.1=Sum.inr x
theorem We(hc:X.calm=true):gn X (.builtin "sorted") (λxs H Q=>∃(a:Addr) (kvs:List (Key×V)),xs=[.ref a]/\H a=some (.dK kvs)/\iF kvs/\kvs.length<64/\∀p,H p=none->Q (.ref p) (upd H p (.lst ((b8 (aC kvs)).map V.str)))):=by
 intro pins s O H xs us Q I r h
 obtain⟨d,kvs,rfl,hd,hk,dk,q⟩:=h
 obtain⟨u,rfl,ru⟩:=vals1 r
 cases ru
 have Wd:(64:Nat)<=sizeLine:=by decide
 obtain⟨hz,hS,vs,rel,dd⟩:kvs.length<=sizeLine/\(d==sysModules)=false/\∃vs,KV kvs vs/\s.heap.DictOf (dH X.prog X.w) d vs:=I.aD d _ hd
 obtain⟨ep,mf⟩:=dd.dictAt
 have xV:vs.length=kvs.length:=(fJ rel).symm
 have hh:X.A.handled=none:=I.ok.hd hc
 refine Calls.call_function_entry kind_sorted plain_sorted entry_sorted (args_sorted1 _) ?_
 unfold Builtin.«sorted»
 refine aj (m:=checkCount "sorted" 1 1 _) (aY ?_)
 refine aj (PySem.W.kdu_collect (A:=X.A.in1) (PySem.W.kdl_dict (knd:=dH X.prog X.w) (kvs:=vs) (ep:=ep) hS) hh mf (by lia) λh' tk acc Wf Mn=>?_)
 have hl:acc.toList.length=kvs.length:=by rw[nt,<-xV];exact Mn.1
 have E7:StrsAre acc.toList (aC kvs):=by
  refine Mm (by rw[hl];unfold aC;rw[av]) λj v e=>?_
  obtain⟨k,x,hx,sk⟩:=Mn.2 j v (by rw[<-Array.getElem?_toList];exact e)
  obtain⟨y,hy,e1,_⟩:=Paired.get rel hx
  obtain⟨z,Mo⟩:=hk y (bj hy)
  have e1:y.1=k:=e1
  rw[Mo] at e1
  subst e1
  rcases kN (show nH (Sum.inr z) v=true from sk) with ⟨i,t,e2,e3⟩ | ⟨x',t,e2,e3⟩
  .cases e2
  .cases e2
   refine⟨z,t,?_,e3⟩
   unfold aC
   rw[bE,hy]
   simp[Mo]
 refine aj (wpAny_newList ?_ (by rw[hl];lia))
 have xi:(h'.push (seqObj "list" acc.toList.toArray 0)).get? h'.objs.size=some (seqObj "list" acc.toList.toArray 0):=cI _ rfl
 refine aj (kJ (qX slot_list_sort ⟨_,xi,rfl⟩ entry_list_sort (list_sort_treeK strKind_oneLt xi E7.keysOf (λv₁ v₂ rest e=>keyKind_strs (by rw[<-e];exact E7)) (by lia) λdZ hp hs=>⟨_,rfl,?_⟩) (args_list_sort _)))
 refine aY ⟨_,rfl,?_⟩
 obtain⟨E6,a1,a2,a3⟩:=sorted_out_str E7 hp hs
 obtain⟨e,he⟩:=sortedHeap_at (out:=(arrOf dZ).map (·.2)) xi
 have e1:b8 (aC kvs)=E6:=A9 a2 (Mj a3)
 have I1:Inv X pins O H { s with heap:=h',toks:=tk }:=I.kept Wf
 have hf:H h'.objs.size=none:=I1.aD.fresh (aW _)
 refine⟨.ref h'.objs.size,_,I1.laid (a:=h'.objs.size) (o := .lst ((b8 (aC kvs)).map V.str)) (t':=tk) (λb o z=>?_) (aW _) ?_,rfl,q _ hf⟩
 .have z:h'.get? b=some o:=z
  have hb:b<h'.objs.size:=bS z
  rw[sortedHeap_old (bZ hb) (by rw[qZ];exact nB hb),Heap.get?_push_ne _ _ _ (bZ hb)]
  exact z
 .have k8:(b8 (aC kvs)).length=kvs.length:=by rw[(fY _).length_eq];unfold aC;rw[av]
  refine⟨by rw[av];lia,((arrOf dZ).map (·.2)).toList,e,?_,by rw[Array.toArray_toList];exact he⟩
  rw[e1]
  exact Ml a1
end
section
variable{X:Cx}{pins:List (Addr×Obj)}{O:St}{H:Hp}{s:Shared}
def Inv.Mp{o u:HO}(I:Inv X pins O H s)(ha:H a=some o)(new:c5 X.prog X.w (upd H a u) s.heap a u)(h0:∀ob v,X.H₀ a≠some (.cB ob v))(h1:∀xs,X.H₀ a≠some (.tup xs))(h2:∀ps,X.H₀ a≠some (.nI ps))
  (n1:∀xs,o ≠ .tup xs) (n2:∀y,o ≠ .own y):Inv X pins O (upd H a u) s:=by
 have no:∀b,H b=none->upd H a u b=none:=λb hb=>by rw[ak (λz=>by rw[z,ha] at hb;cases hb)];exact hb
 refine⟨I.ok,I.os,I.bare,⟨I.base.keep,I.base.slot,λb ob e n hx=>no b (I.base.free b ob e n hx),I.base.there,λb xs e=>?_,λb ob v e=>?_,λb ps e=>?_⟩,I.loc,I.cell,no _ I.free,λx c e=>no c (I.fN x c e),λp hp=>?_,λb v q=>?_,I.len⟩
 .rw[ak (λz=>h1 xs (by rw[<-z];exact e))];exact I.base.gj b xs e
 .rw[ak (λz=>h0 ob v (by rw[<-z];exact e))];exact I.base.j3 b ob v e
 .rw[ak (λz=>h2 ps (by rw[<-z];exact e))];exact I.base.kP b ps e
 .obtain⟨p1,p2,p3,p4,p5⟩:=I.pin p hp
  exact⟨p1,no _ p2,p3,p4,p5⟩
 .by_cases hb:b=a
  .subst hb
   rw[ao] at q
   cases q
   exact new
  .rw[ak hb] at q
   refine(I.aD b v q).kO (λc w _ e=>e) (λc e=>?_) λc xs e=>?_
   .rw[ak (λz=>n2 b (by rw[z,ha] at e;exact cQ e))];exact e
   .rw[ak (λz=>n1 xs (by rw[z,ha] at e;exact cQ e))];exact e
end
noncomputable def E8(a:Addr)(ob:Obj)(kvs:List (Key×V)):It:=
 ⟨λi H=>H a=some (.cB ob (.dK kvs))/\i<kvs.length,λi H x H'=>H'=H/\∃q,kvs[i]? = some q/\x=kV q.1,λi H=>H a=some (.cB ob (.dK kvs))/\i=kvs.length⟩
def Wg{k:Key}{v:Value}(h:nH k v=true):RelV (kV k) v:=by
 rcases kN h with ⟨i,t,rfl,rfl⟩ | ⟨x,t,rfl,rfl⟩
 .exact⟨t,rfl⟩
 .exact⟨t,rfl⟩
theorem Wh{it:Addr}{vs:List (Key×Value)}{ep:Nat}(bx:a≠it)(rel:KV kvs vs)(hD:∀h:Heap,h.get? a=some ob->h.DictAt (dH P w) a vs ep) :
  Turn P w K tg (E8 a ob kvs) [it] it (λi h=>h.IsKeyIter it a i vs.length ep) where
 mem:=by simp
 obj:=λi h st b hb=>by
  obtain rfl:b=it:=by simpa using hb
  obtain⟨o,e,c,d⟩:=st
  exact⟨o,e,λv z=>by rw[d] at z;cases z⟩
 keep:=λi h h' st k=>st.at λo e=>k it (by simp) o e
 item:=by
  intro X hP hw hK hc i pins s O H E I hf st hg
  subst hP hw hK
  obtain⟨f0,f1,f2,f3,f4,f5⟩:=hf it (by simp)
  obtain⟨ha,hi⟩:=hg
  have W:=Walks.dictKeys (knd:=dH X.prog X.w) (A:=X.A) (I.ok.hd hc) it a bx vs ep
  have xV:kvs.length=vs.length:=fJ rel
  refine W.item i s _ _ (by lia) ⟨st,hD _ (I.aD a _ ha).1⟩ λv h' tk hv dZ kk=>?_
  obtain⟨k,x,hx,hk⟩:=hv
  obtain⟨q,hq,e1,_⟩:=Paired.get rel hx
  have I1:Inv X pins O H { s with heap:=h',toks:=tk }:=I.turned (λb o hb e=>kk b o (by simpa using hb) e) f0 f1 f3 f4 f5
  obtain⟨o,e4,e5,e6⟩:=id dZ.1
  have hk:nH k v=true:=hk
  refine⟨_,rfl,uh (s:={ s with heap:=h',toks:=tk }) e4 e5 e6 (by decide) ⟨kV k,H,I1,Wg hk,⟨rfl,q,hq,by rw[show q.1=k from e1]⟩,dZ.1,λb hb=>(hf b hb).1⟩⟩
 done:=by
  intro X hP hw hK hc i pins s O H E I hf st hg
  subst hP hw hK
  obtain⟨f0,f1,f2,f3,f4,f5⟩:=hf it (by simp)
  obtain⟨ha,hi⟩:=hg
  have W:=Walks.dictKeys (knd:=dH X.prog X.w) (A:=X.A) (I.ok.hd hc) it a bx vs ep
  have xV:kvs.length=vs.length:=fJ rel
  have hi:i=vs.length:=by lia
  subst hi
  exact W.done s _ _ ⟨st,hD _ (I.aD a _ ha).1⟩ λh' tk kk=>⟨rfl,I.turned (λb o hb e=>kk b o (by simpa using hb) e) f0 f1 f3 f4 f5⟩
 self:=λ_ _ _ _ _ st h=>wpAny_pyIter_keyiter st h
def Wi(tl:TE):TI:=λO H R=>tl O H λx H1=>∃a ob kvs,x = .ref a/\H1 a=some (.cB ob (.dK kvs))/\R (E8 a ob kvs) H1
def Bb{l:Expr}{tl:TE}(hl:PE X l tl):PI X tg l (Wi tl):=by
 intro pins s O H R I h
 refine aE (hl pins s O H _ I h) λv s1 ⟨x,H1,I1,r1,q1⟩=>?_
 obtain⟨a,ob,kvs,rfl,ha,q⟩:=q1
 cases r1
 obtain⟨pO,hz,hS,vs,rel,dd⟩:=I1.aD a _ ha
 obtain⟨ep,mf⟩:=dd.dictAt
 have aT:a<s1.heap.objs.size:=bS pO
 refine wpAny_pyIter_dict hS mf ?_
 refine⟨s1.heap.objs.size,[s1.heap.objs.size],_,_,H1,rfl,I1.kept (t':=s1.toks) λb o e=>bL _ e,Wh (bZ aT) rel (λh' e=>?_),⟨_,cI _ rfl,rfl,rfl⟩,λb hb=>?_,q⟩
 .exact mf.at' λo e'=>by rw[pO] at e';cases e';exact e
 .obtain rfl:b=s1.heap.objs.size:=by simpa using hb
  exact I1.j5 (aW _) I1.fresh
def Bc:l9 (E8 a ob kvs) (λH=>H a=some (.cB ob (.dK kvs))) (kvs.map λq=>kV q.1):=
 ⟨λi H h hi=>⟨h,by simpa using hi⟩,λi H x H' h _ y=>⟨y.1,by
  obtain⟨_,q,e1,e2⟩:=y
  rw[bE,e1,e2]
  rfl⟩,λH h=>⟨h,by simp⟩⟩
def Wj(t:TS):TS:=λD O H=>∃a kvs,H a=some (.dK kvs)/\∀ob,t { nx:=λO' H'=>H' a=some (.cB ob (.dK kvs))/\D.nx O' (upd H' a (.dK kvs)),bk:=λ_ _=>False,ct:=λ_ _=>False,rt:=λ_ _=>False } O (upd H a (.cB ob (.dK kvs)))
def Bd{t:TS}(h:PS X st t):PS X st (Wj t):=by
 intro pins s O H D I hq
 obtain⟨a,kvs,ha,hq⟩:=hq
 have ok:=I.aD a _ ha
 obtain⟨z,y,vs,r,ob,es,ep,pO,rest⟩:=id ok
 have h0:∀ob v,X.H₀ a≠some (.cB ob v):=λob v e=>by have:=I.base.j3 a ob v e;rw[ha] at this;cases this
 have h1:∀xs,X.H₀ a≠some (.tup xs):=λxs e=>by have:=I.base.gj a xs e;rw[ha] at this;cases this
 have h2:∀ps,X.H₀ a≠some (.nI ps):=λps e=>by obtain⟨m,this⟩:=I.base.kP a ps e;rw[ha] at this;cases this
 have I1:Inv X pins O (upd H a (.cB ob (.dK kvs))) s:=I.Mp ha ⟨pO,ok⟩ h0 h1 h2 (λ_ z=>by cases z) (λ_ z=>by cases z)
 refine aE (h pins s O _ _ I1 (hq ob)) λf s1 hs=>?_
 cases f with
 |next=>
  obtain⟨O',H1,J,e1,q⟩:=hs
  exact⟨O',upd H1 a (.dK kvs),J.Mp e1 (J.aD a _ e1).2 h0 h1 h2 (λ_ z=>by cases z) (λ_ z=>by cases z),q⟩
 |brk=>obtain⟨_,_,_,q⟩:=hs;exact q.elim
 |cont=>obtain⟨_,_,_,q⟩:=hs;exact q.elim
 |ret u=>obtain⟨_,_,_,_,_,q⟩:=hs;exact q.elim
section
variable{X:Cx}
noncomputable def gC(z:Str)(n:Nat):Str:=⟨(List.replicate n z.cps.toList).flatten.toArray⟩
theorem Mq(a:Array Nat):∀(n:Nat) (b:Array Nat),((List.replicate n a).foldl (· ++ ·) b).toList=b.toList++(List.replicate n a.toList).flatten
 |0,b=>by simp
 |n+1,b=>by
  rw[oS,List.foldl_cons,Mq a n (b++a),oS,wL,Array.toList_append,lQ]
theorem Wk(z:Str){k:Int}(h:0<=k):Txt.mul z k=gC z k.toNat:=by
 unfold Txt.mul gC
 by_cases h1:k<1
 .have:k=0:=by lia
  subst this
  rw[aA (by decide)]
  rfl
 .rw[ax h1]
  split
  .rename_i hc
   rcases(wO _ _ ▸ hc:(k==1)=true\/(z.length==0)=true) with hc | hc
   .have:k=1:=eq_of_beq hc
    subst this
    simp
   .have hz:z.cps.toList=[]:=List.eq_nil_of_length_eq_zero (by have:=eq_of_beq hc;simpa[Str.length] using this)
    cases z with
    |mk a=>
     have ha:a = #[]:=by simpa using hz
     subst ha
     simp
  .congr 1
   apply Array.toList_inj.mp
   rw[Mq]
   simp
theorem Wl:cR X (binaryOp .Mult) (λx y H Q=>∃z k,x = .str z/\y = .int k/\0<=k/\k<=1000/\z.length<=1000/\Q (.str (gC z k.toNat)) H):=by
 intro pins s O H x y v u Q I rx ry h
 obtain⟨z,k,rfl,rfl,h0,h1,hz,q⟩:=h
 obtain⟨t,rfl⟩:=rx
 obtain⟨t',rfl⟩:=ry
 refine SB.mul ⟨?_,λhk _=>?_,λhk _=>?_⟩ λt2 k2=>⟨.str (gC z k.toNat),H,I.tok _,⟨t2,by rw[Wk z h0]⟩,q⟩
 .rw[Bool.or_eq_false_iff]
  exact⟨aN (by lia),aN (by lia)⟩
 .have:(1000:Int)<=(2 ^ 63 - 1) / k:=by
   rw[Int.le_ediv_iff_mul_le (by lia)]
   have:1000*k<=1000*1000:=Int.mul_le_mul_of_nonneg_left h1 (by decide)
   exact Int.le_trans this (by decide)
  lia
 .have:z.length*k.toNat<=1000*1000:=Aa hz (by lia)
  unfold Builtin.Str.tooLong
  exact aN (by have hs:1000*1000<=sizeLine:=(by decide);lia)
def Mr:V->List V->Hp->VK->Prop:=λx vs H Q=>∃y z,x = .str y/\vs=[.str z]/\Q (.int (Txt.count y z)) H
def Wm:AJ X "str.count" Mr:=by
 intro pins s O H x vs v us Q I rx rv h
 obtain⟨y,z,rfl,rfl,q⟩:=h
 obtain⟨t,rfl⟩:=rx
 obtain⟨u,rfl,t',rfl⟩:=rv.one
 exact SC.count ⟨.int _,H,I.tok _,⟨_,rfl⟩,q⟩
end
structure pP(z ti to i j:Addr)(f g:List Addr):Prop where
 a1:ti≠z
 a2:to≠z
 a3:i≠z
 a4:j≠z
 a6:to≠i
 a7:to≠j
 a8:i≠j
 b1:z∉f
 b2:to∉f
 b3:j∉f
 c1:z∉g
 c2:to∉g
 c3:i∉g
section
variable{prog:Program}{w:World}{A:Around}{E:Value->Shared->Prop}{s:Shared}{z ti to i j:Addr}{f g:List Addr}{n m k:Nat}{P R:Nat->Value->Prop}{S T:Nat->Heap->Prop}{a b:Value}
def mv{l:List Addr}(fr:∀i h h',U i h->(∀b∈l,∀o,h.get? b=some o->h'.get? b=some o)->U i h')(hy:y∉l)(hs:Heap.SameBut y h h')(u:U q h):U q h':=
 fr q h h' u λb hb o e=>hs.extBut b o (λx=>hy (x ▸ hb)) e
def Wn(D1:Draws prog w A i f n P S)(D2:Draws prog w A j g m R T)(Z:pP z ti to i j f g)(hz:IsZip s.heap z ti to .none)(ht:IsPair s.heap ti (.ref i) (.ref j))(ho:IsPair s.heap to a b)
  (s1:S k s.heap) (s2:T k s.heap) (l1:k<n) (l2:k<m)
  (fin:∀h' tk x y,P k x->R k y->IsZip h' z ti to (rawInt s.heap.objs.size)->IsPair h' to x y->S (k+1) h'->T (k+1) h'->IsPair h' s.heap.objs.size x y->h'.objs.size=s.heap.objs.size+1->
   (∀c o,c≠z->c≠to->c≠i->c≠j->s.heap.get? c=some o->h'.get? c=some o)->Q (.ref s.heap.objs.size) { s with heap:=h',toks:=tk }) :
  wpAny (model prog w) A (Builtin.«zip.__next__» ⟨[.ref z],[]⟩) (λr s' =>∃v,r = .done (.ret v)/\Q v s') E s:=by
 show wpAny _ _ (field (Value.ref z) 2 >>= _) _ _ s
 refine aj (iy (i:=2) hz rfl (x := .bool false) rfl ?_)
 show wpAny _ _ (field (Value.ref z) 3 >>= _) _ _ s
 refine aj (iy (i:=3) hz rfl (x := .ref ti) rfl (aj (nE ht rfl ?_)))
 show wpAny _ _ (Builtin.SmallTypes.ownedTupleIsFree (Value.ref z) >>= _) _ _ s
 refine aj ?_
 unfold Builtin.SmallTypes.ownedTupleIsFree
 refine aj (iy (i:=0) hz rfl (x := .none) rfl (aY ?_))
 simp only[jW]
 refine aj (t9 (aj (iy (i:=4) hz rfl (x := .ref to) rfl (aj (Ab hz (by simp) λg1 y1 u1=>?_)))))
 have y1:IsZip g1 z ti to .ellipsis:=y1
 refine aj ?_
 simp only[List.zipIdx_cons,List.zipIdx_nil,JS,List.forIn_nil]
 refine aj (aj (wpAny_onRaise ?_))
 show wpAny _ _ (Builtin.SmallTypes.nextOf (Value.ref i) >>= _) _ _ _
 refine aj (D1.item k { s with heap:=g1 } _ _ l1 (mv D1.frame Z.b1 u1 s1) λx g2 jI px Ms u2=>aY ?_)
 have o2:IsPair g2 to a b:=u2.extBut _ _ Z.a6 (u1.extBut _ _ Z.a2 ho)
 refine aj (nE o2 rfl (aj (Sb (s:={ s with heap:=g2,toks:=jI }) o2 λg3 o3 u3=>?_)))
 have o3:IsPair g3 to x b:=o3
 refine aj (wV (aY ?_))
 refine aj (aj (wpAny_onRaise ?_))
 show wpAny _ _ (Builtin.SmallTypes.nextOf (Value.ref j) >>= _) _ _ _
 refine aj (D2.item k { s with heap:=g3,toks:=jI } _ _ l2 (mv D2.frame Z.c2 u3 (mv D2.frame Z.c3 u2 (mv D2.frame Z.c1 u1 s2))) λy g4 xW py xX u4=>aY ?_)
 have o4:IsPair g4 to x b:=u4.extBut _ _ Z.a7 o3
 refine aj (nE o4 rfl (aj (Sb (s:={ s with heap:=g4,toks:=xW }) o4 λg5 o5 u5=>?_)))
 have o5:IsPair g5 to x y:=o5
 refine aj (wV (aY (aY ?_)))
 refine aj (nE o5 rfl (aj (wpAny_newTuple ?_)))
 have sz:g5.objs.size=s.heap.objs.size:=by rw[u5.1,u4.1,u3.1,u2.1,u1.1]
 have y5:IsZip g5 z ti to .ellipsis:=u5.extBut _ _ (br Z.a2) (u4.extBut _ _ (br Z.a4) (u3.extBut _ _ (br Z.a2) (u2.extBut _ _ (br Z.a3) y1)))
 have zl:z<g5.objs.size:=bS y5
 have kp:∀c o,c≠z->c≠to->c≠i->c≠j->s.heap.get? c=some o->g5.get? c=some o:=λc o d1 d2 d3 d4 q=>
  u5.extBut _ _ d2 (u4.extBut _ _ d4 (u3.extBut _ _ d2 (u2.extBut _ _ d3 (u1.extBut _ _ d1 q))))
 have r1:S (k+1) g5:=mv D1.frame Z.b2 u5 (mv D1.frame Z.b3 u4 (mv D1.frame Z.b2 u3 Ms))
 have r2:T (k+1) g5:=mv D2.frame Z.c2 u5 xX
 show wpAny _ _ (Builtin.SmallTypes.ownedTupleHandOut (Value.ref z) (.ref g5.objs.size) >>= _) _ _ _
 refine aj ?_
 unfold Builtin.SmallTypes.ownedTupleHandOut
 have y6:IsZip (g5.push { cls := .type "tuple",data := .seq #[x,y] }) z ti to .ellipsis:=bL _ y5
 refine aj (Ab (s:={ s with heap:=g5.push { cls := .type "tuple",data := .seq #[x,y] },toks:=xW }) y6 (by simp) λg7 y7 u7=>?_)
 have y7:IsZip g7 z ti to (rawInt g5.objs.size):=y7
 refine Ab (s:={ s with heap:=g7,toks:=xW }) y7 (by simp) λg8 y8 u8=>?_
 have y8:IsZip g8 z ti to (rawInt g5.objs.size):=y8
 have up:∀c o,c≠z->g5.get? c=some o->g8.get? c=some o:=λc o d q=>u8.extBut _ _ d (u7.extBut _ _ d (bL _ q))
 have t8:IsPair g8 g5.objs.size x y:=u8.extBut _ _ (zQ zl) (u7.extBut _ _ (zQ zl) (cI _ rfl))
 have z8:g8.objs.size=g5.objs.size+1:=by rw[u8.1,u7.1,kK]
 have w1:S (k+1) g8:=D1.frame _ g5 g8 r1 λc hc o q=>up c o (λv=>Z.b1 (v ▸ hc)) q
 have w2:T (k+1) g8:=D2.frame _ g5 g8 r2 λc hc o q=>up c o (λv=>Z.c1 (v ▸ hc)) q
 refine aY ⟨_,rfl,?_⟩
 show Q (.ref g5.objs.size) { s with heap:=g8,toks:=xW }
 rw[sz] at y8 t8 z8 ⊢
 exact fin g8 xW x y px py y8 (up _ _ Z.a2 o5) w1 w2 t8 z8 λc o d1 d2 d3 d4 q=>up c o d1 (kp c o d1 d2 d3 d4 q)
def Wo{Q:Fin->Shared->Prop}(D1:Draws prog w A i f n P S)(D2:Draws prog w A j g m R T)(Z:pP z ti to i j f g)(hz:IsZip s.heap z ti to .none)(ht:IsPair s.heap ti (.ref i) (.ref j))(ho:IsPair s.heap to a b)
  (s1:S k s.heap) (s2:T k s.heap) (l:k=n\/(k<n/\k=m))
  (fin:∀h' tk e,(∀c o,c≠z->c≠to->c≠i->c≠j->s.heap.get? c=some o->h'.get? c=some o)->(∃o,h'.get? e=some o/\o.cls = .type "StopIteration")->E (.ref e) { s with heap:=h',toks:=tk }) :
  wpAny (model prog w) A (Builtin.«zip.__next__» ⟨[.ref z],[]⟩) Q E s:=by
 show wpAny _ _ (field (Value.ref z) 2 >>= _) _ _ s
 refine aj (iy (i:=2) hz rfl (x := .bool false) rfl ?_)
 show wpAny _ _ (field (Value.ref z) 3 >>= _) _ _ s
 refine aj (iy (i:=3) hz rfl (x := .ref ti) rfl (aj (nE ht rfl ?_)))
 show wpAny _ _ (Builtin.SmallTypes.ownedTupleIsFree (Value.ref z) >>= _) _ _ s
 refine aj ?_
 unfold Builtin.SmallTypes.ownedTupleIsFree
 refine aj (iy (i:=0) hz rfl (x := .none) rfl (aY ?_))
 simp only[jW]
 refine aj (t9 (aj (iy (i:=4) hz rfl (x := .ref to) rfl (aj (Ab hz (by simp) λg1 y1 u1=>?_)))))
 have y1:IsZip g1 z ti to .ellipsis:=y1
 refine aj ?_
 simp only[List.zipIdx_cons,List.zipIdx_nil,JS,List.forIn_nil]
 refine aj (aj (wpAny_onRaise ?_))
 show wpAny _ _ (Builtin.SmallTypes.nextOf (Value.ref i) >>= _) _ _ _
 rcases l with l | ⟨l,l'⟩
 .subst l
  refine aj (D1.done { s with heap:=g1 } _ _ (mv D1.frame Z.b1 u1 s1) λg2 e u2 he=>?_)
  obtain⟨oe,e1,e2⟩:=he
  have y2:IsZip g2 z ti to .ellipsis:=u2 _ _ (br Z.a3) y1
  have ez:e≠z:=λv=>by
   subst v
   rw[y2] at e1
   cases e1
   simp at e2
  refine Ab (s:={ s with heap:=g2 }) y2 (by simp) λg3 _ u3=>fin g3 s.toks e (λc o d1 _ d3 _ q=>u3.extBut _ _ d1 (u2 _ _ d3 (u1.extBut _ _ d1 q))) ⟨oe,u3.extBut _ _ ez e1,e2⟩
 .subst l'
  refine aj (D1.item k { s with heap:=g1 } _ _ l (mv D1.frame Z.b1 u1 s1) λx g2 jI px Ms u2=>aY ?_)
  have o2:IsPair g2 to a b:=u2.extBut _ _ Z.a6 (u1.extBut _ _ Z.a2 ho)
  refine aj (nE o2 rfl (aj (Sb (s:={ s with heap:=g2,toks:=jI }) o2 λg3 o3 u3=>?_)))
  refine aj (wV (aY ?_))
  refine aj (aj (wpAny_onRaise ?_))
  show wpAny _ _ (Builtin.SmallTypes.nextOf (Value.ref j) >>= _) _ _ _
  refine aj (D2.done { s with heap:=g3,toks:=jI } _ _ (mv D2.frame Z.c2 u3 (mv D2.frame Z.c3 u2 (mv D2.frame Z.c1 u1 s2))) λg4 e u4 he=>?_)
  obtain⟨oe,e1,e2⟩:=he
  have y4:IsZip g4 z ti to .ellipsis:=u4 _ _ (br Z.a4) (u3.extBut _ _ (br Z.a2) (u2.extBut _ _ (br Z.a3) y1))
  have ez:e≠z:=λv=>by
   subst v
   rw[y4] at e1
   cases e1
   simp at e2
  refine Ab (s:={ s with heap:=g4,toks:=jI }) y4 (by simp) λg5 _ u5=>fin g5 jI e (λc o d1 d2 d3 d4 q=>u5.extBut _ _ d1 (u4 _ _ d4 (u3.extBut _ _ d2 (u2.extBut _ _ d3 (u1.extBut _ _ d1 q))))) ⟨oe,u5.extBut _ _ ez e1,e2⟩
def Wq{Q:Option Value->Shared->Prop}(D1:Draws prog w A.in1 i f n P S)(D2:Draws prog w A.in1 j g m R T)(Z:pP z ti to i j f g)(hz:IsZip s.heap z ti to .none)(ht:IsPair s.heap ti (.ref i) (.ref j))(ho:IsPair s.heap to a b)
  (s1:S k s.heap) (s2:T k s.heap) (l1:k<n) (l2:k<m)
  (fin:∀h' tk x y,P k x->R k y->IsZip h' z ti to (rawInt s.heap.objs.size)->IsPair h' to x y->S (k+1) h'->T (k+1) h'->IsPair h' s.heap.objs.size x y->h'.objs.size=s.heap.objs.size+1->
   (∀c o,c≠z->c≠to->c≠i->c≠j->s.heap.get? c=some o->h'.get? c=some o)->Q (some (.ref s.heap.objs.size)) { s with heap:=h',toks:=tk }) :
  wpAny (model prog w) A (pyNext (.ref z)) Q E s:=by
 have tz:s.TypeIs (.ref z) "zip":=⟨_,hz,rfl⟩
 unfold pyNext
 refine aj (zZ (z6 (name:=Str.ofString "__next__") tz JZ (qX JZ tz F.entry_zip_next
   (Wn D1 D2 Z hz ht ho s1 s2 l1 l2 λh' tk x y p1 p2 p3 p4 p5 p6 p7 p8 p9=>aY (fin h' tk x y p1 p2 p3 p4 p5 p6 p7 p8 p9)) (F.args_zip_next_1 _))))
def Wr{Q:Option Value->Shared->Prop}(D1:Draws prog w A.in1 i f n P S)(D2:Draws prog w A.in1 j g m R T)(Z:pP z ti to i j f g)(hz:IsZip s.heap z ti to .none)(ht:IsPair s.heap ti (.ref i) (.ref j))(ho:IsPair s.heap to a b)
  (s1:S k s.heap) (s2:T k s.heap) (l:k=n\/(k<n/\k=m))
  (fin:∀h' tk,(∀c o,c≠z->c≠to->c≠i->c≠j->s.heap.get? c=some o->h'.get? c=some o)->Q none { s with heap:=h',toks:=tk }):wpAny (model prog w) A (pyNext (.ref z)) Q E s:=by
 have tz:s.TypeIs (.ref z) "zip":=⟨_,hz,rfl⟩
 unfold pyNext
 refine aj (zZ (z6 (name:=Str.ofString "__next__") tz JZ (qX JZ tz F.entry_zip_next (Wo D1 D2 Z hz ht ho s1 s2 l λh' tk e kp he=>?_) (F.args_zip_next_1 _))))
 obtain⟨o,e1,e2⟩:=he
 exact aj (JW (T:="StopIteration") (b:=true) ⟨o,e1,e2⟩ isSubtype_stop (aY (fin h' tk kp)))
noncomputable abbrev zA(h:Heap)(o1 o2:Obj):Heap:=(h.push o1).push o2
noncomputable abbrev zB(h:Heap)(o1 o2:Obj):Heap:=(zA h o1 o2).push { cls := .type "tuple",data := .seq #[.ref h.objs.size,.ref (h.push o1).objs.size] }
noncomputable abbrev zC(h:Heap)(o1 o2:Obj):Heap:=(zB h o1 o2).push { cls := .type "tuple",data := .seq #[.none,.none] }
noncomputable abbrev zD(h:Heap)(o1 o2:Obj):Heap:=(zC h o1 o2).push { cls := .type "zip",data := .fields #[.none,.bool false,.bool false,.ref (zA h o1 o2).objs.size,.ref (zB h o1 o2).objs.size] }
def Ws(h1:∀(prog:Program) (w:World) (A:Around) (E:Value->Shared->Prop) (s:Shared) (Q:Value->Shared->Prop),K1 s->Q (.ref s.heap.objs.size) { s with heap:=s.heap.push o1 }->wpAny (model prog w) A (pyIter v1) Q E s)
  (h2:∀(prog:Program) (w:World) (A:Around) (E:Value->Shared->Prop) (s:Shared) (Q:Value->Shared->Prop),K2 s->Q (.ref s.heap.objs.size) { s with heap:=s.heap.push o2 }->wpAny (model prog w) A (pyIter v2) Q E s) :
  Meets (Builtin.«zip.__new__» ⟨[.type "zip",v1,v2],[]⟩) (λ_ R s=>K1 s/\K2 { s with heap:=s.heap.push o1 }/\R (.ok (.ret (.ref (zC s.heap o1 o2).objs.size))) { s with heap:=zD s.heap o1 o2 }):=
 .of_wp λprog w A R s h=>by
  obtain⟨hp,gg,dd,tk,os⟩:=s
  obtain⟨k1,k2,h⟩:=h
  have sz:=sub_zip
  have i1:=λ(E:Value->Shared->Prop) (A:Around) (Q:Value->Shared->Prop)=>h1 prog w A E ⟨hp,gg,dd,tk,os⟩ Q k1
  have i2:=λ(E:Value->Shared->Prop) (A:Around) (Q:Value->Shared->Prop)=>h2 prog w A E ⟨hp.push o1,gg,dd,tk,os⟩ Q k2
  wp_walk using i1 _ _ _,i2 _ _ _
  exact⟨_,rfl,h⟩
end
section
variable{prog:Program}{w:World}{A:Around}{E:Value->Shared->Prop}{s:Shared}
def Wt(h1:∀(prog:Program) (w:World) (A:Around) (E:Value->Shared->Prop) (s:Shared) (Q:Value->Shared->Prop),K1 s->Q (.ref s.heap.objs.size) { s with heap:=s.heap.push o1 }->wpAny (model prog w) A (pyIter v1) Q E s)
  (h2:∀(prog:Program) (w:World) (A:Around) (E:Value->Shared->Prop) (s:Shared) (Q:Value->Shared->Prop),K2 s->Q (.ref s.heap.objs.size) { s with heap:=s.heap.push o2 }->wpAny (model prog w) A (pyIter v2) Q E s)
  (k1:K1 s) (k2:K2 { s with heap:=s.heap.push o1 }) (E9:o1.isFreed=false) (jE:o2.isFreed=false)
  (fin:∀h',IsZip h' (s.heap.objs.size+4) (s.heap.objs.size+2) (s.heap.objs.size+3) .none->IsPair h' (s.heap.objs.size+2) (.ref s.heap.objs.size) (.ref (s.heap.objs.size+1))->IsPair h' (s.heap.objs.size+3) .none .none->
   h'.get? s.heap.objs.size=some o1->h'.get? (s.heap.objs.size+1)=some o2->(∀c o,s.heap.get? c=some o->h'.get? c=some o)->Q (.ref (s.heap.objs.size+4)) { s with heap:=h' }) :
  wpAny (model prog w) A (call (.type "zip") [v1,v2]) Q E s:=by
 refine callType_new F.called_zip (by decide) (F.typeCall_zip_2 _ _) (F.newCall_zip_2 _ _) (λobj=>F.args_object_init_3 obj _ _) F.entry_zip_new (Ws h1 h2) ⟨k1,k2,?_⟩
 have y1:(s.heap.push o1).objs.size=s.heap.objs.size+1:=kK ..
 have y2:(zA s.heap o1 o2).objs.size=s.heap.objs.size+2:=by rw[kK,y1]
 have y3:(zB s.heap o1 o2).objs.size=s.heap.objs.size+3:=by rw[kK,y2]
 have y4:(zC s.heap o1 o2).objs.size=s.heap.objs.size+4:=by rw[kK,y3]
 have e5:(zD s.heap o1 o2).get? (zC s.heap o1 o2).objs.size=some _:=cI _ rfl
 have e4:(zD s.heap o1 o2).get? (zB s.heap o1 o2).objs.size=some _:=bL _ (cI _ rfl)
 have Fb:∀{c o},(zA s.heap o1 o2).get? c=some o->(zD s.heap o1 o2).get? c=some o:=λq=>bL _ (bL _ (bL _ q))
 have e3:(zD s.heap o1 o2).get? (zA s.heap o1 o2).objs.size=some _:=bL _ (bL _ (cI _ rfl))
 have e2:(zD s.heap o1 o2).get? (s.heap.push o1).objs.size=some o2:=Fb (cI _ jE)
 have e1:(zD s.heap o1 o2).get? s.heap.objs.size=some o1:=Fb (bL _ (cI _ E9))
 show _/\_
 rw[y2,y3,y4] at e5
 rw[y1,y2] at e3
 rw[y3] at e4
 rw[y1] at e2
 rw[y4]
 exact⟨⟨_,e5,rfl⟩,fin _ e5 e3 e4 e1 e2 λc o q=>Fb (bL _ (bL _ q))⟩
end
def Wu(hh:A.handled=none)(it:Addr)(x:Str)(t:Tok):Draws prog w A it [it] x.cps.size (λi v=>∃c u,x.cps[i]? = some c/\v = .str ⟨#[c]⟩ u) (λi h=>h.IsStrIter it (strIterType x) x t i):=by
 unfold strIterType
 split
 .exact Draws.strAscii hh it x t
 .exact Draws.strWide hh it x t
theorem Be(n:Nat):pP (n+4) (n+2) (n+3) n (n+1) [n] [n+1]/\(n+2:Nat)≠n+3/\(n+2:Nat)≠n/\(n+2:Nat)≠n+1:=by
 have ne:∀a b:Nat,a≠b->(n+a:Nat)≠n+b:=λa b h=>by lia
 have m1:∀a b:Nat,a≠b->(n+a:Nat)∉[n+b]:=λa b h hm=>ne a b h (cj.mp hm)
 exact⟨⟨ne 2 4 (by decide),ne 3 4 (by decide),ne 0 4 (by decide),ne 1 4 (by decide),ne 3 0 (by decide),ne 3 1 (by decide),ne 0 1 (by decide),m1 4 0 (by decide),m1 3 0 (by decide),m1 1 0 (by decide),m1 4 1 (by decide),m1 3 1 (by decide),m1 0 1 (by decide)⟩,ne 2 3 (by decide),ne 2 0 (by decide),ne 2 1 (by decide)⟩
def Wv:bootBuiltins "zip"=some (.type "zip"):=by decide +kernel
section
variable{prog:Program}{w:World}{A:Around}{E:Value->Shared->Prop}{s:Shared}{it l:Addr}{i:Nat}{items:Array Value}
def Ww{x:Value}(hit:s.heap.IsTupleIter it l i)(hl:s.heap.IsTuple l items)(hx:items[i]? = some x)(hQ:∀h',h'.IsTupleIter it l (i+1)->Heap.SameBut it s.heap h'->Q x { s with heap:=h' }):wpAny (model prog w) A (Builtin.SmallTypes.nextOf (.ref it)) Q E s:=by
 obtain⟨o,ho,hc,hd⟩:=id hit;obtain⟨ol,Fc,_,nl,Bf⟩:=hl
 unfold Builtin.SmallTypes.nextOf;refine aj (z6 (name:=Str.ofString "__next__") hit.typeIs J0 (qX J0 hit.typeIs F.entry_tuple_iterator_next ?_ (F.args_tuple_iterator_next_1 _)))
 show wpAny _ _ (field (.ref it) 0 >>= _) _ _ s;refine aj (iy ho hd (x := .ref l) rfl ?_)
 show wpAny _ _ (if (Value.ref l==Value.none)=true then _ else _) _ _ s;rw[ax (show ¬((Value.ref l==Value.none)=true) from b0)]
 show wpAny _ _ (field (.ref it) 1 >>= _) _ _ s;refine aj (iy ho hd (x := .int i 0) rfl ?_)
 show wpAny _ _ (seqItems? (.ref l) >>= _) _ _ s;refine aj (nE Fc Bf ?_);simp only[dQ,hx]
 refine aj (DO ho hd (by simp) (aY ⟨x,rfl,aY (hQ _ ⟨_,wK _ ho (Sa (z9 hd _)),(Obj.cls_mapFields ..).trans hc,?_⟩ (z7 ..))⟩))
 rw[z9 hd];simp[rawInt]
def Wx(hh:A.handled=none)(hit:s.heap.IsTupleIter it l i)(hl:s.heap.IsTuple l items)(hx:items[i]? = none)(hE:∀h' e,Heap.ExtBut it s.heap h'->(∃o,h'.get? e=some o/\o.cls = .type "StopIteration")->E (.ref e) { s with heap:=h' }):wpAny (model prog w) A (Builtin.SmallTypes.nextOf (.ref it)) Q E s:=by
 obtain⟨o,ho,hc,hd⟩:=id hit;obtain⟨ol,Fc,_,nl,Bf⟩:=hl
 unfold Builtin.SmallTypes.nextOf;refine aj (z6 (name:=Str.ofString "__next__") hit.typeIs J0 (qX J0 hit.typeIs F.entry_tuple_iterator_next ?_ (F.args_tuple_iterator_next_1 _)))
 show wpAny _ _ (field (.ref it) 0 >>= _) _ _ s;refine aj (iy ho hd (x := .ref l) rfl ?_)
 show wpAny _ _ (if (Value.ref l==Value.none)=true then _ else _) _ _ s;rw[ax (show ¬((Value.ref l==Value.none)=true) from b0)]
 show wpAny _ _ (field (.ref it) 1 >>= _) _ _ s;refine aj (iy ho hd (x := .int i 0) rfl ?_)
 show wpAny _ _ (seqItems? (.ref l) >>= _) _ _ s;refine aj (nE Fc Bf ?_);simp only[dQ,hx]
 refine aj (t9 (aj (DO ho hd (by simp) ?_)));show wpAny _ _ (newExc (.type "StopIteration") [] >>= _) _ _ _
 refine aj ?_;simp only[newExc,newTuple];refine aj (wQ ?_ (by size_fits))
 refine aj (m:=firstArgMember _ _) (oY (a:=Value.none) (by first | rfl | (simp only[firstArgMember];rfl)) (wQ ?_ (by size_fits)))
 simp only[raiseNew];refine aj (wpAny_handled ?_)
 first | rw[show A.in1.handled=none from hh];refine aj (aY (wpAny_throw ?_)) | rw[hh];refine aj (aY (wpAny_throw ?_))
 exact hE _ _ (((z7 ..).extBut.push _).push _) ⟨_,cI _ rfl,rfl⟩
end
def Wy(hh:A.handled=none)(it l:Addr)(bx:l≠it)(items:Array Value) :
  Draws prog w A it [it,l] items.size (λi v=>items[i]? = some v) (λi h=>h.IsTupleIter it l i/\h.IsTuple l items) where
 live:=λ_ _ st=>by obtain⟨⟨o,ho,_⟩,_⟩:=st;exact⟨o,ho⟩
 frame:=λ_ _ _ st hk=>by obtain⟨⟨o,ho,r⟩,⟨p,hp,q⟩⟩:=st;exact⟨⟨o,hk it (by simp) o ho,r⟩,⟨p,hk l (by simp) p hp,q⟩⟩
 item:=λi s Q E hi st hQ=>Ww st.1 st.2 (x:=items[i]) (by simp[hi]) λh' a b=>hQ _ h' s.toks (by simp[hi]) ⟨a,st.2.extBut b.extBut bx⟩ b
 done:=λs Q E st hE=>Wx hh st.1 st.2 (by simp) hE
def Wz{b:Addr}(I:Inv X pins O H s)(h:aq X.K H a xs)(f:fw X pins H b):a≠b:=by
 intro z
 subst z
 rcases h with (h | ⟨o,h⟩) | ⟨o,its,n,hk,_⟩
 .rw[f.1] at h;cases h
 .rw[f.1] at h;cases h
 .have e:=I.mod.rm a o hk
  rcases f.2.2.2.1 with h | h
  .exact I.ok.rn a o e h
  .exact absurd (gK (bS (I.ok.bs a o e).1) h) (tW _)
def WA{b:Addr}(I:Inv X pins O H s)(h:ai X.K H a xs)(f:fw X pins H b):a≠b:=by
 intro z
 subst z
 rcases h with (h | ⟨o,h⟩) | ⟨o,its,n,hk,_⟩
 .rw[f.1] at h;cases h
 .rw[f.1] at h;cases h
 .have e:=I.mod.rm a o hk
  rcases f.2.2.2.1 with h | h
  .exact I.ok.rn a o e h
  .exact absurd (gK (bS (I.ok.bs a o e).1) h) (tW _)
inductive ZK where
 |L | T | S
def zq(k:ZK)(K:Frag)(H:Hp)(v:V)(xs:List V):Prop:=match k with
 |.L=>∃a,v = .ref a/\ai K H a xs
 |.T=>∃a,v = .ref a/\aq K H a xs
 |.S=>∃x:Str,v = .str x/\xs=x.cps.toList.map λc=>V.str ⟨#[c]⟩
def mh(k:ZK)(v:V)(t:Tok)(h:Heap)(i:Addr)(q:Nat):Prop:=match k with
 |.L=>∃a,v = .ref a/\h.IsListIter i a q
 |.T=>∃a,v = .ref a/\h.IsTupleIter i a q
 |.S=>∃x:Str,v = .str x/\h.IsStrIter i (strIterType x) x t q
def uJ{k:ZK}{t:Tok}(z:mh k v t h i q):∃o,h.get? i=some o/\∀v,o.data ≠ .cell v:=by
 cases k <;> obtain⟨_,_,o,h1,_,h3⟩:=z <;> exact⟨o,h1,λv e=>by rw[h3] at e;cases e⟩
def uK{k:ZK}{t:Tok}(z:mh k v t h i q)(m:∀o,h.get? i=some o->h'.get? i=some o):mh k v t h' i q:=by
 cases k <;> obtain⟨a,e,o,h1,r⟩:=z <;> exact⟨a,e,o,m o h1,r⟩
def Mu{k:ZK}(I:Inv X pins O H s)(h:zq k X.K H v xs)(g:zq k X.K H v ys):xs=ys:=by
 cases k with
 |L=>obtain⟨a,rfl,h⟩:=h;obtain⟨_,e,g⟩:=g;cases e;exact I.D6 h g
 |T=>obtain⟨a,rfl,h⟩:=h;obtain⟨_,e,g⟩:=g;cases e;exact I.D7 h g
 |S=>obtain⟨a,rfl,rfl⟩:=h;obtain⟨_,e,rfl⟩:=g;cases e;rfl
def uL{k:ZK}{t:Tok}(I:Inv X pins O H s)(hh:X.A.in1.handled=none)(hq:zq k X.K H v xs)(st:mh k v t s.heap i q)(hi:fw X pins H i) :
  ∃(f:List Addr) (P:Nat->Value->Prop) (S:Nat->Heap->Prop),Draws X.prog X.w X.A.in1 i f xs.length P S/\S q s.heap/\(∀b,b≠i->fw X pins H b->b∉f)/\(∀n u x,P n u->xs[n]? = some x->RelV x u)/\∀n h,S n h->mh k v t h i n:=by
 cases k with
 |L=>
  obtain⟨a,rfl,hq⟩:=hq
  obtain⟨_,e,st⟩:=st
  cases e
  obtain⟨ia,ra,pa,_⟩:=I.list hq
  have na:=λb (hb:fw X pins H b)=>WA I hq hb
  have la:ia.toArray.size=xs.length:=by rw[bp];exact ra.length.symm
  refine⟨_,_,_,la ▸ Draws.list hh i a (na i hi) ia.toArray,⟨st,pa.isList⟩,λb hb f m=>?_,λn u x p hx=>?_,λn h s=>⟨a,rfl,s.1⟩⟩
  .rcases cf.mp m with z | z
   .exact hb z
   .exact na b f (cj.mp z).symm
  .obtain⟨u',e1,e2⟩:=ra.get hx
   have p:ia.toArray[n]? = some u:=p
   obtain rfl:u'=u:=by simpa[e1] using p
   exact e2
 |T=>
  obtain⟨a,rfl,hq⟩:=hq
  obtain⟨_,e,st⟩:=st
  cases e
  obtain⟨ia,ra,pa,_⟩:=I.tuple hq
  have na:=λb (hb:fw X pins H b)=>Wz I hq hb
  have la:ia.toArray.size=xs.length:=by rw[bp];exact ra.length.symm
  refine⟨_,_,_,la ▸ Wy hh i a (na i hi) ia.toArray,⟨st,pa⟩,λb hb f m=>?_,λn u x p hx=>?_,λn h s=>⟨a,rfl,s.1⟩⟩
  .rcases cf.mp m with z | z
   .exact hb z
   .exact na b f (cj.mp z).symm
  .obtain⟨u',e1,e2⟩:=ra.get hx
   have p:ia.toArray[n]? = some u:=p
   obtain rfl:u'=u:=by simpa[e1] using p
   exact e2
 |S=>
  obtain⟨x,rfl,rfl⟩:=hq
  obtain⟨_,e,st⟩:=st
  cases e
  refine⟨_,_,_,(show x.cps.size=(x.cps.toList.map λc=>V.str ⟨#[c]⟩).length by rw[av,nt]) ▸ Wu hh i x t,st,λb hb f m=>hb (cj.mp m),λn u y p hy=>?_,λn h s=>⟨x,rfl,s⟩⟩
  obtain⟨c,u1,h1,rfl⟩:=p
  rw[bE,Array.getElem?_toList,h1] at hy
  cases hy
  exact⟨u1,rfl⟩
def Mv{k:ZK}(I:Inv X pins O H s)(hq:zq k X.K H v xs)(r:RelV v u) :
  ∃(o1:Obj) (K1:Shared->Prop) (t:Tok),(∀(prog:Program) (w:World) (A:Around) (E:Value->Shared->Prop) (s:Shared) (Q:Value->Shared->Prop),K1 s->Q (.ref s.heap.objs.size) { s with heap:=s.heap.push o1 }->wpAny (model prog w) A (pyIter u) Q E s)/\K1 s/\(∀o,K1 { s with heap:=s.heap.push o })/\o1.isFreed=false/\∀h i,h.get? i=some o1->mh k v t h i 0:=by
 cases k with
 |L=>
  obtain⟨a,rfl,hq⟩:=hq
  cases r
  obtain⟨ia,ra,pa,_⟩:=I.list hq
  exact⟨{ cls := .type "list_iterator",data := .fields #[.ref a,.int 0 0] },λs=>s.heap.IsList a ia.toArray,0,λ_ _ _ _ _ _ hk hq=>wH hk hq,pa.isList,λo=>pa.isList.push o,rfl,λh i e=>⟨a,rfl,_,e,rfl,rfl⟩⟩
 |T=>
  obtain⟨a,rfl,hq⟩:=hq
  cases r
  obtain⟨ia,ra,pa,_⟩:=I.tuple hq
  exact⟨{ cls := .type "tuple_iterator",data := .fields #[.ref a,.int 0 0] },λs=>s.heap.IsTuple a ia.toArray,0,λ_ _ _ _ _ _ hk hq=>JL hk hq,pa,λo=>pa.push o,rfl,λh i e=>⟨a,rfl,_,e,rfl,rfl⟩⟩
 |S=>
  obtain⟨x,rfl,_⟩:=hq
  obtain⟨t,rfl⟩:=r
  exact⟨{ cls := .type (strIterType x),data := .fields #[.str x t,.int 0 0] },λ_=>True,t,λ_ _ _ _ _ _ _ hq=>wpAny_pyIter_strU hq,trivial,λ_=>trivial,rfl,λh i e=>⟨x,rfl,_,e,rfl,rfl⟩⟩
noncomputable def xY(k1 k2:ZK)(K:Frag)(va vb:V):It:=
 ⟨λi H=>∃xs ys x y,zq k1 K H va xs/\zq k2 K H vb ys/\xs[i]? = some x/\ys[i]? = some y,
  λi H v H' =>∃p x y,H p=none/\v = .ref p/\(∀xs,zq k1 K H va xs->xs[i]? = some x)/\(∀ys,zq k2 K H vb ys->ys[i]? = some y)/\H'=upd H p (.tup [x,y]),
  λi H=>∃xs ys,zq k1 K H va xs/\zq k2 K H vb ys/\i=min xs.length ys.length⟩
theorem WB(k1 k2:ZK)(va vb:V)(t1 t2:Tok)(z ti to i j:Addr)(Z:pP z ti to i j [i] [j])(WC:ti≠to)(WD:ti≠i)(WE:ti≠j) :
  Turn P w K (.Tuple elts kk pos) (xY k1 k2 K va vb) [z,ti,to,i,j] z (λq h=>IsZip h z ti to .none/\IsPair h ti (.ref i) (.ref j)/\(∃a b,IsPair h to a b)/\mh k1 va t1 h i q/\mh k2 vb t2 h j q) where
 mem:=by simp
 obj:=λq h st b hb=>by
  obtain⟨h1,h2,⟨a,b',h3⟩,h4,h5⟩:=st
  simp only[cf,fm,wW] at hb
  rcases hb with rfl | rfl | rfl | rfl | rfl
  .exact⟨_,h1,λv e=>by have e:Data.fields _=Data.cell v:=e;cases e⟩
  .exact⟨_,h2,λv e=>by have e:Data.seq _ _=Data.cell v:=e;cases e⟩
  .exact⟨_,h3,λv e=>by have e:Data.seq _ _=Data.cell v:=e;cases e⟩
  .exact uJ h4
  .exact uJ h5
 keep:=λq h h' st k=>by
  obtain⟨h1,h2,⟨a,b',h3⟩,h4,h5⟩:=st
  exact⟨k z (by simp) _ h1,k ti (by simp) _ h2,⟨a,b',k to (by simp) _ h3⟩,uK h4 (k i (by simp)),uK h5 (k j (by simp))⟩
 item:=by
  intro X hP hw hK hc q pins s O H E I hf st hg
  subst hP hw hK
  obtain⟨h1,h2,⟨a,b',h3⟩,h4,h5⟩:=st
  obtain⟨xs,ys,c,d,d9,Bg,Fd,Fe⟩:=hg
  have WG:=(cg.mp Fd).1
  have WH:=(cg.mp Fe).1
  have hh:X.A.in1.handled=none:=I.ok.hd hc
  obtain⟨f1,P1,S1,D1,Ff,n1,Mw,up1⟩:=uL I hh d9 h4 (hf i (by simp))
  obtain⟨f2,P2,S2,D2,j6,n2,Mx,My⟩:=uL I hh Bg h5 (hf j (by simp))
  have Z2:pP z ti to i j f1 f2:=⟨Z.a1,Z.a2,Z.a3,Z.a4,Z.a6,Z.a7,Z.a8,n1 z (br Z.a3) (hf z (by simp)),n1 to Z.a6 (hf to (by simp)),n1 j (br Z.a8) (hf j (by simp)),n2 z (br Z.a4) (hf z (by simp)),n2 to Z.a7 (hf to (by simp)),n2 i Z.a8 (hf i (by simp))⟩
  refine Wq D1 D2 Z2 h1 h2 h3 Ff j6 WG WH λh' tk u1 u2 p1 p2 g1 g2 g3 g4 g5 g6 kp=>?_
  have r1:=Mw _ _ _ p1 Fd
  have r2:=Mx _ _ _ p2 Fe
  have fr:H s.heap.objs.size=none:=I.fresh
  have fz:=hf z (by simp)
  have ft:=hf ti (by simp)
  have fo:=hf to (by simp)
  have fi:=hf i (by simp)
  have fj:=hf j (by simp)
  have lu:∀b o,b∉[z,to,i,j]->s.heap.get? b=some o->h'.get? b=some o:=λb o hb e=>kp b o (λv=>hb (by simp[v])) (λv=>hb (by simp[v])) (λv=>hb (by simp[v])) (λv=>hb (by simp[v])) e
  have xZ:∀b o,H b=some o->b∉[z,to,i,j]:=λb o e hb=>by
   simp only[cf,fm,wW] at hb
   rcases hb with v | v | v | v
   .exact bq e fz.1 v
   .exact bq e fo.1 v
   .exact bq e fi.1 v
   .exact bq e fj.1 v
  have I1:Inv X pins O (upd H s.heap.objs.size (.tup [c,d])) { s with heap:=h',toks:=tk }:=by
   refine I.Am (s':={ s with heap:=h',toks:=tk }) (ch:=[z,to,i,j]) rfl ⟨λb o e n _ hx=>lu b o hx e,λb o e n _ hx=>⟨o.slots,lu b o hx e⟩,
    λb o e n hx=>by rw[ak (bZ (bS e))];exact n,λb o e hx=>⟨o,lu b o hx e⟩,
    λb ys e=>by rw[ak (bq e fr)];exact e,λb ob ys e=>by rw[ak (bq e fr)];exact e,λb ps e=>⟨#[],by rw[ak (bq e fr),e];simp⟩⟩ (λb o e=>?_) I.bare (λb hb=>?_)
   .by_cases hb:b=s.heap.objs.size
    .subst hb
     rw[ao] at e
     cases e
     exact⟨by show 2<=sizeLine;decide,[u1,u2],.cons r1 (.cons r2 .nil),⟨_,g5,rfl,_,rfl⟩⟩
    .rw[ak hb] at e
     refine(I.aD b o e).kO (λc' v lT e' =>?_) (λc' e'=>by rw[ak (bq e' fr)];exact e') λc' ys e'=>by rw[ak (bq e' fr)];exact e'
     rcases lT with v' | v'
     .subst v'
      exact lu c' v (xZ c' o e) e'
     .exact lu c' v (xZ c' _ v') e'
   .simp only[cf,fm,wW] at hb
    rcases hb with v | v | v | v <;> subst v
    .exact⟨fz.2.2.2.1,fz.2.1,fz.2.2.2.2.1,fz.2.2.2.2.2⟩
    .exact⟨fo.2.2.2.1,fo.2.1,fo.2.2.2.2.1,fo.2.2.2.2.2⟩
    .exact⟨fi.2.2.2.1,fi.2.1,fi.2.2.2.2.1,fi.2.2.2.2.2⟩
    .exact⟨fj.2.2.2.1,fj.2.1,fj.2.2.2.2.1,fj.2.2.2.2.2⟩
  have lt:∀{b o},s.heap.get? b=some o->b≠s.heap.objs.size:=λe=>bZ (bS e)
  have x4:∀b∈[z,ti,to,i,j],upd H s.heap.objs.size (.tup [c,d]) b=none:=λb hb=>by
   have jD:∃o,s.heap.get? b=some o:=by
    obtain⟨o4,e4,_⟩:=uJ h4
    obtain⟨o5,e5,_⟩:=uJ h5
    simp only[cf,fm,wW] at hb
    rcases hb with v | v | v | v | v <;> subst v
    .exact⟨_,h1⟩
    .exact⟨_,h2⟩
    .exact⟨_,h3⟩
    .exact⟨_,e4⟩
    .exact⟨_,e5⟩
   obtain⟨o,e⟩:=jD
   rw[ak (lt e)]
   exact(hf b hb).1
  have Fg:IsPair h' ti (.ref i) (.ref j):=kp ti _ Z.a1 WC WD WE h2
  refine⟨_,rfl,wpAny_letOwnedTupleGo_zip (s:={ s with heap:=h',toks:=tk }) g1 λiE y1 sb=>?_⟩
  have I2:Inv X pins O (upd H s.heap.objs.size (.tup [c,d])) { s with heap:=iE,toks:=tk } :=
   Inv.turned (s:={ s with heap:=h',toks:=tk }) (h':=iE) (t':=tk) (it:=z) I1 (λb o hb e=>(sb.2 b hb).trans e) (x4 z (by simp)) fz.2.1 fz.2.2.2.1 fz.2.2.2.2.1 fz.2.2.2.2.2
  have Bh:∀b o,b≠z->h'.get? b=some o->iE.get? b=some o:=λb o hb e=>(sb.2 b hb).trans e
  exact⟨.ref s.heap.objs.size,_,I2,rfl,⟨_,c,d,fr,rfl,λWI h=>by rw[Mu I h d9];exact Fd,λWI h=>by rw[Mu I h Bg];exact Fe,rfl⟩,⟨y1,Bh _ _ Z.a1 Fg,⟨_,_,Bh _ _ Z.a2 g2⟩,uK (up1 _ _ g3) λo e=>Bh _ _ Z.a3 e,uK (My _ _ g4) λo e=>Bh _ _ Z.a4 e⟩,x4⟩
 done:=by
  intro X hP hw hK hc q pins s O H E I hf st hg
  subst hP hw hK
  obtain⟨h1,h2,⟨a,b',h3⟩,h4,h5⟩:=st
  obtain⟨xs,ys,d9,Bg,hg⟩:=hg
  have hh:X.A.in1.handled=none:=I.ok.hd hc
  obtain⟨f1,P1,S1,D1,Ff,n1,Mw,up1⟩:=uL I hh d9 h4 (hf i (by simp))
  obtain⟨f2,P2,S2,D2,j6,n2,Mx,My⟩:=uL I hh Bg h5 (hf j (by simp))
  have Z2:pP z ti to i j f1 f2:=⟨Z.a1,Z.a2,Z.a3,Z.a4,Z.a6,Z.a7,Z.a8,n1 z (br Z.a3) (hf z (by simp)),n1 to Z.a6 (hf to (by simp)),n1 j (br Z.a8) (hf j (by simp)),n2 z (br Z.a4) (hf z (by simp)),n2 to Z.a7 (hf to (by simp)),n2 i Z.a8 (hf i (by simp))⟩
  have fz:=hf z (by simp)
  have fo:=hf to (by simp)
  have fi:=hf i (by simp)
  have fj:=hf j (by simp)
  refine Wr D1 D2 Z2 h1 h2 h3 Ff j6 (by lia) λh' tk kp=>⟨rfl,?_⟩
  have lu:∀b o,b∉[z,to,i,j]->s.heap.get? b=some o->h'.get? b=some o:=λb o hb e=>kp b o (λv=>hb (by simp[v])) (λv=>hb (by simp[v])) (λv=>hb (by simp[v])) (λv=>hb (by simp[v])) e
  have xZ:∀b o,H b=some o->b∉[z,to,i,j]:=λb o e hb=>by
   simp only[cf,fm,wW] at hb
   rcases hb with v | v | v | v
   .exact bq e fz.1 v
   .exact bq e fo.1 v
   .exact bq e fi.1 v
   .exact bq e fj.1 v
  refine I.Am (s':={ s with heap:=h',toks:=tk }) (ch:=[z,to,i,j]) rfl ⟨λb o e n _ hx=>lu b o hx e,λb o e n _ hx=>⟨o.slots,lu b o hx e⟩,λb o e n hx=>n,λb o e hx=>⟨o,lu b o hx e⟩,
    λb ys e=>e,λb ob ys e=>e,λb ps e=>⟨#[],by rw[e];simp⟩⟩ (λb o e=>?_) I.bare (λb hb=>?_)
  .refine(I.aD b o e).kO (λc' v lT e' =>?_) (λc' e'=>e') λc' ys e'=>e'
   rcases lT with v' | v'
   .subst v'
    exact lu c' v (xZ c' o e) e'
   .exact lu c' v (xZ c' _ v') e'
  .simp only[cf,fm,wW] at hb
   rcases hb with v | v | v | v <;> subst v
   .exact⟨fz.2.2.2.1,fz.2.1,fz.2.2.2.2.1,fz.2.2.2.2.2⟩
   .exact⟨fo.2.2.2.1,fo.2.1,fo.2.2.2.2.1,fo.2.2.2.2.2⟩
   .exact⟨fi.2.2.2.1,fi.2.1,fi.2.2.2.2.1,fi.2.2.2.2.2⟩
   .exact⟨fj.2.2.2.1,fj.2.1,fj.2.2.2.2.1,fj.2.2.2.2.2⟩
 self:=λ_ _ _ _ _ st h=>wpAny_pyIter_zip st.1 h
def WJ(k1 k2:ZK)(K:Frag)(ta:TA):TI:=λO H R=>ta O H λvs H1=>∃a b,vs=[a,b]/\(∃xs,zq k1 K H1 a xs)/\(∃ys,zq k2 K H1 b ys)/\R (xY k1 k2 K a b) H1
def x5(k1 k2:ZK){k:Nat}{a b:Expr}(hg:Gl X "zip")(hm:X.mg "zip"=none)(ha:PA X [a,b] ta)(hs:starEach [a,b] X.env=(false,eval a X.env)::starEach [b] X.env:=by rfl)(hpl:(backTo pos (starEach [b] X.env)).any (·.1)=false:=by rfl) :
  PI X (.Tuple elts k nO) (.Call (.Name "zip" p) [a,b] [] pos) (WJ k1 k2 X.K ta):=by
 intro pins s O H R I h
 refine Call_ (ph I hg hm Wv (DF (aE (ha pos pins s O H _ I h) λus s1 ⟨vs,H1,I1,r1,q1⟩=>?_) hs hpl))
 obtain⟨ta,tb,e,⟨xs,hx⟩,⟨ys,hy⟩,q⟩:=q1
 subst e
 obtain⟨u1,u2,rfl,ru,rv⟩:=vals2 r1
 obtain⟨o1,K1,t1,a1,a2,a3,a4,a5⟩:=Mv I1 hx ru
 obtain⟨o2,K2,t2,b1,b2,b3,b4,b5⟩:=Mv I1 hy rv
 refine Wt a1 b1 a2 (b3 _) a4 b4 λh' g1 g2 g3 g4 g5 kp=>?_
 have I2:Inv X pins O H1 { s1 with heap:=h' }:=I1.kept (t':=s1.toks) kp
 refine wpAny_pyIter_zip (s:={ s1 with heap:=h' }) g1 ?_
 refine⟨s1.heap.objs.size+4,[s1.heap.objs.size+4,s1.heap.objs.size+2,s1.heap.objs.size+3,s1.heap.objs.size,s1.heap.objs.size+1],_,_,H1,rfl,I2,
  WB k1 k2 ta tb t1 t2 _ _ _ _ _ (Be s1.heap.objs.size).1 (Be s1.heap.objs.size).2.1 (Be s1.heap.objs.size).2.2.1 (Be s1.heap.objs.size).2.2.2,
  ⟨g1,g2,⟨_,_,g3⟩,a5 _ _ g4,b5 _ _ g5⟩,λb hb=>?_,q⟩
 have nZ:s1.heap.objs.size<=b:=by
  simp only[cf,fm,wW] at hb
  rcases hb with v | v | v | v | v <;> rw[v]
  .exact Ac _ _
  .exact Ac _ _
  .exact Ac _ _
  .exact aW _
  .exact Ac _ _
 exact I1.j5 nZ (I1.aD.fresh nZ)
theorem x6{k1 k2:ZK}{ta tb:V}{Mz:TS}{D:Ends}(Pv:Nat->St->Hp->Prop)(h0:Pv 0 O H)(hl:∀i O H,i<=min xs.length ys.length->Pv i O H->zq k1 K H ta xs/\zq k2 K H tb ys)
  (hs:∀i x y p O H,xs[i]? = some x->ys[i]? = some y->Pv i O H->H p=none->g (.ref p) O (upd H p (.tup [x,y])) λO2 H2=>Mz { D with nx:=Pv (i+1),ct:=Pv (i+1),bk:=D.nx } O2 H2) (hd:∀O H,Pv (min xs.length ys.length) O H->D.nx O H) :
  ∃W:Nat->Nat->St->Hp->Prop,(∃m,W 0 m O H)/\∀i m O H,W i m O H->
   ((xY k1 k2 K ta tb).stop i H/\D.nx O H)\/((xY k1 k2 K ta tb).go i H/\∃N:St->Hp->Prop,(∀O' H',N O' H'->∃m',m'<m/\W (i+1) m' O' H')/\∀v H',(xY k1 k2 K ta tb).fU i H v H'->g v O H' λO2 H2=>Mz { D with nx:=N,ct:=N,bk:=D.nx } O2 H2):=by
 refine⟨λi m O H=>m=min xs.length ys.length - i/\i<=min xs.length ys.length/\Pv i O H,⟨_,rfl,bu _,h0⟩,?_⟩
 rintro i m O H ⟨rfl,hi,p⟩
 obtain⟨q1,q2⟩:=hl i O H hi p
 by_cases aT:i<min xs.length ys.length
 .have e1:=bb (l:=xs) (i:=i) (by lia)
  have e2:=bb (l:=ys) (i:=i) (by lia)
  refine .inr ⟨⟨xs,ys,_,_,q1,q2,e1,e2⟩,Pv (i+1),λO' H' p'=>⟨min xs.length ys.length - (i+1),by lia,rfl,aT,p'⟩,λv H' yy=>?_⟩
  obtain⟨pp,x,y,hn,rfl,f1,f2,rfl⟩:=yy
  exact hs i x y pp O H (f1 xs q1) (f2 ys q2) p hn
 .have e:i=min xs.length ys.length:=by lia
  subst e
  exact .inl ⟨⟨xs,ys,q1,q2,rfl⟩,hd O H p⟩
set_option maxRecDepth 100000 in
theorem WK(l:Addr)(items:Array Value)(n:Nat)(Fh:Option Addr)(sl:Array (Option Value)) :
  Meets (Builtin.«enumerate.__new__» ⟨[.type "enumerate",.ref l],[]⟩) (λ_ R s=>s.heap.get? l=some ⟨.type "tuple",Fh,.seq items n,sl⟩/\
   R (.ok (.ret (.ref (s.heap.push ⟨.type "tuple_iterator",none,.fields #[.ref l,.int 0 0],#[]⟩).objs.size)))
    { s with heap:=(s.heap.push ⟨.type "tuple_iterator",none,.fields #[.ref l,.int 0 0],#[]⟩).push ⟨.type "enumerate",none,.fields #[.none,.bool false,.ref s.heap.objs.size,rawInt 0,.none,.none],#[]⟩ }):=
 .of_wp λprog w A R s h=>by
  obtain⟨hp,g,d,tk,os⟩:=s;obtain⟨hl,h⟩:=h
  have WL:=sub_enumerate
  have hL:Heap.IsTuple (Shared.heap ⟨hp,g,d,tk,os⟩) l items:=⟨_,hl,rfl,n,rfl⟩
  wp_walk using Sd hl
  refine wpAny_stack_any λst=>aY ?_
  split
  .rename_i c _ _ _ _ _
   cases(c==Value.type "enumerate") <;> (wp_walk using Sd hl,JL hL;exact⟨_,rfl,h⟩)
  .wp_walk using Sd hl,JL hL
   exact⟨_,rfl,h⟩
def WM{l:Addr}(hL:IsTup s.heap l items)
  (h:∀h',IsEnum h' (s.heap.objs.size+1) s.heap.objs.size 0 .none->h'.IsTupleIter s.heap.objs.size l 0->h'.objs.size=s.heap.objs.size+2->(∀b o,s.heap.get? b=some o->h'.get? b=some o)->Q (.ref (s.heap.objs.size+1)) { s with heap:=h' }) :
  wpAny (model prog w) A (call (.type "enumerate") [.ref l]) Q E s:=by
 obtain⟨⟨c,Fh,dt,sl⟩,hl,hc,n,hd⟩:=hL
 have hc:c = .type "tuple":=hc
 have hd:dt = .seq items n:=hd
 subst hc hd
 refine callType_new F.called_enumerate (by decide) (F.typeCall_enumerate_1 _) (F.newCall_enumerate_1 _) (λobj=>F.args_object_init_2 obj _) F.entry_enumerate_new (WK l items n Fh sl) ⟨hl,?_⟩
 have hz:(s.heap.push ⟨.type "tuple_iterator",none,.fields #[.ref l,.int 0 0],#[]⟩).objs.size=s.heap.objs.size+1:=kK ..
 show _/\_
 rw[hz]
 have he:IsEnum ((s.heap.push ⟨.type "tuple_iterator",none,.fields #[.ref l,.int 0 0],#[]⟩).push ⟨.type "enumerate",none,.fields #[.none,.bool false,.ref s.heap.objs.size,rawInt 0,.none,.none],#[]⟩) (s.heap.objs.size+1) s.heap.objs.size 0 .none:=by
  have e:=cI (s.heap.push ⟨.type "tuple_iterator",none,.fields #[.ref l,.int 0 0],#[]⟩) (o:=⟨.type "enumerate",none,.fields #[.none,.bool false,.ref s.heap.objs.size,rawInt 0,.none,.none],#[]⟩) rfl
  rw[hz] at e;exact e
 exact⟨⟨_,he,rfl⟩,h _ he ⟨_,bL _ (cI _ rfl),rfl,rfl⟩ (by rw[kK,hz]) λb o x=>bL _ (bL _ x)⟩
noncomputable def pQ(k:ZK)(K:Frag)(va:V)(xs:List V):It:=
 ⟨λi H=>zq k K H va xs/\i<xs.length,λi H x H' =>∃p v,H p=none/\x = .ref p/\xs[i]? = some v/\H'=upd H p (.tup [.int i,v]),λi H=>zq k K H va xs/\i=xs.length⟩
theorem WN(k:ZK)(va:V)(t:Tok)(it e:Addr)(xs:List V)(Fi:e≠it) :
  Turn P w K (.Tuple elts kk pos) (pQ k K va xs) [e,it] e (λi h=>(∃old,IsEnum h e it i old)/\mh k va t h it i) where
 mem:=by simp
 obj:=λi h st b hb=>by
  obtain⟨⟨old,he⟩,hz⟩:=st
  rcases cf.mp hb with z | z
  .subst z
   exact⟨_,he,λv z=>by
    have z':Data.fields _=Data.cell v:=z
    cases z'⟩
  .have z:b=it:=by simpa using z
   subst z
   exact uJ hz
 keep:=λi h h' st kk=>by
  obtain⟨⟨old,he⟩,hit⟩:=st
  exact⟨⟨old,kk e (by simp) _ he⟩,uK hit λo q=>kk it (by simp) o q⟩
 item:=by
  intro X hP hw hK hc i pins s O H E I hf st hg
  subst hP hw hK
  obtain⟨⟨old,he⟩,hit⟩:=st
  obtain⟨hq,aT⟩:=hg
  have fe:=hf e (by simp)
  have fi:=hf it (by simp)
  obtain⟨ff,PP,SS,D1,d1,nf,rel,zi⟩:=uL I (I.ok.hd hc) hq hit fi
  refine wpAny_pyNext_enum_itemD D1 he d1 aT Fi (nf e Fi fe) λv h' tk WO ho sr hT hsz hk=>?_
  obtain⟨c,gy⟩:∃c,xs[i]? = some c:=⟨_,bb aT⟩
  have ru:=rel i v c WO gy
  have fr:H s.heap.objs.size=none:=I.fresh
  have neT:∀b o,H b=some o->b≠e/\b≠it:=λb o q=>⟨bq q fe.1,bq q fi.1⟩
  have I1:Inv X pins O (upd H s.heap.objs.size (.tup [.int i,c])) { s with heap:=h',toks:=tk+1 }:=by
   refine I.Am (s':={ s with heap:=h',toks:=tk+1 }) (ch:=[e,it]) rfl ⟨λb o q n _ hx=>hk b o (λz=>hx (by simp[z])) (λz=>hx (by simp[z])) q,λb o q n _ hx=>⟨o.slots,hk b o (λz=>hx (by simp[z])) (λz=>hx (by simp[z])) q⟩,
    λb o q n hx=>by rw[ak (bZ (bS q))];exact n,λb o q hx=>⟨o,hk b o (λz=>hx (by simp[z])) (λz=>hx (by simp[z])) q⟩,
    λb ys q=>by rw[ak (bq q fr)];exact q,λb ob ys q=>by rw[ak (bq q fr)];exact q,λb ps q=>⟨#[],by rw[ak (bq q fr),q];simp⟩⟩ (λb o q=>?_) I.bare (λb hb=>?_)
   .by_cases hb:b=s.heap.objs.size
    .subst hb
     rw[ao] at q
     cases q
     exact⟨by show 2<=sizeLine;decide,[.int i tk,v],.cons ⟨tk,rfl⟩ (.cons ru .nil),⟨_,hT,rfl,_,rfl⟩⟩
    .rw[ak hb] at q
     refine(I.aD b o q).kO (λc v hc q' =>?_) (λc q'=>by rw[ak (bq q' fr)];exact q') λc ys q'=>by rw[ak (bq q' fr)];exact q'
     rcases hc with z | z
     .subst z
      exact hk c v (neT c o q).1 (neT c o q).2 q'
     .exact hk c v (neT c _ z).1 (neT c _ z).2 q'
   .have z:b=e\/b=it:=by simpa using hb
    rcases z with z | z
    .subst z
     exact⟨fe.2.2.2.1,fe.2.1,fe.2.2.2.2.1,fe.2.2.2.2.2⟩
    .subst z
     exact⟨fi.2.2.2.1,fi.2.1,fi.2.2.2.2.1,fi.2.2.2.2.2⟩
  have x4:∀b∈[e,it],upd H s.heap.objs.size (.tup [.int i,c]) b=none:=λb hb=>by
   have z:b=e\/b=it:=by simpa using hb
   have Bi:b<s.heap.objs.size:=by
    rcases z with z | z
    .subst z;exact bS he
    .subst z;obtain⟨o,q,_⟩:=uJ hit;exact bS q
   rw[ak (bZ Bi)]
   rcases z with z | z
   .subst z;exact fe.1
   .subst z;exact fi.1
  refine⟨_,rfl,wpAny_letOwnedTupleGo_enum (s:={ s with heap:=h',toks:=tk+1 }) ho λh2 WQ xw=>?_⟩
  have I2:Inv X pins O (upd H s.heap.objs.size (.tup [.int i,c])) { s with heap:=h2,toks:=tk+1 } :=
   Inv.turned (s:={ s with heap:=h',toks:=tk+1 }) (h':=h2) (t':=tk+1) (it:=e) I1 (λb o hb q=>(xw.2 b hb).trans q) (x4 e (by simp)) fe.2.1 fe.2.2.2.1 fe.2.2.2.2.1 fe.2.2.2.2.2
  refine⟨.ref s.heap.objs.size,_,I2,rfl,⟨_,_,fr,rfl,gy,rfl⟩,⟨⟨v,?_⟩,uK (zi _ _ sr) λo q=>(xw.2 it (br Fi)).trans q⟩,x4⟩
  have e1:((i+1:Nat):Int)=(i:Int)+1:=by lia
  rw[e1]
  exact WQ
 done:=by
  intro X hP hw hK hc i pins s O H E I hf st hg
  subst hP hw hK
  obtain⟨⟨old,he⟩,hit⟩:=st
  obtain⟨hq,ei⟩:=hg
  have fi:=hf it (by simp)
  obtain⟨ff,PP,SS,D1,d1,nf,rel,zi⟩:=uL I (I.ok.hd hc) hq hit fi
  refine wpAny_pyNext_enum_endD D1 he (by rw[<-ei];exact d1) λh' eb=>⟨rfl,?_⟩
  exact I.turned (t':=s.toks) (it:=it) (λb o hb q=>eb b o hb q) fi.1 fi.2.1 fi.2.2.2.1 fi.2.2.2.2.1 fi.2.2.2.2.2
 self:=λ_ _ _ _ _ st h=>by
  obtain⟨⟨old,he⟩,_⟩:=st
  exact wpAny_pyIter_enum he h
def WR{k:ZK}(I:Inv X pins O H s)(hq:zq k X.K H v xs)(r:RelV v u) :
  ∃t:Tok,∀(A:Around) (E:Value->Shared->Prop) (Q:Value->Shared->Prop),(∀h',IsEnum h' (s.heap.objs.size+1) s.heap.objs.size 0 .none->mh k v t h' s.heap.objs.size 0->(∀b o,s.heap.get? b=some o->h'.get? b=some o)->Q (.ref (s.heap.objs.size+1)) { s with heap:=h' })->
   wpAny (model X.prog X.w) A (call (.type "enumerate") [u]) Q E s:=by
 cases k with
 |L=>
  obtain⟨a,rfl,hq⟩:=hq
  cases r
  obtain⟨ia,ra,pa,_⟩:=I.list hq
  exact⟨0,λA E Q h=>call_enumerate_list pa.isList λh' he sy _ hk=>h h' he ⟨a,rfl,sy⟩ hk⟩
 |T=>
  obtain⟨a,rfl,hq⟩:=hq
  cases r
  obtain⟨ia,ra,pa,_⟩:=I.tuple hq
  exact⟨0,λA E Q h=>WM pa λh' he sy _ hk=>h h' he ⟨a,rfl,sy⟩ hk⟩
 |S=>
  obtain⟨x,rfl,_⟩:=hq
  obtain⟨t,rfl⟩:=r
  exact⟨t,λA E Q h=>call_enumerate_str λh' he sy _ hk=>h h' he ⟨x,rfl,sy⟩ hk⟩
def Fj(k:ZK){a:Expr}(hW:∀vs H R,W vs H R->∃va xs,vs=[va]/\zq k X.K H va xs/\R (pQ k X.K va xs) H)(hg:Gl X "enumerate")(hm:X.mg "enumerate"=none)(ha:PA X [a] ta)(hs:starEach [a] X.env=[(false,eval a X.env)]:=by rfl) :
  PI X (.Tuple elts kk nO) (.Call (.Name "enumerate" p) [a] [] pos) (λO H R=>ta O H λvs H1=>W vs H1 R):=by
 intro pins s O H R I h
 refine Call_ (ph I hg hm boot_enumerate (DF (aE (ha pos pins s O H _ I h) λus s1 ⟨vs,H1,I1,r1,q1⟩=>?_) hs rfl))
 obtain⟨va,xs,e,hq,q⟩:=hW _ _ _ q1
 subst e
 obtain⟨u,rfl,ru⟩:=vals1 r1
 obtain⟨t,hz⟩:=WR I1 hq ru
 refine hz _ _ _ λh' he sy hk=>?_
 have I2:Inv X pins O H1 { s1 with heap:=h' }:=I1.kept (t':=s1.toks) hk
 refine wpAny_pyIter_enum (s:={ s1 with heap:=h' }) he ?_
 refine⟨s1.heap.objs.size+1,[s1.heap.objs.size+1,s1.heap.objs.size],_,_,H1,rfl,I2,WN k va t s1.heap.objs.size (s1.heap.objs.size+1) xs (Nat.succ_ne_self _),⟨⟨.none,he⟩,sy⟩,λb hb=>?_,q⟩
 have z:b=s1.heap.objs.size+1\/b=s1.heap.objs.size:=by simpa using hb
 rcases z with z | z
 .subst z;exact I1.j5 (ir _) (I1.aD.fresh (ir _))
 .subst z;exact I1.j5 (aW _) I1.fresh
theorem Fp{k:ZK}{va:V}{tb:TS}{D:Ends}(Pv:Nat->St->Hp->Prop)(h0:Pv 0 O H)(hl:∀i O H,i<=xs.length->Pv i O H->zq k K H va xs)
  (hs:∀i x p O H,xs[i]? = some x->Pv i O H->H p=none->g (.ref p) O (upd H p (.tup [.int i,x])) λO2 H2=>tb { D with nx:=Pv (i+1),ct:=Pv (i+1),bk:=D.nx } O2 H2) (hd:∀O H,Pv xs.length O H->D.nx O H) :
  ∃W:Nat->Nat->St->Hp->Prop,(∃m,W 0 m O H)/\∀i m O H,W i m O H->
   ((pQ k K va xs).stop i H/\D.nx O H)\/((pQ k K va xs).go i H/\∃N:St->Hp->Prop,(∀O' H',N O' H'->∃m',m'<m/\W (i+1) m' O' H')/\∀x H',(pQ k K va xs).fU i H x H'->g x O H' λO2 H2=>tb { D with nx:=N,ct:=N,bk:=D.nx } O2 H2):=by
 refine⟨λi m O H=>m=xs.length - i/\i<=xs.length/\Pv i O H,⟨xs.length,by simp,bu _,h0⟩,?_⟩
 rintro i m O H ⟨rfl,hi,p⟩
 have q:=hl i O H hi p
 by_cases aT:i<xs.length
 .refine .inr ⟨⟨q,aT⟩,Pv (i+1),λO' H' p'=>⟨xs.length - (i+1),by lia,rfl,aT,p'⟩,λx H' y=>?_⟩
  obtain⟨pp,v,hn,e1,e2,e3⟩:=y
  subst e1 e3
  exact hs i v pp O H e2 p hn
 .have e:i=xs.length:=by lia
  subst e
  exact .inl ⟨⟨q,rfl⟩,hd O H p⟩
noncomputable abbrev Bj(K:Frag)(a:Addr)(xs:List V):It:=pQ .L K (.ref a) xs
noncomputable abbrev Fq(K:Frag)(a:Addr)(xs:List V):It:=pQ .T K (.ref a) xs
noncomputable abbrev Fs(K:Frag)(x:Str):It:=pQ .S K (.str x) (x.cps.toList.map λc=>V.str ⟨#[c]⟩)
def WS(K:Frag)(ta:TA):TI:=λO H R=>ta O H λvs H1=>∃a xs,vs=[.ref a]/\ai K H1 a xs/\R (Bj K a xs) H1
def WT(K:Frag)(ta:TA):TI:=λO H R=>ta O H λvs H1=>∃a xs,vs=[.ref a]/\aq K H1 a xs/\R (Fq K a xs) H1
def WU(K:Frag)(ta:TA):TI:=λO H R=>ta O H λvs H1=>∃x,vs=[.str x]/\R (Fs K x) H1
section
variable{X:Cx}{elts:List Expr}{kk:Nat}{nO:Pos}{a:Expr}{ta:TA}{p pos:Pos}
def Ft(hg:Gl X "enumerate")(hm:X.mg "enumerate"=none)(ha:PA X [a] ta)(hs:starEach [a] X.env=[(false,eval a X.env)]:=by rfl):PI X (.Tuple elts kk nO) (.Call (.Name "enumerate" p) [a] [] pos) (WS X.K ta):=
 Fj .L (W:=λvs H1 R=>∃a xs,vs=[.ref a]/\ai X.K H1 a xs/\R (Bj X.K a xs) H1) (λ_ _ _ ⟨a,xs,e,q,r⟩=>⟨.ref a,xs,e,⟨a,rfl,q⟩,r⟩) hg hm ha hs
def WV(hg:Gl X "enumerate")(hm:X.mg "enumerate"=none)(ha:PA X [a] ta)(hs:starEach [a] X.env=[(false,eval a X.env)]:=by rfl):PI X (.Tuple elts kk nO) (.Call (.Name "enumerate" p) [a] [] pos) (WT X.K ta):=
 Fj .T (W:=λvs H1 R=>∃a xs,vs=[.ref a]/\aq X.K H1 a xs/\R (Fq X.K a xs) H1) (λ_ _ _ ⟨a,xs,e,q,r⟩=>⟨.ref a,xs,e,⟨a,rfl,q⟩,r⟩) hg hm ha hs
def WW(hg:Gl X "enumerate")(hm:X.mg "enumerate"=none)(ha:PA X [a] ta)(hs:starEach [a] X.env=[(false,eval a X.env)]:=by rfl):PI X (.Tuple elts kk nO) (.Call (.Name "enumerate" p) [a] [] pos) (WU X.K ta):=
 Fj .S (W:=λvs H1 R=>∃x,vs=[.str x]/\R (Fs X.K x) H1) (λ_ _ _ ⟨x,e,r⟩=>⟨.str x,_,e,⟨x,rfl,rfl⟩,r⟩) hg hm ha hs
end
section
variable{K:Frag}{a:Addr}{xs:List V}{g:TG}{tb:TS}{D:Ends}{O:St}{H:Hp}
def Fu(J:It)(g:TG)(tb:TS)(D:Ends)(O:St)(H:Hp):Prop := ∃W:Nat->Nat->St->Hp->Prop,(∃m,W 0 m O H)/\∀i m O H,W i m O H->
   (J.stop i H/\D.nx O H)\/(J.go i H/\∃N:St->Hp->Prop,(∀O' H',N O' H'->∃m',m'<m/\W (i+1) m' O' H')/\∀x H',J.fU i H x H'->g x O H' λO2 H2=>tb { D with nx:=N,ct:=N,bk:=D.nx } O2 H2)
def MA(Pv:Nat->St->Hp->Prop)(h0:Pv 0 O H)(hl:∀i O H,i<=xs.length->Pv i O H->ai K H a xs)
  (hs:∀i x p O H,xs[i]? = some x->Pv i O H->H p=none->g (.ref p) O (upd H p (.tup [.int i,x])) λO2 H2=>tb { D with nx:=Pv (i+1),ct:=Pv (i+1),bk:=D.nx } O2 H2) (hd:∀O H,Pv xs.length O H->D.nx O H):Fu (Bj K a xs) g tb D O H:=
 Fp Pv h0 (λi O H hi p=>⟨a,rfl,hl i O H hi p⟩) hs hd
def WX(Pv:Nat->St->Hp->Prop)(h0:Pv 0 O H)(hl:∀i O H,i<=xs.length->Pv i O H->aq K H a xs)
  (hs:∀i x p O H,xs[i]? = some x->Pv i O H->H p=none->g (.ref p) O (upd H p (.tup [.int i,x])) λO2 H2=>tb { D with nx:=Pv (i+1),ct:=Pv (i+1),bk:=D.nx } O2 H2) (hd:∀O H,Pv xs.length O H->D.nx O H):Fu (Fq K a xs) g tb D O H:=
 Fp Pv h0 (λi O H hi p=>⟨a,rfl,hl i O H hi p⟩) hs hd
def WY(Pv:Nat->St->Hp->Prop)(h0:Pv 0 O H)
  (hs:∀i c p O H,x.cps.toList[i]? = some c->Pv i O H->H p=none->g (.ref p) O (upd H p (.tup [.int i,.str ⟨#[c]⟩])) λO2 H2=>tb { D with nx:=Pv (i+1),ct:=Pv (i+1),bk:=D.nx } O2 H2) (hd:∀O H,Pv x.cps.size O H->D.nx O H):Fu (Fs K x) g tb D O H:=
 Fp Pv h0 (λ_ _ _ _ _=>⟨x,rfl,rfl⟩) (λi y p O H hy pv hn=>by
  rw[bE] at hy
  obtain⟨c,hc,rfl⟩:=iS.mp hy
  exact hs i c p O H hc pv hn) (λO H h=>hd O H (by rw[av,nt] at h;exact h))
end
theorem WZ{Q:VK}(hn:xs.length<=10000)(ha:ai K H1 a xs)(p:Nat->Bool)(F:Addr->Nat->V->Hp->Prop)
  (mono:∀D i y H H',H1 D=none->(∃o,H D=some (.lst o))->(∀b o,b≠D->H b=some o->H' b=some o)->F D i y H->F D i y H')
  (hs:∀D i x H (Z0:Hp->Prop) (Z:V->Hp->Prop),H1 D=none->xs[i]? = some x->af H1 H->(∃o,H D=some (.lst o))->(∀H2,af H H2->p i=false->Z0 H2)->(∀y H2,af H H2->p i=true->F D i y H2->Z y H2)->
   tt (some (.int i)::some x::eJ js O) H λb H2=>if b=true then te (some (.int i)::some x::eJ js O) H2 Z else Z0 H2)
  (hd:∀D ys H,H1 D=none->H D=some (.lst ys)->af H1 H->Paired (λi y=>F D i y H) ((List.range xs.length).filter p) ys->Q (.ref D) H):EO K' js tt te O (Bj K a xs) H1 Q:=by
 intro D hD
 have hz:10000<sizeLine:=by decide
 refine⟨λi m H=>m=xs.length - i/\i<=xs.length/\∃ys,H D=some (.lst ys)/\af H1 H/\Paired (λi y=>F D i y H) ((List.range i).filter p) ys,⟨xs.length,by simp,bu _,[],ao,af.upd hD,.nil⟩,?_⟩
 rintro i m H ⟨rfl,hi,ys,bh,sm,pr⟩
 have q:=sm.seq ha
 by_cases aT:i<xs.length
 .refine .inr ⟨⟨⟨a,rfl,q⟩,aT⟩,λx H' y=>?_⟩
  obtain⟨pp,v,x8,rfl,yy,rfl⟩:=y
  have j2:List.range (i+1)=List.range i++[i]:=nC
  have ln:ys.length<=i:=by
   have h1:=pr.length
   have h2:((List.range i).filter p).length<=(List.range i).length:=iw _ _
   rw[kM] at h2
   lia
  have sp:af H (upd H pp (.tup [.int i,v])):=af.upd x8
  refine⟨pp,.int i,v,rfl,aq.of ao,hs D i v _ _ _ hD yy (sm.trans sp) ⟨ys,sp _ _ bh⟩ (λH2 s2 hp=>?_) (λz H2 s2 hp hF=>?_)⟩
  .refine⟨xs.length - (i+1),by lia,rfl,aT,ys,s2 _ _ (sp _ _ bh),sm.trans (sp.trans s2),?_⟩
   rw[j2,jY,dw,ax (by rw[hp];exact b0),oX,dJ]
   exact Paired.bU pr λj z f=>mono D j z H H2 hD ⟨ys,bh⟩ (λb o _ e=>s2 b o (sp b o e)) f
  .refine⟨ys,s2 _ _ (sp _ _ bh),by lia,xs.length - (i+1),by lia,rfl,aT,ys++[z],ao,(sm.trans (sp.trans s2)).i0 hD,?_⟩
   have up:∀b o,b≠D->H2 b=some o->upd H2 D (.lst (ys++[z])) b=some o:=λb o hb e=>by rw[ak hb];exact e
   rw[j2,jY,dw,aA hp,oX]
   refine nA (Paired.bU pr λj z' f=>?_) (mono D i z H2 _ hD ⟨ys,s2 _ _ (sp _ _ bh)⟩ up hF)
   exact mono D j z' H2 _ hD ⟨ys,s2 _ _ (sp _ _ bh)⟩ up (mono D j z' H H2 hD ⟨ys,bh⟩ (λb o _ e=>s2 b o (sp b o e)) f)
 .have e:i=xs.length:=by lia
  subst e
  exact .inl ⟨⟨⟨a,rfl,q⟩,rfl⟩,hd D ys H hD bh sm pr⟩
theorem Bk{t:TA}{k:Nat}(N:Nw X.prog X.w X.K X.mg X.base x C k sp)(hr:cz l X.A)(ha:PA X (e::es) t)(hle:k+1<=l:=by first | decide | lia)(hg:Gl X x:=by rfl)(gr:(x==("__debug__":Str))=false:=by decide)
  (he:starEach (e::es) X.env=(false,eval e X.env)::starEach es X.env:=by rfl) (hpl:(backTo pos (starEach es X.env)).any (·.1)=false:=by rfl):PE X (.Call (.Name x p) (e::es) [] pos) (AD C sp [] E0 t):=by
 obtain⟨f,fd,ps,M,G,hb,hm⟩:=N.ex
 exact Ub M G (hr.mono hle) hg hm hb .nil xF ha gr he hpl
noncomputable def Bm:Expr->Bool
 |.Starred .. =>true
 |_=>false
def cJ{env:Env}(h:Bm e=false):starEach (e::es) env=(false,eval e env)::starEach es env:=by
 cases e <;> first | rfl | cases h
theorem uM:∀{es:List Expr}{env:Env}{pos:Pos},es.all (λe=>!Bm e)=true->(backTo pos (starEach es env)).any (·.1)=false
 |[],_,_,_=>rfl
 |e::es,env,pos,h=>by
  rw[List.all_cons,eP] at h
  rw[cJ (by cases hs:Bm e with | false=>rfl | true=>rw[hs] at h;cases h.1)]
  have ih:=uM (es:=es) (env:=env) (pos:=pos) h.2
  unfold backTo at ih ⊢
  rw[bI,qU,ih]
  rfl
def W0{a:Int}{j k:Nat}:PE X (.Tuple [.Constant (.int a) j p,.Constant (.int b) j' p'] k pos) (Eg (pF (tC (.int a)) (pF (tC (.int b)) lY))):=
 eS (ab az (ab az ag (hs:=cJ rfl)) (hs:=cJ rfl))
structure LE(X:Cx)(e:Expr)(t:TE):Prop where
 h:PE X e t
structure LA(X:Cx)(es:List Expr)(t:TA):Prop where
 h:PA X es t
structure LS(X:Cx)(st:Stmt)(t:TS):Prop where
 h:PS X st t
structure MB(X:Cx)(st:List Stmt)(t:TS):Prop where
 h:gk X st t
section
variable{X:Cx}{e a b:Expr}{es:List Expr}{te ta tb:TE}{t:TA}{pos:Pos}
def W2:LA X [] lY:=⟨ag⟩
def sC(ha:LE X e te)(hr:LA X es t)(h:Bm e=false):LA X (e::es) (pF te t):=⟨ab ha.h hr.h (cJ h)⟩
def W3(h:LA X es t):LE X (.List es pos) (K4 t):=⟨de h.h⟩
def sD{i k:Int}{j:Nat}:LE X (.Tuple [.Constant (.int i) j p,.Constant (.int k) j' p'] n pos) (Eg (pF (tC (.int i)) (pF (tC (.int k)) lY))):=⟨W0⟩
def W4{r:R2}(hr:ur X r)(ha:LE X a ta)(hb:PE X b tb)(hs:Ep b):LE X (.Subscript a b pos) (kU r ta tb):=⟨aM hr ha.h hb hs⟩
def W5(he:LE X e te)(hg:PG X tg g)(hs:swapsWithSole [tg] e pos.line X.env=pure false:=by rfl)(hw:swappedStores [tg] e X.env=pure none:=by rfl)
  (h1:(assignEach [tg] X.env).map (·.2)=[assign tg X.env]:=by rfl):LS X (.Assign [tg] e pos) (xl te g):=⟨rH he.h hg hs hw h1⟩
def W6{dZ:Stmt}{ts tr:TS}(h:LS X st ts)(hr:gk X (dZ::rest) tr):MB X (st::dZ::rest) (Kx ts tr):=⟨ar h.h hr⟩
end
section
variable{P:Program}{w:World}{K:Frag}{mg:Str->Option Value}{base:Heap}
def aX.W7{k:Nat}(F:aX K x qual st f fd)(S:bg N ps (aV st))(len:∀vs H Q E,sp vs H Q E->vs.length=ps.length)
  (nQ:∀(aH:Value) (A:Around) (outer:List Env) (s:Shared) (H:Hp) (vs:List V) (Q:VK) (E:XK),cz k (A.deeper (envOfC qual (aV st) s.heap.objs.size f aH))->sp vs H Q E->
   ∃t,MB (nP aR P w K mg base N qual (aV st) f aH A outer s H E).pw (kb st) t/\t { nx:=λ_ H'=>Q .aB H',rt:=Q } (start N vs) H):aO P w K mg base aR (k+1) f fd ps sp:=
 F.ok S len λaH A outer s H vs Q E hr h=>let ⟨t,a,q⟩:=nQ aH A outer s H vs Q E hr h;⟨t,a.h,q⟩
end
def sF(q f a:Addr):Heap->Prop:=λh=>h.get? q=some (methodObj (.ref f) (.ref a))
def W8{q:Addr}(e:h.get? q=some (methodObj (.ref f) (.ref a))):c5 P w H h q (.ext (sF q f a)):=⟨e,⟨_,e⟩,λ_ _ x k=>k _ x⟩
structure MC(K:Frag)(f:Addr):Prop where
 gf:specialIn K (.ref f) "__get__"=some (some (.builtin "function.__get__"))
 tk:takesIn K (.ref f)=some false
section
variable{X:Cx}{pins:List (Addr×Obj)}{O:St}{H:Hp}{s:Shared}{a C dx g q l:Addr}{fs:List (Str×V)}{m:Str}{A:Around}{E:Value->Shared->Prop}
def W9(I:Inv X pins O H s)(e:H a=some (.ins C dx fs))(c:cD X.K C)(k:Meth X.K C m g)(b:MC X.K g)(hc:PySem.W.copiedNames.contains m=false)(hl:fs.lookup m=none)
  (h:∀q s',H q=none->Inv X pins O (upd H q (.ext (sF q g a))) s'->Q (.ref q) s'):wpAny (model X.prog X.w) A (getAttr (.ref a) m expr) Q E s:=by
 obtain⟨mA,σ,r,_,_,_⟩:=xx I.aD e
 have hn:mA m=none:=fM.none_of (by rw[<-hl];exact r m)
 obtain⟨od,J,n0⟩:=σ.look
 have hp:=JN (c.get m)
 refine PySem.W.get_bind I.c6 J hp.1 (PySem.W.findObj_fn c.hd k.at_ b.gf b.tk hc (by rw[n0,hn])) hp.2 (zS (PySem.W.fn_get (s:={ s with toks:=s.toks+1 }) I.c6 (nv.mp k.fn) (PySem.W.handed_on rfl ?_)))
 exact h s.heap.objs.size _ I.fresh (I.laid (t':=s.toks+1) (λ_ _ z=>bL _ z) (aW _) (W8 (cI _ rfl)))
theorem MD:∀{vs:List Value}{ns:List Int},Vals (ns.map V.int) vs->IntsAre vs ns
 |_,[],.nil=>.nil
 |_,n::_,.cons h t=>by
  obtain⟨t',rfl⟩:=h
  exact .cons n t' (MD t)
theorem ME{kz:Str->Int}:∀{ss:List Str}{vs:List Value}{ps:List (Int×Value)},Vals (ss.map V.str) vs->(∀p∈ps,p∈(ss.map kz).zip vs)->∃ts:List Str,Vals (ts.map V.str) (ps.map Prod.snd)/\ts.map kz=ps.map Prod.fst
 |_,_,[],_,_=>⟨[],.nil,rfl⟩
 |ss,vs,p::r,hv,h=>by
  obtain⟨ts,h1,h2⟩:=ME (ps:=r) hv λq hq=>h q (bX _ hq)
  obtain⟨i,hi⟩:=eQ (h p bt)
  rw[List.getElem?_zip_eq_some] at hi
  obtain⟨e1,e2⟩:=hi
  rw[bE] at e1
  cases es:ss[i]? with
  |none=>rw[es] at e1;cases e1
  |some x=>
   rw[es] at e1
   have e1:kz x=p.1:=cQ e1
   obtain⟨u,hu,ru⟩:=hv.get (i:=i) (x:=V.str x) (by rw[bE,es];rfl)
   rw[e2] at hu
   cases hu
   exact⟨x::ts,.cons ru h1,by rw[bI,bI,h2,e1]⟩
theorem MF:∀{ss ts:List Str},ss.map V.str=ts.map V.str->ss=ts
 |[],[],_=>rfl
 |[],_::_,h=>by cases h
 |_::_,[],h=>by cases h
 |x::r,y::t,h=>by
  rw[bI,bI] at h
  obtain⟨h1,h2⟩:=List.cons.inj h
  cases h1
  rw[MF h2]
def Xa(h:Vals (ss.map V.str) vs)(p:us.Perm vs):∃ts:List Str,Vals (ts.map V.str) us/\ts.Perm ss:=by
 induction p generalizing ss with
 |nil=>exact⟨ss,h,List.Perm.refl _⟩
 |cons x _ ih=>
  cases ss with
  |nil=>cases h
  |cons y r=>
   cases h with
   |cons h1 h2=>
    obtain⟨ts,a,b⟩:=ih h2
    exact⟨y::ts,.cons h1 a,b.cons y⟩
 |swap x y l=>
  match ss,h with
  |u::v::r,.cons h1 (.cons h2 h3)=>exact⟨v::u::r,.cons h2 (.cons h1 h3),List.Perm.swap ..⟩
 |trans _ _ Xb Xc=>
  obtain⟨ts,a,b⟩:=Xc h
  obtain⟨us,c,d⟩:=Xb a
  exact⟨us,c,d.trans b⟩
def Xd{k:Nat}{Q:VK}(F:aO X.prog X.w X.K X.mg X.base aR k f fd ps sp)(hr:cz k A)(he:kY X.prog X.w X.K X.mg X.base A X.stack s H)(hb:Binds X.K fd ps [])(I:Inv X pins O H s)(hq:H q=some (.ext (sF q f a)))
  (rv:RelV v u) (h:sp [.ref a,v] H Q E0):wpAny (model X.prog X.w) A (call (.ref q) [u]) (EP X pins O Q) (λ_ _=>False) s:=by
 have hm:sF q f a s.heap:=(I.aD q _ hq).1
 have hl:([.ref a,u]++([]:List Value)).length=ps.length:=(F.len _ _ _ _ h)
 refine zS (ks_codeAny_call_bound hm ?_)
 refine wI (F.run A X.stack s H ⟨[.ref a,u],[]⟩ [.ref a,u] [.ref a,v] Q E0 hr he (hb s [.ref a,u] I.c6 hl) (.cons rfl (.cons rv .nil)) h) λr s' z=>?_
 cases r with
 |error e=>exact z
 |ok fl=>
  cases fl with
  |ret w'=>exact I.after z
  |next=>exact False.elim z
  |brk=>exact False.elim z
  |cont=>exact False.elim z
theorem sorted_out(hv:Vals (ss.map V.str) vs)(h:KskOut true (ss.map kz) vs out):∃ts:List Str,Vals (ts.map V.str) out/\ts.Perm ss/\ts.Pairwise λx y=>kz y<=kz x:=by
 obtain⟨ps,hp,rfl,ho⟩:=h
 obtain⟨ts,h1,h2⟩:=ME (kz:=kz) hv λp hm=>hp.mem_iff.mp hm
 have hl:ss.length=vs.length:=by rw[<-hv.length,av]
 have ke:(ps.map Prod.snd).Perm vs:=by
  have:=hp.map Prod.snd
  rw[List.map_snd_zip (by rw[av];lia)] at this
  exact this
 obtain⟨c8,h3,h4⟩:=Xa hv ke
 have e:ts=c8:=MF (Vals.inj h1 h3)
 subst e
 refine⟨ts,h1,h4,?_⟩
 have h5:(ps.map Prod.fst).Pairwise (λx y:Int=>y<=x):=by
  rw[List.pairwise_map]
  exact ho.imp λ{a b} z=>by simpa using z
 rw[<-h2,List.pairwise_map] at h5
 exact h5
theorem Xe{k:Nat}(I:Inv X pins O H s)(hq:H q=some (.ext (sF q f a)))(F:aO X.prog X.w X.K X.mg X.base aR k f fd ps sp)(hr:cz (k+2) X.A)(hb:Binds X.K fd ps [])
  (hl:ai X.K H l (ss.map V.str)) (dk:ss.length<64) (turn:∀x∈ss,∀H3,af H H3->∀Q':VK,(∀H4,af H3 H4->Q' (.int (kz x)) H4)->sp [.ref a,.str x] H3 Q' E0)
  (fin:∀(p:Addr) (out:List Str) (H5:Hp) (s':Shared),H p=none->af H H5->H5 p=some (.lst (out.map V.str))->out.Perm ss->(out.Pairwise λx y=>kz y<=kz x)->Inv X pins O H5 s'->Q (.ref p) s') :
  wpAny (model X.prog X.w) X.A (call (.builtin "sorted") [.ref l] [(Str.ofString "key",.ref q),(Str.ofString "reverse",.bool true)]) Q E s:=by
 obtain⟨its,rv,pl,hz⟩:=I.list hl
 have hL:=pl.isList
 have hlen:its.length=ss.length:=by rw[<-rv.length,av]
 have uN:(64:Nat)<=sizeLine:=by decide
 refine call_function_entry_kw kind_sorted plain_sorted entry_sorted (ksk_s2 _ _ _) ?_
 unfold Builtin.«sorted»
 refine aj (m:=checkCount "sorted" 1 1 _) (aY ?_)
 refine aj (collect_list hL ?_ (by lia))
 refine aj (wpAny_newList ?_ (by lia))
 generalize Fv:(s.heap.push (seqObj "list" #[] 0)).update s.heap.objs.size (Obj.mapSeq (· ++ its.toArray))=g1
 have z1:g1.objs.size=s.heap.objs.size+1:=by rw[<-Fv,Heap.size_update,qZ]
 have k1:∀b o,s.heap.get? b=some o->g1.get? b=some o:=λb o e=>by
  have aT:=bS e
  rw[<-Fv,J1 _ _ _ _ (bZ aT),Heap.get?_push_ne _ _ _ (bZ aT)]
  exact e
 show wpAny _ _ _ _ _ { s with heap:=g1.push (seqObj "list" its.toArray 0) }
 have jE:(g1.push (seqObj "list" its.toArray 0)).get? (s.heap.objs.size+1)=some (seqObj "list" its.toArray 0):=by
  have:(g1.push (seqObj "list" its.toArray 0)).get? g1.objs.size=some (seqObj "list" its.toArray 0):=cI _ rfl
  rwa [z1] at this
 have k2:∀b o,s.heap.get? b=some o->(g1.push (seqObj "list" its.toArray 0)).get? b=some o:=λb o e=>bL _ (k1 b o e)
 have z2:(g1.push (seqObj "list" its.toArray 0)).objs.size=s.heap.objs.size+2:=by rw[qZ,z1]
 rw[show(Value.ref g1.objs.size) = .ref (s.heap.objs.size+1) by rw[z1]]
 generalize g1.push (seqObj "list" its.toArray 0)=g2 at jE k2 z2
 generalize xE:s.heap.objs.size+1=b at jE
 have mj:s.heap.objs.size<=b:=by rw[<-xE];exact ir _
 clear Fv z1 k1
 refine aj (kJ (wpAny_call_entry_kw slot_list_sort ⟨_,jE,rfl⟩ entry_list_sort ?body (ksk_l2 _ _ _)))
 case body=>
  rw[ksk_t2]
  unfold ksk_tree
  refine aj (listItems_at jE rfl ?_)
  refine aj (listUpdate_at jE rfl ?_ (by rw[bp];lia) (bu _))
  obtain⟨e1,uO⟩:∃e1,(g2.update b (Obj.mapSeq λ_=>(#[]:Array Value))).get? b=some (seqObj "list" #[] e1):=⟨_,get?_update_seq jE λ_=>#[]⟩
  have k3:∀c o,s.heap.get? c=some o->(g2.update b (Obj.mapSeq λ_=>(#[]:Array Value))).get? c=some o:=λc o e=>by
   have aT:=bS e
   rw[J1 _ _ _ _ (bZ (by rw[<-xE];exact nB aT))]
   exact k2 c o e
  have z3:(g2.update b (Obj.mapSeq λ_=>(#[]:Array Value))).objs.size=s.heap.objs.size+2:=by rw[Heap.size_update,z2]
  show wpAny _ _ _ _ _ { s with heap:=g2.update b (Obj.mapSeq λ_=>(#[]:Array Value)) }
  generalize g2.update b (Obj.mapSeq λ_=>(#[]:Array Value))=g3 at uO k3 z3
  refine aj (seqEpoch_at uO rfl ?_)
  refine aj (wpAny_newTuple ?_ (by show its.length<=_;lia))
  refine aj (wpAny_newList ?_ (bu _))
  refine kJ ?_
  have z4:(g3.push { cls := .type "tuple",data := .seq its.toArray }).objs.size=s.heap.objs.size+3:=by rw[qZ,z3]
  have Fw:((g3.push { cls := .type "tuple",data := .seq its.toArray }).push { cls := .type "list",data := .seq ([]:List Value).toArray }).get? (s.heap.objs.size+3)=some (seqObj "list" #[] 0):=by
   have:((g3.push { cls := .type "tuple",data := .seq its.toArray }).push { cls := .type "list",data := .seq ([]:List Value).toArray }).get? (g3.push { cls := .type "tuple",data := .seq its.toArray }).objs.size=some (seqObj "list" #[] 0):=cI _ rfl
   rwa [z4] at this
  have k5:∀c o,g3.get? c=some o->((g3.push { cls := .type "tuple",data := .seq its.toArray }).push { cls := .type "list",data := .seq ([]:List Value).toArray }).get? c=some o:=λc o e=>bL _ (bL _ e)
  show wpAny _ _ (ksk_rest b (.ref q) true its.toArray e1 (.ref (g3.push { cls := .type "tuple",data := .seq its.toArray }).objs.size)) _ _ { s with heap:=(g3.push { cls := .type "tuple",data := .seq its.toArray }).push { cls := .type "list",data := .seq ([]:List Value).toArray } }
  rw[z4]
  have MG:=k5 _ _ uO
  have I5:Inv X pins O H { s with heap:=(g3.push { cls := .type "tuple",data := .seq its.toArray }).push { cls := .type "list",data := .seq ([]:List Value).toArray } }:=I.kept (t':=s.toks) λc o e=>k5 c o (k3 c o e)
  have Fx:H b=none:=I.aD.fresh mj
  have MH:H (s.heap.objs.size+3)=none:=I.aD.fresh (Ac _ _)
  have fb:∀{H':Hp},H' b=none->fw X pins H' b:=λh=>I.j5 mj h
  have fk:∀{H':Hp},H' (s.heap.objs.size+3)=none->fw X pins H' (s.heap.objs.size+3):=λh=>I.j5 (Ac _ _) h
  have pR:b≠s.heap.objs.size+3:=by rw[<-xE];exact bZ (nB (qS _))
  generalize (g3.push { cls := .type "tuple",data := .seq its.toArray }).push { cls := .type "list",data := .seq ([]:List Value).toArray }=g5 at Fw MG I5
  clear z4 k5 k3 z3 k2 z2 uO
  generalize s.heap.objs.size+3=kS at Fw MH fk pR
  have MI:∀{H':Hp}{s':Shared}{ok:Obj},Inv X pins O H' s'->H' b=none->H' kS=none->s'.heap.get? b=some (seqObj "list" #[] e1)->s'.heap.get? kS=some ok->(∀v,ok.data ≠ .cell v)->Inv X (pins++[(b,seqObj "list" #[] e1),(kS,ok)]) O H' s':=λJ nb nk eb ek hd=>
   J.Ak λp hp=>(cV.mp hp).elim (λz=>J.pin p (jt _ z)) λz=>by
    rcases cf.mp z with z | z
    .subst z
     exact⟨eb,nb,(fb nb).2.1,(fb nb).2.2.1,λv z=>nomatch z⟩
    .have z:=cj.mp z
     subst z
     exact⟨ek,nk,(fk nk).2.1,(fk nk).2.2.1,hd⟩
  have MJ:∀{H':Hp}{s':Shared}{l2:List (Addr×Obj)},Inv X (pins++l2) O H' s'->Inv X pins O H' s':=λJ=>J.uj
  unfold ksk_rest
  refine aj (t9 ?_)
  rw[List.forIn_toArray]
  refine aj (ksk_fold (λi s' =>∃(H':Hp) (kA:Array Value) (e:Nat),Inv X (pins++[(b,seqObj "list" #[] e1),(kS,seqObj "list" kA e)]) O H' s'/\af H H'/\Vals (((ss.take i).map kz).map V.int) kA.toList) its 0 _
   ⟨H,#[],0,MI I5 Fx MH MG Fw (λv z=>nomatch z),af.refl _,by rw[rb];exact .nil⟩ ?step ?done)
  case step=>
   rintro j x s' hx ⟨H',kA,e,J,sm,hk⟩
   rw[wX] at hk ⊢
   have hj:j<ss.length:=by rw[<-hlen];exact(cg.mp hx).1
   obtain⟨y,hy⟩:∃y,ss[j]? = some y:=⟨_,bb hj⟩
   obtain⟨u,hu,ru⟩:=rv.get (i:=j) (x:=V.str y) (by rw[bE,hy];rfl)
   rw[hx] at hu
   cases hu
   have x9:cz k X.A.in1.in1:=hr.in1.in1
   refine aj (zZ (jV (Xd (Q:=λv H4=>v = .int (kz y)/\af H' H4) F x9 J.Eh.in1.in1 hb J (sm _ _ hq) ru (turn y (bj hy) H' sm _ λH4 s4=>⟨rfl,s4⟩)) (λv s2 he=>?_) λ_ _ hF=>hF.elim))
   obtain⟨v',H4,J4,r4,rfl,s4⟩:=he
   obtain⟨t4,rfl⟩:=r4
   dsimp only
   have pb:=J4.pin (b,seqObj "list" #[] e1) (by simp)
   have pk:=J4.pin (kS,seqObj "list" kA e) (by simp)
   have i6:kA.size<=64:=by
    have h1:=hk.length
    have h2:kA.toList.length=kA.size:=nt
    rw[av,av,kL] at h1
    lia
   refine aj (listUpdate_at pk.1 rfl ?_ (by lia) (by rw[Array.size_push];lia))
   have ek:(s2.heap.update kS (Obj.mapSeq (·.push (.int (kz y) t4)))).get? kS=some (seqObj "list" (kA.push (.int (kz y) t4)) _):=get?_update_seq pk.1 (·.push (.int (kz y) t4))
   have eb:(s2.heap.update kS (Obj.mapSeq (·.push (.int (kz y) t4)))).get? b=some (seqObj "list" #[] e1):=by
    rw[J1 _ _ _ _ pR]
    exact pb.1
   have Bn:=fk pk.2.1
   have J5:Inv X pins O H4 { s2 with heap:=s2.heap.update kS (Obj.mapSeq (·.push (.int (kz y) t4))) }:=(MJ J4).turned (t':=s2.toks) (it:=kS) (λc o hc e=>by rw[J1 _ _ _ _ hc];exact e) pk.2.1 Bn.2.1 Bn.2.2.2.1 Bn.2.2.2.2.1 Bn.2.2.2.2.2
   refine aY ⟨rfl,H4,_,_,MI J5 pb.2.1 pk.2.1 eb ek (λv z=>nomatch z),sm.trans s4,?_⟩
   rw[fL,hy,dF,dF,Array.toList_push]
   exact hk.append (.cons ⟨t4,rfl⟩ .nil)
  case done=>
   rintro s' ⟨H',kA,e,J,sm,hk⟩
   rw[wX,hlen,fq (aW _)] at hk
   have pb:=J.pin (b,seqObj "list" #[] e1) (by simp)
   have pk:=J.pin (kS,seqObj "list" kA e) (by simp)
   refine aj (listItems_at pk.1 rfl ?_)
   obtain⟨mL,MK,_⟩:=id J.loc
   have Xf:=(fb pb.2.1).2.1
   have Xg:=(fk pk.2.1).2.1
   have Xh:∀{c:Addr}{o:Obj},c≠X.env.locals->c≠kS->c≠b->s'.heap.get? c=some o->(c,o)∈(ka.ledger s'.heap X.env.locals kS).filter λp=>decide (p.1≠b):=λh1 h2 h3 h4=>cy.mpr ⟨ka.EI.mpr ⟨h1,h2,h4⟩,aJ h3⟩
   refine ksk_end_ (h₀:=ka.AO s'.heap) (L:=X.env.locals) (m:=mL) (news:=(ka.ledger s'.heap X.env.locals kS).filter λp=>decide (p.1≠b)) (e:=e) (kz:=ss.map kz) (ka.Vb MK) (λp hp=>?_) (br pR) (λp hp=>?_) (λp hp=>?_) (MD hk) (by rw[av,hlen]) (by lia) λh' tk out c ML N' ko=>?_
   .rcases cV.mp hp with hp | hp
    .obtain⟨h1,_⟩:=cy.mp hp
     obtain⟨n1,n2,h3⟩:=ka.EI.mp h1
     exact⟨h3,n1,ka.AQ _ _⟩
    .rcases cf.mp hp with z | z
     .subst z
      exact⟨pk.1,Xg,ka.AQ _ _⟩
     .have z:=cj.mp z
      subst z
      exact⟨pb.1,Xf,ka.AQ _ _⟩
   .exact(ka.EI.mp (cy.mp hp).1).2.1
   .exact fK (cy.mp hp).2
   .obtain⟨ts,v1,v2,v3⟩:=sorted_out rv ko
    have pO:h'.get? b=some (seqObj "list" out c):=(N' (b,seqObj "list" out c) bt).1
    have kp:∀{x:Addr}{o:Obj},x≠X.env.locals->x≠kS->x≠b->s'.heap.get? x=some o->h'.get? x=some o:=λh1 h2 h3 h4=>(N' _ (bX _ (Xh h1 h2 h3 h4))).1
    have tl:∀x u,H' x=some u->x≠X.env.locals/\x≠kS/\x≠b:=λx u z=>⟨λy=>(by rw[y,J.free] at z;cases z),λy=>(by rw[y,pk.2.1] at z;cases z),λy=>(by rw[y,pb.2.1] at z;cases z)⟩
    have FB:=fb pb.2.1
    have FK:=fk pk.2.1
    have pI:(ts.map V.str).length<=sizeLine:=by rw[av,v2.length_eq];lia
    have J6:Inv X pins O (upd H' b (.lst (ts.map V.str))) { s' with heap:=h',toks:=tk }:=by
     refine(MJ J).step (g':=s'.gens) (d':=s'.drawn) (ch:=[kS,b]) (λx hx=>?_) (λx o n1 _ hc e _=>kp n1 (λz=>hc (by simp[z])) (λz=>hc (by simp[z])) e) (λx o n1 _ hc e _=>⟨o.slots,kp n1 (λz=>hc (by simp[z])) (λz=>hc (by simp[z])) e⟩)
      (λx o hc _ n=>by rw[ak (λz=>hc (by simp[z]))];exact n) (λx o hc e=>?_) (λx xs z=>by rw[ak (tl x _ z).2.2];exact z) (λx o u z=>by rw[ak (tl x _ z).2.2];exact z) (λx ps z=>⟨#[],by rw[ak (tl x _ z).2.2,z];simp⟩) (λm' Xi=>?_) (λx u z=>?_) J.bare
     .have hx:x=kS\/x=b:=by simpa using hx
      rcases hx with rfl | rfl
      .exact⟨FK.2.2.2.1,FK.2.1,FK.2.2.2.2.1,FK.2.2.2.2.2⟩
      .exact⟨FB.2.2.2.1,FB.2.1,FB.2.2.2.2.1,FB.2.2.2.2.2⟩
     .by_cases y:x=X.env.locals
      .obtain⟨oL,_,_,eL,_⟩:=ML.ns
       exact⟨oL,by rw[y];exact eL⟩
      .exact⟨o,kp y (λz=>hc (by simp[z])) (λz=>hc (by simp[z])) e⟩
     .have:m'=mL:=funext λnm=>Xi.agree MK nm
      rw[this]
      exact ML.ns
     .by_cases y:x=b
      .subst y
       rw[ao] at z
       cases z
       exact⟨pI,out.toList,c,v1,by rw[Array.toArray_toList];exact pO⟩
      .rw[ak y] at z
       obtain⟨n1,n2,n3⟩:=tl x u z
       refine(J.aD x u z).kO (λd v hd e=>?_) (λdd e=>by rw[ak (tl dd _ e).2.2];exact e) λdd u' e=>by rw[ak (tl dd _ e).2.2];exact e
       rcases hd with rfl | hd
       .exact kp n1 n2 n3 e
       .obtain⟨m1,m2,m3⟩:=tl d _ hd
        exact kp m1 m2 m3 e
    refine⟨_,rfl,?_⟩
    exact aY ⟨_,rfl,fin b ts _ _ Fx (λx o z=>by rw[ak (λy=>by rw[y,Fx] at z;cases z)];exact sm x o z) ao v2 v3 J6⟩
end
section
variable{X:Cx}{K:Frag}{C g:Addr}{m:Str}{o e:Expr}{to tl:TE}{sp:Sp}{k:Nat}{p pos ap Xj Xk cp:Pos}{ck:Nat}
structure Fy(K:Frag)(C:Addr)(m:Str):Prop where
 ex:∃f,findIn K (.ref C) m=some (some (.ref f))/\MC K f
 nm:PySem.W.copiedNames.contains m=false
def Fz(K:Frag)(C:Addr)(m:Str)(sp:Sp)(to:TE)(O:St)(Q:VK)(x:V)(H1:Hp):Prop:=to O H1 λy H2=>∃(l:Addr) (ss:List Str) (a dx:Addr) (fs:List (Str×V)) (kz:Str->Int),x = .ref l/\y = .ref a/\ai K H2 l (ss.map V.str)/\ss.length<64/\H2 a=some (.ins C dx fs)/\fs.lookup m=none/\
 (∀x∈ss,∀H3,af H2 H3->∀Q':VK,(∀H4,af H3 H4->Q' (.int (kz x)) H4)->sp [.ref a,.str x] H3 Q' E0)/\
 ∀(p:Addr) (out:List Str) (H5:Hp),H2 p=none->af H2 H5->H5 p=some (.lst (out.map V.str))->out.Perm ss->(out.Pairwise λx y=>kz y<=kz x)->Q (.ref p) H5
def Xl(K:Frag)(C:Addr)(m:Str)(sp:Sp)(tl to:TE):TE:=λO H Q=>tl O H (Fz K C m sp to O Q)
def Xm(k:V->Hp->Prop):List V->Hp->Prop
 |[x],H=>k x H
 |_,_=>False
def Xn(hK:X.K=K)(M:Mt X.prog X.w X.K X.mg X.base C m k sp [])(hM:Fy X.K C m)(hr:cz (k+2) X.A)(hg:Gl X "sorted")(hm:X.mg "sorted"=none)(hv:bootBuiltins "sorted"=some (.builtin "sorted"))(ha:PA X [e] (pF tl lY))(ho:PE X o to)
  (hb:attributeBase o m X.env (eval o X.env)=eval o X.env) (he:backTo pos (starEach [e] X.env)=(false,eval e X.env)::backTo pos (starEach [] X.env):=by rfl) (hp:(backTo pos (starEach [e] X.env)).any (·.1)=false:=by rfl) :
  PE X (.Call (.Name "sorted" p) [e] [⟨some "key",.Attribute o m ap,Xj⟩,⟨some "reverse",.Constant (.bool true) ck cp,Xk⟩] pos) (Xl K C m sp tl to):=by
 subst hK
 intro pins s O H Q I h
 obtain⟨f,fd,ps,ds,mt,F,bn,vd⟩:=M.ex
 cases vd
 obtain⟨f',Xo,bd⟩:=hM.ex
 have ef:f'=f:=by
  have:=Xo.symm.trans mt.at_
  injection this with this
  injection this with this
  injection this with this
 subst ef
 refine wJ (ph I hg hm hv ?_ (by decide) (by decide))
 have h':pF tl lY O H (Xm (Fz X.K C m sp to O Q)):=h
 refine callWith_kw (aE (ha pos pins s O H _ I h') λus s1 ⟨vs,H1,I1,r1,q1⟩=>?_) he hp
 obtain⟨x,rfl,q1⟩:∃x,vs=[x]/\Fz X.K C m sp to O Q x H1:=by
  match vs,q1 with
  |[x],q1=>exact⟨x,rfl,q1⟩
 obtain⟨u,rfl,ru⟩:∃u,us=[u]/\RelV _ u:=vals1 r1
 refine kws_cons (KZ hb (aE (ho pins s1 O H1 _ I1 q1) λw' s2 ⟨y,H2,I2,ry,q2⟩=>?_))
 obtain⟨l,ss,a,dx,fs,kz,rfl,rfl,hl,dk,ml,n0,turn,fin⟩:=q2
 cases ru
 cases ry
 refine W9 I2 ml M.cl mt bd hM.nm n0 λq s3 hq I3=>?_
 have sq:=af.upd (o:=HO.ext (sF q f' a)) hq
 refine kws_cons (aE (dR pins s3 O _ (λv H'=>v = .bl true/\H'=upd H2 q (.ext (sF q f' a))) I3 ⟨rfl,rfl⟩) λb s4 ⟨v4,H4,I4,r4,e4,e5⟩=>?_)
 subst e4 e5
 cases r4
 refine kws_nil ?_
 refine Xe (a:=a) (q:=q) I4 ao F hr bn (sq.seq hl) dk (λx mx H3 s3=>turn x mx H3 (sq.trans s3)) λp out H5 s5 hp s6 h5 h6 h7 I5=>?_
 exact⟨.ref p,H5,I5,rfl,fin p out H5 (sq.free hp) (sq.trans s6) h5 h6 h7⟩
end
def Xp:typeLookup (.type "list") "keys"=pure none:=am_miss_of_fast (by kernel_rfl)
def Bo:plainId "dict.update.loop"=true:=by decide +kernel
def MM:entryFor table "dict.update.loop"=some Builtin.«dict.update.loop»:=entryFor_of_fast (by kernel_rfl)
section
variable{prog:Program}{w:World}{A:Around}{E:Value->Shared->Prop}{s:Shared}
def Xq{xs:Array Value}{k:Nat}{Q:Option Value->Shared->Prop}(hx:s.heap.get? a=some { cls := .type "list",data := .seq xs k })(hA:A.handled=none)
  (h:∀h' tk,(∀b o,s.heap.get? b=some o->h'.get? b=some o)->Q none { s with heap:=h',toks:=tk }):wpAny (model prog w) A (getAttr? (.ref a) "keys") Q E s:=by
 obtain⟨hp,g,d,tk,os⟩:=s
 have hT:∀n,(⟨hp,g,d,n,os⟩:Shared).TypeIs (.ref a) "list":=λ_=>⟨_,hx,rfl⟩
 have g1:=sub_AttributeError
 have g2:=Se.lookup;have g3:=Se.bind (.ref a);have g4:=am_list_getattr_none
 unfold getAttr? getAttrBy? getAttrBy
 repeat (any_goals (first | assumption | exact hT _ | ((with_reducible show wpAny _ _ (call (Value.builtin "list.__getattribute__") _ _) _ _ _);refine call_meets Se (hT _) am_entry_list_getattribute (F.args_list_getattribute_2 _ _) (meets_getattribute_miss_list a xs k _ "keys" _ Xp (by decide +kernel) (by decide)) ⟨hx,hA,λh' n e hn=>?_⟩) | wp_step))
 obtain⟨t',u',he⟩:=hn.there
 show wpAny _ _ (getattributeRaised _ _ _ _ _ _ _) _ _ _
 unfold getattributeRaised
 repeat (any_goals (first | assumption | wp_step))
 exact h _ _ hn.keeps
end
section
variable{prog:Program}{w:World}{A:Around}{R:Result->Shared->Prop}{I:Addr}{fp wr:List Addr}{n:Nat}{P:Nat->Value->Prop}{St:Nat->Heap->Prop}{KK:Type}[DecidableEq KK]{knd:KeyKind prog w KK}
theorem Xr(W:Walks prog w A.in1 I fp wr n P St)(D:Addr)(MN:D∉fp)(ks:Nat->KK)(ky vl:Nat->Value)(tt:Nat->Addr)(hP:∀i v,P i v->v = .ref (tt i))(hk:∀i,i<n->knd.is (ks i) (ky i)=true)(ht:∀i,i<n->tt i∉wr/\tt i≠D)
  (L:Nat->List (KK×Value)) (hL:∀i,i<n->L (i+1)=stored (L i) (ks i) (vl i)) (hz:∀i,i<=n->(L i).length<=sizeLine) :
  ∀(k i:Nat) (s:Shared) (it:Tok),n - i=k->i<=n->St i s.heap->s.heap.DictOf knd D (L i)->(∀i,i<n->∃o c,s.heap.get? (tt i)=some o/\o.cls = .type "tuple"/\o.data = .seq #[ky i,vl i] c)->
  (∀h' tk,(∀b o,b∉wr->b≠D->s.heap.get? b=some o->h'.get? b=some o)->h'.DictOf knd D (L n)->R (.ok (.ret .none)) { s with heap:=h',toks:=tk })->
  codeAny (model prog w) A (.builtin "dict.update.loop" ⟨[.ref D,.ref I,.int i it,.none],[]⟩) R s:=by
 have MO:D∉wr:=λh=>MN (W.sub _ h)
 intro k
 induction k with
 |zero=>
  intro i s it Xt hi dI hD FA hR
  have bD:i=n:=by lia
  subst bD
  refine rf MM ?_
  rw[ua Bo _]
  show wpAny _ A.in1 (pyNext (.ref I) >>= _) _ _ s
  refine aj (W.done s _ _ dI λh' tk gV=>?_)
  obtain⟨o,es,ep,ho,r⟩:=hD
  show wpAny _ A.in1 (Builtin.Dict.addKeywords D [] >>= _) _ _ _
  exact aj (aY (aY (hR h' tk (λb o hb _ e=>gV b o hb e) ⟨o,es,ep,gV D o MO ho,r⟩)))
 |succ k ih=>
  intro i s it Xt hi dI hD FA hR
  have aT:i<n:=by lia
  refine rf MM ?_
  rw[ua Bo _]
  show wpAny _ A.in1 (pyNext (.ref I) >>= _) _ _ s
  refine aj (W.item i s _ _ aT dI λv h' tk hv pS gV=>?_)
  have uP:h'.DictOf knd D (L i):=by
   obtain⟨o,es,ep,ho,r⟩:=hD
   exact⟨o,es,ep,gV D o MO ho,r⟩
  rw[hP i v hv]
  obtain⟨oT,cT,FC,sG,Xu⟩:=FA i aT
  have MP:=gV _ _ (ht i aT).1 FC
  show wpAny _ A.in1 (holding _ _ >>= _) _ _ _
  refine aj (kJ (aj (DR ?_)))
  unfold Builtin.Dict.pairItems
  refine aj (wpAny_typeOf (s:={ s with heap:=h',toks:=tk }) ⟨_,MP,sG⟩ ?_)
  rw[aA (by decide)]
  unfold seqItems?
  refine aj (aj (wpAny_load (s:={ s with heap:=h',toks:=tk }) MP ?_))
  rw[Xu]
  refine aY (aY ?_)
  refine kJ (wpAny_dictSet_pairs (s:={ s with heap:=h',toks:=tk }) (hk i aT) uP (λh2 hd2 sH=>?_) (hz i (zO aT)))
  rw[<-hL i aT] at hd2
  refine aY ⟨ub Bo _,ih (i+1) _ _ (by lia) aT (W.frame _ _ _ pS λb hb o e=>?_) hd2 (λj hj=>?_) λh3 ya gw i7=>?_⟩
  .exact sH.extBut b o (λz=>MN (z ▸ hb)) e
  .obtain⟨o,c,h1,h2,h3⟩:=FA j hj
   exact⟨o,c,sH.extBut _ _ (ht j hj).2 (gV _ _ (ht j hj).1 h1),h2,h3⟩
  .exact hR h3 ya (λb o mn yb e=>gw b o mn yb (sH.extBut b o yb (gV b o mn e))) i7
end
section
variable{prog:Program}{w:World}{A:Around}{E:Value->Shared->Prop}{s:Shared}
def Xv{l:Addr}{xs:Array Value}{k:Nat}(hx:s.heap.get? l=some { cls := .type "list",data := .seq xs k })(hA:A.handled=none)
  (h:∀h' tk,(∀b o,s.heap.get? b=some o->h'.get? b=some o)->h'.get? s.heap.objs.size=some { cls := .type "dict",data := .dict #[] }->wpAny (model prog w) A.in1.in1 (pyIter (.ref l)) (λit s1=>codeAny (model prog w) A.in1 (.builtin "dict.update.loop" ⟨[.ref s.heap.objs.size,it,rawInt 0,.none],[]⟩) (wants (λr s2=>r = .none/\Q (.ref s.heap.objs.size) s2) E) s1) E { s with heap:=h',toks:=tk }) :
  wpAny (model prog w) A (call (.type "dict") [.ref l]) Q E s:=by
 refine callType_codes (Q₁:=λobj s₁=>obj = .ref s.heap.objs.size/\s₁={ s with heap:=s.heap.push { cls := .type "dict",data := .dict #[] } }) F.kt_called_dict (F.kt_typeCall_dict_1 _) F.entry_dict_init (kt_code_dict_new _ ⟨rfl,rfl⟩) λobj s1 hq=>?_
 obtain⟨rfl,rfl⟩:=hq
 have AL:(s.heap.push { cls := .type "dict",data := .dict #[] }).get? s.heap.objs.size=some { cls := .type "dict",data := .dict #[] }:=cI _ rfl
 have hT:Shared.TypeIs { s with heap:=s.heap.push { cls := .type "dict",data := .dict #[] } } (.ref s.heap.objs.size) "dict":=⟨_,AL,rfl⟩
 have pT:(s.heap.push { cls := .type "dict",data := .dict #[] }).get? l=some { cls := .type "list",data := .seq xs k }:=bL _ hx
 refine⟨hT,F.args_dict_init_2 _ _,?_⟩
 unfold Builtin.«dict.__init__» Builtin.Dict.selfAndRest
 refine aj (aj (wpAny_notOrdered_dict hT ?_))
 show wpAny _ _ (pure (s.heap.objs.size,[Value.ref l])) _ _ _
 refine aY ?_
 show wpAny _ _ (Builtin.Dict.updateFrom "dict.__init__" s.heap.objs.size (.ref l) [] .none) _ _ _
 unfold Builtin.Dict.updateFrom
 refine aj (wpAny_typeOf (s:={ s with heap:=s.heap.push { cls := .type "dict",data := .dict #[] } }) ⟨_,pT,rfl⟩ ?_)
 rw[aA (by decide)]
 refine aj (Xq (s:={ s with heap:=s.heap.push { cls := .type "dict",data := .dict #[] } }) pT hA λh' tk kp=>?_)
 rw[aA (show(none:Option Value).isNone=true from rfl)]
 refine aj (t9 ?_)
 refine aj (jV (h h' tk (λb o e=>kp b o (bL _ e)) (kp _ _ AL)) (λit s1 z=>aY ⟨ub Bo _,z⟩) λ_ _ z=>z)
end
noncomputable def i8(ps:List (Str×V)):List (Key×V):=ps.foldl (λkvs p=>putK kvs (Sum.inr p.1) p.2) []
def MQ(ps:List (Str×V))(p:Str×V):i8 (ps++[p])=putK (i8 ps) (Sum.inr p.1) p.2:=by unfold i8;rw[List.foldl_append];rfl
noncomputable def strN(ks:Nat->Key)(vl:Nat->Value):Nat->List (Key×Value)
 |0=>[]
 |i+1=>stored (strN ks vl i) (ks i) (vl i)
theorem Xw(kvs:List (Key×Value))(k:Key)(v:Value):(stored kvs k v).length<=kvs.length+1:=by
 unfold stored
 split
 .rw[av];lia
 .rw[dE];exact aW _
theorem FD(ks:Nat->Key)(vl:Nat->Value):∀i,(strN ks vl i).length<=i
 |0=>aW _
 |i+1=>bQ (Xw _ _ _) (lS (FD ks vl i))
theorem MR{H:Hp}:∀{ts:List Addr}{ps:List (Str×V)},Paired (λt p=>H t=some (.tup [.str p.1,p.2])) ts ps->∀{i:Nat}{t:Addr},ts[i]? = some t->∃p,ps[i]? = some p/\H t=some (.tup [.str p.1,p.2])
 |_,_,.nil,_,_,h=>by cases h
 |_,_,.cons h1 h2,0,_,h=>⟨_,rfl,by cases h;exact h1⟩
 |_,_,.cons h1 h2,i+1,_,h=>MR h2 (i:=i) (by simpa using h)
theorem Xx(hc:X.calm=true):gn X (.type "dict") (λxs H Q=>∃(a:Addr) (ts:List Addr) (ps:List (Str×V)),xs=[.ref a]/\H a=some (.lst (ts.map V.ref))/\Paired (λt p=>H t=some (.tup [.str p.1,p.2])) ts ps/\ps.length<=10000/\
  ∀d,H d=none->Q (.ref d) (upd H d (.dK (i8 ps)))):=by
 intro pins s O H xs us Q I r h
 obtain⟨l,ts,ps,rfl,hl,hp,hn,q⟩:=h
 obtain⟨u,rfl,ru⟩:=vals1 r
 cases ru
 obtain⟨z,its,n,rv,hlen,e⟩:=I.pH hl
 have hh:X.A.handled=none:=I.ok.hd hc
 have i9:=fJ hp
 rw[av] at hlen
 have yc:l<s.heap.objs.size:=bS e
 have ex:∀i:Nat,∃kv:Value×Value,∀(t:Addr) (p:Str×V),ts[i]? = some t->ps[i]? = some p->(dH X.prog X.w).is (Sum.inr p.1) kv.1=true/\RelV p.2 kv.2/\IsTup s.heap t #[kv.1,kv.2]:=by
  intro i
  by_cases hi:i<ts.length
  .have e1:ts[i]? = some ts[i]:=bb hi
   have e2:ps[i]? = some ps[i]:=bb (by lia)
   obtain⟨p,fO,ht⟩:=MR hp e1
   obtain⟨Xy,FE,hT,_⟩:=I.tuple (aq.of ht)
   obtain⟨a1,a2,rfl,r1,r2⟩:=vals2 FE
   obtain⟨tk,rfl⟩:=r1
   refine⟨(.str p.1 tk,a2),λt p' h1 h2=>?_⟩
   rw[e1] at h1
   rw[fO] at h2
   cases h1
   cases h2
   exact⟨DX p.1 tk,r2,hT⟩
  .exact⟨(.none,.none),λt p h1=>by rw[cW (by lia)] at h1;cases h1⟩
 obtain⟨f,hf⟩:=Classical.axiomOfChoice ex
 refine Xv e hh λh' tk kp fP=>?_
 have e':=kp _ _ e
 have hD:h'.DictOf (dH X.prog X.w) s.heap.objs.size (strN (λi=>Sum.inr (ps.getD i (⟨#[]⟩,.aB)).1) (λi=>(f i).2) 0):=⟨_,#[],0,fP,⟨rfl,rfl,rfl⟩,rfl,(λe he=>by simp at he),.nil,iT⟩
 have yd:h'.IsList l its.toArray:=⟨_,e',rfl,n,rfl⟩
 refine wH (s:={ s with heap:=h',toks:=tk }) yd ?_
 have hsz:s.heap.objs.size<h'.objs.size:=bS fP
 have aT:l<h'.objs.size:=Nat.lt_trans yc hsz
 have gt:∀i,i<its.toArray.size->∃(t:Addr) (p:Str×V),ts[i]? = some t/\ps[i]? = some p/\its[i]? = some (.ref t):=λi hi=>by
  rw[bp] at hi
  have e1:ts[i]? = some ts[i]:=bb (by lia)
  have e2:ps[i]? = some ps[i]:=bb (by lia)
  obtain⟨u,hu,ru⟩:=rv.get (i:=i) (x:=V.ref ts[i]) (by rw[bE,e1];rfl)
  cases ru
  exact⟨_,_,e1,e2,hu⟩
 refine Xr (knd:=dH X.prog X.w) (Walks.list (A:=X.A.in1.in1) hh _ l (bZ aT) its.toArray) s.heap.objs.size ?_ (λi=>Sum.inr (ps.getD i (⟨#[]⟩,.aB)).1) (λi=>(f i).1) (λi=>(f i).2) (λi=>ts.getD i 0) (λi v hP=>?_) (λi hi=>?_) (λi hi=>?_)
  (strN (λi=>Sum.inr (ps.getD i (⟨#[]⟩,.aB)).1) (λi=>(f i).2)) (λi _=>rfl) (λi hi=>?_) its.toArray.size 0 _ _ (by lia) (bu _) ⟨⟨_,cI _ rfl,rfl,rfl⟩,yd.push _⟩ (hD.push _) (λi hi=>?_) λh3 ya k3 d3=>⟨rfl,?_⟩
 .intro m
  have m:s.heap.objs.size=h'.objs.size\/s.heap.objs.size=l:=by simpa using m
  rcases m with m | m
  .exact bZ hsz m
  .exact zQ yc m
 .have hP:its[i]? = some v:=by simpa using hP
  have hi:i<its.toArray.size:=by rw[bp];exact(cg.mp hP).1
  obtain⟨t,p,e1,_,e3⟩:=gt i hi
  rw[hP] at e3
  cases e3
  show _=Value.ref (ts.getD i 0)
  rw[bT,e1]
  rfl
 .obtain⟨t,p,e1,e2,_⟩:=gt i hi
  have:=(hf i t p e1 e2).1
  show(dH X.prog X.w).is (Sum.inr (ps.getD i (⟨#[]⟩,.aB)).1) (f i).1=true
  rw[bT,e2]
  exact this
 .obtain⟨t,p,e1,e2,_⟩:=gt i hi
  obtain⟨o,ho,_⟩:=(hf i t p e1 e2).2.2
  have pI:=bS ho
  show ts.getD i 0∉[h'.objs.size]/\ts.getD i 0≠s.heap.objs.size
  rw[bT,e1]
  refine⟨λm=>?_,bZ pI⟩
  exact bZ (Nat.lt_trans pI hsz) (cj.mp m)
 .have:=FD (λi=>Sum.inr (ps.getD i (⟨#[]⟩,.aB)).1) (λi=>(f i).2) i
  rw[bp] at hi
  have MS:(10000:Nat)<=sizeLine:=by decide
  lia
 .obtain⟨t,p,e1,e2,_⟩:=gt i hi
  obtain⟨o,ho,rO,c,hd2⟩:=(hf i t p e1 e2).2.2
  refine⟨o,c,?_,rO,hd2⟩
  show(h'.push _).get? (ts.getD i 0)=_
  rw[bT,e1]
  exact bL _ (kp _ _ ho)
 .have kv:∀i,i<=ps.length->KV (i8 (ps.take i)) (strN (λi=>Sum.inr (ps.getD i (⟨#[]⟩,.aB)).1) (λi=>(f i).2) i):=by
   intro i
   induction i with
   |zero=>intro _;rw[rb];exact .nil
   |succ i ih=>
    intro hi
    have e2:ps[i]? = some ps[i]:=bb hi
    obtain⟨t,p,e1,e3,_⟩:=gt i (by rw[bp];lia)
    rw[e2] at e3
    cases e3
    rw[fL,e2]
    show KV (i8 (ps.take i++[ps[i]])) (stored _ _ _)
    have eg:(ps.getD i (⟨#[]⟩,.aB))=ps[i]:=by rw[bT,e2];rfl
    dsimp only
    rw[MQ,eg]
    exact(ih (by lia)).put _ (hf i t _ e1 e2).2.1
  have FF:=kv ps.length (aW _)
  rw[fq (aW _)] at FF
  have en:its.toArray.size=ps.length:=by rw[bp];lia
  rw[en] at d3
  have uQ:(i8 ps).length<=sizeLine:=by
   rw[FF.length]
   exact bQ (FD _ _ _) (bQ hn (by decide))
  have fr:=I.fresh
  refine⟨.ref s.heap.objs.size,_,I.laid (a:=s.heap.objs.size) (o := .dK (i8 ps)) (t':=ya) (λb o hb=>?_) (aW _) (Lw uQ (tV.mpr (br (bZ I.big))) FF d3),rfl,q _ fr⟩
  have jD:=bS hb
  refine k3 b o (λm=>?_) (bZ jD) (bL _ (kp _ _ hb))
  exact bZ (Nat.lt_trans jD hsz) (cj.mp m)
def Xz:bootBuiltins "dict"=some (.type "dict"):=by decide +kernel
section
variable{prog:Program}{w:World}{KK:Type}[DecidableEq KK]{knd:HeapKind prog w KK}{A:Around}{E:Value->Shared->Prop}{s:Shared}
theorem XA{d:Addr}{xs:List (KK×Addr×Value)}{k:KK}{v:Value}(hu:knd.room A)(xu:knd.is s.heap k a)(hm:s.heap.DictOfH knd d xs)(hz:xs.length<=sizeLine)
  (old:∀p,atKey xs k=some p->Q p.2 { s with toks:=s.toks+knd.draws k })
  (new:atKey xs k=none->∀h',h'.DictOfH knd d (storedH xs k a v)->Heap.SameBut d s.heap h'->Q v { s with heap:=h',toks:=s.toks+knd.draws k }):wpAny (model prog w) A (dictSetDefault d (.ref a) v) Q E s:=by
 obtain⟨o,es,ep,ho,hc,hd,he,MT,hn⟩:=hm
 unfold dictSetDefault
 refine kJ (aj (knd.pyHash hu xu (aj (wpAny_dictFind_heap (s:={ s with toks:=s.toks+knd.draws k }) hu xu ho hd he MT hn (λjJ=>?_) λj p hj=>?_))))
 .have e0:=atKey_none_of_get jJ
  have XB:k∉xs.map (·.1):=not_mem_keys_of_get jJ
  have ez:=size_of_entries he
  have nw:=new e0
  rw[storedH_new e0] at nw
  refine aj (t9 (aj (wpAny_updateDictKeys (hz:=by lia) (s:={ s with toks:=s.toks+knd.draws k }) ho hd (aY (nw _ ⟨_,_,ep+1,wK _ ho (Obj.isFreed_of_dict (Obj.data_mapDictKeys hd _)),hc.mapDictKeys _,Obj.data_mapDictKeys hd _,?_,λx hx=>?_,?_⟩ (z7 ..))))))
  .simp[he,entryOfKey]
  .rcases cV.mp hx with hx | hx
   .exact knd.keeps (MT x hx) ho hd (z7 ..)
   .rw[cj.mp hx]
    exact knd.keeps xu ho hd (z7 ..)
  .rw[dF,oZ]
   exact⟨hn,by simp,λx hx y hy z=>XB (by rw[<-show y=k by simpa using hy,<-z];exact hx)⟩
 .refine aj (wpAny_dictEntries (s:={ s with toks:=s.toks+knd.draws k }) ho hd ?_)
  rw[entry_at he j,hj]
  exact aj (t9 (aY (old p (atKey_of_get hn hj))))
end
section
variable{X:Cx}{pins:List (Addr×Obj)}{O:St}{H:Hp}{s:Shared}{a b:Addr}{A:Around}{E:Value->Shared->Prop}{kvs:List (List Key×V)}{k:List Key}{z:V}{r:Value}
theorem XC(hu:A.units+1<cLine)(I:Inv X pins O H s)(e:H a=some (.dT kvs))(eb:H b=some (.tup (k.map kV)))(hl:kvs.length<sizeLine)(rz:RelV z r)
  (old:∀v,aQ kvs k=some v->∀u s',Inv X pins O H s'->RelV v u->Q u s') (new:aQ kvs k=none->∀s',Inv X pins O (upd H a (.dT (putK kvs k z))) s'->Q r s') :
  wpAny (model X.prog X.w) A (call (.builtin "dict.setdefault") [.ref a,.ref b,r]) Q E s:=by
 obtain⟨hz,hd,xs,rel,dd⟩:=Lv I.aD e
 refine qX PySem.F.slot_dict_setdefault dd.typeIs PySem.F.entry_dict_setdefault ?_ (PySem.F.args_dict_setdefault_3 _ _ _)
 unfold Builtin.«dict.setdefault» Builtin.Dict.keyAndDefault
 refine aj (aj (wpAny_notOrdered_dict dd.typeIs ?_))
 show wpAny _ A.in1 (pure (a,Value.ref b,some r)) _ _ s
 refine aY ?_
 show wpAny _ A.in1 (if (a==sysModules)=true then _ else (dictSetDefault a (.ref b) r >>= λv=>ret v)) _ _ s
 rw[ax (show ¬(a==sysModules)=true by rw[hd];decide)]
 refine aj (XA (zU hu) (rV I.aD eb) dd (by rw[<-fJ rel];exact hz) (λp hp=>?_) λhp h' uy hs=>?_)
 .obtain⟨v,hv,rv⟩:∃v,aQ kvs k=some v/\RelV v p.2:=by
   have:=rel.val k
   rw[hp] at this
   cases hv:aQ kvs k with
   |none=>rw[hv] at this;exact this.elim
   |some v=>rw[hv] at this;exact⟨v,rfl,this⟩
  exact aY ⟨_,rfl,old v hv _ _ (I.tok _) rv⟩
 .have hv:aQ kvs k=none:=by
   have:=rel.val k
   rw[hp] at this
   cases hv:aQ kvs k with
   |none=>rfl
   |some v=>rw[hv] at this;exact this.elim
  have k8:(putK kvs k z).length<=sizeLine:=by have:=uw kvs k z;lia
  refine aY ⟨_,rfl,new hv _ ?_⟩
  obtain⟨q,es,ep,hq,h2,h3,h4,_,h5⟩:=uy
  refine EE I (by rw[e];exact True.intro) hs ⟨q,hq⟩ ⟨k8,hd,_,(rel.put k eb rz).keeps λc ys ec=>?_,q,es,ep,hq,h2,h3,h4,h5⟩
  rw[ak (cx ec e (λz=>nomatch z))]
  exact ec
end
section
variable{X:Cx}{o e f:Expr}{td ty tx:TE}{apos d8:Pos}
def XD(td ty tx:TE):TE:=λO H Q=>td O H λx H1=>∃a,x = .ref a/\EG H1 a/\ty O H1 λy H2=>tx O H2 λz H3=>∃kvs k b,H3 a=some (.dT kvs)/\y = .ref b/\H3 b=some (.tup (k.map kV))/\kvs.length<sizeLine/\
 (∀v,aQ kvs k=some v->Q v H3)/\(aQ kvs k=none->Q z (upd H3 a (.dT (putK kvs k z))))
def XE(hu:X.A.units+1<cLine)(ho:PE X o td)(he:PE X e ty)(hf:PE X f tx)(m:M2 X o "setdefault" apos e f d8):PE X (.Call (.Attribute o "setdefault" apos) [e,f] [] d8) (XD td ty tx):=by
 intro pins s O H Q I h
 refine wpAny_Call_method m.base m.fC m.line PySem.F.plainAttrs_dict PySem.F.slot_dict_setdefault PySem.F.type_dict_setdefault (aE (ho pins s O H _ I h) λu s1 h_=>?_)
 obtain⟨x,H1,I1,rx,a,ex,d,q1⟩:=h_
 subst ex
 obtain rfl:u=Value.ref a:=rx
 obtain⟨t1,t2,_⟩:=LB I1 d
 refine⟨t1,t2,?_⟩
 rw[m.trees]
 refine R7 rfl (R8 (DG (aE (he pins s1 O H1 _ I1 q1) λiv s2 ⟨y,H2,I2,ry,q2⟩=>DG (aE (hf pins s2 O H2 _ I2 q2) λfv s3 ⟨z,H3,I3,rz,kvs,k,b,ea,ey,eb,hl,q3,q4⟩=>Calls.spliced_nil ?_))))
 subst ey
 obtain rfl:iv=Value.ref b:=ry
 exact XC hu I3 ea eb hl rz (λv hv u s4 I4 ru=>⟨v,H3,I4,ru,q3 v hv⟩) λhv s4 I4=>⟨z,_,I4,rz,q4 hv⟩
end
section
variable{prog:Program}{w:World}{A:Around}{R:Result->Shared->Prop}{I:Addr}{fp wr:List Addr}{n:Nat}{P:Nat->Value->Prop}{St:Nat->Heap->Prop}
def mw(h:Heap)(t:Addr)(a b:Int):Prop := ∃u v:Tok,IsTup h t #[.int a u,.int b v]
def mw.ext{t:Addr}{a:Int}(x:mw h t a b)(k:∀o,h.get? t=some o->h'.get? t=some o):mw h' t a b:=let ⟨u,v,o,ho,r⟩:=x;⟨u,v,o,k o ho,r⟩
def XF{t t':Addr}{a a' b':Int}(x:mw s.heap t a b)(y:mw s.heap t' a' b')(hu:A.units<cLine)(h:Q (.bool (HT.lexLt [a,b] [a',b'])) s) :
  wpAny (model prog w) A (richCompare .Lt (.ref t) (.ref t')) Q E s:=by
 obtain⟨u,v,p⟩:=x
 obtain⟨u',v',p'⟩:=y
 exact HT.Ut p p' (.cons a u (.cons b v .nil)) (.cons a' u' (.cons b' v' .nil)) hu h
theorem MU{a a' b':Int}:(HT.lexLt [a,b] [a',b']=true->a<=a')/\(HT.lexLt [a,b] [a',b']=false->a'<=a):=by
 rw[HT.Le]
 by_cases e:a=a'
 .exact⟨λ_=>by lia,λ_=>by lia⟩
 .rw[ax e]
  exact⟨λh=>by have:=fK h;lia,λh=>by have:=of_decide_eq_false h;lia⟩
theorem XG(W:Walks prog w A.in1 I fp wr n P St)(bs:Addr)(uR:bs∉fp)(hu:A.in1.units<cLine)(tt:Nat->Addr)(fa fb:Nat->Int)(hP:∀i v,P i v->v = .ref (tt i))(ht:∀i,i<n->tt i∉wr/\tt i≠bs) :
  ∀(k j:Nat) (s:Shared) (b c:Nat),n - (j+1)=k->j+1<=n->St (j+1) s.heap->b<=j->(∀i,i<=j->fa b<=fa i)->s.heap.get? bs=some { cls := .type "list",data := .seq #[.ref (tt b),.ref (tt b)] c }->(∀i,i<n->mw s.heap (tt i) (fa i) (fb i))->
  (∀b h' tk,b<n->(∀i,i<n->fa b<=fa i)->(∀x o,x∉wr->x≠bs->s.heap.get? x=some o->h'.get? x=some o)->R (.ok (.ret (.ref (tt b)))) { s with heap:=h',toks:=tk })->
  codeAny (model prog w) A (.builtin "min.loop" ⟨[.ref I,.none,.ref bs],[]⟩) R s:=by
 have mn:bs∉wr:=λh=>uR (W.sub _ h)
 have uS:(toString "min"++toString ".loop":String)="min.loop":=by decide
 intro k
 induction k with
 |zero=>
  intro j s b c hk hj dI hb mB hS hT hR
  have bD:j+1=n:=by lia
  refine rf F.entry_min_loop ?_
  rw[ua wY _]
  show wpAny _ A.in1 (seqItems? (.ref bs) >>= _) _ _ s
  refine aj (nE hS rfl ?_)
  show wpAny _ A.in1 (tryCatch (pyNext (.ref I)) _ >>= _) _ _ s;refine aj (DR (W.done s _ _ (by rw[<-bD];exact dI) λh' tk kp=>?_))
  have mC:=kp bs _ mn hS
  show wpAny _ A.in1 (updateSeq bs (λ_=>#[]) >>= _) _ _ _
  refine aj (wpAny_updateSeq mC rfl (aj (wV (aY (hR b _ tk (by lia) (λi hi=>mB i (by lia)) λx o h1 h2 e=>(nz _ _ (br h2)).trans (kp x o h1 e))))))
 |succ k ih=>
  intro j s b c hk hj dI hb mB hS hT hR
  have aT:j+1<n:=by lia
  refine rf F.entry_min_loop ?_
  rw[ua wY _]
  show wpAny _ A.in1 (seqItems? (.ref bs) >>= _) _ _ s
  refine aj (nE hS rfl ?_)
  show wpAny _ A.in1 (tryCatch (pyNext (.ref I)) _ >>= _) _ _ s;refine aj (DR (W.item (j+1) s _ _ aT dI λv h' tk hv pS kp=>?_))
  have mC:=kp bs _ mn hS
  have Bp:∀i,i<n->mw h' (tt i) (fa i) (fb i):=λi hi=>(hT i hi).ext λo e=>kp _ o (ht i hi).1 e
  rw[hP _ v hv]
  show wpAny _ A.in1 (tryCatch (holding _ (richCompare .Lt (.ref (tt (j+1))) (.ref (tt b)) >>= _)) _ >>= _) _ _ _
  refine aj (DR (kJ (aj (XF (s:={ s with heap:=h',toks:=tk }) (Bp _ aT) (Bp b (by lia)) hu ?_))))
  refine aj (kJ (oQ (aj (wV (aY ?_)))))
  cases hc:HT.lexLt [fa (j+1),fb (j+1)] [fa b,fb b] with
  |true=>
   have h1:=MU.1 hc
   simp only[jW]
   refine aj (wpAny_updateSeq mC rfl (aj (wV ?_)))
   rw[uS]
   refine aY ⟨ub wY _,ih (j+1) _ (j+1) _ (by lia) aT (W.frame _ _ _ pS λx hx o e=>?_) (aW _) (λi hi=>?_) (wK _ mC rfl) (λi hi=>(Bp i hi).ext λo e=>(nz _ _ (br (ht i hi).2)).trans e) λb' h2 jI q1 q2 q3=>hR b' h2 jI q1 q2 λx o h1 h2 e=>q3 x o h1 h2 ((nz _ _ (br h2)).trans (kp x o h1 e))⟩
   .exact(nz _ _ (λz:bs=x=>uR (by rw[z];exact hx))).trans e
   .rcases DS j i with z | z
    .rw[show i=j+1 by lia];exact rh _
    .have:=mB i z;lia
  |false=>
   have h1:=MU.2 hc
   simp only[wN,qT]
   refine aj (wV ?_)
   rw[uS]
   refine aY ⟨ub wY _,ih (j+1) _ b c (by lia) aT pS (by lia) (λi hi=>?_) mC Bp λb' h2 jI q1 q2 q3=>hR b' h2 jI q1 q2 λx o h1 h2 e=>q3 x o h1 h2 (kp x o h1 e)⟩
   rcases DS j i with z | z
   .rw[show i=j+1 by lia];exact h1
   .exact mB i z
theorem XH(W:Walks prog w A.in1 I fp wr n P St)(bs:Addr)(uR:bs∉fp)(hu:A.in1.units<cLine)(tt:Nat->Addr)(fa fb:Nat->Int)(hP:∀i v,P i v->v = .ref (tt i))(ht:∀i,i<n->tt i∉wr/\tt i≠bs)(hn:0<n)(dI:St 0 s.heap)
  (hS:s.heap.get? bs=some { cls := .type "list",data := .seq #[] c }) (hT:∀i,i<n->mw s.heap (tt i) (fa i) (fb i))
  (hR:∀b h' tk,b<n->(∀i,i<n->fa b<=fa i)->(∀x o,x∉wr->x≠bs->s.heap.get? x=some o->h'.get? x=some o)->R (.ok (.ret (.ref (tt b)))) { s with heap:=h',toks:=tk }) :
  codeAny (model prog w) A (.builtin "min.loop" ⟨[.ref I,.none,.ref bs],[]⟩) R s:=by
 have mn:bs∉wr:=λh=>uR (W.sub _ h)
 have uS:(toString "min"++toString ".loop":String)="min.loop":=by decide
 refine rf F.entry_min_loop ?_
 rw[ua wY _]
 show wpAny _ A.in1 (seqItems? (.ref bs) >>= _) _ _ s
 refine aj (nE hS rfl ?_)
 show wpAny _ A.in1 (tryCatch (pyNext (.ref I)) _ >>= _) _ _ s;refine aj (DR (W.item 0 s _ _ hn dI λv h' tk hv pS kp=>?_))
 have mC:=kp bs _ mn hS
 rw[hP _ v hv]
 show wpAny _ A.in1 (updateSeq bs (λ_=>#[.ref (tt 0),.ref (tt 0)]) >>= _) _ _ _
 refine aj (wpAny_updateSeq mC rfl ?_)
 rw[uS]
 refine aY ⟨ub wY _,XG W bs uR hu tt fa fb hP ht _ 0 _ 0 _ rfl hn (W.frame _ _ _ pS λx hx o e=>?_) (aW _) (λi hi=>?_) (wK _ mC rfl) (λi hi=>((hT i hi).ext λo e=>kp _ o (ht i hi).1 e).ext λo e=>(nz _ _ (br (ht i hi).2)).trans e)
  λb' h2 jI q1 q2 q3=>hR b' h2 jI q1 q2 λx o h1 h2 e=>q3 x o h1 h2 ((nz _ _ (br h2)).trans (kp x o h1 e))⟩
 .exact(nz _ _ (λz:bs=x=>uR (by rw[z];exact hx))).trans e
 .rw[show i=0 by lia];exact rh _
end
section
variable{X:Cx}
theorem XI(hc:X.calm=true)(hu:X.A.units+4<cLine):gn X (.builtin "min") (λxs H Q=>∃(a:Addr) (ts:List Addr) (ps:List (Int×Int)),xs=[.ref a]/\H a=some (.lst (ts.map V.ref))/\Paired (λt p=>H t=some (.tup [.int p.1,.int p.2])) ts ps/\0<ps.length/\
  ∀(b:Nat) (t:Addr) (p:Int×Int),ts[b]? = some t->ps[b]? = some p->(∀q∈ps,p.1<=q.1)->Q (.ref t) H):=by
 intro pins s O H xs us Q I r h
 obtain⟨l,ts,ps,rfl,hl,hp,hn,q⟩:=h
 obtain⟨u,rfl,ru⟩:=vals1 r
 cases ru
 obtain⟨z,its,n,rv,hlen,e⟩:=I.pH hl
 have hh:X.A.handled=none:=I.ok.hd hc
 have i9:=fJ hp
 rw[av] at hlen
 have yc:l<s.heap.objs.size:=bS e
 have yd:s.heap.IsList l its.toArray:=⟨_,e,rfl,n,rfl⟩
 have gt:∀i,i<ts.length->∃(t:Addr) (p:Int×Int),ts[i]? = some t/\ps[i]? = some p/\its[i]? = some (.ref t)/\mw s.heap t p.1 p.2:=λi hi=>by
  have e1:ts[i]? = some ts[i]:=bb hi
  obtain⟨p,fO,ht⟩:=Paired.getL hp e1
  obtain⟨u,hu,ru⟩:=rv.get (i:=i) (x:=V.ref ts[i]) (by rw[bE,e1];rfl)
  cases ru
  obtain⟨Xy,FE,hT,_⟩:=I.tuple (aq.of ht)
  obtain⟨a1,a2,rfl,r1,r2⟩:=vals2 FE
  obtain⟨t1,rfl⟩:=r1
  obtain⟨t2,rfl⟩:=r2
  exact⟨_,p,e1,fO,hu,t1,t2,hT⟩
 refine call_function_tree F.kind_min F.plain_min F.entry_min (F.args_min1 _) ?_
 show wpAny _ X.A.in1 (Builtin.Builtins.bindParams "min" ["key","default"] 0 ⟨[],[]⟩ >>= _) _ _ s
 refine aj (oY (a:=[none,none]) rfl (aj (aY (aj (wH yd ?_)))))
 refine aj (wQ ?_)
 have uS:(toString "min"++toString ".loop":String)="min.loop":=by decide
 rw[uS]
 have z1:(s.heap.push { cls := .type "list_iterator",data := .fields #[.ref l,.int 0 0] }).objs.size=s.heap.objs.size+1:=qZ _ _
 refine aY ⟨ub wY _,XH (Walks.list (A:=X.A.in1) hh s.heap.objs.size l (bZ yc) its.toArray) _ ?_ (by show X.A.units+1<cLine;lia) (λi=>ts.getD i 0) (λi=>(ps.getD i (0,0)).1) (λi=>(ps.getD i (0,0)).2) (λi v hP=>?_) (λi hi=>?_) (by rw[bp];lia)
  ⟨⟨_,bL _ (cI _ rfl),rfl,rfl⟩,(yd.push _).push _⟩ (cI _ rfl) (λi hi=>?_) λb h' tk hb hm kp=>?_⟩
 .intro m
  have m:(s.heap.push { cls := .type "list_iterator",data := .fields #[.ref l,.int 0 0] }).objs.size=s.heap.objs.size\/(s.heap.push { cls := .type "list_iterator",data := .fields #[.ref l,.int 0 0] }).objs.size=l:=by simpa using m
  rw[z1] at m
  rcases m with m | m
  .exact zQ (qS _) m
  .exact zQ (nB yc) m
 .have hP:its[i]? = some v:=by simpa using hP
  obtain⟨t,p,e1,_,e3,_⟩:=gt i (by have:=(cg.mp hP).1;lia)
  rw[hP] at e3
  cases e3
  show _=Value.ref (ts.getD i 0)
  rw[bT,e1]
  rfl
 .obtain⟨t,p,e1,e2,_,x,y,o,ho,_⟩:=gt i (by rw[bp] at hi;lia)
  have pI:=bS ho
  show ts.getD i 0∉[s.heap.objs.size]/\ts.getD i 0≠(s.heap.push _).objs.size
  rw[bT,e1,z1]
  exact⟨λm=>bZ pI (cj.mp m),bZ (nB pI)⟩
 .obtain⟨t,p,e1,e2,_,hT⟩:=gt i (by rw[bp] at hi;lia)
  show mw _ (ts.getD i 0) (ps.getD i (0,0)).1 (ps.getD i (0,0)).2
  rw[bT,bT,e1,e2]
  exact hT.ext λo e=>bL _ (bL _ e)
 .obtain⟨t,p,e1,e2,_⟩:=gt b (by rw[bp] at hb;lia)
  have et:ts.getD b 0=t:=by rw[bT,e1];rfl
  have ep:ps.getD b (0,0)=p:=by rw[bT,e2];rfl
  show EP X pins O Q (.ref (ts.getD b 0)) _
  rw[et]
  refine⟨.ref t,H,I.kept (t':=tk) (λx o hx=>?_),rfl,q b t p e1 e2 λp' fF=>?_⟩
  .have hlx:=bS hx
   exact kp x o (λm=>bZ hlx (cj.mp m)) (by show x≠(s.heap.push _).objs.size;rw[z1];exact bZ (nB hlx)) (bL _ (bL _ hx))
  .obtain⟨i,hi⟩:=eQ fF
   have XJ:=(cg.mp hi).1
   have:=hm i (by rw[bp];lia)
   rw[ep,bT,hi] at this
   exact this
end
structure Bq(K:Frag)(mg:Str->Option Value)(x:Str)(C:Addr):Prop where
 MV:makesIn K C=true
 it:findIn K (.ref C) "__init__"=some (some (.builtin "object.__init__"))
 kp:keepIn K (.ref C)=true
 gl:mg x=some (.ref C)
def XM(C:Addr):TE:=λ_ H Q=>∀x dx,H x=none->H dx=none->dx≠x->Q (.ref x) (upd (upd H dx (.own x)) x (.ins C dx []))
def MW(N:Bq X.K X.mg x C)(hg:Gl X x)(gr:(x==("__debug__":Str))=false:=by decide):PE X (.Call (.Name x p) [] [] pos) (XM C):=by
 intro pins s O H Q I h
 refine wJ (xj I hg N.gl ?_ gr)
 refine PySem.W.callWith_K0 I.c6 N.kp (zS (TM I.c6 N.MV N.it (λself=>Looks.of_pure (PySem.W.oi_bind self)) ?_))
 have I2:=Inv.made (C:=C) I
 have q:=h (s.heap.objs.size+1) s.heap.objs.size (I.aD.fresh (ir _)) (I.aD.fresh (aW _)) (bZ (qS _))
 have Y:=PySem.W.makes_of (M:=model X.prog X.w) I.c6 N.MV
 have e2:((s.heap.push emptyDict).push (instObj C s.heap.objs.size)).get? (s.heap.objs.size+1)=some (instObj C s.heap.objs.size):=by
  have:((s.heap.push emptyDict).push (instObj C s.heap.objs.size)).get? (s.heap.push emptyDict).objs.size=some (instObj C s.heap.objs.size):=cI _ rfl
  rwa [kK] at this
 have lt:Looks (model X.prog X.w) ((s.heap.push emptyDict).push (instObj C s.heap.objs.size)) (typeOf (.ref (s.heap.objs.size+1))) (.ref C):=(Looks.ld e2).andThen .now
 have lk:Looks (model X.prog X.w) ((s.heap.push emptyDict).push (instObj C s.heap.objs.size)) (isInstance (.ref (s.heap.objs.size+1)) (.type "object")) true:=lt.andThen (Y.top.keeps λb o e=>bL _ (bL _ e))
 refine codeAny_call_builtin PySem.W.oi_plain PySem.W.entry_oi (@PySem.W.check_slot (model X.prog X.w) _ _ _ "object.__init__" "object" "__init__" (.ref (s.heap.objs.size+1)) [] [] _ PySem.W.oi_kind PySem.W.oi_split lk (PySem.W.oi_args _) ?_)
 rw[PySem.W.oi_run]
 exact aY ⟨rfl,.ref (s.heap.objs.size+1),_,I2,rfl,q⟩
structure mD(K:Frag)(C:Addr):Prop where
 cl:cD K C
 ha:findIn K (.ref C) "__class__"=some (some (.builtin "object.__class__"))
 hn:specialIn K (.builtin "object.__class__") "__get__"=some (some (.builtin "getset_descriptor.__get__"))
 ht:takesIn K (.builtin "object.__class__")=some true
 hm:mroIn K C (.type "object")=some true
def mD.ty{dx:Addr}{fs:List (Str×V)}(t:mD K C)(e:H a=some (.ins C dx fs)):gQ K H (.ref a) (.ref C) := .ins e t.cl t.ha t.hn t.ht t.hm
def Br:gn X (.builtin "isinstance") (λxs H Q=>∃x D t b,(xs=[x,.ref D]/\gQ X.K H x t/\kitOne X.K t (.ref D)=some b)/\Q (.bl b) H):=by
 intro pins s O H xs us Q I r h
 obtain⟨x,D,t,b,⟨rfl,ty,e⟩,q⟩:=h
 obtain⟨u,v,rfl,ru,rv⟩:=vals2 r
 cases rv
 exact K3 I ru ty e λtk=>⟨.bl b,H,I.tok tk,rfl,q⟩
section
variable{X:Cx}{pins:List (Addr×Obj)}{O:St}{H:Hp}{s:Shared}
noncomputable def fD(K:Frag)(H:Hp)(e:D)(u:Value):Bool :=@decide (∃d x,At K H d x/\RelV x u/\dW d e=true) (Classical.propDecidable _)
def XN(I:Inv X pins O H s){d e:D}{x:V}(a:At X.K H d x)(r:RelV x u):fD X.K H e u=dW d e:=by
 unfold fD
 rw[zR]
 constructor
 .intro hh
  obtain⟨d',x',a',r',h⟩ :=@fK _ (Classical.propDecidable _) hh
  have ex:=r.inj r'
  subst ex
  rw[At.inj I d d' x a a']
  exact h
 .intro h
  exact @aJ _ (Classical.propDecidable _) ⟨d,x,a,r,h⟩
theorem MX(I:Inv X pins O H s){e:D}{y:V}{v:Value}{A:Around}(hu:A.units+50<cLine)(ae:At X.K H e y)(ry:RelV y v):∀{ds:List D}{xs:List V}{us:List Value},di X.K H ds xs->Vals xs us->dN ds<=50->(∀u∈us,SeqAt.EqAt A s u v (fD X.K H e u))/\us.any (fD X.K H e)=ds.any λd=>dW d e
 |[],xs,us,a,r,_=>by
  rw[di] at a
  subst a
  cases r
  exact⟨λu m=>by(cases m),rfl⟩
 |d::ds,xs,us,a,r,hd=>by
  rw[di] at a
  obtain⟨x,xr,rfl,a1,a2⟩:=a
  cases r with
  |cons r1 r2=>
   rw[dN] at hd
   obtain⟨i1,i2⟩:=MX I hu ae ry a2 r2 (by lia)
   have ef:=XN I (e:=e) a1 r1
   refine⟨λu m=>?_,?_⟩
   .rcases cf.mp m with z | z
    .subst z
     rw[ef]
     exact L1 I d e x y _ v A 50 (by lia) hu a1 ae r1 ry
    .exact i1 u z
   .rw[qU,qU,ef,i2]
def XO(K:Frag)(neg:Bool):R2:=λx y H Q=>∃p xs ds e,y = .ref p/\ai K H p xs/\di K H ds xs/\At K H e x/\dN ds<=50/\Q (.bl (if neg then !(ds.any λd=>dW d e) else ds.any λd=>dW d e)) H
theorem MY(hu:X.A.units+64<cLine):cR X (compareOp .In) (XO X.K false):=by
 intro pins s O H x y v u Q I rx ry h
 obtain⟨p,xs,ds,e,rfl,hq,ad,ae,hd,q⟩:=h
 cases ry
 obtain⟨its,r,pl,hz⟩:=I.list hq
 obtain⟨h1,h2⟩:=MX I (A:=X.A.in1) (by show X.A.units+1+50<cLine;lia) ae rx ad r hd
 refine SeqAt.in_listAt (fD X.K H e) pl.isList (λw hw=>h1 w (by simpa using hw)) ⟨.bl _,H,I,rfl,?_⟩
 rw[show its.toArray.any (fD X.K H e)=its.any (fD X.K H e) by simp,h2]
 exact q
end
def FG:plainId "set.update.loop"=true:=by decide +kernel
def MZ:entryFor table "set.update.loop"=some Builtin.«set.update.loop»:=entryFor_of_fast (by kernel_rfl)
section
variable{prog:Program}{w:World}{A:Around}{R:Result->Shared->Prop}{I:Addr}{fp wr:List Addr}{n:Nat}{P:Nat->Value->Prop}{St:Nat->Heap->Prop}{KK:Type}[DecidableEq KK]{knd:KeyKind prog w KK}
theorem XQ(W:Walks prog w A.in1 I fp wr n P St)(S:Addr)(M0:S∉fp)(ks:Nat->KK)(hP:∀i v,P i v->knd.is (ks i) v=true/\v.scannable=true)(hn:n+1<scanBound)
  (J:Nat->(KK->Bool)->Nat->Prop) (hJ:∀i T c,i<n->J i T c->J (i+1) (λk'=>T k'||decide (k'=ks i)) (if T (ks i)=true then c else c+1)) (hc:∀i T c,J i T c->c<=i) :
  ∀(k i:Nat) (s:Shared) (T:KK->Bool) (c:Nat),n - i=k->i<=n->St i s.heap->J i T c->s.heap.SetOf knd S T c->
  (∀h' tk T' c',(∀b o,b∉wr->b≠S->s.heap.get? b=some o->h'.get? b=some o)->J n T' c'->h'.SetOf knd S T' c'->R (.ok (.ret .none)) { s with heap:=h',toks:=tk })->
  codeAny (model prog w) A (.builtin "set.update.loop" ⟨[.ref S,.ref I],[]⟩) R s:=by
 have M1:S∉wr:=λh=>M0 (W.sub _ h)
 intro k
 induction k with
 |zero=>
  intro i s T c hk hi dI hj hS hR
  have bD:i=n:=by lia
  subst bD
  refine rf MZ ?_
  rw[ua FG _]
  show wpAny _ A.in1 (pyNext (.ref I) >>= _) _ _ s
  refine aj (W.done s _ _ dI λh' tk gV=>?_)
  obtain⟨o,es,ep,t,ho,r⟩:=hS
  exact aY (hR h' tk T c (λb o hb _ e=>gV b o hb e) hj ⟨o,es,ep,t,gV S o M1 ho,r⟩)
 |succ k ih=>
  intro i s T c hk hi dI hj hS hR
  have aT:i<n:=by lia
  refine rf MZ ?_
  rw[ua FG _]
  show wpAny _ A.in1 (pyNext (.ref I) >>= _) _ _ s
  refine aj (W.item i s _ _ aT dI λv h' tk hv pS gV=>?_)
  have mC:h'.SetOf knd S T c:=by
   obtain⟨o,es,ep,t,ho,r⟩:=hS
   exact⟨o,es,ep,t,gV S o M1 ho,r⟩
  have hci:=hc i T c hj
  show wpAny _ A.in1 (holding [v] (setAdd S v) >>= _) _ _ _
  refine aj (kJ ?_)
  unfold setAdd
  refine kJ ?_
  refine aj ((knd.pyHash (hP i v hv).1) ?_)
  refine wpAny_setAddHashed_of (hP i v hv).1 (hP i v hv).2 mC (by lia) λh'' sH XR=>?_
  refine aY ⟨ub FG _,ih (i+1) _ _ _ (by lia) aT (W.frame _ _ _ pS λb hb o e=>?_) (hJ i T c aT hj) XR λh3 ya T' c' gw XS ye=>?_⟩
  .exact sH.extBut b o (λz=>M0 (z ▸ hb)) e
  .exact hR h3 ya T' c' (λb o mn yb e=>gw b o mn yb (sH.extBut b o yb (gV b o mn e))) XS ye
end
section
variable{prog:Program}{w:World}{A:Around}{E:Value->Shared->Prop}{s:Shared}
noncomputable def lz(b:Bool):Obj:={ cls := .type "set",dict:=none,data := .set #[] 0 (.fresh 0 0 b) }
def XT(x:Value):checkBuiltinCall "set.__new__" ⟨[.type "set",x],[]⟩=pure ():=by kernel_rfl
def XU(x:Value):checkTypeCall "set" ⟨[x],[]⟩=pure ():=by kernel_rfl
def XW{x:Value}{Z:Value->Shared->Prop}(hq:∀b:Bool,Z (.ref s.heap.objs.size) { s with heap:=s.heap.push (lz b) }) :
  codeAny (model prog w) A (.call (.builtin "set.__new__") ⟨[.type "set",x],[]⟩) (wants Z E) s:=by
 refine codeAny_of_tree ?_
 refine aj (m:=checkBuiltinCall "set.__new__" ⟨[.type "set",x],[]⟩) (oY (XT x) (aY ⟨ub F.plain_set_new _,rf F.entry_set_new ?_⟩))
 rw[ua F.plain_set_new _]
 unfold Builtin.«set.__new__» Builtin.Frozenset.newClass
 have hb:=sub_set_self
 cases s
 dsimp only
 wp_walk
 refine wpAny_askSetting (aY ?_)
 dsimp only
 simp only[newObj]
 exact aj (wpAny_alloc (aY (aY (hq _))))
def XX{o x:Value}(hT:s.TypeIs o "set")(hZ:Z () s):wpAny M A (checkBuiltinCall "set.__init__" ⟨[o,x],[]⟩) Z E s:=by
 simp only[checkBuiltinCall,kind_set_init,split_set_init,sig_set_init]
 refine aj (JW hT sub_set_self ?_)
 simp only[Bool.not_true,wN,qT]
 unfold Bind.checkArgs
 dsimp only
 refine aj (m:=Bind.printed "set" true _ _) (printed_name (by decide) ?_)
 refine aj (m:=Bind.printed "*" false _ _) (printed_star (self:=o) rfl hT λsh=>?_)
 have e1:(if (Manifest.Receiver.self==Manifest.Receiver.none)=true then [o,x].length else [o,x].length - 1)=1:=by simp[show(Manifest.Receiver.self==Manifest.Receiver.none)=false from by decide]
 rw[e1]
 simp only[wM]
 have e2:Bind.check ⟨.positional,"set","*",.self,[⟨"iterable",.posOnly,false⟩]⟩ "set" sh 1 []=pure ():=by
  simp[Bind.check,Bind.checkCount,Bind.isPositional]
  intro z
  exact absurd z (by decide)
 rw[e2]
 exact aY hZ
def M3:isSubtype (.type "list") (.type "set")=pure false:=by rw[zY];kernel_rfl
def M5:isSubtype (.type "list") (.type "frozenset")=pure false:=by rw[zY];kernel_rfl
def XY{S p:Addr}(hL:s.TypeIs (.ref p) "list")
  (h:wpAny (model prog w) A (pyIter (.ref p)) (λit s1=>wpAny (model prog w) A (runValue (.builtin "set.update.loop" ⟨[.ref S,it],[]⟩)) (λ_ s2=>Z () s2) E s1) E s) :
  wpAny (model prog w) A (Builtin.Frozenset.updateFrom "set.__init__" S (.ref p)) Z E s:=by
 unfold Builtin.Frozenset.updateFrom Builtin.Frozenset.isAnySet
 generalize pyIter (.ref p)=it at h ⊢
 have s1:=M3
 have s2:=M5
 wp_walk
 exact aE h λa s' hq=>aj (aE hq λ_ _ z=>aY z)
def XZ{p:Addr}(hL:s.TypeIs (.ref p) "list")
  (h:∀b:Bool,wpAny (model prog w) A.in1.in1 (pyIter (.ref p)) (λit s1=>wpAny (model prog w) A.in1.in1 (runValue (.builtin "set.update.loop" ⟨[.ref s.heap.objs.size,it],[]⟩)) (λ_ s2=>Q (.ref s.heap.objs.size) s2) E s1) E { s with heap:=s.heap.push (lz b) }) :
  wpAny (model prog w) A (call (.type "set") [.ref p]) Q E s:=by
 obtain⟨c,tl,afO⟩:=uc.mro
 have afP:=uc.made
 have WL:=uc.sub
 refine zS (codeAny_of_tree ?_)
 refine aY ⟨Code.quiet_builtin _ (by decide +kernel),rf F.entry_type_call ?_⟩
 rw[Around.under_plain (weight_type_call_type "set" [.ref p] []) rfl]
 have h1:=uc.notType
 have h2:=uc.canCreate
 have h3:=XU (.ref p)
 repeat (any_goals (first | assumption | wp_step))
 refine wI (XW (E:=E) (Z:=λo s1=>∃b:Bool,o = .ref s.heap.objs.size/\s1={ s with heap:=s.heap.push (lz b) }) λb=>⟨b,rfl,rfl⟩) λr s1 hr=>?_
 rcases r with e | fl
 .exact hr
 .cases fl with
  |ret o=>
   obtain⟨b,rfl,rfl⟩:=hr
   have hS:(s.heap.push (lz b)).get? s.heap.objs.size=some (lz b):=cI _ rfl
   have hT:Shared.TypeIs { s with heap:=s.heap.push (lz b) } (.ref s.heap.objs.size) "set":=⟨_,hS,rfl⟩
   have li:=uc.init.lookup
   have bi:=uc.init.bind (.ref s.heap.objs.size)
   repeat (any_goals (first | assumption | wp_step))
   refine wI (codeAny_call_builtin (R:=wants (λr s2=>r = .none/\Q (.ref s.heap.objs.size) s2) E) uc.init.plain F.entry_set_init (XX hT ?_)) λr2 s2 x9=>?_
   .unfold Builtin.«set.__init__» noKeywords
    have X0:Shared.TypeIs { s with heap:=s.heap.push (lz b) } (.ref p) "list":=let ⟨o,e,c⟩:=hL;⟨o,bL _ e,c⟩
    have s1:=M3
    have s2:=M5
    generalize hU:Builtin.Frozenset.updateFrom "set.__init__"=U
    wp_walk
    subst hU
    exact XY X0 (aE (h b) λit s1 hz=>aE hz λ_ s2 hq=>aY ⟨rfl,hq⟩)
   .rcases r2 with e | fl
    .exact x9
    .cases fl with
     |ret r=>
      obtain⟨rfl,hq⟩:=x9
      repeat (any_goals (first | assumption | wp_step))
     |_=>exact x9.elim
  |_=>exact hr.elim
end
def FH(ss:List Str)(i:Nat)(T:Key->Bool)(c:Nat):Prop:=c<=i/\(c=i↔(ss.take i).Nodup)/\∀k,T k=true↔∃x∈ss.take i,k=Sum.inr x
noncomputable def pU(ss:List Str)(i:Nat):Key:=Sum.inr ((ss[i]?).getD ⟨#[]⟩)
theorem X1{i:Nat}(hi:i<ss.length)(h:FH ss i T c):FH ss (i+1) (λk'=>T k'||decide (k'=pU ss i)) (if T (pU ss i)=true then c else c+1):=by
 obtain⟨h1,h2,h3⟩:=h
 have e:ss[i]? = some ss[i]:=bb hi
 have ek:pU ss i=Sum.inr ss[i]:=by unfold pU;rw[e];rfl
 have et:ss.take (i+1)=ss.take i++[ss[i]]:=by rw[fL,e];rfl
 have hT:T (pU ss i)=true↔ss[i]∈ss.take i:=by
  rw[h3,ek]
  constructor
  .rintro⟨x,hx,z⟩
   rw[Sum.inr.inj z]
   exact hx
  .exact λm=>⟨_,m,rfl⟩
 have hN:(ss.take (i+1)).Nodup↔(ss.take i).Nodup/\ss[i]∉ss.take i:=by
  rw[et,oZ]
  constructor
  .rintro⟨a,_,c⟩
   exact⟨a,λm=>c _ m _ (cj.mpr rfl) rfl⟩
  .rintro⟨a,b⟩
   exact⟨a,gM.mpr ⟨fm,iT⟩,λu hu v hv z=>b (by rw[<-cj.mp hv,<-z];exact hu)⟩
 refine⟨by split <;> lia,?_,λk=>?_⟩
 .rw[hN]
  by_cases m:ss[i]∈ss.take i
  .rw[aA (hT.mpr m)]
   exact⟨λz=>by lia,λz=>absurd m z.2⟩
  .rw[ax (λz=>m (hT.mp z))]
   exact⟨λz=>⟨h2.mp (by lia),m⟩,λz=>by have:=h2.mpr z.1;lia⟩
 .rw[wO,h3,J2,ek,et]
  constructor
  .rintro(⟨x,hx,z⟩ | z)
   .exact⟨x,cV.mpr (.inl hx),z⟩
   .exact⟨_,cV.mpr (.inr (cj.mpr rfl)),z⟩
  .rintro⟨x,hx,z⟩
   rcases cV.mp hx with m | m
   .exact .inl ⟨x,m,z⟩
   .rw[cj.mp m] at z
    exact .inr z
def uT(prog:Program)(w:World)(p:Addr)(T:Key->Bool)(c:Nat):Heap->Prop:=λh=>h.SetOf (dH prog w) p T c
theorem X2(hc:X.calm=true):gn X (.type "set") (λxs H Q=>∃(a:Addr) (ss:List Str),xs=[.ref a]/\ai X.K H a (ss.map V.str)/\ss.length+1<scanBound/\
  ∀p T c,H p=none->(c=ss.length↔ss.Nodup)->Q (.ref p) (upd H p (.ext (uT X.prog X.w p T c)))):=by
 intro pins s O H xs us Q I r h
 obtain⟨l,ss,rfl,hq,hn,q⟩:=h
 obtain⟨u,rfl,ru⟩:=vals1 r
 cases ru
 obtain⟨its,rv,pl,hz⟩:=I.list hq
 have hl:=pl.isList
 have hh:X.A.handled=none:=I.ok.hd hc
 have aT:l<s.heap.objs.size:=by obtain⟨_,e,_⟩:=hl;exact bS e
 have hlen:its.length=ss.length:=by rw[<-rv.length,av]
 refine XZ (let ⟨o,e,c,_⟩:=hl;⟨o,e,c⟩) λb=>?_
 refine wH (hl.push _) ?_
 refine wpAny_runValue ?_
 have hT:its.toArray.size=ss.length:=by rw[bp,hlen]
 refine XQ (knd:=dH X.prog X.w) (Walks.list (A:=X.A.in1.in1.in1) hh _ l ?_ its.toArray) s.heap.objs.size ?_ (pU ss) (λi v hP=>?_) (by lia) (FH ss) (λi T c hi h=>X1 (by lia) h) (λ_ _ _ h=>h.1)
  its.toArray.size 0 _ (λ_=>false) 0 (by lia) (bu _) ⟨⟨_,cI _ rfl,rfl,rfl⟩,(hl.push _).push _⟩ ⟨aW _,⟨λ_=>iT,λ_=>rfl⟩,λk=>⟨λz=>(by cases z),λ⟨x,hx,_⟩=>by cases hx⟩⟩
  ⟨lz b,#[],0,.fresh 0 0 b,bL _ (cI _ rfl),⟨rfl,rfl,rfl⟩,rfl,(λe he=>by cases he),(λk=>⟨λz=>(by cases z),λ⟨e,he,_⟩=>by cases he⟩),(by decide),rfl,rfl⟩ λh' tk T c hk hj hS=>?_
 .show l≠(s.heap.push (lz b)).objs.size
  rw[qZ]
  exact bZ (nB aT)
 .intro z
  have z:s.heap.objs.size=(s.heap.push (lz b)).objs.size\/s.heap.objs.size=l:=by simpa using z
  rw[qZ] at z
  rcases z with z | z
  .exact bZ (qS _) z
  .exact bZ aT z.symm
 .have hv:its[i]? = some v:=by simpa using hP
  have hi:i<ss.length:=by rw[<-hlen];exact(cg.mp hv).1
  obtain⟨u',e1,e2⟩:=rv.get (i:=i) (x:=V.str ss[i]) (by simp[hi])
  rw[hv] at e1
  cases e1
  obtain⟨t,rfl⟩:=e2
  have ek:pU ss i=Sum.inr ss[i]:=by unfold pU;rw[bb hi];rfl
  rw[ek]
  exact⟨DX ss[i] t,rfl⟩
 .rw[hT] at hj
  obtain⟨_,h2,_⟩:=hj
  rw[DQ] at h2
  have yf:=hS
  obtain⟨o,es,ep,tt,ho,_⟩:=yf
  refine⟨.ref s.heap.objs.size,_,I.laid (t':=tk) (λb' o' e=>?_) ?_ (show c5 X.prog X.w _ h' _ (.ext (uT X.prog X.w s.heap.objs.size T c)) from⟨hS,⟨o,ho⟩,λh1 h3 x k=>?_⟩),rfl,q _ T c (I.aD.fresh (aW _)) h2⟩
  .have hb:=bS e
   refine hk b' o' (λz=>?_) (λz=>?_) (bL _ (bL _ e))
   .have z:b'=(s.heap.push (lz b)).objs.size:=by simpa using z
    rw[qZ] at z
    exact bZ (nB hb) z
   .exact bZ hb z
  .exact aW _
  .obtain⟨o,es,ep,tt,ho,r⟩:=x
   exact⟨o,es,ep,tt,k _ ho,r⟩
theorem X3:gn X (.builtin "len") (λxs H Q=>∃p T c,xs=[.ref p]/\H p=some (.ext (uT X.prog X.w p T c))/\Q (.int (c:Nat)) H):=by
 intro pins s O H xs us Q I r h
 obtain⟨p,T,c,rfl,hp,q⟩:=h
 obtain⟨u,rfl,rx⟩:=vals1 r
 cases rx
 obtain⟨hS,_⟩:=(show c5 X.prog X.w H s.heap p (.ext (uT X.prog X.w p T c)) from I.aD p _ hp)
 obtain⟨o,es,ep,t,ho,hx,hd,_,_,hb,hf,hc⟩:=hS
 have sH:scanBound<=2 ^ 62:=by decide
 refine call_len_set ho hx hd hf (by lia) ⟨.int (c:Nat),H,(I.tok _).tok _,⟨s.toks+1,by rw[hc]⟩,q⟩
def X4:bootBuiltins "set"=some (.type "set"):=by decide +kernel
end L2
namespace L2
open PySem
theorem FI{α:Type}[DecidableEq α]:∀{l m:List α},l.Nodup->(∀x∈l,x∈m)->l.length<=m.length
 |[],m,_,_=>bu _
 |a::l,m,nd,h=>by
  have ha:=h a bt
  have h1:=FI (gM.mp nd).2 (m:=m.erase a) λx mx=>(List.mem_erase_of_ne λz:x=a=>(gM.mp nd).1 (by rw[<-z];exact mx)).mpr (h x (bX _ mx))
  rw[List.length_erase_of_mem ha] at h1
  have:=List.length_pos_of_mem ha
  rw[dC]
  lia
end L2
namespace L2
open PySem PySem.Spec PyProof.Rows
variable{vs:List V}{js:List Nat}
theorem X5{J:It}{Ok:Hp->Prop}{tt:TT}{te:TE}{O:St}{H1:Hp}{Q:VK}(S:l9 J Ok vs)(hn:vs.length<=10000)(R:Addr->Nat->List V->Hp->Prop)
  (h0:∀D,H1 D=none->R D 0 [] (upd H1 D (.lst []))) (hR:∀D i ys H,R D i ys H->Ok H/\ys.length<=i)
  (hs:∀D i x ys H (Z0:Hp->Prop) (Z:V->Hp->Prop),H1 D=none->vs[i]? = some x->R D i ys H->(∀H2,R D (i+1) ys H2->Z0 H2)->(∀y H3,H3 D=some (.lst ys)->R D (i+1) (ys++[y]) (upd H3 D (.lst (ys++[y])))->Z y H3)->
   tt (some x::eJ js O) H λb H2=>if b=true then te (some x::eJ js O) H2 Z else Z0 H2)
  (hd:∀D ys H,H1 D=none->R D vs.length ys H->Q (.ref D) H):AX js tt te O J H1 Q:=by
 intro D hD
 have hz:10000<sizeLine:=by decide
 refine⟨λi m H=>m=vs.length - i/\i<=vs.length/\∃ys,R D i ys H,⟨vs.length,by simp,bu _,[],h0 D hD⟩,?_⟩
 rintro i m H ⟨rfl,hi,ys,r⟩
 obtain⟨ok,ln⟩:=hR D i ys H r
 by_cases aT:i<vs.length
 .refine .inr ⟨S.go i H ok aT,λx H' y=>?_⟩
  obtain⟨e,yy⟩:=S.fU i H x H' ok aT y
  subst e
  refine hs D i x ys H' _ _ hD yy r (λH2 h=>?_) (λz H3 h1 h2=>?_)
  .exact⟨vs.length - (i+1),by lia,rfl,aT,ys,h⟩
  .exact⟨ys,h1,by lia,vs.length - (i+1),by lia,rfl,aT,_,h2⟩
 .have e:i=vs.length:=by lia
  subst e
  exact .inl ⟨S.stop H ok,hd D ys H hD r⟩
theorem M6:∀{is:List Int}{its:List Value},Vals (is.map V.int) its->IntsAre its is
 |[],_,.nil=>.nil
 |_::_,_,.cons h t=>by
  obtain⟨u,rfl⟩:=h
  exact .cons _ u (M6 t)
theorem X6{X:Cx}(hc:X.calm=true):gn X (.builtin "max") (λxs H Q=>∃(a:Addr) (is:List Int),xs=[.ref a]/\ai X.K H a (is.map V.int)/\0<is.length/\∀M,M∈is->(∀x∈is,x<=M)->Q (.int M) H):=by
 intro pins s O H xs us Q I r h
 obtain⟨l,is,rfl,hq,hn,q⟩:=h
 obtain⟨u,rfl,ru⟩:=vals1 r
 cases ru
 obtain⟨its,rv,pl,hz⟩:=I.list hq
 have hi:=M6 rv
 obtain⟨ys,e⟩:=hi.allInts.items
 have uA:is=ys.toList.map (·.1):=by
  rw[<-hi.numsOf,<-nums_intItems,<-e]
 have hl:=pl.isList
 rw[e] at hl
 have hsz:0<ys.size:=by
  rw[uA,av,nt] at hn
  exact hn
 refine max_intList (I.ok.hd hc) hl hsz λv h' tk hv hk=>?_
 obtain⟨t,rfl⟩:=intItems_at hv
 obtain⟨h1,h2⟩:=argBest_gt (numAt ys) (ys.size - 1)
 refine⟨.int _,H,I.kept λb o e=>hk b o e,⟨_,rfl⟩,q _ ?_ λa ha=>?_⟩
 .rw[uA,numAt_eq]
  exact getD_mem (by rw[av,nt];lia)
 .rw[uA] at ha
  obtain⟨j,hj,rfl⟩:=mem_getD ha
  rw[av,nt] at hj
  rw[<-numAt_eq]
  exact h2 j (by lia)
end L2
namespace Cw
open PySem
variable{x:Str}{ch h i j n w:Nat}{c d:C2}{α:Type}{l:List Str}{cs:List C2}
def mE{y:Str}(h:x.cps.toList=y.cps.toList):x=y:=by
 cases x;cases y
 exact fh Str.mk (Array.toList_inj.mp h)
def mF(x y:Str):(x++y).cps.toList=x.cps.toList++y.cps.toList:=by
 show(x.cps++y.cps).toList=_
 simp
def b9(x:Str):x.cps.toList.length=x.length:=by simp[Str.length]
noncomputable def cellAt(ns:List Int)(k:Nat):Int:=ns.getD k 0
def pV(c:Nat):Prop:=c=35\/c=46\/(97<=c/\c<=122)
structure bo(l:List Str)(w:Nat):Prop where
 one:1<=l.length
 nine:l.length<=9
 w1:1<=w
 w9:w<=9
 len:∀x∈l,x.length=w
 ok:∀x∈l,∀c∈x.cps.toList,pV c
noncomputable def iG:Str:="abcdefghijklmnopqrstuvwxyz"
def Bs:iG.cps.toList=(List.range 26).map (97 + ·):=by decide +kernel
noncomputable def cells(h w:Nat):List (Nat×Nat):=(List.range h).flatMap λi=>(List.range w).map λj=>(i,j)
def FJ(h w:Nat):cells (h+1) w=cells h w++(List.range w).map λj=>(h,j):=by
 unfold cells
 rw[nC,J3]
 simp
def mG(h w:Nat):(cells h w).length=h*w:=by
 induction h with
 |zero=>simp[cells]
 |succ h ih=>rw[FJ,dE,ih,av,kM,iQ]
theorem yg{w:Nat}:∀{h i j:Nat},i<h->j<w->(cells h w)[i*w+j]? = some (i,j)
 |0,_,_,hi,_=>absurd hi (iu _)
 |h+1,i,j,hi,hj=>by
  rw[FJ]
  by_cases e:i<h
  .have:i*w+j<(cells h w).length:=by
    rw[mG]
    have h1:(i+1)*w<=h*w:=DT w e
    rw[iQ] at h1
    lia
   rw[JO this]
   exact yg e hj
  .have e:i=h:=by lia
   subst e
   rw[zT (by rw[mG];lia),mG,Nat.add_sub_cancel_left,bE,qY hj]
   rfl
def sI{c:Nat×Nat}(m:c∈cells h w):c.1<h/\c.2<w:=by
 unfold cells at m
 obtain⟨i,hi,m⟩:=Ad.mp m
 obtain⟨j,hj,rfl⟩:=bM.mp m
 exact⟨ip.mp hi,ip.mp hj⟩
def X7(hi:i<h)(hj:j<w):(i,j)∈cells h w:=bj (yg hi hj)
def FN{c:Nat×Nat}(e:(cells h w)[n]? = some c):n=c.1*w+c.2/\c.1<h/\c.2<w:=by
 have hn:n<h*w:=by rw[<-mG];exact(cg.mp e).1
 have hw:0<w:=by
  rcases Nat.eq_zero_or_pos w with z | z
  .rw[z] at hn;simp at hn
  .exact z
 have hi:n / w<h:=Ka (by rw[oU];exact hn)
 have hj:n % w<w:=Nat.mod_lt _ hw
 have q:=yg hi hj
 have e2:n / w*w+n % w=n:=by rw[oU];exact Nat.div_add_mod n w
 rw[e2,e] at q
 cases q
 exact⟨e2.symm,hi,hj⟩
def M7(hi:i<h)(hj:j<w):(cells h w).take (i*w+j+1)=(cells h w).take (i*w+j)++[(i,j)]:=by
 rw[fL,yg hi hj]
 rfl
noncomputable def sg(l:List Str)(c:Nat×Nat):Nat:=((l.getD c.1 ⟨#[]⟩).cps.toList).getD c.2 0
def bW{l:List α}{x d:α}(h:l[i]? = some x):l.getD i d=x:=by rw[bT,h];rfl
def bo.row(S:bo l w)(hi:i<l.length):∃x,l[i]? = some x/\x∈l/\x.length=w/\x.cps.toList.length=w/\∀j,j<w->x.cps.toList[j]? = some (sg l (i,j)):=by
 refine⟨l[i],bb hi,nF hi,S.len _ (nF hi),by rw[b9];exact S.len _ (nF hi),λj hj=>?_⟩
 have hl:j<l[i].cps.toList.length:=by rw[b9,S.len _ (nF hi)];exact hj
 unfold sg
 rw[bW (bb hi),bb hl]
 simp only[bW (bb hl)]
noncomputable def bY(l:List Str)(c:Nat×Nat):Bool := !decide (sg l c=35)
noncomputable def Bt(l:List Str)(c:Nat×Nat):Bool:=decide (sg l c=46)
noncomputable def bV(l:List Str)(w:Nat):List (Nat×Nat):=(cells l.length w).filter (bY l)
noncomputable def fN(l:List Str)(w:Nat):List (Nat×Nat):=(cells l.length w).filter (Bt l)
def yh(S:bo l w):(cells l.length w).length<=81:=by
 rw[mG]
 exact Aa S.nine S.w9
noncomputable def bP(x:Str)(j ch:Nat):Str:=⟨(x.cps.toList.take j++ch::x.cps.toList.drop (j+1)).toArray⟩
noncomputable def setC(l:List Str)(c:Nat×Nat)(ch:Nat):List Str:=l.set c.1 (bP (l.getD c.1 ⟨#[]⟩) c.2 ch)
def dz(l:List Str)(c:Nat×Nat)(ch:Nat):(setC l c ch).length=l.length:=by unfold setC;rw[JP]
theorem yi(h:j<x.length):(bP x j ch).length=x.length:=by
 show(x.cps.toList.take j++ch::x.cps.toList.drop (j+1)).toArray.size=x.length
 have hl:x.cps.toList.length=x.length:=b9 x
 rw[bp,dE,kL,dC,DL,hl]
 lia
theorem FO{k:Nat}(h:j<x.length)(hk:k<x.length):(bP x j ch).cps.toList[k]? = if k=j then some ch else x.cps.toList[k]? :=by
 have hl:x.cps.toList.length=x.length:=b9 x
 have e:(bP x j ch).cps.toList=x.cps.toList.take j++ch::x.cps.toList.drop (j+1):=by simp[bP]
 have ht:(x.cps.toList.take j).length=j:=by rw[kL];lia
 rw[e]
 rcases Nat.lt_trichotomy k j with h1 | h1 | h1
 .rw[ax (by lia),JO (by lia),DI h1]
 .subst h1
  rw[aA rfl,zT (by lia),ht,Nat.sub_self]
  rfl
 .rw[ax (by lia),zT (by lia),ht]
  obtain⟨m,rfl⟩:∃m,k=j+1+m:=⟨k - (j+1),by lia⟩
  rw[show j+1+m - j=m+1 by lia,List.getElem?_cons_succ,List.getElem?_drop]
def FQ{a b:Str}(ha:a.cps.toList=x.cps.toList.take j)(hb:b.cps.toList=x.cps.toList.drop (j+1)):a++⟨#[ch]⟩++b=bP x j ch:=by
 apply mE
 rw[mF,mF,ha,hb]
 simp[bP]
def X8(h:∀c∈x.cps.toList,pV c)(hc:pV ch):∀c∈(bP x j ch).cps.toList,pV c:=λc m=>by
 have m:c∈x.cps.toList.take j++ch::x.cps.toList.drop (j+1):=by simpa[bP] using m
 rcases cV.mp m with z | z
 .exact h c (Ae z)
 .rcases cf.mp z with z | z
  .rw[z];exact hc
  .exact h c (Sf z)
theorem Bu(S:bo l w){c:Nat×Nat}(h1:c.1<l.length)(h2:c.2<w)(hc:pV ch):bo (setC l c ch) w:=by
 obtain⟨x,hx,mx,lx,pW,hj⟩:=S.row h1
 refine⟨by rw[dz];exact S.one,by rw[dz];exact S.nine,S.w1,S.w9,λy my=>?_,λy my=>?_⟩
 .unfold setC at my
  rcases Kb my with z | z
  .exact S.len y z
  .rw[z,bW hx,yi (by lia),lx]
 .unfold setC at my
  rcases Kb my with z | z
  .exact S.ok y z
  .rw[z,bW hx]
   exact X8 (S.ok x mx) hc
abbrev C2:=Nat×Nat
noncomputable def go(c d:C2)(n:Nat):C2:=(c.1+n*d.1,c.2+n*d.2)
noncomputable def line(c d:C2)(n:Nat):List C2:=(List.range n).map (go c d)
def ja(c d:C2):go c d 0=c:=by simp[go]
def go_succ(c d:C2)(n:Nat):go c d (n+1)=((go c d n).1+d.1,(go c d n).2+d.2):=by
 simp only[go,iQ,Nat.add_assoc]
def M8(c d:C2)(n:Nat):line c d (n+1)=line c d n++[go c d n]:=by
 unfold line
 rw[nC,dF]
 rfl
def sJ(c d:C2)(n:Nat):(line c d n).length=n:=by simp[line]
noncomputable def runN(op:C2->Bool)(d:C2):Nat->C2->Nat
 |0,_=>0
 |f+1,c=>if op c=true then runN op d f (c.1+d.1,c.2+d.2)+1 else 0
theorem FR{op:C2->Bool}{d:C2}:∀{f n:Nat}{c:C2},n<f->(∀k,k<n->op (go c d k)=true)->op (go c d n)=false->runN op d f c=n
 |0,_,_,h,_,_=>absurd h (iu _)
 |f+1,0,c,_,_,h=>by
  rw[ja] at h
  unfold runN
  rw[h,ax b0]
 |f+1,n+1,c,hf,hk,h=>by
  have h0:=hk 0 (Nat.succ_pos _)
  rw[ja] at h0
  have e:∀k,go c d (k+1)=go (c.1+d.1,c.2+d.2) d k:=λk=>by
   simp only[go,iQ,nG]
   lia
  unfold runN
  rw[h0,aA rfl,FR (f:=f) (n:=n) (by lia) (λk q=>by rw[<-e];exact hk (k+1) (by lia)) (by rw[<-e];exact h)]
noncomputable def gW(op:C2->Bool)(d c:C2):Bool:=decide (d.1<=c.1)&&(decide (d.2<=c.2)&&op (c.1 - d.1,c.2 - d.2))
noncomputable def cb(op:C2->Bool)(d c:C2):List C2:=if gW op d c=true then [] else if runN op d 10 c<2 then [] else line c d (runN op d 10 c)
noncomputable abbrev n5(op:C2->Bool):C2->List C2:=cb op (0,1)
noncomputable abbrev mH(op:C2->Bool):C2->List C2:=cb op (1,0)
noncomputable def eF(op:C2->Bool)(c:C2):Bool := !(n5 op c).isEmpty || !(mH op c).isEmpty
noncomputable def eA(op:C2->Bool)(cs:List C2):Nat:=(cs.filter (eF op)).length
def M9(op:C2->Bool)(cs:List C2)(c:C2):eA op (cs++[c])=if eF op c=true then eA op cs+1 else eA op cs:=by
 unfold eA
 rw[jY,dw,oX]
 split
 .rw[dE];rfl
 .rw[dJ]
noncomputable def dq(op:C2->Bool)(f:C2->List C2):Nat->List C2->List (Nat×List C2)
 |_,[]=>[]
 |n,c::r=>if (f c).isEmpty=true then dq op f (if eF op c=true then n+1 else n) r else (if eF op c=true then n+1 else n,f c)::dq op f (if eF op c=true then n+1 else n) r
theorem Na(op:C2->Bool)(f:C2->List C2)(c:C2):∀(n:Nat) (cs:List C2),dq op f n (cs++[c]) =
  dq op f n cs++if (f c).isEmpty=true then [] else [(if eF op c=true then n+eA op cs+1 else n+eA op cs,f c)]
 |n,[]=>by
  show dq op f n [c]=[]++_
  unfold dq
  simp only[dq,DM]
  rfl
 |n,x::r=>by
  have ih:=Na op f c (if eF op x=true then n+1 else n) r
  have e:eA op (x::r)=(if eF op x=true then 1 else 0)+eA op r:=by
   unfold eA
   rw[dw]
   split
   .rw[dC,Nat.add_comm]
   .rw[wX]
  have e2:(if eF op x=true then n+1 else n)+eA op r=n+eA op (x::r):=by
   rw[e]
   split <;> lia
  rw[e2] at ih
  show dq op f n (x::(r++[c]))=_
  unfold dq
  rw[ih]
  split
  .rfl
  .rfl
def FT{op:C2->Bool}(h:(n5 op c).isEmpty=false):eF op c=true:=by unfold eF;rw[h];rfl
def FU{op:C2->Bool}(h:(mH op c).isEmpty=false):eF op c=true:=by unfold eF;rw[h];simp
theorem Nb{op:C2->Bool}{f:C2->List C2}(hf:∀c,(f c).isEmpty=false->eF op c=true):∀{n:Nat}{cs:List C2}{q:Nat×List C2},q∈dq op f n cs->
  n<q.1/\∃c,(cs.filter (eF op))[q.1 - n - 1]? = some c/\c∈cs/\q.2=f c/\(f c).isEmpty=false
 |n,[],q,h=>by simp[dq] at h
 |n,x::r,q,h=>by
  unfold dq at h
  have step:q∈dq op f (if eF op x=true then n+1 else n) r->n<q.1/\∃c,((x::r).filter (eF op))[q.1 - n - 1]? = some c/\c∈x::r/\q.2=f c/\(f c).isEmpty=false:=λh=>by
   obtain⟨h1,c,h2,h3,h4⟩:=Nb hf h
   rw[dw]
   by_cases e:eF op x=true
   .rw[aA e] at h1 h2 ⊢
    refine⟨by lia,c,?_,bX _ h3,h4⟩
    have:q.1 - n - 1=(q.1 - (n+1) - 1)+1:=by lia
    rw[this,List.getElem?_cons_succ]
    exact h2
   .rw[ax e] at h1 h2 ⊢
    exact⟨h1,c,h2,bX _ h3,h4⟩
  split at h
  .exact step h
  .rename_i he
   rcases cf.mp h with z | z
   .have he:(f x).isEmpty=false:=gi.mpr he
    have hx:=hf x he
    subst z
    rw[aA hx]
    refine⟨qS _,x,?_,bt,rfl,he⟩
    rw[dw,aA hx,show n+1 - n - 1=0 by lia]
    rfl
   .exact step z
noncomputable def bz(l:List Str)(w:Nat)(c:C2):Bool:=decide (c.1<l.length)&&(decide (c.2<w)&&bY l c)
def pX(h:bz l w c=true):c.1<l.length/\c.2<w/\bY l c=true:=by
 unfold bz at h
 simp only[eP,decide_eq_true_eq] at h
 exact⟨h.1,h.2.1,h.2.2⟩
def mI(h1:c.1<l.length)(h2:c.2<w):bz l w c=bY l c:=by
 unfold bz
 rw[aJ h1,aJ h2,Af,Af]
noncomputable def gX(l:List Str)(w:Nat):List (Nat×List C2):=dq (bz l w) (n5 (bz l w)) 0 (bV l w)
noncomputable def n6(l:List Str)(w:Nat):List (Nat×List C2):=dq (bz l w) (mH (bz l w)) 0 (bV l w)
def Dir(d:C2):Prop:=d=(0,1)\/d=(1,0)
theorem go_inj{x:C2}(hd:Dir d)(h:go x d i=go x d j):i=j:=by
 rcases hd with rfl | rfl
 .simp only[go,nG,iz,o8] at h;lia
 .simp only[go,nG,iz,o8] at h;lia
theorem Nc(x d:C2)(i j:Nat):go (go x d i) d j=go x d (i+j):=by
 simp only[go,nG,Nat.add_mul]
 lia
theorem go_eq{x y:C2}(hd:Dir d)(uU:i<=j)(h:go x d i=go y d j):x=go y d (j - i):=by
 rcases hd with rfl | rfl
 .simp only[go,nG,iz,o8] at h
  refine DU.mpr ?_
  simp only[go,iz,o8]
  lia
 .simp only[go,nG,iz,o8] at h
  refine DU.mpr ?_
  simp only[go,iz,o8]
  lia
theorem Nd{op:C2->Bool}{x:C2}(hd:Dir d){k:Nat}(h:op (go x d k)=true):gW op d (go x d (k+1))=true:=by
 have e:((go x d (k+1)).1 - d.1,(go x d (k+1)).2 - d.2)=go x d k:=by
  rcases hd with rfl | rfl
  .simp only[go,nG,iz,o8];lia
  .simp only[go,nG,iz,o8];lia
 unfold gW
 rw[e,h,aJ,aJ]
 .rfl
 .rcases hd with rfl | rfl
  .simp only[go,iz];lia
  .simp only[go,o8];lia
 .rcases hd with rfl | rfl
  .simp only[go,o8];lia
  .simp only[go,iz];lia
theorem X9{op:C2->Bool}(hd:Dir d)(h:gW op d c=true):∃b,c=go b d 1/\op b=true/\b.1+b.2<c.1+c.2:=by
 unfold gW at h
 simp only[eP,decide_eq_true_eq] at h
 refine⟨_,?_,h.2.2,?_⟩
 .refine DU.mpr ?_
  simp only[go,Nat.one_mul]
  lia
 .rcases hd with rfl | rfl
  .have:=h.2.1;simp only at this ⊢;lia
  .have:=h.1;simp only at this ⊢;lia
theorem uV{op:C2->Bool}{d:C2}:∀{f:Nat}{c:C2}{k:Nat},k<runN op d f c->op (go c d k)=true
 |0,_,_,h=>by unfold runN at h;exact absurd h (iu _)
 |f+1,c,k,h=>by
  unfold runN at h
  split at h
  .rename_i ho
   cases k with
   |zero=>rw[ja];exact ho
   |succ k=>
    have:=uV (op:=op) (d:=d) (f:=f) (c:=(c.1+d.1,c.2+d.2)) (k:=k) (by lia)
    have e:go c d (k+1)=go (c.1+d.1,c.2+d.2) d k:=by
     simp only[go,iQ,nG]
     lia
    rw[e]
    exact this
  .exact absurd h (iu _)
theorem FV{op:C2->Bool}{d:C2}:∀{f n:Nat}{c:C2},n<=f->(∀k,k<n->op (go c d k)=true)->n<=runN op d f c
 |_,0,_,_,_=>bu _
 |0,n+1,_,h,_=>absurd h (Nat.not_succ_le_zero _)
 |f+1,n+1,c,h,hk=>by
  have h0:=hk 0 (Nat.succ_pos _)
  rw[ja] at h0
  unfold runN
  rw[h0,aA rfl]
  refine lS (FV (Nat.le_of_succ_le_succ h) λk q=>?_)
  have e:go c d (k+1)=go (c.1+d.1,c.2+d.2) d k:=by
   simp only[go,iQ,nG]
   lia
  rw[<-e]
  exact hk (k+1) (by lia)
theorem FW{op:C2->Bool}{x:C2}(h:c∈cb op d x):¬gW op d x=true/\2<=runN op d 10 x/\∃k,k<runN op d 10 x/\go x d k=c:=by
 unfold cb at h
 split at h
 .exact absurd h fm
 .rename_i h1
  split at h
  .exact absurd h fm
  .obtain⟨k,hk,e⟩:=bM.mp h
   exact⟨h1,by lia,k,ip.mp hk,e⟩
theorem Ya{op:C2->Bool}{x:C2}(h1:¬gW op d x=true)(h2:2<=runN op d 10 x){k:Nat}(hk:k<runN op d 10 x)(e:go x d k=c):c∈cb op d x:=by
 unfold cb
 rw[ax h1,ax (by lia)]
 exact bM.mpr ⟨k,ip.mpr hk,e⟩
theorem Yb{op:C2->Bool}{x y:C2}(hd:Dir d)(hx:c∈cb op d x)(hy:c∈cb op d y):x=y:=by
 obtain⟨px,_,i,hi,ei⟩:=FW hx
 obtain⟨py,_,j,hj,ej⟩:=FW hy
 have key:∀{x y:C2}{i j:Nat},¬gW op d x=true->j<runN op d 10 y->i<=j->go x d i=c->go y d j=c->x=y:=λ{x y i j} px hj uU ei ej=>by
  have e:=go_eq hd uU (ei.trans ej.symm)
  cases hz:j - i with
  |zero=>rw[hz,ja] at e;exact e
  |succ z=>
   rw[hz] at e
   exact absurd (by rw[e];exact Nd hd (uV (f:=10) (by lia))) px
 rcases Nat.le_total i j with h | h
 .exact key px hj h ei ej
 .exact(key py hi h ej ei).symm
theorem Yc{op:C2->Bool}(hd:Dir d):∀(k:Nat) (c:C2),c.1+c.2=k->op c=true->∃x i,c=go x d i/\¬gW op d x=true/\∀j,j<=i->op (go x d j)=true:=by
 intro k
 induction k using Nat.strongRecOn with
 |_ k ih=>
  intro c hc ho
  by_cases hp:gW op d c=true
  .obtain⟨b,e,hb,aT⟩:=X9 hd hp
   obtain⟨x,i,ex,px,ox⟩:=ih (b.1+b.2) (by lia) b rfl hb
   refine⟨x,i+1,?_,px,λj hj=>?_⟩
   .rw[e,ex,Nc]
   .rcases Nat.lt_or_eq_of_le hj with z | z
    .exact ox j (by lia)
    .rw[z,<-Nc,<-ex,<-e];exact ho
  .refine⟨c,0,by rw[ja],hp,λj hj=>?_⟩
   have:j=0:=by lia
   rw[this,ja];exact ho
noncomputable def gY(op:C2->Bool)(d c:C2):Bool:=op c&&(gW op d c||op (go c d 1))
theorem Yd{op:C2->Bool}(hd:Dir d)(hb:∀c,op c=true->c.1<9/\c.2<9)(h:gY op d c=true):∃x,op x=true/\c∈cb op d x:=by
 unfold gY at h
 simp only[eP,wO] at h
 obtain⟨ho,hs⟩:=h
 obtain⟨x,i,e,px,ox⟩:=Yc hd _ c rfl ho
 have hx:op x=true:=by have:=ox 0 (bu _);rw[ja] at this;exact this
 have hi:i<=8:=by
  have:=hb c ho
  rcases hd with rfl | rfl
  .rw[e] at this;simp only[go,iz] at this;lia
  .rw[e] at this;simp only[go,iz] at this;lia
 have h1:i+1<=runN op d 10 x:=FV (by lia) λk hk=>ox k (by lia)
 have h2:2<=runN op d 10 x:=by
  rcases Nat.eq_zero_or_pos i with z | z
  .subst z
   rw[ja] at e
   subst e
   have hn:op (go c d 1)=true:=by
    rcases hs with hs | hs
    .exact absurd hs px
    .exact hs
   refine FV (by lia) λk hk=>?_
   rcases(by lia:k=0\/k=1) with z | z
   .rw[z,ja];exact ho
   .rw[z];exact hn
  .lia
 exact⟨x,hx,Ya px h2 (by lia) e.symm⟩
theorem Ye{op:C2->Bool}{x:C2}(hd:Dir d)(h:c∈cb op d x):gY op d c=true:=by
 obtain⟨px,h2,k,hk,e⟩:=FW h
 have ho:op c=true:=by rw[<-e];exact uV hk
 unfold gY
 rw[ho,Af,wO]
 cases k with
 |zero=>
  rw[ja] at e
  rw[<-e]
  exact .inr (uV (f:=10) (by lia))
 |succ k=>rw[<-e];exact .inl (Nd hd (uV (f:=10) (by lia)))
def Yf(hd:Dir d)(n:Nat):(line c d n).Nodup:=by
 unfold line
 refine List.Pairwise.map _ (λi j uU=>?_) (List.nodup_range (n:=n))
 exact λe=>uU (go_inj hd e)
def FX{op:C2->Bool}{x:C2}(hd:Dir d):(cb op d x).Nodup:=by
 unfold cb
 split
 .exact iT
 .split
  .exact iT
  .exact Yf hd _
noncomputable def cN(c:C2)(rs:List (Nat×List C2)):Nat:=(rs.map λq=>q.2.count c).sum
theorem Ng{op:C2->Bool}{f:C2->List C2}(c:C2):∀(n:Nat) (cs:List C2),cN c (dq op f n cs)=(cs.map λx=>(f x).count c).sum
 |n,[]=>rfl
 |n,x::r=>by
  have ih:=Ng (op:=op) (f:=f) c (if eF op x=true then n+1 else n) r
  unfold dq
  rw[bI,dG,<-ih]
  split
  .rename_i he
   rw[List.isEmpty_iff.mp he,List.count_nil,wX]
  .unfold cN
   rw[bI,dG]
theorem uW:∀{l:List Nat},(∀y∈l,y=0)->l.sum=0
 |[],_=>rfl
 |x::r,h=>by rw[dG,h x bt,uW λy hy=>h y (bX _ hy)]
theorem Nh{α:Type}[DecidableEq α]{g:α->Nat}{a:α}:∀{cs:List α},cs.Nodup->a∈cs->g a=1->(∀x∈cs,x≠a->g x=0)->(cs.map g).sum=1
 |[],_,h,_,_=>absurd h fm
 |x::r,nd,h,ga,gz=>by
  rw[bI,dG]
  obtain⟨n1,n2⟩:=gM.mp nd
  by_cases e:x=a
  .subst e
   have z:(r.map g).sum=0:=by
    have:∀y∈r.map g,y=0:=λy hy=>by
     obtain⟨u,hu,rfl⟩:=bM.mp hy
     exact gz u (bX _ hu) λe=>n1 (e ▸ hu)
    exact uW this
   rw[ga,z]
  .rcases cf.mp h with q | q
   .exact absurd q.symm e
   .rw[gz x bt e,wX]
    exact Nh n2 q ga λy hy=>gz y (bX _ hy)
theorem Yg(h w:Nat):(cells h w).Nodup:=by
 refine Kc.mpr λi j hi hj uU e=>?_
 have h1:(cells h w)[i]? = some (cells h w)[i]:=bb hi
 have h2:(cells h w)[j]? = some (cells h w)[j]:=bb hj
 rw[<-e] at h2
 obtain⟨e1,_⟩:=FN h1
 obtain⟨e2,_⟩:=FN h2
 lia
def Ni{op:C2->Bool}(hd:Dir d)(hb:∀c,op c=true->c.1<9/\c.2<9)(hn:cs.Nodup)(hc:∀x,op x=true->x∈cs):cN c (dq op (cb op d) n cs)=if gY op d c=true then 1 else 0:=by
 rw[Ng]
 by_cases h:gY op d c=true
 .rw[aA h]
  obtain⟨x,hx,hm⟩:=Yd hd hb h
  refine Nh hn (hc x hx) ?_ λy _ hy=>?_
  .exact Nat.le_antisymm (List.nodup_iff_count.mp (FX hd) c) (List.count_pos_iff.mpr hm)
  .refine Kd.mpr λz=>hy (Yb hd z hm)
 .rw[ax h]
  refine uW λy hy=>?_
  obtain⟨u,hu,rfl⟩:=bM.mp hy
  exact Kd.mpr λz=>h (Ye hd z)
def Bv(l:List Str)(w:Nat):(bV l w).Nodup:=List.Pairwise.filter _ (Yg _ _)
def yj(h:bz l w c=true):c∈bV l w:=by
 obtain⟨h1,h2,h3⟩:=pX h
 exact cy.mpr ⟨X7 h1 h2,h3⟩
theorem Nj(S:bo l w):∀c,bz l w c=true->c.1<9/\c.2<9:=λc h=>by
 obtain⟨h1,h2,_⟩:=pX h
 have:=S.nine
 have:=S.w9
 lia
def Bw(S:bo l w)(c:C2):cN c (gX l w)=if gY (bz l w) (0,1) c=true then 1 else 0:=Ni (.inl rfl) (Nj S) (Bv l w) λ_ h=>yj h
def FY(S:bo l w)(c:C2):cN c (n6 l w)=if gY (bz l w) (1,0) c=true then 1 else 0:=Ni (.inr rfl) (Nj S) (Bv l w) λ_ h=>yj h
end Cw
namespace Cw
open PySem L2
variable{ns:List Int}{H H' H1:Hp}{c d:C2}{x:Str}{a ch h i j n pl w:Nat}{es ks l m ps s ws:List Str}{K:Frag}{o p:Nat×Nat}{xs ys zs:List V}{α β:Type}{f:C2->List C2}{cs r:List C2}{q:Nat×List C2}{C CB CG CS b dx kn ww:Addr}{kvs:List (Key×V)}{dv:Value}{u v:V}{g g':C2->List (Nat×Nat)}{P:Nat->Prop}{R rs:List (List C2)}{wf:Str->Int}{ls:List Addr}{A:List (Nat×Nat)}{Z Z':Addr->Prop}
noncomputable def top(i:Nat):Stmt:=PySem.Challenge.pw_crosswright_k61_whole_best.main.body.getD i (.Pass ⟨0,0,0,0⟩)
structure Bl(mg:Str->Option Value):Prop where
 b7:mg "len"=none
 gD:mg "range"=none
 sM:mg "tuple"=none
 pY:mg "list"=none
 Nk:mg "str"=none
 jK:mg "isinstance"=none
 Nl:mg "all"=none
 uX:mg "sorted"=none
 yk:mg "enumerate"=none
 yl:mg "zip"=none
 Nm:mg "sum"=none
 Yh:mg "dict"=none
 Yi:mg "min"=none
 Yj:mg "reversed"=none
 Yk:mg "max"=none
 Nn:mg "bool"=none
 Np:mg "int"=none
 Yl:mg "set"=none
section
variable{P:Program}{w:World}{K:Frag}{mg:Str->Option Value}{base:Heap}{f:Addr}{fd:FuncData}
def ym(K:Frag):Sp:=λvs H Q _=>∃(a:Addr) (ns:List Int) (k:Nat),vs=[.ref a,.int k]/\ai K H a (ns.map V.int)/\Q (.int (cellAt ns k)) H
theorem Ym{k:Nat}(h:k<ns.length):(ns.map V.int)[k]? = some (.int (cellAt ns k)):=by grind [cellAt]
def Yn:bg ["_law_script","_law_k"] ["_law_script","_law_k"] (aV (top 54)):={}
theorem Yo(B:Bl mg)(F:aX K "_law_cell_at" "_law_cell_at" (top 54) f fd):aO P w K mg base aR 1 f fd ["_law_script","_law_k"] (ym K):=by
 refine F.bG Yn λaH A outer s H vs Q E hr h=>?_
 refine hide λG_ aF=>?_
 obtain⟨a,ns,k,rfl,hS,q⟩:=h
 refine aF.k ?_
 refine⟨_,(ar (bw (bR kW (pv 1) (bc d7 (by rfl) B.b7 b6 (ab (pv 0) ag)))
  (aw (aP (aM d6 (pv 0) (pv 1))))
  bC)
  (aw (aP az))),?_⟩
 try dsimp only[bA]
 refine⟨_,rfl,_,rfl,a,_,rfl,.inl hS,_,_,rfl,rfl,_,rfl,eE (λh=>?_) (λh=>?_)⟩
 .have h:(k:Int)<((ns.map V.int).length:Int):=fK h
  rw[av] at h
  exact⟨_,rfl,_,rfl,a,_,_,_,rfl,rfl,hS,c7 (Ym (by lia)),q⟩
 .have h:¬(k:Int)<((ns.map V.int).length:Int):=λz=>h (aJ z)
  rw[av] at h
  have e:cellAt ns k=0:=by
   unfold cellAt
   rw[bT,cW (by lia)]
   rfl
  rw[e] at q
  exact q
end
def mJ(H:Hp)(c:Nat×Nat)(x:V):Prop := ∃a,x = .ref a/\H a=some (.tup [.int c.1,.int c.2])
abbrev bH(H:Hp)(cs:List (Nat×Nat))(xs:List V):Prop:=Paired (mJ H) cs xs
def mJ.mono{c:Nat×Nat}{x:V}(s:af H H')(h:mJ H c x):mJ H' c x:=let ⟨a,e,q⟩:=h;⟨a,e,s _ _ q⟩
theorem mJ.off{D:Addr}{c:Nat×Nat}{x:V}(hD:∃o,H D=some (.lst o))(k:∀b o,b≠D->H b=some o->H' b=some o)(h:mJ H c x):mJ H' c x:=by grind [mJ]
theorem bH.mono{H H':Hp}{cs:List (Nat×Nat)}{xs:List V}(s:af H H')(h:bH H cs xs):bH H' cs xs:=Paired.bU h λ_ _ q=>q.mono s
theorem bH.off{H H':Hp}{D:Addr}{cs:List (Nat×Nat)}{xs:List V}(hD:∃o,H D=some (.lst o))(k:∀b o,b≠D->H b=some o->H' b=some o)(h:bH H cs xs):bH H' cs xs:=Paired.bU h λ_ _ q=>q.off hD k
theorem Bx(n m:Nat):decide (V.str ⟨#[n]⟩=V.str ⟨#[m]⟩)=decide (n=m):=by grind
def pZ:("#":Str)=⟨#[35]⟩:=by decide +kernel
def uY:(".":Str)=⟨#[46]⟩:=by decide +kernel
section
variable{P:Program}{w:World}{K:Frag}{mg:Str->Option Value}{base:Heap}{f:Addr}{fd:FuncData}
def eG(h:n<=10000):n<=sizeLine:=bQ h (by decide)
def uZ(h:n<=10000):n<sizeLine:=jX h (by decide)
def iH(h:l[i]? = some x):eT (l.map V.str) (i:Int)=some (.str x):=c7 (by rw[bE,h];rfl)
def FZ(K:Frag):Sp:=λvs H Q _=>∃(a b:Addr) (l:List Str) (w:Nat) (c:Nat×Nat),vs=[.ref a,.ref b]/\aq K H a (l.map V.str)/\bo l w/\aq K H b [.int c.1,.int c.2]/\c.1<l.length/\c.2<w/\Q (.str ⟨#[sg l c]⟩) H
def Yp:bg ["sheet","cell"] ["sheet","cell"] (aV (top 13)):={}
theorem Yq(F:aX K "sign_at" "sign_at" (top 13) f fd):aO P w K mg base aR 1 f fd ["sheet","cell"] (FZ K):=by
 refine F.bG Yp λaH A outer s H vs Q E hr h=>?_
 refine hide λG_ aF=>?_
 obtain⟨a,b,l,wd,c,rfl,hT,S,hb,h1,h2,q⟩:=h
 obtain⟨x,hx,mx,lx,pW,hj⟩:=S.row h1
 refine aF.k ?_
 have hw:=S.w9
 refine⟨_,(aw (aP (aM fV (aM bO (pv 0) (aM bO (pv 1) az)) (aM bO (pv 1) az)))),?_⟩
 try dsimp only[bA]
 exact⟨_,rfl,_,rfl,b,_,0,.int c.1,rfl,rfl,hb,rfl,a,_,_,.str x,rfl,rfl,hT,iH hx,_,rfl,b,_,1,.int c.2,rfl,rfl,hb,rfl,x,_,sg l c,rfl,rfl,eG (by lia),c7 (hj c.2 h2),q⟩
def By(K:Frag):Sp:=λvs H Q _=>∃(a b:Addr) (l:List Str) (w:Nat) (c:Nat×Nat),vs=[.ref a,.ref b]/\aq K H a (l.map V.str)/\bo l w/\aq K H b [.int c.1,.int c.2]/\c.1<l.length/\c.2<w/\Q (.bl (bY l c)) H
def Yr:bg ["sheet","cell"] ["sheet","cell"] (aV (top 14)):={}
def Ys(F:aX K "is_open" "is_open" (top 14) f fd)(F0:Cn mg "SHUT" (.str "#"))(F3:Fn P w K mg base "sign_at" 1 (FZ K)):aO P w K mg base aR 2 f fd ["sheet","cell"] (By K):=by
 refine F.bG Yr λaH A outer s H vs Q E hr h=>?_
 refine hide λG_ aF=>?_
 obtain⟨a,b,l,wd,c,rfl,hT,S,hb,h1,h2,q⟩:=h
 refine aF.k ?_
 refine⟨_,(aw (aP (nM iY (aU F3 hr (ab (pv 0) (ab (pv 1) ag))) (jH F0 (by rfl))))),?_⟩
 try dsimp only[bA]
 refine⟨_,rfl,_,rfl,a,b,l,wd,c,rfl,hT,S,hb,h1,h2,rfl,?_⟩
 rw[pZ,Bx]
 exact q
def Nq(K:Frag):Sp:=λvs H Q _=>∃(a:Addr) (l:List Str) (w:Nat),vs=[.ref a]/\aq K H a (l.map V.str)/\bo l w/\
 ∀p xs H',H p=none->af H H'->H' p=some (.lst xs)->bH H' (cells l.length w) xs->Q (.ref p) H'
def Bz:bg ["sheet","cells","line","column"] ["sheet"] (aV (top 12)):={}
theorem Yt(B:Bl mg)(F:aX K "all_cells" "all_cells" (top 12) f fd):aO P w K mg base aR 1 f fd ["sheet"] (Nq K):=by
 refine F.bG Bz λaH A outer s H vs Q E hr h=>?_
 refine hide λG_ aF=>?_
 obtain⟨a,l,wd,rfl,hT,S,q⟩:=h
 refine aF.k ?_
 have h9:=S.nine
 have hw:=S.w9
 have u0:=yh S
 refine⟨_,(ar (aK 1 Bz.nd (de ag))
  (ar (cF (gm (by rfl) B.gD (ab (bc d7 (by rfl) B.b7 b6 (ab (pv 0) ag)) ag)) (bN 2 Bz.nd)
  (aw (cF (gm (by rfl) B.gD (ab (bc eU (by rfl) B.b7 b6 (ab (aM bO (pv 0) (pv 2)) ag)) ag)) (bN 3 Bz.nd)
   (aw (fu (fB jv jZ j0 iC (pv 1) (ab (eS (ab (pv 2) (ab (pv 3) ag))) ag (hs:=cJ rfl))))))))
  (aw (aP (pv 1))))),?_⟩
 try dsimp only[bA]
 refine⟨bu _,λp hp=>?_⟩
 have eW:af H (upd H p (.lst [])):=af.upd hp
 refine⟨_,rfl,a,_,rfl,.inr (eW.tup hT),_,rfl,by rw[av];lia,by rw[av];lia,?_⟩
 rw[dQ,av]
 refine i5 (λi O H2=>∃v2 v3 xs,O=[some (.ref a),some (.ref p),v2,v3]/\af H H2/\H2 p=some (.lst xs)/\bH H2 ((cells l.length wd).take (i*wd)) xs)
  ⟨none,none,[],rfl,eW,ao,by rw[Nat.zero_mul,rb];exact .nil⟩ ?_ ?_
 .intro i O H2 hi Yu
  refine hide λG_ aZ=>?_
  obtain⟨v2,v3,xs,rfl,sm,hL,hC⟩:=Yu
  obtain⟨x,hx,mx,lx,pW,hj⟩:=S.row hi
  refine aZ.k ?_
  refine⟨_,rfl,_,rfl,a,_,_,.str x,rfl,rfl,sm.tup hT,iH hx,x,rfl,eG (by lia),_,rfl,by lia,by lia,?_⟩
  rw[dQ,lx]
  refine i5 (λj O H3=>∃v3 xs,O=[some (.ref a),some (.ref p),some (.int i),v3]/\af H H3/\H3 p=some (.lst xs)/\bH H3 ((cells l.length wd).take (i*wd+j)) xs)
   ⟨v3,xs,rfl,sm,hL,hC⟩ ?_ ?_
  .intro j O H3 Yv Yw
   refine hide λG_ bJ=>?_
   obtain⟨v3,ys,rfl,fQ,jb,jL⟩:=Yw
   refine bJ.k ?_
   refine⟨_,rfl,.inl ⟨rfl,_,ai.of jb⟩,_,rfl,_,rfl,by show 2<=sizeLine;decide,λt ht=>?_⟩
   have sN:t≠p:=br (bq jb ht)
   have Nr:upd H3 t (.tup [.int i,.int j]) p=some (.lst ys):=by rw[ak (br sN)];exact jb
   have hlen:ys.length<=81:=by
    have e1:=jL.length
    rw[kL] at e1
    lia
   refine⟨p,ys,_,rfl,rfl,Nr,uZ (by lia),some (.int j),ys++[.ref t],rfl,(fQ.trans (af.upd ht)).i0 hp,ao,?_⟩
   have off:∀b o,b≠p->upd H3 t (.tup [.int i,.int j]) b=some o->upd (upd H3 t (.tup [.int i,.int j])) p (.lst (ys++[.ref t])) b=some o:=λb o hb e=>by rw[ak hb];exact e
   have e2:i*wd+(j+1)=i*wd+j+1:=rfl
   rw[e2,M7 hi Yv]
   exact nA (bH.off ⟨ys,Nr⟩ off (bH.mono (af.upd ht) jL)) ⟨t,rfl,off t _ sN ao⟩
  .intro O H3 Yx
   refine hide λG_ cG=>?_
   obtain⟨v3,ys,rfl,fQ,jb,jL⟩:=Yx
   refine cG.k ?_
   refine⟨_,_,ys,rfl,fQ,jb,?_⟩
   rw[iQ]
   exact jL
 .intro O H2 Yy
  refine hide λG_ eX=>?_
  obtain⟨v2,v3,xs,rfl,sm,hL,hC⟩:=Yy
  refine eX.k ?_
  refine⟨_,rfl,q p xs H2 hp sm hL ?_⟩
  rw[fq (by rw[mG];exact aW _)] at hC
  exact hC
def F4(K:Frag):Sp:=λvs H Q _=>∃(a:Addr) (l:List Str) (w:Nat),vs=[.ref a]/\aq K H a (l.map V.str)/\bo l w/\
 ∀p xs H',H p=none->af H H'->H' p=some (.lst xs)->bH H' (bV l w) xs->Q (.ref p) H'
def Yz:bg ["sheet"] ["sheet"] (aV (top 10)):={}
theorem YA(F:aX K "open_cells" "open_cells" (top 10) f fd)(YB:Fn P w K mg base "all_cells" 1 (Nq K))(yn:Fn P w K mg base "is_open" 2 (By K)):aO P w K mg base aR 3 f fd ["sheet"] (F4 K):=by
 refine F.bG Yz λaH A outer s H vs Q E hr h=>?_
 refine hide λG_ aF=>?_
 obtain⟨a,l,wd,rfl,hT,S,q⟩:=h
 refine aF.k ?_
 have u0:=yh S
 refine⟨_,(aw (aP (fW (js:=[0]) (ns:=["sheet"]) (dn (aU YB hr (ab (pv 0) ag))) rfl rfl rfl rfl (λ_ _ _ _=>(lh (dS (aU yn hr (ab (pv 1) (ab (pv 0) ag)))))) (λ_ _ _ _=>(pv 0))))),?_⟩
 try dsimp only[bA]
 refine⟨_,rfl,a,l,wd,rfl,hT,S,λp xs H1 hp sm hL hC=>⟨p,rfl,⟨_,ai.of hL⟩,?_⟩⟩
 have hlx:=hC.length
 refine kd gB (by lia) (λi=>bY l ((cells l.length wd).getD i (0,0))) (λ_ i y _=>xs[i]? = some y) (λH2 s2=>ai.of (s2 _ _ hL)) (λ_ _ _ _ _ _ _ _ h=>h) ?_ ?_
 .intro D i x H2 Z0 Z hD hx s2 _ k0 k1
  refine hide λG_ aZ=>?_
  obtain⟨c,hc,b,rfl,hb⟩:=Paired.get hC hx
  obtain⟨_,m1,m2⟩:=FN hc
  refine aZ.k ?_
  have ec:(cells l.length wd).getD i (0,0)=c:=bW hc
  rw[ec] at k0 k1
  refine⟨_,rfl,_,rfl,a,b,l,wd,c,rfl,(sm.trans s2).tup hT,S,aq.of (s2 _ _ hb),m1,m2,_,rfl,eE (λh=>?_) (λh=>?_)⟩
  .exact⟨_,rfl,k1 _ _ (af.cA _) h hx⟩
  .exact k0 _ (af.cA _) (by simpa using h)
 .intro D ys H2 hD bh s2 pr
  refine q D ys H2 (sm.free hD) (sm.trans s2) bh ?_
  exact Paired.pick (bH.mono s2 hC) (bY l) _ (λi c e=>by rw[bW e]) pr
end
def qb(H:Hp)(way:Str)(q:Nat×List C2)(x:V):Prop := ∃a t xs,x = .ref a/\H a=some (.tup [.int q.1,.str way,.ref t])/\H t=some (.tup xs)/\bH H q.2 xs
abbrev fZ(H:Hp)(way:Str)(qs:List (Nat×List C2))(xs:List V):Prop:=Paired (qb H way) qs xs
theorem qb.mono{H H':Hp}{way:Str}{q:Nat×List C2}{x:V}(s:af H H')(h:qb H way q x):qb H' way q x:=let ⟨a,t,xs,e,h1,h2,h3⟩:=h;⟨a,t,xs,e,s _ _ h1,s _ _ h2,h3.mono s⟩
theorem qb.off{H H':Hp}{D:Addr}{way:Str}{q:Nat×List C2}{x:V}(hD:∃o,H D=some (.lst o))(k:∀b o,b≠D->H b=some o->H' b=some o)(h:qb H way q x):qb H' way q x:=by
 obtain⟨a,t,xs,e,h1,h2,h3⟩:=h
 have uP:=hD
 obtain⟨o,uP⟩:=uP
 exact⟨a,t,xs,e,k a _ (cx h1 uP (by intro z;cases z)) h1,k t _ (cx h2 uP (by intro z;cases z)) h2,bH.off hD k h3⟩
theorem fZ.mono{H H':Hp}{way:Str}{qs:List (Nat×List C2)}{xs:List V}(s:af H H')(h:fZ H way qs xs):fZ H' way qs xs:=Paired.bU h λ_ _ q=>q.mono s
theorem fZ.off{H H':Hp}{D:Addr}{way:Str}{qs:List (Nat×List C2)}{xs:List V}(hD:∃o,H D=some (.lst o))(k:∀b o,b≠D->H b=some o->H' b=some o)(h:fZ H way qs xs):fZ H' way qs xs:=Paired.bU h λ_ _ q=>q.off hD k
def Nt{p e:Addr}{o:HO}(hp:H p=some (.lst ys))(h:aq K H e xs):aq K (upd H p o) e xs:=by
 rcases h with (h | ⟨ob,h⟩) | h
 .exact .inl (.inl (by rw[ak (cx h hp (by intro z;cases z))];exact h))
 .exact .inl (.inr ⟨ob,by rw[ak (cx h hp (by intro z;cases z))];exact h⟩)
 .exact .inr h
noncomputable def iX(l:List Str)(w:Nat)(i j:Int):Bool:=decide (0<=i)&&(decide (i<(l.length:Int))&&(decide (0<=j)&&(decide (j<(w:Int))&&bY l (i.toNat,j.toNat))))
def F5(l:List Str)(w:Nat)(c:C2):iX l w (c.1:Int) (c.2:Int)=bz l w c:=by simp_all [C2,bz,iX]
theorem Nu(l:List Str)(w:Nat)(c d:C2):iX l w ((c.1:Int) - (d.1:Int)) ((c.2:Int) - (d.2:Int))=gW (bz l w) d c:=by
 unfold gW
 by_cases h1:d.1<=c.1
 .by_cases h2:d.2<=c.2
  .have e1:(c.1:Int) - (d.1:Int)=((c.1 - d.1:Nat):Int):=by lia
   have e2:(c.2:Int) - (d.2:Int)=((c.2 - d.2:Nat):Int):=by lia
   rw[e1,e2,F5 l w (c.1 - d.1,c.2 - d.2),aJ h1,aJ h2,Af,Af]
  .unfold iX
   rw[aN h2,iq,tY,aN (p:=(0:Int)<=(c.2:Int) - (d.2:Int)) (by lia),iq,tY,tY]
 .unfold iX
  rw[aN h1,iq,aN (p:=(0:Int)<=(c.1:Int) - (d.1:Int)) (by lia),iq]
theorem qc(op:C2->Bool)(f:C2->List C2):∀(n:Nat) (cs:List C2),(dq op f n cs).length<=cs.length
 |n,[]=>aW _
 |n,c::r=>by
  unfold dq
  split
  .exact Nat.le_succ_of_le (qc op f _ r)
  .exact lS (qc op f _ r)
theorem Nv{R:α->β->Prop}:∀{l:List α}{m:List β},Paired R l m->m.isEmpty=l.isEmpty
 |_,_,.nil=>rfl
 |_,_,.cons _ _=>rfl
def Nx{op:C2->Bool}(hf:∀{c},(f c).isEmpty=false->eF op c=true)(hc:cs[i]? = some c) :
  dq op f 0 (cs.take (i+1))=dq op f 0 (cs.take i)++if (f c).isEmpty=true then [] else [(eA op (cs.take (i+1)),f c)]:=by
 have iI:cs.take (i+1)=cs.take i++[c]:=by rw[fL,hc];rfl
 rw[iI,Na,M9,wX]
def BA(K:Frag)(mg:Str->Option Value)(x:Str)(xs:List V):Prop := ∃a,Cn mg x (.ref a)/\∀H,aq K H a xs
section
variable{P:Program}{w:World}{K:Frag}{mg:Str->Option Value}{base:Heap}{f:Addr}{fd:FuncData}
def Ny(K:Frag):Sp:=λvs H Q _=>∃(a b:Addr) (l:List Str) (w:Nat) (i j:Int),vs=[.ref a,.ref b]/\aq K H a (l.map V.str)/\bo l w/\aq K H b [.int i,.int j]/\Q (.bl (iX l w i j)) H
def YC:bg ["sheet","cell"] ["sheet","cell"] (aV (top 22)):={}
theorem YD(B:Bl mg)(F:aX K "is_open_within" "is_open_within" (top 22) f fd)(yn:Fn P w K mg base "is_open" 2 (By K)):aO P w K mg base aR 3 f fd ["sheet","cell"] (Ny K):=by
 refine F.bG YC λaH A outer s H vs Q E hr h=>?_
 refine hide λG_ aF=>?_
 obtain⟨a,b,l,wd,i,j,rfl,hT,S,hb,q⟩:=h
 obtain⟨x0,n8,BB,n9,_⟩:=S.row (i:=0) S.one
 refine aF.k ?_
 have h9:=S.nine
 have hw:=S.w9
 refine⟨_,(ar (bw (eI (um lX kW az (aM bO (pv 1) az) (bc d7 (by rfl) B.b7 b6 (ab (pv 0) ag))))
  (aw (aP dR))
  bC)
  (ar (bw (eI (um lX kW az (aM bO (pv 1) az) (bc eU (by rfl) B.b7 b6 (ab (aM bO (pv 0) az) ag))))
  (aw (aP dR))
  bC)
  (aw (aP (aU yn hr (ab (pv 0) (ab (pv 1) ag))))))),?_⟩
 try dsimp only[bA]
 unfold iX at q
 refine⟨_,rfl,b,_,0,.int i,rfl,rfl,hb,rfl,_,_,rfl,rfl,_,rfl,?_⟩
 by_cases h0:(0:Int)<=i
 .rw[aJ h0] at q ⊢
  refine bf ⟨_,rfl,a,_,rfl,.inr hT,_,_,rfl,rfl,_,rfl,?_⟩
  rw[av]
  by_cases h1:i<(l.length:Int)
  .rw[aJ h1] at q ⊢
   refine aL ?_
   refine⟨_,rfl,b,_,1,.int j,rfl,rfl,hb,rfl,_,_,rfl,rfl,_,rfl,?_⟩
   by_cases h2:(0:Int)<=j
   .rw[aJ h2] at q ⊢
    refine bf ⟨_,rfl,a,_,0,.str x0,rfl,rfl,hT,iH n8,x0,rfl,eG (by lia),_,_,rfl,rfl,_,rfl,?_⟩
    rw[n9]
    by_cases h3:j<(wd:Int)
    .rw[aJ h3] at q ⊢
     refine aL ?_
     obtain⟨i',rfl⟩:=ud h0
     obtain⟨j',rfl⟩:=ud h2
     rw[dQ,dQ] at q
     exact⟨_,rfl,_,rfl,a,b,l,wd,(i',j'),rfl,hT,S,hb,by lia,by lia,q⟩
    .rw[aN h3] at q ⊢
     exact bf q
   .rw[aN h2] at q ⊢
    refine aL ⟨_,rfl,?_⟩
    exact bf q
  .rw[aN h1] at q ⊢
   exact bf q
 .rw[aN h0] at q ⊢
  refine aL ⟨_,rfl,?_⟩
  exact bf q
def Nz(K:Frag)(a b d t p:Addr)(H:Hp)(l:List Str)(wd:Nat)(c dd:C2):Nat->St->Hp->Prop:=λm O H2=>∃n xs e,m=10 - n/\n<=9/\O=[some (.ref a),some (.ref b),some (.ref d),some (.ref t),some (.ref p),some (.ref e)]/\af H H2/\
 H2 p=some (.lst xs)/\bH H2 (line c dd n) xs/\H2 e=some (.tup [.int (go c dd n).1,.int (go c dd n).2])/\∀k,k<n->bz l wd (go c dd k)=true
def NA(K:Frag):Sp:=λvs H Q _=>∃(a b d:Addr) (l:List Str) (w:Nat) (c dd:C2),vs=[.ref a,.ref b,.ref d]/\aq K H a (l.map V.str)/\bo l w/\H b=some (.tup [.int c.1,.int c.2])/\aq K H d [.int dd.1,.int dd.2]/\(dd=(0,1)\/dd=(1,0))/\
 ∀t xs H',af H H'->H' t=some (.tup xs)->bH H' (cb (bz l w) dd c) xs->Q (.ref t) H'
def yo:bg ["sheet","cell","way","before","cells","here"] ["sheet","cell","way"] (aV (top 21)):={}
theorem YE(B:Bl mg)(F:aX K "row_from" "row_from" (top 21) f fd)(NB:Fn P w K mg base "is_open_within" 3 (Ny K)):aO P w K mg base aR 4 f fd ["sheet","cell","way"] (NA K):=by
 refine F.bG yo λaH A outer s H vs Q E hr h=>?_
 refine hide λG_ aF=>?_
 obtain⟨a,b,d,l,wd,c,dd,rfl,hT,S,hb,hd,YF,q⟩:=h
 refine aF.k ?_
 have h9:=S.nine
 have hw:=S.w9
 have NC:aq K H b [.int c.1,.int c.2]:=aq.of hb
 refine⟨_,(ar (aK 3 yo.nd (eS (ab (aS pC (aM bO (pv 1) az) (aM bO (pv 2) az)) (ab (aS pC (aM bO (pv 1) az) (aM bO (pv 2) az)) ag))))
  (ar (bw (dS (aU NB hr (ab (pv 0) (ab (pv 3) ag))))
  (aw (aP (eS ag)))
  bC)
  (ar (aK 4 yo.nd (de ag))
  (ar (aK 5 yo.nd (pv 1))
  (ar (KC PassesOwn.never (dS (aU NB hr (ab (pv 0) (ab (pv 5) ag))))
  (ar (fu (fB jv jZ j0 iC (pv 4) (ab (pv 5) ag)))
   (aw (aK 5 yo.nd (eS (ab (aS d5 (aM bO (pv 5) az) (aM bO (pv 2) az)) (ab (aS d5 (aM bO (pv 5) az) (aM bO (pv 2) az)) ag)))))))
  (ar (bw (bR kW (bc d7 (by rfl) B.b7 b6 (ab (pv 4) ag)) az)
  (aw (aP (eS ag)))
  bC)
  (aw (aP (iZ xA (by rfl) B.sM se (ab (pv 4) ag)))))))))),?_⟩
 try dsimp only[bA]
 refine⟨_,rfl,b,_,0,.int c.1,rfl,rfl,NC,rfl,_,rfl,d,_,0,.int dd.1,rfl,rfl,hd,rfl,_,_,rfl,rfl,_,rfl,b,_,1,.int c.2,rfl,rfl,NC,rfl,_,rfl,d,_,1,.int dd.2,rfl,rfl,hd,rfl,_,_,rfl,rfl,by show 2<=sizeLine;decide,λt ht=>?_⟩
 have eW:af H (upd H t (.tup [.int ((c.1:Int) - (dd.1:Int)),.int ((c.2:Int) - (dd.2:Int))])):=af.upd ht
 refine⟨_,rfl,_,rfl,a,t,l,wd,_,_,rfl,eW.tup hT,S,aq.of ao,_,rfl,?_⟩
 rw[Nu]
 refine eE (λke=>?_) (λke=>?_)
 .refine⟨bu _,λp hp=>q p [] _ (eW.trans (af.upd hp)) ao ?_⟩
  unfold cb
  rw[aA ke]
  exact .nil
 .refine⟨bu _,λp hp=>?_⟩
  have fG:af H (upd (upd H t (.tup [.int ((c.1:Int) - (dd.1:Int)),.int ((c.2:Int) - (dd.2:Int))])) p (.lst [])):=eW.trans (af.upd hp)
  have gb:H p=none:=eW.free hp
  refine⟨_,rfl,?_⟩
  refine⟨Nz K a b d t p H l wd c dd,⟨10,0,[],b,rfl,by lia,rfl,fG,ao,.nil,by rw[ja];exact fG _ _ hb,λk hk=>absurd hk (iu _)⟩,?_⟩
  intro m O H2 YG
  refine hide λG_ aZ=>?_
  obtain⟨n,xs,e,rfl,hn,rfl,sm,hL,hC,hE,ho⟩:=YG
  refine aZ.k ?_
  refine⟨_,rfl,_,rfl,a,e,l,wd,_,_,rfl,sm.tup hT,S,aq.of hE,_,rfl,?_⟩
  rw[F5]
  have hlen:xs.length=n:=by rw[<-hC.length,sJ]
  refine eE (λjc=>?_) (λjc=>?_)
  .have YH:n<=8:=by
    obtain⟨o1,o2,_⟩:=pX jc
    simp only[go] at o1 o2
    rcases YF with rfl | rfl
    .simp only[iz] at o2
     lia
    .simp only[iz] at o1
     lia
   refine⟨λO' H' =>∃m',m'<10 - n/\Nz K a b d t p H l wd c dd m' O' H',λ_ _ z=>z,?_⟩
   have F6:∀o,upd H2 p o e=some (.tup [.int (go c dd n).1,.int (go c dd n).2]):=λo=>by rw[ak (cx hE hL (by intro z;cases z))];exact hE
   refine⟨_,rfl,.inl ⟨rfl,_,ai.of hL⟩,_,rfl,p,xs,_,rfl,rfl,hL,uZ (by lia),?_⟩
   refine⟨_,rfl,e,_,0,.int (go c dd n).1,rfl,rfl,aq.of (F6 _),rfl,_,rfl,d,_,0,.int dd.1,rfl,rfl,Nt hL (sm.tup hd),rfl,_,_,rfl,rfl,_,rfl,e,_,1,.int (go c dd n).2,rfl,rfl,aq.of (F6 _),rfl,_,rfl,d,_,1,.int dd.2,rfl,rfl,Nt hL (sm.tup hd),rfl,_,_,rfl,rfl,by show 2<=sizeLine;decide,λt2 gE=>?_⟩
   refine⟨10 - (n+1),by lia,n+1,xs++[.ref e],t2,rfl,by lia,rfl,(sm.i0 gb).trans (af.upd gE),af.upd gE _ _ ao,?_,?_,?_⟩
   .rw[M8]
    refine bH.mono (af.upd gE) (nA (bH.off ⟨xs,hL⟩ (λb' o jD z=>by rw[ak jD];exact z) hC) ⟨e,rfl,F6 _⟩)
   .rw[ao,go_succ]
    simp only[Int.natCast_add]
   .intro k hk
    rcases wZ.mp hk with z | z
    .exact ho k z
    .rw[z];exact jc
  .have BC:runN (bz l wd) dd 10 c=n:=FR (by lia) ho (gi.mpr jc)
   refine⟨_,rfl,p,_,rfl,.inl (ai.of hL),_,_,rfl,rfl,_,rfl,?_⟩
   rw[hlen]
   refine eE (λh2=>?_) (λh2=>?_)
   .have h2:(n:Int)<2:=fK h2
    refine⟨bu _,λp' fF=>q p' [] _ (sm.trans (af.upd fF)) ao ?_⟩
    unfold cb
    rw[ax ke,BC,aA (by lia)]
    exact .nil
   .have h2:¬(n:Int)<2:=λz=>h2 (aJ z)
    refine⟨_,rfl,p,_,rfl,.inl ⟨ai.of hL,λp' fF=>?_⟩⟩
    refine q p' xs _ (sm.trans (af.upd fF)) ao ?_
    unfold cb
    rw[ax ke,BC,ax (by lia)]
    exact hC.mono (af.upd fF)
def F7(K:Frag):Sp:=λvs H Q _=>∃(a:Addr) (l:List Str) (w:Nat),vs=[.ref a]/\aq K H a (l.map V.str)/\bo l w/\
 ∀p xs ys H',H p=none->af H H'->H' p=some (.lst (xs++ys))->fZ H' "across" (gX l w) xs->fZ H' "down" (n6 l w) ys->Q (.ref p) H'
def qd:bg ["sheet","across","down","number","cell","to_the_right","to_below"] ["sheet"] (aV (top 20)):={}
theorem YI(F:aX K "rows_of" "rows_of" (top 20) f fd)(CA:BA K mg "ACROSS" [.int 0,.int 1])(CD:BA K mg "DOWN" [.int 1,.int 0])(F8:Fn P w K mg base "open_cells" 3 (F4 K))(ND:Fn P w K mg base "row_from" 4 (NA K)):aO P w K mg base aR 5 f fd ["sheet"] (F7 K):=by
 refine F.bG qd λaH A outer s H vs Q E hr h=>?_
 refine hide λG_ aF=>?_
 obtain⟨a,l,wd,rfl,hT,S,q⟩:=h
 obtain⟨dA,F9,tA⟩:=CA
 obtain⟨dD,Ga,tD⟩:=CD
 refine aF.k ?_
 have u0:=yh S
 have BD:(bV l wd).length<=81:=bQ (iw _ _) u0
 refine⟨_,(ar (aK 1 qd.nd (de ag))
  (ar (aK 2 qd.nd (de ag))
  (ar (aK 3 qd.nd az)
  (ar (cF (dn (aU F8 hr (ab (pv 0) ag))) (bN 4 qd.nd)
  (ar (aK 5 qd.nd (aU ND hr (ab (pv 0) (ab (pv 4) (ab (jH F9 (by rfl)) ag)))))
   (ar (aK 6 qd.nd (aU ND hr (ab (pv 0) (ab (pv 4) (ab (jH Ga (by rfl)) ag)))))
   (ar (uH (bw (PW.pt (gO (pE (pv 5) (by intro _;rfl)) (iA (pE (pv 6) (by intro _;rfl)))))
   (aw (aK 3 qd.nd (aS d5 (pv 3) az)))
   bC))
   (ar (uH (bw (pE (pv 5) (by intro _;rfl))
   (aw (fu (fB jv jZ j0 iC (pv 1) (ab (eS (ab (pv 3) (ab dY (ab (pv 5) ag)))) ag (hs:=cJ rfl)))))
   bC))
   (aw (bw (pE (pv 6) (by intro _;rfl))
   (aw (fu (fB jv jZ j0 iC (pv 2) (ab (eS (ab (pv 3) (ab dY (ab (pv 6) ag)))) ag (hs:=cJ rfl)))))
   bC)))))))
  (aw (aP (aS EC (pv 1) (pv 2)))))))),?_⟩
 try dsimp only[bA]
 refine⟨bu _,λpa jM=>?_⟩
 refine⟨bu _,λpd qe=>?_⟩
 have Gb:pa≠pd:=by intro z;rw[<-z,ao] at qe;cases qe
 have NF:af H (upd H pa (.lst [])):=af.upd jM
 have NG:af H (upd (upd H pa (.lst [])) pd (.lst [])):=NF.trans (af.upd qe)
 have YJ:H pd=none:=NF.free qe
 have BE:upd (upd H pa (.lst [])) pd (.lst []) pa=some (.lst []):=by rw[ak Gb,ao]
 have yp:upd (upd H pa (.lst [])) pd (.lst []) pd=some (.lst []):=ao
 refine⟨_,rfl,a,l,wd,rfl,NG.tup hT,S,λp xs H1 hp fG hL hC=>⟨p,rfl,⟨_,ai.of hL⟩,?_⟩⟩
 have mK:p≠pa:=λz=>by rw[z] at hp;rw[BE] at hp;cases hp
 have u6:p≠pd:=λz=>by rw[z] at hp;rw[yp] at hp;cases hp
 generalize jc:bz l wd=op at *
 have lA:xs.length=(bV l wd).length:=hC.length.symm
 refine kT (xs:=xs) (λi O H2=>∃v4 v5 v6 as ds,O=[some (.ref a),some (.ref pa),some (.ref pd),some (.int (eA op ((bV l wd).take i))),v4,v5,v6]/\af H H2/\(∀b o,b≠pa->b≠pd->H1 b=some o->H2 b=some o)/\
   H2 pa=some (.lst as)/\H2 pd=some (.lst ds)/\fZ H2 "across" (dq op (n5 op) 0 ((bV l wd).take i)) as/\fZ H2 "down" (dq op (mH op) 0 ((bV l wd).take i)) ds)
  ⟨none,none,none,[],[],rfl,NG.trans fG,λ_ _ _ _ z=>z,fG _ _ BE,fG _ _ yp,.nil,.nil⟩ ?_ ?_ ?_
 .rintro i O H2 _ ⟨v4,v5,v6,as,ds,rfl,sm,off,hA,hD,rA,rD⟩
  exact ai.of (off _ _ mK u6 hL)
 .intro i x O H2 hi YK
  refine hide λG_ aZ=>?_
  obtain⟨v4,v5,v6,as,ds,rfl,sm,off,hA,hD,rA,rD⟩:=YK
  obtain⟨c,hc,b,rfl,hb⟩:=Paired.get hC hi
  refine aZ.k ?_
  have afQ:∀o,H1 pa=some o->∃z,o=HO.lst z:=λo e=>⟨[],by rw[fG _ _ BE] at e;exact(cQ e).symm⟩
  have YL:b≠pa:=cx hb (fG _ _ BE) (by intro z;cases z)
  have YM:b≠pd:=cx hb (fG _ _ yp) (by intro z;cases z)
  have nZ:=off _ _ YL YM hb
  have iI:(bV l wd).take (i+1)=(bV l wd).take i++[c]:=by rw[fL,hc];rfl
  have BF:as.length<=81:=by rw[<-rA.length];exact bQ (qc _ _ _ _) (bQ (List.length_take_le' _ _) BD)
  have YN:ds.length<=81:=by rw[<-rD.length];exact bQ (qc _ _ _ _) (bQ (List.length_take_le' _ _) BD)
  refine⟨_,rfl,_,rfl,a,b,dA,l,wd,c,(0,1),rfl,sm.tup hT,S,nZ,tA _,.inl rfl,λt1 BG H3 fQ BH Ge=>?_⟩
  refine⟨_,rfl,_,rfl,a,b,dD,l,wd,c,(1,0),rfl,(sm.trans fQ).tup hT,S,fQ _ _ nZ,tD _,.inr rfl,λt2 yq H4 dB gE Gf=>?_⟩
  rw[jc] at Ge Gf
  have e1:BG.isEmpty=(n5 op c).isEmpty:=Nv Ge
  have e2:yq.isEmpty=(mH op c).isEmpty:=Nv Gf
  have sO:=fQ.trans dB
  have u9:=sO _ _ hA
  have YO:=sO _ _ hD
  have BJ:=dB _ _ BH
  refine⟨λO' H'=>O'=[some (.ref a),some (.ref pa),some (.ref pd),some (.int (eA op ((bV l wd).take (i+1)))),some (.ref b),some (.ref t1),some (.ref t2)]/\H4=H',?_,?_⟩
  .rintro O' H' ⟨rfl,rfl⟩
   refine⟨λO' H'=>O'=[some (.ref a),some (.ref pa),some (.ref pd),some (.int (eA op ((bV l wd).take (i+1)))),some (.ref b),some (.ref t1),some (.ref t2)]/\(∀b o,b≠pa->H4 b=some o->H' b=some o)/\
    ∃yr,H' pa=some (.lst yr)/\fZ H' "across" (dq op (n5 op) 0 ((bV l wd).take (i+1))) yr,?_,?_⟩
   .rintro O' H5 ⟨rfl,oa,yr,NH,NI⟩
    have Gg:=oa _ _ (br Gb) YO
    have Gh:=oa _ _ (cx gE u9 (by intro z;cases z)) gE
    have YQ:bH H5 (mH op c) yq:=bH.off ⟨as,u9⟩ oa Gf
    have NJ:fZ H5 "down" (dq op (mH op) 0 ((bV l wd).take i)) ds:=fZ.off ⟨as,u9⟩ oa (rD.mono sO)
    have eK:af H H5:=λb o z=>oa b o (bq z jM) ((sm.trans sO) _ _ z)
    have NK:∀b o,b≠pa->b≠pd->H1 b=some o->H5 b=some o:=λb o h1 h2 z=>oa b o h1 (sO _ _ (off b o h1 h2 z))
    have er:=Nx (op:=op) (f:=mH op) FU hc
    refine⟨_,rfl,_,Or.inr (Or.inl ⟨yq,aq.of Gh,rfl⟩),?_⟩
    by_cases z:(mH op c).isEmpty=true
    .rw[e2,z]
     refine aL ⟨some (.ref b),some (.ref t1),some (.ref t2),yr,ds,rfl,eK,NK,NH,Gg,NI,?_⟩
     rw[er,aA z,dJ]
     exact NJ
    .rw[e2,gi.mpr z]
     refine bf ⟨_,rfl,.inl ⟨rfl,_,ai.of Gg⟩,_,rfl,_,rfl,by show 3<=sizeLine;decide,λt ht=>?_⟩
     have gZ:af H5 (upd H5 t (.tup [.int (eA op ((bV l wd).take (i+1))),.str "down",.ref t2])):=af.upd ht
     have vc:=gZ _ _ Gg
     have iJ:∀o' b o,b≠pd->upd H5 t (.tup [.int (eA op ((bV l wd).take (i+1))),.str "down",.ref t2]) b=some o->upd (upd H5 t (.tup [.int (eA op ((bV l wd).take (i+1))),.str "down",.ref t2])) pd o' b=some o:=λo' b o hb y=>by rw[ak hb];exact y
     refine⟨pd,ds,_,rfl,rfl,vc,uZ (by lia),some (.ref b),some (.ref t1),some (.ref t2),yr,ds++[.ref t],rfl,(eK.trans gZ).i0 YJ,λb o h1 h2 y=>iJ _ b o h2 (gZ _ _ (NK b o h1 h2 y)),iJ _ pa _ Gb (gZ _ _ NH),ao,?_,?_⟩
     .exact fZ.off ⟨ds,vc⟩ (iJ _) (NI.mono gZ)
     .rw[er,ax z]
      refine nA (fZ.off ⟨ds,vc⟩ (iJ _) (NJ.mono gZ)) ⟨t,t2,yq,rfl,iJ _ t _ (cx ao vc (by intro y;cases y)) ao,iJ _ t2 _ (cx (gZ _ _ Gh) vc (by intro y;cases y)) (gZ _ _ Gh),bH.off ⟨ds,vc⟩ (iJ _) (YQ.mono gZ)⟩
   .have er:=Nx (op:=op) (f:=n5 op) FT hc
    refine⟨_,rfl,_,Or.inr (Or.inl ⟨BG,aq.of BJ,rfl⟩),?_⟩
    by_cases z:(n5 op c).isEmpty=true
    .rw[e1,z]
     refine aL ⟨rfl,λ_ _ _ y=>y,as,u9,?_⟩
     rw[er,aA z,dJ]
     exact rA.mono sO
    .rw[e1,gi.mpr z]
     refine bf ⟨_,rfl,.inl ⟨rfl,_,ai.of u9⟩,_,rfl,_,rfl,by show 3<=sizeLine;decide,λt ht=>?_⟩
     have gZ:af H4 (upd H4 t (.tup [.int (eA op ((bV l wd).take (i+1))),.str "across",.ref t1])):=af.upd ht
     have yt:=gZ _ _ u9
     have iJ:∀o' b o,b≠pa->upd H4 t (.tup [.int (eA op ((bV l wd).take (i+1))),.str "across",.ref t1]) b=some o->upd (upd H4 t (.tup [.int (eA op ((bV l wd).take (i+1))),.str "across",.ref t1])) pa o' b=some o:=λo' b o hb y=>by rw[ak hb];exact y
     refine⟨pa,as,_,rfl,rfl,yt,uZ (by lia),rfl,λb o h1 y=>iJ _ b o h1 (gZ _ _ y),as++[.ref t],ao,?_⟩
     rw[er,ax z]
     exact nA (fZ.off ⟨as,yt⟩ (iJ _) ((rA.mono sO).mono gZ)) ⟨t,t1,BG,rfl,iJ _ t _ (cx ao yt (by intro y;cases y)) ao,iJ _ t1 _ (cx (gZ _ _ BJ) yt (by intro y;cases y)) (gZ _ _ BJ),bH.off ⟨as,yt⟩ (iJ _) ((Ge.mono dB).mono gZ)⟩
  .have enum:eA op ((bV l wd).take (i+1))=if eF op c=true then eA op ((bV l wd).take i)+1 else eA op ((bV l wd).take i):=by rw[iI,M9]
   refine⟨_,rfl,_,Or.inr (Or.inl ⟨BG,aq.of BJ,rfl⟩),?_⟩
   by_cases z1:(n5 op c).isEmpty=true
   .rw[e1,z1]
    refine aL ⟨_,rfl,_,Or.inr (Or.inl ⟨yq,aq.of gE,rfl⟩),?_⟩
    by_cases z2:(mH op c).isEmpty=true
    .rw[e2,z2]
     refine aL ⟨?_,rfl⟩
     rw[enum,ax (by unfold eF;rw[z1,z2];decide)]
     rfl
    .rw[e2,gi.mpr z2]
     refine bf ⟨_,rfl,_,_,rfl,rfl,?_,rfl⟩
     rw[enum,aA (FU (gi.mpr z2))]
     rfl
   .rw[e1,gi.mpr z1]
    refine bf (bf ⟨_,rfl,_,_,rfl,rfl,?_,rfl⟩)
    rw[enum,aA (FT (gi.mpr z1))]
    rfl
 .intro O H2 YR
  refine hide λG_ bJ=>?_
  obtain⟨v4,v5,v6,as,ds,rfl,sm,off,hA,hD,rA,rD⟩:=YR
  refine bJ.k ?_
  rw[fq (by lia)] at rA rD
  have BF:as.length<=81:=by rw[<-rA.length];exact bQ (qc _ _ _ _) BD
  have YN:ds.length<=81:=by rw[<-rD.length];exact bQ (qc _ _ _ _) BD
  subst jc
  refine⟨_,rfl,_,rfl,pa,pd,as,ds,rfl,rfl,hA,hD,eG (by lia),λp' fF=>?_⟩
  exact q p' as ds _ (sm.free fF) (sm.trans (af.upd fF)) ao (rA.mono (af.upd fF)) (rD.mono (af.upd fF))
end
theorem Gi{op:C2->Bool}{d:C2}:∀{f:Nat}{c:C2}{k:Nat},k<runN op d f c->op (go c d k)=true
 |0,_,_,h=>by unfold runN at h;exact absurd h (iu _)
 |f+1,c,k,h=>by
  unfold runN at h
  split at h
  .rename_i ho
   cases k with
   |zero=>rw[ja];exact ho
   |succ k=>
    have:=Gi (op:=op) (d:=d) (f:=f) (c:=(c.1+d.1,c.2+d.2)) (k:=k) (by lia)
    have e:go c d (k+1)=go (c.1+d.1,c.2+d.2) d k:=by
     simp only[go,iQ,nG]
     lia
    rw[e]
    exact this
  .exact absurd h (iu _)
theorem NL{op:C2->Bool}{d:C2}:∀{f:Nat}{c:C2},runN op d f c<=f
 |0,_=>by unfold runN;exact aW _
 |f+1,c=>by
  unfold runN
  split
  .exact lS NL
  .exact bu _
def YS{op:C2->Bool}{x:C2}(h:x∈cb op d c):op x=true:=by
 unfold cb at h
 split at h
 .exact absurd h fm
 .split at h
  .exact absurd h fm
  .obtain⟨k,hk,rfl⟩:=bM.mp h
   exact Gi (ip.mp hk)
def YT{op:C2->Bool}:(cb op d c).length<=10:=by
 unfold cb
 split
 .exact bu _
 .split
  .exact bu _
  .rw[sJ];exact NL
noncomputable def dr(l:List Str)(w:Nat):List (Nat×List C2):=gX l w++n6 l w
def NM{op:C2->Bool}(hf:∀c,(cb op d c).isEmpty=false->eF op c=true)(h:q∈dq op (cb op d) n cs):q.2.length<=10/\∀c∈q.2,op c=true:=by
 obtain⟨_,c,_,_,e,_⟩:=Nb hf h
 rw[e]
 exact⟨YT,λx hx=>YS hx⟩
def Gj(h:q∈dr l w):q.2.length<=10/\∀c∈q.2,c.1<l.length/\c.2<w/\bY l c=true:=by
 have z:q.2.length<=10/\∀c∈q.2,bz l w c=true:=by
  rcases cV.mp h with h | h
  .exact NM (λc=>FT) h
  .exact NM (λc=>FU) h
 exact⟨z.1,λc hc=>pX (z.2 c hc)⟩
theorem qf(S:bo l w):(dr l w).length<=162:=by
 unfold dr
 rw[dE]
 have h1:(gX l w).length<=(bV l w).length:=qc _ _ _ _
 have h2:(n6 l w).length<=(bV l w).length:=qc _ _ _ _
 have h3:(bV l w).length<=(cells l.length w).length:=iw _ _
 have h4:=yh S
 lia
def YU(H:Hp)(q:Nat×List C2)(x:V):Prop := ∃way,qb H way q x
theorem NN{α β:Type}{R:α->β->Prop}:∀{l:List α}{m:List β}{l':List α}{m':List β},Paired R l m->Paired R l' m'->Paired R (l++l') (m++m')
 |_,_,_,_,.nil,h=>h
 |_,_,_,_,.cons h t,h' =>.cons h (NN t h')
def NO(h1:fZ H "across" (gX l w) xs)(h2:fZ H "down" (n6 l w) ys):Paired (YU H) (dr l w) (xs++ys):=
 NN (Paired.bU h1 λ_ _ h=>⟨_,h⟩) (Paired.bU h2 λ_ _ h=>⟨_,h⟩)
noncomputable def au(l:List Str)(cs:List C2):Str:=⟨(cs.map (sg l)).toArray⟩
theorem Gm:∀xs:List Nat,Str.join ⟨#[]⟩ (xs.map λc=>(⟨#[c]⟩:Str))=⟨xs.toArray⟩
 |[]=>rfl
 |[x]=>rfl
 |x::y::r=>by
  have ih:=Gm (y::r)
  show(⟨#[x]⟩++⟨#[]⟩++Str.join ⟨#[]⟩ ((y::r).map λc=>(⟨#[c]⟩:Str)):Str)=_
  rw[ih]
  apply mE
  rw[mF,mF]
  simp
theorem Gn:∀xs:List Nat,(((xs.map λc=>(⟨#[c]⟩:Str)).map (·.length)).sum)=xs.length
 |[]=>rfl
 |x::r=>by
  rw[bI,bI,dG,Gn r,dC,Nat.add_comm]
  rfl
def ve:("":Str)=⟨#[]⟩:=by decide +kernel
theorem jN{α β:Type}{f:α->β}:∀{l:List α}{ys:List β},Paired (λi y=>y=f i) l ys->ys=l.map f
 |_,_,.nil=>rfl
 |_,_,.cons h t=>by rw[bI,<-jN t,h]
def kf(g:α->β)(d:α)(l:List α):(List.range l.length).map (λi=>g (l.getD i d))=l.map g:=by
 apply ju
 intro i
 rw[bE,bE]
 by_cases h:i<l.length
 .rw[qY h,bb h,iR,iR,bT,bb h,oV]
 .rw[cW (by simpa using h),cW (by simpa using h)]
  rfl
section
variable{P:Program}{w:World}{K:Frag}{mg:Str->Option Value}{base:Heap}{f:Addr}{fd:FuncData}
def NP(K:Frag):Sp:=λvs H Q _=>∃(a t:Addr) (l:List Str) (w:Nat) (cs:List C2) (xs:List V),vs=[.ref a,.ref t]/\aq K H a (l.map V.str)/\bo l w/\H t=some (.tup xs)/\bH H cs xs/\cs.length<=100/\(∀c∈cs,c.1<l.length/\c.2<w)/\
 ∀H',af H H'->Q (.str (au l cs)) H'
def YV:bg ["sheet","cells"] ["sheet","cells"] (aV (top 26)):={}
theorem YW(F:aX K "pattern" "pattern" (top 26) f fd)(F3:Fn P w K mg base "sign_at" 1 (FZ K)):aO P w K mg base aR 2 f fd ["sheet","cells"] (NP K):=by
 refine F.bG YV λaH A outer s H vs Q E hr h=>?_
 refine hide λG_ aF=>?_
 obtain⟨a,t,l,wd,cs,xs,rfl,hT,S,ht,hC,hlen,bD,q⟩:=h
 refine aF.k ?_
 have hlx:=hC.length
 refine⟨_,(aw (aP (fB DV Ke Kf A0 dY (ab (fW (js:=[0]) (ns:=["sheet"]) (Au (pv 1)) rfl rfl rfl rfl (λ_ _ _ _=>gT) (λ_ _ _ _=>(aU F3 hr (ab (pv 1) (ab (pv 0) ag))))) ag)))),?_⟩
 try dsimp only[bA]
 refine⟨rfl,_,rfl,t,rfl,⟨_,aq.of ht⟩,?_⟩
 refine comp_map EZ (by lia) (λ_ i y _=>y = .str ⟨#[sg l (cs.getD i (0,0))]⟩) (λH2 s2=>aq.of (s2 _ _ ht)) (λ_ _ _ _ _ _ _ _ h=>h) ?_ ?_
 .intro D i x H2 Z hD hx s2 _ k1
  obtain⟨c,hc,b,rfl,hb⟩:=Paired.get hC hx
  have eY:=bD c (bj hc)
  exact⟨_,rfl,_,rfl,a,b,l,wd,c,rfl,s2.tup hT,S,aq.of (s2 _ _ hb),eY.1,eY.2,k1 _ _ (af.cA _) (by rw[bW hc])⟩
 .intro D ys H2 hD bh s2 pr
  have e:=jN pr
  rw[<-hlx,kf (λc=>V.str ⟨#[sg l c]⟩)] at e
  have e1:ys=((cs.map (sg l)).map λc=>(⟨#[c]⟩:Str)).map V.str:=by rw[e,jw,jw];rfl
  rw[e1] at bh
  refine⟨_,D,(cs.map (sg l)).map λc=>(⟨#[c]⟩:Str),rfl,rfl,.inl (ai.of bh),?_,?_⟩
  .rw[Gn,av,av,ve]
   show _+_*0<=_
   lia
  .rw[ve,Gm]
   exact q H2 s2
end
structure eB(l:List Str)(w:Nat):Prop where
 one:1<=l.length
 nine:l.length<=9
 w9:w<=9
 len:∀x∈l,x.length=w
def bo.dO(S:bo l w):eB l w:=⟨S.one,S.nine,S.w9,S.len⟩
def eB.row(S:eB l w)(hi:i<l.length):∃x,l[i]? = some x/\x∈l/\x.length=w/\x.cps.toList.length=w/\∀j,j<w->x.cps.toList[j]? = some (sg l (i,j)):=by
 refine⟨l[i],bb hi,nF hi,S.len _ (nF hi),by rw[b9];exact S.len _ (nF hi),λj hj=>?_⟩
 have hl:j<l[i].cps.toList.length:=by rw[b9,S.len _ (nF hi)];exact hj
 unfold sg
 rw[bW (bb hi),bb hl]
 simp only[bW (bb hl)]
theorem eB.set(S:eB l w){c:Nat×Nat}(h1:c.1<l.length)(h2:c.2<w):eB (setC l c ch) w:=by
 obtain⟨x,hx,mx,lx,pW,hj⟩:=S.row h1
 refine⟨by rw[dz];exact S.one,by rw[dz];exact S.nine,S.w9,λy my=>?_⟩
 unfold setC at my
 rcases Kb my with z | z
 .exact S.len y z
 .rw[z,bW hx,yi (by lia),lx]
theorem eB.lB(S:eB l w){c:Nat×Nat}(h1:c.1<l.length)(h2:c.2<w){d:Nat×Nat}(d1:d.1<l.length)(d2:d.2<w):sg (setC l c ch) d=if d=c then ch else sg l d:=by
 obtain⟨x,hx,mx,lx,pW,hj⟩:=S.row d1
 have g:=hj d.2 d2
 by_cases e:d.1=c.1
 .have pT:(setC l c ch)[d.1]? = some (bP x c.2 ch):=by
   unfold setC
   rw[e] at hx ⊢
   rw[wF h1,bW hx]
  have q:sg (setC l c ch) d=(bP x c.2 ch).cps.toList.getD d.2 0:=by unfold sg;rw[bW pT]
  rw[q,bT,FO (by lia) (by lia),g]
  by_cases e2:d.2=c.2
  .rw[aA e2,aA (DU.mpr ⟨e,e2⟩)]
   rfl
  .rw[ax e2,ax (λz=>e2 (fh Prod.snd z))]
   rfl
 .have pT:(setC l c ch)[d.1]? = some x:=by
   unfold setC
   rw[zP (br e)]
   exact hx
  have q:sg (setC l c ch) d=sg l d:=by unfold sg;rw[bW pT,bW hx]
  rw[q,ax (λz=>e (fh Prod.fst z))]
section
variable{P:Program}{w:World}{K:Frag}{mg:Str->Option Value}{base:Heap}{f:Addr}{fd:FuncData}
theorem Gp(h:j<=x.length):(Txt.slice x none (some (j:Int))).cps.toList=x.cps.toList.take j:=by
 have e:=nv.mp (PyProof.Rows.slice_closes_to (x:=x) (j:=(j:Int)) ⟨by lia,by rw[b9];lia⟩)
 rw[e]
 simp
theorem Gq(h:j+1<=x.length):(Txt.slice x (some ((j:Int)+1)) none).cps.toList=x.cps.toList.drop (j+1):=by
 have e:=PyProof.Rows.slice_from_eq (x:=x) (i:=(j:Int)+1) (b:=(x.length:Int)) (by lia) (by lia) rfl
 rw[e]
 have e1:((j:Int)+1).toNat=j+1:=by lia
 rw[e1]
 show(x.cps.toList.drop (j+1)).take _=_
 refine fq ?_
 rw[DL,b9]
 lia
def sP(K:Frag):Sp:=λvs H Q _=>∃(a b:Addr) (l:List Str) (w:Nat) (c:Nat×Nat) (ch:Nat),vs=[.ref a,.ref b,.str ⟨#[ch]⟩]/\aq K H a (l.map V.str)/\eB l w/\aq K H b [.int c.1,.int c.2]/\c.1<l.length/\c.2<w/\
 ∀t H',H t=none->af H H'->H' t=some (.tup ((setC l c ch).map V.str))->Q (.ref t) H'
def BK:bg ["sheet","cell","sign","number","column","lines"] ["sheet","cell","sign"] (aV (top 16)):={}
theorem YX(B:Bl mg)(F:aX K "with_sign" "with_sign" (top 16) f fd):aO P w K mg base aR 1 f fd ["sheet","cell","sign"] (sP K):=by
 refine F.bG BK λaH A outer s H vs Q E hr h=>?_
 refine hide λG_ aF=>?_
 obtain⟨a,b,l,wd,c,ch,rfl,hT,S,hb,h1,h2,q⟩:=h
 obtain⟨x,hx,mx,lx,pW,hj⟩:=S.row h1
 refine aF.k ?_
 have hw:=S.w9
 refine⟨_,(ar (aK 3 BK.nd (aM bO (pv 1) az))
  (ar (aK 4 BK.nd (aM bO (pv 1) az))
  (ar (aK 5 BK.nd (iZ rP (by rfl) B.pY pM (ab (pv 0) ag)))
  (ar (rH (aS rL (aS rL (nR uF (aM d6 (pv 5) (pv 3)) l4 (l6 (pv 4))) (pv 2)) (nR uF (aM d6 (pv 5) (pv 3)) (l6 (aS d5 (pv 4) az)) l4)) (ug (pv 5) (pv 3) set_list))
  (aw (aP (iZ xA (by rfl) B.sM se (ab (pv 5) ag)))))))),?_⟩
 try dsimp only[bA]
 refine⟨_,rfl,b,_,0,.int c.1,rfl,rfl,hb,rfl,_,rfl,b,_,1,.int c.2,rfl,rfl,hb,rfl,_,rfl,a,_,rfl,.inr hT,λp hp=>?_⟩
 have l1:(Txt.slice x none (some (c.2:Int))).length<=100:=bQ (wU x _ _) (by lia)
 have l2:(Txt.slice x (some ((c.2:Int)+1)) none).length<=100:=bQ (wU x _ _) (by lia)
 refine⟨_,rfl,_,rfl,p,_,_,.str x,rfl,rfl,ai.of ao,iH hx,_,rfl,_,rfl,x,rfl,eG (by lia),_,rfl,_,_,rfl,rfl,eG (by show _+1<=_;lia),?_⟩
 refine⟨_,rfl,_,rfl,p,_,_,.str x,rfl,rfl,ai.of ao,iH hx,_,rfl,_,_,rfl,rfl,_,rfl,x,rfl,eG (by lia),_,_,rfl,rfl,eG ?_,?_⟩
 .rw[<-b9,mF,dE,b9]
  show _+1+_<=_
  lia
 have eg:=FQ (x:=x) (j:=c.2) (ch:=ch) (Gp (by lia)) (Gq (by lia))
 refine⟨_,rfl,_,rfl,p,_,_,c.1,rfl,rfl,ao,uG (by rw[av];exact h1),?_⟩
 rw[eg,Kl]
 refine⟨_,rfl,p,_,rfl,.inl ⟨ai.of ao,λt ht=>?_⟩⟩
 have sm:af H (upd H p (.lst ((l.map V.str).set c.1 (.str (bP x c.2 ch))))):=af.upd hp
 refine q t _ (sm.free ht) (sm.trans (af.upd ht)) ?_
 rw[ao]
 unfold setC
 rw[bW hx,List.map_set]
end
noncomputable def iK(x:Str):Bool:=x.cps.toList.all λc=>decide (c∈iG.cps.toList)
noncomputable def og(x:Str)(a b:Int):Bool:=decide (a<=(x.length:Int))&&(decide ((x.length:Int)<=b)&&iK x)
theorem BL{α β:Type}{f:α->β}:∀{l:List α}{ys:List β},Paired (λi y=>y=f i) l ys->ys=l.map f
 |_,_,.nil=>rfl
 |_,_,.cons h t=>by rw[bI,<-BL t,h]
def YY(g:α->β)(d:α)(l:List α):(List.range l.length).map (λi=>g (l.getD i d))=l.map g:=by
 apply ju
 intro i
 rw[bE,bE]
 by_cases h:i<l.length
 .rw[qY h,bb h,iR,iR,bT,bb h,oV]
 .rw[cW (by simpa using h),cW (by simpa using h)]
  rfl
section
variable{P:Program}{w:World}{K:Frag}{mg:Str->Option Value}{base:Heap}{f:Addr}{fd:FuncData}
def NQ(K:Frag):Sp:=λvs H Q _=>(∃(x:Str) (a b:Int),vs=[.str x,.int a,.int b]/\x.length<=1000/\∀H',af H H'->Q (.bl (og x a b)) H')\/
 ∃(v:V) (t:Value) (a b:Int),vs=[v,.int a,.int b]/\gQ K H v t/\kitOne K t (.type "str")=some false/\Q (.bl false) H
def YZ:bg ["thing","least","most"] ["thing","least","most"] (aV (top 45)):={}
theorem Y0(B:Bl mg)(Gr:Cn mg "LETTERS" (.str iG))(F:aX K "is_letters" "is_letters" (top 45) f fd):aO P w K mg base aR 1 f fd ["thing","least","most"] (NQ K):=by
 refine F.ok YZ (λvs H Q E h=>?_) (λaH A outer s H vs Q E hr h=>?_)
 .rcases h with ⟨x,a,b,rfl,_⟩ | ⟨v,t,a,b,rfl,_⟩ <;> rfl
 .refine⟨_,(ar (bw (eI (dS (bc nY (by rfl) B.jK jG (ab (pv 0) (ab (nL (v := .ty "str") (by rfl) B.Nk L5 rfl) ag)))))
   (aw (aP dR))
   bC)
   (aw (aP (Aq (Tu lX lX (pv 1) (bc eU (by rfl) B.b7 b6 (ab (pv 0) ag)) (pv 2)) (D5 (bc (L8 rfl) (by rfl) B.Nl L4 (ab (fW (js:=[]) (ns:=[]) (VJ (pv 0)) rfl rfl rfl rfl (λ_ _ _ _=>gT) (λ_ _ _ _=>(nM Az (pv 0) (jH Gr (by rfl))))) ag))))))),?_⟩
  try dsimp only[bA]
  rcases h with ⟨x,a,b,rfl,hx,q⟩ | ⟨v,t,a,b,rfl,ty,hk,q⟩
  .refine⟨_,rfl,_,_,_,true,⟨rfl,.str _,VE⟩,_,rfl,aL ?_⟩
   refine⟨_,rfl,_,rfl,x,rfl,dj (by lia),_,_,rfl,rfl,_,rfl,?_⟩
   by_cases h2:a<=(x.length:Int)
   .rw[aJ h2]
    refine bf ⟨_,rfl,_,_,rfl,rfl,_,rfl,?_⟩
    by_cases h3:(x.length:Int)<=b
    .rw[aJ h3]
     refine bf ?_
     refine⟨_,rfl,x,rfl,comp_map VL (by rw[av,nt];show x.length<=15752961;lia) (λ_ i y _=>y = .bl (decide (x.cps.toList.getD i 0∈iG.cps.toList))) (λ_ _=>trivial) (λ_ _ _ _ _ _ _ _ h=>h) ?_ ?_⟩
     .intro D i z H2 Z _ hz _ _ k1
      rw[bE] at hz
      cases e:x.cps.toList[i]? with
      |none=>rw[e] at hz;cases hz
      |some c=>
       rw[e] at hz
       cases hz
       refine⟨_,rfl,_,_,rfl,rfl,k1 _ _ (af.cA _) ?_⟩
       rw[DW,bT,e]
       all_goals rfl
     .intro D ys H2 hD bh sm pr
      have e:=BL pr
      rw[av,YY (λc=>V.bl (decide (c∈iG.cps.toList)))] at e
      refine⟨D,x.cps.toList.map λc=>decide (c∈iG.cps.toList),rfl,ai.of (by rw[bh,e,jw];rfl),?_⟩
      have e2:((x.cps.toList.map λc=>decide (c∈iG.cps.toList)).all id)=og x a b:=by
       unfold og iK
       rw[wR,aJ h2,aJ h3]
       rfl
      rw[e2]
      exact q H2 sm
    .rw[aN h3]
     refine aL ?_
     have e:og x a b=false:=by
      unfold og
      rw[aN h3,iq,tY]
     rw[<-e]
     exact q H (af.cA _)
   .rw[aN h2]
    refine aL ⟨_,rfl,aL ?_⟩
    have e:og x a b=false:=by
     unfold og
     rw[aN h2,iq]
    rw[<-e]
    exact q H (af.cA _)
  .exact⟨_,rfl,_,_,_,false,⟨rfl,ty,hk⟩,_,rfl,bf q⟩
end
noncomputable def cK(x:Str):Bool:=decide (2<=x.length)&&(decide (x.length<=9)&&iK x)
theorem vf(h:cK x=true):2<=x.length/\x.length<=9:=by grind [cK]
theorem BM{α β:Type}{f:α->β}:∀{l:List α}{ys:List β},Paired (λi y=>y=f i) l ys->ys=l.map f
 |_,_,.nil=>rfl
 |_,_,.cons h t=>by rw[bI,<-BM t,h]
def Y1(g:α->β)(d:α)(l:List α):(List.range l.length).map (λi=>g (l.getD i d))=l.map g:=by
 apply ju
 intro i
 rw[bE,bE]
 by_cases h:i<l.length
 .rw[qY h,bb h,iR,iR,bT,bb h,oV]
 .rw[cW (by simpa using h),cW (by simpa using h)]
  rfl
def Y2(h:n<=10000):n<=sizeLine:=bQ h (by decide)
def yu(h:n<=10000):n<sizeLine:=jX h (by decide)
noncomputable def vg(d:Addr):List (Str×V):=ba "worths" (.ref d) []
def vh(d:Addr):(vg d).lookup ("worths":Str)=some (.ref d):=by
 unfold vg
 rw[cL,aA rfl]
def vi(d:Addr){m:Str}(h:¬m="worths"):(vg d).lookup m=none:=by
 unfold vg
 rw[cL,ax h]
 rfl
structure g9(C:Addr)(H:Hp)(p d:Addr)(kvs:List (Key×V)):Prop where
 ob:∃dx,H p=some (.ins C dx (vg d))
 dc:H d=some (.dK kvs)
 nd:(kvs.map (·.1)).Nodup
 tx:iF kvs
def g9.mono{p d:Addr}(s:af H H')(h:g9 C H p d kvs):g9 C H' p d kvs:=let ⟨⟨dx,e⟩,b,c,t⟩:=h;⟨⟨dx,s _ _ e⟩,s _ _ b,c,t⟩
def NR(h:iF kvs)(x:Str)(v:V)(e:aQ kvs (Sum.inr x:Key)=none):iF (putK kvs (Sum.inr x) v):=by
 rw[rS v e]
 intro q m
 rcases cV.mp m with z | z
 .exact h q z
 .rw[cj.mp z];exact⟨x,rfl⟩
section
variable{P:Program}{w:World}{K:Frag}{mg:Str->Option Value}{base:Heap}{f:Addr}{fd:FuncData}
def NS:Sp:=λvs H Q _=>∃(x:Str),vs=[.str x]/\x.length<=1000/\∀H',af H H'->Q (.bl (cK x)) H'
theorem Y3(x:Str):og x 2 9=cK x:=by grind [og,cK]
def Y4:bg ["thing"] ["thing"] (aV (top 51)):={}
def Y5(Gs:Cn mg "LEAST_LETTERS" (.int 2))(Gu:Cn mg "MOST_LETTERS" (.int 9))(F:aX K "is_word" "is_word" (top 51) f fd)(Y6:Fn P w K mg base "is_letters" 1 (NQ K)):aO P w K mg base aR 2 f fd ["thing"] NS:=by
 refine F.bG Y4 λaH A outer s H vs Q E hr h=>?_
 obtain⟨x,rfl,hx,q⟩:=h
 refine⟨_,(aw (aP (aU Y6 hr (ab (pv 0) (ab (jH Gs (by rfl)) (ab (jH Gu (by rfl)) ag)))))),?_⟩
 try dsimp only[bA]
 refine⟨_,rfl,.inl ⟨x,2,9,rfl,hx,λH1 s1=>?_⟩⟩
 rw[Y3]
 exact q H1 s1
def Gv:Sp:=λvs H Q _=>∃(x:Str),vs=[.str x]/\cK x=true/\∀H',af H H'->Q .aB H'
def Y7:bg ["thing"] ["thing"] (aV (top 50)):={}
theorem Y8(F:aX K "need_word" "need_word" (top 50) f fd)(Y9:Fn P w K mg base "is_word" 2 NS):aO P w K mg base aR 3 f fd ["thing"] Gv:=by
 refine F.bG Y7 λaH A outer s H vs Q E hr h=>?_
 obtain⟨x,rfl,hw,q⟩:=h
 have hl:=vf hw
 refine⟨_,(aw (bw (eI (dS (aU Y9 hr (ab (pv 0) ag))))
  (aw xk)
  bC)),?_⟩
 try dsimp only[bA]
 refine⟨_,rfl,x,rfl,by lia,λH1 s1=>⟨_,rfl,?_⟩⟩
 rw[hw]
 exact aL (q H1 s1)
def NT(C:Addr):Sp:=λvs H Q _=>∃(p dx:Addr),vs=[.ref p]/\H p=some (.ins C dx [])/\∀(d:Addr) (H':Hp),H d=none->g9 C H' p d []->(∀b o,H b=some o->b≠p->H' b=some o)->Q .aB H'
def Za:bg ["self"] ["self"] (aV (inClass (top 49) 0)):={}
def Zb(F:aX K "__init__" "Book.__init__" (inClass (top 49) 0) f fd)(T:cD K C)(nw:bF K C "worths"):aO P w K mg base aR 1 f fd ["self"] (NT C):=by
 refine F.bG Za λaH A outer s H vs Q E hr h=>?_
 obtain⟨p,dx,rfl,hp,q⟩:=h
 refine⟨_,(aw (kX (pv 0) AM rfl)),?_⟩
 try dsimp only[bA]
 intro d hd
 have u6:p≠d:=bq hp hd
 refine⟨_,rfl,p,C,dx,[],rfl,(by rw[ak u6];exact hp),T,nw,(by show 0<1000;decide),?_⟩
 refine q d _ hd ⟨⟨dx,ao⟩,by rw[ak u6.symm,ao],iT,λq m=>absurd m fm⟩ λb o e hb=>?_
 rw[ak hb,ak (bq e hd)]
 exact e
def NU(C:Addr):Sp:=λvs H Q _=>∃(p d:Addr) (kvs:List (Key×V)) (x:Str) (v:V),vs=[.ref p,.str x]/\g9 C H p d kvs/\cK x=true/\aQ kvs (Sum.inr x:Key)=some v/\∀H',af H H'->Q .aB H'
def Zc:bg ["self","word"] ["self","word"] (aV (inClass (top 49) 8)):={}
def Zd(F:aX K "need_there" "Book.need_there" (inClass (top 49) 8) f fd)(T:cD K C)(nw:bF K C "worths")(Gw:Fn P w K mg base "need_word" 3 Gv):aO P w K mg base aR 4 f fd ["self","word"] (NU C):=by
 refine F.bG Zc λaH A outer s H vs Q E hr h=>?_
 refine hide λG_ aF=>?_
 obtain⟨p,d,kvs,x,v,rfl,S,hw,hv,q⟩:=h
 refine aF.k ?_
 have cU:=gS hr
 refine⟨_,(ar (fu (aU Gw hr (ab (pv 1) ag)))
  (aw (bw (Ao (Ly cU (pv 1) (cn (pv 0) rfl)))
  (aw xk)
  bC))),?_⟩
 try dsimp only[bA]
 refine⟨_,rfl,x,rfl,hw,λH1 s1=>?_⟩
 obtain⟨⟨dx,h1⟩,hd,_⟩:=S.mono s1
 refine⟨_,rfl,_,rfl,p,C,dx,_,_,rfl,h1,T,nw,vh _,d,_,rfl,dU.k (k:=Sum.inr x) hd,_,rfl,?_⟩
 rw[hv]
 exact aL (q H1 s1)
def BN(C:Addr):Sp:=λvs H Q _=>∃(p d:Addr) (kvs:List (Key×V)) (x:Str) (v:V),vs=[.ref p,.str x,v]/\g9 C H p d kvs/\cK x=true/\aQ kvs (Sum.inr x:Key)=none/\kvs.length<=1000/\
 ∀H',g9 C H' p d (putK kvs (Sum.inr x) v)->(∀b o,b≠d->H b=some o->H' b=some o)->Q .aB H'
def Ze:bg ["self","word","worth"] ["self","word","worth"] (aV (inClass (top 49) 1)):={}
theorem NV(F:uI K "put" "Book.put" (inClass (top 49) 1) f fd dv)(T:cD K C)(nw:bF K C "worths")(Gw:Fn P w K mg base "need_word" 3 Gv):aO P w K mg base aR 4 f fd ["self","word","worth"] (BN C):=by
 refine F.ok Ze (λvs H Q E h=>?_) (λaH A outer s H vs Q E hr h=>?_)
 .refine hide λG_ aF=>?_
  obtain⟨p,d,kvs,x,v,rfl,_⟩:=h
  refine aF.k ?_
  rfl
 .refine hide λG_ aZ=>?_
  obtain⟨p,d,kvs,x,v,rfl,S,hw,hv,hl,q⟩:=h
  refine aZ.k ?_
  have cU:=gS hr
  refine⟨_,(ar (fu (aU Gw hr (ab (pv 1) ag)))
   (ar (bw (Ao (EF cU (pv 1) (cn (pv 0) rfl)))
   (aw xk)
   bC)
   (aw (xC cU (cn (pv 0) rfl) (pv 1) (pv 2) rfl)))),?_⟩
  try dsimp only[bA]
  refine⟨_,rfl,x,rfl,hw,λH1 s1=>?_⟩
  obtain⟨⟨dx,h1⟩,hd,nd,tx⟩:=S.mono s1
  refine⟨_,rfl,_,rfl,p,C,dx,_,_,rfl,h1,T,nw,vh _,d,_,rfl,dU.k (k:=Sum.inr x) hd,_,rfl,?_⟩
  rw[hv]
  have u6:p≠d:=cx h1 hd (by intro z;cases z)
  refine aL ⟨_,rfl,_,rfl,p,C,dx,_,_,rfl,h1,T,nw,vh _,_,rfl,d,_,rfl,lg.k (k:=Sum.inr x) hd (LH (by lia)),?_⟩
  refine q _ ⟨⟨dx,by rw[ak u6];exact h1⟩,ao,LK v nd hv,NR tx x v hv⟩ λb o hb e=>?_
  rw[ak hb]
  exact s1 _ _ e
def Gx(C:Addr):Sp:=λvs H Q _=>∃(p d:Addr) (kvs:List (Key×V)) (x:Str) (v:V),vs=[.ref p,.str x]/\g9 C H p d kvs/\cK x=true/\aQ kvs (Sum.inr x:Key)=some v/\∀H',af H H'->Q v H'
def Zf:bg ["self","word"] ["self","word"] (aV (inClass (top 49) 4)):={}
def Zg(F:aX K "worth" "Book.worth" (inClass (top 49) 4) f fd)(T:cD K C)(nw:bF K C "worths")(Gy:Mt P w K mg base C "need_there" 4 (NU C) []):aO P w K mg base aR 5 f fd ["self","word"] (Gx C):=by
 refine F.bG Zf λaH A outer s H vs Q E hr h=>?_
 refine hide λG_ aF=>?_
 obtain⟨p,d,kvs,x,v,rfl,S,hw,hv,q⟩:=h
 have cU:=gS hr
 obtain⟨⟨yw,MS⟩,_⟩:=id S
 refine aF.k ?_
 refine⟨_,(ar (fu (sf Gy hr (pv 0) (ab (pv 1) ag)))
  (aw (aP (uz cU (cn (pv 0) rfl) (pv 1) (λ_ _=>rfl))))),?_⟩
 try dsimp only[bA]
 refine⟨_,rfl,p,yw,_,rfl,MS,vi _ (by decide +kernel),_,rfl,p,d,kvs,x,v,rfl,S,hw,hv,λH1 s1=>?_⟩
 obtain⟨⟨dx,h1⟩,hd,nd,tx⟩:=S.mono s1
 exact⟨_,rfl,p,C,dx,_,_,rfl,h1,T,nw,vh _,_,rfl,d,v,rfl,hv ▸ dU.k (k:=Sum.inr x) hd,q H1 s1⟩
def NW(C:Addr):Sp:=λvs H Q _=>∃(p d:Addr) (kvs:List (Key×V)),vs=[.ref p]/\g9 C H p d kvs/\kvs.length<64/\∀l H',H l=none->af H H'->H' l=some (.lst ((b8 (aC kvs)).map V.str))->Q (.ref l) H'
def Zh:bg ["self"] ["self"] (aV (inClass (top 49) 3)):={}
def Zi(B:Bl mg)(F:aX K "words" "Book.words" (inClass (top 49) 3) f fd)(T:cD K C)(nw:bF K C "worths"):aO P w K mg base aR 1 f fd ["self"] (NW C):=by
 refine F.bG Zh λaH A outer s H vs Q E hr h=>?_
 refine hide λG_ aF=>?_
 obtain⟨p,d,kvs,rfl,S,hl,q⟩:=h
 obtain⟨⟨dx,h1⟩,hd,nd,tx⟩:=id S
 refine aF.k ?_
 refine⟨_,(aw (aP (bc (We rfl) (by rfl) B.uX uE (ab (cn (pv 0) rfl) ag)))),?_⟩
 try dsimp only[bA]
 exact⟨_,rfl,p,C,dx,_,_,rfl,h1,T,nw,vh _,d,kvs,rfl,hd,tx,hl,λl yx=>q l _ yx (af.upd yx) ao⟩
end
noncomputable def kg(c d:Nat):Bool:=decide (d=46)||decide (d=c)
noncomputable def bK(x p:Str):Bool:=decide (x.length=p.length)&&(List.range x.length).all λi=>kg (x.cps.toList.getD i 0) (p.cps.toList.getD i 0)
theorem sQ(n m:Nat):decide (V.str ⟨#[n]⟩=V.str ⟨#[m]⟩)=decide (n=m):=by grind
def NX:(".":Str)=⟨#[46]⟩:=by decide +kernel
def BO{l:List α}{x d:α}(h:l[i]? = some x):l.getD i d=x:=by rw[bT,h];rfl
def Gz(h:α->β)(d:α)(l:List α)(g:α->Bool):((List.range l.length).filter λi=>g (l.getD i d)).map (λi=>h (l.getD i d))=(l.filter g).map h:=by
 have e:((List.range l.length).map λi=>l.getD i d)=l:=by
  have:=Y1 (λx:α=>x) d l
  rw[this,List.map_id']
 conv=>rhs;rw[<-e]
 rw[zX,jw]
 rfl
def GA(h:iF kvs)(e:(kvs.map λq=>kV q.1)[i]? = some v):∃x,v = .str x/\(aC kvs)[i]? = some x:=by
 rw[bE] at e
 cases q:kvs[i]? with
 |none=>rw[q] at e;cases e
 |some y=>
  rw[q] at e
  obtain⟨x,hx⟩:=h y (bj q)
  have e:kV y.1=v:=cQ e
  rw[hx] at e
  refine⟨x,e.symm,?_⟩
  unfold aC
  rw[bE,q,iR,hx]
section
variable{P:Program}{w:World}{K:Frag}{mg:Str->Option Value}{base:Heap}{f:Addr}{fd:FuncData}
theorem Zj{g:Nat->Bool}:(List.range (i+1)).all g=((List.range i).all g&&g i):=by grind
noncomputable def eM(p:Str)(n:Nat)(x:Str):Bool:=decide (x.length=p.length)&&(List.range n).all λi=>kg (x.cps.toList.getD i 0) (p.cps.toList.getD i 0)
def Zl(x p:Str):eM p p.cps.size x=bK x p:=by
 unfold eM bK
 by_cases h:x.length=p.length
 .rw[aJ h,h]
  rfl
 .rw[aN h,iq,iq]
def NY(x p:Str)(n:Nat):eM p (n+1) x=(eM p n x&&kg (x.cps.toList.getD n 0) (p.cps.toList.getD n 0)):=by
 unfold eM
 rw[Zj,Bool.and_assoc]
def NZ:Sp:=λvs H Q _=>∃(d:Addr) (kvs:List (Key×V)) (pt:Str),vs=[.ref d,.str pt]/\H d=some (.dK kvs)/\iF kvs/\kvs.length<=1000/\pt.length<=1000/\(∀x∈aC kvs,x.length<=1000)/\
 ∀l H',H l=none->af H H'->H' l=some (.lst (((aC kvs).filter λx=>bK x pt).map V.str))->Q (.ref l) H'
theorem BQ(x p:Str):decide (V.int (x.length:Int)=V.int (p.length:Int))=decide (x.length=p.length):=by grind
def vj:bg ["words","pattern","length","fits","at","sign"] ["words","pattern"] (aV (top 52)):={}
theorem Zm(B:Bl mg)(F:aX K "words_fitting" "words_fitting" (top 52) f fd)(oh:Cn mg "FREE" (.str ".")):aO P w K mg base aR 1 f fd ["words","pattern"] NZ:=by
 refine F.bG vj λaH A outer s H vs Q E hr h=>?_
 refine hide λG_ aF=>?_
 obtain⟨d,kvs,pt,rfl,hd,tx,hl,hpt,hk,q⟩:=h
 refine aF.k ?_
 have i6:(aC kvs).length=kvs.length:=by unfold aC;rw[av]
 refine⟨_,(ar (aK 2 vj.nd (bc eU (by rfl) B.b7 b6 (ab (pv 1) ag)))
  (ar (Bd (r8 (i:=3) vj.nd rfl (Or.inl rfl) (js:=[2]) (ns:=["length"]) (Bb (pv 0)) rfl rfl rfl rfl (λ_ _ _ _=>(lh (bR lW (bc eU (by rfl) B.b7 b6 (ab (pv 0) ag)) (pv 1)))) (λ_ _ _ _=>(pv 0))))
  (ar (cF (WW (by rfl) B.yk (ab (pv 1) ag)) (jB rfl (dM (bN 4 vj.nd) (dM (bN 5 vj.nd) jA)))
  (aw (bw (bR iY (pv 5) (jH oh (by rfl)))
   (aw (r8 (i:=3) vj.nd rfl (Or.inl rfl) (js:=[5,4]) (ns:=["sign","at"]) (dn (pv 3)) rfl rfl rfl rfl (λ_ _ _ _=>(lh (bR lW (aM fV (pv 0) (pv 2)) (pv 1)))) (λ_ _ _ _=>(pv 0))))
   bC)))
  (aw (aP (pv 3)))))),?_⟩
 try dsimp only[bA]
 refine⟨_,rfl,pt,rfl,dj (by lia),?_⟩
 refine⟨d,kvs,hd,λob=>?_⟩
 refine⟨_,rfl,d,ob,kvs,rfl,ao,?_⟩
 refine kd Bc (by rw[av];lia) (λi=>eM pt 0 ((aC kvs).getD i ⟨#[]⟩)) (λ_ i y _=>y = .str ((aC kvs).getD i ⟨#[]⟩)) (λH2 s2=>s2 _ _ ao) (λ_ _ _ _ _ _ _ _ h=>h) ?_ ?_
 .intro D i v H2 Z0 Z hD hv s2 _ k0 k1
  obtain⟨x,rfl,hx⟩:=GA tx hv
  have eC:=hk x (bj hx)
  rw[BO hx] at k0 k1
  have e0:eM pt 0 x=decide (x.length=pt.length):=by unfold eM;rw[List.range_zero,List.all_nil,DN]
  refine⟨_,rfl,x,rfl,dj (by lia),_,rfl,rfl,_,rfl,?_⟩
  rw[BQ,<-e0]
  refine eE (λh=>?_) (λh=>?_)
  .exact⟨_,rfl,k1 _ _ (af.cA _) h rfl⟩
  .exact k0 _ (af.cA _) (gi.mpr h)
 .intro D ys H2 hD bh s2 pr
  have e:=BM pr
  rw[av,<-i6,Gz V.str ⟨#[]⟩ (aC kvs) λx=>eM pt 0 x] at e
  have hd2:H2 d=some (.cB ob (.dK kvs)):=s2 _ _ ao
  have N0:D≠d:=λz=>by rw[z,ao] at hD;cases hD
  have yp:H D=none:=by rw[ak N0] at hD;exact hD
  refine⟨hd2,?_⟩
  have sm:af H (upd H2 d (.dK kvs)):=λb o hb=>by
   by_cases z:b=d
   .subst z
    rw[hd] at hb
    rw[ao,hb]
   .rw[ak z]
    exact s2 _ _ (by rw[ak z];exact hb)
  have N1:upd H2 d (.dK kvs) D=some (.lst (((aC kvs).filter λx=>eM pt 0 x).map V.str)):=by rw[ak N0,bh,e]
  generalize upd H2 d (.dK kvs)=H3 at sm N1
  refine⟨_,rfl,pt,rfl,?_⟩
  refine WY (λi O H4=>∃p v4 v5,O=[some (.ref d),some (.str pt),some (.int pt.length),some (.ref p),v4,v5]/\H p=none/\af H H4/\H4 p=some (.lst (((aC kvs).filter λx=>eM pt i x).map V.str))) ⟨D,none,none,rfl,yp,sm,N1⟩ ?_ ?_
  .intro i c t O H4 hc Zn ht
   refine hide λG_ aZ=>?_
   obtain⟨p,v4,v5,rfl,gb,dB,hp⟩:=Zn
   refine aZ.k ?_
   have st:af H4 (upd H4 t (.tup [.int i,.str ⟨#[c]⟩])):=af.upd ht
   have hi:i<pt.length:=by rw[<-b9];exact(cg.mp hc).1
   have gp:pt.cps.toList.getD i 0=c:=BO hc
   refine⟨t,_,rfl,aq.of ao,rfl,_,_,rfl,_,_,rfl,rfl,?_⟩
   generalize upd H4 t (.tup [.int i,.str ⟨#[c]⟩])=H5 at st
   have sR:=st _ _ hp
   refine⟨_,rfl,rfl,_,rfl,?_⟩
   rw[NX,sQ]
   by_cases cO:c=46
   .rw[aJ cO]
    refine aL ⟨p,_,_,rfl,gb,dB.trans st,?_⟩
    have ef:(λx=>eM pt (i+1) x)=λx=>eM pt i x:=by
     funext x
     rw[NY,gp]
     unfold kg
     rw[aJ cO,Bool.true_or,DN]
    rw[ef]
    exact sR
   .rw[aN cO]
    refine bf ⟨_,rfl,p,rfl,⟨_,ai.of sR⟩,?_⟩
    have dy:((aC kvs).filter λx=>eM pt i x).length<=1000:=bQ (iw _ _) (by lia)
    refine kd gB (by rw[av];lia) (λj=>decide ((((aC kvs).filter λx=>eM pt i x).getD j ⟨#[]⟩).cps.toList.getD i 0=c)) (λ_ j y _=>y = .str (((aC kvs).filter λx=>eM pt i x).getD j ⟨#[]⟩)) (λH6 s6=>ai.of (s6 _ _ sR)) (λ_ _ _ _ _ _ _ _ h=>h) ?_ ?_
    .intro D2 j v H6 Z0 Z iL hv s6 _ k0 k1
     rw[bE] at hv
     cases e:((aC kvs).filter λx=>eM pt i x)[j]? with
     |none=>rw[e] at hv;cases hv
     |some x=>
      rw[e] at hv
      cases hv
      rw[BO e] at k0 k1
      have mx:=cy.mp (bj e)
      have eC:x.length=pt.length:=by
       have:=mx.2
       unfold eM at this
       rw[eP] at this
       exact fK this.1
      have yz:x.cps.toList[i]? = some (x.cps.toList.getD i 0):=by
       rw[bT,bb (by rw[b9];lia)]
       rfl
      refine⟨_,rfl,_,rfl,x,_,_,rfl,rfl,dj (by lia),c7 yz,_,rfl,rfl,_,rfl,?_⟩
      rw[sQ]
      refine eE (λh=>?_) (λh=>?_)
      .exact⟨_,rfl,k1 _ _ (af.cA _) h rfl⟩
      .exact k0 _ (af.cA _) (gi.mpr h)
    .intro D2 zs H6 iL iM s6 lC
     have e2:=BM lC
     rw[av,Gz V.str ⟨#[]⟩ ((aC kvs).filter λx=>eM pt i x) λx=>decide (x.cps.toList.getD i 0=c)] at e2
     refine⟨D2,_,_,rfl,(dB.trans st).free iL,dB.trans (st.trans s6),?_⟩
     rw[iM,e2,List.filter_filter]
     have ef:(λx:Str=>decide (x.cps.toList.getD i 0=c)&&eM pt i x)=λx=>eM pt (i+1) x:=by
      funext x
      rw[NY,gp,Bool.and_comm]
      unfold kg
      rw[aN cO,Bool.false_or]
      congr 1
      by_cases h:x.cps.toList.getD i 0=c
      .rw[aJ h,aJ h.symm]
      .rw[aN h,aN (br h)]
     rw[ef]
  .intro O H4 Zo
   refine hide λG_ bJ=>?_
   obtain⟨p,v4,v5,rfl,gb,dB,hp⟩:=Zo
   refine bJ.k ?_
   refine⟨_,rfl,q p H4 gb dB ?_⟩
   have ef:(λx=>eM pt pt.cps.size x)=λx=>bK x pt:=by funext x;exact Zl x pt
   rw[ef] at hp
   exact hp
def N2(C:Addr):Sp:=λvs H Q _=>∃(p d:Addr) (kvs:List (Key×V)) (pt:Str),vs=[.ref p,.str pt]/\g9 C H p d kvs/\kvs.length<64/\pt.length<=1000/\(∀x∈aC kvs,x.length<=1000)/\
 ∀l H',H l=none->af H H'->H' l=some (.lst ((b8 ((aC kvs).filter λx=>bK x pt)).map V.str))->Q (.ref l) H'
def Zp:bg ["self","pattern"] ["self","pattern"] (aV (inClass (top 49) 5)):={}
theorem Zq(B:Bl mg)(F:aX K "fitting" "Book.fitting" (inClass (top 49) 5) f fd)(T:cD K C)(nw:bF K C "worths")(Zr:Fn P w K mg base "words_fitting" 1 NZ):aO P w K mg base aR 2 f fd ["self","pattern"] (N2 C):=by
 refine F.bG Zp λaH A outer s H vs Q E hr h=>?_
 refine hide λG_ aF=>?_
 obtain⟨p,d,kvs,pt,rfl,S,hl,hpt,hk,q⟩:=h
 obtain⟨⟨dx,h1⟩,hd,nd,tx⟩:=id S
 refine aF.k ?_
 have i6:(aC kvs).length=kvs.length:=by unfold aC;rw[av]
 refine⟨_,(aw (aP (bc Ba (by rfl) B.uX uE (ab (aU Zr hr (ab (cn (pv 0) rfl) (ab (pv 1) ag))) ag)))),?_⟩
 try dsimp only[bA]
 refine⟨_,rfl,p,C,dx,_,_,rfl,h1,T,nw,vh _,_,rfl,d,kvs,pt,rfl,hd,tx,by lia,hpt,hk,λg H1 hg s1 hL=>?_⟩
 exact⟨g,_,rfl,ai.of hL,jX (iw _ _) (by lia),λl yx=>q l _ (s1.free yx) (s1.trans (af.upd yx)) ao⟩
end
noncomputable def runC(op:C2->Bool)(d c:C2):List C2:=if gW op d c=true then [] else line c d (runN op d 10 c)
def Zs(op:C2->Bool)(d c:C2):cb op d c=if (runC op d c).length<2 then [] else runC op d c:=by
 unfold cb runC
 split
 .rfl
 .rw[sJ]
noncomputable def cH(k:Nat):C2:=(k,1 - k)
noncomputable def jd(l:List Str)(w k n:Nat):List (List C2):=(((cells l.length w).take n).map (cb (bz l w) (cH k))).filter (λr=>!r.isEmpty)
def Zt{k:Nat}(hi:i<l.length)(hj:j<w):jd l w k (i*w+(j+1))=jd l w k (i*w+j)++if (cb (bz l w) (cH k) (i,j)).isEmpty=true then [] else [cb (bz l w) (cH k) (i,j)]:=by
 unfold jd
 rw[show i*w+(j+1)=i*w+j+1 from rfl,M7 hi hj,dF,jY,bI,wM,dw,oX]
 cases(cb (bz l w) (cH k) (i,j)).isEmpty <;> rfl
noncomputable def lD(l:List Str)(w k:Nat):List (List C2):=jd l w k (l.length*w)
noncomputable def aG(l:List Str)(w:Nat):List (List C2):=lD l w 0++lD l w 1
theorem BR(op:C2->Bool)(f:C2->List C2):∀(n:Nat) (cs:List C2),(dq op f n cs).map (·.2)=(cs.map f).filter λr=>!r.isEmpty
 |n,[]=>rfl
 |n,c::r=>by
  unfold dq
  rw[bI,dw]
  cases h:(f c).isEmpty with
  |true=>
   rw[aA rfl,BR op f _ r]
   rfl
  |false=>
   rw[ax b0,bI,BR op f _ r]
   rfl
def Zu{op:C2->Bool}(h:op c=false):cb op d c=[]:=by
 unfold cb
 have:runN op d 10 c=0:=by
  unfold runN
  rw[h,ax b0]
 rw[this]
 split
 .rfl
 .rw[aA (by decide)]
def N3(d:C2):((bV l w).map (cb (bz l w) d)).filter (λr=>!r.isEmpty)=((cells l.length w).map (cb (bz l w) d)).filter (λr=>!r.isEmpty):=by
 unfold bV
 have:∀cs:List C2,(∀c∈cs,c.1<l.length/\c.2<w)->((cs.filter (bY l)).map (cb (bz l w) d)).filter (λr=>!r.isEmpty)=(cs.map (cb (bz l w) d)).filter (λr=>!r.isEmpty):=by
  intro cs
  induction cs with
  |nil=>intro _;rfl
  |cons c r ih=>
   intro h
   have hc:=h c bt
   have ih:=ih λx m=>h x (bX _ m)
   rw[dw,bI,dw]
   cases ho:bY l c with
   |true=>
    rw[aA rfl,bI,dw,ih]
   |false=>
    rw[ax b0,ih,Zu (by rw[mI hc.1 hc.2];exact ho)]
    rfl
 exact this _ λc m=>sI m
def qg(l:List Str)(w:Nat):aG l w=(dr l w).map (·.2):=by
 unfold aG lD jd dr gX n6
 rw[dF,BR,BR,N3,N3,fq (by rw[mG];exact aW _)]
 rfl
def BS(g:Addr)(H:Hp)(r:List C2)(x:V):Prop := ∃p ys,x = .ref p/\p≠g/\H p=some (.lst ys)/\bH H r ys
theorem BS.mono{g:Addr}{H H':Hp}{r:List C2}{x:V}(s:af H H')(h:BS g H r x):BS g H' r x:=let ⟨p,ys,e,n,a,b⟩:=h;⟨p,ys,e,n,s _ _ a,b.mono s⟩
abbrev c9(g:Addr)(H:Hp):List (List C2)->List V->Prop:=Paired (BS g H)
theorem c9.mono{g:Addr}{H H':Hp}{rs:List (List C2)}{xs:List V}(s:af H H')(h:c9 g H rs xs):c9 g H' rs xs:=Paired.bU h λ_ _ q=>q.mono s
theorem c9.off{g:Addr}{H H':Hp}{rs:List (List C2)}{xs:List V}(hg:∃o,H g=some (.lst o))(k:∀b o,b≠g->H b=some o->H' b=some o)(h:c9 g H rs xs):c9 g H' rs xs:=
 Paired.bU h λ_ _ ⟨p,ys,e,n,a,b⟩=>⟨p,ys,e,n,k _ _ n a,bH.off hg k b⟩
section
variable{P:Program}{w:World}{K:Frag}{mg:Str->Option Value}{base:Heap}{f:Addr}{fd:FuncData}
def N4(K:Frag):Sp:=λvs H Q _=>∃(a:Addr) (l:List Str) (w:Nat) (i j:Int),vs=[.ref a,.int i,.int j]/\aq K H a (l.map V.str)/\bo l w/\Q (.bl (iX l w i j)) H
def Zv:bg ["_law_sheet","_law_line","_law_column"] ["_law_sheet","_law_line","_law_column"] (aV (top 55)):={}
theorem Zw(B:Bl mg)(F:aX K "_law_open" "_law_open" (top 55) f fd):aO P w K mg base aR 1 f fd ["_law_sheet","_law_line","_law_column"] (N4 K):=by
 refine F.bG Zv λaH A outer s H vs Q E hr h=>?_
 refine hide λG_ aF=>?_
 obtain⟨a,l,wd,i,j,rfl,hT,S,q⟩:=h
 obtain⟨x0,n8,BB,n9,_⟩:=S.row (i:=0) S.one
 refine aF.k ?_
 have h9:=S.nine
 have hw:=S.w9
 refine⟨_,(ar (bw (PW.pt (pq (um lX kW az (pv 1) (bc d7 (by rfl) B.b7 b6 (ab (pv 0) ag))) (rE (um lX kW az (pv 2) (bc eU (by rfl) B.b7 b6 (ab (aM bO (pv 0) az) ag))))))
  (aw (aP (nM iY (aM fV (aM bO (pv 0) (pv 1)) (pv 2)) dY)))
  bC)
  (aw (aP dR))),?_⟩
 try dsimp only[bA]
 unfold iX at q
 refine⟨_,rfl,_,_,rfl,rfl,_,rfl,?_⟩
 by_cases h0:(0:Int)<=i
 .rw[aJ h0] at q ⊢
  refine bf ⟨_,rfl,a,_,rfl,.inr hT,_,_,rfl,rfl,_,rfl,?_⟩
  rw[av]
  by_cases h1:i<(l.length:Int)
  .rw[aJ h1] at q ⊢
   refine bf ⟨_,rfl,_,_,rfl,rfl,_,rfl,?_⟩
   by_cases h2:(0:Int)<=j
   .rw[aJ h2] at q ⊢
    refine bf ⟨_,rfl,a,_,0,.str x0,rfl,rfl,hT,iH n8,x0,rfl,eG (by lia),_,_,rfl,rfl,_,rfl,?_⟩
    rw[n9]
    by_cases h3:j<(wd:Int)
    .rw[aJ h3] at q ⊢
     refine hide λG_ aZ=>?_
     obtain⟨i',rfl⟩:=ud h0
     obtain⟨j',rfl⟩:=ud h2
     rw[dQ,dQ] at q
     obtain⟨x,hx,mx,lx,_,hj⟩:=S.row (i:=i') (by lia)
     refine aZ.k ?_
     refine bf ⟨_,rfl,_,rfl,a,_,_,.str x,rfl,rfl,hT,iH hx,_,rfl,x,_,sg l (i',j'),rfl,rfl,eG (by lia),c7 (hj j' (by lia)),rfl,?_⟩
     rw[pZ,Bx]
     exact q
    .rw[aN h3] at q ⊢
     exact aL q
   .rw[aN h2] at q ⊢
    exact aL ⟨_,rfl,aL q⟩
  .rw[aN h1] at q ⊢
   exact aL (aL q)
 .rw[aN h0] at q ⊢
  exact aL ⟨_,rfl,aL (aL q)⟩
def N5(K:Frag)(a p:Addr)(H:Hp)(l:List Str)(wd:Nat)(c:C2)(k:Nat):Nat->St->Hp->Prop:=λm O H2=>∃n xs,m=10 - n/\n<=9/\O=[some (.ref a),some (.int (go c (cH k) n).1),some (.int (go c (cH k) n).2),some (.int k),some (.ref p)]/\af H H2/\
 H2 p=some (.lst xs)/\bH H2 (line c (cH k) n) xs/\∀j,j<n->bz l wd (go c (cH k) j)=true
def N6(K:Frag):Sp:=λvs H Q _=>∃(a:Addr) (l:List Str) (w:Nat) (c:C2) (k:Nat),vs=[.ref a,.int c.1,.int c.2,.int k]/\aq K H a (l.map V.str)/\bo l w/\k<=1/\
 ∀p xs H',H p=none->af H H'->H' p=some (.lst xs)->bH H' (runC (bz l w) (cH k) c) xs->Q (.ref p) H'
def BU:bg ["_law_sheet","_law_line","_law_column","_law_down","_law_cells"] ["_law_sheet","_law_line","_law_column","_law_down"] (aV (top 56)):={}
theorem Zx(F:aX K "_law_run" "_law_run" (top 56) f fd)(N7:Fn P w K mg base "_law_open" 1 (N4 K)):aO P w K mg base aR 2 f fd ["_law_sheet","_law_line","_law_column","_law_down"] (N6 K):=by
 refine F.bG BU λaH A outer s H vs Q E hr h=>?_
 refine hide λG_ aF=>?_
 obtain⟨a,l,wd,c,k,rfl,hT,S,hk,q⟩:=h
 refine aF.k ?_
 have h9:=S.nine
 have hw:=S.w9
 refine⟨_,(ar (aK 4 BU.nd (de ag))
  (ar (bw (dS (aU N7 hr (ab (pv 0) (ab (aS pC (pv 1) (pv 3)) (ab (aS d5 (aS pC (pv 2) az) (pv 3)) ag)))))
  (aw (aP (pv 4)))
  bC)
  (ar (KC PassesOwn.never (dS (aU N7 hr (ab (pv 0) (ab (pv 1) (ab (pv 2) ag)))))
  (ar (fu (fB jv jZ j0 iC (pv 4) (ab (eS (ab (pv 1) (ab (pv 2) ag))) ag (hs:=cJ rfl))))
   (ar (aK 1 BU.nd (aS d5 (pv 1) (pv 3)))
   (aw (aK 2 BU.nd (aS pC (aS d5 (pv 2) az) (pv 3)))))))
  (aw (aP (pv 4)))))),?_⟩
 try dsimp only[bA]
 refine⟨bu _,λp hp=>?_⟩
 have eW:=af.upd (o:=HO.lst []) hp
 have N8:((1 - k:Nat):Int)=1 - (k:Int):=by lia
 have Oa:=Nu l wd c (cH k)
 have e2:(c.2:Int) - (((cH k).2:Nat):Int)=(c.2:Int) - 1+(k:Int):=by show(c.2:Int) - ((1 - k:Nat):Int)=_;lia
 rw[e2] at Oa
 refine⟨_,rfl,_,rfl,_,rfl,_,_,rfl,rfl,_,rfl,_,_,rfl,rfl,_,rfl,_,_,rfl,rfl,a,l,wd,_,_,rfl,eW.tup hT,S,_,rfl,?_⟩
 rw[show(c.1:Int) - (k:Int)=(c.1:Int) - (((cH k).1:Nat):Int) from rfl,Oa]
 refine eE (λke=>?_) (λke=>?_)
 .refine⟨_,rfl,q p [] _ hp eW ao ?_⟩
  unfold runC
  rw[aA ke]
  exact .nil
 .refine⟨N5 K a p H l wd c k,⟨10,0,[],rfl,by lia,by rw[ja];rfl,eW,ao,.nil,λj hj=>absurd hj (iu _)⟩,?_⟩
  intro m O H2 Zy
  refine hide λG_ aZ=>?_
  obtain⟨n,xs,rfl,hn,rfl,sm,hL,hC,ho⟩:=Zy
  refine aZ.k ?_
  refine⟨_,rfl,_,rfl,_,rfl,a,l,wd,_,_,rfl,sm.tup hT,S,_,rfl,?_⟩
  rw[F5]
  have hlen:xs.length=n:=by rw[<-hC.length,sJ]
  refine eE (λjc=>?_) (λjc=>?_)
  .have YH:n<=8:=by
    obtain⟨o1,o2,_⟩:=pX jc
    simp only[go,cH] at o1 o2
    rcases(by lia:k=0\/k=1) with rfl | rfl
    .simp only[Nat.sub_zero,iz] at o2
     lia
    .simp only[iz] at o1
     lia
   refine⟨λO' H' =>∃m',m'<10 - n/\N5 K a p H l wd c k m' O' H',λ_ _ z=>z,?_⟩
   refine⟨_,rfl,.inl ⟨rfl,_,ai.of hL⟩,_,rfl,_,rfl,by show 2<=sizeLine;decide,λt ht=>?_⟩
   have sN:t≠p:=br (bq hL ht)
   have tt:=af.upd (o:=HO.tup [V.int ((go c (cH k) n).1:Nat),V.int ((go c (cH k) n).2:Nat)]) ht
   refine⟨p,xs,_,rfl,rfl,tt _ _ hL,uZ (by lia),?_⟩
   refine⟨_,rfl,_,rfl,_,_,rfl,rfl,_,rfl,_,_,rfl,rfl,_,rfl,_,_,rfl,rfl,?_⟩
   refine⟨10 - (n+1),by lia,n+1,xs++[.ref t],rfl,by lia,?_,(sm.trans tt).i0 hp,ao,?_,?_⟩
   .rw[go_succ]
    have g1:(((go c (cH k) n).1+(cH k).1:Nat):Int)=((go c (cH k) n).1:Int)+(k:Int):=by show(((go c (cH k) n).1+k:Nat):Int)=_;lia
    have g2:(((go c (cH k) n).2+(cH k).2:Nat):Int)=((go c (cH k) n).2:Int)+1 - (k:Int):=by show(((go c (cH k) n).2+(1 - k):Nat):Int)=_;lia
    simp only[g1,g2]
    rfl
   .rw[M8]
    have off:∀b o,b≠p->upd H2 t (HO.tup [V.int ((go c (cH k) n).1:Nat),V.int ((go c (cH k) n).2:Nat)]) b=some o->upd (upd H2 t (HO.tup [V.int ((go c (cH k) n).1:Nat),V.int ((go c (cH k) n).2:Nat)])) p (.lst (xs++[.ref t])) b=some o:=λb o hb z=>by rw[ak hb];exact z
    exact nA (bH.off ⟨xs,tt _ _ hL⟩ off (hC.mono tt)) ⟨t,rfl,off _ _ sN ao⟩
   .intro j hj
    rcases wZ.mp hj with z | z
    .exact ho j z
    .rw[z];exact jc
  .have BC:runN (bz l wd) (cH k) 10 c=n:=FR (by lia) ho (gi.mpr jc)
   refine⟨_,rfl,q p xs H2 hp sm hL ?_⟩
   unfold runC
   rw[ax ke,BC]
   exact hC
def yA(K:Frag):Sp:=λvs H Q _=>∃(a:Addr) (l:List Str) (w:Nat),vs=[.ref a]/\aq K H a (l.map V.str)/\bo l w/\
 ∀g xs H',H g=none->af H H'->H' g=some (.lst xs)->c9 g H' (aG l w) xs->Q (.ref g) H'
theorem yB(l:List Str)(w k n:Nat):(jd l w k n).length<=(cells l.length w).length:=by grind [cells,jd]
noncomputable def BV(l:List Str)(w:Nat):Nat->List (List C2)
 |0=>[]
 |1=>lD l w 0
 |_=>aG l w
noncomputable def mN(l:List Str)(w k n:Nat):List (List C2):=BV l w k++jd l w k n
def vk:bg ["_law_sheet","_law_rows_here","_law_down","_law_line","_law_column","_law_cells"] ["_law_sheet"] (aV (top 57)):={}
theorem Zz(B:Bl mg)(F:aX K "_law_rows" "_law_rows" (top 57) f fd)(ZA:Fn P w K mg base "_law_run" 2 (N6 K)):aO P w K mg base aR 3 f fd ["_law_sheet"] (yA K):=by
 refine F.bG vk λaH A outer s H vs Q E hr h=>?_
 refine hide λG_ aF=>?_
 obtain⟨a,l,wd,rfl,hT,S,q⟩:=h
 have h9:=S.nine
 have hw:=S.w9
 have u0:=yh S
 obtain⟨x0,n8,BB,n9,_⟩:=S.row (i:=0) S.one
 refine aF.k ?_
 refine⟨_,(ar (aK 1 vk.nd (de ag))
  (ar (cF (gm (by rfl) B.gD (ab az ag)) (bN 2 vk.nd)
  (aw (cF (gm (by rfl) B.gD (ab (bc d7 (by rfl) B.b7 b6 (ab (pv 0) ag)) ag)) (bN 3 vk.nd)
   (aw (cF (gm (by rfl) B.gD (ab (bc eU (by rfl) B.b7 b6 (ab (aM bO (pv 0) az) ag)) ag)) (bN 4 vk.nd)
    (ar (aK 5 vk.nd (aU ZA hr (ab (pv 0) (ab (pv 3) (ab (pv 4) (ab (pv 2) ag))))))
     (aw (bw (bR Ay (bc d7 (by rfl) B.b7 b6 (ab (pv 5) ag)) az)
     (aw (fu (fB jv jZ j0 iC (pv 1) (ab (pv 5) ag))))
     bC))))))))
  (aw (aP (pv 1))))),?_⟩
 try dsimp only[bA]
 refine⟨bu _,λg hg=>?_⟩
 have eW:=af.upd (o:=HO.lst []) hg
 have ZC:∀k n,(mN l wd k n).length<=300:=λk n=>by
  unfold mN
  have h1:=yB l wd k n
  have h2:(lD l wd 0).length<=81:=bQ (yB l wd 0 _) u0
  have h3:(BV l wd k).length<=162:=by
   match k with
   |0=>exact bu _
   |1=>show(lD l wd 0).length<=_;lia
   |k+2=>
    show(aG l wd).length<=_
    unfold aG
    have h2:(lD l wd 1).length<=81:=bQ (yB l wd 1 _) u0
    rw[dE]
    lia
  rw[dE]
  lia
 refine⟨_,rfl,by decide,by decide,i5 (n:=2) (λk O H2=>∃v2 v3 v4 v5 xs,O=[some (.ref a),some (.ref g),v2,v3,v4,v5]/\af H H2/\H2 g=some (.lst xs)/\c9 g H2 (BV l wd k) xs)
  ⟨none,none,none,none,[],rfl,eW,ao,.nil⟩ ?_ ?_⟩
 .intro k O H2 hk ZD
  refine hide λG_ aZ=>?_
  obtain⟨v2,v3,v4,v5,xs,rfl,sm,hL,hC⟩:=ZD
  refine aZ.k ?_
  refine⟨_,rfl,a,_,rfl,.inr (sm.tup hT),_,rfl,by rw[av];lia,by rw[av];lia,?_⟩
  rw[dQ,av]
  refine i5 (λi O H3=>∃v3 v4 v5 xs,O=[some (.ref a),some (.ref g),some (.int k),v3,v4,v5]/\af H H3/\H3 g=some (.lst xs)/\c9 g H3 (mN l wd k (i*wd)) xs)
   ⟨v3,v4,v5,xs,rfl,sm,hL,by unfold mN jd;rw[Nat.zero_mul,rb];simpa using hC⟩ ?_ ?_
  .intro i O H3 hi ZE
   refine hide λG_ bJ=>?_
   obtain⟨v3,v4,v5,ys,rfl,fQ,jb,jL⟩:=ZE
   refine bJ.k ?_
   refine⟨_,rfl,a,_,0,.str x0,rfl,rfl,fQ.tup hT,iH n8,x0,rfl,eG (by lia),_,rfl,by lia,by lia,?_⟩
   rw[dQ,n9]
   refine i5 (λj O H4=>∃v4 v5 xs,O=[some (.ref a),some (.ref g),some (.int k),some (.int i),v4,v5]/\af H H4/\H4 g=some (.lst xs)/\c9 g H4 (mN l wd k (i*wd+j)) xs)
    ⟨v4,v5,ys,rfl,fQ,jb,jL⟩ ?_ ?_
   .intro j O H4 hj ZF
    refine hide λG_ cG=>?_
    obtain⟨v4,v5,zs,rfl,dB,sS,yC⟩:=ZF
    refine cG.k ?_
    refine⟨_,rfl,_,rfl,_,rfl,_,rfl,a,l,wd,(i,j),k,rfl,dB.tup hT,S,by lia,λp us H5 hp s5 hP Ob=>?_⟩
    have yD:=s5 _ _ sS
    have Oc:p≠g:=λz=>by rw[z,sS] at hp;cases hp
    have GB:=Ob.length
    have e1:mN l wd k (i*wd+(j+1))=mN l wd k (i*wd+j)++if (cb (bz l wd) (cH k) (i,j)).isEmpty=true then [] else [cb (bz l wd) (cH k) (i,j)]:=by
     unfold mN
     rw[Zt hi hj,lQ]
    have e2:=Zs (bz l wd) (cH k) (i,j)
    refine⟨_,rfl,p,_,rfl,.inl (ai.of hP),_,_,rfl,rfl,_,rfl,eE (λh1=>?_) (λh1=>?_)⟩
    .have h1:(1:Int)<(us.length:Int):=fK h1
     have hz:=yC.length
     have k8:=ZC k (i*wd+j)
     refine⟨_,rfl,.inl ⟨rfl,_,ai.of yD⟩,_,rfl,g,zs,_,rfl,rfl,yD,uZ (by lia),?_⟩
     refine⟨_,_,_,rfl,(dB.trans s5).i0 hg,ao,?_⟩
     rw[ax (by lia)] at e2
     have bx:(cb (bz l wd) (cH k) (i,j)).isEmpty=false:=by
      rw[e2]
      cases eZ:runC (bz l wd) (cH k) (i,j) with
      |nil=>
       exfalso
       rw[eZ] at GB
       have GB:0=us.length:=GB
       lia
      |cons _ _=>rfl
     rw[e1,ax (by rw[bx];exact b0),e2]
     have off:∀b o,b≠g->H5 b=some o->upd H5 g (.lst (zs++[.ref p])) b=some o:=λb o hb z=>by rw[ak hb];exact z
     exact nA (c9.off ⟨zs,yD⟩ off (c9.mono s5 yC)) ⟨p,us,rfl,Oc,off _ _ Oc hP,bH.off ⟨zs,yD⟩ off Ob⟩
    .have h1:¬(1:Int)<(us.length:Int):=λz=>h1 (aJ z)
     rw[aA (by lia)] at e2
     refine⟨_,_,zs,rfl,dB.trans s5,yD,?_⟩
     rw[e1,e2,aA (show([]:List C2).isEmpty=true from rfl),dJ]
     exact c9.mono s5 yC
   .intro O H4 ZG
    refine hide λG_ eX=>?_
    obtain⟨v4,v5,zs,rfl,dB,sS,yC⟩:=ZG
    refine eX.k ?_
    refine⟨_,_,_,zs,rfl,dB,sS,?_⟩
    rw[iQ]
    exact yC
  .intro O H3 ZH
   refine hide λG_ oi=>?_
   obtain⟨v3,v4,v5,ys,rfl,fQ,jb,jL⟩:=ZH
   refine oi.k ?_
   refine⟨_,_,_,_,ys,rfl,fQ,jb,?_⟩
   have e3:mN l wd k (l.length*wd)=BV l wd (k+1):=by
    rcases(by lia:k=0\/k=1) with rfl | rfl
    .unfold mN
     exact DM _
    .rfl
   rw[<-e3]
   exact jL
 .intro O H2 ZI
  refine hide λG_ oj=>?_
  obtain⟨v2,v3,v4,v5,xs,rfl,sm,hL,hC⟩:=ZI
  refine oj.k ?_
  exact⟨_,rfl,q g xs H2 hg sm hL hC⟩
end
noncomputable def putL(l:List Str):List C2->List Nat->List Str
 |c::cs,x::xs=>putL (setC l c x) cs xs
 |_,_=>l
def sV(l:List Str):∀(cs:List C2) (xs:List Nat) (i:Nat) (c:C2) (x:Nat),cs[i]? = some c->xs[i]? = some x->putL l (cs.take (i+1)) (xs.take (i+1))=setC (putL l (cs.take i) (xs.take i)) c x:=by
 intro cs
 induction cs generalizing l with
 |nil=>intro xs i c x h;simp at h
 |cons d r ih=>
  intro xs i c x h1 h2
  cases xs with
  |nil=>simp at h2
  |cons y s=>
   cases i with
   |zero=>
    have h1:d=c:=by simpa using h1
    have h2:y=x:=by simpa using h2
    subst h1 h2
    rfl
   |succ i=>
    have h1:r[i]? = some c:=by simpa using h1
    have h2:s[i]? = some x:=by simpa using h2
    exact ih (setC l d y) s i c x h1 h2
theorem Od(l:List Str):∀(cs:List C2) (xs:List Nat),putL l (cs.take (min cs.length xs.length)) (xs.take (min cs.length xs.length))=putL l cs xs:=by
 intro cs
 induction cs generalizing l with
 |nil=>intro xs;simp[putL]
 |cons d r ih=>
  intro xs
  cases xs with
  |nil=>simp[putL]
  |cons y s=>
   have e:min (d::r).length (y::s).length=min r.length s.length+1:=by simp only[dC];lia
   rw[e]
   exact ih (setC l d y) s
section
variable{P:Program}{w:World}{K:Frag}{mg:Str->Option Value}{base:Heap}{f:Addr}{fd:FuncData}
def GC:bg ["_law_sheet","_law_cell","_law_sign","_law_lines","_law_line"] ["_law_sheet","_law_cell","_law_sign"] (aV (top 58)):={}
theorem ZJ(B:Bl mg)(F:aX K "_law_with" "_law_with" (top 58) f fd):aO P w K mg base aR 1 f fd ["_law_sheet","_law_cell","_law_sign"] (sP K):=by
 refine F.bG GC λaH A outer s H vs Q E hr h=>?_
 refine hide λG_ aF=>?_
 obtain⟨a,b,l,wd,c,ch,rfl,hT,S,hb,h1,h2,q⟩:=h
 obtain⟨x,hx,mx,lx,pW,hj⟩:=S.row h1
 refine aF.k ?_
 have hw:=S.w9
 refine⟨_,(ar (aK 3 GC.nd (iZ rP (by rfl) B.pY pM (ab (pv 0) ag)))
  (ar (aK 4 GC.nd (aM d6 (pv 3) (aM bO (pv 1) az)))
  (ar (rH (aS rL (aS rL (nR uF (pv 4) l4 (l6 (aM bO (pv 1) az))) (pv 2)) (nR uF (pv 4) (l6 (aS d5 (aM bO (pv 1) az) az)) l4)) (ug (pv 3) (aM bO (pv 1) az) set_list))
  (aw (aP (iZ xA (by rfl) B.sM se (ab (pv 3) ag))))))),?_⟩
 try dsimp only[bA]
 refine⟨_,rfl,a,_,rfl,.inr hT,λp hp=>?_⟩
 have t1:=af.upd (o:=HO.lst (l.map V.str)) hp
 have l1:(Txt.slice x none (some (c.2:Int))).length<=100:=bQ (wU x _ _) (by lia)
 have l2:(Txt.slice x (some ((c.2:Int)+1)) none).length<=100:=bQ (wU x _ _) (by lia)
 have mj:=t1.tup hb
 refine⟨_,rfl,_,rfl,b,_,0,.int c.1,rfl,rfl,mj,rfl,p,_,_,.str x,rfl,rfl,ai.of ao,iH hx,?_⟩
 refine⟨_,rfl,_,rfl,b,_,1,.int c.2,rfl,rfl,mj,rfl,_,rfl,x,rfl,eG (by lia),_,rfl,_,_,rfl,rfl,eG (by show _+1<=_;lia),?_⟩
 refine⟨_,rfl,_,rfl,b,_,1,.int c.2,rfl,rfl,mj,rfl,_,_,rfl,rfl,_,rfl,x,rfl,eG (by lia),_,_,rfl,rfl,eG ?_,?_⟩
 .rw[<-b9,mF,dE,b9]
  show _+1+_<=_
  lia
 have eg:=FQ (x:=x) (j:=c.2) (ch:=ch) (Gp (by lia)) (Gq (by lia))
 refine⟨_,rfl,_,rfl,b,_,0,.int c.1,rfl,rfl,mj,rfl,p,_,_,c.1,rfl,rfl,ao,uG (by rw[av];exact h1),?_⟩
 rw[eg,Kl]
 refine⟨_,rfl,p,_,rfl,.inl ⟨ai.of ao,λt ht=>?_⟩⟩
 have sm:af H (upd H p (.lst ((l.map V.str).set c.1 (.str (bP x c.2 ch))))):=af.upd hp
 refine q t _ (sm.free ht) (sm.trans (af.upd ht)) ?_
 rw[ao]
 unfold setC
 rw[bW hx,List.map_set]
def vm(K:Frag):Sp:=λvs H Q _=>∃(a t:Addr) (l:List Str) (w:Nat) (cs:List C2) (xs:List V),vs=[.ref a,.ref t]/\aq K H a (l.map V.str)/\bo l w/\H t=some (.lst xs)/\bH H cs xs/\cs.length<=100/\(∀c∈cs,c.1<l.length/\c.2<w)/\
 ∀H',af H H'->Q (.str (au l cs)) H'
def ZL:bg ["_law_sheet","_law_cells"] ["_law_sheet","_law_cells"] (aV (top 63)):={}
theorem ZM(F:aX K "_law_text" "_law_text" (top 63) f fd):aO P w K mg base aR 1 f fd ["_law_sheet","_law_cells"] (vm K):=by
 refine F.bG ZL λaH A outer s H vs Q E hr h=>?_
 refine hide λG_ aF=>?_
 obtain⟨a,t,l,wd,cs,xs,rfl,hT,S,ht,hC,hlen,bD,q⟩:=h
 refine aF.k ?_
 have hlx:=hC.length
 have hw:=S.w9
 refine⟨_,(aw (aP (fB DV Ke Kf A0 dY (ab (L0 (js:=[0]) (ns:=["_law_sheet"]) (dn (pv 1)) rfl rfl rfl rfl (λ_ _ _ _=>gT) (λ_ _ _ _=>(aM fV (si (K:=K) (rr:=pG) rfl bO (pv 2) (pv 0)) (pv 1)))) ag (hs:=cJ rfl))))),?_⟩
 try dsimp only[bA]
 refine⟨rfl,_,rfl,t,rfl,⟨_,ai.of ht⟩,?_⟩
 refine Wa (by lia) (ai.of ht) (λ_=>true) (λ_ i y _=>y = .str ⟨#[sg l (cs.getD i (0,0))]⟩) (λ_ _ _ _ _ _ _ _ h=>h) ?_ ?_
 .intro D i x H2 Z0 Z hD hx s2 _ k0 k1
  refine hide λG_ aZ=>?_
  obtain⟨c,hc,b,rfl,hb⟩:=Paired.get hC hx
  have eY:=bD c (bj hc)
  obtain⟨y,hy,my,ly,_,hj⟩:=S.row eY.1
  refine aZ.k ?_
  refine⟨b,_,_,rfl,aq.of (s2 _ _ hb),bf (B:=Z0 H2) ?_⟩
  exact⟨_,rfl,_,rfl,a,_,_,.str y,rfl,rfl,s2.tup hT,iH hy,_,rfl,y,_,_,rfl,rfl,eG (by lia),c7 (hj c.2 eY.2),k1 _ _ (af.cA _) rfl (by rw[bW hc])⟩
 .intro D ys H2 hD bh s2 pr
  rw[List.filter_eq_self.mpr (λ_ _=>rfl)] at pr
  have e:=jN pr
  rw[<-hlx,kf (λc=>V.str ⟨#[sg l c]⟩)] at e
  have e1:ys=((cs.map (sg l)).map λc=>(⟨#[c]⟩:Str)).map V.str:=by rw[e,jw,jw];rfl
  rw[e1] at bh
  refine⟨_,D,(cs.map (sg l)).map λc=>(⟨#[c]⟩:Str),rfl,rfl,.inl (ai.of bh),?_,?_⟩
  .rw[Gn,av,av,ve]
   show _+_*0<=_
   lia
  .rw[ve,Gm]
   exact q H2 s2
theorem GD(z:Int):eT iG.cps.toList (z % 26)=some (97+(z % 26).toNat)/\97<=97+(z % 26).toNat/\97+(z % 26).toNat<=122:=by
 have h1:=rj z (show(26:Int)≠0 by decide)
 have h2:=w6 z (show(0:Int)<26 by decide)
 obtain⟨k,hk⟩:=ud h1
 rw[hk,dQ]
 have e:iG.cps.toList[k]? = some (97+k):=by
  rw[Bs,bE,qY (by lia)]
  rfl
 exact⟨c7 e,by lia,by lia⟩
def GF(K:Frag):Sp:=λvs H Q _=>∃(a:Addr) (ns:List Int) (n:Int),vs=[.ref a,.int n]/\ai K H a (ns.map V.int)/\∀ch:Nat,97<=ch->ch<=122->Q (.str ⟨#[ch]⟩) H
def GG:bg ["_law_script","_law_number","_law_letters","_law_cell"] ["_law_script","_law_number"] (aV (top 61)):={}
theorem ZN(F:aX K "_law_letter" "_law_letter" (top 61) f fd)(om:Fn P w K mg base "_law_cell_at" 1 (ym K)):aO P w K mg base aR 2 f fd ["_law_script","_law_number"] (GF K):=by
 refine F.bG GG λaH A outer s H vs Q E hr h=>?_
 refine hide λG_ aF=>?_
 obtain⟨a,ns,n,rfl,hS,q⟩:=h
 refine aF.k ?_
 refine⟨_,(ar (aK 2 GG.nd dY)
  (ar (aK 3 GG.nd (aU om hr (ab (pv 0) (ab az ag))))
  (aw (aP (aM fV (pv 2) (aS fA (aS d5 (aS j7 (pv 3) az) (aS pD (aS fA (pv 1) (aS d5 az (aS fA (pv 3) az))) (aS d5 az (aS fA (aS j7 (pv 3) az) az)))) az)))))),?_⟩
 try dsimp only[bA]
 have c0:=rj (cellAt ns 1) (show(3:Int)≠0 by decide)
 have d0:=rj (cellAt ns 1 / 78) (show(8:Int)≠0 by decide)
 have d1:=w6 (cellAt ns 1 / 78) (show(0:Int)<8 by decide)
 refine⟨_,rfl,a,ns,1,rfl,hS,?_⟩
 refine⟨_,rfl,_,rfl,_,_,rfl,rfl,⟨by decide,by decide⟩,_,rfl,_,rfl,_,_,rfl,rfl,(by show(0:Int)<3;decide),_,_,rfl,rfl,_,_,rfl,rfl,(by show(0:Int)<2+cellAt ns 1 % 3;lia),?_⟩
 refine⟨_,rfl,_,_,rfl,rfl,⟨by decide,by decide⟩,_,_,rfl,rfl,(by show(0:Int)<8;decide),_,_,rfl,rfl,_,_,rfl,rfl,.inr ⟨by lia,by lia⟩,_,_,rfl,rfl,_,_,rfl,rfl,(by show(0:Int)<26;decide),?_⟩
 exact⟨iG,_,_,rfl,rfl,by decide,(GD _).1,q _ (GD _).2.1 (GD _).2.2⟩
def Oe(K:Frag):Sp:=λvs H Q _=>∃(a t:Addr) (l:List Str) (w:Nat) (cs:List C2) (xs:List V) (x:Str),vs=[.ref a,.ref t,.str x]/\H a=some (.tup (l.map V.str))/\eB l w/\H t=some (.tup xs)/\bH H cs xs/\(∀c∈cs,c.1<l.length/\c.2<w)/\
 ∀p H',af H H'->H' p=some (.tup ((putL l cs x.cps.toList).map V.str))->Q (.ref p) H'
def yE:bg ["sheet","cells","word","after","cell","letter"] ["sheet","cells","word"] (aV (top 27)):={}
def ZO(B:Bl mg)(F:aX K "put_word" "put_word" (top 27) f fd)(ZP:Fn P w K mg base "with_sign" 1 (sP K)):aO P w K mg base aR 2 f fd ["sheet","cells","word"] (Oe K):=by
 refine F.bG yE λaH A outer s H vs Q E hr h=>?_
 refine hide λG_ aF=>?_
 obtain⟨a,t,l,wd,cs,xs,x,rfl,hT,S,ht,hC,bD,q⟩:=h
 refine aF.k ?_
 have hlx:=hC.length
 have lx:x.cps.toList.length=x.length:=b9 x
 refine⟨_,(ar (aK 3 yE.nd (pv 0))
  (ar (cF (x5 .T .S (by rfl) B.yl (ab (pv 1) (ab (pv 2) ag))) (jB rfl (dM (bN 4 yE.nd) (dM (bN 5 yE.nd) jA)))
  (aw (aK 3 yE.nd (aU ZP hr (ab (pv 3) (ab (pv 4) (ab (pv 5) ag)))))))
  (aw (aP (pv 3))))),?_⟩
 try dsimp only[bA]
 refine⟨_,rfl,?_⟩
 refine⟨_,rfl,_,rfl,_,_,rfl,⟨_,t,rfl,aq.of ht⟩,⟨_,x,rfl,rfl⟩,?_⟩
 refine x6 (K:=K) (k1 := .T) (k2 := .S) (xs:=xs) (ys:=x.cps.toList.map λc=>V.str ⟨#[c]⟩) (λi O H2=>∃p v4 v5,O=[some (.ref a),some (.ref t),some (.str x),some (.ref p),v4,v5]/\af H H2/\H2 p=some (.tup ((putL l (cs.take i) (x.cps.toList.take i)).map V.str))/\eB (putL l (cs.take i) (x.cps.toList.take i)) wd/\(putL l (cs.take i) (x.cps.toList.take i)).length=l.length)
  ⟨a,none,none,rfl,af.cA _,hT,S,rfl⟩ (λi O H2 _ h=>?_) ?_ ?_
 .refine hide λG_ aZ=>?_
  obtain⟨p,v4,v5,rfl,sm,_⟩:=h
  refine aZ.k ?_
  exact⟨⟨_,rfl,aq.of (sm _ _ ht)⟩,_,rfl,rfl⟩
 .intro i y cv p O H2 hy je ZQ hp
  refine hide λG_ bJ=>?_
  obtain⟨p0,v4,v5,rfl,sm,hP,G,hl⟩:=ZQ
  rw[bE] at je
  obtain⟨c,hc,rfl⟩:=iS.mp je
  obtain⟨cc,hcc,b,rfl,hb⟩:=Paired.get hC hy
  refine bJ.k ?_
  have eY:=bD cc (bj hcc)
  have tp:=af.upd (o:=HO.tup [V.ref b,V.str ⟨#[c]⟩]) hp
  refine⟨p,_,rfl,aq.of ao,rfl,_,_,rfl,_,_,rfl,rfl,?_⟩
  have s2:=sm.trans tp
  refine⟨_,rfl,_,rfl,_,rfl,p0,b,_,wd,cc,c,rfl,aq.of (tp _ _ hP),G,aq.of (s2 _ _ hb),by rw[hl];exact eY.1,eY.2,λt2 H3 gE s3 sG=>?_⟩
  rw[<-sV l cs x.cps.toList i cc c hcc hc] at sG
  refine⟨t2,_,_,rfl,s2.trans s3,sG,?_,?_⟩
  .rw[sV l cs x.cps.toList i cc c hcc hc]
   exact G.set (by rw[hl];exact eY.1) eY.2
  .rw[sV l cs x.cps.toList i cc c hcc hc,dz]
   exact hl
 .intro O H2 ZR
  refine hide λG_ cG=>?_
  obtain⟨p,v4,v5,rfl,sm,hP,_⟩:=ZR
  refine cG.k ?_
  refine⟨_,rfl,q p H2 sm ?_⟩
  have e:=Od l cs x.cps.toList
  rw[lx,hlx] at e
  rw[av,lx,e] at hP
  exact hP
def sW(K:Frag):Sp:=λvs H Q _=>∃(a t:Addr) (l:List Str) (w:Nat) (cs:List C2) (xs:List V) (x:Str),vs=[.ref a,.ref t,.str x]/\H a=some (.tup (l.map V.str))/\eB l w/\H t=some (.lst xs)/\bH H cs xs/\(∀c∈cs,c.1<l.length/\c.2<w)/\
 ∀p H',af H H'->H' p=some (.tup ((putL l cs x.cps.toList).map V.str))->Q (.ref p) H'
def BW:bg ["_law_sheet","_law_cells","_law_word","_law_cell","_law_letter_here"] ["_law_sheet","_law_cells","_law_word"] (aV (top 68)):={}
def ZS(B:Bl mg)(F:aX K "_law_put" "_law_put" (top 68) f fd)(qh:Fn P w K mg base "_law_with" 1 (sP K)):aO P w K mg base aR 2 f fd ["_law_sheet","_law_cells","_law_word"] (sW K):=by
 refine F.bG BW λaH A outer s H vs Q E hr h=>?_
 refine hide λG_ aF=>?_
 obtain⟨a,t,l,wd,cs,xs,x,rfl,hT,S,ht,hC,bD,q⟩:=h
 refine aF.k ?_
 have hlx:=hC.length
 have lx:x.cps.toList.length=x.length:=b9 x
 refine⟨_,(ar (cF (x5 .L .S (by rfl) B.yl (ab (pv 1) (ab (pv 2) ag))) (jB rfl (dM (bN 3 BW.nd) (dM (bN 4 BW.nd) jA)))
  (aw (aK 0 BW.nd (aU qh hr (ab (pv 0) (ab (pv 3) (ab (pv 4) ag)))))))
  (aw (aP (pv 0)))),?_⟩
 try dsimp only[bA]
 refine⟨_,rfl,_,rfl,_,_,rfl,⟨_,t,rfl,ai.of ht⟩,⟨_,x,rfl,rfl⟩,?_⟩
 refine x6 (K:=K) (k1 := .L) (k2 := .S) (xs:=xs) (ys:=x.cps.toList.map λc=>V.str ⟨#[c]⟩) (λi O H2=>∃p v3 v4,O=[some (.ref p),some (.ref t),some (.str x),v3,v4]/\af H H2/\H2 p=some (.tup ((putL l (cs.take i) (x.cps.toList.take i)).map V.str))/\eB (putL l (cs.take i) (x.cps.toList.take i)) wd/\(putL l (cs.take i) (x.cps.toList.take i)).length=l.length)
  ⟨a,none,none,rfl,af.cA _,hT,S,rfl⟩ (λi O H2 _ h=>?_) ?_ ?_
 .refine hide λG_ aZ=>?_
  obtain⟨p,v3,v4,rfl,sm,_⟩:=h
  refine aZ.k ?_
  exact⟨⟨_,rfl,ai.of (sm _ _ ht)⟩,_,rfl,rfl⟩
 .intro i y cv p O H2 hy je ZT hp
  refine hide λG_ bJ=>?_
  obtain⟨p0,v3,v4,rfl,sm,hP,G,hl⟩:=ZT
  rw[bE] at je
  obtain⟨c,hc,rfl⟩:=iS.mp je
  obtain⟨cc,hcc,b,rfl,hb⟩:=Paired.get hC hy
  refine bJ.k ?_
  have eY:=bD cc (bj hcc)
  have tp:=af.upd (o:=HO.tup [V.ref b,V.str ⟨#[c]⟩]) hp
  refine⟨p,_,rfl,aq.of ao,rfl,_,_,rfl,_,_,rfl,rfl,?_⟩
  have s2:=sm.trans tp
  refine⟨_,rfl,_,rfl,_,rfl,p0,b,_,wd,cc,c,rfl,aq.of (tp _ _ hP),G,aq.of (s2 _ _ hb),by rw[hl];exact eY.1,eY.2,λt2 H3 gE s3 sG=>?_⟩
  rw[<-sV l cs x.cps.toList i cc c hcc hc] at sG
  refine⟨t2,_,_,rfl,s2.trans s3,sG,?_,?_⟩
  .rw[sV l cs x.cps.toList i cc c hcc hc]
   exact G.set (by rw[hl];exact eY.1) eY.2
  .rw[sV l cs x.cps.toList i cc c hcc hc,dz]
   exact hl
 .intro O H2 ZU
  refine hide λG_ cG=>?_
  obtain⟨p,v3,v4,rfl,sm,hP,_⟩:=ZU
  refine cG.k ?_
  refine⟨_,rfl,q p H2 sm ?_⟩
  have e:=Od l cs x.cps.toList
  rw[lx,hlx] at e
  rw[av,lx,e] at hP
  exact hP
end
noncomputable def oo(l:List Str):List Int:=l.map λx=>(x.length:Int) - (Txt.count x "#":Int)
noncomputable def yF(l:List Str)(w:Nat):Bool:=decide (((((aG l w).map (·.length)).sum:Nat):Int)=2*(oo l).sum)
structure oq(l:List Str)(w:Nat):Prop where
 sh:bo l w
 h4:l.length<=4
 w4:w<=4
 sg:∀x∈l,∀c∈x.cps.toList,c=35\/c=46
theorem bo.of(h1:1<=l.length)(h9:l.length<=9)(w1:1<=w)(w9:w<=9)(hl:∀x∈l,x.length=w)(hc:∀x∈l,∀c∈x.cps.toList,c=35\/c=46):bo l w:=
 ⟨h1,h9,w1,w9,hl,λx m c mc=>by rcases hc x m c mc with h | h <;> rw[h] <;> unfold pV <;> lia⟩
def ZV(h:∀x∈l,∀d∈x.cps.toList,P d)(h1:c.1<l.length)(hP:P ch):∀x∈setC l c ch,∀d∈x.cps.toList,P d:=by
 intro x m d md
 unfold setC at m
 rcases Kb m with z | z
 .exact h x z d md
 .rw[z] at md
  have md:d∈(l.getD c.1 ⟨#[]⟩).cps.toList.take c.2++ch::(l.getD c.1 ⟨#[]⟩).cps.toList.drop (c.2+1):=by
   unfold bP at md
   simpa using md
  have hm:l.getD c.1 ⟨#[]⟩∈l:=by rw[bT,bb h1];exact nF h1
  rcases cV.mp md with md | md
  .exact h _ hm d (Ae md)
  .rcases cf.mp md with md | md
   .rw[md];exact hP
   .exact h _ hm d (Sf md)
def oq.set(F:oq l w)(h1:c.1<l.length)(h2:c.2<w):oq (setC l c 35) w:=
 ⟨Bu F.sh h1 h2 (.inl rfl),by rw[dz];exact F.h4,F.w4,ZV (P:=λd=>d=35\/d=46) F.sg h1 (.inl rfl)⟩
def GH(n:Nat):(gC "." n).cps.toList=List.replicate n 46:=by
 show(List.replicate n (".":Str).cps.toList).flatten=_
 rw[show(".":Str).cps.toList=[46] from by decide +kernel]
 induction n with
 |zero=>rfl
 |succ n ih=>rw[oS,wL,ih,oS];rfl
theorem Of(h1:1<=h)(h4:h<=4)(w1:1<=w)(w4:w<=4):oq (List.replicate h (gC "." w)) w:=by
 have hs:∀x∈List.replicate h (gC "." w),∀c∈x.cps.toList,c=35\/c=46:=λx m c mc=>by
  rw[Sh m,GH] at mc
  exact .inr (Sh mc)
 refine⟨bo.of (by rw[tX];exact h1) (by rw[tX];lia) w1 (by lia) (λx m=>?_) hs,by rw[tX];exact h4,w4,hs⟩
 rw[Sh m,<-b9,GH,tX]
theorem Oh{α:Type}(x:α):∀n:Nat,(List.replicate n [x]).flatten=List.replicate n x
 |0=>rfl
 |n+1=>by rw[oS,wL,Oh x n];rfl
theorem ZW(a b:Int):decide (V.int a=V.int b)=decide (a=b):=by grind
def sX{p:Addr}{o:HO}(_:af H (upd H p o)):upd H p o p=some o:=ao
def kh(l:List Str)(w:Nat):Prop := ∀c:C2,c.1<l.length->c.2<w->(sg l c=35↔sg l (l.length - 1 - c.1,w - 1 - c.2)=35)
def GI(h1:c.1<h)(h2:c.2<w):sg (List.replicate h (gC "." w)) c=46:=by
 unfold sg
 have e1:(List.replicate h (gC "." w))[c.1]? = some (gC "." w):=by rw[R6,aA h1]
 rw[bW e1]
 rw[GH,bT,R6,aA h2]
 rfl
theorem ZX:kh (List.replicate h (gC "." w)) w:=λc h1 h2=>by
 rw[tX] at h1 ⊢
 rw[GI h1 h2,GI (c:=(h - 1 - c.1,w - 1 - c.2)) (by show h - 1 - c.1<h;lia) (by show w - 1 - c.2<w;lia)]
theorem kh.set{l:List Str}{w:Nat}(S:bo l w)(Y:kh l w){c:C2}(h1:c.1<l.length)(h2:c.2<w):kh (setC (setC l c 35) (l.length - 1 - c.1,w - 1 - c.2) 35) w:=by
 have G:=S.dO
 have G1:=G.set (ch:=35) h1 h2
 have t1:l.length - 1 - c.1<l.length:=by lia
 have t2:w - 1 - c.2<w:=by lia
 have key:∀d:C2,d.1<l.length->d.2<w->(sg (setC (setC l c 35) (l.length - 1 - c.1,w - 1 - c.2) 35) d=35↔d=c\/d=(l.length - 1 - c.1,w - 1 - c.2)\/sg l d=35):=λd d1 d2=>by
  rw[G1.lB (c:=(l.length - 1 - c.1,w - 1 - c.2)) (by rw[dz];exact t1) t2 (by rw[dz];exact d1) d2,G.lB h1 h2 d1 d2]
  by_cases e1:d=(l.length - 1 - c.1,w - 1 - c.2)
  .rw[aA e1]
   exact⟨λ_=>.inr (.inl e1),λ_=>rfl⟩
  .rw[ax e1]
   by_cases e2:d=c
   .rw[aA e2]
    exact⟨λ_=>.inl e2,λ_=>rfl⟩
   .rw[ax e2]
    exact⟨λz=>.inr (.inr z),λz=>by rcases z with z | z | z;exact absurd z e2;exact absurd z e1;exact z⟩
 intro d d1 d2
 rw[dz,dz] at d1 ⊢
 rw[key d d1 d2,key (l.length - 1 - d.1,w - 1 - d.2) (by show l.length - 1 - d.1<_;lia) (by show w - 1 - d.2<w;lia),Y d d1 d2]
 have a1:(d=c)↔((l.length - 1 - d.1,w - 1 - d.2)=(l.length - 1 - c.1,w - 1 - c.2)):=by
  constructor
  .intro z;rw[z]
  .intro z
   injection z with z1 z2
   exact o9 (by lia) (by lia)
 have a2:(d=(l.length - 1 - c.1,w - 1 - c.2))↔((l.length - 1 - d.1,w - 1 - d.2)=c):=by
  constructor
  .intro z
   rw[z]
   exact o9 (by show l.length - 1 - (l.length - 1 - c.1)=c.1;lia) (by show w - 1 - (w - 1 - c.2)=c.2;lia)
  .intro z
   rw[<-z]
   exact o9 (by show d.1=l.length - 1 - (l.length - 1 - d.1);lia) (by show d.2=w - 1 - (w - 1 - d.2);lia)
 rw[a1,a2]
 constructor
 .rintro(z | z | z)
  .exact .inr (.inl z)
  .exact .inl z
  .exact .inr (.inr z)
 .rintro(z | z | z)
  .exact .inr (.inl z)
  .exact .inl z
  .exact .inr (.inr z)
theorem ZY{sp:Nat}(hw:0<w)(hs:sp<h*w):(h*w - 1 - sp) / w=h - 1 - sp / w/\(h*w - 1 - sp) % w=w - 1 - sp % w:=by
 have e:=Nat.div_add_mod sp w
 have hm:=Nat.mod_lt sp hw
 have hd:sp / w<h:=Ka (by rw[oU];exact hs)
 obtain⟨k,hk⟩:∃k,h=sp / w+1+k:=⟨h - (sp / w+1),by lia⟩
 have e3:h*w - 1 - sp=(w - 1 - sp % w)+w*k:=by
  have e4:h*w=w*(sp / w)+w+w*k:=by rw[hk,Nat.add_mul,Nat.add_mul,Nat.one_mul,oU (sp / w) w,oU k w]
  lia
 have e5:h - 1 - sp / w=k:=by lia
 rw[e3,e5]
 exact⟨by rw[Nat.add_mul_div_left _ _ hw,Nat.div_eq_of_lt (by lia),wX],by rw[Nat.add_mul_mod_self_left,Nat.mod_eq_of_lt (by lia)]⟩
def ZZ:∀h∈[2,3,4],∀w∈[2,3,4],yF (List.replicate h (gC "." w)) w=true:=by decide +kernel
def Oi(l m:List Str)(w n:Nat)(c:C2):Prop:=(sg l c=35->sg m c=35)/\(sg l c≠35->if c.1*w+c.2<n then 97<=sg m c/\sg m c<=122 else sg m c=46)
structure hX(l m:List Str)(w n:Nat):Prop where
 sh:bo m w
 ln:m.length=l.length
 cl:∀c:C2,c.1<l.length->c.2<w->Oi l m w n c
theorem GJ{b c d:Nat}(h:b<w)(h':d<w)(e:a*w+b=c*w+d):a=c/\b=d:=by
 rcases Nat.lt_trichotomy a c with z | z | z
 .have:=DT w z
  rw[iQ] at this
  lia
 .subst z
  exact⟨rfl,by lia⟩
 .have:=DT w z
  rw[iQ] at this
  lia
def hX.zero(F:oq l w):hX l l w 0:=by
 refine⟨F.sh,rfl,λc h1 h2=>⟨id,λh=>?_⟩⟩
 rw[ax (iu _)]
 obtain⟨x,_,mx,_,_,hj⟩:=F.sh.row h1
 rcases F.sg x mx _ (bj (hj _ h2)) with z | z
 .exact absurd z h
 .exact z
theorem hX.Z1(F:hX l m w (i*w+j))(hj:j<w)(hc:sg l (i,j)=35):hX l m w (i*w+(j+1)):=by
 refine⟨F.sh,F.ln,λc h1 h2=>⟨(F.cl c h1 h2).1,λh=>?_⟩⟩
 have g:=(F.cl c h1 h2).2 h
 have ne:c.1*w+c.2≠i*w+j:=λe=>by
  have:=GJ h2 hj e
  exact h (by rw[show c=(i,j) from o9 this.1 this.2];exact hc)
 by_cases z:c.1*w+c.2<i*w+j
 .rw[aA z] at g
  rw[aA (by lia)]
  exact g
 .rw[ax z] at g
  rw[ax (by lia)]
  exact g
theorem hX.put(F:hX l m w (i*w+j))(hi:i<l.length)(hj:j<w)(hc:sg l (i,j)≠35)(c1:97<=ch)(c2:ch<=122):hX l (setC m (i,j) ch) w (i*w+(j+1)):=by
 have yG:i<m.length:=by rw[F.ln];exact hi
 refine⟨Bu F.sh yG hj (.inr (.inr ⟨c1,c2⟩)),by rw[dz];exact F.ln,λc h1 h2=>?_⟩
 unfold Oi
 rw[F.sh.dO.lB (c:=(i,j)) yG hj (by rw[F.ln];exact h1) h2]
 by_cases e:c=(i,j)
 .rw[aA e,e]
  refine⟨λz=>absurd z hc,λ_=>?_⟩
  rw[aA (by show i*w+j<_;lia)]
  exact⟨c1,c2⟩
 .rw[ax e]
  refine⟨(F.cl c h1 h2).1,λh=>?_⟩
  have g:=(F.cl c h1 h2).2 h
  have ne:c.1*w+c.2≠i*w+j:=λz=>e (o9 (GJ h2 hj z).1 (GJ h2 hj z).2)
  by_cases z:c.1*w+c.2<i*w+j
  .rw[aA z] at g
   rw[aA (by lia)]
   exact g
  .rw[ax z] at g
   rw[ax (by lia)]
   exact g
structure qi(m g:List Str)(w:Nat):Prop where
 sh:bo g w
 ln:g.length=m.length
 cl:∀c:C2,c.1<m.length->c.2<w->sg g c=sg m c\/(sg m c≠35/\sg g c=46)
def qi.put{g:List Str}(F:qi m g w)(h1:c.1<m.length)(h2:c.2<w)(hc:sg m c≠35):qi m (setC g c 46) w:=by
 have yG:c.1<g.length:=by rw[F.ln];exact h1
 refine⟨Bu F.sh yG h2 (.inr (.inl rfl)),by rw[dz];exact F.ln,λd d1 d2=>?_⟩
 rw[F.sh.dO.lB yG h2 (by rw[F.ln];exact d1) d2]
 by_cases e:d=c
 .rw[aA e,e]
  exact .inr ⟨hc,rfl⟩
 .rw[ax e]
  exact F.cl d d1 d2
section
variable{P:Program}{w:World}{K:Frag}{mg:Str->Option Value}{base:Heap}{f:Addr}{fd:FuncData}
def Oj(K:Frag):Sp:=λvs H Q _=>∃(a b:Addr) (ns:List Int) (l:List Str) (w:Nat) (c:Int),vs=[.ref a,.ref b,.int c]/\ai K H a (ns.map V.int)/\H b=some (.tup (l.map V.str))/\oq l w/\
 ∀p m H',af H H'->H' p=some (.tup (m.map V.str))->hX l m w (l.length*w)->Q (.ref p) H'
def sY:bg ["_law_script","_law_floor_here","_law_cell","_law_sheet","_law_number","_law_line","_law_column"] ["_law_script","_law_floor_here","_law_cell"] (aV (top 62)):={}
theorem Z3(B:Bl mg)(F:aX K "_law_filled" "_law_filled" (top 62) f fd)(qh:Fn P w K mg base "_law_with" 1 (sP K))(GK:Fn P w K mg base "_law_letter" 2 (GF K)):aO P w K mg base aR 3 f fd ["_law_script","_law_floor_here","_law_cell"] (Oj K):=by
 refine F.bG sY λaH A outer s H vs Q E hr h=>?_
 refine hide λG_ aF=>?_
 obtain⟨a,b,ns,l,wd,c,rfl,hS,hT,Fl,q⟩:=h
 have S:=Fl.sh
 have h9:=S.nine
 have hw:=S.w9
 obtain⟨x0,n8,BB,n9,_⟩:=S.row (i:=0) S.one
 refine aF.k ?_
 refine⟨_,(ar (aK 3 sY.nd (pv 1))
  (ar (aK 4 sY.nd (aS d5 (aS fA (pv 2) az) az))
  (ar (cF (gm (by rfl) B.gD (ab (bc d7 (by rfl) B.b7 b6 (ab (pv 1) ag)) ag)) (bN 5 sY.nd)
  (aw (cF (gm (by rfl) B.gD (ab (bc eU (by rfl) B.b7 b6 (ab (aM bO (pv 1) az) ag)) ag)) (bN 6 sY.nd)
   (ar (aK 4 sY.nd (aS fA (aS pD (pv 4) az) az))
    (aw (uH (bw (bR iY (aM fV (aM bO (pv 1) (pv 5)) (pv 6)) dY)
    (aw (aK 3 sY.nd (aU qh hr (ab (pv 3) (ab (eS (ab (pv 5) (ab (pv 6) ag))) (ab (aU GK hr (ab (pv 0) (ab (aS j7 (pv 4) az) ag))) ag (hs:=cJ rfl)) (hs:=cJ rfl)) (hs:=cJ rfl)) (he:=cJ rfl) (hpl:=uM rfl))))
    bC)))))))
  (aw (aP (pv 3)))))),?_⟩
 try dsimp only[bA]
 refine⟨_,rfl,_,rfl,_,_,rfl,rfl,(by show(0:Int)<2147483647;decide),_,_,rfl,rfl,?_⟩
 refine⟨_,rfl,b,_,rfl,.inr (aq.of hT),_,rfl,by rw[av];lia,by rw[av];lia,?_⟩
 rw[dQ,av]
 refine i5 (λi O H2=>∃p m n v5 v6,O=[some (.ref a),some (.ref b),some (.int c),some (.ref p),some (.int n),v5,v6]/\af H H2/\H2 p=some (.tup (m.map V.str))/\hX l m wd (i*wd))
  ⟨b,l,_,none,none,rfl,af.cA _,hT,by rw[Nat.zero_mul];exact hX.zero Fl⟩ ?_ ?_
 .intro i O H2 hi Z4
  refine hide λG_ aZ=>?_
  obtain⟨p,m,n,v5,v6,rfl,sm,hP,Fm⟩:=Z4
  refine aZ.k ?_
  refine⟨_,rfl,b,_,0,.str x0,rfl,rfl,aq.of (sm _ _ hT),iH n8,x0,rfl,eG (by lia),_,rfl,by lia,by lia,?_⟩
  rw[dQ,n9]
  refine i5 (λj O H2=>∃p m n v6,O=[some (.ref a),some (.ref b),some (.int c),some (.ref p),some (.int n),some (.int i),v6]/\af H H2/\H2 p=some (.tup (m.map V.str))/\hX l m wd (i*wd+j))
   ⟨p,m,n,v6,rfl,sm,hP,Fm⟩ ?_ ?_
  .intro j O H3 hj Z5
   refine hide λG_ bJ=>?_
   obtain⟨p,m,n,v6,rfl,sm,hP,Fm⟩:=Z5
   obtain⟨x,hx,mx,lx,_,yH⟩:=S.row hi
   refine bJ.k ?_
   refine⟨_,rfl,_,_,rfl,rfl,.inr ⟨by decide,by decide⟩,_,_,rfl,rfl,(by show(0:Int)<2147483647;decide),?_⟩
   refine⟨λO H2=>∃p m n v6,O=[some (.ref a),some (.ref b),some (.int c),some (.ref p),some (.int n),some (.int i),v6]/\af H H2/\H2 p=some (.tup (m.map V.str))/\hX l m wd (i*wd+(j+1)),λ_ _ h=>h,?_⟩
   refine⟨_,rfl,_,rfl,b,_,_,.str x,rfl,rfl,aq.of (sm _ _ hT),iH hx,_,rfl,x,_,_,rfl,rfl,eG (by lia),c7 (yH j hj),rfl,_,rfl,?_⟩
   rw[pZ,Bx]
   by_cases mO:sg l (i,j)=35
   .rw[aJ mO]
    exact aL ⟨p,m,_,_,rfl,sm,hP,Fm.Z1 hj mO⟩
   .rw[aN mO]
    refine bf ?_
    refine⟨_,rfl,_,rfl,_,rfl,(by show 2<=sizeLine;decide),λq1 mP=>?_⟩
    have y1:=af.upd (o:=HO.tup [V.int (i:Int),V.int (j:Int)]) mP
    refine⟨_,rfl,_,rfl,_,_,rfl,rfl,⟨by decide,by decide⟩,a,ns,_,rfl,(sm.trans y1).seq hS,λch c1 c2=>?_⟩
    refine⟨p,q1,m,wd,(i,j),ch,rfl,aq.of (y1 _ _ hP),Fm.sh.dO,aq.of ao,by rw[Fm.ln];exact hi,hj,λt H4 _ s4 ht=>?_⟩
    exact⟨t,_,_,_,rfl,sm.trans (y1.trans s4),ht,Fm.put hi hj mO c1 c2⟩
  .intro O H3 Z6
   refine hide λG_ cG=>?_
   obtain⟨p,m,n,v6,rfl,sm,hP,Fm⟩:=Z6
   refine cG.k ?_
   exact⟨p,m,n,_,_,rfl,sm,hP,by rw[iQ];exact Fm⟩
 .intro O H2 Z7
  refine hide λG_ eX=>?_
  obtain⟨p,m,n,v5,v6,rfl,sm,hP,Fm⟩:=Z7
  refine eX.k ?_
  exact⟨_,rfl,q p m H2 sm hP Fm⟩
def Ol(K:Frag):Sp:=λvs H Q _=>∃(b:Addr) (m:List Str) (w:Nat) (c:Int),vs=[.ref b,.int c]/\H b=some (.tup (m.map V.str))/\bo m w/\
 ∀p g H',af H H'->H' p=some (.tup (g.map V.str))->qi m g w->Q (.ref p) H'
def qj:bg ["_law_filled_here","_law_cell","_law_sheet","_law_kept","_law_line","_law_column"] ["_law_filled_here","_law_cell"] (aV (top 66)):={}
theorem Z8(B:Bl mg)(F:aX K "_law_given" "_law_given" (top 66) f fd)(qh:Fn P w K mg base "_law_with" 1 (sP K)):aO P w K mg base aR 2 f fd ["_law_filled_here","_law_cell"] (Ol K):=by
 refine F.bG qj λaH A outer s H vs Q E hr h=>?_
 refine hide λG_ aF=>?_
 obtain⟨b,m,wd,c,rfl,hT,S,q⟩:=h
 have h9:=S.nine
 have hw:=S.w9
 obtain⟨x0,n8,BB,n9,_⟩:=S.row (i:=0) S.one
 refine aF.k ?_
 refine⟨_,(ar (aK 2 qj.nd (pv 0))
  (ar (aK 3 qj.nd (aS d5 az (aS fA (pv 1) az)))
  (ar (aK 1 qj.nd (aS j7 (pv 1) az))
  (ar (cF (gm (by rfl) B.gD (ab (bc d7 (by rfl) B.b7 b6 (ab (pv 0) ag)) ag)) (bN 4 qj.nd)
  (aw (cF (gm (by rfl) B.gD (ab (bc eU (by rfl) B.b7 b6 (ab (aM bO (pv 0) az) ag)) ag)) (bN 5 qj.nd)
   (ar (uH (bw (PW.pt (pq (bR iY (aM fV (aM bO (pv 0) (pv 4)) (pv 5)) dY) (rE (PW.pt (gO (bR lW (pv 3) az) (iA (bR Ay (aS fA (pv 1) (pv 3)) az)))))))
    (aw (aK 2 qj.nd (aU qh hr (ab (pv 2) (ab (eS (ab (pv 4) (ab (pv 5) ag))) (ab dY ag (hs:=cJ rfl)) (hs:=cJ rfl)) (hs:=cJ rfl)) (he:=cJ rfl) (hpl:=uM rfl))))
    bC))
    (aw (aK 1 qj.nd (aS j7 (pv 1) az)))))))
  (aw (aP (pv 2))))))),?_⟩
 try dsimp only[bA]
 have k0:=rj c (show(4:Int)≠0 by decide)
 refine⟨_,rfl,_,rfl,_,_,rfl,rfl,(by show(0:Int)<4;decide),_,_,rfl,rfl,?_⟩
 refine⟨_,rfl,_,_,rfl,rfl,⟨by decide,by decide⟩,?_⟩
 refine⟨_,rfl,b,_,rfl,.inr (aq.of hT),_,rfl,by rw[av];lia,by rw[av];lia,?_⟩
 rw[dQ,av]
 refine i5 (λi O H2=>∃p g n v4 v5,O=[some (.ref b),some (.int n),some (.ref p),some (.int (2+c % 4)),v4,v5]/\af H H2/\H2 p=some (.tup (g.map V.str))/\qi m g wd)
  ⟨b,m,_,none,none,rfl,af.cA _,hT,⟨S,rfl,λ_ _ _=>.inl rfl⟩⟩ ?_ ?_
 .intro i O H2 hi Z9
  refine hide λG_ aZ=>?_
  obtain⟨p,g,n,v4,v5,rfl,sm,hP,Fm⟩:=Z9
  refine aZ.k ?_
  refine⟨_,rfl,b,_,0,.str x0,rfl,rfl,aq.of (sm _ _ hT),iH n8,x0,rfl,eG (by lia),_,rfl,by lia,by lia,?_⟩
  rw[dQ,n9]
  refine i5 (λj O H2=>∃p g n v5,O=[some (.ref b),some (.int n),some (.ref p),some (.int (2+c % 4)),some (.int i),v5]/\af H H2/\H2 p=some (.tup (g.map V.str))/\qi m g wd)
   ⟨p,g,n,v5,rfl,sm,hP,Fm⟩ ?_ ?_
  .intro j O H3 hj aaa
   refine hide λG_ bJ=>?_
   obtain⟨p,g,n,v5,rfl,sm,hP,Fm⟩:=aaa
   obtain⟨x,hx,mx,lx,_,yH⟩:=S.row hi
   refine bJ.k ?_
   refine⟨λO H2=>∃p g,O=[some (.ref b),some (.int n),some (.ref p),some (.int (2+c % 4)),some (.int i),some (.int j)]/\af H H2/\H2 p=some (.tup (g.map V.str))/\qi m g wd,?_,?_⟩
   .rintro O H4 ⟨p,g,rfl,h⟩
    exact⟨_,rfl,_,_,rfl,rfl,⟨by decide,by decide⟩,p,g,_,_,rfl,h⟩
   refine⟨_,rfl,_,rfl,b,_,_,.str x,rfl,rfl,aq.of (sm _ _ hT),iH hx,_,rfl,x,_,_,rfl,rfl,eG (by lia),c7 (yH j hj),rfl,_,rfl,?_⟩
   rw[pZ,Bx]
   by_cases mO:sg m (i,j)=35
   .rw[aJ mO]
    exact aL (aL ⟨p,g,rfl,sm,hP,Fm⟩)
   .rw[aN mO]
    refine bf ?_
    refine⟨_,rfl,rfl,_,rfl,eE (λ_=>bf ?_) (λ_=>⟨_,rfl,_,rfl,_,_,rfl,rfl,(by show(0:Int)<2+c % 4;lia),_,_,rfl,rfl,_,rfl,eE (λ_=>?_) (λ_=>⟨p,g,rfl,sm,hP,Fm⟩)⟩)⟩
    all_goals
     refine⟨_,rfl,_,rfl,_,rfl,(by show 2<=sizeLine;decide),λq1 mP=>?_⟩
     have y1:=af.upd (o:=HO.tup [V.int (i:Int),V.int (j:Int)]) mP
     exact⟨p,q1,g,wd,(i,j),46,by rw[<-uY];rfl,aq.of (y1 _ _ hP),Fm.sh.dO,aq.of ao,by rw[Fm.ln];exact hi,hj,λt H4 _ s4 ht=>⟨t,_,rfl,sm.trans (y1.trans s4),ht,Fm.put hi hj mO⟩⟩
  .intro O H3 aab
   refine hide λG_ cG=>?_
   obtain⟨p,g,n,v5,rfl,sm,hP,Fm⟩:=aab
   refine cG.k ?_
   exact⟨p,g,n,_,_,rfl,sm,hP,Fm⟩
 .intro O H2 aac
  refine hide λG_ eX=>?_
  obtain⟨p,g,n,v4,v5,rfl,sm,hP,Fm⟩:=aac
  refine eX.k ?_
  exact⟨_,rfl,q p g H2 sm hP Fm⟩
end
theorem Oo{c:Nat}(h1:97<=c)(h2:c<=122):c∈iG.cps.toList:=by
 rw[Bs]
 exact bM.mpr ⟨c - 97,ip.mpr (by lia),by lia⟩
def aad{y:Str}(h1:iK x=true)(h2:iK y=true):iK (x++y)=true:=by
 unfold iK at *
 rw[mF,List.all_append,h1,h2]
 rfl
theorem Oq(h1:2<=x.length)(h2:x.length<=9)(h3:iK x=true):cK x=true:=by grind [iK,cK]
theorem aae{c:Nat}(h:c∈iG.cps.toList):iK ⟨#[c]⟩=true:=by grind [iG,iK]
def aaf(ns:List Int)(lo hi:Option Int):∀y∈kZ (ns.map V.int) lo hi,∃z,y=V.int z:=λy m=>by
 unfold kZ at m
 obtain⟨z,_,e⟩:=bM.mp (Sf (Ae m))
 exact⟨z,e.symm⟩
def GL(h:iB (.str x) (ps.map V.str)=false):x∉ps:=λm=>by
 unfold iB at h
 rw[List.any_map] at h
 have:=JM.mp h x m
 exact this (by show gR (.str x) (.str x)=true;simp[gR])
def GN(m:List Str)(w:Nat):Prop := ∀c:C2,c.1<m.length->c.2<w->bY m c=true->97<=sg m c/\sg m c<=122
theorem hX.lets(F:hX l m w (l.length*w)):GN m w:=by
 intro c h1 h2 ho
 rw[F.ln] at h1
 have hc:=F.cl c h1 h2
 have hm:sg m c≠35:=by
  unfold bY at ho
  simpa using ho
 have hl:sg l c≠35:=λz=>hm (hc.1 z)
 have:=hc.2 hl
 have hx:c.1*w+c.2<l.length*w:=by
  have:=DT w h1
  rw[iQ] at this
  lia
 rw[aA hx] at this
 exact this
theorem aag{k:Nat}(S:bo l w)(hk:k<=1):(cb (bz l w) (cH k) c).length<=9:=by
 have h9:=S.nine
 have hw:=S.w9
 unfold cb
 split
 .exact bu _
 .split
  .exact bu _
  .rw[sJ]
   rcases DS 9 (runN (bz l w) (cH k) 10 c) with z | z
   .exfalso
    have:=pX (Gi z)
    unfold go cH at this
    dsimp only at this
    have e:k=0\/k=1:=by lia
    rcases e with e | e <;> subst e <;> lia
   .exact z
theorem aah{op:C2->Bool}(h:(cb op d c).isEmpty=false):2<=(cb op d c).length:=by
 unfold cb at h ⊢
 split at h
 .cases h
 .split at h
  .cases h
  .rw[ax (by assumption),ax (by assumption),sJ]
   lia
def Ot{k:Nat}(S:bo l w)(hk:k<=1)(h:r∈jd l w k n):2<=r.length/\r.length<=9:=by
 unfold jd at h
 have h:=cy.mp h
 obtain⟨c,_,e⟩:=bM.mp h.1
 subst e
 exact⟨aah (by simpa using h.2),aag S hk⟩
def jf(S:bo l w)(h:r∈aG l w):2<=r.length/\r.length<=9/\∀c∈r,c.1<l.length/\c.2<w/\bY l c=true:=by
 have a:2<=r.length/\r.length<=9:=by
  unfold aG at h
  rcases cV.mp h with z | z
  .exact Ot S (by decide) z
  .exact Ot S (by decide) z
 refine⟨a.1,a.2,?_⟩
 rw[qg] at h
 obtain⟨q,hq,e⟩:=bM.mp h
 rw[<-e]
 exact(Gj hq).2
def eD(l:List Str)(cs:List C2):(au l cs).length=cs.length:=by
 rw[<-b9]
 unfold au
 simp
def aai(S:bo m w)(L:GN m w)(h:r∈aG m w):cK (au m r)=true:=by
 obtain⟨h2,h9,bD⟩:=jf S h
 refine Oq (by rw[eD];exact h2) (by rw[eD];exact h9) ?_
 unfold iK au
 rw[lR]
 intro c mc
 have mc:c∈r.map (sg m):=by simpa using mc
 obtain⟨d,hd,e⟩:=bM.mp mc
 have hb:=bD d hd
 have:=L d hb.1 hb.2.1 hb.2.2
 rw[<-e]
 exact aJ (Oo this.1 this.2)
theorem aaj(h4:m.length<=4)(w4:w<=4):(aG m w).length<=32:=by
 have h:=Aa h4 w4
 have a:=yB m w 0 (m.length*w)
 have b:=yB m w 1 (m.length*w)
 rw[mG] at a b
 unfold aG lD
 rw[dE]
 lia
noncomputable def jg(ps:List Str)(n:Nat):List Str:=ps.filter λx=>decide (x.length=n)
def Ou(ps qs:List Str)(n:Nat):jg (ps++qs) n=jg ps n++jg qs n:=jY ..
theorem Ov:∀{es:List Str},(∀x∈es,2<=x.length/\x.length<=4)->es.length=(jg es 2).length+(jg es 3).length+(jg es 4).length
 |[],_=>rfl
 |x::r,h=>by
  have ih:=Ov (es:=r) λy my=>h y (bX _ my)
  have hx:=h x bt
  unfold jg at ih ⊢
  have e:x.length=2\/x.length=3\/x.length=4:=by lia
  rcases e with e | e | e <;> simp only[dw,e,dC] <;> simp <;> lia
structure sZ(rs es:List Str):Prop where
 Ow:rs.length<=32
 nd:(rs++es).Nodup
 wd:∀x∈rs++es,cK x=true
 e4:∀x∈es,2<=x.length/\x.length<=4
 e5:∀n,(jg es n).length<=5
theorem sZ.fC{rs:List Str}(W:sZ rs es):(rs++es).length<=47:=by
 have:=Ov W.e4
 have a:=W.e5 2
 have b:=W.e5 3
 have c:=W.e5 4
 have d:=W.Ow
 rw[dE]
 lia
theorem Ox(h:ps.Nodup)(hn:x∉ps):(ps++[x]).Nodup:=by grind
theorem sZ.more{rs:List Str}(W:sZ rs es)(hn:x∉rs++es)(hw:cK x=true)(h4:x.length<=4)(h5:(jg (rs++es) x.length).length<5):sZ rs (es++[x]):=by
 refine⟨W.Ow,by rw[<-lQ];exact Ox W.nd hn,λy my=>?_,λy my=>?_,λn=>?_⟩
 .rw[<-lQ] at my
  rcases cV.mp my with z | z
  .exact W.wd y z
  .rw[cj.mp z];exact hw
 .rcases cV.mp my with z | z
  .exact W.e4 y z
  .rw[cj.mp z];exact⟨(vf hw).1,h4⟩
 .rw[Ou,dE]
  rw[Ou,dE] at h5
  by_cases e:x.length=n
  .rw[e] at h5
   have:(jg [x] n).length=1:=by unfold jg;rw[dw,aJ e];rfl
   lia
  .have:(jg [x] n).length=0:=by unfold jg;rw[dw,aN e];rfl
   have:=W.e5 n
   lia
section
variable{P:Program}{w:World}{K:Frag}{mg:Str->Option Value}{base:Heap}{f:Addr}{fd:FuncData}
def Oy(K:Frag):Sp:=λvs H Q _=>∃(a b:Addr) (ns:List Int) (m:List Str) (w k:Nat),vs=[.ref a,.ref b,.int k]/\ai K H a (ns.map V.int)/\aq K H b (m.map V.str)/\bo m w/\GN m w/\m.length<=4/\w<=4/\
 ∀(l:Addr) (rs es:List Str) (H':Hp),H l=none->af H H'->H' l=some (.lst ((rs++es).map V.str))->sZ rs es->Q (.ref l) H'
def ou:bg ["_law_script","_law_filled_here","_law_start","_law_words_here","_law_cells","_law_cell","_law_word","_law_number","_law_k"] ["_law_script","_law_filled_here","_law_start"] (aV (top 64)):={}
theorem aak(B:Bl mg)(F:aX K "_law_words" "_law_words" (top 64) f fd)(om:Fn P w K mg base "_law_cell_at" 1 (ym K))(tf:Fn P w K mg base "_law_rows" 3 (yA K))(lE:Fn P w K mg base "_law_text" 1 (vm K))(GK:Fn P w K mg base "_law_letter" 2 (GF K)):aO P w K mg base aR 4 f fd ["_law_script","_law_filled_here","_law_start"] (Oy K):=by
 refine F.bG ou λaH A outer s H vs Q E hr h=>?_
 refine hide λG_ aF=>?_
 obtain⟨a,b,ns,m,wd,k,rfl,hS,hT,S,L,m4,w4,q⟩:=h
 refine aF.k ?_
 refine⟨_,(ar (aK 3 ou.nd (de ag))
  (ar (uH (bw (bR Ay (aS fA (aU om hr (ab (pv 0) (ab az ag))) az) az)
  (aw (cF (dn (aU tf hr (ab (pv 1) ag))) (bN 4 ou.nd)
   (aw (bw (bR uu (aU lE hr (ab (pv 1) (ab (pv 4) ag))) (pv 3))
    (aw (fu (fB jv jZ j0 iC (pv 3) (ab (aU lE hr (ab (pv 1) (ab (pv 4) ag))) ag))))
    bC))))
  bC))
  (ar (cF (dn (nR Es (pv 0) (l6 (pv 2)) (l6 az))) (bN 5 ou.nd)
  (ar (aK 6 ou.nd dY)
   (ar (aK 7 ou.nd (aS fA (aS j7 (pv 5) az) az))
   (ar (cF (gm (by rfl) B.gD (ab (aS d5 az (aS fA (pv 5) az)) ag)) (bN 8 ou.nd)
   (ar (aK 6 ou.nd (aS rL (pv 6) (aU GK hr (ab (pv 0) (ab (pv 7) ag)))))
    (aw (aK 7 ou.nd (aS fA (aS pD (aS d5 (pv 7) az) az) az)))))
   (aw (bw (PW.pt (pq (bR uu (pv 6) (pv 3)) (rE (bR kW (bc d7 (by rfl) B.b7 b6 (ab (fW (js:=[6]) (ns:=["_law_word"]) (dn (pv 3)) rfl rfl rfl rfl (λ_ _ _ _=>(lh (bR lW (bc eU (by rfl) B.b7 b6 (ab (pv 0) ag)) (bc eU (by rfl) B.b7 b6 (ab (pv 1) ag))))) (λ_ _ _ _=>(pv 0))) ag)) az))))
   (aw (fu (fB jv jZ j0 iC (pv 3) (ab (pv 6) ag))))
   bC))))))
  (aw (aP (pv 3)))))),?_⟩
 try dsimp only[bA]
 refine⟨bu _,λl hl=>?_⟩
 have s0:=af.upd (o:=HO.lst []) hl
 have yI:=sX s0
 revert s0 yI
 generalize upd H l (.lst [])=H0
 intro s0 yI
 refine⟨λO H2=>∃(v4:Option V) (rs:List Str),O=[some (.ref a),some (.ref b),some (.int k),some (.ref l),v4,none,none,none,none]/\af H H2/\H2 l=some (.lst (rs.map V.str))/\rs.Nodup/\(∀x∈rs,cK x=true)/\rs.length<=32,?_,?_⟩
 .intro O H2 aal
  refine hide λG_ aZ=>?_
  obtain⟨v4,rs,rfl,sm,hL,cX,gF,Oz⟩:=aal
  refine aZ.k ?_
  refine⟨_,rfl,_,rfl,_,rfl,_,rfl,a,_,rfl,sm.seq hS,λsl uN=>⟨sl,rfl,⟨_,ai.of ao⟩,?_⟩⟩
  have iD:=aaf ns (some (k:Int)) (some 63)
  revert iD
  generalize kZ (ns.map V.int) (some (k:Int)) (some 63)=cs
  intro iD
  have ss:=af.upd (o:=HO.lst cs) uN
  have GO:=sX ss
  have mQ:=ss _ _ hL
  have fG:=sm.trans ss
  have nsl:sl≠l:=λz=>by rw[z,hL] at uN;cases uN
  revert GO mQ fG
  clear ss
  generalize upd H2 sl (.lst cs)=H3
  intro GO mQ fG
  refine kT (xs:=cs) (λi O H2=>∃(v5 v6 v7 v8:Option V) (es:List Str),O=[some (.ref a),some (.ref b),some (.int k),some (.ref l),v4,v5,v6,v7,v8]/\af H H2/\H2 sl=some (.lst cs)/\H2 l=some (.lst ((rs++es).map V.str))/\sZ rs es)
   ⟨none,none,none,none,[],rfl,fG,GO,by rw[dJ];exact mQ,⟨Oz,by rw[dJ];exact cX,by rw[dJ];exact gF,λ_ z=>absurd z fm,λ_=>bu _⟩⟩ ?_ ?_ ?_
  .rintro i O H2 _ ⟨v5,v6,v7,v8,es,rfl,sm,vn,_⟩
   exact ai.of vn
  .intro i y O H2 hi aam
   refine hide λG_ bJ=>?_
   obtain⟨v5,v6,v7,v8,es,rfl,sm,vn,hL,W⟩:=aam
   obtain⟨c,rfl⟩:=iD y (bj hi)
   have m1:=rj c (show(3:Int)≠0 by decide)
   have m2:=w6 c (show(0:Int)<3 by decide)
   obtain⟨r,hr3⟩:=ud m1
   refine bJ.k ?_
   have er:2+c % 3=((2+r:Nat):Int):=by lia
   refine⟨_,rfl,_,_,rfl,rfl,⟨by decide,by decide⟩,_,_,rfl,rfl,(by show(0:Int)<2147483647;decide),?_⟩
   refine⟨_,rfl,_,_,rfl,rfl,(by show(0:Int)<3;decide),_,_,rfl,rfl,_,rfl,by lia,by lia,?_⟩
   rw[er,dQ]
   refine i5 (λj O H3=>∃x z v8,O=[some (.ref a),some (.ref b),some (.int k),some (.ref l),v4,some (.int c),some (.str x),some (.int z),v8]/\H3=H2/\x.length=j/\iK x=true)
    ⟨Str.ofString "",_,v8,rfl,rfl,rfl,rfl⟩ ?_ ?_
   .intro j O H3 hj aan
    refine hide λG_ cG=>?_
    obtain⟨x,z,v8',rfl,rfl,hx,hlx⟩:=aan
    refine cG.k ?_
    refine⟨_,rfl,_,rfl,_,rfl,a,ns,z,rfl,sm.seq hS,λch c1 c2=>?_⟩
    refine⟨_,_,rfl,rfl,Y2 (by rw[hx];show j+1<=10000;lia),?_⟩
    refine⟨_,rfl,_,_,rfl,rfl,_,_,rfl,rfl,.inr ⟨by decide,by decide⟩,_,_,rfl,rfl,(by show(0:Int)<2147483647;decide),?_⟩
    exact⟨_,_,_,rfl,rfl,by rw[Str.length_append,hx];rfl,aad hlx (aae (Oo c1 c2))⟩
   .intro O H3 aao
    refine hide λG_ eX=>?_
    obtain⟨x,z,v8',rfl,rfl,hx,hlx⟩:=aao
    refine eX.k ?_
    have hwx:cK x=true:=Oq (by lia) (by lia) hlx
    have dy:((rs++es).map V.str).all j9=true:=by rw[wR];exact lR.mpr λ_ _=>rfl
    have fC:=W.fC
    refine⟨_,rfl,_,rfl,l,_,rfl,.inl (ai.of hL),rfl,dy,_,rfl,eE (λh=>?_) (λh=>aL ⟨_,_,_,_,es,rfl,sm,vn,hL,W⟩)⟩
    have hn:x∉rs++es:=GL (by simpa using h)
    refine⟨_,rfl,l,rfl,⟨_,ai.of hL⟩,?_⟩
    refine kd gB (by rw[av];lia) (λj=>decide (((rs++es).getD j ⟨#[]⟩).length=x.length)) (λ_ j y _=>y = .str ((rs++es).getD j ⟨#[]⟩)) (λH6 s6=>ai.of (s6 _ _ hL)) (λ_ _ _ _ _ _ _ _ h=>h) ?_ ?_
    .intro D2 j v H6 Z0 Z iL hv s6 _ k0 k1
     rw[bE] at hv
     cases e:(rs++es)[j]? with
     |none=>rw[e] at hv;cases hv
     |some y=>
      rw[e] at hv
      cases hv
      rw[BO e] at k0 k1
      have hy:=vf (W.wd y (bj e))
      refine⟨_,rfl,y,rfl,dj (by lia),_,rfl,x,rfl,dj (by lia),rfl,_,rfl,?_⟩
      rw[BQ]
      refine eE (λh=>?_) (λh=>?_)
      .exact⟨_,rfl,k1 _ _ (af.cA _) h rfl⟩
      .exact k0 _ (af.cA _) (gi.mpr h)
    .intro D2 zs H6 iL iM s6 lC
     have e2:=BM lC
     rw[av,Gz V.str ⟨#[]⟩ (rs++es) λy=>decide (y.length=x.length)] at e2
     have GQ:=s6 _ _ hL
     have hz:zs.length=(jg (rs++es) x.length).length:=by rw[e2,av];rfl
     refine⟨D2,zs,rfl,.inl (ai.of iM),_,_,rfl,rfl,_,rfl,eE (λh5=>?_) (λ_=>⟨_,_,_,_,es,rfl,sm.trans s6,s6 _ _ vn,GQ,W⟩)⟩
     have h5:(zs.length:Int)<5:=fK h5
     refine⟨_,rfl,.inl ⟨rfl,_,ai.of GQ⟩,_,rfl,l,_,_,rfl,rfl,GQ,yu (by rw[av];lia),?_⟩
     exact⟨_,_,_,_,es++[x],rfl,(sm.trans s6).i0 hl,by rw[ak nsl];exact s6 _ _ vn,by rw[ao];simp,W.more hn hwx (by lia) (by lia)⟩
  .intro O H2 aap
   refine hide λG_ oi=>?_
   obtain⟨v5,v6,v7,v8,es,rfl,sm,vn,hL,W⟩:=aap
   refine oi.k ?_
   exact⟨_,rfl,q l rs es H2 hl sm hL W⟩
 .refine⟨_,rfl,a,ns,3,rfl,s0.seq hS,_,_,rfl,rfl,(by show(0:Int)<4;decide),_,_,rfl,rfl,_,rfl,eE (λ_=>?_) (λ_=>?_)⟩
  .refine⟨_,rfl,b,m,wd,rfl,s0.tup hT,S,λg xs H1 hg s1 hG hR=>⟨g,rfl,⟨_,ai.of hG⟩,?_⟩⟩
   have GR:=hR.length
   have Oz:=aaj m4 w4
   have GS:=s1 _ _ yI
   have ngl:g≠l:=λz=>by rw[z,yI] at hg;cases hg
   have fG:=s0.trans s1
   refine kT (xs:=xs) (λi O H2=>∃(v4:Option V) (rs:List Str),O=[some (.ref a),some (.ref b),some (.int k),some (.ref l),v4,none,none,none,none]/\af H H2/\(∀c o,c≠l->H1 c=some o->H2 c=some o)/\H2 l=some (.lst (rs.map V.str))/\rs.Nodup/\(∀x∈rs,cK x=true)/\rs.length<=i)
    ⟨none,[],rfl,fG,λ_ _ _ h=>h,GS,iT,λ_ z=>absurd z fm,aW _⟩ ?_ ?_ ?_
   .rintro i O H2 _ ⟨v4,rs,rfl,sm,kp,_⟩
    exact ai.of (kp _ _ ngl hG)
   .intro i x O H2 hx aaq
    refine hide λG_ oj=>?_
    obtain⟨v4,rs,rfl,sm,kp,hL,cX,gF,hle⟩:=aaq
    have BX:=(cg.mp hx).1
    obtain⟨r,eZ,p,ys,rfl,_,hp,hc⟩:=Paired.get hR hx
    have mr:=bj eZ
    obtain⟨r2,r9,bD⟩:=jf S mr
    refine oj.k ?_
    have gy:=hc.length
    have npl:p≠l:=λz=>by
     rw[z,GS] at hp
     injection hp with hp
     injection hp with hp
     rw[<-hp] at gy
     have gy:r.length=0:=gy
     lia
    have fO:=kp _ _ npl hp
    have rO:bH H2 r ys:=bH.off ⟨_,GS⟩ kp hc
    have dy:(rs.map V.str).all j9=true:=by rw[wR];exact lR.mpr λ_ _=>rfl
    refine⟨_,rfl,_,rfl,b,p,m,wd,r,ys,rfl,sm.tup hT,S,fO,rO,by lia,λc mc=>⟨(bD c mc).1,(bD c mc).2.1⟩,λH3 s3=>?_⟩
    have jb:=s3 _ _ hL
    refine⟨_,rfl,l,_,rfl,.inl (ai.of jb),rfl,dy,_,rfl,eE (λh=>?_) (λh=>?_)⟩
    .have hn:au m r∉rs:=GL (by simpa using h)
     refine⟨_,rfl,.inl ⟨rfl,_,ai.of jb⟩,_,rfl,_,rfl,b,p,m,wd,r,ys,rfl,(sm.trans s3).tup hT,S,s3 _ _ fO,rO.mono s3,by lia,λc mc=>⟨(bD c mc).1,(bD c mc).2.1⟩,λH4 s4=>?_⟩
     have OA:=s3.trans s4
     refine⟨l,_,_,rfl,rfl,s4 _ _ jb,yu (by rw[av];lia),?_⟩
     refine⟨_,rs++[au m r],rfl,(sm.trans OA).i0 hl,λc o hc h=>by rw[ak hc];exact OA _ _ (kp c o hc h),by rw[ao,dF];rfl,Ox cX hn,λy my=>?_,by rw[dE];show _+1<=_;lia⟩
     rcases cV.mp my with z | z
     .exact gF y z
     .rw[cj.mp z];exact aai S L mr
    .exact⟨_,rs,rfl,sm.trans s3,λc o hc h=>s3 _ _ (kp c o hc h),jb,cX,gF,by lia⟩
   .intro O H2 aar
    refine hide λG_ yJ=>?_
    obtain⟨v4,rs,rfl,sm,kp,hL,cX,gF,hle⟩:=aar
    refine yJ.k ?_
    exact⟨v4,rs,rfl,sm,hL,cX,gF,by lia⟩
  .exact⟨none,[],rfl,s0,yI,iT,λ_ z=>absurd z fm,bu _⟩
end
noncomputable def ah(rs:List (List C2))(i:Nat):List C2:=rs.getD i []
noncomputable def ow(l:List Str)(rs:List (List C2))(pl:Nat):List Str:=((List.range rs.length).filter λi=>!decide (i=pl)).map λi=>au l (ah rs i)
noncomputable def cY(l:List Str)(rs:List (List C2))(pl:Nat)(ks:List Str):List Str:=(b8 (ks.filter λx=>bK x (au l (ah rs pl)))).filter λx=>!decide (x∈ow l rs pl)
def vo(l:List Str)(w:Nat):(aG l w).length=(dr l w).length:=by rw[qg,av]
theorem dIn(i j:Nat):decide (V.int (i:Int)=V.int (j:Int))=decide (i=j):=by grind
def GU(x:Str)(ps:List Str):iB (.str x) (ps.map V.str)=decide (x∈ps):=by
 by_cases h:x∈ps
 .rw[aJ h]
  cases e:iB (.str x) (ps.map V.str) with
  |true=>rfl
  |false=>exact absurd h (GL e)
 .rw[aN h]
  unfold iB
  rw[List.any_map,JM]
  intro y hy e
  have e:gR (.str x) (.str y)=true\/gR (.str y) (.str x)=true := .inr e
  have:x=y:=by rcases e with e | e <;> simp[gR] at e <;> simp[e]
  exact h (this ▸ hy)
def aas(l:List Str)(p:Str->Bool):b8 (l.filter p)=(b8 l).filter p:=A9 ((fY l).filter p) ((E5 l).filter p)
noncomputable def yK(l:List Str)(rs:List (List C2))(pl j:Nat):Bool := !decide (j=pl) && !decide (46∈(au l (ah rs j)).cps.toList)
noncomputable def h8(l:List Str)(rs:List (List C2))(pl i:Nat):List Str:=((List.range i).filter (yK l rs pl)).map λj=>au l (ah rs j)
def aat(l:List Str)(rs:List (List C2))(pl i:Nat):h8 l rs pl (i+1)=h8 l rs pl i++if yK l rs pl i=true then [au l (ah rs i)] else []:=by
 unfold h8
 rw[nC,jY,dF,dw,oX]
 cases yK l rs pl i <;> rfl
def aau(hx:46∉x.cps.toList):x∈h8 l rs pl rs.length↔x∈ow l rs pl:=by
 unfold h8 ow yK
 constructor
 .intro h
  obtain⟨j,hj,e⟩:=bM.mp h
  have hj:=cy.mp hj
  rw[eP] at hj
  exact bM.mpr ⟨j,cy.mpr ⟨hj.1,hj.2.1⟩,e⟩
 .intro h
  obtain⟨j,hj,e⟩:=bM.mp h
  have hj:=cy.mp hj
  refine bM.mpr ⟨j,cy.mpr ⟨hj.1,?_⟩,e⟩
  rw[hj.2,e,aN hx]
  rfl
theorem aav(h:cK x=true):46∉x.cps.toList:=λm=>by
 unfold cK at h
 simp only[eP] at h
 have:=h.2.2
 unfold iK at this
 have:=fK (lR.mp this 46 m)
 rw[Bs] at this
 obtain⟨k,_,e⟩:=bM.mp this
 lia
noncomputable def jO(l:List Str)(rs:List (List C2))(pl:Nat)(x:Str):Bool:=bK x (au l (ah rs pl)) && !decide (x∈h8 l rs pl rs.length)
def aaw(h:∀x∈ws,cK x=true):cY l rs pl ws=b8 (ws.filter (jO l rs pl)):=by
 unfold cY
 rw[<-aas,List.filter_filter]
 congr 1
 apply List.filter_congr
 intro x mx
 unfold jO
 have:=aau (l:=l) (rs:=rs) (pl:=pl) (aav (h x mx))
 rw[Bool.and_comm]
 congr 2
 by_cases z:x∈ow l rs pl
 .rw[aJ z,aJ (this.mpr z)]
 .rw[aN z,aN (λy=>z (this.mp y))]
def OB{ws:List α}{x:α}(hx:ws[i]? = some x)(f:α->Bool):(ws.take (i+1)).filter f=(ws.take i).filter f++if f x=true then [x] else []:=by
 rw[fL,hx,jY]
 show _++[x].filter f=_
 rw[dw,oX]
noncomputable def qk(x t:Str)(i:Nat):Bool := !kg (x.cps.toList.getD i 0) (t.cps.toList.getD i 0)
def OC{t:Str}(h:x.length=t.length):bK x t=decide ((List.range t.length).filter (qk x t)=[]):=by
 unfold bK
 rw[aJ h,Af,h]
 by_cases z:(List.range t.length).filter (qk x t)=[]
 .rw[aJ z,lR]
  intro i mi
  have:=Si.mp z i mi
  unfold qk at this
  simpa using this
 .rw[aN z,gi]
  intro y
  refine z (Si.mpr λi mi=>?_)
  have:=lR.mp y i mi
  unfold qk
  rw[this]
  decide
theorem BY(K:Frag)(H:Hp):∀is:List Nat,di K H (is.map λ(i:Nat)=>D.int (0+(i:Int))) (is.map λ(i:Nat)=>V.int (0+(i:Int)))
 |[]=>rfl
 |i::r=>⟨.int (0+(i:Int)),r.map λ(i:Nat)=>V.int (0+(i:Int)),rfl,rfl,BY K H r⟩
def GV(is:List Nat):dep (.lst (is.map λ(i:Nat)=>D.int (0+(i:Int))))<=50:=by
 have:dN (is.map λ(i:Nat)=>D.int (0+(i:Int)))=0:=by
  induction is with
  |nil=>rfl
  |cons x r ih=>rw[bI,dN,ih];rfl
 rw[dep,this]
 decide
def GW(is:List Nat):dW (.lst (is.map λ(i:Nat)=>D.int (0+(i:Int)))) (.lst [])=decide (is=[]):=by
 cases is <;> rfl
def OD(c d:Nat):decide ((⟨#[d]⟩:Str)∈[(".":Str),⟨#[c]⟩])=kg c d:=by
 rw[NX]
 unfold kg
 have e:∀a b:Nat,((⟨#[a]⟩:Str)=⟨#[b]⟩)↔a=b:=λa b=>⟨λz=>(List.cons.inj (show [a]=[b] from fh (λy:Str=>y.cps.toList) z)).1,λz=>by rw[z]⟩
 rw[<-Bool.decide_or]
 congr 1
 rw[cf,cj,e,e]
theorem GX(h:((List.range n).map λ(i:Nat)=>V.int (0+(i:Int)))[i]? = some v):i<n/\v = .int (0+(i:Int)):=by grind
noncomputable def dm(l:List Str)(w:Nat):List Str:=(aG l w).map (au l)
noncomputable def gG(l:List Str):Bool:=l.any λx=>decide (46∈x.cps.toList)
noncomputable def dP(ks:List Str)(l:List Str)(w:Nat):Bool := !gG l&&(decide (dm l w).Nodup&&(dm l w).all λx=>decide (x∈ks))
def OE(h1:c.1<h)(h2:c.2<w):c∈cells h w:=bj (yg (w:=w) h1 h2)
def BZ(t:iF kvs)(x:Str):(aQ kvs (Sum.inr x:Key)).isSome=decide (x∈aC kvs):=by
 cases e:aQ kvs (Sum.inr x:Key) with
 |none=>
  refine(aN λm=>LI e ?_).symm
  unfold aC at m
  obtain⟨q,hq,eq⟩:=bM.mp m
  obtain⟨y,ey⟩:=t q hq
  rw[ey] at eq
  have eq:y=x:=eq
  exact bM.mpr ⟨q,hq,by rw[ey,eq]⟩
 |some v=>
  refine(aJ ?_).symm
  obtain⟨q,hq,e1⟩:=bM.mp (EL e)
  unfold aC
  exact bM.mpr ⟨q,hq,by rw[e1]⟩
def aax(v:V)(e:aQ kvs (Sum.inr x:Key)=none):aC (putK kvs (Sum.inr x) v)=aC kvs++[x]:=by
 rw[rS v e]
 unfold aC
 rw[dF]
 rfl
def aay(n:x∉aC kvs):aQ kvs (Sum.inr x:Key)=none:=by
 cases e:aQ kvs (Sum.inr x:Key) with
 |none=>rfl
 |some v=>
  refine absurd ?_ n
  have m:=EL e
  obtain⟨q,hq,e1⟩:=bM.mp m
  unfold aC
  exact bM.mpr ⟨q,hq,by rw[e1]⟩
def lF(kvs:List (Key×V)):(aC kvs).length=kvs.length:=by unfold aC;rw[av]
theorem OF(h1:gG l=false)(h2:(dm l w).Nodup)(h3:∀x∈dm l w,x∈ks):dP ks l w=true:=by grind [gG,dP,dm]
theorem yL(h:dP ks l w=true):gG l=false/\(dm l w).Nodup/\∀x∈dm l w,x∈ks:=by grind [gG,dP,dm]
def aaz(l:List Str)(w:Nat):(dm l w).length=(dr l w).length:=by unfold dm;rw[av,qg,av]
def vp(kvs:List (Key×V)):Prop := ∀q∈kvs,∃n,q.2=V.int n
noncomputable def eN(kvs:List (Key×V))(x:Str):Int:=match aQ kvs (Sum.inr x:Key) with | some (.int n)=>n | _=>0
def aaA{k:Key}(h:aQ kvs k=some v):∃q∈kvs,q.1=k/\q.2=v:=by
 unfold aQ at h
 cases e:kvs.find? (λkv=>decide (kv.1=k)) with
 |none=>rw[e] at h;cases h
 |some q=>
  rw[e] at h
  exact⟨q,List.mem_of_find?_eq_some e,fK (by simpa using List.find?_some e),cQ h⟩
def B1(t:iF kvs)(hi:vp kvs)(m:x∈aC kvs):aQ kvs (Sum.inr x:Key)=some (.int (eN kvs x)):=by
 have:=BZ t x
 rw[aJ m] at this
 cases e:aQ kvs (Sum.inr x:Key) with
 |none=>rw[e] at this;cases this
 |some v=>
  obtain⟨q,hq,_,e2⟩:=aaA e
  obtain⟨n,en⟩:=hi q hq
  have ev:v = .int n:=by rw[<-e2,en]
  unfold eN
  rw[e,ev]
def vq(H:Hp)(ww:Addr)(ws:List Str):Prop := ∃kvs,H ww=some (.dK kvs)/\iF kvs/\aC kvs=ws
def vq.mono(h:vq H ww ws)(s:af H H'):vq H' ww ws:=by
 obtain⟨kvs,h1,h2⟩:=h
 exact⟨kvs,s _ _ h1,h2⟩
def af.both(a:Addr)(o:HO)(s:af H H'):af (upd H a o) (upd H' a o):=λb u e=>by
 by_cases z:b=a
 .rw[z,ao] at e ⊢;exact e
 .rw[ak z] at e ⊢;exact s _ _ e
def af.OG{a:Addr}{o u:HO}(h:H a=some o)(s:af (upd H a u) H'):af H (upd H' a o):=λb v e=>by
 by_cases z:b=a
 .rw[z,ao,<-e,z,h]
 .rw[ak z];exact s _ _ (by rw[ak z];exact e)
section
variable{P:Program}{w:World}{K:Frag}{mg:Str->Option Value}{base:Heap}{f:Addr}{fd:FuncData}
def vt(K:Frag):Sp:=λvs H Q _=>∃(ww g a:Addr) (ws:List Str) (l:List Str) (w pl:Nat) (zs:List V),vs=[.ref ww,.ref g,.ref a,.int pl]/\vq H ww ws/\ws.length<64/\(∀x∈ws,cK x=true)/\aq K H a (l.map V.str)/\bo l w/\H g=some (.lst zs)/\c9 g H (aG l w) zs/\pl<(aG l w).length/\
 ∀t H',H t=none->af H H'->H' t=some (.lst ((cY l (aG l w) pl ws).map V.str))->Q (.ref t) H'
def qm:bg ["_law_words_here","_law_rows_here","_law_sheet","_law_place","_law_text_here","_law_taken","_law_k","_law_other","_law_found","_law_word","_law_wrong"] ["_law_words_here","_law_rows_here","_law_sheet","_law_place"] (aV (top 67)):={}
theorem aaB(B:Bl mg)(F:aX K "_law_left" "_law_left" (top 67) f fd)(lE:Fn P w K mg base "_law_text" 1 (vm K)):aO P w K mg base aR 2 f fd ["_law_words_here","_law_rows_here","_law_sheet","_law_place"] (vt K):=by
 refine F.bG qm λaH A outer s H vs Q E hr h=>?_
 refine hide λG_ aF=>?_
 obtain⟨ww,g,a,ws,l,wd,pl,zs,rfl,⟨kvs,hW,lG,rfl⟩,dk,gF,hT,S,hG,hR,hpl,q⟩:=h
 refine aF.k ?_
 have hu:=hr.units
 refine⟨_,(ar (aK 4 qm.nd (aU lE hr (ab (pv 2) (ab (aM d6 (pv 1) (pv 3)) ag))))
  (ar (aK 5 qm.nd (de ag))
  (ar (cF (gm (by rfl) B.gD (ab (bc d7 (by rfl) B.b7 b6 (ab (pv 1) ag)) ag)) (bN 6 qm.nd)
  (ar (aK 7 qm.nd (aU lE hr (ab (pv 2) (ab (aM d6 (pv 1) (pv 6)) ag))))
   (aw (bw (PW.pt (pq (bR iY (pv 6) (pv 3)) (rE (bR KR dY (pv 7)))))
   (aw (fu (fB jv jZ j0 iC (pv 5) (ab (pv 7) ag))))
   bC))))
  (ar (aK 8 qm.nd (de ag))
  (ar (Bd (cF (Bb (pv 0)) (bN 9 qm.nd)
  (aw (bw (PW.pt (pq (bR lW (bc eU (by rfl) B.b7 b6 (ab (pv 9) ag)) (bc eU (by rfl) B.b7 b6 (ab (pv 4) ag))) (rE (bR uu (pv 9) (pv 5)))))
   (ar (r8 (i:=10) qm.nd rfl (Or.inl rfl) (js:=[4,9]) (ns:=["_law_text_here","_law_word"]) (gm (by rfl) B.gD (ab (bc eU (by rfl) B.b7 b6 (ab (pv 4) ag)) ag)) rfl rfl rfl rfl (λ_ _ _ _=>(lh (E4 (K:=K) (rr:=λK=>AK K true) rfl uu (aM fV (pv 1) (pv 0)) (de (ab dY (ab (aM fV (pv 2) (pv 0)) ag)))))) (λ_ _ _ _=>(pv 0)))
    (aw (bw (bR (xO hu) (pv 10) (de ag))
    (aw (fu (fB jv jZ j0 iC (pv 8) (ab (pv 9) ag))))
    bC)))
   bC))))
  (aw (aP (bc Ba (by rfl) B.uX uE (ab (pv 8) ag))))))))),?_⟩
 try dsimp only[bA]
 have yM:=hR.length
 have jh:=qf S
 rw[<-vo] at jh
 rw[aaw gF] at q
 refine hide λG_ aZ=>?_
 obtain⟨v0,qo⟩:∃v,zs[pl]? = some v:=⟨_,bb (by lia)⟩
 obtain⟨r0,hr0,p0,tj,rfl,_,gb,iD⟩:=Paired.get hR qo
 refine aZ.k ?_
 have GY:=jf S (bj hr0)
 have e0:ah (aG l wd) pl=r0:=bW hr0
 refine⟨_,rfl,_,rfl,_,rfl,g,_,_,.ref p0,rfl,rfl,ai.of hG,c7 qo,a,p0,l,wd,r0,tj,rfl,hT,S,gb,iD,by lia,λc hc=>⟨(GY.2.2 c hc).1,(GY.2.2 c hc).2.1⟩,λH1 s1=>?_⟩
 rw[<-e0]
 have tm:(au l (ah (aG l wd) pl)).length<=9:=by rw[e0,eD];exact GY.2.1
 refine⟨bu _,λtk gq=>?_⟩
 have OH:=s1.free gq
 have fG:=s1.trans (af.upd (o:=HO.lst []) gq)
 have GZ:=sX (af.upd (o:=HO.lst []) gq)
 revert fG GZ
 generalize upd H1 tk (.lst [])=H2
 intro fG GZ
 refine⟨_,rfl,g,_,rfl,.inl (ai.of (fG _ _ hG)),_,rfl,by lia,by lia,?_⟩
 rw[dQ,<-yM]
 refine i5 (λi O H2=>∃(v6 v7:Option V),O=[some (.ref ww),some (.ref g),some (.ref a),some (.int pl),some (.str (au l (ah (aG l wd) pl))),some (.ref tk),v6,v7,none,none,none]/\af H H2/\H2 tk=some (.lst ((h8 l (aG l wd) pl i).map V.str)))
  ⟨none,none,rfl,fG,GZ⟩ ?_ ?_
 .intro i O H3 hi aaC
  refine hide λG_ bJ=>?_
  obtain⟨v6,v7,rfl,sm,B2⟩:=aaC
  obtain⟨v,hv⟩:∃v,zs[i]? = some v:=⟨_,bb (by lia)⟩
  obtain⟨r,eZ,p,ys,rfl,_,hp,hc⟩:=Paired.get hR hv
  refine bJ.k ?_
  have bD:=jf S (bj eZ)
  have er:ah (aG l wd) i=r:=bW eZ
  refine⟨_,rfl,_,rfl,_,rfl,g,_,_,.ref p,rfl,rfl,ai.of (sm _ _ hG),c7 hv,a,p,l,wd,r,ys,rfl,sm.tup hT,S,sm _ _ hp,hc.mono sm,by lia,λc hc=>⟨(bD.2.2 c hc).1,(bD.2.2 c hc).2.1⟩,λH4 s4=>?_⟩
  have dB:=sm.trans s4
  have B3:=s4 _ _ B2
  have ef:(!(Builtin.Str.occurrences (au l r) (Str.ofString ".") 0 (au l r).length 1).isEmpty)=decide (46∈(au l r).cps.toList):=by
   rw[uY]
   exact DW (au l r) 46
  have et:=aat l (aG l wd) pl i
  unfold yK at et
  rw[er] at et
  refine⟨_,rfl,_,rfl,rfl,_,rfl,?_⟩
  rw[dIn]
  by_cases OI:i=pl
  .rw[aJ OI] at et ⊢
   refine aL (aL ⟨_,_,rfl,dB,?_⟩)
   rw[et]
   show H4 tk=some (.lst ((h8 l (aG l wd) pl i++[]).map V.str))
   rw[dJ]
   exact B3
  .rw[aN OI] at et ⊢
   refine bf ⟨_,rfl,_,_,rfl,rfl,_,rfl,?_⟩
   rw[ef]
   by_cases cO:46∈(au l r).cps.toList
   .rw[aJ cO] at et ⊢
    refine aL ⟨_,_,rfl,dB,?_⟩
    rw[et]
    show H4 tk=some (.lst ((h8 l (aG l wd) pl i++[]).map V.str))
    rw[dJ]
    exact B3
   .rw[aN cO] at et ⊢
    have gy:(h8 l (aG l wd) pl i).length<=i:=by
     unfold h8
     rw[av]
     exact bQ (iw _ _) (by rw[kM];exact aW _)
    refine bf ⟨_,rfl,.inl ⟨rfl,_,ai.of B3⟩,_,rfl,tk,_,_,rfl,rfl,B3,yu (by rw[av];lia),?_⟩
    refine⟨_,_,rfl,dB.i0 OH,?_⟩
    rw[ao,et]
    show _=some (HO.lst ((h8 l (aG l wd) pl i++[au l r]).map V.str))
    rw[dF]
    rfl
 .rintro O H3 ⟨v6,v7,rfl,sm,B2⟩
  refine⟨bu _,λfo da=>?_⟩
  have yN:=sm.free da
  have nft:fo≠tk:=λz=>by rw[z,B2] at da;cases da
  have ji:=sm.trans (af.upd (o:=HO.lst []) da)
  have G0:=(af.upd (o:=HO.lst []) da) _ _ B2
  have jP:=sX (af.upd (o:=HO.lst []) da)
  revert ji G0 jP
  generalize upd H3 fo (.lst [])=H4
  intro ji G0 jP
  have dy:((h8 l (aG l wd) pl (aG l wd).length).map V.str).all j9=true:=by rw[wR];exact lR.mpr λ_ _=>rfl
  refine⟨ww,kvs,ji _ _ hW,λob=>?_⟩
  refine⟨_,rfl,ww,ob,kvs,rfl,ao,?_⟩
  have ntw:tk≠ww:=br (bq hW OH)
  have tq:fo≠ww:=br (bq hW yN)
  have yO:=af.both ww (.cB ob (.dK kvs)) ji
  have aaD:upd H4 ww (.cB ob (.dK kvs)) tk=_:=(ak ntw).trans G0
  have G2:upd H4 ww (.cB ob (.dK kvs)) fo=_:=(ak tq).trans jP
  have mR:upd H ww (.cB ob (.dK kvs)) fo=none:=(ak tq).trans yN
  have qr:upd H ww (.cB ob (.dK kvs)) ww=some (.cB ob (.dK kvs)):=ao
  have yP:=λH'=>af.OG (H':=H') (u := .cB ob (.dK kvs)) hW
  generalize upd H ww (.cB ob (.dK kvs))=HZ at yO mR qr yP
  refine A3 Bc (λi O H2=>∃(v9 v10:Option V),O=[some (.ref ww),some (.ref g),some (.ref a),some (.int pl),some (.str (au l (ah (aG l wd) pl))),some (.ref tk),v6,v7,some (.ref fo),v9,v10]/\af HZ H2/\H2 tk=some (.lst ((h8 l (aG l wd) pl (aG l wd).length).map V.str))/\H2 fo=some (.lst ((((aC kvs).take i).filter (jO l (aG l wd) pl)).map V.str)))
   ⟨none,none,rfl,yO,aaD,G2⟩ (λi O H2 _ ⟨_,_,_,G3,_⟩=>G3 _ _ qr) ?_ ?_
  .intro i y O H5 hy aaE
   refine hide λG_ cG=>?_
   obtain⟨v9,v10,rfl,eK,B4,jQ⟩:=aaE
   obtain⟨x,rfl,e⟩:=GA lG hy
   refine cG.k ?_
   clear hy
   .skip
    have hi:=(cg.mp e).1
    have eC:=vf (gF x (bj e))
    have ek:=OB e (jO l (aG l wd) pl)
    have same:∀H6 v10,af H5 H6->jO l (aG l wd) pl x=false->∃(v9 aaF:Option V),[some (.ref ww),some (.ref g),some (.ref a),some (.int pl),some (.str (au l (ah (aG l wd) pl))),some (.ref tk),v6,v7,some (.ref fo),some (V.str x),v10]=[some (.ref ww),some (.ref g),some (.ref a),some (.int pl),some (.str (au l (ah (aG l wd) pl))),some (.ref tk),v6,v7,some (.ref fo),v9,aaF]/\af HZ H6/\H6 tk=some (.lst ((h8 l (aG l wd) pl (aG l wd).length).map V.str))/\H6 fo=some (.lst ((((aC kvs).take (i+1)).filter (jO l (aG l wd) pl)).map V.str)):=λH6 v10 s6 hb=>by
     refine⟨_,_,rfl,eK.trans s6,s6 _ _ B4,?_⟩
     rw[ek,hb,ax b0,dJ]
     exact s6 _ _ jQ
    refine⟨_,rfl,x,rfl,dj (by lia),_,rfl,_,rfl,dj (by lia),rfl,_,rfl,?_⟩
    rw[BQ]
    by_cases hl:x.length=(au l (ah (aG l wd) pl)).length
    .rw[aJ hl]
     refine bf ⟨_,rfl,_,rfl,tk,_,rfl,.inl (ai.of B4),rfl,dy,_,rfl,?_⟩
     rw[GU,aA rfl]
     by_cases hm:x∈h8 l (aG l wd) pl (aG l wd).length
     .rw[aJ hm]
      exact aL (same H5 _ (af.cA _) (by unfold jO;rw[aJ hm];simp))
     .rw[aN hm]
      refine bf ⟨_,rfl,_,rfl,dj (by lia),_,rfl,by lia,by lia,?_⟩
      rw[dQ]
      generalize tu:au l (ah (aG l wd) pl)=tx at *
      refine kd E1 (by rw[av,kM];lia) (qk x tx) (λ_ i y _=>y = .int (0+(i:Int))) (λ_ _=>trivial) (λ_ _ _ _ _ _ _ _ h=>h) ?_ ?_
      .intro D2 j v H6 Z0 Z iL hv s6 _ k0 k1
       obtain⟨hj,rfl⟩:=GX hv
       have yz:x.cps.toList[j]? = some (x.cps.toList.getD j 0):=by
        rw[bT,bb (by rw[b9];lia)]
        rfl
       have vv:tx.cps.toList[j]? = some (tx.cps.toList.getD j 0):=by
        rw[bT,bb (by rw[b9];lia)]
        rfl
       have a1:eT x.cps.toList (0+(j:Int))=some (x.cps.toList.getD j 0):=by rw[tZ];exact c7 yz
       have a2:eT tx.cps.toList (0+(j:Int))=some (tx.cps.toList.getD j 0):=by rw[tZ];exact c7 vv
       refine⟨_,rfl,_,rfl,tx,_,_,rfl,rfl,dj (by lia),a2,_,rfl,_,rfl,x,_,_,rfl,rfl,dj (by lia),a1,(by show 2<=sizeLine;decide),λlp i9=>?_⟩
       refine⟨lp,_,rfl,.inl (ai.of ao),rfl,rfl,_,rfl,?_⟩
       have ei:iB (.str ⟨#[tx.cps.toList.getD j 0]⟩) [V.str (Str.ofString "."),V.str ⟨#[x.cps.toList.getD j 0]⟩]=kg (x.cps.toList.getD j 0) (tx.cps.toList.getD j 0):=by
        rw[<-OD]
        exact GU _ [(".":Str),⟨#[x.cps.toList.getD j 0]⟩]
       rw[ei,aA rfl]
       refine eE (λh=>?_) (λh=>?_)
       .exact⟨_,rfl,k1 _ _ (af.upd i9) h rfl⟩
       .exact k0 _ (af.upd i9) (gi.mpr h)
      .intro D2 ys H6 iL iM s6 lC
       have e2:=jN lC
       rw[av,kM] at e2
       rw[e2] at iM
       refine⟨_,rfl,bu _,λen ib=>?_⟩
       have sE:=s6.trans (af.upd (o:=HO.lst []) ib)
       refine⟨.lst (((List.range tx.length).filter (qk x tx)).map λ(i:Nat)=>D.int (0+(i:Int))),.lst [],⟨D2,_,rfl,ai.of ((af.upd ib) _ _ iM),BY _ _ _⟩,⟨en,_,rfl,ai.of ao,rfl⟩,.inr ⟨_,_,rfl,rfl⟩,GV _,_,rfl,?_⟩
       rw[GW,<-OC hl]
       refine eE (λh=>?_) (λh=>?_)
       .have h:bK x tx=true:=by simpa using h
        have hb:jO l (aG l wd) pl x=true:=by
         unfold jO
         rw[tu,h,aN hm]
         rfl
        have gH:=sE _ _ jQ
        have:=iw (jO l (aG l wd) pl) ((aC kvs).take i)
        have:=List.length_take_le i (aC kvs)
        refine⟨_,rfl,.inl ⟨rfl,_,ai.of gH⟩,_,rfl,fo,_,_,rfl,rfl,gH,yu (by rw[av];lia),?_⟩
        refine⟨_,_,rfl,(eK.trans sE).i0 mR,by rw[ak (br nft)];exact sE _ _ B4,?_⟩
        rw[ao,ek,hb,aA rfl,dF]
        rfl
       .have h:bK x tx=false:=by simpa using h
        exact same _ _ sE (by unfold jO;rw[tu,h];rfl)
    .rw[aN hl]
     exact aL (aL (same H5 _ (af.cA _) (by unfold jO bK;rw[aN hl];rfl)))
  .intro O H5 aaG
   refine hide λG_ eX=>?_
   obtain⟨v9,v10,rfl,eK,B4,jQ⟩:=aaG
   refine eX.k ?_
   rw[av,<-lF,fq (aW _)] at jQ
   have:=iw (jO l (aG l wd) pl) (aC kvs)
   refine⟨eK _ _ qr,?_⟩
   have sT:=yP _ eK
   have gH:=(ak (H:=H5) (o := .dK kvs) tq).trans jQ
   exact⟨_,rfl,fo,_,rfl,ai.of gH,by lia,λt ht=>q t _ (sT.free ht) (sT.trans (af.upd ht)) ao⟩
end
open PySem.StrLaws PySem.Builtin.Str in
theorem G4(x:Str)(c:Nat):∀(k i free:Nat) (found:Array Nat),i+k=x.length+1->free<=i->i<=x.length+1->found.size=(x.cps.toList.take i).count c->(forIn (List.range' i k) (found,free) (occBody x ⟨#[c]⟩ x.length (x.length+1))).run.fst.toList.length=x.cps.toList.count c
 |0,i,free,found,h,hf,hi,hs=>by
  show found.toList.length=_
  rw[nt,hs,fq]
  rw[b9]
  lia
 |k+1,i,free,found,h,hf,hi,hs=>by
  rw[List.range'_succ,JS]
  unfold occBody
  have gy:(x.cps.toList.take i).count c<=i:=bQ List.count_le_length (by rw[kL];lia)
  by_cases hc:x.cps.toList[i]? = some c
  .obtain⟨c1,c2⟩:=(subAt_one x c i).mpr hc
   have c1':i+1<=x.length:=c1
   rw[aA ⟨⟨⟨by show found.size<_;lia,hf⟩,c1⟩,c2⟩]
   refine G4 x c k (i+1) (i+1) (found.push i) (by lia) (aW _) (by lia) ?_
   rw[Array.size_push,hs,fL,hc,Kg]
   simp
  .rw[ax (λz=>hc ((subAt_one x c i).mp ⟨z.1.2,z.2⟩))]
   refine G4 x c k (i+1) free found (by lia) (by lia) (by lia) ?_
   rw[hs,fL,Kg]
   cases e:x.cps.toList[i]? with
   |none=>simp
   |some d=>
    have:d≠c:=λz=>hc (by rw[e,z])
    simp[this]
open PySem.StrLaws in
theorem aaH(x:Str)(c:Nat):Txt.count x ⟨#[c]⟩=((x.cps.toList.count c:Nat):Int):=by
 unfold Txt.count
 rw[occ_eq]
 congr 1
 exact G4 x c (x.length+1) 0 0 #[] (by lia) (aW _) (bu _) rfl
theorem aaI(x:List Nat)(w:Nat)(h:x.length=w):((List.range w).filter λj=>!decide (x.getD j 0=35)).length+x.count 35=w:=by
 subst h
 induction x with
 |nil=>rfl
 |cons a r ih=>
  rw[dC,JT,dw,zX,Kh]
  have e:((λj=>!decide ((a::r).getD j 0=35))∘Nat.succ)=λj=>!decide (r.getD j 0=35):=by funext j;rfl
  rw[e]
  by_cases z:a=35
  .subst z
   simp only[List.getD_cons_zero,decide_true,Bool.not_true,wN,qT,av,zW,jW]
   lia
  .have:¬(a==35)=true:=by simpa using z
   rw[ax this]
   simp only[List.getD_cons_zero,aN z,Bool.not_false,jW,dC,av]
   lia
theorem OJ(l:List Str)(w:Nat):∀n,((cells n w).filter (bY l)).length=((List.range n).map λi=>((List.range w).filter λj=>!decide ((l.getD i ⟨#[]⟩).cps.toList.getD j 0=35)).length).sum
 |0=>rfl
 |n+1=>by
  rw[FJ,jY,dE,OJ l w n,nC,dF,JY,zX,av]
  simp only[bI,wM,dG,List.sum_nil,Nat.add_zero]
  rfl
theorem OK:∀l:List Nat,((l.sum:Nat):Int)=(l.map λ(n:Nat)=>(n:Int)).sum
 |[]=>rfl
 |a::r=>by rw[dG,bI,dG,<-OK r];simp
def aaJ(g:α->β)(d:α)(l:List α):(List.range l.length).map (λi=>g (l.getD i d))=l.map g:=kf g d l
theorem aaK(S:bo l w):((bV l w).length:Int)=(oo l).sum:=by
 unfold bV oo
 rw[OJ,aaJ (λx:Str=>((List.range w).filter λj=>!decide (x.cps.toList.getD j 0=35)).length),OK,jw]
 congr 1
 refine Ki λx mx=>?_
 have hl:=S.len x mx
 have e:=aaI x.cps.toList w (by rw[b9];exact hl)
 have e2:Txt.count x "#"=((x.cps.toList.count 35:Nat):Int):=by rw[<-aaH,<-pZ]
 show((((List.range w).filter λj=>!decide (x.cps.toList.getD j 0=35)).length:Nat):Int)=(x.length:Int) - Txt.count x "#"
 rw[e2,hl]
 lia
theorem OL{cs:List C2}(nd:cs.Nodup):∀{r:List C2},(∀c∈r,c∈cs)->(cs.map λc=>r.count c).sum=r.length
 |[],_=>by
  rw[uW]
  .rfl
  .intro y my
   obtain⟨c,_,rfl⟩:=bM.mp my
   rfl
 |a::r,h=>by
  have ih:=OL nd (r:=r) λc m=>h c (bX _ m)
  have e:∀xs:List C2,(xs.map λc=>(a::r).count c).sum=(xs.map λc=>r.count c).sum+xs.count a:=by
   intro xs
   induction xs with
   |nil=>rfl
   |cons x t G5=>
    rw[bI,dG,G5,bI,dG,Kh,Kh]
    by_cases z:a=x
    .subst z
     simp
     lia
    .have z1:¬(a==x)=true:=by simpa using z
     have z2:¬(x==a)=true:=by simpa using λy=>z y.symm
     rw[ax z1,ax z2]
     lia
  rw[e,ih,dC,List.Nodup.count nd,aA (h a bt)]
theorem G6{cs:List C2}(nd:cs.Nodup):∀{rs:List (Nat×List C2)},(∀q∈rs,∀c∈q.2,c∈cs)->(cs.map λc=>cN c rs).sum=(rs.map λq=>q.2.length).sum
 |[],_=>by
  rw[uW]
  .rfl
  .intro y my
   obtain⟨c,_,rfl⟩:=bM.mp my
   rfl
 |q::rs,h=>by
  have ih:=G6 nd (rs:=rs) λp m=>h p (bX _ m)
  have e:∀xs:List C2,(xs.map λc=>cN c (q::rs)).sum=(xs.map λc=>q.2.count c).sum+(xs.map λc=>cN c rs).sum:=by
   intro xs
   induction xs with
   |nil=>rfl
   |cons x t G5=>
    rw[bI,dG,G5,bI,dG,bI,dG]
    have:cN x (q::rs)=q.2.count x+cN x rs:=by unfold cN;rw[bI,dG]
    lia
  rw[e,ih,OL nd (h q bt),bI,dG]
theorem OM:∀{l:List Nat},(∀x∈l,x<=2)->l.sum=2*l.length->∀x∈l,x=2
 |[],_,_,x,m=>by cases m
 |a::r,h,e,x,m=>by
  rw[dG,dC] at e
  have ha:=h a bt
  have hr:r.sum<=2*r.length:=by
   clear e m ha
   have h':∀x∈r,x<=2:=λy my=>h y (bX _ my)
   clear h
   induction r with
   |nil=>exact aW _
   |cons b t ih=>
    rw[dG,dC]
    have:=h' b bt
    have:=ih λy my=>h' y (bX _ my)
    lia
  rcases cf.mp m with z | z
  .lia
  .exact OM (λy my=>h y (bX _ my)) (by lia) x z
def G7(c:C2):cN c (dr l w)=cN c (gX l w)+cN c (n6 l w):=by simp_all [C2,gX,n6,dr,cN]
def ic(l:List Str)(w:Nat):Prop := ∀c,bz l w c=true->cN c (dr l w)=2
theorem ON(S:bo l w)(h:yF l w=true):ic l w:=by
 have h:=fK h
 rw[<-aaK S] at h
 have e1:((bV l w).map λc=>cN c (dr l w)).sum=((aG l w).map (·.length)).sum:=by
  rw[G6 (Bv l w) λq mq c mc=>?_,qg,jw]
  .rfl
  .have hc:=(Gj mq).2 c mc
   exact yj (by rw[mI hc.1 hc.2.1];exact hc.2.2)
 have e2:((bV l w).map λc=>cN c (dr l w)).sum=2*((bV l w).map λc=>cN c (dr l w)).length:=by
  rw[e1,av]
  lia
 intro c hc
 refine OM (λx mx=>?_) e2 _ (iU (yj hc))
 obtain⟨d,_,rfl⟩:=bM.mp mx
 rw[G7,Bw S,FY S]
 split <;> split <;> lia
def oy(l:List Str)(w:Nat):Prop := ∃c,bz l w c=true
theorem aaL(h:gY (bz l w) (0,1) c=true):∃d:C2,bz l w d=true/\d.1=c.1/\d.2≠c.2:=by
 unfold gY gW at h
 rw[eP,wO,eP,eP] at h
 rcases h.2 with z | z
 .have h1:1<=c.2:=fK z.2.1
  exact⟨_,z.2.2,by show c.1 - 0=c.1;lia,by show c.2 - 1≠c.2;lia⟩
 .exact⟨_,z,by unfold go;show c.1+1*0=c.1;lia,by unfold go;show c.2+1*1≠c.2;lia⟩
theorem aaM(h:gY (bz l w) (1,0) c=true):∃d:C2,bz l w d=true/\d.2=c.2/\d.1≠c.1:=by
 unfold gY gW at h
 rw[eP,wO,eP,eP] at h
 rcases h.2 with z | z
 .have h1:1<=c.1:=fK z.1
  exact⟨_,z.2.2,by show c.2 - 0=c.2;lia,by show c.1 - 1≠c.1;lia⟩
 .exact⟨_,z,by unfold go;show c.2+1*0=c.2;lia,by unfold go;show c.1+1*1≠c.1;lia⟩
theorem oy.set{l:List Str}{w:Nat}(S:bo l w)(T:ic l w)(N:oy l w){c1 c2:C2}(a1:c1.1<l.length)(a2:c1.2<w)(b1:c2.1<l.length)(b2:c2.2<w):oy (setC (setC l c1 35) c2 35) w:=by
 obtain⟨c,hc⟩:=N
 have h2:=T c hc
 rw[G7,Bw S,FY S] at h2
 have hA:gY (bz l w) (0,1) c=true:=by
  by_cases z:gY (bz l w) (0,1) c=true
  .exact z
  .rw[ax z] at h2
   split at h2 <;> lia
 have hD:gY (bz l w) (1,0) c=true:=by
  by_cases z:gY (bz l w) (1,0) c=true
  .exact z
  .rw[ax z] at h2
   split at h2 <;> lia
 obtain⟨d,hd,d1,d2⟩:=aaL hA
 obtain⟨e,he,e1,e2⟩:=aaM hD
 have key:∀x:C2,bz l w x=true->x≠c1->x≠c2->oy (setC (setC l c1 35) c2 35) w:=λx hx n1 n2=>by
  obtain⟨x1,x2,x3⟩:=pX hx
  refine⟨x,?_⟩
  rw[mI (by rw[dz,dz];exact x1) x2]
  unfold bY at x3 ⊢
  rw[(S.dO.set (ch:=35) a1 a2).lB (by rw[dz];exact b1) b2 (by rw[dz];exact x1) x2,ax n2,S.dO.lB a1 a2 x1 x2,ax n1]
  exact x3
 by_cases z1:c=c1\/c=c2
 .by_cases z2:d=c1\/d=c2
  .refine key e he (λz=>?_) (λz=>?_)
   .rcases z1 with y1 | y1
    .rw[y1,z] at e2;exact e2 rfl
    .rcases z2 with y2 | y2
     .rw[z,<-y2,d1] at e2;exact e2 rfl
     .rw[y2,<-y1] at d2;exact d2 rfl
   .rcases z1 with y1 | y1
    .rcases z2 with y2 | y2
     .rw[y2,<-y1] at d2;exact d2 rfl
     .rw[z,<-y2,d1] at e2;exact e2 rfl
    .rw[y1,z] at e2;exact e2 rfl
  .exact key d hd (λz=>z2 (.inl z)) (λz=>z2 (.inr z))
 .exact key c hc (λz=>z1 (.inl z)) (λz=>z1 (.inr z))
def aaN(h1:0<h)(w1:0<w):oy (List.replicate h (gC "." w)) w:=by
 refine⟨(0,0),?_⟩
 rw[mI (by rw[tX];exact h1) w1]
 unfold bY
 rw[GI (c:=(0,0)) h1 w1]
 rfl
section
variable{P:Program}{w:World}{K:Frag}{mg:Str->Option Value}{base:Heap}{f:Addr}{fd:FuncData}
def OO(K:Frag):Sp:=λvs H Q _=>∃(a:Addr) (l:List Str) (w:Nat),vs=[.ref a]/\aq K H a (l.map V.str)/\bo l w/\∀H',af H H'->Q (.bl (yF l w)) H'
def B5:bg ["_law_sheet","_law_many","_law_cells"] ["_law_sheet"] (aV (top 59)):={}
theorem aaO(B:Bl mg)(F:aX K "_law_good" "_law_good" (top 59) f fd)(tf:Fn P w K mg base "_law_rows" 3 (yA K)):aO P w K mg base aR 4 f fd ["_law_sheet"] (OO K):=by
 refine F.bG B5 λaH A outer s H vs Q E hr h=>?_
 refine hide λG_ aF=>?_
 obtain⟨a,l,wd,rfl,hT,S,q⟩:=h
 refine aF.k ?_
 have h9:=S.nine
 have hw:=S.w9
 refine⟨_,(ar (aK 1 B5.nd az)
  (ar (cF (dn (aU tf hr (ab (pv 0) ag))) (bN 2 B5.nd)
  (aw (aK 1 B5.nd (aS d5 (pv 1) (bc d7 (by rfl) B.b7 b6 (ab (pv 2) ag))))))
  (aw (aP (nM lW (pv 1) (aS pD az (bc (Mg rfl) (by rfl) B.Nm Mf (ab (fW (js:=[]) (ns:=[]) (Au (pv 0)) rfl rfl rfl rfl (λ_ _ _ _=>gT) (λ_ _ _ _=>(aS pC (bc eU (by rfl) B.b7 b6 (ab (pv 0) ag)) (V9 (K:=K) (rr:=λ_=>Mr) rfl DV PySem.F.slot_str_count PySem.F.type_str_count Wm (pv 0) (ab dY ag))))) ag)))))))),?_⟩
 try dsimp only[bA]
 refine⟨_,rfl,a,l,wd,rfl,hT,S,λg xs H1 hg s1 hL hR=>⟨g,rfl,⟨_,ai.of hL⟩,?_⟩⟩
 have GR:=hR.length
 refine kT (xs:=xs) (λi O H2=>∃v2,O=[some (.ref a),some (.int (((((aG l wd).take i).map (·.length)).sum:Nat):Int)),v2]/\H2=H1) ⟨none,rfl,rfl⟩ (λi O H2 _ ⟨_,_,e⟩=>by rw[e];exact ai.of hL) ?_ ?_
 .intro i x O H2 hx aaP
  refine hide λG_ aZ=>?_
  obtain⟨v2,rfl,rfl⟩:=aaP
  obtain⟨r,eZ,p,ys,rfl,_,hp,hc⟩:=Paired.get hR hx
  refine aZ.k ?_
  refine⟨_,rfl,_,rfl,p,_,rfl,.inl (ai.of hp),_,_,rfl,rfl,?_⟩
  refine⟨some (.ref p),?_,rfl⟩
  rw[fL,eZ]
  simp only[Option.toList_some,dF,bI,wM,JY,dG,List.sum_nil,Nat.add_zero,Int.natCast_add,hc.length]
  rfl
 .rintro O H2 ⟨v2,rfl,rfl⟩
  rw[fq (by lia)]
  refine⟨_,rfl,_,rfl,a,rfl,⟨_,s1.tup hT⟩,?_⟩
  refine comp_map EZ (by rw[av];lia) (λ_ i y _=>y = .int ((oo l).getD i 0)) (λH3 s3=>(s1.trans s3).tup hT) (λ_ _ _ _ _ _ _ _ h=>h) ?_ ?_
  .intro D i z H3 Z hD hz s3 _ k1
   rw[bE] at hz
   cases e:l[i]? with
   |none=>rw[e] at hz;cases hz
   |some x=>
    rw[e] at hz
    cases hz
    have lx:=S.len x (bj e)
    refine⟨_,rfl,x,rfl,eG (by lia),_,rfl,rfl,_,_,rfl,rfl,_,_,rfl,rfl,k1 _ _ (af.cA _) ?_⟩
    have:(oo l)[i]? = some ((x.length:Int) - (Txt.count x "#":Int)):=by unfold oo;rw[bE,e];rfl
    rw[bW this]
  .intro D ys H3 hD bh s3 pr
   have e:=jN pr
   have el:(l.map V.str).length=(oo l).length:=by unfold oo;rw[av,av]
   rw[el,kf V.int] at e
   refine⟨D,oo l,rfl,ai.of (by rw[bh,e]),_,_,rfl,rfl,.inl ⟨by decide,by decide⟩,rfl,?_⟩
   have:=q H3 (s1.trans s3)
   unfold yF at this
   rw[ZW]
   exact this
def OP(K:Frag):Sp:=λvs H Q _=>∃(c:Int),vs=[.int c]/\∀p l w H',af H H'->H' p=some (.tup (l.map V.str))->oq l w->ic l w->kh l w->oy l w->l.length*w<=9->Q (.ref p) H'
def mS:bg ["_law_cell","_law_high","_law_wide","_law_sheet","_law_k","_law_spot","_law_other","_law_some"] ["_law_cell"] (aV (top 60)):={}
theorem aaQ(B:Bl mg)(F:aX K "_law_floor" "_law_floor" (top 60) f fd)(qh:Fn P w K mg base "_law_with" 1 (sP K))(aaR:Fn P w K mg base "_law_good" 4 (OO K)):aO P w K mg base aR 5 f fd ["_law_cell"] (OP K):=by
 refine F.W7 mS (λvs H Q E h=>?_) (λaH A outer s H vs Q E hr h=>?_)
 .obtain⟨c,rfl,_⟩:=h
  rfl
 .obtain⟨c,rfl,q⟩:=h
  refine⟨_,(W6 (W5 (W4 d6 (W3 (sC sD (sC sD (sC sD (sC sD (sC sD (sC sD (sC sD W2 rfl) rfl) rfl) rfl) rfl) rfl) rfl)) (aS fA (pv 0) az) (λ_ _=>rfl)) (jB rfl (dM (bN 1 mS.nd) (dM (bN 2 mS.nd) jA)))) (ar (aK 3 mS.nd (iZ xA (by rfl) B.sM se (ab (aS UM (de (ab (aS Wl dY (pv 2)) ag)) (pv 1)) ag (hs:=cJ rfl))))
   (ar (cF (gm (by rfl) B.gD (ab (aS fA (aS j7 (pv 0) az) az) ag)) (bN 4 mS.nd)
   (ar (aK 5 mS.nd (aS fA (aS j7 (aS j7 (pv 0) az) (aS d5 (pv 4) az)) (aS pD (pv 1) (pv 2))))
    (ar (aK 6 mS.nd (aS pC (aS pC (aS pD (pv 1) (pv 2)) az) (pv 5)))
    (ar (aK 7 mS.nd (aU qh hr (ab (pv 3) (ab (eS (ab (aS j7 (pv 5) (pv 2)) (ab (aS fA (pv 5) (pv 2)) ag))) (ab dY ag (hs:=cJ rfl)) (hs:=cJ rfl)) (hs:=cJ rfl)) (he:=cJ rfl) (hpl:=uM rfl)))
    (ar (aK 7 mS.nd (aU qh hr (ab (pv 7) (ab (eS (ab (aS j7 (pv 6) (pv 2)) (ab (aS fA (pv 6) (pv 2)) ag))) (ab dY ag (hs:=cJ rfl)) (hs:=cJ rfl)) (hs:=cJ rfl)) (he:=cJ rfl) (hpl:=uM rfl)))
    (aw (uH (bw (dS (aU aaR hr (ab (pv 7) ag)))
    (aw (aK 3 mS.nd (pv 7)))
    bC))))))))
   (aw (aP (pv 3)))))),?_⟩
  try dsimp only[bA]
  have s2:2<=sizeLine:=by decide
  refine⟨s2,λp0 h0=>⟨s2,λp1 h1=>⟨s2,λp2 h2=>⟨s2,λp3 h3=>⟨s2,λp4 h4=>⟨s2,λp5 h5=>⟨s2,λp6 h6=>⟨by show 7<=sizeLine;decide,λpo hpo=>?_⟩⟩⟩⟩⟩⟩⟩⟩
  have t0:=af.upd (o:=HO.tup [V.int 3,V.int 3]) h0
  have t1:=af.upd (o:=HO.tup [V.int 2,V.int 2]) h1
  have t2:=af.upd (o:=HO.tup [V.int 2,V.int 3]) h2
  have t3:=af.upd (o:=HO.tup [V.int 3,V.int 2]) h3
  have t4:=af.upd (o:=HO.tup [V.int 3,V.int 3]) h4
  have t5:=af.upd (o:=HO.tup [V.int 2,V.int 4]) h5
  have t6:=af.upd (o:=HO.tup [V.int 4,V.int 2]) h6
  have t7:=af.upd (o:=HO.lst [V.ref p0,V.ref p1,V.ref p2,V.ref p3,V.ref p4,V.ref p5,V.ref p6]) hpo
  have d0:=rj c (show(7:Int)≠0 by decide)
  have d1:=w6 c (show(0:Int)<7 by decide)
  have sA:=t0.trans (t1.trans (t2.trans (t3.trans (t4.trans (t5.trans (t6.trans t7))))))
  have g6:=t7 _ _ (ao (a:=p6) (o:=HO.tup [V.int 4,V.int 2]))
  have g5:=t7 _ _ (t6 _ _ (ao (a:=p5) (o:=HO.tup [V.int 2,V.int 4])))
  have g4:=t7 _ _ (t6 _ _ (t5 _ _ (ao (a:=p4) (o:=HO.tup [V.int 3,V.int 3]))))
  have g3:=t7 _ _ (t6 _ _ (t5 _ _ (t4 _ _ (ao (a:=p3) (o:=HO.tup [V.int 3,V.int 2])))))
  have g2:=t7 _ _ (t6 _ _ (t5 _ _ (t4 _ _ (t3 _ _ (ao (a:=p2) (o:=HO.tup [V.int 2,V.int 3]))))))
  have g1:=t7 _ _ (t6 _ _ (t5 _ _ (t4 _ _ (t3 _ _ (t2 _ _ (ao (a:=p1) (o:=HO.tup [V.int 2,V.int 2])))))))
  have g0:=t7 _ _ (t6 _ _ (t5 _ _ (t4 _ _ (t3 _ _ (t2 _ _ (t1 _ _ (ao (a:=p0) (o:=HO.tup [V.int 3,V.int 3]))))))))
  have gL:=sX t7
  revert sA g0 g1 g2 g3 g4 g5 g6 gL
  generalize upd _ po (HO.lst [V.ref p0,V.ref p1,V.ref p2,V.ref p3,V.ref p4,V.ref p5,V.ref p6])=HA
  intro sA g6 g5 g4 g3 g2 g1 g0 gL
  clear t0 t1 t2 t3 t4 t5 t6 t7
  refine hide λG_ aF=>?_
  obtain⟨pd,hh,ww,mf,qe,hd⟩:∃(pd:Addr) (hh ww:Nat),eT [V.ref p0,V.ref p1,V.ref p2,V.ref p3,V.ref p4,V.ref p5,V.ref p6] (c % 7)=some (.ref pd)/\HA pd=some (.tup [V.int hh,V.int ww])/\(2<=hh/\hh<=4/\2<=ww/\ww<=4/\hh*ww<=9):=by
   have e:c % 7=0\/c % 7=1\/c % 7=2\/c % 7=3\/c % 7=4\/c % 7=5\/c % 7=6:=by lia
   rcases e with e | e | e | e | e | e | e <;> rw[e]
   .exact⟨p0,3,3,rfl,g0,by decide⟩
   .exact⟨p1,2,2,rfl,g1,by decide⟩
   .exact⟨p2,2,3,rfl,g2,by decide⟩
   .exact⟨p3,3,2,rfl,g3,by decide⟩
   .exact⟨p4,3,3,rfl,g4,by decide⟩
   .exact⟨p5,2,4,rfl,g5,by decide⟩
   .exact⟨p6,4,2,rfl,g6,by decide⟩
  refine aF.k ?_
  refine⟨_,rfl,_,_,rfl,rfl,(by show(0:Int)<7;decide),po,_,_,.ref pd,rfl,rfl,ai.of gL,mf,pd,_,rfl,aq.of qe,rfl,_,_,rfl,_,_,rfl,rfl,?_⟩
  clear g0 g1 g2 g3 g4 g5 g6 gL mf
  have aaS:(".":Str).length=1:=by decide +kernel
  refine⟨_,rfl,_,_,rfl,rfl,by lia,by lia,by rw[aaS];decide,by show 1<=sizeLine;decide,λl1 mQ=>?_⟩
  rw[dQ]
  refine⟨_,rfl,l1,_,_,rfl,rfl,ao,by lia,by lia,eG (by rw[dQ];show 1*_<=_;lia),λl2 k8=>?_⟩
  rw[dQ,Oh]
  refine⟨l2,_,rfl,.inl ⟨ai.of ao,λtp htp=>?_⟩⟩
  have u1:=af.upd (o:=HO.lst [V.str (gC "." ww)]) mQ
  have u2:=af.upd (o:=HO.lst (List.replicate hh (V.str (gC "." ww)))) k8
  have u3:=af.upd (o:=HO.tup (List.replicate hh (V.str (gC "." ww)))) htp
  have sB:=sA.trans (u1.trans (u2.trans u3))
  have B6:=sX u3
  revert sB B6
  clear u1 u2 u3
  generalize upd _ tp (HO.tup (List.replicate hh (V.str (gC "." ww))))=HB
  intro sB B6
  rw[<-List.map_replicate] at B6
  have m0:=rj (c / 7) (show(3:Int)≠0 by decide)
  have m1:=w6 (c / 7) (show(0:Int)<3 by decide)
  refine⟨_,rfl,_,_,rfl,rfl,⟨by decide,by decide⟩,_,_,rfl,rfl,(by show(0:Int)<3;decide),_,rfl,by lia,by lia,?_⟩
  refine i5 (λi O H2=>∃p l v4 v5 v6 v7,O=[some (.int c),some (.int hh),some (.int ww),some (.ref p),v4,v5,v6,v7]/\af H H2/\H2 p=some (.tup (l.map V.str))/\oq l ww/\l.length=hh/\ic l ww/\kh l ww/\oy l ww)
   ⟨tp,_,none,none,none,none,rfl,sB,B6,Of (by lia) (by lia) (by lia) (by lia),by rw[tX],ON (Of (by lia) (by lia) (by lia) (by lia)).sh (ZZ hh (by simp;lia) ww (by simp;lia)),ZX,aaN (by lia) (by lia)⟩ ?_ ?_
  .intro i O H2 hi aaT
   refine hide λG_ aZ=>?_
   obtain⟨p,l,v4,v5,v6,v7,rfl,sm,hP,Fl,hl,Gd,Sy,Ne⟩:=aaT
   refine aZ.k ?_
   have hhw:0<hh*ww:=Nat.mul_pos (by lia) (by lia)
   have afR:hh*ww<=16:=by
    have:=Aa hd.2.1 hd.2.2.2.1
    lia
   have hn:((hh:Int)*(ww:Int))=((hh*ww:Nat):Int):=by simp
   have p1:(0:Int)<(i:Int)+1:=by lia
   have p2:(i:Int)+1<1073741824:=by lia
   have cm:Ax (hh:Int) (ww:Int) := .inl ⟨by lia,by lia⟩
   have r6:(0:Int)<(hh:Int)*(ww:Int):=by rw[hn];lia
   refine⟨_,rfl,_,_,rfl,rfl,⟨by decide,by decide⟩,_,rfl,_,_,rfl,rfl,_,_,rfl,rfl,⟨p1,p2⟩,_,rfl,_,rfl,_,_,rfl,rfl,cm,_,_,rfl,rfl,r6,?_⟩
   have z0:=rj (c / 21 / ((i:Int)+1)) (Int.ne_of_gt r6)
   have z1:=w6 (c / 21 / ((i:Int)+1)) r6
   dsimp only
   generalize c / 21 / ((i:Int)+1) % ((hh:Int)*(ww:Int))=z at z0 z1 ⊢
   obtain⟨sp,rfl⟩:=ud z0
   rw[hn] at z1
   have z1:sp<hh*ww:=Int.ofNat_lt.mp z1
   refine⟨_,rfl,_,rfl,_,_,rfl,rfl,cm,_,_,rfl,rfl,_,rfl,_,_,rfl,rfl,?_⟩
   have hot:(hh:Int)*(ww:Int) - 1 - (sp:Int)=((hh*ww - 1 - sp:Nat):Int):=by rw[hn];lia
   dsimp only
   rw[hot]
   have o1:hh*ww - 1 - sp<hh*ww:=by lia
   have ti:=ZY (h:=hh) (w:=ww) (sp:=sp) (by lia) z1
   generalize hh*ww - 1 - sp=ot at o1 ti ⊢
   have wp:0<ww:=by lia
   have dv:KJ (0:Int) (ww:Int):=⟨by lia,by lia⟩
   have a1:sp / ww<hh:=Ka (by rw[oU];exact z1)
   have b1:ot / ww<hh:=Ka (by rw[oU];exact o1)
   have a2:sp % ww<ww:=Nat.mod_lt _ wp
   have b2:ot % ww<ww:=Nat.mod_lt _ wp
   refine⟨_,rfl,_,rfl,_,rfl,_,_,rfl,rfl,dv,_,rfl,_,rfl,_,_,rfl,rfl,dv.1,s2,λq1 mP=>?_⟩
   have y1:=af.upd (o:=HO.tup [V.int ((sp:Int) / (ww:Int)),V.int ((sp:Int) % (ww:Int))]) mP
   refine⟨p,q1,l,ww,(sp / ww,sp % ww),35,by rw[<-pZ];rfl,y1.tup (aq.of hP),Fl.sh.dO,aq.of (by rw[ao];simp),by rw[hl];exact a1,a2,λt H3 _ s3 ht=>?_⟩
   have F1:=Fl.set (c:=(sp / ww,sp % ww)) (by rw[hl];exact a1) a2
   have mQ:(setC l (sp / ww,sp % ww) 35).length=hh:=by rw[dz,hl]
   have G8:kh (setC (setC l (sp / ww,sp % ww) 35) (ot / ww,ot % ww) 35) ww:=by
    have e:=Sy.set Fl.sh (c:=(sp / ww,sp % ww)) (by rw[hl];exact a1) a2
    rw[hl] at e
    rw[ti.1,ti.2]
    exact e
   have G9:oy (setC (setC l (sp / ww,sp % ww) 35) (ot / ww,ot % ww) 35) ww:=Ne.set Fl.sh Gd (by rw[hl];exact a1) a2 (by rw[hl];exact b1) b2
   generalize setC l (sp / ww,sp % ww) 35=l1 at ht F1 mQ G8 G9
   have fQ:=sm.trans (y1.trans s3)
   have hP3:=(y1.trans s3) _ _ hP
   clear y1 s3
   refine⟨_,rfl,_,rfl,_,rfl,_,_,rfl,rfl,dv,_,rfl,_,rfl,_,_,rfl,rfl,dv.1,s2,λq2 Hc=>?_⟩
   have y2:=af.upd (o:=HO.tup [V.int ((ot:Int) / (ww:Int)),V.int ((ot:Int) % (ww:Int))]) Hc
   refine⟨t,q2,l1,ww,(ot / ww,ot % ww),35,by rw[<-pZ];rfl,y2.tup (aq.of ht),F1.sh.dO,aq.of (by rw[ao];simp),by rw[mQ];exact b1,b2,λt2 H4 _ s4 gE=>?_⟩
   have F2:=F1.set (c:=(ot / ww,ot % ww)) (by rw[mQ];exact b1) b2
   have k8:(setC l1 (ot / ww,ot % ww) 35).length=hh:=by rw[dz,mQ]
   generalize setC l1 (ot / ww,ot % ww) 35=l2 at gE F2 k8 G8 G9
   have dB:=fQ.trans (y2.trans s4)
   have hP4:=(y2.trans s4) _ _ hP3
   clear y2 s4
   refine⟨λO H5=>∃p l,O=[some (.int c),some (.int hh),some (.int ww),some (.ref p),some (.int i),some (.int sp),some (.int ot),some (.ref t2)]/\af H H5/\H5 p=some (.tup (l.map V.str))/\oq l ww/\l.length=hh/\ic l ww/\kh l ww/\oy l ww,λO H5 ⟨p,l,e,h⟩=>⟨p,l,_,_,_,_,e,h⟩,?_⟩
   refine⟨_,rfl,t2,l2,ww,rfl,aq.of gE,F2.sh,λH5 s5=>⟨_,rfl,?_⟩⟩
   cases lH:yF l2 ww with
   |true=>exact bf ⟨_,rfl,t2,l2,rfl,dB.trans s5,s5 _ _ gE,F2,k8,ON F2.sh lH,G8,G9⟩
   |false=>exact aL ⟨p,l,rfl,dB.trans s5,s5 _ _ hP4,Fl,hl,Gd,Sy,Ne⟩
  .intro O H2 aaU
   refine hide λG_ bJ=>?_
   obtain⟨p,l,v4,v5,v6,v7,rfl,sm,hP,Fl,hl,Gd,Sy,Ne⟩:=aaU
   refine bJ.k ?_
   exact⟨_,rfl,q p l ww H2 sm hP Fl Gd Sy Ne (by rw[hl];exact hd.2.2.2.2)⟩
end
def Hd{l:List α}(h:l.Nodup){a:α}(hi:l[i]? = some a)(hj:l[j]? = some a):i=j:=by
 obtain⟨yQ,ei⟩:=cg.mp hi
 obtain⟨yR,ej⟩:=cg.mp hj
 rcases Nat.lt_trichotomy i j with z | z | z
 .exact absurd (ei.trans ej.symm) (Kc.mp h i j yQ yR z)
 .exact z
 .exact absurd (ej.trans ei.symm) (Kc.mp h j i yR yQ z)
noncomputable def cZ(R:List (List C2))(c:C2):List (Nat×Nat):=(List.range R.length).flatMap λi=>((List.range (ah R i).length).filter λk=>decide ((ah R i)[k]? = some c)).map λk=>(i,k)
def mT{k:Nat}(h:(ah R i)[k]? = some c):i<R.length/\k<(ah R i).length:=by
 refine⟨?_,(cg.mp h).1⟩
 by_cases z:i<R.length
 .exact z
 .have e:ah R i=[]:=by
   unfold ah
   rw[bT,cW (JR z)]
   rfl
  rw[e] at h
  cases h
def qt:p∈cZ R c↔(ah R p.1)[p.2]? = some c:=by
 unfold cZ
 rw[Ad]
 constructor
 .rintro⟨i,_,h⟩
  obtain⟨k,hk,rfl⟩:=bM.mp h
  exact fK (cy.mp hk).2
 .intro h
  have:=mT h
  exact⟨p.1,ip.mpr this.1,bM.mpr ⟨p.2,cy.mpr ⟨ip.mpr this.2,aJ h⟩,rfl⟩⟩
def He(R:List (List C2))(c:C2):(cZ R c).Nodup:=by
 unfold cZ List.Nodup
 rw[List.pairwise_flatMap]
 refine⟨λi _=>?_,?_⟩
 .exact List.Pairwise.map _ (λa b h z=>h (fh Prod.snd z)) (List.nodup_range.filter _)
 .refine List.Pairwise.imp (λ{a b} h x hx y hy z=>?_) List.nodup_range
  obtain⟨_,_,rfl⟩:=bM.mp hx
  obtain⟨_,_,rfl⟩:=bM.mp hy
  exact h (fh Prod.fst z)
structure GoodR(R:List (List C2)):Prop where
 nd:∀i,(ah R i).Nodup
 two:∀(i k:Nat) (c:C2),(ah R i)[k]? = some c->∃(j a:Nat),j≠i/\(ah R j)[a]? = some c/\∀(i' k':Nat),(ah R i')[k']? = some c->(i'=i/\k'=k)\/(i'=j/\k'=a)
def OQ{l:List α}{x:α}(nd:l.Nodup)(m:x∈l)(u:∀y∈l,y=x):l=[x]:=by
 cases l with
 |nil=>cases m
 |cons a r=>
  have ea:=u a bt
  subst ea
  cases r with
  |nil=>rfl
  |cons b s=>
   have eb:=u b (bX _ bt)
   exact absurd (by rw[eb];exact bt) (gM.mp nd).1
noncomputable def vw(R:List (List C2))(pl:Nat)(c:C2):List (Nat×Nat):=(cZ R c).filter λp=>!decide (p.1=pl)
noncomputable def ki(R:List (List C2))(pl:Nat):List (Nat×Nat):=(ah R pl).flatMap (vw R pl)
structure Hf(R:List (List C2))(pl:Nat)(c:C2)(p:Nat×Nat):Prop where
 ne:p.1≠pl
 lt:p.1<R.length
 ix:(ah R p.1)[p.2]? = some c
 un:∀(i' k':Nat),(ah R i')[k']? = some c->i'≠pl->i'=p.1/\k'=p.2
def B7(G:GoodR R){k:Nat}(h:(ah R pl)[k]? = some c):∃p,vw R pl c=[p]/\Hf R pl c p:=by
 obtain⟨j,a,hj,Hg,hu⟩:=G.two pl k c h
 have OR:∀(i' k':Nat),(ah R i')[k']? = some c->i'≠pl->i'=j/\k'=a:=λi' k' e n=>by
  rcases hu i' k' e with z | z
  .exact absurd z.1 n
  .exact z
 refine⟨(j,a),OQ ((He R c).filter _) (cy.mpr ⟨qt.mpr Hg,by simp[hj]⟩) (λy hy=>?_),hj,(mT Hg).1,Hg,OR⟩
 obtain⟨h1,h2⟩:=cy.mp hy
 have:=OR y.1 y.2 (qt.mp h1) (by simpa using h2)
 exact o9 this.1 this.2
theorem OS{α β:Type}{f:α->List β}{g:α->β}:∀{l:List α},(∀x∈l,f x=[g x])->l.flatMap f=l.map g
 |[],_=>rfl
 |a::r,h=>by
  rw[List.flatMap_cons,bI,h a bt,OS λx m=>h x (bX _ m)]
  rfl
def OT(G:GoodR R)(pl:Nat):ki R pl=(ah R pl).map λc=>(vw R pl c).headD (0,0):=by
 unfold ki
 refine OS λc mc=>?_
 obtain⟨k,hk⟩:=eQ mc
 obtain⟨p,e,_⟩:=B7 G hk
 rw[e]
 rfl
def aaV(G:GoodR R)(pl:Nat):(ki R pl).length=(ah R pl).length:=by rw[OT G,av]
def aaW(G:GoodR R){k:Nat}(h:(ah R pl)[k]? = some c):∃p,(ki R pl)[k]? = some p/\Hf R pl c p:=by
 obtain⟨p,e,hp⟩:=B7 G h
 refine⟨p,?_,hp⟩
 rw[OT G,bE,h,iR,e]
 rfl
def jR(m:List Str)(r:List C2):(au m r).cps.toList=r.map (sg m):=by simp[au]
def iN{k:Nat}(h:r[k]? = some c):(au m r).cps.toList[k]? = some (sg m c):=by rw[jR,bE,h];rfl
theorem aaX(S:eB m w)(nd:r.Nodup)(bD:∀c∈r,c.1<m.length/\c.2<w)(ha:r[a]? = some c)(ch:Nat):au (setC m c ch) r=bP (au m r) a ch:=by
 have hc:=bD c (bj ha)
 have BF:a<(au m r).length:=by rw[eD];exact(cg.mp ha).1
 apply mE
 apply ju
 intro k
 by_cases hk:k<r.length
 .have ek:r[k]? = some r[k]:=bb hk
  have gV:=bD r[k] (nF hk)
  rw[FO BF (by rw[eD];exact hk),iN ek,iN ek,S.lB hc.1 hc.2 gV.1 gV.2]
  by_cases e:k=a
  .subst e
   rw[ek] at ha
   rw[aA (cQ ha),aA rfl]
  .rw[ax e,ax λz=>e (Hd nd (by rw[ek,z]) ha)]
 .rw[cW (by rw[jR,av];lia),cW (by rw[b9,yi BF,eD];lia)]
def OU(S:eB m w)(bD:∀c∈r,c.1<m.length/\c.2<w)(h1:c.1<m.length)(h2:c.2<w)(hc:c∉r\/sg m c=ch):au (setC m c ch) r=au m r:=by
 apply mE
 rw[jR,jR]
 refine Ki λd md=>?_
 have hd:=bD d md
 rw[S.lB h1 h2 hd.1 hd.2]
 by_cases e:d=c
 .rw[aA e]
  rcases hc with z | z
  .exact absurd (e ▸ md) z
  .rw[e,z]
 .rw[ax e]
theorem lI:∀(m:List Str) (cs:List C2) (xs:List Nat),(putL m cs xs).length=m.length
 |m,[],_=>by simp[putL]
 |m,c::cs,[]=>by simp[putL]
 |m,c::cs,x::xs=>by rw[putL,lI,dz]
theorem Hh{w:Nat}:∀{m:List Str}(_:eB m w) (cs:List C2) (xs:List Nat),(∀c∈cs,c.1<m.length/\c.2<w)->eB (putL m cs xs) w
 |m,S,[],_,_=>by simpa[putL] using S
 |m,S,c::cs,[],_=>by simpa[putL] using S
 |m,S,c::cs,x::xs,h=>by
  rw[putL]
  have hc:=h c bt
  exact Hh (S.set hc.1 hc.2) cs xs λd md=>by rw[dz];exact h d (bX _ md)
theorem OV{w:Nat}:∀{m:List Str}(_:bo m w) (cs:List C2) (xs:List Nat),(∀c∈cs,c.1<m.length/\c.2<w)->(∀x∈xs,pV x)->bo (putL m cs xs) w
 |m,S,[],_,_,_=>by simpa[putL] using S
 |m,S,c::cs,[],_,_=>by simpa[putL] using S
 |m,S,c::cs,x::xs,h,h2=>by
  rw[putL]
  have hc:=h c bt
  exact OV (Bu S hc.1 hc.2 (h2 x bt)) cs xs (λd md=>by rw[dz];exact h d (bX _ md)) λy my=>h2 y (bX _ my)
theorem vx{w:Nat}:∀{m:List Str}(_:eB m w) (cs:List C2) (xs:List Nat),(∀c∈cs,c.1<m.length/\c.2<w)->∀{d:C2},d.1<m.length->d.2<w->d∉cs->sg (putL m cs xs) d=sg m d
 |m,S,[],_,_,d,_,_,_=>by simp[putL]
 |m,S,c::cs,[],_,d,_,_,_=>by simp[putL]
 |m,S,c::cs,x::xs,h,d,d1,d2,hd=>by
  have hc:=h c bt
  rw[putL,vx (S.set hc.1 hc.2) cs xs (λe me=>by rw[dz];exact h e (bX _ me)) (by rw[dz];exact d1) d2 (λz=>hd (bX _ z)),
   S.lB hc.1 hc.2 d1 d2,ax λz=>hd (by rw[z];exact bt)]
theorem yS{w:Nat}:∀{m:List Str}(_:eB m w) (cs:List C2) (xs:List Nat),(∀c∈cs,c.1<m.length/\c.2<w)->cs.Nodup->∀{k:Nat}{c:C2}{x:Nat},cs[k]? = some c->xs[k]? = some x->sg (putL m cs xs) c=x
 |m,S,[],_,_,_,k,c,x,hc,_=>by cases hc
 |m,S,c::cs,[],_,_,k,_,x,_,hx=>by cases hx
 |m,S,c::cs,y::xs,h,nd,k,d,x,hd,hx=>by
  have hc:=h c bt
  have h':∀e∈cs,e.1<(setC m c y).length/\e.2<w:=λe me=>by rw[dz];exact h e (bX _ me)
  rw[putL]
  cases k with
  |zero=>
   have e1:c=d:=by simpa using hd
   have e2:y=x:=by simpa using hx
   subst e1 e2
   rw[vx (S.set hc.1 hc.2) cs xs h' (by rw[dz];exact hc.1) hc.2 (gM.mp nd).1,S.lB hc.1 hc.2 hc.1 hc.2,aA rfl]
  |succ k=>exact yS (S.set hc.1 hc.2) cs xs h' (gM.mp nd).2 (by simpa using hd) (by simpa using hx)
theorem aaY(S:eB m w)(bD:∀c∈r,c.1<m.length/\c.2<w)(nd:r.Nodup)(hl:x.length=r.length):au (putL m r x.cps.toList) r=x:=by
 have hx:=b9 x
 apply mE
 apply ju
 intro k
 by_cases hk:k<r.length
 .have ek:r[k]? = some r[k]:=bb hk
  have ex:x.cps.toList[k]? = some x.cps.toList[k]:=bb (by lia)
  rw[iN ek,yS S r x.cps.toList bD nd ek ex,ex]
 .rw[cW (by rw[jR,av];lia),cW (by lia)]
def gc{t:Str}:bK x t=true↔x.length=t.length/\∀i,i<x.length->t.cps.toList.getD i 0=46\/t.cps.toList.getD i 0=x.cps.toList.getD i 0:=by
 unfold bK
 rw[eP,lR,J2]
 refine and_congr_right λ_=>⟨λh i hi=>?_,λh i hi=>?_⟩
 .have:=h i (ip.mpr hi)
  unfold kg at this
  simpa using this
 .have:=h i (ip.mp hi)
  unfold kg
  simpa using this
def B8{k:Nat}(h:j<x.length)(hk:k<x.length):(bP x j ch).cps.toList.getD k 0=if k=j then ch else x.cps.toList.getD k 0:=by
 rw[bT,FO h hk,bT]
 by_cases e:k=j
 .rw[aA e,aA e]
  rfl
 .rw[ax e,ax e]
theorem aaZ{t:Str}(ha:a<t.length)(cO:t.cps.toList.getD a 0=46)(hc:ch≠46):bK x (bP t a ch)=true↔bK x t=true/\x.cps.toList.getD a 0=ch:=by
 rw[gc,gc,yi ha]
 constructor
 .rintro⟨hl,h⟩
  have ea:=h a (by lia)
  rw[B8 ha ha,aA rfl] at ea
  refine⟨⟨hl,λi hi=>?_⟩,?_⟩
  .have:=h i hi
   rw[B8 ha (by lia)] at this
   by_cases e:i=a
   .rw[e];exact .inl cO
   .rw[ax e] at this;exact this
  .rcases ea with z | z
   .exact absurd z hc
   .exact z.symm
 .rintro⟨⟨hl,h⟩,e⟩
  refine⟨hl,λi hi=>?_⟩
  rw[B8 ha (by lia)]
  by_cases ei:i=a
  .rw[aA ei,ei];exact .inr e.symm
  .rw[ax ei];exact h i hi
theorem yT{t:Str}(h:bK x t=true)(hd:46∉t.cps.toList):x=t:=by
 obtain⟨hl,h⟩:=gc.mp h
 have hx:=b9 x
 have ht:=b9 t
 apply mE
 apply ju
 intro k
 by_cases hk:k<x.length
 .have:=h k hk
  rw[bT,bT,bb (by lia),bb (by lia),oV,oV] at this
  rw[bb (by lia),bb (by lia)]
  rcases this with z | z
  .exact absurd (by rw[<-z];exact nF _) hd
  .rw[z]
 .rw[cW (by lia),cW (by lia)]
def aa0(t:Str):bK t t=true:=gc.mpr ⟨rfl,λ_ _=>.inr rfl⟩
structure ie(ks:List Str)(wf:Str->Int)(t:Str)(ws:List Str):Prop where
 nd:ws.Nodup
 mem:∀x,x∈ws↔x∈ks/\bK x t=true
 up:ws.Pairwise λa b=>wf b<=wf a
def ie.narrow{t:Str}(F:ie ks wf t ws)(ha:a<t.length)(cO:t.cps.toList.getD a 0=46)(hc:ch≠46):ie ks wf (bP t a ch) (ws.filter λx=>decide (x.cps.toList.getD a 0=ch)):=by
 refine⟨F.nd.filter _,λx=>?_,F.up.filter _⟩
 rw[cy,F.mem,aaZ ha cO hc,J2,and_assoc]
def ie.one(m:x∈ks)(hd:46∉x.cps.toList):ie ks wf x [x]:=by
 refine⟨gM.mpr ⟨fm,iT⟩,λy=>?_,List.pairwise_singleton _ _⟩
 rw[cj]
 constructor
 .rintro rfl
  exact⟨m,aa0 y⟩
 .rintro⟨_,h⟩
  exact yT h hd
def OW(hl:m.length=l.length)(h:∀c:C2,c.1<l.length->c.2<w->bY m c=bY l c):aG m w=aG l w:=by
 have e:bz m w=bz l w:=by
  funext c
  unfold bz
  rw[hl]
  by_cases h1:c.1<l.length
  .by_cases h2:c.2<w
   .rw[h c h1 h2]
   .rw[aN h2,iq,iq]
  .rw[aN h1,iq,iq]
 unfold aG lD jd
 rw[e,hl]
structure cq(l:List Str)(w:Nat)(R:List (List C2)):Prop where
 sh:bo l w
 eq:aG l w=R
 good:GoodR R
 all:∀c:C2,c.1<l.length->c.2<w->bY l c=true->∃i k:Nat,(ah R i)[k]? = some c
def qu(h:i<R.length):ah R i∈R:=by simp_all [C2,ah]
def cq.oz(F:cq l w R){k:Nat}(h:(ah R i)[k]? = some c):c.1<l.length/\c.2<w/\bY l c=true:=by
 have:=qu (mT h).1
 rw[<-F.eq] at this
 have hc:=bj h
 rw[<-F.eq] at hc
 exact(jf F.sh this).2.2 c hc
def cq.iO(F:cq l w R)(i:Nat):∀c∈ah R i,c.1<l.length/\c.2<w:=λc m=>by
 obtain⟨k,hk⟩:=eQ m
 have:=F.oz hk
 exact⟨this.1,this.2.1⟩
def cq.len(F:cq l w R)(hi:i<R.length):2<=(ah R i).length/\(ah R i).length<=9:=by
 have:=qu hi
 rw[<-F.eq] at this
 have:=jf F.sh this
 rw[F.eq] at this
 exact⟨this.1,this.2.1⟩
def jj(x:Str):Prop := ∀ch∈x.cps.toList,97<=ch/\ch<=122
theorem aa1(h:cK x=true):jj x:=λch m=>by
 unfold cK at h
 simp only[eP] at h
 have:=h.2.2
 unfold iK at this
 have:=fK (lR.mp this ch m)
 rw[Bs] at this
 obtain⟨k,hk,e⟩:=bM.mp this
 have:=ip.mp hk
 lia
theorem jj.aa2(h:jj x):46∉x.cps.toList:=λm=>by have:=h 46 m;lia
theorem yU(F:cq m w R)(pl:Nat)(hl:x.length=(ah R pl).length)(h1:c.1<m.length)(h2:c.2<w) :
  (∃(k ch:Nat),(ah R pl)[k]? = some c/\x.cps.toList[k]? = some ch/\sg (putL m (ah R pl) x.cps.toList) c=ch)\/(c∉ah R pl/\sg (putL m (ah R pl) x.cps.toList) c=sg m c):=by
 by_cases hc:c∈ah R pl
 .refine Or.inl ?_
  obtain⟨k,hk⟩:=eQ hc
  have i3:=(mT hk).2
  have hx:=b9 x
  have ex:x.cps.toList[k]? = some x.cps.toList[k]:=bb (by lia)
  exact⟨k,_,hk,ex,yS F.sh.dO _ _ (F.iO pl) (F.good.nd pl) hk ex⟩
 .exact .inr ⟨hc,vx F.sh.dO _ _ (F.iO pl) h1 h2 hc⟩
theorem cq.OX(F:cq m w R)(pl:Nat)(hx:jj x)(hl:x.length=(ah R pl).length)(h1:c.1<m.length)(h2:c.2<w):bY (putL m (ah R pl) x.cps.toList) c=bY m c:=by
 rcases yU F pl hl h1 h2 with ⟨k,ch,hk,hch,e⟩ | ⟨_,e⟩
 .rw[(F.oz hk).2.2]
  unfold bY
  rw[e]
  have:=hx ch (bj hch)
  rw[aN (by lia)]
  rfl
 .unfold bY
  rw[e]
def cq.put(F:cq m w R)(pl:Nat)(hx:jj x)(hl:x.length=(ah R pl).length):cq (putL m (ah R pl) x.cps.toList) w R:=by
 have hlen:=lI m (ah R pl) x.cps.toList
 refine⟨OV F.sh _ _ (F.iO pl) (λch mc=>.inr (.inr (hx ch mc))),?_,F.good,λc h1 h2 ho=>?_⟩
 .rw[OW hlen λc h1 h2=>F.OX pl hx hl h1 h2]
  exact F.eq
 .rw[hlen] at h1
  rw[F.OX pl hx hl h1 h2] at ho
  exact F.all c h1 h2 ho
structure mU(R:List (List C2))(m:List Str)(pl:Nat)(x:Str)(k:Nat)(ps:List Str):Prop where
 len:ps.length=R.length
 own:ps[pl]? = some (au m (ah R pl))
 jk:∀i,i<R.length->i≠pl->ps[i]? = some (au (putL m ((ah R pl).take k) (x.cps.toList.take k)) (ah R i))
def kj(R:List (List C2))(f:List C2->β)(h:i<R.length):(R.map f)[i]? = some (f (ah R i)):=by simp_all [C2,ah]
def mU.zero(hpl:pl<R.length):mU R m pl x 0 (R.map (au m)):=
 ⟨av ..,kj R _ hpl,λi hi _=>by rw[rb,rb,kj R _ hi];rfl⟩
theorem mU.step{k:Nat}(F:cq m w R)(cM:bK x (au m (ah R pl))=true)(A:mU R m pl x k ps)(hc:(ah R pl)[k]? = some c)(hch:x.cps.toList[k]? = some ch)(hp:Hf R pl c p) :
  ∃b,ps[p.1]? = some b/\b.cps.toList[p.2]? = some (sg m c)/\p.2<b.length/\b.length<=9/\(sg m c=46->mU R m pl x (k+1) (ps.set p.1 (bP b p.2 ch)))/\(sg m c≠46->mU R m pl x (k+1) ps):=by
 have gq:∀d∈(ah R pl).take k,d.1<m.length/\d.2<w:=λd md=>F.iO pl d (Ae md)
 have Gk:=Hh F.sh.dO ((ah R pl).take k) (x.cps.toList.take k) gq
 have n0:=lI m ((ah R pl).take k) (x.cps.toList.take k)
 have eY:=F.oz hc
 have hcn:c∉(ah R pl).take k:=λz=>by
  obtain⟨j,hj⟩:=eQ z
  have hjk:j<k:=by
   have:=(cg.mp hj).1
   rw[kL] at this
   lia
  rw[DI hjk] at hj
  have:=Hd (F.good.nd pl) hj hc
  lia
 have OY:sg (putL m ((ah R pl).take k) (x.cps.toList.take k)) c=sg m c:=vx F.sh.dO _ _ gq eY.1 eY.2.1 hcn
 have OZ:putL m ((ah R pl).take (k+1)) (x.cps.toList.take (k+1))=setC (putL m ((ah R pl).take k) (x.cps.toList.take k)) c ch:=sV m _ _ k c ch hc hch
 have mj:c.1<(putL m ((ah R pl).take k) (x.cps.toList.take k)).length:=by rw[n0];exact eY.1
 have vy:∀i,∀d∈ah R i,d.1<(putL m ((ah R pl).take k) (x.cps.toList.take k)).length/\d.2<w:=λi d md=>by rw[n0];exact F.iO i d md
 have i9:=F.len hp.lt
 refine⟨_,A.jk p.1 hp.lt hp.ne,?_,?_,?_,λcO=>⟨by rw[JP];exact A.len,?_,λi hi bx=>?_⟩,λcO=>⟨A.len,A.own,λi hi bx=>?_⟩⟩
 .rw[iN hp.ix,OY]
 .rw[eD];exact(mT hp.ix).2
 .rw[eD];exact i9.2
 .rw[zP hp.ne];exact A.own
 .rw[OZ]
  by_cases e:i=p.1
  .rw[e,wF (by rw[A.len];exact hp.lt),aaX Gk (F.good.nd p.1) (vy p.1) hp.ix]
  .rw[zP (br e),A.jk i hi bx,OU Gk (vy i) mj eY.2.1 (.inl λz=>?_)]
   obtain⟨j,hj⟩:=eQ z
   exact e (hp.un i j hj bx).1
 .have ech:sg m c=ch:=by
   obtain⟨hl,h⟩:=gc.mp cM
   have hk:k<x.length:=by rw[<-b9];exact(cg.mp hch).1
   have:=h k hk
   rw[bW (iN hc),bW hch] at this
   rcases this with z | z
   .exact absurd z cO
   .exact z
  rw[OZ,OU Gk (vy i) mj eY.2.1 (.inr (OY.trans ech))]
  exact A.jk i hi bx
theorem mU.done(F:cq m w R)(A:mU R m pl x (ah R pl).length ps)(hl:x.length=(ah R pl).length)(hpl:pl<R.length):ps.set pl x=R.map (au (putL m (ah R pl) x.cps.toList)):=by
 have hx:=b9 x
 apply ju
 intro i
 by_cases hi:i<R.length
 .rw[kj R _ hi]
  by_cases e:i=pl
  .rw[e,wF (by rw[A.len];exact hpl),aaY F.sh.dO (F.iO pl) (F.good.nd pl) hl]
  .rw[zP (br e),A.jk i hi e,fq (aW _),fq (by lia)]
 .rw[cW (by rw[JP,A.len];lia),cW (by rw[av];lia)]
theorem Hj(S:eB l w)(T:eB m w)(hl:l.length=m.length)(h:∀c:C2,c.1<l.length->c.2<w->sg l c=sg m c):l=m:=by
 apply ju
 intro i
 by_cases hi:i<l.length
 .obtain⟨x,hx,_,_,lx,yH⟩:=S.row hi
  obtain⟨y,hy,_,_,ly,Hk⟩:=T.row (i:=i) (by lia)
  rw[hx,hy]
  congr 1
  apply mE
  apply ju
  intro j
  by_cases hj:j<w
  .rw[yH j hj,Hk j hj,h (i,j) hi hj]
  .rw[cW (by lia),cW (by lia)]
 .rw[cW (by lia),cW (by lia)]
noncomputable def kl(l:List Str)(R:List (List C2))(m:List Str):Nat->List Str
 |0=>l
 |n+1=>putL (kl l R m n) (ah R n) (au m (ah R n)).cps.toList
theorem qv(l:List Str)(R:List (List C2))(m:List Str):∀n,(kl l R m n).length=l.length
 |0=>rfl
 |n+1=>by rw[kl,lI,qv l R m n]
theorem vz{l m:List Str}{w:Nat}{R:List (List C2)}(F:cq l w R):∀n,eB (kl l R m n) w
 |0=>F.sh.dO
 |n+1=>by
  rw[kl]
  exact Hh (vz F n) _ _ λd md=>by rw[qv];exact F.iO n d md
theorem σ0{l m:List Str}{w:Nat}{R:List (List C2)}(F:cq l w R){c:C2}(h1:c.1<l.length)(h2:c.2<w):∀n,((∃i,i<n/\c∈ah R i)->sg (kl l R m n) c=sg m c)/\((∀i,i<n->c∉ah R i)->sg (kl l R m n) c=sg l c)
 |0=>⟨λ⟨i,hi,_⟩=>absurd hi (iu _),λ_=>rfl⟩
 |n+1=>by
  have ih:=σ0 (m:=m) F h1 h2 n
  have hc:∀d∈ah R n,d.1<(kl l R m n).length/\d.2<w:=λd md=>by rw[qv];exact F.iO n d md
  rw[kl]
  refine⟨λ⟨i,hi,hm⟩=>?_,λh=>?_⟩
  .by_cases z:c∈ah R n
   .obtain⟨k,hk⟩:=eQ z
    exact yS (vz F n) _ _ hc (F.good.nd n) hk (iN hk)
   .rw[vx (vz F n) _ _ hc (by rw[qv];exact h1) h2 z]
    refine ih.1 ⟨i,?_,hm⟩
    rcases wZ.mp hi with y | y
    .exact y
    .exact absurd (y ▸ hm) z
  .rw[vx (vz F n) _ _ hc (by rw[qv];exact h1) h2 (h n (qS _))]
   exact ih.2 λi hi=>h i (nB hi)
def B9(h:¬bY l c=true):sg l c=35:=by
 unfold bY at h
 simpa using h
def aa3(F:cq l w R)(M:cq m w R)(hl:m.length=l.length):kl l R m R.length=m:=by
 refine Hj (vz F _) M.sh.dO (by rw[qv,hl]) λc h1 h2=>?_
 rw[qv] at h1
 have s:=σ0 (m:=m) F h1 h2 R.length
 by_cases ho:bY l c=true
 .obtain⟨i,k,hk⟩:=F.all c h1 h2 ho
  exact s.1 ⟨i,(mT hk).1,bj hk⟩
 .have no:∀i,i<R.length->c∉ah R i:=λi _ z=>by
   obtain⟨k,hk⟩:=eQ z
   exact ho (F.oz hk).2.2
  have hm:¬bY m c=true:=λz=>by
   obtain⟨i,k,hk⟩:=M.all c (by rw[hl];exact h1) h2 z
   exact no i (mT hk).1 (bj hk)
  rw[s.2 no,B9 ho,B9 hm]
structure cu(s m:List Str)(w:Nat):Prop where
 sh:bo s w
 ln:s.length=m.length
 cl:∀c:C2,c.1<m.length->c.2<w->(sg m c≠46->sg s c=sg m c)/\(sg m c=46->sg s c≠35)
def cu.refl(S:bo m w):cu m m w:=⟨S,rfl,λc _ _=>⟨λ_=>rfl,λh=>by rw[h];decide⟩⟩
def aa4{w:Nat}{k:Nat}(cM:bK x (au m (ah R pl))=true)(hc:(ah R pl)[k]? = some c)(hch:x.cps.toList[k]? = some ch):sg m c=46\/sg m c=ch:=by
 obtain⟨hl,h⟩:=gc.mp cM
 have hk:k<x.length:=by rw[<-b9];exact(cg.mp hch).1
 have:=h k hk
 rw[bW (iN hc),bW hch] at this
 exact this
theorem cu.O1(F:cq m w R)(hx:jj x)(cM:bK x (au m (ah R pl))=true)(A:cu s (putL m (ah R pl) x.cps.toList) w):cu s m w:=by
 have hl:x.length=(ah R pl).length:=by rw[(gc.mp cM).1,eD]
 have hlen:=lI m (ah R pl) x.cps.toList
 refine⟨A.sh,by rw[A.ln,hlen],λc h1 h2=>?_⟩
 have a:=A.cl c (by rw[hlen];exact h1) h2
 rcases yU F pl hl h1 h2 with ⟨k,ch,hk,hch,e⟩ | ⟨_,e⟩
 .have hb:=hx ch (bj hch)
  rw[e] at a
  have es:=a.1 (by lia)
  rcases aa4 (w:=w) cM hk hch with z | z
  .exact⟨λy=>absurd z y,λ_=>by lia⟩
  .exact⟨λ_=>by lia,λy=>by lia⟩
 .rw[e] at a
  exact a
theorem cu.text(F:cq m w R)(hx:jj x)(hl:x.length=(ah R pl).length)(A:cu s (putL m (ah R pl) x.cps.toList) w):au s (ah R pl)=x:=by
 have eC:=b9 x
 have hlen:=lI m (ah R pl) x.cps.toList
 apply mE
 apply ju
 intro k
 by_cases hk:k<(ah R pl).length
 .have ek:(ah R pl)[k]? = some (ah R pl)[k]:=bb hk
  have ex:x.cps.toList[k]? = some x.cps.toList[k]:=bb (by lia)
  have hb:=F.oz ek
  have a:=A.cl _ (by rw[hlen];exact hb.1) hb.2.1
  have e:=yS F.sh.dO _ _ (F.iO pl) (F.good.nd pl) ek ex
  rw[e] at a
  have:=hx _ (bj ex)
  rw[iN ek,ex,a.1 (by lia)]
 .rw[cW (by rw[jR,av];lia),cW (by lia)]
theorem σ2{α:Type}{p q:α->Bool}:∀{l:List α},(∀x∈l,p x=true->q x=true)->(l.filter p).length<=(l.filter q).length/\((∃x∈l,q x=true/\p x=false)->(l.filter p).length<(l.filter q).length)
 |[],_=>⟨aW _,λ⟨_,m,_⟩=>by cases m⟩
 |a::r,h=>by
  have ih:=σ2 (l:=r) λx m=>h x (bX _ m)
  have ha:=h a bt
  rw[dw,dw]
  cases hp:p a with
  |true=>
   rw[ha hp]
   refine⟨lS ih.1,λ⟨x,m,hq,hx⟩=>?_⟩
   rcases cf.mp m with z | z
   .rw[z,hp] at hx;cases hx
   .exact Nat.succ_lt_succ (ih.2 ⟨x,z,hq,hx⟩)
  |false=>
   cases hq:q a with
   |true=>exact⟨Nat.le_succ_of_le ih.1,λ_=>Nat.lt_succ_of_le ih.1⟩
   |false=>
    refine⟨ih.1,λ⟨x,m,jC,hx⟩=>?_⟩
    rcases cf.mp m with z | z
    .rw[z,hq] at jC;cases jC
    .exact ih.2 ⟨x,z,jC,hx⟩
theorem σ3(F:cq m w R)(hx:jj x)(cM:bK x (au m (ah R pl))=true)(hd:46∈(au m (ah R pl)).cps.toList):(fN (putL m (ah R pl) x.cps.toList) w).length<(fN m w).length:=by
 have hl:x.length=(ah R pl).length:=by rw[(gc.mp cM).1,eD]
 unfold fN
 rw[lI]
 have key:∀c∈cells m.length w,Bt (putL m (ah R pl) x.cps.toList) c=true->Bt m c=true/\c∉ah R pl:=λc mc h=>by
  have hb:=sI mc
  unfold Bt at h ⊢
  have h:=fK h
  rcases yU F pl hl hb.1 hb.2 with ⟨k,ch,hk,hch,e⟩ | ⟨hn,e⟩
  .have:=hx ch (bj hch)
   rw[e] at h
   lia
  .exact⟨aJ (e.symm.trans h),hn⟩
 refine(σ2 λc mc h=>(key c mc h).1).2 ?_
 rw[jR] at hd
 obtain⟨c,mc,ec⟩:=bM.mp hd
 have hb:=F.iO pl c mc
 refine⟨c,OE hb.1 hb.2,aJ ec,gi.mpr λz=>?_⟩
 exact(key c (OE hb.1 hb.2) z).2 mc
def aa5(hk:ks.Nodup)(Fo:ie ks wf (au m (ah R pl)) ws):b8 (ws.filter λx=>!decide (x∈ow m R pl))=cY m R pl ks:=by
 unfold cY
 refine A9 ?_ ((E5 _).filter _)
 refine List.Perm.filter _ ?_
 refine(fY _).trans ?_
 rw[List.perm_ext_iff_of_nodup (hk.filter _) Fo.nd]
 intro x
 rw[cy,Fo.mem]
def Hl:x∈ow m R pl↔∃i,i<R.length/\i≠pl/\au m (ah R i)=x:=by
 unfold ow
 constructor
 .intro h
  obtain⟨i,hi,e⟩:=bM.mp h
  obtain⟨h1,h2⟩:=cy.mp hi
  exact⟨i,ip.mp h1,by simpa using h2,e⟩
 .rintro⟨i,h1,h2,e⟩
  exact bM.mpr ⟨i,cy.mpr ⟨ip.mpr h1,by simpa using h2⟩,e⟩
def km(H:Hp)(r:List C2)(x:V):Prop := ∃t ys,x = .ref t/\H t=some (.tup ys)/\bH H r ys
noncomputable def kC(c:C2):List Key:=[Sum.inl (c.1:Int),Sum.inl (c.2:Int)]
theorem vA(h:kC c=kC d):c=d:=by
 unfold kC at h
 injection h with h1 h2
 injection h2 with h2
 injection h1 with h1
 injection h2 with h2
 exact o9 (by lia) (by lia)
theorem qw{α β:Type}{R:α->β->Prop}:∀{l1 l2:List α}{m1 m2:List β},Paired R l1 m1->Paired R l2 m2->Paired R (l1++l2) (m1++m2)
 |_,_,_,_,.nil,h=>h
 |_,_,_,_,.cons h t,g=>.cons h (qw t g)
structure jl(H:Hp)(d:Addr)(g:C2->List (Nat×Nat))(ls:List Addr)(n:Nat):Prop where
 ex:∃kvs:List (List Key×V),H d=some (.dT kvs)/\kvs.length<=n/\(∀c,g c=[]->aQ kvs (kC c)=none)/\
  (∀c,g c≠[]->∃q zs,aQ kvs (kC c)=some (.ref q)/\q∈ls/\H q=some (.lst zs)/\bH H (g c) zs)/\
  (∀c c' q,aQ kvs (kC c)=some (.ref q)->aQ kvs (kC c')=some (.ref q)->c=c')
def bH.lists{cs:List (Nat×Nat)}(k:∀b o,H b=some (.tup o)->H' b=some (.tup o))(h:bH H cs xs):bH H' cs xs:=Paired.bU h λ_ _ q=>let ⟨b,e,hb⟩:=q;⟨b,e,k _ _ hb⟩
theorem jl.mono{H H':Hp}{d:Addr}{g:C2->List (Nat×Nat)}{ls:List Addr}{n:Nat}(s:af H H')(h:jl H d g ls n):jl H' d g ls n:=by
 obtain⟨kvs,hd,hl,h1,h2,h3⟩:=h.ex
 refine⟨kvs,s _ _ hd,hl,h1,λc hc=>?_,h3⟩
 obtain⟨q,zs,a,b,e,f⟩:=h2 c hc
 exact⟨q,zs,a,b,s _ _ e,f.mono s⟩
theorem jl.fresh{d p0:Addr}{kvs:List (List Key×V)}(h:jl H d g ls n)(hd:H d=some (.dT kvs))(hp:H p0=none)(hc:g c=[])
  (e1:g' c=[o]) (e2:∀x,x≠c->g' x=g x) (xf:H' d=some (.dT (putK kvs (kC c) (.ref p0)))) (fF:H' p0=some (.lst [u])) (hu:mJ H' o u) (k:∀b x,b≠d->b≠p0->H b=some x->H' b=some x):jl H' d g' (p0::ls) (n+1):=by
 obtain⟨aa6,fP,hl,h1,h2,h3⟩:=h.ex
 rw[hd] at fP
 cases fP
 have kt:∀b o,H b=some (.tup o)->H' b=some (.tup o):=λb o e=>k b _ (λz=>by rw[z,hd] at e;cases e) (λz=>by rw[z,hp] at e;cases e) e
 refine⟨_,xf,bQ (uw _ _ _) (by lia),λx hx=>?_,λx hx=>?_,λx y q hx hy=>?_⟩
 .by_cases z:x=c
  .rw[z,e1] at hx;cases hx
  .rw[nT,ax (λw=>z (vA w))]
   exact h1 x (by rw[<-e2 x z];exact hx)
 .by_cases z:x=c
  .subst z
   refine⟨p0,[u],by rw[nT,aA rfl],bt,fF,?_⟩
   rw[e1]
   exact .cons hu .nil
  .rw[e2 x z] at hx ⊢
   obtain⟨q,zs,a,b,e,f⟩:=h2 x hx
   refine⟨q,zs,by rw[nT,ax (λw=>z (vA w))];exact a,bX _ b,k q _ (λw=>by rw[w,hd] at e;cases e) (λw=>by rw[w,hp] at e;cases e) e,f.lists kt⟩
 .have old:∀x,x≠c->aQ kvs (kC x)=some (.ref q)->q≠p0:=λx z hv w=>by
   by_cases gx:g x=[]
   .rw[h1 x gx] at hv;cases hv
   .obtain⟨q',zs,a,b,e,f⟩:=h2 x gx
    rw[a] at hv
    cases hv
    rw[w,hp] at e
    cases e
  rw[nT] at hx hy
  by_cases zx:x=c <;> by_cases zy:y=c
  .rw[zx,zy]
  .rw[aA (by rw[zx])] at hx
   rw[ax (λw=>zy (vA w))] at hy
   cases hx
   exact absurd rfl (old y zy hy)
  .rw[ax (λw=>zx (vA w))] at hx
   rw[aA (by rw[zy])] at hy
   cases hy
   exact absurd rfl (old x zx hx)
  .rw[ax (λw=>zx (vA w))] at hx
   rw[ax (λw=>zy (vA w))] at hy
   exact h3 x y q hx hy
def jl.more{d q:Addr}{kvs:List (List Key×V)}(h:jl H d g ls n)(hd:H d=some (.dT kvs))(hq:aQ kvs (kC c)=some (.ref q))(hz:H q=some (.lst zs))(hc:bH H (g c) zs)
  (e1:g' c=g c++[o]) (e2:∀x,x≠c->g' x=g x) (jC:H' q=some (.lst (zs++[u]))) (hu:mJ H' o u) (k:∀b x,b≠q->H b=some x->H' b=some x):jl H' d g' ls n:=by
 obtain⟨aa6,fP,hl,h1,h2,h3⟩:=h.ex
 rw[hd] at fP
 cases fP
 have kt:∀b o,H b=some (.tup o)->H' b=some (.tup o):=λb o e=>k b _ (λz=>by rw[z,hz] at e;cases e) e
 have hgc:g c≠[]:=λz=>by rw[h1 c z] at hq;cases hq
 refine⟨_,k d _ (λz=>by rw[z,hz] at hd;cases hd) hd,hl,λx hx=>?_,λx hx=>?_,h3⟩
 .by_cases z:x=c
  .rw[z,e1] at hx
   simp at hx
  .exact h1 x (by rw[<-e2 x z];exact hx)
 .by_cases z:x=c
  .subst z
   obtain⟨q',σ4,a,b,e,f⟩:=h2 x hgc
   rw[hq] at a
   cases a
   refine⟨q,zs++[u],hq,b,jC,?_⟩
   rw[e1]
   exact qw (hc.lists kt) (.cons hu .nil)
  .rw[e2 x z] at hx ⊢
   obtain⟨q',σ4,a,b,e,f⟩:=h2 x hx
   refine⟨q',σ4,a,b,k q' _ (λw=>?_) e,f.lists kt⟩
   subst w
   exact z (h3 x c q' a hq)
noncomputable def gP(R:List (List C2))(i j:Nat)(c:C2):List (Nat×Nat):=((List.range i).flatMap λi=>((List.range (ah R i).length).filter λk=>decide ((ah R i)[k]? = some c)).map λk=>(i,k))++((List.range j).filter λk=>decide ((ah R i)[k]? = some c)).map λk=>(i,k)
def σ5(h:(ah R i)[j]? = some c):gP R i (j+1) c=gP R i j c++[(i,j)]:=by
 unfold gP
 rw[nC,jY,dF,lQ]
 simp[h]
def σ6{x:C2}(h:(ah R i)[j]? = some c)(n:x≠c):gP R i (j+1) x=gP R i j x:=by
 unfold gP
 rw[nC,jY,dF]
 simp[h,br n]
def aa7(R:List (List C2))(i:Nat)(c:C2):gP R (i+1) 0 c=gP R i (ah R i).length c:=by
 unfold gP
 rw[nC,J3]
 simp
def aa8(R:List (List C2))(c:C2):gP R R.length 0 c=cZ R c:=by
 unfold gP cZ
 simp
theorem σ7{R:List (List C2)}(h9:∀i,(ah R i).length<=9)(c:C2):∀i,((List.range i).flatMap λi=>((List.range (ah R i).length).filter λk=>decide ((ah R i)[k]? = some c)).map λk=>(i,k)).length<=9*i
 |0=>by simp
 |i+1=>by
  have ih:=σ7 h9 c i
  rw[nC,J3,dE]
  have e:=iw (λk=>decide ((ah R i)[k]? = some c)) (List.range (ah R i).length)
  rw[kM] at e
  have:=h9 i
  simp only[List.flatMap_cons,List.flatMap_nil,dJ,av]
  lia
theorem aa9(h9:∀i,(ah R i).length<=9)(i j:Nat)(c:C2):(gP R i j c).length<=9*i+j:=by
 have h1:=σ7 h9 c i
 have e:=iw (λk=>decide ((ah R i)[k]? = some c)) (List.range j)
 rw[kM] at e
 unfold gP
 rw[dE,av]
 lia
def aba(R:List (List C2))(c:C2):gP R 0 0 c=[]:=rfl
def σ8(A:List α)(p:α->Bool)(d:α):((List.range A.length).filter λk=>p (A.getD k d)).map (λk=>A.getD k d)=A.filter p:=by
 have e:(List.range A.length).map (λk=>A.getD k d)=A:=by
  apply ju
  intro i
  rw[bE]
  by_cases h:i<A.length
  .rw[qY h,bb h,iR,bT,bb h,oV]
  .rw[cW (by simpa using h),cW (by simpa using h)]
   rfl
 have:=zX (f:=λk=>A.getD k d) (p:=p) (l:=List.range A.length)
 rw[e] at this
 rw[this]
 rfl
theorem σ9{α β γ:Type}{S:β->γ->Prop}{g:α->β}:∀{l:List α}{m:List γ},Paired (λa y=>S (g a) y) l m->Paired S (l.map g) m
 |_,_,.nil=>.nil
 |_,_,.cons h t=>.cons h (σ9 t)
def abb{p:Nat×Nat->Bool}{us vs:List V}(h:bH H A us)(pr:Paired (λk y=>us[k]? = some y) ((List.range us.length).filter λk=>p (A.getD k (0,0))) vs):bH H (A.filter p) vs:=by
 rw[<-σ8 A p (0,0)]
 have hl:=h.length
 rw[hl]
 refine σ9 (Paired.bU pr λk y e=>?_)
 obtain⟨o,ho,hc⟩:=Paired.get h e
 rw[bT,ho]
 exact hc
theorem abc(G:GoodR R){k:Nat}(h:(ah R pl)[k]? = some c):(cZ R c).length<=2:=by
 obtain⟨p,e,_⟩:=B7 G h
 have e1:(cZ R c).countP (λp=>!decide (p.1=pl))=1:=by
  rw[List.countP_eq_length_filter]
  show(vw R pl c).length=1
  rw[e]
  rfl
 have e2:(cZ R c).countP (λp=>decide (p.1=pl))<=1:=by
  rw[List.countP_eq_length_filter]
  have nd:=(He R c).filter (λp=>decide (p.1=pl))
  have u:∀y∈(cZ R c).filter (λp=>decide (p.1=pl)),y=(pl,k):=λy my=>by
   obtain⟨m1,m2⟩:=cy.mp my
   have hy:=qt.mp m1
   have h1:y.1=pl:=fK m2
   rw[h1] at hy
   have h2:y.2=k:=(List.getElem?_inj (mT hy).2 (G.nd pl)).mp (hy.trans h.symm)
   exact o9 h1 h2
  cases hl:(cZ R c).filter (λp=>decide (p.1=pl)) with
  |nil=>exact bu _
  |cons a r=>
   have m:(pl,k)∈(cZ R c).filter (λp=>decide (p.1=pl)):=by
    rw[<-u a (by rw[hl];exact bt),hl]
    exact bt
   rw[<-hl,OQ nd m u]
   exact aW _
 have:=List.length_eq_countP_add_countP (l:=cZ R c) (λp=>decide (p.1=pl))
 have e3:(cZ R c).countP (λa=>decide ¬(decide (a.1=pl))=true)=(cZ R c).countP (λp=>!decide (p.1=pl)):=by
  congr 1
  funext a
  by_cases z:a.1=pl <;> simp[z]
 rw[e3] at this
 lia
section
variable{P:Program}{w:World}{K:Frag}{mg:Str->Option Value}{base:Heap}{f:Addr}{fd:FuncData}
def Pa(K:Frag):Sp:=λvs H Q _=>∃(d t:Addr) (R:List (List C2)) (pl:Nat) (ys:List V) (ls:List Addr),vs=[.ref d,.int pl,.ref t]/\(∃n,jl H d (cZ R) ls n)/\H t=some (.tup ys)/\bH H (ah R pl) ys/\pl<R.length/\GoodR R/\(ah R pl).length<=9/\
 ∀p zs H',H p=none->af H H'->H' p=some (.lst zs)->bH H' (ki R pl) zs->Q (.ref p) H'
def Hm:bg ["through","place","cells","crossings","cell"] ["through","place","cells"] (aV (top 39)):={}
theorem abd(F:aX K "crossings_on" "crossings_on" (top 39) f fd):aO P w K mg base aR 1 f fd ["through","place","cells"] (Pa K):=by
 refine F.bG Hm λaH A outer s H vs Q E hr h=>?_
 refine hide λG_ aF=>?_
 obtain⟨d,t,R,pl,ys,ls,rfl,hD,ht,hC,hpl,G,h9,q⟩:=h
 refine aF.k ?_
 have cU:=gS hr
 refine⟨_,(ar (aK 3 Hm.nd (de ag))
  (ar (cF (Au (pv 2)) (bN 4 Hm.nd)
  (aw (fu (fB jv PySem.F.slot_list_extend PySem.F.type_list_extend UJ (pv 3) (ab (fW (js:=[1]) (ns:=["place"]) (dn (uz cU (pv 0) (pv 4) (λ_ _=>rfl))) rfl rfl rfl rfl (λ_ _ _ _=>(lh (bR iY (si (K:=K) (rr:=pG) rfl bO (pv 0) az) (pv 1)))) (λ_ _ _ _=>(pv 0))) ag)))))
  (aw (aP (pv 3))))),?_⟩
 try dsimp only[bA]
 refine hide λG_ aZ=>?_
 obtain⟨nn,hD⟩:=hD
 obtain⟨kvs,hd,i6,jJ,Ca,abe⟩:=hD.ex
 refine aZ.k ?_
 have uC:=hC.length
 refine⟨bu _,λp hp=>?_⟩
 have s0:af H (upd H p (.lst [])):=af.upd hp
 refine⟨_,rfl,t,rfl,⟨_,aq.of (s0 _ _ ht)⟩,?_⟩
 refine Ti (K:=K) (xs:=ys) (λi O H2=>∃v4 zs,O=[some (.ref d),some (.int (pl:Int)),some (.ref t),some (.ref p),v4]/\af H H2/\H2 p=some (.lst zs)/\bH H2 (((ah R pl).take i).flatMap (vw R pl)) zs/\zs.length<=i)
  ⟨none,[],rfl,s0,ao,.nil,aW _⟩ ?_ ?_ ?_
 .rintro i O H2 _ ⟨v4,zs,rfl,s2,_⟩
  exact aq.of (s2 _ _ ht)
 .intro i x O H2 hx abf
  refine hide λG_ bJ=>?_
  obtain⟨v4,zs,rfl,s2,fO,hz,yV⟩:=abf
  obtain⟨c,hc,b,rfl,hb⟩:=Paired.get hC hx
  have hi:=(cg.mp hx).1
  have nZ:H2 b=some (.tup ((kC c).map kV)):=s2 _ _ hb
  have pf:cZ R c≠[]:=λz=>by
   have:=qt (p:=(pl,i)).mpr hc
   rw[z] at this
   cases this
  obtain⟨qa,us,abg,hql,d9,xP⟩:=Ca c pf
  refine bJ.k ?_
  have Pb:=xP.length
  have h2:=abc G hc
  have hg:dU H2 d (.ref b) (some (.ref qa)):=by rw[<-abg];exact dU.t (s2 _ _ hd) nZ
  have Pc:=s2 _ _ d9
  refine⟨_,rfl,.inl ⟨rfl,_,ai.of fO⟩,_,rfl,_,rfl,d,.ref qa,rfl,hg,qa,rfl,⟨_,ai.of Pc⟩,?_⟩
  refine kd (gB (K:=K) (xs:=us)) (by lia) (λk=>!decide (((cZ R c).getD k (0,0)).1=pl)) (λ_ k y _=>us[k]? = some y) (λH3 s3=>ai.of (s3 _ _ Pc)) (λ_ _ _ _ _ _ _ _ h=>h) ?_ ?_
  .intro D k y H3 Z0 Z hD hy s3 _ k0 k1
   obtain⟨o,ho,ob,rfl,pO⟩:=Paired.get xP hy
   have abh:=s3 _ _ (s2 _ _ pO)
   have Pd:(cZ R c).getD k (0,0)=o:=by rw[bT,ho];rfl
   refine⟨_,rfl,ob,_,0,.int (o.1:Int),rfl,rfl,aq.of abh,rfl,_,rfl,rfl,_,rfl,?_⟩
   by_cases z:o.1=pl
   .rw[aJ (by rw[z])]
    exact aL (k0 _ (af.cA _) (by show(!decide _)=false;rw[Pd,aJ z];rfl))
   .rw[aN (λy=>z (by injection y with y;lia))]
    exact bf ⟨_,rfl,k1 _ _ (af.cA _) (by show(!decide _)=true;rw[Pd,aN z];rfl) hy⟩
  .intro D vs H3 hD bh s3 pr
   have Pe:af H H3:=s2.trans s3
   have Cb:bH H3 (vw R pl c) vs:=by
    have e:=abb (A:=cZ R c) (p:=λo=>!decide (o.1=pl)) (bH.mono Pe xP) pr
    exact e
   have tw:=Cb.length
   obtain⟨o1,eo,_⟩:=B7 G hc
   rw[eo] at tw
   have tw:vs.length=1:=tw.symm
   have kq:=s3 _ _ fO
   have nD:D≠p:=λz=>by rw[z,fO] at hD;cases hD
   refine⟨p,D,zs,vs,rfl,rfl,kq,bh,zO (pN (by lia)),?_⟩
   have hn:H p=none:=hp
   have sU:af H (upd H3 p (.lst (zs++vs))):=λb o e=>by rw[ak (bq e hn)];exact Pe _ _ e
   refine⟨_,zs++vs,rfl,sU,ao,?_,by rw[dE];lia⟩
   have tk:(ah R pl).take (i+1)=(ah R pl).take i++[c]:=by rw[fL,hc];rfl
   rw[tk,J3]
   refine qw (bH.off ⟨_,kq⟩ (λb o hb e=>by rw[ak hb];exact e) (bH.mono s3 hz)) ?_
   simpa using bH.off ⟨_,kq⟩ (λb o hb e=>by rw[ak hb];exact e) Cb
 .intro O H2 abi
  refine hide λG_ cG=>?_
  obtain⟨v4,zs,rfl,s2,fO,hz,yV⟩:=abi
  refine cG.k ?_
  rw[fq (by lia)] at hz
  exact⟨_,rfl,q p zs H2 hp s2 fO hz⟩
def Pf(K:Frag):Sp:=λvs H Q _=>∃(a:Addr) (R:List (List C2)) (xs:List V),vs=[.ref a]/\H a=some (.lst xs)/\Paired (km H) R xs/\GoodR R/\R.length<=162/\(∀i,(ah R i).length<=9)/\
 ∀p zs H',H p=none->af H H'->H' p=some (.lst zs)->Paired (λi x=>∃q us,x = .ref q/\H q=none/\H' q=some (.lst us)/\bH H' (ki R i) us) (List.range R.length) zs->Q (.ref p) H'
def vB:bg ["rows","through","place","cells","at","cell"] ["rows"] (aV (top 38)):={}
theorem abj(B:Bl mg)(F:aX K "crossings_of" "crossings_of" (top 38) f fd)(abk:Fn P w K mg base "crossings_on" 1 (Pa K)):aO P w K mg base aR 2 f fd ["rows"] (Pf K):=by
 refine F.bG vB λaH A outer s H vs Q E hr h=>?_
 refine hide λG_ aF=>?_
 obtain⟨a,R,xs,rfl,ha,hR,G,jh,h9,q⟩:=h
 refine aF.k ?_
 have cU:=gS hr
 refine⟨_,(ar (aK 1 vB.nd Lz)
  (ar (cF (Ft (by rfl) B.yk (ab (pv 0) ag)) (jB rfl (dM (bN 2 vB.nd) (dM (bN 3 vB.nd) jA)))
  (aw (cF (WV (by rfl) B.yk (ab (pv 3) ag)) (jB rfl (dM (bN 4 vB.nd) (dM (bN 5 vB.nd) jA)))
   (aw (fu (fB jv jZ j0 iC (XE cU (pv 1) (pv 5) (de ag) ⟨rfl,rfl,rfl,rfl⟩) (ab (eS (ab (pv 2) (ab (pv 4) ag))) ag (hs:=cJ rfl))))))))
  (aw (aP (L0 (js:=[1]) (ns:=["through"]) (Ft (by rfl) B.yk (ab (pv 0) ag)) rfl rfl rfl rfl (λ_ _ _ _=>gT) (λ_ _ _ _=>(aU abk hr (ab (pv 2) (ab (pv 0) (ab (pv 1) ag)))))))))),?_⟩
 try dsimp only[bA]
 intro d fP
 have eW:af H (upd H d (.dT [])):=af.upd fP
 have t0:jl (upd H d (.dT [])) d (gP R 0 0) [] 0:=⟨[],ao,aW _,λ_ _=>rfl,λc hc=>absurd (aba R c) hc,λc c' q h=>by cases h⟩
 generalize upd H d (.dT [])=H0 at eW t0
 have eC:=hR.length
 refine⟨_,rfl,a,xs,rfl,ai.of (eW _ _ ha),?_⟩
 refine MA (K:=K) (xs:=xs) (λi O H2=>∃v2 v3 v4 v5 ls n,O=[some (.ref a),some (.ref d),v2,v3,v4,v5]/\af H H2/\(∀q∈ls,H q=none)/\n<=9*i/\jl H2 d (gP R i 0) ls n)
  ⟨none,none,none,none,[],0,rfl,eW,(λ_ m=>nomatch m),aW _,t0⟩ ?_ ?_ ?_
 .rintro i O H2 _ ⟨v2,v3,v4,v5,ls,n,rfl,s2,_⟩
  exact ai.of (s2 _ _ ha)
 .intro i x pt O H2 hx abl hpt
  refine hide λG_ aZ=>?_
  obtain⟨v2,v3,v4,v5,ls,n,rfl,s2,qx,hn,T2⟩:=abl
  obtain⟨row,hq,t,ys,rfl,ht,lA⟩:=Paired.get hR hx
  refine aZ.k ?_
  have hi:i<R.length:=by rw[eC];exact(cg.mp hx).1
  have mV:ah R i=row:=by unfold ah;rw[bT,hq];rfl
  have uC:=lA.length
  have h9i:=h9 i
  rw[mV] at h9i
  have su:af H2 (upd H2 pt (.tup [.int i,.ref t])):=af.upd hpt
  refine⟨pt,_,rfl,aq.of ao,rfl,_,_,rfl,_,_,rfl,rfl,?_⟩
  have xX:=s2.trans su
  have Pg:=T2.mono su
  generalize upd H2 pt (.tup [.int i,.ref t])=H3 at su xX Pg
  refine⟨_,rfl,t,ys,rfl,aq.of (xX _ _ ht),?_⟩
  refine WX (K:=K) (xs:=ys) (λj O H4=>∃v4 v5 ls n,O=[some (.ref a),some (.ref d),some (.int (i:Int)),some (.ref t),v4,v5]/\af H H4/\(∀q∈ls,H q=none)/\n<=9*i+j/\jl H4 d (gP R i j) ls n)
   ⟨v4,v5,ls,n,rfl,xX,qx,hn,Pg⟩ ?_ ?_ ?_
  .rintro j O H4 _ ⟨v4,v5,ls,n,rfl,s4,_⟩
   exact aq.of (s4 _ _ ht)
  .intro j y pu O H4 hy abm hpu
   refine hide λG_ bJ=>?_
   obtain⟨v4,v5,ls,n,rfl,s4,qx,hn,T4⟩:=abm
   obtain⟨c,hc,b,rfl,hb⟩:=Paired.get lA hy
   refine bJ.k ?_
   have hj:j<ys.length:=(cg.mp hy).1
   have Cc:(ah R i)[j]? = some c:=by rw[mV];exact hc
   have sv:af H4 (upd H4 pu (.tup [.int j,.ref b])):=af.upd hpu
   refine⟨pu,_,rfl,aq.of ao,rfl,_,_,rfl,_,_,rfl,rfl,?_⟩
   have s5:=s4.trans sv
   have T5:=T4.mono sv
   generalize upd H4 pu (.tup [.int j,.ref b])=H5 at sv s5 T5
   refine hide λG_ cG=>?_
   obtain⟨kvs,vC,i6,jJ,Ca,abe⟩:=id T5.ex
   refine cG.k ?_
   have hb5:H5 b=some (.tup ((kC c).map kV)):=s5 _ _ hb
   refine⟨_,rfl,d,rfl,.inr ⟨kvs,.inl vC⟩,_,rfl,bu _,λp0 gb=>?_⟩
   have s6:af H5 (upd H5 p0 (.lst [])):=af.upd gb
   refine⟨kvs,kC c,b,s6 _ _ vC,rfl,s6 _ _ hb5,pN (by lia),λv hv=>?_,λhv=>?_⟩
   .have hg:gP R i j c≠[]:=λz=>by rw[jJ c z] at hv;cases hv
    refine hide λG_ eX=>?_
    obtain⟨qa,zs,mP,Hc,yW,Ph⟩:=Ca c hg
    refine eX.k ?_
    rw[mP] at hv
    cases hv
    have yV:=Ph.length
    have Cd:=aa9 h9 i j c
    have T6:=T5.mono s6
    refine⟨.inl ⟨rfl,_,ai.of (s6 _ _ yW)⟩,_,rfl,_,rfl,(show 2<=sizeLine by decide),λu hu=>?_⟩
    have s7:af (upd H5 p0 (.lst [])) (upd (upd H5 p0 (.lst [])) u (.tup [.int (i:Int),.int (j:Int)])):=af.upd hu
    have Ce:upd (upd H5 p0 (.lst [])) u (.tup [.int (i:Int),.int (j:Int)]) u=some (.tup [.int (i:Int),.int (j:Int)]):=ao
    have T7:=T6.mono s7
    have yX:=s6.trans s7
    generalize upd (upd H5 p0 (.lst [])) u (.tup [.int (i:Int),.int (j:Int)])=H7 at s7 T7 yX Ce
    have Hn:=yX _ _ yW
    have nu:u≠qa:=λz=>by rw[z,Hn] at Ce;cases Ce
    refine⟨qa,zs,_,rfl,rfl,Hn,pN (by lia),?_⟩
    have vD:=qx qa Hc
    refine⟨_,_,ls,n,rfl,λb o e=>?_,qx,by lia,T7.more (yX _ _ vC) mP Hn (Ph.mono yX) (σ5 Cc) (λx z=>σ6 Cc z) ao ⟨u,rfl,by rw[ak nu];exact Ce⟩ λb o hb e=>by rw[ak hb];exact e⟩
    rw[ak (bq e vD)]
    exact yX _ _ (s5 _ _ e)
   .have hg:gP R i j c=[]:=Sj λz=>by
     obtain⟨qa,zs,mP,_⟩:=Ca c z
     rw[mP] at hv
     cases hv
    have Pj:d≠p0:=λz=>by rw[z,gb] at vC;cases vC
    have Pk:H p0=none:=by
     cases e:H p0 with
     |none=>rfl
     |some o=>rw[s5 _ _ e] at gb;cases gb
    have Ho:upd (upd H5 p0 (.lst [])) d (.dT (putK kvs (kC c) (.ref p0))) p0=some (.lst []):=by rw[ak (br Pj)];exact ao
    refine⟨.inl ⟨rfl,_,ai.of Ho⟩,_,rfl,_,rfl,(show 2<=sizeLine by decide),λu hu=>?_⟩
    have Pl:u≠p0:=λz=>by rw[z,Ho] at hu;cases hu
    have nud:u≠d:=λz=>by rw[z,ao] at hu;cases hu
    refine⟨p0,[],_,rfl,rfl,by rw[ak (br Pl)];exact Ho,pN (by simp),?_⟩
    refine⟨_,_,p0::ls,n+1,rfl,λb o e=>?_,λx m=>?_,by lia,T5.fresh vC gb hg (by rw[σ5 Cc,hg];rfl) (λx z=>σ6 Cc z) ?_ ao ⟨u,rfl,?_⟩ λb o h1 h2 e=>?_⟩
    .have e5:=s5 _ _ e
     have Hq:b≠d:=bq e fP
     have vE:b≠p0:=bq e Pk
     have Hr:b≠u:=λz=>by
      rw[z] at e5 Hq vE
      rw[ak Hq,ak vE,e5] at hu
      cases hu
     rw[ak vE,ak Hr,ak Hq,ak vE]
     exact e5
    .rcases cf.mp m with z | z
     .rw[z];exact Pk
     .exact qx x z
    .rw[ak Pj,ak (br nud),ao]
    .rw[ak Pl,ao]
    .have Hr:b≠u:=λz=>by
      rw[z] at e h1 h2
      rw[ak h1,ak h2,e] at hu
      cases hu
     rw[ak h2,ak Hr,ak h1,ak h2]
     exact e
  .intro O H4 abn
   refine hide λG_ oi=>?_
   obtain⟨v4,v5,ls,n,rfl,s4,qx,hn,T4⟩:=abn
   refine oi.k ?_
   refine⟨_,_,_,_,ls,n,rfl,s4,qx,by lia,?_⟩
   have eg:gP R (i+1) 0=gP R i ys.length:=by
    funext c
    rw[aa7,mV,uC]
   rw[eg]
   exact T4
 .intro O H2 abo
  refine hide λG_ oj=>?_
  obtain⟨v2,v3,v4,v5,ls,n,rfl,s2,qx,hn,T2⟩:=abo
  refine oj.k ?_
  rw[<-eC] at T2
  have T3:jl H2 d (cZ R) ls n:=by
   have eg:gP R R.length 0=cZ R:=funext λc=>aa8 R c
   rw[<-eg]
   exact T2
  refine⟨_,rfl,a,xs,rfl,ai.of (s2 _ _ ha),?_⟩
  refine WZ (by lia) (ai.of (s2 _ _ ha)) (λ_=>true) (λD i y H5=>∃qa us,y = .ref qa/\qa≠D/\H qa=none/\H5 qa=some (.lst us)/\bH H5 (ki R i) us) ?_ ?_ ?_
  .intro D i y Ha Hb hD ho k abp
   refine hide λG_ yJ=>?_
   obtain⟨qa,us,rfl,n1,n2,n3,n4⟩:=abp
   refine yJ.k ?_
   exact⟨qa,us,rfl,n1,n2,k _ _ n1 n3,n4.off ho k⟩
  .intro D i x H5 Z0 Z hD hx s5 ho k0 k1
   refine hide λG_ Hs=>?_
   obtain⟨row,hq,t,ys,rfl,ht,lA⟩:=Paired.get hR hx
   refine Hs.k ?_
   have hi:i<R.length:=by rw[eC];exact(cg.mp hx).1
   have mV:ah R i=row:=by unfold ah;rw[bT,hq];rfl
   have Ht:=s2.trans s5
   refine bf (B:=Z0 H5) ⟨_,rfl,_,rfl,_,rfl,d,t,R,i,ys,ls,rfl,⟨n,T3.mono s5⟩,Ht _ _ ht,by rw[mV];exact lA.mono Ht,hi,G,h9 i,λqa us H6 vD s6 hqs hqc=>?_⟩
   obtain⟨o,ho⟩:=ho
   refine k1 _ _ s6 rfl ⟨qa,us,rfl,(λz=>by rw[z,ho] at vD;cases vD),?_,hqs,hqc⟩
   cases e:H qa with
   |none=>rfl
   |some o'=>rw[Ht _ _ e] at vD;cases vD
  .intro D zs H5 hD bh s5 pr
   refine q D zs H5 ?_ (s2.trans s5) bh ?_
   .cases e:H D with
    |none=>rfl
    |some o'=>rw[s2 _ _ e] at hD;cases hD
   .rw[List.filter_eq_self.mpr (λ_ _=>rfl)] at pr
    rw[eC]
    exact Paired.bU pr λi y h=>let ⟨qa,us,e1,_,e3,e4,e5⟩:=h;⟨qa,us,e1,e3,e4,e5⟩
end
noncomputable def fc(sh ce cr wo kn:V):List (Str×V):=ba "known" kn (ba "worths" wo (ba "crossings" cr (ba "cells" ce (ba "sheet" sh []))))
def Cf(sh ce cr wo kn:V):(fc sh ce cr wo kn).lookup ("known":Str)=some kn:=by
 unfold fc
 rw[cL,aA rfl]
def abq(sh ce cr wo kn:V):(fc sh ce cr wo kn).lookup ("worths":Str)=some wo:=by
 unfold fc
 rw[cL,ax (by decide +kernel),cL,aA rfl]
def abr(sh ce cr wo kn:V):(fc sh ce cr wo kn).lookup ("crossings":Str)=some cr:=by
 unfold fc
 rw[cL,ax (by decide +kernel),cL,ax (by decide +kernel),cL,aA rfl]
def Pm(sh ce cr wo kn:V):(fc sh ce cr wo kn).lookup ("cells":Str)=some ce:=by
 unfold fc
 rw[cL,ax (by decide +kernel),cL,ax (by decide +kernel),cL,ax (by decide +kernel),cL,aA rfl]
def abt(sh ce cr wo kn:V):(fc sh ce cr wo kn).lookup ("sheet":Str)=some sh:=by
 unfold fc
 rw[cL,ax (by decide +kernel),cL,ax (by decide +kernel),cL,ax (by decide +kernel),cL,ax (by decide +kernel),cL,aA rfl]
def gI(Z:Addr->Prop)(H:Hp)(ks:List Str)(wf:Str->Int)(t:Str)(v:V):Prop := ∃q ws,v = .ref q/\Z q/\H q=some (.lst (ws.map V.str))/\ie ks wf t ws/\ws.length<=64
structure ig(Z:Addr->Prop)(M:Str->Prop)(H:Hp)(ks:List Str)(wf:Str->Int)(kvs:List (Key×V)):Prop where
 nd:(kvs.map (·.1)).Nodup
 key:∀k∈kvs.map (·.1),∃x,k=Sum.inr x/\M x
 fit:∀x v,aQ kvs (Sum.inr x:Key)=some v->gI Z H ks wf x v
def Cg(M:Str->Prop):Prop := ∀l:List Key,l.Nodup->(∀k∈l,∃x,k=Sum.inr x/\M x)->l.length<sizeLine
def gI.keep{t:Str}(k:∀b o,H b=some (.lst o)->Z b->H' b=some (.lst o))(h:gI Z H ks wf t v):gI Z H' ks wf t v:=let ⟨q,ws,e,z,a,b,c⟩:=h;⟨q,ws,e,z,k _ _ a z,b,c⟩
def abu{k:Key}(h:aQ kvs k=none):k∉kvs.map (·.1):=by
 induction kvs with
 |nil=>simp
 |cons p r ih=>
  obtain⟨k',v⟩:=p
  intro m
  unfold aQ at h ih
  by_cases z:k'=k
  .simp[qV,z] at h
  .simp only[qV,aN z] at h
   rcases cf.mp m with w | w
   .exact z w.symm
   .exact ih h w
def Pn(p:Str->Bool):((List.range ws.length).filter λk=>p (ws.getD k ⟨#[]⟩)).map (λk=>V.str (ws.getD k ⟨#[]⟩))=(ws.filter p).map V.str:=by
 rw[<-σ8 ws p ⟨#[]⟩,jw]
 rfl
section
variable{P:Program}{w:World}{K:Frag}{mg:Str->Option Value}{base:Heap}{f:Addr}{fd:FuncData}
def Po(K:Frag)(C:Addr):Sp:=λvs H Q _=>∃(g dx l kn:Addr) (sh ce cr wo:V) (ws ks:List Str) (wf:Str->Int) (t:Str) (a ch:Nat) (kvs:List (Key×V)) (Z:Addr->Prop) (M:Str->Prop),vs=[.ref g,.ref l,.str (bP t a ch),.int (a:Int)]/\H g=some (.ins C dx (fc sh ce cr wo (.ref kn)))/\H kn=some (.dK kvs)/\ig Z M H ks wf kvs/\Cg M/\
 H l=some (.lst (ws.map V.str))/\ie ks wf t ws/\ws.length<=64/\a<t.length/\t.length<=1000/\t.cps.toList.getD a 0=46/\ch≠46/\M (bP t a ch)/\(∀q,H q=none->Z q)/\
 ∀H' vF v,(∀b o,b≠kn->H b=some o->H' b=some o)->H' kn=some (.dK vF)->ig Z M H' ks wf vF->gI Z H' ks wf (bP t a ch) v->Q v H'
def abv:bg ["self","words","signs","at"] ["self","words","signs","at"] (aV (inClass (top 35) 1)):={}
theorem abw(F:aX K "narrowed" "Ground.narrowed" (inClass (top 35) 1) f fd)(T:cD K C)(nk:bF K C "known"):aO P w K mg base aR 1 f fd ["self","words","signs","at"] (Po K C):=by
 refine F.bG abv λaH A outer s H vs Q E hr h=>?_
 refine hide λG_ aF=>?_
 obtain⟨g,dx,l,kn,sh,ce,cr,wo,ws,ks,wf,t,a,ch,kvs,Z,M,rfl,hg,hk,hK,hM,hl,hF,dk,ha,ht,cO,hch,hm,hZ,q⟩:=h
 refine aF.k ?_
 have cU:=gS hr
 refine⟨_,(ar (bw (Ao (Ly cU (pv 2) (cn (pv 0) rfl)))
  (aw (xC cU (cn (pv 0) rfl) (pv 2) (fW (js:=[3,2]) (ns:=["at","signs"]) (dn (pv 1)) rfl rfl rfl rfl (λ_ _ _ _=>(lh (bR lW (aM fV (pv 0) (pv 1)) (aM fV (pv 2) (pv 1))))) (λ_ _ _ _=>(pv 0))) rfl))
  bC)
  (aw (aP (uz cU (cn (pv 0) rfl) (pv 2) (λ_ _=>rfl))))),?_⟩
 try dsimp only[bA]
 refine⟨_,rfl,_,rfl,g,C,dx,_,_,rfl,hg,T,nk,Cf ..,kn,_,rfl,dU.k (k:=Sum.inr (bP t a ch)) hk,_,rfl,?_⟩
 cases hv:aQ kvs (Sum.inr (bP t a ch):Key) with
 |some v=>exact aL ⟨_,rfl,g,C,dx,_,_,rfl,hg,T,nk,Cf ..,_,rfl,kn,v,rfl,hv ▸ dU.k (k:=Sum.inr (bP t a ch)) hk,q H kvs v (λ_ _ _ e=>e) hk hK (hK.fit _ _ hv)⟩
 |none=>
  refine bf ⟨_,rfl,l,rfl,⟨_,ai.of hl⟩,?_⟩
  have uN:(bP t a ch).length=t.length:=yi ha
  have Ci:(bP t a ch).cps.toList[a]? = some ch:=by
   have h1:=B8 (x:=t) (j:=a) (ch:=ch) (k:=a) ha ha
   rw[aA rfl,bT] at h1
   have h2:a<(bP t a ch).cps.toList.length:=by show a<(bP t a ch).cps.size;exact(show a<(bP t a ch).length from by lia)
   rw[bb h2] at h1 ⊢
   exact fh some h1
  refine kd (gB (K:=K) (xs:=ws.map V.str)) (by rw[av];lia) (λk=>decide ((ws.getD k ⟨#[]⟩).cps.toList.getD a 0=ch)) (λ_ k y _=>y = .str (ws.getD k ⟨#[]⟩)) (λH3 s3=>ai.of (s3 _ _ hl)) (λ_ _ _ _ _ _ _ _ h=>h) ?_ ?_
  .intro D k y H3 Z0 Z' hD hy s3 _ k0 k1
   rw[bE] at hy
   obtain⟨x,hx,rfl⟩:=iS.mp hy
   have lH:ws.getD k ⟨#[]⟩=x:=by rw[bT,hx];rfl
   have Pp:=((hF.mem x).mp (bj hx)).2
   have eC:=(gc.mp Pp).1
   obtain⟨c,hc⟩:∃c,x.cps.toList[a]? = some c:=⟨_,bb (show a<x.cps.toList.length from by show a<x.cps.size;exact(show a<x.length from by lia))⟩
   refine⟨_,rfl,_,rfl,x,_,c,rfl,rfl,dj (by lia),c7 hc,_,rfl,_,rfl,_,_,ch,rfl,rfl,dj (by lia),c7 Ci,rfl,_,rfl,?_⟩
   rw[sQ]
   by_cases z:c=ch
   .rw[aJ z]
    exact bf ⟨_,rfl,k1 _ _ (af.cA _) (by show decide _=true;rw[lH,bT,hc];exact aJ z) (by rw[lH])⟩
   .rw[aN z]
    exact aL (k0 _ (af.cA _) (by show decide _=false;rw[lH,bT,hc];exact aN z))
  .intro D ys H3 hD bh s3 pr
   have e:=BL pr
   rw[av,Pn (λx=>decide (x.cps.toList.getD a 0=ch))] at e
   subst e
   have gw:=s3 _ _ hk
   have nkD:D≠kn:=λz=>by rw[z,hk] at hD;cases hD
   refine⟨_,rfl,g,C,dx,_,_,rfl,s3 _ _ hg,T,nk,Cf ..,_,rfl,kn,_,rfl,lg.k (k:=Sum.inr (bP t a ch)) gw ?_,?_⟩
   .have:=hM (kvs.map (·.1)) hK.nd hK.key
    rw[av] at this
    exact this
   have hg4:upd H3 kn (.dK (putK kvs (Sum.inr (bP t a ch)) (.ref D))) g=some (.ins C dx (fc sh ce cr wo (.ref kn))):=by
    rw[ak (λz=>by rw[z,hk] at hg;cases hg)]
    exact s3 _ _ hg
   have nw:=hF.narrow ha cO hch
   have cM:gI Z (upd H3 kn (.dK (putK kvs (Sum.inr (bP t a ch)) (.ref D)))) ks wf (bP t a ch) (.ref D):=⟨D,_,rfl,hZ D hD,by rw[ak nkD];exact bh,nw,bQ (iw _ _) dk⟩
   refine⟨_,rfl,g,C,dx,_,_,rfl,hg4,T,nk,Cf ..,_,rfl,kn,.ref D,rfl,?_,q _ (putK kvs (Sum.inr (bP t a ch)) (.ref D)) (.ref D) (λb o hb e=>by rw[ak hb];exact s3 _ _ e) ao ⟨?_,?_,λx v hx=>?_⟩ cM⟩
   .have e2:aQ (putK kvs (Sum.inr (bP t a ch):Key) (.ref D)) (Sum.inr (bP t a ch))=some (.ref D):=by rw[nT,aA rfl]
    exact e2 ▸ dU.k (k:=Sum.inr (bP t a ch)) ao
   .rw[rS _ hv,dF]
    refine oZ.mpr ⟨hK.nd,by simp,λx mx y my z=>?_⟩
    have e3:y=Sum.inr (bP t a ch):=by simpa using my
    rw[z,e3] at mx
    exact abu hv mx
   .rw[rS _ hv,dF]
    intro k mk
    rcases cV.mp mk with z | z
    .exact hK.key k z
    .exact⟨_,by simpa using z,hm⟩
   .rw[nT] at hx
    by_cases z:(Sum.inr x:Key)=Sum.inr (bP t a ch)
    .rw[aA z] at hx
     cases hx
     injection z with z
     rw[z]
     exact cM
    .rw[ax z] at hx
     refine(hK.fit x v hx).keep λb o e _=>?_
     rw[ak (λw=>by rw[w,hk] at e;cases e)]
     exact s3 _ _ e
end
noncomputable def ij(g p f:V):List (Str×V):=ba "fits" f (ba "patterns" p (ba "ground" g []))
def vG(g p f:V):(ij g p f).lookup ("fits":Str)=some f:=by
 unfold ij
 rw[cL,aA rfl]
def yY(g p f:V):(ij g p f).lookup ("patterns":Str)=some p:=by
 unfold ij
 rw[cL,ax (by decide +kernel),cL,aA rfl]
def vH(g p f:V):(ij g p f).lookup ("ground":Str)=some g:=by
 unfold ij
 rw[cL,ax (by decide +kernel),cL,ax (by decide +kernel),cL,aA rfl]
section
variable{P:Program}{w:World}{K:Frag}{mg:Str->Option Value}{base:Heap}{f:Addr}{fd:FuncData}
def Hu(C:Addr):Sp:=λvs H Q _=>∃(s dx:Addr) (g p f:V),vs=[.ref s,g,p,f]/\H s=some (.ins C dx [])/\∀H':Hp,H' s=some (.ins C dx (ij g p f))->(∀b o,b≠s->H b=some o->H' b=some o)->Q .aB H'
def abx:bg ["self","ground","patterns","fits"] ["self","ground","patterns","fits"] (aV (inClass (top 36) 0)):={}
def aby(F:aX K "__init__" "Standing.__init__" (inClass (top 36) 0) f fd)(T:cD K C)(ng:bF K C "ground")(np:bF K C "patterns")(nf:bF K C "fits"):aO P w K mg base aR 1 f fd ["self","ground","patterns","fits"] (Hu C):=by
 refine F.bG abx λaH A outer s H vs Q E hr h=>?_
 refine hide λG_ aF=>?_
 obtain⟨s,dx,g,p,f,rfl,hs,q⟩:=h
 refine aF.k ?_
 refine⟨_,(ar (kX (pv 0) (pv 1) rfl)
  (ar (kX (pv 0) (pv 2) rfl)
  (aw (kX (pv 0) (pv 3) rfl)))),?_⟩
 try dsimp only[bA]
 refine⟨_,rfl,_,rfl,s,C,dx,[],rfl,hs,T,ng,(by show 0<1000;decide),?_⟩
 refine⟨_,rfl,_,rfl,s,C,dx,_,rfl,ao,T,np,(by show 1<1000;decide),?_⟩
 refine⟨_,rfl,_,rfl,s,C,dx,_,rfl,ao,T,nf,(by
  have h:¬(Str.ofString "ground")=Str.ofString "patterns":=by decide +kernel
  show(ba (Str.ofString "patterns") p [(Str.ofString "ground",g)]).length<1000
  rw[ba,ax h,ba]
  show 2<1000
  decide),?_⟩
 exact q _ ao λb o hb e=>by rw[ak hb,ak hb,ak hb];exact e
def abz(h:x∈ps):iB (.str x) (ps.map V.str)=true:=by
 unfold iB
 rw[List.any_map,zV]
 exact⟨x,h,by simp[gR]⟩
def abA(h:x∉ps):iB (.str x) (ps.map V.str)=false:=by
 unfold iB
 rw[List.any_map,JM]
 intro y my z
 have z:gR (.str y) (.str x)=true:=z
 have:y=x:=by simpa[gR] using z
 exact h (this ▸ my)
def abB(ss:List Str)(j:Nat):kZ (ss.map V.str) none (some (j:Int))=(ss.take j).map V.str:=by
 unfold kZ
 rw[HT.Lg,HT.Lh,List.drop_zero,Nat.sub_zero,List.map_take,av]
 rcases Nat.le_total j ss.length with h | h
 .rw[Nat.min_eq_left h]
 .rw[Nat.min_eq_right h,fq (by simp),fq (by simpa using h)]
def abC(ss:List Str)(j:Nat):kZ (ss.map V.str) (some (j:Int)) none=(ss.drop j).map V.str:=by
 unfold kZ
 rw[HT.Lg,HT.Lh,List.map_drop,av]
 rcases Nat.le_total j ss.length with h | h
 .rw[Nat.min_eq_left h,fq (by simp)]
 .rw[Nat.min_eq_right h,List.drop_of_length_le (by simp),List.drop_of_length_le (by simpa using h),List.take_nil]
noncomputable def fR(ps:List Str)(pl:Nat):List Str:=ps.take pl++ps.drop (pl+1)
def Hv(K:Frag)(C:Addr):Sp:=λvs H Q _=>∃(s dx p fl l:Addr) (g:V) (pats ws:List Str) (fs:List V) (pl:Nat),vs=[.ref s,.int (pl:Int)]/\H s=some (.ins C dx (ij g (.ref p) (.ref fl)))/\H p=some (.lst (pats.map V.str))/\H fl=some (.lst fs)/\fs[pl]? = some (.ref l)/\H l=some (.lst (ws.map V.str))/\pl<pats.length/\pats.length<=200/\ws.length<=64/\
 ∀q H',H q=none->af H H'->H' q=some (.lst ((ws.filter λx=>!decide (x∈fR pats pl)).map V.str))->Q (.ref q) H'
def Pq:bg ["self","place","others"] ["self","place"] (aV (inClass (top 36) 3)):={}
theorem abD(F:aX K "left" "Standing.left" (inClass (top 36) 3) f fd)(T:cD K C)(np:bF K C "patterns")(nf:bF K C "fits"):aO P w K mg base aR 1 f fd ["self","place"] (Hv K C):=by
 refine F.bG Pq λaH A outer s H vs Q E hr h=>?_
 refine hide λG_ aF=>?_
 obtain⟨s,dx,p,fl,l,g,pats,ws,fs,pl,rfl,hs,hp,dy,Pr,hl,hpl,qy,dk,q⟩:=h
 refine aF.k ?_
 refine⟨_,(ar (aK 2 Pq.nd (aS EC (nR Es (cn (pv 0) rfl) l4 (l6 (pv 1))) (nR Es (cn (pv 0) rfl) (l6 (aS d5 (pv 1) az)) l4)))
  (aw (aP (fW (js:=[2]) (ns:=["others"]) (dn (aM d6 (cn (pv 0) rfl) (pv 1))) rfl rfl rfl rfl (λ_ _ _ _=>(lh (E4 (K:=K) (rr:=λK=>AK K true) rfl uu (pv 0) (pv 1)))) (λ_ _ _ _=>(pv 0)))))),?_⟩
 try dsimp only[bA]
 have d1:pl<fs.length:=(cg.mp Pr).1
 refine⟨_,rfl,s,C,dx,_,_,rfl,hs,T,np,yY ..,_,rfl,_,rfl,p,_,rfl,ai.of hp,λq1 e1=>?_⟩
 rw[abB]
 have s1:af H (upd H q1 (.lst ((pats.take pl).map V.str))):=af.upd e1
 have h1:upd H q1 (.lst ((pats.take pl).map V.str)) q1=some (.lst ((pats.take pl).map V.str)):=ao
 generalize upd H q1 (.lst ((pats.take pl).map V.str))=H1 at s1 h1
 refine⟨_,rfl,s,C,dx,_,_,rfl,s1 _ _ hs,T,np,yY ..,_,rfl,_,_,rfl,rfl,_,rfl,p,_,rfl,ai.of (s1 _ _ hp),λq2 e2=>?_⟩
 rw[show((pl:Int)+1)=((pl+1:Nat):Int) by lia,abC]
 have s2:af H1 (upd H1 q2 (.lst ((pats.drop (pl+1)).map V.str))):=af.upd e2
 have h2:upd H1 q2 (.lst ((pats.drop (pl+1)).map V.str)) q2=some (.lst ((pats.drop (pl+1)).map V.str)):=ao
 generalize upd H1 q2 (.lst ((pats.drop (pl+1)).map V.str))=H2 at s2 h2
 refine⟨q1,q2,_,_,rfl,rfl,s2 _ _ h1,h2,zO (pN (by rw[av,av,kL,DL];lia)),λq3 e3=>?_⟩
 have s3:af H2 (upd H2 q3 (.lst ((pats.take pl).map V.str++(pats.drop (pl+1)).map V.str))):=af.upd e3
 have h3:upd H2 q3 (.lst ((pats.take pl).map V.str++(pats.drop (pl+1)).map V.str)) q3=some (.lst ((fR pats pl).map V.str)):=by rw[ao];unfold fR;rw[dF]
 generalize upd H2 q3 (.lst ((pats.take pl).map V.str++(pats.drop (pl+1)).map V.str))=H3 at s3 h3
 have eO:=(s1.trans s2).trans s3
 refine⟨_,rfl,s,C,dx,_,_,rfl,eO _ _ hs,T,nf,vG ..,_,rfl,fl,_,_,.ref l,rfl,rfl,ai.of (eO _ _ dy),c7 Pr,l,rfl,⟨_,ai.of (eO _ _ hl)⟩,?_⟩
 refine kd (gB (K:=K) (xs:=ws.map V.str)) (by rw[av];lia) (λk=>!decide (ws.getD k ⟨#[]⟩∈fR pats pl)) (λ_ k y _=>y = .str (ws.getD k ⟨#[]⟩)) (λH4 s4=>ai.of (s4 _ _ (eO _ _ hl))) (λ_ _ _ _ _ _ _ _ h=>h) ?_ ?_
 .intro D k y H4 Z0 Z' hD hy s4 _ k0 k1
  rw[bE] at hy
  obtain⟨x,hx,rfl⟩:=iS.mp hy
  have lH:ws.getD k ⟨#[]⟩=x:=by rw[bT,hx];rfl
  have da:((fR pats pl).map V.str).all j9=true:=by rw[wR];exact lR.mpr λ_ _=>rfl
  refine⟨_,rfl,_,rfl,q3,_,rfl,.inl (ai.of (s4 _ _ h3)),rfl,da,_,rfl,?_⟩
  rw[aA rfl]
  by_cases z:x∈fR pats pl
  .have e:iB (.str x) ((fR pats pl).map V.str)=true:=abz z
   rw[e]
   exact aL (k0 _ (af.cA _) (by show(!decide _)=false;rw[lH,aJ z];rfl))
  .have e:iB (.str x) ((fR pats pl).map V.str)=false:=abA z
   rw[e]
   exact bf ⟨_,rfl,k1 _ _ (af.cA _) (by show(!decide _)=true;rw[lH,aN z];rfl) (by rw[lH])⟩
 .intro D ys H4 hD bh s4 pr
  have e:=BL pr
  rw[av,Pn (λx=>!decide (x∈fR pats pl))] at e
  subst e
  refine q D H4 ?_ (eO.trans s4) bh
  cases e:H D with
  |none=>rfl
  |some o=>rw[eO _ _ e] at hD;cases hD
end
def abE{q:Addr}(h:H q=some (.lst (ws.map V.str))):AA K (.ref q) H (!decide (ws=[])):=by
 refine Or.inl ⟨_,ai.of h,?_⟩
 cases ws <;> rfl
section
variable{P:Program}{w:World}{K:Frag}{mg:Str->Option Value}{base:Heap}{f:Addr}{fd:FuncData}
def yZ(H:Hp)(aI:List (List Str))(fs:List V):Prop:=Paired (λws v=>∃q,v=V.ref q/\H q=some (.lst (ws.map V.str))/\ws.length<=64) aI fs
def Hw(C:Addr):Sp:=λvs H Q _=>∃(s dx p fl:Addr) (g:V) (pats:List Str) (aI:List (List Str)) (fs:List V),vs=[.ref s]/\H s=some (.ins C dx (ij g (.ref p) (.ref fl)))/\H p=some (.lst (pats.map V.str))/\H fl=some (.lst fs)/\yZ H aI fs/\aI.length=pats.length/\pats.length<=200/\(∀t∈pats,t.length<=1000)/\
 (((∀t∈pats,46∉t.cps.toList)/\pats.Nodup/\∀ws∈aI,ws≠[])->∀H',af H H'->Q .aB H')/\
 ∀pl H',pl<pats.length->((46∈(pats.getD pl ⟨#[]⟩).cps.toList/\∀j,j<pats.length->46∈(pats.getD j ⟨#[]⟩).cps.toList->(aI.getD pl []).length<=(aI.getD j []).length)\/(46∉(pats.getD pl ⟨#[]⟩).cps.toList/\(pats.getD pl ⟨#[]⟩∈pats.take pl\/aI.getD pl []=[])))->af H H'->Q (.int (pl:Int)) H'
def y0:bg ["self","sizes","seen","place","signs"] ["self"] (aV (inClass (top 36) 2)):={}
theorem abF(B:Bl mg)(oh:Cn mg "FREE" (.str "."))(F:aX K "narrowest" "Standing.narrowest" (inClass (top 36) 2) f fd)(T:cD K C)(np:bF K C "patterns")(nf:bF K C "fits"):aO P w K mg base aR 1 f fd ["self"] (Hw C):=by
 refine F.bG y0 λaH A outer s H vs Q E hr h=>?_
 have cU:=gS hr
 have hu:=hr.units
 have hu4:(A.deeper (PyProof.Rows.envOfC "Standing.narrowest" (aV (inClass (top 36) 2)) s.heap.objs.size f aH)).units+4<cLine:=by have:=hr.un;lia
 refine⟨_,(ar (aK 1 y0.nd (de ag))
  (ar (aK 2 y0.nd AM)
  (ar (cF (Ft (by rfl) B.yk (ab (cn (pv 0) rfl) ag)) (jB rfl (dM (bN 3 y0.nd) (dM (bN 4 y0.nd) jA)))
  (aw (bw (bR Az (jH oh (by rfl)) (pv 4))
   (aw (fu (fB jv jZ j0 iC (pv 1) (ab (eS (ab (bc d7 (by rfl) B.b7 b6 (ab (aM d6 (cn (pv 0) rfl) (pv 3)) ag)) (ab (pv 3) ag))) ag (hs:=cJ rfl)))))
   (aw (bw (PW.pt (gO (Ao (EF cU (pv 4) (pv 2))) (iA (eI (pE (aM d6 (cn (pv 0) rfl) (pv 3)) (by intro _;rfl))))))
    (aw (aP (pv 3)))
    (aw (xC cU (pv 2) (pv 4) dR rfl)))))))
  (ar (bw (eI (pE (pv 1) (by intro _;rfl)))
  (aw (aP kR))
  bC)
  (aw (aP (aM bO (bc (XI rfl hu4) (by rfl) B.Yi V5 (ab (pv 1) ag)) az))))))),?_⟩
 try dsimp only[bA]
 refine hide λG_ aF=>?_
 obtain⟨s0,dx,p,fl,g,pats,aI,fs,rfl,hs,hp,dy,hF,rX,qy,hlen,qn,qp⟩:=h
 refine aF.k ?_
 have Hx:=hF.length
 refine⟨bu _,λsz hsz sn hsn=>?_⟩
 have sa:af H (upd H sz (.lst [])):=af.upd hsz
 have sb:af (upd H sz (.lst [])) (upd (upd H sz (.lst [])) sn (.dK [])):=af.upd hsn
 have Hy:sz≠sn:=λz=>by rw[<-z,ao] at hsn;cases hsn
 have Pt:upd (upd H sz (.lst [])) sn (.dK []) sz=some (.lst (([]:List Addr).map V.ref)):=by rw[ak Hy];exact ao
 have r6:upd (upd H sz (.lst [])) sn (.dK []) sn=some (.dK []):=ao
 have abG:H sn=none:=by
  cases e:H sn with
  |none=>rfl
  |some o=>rw[sa _ _ e] at hsn;cases hsn
 have sm:=sa.trans sb
 generalize upd (upd H sz (.lst [])) sn (.dK [])=H0 at sm Pt r6
 refine⟨_,rfl,s0,C,dx,_,_,rfl,sm _ _ hs,T,np,yY ..,p,_,rfl,ai.of (sm _ _ hp),?_⟩
 refine MA (K:=K) (xs:=pats.map V.str) (λi O H2=>∃(v3 v4:Option V) (ts:List Addr) (ps:List (Int×Int)) (kvs:List (Key×V)),O=[some (.ref s0),some (.ref sz),some (.ref sn),v3,v4]/\af H H2/\H2 sz=some (.lst (ts.map V.ref))/\Paired (λt p=>H2 t=some (.tup [.int p.1,.int p.2])) ts ps/\ps.length<=i/\(∀q∈ps,∃k:Nat,q.2=(k:Int)/\k<pats.length/\46∈(pats.getD k ⟨#[]⟩).cps.toList/\q.1=((aI.getD k []).length:Int))/\(∀k,k<i->46∈(pats.getD k ⟨#[]⟩).cps.toList->∃q∈ps,q.1=((aI.getD k []).length:Int))/\H2 sn=some (.dK kvs)/\kvs.length<=i/\(∀x:Str,(aQ kvs (Sum.inr x:Key)).isSome=true↔x∈pats.take i/\46∉x.cps.toList)/\(ps=[]->(∀t∈pats.take i,46∉t.cps.toList)/\(pats.take i).Nodup/\∀ws∈aI.take i,ws≠[]))
  ⟨none,none,[],[],[],rfl,sm,Pt,.nil,aW _,(λ_ m=>nomatch m),(λk hk=>absurd hk (iu _)),r6,aW _,λx=>⟨λz=>(by cases z),λz=>(by simp at z)⟩,λ_=>⟨λ_ m=>(by simp at m),(by simp),λ_ m=>(by simp at m)⟩⟩ ?_ ?_ ?_
 .rintro i O H2 _ ⟨v3,v4,ts,ps,kvs,rfl,s2,_⟩
  exact ai.of (s2 _ _ hp)
 .intro i x pt O H2 hx abH hpt
  refine hide λG_ aZ=>?_
  obtain⟨v3,v4,ts,ps,kvs,rfl,s2,uQ,qz,hpl,Cj,Ck,rN,i6,sk,y9⟩:=abH
  rw[bE] at hx
  obtain⟨t,ht,rfl⟩:=iS.mp hx
  have hi:i<pats.length:=(cg.mp ht).1
  have za:pats.getD i ⟨#[]⟩=t:=by rw[bT,ht];rfl
  have gq:pats.take (i+1)=pats.take i++[t]:=by rw[fL,ht];rfl
  obtain⟨ws,hws⟩:∃ws,aI[i]? = some ws:=⟨_,bb (by lia)⟩
  have gF:aI.getD i []=ws:=by rw[bT,hws];rfl
  have hwk:aI.take (i+1)=aI.take i++[ws]:=by rw[fL,hws];rfl
  obtain⟨fv,zb⟩:∃fv,fs[i]? = some fv:=⟨_,bb (by lia)⟩
  obtain⟨ws',Pu,qa,rfl,d9,Cm⟩:=Paired.get hF zb
  refine aZ.k ?_
  rw[hws] at Pu
  cases Pu
  have su:af H2 (upd H2 pt (.tup [.int i,.str t])):=af.upd hpt
  refine⟨pt,_,rfl,aq.of ao,rfl,_,_,rfl,_,_,rfl,rfl,?_⟩
  have s3:=s2.trans su
  have vI:=su _ _ uQ
  have zc:=su _ _ rN
  have Hz:=Paired.bU qz λa b e=>su _ _ e
  generalize upd H2 pt (.tup [.int i,.str t])=H3 at su s3 vI zc Hz
  have e46:(!(Builtin.Str.occurrences t (Str.ofString ".") 0 t.length 1).isEmpty)=decide (46∈t.cps.toList):=DW t 46
  refine⟨_,rfl,_,t,rfl,rfl,_,rfl,?_⟩
  rw[e46]
  by_cases hd:46∈t.cps.toList
  .rw[aJ hd]
   refine bf ⟨_,rfl,.inl ⟨rfl,_,ai.of vI⟩,_,rfl,s0,C,dx,_,_,rfl,s3 _ _ hs,T,nf,vG ..,_,rfl,fl,_,_,.ref qa,rfl,rfl,ai.of (s3 _ _ dy),c7 zb,qa,_,rfl,.inl (ai.of (s3 _ _ d9)),_,rfl,(show 2<=sizeLine by decide),λu hu=>?_⟩
   have nu:u≠sz:=λz=>by rw[z,vI] at hu;cases hu
   have nsz:sn≠sz:=br Hy
   refine⟨sz,_,_,rfl,rfl,by rw[ak (br nu)];exact vI,pN (by rw[av];have:=qz.length;lia),?_⟩
   have lJ:∀b o,b≠sz->H3 b=some o->upd (upd H3 u (.tup [.int ((ws.map V.str).length:Int),.int (i:Int)])) sz (.lst (ts.map V.ref++[.ref u])) b=some o:=λb o hb e=>by rw[ak hb,ak (λz=>by rw[z,hu] at e;cases e)];exact e
   refine⟨_,_,ts++[u],ps++[(((ws.map V.str).length:Int),(i:Int))],kvs,rfl,λb o e=>lJ b o (bq e hsz) (s3 _ _ e),by rw[ao,dF];rfl,?_,by rw[dE];simp;lia,?_,?_,lJ _ _ nsz zc,by lia,λx=>?_,λz=>by simp at z⟩
   .exact qw (Paired.bU Hz λa b e=>lJ _ _ (λz=>by rw[z,vI] at e;cases e) e) (.cons (by rw[ak nu];exact ao) .nil)
   .intro q mq
    rcases cV.mp mq with z | z
    .exact Cj q z
    .rw[cj.mp z]
     exact⟨i,rfl,hi,by rw[za];exact hd,by rw[gF,av]⟩
   .intro k hk zd
    rcases wZ.mp hk with z | z
    .obtain⟨q,mq,eq⟩:=Ck k z zd
     exact⟨q,wD _ mq,eq⟩
    .exact⟨_,jt _ bt,by rw[z,gF,av]⟩
   .rw[sk x,gq]
    constructor
    .exact λz=>⟨wD _ z.1,z.2⟩
    .rintro⟨z,zz⟩
     rcases cV.mp z with z | z
     .exact⟨z,zz⟩
     .rw[cj.mp z] at zz
      exact absurd hd zz
  .rw[aN hd]
   refine aL ⟨_,rfl,_,rfl,sn,_,rfl,dU.k (k:=Sum.inr t) zc,_,rfl,?_⟩
   cases hv:(aQ kvs (Sum.inr t:Key)).isSome with
   |true=>exact bf (bf ⟨_,rfl,qp i H3 hi (.inr ⟨by rw[za];exact hd,.inl (by rw[za];exact((sk t).mp hv).1)⟩) s3⟩)
   |false=>
    refine aL ⟨_,rfl,s0,C,dx,_,_,rfl,s3 _ _ hs,T,nf,vG ..,_,rfl,fl,_,_,.ref qa,rfl,rfl,ai.of (s3 _ _ dy),c7 zb,!decide (ws=[]),abE (s3 _ _ d9),?_⟩
    by_cases Co:ws=[]
    .rw[aJ Co]
     exact bf ⟨_,rfl,qp i H3 hi (.inr ⟨by rw[za];exact hd,.inr (by rw[gF];exact Co)⟩) s3⟩
    .rw[aN Co]
     have hvn:aQ kvs (Sum.inr t:Key)=none:=by
      cases e:aQ kvs (Sum.inr t:Key) with
      |none=>rfl
      |some v=>rw[e] at hv;cases hv
     have hnt:t∉pats.take i:=λz=>by
      have:=(sk t).mpr ⟨z,hd⟩
      rw[hv] at this
      cases this
     refine aL ?_
     refine⟨_,rfl,_,rfl,sn,_,rfl,lg.k (k:=Sum.inr t) zc (pN (by lia)),?_⟩
     have lJ:∀b o,b≠sn->H3 b=some o->upd H3 sn (.dK (putK kvs (Sum.inr t) (.bl true))) b=some o:=λb o hb e=>by rw[ak hb];exact e
     refine⟨_,_,ts,ps,putK kvs (Sum.inr t) (.bl true),rfl,λb o e=>lJ b o (bq e abG) (s3 _ _ e),lJ _ _ Hy vI,Paired.bU Hz (λa b e=>lJ _ _ (λz=>by rw[z,zc] at e;cases e) e),by lia,Cj,(λk hk zd=>by
      rcases wZ.mp hk with z | z
      .exact Ck k z zd
      .rw[z,za] at zd;exact absurd zd hd),ao,bQ (uw _ _ _) (by lia),λx=>?_,λz=>?_⟩
     .rw[nT,gq]
      by_cases zx:x=t
      .subst zx
       rw[aA rfl]
       exact⟨λ_=>⟨jt _ bt,hd⟩,λ_=>rfl⟩
      .rw[ax (λw=>zx (by injection w)),sk x]
       constructor
       .exact λw=>⟨wD _ w.1,w.2⟩
       .rintro⟨w,ww⟩
        rcases cV.mp w with w | w
        .exact⟨w,ww⟩
        .exact absurd (cj.mp w) zx
     .obtain⟨a1,a2,a3⟩:=y9 z
      rw[gq,hwk]
      refine⟨λx m=>?_,oZ.mpr ⟨a2,by simp,λx mx y my w=>?_⟩,λx m=>?_⟩
      .rcases cV.mp m with w | w
       .exact a1 x w
       .rw[cj.mp w];exact hd
      .rw[cj.mp my] at w
       rw[w] at mx
       exact hnt mx
      .rcases cV.mp m with w | w
       .exact a3 x w
       .rw[cj.mp w];exact Co
 .intro O H2 abI
  refine hide λG_ bJ=>?_
  obtain⟨v3,v4,ts,ps,kvs,rfl,s2,uQ,qz,hpl,Cj,Ck,rN,i6,sk,y9⟩:=abI
  refine bJ.k ?_
  have mW:=qz.length
  rw[av,DQ] at y9
  rw[<-rX,DQ] at y9
  refine⟨_,rfl,!decide (ps=[]),?_,?_⟩
  .refine Or.inl ⟨_,ai.of uQ,?_⟩
   cases ts with
   |nil=>cases ps with
    |nil=>rfl
    |cons _ _=>cases mW
   |cons _ _=>cases ps with
    |nil=>cases mW
    |cons _ _=>rfl
  by_cases gb:ps=[]
  .rw[aJ gb]
   exact bf (qn (y9 gb) H2 s2)
  .rw[aN gb]
   refine aL ⟨_,rfl,sz,ts,ps,rfl,uQ,qz,List.length_pos_iff.mpr gb,λb tt pp hb hpb hmn=>?_⟩
   obtain⟨pp',ze,HC⟩:=Paired.getL qz hb
   rw[hpb] at ze
   cases ze
   obtain⟨k,ek,N8,i3,gw⟩:=Cj pp (bj hpb)
   refine⟨tt,_,1,.int pp.2,rfl,rfl,aq.of HC,rfl,?_⟩
   rw[ek]
   refine qp k H2 N8 (.inl ⟨i3,λj hj abJ=>?_⟩) s2
   obtain⟨q,mq,eq⟩:=Ck j (by rw[av];exact hj) abJ
   have:=hmn q mq
   lia
def HD(K:Frag)(CS CG:Addr):Sp:=λvs H Q _=>∃(s dx g cP p ce a:Addr) (fv cr wo kn:V) (l m:List Str) (w:Nat) (R:List (List C2)) (xs:List V),vs=[.ref s]/\H s=some (.ins CS dx (ij (.ref g) (.ref p) fv))/\H g=some (.ins CG cP (fc (.ref a) (.ref ce) cr wo kn))/\H a=some (.tup (l.map V.str))/\H ce=some (.lst xs)/\Paired (km H) R xs/\H p=some (.lst ((R.map (au m)).map V.str))/\cq l w R/\cq m w R/\m.length=l.length/\
 ∀q H',af H H'->H' q=some (.tup (m.map V.str))->Q (.ref q) H'
def zf:bg ["self","sheet","cells","signs"] ["self"] (aV (inClass (top 36) 5)):={}
theorem abK(B:Bl mg)(F:aX K "filled" "Standing.filled" (inClass (top 36) 5) f fd)(TS:cD K CS)(TG:cD K CG)(ng:bF K CS "ground")(np:bF K CS "patterns")(HE:bF K CG "sheet")(nc:bF K CG "cells")(abL:Fn P w K mg base "put_word" 2 (Oe K)):aO P w K mg base aR 3 f fd ["self"] (HD K CS CG):=by
 refine F.bG zf λaH A outer s H vs Q E hr h=>?_
 refine hide λG_ aF=>?_
 obtain⟨s0,dx,g,cP,p,ce,a,fv,cr,wo,kn,l,m,wd,R,xs,rfl,hs,hg,ha,mX,hR,hp,FL,FM,vJ,q⟩:=h
 refine aF.k ?_
 refine⟨_,(ar (aK 1 zf.nd (cn (cn (pv 0) rfl) rfl))
  (ar (cF (x5 .L .L (by rfl) B.yl (ab (cn (cn (pv 0) rfl) rfl) (ab (cn (pv 0) rfl) ag))) (jB rfl (dM (bN 2 zf.nd) (dM (bN 3 zf.nd) jA)))
  (aw (aK 1 zf.nd (aU abL hr (ab (pv 1) (ab (pv 2) (ab (pv 3) ag)))))))
  (aw (aP (pv 1))))),?_⟩
 try dsimp only[bA]
 have eC:=hR.length
 refine⟨_,rfl,s0,CS,dx,_,_,rfl,hs,TS,ng,vH ..,g,CG,cP,_,_,rfl,hg,TG,HE,abt ..,?_⟩
 refine⟨_,rfl,s0,CS,dx,_,_,rfl,hs,TS,ng,vH ..,g,CG,cP,_,_,rfl,hg,TG,nc,Pm ..,_,rfl,s0,CS,dx,_,_,rfl,hs,TS,np,yY ..,_,_,rfl,⟨_,ce,rfl,ai.of mX⟩,⟨_,p,rfl,ai.of hp⟩,?_⟩
 have mB:min xs.length ((R.map (au m)).map V.str).length=R.length:=by rw[av,av];lia
 refine x6 (K:=K) (k1 := .L) (k2 := .L) (xs:=xs) (ys:=(R.map (au m)).map V.str) (λi O H2=>∃v2 v3 qa,O=[some (.ref s0),some (.ref qa),v2,v3]/\af H H2/\H2 qa=some (.tup ((kl l R m i).map V.str)))
  ⟨none,none,a,rfl,af.cA _,ha⟩ ?_ ?_ ?_
 .intro i O H2 _ abM
  refine hide λG_ aZ=>?_
  obtain⟨v2,v3,qa,rfl,s2,_⟩:=abM
  refine aZ.k ?_
  exact⟨⟨_,rfl,ai.of (s2 _ _ mX)⟩,_,rfl,ai.of (s2 _ _ hp)⟩
 .intro i x y pt O H2 hx hy abN hpt
  refine hide λG_ bJ=>?_
  obtain⟨v2,v3,qa,rfl,s2,hq⟩:=abN
  obtain⟨row,hrow,t,ys,rfl,ht,lA⟩:=Paired.get hR hx
  refine bJ.k ?_
  have mV:ah R i=row:=by unfold ah;rw[bT,hrow];rfl
  have hyv:y = .str (au m (ah R i)):=by
   rw[bE,bE,hrow] at hy
   cases hy
   rw[mV]
  subst hyv
  have su:af H2 (upd H2 pt (.tup [.ref t,.str (au m (ah R i))])):=af.upd hpt
  refine⟨pt,_,rfl,aq.of ao,rfl,_,_,rfl,_,_,rfl,rfl,?_⟩
  have s3:=s2.trans su
  have yW:=su _ _ hq
  generalize upd H2 pt (.tup [.ref t,.str (au m (ah R i))])=H3 at su s3 yW
  refine⟨_,rfl,_,rfl,_,rfl,qa,t,kl l R m i,wd,ah R i,ys,au m (ah R i),rfl,yW,vz FL i,s3 _ _ ht,by rw[mV];exact lA.mono s3,λc hc=>by rw[qv];exact FL.iO i c hc,λq' H' s' jC=>?_⟩
  exact⟨_,_,q',rfl,s3.trans s',jC⟩
 .intro O H2 abO
  refine hide λG_ cG=>?_
  obtain⟨v2,v3,qa,rfl,s2,hq⟩:=abO
  refine cG.k ?_
  rw[mB,aa3 FL FM vJ] at hq
  exact⟨_,rfl,q qa H2 s2 hq⟩
def abP(sh ce cr wo kn:V):(fc sh ce cr wo kn).lookup ("narrowed":Str)=none:=by
 unfold fc
 rw[cL,ax (by decide +kernel),cL,ax (by decide +kernel),cL,ax (by decide +kernel),cL,ax (by decide +kernel),cL,ax (by decide +kernel)]
 rfl
def gI.weak{t:Str}(k:∀b o,Z b->H b=some o->Z' b)(h:gI Z H ks wf t v):gI Z' H ks wf t v:=let ⟨q,ws,e,z,a,b,c⟩:=h;⟨q,ws,e,k _ _ z a,a,b,c⟩
theorem ig.weak{Z Z':Addr->Prop}{M:Str->Prop}{H:Hp}{ks:List Str}{wf:Str->Int}{kvs:List (Key×V)}(k:∀b o,Z b->H b=some o->Z' b)(h:ig Z M H ks wf kvs):ig Z' M H ks wf kvs:=⟨h.nd,h.key,λx v e=>(h.fit x v e).weak k⟩
theorem ig.keep{Z:Addr->Prop}{M:Str->Prop}{H H':Hp}{ks:List Str}{wf:Str->Int}{kvs:List (Key×V)}(k:∀b o,H b=some (.lst o)->Z b->H' b=some (.lst o))(h:ig Z M H ks wf kvs):ig Z M H' ks wf kvs:=⟨h.nd,h.key,λx v e=>(h.fit x v e).keep k⟩
theorem HF{α β:Type}{R:α->β->Prop}:∀{xs:List α}{ys:List β}{i:Nat}{x:α}{y:β},Paired R xs ys->R x y->Paired R (xs.set i x) (ys.set i y)
 |_,_,_,_,_,.nil,_=>.nil
 |_,_,0,_,_,.cons _ t,h=>.cons h t
 |_,_,i+1,_,_,.cons g t,h=>.cons g (HF t h)
structure abQ(Z:Addr->Prop)(M:Str->Prop)(H:Hp)(CS CG s dx g cP p fl cw kn:Addr)(sh ce wo:V)(m ks:List Str)(wf:Str->Int)(w pl:Nat)(R:List (List C2))(fs cs:List V)(x:Str)(kvs:List (Key×V)):Prop where
 e1:H s=some (.ins CS dx (ij (.ref g) (.ref p) (.ref fl)))
 e2:H g=some (.ins CG cP (fc sh ce (.ref cw) wo (.ref kn)))
 e3:H kn=some (.dK kvs)
 e4:ig Z M H ks wf kvs
 e5:Cg M
 e6:H p=some (.lst ((R.map (au m)).map V.str))
 e7:H fl=some (.lst fs)
 e8:Paired (gI Z H ks wf) (R.map (au m)) fs
 e9:H cw=some (.lst cs)
 e10:Paired (λi x=>∃q us,x=V.ref q/\H q=some (.lst us)/\bH H (ki R i) us) (List.range R.length) cs
 LY:cq m w R
 e12:pl<R.length
 e13:R.length<=200
 Pw:bK x (au m (ah R pl))=true
 e15:x∈ks
 e16:46∉x.cps.toList
 e17:∀q,H q=none->Z q
 e18:∀k i,i<R.length->46∈(au m (ah R i)).cps.toList->M (au (putL m ((ah R pl).take k) (x.cps.toList.take k)) (ah R i))
structure abR(Z:Addr->Prop)(M:Str->Prop)(H H':Hp)(CS g kn s dx p fl:Addr)(m ks:List Str)(wf:Str->Int)(pl:Nat)(R:List (List C2))(fs:List V)(x:Str)(kvs:List (Key×V)):Prop where
 e1:H p=none
 e2:H fl=none
 e3:∀b o,b≠kn->H b=some o->H' b=some o
 e4:H' kn=some (.dK kvs)
 e5:ig Z M H' ks wf kvs
 e6:H' s=some (.ins CS dx (ij (.ref g) (.ref p) (.ref fl)))
 e7:H' p=some (.lst ((R.map (au (putL m (ah R pl) x.cps.toList))).map V.str))
 e8:H' fl=some (.lst fs)
 e9:Paired (gI Z H' ks wf) (R.map (au (putL m (ah R pl) x.cps.toList))) fs
def HG(K:Frag)(CS CG:Addr):Sp:=λvs H Q _=>∃(s dx g cP p fl cw kn:Addr) (sh ce wo:V) (m ks:List Str) (wf:Str->Int) (w pl:Nat) (R:List (List C2)) (fs cs:List V) (x:Str) (kvs:List (Key×V)) (Z:Addr->Prop) (M:Str->Prop),vs=[.ref s,.int (pl:Int),.str x]/\abQ Z M H CS CG s dx g cP p fl cw kn sh ce wo m ks wf w pl R fs cs x kvs/\∀(s' oB p' cE:Addr) xb vF H',abR Z M H H' CS g kn s' oB p' cE m ks wf pl R xb x vF->Q (.ref s') H'
structure abS(Z:Addr->Prop)(M:Str->Prop)(H H2:Hp)(p' cE kn:Addr)(m ks:List Str)(wf:Str->Int)(pl i:Nat)(R:List (List C2))(x:Str)(ps:List Str)(fS:List V)(ik:List (Key×V)):Prop where
 e1:∀b o,b≠kn->H b=some o->H2 b=some o
 e2:H2 kn=some (.dK ik)
 e3:ig (λb=>Z b/\b≠p'/\b≠cE) M H2 ks wf ik
 e4:H2 p'=some (.lst (ps.map V.str))
 e5:H2 cE=some (.lst fS)
 e6:mU R m pl x i ps
 e7:Paired (gI (λb=>Z b/\b≠p'/\b≠cE) H2 ks wf) ps fS
def qA:bg ["self","place","word","patterns","fits","letter","crossing","other","at","before"] ["self","place","word"] (aV (inClass (top 36) 1)):={}
theorem abT(B:Bl mg)(oh:Cn mg "FREE" (.str "."))(F:aX K "after" "Standing.after" (inClass (top 36) 1) f fd)(TS:cD K CS)(TG:cD K CG)(ng:bF K CS "ground")(np:bF K CS "patterns")(nf:bF K CS "fits")(nx:bF K CG "crossings")(vK:Nw P w K mg base "Standing" CS 1 (Hu CS))(HH:Mt P w K mg base CG "narrowed" 1 (Po K CG) []):aO P w K mg base aR 3 f fd ["self","place","word"] (HG K CS CG):=by
 refine F.bG qA λaH A outer s H vs Q E hr h=>?_
 refine hide λG_ aF=>?_
 obtain⟨s0,dx,g,cP,p,fl,cw,kn,sh,ce,wo,m,ks,wf,wd,pl,R,fs,cs,x,kvs,Z,M,rfl,⟨hs,hg,c4,hK,hM,hp,dy,vL,hcr,Px,FL,hpl,qy,cM,fT,Cp,hZ,hMk⟩,q⟩:=h
 refine aF.k ?_
 refine⟨_,(ar (aK 3 qA.nd (iZ rP (by rfl) B.pY pM (ab (cn (pv 0) rfl) ag)))
  (ar (aK 4 qA.nd (iZ rP (by rfl) B.pY pM (ab (cn (pv 0) rfl) ag)))
  (ar (cF (x5 .S .L (by rfl) B.yl (ab (pv 2) (ab (aM d6 (cn (cn (pv 0) rfl) rfl) (pv 1)) ag))) (jB rfl (dM (bN 5 qA.nd) (dM (bN 6 qA.nd) jA)))
  (ar (aK 7 qA.nd (aM bO (pv 6) az))
   (ar (aK 8 qA.nd (aM bO (pv 6) az))
   (ar (aK 9 qA.nd (aM d6 (pv 3) (pv 7)))
   (aw (bw (bR lW (aM fV (pv 9) (pv 8)) (jH oh (by rfl)))
   (ar (rH (aS rL (aS rL (nR uF (pv 9) l4 (l6 (pv 8))) (pv 5)) (nR uF (pv 9) (l6 (aS d5 (pv 8) az)) l4)) (ug (pv 3) (pv 7) set_list))
    (aw (rH (sf HH hr (cn (pv 0) rfl) (ab (aM d6 (pv 4) (pv 7)) (ab (aM d6 (pv 3) (pv 7)) (ab (pv 8) ag)))) (ug (pv 4) (pv 7) set_list))))
   bC))))))
  (ar (rH (pv 2) (ug (pv 3) (pv 1) set_list))
  (ar (rH (de (ab (pv 2) ag)) (ug (pv 4) (pv 1) set_list))
  (aw (aP (Bk vK hr (ab (cn (pv 0) rfl) (ab (pv 3) (ab (pv 4) ag))))))))))),?_⟩
 try dsimp only[bA]
 have Hx:=vL.length
 rw[av] at Hx
 have eC:x.length=(ah R pl).length:=by rw[(gc.mp cM).1,eD]
 have h9:=(FL.len hpl).2
 refine⟨_,rfl,s0,CS,dx,_,_,rfl,hs,TS,np,yY ..,p,_,rfl,.inl (ai.of hp),λp' fF=>?_⟩
 have s1:af H (upd H p' (.lst ((R.map (au m)).map V.str))):=af.upd fF
 refine⟨_,rfl,s0,CS,dx,_,_,rfl,s1 _ _ hs,TS,nf,vG ..,fl,_,rfl,.inl (ai.of (s1 _ _ dy)),λcE Cq=>?_⟩
 have s2:af (upd H p' (.lst ((R.map (au m)).map V.str))) (upd (upd H p' (.lst ((R.map (au m)).map V.str))) cE (.lst fs)):=af.upd Cq
 have Py:H cE=none:=s1.free Cq
 have zg:p'≠cE:=λz=>by rw[<-z,ao] at Cq;cases Cq
 have Pz:upd (upd H p' (.lst ((R.map (au m)).map V.str))) cE (.lst fs) p'=some (.lst ((R.map (au m)).map V.str)):=by rw[ak zg];exact ao
 have tE:upd (upd H p' (.lst ((R.map (au m)).map V.str))) cE (.lst fs) cE=some (.lst fs):=ao
 have sm:=s1.trans s2
 generalize upd (upd H p' (.lst ((R.map (au m)).map V.str))) cE (.lst fs)=H0 at sm Pz tE
 clear s1 s2
 refine hide λG_ aZ=>?_
 obtain⟨cv,je⟩:∃cv,cs[pl]? = some cv:=⟨_,bb (by have:=Px.length;rw[kM] at this;lia)⟩
 obtain⟨pl',PB,qa,us,rfl,d9,lJ⟩:=Paired.get Px je
 refine aZ.k ?_
 have epl:pl'=pl:=by
  rw[qY hpl] at PB
  exact(cQ PB).symm
 rw[epl] at lJ
 have Pb:us.length=(ah R pl).length:=by rw[<-lJ.length,aaV FL.good]
 refine⟨_,rfl,_,rfl,s0,CS,dx,_,_,rfl,sm _ _ hs,TS,ng,vH ..,g,CG,cP,_,_,rfl,sm _ _ hg,TG,nx,abr ..,_,rfl,cw,_,_,.ref qa,rfl,rfl,ai.of (sm _ _ hcr),c7 je,_,_,rfl,⟨_,x,rfl,rfl⟩,⟨_,qa,rfl,ai.of (sm _ _ d9)⟩,?_⟩
 have jm:∀b o,H b=some o->b≠p'/\b≠cE:=λb o e=>⟨bq e fF,bq e Py⟩
 have mB:min (x.cps.toList.map λc=>V.str ⟨#[c]⟩).length us.length=(ah R pl).length:=by rw[av,b9];lia
 refine x6 (K:=K) (k1 := .S) (k2 := .L) (xs:=x.cps.toList.map λc=>V.str ⟨#[c]⟩) (ys:=us) (λi O H2=>∃v5 v6 v7 v8 v9 ps fS ik,O=[some (.ref s0),some (.int (pl:Int)),some (.str x),some (.ref p'),some (.ref cE),v5,v6,v7,v8,v9]/\abS Z M H H2 p' cE kn m ks wf pl i R x ps fS ik)
  ⟨none,none,none,none,none,R.map (au m),fs,kvs,rfl,⟨λb o _ e=>sm _ _ e,sm _ _ c4,?_,Pz,tE,mU.zero hpl,?_⟩⟩ ?_ ?_ ?_
 .exact(hK.weak λb o z e=>⟨z,jm b o e⟩).keep λb o e _=>sm _ _ e
 .exact Paired.bU vL λt v e=>(e.weak λb o z e=>⟨z,jm b o e⟩).keep λb o e _=>sm _ _ e
 .intro i O H2 _ abU
  refine hide λG_ bJ=>?_
  obtain⟨v5,v6,v7,v8,v9,ps,fS,ik,rfl,SI⟩:=abU
  refine bJ.k ?_
  exact⟨⟨_,rfl,rfl⟩,_,rfl,ai.of (SI.e1 _ _ (cx d9 c4 (by intro z;cases z)) d9)⟩
 .intro i cv y pt O H2 je hy abV hpt
  refine hide λG_ cG=>?_
  obtain⟨v5,v6,v7,v8,v9,ps,fS,ik,rfl,⟨off,i3,Cr,fO,Cs,AI,jP⟩⟩:=abV
  rw[bE] at je
  obtain⟨ch,hch,rfl⟩:=iS.mp je
  obtain⟨pp,x8,u,rfl,hu⟩:=Paired.get lJ hy
  have hi:i<(ah R pl).length:=by rw[<-Pb];exact(cg.mp hy).1
  obtain⟨c,hc⟩:∃c,(ah R pl)[i]? = some c:=⟨_,bb hi⟩
  obtain⟨pp',ze,CR⟩:=aaW FL.good hc
  refine cG.k ?_
  rw[x8] at ze
  cases ze
  refine hide λG_ eX=>?_
  obtain⟨b,hb,PD,nZ,hb9,ay,an⟩:=AI.step FL cM hc hch CR
  refine eX.k ?_
  have su:af H2 (upd H2 pt (.tup [.str ⟨#[ch]⟩,.ref u])):=af.upd hpt
  refine⟨pt,_,rfl,aq.of ao,rfl,_,_,rfl,_,_,rfl,rfl,?_⟩
  have gh:∀b o,b≠kn->H b=some o->upd H2 pt (.tup [.str ⟨#[ch]⟩,.ref u]) b=some o:=λb o n e=>su _ _ (off b o n e)
  have gw:=su _ _ i3
  have kq:=su _ _ fO
  have qB:=su _ _ Cs
  have vM:=Cr.keep λb o e _=>su _ _ e
  have mY:=Paired.bU jP λt v e=>e.keep λb o e _=>su _ _ e
  generalize upd H2 pt (.tup [.str ⟨#[ch]⟩,.ref u])=H3 at gh gw kq qB vM mY
  clear su i3 fO Cs Cr jP off hpt
  have PF:H3 u=some (.tup [.int (pp.1:Int),.int (pp.2:Int)]):=gh _ _ (cx hu c4 (by intro z;cases z)) hu
  have mW:ps.length=R.length:=AI.len
  have ke:(ps.map V.str)[pp.1]? = some (.str b):=by rw[bE,hb];rfl
  refine⟨_,rfl,u,_,0,.int (pp.1:Int),rfl,rfl,aq.of PF,rfl,?_⟩
  refine⟨_,rfl,u,_,1,.int (pp.2:Int),rfl,rfl,aq.of PF,rfl,?_⟩
  refine⟨_,rfl,_,rfl,p',_,_,.str b,rfl,rfl,ai.of kq,c7 ke,?_⟩
  refine⟨_,rfl,_,rfl,b,_,sg m c,rfl,rfl,dj (by lia),c7 PD,rfl,_,rfl,?_⟩
  rw[uY,sQ]
  by_cases cO:sg m c=46
  .rw[aJ cO]
   have l1:(Txt.slice b none (some (pp.2:Int))).length<=100:=bQ (wU b _ _) (by lia)
   have l2:(Txt.slice b (some ((pp.2:Int)+1)) none).length<=100:=bQ (wU b _ _) (by lia)
   refine bf ⟨_,rfl,_,rfl,_,rfl,b,rfl,dj (by lia),_,rfl,_,_,rfl,rfl,dj (by show _+1<=_;lia),?_⟩
   refine⟨_,rfl,_,rfl,_,_,rfl,rfl,_,rfl,b,rfl,dj (by lia),_,_,rfl,rfl,dj ?_,?_⟩
   .rw[<-b9,mF,dE,b9]
    show _+1+_<=_
    lia
   have eg:=FQ (x:=b) (j:=pp.2) (ch:=ch) (Gp (by lia)) (Gq (by lia))
   refine⟨_,rfl,_,rfl,p',_,_,pp.1,rfl,rfl,kq,uG (by rw[av,mW];exact CR.lt),?_⟩
   rw[eg]
   have A1:=ay cO
   have Ct:kn≠p':=(jm _ _ c4).1
   have Cu:kn≠cE:=(jm _ _ c4).2
   have vN:∀b' o,b'≠kn->H b'=some o->upd H3 p' (.lst ((ps.map V.str).set pp.1 (.str (bP b pp.2 ch)))) b'=some o:=λb' o n e=>by rw[ak (jm _ _ e).1];exact gh b' o n e
   have tF:upd H3 p' (.lst ((ps.map V.str).set pp.1 (.str (bP b pp.2 ch)))) kn=some (.dK ik):=by rw[ak Ct];exact gw
   have Cv:upd H3 p' (.lst ((ps.map V.str).set pp.1 (.str (bP b pp.2 ch)))) p'=some (.lst ((ps.set pp.1 (bP b pp.2 ch)).map V.str)):=by rw[ao,List.map_set]
   have Cy:upd H3 p' (.lst ((ps.map V.str).set pp.1 (.str (bP b pp.2 ch)))) cE=some (.lst fS):=by rw[ak (br zg)];exact qB
   have zh:ig (λb=>Z b/\b≠p'/\b≠cE) M (upd H3 p' (.lst ((ps.map V.str).set pp.1 (.str (bP b pp.2 ch))))) ks wf ik:=vM.keep λb' o e z=>by rw[ak z.2.1];exact e
   have jS:Paired (gI (λb=>Z b/\b≠p'/\b≠cE) (upd H3 p' (.lst ((ps.map V.str).set pp.1 (.str (bP b pp.2 ch))))) ks wf) ps fS:=Paired.bU mY λt v e=>e.keep λb' o e z=>by rw[ak z.2.1];exact e
   have HI:∀b',upd H3 p' (.lst ((ps.map V.str).set pp.1 (.str (bP b pp.2 ch)))) b'=none->H b'=none/\b'≠p'/\b'≠cE:=λb' e=>by
    refine⟨?_,(λz=>by rw[z,Cv] at e;cases e),(λz=>by rw[z,Cy] at e;cases e)⟩
    cases eb:H b' with
    |none=>rfl
    |some o=>
     by_cases zk:b'=kn
     .rw[zk,tF] at e;cases e
     .rw[vN b' o zk eb] at e;cases e
   generalize upd H3 p' (.lst ((ps.map V.str).set pp.1 (.str (bP b pp.2 ch))))=H4 at vN tF Cv Cy zh jS HI
   refine hide λG_ oi=>?_
   obtain⟨lv,xV,l,ws,rfl,zl,hl4,tG,Cm⟩:=Paired.getL jS hb
   refine oi.k ?_
   have abW:((ps.set pp.1 (bP b pp.2 ch)).map V.str)[pp.1]? = some (.str (bP b pp.2 ch)):=by
    rw[bE,wF (by rw[mW];exact CR.lt)]
    rfl
   have abX:b.cps.toList.getD pp.2 0=46:=by rw[bW PD];exact cO
   have abY:ch≠46:=λz=>Cp (by rw[<-z];exact bj hch)
   have hMb:M (bP b pp.2 ch):=by
    have e1:=A1.jk pp.1 CR.lt CR.ne
    rw[wF (by rw[mW];exact CR.lt)] at e1
    rw[cQ e1]
    exact hMk (i+1) pp.1 CR.lt (by rw[jR,<-cO];exact iU (bj CR.ix))
   refine⟨_,rfl,s0,CS,dx,_,_,rfl,vN _ _ (cx hs c4 (by intro z;cases z)) hs,TS,ng,vH ..,g,cP,_,rfl,vN _ _ (cx hg c4 (by intro z;cases z)) hg,abP ..,?_⟩
   refine⟨_,rfl,_,rfl,cE,_,_,.ref l,rfl,rfl,ai.of Cy,c7 xV,_,rfl,_,rfl,p',_,_,.str (bP b pp.2 ch),rfl,rfl,ai.of Cv,c7 abW,_,rfl,?_⟩
   refine⟨g,cP,l,kn,sh,ce,.ref cw,wo,ws,ks,wf,b,pp.2,ch,ik,(λb=>Z b/\b≠p'/\b≠cE),M,rfl,vN _ _ (cx hg c4 (by intro z;cases z)) hg,tF,zh,hM,hl4,tG,Cm,nZ,by lia,abX,abY,hMb,λb' e=>⟨hZ b' (HI b' e).1,(HI b' e).2⟩,λH5 kv5 v o5 tH HJ hFv=>?_⟩
   have Cz:=o5 _ _ (br Cu) Cy
   refine⟨_,rfl,_,rfl,cE,_,_,pp.1,rfl,rfl,Cz,uG (by rw[<-jS.length,mW];exact CR.lt),?_⟩
   refine⟨_,_,_,_,_,ps.set pp.1 (bP b pp.2 ch),fS.set pp.1 v,kv5,rfl,⟨λb' o n e=>?_,?_,?_,?_,ao,A1,?_⟩⟩
   .rw[ak (jm _ _ e).2]
    exact o5 _ _ n (vN b' o n e)
   .rw[ak Cu];exact tH
   .exact HJ.keep λb' o e z=>by rw[ak z.2.2];exact e
   .rw[ak zg];exact o5 _ _ (br Ct) Cv
   .refine HF (Paired.bU jS λt v' e=>e.keep λb' o e z=>?_) (hFv.keep λb' o e z=>by rw[ak z.2.2];exact e)
    rw[ak z.2.2]
    exact o5 _ _ (cx e tF (by intro z;cases z)) e
  .rw[aN cO]
   exact aL ⟨_,_,_,_,_,ps,fS,ik,rfl,⟨gh,gw,vM,kq,qB,an cO,mY⟩⟩
 .intro O H2 abZ
  refine hide λG_ oj=>?_
  obtain⟨v5,v6,v7,v8,v9,ps,fS,ik,rfl,⟨off,i3,Cr,fO,Cs,AI,jP⟩⟩:=abZ
  refine oj.k ?_
  rw[mB] at AI
  have mW:ps.length=R.length:=AI.len
  have Ct:kn≠p':=(jm _ _ c4).1
  have Cu:kn≠cE:=(jm _ _ c4).2
  refine⟨_,rfl,_,rfl,_,rfl,p',_,_,pl,rfl,rfl,fO,uG (by rw[av,mW];exact hpl),?_⟩
  have ed:=AI.done FL eC hpl
  have kq:upd H2 p' (.lst ((ps.map V.str).set pl (.str x))) p'=some (.lst ((R.map (au (putL m (ah R pl) x.cps.toList))).map V.str)):=by rw[ao,<-List.map_set,ed]
  have gh:∀b' o,b'≠kn->H b'=some o->upd H2 p' (.lst ((ps.map V.str).set pl (.str x))) b'=some o:=λb' o n e=>by rw[ak (jm _ _ e).1];exact off b' o n e
  have gw:upd H2 p' (.lst ((ps.map V.str).set pl (.str x))) kn=some (.dK ik):=by rw[ak Ct];exact i3
  have qB:upd H2 p' (.lst ((ps.map V.str).set pl (.str x))) cE=some (.lst fS):=by rw[ak (br zg)];exact Cs
  have vM:ig (λb=>Z b/\b≠p'/\b≠cE) M (upd H2 p' (.lst ((ps.map V.str).set pl (.str x)))) ks wf ik:=Cr.keep λb' o e z=>by rw[ak z.2.1];exact e
  have mY:Paired (gI (λb=>Z b/\b≠p'/\b≠cE) (upd H2 p' (.lst ((ps.map V.str).set pl (.str x)))) ks wf) ps fS:=Paired.bU jP λt v e=>e.keep λb' o e z=>by rw[ak z.2.1];exact e
  generalize upd H2 p' (.lst ((ps.map V.str).set pl (.str x)))=H3 at gh gw kq qB vM mY
  refine⟨_,rfl,(by show 1<=sizeLine;decide),λl hl=>⟨_,rfl,_,rfl,cE,fS,_,pl,rfl,rfl,?_,uG (by rw[<-jP.length,mW];exact hpl),?_⟩⟩
  .rw[ak (λz=>by rw[<-z,qB] at hl;cases hl)]
   exact qB
  have nlp:l≠p':=λz=>by rw[z,kq] at hl;cases hl
  have nlf:l≠cE:=λz=>by rw[z,qB] at hl;cases hl
  have nlk:kn≠l:=λz=>by rw[<-z,gw] at hl;cases hl
  have hlH:H l=none:=by
   cases eb:H l with
   |none=>rfl
   |some o=>
    rw[gh l o (br nlk) eb] at hl;cases hl
  have h5:∀b o,b≠cE->H3 b=some o->upd (upd H3 l (.lst [.str x])) cE (.lst (fS.set pl (.ref l))) b=some o:=λb o n e=>by rw[ak n,ak (bq e hl)];exact e
  have PH:upd (upd H3 l (.lst [.str x])) cE (.lst (fS.set pl (.ref l))) l=some (.lst ([x].map V.str)):=by rw[ak nlf];exact ao
  have Cz:upd (upd H3 l (.lst [.str x])) cE (.lst (fS.set pl (.ref l))) cE=some (.lst (fS.set pl (.ref l))):=ao
  generalize upd (upd H3 l (.lst [.str x])) cE (.lst (fS.set pl (.ref l)))=H5 at h5 PH Cz
  have oa:∀b' o,b'≠kn->H b'=some o->H5 b'=some o:=λb' o n e=>h5 _ _ (jm _ _ e).2 (gh b' o n e)
  have HK:=oa _ _ (cx hs c4 (by intro z;cases z)) hs
  refine⟨_,rfl,s0,CS,dx,_,_,rfl,HK,TS,ng,vH ..,_,rfl,_,rfl,λs' oB sr HL bx=>⟨s',oB,.ref g,.ref p',.ref cE,rfl,ao,λH' h1 h2=>⟨rfl,?_⟩⟩⟩
  have h6:∀b o,H5 b=some o->H' b=some o:=λb o e=>h2 _ _ (λz=>by rw[z,sr] at e;cases e) (by rw[ak (λz=>by rw[z,sr] at e;cases e),ak (λz=>by rw[z,HL] at e;cases e)];exact e)
  have sR:=h5 _ _ zg kq
  have tH:=h5 _ _ Cu gw
  refine q s' oB p' cE _ ik H' ⟨fF,Py,λb o n e=>h6 _ _ (oa b o n e),h6 _ _ tH,?_,h1,h6 _ _ sR,h6 _ _ Cz,?_⟩
  .exact(vM.keep λb o e z=>h6 _ _ (h5 _ _ z.2.2 e)).weak λb o z _=>z.1
  .rw[<-ed]
   refine HF (Paired.bU mY λt v e=>(e.keep λb o e z=>h6 _ _ (h5 _ _ z.2.2 e)).weak λb o z _=>z.1) ?_
   exact⟨l,[x],rfl,hZ l hlH,h6 _ _ PH,ie.one fT Cp,by show 1<=64;decide⟩
end
theorem lK(f:Str)(v:V):∀fs:List (Str×V),(ba f v fs).length<=fs.length+1
 |[]=>aW _
 |(g,u)::r=>by
  unfold ba
  split
  .exact ir _
  .exact lS (lK f v r)
def aq.ab0{a g:Addr}{fs:List (Str×V)}(hg:H g=some (.ins C dx fs))(k:∀b o,b≠g->H b=some o->H' b=some o)(h:aq K H a xs):aq K H' a xs:=by
 rcases h with (h | ⟨o,h⟩) | h
 .exact .inl (.inl (k _ _ (cx h hg (by intro z;cases z)) h))
 .exact .inl (.inr ⟨o,k _ _ (cx h hg (by intro z;cases z)) h⟩)
 .exact .inr h
theorem km.off{H H':Hp}{D:Addr}{r:List C2}{x:V}(hD:∃o,H D=some (.lst o))(k:∀b o,b≠D->H b=some o->H' b=some o)(h:km H r x):km H' r x:=by
 obtain⟨t,ys,e,ht,hc⟩:=h
 obtain⟨o,ho⟩:=id hD
 exact⟨t,ys,e,k _ _ (cx ht ho (by intro z;cases z)) ht,hc.off hD k⟩
def km.gj{x:V}(k:∀b o,H b=some (.tup o)->H' b=some (.tup o))(h:km H r x):km H' r x:=by
 obtain⟨t,ys,e,ht,hc⟩:=h
 exact⟨t,ys,e,k _ _ ht,hc.lists k⟩
theorem HM{α β:Type}{F:α->β->Prop}(d:α):∀(R:List α) (ys:List β) (k:Nat),Paired (λi y=>F (R.getD (i - k) d) y) (List.range' k R.length) ys->Paired F R ys
 |[],ys,k,h=>by cases h;exact .nil
 |r::R,ys,k,h=>by
  rw[dC,List.range'_succ] at h
  cases h with
  |cons h t=>
   refine .cons ?_ (HM d R _ (k+1) (PJ t λi y mi e=>?_))
   .rw[Nat.sub_self] at h
    exact h
   .have h1:=(List.mem_range'_1.mp mi).1
    have e2:i - k=(i - (k+1))+1:=by lia
    rw[e2] at e
    exact e
where
 PJ {α β:Type}{F G:α->β->Prop}:∀{xs:List α}{ys:List β},Paired F xs ys->(∀x y,x∈xs->F x y->G x y)->Paired G xs ys
  |_,_,.nil,_=>.nil
  |_,_,.cons h t,k=>.cons (k _ _ bt h) (PJ t λx y m e=>k x y (bX _ m) e)
def ab1{F:List C2->β->Prop}{ys:List β}(h:Paired (λi y=>F (ah R i) y) (List.range R.length) ys):Paired F R ys:=by
 refine HM [] R ys 0 ?_
 rw[<-List.range_eq_range']
 exact h
theorem PK{α:Type}{G:α->Addr->Prop}:∀{l:List α}{ys:List V},Paired (λi y=>∃t,y=V.ref t/\G i t) l ys->∃ts:List Addr,ys=ts.map V.ref/\Paired (λt i=>G i t) ts l
 |_,_,.nil=>⟨[],rfl,.nil⟩
 |_,_,.cons ⟨t,e,h⟩ r=>by
  obtain⟨ts,e2,p⟩:=PK r
  exact⟨t::ts,by rw[e,e2];rfl,.cons h p⟩
theorem PL(h:Str->V)(x:Str):∀(n:Nat) (xs:List Str),xs.length=n->aQ (i8 (xs.map λx=>(x,h x))) (Sum.inr x:Key)=if x∈xs then some (h x) else none
 |0,xs,e=>by
  have:xs=[]:=List.length_eq_zero_iff.mp e
  subst this
  rfl
 |n+1,xs,e=>by
  have bx:xs≠[]:=λz=>by rw[z] at e;cases e
  obtain⟨ys,y,rfl⟩:∃ys y,xs=ys++[y]:=⟨xs.dropLast,xs.getLast bx,(Sk bx).symm⟩
  have ih:=PL h x n ys (by simpa using e)
  rw[dF,bI,wM,MQ,nT]
  by_cases z:x=y
  .rw[aA (by rw[z]),aA (by rw[z];simp),z]
  .rw[ax (λw=>z (by injection w)),ih]
   by_cases m:x∈ys
   .rw[aA m,aA (wD _ m)]
   .rw[ax m,ax (λw=>by rcases cV.mp w with w | w;exact m w;exact z (cj.mp w))]
theorem PM{α β γ:Type}{F:α->γ->Prop}{f:β->γ}:∀{xs:List α}{ys:List β},Paired (λx y=>F x (f y)) xs ys->Paired F xs (ys.map f)
 |_,_,.nil=>.nil
 |_,_,.cons h t=>.cons h (PM t)
section
variable{P:Program}{w:World}{K:Frag}{mg:Str->Option Value}{base:Heap}{f:Addr}{fd:FuncData}
def ab2(H H':Hp)(R:List (List C2))(cs:List V):Prop:=Paired (λi x=>∃q us,x=V.ref q/\H q=none/\H' q=some (.lst us)/\bH H' (ki R i) us) (List.range R.length) cs
def PN(K:Frag)(CG CB:Addr):Sp:=λvs H Q _=>∃(g dx a bk d:Addr) (l:List Str) (w:Nat) (kvs:List (Key×V)),vs=[.ref g,.ref bk,.ref a]/\H g=some (.ins CG dx [])/\aq K H a (l.map V.str)/\bo l w/\GoodR (aG l w)/\g9 CB H bk d kvs/\kvs.length<64/\(∀x∈aC kvs,cK x=true)/\
 ∀(ce cw wo kn:Addr) (xs cs:List V) (wd:List (Key×V)) (H':Hp),(∀b o,b≠g->H b=some o->H' b=some o)->H' g=some (.ins CG dx (fc (.ref a) (.ref ce) (.ref cw) (.ref wo) (.ref kn)))->H ce=none->H' ce=some (.lst xs)->Paired (km H') (aG l w) xs->H cw=none->H' cw=some (.lst cs)->ab2 H H' (aG l w) cs->
  H wo=none->H' wo=some (.dK wd)->(∀x∈aC kvs,aQ wd (Sum.inr x:Key)=aQ kvs (Sum.inr x:Key))->H kn=none->H' kn=some (.dK [])->Q .aB H'
def ab3:bg ["self","book","sheet"] ["self","book","sheet"] (aV (inClass (top 35) 0)):={}
theorem ab4(B:Bl mg)(F:aX K "__init__" "Ground.__init__" (inClass (top 35) 0) f fd)(T:cD K CG)(HE:bF K CG "sheet")(CF:bF K CG "cells")(ncr:bF K CG "crossings")(PQ:bF K CG "worths")(HN:bF K CG "known")(HP:Fn P w K mg base "rows_of" 5 (F7 K))(ab5:Fn P w K mg base "crossings_of" 2 (Pf K))(HQ:Mt P w K mg base CB "words" 1 (NW CB) [])(vO:Mt P w K mg base CB "worth" 5 (Gx CB) []):aO P w K mg base aR 6 f fd ["self","book","sheet"] (PN K CG CB):=by
 refine F.bG ab3 λaH A outer s H vs Q E hr h=>?_
 refine hide λG_ aF=>?_
 obtain⟨g,dx,a,bk,d,l,wd,kvs,rfl,hg,hT,S,G,hB,dk,du,q⟩:=h
 refine aF.k ?_
 refine⟨_,(ar (kX (pv 0) (pv 2) rfl)
  (ar (kX (pv 0) (fW (js:=[]) (ns:=[]) (dn (aU HP hr (ab (pv 2) ag))) rfl rfl rfl rfl (λ_ _ _ _=>gT) (λ_ _ _ _=>(si (K:=K) (rr:=pG) rfl bO (pv 0) az))) rfl)
  (ar (kX (pv 0) (aU ab5 hr (ab (cn (pv 0) rfl) ag)) rfl)
  (ar (kX (pv 0) (iZ (Xx rfl) (by rfl) B.Yh Xz (ab (fW (js:=[1]) (ns:=["book"]) (dn (A8 HQ hr (pv 1))) rfl rfl rfl rfl (λ_ _ _ _=>gT) (λ_ _ _ _=>(eS (ab (pv 0) (ab (sf vO hr (pv 1) (ab (pv 0) ag)) ag))))) ag (hs:=cJ rfl))) rfl)
  (aw (kX (pv 0) AM rfl)))))),?_⟩
 try dsimp only[bA]
 have CI:∀i,(ah (aG l wd) i).length<=9:=λi=>by
  by_cases hi:i<(aG l wd).length
  .exact(jf S (qu hi)).2.1
  .unfold ah
   rw[bT,cW (JR hi)]
   exact bu _
 have jh:=qf S
 rw[<-vo] at jh
 obtain⟨⟨HR,pR⟩,HS,HU,qC⟩:=id hB
 have PR:bk≠g:=cx pR hg (λz=>by injection z with _ _ z;unfold vg at z;cases z)
 have ndg:d≠g:=cx HS hg (λz=>by cases z)
 refine⟨_,rfl,_,rfl,g,CG,dx,[],rfl,hg,T,HE,(by show 0<1000;decide),?_⟩
 have o1:∀b o,b≠g->H b=some o->upd H g (.ins CG dx (ba "sheet" (.ref a) [])) b=some o:=λb o n e=>by rw[ak n];exact e
 have g1:upd H g (.ins CG dx (ba "sheet" (.ref a) [])) g=some (.ins CG dx (ba "sheet" (.ref a) [])):=ao
 have PU:∀b,upd H g (.ins CG dx (ba "sheet" (.ref a) [])) b=none->H b=none:=λb e=>by
  cases eb:H b with
  |none=>rfl
  |some o=>
   by_cases z:b=g
   .rw[z,g1] at e;cases e
   .rw[o1 b o z eb] at e;cases e
 generalize upd H g (.ins CG dx (ba "sheet" (.ref a) []))=H1 at o1 g1 PU
 have FC:=aq.ab0 hg o1 hT
 refine⟨_,rfl,a,l,wd,rfl,FC,S,λgg xa xd H2 hgg s2 hL rA rD=>⟨gg,rfl,⟨_,ai.of hL⟩,?_⟩⟩
 have rB:=NO rA rD
 have PV:=rB.length
 have gy:(aG l wd).length=(xa++xd).length:=by rw[qg,av,PV]
 refine comp_map gB (by lia) (λ_ i y H3=>km H3 (ah (aG l wd) i) y) (λH3 s3=>ai.of (s3 _ _ hL)) (λD i y Ha Hb _ hD k h=>h.off hD k) ?_ ?_
 .intro D i y H3 Z hD hy s3 _ k1
  refine hide λG_ aZ=>?_
  obtain⟨row,hrow,way,aa,t,ys,rfl,e1,e2,e3⟩:=Paired.get rB hy
  refine aZ.k ?_
  have er:ah (aG l wd) i=row.2:=by unfold ah;rw[qg,bT,bE,hrow];rfl
  exact⟨_,rfl,aa,_,2,.ref t,rfl,rfl,aq.of (s3 _ _ e1),rfl,k1 _ _ (af.cA _) ⟨t,ys,rfl,s3 _ _ e2,by rw[er];exact e3.mono s3⟩⟩
 .intro ce ys H3 mX vy s3 pr
  rw[<-gy] at pr
  have tI:=ab1 (F:=km H3) pr
  have fH:=s2.trans s3
  have vP:H1 ce=none:=s2.free mX
  have HV:ce≠g:=λz=>by rw[z,g1] at vP;cases vP
  refine⟨_,rfl,g,CG,dx,_,rfl,fH _ _ g1,T,CF,jX (lK _ _ _) (by show 1<1000;decide),?_⟩
  have o4:∀b o,b≠g->H3 b=some o->upd H3 g (.ins CG dx (ba "cells" (.ref ce) (ba "sheet" (.ref a) []))) b=some o:=λb o n e=>by rw[ak n];exact e
  have g4:upd H3 g (.ins CG dx (ba "cells" (.ref ce) (ba "sheet" (.ref a) []))) g=some (.ins CG dx (ba "cells" (.ref ce) (ba "sheet" (.ref a) []))):=ao
  generalize upd H3 g (.ins CG dx (ba "cells" (.ref ce) (ba "sheet" (.ref a) [])))=H4 at o4 g4
  have ng3:∀b o,H3 b=some (.tup o)->b≠g:=λb o e=>cx e (fH _ _ g1) (by intro z;cases z)
  have PX:=Paired.bU tI λr x h=>h.gj λb o e=>o4 b _ (ng3 b o e) e
  have HW:∀b o,b≠g->H b=some o->H4 b=some o:=λb o n e=>o4 b o n (fH _ _ (o1 b o n e))
  have CJ:∀b,H4 b=none->H b=none:=λb e=>by
   cases eb:H b with
   |none=>rfl
   |some o=>
    by_cases z:b=g
    .rw[z,g4] at e;cases e
    .rw[HW b o z eb] at e;cases e
  have lc:(ba "cells" (.ref ce) (ba "sheet" (.ref a) [])).lookup ("cells":Str)=some (V.ref ce):=by rw[cL,aA rfl]
  refine⟨_,rfl,g,CG,dx,_,_,rfl,g4,T,CF,lc,ce,aG l wd,ys,rfl,o4 _ _ HV vy,PX,G,jh,CI,λcw zs H5 tJ s5 ab6 lA=>?_⟩
  have ab7:cw≠g:=λz=>by rw[z,g4] at tJ;cases tJ
  refine⟨_,rfl,g,CG,dx,_,rfl,s5 _ _ g4,T,ncr,jX (bQ (lK _ _ _) (lS (lK _ _ _))) (by show 2<1000;decide),?_⟩
  have g5:=s5 _ _ g4
  have o6:∀b o,b≠g->H5 b=some o->upd H5 g (.ins CG dx (ba "crossings" (.ref cw) (ba "cells" (.ref ce) (ba "sheet" (.ref a) [])))) b=some o:=λb o n e=>by rw[ak n];exact e
  have g6:upd H5 g (.ins CG dx (ba "crossings" (.ref cw) (ba "cells" (.ref ce) (ba "sheet" (.ref a) [])))) g=some (.ins CG dx (ba "crossings" (.ref cw) (ba "cells" (.ref ce) (ba "sheet" (.ref a) [])))):=ao
  generalize upd H5 g (.ins CG dx (ba "crossings" (.ref cw) (ba "cells" (.ref ce) (ba "sheet" (.ref a) []))))=H6 at o6 g6
  have HX:∀b o,b≠g->H b=some o->H6 b=some o:=λb o n e=>o6 b o n (s5 _ _ (HW b o n e))
  have PY:g9 CB H6 bk d kvs:=⟨⟨HR,HX _ _ PR pR⟩,HX _ _ ndg HS,HU,qC⟩
  refine⟨_,rfl,bk,HR,_,rfl,HX _ _ PR pR,vi _ (by decide +kernel),bk,d,kvs,rfl,PY,dk,λlw H7 hlw s7 PZ=>⟨lw,rfl,⟨_,ai.of PZ⟩,?_⟩⟩
  have i6:(b8 (aC kvs)).length=kvs.length:=by rw[(fY _).length_eq,lF]
  have P0:∀x,x∈b8 (aC kvs)↔x∈aC kvs:=λx=>(fY _).mem_iff
  refine comp_map gB (by rw[av];lia) (λ_ i y H8=>∃t,y = .ref t/\H8 t=some (.tup [.str ((b8 (aC kvs)).getD i ⟨#[]⟩),(aQ kvs (Sum.inr ((b8 (aC kvs)).getD i ⟨#[]⟩):Key)).getD .aB])) (λH8 s8=>ai.of (s8 _ _ PZ)) (λD i y Ha Hb _ hD k h=>?_) ?_ ?_
  .obtain⟨t,e1,e2⟩:=h
   obtain⟨o,ho⟩:=hD
   exact⟨t,e1,k _ _ (cx e2 ho (by intro z;cases z)) e2⟩
  .intro D i y H8 Z hD hy s8 _ k1
   rw[bE] at hy
   refine hide λG_ bJ=>?_
   obtain⟨x,hx,rfl⟩:=iS.mp hy
   have hxd:(b8 (aC kvs)).getD i ⟨#[]⟩=x:=bW hx
   have fT:x∈aC kvs:=(P0 x).mp (bj hx)
   obtain⟨v,hv⟩:∃v,aQ kvs (Sum.inr x:Key)=some v:=by
    have:=BZ qC x
    rw[aJ fT] at this
    cases e:aQ kvs (Sum.inr x:Key) with
    |none=>rw[e] at this;cases this
    |some v=>exact⟨v,rfl⟩
   have P4:=PY.mono (s7.trans s8)
   obtain⟨⟨dx8,ab8⟩,_⟩:=id P4
   refine bJ.k ?_
   refine⟨_,rfl,_,rfl,bk,dx8,_,rfl,ab8,vi _ (by decide +kernel),_,rfl,bk,d,kvs,x,v,rfl,P4,du x fT,hv,λH9 s9=>⟨by show 2<=sizeLine;decide,λt ht=>k1 _ _ (s9.trans (af.upd ht)) ⟨t,rfl,?_⟩⟩⟩
   rw[ao,hxd,hv]
   rfl
  .intro D us H8 hD bh s8 pr8
   obtain⟨ts,rfl,P5⟩:=PK pr8
   rw[av] at P5
   have ab9:Paired (λt p=>H8 t=some (HO.tup [V.str p.1,p.2])) ts ((b8 (aC kvs)).map λx=>(x,(aQ kvs (Sum.inr x:Key)).getD .aB)):=by
    have e:=PM (F:=λt p=>H8 t=some (HO.tup [V.str p.1,p.2])) (f:=λi=>((b8 (aC kvs)).getD i ⟨#[]⟩,(aQ kvs (Sum.inr ((b8 (aC kvs)).getD i ⟨#[]⟩):Key)).getD .aB)) P5
    rw[kf (λx=>(x,(aQ kvs (Sum.inr x:Key)).getD .aB))] at e
    exact e
   refine⟨D,ts,_,rfl,bh,ab9,by rw[av];lia,λwo iP=>?_⟩
   have s6:=s7.trans s8
   have s9:af H8 (upd H8 wo (.dK (i8 ((b8 (aC kvs)).map λx=>(x,(aQ kvs (Sum.inr x:Key)).getD .aB))))):=af.upd iP
   have w9:upd H8 wo (.dK (i8 ((b8 (aC kvs)).map λx=>(x,(aQ kvs (Sum.inr x:Key)).getD .aB)))) wo=some (.dK (i8 ((b8 (aC kvs)).map λx=>(x,(aQ kvs (Sum.inr x:Key)).getD .aB)))):=ao
   generalize upd H8 wo (.dK (i8 ((b8 (aC kvs)).map λx=>(x,(aQ kvs (Sum.inr x:Key)).getD .aB))))=H9 at s9 w9
   have mZ:=s6.trans s9
   have HY:wo≠g:=λz=>by rw[z,s6 _ _ g6] at iP;cases iP
   refine⟨_,rfl,g,CG,dx,_,rfl,mZ _ _ g6,T,PQ,jX (bQ (lK _ _ _) (lS (bQ (lK _ _ _) (lS (lK _ _ _))))) (by show 3<1000;decide),?_⟩
   have oA:∀b o,b≠g->H9 b=some o->upd H9 g (.ins CG dx (ba "worths" (.ref wo) (ba "crossings" (.ref cw) (ba "cells" (.ref ce) (ba "sheet" (.ref a) []))))) b=some o:=λb o n e=>by rw[ak n];exact e
   have gA:upd H9 g (.ins CG dx (ba "worths" (.ref wo) (ba "crossings" (.ref cw) (ba "cells" (.ref ce) (ba "sheet" (.ref a) []))))) g=some (.ins CG dx (ba "worths" (.ref wo) (ba "crossings" (.ref cw) (ba "cells" (.ref ce) (ba "sheet" (.ref a) []))))):=ao
   generalize upd H9 g (.ins CG dx (ba "worths" (.ref wo) (ba "crossings" (.ref cw) (ba "cells" (.ref ce) (ba "sheet" (.ref a) [])))))=HA at oA gA
   intro kn c4
   have sB:af HA (upd HA kn (.dK [])):=af.upd c4
   have kB:upd HA kn (.dK []) kn=some (.dK []):=ao
   generalize upd HA kn (.dK [])=HB at sB kB
   have Ia:kn≠g:=λz=>by rw[z,gA] at c4;cases c4
   refine⟨_,rfl,g,CG,dx,_,rfl,sB _ _ gA,T,HN,jX (bQ (lK _ _ _) (lS (bQ (lK _ _ _) (lS (bQ (lK _ _ _) (lS (lK _ _ _))))))) (by show 4<1000;decide),?_⟩
   have Ib:∀b o,b≠g->H4 b=some o->upd HB g (.ins CG dx (fc (.ref a) (.ref ce) (.ref cw) (.ref wo) (.ref kn))) b=some o:=λb o n e=>by
    rw[ak n]
    exact sB _ _ (oA b o n (mZ _ _ (o6 b o n (s5 _ _ e))))
   have Ic:∀b o,b≠g->H5 b=some o->upd HB g (.ins CG dx (fc (.ref a) (.ref ce) (.ref cw) (.ref wo) (.ref kn))) b=some o:=λb o n e=>by
    rw[ak n]
    exact sB _ _ (oA b o n (mZ _ _ (o6 b o n e)))
   have ng5:∀b o,H5 b=some (.tup o)->b≠g:=λb o e=>cx e g5 (by intro z;cases z)
   have ng4:∀b o,H4 b=some (.tup o)->b≠g:=λb o e=>cx e g4 (by intro z;cases z)
   refine q ce cw wo kn ys zs (i8 ((b8 (aC kvs)).map λx=>(x,(aQ kvs (Sum.inr x:Key)).getD .aB))) _ (λb o n e=>Ib b o n (HW b o n e)) ao (PU _ vP) (Ib _ _ HV (o4 _ _ HV vy)) (Paired.bU PX λr x h=>h.gj λb o e=>Ib b _ (ng4 b o e) e) (CJ _ tJ) (Ic _ _ ab7 ab6) ?_ ?_ ?_ (λx hx=>?_) ?_ ?_
   .refine Paired.bU lA λi x h=>?_
    refine hide λG_ cG=>?_
    obtain⟨qq,vs,e1,e2,e3,e4⟩:=h
    refine cG.k ?_
    exact⟨qq,vs,e1,CJ _ e2,Ic _ _ (cx e3 g5 (by intro z;cases z)) e3,e4.lists λb o e=>Ic b _ (ng5 b o e) e⟩
   .refine CJ _ ?_
    cases eb:H4 wo with
    |none=>rfl
    |some o=>rw[s6 _ _ (o6 _ _ HY (s5 _ _ eb))] at iP;cases iP
   .rw[ak HY]
    exact sB _ _ (oA _ _ HY w9)
   .rw[PL (λx=>(aQ kvs (Sum.inr x:Key)).getD .aB) x _ _ rfl,aA ((P0 x).mpr hx)]
    have:=BZ qC x
    rw[aJ hx] at this
    cases e:aQ kvs (Sum.inr x:Key) with
    |none=>rw[e] at this;cases this
    |some v=>rfl
   .refine CJ _ ?_
    cases eb:H4 kn with
    |none=>rfl
    |some o=>rw[oA _ _ Ia (mZ _ _ (o6 _ _ Ia (s5 _ _ eb)))] at c4;cases c4
   .rw[ak Ia]
    exact kB
end
structure qD(K:Frag)(CG:Addr)(Z:Addr->Prop)(H:Hp)(g kn:Addr)(l:List Str)(R:List (List C2)):Prop where
 ex:∃(cP a ce cw:Addr) (wo:V) (xs cs:List V),H g=some (.ins CG cP (fc (.ref a) (.ref ce) (.ref cw) wo (.ref kn)))/\H a=some (.tup (l.map V.str))/\H ce=some (.lst xs)/\Z ce/\Paired (km H) R xs/\H cw=some (.lst cs)/\Z cw/\
  Paired (λi x=>∃q us,x=V.ref q/\Z q/\H q=some (.lst us)/\bH H (ki R i) us) (List.range R.length) cs
structure Std(CS:Addr)(Z:Addr->Prop)(H:Hp)(s g:Addr)(m:List Str)(R:List (List C2))(ks:List Str)(wf:Str->Int):Prop where
 ex:∃(dx p fl:Addr) (fs:List V),H s=some (.ins CS dx (ij (.ref g) (.ref p) (.ref fl)))/\H p=some (.lst ((R.map (au m)).map V.str))/\Z p/\H fl=some (.lst fs)/\Z fl/\Paired (gI Z H ks wf) (R.map (au m)) fs
def P6(h:(kvs.map (·.1)).Nodup)(t:iF kvs):(aC kvs).Nodup:=by
 induction kvs with
 |nil=>exact iT
 |cons q r ih=>
  obtain⟨h1,h2⟩:=gM.mp h
  have t2:iF r:=λx m=>t x (bX _ m)
  refine gM.mpr ⟨λm=>h1 ?_,ih h2 t2⟩
  obtain⟨x,ex⟩:=t q bt
  obtain⟨y,my,ey⟩:=bM.mp m
  obtain⟨z,ez⟩:=t2 y my
  refine bM.mpr ⟨y,my,?_⟩
  dsimp only at ey ⊢
  rw[ex,ez] at ey
  rw[ex,ez]
  exact fh Sum.inr ey
structure Kp(Z:Addr->Prop)(H H':Hp):Prop where
 jk:∀b o,(∀l,o ≠ .lst l)->(∀l,o ≠ .dK l)->H b=some o->H' b=some o
 lst:∀b l,Z b->H b=some (.lst l)->H' b=some (.lst l)
def Kp.refl(Z:Addr->Prop)(H:Hp):Kp Z H H:=⟨λ_ _ _ _ e=>e,λ_ _ _ e=>e⟩
def Kp.trans{H2:Hp}(a:Kp Z H H1)(b:Kp Z H1 H2):Kp Z H H2:=⟨λc o n1 n2 e=>b.jk c o n1 n2 (a.jk c o n1 n2 e),λc l z e=>b.lst c l z (a.lst c l z e)⟩
def Kp.of(a:af H H1):Kp Z H H1:=⟨λc o _ _ e=>a c o e,λc l _ e=>a c _ e⟩
theorem Kp.tup(k:Kp Z H H'){o:List V}(h:H b=some (.tup o)):H' b=some (.tup o):=k.jk _ _ (by intro _ z;cases z) (by intro _ z;cases z) h
theorem Kp.ins(k:Kp Z H H'){fs:List (Str×V)}(h:H b=some (.ins C dx fs)):H' b=some (.ins C dx fs):=k.jk _ _ (by intro _ z;cases z) (by intro _ z;cases z) h
def qD.keep{g:Addr}(k:Kp Z H H')(h:qD K CG Z H g kn l R):qD K CG Z H' g kn l R:=by
 obtain⟨cP,a,ce,cw,wo,xs,cs,h1,h2,h3,z3,h4,h5,z5,h6⟩:=h.ex
 exact⟨cP,a,ce,cw,wo,xs,cs,k.ins h1,k.tup h2,k.lst _ _ z3 h3,z3,Paired.bU h4 λr x e=>e.gj λb o e=>k.tup e,k.lst _ _ z5 h5,z5,Paired.bU h6 λi x e=>let ⟨q,us,e1,e2,e3,e4⟩:=e;⟨q,us,e1,e2,k.lst _ _ e2 e3,e4.lists λb o e=>k.tup e⟩⟩
def qD.weak{g:Addr}(k:∀b o,Z b->H b=some o->Z' b)(h:qD K CG Z H g kn l R):qD K CG Z' H g kn l R:=by
 obtain⟨cP,a,ce,cw,wo,xs,cs,h1,h2,h3,z3,h4,h5,z5,h6⟩:=h.ex
 exact⟨cP,a,ce,cw,wo,xs,cs,h1,h2,h3,k _ _ z3 h3,h4,h5,k _ _ z5 h5,Paired.bU h6 λi x e=>let ⟨q,us,e1,e2,e3,e4⟩:=e;⟨q,us,e1,k _ _ e2 e3,e3,e4⟩⟩
structure oC(CG:Addr)(H:Hp)(g kn:Addr)(ks:List Str)(wf:Str->Int):Prop where
 ex:∃(dx:Addr) (a ce cw:V) (wo:Addr),H g=some (.ins CG dx (fc a ce cw (.ref wo) (.ref kn)))/\∀x∈ks,wo≠kn/\∃qE,H wo=some (.dK qE)/\aQ qE (Sum.inr x:Key)=some (.int (wf x))
def oC.keep{g:Addr}(hk:H kn=some (.dK kvs))(k:∀b o,b≠kn->(∀l,o ≠ .lst l)->H b=some o->H' b=some o)(h:oC CG H g kn ks wf):oC CG H' g kn ks wf:=by
 obtain⟨dx,a,ce,cw,wo,h1,h2⟩:=h.ex
 refine⟨dx,a,ce,cw,wo,k _ _ (cx h1 hk (by intro z;cases z)) (by intro _ z;cases z) h1,λx mx=>?_⟩
 obtain⟨n,qE,e1,e2⟩:=h2 x mx
 exact⟨n,qE,k _ _ n (by intro _ z;cases z) e1,e2⟩
section
variable{P:Program}{w:World}{K:Frag}{mg:Str->Option Value}{base:Heap}{f:Addr}{fd:FuncData}
def P7(K:Frag)(CB CG CS:Addr):Sp:=λvs H Q _=>∃(a bk d:Addr) (l:List Str) (w:Nat) (R:List (List C2)) (kvs:List (Key×V)),vs=[.ref bk,.ref a]/\H a=some (.tup (l.map V.str))/\cq l w R/\g9 CB H bk d kvs/\kvs.length<64/\(∀x∈aC kvs,cK x=true)/\vp kvs/\
 ∀(s g kn wo:Addr) (H':Hp),af H H'->H kn=none->qD K CG (λb=>H b=none) H' g kn l R->H' kn=some (.dK [])->Std CS (λb=>H b=none) H' s g l R (aC kvs) (eN kvs)->oC CG H' g kn (aC kvs) (eN kvs)->Q (.ref s) H'
def CK:bg ["book","sheet","ground","patterns","fits"] ["book","sheet"] (aV (top 37)):={}
theorem aca(B:Bl mg)(F:aX K "first_standing" "first_standing" (top 37) f fd)(TG:cD K CG)(TB:cD K CB)(CF:bF K CG "cells")(acb:Fn P w K mg base "pattern" 2 (NP K))(Ie:Mt P w K mg base CB "fitting" 2 (N2 CB) [])(vO:Mt P w K mg base CB "worth" 5 (Gx CB) [])(acd:Fy K CB "worth")(Ig:Nw P w K mg base "Ground" CG 6 (PN K CG CB))(vK:Nw P w K mg base "Standing" CS 1 (Hu CS)):aO P w K mg base aR 8 f fd ["book","sheet"] (P7 K CB CG CS):=by
 refine F.bG CK λaH A outer s H vs Q E hr h=>?_
 refine hide λG_ aF=>?_
 obtain⟨a,bk,d,l,wd,R,kvs,rfl,hT,FL,hB,dk,du,kr,q⟩:=h
 refine aF.k ?_
 refine⟨_,(ar (aK 2 CK.nd (Bk Ig hr (ab (pv 0) (ab (pv 1) ag))))
  (ar (r8 (i:=3) CK.nd rfl (Or.inl rfl) (js:=[1]) (ns:=["sheet"]) (dn (cn (pv 2) rfl)) rfl rfl rfl rfl (λ_ _ _ _=>gT) (λ_ _ _ _=>(aU acb hr (ab (pv 1) (ab (pv 0) ag)))))
  (ar (r8 (i:=4) CK.nd rfl (Or.inl rfl) (js:=[0]) (ns:=["book"]) (dn (pv 3)) rfl rfl rfl rfl (λ_ _ _ _=>gT) (λ_ _ _ _=>(Xn (K:=K) rfl vO acd (hr.mono (by decide)) (by rfl) B.uX uE (ab (sf Ie hr (pv 1) (ab (pv 0) ag)) ag) (pv 1) rfl)))
  (aw (aP (Bk vK hr (ab (pv 2) (ab (pv 3) (ab (pv 4) ag))))))))),?_⟩
 try dsimp only[bA]
 have eR:=FL.eq
 subst eR
 have S:=FL.sh
 obtain⟨⟨HR,pR⟩,HS,HU,qC⟩:=id hB
 have c4:(aC kvs).Nodup:=P6 HU qC
 refine⟨_,rfl,_,rfl,λg cP hg tK bx=>?_⟩
 have o0:af H (upd (upd H cP (.own g)) g (.ins CG cP [])):=λb o e=>by rw[ak (bq e hg),ak (bq e tK)];exact e
 have g0:upd (upd H cP (.own g)) g (.ins CG cP []) g=some (.ins CG cP []):=ao
 generalize upd (upd H cP (.own g)) g (.ins CG cP [])=H0 at o0 g0
 refine⟨g,cP,a,bk,d,l,wd,kvs,rfl,g0,aq.of (o0 _ _ hT),S,FL.good,hB.mono o0,dk,du,λce cw wo kn xs cs qE H1 off g1 vP mX tI P8 tJ Ih PQ iP P9 HN Qa=>⟨rfl,?_⟩⟩
 have s1:af H H1:=λb o e=>off b o (bq e hg) (o0 b o e)
 have eC:=tI.length
 have jh:=qf S
 rw[<-vo] at jh
 refine⟨_,rfl,g,CG,cP,_,_,rfl,g1,TG,CF,Pm ..,ce,rfl,⟨_,ai.of mX⟩,?_⟩
 refine comp_map gB (by lia) (λ_ i y _=>y = .str (au l (ah (aG l wd) i))) (λH2 s2=>ai.of (s2 _ _ mX)) (λ_ _ _ _ _ _ _ _ h=>h) ?_ ?_
 .intro D i y H2 Z hD hy s2 _ k1
  refine hide λG_ aZ=>?_
  obtain⟨row,hrow,t,ys,rfl,ht,lA⟩:=Paired.get tI hy
  refine aZ.k ?_
  have mV:ah (aG l wd) i=row:=bW hrow
  have bD:=jf S (bj hrow)
  exact⟨_,rfl,_,rfl,a,t,l,wd,row,ys,rfl,aq.of ((s1.trans s2) _ _ hT),S,s2 _ _ ht,lA.mono s2,by lia,λc hc=>⟨(bD.2.2 c hc).1,(bD.2.2 c hc).2.1⟩,λH3 s3=>k1 _ _ s3 (by rw[mV])⟩
 .intro pp ys H2 x8 CL s2 pr
  have e:=jN pr
  have e2:(List.range xs.length).map (λi=>V.str (au l (ah (aG l wd) i)))=(aG l wd).map (λr=>V.str (au l r)):=by
   rw[<-eC]
   exact kf (λr=>V.str (au l r)) [] (aG l wd)
  rw[e2] at e
  have e3:ys=((aG l wd).map (au l)).map V.str:=by rw[e,jw];rfl
  rw[e3] at CL
  clear e e2 e3 pr
  have m5:=s1.trans s2
  refine⟨_,rfl,pp,rfl,⟨_,ai.of CL⟩,?_⟩
  refine comp_map gB (by rw[av,av];lia) (λD i y H4=>∃q ws,y = .ref q/\q≠D/\H q=none/\H4 q=some (.lst (ws.map V.str))/\ie (aC kvs) (eN kvs) (((aG l wd).map (au l)).getD i ⟨#[]⟩) ws/\ws.length<=64) (λH3 s3=>ai.of (s3 _ _ CL)) (λD i y Ha Hb _ _ k h=>?_) ?_ ?_
  .refine hide λG_ bJ=>?_
   obtain⟨q,ws,e1,e2,e3,e4,e5⟩:=h
   refine bJ.k ?_
   exact⟨q,ws,e1,e2,e3,k _ _ e2 e4,e5⟩
  .intro D i y H3 Z hD hy s3 hDo k1
   rw[bE] at hy
   refine hide λG_ cG=>?_
   obtain⟨pt,hpt,rfl⟩:=iS.mp hy
   have qe:((aG l wd).map (au l)).getD i ⟨#[]⟩=pt:=bW hpt
   have hpl:pt.length<=9:=by
    obtain⟨r,mr,rfl⟩:=bM.mp (bj hpt)
    rw[eD]
    exact(jf S mr).2.1
   have eO:=m5.trans s3
   have Ii:=hB.mono eO
   obtain⟨⟨dx3,ace⟩,_⟩:=id Ii
   refine cG.k ?_
   refine⟨_,rfl,bk,dx3,_,rfl,ace,vi _ (by decide +kernel),_,rfl,bk,d,kvs,pt,rfl,Ii,dk,by lia,λx mx=>by have:=vf (du x mx);lia,λlf H4 vQ s4 hLf=>?_⟩
   have Qb:=Ii.mono s4
   obtain⟨⟨dx4,acf⟩,_⟩:=id Qb
   have Qc:∀x,x∈b8 ((aC kvs).filter λx=>bK x pt)↔x∈aC kvs/\bK x pt=true:=λx=>by rw[(fY _).mem_iff,cy]
   have uN:(b8 ((aC kvs).filter λx=>bK x pt)).length<=kvs.length:=by
    rw[(fY _).length_eq]
    exact bQ (iw _ _) (by rw[lF];exact aW _)
   refine⟨_,rfl,lf,_,bk,dx4,_,eN kvs,rfl,rfl,ai.of hLf,by lia,acf,vi _ (by decide +kernel),λx mx H5 s5 Q' hQ' =>?_,λp out H5 hp s5 qz Ij hpw=>?_⟩
   .have fT:=((Qc x).mp mx).1
    exact⟨bk,d,kvs,x,_,rfl,Qb.mono s5,du x fT,B1 qC kr fT,λH6 s6=>hQ' H6 s6⟩
   .obtain⟨o,ho⟩:=hDo
    refine k1 _ _ (s4.trans s5) ⟨p,out,rfl,(λz=>by rw[z,s4 _ _ ho] at hp;cases hp),?_,qz,?_,by rw[Ij.length_eq];lia⟩
    .cases eb:H p with
     |none=>rfl
     |some o'=>rw[s4 _ _ (eO _ _ eb)] at hp;cases hp
    .rw[qe]
     exact⟨Ij.nodup_iff.mpr ((fY _).nodup_iff.mpr (c4.filter _)),λx=>by rw[Ij.mem_iff];exact Qc x,hpw⟩
  .intro fl fs H3 dy acg s3 pr
   have eO:=m5.trans s3
   refine⟨_,rfl,_,rfl,_,rfl,λs' oB sr HL Qd=>⟨s',oB,.ref g,.ref pp,.ref fl,rfl,ao,λH' h1 h2=>⟨rfl,?_⟩⟩⟩
   have h6:af H3 H':=λb o e=>h2 _ _ (λz=>by rw[z,sr] at e;cases e) (by rw[ak (λz=>by rw[z,sr] at e;cases e),ak (λz=>by rw[z,HL] at e;cases e)];exact e)
   have oE:af H1 H':=s2.trans (s3.trans h6)
   have qF:oC CG H' g kn (aC kvs) (eN kvs):=by
    refine⟨cP,.ref a,.ref ce,.ref cw,wo,oE _ _ g1,λx mx=>⟨λz=>?_,qE,oE _ _ iP,(P9 x mx).trans (B1 qC kr mx)⟩⟩
    have h1:=(P9 x mx).trans (B1 qC kr mx)
    rw[z,Qa] at iP
    injection iP with iP
    injection iP with iP
    rw[<-iP] at h1
    cases h1
   refine q s' g kn wo H' (eO.trans h6) (o0.free HN) ⟨cP,a,ce,cw,.ref wo,xs,cs,oE _ _ g1,(eO.trans h6) _ _ hT,oE _ _ mX,?_,Paired.bU tI λr x h=>h.gj λb o e=>oE _ _ e,oE _ _ tJ,?_,Paired.bU Ih λi x h=>?_⟩ (oE _ _ Qa) ⟨oB,pp,fl,fs,h1,h6 _ _ (s3 _ _ CL),s1.free x8,h6 _ _ acg,m5.free dy,?_⟩ qF
   .cases eb:H ce with
    |none=>rfl
    |some o=>rw[o0 _ _ eb] at vP;cases vP
   .cases eb:H cw with
    |none=>rfl
    |some o=>rw[o0 _ _ eb] at P8;cases P8
   .refine hide λG_ eX=>?_
    obtain⟨qq,us,e1,e2,e3,e4⟩:=h
    refine eX.k ?_
    refine⟨qq,us,e1,?_,oE _ _ e3,e4.lists λb o e=>oE _ _ e⟩
    cases eb:H qq with
    |none=>rfl
    |some o=>rw[o0 _ _ eb] at e2;cases e2
   .rw[av] at pr
    refine HM ⟨#[]⟩ _ fs 0 ?_
    rw[<-List.range_eq_range']
    exact Paired.bU pr λi y h=>let ⟨qq,ws,e1,_,e3,e4,e5,e6⟩:=h;⟨qq,ws,e1,e3,h6 _ _ e4,e5,e6⟩
end
end Cw
namespace L2
open PySem
variable{K:Frag}{e:Expr}
def Qe{X:Cx}{f:Str}{pos:Pos}{ta:TE}(hK:X.K=K)(he:PE X e ta)(hb:attributeBase e f X.env (eval e X.env)=eval e X.env):PE X (.Attribute e f pos) (K0 K ta f):=hK ▸ cn he hb
end L2
namespace Cw
open PySem L2
variable{C CC CG CH CS JC RU RV f fa fo il jU kn nj nr qR:Addr}{Xs ks l loose m s:List Str}{i pl w:Nat}{c:C2}{R:List (List C2)}{H H' H1:Hp}{ts:List Addr}{bB:List (List Str×Int)}{Z:Addr->Prop}{kvs:List (List Key×V)}{ys:List V}{x:Str}{K:Frag}{wf:Str->Int}{aI new nw:List (List Str)}{Kt:Bool->Hp->Prop}{r:List C2}{α:Type}{d:DefRec}{g:C2->Nat}{base h:Heap}{mg:Str->Option Value}{aej aeq:Option Addr}{ael aes:Array (Option Value)}{P q:Program}{XP:(Str->Option Value)->Heap->Prop}{YP:World->Heap->Prop}{fd:FuncData}
noncomputable def fg(wf:Str->Int)(aI:List (List Str)):Int:=(aI.map λws=>wf (ws.headD ⟨#[]⟩)).sum
def Qf(wf:Str->Int)(aI:List (List Str))(v:V):Prop:=([]∈aI/\v = .aB)\/([]∉aI/\v = .int (fg wf aI))
theorem CM:∀ws:List Str,dN (ws.map D.str)=0
 |[]=>rfl
 |x::r=>by rw[bI,dN,CM r];rfl
theorem Qg:∀aI:List (List Str),dN (aI.map λws=>D.lst (ws.map D.str))<=1
 |[]=>bu _
 |ws::r=>by
  have:=Qg r
  rw[bI,dN,dep,CM]
  lia
theorem vR(K:Frag)(H:Hp):∀ws:List Str,di K H (ws.map D.str) (ws.map V.str)
 |[]=>rfl
 |x::r=>⟨.str x,r.map V.str,rfl,rfl,vR K H r⟩
theorem Qh{K:Frag}{H:Hp}:∀{aI:List (List Str)}{fs:List V},yZ H aI fs->di K H (aI.map λws=>D.lst (ws.map D.str)) fs
 |_,_,.nil=>rfl
 |_,_,.cons ⟨q,e,hq,_⟩ r=>⟨_,_,rfl,⟨q,_,e,ai.of hq,vR K H _⟩,Qh r⟩
theorem Qi:∀aI:List (List Str),((aI.map λws=>D.lst (ws.map D.str)).any λd=>dW d (.lst []))=decide ([]∈aI)
 |[]=>rfl
 |[]::r=>by rw[aJ bt];rfl
 |(x::s)::r=>by
  rw[bI,qU,Qi r]
  show(false||decide ([]∈r))=_
  rw[Bool.false_or]
  congr 1
  simp
section
variable{w:World}
def Ik(K:Frag)(C CG:Addr):Sp:=λvs H Q _=>∃(s dx g kn p fl:Addr) (aI:List (List Str)) (fs:List V) (ks:List Str) (wf:Str->Int),vs=[.ref s]/\H s=some (.ins C dx (ij (.ref g) (.ref p) (.ref fl)))/\oC CG H g kn ks wf/\H fl=some (.lst fs)/\yZ H aI fs/\aI.length<=200/\(∀ws∈aI,∀x∈ws,x∈ks)/\
 ∀v H',Qf wf aI v->af H H'->Q v H'
theorem ach:bg ["self"] ["self"] (aV (inClass (top 36) 4)):={}
theorem aci(B:Bl mg)(F:aX K "ceiling" "Standing.ceiling" (inClass (top 36) 4) f fd)(T:cD K C)(TG:cD K CG)(nf:bF K C "fits")(ng:bF K C "ground")(nw:bF K CG "worths"):aO P w K mg base aR 1 f fd ["self"] (Ik K C CG):=by
 refine F.bG ach λaH A outer s H vs Q E hr h=>?_
 refine hide λG_ aF=>?_
 obtain⟨s0,dx,g,kn,p,fl,aI,fs,ks,wf,rfl,hs,qF,dy,hF,qy,zj,qq⟩:=h
 refine aF.k ?_
 have hu:=hr.units
 have cU:=gS hr
 refine⟨_,(ar (bw (bR (MY hu) (de ag) (cn (pv 0) rfl))
  (aw (aP kR))
  bC)
  (aw (aP (bc (Mg rfl) (by rfl) B.Nm Mf (ab (fW (js:=[0]) (ns:=["self"]) (dn (cn (pv 0) rfl)) rfl rfl rfl rfl (λ_ _ _ _=>gT) (λ_ _ _ _=>(uz (by exact cU) (Qe (K:=K) rfl (Qe (K:=K) rfl (pv 1) rfl) rfl) (si (K:=K) (rr:=Er) rfl d6 (pv 0) az) (λ_ _=>rfl)))) ag))))),?_⟩
 try dsimp only[bA]
 have vQ:=hF.length
 refine⟨bu _,λen ib=>?_⟩
 have s1:af H (upd H en (.lst [])):=af.upd ib
 have he:upd H en (.lst []) en=some (.lst []):=ao
 generalize upd H en (.lst [])=H1 at s1 he
 have Qj:yZ H1 aI fs:=Paired.bU hF λws v e=>let ⟨q,e1,e2,e3⟩:=e;⟨q,e1,s1 _ _ e2,e3⟩
 refine⟨_,rfl,s0,C,dx,_,_,rfl,s1 _ _ hs,T,nf,vG ..,fl,fs,_,.lst [],rfl,ai.of (s1 _ _ dy),Qh Qj,⟨en,_,rfl,ai.of he,rfl⟩,bQ (Qg aI) (by decide),_,rfl,?_⟩
 rw[ax b0,Qi]
 by_cases bx:[]∈aI
 .rw[aJ bx]
  exact bf (qq _ _ (.inl ⟨bx,rfl⟩) s1)
 .rw[aN bx]
  refine aL ⟨_,rfl,s0,C,dx,_,_,rfl,s1 _ _ hs,T,nf,vG ..,fl,rfl,⟨_,ai.of (s1 _ _ dy)⟩,?_⟩
  refine hide λG_ aZ=>?_
  obtain⟨cP,va,vce,afS,wo,hg,hW⟩:=qF.ex
  refine aZ.k ?_
  refine comp_map gB (by lia) (λ_ i y _=>y = .int (wf ((aI.getD i []).headD ⟨#[]⟩))) (λH2 s2=>ai.of (s2 _ _ (s1 _ _ dy))) (λ_ _ _ _ _ _ _ _ h=>h) ?_ ?_
  .intro D i y H2 Z hD hy s2 _ k1
   refine hide λG_ bJ=>?_
   obtain⟨ws,hws,q,rfl,hq,dk⟩:=Paired.get hF hy
   refine bJ.k ?_
   have lH:aI.getD i []=ws:=bW hws
   have ku:=s1.trans s2
   cases ws with
   |nil=>exact absurd (bj hws) bx
   |cons x r=>
    obtain⟨_,qE,iP,hv⟩:=hW x (zj _ (bj hws) x bt)
    refine⟨_,rfl,s0,C,dx,_,_,rfl,ku _ _ hs,T,ng,vH ..,g,CG,cP,_,_,rfl,ku _ _ hg,TG,nw,abq ..,_,rfl,q,_,0,.str x,rfl,rfl,ai.of (ku _ _ hq),(show eT ((x::r).map V.str) ((0:Nat):Int)=some (.str x) from c7 rfl),wo,.int (wf x),rfl,.inl ⟨qE,Sum.inr x,.inl (ku _ _ iP),rfl,hv.symm⟩,k1 _ _ (af.cA _) (by rw[lH];rfl)⟩
  .intro D ys H2 hD bh s2 pr
   have e:=jN pr
   rw[<-vQ] at e
   have e2:(List.range aI.length).map (λi=>V.int (wf ((aI.getD i []).headD ⟨#[]⟩)))=(aI.map λws=>wf (ws.headD ⟨#[]⟩)).map V.int:=by
    rw[jw]
    exact kf (λws=>V.int (wf (ws.headD ⟨#[]⟩))) [] aI
   rw[e2] at e
   rw[e] at bh
   exact⟨D,_,rfl,ai.of bh,qq _ _ (.inr ⟨bx,rfl⟩) (s1.trans s2)⟩
end
theorem cu.op(A:cu s m w)(h1:c.1<m.length)(h2:c.2<w):bY s c=bY m c:=by
 have a:=A.cl c h1 h2
 unfold bY
 by_cases h:sg m c=46
 .have e1:¬sg s c=35:=a.2 h
  have e2:¬sg m c=35:=by lia
  rw[aN e1,aN e2]
 .rw[a.1 h]
theorem cu.rows(A:cu s m w):aG s w=aG m w:=OW A.ln λ_ h1 h2=>A.op h1 h2
theorem cu.get(F:cq m w R)(A:cu s m w){k:Nat}(hc:(ah R pl)[k]? = some c):(au m (ah R pl)).cps.toList.getD k 0=46\/(au m (ah R pl)).cps.toList.getD k 0=(au s (ah R pl)).cps.toList.getD k 0:=by
 have hb:=F.oz hc
 rw[bW (iN hc),bW (iN hc)]
 by_cases h:sg m c=46
 .exact .inl h
 .exact .inr ((A.cl c hb.1 hb.2.1).1 h).symm
theorem cu.fit(F:cq m w R)(A:cu s m w)(pl:Nat):bK (au s (ah R pl)) (au m (ah R pl))=true:=by
 refine gc.mpr ⟨by rw[eD,eD],λk hk=>?_⟩
 rw[eD] at hk
 exact A.get F (bb hk)
theorem cu.put(F:cq m w R)(A:cu s m w)(pl:Nat)(hx:jj (au s (ah R pl))):cu s (putL m (ah R pl) (au s (ah R pl)).cps.toList) w:=by
 have hlen:=lI m (ah R pl) (au s (ah R pl)).cps.toList
 refine⟨A.sh,by rw[A.ln,hlen],λc h1 h2=>?_⟩
 rw[hlen] at h1
 rcases yU F pl (eD s (ah R pl)) h1 h2 with ⟨k,ch,hk,hch,e⟩ | ⟨_,e⟩
 .have hb:=hx ch (bj hch)
  rw[iN hk] at hch
  rw[e,cQ hch]
  exact⟨λ_=>rfl,λh=>by lia⟩
 .rw[e]
  exact A.cl c h1 h2
theorem cu.left(F:cq m w R)(A:cu s m w)(hw:∀x∈ks,cK x=true)(hf:dP ks s w=true)(hpl:pl<R.length):au s (ah R pl)∈cY m R pl ks:=by
 obtain⟨_,nd,h3⟩:=yL hf
 have et:dm s w=R.map (au s):=by unfold dm;rw[A.rows,F.eq]
 rw[et] at nd h3
 have hk:∀i,i<R.length->au s (ah R i)∈ks:=λi hi=>h3 _ (iU (qu hi))
 unfold cY
 refine cy.mpr ⟨(fY _).mem_iff.mpr (cy.mpr ⟨hk pl hpl,A.fit F pl⟩),?_⟩
 rw[aN]
 .rfl
 intro h
 obtain⟨i,hi,bx,e⟩:=Hl.mp h
 have cX:=(aa1 (hw _ (hk pl hpl))).aa2
 have e2:au s (ah R i)=au m (ah R i):=by
  apply mE
  apply ju
  intro k
  by_cases i3:k<(ah R i).length
  .have hc:(ah R i)[k]? = some (ah R i)[k]:=bb i3
   have hb:=F.oz hc
   rw[iN hc,iN hc,(A.cl _ hb.1 hb.2.1).1 λz=>cX ?_]
   rw[<-e,jR,<-z]
   exact iU (bj hc)
  .rw[cW (by rw[jR,av];lia),cW (by rw[jR,av];lia)]
 have e3:(R.map (au s))[i]? = (R.map (au s))[pl]? :=by
  rw[kj R _ hi,kj R _ hpl,e2,e]
 exact bx ((List.getElem?_inj (by rw[av];exact hi) nd).mp e3)
theorem cu.same(S:bo m w)(A:cu s m w)(h:gG m=false):s=m:=by
 refine Hj A.sh.dO S.dO A.ln λc h1 h2=>?_
 rw[A.ln] at h1
 refine(A.cl c h1 h2).1 λz=>?_
 obtain⟨x,hx,mx,_,hl,hj⟩:=S.row h1
 have:gG m=true:=by
  unfold gG
  refine zV.mpr ⟨x,mx,aJ ?_⟩
  rw[<-z]
  exact bj (hj _ h2)
 rw[h] at this
 cases this
noncomputable def vS(pl q:V):List (Str×V):=ba "parts" q (ba "place" pl [])
theorem zm(pl q:V):(vS pl q).lookup ("parts":Str)=some q:=by
 unfold vS
 rw[cL,aA rfl]
theorem qG(pl q:V):(vS pl q).lookup ("place":Str)=some pl:=by
 unfold vS
 rw[cL,ax (by decide +kernel),cL,aA rfl]
def m6(H:Hp)(ts:List Addr)(bB:List (List Str)):Prop:=Paired (λt s=>H t=some (.tup (s.map V.str))) ts bB
theorem m6.keep{bB:List (List Str)}(k:∀b o,(∀l,o ≠ .lst l)->(∀l,o ≠ .dK l)->H b=some o->H' b=some o)(h:m6 H ts bB):m6 H' ts bB:=Paired.bU h λ_ _ e=>k _ _ (by intro _ z;cases z) (by intro _ z;cases z) e
def KX(kn fo:Addr)(H H':Hp):Prop := ∀b o,b≠kn->b≠fo->H b=some o->H' b=some o
theorem KX.trans{H2:Hp}(a:KX kn fo H H1)(b:KX kn fo H1 H2):KX kn fo H H2:=λc o n1 n2 e=>b c o n1 n2 (a c o n1 n2 e)
theorem KX.of(a:af H H1):KX kn fo H H1:=λc o _ _ e=>a c o e
theorem KX.kp{kvs:List (Key×V)}(k:KX kn fo H H')(hk:H kn=some (.dK kvs))(hf:H fo=some (.lst ys))(hz:¬Z fo):Kp Z H H':=
 ⟨λb o n1 n2 e=>k b o (λz=>by rw[z,hk] at e;exact n2 _ (cQ e).symm) (λz=>by rw[z,hf] at e;exact n1 _ (cQ e).symm) e,λb l z e=>k b _ (λy=>by rw[y,hk] at e;cases e) (λy=>hz (y ▸ z)) e⟩
theorem KX.none{kn fo:Addr}{H H':Hp}(k:KX kn fo H H')(hk:∃o,H' kn=some o)(hf:∃o,H' fo=some o){b:Addr}(e:H' b=none):H b=none:=by
 obtain⟨ok,hk⟩:=hk
 obtain⟨of,hf⟩:=hf
 cases eb:H b with
 |none=>rfl
 |some o=>rw[k b o (λz=>by rw[z,hk] at e;cases e) (λz=>by rw[z,hf] at e;cases e) eb] at e;cases e
theorem Qk(hpl:pl<R.length):x∈fR (R.map (au m)) pl↔x∈ow m R pl:=by
 rw[Hl]
 unfold fR
 rw[cV]
 constructor
 .rintro(h | h)
  .obtain⟨i,hi⟩:=eQ h
   have aT:i<pl:=by
    have:=(cg.mp hi).1
    rw[kL] at this
    lia
   rw[DI aT,kj R _ (by lia)] at hi
   exact⟨i,by lia,by lia,cQ hi⟩
  .obtain⟨i,hi⟩:=eQ h
   have aT:=(cg.mp hi).1
   rw[DL,av] at aT
   rw[List.getElem?_drop,kj R _ (by lia)] at hi
   exact⟨_,by lia,by lia,cQ hi⟩
 .rintro⟨i,h1,h2,e⟩
  have hg:=kj R (au m) h1
  rcases Nat.lt_or_gt_of_ne h2 with z | z
  .refine Or.inl ?_
   exact bj (i:=i) (by rw[DI z,hg,e])
  .refine Or.inr ?_
   exact bj (i:=i - (pl+1)) (by rw[List.getElem?_drop,show pl+1+(i - (pl+1))=i from by lia,hg,e])
theorem Ql(F:cq m w R)(h:∀r∈R,46∉(au m r).cps.toList):gG m=false:=by
 refine gi.mpr λz=>?_
 unfold gG at z
 obtain⟨x,mx,hx⟩:=zV.mp z
 have hx:46∈x.cps.toList:=fK hx
 obtain⟨i,hi⟩:=eQ mx
 obtain⟨j,hj⟩:=eQ hx
 have yQ:=(cg.mp hi).1
 obtain⟨y,hy,_,_,ly,Hk⟩:=F.sh.dO.row yQ
 rw[hi] at hy
 cases hy
 have yR:j<w:=by
  have:=(cg.mp hj).1
  lia
 have e:=Hk j yR
 rw[hj] at e
 have Qm:sg m (i,j)=46:=(cQ e).symm
 have ho:bY m (i,j)=true:=by
  unfold bY
  rw[Qm]
  rfl
 obtain⟨a,b,hab⟩:=F.all (i,j) yQ yR ho
 refine h _ (qu (mT hab).1) ?_
 rw[jR,<-Qm]
 exact iU (bj hab)
theorem vT(h:cK x=true):jj x:=by
 unfold cK at h
 rw[eP,eP] at h
 intro ch m
 have hl:=fK (lR.mp h.2.2 ch m)
 have:∀c∈iG.cps.toList,97<=c/\c<=122:=by decide +kernel
 exact this ch hl
theorem zo(g p f:V){m:Str}(h1:¬m="fits")(h2:¬m="patterns")(h3:¬m="ground"):(ij g p f).lookup m=none:=by
 unfold ij
 rw[cL,ax h1,cL,ax h2,cL,ax h3]
 rfl
theorem Qn{Z:Addr->Prop}{H:Hp}{ks:List Str}{wf:Str->Int}:∀{pats:List Str}{fs:List V},Paired (gI Z H ks wf) pats fs->∃aI,yZ H aI fs/\Paired (λt ws=>ie ks wf t ws) pats aI
 |_,_,.nil=>⟨[],.nil,.nil⟩
 |_,_,.cons ⟨q,ws,e,_,h1,h2,h3⟩ r=>by
  obtain⟨aI,a,b⟩:=Qn r
  exact⟨ws::aI,.cons ⟨q,e,h1,h3⟩ a,.cons h2 b⟩
section
variable{w:World}
def Il(C:Addr):Sp:=λvs H Q _=>∃(s dx q:Addr) (p:V) (us:List V),vs=[.ref s,p,.ref q]/\H s=some (.ins C dx [])/\H q=some (.lst us)/\∀(r:Addr) (H':Hp),H r=none->H' s=some (.ins C dx (vS p (.ref r)))->H' r=some (.lst us)->(∀b o,b≠s->H b=some o->H' b=some o)->Q .aB H'
theorem acj:bg ["self","place","parts"] ["self","place","parts"] (aV (inClass (top 31) 0)):={}
theorem ack(B:Bl mg)(F:aX K "__init__" "Cases.__init__" (inClass (top 31) 0) f fd)(T:cD K C)(np:bF K C "place")(nq:bF K C "parts"):aO P w K mg base aR 1 f fd ["self","place","parts"] (Il C):=by
 refine F.bG acj λaH A outer s H vs Q E hr h=>?_
 refine hide λG_ aF=>?_
 obtain⟨s,dx,q,p,us,rfl,hs,hq,k⟩:=h
 refine aF.k ?_
 refine⟨_,(ar (kX (pv 0) (pv 1) rfl)
  (aw (kX (pv 0) (iZ rP (by rfl) B.pY pM (ab (pv 2) ag)) rfl))),?_⟩
 try dsimp only[bA]
 refine⟨_,rfl,_,rfl,s,C,dx,[],rfl,hs,T,np,(by show 0<1000;decide),?_⟩
 have nqs:q≠s:=cx hq hs (by intro z;cases z)
 refine⟨_,rfl,q,us,rfl,.inl (ai.of (by rw[ak nqs];exact hq)),λr eZ=>?_⟩
 have CN:r≠s:=λz=>by rw[z,ao] at eZ;cases eZ
 refine⟨_,rfl,s,C,dx,_,rfl,by rw[ak (br CN)];exact ao,T,nq,(by show 1<1000;decide),?_⟩
 refine k r _ (by rw[ak CN] at eZ;exact eZ) ao (by rw[ak CN];exact ao) λb o hb e=>?_
 rw[ak CN] at eZ
 rw[ak hb,ak (λz=>by rw[z,eZ] at e;cases e),ak hb]
 exact e
end
noncomputable def oG(wf:Str->Int)(R:List (List C2))(s:List Str):Int:=(R.map λr=>wf (au s r)).sum
noncomputable def jn(bB:List (List Str×Int)):Option Int:=bB.getLast?.map (·.2)
theorem vU(bB:List (List Str×Int))(p:List Str×Int):jn (bB++[p])=some p.2:=by
 unfold jn
 rw[List.getLast?_append]
 rfl
def dX(a b:Option Int):Prop := ∀x,a=some x->∃y,b=some y/\x<=y
theorem dX.refl(a:Option Int):dX a a:=λx e=>⟨x,e,rh _⟩
theorem dX.trans{a b c:Option Int}(h:dX a b)(k:dX b c):dX a c:=λx e=>by
 obtain⟨y,e1,h1⟩:=h x e
 obtain⟨z,e2,h2⟩:=k y e1
 exact⟨z,e2,Int.le_trans h1 h2⟩
def qH(H:Hp)(ts:List Addr)(bB:List (List Str×Int)):Prop:=Paired (λt p=>∃a,H t=some (.tup [.ref a,.int p.2])/\H a=some (.tup (p.1.map V.str))) ts bB
theorem qH.keep(k:∀b o,(∀l,o ≠ .lst l)->(∀l,o ≠ .dK l)->H b=some o->H' b=some o)(h:qH H ts bB):qH H' ts bB:=
 Paired.bU h λ_ _ e=>let ⟨a,e1,e2⟩:=e;⟨a,k _ _ (by intro _ z;cases z) (by intro _ z;cases z) e1,k _ _ (by intro _ z;cases z) (by intro _ z;cases z) e2⟩
structure CO(l:List Str)(w:Nat)(ks:List Str)(wf:Str->Int)(R:List (List C2))(bB:List (List Str×Int)):Prop where
 nd:(bB.map (·.1)).Nodup
 ok:∀p∈bB,cu p.1 l w/\dP ks p.1 w=true/\p.2=oG wf R p.1
 up:∀p∈bB,dX (some p.2) (jn bB)
def acm(ks:List Str)(wf:Str->Int)(m:List Str)(R:List (List C2))(c:Int):Prop := ∃aI,Paired (λt ws=>ie ks wf t ws) (R.map (au m)) aI/\[]∉aI/\fg wf aI<=c
def m7(Z:Addr->Prop)(H:Hp)(CH CC:Addr)(R:List (List C2))(ks:List Str)(wf:Str->Int)(o:Option Int):Nat->V->List Str->Prop
 |0,_,_=>False
 |n+1,v,m=>(∃p dx c,v = .ref p/\H p=some (.ins CH dx [])/\o=some c/\acm ks wf m R c)\/
   ∃(p dx q:Addr) (pl:Nat) (xs:List Str) (vs:List V),v = .ref p/\H p=some (.ins CC dx (vS (.int (pl:Int)) (.ref q)))/\Z q/\H q=some (.lst vs)/\pl<R.length/\b8 xs=cY m R pl ks/\xs.length<64/\
    Paired (λx v=>∃t u,v=V.ref t/\H t=some (.tup [.str x,u])/\bK x (au m (ah R pl))=true/\m7 Z H CH CC R ks wf o n u (putL m (ah R pl) x.cps.toList)) xs vs
theorem m7.mono{Z Z':Addr->Prop}{H H':Hp}{CH CC:Addr}{R:List (List C2)}{ks:List Str}{wf:Str->Int}{o o':Option Int}(k:Kp Z H H')(hz:∀b u,Z b->H b=some u->Z' b)(ho:dX o o'):∀{n:Nat}{v:V}{m:List Str},m7 Z H CH CC R ks wf o n v m->m7 Z' H' CH CC R ks wf o' n v m
 |0,_,_,h=>h
 |n+1,v,m,h=>by
  rcases h with ⟨p,dx,c,e,h1,h2,aI,h3,h4,h5⟩ | ⟨p,dx,q,pl,xs,vs,e,h1,hq,h2,h3,h4,h5,h6⟩
  .obtain⟨c',e',l⟩:=ho c h2
   exact .inl ⟨p,dx,c',e,k.ins h1,e',aI,h3,h4,Int.le_trans h5 l⟩
  .exact .inr ⟨p,dx,q,pl,xs,vs,e,k.ins h1,hz _ _ hq h2,k.lst _ _ hq h2,h3,h4,h5,Paired.bU h6 λx v g=>let ⟨t,u,e1,e2,e3,e4⟩:=g;⟨t,u,e1,k.tup e2,e3,m7.mono k hz ho e4⟩⟩
theorem Qo{wf:Str->Int}{ks:List Str}{g h:List C2->Str}:∀{R:List (List C2)}{aI:List (List Str)},Paired (λt ws=>ie ks wf t ws) (R.map g) aI->(∀r∈R,h r∈ks/\bK (h r) (g r)=true)->(R.map λr=>wf (h r)).sum<=fg wf aI
 |[],_,.nil,_=>rh _
 |r::R,_,.cons (b:=ws) a t,k=>by
  have ih:=Qo t λx m=>k x (bX _ m)
  have hk:=k r bt
  have hm:=(a.mem (h r)).mpr hk
  unfold fg at ih ⊢
  rw[bI,dG,bI,dG]
  refine Int.add_le_add ?_ ih
  cases ws with
  |nil=>cases hm
  |cons y q=>
   rcases cf.mp hm with z | z
   .rw[z];exact rh _
   .exact(List.pairwise_cons.mp a.up).1 _ z
theorem Qp{wf:Str->Int}{ks:List Str}{g:List C2->Str}:∀{R:List (List C2)}{aI:List (List Str)},Paired (λt ws=>ie ks wf t ws) (R.map g) aI->[]∉aI->(∀r∈R,46∉(g r).cps.toList)->fg wf aI=(R.map λr=>wf (g r)).sum
 |[],_,.nil,_,_=>rfl
 |r::R,_,.cons (b:=ws) a t,hn,k=>by
  have ih:=Qp t (λz=>hn (bX _ z)) λx m=>k x (bX _ m)
  unfold fg at ih ⊢
  rw[bI,dG,bI,dG,ih]
  congr 1
  cases ws with
  |nil=>exact absurd bt hn
  |cons y q=>
   have:=(a.mem y).mp bt
   rw[<-yT this.2 (k r bt)]
   rfl
theorem acn(F:cq m w R)(A:cu s m w)(hw:∀x∈ks,cK x=true)(hf:dP ks s w=true):∀r∈R,au s r∈ks/\bK (au s r) (au m r)=true:=λr mr=>by
 obtain⟨i,hi⟩:=eQ mr
 have BX:=(cg.mp hi).1
 have e:ah R i=r:=bW hi
 have h:=A.left F hw hf BX
 rw[e] at h
 unfold cY at h
 have h1:=(cy.mp h).1
 rw[(fY _).mem_iff,cy,e] at h1
 exact h1
theorem aco{O:St}{H0:Hp}{cv:V}(h1:O[1]? = some (some (.ref fo)))(h2:O[2]? = some (some cv))(da:H0 fo=some (.lst (ts.map V.ref)))(hF:qH H0 ts bB)(hc:Qf wf aI cv)
  (k1:∀c,jn bB=some c->[]∉aI->fg wf aI<=c->Kt true H0) (k0:(∀c,jn bB=some c->[]∉aI->c<fg wf aI)->Kt false H0) :
  D4 (λO H Q=>uf 1 O H λx H' =>∃k,AA K x H' k/\Q k H') (D4 (xt (kU (λx y H Q=>y=V.aB/\Q (V.bl !decide (x=V.aB)) H) (uf 2) (tC V.aB))) (xt (kU (pB λi j=>.bl (decide (i<=j))) (uf 2) (kU (pG K) (kU (Er K) (uf 1) (KH (rU λi=>V.int (-i)) (tC (V.int 1)))) (tC (V.int 1)))))) O H0 Kt:=by
 refine⟨_,h1,_,.inl ⟨_,ai.of da,rfl⟩,?_⟩
 rcases List.eq_nil_or_concat bB with rfl | ⟨fr,pr,rfl⟩
 .cases hF
  exact aL (k0 λc e=>nomatch e)
 .rw[List.concat_eq_append] at hF k1 k0
  obtain⟨t,c8,rfl,Qj,a,ht,_⟩:∃t c8,ts=c8++[t]/\True/\∃a,H0 t=some (.tup [.ref a,.int pr.2])/\True:=by
   have hl:=fJ hF
   have bx:ts≠[]:=λz=>by rw[z] at hl;simp at hl
   have hg:(fr++[pr])[fr.length]? = some pr:=by simp
   obtain⟨t,ht,a,h3,_⟩:=Paired.get hF hg
   refine⟨t,ts.dropLast,?_,trivial,a,h3,trivial⟩
   have e:=Sk bx
   have:ts.getLast bx=t:=by
    have tL:=List.getLast?_eq_getElem? (l:=ts)
    rw[List.getLast?_eq_some_getLast bx] at tL
    have hlen:ts.length - 1=fr.length:=by rw[hl];simp
    rw[hlen,ht] at tL
    exact cQ tL
   rw[<-this]
   exact e.symm
  have bx:(!((c8++[t]).map V.ref).isEmpty)=true:=by simp
  rw[bx]
  refine bf ?_
  rw[vU] at k1 k0
  rcases hc with ⟨hn,rfl⟩ | ⟨hn,rfl⟩
  .refine⟨_,h2,rfl,_,rfl,?_⟩
   exact aL (k0 λc _ z=>absurd hn z)
  .refine⟨_,h2,rfl,_,rfl,?_⟩
   refine bf ⟨_,h2,_,h1,_,rfl,fo,_,-1,.ref t,rfl,rfl,ai.of da,by rw[dF];exact Lj _ _,t,_,1,.int pr.2,rfl,rfl,aq.of ht,rfl,_,_,rfl,rfl,_,rfl,?_⟩
   by_cases hle:fg wf aI<=pr.2
   .rw[aJ hle]
    exact k1 _ rfl hn hle
   .rw[aN hle]
    exact k0 λc e _=>by cases e;lia
section
variable{w:World}
structure acp(K:Frag)(CG CS:Addr)(Z:Addr->Prop)(M:Str->Prop)(H:Hp)(s g kn fo:Addr)(w n:Nat)(l m ks:List Str)(wf:Str->Int)(R:List (List C2))(kvs:List (Key×V))(ts:List Addr)(bB:List (List Str×Int)):Prop where
 e1:qD K CG Z H g kn l R
 e2:Std CS Z H s g m R ks wf
 ew:oC CG H g kn ks wf
 e3:H kn=some (.dK kvs)
 e4:ig Z M H ks wf kvs
 e5:Cg M
 e6:∀m' pl x k i,cq m' w R->m'.length=l.length->pl<R.length->x∈ks->bK x (au m' (ah R pl))=true->(∀j,j<R.length->46∈(au m' (ah R j)).cps.toList->∃y∈ks,bK y (au m' (ah R j))=true)->i<R.length->46∈(au m' (ah R i)).cps.toList->M (au (putL m' ((ah R pl).take k) (x.cps.toList.take k)) (ah R i))
 e7:cq l w R
 e8:cq m w R
 e9:m.length=l.length
 ea:R.length<=200
 eb:∀x∈ks,cK x=true
 ec:ks.Nodup
 ed:ks.length<64
 ee:∀q,H q=none->Z q
 ef:¬Z fo
 eg:H fo=some (.lst (ts.map V.ref))
 eh:qH H ts bB
 ei:CO l w ks wf R bB
 ej:∀F:List (List Str),F.Nodup->(∀s∈F,cu s l w/\dP ks s w=true)->F.length<=15752961
 el:∀s,cu s m w->cu s l w
 ek:(fN m w).length<n
structure acq(Z:Addr->Prop)(M:Str->Prop)(H H':Hp)(CH CC kn fo:Addr)(w n:Nat)(l m ks:List Str)(wf:Str->Int)(R:List (List C2))(kvs:List (Key×V))(ts c8:List Addr)(bB new:List (List Str×Int))(v:V):Prop where
 e1:KX kn fo H H'
 e2:H' kn=some (.dK kvs)
 e3:ig Z M H' ks wf kvs
 e4:H' fo=some (.lst ((ts++c8).map V.ref))
 e5:qH H' (ts++c8) (bB++new)
 e6:CO l w ks wf R (bB++new)
 e7:dX (jn bB) (jn (bB++new))
 e8:∀s,cu s m w->dP ks s w=true->dX (some (oG wf R s)) (jn (bB++new))
 e9:m7 Z H' CH CC R ks wf (jn (bB++new)) n v m
def CP(K:Frag)(CG CS CH CC:Addr)(n:Nat):Sp:=λvs H Q _=>∃(s g kn fo:Addr) (w:Nat) (l m ks:List Str) (wf:Str->Int) (R:List (List C2)) (kvs:List (Key×V)) (Z:Addr->Prop) (M:Str->Prop) (ts:List Addr) (bB:List (List Str×Int)),vs=[.ref s,.ref fo]/\acp K CG CS Z M H s g kn fo w n l m ks wf R kvs ts bB/\∀v new c8 vF H',acq Z M H H' CH CC kn fo w n l m ks wf R vF ts c8 bB new v->Q v H'
structure acs(Z:Addr->Prop)(M:Str->Prop)(H3 Hi:Hp)(CH CC kn fo pa:Addr)(w n pl i:Nat)(l m ks:List Str)(wf:Str->Int)(R:List (List C2))(Xs:List Str)(ts c8:List Addr)(bB new:List (List Str×Int))(kv:List (Key×V))(us:List V):Prop where
 e1:∀b o,b≠kn->b≠fo->b≠pa->H3 b=some o->Hi b=some o
 e2:Hi kn=some (.dK kv)
 e3:ig (λb=>Z b/\b≠pa) M Hi ks wf kv
 e4:Hi fo=some (.lst ((ts++c8).map V.ref))
 e5:qH Hi (ts++c8) (bB++new)
 e6:CO l w ks wf R (bB++new)
 e7:dX (jn bB) (jn (bB++new))
 e8:∀s,cu s m w->dP ks s w=true->au s (ah R pl)∈Xs.take i->dX (some (oG wf R s)) (jn (bB++new))
 e9:Hi pa=some (.lst us)
 ea:Paired (λx v=>∃t u,v=V.ref t/\Hi t=some (.tup [.str x,u])/\bK x (au m (ah R pl))=true/\m7 (λb=>Z b/\b≠pa) Hi CH CC R ks wf (jn (bB++new)) n u (putL m (ah R pl) x.cps.toList)) (Xs.take i) us
theorem CQ:bg ["standing","found","ceiling","place"] ["standing","found"] (aV (top 42)):={}
theorem acu(n:Nat)(B:Bl mg)(F:aX K "bounding_paper" "bounding_paper" (top 42) f fd)(Im:Fn P w K mg base "bounding_paper" (n+4) (CP K CG CS CH CC n))(vV:Mt P w K mg base CS "ceiling" 1 (Ik K CS CG) [])(vW:Mt P w K mg base CS "narrowest" 1 (Hw CS) [])(vX:Mt P w K mg base CS "filled" 3 (HD K CS CG) [])(vY:Mt P w K mg base CS "left" 1 (Hv K CS) [])(vZ:Mt P w K mg base CS "after" 3 (HG K CS CG) [])(tM:Bq K mg "Short" CH)(wa:Nw P w K mg base "Cases" CC 1 (Il CC)) :
  aO P w K mg base aR (n+5) f fd ["standing","found"] (CP K CG CS CH CC (n+1)):=by
 refine F.bG CQ λaH A outer s H vs Q E hr h=>?_
 refine hide λG_ aF=>?_
 obtain⟨s0,g,kn,fo,wd,l,m,ks,wf,R,kvs,Z,M,ts,bB,rfl,⟨hG,hS,qF,c4,hK,hM,Qq,FL,FM,vJ,qy,du,cX,dk,hZ,mR,da,hF,oH,uv,Qr,hn⟩,q⟩:=h
 refine aF.k ?_
 have hu:=hr.units
 have cU:=gS hr
 refine⟨_,(ar (aK 2 CQ.nd (A8 vV hr (pv 0)))
  (ar (bw (PW.pt (pq (pE (pv 1) (by intro _;rfl)) (pq (bR Tt (pv 2) kR) (rE (bR lX (pv 2) (aM bO (aM d6 (pv 1) (xo xp az)) az))))))
  (aw (aP (MW tM (by rfl))))
  bC)
  (ar (aK 3 CQ.nd (A8 vW hr (pv 0)))
  (ar (bw (bR xq (pv 3) kR)
  (ar (fu (fB jv jZ j0 iC (pv 1) (ab (eS (ab (A8 vX hr (pv 0)) (ab (pv 2) ag))) ag (hs:=cJ rfl))))
   (aw (aP (MW tM (by rfl)))))
  bC)
  (aw (aP (Bk wa hr (ab (pv 3) (ab (fW (js:=[1,3,0]) (ns:=["found","place","standing"]) (dn (sf vY hr (pv 0) (ab (pv 3) ag))) rfl rfl rfl rfl (λ_ _ _ _=>gT) (λ_ _ _ _=>(eS (ab (pv 0) (ab (aU Im hr (ab (sf vZ hr (pv 3) (ab (pv 2) (ab (pv 0) ag))) (ab (pv 1) ag))) ag))))) ag (hs:=cJ rfl)) (hs:=cJ rfl))))))))),?_⟩
 try dsimp only[bA]
 refine hide λG_ aZ=>?_
 obtain⟨dx,p,fl,fs,hs,hp,zp,dy,zfl,vL⟩:=hS.ex
 obtain⟨cP,a,ce,cw,wo,xs,cs,hg,hT,mX,zce,tI,tJ,acv,Ih⟩:=hG.ex
 obtain⟨aI,CT,oI⟩:=Qn vL
 refine aZ.k ?_
 have Hx:=CT.length
 have Qs:=oI.length
 rw[av] at Qs
 have CU:=fJ hF
 have Qt:∀{i:Nat},i<R.length->(R.map (au m)).getD i ⟨#[]⟩=au m (ah R i):=λhi=>bW (kj R _ hi)
 have xI:bB.length<=15752961:=by
  have:=uv (bB.map (·.1)) oH.nd λs ms=>by
   obtain⟨p,mp,rfl⟩:=bM.mp ms
   exact⟨(oH.ok p mp).1,(oH.ok p mp).2.1⟩
  rwa [av] at this
 refine⟨_,rfl,s0,dx,_,rfl,hs,zo _ _ _ (by decide +kernel) (by decide +kernel) (by decide +kernel),s0,dx,g,kn,p,fl,aI,fs,ks,wf,rfl,hs,qF,dy,CT,by lia,λws mws x mx=>?_,λcv H0 je m8=>?_⟩
 .obtain⟨i,hi⟩:=eQ mws
  obtain⟨t,_,tG⟩:=Paired.get oI hi
  exact((tG.mem x).mp mx).1
 refine aco rfl rfl (m8 _ _ da) (hF.keep λb o _ _ e=>m8 _ _ e) je (λc Qu bx hle=>?_) (λvv=>?_)
 .refine bf λx gJ hx tK Qd=>?_
  have s4:af H0 (upd (upd H0 gJ (.own x)) x (.ins CH gJ [])):=λb o e=>by rw[ak (bq e hx),ak (bq e tK)];exact e
  have zr:upd (upd H0 gJ (.own x)) x (.ins CH gJ []) x=some (.ins CH gJ []):=ao
  generalize upd (upd H0 gJ (.own x)) x (.ins CH gJ [])=H4 at s4 zr
  have fI:=m8.trans s4
  refine q (.ref x) [] [] kvs H4 ⟨KX.of fI,fI _ _ c4,hK.keep λb o e _=>fI _ _ e,by rw[dJ];exact fI _ _ da,by rw[dJ,dJ];exact hF.keep λb o _ _ e=>fI _ _ e,by rw[dJ];exact oH,by rw[dJ];exact dX.refl _,λs A hf=>?_,?_⟩
  .rw[dJ,Qu]
   refine λy e=>⟨c,rfl,?_⟩
   cases e
   exact Int.le_trans (Qo oI (acn FM A du hf)) hle
  .rw[dJ,Qu]
   exact .inl ⟨x,gJ,c,rfl,zr,rfl,aI,oI,bx,hle⟩
 refine aL ?_
 refine⟨_,rfl,s0,dx,_,rfl,m8 _ _ hs,zo _ _ _ (by decide +kernel) (by decide +kernel) (by decide +kernel),s0,dx,p,fl,.ref g,R.map (au m),aI,fs,rfl,m8 _ _ hs,m8 _ _ hp,m8 _ _ dy,?_,by rw[av];exact Qs.symm,by rw[av];exact qy,λt mt=>?_,λacw H1 s1=>?_,λpl H1 hpl Io s1=>?_⟩
 .exact Paired.bU CT λws v e=>let ⟨q,e1,e2,e3⟩:=e;⟨q,e1,m8 _ _ e2,e3⟩
 .obtain⟨r,mr,rfl⟩:=bM.mp mt
  rw[eD]
  obtain⟨i,hi⟩:=eQ mr
  have:=(FM.len (cg.mp hi).1).2
  have e:ah R i=r:=bW hi
  rw[e] at this
  lia
 .
  obtain⟨m9,hd2,i7⟩:=acw
  have qI:gG m=false:=Ql FM λr mr=>m9 _ (iU mr)
  have tu:dm m wd=R.map (au m):=by
   unfold dm
   rw[FM.eq]
  have Cb:dP ks m wd=true:=by
   refine OF qI (by rw[tu];exact hd2) (λx mx=>?_)
   rw[tu] at mx
   obtain⟨i,hi⟩:=eQ mx
   obtain⟨ws,hws,acx⟩:=Paired.getL oI hi
   have bx:=i7 ws (bj hws)
   obtain⟨y,my⟩:∃y,y∈ws:=by
    cases ws with
    |nil=>exact absurd rfl bx
    |cons y r=>exact⟨y,bt⟩
   obtain⟨y1,y2⟩:=(acx.mem y).mp my
   rw[<-yT y2 (m9 x mx)]
   exact y1
  have bx:[]∉aI:=λz=>i7 _ z rfl
  have acy:cv = .int (fg wf aI):=by
   rcases je with ⟨z,_⟩ | ⟨_,z⟩
   .exact absurd z bx
   .exact z
  subst acy
  have Ip:fg wf aI=oG wf R m:=Qp oI bx λr mr=>m9 _ (iU mr)
  have oJ:=m8.trans s1
  refine⟨_,rfl,rfl,_,rfl,?_⟩
  rw[aJ rfl]
  refine bf ⟨_,rfl,.inl ⟨rfl,_,ai.of (oJ _ _ da)⟩,?_⟩
  refine⟨_,rfl,s0,dx,_,rfl,oJ _ _ hs,zo _ _ _ (by decide +kernel) (by decide +kernel) (by decide +kernel),s0,dx,g,cP,p,ce,a,.ref fl,.ref cw,wo,.ref kn,l,m,wd,R,xs,rfl,oJ _ _ hs,oJ _ _ hg,oJ _ _ hT,oJ _ _ mX,Paired.bU tI λr x e=>e.gj λb o e=>oJ _ _ e,oJ _ _ hp,FL,FM,vJ,λt H2 s2 ht=>?_⟩
  refine⟨_,rfl,(by show 2<=sizeLine;decide),λtt HC=>?_⟩
  have s3:af H2 (upd H2 tt (.tup [.ref t,.int (fg wf aI)])):=af.upd HC
  have Iq:upd H2 tt (.tup [.ref t,.int (fg wf aI)]) tt=some (.tup [.ref t,.int (fg wf aI)]):=ao
  generalize upd H2 tt (.tup [.ref t,.int (fg wf aI)])=H3 at s3 Iq
  have eO:=(oJ.trans s2).trans s3
  have zt:=eO _ _ da
  refine⟨fo,_,.ref tt,rfl,rfl,zt,jX (m:=15752961) (by rw[av];lia) (by decide),?_⟩
  have o4:∀b o,b≠fo->H3 b=some o->upd H3 fo (.lst (ts.map V.ref++[.ref tt])) b=some o:=λb o n e=>by rw[ak n];exact e
  have f4:upd H3 fo (.lst (ts.map V.ref++[.ref tt])) fo=some (.lst ((ts++[tt]).map V.ref)):=by rw[ao,dF];rfl
  generalize upd H3 fo (.lst (ts.map V.ref++[.ref tt]))=H4 at o4 f4
  have Ir:KX kn fo H H4:=λb o _ n e=>o4 b o n (eO _ _ e)
  have Iu:kn≠fo:=cx c4 da (by intro z;cases z)
  have tF:H4 kn=some (.dK kvs):=o4 _ _ Iu (eO _ _ c4)
  have acz:=o4 _ _ (cx Iq zt (by intro z;cases z)) Iq
  have nh:=o4 _ _ (cx (s3 _ _ ht) zt (by intro z;cases z)) (s3 _ _ ht)
  have jS:qH H4 (ts++[tt]) (bB++[(m,fg wf aI)]):=qw (hF.keep (Ir.kp c4 da mR).jk) (.cons ⟨t,acz,nh⟩ .nil)
  have zh:=hK.keep λb o e z=>(Ir.kp c4 da mR).lst _ _ z e
  have Qv:∀p∈bB,p.2<fg wf aI:=λp mp=>by
   obtain⟨y,e,le⟩:=oH.up p mp _ rfl
   have:=vv y e bx
   lia
  have hOk:CO l wd ks wf R (bB++[(m,fg wf aI)]):=by
   refine⟨?_,λp mp=>?_,λp mp=>?_⟩
   .rw[dF,oZ]
    refine⟨oH.nd,by simp,λx mx y my z=>?_⟩
    obtain⟨p,mp,rfl⟩:=bM.mp mx
    have hy:y=m:=by simpa using my
    have h1:=Qv p mp
    rw[(oH.ok p mp).2.2,z,hy,Ip] at h1
    lia
   .rcases cV.mp mp with z | z
    .exact oH.ok p z
    .rw[cj.mp z]
     exact⟨Qr _ (cu.refl FM.sh),Cb,Ip⟩
   .rw[vU]
    rcases cV.mp mp with z | z
    .exact λy e=>by cases e;exact⟨_,rfl,Int.le_of_lt (Qv p z)⟩
    .rw[cj.mp z]
     exact dX.refl _
  intro x gJ hx tK Qd
  have s5:af H4 (upd (upd H4 gJ (.own x)) x (.ins CH gJ [])):=λb o e=>by rw[ak (bq e hx),ak (bq e tK)];exact e
  have Qw:upd (upd H4 gJ (.own x)) x (.ins CH gJ []) x=some (.ins CH gJ []):=ao
  generalize upd (upd H4 gJ (.own x)) x (.ins CH gJ [])=H5 at s5 Qw
  refine q (.ref x) [(m,fg wf aI)] [tt] kvs H5 ⟨Ir.trans (KX.of s5),s5 _ _ tF,zh.keep λb o e _=>s5 _ _ e,s5 _ _ f4,jS.keep λb o _ _ e=>s5 _ _ e,hOk,?_,λs A hf=>?_,?_⟩
  .rw[vU]
   exact λy e=>⟨_,rfl,Int.le_of_lt (vv y e bx)⟩
  .rw[vU,A.same FM.sh qI]
   exact λy e=>by cases e;exact⟨_,rfl,by rw[Ip];exact rh _⟩
  .rw[vU]
   exact .inl ⟨x,gJ,_,rfl,Qw,rfl,aI,oI,bx,rh _⟩
 .
  rw[av] at hpl
  rw[Qt hpl] at Io
  have s2:=m8.trans s1
  refine⟨_,rfl,rfl,_,rfl,?_⟩
  rw[aN (by intro z;cases z)]
  refine aL ?_
  refine hide λG_ bJ=>?_
  obtain⟨ws,hws⟩:∃ws,aI[pl]? = some ws:=⟨_,bb (by lia)⟩
  obtain⟨fv,zb,lf,rfl,vQ,Cm⟩:=Paired.getL CT hws
  obtain⟨pt,hpt,tG⟩:=Paired.get oI hws
  refine bJ.k ?_
  rw[kj R _ hpl] at hpt
  cases hpt
  have gF:aI.getD pl []=ws:=bW hws
  rw[gF] at Io
  refine⟨_,rfl,_,rfl,s0,dx,_,rfl,s2 _ _ hs,zo _ _ _ (by decide +kernel) (by decide +kernel) (by decide +kernel),_,rfl,s0,dx,p,fl,lf,.ref g,R.map (au m),ws,fs,pl,rfl,s2 _ _ hs,s2 _ _ hp,s2 _ _ dy,zb,s2 _ _ vQ,by rw[av];exact hpl,by rw[av];exact qy,Cm,λlq H3 CV s3 CY=>⟨lq,rfl,⟨_,ai.of CY⟩,?_⟩⟩
  have Iv:∀x,x∈(ws.filter λx=>!decide (x∈fR (R.map (au m)) pl))->x∈ks/\bK x (au m (ah R pl))=true/\x∈ws/\x∉fR (R.map (au m)) pl:=λx mx=>by
   obtain⟨m1,m2⟩:=cy.mp mx
   have:=(tG.mem x).mp m1
   exact⟨this.1,this.2,m1,by simpa using m2⟩
  have Iw:(ws.filter λx=>!decide (x∈fR (R.map (au m)) pl)).Nodup:=tG.nd.filter _
  have Qx:(ws.filter λx=>!decide (x∈fR (R.map (au m)) pl)).length<64:=jX (FI Iw λx mx=>(Iv x mx).1) dk
  have oK:b8 (ws.filter λx=>!decide (x∈fR (R.map (au m)) pl))=cY m R pl ks:=by
   rw[<-aa5 cX tG]
   congr 1
   refine List.filter_congr λx _=>?_
   by_cases z:x∈fR (R.map (au m)) pl
   .rw[aJ z,aJ ((Qk hpl).mp z)]
   .rw[aN z,aN λy=>z ((Qk hpl).mpr y)]
  generalize hXs:(ws.filter λx=>!decide (x∈fR (R.map (au m)) pl))=Xs at CY Iv Iw Qx oK
  have fH:=s2.trans s3
  have Iu:kn≠fo:=cx c4 da (by intro z;cases z)
  have acA:lq≠fo:=λz=>by rw[z,s2 _ _ da] at CV;cases CV
  have acB:lq≠kn:=λz=>by rw[z,s2 _ _ c4] at CV;cases CV
  refine X5 (vs:=Xs.map V.str) gB (by rw[av];lia) (λpa i us Hi=>H3 pa=none/\∃c8 new kv,acs Z M H3 Hi CH CC kn fo pa wd n pl i l m ks wf R Xs ts c8 bB new kv us) (λpa jM=>?_) (λpa i us Hi h=>?_) ?_ ?_
  .have mK:∀b o,H b=some o->b≠pa:=λb o e=>bq (fH _ _ e) jM
   have su:af H3 (upd H3 pa (.lst [])):=af.upd jM
   exact⟨jM,[],[],kvs,⟨λb o _ _ _ e=>su _ _ e,su _ _ (fH _ _ c4),(hK.weak λb o z e=>⟨z,mK b o e⟩).keep λb o e _=>su _ _ (fH _ _ e),by rw[dJ];exact su _ _ (fH _ _ da),by rw[dJ,dJ];exact hF.keep λb o _ _ e=>su _ _ (fH _ _ e),by rw[dJ];exact oH,by rw[dJ];exact dX.refl _,(λs _ _ h=>nomatch h),ao,.nil⟩⟩
  .obtain⟨jM,c8,new,kv,BI⟩:=h
   refine⟨ai.of (BI.e1 _ _ acB acA (bq CY jM) CY),?_⟩
   have:=BI.ea.length
   rw[kL] at this
   lia
  .intro pa i y us Hi Z0 Zk jM hy hR k0 k1
   refine hide λG_ cG=>?_
   obtain⟨_,c8,new,kv,⟨off,wb,Iy,wc,tN,Iz,IA,uB,CZ,kD⟩⟩:=hR
   have mK:∀b o,H b=some o->b≠pa:=λb o e=>bq (fH _ _ e) jM
   have jm:kn≠pa:=mK _ _ c4
   have Qy:fo≠pa:=mK _ _ da
   have kpI:∀{Hi:Hp},(∀b o,b≠kn->b≠fo->b≠pa->H3 b=some o->Hi b=some o)->KX kn fo H Hi:=λk b o n1 n2 e=>k b o n1 n2 (mK b o e) (fH _ _ e)
   rw[bE] at hy
   obtain⟨x,hx,rfl⟩:=iS.mp hy
   have hi:i<Xs.length:=(cg.mp hx).1
   obtain⟨fT,cM,IB,Qz⟩:=Iv x (bj hx)
   have gq:Xs.take (i+1)=Xs.take i++[x]:=by rw[fL,hx];rfl
   have hxn:x∉Xs.take i:=λz=>by
    have h1:(Xs.take (i+1)).Nodup:=Iw.sublist (DJ _ _)
    rw[gq,oZ] at h1
    exact h1.2.2 x z x (cj.mpr rfl) rfl
   obtain⟨qI,mB⟩:46∈(au m (ah R pl)).cps.toList/\∀j,j<(R.map (au m)).length->46∈((R.map (au m)).getD j ⟨#[]⟩).cps.toList->ws.length<=(aI.getD j []).length:=by
    rcases Io with z | ⟨z1,z2⟩
    .exact z
    .exfalso
     rcases z2 with z2 | z2
     .rw[yT cM z1] at Qz
      exact Qz (by unfold fR;exact wD _ z2)
     .rw[z2] at IB
      cases IB
   refine cG.k ?_
   have l7:∀j,j<R.length->46∈(au m (ah R j)).cps.toList->∃y∈ks,bK y (au m (ah R j))=true:=λj hj cO=>by
    have h1:=mB j (by rw[av];exact hj) (by rw[Qt hj];exact cO)
    obtain⟨wj,QA⟩:∃wj,aI[j]? = some wj:=⟨_,bb (by lia)⟩
    obtain⟨pj,QB,hFj⟩:=Paired.get oI QA
    rw[kj R _ hj] at QB
    cases QB
    rw[bW QA] at h1
    have h0:=List.length_pos_of_mem IB
    cases wj with
    |nil=>rw[DK] at h1;lia
    |cons y r=>exact⟨y,(hFj.mem y).mp bt⟩
   have jo:=vT (du x fT)
   have Cp:46∉x.cps.toList:=λz=>by have:=jo 46 z;lia
   have acC:x.length=(ah R pl).length:=by rw[(gc.mp cM).1,eD]
   have we:=kpI off
   have kE:=we.kp c4 da mR
   have ID:¬(λb=>Z b/\b≠pa) fo:=λz=>mR z.1
   have C1:∀b,Hi b=none->Z b/\b≠pa:=λb e=>⟨hZ b (we.none ⟨_,wb⟩ ⟨_,wc⟩ e),λz=>by rw[z,CZ] at e;cases e⟩
   have QC:∀b o,Z b->H b=some o->(Z b/\b≠pa):=λb o z e=>⟨z,mK b o e⟩
   have acD:=Paired.bU Ih λi v (e:∃q us,v=V.ref q/\Z q/\H q=some (.lst us)/\bH H (ki R i) us)=>(show ∃q us,v=V.ref q/\Hi q=some (.lst us)/\bH Hi (ki R i) us from let ⟨q,us,e1,e2,e3,e4⟩:=e;⟨q,us,e1,kE.lst _ _ e2 e3,e4.lists λb o e=>kE.tup e⟩)
   have afT:=Paired.bU vL λt v e=>(e.keep (H':=Hi) λb o e z=>kE.lst _ _ z e)
   have acE:Paired (gI (λb=>Z b/\b≠pa) Hi ks wf) (R.map (au m)) fs:=Paired.bU vL λt v e=>(e.weak QC).keep λb o e z=>kE.lst _ _ z.1 e
   show if true=true then _ else Z0 Hi
   refine bf ?_
   refine⟨_,rfl,_,rfl,s0,dx,_,rfl,kE.ins hs,zo _ _ _ (by decide +kernel) (by decide +kernel) (by decide +kernel),_,rfl,_,rfl,?_⟩
   refine⟨s0,dx,g,cP,p,fl,cw,kn,.ref a,.ref ce,wo,m,ks,wf,wd,pl,R,fs,cs,x,kv,(λb=>Z b/\b≠pa),M,rfl,⟨kE.ins hs,kE.ins hg,wb,Iy,hM,kE.lst _ _ zp hp,kE.lst _ _ zfl dy,acE,kE.lst _ _ acv tJ,acD,FM,hpl,qy,cM,fT,Cp,C1,λk i hi cO=>Qq m pl x k i FM vJ hpl fT cM l7 hi cO⟩,λs' oB p' cE xb QD H5 SP=>?_⟩
   refine hide λG_ eX=>?_
   obtain⟨vE,acF,o5,tH,HJ,HK,sR,acG,acH⟩:=SP
   refine eX.k ?_
   have QE:KX kn fo Hi H5:=λb o n _ e=>o5 b o n e
   have IE:=o5 _ _ (br Iu) wc
   have acI:=o5 _ _ (br jm) CZ
   have IF:Kp (λb=>Z b/\b≠pa) Hi H5:=QE.kp wb wc ID
   have acJ:Kp (λb=>Z b/\b≠pa) H Hi:=⟨kE.jk,λb l z e=>kE.lst b l z.1 e⟩
   have nn5:∀b,H5 b=none->Z b/\b≠pa:=λb e=>C1 b (QE.none ⟨_,tH⟩ ⟨_,IE⟩ e)
   have acK:oC CG H5 g kn ks wf:=oC.keep c4 (λb o n nl e=>o5 b o n (we b o n (λz=>by rw[z,da] at e;exact nl _ (cQ e).symm) e)) qF
   refine⟨_,rfl,s',g,kn,fo,wd,l,putL m (ah R pl) x.cps.toList,ks,wf,R,QD,(λb=>Z b/\b≠pa),M,ts++c8,bB++new,rfl,⟨((hG.weak QC).keep acJ).keep IF,⟨oB,p',cE,xb,HK,sR,C1 _ vE,acG,C1 _ acF,acH⟩,acK,tH,HJ,hM,Qq,FL,FM.put pl jo acC,by rw[lI,vJ],qy,du,cX,dk,nn5,ID,IE,tN.keep IF.jk,Iz,uv,λs A=>Qr s (cu.O1 FM jo cM A),by have:=σ3 FM jo cM qI;lia⟩,λv nw ts2 ik H6 BP=>?_⟩
   refine hide λG_ oi=>?_
   obtain⟨kx,hk6,wg,QF,gH,QG,C3,acL,qJ⟩:=BP
   refine oi.k ?_
   rw[lQ] at QF QG C3
   rw[lQ,lQ] at gH
   have iJ:∀b o,b≠kn->b≠fo->b≠pa->H3 b=some o->H6 b=some o:=λb o n1 n2 n3 e=>kx b o n1 n2 (o5 b o n1 (off b o n1 n2 n3 e))
   have IG:=kx _ _ (br jm) (br Qy) acI
   refine⟨(by show 2<=sizeLine;decide),λt ht=>?_⟩
   have sN:t≠pa:=λz=>by rw[z,IG] at ht;cases ht
   refine k1 _ _ (by rw[ak (br sN)];exact IG) ⟨jM,c8++ts2,new++nw,ik,?_⟩
   have o7:∀b o,b≠pa->H6 b=some o->upd (upd H6 t (.tup [.str x,v])) pa (.lst (us++[.ref t])) b=some o:=λb o n e=>by rw[ak n,ak (bq e ht)];exact e
   have QH:upd (upd H6 t (.tup [.str x,v])) pa (.lst (us++[.ref t])) pa=some (.lst (us++[.ref t])):=ao
   have QI:upd (upd H6 t (.tup [.str x,v])) pa (.lst (us++[.ref t])) t=some (.tup [.str x,v]):=by rw[ak sN];exact ao
   generalize upd (upd H6 t (.tup [.str x,v])) pa (.lst (us++[.ref t]))=H7 at o7 QH QI
   have II:Kp (λb=>Z b/\b≠pa) H6 H7:=⟨λb o n1 _ e=>o7 b o (λz=>by rw[z,IG] at e;exact n1 _ (cQ e).symm) e,λb l z e=>o7 b _ z.2 e⟩
   have QJ:Kp (λb=>Z b/\b≠pa) Hi H7:=IF.trans ((kx.kp tH IE ID).trans II)
   refine⟨λb o n1 n2 n3 e=>o7 b o n3 (iJ b o n1 n2 n3 e),o7 _ _ jm hk6,wg.keep λb o e z=>o7 b _ z.2 e,o7 _ _ Qy QF,gH.keep II.jk,QG,IA.trans C3,λs A hf hx=>?_,QH,?_⟩
   .rw[gq] at hx
    rcases cV.mp hx with z | z
    .exact(uB s A hf z).trans C3
    .have z:=cj.mp z
     have A2:=A.put FM pl (by rw[z];exact jo)
     rw[z] at A2
     have:=acL s A2 hf
     rw[lQ] at this
     exact this
   .rw[gq]
    rw[lQ] at qJ
    refine qw (Paired.bU kD λx' v' g' =>?_) (.cons ⟨t,v,rfl,QI,cM,qJ.mono II (λ_ _ z _=>z) (dX.refl _)⟩ .nil)
    refine hide λG_ oj=>?_
    obtain⟨t',u',e1,e2,e3,e4⟩:=g'
    refine oj.k ?_
    exact⟨t',u',e1,QJ.tup e2,e3,e4.mono QJ (λ_ _ z _=>z) C3⟩
  .intro pa us Hi jM hR
   refine hide λG_ yJ=>?_
   obtain⟨_,c8,new,kv,⟨off,wb,Iy,wc,tN,Iz,IA,uB,CZ,kD⟩⟩:=hR
   refine yJ.k ?_
   rw[av,DQ] at uB kD
   have mK:∀b o,H b=some o->b≠pa:=λb o e=>bq (fH _ _ e) jM
   have we:KX kn fo H Hi:=λb o n1 n2 e=>off b o n1 n2 (mK b o e) (fH _ _ e)
   refine λx oN hx tK bx=>?_
   have s4:af Hi (upd (upd Hi oN (.own x)) x (.ins CC oN [])):=λb o e=>by rw[ak (bq e hx),ak (bq e tK)];exact e
   have zr:upd (upd Hi oN (.own x)) x (.ins CC oN []) x=some (.ins CC oN []):=ao
   generalize upd (upd Hi oN (.own x)) x (.ins CC oN [])=H4 at s4 zr
   refine⟨x,oN,pa,.int (pl:Int),us,rfl,zr,s4 _ _ CZ,λr H5 hr5 h1 h2 h3=>⟨rfl,?_⟩⟩
   have s5:af Hi H5:=λb o e=>h3 _ _ (λz=>by rw[z,hx] at e;cases e) (s4 _ _ e)
   have hrH:H r=none:=we.none ⟨_,wb⟩ ⟨_,wc⟩ (s4.free hr5)
   refine q (.ref x) new c8 kv H5 ⟨we.trans (KX.of s5),s5 _ _ wb,(Iy.weak λb o z _=>z.1).keep λb o e _=>s5 _ _ e,s5 _ _ wc,tN.keep λb o _ _ e=>s5 _ _ e,Iz,IA,λs A hf=>uB s A hf ((fY Xs).mem_iff.mp (by rw[oK];exact A.left FM du hf hpl)),.inr ⟨x,oN,r,pl,Xs,us,rfl,h1,hZ r hrH,h2,hpl,oK,Qx,Paired.bU kD λx v g' =>?_⟩⟩
   refine hide λG_ Hs=>?_
   obtain⟨t',u',e1,e2,e3,e4⟩:=g'
   refine Hs.k ?_
   exact⟨t',u',e1,s5 _ _ e2,e3,e4.mono (Kp.of s5) (λ_ _ z _=>z.1) (dX.refl _)⟩
theorem QK{CG CS CH CC:Addr}(B:Bl mg)(F:aX K "bounding_paper" "bounding_paper" (top 42) f fd)(hm:mg "bounding_paper"=some (.ref f))(hk:keepIn K (.ref f)=true)(hb:Binds K fd ["standing","found"] [])(vV:Mt P w K mg base CS "ceiling" 1 (Ik K CS CG) [])(vW:Mt P w K mg base CS "narrowest" 1 (Hw CS) [])(vX:Mt P w K mg base CS "filled" 3 (HD K CS CG) [])(vY:Mt P w K mg base CS "left" 1 (Hv K CS) [])(vZ:Mt P w K mg base CS "after" 3 (HG K CS CG) [])(tM:Bq K mg "Short" CH)(wa:Nw P w K mg base "Cases" CC 1 (Il CC)) :
  ∀n:Nat,aO P w K mg base aR (n+4) f fd ["standing","found"] (CP K CG CS CH CC n)
 |0=>F.ok CQ (λvs H Q E h=>by obtain⟨s,g,kn,fo,w,l,m,ks,wf,R,kvs,Z,M,ts,bB,rfl,hp,_⟩:=h;have:=hp.ek;lia) (λaH A outer s H vs Q E hr h=>by obtain⟨s,g,kn,fo,w,l,m,ks,wf,R,kvs,Z,M,ts,bB,rfl,hp,_⟩:=h;have:=hp.ek;lia)
 |n+1=>acu n B F ⟨f,fd,_,QK B F hm hk hb vV vW vX vY vZ tM wa n,hm,hk,hb⟩ vV vW vX vY vZ tM wa
end
theorem QL:∀(r:List C2) (c:C2),((List.range r.length).filter λk=>decide (r[k]? = some c)).length=r.count c
 |[],c=>rfl
 |a::r,c=>by
  rw[dC,JT,dw,zX,Kh]
  have e:((λk=>decide ((a::r)[k]? = some c))∘Nat.succ)=λk=>decide (r[k]? = some c):=by funext k;rfl
  rw[e]
  have ih:=QL r c
  by_cases z:a=c
  .have:decide ((a::r)[0]? = some c)=true:=by simp[z]
   rw[aA this,dC,av,ih,aA (by simp[z])]
  .have:¬decide ((a::r)[0]? = some c)=true:=by simp[z]
   rw[ax this,av,ih,ax (by simpa using z)]
   rfl
theorem acM(R:List (List C2))(c:C2):(cZ R c).length=(R.map λr=>r.count c).sum:=by
 unfold cZ
 rw[Kj]
 have e:(List.map (λi=>(((List.range (ah R i).length).filter λk=>decide ((ah R i)[k]? = some c)).map λk=>(i,k)).length) (List.range R.length))=(List.range R.length).map (λi=>(λr:List C2=>r.count c) (R.getD i [])):=by
  refine Ki λi _=>?_
  rw[av,QL]
  rfl
 rw[e,kf (λr:List C2=>r.count c)]
theorem QM(c:C2):(cZ (aG l w) c).length=cN c (dr l w):=by
 rw[acM,qg,jw]
 rfl
theorem acN(h:r∈aG l w):r.Nodup:=by
 unfold aG lD jd at h
 rcases cV.mp h with h | h
 .obtain⟨c,_,e⟩:=bM.mp (cy.mp h).1
  rw[<-e]
  exact FX (.inl rfl)
 .obtain⟨c,_,e⟩:=bM.mp (cy.mp h).1
  rw[<-e]
  exact FX (.inr rfl)
theorem acO(S:bo l w)(T:ic l w):GoodR (aG l w):=by
 have nd:∀i,(ah (aG l w) i).Nodup:=λi=>by
  by_cases hi:i<(aG l w).length
  .exact acN (qu hi)
  .have:ah (aG l w) i=[]:=by
    unfold ah
    rw[bT,cW (JR hi)]
    rfl
   rw[this]
   exact iT
 refine⟨nd,λi k c h=>?_⟩
 have hb:=(jf S (qu (mT h).1)).2.2 c (bj h)
 have h2:(cZ (aG l w) c).length=2:=by
  rw[QM]
  exact T c (by rw[mI hb.1 hb.2.1];exact hb.2.2)
 have mo:(i,k)∈cZ (aG l w) c:=qt.mpr h
 have QN:=He (aG l w) c
 obtain⟨p,p',ep⟩:∃p p',cZ (aG l w) c=[p,p']:=by
  match ho:cZ (aG l w) c,h2 with
  |[a,b],_=>exact⟨a,b,rfl⟩
 have key:∃o:Nat×Nat,o≠(i,k)/\o∈cZ (aG l w) c/\∀y∈cZ (aG l w) c,y=(i,k)\/y=o:=by
  rw[ep] at mo QN ⊢
  have bx:p≠p':=by
   have:=(gM.mp QN).1
   simpa using this
  rcases cf.mp mo with z | z
  .refine⟨p',λy=>bx (by rw[<-z,y]),by simp,λy my=>?_⟩
   rcases cf.mp my with m | m
   .exact .inl (m.trans z.symm)
   .exact .inr (cj.mp m)
  .have z:=cj.mp z
   refine⟨p,λy=>bx (by rw[<-z,y]),by simp,λy my=>?_⟩
   rcases cf.mp my with m | m
   .exact .inr m
   .exact .inl ((cj.mp m).trans z.symm)
 obtain⟨o,E9,jE,uO⟩:=key
 have pf:=qt.mp jE
 refine⟨o.1,o.2,λz=>E9 ?_,pf,λi' k' h' =>?_⟩
 .rw[z] at pf
  exact o9 z (Hd (nd i) pf h)
 .rcases uO (i',k') (qt.mpr h') with z | z
  .injection z with z1 z2
   exact .inl ⟨z1,z2⟩
  .exact .inr ⟨by rw[<-z],by rw[<-z]⟩
theorem QO(S:bo l w)(T:ic l w):cq l w (aG l w):=by
 refine⟨S,rfl,acO S T,λc h1 h2 ho=>?_⟩
 have h:=T c (by rw[mI h1 h2];exact ho)
 rw[<-QM] at h
 cases e:cZ (aG l w) c with
 |nil=>rw[e] at h;cases h
 |cons p r=>exact⟨p.1,p.2,qt.mp (by rw[e];exact bt)⟩
structure jT(l m:List Str)(w:Nat):Prop where
 ln:m.length=l.length
 op:∀c:C2,c.1<l.length->c.2<w->bY m c=bY l c
theorem jT.bz{l m:List Str}{w:Nat}(F:jT l m w):bz m w=bz l w:=by
 funext c
 unfold Cw.bz
 rw[F.ln]
 by_cases h1:c.1<l.length
 .by_cases h2:c.2<w
  .rw[F.op c h1 h2]
  .rw[aN h2,iq,iq]
 .rw[aN h1,iq,iq]
theorem jT.bV{l m:List Str}{w:Nat}(F:jT l m w):bV m w=bV l w:=by
 unfold Cw.bV
 rw[F.ln]
 refine List.filter_congr λc mc=>?_
 have:=sI mc
 exact F.op c this.1 this.2
theorem jT.dr{l m:List Str}{w:Nat}(F:jT l m w):dr m w=dr l w:=by
 unfold Cw.dr gX n6
 rw[F.bz,F.bV]
theorem jT.two(F:jT l m w)(T:ic l w):ic m w:=λc hc=>by
 rw[F.dr]
 exact T c (by rw[<-F.bz];exact hc)
noncomputable def kF(l:List Str):List Str:=l.reverse.map lr
theorem IJ(x:Str):(lr x).cps.toList=x.cps.toList.reverse:=by simp[lr]
theorem acP(x:Str):(lr x).length=x.length:=by rw[<-b9,IJ,DP,b9]
theorem C4(l:List Str):(kF l).length=l.length:=by simp[kF]
theorem QP(S:bo l w):bo (kF l) w:=by
 refine⟨by rw[C4];exact S.one,by rw[C4];exact S.nine,S.w1,S.w9,λx m=>?_,λx m c mc=>?_⟩
 .obtain⟨y,hy,rfl⟩:=bM.mp m
  rw[acP,S.len y (Kk.mp hy)]
 .obtain⟨y,hy,rfl⟩:=bM.mp m
  rw[IJ] at mc
  exact S.ok y (Kk.mp hy) c (Kk.mp mc)
theorem acQ(hi:i<l.length):(kF l)[i]? = (l[l.length - 1 - i]?).map lr:=by
 unfold kF
 rw[bE,JX hi]
theorem acR(S:bo l w){j:Nat}(hi:i<l.length)(hj:j<w):sg (kF l) (i,j)=sg l (l.length - 1 - i,w - 1 - j):=by
 obtain⟨x,hx,mx,lx,pW,jx⟩:=S.row (i:=l.length - 1 - i) (by lia)
 obtain⟨y,hy,my,ly,ly',jy⟩:=(QP S).row (i:=i) (by rw[C4];exact hi)
 rw[acQ hi,hx] at hy
 cases hy
 have h1:=jy j hj
 rw[IJ,JX (by lia),pW,jx (w - 1 - j) (by lia)] at h1
 exact(cQ h1).symm
section
variable{w:World}
theorem QQ{β:Type}{f:Nat->β}:∀{l:List Nat}{ys:List β},Paired (λi y=>y=f i) l ys->ys=l.map f
 |_,_,.nil=>rfl
 |_,_,.cons h t=>by rw[bI,<-QQ t,h]
theorem acS{β:Type}(g:α->β)(d:α)(l:List α):(List.range l.length).map (λi=>g (l.getD i d))=l.map g:=by
 apply ju
 intro i
 rw[bE,bE]
 by_cases h:i<l.length
 .rw[qY h,bb h,iR,iR,bT,bb h,oV]
 .rw[cW (by simpa using h),cW (by simpa using h)]
  rfl
def QR(K:Frag):Sp:=λvs H Q _=>∃(a:Addr) (l:List Str) (w:Nat),vs=[.ref a]/\aq K H a (l.map V.str)/\bo l w/\∀t H',H t=none->af H H'->H' t=some (.tup ((kF l).map V.str))->Q (.ref t) H'
theorem acT:bg ["sheet"] ["sheet"] (aV (top 15)):={}
theorem acU(B:Bl mg)(F:aX K "turned" "turned" (top 15) f fd):aO P w K mg base aR 1 f fd ["sheet"] (QR K):=by
 refine F.bG acT λaH A outer s H vs Q E hr h=>?_
 refine hide λG_ aF=>?_
 obtain⟨a,l,wd,rfl,hT,S,q⟩:=h
 refine aF.k ?_
 have h9:=S.nine
 have hw:=S.w9
 refine⟨_,(aw (aP (iZ xA (by rfl) B.sM se (ab (fW (js:=[]) (ns:=[]) (V1 (by rfl) B.Yj (ab (pv 0) ag)) rfl rfl rfl rfl (λ_ _ _ _=>gT) (λ_ _ _ _=>(V4 (pv 0) (xo xp az)))) ag)))),?_⟩
 try dsimp only[bA]
 refine⟨_,rfl,a,_,rfl,hT,comp_map V2 (by rw[DP,av];lia) (λ_ i y _=>y = .str (lr (l.reverse.getD i ⟨#[]⟩))) (λH2 s2=>s2.tup hT) (λ_ _ _ _ _ _ _ _ h=>h) ?_ ?_⟩
 .intro D i x H2 Z hD hx s2 _ k1
  rw[<-List.map_reverse,bE] at hx
  cases e:l.reverse[i]? with
  |none=>rw[e] at hx;cases hx
  |some z=>
   rw[e] at hx
   cases hx
   have mz:=S.len z (Kk.mp (bj e))
   exact⟨_,rfl,_,rfl,z,rfl,rfl,eG (by lia),k1 _ _ (af.cA _) (by rw[bW e])⟩
 .intro D ys H2 hD bh s2 pr
  have e:=QQ pr
  rw[DP,av,<-DP (as:=l),acS (λz=>V.str (lr z))] at e
  refine⟨D,_,rfl,.inl ⟨ai.of bh,λt ht=>?_⟩⟩
  refine q t _ (s2.free ht) (s2.trans (af.upd ht)) ?_
  rw[ao,e]
  unfold kF
  rw[jw]
  rfl
end
noncomputable def kc(c:C2):List Key:=[Sum.inl (c.1:Int),Sum.inl (c.2:Int)]
theorem acV{d:C2}(h:kc c=kc d):c=d:=by
 unfold kc at h
 injection h with h1 h2
 injection h2 with h2 _
 injection h1 with h1
 injection h2 with h2
 exact DU.mpr ⟨by lia,by lia⟩
def qK(kvs:List (List Key×V))(g:C2->Nat):Prop := ∀c,aQ kvs (kc c)=if g c=0 then none else some (.int (g c))
theorem qK.get(h:qK kvs g)(c:C2):(aQ kvs (kc c)).getD (.int 0) = .int (g c):=by
 rw[h c]
 split
 .rename_i e;rw[e];rfl
 .rfl
theorem qK.put{g':C2->Nat}(h:qK kvs g)(c:C2)(e1:g' c=g c+1)(e2:∀x,x≠c->g' x=g x):qK (putK kvs (kc c) (.int ((g c:Int)+1))) g':=by
 intro x
 rw[nT]
 by_cases e:x=c
 .subst e
  rw[aA rfl,ax (by lia),e1]
  rfl
 .rw[ax (λz=>e (acV z)),h x,e2 x e]
theorem acW(c:C2):cN c []=0:=rfl
theorem acX(c:C2)(rs:List (Nat×List C2))(q:Nat×List C2):cN c (rs++[q])=cN c rs+q.2.count c:=by
 unfold cN
 rw[dF,JY,bI,dG]
 rfl
theorem IK{α:Type}{p:α->Bool}:∀{l:List α}{i:Nat}{c:α},l[i]? = some c->p c=true->(∀(j:Nat) (x:α),j<i->l[j]? = some x->p x=false)->l.find? p=some c
 |[],_,_,h,_,_=>by simp at h
 |y::r,0,c,h,hp,_=>by
  have h:y=c:=by simpa using h
  rw[h,List.find?_cons_of_pos hp]
 |y::r,i+1,c,h,hp,hj=>by
  have h0:=hj 0 y (Nat.succ_pos _) rfl
  rw[List.find?_cons_of_neg (by rw[h0];exact b0)]
  exact IK (i:=i) (by simpa using h) hp λj x q e=>hj (j+1) x (by lia) (by simpa using e)
theorem IL{p:α->Bool}{l:List α}(h:∀(j:Nat) (x:α),l[j]? = some x->p x=false):l.find? p=none:=by
 rw[List.find?_eq_none]
 intro x hx
 obtain⟨j,hj⟩:=eQ hx
 rw[h j x hj]
 exact b0
noncomputable def wk(l:List Str)(c:C2):Bool := !bY (kF l) c
noncomputable def fC(l:List Str)(w:Nat)(c:C2):Bool:=decide (cN c (dr l w)<2)
noncomputable def zu(l:List Str)(w:Nat):Option C2:=((bV l w).find? (wk l)).or ((bV l w).find? (fC l w))
section
variable{w:World}
def QS(K:Frag):Sp:=λvs H Q _=>∃(a:Addr) (l:List Str) (w:Nat),vs=[.ref a]/\aq K H a (l.map V.str)/\bo l w/\
 ∀p kvs H',H p=none->af H H'->H' p=some (.dT kvs)->qK kvs (λc=>cN c (dr l w))->Q (.ref p) H'
theorem C5:bg ["sheet","counts","row","cell"] ["sheet"] (aV (top 24)):={}
theorem acY(F:aX K "rows_through" "rows_through" (top 24) f fd)(HP:Fn P w K mg base "rows_of" 5 (F7 K)):aO P w K mg base aR 6 f fd ["sheet"] (QS K):=by
 refine F.bG C5 λaH A outer s H vs Q E hr h=>?_
 refine hide λG_ aF=>?_
 obtain⟨a,l,wd,rfl,hT,S,q⟩:=h
 refine aF.k ?_
 have cU:=gS hr
 have hrl:=qf S
 refine⟨_,(ar (aK 1 C5.nd Lz)
  (ar (cF (dn (aU HP hr (ab (pv 0) ag))) (bN 2 C5.nd)
  (aw (cF (Au (aM bO (pv 2) az)) (bN 3 C5.nd)
   (aw (xC cU (pv 1) (pv 3) (aS d5 (LC cU (pv 1) (pv 3) az ⟨rfl,rfl,rfl,rfl⟩) az) rfl)))))
  (aw (aP (pv 1))))),?_⟩
 try dsimp only[bA]
 intro p hp
 have eW:af H (upd H p (.dT [])):=af.upd hp
 have fP:upd H p (.dT []) p=some (.dT []):=ao
 generalize upd H p (.dT [])=H0 at eW fP
 refine⟨_,rfl,a,l,wd,rfl,eW.tup hT,S,λg xa xd H1 hg s1 hL rA rD=>⟨g,rfl,⟨_,ai.of hL⟩,?_⟩⟩
 have rB:=NO rA rD
 have PV:=rB.length
 have m9:=s1 _ _ fP
 refine kT (xs:=xa++xd) (λi O H2=>∃v2 v3 kvs,O=[some (.ref a),some (.ref p),v2,v3]/\(∀b o,b≠p->H1 b=some o->H2 b=some o)/\H2 p=some (.dT kvs)/\kvs.length<=10*i/\qK kvs (λc=>cN c ((dr l wd).take i)))
  ⟨none,none,[],rfl,λ_ _ _ z=>z,m9,aW _,λc=>by rw[rb,aA (acW c)];rfl⟩ ?_ ?_ ?_
 .rintro i O H2 _ ⟨v2,v3,kvs,rfl,off,_⟩
  exact ai.of (off _ _ (cx hL m9 (by intro z;cases z)) hL)
 .intro i x O H2 hx acZ
  refine hide λG_ aZ=>?_
  obtain⟨v2,v3,kvs,rfl,off,hd,n0,hC⟩:=acZ
  have hi:i<(xa++xd).length:=(cg.mp hx).1
  obtain⟨row,hq,way,aa,t,xs3,rfl,g1,g2,g3⟩:=Paired.get rB hx
  refine aZ.k ?_
  have bD:=Gj (bj hq)
  have C6:∀b o,H1 b=some (.tup o)->b≠p:=λb o z=>cx z m9 (by intro y;cases y)
  have Fg:=off _ _ (C6 _ _ g2) g2
  have hxs:=g3.length
  refine⟨_,rfl,aa,_,2,.ref t,rfl,rfl,aq.of (off _ _ (C6 _ _ g1) g1),rfl,t,rfl,⟨_,aq.of Fg⟩,?_⟩
  have iI:(dr l wd).take (i+1)=(dr l wd).take i++[row]:=by rw[fL,hq];rfl
  refine A3 EZ (λj O H3=>∃v3 kvs,O=[some (.ref a),some (.ref p),some (.ref aa),v3]/\(∀b o,b≠p->H1 b=some o->H3 b=some o)/\H3 p=some (.dT kvs)/\kvs.length<=10*i+j/\qK kvs (λc=>cN c ((dr l wd).take i)+(row.2.take j).count c))
   ⟨v3,kvs,rfl,off,hd,n0,λc=>by simp only[rb,List.count_nil,Nat.add_zero];exact hC c⟩ (λj O H3 _ ⟨_,_,_,gh,_⟩=>aq.of (gh _ _ (C6 _ _ g2) g2)) ?_ ?_
  .intro j x O H3 hx3 ac0
   refine hide λG_ bJ=>?_
   obtain⟨v3,IM,rfl,gh,i7,ac1,jL⟩:=ac0
   obtain⟨c,hc,b,rfl,hb⟩:=Paired.get g3 hx3
   refine bJ.k ?_
   have hj:j<row.2.length:=(cg.mp hc).1
   have QT:H3 b=some (.tup ((kc c).map kV)):=gh _ _ (C6 _ _ hb) hb
   refine⟨_,rfl,p,rfl,.inr ⟨IM,.inl i7⟩,_,rfl,_,dU.t i7 QT,?_⟩
   rw[jL.get c]
   refine⟨_,_,rfl,rfl,_,rfl,_,rfl,p,_,rfl,lg.t i7 QT (pN (by lia)),?_⟩
   refine⟨_,_,rfl,λb' o jD z=>by rw[ak jD];exact gh b' o jD z,ao,bQ (uw _ _ _) (by lia),?_⟩
   have et:row.2.take (j+1)=row.2.take j++[c]:=by rw[fL,hc];rfl
   refine jL.put c ?_ λx pT=>?_
   .rw[et,Kg,List.count_singleton_self]
    lia
   .rw[et,Kg,(Kd (l:=[c])).mpr (by simpa using pT),Nat.add_zero]
  .intro O H3 ac2
   refine hide λG_ cG=>?_
   obtain⟨v3,IM,rfl,gh,i7,ac1,jL⟩:=ac2
   refine cG.k ?_
   refine⟨_,_,IM,rfl,gh,i7,by lia,λc=>?_⟩
   have:=jL c
   dsimp only at this ⊢
   rw[fq (l:=row.2) (i:=xs3.length) (by lia)] at this
   have e9:cN c ((dr l wd).take (i+1))=cN c ((dr l wd).take i)+row.2.count c:=by rw[iI,acX]
   rw[this]
   simp only[e9]
 .intro O H2 ac3
  refine hide λG_ eX=>?_
  obtain⟨v2,v3,kvs,rfl,off,hd,n0,hC⟩:=ac3
  refine eX.k ?_
  rw[fq (by lia)] at hC
  refine⟨_,rfl,q p kvs H2 hp (λb o z=>off b o (bq z hp) (s1 _ _ (eW _ _ z))) hd hC⟩
def QU(K:Frag):Sp:=λvs H Q _=>∃(a:Addr) (l:List Str) (w:Nat),vs=[.ref a]/\aq K H a (l.map V.str)/\bo l w/\zu l w=none/\∀H',af H H'->Q .aB H'
theorem wm:bg ["sheet","about","cells","cell","counts"] ["sheet"] (aV (top 23)):={}
theorem ac4(F:aX K "need_floor" "need_floor" (top 23) f fd)(ac5:Fn P w K mg base "turned" 1 (QR K))(F8:Fn P w K mg base "open_cells" 3 (F4 K))(yn:Fn P w K mg base "is_open" 2 (By K))
  (ac6:Fn P w K mg base "rows_through" 6 (QS K)):aO P w K mg base aR 7 f fd ["sheet"] (QU K):=by
 refine F.bG wm λaH A outer s H vs Q E hr h=>?_
 refine hide λG_ aF=>?_
 obtain⟨a,l,wd,rfl,hT,S,wq,q⟩:=h
 refine aF.k ?_
 have cU:=gS hr
 refine⟨_,(ar (aK 1 wm.nd (aU ac5 hr (ab (pv 0) ag)))
  (ar (aK 2 wm.nd (aU F8 hr (ab (pv 0) ag)))
  (ar (cF (dn (pv 2)) (bN 3 wm.nd)
  (aw (bw (eI (dS (aU yn hr (ab (pv 1) (ab (pv 3) ag)))))
   (aw xk)
   bC)))
  (ar (aK 4 wm.nd (aU ac6 hr (ab (pv 0) ag)))
  (aw (cF (dn (pv 2)) (bN 3 wm.nd)
  (aw (bw (bR kW (LC cU (pv 4) (pv 3) az ⟨rfl,rfl,rfl,rfl⟩) az)
   (aw xk)
   bC)))))))),?_⟩
 try dsimp only[bA]
 refine⟨_,rfl,a,l,wd,rfl,hT,S,λt H1 ht s1 hTt=>?_⟩
 refine⟨_,rfl,a,l,wd,rfl,s1.tup hT,S,λp xs H2 hp s2 hL hC=>?_⟩
 have ku:=s1.trans s2
 have hcx:=hC.length
 refine⟨_,rfl,p,rfl,⟨_,ai.of hL⟩,kT (xs:=xs) (λi O H3=>∃v3,O=[some (.ref a),some (.ref t),some (.ref p),v3,none]/\H3=H2/\∀j c,j<i->(bV l wd)[j]? = some c->wk l c=false)
  ⟨none,rfl,rfl,λj c z=>absurd z (iu _)⟩ (λi O H3 _ ⟨_,_,e,_⟩=>by rw[e];exact ai.of hL) ?_ ?_⟩
 .intro i x O H3 hx ac7
  refine hide λG_ aZ=>?_
  obtain⟨v3,rfl,rfl,l7⟩:=ac7
  obtain⟨c,hc,b,rfl,hb⟩:=Paired.get hC hx
  obtain⟨m1,m2⟩:=sI (cy.mp (bj hc)).1
  refine aZ.k ?_
  refine⟨_,rfl,_,rfl,t,b,kF l,wd,c,rfl,aq.of (s2 _ _ hTt),QP S,aq.of hb,by rw[C4];exact m1,m2,_,rfl,?_⟩
  cases ho:bY (kF l) c with
  |true=>
   refine aL ⟨_,rfl,rfl,λj x hj e=>?_⟩
   rcases wZ.mp hj with z | z
   .exact l7 j x z e
   .rw[z,hc] at e
    cases e
    unfold wk
    rw[ho]
    rfl
  |false=>
   refine bf ?_
   unfold zu at wq
   rw[IK hc (by unfold wk;rw[ho];rfl) l7] at wq
   cases wq
 .rintro O H3 ⟨v3,rfl,rfl,l7⟩
  have jJ:(bV l wd).find? (wk l)=none:=IL λj x e=>l7 j x (by rw[<-hcx];exact(cg.mp e).1) e
  refine⟨_,rfl,a,l,wd,rfl,ku.tup hT,S,λd kvs H4 fP s4 hd hCn=>?_⟩
  have sS:=s4 _ _ hL
  refine⟨_,rfl,p,rfl,⟨_,ai.of sS⟩,kT (xs:=xs) (λi O H5=>∃v3,O=[some (.ref a),some (.ref t),some (.ref p),v3,some (.ref d)]/\H5=H4/\∀j c,j<i->(bV l wd)[j]? = some c->fC l wd c=false)
   ⟨v3,rfl,rfl,λj c z=>absurd z (iu _)⟩ (λi O H5 _ ⟨_,_,e,_⟩=>by rw[e];exact ai.of sS) ?_ ?_⟩
  .intro i x O H5 hx ac8
   refine hide λG_ bJ=>?_
   obtain⟨v3,rfl,rfl,IP⟩:=ac8
   obtain⟨c,hc,b,rfl,hb⟩:=Paired.get hC hx
   refine bJ.k ?_
   have hb4:H5 b=some (.tup ((kc c).map kV)):=s4 _ _ hb
   refine⟨_,rfl,d,rfl,.inr ⟨kvs,.inl hd⟩,_,rfl,_,dU.t hd hb4,?_⟩
   rw[hCn.get c]
   refine⟨_,_,rfl,rfl,_,rfl,?_⟩
   by_cases h2:cN c (dr l wd)<2
   .rw[aJ (by lia)]
    refine bf ?_
    unfold zu at wq
    rw[jJ,IK hc (by unfold fC;exact aJ h2) IP] at wq
    cases wq
   .rw[aN (by lia)]
    refine aL ⟨_,rfl,rfl,λj x hj e=>?_⟩
    rcases wZ.mp hj with z | z
    .exact IP j x z e
    .rw[z,hc] at e
     cases e
     unfold fC
     exact aN h2
  .rintro O H5 ⟨v3,rfl,rfl,IP⟩
   exact q _ (ku.trans s4)
end
theorem ac9(S:bo l w)(T:ic l w)(Y:kh l w):zu l w=none:=by
 unfold zu
 rw[IL λj x e=>?_,IL λj x e=>?_]
 .rfl
 .have mx:=bj e
  have hb:=sI (cy.mp mx).1
  unfold fC
  rw[T x (by rw[mI hb.1 hb.2];exact(cy.mp mx).2)]
  rfl
 .have mx:=bj e
  have hb:=sI (cy.mp mx).1
  have ho:=(cy.mp mx).2
  unfold wk
  have:bY (kF l) x=true:=by
   unfold bY at ho ⊢
   rw[show x=(x.1,x.2) from rfl,acR S hb.1 hb.2]
   have ho:¬sg l x=35:=by simpa using ho
   rw[aN λz=>ho ((Y x hb.1 hb.2).mpr z)]
   rfl
  rw[this]
  rfl
theorem jT.sym(F:jT l m w)(Y:kh l w):kh m w:=λc h1 h2=>by
 have i4:c.1<l.length:=by rw[<-F.ln];exact h1
 have e:∀d:C2,d.1<l.length->d.2<w->(sg m d=35↔sg l d=35):=λd d1 d2=>by
  have:=F.op d d1 d2
  unfold bY at this
  constructor
  .intro z
   rw[aJ z] at this
   simpa using this
  .intro z
   rw[aJ z] at this
   simpa using this
 rw[F.ln,e c i4 h2,e (l.length - 1 - c.1,w - 1 - c.2) (by show l.length - 1 - c.1<_;lia) (by show w - 1 - c.2<w;lia)]
 exact Y c i4 h2
theorem IQ(K:Frag)(H:Hp):∀ss:List Str,di K H (ss.map D.str) (ss.map V.str)
 |[]=>rfl
 |x::r=>⟨.str x,r.map V.str,rfl,rfl,IQ K H r⟩
theorem IS:∀ss:List Str,dN (ss.map D.str)=0
 |[]=>rfl
 |x::r=>by
  rw[bI,dN,IS r]
  rfl
theorem ada(ss:List Str):dW (.lst (ss.map D.str)) (.lst [])=decide (ss=[]):=by
 cases ss with
 |nil=>rfl
 |cons x r=>rfl
section
variable{w:World}
def zw(H:Hp)(m:List Str)(R:List (List C2))(ks:List Str)(n:Nat)(v:V):Prop:=
 (v = .aB/\∀pl,pl<n->cY m R pl ks≠[]/\46∉(au m (ah R pl)).cps.toList)\/
 ∃(t q:Addr) (pl:Nat),v = .ref t/\H t=some (.tup [.int (pl:Int),.ref q])/\H q=some (.lst ((cY m R pl ks).map V.str))/\pl<R.length/\(cY m R pl ks=[]\/46∈(au m (ah R pl)).cps.toList)
theorem zw.mono{n:Nat}{v:V}(s:af H H')(h:zw H m R ks n v):zw H' m R ks n v:=by
 rcases h with h | ⟨t,q,pl,e,h1,h2,h3,h4⟩
 .exact .inl h
 .exact .inr ⟨t,q,pl,e,s _ _ h1,s _ _ h2,h3,h4⟩
def IT(K:Frag):Sp:=λvs H Q _=>∃(ww g a:Addr) (ws:List Str) (l:List Str) (w:Nat) (R:List (List C2)) (zs:List V),vs=[.ref ww,.ref g,.ref a,.int 0]/\vq H ww ws/\ws.length<64/\(∀x∈ws,cK x=true)/\aq K H a (l.map V.str)/\cq l w R/\H g=some (.lst zs)/\c9 g H R zs/\
 ∀v H',af H H'->zw H' l R ws R.length v->Q v H'
theorem wt:bg ["_law_words_here","_law_rows_here","_law_sheet","_law_at","_law_narrow","_law_k","_law_place","_law_left_here"] ["_law_words_here","_law_rows_here","_law_sheet","_law_at"] (aV (top 72)):={}
theorem adb(B:Bl mg)(F:aX K "_law_turn" "_law_turn" (top 72) f fd)(lL:Fn P w K mg base "_law_left" 2 (vt K))(lE:Fn P w K mg base "_law_text" 1 (vm K)):aO P w K mg base aR 3 f fd ["_law_words_here","_law_rows_here","_law_sheet","_law_at"] (IT K):=by
 refine F.bG wt λaH A outer s H vs Q E hr h=>?_
 refine hide λG_ aF=>?_
 obtain⟨ww,g,a,ws,l,wd,R,zs,rfl,hW,dk,du,hT,FM,hG,hR,q⟩:=h
 refine aF.k ?_
 have hu:=hr.units
 refine⟨_,(ar (aK 4 wt.nd kR)
  (ar (cF (gm (by rfl) B.gD (ab (bc d7 (by rfl) B.b7 b6 (ab (pv 1) ag)) ag)) (bN 5 wt.nd)
  (ar (aK 6 wt.nd (aS fA (aS d5 (pv 3) (pv 5)) (bc d7 (by rfl) B.b7 b6 (ab (pv 1) ag))))
   (ar (aK 7 wt.nd (aU lL hr (ab (pv 0) (ab (pv 1) (ab (pv 2) (ab (pv 6) ag))))))
   (aw (bw (PW.pt (gO (bR (xO hu) (pv 7) (de ag)) (iA (bR Az dY (aU lE hr (ab (pv 2) (ab (aM d6 (pv 1) (pv 6)) ag)))))))
   (aw (bw (PW.pt (gO (bR xq (pv 4) kR) (iA (bR kW (bc d7 (by rfl) B.b7 b6 (ab (pv 7) ag)) (bc d7 (by rfl) B.b7 b6 (ab (aM bO (pv 4) az) ag))))))
    (aw (aK 4 wt.nd (eS (ab (pv 6) (ab (pv 7) ag)))))
    bC))
   bC)))))
  (aw (aP (pv 4))))),?_⟩
 try dsimp only[bA]
 have yM:=hR.length
 have jh:=qf FM.sh
 rw[<-vo,FM.eq] at jh
 refine⟨_,rfl,g,_,rfl,.inl (ai.of hG),_,rfl,by lia,by lia,?_⟩
 rw[dQ,<-yM]
 refine i5 (λi O H2=>∃(v4:V) (v5 v6 v7:Option V),O=[some (.ref ww),some (.ref g),some (.ref a),some (.int 0),some v4,v5,v6,v7]/\af H H2/\zw H2 l R ws i v4)
  ⟨.aB,none,none,none,rfl,af.cA _,.inl ⟨rfl,λpl h=>absurd h (iu _)⟩⟩ ?_ ?_
 .intro i O H3 hi ade
  refine hide λG_ aZ=>?_
  obtain⟨v4,v5,v6,v7,rfl,sm,hN⟩:=ade
  obtain⟨v,hv⟩:∃v,zs[i]? = some v:=⟨_,bb (by lia)⟩
  obtain⟨r,eZ,p,ys,rfl,_,hp,hc⟩:=Paired.get hR hv
  refine aZ.k ?_
  have er:ah R i=r:=bW eZ
  have bD:=jf FM.sh (r:=r) (by rw[FM.eq];exact bj eZ)
  have ei:(0+(i:Int)) % (zs.length:Int)=(i:Int):=by rw[tZ];exact Int.emod_eq_of_lt (by lia) (by lia)
  refine⟨_,rfl,_,rfl,_,_,rfl,rfl,_,rfl,g,_,rfl,.inl (ai.of (sm _ _ hG)),_,_,rfl,rfl,(by lia),?_⟩
  dsimp only
  rw[ei]
  refine⟨_,rfl,_,rfl,_,rfl,_,rfl,ww,g,a,ws,l,wd,i,zs,rfl,hW.mono sm,dk,du,sm.tup hT,FM.sh,sm _ _ hG,by rw[FM.eq];exact c9.mono sm hR,by rw[FM.eq];exact hi,λt H4 ht s4 nh=>?_⟩
  rw[FM.eq] at nh
  have dB:=sm.trans s4
  refine⟨_,rfl,bu _,λen ib=>?_⟩
  have s5:af H4 (upd H4 en (.lst [])):=af.upd ib
  have QV:upd H4 en (.lst []) en=some (.lst []):=ao
  generalize upd H4 en (.lst [])=H5 at s5 QV
  have eK:=dB.trans s5
  have zE:=s5 _ _ nh
  have QW:=hN.mono (s4.trans s5)
  refine⟨.lst ((cY l R i ws).map D.str),.lst [],⟨t,_,rfl,ai.of zE,IQ _ _ _⟩,⟨en,_,rfl,ai.of QV,rfl⟩,.inr ⟨_,_,rfl,rfl⟩,by rw[dep,IS];decide,_,rfl,?_⟩
  rw[ada]
  by_cases h0:cY l R i ws=[]
  .rw[aJ h0]
   refine bf (bf ?_)
   have hb:cY l R i ws=[]\/46∈(au l (ah R i)).cps.toList := .inl h0
   have C7:=QW
   have qL:=eK
   have kG:=zE
   rcases C7 with ⟨rfl,jJ⟩ | ⟨t0,q0,IU,rfl,h1,h2,h3,h4⟩
   .refine⟨_,rfl,rfl,_,rfl,bf (bf ⟨_,rfl,_,rfl,(by show 2<=sizeLine;decide),λtn lM=>?_⟩)⟩
    exact⟨.ref tn,_,_,_,rfl,qL.trans (af.upd lM),.inr ⟨tn,t,i,rfl,ao,(af.upd lM) _ _ kG,hi,hb⟩⟩
   .refine⟨_,rfl,rfl,_,rfl,aL ⟨_,rfl,t,_,rfl,.inl (ai.of kG),_,rfl,t0,_,1,.ref q0,rfl,rfl,aq.of h1,rfl,q0,_,rfl,.inl (ai.of h2),_,_,rfl,rfl,_,rfl,eE (λh=>?_) (λh=>?_)⟩⟩
    .refine⟨_,rfl,_,rfl,(by show 2<=sizeLine;decide),λtn lM=>?_⟩
     exact⟨.ref tn,_,_,_,rfl,qL.trans (af.upd lM),.inr ⟨tn,t,i,rfl,ao,(af.upd lM) _ _ kG,hi,hb⟩⟩
    .exact⟨.ref t0,_,_,_,rfl,qL,.inr ⟨t0,q0,IU,rfl,h1,h2,h3,h4⟩⟩
  .rw[aN h0]
   refine aL ⟨_,rfl,_,rfl,_,rfl,g,_,_,.ref p,rfl,rfl,ai.of (eK _ _ hG),c7 hv,a,p,l,wd,r,ys,rfl,eK.tup hT,FM.sh,eK _ _ hp,hc.mono eK,by have:=bD.2.1;lia,λc hc=>⟨(bD.2.2 c hc).1,(bD.2.2 c hc).2.1⟩,λH6 s6=>⟨_,_,rfl,rfl,_,rfl,?_⟩⟩
   have qL:=eK.trans s6
   have kG:=s6 _ _ zE
   have C7:=QW.mono s6
   have ef:(!(Builtin.Str.occurrences (au l r) (Str.ofString ".") 0 (au l r).length 1).isEmpty)=decide (46∈(au l r).cps.toList):=by
    rw[uY]
    exact DW (au l r) 46
   rw[ef]
   by_cases cO:46∈(au l r).cps.toList
   .rw[aJ cO]
    have hb:cY l R i ws=[]\/46∈(au l (ah R i)).cps.toList := .inr (by rw[er];exact cO)
    refine bf ?_
    rcases C7 with ⟨rfl,jJ⟩ | ⟨t0,q0,IU,rfl,h1,h2,h3,h4⟩
    .refine⟨_,rfl,rfl,_,rfl,bf (bf ⟨_,rfl,_,rfl,(by show 2<=sizeLine;decide),λtn lM=>?_⟩)⟩
     exact⟨.ref tn,_,_,_,rfl,qL.trans (af.upd lM),.inr ⟨tn,t,i,rfl,ao,(af.upd lM) _ _ kG,hi,hb⟩⟩
    .refine⟨_,rfl,rfl,_,rfl,aL ⟨_,rfl,t,_,rfl,.inl (ai.of kG),_,rfl,t0,_,1,.ref q0,rfl,rfl,aq.of h1,rfl,q0,_,rfl,.inl (ai.of h2),_,_,rfl,rfl,_,rfl,eE (λh=>?_) (λh=>?_)⟩⟩
     .refine⟨_,rfl,_,rfl,(by show 2<=sizeLine;decide),λtn lM=>?_⟩
      exact⟨.ref tn,_,_,_,rfl,qL.trans (af.upd lM),.inr ⟨tn,t,i,rfl,ao,(af.upd lM) _ _ kG,hi,hb⟩⟩
     .exact⟨.ref t0,_,_,_,rfl,qL,.inr ⟨t0,q0,IU,rfl,h1,h2,h3,h4⟩⟩
   .rw[aN cO]
    refine aL ⟨v4,_,_,_,rfl,qL,?_⟩
    rcases C7 with ⟨e,jJ⟩ | z
    .refine .inl ⟨e,λpl hpl=>?_⟩
     rcases DS pl i with y | y
     .exact jJ pl y
     .have e2:pl=i:=by lia
      rw[e2,er]
      exact⟨h0,cO⟩
    .exact .inr z
 .intro O H3 adf
  refine hide λG_ bJ=>?_
  obtain⟨v4,v5,v6,v7,rfl,sm,hN⟩:=adf
  refine bJ.k ?_
  exact⟨_,rfl,q _ _ sm hN⟩
end
theorem adg(F:cq m w R)(h:∀pl,pl<R.length->cY m R pl ks≠[]/\46∉(au m (ah R pl)).cps.toList):gG m=false/\dP ks m w=true:=by
 have hd:gG m=false:=Ql F λr mr=>by
  obtain⟨i,hi⟩:=eQ mr
  have:=(h i (cg.mp hi).1).2
  rwa [show ah R i=r from bW hi] at this
 have key:∀pl,pl<R.length->au m (ah R pl)∈ks/\au m (ah R pl)∉ow m R pl:=λpl hpl=>by
  obtain⟨h1,h2⟩:=h pl hpl
  obtain⟨x,mx⟩:=List.exists_mem_of_ne_nil _ h1
  unfold cY at mx
  obtain⟨mx,hn⟩:=cy.mp mx
  obtain⟨hk,hf⟩:=cy.mp ((fY _).mem_iff.mp mx)
  obtain⟨hl,hx⟩:=gc.mp hf
  have e:x=au m (ah R pl):=by
   apply mE
   apply ju
   intro k
   by_cases i3:k<x.length
   .have a1:x.cps.toList[k]? = some (x.cps.toList.getD k 0):=by
     rw[bT,bb (by rw[b9];exact i3)];rfl
    have a2:(au m (ah R pl)).cps.toList[k]? = some ((au m (ah R pl)).cps.toList.getD k 0):=by
     rw[bT,bb (by rw[b9];lia)];rfl
    rw[a1,a2]
    rcases hx k i3 with z | z
    .exact absurd (by rw[<-z];exact bj a2) h2
    .rw[z]
   .rw[cW (by rw[b9];lia),cW (by rw[b9];lia)]
  rw[<-e]
  exact⟨hk,by simpa using hn⟩
 refine⟨hd,OF hd ?_ ?_⟩
 .unfold dm
  rw[F.eq,List.Nodup,Kc]
  intro i j hi hj uU e
  rw[av] at hi hj
  have g:∀k (hk:k<R.length),(R.map (au m))[k]'(by rw[av];exact hk)=au m (ah R k):=λk hk=>by
   have:=kj R (au m) hk
   rw[bb (by rw[av];exact hk)] at this
   exact cQ this
  rw[g i hi,g j hj] at e
  exact(key i hi).2 (Hl.mpr ⟨j,hj,by lia,e.symm⟩)
 .intro x mx
  unfold dm at mx
  rw[F.eq] at mx
  obtain⟨r,mr,rfl⟩:=bM.mp mx
  obtain⟨i,hi⟩:=eQ mr
  have:=(key i (cg.mp hi).1).1
  rwa [show ah R i=r from bW hi] at this
def wu(ks m:List Str)(w:Nat)(new:List (List Str)):Prop:=new.Nodup/\∀s,s∈new↔cu s m w/\dP ks s w=true
theorem wu.whole(F:cq m w R)(h:∀pl,pl<R.length->cY m R pl ks≠[]/\46∉(au m (ah R pl)).cps.toList):wu ks m w [m]:=by
 obtain⟨hd,hf⟩:=adg F h
 refine⟨gM.mpr ⟨fm,iT⟩,λs=>⟨λms=>?_,λ⟨a,_⟩=>?_⟩⟩
 .rw[cj.mp ms]
  exact⟨cu.refl F.sh,hf⟩
 .exact cj.mpr (a.same F.sh hd)
def ni(ks m:List Str)(w:Nat)(R:List (List C2))(pl:Nat)(Xs:List Str)(new:List (List Str)):Prop:=new.Nodup/\∀s,s∈new↔cu s m w/\dP ks s w=true/\au s (ah R pl)∈Xs
theorem IV(h:x∈cY m R pl ks):x∈ks/\bK x (au m (ah R pl))=true:=by
 unfold cY at h
 exact cy.mp ((fY _).mem_iff.mp (cy.mp h).1)
theorem ni.step(F:cq m w R)(hx:jj x)(cM:bK x (au m (ah R pl))=true)(hn:x∉Xs)(S:ni ks m w R pl Xs new)(A:wu ks (putL m (ah R pl) x.cps.toList) w nw):ni ks m w R pl (Xs++[x]) (new++nw):=by
 have hl:x.length=(ah R pl).length:=by rw[(gc.mp cM).1,eD]
 have ht:∀s∈nw,cu s m w/\dP ks s w=true/\au s (ah R pl)=x:=λs ms=>by
  obtain⟨a,b⟩:=(A.2 s).mp ms
  exact⟨a.O1 F hx cM,b,a.text F hx hl⟩
 refine⟨oZ.mpr ⟨S.1,A.1,λs ms t mt e=>?_⟩,λs=>?_⟩
 .have h1:=((S.2 s).mp ms).2.2
  rw[e,(ht t mt).2.2] at h1
  exact hn h1
 .rw[cV,S.2,cV,cj]
  constructor
  .rintro(⟨a,b,c⟩ | h)
   .exact⟨a,b,.inl c⟩
   .obtain⟨a,b,c⟩:=ht s h
    exact⟨a,b,.inr c⟩
  .rintro⟨a,b,c | c⟩
   .exact .inl ⟨a,b,c⟩
   .refine .inr ((A.2 s).mpr ⟨?_,b⟩)
    have:=a.put F pl (by rw[c];exact hx)
    rwa [c] at this
theorem ni.all(F:cq m w R)(hw:∀x∈ks,cK x=true)(hpl:pl<R.length)(S:ni ks m w R pl (cY m R pl ks) new):wu ks m w new:=
 ⟨S.1,λs=>by
  rw[S.2]
  exact⟨λh=>⟨h.1,h.2.1⟩,λh=>⟨h.1,h.2,h.1.left F hw h.2 hpl⟩⟩⟩
theorem ni.nil(ks m:List Str)(w:Nat)(R:List (List C2))(pl:Nat):ni ks m w R pl [] []:=by simp_all [C2,ni]
noncomputable def lsN{α:Type}(al:List α):Nat->List (List α)
 |0=>[[]]
 |n+1=>al.flatMap λa=>(lsN al n).map λr=>a::r
theorem QX{α:Type}(al:List α):∀n,(lsN al n).length=al.length ^ n
 |0=>rfl
 |n+1=>by
  rw[lsN,Kj]
  simp only[av,QX al n]
  rw[List.map_const',Sl,Nat.pow_succ,oU]
theorem QY{α:Type}{al:List α}:∀{r:List α},(∀c∈r,c∈al)->r∈lsN al r.length
 |[],_=>bt
 |a::r,h=>Ad.mpr ⟨a,h a bt,iU (QY λc m=>h c (bX _ m))⟩
noncomputable def oO(m:List Str)(w:Nat):List (List C2):=(gX m w).map (·.2)
theorem QZ(h:r∈oO m w):r∈aG m w:=by
 obtain⟨q,mq,rfl⟩:=bM.mp h
 rw[qg]
 exact iU (cV.mpr (.inl mq))
theorem Q0(S:bo m w)(T:ic m w)(h:bz m w c=true):cN c (gX m w)=1:=by
 have:=T c h
 rw[G7,Bw S,FY S] at this
 rw[Bw S]
 split at this <;> split at this <;> simp_all
theorem adh(S:bo m w)(T:ic m w)(h9:m.length*w<=9):(oO m w).length<=4:=by
 have bD:∀q∈gX m w,2<=q.2.length/\∀c∈q.2,c∈bV m w:=λq mq=>by
  have h1:q.2∈aG m w:=QZ (iU mq)
  have h2:=jf S h1
  exact⟨h2.1,λc mc=>by
   have hc:=h2.2.2 c mc
   exact yj (by rw[mI hc.1 hc.2.1];exact hc.2.2)⟩
 have e:=G6 (Bv m w) (rs:=gX m w) λq mq=>(bD q mq).2
 have e2:((bV m w).map λc=>cN c (gX m w)).sum=(bV m w).length:=by
  rw[Ki (g:=λ_=>1) λc mc=>?_,List.map_const',Sl,iz]
  refine Q0 S T ?_
  unfold bV at mc
  obtain⟨m1,m2⟩:=cy.mp mc
  have:=sI m1
  rw[mI this.1 this.2]
  exact m2
 have e3:(bV m w).length<=9:=by
  refine bQ ?_ h9
  unfold bV
  exact bQ (iw _ _) (by rw[mG];exact aW _)
 have e4:∀rs:List (Nat×List C2),(∀q∈rs,2<=q.2.length)->2*rs.length<=(rs.map λq=>q.2.length).sum:=by
  intro rs
  induction rs with
  |nil=>intro _;exact aW _
  |cons a t ih=>
   intro h
   rw[bI,dG,dC]
   have:=h a bt
   have:=ih λq mq=>h q (bX _ mq)
   lia
 have:=e4 (gX m w) λq mq=>(bD q mq).1
 unfold oO
 rw[av]
 lia
theorem adi(S:bo m w)(T:ic m w){t:List Str}(A:cu s m w)(B:cu t m w)(e:(oO m w).map (au s)=(oO m w).map (au t)):s=t:=by
 refine Hj A.sh.dO B.sh.dO (A.ln.trans B.ln.symm) λc h1 h2=>?_
 rw[A.ln] at h1
 by_cases ho:bY m c=true
 .have h:=Q0 S T (c:=c) (by rw[mI h1 h2];exact ho)
  have hx:∃r∈oO m w,c∈r:=by
   refine Sj λhn=>?_
   have:cN c (gX m w)=0:=by
    unfold cN
    refine uW λy my=>?_
    obtain⟨q,mq,rfl⟩:=bM.mp my
    exact Kd.mpr λmc=>hn ⟨q.2,iU mq,mc⟩
   lia
  obtain⟨r,mr,mc⟩:=hx
  have er:au s r=au t r:=by
   obtain⟨i,hi⟩:=eQ mr
   have:=fh (λz=>z[i]?) e
   rw[bE,bE,hi] at this
   exact cQ this
  obtain⟨k,hk⟩:=eQ mc
  have:=fh (λz:Str=>z.cps.toList[k]?) er
  rw[iN hk,iN hk] at this
  exact cQ this
 .have a:¬bY s c=true:=by rw[A.op h1 h2];exact ho
  have b:¬bY t c=true:=by rw[B.op h1 h2];exact ho
  rw[B9 a,B9 b]
theorem IW(S:bo m w)(T:ic m w)(h9:m.length*w<=9)(hk:ks.length<64)(nd:new.Nodup)(h:∀s∈new,cu s m w/\dP ks s w=true):new.length<=15752961:=by
 have h1:(new.map λs=>(oO m w).map (au s)).length<=(lsN ks (oO m w).length).length:=by
  refine List.Nodup.length_le_of_subset ?_ ?_
  .rw[List.Nodup,List.pairwise_map]
   refine List.Pairwise.imp_of_mem (λma mb bx e=>bx ?_) nd
   exact adi S T (h _ ma).1 (h _ mb).1 e
  .intro y my
   obtain⟨s,ms,rfl⟩:=bM.mp my
   obtain⟨A,hf⟩:=h s ms
   have h3:=(yL hf).2.2
   have:=QY (al:=ks) (r:=(oO m w).map (au s)) λx mx=>by
    obtain⟨r,mr,rfl⟩:=bM.mp mx
    refine h3 _ ?_
    unfold dm
    rw[A.rows]
    exact iU (QZ mr)
   rwa [av] at this
 rw[av,QX] at h1
 have h2:=adh S T h9
 refine bQ h1 (bQ (Nat.pow_le_pow_left (show ks.length<=63 by lia) _) ?_)
 exact bQ (Nat.pow_le_pow_right (by decide) h2) (by decide)
theorem adj(h:ks.Nodup):(cY m R pl ks).Nodup:=by
 unfold cY
 exact((fY _).nodup_iff.mpr (h.filter _)).filter _
theorem adk(F:cq m w R)(hx:jj x)(hl:x.length=(ah R pl).length):jT m (putL m (ah R pl) x.cps.toList) w:=by
 refine⟨lI _ _ _,λc h1 h2=>?_⟩
 rcases yU F pl hl h1 h2 with ⟨k,ch,hk,hch,e⟩ | ⟨_,e⟩
 .rw[(F.oz hk).2.2]
  unfold bY
  have:=hx ch (bj hch)
  rw[e,aN (by lia)]
  rfl
 .unfold bY
  rw[e]
section
variable{w:World}
structure adl(K:Frag)(H:Hp)(ww g a:Addr)(ws l:List Str)(w n:Nat)(R:List (List C2))(zs:List V):Prop where
 hW:vq H ww ws
 fC:ws.length<64
 wd:∀x∈ws,cK x=true
 nd:ws.Nodup
 hT:H a=some (.tup (l.map V.str))
 fl:cq l w R
 two:ic l w
 nine:l.length*w<=9
 free:(fN l w).length<n
 hG:H g=some (.lst zs)
 hR:c9 g H R zs
def C8(K:Frag)(n:Nat):Sp:=λvs H Q _=>∃(ww g a:Addr) (ws l:List Str) (w:Nat) (R:List (List C2)) (zs:List V),vs=[.ref ww,.ref g,.ref a]/\adl K H ww g a ws l w n R zs/\
 ∀t ts new H',H t=none->af H H'->H' t=some (.lst (ts.map V.ref))->m6 H' ts new->wu ws l w new->Q (.ref t) H'
theorem wx:bg ["_law_words_here","_law_rows_here","_law_sheet","_law_turn_here","_law_told","_law_word"] ["_law_words_here","_law_rows_here","_law_sheet"] (aV (top 73)):={}
theorem adm(n:Nat)(B:Bl mg)(F:aX K "_law_all" "_law_all" (top 73) f fd)(IX:Fn P w K mg base "_law_all" (n+3) (C8 K n))(C9:Fn P w K mg base "_law_turn" 3 (IT K))(jq:Fn P w K mg base "_law_put" 2 (sW K)):aO P w K mg base aR (n+4) f fd ["_law_words_here","_law_rows_here","_law_sheet"] (C8 K (n+1)):=by
 refine F.bG wx λaH A outer s H vs Q E hr h=>?_
 refine hide λG_ aF=>?_
 obtain⟨ww,g,a,ws,l,wd,R,zs,rfl,PA,q⟩:=h
 refine aF.k ?_
 have hu:=hr.units
 refine⟨_,(ar (aK 3 wx.nd (aU C9 hr (ab (pv 0) (ab (pv 1) (ab (pv 2) (ab az ag))))))
  (ar (bw (bR xq (pv 3) kR)
  (aw (aP (de (ab (pv 2) ag))))
  bC)
  (ar (aK 4 wx.nd (de ag))
  (ar (cF (dn (aM bO (pv 3) az)) (bN 5 wx.nd)
  (aw (aK 4 wx.nd (aS EC (pv 4) (aU IX hr (ab (pv 0) (ab (pv 1) (ab (aU jq hr (ab (pv 2) (ab (aM d6 (pv 1) (aM bO (pv 3) az)) (ab (pv 5) ag)))) ag))))))))
  (aw (aP (pv 4))))))),?_⟩
 try dsimp only[bA]
 refine⟨_,rfl,_,rfl,_,rfl,ww,g,a,ws,l,wd,R,zs,rfl,PA.hW,PA.fC,PA.wd,aq.of PA.hT,PA.fl,PA.hG,PA.hR,λv H1 s1 hN=>?_⟩
 rcases hN with ⟨rfl,l7⟩ | ⟨t,lf,pl,rfl,ht,vQ,hpl,hd⟩
 .refine⟨_,rfl,rfl,_,rfl,bf ⟨_,rfl,(by show 1<=sizeLine;decide),λr Q1=>?_⟩⟩
  have s2:=s1.trans (af.upd (o:=HO.lst [V.ref a]) Q1)
  exact q r [a] [l] _ (s1.free Q1) s2 ao (.cons (s2 _ _ PA.hT) .nil) (wu.whole PA.fl l7)
 .refine⟨_,rfl,rfl,_,rfl,aL ⟨bu _,λlt aT=>?_⟩⟩
  have ltH:=s1.free aT
  have s2:=af.upd (o:=HO.lst []) aT
  have Bi:upd H1 lt (.lst []) lt=some (.lst (([]:List Addr).map V.ref)):=ao
  have gE:=s2 _ _ ht
  have IY:=s2 _ _ vQ
  have ku:=s1.trans s2
  generalize upd H1 lt (.lst [])=H2 at ku Bi gE IY
  clear s2
  have hsz:(15752961:Nat)<=sizeLine:=by decide
  have yV:=PA.hR.length
  refine hide λG_ aZ=>?_
  obtain⟨zv,qM⟩:∃zv,zs[pl]? = some zv:=⟨_,bb (by lia)⟩
  obtain⟨r0,hr0,qN,tj,rfl,_,zF,iD⟩:=Paired.get PA.hR qM
  refine aZ.k ?_
  have qO:ah R pl=r0:=bW hr0
  refine⟨_,rfl,t,_,1,.ref lf,rfl,rfl,aq.of gE,rfl,lf,rfl,⟨_,ai.of IY⟩,?_⟩
  refine kT (K:=K) (xs:=(cY l R pl ws).map V.str) (λi O H3=>∃(lt:Addr) (v5:Option V) (ts:List Addr) (new:List (List Str)),O=[some (.ref ww),some (.ref g),some (.ref a),some (.ref t),some (.ref lt),v5]/\af H2 H3/\H lt=none/\H3 lt=some (.lst (ts.map V.ref))/\m6 H3 ts new/\ni ws l wd R pl ((cY l R pl ws).take i) new)
   ⟨lt,none,[],[],rfl,af.cA _,ltH,Bi,.nil,ni.nil ..⟩ (λi O H3 _ ⟨_,_,_,_,_,s3,_⟩=>ai.of (s3 _ _ IY)) ?_ ?_
  .intro i y O H3 hy adn
   refine hide λG_ bJ=>?_
   obtain⟨lt,v5,ts,new,rfl,s3,Q2,IZ,mY,S3⟩:=adn
   rw[bE] at hy
   obtain⟨x,hx,rfl⟩:=iS.mp hy
   have I0:=bj hx
   obtain⟨fT,cM⟩:=IV I0
   refine bJ.k ?_
   have jo:=vT (PA.wd x fT)
   have eC:x.length=(ah R pl).length:=by rw[(gc.mp cM).1,eD]
   have eO:=ku.trans s3
   have ado:46∈(au l (ah R pl)).cps.toList:=by
    rcases hd with z | z
    .rw[z] at I0;exact nomatch I0
    .exact z
   have dy:=σ3 PA.fl jo cM ado
   have nV:=PA.free
   refine⟨_,rfl,_,rfl,_,rfl,_,rfl,_,rfl,_,rfl,t,_,0,.int pl,rfl,rfl,aq.of (s3 _ _ gE),rfl,g,_,_,.ref qN,rfl,rfl,ai.of (eO _ _ PA.hG),c7 qM,_,rfl,?_⟩
   refine⟨a,qN,l,wd,r0,tj,x,rfl,eO _ _ PA.hT,PA.fl.sh.dO,eO _ _ zF,iD.mono eO,by rw[<-qO];exact PA.fl.iO pl,λa2 H4 s4 ml=>?_⟩
   rw[<-qO] at ml
   have fI:=eO.trans s4
   refine⟨ww,g,a2,ws,putL l (ah R pl) x.cps.toList,wd,R,zs,rfl,⟨PA.hW.mono fI,PA.fC,PA.wd,PA.nd,ml,PA.fl.put pl jo eC,(adk PA.fl jo eC).two PA.two,by rw[lI];exact PA.nine,by lia,fI _ _ PA.hG,c9.mono fI PA.hR⟩,λt' c8 nw H5 _ s5 zE jQ A5=>?_⟩
   have iI:(cY l R pl ws).take (i+1)=(cY l R pl ws).take i++[x]:=by rw[fL,hx];rfl
   have hnx:x∉(cY l R pl ws).take i:=by
    have h1:((cY l R pl ws).take (i+1)).Nodup:=(adj PA.nd).sublist (DJ _ _)
    rw[iI,oZ] at h1
    exact λm=>h1.2.2 x m x (cj.mpr rfl) rfl
   have S5:=S3.step PA.fl jo cM hnx A5
   have Dc:=s4.trans s5
   have adp:m6 H5 ts new:=mY.keep λb o _ _ e=>Dc _ _ e
   have Q3:m6 H5 (ts++c8) (new++nw):=qw adp jQ
   have hle:=IW PA.fl.sh PA.two PA.nine PA.fC S5.1 λs ms=>⟨((S5.2 s).mp ms).1,((S5.2 s).mp ms).2.1⟩
   have e1:=fJ Q3
   refine⟨lt,t',_,_,rfl,rfl,Dc _ _ IZ,zE,by rw[av,av,<-dE];lia,λp hp=>?_⟩
   have s6:=af.upd (o:=HO.lst (ts.map V.ref++c8.map V.ref)) hp
   refine⟨p,_,ts++c8,new++nw,rfl,s3.trans (Dc.trans s6),ku.free (s3.free (Dc.free hp)),by rw[ao,dF],Q3.keep (λb o _ _ e=>s6 _ _ e),by rw[iI];exact S5⟩
  .intro O H3 adq
   refine hide λG_ cG=>?_
   obtain⟨lt,v5,ts,new,rfl,s3,Q2,IZ,mY,S3⟩:=adq
   refine cG.k ?_
   rw[av,fq (aW _)] at S3
   exact⟨_,rfl,q lt ts new H3 Q2 (ku.trans s3) IZ mY (S3.all PA.fl PA.wd hpl)⟩
theorem Q4(B:Bl mg)(F:aX K "_law_all" "_law_all" (top 73) f fd)(hm:mg "_law_all"=some (.ref f))(hk:keepIn K (.ref f)=true)(hb:Binds K fd ["_law_words_here","_law_rows_here","_law_sheet"] [])(C9:Fn P w K mg base "_law_turn" 3 (IT K))(jq:Fn P w K mg base "_law_put" 2 (sW K)):∀n:Nat,aO P w K mg base aR (n+3) f fd ["_law_words_here","_law_rows_here","_law_sheet"] (C8 K n)
 |0=>F.ok wx (λvs H Q E h=>by obtain⟨ww,g,a,ws,l,w,R,zs,rfl,PA,_⟩:=h;exact absurd PA.free (iu _)) (λaH A outer s H vs Q E hr h=>by obtain⟨ww,g,a,ws,l,w,R,zs,rfl,PA,_⟩:=h;exact absurd PA.free (iu _))
 |n+1=>adm n B F ⟨f,fd,_,Q4 B F hm hk hb C9 jq n,hm,hk,hb⟩ C9 jq
end
noncomputable def zG(al:List Nat):Nat->List (List Nat)
 |0=>[[]]
 |n+1=>al.flatMap λa=>(zG al n).map λr=>a::r
theorem Q5(al:List Nat):∀n,(zG al n).length=al.length ^ n
 |0=>rfl
 |n+1=>by
  rw[zG,Kj]
  simp only[av,Q5 al n]
  rw[List.map_const',Sl,Nat.pow_succ,oU]
theorem Q6{al:List Nat}:∀{r:List Nat},(∀c∈r,c∈al)->r∈zG al r.length
 |[],_=>bt
 |a::r,h=>Ad.mpr ⟨a,h a bt,iU (Q6 λc m=>h c (bX _ m))⟩
noncomputable def I8:List Nat:=46::(List.range 26).map (· + 97)
def M4(t:Str):Prop:=t.length<=4/\∀c∈t.cps.toList,c=46\/(97<=c/\c<=122)
theorem ads:Cg M4:=by
 intro ks nd h
 have h1:ks.length<=(((List.range 5).flatMap λn=>zG I8 n).map λr=>(Sum.inr ⟨r.toArray⟩:Key)).length:=by
  refine FI nd λk mk=>?_
  obtain⟨x,rfl,hx1,hx2⟩:=h k mk
  refine bM.mpr ⟨x.cps.toList,Ad.mpr ⟨x.cps.toList.length,ip.mpr (by rw[b9];lia),Q6 λc mc=>?_⟩,by simp⟩
  unfold I8
  rcases hx2 c mc with z | z
  .rw[z];exact bt
  .exact bX _ (bM.mpr ⟨c - 97,ip.mpr (by lia),by lia⟩)
 rw[av,Kj] at h1
 simp only[Q5] at h1
 have e:I8.length=27:=by decide
 rw[e] at h1
 have e2:((List.range 5).map λn=>27 ^ n).sum=551881:=by decide
 rw[e2] at h1
 exact jX h1 (by decide)
theorem adt(h4:l.length<=4)(w4:w<=4)(h:r∈aG l w):r.length<=4:=by
 have key:∀k:Nat,k<=1->∀c:C2,(cb (bz l w) (cH k) c).length<=4:=λk hk c=>by
  unfold cb
  split
  .exact bu _
  .split
   .exact bu _
   .rw[sJ]
    rcases DS 4 (runN (bz l w) (cH k) 10 c) with z | z
    .exfalso
     have:=pX (uV z)
     unfold go cH at this
     dsimp only at this
     have e:k=0\/k=1:=by lia
     rcases e with e | e <;> subst e <;> simp at this <;> lia
    .exact z
 unfold aG lD jd at h
 rcases cV.mp h with h | h
 .obtain⟨c,_,e⟩:=bM.mp (cy.mp h).1
  rw[<-e]
  exact key 0 (by decide) c
 .obtain⟨c,_,e⟩:=bM.mp (cy.mp h).1
  rw[<-e]
  exact key 1 (by decide) c
theorem Q7{w:Nat}:∀{m:List Str}(_:eB m w) (cs:List C2) (xs:List Nat),(∀c∈cs,c.1<m.length/\c.2<w)->∀{d:C2},d.1<m.length->d.2<w->sg (putL m cs xs) d=sg m d\/sg (putL m cs xs) d∈xs
 |m,S,[],_,_,d,_,_=>by simp[putL]
 |m,S,c::cs,[],_,d,_,_=>by simp[putL]
 |m,S,c::cs,x::xs,h,d,d1,d2=>by
  have hc:=h c bt
  rw[putL]
  rcases Q7 (S.set (ch:=x) hc.1 hc.2) cs xs (λe me=>by rw[dz];exact h e (bX _ me)) (d:=d) (by rw[dz];exact d1) d2 with z | z
  .rw[z,S.lB hc.1 hc.2 d1 d2]
   by_cases e:d=c
   .rw[aA e];exact .inr bt
   .rw[ax e];exact .inl rfl
  .exact .inr (bX _ z)
theorem adu(S:bo l w)(h1:c.1<l.length)(h2:c.2<w):pV (sg l c):=by
 obtain⟨x,_,mx,_,_,hj⟩:=S.row h1
 exact S.ok x mx _ (bj (hj _ h2))
theorem adv{k:Nat}(F:cq m w R)(h4:m.length<=4)(w4:w<=4)(hx:jj x)(hi:i<R.length):M4 (au (putL m ((ah R pl).take k) (x.cps.toList.take k)) (ah R i)):=by
 refine⟨?_,λc mc=>?_⟩
 .rw[eD]
  have:=qu hi
  rw[<-F.eq] at this
  rw[<-F.eq]
  exact adt h4 w4 this
 .rw[jR] at mc
  obtain⟨d,md,rfl⟩:=bM.mp mc
  obtain⟨j,hj⟩:=eQ md
  have hb:=F.oz hj
  rcases Q7 F.sh.dO ((ah R pl).take k) (x.cps.toList.take k) (λe me=>F.iO pl e (Ae me)) hb.1 hb.2.1 with z | z
  .rw[z]
   have ho:=adu F.sh hb.1 hb.2.1
   have jc:¬sg m d=35:=by
    have:=hb.2.2
    unfold bY at this
    simpa using this
   rcases ho with y | y | y
   .exact absurd y jc
   .exact .inl y
   .exact .inr y
  .exact .inr (hx _ (Ae z))
theorem Q8(l:List Str)(w:Nat):(fN l w).length<=l.length*w:=by
 unfold fN
 exact bQ (iw _ _) (by rw[mG];exact aW _)
def adw(l:List Str)(w:Nat)(ks:List Str)(wf:Str->Int)(H:Hp)(x y:V)(o:Option Int):Prop:=
 (x = .aB/\y = .aB/\o=none/\∀s,cu s l w->dP ks s w=true->False)\/
 ∃sa s c,x = .ref sa/\y = .int c/\H sa=some (.tup (s.map V.str))/\o=some c/\c=oG wf (aG l w) s/\cu s l w/\dP ks s w=true/\∀s',cu s' l w->dP ks s' w=true->oG wf (aG l w) s'<=c
section
variable{w:World}
def Q9(K:Frag)(CB CH CC:Addr):Sp:=λvs H Q _=>∃(a bk d:Addr) (l:List Str) (w:Nat) (kvs:List (Key×V)),vs=[.ref bk,.ref a]/\H a=some (.tup (l.map V.str))/\bo l w/\ic l w/\kh l w/\l.length<=4/\w<=4/\l.length*w<=9/\g9 CB H bk d kvs/\kvs.length<64/\(∀x∈aC kvs,cK x=true)/\vp kvs/\
 ∀(t:Addr) (x y v:V) (o:Option Int) (H':Hp),af H H'->H' t=some (.tup [x,y,v])->m7 (λ_=>True) H' CH CC (aG l w) (aC kvs) (eN kvs) o 17 v l->adw l w (aC kvs) (eN kvs) H' x y o->Q (.ref t) H'
theorem I9:bg ["book","sheet","found","paper"] ["book","sheet"] (aV (top 41)):={}
theorem adx{CB:Addr}(F:aX K "best" "best" (top 41) f fd)(ady:Fn P w K mg base "need_floor" 7 (QU K))(adz:Fn P w K mg base "first_standing" 8 (P7 K CB CG CS))(Im:Fn P w K mg base "bounding_paper" 21 (CP K CG CS CH CC 17)):aO P w K mg base aR 22 f fd ["book","sheet"] (Q9 K CB CH CC):=by
 refine F.bG I9 λaH A outer s H vs Q E hr h=>?_
 refine hide λG_ aF=>?_
 obtain⟨a,bk,d,l,wd,kvs,rfl,hT,S,T2,Sy,h4,w4,h9,hB,dk,du,kr,q⟩:=h
 refine aF.k ?_
 refine⟨_,(ar (fu (aU ady hr (ab (pv 1) ag)))
  (ar (aK 2 I9.nd (de ag))
  (ar (aK 3 I9.nd (aU Im hr (ab (aU adz hr (ab (pv 0) (ab (pv 1) ag))) (ab (pv 2) ag))))
  (ar (bw (eI (pE (pv 2) (by intro _;rfl)))
  (aw (aP (eS (ab kR (ab kR (ab (pv 3) ag))))))
  bC)
  (aw (aP (eS (ab (aM bO (aM d6 (pv 2) (xo xp az)) az) (ab (aM bO (aM d6 (pv 2) (xo xp az)) az) (ab (pv 3) ag)))))))))),?_⟩
 try dsimp only[bA]
 have FL:=QO S T2
 refine⟨_,rfl,a,l,wd,rfl,aq.of hT,S,ac9 S T2 Sy,λH1 s1=>?_⟩
 refine⟨bu _,λfo da=>?_⟩
 have s2:af H (upd H1 fo (.lst [])):=s1.trans (af.upd da)
 have Ja:upd H1 fo (.lst []) fo=some (.lst (([]:List Addr).map V.ref)):=ao
 have adA:H fo=none:=s1.free da
 generalize upd H1 fo (.lst [])=H2 at s2 Ja
 refine⟨_,rfl,_,rfl,a,bk,d,l,wd,aG l wd,kvs,rfl,s2 _ _ hT,FL,hB.mono s2,dk,du,kr,λst g kn wo H3 s3 adB hG c4 hS qF=>?_⟩
 have zt:=s3 _ _ Ja
 have eC:∀x∈aC kvs,jj x:=λx mx=>vT (du x mx)
 have hkd:(aC kvs).Nodup:=P6 hB.nd hB.tx
 have jh:=qf S
 rw[<-vo] at jh
 have adC:H kn=none:=s2.free adB
 have Ra:(aC kvs).length<64:=by rw[lF];exact dk
 refine⟨_,rfl,st,g,kn,fo,wd,l,l,aC kvs,eN kvs,aG l wd,[],(λb=>H2 b=none),M4,[],[],rfl,⟨hG,hS,qF,c4,⟨iT,(λk mk=>nomatch mk),(λx v hv=>by cases hv)⟩,ads,λm' pl x k i Fm vJ hpl fT Pp _ hi _=>adv Fm (by lia) w4 (eC x fT) hi,FL,FL,rfl,by lia,du,hkd,Ra,λb e=>s3.free e,(λz=>by have z:H2 fo=none:=z;rw[Ja] at z;cases z),zt,.nil,⟨iT,(λ_ m=>nomatch m),(λ_ m=>nomatch m)⟩,λF nd h=>IW S T2 h9 Ra nd h,λ_ A=>A,?_⟩,λv new c8 QD H4 BP=>?_⟩
 .have:=Q8 l wd
  have:l.length*wd<=4*4:=Aa h4 w4
  lia
 refine hide λG_ aZ=>?_
 obtain⟨kx,tF,zh,De,jS,Jb,_,tO,qJ⟩:=BP
 refine aZ.k ?_
 rw[DM] at De jS Jb tO qJ
 rw[DM] at jS
 have fI:af H H4:=λb o e=>kx b o (bq e adC) (bq e adA) (s3 _ _ (s2 _ _ e))
 have Df:m7 (λ_=>True) H4 CH CC (aG l wd) (aC kvs) (eN kvs) (jn new) 17 v l:=qJ.mono (Kp.refl _ _) (λ_ _ _ _=>trivial) (dX.refl _)
 refine⟨_,rfl,_,.inl ⟨_,ai.of De,rfl⟩,?_⟩
 rcases List.eq_nil_or_concat new with rfl | ⟨fr,pr,rfl⟩
 .cases jS
  refine bf ⟨_,rfl,(by show 3<=sizeLine;decide),λt ht=>?_⟩
  have s5:af H4 _:=af.upd (o:=HO.tup [.aB,.aB,v]) ht
  refine q t .aB .aB v none _ (fI.trans s5) ao (Df.mono (Kp.of s5) (λ_ _ _ _=>trivial) (dX.refl _)) (.inl ⟨rfl,rfl,rfl,λs A hf=>?_⟩)
  obtain⟨_,z,_⟩:=tO s A hf _ rfl
  cases z
 .rw[List.concat_eq_append] at jS Jb tO Df
  refine hide λG_ bJ=>?_
  obtain⟨t1,Dg,rfl,a1,BH,ha1⟩:∃t Dg,c8=Dg++[t]/\∃a,H4 t=some (.tup [.ref a,.int pr.2])/\H4 a=some (.tup (pr.1.map V.str)):=by
   have hl:=fJ jS
   have bx:c8≠[]:=λz=>by rw[z] at hl;simp at hl
   have hg:(fr++[pr])[fr.length]? = some pr:=by simp
   obtain⟨t,ht,a,h3,h5⟩:=Paired.get jS hg
   refine⟨t,c8.dropLast,?_,a,h3,h5⟩
   have e:=Sk bx
   have:c8.getLast bx=t:=by
    have tL:=List.getLast?_eq_getElem? (l:=c8)
    rw[List.getLast?_eq_some_getLast bx] at tL
    have hlen:c8.length - 1=fr.length:=by rw[hl];simp
    rw[hlen,ht] at tL
    exact cQ tL
   rw[<-this]
   exact e.symm
  refine bJ.k ?_
  have bx:(!((Dg++[t1]).map V.ref).isEmpty)=true:=by simp
  rw[bx]
  have mf:eT ((Dg++[t1]).map V.ref) (-1)=some (.ref t1):=by rw[dF];exact Lj _ _
  refine aL ⟨_,rfl,_,rfl,fo,_,-1,.ref t1,rfl,rfl,ai.of De,mf,t1,_,0,.ref a1,rfl,rfl,aq.of BH,rfl,_,rfl,_,rfl,fo,_,-1,.ref t1,rfl,rfl,ai.of De,mf,t1,_,1,.int pr.2,rfl,rfl,aq.of BH,rfl,_,rfl,(by show 3<=sizeLine;decide),λt ht=>?_⟩
  have s5:af H4 _:=af.upd (o:=HO.tup [.ref a1,.int pr.2,v]) ht
  rw[vU] at tO Df
  obtain⟨o1,o2,o3⟩:=Jb.ok pr (jt _ (cj.mpr rfl))
  refine q t _ _ v _ _ (fI.trans s5) ao (Df.mono (Kp.of s5) (λ_ _ _ _=>trivial) (dX.refl _)) (.inr ⟨a1,pr.1,pr.2,rfl,rfl,s5 _ _ ha1,rfl,o3,o1,o2,λs A hf=>?_⟩)
  obtain⟨y,z,le⟩:=tO s A hf _ rfl
  cases z
  exact le
end
def qP(ks:List Str)(wf:Str->Int)(l:List Str)(r:List C2)(M:Int):Prop:=(∃x∈ks,bK x (au l r)=true/\M=wf x)/\∀x∈ks,bK x (au l r)=true->wf x<=M
theorem Rb{α:Type}(g:α->Int)(K:Frag)(H:Hp):∀is:List α,di K H (is.map λi=>D.int (g i)) (is.map λi=>V.int (g i))
 |[]=>rfl
 |i::r=>⟨.int (g i),r.map λi=>V.int (g i),rfl,rfl,Rb g K H r⟩
theorem adD(g:α->Int)(is:List α):dep (.lst (is.map λi=>D.int (g i)))<=50:=by
 have:dN (is.map λi=>D.int (g i))=0:=by
  induction is with
  |nil=>rfl
  |cons i r ih=>rw[bI,dN,ih];rfl
 rw[dep,this]
 decide
theorem adE(g:α->Int)(is:List α):dW (.lst (is.map λi=>D.int (g i))) (.lst [])=is.isEmpty:=by
 cases is <;> rfl
section
variable{w:World}
structure Rc(K:Frag)(H:Hp)(ww g a:Addr)(kvs:List (Key×V))(l:List Str)(w:Nat)(zs:List V):Prop where
 e1:H ww=some (.dK kvs)
 e2:iF kvs
 e3:vp kvs
 e4:kvs.length<64
 e5:∀x∈aC kvs,cK x=true
 e6:aq K H a (l.map V.str)
 e7:bo l w
 e8:H g=some (.lst zs)
 e9:c9 g H (aG l w) zs
 ea:∀r∈aG l w,∃x∈aC kvs,bK x (au l r)=true
def Dh(K:Frag):Sp:=λvs H Q _=>∃(ww g a:Addr) (kvs:List (Key×V)) (l:List Str) (w:Nat) (zs:List V),vs=[.ref ww,.ref g,.ref a]/\Rc K H ww g a kvs l w zs/\
 ∀ms H',af H H'->Paired (qP (aC kvs) (eN kvs) l) (aG l w) ms->Q (.int ms.sum) H'
theorem qQ:bg ["_law_worths_here","_law_rows_here","_law_sheet","_law_total","_law_cells","_law_text_here","_law_fits","_law_word","_law_wrong"] ["_law_worths_here","_law_rows_here","_law_sheet"] (aV (top 75)):={}
theorem adF(B:Bl mg)(F:aX K "_law_sum" "_law_sum" (top 75) f fd)(lE:Fn P w K mg base "_law_text" 1 (vm K)):aO P w K mg base aR 2 f fd ["_law_worths_here","_law_rows_here","_law_sheet"] (Dh K):=by
 refine F.bG qQ λaH A outer s H vs Q E hr h=>?_
 refine hide λG_ aF=>?_
 obtain⟨ww,g,a,kvs,l,wd,zs,rfl,⟨hW,lG,kr,dk,du,hT,S,hG,hR,cM⟩,q⟩:=h
 refine aF.k ?_
 have hu:=hr.units
 have cU:=gS hr
 refine⟨_,(ar (aK 3 qQ.nd az)
  (ar (cF (dn (pv 1)) (bN 4 qQ.nd)
  (ar (aK 5 qQ.nd (aU lE hr (ab (pv 2) (ab (pv 4) ag))))
   (ar (aK 6 qQ.nd (de ag))
   (ar (Bd (cF (Bb (pv 0)) (bN 7 qQ.nd)
   (aw (bw (bR lW (bc eU (by rfl) B.b7 b6 (ab (pv 7) ag)) (bc eU (by rfl) B.b7 b6 (ab (pv 5) ag)))
    (ar (r8 (i:=8) qQ.nd rfl (Or.inl rfl) (js:=[5,7]) (ns:=["_law_text_here","_law_word"]) (gm (by rfl) B.gD (ab (bc eU (by rfl) B.b7 b6 (ab (pv 5) ag)) ag)) rfl rfl rfl rfl (λ_ _ _ _=>(lh (E4 (K:=K) (rr:=λK=>AK K true) rfl uu (aM fV (pv 1) (pv 0)) (de (ab dY (ab (aM fV (pv 2) (pv 0)) ag)))))) (λ_ _ _ _=>(pv 0)))
     (aw (bw (bR (xO hu) (pv 8) (de ag))
     (aw (fu (fB jv jZ j0 iC (pv 6) (ab (uz cU (pv 0) (pv 7) (λ_ _=>rfl)) ag))))
     bC)))
    bC))))
   (ar (bw (bR (xO hu) (pv 6) (de ag))
   (aw (aP (xo xp az)))
   bC)
   (aw (aK 3 qQ.nd (aS d5 (pv 3) (bc (X6 rfl) (by rfl) B.Yk V6 (ab (pv 6) ag))))))))))
  (aw (aP (pv 3))))),?_⟩
 try dsimp only[bA]
 have yM:=hR.length
 have jh:=qf S
 rw[<-vo] at jh
 rw[c9] at hR
 refine⟨_,rfl,g,rfl,⟨_,ai.of hG⟩,?_⟩
 refine kT (K:=K) (xs:=zs) (λi O H2=>∃(v4 v5 v6 v7 v8:Option V) (ms:List Int),O=[some (.ref ww),some (.ref g),some (.ref a),some (.int ms.sum),v4,v5,v6,v7,v8]/\af H H2/\Paired (qP (aC kvs) (eN kvs) l) ((aG l wd).take i) ms) ⟨none,none,none,none,none,[],rfl,af.cA _,.nil⟩ (λi O H2 _ ⟨_,_,_,_,_,_,_,s2,_⟩=>ai.of (s2 _ _ hG)) ?_ ?_
 .intro i y O H2 hy adG
  refine hide λG_ aZ=>?_
  obtain⟨v4,v5,v6,v7,v8,ms,rfl,s2,lN⟩:=adG
  obtain⟨r,hr0,p,ys,rfl,_,hp,hc⟩:=Paired.get hR hy
  refine aZ.k ?_
  have bD:=jf S (bj hr0)
  refine⟨_,rfl,_,rfl,a,p,l,wd,r,ys,rfl,s2.tup hT,S,s2 _ _ hp,hc.mono s2,by lia,λc hc=>⟨(bD.2.2 c hc).1,(bD.2.2 c hc).2.1⟩,λH3 s3=>?_⟩
  have hf:=cM r (bj hr0)
  have tm:(au l r).length<=9:=by rw[eD];exact bD.2.1
  have hM:∀M,qP (aC kvs) (eN kvs) l r M->Paired (qP (aC kvs) (eN kvs) l) ((aG l wd).take (i+1)) (ms++[M]):=λM h=>by
   rw[fL,hr0]
   exact qw lN (.cons h .nil)
  unfold qP at hM
  revert hf tm hM
  generalize au l r=tx
  intro hf tm hM
  refine⟨bu _,λfo da=>?_⟩
  have sm:=s2.trans s3
  have yN:=sm.free da
  have ji:=sm.trans (af.upd (o:=HO.lst []) da)
  have jP:=sX (af.upd (o:=HO.lst []) da)
  revert ji jP
  generalize upd H3 fo (.lst [])=H4
  intro ji jP
  refine⟨ww,kvs,ji _ _ hW,λob=>?_⟩
  refine⟨_,rfl,ww,ob,kvs,rfl,ao,?_⟩
  have tq:fo≠ww:=br (bq hW yN)
  have yO:=af.both ww (.cB ob (.dK kvs)) ji
  have G2:upd H4 ww (.cB ob (.dK kvs)) fo=_:=(ak tq).trans jP
  have mR:upd H ww (.cB ob (.dK kvs)) fo=none:=(ak tq).trans yN
  have qr:upd H ww (.cB ob (.dK kvs)) ww=some (.cB ob (.dK kvs)):=ao
  have yP:=λH'=>af.OG (H':=H') (u := .cB ob (.dK kvs)) hW
  generalize upd H ww (.cB ob (.dK kvs))=HZ at yO mR qr yP
  refine A3 Bc (λj O H2=>∃(v7 v8:Option V),O=[some (.ref ww),some (.ref g),some (.ref a),some (.int ms.sum),some (.ref p),some (.str tx),some (.ref fo),v7,v8]/\af HZ H2/\H2 fo=some (.lst ((((aC kvs).take j).filter λx=>bK x tx).map λx=>V.int (eN kvs x))))
   ⟨_,_,rfl,yO,G2⟩ (λi O H2 _ ⟨_,_,_,G3,_⟩=>G3 _ _ qr) ?_ ?_
  .intro j y O H5 hy adH
   refine hide λG_ bJ=>?_
   obtain⟨v9,v10,rfl,eK,jQ⟩:=adH
   obtain⟨x,rfl,e⟩:=GA lG hy
   refine bJ.k ?_
   clear hy
   have mx:=bj e
   have eC:=vf (du x mx)
   have ek:=OB e λx=>bK x tx
   have same:∀H6 v10,af H5 H6->bK x tx=false->∃(v7 v8:Option V),[some (.ref ww),some (.ref g),some (.ref a),some (.int ms.sum),some (.ref p),some (.str tx),some (.ref fo),some (V.str x),v10]=[some (.ref ww),some (.ref g),some (.ref a),some (.int ms.sum),some (.ref p),some (.str tx),some (.ref fo),v7,v8]/\af HZ H6/\H6 fo=some (.lst ((((aC kvs).take (j+1)).filter λx=>bK x tx).map λx=>V.int (eN kvs x))):=λH6 v10 s6 hb=>by
    refine⟨_,_,rfl,eK.trans s6,?_⟩
    rw[ek,hb,ax b0,dJ]
    exact s6 _ _ jQ
   refine⟨_,rfl,x,rfl,dj (by lia),_,rfl,_,rfl,dj (by lia),rfl,_,rfl,?_⟩
   rw[BQ]
   by_cases hl:x.length=tx.length
   .rw[aJ hl]
    refine bf ⟨_,rfl,_,rfl,dj (by lia),_,rfl,by lia,by lia,?_⟩
    rw[dQ]
    refine kd E1 (by rw[av,kM];lia) (qk x tx) (λ_ i y _=>y = .int (0+(i:Int))) (λ_ _=>trivial) (λ_ _ _ _ _ _ _ _ h=>h) ?_ ?_
    .intro D2 j v H6 Z0 Z iL hv s6 _ k0 k1
     obtain⟨hj,rfl⟩:=GX hv
     have yz:x.cps.toList[j]? = some (x.cps.toList.getD j 0):=by
      rw[bT,bb (by rw[b9];lia)]
      rfl
     have vv:tx.cps.toList[j]? = some (tx.cps.toList.getD j 0):=by
      rw[bT,bb (by rw[b9];lia)]
      rfl
     have a1:eT x.cps.toList (0+(j:Int))=some (x.cps.toList.getD j 0):=by rw[tZ];exact c7 yz
     have a2:eT tx.cps.toList (0+(j:Int))=some (tx.cps.toList.getD j 0):=by rw[tZ];exact c7 vv
     refine⟨_,rfl,_,rfl,tx,_,_,rfl,rfl,dj (by lia),a2,_,rfl,_,rfl,x,_,_,rfl,rfl,dj (by lia),a1,(by show 2<=sizeLine;decide),λlp i9=>?_⟩
     refine⟨lp,_,rfl,.inl (ai.of ao),rfl,rfl,_,rfl,?_⟩
     have ei:iB (.str ⟨#[tx.cps.toList.getD j 0]⟩) [V.str (Str.ofString "."),V.str ⟨#[x.cps.toList.getD j 0]⟩]=kg (x.cps.toList.getD j 0) (tx.cps.toList.getD j 0):=by
      rw[<-OD]
      exact GU _ [(".":Str),⟨#[x.cps.toList.getD j 0]⟩]
     rw[ei,aA rfl]
     refine eE (λh=>?_) (λh=>?_)
     .exact⟨_,rfl,k1 _ _ (af.upd i9) h rfl⟩
     .exact k0 _ (af.upd i9) (gi.mpr h)
    .intro D2 ys H6 iL iM s6 lC
     have e2:=jN lC
     rw[av,kM] at e2
     rw[e2] at iM
     refine⟨_,rfl,bu _,λen ib=>?_⟩
     have sE:=s6.trans (af.upd (o:=HO.lst []) ib)
     refine⟨.lst (((List.range tx.length).filter (qk x tx)).map λ(i:Nat)=>D.int (0+(i:Int))),.lst [],⟨D2,_,rfl,ai.of ((af.upd ib) _ _ iM),BY _ _ _⟩,⟨en,_,rfl,ai.of ao,rfl⟩,.inr ⟨_,_,rfl,rfl⟩,GV _,_,rfl,?_⟩
     rw[GW,<-OC hl]
     refine eE (λh=>?_) (λh=>?_)
     .have h:bK x tx=true:=by simpa using h
      have gH:=sE _ _ jQ
      have:=iw (λx=>bK x tx) ((aC kvs).take j)
      have:=(cg.mp e).1
      have:=List.length_take_le j (aC kvs)
      have:=lF kvs
      refine⟨_,rfl,.inl ⟨rfl,_,ai.of gH⟩,_,rfl,_,rfl,ww,.int (eN kvs x),rfl,.inl ⟨kvs,Sum.inr x,.inr ⟨ob,sE _ _ (eK _ _ qr)⟩,rfl,(B1 lG kr mx).symm⟩,fo,_,_,rfl,rfl,gH,yu (by rw[av];lia),?_⟩
      refine⟨_,_,rfl,(eK.trans sE).i0 mR,?_⟩
      rw[ao,ek,h,aA rfl,dF]
      rfl
     .have h:bK x tx=false:=by simpa using h
      exact same _ _ sE h
   .rw[aN hl]
    exact aL (same H5 _ (af.cA _) (by unfold bK;rw[aN hl];rfl))
  .rintro O H5 ⟨v9,v10,rfl,eK,jQ⟩
   rw[av,<-lF,fq (aW _)] at jQ
   refine⟨eK _ _ qr,?_⟩
   have sT:=yP _ eK
   have gH:=(ak (H:=H5) (o := .dK kvs) tq).trans jQ
   revert sT gH
   generalize upd H5 ww (.dK kvs)=H6
   intro sT gH
   have wy:∀x,x∈(aC kvs).filter (λx=>bK x tx)↔x∈aC kvs/\bK x tx=true:=λx=>cy
   have bx:((aC kvs).filter λx=>bK x tx).isEmpty=false:=by
    obtain⟨x,mx,hx⟩:=hf
    cases z:(aC kvs).filter λx=>bK x tx with
    |nil=>have:=(wy x).mpr ⟨mx,hx⟩;rw[z] at this;cases this
    |cons _ _=>rfl
   revert gH wy bx
   generalize ((aC kvs).filter λx=>bK x tx)=fs
   intro gH wy bx
   refine⟨_,rfl,bu _,λen ib=>?_⟩
   have sE:=af.upd (o:=HO.lst []) ib
   refine⟨.lst (fs.map λx=>D.int (eN kvs x)),.lst [],⟨fo,_,rfl,ai.of (sE _ _ gH),Rb _ _ _ _⟩,⟨en,_,rfl,ai.of ao,rfl⟩,.inr ⟨_,_,rfl,rfl⟩,adD _ _,_,rfl,?_⟩
   rw[adE,bx]
   refine aL ⟨_,rfl,_,rfl,fo,fs.map (eN kvs),rfl,?_,?_,λM mM hle=>?_⟩
   .rw[jw]
    exact ai.of (sE _ _ gH)
   .rw[av]
    cases fs with
    |nil=>cases bx
    |cons _ _=>exact Nat.succ_pos _
   .refine⟨_,_,rfl,rfl,⟨some (.ref p),some (.str tx),some (.ref fo),v9,v10,ms++[M],by rw[show(ms++[M]).sum=ms.sum+M by simp];rfl,sT.trans sE,hM M ⟨?_,λx mx hx=>hle _ (iU ((wy x).mpr ⟨mx,hx⟩))⟩⟩⟩
    obtain⟨x,mx,rfl⟩:=bM.mp mM
    exact⟨x,((wy x).mp mx).1,((wy x).mp mx).2,rfl⟩
 .intro O H2 adI
  refine hide λG_ cG=>?_
  obtain⟨v4,v5,v6,v7,v8,ms,rfl,s2,lN⟩:=adI
  refine cG.k ?_
  rw[<-yM,fq (aW _)] at lN
  exact⟨_,rfl,q ms H2 s2 lN⟩
end
theorem Rf{wf:Str->Int}{ks m:List Str}:∀{R:List (List C2)}{ms:List Int}{aI:List (List Str)},Paired (qP ks wf m) R ms->Paired (λt ws=>ie ks wf t ws) (R.map (au m)) aI->ms.sum<=fg wf aI
 |[],_,_,.nil,.nil=>rh _
 |r::R,_,_,.cons h t,.cons (b:=ws) a u=>by
  have ih:=Rf t u
  unfold fg at ih ⊢
  rw[dG,bI,dG]
  refine Int.add_le_add ?_ ih
  obtain⟨⟨x,mx,hx,rfl⟩,_⟩:=h
  have hm:=(a.mem x).mpr ⟨mx,hx⟩
  cases ws with
  |nil=>cases hm
  |cons y q=>
   rcases cf.mp hm with z | z
   .rw[z];exact rh _
   .exact(List.pairwise_cons.mp a.up).1 _ z
theorem Rg{wf:Str->Int}{ks m:List Str}:∀{R:List (List C2)}{aI:List (List Str)},Paired (λt ws=>ie ks wf t ws) (R.map (au m)) aI->[]∉aI->∀r∈R,∃x∈ks,bK x (au m r)=true
 |r::R,_,.cons (b:=ws) a u,hn,r',mr=>by
  rcases cf.mp mr with rfl | z
  .cases ws with
   |nil=>exact absurd bt hn
   |cons y q=>exact⟨y,(a.mem y).mp bt⟩
  .exact Rg u (λz=>hn (bX _ z)) r' z
section
variable{w:World}
structure Rh(K:Frag)(H:Hp)(CH CC:Addr)(o:Option Int)(n:Nat)(ww g a:Addr)(v:V)(kvs:List (Key×V))(m:List Str)(w:Nat)(R:List (List C2))(zs:List V):Prop where
 e1:m7 (λ_=>True) H CH CC R (aC kvs) (eN kvs) o n v m
 e2:H ww=some (.dK kvs)
 e3:iF kvs
 e4:vp kvs
 e5:kvs.length<64
 e6:∀x∈aC kvs,cK x=true
 e7:H a=some (.tup (m.map V.str))
 e8:cq m w R
 e9:H g=some (.lst zs)
 ea:c9 g H R zs
def Di(K:Frag)(CH CC:Addr)(n:Nat):Sp:=λvs H Q _=>∃(ww g a:Addr) (v:V) (c:Int) (kvs:List (Key×V)) (m:List Str) (w:Nat) (R:List (List C2)) (zs:List V),vs=[v,.ref ww,.ref g,.ref a,.int c]/\Rh K H CH CC (some c) n ww g a v kvs m w R zs/\
 ∀H',af H H'->Q (.bl true) H'
theorem Dj:bg ["_law_paper","_law_worths_here","_law_rows_here","_law_sheet","_law_most","_law_word","_law_other"] ["_law_paper","_law_worths_here","_law_rows_here","_law_sheet","_law_most"] (aV (top 76)):={}
theorem adJ(n:Nat)(B:Bl mg)(F:aX K "_law_bounded" "_law_bounded" (top 76) f fd)(wz:Cn mg "Short" (.ref CH))(kH:Cn mg "Cases" (.ref CC))(IH:mD K CH)(IC:mD K CC)(wA:kitOne K (.ref CC) (.ref CH)=some false)(T:cD K CC)(np:bF K CC "place")(nq:bF K CC "parts")(Jc:Fn P w K mg base "_law_bounded" (n+3) (Di K CH CC n))(lL:Fn P w K mg base "_law_left" 2 (vt K))(jq:Fn P w K mg base "_law_put" 2 (sW K))(tP:Fn P w K mg base "_law_sum" 2 (Dh K)) :
  aO P w K mg base aR (n+4) f fd ["_law_paper","_law_worths_here","_law_rows_here","_law_sheet","_law_most"] (Di K CH CC (n+1)):=by
 refine F.bG Dj λaH A outer s H vs Q E hr h=>?_
 refine hide λG_ aF=>?_
 obtain⟨ww,g,a,v,c,kvs,m,wd,R,zs,rfl,⟨hC,hW,lG,kr,dk,du,hT,FM,hG,hR⟩,q⟩:=h
 refine aF.k ?_
 have hu:=hr.units
 refine⟨_,(ar (bw (dS (bc Br (by rfl) B.jK jG (ab (pv 0) (ab (jH wz (by rfl)) ag))))
  (aw (aP (nM lX (aU tP hr (ab (pv 1) (ab (pv 2) (ab (pv 3) ag)))) (pv 4))))
  bC)
  (ar (bw (PW.pt (gO (eI (dS (bc Br (by rfl) B.jK jG (ab (pv 0) (ab (jH kH (by rfl)) ag))))) (iA (eI (um lX kW az (cn (pv 0) rfl) (bc d7 (by rfl) B.b7 b6 (ab (pv 2) ag)))))))
  (aw (aP dR))
  bC)
  (ar (bw (bR (AZ hu) (bc Ba (by rfl) B.uX uE (ab (fW (js:=[]) (ns:=[]) (dn (cn (pv 0) rfl)) rfl rfl rfl rfl (λ_ _ _ _=>gT) (λ_ _ _ _=>(si (K:=K) (rr:=pG) rfl bO (pv 0) az))) ag)) (aU lL hr (ab (pv 1) (ab (pv 2) (ab (pv 3) (ab (cn (pv 0) rfl) ag))))))
  (aw (aP dR))
  bC)
  (ar (cF (dn (cn (pv 0) rfl)) (jB rfl (dM (bN 5 Dj.nd) (dM (bN 6 Dj.nd) jA)))
  (aw (bw (eI (dS (aU Jc hr (ab (pv 6) (ab (pv 1) (ab (pv 2) (ab (aU jq hr (ab (pv 3) (ab (aM d6 (pv 2) (cn (pv 0) rfl)) (ab (pv 5) ag)))) (ab (pv 4) ag))))))))
   (aw (aP dR))
   bC)))
  (aw (aP dR)))))),?_⟩
 try dsimp only[bA]
 have Dk:∀C:Addr,kitOne K (.ref C) (.ref C)=some true:=λC=>by unfold kitOne;rw[aA (by simp)]
 rcases hC with ⟨p,dx,c',rfl,hp,lT,aI,hws,bx,hle⟩ | ⟨p,dx,qa,pl,xs,vs,rfl,hp,_,d9,hpl,oK,eC,kD⟩
 .refine⟨_,rfl,_,CH,_,true,⟨rfl,IH.ty hp,Dk CH⟩,_,rfl,bf ?_⟩
  refine⟨_,rfl,_,rfl,_,rfl,ww,g,a,kvs,m,wd,zs,rfl,⟨hW,lG,kr,dk,du,aq.of hT,FM.sh,hG,by rw[FM.eq];exact hR,by rw[FM.eq];exact Rg hws bx⟩,λms H1 s1 lN=>?_⟩
  rw[FM.eq] at lN
  have:=Rf lN hws
  cases lT
  refine⟨_,rfl,_,_,rfl,rfl,?_⟩
  show Q (.bl (decide (ms.sum<=c))) H1
  rw[aJ (by lia)]
  exact q H1 s1
 .refine⟨_,rfl,_,CH,_,false,⟨rfl,IC.ty hp,wA⟩,_,rfl,aL ?_⟩
  refine⟨_,rfl,_,CC,_,true,⟨rfl,IC.ty hp,Dk CC⟩,_,rfl,aL ?_⟩
  have yV:=fJ hR
  rw[c9] at hR
  refine hide λG_ aZ=>?_
  obtain⟨zv,qM⟩:∃zv,zs[pl]? = some zv:=⟨_,bb (by lia)⟩
  obtain⟨r0,hr0,qN,tj,rfl,_,zF,iD⟩:=Paired.get hR qM
  refine aZ.k ?_
  have qO:ah R pl=r0:=bW hr0
  have tw:=fJ kD
  refine⟨_,rfl,p,CC,dx,_,_,rfl,hp,T,np,qG ..,?_⟩
  refine⟨_,_,rfl,rfl,_,rfl,?_⟩
  rw[aJ (by lia)]
  refine bf ⟨_,rfl,g,_,rfl,.inl (ai.of hG),_,_,rfl,rfl,_,rfl,?_⟩
  rw[aJ (by lia)]
  refine aL ⟨_,rfl,p,CC,dx,_,_,rfl,hp,T,nq,zm ..,qa,rfl,⟨_,ai.of d9⟩,?_⟩
  refine comp_map gB (by lia) (λ_ i y _=>y = .str (xs.getD i ⟨#[]⟩)) (λH3 s3=>ai.of (s3 _ _ d9)) (λ_ _ _ _ _ _ _ _ h=>h) ?_ ?_
  .intro D i y H3 Z hD hy s3 _ k1
   refine hide λG_ bJ=>?_
   obtain⟨x,hx,t,u,rfl,ht,_⟩:=Paired.get kD hy
   refine bJ.k ?_
   exact⟨_,rfl,t,_,0,.str x,rfl,rfl,aq.of (s3 _ _ ht),rfl,k1 _ _ (af.cA _) (by rw[bW hx])⟩
  .intro Dq ys H2 hD bh s2 pr
   have e:=jN pr
   rw[<-tw,kf (λx=>V.str x)] at e
   rw[e] at bh
   clear e pr
   refine⟨Dq,xs,rfl,ai.of bh,eC,λso Jd=>?_⟩
   have s3:af H (upd H2 so (.lst ((b8 xs).map V.str))):=s2.trans (af.upd Jd)
   have zH:upd H2 so (.lst ((b8 xs).map V.str)) so=some (.lst ((b8 xs).map V.str)):=ao
   generalize upd H2 so (.lst ((b8 xs).map V.str))=H3 at s3 zH
   have i6:(aC kvs).length<64:=by rw[lF];exact dk
   refine⟨_,rfl,_,rfl,_,rfl,_,rfl,p,CC,dx,_,_,rfl,s3 _ _ hp,T,np,qG ..,?_⟩
   refine⟨ww,g,a,aC kvs,m,wd,pl,zs,rfl,⟨kvs,s3 _ _ hW,lG,rfl⟩,i6,du,aq.of (s3 _ _ hT),FM.sh,s3 _ _ hG,by rw[FM.eq];exact c9.mono s3 hR,by rw[FM.eq];exact hpl,λt H4 ht s4 nh=>?_⟩
   rw[FM.eq] at nh
   have fI:=s3.trans s4
   refine⟨.lst ((b8 xs).map D.str),.lst ((cY m R pl (aC kvs)).map D.str),⟨so,_,rfl,ai.of (s4 _ _ zH),vR _ _ _⟩,⟨t,_,rfl,ai.of nh,vR _ _ _⟩,.inr ⟨_,_,rfl,rfl⟩,by rw[dep,CM];decide,_,rfl,?_⟩
   rw[oK,xN]
   refine aL ⟨_,rfl,p,CC,dx,_,_,rfl,fI _ _ hp,T,nq,zm ..,qa,rfl,⟨_,ai.of (fI _ _ d9)⟩,?_⟩
   refine kT (K:=K) (xs:=vs) (λi O H5=>∃(v5 v6:Option V),O=[some (.ref p),some (.ref ww),some (.ref g),some (.ref a),some (.int c),v5,v6]/\af H H5) ⟨none,none,rfl,fI⟩ (λi O H5 _ ⟨_,_,_,s5⟩=>ai.of (s5 _ _ d9)) ?_ ?_
   .intro i y O H5 hy adK
    refine hide λG_ cG=>?_
    obtain⟨v5,v6,rfl,s5⟩:=adK
    obtain⟨x,hx,t,u,rfl,ht,cM,gy⟩:=Paired.get kD hy
    refine cG.k ?_
    have fT:x∈aC kvs:=(IV (by rw[<-oK];exact(fY xs).mem_iff.mpr (bj hx))).1
    have jo:=vT (du x fT)
    have Je:x.length=(ah R pl).length:=by rw[(gc.mp cM).1,eD]
    refine⟨t,_,rfl,aq.of (s5 _ _ ht),rfl,_,_,rfl,_,_,rfl,rfl,?_⟩
    refine⟨_,rfl,_,rfl,_,rfl,_,rfl,_,rfl,_,rfl,p,CC,dx,_,_,rfl,s5 _ _ hp,T,np,qG ..,g,_,_,.ref qN,rfl,rfl,ai.of (s5 _ _ hG),c7 qM,_,rfl,?_⟩
    refine⟨a,qN,m,wd,r0,tj,x,rfl,s5 _ _ hT,FM.sh.dO,s5 _ _ zF,iD.mono s5,by rw[<-qO];exact FM.iO pl,λa2 H6 s6 ml=>?_⟩
    rw[<-qO] at ml
    have lO:=s5.trans s6
    refine⟨_,rfl,ww,g,a2,u,c,kvs,putL m (ah R pl) x.cps.toList,wd,R,zs,rfl,⟨gy.mono (Kp.of lO) (λ_ _ _ _=>trivial) (dX.refl _),lO _ _ hW,lG,kr,dk,du,ml,FM.put pl jo Je,lO _ _ hG,c9.mono lO hR⟩,λH7 s7=>⟨_,rfl,aL ⟨_,_,rfl,lO.trans s7⟩⟩⟩
   .rintro O H5 ⟨v5,v6,rfl,s5⟩
    exact q H5 s5
theorem Ri{CH CC:Addr}(B:Bl mg)(F:aX K "_law_bounded" "_law_bounded" (top 76) f fd)(hm:mg "_law_bounded"=some (.ref f))(hk:keepIn K (.ref f)=true)(hb:Binds K fd ["_law_paper","_law_worths_here","_law_rows_here","_law_sheet","_law_most"] [])(wz:Cn mg "Short" (.ref CH))(kH:Cn mg "Cases" (.ref CC))(IH:mD K CH)(IC:mD K CC)(wA:kitOne K (.ref CC) (.ref CH)=some false)(T:cD K CC)(np:bF K CC "place")(nq:bF K CC "parts")(lL:Fn P w K mg base "_law_left" 2 (vt K))(jq:Fn P w K mg base "_law_put" 2 (sW K))(tP:Fn P w K mg base "_law_sum" 2 (Dh K)) :
  ∀n:Nat,aO P w K mg base aR (n+3) f fd ["_law_paper","_law_worths_here","_law_rows_here","_law_sheet","_law_most"] (Di K CH CC n)
 |0=>F.ok Dj (λvs H Q E h=>by obtain⟨ww,g,a,v,c,kvs,m,w,R,zs,rfl,hC,_⟩:=h;exact hC.e1.elim) (λaH A outer s H vs Q E hr h=>by obtain⟨ww,g,a,v,c,kvs,m,w,R,zs,rfl,hC,_⟩:=h;exact hC.e1.elim)
 |n+1=>adJ n B F wz kH IH IC wA T np nq ⟨f,fd,_,Ri B F hm hk hb wz kH IH IC wA T np nq lL jq tP n,hm,hk,hb⟩ lL jq tP
def Dl(K:Frag)(CH CC:Addr)(n:Nat):Sp:=λvs H Q _=>∃(ww g a:Addr) (v tv:V) (kvs:List (Key×V)) (m:List Str) (w:Nat) (R:List (List C2)) (zs:List V),vs=[v,.ref ww,.ref g,.ref a,tv]/\Rh K H CH CC none n ww g a v kvs m w R zs/\
 ∀H',af H H'->Q (.bl true) H'
theorem Dm:bg ["_law_paper","_law_words_here","_law_rows_here","_law_sheet","_law_told","_law_word","_law_other"] ["_law_paper","_law_words_here","_law_rows_here","_law_sheet","_law_told"] (aV (top 70)):={}
theorem adL{CW:Addr}(n:Nat)(B:Bl mg)(F:aX K "_law_walked" "_law_walked" (top 70) f fd)(wB:Cn mg "Whole" (.ref CW))(kH:Cn mg "Cases" (.ref CC))(IC:mD K CC)(wC:kitOne K (.ref CC) (.ref CW)=some false)(T:cD K CC)(np:bF K CC "place")(nq:bF K CC "parts")(Jf:Fn P w K mg base "_law_walked" (n+3) (Dl K CH CC n))(lL:Fn P w K mg base "_law_left" 2 (vt K))(jq:Fn P w K mg base "_law_put" 2 (sW K)) :
  aO P w K mg base aR (n+4) f fd ["_law_paper","_law_words_here","_law_rows_here","_law_sheet","_law_told"] (Dl K CH CC (n+1)):=by
 refine F.bG Dm λaH A outer s H vs Q E hr h=>?_
 refine hide λG_ aF=>?_
 obtain⟨ww,g,a,v,tv,kvs,m,wd,R,zs,rfl,⟨hC,hW,lG,kr,dk,du,hT,FM,hG,hR⟩,q⟩:=h
 refine aF.k ?_
 have hu:=hr.units
 refine⟨_,(ar (bw (dS (bc Br (by rfl) B.jK jG (ab (pv 0) (ab (jH wB (by rfl)) ag))))
  (aw (aP (Aq (nM KR dY (fB DV Ke Kf A0 dY (ab (iZ rP (by rfl) B.pY pM (ab (pv 3) ag)) ag))) (D5 (nM (MY hu) (pv 3) (pv 4))))))
  bC)
  (ar (bw (PW.pt (gO (eI (dS (bc Br (by rfl) B.jK jG (ab (pv 0) (ab (jH kH (by rfl)) ag))))) (gO (dS (bc nY (by rfl) B.jK jG (ab (cn (pv 0) rfl) (ab (nL (v := .ty "bool") (by rfl) B.Nn L7 rfl) ag)))) (iA (eI (dS (bc nY (by rfl) B.jK jG (ab (cn (pv 0) rfl) (ab (nL (v := .ty "int") (by rfl) B.Np L6 rfl) ag)))))))))
  (aw (aP dR))
  bC)
  (ar (bw (PW.pt (gO (eI (um lX kW az (cn (pv 0) rfl) (bc d7 (by rfl) B.b7 b6 (ab (pv 2) ag)))) (iA (eI (dS (bc nY (by rfl) B.jK jG (ab (cn (pv 0) rfl) (ab (nL (v := .ty "list") (by rfl) B.pY pM rfl) ag))))))))
  (aw (aP dR))
  bC)
  (ar (bw (bR (AZ hu) (bc Ba (by rfl) B.uX uE (ab (fW (js:=[]) (ns:=[]) (dn (cn (pv 0) rfl)) rfl rfl rfl rfl (λ_ _ _ _=>gT) (λ_ _ _ _=>(si (K:=K) (rr:=pG) rfl bO (pv 0) az))) ag)) (aU lL hr (ab (pv 1) (ab (pv 2) (ab (pv 3) (ab (cn (pv 0) rfl) ag))))))
  (aw (aP dR))
  bC)
  (ar (cF (dn (cn (pv 0) rfl)) (jB rfl (dM (bN 5 Dm.nd) (dM (bN 6 Dm.nd) jA)))
  (aw (bw (eI (dS (aU Jf hr (ab (pv 6) (ab (pv 1) (ab (pv 2) (ab (aU jq hr (ab (pv 3) (ab (aM d6 (pv 2) (cn (pv 0) rfl)) (ab (pv 5) ag)))) (ab (pv 4) ag))))))))
   (aw (aP dR))
   bC)))
  (aw (aP dR))))))),?_⟩
 try dsimp only[bA]
 have Dk:∀C:Addr,kitOne K (.ref C) (.ref C)=some true:=λC=>by unfold kitOne;rw[aA (by simp)]
 have k3:kitOne K (.type "int") (.type "bool")=some false:=by kernel_rfl
 have k4:kitOne K (.type "int") (.type "int")=some true:=by kernel_rfl
 have k5:kitOne K (.type "list") (.type "list")=some true:=by kernel_rfl
 rcases hC with ⟨p,dx,c',rfl,hp,lT,_⟩ | ⟨p,dx,qa,pl,xs,vs,rfl,hp,_,d9,hpl,oK,eC,kD⟩
 .cases lT
 .refine⟨_,rfl,_,CW,_,false,⟨rfl,IC.ty hp,wC⟩,_,rfl,aL ?_⟩
  refine⟨_,rfl,_,CC,_,true,⟨rfl,IC.ty hp,Dk CC⟩,_,rfl,aL ?_⟩
  refine⟨_,rfl,p,CC,dx,_,_,rfl,hp,T,np,qG ..,_,_,_,false,⟨rfl,.int _,k3⟩,_,rfl,aL ?_⟩
  refine⟨_,rfl,p,CC,dx,_,_,rfl,hp,T,np,qG ..,_,_,_,true,⟨rfl,.int _,k4⟩,_,rfl,aL ?_⟩
  have yV:=fJ hR
  rw[c9] at hR
  refine hide λG_ aZ=>?_
  obtain⟨zv,qM⟩:∃zv,zs[pl]? = some zv:=⟨_,bb (by lia)⟩
  obtain⟨r0,hr0,qN,tj,rfl,_,zF,iD⟩:=Paired.get hR qM
  refine aZ.k ?_
  have qO:ah R pl=r0:=bW hr0
  have tw:=fJ kD
  refine⟨_,rfl,p,CC,dx,_,_,rfl,hp,T,np,qG ..,?_⟩
  refine⟨_,_,rfl,rfl,_,rfl,?_⟩
  rw[aJ (by lia)]
  refine bf ⟨_,rfl,g,_,rfl,.inl (ai.of hG),_,_,rfl,rfl,_,rfl,?_⟩
  rw[aJ (by lia)]
  refine aL ⟨_,rfl,p,CC,dx,_,_,rfl,hp,T,nq,zm ..,_,_,_,true,⟨rfl,.lst d9,k5⟩,_,rfl,aL ?_⟩
  refine⟨_,rfl,p,CC,dx,_,_,rfl,hp,T,nq,zm ..,qa,rfl,⟨_,ai.of d9⟩,?_⟩
  refine comp_map gB (by lia) (λ_ i y _=>y = .str (xs.getD i ⟨#[]⟩)) (λH3 s3=>ai.of (s3 _ _ d9)) (λ_ _ _ _ _ _ _ _ h=>h) ?_ ?_
  .intro D i y H3 Z hD hy s3 _ k1
   refine hide λG_ bJ=>?_
   obtain⟨x,hx,t,u,rfl,ht,_⟩:=Paired.get kD hy
   refine bJ.k ?_
   exact⟨_,rfl,t,_,0,.str x,rfl,rfl,aq.of (s3 _ _ ht),rfl,k1 _ _ (af.cA _) (by rw[bW hx])⟩
  .intro Dq ys H2 hD bh s2 pr
   have e:=jN pr
   rw[<-tw,kf (λx=>V.str x)] at e
   rw[e] at bh
   clear e pr
   refine⟨Dq,xs,rfl,ai.of bh,eC,λso Jd=>?_⟩
   have s3:af H (upd H2 so (.lst ((b8 xs).map V.str))):=s2.trans (af.upd Jd)
   have zH:upd H2 so (.lst ((b8 xs).map V.str)) so=some (.lst ((b8 xs).map V.str)):=ao
   generalize upd H2 so (.lst ((b8 xs).map V.str))=H3 at s3 zH
   have i6:(aC kvs).length<64:=by rw[lF];exact dk
   refine⟨_,rfl,_,rfl,_,rfl,_,rfl,p,CC,dx,_,_,rfl,s3 _ _ hp,T,np,qG ..,?_⟩
   refine⟨ww,g,a,aC kvs,m,wd,pl,zs,rfl,⟨kvs,s3 _ _ hW,lG,rfl⟩,i6,du,aq.of (s3 _ _ hT),FM.sh,s3 _ _ hG,by rw[FM.eq];exact c9.mono s3 hR,by rw[FM.eq];exact hpl,λt H4 ht s4 nh=>?_⟩
   rw[FM.eq] at nh
   have fI:=s3.trans s4
   refine⟨.lst ((b8 xs).map D.str),.lst ((cY m R pl (aC kvs)).map D.str),⟨so,_,rfl,ai.of (s4 _ _ zH),vR _ _ _⟩,⟨t,_,rfl,ai.of nh,vR _ _ _⟩,.inr ⟨_,_,rfl,rfl⟩,by rw[dep,CM];decide,_,rfl,?_⟩
   rw[oK,xN]
   refine aL ⟨_,rfl,p,CC,dx,_,_,rfl,fI _ _ hp,T,nq,zm ..,qa,rfl,⟨_,ai.of (fI _ _ d9)⟩,?_⟩
   refine kT (K:=K) (xs:=vs) (λi O H5=>∃(v5 v6:Option V),O=[some (.ref p),some (.ref ww),some (.ref g),some (.ref a),some tv,v5,v6]/\af H H5) ⟨none,none,rfl,fI⟩ (λi O H5 _ ⟨_,_,_,s5⟩=>ai.of (s5 _ _ d9)) ?_ ?_
   .intro i y O H5 hy adM
    refine hide λG_ cG=>?_
    obtain⟨v5,v6,rfl,s5⟩:=adM
    obtain⟨x,hx,t,u,rfl,ht,cM,gy⟩:=Paired.get kD hy
    refine cG.k ?_
    have fT:x∈aC kvs:=(IV (by rw[<-oK];exact(fY xs).mem_iff.mpr (bj hx))).1
    have jo:=vT (du x fT)
    have Je:x.length=(ah R pl).length:=by rw[(gc.mp cM).1,eD]
    refine⟨t,_,rfl,aq.of (s5 _ _ ht),rfl,_,_,rfl,_,_,rfl,rfl,?_⟩
    refine⟨_,rfl,_,rfl,_,rfl,_,rfl,_,rfl,_,rfl,p,CC,dx,_,_,rfl,s5 _ _ hp,T,np,qG ..,g,_,_,.ref qN,rfl,rfl,ai.of (s5 _ _ hG),c7 qM,_,rfl,?_⟩
    refine⟨a,qN,m,wd,r0,tj,x,rfl,s5 _ _ hT,FM.sh.dO,s5 _ _ zF,iD.mono s5,by rw[<-qO];exact FM.iO pl,λa2 H6 s6 ml=>?_⟩
    rw[<-qO] at ml
    have lO:=s5.trans s6
    refine⟨_,rfl,ww,g,a2,u,tv,kvs,putL m (ah R pl) x.cps.toList,wd,R,zs,rfl,⟨gy.mono (Kp.of lO) (λ_ _ _ _=>trivial) (dX.refl _),lO _ _ hW,lG,kr,dk,du,ml,FM.put pl jo Je,lO _ _ hG,c9.mono lO hR⟩,λH7 s7=>⟨_,rfl,aL ⟨_,_,rfl,lO.trans s7⟩⟩⟩
   .rintro O H5 ⟨v5,v6,rfl,s5⟩
    exact q H5 s5
theorem Rj{CH CW CC:Addr}(B:Bl mg)(F:aX K "_law_walked" "_law_walked" (top 70) f fd)(hm:mg "_law_walked"=some (.ref f))(hk:keepIn K (.ref f)=true)(hb:Binds K fd ["_law_paper","_law_words_here","_law_rows_here","_law_sheet","_law_told"] [])(wB:Cn mg "Whole" (.ref CW))(kH:Cn mg "Cases" (.ref CC))(IC:mD K CC)(wC:kitOne K (.ref CC) (.ref CW)=some false)(T:cD K CC)(np:bF K CC "place")(nq:bF K CC "parts")(lL:Fn P w K mg base "_law_left" 2 (vt K))(jq:Fn P w K mg base "_law_put" 2 (sW K)) :
  ∀n:Nat,aO P w K mg base aR (n+3) f fd ["_law_paper","_law_words_here","_law_rows_here","_law_sheet","_law_told"] (Dl K CH CC n)
 |0=>F.ok Dm (λvs H Q E h=>by obtain⟨ww,g,a,v,tv,kvs,m,w,R,zs,rfl,hC,_⟩:=h;exact hC.e1.elim) (λaH A outer s H vs Q E hr h=>by obtain⟨ww,g,a,v,tv,kvs,m,w,R,zs,rfl,hC,_⟩:=h;exact hC.e1.elim)
 |n+1=>adL n B F wB kH IC wC T np nq ⟨f,fd,_,Rj B F hm hk hb wB kH IC wC T np nq lL jq n,hm,hk,hb⟩ lL jq
end
structure Jg(kvs:List (Key×V))(ws:List Str):Prop where
 ks:aC kvs=ws
 tx:iF kvs
 iv:vp kvs
 nd:(kvs.map (·.1)).Nodup
section
variable{w:World}
def Rk(K:Frag):Sp:=λvs H Q _=>∃(a b:Addr) (ns:List Int) (ws:List Str),vs=[.ref a,.ref b]/\ai K H a (ns.map V.int)/\ai K H b (ws.map V.str)/\ws.Nodup/\ws.length<=60/\
 ∀(d:Addr) (kvs:List (Key×V)) (H':Hp),H d=none->af H H'->H' d=some (.dK kvs)->Jg kvs ws->Q (.ref d) H'
theorem Dn:bg ["_law_script","_law_words_here","_law_worths_here","_law_cell","_law_k"] ["_law_script","_law_words_here"] (aV (top 65)):={}
theorem adN(B:Bl mg)(F:aX K "_law_worths" "_law_worths" (top 65) f fd)(om:Fn P w K mg base "_law_cell_at" 1 (ym K)):aO P w K mg base aR 2 f fd ["_law_script","_law_words_here"] (Rk K):=by
 refine F.bG Dn λaH A outer s H vs Q E hr h=>?_
 refine hide λG_ aF=>?_
 obtain⟨a,b,ns,ws,rfl,hS,hW,cX,h60,q⟩:=h
 refine aF.k ?_
 have cU:=gS hr
 refine⟨_,(ar (aK 2 Dn.nd AM)
  (ar (aK 3 Dn.nd (aU om hr (ab (pv 0) (ab az ag))))
  (ar (cF (gm (by rfl) B.gD (ab (bc d7 (by rfl) B.b7 b6 (ab (pv 1) ag)) ag)) (bN 4 Dn.nd)
  (aw (xC cU (pv 2) (aM d6 (pv 1) (pv 4)) (aS fA (aS pD (aS d5 (aS d5 (aS j7 (pv 3) az) (aS pD (pv 4) (pv 4))) az) az) (aM d6 (de (ab az (ab az (ab az (ab (aS Tp az az) ag))))) (aS fA (pv 3) az))) rfl)))
  (aw (aP (pv 2)))))),?_⟩
 try dsimp only[bA]
 intro d hd
 have t1:=af.upd (o:=HO.dK []) hd
 refine⟨_,rfl,a,ns,4,rfl,t1.seq hS,?_⟩
 have c0:=rj (cellAt ns 4) (show(4:Int)≠0 by decide)
 have c1:=w6 (cellAt ns 4) (show(0:Int)<4 by decide)
 refine⟨_,rfl,b,_,rfl,.inl (t1.seq hW),_,rfl,by rw[av];lia,by rw[av];lia,?_⟩
 rw[dQ,av]
 refine i5 (λi O H2=>∃v4 kvs,O=[some (.ref a),some (.ref b),some (.ref d),some (.int (cellAt ns 4)),v4]/\af H H2/\H2 d=some (.dK kvs)/\Jg kvs (ws.take i))
  ⟨none,[],rfl,t1,ao,⟨by rw[rb];rfl,λ_ m=>absurd m fm,λ_ m=>absurd m fm,iT⟩⟩ ?_ ?_
 .intro i O H2 hi adO
  refine hide λG_ aZ=>?_
  obtain⟨v4,kvs,rfl,sm,hd2,W⟩:=adO
  obtain⟨x,hx⟩:∃x,ws[i]? = some x:=⟨_,bb hi⟩
  obtain⟨m,hm,hm0,hm1⟩:∃m:Int,eT [V.int 1,V.int 10,V.int 1000,V.int ((10:Int) ^ (60:Int).toNat)] (cellAt ns 4 % 4)=some (.int m)/\0<m/\True:=by
   obtain⟨k,hk⟩:=ud c0
   rw[hk] at c1 ⊢
   have h4:k<4:=by lia
   match k,h4 with
   |0,_=>exact⟨1,rfl,by decide,trivial⟩
   |1,_=>exact⟨10,rfl,by decide,trivial⟩
   |2,_=>exact⟨1000,rfl,by decide,trivial⟩
   |3,_=>exact⟨_,rfl,by decide,trivial⟩
  refine aZ.k ?_
  refine⟨_,rfl,_,_,rfl,rfl,⟨by decide,by decide⟩,_,rfl,_,rfl,_,_,rfl,rfl,.inl ⟨by lia,by lia⟩,_,_,rfl,rfl,_,_,rfl,rfl,_,_,rfl,rfl,.inr ⟨by decide,by decide⟩,?_⟩
  refine⟨_,_,rfl,rfl,⟨by decide,by decide,by decide⟩,(by show 4<=sizeLine;decide),λlp i9=>?_⟩
  refine⟨_,rfl,_,_,rfl,rfl,(by show(0:Int)<4;decide),lp,_,_,.int m,rfl,rfl,ai.of ao,hm,_,_,rfl,rfl,hm0,?_⟩
  have sL:=af.upd (o:=HO.lst [V.int 1,V.int 10,V.int 1000,V.int ((10:Int) ^ (60:Int).toNat)]) i9
  have ji:=sm.trans sL
  have i7:=sL _ _ hd2
  revert ji i7
  generalize upd H2 lp (.lst [V.int 1,V.int 10,V.int 1000,V.int ((10:Int) ^ (60:Int).toNat)])=H3
  intro ji i7
  have iI:ws.take (i+1)=ws.take i++[x]:=by rw[fL,hx];rfl
  have hn:x∉ws.take i:=by
   have h1:(ws.take (i+1)).Nodup:=cX.sublist (DJ _ _)
   rw[iI,oZ] at h1
   exact λm=>h1.2.2 x m x (cj.mpr rfl) rfl
  have hv:=aay (kvs:=kvs) (x:=x) (by rw[W.ks];exact hn)
  have i6:kvs.length<=60:=by rw[<-lF,W.ks,kL];lia
  refine⟨_,rfl,_,rfl,_,rfl,b,_,_,.str x,rfl,rfl,ji.seq hW,iH hx,d,_,rfl,lg.k (k:=Sum.inr x) i7 (LH (by lia)),?_⟩
  refine⟨_,_,rfl,ji.i0 hd,ao,⟨?_,NR W.tx x _ hv,?_,LK _ W.nd hv⟩⟩
  .rw[aax _ hv,W.ks,iI]
  .rw[rS _ hv]
   intro y my
   rcases cV.mp my with z | z
   .exact W.iv y z
   .rw[cj.mp z]
    exact⟨_,rfl⟩
 .intro O H2 adP
  refine hide λG_ bJ=>?_
  obtain⟨v4,kvs,rfl,sm,hd2,W⟩:=adP
  refine bJ.k ?_
  rw[fq (aW _)] at W
  exact⟨_,rfl,q d kvs H2 hd sm hd2 W⟩
def Rl(K:Frag)(C:Addr):Sp:=λvs H Q _=>∃(d0:Addr) (kvs:List (Key×V)) (ws:List Str),vs=[.ref d0]/\H d0=some (.dK kvs)/\Jg kvs ws/\ws.length<=60/\(∀x∈ws,cK x=true)/\
 ∀(p d:Addr) (H':Hp),H d=none->af H H'->g9 C H' p d kvs->Q (.ref p) H'
theorem Jh:bg ["_law_worths_here","_law_book_here","_law_word"] ["_law_worths_here"] (aV (top 74)):={}
theorem adQ(F:aX K "_law_book" "_law_book" (top 74) f fd)(Ji:Nw P w K mg base "Book" C 1 (NT C))(Jj:Mt P w K mg base C "put" 4 (BN C) []):aO P w K mg base aR 5 f fd ["_law_worths_here"] (Rl K C):=by
 refine F.bG Jh λaH A outer s H vs Q E hr h=>?_
 refine hide λG_ aF=>?_
 obtain⟨d0,kvs,ws,rfl,fP,W,h60,gF,q⟩:=h
 refine aF.k ?_
 have cU:=gS hr
 refine⟨_,(ar (aK 1 Jh.nd (V8 Ji hr))
  (ar (Bd (cF (Bb (pv 0)) (bN 2 Jh.nd)
  (aw (fu (sf Jj hr (pv 1) (ab (pv 2) (ab (uz cU (pv 0) (pv 2) (λ_ _=>rfl)) ag)))))))
  (aw (aP (pv 1))))),?_⟩
 try dsimp only[bA]
 intro p yw Rm adR adS
 refine⟨p,yw,rfl,ao,λd H1 fd0 B0 kp0=>⟨rfl,?_⟩⟩
 have t1:af H (upd (upd H yw (.own p)) p (.ins C yw [])):=(af.upd adR).trans (af.upd (by rw[ak (br adS)];exact Rm))
 have t2:af H H1:=λb o e=>kp0 b o (t1 b o e) (bq e Rm)
 have hd:H d=none:=t1.free fd0
 have m9:=t2 _ _ fP
 have Jk:d≠d0:=λz=>by rw[z,fP] at hd;cases hd
 have afU:ws.length=kvs.length:=by rw[<-W.ks,lF]
 refine⟨d0,kvs,m9,λob=>?_⟩
 refine⟨_,rfl,d0,ob,kvs,rfl,ao,?_⟩
 refine A3 Bc (λi O H2=>∃v2,O=[some (.ref d0),some (.ref p),v2]/\H2 d0=some (.cB ob (.dK kvs))/\g9 C H2 p d (kvs.take i)/\∀b o,b≠d0->H b=some o->H2 b=some o)
  ⟨none,rfl,ao,?_,λb o hb h=>by rw[ak hb];exact t2 _ _ h⟩ (λi O H2 _ ⟨_,_,h,_⟩=>h) ?_ ?_
 .obtain⟨⟨dx,h1⟩,h2,h3,h4⟩:=B0
  refine⟨⟨dx,?_⟩,?_,h3,h4⟩
  .rw[ak (cx h1 m9 (by intro z;cases z))]
   exact h1
  .rw[ak Jk]
   exact h2
 .rintro i y O H2 hi ⟨v2,rfl,hf,S2,off⟩
  rw[bE] at hi
  cases e:kvs[i]? with
  |none=>rw[e] at hi;cases hi
  |some kv=>
   rw[e] at hi
   obtain⟨x,hx⟩:=W.tx kv (bj e)
   have hy:kV kv.1=y:=cQ hi
   rw[hx] at hy
   subst hy
   have XJ:i<kvs.length:=(cg.mp e).1
   have iI:kvs.take (i+1)=kvs.take i++[kv]:=by rw[fL,e];rfl
   have hn:(Sum.inr x:Key)∉(kvs.take i).map (·.1):=by
    have h1:((kvs.take (i+1)).map (·.1)).Nodup:=W.nd.sublist ((DJ _ _).map _)
    rw[iI,dF,oZ] at h1
    exact λm=>h1.2.2 _ m _ (by rw[<-hx];exact cj.mpr rfl) rfl
   have qo:aQ (kvs.take i) (Sum.inr x:Key)=none:=by
    cases z:aQ (kvs.take i) (Sum.inr x:Key) with
    |none=>rfl
    |some v=>exact absurd (EL z) hn
   have hv1:aQ kvs (Sum.inr x:Key)=some kv.2:=by
    have es:kvs=kvs.take i++(kv::kvs.drop (i+1)):=by
     conv=>lhs;rw[<-List.take_append_drop (i+1) kvs,iI]
     rw[lQ]
     rfl
    have:aQ (kvs.take i++(kv::kvs.drop (i+1))) (Sum.inr x:Key)=some kv.2:=by
     unfold aQ at qo ⊢
     rw[List.find?_append]
     cases z:(kvs.take i).find? (λkv=>decide (kv.1=(Sum.inr x:Key))) with
     |some v=>rw[z] at qo;cases qo
     |none=>
      rw[qV,aJ hx]
      rfl
    rw[es]
    exact this
   have mx:x∈ws:=by
    rw[<-W.ks]
    unfold aC
    exact bM.mpr ⟨kv,bj e,by rw[hx]⟩
   obtain⟨⟨dx,h1⟩,_⟩:=id S2
   refine⟨_,rfl,p,dx,_,rfl,h1,vi _ (by decide +kernel),_,rfl,_,rfl,_,rfl,d0,kv.2,rfl,.inl ⟨kvs,Sum.inr x,.inr ⟨ob,hf⟩,rfl,hv1.symm⟩,p,d,kvs.take i,x,kv.2,rfl,S2,gF x mx,qo,by rw[kL];lia,λH3 S3 gh=>?_⟩
   refine⟨_,rfl,gh _ _ (br Jk) hf,?_,λb o hb h=>gh b o (λz=>by rw[z,hd] at h;cases h) (off b o hb h)⟩
   rw[iI]
   rw[rS _ qo] at S3
   rw[show kv=(Sum.inr x,kv.2) from o9 hx rfl]
   exact S3
 .rintro O H2 ⟨v2,rfl,hf,S2,off⟩
  rw[av,fq (aW _)] at S2
  refine⟨hf,_,rfl,q p d _ hd (λb o h=>?_) ?_⟩
  .by_cases hb:b=d0
   .rw[hb,ao,<-h,hb,fP]
   .rw[ak hb]
    exact off b o hb h
  .obtain⟨⟨dx,h1⟩,h2,h3,h4⟩:=S2
   refine⟨⟨dx,?_⟩,?_,h3,h4⟩
   .rw[ak (cx h1 hf (by intro z;cases z))]
    exact h1
   .rw[ak Jk]
    exact h2
end
theorem Rn:∀zs:List Str,(Str.join ⟨#[]⟩ zs).cps.toList=zs.flatMap λx=>x.cps.toList
 |[]=>rfl
 |[x]=>by simp[Str.join]
 |x::y::r=>by
  have ih:=Rn (y::r)
  show((x++⟨#[]⟩++Str.join ⟨#[]⟩ (y::r):Str)).cps.toList=_
  rw[mF,mF,ih]
  simp
theorem adT(l:List Str):decide (46∈(Str.join ⟨#[]⟩ l).cps.toList)=gG l:=by
 rw[Rn]
 unfold gG
 rw[zR,J2,Ad,zV]
 constructor
 .rintro⟨x,m,h⟩
  exact⟨x,m,aJ h⟩
 .rintro⟨x,m,h⟩
  exact⟨x,m,fK h⟩
theorem Ro{w:Nat}:∀{l:List Str},(∀x∈l,x.length=w)->(l.map (·.length)).sum=l.length*w
 |[],_=>by simp
 |x::r,h=>by
  rw[bI,dG,Ro λy m=>h y (bX _ m),h x bt,dC,iQ,Nat.add_comm]
theorem adU(h:(aG l w)[i]? = some r):(dm l w)[i]? = some (au l r):=by
 unfold dm
 rw[bE,h]
 rfl
theorem Jl(i j:Nat):decide (V.int (i:Int)=V.int (j:Int))=decide (i=j):=by
 by_cases h:i=j
 .rw[h,aJ rfl,aJ rfl]
 .rw[aN h,aN]
  intro z
  injection z with z
  lia
section
variable{w:World}
def Rp(K:Frag):Sp:=λvs H Q _=>∃(d a:Addr) (kvs:List (Key×V)) (l:List Str) (w:Nat),vs=[.ref d,.ref a]/\H d=some (.dK kvs)/\iF kvs/\aq K H a (l.map V.str)/\bo l w/\∀H',af H H'->Q (.bl (dP (aC kvs) l w)) H'
theorem Rq:bg ["_law_words_here","_law_sheet","_law_texts"] ["_law_words_here","_law_sheet"] (aV (top 69)):={}
theorem adV(B:Bl mg)(F:aX K "_law_is_filling" "_law_is_filling" (top 69) f fd)(tf:Fn P w K mg base "_law_rows" 3 (yA K))(lE:Fn P w K mg base "_law_text" 1 (vm K)):aO P w K mg base aR 4 f fd ["_law_words_here","_law_sheet"] (Rp K):=by
 refine F.bG Rq λaH A outer s H vs Q E hr h=>?_
 refine hide λG_ aF=>?_
 obtain⟨d,a,kvs,l,wd,rfl,hd,tu,hT,S,q⟩:=h
 refine aF.k ?_
 have cU:=gS hr
 refine⟨_,(ar (r8 (i:=2) Rq.nd rfl (Or.inl rfl) (js:=[1]) (ns:=["_law_sheet"]) (dn (aU tf hr (ab (pv 1) ag))) rfl rfl rfl rfl (λ_ _ _ _=>gT) (λ_ _ _ _=>(aU lE hr (ab (pv 1) (ab (pv 0) ag)))))
  (ar (bw (PW.pt (gO (bR Az dY (fB DV Ke Kf A0 dY (ab (iZ rP (by rfl) B.pY pM (ab (pv 1) ag)) ag))) (iA (bR iY (bc X3 (by rfl) B.b7 b6 (ab (iZ (X2 rfl) (by rfl) B.Yl X4 (ab (pv 2) ag)) ag)) (bc d7 (by rfl) B.b7 b6 (ab (pv 2) ag))))))
  (aw (aP dR))
  bC)
  (aw (aP (bc (L8 rfl) (by rfl) B.Nl L4 (ab (fW (js:=[0]) (ns:=["_law_words_here"]) (dn (pv 2)) rfl rfl rfl rfl (λ_ _ _ _=>gT) (λ_ _ _ _=>(SN (EF (by exact cU) (pv 0) (pv 1))))) ag)))))),?_⟩
 try dsimp only[bA]
 refine⟨_,rfl,a,l,wd,rfl,hT,S,λg xs H1 hg s1 hL hR=>⟨g,rfl,⟨_,ai.of hL⟩,?_⟩⟩
 have GR:=fJ hR
 have jh:=qf S
 have tm:=aaz l wd
 have htc:(dm l wd).length=(aG l wd).length:=by unfold dm;rw[av]
 refine comp_map gB (by lia) (λ_ i y _=>y = .str ((dm l wd).getD i ⟨#[]⟩)) (λH2 s2=>ai.of (s2 _ _ hL)) (λ_ _ _ _ _ _ _ _ h=>h) ?_ ?_
 .intro D i x H2 Z iL hx s2 _ k1
  refine hide λG_ aZ=>?_
  obtain⟨r,eZ,p1,ys,rfl,_,hp,hc⟩:=Paired.get hR hx
  refine aZ.k ?_
  have bD:=jf S (bj eZ)
  exact⟨_,rfl,_,rfl,a,p1,l,wd,r,ys,rfl,(s1.trans s2).tup hT,S,s2 _ _ hp,hc.mono s2,by lia,λc mc=>⟨(bD.2.2 c mc).1,(bD.2.2 c mc).2.1⟩,λH3 s3=>k1 _ _ s3 (by rw[bW (adU eZ)])⟩
 .intro D zs H2 iL bh s2 pr
  have e:=jN pr
  rw[<-GR,<-htc,kf (λx=>V.str x)] at e
  rw[e] at bh
  have sm:=s1.trans s2
  clear pr e hR hL iL
  refine⟨rfl,_,rfl,a,_,rfl,.inr (sm.tup hT),λlp i9=>⟨_,lp,l,rfl,rfl,.inl (ai.of ao),?_,_,_,rfl,rfl,_,rfl,?_⟩⟩
  .rw[Ro S.len,ve]
   have h9:=S.nine
   have w9:=S.w9
   have:l.length*wd<=9*9:=Aa h9 w9
   show _+_*0<=_
   lia
  .have ef:(!(Builtin.Str.occurrences (Str.join (Str.ofString "") l) (Str.ofString ".") 0 (Str.join (Str.ofString "") l).length 1).isEmpty)=gG l:=by
    rw[<-adT,uY,ve]
    exact DW _ 46
   rw[ef]
   have fQ:=sm.trans (af.upd (o:=HO.lst (l.map V.str)) i9)
   have zI:=(af.upd (o:=HO.lst (l.map V.str)) i9) _ _ bh
   revert fQ zI
   generalize upd H2 lp (.lst (l.map V.str))=H3
   intro fQ zI
   cases qI:gG l with
   |true=>
    have e:dP (aC kvs) l wd=false:=gi.mpr λe=>by rw[(yL e).1] at qI;cases qI
    rw[e] at q
    exact bf (bf (q H3 fQ))
   |false=>
    refine aL ?_
    refine⟨_,rfl,D,dm l wd,rfl,ai.of zI,jX (show(dm l wd).length+1<=1000 by lia) (by decide),λst T c dI hc=>⟨st,T,c,rfl,ao,_,rfl,D,_,rfl,.inl (ai.of ((af.upd dI) _ _ zI)),rfl,_,rfl,?_⟩⟩
    have dB:=fQ.trans (af.upd (o:=HO.ext (uT P w st T c)) dI)
    have Rr:=(af.upd (o:=HO.ext (uT P w st T c)) dI) _ _ zI
    rw[av,Jl]
    by_cases cX:(dm l wd).Nodup
    .rw[aJ (hc.mpr cX)]
     refine aL ?_
     refine⟨_,rfl,D,rfl,⟨_,ai.of Rr⟩,?_⟩
     refine comp_map gB (by rw[av];lia) (λ_ i y _=>y = .bl (decide ((dm l wd).getD i ⟨#[]⟩∈aC kvs))) (λH5 s5=>ai.of (s5 _ _ Rr)) (λ_ _ _ _ _ _ _ _ h=>h) ?_ ?_
     .intro D2 i v H5 Z iL hv s5 _ k1
      rw[bE] at hv
      cases ex:(dm l wd)[i]? with
      |none=>rw[ex] at hv;cases hv
      |some x=>
       rw[ex] at hv
       cases hv
       exact⟨_,rfl,_,rfl,d,_,rfl,dU.k (k:=Sum.inr x) ((dB.trans s5) _ _ hd),k1 _ _ (af.cA _) (by rw[BZ tu,bW ex])⟩
     .intro D2 bs H5 iL iM s5 lC
      have e2:=jN lC
      rw[av,kf (λx=>V.bl (decide (x∈aC kvs)))] at e2
      have e3:bs=((dm l wd).map λx=>decide (x∈aC kvs)).map V.bl:=by rw[e2,jw];rfl
      rw[e3] at iM
      refine⟨D2,_,rfl,ai.of iM,?_⟩
      have ea:(((dm l wd).map λx=>decide (x∈aC kvs)).all id)=dP (aC kvs) l wd:=by
       unfold dP
       rw[qI,aJ cX,wR]
       rfl
      rw[ea]
      exact q H5 (dB.trans s5)
    .rw[aN λz=>cX (hc.mp z)]
     have e:dP (aC kvs) l wd=false:=gi.mpr λe=>cX (yL e).2.1
     rw[e] at q
     exact bf (q _ dB)
def Rt(K:Frag):Sp:=λvs H Q _=>∃(b a:Addr) (s l:List Str) (w:Nat),vs=[.ref b,.ref a]/\H b=some (.tup (s.map V.str))/\H a=some (.tup (l.map V.str))/\bo l w/\cu s l w/\∀H',af H H'->Q (.bl true) H'
theorem Jm:bg ["_law_sheet","_law_given_here","_law_line","_law_other"] ["_law_sheet","_law_given_here"] (aV (top 71)):={}
theorem adW(B:Bl mg)(F:aX K "_law_agreeing" "_law_agreeing" (top 71) f fd):aO P w K mg base aR 1 f fd ["_law_sheet","_law_given_here"] (Rt K):=by
 refine F.bG Jm λaH A outer s H vs Q E hr h=>?_
 refine hide λG_ aF=>?_
 obtain⟨b,a,t,l,wd,rfl,hb,ha,S,AG,q⟩:=h
 refine aF.k ?_
 have hu:=hr.units
 refine⟨_,(ar (bw (PW.pt (gO (eI (dS (bc nY (by rfl) B.jK jG (ab (pv 0) (ab (nL (v := .ty "tuple") (by rfl) B.sM se rfl) ag))))) (iA (bR iY (bc d7 (by rfl) B.b7 b6 (ab (pv 0) ag)) (bc d7 (by rfl) B.b7 b6 (ab (pv 1) ag))))))
  (aw (aP dR))
  bC)
  (ar (cF (x5 .T .T (by rfl) B.yl (ab (pv 0) (ab (pv 1) ag))) (jB rfl (dM (bN 2 Jm.nd) (dM (bN 3 Jm.nd) jA)))
  (ar (bw (PW.pt (gO (eI (dS (bc nY (by rfl) B.jK jG (ab (pv 2) (ab (nL (v := .ty "str") (by rfl) B.Nk L5 rfl) ag))))) (iA (bR iY (bc eU (by rfl) B.b7 b6 (ab (pv 2) ag)) (bc eU (by rfl) B.b7 b6 (ab (pv 3) ag))))))
   (aw (aP dR))
   bC)
   (aw (bw (bR (AZ hu) (fW (js:=[3,2]) (ns:=["_law_other","_law_line"]) (gm (by rfl) B.gD (ab (bc eU (by rfl) B.b7 b6 (ab (pv 2) ag)) ag)) rfl rfl rfl rfl (λ_ _ _ _=>(lh (PW.pt (pq (bR iY (aM fV (pv 1) (pv 0)) (aM fV (pv 2) (pv 0))) (rE (PW.pt (gO (bR iY (aM fV (pv 1) (pv 0)) dY) (iA (bR lW (aM fV (pv 2) (pv 0)) dY))))))))) (λ_ _ _ _=>(pv 0))) (de ag))
   (aw (aP dR))
   bC))))
  (aw (aP dR)))),?_⟩
 try dsimp only[bA]
 have hln:=AG.ln
 have k1:kitOne K (.type "tuple") (.type "tuple")=some true:=by kernel_rfl
 have k2:kitOne K (.type "str") (.type "str")=some true:=by kernel_rfl
 refine⟨_,rfl,_,_,_,true,⟨rfl,.tup hb,k1⟩,_,rfl,aL ⟨_,rfl,b,_,rfl,.inr (aq.of hb),_,rfl,a,_,rfl,.inr (aq.of ha),rfl,_,rfl,?_⟩⟩
 rw[av,av,Jl,aJ hln]
 refine aL ⟨_,rfl,_,rfl,_,_,rfl,⟨_,b,rfl,aq.of hb⟩,⟨_,a,rfl,aq.of ha⟩,?_⟩
 refine x6 (K:=K) (k1 := .T) (k2 := .T) (xs:=t.map V.str) (ys:=l.map V.str) (λi O H2=>∃(v2 v3:Option V),O=[some (.ref b),some (.ref a),v2,v3]/\af H H2) ⟨none,none,rfl,af.cA _⟩ ?_ ?_ ?_
 .rintro i O H2 _ ⟨v2,v3,rfl,s2⟩
  exact⟨⟨_,rfl,aq.of (s2 _ _ hb)⟩,_,rfl,aq.of (s2 _ _ ha)⟩
 .intro i x y pt O H2 hx hy adX hpt
  refine hide λG_ aZ=>?_
  obtain⟨v2,v3,rfl,s2⟩:=adX
  rw[bE] at hx hy
  obtain⟨sx,hsx,rfl⟩:=iS.mp hx
  obtain⟨lx,hlx,rfl⟩:=iS.mp hy
  refine aZ.k ?_
  have BX:i<l.length:=(cg.mp hlx).1
  have w9:=S.w9
  have lsx:=AG.sh.len sx (bj hsx)
  have llx:=S.len lx (bj hlx)
  refine⟨pt,_,rfl,aq.of ao,rfl,_,_,rfl,_,_,rfl,rfl,?_⟩
  have s3:af H (upd H2 pt (.tup [.str sx,.str lx])):=s2.trans (af.upd hpt)
  generalize upd H2 pt (.tup [.str sx,.str lx])=H3 at s3
  refine⟨_,rfl,_,_,_,true,⟨rfl,.str sx,k2⟩,_,rfl,aL ⟨_,rfl,sx,rfl,dj (by lia),_,rfl,lx,rfl,dj (by lia),rfl,_,rfl,?_⟩⟩
  rw[Jl,aJ (by lia)]
  refine aL ⟨_,rfl,sx,rfl,dj (by lia),_,rfl,by lia,by lia,?_⟩
  rw[dQ]
  refine kd E1 (by rw[av,kM];lia) (λ_=>false) (λ_ i y _=>y = .int (0+(i:Int))) (λ_ _=>trivial) (λ_ _ _ _ _ _ _ _ h=>h) ?_ ?_
  .intro D2 j v H6 Z0 Z iL hv s6 _ k0 k1
   obtain⟨hj,rfl⟩:=GX hv
   have hgs:sx.cps.toList[j]? = some (sx.cps.toList.getD j 0):=by
    rw[bT,bb (by rw[b9];lia)]
    rfl
   have Cd:lx.cps.toList[j]? = some (lx.cps.toList.getD j 0):=by
    rw[bT,bb (by rw[b9];lia)]
    rfl
   have e1:sg t (i,j)=sx.cps.toList.getD j 0:=by unfold sg;rw[bW hsx]
   have e2:sg l (i,j)=lx.cps.toList.getD j 0:=by unfold sg;rw[bW hlx]
   have cl:=AG.cl (i,j) BX (by show j<wd;lia)
   rw[e1,e2] at cl
   have a1:eT sx.cps.toList (0+(j:Int))=some (sx.cps.toList.getD j 0):=by rw[tZ];exact c7 hgs
   have a2:eT lx.cps.toList (0+(j:Int))=some (lx.cps.toList.getD j 0):=by rw[tZ];exact c7 Cd
   generalize sx.cps.toList.getD j 0=gs at a1 cl
   generalize lx.cps.toList.getD j 0=gl at a2 cl
   refine⟨_,rfl,_,rfl,lx,_,gl,rfl,rfl,dj (by lia),a2,_,rfl,_,rfl,sx,_,gs,rfl,rfl,dj (by lia),a1,rfl,_,rfl,?_⟩
   rw[sQ]
   by_cases e:gl=gs
   .rw[aJ e]
    exact aL (aL (k0 _ (af.cA _) rfl))
   .rw[aN e]
    have cO:gl=46:=Sj λz=>e (cl.1 z).symm
    have mO:¬gs=35:=cl.2 cO
    refine bf ⟨_,rfl,_,rfl,lx,_,gl,rfl,rfl,dj (by lia),a2,rfl,_,rfl,?_⟩
    rw[uY,sQ,aJ cO]
    refine aL ⟨_,rfl,_,rfl,sx,_,gs,rfl,rfl,dj (by lia),a1,rfl,_,rfl,?_⟩
    rw[pZ,sQ,aN mO]
    exact aL (k0 _ (af.cA _) rfl)
  .intro D2 ys H6 iL iM s6 lC
   have e2:=jN lC
   rw[Si.mpr (λ_ _=>b0)] at e2
   rw[e2] at iM
   refine⟨bu _,λen ib=>?_⟩
   have sE:=s6.trans (af.upd (o:=HO.lst []) ib)
   refine⟨.lst (([]:List Nat).map λ(i:Nat)=>D.int (0+(i:Int))),.lst [],⟨D2,_,rfl,ai.of ((af.upd ib) _ _ iM),BY _ _ _⟩,⟨en,_,rfl,ai.of ao,rfl⟩,.inr ⟨_,_,rfl,rfl⟩,GV _,_,rfl,?_⟩
   rw[GW,aJ rfl]
   exact aL ⟨_,_,rfl,s3.trans sE⟩
 .rintro O H2 ⟨v2,v3,rfl,s2⟩
  exact q H2 s2
end
theorem adY(F:hX l m w (l.length*w))(hw:0<w):jT l m w:=by
 refine⟨F.ln,λc h1 h2=>?_⟩
 have g:=F.cl c h1 h2
 unfold bY
 by_cases z:sg l c=35
 .rw[aJ z,aJ (g.1 z)]
 .have h:=g.2 z
  have aT:c.1*w+c.2<l.length*w:=by
   have:=DT w (Nat.succ_le_of_lt h1)
   rw[iQ] at this
   lia
  rw[aA aT] at h
  rw[aN z,aN (by lia)]
theorem adZ{g:List Str}(G:qi m g w):jT m g w:=by
 refine⟨G.ln,λc h1 h2=>?_⟩
 unfold bY
 rcases G.cl c h1 h2 with z | ⟨z1,z2⟩
 .rw[z]
 .rw[z2,aN z1]
  rfl
noncomputable def tQ(bB:List (List Str)):List D:=bB.map λs=>D.tup (s.map D.str)
theorem Ru(K:Frag)(H:Hp):∀{ts:List Addr}{bB:List (List Str)},m6 H ts bB->di K H (tQ bB) (ts.map V.ref)
 |_,_,.nil=>rfl
 |_,_,.cons h t=>⟨_,_,rfl,⟨_,_,rfl,aq.of h,IQ K H _⟩,Ru K H t⟩
theorem Rv:∀bB:List (List Str),dN (tQ bB)<=1
 |[]=>bu _
 |s::r=>by
  unfold tQ
  rw[bI,dN]
  have:=Rv r
  unfold tQ at this
  have e:dep (D.tup (s.map D.str))=1:=by rw[dep,IS]
  lia
theorem Rw{wf:Str->Int}{ks s:List Str}:∀{R:List (List C2)}{ms:List Int},Paired (qP ks wf s) R ms->(∀r∈R,46∉(au s r).cps.toList)->ms.sum=oG wf R s
 |[],_,.nil,_=>rfl
 |r::R,_,.cons h t,k=>by
  have ih:=Rw t λx m=>k x (bX _ m)
  obtain⟨⟨x,mx,hx,rfl⟩,_⟩:=h
  unfold oG at ih ⊢
  rw[dG,bI,dG,ih,yT hx (k r bt)]
theorem Jn{g:List Str}(du:∀x∈ks,cK x=true)(A:cu s g w)(hf:dP ks s w=true):(∀r∈aG s w,∃x∈ks,bK x (au s r)=true)/\∀{ms:List Int},Paired (qP ks wf s) (aG s w) ms->ms.sum=oG wf (aG g w) s:=by
 have h3:=(yL hf).2.2
 unfold dm at h3
 refine⟨λr mr=>⟨_,h3 _ (iU mr),gc.mpr ⟨rfl,λk _=>.inr rfl⟩⟩,λh=>?_⟩
 rw[<-A.rows]
 refine Rw h λr mr z=>?_
 have:=vT (du _ (h3 _ (iU mr))) 46 z
 lia
def Dp(K:Frag):Sp:=λvs H Q _=>∃(a:Addr) (ns:List Int),vs=[.ref a]/\ai K H a (ns.map V.int)/\ns.length<=63/\∀H',Q (.bl true) H'
section
variable{w:World}
theorem tR:bg ["_law_script","_law_filled_here","_law_worths_here","_law_sheet","_law_rows_here","_law_due","_law_found"] ["_law_script"] (aV (top 77)):={}
theorem ad0(B:Bl mg)(F:aX K "law" "law" (top 77) f fd)(om:Fn P w K mg base "_law_cell_at" 1 (ym K))(ad1:Fn P w K mg base "_law_floor" 5 (OP K))(ad2:Fn P w K mg base "_law_filled" 3 (Oj K))(ad3:Fn P w K mg base "_law_words" 4 (Oy K))(ad4:Fn P w K mg base "_law_worths" 2 (Rk K))(ad5:Fn P w K mg base "_law_given" 2 (Ol K))(tf:Fn P w K mg base "_law_rows" 3 (yA K))
  (IX:Fn P w K mg base "_law_all" 13 (C8 K 10)) (ad6:Fn P w K mg base "_law_book" 5 (Rl K C)) (ad7:Fn P w K mg base "best" 22 (Q9 K C CH CC)) (Jf:Fn P w K mg base "_law_walked" 20 (Dl K CH CC 17)) (ad8:Fn P w K mg base "_law_agreeing" 1 (Rt K)) (ad9:Fn P w K mg base "_law_is_filling" 4 (Rp K)) (tP:Fn P w K mg base "_law_sum" 2 (Dh K)) (Jc:Fn P w K mg base "_law_bounded" 20 (Di K CH CC 17)):aO P w K mg base aR 23 f fd ["_law_script"] (Dp K):=by
 refine F.bG tR λaH A outer s H vs Q E hr h=>?_
 refine hide λG_ aF=>?_
 obtain⟨a,ns,rfl,hS,hlen,q⟩:=h
 refine aF.k ?_
 have hu:=hr.units
 have cU:=gS hr
 refine⟨_,(ar (aK 1 tR.nd (aU ad2 hr (ab (pv 0) (ab (aU ad1 hr (ab (aU om hr (ab (pv 0) (ab az ag))) ag)) (ab (aU om hr (ab (pv 0) (ab az ag))) ag)))))
  (ar (aK 2 tR.nd (aU ad4 hr (ab (pv 0) (ab (aU ad3 hr (ab (pv 0) (ab (pv 1) (ab az ag)))) ag))))
  (ar (aK 3 tR.nd (aU ad5 hr (ab (pv 1) (ab (aU om hr (ab (pv 0) (ab az ag))) ag))))
  (ar (aK 4 tR.nd (aU tf hr (ab (pv 3) ag)))
  (ar (aK 5 tR.nd (aU IX hr (ab (pv 2) (ab (pv 4) (ab (pv 3) ag)))))
  (ar (aK 6 tR.nd (aU ad7 hr (ab (aU ad6 hr (ab (pv 2) ag)) (ab (pv 3) ag))))
  (ar (bw (PW.pt (gO (eI (dS (bc nY (by rfl) B.jK jG (ab (pv 6) (ab (nL (v := .ty "tuple") (by rfl) B.sM se rfl) ag))))) (iA (bR iY (bc d7 (by rfl) B.b7 b6 (ab (pv 6) ag)) az))))
  (aw (aP dR))
  bC)
  (ar (bw (bR (xO hu) (pv 5) (de ag))
  (aw (aP (Aq (nM xq (aM bO (pv 6) az) kR) (Aq (nM xq (aM bO (pv 6) az) kR) (D5 (aU Jf hr (ab (aM bO (pv 6) az) (ab (pv 2) (ab (pv 4) (ab (pv 3) (ab (de ag) ag (hs:=cJ rfl)) (hs:=cJ rfl)) (hs:=cJ rfl)) (hs:=cJ rfl)) (hs:=cJ rfl)) (he:=cJ rfl) (hpl:=uM rfl)))))))
  bC)
  (ar (bw (PW.pt (gO (eI (dS (aU ad8 hr (ab (aM bO (pv 6) az) (ab (pv 3) ag))))) (iA (eI (dS (aU ad9 hr (ab (pv 2) (ab (aM bO (pv 6) az) ag))))))))
  (aw (aP dR))
  bC)
  (ar (bw (PW.pt (gO (eI (dS (bc nY (by rfl) B.jK jG (ab (aM bO (pv 6) az) (ab (nL (v := .ty "int") (by rfl) B.Np L6 rfl) ag))))) (iA (dS (bc nY (by rfl) B.jK jG (ab (aM bO (pv 6) az) (ab (nL (v := .ty "bool") (by rfl) B.Nn L7 rfl) ag)))))))
  (aw (aP dR))
  bC)
  (ar (bw (bR iY (aM bO (pv 6) az) (aU tP hr (ab (pv 2) (ab (pv 4) (ab (aM bO (pv 6) az) ag)))))
  (aw (aP dR))
  bC)
  (ar (bw (bR (AZ hu) (fW (js:=[2,4,6]) (ns:=["_law_worths_here","_law_rows_here","_law_found"]) (dn (pv 5)) rfl rfl rfl rfl (λ_ _ _ _=>(lh (bR Ay (aU tP hr (ab (pv 1) (ab (pv 2) (ab (pv 0) ag)))) (si (K:=K) (rr:=pG) rfl bO (pv 3) az)))) (λ_ _ _ _=>(pv 0))) (de ag))
  (aw (aP dR))
  bC)
  (aw (aP (aU Jc hr (ab (aM bO (pv 6) az) (ab (pv 2) (ab (pv 4) (ab (pv 3) (ab (aM bO (pv 6) az) ag)))))))))))))))))))),?_⟩
 try dsimp only[bA]
 refine⟨_,rfl,_,rfl,a,ns,0,rfl,hS,_,rfl,λfl l wd H1 s1 CU FP T2 Sy Nf N9=>?_⟩
 refine⟨_,rfl,a,ns,2,rfl,s1.seq hS,a,fl,ns,l,wd,_,rfl,s1.seq hS,CU,FP,λfi m H2 s2 tN FM=>?_⟩
 have yf:=(s1.trans s2).seq hS
 have Om:=adY FM FP.sh.w1
 refine⟨_,rfl,_,rfl,_,rfl,a,fi,ns,m,wd,6,rfl,yf,aq.of tN,FM.sh,FM.lets,by rw[FM.ln];exact FP.h4,FP.w4,λwl rs es H3 rX s3 hW W=>?_⟩
 have ye:=s3.seq yf
 refine⟨a,wl,ns,rs++es,rfl,ye,ai.of hW,W.nd,by have:=W.fC;lia,λww kvs H4 hww s4 hK WP=>?_⟩
 have Rx:=s4.seq ye
 have Ry:=(s3.trans s4) _ _ tN
 refine⟨_,rfl,_,rfl,a,ns,5,rfl,Rx,fi,m,wd,_,rfl,Ry,FM.sh,λsh g H5 s5 Jo GP=>?_⟩
 have Og:=adZ GP
 have Dr:=Og.two (Om.two T2)
 have Syg:=Og.sym (Om.sym Sy)
 refine⟨_,rfl,sh,g,wd,rfl,aq.of Jo,GP.sh,λrg zs H6 hrg s6 Jp hR=>?_⟩
 have Cd:g.length<=4:=by rw[Og.ln,FM.ln];exact FP.h4
 have Ds:g.length*wd<=9:=by rw[Og.ln,FM.ln];exact N9
 have hw4:=FP.w4
 have Sg:=GP.sh
 have zj:=WP.ks
 have cX:=W.nd
 have hw:=W.wd
 have Jq:=W.fC
 have wg:=(s5.trans s6) _ _ hK
 have Dt:=s6 _ _ Jo
 clear Jo hW W hS yf ye Rx tN Ry CU s1 s2 s3 s4 s5 s6 FP T2 Sy Nf N9 FM Om GP Og rX hrg hK hww
 revert zj cX hw Jq WP
 generalize rs++es=ws
 intro WP zj cX hw Jq
 subst zj
 have i6:kvs.length<=47:=by rw[<-lF];exact Jq
 have FL:=QO Sg Dr
 refine⟨_,rfl,_,rfl,_,rfl,ww,rg,sh,aC kvs,g,wd,aG g wd,zs,rfl,⟨⟨kvs,wg,WP.tx,rfl⟩,by lia,hw,cX,Dt,FL,Dr,Ds,Nat.lt_succ_of_le (bQ (Q8 g wd) Ds),Jp,hR⟩,λt ts kI H7 _ s7 tm Rz AF=>?_⟩
 refine⟨_,rfl,ww,kvs,_,rfl,s7 _ _ wg,WP,by lia,hw,λp d H8 _ s8 hB=>?_⟩
 refine⟨_,rfl,sh,p,d,g,wd,kvs,rfl,s8 _ _ (s7 _ _ Dt),Sg,Dr,Syg,Cd,hw4,Ds,hB,by lia,hw,WP.iv,λt6 x y v o H9 s9 kG qJ aea=>?_⟩
 have mZ:=s7.trans (s8.trans s9)
 have RA:=(s8.trans s9) _ _ tm
 have RB:m6 H9 ts kI:=Rz.keep λb o _ _ e=>(s8.trans s9) _ _ e
 have RC:=mZ _ _ wg
 have RD:=mZ _ _ Dt
 have RE:=mZ _ _ Jp
 have CI:=c9.mono mZ hR
 clear mZ s7 s8 s9 tm Rz hB wg Dt Jp hR
 have k1:kitOne K (.type "tuple") (.type "tuple")=some true:=by kernel_rfl
 refine⟨_,rfl,_,_,_,true,⟨rfl,.tup kG,k1⟩,_,rfl,aL ⟨_,rfl,t6,_,rfl,.inr (aq.of kG),rfl,_,rfl,?_⟩⟩
 refine aL ?_
 refine⟨_,rfl,bu _,λem RF=>?_⟩
 have jF:=af.upd (o:=HO.lst []) RF
 have Jr:upd H9 em (.lst []) em=some (.lst []):=ao
 generalize upd H9 em (.lst [])=xJ at jF Jr
 have xK:=jF _ _ RA
 have Js:m6 xJ ts kI:=RB.keep λb o _ _ e=>jF _ _ e
 have oP:=jF _ _ kG
 have RG:=qJ.mono (Kp.of jF) (λ_ _ _ _=>trivial) (dX.refl _)
 have Du:=jF _ _ RC
 have Jt:=jF _ _ RD
 have Ju:=jF _ _ RE
 have Jv:=c9.mono jF CI
 refine⟨.lst (tQ kI),.lst [],⟨t,_,rfl,ai.of xK,Ru K _ Js⟩,⟨em,_,rfl,ai.of Jr,rfl⟩,.inr ⟨_,_,rfl,rfl⟩,?_,?_⟩
 .rw[dep];have:=Rv kI;lia
 have e0:dW (.lst (tQ kI)) (.lst [])=kI.isEmpty:=by
  cases kI <;> simp[tQ,dW,gU]
 refine⟨kI.isEmpty,by rw[ax b0,e0],?_⟩
 rcases aea with ⟨rfl,rfl,rfl,jJ⟩ | ⟨sa,s1,c,rfl,rfl,Ci,rfl,hc,A1,tE,tO⟩
 .have ed:kI=[]:=by
   cases kI with
   |nil=>rfl
   |cons s0 _=>exact(jJ s0 ((AF.2 s0).mp bt).1 ((AF.2 s0).mp bt).2).elim
  rw[ed]
  refine bf ⟨_,rfl,t6,_,0,.aB,rfl,rfl,aq.of oP,rfl,rfl,_,rfl,bf ?_⟩
  refine⟨_,rfl,t6,_,1,.aB,rfl,rfl,aq.of oP,rfl,rfl,_,rfl,bf ?_⟩
  refine⟨_,rfl,t6,_,2,v,rfl,rfl,aq.of oP,rfl,_,rfl,_,rfl,_,rfl,bu _,λel hel=>?_⟩
  have lj:=af.upd (o:=HO.lst []) hel
  exact⟨ww,rg,sh,v,.ref el,kvs,g,wd,aG g wd,zs,rfl,⟨RG.mono (Kp.of lj) (λ_ _ _ _=>trivial) (dX.refl _),lj _ _ Du,WP.tx,WP.iv,by lia,hw,lj _ _ Jt,FL,lj _ _ Ju,c9.mono lj Jv⟩,λH' _=>q H'⟩
 .have ed:kI.isEmpty=false:=by
   cases kI with
   |nil=>exact nomatch (AF.2 s1).mpr ⟨A1,tE⟩
   |cons _ _=>rfl
  rw[ed]
  have k3:kitOne K (.type "int") (.type "bool")=some false:=by kernel_rfl
  have k4:kitOne K (.type "int") (.type "int")=some true:=by kernel_rfl
  have Jw:=jF _ _ Ci
  clear qJ RA RB RC RD RE CI kG Ci jF Jr RF e0
  refine aL ⟨_,rfl,t6,_,0,.ref sa,rfl,rfl,aq.of oP,rfl,_,rfl,sa,sh,s1,g,wd,rfl,Jw,Jt,Sg,A1,λVz lj=>⟨_,rfl,aL ?_⟩⟩
  refine⟨_,rfl,_,rfl,t6,_,0,.ref sa,rfl,rfl,aq.of (lj _ _ oP),rfl,ww,sa,kvs,s1,wd,rfl,lj _ _ Du,WP.tx,aq.of (lj _ _ Jw),A1.sh,λH12 m5=>⟨_,rfl,?_⟩⟩
  rw[tE]
  have m5:=lj.trans m5
  have Dv:=m5 _ _ oP
  refine aL ⟨_,rfl,t6,_,1,.int c,rfl,rfl,aq.of Dv,rfl,_,_,_,true,⟨rfl,.int _,k4⟩,_,rfl,aL ?_⟩
  refine⟨_,rfl,t6,_,1,.int c,rfl,rfl,aq.of Dv,rfl,_,_,_,false,⟨rfl,.int _,k3⟩,_,rfl,aL ?_⟩
  have SP:∀{H':Hp}{sn:List Str}{ti:Addr},af xJ H'->cu sn g wd->dP (aC kvs) sn wd=true->H' ti=some (.tup (sn.map V.str))->Rc K H' ww rg ti kvs sn wd zs:=λs' A hf ht=>⟨s' _ _ Du,WP.tx,WP.iv,by lia,hw,aq.of ht,A.sh,s' _ _ Ju,by rw[A.rows];exact c9.mono s' Jv,(Jn (wf:=eN kvs) hw A hf).1⟩
  refine⟨_,rfl,t6,_,1,.int c,rfl,rfl,aq.of Dv,rfl,_,rfl,_,rfl,_,rfl,t6,_,0,.ref sa,rfl,rfl,aq.of Dv,rfl,ww,rg,sa,kvs,s1,wd,zs,rfl,SP m5 A1 tE (m5 _ _ Jw),λms H13 fH lN=>?_⟩
  rw[(Jn hw A1 tE).2 lN,<-hc]
  refine⟨rfl,_,rfl,?_⟩
  rw[aJ rfl]
  have fH:=m5.trans fH
  have Bf:=IW Sg Dr Ds (by lia) AF.1 λs ms=>(AF.2 s).mp ms
  have CU:=fJ Js
  refine aL ⟨_,rfl,t,rfl,⟨_,ai.of (fH _ _ xK)⟩,?_⟩
  refine kd gB (by rw[av];lia) (λi=>false) (λ_ i y _=>y=V.aB) (λH2 s2=>ai.of (s2 _ _ (fH _ _ xK))) (λ_ _ _ _ _ _ _ _ h=>h) ?_ ?_
  .intro D i y H15 Z0 Z hD hy Jx _ k0 k1
   rw[bE] at hy
   refine hide λG_ aZ=>?_
   obtain⟨ti,hti,rfl⟩:=iS.mp hy
   obtain⟨sn,hsn,dI⟩:=Paired.getL Js hti
   obtain⟨An,rC⟩:=(AF.2 sn).mp (bj hsn)
   refine aZ.k ?_
   have zJ:=fH.trans Jx
   refine⟨_,rfl,_,rfl,_,rfl,ww,rg,ti,kvs,sn,wd,zs,rfl,SP zJ An rC (zJ _ _ dI),λms H16 zK lN=>?_⟩
   have hle:=tO sn An rC
   rw[<-(Jn hw An rC).2 lN] at hle
   refine⟨_,rfl,t6,_,1,.int c,rfl,rfl,aq.of (zK _ _ (zJ _ _ oP)),rfl,_,_,rfl,rfl,_,rfl,?_⟩
   rw[aN (by lia)]
   exact aL (k0 _ zK rfl)
  .intro D ys H15 hD bh Jx pr
   have zJ:=fH.trans Jx
   have ey:ys=[]:=by
    have:=fJ pr
    rw[show(List.range (List.map V.ref ts).length).filter (λ_=>false)=[] by simp] at this
    exact List.length_eq_zero_iff.mp this.symm
   rw[ey] at bh
   refine⟨bu _,λen ib=>?_⟩
   have zK:=af.upd (o:=HO.lst []) ib
   refine⟨.lst [],.lst [],⟨D,_,rfl,ai.of (zK _ _ bh),rfl⟩,⟨en,_,rfl,ai.of ao,rfl⟩,.inr ⟨_,_,rfl,rfl⟩,by decide,_,rfl,?_⟩
   have tS:=zJ.trans zK
   refine aL ⟨_,rfl,t6,_,2,v,rfl,rfl,aq.of (tS _ _ oP),rfl,_,rfl,_,rfl,_,rfl,_,rfl,t6,_,1,.int c,rfl,rfl,aq.of (tS _ _ oP),rfl,?_⟩
   exact⟨ww,rg,sh,v,c,kvs,g,wd,aG g wd,zs,rfl,⟨RG.mono (Kp.of tS) (λ_ _ _ _=>trivial) (dX.refl _),tS _ _ Du,WP.tx,WP.iv,by lia,hw,tS _ _ Jt,FL,tS _ _ Ju,c9.mono tS Jv⟩,λH' _=>q H'⟩
end
abbrev hN(K:Frag)(x:Str)(f:Addr):Prop:=nsIn K mainGlobals x=some (some (.ref f))
abbrev hZ(K:Frag)(x:Str):Prop:=nsIn K mainGlobals x=some none
abbrev hL(K:Frag)(f:Addr)(nm ql:Str)(st:Stmt)(df oc:Value)(od an:Option Addr)(kV dc pm cd ct:Value)(sl:Array (Option Value)):Prop:=K.lookup f=some ⟨oc,od,.func (fnOf nm ql (pJ st) (kb st) (aV st) df kV dc pm an cd ct),sl⟩
def hD(K:Frag)(nm ql:Str)(st:Stmt)(df:Value)(f:Addr):Prop := ∃oc od an kV dc pm cd ct sl,hL K f nm ql st df oc od an kV dc pm cd ct sl/\codeIn K cd ql=true/\keepIn K (.ref f)=true
def hF(K:Frag)(nm:Str)(st:Stmt)(df:Value)(f:Addr):Prop:=hN K nm f/\hD K nm nm st df f
def hM(K:Frag)(C:Addr)(nm ql:Str)(st:Stmt)(df:Value)(f:Addr):Prop:=findIn K (.ref C) nm=some (some (.ref f))/\isFn K (.ref f)=true/\hD K nm ql st df f
def hT(K:Frag)(x:Str)(C:Addr):Prop:=hN K x C/\plainGet K C Str.empty=true/\hasDictIn K C=true/\plainOver K C=true/\findIn K (.ref C) "__setattr__"=some (some (.builtin "object.__setattr__"))/\makesIn K C=true/\keepIn K (.ref C)=true
def hV(K:Frag)(T:Addr)(n:Int):Prop := ∃od tk k sl,K.lookup T=some ⟨.type "tuple",od,.seq #[.int n tk] k,sl⟩
section
variable{K:Frag}{nm ql x:Str}{st:Stmt}{df:Value}{f C T:Addr}{n:Int}{oc:Value}{od an:Option Addr}{kV dc pm cd ct:Value}{sl:Array (Option Value)}{tk:Tok}{k:Nat}
theorem hF_mk(a:hN K nm f)(l:hL K f nm nm st df oc od an kV dc pm cd ct sl)(c:codeIn K cd nm=true)(q:keepIn K (.ref f)=true):hF K nm st df f:=⟨a,_,_,_,_,_,_,_,_,_,l,c,q⟩
theorem hM_mk(a:findIn K (.ref C) nm=some (some (.ref f)))(i:isFn K (.ref f)=true)(l:hL K f nm ql st df oc od an kV dc pm cd ct sl)(c:codeIn K cd ql=true)(q:keepIn K (.ref f)=true):hM K C nm ql st df f:=⟨a,i,_,_,_,_,_,_,_,_,_,l,c,q⟩
theorem hT_mk(a:hN K x C)(b:plainGet K C Str.empty=true)(c:hasDictIn K C=true)(d:plainOver K C=true)(e:findIn K (.ref C) "__setattr__"=some (some (.builtin "object.__setattr__")))(g:makesIn K C=true)(q:keepIn K (.ref C)=true):hT K x C:=⟨a,b,c,d,e,g,q⟩
theorem hV_mk(l:K.lookup T=some ⟨.type "tuple",od,.seq #[.int n tk] k,sl⟩):hV K T n:=⟨_,_,_,_,l⟩
theorem hT.cls(t:hT K x C):cD K C:=⟨t.2.1,t.2.2.1,t.2.2.2.1,t.2.2.2.2.1⟩
end
section
variable{P:Program}{w:World}{K:Frag}{mg:Str->Option Value}{base h:Heap}
def Dw(K:Frag)(nm ql:Str)(st:Stmt)(f:Addr)(ps:List Str):Prop := ∀fd,aX K nm ql st f fd->Binds K fd ps []
theorem RH(X:K.In h)(G:h.Ns mainGlobals mg){nm:Str}{st:Stmt}{f:Addr}{ps:List Str}{k:Nat}{sp:Sp}(a:hF K nm st .none f)(ok:∀fd,aX K nm nm st f fd->mg nm=some (.ref f)->keepIn K (.ref f)=true->Binds K fd ps []->aO P w K mg base aR k f fd ps sp)
  (hb:Dw K nm nm st f ps:=by intro _ F;exact F.binds λ_ _ _ _ _ _=>by first | exact A4 λ_=>rfl | exact xS λ_ _=>rfl | exact xT λ_ _ _=>rfl | exact A6 λ_ _ _ _=>rfl | exact A7 λ_ _ _ _ _=>rfl):Fn P w K mg base nm k sp:=by
 obtain⟨a,_,_,_,_,_,_,_,_,_,l,c,q⟩:=a
 have F:=AS l c q
 have m:=j1 X G a
 have b:=hb _ F
 exact⟨_,_,_,ok _ F m q b,m,q,b⟩
theorem AE(X:K.In h)(G:h.Ns mainGlobals mg){nm:Str}{st:Stmt}{f:Addr}{ps:List Str}{k:Nat}{sp:Sp}(a:hF K nm st .none f)(ok:∀fd,aX K nm nm st f fd->aO P w K mg base aR k f fd ps sp)
  (hb:Dw K nm nm st f ps:=by intro _ F;exact F.binds λ_ _ _ _ _ _=>by first | exact A4 λ_=>rfl | exact xS λ_ _=>rfl | exact xT λ_ _ _=>rfl | exact A6 λ_ _ _ _=>rfl | exact A7 λ_ _ _ _ _=>rfl):Fn P w K mg base nm k sp:=RH X G a (λfd F _ _ _=>ok fd F) hb
theorem aeb{C:Addr}{nm ql:Str}{st:Stmt}{f:Addr}{ps:List Str}{k:Nat}{sp:Sp}(T:cD K C)(a:hM K C nm ql st .none f)(ok:∀fd,aX K nm ql st f fd->aO P w K mg base aR k f fd ps sp)
  (hb:Dw K nm ql st f ps:=by intro _ F;exact F.binds λ_ _ _ _ _ _=>by first | exact A4 λ_=>rfl | exact xS λ_ _=>rfl | exact xT λ_ _ _=>rfl | exact A6 λ_ _ _ _=>rfl | exact A7 λ_ _ _ _ _=>rfl):Mt P w K mg base C nm k sp []:=by
 obtain⟨a,i,_,_,_,_,_,_,_,_,_,l,c,q⟩:=a
 have F:=AS l c q
 exact⟨T,_,_,_,_,⟨a,i,q⟩,ok _ F,hb _ F,.nil⟩
theorem aec(X:K.In h)(G:h.Ns mainGlobals mg){x:Str}{C:Addr}{ql:Str}{st:Stmt}{f:Addr}{ps:List Str}{k:Nat}{sp:Sp}(t:hT K x C)(a:hM K C "__init__" ql st .none f)(ok:∀fd,aX K "__init__" ql st f fd->aO P w K mg base aR k f fd ps sp)
  (hb:Dw K "__init__" ql st f ps:=by intro _ F;exact F.binds λ_ _ _ _ _ _=>by first | exact A4 λ_=>rfl | exact xS λ_ _=>rfl | exact xT λ_ _ _=>rfl | exact A6 λ_ _ _ _=>rfl | exact A7 λ_ _ _ _ _=>rfl):Nw P w K mg base x C k sp:=by
 obtain⟨a,i,_,_,_,_,_,_,_,_,_,l,c,q⟩:=a
 have F:=AS l c q
 exact⟨_,_,_,⟨t.2.2.2.2.2.1,a,i,t.2.2.2.2.2.2⟩,ok _ F,hb _ F,j1 X G t.1⟩
end
theorem all_mk{l:OpenLaw}{w:World}(X:K.In h)(G:h.Ns mainGlobals mg)(hfa:mg "law"=some (.ref fa))
  {f0 f1 f2 f3 f4 f5 f6 f7 f8 f9 f10 f11 f12 f13 RI f15 Dx f17 f18 f19 f20 f21 f22 f23 f24 f25 f26 f27 f28 f29 f30 f31 f32 f33 f34 f35 f36 f37 f38 f39 f40 f41 f42 f43 f44 f45 f46 f47 f48 f49 f50 f51 f52 f53 f54 f55 f56 f57 f58 f59 f60 RJ:Addr}
  (RK:hT K "Book" jU)
  (tT:bF K jU "worths")
  (RL:hT K "Ground" qR)
  (RM:bF K qR "sheet")
  (Jy:bF K qR "cells")
  (RN:bF K qR "crossings")
  (RO:bF K qR "worths")
  (RP:bF K qR "known")
  (RQ:hT K "Standing" nj)
  (Dy:bF K nj "ground")
  (zL:bF K nj "patterns")
  (zM:bF K nj "fits")
  (Jz:hT K "Cases" nr)
  (JA:bF K nr "place")
  (JB:bF K nr "parts")
  (RS:nsIn K mainGlobals "Short"=some (some (.ref il))) (aed:makesIn K il=true) (aee:findIn K (.ref il) "__init__"=some (some (.builtin "object.__init__"))) (aef:keepIn K (.ref il)=true)
  (aeg:nsIn K mainGlobals "Whole"=some (some (.ref JC)))
  (a0:hF K "_law_cell_at" (top 54) .none f0)
  (a1:hF K "sign_at" (top 13) .none f1)
  (a2:hF K "is_open" (top 14) .none f2)
  (a3:hF K "all_cells" (top 12) .none f3)
  (a4:hF K "open_cells" (top 10) .none f4)
  (a5:hF K "is_open_within" (top 22) .none f5)
  (a6:hF K "row_from" (top 21) .none f6)
  (a7:hF K "rows_of" (top 20) .none f7)
  (a8:hF K "pattern" (top 26) .none f8)
  (a9:hF K "with_sign" (top 16) .none f9)
  (a10:hF K "is_letters" (top 45) .none f10)
  (a11:hF K "is_word" (top 51) .none f11)
  (a12:hF K "need_word" (top 50) .none f12)
  (a13:hM K jU "__init__" "Book.__init__" (inClass (top 49) 0) .none f13)
  (Dz:hM K jU "put" "Book.put" (inClass (top 49) 1) (.ref RJ) RI)
  (JD:hV K RJ 0)
  (a15:hM K jU "need_there" "Book.need_there" (inClass (top 49) 8) .none f15)
  (RT:hM K jU "worth" "Book.worth" (inClass (top 49) 4) .none Dx)
  (a17:hM K jU "words" "Book.words" (inClass (top 49) 3) .none f17)
  (a18:hF K "words_fitting" (top 52) .none f18)
  (a19:hM K jU "fitting" "Book.fitting" (inClass (top 49) 5) .none f19)
  (a20:hF K "_law_open" (top 55) .none f20)
  (a21:hF K "_law_run" (top 56) .none f21)
  (a22:hF K "_law_rows" (top 57) .none f22)
  (a23:hF K "_law_with" (top 58) .none f23)
  (a24:hF K "_law_text" (top 63) .none f24)
  (a25:hF K "_law_letter" (top 61) .none f25)
  (a26:hF K "put_word" (top 27) .none f26)
  (a27:hF K "_law_put" (top 68) .none f27)
  (a28:hF K "_law_filled" (top 62) .none f28)
  (a29:hF K "_law_given" (top 66) .none f29)
  (a30:hF K "_law_words" (top 64) .none f30)
  (a31:hF K "_law_left" (top 67) .none f31)
  (a32:hF K "_law_good" (top 59) .none f32)
  (a33:hF K "_law_floor" (top 60) .none f33)
  (a34:hF K "crossings_on" (top 39) .none f34)
  (a35:hF K "crossings_of" (top 38) .none f35)
  (a36:hM K qR "__init__" "Ground.__init__" (inClass (top 35) 0) .none f36)
  (a37:hM K qR "narrowed" "Ground.narrowed" (inClass (top 35) 1) .none f37)
  (a38:hM K nj "__init__" "Standing.__init__" (inClass (top 36) 0) .none f38)
  (a39:hM K nj "left" "Standing.left" (inClass (top 36) 3) .none f39)
  (a40:hM K nj "narrowest" "Standing.narrowest" (inClass (top 36) 2) .none f40)
  (a41:hM K nj "filled" "Standing.filled" (inClass (top 36) 5) .none f41)
  (a42:hM K nj "after" "Standing.after" (inClass (top 36) 1) .none f42)
  (a43:hF K "first_standing" (top 37) .none f43)
  (a44:hM K nj "ceiling" "Standing.ceiling" (inClass (top 36) 4) .none f44)
  (a45:hM K nr "__init__" "Cases.__init__" (inClass (top 31) 0) .none f45)
  (a46:hF K "bounding_paper" (top 42) .none f46)
  (a47:hF K "turned" (top 15) .none f47)
  (a48:hF K "rows_through" (top 24) .none f48)
  (a49:hF K "need_floor" (top 23) .none f49)
  (a50:hF K "_law_turn" (top 72) .none f50)
  (a51:hF K "_law_all" (top 73) .none f51)
  (a52:hF K "best" (top 41) .none f52)
  (a53:hF K "_law_sum" (top 75) .none f53)
  (a54:hF K "_law_bounded" (top 76) .none f54)
  (a55:hF K "_law_walked" (top 70) .none f55)
  (a56:hF K "_law_worths" (top 65) .none f56)
  (a57:hF K "_law_book" (top 74) .none f57)
  (a58:hF K "_law_is_filling" (top 69) .none f58)
  (a59:hF K "_law_agreeing" (top 71) .none f59)
  (JE:hF K "law" (top 77) .none f60)
  {aeh:Tok}(aei:nsIn K mainGlobals "SHUT"=some (some (.str "#" aeh)))
  {aek:Nat}{aem aen:Tok}
  (aeo:nsIn K mainGlobals "ACROSS"=some (some (.ref RU)))
  (aep:K.lookup RU=some ⟨.type "tuple",aej,.seq #[.int 0 aem,.int 1 aen] aek,ael⟩)
  {aer:Nat}{aet aeu:Tok}
  (aev:nsIn K mainGlobals "DOWN"=some (some (.ref RV)))
  (aew:K.lookup RV=some ⟨.type "tuple",aeq,.seq #[.int 1 aet,.int 0 aeu] aer,aes⟩)
  {aex:Tok}(aey:nsIn K mainGlobals "LETTERS"=some (some (.str "abcdefghijklmnopqrstuvwxyz" aex)))
  {aez:Tok}(aeA:nsIn K mainGlobals "LEAST_LETTERS"=some (some (.int 2 aez)))
  {aeB:Tok}(aeC:nsIn K mainGlobals "MOST_LETTERS"=some (some (.int 9 aeB)))
  {aeD:Tok}(aeE:nsIn K mainGlobals "FREE"=some (some (.str "." aeD)))
  (wA:kitOne K (.ref nr) (.ref il)=some false)
  (wC:kitOne K (.ref nr) (.ref JC)=some false)
  (zB:hZ K "len"/\hZ K "range"/\hZ K "tuple"/\hZ K "list"/\hZ K "str"/\hZ K "isinstance"/\hZ K "all"/\hZ K "sorted"/\hZ K "enumerate"/\hZ K "zip"/\hZ K "sum"/\hZ K "dict"/\hZ K "min"/\hZ K "reversed"/\hZ K "max"/\hZ K "bool"/\hZ K "int"/\hZ K "set")
  (RW:specialIn K (.builtin "object.__class__") "__get__"=some (some (.builtin "getset_descriptor.__get__"))) (RX:takesIn K (.builtin "object.__class__")=some true)
  (aeF:plainGet K il Str.empty=true) (aeG:hasDictIn K il=true) (aeH:plainOver K il=true) (aeI:findIn K (.ref il) "__setattr__"=some (some (.builtin "object.__setattr__")))
  (aeJ:findIn K (.ref il) "__class__"=some (some (.builtin "object.__class__"))) (aeK:mroIn K il (.type "object")=some true)
  (aeL:findIn K (.ref nr) "__class__"=some (some (.builtin "object.__class__"))) (aeM:mroIn K nr (.type "object")=some true)
  (aeN:specialIn K (.ref Dx) "__get__"=some (some (.builtin "function.__get__"))) (aeO:takesIn K (.ref Dx)=some false)
  : ∃fd:FuncData,(∀(s:Shared) (v:Value),BindsTo s fd ⟨[v],[]⟩ [("_law_script",v)])/\∀base:Heap,K.In base->base.Ns mainGlobals mg->aO l.prog w K mg base aR 23 fa fd ["_law_script"] (Dp K):=by
 obtain⟨Dz,RY,afV,afW,afX,afY,afZ,af0,af1,af2,af3,l14,c14,JF⟩:=Dz
 obtain⟨_,_,_,_,JD⟩:=JD
 obtain⟨JE,af4,af5,aeP,aeQ,aeR,aeS,aeT,aeU,af6,l60,c60,k60⟩:=JE
 have e:=hfa.symm.trans (j1 X G JE)
 cases e
 obtain⟨aeV,aeW,aeX,aeY,aeZ,ae0,ae1,ae2,ae3,ae4,ae5,ae6,ae7,ae8,ae9,afa,afb,afc⟩:=zB
 have B:Bl mg:=⟨gN X G aeV,gN X G aeW,gN X G aeX,gN X G aeY,gN X G aeZ,gN X G ae0,gN X G ae1,gN X G ae2,gN X G ae3,gN X G ae4,gN X G ae5,gN X G ae6,gN X G ae7,gN X G ae8,gN X G ae9,gN X G afa,gN X G afb,gN X G afc⟩
 have F0:Cn mg "SHUT" (.str "#"):=⟨_,j1 X G aei,_,rfl⟩
 have F9:BA K mg "ACROSS" [.int 0,.int 1]:=⟨_,⟨_,j1 X G aeo,rfl⟩,λH=>.inr ⟨_,_,_,aep,rfl,rfl,(by show 2<=sizeLine;decide),(.cons ⟨_,rfl⟩ (.cons ⟨_,rfl⟩ .nil))⟩⟩
 have Ga:BA K mg "DOWN" [.int 1,.int 0]:=⟨_,⟨_,j1 X G aev,rfl⟩,λH=>.inr ⟨_,_,_,aew,rfl,rfl,(by show 2<=sizeLine;decide),(.cons ⟨_,rfl⟩ (.cons ⟨_,rfl⟩ .nil))⟩⟩
 have Gr:Cn mg "LETTERS" (.str iG):=⟨_,j1 X G aey,_,rfl⟩
 have Gs:Cn mg "LEAST_LETTERS" (.int 2):=⟨_,j1 X G aeA,_,rfl⟩
 have Gu:Cn mg "MOST_LETTERS" (.int 9):=⟨_,j1 X G aeC,_,rfl⟩
 have oh:Cn mg "FREE" (.str "."):=⟨_,j1 X G aeE,_,rfl⟩
 have jr:=RK.cls
 have tU:=RL.cls
 have lP:=RQ.cls
 have DA:=Jz.cls
 have tM:Bq K mg "Short" il:=⟨aed,aee,aef,j1 X G RS⟩
 have wB:Cn mg "Whole" (.ref JC):=⟨_,j1 X G aeg,rfl⟩
 have afd:cD K il:=⟨aeF,aeG,aeH,aeI⟩
 have afe:mD K il:=⟨afd,aeJ,RW,RX,aeK⟩
 have wz:Cn mg "Short" (.ref il):=⟨_,j1 X G RS,rfl⟩
 have RZ:mD K nr:=⟨DA,aeL,RW,RX,aeM⟩
 have kH:Cn mg "Cases" (.ref nr):=⟨_,j1 X G Jz.1,rfl⟩
 have aff:Fy K jU "worth":=⟨⟨Dx,RT.1,⟨aeN,aeO⟩⟩,by decide +kernel⟩
 have DB:uI K "put" "Book.put" (inClass (top 49) 1) RI _ _:=⟨⟨_,_,_,_,_,_,_,_,_,_,rfl,l14,c14,_,_,_,JD⟩,JF⟩
 have b14:=DB.binds (ps:=["self","word","worth"]) (ds:=[]) λ_ _ _ _ _ _ _ _ us _ _ _ hT hl=>by obtain⟨_,_,_,rfl⟩:=xT (P:=λus=>∃a b c,us=[a,b,c]) (λa b c=>⟨a,b,c,rfl⟩) us (by simpa using hl);exact .of_defaults rfl hT rfl rfl rfl
 have Pw:=DB.binds (ps:=["self","word","worth"]) (ds:=[.int 0 _]) λ_ _ _ _ _ _ _ _ us _ _ _ hT hl=>by obtain⟨_,_,rfl⟩:=xS (P:=λus=>∃a b,us=[a,b]) (λa b=>⟨a,b,rfl⟩) us (by simpa using hl);exact .of_defaults rfl hT rfl rfl rfl
 have F60:=AS (st:=(top 77)) l60 c60 k60
 refine⟨fnOf "law" "law" (pJ (top 77)) (kb (top 77)) (aV (top 77)) .none aeQ aeR aeS aeP aeT aeU,λs v=>.of_eq rfl,λbase _ _=>?_⟩
 have oF :=@AE l.prog w K mg base h X G
 have oR :=@RH l.prog w K mg base h X G
 have oM :=@aeb l.prog w K mg base
 have oW :=@aec l.prog w K mg base h X G
 have DC:=oF a0 λ_ F=>Yo B F
 have R0:=oF a1 λ_ F=>Yq F
 have JG:=oF a2 λ_ F=>Ys F F0 R0
 have afg:=oF a3 λ_ F=>Yt B F
 have R1:=oF a4 λ_ F=>YA F afg JG
 have afh:=oF a5 λ_ F=>YD B F JG
 have afi:=oF a6 λ_ F=>YE B F afh
 have R3:=oF a7 λ_ F=>YI F F9 Ga R1 afi
 have afj:=oF a8 λ_ F=>YW F R0
 have afk:=oF a9 λ_ F=>YX B F
 have afl:=oF a10 λ_ F=>Y0 B Gr F
 have afm:=oF a11 λ_ F=>Y5 Gs Gu F afl
 have JH:=oF a12 λ_ F=>Y8 F afm
 have Ji:=oW RK a13 λ_ F=>Zb F jr tT
 have Jj:Mt l.prog w K mg base jU "put" 4 (BN jU) []:=⟨jr,_,_,_,_,⟨Dz,RY,JF⟩,NV DB jr tT JH,b14,.nil⟩
 have af7:Mt l.prog w K mg base jU "put" 4 (BN jU) [.int 0]:=⟨jr,_,_,_,_,⟨Dz,RY,JF⟩,NV DB jr tT JH,Pw,.cons ⟨_,rfl⟩ .nil⟩
 have Gy:=oM jr a15 λ_ F=>Zd F jr tT JH
 have vO:=oM jr RT λ_ F=>Zg F jr tT Gy
 have HQ:=oM jr a17 λ_ F=>Zi B F jr tT
 have afn:=oF a18 λ_ F=>Zm B F oh
 have Ie:=oM jr a19 λ_ F=>Zq B F jr tT afn
 have afo:=oF a20 λ_ F=>Zw B F
 have afp:=oF a21 λ_ F=>Zx F afo
 have DD:=oF a22 λ_ F=>Zz B F afp
 have DE:=oF a23 λ_ F=>ZJ B F
 have zN:=oF a24 λ_ F=>ZM F
 have R4:=oF a25 λ_ F=>ZN F DC
 have afq:=oF a26 λ_ F=>ZO B F afk
 have JI:=oF a27 λ_ F=>ZS B F DE
 have afr:=oF a28 λ_ F=>Z3 B F DE R4
 have afs:=oF a29 λ_ F=>Z8 B F DE
 have aft:=oF a30 λ_ F=>aak B F DC DD zN R4
 have JJ:=oF a31 λ_ F=>aaB B F zN
 have afu:=oF a32 λ_ F=>aaO B F DD
 have afv:=oF a33 λ_ F=>aaQ B F DE afu
 have afw:=oF a34 λ_ F=>abd F
 have afx:=oF a35 λ_ F=>abj B F afw
 have Ig:=oW RL a36 λ_ F=>ab4 B F tU RM Jy RN RO RP R3 afx HQ vO
 have HH:=oM tU a37 λ_ F=>abw F tU RP
 have vK:=oW RQ a38 λ_ F=>aby F lP Dy zL zM
 have vY:=oM lP a39 λ_ F=>abD F lP zL zM
 have vW:=oM lP a40 λ_ F=>abF B oh F lP zL zM
 have vX:=oM lP a41 λ_ F=>abK B F lP tU Dy zL RM Jy afq
 have vZ:=oM lP a42 λ_ F=>abT B oh F lP tU Dy zL zM RN vK HH
 have afy:=oF a43 λ_ F=>aca B F tU jr Jy afj Ie vO aff Ig vK
 have vV:=oM lP a44 λ_ F=>aci B F lP tU zM Dy RO
 have wa:=oW Jz a45 λ_ F=>ack B F DA JA JB
 have afz:=oR a46 λ_ F hm hk hb=>QK B F hm hk hb vV vW vX vY vZ tM wa 17
 have afA:=oF a47 λ_ F=>acU B F
 have afB:=oF a48 λ_ F=>acY F R3
 have afC:=oF a49 λ_ F=>ac4 F afA R1 JG afB
 have afD:=oF a50 λ_ F=>adb B F JJ zN
 have afE:=oR a51 λ_ F hm hk hb=>Q4 B F hm hk hb afD JI 10
 have afF:=oF a52 λ_ F=>adx F afC afy afz
 have R5:=oF a53 λ_ F=>adF B F zN
 have afG:=oR a54 λ_ F hm hk hb=>Ri B F hm hk hb wz kH afe RZ wA DA JA JB JJ JI R5 17
 have afH:=oR a55 λ_ F hm hk hb=>Rj (CH:=il) B F hm hk hb wB kH RZ wC DA JA JB JJ JI 17
 have afI:=oF a56 λ_ F=>adN B F DC
 have afJ:=oF a57 λ_ F=>adQ F Ji Jj
 have afK:=oF a58 λ_ F=>adV B F DD zN
 have afL:=oF a59 λ_ F=>adW B F
 exact ad0 B F60 DC afv afr aft afI afs DD afE afJ afF afH afL afK R5 afG
theorem walk{l:OpenLaw}{K:Params->Frag}(hn:l.most=some 63)(xD:d.params.defaults=[])
  (hY:∀(w:World) (h:Heap),YP w h->(K w.params).In h)
  (F:∀(w:World) (mg:Str->Option Value) (fa:Addr) (h:Heap),(K w.params).In h->h.Ns mainGlobals mg->mg d.name=some (.ref fa)->
   ∃fd:FuncData,(∀(s:Shared) (u:Value),BindsTo s fd ⟨[u],[]⟩ [("_law_script",u)])/\∀base:Heap,(K w.params).In base->base.Ns mainGlobals mg->aO l.prog w (K w.params) mg base aR 23 fa fd ["_law_script"] (Dp (K w.params))) :
  PySem.W.WalkO q loose XP YP l.row.toRowW d [] (λf vs=>PySem.call f vs):=
 L2.Vh (n:=63) (k:=23) (x:="_law_script") (CX:=λ_=>aR) (sp:=λw=>Dp (K w.params)) hn (by decide) xD ⟨rfl,by decide,by decide,rfl⟩ hY F (λ_ _ a ns hl _ hS=>⟨a,ns,rfl,hS,hl,λ_=>rfl⟩) λ_ _ _ _ _ z=>z
end Cw
open L2 in
noncomputable def PySem.W.Fast:=V
where
tw11487624063683600416:=V
tw5017033701144671296:=V
tw9844588127380794432:=V
tw6845532429994162272:=V
tw16395560800638545120:=V
tw12003400039844207936:=V
tw8647488261961901376:=V
tw13670888158562717024:=V
tw18052515780370706784:=V
tw13751207310892252512:=V
tw7675325080389798240:=V
tw4634848268688409984:=V
tw225043432517618080:=V
tw6958449300408239552:=V
tw6163749403934527936:=V
tw11330841528508593600:=V
tw11066109897966762432:=V
tw15124255613321751168:=V
tw13694770830780282528:=V
tw13114058880226816672:=V
tw10254736912564443840:=V
tw17532908393788333760:=V
tw5902338787454712512:=V
tw7569344636568109792:=V
tw17515682913642420992:=V
tw12501146053364444928:=V
tw12318731988588031744:=V
tw18221794896453353248:=V
tw12204305812285000512:=V
tw11524484947387809728:=V
tw15768259909005073376:=V
tw16476920274845863105:=V
tw7361227954472166753:=V
tw17839658071520687489:=V
tw14766134028059503009:=V
tw2748437925924863393:=V
tw15180827508887399873:=V
tw4046094874625469889:=V
tw2849933578988324417:=V
tw1640556534057091649:=V
tw10962838489593266881:=V
tw5581580978788344545:=V
tw9606286609359021793:=V
tw9799916456806846209:=V
tw14222080935567341313:=V
tw7656966618929439521:=V
tw2229590111584794401:=V
tw7399867185373491009:=V
tw11892005345791961921:=V
tw1004022071003624321:=V
tw12360823619231479713:=V
tw7110696074817994786:=V
tw940534762014516258:=V
tw2353559369136141346:=V
tw1444828567622099106:=V
tw11335363145377790114:=V
tw13984317944061081794:=V
tw15804526319042419906:=V
tw15060415309228770530:=V
tw5167116698675680546:=V
tw10397436427998301506:=V
tw5639961233641999778:=V
tw2885061277449907682:=V
tw5041169083869396514:=V
tw9621938601383963298:=V
tw285193019159917218:=V
tw7861069251602079394:=V
tw5657692705818614466:=V
tw2678975659337833154:=V
tw11816896436095280834:=V
tw10051500898721408738:=V
tw12327704406043493122:=V
tw10247309233602935554:=V
tw1902989380148697890:=V
tw811087362853025570:=V
tw152981306089724706:=V
tw8130484103786535778:=V
tw6630743776686080962:=V
tw16189823347150983171:=V
tw6309223826492586083:=V
tw4082526303084113091:=V
tw17388376037607009475:=V
tw13855167290820169955:=V
tw11351229323195049315:=V
tw4179954491314580867:=V
tw5217650518583329155:=V
tw10793267031375058339:=V
tw4540997839368760771:=V
tw5687560555851952579:=V
tw12562401487398052355:=V
tw4875906928227340803:=V
tw304347663103232547:=V
tw9813541439465372227:=V
tw7772710510303461987:=V
tw17824420750854331043:=V
tw3293775150693570211:=V
tw2401475181713096419:=V
tw6136702267156656931:=V
tw16746244121128522563:=V
tw7521452438149620547:=V
tw14689885501856555971:=V
tw12977492649093048259:=V
tw7996075326821862404:=V
tw920893890355439620:=V
tw15272604334092471332:=V
tw6738501898332498980:=V
tw9587408308829514788:=V
tw15124186711022268452:=V
tw6183843525328662628:=V
tw105307705311334564:=V
tw8035161410491359428:=V
tw10308827059536097508:=V
tw10312360791561350404:=V
tw8352697669875384612:=V
tw12565720751652884772:=V
tw7985345021677177188:=V
tw13437327006387862884:=V
tw15577057208193400196:=V
tw7758271811158065700:=V
tw15073131352731634212:=V
tw3854521820316364484:=V
tw18298184561371638532:=V
tw5731011668279290660:=V
tw10733398000519950148:=V
tw4151688210705899364:=V
tw11696502508682598276:=V
tw6195950042822245252:=V
tw2785234082002259876:=V
tw579243033786988516:=V
tw9901644297796909028:=V
tw3258773485863075877:=V
tw7202149330071494693:=V
tw1704689827577610309:=V
tw17093435071690994757:=V
tw13098750730510699685:=V
tw8755244833082739941:=V
tw1578008594991383845:=V
tw13366411751831915813:=V
tw7335775054520484165:=V
tw18137258793667388741:=V
tw14269950908273503621:=V
tw15154669358038240709:=V
tw13562182603920205253:=V
tw7122048903666692549:=V
tw8504850967133850085:=V
tw14664122964699146821:=V
tw10937487015833776773:=V
tw13835222274320172709:=V
tw575093298068982437:=V
tw16325284019513730757:=V
tw1451345689560885957:=V
tw4931440104587416261:=V
tw6609622461511196357:=V
tw1873492978580725477:=V
tw16579544728884223717:=V
tw15743760943713145573:=V
tw7064358218477496037:=V
tw9384166162385700613:=V
tw5387359591574280965:=V
tw10877497831891591941:=V
tw11760708775914923781:=V
tw10243752158247846725:=V
tw1242551117964046149:=V
tw17514695666795441989:=V
tw18446643785728752485:=V
tw14466583137407450053:=V
tw14784112848089454565:=V
tw4463841749271685126:=V
tw11082595083616834566:=V
tw5699709098385532038:=V
tw1880730109459308710:=V
tw2319259440606701734:=V
tw16419907359752964294:=V
tw9026046774676820198:=V
tw3248765396207699206:=V
tw16977571651632810342:=V
tw3137508387343305094:=V
tw4089902462247615910:=V
tw15031606286946988454:=V
tw15035441969663178182:=V
tw8501146359935035878:=V
tw2186616137031408230:=V
tw15149333715458518822:=V
tw8610887435056009030:=V
tw16803547056490832742:=V
tw14513943548355309414:=V
tw8581447816035489670:=V
tw17677235605327715270:=V
tw4890328562845635526:=V
tw2332425823429845958:=V
tw16677057321810553863:=V
tw2487138968466615303:=V
tw780330592572113991:=V
tw18201227150333881479:=V
tw7280136078125042855:=V
tw13098682906590063847:=V
tw16601529081935563111:=V
tw1789660625851688423:=V
tw16691351089066645031:=V
tw8005431255875248711:=V
tw6754748587664148071:=V
tw749999358632364679:=V
tw16950709442714347175:=V
tw16587367251297905351:=V
tw18099338245176169191:=V
tw3094387216824508135:=V
tw14370587201368463111:=V
tw383359640215078663:=V
tw5130418097492826919:=V
tw15515589557502461735:=V
tw395147181881160519:=V
tw15461797292897995623:=V
tw12333855575879176071:=V
tw15626989200100765607:=V
tw344442965226874791:=V
tw17686508959146907591:=V
tw9627321625201971208:=V
tw7934641206456878184:=V
tw9861332540813273192:=V
tw8245680843565198504:=V
tw579919390926991560:=V
tw16758849286388917480:=V
tw5867395393239638280:=V
tw4819241841849670088:=V
tw15734584183962557896:=V
tw14891605905276777992:=V
tw9803401382934080168:=V
tw10696464045640411848:=V
tw14604766690359102216:=V
tw9243822029567976264:=V
tw7889053359199726440:=V
tw11837645351298315112:=V
tw3204848900288561064:=V
tw16475870912838178760:=V
tw15447838590050566088:=V
tw22453241166514185:=V
tw2986950254039121961:=V
tw3137383049032061001:=V
tw4444852220954283081:=V
tw15449255674503381097:=V
tw16623217599884380329:=V
tw9549361085043431625:=V
tw4543251363919919401:=V
tw6435404610472244681:=V
tw13457882985771432393:=V
tw3448007001504950857:=V
tw9089392967618840329:=V
tw3456693011155388297:=V
tw16187947380721796041:=V
tw4047510311231278025:=V
tw4312952281944997898:=V
tw15048744902442936362:=V
tw11197765825187908682:=V
tw6798107505871604842:=V
tw13330971404075542666:=V
tw14518566850755048586:=V
tw10214488896694606986:=V
tw14479131261723650218:=V
tw3054568665478701322:=V
tw5817911840911943946:=V
tw13608103570776141194:=V
tw10835027228057301450:=V
tw16117135453304255946:=V
tw12501361221452731882:=V
tw85841807166683850:=V
tw2189534251475878634:=V
tw12927931301969433354:=V
tw7845420330895591178:=V
tw5174368554481147722:=V
tw14319683203448549290:=V
tw6534145027656058794:=V
tw10667218389756147658:=V
tw304804814744225770:=V
tw7740153373894697962:=V
tw3312540840525231082:=V
tw9308111940258188299:=V
tw7236763706184473643:=V
tw9416584396828762251:=V
tw17309933447397427371:=V
tw14215099871644821707:=V
tw2521842521509265643:=V
tw11075674041164987755:=V
tw5616500772639481227:=V
tw11316411201735789995:=V
tw13736267196222592459:=V
tw57065348315407083:=V
tw5687957343674983147:=V
tw13511158712738925355:=V
tw5131436786733125515:=V
tw6164685902045989771:=V
tw9561856410568938411:=V
tw2057619949083355051:=V
tw16213973558002384843:=V
tw11479015772565873676:=V
tw16809631158842305580:=V
tw891314564536789036:=V
tw7519941631508302956:=V
tw13308946270095557804:=V
tw3995423730658764972:=V
tw6969240249903241420:=V
tw16562806876437694700:=V
tw762656085132693772:=V
tw18147531664051409196:=V
tw2626811992191094060:=V
tw6878200908460349804:=V
tw36825776736433548:=V
tw13587988695250364876:=V
tw2587195252338979308:=V
tw3761559646068678156:=V
tw9795761114552260108:=V
tw3313554958049728108:=V
tw7512044088746412684:=V
tw4927702533954853548:=V
tw17103570481000872620:=V
tw17690651656715708172:=V
tw6610127199553986380:=V
tw10484556742503505772:=V
tw5943543279261374348:=V
tw13959015188679446444:=V
tw3940244712722821133:=V
tw4788642856821637197:=V
tw1472493486348038285:=V
tw16517327668733056237:=V
tw3209515396546517229:=V
tw16887832690329807117:=V
tw8300032412516562221:=V
tw1118066218331241869:=V
tw2656104066059511213:=V
tw10030397046408607149:=V
tw4174149285136099853:=V
tw15123947153302925901:=V
tw9736209506105185901:=V
tw14345305787396010637:=V
tw14424263915029223053:=V
tw16394343946847894189:=V
tw1536494235196961485:=V
tw9536488620352782029:=V
tw18076307342530619149:=V
tw8990496273139398445:=V
tw5874106654763417517:=V
tw12994314719728646093:=V
tw6982092648863579117:=V
tw1453075442120767534:=V
tw2900279274630861870:=V
tw12813411504382381134:=V
tw9836707650880780398:=V
tw9085853881718562990:=V
tw4366350721851774222:=V
tw3616953029403020654:=V
tw17543033897937451406:=V
tw9895355245464801678:=V
tw3344587785413814734:=V
tw9275080942492088814:=V
tw9322567007770790478:=V
tw6714251311983092366:=V
tw940209436185483950:=V
tw16053819004642163406:=V
tw8548391352495924014:=V
tw7441107736206512974:=V
tw961685314801748814:=V
tw6523951448859485038:=V
tw16800417715440594798:=V
tw17171284183191797614:=V
tw12331719106127643598:=V
tw17939858619740726254:=V
tw7418546958926867438:=V
tw17116541707963467791:=V
tw9046684820277462095:=V
tw6796258480872603823:=V
tw5494144628424167663:=V
tw1189178543158208783:=V
tw9128155320337804559:=V
tw14274795501497213263:=V
tw13023289100713954735:=V
tw15687349712547217871:=V
tw4886447369004633551:=V
tw13641887786534090383:=V
tw747897806263522991:=V
tw14968762797541285583:=V
tw14819020576882752239:=V
tw6434302038227858223:=V
tw11714849291125335887:=V
tw18015079907089272655:=V
tw16256240098843613039:=V
tw3161536695421974511:=V
tw9771861972625930352:=V
tw16715637259171751056:=V
tw2000868463847561392:=V
tw12856091420436079824:=V
tw12863826380404945136:=V
tw2687806797964632368:=V
tw8836672537409615152:=V
tw587466914052674896:=V
tw4689535113980339536:=V
tw240310794541601136:=V
tw8996492660804158896:=V
tw5856843247680791984:=V
tw11645485507301421488:=V
tw4116946652103664080:=V
tw16244501149293501040:=V
tw14414132812909789840:=V
tw14501597957000261264:=V
tw7889061379561625264:=V
tw5034965735370772176:=V
tw17312622473047336656:=V
tw10263472577870071568:=V
tw4968186534322881296:=V
tw11683060658384855824:=V
tw3922859176759423760:=V
tw3650052110683427632:=V
tw6780339213273428784:=V
tw10259511276743070544:=V
tw15496646651186315088:=V
tw8314395757277176720:=V
tw9099802324469785520:=V
tw17694922945479832560:=V
tw8779485061485124657:=V
tw11174862293650843857:=V
tw13696448507738031345:=V
tw12815153031967116529:=V
tw3944089415976037617:=V
tw16414276791719651665:=V
tw4705857316589693297:=V
tw18319930434065223057:=V
tw16736709287256270321:=V
tw18266222440014305809:=V
tw8667471288460106257:=V
tw17758271604994086449:=V
tw17551330997786616433:=V
tw10980923032882729585:=V
tw14267975694743393905:=V
tw18229807935316061841:=V
tw14082291628450286353:=V
tw5536233316498473777:=V
tw14167864962722286385:=V
tw11111059222060467025:=V
tw17745571150575622065:=V
tw5679531597136527281:=V
tw15581576991859129362:=V
tw15764489817439880210:=V
tw1651412451626375186:=V
tw3825489622773205074:=V
tw4678060160564335698:=V
tw3231861823159731346:=V
tw5846952819850849522:=V
tw4742630703762774290:=V
tw18245599791174797586:=V
tw9141066217653561682:=V
tw8543464795203046770:=V
tw2359343287652236658:=V
tw14914648153367636338:=V
tw16436644634625864082:=V
tw1952049921250001426:=V
tw2274090928803784210:=V
tw11825907217447279122:=V
tw1017430826447568466:=V
tw10253094584655223378:=V
tw15632553891185122930:=V
tw15011232090314240658:=V
tw310609048072169266:=V
tw16186627250087886674:=V
tw6902201762915501010:=V
tw6194389257901126642:=V
tw9543767044539980819:=V
tw11305345062195760179:=V
tw3401287746457850035:=V
tw2120379674229214451:=V
tw11452034326032978163:=V
tw11840085011878118707:=V
tw8818798438427934003:=V
tw13727284131410526515:=V
tw5343194012128746867:=V
tw14812753042821075347:=V
tw11768152703644034451:=V
tw8593072188541412787:=V
tw7068668379521267123:=V
tw8418152477589055955:=V
tw9655423704324557299:=V
tw14083435080179482099:=V
tw7224571027156842035:=V
tw18089794709278781043:=V
tw17261079499275170451:=V
tw15489380028754128595:=V
tw17173042479107246867:=V
tw9403628653124476723:=V
tw18285780499140930419:=V
tw17973291035744523187:=V
tw6846352535044593651:=V
tw16840385651161270292:=V
tw1465242604754228244:=V
tw5288542410972885076:=V
tw5492582467833013428:=V
tw18165533535500611764:=V
tw10218298417190832340:=V
tw14352162564327817428:=V
tw3188142009030485364:=V
tw4508337477313916276:=V
tw14968206809320263092:=V
tw11630224886352955892:=V
tw7163875169431203348:=V
tw17904435673291722292:=V
tw6695967742236124724:=V
tw13418854552604404340:=V
tw3663721331601423060:=V
tw10325148342010414836:=V
tw10419753799678337812:=V
tw606918649536909108:=V
tw13275913082582683476:=V
tw5469057230754193300:=V
tw5876150831483290548:=V
tw12629148595789442036:=V
tw2212863315898834101:=V
tw341000400669813941:=V
tw1924901830598192501:=V
tw9812676922354693557:=V
tw1714625306120266197:=V
tw6659505482312076789:=V
tw2606275139483500053:=V
tw2811809015034991189:=V
tw9699711915665348181:=V
tw13257813171504206453:=V
tw9396538769341255349:=V
tw18417638270707876565:=V
tw12969884486368916181:=V
tw4274749496614969109:=V
tw5015176963850790677:=V
tw8975344778249653109:=V
tw8616020143449363317:=V
tw5421992564283085749:=V
tw5493593846584091573:=V
tw16579326206503660501:=V
tw16921603069478251477:=V
tw1459325859349483477:=V
tw6521198068607688790:=V
tw1948008979228385398:=V
tw5722765788049537270:=V
tw13013848330211303702:=V
tw7010215611031933206:=V
tw14870437809731747126:=V
tw668591662223941942:=V
tw5271846785575291222:=V
tw3486893998923720022:=V
tw15560981258442524054:=V
tw14123528068254850454:=V
tw5036614182944382390:=V
tw18297360522594119094:=V
tw2617388755520649750:=V
tw13883476361653107286:=V
tw1179685679463883606:=V
tw12091484409835896790:=V
tw13946784700633078807:=V
tw1882961323648303159:=V
tw16481655423495849111:=V
tw12187280456738205943:=V
tw7159542012324118807:=V
tw3490497179498219831:=V
tw15303620192089378103:=V
tw5614389974172661047:=V
tw14471559985311204695:=V
tw10947802580504021399:=V
tw12378715917981117847:=V
tw14193034495113821591:=V
tw4885746428941408695:=V
tw17540503569215778231:=V
tw5906329381450634775:=V
tw13608598166475129431:=V
tw1139791731443582551:=V
tw15346920290292317975:=V
tw11001742144176336759:=V
tw4353428309798737847:=V
tw3512062413574544440:=V
tw3863800005560070200:=V
tw478916573369476280:=V
tw12125000439617730744:=V
tw9282754902655971576:=V
tw8655273159725920568:=V
tw5658039274069670200:=V
tw3892181944451200408:=V
tw4623898740020138424:=V
tw15004759941789306392:=V
tw7564887894777418264:=V
tw2835890141703351992:=V
tw14197262075636026072:=V
tw14819969554197610232:=V
tw15452862490302069528:=V
tw12519848367243029272:=V
tw4505843161183736632:=V
tw16535023405389771576:=V
tw102384154049738584:=V
tw18296794757494505336:=V
tw13929660926120806296:=V
tw11255670961352524728:=V
tw73091636864199705:=V
tw14924185762945524761:=V
tw2276952023633821753:=V
tw18322475728240166073:=V
tw14817796112108814553:=V
tw4255033293593916633:=V
tw7453188388376177881:=V
tw2550794532615013657:=V
tw8412900529831548217:=V
tw12041667644487532921:=V
tw7734846728619504025:=V
tw8671955073532380569:=V
tw2981580019446652377:=V
tw11498235530955194905:=V
tw10910857388931277401:=V
tw16831726354867158617:=V
tw17335720897698484921:=V
tw7668306466825208537:=V
tw9285247040019964633:=V
tw14050819788649361209:=V
tw14642237072279543641:=V
tw12159167563425268569:=V
tw14442029154795582297:=V
tw3063344171386071929:=V
tw8978380107493963641:=V
tw3312208341292436377:=V
tw16238254732379983801:=V
tw1748578804765422521:=V
tw847856174785499194:=V
tw17479452692233081914:=V
tw16474107360238616730:=V
tw14661228150256441562:=V
tw7143436391648279802:=V
tw9379691301159857402:=V
tw11073070412578114970:=V
tw1856847418474298906:=V
tw11282969606668577338:=V
tw17427752515751026234:=V
tw4554409448044005978:=V
tw5008623258371789402:=V
tw17788969161412685466:=V
tw12602223768900358938:=V
tw6527182149154810682:=V
tw11417222399686837275:=V
tw6487127340660501531:=V
tw9905372916937283675:=V
tw2322833455682088027:=V
tw9594278984404489595:=V
tw10132770435676771739:=V
tw13924471784837146011:=V
tw6593532612713770427:=V
tw5207342591866680795:=V
tw14964351099498971611:=V
tw514484742274464283:=V
tw16128714131933479451:=V
tw10468701944908783163:=V
tw7385675575926393435:=V
tw8565675488477474395:=V
tw13705801037930378875:=V
tw8549909276612289403:=V
tw3491528687637442459:=V
tw8842245126115984315:=V
tw10628408532941261819:=V
tw12222016959070944284:=V
tw15488140064387696700:=V
tw9781470935647992924:=V
tw16315743537163725916:=V
tw15721243578361651388:=V
tw1144789545775578300:=V
tw9717750351210902716:=V
tw6010167029546135868:=V
tw9870746617187891516:=V
tw9961587261850733916:=V
tw17408533081313960284:=V
tw10458753056157676156:=V
tw7783932587633710748:=V
tw2054107952581442204:=V
tw4237446535515572924:=V
tw5860099855756608188:=V
tw13225911755709080284:=V
tw7117628469965134588:=V
tw9267579046792603420:=V
tw2843200924133501756:=V
tw8679616796626111420:=V
tw1534805635738029085:=V
tw15778023363522907293:=V
tw14234575851125721309:=V
tw9945924258867048669:=V
tw16146381981795605757:=V
tw2287892199312725309:=V
tw10182072421577811261:=V
tw17587680147430317405:=V
tw1177891319624824189:=V
tw5064049128194059677:=V
tw17438046875588341149:=V
tw17052798343364405693:=V
tw9544646910551469597:=V
tw869571514285784605:=V
tw17694229377844054685:=V
tw14230134473996520093:=V
tw14358272195415550717:=V
tw14090586563007657757:=V
tw4807410372134534941:=V
tw16545344066964734781:=V
tw16672283741050010461:=V
tw4721878858009433981:=V
tw4603728388629345213:=V
tw6016242756737981:=V
tw7375532783092855741:=V
tw14173381981480266717:=V
tw7621960589947415517:=V
tw8124570380811173918:=V
tw5231969416509506622:=V
tw766000064115854430:=V
tw6766407674558720222:=V
tw18068866427758162174:=V
tw545067278324351230:=V
tw3992350517090778366:=V
tw2857850965042528542:=V
tw16015636278552432926:=V
tw14714781908199200062:=V
tw9727471178226025886:=V
tw8660799418516656638:=V
tw17302020017491237406:=V
tw2459267125766612510:=V
tw14703601055754273342:=V
tw505506864884695614:=V
tw17460999795230042782:=V
tw4478640665916596926:=V
tw17940296849940895454:=V
tw3057999904146829054:=V
tw4599251363941104414:=V
tw10366897026833660798:=V
tw10647592462590663582:=V
tw942001708680293342:=V
tw12357241993908194302:=V
tw4746606228610345982:=V
tw17337681967694057503:=V
tw100258842895971391:=V
tw17430630686814885983:=V
tw13451563637200030943:=V
tw6691643200144645343:=V
tw11747398385229832511:=V
tw1238912438192350623:=V
tw609317322074538495:=V
tw5795501622745482879:=V
tw3951852631804434047:=V
tw13248752896619145919:=V
tw10443939185390890719:=V
tw14443184364151258943:=V
tw497350677228569471:=V
tw9041279476435751839:=V
tw5406735217227194303:=V
tw2288400018624665599:=V
tw7971650767447856604:=V
open PySem PySem.W PyProof.Rows
set_option maxRecDepth 100000 in
set_option maxHeartbeats 0 in
theorem PySem.Challenge.cw_crosswright_k61_whole_best_holds : PySem.Challenge.rw_crosswright_k61_whole_best.Holds := by
  w_on; o_law; k_head; (case hw => w_witness2)
  k_fill
  refine Cw.walk (l := PySem.Challenge.rw_crosswright_k61_whole_best) rfl rfl (fun w h Y => PySem.W.kIn_of Y) ?F
  case F =>
    intro w mg fa h KX G hmg
    apply Cw.all_mk KX G hmg
    repeat (first | (show _ = _; k_is) | apply Cw.hF_mk | apply Cw.hM_mk | apply Cw.hT_mk | apply Cw.hV_mk | apply And.intro | (with_unfolding_all exact rfl) | kernel_rfl)
#print axioms PySem.Challenge.cw_crosswright_k61_whole_best_holds
