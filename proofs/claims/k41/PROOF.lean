import PyProof.Rows.All
import Wide.All
import OpenK.AllK
import Wide.FinOn
import Lean
import PyProof.EqAt
import PyProof.EqKinds
import PyProof.TupleCall
import PyProof.NeKinds
import PyProof.SetRoads
import PyProof.SetNew
import PyProof.TupleKey
import PyProof.AttrMissHeap
import PySem.Challenge.RW_crosswright_k41_whole_fillings
set_option Elab.async false
set_option linter.all false
set_option compiler.extract_closed false
set_option maxRecDepth 100000
section
open PySem PySem.Spec PyProof.Rows PySem.W
def ai:=@wpAny_bind
def aw:=@if_neg
def ax:=@List.length_map
def aA:=@if_pos
def aG:=@decide_eq_true
def aH:=@decide_eq_false
def aM:=@wpAny_pure
def aP:=@Nat.le_refl
def bc:=@List.size_toArray
def bf:=@Heap.lt_size
def bg:=@List.getElem?_eq_getElem
def bh:=@Nat.ne_of_lt
def bo:=@Ne.symm
def bu:=@List.getElem?_map
def bz:=@Heap.get?_push_of_some
def bC:=@Nat.zero_le
def bD:=@PySem.W.mg_of
def bE:=@List.mem_of_getElem?
def bL:=@List.mem_cons_self
def bO:=@Nat.le_trans
def bP:=@List.mem_map
def bQ:=@List.getD_eq_getElem?_getD
def bS:=@List.mem_cons
def bX:=@List.map_cons
def cg:=@List.mem_cons_of_mem
def cj:=@Bool.false_ne_true
def cn:=@List.getElem?_eq_some_iff
def cB:=@Heap.get?_push_size
def cI:=@List.mem_singleton
def cL:=@PassesOwn.never
def cR:=@List.mem_filter
def dg:=@List.length_cons
def dm:=@Option.some.inj
def du:=@List.mem_append
def dw:=@List.length_append
def dy:=@List.getElem?_eq_none
def dY:=@Int.toNat_natCast
def dZ:=@Bool.and_eq_true
def d5:=@List.filter_cons
def eD:=@congrArg
def eK:=@List.map_append
def ff:=@of_decide_eq_true
def fE:=@List.mem_append_right
def fF:=@List.nodup_cons
def fG:=@if_false
def fS:=@Nat.lt_of_lt_of_le
def fT:=@List.sum_cons
def gm:=@List.append_nil
def gn:=@Bool.false_eq_true
def gq:=@List.take_add_one
def gr:=@List.not_mem_nil
def gu:=@List.take_of_length_le
def gQ:=@wpAny_holding
def gR:=@Bool.eq_false_iff
def ip:=@List.mem_range
def iq:=@Bool.false_and
def ir:=@Option.map_some
def iu:=@wpAny_field
def iw:=@List.getElem?_of_mem
def iy:=@PySem.W.mg_none_of
def iO:=@Nat.le_succ
def iP:=@Nat.succ_mul
def iQ:=@List.length_filter_le
def iR:=@Nat.mul_one
def jj:=@Paired.length
def jk:=@if_true
def jl:=@Option.map_eq_some_iff
def jm:=@List.nodup_nil
def jn:=@Nat.not_lt_zero
def jo:=@Nat.lt_succ_of_lt
def jq:=@PySem.F.plainAttrs_list
def jP:=@wpAny_mono
def jQ:=@List.length_take
def jR:=@List.all_eq_true
def jS:=@List.filter_append
def jT:=@PySem.F.slot_list_append
def jU:=@PySem.F.type_list_append
def jV:=@List.map_map
def kF:=@Nat.lt_of_le_of_lt
def kG:=@List.length_range
def kH:=@List.ext_getElem?
def kI:=@wpAny_seqItems
def lI:=@Array.length_toList
def lJ:=@Heap.size_push
def lK:=@List.range_succ
def lL:=@size_push'
def lM:=@Nat.succ_le_succ
def lN:=@List.getElem_mem
def m8:=@beq_iff_eq
def m9:=@PySem.W.kia_one
def nh:=@Heap.get?_update_other
def ni:=@Bool.and_false
def nj:=@Paired.snoc
def nr:=@codeAny_builtin
def nt:=@Int.emod_nonneg
def nv:=@Prod.mk.injEq
def oQ:=@List.mem_append_left
def oR:=@wpAny_truthy_bool
def oS:=@Nat.lt_succ_self
def oU:=@List.replicate_succ
def oV:=@List.append_assoc
def oW:=@Nat.mul_comm
def oX:=@Option.getD_some
def oY:=@List.filter_nil
def oZ:=@wpAny_of_eq
def o8:=@Around.under_plainId
def o9:=@Nat.mul_zero
def qH:=@Nat.lt_irrefl
def qI:=@wpAny_call_entry
def qJ:=@List.getElem?_range
def qK:=@List.take_zero
def qL:=@Nat.zero_add
def qM:=@plainId_quiet
def qN:=@List.nodup_append
def qO:=@Int.emod_lt_of_pos
def qP:=@Int.eq_ofNat_of_zero_le
def qQ:=@Prod.ext
def tf:=@wpAny_pyIter_list
def tj:=@List.length_replicate
def tm:=@Heap.get?_update_self
def tq:=@List.any_cons
def tu:=@List.find?_cons
def tw:=@wpAny_newObj_type
def tE:=@List.all_map
def tF:=@wpAny_rule
def tG:=@F.called_set
def tH:=@Bool.true_and
def vP:=@beq_eq_false_iff_ne
def vQ:=@List.getElem?_set_self
def vR:=@wpAny_passesOwn
def vS:=@PyProof.Rows.callWith_type1
def vT:=@codeAny_mono
def vU:=@wpAny_Call_Name_kw
def vV:=@List.flatten_cons
def vW:=@List.map_nil
def vX:=@Bool.or_eq_true
def vY:=@Bool.and_true
def vZ:=@Txt.slice_le
def wa:=@Heap.SameBut.update
def wb:=@Nat.mul_le_mul
def wc:=@wpAny_letGo
def we:=@or_false
def wg:=@F.plain_min_loop
def wk:=@Bool.not_true
def wm:=@Nat.lt_succ_iff_lt_or_eq
def zc:=@Nat.le_of_lt
def zd:=@List.getElem?_set_ne
def ze:=@Nat.ne_of_gt
def zf:=@Bool.eq_iff_iff
def zg:=@wpAny_call
def zh:=@List.all_cons
def zi:=@tupleKind_room_in1
def zj:=@List.any_eq_true
def zm:=@List.lookup_cons
def zo:=@lookup_relabel_local
def zr:=@Walks.list
def zt:=@wpAny_pyIter_enum
def zu:=@List.filter_map
def zw:=@isSubtype_type
def zE:=@wpAny_attempt
def zF:=@wpAny_callSpecial?_slot
def zG:=@Obj.data_mapFields
def zH:=@wpAny_setField_rec
def zI:=@Nat.le_add_right
def zJ:=@List.mem_of_mem_take
def CM:=@Calls.spliced_cons
def CN:=@PySem.mem_of_lookup
def CO:=@List.getElem?_take_of_lt
def CQ:=@List.length_nil
def CT:=@List.length_drop
def CU:=@List.length_singleton
def CV:=@List.nil_append
def CY:=@wpAny_specialOf
def CZ:=@Int.zero_add
def C1:=@wpAny_setField
def C3:=@List.length_reverse
def C4:=@List.sum_append
def C5:=@List.take_length
def C6:=@wpAny_tryCatch
def C7:=@wpAny_setState_of
def C8:=@Nat.mul_le_mul_right
def C9:=@List.mem_flatMap
def Dc:=@Prod.ext_iff
def De:=@PySem.F.plainAttrs_str
def Df:=@StrLaws.found_one
def Dg:=@List.mem_map_of_mem
def JZ:=@wpAny_execs_nil
def J0:=@wpAny_pyIter_tuple
def J1:=@List.any_eq_false
def J2:=@PySem.W.plainGet_of
def J3:=@List.getElem?_append_right
def Ka:=@List.take_sublist
def Kb:=@wpAny_forIn_list
def Kc:=@List.length_set
def Kd:=@Nat.le_of_not_lt
def Ke:=@List.forIn_cons
def Kf:=@decide_eq_true_eq
def Kg:=@List.range_succ_eq_map
def Kh:=@beq_self_eq_true
def Ki:=@typeLookup_type
def Kj:=@builtinLookup_eq_fast
def Kk:=@wpAny_isInstance
def Kl:=@List.getElem?_reverse
def Km:=@F.slot_zip_next
def Kn:=@F.slot_tuple_iterator_next
def Ko:=@Heap.get?_update_ne
def Kq:=@Array.size_push
def Kr:=@decide_eq_true_iff
def Ks:=@Classical.byContradiction
def Kt:=@List.nodup_range
def Ku:=@List.flatMap_append
def Kv:=@Nat.div_lt_of_lt_mul
def Kw:=@List.mem_or_eq_of_mem_set
def Kx:=@Int.natCast_add
def Ky:=@PySem.F.slot_str_join
def Kz:=@PySem.F.type_str_join
def KA:=@List.count_append
def KC:=@List.count_cons
def KD:=@List.mem_reverse
def UD:=@Array.mem_toList_iff
def UE:=@List.getElem?_replicate
def UG:=@List.getElem?_append_left
def UH:=@Calls.callWith_builtin
def UI:=@Calls.evalArgs_plain
def UJ:=@PySem.F.slot_dict_get
def UK:=@wpAny_comprehension_free
def UL:=@wpAny_pyNext_enum_itemD
def UM:=@wpAny_letOwnedTupleGo_enum
def UN:=@wpAny_pyNext_enum_endD
def UO:=@Obj.isFreed_of_fields
def UP:=@wpAny_updateSeq_pair
def UQ:=@F.slot_list_getattribute
def UR:=@AutoSeq1.wpAny_loadPart'
def US:=@SetTable.insertAt_perm
def UT:=@List.mem_of_mem_drop
def UU:=@List.pairwise_iff_getElem
def UW:=@List.eq_of_mem_replicate
def UX:=@List.filter_eq_nil_iff
end
namespace L2
open PySem PySem.Spec PyProof.Rows
abbrev Key:=Sum Int Str
def ny:Key->Value->Bool
 |.inl k,v=>Value.isInt k v
 |.inr x,v=>Value.isStrOf x v
def UY(w:World):Key->Int
 |.inl k=>hashInt k
 |.inr x=>hashStr w x
theorem jW:∀{k:Key}{v:Value},ny k v=true->(∃i t,k=Sum.inl i/\v=Value.int i t)\/(∃x t,k=Sum.inr x/\v=Value.str x t)
 |.inl i,v,h=>by
  obtain⟨t,e⟩:=Value.isInt_shape (k:=i) (v:=v) h
  exact .inl ⟨i,t,rfl,e⟩
 |.inr x,v,h=>by
  obtain⟨t,e⟩:=Value.isStrOf_shape (x:=x) (v:=v) h
  exact .inr ⟨x,t,rfl,e⟩
theorem UZ(i:Int)(t:Tok):ny (.inl i) (.int i t)=true:=by simp[ny,Value.isInt]
theorem Dh(x:Str)(t:Tok):ny (.inr x) (.str x t)=true:=by simp[ny,Value.isStrOf]
theorem U0(a b:Int):decide ((Sum.inl a:Key)=Sum.inl b)=(a==b):=by
 by_cases e:a=b
 .subst e;simp
 .have h:¬(Sum.inl a:Key)=Sum.inl b:=λq=>e (Sum.inl.inj q)
  rw[aH h]
  exact(vP.mpr e).symm
theorem U1(a b:Str):decide ((Sum.inr a:Key)=Sum.inr b)=decide (a=b):=by
 by_cases e:a=b
 .subst e;simp
 .have h:¬(Sum.inr a:Key)=Sum.inr b:=λq=>e (Sum.inr.inj q)
  rw[aH h,aH e]
theorem U2(a:Int)(b:Str):decide ((Sum.inl a:Key)=Sum.inr b)=false:=aH (λq=>nomatch q)
theorem U3(a:Str)(b:Int):decide ((Sum.inr a:Key)=Sum.inl b)=false:=aH (λq=>nomatch q)
def bN(prog:Program)(w:World):PySem.KeyKind prog w Key where
 is:=ny
 hash:=UY w
 inj:=λv a b ha hb=>by
  rcases jW ha with ⟨i,t,rfl,rfl⟩ | ⟨x,t,rfl,rfl⟩
  .rcases jW hb with ⟨j,u,rfl,e⟩ | ⟨y,u,rfl,e⟩
   .injection e with e1 _;rw[e1]
   .exact nomatch e
  .rcases jW hb with ⟨j,u,rfl,e⟩ | ⟨y,u,rfl,e⟩
   .exact nomatch e
   .injection e with e1 _;rw[e1]
 byValue:=λk v h=>by
  rcases jW h with ⟨i,t,rfl,rfl⟩ | ⟨x,t,rfl,rfl⟩ <;> rfl
 pyHash:=λhv h=>by
  rcases jW hv with ⟨i,t,rfl,rfl⟩ | ⟨x,t,rfl,rfl⟩
  .exact wpAny_pyHash_int h
  .exact wpAny_pyHash_str h
 eqBool:=λhu hv h=>by
  rcases jW hu with ⟨i,t,rfl,rfl⟩ | ⟨x,t,rfl,rfl⟩
  .rcases jW hv with ⟨j,u,rfl,rfl⟩ | ⟨y,u,rfl,rfl⟩
   .rw[U0] at h;exact wpAny_eqBool_int h
   .rw[U2] at h;exact SeqAt.EqAt.int_str i t y u _ _ _ _ h
  .rcases jW hv with ⟨j,u,rfl,rfl⟩ | ⟨y,u,rfl,rfl⟩
   .rw[U3] at h;exact SeqAt.EqAt.str_int x t j u _ _ _ _ h
   .rw[U1] at h;exact wpAny_eqBool_str h
 «strs»:=λk x t v h=>by
  rcases jW h with ⟨i,u,rfl,e⟩ | ⟨y,u,rfl,e⟩
  .exact nomatch e
  .injection e with e1 _
   subst e1
   cases v <;> rfl
theorem U4(prog:Program)(w:World)(i:Int)(t:Tok):(bN prog w).is (.inl i) (.int i t)=true:=UZ i t
theorem U5(prog:Program)(w:World)(x:Str)(t:Tok):(bN prog w).is (.inr x) (.str x t)=true:=Dh x t
inductive V where
 |aD | bl (b:Bool) | int (i:Int) | str (x:Str) | iS (b:Array UInt8) | qR (b:UInt64) | ref (a:Addr) | ty (n:String)
 deriving DecidableEq
def RelV:V->Value->Prop
 |.aD,u=>u=Value.none
 |.bl b,u=>u=Value.bool b
 |.int i,u=>∃t,u=Value.int i t
 |.str x,u=>∃t,u=Value.str x t
 |.iS b,u=>∃t,u=Value.bytes b t
 |.qR b,u=>∃t,u=Value.float b t
 |.ref a,u=>u=Value.ref a
 |.ty n,u=>u=Value.type n
abbrev Vals:List V->List Value->Prop:=Paired RelV
theorem Vals.length{xs:List V}{us:List Value}(r:Vals xs us):xs.length=us.length:=jj r
theorem Vals.get:∀{xs:List V}{us:List Value}{i:Nat}{x:V},Vals xs us->xs[i]? = some x->∃u,us[i]? = some u/\RelV x u
 |_,_,_,_,.nil,e=>by simp at e
 |_,_,0,_,.cons r _,e=>by simp at e;subst e;exact⟨_,rfl,r⟩
 |_,_,i+1,x,.cons _ t,e=>by
  obtain⟨u,h1,h2⟩:=Vals.get (i:=i) (x:=x) t (by simpa using e)
  exact⟨u,by simpa using h1,h2⟩
theorem Vals.set{x:V}{u:Value}(r:RelV x u):∀{xs:List V}{us:List Value}(i:Nat),Vals xs us->Vals (xs.set i x) (us.set i u)
 |_,_,_,.nil=>.nil
 |_,_,0,.cons _ t=>.cons r t
 |_,_,i+1,.cons q t=>.cons q (Vals.set r i t)
theorem Vals.append:∀{xs ys:List V}{us ws:List Value},Vals xs us->Vals ys ws->Vals (xs++ys) (us++ws)
 |_,_,_,_,.nil,s=>s
 |_,_,_,_,.cons r t,s=>.cons r (Vals.append t s)
theorem Vals.take:∀{xs:List V}{us:List Value}(n:Nat),Vals xs us->Vals (xs.take n) (us.take n)
 |_,_,0,_=>.nil
 |_,_,_+1,.nil=>.nil
 |_,_,n+1,.cons r t=>.cons r (Vals.take n t)
theorem Vals.drop:∀{xs:List V}{us:List Value}(n:Nat),Vals xs us->Vals (xs.drop n) (us.drop n)
 |_,_,0,r=>r
 |_,_,_+1,.nil=>.nil
 |_,_,n+1,.cons _ t=>Vals.drop n t
def fH:Option V->Option Value->Prop
 |some v,some u=>RelV v u
 |none,none=>True
 |_,_=>False
def KV{κ:Type}:List (κ×V)->List (κ×Value)->Prop:=Paired λ(p:κ×V) (q:κ×Value)=>p.1=q.1/\RelV p.2 q.2
def kV:Key->V
 |.inl i=>.int i
 |.inr x=>.str x
inductive HO where
 |lst (xs:List V)
 |tup (xs:List V)
 |dK (kvs:List (Key×V)) | dT (kvs:List (List Key×V))
 |set (S:Int->Bool) (n:Nat)
 |ins (C dx:Addr) (fs:List (Str×V))
 |own (x:Addr)
 |xd (fs:List (Str×V))
 |met (f x:Addr)
 |jX (lo hi:Int)
 |d6 (o:Obj) (u:HO)
 |nz (ps:Array Value)
 |ext (φ:Heap->Prop)
abbrev Hp:=Addr->Option HO
def upd(H:Hp)(a:Addr)(o:HO):Hp:=λb=>if b=a then some o else H b
theorem ar{H:Hp}{a:Addr}{o:HO}:upd H a o a=some o:=by unfold upd;rw[aA rfl]
theorem ak{H:Hp}{a b:Addr}{o:HO}(h:b≠a):upd H a o b=H b:=by unfold upd;rw[aw h]
theorem KG{H:Hp}{a:Addr}{o u:HO}:upd (upd H a o) a u=upd H a u:=by
 funext b;unfold upd;split <;> rfl
theorem bY{H:Hp}{a b:Addr}{o u:HO}(h:H a=some o)(h':H b=some u)(d:o≠u):a≠b:=by
 intro e;subst e;rw[h] at h';exact d (dm h')
theorem aZ{H:Hp}{a b:Addr}{o:HO}(h:H a=some o)(h':H b=none):a≠b:=by
 intro e;subst e;rw[h] at h';cases h'
section
variable(P:Program)(w:World)
def cS(H:Hp)(h:Heap)(a:Addr):HO->Prop
 |.lst xs=>xs.length<=sizeLine/\∃(its:List Value) (n:Nat),Vals xs its/\h.get? a=some { cls := .type "list",data := .seq its.toArray n }
 |.tup xs=>xs.length<=sizeLine/\∃its:List Value,Vals xs its/\IsTup h a its.toArray
 |.dK kvs=>kvs.length<=sizeLine/\(a==sysModules)=false/\∃vs,KV kvs vs/\h.DictOf (bN P w) a vs
 |.dT kvs=>kvs.length<=sizeLine/\(a==sysModules)=false/\∃xs:List (List Key×Addr×Value),
   Paired (λ(p:List Key×V) (q:List Key×Addr×Value)=>p.1=q.1/\H q.2.1=some (.tup (p.1.map kV))/\RelV p.2 q.2.2) kvs xs/\
   ∃o es ep,h.get? a=some o/\o.ExactDict/\o.data = .dict es ep/\es.toList=xs.map (entryOfKey (tupleKind (bN P w)))/\(xs.map (·.1)).Nodup
 |.set S n=>h.SetOf (intKind P w) a S n
 |.ins C dx fs=>H dx=some (.own a)/\fs.length<=1000/\dx≠a/\h.get? a=some (PySem.W.instObj C dx)/\
   ∃mA,h.Ns1 dx mA/\(∀f,fH (fs.lookup f) (mA f))/\PySem.Within mA (fs.map (·.1))
 |.own _=>∃o,h.get? a=some o
 |.xd fs=>∃mA,h.Ns1 a mA/\∀f,fH (fs.lookup f) (mA f)
 |.jX lo hi=>∃t u v,h.get? a=some { cls := .type "range",data := .fields #[.int lo t,.int hi u,.int 1 v] }
 |.d6 o u=>h.get? a=some o/\cS H h a u
 |.nz ps=>h.get? a=some { cls := .none,data := .fields ps }
 |.met f x=>h.get? a=some (PySem.W.methodObj (.ref f) (.ref x))
 |.ext φ=>φ h/\(∃o,h.get? a=some o)/\∀h1 h2:Heap,φ h1->(∀o,h1.get? a=some o->h2.get? a=some o)->φ h2
def dn(H:Hp)(h:Heap):Prop := ∀a o,H a=some o->cS P w H h a o
end
section
variable{P:Program}{w:World}{H H':Hp}{h h':Heap}{a:Addr}{o:HO}
theorem cS.lt(x:cS P w H h a o):a<h.objs.size:=by
 cases o with
 |lst xs=>obtain⟨_,_,_,_,e⟩:=x;exact bf e
 |tup xs=>obtain⟨_,_,_,p⟩:=x;exact p.lt
 |dK kvs=>obtain⟨_,_,_,_,o,_,_,e,_⟩:=x;exact bf e
 |dT kvs=>obtain⟨_,_,_,_,o,_,_,e,_⟩:=x;exact bf e
 |set S n=>obtain⟨o,_,_,_,e,_⟩:=x;exact bf e
 |ins C dx fs=>obtain⟨_,_,_,e,_⟩:=x;exact bf e
 |own y=>obtain⟨_,e⟩:=x;exact bf e
 |xd fs=>obtain⟨_,⟨_,_,_,e,_⟩,_⟩:=x;exact bf e
 |jX lo hi=>obtain⟨_,_,_,e⟩:=x;exact bf e
 |d6 ob u=>obtain⟨e,_⟩:=x;exact bf e
 |nz ps=>exact bf (show h.get? a=some _ from x)
 |met f y=>exact bf (show h.get? a=some _ from x)
 |ext φ=>obtain⟨_,⟨_,e⟩,_⟩:=x;exact bf e
theorem Paired.bM{α β:Type}{F G:α->β->Prop}:∀{l₁:List α}{l₂:List β},Paired F l₁ l₂->(∀a b,F a b->G a b)->Paired G l₁ l₂
 |_,_,.nil,_=>.nil
 |_,_,.cons r t,f=>.cons (f _ _ r) (Paired.bM t f)
theorem cS.iT(x:cS P w H h a o)(k:∀b u,(b=a\/H b=some (.own a))->h.get? b=some u->h'.get? b=some u)
  (ho:∀b,H b=some (.own a)->H' b=some (.own a)) (ht:∀b xs,H b=some (.tup xs)->H' b=some (.tup xs)):cS P w H' h' a o:=by
 induction o with
 |lst xs=>obtain⟨z,its,n,r,e⟩:=x;exact⟨z,its,n,r,k _ _ (.inl rfl) e⟩
 |tup xs=>obtain⟨z,its,r,ob,e,c⟩:=x;exact⟨z,its,r,ob,k _ _ (.inl rfl) e,c⟩
 |dK kvs=>obtain⟨z,y,vs,r,ob,es,ep,e,c⟩:=x;exact⟨z,y,vs,r,ob,es,ep,k _ _ (.inl rfl) e,c⟩
 |dT kvs=>
  obtain⟨z,y,xs,r,ob,es,ep,e,c⟩:=x
  exact⟨z,y,xs,Paired.bM r λp q z=>⟨z.1,ht _ _ z.2.1,z.2.2⟩,ob,es,ep,k _ _ (.inl rfl) e,c⟩
 |set S n=>obtain⟨ob,es,ep,t,e,c⟩:=x;exact⟨ob,es,ep,t,k _ _ (.inl rfl) e,c⟩
 |ins C dx fs=>
  obtain⟨d,z,ne,e,mA,⟨od,es,ep,e2,c⟩,r⟩:=x
  exact⟨ho _ d,z,ne,k _ _ (.inl rfl) e,mA,⟨od,es,ep,k _ _ (.inr d) e2,c⟩,r⟩
 |own y=>obtain⟨ob,e⟩:=x;exact⟨ob,k _ _ (.inl rfl) e⟩
 |xd fs=>obtain⟨mA,⟨od,es,ep,e,c⟩,r⟩:=x;exact⟨mA,⟨od,es,ep,k _ _ (.inl rfl) e,c⟩,r⟩
 |jX lo hi=>obtain⟨t,u,v,e⟩:=x;exact⟨t,u,v,k _ _ (.inl rfl) e⟩
 |d6 ob u ih=>obtain⟨e,q⟩:=x;exact⟨k _ _ (.inl rfl) e,ih q⟩
 |nz ps=>
  have e:h.get? a=some { cls := .none,data := .fields ps }:=x
  show h'.get? a=some { cls := .none,data := .fields ps }
  exact k a _ (.inl rfl) e
 |met f y=>
  have e:h.get? a=some (PySem.W.methodObj (.ref f) (.ref y)):=x
  show h'.get? a=some (PySem.W.methodObj (.ref f) (.ref y))
  exact k a _ (.inl rfl) e
 |ext φ=>obtain⟨p,⟨o,e⟩,st⟩:=x;exact⟨st _ _ p λo q=>k _ _ (.inl rfl) q,⟨o,k _ _ (.inl rfl) e⟩,st⟩
theorem dn.lt(x:dn P w H h)(e:H a=some o):a<h.objs.size:=(x a o e).lt
theorem dn.fresh(x:dn P w H h)(e:h.objs.size<=a):H a=none:=by
 cases q:H a with
 |none=>rfl
 |some u=>exact absurd (fS (x.lt q) e) (qH _)
theorem dn.kept(x:dn P w H h)(k:∀b u,h.get? b=some u->h'.get? b=some u):dn P w H h':=λa o e=>
 (x a o e).iT (λb u _ q=>k b u q) (λ_ q=>q) λ_ _ q=>q
theorem dn.laid(x:dn P w H h)(k:∀b u,h.get? b=some u->h'.get? b=some u)(hp:h.objs.size<=a)(new:cS P w (upd H a o) h' a o):dn P w (upd H a o) h':=λb u e=>by
 have hn:=x.fresh hp
 by_cases hb:b=a
 .subst hb;rw[ar] at e;cases e;exact new
 .rw[ak hb] at e
  exact(x b u e).iT (λc v _ q=>k c v q) (λc q=>by rw[ak (aZ q hn)];exact q) λc xs q=>by rw[ak (aZ q hn)];exact q
end
def Rd(H:Hp)(a:Addr)(u:HO):Prop:=H a=some u\/∃o,H a=some (.d6 o u)
theorem Rd.ok{P:Program}{w:World}{H:Hp}{h:Heap}{a:Addr}{u:HO}(r:Rd H a u)(x:dn P w H h):cS P w H h a u:=by
 rcases r with r | ⟨o,r⟩
 .exact x a u r
 .obtain⟨_,q⟩:=x a _ r
  exact q
def wq:Option HO->Prop
 |some (.lst _)=>True
 |some (.dK _)=>True
 |some (.dT _)=>True
 |some (.set _ _)=>True
 |some (.ins _ _ _)=>True
 |some (.ext _)=>True
 |_=>False
section
variable{P:Program}{w:World}{H:Hp}{h h':Heap}{x e:Addr}{o':HO}
theorem dn.write(ok:dn P w H h)(mu:wq (H x))(he:e=x\/H e=some (.own x))(k:∀b u,b≠e->h.get? b=some u->h'.get? b=some u)(tI:∃u,h'.get? e=some u)
  (new:cS P w (upd H x o') h' x o'):dn P w (upd H x o') h':=λb u q=>by
 have KH:∀c y,H c=some (.own y)->c≠x:=λc y r z=>by subst z;rw[r] at mu;exact mu
 have U6:∀c xs,H c=some (.tup xs)->c≠x:=λc xs r z=>by subst z;rw[r] at mu;exact mu
 by_cases hb:b=x
 .subst hb;rw[ar] at q;cases q;exact new
 .rw[ak hb] at q
  by_cases qS:b=e
  .have q':H b=some (.own x):=by
    rcases he with z | z
    .exact absurd (qS.trans z) hb
    .rw[qS];exact z
   rw[q] at q';cases q'
   obtain⟨v,hv⟩:=tI
   exact⟨v,by rw[qS];exact hv⟩
  .refine(ok b u q).iT (λc v hc r=>k c v ?_ r) (λc r=>by rw[ak (KH c b r)];exact r) λc xs r=>by rw[ak (U6 c xs r)];exact r
   rcases hc with rfl | hc
   .exact qS
   .rintro rfl
    rcases he with z | z
    .exact KH c b hc z
    .rw[hc] at z;cases z;exact hb rfl
end
structure Un(fs ex:List Addr)(H H':Hp)(h h':Heap):Prop where
 keep:∀b o,h.get? b=some o->H b=none->b∉fs->b∉ex->h'.get? b=some o
 slot:∀b o,h.get? b=some o->H b=none->b∈fs->b∉ex->∃sl,h'.get? b=some { o with slots:=sl }
 free:∀b o,h.get? b=some o->H b=none->b∉ex->H' b=none
 there:∀b o,h.get? b=some o->b∉ex->∃o',h'.get? b=some o'
 fU:∀b xs,H b=some (.tup xs)->H' b=some (.tup xs)
 jr:∀b o u,H b=some (.d6 o u)->H' b=some (.d6 o u)
 jY:∀b ps,H b=some (.nz ps)->∃more,H' b=some (.nz (ps++more))
section
variable{fs wt ex ex':List Addr}{H H1 H2:Hp}{h h1 h2 h':Heap}{a x e:Addr}{o:HO}
theorem Un.any(u:Un fs ex H H1 h h1){b:Addr}{ob:Obj}(q:h.get? b=some ob)(n:H b=none)(hx:b∉ex):∃sl,h1.get? b=some { ob with slots:=sl }:=by
 by_cases hb:b∈fs
 .exact u.slot b ob q n hb hx
 .exact⟨ob.slots,u.keep b ob q n hb hx⟩
theorem Un.kept(k:∀b u,h.get? b=some u->h'.get? b=some u):Un fs ex H H h h':=
 ⟨λb ob q _ _ _=>k b ob q,λb ob q _ _ _=>⟨ob.slots,k b ob q⟩,λ_ _ _ n _=>n,λb ob q _=>⟨ob,k b ob q⟩,λ_ _ q=>q,λ_ _ _ q=>q,λ_ ps q=>⟨#[],by rw[q];simp⟩⟩
theorem Un.refl:Un fs ex H H h h:=Un.kept λ_ _ q=>q
theorem Un.laid(k:∀b u,h.get? b=some u->h'.get? b=some u)(hp:h.objs.size<=a)(hn:H a=none):Un fs ex H (upd H a o) h h' where
 keep:=λb u q _ _ _=>k b u q
 slot:=λb u q _ _ _=>⟨u.slots,k b u q⟩
 free:=λb u q n _=>by rw[ak (bh (fS (bf q) hp))];exact n
 there:=λb u q _=>⟨u,k b u q⟩
 fU:=λb xs q=>by rw[ak (aZ q hn)];exact q
 jr:=λb u xs q=>by rw[ak (aZ q hn)];exact q
 jY:=λb ps q=>⟨#[],by rw[ak (aZ q hn),q];simp⟩
theorem Un.write(mu:wq (H x))(he:e=x\/H e=some (.own x))(k:∀b u,b≠e->h.get? b=some u->h'.get? b=some u)(tI:∃u,h'.get? e=some u):Un fs ex H (upd H x o) h h':=by
 have hx:∀b,H b=none->b≠x:=λb n z=>by subst z;rw[n] at mu;exact mu
 have hb:∀b,H b=none->b≠e:=λb n z=>by
  subst z
  rcases he with r | r
  .exact hx b n r
  .rw[n] at r;cases r
 have hm:∀b u,H b=some u->¬wq (some u)->b≠x:=λb u q nm z=>by subst z;rw[q] at mu;exact nm mu
 refine⟨λb u q n _ _=>k b u (hb b n) q,λb u q n _ _=>⟨u.slots,k b u (hb b n) q⟩,λb u q n _=>by rw[ak (hx b n)];exact n,λb u q _=>?_,
  λb xs q=>by rw[ak (hm b _ q λz=>z)];exact q,λb u xs q=>by rw[ak (hm b _ q λz=>z)];exact q,λb ps q=>⟨#[],by rw[ak (hm b _ q λz=>z),q];simp⟩⟩
 by_cases qS:b=e
 .subst qS;exact tI
 .exact⟨u,k b u qS q⟩
end
def zK(h:Heap)(H:Hp):List Addr:=(List.range h.objs.size).filter λa=>(H a).isSome
def nA(h:Heap)(H:Hp):Heap:=PySem.W.hideAll h (zK h H)
theorem U7(h:Heap)(H:Hp):(nA h H).objs.size=h.objs.size:=PySem.W.hideAll_size _ _
theorem U8{h:Heap}{H:Hp}{b:Addr}{o:Obj}(e:h.get? b=some o)(n:H b=none):(nA h H).get? b=some o:=
 PySem.W.hideAll_get _ e λhm=>by
  have q:(H b).isSome=true:=(cR.mp hm).2
  rw[n] at q;simp at q
theorem U9{h:Heap}{H:Hp}{b:Addr}{o:Obj}(e:(nA h H).get? b=some o):h.get? b=some o/\H b=none:=by
 have e':h.get? b=some o:=PySem.W.of_hideAll (zK h H) e
 refine⟨e',?_⟩
 cases q:H b with
 |none=>rfl
 |some x=>
  have hm:b∈zK h H:=cR.mpr ⟨ip.mpr (bf e'),by simp[q]⟩
  have z:(nA h H).get? b=none:=PySem.W.hideAll_none (zK h H) hm
  rw[z] at e;cases e
structure Mod(K:PySem.W.Frag)(mg:Str->Option Value)(base:Heap):Prop where
 qT:K.In base
 glob:base.Ns mainGlobals mg
 blt:∃mb,base.Ns builtinsNs mb/\∀x:Str,x≠"__name__"->mb x=bootBuiltins x
 nolimit:base.NoLimit
structure Cx where
 prog:Program
 w:World
 K:PySem.W.Frag
 mg:Str->Option Value
 base:Heap
 A:Around
 N:List Str
 s₀:Shared
 H₀:Hp
 env:Env
 outer:List Env
 stack:List Env
 ex:List Addr
 fn:Str->Bool
 calm:Bool
 pn:List (Addr×Obj)
 xe:Value->Shared->Prop
def jt(l:List Env):List Addr:=l.filterMap (·.frame)
abbrev Cx.fs(X:Cx):List Addr:=jt X.outer
def Di(sc:Scope)(x:Str):Prop:=sc.names.lookup x=some .local\/sc.names.lookup x=some .cell\/sc.names.lookup x=some .free
def Loc(sc:Scope)(x:Str):Prop:=sc.names.lookup x=some .local\/sc.names.lookup x=some .cell
def Look(env:Env)(h:Heap)(m:Str->Option Value)(x:Str)(u:Value):Prop:=
 (env.kindOf x=some .local/\m x=some u)\/((env.kindOf x=some .cell\/env.kindOf x=some .free)/\∃c,env.cells.lookup x=some c/\h.IsCell c (some u))
structure Cx.Ok(X:Cx):Prop where
 mod:Mod X.K X.mg X.base
 kind:X.env.scope.kind = .function
 glob:X.env.globals=mainGlobals
 blt:X.env.builtins=builtinsNs
 above:X.s₀.heap.objs.size<=X.env.locals
 inj:∀x y c,X.env.cells.lookup x=some c->X.env.cells.lookup y=some c->x=y
 has:∀x,(X.env.kindOf x=some .cell\/X.env.kindOf x=some .free)->∃c,X.env.cells.lookup x=some c
 wu:∀x c,X.fn x=true->X.env.cells.lookup x=some c->X.s₀.heap.objs.size<=c
 hd:X.calm=true->X.A.handled=none
 frames:X.A.frames=some X.stack
 zL:X.stack=X.outer\/(X.stack=X.env::X.outer/\X.env.frame=some X.env.locals)
 KI:∀b∈X.ex,b≠X.env.locals/\∀x c,X.env.cells.lookup x=some c->c≠b
 bs:∀b o,X.base.get? b=some o->X.s₀.heap.get? b=some o/\X.H₀ b=none
 lO:X.base.objs.size<=X.s₀.heap.objs.size
 pe:∀b o,X.base.get? b=some o->b∉X.ex
 zM:∀b∈X.ex,b∉X.fs
 ju:X.s₀.heap.FunFrames X.base X.outer
 pf:∀b∈X.fs,X.H₀ b=none
structure Inv(X:Cx)(pins:List (Addr×Obj))(σ:List (Option V))(H:Hp)(s:Shared):Prop where
 ok:X.Ok
 os:s.os=X.s₀.os
 bare:AllBare s.gens
 base:Un X.fs X.ex X.H₀ H X.s₀.heap s.heap
 loc:∃m,s.heap.Ns X.env.locals m/\∀(i:Nat) (x:Str) (v:V),X.N[i]? = some x->σ[i]? = some (some v)->Di X.env.scope x->∃u,RelV v u/\Look X.env s.heap m x u
 cell:∀x c,X.env.cells.lookup x=some c->∃v,s.heap.IsCell c v
 free:H X.env.locals=none
 fI:∀x c,X.env.cells.lookup x=some c->H c=none
 pin:∀p∈X.pn++pins,s.heap.get? p.1=some p.2/\H p.1=none/\p.1≠X.env.locals/\p.1∉X.fs/\∀v,p.2.data ≠ .cell v
 aC:dn X.prog X.w H s.heap
 len:σ.length=X.N.length
section
variable{X:Cx}{pins:List (Addr×Obj)}{σ:List (Option V)}{H H':Hp}{s:Shared}{h':Heap}
theorem Cx.Ok.Va(ok:X.Ok){b:Addr}{o:Obj}(e:X.base.get? b=some o):b∉X.fs:=λhb=>by
 have:=(ok.ju.mem hb).1
 rw[e] at this;cases this
theorem Inv.bs(I:Inv X pins σ H s):∀b o,X.base.get? b=some o->s.heap.get? b=some o/\H b=none:=λb o e=>
 ⟨I.base.keep b o (I.ok.bs b o e).1 (I.ok.bs b o e).2 (I.ok.Va e) (I.ok.pe b o e),I.base.free b o (I.ok.bs b o e).1 (I.ok.bs b o e).2 (I.ok.pe b o e)⟩
theorem Inv.bk(I:Inv X pins σ H s):∀b o,X.base.get? b=some o->s.heap.get? b=some o:=λb o e=>(I.bs b o e).1
theorem Inv.mod(I:Inv X pins σ H s):Mod X.K X.mg X.base:=I.ok.mod
theorem Inv.dh(I:Inv X pins σ H s):X.K.In s.heap:=I.ok.mod.qT.keeps I.bk
theorem Inv.lt(I:Inv X pins σ H s):X.env.locals<s.heap.objs.size:=let ⟨_,hn,_⟩:=I.loc;hn.lt
theorem Inv.sz(I:Inv X pins σ H s):X.s₀.heap.objs.size<=s.heap.objs.size:=bO I.ok.above (zc I.lt)
theorem Inv.Vb(I:Inv X pins σ H s){a:Addr}(h:s.heap.objs.size<=a):a∉X.fs:=λhb=>by
 obtain⟨_,o,ho,_⟩:=I.ok.ju.mem hb
 exact absurd (fS (bf ho) (bO I.sz h)) (qH _)
theorem Inv.qU(I:Inv X pins σ H s):∀x c,X.env.cells.lookup x=some c->c≠X.env.locals:=λx c e z=>by
 obtain⟨v,o,ho,hd⟩:=I.cell x c e
 obtain⟨m,⟨o',es,ep,kJ,wx,_⟩,_⟩:=I.loc
 rw[z,kJ] at ho;cases ho;rw[wx] at hd;cases hd
theorem Inv.ju(I:Inv X pins σ H s):s.heap.FunFrames X.base X.outer:=by
 have all:∀(l:List Env),(∀b∈jt l,b∈X.fs)->X.s₀.heap.FunFrames X.base l->s.heap.FunFrames X.base l:=by
  intro l
  induction l with
  |nil=>intro _ _;trivial
  |cons env r ih=>
   intro hs hl
   obtain⟨hk,⟨L,o,hf,hn,ho,hd⟩,hr⟩:=hl
   have hL:L∈X.fs:=hs L (by unfold jt;rw[List.filterMap_cons,hf];exact bL)
   obtain⟨sl,e⟩:=I.base.slot L o ho (I.ok.pf L hL) hL λz=>I.ok.zM L z hL
   exact⟨hk,⟨L,_,hf,hn,e,hd⟩,ih (λb hb=>hs b (by unfold jt;rw[List.filterMap_cons,hf];exact cg _ hb)) hr⟩
 exact all X.outer (λ_ hb=>hb) I.ok.ju
theorem Inv.stack(I:Inv X pins σ H s):s.heap.FunFrames X.base X.stack:=by
 rcases I.ok.zL with e | ⟨e,hf⟩
 .rw[e];exact I.ju
 .rw[e]
  obtain⟨m,hn,_⟩:=I.loc
  refine .cons (by rw[I.ok.kind];decide) hf hn ?_ I.ju
  exact Heap.get?_none_of_le (bO I.ok.lO I.ok.above)
theorem Inv.ph(I:Inv X pins σ H s):∀b∈jt X.stack,b∈X.env.locals::X.fs:=λb hb=>by
 rcases I.ok.zL with e | ⟨e,hf⟩
 .rw[e] at hb;exact cg _ hb
 .rw[e] at hb
  unfold jt at hb
  rw[List.filterMap_cons,hf] at hb
  exact hb
theorem Inv.Dj(I:Inv X pins σ H s):∀b∈jt X.stack,H b=none:=λb hb=>by
 rcases bS.mp (I.ph b hb) with e | hb
 .rw[e];exact I.free
 .obtain⟨_,o,ho,_⟩:=I.ok.ju.mem hb
  exact I.base.free b o ho (I.ok.pf b hb) λz=>I.ok.zM b z hb
theorem Inv.step{g':Array GenState}{t':Nat}{d':Drawn}{ch:List Addr}(I:Inv X pins σ H s)
  (hch:∀b∈ch,(b∈X.ex\/X.s₀.heap.objs.size<=b)/\b≠X.env.locals/\(∀x c,X.env.cells.lookup x=some c->c≠b)/\∀p∈X.pn++pins,p.1≠b)
  (keep:∀b o,b≠X.env.locals->b∉X.fs->b∉ch->s.heap.get? b=some o->H b=none->h'.get? b=some o)
  (slot:∀b o,b≠X.env.locals->b∈X.fs->b∉ch->s.heap.get? b=some o->H b=none->∃sl,h'.get? b=some { o with slots:=sl }) (free:∀b o,b∉ch->s.heap.get? b=some o->H b=none->H' b=none)
  (there:∀b o,b∉ch->s.heap.get? b=some o->∃o',h'.get? b=some o')
  (fU:∀b xs,H b=some (.tup xs)->H' b=some (.tup xs)) (jr:∀b o u,H b=some (.d6 o u)->H' b=some (.d6 o u)) (jY:∀b ps,H b=some (.nz ps)->∃more,H' b=some (.nz (ps++more)))
  (ns:∀m,s.heap.Ns X.env.locals m->h'.Ns X.env.locals m) (aC:dn X.prog X.w H' h') (hg:AllBare g') :
  Inv X pins σ H' { s with heap:=h',gens:=g',drawn:=d',toks:=t' }:=by
 have KJ:∀b o,X.s₀.heap.get? b=some o->b≠X.env.locals:=λb o e=>bh (fS (bf e) I.ok.above)
 have zN:∀b o,X.s₀.heap.get? b=some o->b∉X.ex->b∉ch:=λb o e hx hb=>by
  rcases(hch b hb).1 with z | z
  .exact hx z
  .exact absurd (fS (bf e) z) (qH _)
 have cellK:∀x c,X.env.cells.lookup x=some c->∀v,s.heap.IsCell c v->h'.IsCell c v:=λx c e v ⟨o,ho,hd⟩=>by
  have wy:c∉ch:=λz=>(hch c z).2.2.1 x c e rfl
  by_cases hc:c∈X.fs
  .obtain⟨sl,q⟩:=slot c o (I.qU x c e) hc wy ho (I.fI x c e)
   exact⟨_,q,hd⟩
  .exact⟨o,keep c o (I.qU x c e) hc wy ho (I.fI x c e),hd⟩
 refine⟨I.ok,I.os,hg,⟨λb o e n hb hx=>?_,λb o e n hb hx=>?_,λb o e n hx=>?_,λb o e hx=>?_,λb xs e=>fU b xs (I.base.fU b xs e),λb o xs e=>jr b o xs (I.base.jr b o xs e),λb ps e=>?_⟩,?_,λx c e=>?_,?_,λx c e=>?_,λp hp=>?_,aC,I.len⟩
 .exact keep b o (KJ b o e) hb (zN b o e hx) (I.base.keep b o e n hb hx) (I.base.free b o e n hx)
 .obtain⟨sl,e1⟩:=I.base.slot b o e n hb hx
  obtain⟨qV,e2⟩:=slot b _ (KJ b o e) hb (zN b o e hx) e1 (I.base.free b o e n hx)
  exact⟨qV,e2⟩
 .obtain⟨o',e1⟩:=I.base.there b o e hx
  exact free b o' (zN b o e hx) e1 (I.base.free b o e n hx)
 .obtain⟨o',e1⟩:=I.base.there b o e hx
  exact there b o' (zN b o e hx) e1
 .obtain⟨m1,e1⟩:=I.base.jY b ps e
  obtain⟨m2,e2⟩:=jY b _ e1
  exact⟨m1++m2,by rw[e2,Array.append_assoc]⟩
 .obtain⟨m,hn,hl⟩:=I.loc
  refine⟨m,ns m hn,λi x v e1 e2 e3=>?_⟩
  obtain⟨u,r,l⟩:=hl i x v e1 e2 e3
  refine⟨u,r,?_⟩
  rcases l with l | ⟨k,c,e,z⟩
  .exact .inl l
  .exact .inr ⟨k,c,e,cellK x c e _ z⟩
 .obtain⟨v,z⟩:=I.cell x c e
  exact⟨v,cellK x c e v z⟩
 .obtain⟨m,⟨o,_,_,ho,_⟩,_⟩:=I.loc
  exact free _ o (λz=>(hch _ z).2.1 rfl) ho I.free
 .obtain⟨v,o,ho,hd⟩:=I.cell x c e
  exact free c o (λz=>(hch c z).2.2.1 x c e rfl) ho (I.fI x c e)
 .obtain⟨e,n,ne,nf,d⟩:=I.pin p hp
  have wy:p.1∉ch:=λz=>(hch p.1 z).2.2.2 p hp rfl
  exact⟨keep p.1 p.2 ne nf wy e n,free p.1 p.2 wy e n,ne,nf,d⟩
theorem Inv.un{t':Nat}(I:Inv X pins σ H s)(u:Un X.fs [] H H' s.heap h')(aC:dn X.prog X.w H' h'):Inv X pins σ H' { s with heap:=h',toks:=t' }:=by
 obtain⟨m,⟨o,es,ep,ho,r⟩,_⟩:=id I.loc
 obtain⟨sl,hL⟩:=u.any ho I.free (by simp)
 exact I.step (g':=s.gens) (d':=s.drawn) (ch:=[]) (λ_ z=>nomatch z) (λb o _ hb _ e n=>u.keep b o e n hb (by simp)) (λb o _ hb _ e n=>u.slot b o e n hb (by simp)) (λb o _ e n=>u.free b o e n (by simp)) (λb o _ e=>u.there b o e (by simp)) u.fU u.jr u.jY (λm' hm=>by
  obtain⟨o',Dk,Dl,kJ,r'⟩:=hm
  rw[ho] at kJ;cases kJ
  exact⟨_,Dk,Dl,hL,r'⟩) aC I.bare
theorem Inv.call{g':Array GenState}{t':Nat}{d':Drawn}{ch:List Addr}(I:Inv X pins σ H s)(u:Un (jt X.stack) ch H H' s.heap h')(aC:dn X.prog X.w H' h')(hg:AllBare g')
  (hch:∀b∈ch,(b∈X.ex\/X.s₀.heap.objs.size<=b)/\b≠X.env.locals/\(∀x c,X.env.cells.lookup x=some c->c≠b)/\∀p∈X.pn++pins,p.1≠b) :
  Inv X pins σ H' { s with heap:=h',gens:=g',drawn:=d',toks:=t' }:=by
 obtain⟨m,⟨o,es,ep,ho,r⟩,_⟩:=id I.loc
 obtain⟨sl,hL⟩:=u.any ho I.free λz=>(hch _ z).2.1 rfl
 exact I.step (ch:=ch) hch (λb o hL hb hc e n=>u.keep b o e n (λz=>(bS.mp (I.ph b z)).elim hL hb) hc) (λb o _ _ hc e n=>u.any e n hc) (λb o hc e n=>u.free b o e n hc) (λb o hc e=>u.there b o e hc) u.fU u.jr u.jY (λm' hm=>by
  obtain⟨o',Dk,Dl,kJ,r'⟩:=hm
  rw[ho] at kJ;cases kJ
  exact⟨_,Dk,Dl,hL,r'⟩) aC hg
theorem Inv.turned{t':Nat}{it:Addr}(I:Inv X pins σ H s)(k:∀b o,b≠it->s.heap.get? b=some o->h'.get? b=some o)(hn:H it=none)(hL:it≠X.env.locals)
  (h1:it∈X.ex\/X.s₀.heap.objs.size<=it) (h2:∀x c,X.env.cells.lookup x=some c->c≠it) (h3:∀p∈X.pn++pins,p.1≠it):Inv X pins σ H { s with heap:=h',toks:=t' }:=by
 have KL:∀b u,H b=some u->b≠it:=λb u e z=>by rw[z,hn] at e;cases e
 refine I.step (g':=s.gens) (d':=s.drawn) (ch:=[it]) (λb hb=>?_) (λb o _ _ hc e _=>k b o (λz=>hc (by simp[z])) e) (λb o _ _ hc e _=>⟨o.slots,k b o (λz=>hc (by simp[z])) e⟩) (λ_ _ _ _ n=>n)
  (λb o hc e=>⟨o,k b o (λz=>hc (by simp[z])) e⟩) (λ_ _ e=>e) (λ_ _ _ e=>e) (λb ps e=>⟨#[],by rw[e];simp⟩) (λm hm=>?_) (λb u e=>?_) I.bare
 .have e:b=it:=by simpa using hb
  subst e
  exact⟨h1,hL,h2,h3⟩
 .obtain⟨o,es,ep,ho,r⟩:=hm
  exact⟨o,es,ep,k _ o (bo hL) ho,r⟩
 .refine(I.aC b u e).iT (λc v hc q=>k c v ?_ q) (λ_ q=>q) λ_ _ q=>q
  rcases hc with z | z
  .rw[z];exact KL b u e
  .exact KL c _ z
theorem Inv.tok(I:Inv X pins σ H s)(t:Nat):Inv X pins σ H { s with toks:=t }:=I.un (h':=s.heap) (t':=t) Un.refl I.aC
theorem Inv.kept{t':Nat}(I:Inv X pins σ H s)(k:∀b u,s.heap.get? b=some u->h'.get? b=some u):Inv X pins σ H { s with heap:=h',toks:=t' }:=I.un (Un.kept k) (I.aC.kept k)
theorem Inv.laid{a:Addr}{o:HO}{t':Nat}(I:Inv X pins σ H s)(k:∀b u,s.heap.get? b=some u->h'.get? b=some u)(hp:s.heap.objs.size<=a)(new:cS X.prog X.w (upd H a o) h' a o) :
  Inv X pins σ (upd H a o) { s with heap:=h',toks:=t' }:=I.un (Un.laid k hp (I.aC.fresh hp)) (I.aC.laid k hp new)
theorem Inv.write{x e:Addr}{o:HO}{t':Nat}(I:Inv X pins σ H s)(mu:wq (H x))(he:e=x\/H e=some (.own x))(k:∀b u,b≠e->s.heap.get? b=some u->h'.get? b=some u)(tI:∃u,h'.get? e=some u)
  (new:cS X.prog X.w (upd H x o) h' x o):Inv X pins σ (upd H x o) { s with heap:=h',toks:=t' }:=I.un (Un.write mu he k tI) (I.aC.write mu he k tI new)
theorem Inv.zO{tJ:List (Addr×Obj)}(I:Inv X pins σ H s)(h:∀p∈tJ,s.heap.get? p.1=some p.2/\H p.1=none/\p.1≠X.env.locals/\p.1∉X.fs/\∀v,p.2.data ≠ .cell v):Inv X tJ σ H s:=
 ⟨I.ok,I.os,I.bare,I.base,I.loc,I.cell,I.free,I.fI,λp hp=>(du.mp hp).elim (λz=>I.pin p (oQ _ z)) (h p),I.aC,I.len⟩
theorem KN{N:List Str}(hN:N.Nodup){i j:Nat}{x:Str}(a:N[i]? = some x)(b:N[j]? = some x):i=j:=by
 obtain⟨h1,e1⟩:=cn.mp a
 obtain⟨h2,e2⟩:=cn.mp b
 exact(List.getElem_inj hN).mp (e1.trans e2.symm)
theorem Vc{M:Model}{A:Around}{E:Value->Shared->Prop}{i:Nat}{x:Str}{v:V}{u:Value}{Q:Unit->Shared->Prop}(I:Inv X pins σ H s)(hN:X.N.Nodup)(hi:X.N[i]? = some x)(hx:Loc X.env.scope x)(r:RelV v u)
  (h:∀s',Inv X pins (σ.set i (some v)) H s'->(∃a,Heap.SameBut a s.heap s'.heap/\(a=X.env.locals\/X.env.cells.lookup x=some a))->Q () s') (hf:X.fn x=true\/X.env.scope.names.lookup x=some .local:=by first | exact .inl rfl | exact .inr rfl | assumption):wpAny M A (storeName X.env x u) Q E s:=by
 obtain⟨m,hn,hl⟩:=id I.loc
 have Vd:(X.env.scope.kind == .class||(X.env.scope.kind == .module&&X.env.locals != X.env.globals))=false:=by rw[I.ok.kind];rfl
 have KO:i<σ.length:=by rw[I.len];exact(cn.mp hi).1
 have qU:=I.qU
 have tracked:∀{a:Addr}{h':Heap},(∃o,s.heap.get? a=some o/\H a=none)->Heap.SameBut a s.heap h'->dn X.prog X.w H h':=λ{a h'} ha hs b ob e=>by
  obtain⟨_,_,KP⟩:=ha
  refine(I.aC b ob e).iT (λc w' hc q=>(hs.2 c ?_).trans q) (λ_ q=>q) λ_ _ q=>q
  rintro rfl
  rcases hc with rfl | hc
  .rw[KP] at e;cases e
  .rw[KP] at hc;cases hc
 rcases hx with hk | hk
 .refine wpAny_storeName_local hk hn (λh' zP hs=>?_) Vd
  obtain⟨oL,_,_,wz,_⟩:=id hn
  refine h _ ⟨I.ok,I.os,I.bare,⟨λb o e n hb hx=>?_,λb o e n hb hx=>?_,I.base.free,λb o e hx=>?_,I.base.fU,I.base.jr,I.base.jY⟩,⟨_,zP,λj y v' e1 e2 e3=>?_⟩,λy c e=>?_,I.free,I.fI,λp hp=>?_,tracked ⟨oL,wz,I.free⟩ hs,by simpa using I.len⟩ ⟨_,hs,.inl rfl⟩
  .exact(hs.2 b (bh (fS (bf e) I.ok.above))).trans (I.base.keep b o e n hb hx)
  .obtain⟨sl,e1⟩:=I.base.slot b o e n hb hx
   exact⟨sl,(hs.2 b (bh (fS (bf e) I.ok.above))).trans e1⟩
  .obtain⟨o',e1⟩:=I.base.there b o e hx
   exact⟨o',(hs.2 b (bh (fS (bf e) I.ok.above))).trans e1⟩
  .by_cases hj:j=i
   .subst hj
    rw[hi] at e1;cases e1
    rw[vQ KO] at e2
    cases e2
    exact⟨u,r,.inl ⟨hk,by simp⟩⟩
   .rw[zd (bo hj)] at e2
    obtain⟨u',r',q⟩:=hl j y v' e1 e2 e3
    refine⟨u',r',?_⟩
    rcases q with ⟨k,e⟩ | ⟨k,c,e,z⟩
    .refine .inl ⟨k,?_⟩
     have:y≠x:=λe=>hj (KN hN e1 (e ▸ hi))
     simp[this,e]
    .exact .inr ⟨k,c,e,z.sameBut hs (qU y c e)⟩
  .obtain⟨w',z⟩:=I.cell y c e
   exact⟨w',z.sameBut hs (qU y c e)⟩
  .obtain⟨e,n,ne,nf,d⟩:=I.pin p hp
   exact⟨(hs.2 p.1 ne).trans e,n,ne,nf,d⟩
 .have Dm:X.fn x=true:=by
   rcases hf with z | z
   .exact z
   .rw[z] at hk;cases hk
  obtain⟨c,hc⟩:=I.ok.has x (.inl hk)
  obtain⟨w',z⟩:=I.cell x c hc
  refine wpAny_storeName_cell I.ok.kind hk hc z (λh' tK hs=>?_)
  obtain⟨oc,pq,Ve⟩:=id z
  refine h { s with heap:=h' } ⟨I.ok,I.os,I.bare,⟨λb o e n hb hx=>?_,λb o e n hb hx=>?_,I.base.free,λb o e hx=>?_,I.base.fU,I.base.jr,I.base.jY⟩,⟨m,hn.sameBut hs (bo (qU x c hc)),λj y v' e1 e2 e3=>?_⟩,λy c' e=>?_,I.free,I.fI,λp hp=>?_,tracked ⟨oc,pq,I.fI x c hc⟩ hs,by simpa using I.len⟩ ⟨c,hs,.inr hc⟩
  .exact(hs.2 b (bh (fS (bf e) (I.ok.wu x c Dm hc)))).trans (I.base.keep b o e n hb hx)
  .obtain⟨sl,e1⟩:=I.base.slot b o e n hb hx
   exact⟨sl,(hs.2 b (bh (fS (bf e) (I.ok.wu x c Dm hc)))).trans e1⟩
  .obtain⟨o',e1⟩:=I.base.there b o e hx
   exact⟨o',(hs.2 b (bh (fS (bf e) (I.ok.wu x c Dm hc)))).trans e1⟩
  .by_cases hj:j=i
   .subst hj
    rw[hi] at e1;cases e1
    rw[vQ KO] at e2
    cases e2
    exact⟨u,r,.inr ⟨.inl hk,c,hc,tK⟩⟩
   .rw[zd (bo hj)] at e2
    obtain⟨u',r',q⟩:=hl j y v' e1 e2 e3
    refine⟨u',r',?_⟩
    rcases q with q | ⟨k,c',e,z'⟩
    .exact .inl q
    .refine .inr ⟨k,c',e,z'.sameBut hs ?_⟩
     rintro rfl
     exact hj (KN hN e1 (I.ok.inj _ _ _ e hc ▸ hi))
  .by_cases hcc:c'=c
   .subst hcc;exact⟨_,tK⟩
   .obtain⟨w2,z2⟩:=I.cell y c' e
    exact⟨w2,z2.sameBut hs hcc⟩
  .obtain⟨e,n,ne,nf,d⟩:=I.pin p hp
   refine⟨(hs.2 p.1 ?_).trans e,n,ne,nf,d⟩
   intro q
   rw[q,pq] at e
   have q':oc=p.2:=dm e
   exact d w' (by rw[<-q'];exact Ve)
theorem Dn{M:Model}{A:Around}{E:Value->Shared->Prop}{i:Nat}{x:Str}{v:V}{u:Value}{Q:Unit->Shared->Prop}(I:Inv X pins σ H s)(hN:X.N.Nodup)(hi:X.N[i]? = some x)(hx:Loc X.env.scope x)(r:RelV v u)
  (h:∀s',Inv X pins (σ.set i (some v)) H s'->Q () s') (hf:X.fn x=true\/X.env.scope.names.lookup x=some .local:=by first | exact .inl rfl | exact .inr rfl | assumption):wpAny M A (storeName X.env x u) Q E s:=
 Vc I hN hi hx r (λs' I' _=>h s' I') hf
theorem Inv.qW{s':Shared}{ch:List Addr}(I:Inv X pins σ H s)(ho:s'.os=s.os)(u:Un (jt X.stack) ch H H' s.heap s'.heap)(aC:dn X.prog X.w H' s'.heap)(hg:AllBare s'.gens)
  (hch:∀b∈ch,(b∈X.ex\/X.s₀.heap.objs.size<=b)/\b≠X.env.locals/\(∀x c,X.env.cells.lookup x=some c->c≠b)/\∀p∈X.pn++pins,p.1≠b):Inv X pins σ H' s':=by
 obtain⟨h',g',d',t',o'⟩:=s'
 have e:o'=s.os:=ho
 subst e
 exact I.call (g':=g') (t':=t') (d':=d') u aC hg hch
end
abbrev XK:=Value->Option Addr->Hp->Prop
abbrev St:=List (Option V)
abbrev VK:=V->Hp->Prop
abbrev TE:=St->Hp->VK->Prop
abbrev TT:=St->Hp->(Bool->Hp->Prop)->Prop
abbrev TA:=St->Hp->(List V->Hp->Prop)->Prop
structure Ends where
 nx:St->Hp->Prop
 rt:VK
 bk:St->Hp->Prop:=λ_ _=>False
 ct:St->Hp->Prop:=λ_ _=>False
abbrev TS:=Ends->St->Hp->Prop
def EP(X:Cx)(pins:List (Addr×Obj))(σ:St)(Q:VK)(u:Value)(s':Shared):Prop := ∃v H',Inv X pins σ H' s'/\RelV v u/\Q v H'
def TP(X:Cx)(pins:List (Addr×Obj))(σ:St)(Q:Bool->Hp->Prop)(b:Bool)(s':Shared):Prop := ∃H',Inv X pins σ H' s'/\Q b H'
def AP(X:Cx)(pins:List (Addr×Obj))(σ:St)(Q:List V->Hp->Prop)(us:List Value)(s':Shared):Prop := ∃vs H',Inv X pins σ H' s'/\Vals vs us/\Q vs H'
def SP(X:Cx)(pins:List (Addr×Obj))(D:Ends)(f:Flow)(s':Shared):Prop:=
 match f with
 |.next=>∃σ' H',Inv X pins σ' H' s'/\D.nx σ' H'
 |.brk=>∃σ' H',Inv X pins σ' H' s'/\D.bk σ' H'
 |.cont=>∃σ' H',Inv X pins σ' H' s'/\D.ct σ' H'
 |.ret u=>∃v σ' H',Inv X pins σ' H' s'/\RelV v u/\D.rt v H'
def PE(X:Cx)(e:Expr)(t:TE):Prop:=
 ∀(pins:List (Addr×Obj)) (s:Shared) (σ:St) (H:Hp) (Q:VK),Inv X pins σ H s->t σ H Q->wpAny (model X.prog X.w) X.A (eval e X.env) (EP X pins σ Q) X.xe s
def PT(X:Cx)(e:Expr)(t:TT):Prop:=
 ∀(pins:List (Addr×Obj)) (s:Shared) (σ:St) (H:Hp) (Q:Bool->Hp->Prop),Inv X pins σ H s->t σ H Q->wpAny (model X.prog X.w) X.A (isTrue e X.env (eval e X.env)) (TP X pins σ Q) X.xe s
def PW(X:Cx)(e:Expr)(t:TT):Prop:=
 ∀(whole:Sem Value) (pins:List (Addr×Obj)) (s:Shared) (σ:St) (H:Hp) (Q:Bool->Hp->Prop),Inv X pins σ H s->t σ H Q->wpAny (model X.prog X.w) X.A (isTrue e X.env whole) (TP X pins σ Q) X.xe s
theorem PW.pt{X:Cx}{e:Expr}{t:TT}(h:PW X e t):PT X e t:=h _
def PA(X:Cx)(es:List Expr)(t:TA):Prop:=
 ∀(pos:Pos) (pins:List (Addr×Obj)) (s:Shared) (σ:St) (H:Hp) (Q:List V->Hp->Prop),Inv X pins σ H s->t σ H Q->wpAny (model X.prog X.w) X.A (spliced (backTo pos (starEach es X.env))) (AP X pins σ Q) X.xe s
def PS(X:Cx)(st:Stmt)(t:TS):Prop:=
 ∀(pins:List (Addr×Obj)) (s:Shared) (σ:St) (H:Hp) (D:Ends),Inv X pins σ H s->t D σ H->wpAny (model X.prog X.w) X.A (exec st X.env) (SP X pins D) X.xe s
def gS(X:Cx)(st:List Stmt)(t:TS):Prop:=
 ∀(pins:List (Addr×Obj)) (s:Shared) (σ:St) (H:Hp) (D:Ends),Inv X pins σ H s->t D σ H->wpAny (model X.prog X.w) X.A (execs st X.env) (SP X pins D) X.xe s
theorem aB{α:Type}{t:Sem α}{Q Q':α->Shared->Prop}{M:Model}{A:Around}{E:Value->Shared->Prop}{s:Shared}(h:wpAny M A t Q E s)(hQ:∀a s,Q a s->Q' a s):wpAny M A t Q' E s:=jP h hQ λ_ _ x=>x
section
variable{X:Cx}
def KQ(i:Nat):TE:=λσ H Q=>∃v,σ[i]? = some (some v)/\Q v H
def tC(v:V):TE:=λ_ H Q=>Q v H
theorem Vf{i:Nat}{x:Str}{pos:Pos}(hN:X.N[i]? = some x)(hv:Di X.env.scope x)(hd:(x==("__debug__":Str))=false:=by decide)(iU:(x==("__classdict__":Str))=false:=by decide):PE X (.Name x pos) (KQ i):=by
 intro pins s σ H Q I h
 obtain⟨v,e,h⟩:=h
 obtain⟨m,hn,hl⟩:=I.loc
 obtain⟨u,r,l⟩:=hl i x v hN e hv
 have fin:EP X pins σ Q u s:=⟨v,H,I,r,h⟩
 rcases l with ⟨hk,hm⟩ | ⟨hk,c,hc,KR⟩
 .exact wpAny_Name (wpAny_loadName_local I.ok.kind hk hn hm fin) hd
 .rcases hk with hk | hk
  .exact wpAny_Name (wpAny_loadName_cell I.ok.kind hk hc KR fin) hd
  .exact wpAny_Name (wpAny_loadName_free I.ok.kind hk hc KR fin iU) hd
theorem aE{i j pos}:PE X (.Constant (.int i) j pos) (tC (.int i)):=λ_ _ _ H _ I h=>wpAny_Constant_int ⟨.int i,H,I.tok _,⟨_,rfl⟩,h⟩
theorem fJ{b j pos}:PE X (.Constant (.bool b) j pos) (tC (.bl b)):=λ_ _ _ H _ I h=>Constant_bool ⟨.bl b,H,I,rfl,h⟩
theorem qX{j pos}:PE X (.Constant .none j pos) (tC .aD):=λ_ _ _ H _ I h=>Constant_none ⟨.aD,H,I,rfl,h⟩
theorem eM{x j pos}:PE X (.Constant (.str x) j pos) (tC (.str x)):=λ_ _ _ H _ I h=>Calls.Constant_str ⟨.str x,H,I.tok _,⟨_,rfl⟩,h⟩
def Gl(X:Cx)(x:Str):Prop:=X.env.kindOf x=some .globalImplicit
theorem wA{E:Value->Shared->Prop}{pins:List (Addr×Obj)}{s:Shared}{σ:St}{H:Hp}{x:Str}{u:Value}{pos:Pos}{Q:Value->Shared->Prop}(I:Inv X pins σ H s)(hg:Gl X x)(hm:X.mg x=some u)(h:Q u s)
  (hd:(x==("__debug__":Str))=false:=by decide):wpAny (model X.prog X.w) X.A (eval (.Name x pos) X.env) Q E s:=
 Calls.Name_function_global I.ok.kind hg (Calls.loadGlobal_global (by rw[I.ok.glob];exact I.mod.glob.keeps I.bk) hm h) hd
theorem lP{E:Value->Shared->Prop}{pins:List (Addr×Obj)}{s:Shared}{σ:St}{H:Hp}{x:Str}{u:Value}{pos:Pos}{Q:Value->Shared->Prop}(I:Inv X pins σ H s)(hg:Gl X x)(hm:X.mg x=none)(hv:bootBuiltins x=some u)(h:Q u s)
  (hn:x≠"__name__":=by decide) (hd:(x==("__debug__":Str))=false:=by decide):wpAny (model X.prog X.w) X.A (eval (.Name x pos) X.env) Q E s:=by
 obtain⟨mb,h1,h2⟩:=I.mod.blt
 exact Calls.Name_function_global I.ok.kind hg (Calls.loadGlobal_builtin (by rw[I.ok.glob];exact I.mod.glob.keeps I.bk) hm (by rw[I.ok.blt];exact h1.keeps I.bk) ((h2 x hn).trans hv) h) hd
theorem Vg{x:Str}{v:V}{u:Value}{pos:Pos}(hg:Gl X x)(hm:X.mg x=some u)(r:RelV v u)(hd:(x==("__debug__":Str))=false:=by decide):PE X (.Name x pos) (tC v):=
 λ_ _ _ H _ I h=>wA I hg hm ⟨v,H,I,r,h⟩ hd
theorem pw{x:Str}{v:V}{u:Value}{pos:Pos}(hg:Gl X x)(hm:X.mg x=none)(hv:bootBuiltins x=some u)(r:RelV v u)(hn:x≠"__name__":=by decide)(hd:(x==("__debug__":Str))=false:=by decide):PE X (.Name x pos) (tC v):=
 λ_ _ _ H _ I h=>lP I hg hm hv ⟨v,H,I,r,h⟩ hn hd
variable{a b:Expr}{ta tb:TE}{pos:Pos}
def PC(X:Cx)(op:CmpOp)(a b:Expr)(t:TE):Prop:=
 ∀(pins:List (Addr×Obj)) (s:Shared) (σ:St) (H:Hp) (Q:VK),Inv X pins σ H s->t σ H Q->
  wpAny (model X.prog X.w) X.A (eval a X.env) (λv s₁=>wpAny (model X.prog X.w) X.A (eval b X.env) (λu s₂=>wpAny (model X.prog X.w) X.A (compareOp op v u) (EP X pins σ Q) X.xe s₂) X.xe s₁) X.xe s
def tB(t:TE):TT:=λσ H Q=>t σ H λx H1=>∃c,x = .bl c/\Q c H1
theorem zQ{op:CmpOp}{t:TE}(h:PC X op a b t)(h1:behindInMarks op b=false:=by first | exact anV _ (by decide) (by decide) | rfl):PT X (.Compare a [op] [b] pos) (tB t):=by
 intro pins s σ H Q I hw
 refine wpAny_isTrue_Compare1 (aB (h pins s σ H _ I hw) λv s1 h1=>aB h1 λu s2 h2=>aB h2 λc s3 ⟨x,H1,I1,r1,q1⟩=>?_) h1
 obtain⟨d,rfl,q⟩:=q1
 cases r1
 exact oR ⟨H1,I1,q⟩
theorem eU{e:Expr}{t:TE}(h:PE X e t)(he:∀whole,isTrue e X.env whole=(do let v<-whole;standAt e.pos;holding [v] (truthy v)):=by intro _;rfl):PT X e (tB t):=by
 intro pins s σ H Q I hw
 refine isTrue_plain (aB (h pins s σ H _ I hw) λv s1 ⟨x,H1,I1,r1,q1⟩=>?_) (he _)
 obtain⟨d,rfl,q⟩:=q1
 cases r1
 exact oR ⟨H1,I1,q⟩
variable{tA zR:TT}{rest:List Expr}
def Vh(t u:TT):TT:=λσ H Q=>t σ H λc H1=>if c=true then u σ H1 Q else Q false H1
def Vi(t u:TT):TT:=λσ H Q=>t σ H λc H1=>if c=true then Q true H1 else u σ H1 Q
def Vj(t:TT):TT:=λσ H Q=>t σ H λc H1=>Q (!c) H1
theorem tL(ha:PT X a tA):PW X (.BoolOp .And [a] pos) tA:=by
 intro wh pins s σ H Q I h
 refine isTrue_and (aB (ha pins s σ H Q I h) λc s1 e=>?_)
 cases c with
 |true=>exact isTrue_and_nil e
 |false=>exact e
theorem jZ(ha:PT X a tA):PW X (.BoolOp .Or [a] pos) tA:=by
 intro wh pins s σ H Q I h
 refine isTrue_or (aB (ha pins s σ H Q I h) λc s1 e=>?_)
 cases c with
 |false=>exact isTrue_or_nil e
 |true=>exact e
theorem tM(ha:PT X a tA)(hb:PW X (.BoolOp .And (b::rest) pos) zR):PW X (.BoolOp .And (a::b::rest) pos) (Vh tA zR):=by
 intro wh pins s σ H Q I h
 refine isTrue_and (aB (ha pins s σ H _ I h) λc s1 ⟨H1,I1,q1⟩=>?_)
 cases c with
 |true=>exact hb wh pins s1 σ H1 Q I1 q1
 |false=>exact⟨H1,I1,q1⟩
theorem iV(ha:PT X a tA)(hb:PW X (.BoolOp .Or (b::rest) pos) zR):PW X (.BoolOp .Or (a::b::rest) pos) (Vi tA zR):=by
 intro wh pins s σ H Q I h
 refine isTrue_or (aB (ha pins s σ H _ I h) λc s1 ⟨H1,I1,q1⟩=>?_)
 cases c with
 |true=>exact⟨H1,I1,q1⟩
 |false=>exact hb wh pins s1 σ H1 Q I1 q1
theorem fV(ha:PT X a tA):PT X (.UnaryOp .Not a pos) (Vj tA):=by
 intro pins s σ H Q I h
 exact isTrue_not (ha pins s σ H (λc H1=>Q (!c) H1) I h)
def Vk(ta tb:TE):TE:=λσ H Q=>ta σ H λx H1=>∃c,x = .bl c/\if c=true then tb σ H1 Q else Q (.bl false) H1
theorem KS{op}{t:TE}(h:PE X a t):PE X (.BoolOp op [a] pos) t:=λpins s σ H Q I hw=>BoolOp_one (h pins s σ H Q I hw)
theorem KU(ha:PE X a ta)(hb:PE X (.BoolOp .And (b::rest) pos) tb):PE X (.BoolOp .And (a::b::rest) pos) (Vk ta tb):=by
 intro pins s σ H Q I h
 refine BoolOp_and (aB (ha pins s σ H _ I h) λv s1 ⟨x,H1,I1,r1,q1⟩=>?_)
 obtain⟨c,rfl,q1⟩:=q1
 cases r1
 refine oR ?_
 cases c with
 |true=>exact hb pins s1 σ H1 Q I1 q1
 |false=>exact⟨.bl false,H1,I1,rfl,q1⟩
def Vl(t:TT)(ta tb:TE):TE:=λσ H Q=>t σ H λc H1=>if c=true then ta σ H1 Q else tb σ H1 Q
theorem Vm{c:Expr}(hc:PT X c tA)(ha:PE X a ta)(hb:PE X b tb):PE X (.IfExp c a b pos) (Vl tA ta tb):=by
 intro pins s σ H Q I h
 refine wpAny_IfExp (aB (hc pins s σ H _ I h) λd s1 ⟨H1,I1,q1⟩=>?_)
 cases d with
 |true=>exact ha pins s1 σ H1 Q I1 q1
 |false=>exact hb pins s1 σ H1 Q I1 q1
end
def aj(K:PySem.W.Frag)(H:Hp)(a:Addr)(xs:List V):Prop:=
 Rd H a (.lst xs)\/
  ∃(o:Obj) (its:Array Value) (n:Nat),K.lookup a=some o/\o.cls = .type "list"/\o.dict=none/\o.data = .seq its n/\its.size<=sizeLine/\Vals xs its.toList
def aq(K:PySem.W.Frag)(H:Hp)(a:Addr)(xs:List V):Prop:=
 Rd H a (.tup xs)\/
  ∃(o:Obj) (its:Array Value) (n:Nat),K.lookup a=some o/\o.cls = .type "tuple"/\o.data = .seq its n/\its.size<=sizeLine/\Vals xs its.toList
def Vn:Value->Option V
 |.none=>some .aD
 |.bool b=>some (.bl b)
 |.int i _=>some (.int i)
 |.str x _=>some (.str x)
 |.bytes b _=>some (.iS b)
 |.float b _=>some (.qR b)
 |.ref a=>some (.ref a)
 |.type n=>some (.ty n)
 |_=>none
theorem RelV.abs{x:V}{u:Value}(r:RelV x u):Vn u=some x:=by
 cases x with
 |aD=>cases r;rfl
 |bl _=>cases r;rfl
 |int _=>obtain⟨t,rfl⟩:=r;rfl
 |str _=>obtain⟨t,rfl⟩:=r;rfl
 |iS _=>obtain⟨t,rfl⟩:=r;rfl
 |qR _=>obtain⟨t,rfl⟩:=r;rfl
 |ref _=>cases r;rfl
 |ty _=>cases r;rfl
theorem RelV.inj{x y:V}{u:Value}(r:RelV x u)(q:RelV y u):x=y:=dm (r.abs.symm.trans q.abs)
theorem Vals.inj:∀{xs ys:List V}{us:List Value},Vals xs us->Vals ys us->xs=ys
 |_,_,_,.nil,.nil=>rfl
 |_,_,_,.cons r t,.cons r' t'=>by rw[r.inj r',Vals.inj t t']
section
variable{X:Cx}{pins:List (Addr×Obj)}{σ:St}{H:Hp}{s:Shared}{a:Addr}{xs ys:List V}
theorem aj.of{K:PySem.W.Frag}(h:H a=some (.lst xs)):aj K H a xs := .inl (.inl h)
theorem aq.of{K:PySem.W.Frag}(h:H a=some (.tup xs)):aq K H a xs := .inl (.inl h)
theorem Inv.list(I:Inv X pins σ H s)(h:aj X.K H a xs):∃its:List Value,Vals xs its/\PlainL s.heap a its.toArray/\xs.length<=sizeLine:=by
 rcases h with h | ⟨o,its,n,hk,hc,hd,hs,hz,r⟩
 .obtain⟨z,its,n,r,e⟩:=h.ok I.aC
  exact⟨its,r,⟨_,n,e,rfl,rfl,rfl⟩,z⟩
 .refine⟨its.toList,r,⟨o,n,I.dh a o hk,hc,hd,by simpa using hs⟩,?_⟩
  have e:=r.length
  simp only[lI] at e
  omega
theorem Inv.tuple(I:Inv X pins σ H s)(h:aq X.K H a xs):∃its:List Value,Vals xs its/\IsTup s.heap a its.toArray/\xs.length<=sizeLine:=by
 rcases h with h | ⟨o,its,n,hk,hc,hs,hz,r⟩
 .obtain⟨z,its,r,p⟩:=h.ok I.aC
  exact⟨its,r,p,z⟩
 .refine⟨its.toList,r,⟨o,I.dh a o hk,hc,n,by simpa using hs⟩,?_⟩
  have e:=r.length
  simp only[lI] at e
  omega
theorem Inv.Dp(I:Inv X pins σ H s)(h:aj X.K H a xs)(h':aj X.K H a ys):xs=ys:=by
 obtain⟨its,r,⟨o,n,e,_,_,d⟩,_⟩:=I.list h
 obtain⟨cy,r',⟨o',n',e',_,_,d'⟩,_⟩:=I.list h'
 rw[e] at e';cases e'
 rw[d] at d'
 injection d' with d1 _
 have:its=cy:=by simpa using eD Array.toList d1
 subst this
 exact r.inj r'
theorem Inv.Dr(I:Inv X pins σ H s)(h:aq X.K H a xs)(h':aq X.K H a ys):xs=ys:=by
 obtain⟨its,r,⟨o,e,_,n,d⟩,_⟩:=I.tuple h
 obtain⟨cy,r',⟨o',e',_,n',d'⟩,_⟩:=I.tuple h'
 rw[e] at e';cases e'
 rw[d] at d'
 injection d' with d1 _
 have:its=cy:=by simpa using eD Array.toList d1
 subst this
 exact r.inj r'
end
abbrev Cx.lQ(X:Cx)(E:Value->Shared->Prop):Cx:={ X with xe:=E }
abbrev Cx.pA(X:Cx):Cx:=X.lQ λ_ _=>False
theorem Cx.Ok.lQ{X:Cx}(ok:X.Ok)(E:Value->Shared->Prop):(X.lQ E).Ok:=
 ⟨ok.mod,ok.kind,ok.glob,ok.blt,ok.above,ok.inj,ok.has,ok.wu,ok.hd,ok.frames,ok.zL,ok.KI,ok.bs,ok.lO,ok.pe,ok.zM,ok.ju,ok.pf⟩
theorem Cx.Ok.pB{X:Cx}{E:Value->Shared->Prop}(ok:(X.lQ E).Ok):X.Ok:=
 ⟨ok.mod,ok.kind,ok.glob,ok.blt,ok.above,ok.inj,ok.has,ok.wu,ok.hd,ok.frames,ok.zL,ok.KI,ok.bs,ok.lO,ok.pe,ok.zM,ok.ju,ok.pf⟩
section
variable{X:Cx}{pins:List (Addr×Obj)}{σ:St}{H:Hp}{s:Shared}{E:Value->Shared->Prop}
theorem Inv.lQ(I:Inv X pins σ H s)(E:Value->Shared->Prop):Inv (X.lQ E) pins σ H s:=⟨I.ok.lQ E,I.os,I.bare,I.base,I.loc,I.cell,I.free,I.fI,I.pin,I.aC,I.len⟩
theorem Inv.pB(I:Inv (X.lQ E) pins σ H s):Inv X pins σ H s:=⟨I.ok.pB,I.os,I.bare,I.base,I.loc,I.cell,I.free,I.fI,I.pin,I.aC,I.len⟩
theorem SP.pB{D:Ends}{f:Flow}{s':Shared}(h:SP (X.lQ E) pins D f s'):SP X pins D f s':=by
 cases f with
 |next=>obtain⟨σ',H',I,q⟩:=h;exact⟨σ',H',I.pB,q⟩
 |brk=>obtain⟨σ',H',I,q⟩:=h;exact⟨σ',H',I.pB,q⟩
 |cont=>obtain⟨σ',H',I,q⟩:=h;exact⟨σ',H',I.pB,q⟩
 |ret u=>obtain⟨v,σ',H',I,r,q⟩:=h;exact⟨v,σ',H',I.pB,r,q⟩
theorem gS.pA{st:List Stmt}{t:TS}(h:gS X.pA st t):gS X st t:=λpins s σ H D I hw=>
 jP (h pins s σ H D (I.lQ _) hw) (λ_ _ q=>q.pB) λ_ _ z=>False.elim z
end
section
variable{X:Cx}{st:Stmt}{rest:List Stmt}{t u:TS}{e:Expr}{te:TE}{pos:Pos}
def Vo:TS:=λD σ H=>D.nx σ H
def KW(t u:TS):TS:=λD σ H=>t { D with nx:=u D } σ H
theorem bR:gS X [] Vo:=λ_ _ σ H _ I h=>JZ ⟨σ,H,I,h⟩
theorem au(h1:PS X st t)(h2:gS X rest u):gS X (st::rest) (KW t u):=by
 intro pins s σ H D I h
 refine wpAny_execs_cons (aB (h1 pins s σ H { D with nx:=u D } I h) λf s1 q=>?_)
 cases f with
 |next=>
  obtain⟨σ',H',I',q⟩:=q
  exact h2 pins s1 σ' H' D I' q
 |ret v=>exact q
 |brk=>exact q
 |cont=>exact q
theorem az(h1:PS X st t):gS X [st] t:=by
 intro pins s σ H D I h
 refine wpAny_execs_cons (aB (h1 pins s σ H D I h) λf s1 q=>?_)
 cases f with
 |next=>exact JZ q
 |ret v=>exact q
 |brk=>exact q
 |cont=>exact q
theorem Inv.quiet{pins:List (Addr×Obj)}{σ:St}{H:Hp}{s:Shared}(I:Inv X pins σ H s):interactive X.env=false:=by simp[interactive,I.ok.kind]
def Vp(te:TE):TS:=λD σ H=>te σ H λ_ H1=>D.nx σ H1
theorem fg(he:PE X e te)(hs:swapsWith e none pos.line X.env=pure false:=by rfl):PS X (.Expr e pos) (Vp te):=by
 intro pins s σ H D I h
 exact wpAny_Expr_any (aB (he pins s σ H _ I h) λv s1 ⟨x,H1,I1,r1,q1⟩=>⟨σ,H1,I1,q1⟩) I.quiet hs
def Vq(te:TE):TS:=λD σ H=>te σ H D.rt
theorem aX(he:PE X e te):PS X (.Return (some e) pos) (Vq te):=by
 intro pins s σ H D I h
 exact wpAny_Return_some (aB (he pins s σ H _ I h) λv s1 ⟨x,H1,I1,r1,q1⟩=>⟨x,σ,H1,I1,r1,q1⟩)
def Vr(c:TT)(t u:TS):TS:=λD σ H=>c σ H λb H1=>if b=true then t D σ H1 else u D σ H1
theorem bJ{c:Expr}{a b:List Stmt}{tc:TT}(hc:PT X c tc)(ha:gS X a t)(hb:gS X b u):PS X (.If c a b pos) (Vr tc t u):=by
 intro pins s σ H D I h
 refine wpAny_If (aB (hc pins s σ H _ I h) λd s1 ⟨H1,I1,q1⟩=>?_)
 cases d with
 |true=>exact ha pins s1 σ H1 D I1 q1
 |false=>exact hb pins s1 σ H1 D I1 q1
def Vs:TS:=λ_ _ _=>False
theorem wB:PS X st Vs:=λ_ _ _ _ _ _ h=>h.elim
end
abbrev TG:=V->St->Hp->(St->Hp->Prop)->Prop
abbrev qY:=List V->St->Hp->(St->Hp->Prop)->Prop
def PG(X:Cx)(target:Expr)(t:TG):Prop:=
 ∀(pins:List (Addr×Obj)) (s:Shared) (σ:St) (H:Hp) (v:V) (u:Value) (Q:St->Hp->Prop),Inv X pins σ H s->RelV v u->t v σ H Q->
  wpAny (model X.prog X.w) X.A (assign target X.env u) (λ_ s' =>∃σ' H',Inv X pins σ' H' s'/\Q σ' H') X.xe s
def zS(X:Cx)(ts:List Expr)(t:qY):Prop:=
 ∀(pins:List (Addr×Obj)) (s:Shared) (σ:St) (H:Hp) (vs:List V) (us:List Value) (Q:St->Hp->Prop),Inv X pins σ H s->Vals vs us->t vs σ H Q->
  wpAny (model X.prog X.w) X.A (assignInOrder ((assignEach ts X.env).map (·.2)) us) (λ_ s' =>∃σ' H',Inv X pins σ' H' s'/\Q σ' H') X.xe s
abbrev Ds:=V->V->V->Hp->(Hp->Prop)->Prop
def KY(X:Cx)(t:Ds):Prop:=
 ∀(pins:List (Addr×Obj)) (s:Shared) (σ:St) (H:Hp) (o i v:V) (ov iv u:Value) (Q:Hp->Prop),Inv X pins σ H s->RelV o ov->RelV i iv->RelV v u->t o i v H Q->
  wpAny (model X.prog X.w) X.A (setItem ov iv u) (λ_ s' =>∃H',Inv X pins σ H' s'/\Q H') X.xe s
section
variable{X:Cx}{pos:Pos}
def tN(i:Nat):TG:=λv σ H Q=>Q (σ.set i (some v)) H
theorem bK{i:Nat}{x:Str}(hN:X.N.Nodup)(hi:X.N[i]? = some x)(hx:Loc X.env.scope x)(hf:X.fn x=true\/X.env.scope.names.lookup x=some .local:=by first | exact .inl rfl | exact .inr rfl | assumption):PG X (.Name x pos) (tN i):=by
 intro pins s σ H v u Q I r h
 exact wpAny_assign_Name (Dn I hN hi hx r (λs' I'=>⟨_,H,I',h⟩) hf)
def KZ:qY:=λvs σ H Q=>vs=[]/\Q σ H
def Dt(t:TG)(u:qY):qY:=λvs σ H Q=>∃v r,vs=v::r/\t v σ H λσ' H'=>u r σ' H' Q
theorem j0:zS X [] KZ:=by
 intro pins s σ H vs us Q I r h
 obtain⟨e,h⟩:=h
 subst e
 cases r
 exact assignInOrder_nil ⟨σ,H,I,h⟩
theorem d7{e:Expr}{es:List Expr}{t:TG}{u:qY}(h1:PG X e t)(h2:zS X es u)
  (hs:(assignEach (e::es) X.env).map (·.2)=assign e X.env::(assignEach es X.env).map (·.2):=by rfl):zS X (e::es) (Dt t u):=by
 intro pins s σ H vs us Q I r h
 obtain⟨v,vr,e1,h⟩:=h
 subst e1
 cases r with
 |cons r rr=>
  rw[hs]
  refine assignInOrder_cons (aB (h1 pins s σ H _ _ _ I r h) λ_ s1 ⟨σ1,H1,I1,q1⟩=>?_)
  exact h2 pins s1 σ1 H1 _ _ Q I1 rr q1
def K0(K:PySem.W.Frag)(n:Nat)(t:qY):TG:=λv σ H Q=>∃a xs,v = .ref a/\aq K H a xs/\xs.length=n/\t xs σ H Q
theorem j1{es:List Expr}{k:Nat}{t:qY}{n:Nat}(hc:X.calm=true)(h:zS X es t)
  (hn:(assignEach es X.env).length=n:=by rfl) (cX:(assignEach es X.env).findIdx? (·.1)=none:=by rfl):PG X (.Tuple es k pos) (K0 X.K n t):=by
 intro pins s σ H v u Q I r hw
 obtain⟨a,xs,e1,hq,hl,hw⟩:=hw
 subst e1
 cases r
 obtain⟨its,rv,ht,hz⟩:=I.tuple hq
 refine assign_Tuple_tuple (I.ok.hd hc) ht (by simp[hn,<-hl,rv.length]) cX λh' hx=>?_
 have I1:Inv X pins σ H { s with heap:=h' }:=I.kept (t':=s.toks) λb o e=>hx b o (bh (bf e)) e
 exact h pins _ σ H xs _ Q I1 (by simpa using rv) hw
def Vt(to ti:TE)(t:Ds):TG:=λv σ H Q=>to σ H λo H1=>ti σ H1 λi H2=>t o i v H2 λH3=>Q σ H3
theorem tO{o i:Expr}{to ti:TE}{t:Ds}(ho:PE X o to)(hi:PE X i ti)(hs:KY X t)
  (ha:∀v,assign (.Subscript o i pos) X.env v=(do
   let ov<-holding [v] (eval o X.env)
   let iv<-holding [v,ov] (eval i X.env)
   standAt pos
   holding [v,ov,iv] (setItem ov iv v)
   release [v,ov,iv] []):=by intro _;rfl):PG X (.Subscript o i pos) (Vt to ti t):=by
 intro pins s σ H v u Q I r h
 rw[ha]
 refine ai (gQ (aB (ho pins s σ H _ I h) λov s1 ⟨x,H1,I1,r1,q1⟩=>?_))
 refine ai (gQ (aB (hi pins s1 σ H1 _ I1 q1) λiv s2 ⟨y,H2,I2,r2,q2⟩=>?_))
 refine ai (wpAny_standAt (ai (gQ (aB (hs pins s2 σ H2 x y v ov iv u _ I2 r1 r2 r q2) λ_ s3 ⟨H3,I3,q3⟩=>?_))))
 exact wpAny_release ⟨σ,H3,I3,q3⟩
def zT(te:TE)(g:TG):TS:=λD σ H=>te σ H λx H1=>g x σ H1 D.nx
theorem qZ{tg e:Expr}{te:TE}{g:TG}(he:PE X e te)(hg:PG X tg g)(hs:swapsWithSole [tg] e pos.line X.env=pure false:=by rfl)(hw:swappedStores [tg] e X.env=pure none:=by rfl)
  (h1:(assignEach [tg] X.env).map (·.2)=[assign tg X.env]:=by rfl):PS X (.Assign [tg] e pos) (zT te g):=by
 intro pins s σ H D I h
 refine wpAny_Assign_stores (aB (he pins s σ H _ I h) λv s1 ⟨x,H1,I1,r1,q1⟩=>?_) hs hw
 rw[h1]
 exact aB (hg pins s1 σ H1 x v _ I1 r1 q1) λ_ s2 q=>q
theorem aO{i:Nat}{x:Str}{e:Expr}{te:TE}{pos':Pos}(hN:X.N.Nodup)(hi:X.N[i]? = some x)(hx:Loc X.env.scope x)(he:PE X e te)(hs:swapsWith e (some (.Name x pos')) pos.line X.env=pure false:=by rfl)(hf:X.fn x=true\/X.env.scope.names.lookup x=some .local:=by first | exact .inl rfl | exact .inr rfl | assumption) :
  PS X (.Assign [.Name x pos'] e pos) (zT te (tN i)):=by
 intro pins s σ H D I h
 refine wpAny_Assign_Name (aB (he pins s σ H _ I h) λv s1 ⟨y,H1,I1,r1,q1⟩=>?_) hs
 exact Dn I1 hN hi hx r1 (λs2 I2=>⟨_,H1,I2,q1⟩) hf
def Vu(c:TT)(tb:TS):TS:=λD σ H=>∃W:Nat->St->Hp->Prop,(∃m,W m σ H)/\∀m σ H,W m σ H->
 c σ H λb H1=>if b=true then ∃N:St->Hp->Prop,(∀σ' H',N σ' H'->∃m',m'<m/\W m' σ' H')/\tb { D with nx:=N,ct:=N,bk:=D.nx } σ H1 else D.nx σ H1
theorem K3{c:Expr}{body:List Stmt}{tc:TT}{tb:TS}(hp:PassesOwn (model X.prog X.w) X.A X.env X.xe)(hc:PT X c tc)(hb:gS X body tb):PS X (.While c body [] pos) (Vu tc tb):=by
 intro pins s σ H D I h
 obtain⟨W,⟨m0,w0⟩,turn⟩:=h
 refine wpAny_While (codeAny_whileLoop (λn s' =>∃σ' H',Inv X pins σ' H' s'/\W n σ' H') ?_ m0 ⟨σ,H,I,w0⟩)
 rintro n s1 ⟨σ1,H1,I1,w1⟩
 refine vR hp (aB (hc pins s1 σ1 H1 _ I1 (turn n σ1 H1 w1)) λb s2 ⟨H2,I2,q2⟩=>?_)
 cases b with
 |true=>
  obtain⟨N,hN,q2⟩:=q2
  rw[aA rfl]
  refine vR hp (aB (hb pins s2 σ1 H2 _ I2 q2) λf s3 q3=>?_)
  cases f with
  |next=>
   obtain⟨σ3,H3,I3,n3⟩:=q3
   obtain⟨m',hm,w3⟩:=hN σ3 H3 n3
   exact⟨m',hm,σ3,H3,I3,w3⟩
  |cont=>
   obtain⟨σ3,H3,I3,n3⟩:=q3
   obtain⟨m',hm,w3⟩:=hN σ3 H3 n3
   exact⟨m',hm,σ3,H3,I3,w3⟩
  |brk=>exact q3
  |ret v=>exact q3
 |false=>
  rw[aw cj]
  exact JZ ⟨σ1,H2,I2,q2⟩
end
structure It where
 go:Nat->Hp->Prop
 gv:Nat->Hp->V->Hp->Prop
 stop:Nat->Hp->Prop
def dU(X:Cx)(pins:List (Addr×Obj))(H:Hp)(b:Addr):Prop:=
 H b=none/\b≠X.env.locals/\b∉X.fs/\(b∈X.ex\/X.s₀.heap.objs.size<=b)/\(∀x c,X.env.cells.lookup x=some c->c≠b)/\∀p∈X.pn++pins,p.1≠b
theorem Inv.gT{X:Cx}{pins:List (Addr×Obj)}{σ:St}{H H':Hp}{s:Shared}{b:Addr}(I:Inv X pins σ H s)(hb:s.heap.objs.size<=b)(hn:H' b=none):dU X pins H' b:=by
 refine⟨hn,ze (fS I.lt hb),I.Vb hb,.inr (bO I.sz hb),λx c e z=>?_,λp hp z=>?_⟩
 .obtain⟨v,q⟩:=I.cell x c e
  exact absurd (fS q.lt (by rw[z];exact hb)) (qH _)
 .exact absurd (fS (bf (I.pin p hp).1) (by rw[z];exact hb)) (qH _)
structure Turn(P:Program)(w:World)(K:PySem.W.Frag)(tg:Expr)(J:It)(fp:List Addr)(it:Addr)(tn:Nat->Heap->Prop):Prop where
 mem:it∈fp
 obj:∀i h,tn i h->∀b∈fp,∃o,h.get? b=some o/\∀v,o.data ≠ .cell v
 keep:∀i h h',tn i h->(∀b∈fp,∀o,h.get? b=some o->h'.get? b=some o)->tn i h'
 item:∀(X:Cx),X.prog=P->X.w=w->X.K=K->X.calm=true->∀(i:Nat) (pins:List (Addr×Obj)) (s:Shared) (σ:St) (H:Hp) (E:Value->Shared->Prop),Inv X pins σ H s->(∀b∈fp,dU X pins H b)->tn i s.heap->J.go i H->
  wpAny (model P w) X.A (pyNext (.ref it)) (λr s1=>∃u,r=some u/\
   wpAny (model P w) X.A (letOwnedTupleGo tg (.ref it) u) (λ_ s2=>∃x H',Inv X pins σ H' s2/\RelV x u/\J.gv i H x H'/\tn (i+1) s2.heap/\∀b∈fp,H' b=none) E s1) E s
 done:∀(X:Cx),X.prog=P->X.w=w->X.K=K->X.calm=true->∀(i:Nat) (pins:List (Addr×Obj)) (s:Shared) (σ:St) (H:Hp) (E:Value->Shared->Prop),Inv X pins σ H s->(∀b∈fp,dU X pins H b)->tn i s.heap->J.stop i H->
  wpAny (model P w) X.A (pyNext (.ref it)) (λr s1=>r=none/\Inv X pins σ H s1) E s
 self:∀(A:Around) (i:Nat) (s:Shared) (Q:Value->Shared->Prop) (E:Value->Shared->Prop),tn i s.heap->Q (.ref it) s->wpAny (model P w) A (pyIter (.ref it)) Q E s
abbrev TI:=St->Hp->(It->Hp->Prop)->Prop
def K4(X:Cx)(pins:List (Addr×Obj))(σ:St)(tg:Expr)(R:It->Hp->Prop)(wC:Value)(s2:Shared):Prop:=
 ∃(it:Addr) (fp:List Addr) (tn:Nat->Heap->Prop) (J:It) (H':Hp),wC = .ref it/\Inv X pins σ H' s2/\Turn X.prog X.w X.K tg J fp it tn/\tn 0 s2.heap/\(∀b∈fp,dU X pins H' b)/\R J H'
def PI(X:Cx)(tg iter:Expr)(wi:TI):Prop:=
 ∀(pins:List (Addr×Obj)) (s:Shared) (σ:St) (H:Hp) (R:It->Hp->Prop),Inv X pins σ H s->wi σ H R->
  wpAny (model X.prog X.w) X.A (eval iter X.env) (λv s1=>wpAny (model X.prog X.w) X.A (pyIter v) (K4 X pins σ tg R) X.xe s1) X.xe s
theorem tP{M:Model}{A:Around}{E:Value->Shared->Prop}{s:Shared}{tg:Expr}{it:Addr}{u:Value}{o:Obj}{n:String}{vs:Array Value}{Q:Unit->Shared->Prop}(ho:s.heap.get? it=some o)(hc:o.cls = .type n)(hd:o.data = .fields vs)
  (hn:["enumerate","zip","dict_itemiterator","dict_reverseitemiterator","odict_iterator","itertools.zip_longest","itertools.pairwise"].contains n=false) (hQ:Q () s):wpAny M A (letOwnedTupleGo tg (.ref it) u) Q E s:=by
 unfold letOwnedTupleGo
 cases tg <;> first
  |exact aM hQ
  |(cases u <;> first
    |exact aM hQ
    |(refine ai (wpAny_load ho ?_)
      rw[hc,hd]
      show wpAny M A (if (["enumerate","zip","dict_itemiterator","dict_reverseitemiterator","odict_iterator","itertools.zip_longest","itertools.pairwise"].contains n&&vs[0]? == some (rawInt _))=true then _ else _) Q E s
      rw[aw (by intro h;rw[hn,iq] at h;cases h)]
      exact aM hQ))
def q0(K:PySem.W.Frag)(a:Addr):It:=
 ⟨λi H=>∃xs x,aj K H a xs/\xs[i]? = some x,λi H x H'=>H'=H/\∀xs,aj K H a xs->xs[i]? = some x,λi H=>∃xs,aj K H a xs/\xs.length<=i⟩
def tQ(K:PySem.W.Frag)(a:Addr):It:=
 ⟨λi H=>∃xs x,aq K H a xs/\xs[i]? = some x,λi H x H'=>H'=H/\∀xs,aq K H a xs->xs[i]? = some x,λi H=>∃xs,aq K H a xs/\xs.length<=i⟩
def lR(lo:Int)(n:Nat):It:=⟨λi _=>i<n,λi H x H'=>H'=H/\x = .int (lo+i),λi _=>n<=i⟩
theorem Vv{P:Program}{w:World}{K:PySem.W.Frag}{tg:Expr}(a it:Addr):Turn P w K tg (q0 K a) [it] it (λi h=>h.IsListIter it a i) where
 mem:=by simp
 obj:=λi h st b hb=>by
  have e:b=it:=by simpa using hb
  subst e
  obtain⟨o,e,c,d⟩:=st
  exact⟨o,e,λv z=>by rw[d] at z;cases z⟩
 keep:=λi h h' st k=>st.at λo e=>k it (by simp) o e
 item:=by
  intro X hP hw hK hc i pins s σ H E I hf st hg
  subst hP hw hK
  obtain⟨xs,x,hq,hx⟩:=hg
  obtain⟨its,rv,p,hz⟩:=I.list hq
  obtain⟨u,hu,ru⟩:=rv.get hx
  obtain⟨f0,f1,f2,f3,f4,f5⟩:=hf it (by simp)
  refine wpAny_pyNext_list_item st p.isList (x:=u) (by simpa using hu) λh' d8 sb=>?_
  have I1:Inv X pins σ H { s with heap:=h' }:=I.turned (t':=s.toks) (λb o hb e=>(sb.2 b hb).trans e) f0 f1 f3 f4 f5
  obtain⟨o,e,c,d⟩:=id d8
  exact⟨u,rfl,tP (s:={ s with heap:=h' }) e c d (by decide) ⟨x,H,I1,ru,⟨rfl,λys hy=>by rw[I.Dp hy hq];exact hx⟩,d8,λb hb=>(hf b hb).1⟩⟩
 done:=by
  intro X hP hw hK hc i pins s σ H E I hf st hg
  subst hP hw hK
  obtain⟨xs,hq,hx⟩:=hg
  obtain⟨its,rv,p,hz⟩:=I.list hq
  obtain⟨f0,f1,f2,f3,f4,f5⟩:=hf it (by simp)
  have hl:=rv.length
  exact wpAny_pyNext_list_end (I.ok.hd hc) st p.isList (by simp;omega) λh' eb=>⟨rfl,I.turned (t':=s.toks) (λb o hb e=>eb b o hb e) f0 f1 f3 f4 f5⟩
 self:=λ_ _ _ _ _ st h=>wpAny_pyIter_listiter st h
theorem Vw{P:Program}{w:World}{K:PySem.W.Frag}{tg:Expr}(a it:Addr):Turn P w K tg (tQ K a) [it] it (λi h=>h.IsTupleIter it a i) where
 mem:=by simp
 obj:=λi h st b hb=>by
  have e:b=it:=by simpa using hb
  subst e
  obtain⟨o,e,c,d⟩:=st
  exact⟨o,e,λv z=>by rw[d] at z;cases z⟩
 keep:=λi h h' st k=>st.at λo e=>k it (by simp) o e
 item:=by
  intro X hP hw hK hc i pins s σ H E I hf st hg
  subst hP hw hK
  obtain⟨xs,x,hq,hx⟩:=hg
  obtain⟨its,rv,p,hz⟩:=I.tuple hq
  obtain⟨u,hu,ru⟩:=rv.get hx
  obtain⟨f0,f1,f2,f3,f4,f5⟩:=hf it (by simp)
  refine wpAny_pyNext_tuple_item st (show s.heap.IsTuple a its.toArray from p) (x:=u) (by simpa using hu) λh' d8 sb=>?_
  have I1:Inv X pins σ H { s with heap:=h' }:=I.turned (t':=s.toks) (λb o hb e=>(sb.2 b hb).trans e) f0 f1 f3 f4 f5
  obtain⟨o,e,c,d⟩:=id d8
  exact⟨u,rfl,tP (s:={ s with heap:=h' }) e c d (by decide) ⟨x,H,I1,ru,⟨rfl,λys hy=>by rw[I.Dr hy hq];exact hx⟩,d8,λb hb=>(hf b hb).1⟩⟩
 done:=by
  intro X hP hw hK hc i pins s σ H E I hf st hg
  subst hP hw hK
  obtain⟨xs,hq,hx⟩:=hg
  obtain⟨its,rv,p,hz⟩:=I.tuple hq
  obtain⟨f0,f1,f2,f3,f4,f5⟩:=hf it (by simp)
  have hl:=rv.length
  exact wpAny_pyNext_tuple_end (I.ok.hd hc) st (show s.heap.IsTuple a its.toArray from p) (by simp;omega) λh' eb=>⟨rfl,I.turned (t':=s.toks) (λb o hb e=>eb b o hb e) f0 f1 f3 f4 f5⟩
 self:=λ_ _ _ _ _ st h=>wpAny_pyIter_tupleiter st h
theorem Vx{P:Program}{w:World}{K:PySem.W.Frag}{tg:Expr}(it:Addr)(lo:Int)(n:Nat):Turn P w K tg (lR lo n) [it] it (λi h=>IsRangeIter h it (lo+(i:Nat)*1) ((n:Int) - (i:Nat)) 1) where
 mem:=by simp
 obj:=λi h st b hb=>by
  have e:b=it:=by simpa using hb
  subst e
  exact⟨_,st,λv z=>by
   have z':Data.fields _=Data.cell v:=z
   cases z'⟩
 keep:=λi h h' st k=>k it (by simp) _ st
 item:=by
  intro X hP hw hK hc i pins s σ H E I hf st hg
  subst hP hw hK
  obtain⟨f0,f1,f2,f3,f4,f5⟩:=hf it (by simp)
  have W:=Walks.range (prog:=X.prog) (w:=X.w) (I.ok.hd hc) it lo 1 n
  refine W.item i s _ _ hg st λv h' tk hv d8 kk=>?_
  obtain⟨t,rfl⟩:=hv
  have I1:Inv X pins σ H { s with heap:=h',toks:=tk }:=I.turned (λb o hb e=>kk b o (by simpa using hb) e) f0 f1 f3 f4 f5
  refine⟨_,rfl,tP (s:={ s with heap:=h',toks:=tk }) (n:="range_iterator") d8 rfl rfl (by decide) ⟨.int (lo+i),H,I1,⟨t,?_⟩,⟨rfl,rfl⟩,d8,λb hb=>(hf b hb).1⟩⟩
  rw[Int.mul_one]
 done:=by
  intro X hP hw hK hc i pins s σ H E I hf st hg
  subst hP hw hK
  obtain⟨f0,f1,f2,f3,f4,f5⟩:=hf it (by simp)
  exact wpAny_pyNext_range_end (I.ok.hd hc) st (by have:n<=i:=hg;omega) λh' eb=>⟨rfl,I.turned (t':=s.toks) (λb o hb e=>eb b o hb e) f0 f1 f3 f4 f5⟩
 self:=λ_ _ _ _ _ st h=>wpAny_pyIter_rangeiter st h
section
variable{X:Cx}{tg:Expr}
def Vy(K:PySem.W.Frag)(tl:TE):TI:=λσ H R=>tl σ H λx H1=>∃a,x = .ref a/\(∃xs,aj K H1 a xs)/\R (q0 K a) H1
def Vz(K:PySem.W.Frag)(tl:TE):TI:=λσ H R=>tl σ H λx H1=>∃a,x = .ref a/\(∃xs,aq K H1 a xs)/\R (tQ K a) H1
theorem dQ{l:Expr}{tl:TE}(hl:PE X l tl):PI X tg l (Vy X.K tl):=by
 intro pins s σ H R I h
 refine aB (hl pins s σ H _ I h) λv s1 ⟨x,H1,I1,r1,q1⟩=>?_
 obtain⟨a,e,⟨xs,hq⟩,q⟩:=q1
 subst e
 cases r1
 obtain⟨its,rv,p,hz⟩:=I1.list hq
 refine tf p.isList ?_
 refine⟨s1.heap.objs.size,[s1.heap.objs.size],_,_,H1,rfl,I1.kept (t':=s1.toks) λb o e=>bz _ e,Vv a _,⟨_,cB _ rfl,rfl,rfl⟩,λb hb=>?_,q⟩
 have e:b=s1.heap.objs.size:=by simpa using hb
 subst e
 exact I1.gT (aP _) (I1.aC.fresh (aP _))
theorem zU{l:Expr}{tl:TE}(hl:PE X l tl):PI X tg l (Vz X.K tl):=by
 intro pins s σ H R I h
 refine aB (hl pins s σ H _ I h) λv s1 ⟨x,H1,I1,r1,q1⟩=>?_
 obtain⟨a,e,⟨xs,hq⟩,q⟩:=q1
 subst e
 cases r1
 obtain⟨its,rv,p,hz⟩:=I1.tuple hq
 refine J0 (show s1.heap.IsTuple a its.toArray from p) ?_
 refine⟨s1.heap.objs.size,[s1.heap.objs.size],_,_,H1,rfl,I1.kept (t':=s1.toks) λb o e=>bz _ e,Vw a _,⟨_,cB _ rfl,rfl,rfl⟩,λb hb=>?_,q⟩
 have e:b=s1.heap.objs.size:=by simpa using hb
 subst e
 exact I1.gT (aP _) (I1.aC.fresh (aP _))
theorem VA{pins:List (Addr×Obj)}{σ:St}{H:Hp}{s:Shared}{R:It->Hp->Prop}{E:Value->Shared->Prop}{lo hi:Int}{t u v:Tok}{tk:Nat}(I:Inv X pins σ H s)(h1 : -(2 ^ 62)<=lo)(h2:lo<2 ^ 62)(h3 : -(2 ^ 62)<=hi)(h4:hi<2 ^ 62)
  (q:R (lR lo (hi - lo).toNat) H):wpAny (model X.prog X.w) X.A (pyIter (.ref s.heap.objs.size)) (K4 X pins σ tg R) E { s with heap:=s.heap.push { cls := .type "range",data := .fields #[.int lo t,.int hi u,.int 1 v] },toks:=tk }:=by
 refine wpAny_pyIter_range (IsRange.new ..) (small_one h1 h2 h3 h4) ?_
 have I1:Inv X pins σ H { s with heap:=s.heap.push { cls := .type "range",data := .fields #[.int lo t,.int hi u,.int 1 v] },toks:=tk }:=I.kept λb o e=>bz _ e
 refine⟨(s.heap.push { cls := .type "range",data := .fields #[.int lo t,.int hi u,.int 1 v] }).objs.size,[(s.heap.push { cls := .type "range",data := .fields #[.int lo t,.int hi u,.int 1 v] }).objs.size],_,_,H,rfl,
  I1.kept (t':=tk) λb o e=>bz _ e,Vx _ lo (hi - lo).toNat,?_,λb hb=>?_,q⟩
 .have e1:lo+((0:Nat):Int)*1=lo:=by simp
  have e2:(((hi - lo).toNat:Nat):Int) - ((0:Nat):Int)=Builtin.Range.rangeSize lo hi 1:=by rw[rangeSize_one];split <;> omega
  show IsRangeIter _ _ (lo+((0:Nat):Int)*1) ((((hi - lo).toNat:Nat):Int) - ((0:Nat):Int)) 1
  rw[e1,e2]
  exact cB _ rfl
 .have e:b=(s.heap.push { cls := .type "range",data := .fields #[.int lo t,.int hi u,.int 1 v] }).objs.size:=by simpa using hb
  subst e
  exact I1.gT (aP _) (I1.aC.fresh (aP _))
def VB(ta:TA):TI:=λσ H R=>ta σ H λvs H1=>∃j:Int,vs=[.int j]/\ -(2 ^ 62)<=j/\j<2 ^ 62/\R (lR 0 j.toNat) H1
theorem iW{a:Expr}{ta:TA}{p pos:Pos}(hg:Gl X "range")(hm:X.mg "range"=none)(ha:PA X [a] ta)(hs:starEach [a] X.env=[(false,eval a X.env)]:=by rfl):PI X tg (.Call (.Name "range" p) [a] [] pos) (VB ta):=by
 intro pins s σ H R I h
 refine Call_ (lP I hg hm boot_range (vS (aB (ha pos pins s σ H _ I h) λus s1 ⟨vs,H1,I1,r1,q1⟩=>?_) hs rfl))
 obtain⟨j,e,q1,q2,q⟩:=q1
 subst e
 cases r1 with
 |cons r rr=>
  cases rr
  obtain⟨t,rfl⟩:=r
  exact call_range_1 (VA I1 (by omega) (by omega) q1 q2 (by simpa using q))
def VC(wi:TI)(g:TG)(tb:TS):TS:=λD σ H=>wi σ H λJ H1=>∃W:Nat->Nat->St->Hp->Prop,(∃m,W 0 m σ H1)/\∀i m σ H,W i m σ H->
 (J.stop i H/\D.nx σ H)\/(J.go i H/\∃N:St->Hp->Prop,(∀σ' H',N σ' H'->∃m',m'<m/\W (i+1) m' σ' H')/\∀x H',J.gv i H x H'->g x σ H' λσ2 H2=>tb { D with nx:=N,ct:=N,bk:=D.nx } σ2 H2)
def tR(fp:List Addr)(h:Heap):List (Addr×Obj):=fp.filterMap λb=>(h.get? b).map λo=>(b,o)
theorem tS{fp:List Addr}{h:Heap}{b:Addr}{o:Obj}(hb:b∈fp)(e:h.get? b=some o):(b,o)∈tR fp h:=List.mem_filterMap.mpr ⟨b,hb,by rw[e];rfl⟩
theorem VD{fp:List Addr}{h:Heap}{p:Addr×Obj}(hp:p∈tR fp h):p.1∈fp/\h.get? p.1=some p.2:=by
 obtain⟨b,hb,e⟩:=List.mem_filterMap.mp hp
 cases q:h.get? b with
 |none=>rw[q] at e;cases e
 |some o=>
  rw[q] at e
  have e':(b,o)=p:=dm e
  subst e'
  exact⟨hb,q⟩
theorem Inv.pinned{pins:List (Addr×Obj)}{σ:St}{H:Hp}{s:Shared}{fp:List Addr}(I:Inv X pins σ H s)(hf:∀b∈fp,dU X pins H b)(ho:∀b∈fp,∃o,s.heap.get? b=some o/\∀v,o.data ≠ .cell v):Inv X (pins++tR fp s.heap) σ H s:=
 I.zO λp hp=>(du.mp hp).elim (λz=>I.pin p (fE _ z)) λz=>by
  obtain⟨hb,e⟩:=VD z
  obtain⟨f0,f1,f2,_⟩:=hf p.1 hb
  obtain⟨o,e',d⟩:=ho p.1 hb
  rw[e] at e';cases e'
  exact⟨e,f0,f1,f2,d⟩
theorem Inv.q8{pins pl:List (Addr×Obj)}{σ:St}{H:Hp}{s:Shared}(I:Inv X (pins++pl) σ H s):Inv X pins σ H s:=I.zO λp hp=>I.pin p (fE _ (oQ _ hp))
theorem cM{iter:Expr}{body:List Stmt}{wi:TI}{g:TG}{tb:TS}{pos:Pos}(hp:PassesOwn (model X.prog X.w) X.A X.env X.xe)(hc:X.calm=true)(hi:PI X tg iter wi)(hg:PG X tg g)(hb:gS X body tb)
  (hs:∀x,foldedSetIterable iter X.env x=pure x:=by intro _;rfl):PS X (.For tg iter body [] pos) (VC wi g tb):=by
 intro pins s σ H D I h
 refine wpAny_For (aB (hi pins s σ H _ I h) λv s1 h1=>aB h1 λwC s2 h2=>?_) hs
 obtain⟨it,fp,tn,J,H2,e,I2,T,gw,f2,W,⟨m0,w0⟩,turn⟩:=h2
 subst e
 have Du:∀{H':Hp},(∀b∈fp,H' b=none)->∀b∈fp,dU X pins H' b:=λhn b hb=>⟨hn b hb,(f2 b hb).2⟩
 refine codeAny_forLoop_any (λn s' =>∃i σ' H',Inv X pins σ' H' s'/\tn i s'.heap/\(∀b∈fp,H' b=none)/\W i n σ' H') ?_ m0 ⟨0,σ,H2,I2,gw,λb hb=>(f2 b hb).1,w0⟩
 rintro n s3 ⟨i,σ3,H3,I3,pC,K5,w3⟩
 rcases turn i n σ3 H3 w3 with ⟨stop,qn⟩ | ⟨go,N,hN,step⟩
 .refine vR hp (aB (T.done X rfl rfl rfl hc i pins s3 σ3 H3 X.xe I3 (Du K5) pC stop) λr s4 ⟨hr,I4⟩=>?_)
  subst hr
  exact JZ ⟨σ3,H3,I4,qn⟩
 .refine vR hp (aB (T.item X rfl rfl rfl hc i pins s3 σ3 H3 X.xe I3 (Du K5) pC go) λr s4 ⟨u,hr,h4⟩=>?_)
  subst hr
  refine vR hp (aB h4 λ_ s5 ⟨x,H5,I5,r5,y5,nB,rb⟩=>?_)
  have VE:=I5.pinned (Du rb) (T.obj _ _ nB)
  refine vR hp (aB (hg _ s5 σ3 H5 x u _ VE r5 (step x H5 y5)) λ_ s6 ⟨σ6,H6,I6,q6⟩=>?_)
  refine vR hp (aB (hb _ s6 σ6 H6 _ I6 q6) λf s7 q7=>?_)
  have again:∀{σ7:St}{H7:Hp},Inv X (pins++tR fp s5.heap) σ7 H7 s7->N σ7 H7->∃m,m<n/\∃i σ' H',Inv X pins σ' H' s7/\tn i s7.heap/\(∀b∈fp,H' b=none)/\W i m σ' H':=λ{σ7 H7} I7 n7=>by
   obtain⟨m',hm,w7⟩:=hN σ7 H7 n7
   refine⟨m',hm,i+1,σ7,H7,I7.q8,T.keep _ _ _ nB λb hb o e=>(I7.pin (b,o) (fE _ (fE _ (tS hb e)))).1,λb hb=>?_,w7⟩
   obtain⟨o,e,d⟩:=T.obj _ _ nB b hb
   exact(I7.pin (b,o) (fE _ (fE _ (tS hb e)))).2.1
  cases f with
  |next=>obtain⟨σ7,H7,I7,n7⟩:=q7;exact again I7 n7
  |cont=>obtain⟨σ7,H7,I7,n7⟩:=q7;exact again I7 n7
  |brk=>obtain⟨σ7,H7,I7,q7⟩:=q7;exact⟨σ7,H7,I7.q8,q7⟩
  |ret v=>obtain⟨x7,σ7,H7,I7,r7,q7⟩:=q7;exact⟨x7,σ7,H7,I7.q8,r7,q7⟩
end
theorem j2{K:PySem.W.Frag}{a:Addr}{xs:List V}{g:TG}{tb:TS}{D:Ends}{σ:St}{H:Hp}(Pv:Nat->St->Hp->Prop)(h0:Pv 0 σ H)(hl:∀i σ H,i<=xs.length->Pv i σ H->aj K H a xs)
  (hs:∀i x σ H,xs[i]? = some x->Pv i σ H->g x σ H λσ2 H2=>tb { D with nx:=Pv (i+1),ct:=Pv (i+1),bk:=D.nx } σ2 H2) (hd:∀σ H,Pv xs.length σ H->D.nx σ H) :
  ∃W:Nat->Nat->St->Hp->Prop,(∃m,W 0 m σ H)/\∀i m σ H,W i m σ H->
   ((q0 K a).stop i H/\D.nx σ H)\/((q0 K a).go i H/\∃N:St->Hp->Prop,(∀σ' H',N σ' H'->∃m',m'<m/\W (i+1) m' σ' H')/\∀x H',(q0 K a).gv i H x H'->g x σ H' λσ2 H2=>tb { D with nx:=N,ct:=N,bk:=D.nx } σ2 H2):=by
 refine⟨λi m σ H=>m=xs.length - i/\i<=xs.length/\Pv i σ H,⟨xs.length,by simp,bC _,h0⟩,?_⟩
 rintro i m σ H ⟨rfl,hi,p⟩
 have q:=hl i σ H hi p
 by_cases aJ:i<xs.length
 .refine .inr ⟨⟨xs,xs[i],q,by simp[aJ]⟩,Pv (i+1),λσ' H' p'=>⟨xs.length - (i+1),by omega,rfl,aJ,p'⟩,λx H' y=>?_⟩
  obtain⟨e,y⟩:=y
  subst e
  exact hs i x σ _ (y xs q) p
 .have e:i=xs.length:=by omega
  subst e
  exact .inl ⟨⟨xs,q,aP _⟩,hd σ H p⟩
theorem VF{K:PySem.W.Frag}{a:Addr}{xs:List V}{g:TG}{tb:TS}{D:Ends}{σ:St}{H:Hp}(Pv:Nat->St->Hp->Prop)(h0:Pv 0 σ H)(hl:∀i σ H,i<=xs.length->Pv i σ H->aq K H a xs)
  (hs:∀i x σ H,xs[i]? = some x->Pv i σ H->g x σ H λσ2 H2=>tb { D with nx:=Pv (i+1),ct:=Pv (i+1),bk:=D.nx } σ2 H2) (hd:∀σ H,Pv xs.length σ H->D.nx σ H) :
  ∃W:Nat->Nat->St->Hp->Prop,(∃m,W 0 m σ H)/\∀i m σ H,W i m σ H->
   ((tQ K a).stop i H/\D.nx σ H)\/((tQ K a).go i H/\∃N:St->Hp->Prop,(∀σ' H',N σ' H'->∃m',m'<m/\W (i+1) m' σ' H')/\∀x H',(tQ K a).gv i H x H'->g x σ H' λσ2 H2=>tb { D with nx:=N,ct:=N,bk:=D.nx } σ2 H2):=by
 refine⟨λi m σ H=>m=xs.length - i/\i<=xs.length/\Pv i σ H,⟨xs.length,by simp,bC _,h0⟩,?_⟩
 rintro i m σ H ⟨rfl,hi,p⟩
 have q:=hl i σ H hi p
 by_cases aJ:i<xs.length
 .refine .inr ⟨⟨xs,xs[i],q,by simp[aJ]⟩,Pv (i+1),λσ' H' p'=>⟨xs.length - (i+1),by omega,rfl,aJ,p'⟩,λx H' y=>?_⟩
  obtain⟨e,y⟩:=y
  subst e
  exact hs i x σ _ (y xs q) p
 .have e:i=xs.length:=by omega
  subst e
  exact .inl ⟨⟨xs,q,aP _⟩,hd σ H p⟩
theorem VG{lo:Int}{n:Nat}{g:TG}{tb:TS}{D:Ends}{σ:St}{H:Hp}(Pv:Nat->St->Hp->Prop)(h0:Pv 0 σ H)
  (hs:∀i σ H,i<n->Pv i σ H->g (.int (lo+i)) σ H λσ2 H2=>tb { D with nx:=Pv (i+1),ct:=Pv (i+1),bk:=D.nx } σ2 H2) (hd:∀σ H,Pv n σ H->D.nx σ H) :
  ∃W:Nat->Nat->St->Hp->Prop,(∃m,W 0 m σ H)/\∀i m σ H,W i m σ H->
   ((lR lo n).stop i H/\D.nx σ H)\/((lR lo n).go i H/\∃N:St->Hp->Prop,(∀σ' H',N σ' H'->∃m',m'<m/\W (i+1) m' σ' H')/\∀x H',(lR lo n).gv i H x H'->g x σ H' λσ2 H2=>tb { D with nx:=N,ct:=N,bk:=D.nx } σ2 H2):=by
 refine⟨λi m σ H=>m=n - i/\i<=n/\Pv i σ H,⟨n,by simp,bC _,h0⟩,?_⟩
 rintro i m σ H ⟨rfl,hi,p⟩
 by_cases aJ:i<n
 .refine .inr ⟨aJ,Pv (i+1),λσ' H' p'=>⟨n - (i+1),by omega,rfl,aJ,p'⟩,λx H' y=>?_⟩
  obtain⟨e,y⟩:=y
  subst e y
  exact hs i σ _ aJ p
 .have e:i=n:=by omega
  subst e
  exact .inl ⟨aP _,hd σ H p⟩
abbrev R2:=V->V->Hp->VK->Prop
def cN(X:Cx)(f:Value->Value->Sem Value)(r:R2):Prop:=
 ∀(pins:List (Addr×Obj)) (s:Shared) (σ:St) (H:Hp) (x y:V) (v u:Value) (Q:VK),Inv X pins σ H s->RelV x v->RelV y u->r x y H Q->
  wpAny (model X.prog X.w) X.A (f v u) (EP X pins σ Q) X.xe s
def Dv(X:Cx)(f:Value->Sem Value)(r:V->Hp->VK->Prop):Prop:=
 ∀(pins:List (Addr×Obj)) (s:Shared) (σ:St) (H:Hp) (x:V) (v:Value) (Q:VK),Inv X pins σ H s->RelV x v->r x H Q->
  wpAny (model X.prog X.w) X.A (f v) (EP X pins σ Q) X.xe s
def fW(X:Cx)(f:Value)(r:List V->Hp->VK->Prop):Prop:=
 ∀(pins:List (Addr×Obj)) (s:Shared) (σ:St) (H:Hp) (xs:List V) (us:List Value) (Q:VK),Inv X pins σ H s->Vals xs us->r xs H Q->
  wpAny (model X.prog X.w) X.A (call f us) (EP X pins σ Q) X.xe s
def VH(X:Cx)(r:V->Hp->(Bool->Hp->Prop)->Prop):Prop:=
 ∀(pins:List (Addr×Obj)) (s:Shared) (σ:St) (H:Hp) (x:V) (v:Value) (Q:Bool->Hp->Prop),Inv X pins σ H s->RelV x v->r x H Q->
  wpAny (model X.prog X.w) X.A (truthy v) (TP X pins σ Q) X.xe s
def pD(r:R2)(ta tb:TE):TE:=λσ H Q=>ta σ H λx H1=>tb σ H1 λy H2=>r x y H2 Q
def VI(r:V->Hp->VK->Prop)(ta:TE):TE:=λσ H Q=>ta σ H λx H1=>r x H1 Q
def rI(C:Int->Int->Prop)(g:Int->Int->V):R2:=λx y H Q=>∃i j,x = .int i/\y = .int j/\C i j/\Q (g i j) H
def pE(g:Int->Int->V):R2:=λx y H Q=>∃i j,x = .int i/\y = .int j/\Q (g i j) H
def rU(g:Int->V):V->Hp->VK->Prop:=λx H Q=>∃i,x = .int i/\Q (g i) H
section
variable{X:Cx}{a b c:Expr}{ta tb tc:TE}{pos:Pos}
theorem Dw(ha:PE X a ta)(hb:PE X b tb){pins:List (Addr×Obj)}{s:Shared}{σ:St}{H:Hp}{R:V->V->Hp->Prop}(I:Inv X pins σ H s)
  (h:ta σ H λx H1=>tb σ H1 λy H2=>R x y H2) {Q:Value->Shared->Prop}{f:Value->Value->Sem Value}
  (hf:∀v u s2 x y H2,Inv X pins σ H2 s2->RelV x v->RelV y u->R x y H2->wpAny (model X.prog X.w) X.A (f v u) Q X.xe s2) :
  wpAny (model X.prog X.w) X.A (eval a X.env) (λv s₁=>wpAny (model X.prog X.w) X.A (eval b X.env) (λu s₂=>wpAny (model X.prog X.w) X.A (f v u) Q X.xe s₂) X.xe s₁) X.xe s:=by
 refine aB (ha pins s σ H _ I h) λv s1 ⟨x,H1,I1,r1,q1⟩=>?_
 refine aB (hb pins s1 σ H1 _ I1 q1) λu s2 ⟨y,H2,I2,r2,q2⟩=>?_
 exact hf v u s2 x y H2 I2 r1 r2 q2
theorem aR{op:Operator}{r:R2}(ho:cN X (binaryOp op) r)(ha:PE X a ta)(hb:PE X b tb):PE X (.BinOp a op b pos) (pD r ta tb):=by
 intro pins s σ H Q I h
 exact wpAny_BinOp (Dw ha hb I h λv u s2 x y H2 I2 rx ry q=>ho pins s2 σ H2 x y v u Q I2 rx ry q)
theorem VJ{op:UnaryOp}{r:V->Hp->VK->Prop}(ho:Dv X (unaryOp op) r)(ha:PE X a ta):PE X (.UnaryOp op a pos) (VI r ta):=by
 intro pins s σ H Q I h
 exact UnaryOp_ (aB (ha pins s σ H _ I h) λv s1 ⟨x,H1,I1,r1,q1⟩=>ho pins s1 σ H1 x v Q I1 r1 q1)
theorem jv{f:Value->Value->Sem Value}{C:Int->Int->Prop}{g:Int->Int->Int}
  (rule:∀(i j:Int) (t u:Tok) (s:Shared) (Q:Value->Shared->Prop) (E:Value->Shared->Prop),C i j->Q (.int (g i j) s.toks) { s with toks:=s.toks+1 }->wpAny (model X.prog X.w) X.A (f (.int i t) (.int j u)) Q E s) :
  cN X f (rI C λi j=>.int (g i j)):=by
 intro pins s σ H x y v u Q I rx ry h
 obtain⟨i,j,rfl,rfl,hc,q⟩:=h
 obtain⟨t,rfl⟩:=rx
 obtain⟨t',rfl⟩:=ry
 exact rule i j t t' s _ _ hc ⟨.int (g i j),H,I.tok _,⟨_,rfl⟩,q⟩
theorem K6{f:Value->Value->Sem Value}{g:Int->Int->Int}
  (rule:∀(i j:Int) (t u:Tok) (s:Shared) (Q:Value->Shared->Prop) (E:Value->Shared->Prop),Q (.int (g i j) s.toks) { s with toks:=s.toks+1 }->wpAny (model X.prog X.w) X.A (f (.int i t) (.int j u)) Q E s) :
  cN X f (pE λi j=>.int (g i j)):=by
 intro pins s σ H x y v u Q I rx ry h
 obtain⟨i,j,rfl,rfl,q⟩:=h
 obtain⟨t,rfl⟩:=rx
 obtain⟨t',rfl⟩:=ry
 exact rule i j t t' s _ _ ⟨.int (g i j),H,I.tok _,⟨_,rfl⟩,q⟩
theorem zV{f:Value->Value->Sem Value}{g:Int->Int->Bool}
  (rule:∀(i j:Int) (t u:Tok) (s:Shared) (Q:Value->Shared->Prop) (E:Value->Shared->Prop),Q (.bool (g i j)) s->wpAny (model X.prog X.w) X.A (f (.int i t) (.int j u)) Q E s) :
  cN X f (pE λi j=>.bl (g i j)):=by
 intro pins s σ H x y v u Q I rx ry h
 obtain⟨i,j,rfl,rfl,q⟩:=h
 obtain⟨t,rfl⟩:=rx
 obtain⟨t',rfl⟩:=ry
 exact rule i j t t' s _ _ ⟨.bl (g i j),H,I,rfl,q⟩
def K7(i j:Int):Prop:=0<j/\j<1073741824
def zW(i j:Int):Prop:=(-(2 ^ 64)<i/\i<2 ^ 64)\/(-(2 ^ 64)<j/\j<2 ^ 64)
theorem zW.ok{i j:Int}(h:zW i j):IntMulOk i j:=by
 rcases h with ⟨h1,h2⟩ | ⟨h1,h2⟩
 .exact .of_left (intBits_le_64 h1 h2)
 .exact .of_right (intBits_le_64 h1 h2)
theorem eV:cN X (binaryOp .Add) (pE λi j=>.int (i+j)):=K6 λ_ _ _ _ _ _ _ q=>add_int q
theorem pF:cN X (binaryOp .Sub) (pE λi j=>.int (i - j)):=K6 λ_ _ _ _ _ _ _ q=>sub_int q
theorem tT:cN X (binaryOp .Mult) (rI zW λi j=>.int (i*j)):=jv λ_ _ _ _ _ _ _ hc q=>mul_int q hc.ok
theorem iX:cN X (binaryOp .FloorDiv) (rI K7 λi j=>.int (i / j)):=jv λi j _ _ _ _ _ hc q=>by
 have h1:(0:Int)<j:=hc.1
 have h2:j<1073741824:=hc.2
 exact floordiv_int (by omega) (by rw[Int.fdiv_eq_ediv_of_nonneg i (by omega)];exact q) (.inl (PyProof.noPylong_small (by omega)))
theorem fh:cN X (binaryOp .Mod) (rI (λ_ j=>0<j) λi j=>.int (i % j)):=jv λi j _ _ _ _ _ hc q=>by
 have h1:(0:Int)<j:=hc
 exact mod_int' (by omega) (by rw[Int.fmod_eq_emod_of_nonneg i (by omega)];exact q)
theorem VL{f:Value->Sem Value}{g:Int->Int}
  (rule:∀(i:Int) (t:Tok) (s:Shared) (Q:Value->Shared->Prop) (E:Value->Shared->Prop),Q (.int (g i) s.toks) { s with toks:=s.toks+1 }->wpAny (model X.prog X.w) X.A (f (.int i t)) Q E s) :
  Dv X f (rU λi=>.int (g i)):=by
 intro pins s σ H x v Q I rx h
 obtain⟨i,rfl,q⟩:=h
 obtain⟨t,rfl⟩:=rx
 exact rule i t s _ _ ⟨.int (g i),H,I.tok _,⟨_,rfl⟩,q⟩
theorem VM:Dv X (unaryOp .USub) (rU λi=>.int (-i)):=VL λ_ _ _ _ _ q=>neg_int q
end
def K8:V->V->Bool
 |.aD,.aD=>true | .aD,.int _=>true | .int _,.aD=>true | .aD,.bl _=>true | .bl _,.aD=>true | .aD,.str _=>true | .str _,.aD=>true
 |.int _,.int _=>true | .bl _,.bl _=>true | .str _,.str _=>true | .iS _,.iS _=>true
 |.int _,.str _=>true | .str _,.int _=>true | .bl _,.str _=>true | .str _,.bl _=>true
 |_,_=>false
def VN:R2:=λx y H Q=>K8 x y=true/\Q (.bl (decide (x=y))) H
def VO:R2:=λx y H Q=>K8 x y=true/\Q (.bl (!decide (x=y))) H
theorem K9{i j:Int}:decide (V.int i=V.int j)=(i==j):=by
 rw[zf]
 simp
theorem La{i j:Bool}:decide (V.bl i=V.bl j)=(i==j):=by
 rw[zf]
 simp
theorem Lb{i j:Str}:decide (V.str i=V.str j)=(i==j):=by
 rw[zf]
 simp
theorem Lc{i j:Array UInt8}:decide (V.iS i=V.iS j)=(i.toList==j.toList):=by
 rw[zf]
 cases i
 cases j
 simp
section
variable{X:Cx}{a b c:Expr}{ta tb tc:TE}{pos:Pos}
theorem cY{pins:List (Addr×Obj)}{σ:St}{H:Hp}{s:Shared}{Q:VK}{k k':Bool}(I:Inv X pins σ H s)(q:Q (.bl k) H)(e:k=k'):EP X pins σ Q (.bool k') s:=by
 subst e
 exact⟨.bl k,H,I,rfl,q⟩
theorem j3:cN X (compareOp .Eq) VN:=by
 intro pins s σ H x y v u Q I rx ry h
 obtain⟨hs,q⟩:=h
 cases x with
 |aD=>
  cases rx
  cases y with
  |aD=>cases ry;exact PySem.EqNone.eq_none_none (cY I q (by simp))
  |bl j=>cases ry;exact PySem.EqNone.eq_none_bool (cY I q (by simp))
  |int j=>obtain⟨t',rfl⟩:=ry;exact PySem.EqNone.eq_none_int (cY I q (by simp))
  |str j=>obtain⟨t',rfl⟩:=ry;exact PySem.EqNone.eq_none_str (cY I q (by simp))
  |_=>exact absurd (show false=true from hs) cj
 |bl i=>
  cases rx
  cases y with
  |aD=>cases ry;exact PySem.EqNone.eq_bool_none (cY I q (by simp))
  |bl j=>cases ry;exact eq_bool (cY I q La)
  |str j=>obtain⟨t',rfl⟩:=ry;exact PySem.EqMixed.eq_bool_str (cY I q (by simp))
  |_=>exact absurd (show false=true from hs) cj
 |int i=>
  obtain⟨t,rfl⟩:=rx
  cases y with
  |aD=>cases ry;exact PySem.EqNone.eq_int_none (cY I q (by simp))
  |int j=>obtain⟨t',rfl⟩:=ry;exact eq_int (cY I q K9)
  |str j=>obtain⟨t',rfl⟩:=ry;exact PySem.EqMixed.eq_int_str (cY I q (by simp))
  |_=>exact absurd (show false=true from hs) cj
 |str i=>
  obtain⟨t,rfl⟩:=rx
  cases y with
  |aD=>cases ry;exact PySem.EqNone.eq_str_none (cY I q (by simp))
  |bl j=>cases ry;exact PySem.EqMixed.eq_str_bool (cY I q (by simp))
  |int j=>obtain⟨t',rfl⟩:=ry;exact PySem.EqMixed.eq_str_int (cY I q (by simp))
  |str j=>obtain⟨t',rfl⟩:=ry;exact eq_str (cY I q Lb)
  |_=>exact absurd (show false=true from hs) cj
 |iS i=>
  obtain⟨t,rfl⟩:=rx
  cases y with
  |iS j=>obtain⟨t',rfl⟩:=ry;exact PySem.W.eq_bytes (cY I q Lc)
  |_=>exact absurd (show false=true from hs) cj
 |_=>cases y <;> exact absurd (show false=true from hs) cj
theorem iY:cN X (compareOp .NotEq) VO:=by
 intro pins s σ H x y v u Q I rx ry h
 obtain⟨hs,q⟩:=h
 cases x with
 |aD=>
  cases rx
  cases y with
  |aD=>cases ry;exact PySem.EqNone.ne_none_none (cY I q (by simp))
  |bl j=>cases ry;exact PySem.EqNone.ne_none_bool (cY I q (by simp))
  |int j=>obtain⟨t',rfl⟩:=ry;exact PySem.EqNone.ne_none_int (cY I q (by simp))
  |str j=>obtain⟨t',rfl⟩:=ry;exact PySem.EqNone.ne_none_str (cY I q (by simp))
  |_=>exact absurd (show false=true from hs) cj
 |bl i=>
  cases rx
  cases y with
  |aD=>cases ry;exact PySem.EqNone.ne_bool_none (cY I q (by simp))
  |bl j=>cases ry;exact ne_bool (cY I q (eD not La))
  |str j=>obtain⟨t',rfl⟩:=ry;exact PySem.EqMixed.ne_bool_str (cY I q (by simp))
  |_=>exact absurd (show false=true from hs) cj
 |int i=>
  obtain⟨t,rfl⟩:=rx
  cases y with
  |aD=>cases ry;exact PySem.EqNone.ne_int_none (cY I q (by simp))
  |int j=>obtain⟨t',rfl⟩:=ry;exact ne_int (cY I q (eD not K9))
  |str j=>obtain⟨t',rfl⟩:=ry;exact PySem.EqMixed.ne_int_str (cY I q (by simp))
  |_=>exact absurd (show false=true from hs) cj
 |str i=>
  obtain⟨t,rfl⟩:=rx
  cases y with
  |aD=>cases ry;exact PySem.EqNone.ne_str_none (cY I q (by simp))
  |bl j=>cases ry;exact PySem.EqMixed.ne_str_bool (cY I q (by simp))
  |int j=>obtain⟨t',rfl⟩:=ry;exact PySem.EqMixed.ne_str_int (cY I q (by simp))
  |str j=>obtain⟨t',rfl⟩:=ry;exact ne_str (cY I q (eD not Lb))
  |_=>exact absurd (show false=true from hs) cj
 |iS i=>
  obtain⟨t,rfl⟩:=rx
  cases y with
  |iS j=>obtain⟨t',rfl⟩:=ry;exact PySem.W.ne_bytes (cY I q (eD not Lc))
  |_=>exact absurd (show false=true from hs) cj
 |_=>cases y <;> exact absurd (show false=true from hs) cj
theorem lS:cN X (compareOp .Lt) (pE λi j=>.bl (decide (i<j))):=zV λ_ _ _ _ _ _ _ q=>lt_int q
theorem rf:cN X (compareOp .LtE) (pE λi j=>.bl (decide (i<=j))):=zV λ_ _ _ _ _ _ _ q=>le_int q
theorem zX:cN X (compareOp .Gt) (pE λi j=>.bl (decide (j<i))):=zV λ_ _ _ _ _ _ _ q=>gt_int q
theorem VP:cN X (compareOp .GtE) (pE λi j=>.bl (decide (j<=i))):=zV λ_ _ _ _ _ _ _ q=>ge_int q
theorem Dx:cN X (compareOp .In) (λx y H Q=>∃i j,x = .str i/\y = .str j/\Q (.bl (!(Builtin.Str.occurrences j i 0 j.length 1).isEmpty)) H):=by
 intro pins s σ H x y v u Q I rx ry h
 obtain⟨i,j,rfl,rfl,q⟩:=h
 obtain⟨t,rfl⟩:=rx
 obtain⟨t',rfl⟩:=ry
 exact in_str (cY I q rfl)
theorem Dy:cN X (compareOp .Is) (λx y H Q=>y = .aD/\Q (.bl (decide (x = .aD))) H):=by
 intro pins s σ H x y v u Q I rx ry h
 obtain⟨rfl,q⟩:=h
 cases ry
 refine is_none_gen (cY I q ?_)
 cases x <;> first
  |(cases rx;rfl)
  |(obtain⟨t,rfl⟩:=rx;rfl)
theorem Ld:cN X (compareOp .NotIn) (λx y H Q=>∃i j,x = .str i/\y = .str j/\Q (.bl (!(!(Builtin.Str.occurrences j i 0 j.length 1).isEmpty))) H):=by
 intro pins s σ H x y v u Q I rx ry h
 obtain⟨i,j,rfl,rfl,q⟩:=h
 obtain⟨t,rfl⟩:=rx
 obtain⟨t',rfl⟩:=ry
 exact notIn_str (cY I q rfl)
theorem cq(b:Expr){op:CmpOp}(h:op ≠ .In:=by decide)(h2:op ≠ .NotIn:=by decide):behindInMarks op b=false:=by
 have e1:(op==CmpOp.In)=false:=by cases op <;> first | rfl | exact absurd rfl h
 have e2:(op==CmpOp.NotIn)=false:=by cases op <;> first | rfl | exact absurd rfl h2
 cases b <;> simp[behindInMarks,e1,e2]
theorem pG{op:CmpOp}{r:R2}(ho:cN X (compareOp op) r)(ha:PE X a ta)(hb:PE X b tb)(hm:behindInMarks op b=false):PE X (.Compare a [op] [b] pos) (pD r ta tb):=by
 intro pins s σ H Q I h
 exact wpAny_Compare1 (Dw ha hb I h λv u s2 x y H2 I2 rx ry q=>ho pins s2 σ H2 x y v u Q I2 rx ry q) hm
def Dz(t:TE):TT:=λσ H Q=>t σ H λx H' =>∃k,x = .bl k/\Q k H'
theorem bT{op:CmpOp}{r:R2}(ho:cN X (compareOp op) r)(ha:PE X a ta)(hb:PE X b tb)(hm:behindInMarks op b=false):PT X (.Compare a [op] [b] pos) (Dz (pD r ta tb)):=by
 intro pins s σ H Q I h
 refine wpAny_isTrue_Compare1 (aB (ha pins s σ H _ I h) λv s1 ⟨x,H1,I1,r1,q1⟩=>aB (hb pins s1 σ H1 _ I1 q1) λu s2 ⟨y,H2,I2,r2,q2⟩=>
  aB (ho pins s2 σ H2 x y v u _ I2 r1 r2 q2) λc s3 ⟨z,H3,I3,r3,k,e,q3⟩=>?_) hm
 subst e
 cases r3
 exact oR ⟨H3,I3,q3⟩
def Le(r r':R2)(ta tb tc:TE):TE:=λσ H Q=>ta σ H λx H1=>tb σ H1 λy H2=>r x y H2 λz H3=>∃k,z = .bl k/\
 (if k=true then tc σ H3 λw' H4=>r' y w' H4 Q else Q (.bl false) H3)
theorem VQ{op rh:CmpOp}{r r':R2}(ho:cN X (compareOp op) r)(kJ:cN X (compareOp rh) r')(ha:PE X a ta)(hb:PE X b tb)(hc:PE X c tc)
  (hm:lastMarks [op,rh] [b,c]=false:=by with_unfolding_all rfl):PE X (.Compare a [op,rh] [b,c] pos) (Le r r' ta tb tc):=by
 intro pins s σ H Q I h
 refine Compare_chain (aB (ha pins s σ H _ I h) λv s1 ⟨x,H1,I1,r1,q1⟩=>chain_link (aB (hb pins s1 σ H1 _ I1 q1) λu s2 ⟨y,H2,I2,r2,q2⟩=>
  aB (ho pins s2 σ H2 x y v u _ I2 r1 r2 q2) λd s3 ⟨z,H3,I3,r3,k,e,q3⟩=>?_)) hm
 subst e
 cases r3
 refine oR ?_
 cases k with
 |false=>exact ite_ff ⟨.bl false,H3,I3,rfl,q3⟩
 |true=>exact ite_tt (chain_last (aB (hc pins s3 σ H3 _ I3 q3) λw' s4 ⟨z',H4,I4,r4,q4⟩=>kJ pins s4 σ H4 y z' u w' Q I4 r2 r4 q4))
theorem wD{op rh:CmpOp}{r r':R2}(ho:cN X (compareOp op) r)(kJ:cN X (compareOp rh) r')(ha:PE X a ta)(hb:PE X b tb)(hc:PE X c tc)
  (hm:lastMarks [op,rh] [b,c]=false:=by with_unfolding_all rfl):PT X (.Compare a [op,rh] [b,c] pos) (Dz (Le r r' ta tb tc)):=by
 intro pins s σ H Q I h
 refine isTrue_chain (aB (ha pins s σ H _ I h) λv s1 ⟨x,H1,I1,r1,q1⟩=>test_link (aB (hb pins s1 σ H1 _ I1 q1) λu s2 ⟨y,H2,I2,r2,q2⟩=>
  aB (ho pins s2 σ H2 x y v u _ I2 r1 r2 q2) λd s3 ⟨z,H3,I3,r3,k,e,q3⟩=>?_)) hm
 subst e
 cases r3
 refine oR ?_
 cases k with
 |false=>
  obtain⟨k',e',q'⟩:=q3
  cases e'
  exact ite_ff ⟨H3,I3,q'⟩
 |true=>
  refine ite_tt (test_last (aB (hc pins s3 σ H3 _ I3 q3) λw' s4 ⟨z',H4,I4,r4,q4⟩=>aB (kJ pins s4 σ H4 y z' u w' _ I4 r2 r4 q4) λd' s5 ⟨z2,H5,I5,r5,k2,e2,q5⟩=>?_))
  subst e2
  cases r5
  exact oR ⟨H5,I5,q5⟩
def DA(K:PySem.W.Frag)(x:V)(H:Hp)(k:Bool):Prop:=
 match x with
 |.aD=>k=false
 |.bl b=>k=b
 |.int i=>k=(i != 0)
 |.str y=>y.length<=sizeLine/\k=((y.length:Int) != 0)
 |.iS y=>y.size<=sizeLine/\k=((y.size:Int) != 0)
 |.ref p=>(∃xs,aj K H p xs/\k = !xs.isEmpty)\/(∃xs,aq K H p xs/\k = !xs.isEmpty)\/∃kvs,H p=some (.dK kvs)/\k = !kvs.isEmpty
 |_=>False
theorem VR{κ:Type}{kvs:List (κ×V)}{vs:List (κ×Value)}(r:KV kvs vs):(!vs.isEmpty) = !kvs.isEmpty:=by
 cases r <;> rfl
theorem Lf{xs:List V}{its:List Value}(r:Vals xs its):(!its.toArray.isEmpty) = !xs.isEmpty:=by
 cases r <;> simp
theorem nC:(sizeLine:Nat)<2 ^ 63:=by rw[sizeLine_eq];decide
theorem VS:VH X (λx H Q=>∃k,DA X.K x H k/\Q k H):=by
 intro pins s σ H x v Q I rx h
 obtain⟨k,e,q⟩:=h
 have hl:=nC
 have hs:sizeLine=16777216:=sizeLine_eq
 cases x with
 |aD=>
  cases rx
  have e':k=false:=e
  subst e'
  exact truthy_none ⟨H,I,q⟩
 |bl b=>
  cases rx
  have e':k=b:=e
  subst e'
  exact oR ⟨H,I,q⟩
 |int i=>
  obtain⟨t,rfl⟩:=rx
  have e':k=(i != 0):=e
  subst e'
  exact PySem.P.truthy_int ⟨H,I,q⟩
 |str y=>
  obtain⟨t,rfl⟩:=rx
  obtain⟨hy,e'⟩:y.length<=sizeLine/\k=((y.length:Int) != 0):=e
  subst e'
  exact PySem.P.truthy_str (by omega) ⟨H,I.tok _,q⟩
 |iS y=>
  obtain⟨t,rfl⟩:=rx
  obtain⟨hy,e'⟩:y.size<=sizeLine/\k=((y.size:Int) != 0):=e
  subst e'
  exact PySem.W.truthy_bytes (by omega) ⟨H,I.tok _,q⟩
 |ref p=>
  cases rx
  have e':(∃xs,aj X.K H p xs/\k = !xs.isEmpty)\/(∃xs,aq X.K H p xs/\k = !xs.isEmpty)\/∃kvs,H p=some (.dK kvs)/\k = !kvs.isEmpty:=e
  rcases e' with ⟨xs,hx,e'⟩ | ⟨xs,hx,e'⟩ | ⟨kvs,hx,e'⟩
  .subst e'
   obtain⟨its,r,pl,hz⟩:=I.list hx
   have hlen:=r.length
   exact wpAny_truthy_list pl.isList (by simp only[bc];omega) ⟨H,I.tok _,by rw[Lf r];exact q⟩
  .subst e'
   obtain⟨its,r,pl,hz⟩:=I.tuple hx
   have hlen:=r.length
   exact truthy_tuple pl (by simp only[bc];omega) ⟨H,I.tok _,by rw[Lf r];exact q⟩
  .subst e'
   obtain⟨hz,hS,vs,r,m⟩:kvs.length<=sizeLine/\(p==sysModules)=false/\∃vs,KV kvs vs/\s.heap.DictOf (bN X.prog X.w) p vs:=I.aC p _ hx
   have hlen:kvs.length=vs.length:=jj r
   exact wpAny_truthy_dict hS m (by omega) ⟨H,I.tok _,by rw[VR r];exact q⟩
 |_=>exact(show False from e).elim
theorem tU(ha:PE X a ta)(he:∀whole,isTrue a X.env whole=(do let v<-whole;standAt a.pos;holding [v] (truthy v))) :
  PT X a (λσ H Q=>ta σ H λx H' =>∃k,DA X.K x H' k/\Q k H'):=by
 intro pins s σ H Q I h
 exact isTrue_plain (aB (ha pins s σ H _ I h) λv s1 ⟨x,H1,I1,r1,q1⟩=>VS pins s1 σ H1 x v Q I1 r1 q1) (he _)
theorem rj:cN X (binaryOp .Add) (λx y H Q=>∃i j,x = .str i/\y = .str j/\i.length+j.length<=sizeLine/\Q (.str (i++j)) H):=by
 intro pins s σ H x y v u Q I rx ry h
 obtain⟨i,j,rfl,rfl,hz,q⟩:=h
 obtain⟨t,rfl⟩:=rx
 obtain⟨t',rfl⟩:=ry
 exact add_str (λt' tk=>⟨.str (i++j),H,I.tok _,⟨_,rfl⟩,q⟩) hz
theorem vals1{x:V}{us:List Value}(r:Vals [x] us):∃u,us=[u]/\RelV x u:=by
 cases r with
 |cons r1 r2=>cases r2;exact⟨_,rfl,r1⟩
theorem vals2{x y:V}{us:List Value}(r:Vals [x,y] us):∃u w',us=[u,w']/\RelV x u/\RelV y w':=by
 cases r with
 |cons r1 r2=>
  cases r2 with
  |cons r3 r4=>cases r4;exact⟨_,_,rfl,r1,r3⟩
end
structure rk(h:Heap)(x dx C:Addr)(mA:Str->Option Value):Prop where
 obj:h.get? x=some (PySem.W.instObj C dx)
 ns:h.Ns1 dx mA
 ne:dx≠x
theorem VT{h:Heap}{dx:Addr}{mA:Str->Option Value}(n:h.Ns1 dx mA):∃od,h.get? dx=some od/\∀name,PySem.W.lookIn name od=some (mA name):=by
 obtain⟨o,es,ep,ho,hd,hk,_,hm⟩:=n
 refine⟨o,ho,λname=>?_⟩
 have e:=hm name
 unfold nsFind findBy at e
 rw[<-Array.find?_toList] at e
 unfold PySem.W.lookIn
 rw[hd]
 dsimp only
 split
 .rename_i y q
  rw[q] at e
  exact eD some e
 .rename_i q
  rw[q] at e
  have a:es.toList.any (·.refKey)=false:=by
   rw[J1]
   intro y hy
   obtain⟨z,t,rl⟩:=hk y (UD.mp hy)
   simp[DictEntry.refKey,rl]
  have a':¬es.toList.any (·.refKey)=true:=by rw[a];exact cj
  rw[aw a']
  exact eD some e
theorem rk.look{h:Heap}{x dx C:Addr}{mA:Str->Option Value}(I:rk h x dx C mA):∃od,PySem.W.InstAt h x (PySem.W.instObj C dx) C (some od)/\∀name,PySem.W.lookIn name od=some (mA name):=
 let ⟨od,ho,hl⟩:=VT I.ns
 ⟨od,⟨I.obj,rfl,rfl,ho⟩,hl⟩
section
variable{prog:Program}{w:World}{A:Around}{E:Value->Shared->Prop}{s:Shared}{K:PySem.W.Frag}{x dx C f:Addr}{mA:Str->Option Value}{name:Str}{v:Value}
theorem get_map{expr:Bool}{Q:Value->Shared->Prop}(X:K.In s.heap)(I:rk s.heap x dx C mA)(hg:PySem.W.plainGet K C name=true)(hh:PySem.W.hasDictIn K C=true)
  (ha:PySem.W.findIn K (.ref C) name=some none) (hv:mA name=some v) (VU:PySem.W.handedIn v=true) (h:Q v { s with toks:=s.toks+1 }) :
  wpAny (model prog w) A (getAttr (.ref x) name expr) Q E s:=by
 obtain⟨od,J,hl⟩:=I.look
 exact PySem.W.get_value X J (J2 hg).1 (PySem.W.findObj_own hh ha rfl (by rw[hl,hv])) VU h
theorem VV{pl:Sem Bool}{Q:Value×List Value->Shared->Prop}(X:K.In s.heap)(I:rk s.heap x dx C mA)(hg:PySem.W.plainGet K C name=true)
  (hf:PySem.W.findIn K (.ref C) name=some (some (.ref f))) (ht:PySem.W.isFn K (.ref f)=true) (hv:mA name=none) (h:Q (.ref f,[.ref x]) s) :
  wpAny (model prog w) A (getMethod (.ref x) name pl) Q E s:=by
 obtain⟨od,J,hl⟩:=I.look
 exact PySem.W.method_fn X J (J2 hg).1 (J2 hg).2 hf (m8.mp ht) (by show(PySem.W.lookIn name od).map (·.isSome)=some false;rw[hl,hv];rfl) h
theorem VW{ns:List Str}{Q:Unit->Shared->Prop}(X:K.In s.heap)(I:rk s.heap x dx C mA)
  (hs:PySem.W.findIn K (.ref C) "__setattr__"=some (some (.builtin "object.__setattr__"))) (hp:PySem.W.plainOver K C=true) (ht:PySem.W.takerIn K C name=some none) (hh:PySem.W.hasDictIn K C=true)
  (hw:PySem.Within mA ns) (hsz:ns.length<=sizeLine)
  (h:∀h',rk h' x dx C (λy=>if y=name then some v else mA y)->Heap.SameBut dx s.heap h'->Q () { s with heap:=h',toks:=s.toks+2 }) :
  wpAny (model prog w) A (setAttr (.ref x) name v) Q E s:=by
 obtain⟨od,J,hl⟩:=I.look
 refine PySem.W.set_plain X J hs (PySem.W.osa_open (s:={ s with toks:=s.toks+1 }) (r:=none) X J hp ht λb=>?_)
 obtain⟨cd,hc,wx⟩:=PySem.W.any_some hh
 have hx:s.heap.get? x=some ⟨.ref C,some dx,.plain,#[]⟩:=I.obj
 refine ai (aM (ai (ai (wpAny_loadPart hx (ai (PySem.W.Looks.here (s:={ s with toks:=s.toks+1 }) (PySem.W.looks_clsIn X hc) ?_))))))
 rw[wx]
 refine aM (a:=some dx) (ai (aM (ai ?_)))
 refine wpAny_nsSet1 (s:={ s with toks:=s.toks+1 }) I.ns λh' nE kK=>?_
 obtain⟨oD,esD,epD,VX,VY,VZ⟩:=nE.count (PySem.Within.cons name v hw)
 refine ai (wpAny_lookBehind VX (by rw[VY];exact pastItsLine_dict (bO VZ (by rw[dg];omega))) ?_)
 exact aM (h _ ⟨(kK.2 _ (bo I.ne)).trans I.obj,nE,I.ne⟩ kK)
theorem V0{R:Result->Shared->Prop}{vs:List Value}{kw:List (Str×Value)}(X:K.In s.heap)(hm:PySem.W.makesIn K C=true)
  (hi:PySem.W.findIn K (.ref C) "__init__"=some (some (.ref f))) (hf:PySem.W.typeIn K (.ref f)=some (.type "function"))
  (h:codeAny (model prog w) (A.under (.builtin "type.__call__" ⟨.ref C::vs,kw⟩)) (.call (.ref f) ⟨.ref (s.heap.objs.size+1)::vs,kw⟩) (PySem.W.InitBack (s.heap.objs.size+1) R)
   { s with heap:=(s.heap.push PySem.W.emptyDict).push (PySem.W.instObj C s.heap.objs.size) }) :
  codeAny (model prog w) A (.call (.ref C) ⟨vs,kw⟩) R s:=by
 obtain⟨hh,g,d,t,os⟩:=s
 exact PySem.W.make_core (PySem.W.makes_of X hm) (PySem.W.looks_findIn X hi) (λself=>PySem.W.bind_fn X self hf) (.inl rfl) h
theorem V1{R:Result->Shared->Prop}(X:K.In s.heap)(hm:PySem.W.makesIn K C=true)
  (hi:PySem.W.findIn K (.ref C) "__init__"=some (some (.builtin "object.__init__")))
  (hb:∀self,PySem.W.Looks (model prog w) s.heap (bindSpecial (.builtin "object.__init__") self) (.builtin "object.__init__",[self]))
  (h:codeAny (model prog w) (A.under (.builtin "type.__call__" ⟨[.ref C],[]⟩)) (.call (.builtin "object.__init__") ⟨[.ref (s.heap.objs.size+1)],[]⟩) (PySem.W.InitBack (s.heap.objs.size+1) R)
   { s with heap:=(s.heap.push PySem.W.emptyDict).push (PySem.W.instObj C s.heap.objs.size) }) :
  codeAny (model prog w) A (.call (.ref C) ⟨[],[]⟩) R s:=by
 obtain⟨hh,g,d,t,os⟩:=s
 exact PySem.W.make_core (PySem.W.makes_of X hm) (PySem.W.looks_findIn X hi) hb (.inr ⟨rfl,rfl⟩) h
end
def aU(f:Str)(v:V):List (Str×V)->List (Str×V)
 |[]=>[(f,v)]
 |(g,x)::r=>if g=f then (g,v)::r else (g,x)::aU f v r
theorem cO(f g:Str)(v:V):∀fs:List (Str×V),(aU f v fs).lookup g=if g=f then some v else fs.lookup g
 |[]=>by
  show List.lookup g [(f,v)]=_
  by_cases h:g=f
  .have hb:(g==f)=true:=m8.mpr h
   simp only[List.lookup,hb,aA h]
  .have hb:(g==f)=false:=vP.mpr h
   simp only[List.lookup,hb,aw h]
 |(k,x)::r=>by
  have ih:=cO f g v r
  rw[show aU f v ((k,x)::r)=(if k=f then (k,v)::r else (k,x)::aU f v r) from rfl]
  by_cases hk:k=f
  .rw[aA hk]
   by_cases h:g=k
   .have hb:(g==k)=true:=m8.mpr h
    simp only[List.lookup,hb,aA (h.trans hk)]
   .have hb:(g==k)=false:=vP.mpr h
    simp only[List.lookup,hb,aw (λe:g=f=>h (e.trans hk.symm))]
  .rw[aw hk]
   by_cases h:g=k
   .have hb:(g==k)=true:=m8.mpr h
    simp only[List.lookup,hb,aw (λe:g=f=>hk (h.symm.trans e))]
   .have hb:(g==k)=false:=vP.mpr h
    simp only[List.lookup,hb]
    exact ih
theorem DB(f:Str)(v:V):∀fs:List (Str×V),f∈(aU f v fs).map (·.1)/\∀g,g∈fs.map (·.1)->g∈(aU f v fs).map (·.1)
 |[]=>⟨by simp[aU],λg h=>by simp at h⟩
 |(k,x)::r=>by
  obtain⟨i1,i2⟩:=DB f v r
  rw[show aU f v ((k,x)::r)=(if k=f then (k,v)::r else (k,x)::aU f v r) from rfl]
  by_cases hk:k=f
  .rw[aA hk]
   subst hk
   exact⟨by simp,λg h=>by simpa using h⟩
  .rw[aw hk]
   refine⟨?_,λg h=>?_⟩
   .rw[bX]
    exact cg _ i1
   .rw[bX] at h ⊢
    rcases bS.mp h with e | e
    .exact bS.mpr (.inl e)
    .exact cg _ (i2 g e)
theorem Lg(f:Str)(v:V):∀fs:List (Str×V),(aU f v fs).length<=fs.length+1
 |[]=>by simp[aU]
 |(k,x)::r=>by
  have ih:=Lg f v r
  rw[show aU f v ((k,x)::r)=(if k=f then (k,v)::r else (k,x)::aU f v r) from rfl]
  by_cases hk:k=f
  .rw[aA hk,dg,dg];omega
  .rw[aw hk,dg,dg];omega
theorem fH.some_of{v:V}{o:Option Value}(r:fH (some v) o):∃u,o=some u/\RelV v u:=by
 cases o with
 |none=>exact(show False from r).elim
 |some u=>exact⟨u,rfl,r⟩
theorem fH.none_of{o:Option Value}(r:fH none o):o=none:=by
 cases o with
 |none=>rfl
 |some u=>exact(show False from r).elim
theorem V2{v:V}{u:Value}(r:RelV v u):PySem.W.handedIn u=true:=by
 cases v with
 |aD=>cases(show u=Value.none from r);rfl
 |bl b=>cases(show u=Value.bool b from r);rfl
 |int i=>obtain⟨t,e⟩:=(show ∃t,u=Value.int i t from r);cases e;rfl
 |str x=>obtain⟨t,e⟩:=(show ∃t,u=Value.str x t from r);cases e;rfl
 |iS b=>obtain⟨t,e⟩:=(show ∃t,u=Value.bytes b t from r);cases e;rfl
 |qR b=>obtain⟨t,e⟩:=(show ∃t,u=Value.float b t from r);cases e;rfl
 |ref a=>cases(show u=Value.ref a from r);rfl
 |ty n=>cases(show u=Value.type n from r);rfl
section
variable{P:Program}{w:World}{H H':Hp}{h h':Heap}{a C dx:Addr}{fs wt:List (Str×V)}
theorem wF(aC:dn P w H h)(e:H a=some (.ins C dx fs)):∃mA,rk h a dx C mA/\(∀f,fH (fs.lookup f) (mA f))/\PySem.Within mA (fs.map (·.1))/\fs.length<=1000/\H dx=some (.own a):=by
 obtain⟨d,z,ne,ob,mA,n,r,q⟩:=(show cS P w H h a (.ins C dx fs) from aC a _ e)
 exact⟨mA,⟨ob,n,ne⟩,r,q,z,d⟩
end
structure cH(K:PySem.W.Frag)(C:Addr):Prop where
 pg:PySem.W.plainGet K C Str.empty=true
 hd:PySem.W.hasDictIn K C=true
 po:PySem.W.plainOver K C=true
 sa:PySem.W.findIn K (.ref C) "__setattr__"=some (some (.builtin "object.__setattr__"))
theorem cH.get{K:PySem.W.Frag}{C:Addr}(c:cH K C)(f:Str):PySem.W.plainGet K C f=true:=c.pg
def cz(K:PySem.W.Frag)(C:Addr)(f:Str):Prop:=PySem.W.findIn K (.ref C) f=some none
theorem cz.V3{K:PySem.W.Frag}{C:Addr}{f:Str}(n:cz K C f):PySem.W.takerIn K C f=some none:=by
 unfold PySem.W.takerIn
 rw[show PySem.W.findIn K (.ref C) f=some none from n]
 rfl
structure Con(K:PySem.W.Frag)(C:Addr)(f:Str)(v:V)(u:Value):Prop where
 at_:PySem.W.findIn K (.ref C) f=some (some u)
 rel:RelV v u
 get:PySem.W.specialIn K u "__get__"=some none
 cp:PySem.W.copiedNames.contains f=false
structure Meth(K:PySem.W.Frag)(C:Addr)(m:Str)(f:Addr):Prop where
 at_:PySem.W.findIn K (.ref C) m=some (some (.ref f))
 fn:PySem.W.isFn K (.ref f)=true
 kp:PySem.W.keepIn K (.ref f)=true
section
variable{X:Cx}{pins:List (Addr×Obj)}{σ:St}{H:Hp}{s:Shared}{a C dx:Addr}{fs:List (Str×V)}{f:Str}{v:V}{A:Around}{E:Value->Shared->Prop}
theorem V4{b:Bool}{Q:Value->Shared->Prop}(I:Inv X pins σ H s)(e:H a=some (.ins C dx fs))(c:cH X.K C)(n:cz X.K C f)(l:fs.lookup f=some v)
  (h:∀u s',Inv X pins σ H s'->RelV v u->Q u s'):wpAny (model X.prog X.w) A (getAttr (.ref a) f b) Q E s:=by
 obtain⟨mA,O,r,_,_,_⟩:=wF I.aC e
 obtain⟨u,hu,ru⟩:=fH.some_of (v:=v) (o:=mA f) (by rw[<-l];exact r f)
 exact get_map I.dh O (c.get f) c.hd n hu (V2 ru) (h u _ (I.tok _) ru)
theorem Lh{m:Str}{g:Addr}{pl:Sem Bool}{Q:Value×List Value->Shared->Prop}(I:Inv X pins σ H s)(e:H a=some (.ins C dx fs))(c:cH X.K C)(k:Meth X.K C m g)(l:fs.lookup m=none)
  (h:Q (.ref g,[.ref a]) s):wpAny (model X.prog X.w) A (getMethod (.ref a) m pl) Q E s:=by
 obtain⟨mA,O,r,_,_,_⟩:=wF I.aC e
 have hn:mA m=none:=fH.none_of (by rw[<-l];exact r m)
 exact VV I.dh O (c.get m) k.at_ k.fn hn h
theorem V5{y:V}{u:Value}{Q:Unit->Shared->Prop}(I:Inv X pins σ H s)(e:H a=some (.ins C dx fs))(c:cH X.K C)(n:cz X.K C f)(hl:fs.length<1000)(ry:RelV y u)
  (h:∀s',Inv X pins σ (upd H a (.ins C dx (aU f y fs))) s'->Q () s'):wpAny (model X.prog X.w) A (setAttr (.ref a) f u) Q E s:=by
 obtain⟨mA,O,r,wi,_,ho⟩:=wF I.aC e
 have hz:(fs.map (·.1)).length<=sizeLine:=by rw[ax,sizeLine_eq];omega
 refine VW I.dh O c.sa c.po n.V3 c.hd wi hz λh' O' sb=>h _ ?_
 have hd:∃o,h'.get? dx=some o:=let ⟨o,_,_,e',_⟩:=O'.ns;⟨o,e'⟩
 refine I.write (x:=a) (e:=dx) (by rw[e];exact True.intro) (.inr ho) (λb q hb z=>(sb.2 b hb).trans z) hd ?_
 refine⟨by rw[ak O.ne];exact ho,?_,O.ne,O'.obj,_,O'.ns,λg=>?_,λg hg=>?_⟩
 .have:=Lg f y fs;omega
 .show fH ((aU f y fs).lookup g) (if g=f then some u else mA g)
  rw[cO]
  by_cases q:g=f
  .rw[aA q,aA q];exact ry
  .rw[aw q,aw q];exact r g
 .by_cases q:g=f
  .rw[q];exact(DB f y fs).1
  .refine(DB f y fs).2 g (wi g λz=>hg ?_)
   show(if g=f then some u else mA g)=none
   rw[aw q];exact z
theorem Inv.made(I:Inv X pins σ H s):Inv X pins σ (upd (upd H s.heap.objs.size (.own (s.heap.objs.size+1))) (s.heap.objs.size+1) (.ins C s.heap.objs.size []))
  { s with heap:=(s.heap.push PySem.W.emptyDict).push (PySem.W.instObj C s.heap.objs.size) }:=by
 have e1:(s.heap.push PySem.W.emptyDict).get? s.heap.objs.size=some PySem.W.emptyDict:=cB s.heap rfl
 have e2:((s.heap.push PySem.W.emptyDict).push (PySem.W.instObj C s.heap.objs.size)).get? (s.heap.objs.size+1)=some (PySem.W.instObj C s.heap.objs.size):=by
  have:=cB (s.heap.push PySem.W.emptyDict) (o:=PySem.W.instObj C s.heap.objs.size) rfl
  rwa [lJ] at this
 have e3:(s.heap.push PySem.W.emptyDict).Ns s.heap.objs.size (λ_=>none):=⟨PySem.W.emptyDict,#[],_,e1,rfl,(λe he=>absurd he (by simp)),λ_=>rfl⟩
 have I1:=I.laid (a:=s.heap.objs.size) (o := .own (s.heap.objs.size+1)) (h':=s.heap.push PySem.W.emptyDict) (t':=s.toks) (λb u q=>bz _ q) (aP _) ⟨_,e1⟩
 refine I1.laid (a:=s.heap.objs.size+1) (o := .ins C s.heap.objs.size []) (t':=s.toks) (λb u q=>bz _ q) (Nat.le_of_eq (lJ _ _)) ?_
 have ne:s.heap.objs.size≠s.heap.objs.size+1:=bh (oS _)
 refine⟨by rw[ak ne,ar],bC _,ne,e2,λ_=>none,(Heap.Ns1.of_empty e3).at λo q=>bz _ q,λ_=>True.intro,λy hy=>absurd rfl hy⟩
theorem Li{prog:Program}{w:World}{env:Env}{e:Expr}{f:Str}{pos:Pos}{s:Shared}{Q:Value->Shared->Prop}(hb:attributeBase e f env (eval e env)=eval e env)
  (h:wpAny (model prog w) A (eval e env) (λo s₁=>wpAny (model prog w) A (getAttr o f true) Q E s₁) E s):wpAny (model prog w) A (eval (.Attribute e f pos) env) Q E s:=
 Attribute_any_ h (by rw[arm_eval_Attribute,hb])
end
def V6(K:PySem.W.Frag)(ta:TE)(f:Str):TE:=λσ H Q=>ta σ H λx H1=>∃a C dx fs v,x = .ref a/\H1 a=some (.ins C dx fs)/\cH K C/\cz K C f/\fs.lookup f=some v/\Q v H1
def V7(K:PySem.W.Frag)(ta tv:TE)(f:Str):TS:=λD σ H=>tv σ H λy H1=>ta σ H1 λx H2=>∃a C dx fs,x = .ref a/\H2 a=some (.ins C dx fs)/\cH K C/\cz K C f/\fs.length<1000/\
 D.nx σ (upd H2 a (.ins C dx (aU f y fs)))
section
variable{X:Cx}{o e value:Expr}{f:Str}{pos pos' nF:Pos}{ta tv:TE}
theorem cK(he:PE X e ta)(hb:attributeBase e f X.env (eval e X.env)=eval e X.env):PE X (.Attribute e f pos) (V6 X.K ta f):=by
 intro pins s σ H Q I h
 refine Li hb (aB (he pins s σ H _ I h) λu s1 ⟨x,H1,I1,rx,a,C,dx,fs,v,ex,ea,c,n,l,q⟩=>?_)
 subst ex
 obtain rfl:u=Value.ref a:=rx
 exact V4 I1 ea c n l λu' s2 I2 ru=>⟨v,H1,I2,ru,q⟩
theorem kL(ha:PE X o ta)(hv:PE X value tv)(hs:swapsWith value (some (.Attribute o f pos')) pos.line X.env=pure false):PS X (.Assign [.Attribute o f pos'] value pos) (V7 X.K ta tv f):=by
 intro pins s σ H D I h
 refine plainObj_wpAny_Assign_Attribute (aB (hv pins s σ H _ I h) λu s1 ⟨y,H1,I1,ry,q⟩=>aB (ha pins s1 σ H1 _ I1 q) λov s2 ⟨x,H2,I2,rx,a,C,dx,fs,ex,ea,c,n,l,q2⟩=>?_) hs
 subst ex
 obtain rfl:ov=Value.ref a:=rx
 exact V5 I2 ea c n l ry λs3 I3=>⟨σ,_,I3,q2⟩
end
section
variable{X:Cx}{pins:List (Addr×Obj)}{σ:St}{H:Hp}{s:Shared}{A:Around}{E:Value->Shared->Prop}{Q:Value->Shared->Prop}{c:Value}{b:Bool}
inductive gU(K:PySem.W.Frag)(H:Hp):V->Value->Prop where
 |aD:gU K H .aD (.type "NoneType")
 |bl (x:Bool):gU K H (.bl x) (.type "bool")
 |int (i:Int):gU K H (.int i) (.type "int")
 |str (x:Str):gU K H (.str x) (.type "str")
 |qR (x:UInt64):gU K H (.qR x) (.type "float")
 |lst {a:Addr}{xs:List V}(e:H a=some (.lst xs)):gU K H (.ref a) (.type "list")
 |d6 {a:Addr}{o:Obj}{xs:List V}(e:H a=some (.d6 o (.lst xs))):gU K H (.ref a) (.type "list")
 |tup {a:Addr}{xs:List V}(e:H a=some (.tup xs)):gU K H (.ref a) (.type "tuple")
 |dK {a:Addr}{kvs:List (Key×V)}(e:H a=some (.dK kvs)):gU K H (.ref a) (.type "dict")
 |dT {a:Addr}{kvs:List (List Key×V)}(e:H a=some (.dT kvs)):gU K H (.ref a) (.type "dict")
 |ins {a C dx:Addr}{fs:List (Str×V)}(e:H a=some (.ins C dx fs)) (cl:cH K C) (ha:PySem.W.findIn K (.ref C) "__class__"=some (some (.builtin "object.__class__")))
   (hn:PySem.W.specialIn K (.builtin "object.__class__") "__get__"=some (some (.builtin "getset_descriptor.__get__"))) (gy:PySem.W.takesIn K (.builtin "object.__class__")=some true)
   (hm:PySem.W.mroIn K C (.type "object")=some true):gU K H (.ref a) (.ref C)
theorem Lj{x:V}{u t:Value}(I:Inv X pins σ H s)(rx:RelV x u)(ty:gU X.K H x t)(e:PySem.W.kitOne X.K t c=some b)(h:∀tk,Q (.bool b) { s with toks:=tk }) :
  wpAny (model X.prog X.w) A (call (.builtin "isinstance") [u,c]) Q E s:=by
 cases ty with
 |aD=>cases(show u=Value.none from rx);exact m9 PySem.W.kitx_none I.dh True.intro e (λz=>nomatch z) h
 |bl y=>cases(show u=Value.bool y from rx);exact m9 PySem.W.kitx_bool I.dh True.intro e (λz=>nomatch z) h
 |int i=>obtain⟨t,q⟩:=(show ∃t,u=Value.int i t from rx);cases q;exact m9 PySem.W.kitx_int I.dh True.intro e (λz=>nomatch z) h
 |str y=>obtain⟨t,q⟩:=(show ∃t,u=Value.str y t from rx);cases q;exact m9 PySem.W.kitx_str I.dh True.intro e (λz=>nomatch z) h
 |qR y=>obtain⟨t,q⟩:=(show ∃t,u=Value.float y t from rx);cases q;exact m9 PySem.W.kitx_float I.dh True.intro e (λz=>nomatch z) h
 |@lst a xs ea=>
  cases(show u=Value.ref a from rx)
  obtain⟨_,_,n,_,h1⟩:=(show cS X.prog X.w H s.heap a (.lst xs) from I.aC a _ ea)
  exact m9 PySem.W.kitx_list I.dh ⟨_,h1,rfl⟩ e (λz=>nomatch z) h
 |@d6 a ob xs ea=>
  cases(show u=Value.ref a from rx)
  obtain⟨_,_,_,n,_,h1⟩:=(show cS X.prog X.w H s.heap a (.d6 ob (.lst xs)) from I.aC a _ ea)
  exact m9 PySem.W.kitx_list I.dh ⟨_,h1,rfl⟩ e (λz=>nomatch z) h
 |@tup a xs ea=>
  cases(show u=Value.ref a from rx)
  obtain⟨_,_,_,p⟩:=(show cS X.prog X.w H s.heap a (.tup xs) from I.aC a _ ea)
  obtain⟨o,h1,h2,_⟩:=p
  exact m9 PySem.W.kitx_tuple I.dh ⟨o,h1,h2⟩ e (λz=>nomatch z) h
 |@dK a kvs ea=>
  cases(show u=Value.ref a from rx)
  obtain⟨_,_,vs,_,p⟩:=(show cS X.prog X.w H s.heap a (.dK kvs) from I.aC a _ ea)
  obtain⟨o,es,ep,h1,h2,_⟩:=p
  exact m9 PySem.W.kitx_dict I.dh ⟨o,h1,h2.1⟩ e (λz=>nomatch z) h
 |@dT a kvs ea=>
  cases(show u=Value.ref a from rx)
  obtain⟨_,_,xs,_,o,es,ep,h1,h2,_⟩:=(show cS X.prog X.w H s.heap a (.dT kvs) from I.aC a _ ea)
  exact m9 PySem.W.kitx_dict I.dh ⟨o,h1,h2.1⟩ e (λz=>nomatch z) h
 |@ins a C dx fs ea cl ha hn gy hm=>
  cases(show u=Value.ref a from rx)
  obtain⟨mA,O,_⟩:=wF I.aC ea
  obtain⟨od,J,_⟩:=O.look
  exact m9 (PySem.W.kitx_own (cl.get _) cl.hd ha hn gy hm) I.dh J e (λz=>nomatch z) h
end
structure cw(k:Nat)(A:Around):Prop where
 hd:A.handled=none
 dp:A.depth+3*k+5<recursionLimit
 un:A.units+16*k+200<cLine
 gd:A.guards=some []
theorem cw.mono{j k:Nat}{A:Around}(r:cw k A)(h:j<=k):cw j A:=⟨r.hd,by have:=r.dp;omega,by have:=r.un;omega,r.gd⟩
theorem cw.deeper{k:Nat}{A:Around}(r:cw (k+1) A)(env:Env):cw k (A.deeper env):=
 ⟨r.hd,by have:=r.dp;show A.depth+1+3*k+5<_;omega,by have:=r.un;show A.units+3+16*k+200<_;omega,r.gd⟩
theorem cw.in1{k:Nat}{A:Around}(r:cw (k+1) A):cw k A.in1:=
 ⟨r.hd,by have:=r.dp;show A.depth+3*k+5<_;omega,by have:=r.un;show A.units+1+16*k+200<_;omega,r.gd⟩
theorem V8{A:Around}{C:Addr}{us:List Value}{kw:List (Str×Value)}:(A.under (.builtin "type.__call__" ⟨.ref C::us,kw⟩)).depth=A.depth+1:=by
 first | rfl | simp[Around.under,Code.weight,Code.isCreation,Code.isGuard,Code.isCaller,Code.frames,Code.isFrame,guardIds]
theorem V9{A:Around}{C:Addr}{us:List Value}{kw:List (Str×Value)}:(A.under (.builtin "type.__call__" ⟨.ref C::us,kw⟩)).units=A.units+1:=by
 first | rfl | simp[Around.under,Code.cUnits,Code.frames,Code.isFrame]
theorem cw.make{k:Nat}{A:Around}(r:cw (k+1) A)(C:Addr)(us:List Value)(kw:List (Str×Value)):cw k (A.under (.builtin "type.__call__" ⟨.ref C::us,kw⟩)):=
 ⟨r.hd,by have:=r.dp;rw[V8];omega,by have:=r.un;rw[V9];omega,r.gd⟩
theorem cw.depth{k:Nat}{A:Around}(r:cw k A):A.depth<recursionLimit:=by have:=r.dp;omega
theorem cw.units{k:Nat}{A:Around}(r:cw k A):A.units+64<cLine:=by have:=r.un;omega
def lT:TA:=λ_ H Q=>Q [] H
def pH(ta:TE)(tr:TA):TA:=λσ H Q=>ta σ H λx H1=>tr σ H1 λxs H2=>Q (x::xs) H2
section
variable{X:Cx}{e:Expr}{es:List Expr}{te:TE}{t:TA}{pos:Pos}
theorem ah:PA X [] lT:=λ_ _ _ _ H Q I h=>Calls.spliced_nil ⟨[],H,I,.nil,h⟩
theorem ab(ha:PE X e te)(hr:PA X es t)(hs:starEach (e::es) X.env=(false,eval e X.env)::starEach es X.env:=by rfl):PA X (e::es) (pH te t):=by
 intro pos pins s σ H Q I h
 rw[hs]
 show wpAny _ _ (spliced ((false,eval e X.env)::backTo pos (starEach es X.env))) _ _ s
 refine CM (aB (ha pins s σ H _ I h) λu s1 ⟨x,H1,I1,r1,q1⟩=>?_)
 exact aB (hr pos pins s1 σ H1 _ I1 q1) λus s2 ⟨xs,H2,I2,r2,q2⟩=>⟨x::xs,H2,I2,.cons r1 r2,q2⟩
def DC(t:TA):TE:=λσ H Q=>t σ H λxs H1=>xs.length<=sizeLine/\∀p,H1 p=none->Q (.ref p) (upd H1 p (.tup xs))
def Lk(t:TA):TE:=λσ H Q=>t σ H λxs H1=>xs.length<=sizeLine/\∀p,H1 p=none->Q (.ref p) (upd H1 p (.lst xs))
theorem fX{x1}(h:PA X es t):PE X (.Tuple es x1 pos) (DC t):=by
 intro pins s σ H Q I hq
 refine wpAny_Tuple_spliced (aB (h pos pins s σ H _ I hq) λus s1 ⟨xs,H1,I1,r,z,q⟩=>⟨by rw[<-r.length];exact z,?_⟩)
 have hf:H1 s1.heap.objs.size=none:=I1.aC.fresh (aP _)
 refine⟨.ref s1.heap.objs.size,upd H1 s1.heap.objs.size (.tup xs),I1.laid (t':=s1.toks) (λb u e=>bz _ e) (aP _) ?_,rfl,q _ hf⟩
 exact⟨z,us,r,⟨_,cB _ rfl,rfl,_,rfl⟩⟩
theorem fm(h:PA X es t):PE X (.List es pos) (Lk t):=by
 intro pins s σ H Q I hq
 refine wpAny_List_spliced (aB (h pos pins s σ H _ I hq) λus s1 ⟨xs,H1,I1,r,z,q⟩=>⟨by rw[<-r.length];exact z,?_⟩)
 have hf:H1 s1.heap.objs.size=none:=I1.aC.fresh (aP _)
 refine⟨.ref s1.heap.objs.size,upd H1 s1.heap.objs.size (.lst xs),I1.laid (t':=s1.toks) (λb u e=>bz _ e) (aP _) ?_,rfl,q _ hf⟩
 exact⟨z,us,0,r,cB _ rfl⟩
end
abbrev Sp:=List V->Hp->VK->XK->Prop
abbrev j4:=List Env->Hp->Shared->XK->Value->Shared->Prop
structure kM(P:Program)(w:World)(K:PySem.W.Frag)(mg:Str->Option Value)(base:Heap)(A:Around)(outer:List Env)(s:Shared)(H:Hp):Prop where
 frames:A.frames=some outer
 mod:Mod K mg base
 bs:∀b o,base.get? b=some o->s.heap.get? b=some o/\H b=none
 lO:base.objs.size<=s.heap.objs.size
 ju:s.heap.FunFrames base outer
 pf:∀b∈jt outer,H b=none
 aC:dn P w H s.heap
 bare:AllBare s.gens
def CE(outer:List Env)(P:Program)(w:World)(H:Hp)(s:Shared)(Q:VK)(u:Value)(s':Shared):Prop:=
 ∃v H',s'.os=s.os/\AllBare s'.gens/\Un (jt outer) [] H H' s.heap s'.heap/\dn P w H' s'.heap/\RelV v u/\Q v H'
def CR(CX:j4)(outer:List Env)(P:Program)(w:World)(H:Hp)(s:Shared)(Q:VK)(E:XK)(r:Result)(s':Shared):Prop:=
 match r with
 |.ok (.ret u)=>CE outer P w H s Q u s'
 |.ok _=>False
 |.error e=>CX outer H s E e s'
structure aS(P:Program)(w:World)(K:PySem.W.Frag)(mg:Str->Option Value)(base:Heap)(CX:j4)(k:Nat)(f:Addr)(fd:FuncData)(ps:List Str)(sp:Sp):Prop where
 len:∀vs H Q E,sp vs H Q E->vs.length=ps.length
 run:∀(A:Around) (outer:List Env) (s:Shared) (H:Hp) (args:Args) (us:List Value) (vs:List V) (Q:VK) (E:XK),cw k A->kM P w K mg base A outer s H->BindsTo s fd args (ps.zip us)->Vals vs us->sp vs H Q E->
  codeAny (model P w) A (.call (.ref f) args) (CR CX outer P w H s Q E) s
theorem kM.make{P:Program}{w:World}{K:PySem.W.Frag}{mg:Str->Option Value}{base:Heap}{A:Around}{outer:List Env}{s:Shared}{H:Hp}(e:kM P w K mg base A outer s H)(C:Addr)(us:List Value)(kw:List (Str×Value)) :
  kM P w K mg base (A.under (.builtin "type.__call__" ⟨.ref C::us,kw⟩)) outer s H:=⟨by first | exact e.frames | (simpa[Around.under,Code.envs,Code.isFrame,pushEnvs] using e.frames),e.mod,e.bs,e.lO,e.ju,e.pf,e.aC,e.bare⟩
theorem kM.in1{P:Program}{w:World}{K:PySem.W.Frag}{mg:Str->Option Value}{base:Heap}{A:Around}{outer:List Env}{s:Shared}{H:Hp}(e:kM P w K mg base A outer s H) :
  kM P w K mg base A.in1 outer s H:=⟨e.frames,e.mod,e.bs,e.lO,e.ju,e.pf,e.aC,e.bare⟩
section
variable{X:Cx}{pins:List (Addr×Obj)}{σ:St}{H:Hp}{s s':Shared}
theorem Inv.DD(I:Inv X pins σ H s):kM X.prog X.w X.K X.mg X.base X.A X.stack s H:=
 ⟨I.ok.frames,I.ok.mod,I.bs,bO I.ok.lO I.sz,I.stack,I.Dj,I.aC,I.bare⟩
theorem Inv.after{Q:VK}{u:Value}(I:Inv X pins σ H s)(h:CE X.stack X.prog X.w H s Q u s'):EP X pins σ Q u s':=by
 obtain⟨v,H',os,bare,un,aC,r,q⟩:=h
 obtain⟨hh,g,d,t,Wa⟩:=s'
 obtain rfl:Wa=s.os:=os
 exact⟨v,H',I.call (h':=hh) (g':=g) (d':=d) (t':=t) (ch:=[]) un aC bare (λb z=>absurd z (by simp)),r,q⟩
end
def DE(sp:Sp)(cP:List V)(E:XK)(t:TA):TE:=λσ H Q=>t σ H λvs H1=>sp (vs++cP) H1 Q E
def zY(C:Addr)(m:Str)(sp:Sp)(cP:List V)(E:XK)(ta:TE)(t:TA):TE:=λσ H Q=>ta σ H λx H1=>∃a dx fs,x = .ref a/\H1 a=some (.ins C dx fs)/\fs.lookup m=none/\
 t σ H1 λvs H2=>sp (x::(vs++cP)) H2 Q E
def zZ(C:Addr)(sp:Sp)(cP:List V)(E:XK)(t:TA):TE:=λσ H Q=>t σ H λvs H1=>∀x dx,H1 x=none->H1 dx=none->dx≠x->
 sp (.ref x::(vs++cP)) (upd (upd H1 dx (.own x)) x (.ins C dx [])) (λv H2=>v = .aD/\Q (.ref x) H2) E
def Binds(K:PySem.W.Frag)(fd:FuncData)(ps:List Str)(ds:List Value):Prop:=
 ∀(s:Shared) (us:List Value),K.In s.heap->(us++ds).length=ps.length->BindsTo s fd ⟨us,[]⟩ (ps.zip (us++ds))
theorem Binds.all{K:PySem.W.Frag}{fd:FuncData}{ps:List Str}(h:∀us:List Value,us.length=ps.length->bindArgs fd ⟨us,[]⟩=pure (ps.zip us)):Binds K fd ps []:=λs us _ hl=>by
 rw[gm] at hl ⊢
 exact .of_eq (h us hl)
def Passes(CX:j4)(X:Cx)(E:XK):Prop := ∀(pins:List (Addr×Obj)) (σ:St) (H:Hp) (s:Shared) (e:Value) (s':Shared),Inv X pins σ H s->CX X.stack H s E e s'->X.xe e s'
section
variable{X:Cx}{CX:j4}{k:Nat}{f C:Addr}{fd:FuncData}{ps:List Str}{sp:Sp}{cP:List V}{ds:List Value}{E:XK}{x m:Str}{p pos apos:Pos}{e o:Expr}{es:List Expr}{ta:TE}{t:TA}
theorem DF{pins:List (Addr×Obj)}{σ:St}{H:Hp}{s:Shared}{Q:VK}{us:List Value}{vs:List V}(F:aS X.prog X.w X.K X.mg X.base CX k f fd ps sp)(hr:cw k X.A)(hb:Binds X.K fd ps ds)(hd:Vals cP ds)(hx:Passes CX X E)
  (I:Inv X pins σ H s) (r:Vals vs us) (h:sp (vs++cP) H Q E):wpAny (model X.prog X.w) X.A (call (.ref f) us) (EP X pins σ Q) X.xe s:=by
 have r2:Vals (vs++cP) (us++ds):=r.append hd
 have hl:(us++ds).length=ps.length:=by rw[<-r2.length];exact F.len _ _ _ _ h
 refine zg (vT (F.run X.A X.stack s H ⟨us,[]⟩ (us++ds) (vs++cP) Q E hr I.DD (hb s us I.dh hl) r2 h) λr s' hq=>?_)
 cases r with
 |error e=>exact hx pins σ H s e s' I hq
 |ok fl=>
  cases fl with
  |ret u=>exact I.after hq
  |next=>exact False.elim hq
  |brk=>exact False.elim hq
  |cont=>exact False.elim hq
theorem Ll(F:aS X.prog X.w X.K X.mg X.base CX k f fd ps sp)(hr:cw k X.A)(hg:Gl X x)(hm:X.mg x=some (.ref f))(hk:PySem.W.keepIn X.K (.ref f)=true)(hb:Binds X.K fd ps ds)(hd:Vals cP ds)(hx:Passes CX X E)
  (ha:PA X (e::es) t) (fK:(x==("__debug__":Str))=false:=by decide) (he:starEach (e::es) X.env=(false,eval e X.env)::starEach es X.env:=by rfl) (hpl:(backTo pos (starEach es X.env)).any (·.1)=false:=by rfl) :
  PE X (.Call (.Name x p) (e::es) [] pos) (DE sp cP E t):=by
 intro pins s σ H Q I h
 refine vU (wA I hg hm ?_ fK)
 refine PySem.W.callWith_K (h₀:=X.base) I.ok.mod.qT hk (aB (ha pos pins s σ H _ I h) λus s1 ⟨vs,H1,I1,r,q⟩=>⟨I1.dh,?_⟩) he hpl
 exact DF F hr hb hd hx I1 r q
theorem Wb{pl:Sem Bool}(he:PE X o ta)(c:cH X.K C)(hm:Meth X.K C m f)(F:aS X.prog X.w X.K X.mg X.base CX k f fd ps sp)(hr:cw k X.A)(hb:Binds X.K fd ps ds)(hd:Vals cP ds)(hx:Passes CX X E)(ha:PA X (e::es) t)
  (cX:starEach (e::es) X.env=(false,eval e X.env)::starEach es X.env:=by rfl) (hpl:(backTo pos (starEach es X.env)).any (·.1)=false:=by rfl)
  (ht:eval (.Call (.Attribute o m apos) (e::es) [] pos) X.env=(do
   let ov<-eval o X.env
   standAt apos.atName
   let (f,first)<-holding [ov] (getMethod ov m pl)
   callWith pos f first (backTo pos (starEach (e::es) X.env)) (backToKw pos (keywordEach [] X.env))):=by rfl) :
  PE X (.Call (.Attribute o m apos) (e::es) [] pos) (zY C m sp cP E ta t):=by
 intro pins s σ H Q I h
 refine PySem.W.methodCall_KW (pl:=pl) (aB (he pins s σ H _ I h) λu s1 ⟨x,H1,I1,rx,a,dx,fs,ex,ea,l,q⟩=>?_) ht
 subst ex
 obtain rfl:u=Value.ref a:=rx
 refine Lh I1 ea c hm l ?_
 refine PySem.W.callWith_K (first:=[.ref a]) (h₀:=X.base) I.ok.mod.qT hm.kp (aB (ha pos pins s1 σ H1 _ I1 q) λus s2 ⟨vs,H2,I2,r,q2⟩=>⟨I2.dh,?_⟩) cX hpl
 exact DF (us := .ref a::us) (vs := .ref a::vs) F hr hb hd hx I2 (.cons rfl r) q2
theorem Wc{pl:Sem Bool}(he:PE X o ta)(c:cH X.K C)(hm:Meth X.K C m f)(F:aS X.prog X.w X.K X.mg X.base CX k f fd ps sp)(hr:cw k X.A)(hb:Binds X.K fd ps ds)(hd:Vals cP ds)(hx:Passes CX X E)
  (ht:eval (.Call (.Attribute o m apos) [] [] pos) X.env=(do
   let ov<-eval o X.env
   standAt apos.atName
   let (f,first)<-holding [ov] (getMethod ov m pl)
   callWith pos f first (backTo pos (starEach [] X.env)) (backToKw pos (keywordEach [] X.env))):=by rfl) :
  PE X (.Call (.Attribute o m apos) [] [] pos) (zY C m sp cP E ta lT):=by
 intro pins s σ H Q I h
 refine PySem.W.methodCall_KW (pl:=pl) (aB (he pins s σ H _ I h) λu s1 ⟨x,H1,I1,rx,a,dx,fs,ex,ea,l,q⟩=>?_) ht
 subst ex
 obtain rfl:u=Value.ref a:=rx
 refine Lh I1 ea c hm l ?_
 exact PySem.W.callWith_K0 (first:=[.ref a]) I1.dh hm.kp (DF (us:=[.ref a]) (vs:=[.ref a]) F hr hb hd hx I1 (.cons rfl .nil) q)
structure Mk(K:PySem.W.Frag)(C f:Addr):Prop where
 makes:PySem.W.makesIn K C=true
 init:PySem.W.findIn K (.ref C) "__init__"=some (some (.ref f))
 fn:PySem.W.isFn K (.ref f)=true
 kp:PySem.W.keepIn K (.ref C)=true
theorem Lm{pins:List (Addr×Obj)}{σ:St}{H:Hp}{s:Shared}{Q:VK}{us:List Value}{vs:List V}(M:Mk X.K C f)(F:aS X.prog X.w X.K X.mg X.base CX k f fd ps sp)(hr:cw (k+1) X.A)(hb:Binds X.K fd ps ds)(hd:Vals cP ds)
  (hx:Passes CX X E) (I:Inv X pins σ H s) (r:Vals vs us)
  (h:∀x dx,H x=none->H dx=none->dx≠x->sp (.ref x::(vs++cP)) (upd (upd H dx (.own x)) x (.ins C dx [])) (λv H2=>v = .aD/\Q (.ref x) H2) E) :
  wpAny (model X.prog X.w) X.A (call (.ref C) us) (EP X pins σ Q) X.xe s:=by
 have hq:=h (s.heap.objs.size+1) s.heap.objs.size (I.aC.fresh (iO _)) (I.aC.fresh (aP _)) (bh (oS _))
 have I2:=Inv.made (C:=C) I
 have r2:Vals (V.ref (s.heap.objs.size+1)::(vs++cP)) (Value.ref (s.heap.objs.size+1)::(us++ds)) := .cons rfl (r.append hd)
 have hl:(Value.ref (s.heap.objs.size+1)::us++ds).length=ps.length:=by
  have e:=r2.length
  rw[F.len _ _ _ _ hq] at e
  exact e.symm
 refine zg (V0 (f:=f) I.dh M.makes M.init (m8.mp M.fn) (vT (F.run _ X.stack _ _ ⟨Value.ref (s.heap.objs.size+1)::us,[]⟩ (Value.ref (s.heap.objs.size+1)::(us++ds)) _ _ E (hr.make C us [])
  (I2.DD.make C us []) (hb _ (Value.ref (s.heap.objs.size+1)::us) I2.dh hl) r2 hq) λr s' jw=>?_))
 cases r with
 |error e=>exact hx pins σ _ _ e s' I2 jw
 |ok fl=>
  cases fl with
  |ret u=>
   obtain⟨v,H',I3,rv,ev,q3⟩:=I2.after jw
   subst ev
   exact⟨rv,⟨V.ref (s.heap.objs.size+1),H',I3,rfl,q3⟩⟩
  |next=>exact False.elim jw
  |brk=>exact False.elim jw
  |cont=>exact False.elim jw
theorem Wd(M:Mk X.K C f)(F:aS X.prog X.w X.K X.mg X.base CX k f fd ps sp)(hr:cw (k+1) X.A)(hg:Gl X x)(hm:X.mg x=some (.ref C))(hb:Binds X.K fd ps ds)(hd:Vals cP ds)(hx:Passes CX X E)
  (ha:PA X (e::es) t) (fK:(x==("__debug__":Str))=false:=by decide) (he:starEach (e::es) X.env=(false,eval e X.env)::starEach es X.env:=by rfl) (hpl:(backTo pos (starEach es X.env)).any (·.1)=false:=by rfl) :
  PE X (.Call (.Name x p) (e::es) [] pos) (zZ C sp cP E t):=by
 intro pins s σ H Q I h
 refine vU (wA I hg hm ?_ fK)
 refine PySem.W.callWith_K (h₀:=X.base) I.ok.mod.qT M.kp (aB (ha pos pins s σ H _ I h) λus s1 ⟨vs,H1,I1,r,q⟩=>⟨I1.dh,?_⟩) he hpl
 exact Lm M F hr hb hd hx I1 r q
theorem We(M:Mk X.K C f)(F:aS X.prog X.w X.K X.mg X.base CX k f fd ps sp)(hr:cw (k+1) X.A)(hg:Gl X x)(hm:X.mg x=some (.ref C))(hb:Binds X.K fd ps ds)(hd:Vals cP ds)(hx:Passes CX X E)
  (fK:(x==("__debug__":Str))=false:=by decide):PE X (.Call (.Name x p) [] [] pos) (zZ C sp cP E lT):=by
 intro pins s σ H Q I h
 refine vU (wA I hg hm ?_ fK)
 exact PySem.W.callWith_K0 I.dh M.kp (Lm (us:=[]) M F hr hb hd hx I .nil h)
end
section
variable{X:Cx}{CX:j4}{k:Nat}{f C:Addr}{fd:FuncData}{ps ks:List Str}{sp:Sp}{E:XK}{x m:Str}{p pos apos anW:Pos}{e o:Expr}{es:List Expr}{kws:List Keyword}{te ta:TE}{t tk:TA}{nm:Option Str}
structure anY(K:PySem.W.Frag)(fd:FuncData)(ps ks:List Str)(g:List Value->List Value->List Value)(gV:List V->List V->List V):Prop where
 to:∀(s:Shared) (us ws:List Value),K.In s.heap->(g us ws).length=ps.length->BindsTo s fd ⟨us,ks.zip ws⟩ (ps.zip (g us ws))
 rel:∀{vs:List V}{us:List Value}{zs:List V}{ws:List Value},Vals vs us->Vals zs ws->Vals (gV vs zs) (g us ws)
variable{g:List Value->List Value->List Value}{gV:List V->List V->List V}
end
structure bw(N P:List Str)(sc:Scope):Prop where
 kind:sc.kind = .function
 co:sc.isCoroutine=false
 gen:sc.isGenerator=false
 nd:N.Nodup
 pre:N.take P.length=P
 par:∀x∈P,sc.names.lookup x=some .local\/sc.names.lookup x=some .cell
 Wf:∀y∈sc.names,y.2 ≠ .free
theorem Ln{kindOf:Str->Option NameKind}{x:Str}:∀{binds:List (Str×Value)}{m:Str->Option Value},(∀v,(x,v)∉binds)->bindL kindOf binds m x=m x
 |[],_,_=>rfl
 |(n,v)::r,m,h=>by
  unfold bindL
  rw[Ln λw hw=>h w (cg _ hw)]
  split
  .have:x≠n:=by rintro rfl;exact h v bL
   simp[this]
  .rfl
theorem Lo{kindOf:Str->Option NameKind}{x:Str}:∀{binds:List (Str×Value)}{m:Str->Option Value},(∀v,(x,v)∉binds)->bindC kindOf binds m x=m x
 |[],_,_=>rfl
 |(n,v)::r,m,h=>by
  unfold bindC
  rw[Lo λw hw=>h w (cg _ hw)]
  split
  .rfl
  .have:x≠n:=by rintro rfl;exact h v bL
   simp[this]
theorem Lp{kindOf:Str->Option NameKind}{x:Str}{v:Value}:∀{P:List Str}{vs:List Value}{i:Nat}{m:Str->Option Value},P.Nodup->P[i]? = some x->vs[i]? = some v->kindOf x=some .local->
  bindL kindOf (P.zip vs) m x=some v
 |[],_,_,_,_,h,_,_=>by simp at h
 |_::_,[],_,_,_,_,h,_=>by simp at h
 |p::P,w::vs,0,m,nd,h1,h2,hk=>by
  simp at h1 h2;subst h1;subst h2
  show bindL kindOf ((p,w)::P.zip vs) m p=_
  unfold bindL
  rw[Ln λv hv=>(fF.mp nd).1 (List.of_mem_zip hv).1,aA hk]
  simp
 |p::P,w::vs,i+1,m,nd,h1,h2,hk=>by
  show bindL kindOf ((p,w)::P.zip vs) m x=_
  unfold bindL
  exact Lp (i:=i) (fF.mp nd).2 (by simpa using h1) (by simpa using h2) hk
theorem Lq{kindOf:Str->Option NameKind}{x:Str}{v:Value}:∀{P:List Str}{vs:List Value}{i:Nat}{m:Str->Option Value},P.Nodup->P[i]? = some x->vs[i]? = some v->kindOf x≠some .local->
  bindC kindOf (P.zip vs) m x=some v
 |[],_,_,_,_,h,_,_=>by simp at h
 |_::_,[],_,_,_,_,h,_=>by simp at h
 |p::P,w::vs,0,m,nd,h1,h2,hk=>by
  simp at h1 h2;subst h1;subst h2
  show bindC kindOf ((p,w)::P.zip vs) m p=_
  unfold bindC
  rw[Lo λv hv=>(fF.mp nd).1 (List.of_mem_zip hv).1,aw hk]
  simp
 |p::P,w::vs,i+1,m,nd,h1,h2,hk=>by
  show bindC kindOf ((p,w)::P.zip vs) m x=_
  unfold bindC
  exact Lq (i:=i) (fF.mp nd).2 (by simpa using h1) (by simpa using h2) hk
def start(N:List Str)(vs:List V):St:=vs.map some++List.replicate (N.length - vs.length) none
def nG(CX:j4)(P:Program)(w:World)(K:PySem.W.Frag)(mg:Str->Option Value)(base:Heap)(N:List Str)(qual:Str)(scope:Scope)(f:Addr)(cd:Value)(A:Around)(outer:List Env)(s:Shared)(H:Hp)(E:XK):Cx where
 prog:=P
 w:=w
 K:=K
 mg:=mg
 base:=base
 A:=A.deeper (envOfC qual scope s.heap.objs.size f cd)
 N:=N
 s₀:=s
 H₀:=H
 env:=envOfC qual scope s.heap.objs.size f cd
 outer:=outer
 stack:=envOfC qual scope s.heap.objs.size f cd::outer
 ex:=[]
 calm:=true
 fn:=λ_=>true
 pn:=[]
 xe:=λe s'=>wpAny (model P w) (A.deeper (envOfC qual scope s.heap.objs.size f cd)) (leaving (envOfC qual scope s.heap.objs.size f cd) e) (λ_ DG=>CX outer H s E e DG) (λe' DG=>CX outer H s E e' DG) s'
theorem Lr{sc:Scope}{n:Nat}{x:Str}(h:sc.names.lookup x=some .cell):∃c,(cellsFrom n sc.names []).lookup x=some c:=by
 have q:=PySem.W.cellsFrom_some sc.names n [] (.inl h)
 exact Option.isSome_iff_exists.mp q
theorem Wg{CX:j4}{P:Program}{w:World}{K:PySem.W.Frag}{mg:Str->Option Value}{base:Heap}{N ps:List Str}{qual:Str}{scope:Scope}{f:Addr}{cd:Value}{A:Around}{outer:List Env}{s s1:Shared}{H:Hp}{E:XK}{us:List Value}{vs:List V}
  (S:bw N ps scope) (hd:A.handled=none) (e0:kM P w K mg base A outer s H) (hl:vs.length=ps.length) (r:Vals vs us)
  (x:InCallC s s.heap.objs.size (bindL (envOfC qual scope s.heap.objs.size f cd).kindOf (ps.zip us) λ_=>none) (cellsFrom (s.heap.objs.size+1) scope.names []) (bindC (envOfC qual scope s.heap.objs.size f cd).kindOf (ps.zip us) λ_=>none) s1) :
  Inv (nG CX P w K mg base N qual scope f cd A outer s H E) [] (start N vs) H s1:=by
 have hpl:ps.length<=N.length:=by have:=eD List.length S.pre;rw[jQ] at this;omega
 obtain⟨h1,tk,rfl,hk⟩:=x.done
 have wG:∀b:Addr,b∉(nG CX P w K mg base N qual scope f cd A outer s H E).ex:=λb z=>absurd (show b∈([]:List Addr) from z) (by simp)
 refine⟨⟨e0.mod,S.kind,rfl,rfl,aP _,λy z c h1 h2=>?_,λy hy=>?_,λy c _ h=>?_,λ_=>hd,Around.frames_deeper e0.frames,.inr ⟨rfl,rfl⟩,λb z=>absurd z (wG b),e0.bs,e0.lO,λb _ _=>wG b,λb z=>absurd z (wG b),e0.ju,e0.pf⟩,
  rfl,e0.bare,Un.kept hk,⟨_,x.toInCall.ns,λi y v h1 h2 h3=>?_⟩,λy c h=>⟨_,x.cell y c h⟩,e0.aC.fresh (aP _),λy c h=>?_,λp hp=>absurd (show p∈([]:List (Addr×Obj)) from hp) (by simp),e0.aC.kept hk,?_⟩
 .exact name_of_addr x.apart (CN h1) (CN h2)
 .have hy:scope.names.lookup y=some .cell\/scope.names.lookup y=some .free:=hy
  rcases hy with hy | hy
  .exact Lr hy
  .exact absurd rfl (S.Wf _ (CN hy))
 .exact zc (x.above y c (CN h))
 .have hi:i<vs.length:=by
   unfold start at h2
   by_cases hi:i<vs.length
   .exact hi
   .rw[J3 (by simpa using hi)] at h2
    rw[UE] at h2
    split at h2 <;> cases h2
  have ha:vs[i]? = some v:=by
   unfold start at h2
   rw[UG (by simpa using hi),bu] at h2
   cases e:vs[i]? with
   |none=>rw[e] at h2;cases h2
   |some a=>rw[e] at h2;cases h2;rfl
  obtain⟨u,hu,rv⟩:=r.get ha
  have hp:ps[i]? = some y:=by
   rw[<-S.pre,CO (by omega)];exact h1
  have Ls:ps.Nodup:=by rw[<-S.pre];exact S.nd.sublist (Ka _ _)
  refine⟨u,rv,?_⟩
  rcases S.par y (bE hp) with k | k
  .exact .inl ⟨k,Lp Ls hp hu k⟩
  .obtain⟨c,e⟩:=Lr (n:=s.heap.objs.size+1) k
   refine .inr ⟨.inl k,c,e,?_⟩
   have q:=x.cell y c e
   rw[Lq Ls hp hu (by show scope.names.lookup y≠_;rw[k];decide)] at q
   exact q
 .exact e0.aC.fresh (zc (x.above y c (CN h)))
 .unfold start
  show _=N.length
  rw[dw,ax,tj]
  omega
theorem Lu{CX:j4}{P:Program}{w:World}{K:PySem.W.Frag}{mg:Str->Option Value}{base:Heap}{k:Nat}{f:Addr}{name qual:Str}{params:Arguments}{body:List Stmt}{scope:Scope}{dV kV doc pm aL ct oc:Value}{an od:Option Addr}
  {j5:Array (Option Value)}{N ps:List Str}{sp:Sp}(lk:K.lookup f=some ⟨oc,od,.func (PySem.W.fnOf name qual params body scope dV kV doc pm an aL ct),j5⟩) (iU:PySem.W.codeIn K aL qual=true) (S:bw N ps scope)
  (len:∀vs H Q E,sp vs H Q E->vs.length=ps.length)
  (rm:∀(A:Around) (outer:List Env) (s:Shared) (H:Hp) (vs:List V) (Q:VK) (E:XK),cw k (A.deeper (envOfC qual scope s.heap.objs.size f aL))->sp vs H Q E->
   ∃t,gS (nG CX P w K mg base N qual scope f aL A outer s H E) body t/\t { nx:=λ_ H'=>Q .aD H',rt:=Q } (start N vs) H) :
  aS P w K mg base CX (k+1) f (PySem.W.fnOf name qual params body scope dV kV doc pm an aL ct) ps sp:=by
 refine⟨len,λA outer s H args us vs Q E hr e0 hb r lU=>?_⟩
 have hl:=len _ _ _ _ lU
 have KX:K.In s.heap:=e0.mod.qT.keeps λb o e=>(e0.bs b o e).1
 have lim:s.heap.NoLimit:=e0.mod.nolimit.keeps λb o e=>(e0.bs b o e).1
 have Wh:∀y∈ps.zip us,scope.names.lookup y.1=some .local\/(scope.names.lookup y.1=some .cell/\((cellsFrom (s.heap.objs.size+1) scope.names []).lookup y.1).isSome=true):=λ⟨n,v⟩ hy=>by
  rcases S.par n (List.of_mem_zip hy).1 with q | q
  .exact .inl q
  .exact .inr ⟨q,PySem.W.cellsFrom_some _ _ _ (.inl q)⟩
 refine codeAny_call_function hr.depth (KX _ _ lk) rfl S.co S.gen rfl (PySem.W.codeRec_of KX iU) (hb _ _ _ _ ?_)
 refine wpAny_newFunctionEnv_cells S.kind Wh λenv he s1 x=>?_
 subst he
 refine⟨lim.keeps x.toInCall.keep,codeAny_func ?_⟩
 obtain⟨t,ht,hq⟩:=rm A outer s H vs Q E (hr.deeper _) lU
 have I:Inv (nG CX P w K mg base N qual scope f aL A outer s H E) [] (start N vs) H s1:=Wg S hr.hd e0 hl r x
 refine jP (ht [] s1 (start N vs) H _ I hq) (λfl s' hs=>?_) λe s' hs=>hs
 have fin:∀{σ':St}{H':Hp}{v:V}{u:Value},Inv (nG CX P w K mg base N qual scope f aL A outer s H E) [] σ' H' s'->RelV v u->Q v H'->CE outer P w H s Q u s':=
  λ{σ' H' v u} J rv q=>⟨v,H',J.os,J.bare,J.base,J.aC,rv,q⟩
 cases fl with
 |ret u=>
  obtain⟨v,σ',H',J,rv,q⟩:=hs
  exact fin J rv q
 |next=>
  obtain⟨σ',H',J,q⟩:=hs
  exact fin (v:=V.aD) (u:=Value.none) J rfl q
 |brk=>
  obtain⟨_,_,_,q⟩:=hs
  exact False.elim q
 |cont=>
  obtain⟨_,_,_,q⟩:=hs
  exact False.elim q
section
variable{X:Cx}{x:Str}{p pos:Pos}{e:Expr}{es:List Expr}{t:TA}{id T:String}{r:List V->Hp->VK->Prop}
def Lv(r:List V->Hp->VK->Prop)(t:TA):TE:=λσ H Q=>t σ H λvs H1=>r vs H1 Q
theorem bp(hc:fW X (.builtin id) r)(hg:Gl X x)(hm:X.mg x=none)(hv:bootBuiltins x=some (.builtin id))(ha:PA X (e::es) t)(hn:x≠"__name__":=by decide)(fK:(x==("__debug__":Str))=false:=by decide)
  (he:starEach (e::es) X.env=(false,eval e X.env)::starEach es X.env:=by rfl) (hpl:(backTo pos (starEach es X.env)).any (·.1)=false:=by rfl):PE X (.Call (.Name x p) (e::es) [] pos) (Lv r t):=by
 intro pins s σ H Q I h
 refine vU (lP I hg hm hv ?_ hn fK)
 exact PyProof.Rows.callWith_builtin1 (aB (ha pos pins s σ H _ I h) λus s1 ⟨vs,H1,I1,r1,q1⟩=>hc pins s1 σ H1 vs us Q I1 r1 q1) he hpl
theorem iz(hc:fW X (.type T) r)(hg:Gl X x)(hm:X.mg x=none)(hv:bootBuiltins x=some (.type T))(ha:PA X (e::es) t)(hn:x≠"__name__":=by decide)(fK:(x==("__debug__":Str))=false:=by decide)
  (he:starEach (e::es) X.env=(false,eval e X.env)::starEach es X.env:=by rfl) (hpl:(backTo pos (starEach es X.env)).any (·.1)=false:=by rfl):PE X (.Call (.Name x p) (e::es) [] pos) (Lv r t):=by
 intro pins s σ H Q I h
 refine vU (lP I hg hm hv ?_ hn fK)
 exact vS (aB (ha pos pins s σ H _ I h) λus s1 ⟨vs,H1,I1,r1,q1⟩=>hc pins s1 σ H1 vs us Q I1 r1 q1) he hpl
end
end L2
namespace HT
open PySem PyProof.Rows
def lexLt:List Int->List Int->Bool
 |[],[]=>false
 |[],_::_=>true
 |_::_,[]=>false
 |x::xs,y::ys=>if x=y then lexLt xs ys else decide (x<y)
theorem Lw(x y:Int)(xs ys:List Int):lexLt (x::xs) (y::ys)=if x=y then lexLt xs ys else decide (x<y):=rfl
theorem Wi:lexLt [] []=false:=rfl
theorem Wj(y:Int)(ys:List Int):lexLt [] (y::ys)=true:=rfl
theorem Wk(x:Int)(xs:List Int):lexLt (x::xs) []=false:=rfl
theorem Wl(A:Around)(s:Shared)(a:Int)(t:Tok)(c:Int)(u:Tok):∃e,SeqAt.EqAt A s (.int a t) (.int c u) e/\(e=true↔a=c):=
 ⟨(a==c),SeqAt.EqAt.int_int a t c u,by simp⟩
theorem Wm(A:Around)(s:Shared)(a:Int)(t:Tok)(c:Int)(u:Tok)(prog:Program)(w:World)(E:Value->Shared->Prop)(Q:Value->Shared->Prop)(h:Q (.bool (decide (a<c))) s) :
  wpAny (model prog w) A (richCompare .Lt (.int a t) (.int c u)) Q E s:=
 (PyProof.Rows.lt_int h:wpAny (model prog w) A (compareOp .Lt (.int a t) (.int c u)) Q E s)
section
open PySem.SeqAt
open PySem.AutoSeq1 (wpAny_loadPart')
open PySem.MeetsSeq PySem.MeetsSeq2 PySem.MeetsSeq3
theorem Wn(l b:Addr)(items lV:Array Value)(n n2:Nat)(dd DH:Option Addr)(sl wH:Array (Option Value))(ns ms:List Int)(hi:IntsAre items.toList ns)(hj:IntsAre lV.toList ms) :
  Meets (Builtin.«tuple.__lt__» ⟨[.ref l,.ref b],[]⟩)
   (λ_ R s=>s.heap.get? l=some { cls := .type "tuple",dict:=dd,data := .seq items n,slots:=sl }/\s.heap.get? b=some { cls := .type "tuple",dict:=DH,data := .seq lV n2,slots:=wH } /\
    R (.ok (.ret (.bool (lexLt ns ms)))) s):=
 .of_wp λprog w A R s h=>by
  obtain⟨hp,g,d,tk,os⟩:=s;obtain⟨hl,hb,h⟩:=h
  have f2:=AutoSeq1.sub_tuple_tuple
  have z1:items.size=ns.length:=by rw[<-hi.length];simp
  have z2:lV.size=ms.length:=by rw[<-hj.length];simp
  wp_walk using wpAny_loadPart' hl,wpAny_loadPart' hb,Kb _ (λrest b s'=>b.1=none/\s'=⟨hp,g,d,tk,os⟩/\∃(vs ws:List Value) (tV tW:List Int),rest=vs.zip ws/\
   IntsAre vs tV/\IntsAre ws tW/\tV.length+lV.size=tW.length+items.size/\R (.ok (.ret (.bool (lexLt tV tW)))) ⟨hp,g,d,tk,os⟩) _
  case turn=>
   rintro⟨y,x⟩ rest b s' ⟨jz,rfl,vs,ws,tV,tW,hz,DI,z7,hlen,hR⟩
   cases DI with
   |nil=>rw[List.zip_nil_left] at hz;cases hz
   |cons a t Wo=>
    cases z7 with
    |nil=>rw[List.zip_nil_right] at hz;cases hz
    |cons c u Wq=>
     rw[List.zip_cons_cons] at hz
     injection hz with Wr Ws
     injection Wr with hy hx
     subst hy hx
     rw[Lw] at hR
     simp only[dg] at hlen
     obtain⟨e,he,Lx⟩:=Wl A.in1 ⟨hp,g,d,tk,os⟩ a t c u
     refine ai (he prog w _ _ ?_)
     cases e with
     |true=>
      rw[aA (Lx.mp rfl)] at hR
      wp_walk
      exact⟨rfl,rfl,_,_,_,_,Ws,Wo,Wq,by omega,hR⟩
     |false=>
      rw[aw (λq=>absurd (Lx.mpr q) cj)] at hR
      have Wt:=Wm A.in1 ⟨hp,g,d,tk,os⟩ a t c u prog w
      wp_walk using Wt
      exact⟨_,rfl,by simpa using hR⟩
  case fin=>
   rintro⟨b1,b2⟩ s' ⟨jz,rfl,vs,ws,tV,tW,hz,DI,z7,hlen,hR⟩
   simp only at jz
   subst jz
   have hv:lexLt tV tW=decide (items.size<lV.size):=by
    cases DI with
    |nil=>
     cases z7 with
     |nil=>
      simp only[CQ] at hlen
      rw[Wi]
      exact(aH (by omega)).symm
     |cons c u hw=>
      simp only[CQ,dg] at hlen
      rw[Wj]
      exact(aG (by omega)).symm
    |cons a t hv=>
     cases z7 with
     |nil=>
      simp only[CQ,dg] at hlen
      rw[Wk]
      exact(aH (by omega)).symm
     |cons c u hw=>
      rw[List.zip_cons_cons] at hz
      cases hz
   rw[hv] at hR
   wp_walk
   exact⟨_,rfl,by simpa[Builtin.Tuple.tupleCompareSizes] using hR⟩
  case h=>
   exact⟨rfl,rfl,items.toList,lV.toList,ns,ms,rfl,hi,hj,by omega,h⟩
end
section
variable{prog:Program}{w:World}{A:Around}{E:Value->Shared->Prop}{s:Shared}
theorem Wu{l b:Addr}{items lV:Array Value}{ns ms:List Int}{Q:Value->Shared->Prop}(hl:IsTup s.heap l items)(hb:IsTup s.heap b lV)(hi:IntsAre items.toList ns)(hj:IntsAre lV.toList ms)
  (hu:A.units<cLine) (h:Q (.bool (lexLt ns ms)) s):wpAny (model prog w) A (compareOp .Lt (.ref l) (.ref b)) Q E s:=by
 obtain⟨⟨cls,dd,data,sl⟩,ho,hc,n,hd⟩:=id hl
 obtain⟨⟨anZ,DH,data2,wH⟩,jA,rn,n2,hd2⟩:=id hb
 simp only at hc hd rn hd2
 subst hc hd rn hd2
 exact richCompare_meets_room (op := .Lt) ⟨_,ho,rfl⟩ ⟨_,jA,rfl⟩ PySem.F.slot_tuple_lt PySem.F.entry_tuple_lt (PySem.F.args_tuple_lt_2 _ _) (Wn l b items lV n n2 dd DH sl wH ns ms hi hj)
  ⟨ho,jA,show Value.bool (lexLt ns ms)≠Value.notImplemented/\Q (.bool (lexLt ns ms)) s from⟨(λx=>nomatch x),h⟩⟩ hu
def gB(n d:Nat):Option Int->Nat
 |none=>d
 |some v=>if v<0 then (v+(n:Int)).toNat else min v.toNat n
theorem Ly(n d:Nat):gB n d none=d:=rfl
theorem Lz(n d k:Nat):gB n d (some (k:Int))=min k n:=by
 show(if (k:Int)<0 then ((k:Int)+(n:Int)).toNat else min (k:Int).toNat n)=min k n
 rw[aw (by omega),dY]
end
end HT
namespace L2
open PySem PySem.Spec PyProof.Rows
abbrev TO:=St->Hp->(Option Int->Hp->Prop)->Prop
def PO(X:Cx)(e:Option Expr)(t:TO):Prop:=
 ∀(pins:List (Addr×Obj)) (s:Shared) (σ:St) (H:Hp) (Q:Option Int->Hp->Prop),Inv X pins σ H s->t σ H Q->
  wpAny (model X.prog X.w) X.A (evalPart e X.env) (λu s' =>∃o H',Inv X pins σ H' s'/\IsPart u o/\Q o H') X.xe s
def Wv:TO:=λ_ H Q=>Q none H
def Ww(t:TE):TO:=λσ H Q=>t σ H λx H1=>∃i,x = .int i/\Q (some i) H1
section
variable{X:Cx}{e:Expr}{te:TE}{lo hi:Option Expr}{tl th:TO}{pos p2:Pos}
theorem lW:PO X none Wv:=by
 intro pins s σ H Q I h
 rw[evalPart_none]
 exact aM ⟨none,H,I,.none,h⟩
theorem lX(h:PE X e te):PO X (some e) (Ww te):=by
 intro pins s σ H Q I hw
 rw[evalPart_some]
 refine aB (h pins s σ H _ I hw) λu s1 ⟨x,H1,I1,r1,q1⟩=>?_
 obtain⟨i,rfl,q⟩:=q1
 obtain⟨t,rfl⟩:=r1
 exact⟨some i,H1,I1,.int i t,q⟩
def DJ(X:Cx)(r:V->Option Int->Option Int->Hp->VK->Prop):Prop:=
 ∀(pins:List (Addr×Obj)) (s:Shared) (σ:St) (H:Hp) (x:V) (v vl vu:Value) (lo hi:Option Int) (sl:Addr) (Q:VK),Inv X pins σ H s->RelV x v->s.heap.IsSliceOf sl vl vu .none->IsPart vl lo->IsPart vu hi->r x lo hi H Q->
  ∃T id,typeLookup (.type T) "__getitem__"=pure (some (.builtin id))/\s.TypeIs v T/\wpAny (model X.prog X.w) X.A (getItem v (.ref sl)) (EP X pins σ Q) X.xe s
def Wx(r:V->Option Int->Option Int->Hp->VK->Prop)(te:TE)(tl th:TO):TE:=λσ H Q=>te σ H λx H1=>tl σ H1 λl H2=>th σ H2 λu H3=>r x l u H3 Q
theorem nH{r:V->Option Int->Option Int->Hp->VK->Prop}(hr:DJ X r)(he:PE X e te)(hl:PO X lo tl)(hu:PO X hi th):PE X (.Subscript e (.Slice lo hi none p2) pos) (Wx r te tl th):=by
 intro pins s σ H Q I h
 refine Subscript_ (aB (he pins s σ H _ I h) λv s1 ⟨x,H1,I1,r1,q1⟩=>?_)
 refine wpAny_Slice (aB (hl pins s1 σ H1 _ I1 q1) λvl s2 ⟨l,H2,I2,pl,q2⟩=>aB (hu pins s2 σ H2 _ I2 q2) λvu s3 ⟨u,H3,I3,pu,q3⟩=>?_)
 rw[evalPart_none]
 refine aM ?_
 have I4:Inv X pins σ H3 { s3 with heap:=s3.heap.push { cls := .type "slice",data := .fields #[vl,vu,.none] } }:=I3.kept (t':=s3.toks) λb ob q=>bz _ q
 obtain⟨T,id,hT,ht,hg⟩:=hr pins { s3 with heap:=s3.heap.push { cls := .type "slice",data := .fields #[vl,vu,.none] } } σ H3 x v vl vu l u s3.heap.objs.size Q I4 r1 (Heap.IsSliceOf.new ..) pl pu q3
 show wpAny (model X.prog X.w) X.A (subscriptTail e (.Slice lo hi none p2) v (.ref s3.heap.objs.size)) (EP X pins σ Q) X.xe { s3 with heap:=s3.heap.push { cls := .type "slice",data := .fields #[vl,vu,.none] } }
 exact tail_any (ops:=[.ref s3.heap.objs.size,v]) ht hT hg (by with_unfolding_all rfl)
def kN(xs:List V)(lo hi:Option Int):List V:=(xs.drop (HT.gB xs.length 0 lo)).take (HT.gB xs.length xs.length hi - HT.gB xs.length 0 lo)
theorem Wy(xs:List V)(lo hi:Option Int):(kN xs lo hi).length<=xs.length:=by
 unfold kN
 rw[jQ,CT]
 omega
end
def nI(n:Nat)(i:Int):Option Nat:=if 0<=i then (if i<n then some i.toNat else none) else if -(n:Int)<=i then some (i+n).toNat else none
def iA{α:Type}(xs:List α)(i:Int):Option α:=(nI xs.length i).bind λj=>xs[j]?
theorem LB{n:Nat}{i:Int}{j:Nat}(h:nI n i=some j):seqIndex? i n=some j/\j<n/\ -(n:Int)<=i/\i<n:=by
 unfold nI at h
 by_cases h0:0<=i
 .rw[aA h0] at h
  by_cases h1:i<n
  .rw[aA h1] at h
   have e:i.toNat=j:=dm h
   exact⟨by rw[seqIndex_of h0 h1,e],by omega,by omega,h1⟩
  .rw[aw h1] at h;cases h
 .rw[aw h0] at h
  by_cases h1 : -(n:Int)<=i
  .rw[aA h1] at h
   have e:(i+n).toNat=j:=dm h
   exact⟨by rw[seqIndex_neg (by omega) h1,e],by omega,h1,by omega⟩
  .rw[aw h1] at h;cases h
theorem DK{α:Type}{xs:List α}{i:Int}{v:α}(h:iA xs i=some v):∃j,seqIndex? i xs.length=some j/\xs[j]? = some v/\j<xs.length/\ -(xs.length:Int)<=i/\i<xs.length:=by
 unfold iA at h
 cases e:nI xs.length i with
 |none=>rw[e] at h;cases h
 |some j=>
  rw[e] at h
  obtain⟨h1,h2,h3,h4⟩:=LB e
  exact⟨j,h1,h,h2,h3,h4⟩
theorem dH{α:Type}{xs:List α}{j:Nat}{v:α}(h:xs[j]? = some v):iA xs (j:Int)=some v:=by
 have hj:j<xs.length:=(cn.mp h).1
 have e:nI xs.length (j:Int)=some j:=by
  unfold nI
  rw[aA (by omega),aA (by omega)];simp
 unfold iA;rw[e];exact h
def DL(b:Expr):Prop := ∀o i,subscripted b false o i=operate [o,i] (getItem o i)
def tX(X:Cx)(r:R2):Prop:=
 ∀(value slice:Expr) (pins:List (Addr×Obj)) (s:Shared) (σ:St) (H:Hp) (x y:V) (v u:Value) (Q:VK),Inv X pins σ H s->RelV x v->RelV y u->r x y H Q->
  subscripted slice false v u=operate [v,u] (getItem v u)->wpAny (model X.prog X.w) X.A (subscriptTail value slice v u) (EP X pins σ Q) X.xe s
def z9(X:Cx)(id:String)(r:V->List V->Hp->VK->Prop):Prop:=
 ∀(pins:List (Addr×Obj)) (s:Shared) (σ:St) (H:Hp) (x:V) (xs:List V) (v:Value) (us:List Value) (Q:VK),Inv X pins σ H s->RelV x v->Vals xs us->r x xs H Q->
  wpAny (model X.prog X.w) X.A (call (.builtin id) (v::us)) (EP X pins σ Q) X.xe s
section
variable{X:Cx}{a b:Expr}{ta tb:TE}{pos:Pos}
theorem aV{r:R2}(hr:tX X r)(ha:PE X a ta)(hb:PE X b tb)(hs:DL b):PE X (.Subscript a b pos) (pD r ta tb):=by
 intro pins s σ H Q I h
 exact Subscript_ (Dw ha hb I h λv u s2 x y H2 I2 rx ry q=>hr a b pins s2 σ H2 x y v u Q I2 rx ry q (hs _ _))
def Wz(K:PySem.W.Frag):R2:=λx y H Q=>∃p xs i v,x = .ref p/\y = .int i/\aj K H p xs/\iA xs i=some v/\Q v H
def wI(K:PySem.W.Frag):R2:=λx y H Q=>∃p xs i v,x = .ref p/\y = .int i/\aq K H p xs/\iA xs i=some v/\Q v H
def WA:R2:=λx y H Q=>∃z i c,x = .str z/\y = .int i/\z.length<=sizeLine/\iA z.cps.toList i=some c/\Q (.str ⟨#[c]⟩) H
theorem gC:tX X (Wz X.K):=by
 intro value slice pins s σ H x y v u Q I rx ry h hs
 obtain⟨p,xs,i,z,rfl,rfl,hq,he,q⟩:=h
 cases rx
 obtain⟨t,rfl⟩:=ry
 obtain⟨its,r,pl,hz⟩:=I.list hq
 obtain⟨j,h1,h2,h3,h4,h5⟩:=DK he
 obtain⟨w,ew,kO⟩:=r.get h2
 have hl:=r.length
 have hn:=nC
 have fin:EP X pins σ Q w s:=⟨z,H,I,kO,q⟩
 by_cases h0:0<=i
 .have hj:i.toNat=j:=by
   rw[seqIndex_of h0 h5] at h1
   exact dm h1
  exact item_listR pl.isList h0 (by omega) (by rw[hj];simpa using ew) fin hs
 .have hj:(i+(its.toArray.size:Int)).toNat=j:=by
   rw[seqIndex_neg (by omega) h4] at h1
   rw[bc,<-hl]
   exact dm h1
  exact subscriptTail_builtinR (x:=w) pl.isList.typeIs slot_list_getitem.lookup
   (wpAny_getItem_list_neg (Q:=λr s'=>r=w/\EP X pins σ Q r s') pl.isList (by omega) (by rw[bc] <;> omega) (by omega) (by rw[hj];simpa using ew) ⟨rfl,fin⟩) hs
theorem bU:tX X (wI X.K):=by
 intro value slice pins s σ H x y v u Q I rx ry h hs
 obtain⟨p,xs,i,z,rfl,rfl,hq,he,q⟩:=h
 cases rx
 obtain⟨t,rfl⟩:=ry
 obtain⟨its,r,pl,hz⟩:=I.tuple hq
 obtain⟨j,h1,h2,h3,h4,h5⟩:=DK he
 obtain⟨w,ew,kO⟩:=r.get h2
 have hl:=r.length
 have hn:=nC
 have fin:EP X pins σ Q w s:=⟨z,H,I,kO,q⟩
 exact subscriptTail_builtinR (x:=w) pl.typeIs slot_tuple_getitem.lookup
  (getItem_tuple (j:=j) (Q:=λr s'=>r=w/\EP X pins σ Q r s') pl (by omega) (by omega) (by rw[bc,<-hl];exact h1) (by simpa using ew) ⟨rfl,fin⟩) hs
theorem gW:tX X WA:=by
 intro value slice pins s σ H x y v u Q I rx ry h hs
 obtain⟨z,i,c,rfl,rfl,hz,he,q⟩:=h
 obtain⟨t,rfl⟩:=rx
 obtain⟨t',rfl⟩:=ry
 obtain⟨j,h1,h2,h3,h4,h5⟩:=DK he
 have hl:z.cps.toList.length=z.length:=by simp[Str.length]
 rw[hl] at h1 h4 h5
 have hn:=nC
 exact tail_any (typeIs_str s z t) slot_str_getitem.lookup (getItem_str (c:=c) (by
  have e1:decide (i < -(2 ^ 63:Int))=false:=aH (by omega)
  have e2:decide (i>=2 ^ 63)=false:=aH (by omega)
  rw[e1,e2,Bool.or_false]) (by rw[h1];simpa using h2) ⟨.str ⟨#[c]⟩,H,I.tok _,⟨_,rfl⟩,q⟩) hs
theorem WB(its:List Value)(n j:Nat)(u:Value):Obj.mapSeq (·.setIfInBounds j u) { cls := .type "list",data := .seq its.toArray n }={ cls := .type "list",data := .seq (its.set j u).toArray n }:=by
 simp[Obj.mapSeq]
theorem Inv.lst{pins:List (Addr×Obj)}{σ:St}{H:Hp}{s:Shared}{p:Addr}{xs:List V}(I:Inv X pins σ H s)(h:H p=some (.lst xs)) :
  ∃(its:List Value) (n:Nat),Vals xs its/\s.heap.get? p=some { cls := .type "list",data := .seq its.toArray n }/\xs.length<=sizeLine:=by
 obtain⟨z,its,n,r,e⟩:=I.aC p _ h
 exact⟨its,n,r,e,z⟩
theorem Inv.WC{pins:List (Addr×Obj)}{σ:St}{H:Hp}{s:Shared}{p:Addr}{xs ys:List V}{its cy:List Value}{n n':Nat}{f:Obj->Obj}(I:Inv X pins σ H s)(h:H p=some (.lst xs))
  (ho:s.heap.get? p=some { cls := .type "list",data := .seq its.toArray n }) (hf:f { cls := .type "list",data := .seq its.toArray n }={ cls := .type "list",data := .seq cy.toArray n' }) (r:Vals ys cy) (hz:ys.length<=sizeLine) (t:Nat) :
  Inv X pins σ (upd H p (.lst ys)) { s with heap:=s.heap.update p f,toks:=t }:=by
 have e:(s.heap.update p f).get? p=some { cls := .type "list",data := .seq cy.toArray n' }:=by
  rw[tm f ho (by rw[hf] <;> rfl),hf]
 refine I.write (x:=p) (e:=p) (by rw[h];trivial) (.inl rfl) (λb u hb q=>(nh _ _ (bo hb)).trans q) ⟨_,e⟩ ?_
 exact⟨hz,cy,n',r,e⟩
def WD:V->V->V->Hp->(Hp->Prop)->Prop:=λo i v H Q=>∃p xs k j,o = .ref p/\i = .int k/\H p=some (.lst xs)/\nI xs.length k=some j/\Q (upd H p (.lst (xs.set j v)))
theorem set_list:KY X WD:=by
 intro pins s σ H o i v ov iv u Q I ro ri rv h
 obtain⟨p,xs,k,j,rfl,rfl,hp,hj,q⟩:=h
 cases ro
 obtain⟨t,rfl⟩:=ri
 obtain⟨its,n,r,ho,hz⟩:=I.lst hp
 obtain⟨h1,h2,h3,h4⟩:=LB hj
 have hl:=r.length
 have hn:=nC
 have I':Inv X pins σ (upd H p (.lst (xs.set j v))) { s with heap:=s.heap.update p (Obj.mapSeq (·.setIfInBounds j u)) } :=
  I.WC hp ho (WB its n j u) (r.set rv j) (by rw[Kc];exact hz) s.toks
 by_cases h0:0<=k
 .have hk:k.toNat=j:=by
   rw[seqIndex_of h0 h4] at h1
   exact dm h1
  exact PySem.W.ki_setAt ho h0 (by omega) (by rw[bc,<-hl];exact h4) (by rw[hk];exact⟨_,I',q⟩)
 .have hk:(k+(its.toArray.size:Int)).toNat=j:=by
   rw[seqIndex_neg (by omega) h3] at h1
   rw[bc,<-hl]
   exact dm h1
  exact PySem.W.ki_setBack ho (by omega) (by rw[bc,<-hl];exact h3) (by omega) (by rw[hk];exact⟨_,I',q⟩)
theorem WE(lo hi:Option Int)(n:Nat):(sliceBounds lo hi none n).1=((HT.gB n 0 lo:Nat):Int)/\(sliceBounds lo hi none n).2.1=((HT.gB n n hi:Nat):Int)/\(sliceBounds lo hi none n).2.2=1:=by
 refine⟨?_,?_,rfl⟩
 .cases lo with
  |none=>simp[sliceBounds,HT.gB]
  |some i=>
   simp only[sliceBounds,HT.gB,Option.getD_none,show(1:Int)>0 by decide,jk]
   by_cases h:i<0
   .simp only[h,jk] <;> omega
   .simp only[h,fG] <;> omega
 .cases hi with
  |none=>simp[sliceBounds,HT.gB]
  |some i=>
   simp only[sliceBounds,HT.gB,Option.getD_none,show(1:Int)>0 by decide,jk]
   by_cases h:i<0
   .simp only[h,jk] <;> omega
   .simp only[h,fG] <;> omega
theorem WG(its:List Value)(lo hi:Option Int):slicePick its.toArray lo hi none=((its.drop (HT.gB its.length 0 lo)).take (HT.gB its.length its.length hi - HT.gB its.length 0 lo)).toArray:=by
 obtain⟨h1,h2,h3⟩:=WE lo hi its.toArray.size
 unfold slicePick
 rw[h1,h2,h3]
 simp only[sliceRange_one,pick_run,bc] <;> rfl
def WH(K:PySem.W.Frag):V->Option Int->Option Int->Hp->VK->Prop:=λx lo hi H Q=>∃a xs,x = .ref a/\aj K H a xs/\∀p,H p=none->Q (.ref p) (upd H p (.lst (kN xs lo hi)))
theorem DM:DJ X (WH X.K):=by
 intro pins s σ H x v vl vu lo hi sl Q I rx hs pl pu h
 obtain⟨a,xs,rfl,hx,q⟩:=h
 cases rx
 obtain⟨its,r,ht,hz⟩:=I.list hx
 have hlen:=r.length
 refine⟨"list",_,slot_list_getitem.lookup,ht.isList.typeIs,?_⟩
 refine wpAny_getItem_list_slice ht.isList hs pl pu .none (by simp) ?_ (by rw[bc] <;> omega)
 rw[WG,<-hlen]
 refine⟨.ref s.heap.objs.size,_,I.laid (t':=s.toks) (o := .lst (kN xs lo hi)) (λb ob q=>bz _ q) (aP _) ?_,rfl,q _ (I.aC.fresh (aP _))⟩
 exact⟨bO (Wy xs lo hi) hz,_,0,(r.drop (HT.gB xs.length 0 lo)).take (HT.gB xs.length xs.length hi - HT.gB xs.length 0 lo),cB _ rfl⟩
def j6:V->Bool
 |.aD=>true
 |.bl _=>true
 |.int _=>true
 |.str _=>true
 |_=>false
def gX:V->V->Bool
 |.aD,.aD=>true
 |.bl a,.bl b=>a==b
 |.bl a,.int b=>(if a then 1 else 0)==b
 |.int a,.bl b=>a==(if b then 1 else 0)
 |.int a,.int b=>a==b
 |.str a,.str b=>a==b
 |_,_=>false
theorem gD{A:Around}{s:Shared}{y x:V}{u v:Value}(ry:RelV y u)(rx:RelV x v)(fy:j6 y=true)(fx:j6 x=true):SeqAt.EqAt A s u v (gX y x):=by
 cases y with
 |aD=>
  cases ry
  cases x with
  |aD=>cases rx;exact SeqAt.EqAt.same _
  |bl b=>cases rx;exact SeqAt.EqAt.none_bool b
  |int b=>obtain⟨t,rfl⟩:=rx;exact SeqAt.EqAt.none_int b t
  |str b=>obtain⟨t,rfl⟩:=rx;exact SeqAt.EqAt.none_str b t
  |_=>exact absurd (show false=true from fx) cj
 |bl a=>
  cases ry
  cases x with
  |aD=>cases rx;exact SeqAt.EqAt.bool_none a
  |bl b=>cases rx;exact SeqAt.EqAt.bool_bool a b
  |int b=>obtain⟨t,rfl⟩:=rx;exact SeqAt.EqAt.bool_int a b t
  |str b=>obtain⟨t,rfl⟩:=rx;exact SeqAt.EqAt.bool_str a b t
  |_=>exact absurd (show false=true from fx) cj
 |int a=>
  obtain⟨t',rfl⟩:=ry
  cases x with
  |aD=>cases rx;exact SeqAt.EqAt.int_none a t'
  |bl b=>cases rx;exact SeqAt.EqAt.int_bool a t' b
  |int b=>obtain⟨t,rfl⟩:=rx;exact SeqAt.EqAt.int_int a t' b t
  |str b=>obtain⟨t,rfl⟩:=rx;exact SeqAt.EqAt.int_str a t' b t
  |_=>exact absurd (show false=true from fx) cj
 |str a=>
  obtain⟨t',rfl⟩:=ry
  cases x with
  |aD=>cases rx;exact SeqAt.EqAt.str_none a t'
  |bl b=>cases rx;exact SeqAt.EqAt.str_bool a t' b
  |int b=>obtain⟨t,rfl⟩:=rx;exact SeqAt.EqAt.str_int a t' b t
  |str b=>obtain⟨t,rfl⟩:=rx;exact SeqAt.EqAt.str_str a t' b t
  |_=>exact absurd (show false=true from fx) cj
 |_=>exact absurd (show false=true from fy) cj
def iB(x:V)(u:Value):Bool:=match u with
 |.none=>gX .aD x
 |.bool b=>gX (.bl b) x
 |.int i _=>gX (.int i) x
 |.str z _=>gX (.str z) x
 |_=>false
theorem LC{x y:V}{u:Value}(r:RelV y u)(f:j6 y=true):iB x u=gX y x:=by
 cases y with
 |aD=>cases r;rfl
 |bl b=>cases r;rfl
 |int i=>obtain⟨t,rfl⟩:=r;rfl
 |str z=>obtain⟨t,rfl⟩:=r;rfl
 |_=>exact absurd (show false=true from f) cj
theorem wJ{x:V}:∀{xs:List V}{us:List Value},Vals xs us->xs.all j6=true->us.any (iB x)=xs.any λy=>gX y x
 |_,_,.nil,_=>rfl
 |y::xs,u::us,.cons r t,f=>by
  rw[zh,dZ] at f
  rw[tq,tq,LC r f.1,wJ t f.2]
theorem wK{A:Around}{s:Shared}{x:V}{v:Value}(rx:RelV x v)(fx:j6 x=true):∀{xs:List V}{us:List Value},Vals xs us->xs.all j6=true->∀u∈us,SeqAt.EqAt A s u v (iB x u)
 |_,_,.nil,_=>λu hu=>by cases hu
 |y::xs,u::us,.cons r t,f=>λu' hu=>by
  rw[zh,dZ] at f
  rcases bS.mp hu with rfl | hu
  .rw[LC r f.1];exact gD r rx f.1 fx
  .exact wK rx fx t f.2 u' hu
def iZ(x:V)(xs:List V):Bool:=xs.any λy=>gX y x
def wL(K:PySem.W.Frag)(neg:Bool):R2:=λx y H Q=>∃p xs,y = .ref p/\(aj K H p xs\/aq K H p xs)/\j6 x=true/\xs.all j6=true/\Q (.bl (if neg then !iZ x xs else iZ x xs)) H
theorem WI:cN X (compareOp .In) (wL X.K false):=by
 intro pins s σ H x y v u Q I rx ry h
 obtain⟨p,xs,rfl,hq,fx,fs,q⟩:=h
 cases ry
 rcases hq with hq | hq
 .obtain⟨its,r,pl,hz⟩:=I.list hq
  refine SeqAt.in_listAt (iB x) pl.isList (λw hw=>wK rx fx r fs w (by simpa using hw)) ⟨.bl _,H,I,rfl,?_⟩
  rw[show its.toArray.any (iB x)=its.any (iB x) by simp,wJ r fs]
  exact q
 .obtain⟨its,r,pl,hz⟩:=I.tuple hq
  refine SeqAt.in_tupleAt (iB x) pl (λw hw=>wK rx fx r fs w (by simpa using hw)) ⟨.bl _,H,I,rfl,?_⟩
  rw[show its.toArray.any (iB x)=its.any (iB x) by simp,wJ r fs]
  exact q
theorem wM:cN X (compareOp .NotIn) (wL X.K true):=by
 intro pins s σ H x y v u Q I rx ry h
 obtain⟨p,xs,rfl,hq,fx,fs,q⟩:=h
 cases ry
 rcases hq with hq | hq
 .obtain⟨its,r,pl,hz⟩:=I.list hq
  refine SeqAt.notIn_listAt (iB x) pl.isList (λw hw=>wK rx fx r fs w (by simpa using hw)) ⟨.bl _,H,I,rfl,?_⟩
  rw[show its.toArray.any (iB x)=its.any (iB x) by simp,wJ r fs]
  exact q
 .obtain⟨its,r,pl,hz⟩:=I.tuple hq
  refine SeqAt.notIn_tupleAt (iB x) pl (λw hw=>wK rx fx r fs w (by simpa using hw)) ⟨.bl _,H,I,rfl,?_⟩
  rw[show its.toArray.any (iB x)=its.any (iB x) by simp,wJ r fs]
  exact q
theorem d9:fW X (.builtin "len") (λxs H Q=>∃p ys,xs=[.ref p]/\(aj X.K H p ys\/aq X.K H p ys)/\Q (.int ys.length) H):=by
 intro pins s σ H xs us Q I r h
 obtain⟨p,ys,rfl,hq,q⟩:=h
 obtain⟨u,rfl,rx⟩:=vals1 r
 cases rx
 have hn:=nC
 rcases hq with hq | hq
 .obtain⟨its,r',pl,hz⟩:=I.list hq
  have hlen:=r'.length
  exact Calls.call_len_list pl.isList (by simp only[bc] <;> omega) ⟨.int ys.length,H,I.tok _,⟨s.toks+1,by rw[bc,hlen]⟩,q⟩
 .obtain⟨its,r',pl,hz⟩:=I.tuple hq
  have hlen:=r'.length
  exact len_tuple pl (by simp only[bc] <;> omega) ⟨.int ys.length,H,I.tok _,⟨s.toks+1,by rw[bc,hlen]⟩,q⟩
theorem fY:fW X (.builtin "len") (λxs H Q=>∃z,xs=[.str z]/\z.length<=sizeLine/\Q (.int z.length) H):=by
 intro pins s σ H xs us Q I r h
 obtain⟨z,rfl,hz,q⟩:=h
 obtain⟨u,rfl,t,rfl⟩:=vals1 r
 have hn:=nC
 exact len_str (by omega) ⟨.int z.length,H,I.tok _,⟨_,rfl⟩,q⟩
theorem rp:fW X (.type "list") (λxs H Q=>∃p ys,xs=[.ref p]/\(aj X.K H p ys\/aq X.K H p ys)/\∀l,H l=none->Q (.ref l) (upd H l (.lst ys))):=by
 intro pins s σ H xs us Q I r h
 obtain⟨p,ys,rfl,hq,q⟩:=h
 obtain⟨u,rfl,rx⟩:=vals1 r
 cases rx
 have fin:∀(its:List Value),Vals ys its->ys.length<=sizeLine->∀(h':Heap) (c':Nat),(∀b o',s.heap.get? b=some o'->h'.get? b=some o')->
   h'.get? s.heap.objs.size=some { cls := .type "list",dict:=none,data := .seq its.toArray c',slots := #[] }->EP X pins σ Q (.ref s.heap.objs.size) { s with heap:=h' }:=λits r' hz h' c' kp e=>
  ⟨.ref s.heap.objs.size,_,I.laid (t':=s.toks) kp (aP _) (show cS X.prog X.w _ h' _ (.lst ys) from⟨hz,its,c',r',e⟩),rfl,q _ (I.aC.fresh (aP _))⟩
 rcases hq with hq | hq
 .obtain⟨its,r',pl,hz⟩:=I.list hq
  have hlen:=r'.length
  obtain⟨o,ho,hc,n,hd⟩:=pl.isList
  exact call_list_seq p (.inl rfl) ho hc hd (λh' c' kp e=>fin its r' hz h' c' kp e) (by simp only[bc] <;> omega)
 .obtain⟨its,r',pl,hz⟩:=I.tuple hq
  have hlen:=r'.length
  obtain⟨o,ho,hc,n,hd⟩:=pl
  exact call_list_seq p (.inr rfl) ho hc hd (λh' c' kp e=>fin its r' hz h' c' kp e) (by simp only[bc] <;> omega)
theorem wN:fW X (.type "tuple") (λxs H Q=>∃p ys,xs=[.ref p]/\((aj X.K H p ys/\∀l,H l=none->Q (.ref l) (upd H l (.tup ys)))\/(aq X.K H p ys/\Q (.ref p) H))):=by
 intro pins s σ H xs us Q I r h
 obtain⟨p,ys,rfl,h⟩:=h
 obtain⟨u,rfl,rx⟩:=vals1 r
 cases rx
 rcases h with ⟨hq,q⟩ | ⟨hq,q⟩
 .obtain⟨its,r',pl,hz⟩:=I.list hq
  have hlen:=r'.length
  refine call_tuple_list pl.isList (λh' kp=>?_) (by simp only[bc] <;> omega)
  have I1:Inv X pins σ H { s with heap:=h' }:=I.kept (t':=s.toks) kp
  have I2:Inv X pins σ (upd H h'.objs.size (.tup ys)) { s with heap:=h'.push { cls := .type "tuple",data := .seq its.toArray } } :=
   I1.laid (t':=s.toks) (λb o e=>bz _ e) (aP _) (show cS X.prog X.w _ _ _ (.tup ys) from⟨hz,its,r',IsTup.new _ _⟩)
  exact⟨.ref h'.objs.size,_,I2,rfl,q _ (I1.aC.fresh (aP _))⟩
 .obtain⟨its,r',pl,hz⟩:=I.tuple hq
  exact call_tuple_same pl ⟨.ref p,H,I,rfl,q⟩
def LD(K:PySem.W.Frag)(T:String)(x:V)(H:Hp):Prop:=match x with
 |.str _=>T="str"
 |.int _=>T="int"
 |.ref p=>(T="list" /\∃xs,aj K H p xs)\/(T="tuple" /\∃o,K.lookup p=some o/\o.cls = .type "tuple"/\o.dict=none)\/
   (T="dict"/\((∃kvs,H p=some (.dK kvs))\/∃kvs,H p=some (.dT kvs)))\/(T="set" /\∃S n,H p=some (.set S n))
 |_=>False
theorem WJ{pins:List (Addr×Obj)}{σ:St}{H:Hp}{s:Shared}{T:String}{x:V}{v:Value}(I:Inv X pins σ H s)(r:RelV x v)(ty:LD X.K T x H) :
  s.TypeIs v T/\∀a,v = .ref a->∃ob,s.heap.get? a=some ob/\ob.dict=none:=by
 cases x with
 |str z=>
  obtain⟨t,rfl⟩:=r
  cases(show T="str" from ty)
  exact⟨typeIs_str s z t,λ_ e=>nomatch e⟩
 |int i=>
  obtain⟨t,rfl⟩:=r
  cases(show T="int" from ty)
  exact⟨typeIs_int s i t,λ_ e=>nomatch e⟩
 |ref p=>
  cases r
  rcases ty with ⟨rfl,xs,hq⟩ | ⟨rfl,o,hk,hc,hd⟩ | ⟨rfl,hk⟩ | ⟨rfl,S,n,hk⟩
  .obtain⟨its,_,pl,_⟩:=I.list hq
   refine⟨pl.isList.typeIs,λa e=>?_⟩
   cases e
   obtain⟨o,n,e,c,hd,_⟩:=pl
   exact⟨o,e,hd⟩
  .refine⟨⟨o,I.dh p o hk,hc⟩,λa e=>?_⟩
   cases e
   exact⟨o,I.dh _ o hk,hd⟩
  .have z:∃o,s.heap.get? p=some o/\o.ExactDict:=by
    rcases hk with ⟨kvs,hk⟩ | ⟨kvs,hk⟩
    .obtain⟨_,_,_,_,o,_,_,e,ex,_⟩:=I.aC p _ hk
     exact⟨o,e,ex⟩
    .obtain⟨_,_,_,_,o,_,_,e,ex,_⟩:=I.aC p _ hk
     exact⟨o,e,ex⟩
   obtain⟨o,e,ex⟩:=z
   refine⟨⟨o,e,ex.1⟩,λa e2=>?_⟩
   cases e2
   exact⟨o,e,ex.2.1⟩
  .obtain⟨o,_,_,_,e,ex,_⟩:=I.aC p _ hk
   refine⟨⟨o,e,ex.1⟩,λa e2=>?_⟩
   cases e2
   exact⟨o,e,ex.2.1⟩
 |_=>exact False.elim ty
def LF(K:PySem.W.Frag)(T:String)(r:V->List V->Hp->VK->Prop)(to:TE)(t:TA):TE:=λσ H Q=>to σ H λx H1=>LD K T x H1/\t σ H1 λxs H2=>r x xs H2 Q
variable{o e:Expr}{es:List Expr}{to:TE}{t:TA}{name:Str}{apos dz:Pos}{T id:String}{r:V->List V->Hp->VK->Prop}
theorem fq(pa:PlainAttrs T)(slot:Slot T name id)(DN:typeOf (.builtin id)=pure (.type "method_descriptor"))(hm:z9 X id r)(ho:PE X o to)(ha:PA X (e::es) t)
  (DO:attributeBase o name X.env (eval o X.env)=eval o X.env:=by rfl)
  (DP:((backTo dz (starEach (e::es) X.env)).all (λx=>!x.1)&&(backToKw dz (keywordEach [] X.env)).all (λx=>x.1.isSome)
   && decide ((e::es).length+([]:List Keyword).length+(if ([]:List Keyword).isEmpty then 0 else 1)<30))=true:=by rfl)
  (DQ:(apos.endLine==dz.line)=true:=by rfl) (hs:starEach (e::es) X.env=(false,eval e X.env)::starEach es X.env:=by rfl) (DR:(backTo dz (starEach es X.env)).any (·.1)=false:=by rfl) :
  PE X (.Call (.Attribute o name apos) (e::es) [] dz) (LF X.K T r to t):=by
 intro pins s σ H Q I h
 refine wpAny_Call_method_late DO DP DQ rfl (aB (ho pins s σ H _ I h) λv s1 ⟨x,H1,I1,r1,ty,q1⟩=>?_)
 obtain⟨h1,h2⟩:=WJ I1 r1 ty
 refine⟨T,id,pa,slot,DN,h1,h2,?_⟩
 have hA:=ha dz pins s1 σ H1 _ I1 q1
 rw[hs] at hA ⊢
 refine UH (by show(false||(backTo dz (starEach es X.env)).any (·.1))=false;rw[DR] <;> rfl) (UI ?_)
 exact aB hA λus s2 ⟨vs,H2,I2,r2,q2⟩=>hm pins s2 σ H2 x vs v us Q I2 r1 r2 q2
end
def LG(X:Cx)(id:String)(r:V->List V->Hp->VK->Prop):Prop:=
 ∀(pins:List (Addr×Obj)) (s:Shared) (σ:St) (H:Hp) (x:V) (xs:List V) (v:Value) (us:List Value) (Q:VK),Inv X pins σ H s->RelV x v->Vals xs us->r x xs H Q->
  wpAny (model X.prog X.w) X.A (call (.builtin id) (v::us)) (EP X pins σ Q) X.xe s
theorem Vals.one:∀{x:V}{us:List Value},Vals [x] us->∃u,us=[u]/\RelV x u
 |_,_,.cons r .nil=>⟨_,rfl,r⟩
theorem Vals.rep{xs:List V}{us:List Value}(h:Vals xs us):∀k:Nat,Vals (List.replicate k xs).flatten (List.replicate k us).flatten
 |0=>.nil
 |k+1=>by
  rw[oU,oU,vV,vV]
  exact Vals.append h (Vals.rep h k)
theorem foldl_rep(its:List Value):∀(k:Nat) (acc:List Value),
  List.foldl (λx1 x2=>x1++x2) acc.toArray (List.replicate k its.toArray)=(acc++(List.replicate k its).flatten).toArray
 |0,acc=>by simp
 |k+1,acc=>by
  have e:acc.toArray++its.toArray=(acc++its).toArray:=by simp
  have e2:(acc++its)++(List.replicate k its).flatten=acc++(List.replicate (k+1) its).flatten:=by
   rw[oU,vV,oV]
  rw[<-e2,<-foldl_rep its k (acc++its),<-e,oU,List.foldl_cons]
section
variable{X:Cx}{pins:List (Addr×Obj)}{σ:St}{H:Hp}{s:Shared}{l b:Addr}{xs ys zs:List V}
theorem Inv.LH{its cy:List Value}{n:Nat}{f:Array Value->Array Value}{t':Nat}(I:Inv X pins σ H s)(hH:H l=some (.lst xs))
  (e:s.heap.get? l=some { cls := .type "list",data := .seq its.toArray n }) (hf:f its.toArray=cy.toArray) (hv:Vals ys cy) (hz:ys.length<=sizeLine) :
  Inv X pins σ (upd H l (.lst ys)) { s with heap:=s.heap.update l (Obj.mapSeq f),toks:=t' }:=by
 have q:=PySem.IsL.update e f
 rw[hf] at q
 refine I.write (x:=l) (e:=l) (by rw[hH];exact trivial) (.inl rfl) (λb' u hb hu=>(nh s.heap (Obj.mapSeq f) (bo hb)).trans hu) ⟨_,q⟩ ?_
 exact⟨hz,cy,_,hv,q⟩
theorem Inv.Aa{its:List Value}{t':Nat}(I:Inv X pins σ H s)(hv:Vals ys its)(hz:ys.length<=sizeLine) :
  Inv X pins σ (upd H s.heap.objs.size (.lst ys)) { s with heap:=s.heap.push { cls := .type "list",data := .seq its.toArray },toks:=t' } :=
 I.laid (λ_ _ q=>bz _ q) (aP _) ⟨hz,its,0,hv,cB _ rfl⟩
theorem Inv.fresh(I:Inv X pins σ H s):H s.heap.objs.size=none:=I.aC.fresh (aP _)
theorem Inv.pI(I:Inv X pins σ H s)(hH:H l=some (.lst xs)):xs.length<=sizeLine/\∃(its:List Value) (n:Nat),Vals xs its/\xs.length=its.length/\s.heap.get? l=some { cls := .type "list",data := .seq its.toArray n }:=by
 obtain⟨z,its,n,r,e⟩:=I.aC l _ hH
 exact⟨z,its,n,r,r.length,e⟩
theorem LI{n:Nat}(h:n<=sizeLine):Builtin.List.listTooLong n=false:=by
 unfold Builtin.List.listTooLong
 exact aH (by omega)
end
section
variable{X:Cx}
def WK:V->List V->Hp->VK->Prop:=λx vs H Q=>∃l xs y,x = .ref l/\vs=[y]/\H l=some (.lst xs)/\xs.length<sizeLine/\Q .aD (upd H l (.lst (xs++[y])))
theorem gY:LG X "list.append" WK:=by
 intro pins s σ H x vs v us Q I rx rv h
 obtain⟨l,xs,y,rfl,rfl,hH,hz,q⟩:=h
 cases rx
 obtain⟨u,rfl,ru⟩:=rv.one
 obtain⟨z,its,n,r,hl,e⟩:=I.pI hH
 refine call_meets F.slot_list_append ⟨_,e,rfl⟩ F.entry_list_append (F.args_list_append_2 _ _) (PySem.list_append l its.toArray n u (by rw[bc];omega)) ⟨e,?_⟩
 refine⟨.aD,_,I.LH (cy:=its++[u]) hH e (by simp) (r.append (.cons ru .nil)) ?_,rfl,q⟩
 rw[dw,CU]
 omega
def WL:V->List V->Hp->VK->Prop:=λx vs H Q=>∃l b xs zs,x = .ref l/\vs=[.ref b]/\H l=some (.lst xs)/\H b=some (.lst zs)/\xs.length+zs.length<=sizeLine/\Q .aD (upd H l (.lst (xs++zs)))
theorem WM:LG X "list.extend" WL:=by
 intro pins s σ H x vs v us Q I rx rv h
 obtain⟨l,b,xs,zs,rfl,rfl,hH,hB,hz,q⟩:=h
 cases rx
 obtain⟨u,rfl,ru⟩:=rv.one
 cases ru
 obtain⟨z,its,n,r,hl,e⟩:=I.pI hH
 obtain⟨z2,nJ,n2,r2,iC,e2⟩:=I.pI hB
 have hsz:its.toArray.size+nJ.toArray.size<=sizeLine:=by rw[bc,bc];omega
 have DS:¬(!its.toArray.isEmpty&&Builtin.List.listTooLong (its.toArray.size+nJ.toArray.size))=true:=by
  rw[LI hsz,ni]
  exact cj
 refine call_meets F.slot_list_extend ⟨_,e,rfl⟩ F.entry_list_extend (F.args_list_extend_2 _ _)
  (AutoSeq1.list_extend_list_list_0 l its.toArray n b nJ.toArray n2 DS (by rw[bc];omega) (by omega)) ⟨e,e2,?_⟩
 refine⟨.aD,_,I.LH (cy:=its++nJ) hH e (by simp) (r.append r2) ?_,rfl,q⟩
 rw[dw]
 omega
def WN:R2:=λx y H Q=>∃l b xs zs,x = .ref l/\y = .ref b/\H l=some (.lst xs)/\H b=some (.lst zs)/\xs.length+zs.length<=sizeLine/\∀p,H p=none->Q (.ref p) (upd H p (.lst (xs++zs)))
theorem LK:cN X (binaryOp .Add) WN:=by
 intro pins s σ H x y v u Q I rx ry h
 obtain⟨l,b,xs,zs,rfl,rfl,hH,hB,hz,q⟩:=h
 cases rx
 cases ry
 obtain⟨z,its,n,r,hl,e⟩:=I.pI hH
 obtain⟨z2,nJ,n2,r2,iC,e2⟩:=I.pI hB
 refine PySem.P.add_list e e2 ?_ (by rw[bc,bc];omega)
 have ea:its.toArray++nJ.toArray=(its++nJ).toArray:=by simp
 rw[ea]
 exact⟨.ref _,_,I.Aa (t':=s.toks) (r.append r2) (by rw[dw];omega),rfl,q _ I.fresh⟩
def WO:R2:=λx y H Q=>∃l k xs,x = .ref l/\y = .int k/\H l=some (.lst xs)/\ -(2 ^ 63)<=k/\k<2 ^ 63/\xs.length*k.toNat<=sizeLine/\
 ∀p,H p=none->Q (.ref p) (upd H p (.lst (List.replicate k.toNat xs).flatten))
theorem len_rep{α:Type}(xs:List α)(k:Nat):(List.replicate k xs).flatten.length=k*xs.length:=by
 induction k with
 |zero=>simp
 |succ k ih=>rw[oU,vV,dw,ih,iP,Nat.add_comm]
theorem WQ:cN X (binaryOp .Mult) WO:=by
 intro pins s σ H x y v u Q I rx ry h
 obtain⟨l,k,xs,rfl,rfl,hH,h1,h2,hz,q⟩:=h
 cases rx
 obtain⟨t,rfl⟩:=ry
 obtain⟨z,its,n,r,hl,e⟩:=I.pI hH
 have hlen:its.toArray.size*k.toNat<=sizeLine:=by rw[bc,<-hl];exact hz
 have WR:¬its.toArray.size*k.toNat>(2 ^ 63 - 1) / 8:=by
  have:(sizeLine:Nat)<=(2 ^ 63 - 1) / 8:=by decide
  omega
 have dR:¬(!Builtin.List.listFitsIndex k)=true:=by
  rw[fitsIndex_both h1 h2]
  exact cj
 have DS:¬Builtin.List.listTooLong (its.toArray.size*k.toNat)=true:=by
  rw[LI hlen]
  exact cj
 have Ab:List.foldl (λx1 x2=>x1++x2) #[] (List.replicate (if its.toArray.isEmpty=true then 0 else k.toNat) its.toArray)=(List.replicate k.toNat its).flatten.toArray:=by
  have f0:∀m:Nat,List.foldl (λx1 x2=>x1++x2) #[] (List.replicate m its.toArray)=(List.replicate m its).flatten.toArray:=λm=>by
   have:=foldl_rep its m []
   rw[CV] at this
   exact this
  rw[f0]
  cases its with
  |nil=>simp
  |cons a r'=>rw[aw (by simp)]
 refine wpAny_binaryOp_repeat_ref (T:="list") (U:="int") (by decide) ⟨_,e,rfl⟩ (λs'=>typeIs_int s' k t) noFill_list_mul F.fills_int_mul F.slot_int_rmul repeat_list F.slot_int_index.lookup
  (call_meets F.slot_int_rmul (typeIs_int s k t) F.entry_int_rmul (F.args_int_rmul_2 _ _) (int___rmul___int_list k t l its.toArray n)
   ⟨e,rfl,⟨_,e,rfl⟩,call_meets F.slot_list_mul ⟨_,e,rfl⟩ F.entry_list_mul (F.args_list_mul_2 _ _) (AutoListH.list___mul___list_int_3 l its.toArray n k t dR WR DS) ⟨e,?_⟩⟩)
 rw[Ab]
 exact⟨.ref _,_,I.Aa (t':=s.toks) (r.rep k.toNat) (by rw[len_rep,oW];exact hz),rfl,q _ I.fresh⟩
end
section
variable{κ:Type}[DecidableEq κ]
def aQ(kvs:List (κ×V))(k:κ):Option V:=(kvs.find? λkv=>decide (kv.1=k)).map (·.2)
def putK(kvs:List (κ×V))(k:κ)(v:V):List (κ×V):=
 if (kvs.any λkv=>decide (kv.1=k))=true then kvs.map (λkv=>if kv.1=k then (kv.1,v) else kv) else kvs++[(k,v)]
theorem kP{p:κ×V}{r:List (κ×V)}{k:κ}(e:p.1=k):aQ (p::r) k=some p.2:=by simp[aQ,tu,e]
theorem kQ{p:κ×V}{r:List (κ×V)}{k:κ}(e:¬p.1=k):aQ (p::r) k=aQ r k:=by simp[aQ,tu,e]
theorem rq(k:κ):∀kvs:List (κ×V),(kvs.any λkv=>decide (kv.1=k))=(aQ kvs k).isSome
 |[]=>rfl
 |p::r=>by
  rw[tq]
  by_cases e:p.1=k
  .simp only[kP e,aG e,Bool.true_or,Option.isSome_some]
  .rw[kQ e,aH e,Bool.false_or];exact rq k r
theorem LL(k j:κ)(y:V):∀kvs:List (κ×V),aQ (kvs.map λkv=>if kv.1=k then (kv.1,y) else kv) j=(aQ kvs j).map λx=>if j=k then y else x
 |[]=>rfl
 |p::r=>by
  have ih:=LL k j y r
  rw[bX]
  by_cases h:p.1=k
  .rw[aA h]
   by_cases e:p.1=j
   .rw[kP (p:=(p.1,y)) e,kP e,ir,aA (e.symm.trans h)]
   .rw[kQ (p:=(p.1,y)) e,kQ e,ih]
  .rw[aw h]
   by_cases e:p.1=j
   .rw[kP (p:=p) e,kP e,ir,aw (λz=>h (e.trans z))]
   .rw[kQ (p:=p) e,kQ e,ih]
theorem LM(k j:κ)(y:V):∀kvs:List (κ×V),aQ kvs k=none->aQ (kvs++[(k,y)]) j=if j=k then some y else aQ kvs j
 |[],_=>by
  by_cases e:k=j
  .rw[aA e.symm];exact kP (p:=(k,y)) e
  .rw[aw (λz=>e z.symm)];exact kQ (p:=(k,y)) e
 |p::r,hn=>by
  rw[List.cons_append]
  have hk:¬p.1=k:=λz=>by rw[kP z] at hn;cases hn
  rw[kQ hk] at hn
  have ih:=LM k j y r hn
  by_cases e:p.1=j
  .rw[kP e,kP e,aw (λz=>hk (e.trans z))]
  .rw[kQ e,kQ e,ih]
theorem nK(kvs:List (κ×V))(k j:κ)(y:V):aQ (putK kvs k y) j=if j=k then some y else aQ kvs j:=by
 unfold putK
 by_cases a:(kvs.any λkv=>decide (kv.1=k))=true
 .rw[aA a,LL]
  rw[rq] at a
  by_cases e:j=k
  .obtain⟨x,hx⟩:=Option.isSome_iff_exists.mp a
   rw[aA e,e,hx,ir,aA rfl]
  .rw[aw e]
   cases aQ kvs j with
   |none=>rfl
   |some x=>rw[ir,aw e]
 .rw[aw a]
  refine LM k j y kvs ?_
  rw[rq] at a
  cases q:aQ kvs k with
  |none=>rfl
  |some x=>rw[q] at a;exact(a rfl).elim
theorem tY(kvs:List (κ×V))(k:κ)(v:V):(putK kvs k v).length<=kvs.length+1:=by
 unfold putK
 split
 .rw[ax];omega
 .rw[dw,dg,CQ];omega
theorem tZ{kvs:List (κ×V)}{k:κ}(v:V)(h:aQ kvs k=none):putK kvs k v=kvs++[(k,v)]:=by
 unfold putK
 rw[rq,h]
 exact aw (by decide)
theorem fH.wO{o:Option V}{u:Option Value}(r:fH o u):o.isSome=u.isSome:=by
 cases o with
 |none=>cases u with
  |none=>rfl
  |some _=>exact(show False from r).elim
 |some _=>cases u with
  |none=>exact(show False from r).elim
  |some _=>rfl
theorem fH.getD{o:Option V}{u:Option Value}{d:V}{d':Value}(r:fH o u)(rd:RelV d d'):RelV (o.getD d) (u.getD d'):=by
 cases o with
 |none=>cases u with
  |none=>exact rd
  |some _=>exact(show False from r).elim
 |some _=>cases u with
  |none=>exact(show False from r).elim
  |some _=>exact r
theorem KV.val{kvs:List (κ×V)}{vs:List (κ×Value)}(r:KV kvs vs)(k:κ):fH (aQ kvs k) (valueAt vs k):=by
 unfold KV at r
 induction r with
 |nil=>exact True.intro
 |@cons p q ps qs h t ih=>
  obtain⟨h1,h2⟩:=h
  by_cases e:p.1=k
  .have e':q.1=k:=h1.symm.trans e
   have b:valueAt (q::qs) k=some q.2:=by simp[valueAt,tu,e']
   rw[kP e,b];exact h2
  .have e':¬q.1=k:=λz=>e (h1.trans z)
   have b:valueAt (q::qs) k=valueAt qs k:=by simp[valueAt,tu,e']
   rw[kQ e,b];exact ih
theorem KV.any{kvs:List (κ×V)}{vs:List (κ×Value)}(r:KV kvs vs)(k:κ):(kvs.any λkv=>decide (kv.1=k))=vs.any λkv=>decide (kv.1=k):=by
 unfold KV at r
 induction r with
 |nil=>rfl
 |cons h t ih=>rw[tq,tq,ih,h.1]
theorem KV.DT{kvs:List (κ×V)}{vs:List (κ×Value)}(r:KV kvs vs)(k:κ){y:V}{u:Value}(ry:RelV y u) :
  KV (kvs.map λkv=>if kv.1=k then (kv.1,y) else kv) (vs.map λkv=>if kv.1=k then (kv.1,u) else kv):=by
 unfold KV at r ⊢
 induction r with
 |nil=>exact .nil
 |@cons p q ps qs h t ih=>
  rw[bX,bX]
  refine .cons ?_ ih
  obtain⟨h1,h2⟩:=h
  by_cases e:p.1=k
  .rw[aA e,aA (h1.symm.trans e)];exact⟨h1,ry⟩
  .rw[aw e,aw (λz=>e (h1.trans z))];exact⟨h1,h2⟩
theorem KV.put{kvs:List (κ×V)}{vs:List (κ×Value)}(r:KV kvs vs)(k:κ){y:V}{u:Value}(ry:RelV y u):KV (putK kvs k y) (stored vs k u):=by
 unfold putK stored
 rw[r.any k]
 by_cases e:(vs.any λkv=>decide (kv.1=k))=true
 .rw[aA e,aA e];exact r.DT k ry
 .rw[aw e,aw e];exact nj r ⟨rfl,ry⟩
theorem KV.length{kvs:List (κ×V)}{vs:List (κ×Value)}(r:KV kvs vs):kvs.length=vs.length:=jj r
end
theorem t9{P:Program}{w:World}{k:Key}{u:Value}(r:RelV (kV k) u):(bN P w).is k u=true:=by
 cases k with
 |inl i=>obtain⟨t,e⟩:=(show ∃t,u=Value.int i t from r);subst e;exact U4 P w i t
 |inr x=>obtain⟨t,e⟩:=(show ∃t,u=Value.str x t from r);subst e;exact U5 P w x t
theorem DU{P:Program}{w:World}:∀{ks:List Key}{us:List Value},Vals (ks.map kV) us->ItemsAre (bN P w) ks us
 |[],_,r=>by rw[vW] at r;cases r;exact .nil
 |k::ks,_,r=>by
  rw[bX] at r
  cases r with
  |cons h t=>exact .cons (t9 h) (DU t)
abbrev KT(H:Hp):List (List Key×V)->List (List Key×Addr×Value)->Prop:=Paired λp q=>p.1=q.1/\H q.2.1=some (.tup (p.1.map kV))/\RelV p.2 q.2.2
theorem KT.val{H:Hp}{kvs:List (List Key×V)}{xs:List (List Key×Addr×Value)}(r:KT H kvs xs)(k:List Key):fH (aQ kvs k) ((atKey xs k).map (·.2)):=by
 induction r with
 |nil=>exact True.intro
 |@cons p q ps qs h t ih=>
  obtain⟨h1,_,h2⟩:=h
  by_cases e:p.1=k
  .have e':q.1=k:=h1.symm.trans e
   have b:atKey (q::qs) k=some q.2:=by simp[atKey,tu,e']
   rw[kP e,b];exact h2
  .have e':¬q.1=k:=λz=>e (h1.trans z)
   have b:atKey (q::qs) k=atKey qs k:=by simp[atKey,tu,e']
   rw[kQ e,b];exact ih
theorem KT.DT{H:Hp}{kvs:List (List Key×V)}{xs:List (List Key×Addr×Value)}(r:KT H kvs xs)(k:List Key){y:V}{u:Value}(ry:RelV y u) :
  KT H (kvs.map λkv=>if kv.1=k then (kv.1,y) else kv) (xs.map (putAt k u)):=by
 induction r with
 |nil=>exact .nil
 |@cons p q ps qs h t ih=>
  rw[bX,bX]
  refine .cons ?_ ih
  obtain⟨h1,h2,h3⟩:=h
  unfold putAt
  by_cases e:p.1=k
  .rw[aA e,aA (h1.symm.trans e)];exact⟨h1,h2,ry⟩
  .rw[aw e,aw (λz=>e (h1.trans z))];exact⟨h1,h2,h3⟩
theorem KT.put{H:Hp}{kvs:List (List Key×V)}{xs:List (List Key×Addr×Value)}(r:KT H kvs xs)(k:List Key){b:Addr}{y:V}{u:Value}(hb:H b=some (.tup (k.map kV)))(ry:RelV y u) :
  KT H (putK kvs k y) (storedH xs k b u):=by
 have e:(kvs.any λkv=>decide (kv.1=k))=(atKey xs k).isSome:=by
  rw[rq,(r.val k).wO,Option.isSome_map]
 unfold putK storedH
 rw[e]
 by_cases q:(atKey xs k).isSome=true
 .rw[aA q,aA q];exact r.DT k ry
 .rw[aw q,aw q];exact nj r ⟨rfl,hb,ry⟩
theorem KT.keeps{H H':Hp}{kvs:List (List Key×V)}{xs:List (List Key×Addr×Value)}(r:KT H kvs xs)(ht:∀b ys,H b=some (.tup ys)->H' b=some (.tup ys)):KT H' kvs xs:=
 Paired.bM r λ_ _ z=>⟨z.1,ht _ _ z.2.1,z.2.2⟩
section
variable{P:Program}{w:World}{H:Hp}{h:Heap}{a:Addr}
theorem LN{u:HO}(ok:dn P w H h)(e:Rd H a u):cS P w H h a u:=e.ok ok
theorem rC{kvs:List (Key×V)}(ok:dn P w H h)(e:Rd H a (.dK kvs)):kvs.length<=sizeLine/\(a==sysModules)=false/\∃vs,KV kvs vs/\h.DictOf (bN P w) a vs:=
 show cS P w H h a (.dK kvs) from LN ok e
theorem WS{kvs:List (Key×V)}(ok:dn P w H h)(e:H a=some (.dK kvs)):kvs.length<=sizeLine/\(a==sysModules)=false/\∃vs,KV kvs vs/\h.DictOf (bN P w) a vs:=rC ok (.inl e)
theorem rE{ks:List Key}(ok:dn P w H h)(e:H a=some (.tup (ks.map kV))):(tupleKind (bN P w)).is h ks a:=by
 obtain⟨_,its,r,o,h1,h2,n,h3⟩:=(show cS P w H h a (.tup (ks.map kV)) from ok a _ e)
 exact⟨o,its.toArray,n,h1,h2,h3,by simpa using DU r⟩
theorem rF{kvs:List (List Key×V)}(ok:dn P w H h)(e:Rd H a (.dT kvs)):kvs.length<=sizeLine/\(a==sysModules)=false/\
  ∃xs,KT H kvs xs/\h.DictOfH (tupleKind (bN P w)) a xs:=by
 obtain⟨z,y,xs,r,o,es,ep,h1,h2,h3,h4,h5⟩:=(show cS P w H h a (.dT kvs) from LN ok e)
 refine⟨z,y,xs,r,o,es,ep,h1,h2,h3,h4,λx hx=>?_,h5⟩
 have all:∀{l:List (List Key×V)}{m:List (List Key×Addr×Value)},KT H l m->∀x∈m,(tupleKind (bN P w)).is h x.1 x.2.1:=by
  intro l m q
  induction q with
  |nil=>intro x hx;exact nomatch hx
  |@cons p q ps qs hq t ih=>
   intro x hx
   rcases bS.mp hx with e | hx
   .subst e
    exact rE ok (by rw[<-hq.1];exact hq.2.1)
   .exact ih x hx
 exact all r x hx
theorem LO{kvs:List (List Key×V)}(ok:dn P w H h)(e:H a=some (.dT kvs)):kvs.length<=sizeLine/\(a==sysModules)=false/\
  ∃xs,KT H kvs xs/\h.DictOfH (tupleKind (bN P w)) a xs:=rF ok (.inl e)
end
def eA(H:Hp)(a:Addr)(y:V)(r:Option V):Prop:=
 (∃kvs k,Rd H a (.dK kvs)/\y=kV k/\r=aQ kvs k)\/∃kvs k b,Rd H a (.dT kvs)/\y = .ref b/\H b=some (.tup (k.map kV))/\r=aQ kvs k
def lY(H:Hp)(a:Addr)(y v:V)(H':Hp):Prop:=
 (∃kvs k,H a=some (.dK kvs)/\y=kV k/\kvs.length<sizeLine/\H'=upd H a (.dK (putK kvs k v)))\/
 ∃kvs k b,H a=some (.dT kvs)/\y = .ref b/\H b=some (.tup (k.map kV))/\kvs.length<sizeLine/\H'=upd H a (.dT (putK kvs k v))
theorem eA.k{H:Hp}{a:Addr}{kvs:List (Key×V)}{k:Key}(e:H a=some (.dK kvs)):eA H a (kV k) (aQ kvs k) := .inl ⟨kvs,k,.inl e,rfl,rfl⟩
theorem eA.t{H:Hp}{a b:Addr}{kvs:List (List Key×V)}{k:List Key}(e:H a=some (.dT kvs))(eb:H b=some (.tup (k.map kV))):eA H a (.ref b) (aQ kvs k) := .inr ⟨kvs,k,b,.inl e,rfl,eb,rfl⟩
theorem lY.k{H:Hp}{a:Addr}{kvs:List (Key×V)}{k:Key}{v:V}(e:H a=some (.dK kvs))(hl:kvs.length<sizeLine):lY H a (kV k) v (upd H a (.dK (putK kvs k v))) := .inl ⟨kvs,k,e,rfl,hl,rfl⟩
theorem lY.t{H:Hp}{a b:Addr}{kvs:List (List Key×V)}{k:List Key}{v:V}(e:H a=some (.dT kvs))(eb:H b=some (.tup (k.map kV)))(hl:kvs.length<sizeLine) :
  lY H a (.ref b) v (upd H a (.dT (putK kvs k v))) := .inr ⟨kvs,k,b,e,rfl,eb,hl,rfl⟩
section
variable{X:Cx}{pins:List (Addr×Obj)}{σ:St}{H:Hp}{s:Shared}{a:Addr}{y v:V}{u r:Value}{o:Option V}{A:Around}{E:Value->Shared->Prop}
theorem Inv.big(I:Inv X pins σ H s):sysModules<s.heap.objs.size:=by
 have h:mainGlobals<s.heap.objs.size:=(I.mod.glob.keeps I.bk).lt
 exact Nat.lt_trans (by decide) h
theorem WT{Q:Value->Shared->Prop}(hu:A.units+1<cLine)(I:Inv X pins σ H s)(g:eA H a y (some v))(ry:RelV y u)(h:∀w' s',Inv X pins σ H s'->RelV v w'->Q w' s') :
  wpAny (model X.prog X.w) A (getItem (.ref a) u) Q E s:=by
 rcases g with ⟨kvs,k,e,ey,l⟩ | ⟨kvs,k,b,e,ey,eb,l⟩
 .subst ey
  obtain⟨z,hd,vs,rel,dd⟩:=rC I.aC e
  obtain⟨w',hw,kO⟩:=fH.some_of (v:=v) (o:=valueAt vs k) (by rw[l];exact rel.val k)
  exact wpAny_getItem_of (t9 ry) dd.mapOf hw (h w' _ (I.tok _) kO)
 .subst ey
  cases(show u=Value.ref b from ry)
  obtain⟨z,hd,xs,rel,dd⟩:=rF I.aC e
  obtain⟨w',hw,kO⟩:=fH.some_of (v:=v) (o:=(atKey xs k).map (·.2)) (by rw[l];exact rel.val k)
  obtain⟨p,hp,fL⟩:=jl.mp hw
  refine wpAny_getItem_heap (zi hu) (rE I.aC eb) dd hp ?_
  rw[fL]
  exact h w' _ (I.tok _) kO
theorem WU{Q:Value->Shared->Prop}(hu:A.units+1<cLine)(I:Inv X pins σ H s)(g:eA H a y o)(ry:RelV y u)(h:∀s',Inv X pins σ H s'->Q (.bool o.isSome) s') :
  wpAny (model X.prog X.w) A (compareOp .In u (.ref a)) Q E s:=by
 rcases g with ⟨kvs,k,e,ey,l⟩ | ⟨kvs,k,b,e,ey,eb,l⟩
 .subst ey
  obtain⟨z,hd,vs,rel,dd⟩:=rC I.aC e
  refine wpAny_in_of (t9 ry) hd dd.mapOf ?_
  rw[<-(rel.val k).wO,<-l]
  exact h _ (I.tok _)
 .subst ey
  cases(show u=Value.ref b from ry)
  obtain⟨z,hd,xs,rel,dd⟩:=rF I.aC e
  refine wpAny_in_heap (zi hu) (rE I.aC eb) hd dd ?_
  have q:=(rel.val k).wO
  rw[Option.isSome_map] at q
  rw[<-q,<-l]
  exact h _ (I.tok _)
theorem WV{Q:Value->Shared->Prop}(hu:A.units+1<cLine)(I:Inv X pins σ H s)(g:eA H a y o)(ry:RelV y u)(h:∀s',Inv X pins σ H s'->Q (.bool (!o.isSome)) s') :
  wpAny (model X.prog X.w) A (compareOp .NotIn u (.ref a)) Q E s:=by
 rcases g with ⟨kvs,k,e,ey,l⟩ | ⟨kvs,k,b,e,ey,eb,l⟩
 .subst ey
  obtain⟨z,hd,vs,rel,dd⟩:=rC I.aC e
  refine wpAny_notIn_of (t9 ry) hd dd.mapOf ?_
  rw[<-(rel.val k).wO,<-l]
  exact h _ (I.tok _)
 .subst ey
  cases(show u=Value.ref b from ry)
  obtain⟨z,hd,xs,rel,dd⟩:=rF I.aC e
  refine wpAny_notIn_heap (zi hu) (rE I.aC eb) hd dd ?_
  have q:=(rel.val k).wO
  rw[Option.isSome_map] at q
  rw[<-q,<-l]
  exact h _ (I.tok _)
theorem DV{h':Heap}{t':Nat}{ob:HO}(I:Inv X pins σ H s)(mu:wq (H a))(hs:Heap.SameBut a s.heap h')(he:∃q,h'.get? a=some q)(new:cS X.prog X.w (upd H a ob) h' a ob) :
  Inv X pins σ (upd H a ob) { s with heap:=h',toks:=t' } :=
 I.write (x:=a) (e:=a) mu (.inl rfl) (λb q hb z=>(hs.2 b hb).trans z) he new
theorem LP{P:Program}{w:World}{H':Hp}{h':Heap}{kvs:List (Key×V)}{vs:List (Key×Value)}(z:kvs.length<=sizeLine)(hd:(a==sysModules)=false)(rel:KV kvs vs)(dd:h'.DictOf (bN P w) a vs) :
  cS P w H' h' a (.dK kvs):=⟨z,hd,vs,rel,dd⟩
theorem WW{H':Hp}{Q:Unit->Shared->Prop}(hu:A.units+1<cLine)(I:Inv X pins σ H s)(g:lY H a y v H')(ry:RelV y u)(rv:RelV v r)(h:∀s',Inv X pins σ H' s'->Q () s') :
  wpAny (model X.prog X.w) A (setItem (.ref a) u r) Q E s:=by
 rcases g with ⟨kvs,k,e,ey,l,eH⟩ | ⟨kvs,k,b,e,ey,eb,l,eH⟩
 .subst ey eH
  obtain⟨z,hd,vs,rel,dd⟩:=WS I.aC e
  have hz:vs.length<=sizeLine:=by rw[<-rel.length];exact z
  have hl:(putK kvs k v).length<=sizeLine:=by have:=tY kvs k v;omega
  refine wpAny_setItem_pairs (hsz:=hz) (t9 ry) dd λh' ua hs=>h _ ?_
  have he:∃q,h'.get? a=some q:=let ⟨q,_,_,hq,_⟩:=ua;⟨q,hq⟩
  exact DV I (by rw[e];exact True.intro) hs he (LP hl hd (rel.put k rv) ua)
 .subst ey eH
  cases(show u=Value.ref b from ry)
  obtain⟨z,hd,xs,rel,dd⟩:=LO I.aC e
  have hz:xs.length<=sizeLine:=by rw[<-jj rel];exact z
  have hl:(putK kvs k v).length<=sizeLine:=by have:=tY kvs k v;omega
  refine wpAny_setItem_heap (hsz:=hz) (zi hu) (rE I.aC eb) dd λh' ua hs=>h _ ?_
  obtain⟨q,es,ep,hq,h2,h3,h4,_,h5⟩:=ua
  refine DV I (by rw[e];exact True.intro) hs ⟨q,hq⟩ ⟨hl,hd,_,(rel.put k eb rv).keeps λc ys ec=>?_,q,es,ep,hq,h2,h3,h4,h5⟩
  rw[ak (bY ec e (λz=>nomatch z))]
  exact ec
end
def LQ(i:Expr):Prop := ∀ov iv,subscripted i false ov iv=operate [ov,iv] (getItem ov iv)
theorem WX{prog:Program}{w:World}{A:Around}{E:Value->Shared->Prop}{s:Shared}{env:Env}{value slice:Expr}{pos:Pos}{T id:String}{Q:Value->Shared->Prop}
  (hl:typeLookup (.type T) "__getitem__"=pure (some (.builtin id))) (hs:LQ slice)
  (h:wpAny (model prog w) A (eval value env) (λo s₁=>wpAny (model prog w) A (eval slice env) (λi s₂=>s₂.TypeIs o T/\wpAny (model prog w) A (getItem o i) Q E s₂) E s₁) E s) :
  wpAny (model prog w) A (eval (.Subscript value slice pos) env) Q E s:=by
 refine Subscript_ (jP h (λo s₁ h₁=>jP h₁ (λi s₂ h₂=>?_) λ_ _ x=>x) λ_ _ x=>x)
 obtain⟨hT,h₂⟩:=h₂
 unfold subscriptTail
 refine ai ?_
 rw[getitemInPython_of_ne hT.not_modules]
 refine ai (CY hT hl ?_)
 have fin:wpAny (model prog w) A (subscripted slice false o i) (λr s₃=>wpAny (model prog w) A (letTemporaryGo value o r >>= λ_=>pure r) Q E s₃) E s₂:=by
  rw[hs o i]
  exact wpAny_operating (jP h₂ (λr s₃ h₃=>ai (wpAny_letTemporaryGo (aM h₃))) λ_ _ x=>x)
 first
  |exact aM (ai fin)
  |exact ai (aM (ai fin))
  |exact ai fin
theorem WY{X:Cx}{pins:List (Addr×Obj)}{σ:St}{H:Hp}{s:Shared}{a:Addr}{y:V}{o:Option V}(I:Inv X pins σ H s)(g:eA H a y o):s.TypeIs (.ref a) "dict":=by
 rcases g with ⟨kvs,k,e,_,_⟩ | ⟨kvs,k,b,e,_,_,_⟩
 .obtain⟨_,_,vs,_,dd⟩:=rC I.aC e
  exact dd.typeIs
 .obtain⟨_,_,xs,_,dd⟩:=rF I.aC e
  exact dd.typeIs
def WZ(td ty:TE):TE:=λσ H Q=>td σ H λx H1=>ty σ H1 λy H2=>∃a v,x = .ref a/\eA H2 a y (some v)/\Q v H2
def W0(ty td:TE):TE:=λσ H Q=>ty σ H λy H1=>td σ H1 λx H2=>∃a o,x = .ref a/\eA H2 a y o/\Q (.bl o.isSome) H2
def W2(ty td:TE):TE:=λσ H Q=>ty σ H λy H1=>td σ H1 λx H2=>∃a o,x = .ref a/\eA H2 a y o/\Q (.bl (!o.isSome)) H2
def W3(td ty tv:TE):TS:=λD σ H=>tv σ H λv H1=>td σ H1 λx H2=>ty σ H2 λy H3=>∃a H4,x = .ref a/\lY H3 a y v H4/\D.nx σ H4
section
variable{X:Cx}{o i e value:Expr}{pos pos' nF:Pos}{td ty tv:TE}
theorem DW(hu:X.A.units+1<cLine)(ho:PE X o td)(hi:PE X i ty)(hs:LQ i):PE X (.Subscript o i pos) (WZ td ty):=by
 intro pins s σ H Q I h
 refine WX PySem.F.slot_dict_getitem.lookup hs (aB (ho pins s σ H _ I h) λu s1 ⟨x,H1,I1,rx,q1⟩=>aB (hi pins s1 σ H1 _ I1 q1) λiv s2 ⟨y,H2,I2,ry,a,v,ex,g,q2⟩=>?_)
 subst ex
 obtain rfl:u=Value.ref a:=rx
 exact⟨WY I2 g,WT hu I2 g ry λw' s3 I3 kO=>⟨v,H2,I3,kO,q2⟩⟩
theorem LR(hu:X.A.units+1<cLine)(hi:PE X i ty)(ho:PE X o td):PC X .In i o (W0 ty td):=by
 intro pins s σ H Q I h
 refine aB (hi pins s σ H _ I h) λiv s1 ⟨y,H1,I1,ry,q1⟩=>aB (ho pins s1 σ H1 _ I1 q1) λu s2 ⟨x,H2,I2,rx,a,ov,ex,g,q2⟩=>?_
 subst ex
 obtain rfl:u=Value.ref a:=rx
 exact WU hu I2 g ry λs3 I3=>⟨.bl ov.isSome,H2,I3,rfl,q2⟩
theorem LU(hu:X.A.units+1<cLine)(hi:PE X i ty)(ho:PE X o td):PC X .NotIn i o (W2 ty td):=by
 intro pins s σ H Q I h
 refine aB (hi pins s σ H _ I h) λiv s1 ⟨y,H1,I1,ry,q1⟩=>aB (ho pins s1 σ H1 _ I1 q1) λu s2 ⟨x,H2,I2,rx,a,ov,ex,g,q2⟩=>?_
 subst ex
 obtain rfl:u=Value.ref a:=rx
 exact WV hu I2 g ry λs3 I3=>⟨.bl (!ov.isSome),H2,I3,rfl,q2⟩
theorem Ac(hu:X.A.units+1<cLine)(ho:PE X o td)(hi:PE X i ty)(hv:PE X value tv)(hs:swapsWith value (some (.Subscript o i pos')) pos.line X.env=pure false) :
  PS X (.Assign [.Subscript o i pos'] value pos) (W3 td ty tv):=by
 intro pins s σ H D I h
 refine wpAny_Assign_Subscript (aB (hv pins s σ H _ I h) λr s1 ⟨v,H1,I1,rv,q1⟩=>aB (ho pins s1 σ H1 _ I1 q1) λu s2 ⟨x,H2,I2,rx,q2⟩=>aB (hi pins s2 σ H2 _ I2 q2) λiv s3 ⟨y,H3,I3,ry,a,H4,ex,g,q3⟩=>?_) hs
 subst ex
 obtain rfl:u=Value.ref a:=rx
 exact WW hu I3 g ry rv λs4 I4=>⟨σ,H4,I4,q3⟩
end
theorem W4{P:Program}{w:World}{H:Hp}(h:Heap)(hb:sysModules<h.objs.size):cS P w H (h.push { cls := .type "dict",data := .dict #[] }) h.objs.size (.dK []):=
 ⟨bC _,vP.mpr (bo (bh hb)),[],.nil,Heap.DictOf.new h⟩
theorem W5{P:Program}{w:World}{H:Hp}(h:Heap)(hb:sysModules<h.objs.size):cS P w H (h.push { cls := .type "dict",data := .dict #[] }) h.objs.size (.dT []):=
 ⟨bC _,vP.mpr (bo (bh hb)),[],.nil,_,#[],0,cB _ rfl,⟨rfl,rfl,rfl⟩,rfl,rfl,jm⟩
def W6:TE:=λ_ H Q=>∀p,H p=none->Q (.ref p) (upd H p (.dK []))
def W7:TE:=λ_ H Q=>∀p,H p=none->Q (.ref p) (upd H p (.dT []))
section
variable{X:Cx}{pos:Pos}
theorem DX:PE X (.Dict [] [] pos) W6:=λpins s σ H Q I h=>
 wpAny_Dict_empty ⟨.ref s.heap.objs.size,_,I.laid (a:=s.heap.objs.size) (o := .dK []) (t':=s.toks) (λ_ _ q=>bz _ q) (aP _) (W4 s.heap I.big),rfl,h _ (I.aC.fresh (aP _))⟩
theorem LV:PE X (.Dict [] [] pos) W7:=λpins s σ H Q I h=>
 wpAny_Dict_empty ⟨.ref s.heap.objs.size,_,I.laid (a:=s.heap.objs.size) (o := .dT []) (t':=s.toks) (λ_ _ q=>bz _ q) (aP _) (W5 s.heap I.big),rfl,h _ (I.aC.fresh (aP _))⟩
end
structure M1(X:Cx)(o:Expr)(m:Str)(apos:Pos)(e:Expr)(dz:Pos):Prop where
 base:attributeBase o m X.env (eval o X.env)=eval o X.env
 gE:((backTo dz (starEach [e] X.env)).all (λx=>!x.1)&&(backToKw dz (keywordEach [] X.env)).all (λx=>x.1.isSome)
  && decide (([e]:List Expr).length+([]:List Keyword).length+(if ([]:List Keyword).isEmpty then 0 else 1)<30))=true
 line:(apos.endLine==dz.line)=true
 trees:backTo dz (starEach [e] X.env)=[(false,eval e X.env)]
structure M2(X:Cx)(o:Expr)(m:Str)(apos:Pos)(e f:Expr)(dz:Pos):Prop where
 base:attributeBase o m X.env (eval o X.env)=eval o X.env
 gE:((backTo dz (starEach [e,f] X.env)).all (λx=>!x.1)&&(backToKw dz (keywordEach [] X.env)).all (λx=>x.1.isSome)
  && decide (([e,f]:List Expr).length+([]:List Keyword).length+(if ([]:List Keyword).isEmpty then 0 else 1)<30))=true
 line:(apos.endLine==dz.line)=true
 trees:backTo dz (starEach [e,f] X.env)=[(false,eval e X.env),(false,eval f X.env)]
def DY(H:Hp)(a:Addr):Prop:=(∃kvs,Rd H a (.dK kvs))\/∃kvs,Rd H a (.dT kvs)
theorem LW{X:Cx}{pins:List (Addr×Obj)}{σ:St}{H:Hp}{s:Shared}{a:Addr}(I:Inv X pins σ H s)(d:DY H a) :
  s.TypeIs (.ref a) "dict"/\(∀b,Value.ref a = .ref b->∃ob,s.heap.get? b=some ob/\ob.dict=none)/\(a==sysModules)=false:=by
 rcases d with ⟨kvs,e⟩ | ⟨kvs,e⟩
 .obtain⟨_,hd,vs,_,dd⟩:=rC I.aC e
  refine⟨dd.typeIs,λb q=>?_,hd⟩
  cases q
  obtain⟨ob,_,_,h1,h2,_⟩:=dd
  exact⟨ob,h1,h2.2.1⟩
 .obtain⟨_,hd,xs,_,dd⟩:=rF I.aC e
  refine⟨dd.typeIs,λb q=>?_,hd⟩
  cases q
  obtain⟨ob,_,_,h1,h2,_⟩:=dd
  exact⟨ob,h1,h2.2.1⟩
section
variable{X:Cx}{pins:List (Addr×Obj)}{σ:St}{H:Hp}{s:Shared}{a:Addr}{y d:V}{u r:Value}{o:Option V}{A:Around}{E:Value->Shared->Prop}
theorem W8{Q:Value->Shared->Prop}(hu:A.units+1<cLine)(I:Inv X pins σ H s)(g:eA H a y o)(ry:RelV y u)(rd:RelV d r)(h:∀w' s',Inv X pins σ H s'->RelV (o.getD d) w'->Q w' s') :
  wpAny (model X.prog X.w) A (call (.builtin "dict.get") [.ref a,u,r]) Q E s:=by
 rcases g with ⟨kvs,k,e,ey,l⟩ | ⟨kvs,k,b,e,ey,eb,l⟩
 .subst ey
  obtain⟨z,hd,vs,rel,dd⟩:=rC I.aC e
  refine call_meetsIn UJ dd.typeIs PySem.F.entry_dict_get (PySem.F.args_dict_get_3 _ _ _) (meets_dict_get_default (bN X.prog X.w) a (t9 ry) hd r) ⟨_,dd.mapOf,h _ _ (I.tok _) ?_⟩
  rw[l]
  exact(rel.val k).getD rd
 .subst ey
  cases(show u=Value.ref b from ry)
  obtain⟨z,hd,xs,rel,dd⟩:=rF I.aC e
  refine call_meetsIn UJ dd.typeIs PySem.F.entry_dict_get (PySem.F.args_dict_get_3 _ _ _) (meetsH_dict_get_default (tupleKind (bN X.prog X.w)) a b hd r) ⟨zi hu,k,xs,rE I.aC eb,dd,h _ _ (I.tok _) ?_⟩
  rw[l]
  exact(rel.val k).getD rd
end
def W9(td ty tx:TE):TE:=λσ H Q=>td σ H λx H1=>∃a,x = .ref a/\DY H1 a/\ty σ H1 λy H2=>tx σ H2 λz H3=>∃o,eA H3 a y o/\Q (o.getD z) H3
section
variable{X:Cx}{o e f:Expr}{apos dz:Pos}{td ty tx:TE}
theorem LX(hu:X.A.units+1<cLine)(ho:PE X o td)(he:PE X e ty)(hf:PE X f tx)(m:M2 X o "get" apos e f dz):PE X (.Call (.Attribute o "get" apos) [e,f] [] dz) (W9 td ty tx):=by
 intro pins s σ H Q I h
 refine wpAny_Call_method m.base m.gE m.line PySem.F.plainAttrs_dict UJ PySem.F.type_dict_get (aB (ho pins s σ H _ I h) λu s1 ⟨x,H1,I1,rx,a,ex,d,q1⟩=>?_)
 subst ex
 obtain rfl:u=Value.ref a:=rx
 obtain⟨t1,t2,_⟩:=LW I1 d
 refine⟨t1,t2,?_⟩
 rw[m.trees]
 refine UH rfl (UI (CM (aB (he pins s1 σ H1 _ I1 q1) λiv s2 ⟨y,H2,I2,ry,q2⟩=>
  CM (aB (hf pins s2 σ H2 _ I2 q2) λfv s3 ⟨z,H3,I3,rz,ov,g,q3⟩=>Calls.spliced_nil ?_))))
 exact W8 hu I3 g ry rz λw' s4 I4 kO=>⟨_,H3,I4,kO,q3⟩
end
end L2
namespace j7
open PySem PySem.W PySem.Calls PyProof.Rows
theorem Xa{P:Params}{h:Heap}:∀(ns:List Int) (vs:List Value),WellAll P h vs (ns.map WData.int)->IntsAre vs ns:=by
 intro ns
 induction ns with
 |nil=>
  intro vs w
  rw[vW] at w
  cases w
  exact .nil
 |cons n ns ih=>
  intro vs w
  rw[bX] at w
  cases w with
  |cons a b=>
   cases a
   exact .cons _ _ (ih _ b)
theorem Xb{l:OpenLaw}{n:Nat}(hn:l.most=some n){P:Params}{h:Heap}{args:List WData}{vals:List Value}
  (Ad:l.row.toRowW.claim.pre args=true) (ub:WellAll P h vals args) :
  ∃a vs ns,vals=[Value.ref a]/\args=[WData.list (ns.map WData.int)]/\h.get? a=some { cls := .type "list",data := .seq vs.toArray }/\IntsAre vs ns/\ns.length<=n:=by
 have gZ:WShape.hasAll [] args [.list .int]=true:=(pre_splitW Ad).1
 have hc:l.pre.holds [] { args:=args }=true:=(pre_splitW Ad).2
 obtain⟨d,r,rfl,h1,h2⟩:=hasAllW_cons gZ
 obtain rfl:=hasAllW_nil h2
 obtain⟨xs,rfl,h3⟩:=hasW_list h1
 obtain⟨ns,rfl⟩:=items_int h3
 have hlen:ns.length<=n:=by
  unfold OpenLaw.pre at hc
  have h4:(WTm.not (.lt (.lit (.int (n:Int))) (.len (.arg 0)))).holds [] { args:=[.list (ns.map .int)] }=true:=by
   have h4:=(holds_andW hc).1
   rw[hn] at h4
   exact h4
  have h5:=condW_of h4 (w_not (w_lt w_lit (w_len_list (w_arg rfl))))
  rw[ax] at h5
  refine Kd λq=>?_
  have q':(n:Int)<((ns.length:Nat):Int):=by omega
  first
   |(rw[aG q'] at h5;exact absurd h5 (by decide))
   |(simp at h5;omega)
 cases ub with
 |cons w1 w2=>
  cases w2
  cases w1 with
  |list ho fu=>exact⟨_,_,ns,rfl,rfl,ho,Xa ns _ fu,hlen⟩
theorem Xc(l:OpenLaw)(args:List WData):l.row.toRowW.claim.post args (.bool true) args=true:=
 postW_of (r:=l.row.toRowW) (X:=(true==true))
  (show WShape.has [] (.bool true) .bool=true by first | rfl | decide | simp[WShape.has,WShape.arms,WShape.armsAll])
  (show(WTm.eq .res (.lit (.bool true))).value [] { args:=args,res:=some (.bool true),after:=args }=some (.bool (true==true)) from w_eq_bool (w_res rfl) w_lit) rfl
theorem Xd{l:OpenLaw}{n:Nat}{q:Program}{loose:List Str}{XP:(Str->Option Value)->Heap->Prop}{YP:World->Heap->Prop}{d:DefRec}
  (hn:l.most=some n) (wQ:d.params.defaults=[])
  (call:∀(w:World) (s₀ s₁:Shared) (mg mb:Str->Option Value) (fa:Addr) (o:Obj) (pm cd doc:Value) (a:Addr) (vs:List Value) (ns:List Int),
   Ground q loose [] XP w s₀ mg mb s₁.heap->YP w s₁.heap->
   s₁.heap.get? fa=some o->o.data = .func (docDef d.name d.params d.body d.scope pm cd doc)->s₁.heap.CodeRec cd d.name->mg d.name=some (.ref fa)->
   s₁.heap.get? a=some { cls := .type "list",data := .seq vs.toArray }->IntsAre vs ns->ns.length<=n->s₁.gens = #[]->
   codeAny (model l.prog w) callerA (.call (.ref fa) ⟨[.ref a],[]⟩) (λr s'=>r = .ok (.ret (.bool true))/\OldK s₁.heap s'.heap/\s'.os=s₁.os/\AllBare s'.gens) s₁) :
  WalkO q loose XP YP l.row.toRowW d [] (λf vs=>PySem.call f vs):=by
 intro w s₀ s₁ mg mb G Y fa o pm cd doc dV kV ho hd iU hD hmg hg args vals as Ad aoa hrd ub pJ
 obtain rfl:dV = .none:=Dflts.none hD wQ
 obtain rfl:kV = .none:=Dflts.noKw hD
 obtain⟨a,vs,ns,rfl,rfl,DZ,hints,hlen⟩:=Xb hn Ad ub
 refine enter_call (vT (call w s₀ s₁ mg mb fa o pm cd doc a vs ns G Y ho (fd_plain hd) iU hmg DZ hints hlen hg) λr s' hq=>?_)
 obtain⟨rfl,h2,h3,h4⟩:=hq
 exact⟨.inl ⟨.bool true,.bool true,[],rfl,λ_=>rfl,.bool true,Xc l _,λ_=>⟨List.Pairwise.nil,λ_ hm=>(nomatch hm)⟩⟩,h2,h3,h4⟩
section
variable{prog:Program}{w:World}{A:Around}{E:Value->Shared->Prop}{s:Shared}{K:Frag}
def Ae(h:Heap):Heap:={ h with objs := #[] }
theorem Af(h:Heap)(b:Addr):(Ae h).get? b=none:=by
 cases e:(Ae h).get? b with
 |none=>rfl
 |some o=>exact absurd (bf e) (jn _)
def ledger(h:Heap)(L d:Addr):List (Addr×Obj):=(List.range h.objs.size).filterMap λa=>if a=L\/a=d then none else (h.get? a).map λo=>(a,o)
theorem D0{h:Heap}{L d a:Addr}{o:Obj}:(a,o)∈ledger h L d↔a≠L/\a≠d/\h.get? a=some o:=by
 unfold ledger
 rw[List.mem_filterMap]
 constructor
 .rintro⟨b,_,e⟩
  split at e
  .cases e
  .rename_i hb
   obtain⟨o',ho,e'⟩:=jl.mp e
   cases e'
   exact⟨λq=>hb (.inl q),λq=>hb (.inr q),ho⟩
 .rintro⟨n1,n2,ho⟩
  refine⟨a,ip.mpr (bf ho),?_⟩
  rw[aw (show ¬(a=L\/a=d) from λq=>q.elim n1 n2),ho] <;> rfl
theorem Xe{h:Heap}{L:Addr}{m:Str->Option Value}(n:h.Ns L m):Fr (Ae h) L h m:=
 ⟨n,λb o e=>(by rw[Af] at e;cases e),bC _⟩
end
end j7
namespace L2
open PySem PySem.Spec PyProof.Rows
theorem LY:∀{vs:List Value}{ns:List Int},IntsAre vs ns->Vals (ns.map V.int) vs
 |_,_,.nil=>.nil
 |_,_,.cons n t h=>.cons ⟨t,rfl⟩ (LY h)
def D3(H:Hp):Prop := ∀b,H b=none\/∃o xs,H b=some (.d6 o (.lst xs))
theorem Xf{P:Program}{w:World}{K:PySem.W.Frag}{mg mb:Str->Option Value}{CX:j4}{k:Nat}{fa a:Addr}{fd:FuncData}{x:Str}{sp:Sp}{s₁:Shared}{vs:List Value}{ns:List Int}
  (KX:K.In s₁.heap) (LZ:s₁.heap.Ns mainGlobals mg) (hb:s₁.heap.Ns builtinsNs mb) (wR:∀x:Str,x≠"__name__"->mb x=bootBuiltins x) (Xg:s₁.heap.NoLimit) (hg:s₁.gens = #[])
  (ha:s₁.heap.get? a=some { cls := .type "list",data := .seq vs.toArray }) (hi:IntsAre vs ns) (hl:ns.length<=sizeLine) (hr:cw k callerA)
  (F:∀base:Heap,K.In base->base.Ns mainGlobals mg->aS P w K mg base CX k fa fd [x] sp) (Xh:∀(s:Shared) (u:Value),BindsTo s fd ⟨[u],[]⟩ [(x,u)])
  (lU:∀H:Hp,D3 H->aj K H a (ns.map V.int)->sp [.ref a] H (λv _=>v = .bl true) λ_ _ _=>False)
  (D4:∀H e s',CX [] H s₁ (λ_ _ _=>False) e s'->False) :
  codeAny (model P w) callerA (.call (.ref fa) ⟨[.ref a],[]⟩) (λr s'=>r = .ok (.ret (.bool true))/\OldK s₁.heap s'.heap/\s'.os=s₁.os/\AllBare s'.gens) s₁:=by
 have rv:=LY hi
 have Xi:=hi.length
 have core:∀H:Hp,D3 H->aj K H a (ns.map V.int)->dn P w H s₁.heap->(∀b,H b≠none->b=a)->(H a≠none->K.lookup a=none)->
   codeAny (model P w) callerA (.call (.ref fa) ⟨[.ref a],[]⟩) (λr s'=>r = .ok (.ret (.bool true))/\OldK s₁.heap s'.heap/\s'.os=s₁.os/\AllBare s'.gens) s₁:=by
  intro H hO hS aC hA hK
  have L0:∀{b:Addr}{o:Obj},s₁.heap.get? b=some o->H b=none->(nA s₁.heap H).get? b=some o:=λe n=>U8 e n
  have wG:∀{b:Addr}{o:Obj}{es:Array DictEntry}{ep:Nat},s₁.heap.get? b=some o->o.data = .dict es ep->H b=none:=λ{b o es ep} e d=>by
   cases q:H b with
   |none=>rfl
   |some u=>
    have e':b=a:=hA b (by rw[q];simp)
    subst e'
    rw[ha] at e;cases e
    have d':Data.seq vs.toArray _=Data.dict es ep:=d
    cases d'
  have Ag:∀{b:Addr}{m:Str->Option Value},s₁.heap.Ns b m->(nA s₁.heap H).Ns b m:=λ{b m} ⟨o,es,ep,e,d,r⟩=>⟨o,es,ep,L0 e (wG e d),d,r⟩
  have L1:K.In (nA s₁.heap H):=λb o e=>L0 (KX b o e) (by
   cases q:H b with
   |none=>rfl
   |some u=>
    have e':b=a:=hA b (by rw[q];simp)
    subst e'
    rw[hK (by rw[q];simp)] at e;cases e)
  have hM:Mod K mg (nA s₁.heap H):=⟨L1,Ag LZ,⟨mb,Ag hb,wR⟩,let ⟨mc,h1,h2⟩:=Xg;⟨mc,Ag h1,h2⟩⟩
  have e0:kM P w K mg (nA s₁.heap H) callerA [] s₁ H:=⟨rfl,hM,λb o e=>U9 e,Nat.le_of_eq (U7 _ _),trivial,λb hb=>absurd (show b∈([]:List Addr) from hb) (by simp),aC,.of_eq hg⟩
  refine vT ((F _ L1 (Ag LZ)).run callerA [] s₁ H ⟨[.ref a],[]⟩ [.ref a] [.ref a] _ _ hr e0 (Xh s₁ (.ref a)) (.cons rfl .nil) (lU H hO hS)) λr s' h=>?_
  cases r with
  |error e=>exact(D4 H e s' h).elim
  |ok fl=>
   cases fl with
   |next=>exact False.elim h
   |brk=>exact False.elim h
   |cont=>exact False.elim h
   |ret u=>
    obtain⟨v,H',os,bare,un,Xj,r',q⟩:=h
    have q':v = .bl true:=q
    subst q'
    obtain rfl:u=Value.bool true:=r'
    refine⟨rfl,OldK.of_keep λb o e=>?_,os,bare⟩
    cases q:H b with
    |none=>exact un.keep b o e q (by intro z;exact absurd (show b∈([]:List Addr) from z) (by simp)) (by simp)
    |some u=>
     rcases hO b with z | ⟨ob,xs,z⟩
     .rw[q] at z;cases z
     .have z2:=un.jr b ob _ z
      obtain⟨e1,_⟩:=aC b _ z
      obtain⟨e2,_⟩:=Xj b _ z2
      rw[e] at e1;cases e1
      exact e2
 cases hk:K.lookup a with
 |some o=>
  have e:=KX a o hk
  rw[ha] at e
  cases e
  refine core (λ_=>none) (λ_=>.inl rfl) (.inr ⟨_,vs.toArray,_,hk,rfl,rfl,rfl,by rw[bc,Xi];exact hl,by simpa using rv⟩) (λb u z=>by have z':(none:Option HO)=some u:=z;cases z') (λb z=>absurd rfl z) λz=>absurd rfl z
 |none=>
  refine core (λb=>if b=a then some (.d6 { cls := .type "list",data := .seq vs.toArray } (.lst (ns.map V.int))) else none) (λb=>?_) (.inl (.inr ⟨{ cls := .type "list",data := .seq vs.toArray },aA rfl⟩)) (λb u z=>?_) (λb z=>?_) λ_=>hk
  .by_cases hb:b=a
   .exact .inr ⟨_,_,aA hb⟩
   .exact .inl (aw hb)
  .by_cases hb:b=a
   .have z':=(aA hb).symm.trans z
    cases z'
    subst hb
    exact⟨ha,by rw[ax];exact hl,vs,_,rv,ha⟩
   .have z':=(aw hb).symm.trans z
    cases z'
  .by_cases hb:b=a
   .exact hb
   .exact absurd (aw hb) z
theorem Xk{l:PySem.W.OpenLaw}{n k:Nat}{q:Program}{loose:List Str}{XP:(Str->Option Value)->Heap->Prop}{YP:World->Heap->Prop}{d:DefRec}{K:Params->PySem.W.Frag}{CX:World->j4}{sp:World->Sp}{x:Str}
  (hn:l.most=some n) (nE:n<=sizeLine) (wQ:d.params.defaults=[]) (hr:cw k callerA)
  (hY:∀(w:World) (h:Heap),YP w h->(K w.params).In h)
  (F:∀(w:World) (mg:Str->Option Value) (fa:Addr) (h:Heap),(K w.params).In h->h.Ns mainGlobals mg->mg d.name=some (.ref fa)->
   ∃fd:FuncData,(∀(s:Shared) (u:Value),BindsTo s fd ⟨[u],[]⟩ [(x,u)])/\
    ∀base:Heap,(K w.params).In base->base.Ns mainGlobals mg->aS l.prog w (K w.params) mg base (CX w) k fa fd [x] (sp w))
  (lU:∀(w:World) (H:Hp) (a:Addr) (ns:List Int),ns.length<=n->D3 H->aj (K w.params) H a (ns.map V.int)->sp w [.ref a] H (λv _=>v = .bl true) λ_ _ _=>False)
  (D4:∀(w:World) (H:Hp) (s:Shared) (e:Value) (s':Shared),CX w [] H s (λ_ _ _=>False) e s'->False) :
  PySem.W.WalkO q loose XP YP l.row.toRowW d [] (λf vs=>PySem.call f vs):=by
 refine j7.Xd hn wQ λw s₀ s₁ mg mb fa o pm cd doc a vs ns G Y ho hd iU hmg DZ hints hlen hg=>?_
 have KX:=hY w _ Y
 obtain⟨fd,hb,hF⟩:=F w mg fa _ KX G.T.g hmg
 exact Xf KX G.T.g G.T.b G.T.builtins G.T.nolimit hg DZ hints (bO hlen nE) hr hF hb (λH hO hS=>lU w H a ns hlen hO hS) λH e s'=>D4 w H s₁ e s'
def inClass(s:Stmt)(j:Nat):Stmt:=match s with
 |.ClassDef _ _ _ body _ _ _ _ _ _ _=>body.getD j (.Pass ⟨0,0,0,0⟩)
 |_=>.Pass ⟨0,0,0,0⟩
def pK(s:Stmt):Arguments:=match s with
 |.FunctionDef _ a _ _ _ _ _ _ _ _=>a
 |_=>{ posonlyargs:=[],args:=[],vararg:=none,kwonlyargs:=[],kw_defaults:=[],kwarg:=none,defaults:=[] }
def kR(s:Stmt):List Stmt:=match s with
 |.FunctionDef _ _ b _ _ _ _ _ _ _=>b
 |_=>[]
def aW(s:Stmt):Scope:=match s with
 |.FunctionDef _ _ _ _ _ _ sc _ _ _=>sc
 |_=>{ kind := .function,names:=[],isGenerator:=false,isCoroutine:=false }
abbrev aY:j4:=λ_ _ _ _ _ _=>False
abbrev E0:XK:=λ_ _ _=>False
theorem uc{X:Cx}:Passes aY X E0:=λ_ _ _ _ _ _ _ h=>h.elim
structure bq(K:PySem.W.Frag)(x qual:Str)(st:Stmt)(f:Addr)(fd:FuncData):Prop where
 ex:∃(oc:Value) (od:Option Addr) (kV doc pm:Value) (an:Option Addr) (aL ct:Value) (j5:Array (Option Value)),
  fd=PySem.W.fnOf x qual (pK st) (kR st) (aW st) .none kV doc pm an aL ct/\K.lookup f=some ⟨oc,od,.func fd,j5⟩/\PySem.W.codeIn K aL qual=true
 kp:PySem.W.keepIn K (.ref f)=true
section
variable{P:Program}{w:World}{K:PySem.W.Frag}{mg:Str->Option Value}{base:Heap}
theorem bq.ok{x qual:Str}{st:Stmt}{f:Addr}{fd:FuncData}{N ps:List Str}{k:Nat}{sp:Sp}(F:bq K x qual st f fd)(S:bw N ps (aW st))(len:∀vs H Q E,sp vs H Q E->vs.length=ps.length)
  (rm:∀(aL:Value) (A:Around) (outer:List Env) (s:Shared) (H:Hp) (vs:List V) (Q:VK) (E:XK),cw k (A.deeper (envOfC qual (aW st) s.heap.objs.size f aL))->sp vs H Q E->
   ∃t,gS (nG aY P w K mg base N qual (aW st) f aL A outer s H E).pA (kR st) t/\t { nx:=λ_ H'=>Q .aD H',rt:=Q } (start N vs) H):aS P w K mg base aY (k+1) f fd ps sp:=by
 obtain⟨oc,od,kV,doc,pm,an,aL,ct,j5,rfl,lk,iU⟩:=F.ex
 refine Lu lk iU S len λA outer s H vs Q E hr lU=>?_
 obtain⟨t,h,q⟩:=rm aL A outer s H vs Q E hr lU
 exact⟨t,h.pA,q⟩
theorem bq.binds{x qual:Str}{st:Stmt}{f:Addr}{fd:FuncData}{ps:List Str}(F:bq K x qual st f fd)
  (h:∀(kV doc pm:Value) (an:Option Addr) (aL ct:Value) (us:List Value),us.length=ps.length->bindArgs (PySem.W.fnOf x qual (pK st) (kR st) (aW st) .none kV doc pm an aL ct) ⟨us,[]⟩=pure (ps.zip us)):Binds K fd ps []:=by
 obtain⟨oc,od,kV,doc,pm,an,aL,ct,j5,rfl,lk,iU⟩:=F.ex
 exact .all (h kV doc pm an aL ct)
theorem bI{x qual:Str}{st:Stmt}{f:Addr}{oc:Value}{od an:Option Addr}{j5:Array (Option Value)}{kV doc pm aL ct:Value}(l:K.lookup f=some ⟨oc,od,.func (PySem.W.fnOf x qual (pK st) (kR st) (aW st) .none kV doc pm an aL ct),j5⟩)
  (c:PySem.W.codeIn K aL qual=true) (k:PySem.W.keepIn K (.ref f)=true):bq K x qual st f (PySem.W.fnOf x qual (pK st) (kR st) (aW st) .none kV doc pm an aL ct):=⟨⟨oc,od,kV,doc,pm,an,aL,ct,j5,rfl,l,c⟩,k⟩
end
theorem kT{A:Around}{k:Nat}(hr:cw k A):A.units+1<cLine:=kF (Nat.add_le_add_left (by decide:1<=64) _) hr.units
theorem Xl{n:Nat}(h:n<=1000):n<sizeLine:=kF h (by decide)
section
variable{X:Cx}
theorem pv(i:Nat){x:Str}{pos:Pos}(hN:X.N[i]? = some x:=by rfl)(hv:Di X.env.scope x:=by first | exact Or.inl rfl | exact Or.inr (Or.inl rfl) | exact Or.inr (Or.inr rfl))(hd:(x==("__debug__":Str))=false:=by decide)
  (iU:(x==("__classdict__":Str))=false:=by decide):PE X (.Name x pos) (KQ i):=Vf hN hv hd iU
end
theorem aT{A B:Prop}(h:B):if false=true then A else B:=by
 rw[aw cj]
 exact h
theorem bG{A B:Prop}(h:A):if true=true then A else B:=by
 rw[aA rfl]
 exact h
theorem fw{c A B:Prop}[Decidable c](h1:c->A)(h2:¬c->B):if c then A else B:=by
 by_cases h:c
 .rw[aA h]
  exact h1 h
 .rw[aw h]
  exact h2 h
def af(H H':Hp):Prop := ∀b o,H b=some o->H' b=some o
theorem af.refl(H:Hp):af H H:=λ_ _ h=>h
theorem af.trans{H H1 H2:Hp}(a:af H H1)(b:af H1 H2):af H H2:=λc o h=>b c o (a c o h)
theorem af.free{H H':Hp}(e:af H H'){l:Addr}(h:H' l=Option.none):H l=Option.none:=by
 cases q:H l with
 |none=>rfl
 |some o=>
  rw[e l o q] at h
  cases h
theorem af.seq{K:PySem.W.Frag}{H H':Hp}{a:Addr}{xs:List V}(e:af H H')(h:aj K H a xs):aj K H' a xs:=by
 rcases h with (h | ⟨o,h⟩) | h
 .exact .inl (.inl (e _ _ h))
 .exact .inl (.inr ⟨o,e _ _ h⟩)
 .exact .inr h
section
variable{κ:Type}[DecidableEq κ]
theorem L3{kvs:List (κ×V)}{k:κ}(h:aQ kvs k=none):¬k∈kvs.map (·.1):=by
 intro m
 obtain⟨p,hp,e⟩:=bP.mp m
 have q:(kvs.any λkv=>decide (kv.1=k))=true:=zj.mpr ⟨p,hp,aG e⟩
 rw[rq,h] at q
 exact absurd q (by simp)
theorem L4{kvs:List (κ×V)}{k:κ}{v:V}(h:aQ kvs k=some v):k∈kvs.map (·.1):=by
 have q:(kvs.any λkv=>decide (kv.1=k))=true:=by
  rw[rq,h]
  all_goals rfl
 obtain⟨p,hp,e⟩:=zj.mp q
 exact bP.mpr ⟨p,hp,ff e⟩
theorem L5:∀{l:List κ}{k:κ},l.Nodup->¬k∈l->(l++[k]).Nodup
 |[],k,_,_=>by simp
 |a::r,k,h,hk=>by
  obtain⟨h1,h2⟩:=fF.mp h
  show(a::(r++[k])).Nodup
  refine fF.mpr ⟨λm=>?_,L5 h2 λm=>hk (bS.mpr (Or.inr m))⟩
  rcases du.mp m with q | q
  .exact h1 q
  .exact hk (bS.mpr (Or.inl (cI.mp q).symm))
theorem Xm{kvs:List (κ×V)}{k:κ}(v:V)(hn:(kvs.map (·.1)).Nodup)(h:aQ kvs k=none):((putK kvs k v).map (·.1)).Nodup:=by
 rw[tZ v h,eK]
 exact L5 hn (L3 h)
end
end L2
set_option maxHeartbeats 4000000
namespace L2
open PySem PySem.Spec PyProof.Rows
theorem af.cQ(H:Hp):af H H:=λ_ _ h=>h
theorem af.upd{H:Hp}{a:Addr}{o:HO}(h:H a=none):af H (upd H a o):=λb u e=>by rw[ak (aZ e h)];exact e
theorem af.j8{H H':Hp}{a:Addr}{o:HO}(s:af H H')(h:H a=none):af H (L2.upd H' a o):=λb u e=>by rw[ak (aZ e h)];exact s b u e
theorem af.tup{K:PySem.W.Frag}{H H':Hp}{a:Addr}{xs:List V}(e:af H H')(h:aq K H a xs):aq K H' a xs:=by
 rcases h with (h | ⟨o,h⟩) | h
 .exact .inl (.inl (e _ _ h))
 .exact .inl (.inr ⟨o,e _ _ h⟩)
 .exact .inr h
theorem L6{prog:Program}{w:World}{A:Around}{R:Result->Shared->Prop}{s:Shared}{elt target iter:Expr}{ifs:List Expr}{scope:Scope}{pos:Pos}{it acc:Value}{env:Env}(I:Nat->Shared->Prop)
  (turn:∀n s,I n s->wpAny (model prog w) A (pyNext it) (λr s₁=>match r with
   |none=>R (.ok .next) s₁
   |some v=>wpAny (model prog w) A (letOwnedTupleGo target it v) (λ_ s₂=>wpAny (model prog w) A (assign target env v) (λ_ s₃=>
     wpAny (model prog w) A (forIn ifs true λc r=>if r=true then do let ok<-isTrue c env (eval c env);pure (ForInStep.yield ok) else pure (ForInStep.yield r)) (λok s₄=>
      if ok=true then wpAny (model prog w) A (eval elt env) (λx s₅=>
       wpAny (model prog w) A (call (.builtin "list.append") [acc,x]) (λ_ s₆=>∃m,m<n/\I m s₆) (λ_ _=>False) s₅) (λ_ _=>False) s₄
      else ∃m,m<n/\I m s₄) (λ_ _=>False) s₃) (λ_ _=>False) s₂) (λ_ _=>False) s₁) (λ_ _=>False) s)
  (n:Nat) (h:I n s) :
  codeAny (model prog w) A (.compLoop (.ListComp elt [⟨target,iter,ifs,0⟩] scope pos) 0 it acc env) R s:=by
 refine codeAny_loop rfl I (λn s hI=>?_) n h
 show wpAny _ A ((compTurn (.ListComp elt [⟨target,iter,ifs,0⟩] scope pos) 0 it acc env).onRaise (λx=>do noteFrame x env;theTreesLotGoes x)) _ _ s
 refine wpAny_noted ?_
 rw[compTurn_list]
 refine ai (wpAny_standAt (ai (jP (turn n s hI) (λr s₁ h₁=>?_) λ_ _ f=>f.elim)))
 cases r with
 |none=>exact aM h₁
 |some v=>
  refine ai (jP h₁ (λ_ s₂ h₂=>ai (jP h₂ (λ_ s₃ h₃=>ai (jP h₃ (λok s₄ h₄=>?_) λ_ _ f=>f.elim)) λ_ _ f=>f.elim)) λ_ _ f=>f.elim)
  cases ok with
  |false=>exact aM ⟨rfl,h₄⟩
  |true=>
   exact ai (ai (jP h₄ (λx s₅ h₅=>ai (jP h₅ (λ_ s₆ h₆=>aM (aM ⟨rfl,h₆⟩)) λ_ _ f=>f.elim)) λ_ _ f=>f.elim))
def iD(X:Cx)(x:Str)(ns:List Str)(scope:Scope)(cl:List (Str×Addr))(fp:List Addr)(pins:List (Addr×Obj))(s:Shared)(H:Hp):Cx where
 prog:=X.prog
 w:=X.w
 K:=X.K
 mg:=X.mg
 base:=X.base
 A:=X.A
 N:=x::ns
 s₀:=s
 H₀:=H
 env:=compEnvC scope cl s.heap.objs.size X.env
 outer:=X.stack
 stack:=X.stack
 ex:=fp
 fn:=λ_=>false
 calm:=X.calm
 pn:=X.pn++pins
 xe:=λ_ _=>False
structure ud(X:Cx)(scope:Scope)(cl:List (Str×Addr)):Prop where
 D5:closureFor scope X.env=pure cl
 sub:∀x c,cl.lookup x=some c->X.env.cells.lookup x=some c
 all:∀x,((relabel scope X.env).names.lookup x=some .cell\/(relabel scope X.env).names.lookup x=some .free)->∃c,cl.lookup x=some c
 kind:scope.kind = .function
 cell:∀y∈scope.names,y.2 ≠ .cell
 names:∀y∈scope.names,y.2 = .local->scope.names.lookup y.1=some .local
def gF(cells:List (Str×Addr)):List (Str×NameKind)->List (Str×Addr)->List (Str×Addr)
 |[],acc=>acc
 |(n,k)::r,acc=>if k == .free then gF cells r ((n,(cells.lookup n).getD 0)::acc) else gF cells r acc
theorem Xn{scope:Scope}{env:Env}(h:∀y∈scope.names,y.2 = .free->∃c,env.cells.lookup y.1=some c):closureFor scope env=pure (gF env.cells scope.names []):=by
 unfold closureFor
 suffices H:∀(l:List (Str×NameKind)) (acc:List (Str×Addr)),(∀y∈l,y.2 = .free->∃c,env.cells.lookup y.1=some c)->
   (forIn l acc (λ(x:Str×NameKind) (r:List (Str×Addr))=>(do
    let (name,kind):=x
    let cs:=r
    if (kind==NameKind.free)=true then do
     let a<-cellOf env name
     pure (ForInStep.yield ((name,a)::cs))
    else pure (ForInStep.yield cs):Sem (ForInStep (List (Str×Addr))))):Sem (List (Str×Addr)))=pure (gF env.cells l acc) by
  have:=H scope.names [] h
  simp only at this ⊢
  first | (rw[this];rfl) | exact this | (simp only[this];rfl)
 intro l
 induction l with
 |nil=>intro acc _;rfl
 |cons y r ih=>
  intro acc hy
  obtain⟨n,k⟩:=y
  rw[Ke]
  have hr:∀y∈r,y.2 = .free->∃c,env.cells.lookup y.1=some c:=λy m=>hy y (cg _ m)
  cases hk:(k==NameKind.free) with
  |false=>
   simp only[hk,gn,fG,gF]
   exact ih acc hr
  |true=>
   obtain⟨c,ec⟩:=hy (n,k) bL (m8.mp hk)
   simp only[hk,jk,gF,ec,oX]
   have e:cellOf env n=pure c:=by
    unfold cellOf
    rw[show env.cells.lookup n=some c from ec]
   rw[e]
   exact ih ((n,c)::acc) hr
theorem Ah(cells:List (Str×Addr))(x:Str):∀(l:List (Str×NameKind)) (acc:List (Str×Addr)),(∀y∈l,y.2 = .free->∃c,cells.lookup y.1=some c)->(∀c,acc.lookup x=some c->cells.lookup x=some c)->
  (∀c,(gF cells l acc).lookup x=some c->cells.lookup x=some c)/\(((x,NameKind.free)∈l\/∃c,acc.lookup x=some c)->∃c,(gF cells l acc).lookup x=some c)
 |[],acc,_,ha=>⟨ha,λh=>h.elim (λz=>nomatch z) id⟩
 |(n,k)::r,acc,hy,ha=>by
  have hr:∀y∈r,y.2 = .free->∃c,cells.lookup y.1=some c:=λy m=>hy y (cg _ m)
  unfold gF
  cases hk:(k==NameKind.free) with
  |false=>
   rw[aw cj]
   obtain⟨h1,h2⟩:=Ah cells x r acc hr ha
   refine⟨h1,λh=>h2 ?_⟩
   rcases h with h | h
   .rcases bS.mp h with z | z
    .cases z
     exact absurd hk (by decide)
    .exact .inl z
   .exact .inr h
  |true=>
   rw[aA rfl]
   obtain⟨c,ec⟩:=hy (n,k) bL (m8.mp hk)
   have ec:cells.lookup n=some c:=ec
   rw[ec,oX]
   have Xo:∀d,List.lookup x ((n,c)::acc)=some d->cells.lookup x=some d:=λd e=>by
    rw[zm] at e
    cases hx:x==n with
    |true=>rw[hx] at e;cases e;rw[eq_of_beq hx];exact ec
    |false=>rw[hx] at e;exact ha d e
   obtain⟨h1,h2⟩:=Ah cells x r ((n,c)::acc) hr Xo
   refine⟨h1,λh=>h2 ?_⟩
   rcases h with h | ⟨d,h⟩
   .rcases bS.mp h with z | z
    .cases z
     exact .inr ⟨c,by simp[zm]⟩
    .exact .inl z
   .refine .inr ?_
    rw[zm]
    cases hx:x==n with
    |true=>exact⟨c,rfl⟩
    |false=>exact⟨d,h⟩
def ue(x:Str)(ns:List Str)(names outer:List (Str×NameKind)):Bool:=
 names.all (λy=>y.2 != .cell&&(y.2 != .free||outer.lookup y.1==some .cell)&&(y.2 != .local||names.lookup y.1==some .local))&&names.lookup x==some .local&&ns.all (λy=>names.lookup y==some .free&&y != x)&&decide ns.Nodup
theorem mem_of_lookupK:∀{l:List (Str×NameKind)}{x:Str}{k:NameKind},l.lookup x=some k->(x,k)∈l
 |[],_,_,h=>by simp at h
 |(n,k')::r,x,k,h=>by
  rw[zm] at h
  cases hx:x==n with
  |true=>rw[hx] at h;cases h;rw[eq_of_beq hx];exact bL
  |false=>rw[hx] at h;exact cg _ (mem_of_lookupK h)
theorem D6{scope:Scope}{env:Env}{x:Str}:(∀k,(relabel scope env).names.lookup x=some k->scope.names.lookup x=some k\/(k = .cell/\scope.names.lookup x=some .free))/\
  (∀k,scope.names.lookup x=some k->(relabel scope env).names.lookup x=some k\/(k = .free/\(relabel scope env).names.lookup x=some .cell)):=by
 show(∀k,(scope.names.map λ(n,k)=>if (k==NameKind.free&&env.scope.kind == .function&&env.kindOf n==some .cell) then (n,NameKind.cell) else (n,k)).lookup x=some k->_)/\(∀k,_->(scope.names.map λ(n,k)=>if (k==NameKind.free&&env.scope.kind == .function&&env.kindOf n==some .cell) then (n,NameKind.cell) else (n,k)).lookup x=some k\/(_/\(scope.names.map λ(n,k)=>if (k==NameKind.free&&env.scope.kind == .function&&env.kindOf n==some .cell) then (n,NameKind.cell) else (n,k)).lookup x=some .cell))
 generalize scope.names=l
 induction l with
 |nil=>exact⟨λk h=>by simp at h,λk h=>by simp at h⟩
 |cons y r ih=>
  obtain⟨n,k0⟩:=y
  rw[bX]
  cases hc:(k0==NameKind.free&&env.scope.kind == .function&&env.kindOf n==some .cell) with
  |true=>
   simp only[hc,jk,zm]
   have hf:k0 = .free:=by
    rw[dZ,dZ] at hc
    exact m8.mp hc.1.1
   cases hx:x==n with
   |true=>exact⟨λk h=>by cases h;exact .inr ⟨rfl,by rw[hf]⟩,λk h=>by cases h;exact .inr ⟨hf,rfl⟩⟩
   |false=>exact ih
  |false=>
   simp only[hc,gn,fG,zm]
   cases hx:x==n with
   |true=>exact⟨λk h=>by cases h;exact .inl rfl,λk h=>by cases h;exact .inl rfl⟩
   |false=>exact ih
theorem Ai{X:Cx}{pins:List (Addr×Obj)}{σ:List (Option V)}{H:Hp}{s:Shared}{scope:Scope}{x:Str}{ns:List Str}(I:Inv X pins σ H s)(hk:scope.kind = .function)(ho:ue x ns scope.names X.env.scope.names=true) :
  ud X scope (gF X.env.cells scope.names [])/\(∀y∈ns,X.env.scope.names.lookup y=some .cell)/\(∀y∈ns,(relabel scope X.env).names.lookup y=some .cell\/(relabel scope X.env).names.lookup y=some .free)/\scope.names.lookup x=some .local/\(x::ns).Nodup:=by
 unfold ue at ho
 simp only[dZ,jR,vX,bne_iff_ne,m8,Kf] at ho
 obtain⟨⟨⟨h1,h2⟩,h3⟩,h4⟩:=ho
 have nL:∀y∈scope.names,y.2 = .free->∃c,X.env.cells.lookup y.1=some c:=λy m e=>by
  rcases(h1 y m).1.2 with z | z
  .exact absurd e z
  .exact I.ok.has y.1 (.inl z)
 refine⟨⟨Xn nL,λy c e=>(Ah X.env.cells y scope.names [] nL (by simp)).1 c e,λy hy=>?_,hk,λy m=>(h1 y m).1.1,λy m e=>?_⟩,λy m=>?_,λy m=>?_,h2,fF.mpr ⟨λm=>(h3 x m).2 rfl,h4⟩⟩
 .refine(Ah X.env.cells y scope.names [] nL (by simp)).2 (.inl ?_)
  rcases hy with hy | hy
  .rcases D6.1 _ hy with z | ⟨_,z⟩
   .exact absurd rfl (h1 _ (mem_of_lookupK z)).1.1
   .exact mem_of_lookupK z
  .rcases D6.1 _ hy with z | ⟨z,_⟩
   .exact mem_of_lookupK z
   .cases z
 .rcases(h1 y m).2 with z | z
  .exact absurd e z
  .exact z
 .rcases(h1 _ (mem_of_lookupK (h3 y m).1)).1.2 with z | z
  .exact absurd rfl z
  .exact z
 .rcases D6.2 _ (h3 y m).1 with z | ⟨_,z⟩
  .exact .inr z
  .exact .inl z
def dB(js:List Nat)(σ:St):St:=js.map λj=>(σ[j]?).join
theorem Xp{X:Cx}{pins:List (Addr×Obj)}{σ:St}{H:Hp}{s:Shared}{h':Heap}{tk:Nat}{x:Str}{ns:List Str}{js:List Nat}{scope:Scope}{cl:List (Str×Addr)}{fp:List Addr}{m:Str->Option Value}(I:Inv X pins σ H s)
  (L:ud X scope cl) (hj:js.map (λj=>X.N[j]?)=ns.map some) (iE:∀y∈ns,X.env.scope.names.lookup y=some .cell)
  (br:∀y∈ns,(relabel scope X.env).names.lookup y=some .cell\/(relabel scope X.env).names.lookup y=some .free)
  (hf:∀b∈fp,dU X pins H b) (eE:∀b∈fp,b<s.heap.objs.size) (hn:h'.Ns s.heap.objs.size m) (hk:∀b o,s.heap.get? b=some o->h'.get? b=some o) :
  Inv (iD X x ns scope cl fp pins s H) [] (none::dB js σ) H { s with heap:=h',toks:=tk }:=by
 have len:js.length=ns.length:=by have:=eD List.length hj;simpa using this
 refine⟨⟨I.ok.mod,L.kind,I.ok.glob,I.ok.blt,aP _,λy z c h1 h2=>I.ok.inj y z c (L.sub _ _ h1) (L.sub _ _ h2),L.all,λy c z _=>absurd (show false=true from z) cj,I.ok.hd,I.ok.frames,.inl rfl,
  λb hb=>⟨bh (eE b hb),λy c e=>(hf b hb).2.2.2.2.1 y c (L.sub _ _ e)⟩,I.bs,bO I.ok.lO I.sz,λb o e hb=>?_,λb hb z=>?_,I.stack,I.Dj⟩,
  rfl,I.bare,Un.kept hk,⟨m,hn,λi y v e1 e2 _=>?_⟩,λy c e=>?_,I.fresh,λy c e=>I.fI y c (L.sub _ _ e),λp hp=>?_,I.aC.kept hk,?_⟩
 .rcases(hf b hb).2.2.2.1 with z | z
  .exact I.ok.pe b o e z
  .exact absurd (fS (bf (I.ok.bs b o e).1) z) (qH _)
 .rcases bS.mp (I.ph b z) with z | z
  .exact(hf b hb).2.1 z
  .exact(hf b hb).2.2.1 z
 .cases i with
  |zero=>cases(show(some none:Option (Option V))=some (some v) from e2)
  |succ k=>
   have e1:ns[k]? = some y:=e1
   have e2:(dB js σ)[k]? = some (some v):=e2
   unfold dB at e2
   rw[bu] at e2
   cases ej:js[k]? with
   |none=>rw[ej] at e2;cases e2
   |some j=>
    rw[ej] at e2
    have e2:(σ[j]?).join=some v:=dm e2
    have e3:σ[j]? = some (some v):=by
     cases q:σ[j]? with
     |none=>rw[q] at e2;cases e2
     |some o=>rw[q] at e2;rw[show o=some v from e2]
    have e4:X.N[j]? = some y:=by
     have q:=eD (λl=>l[k]?) hj
     simp only[bu,ej,e1,ir] at q
     exact dm q
    have my:y∈ns:=bE e1
    obtain⟨m0,pL,hl⟩:=I.loc
    obtain⟨u,r,lk⟩:=hl j y v e4 e3 (.inr (.inl (iE y my)))
    refine⟨u,r,.inr ⟨br y my,?_⟩⟩
    obtain⟨c,ec⟩:=L.all y (br y my)
    rcases lk with ⟨k1,_⟩ | ⟨_,c',e5,e6⟩
    .have k2:X.env.scope.names.lookup y=some .local:=k1
     rw[iE y my] at k2;cases k2
    .have:=L.sub _ _ ec
     rw[e5] at this;cases this
     obtain⟨o,ho,hd⟩:=e6
     exact⟨c,ec,o,hk _ _ ho,hd⟩
 .obtain⟨v,o,ho,hd⟩:=I.cell y c (L.sub _ _ e)
  exact⟨v,o,hk _ _ ho,hd⟩
 .have hp:p∈X.pn++pins:=by
   have hp:p∈(X.pn++pins)++[]:=hp
   simpa using hp
  obtain⟨e,n,nl,nf,d⟩:=I.pin p hp
  refine⟨hk _ _ e,n,bh (bf e),λz=>?_,d⟩
  rcases bS.mp (I.ph _ z) with z | z
  .exact nl z
  .exact nf z
 .show(none::dB js σ).length=(x::ns).length
  unfold dB
  rw[dg,dg,ax,len]
theorem Inv.Xq{X:Cx}{pins tJ:List (Addr×Obj)}{σ σ':St}{H H':Hp}{s s':Shared}{h2:Heap}{x:Str}{ns:List Str}{scope:Scope}{cl:List (Str×Addr)}{fp:List Addr}(I:Inv X pins σ H s)
  (hf:∀b∈fp,dU X pins H b) (J:Inv (iD X x ns scope cl fp pins s H) tJ σ' H' s') (hk:∀b o,b≠s.heap.objs.size->s'.heap.get? b=some o->h2.get? b=some o) :
  Inv X pins σ H' { s' with heap:=h2 }:=by
 have u:Un (jt X.stack) fp H H' s.heap s'.heap:=J.base
 have ne:∀b o,s.heap.get? b=some o->b≠s.heap.objs.size:=λb o e=>bh (bf e)
 have fr:H' s.heap.objs.size=none:=J.free
 refine I.qW (s':={ s' with heap:=h2 }) (ch:=fp) J.os ⟨λb o e n h1 h2=>hk b o (ne b o e) (u.keep b o e n h1 h2),λb o e n h1 h2=>?_,u.free,λb o e hx=>?_,u.fU,u.jr,u.jY⟩ (λb o e=>?_) J.bare
  (λb hb=>⟨(hf b hb).2.2.2.1,(hf b hb).2.1,(hf b hb).2.2.2.2.1,(hf b hb).2.2.2.2.2⟩)
 .obtain⟨sl,q⟩:=u.slot b o e n h1 h2
  exact⟨sl,hk _ _ (ne b o e) q⟩
 .obtain⟨o',q⟩:=u.there b o e hx
  exact⟨o',hk _ _ (ne b o e) q⟩
 .refine(J.aC b o e).iT (λc v hc q=>hk c v ?_ q) (λ_ q=>q) λ_ _ q=>q
  rcases hc with z | z
  .rw[z];exact aZ e fr
  .exact aZ z fr
def rG(X:Cx)(ifs:List Expr)(t:TT):Prop:=
 ∀(pins:List (Addr×Obj)) (s:Shared) (σ:St) (H:Hp) (Q:Bool->Hp->Prop),Inv X pins σ H s->t σ H Q->
  wpAny (model X.prog X.w) X.A (forIn ifs true λc r=>if r=true then do let ok<-isTrue c X.env (eval c X.env);pure (ForInStep.yield ok) else pure (ForInStep.yield r)) (TP X pins σ Q) X.xe s
def L7:TT:=λ_ H Q=>Q true H
theorem jB{X:Cx}:rG X [] L7:=λ_ _ _ H _ I h=>wpAny_tests_nil ⟨H,I,h⟩
theorem nM{X:Cx}{c:Expr}{t:TT}(h:PT X c t):rG X [c] t:=λpins s σ H Q I q=>wpAny_tests_one (h pins s σ H Q I q)
def Aj(js:List Nat)(tt:TT)(te:TE)(σ:St)(J:It)(H1:Hp)(Q:VK):Prop:=
 ∀D,H1 D=none->∃W:Nat->Nat->Hp->Prop,(∃m,W 0 m (upd H1 D (.lst [])))/\∀i m H,W i m H->
  (J.stop i H/\Q (.ref D) H)\/(J.go i H/\∀x H',J.gv i H x H'->tt (some x::dB js σ) H' λb H2=>if b=true then te (some x::dB js σ) H2 λy H3=>∃ys,H3 D=some (.lst ys)/\ys.length<sizeLine/\∃m',m'<m/\W (i+1) m' (upd H3 D (.lst (ys++[y])))
   else ∃m',m'<m/\W (i+1) m' H2)
def L8(js:List Nat)(wi:TI)(tt:TT)(te:TE):TE:=λσ H Q=>wi σ H λJ H1=>Aj js tt te σ J H1 Q
section
variable{X:Cx}{x:Str}{px:Pos}{iter elt:Expr}{ifs:List Expr}{scope:Scope}{pos:Pos}{ns:List Str}{js:List Nat}{cl:List (Str×Addr)}{wi:TI}{tt:TT}{te:TE}
theorem L9{pins:List (Addr×Obj)}{σ:St}{s₂:Shared}{H₂:Hp}{it:Addr}{fp:List Addr}{tn:Nat->Heap->Prop}{J:It}{Q:VK}{RR:Value->Addr->Result->Shared->Prop}{E:Value->Shared->Prop}
  (L:ud X scope cl) (hc:X.calm=true) (hj:js.map (λj=>X.N[j]?)=ns.map some) (iE:∀y∈ns,X.env.scope.names.lookup y=some .cell)
  (br:∀y∈ns,(relabel scope X.env).names.lookup y=some .cell\/(relabel scope X.env).names.lookup y=some .free) (hx:scope.names.lookup x=some .local) (cZ:(x::ns).Nodup)
  (ht:∀fp pins s H,rG (iD X x ns scope cl fp pins s H) ifs tt) (he:∀fp pins s H,PE (iD X x ns scope cl fp pins s H) elt te)
  (I2:Inv X pins σ H₂ s₂) (T:Turn X.prog X.w X.K (.Name x px) J fp it tn) (gw:tn 0 s₂.heap) (f2:∀b∈fp,dU X pins H₂ b) (hq:Aj js tt te σ J H₂ Q)
  (D7:∀D H3 s',(∃m,s'.heap.Ns (s₂.heap.objs.size+1) m)->H3 (s₂.heap.objs.size+1)=none->(∀h2,(∀b o,b≠s₂.heap.objs.size+1->s'.heap.get? b=some o->h2.get? b=some o)->Inv X pins σ H3 { s' with heap:=h2 })->Q (.ref D) H3->RR (.ref D) (s₂.heap.objs.size+1) (.ok .next) s') :
  wpAny (model X.prog X.w) X.A (newList []) (λacc s₃=>wpAny (model X.prog X.w) X.A (newFunctionEnv scope X.env.globals cl [] X.env.qual none .none (some X.env)) (λwU s₄=>
   codeAny (model X.prog X.w) X.A (.compStart (.ListComp elt [⟨.Name x px,iter,ifs,0⟩] scope pos) 0 (.ref it) acc { wU with scope:=relabel scope X.env }) (RR acc wU.locals) s₄) E s₃) E s₂:=by
 have hD:H₂ s₂.heap.objs.size=none:=I2.fresh
 have I3:Inv X pins σ (upd H₂ s₂.heap.objs.size (.lst [])) { s₂ with heap:=s₂.heap.push { cls := .type "list",data := .seq ([]:List Value).toArray } }:=I2.Aa (ys:=[]) (its:=[]) (t':=s₂.toks) .nil (bC _)
 obtain⟨W,⟨m0,w0⟩,turn⟩:=hq _ hD
 refine tw (wpAny_newFunctionEnv L.cell (by intro y hy;simp at hy) (λh₁ D8 D9=>?_) L.kind)
 have rH:∀b∈fp,b<s₂.heap.objs.size:=λb hb=>let ⟨_,e,_⟩:=T.obj 0 _ gw b hb;bf e
 have wV:(s₂.heap.push { cls := .type "list",data := .seq ([]:List Value).toArray }).objs.size=s₂.heap.objs.size+1:=lJ ..
 have dW:∀b o,(s₂.heap.push { cls := .type "list",data := .seq ([]:List Value).toArray }).get? b=some o->h₁.get? b=some o:=λb o e=>D9.extBut b o (bh (bf e)) (bz _ e)
 have f3:∀b∈fp,dU X pins (upd H₂ s₂.heap.objs.size (.lst [])) b:=λb hb=>⟨by rw[ak (bh (rH b hb))];exact(f2 b hb).1,(f2 b hb).2⟩
 have C0:=Xp (x:=x) (tk:=s₂.toks+([]:List (Str×Value)).length) I3 L hj iE br f3 (λb hb=>fS (rH b hb) (by rw[wV];exact iO _)) D8 dW
 have pC:tn 0 h₁:=T.keep _ _ _ gw λb hb o e=>dW b o (bz _ e)
 generalize wW:({ s₂ with heap:=s₂.heap.push { cls := .type "list",data := .seq ([]:List Value).toArray } }:Shared)=s₃ at *
 have hsz:s₃.heap.objs.size=s₂.heap.objs.size+1:=by rw[<-wW];exact wV
 have loop:∀s₄:Shared,s₄={ s₃ with heap:=h₁,toks:=s₃.toks+([]:List (Str×Value)).length } ->
   codeAny (model X.prog X.w) X.A (.compLoop (.ListComp elt [⟨.Name x px,iter,ifs,0⟩] scope pos) 0 (.ref it) (.ref s₂.heap.objs.size) (compEnvC scope cl s₃.heap.objs.size X.env)) (RR (.ref s₂.heap.objs.size) s₃.heap.objs.size) s₄:=by
  rintro s₄ rfl
  refine L6 (λn s' =>∃i v H',Inv (iD X x ns scope cl fp pins s₃ (upd H₂ s₂.heap.objs.size (.lst []))) [] (v::dB js σ) H' s'/\tn i s'.heap/\(∀b∈fp,H' b=none)/\W i n H') ?_ m0
   ⟨0,none,_,by subst wW;exact C0,pC,λb hb=>(f3 b hb).1,w0⟩
  rintro n s5 ⟨i,v5,H5,J5,nB,rb,w5⟩
  have rJ:∀{H':Hp},(∀b∈fp,H' b=none)->∀b∈fp,dU (iD X x ns scope cl fp pins s₃ (upd H₂ s₂.heap.objs.size (.lst []))) [] H' b:=λhn b hb=>by
   refine⟨hn b hb,?_,?_,.inl hb,λy c e=>(f2 b hb).2.2.2.2.1 y c (L.sub _ _ e),λp hp=>?_⟩
   .show b≠s₃.heap.objs.size
    rw[hsz]
    exact bh (jo (rH b hb))
   .intro z
    rcases bS.mp (I2.ph b z) with z | z
    .exact(f2 b hb).2.1 z
    .exact(f2 b hb).2.2.1 z
   .have hp:p∈(X.pn++pins)++[]:=hp
    exact(f2 b hb).2.2.2.2.2 p (by simpa using hp)
  rcases turn i n H5 w5 with ⟨stop,qn⟩ | ⟨go,step⟩
  .refine aB (T.done (iD X x ns scope cl fp pins s₃ _) rfl rfl rfl hc i [] s5 _ H5 (λ_ _=>False) J5 (rJ rb) nB stop) λr s6 ⟨hr,J6⟩=>?_
   subst hr
   show RR _ _ (.ok .next) s6
   rw[hsz]
   refine D7 _ H5 s6 ?_ (by rw[<-hsz];exact J6.free) (λh2 kU=>?_) qn
   .obtain⟨mm,hn,_⟩:=J6.loc
    exact⟨mm,by rw[<-hsz];exact hn⟩
   .refine Inv.Xq I3 f3 J6 λb o hb e=>kU b o ?_ e
    rw[<-hsz];exact hb
  .refine aB (T.item (iD X x ns scope cl fp pins s₃ _) rfl rfl rfl hc i [] s5 _ H5 (λ_ _=>False) J5 (rJ rb) nB go) λr s6 ⟨u,hr,h6⟩=>?_
   subst hr
   refine aB h6 λ_ s7 ⟨xv,H7,J7,r7,y7,rK,Ea⟩=>?_
   have Eb:=J7.pinned (rJ Ea) (T.obj _ _ rK)
   have hg:PG (iD X x ns scope cl fp pins s₃ (upd H₂ s₂.heap.objs.size (.lst []))) (.Name x px) (tN 0):=bK cZ rfl (.inl (zo hx)) (.inr (zo hx))
   refine aB (hg _ s7 _ H7 xv u (λσ' H'=>σ'=some xv::dB js σ/\H'=H7) Eb r7 ⟨rfl,rfl⟩) λ_ s8 ⟨σ8,H8,J8,e8,Ec⟩=>?_
   subst e8 Ec
   have fin:∀{H':Hp}{s':Shared},Inv (iD X x ns scope cl fp pins s₃ (upd H₂ s₂.heap.objs.size (.lst []))) ([]++tR fp s7.heap) (some xv::dB js σ) H' s'->(∃m',m'<n/\W (i+1) m' H')->
     ∃m',m'<n/\∃i v H',Inv (iD X x ns scope cl fp pins s₃ (upd H₂ s₂.heap.objs.size (.lst []))) [] (v::dB js σ) H' s'/\tn i s'.heap/\(∀b∈fp,H' b=none)/\W i m' H':=λ{H' s'} J9 ⟨m',hm,w9⟩=>by
    refine⟨m',hm,i+1,some xv,H',J9.q8,T.keep _ _ _ rK λb hb o e=>(J9.pin (b,o) (fE _ (fE _ (tS hb e)))).1,λb hb=>?_,w9⟩
    obtain⟨o,e,d⟩:=T.obj _ _ rK b hb
    exact(J9.pin (b,o) (fE _ (fE _ (tS hb e)))).2.1
   refine aB (ht fp pins s₃ _ _ s8 _ H8 _ J8 (step xv H8 y7)) λok s9 ⟨H9,J9,q9⟩=>?_
   cases ok with
   |false=>
    rw[aw cj] at q9 ⊢
    exact fin J9 q9
   |true=>
    rw[aA rfl] at q9 ⊢
    refine aB (he fp pins s₃ _ _ s9 _ H9 _ J9 q9) λyv Ed ⟨y,wX,Ee,Ef,ys,Eg,hz,m',hm,Eh⟩=>?_
    refine aB (gY _ Ed _ wX (.ref s₂.heap.objs.size) [y] _ [yv] (λ_ H'=>H'=upd wX s₂.heap.objs.size (.lst (ys++[y]))) Ee rfl (.cons Ef .nil) ⟨_,ys,y,rfl,rfl,Eg,hz,rfl⟩) λ_ Xr ⟨_,Xt,Ei,_,Ak⟩=>?_
    subst Ak
    exact fin Ei ⟨m',hm,Eh⟩
 have eW:=loop _ rfl
 have e0:(newEnv scope s₃.heap.objs.size X.env.globals cl X.env.qual none .none (some X.env) 0).locals=s₃.heap.objs.size:=rfl
 exact codeAny_compStart_list eW (T.self _ 0 _ _ _ pC eW)
theorem i0(hi:PI X (.Name x px) iter wi)(hc:X.calm=true)(hk:scope.kind = .function)(hj:js.map (λj=>X.N[j]?)=ns.map some)(ho:ue x ns scope.names X.env.scope.names=true)
  (ht:∀fp pins s H,rG (iD X x ns scope (gF X.env.cells scope.names []) fp pins s H) ifs tt) (he:∀fp pins s H,PE (iD X x ns scope (gF X.env.cells scope.names []) fp pins s H) elt te) (hs:∀x,foldedSetIterable iter X.env x=pure x:=by intro _;rfl) :
  PE X (.ListComp elt [⟨.Name x px,iter,ifs,0⟩] scope pos) (L8 js wi tt te):=by
 intro pins s σ H Q I h
 obtain⟨L,iE,br,hx,cZ⟩:=Ai I hk ho
 rw[eval_ListComp]
 refine UK (use:=none) rfl hs L.D5 L.kind L.names (aB (hi pins s σ H _ I h) λv s1 h1=>aB h1 λwC s2 h2=>?_)
 obtain⟨it,fp,tn,J,H2,e,I2,T,gw,f2,hq⟩:=h2
 subst e
 refine L9 (RR:=λacc C=>compPost (model X.prog X.w) X.A X.xe none (EP X pins σ Q) acc C) L hc hj iE br hx cZ ht he I2 T gw f2 hq ?_
 intro D H3 s' ⟨m,hn⟩ nL hI q
 exact⟨m,hn,λh' sb=>⟨.ref D,H3,hI h' λb o hb e=>sb.extBut b o hb e,rfl,q⟩⟩
theorem uf{i:Nat}{y:Str}{py Ma:Pos}(hN:X.N.Nodup)(hy:X.N[i]? = some y)(wY:Loc X.env.scope y)(hi:PI X (.Name x px) iter wi)(hc:X.calm=true)(hk:scope.kind = .function)(hj:js.map (λj=>X.N[j]?)=ns.map some)(ho:ue x ns scope.names X.env.scope.names=true)
  (ht:∀fp pins s H,rG (iD X x ns scope (gF X.env.cells scope.names []) fp pins s H) ifs tt) (he:∀fp pins s H,PE (iD X x ns scope (gF X.env.cells scope.names []) fp pins s H) elt te)
  (Xu:swapsWith (.ListComp elt [⟨.Name x px,iter,ifs,0⟩] scope pos) (some (.Name y py)) Ma.line X.env=pure true:=by rfl) (hs:∀x,foldedSetIterable iter X.env x=pure x:=by intro _;rfl)
  (hf:X.fn y=true\/X.env.scope.names.lookup y=some .local:=by first | exact .inl rfl | exact .inr rfl | assumption) :
  PS X (.Assign [.Name y py] (.ListComp elt [⟨.Name x px,iter,ifs,0⟩] scope pos) Ma) (zT (L8 js wi tt te) (tN i)):=by
 intro pins s σ H D I h
 obtain⟨L,iE,br,hx,cZ⟩:=Ai I hk ho
 rw[exec_Assign_Name_used _ _ _ _ Xu]
 refine ai (wpAny_standAt (ai ?_))
 show wpAny _ X.A (do let _<-comprehension (.ListComp elt [⟨.Name x px,iter,ifs,0⟩] scope pos) scope X.env _ (newList []) false (eval iter X.env) (some (assign (.Name y py) X.env))) _ _ s
 refine ai (aB (UK (use:=some (assign (.Name y py) X.env)) (Q:=λ_ s'=>SP X pins D .next s') rfl hs L.D5 L.kind L.names
  (aB (hi pins s σ H _ I h) λv s1 h1=>aB h1 λwC s2 h2=>?_)) λ_ s' hq=>aM (aM hq))
 obtain⟨it,fp,tn,J,H2,e,I2,T,gw,f2,hq⟩:=h2
 subst e
 refine L9 (Q:=λz H1=>D.nx (σ.set i (some z)) H1) (RR:=λacc C=>compPost (model X.prog X.w) X.A X.xe (some (assign (.Name y py) X.env)) (λ_ s'=>SP X pins D .next s') acc C) L hc hj iE br hx cZ ht he I2 T gw f2 hq ?_
 intro Dd H3 s' ⟨m,hn⟩ nL hI q
 have I3:Inv X pins σ H3 s':=hI s'.heap λ_ _ _ e=>e
 have ug:dU X pins H3 (s2.heap.objs.size+1):=I2.gT (iO _) nL
 obtain⟨o,es,ep,ho,hd,r⟩:=hn
 have I4:Inv X (pins++[(s2.heap.objs.size+1,o)]) σ H3 s':=I3.zO λp hp=>(du.mp hp).elim (λz=>I3.pin p (fE _ z)) λz=>by
  have e:p=(s2.heap.objs.size+1,o):=by simpa using z
  subst e
  exact⟨ho,nL,ug.2.1,ug.2.2.1,λv z=>by rw[hd] at z;cases z⟩
 show wpAny _ X.A (assign (.Name y py) X.env (.ref Dd)) _ _ s'
 refine wpAny_assign_Name (Dn I4 hN hy wY (v := .ref Dd) rfl (λs4 I5=>?_) hf)
 have hp:=I5.pin (s2.heap.objs.size+1,o) (by simp)
 refine⟨m,⟨o,es,ep,hp.1,hd,r⟩,λh' sb=>⟨_,H3,?_,q⟩⟩
 refine(I5.q8 (pl:=[(s2.heap.objs.size+1,o)])).turned (t':=s4.toks) (it:=s2.heap.objs.size+1) (λb o' hb e=>sb.extBut b o' hb e) nL ug.2.1 ug.2.2.2.1 ug.2.2.2.2.1 ug.2.2.2.2.2
end
inductive D where
 |aD
 |bl (b:Bool)
 |int (i:Int)
 |str (x:Str)
 |tup (ds:List D)
 |lst (ds:List D)
mutual
def At(K:PySem.W.Frag)(H:Hp):D->V->Prop
 |.aD,v=>v = .aD
 |.bl b,v=>v = .bl b
 |.int i,v=>v = .int i
 |.str x,v=>v = .str x
 |.tup ds,v=>∃a xs,v = .ref a/\aq K H a xs/\dO K H ds xs
 |.lst ds,v=>∃a xs,v = .ref a/\aj K H a xs/\dO K H ds xs
def dO(K:PySem.W.Frag)(H:Hp):List D->List V->Prop
 |[],xs=>xs=[]
 |d::ds,xs=>∃x r,xs=x::r/\At K H d x/\dO K H ds r
end
mutual
theorem At.mono{K:PySem.W.Frag}{H H':Hp}(s:af H H'):∀(d:D) (v:V),At K H d v->At K H' d v
 |.aD,_,h=>h
 |.bl _,_,h=>h
 |.int _,_,h=>h
 |.str _,_,h=>h
 |.tup ds,_,⟨a,xs,e,q,l⟩=>⟨a,xs,e,s.tup q,dO.mono s ds xs l⟩
 |.lst ds,_,⟨a,xs,e,q,l⟩=>⟨a,xs,e,s.seq q,dO.mono s ds xs l⟩
theorem dO.mono{K:PySem.W.Frag}{H H':Hp}(s:af H H'):∀(ds:List D) (xs:List V),dO K H ds xs->dO K H' ds xs
 |[],_,h=>h
 |d::ds,_,⟨x,r,e,h,t⟩=>⟨x,r,e,At.mono s d x h,dO.mono s ds r t⟩
end
theorem dO.length{K:PySem.W.Frag}{H:Hp}:∀{ds:List D}{xs:List V},dO K H ds xs->xs.length=ds.length
 |[],_,h=>by rw[show _=[] from h];rfl
 |_::ds,_,⟨x,r,e,_,t⟩=>by rw[e,dg,dg,dO.length t]
mutual
def eX:D->D->Bool
 |.aD,.aD=>true
 |.bl a,.bl b=>a==b
 |.bl a,.int b=>(if a then 1 else 0)==b
 |.int a,.bl b=>a==(if b then 1 else 0)
 |.int a,.int b=>a==b
 |.str a,.str b=>a==b
 |.tup a,.tup b=>iF a b
 |.lst a,.lst b=>iF a b
 |_,_=>false
def iF:List D->List D->Bool
 |[],[]=>true
 |a::r,b::t=>eX a b&&iF r t
 |_,_=>false
end
mutual
def dep:D->Nat
 |.tup ds=>fA ds+1
 |.lst ds=>fA ds+1
 |_=>0
def fA:List D->Nat
 |[]=>0
 |d::r=>max (dep d) (fA r)
end
mutual
theorem wZ:∀d:D,eX d d=true
 |.aD=>rfl
 |.bl b=>by simp[eX]
 |.int i=>by simp[eX]
 |.str x=>by simp[eX]
 |.tup ds=>by rw[eX];exact Ej ds
 |.lst ds=>by rw[eX];exact Ej ds
theorem Ej:∀ds:List D,iF ds ds=true
 |[]=>rfl
 |d::r=>by rw[iF,wZ d,Ej r];rfl
end
def nN:List D->List D->List Bool
 |a::r,b::t=>eX a b::nN r t
 |_,_=>[]
theorem nO:∀(ds es:List D),((List.range (min ds.length es.length)).all (λj=>(nN ds es).getD j true)&&ds.length==es.length)=iF ds es
 |[],[]=>rfl
 |[],_::_=>rfl
 |_::_,[]=>by simp[iF]
 |a::r,b::t=>by
  have ih:=nO r t
  have e:min (a::r).length (b::t).length=min r.length t.length+1:=by simp only[dg];omega
  rw[e,Kg,zh,tE,iF,<-ih]
  have e2:((a::r).length==(b::t).length)=(r.length==t.length):=by simp
  rw[e2]
  show(eX a b&&_&&_)=_
  rw[Bool.and_assoc]
  rfl
section
variable{X:Cx}{pins:List (Addr×Obj)}{σ:St}{H:Hp}{s:Shared}
mutual
theorem At.inj(I:Inv X pins σ H s):∀(d e:D) (x:V),At X.K H d x->At X.K H e x->d=e
 |.aD,e,x,h,g=>by
  cases(show x = .aD from h)
  cases e with
  |aD=>rfl
  |tup ds=>obtain⟨a,xs,z,_⟩:=g;cases z
  |lst ds=>obtain⟨a,xs,z,_⟩:=g;cases z
  |bl b=>cases(show V.aD = .bl b from g)
  |int b=>cases(show V.aD = .int b from g)
  |str b=>cases(show V.aD = .str b from g)
 |.bl k,e,x,h,g=>by
  cases(show x = .bl k from h)
  cases e with
  |aD=>cases(show V.bl k = .aD from g)
  |tup ds=>obtain⟨a,xs,z,_⟩:=g;cases z
  |lst ds=>obtain⟨a,xs,z,_⟩:=g;cases z
  |bl b=>cases(show V.bl k = .bl b from g);rfl
  |int b=>cases(show V.bl k = .int b from g)
  |str b=>cases(show V.bl k = .str b from g)
 |.int k,e,x,h,g=>by
  cases(show x = .int k from h)
  cases e with
  |aD=>cases(show V.int k = .aD from g)
  |tup ds=>obtain⟨a,xs,z,_⟩:=g;cases z
  |lst ds=>obtain⟨a,xs,z,_⟩:=g;cases z
  |bl b=>cases(show V.int k = .bl b from g)
  |int b=>cases(show V.int k = .int b from g);rfl
  |str b=>cases(show V.int k = .str b from g)
 |.str k,e,x,h,g=>by
  cases(show x = .str k from h)
  cases e with
  |aD=>cases(show V.str k = .aD from g)
  |tup ds=>obtain⟨a,xs,z,_⟩:=g;cases z
  |lst ds=>obtain⟨a,xs,z,_⟩:=g;cases z
  |bl b=>cases(show V.str k = .bl b from g)
  |int b=>cases(show V.str k = .int b from g)
  |str b=>cases(show V.str k = .str b from g);rfl
 |.tup ds,e,x,h,g=>by
  obtain⟨a,xs,z,q,l⟩:=h
  subst z
  cases e with
  |aD=>cases(show V.ref a = .aD from g)
  |bl b=>cases(show V.ref a = .bl b from g)
  |int b=>cases(show V.ref a = .int b from g)
  |str b=>cases(show V.ref a = .str b from g)
  |tup es=>
   obtain⟨b,ys,z,q',l'⟩:=g
   cases z
   have e:=I.Dr q q'
   subst e
   rw[dO.inj I ds es xs l l']
  |lst es=>
   obtain⟨b,ys,z,q',l'⟩:=g
   cases z
   obtain⟨_,_,p1,_⟩:=I.tuple q
   obtain⟨_,_,p2,_⟩:=I.list q'
   exact absurd rfl (SeqAt.ne_of_list_tuple p2.isList p1)
 |.lst ds,e,x,h,g=>by
  obtain⟨a,xs,z,q,l⟩:=h
  subst z
  cases e with
  |aD=>cases(show V.ref a = .aD from g)
  |bl b=>cases(show V.ref a = .bl b from g)
  |int b=>cases(show V.ref a = .int b from g)
  |str b=>cases(show V.ref a = .str b from g)
  |lst es=>
   obtain⟨b,ys,z,q',l'⟩:=g
   cases z
   have e:=I.Dp q q'
   subst e
   rw[dO.inj I ds es xs l l']
  |tup es=>
   obtain⟨b,ys,z,q',l'⟩:=g
   cases z
   obtain⟨_,_,p1,_⟩:=I.tuple q'
   obtain⟨_,_,p2,_⟩:=I.list q
   exact absurd rfl (SeqAt.ne_of_list_tuple p2.isList p1)
theorem dO.inj(I:Inv X pins σ H s):∀(ds es:List D) (xs:List V),dO X.K H ds xs->dO X.K H es xs->ds=es
 |[],[],_,_,_=>rfl
 |[],_::_,xs,h,⟨x,r,e,_⟩=>by rw[show xs=[] from h] at e;cases e
 |_::_,[],xs,⟨x,r,e,_⟩,h=>by rw[show xs=[] from h] at e;cases e
 |d::ds,e::es,xs,⟨x,r,z,h,t⟩,⟨y,q,z',h',t'⟩=>by
  subst z
  cases z'
  rw[At.inj I d e x h h',dO.inj I ds es r t t']
end
mutual
theorem Mb(I:Inv X pins σ H s):∀(d e:D) (x y:V) (u v:Value) (A:Around) (n:Nat),dep d<=n->A.units+n<cLine->At X.K H d x->At X.K H e y->RelV x u->RelV y v->SeqAt.EqAt A s u v (eX d e)
 |.tup ds,.tup es,x,y,u,v,A,n,hn,hu,h,g,rx,ry=>by
  by_cases same:x=y
  .subst same
   cases At.inj I _ _ x h g
   rw[wZ]
   obtain⟨a,xs,rfl,_⟩:=h
   cases rx
   cases ry
   exact SeqAt.EqAt.same _
  .obtain⟨a,xs,rfl,q,l⟩:=h
   obtain⟨b,ys,rfl,q',l'⟩:=g
   cases rx
   cases ry
   obtain⟨its,r,p,_⟩:=I.tuple q
   obtain⟨cy,r',p',_⟩:=I.tuple q'
   have hn:fA ds+1<=n:=hn
   have l1:its.length=ds.length:=by rw[<-r.length,l.length]
   have l2:cy.length=es.length:=by rw[<-r'.length,l'.length]
   have R:=SeqAt.RcAt.tuples (A:=A) (s:=s) (e:=λj=>(nN ds es).getD j true) p p' (by omega) λj h1 h2=>by
    have fZ:j<its.length:=by simpa using h1
    have iG:j<cy.length:=by simpa using h2
    have:=rL I ds es xs ys its cy A.in1 (n - 1) (by omega) (by show A.units+1+(n - 1)<cLine;omega) l l' r r' j fZ iG
    simpa using this
   have E:=SeqAt.EqAt.of_refs (λz=>same (by rw[z])) R
   rw[bc,bc,l1,l2,nO] at E
   exact E
 |.lst ds,.lst es,x,y,u,v,A,n,hn,hu,h,g,rx,ry=>by
  by_cases same:x=y
  .subst same
   cases At.inj I _ _ x h g
   rw[wZ]
   obtain⟨a,xs,rfl,_⟩:=h
   cases rx
   cases ry
   exact SeqAt.EqAt.same _
  .obtain⟨a,xs,rfl,q,l⟩:=h
   obtain⟨b,ys,rfl,q',l'⟩:=g
   cases rx
   cases ry
   obtain⟨its,r,p,_⟩:=I.list q
   obtain⟨cy,r',p',_⟩:=I.list q'
   have hn:fA ds+1<=n:=hn
   have l1:its.length=ds.length:=by rw[<-r.length,l.length]
   have l2:cy.length=es.length:=by rw[<-r'.length,l'.length]
   refine SeqAt.EqAt.of_refs (λz=>same (by rw[z])) ?_
   show SeqAt.RcAt A s (.ref a) (.ref b) (iF ds es)
   rw[<-nO ds es]
   by_cases hl:ds.length=es.length
   .have R:=SeqAt.RcAt.lists (A:=A) (s:=s) (e:=λj=>(nN ds es).getD j true) p.isList p'.isList (by rw[bc,bc,l1,l2,hl]) (by omega) λj h1 h2=>by
     have fZ:j<its.length:=by simpa using h1
     have iG:j<cy.length:=by simpa using h2
     have:=rL I ds es xs ys its cy A.in1 (n - 1) (by omega) (by show A.units+1+(n - 1)<cLine;omega) l l' r r' j fZ iG
     simpa using this
    rw[bc,l1] at R
    rw[<-hl,Nat.min_self,Kh,vY]
    exact R
   .have R:=SeqAt.RcAt.lists_lengths (A:=A) (s:=s) p.isList p'.isList (by rw[bc,bc,l1,l2];simpa using hl) (by omega)
    rw[show(ds.length==es.length)=false by simpa using hl,ni]
    exact R
 |.tup ds,.lst es,x,y,u,v,A,n,hn,hu,h,g,rx,ry=>by
  obtain⟨a,xs,rfl,q,l⟩:=h
  obtain⟨b,ys,rfl,q',l'⟩:=g
  cases rx
  cases ry
  obtain⟨its,r,p,_⟩:=I.tuple q
  obtain⟨cy,r',p',_⟩:=I.list q'
  exact SeqAt.EqAt.tuple_list p p'.isList (by omega)
 |.lst ds,.tup es,x,y,u,v,A,n,hn,hu,h,g,rx,ry=>by
  obtain⟨a,xs,rfl,q,l⟩:=h
  obtain⟨b,ys,rfl,q',l'⟩:=g
  cases rx
  cases ry
  obtain⟨its,r,p,_⟩:=I.list q
  obtain⟨cy,r',p',_⟩:=I.tuple q'
  exact SeqAt.EqAt.list_tuple p.isList p' (by omega)
 |.aD,.aD,x,y,u,v,A,n,hn,hu,h,g,rx,ry=>by cases(show x=_ from h);cases(show y=_ from g);exact gD rx ry rfl rfl
 |.aD,.bl _,x,y,u,v,A,n,hn,hu,h,g,rx,ry=>by cases(show x=_ from h);cases(show y=_ from g);exact gD rx ry rfl rfl
 |.aD,.int _,x,y,u,v,A,n,hn,hu,h,g,rx,ry=>by cases(show x=_ from h);cases(show y=_ from g);exact gD rx ry rfl rfl
 |.aD,.str _,x,y,u,v,A,n,hn,hu,h,g,rx,ry=>by cases(show x=_ from h);cases(show y=_ from g);exact gD rx ry rfl rfl
 |.bl _,.aD,x,y,u,v,A,n,hn,hu,h,g,rx,ry=>by cases(show x=_ from h);cases(show y=_ from g);exact gD rx ry rfl rfl
 |.bl _,.bl _,x,y,u,v,A,n,hn,hu,h,g,rx,ry=>by cases(show x=_ from h);cases(show y=_ from g);exact gD rx ry rfl rfl
 |.bl _,.int _,x,y,u,v,A,n,hn,hu,h,g,rx,ry=>by cases(show x=_ from h);cases(show y=_ from g);exact gD rx ry rfl rfl
 |.bl _,.str _,x,y,u,v,A,n,hn,hu,h,g,rx,ry=>by cases(show x=_ from h);cases(show y=_ from g);exact gD rx ry rfl rfl
 |.int _,.aD,x,y,u,v,A,n,hn,hu,h,g,rx,ry=>by cases(show x=_ from h);cases(show y=_ from g);exact gD rx ry rfl rfl
 |.int _,.bl _,x,y,u,v,A,n,hn,hu,h,g,rx,ry=>by cases(show x=_ from h);cases(show y=_ from g);exact gD rx ry rfl rfl
 |.int _,.int _,x,y,u,v,A,n,hn,hu,h,g,rx,ry=>by cases(show x=_ from h);cases(show y=_ from g);exact gD rx ry rfl rfl
 |.int _,.str _,x,y,u,v,A,n,hn,hu,h,g,rx,ry=>by cases(show x=_ from h);cases(show y=_ from g);exact gD rx ry rfl rfl
 |.str _,.aD,x,y,u,v,A,n,hn,hu,h,g,rx,ry=>by cases(show x=_ from h);cases(show y=_ from g);exact gD rx ry rfl rfl
 |.str _,.bl _,x,y,u,v,A,n,hn,hu,h,g,rx,ry=>by cases(show x=_ from h);cases(show y=_ from g);exact gD rx ry rfl rfl
 |.str _,.int _,x,y,u,v,A,n,hn,hu,h,g,rx,ry=>by cases(show x=_ from h);cases(show y=_ from g);exact gD rx ry rfl rfl
 |.str _,.str _,x,y,u,v,A,n,hn,hu,h,g,rx,ry=>by cases(show x=_ from h);cases(show y=_ from g);exact gD rx ry rfl rfl
 |.tup ds,.aD,x,y,u,v,A,n,hn,hu,⟨a,xs,z,q,l⟩,g,rx,ry=>by subst z;cases rx;cases(show y=_ from g);cases ry;obtain⟨its,r,p,_⟩:=I.tuple q;exact SeqAt.EqAt.tuple_none p (by omega)
 |.tup ds,.bl _,x,y,u,v,A,n,hn,hu,⟨a,xs,z,q,l⟩,g,rx,ry=>by subst z;cases rx;cases(show y=_ from g);cases ry;obtain⟨its,r,p,_⟩:=I.tuple q;exact SeqAt.EqAt.tuple_bool _ p (by omega)
 |.tup ds,.int _,x,y,u,v,A,n,hn,hu,⟨a,xs,z,q,l⟩,g,rx,ry=>by subst z;cases rx;cases(show y=_ from g);obtain⟨t,rfl⟩:=ry;obtain⟨its,r,p,_⟩:=I.tuple q;exact SeqAt.EqAt.tuple_int _ _ p (by omega)
 |.tup ds,.str _,x,y,u,v,A,n,hn,hu,⟨a,xs,z,q,l⟩,g,rx,ry=>by subst z;cases rx;cases(show y=_ from g);obtain⟨t,rfl⟩:=ry;obtain⟨its,r,p,_⟩:=I.tuple q;exact SeqAt.EqAt.tuple_str _ _ p (by omega)
 |.lst ds,.aD,x,y,u,v,A,n,hn,hu,⟨a,xs,z,q,l⟩,g,rx,ry=>by subst z;cases rx;cases(show y=_ from g);cases ry;obtain⟨its,r,p,_⟩:=I.list q;exact SeqAt.EqAt.list_none p.isList (by omega)
 |.lst ds,.bl _,x,y,u,v,A,n,hn,hu,⟨a,xs,z,q,l⟩,g,rx,ry=>by subst z;cases rx;cases(show y=_ from g);cases ry;obtain⟨its,r,p,_⟩:=I.list q;exact SeqAt.EqAt.list_bool _ p.isList (by omega)
 |.lst ds,.int _,x,y,u,v,A,n,hn,hu,⟨a,xs,z,q,l⟩,g,rx,ry=>by subst z;cases rx;cases(show y=_ from g);obtain⟨t,rfl⟩:=ry;obtain⟨its,r,p,_⟩:=I.list q;exact SeqAt.EqAt.list_int _ _ p.isList (by omega)
 |.lst ds,.str _,x,y,u,v,A,n,hn,hu,⟨a,xs,z,q,l⟩,g,rx,ry=>by subst z;cases rx;cases(show y=_ from g);obtain⟨t,rfl⟩:=ry;obtain⟨its,r,p,_⟩:=I.list q;exact SeqAt.EqAt.list_str _ _ p.isList (by omega)
 |.aD,.tup ds,x,y,u,v,A,n,hn,hu,g,⟨a,xs,z,q,l⟩,rx,ry=>by subst z;cases ry;cases(show x=_ from g);cases rx;obtain⟨its,r,p,_⟩:=I.tuple q;exact SeqAt.EqAt.none_tuple p (by omega)
 |.bl _,.tup ds,x,y,u,v,A,n,hn,hu,g,⟨a,xs,z,q,l⟩,rx,ry=>by subst z;cases ry;cases(show x=_ from g);cases rx;obtain⟨its,r,p,_⟩:=I.tuple q;exact SeqAt.EqAt.bool_tuple _ p (by omega)
 |.int _,.tup ds,x,y,u,v,A,n,hn,hu,g,⟨a,xs,z,q,l⟩,rx,ry=>by subst z;cases ry;cases(show x=_ from g);obtain⟨t,rfl⟩:=rx;obtain⟨its,r,p,_⟩:=I.tuple q;exact SeqAt.EqAt.int_tuple _ _ p (by omega)
 |.str _,.tup ds,x,y,u,v,A,n,hn,hu,g,⟨a,xs,z,q,l⟩,rx,ry=>by subst z;cases ry;cases(show x=_ from g);obtain⟨t,rfl⟩:=rx;obtain⟨its,r,p,_⟩:=I.tuple q;exact SeqAt.EqAt.str_tuple _ _ p (by omega)
 |.aD,.lst ds,x,y,u,v,A,n,hn,hu,g,⟨a,xs,z,q,l⟩,rx,ry=>by subst z;cases ry;cases(show x=_ from g);cases rx;obtain⟨its,r,p,_⟩:=I.list q;exact SeqAt.EqAt.none_list p.isList (by omega)
 |.bl _,.lst ds,x,y,u,v,A,n,hn,hu,g,⟨a,xs,z,q,l⟩,rx,ry=>by subst z;cases ry;cases(show x=_ from g);cases rx;obtain⟨its,r,p,_⟩:=I.list q;exact SeqAt.EqAt.bool_list _ p.isList (by omega)
 |.int _,.lst ds,x,y,u,v,A,n,hn,hu,g,⟨a,xs,z,q,l⟩,rx,ry=>by subst z;cases ry;cases(show x=_ from g);obtain⟨t,rfl⟩:=rx;obtain⟨its,r,p,_⟩:=I.list q;exact SeqAt.EqAt.int_list _ _ p.isList (by omega)
 |.str _,.lst ds,x,y,u,v,A,n,hn,hu,g,⟨a,xs,z,q,l⟩,rx,ry=>by subst z;cases ry;cases(show x=_ from g);obtain⟨t,rfl⟩:=rx;obtain⟨its,r,p,_⟩:=I.list q;exact SeqAt.EqAt.str_list _ _ p.isList (by omega)
theorem rL(I:Inv X pins σ H s):∀(ds es:List D) (xs ys:List V) (us vs:List Value) (A:Around) (n:Nat),fA ds<=n->A.units+n<cLine->dO X.K H ds xs->dO X.K H es ys->Vals xs us->Vals ys vs->
  ∀(j:Nat) (h1:j<us.length) (h2:j<vs.length),SeqAt.EqAt A s us[j] vs[j] ((nN ds es).getD j true)
 |[],es,xs,ys,us,vs,A,n,hn,hu,h,g,r,r',j,h1,h2=>by
  rw[show xs=[] from h] at r
  cases r
  cases h1
 |d::ds,[],xs,ys,us,vs,A,n,hn,hu,h,g,r,r',j,h1,h2=>by
  rw[show ys=[] from g] at r'
  cases r'
  cases h2
 |d::ds,e::es,xs,ys,us,vs,A,n,hn,hu,⟨x,q,z,h,t⟩,⟨y,q',z',h',t'⟩,r,r',j,h1,h2=>by
  subst z
  subst z'
  have hn:max (dep d) (fA ds)<=n:=hn
  cases r with
  |cons r0 r1=>
   cases r' with
   |cons Xv Xw=>
    cases j with
    |zero=>exact Mb I d e x y _ _ A n (by omega) hu h h' r0 Xv
    |succ j=>exact rL I ds es q q' _ _ A n (by omega) hu t t' r1 Xw j (Nat.lt_of_succ_lt_succ h1) (Nat.lt_of_succ_lt_succ h2)
end
def Mc(K:PySem.W.Frag)(neg:Bool):R2:=λx y H Q=>∃d e,At K H d x/\At K H e y/\((∃ds es,d = .tup ds/\e = .tup es)\/(∃ds es,d = .lst ds/\e = .lst es))/\dep d<=50/\Q (.bl (if neg then !eX d e else eX d e)) H
end
section
variable{X:Cx}
theorem Xx(hu:X.A.units+64<cLine):cN X (compareOp .Eq) (Mc X.K false):=by
 intro pins s σ H x y v u Q I rx ry h
 obtain⟨d,e,h1,h2,hk,hd,q⟩:=h
 have q:Q (.bl (eX d e)) H:=q
 rcases hk with ⟨ds,es,rfl,rfl⟩ | ⟨ds,es,rfl,rfl⟩
 .obtain⟨a,xs,rfl,p,l⟩:=h1
  obtain⟨b,ys,rfl,p',l'⟩:=h2
  cases rx
  cases ry
  obtain⟨its,r,t,_⟩:=I.tuple p
  obtain⟨cy,r',t',_⟩:=I.tuple p'
  have hd:fA ds+1<=50:=hd
  have l1:its.length=ds.length:=by rw[<-r.length,l.length]
  have l2:cy.length=es.length:=by rw[<-r'.length,l'.length]
  refine SeqAt.eq_tupleAt (e:=λj=>(nN ds es).getD j true) t t' (by omega) (λj h1 h2=>?_) ⟨.bl (iF ds es),H,I,?_,q⟩
  .have fZ:j<its.length:=by simpa using h1
   have iG:j<cy.length:=by simpa using h2
   have:=rL I ds es xs ys its cy X.A.in1 49 (by omega) (by show X.A.units+1+49<cLine;omega) l l' r r' j fZ iG
   simpa using this
  .show Value.bool _=Value.bool _
   rw[bc,bc,l1,l2,nO]
 .obtain⟨a,xs,rfl,p,l⟩:=h1
  obtain⟨b,ys,rfl,p',l'⟩:=h2
  cases rx
  cases ry
  obtain⟨its,r,t,_⟩:=I.list p
  obtain⟨cy,r',t',_⟩:=I.list p'
  have hd:fA ds+1<=50:=hd
  have l1:its.length=ds.length:=by rw[<-r.length,l.length]
  have l2:cy.length=es.length:=by rw[<-r'.length,l'.length]
  by_cases hl:ds.length=es.length
  .refine SeqAt.eq_listAt (e:=λj=>(nN ds es).getD j true) t.isList t'.isList (by rw[bc,bc,l1,l2,hl]) (by omega) (λj h1 h2=>?_) ⟨.bl (iF ds es),H,I,?_,q⟩
   .have fZ:j<its.length:=by simpa using h1
    have iG:j<cy.length:=by simpa using h2
    have:=rL I ds es xs ys its cy X.A.in1 49 (by omega) (by show X.A.units+1+49<cLine;omega) l l' r r' j fZ iG
    simpa using this
   .show Value.bool _=Value.bool _
    rw[bc,l1,<-nO ds es,<-hl,Nat.min_self,Kh,vY]
  .refine SeqAt.eq_list_lengthsAt t.isList t'.isList (by rw[bc,bc,l1,l2];simpa using hl) (by omega) ⟨.bl (iF ds es),H,I,?_,q⟩
   show Value.bool _=Value.bool _
   rw[<-nO ds es,show(ds.length==es.length)=false by simpa using hl,ni]
theorem Md(hu:X.A.units+64<cLine):cN X (compareOp .NotEq) (Mc X.K true):=by
 intro pins s σ H x y v u Q I rx ry h
 obtain⟨d,e,h1,h2,hk,hd,q⟩:=h
 have q:Q (.bl (!eX d e)) H:=q
 rcases hk with ⟨ds,es,rfl,rfl⟩ | ⟨ds,es,rfl,rfl⟩
 .obtain⟨a,xs,rfl,p,l⟩:=h1
  obtain⟨b,ys,rfl,p',l'⟩:=h2
  cases rx
  cases ry
  obtain⟨its,r,t,_⟩:=I.tuple p
  obtain⟨cy,r',t',_⟩:=I.tuple p'
  have hd:fA ds+1<=50:=hd
  have l1:its.length=ds.length:=by rw[<-r.length,l.length]
  have l2:cy.length=es.length:=by rw[<-r'.length,l'.length]
  refine SeqAt.RcNeAt.tuples (e:=λj=>(nN ds es).getD j true) t t' (by omega) (λj h1 h2=>?_) X.prog X.w X.xe _ ⟨.bl (!iF ds es),H,I,?_,q⟩
  .have fZ:j<its.length:=by simpa using h1
   have iG:j<cy.length:=by simpa using h2
   have:=rL I ds es xs ys its cy X.A.in1 49 (by omega) (by show X.A.units+1+49<cLine;omega) l l' r r' j fZ iG
   simpa using this
  .show Value.bool _=Value.bool _
   rw[bc,bc,l1,l2,nO]
 .obtain⟨a,xs,rfl,p,l⟩:=h1
  obtain⟨b,ys,rfl,p',l'⟩:=h2
  cases rx
  cases ry
  obtain⟨its,r,t,_⟩:=I.list p
  obtain⟨cy,r',t',_⟩:=I.list p'
  have hd:fA ds+1<=50:=hd
  have l1:its.length=ds.length:=by rw[<-r.length,l.length]
  have l2:cy.length=es.length:=by rw[<-r'.length,l'.length]
  by_cases hl:ds.length=es.length
  .refine SeqAt.RcNeAt.lists (e:=λj=>(nN ds es).getD j true) t.isList t'.isList (by rw[bc,bc,l1,l2,hl]) (by omega) (λj h1 h2=>?_) X.prog X.w X.xe _ ⟨.bl (!iF ds es),H,I,?_,q⟩
   .have fZ:j<its.length:=by simpa using h1
    have iG:j<cy.length:=by simpa using h2
    have:=rL I ds es xs ys its cy X.A.in1 49 (by omega) (by show X.A.units+1+49<cLine;omega) l l' r r' j fZ iG
    simpa using this
   .show Value.bool _=Value.bool _
    rw[bc,l1,<-nO ds es,<-hl,Nat.min_self,Kh,vY]
  .refine SeqAt.RcNeAt.lists_lengths t.isList t'.isList (by rw[bc,bc,l1,l2];simpa using hl) (by omega) X.prog X.w X.xe _ ⟨.bl (!iF ds es),H,I,?_,q⟩
   show Value.bool _=Value.bool _
   rw[<-nO ds es,show(ds.length==es.length)=false by simpa using hl,ni]
   rfl
end
theorem bZ:bootBuiltins "len"=some (.builtin "len"):=by decide +kernel
theorem Me:bootBuiltins "all"=some (.builtin "all"):=by decide +kernel
theorem lZ:bootBuiltins "isinstance"=some (.builtin "isinstance"):=by decide +kernel
theorem w6:bootBuiltins "sorted"=some (.builtin "sorted"):=by decide +kernel
theorem rM:bootBuiltins "tuple"=some (.type "tuple"):=by decide +kernel
theorem nP:bootBuiltins "list"=some (.type "list"):=by decide +kernel
theorem Mf:bootBuiltins "str"=some (.type "str"):=by decide +kernel
theorem Xy:bootBuiltins "int"=some (.type "int"):=by decide +kernel
theorem Xz:bootBuiltins "bool"=some (.type "bool"):=by decide +kernel
structure Fn(P:Program)(w:World)(K:PySem.W.Frag)(mg:Str->Option Value)(base:Heap)(x:Str)(k:Nat)(sp:Sp):Prop where
 ex:∃(f:Addr) (fd:FuncData) (ps:List Str),aS P w K mg base aY k f fd ps sp/\mg x=some (.ref f)/\PySem.W.keepIn K (.ref f)=true/\Binds K fd ps []
section
variable{X:Cx}{x:Str}{p pos:Pos}{e:Expr}{es:List Expr}{t:TA}{sp:Sp}{k:Nat}
theorem ba(F:Fn X.prog X.w X.K X.mg X.base x k sp)(hr:cw k X.A)(hg:Gl X x)(ha:PA X (e::es) t)(fK:(x==("__debug__":Str))=false:=by decide)
  (he:starEach (e::es) X.env=(false,eval e X.env)::starEach es X.env:=by rfl) (hpl:(backTo pos (starEach es X.env)).any (·.1)=false:=by rfl):PE X (.Call (.Name x p) (e::es) [] pos) (DE sp [] E0 t):=by
 obtain⟨f,fd,ps,G,hm,hk,hb⟩:=F.ex
 exact Ll G hr hg hm hk hb .nil uc ha fK he hpl
end
def Cn(mg:Str->Option Value)(x:Str)(v:V):Prop := ∃u,mg x=some u/\RelV v u
theorem kW{X:Cx}{x:Str}{v:V}{pos:Pos}(h:Cn X.mg x v)(hg:Gl X x)(hd:(x==("__debug__":Str))=false:=by decide):PE X (.Name x pos) (tC v):=by
 obtain⟨u,hm,r⟩:=h
 exact Vg hg hm r hd
theorem pM{X:Cx}:fW X (.builtin "isinstance") (λxs H Q=>∃x c t b,(xs=[x,.ty c]/\gU X.K H x t/\PySem.W.kitOne X.K t (.type c)=some b)/\Q (.bl b) H):=by
 intro pins s σ H xs us Q I r h
 obtain⟨x,c,t,b,⟨rfl,ty,e⟩,q⟩:=h
 obtain⟨u,v,rfl,ru,rv⟩:=vals2 r
 cases rv
 exact Lj I ru ty e λtk=>⟨.bl b,H,I.tok tk,rfl,q⟩
theorem XA{K:PySem.W.Frag}{t:String}:PySem.W.kitOne K (.type t) (.type t)=some true:=by
 unfold PySem.W.kitOne
 rw[aA (by simp)]
theorem Mg{X:Cx}(hc:X.calm=true):fW X (.builtin "all") (λxs H Q=>∃(a:Addr) (bs:List Bool),xs=[.ref a]/\aj X.K H a (bs.map V.bl)/\Q (.bl (bs.all id)) H):=by
 intro pins s σ H xs us Q I r h
 obtain⟨l,bs,rfl,hq,q⟩:=h
 obtain⟨u,rfl,ru⟩:=vals1 r
 cases ru
 obtain⟨its,rv,pl,hz⟩:=I.list hq
 have hl:=pl.isList
 have hh:X.A.handled=none:=I.ok.hd hc
 have aJ:l<s.heap.objs.size:=by obtain⟨_,e,_⟩:=hl;exact bf e
 have hlen:its.length=bs.length:=by rw[<-rv.length,ax]
 refine call_all_walk (tf hl ?_)
 refine⟨s.heap.objs.size,[s.heap.objs.size,l],[s.heap.objs.size],its.toArray.size,_,_,λi=>(bs[i]?).getD true,rfl,zr (A:=X.A.in1) hh _ l (bh aJ) its.toArray,
  ⟨⟨_,cB _ rfl,rfl,rfl⟩,hl.push _⟩,λi v s' Q' E' hP hQ=>?_,λh' tk hk=>?_⟩
 .have hv:its[i]? = some v:=by simpa using hP
  have hi:i<bs.length:=by rw[<-hlen];exact(cn.mp hv).1
  obtain⟨u',e1,e2⟩:=rv.get (i:=i) (x:=V.bl bs[i]) (by simp[hi])
  rw[hv] at e1
  cases e1
  have e2:v=Value.bool bs[i]:=e2
  subst e2
  simp only[bg hi,oX] at hQ
  exact oR hQ
 .have e:((List.range its.toArray.size).all λi=>(bs[i]?).getD true)=bs.all id:=by
   rw[bc,hlen];exact LSm.range_all bs
  rw[e]
  exact⟨.bl _,H,I.kept λb o e=>LSm.kept_iter hk b o e,rfl,q⟩
theorem Ek{xs:List Str}:∀{us:List Value},Vals (xs.map V.str) us->StrsAre us xs:=by
 induction xs with
 |nil=>intro us h;cases h;exact .nil
 |cons x r ih=>
  intro us h
  cases h with
  |cons q t=>
   obtain⟨t',rfl⟩:=q
   exact .cons _ _ (ih t)
def rJoin(K:PySem.W.Frag):V->List V->Hp->VK->Prop:=λx vs H Q=>∃y a zs,x = .str y/\vs=[.ref a]/\(aj K H a (zs.map V.str)\/aq K H a (zs.map V.str))/\(zs.map (·.length)).sum+zs.length*y.length<=16777216/\Q (.str (Str.join y zs)) H
theorem Al{X:Cx}:z9 X "str.join" (rJoin X.K):=by
 intro pins s σ H x vs v us Q I rx rv h
 obtain⟨y,a,zs,rfl,rfl,hq,hz,q⟩:=h
 obtain⟨t,rfl⟩:=rx
 obtain⟨u,rfl,ru⟩:=rv.one
 cases ru
 have e:Txt.join y zs=Str.join y zs:=StrLaws.glued_eq_join y zs
 rcases hq with hq | hq
 .obtain⟨its,r,pl,_⟩:=I.list hq
  refine join_list pl.isList (by simpa using Ek r) hz λt' k=>⟨.str (Str.join y zs),H,I.tok k,⟨t',by rw[e]⟩,q⟩
 .obtain⟨its,r,pl,_⟩:=I.tuple hq
  refine join_tuple pl (by simpa using Ek r) hz λt' k=>⟨.str (Str.join y zs),H,I.tok k,⟨t',by rw[e]⟩,q⟩
def El(x:Str):It:=⟨λi _=>i<x.cps.size,λi H v H'=>H'=H/\∃c,x.cps.toList[i]? = some c/\v = .str ⟨#[c]⟩,λi _=>i=x.cps.size⟩
theorem XB(x:Str):["enumerate","zip","dict_itemiterator","dict_reverseitemiterator","odict_iterator","itertools.zip_longest","itertools.pairwise"].contains (strIterType x)=false:=by
 unfold strIterType
 split <;> decide
theorem Mh{prog:Program}{w:World}{A:Around}(hh:A.handled=none)(I:Addr)(x:Str)(t:Tok):Walks prog w A I [I] [I] x.cps.size (SignAt x) (λi h=>h.IsStrIter I (strIterType x) x t i):=by
 unfold strIterType
 split
 .exact Walks.strAscii hh I x t
 .exact Walks.strWide hh I x t
theorem XC{prog:Program}{w:World}{A:Around}{I:Addr}{x:Str}{t:Tok}{i:Nat}{s:Shared}{Q:Value->Shared->Prop}{E:Value->Shared->Prop}(h:s.heap.IsStrIter I (strIterType x) x t i)(q:Q (.ref I) s):wpAny (model prog w) A (pyIter (.ref I)) Q E s:=by
 unfold strIterType at h
 split at h
 .exact wpAny_pyIter_striter_ascii h q
 .exact wpAny_pyIter_striter_wide h q
theorem XD{P:Program}{w:World}{K:PySem.W.Frag}{tg:Expr}(x:Str)(t:Tok)(it:Addr):Turn P w K tg (El x) [it] it (λi h=>h.IsStrIter it (strIterType x) x t i) where
 mem:=by simp
 obj:=λi h st b hb=>by
  have e:b=it:=by simpa using hb
  subst e
  obtain⟨o,e,c,d⟩:=st
  exact⟨o,e,λv z=>by rw[d] at z;cases z⟩
 keep:=λi h h' st k=>let ⟨o,ho,r⟩:=st;⟨o,k it (by simp) o ho,r⟩
 item:=by
  intro X hP hw hK hc i pins s σ H E I hf st hg
  subst hP hw hK
  obtain⟨f0,f1,f2,f3,f4,f5⟩:=hf it (by simp)
  have W:=Mh (prog:=X.prog) (w:=X.w) (I.ok.hd hc) it x t
  refine W.item i s _ _ hg st λv h' tk hv d8 kk=>?_
  obtain⟨c,u,rN,rfl⟩:=hv
  have I1:Inv X pins σ H { s with heap:=h',toks:=tk }:=I.turned (λb o hb e=>kk b o (by simpa using hb) e) f0 f1 f3 f4 f5
  obtain⟨o,e1,e2,e3⟩:=id d8
  refine⟨_,rfl,tP (s:={ s with heap:=h',toks:=tk }) (n:=strIterType x) e1 e2 e3 (XB x) ⟨.str ⟨#[c]⟩,H,I1,⟨u,rfl⟩,⟨rfl,c,by simpa using rN,rfl⟩,d8,λb hb=>(hf b hb).1⟩⟩
 done:=by
  intro X hP hw hK hc i pins s σ H E I hf st hg
  subst hP hw hK
  obtain⟨f0,f1,f2,f3,f4,f5⟩:=hf it (by simp)
  have hg:i=x.cps.size:=hg
  subst hg
  have W:=Mh (prog:=X.prog) (w:=X.w) (I.ok.hd hc) it x t
  exact W.done s _ _ st λh' tk kk=>⟨rfl,I.turned (λb o hb e=>kk b o (by simpa using hb) e) f0 f1 f3 f4 f5⟩
 self:=λ_ _ _ _ _ st h=>XC st h
def XE(tl:TE):TI:=λσ H R=>tl σ H λx H1=>∃z,x = .str z/\R (El z) H1
theorem XF{X:Cx}{tg l:Expr}{tl:TE}(hl:PE X l tl):PI X tg l (XE tl):=by
 intro pins s σ H R I h
 refine aB (hl pins s σ H _ I h) λv s1 ⟨x,H1,I1,r1,q1⟩=>?_
 obtain⟨z,e,q⟩:=q1
 subst e
 obtain⟨t,rfl⟩:=r1
 refine wpAny_pyIter_strU ?_
 refine⟨s1.heap.objs.size,[s1.heap.objs.size],_,_,H1,rfl,I1.kept (t':=s1.toks) λb o e=>bz _ e,XD z t _,⟨_,cB _ rfl,rfl,rfl⟩,λb hb=>?_,q⟩
 have e:b=s1.heap.objs.size:=by simpa using hb
 subst e
 exact I1.gT (aP _) I1.fresh
structure nQ(J:It)(Ok:Hp->Prop)(vs:List V):Prop where
 go:∀i H,Ok H->i<vs.length->J.go i H
 gv:∀i H x H',Ok H->i<vs.length->J.gv i H x H'->H'=H/\vs[i]? = some x
 stop:∀H,Ok H->J.stop vs.length H
theorem jC{K:PySem.W.Frag}{a:Addr}{xs:List V}:nQ (q0 K a) (λH=>aj K H a xs) xs:=
 ⟨λi H h hi=>⟨xs,xs[i],h,by simp[hi]⟩,λi H x H' h _ y=>⟨y.1,y.2 xs h⟩,λH h=>⟨xs,h,aP _⟩⟩
theorem Em{K:PySem.W.Frag}{a:Addr}{xs:List V}:nQ (tQ K a) (λH=>aq K H a xs) xs:=
 ⟨λi H h hi=>⟨xs,xs[i],h,by simp[hi]⟩,λi H x H' h _ y=>⟨y.1,y.2 xs h⟩,λH h=>⟨xs,h,aP _⟩⟩
theorem Mi{lo:Int}{n:Nat}:nQ (lR lo n) (λ_=>True) ((List.range n).map λ(i:Nat)=>V.int (lo+(i:Int))):=
 ⟨λi H _ hi=>(by simpa using hi:i<n),λi H x H' _ hi y=>⟨y.1,by
  obtain⟨_,e⟩:=y
  subst e
  have hi:i<n:=by simpa using hi
  simp[hi]⟩,λH _=>(by simp:n<=((List.range n).map λ(i:Nat)=>V.int (lo+(i:Int))).length)⟩
theorem XG{x:Str}:nQ (El x) (λ_=>True) (x.cps.toList.map λc=>V.str ⟨#[c]⟩):=
 ⟨λi H _ hi=>(by simpa using hi:i<x.cps.size),λi H v H' _ _ y=>⟨y.1,by
  obtain⟨_,c,e1,e2⟩:=y
  rw[bu,e1,e2]
  all_goals rfl⟩,λH _=>(by simp:(x.cps.toList.map λc=>V.str ⟨#[c]⟩).length=x.cps.size)⟩
theorem XH{J:It}{Ok:Hp->Prop}{vs:List V}{g:TG}{tb:TS}{D:Ends}{σ:St}{H:Hp}(S:nQ J Ok vs)(Pv:Nat->St->Hp->Prop)(h0:Pv 0 σ H)(aC:∀i σ H,i<=vs.length->Pv i σ H->Ok H)
  (hs:∀i x σ H,vs[i]? = some x->Pv i σ H->g x σ H λσ2 H2=>tb { D with nx:=Pv (i+1),ct:=Pv (i+1),bk:=D.nx } σ2 H2) (hd:∀σ H,Pv vs.length σ H->D.nx σ H) :
  ∃W:Nat->Nat->St->Hp->Prop,(∃m,W 0 m σ H)/\∀i m σ H,W i m σ H->
   (J.stop i H/\D.nx σ H)\/(J.go i H/\∃N:St->Hp->Prop,(∀σ' H',N σ' H'->∃m',m'<m/\W (i+1) m' σ' H')/\∀x H',J.gv i H x H'->g x σ H' λσ2 H2=>tb { D with nx:=N,ct:=N,bk:=D.nx } σ2 H2):=by
 refine⟨λi m σ H=>m=vs.length - i/\i<=vs.length/\Pv i σ H,⟨vs.length,by simp,bC _,h0⟩,?_⟩
 rintro i m σ H ⟨rfl,hi,p⟩
 have q:=aC i σ H hi p
 by_cases aJ:i<vs.length
 .refine .inr ⟨S.go i H q aJ,Pv (i+1),λσ' H' p'=>⟨vs.length - (i+1),by omega,rfl,aJ,p'⟩,λx H' y=>?_⟩
  obtain⟨e,yy⟩:=S.gv i H x H' q aJ y
  subst e
  exact hs i x σ _ yy p
 .have e:i=vs.length:=by omega
  subst e
  exact .inl ⟨S.stop H q,hd σ H p⟩
theorem ma{J:It}{Ok:Hp->Prop}{vs:List V}{js:List Nat}{tt:TT}{te:TE}{σ:St}{H1:Hp}{Q:VK}(S:nQ J Ok vs)(hn:vs.length<=10000)(p:Nat->Bool)(F:Addr->Nat->V->Hp->Prop)(aC:∀H,af H1 H->Ok H)
  (mono:∀D i y H H',H1 D=none->(∃o,H D=some (.lst o))->(∀b o,b≠D->H b=some o->H' b=some o)->F D i y H->F D i y H')
  (hs:∀D i x H (Z0:Hp->Prop) (Z:V->Hp->Prop),H1 D=none->vs[i]? = some x->af H1 H->(∃o,H D=some (.lst o))->(∀H2,af H H2->p i=false->Z0 H2)->(∀y H2,af H H2->p i=true->F D i y H2->Z y H2)->
   tt (some x::dB js σ) H λb H2=>if b=true then te (some x::dB js σ) H2 Z else Z0 H2)
  (hd:∀D ys H,H1 D=none->H D=some (.lst ys)->af H1 H->Paired (λi y=>F D i y H) ((List.range vs.length).filter p) ys->Q (.ref D) H):Aj js tt te σ J H1 Q:=by
 intro D hD
 have hz:10000<sizeLine:=by decide
 refine⟨λi m H=>m=vs.length - i/\i<=vs.length/\∃ys,H D=some (.lst ys)/\af H1 H/\Paired (λi y=>F D i y H) ((List.range i).filter p) ys,⟨vs.length,by simp,bC _,[],ar,af.upd hD,.nil⟩,?_⟩
 rintro i m H ⟨rfl,hi,ys,bA,sm,pr⟩
 have q:=aC H sm
 by_cases aJ:i<vs.length
 .refine .inr ⟨S.go i H q aJ,λx H' y=>?_⟩
  obtain⟨e,yy⟩:=S.gv i H x H' q aJ y
  subst e
  have jX:List.range (i+1)=List.range i++[i]:=lK
  have ln:ys.length<=i:=by
   have h1:=pr.length
   have h2:((List.range i).filter p).length<=(List.range i).length:=iQ _ _
   rw[kG] at h2
   omega
  refine hs D i x H' _ _ hD yy sm ⟨ys,bA⟩ (λH2 s2 hp=>?_) (λz H2 s2 hp hF=>?_)
  .refine⟨vs.length - (i+1),by omega,rfl,aJ,ys,s2 _ _ bA,sm.trans s2,?_⟩
   rw[jX,jS,d5,aw (by rw[hp];exact cj),oY,gm]
   exact Paired.bM pr λj z f=>mono D j z H' H2 hD ⟨ys,bA⟩ (λb o _ e=>s2 b o e) f
  .refine⟨ys,s2 _ _ bA,by omega,vs.length - (i+1),by omega,rfl,aJ,ys++[z],ar,(sm.trans s2).j8 hD,?_⟩
   have up:∀b o,b≠D->H2 b=some o->upd H2 D (.lst (ys++[z])) b=some o:=λb o hb e=>by rw[ak hb];exact e
   rw[jX,jS,d5,aA hp,oY]
   refine nj (Paired.bM pr λj z' f=>?_) (mono D i z H2 _ hD ⟨ys,s2 _ _ bA⟩ up hF)
   exact mono D j z' H2 _ hD ⟨ys,s2 _ _ bA⟩ up (mono D j z' H' H2 hD ⟨ys,bA⟩ (λb o _ e=>s2 b o e) f)
 .have e:i=vs.length:=by omega
  subst e
  exact .inl ⟨S.stop H q,hd D ys H hD bA sm pr⟩
theorem comp_map{J:It}{Ok:Hp->Prop}{vs:List V}{js:List Nat}{te:TE}{σ:St}{H1:Hp}{Q:VK}(S:nQ J Ok vs)(hn:vs.length<=10000)(F:Addr->Nat->V->Hp->Prop)(aC:∀H,af H1 H->Ok H)
  (mono:∀D i y H H',H1 D=none->(∃o,H D=some (.lst o))->(∀b o,b≠D->H b=some o->H' b=some o)->F D i y H->F D i y H')
  (hs:∀D i x H (Z:V->Hp->Prop),H1 D=none->vs[i]? = some x->af H1 H->(∃o,H D=some (.lst o))->(∀y H2,af H H2->F D i y H2->Z y H2)->te (some x::dB js σ) H Z)
  (hd:∀D ys H,H1 D=none->H D=some (.lst ys)->af H1 H->Paired (λi y=>F D i y H) (List.range vs.length) ys->Q (.ref D) H):Aj js L7 te σ J H1 Q:=by
 refine ma S hn (λ_=>true) F aC mono (λD i x H Z0 Z h1 h2 h3 h4 _ k1=>bG (B:=Z0 H) (hs D i x H Z h1 h2 h3 h4 λy H2 s f=>k1 y H2 s rfl f)) λD ys H h1 h2 h3 pr=>hd D ys H h1 h2 h3 ?_
 rw[List.filter_eq_self.mpr (λ_ _=>rfl)] at pr
 exact pr
def uh(K:PySem.W.Frag)(a:Addr)(xs:List V):It:=
 ⟨λi H=>aj K H a xs/\i<xs.length,λi H x H' =>∃p v,H p=none/\x = .ref p/\xs[i]? = some v/\H'=upd H p (.tup [.int i,v]),λi H=>aj K H a xs/\i=xs.length⟩
theorem XI{P:Program}{w:World}{K:PySem.W.Frag}{elts:List Expr}{k:Nat}{pos:Pos}(a it e:Addr)(xs:List V)(w8:a≠it)(En:a≠e)(g9:e≠it) :
  Turn P w K (.Tuple elts k pos) (uh K a xs) [e,it] e (λi h=>(∃old,IsEnum h e it i old)/\h.IsListIter it a i) where
 mem:=by simp
 obj:=λi h st b hb=>by
  obtain⟨⟨old,he⟩,o,ho,hc,hd⟩:=st
  rcases bS.mp hb with z | z
  .subst z
   exact⟨_,he,λv z=>by
    have z':Data.fields _=Data.cell v:=z
    cases z'⟩
  .have z:b=it:=by simpa using z
   subst z
   exact⟨o,ho,λv z=>by rw[hd] at z;cases z⟩
 keep:=λi h h' st kk=>by
  obtain⟨⟨old,he⟩,hit⟩:=st
  exact⟨⟨old,kk e (by simp) _ he⟩,hit.at λo q=>kk it (by simp) o q⟩
 item:=by
  intro X hP hw hK hc i pins s σ H E I hf st hg
  subst hP hw hK
  obtain⟨⟨old,he⟩,hit⟩:=st
  obtain⟨hq,aJ⟩:=hg
  obtain⟨its,rv,p,hz⟩:=I.list hq
  have hl:=rv.length
  obtain⟨u0,Eo,Ep⟩:=rv.get (i:=i) (x:=xs[i]) (by simp[aJ])
  have fe:=hf e (by simp)
  have fi:=hf it (by simp)
  refine UL (Draws.list (prog:=X.prog) (w:=X.w) (A:=X.A.in1) (I.ok.hd hc) it a w8 its.toArray) he ⟨hit,p.isList⟩ (by rw[bc];omega) g9 (by simp[g9,bo En]) λx h' tk nR ho kX hT hsz hk=>?_
  have hx:x=u0:=by
   have nR:its.toArray[i]? = some x:=nR
   have:its[i]? = some x:=by simpa using nR
   rw[Eo] at this
   exact(dm this).symm
  subst hx
  have fr:H s.heap.objs.size=none:=I.fresh
  have neT:∀b o,H b=some o->b≠e/\b≠it:=λb o q=>⟨aZ q fe.1,aZ q fi.1⟩
  have I1:Inv X pins σ (upd H s.heap.objs.size (.tup [.int i,xs[i]])) { s with heap:=h',toks:=tk+1 }:=by
   refine I.qW (s':={ s with heap:=h',toks:=tk+1 }) (ch:=[e,it]) rfl ⟨λb o q n _ hx=>hk b o (λz=>hx (by simp[z])) (λz=>hx (by simp[z])) q,λb o q n _ hx=>⟨o.slots,hk b o (λz=>hx (by simp[z])) (λz=>hx (by simp[z])) q⟩,
    λb o q n hx=>by rw[ak (bh (bf q))];exact n,λb o q hx=>⟨o,hk b o (λz=>hx (by simp[z])) (λz=>hx (by simp[z])) q⟩,
    λb ys q=>by rw[ak (aZ q fr)];exact q,λb ob ys q=>by rw[ak (aZ q fr)];exact q,λb ps q=>⟨#[],by rw[ak (aZ q fr),q];simp⟩⟩ (λb o q=>?_) I.bare (λb hb=>?_)
   .by_cases hb:b=s.heap.objs.size
    .subst hb
     rw[ar] at q
     cases q
     exact⟨by show 2<=sizeLine;decide,[.int i tk,x],.cons ⟨tk,rfl⟩ (.cons Ep .nil),⟨_,hT,rfl,_,rfl⟩⟩
    .rw[ak hb] at q
     refine(I.aC b o q).iT (λc v hc q' =>?_) (λc q'=>by rw[ak (aZ q' fr)];exact q') λc ys q'=>by rw[ak (aZ q' fr)];exact q'
     rcases hc with z | z
     .subst z
      exact hk c v (neT c o q).1 (neT c o q).2 q'
     .exact hk c v (neT c _ z).1 (neT c _ z).2 q'
   .have z:b=e\/b=it:=by simpa using hb
    rcases z with z | z
    .subst z
     exact⟨fe.2.2.2.1,fe.2.1,fe.2.2.2.2.1,fe.2.2.2.2.2⟩
    .subst z
     exact⟨fi.2.2.2.1,fi.2.1,fi.2.2.2.2.1,fi.2.2.2.2.2⟩
  have kY:∀b∈[e,it],upd H s.heap.objs.size (.tup [.int i,xs[i]]) b=none:=λb hb=>by
   have z:b=e\/b=it:=by simpa using hb
   have rO:b<s.heap.objs.size:=by
    rcases z with z | z
    .subst z;exact bf he
    .subst z;obtain⟨o,q,_⟩:=hit;exact bf q
   rw[ak (bh rO)]
   rcases z with z | z
   .subst z;exact fe.1
   .subst z;exact fi.1
  refine⟨_,rfl,UM (s:={ s with heap:=h',toks:=tk+1 }) ho λh2 xb kK=>?_⟩
  have I2:Inv X pins σ (upd H s.heap.objs.size (.tup [.int i,xs[i]])) { s with heap:=h2,toks:=tk+1 } :=
   Inv.turned (s:={ s with heap:=h',toks:=tk+1 }) (h':=h2) (t':=tk+1) (it:=e) I1 (λb o hb q=>(kK.2 b hb).trans q) (kY e (by simp)) fe.2.1 fe.2.2.2.1 fe.2.2.2.2.1 fe.2.2.2.2.2
  refine⟨.ref s.heap.objs.size,_,I2,rfl,⟨_,_,fr,rfl,by simp[aJ],rfl⟩,⟨⟨x,?_⟩,kX.1.at λo q=>(kK.2 it (bo g9)).trans q⟩,kY⟩
  have e1:((i+1:Nat):Int)=(i:Int)+1:=by omega
  rw[e1]
  exact xb
 done:=by
  intro X hP hw hK hc i pins s σ H E I hf st hg
  subst hP hw hK
  obtain⟨⟨old,he⟩,hit⟩:=st
  obtain⟨hq,aJ⟩:=hg
  obtain⟨its,rv,p,hz⟩:=I.list hq
  have hl:=rv.length
  have fi:=hf it (by simp)
  have ei:i=its.toArray.size:=by rw[bc];omega
  refine UN (Draws.list (prog:=X.prog) (w:=X.w) (A:=X.A.in1) (I.ok.hd hc) it a w8 its.toArray) he ⟨by rw[<-ei];exact hit,p.isList⟩ λh' eb=>⟨rfl,?_⟩
  exact I.turned (t':=s.toks) (it:=it) (λb o hb q=>eb b o hb q) fi.1 fi.2.1 fi.2.2.2.1 fi.2.2.2.2.1 fi.2.2.2.2.2
 self:=λ_ _ _ _ _ st h=>by
  obtain⟨⟨old,he⟩,_⟩:=st
  exact zt he h
def XJ(K:PySem.W.Frag)(ta:TA):TI:=λσ H R=>ta σ H λvs H1=>∃a xs,vs=[.ref a]/\aj K H1 a xs/\R (uh K a xs) H1
theorem Er{X:Cx}{elts:List Expr}{k:Nat}{nF:Pos}{a:Expr}{ta:TA}{p pos:Pos}(hg:Gl X "enumerate")(hm:X.mg "enumerate"=none)(ha:PA X [a] ta)(hs:starEach [a] X.env=[(false,eval a X.env)]:=by rfl) :
  PI X (.Tuple elts k nF) (.Call (.Name "enumerate" p) [a] [] pos) (XJ X.K ta):=by
 intro pins s σ H R I h
 refine Call_ (lP I hg hm boot_enumerate (vS (aB (ha pos pins s σ H _ I h) λus s1 ⟨vs,H1,I1,r1,q1⟩=>?_) hs rfl))
 obtain⟨l,xs,e,hq,q⟩:=q1
 subst e
 obtain⟨u,rfl,ru⟩:=vals1 r1
 cases ru
 obtain⟨its,rv,pl,hz⟩:=I1.list hq
 have aJ:l<s1.heap.objs.size:=by obtain⟨o,n,e,_⟩:=pl;exact bf e
 refine call_enumerate_list pl.isList λh' he xc hsz hk=>?_
 have I2:Inv X pins σ H1 { s1 with heap:=h' }:=I1.kept (t':=s1.toks) hk
 refine zt (s:={ s1 with heap:=h' }) he ?_
 refine⟨s1.heap.objs.size+1,[s1.heap.objs.size+1,s1.heap.objs.size],_,_,H1,rfl,I2,XI l s1.heap.objs.size (s1.heap.objs.size+1) xs (bh aJ) (bh (jo aJ)) (Nat.succ_ne_self _),⟨⟨.none,he⟩,xc⟩,λb hb=>?_,q⟩
 have z:b=s1.heap.objs.size+1\/b=s1.heap.objs.size:=by simpa using hb
 rcases z with z | z
 .subst z;exact I1.gT (iO _) (I1.aC.fresh (iO _))
 .subst z;exact I1.gT (aP _) I1.fresh
theorem Mj{K:PySem.W.Frag}{a:Addr}{xs:List V}{g:TG}{tb:TS}{D:Ends}{σ:St}{H:Hp}(Pv:Nat->St->Hp->Prop)(h0:Pv 0 σ H)(hl:∀i σ H,i<=xs.length->Pv i σ H->aj K H a xs)
  (hs:∀i x p σ H,xs[i]? = some x->Pv i σ H->H p=none->g (.ref p) σ (upd H p (.tup [.int i,x])) λσ2 H2=>tb { D with nx:=Pv (i+1),ct:=Pv (i+1),bk:=D.nx } σ2 H2) (hd:∀σ H,Pv xs.length σ H->D.nx σ H) :
  ∃W:Nat->Nat->St->Hp->Prop,(∃m,W 0 m σ H)/\∀i m σ H,W i m σ H->
   ((uh K a xs).stop i H/\D.nx σ H)\/((uh K a xs).go i H/\∃N:St->Hp->Prop,(∀σ' H',N σ' H'->∃m',m'<m/\W (i+1) m' σ' H')/\∀x H',(uh K a xs).gv i H x H'->g x σ H' λσ2 H2=>tb { D with nx:=N,ct:=N,bk:=D.nx } σ2 H2):=by
 refine⟨λi m σ H=>m=xs.length - i/\i<=xs.length/\Pv i σ H,⟨xs.length,by simp,bC _,h0⟩,?_⟩
 rintro i m σ H ⟨rfl,hi,p⟩
 have q:=hl i σ H hi p
 by_cases aJ:i<xs.length
 .refine .inr ⟨⟨q,aJ⟩,Pv (i+1),λσ' H' p'=>⟨xs.length - (i+1),by omega,rfl,aJ,p'⟩,λx H' y=>?_⟩
  obtain⟨pp,v,hn,e1,e2,e3⟩:=y
  subst e1 e3
  exact hs i v pp σ H e2 p hn
 .have e:i=xs.length:=by omega
  subst e
  exact .inl ⟨⟨q,rfl⟩,hd σ H p⟩
def XM:V->Option Int->Option Int->Hp->VK->Prop:=λx lo hi H Q=>∃z,x = .str z/\z.length<=sizeLine/\Q (.str (Txt.slice z lo hi)) H
theorem part_of{v:Value}{o:Option Int}(p:IsPart v o):∃l:Option (Int×Tok),v=partValue l/\l.map (·.1)=o:=by
 cases p with
 |none=>exact⟨none,rfl,rfl⟩
 |int i t=>exact⟨some (i,t),rfl,rfl⟩
theorem ui{X:Cx}:DJ X XM:=by
 intro pins s σ H x v vl vu lo hi sl Q I rx hs pl pu h
 obtain⟨z,rfl,hz,q⟩:=h
 obtain⟨t,rfl⟩:=rx
 obtain⟨l,rfl,rfl⟩:=part_of pl
 obtain⟨u,rfl,rfl⟩:=part_of pu
 exact⟨"str",_,F.slot_str_getitem.lookup,typeIs_str _ _ _,wpAny_getItem_str_slice (l:=l) (u:=u) (st:=none) hs rfl
  (post_val_or_str ⟨bO (vZ z _ _) hz,λt' k=>⟨.str (Txt.slice z _ _),H,I.tok k,⟨t',rfl⟩,q⟩⟩)⟩
theorem j9{n:Nat}{g:TG}{tb:TS}{D:Ends}{σ:St}{H:Hp}(Pv:Nat->St->Hp->Prop)(h0:Pv 0 σ H)
  (hs:∀(i:Nat) σ H,i<n->Pv i σ H->g (.int (i:Int)) σ H λσ2 H2=>tb { D with nx:=Pv (i+1),ct:=Pv (i+1),bk:=D.nx } σ2 H2) (hd:∀σ H,Pv n σ H->D.nx σ H) :
  ∃W:Nat->Nat->St->Hp->Prop,(∃m,W 0 m σ H)/\∀i m σ H,W i m σ H->
   ((lR 0 n).stop i H/\D.nx σ H)\/((lR 0 n).go i H/\∃N:St->Hp->Prop,(∀σ' H',N σ' H'->∃m',m'<m/\W (i+1) m' σ' H')/\∀x H',(lR 0 n).gv i H x H'->g x σ H' λσ2 H2=>tb { D with nx:=N,ct:=N,bk:=D.nx } σ2 H2):=
 VG Pv h0 (λi σ H hi p=>by rw[CZ];exact hs i σ H hi p) hd
theorem uj{n k:Nat}(h:k<n):nI n (k:Int)=some k:=by
 unfold nI
 rw[aA (by omega),aA (by omega),dY]
theorem Paired.get{α β:Type}{R:α->β->Prop}:∀{l:List α}{m:List β}{i:Nat}{y:β},Paired R l m->m[i]? = some y->∃x,l[i]? = some x/\R x y
 |_,_,_,_,.nil,e=>by simp at e
 |_,_,0,_,.cons r _,e=>by simp at e;subst e;exact⟨_,rfl,r⟩
 |_,_,i+1,y,.cons _ t,e=>by
  obtain⟨x,h1,h2⟩:=Paired.get (i:=i) (y:=y) t (by simpa using e)
  exact⟨x,by simpa using h1,h2⟩
theorem Paired.getL{α β:Type}{R:α->β->Prop}:∀{l:List α}{m:List β}{i:Nat}{x:α},Paired R l m->l[i]? = some x->∃y,m[i]? = some y/\R x y
 |_,_,_,_,.nil,e=>by simp at e
 |_,_,0,_,.cons r _,e=>by simp at e;subst e;exact⟨_,rfl,r⟩
 |_,_,i+1,x,.cons _ t,e=>by
  obtain⟨y,h1,h2⟩:=Paired.getL (i:=i) (x:=x) t (by simpa using e)
  exact⟨y,by simpa using h1,h2⟩
theorem Paired.Es{α β γ:Type}{R:α->β->Prop}{g:γ->α}:∀{l:List γ}{m:List β},Paired R (l.map g) m->Paired (λc y=>R (g c) y) l m
 |[],_,h=>by cases h;exact .nil
 |_::r,_,h=>by
  cases h with
  |cons h1 h2=>exact .cons h1 (Paired.Es h2)
theorem Paired.pick{α β:Type}{R:α->β->Prop}:∀{cs:List α}{xs:List β}(_:Paired R cs xs) (q:α->Bool) (p:Nat->Bool) (_:∀i c,cs[i]? = some c->p i=q c) {ys:List β}
  (_:Paired (λ(i:Nat) y=>xs[i]? = some y) ((List.range xs.length).filter p) ys),Paired R (cs.filter q) ys
 |_,_,.nil,q,p,hp,ys,pr=>by
  have:ys=[]:=by cases pr;rfl
  rw[this]
  exact .nil
 |c::cs,x::xs,.cons h t,q,p,hp,ys,pr=>by
  have e0:p 0=q c:=hp 0 c rfl
  rw[dg,Kg,d5,zu] at pr
  have eN:∀i c',cs[i]? = some c'->(p∘Nat.succ) i=q c':=λi c' e=>hp (i+1) c' (by simpa using e)
  rw[d5]
  by_cases hq:q c=true
  .rw[e0,aA hq] at pr
   rw[aA hq]
   cases pr with
   |cons h1 h2=>
    have h1:some x=some _:=h1
    cases h1
    exact .cons h (Paired.pick t q (p∘Nat.succ) eN (Paired.bM (Paired.Es h2) λi y e=>by simpa using e))
  .rw[e0,aw hq] at pr
   rw[aw hq]
   exact Paired.pick t q (p∘Nat.succ) eN (Paired.bM (Paired.Es pr) λi y e=>by simpa using e)
def XN(t:TS):TS:=λD σ H=>∃I:St->Hp->Prop,(∀σ' H',I σ' H'->D.nx σ' H')/\t { D with nx:=I } σ H
theorem pN{X:Cx}{st:Stmt}{t:TS}(h:PS X st t):PS X st (XN t):=by
 intro pins s σ H D I q
 obtain⟨J,hJ,q⟩:=q
 refine aB (h pins s σ H _ I q) λf s' hs=>?_
 cases f with
 |next=>obtain⟨σ',H',I',z⟩:=hs;exact⟨σ',H',I',hJ _ _ z⟩
 |brk=>exact hs
 |cont=>exact hs
 |ret u=>exact hs
theorem xf:Slot "reversed" "__next__" "reversed.__next__" :=
 .of (owner:="reversed") (n:="__next__") (by rw[Ki,Kj];kernel_rfl) (by decide +kernel) (by decide +kernel) (by decide +kernel)
  (by first | exact .inl (by decide +kernel) | exact .inr (by decide +kernel)) (by rw[zw];kernel_rfl)
theorem Ml:entryFor table "reversed.__next__"=some Builtin.«reversed.__next__»:=entryFor_of_tree (by kernel_rfl)
theorem Mm(a:Value):argsOk "reversed.__next__" ⟨[a],[]⟩:=by unfold argsOk;kernel_rfl
theorem Mn:Slot "reversed" "__iter__" "reversed.__iter__" :=
 .of (owner:="reversed") (n:="__iter__") (by rw[Ki,Kj];kernel_rfl) (by decide +kernel) (by decide +kernel) (by decide +kernel)
  (by first | exact .inl (by decide +kernel) | exact .inr (by decide +kernel)) (by rw[zw];kernel_rfl)
theorem XO(a:Value):argsOk "reversed.__iter__" ⟨[a],[]⟩:=by unfold argsOk;kernel_rfl
theorem XQ:entryFor table "reversed.__iter__"=some Builtin.«dict_keyiterator.__iter__» :=
 entryFor_alias (id':="dict_keyiterator.__iter__") (by kernel_rfl) (by first | rfl | decide +kernel | (unfold String.splitOn;simp +decide [String.splitOnAux])) (by decide +kernel) (by kernel_rfl)
theorem XR:Slot "reversed" "__init__" "object.__init__" :=
 .of (owner:="object") (n:="__init__") (by rw[Ki,Kj];kernel_rfl) (by decide +kernel) (by decide +kernel) (by decide +kernel)
  (by first | exact .inl (by decide +kernel) | exact .inr (by decide +kernel)) (by rw[zw];kernel_rfl)
theorem XS:TypeCalled "reversed" "reversed.__new__" "object.__init__" :=
 ⟨by decide +kernel,by decide +kernel,⟨_,_,F.mro_reversed⟩,F.made_reversed,by decide +kernel,F.sub_reversed_self,XR⟩
theorem XT:typeLookup (.type "tuple") "__reversed__"=pure none:=by rw[Ki,Kj];kernel_rfl
theorem XU:isSubtype (.type "tuple") (.type "dict")=pure false:=by rw[zw];kernel_rfl
def xg(l:Addr)(i:Int):Obj:={ cls := .type "reversed",data := .fields #[.ref l,rawInt i] }
def kZ(h:Heap)(a l:Addr)(i:Int):Prop := ∃o,h.get? a=some o/\o.cls = .type "reversed"/\o.data = .fields #[.ref l,rawInt i]
theorem kZ.typeIs{s:Shared}{a l:Addr}{i:Int}(x:kZ s.heap a l i):s.TypeIs (.ref a) "reversed":=let ⟨o,ho,hc,_⟩:=x;⟨o,ho,hc⟩
theorem kZ.at{h h':Heap}{a l:Addr}{i:Int}(x:kZ h a l i)(e:∀o,h.get? a=some o->h'.get? a=some o):kZ h' a l i:=let ⟨o,ho,r⟩:=x;⟨o,e _ ho,r⟩
theorem XW(t:Addr)(items:Array Value)(hz:items.size<=sizeLine):Meets (Builtin.«reversed.__new__» ⟨[.type "reversed",.ref t],[]⟩) (λ_ R s=>IsTup s.heap t items/\
  ∀tk,R (.ok (.ret (.ref s.heap.objs.size))) { s with heap:=s.heap.push (xg t ((items.size:Int) - 1)),toks:=tk }):=
 .of_wp λprog w A R s h=>by
  obtain⟨hT,h⟩:=h
  unfold Builtin.«reversed.__new__»
  refine ai (oZ (newClass_reversed _) ?_)
  try dsimp only
  refine ai (oZ (a:=()) (by first | rfl | kernel_rfl) ?_)
  refine ai (oZ (a:=()) (by first | rfl | kernel_rfl) ?_)
  try dsimp only
  refine ai (CY hT.typeIs XT ?_)
  try dsimp only
  refine ai ?_
  show wpAny _ _ (isInstance (.ref t) (.type "dict") >>= _) _ _ _
  refine ai (Kk hT.typeIs XU ?_)
  show wpAny _ _ (specialOf (.ref t) "__getitem__" >>= _) _ _ _
  refine ai (CY hT.typeIs PyProof.Rows.slot_tuple_getitem.lookup ?_)
  show wpAny _ _ (pure true) _ _ _
  refine aM ?_
  show wpAny _ _ (call (.builtin "len") [.ref t] >>= _) _ _ _
  refine ai (len_tuple hT (by have:=nC;omega) ?_)
  refine ai (oZ (a:=some (items.size:Int)) rfl ?_)
  show wpAny _ _ (newObj (.type "reversed") (.fields #[.ref t,rawInt ((items.size:Int) - 1)]) none >>= _) _ _ _
  exact ai (tw (aM ⟨_,rfl,h _⟩))
section
variable{prog:Program}{w:World}{A:Around}{E:Value->Shared->Prop}{s:Shared}
theorem XX{t:Addr}{items:Array Value}{Q:Value->Shared->Prop}(hT:IsTup s.heap t items)(hz:items.size<=sizeLine)
  (h:∀tk,Q (.ref s.heap.objs.size) { s with heap:=s.heap.push (xg t ((items.size:Int) - 1)),toks:=tk }):wpAny (model prog w) A (call (.type "reversed") [.ref t]) Q E s:=
 callType_new XS (by decide) (F.typeCall_reversed_1 _) (F.newCall_reversed_1 _) (λobj=>F.args_object_init_2 obj _) F.entry_reversed_new (XW t items hz) ⟨hT,λtk=>⟨⟨_,cB _ rfl,rfl⟩,h tk⟩⟩
theorem XY{it t:Addr}{i:Nat}{items:Array Value}{x:Value}{Q:Option Value->Shared->Prop}(hit:kZ s.heap it t (i:Int))(hT:IsTup s.heap t items)(hz:items.size<=sizeLine)(hx:items[i]? = some x)
  (hQ:∀h' tk,kZ h' it t ((i:Int) - 1)->Heap.SameBut it s.heap h'->Q (some x) { s with heap:=h',toks:=tk }):wpAny (model prog w) A (pyNext (.ref it)) Q E s:=by
 obtain⟨o,ho,hc,hd⟩:=id hit
 have hi:i<items.size:=(Array.getElem?_eq_some_iff.mp hx).1
 have hl:=nC
 unfold pyNext
 refine ai (zE (zF (name:=Str.ofString "__next__") hit.typeIs xf
  (qI xf hit.typeIs Ml ?_ (Mm _))))
 unfold Builtin.«reversed.__next__»
 refine ai (oZ (a:=(Value.ref it,[])) rfl ?_)
 try dsimp only
 refine ai (iu ho hd (x := .ref t) rfl ?_)
 refine ai (iu ho hd (x:=rawInt (i:Int)) rfl ?_)
 show wpAny _ _ (if (i:Int)<0 then _ else _) _ _ s
 rw[aw (by omega)]
 show wpAny _ _ (specialOf (.ref t) "__getitem__" >>= _) _ _ _
 refine ai (CY hT.typeIs PyProof.Rows.slot_tuple_getitem.lookup ?_)
 show wpAny _ _ (mkInt (i:Int) >>= _) _ _ _
 refine ai (wpAny_mkInt ?_)
 refine ai (zE (getItem_tuple (j:=i) hT (by omega) (by omega) (seqIndex_of (by omega) (by omega)) hx ?_))
 try dsimp only
 refine ai (iu ho hd (x:=rawInt (i:Int)) rfl ?_)
 show wpAny _ _ (setField (.ref it) 1 (rawInt ((i:Int) - 1)) >>= _) _ _ _
 refine ai (C1 ho hd (by simp) ?_)
 refine aM ⟨x,rfl,aM (hQ _ _ ?_ (wa ..))⟩
 exact⟨_,tm _ ho (UO (zG hd _)),(Obj.cls_mapFields ..).trans hc,by
  rw[zG hd];simp⟩
theorem XZ{it t:Addr}{Q:Option Value->Shared->Prop}(hh:A.handled=none)(hit:kZ s.heap it t (-1))
  (hQ:∀h',Heap.ExtBut it s.heap h'->Q none { s with heap:=h' }):wpAny (model prog w) A (pyNext (.ref it)) Q E s:=by
 obtain⟨o,ho,hc,hd⟩:=id hit
 unfold pyNext
 refine ai (zE (zF (name:=Str.ofString "__next__") hit.typeIs xf
  (qI xf hit.typeIs Ml ?_ (Mm _))))
 unfold Builtin.«reversed.__next__»
 refine ai (oZ (a:=(Value.ref it,[])) rfl ?_)
 try dsimp only
 refine ai (iu ho hd (x := .ref t) rfl ?_)
 refine ai (iu ho hd (x:=rawInt (-1)) rfl ?_)
 show wpAny _ _ (if (-1:Int)<0 then _ else _) _ _ s
 rw[aA (by decide)]
 refine ai (tF ?_)
 refine ai ?_
 show wpAny _ _ (setField (.ref it) 1 (rawInt (-1)) >>= λ_=>setField (.ref it) 0 .none) _ _ _
 refine ai (C1 ho hd (by simp) ?_)
 refine C1 (tm _ ho (UO (zG hd _))) (zG hd _) (by simp) ?_
 refine ai ?_
 show wpAny _ _ (newExc (.type "StopIteration") [] >>= _) _ _ _
 refine ai ?_
 simp only[newExc,newTuple]
 refine ai (tw ?_ (by size_fits))
 refine ai (m:=firstArgMember _ _) (oZ (a:=Value.none) (by first | rfl | (simp only[firstArgMember];rfl)) ?_)
 refine tw ?_ (by size_fits)
 simp only[raiseNew]
 refine ai (wpAny_handled ?_)
 first | rw[show A.in1.handled=none from hh] | rw[hh]
 refine ai (aM (wpAny_throw ?_))
 refine ai (Kk (T:="StopIteration") (b:=true) ⟨_,cB _ rfl,rfl⟩ isSubtype_stop ?_)
 refine aM (hQ _ λb ob hb e=>?_)
 refine bz _ (bz _ ?_)
 exact(nh _ _ (bo hb)).trans ((nh _ _ (bo hb)).trans e)
theorem Mo{it t:Addr}{i:Int}{Q:Value->Shared->Prop}(hit:kZ s.heap it t i)(h:Q (.ref it) s):wpAny (model prog w) A (pyIter (.ref it)) Q E s:=by
 refine wpAny_pyIter_slot hit.typeIs Mn (qI Mn hit.typeIs XQ ?_ (XO _))
 show wpAny _ _ (ret (.ref it)) _ _ s
 exact aM ⟨_,rfl,"reversed",_,hit.typeIs,xf.lookup,h⟩
end
def Et(K:PySem.W.Frag)(a:Addr)(xs:List V):It:=
 ⟨λi H=>aq K H a xs/\i<xs.length,λi H x H'=>H'=H/\xs.reverse[i]? = some x,λi H=>aq K H a xs/\i=xs.length⟩
theorem X0{P:Program}{w:World}{K:PySem.W.Frag}{tg:Expr}(a it:Addr)(xs:List V):Turn P w K tg (Et K a xs) [it] it (λi h=>kZ h it a ((xs.length:Int) - 1 - (i:Nat))) where
 mem:=by simp
 obj:=λi h st b hb=>by
  have e:b=it:=by simpa using hb
  subst e
  obtain⟨o,e,c,d⟩:=st
  exact⟨o,e,λv z=>by rw[d] at z;cases z⟩
 keep:=λi h h' st k=>st.at λo e=>k it (by simp) o e
 item:=by
  intro X hP hw hK hc i pins s σ H E I hf st hg
  subst hP hw hK
  obtain⟨hq,hi⟩:=hg
  obtain⟨its,rv,p,hz⟩:=I.tuple hq
  have hl:=rv.length
  obtain⟨f0,f1,f2,f3,f4,f5⟩:=hf it (by simp)
  have e1:(xs.length:Int) - 1 - (i:Nat)=((xs.length - 1 - i:Nat):Int):=by omega
  have hx:xs[xs.length - 1 - i]? = some (xs[xs.length - 1 - i]'(by omega)):=bg (by omega)
  obtain⟨u,hu,ru⟩:=rv.get hx
  rw[e1] at st
  refine XY st p (by rw[bc];omega) (x:=u) (by simpa using hu) λh' tk d8 sb=>?_
  have I1:Inv X pins σ H { s with heap:=h',toks:=tk }:=I.turned (λb o hb e=>(sb.2 b hb).trans e) f0 f1 f3 f4 f5
  obtain⟨o,e,c,d⟩:=id d8
  refine⟨u,rfl,tP (s:={ s with heap:=h',toks:=tk }) e c d (by decide) ⟨_,H,I1,ru,⟨rfl,?_⟩,?_,λb hb=>(hf b hb).1⟩⟩
  .rw[Kl hi]
   exact hx
  .have e2:((xs.length - 1 - i:Nat):Int) - 1=(xs.length:Int) - 1 - ((i+1:Nat):Int):=by omega
   rw[e2] at d8
   exact d8
 done:=by
  intro X hP hw hK hc i pins s σ H E I hf st hg
  subst hP hw hK
  obtain⟨hq,hi⟩:=hg
  obtain⟨f0,f1,f2,f3,f4,f5⟩:=hf it (by simp)
  have e1:(xs.length:Int) - 1 - (i:Nat) = -1:=by omega
  rw[e1] at st
  exact XZ (I.ok.hd hc) st λh' eb=>⟨rfl,I.turned (t':=s.toks) (λb o hb e=>eb b o hb e) f0 f1 f3 f4 f5⟩
 self:=λ_ _ _ _ _ st h=>Mo st h
def X1(K:PySem.W.Frag)(ta:TA):TI:=λσ H R=>ta σ H λvs H1=>∃a xs,vs=[.ref a]/\aq K H1 a xs/\R (Et K a xs) H1
theorem X2:bootBuiltins "reversed"=some (.type "reversed"):=by decide +kernel
theorem X3{X:Cx}{tg a:Expr}{ta:TA}{p pos:Pos}(hg:Gl X "reversed")(hm:X.mg "reversed"=none)(ha:PA X [a] ta)(hs:starEach [a] X.env=[(false,eval a X.env)]:=by rfl) :
  PI X tg (.Call (.Name "reversed" p) [a] [] pos) (X1 X.K ta):=by
 intro pins s σ H R I h
 refine Call_ (lP I hg hm X2 (vS (aB (ha pos pins s σ H _ I h) λus s1 ⟨vs,H1,I1,r1,q1⟩=>?_) hs rfl))
 obtain⟨t,xs,e,hq,q⟩:=q1
 subst e
 obtain⟨u,rfl,ru⟩:=vals1 r1
 cases ru
 obtain⟨its,rv,pl,hz⟩:=I1.tuple hq
 have hl:=rv.length
 refine XX pl (by rw[bc];omega) λtk=>?_
 have I2:Inv X pins σ H1 { s1 with heap:=s1.heap.push (xg t ((its.toArray.size:Int) - 1)),toks:=tk }:=I1.kept λb o e=>bz _ e
 have Mp:kZ (s1.heap.push (xg t ((its.toArray.size:Int) - 1))) s1.heap.objs.size t ((xs.length:Int) - 1 - ((0:Nat):Int)):=by
  have e:(its.toArray.size:Int) - 1=(xs.length:Int) - 1 - ((0:Nat):Int):=by rw[bc];omega
  rw[<-e]
  exact⟨_,cB _ rfl,rfl,rfl⟩
 refine Mo (s:={ s1 with heap:=s1.heap.push (xg t ((its.toArray.size:Int) - 1)),toks:=tk }) Mp ?_
 refine⟨s1.heap.objs.size,[s1.heap.objs.size],_,_,H1,rfl,I2,X0 t _ xs,Mp,λb hb=>?_,q⟩
 have e:b=s1.heap.objs.size:=by simpa using hb
 subst e
 exact I1.gT (aP _) I1.fresh
theorem X4{K:PySem.W.Frag}{a:Addr}{xs:List V}:nQ (Et K a xs) (λH=>aq K H a xs) xs.reverse:=
 ⟨λi H h hi=>⟨h,by simpa using hi⟩,λi H x H' h _ y=>y,λH h=>⟨h,by simp⟩⟩
def lb(x:Str):Str:=⟨x.cps.toList.reverse.toArray⟩
theorem rev_eq(x:Str)(u:Tok):Txt.sliceBy x none none (-1,u)=lb x:=by
 have h:=step_rev_list x u
 have e:(List.range x.length).map (λk=>x.cps.getD (x.length - 1 - k) 0)=x.cps.toList.reverse:=by
  apply kH
  intro i
  have hl:x.cps.toList.length=x.length:=by simp[Str.length]
  rw[bu]
  by_cases hi:i<x.length
  .rw[qJ hi,Kl (by rw[hl];exact hi),hl]
   have hb:x.length - 1 - i<x.cps.size:=by show _<x.length;omega
   simp[Array.getD,hb]
  .rw[dy (by simpa using hi),dy (by rw[C3,hl];omega)]
   rfl
 rw[e] at h
 generalize Txt.sliceBy x none none (-1,u)=y at h
 cases y with
 |mk c=>
  unfold lb
  rw[<-h]
def X5(te ts:TE):TE:=λσ H Q=>te σ H λx H1=>ts σ H1 λy H2=>∃z,x = .str z/\y = .int (-1)/\z.length<=sizeLine/\Q (.str (lb z)) H2
theorem X6{X:Cx}{e st:Expr}{te ts:TE}{pos p2:Pos}(he:PE X e te)(cX:PE X st ts):PE X (.Subscript e (.Slice none none (some st) p2) pos) (X5 te ts):=by
 intro pins s σ H Q I h
 refine Subscript_ (aB (he pins s σ H _ I h) λv s1 ⟨x,H1,I1,r1,q1⟩=>?_)
 refine wpAny_Slice (aB (lW pins s1 σ H1 (λo H'=>o=none/\H'=H1) I1 ⟨rfl,rfl⟩) λvl s2 ⟨l,H2,I2,pl,el,eh⟩=>?_)
 subst el eh
 refine aB (lW pins s2 σ H2 (λo H'=>o=none/\H'=H2) I2 ⟨rfl,rfl⟩) λvu s3 ⟨u,H3,I3,pu,eu,eh⟩=>?_
 subst eu eh
 rw[evalPart_some]
 refine aB (cX pins s3 σ H3 _ I3 q1) λvs s4 ⟨y,H4,I4,r4,z,e1,e2,hz,q⟩=>?_
 subst e1 e2
 obtain⟨t,rfl⟩:=r1
 obtain⟨t4,rfl⟩:=r4
 cases pl
 cases pu
 have I5:Inv X pins σ H4 { s4 with heap:=s4.heap.push { cls := .type "slice",data := .fields #[.none,.none,.int (-1) t4] } }:=I4.kept (t':=s4.toks) λb ob q=>bz _ q
 show wpAny (model X.prog X.w) X.A (subscriptTail e (.Slice none none (some st) p2) (.str z t) (.ref s4.heap.objs.size)) (EP X pins σ Q) X.xe { s4 with heap:=s4.heap.push { cls := .type "slice",data := .fields #[.none,.none,.int (-1) t4] } }
 refine tail_any (ops:=[.ref s4.heap.objs.size,.str z t]) (typeIs_str _ _ _) F.slot_str_getitem.lookup (wpAny_getItem_str_slice (l:=none) (u:=none) (st:=some (-1,t4)) ⟨_,cB _ rfl,rfl,rfl⟩ rfl
  (post_val_or_str ⟨bO (Txt.sliceBy_le z _ _ (-1,t4) (show(-1:Int)≠0 by decide)) hz,λt' k=>?_⟩)) (by with_unfolding_all rfl)
 exact⟨.str (lb z),H4,I5.tok k,⟨t',by show Value.str (Txt.sliceBy z none none (-1,t4)) t'=_;rw[rev_eq]⟩,q⟩
end L2
namespace L2
open PySem
structure Hid(p G:Prop):Prop where
 k:p->G
theorem hide{p:Prop}(h:∀G:Prop,Hid p G->G):p:=h p ⟨id⟩
theorem bF{CX:j4}{P:Program}{w:World}{K:PySem.W.Frag}{mg:Str->Option Value}{base:Heap}{N:List Str}{q:Str}{sc:Scope}{f:Addr}{cd:Value}{A:Around}{o:List Env}{s:Shared}{H:Hp}{E:XK}:(nG CX P w K mg base N q sc f cd A o s H E).pA.K=K:=rfl
theorem gG{α:Type}{P:List α->Prop}(h:∀a,P [a]):∀us:List α,us.length=1->P us
 |[a],_=>h a
theorem gH{α:Type}{P:List α->Prop}(h:∀a b,P [a,b]):∀us:List α,us.length=2->P us
 |[a,b],_=>h a b
theorem i3{α:Type}{P:List α->Prop}(h:∀a b c,P [a,b,c]):∀us:List α,us.length=3->P us
 |[a,b,c],_=>h a b c
theorem Am{α:Type}{P:List α->Prop}(h:∀a b c d,P [a,b,c,d]):∀us:List α,us.length=4->P us
 |[a,b,c,d],_=>h a b c d
theorem X7{α:Type}{P:List α->Prop}(h:∀a b c d e,P [a,b,c,d,e]):∀us:List α,us.length=5->P us
 |[a,b,c,d,e],_=>h a b c d e
end L2
namespace L2
open PySem PySem.Spec PyProof.Rows
theorem dX{n:Nat}(h:n<=10000):n<=sizeLine:=bO h (by decide)
theorem mf{n:Nat}(h:n<=10000):n<sizeLine:=kF h (by decide)
theorem X8:bootBuiltins "sum"=some (.builtin "sum"):=by decide +kernel
theorem X9:bootBuiltins "min"=some (.builtin "min"):=by decide +kernel
theorem Ya(is:List Int):∀n,n<=is.length->preSum (λi=>(is[i]?).getD 0) n=(is.take n).sum:=by
 intro n
 induction n with
 |zero=>intro _;rfl
 |succ n ih=>
  intro h
  have e:is[n]? = some (is[n]'(by omega)):=bg _
  rw[gq,C4,<-ih (by omega)]
  show preSum _ n+(is[n]?).getD 0=_
  rw[e]
  simp
theorem Yb{X:Cx}(hc:X.calm=true):fW X (.builtin "sum") (λxs H Q=>∃(a:Addr) (is:List Int),xs=[.ref a]/\aj X.K H a (is.map V.int)/\Q (.int is.sum) H):=by
 intro pins s σ H xs us Q I r h
 obtain⟨l,is,rfl,hq,q⟩:=h
 obtain⟨u,rfl,ru⟩:=vals1 r
 cases ru
 obtain⟨its,rv,pl,hz⟩:=I.list hq
 have hl:=pl.isList
 have hh:X.A.handled=none:=I.ok.hd hc
 have aJ:l<s.heap.objs.size:=by obtain⟨_,e,_⟩:=hl;exact bf e
 have hlen:its.length=is.length:=by rw[<-rv.length,ax]
 refine call_sum_walkG (tf hl ?_)
 refine⟨s.heap.objs.size,[s.heap.objs.size,l],[s.heap.objs.size],its.toArray.size,_,_,λi=>(is[i]?).getD 0,rfl,zr (A:=X.A.in1) hh _ l (bh aJ) its.toArray,
  ⟨⟨_,cB _ rfl,rfl,rfl⟩,hl.push _⟩,λb hb=>?_,λi v hP=>?_,λh' tk t' hk=>?_⟩
 .have z:b=s.heap.objs.size\/b=l:=by simpa using hb
  show b<(s.heap.push _).objs.size
  rw[lL]
  rcases z with z | z
  .rw[z];exact oS _
  .rw[z];exact jo aJ
 .have hv:its[i]? = some v:=by simpa using hP
  have hi:i<is.length:=by rw[<-hlen];exact(cn.mp hv).1
  obtain⟨u',e1,e2⟩:=rv.get (i:=i) (x:=V.int is[i]) (by simp[hi])
  rw[hv] at e1
  cases e1
  obtain⟨t,rfl⟩:=e2
  exact⟨t,by simp[hi]⟩
 .have e:preSum (λi=>(is[i]?).getD 0) its.toArray.size=is.sum:=by
   rw[bc,hlen,Ya is _ (aP _),C5]
  rw[e]
  exact⟨.int _,H,I.kept λb o e=>LSm.kept_iter hk b o e,⟨_,rfl⟩,q⟩
structure pO(K:PySem.W.Frag)(x qual:Str)(st:Stmt)(f:Addr)(fd:FuncData)(d:Value):Prop where
 ex:∃(oc:Value) (od:Option Addr) (T:Addr) (kV doc pm:Value) (an:Option Addr) (aL ct:Value) (j5:Array (Option Value)),
  fd=PySem.W.fnOf x qual (pK st) (kR st) (aW st) (.ref T) kV doc pm an aL ct/\K.lookup f=some ⟨oc,od,.func fd,j5⟩/\PySem.W.codeIn K aL qual=true/\
  ∃(xh:Option Addr) (n:Nat) (qV:Array (Option Value)),K.lookup T=some ⟨.type "tuple",xh,.seq #[d] n,qV⟩
 kp:PySem.W.keepIn K (.ref f)=true
section
variable{P:Program}{w:World}{K:PySem.W.Frag}{mg:Str->Option Value}{base:Heap}
theorem pO.ok{x qual:Str}{st:Stmt}{f:Addr}{fd:FuncData}{d:Value}{N ps:List Str}{k:Nat}{sp:Sp}(F:pO K x qual st f fd d)(S:bw N ps (aW st))(len:∀vs H Q E,sp vs H Q E->vs.length=ps.length)
  (rm:∀(aL:Value) (A:Around) (outer:List Env) (s:Shared) (H:Hp) (vs:List V) (Q:VK) (E:XK),cw k (A.deeper (envOfC qual (aW st) s.heap.objs.size f aL))->sp vs H Q E->
   ∃t,gS (nG aY P w K mg base N qual (aW st) f aL A outer s H E).pA (kR st) t/\t { nx:=λ_ H'=>Q .aD H',rt:=Q } (start N vs) H):aS P w K mg base aY (k+1) f fd ps sp:=by
 obtain⟨oc,od,T,kV,doc,pm,an,aL,ct,j5,rfl,lk,iU,_⟩:=F.ex
 refine Lu lk iU S len λA outer s H vs Q E hr lU=>?_
 obtain⟨t,h,q⟩:=rm aL A outer s H vs Q E hr lU
 exact⟨t,h.pA,q⟩
theorem pO.binds{x qual:Str}{st:Stmt}{f:Addr}{fd:FuncData}{d:Value}{ps:List Str}{ds:List Value}(F:pO K x qual st f fd d)
  (h:∀(T:Addr) (kV doc pm:Value) (an:Option Addr) (aL ct:Value) (s:Shared) (us:List Value) (xh:Option Addr) (n:Nat) (qV:Array (Option Value)),s.heap.get? T=some ⟨.type "tuple",xh,.seq #[d] n,qV⟩->(us++ds).length=ps.length->
   BindsTo s (PySem.W.fnOf x qual (pK st) (kR st) (aW st) (.ref T) kV doc pm an aL ct) ⟨us,[]⟩ (ps.zip (us++ds))):Binds K fd ps ds:=by
 obtain⟨oc,od,T,kV,doc,pm,an,aL,ct,j5,rfl,lk,iU,xh,n,qV,hT⟩:=F.ex
 intro s us KX hl
 exact h T kV doc pm an aL ct s us xh n qV (KX _ _ hT) hl
structure Mt(P:Program)(w:World)(K:PySem.W.Frag)(mg:Str->Option Value)(base:Heap)(C:Addr)(m:Str)(k:Nat)(sp:Sp)(cP:List V):Prop where
 cl:cH K C
 ex:∃(f:Addr) (fd:FuncData) (ps:List Str) (ds:List Value),Meth K C m f/\aS P w K mg base aY k f fd ps sp/\Binds K fd ps ds/\Vals cP ds
structure Nw(P:Program)(w:World)(K:PySem.W.Frag)(mg:Str->Option Value)(base:Heap)(x:Str)(C:Addr)(k:Nat)(sp:Sp):Prop where
 ex:∃(f:Addr) (fd:FuncData) (ps:List Str),Mk K C f/\aS P w K mg base aY k f fd ps sp/\Binds K fd ps []/\mg x=some (.ref C)
end
section
variable{X:Cx}{C:Addr}{x m:Str}{p pos apos:Pos}{e o:Expr}{es:List Expr}{t:TA}{ta:TE}{sp:Sp}{k:Nat}{cP:List V}{pl:Sem Bool}
theorem rP(M:Mt X.prog X.w X.K X.mg X.base C m k sp cP)(hr:cw k X.A)(he:PE X o ta)(ha:PA X (e::es) t)
  (cX:starEach (e::es) X.env=(false,eval e X.env)::starEach es X.env:=by rfl) (hpl:(backTo pos (starEach es X.env)).any (·.1)=false:=by rfl)
  (ht:eval (.Call (.Attribute o m apos) (e::es) [] pos) X.env=(do
   let ov<-eval o X.env
   standAt apos.atName
   let (f,first)<-holding [ov] (getMethod ov m pl)
   callWith pos f first (backTo pos (starEach (e::es) X.env)) (backToKw pos (keywordEach [] X.env))):=by rfl):PE X (.Call (.Attribute o m apos) (e::es) [] pos) (zY C m sp cP E0 ta t):=by
 obtain⟨f,fd,ps,ds,hm,G,hb,hd⟩:=M.ex
 exact Wb he M.cl hm G hr hb hd uc ha cX hpl ht
theorem Eu(M:Mt X.prog X.w X.K X.mg X.base C m k sp cP)(hr:cw k X.A)(he:PE X o ta)
  (ht:eval (.Call (.Attribute o m apos) [] [] pos) X.env=(do
   let ov<-eval o X.env
   standAt apos.atName
   let (f,first)<-holding [ov] (getMethod ov m pl)
   callWith pos f first (backTo pos (starEach [] X.env)) (backToKw pos (keywordEach [] X.env))):=by rfl):PE X (.Call (.Attribute o m apos) [] [] pos) (zY C m sp cP E0 ta lT):=by
 obtain⟨f,fd,ps,ds,hm,G,hb,hd⟩:=M.ex
 exact Wc he M.cl hm G hr hb hd uc ht
theorem Yc(N:Nw X.prog X.w X.K X.mg X.base x C k sp)(hr:cw (k+1) X.A)(hg:Gl X x)(fK:(x==("__debug__":Str))=false:=by decide):PE X (.Call (.Name x p) [] [] pos) (zZ C sp [] E0 lT):=by
 obtain⟨f,fd,ps,M,G,hb,hm⟩:=N.ex
 exact We M G hr hg hm hb .nil uc fK
end
section
variable{X:Cx}{K:PySem.W.Frag}{o e:Expr}{es:List Expr}{to:TE}{t:TA}{name:Str}{apos dz pos:Pos}{T id:String}
theorem Yd{rr:PySem.W.Frag->V->List V->Hp->VK->Prop}(hK:X.K=K)(pa:PlainAttrs T)(slot:Slot T name id)(DN:typeOf (.builtin id)=pure (.type "method_descriptor"))(hm:z9 X id (rr X.K))(ho:PE X o to)(ha:PA X (e::es) t)
  (DO:attributeBase o name X.env (eval o X.env)=eval o X.env:=by rfl)
  (DP:((backTo dz (starEach (e::es) X.env)).all (λx=>!x.1)&&(backToKw dz (keywordEach [] X.env)).all (λx=>x.1.isSome)
   && decide ((e::es).length+([]:List Keyword).length+(if ([]:List Keyword).isEmpty then 0 else 1)<30))=true:=by rfl)
  (DQ:(apos.endLine==dz.line)=true:=by rfl) (hs:starEach (e::es) X.env=(false,eval e X.env)::starEach es X.env:=by rfl) (DR:(backTo dz (starEach es X.env)).any (·.1)=false:=by rfl) :
  PE X (.Call (.Attribute o name apos) (e::es) [] dz) (LF K T (rr K) to t):=by
 subst hK
 exact fq pa slot DN hm ho ha DO DP DQ hs DR
theorem An{a i:Expr}{ta ti:TE}{rr:PySem.W.Frag->R2}(hK:X.K=K)(hr:tX X (rr X.K))(ha:PE X a ta)(hi:PE X i ti)(hp:DL i):PE X (.Subscript a i pos) (pD (rr K) ta ti):=by
 subst hK
 exact aV hr ha hi hp
end
def jD(X:Cx)(x z:Str)(ns:List Str)(scope:Scope)(cl:List (Str×Addr))(fp:List Addr)(pins:List (Addr×Obj))(s:Shared)(H:Hp):Cx where
 prog:=X.prog
 w:=X.w
 K:=X.K
 mg:=X.mg
 base:=X.base
 A:=X.A
 N:=x::z::ns
 s₀:=s
 H₀:=H
 env:=compEnvC scope cl s.heap.objs.size X.env
 outer:=X.stack
 stack:=X.stack
 ex:=fp
 fn:=λ_=>false
 calm:=X.calm
 pn:=X.pn++pins
 xe:=λ_ _=>False
def Ew(x z:Str)(ns:List Str)(names outer:List (Str×NameKind)):Bool:=ue x ns names outer&&(ue z ns names outer&&x != z)
theorem Ye{X:Cx}{pins:List (Addr×Obj)}{σ:List (Option V)}{H:Hp}{s:Shared}{scope:Scope}{x z:Str}{ns:List Str}(I:Inv X pins σ H s)(hk:scope.kind = .function)(ho:Ew x z ns scope.names X.env.scope.names=true) :
  ud X scope (gF X.env.cells scope.names [])/\(∀y∈ns,X.env.scope.names.lookup y=some .cell)/\(∀y∈ns,(relabel scope X.env).names.lookup y=some .cell\/(relabel scope X.env).names.lookup y=some .free)/\scope.names.lookup x=some .local/\scope.names.lookup z=some .local/\(x::z::ns).Nodup:=by
 unfold Ew at ho
 simp only[dZ,bne_iff_ne] at ho
 obtain⟨h1,h2,h3⟩:=ho
 obtain⟨L,hv,hi,hx,hn⟩:=Ai I hk h1
 obtain⟨_,_,_,hz,nE⟩:=Ai I hk h2
 refine⟨L,hv,hi,hx,hz,fF.mpr ⟨λm=>?_,nE⟩⟩
 rcases bS.mp m with e | e
 .exact h3 e
 .exact(fF.mp hn).1 e
theorem Yf{X:Cx}{pins:List (Addr×Obj)}{σ:St}{H:Hp}{s:Shared}{h':Heap}{tk:Nat}{x z:Str}{ns:List Str}{js:List Nat}{scope:Scope}{cl:List (Str×Addr)}{fp:List Addr}{m:Str->Option Value}(I:Inv X pins σ H s)
  (L:ud X scope cl) (hj:js.map (λj=>X.N[j]?)=ns.map some) (iE:∀y∈ns,X.env.scope.names.lookup y=some .cell)
  (br:∀y∈ns,(relabel scope X.env).names.lookup y=some .cell\/(relabel scope X.env).names.lookup y=some .free)
  (hf:∀b∈fp,dU X pins H b) (eE:∀b∈fp,b<s.heap.objs.size) (hn:h'.Ns s.heap.objs.size m) (hk:∀b o,s.heap.get? b=some o->h'.get? b=some o) :
  Inv (jD X x z ns scope cl fp pins s H) [] (none::none::dB js σ) H { s with heap:=h',toks:=tk }:=by
 have len:js.length=ns.length:=by have:=eD List.length hj;simpa using this
 refine⟨⟨I.ok.mod,L.kind,I.ok.glob,I.ok.blt,aP _,λy z c h1 h2=>I.ok.inj y z c (L.sub _ _ h1) (L.sub _ _ h2),L.all,λy c z _=>absurd (show false=true from z) cj,I.ok.hd,I.ok.frames,.inl rfl,
  λb hb=>⟨bh (eE b hb),λy c e=>(hf b hb).2.2.2.2.1 y c (L.sub _ _ e)⟩,I.bs,bO I.ok.lO I.sz,λb o e hb=>?_,λb hb z=>?_,I.stack,I.Dj⟩,
  rfl,I.bare,Un.kept hk,⟨m,hn,λi y v e1 e2 _=>?_⟩,λy c e=>?_,I.fresh,λy c e=>I.fI y c (L.sub _ _ e),λp hp=>?_,I.aC.kept hk,?_⟩
 .rcases(hf b hb).2.2.2.1 with z | z
  .exact I.ok.pe b o e z
  .exact absurd (fS (bf (I.ok.bs b o e).1) z) (qH _)
 .rcases bS.mp (I.ph b z) with z | z
  .exact(hf b hb).2.1 z
  .exact(hf b hb).2.2.1 z
 .cases i with
  |zero=>cases(show(some none:Option (Option V))=some (some v) from e2)
  |succ k=>
   cases k with
   |zero=>cases(show(some none:Option (Option V))=some (some v) from e2)
   |succ k=>
   have e1:ns[k]? = some y:=e1
   have e2:(dB js σ)[k]? = some (some v):=e2
   unfold dB at e2
   rw[bu] at e2
   cases ej:js[k]? with
   |none=>rw[ej] at e2;cases e2
   |some j=>
    rw[ej] at e2
    have e2:(σ[j]?).join=some v:=dm e2
    have e3:σ[j]? = some (some v):=by
     cases q:σ[j]? with
     |none=>rw[q] at e2;cases e2
     |some o=>rw[q] at e2;rw[show o=some v from e2]
    have e4:X.N[j]? = some y:=by
     have q:=eD (λl=>l[k]?) hj
     simp only[bu,ej,e1,ir] at q
     exact dm q
    have my:y∈ns:=bE e1
    obtain⟨m0,pL,hl⟩:=I.loc
    obtain⟨u,r,lk⟩:=hl j y v e4 e3 (.inr (.inl (iE y my)))
    refine⟨u,r,.inr ⟨br y my,?_⟩⟩
    obtain⟨c,ec⟩:=L.all y (br y my)
    rcases lk with ⟨k1,_⟩ | ⟨_,c',e5,e6⟩
    .have k2:X.env.scope.names.lookup y=some .local:=k1
     rw[iE y my] at k2;cases k2
    .have:=L.sub _ _ ec
     rw[e5] at this;cases this
     obtain⟨o,ho,hd⟩:=e6
     exact⟨c,ec,o,hk _ _ ho,hd⟩
 .obtain⟨v,o,ho,hd⟩:=I.cell y c (L.sub _ _ e)
  exact⟨v,o,hk _ _ ho,hd⟩
 .have hp:p∈X.pn++pins:=by
   have hp:p∈(X.pn++pins)++[]:=hp
   simpa using hp
  obtain⟨e,n,nl,nf,d⟩:=I.pin p hp
  refine⟨hk _ _ e,n,bh (bf e),λz=>?_,d⟩
  rcases bS.mp (I.ph _ z) with z | z
  .exact nl z
  .exact nf z
 .show(none::none::dB js σ).length=(x::z::ns).length
  unfold dB
  rw[dg,dg,dg,dg,ax,len]
theorem Inv.Yg{X:Cx}{pins tJ:List (Addr×Obj)}{σ σ':St}{H H':Hp}{s s':Shared}{h2:Heap}{x z:Str}{ns:List Str}{scope:Scope}{cl:List (Str×Addr)}{fp:List Addr}(I:Inv X pins σ H s)
  (hf:∀b∈fp,dU X pins H b) (J:Inv (jD X x z ns scope cl fp pins s H) tJ σ' H' s') (hk:∀b o,b≠s.heap.objs.size->s'.heap.get? b=some o->h2.get? b=some o) :
  Inv X pins σ H' { s' with heap:=h2 }:=by
 have u:Un (jt X.stack) fp H H' s.heap s'.heap:=J.base
 have ne:∀b o,s.heap.get? b=some o->b≠s.heap.objs.size:=λb o e=>bh (bf e)
 have fr:H' s.heap.objs.size=none:=J.free
 refine I.qW (s':={ s' with heap:=h2 }) (ch:=fp) J.os ⟨λb o e n h1 h2=>hk b o (ne b o e) (u.keep b o e n h1 h2),λb o e n h1 h2=>?_,u.free,λb o e hx=>?_,u.fU,u.jr,u.jY⟩ (λb o e=>?_) J.bare
  (λb hb=>⟨(hf b hb).2.2.2.1,(hf b hb).2.1,(hf b hb).2.2.2.2.1,(hf b hb).2.2.2.2.2⟩)
 .obtain⟨sl,q⟩:=u.slot b o e n h1 h2
  exact⟨sl,hk _ _ (ne b o e) q⟩
 .obtain⟨o',q⟩:=u.there b o e hx
  exact⟨o',hk _ _ (ne b o e) q⟩
 .refine(J.aC b o e).iT (λc v hc q=>hk c v ?_ q) (λ_ q=>q) λ_ _ q=>q
  rcases hc with z | z
  .rw[z];exact aZ e fr
  .exact aZ z fr
def Ao(K:PySem.W.Frag)(js:List Nat)(tt:TT)(te:TE)(σ:St)(J:It)(H1:Hp)(Q:VK):Prop:=
 ∀D,H1 D=none->∃W:Nat->Nat->Hp->Prop,(∃m,W 0 m (upd H1 D (.lst [])))/\∀i m H,W i m H->
  (J.stop i H/\Q (.ref D) H)\/(J.go i H/\∀x H',J.gv i H x H'->∃a v1 v2,x = .ref a/\aq K H' a [v1,v2]/\tt (some v1::some v2::dB js σ) H' λb H2=>if b=true then te (some v1::some v2::dB js σ) H2 λy H3=>∃ys,H3 D=some (.lst ys)/\ys.length<sizeLine/\∃m',m'<m/\W (i+1) m' (upd H3 D (.lst (ys++[y])))
   else ∃m',m'<m/\W (i+1) m' H2)
def Yh(K:PySem.W.Frag)(js:List Nat)(wi:TI)(tt:TT)(te:TE):TE:=λσ H Q=>wi σ H λJ H1=>Ao K js tt te σ J H1 Q
section
variable{X:Cx}{x z:Str}{px pz tp:Pos}{ck:Nat}{iter elt:Expr}{ifs:List Expr}{scope:Scope}{pos:Pos}{ns:List Str}{js:List Nat}{cl:List (Str×Addr)}{wi:TI}{tt:TT}{te:TE}
theorem Yi{pins:List (Addr×Obj)}{σ:St}{s₂:Shared}{H₂:Hp}{it:Addr}{fp:List Addr}{tn:Nat->Heap->Prop}{J:It}{Q:VK}{RR:Value->Addr->Result->Shared->Prop}{E:Value->Shared->Prop}
  (L:ud X scope cl) (hc:X.calm=true) (hj:js.map (λj=>X.N[j]?)=ns.map some) (iE:∀y∈ns,X.env.scope.names.lookup y=some .cell)
  (br:∀y∈ns,(relabel scope X.env).names.lookup y=some .cell\/(relabel scope X.env).names.lookup y=some .free) (hx:scope.names.lookup x=some .local) (pP:scope.names.lookup z=some .local) (cZ:(x::z::ns).Nodup)
  (ht:∀fp pins s H,rG (jD X x z ns scope cl fp pins s H) ifs tt) (he:∀fp pins s H,PE (jD X x z ns scope cl fp pins s H) elt te)
  (I2:Inv X pins σ H₂ s₂) (T:Turn X.prog X.w X.K (.Tuple [.Name x px,.Name z pz] ck tp) J fp it tn) (gw:tn 0 s₂.heap) (f2:∀b∈fp,dU X pins H₂ b) (hq:Ao X.K js tt te σ J H₂ Q)
  (D7:∀D H3 s',(∃m,s'.heap.Ns (s₂.heap.objs.size+1) m)->H3 (s₂.heap.objs.size+1)=none->(∀h2,(∀b o,b≠s₂.heap.objs.size+1->s'.heap.get? b=some o->h2.get? b=some o)->Inv X pins σ H3 { s' with heap:=h2 })->Q (.ref D) H3->RR (.ref D) (s₂.heap.objs.size+1) (.ok .next) s') :
  wpAny (model X.prog X.w) X.A (newList []) (λacc s₃=>wpAny (model X.prog X.w) X.A (newFunctionEnv scope X.env.globals cl [] X.env.qual none .none (some X.env)) (λwU s₄=>
   codeAny (model X.prog X.w) X.A (.compStart (.ListComp elt [⟨.Tuple [.Name x px,.Name z pz] ck tp,iter,ifs,0⟩] scope pos) 0 (.ref it) acc { wU with scope:=relabel scope X.env }) (RR acc wU.locals) s₄) E s₃) E s₂:=by
 have hD:H₂ s₂.heap.objs.size=none:=I2.fresh
 have I3:Inv X pins σ (upd H₂ s₂.heap.objs.size (.lst [])) { s₂ with heap:=s₂.heap.push { cls := .type "list",data := .seq ([]:List Value).toArray } }:=I2.Aa (ys:=[]) (its:=[]) (t':=s₂.toks) .nil (bC _)
 obtain⟨W,⟨m0,w0⟩,turn⟩:=hq _ hD
 refine tw (wpAny_newFunctionEnv L.cell (by intro y hy;simp at hy) (λh₁ D8 D9=>?_) L.kind)
 have rH:∀b∈fp,b<s₂.heap.objs.size:=λb hb=>let ⟨_,e,_⟩:=T.obj 0 _ gw b hb;bf e
 have wV:(s₂.heap.push { cls := .type "list",data := .seq ([]:List Value).toArray }).objs.size=s₂.heap.objs.size+1:=lJ ..
 have dW:∀b o,(s₂.heap.push { cls := .type "list",data := .seq ([]:List Value).toArray }).get? b=some o->h₁.get? b=some o:=λb o e=>D9.extBut b o (bh (bf e)) (bz _ e)
 have f3:∀b∈fp,dU X pins (upd H₂ s₂.heap.objs.size (.lst [])) b:=λb hb=>⟨by rw[ak (bh (rH b hb))];exact(f2 b hb).1,(f2 b hb).2⟩
 have C0:=Yf (x:=x) (z:=z) (tk:=s₂.toks+([]:List (Str×Value)).length) I3 L hj iE br f3 (λb hb=>fS (rH b hb) (by rw[wV];exact iO _)) D8 dW
 have pC:tn 0 h₁:=T.keep _ _ _ gw λb hb o e=>dW b o (bz _ e)
 generalize wW:({ s₂ with heap:=s₂.heap.push { cls := .type "list",data := .seq ([]:List Value).toArray } }:Shared)=s₃ at *
 have hsz:s₃.heap.objs.size=s₂.heap.objs.size+1:=by rw[<-wW];exact wV
 have loop:∀s₄:Shared,s₄={ s₃ with heap:=h₁,toks:=s₃.toks+([]:List (Str×Value)).length } ->
   codeAny (model X.prog X.w) X.A (.compLoop (.ListComp elt [⟨.Tuple [.Name x px,.Name z pz] ck tp,iter,ifs,0⟩] scope pos) 0 (.ref it) (.ref s₂.heap.objs.size) (compEnvC scope cl s₃.heap.objs.size X.env)) (RR (.ref s₂.heap.objs.size) s₃.heap.objs.size) s₄:=by
  rintro s₄ rfl
  refine L6 (λn s' =>∃i v v' H',Inv (jD X x z ns scope cl fp pins s₃ (upd H₂ s₂.heap.objs.size (.lst []))) [] (v::v'::dB js σ) H' s'/\tn i s'.heap/\(∀b∈fp,H' b=none)/\W i n H') ?_ m0
   ⟨0,none,none,_,by subst wW;exact C0,pC,λb hb=>(f3 b hb).1,w0⟩
  rintro n s5 ⟨i,v5,v5b,H5,J5,nB,rb,w5⟩
  have rJ:∀{H':Hp},(∀b∈fp,H' b=none)->∀b∈fp,dU (jD X x z ns scope cl fp pins s₃ (upd H₂ s₂.heap.objs.size (.lst []))) [] H' b:=λhn b hb=>by
   refine⟨hn b hb,?_,?_,.inl hb,λy c e=>(f2 b hb).2.2.2.2.1 y c (L.sub _ _ e),λp hp=>?_⟩
   .show b≠s₃.heap.objs.size
    rw[hsz]
    exact bh (jo (rH b hb))
   .intro z
    rcases bS.mp (I2.ph b z) with z | z
    .exact(f2 b hb).2.1 z
    .exact(f2 b hb).2.2.1 z
   .have hp:p∈(X.pn++pins)++[]:=hp
    exact(f2 b hb).2.2.2.2.2 p (by simpa using hp)
  rcases turn i n H5 w5 with ⟨stop,qn⟩ | ⟨go,step⟩
  .refine aB (T.done (jD X x z ns scope cl fp pins s₃ _) rfl rfl rfl hc i [] s5 _ H5 (λ_ _=>False) J5 (rJ rb) nB stop) λr s6 ⟨hr,J6⟩=>?_
   subst hr
   show RR _ _ (.ok .next) s6
   rw[hsz]
   refine D7 _ H5 s6 ?_ (by rw[<-hsz];exact J6.free) (λh2 kU=>?_) qn
   .obtain⟨mm,hn,_⟩:=J6.loc
    exact⟨mm,by rw[<-hsz];exact hn⟩
   .refine Inv.Yg I3 f3 J6 λb o hb e=>kU b o ?_ e
    rw[<-hsz];exact hb
  .refine aB (T.item (jD X x z ns scope cl fp pins s₃ _) rfl rfl rfl hc i [] s5 _ H5 (λ_ _=>False) J5 (rJ rb) nB go) λr s6 ⟨u,hr,h6⟩=>?_
   subst hr
   refine aB h6 λ_ s7 ⟨xv,H7,J7,r7,y7,rK,Ea⟩=>?_
   obtain⟨av,v1,v2,ea,Yj,Yk⟩:=step xv H7 y7
   have Eb:=J7.pinned (rJ Ea) (T.obj _ _ rK)
   have hg:PG (jD X x z ns scope cl fp pins s₃ (upd H₂ s₂.heap.objs.size (.lst []))) (.Tuple [.Name x px,.Name z pz] ck tp) (K0 X.K 2 (Dt (tN 0) (Dt (tN 1) KZ))):=j1 hc (d7 (bK cZ rfl (.inl (zo hx)) (.inr (zo hx))) (d7 (bK cZ rfl (.inl (zo pP)) (.inr (zo pP))) j0))
   refine aB (hg _ s7 _ H7 xv u (λσ' H'=>σ'=some v1::some v2::dB js σ/\H'=H7) Eb r7 ⟨av,[v1,v2],ea,Yj,rfl,v1,[v2],rfl,v2,[],rfl,rfl,rfl,rfl⟩) λ_ s8 ⟨σ8,H8,J8,e8,Ec⟩=>?_
   subst e8 Ec
   have fin:∀{H':Hp}{s':Shared},Inv (jD X x z ns scope cl fp pins s₃ (upd H₂ s₂.heap.objs.size (.lst []))) ([]++tR fp s7.heap) (some v1::some v2::dB js σ) H' s'->(∃m',m'<n/\W (i+1) m' H')->
     ∃m',m'<n/\∃i v v' H',Inv (jD X x z ns scope cl fp pins s₃ (upd H₂ s₂.heap.objs.size (.lst []))) [] (v::v'::dB js σ) H' s'/\tn i s'.heap/\(∀b∈fp,H' b=none)/\W i m' H':=λ{H' s'} J9 ⟨m',hm,w9⟩=>by
    refine⟨m',hm,i+1,some v1,some v2,H',J9.q8,T.keep _ _ _ rK λb hb o e=>(J9.pin (b,o) (fE _ (fE _ (tS hb e)))).1,λb hb=>?_,w9⟩
    obtain⟨o,e,d⟩:=T.obj _ _ rK b hb
    exact(J9.pin (b,o) (fE _ (fE _ (tS hb e)))).2.1
   refine aB (ht fp pins s₃ _ _ s8 _ H8 _ J8 Yk) λok s9 ⟨H9,J9,q9⟩=>?_
   cases ok with
   |false=>
    rw[aw cj] at q9 ⊢
    exact fin J9 q9
   |true=>
    rw[aA rfl] at q9 ⊢
    refine aB (he fp pins s₃ _ _ s9 _ H9 _ J9 q9) λyv Ed ⟨y,wX,Ee,Ef,ys,Eg,hz,m',hm,Eh⟩=>?_
    refine aB (gY _ Ed _ wX (.ref s₂.heap.objs.size) [y] _ [yv] (λ_ H'=>H'=upd wX s₂.heap.objs.size (.lst (ys++[y]))) Ee rfl (.cons Ef .nil) ⟨_,ys,y,rfl,rfl,Eg,hz,rfl⟩) λ_ Xr ⟨_,Xt,Ei,_,Ak⟩=>?_
    subst Ak
    exact fin Ei ⟨m',hm,Eh⟩
 have eW:=loop _ rfl
 have e0:(newEnv scope s₃.heap.objs.size X.env.globals cl X.env.qual none .none (some X.env) 0).locals=s₃.heap.objs.size:=rfl
 exact codeAny_compStart_list eW (T.self _ 0 _ _ _ pC eW)
theorem Mq(hi:PI X (.Tuple [.Name x px,.Name z pz] ck tp) iter wi)(hc:X.calm=true)(hk:scope.kind = .function)(hj:js.map (λj=>X.N[j]?)=ns.map some)(ho:Ew x z ns scope.names X.env.scope.names=true)
  (ht:∀fp pins s H,rG (jD X x z ns scope (gF X.env.cells scope.names []) fp pins s H) ifs tt) (he:∀fp pins s H,PE (jD X x z ns scope (gF X.env.cells scope.names []) fp pins s H) elt te) (hs:∀x,foldedSetIterable iter X.env x=pure x:=by intro _;rfl) :
  PE X (.ListComp elt [⟨.Tuple [.Name x px,.Name z pz] ck tp,iter,ifs,0⟩] scope pos) (Yh X.K js wi tt te):=by
 intro pins s σ H Q I h
 obtain⟨L,iE,br,hx,pP,cZ⟩:=Ye I hk ho
 rw[eval_ListComp]
 refine UK (use:=none) rfl hs L.D5 L.kind L.names (aB (hi pins s σ H _ I h) λv s1 h1=>aB h1 λwC s2 h2=>?_)
 obtain⟨it,fp,tn,J,H2,e,I2,T,gw,f2,hq⟩:=h2
 subst e
 refine Yi (RR:=λacc C=>compPost (model X.prog X.w) X.A X.xe none (EP X pins σ Q) acc C) L hc hj iE br hx pP cZ ht he I2 T gw f2 hq ?_
 intro D H3 s' ⟨m,hn⟩ nL hI q
 exact⟨m,hn,λh' sb=>⟨.ref D,H3,hI h' λb o hb e=>sb.extBut b o hb e,rfl,q⟩⟩
end
theorem Yl{K K':PySem.W.Frag}{a:Addr}{xs:List V}{js:List Nat}{tt:TT}{te:TE}{σ:St}{H1:Hp}{Q:VK}(hn:xs.length<=10000)(ha:aj K H1 a xs)(p:Nat->Bool)(F:Addr->Nat->V->Hp->Prop)
  (mono:∀D i y H H',H1 D=none->(∃o,H D=some (.lst o))->(∀b o,b≠D->H b=some o->H' b=some o)->F D i y H->F D i y H')
  (hs:∀D i x H (Z0:Hp->Prop) (Z:V->Hp->Prop),H1 D=none->xs[i]? = some x->af H1 H->(∃o,H D=some (.lst o))->(∀H2,af H H2->p i=false->Z0 H2)->(∀y H2,af H H2->p i=true->F D i y H2->Z y H2)->
   tt (some (.int i)::some x::dB js σ) H λb H2=>if b=true then te (some (.int i)::some x::dB js σ) H2 Z else Z0 H2)
  (hd:∀D ys H,H1 D=none->H D=some (.lst ys)->af H1 H->Paired (λi y=>F D i y H) ((List.range xs.length).filter p) ys->Q (.ref D) H):Ao K' js tt te σ (uh K a xs) H1 Q:=by
 intro D hD
 have hz:10000<sizeLine:=by decide
 refine⟨λi m H=>m=xs.length - i/\i<=xs.length/\∃ys,H D=some (.lst ys)/\af H1 H/\Paired (λi y=>F D i y H) ((List.range i).filter p) ys,⟨xs.length,by simp,bC _,[],ar,af.upd hD,.nil⟩,?_⟩
 rintro i m H ⟨rfl,hi,ys,bA,sm,pr⟩
 have q:=sm.seq ha
 by_cases aJ:i<xs.length
 .refine .inr ⟨⟨q,aJ⟩,λx H' y=>?_⟩
  obtain⟨pp,v,xi,rfl,yy,rfl⟩:=y
  have jX:List.range (i+1)=List.range i++[i]:=lK
  have ln:ys.length<=i:=by
   have h1:=pr.length
   have h2:((List.range i).filter p).length<=(List.range i).length:=iQ _ _
   rw[kG] at h2
   omega
  have sp:af H (upd H pp (.tup [.int i,v])):=af.upd xi
  refine⟨pp,.int i,v,rfl,aq.of ar,hs D i v _ _ _ hD yy (sm.trans sp) ⟨ys,sp _ _ bA⟩ (λH2 s2 hp=>?_) (λz H2 s2 hp hF=>?_)⟩
  .refine⟨xs.length - (i+1),by omega,rfl,aJ,ys,s2 _ _ (sp _ _ bA),sm.trans (sp.trans s2),?_⟩
   rw[jX,jS,d5,aw (by rw[hp];exact cj),oY,gm]
   exact Paired.bM pr λj z f=>mono D j z H H2 hD ⟨ys,bA⟩ (λb o _ e=>s2 b o (sp b o e)) f
  .refine⟨ys,s2 _ _ (sp _ _ bA),by omega,xs.length - (i+1),by omega,rfl,aJ,ys++[z],ar,(sm.trans (sp.trans s2)).j8 hD,?_⟩
   have up:∀b o,b≠D->H2 b=some o->upd H2 D (.lst (ys++[z])) b=some o:=λb o hb e=>by rw[ak hb];exact e
   rw[jX,jS,d5,aA hp,oY]
   refine nj (Paired.bM pr λj z' f=>?_) (mono D i z H2 _ hD ⟨ys,s2 _ _ (sp _ _ bA)⟩ up hF)
   exact mono D j z' H2 _ hD ⟨ys,s2 _ _ (sp _ _ bA)⟩ up (mono D j z' H H2 hD ⟨ys,bA⟩ (λb o _ e=>s2 b o (sp b o e)) f)
 .have e:i=xs.length:=by omega
  subst e
  exact .inl ⟨⟨q,rfl⟩,hd D ys H hD bA sm pr⟩
theorem Ym{K K':PySem.W.Frag}{a:Addr}{xs:List V}{js:List Nat}{tt:TT}{te:TE}{σ:St}{H1:Hp}{Q:VK}(hn:xs.length<=10000)(ha:aj K H1 a xs)(p:Nat->Bool)(F:Addr->Nat->V->Hp->Prop)
  (mono:∀D i y H H',H1 D=none->(∃o,H D=some (.lst o))->(∀b o,b≠D->H b=some o->H' b=some o)->F D i y H->F D i y H')
  (hs:∀D i x H (Z0:Hp->Prop) (Z:V->Hp->Prop),H1 D=none->xs[i]? = some x->af H1 H->(∃o,H D=some (.lst o))->(∀H2,af H H2->p i=false->Z0 H2)->(∀y H2,af H H2->p i=true->F D i y H2->Z y H2)->
   ∃b v1 v2,x = .ref b/\aq K' H b [v1,v2]/\tt (some v1::some v2::dB js σ) H λb H2=>if b=true then te (some v1::some v2::dB js σ) H2 Z else Z0 H2)
  (hd:∀D ys H,H1 D=none->H D=some (.lst ys)->af H1 H->Paired (λi y=>F D i y H) ((List.range xs.length).filter p) ys->Q (.ref D) H):Ao K' js tt te σ (q0 K a) H1 Q:=by
 intro D hD
 have hz:10000<sizeLine:=by decide
 refine⟨λi m H=>m=xs.length - i/\i<=xs.length/\∃ys,H D=some (.lst ys)/\af H1 H/\Paired (λi y=>F D i y H) ((List.range i).filter p) ys,⟨xs.length,by simp,bC _,[],ar,af.upd hD,.nil⟩,?_⟩
 rintro i m H ⟨rfl,hi,ys,bA,sm,pr⟩
 have q:=sm.seq ha
 by_cases aJ:i<xs.length
 .refine .inr ⟨⟨xs,_,q,bg aJ⟩,λv H' y=>?_⟩
  obtain⟨rfl,yy⟩:=y
  have yy:=yy xs q
  have jX:List.range (i+1)=List.range i++[i]:=lK
  have ln:ys.length<=i:=by
   have h1:=pr.length
   have h2:((List.range i).filter p).length<=(List.range i).length:=iQ _ _
   rw[kG] at h2
   omega
  have sp:af H' H':=af.cQ _
  refine hs D i v _ _ _ hD yy (sm.trans sp) ⟨ys,sp _ _ bA⟩ (λH2 s2 hp=>?_) (λz H2 s2 hp hF=>?_)
  .refine⟨xs.length - (i+1),by omega,rfl,aJ,ys,s2 _ _ (sp _ _ bA),sm.trans (sp.trans s2),?_⟩
   rw[jX,jS,d5,aw (by rw[hp];exact cj),oY,gm]
   exact Paired.bM pr λj z f=>mono D j z H' H2 hD ⟨ys,bA⟩ (λb o _ e=>s2 b o (sp b o e)) f
  .refine⟨ys,s2 _ _ (sp _ _ bA),by omega,xs.length - (i+1),by omega,rfl,aJ,ys++[z],ar,(sm.trans (sp.trans s2)).j8 hD,?_⟩
   have up:∀b o,b≠D->H2 b=some o->upd H2 D (.lst (ys++[z])) b=some o:=λb o hb e=>by rw[ak hb];exact e
   rw[jX,jS,d5,aA hp,oY]
   refine nj (Paired.bM pr λj z' f=>?_) (mono D i z H2 _ hD ⟨ys,s2 _ _ (sp _ _ bA)⟩ up hF)
   exact mono D j z' H2 _ hD ⟨ys,s2 _ _ (sp _ _ bA)⟩ up (mono D j z' H' H2 hD ⟨ys,bA⟩ (λb o _ e=>s2 b o (sp b o e)) f)
 .have e:i=xs.length:=by omega
  subst e
  exact .inl ⟨⟨xs,q,aP _⟩,hd D ys H hD bA sm pr⟩
section
variable{X:Cx}{K:PySem.W.Frag}{a b:Expr}{ta tb:TE}{pos:Pos}
theorem Yn{op:CmpOp}{rr:PySem.W.Frag->R2}(hK:X.K=K)(hr:cN X (compareOp op) (rr X.K))(ha:PE X a ta)(hb:PE X b tb)(hm:behindInMarks op b=false):PE X (.Compare a [op] [b] pos) (pD (rr K) ta tb):=by
 subst hK
 exact pG hr ha hb hm
theorem Mr{op:CmpOp}{rr:PySem.W.Frag->R2}(hK:X.K=K)(hr:cN X (compareOp op) (rr X.K))(ha:PE X a ta)(hb:PE X b tb)(hm:behindInMarks op b=false):PT X (.Compare a [op] [b] pos) (Dz (pD (rr K) ta tb)):=by
 subst hK
 exact bT hr ha hb hm
end
def gb(a b:Str):Bool := !ltCps b.cps.toList a.cps.toList
theorem rQ{a b:Str}:gb a b=true↔a.cps.toList<=b.cps.toList:=by
 unfold gb
 rw[ltCps_eq]
 by_cases h:b.cps.toList<a.cps.toList
 .rw[aG h]
  exact⟨(λz=>nomatch z),(λz=>absurd h (List.not_lt.mpr z))⟩
 .rw[aH h]
  exact⟨λ_=>List.not_lt.mp h,λ_=>rfl⟩
theorem Yo{a b:Str}(h1:gb a b=true)(h2:gb b a=true):a=b:=by
 have e:=List.le_antisymm (rQ.mp h1) (rQ.mp h2)
 cases a;cases b
 exact eD Str.mk (Array.toList_inj.mp e)
theorem Ms{a b c:Str}(h1:gb a b=true)(h2:gb b c=true):gb a c=true:=rQ.mpr (List.le_trans (rQ.mp h1) (rQ.mp h2))
theorem Yp(a b:Str):(gb a b||gb b a)=true:=by
 rcases List.le_total a.cps.toList b.cps.toList with h | h
 .rw[rQ.mpr h,Bool.true_or]
 .rw[rQ.mpr h,Bool.or_true]
def cx(l:List Str):List Str:=l.mergeSort gb
theorem ka(l:List Str):(cx l).Perm l:=List.mergeSort_perm l gb
theorem Ex(l:List Str):(cx l).Pairwise (λa b=>gb a b=true):=List.pairwise_mergeSort (le:=gb) (λ_ _ _ h1 h2=>Ms h1 h2) Yp l
theorem Mu:∀{p:Str}{l:List Str},risingS p l=true->(p::l).Pairwise (λa b=>gb a b=true)
 |p,[],_=>List.pairwise_singleton _ _
 |p,x::r,h=>by
  unfold risingS at h
  rw[dZ] at h
  have ih:=Mu h.2
  have h1:gb p x=true:=h.1
  refine List.Pairwise.cons (λy hy=>?_) ih
  rcases bS.mp hy with z | z
  .rw[z];exact h1
  .exact Ms h1 ((List.pairwise_cons.mp ih).1 y z)
theorem Mv{l:List Str}(h:sortedS l=true):l.Pairwise (λa b=>gb a b=true):=by
 cases l with
 |nil=>exact List.Pairwise.nil
 |cons p r=>exact Mu h
theorem Ap{l m:List Str}(hp:l.Perm m)(h:l.Pairwise (λa b=>gb a b=true)):cx m=l:=
 (List.Perm.eq_of_pairwise (le:=λa b=>gb a b=true) (λ_ _ _ _=>Yo) h (Ex m) (hp.trans (ka m).symm)).symm
theorem Mw{ss:List Str}:∀{us:List Value},StrsAre us ss->Vals (ss.map V.str) us:=by
 induction ss with
 |nil=>intro us h;cases h;exact .nil
 |cons x r ih=>
  intro us h
  cases h with
  |cons _ t q=>exact .cons ⟨t,rfl⟩ (ih q)
section
variable{X:Cx}
theorem Ey:fW X (.builtin "sorted") (λxs H Q=>∃(a:Addr) (ss:List Str),xs=[.ref a]/\aj X.K H a (ss.map V.str)/\ss.length<64/\∀p,H p=none->Q (.ref p) (upd H p (.lst ((cx ss).map V.str)))):=by
 intro pins s σ H xs us Q I r h
 obtain⟨l,ss,rfl,hq,eO,q⟩:=h
 obtain⟨u,rfl,ru⟩:=vals1 r
 cases ru
 obtain⟨its,rv,pl,hz⟩:=I.list hq
 have hS:StrsAre its ss:=Ek rv
 have hlen:its.length=ss.length:=by rw[<-rv.length,ax]
 refine sorted_strs pl.isList hS (by omega) λout Ez a1 a2 a3=>?_
 obtain⟨e,he⟩:=sortedAll_at s.heap its out
 have e1:cx ss=Ez:=Ap a2 (Mv a3)
 have hf:H (s.heap.objs.size+1)=none:=I.aC.fresh (iO _)
 refine⟨.ref (s.heap.objs.size+1),_,I.laid (a:=s.heap.objs.size+1) (o := .lst ((cx ss).map V.str)) (t':=s.toks) (λb o z=>sortedAll_old z) (iO _) ?_,rfl,q _ hf⟩
 have iC:(cx ss).length=ss.length:=(ka ss).length_eq
 have Yq:(64:Nat)<=sizeLine:=by decide
 refine⟨by rw[ax];omega,out.toList,e,?_,by simpa using he⟩
 rw[e1]
 exact Mw a1
theorem Mx:∀{ss:List Str}{vs:List Value},vs.length=ss.length->(∀(j:Nat) (v:Value),vs[j]? = some v->∃x t,ss[j]? = some x/\v = .str x t)->StrsAre vs ss
 |[],[],_,_=>.nil
 |[],_::_,h,_=>by simp at h
 |_::_,[],h,_=>by simp at h
 |x::r,v::t,h,f=>by
  obtain⟨y,tk,e1,e2⟩:=f 0 v rfl
  simp at e1
  subst e1 e2
  exact .cons _ _ (Mx (by simpa using h) λj u hu=>by simpa using f (j+1) u (by simpa using hu))
def bb(kvs:List (Key×V)):List Str:=kvs.map λq=>match q.1 with | .inr x=>x | .inl _=>⟨#[]⟩
def mh(kvs:List (Key×V)):Prop := ∀q∈kvs,∃x,q.1=Sum.inr x
theorem Yr(hc:X.calm=true):fW X (.builtin "sorted") (λxs H Q=>∃(a:Addr) (kvs:List (Key×V)),xs=[.ref a]/\H a=some (.dK kvs)/\mh kvs/\kvs.length<64/\∀p,H p=none->Q (.ref p) (upd H p (.lst ((cx (bb kvs)).map V.str)))):=by
 intro pins s σ H xs us Q I r h
 obtain⟨d,kvs,rfl,hd,hk,eO,q⟩:=h
 obtain⟨u,rfl,ru⟩:=vals1 r
 cases ru
 have Yq:(64:Nat)<=sizeLine:=by decide
 obtain⟨hz,hS,vs,rel,dd⟩:kvs.length<=sizeLine/\(d==sysModules)=false/\∃vs,KV kvs vs/\s.heap.DictOf (bN X.prog X.w) d vs:=I.aC d _ hd
 obtain⟨ep,rR⟩:=dd.dictAt
 have xj:vs.length=kvs.length:=(jj rel).symm
 have hh:X.A.handled=none:=I.ok.hd hc
 refine Calls.call_function_entry kind_sorted plain_sorted entry_sorted (args_sorted1 _) ?_
 unfold Builtin.«sorted»
 refine ai (m:=checkCount "sorted" 1 1 _) (aM ?_)
 refine ai (PySem.W.kdu_collect (A:=X.A.in1) (PySem.W.kdl_dict (knd:=bN X.prog X.w) (kvs:=vs) (ep:=ep) hS) hh rR (by omega) λh' tk acc EA My=>?_)
 have hl:acc.toList.length=kvs.length:=by rw[lI,<-xj];exact My.1
 have EB:StrsAre acc.toList (bb kvs):=by
  refine Mx (by rw[hl];unfold bb;rw[ax]) λj v e=>?_
  obtain⟨k,x,hx,rS⟩:=My.2 j v (by rw[<-Array.getElem?_toList];exact e)
  obtain⟨y,hy,e1,_⟩:=Paired.get rel hx
  obtain⟨z,Mz⟩:=hk y (bE hy)
  have e1:y.1=k:=e1
  rw[Mz] at e1
  subst e1
  rcases jW (show ny (Sum.inr z) v=true from rS) with ⟨i,t,e2,e3⟩ | ⟨x',t,e2,e3⟩
  .cases e2
  .cases e2
   refine⟨z,t,?_,e3⟩
   unfold bb
   rw[bu,hy]
   simp[Mz]
 refine ai (wpAny_newList ?_ (by rw[hl];omega))
 have wz:(h'.push (seqObj "list" acc.toList.toArray 0)).get? h'.objs.size=some (seqObj "list" acc.toList.toArray 0):=cB _ rfl
 refine ai (gQ (qI slot_list_sort ⟨_,wz,rfl⟩ entry_list_sort (list_sort_treeK strKind_oneLt wz EB.keysOf (λv₁ v₂ rest e=>keyKind_strs (by rw[<-e];exact EB)) (by omega) λd8 hp hs=>⟨_,rfl,?_⟩) (args_list_sort _)))
 refine aM ⟨_,rfl,?_⟩
 obtain⟨Ez,a1,a2,a3⟩:=sorted_out_str EB hp hs
 obtain⟨e,he⟩:=sortedHeap_at (out:=(arrOf d8).map (·.2)) wz
 have e1:cx (bb kvs)=Ez:=Ap a2 (Mv a3)
 have I1:Inv X pins σ H { s with heap:=h',toks:=tk }:=I.kept EA
 have hf:H h'.objs.size=none:=I1.aC.fresh (aP _)
 refine⟨.ref h'.objs.size,_,I1.laid (a:=h'.objs.size) (o := .lst ((cx (bb kvs)).map V.str)) (t':=tk) (λb o z=>?_) (aP _) ?_,rfl,q _ hf⟩
 .have z:h'.get? b=some o:=z
  have hb:b<h'.objs.size:=bf z
  rw[sortedHeap_old (bh hb) (by rw[lL];exact jo hb),Heap.get?_push_ne _ _ _ (bh hb)]
  exact z
 .have iC:(cx (bb kvs)).length=kvs.length:=by rw[(ka _).length_eq];unfold bb;rw[ax]
  refine⟨by rw[ax];omega,((arrOf d8).map (·.2)).toList,e,?_,by rw[Array.toArray_toList];exact he⟩
  rw[e1]
  exact Mw a1
end
section
variable{X:Cx}{pins:List (Addr×Obj)}{σ:St}{H:Hp}{s:Shared}
theorem Inv.MA{a:Addr}{o u:HO}(I:Inv X pins σ H s)(ha:H a=some o)(new:cS X.prog X.w (upd H a u) s.heap a u)(h0:∀ob v,X.H₀ a≠some (.d6 ob v))(h1:∀xs,X.H₀ a≠some (.tup xs))(h2:∀ps,X.H₀ a≠some (.nz ps))
  (n1:∀xs,o ≠ .tup xs) (n2:∀y,o ≠ .own y):Inv X pins σ (upd H a u) s:=by
 have no:∀b,H b=none->upd H a u b=none:=λb hb=>by rw[ak (λz=>by rw[z,ha] at hb;cases hb)];exact hb
 refine⟨I.ok,I.os,I.bare,⟨I.base.keep,I.base.slot,λb ob e n hx=>no b (I.base.free b ob e n hx),I.base.there,λb xs e=>?_,λb ob v e=>?_,λb ps e=>?_⟩,I.loc,I.cell,no _ I.free,λx c e=>no c (I.fI x c e),λp hp=>?_,λb v q=>?_,I.len⟩
 .rw[ak (λz=>h1 xs (by rw[<-z];exact e))];exact I.base.fU b xs e
 .rw[ak (λz=>h0 ob v (by rw[<-z];exact e))];exact I.base.jr b ob v e
 .rw[ak (λz=>h2 ps (by rw[<-z];exact e))];exact I.base.jY b ps e
 .obtain⟨p1,p2,p3,p4,p5⟩:=I.pin p hp
  exact⟨p1,no _ p2,p3,p4,p5⟩
 .by_cases hb:b=a
  .subst hb
   rw[ar] at q
   cases q
   exact new
  .rw[ak hb] at q
   refine(I.aC b v q).iT (λc w _ e=>e) (λc e=>?_) λc xs e=>?_
   .rw[ak (λz=>n2 b (by rw[z,ha] at e;exact dm e))];exact e
   .rw[ak (λz=>n1 xs (by rw[z,ha] at e;exact dm e))];exact e
end
def EC(a:Addr)(ob:Obj)(kvs:List (Key×V)):It:=
 ⟨λi H=>H a=some (.d6 ob (.dK kvs))/\i<kvs.length,λi H x H'=>H'=H/\∃q,kvs[i]? = some q/\x=kV q.1,λi H=>H a=some (.d6 ob (.dK kvs))/\i=kvs.length⟩
theorem Ys{k:Key}{v:Value}(h:ny k v=true):RelV (kV k) v:=by
 rcases jW h with ⟨i,t,rfl,rfl⟩ | ⟨x,t,rfl,rfl⟩
 .exact⟨t,rfl⟩
 .exact⟨t,rfl⟩
theorem Yt{P:Program}{w:World}{K:PySem.W.Frag}{tg:Expr}{a it:Addr}{ob:Obj}{kvs:List (Key×V)}{vs:List (Key×Value)}{ep:Nat}(dI:a≠it)(rel:KV kvs vs)(hD:∀h:Heap,h.get? a=some ob->h.DictAt (bN P w) a vs ep) :
  Turn P w K tg (EC a ob kvs) [it] it (λi h=>h.IsKeyIter it a i vs.length ep) where
 mem:=by simp
 obj:=λi h st b hb=>by
  obtain rfl:b=it:=by simpa using hb
  obtain⟨o,e,c,d⟩:=st
  exact⟨o,e,λv z=>by rw[d] at z;cases z⟩
 keep:=λi h h' st k=>st.at λo e=>k it (by simp) o e
 item:=by
  intro X hP hw hK hc i pins s σ H E I hf st hg
  subst hP hw hK
  obtain⟨f0,f1,f2,f3,f4,f5⟩:=hf it (by simp)
  obtain⟨ha,hi⟩:=hg
  have W:=Walks.dictKeys (knd:=bN X.prog X.w) (A:=X.A) (I.ok.hd hc) it a dI vs ep
  have xj:kvs.length=vs.length:=jj rel
  refine W.item i s _ _ (by omega) ⟨st,hD _ (I.aC a _ ha).1⟩ λv h' tk hv d8 kk=>?_
  obtain⟨k,x,hx,hk⟩:=hv
  obtain⟨q,hq,e1,_⟩:=Paired.get rel hx
  have I1:Inv X pins σ H { s with heap:=h',toks:=tk }:=I.turned (λb o hb e=>kk b o (by simpa using hb) e) f0 f1 f3 f4 f5
  obtain⟨o,e4,e5,e6⟩:=id d8.1
  have hk:ny k v=true:=hk
  refine⟨_,rfl,tP (s:={ s with heap:=h',toks:=tk }) e4 e5 e6 (by decide) ⟨kV k,H,I1,Ys hk,⟨rfl,q,hq,by rw[show q.1=k from e1]⟩,d8.1,λb hb=>(hf b hb).1⟩⟩
 done:=by
  intro X hP hw hK hc i pins s σ H E I hf st hg
  subst hP hw hK
  obtain⟨f0,f1,f2,f3,f4,f5⟩:=hf it (by simp)
  obtain⟨ha,hi⟩:=hg
  have W:=Walks.dictKeys (knd:=bN X.prog X.w) (A:=X.A) (I.ok.hd hc) it a dI vs ep
  have xj:kvs.length=vs.length:=jj rel
  have hi:i=vs.length:=by omega
  subst hi
  exact W.done s _ _ ⟨st,hD _ (I.aC a _ ha).1⟩ λh' tk kk=>⟨rfl,I.turned (λb o hb e=>kk b o (by simpa using hb) e) f0 f1 f3 f4 f5⟩
 self:=λ_ _ _ _ _ st h=>wpAny_pyIter_keyiter st h
def Yu(tl:TE):TI:=λσ H R=>tl σ H λx H1=>∃a ob kvs,x = .ref a/\H1 a=some (.d6 ob (.dK kvs))/\R (EC a ob kvs) H1
theorem Yv{X:Cx}{tg l:Expr}{tl:TE}(hl:PE X l tl):PI X tg l (Yu tl):=by
 intro pins s σ H R I h
 refine aB (hl pins s σ H _ I h) λv s1 ⟨x,H1,I1,r1,q1⟩=>?_
 obtain⟨a,ob,kvs,rfl,ha,q⟩:=q1
 cases r1
 obtain⟨pQ,hz,hS,vs,rel,dd⟩:=I1.aC a _ ha
 obtain⟨ep,rR⟩:=dd.dictAt
 have aJ:a<s1.heap.objs.size:=bf pQ
 refine wpAny_pyIter_dict hS rR ?_
 refine⟨s1.heap.objs.size,[s1.heap.objs.size],_,_,H1,rfl,I1.kept (t':=s1.toks) λb o e=>bz _ e,Yt (bh aJ) rel (λh' e=>?_),⟨_,cB _ rfl,rfl,rfl⟩,λb hb=>?_,q⟩
 .exact rR.at' λo e'=>by rw[pQ] at e';cases e';exact e
 .obtain rfl:b=s1.heap.objs.size:=by simpa using hb
  exact I1.gT (aP _) I1.fresh
theorem Yw{a:Addr}{ob:Obj}{kvs:List (Key×V)}:nQ (EC a ob kvs) (λH=>H a=some (.d6 ob (.dK kvs))) (kvs.map λq=>kV q.1):=
 ⟨λi H h hi=>⟨h,by simpa using hi⟩,λi H x H' h _ y=>⟨y.1,by
  obtain⟨_,q,e1,e2⟩:=y
  rw[bu,e1,e2]
  rfl⟩,λH h=>⟨h,by simp⟩⟩
def Yx(t:TS):TS:=λD σ H=>∃a kvs,H a=some (.dK kvs)/\∀ob,t { nx:=λσ' H'=>H' a=some (.d6 ob (.dK kvs))/\D.nx σ' (upd H' a (.dK kvs)),bk:=λ_ _=>False,ct:=λ_ _=>False,rt:=λ_ _=>False } σ (upd H a (.d6 ob (.dK kvs)))
theorem Yy{X:Cx}{st:Stmt}{t:TS}(h:PS X st t):PS X st (Yx t):=by
 intro pins s σ H D I hq
 obtain⟨a,kvs,ha,hq⟩:=hq
 have ok:=I.aC a _ ha
 obtain⟨z,y,vs,r,ob,es,ep,pQ,rest⟩:=id ok
 have h0:∀ob v,X.H₀ a≠some (.d6 ob v):=λob v e=>by have:=I.base.jr a ob v e;rw[ha] at this;cases this
 have h1:∀xs,X.H₀ a≠some (.tup xs):=λxs e=>by have:=I.base.fU a xs e;rw[ha] at this;cases this
 have h2:∀ps,X.H₀ a≠some (.nz ps):=λps e=>by obtain⟨m,this⟩:=I.base.jY a ps e;rw[ha] at this;cases this
 have I1:Inv X pins σ (upd H a (.d6 ob (.dK kvs))) s:=I.MA ha ⟨pQ,ok⟩ h0 h1 h2 (λ_ z=>by cases z) (λ_ z=>by cases z)
 refine aB (h pins s σ _ _ I1 (hq ob)) λf s1 hs=>?_
 cases f with
 |next=>
  obtain⟨σ',H1,J,e1,q⟩:=hs
  exact⟨σ',upd H1 a (.dK kvs),J.MA e1 (J.aC a _ e1).2 h0 h1 h2 (λ_ z=>by cases z) (λ_ z=>by cases z),q⟩
 |brk=>obtain⟨_,_,_,q⟩:=hs;exact q.elim
 |cont=>obtain⟨_,_,_,q⟩:=hs;exact q.elim
 |ret u=>obtain⟨_,_,_,_,_,q⟩:=hs;exact q.elim
def xk(x:Str):It:=
 ⟨λi _=>i<x.cps.size,λi H v H' =>∃p c,H p=none/\v = .ref p/\x.cps.toList[i]? = some c/\H'=upd H p (.tup [.int i,.str ⟨#[c]⟩]),λi _=>i=x.cps.size⟩
theorem MB{prog:Program}{w:World}{A:Around}(hh:A.handled=none)(it:Addr)(x:Str)(t:Tok):Draws prog w A it [it] x.cps.size (λi v=>∃c u,x.cps[i]? = some c/\v = .str ⟨#[c]⟩ u) (λi h=>h.IsStrIter it (strIterType x) x t i):=by
 unfold strIterType
 split
 .exact Draws.strAscii hh it x t
 .exact Draws.strWide hh it x t
theorem Yz{P:Program}{w:World}{K:PySem.W.Frag}{elts:List Expr}{k:Nat}{pos:Pos}(it e:Addr)(x:Str)(t:Tok)(g9:e≠it) :
  Turn P w K (.Tuple elts k pos) (xk x) [e,it] e (λi h=>(∃old,IsEnum h e it i old)/\h.IsStrIter it (strIterType x) x t i) where
 mem:=by simp
 obj:=λi h st b hb=>by
  obtain⟨⟨old,he⟩,o,ho,hc,hd⟩:=st
  rcases bS.mp hb with z | z
  .subst z
   exact⟨_,he,λv z=>by
    have z':Data.fields _=Data.cell v:=z
    cases z'⟩
  .have z:b=it:=by simpa using z
   subst z
   exact⟨o,ho,λv z=>by rw[hd] at z;cases z⟩
 keep:=λi h h' st kk=>by
  obtain⟨⟨old,he⟩,hit⟩:=st
  refine⟨⟨old,kk e (by simp) _ he⟩,?_⟩
  obtain⟨o,ho,r⟩:=hit
  exact⟨o,kk it (by simp) o ho,r⟩
 item:=by
  intro X hP hw hK hc i pins s σ H E I hf st hg
  subst hP hw hK
  obtain⟨⟨old,he⟩,hit⟩:=st
  have aJ:i<x.cps.size:=hg
  have fe:=hf e (by simp)
  have fi:=hf it (by simp)
  refine UL (MB (prog:=X.prog) (w:=X.w) (A:=X.A.in1) (I.ok.hd hc) it x t) he hit aJ g9 (by simp[g9]) λv h' tk nR ho kX hT hsz hk=>?_
  obtain⟨c,u,rN,rfl⟩:=nR
  have eW:x.cps.toList[i]? = some c:=by simpa using rN
  have fr:H s.heap.objs.size=none:=I.fresh
  have neT:∀b o,H b=some o->b≠e/\b≠it:=λb o q=>⟨aZ q fe.1,aZ q fi.1⟩
  have I1:Inv X pins σ (upd H s.heap.objs.size (.tup [.int i,.str ⟨#[c]⟩])) { s with heap:=h',toks:=tk+1 }:=by
   refine I.qW (s':={ s with heap:=h',toks:=tk+1 }) (ch:=[e,it]) rfl ⟨λb o q n _ hx=>hk b o (λz=>hx (by simp[z])) (λz=>hx (by simp[z])) q,λb o q n _ hx=>⟨o.slots,hk b o (λz=>hx (by simp[z])) (λz=>hx (by simp[z])) q⟩,
    λb o q n hx=>by rw[ak (bh (bf q))];exact n,λb o q hx=>⟨o,hk b o (λz=>hx (by simp[z])) (λz=>hx (by simp[z])) q⟩,
    λb ys q=>by rw[ak (aZ q fr)];exact q,λb ob ys q=>by rw[ak (aZ q fr)];exact q,λb ps q=>⟨#[],by rw[ak (aZ q fr),q];simp⟩⟩ (λb o q=>?_) I.bare (λb hb=>?_)
   .by_cases hb:b=s.heap.objs.size
    .subst hb
     rw[ar] at q
     cases q
     exact⟨by show 2<=sizeLine;decide,[.int i tk,.str ⟨#[c]⟩ u],.cons ⟨tk,rfl⟩ (.cons ⟨u,rfl⟩ .nil),⟨_,hT,rfl,_,rfl⟩⟩
    .rw[ak hb] at q
     refine(I.aC b o q).iT (λc v hc q' =>?_) (λc q'=>by rw[ak (aZ q' fr)];exact q') λc ys q'=>by rw[ak (aZ q' fr)];exact q'
     rcases hc with z | z
     .subst z
      exact hk c v (neT c o q).1 (neT c o q).2 q'
     .exact hk c v (neT c _ z).1 (neT c _ z).2 q'
   .have z:b=e\/b=it:=by simpa using hb
    rcases z with z | z
    .subst z
     exact⟨fe.2.2.2.1,fe.2.1,fe.2.2.2.2.1,fe.2.2.2.2.2⟩
    .subst z
     exact⟨fi.2.2.2.1,fi.2.1,fi.2.2.2.2.1,fi.2.2.2.2.2⟩
  have kY:∀b∈[e,it],upd H s.heap.objs.size (.tup [.int i,.str ⟨#[c]⟩]) b=none:=λb hb=>by
   have z:b=e\/b=it:=by simpa using hb
   have rO:b<s.heap.objs.size:=by
    rcases z with z | z
    .subst z;exact bf he
    .subst z;obtain⟨o,q,_⟩:=hit;exact bf q
   rw[ak (bh rO)]
   rcases z with z | z
   .subst z;exact fe.1
   .subst z;exact fi.1
  refine⟨_,rfl,UM (s:={ s with heap:=h',toks:=tk+1 }) ho λh2 xb kK=>?_⟩
  have I2:Inv X pins σ (upd H s.heap.objs.size (.tup [.int i,.str ⟨#[c]⟩])) { s with heap:=h2,toks:=tk+1 } :=
   Inv.turned (s:={ s with heap:=h',toks:=tk+1 }) (h':=h2) (t':=tk+1) (it:=e) I1 (λb o hb q=>(kK.2 b hb).trans q) (kY e (by simp)) fe.2.1 fe.2.2.2.1 fe.2.2.2.2.1 fe.2.2.2.2.2
  have YA:h2.IsStrIter it (strIterType x) x t (i+1):=by
   obtain⟨o,q,r⟩:=kX
   exact⟨o,(kK.2 it (bo g9)).trans q,r⟩
  refine⟨.ref s.heap.objs.size,_,I2,rfl,⟨_,_,fr,rfl,eW,rfl⟩,⟨⟨.str ⟨#[c]⟩ u,?_⟩,YA⟩,kY⟩
  have e1:((i+1:Nat):Int)=(i:Int)+1:=by omega
  rw[e1]
  exact xb
 done:=by
  intro X hP hw hK hc i pins s σ H E I hf st hg
  subst hP hw hK
  obtain⟨⟨old,he⟩,hit⟩:=st
  have ei:i=x.cps.size:=hg
  have fi:=hf it (by simp)
  refine UN (MB (prog:=X.prog) (w:=X.w) (A:=X.A.in1) (I.ok.hd hc) it x t) he (by rw[<-ei];exact hit) λh' eb=>⟨rfl,?_⟩
  exact I.turned (t':=s.toks) (it:=it) (λb o hb q=>eb b o hb q) fi.1 fi.2.1 fi.2.2.2.1 fi.2.2.2.2.1 fi.2.2.2.2.2
 self:=λ_ _ _ _ _ st h=>by
  obtain⟨⟨old,he⟩,_⟩:=st
  exact zt he h
def YB(ta:TA):TI:=λσ H R=>ta σ H λvs H1=>∃x,vs=[.str x]/\R (xk x) H1
theorem YC{X:Cx}{elts:List Expr}{k:Nat}{nF:Pos}{a:Expr}{ta:TA}{p pos:Pos}(hg:Gl X "enumerate")(hm:X.mg "enumerate"=none)(ha:PA X [a] ta)(hs:starEach [a] X.env=[(false,eval a X.env)]:=by rfl) :
  PI X (.Tuple elts k nF) (.Call (.Name "enumerate" p) [a] [] pos) (YB ta):=by
 intro pins s σ H R I h
 refine Call_ (lP I hg hm boot_enumerate (vS (aB (ha pos pins s σ H _ I h) λus s1 ⟨vs,H1,I1,r1,q1⟩=>?_) hs rfl))
 obtain⟨x,e,q⟩:=q1
 subst e
 obtain⟨u,rfl,ru⟩:=vals1 r1
 obtain⟨t,rfl⟩:=ru
 refine call_enumerate_str λh' he xc hsz hk=>?_
 have I2:Inv X pins σ H1 { s1 with heap:=h' }:=I1.kept (t':=s1.toks) hk
 refine zt (s:={ s1 with heap:=h' }) he ?_
 refine⟨s1.heap.objs.size+1,[s1.heap.objs.size+1,s1.heap.objs.size],_,_,H1,rfl,I2,Yz s1.heap.objs.size (s1.heap.objs.size+1) x t (Nat.succ_ne_self _),⟨⟨.none,he⟩,xc⟩,λb hb=>?_,q⟩
 have z:b=s1.heap.objs.size+1\/b=s1.heap.objs.size:=by simpa using hb
 rcases z with z | z
 .subst z;exact I1.gT (iO _) (I1.aC.fresh (iO _))
 .subst z;exact I1.gT (aP _) I1.fresh
theorem YD{x:Str}{g:TG}{tb:TS}{D:Ends}{σ:St}{H:Hp}(Pv:Nat->St->Hp->Prop)(h0:Pv 0 σ H)
  (hs:∀i c p σ H,x.cps.toList[i]? = some c->Pv i σ H->H p=none->g (.ref p) σ (upd H p (.tup [.int i,.str ⟨#[c]⟩])) λσ2 H2=>tb { D with nx:=Pv (i+1),ct:=Pv (i+1),bk:=D.nx } σ2 H2) (hd:∀σ H,Pv x.cps.size σ H->D.nx σ H) :
  ∃W:Nat->Nat->St->Hp->Prop,(∃m,W 0 m σ H)/\∀i m σ H,W i m σ H->
   ((xk x).stop i H/\D.nx σ H)\/((xk x).go i H/\∃N:St->Hp->Prop,(∀σ' H',N σ' H'->∃m',m'<m/\W (i+1) m' σ' H')/\∀v H',(xk x).gv i H v H'->g v σ H' λσ2 H2=>tb { D with nx:=N,ct:=N,bk:=D.nx } σ2 H2):=by
 refine⟨λi m σ H=>m=x.cps.size - i/\i<=x.cps.size/\Pv i σ H,⟨x.cps.size,by simp,bC _,h0⟩,?_⟩
 rintro i m σ H ⟨rfl,hi,p⟩
 by_cases aJ:i<x.cps.size
 .refine .inr ⟨aJ,Pv (i+1),λσ' H' p'=>⟨x.cps.size - (i+1),by omega,rfl,aJ,p'⟩,λv H' y=>?_⟩
  obtain⟨pp,c,hn,e1,e2,e3⟩:=y
  subst e1 e3
  exact hs i c pp σ H e2 p hn
 .have e:i=x.cps.size:=by omega
  subst e
  exact .inl ⟨rfl,hd σ H p⟩
section
variable{X:Cx}
def gI(z:Str)(n:Nat):Str:=⟨(List.replicate n z.cps.toList).flatten.toArray⟩
theorem MC(a:Array Nat):∀(n:Nat) (b:Array Nat),((List.replicate n a).foldl (· ++ ·) b).toList=b.toList++(List.replicate n a.toList).flatten
 |0,b=>by simp
 |n+1,b=>by
  rw[oU,List.foldl_cons,MC a n (b++a),oU,vV,Array.toList_append,oV]
theorem YE(z:Str){k:Int}(h:0<=k):Txt.mul z k=gI z k.toNat:=by
 unfold Txt.mul gI
 by_cases h1:k<1
 .have:k=0:=by omega
  subst this
  rw[aA (by decide)]
  rfl
 .rw[aw h1]
  split
  .rename_i hc
   rcases(vX _ _ ▸ hc:(k==1)=true\/(z.length==0)=true) with hc | hc
   .have:k=1:=eq_of_beq hc
    subst this
    simp
   .have hz:z.cps.toList=[]:=List.eq_nil_of_length_eq_zero (by have:=eq_of_beq hc;simpa[Str.length] using this)
    cases z with
    |mk a=>
     have ha:a = #[]:=by simpa using hz
     subst ha
     simp
  .congr 1
   apply Array.toList_inj.mp
   rw[MC]
   simp
theorem YF:cN X (binaryOp .Mult) (λx y H Q=>∃z k,x = .str z/\y = .int k/\0<=k/\k<=1000/\z.length<=1000/\Q (.str (gI z k.toNat)) H):=by
 intro pins s σ H x y v u Q I rx ry h
 obtain⟨z,k,rfl,rfl,h0,h1,hz,q⟩:=h
 obtain⟨t,rfl⟩:=rx
 obtain⟨t',rfl⟩:=ry
 refine SB.mul ⟨?_,λhk _=>?_,λhk _=>?_⟩ λt2 k2=>⟨.str (gI z k.toNat),H,I.tok _,⟨t2,by rw[YE z h0]⟩,q⟩
 .rw[Bool.or_eq_false_iff]
  exact⟨aH (by omega),aH (by omega)⟩
 .have:(1000:Int)<=(2 ^ 63 - 1) / k:=by
   rw[Int.le_ediv_iff_mul_le (by omega)]
   have:1000*k<=1000*1000:=Int.mul_le_mul_of_nonneg_left h1 (by decide)
   exact Int.le_trans this (by decide)
  omega
 .have:z.length*k.toNat<=1000*1000:=wb hz (by omega)
  unfold Builtin.Str.tooLong
  exact aH (by have hs:1000*1000<=sizeLine:=(by decide);omega)
def MD:V->List V->Hp->VK->Prop:=λx vs H Q=>∃y z,x = .str y/\vs=[.str z]/\Q (.int (Txt.count y z)) H
theorem YG:z9 X "str.count" MD:=by
 intro pins s σ H x vs v us Q I rx rv h
 obtain⟨y,z,rfl,rfl,q⟩:=h
 obtain⟨t,rfl⟩:=rx
 obtain⟨u,rfl,t',rfl⟩:=rv.one
 exact SC.count ⟨.int _,H,I.tok _,⟨_,rfl⟩,q⟩
end
structure pR(z ti to i j:Addr)(f g:List Addr):Prop where
 a1:ti≠z
 a2:to≠z
 a3:i≠z
 a4:j≠z
 a6:to≠i
 a7:to≠j
 a8:i≠j
 b1:z∉f
 b2:to∉f
 b3:j∉f
 c1:z∉g
 c2:to∉g
 c3:i∉g
section
variable{prog:Program}{w:World}{A:Around}{E:Value->Shared->Prop}{s:Shared}{z ti to i j:Addr}{f g:List Addr}{n m k:Nat}{P R:Nat->Value->Prop}{S T:Nat->Heap->Prop}{a b:Value}
theorem mv{h h':Heap}{U:Nat->Heap->Prop}{l:List Addr}{y:Addr}{q:Nat}(fr:∀i h h',U i h->(∀b∈l,∀o,h.get? b=some o->h'.get? b=some o)->U i h')(hy:y∉l)(hs:Heap.SameBut y h h')(u:U q h):U q h':=
 fr q h h' u λb hb o e=>hs.extBut b o (λx=>hy (x ▸ hb)) e
theorem YH{Q:Value->Shared->Prop}(D1:Draws prog w A i f n P S)(D2:Draws prog w A j g m R T)(Z:pR z ti to i j f g)(hz:IsZip s.heap z ti to .none)(ht:IsPair s.heap ti (.ref i) (.ref j))(ho:IsPair s.heap to a b)
  (s1:S k s.heap) (s2:T k s.heap) (l1:k<n) (l2:k<m)
  (fin:∀h' tk x y,P k x->R k y->IsZip h' z ti to (rawInt s.heap.objs.size)->IsPair h' to x y->S (k+1) h'->T (k+1) h'->IsPair h' s.heap.objs.size x y->h'.objs.size=s.heap.objs.size+1->
   (∀c o,c≠z->c≠to->c≠i->c≠j->s.heap.get? c=some o->h'.get? c=some o)->Q (.ref s.heap.objs.size) { s with heap:=h',toks:=tk }) :
  wpAny (model prog w) A (Builtin.«zip.__next__» ⟨[.ref z],[]⟩) (λr s' =>∃v,r = .done (.ret v)/\Q v s') E s:=by
 show wpAny _ _ (field (Value.ref z) 2 >>= _) _ _ s
 refine ai (iu (i:=2) hz rfl (x := .bool false) rfl ?_)
 show wpAny _ _ (field (Value.ref z) 3 >>= _) _ _ s
 refine ai (iu (i:=3) hz rfl (x := .ref ti) rfl (ai (kI ht rfl ?_)))
 show wpAny _ _ (Builtin.SmallTypes.ownedTupleIsFree (Value.ref z) >>= _) _ _ s
 refine ai ?_
 unfold Builtin.SmallTypes.ownedTupleIsFree
 refine ai (iu (i:=0) hz rfl (x := .none) rfl (aM ?_))
 simp only[jk]
 refine ai (tF (ai (iu (i:=4) hz rfl (x := .ref to) rfl (ai (zH hz (by simp) λg1 y1 u1=>?_)))))
 have y1:IsZip g1 z ti to .ellipsis:=y1
 refine ai ?_
 simp only[List.zipIdx_cons,List.zipIdx_nil,Ke,List.forIn_nil]
 refine ai (ai (wpAny_onRaise ?_))
 show wpAny _ _ (Builtin.SmallTypes.nextOf (Value.ref i) >>= _) _ _ _
 refine ai (D1.item k { s with heap:=g1 } _ _ l1 (mv D1.frame Z.b1 u1 s1) λx g2 jE px ME u2=>aM ?_)
 have o2:IsPair g2 to a b:=u2.extBut _ _ Z.a6 (u1.extBut _ _ Z.a2 ho)
 refine ai (kI o2 rfl (ai (UP (s:={ s with heap:=g2,toks:=jE }) o2 λg3 o3 u3=>?_)))
 have o3:IsPair g3 to x b:=o3
 refine ai (wc (aM ?_))
 refine ai (ai (wpAny_onRaise ?_))
 show wpAny _ _ (Builtin.SmallTypes.nextOf (Value.ref j) >>= _) _ _ _
 refine ai (D2.item k { s with heap:=g3,toks:=jE } _ _ l2 (mv D2.frame Z.c2 u3 (mv D2.frame Z.c3 u2 (mv D2.frame Z.c1 u1 s2))) λy g4 xl py xm u4=>aM ?_)
 have o4:IsPair g4 to x b:=u4.extBut _ _ Z.a7 o3
 refine ai (kI o4 rfl (ai (UP (s:={ s with heap:=g4,toks:=xl }) o4 λg5 o5 u5=>?_)))
 have o5:IsPair g5 to x y:=o5
 refine ai (wc (aM (aM ?_)))
 refine ai (kI o5 rfl (ai (wpAny_newTuple ?_)))
 have sz:g5.objs.size=s.heap.objs.size:=by rw[u5.1,u4.1,u3.1,u2.1,u1.1]
 have y5:IsZip g5 z ti to .ellipsis:=u5.extBut _ _ (bo Z.a2) (u4.extBut _ _ (bo Z.a4) (u3.extBut _ _ (bo Z.a2) (u2.extBut _ _ (bo Z.a3) y1)))
 have zl:z<g5.objs.size:=bf y5
 have kp:∀c o,c≠z->c≠to->c≠i->c≠j->s.heap.get? c=some o->g5.get? c=some o:=λc o d1 d2 d3 d4 q=>
  u5.extBut _ _ d2 (u4.extBut _ _ d4 (u3.extBut _ _ d2 (u2.extBut _ _ d3 (u1.extBut _ _ d1 q))))
 have r1:S (k+1) g5:=mv D1.frame Z.b2 u5 (mv D1.frame Z.b3 u4 (mv D1.frame Z.b2 u3 ME))
 have r2:T (k+1) g5:=mv D2.frame Z.c2 u5 xm
 show wpAny _ _ (Builtin.SmallTypes.ownedTupleHandOut (Value.ref z) (.ref g5.objs.size) >>= _) _ _ _
 refine ai ?_
 unfold Builtin.SmallTypes.ownedTupleHandOut
 have y6:IsZip (g5.push { cls := .type "tuple",data := .seq #[x,y] }) z ti to .ellipsis:=bz _ y5
 refine ai (zH (s:={ s with heap:=g5.push { cls := .type "tuple",data := .seq #[x,y] },toks:=xl }) y6 (by simp) λg7 y7 u7=>?_)
 have y7:IsZip g7 z ti to (rawInt g5.objs.size):=y7
 refine zH (s:={ s with heap:=g7,toks:=xl }) y7 (by simp) λg8 y8 u8=>?_
 have y8:IsZip g8 z ti to (rawInt g5.objs.size):=y8
 have up:∀c o,c≠z->g5.get? c=some o->g8.get? c=some o:=λc o d q=>u8.extBut _ _ d (u7.extBut _ _ d (bz _ q))
 have t8:IsPair g8 g5.objs.size x y:=u8.extBut _ _ (ze zl) (u7.extBut _ _ (ze zl) (cB _ rfl))
 have z8:g8.objs.size=g5.objs.size+1:=by rw[u8.1,u7.1,lJ]
 have w1:S (k+1) g8:=D1.frame _ g5 g8 r1 λc hc o q=>up c o (λv=>Z.b1 (v ▸ hc)) q
 have w2:T (k+1) g8:=D2.frame _ g5 g8 r2 λc hc o q=>up c o (λv=>Z.c1 (v ▸ hc)) q
 refine aM ⟨_,rfl,?_⟩
 show Q (.ref g5.objs.size) { s with heap:=g8,toks:=xl }
 rw[sz] at y8 t8 z8 ⊢
 exact fin g8 xl x y px py y8 (up _ _ Z.a2 o5) w1 w2 t8 z8 λc o d1 d2 d3 d4 q=>up c o d1 (kp c o d1 d2 d3 d4 q)
theorem YI{Q:Fin->Shared->Prop}(D1:Draws prog w A i f n P S)(D2:Draws prog w A j g m R T)(Z:pR z ti to i j f g)(hz:IsZip s.heap z ti to .none)(ht:IsPair s.heap ti (.ref i) (.ref j))(ho:IsPair s.heap to a b)
  (s1:S k s.heap) (s2:T k s.heap) (l:k=n\/(k<n/\k=m))
  (fin:∀h' tk e,(∀c o,c≠z->c≠to->c≠i->c≠j->s.heap.get? c=some o->h'.get? c=some o)->(∃o,h'.get? e=some o/\o.cls = .type "StopIteration")->E (.ref e) { s with heap:=h',toks:=tk }) :
  wpAny (model prog w) A (Builtin.«zip.__next__» ⟨[.ref z],[]⟩) Q E s:=by
 show wpAny _ _ (field (Value.ref z) 2 >>= _) _ _ s
 refine ai (iu (i:=2) hz rfl (x := .bool false) rfl ?_)
 show wpAny _ _ (field (Value.ref z) 3 >>= _) _ _ s
 refine ai (iu (i:=3) hz rfl (x := .ref ti) rfl (ai (kI ht rfl ?_)))
 show wpAny _ _ (Builtin.SmallTypes.ownedTupleIsFree (Value.ref z) >>= _) _ _ s
 refine ai ?_
 unfold Builtin.SmallTypes.ownedTupleIsFree
 refine ai (iu (i:=0) hz rfl (x := .none) rfl (aM ?_))
 simp only[jk]
 refine ai (tF (ai (iu (i:=4) hz rfl (x := .ref to) rfl (ai (zH hz (by simp) λg1 y1 u1=>?_)))))
 have y1:IsZip g1 z ti to .ellipsis:=y1
 refine ai ?_
 simp only[List.zipIdx_cons,List.zipIdx_nil,Ke,List.forIn_nil]
 refine ai (ai (wpAny_onRaise ?_))
 show wpAny _ _ (Builtin.SmallTypes.nextOf (Value.ref i) >>= _) _ _ _
 rcases l with l | ⟨l,l'⟩
 .subst l
  refine ai (D1.done { s with heap:=g1 } _ _ (mv D1.frame Z.b1 u1 s1) λg2 e u2 he=>?_)
  obtain⟨oe,e1,e2⟩:=he
  have y2:IsZip g2 z ti to .ellipsis:=u2 _ _ (bo Z.a3) y1
  have ez:e≠z:=λv=>by
   subst v
   rw[y2] at e1
   cases e1
   simp at e2
  refine zH (s:={ s with heap:=g2 }) y2 (by simp) λg3 _ u3=>fin g3 s.toks e (λc o d1 _ d3 _ q=>u3.extBut _ _ d1 (u2 _ _ d3 (u1.extBut _ _ d1 q))) ⟨oe,u3.extBut _ _ ez e1,e2⟩
 .subst l'
  refine ai (D1.item k { s with heap:=g1 } _ _ l (mv D1.frame Z.b1 u1 s1) λx g2 jE px ME u2=>aM ?_)
  have o2:IsPair g2 to a b:=u2.extBut _ _ Z.a6 (u1.extBut _ _ Z.a2 ho)
  refine ai (kI o2 rfl (ai (UP (s:={ s with heap:=g2,toks:=jE }) o2 λg3 o3 u3=>?_)))
  refine ai (wc (aM ?_))
  refine ai (ai (wpAny_onRaise ?_))
  show wpAny _ _ (Builtin.SmallTypes.nextOf (Value.ref j) >>= _) _ _ _
  refine ai (D2.done { s with heap:=g3,toks:=jE } _ _ (mv D2.frame Z.c2 u3 (mv D2.frame Z.c3 u2 (mv D2.frame Z.c1 u1 s2))) λg4 e u4 he=>?_)
  obtain⟨oe,e1,e2⟩:=he
  have y4:IsZip g4 z ti to .ellipsis:=u4 _ _ (bo Z.a4) (u3.extBut _ _ (bo Z.a2) (u2.extBut _ _ (bo Z.a3) y1))
  have ez:e≠z:=λv=>by
   subst v
   rw[y4] at e1
   cases e1
   simp at e2
  refine zH (s:={ s with heap:=g4,toks:=jE }) y4 (by simp) λg5 _ u5=>fin g5 jE e (λc o d1 d2 d3 d4 q=>u5.extBut _ _ d1 (u4 _ _ d4 (u3.extBut _ _ d2 (u2.extBut _ _ d3 (u1.extBut _ _ d1 q))))) ⟨oe,u5.extBut _ _ ez e1,e2⟩
theorem YJ{Q:Option Value->Shared->Prop}(D1:Draws prog w A.in1 i f n P S)(D2:Draws prog w A.in1 j g m R T)(Z:pR z ti to i j f g)(hz:IsZip s.heap z ti to .none)(ht:IsPair s.heap ti (.ref i) (.ref j))(ho:IsPair s.heap to a b)
  (s1:S k s.heap) (s2:T k s.heap) (l1:k<n) (l2:k<m)
  (fin:∀h' tk x y,P k x->R k y->IsZip h' z ti to (rawInt s.heap.objs.size)->IsPair h' to x y->S (k+1) h'->T (k+1) h'->IsPair h' s.heap.objs.size x y->h'.objs.size=s.heap.objs.size+1->
   (∀c o,c≠z->c≠to->c≠i->c≠j->s.heap.get? c=some o->h'.get? c=some o)->Q (some (.ref s.heap.objs.size)) { s with heap:=h',toks:=tk }) :
  wpAny (model prog w) A (pyNext (.ref z)) Q E s:=by
 have tz:s.TypeIs (.ref z) "zip":=⟨_,hz,rfl⟩
 unfold pyNext
 refine ai (zE (zF (name:=Str.ofString "__next__") tz Km (qI Km tz F.entry_zip_next
   (YH D1 D2 Z hz ht ho s1 s2 l1 l2 λh' tk x y p1 p2 p3 p4 p5 p6 p7 p8 p9=>aM (fin h' tk x y p1 p2 p3 p4 p5 p6 p7 p8 p9)) (F.args_zip_next_1 _))))
theorem YK{Q:Option Value->Shared->Prop}(D1:Draws prog w A.in1 i f n P S)(D2:Draws prog w A.in1 j g m R T)(Z:pR z ti to i j f g)(hz:IsZip s.heap z ti to .none)(ht:IsPair s.heap ti (.ref i) (.ref j))(ho:IsPair s.heap to a b)
  (s1:S k s.heap) (s2:T k s.heap) (l:k=n\/(k<n/\k=m))
  (fin:∀h' tk,(∀c o,c≠z->c≠to->c≠i->c≠j->s.heap.get? c=some o->h'.get? c=some o)->Q none { s with heap:=h',toks:=tk }):wpAny (model prog w) A (pyNext (.ref z)) Q E s:=by
 have tz:s.TypeIs (.ref z) "zip":=⟨_,hz,rfl⟩
 unfold pyNext
 refine ai (zE (zF (name:=Str.ofString "__next__") tz Km (qI Km tz F.entry_zip_next (YI D1 D2 Z hz ht ho s1 s2 l λh' tk e kp he=>?_) (F.args_zip_next_1 _))))
 obtain⟨o,e1,e2⟩:=he
 exact ai (Kk (T:="StopIteration") (b:=true) ⟨o,e1,e2⟩ isSubtype_stop (aM (fin h' tk kp)))
abbrev zA(h:Heap)(o1 o2:Obj):Heap:=(h.push o1).push o2
abbrev zB(h:Heap)(o1 o2:Obj):Heap:=(zA h o1 o2).push { cls := .type "tuple",data := .seq #[.ref h.objs.size,.ref (h.push o1).objs.size] }
abbrev zC(h:Heap)(o1 o2:Obj):Heap:=(zB h o1 o2).push { cls := .type "tuple",data := .seq #[.none,.none] }
abbrev zD(h:Heap)(o1 o2:Obj):Heap:=(zC h o1 o2).push { cls := .type "zip",data := .fields #[.none,.bool false,.bool false,.ref (zA h o1 o2).objs.size,.ref (zB h o1 o2).objs.size] }
theorem YL{v1 v2:Value}{o1 o2:Obj}{K1 K2:Shared->Prop}(h1:∀(prog:Program) (w:World) (A:Around) (E:Value->Shared->Prop) (s:Shared) (Q:Value->Shared->Prop),K1 s->Q (.ref s.heap.objs.size) { s with heap:=s.heap.push o1 }->wpAny (model prog w) A (pyIter v1) Q E s)
  (h2:∀(prog:Program) (w:World) (A:Around) (E:Value->Shared->Prop) (s:Shared) (Q:Value->Shared->Prop),K2 s->Q (.ref s.heap.objs.size) { s with heap:=s.heap.push o2 }->wpAny (model prog w) A (pyIter v2) Q E s) :
  Meets (Builtin.«zip.__new__» ⟨[.type "zip",v1,v2],[]⟩) (λ_ R s=>K1 s/\K2 { s with heap:=s.heap.push o1 }/\R (.ok (.ret (.ref (zC s.heap o1 o2).objs.size))) { s with heap:=zD s.heap o1 o2 }):=
 .of_wp λprog w A R s h=>by
  obtain⟨hp,gg,dd,tk,os⟩:=s
  obtain⟨k1,k2,h⟩:=h
  have sz:=sub_zip
  have i1:=λ(E:Value->Shared->Prop) (A:Around) (Q:Value->Shared->Prop)=>h1 prog w A E ⟨hp,gg,dd,tk,os⟩ Q k1
  have i2:=λ(E:Value->Shared->Prop) (A:Around) (Q:Value->Shared->Prop)=>h2 prog w A E ⟨hp.push o1,gg,dd,tk,os⟩ Q k2
  wp_walk using i1 _ _ _,i2 _ _ _
  exact⟨_,rfl,h⟩
end
section
variable{prog:Program}{w:World}{A:Around}{E:Value->Shared->Prop}{s:Shared}
theorem YM{v1 v2:Value}{o1 o2:Obj}{K1 K2:Shared->Prop}{Q:Value->Shared->Prop}(h1:∀(prog:Program) (w:World) (A:Around) (E:Value->Shared->Prop) (s:Shared) (Q:Value->Shared->Prop),K1 s->Q (.ref s.heap.objs.size) { s with heap:=s.heap.push o1 }->wpAny (model prog w) A (pyIter v1) Q E s)
  (h2:∀(prog:Program) (w:World) (A:Around) (E:Value->Shared->Prop) (s:Shared) (Q:Value->Shared->Prop),K2 s->Q (.ref s.heap.objs.size) { s with heap:=s.heap.push o2 }->wpAny (model prog w) A (pyIter v2) Q E s)
  (k1:K1 s) (k2:K2 { s with heap:=s.heap.push o1 }) (ED:o1.isFreed=false) (jA:o2.isFreed=false)
  (fin:∀h',IsZip h' (s.heap.objs.size+4) (s.heap.objs.size+2) (s.heap.objs.size+3) .none->IsPair h' (s.heap.objs.size+2) (.ref s.heap.objs.size) (.ref (s.heap.objs.size+1))->IsPair h' (s.heap.objs.size+3) .none .none->
   h'.get? s.heap.objs.size=some o1->h'.get? (s.heap.objs.size+1)=some o2->(∀c o,s.heap.get? c=some o->h'.get? c=some o)->Q (.ref (s.heap.objs.size+4)) { s with heap:=h' }) :
  wpAny (model prog w) A (call (.type "zip") [v1,v2]) Q E s:=by
 refine callType_new F.called_zip (by decide) (F.typeCall_zip_2 _ _) (F.newCall_zip_2 _ _) (λobj=>F.args_object_init_3 obj _ _) F.entry_zip_new (YL h1 h2) ⟨k1,k2,?_⟩
 have y1:(s.heap.push o1).objs.size=s.heap.objs.size+1:=lJ ..
 have y2:(zA s.heap o1 o2).objs.size=s.heap.objs.size+2:=by rw[lJ,y1]
 have y3:(zB s.heap o1 o2).objs.size=s.heap.objs.size+3:=by rw[lJ,y2]
 have y4:(zC s.heap o1 o2).objs.size=s.heap.objs.size+4:=by rw[lJ,y3]
 have e5:(zD s.heap o1 o2).get? (zC s.heap o1 o2).objs.size=some _:=cB _ rfl
 have e4:(zD s.heap o1 o2).get? (zB s.heap o1 o2).objs.size=some _:=bz _ (cB _ rfl)
 have EE:∀{c o},(zA s.heap o1 o2).get? c=some o->(zD s.heap o1 o2).get? c=some o:=λq=>bz _ (bz _ (bz _ q))
 have e3:(zD s.heap o1 o2).get? (zA s.heap o1 o2).objs.size=some _:=bz _ (bz _ (cB _ rfl))
 have e2:(zD s.heap o1 o2).get? (s.heap.push o1).objs.size=some o2:=EE (cB _ jA)
 have e1:(zD s.heap o1 o2).get? s.heap.objs.size=some o1:=EE (bz _ (cB _ ED))
 show _/\_
 rw[y2,y3,y4] at e5
 rw[y1,y2] at e3
 rw[y3] at e4
 rw[y1] at e2
 rw[y4]
 exact⟨⟨_,e5,rfl⟩,fin _ e5 e3 e4 e1 e2 λc o q=>EE (bz _ (bz _ q))⟩
end
theorem YN{prog:Program}{w:World}{A:Around}(hh:A.handled=none)(it:Addr)(x:Str)(t:Tok):Draws prog w A it [it] x.cps.size (λi v=>∃c u,x.cps[i]? = some c/\v = .str ⟨#[c]⟩ u) (λi h=>h.IsStrIter it (strIterType x) x t i):=by
 unfold strIterType
 split
 .exact Draws.strAscii hh it x t
 .exact Draws.strWide hh it x t
theorem Aq(n:Nat):pR (n+4) (n+2) (n+3) n (n+1) [n] [n+1]/\(n+2:Nat)≠n+3/\(n+2:Nat)≠n/\(n+2:Nat)≠n+1:=by
 have ne:∀a b:Nat,a≠b->(n+a:Nat)≠n+b:=λa b h=>by omega
 have m1:∀a b:Nat,a≠b->(n+a:Nat)∉[n+b]:=λa b h hm=>ne a b h (cI.mp hm)
 exact⟨⟨ne 2 4 (by decide),ne 3 4 (by decide),ne 0 4 (by decide),ne 1 4 (by decide),ne 3 0 (by decide),ne 3 1 (by decide),ne 0 1 (by decide),m1 4 0 (by decide),m1 3 0 (by decide),m1 1 0 (by decide),m1 4 1 (by decide),m1 3 1 (by decide),m1 0 1 (by decide)⟩,ne 2 3 (by decide),ne 2 0 (by decide),ne 2 1 (by decide)⟩
theorem YO:bootBuiltins "zip"=some (.type "zip"):=by decide +kernel
section
variable{prog:Program}{w:World}{A:Around}{E:Value->Shared->Prop}{s:Shared}{it l:Addr}{i:Nat}{items:Array Value}
theorem YQ{x:Value}{Q:Value->Shared->Prop}(hit:s.heap.IsTupleIter it l i)(hl:s.heap.IsTuple l items)(hx:items[i]? = some x)(hQ:∀h',h'.IsTupleIter it l (i+1)->Heap.SameBut it s.heap h'->Q x { s with heap:=h' }):wpAny (model prog w) A (Builtin.SmallTypes.nextOf (.ref it)) Q E s:=by
 obtain⟨o,ho,hc,hd⟩:=id hit;obtain⟨ol,EF,_,nl,EG⟩:=hl
 unfold Builtin.SmallTypes.nextOf;refine ai (zF (name:=Str.ofString "__next__") hit.typeIs Kn (qI Kn hit.typeIs F.entry_tuple_iterator_next ?_ (F.args_tuple_iterator_next_1 _)))
 show wpAny _ _ (field (.ref it) 0 >>= _) _ _ s;refine ai (iu ho hd (x := .ref l) rfl ?_)
 show wpAny _ _ (if (Value.ref l==Value.none)=true then _ else _) _ _ s;rw[aw (show ¬((Value.ref l==Value.none)=true) from cj)]
 show wpAny _ _ (field (.ref it) 1 >>= _) _ _ s;refine ai (iu ho hd (x := .int i 0) rfl ?_)
 show wpAny _ _ (seqItems? (.ref l) >>= _) _ _ s;refine ai (kI EF EG ?_);simp only[dY,hx]
 refine ai (C1 ho hd (by simp) (aM ⟨x,rfl,aM (hQ _ ⟨_,tm _ ho (UO (zG hd _)),(Obj.cls_mapFields ..).trans hc,?_⟩ (wa ..))⟩))
 rw[zG hd];simp[rawInt]
theorem YR{Q:Value->Shared->Prop}(hh:A.handled=none)(hit:s.heap.IsTupleIter it l i)(hl:s.heap.IsTuple l items)(hx:items[i]? = none)(hE:∀h' e,Heap.ExtBut it s.heap h'->(∃o,h'.get? e=some o/\o.cls = .type "StopIteration")->E (.ref e) { s with heap:=h' }):wpAny (model prog w) A (Builtin.SmallTypes.nextOf (.ref it)) Q E s:=by
 obtain⟨o,ho,hc,hd⟩:=id hit;obtain⟨ol,EF,_,nl,EG⟩:=hl
 unfold Builtin.SmallTypes.nextOf;refine ai (zF (name:=Str.ofString "__next__") hit.typeIs Kn (qI Kn hit.typeIs F.entry_tuple_iterator_next ?_ (F.args_tuple_iterator_next_1 _)))
 show wpAny _ _ (field (.ref it) 0 >>= _) _ _ s;refine ai (iu ho hd (x := .ref l) rfl ?_)
 show wpAny _ _ (if (Value.ref l==Value.none)=true then _ else _) _ _ s;rw[aw (show ¬((Value.ref l==Value.none)=true) from cj)]
 show wpAny _ _ (field (.ref it) 1 >>= _) _ _ s;refine ai (iu ho hd (x := .int i 0) rfl ?_)
 show wpAny _ _ (seqItems? (.ref l) >>= _) _ _ s;refine ai (kI EF EG ?_);simp only[dY,hx]
 refine ai (tF (ai (C1 ho hd (by simp) ?_)));show wpAny _ _ (newExc (.type "StopIteration") [] >>= _) _ _ _
 refine ai ?_;simp only[newExc,newTuple];refine ai (tw ?_ (by size_fits))
 refine ai (m:=firstArgMember _ _) (oZ (a:=Value.none) (by first | rfl | (simp only[firstArgMember];rfl)) (tw ?_ (by size_fits)))
 simp only[raiseNew];refine ai (wpAny_handled ?_)
 first | rw[show A.in1.handled=none from hh];refine ai (aM (wpAny_throw ?_)) | rw[hh];refine ai (aM (wpAny_throw ?_))
 exact hE _ _ (((wa ..).extBut.push _).push _) ⟨_,cB _ rfl,rfl⟩
end
theorem EH{prog:Program}{w:World}{A:Around}(hh:A.handled=none)(it l:Addr)(dI:l≠it)(items:Array Value) :
  Draws prog w A it [it,l] items.size (λi v=>items[i]? = some v) (λi h=>h.IsTupleIter it l i/\h.IsTuple l items) where
 live:=λ_ _ st=>by obtain⟨⟨o,ho,_⟩,_⟩:=st;exact⟨o,ho⟩
 frame:=λ_ _ _ st hk=>by obtain⟨⟨o,ho,r⟩,⟨p,hp,q⟩⟩:=st;exact⟨⟨o,hk it (by simp) o ho,r⟩,⟨p,hk l (by simp) p hp,q⟩⟩
 item:=λi s Q E hi st hQ=>YQ st.1 st.2 (x:=items[i]) (by simp[hi]) λh' a b=>hQ _ h' s.toks (by simp[hi]) ⟨a,st.2.extBut b.extBut dI⟩ b
 done:=λs Q E st hE=>YR hh st.1 st.2 (by simp) hE
theorem YS{X:Cx}{pins:List (Addr×Obj)}{σ:St}{H:Hp}{s:Shared}{a b:Addr}{xs:List V}(I:Inv X pins σ H s)(h:aq X.K H a xs)(f:dU X pins H b):a≠b:=by
 intro z
 subst z
 rcases h with (h | ⟨o,h⟩) | ⟨o,its,n,hk,_⟩
 .rw[f.1] at h;cases h
 .rw[f.1] at h;cases h
 .have e:=I.mod.qT a o hk
  rcases f.2.2.2.1 with h | h
  .exact I.ok.pe a o e h
  .exact absurd (fS (bf (I.ok.bs a o e).1) h) (qH _)
theorem YT{X:Cx}{pins:List (Addr×Obj)}{σ:St}{H:Hp}{s:Shared}{a b:Addr}{xs:List V}(I:Inv X pins σ H s)(h:aj X.K H a xs)(f:dU X pins H b):a≠b:=by
 intro z
 subst z
 rcases h with (h | ⟨o,h⟩) | ⟨o,its,n,hk,_⟩
 .rw[f.1] at h;cases h
 .rw[f.1] at h;cases h
 .have e:=I.mod.qT a o hk
  rcases f.2.2.2.1 with h | h
  .exact I.ok.pe a o e h
  .exact absurd (fS (bf (I.ok.bs a o e).1) h) (qH _)
inductive ZK where
 |L | T | S
def zq(k:ZK)(K:PySem.W.Frag)(H:Hp)(v:V)(xs:List V):Prop:=match k with
 |.L=>∃a,v = .ref a/\aj K H a xs
 |.T=>∃a,v = .ref a/\aq K H a xs
 |.S=>∃x:Str,v = .str x/\xs=x.cps.toList.map λc=>V.str ⟨#[c]⟩
def pS(k:ZK)(v:V)(t:Tok)(h:Heap)(i:Addr)(q:Nat):Prop:=match k with
 |.L=>∃a,v = .ref a/\h.IsListIter i a q
 |.T=>∃a,v = .ref a/\h.IsTupleIter i a q
 |.S=>∃x:Str,v = .str x/\h.IsStrIter i (strIterType x) x t q
theorem Ar{k:ZK}{v:V}{t:Tok}{h:Heap}{i:Addr}{q:Nat}(z:pS k v t h i q):∃o,h.get? i=some o/\∀v,o.data ≠ .cell v:=by
 cases k <;> obtain⟨_,_,o,h1,_,h3⟩:=z <;> exact⟨o,h1,λv e=>by rw[h3] at e;cases e⟩
theorem As{k:ZK}{v:V}{t:Tok}{h h':Heap}{i:Addr}{q:Nat}(z:pS k v t h i q)(m:∀o,h.get? i=some o->h'.get? i=some o):pS k v t h' i q:=by
 cases k <;> obtain⟨a,e,o,h1,r⟩:=z <;> exact⟨a,e,o,m o h1,r⟩
theorem MF{X:Cx}{pins:List (Addr×Obj)}{σ:St}{H:Hp}{s:Shared}{k:ZK}{v:V}{xs ys:List V}(I:Inv X pins σ H s)(h:zq k X.K H v xs)(g:zq k X.K H v ys):xs=ys:=by
 cases k with
 |L=>obtain⟨a,rfl,h⟩:=h;obtain⟨_,e,g⟩:=g;cases e;exact I.Dp h g
 |T=>obtain⟨a,rfl,h⟩:=h;obtain⟨_,e,g⟩:=g;cases e;exact I.Dr h g
 |S=>obtain⟨a,rfl,rfl⟩:=h;obtain⟨_,e,rfl⟩:=g;cases e;rfl
theorem Au{X:Cx}{pins:List (Addr×Obj)}{σ:St}{H:Hp}{s:Shared}{k:ZK}{v:V}{t:Tok}{xs:List V}{i:Addr}{q:Nat}(I:Inv X pins σ H s)(hh:X.A.in1.handled=none)(hq:zq k X.K H v xs)(st:pS k v t s.heap i q)(hi:dU X pins H i) :
  ∃(f:List Addr) (P:Nat->Value->Prop) (S:Nat->Heap->Prop),Draws X.prog X.w X.A.in1 i f xs.length P S/\S q s.heap/\(∀b,b≠i->dU X pins H b->b∉f)/\(∀n u x,P n u->xs[n]? = some x->RelV x u)/\∀n h,S n h->pS k v t h i n:=by
 cases k with
 |L=>
  obtain⟨a,rfl,hq⟩:=hq
  obtain⟨_,e,st⟩:=st
  cases e
  obtain⟨ia,ra,pa,_⟩:=I.list hq
  have na:=λb (hb:dU X pins H b)=>YT I hq hb
  have la:ia.toArray.size=xs.length:=by rw[bc];exact ra.length.symm
  refine⟨_,_,_,la ▸ Draws.list hh i a (na i hi) ia.toArray,⟨st,pa.isList⟩,λb hb f m=>?_,λn u x p hx=>?_,λn h s=>⟨a,rfl,s.1⟩⟩
  .rcases bS.mp m with z | z
   .exact hb z
   .exact na b f (cI.mp z).symm
  .obtain⟨u',e1,e2⟩:=ra.get hx
   have p:ia.toArray[n]? = some u:=p
   obtain rfl:u'=u:=by simpa[e1] using p
   exact e2
 |T=>
  obtain⟨a,rfl,hq⟩:=hq
  obtain⟨_,e,st⟩:=st
  cases e
  obtain⟨ia,ra,pa,_⟩:=I.tuple hq
  have na:=λb (hb:dU X pins H b)=>YS I hq hb
  have la:ia.toArray.size=xs.length:=by rw[bc];exact ra.length.symm
  refine⟨_,_,_,la ▸ EH hh i a (na i hi) ia.toArray,⟨st,pa⟩,λb hb f m=>?_,λn u x p hx=>?_,λn h s=>⟨a,rfl,s.1⟩⟩
  .rcases bS.mp m with z | z
   .exact hb z
   .exact na b f (cI.mp z).symm
  .obtain⟨u',e1,e2⟩:=ra.get hx
   have p:ia.toArray[n]? = some u:=p
   obtain rfl:u'=u:=by simpa[e1] using p
   exact e2
 |S=>
  obtain⟨x,rfl,rfl⟩:=hq
  obtain⟨_,e,st⟩:=st
  cases e
  refine⟨_,_,_,(show x.cps.size=(x.cps.toList.map λc=>V.str ⟨#[c]⟩).length by rw[ax,lI]) ▸ YN hh i x t,st,λb hb f m=>hb (cI.mp m),λn u y p hy=>?_,λn h s=>⟨x,rfl,s⟩⟩
  obtain⟨c,u1,h1,rfl⟩:=p
  rw[bu,Array.getElem?_toList,h1] at hy
  cases hy
  exact⟨u1,rfl⟩
theorem MG{X:Cx}{pins:List (Addr×Obj)}{σ:St}{H:Hp}{s:Shared}{k:ZK}{v:V}{u:Value}{xs:List V}(I:Inv X pins σ H s)(hq:zq k X.K H v xs)(r:RelV v u) :
  ∃(o1:Obj) (K1:Shared->Prop) (t:Tok),(∀(prog:Program) (w:World) (A:Around) (E:Value->Shared->Prop) (s:Shared) (Q:Value->Shared->Prop),K1 s->Q (.ref s.heap.objs.size) { s with heap:=s.heap.push o1 }->wpAny (model prog w) A (pyIter u) Q E s)/\K1 s/\(∀o,K1 { s with heap:=s.heap.push o })/\o1.isFreed=false/\∀h i,h.get? i=some o1->pS k v t h i 0:=by
 cases k with
 |L=>
  obtain⟨a,rfl,hq⟩:=hq
  cases r
  obtain⟨ia,ra,pa,_⟩:=I.list hq
  exact⟨{ cls := .type "list_iterator",data := .fields #[.ref a,.int 0 0] },λs=>s.heap.IsList a ia.toArray,0,λ_ _ _ _ _ _ hk hq=>tf hk hq,pa.isList,λo=>pa.isList.push o,rfl,λh i e=>⟨a,rfl,_,e,rfl,rfl⟩⟩
 |T=>
  obtain⟨a,rfl,hq⟩:=hq
  cases r
  obtain⟨ia,ra,pa,_⟩:=I.tuple hq
  exact⟨{ cls := .type "tuple_iterator",data := .fields #[.ref a,.int 0 0] },λs=>s.heap.IsTuple a ia.toArray,0,λ_ _ _ _ _ _ hk hq=>J0 hk hq,pa,λo=>pa.push o,rfl,λh i e=>⟨a,rfl,_,e,rfl,rfl⟩⟩
 |S=>
  obtain⟨x,rfl,_⟩:=hq
  obtain⟨t,rfl⟩:=r
  exact⟨{ cls := .type (strIterType x),data := .fields #[.str x t,.int 0 0] },λ_=>True,t,λ_ _ _ _ _ _ _ hq=>wpAny_pyIter_strU hq,trivial,λ_=>trivial,rfl,λh i e=>⟨x,rfl,_,e,rfl,rfl⟩⟩
def xn(k1 k2:ZK)(K:PySem.W.Frag)(va vb:V):It:=
 ⟨λi H=>∃xs ys x y,zq k1 K H va xs/\zq k2 K H vb ys/\xs[i]? = some x/\ys[i]? = some y,
  λi H v H' =>∃p x y,H p=none/\v = .ref p/\(∀xs,zq k1 K H va xs->xs[i]? = some x)/\(∀ys,zq k2 K H vb ys->ys[i]? = some y)/\H'=upd H p (.tup [x,y]),
  λi H=>∃xs ys,zq k1 K H va xs/\zq k2 K H vb ys/\i=min xs.length ys.length⟩
theorem YU{P:Program}{w:World}{K:PySem.W.Frag}{elts:List Expr}{kk:Nat}{pos:Pos}(k1 k2:ZK)(va vb:V)(t1 t2:Tok)(z ti to i j:Addr)(Z:pR z ti to i j [i] [j])(YV:ti≠to)(YW:ti≠i)(YX:ti≠j) :
  Turn P w K (.Tuple elts kk pos) (xn k1 k2 K va vb) [z,ti,to,i,j] z (λq h=>IsZip h z ti to .none/\IsPair h ti (.ref i) (.ref j)/\(∃a b,IsPair h to a b)/\pS k1 va t1 h i q/\pS k2 vb t2 h j q) where
 mem:=by simp
 obj:=λq h st b hb=>by
  obtain⟨h1,h2,⟨a,b',h3⟩,h4,h5⟩:=st
  simp only[bS,gr,we] at hb
  rcases hb with rfl | rfl | rfl | rfl | rfl
  .exact⟨_,h1,λv e=>by have e:Data.fields _=Data.cell v:=e;cases e⟩
  .exact⟨_,h2,λv e=>by have e:Data.seq _ _=Data.cell v:=e;cases e⟩
  .exact⟨_,h3,λv e=>by have e:Data.seq _ _=Data.cell v:=e;cases e⟩
  .exact Ar h4
  .exact Ar h5
 keep:=λq h h' st k=>by
  obtain⟨h1,h2,⟨a,b',h3⟩,h4,h5⟩:=st
  exact⟨k z (by simp) _ h1,k ti (by simp) _ h2,⟨a,b',k to (by simp) _ h3⟩,As h4 (k i (by simp)),As h5 (k j (by simp))⟩
 item:=by
  intro X hP hw hK hc q pins s σ H E I hf st hg
  subst hP hw hK
  obtain⟨h1,h2,⟨a,b',h3⟩,h4,h5⟩:=st
  obtain⟨xs,ys,c,d,fM,Av,EI,EJ⟩:=hg
  have YY:=(cn.mp EI).1
  have YZ:=(cn.mp EJ).1
  have hh:X.A.in1.handled=none:=I.ok.hd hc
  obtain⟨f1,P1,S1,D1,EK,n1,MH,up1⟩:=Au I hh fM h4 (hf i (by simp))
  obtain⟨f2,P2,S2,D2,gw,n2,MI,MJ⟩:=Au I hh Av h5 (hf j (by simp))
  have Z2:pR z ti to i j f1 f2:=⟨Z.a1,Z.a2,Z.a3,Z.a4,Z.a6,Z.a7,Z.a8,n1 z (bo Z.a3) (hf z (by simp)),n1 to Z.a6 (hf to (by simp)),n1 j (bo Z.a8) (hf j (by simp)),n2 z (bo Z.a4) (hf z (by simp)),n2 to Z.a7 (hf to (by simp)),n2 i Z.a8 (hf i (by simp))⟩
  refine YJ D1 D2 Z2 h1 h2 h3 EK gw YY YZ λh' tk u1 u2 p1 p2 g1 g2 g3 g4 g5 g6 kp=>?_
  have r1:=MH _ _ _ p1 EI
  have r2:=MI _ _ _ p2 EJ
  have fr:H s.heap.objs.size=none:=I.fresh
  have fz:=hf z (by simp)
  have ft:=hf ti (by simp)
  have fo:=hf to (by simp)
  have fi:=hf i (by simp)
  have fj:=hf j (by simp)
  have lg:∀b o,b∉[z,to,i,j]->s.heap.get? b=some o->h'.get? b=some o:=λb o hb e=>kp b o (λv=>hb (by simp[v])) (λv=>hb (by simp[v])) (λv=>hb (by simp[v])) (λv=>hb (by simp[v])) e
  have xo:∀b o,H b=some o->b∉[z,to,i,j]:=λb o e hb=>by
   simp only[bS,gr,we] at hb
   rcases hb with v | v | v | v
   .exact aZ e fz.1 v
   .exact aZ e fo.1 v
   .exact aZ e fi.1 v
   .exact aZ e fj.1 v
  have I1:Inv X pins σ (upd H s.heap.objs.size (.tup [c,d])) { s with heap:=h',toks:=tk }:=by
   refine I.qW (s':={ s with heap:=h',toks:=tk }) (ch:=[z,to,i,j]) rfl ⟨λb o e n _ hx=>lg b o hx e,λb o e n _ hx=>⟨o.slots,lg b o hx e⟩,
    λb o e n hx=>by rw[ak (bh (bf e))];exact n,λb o e hx=>⟨o,lg b o hx e⟩,
    λb ys e=>by rw[ak (aZ e fr)];exact e,λb ob ys e=>by rw[ak (aZ e fr)];exact e,λb ps e=>⟨#[],by rw[ak (aZ e fr),e];simp⟩⟩ (λb o e=>?_) I.bare (λb hb=>?_)
   .by_cases hb:b=s.heap.objs.size
    .subst hb
     rw[ar] at e
     cases e
     exact⟨by show 2<=sizeLine;decide,[u1,u2],.cons r1 (.cons r2 .nil),⟨_,g5,rfl,_,rfl⟩⟩
    .rw[ak hb] at e
     refine(I.aC b o e).iT (λc' v tK e' =>?_) (λc' e'=>by rw[ak (aZ e' fr)];exact e') λc' ys e'=>by rw[ak (aZ e' fr)];exact e'
     rcases tK with v' | v'
     .subst v'
      exact lg c' v (xo c' o e) e'
     .exact lg c' v (xo c' _ v') e'
   .simp only[bS,gr,we] at hb
    rcases hb with v | v | v | v <;> subst v
    .exact⟨fz.2.2.2.1,fz.2.1,fz.2.2.2.2.1,fz.2.2.2.2.2⟩
    .exact⟨fo.2.2.2.1,fo.2.1,fo.2.2.2.2.1,fo.2.2.2.2.2⟩
    .exact⟨fi.2.2.2.1,fi.2.1,fi.2.2.2.2.1,fi.2.2.2.2.2⟩
    .exact⟨fj.2.2.2.1,fj.2.1,fj.2.2.2.2.1,fj.2.2.2.2.2⟩
  have lt:∀{b o},s.heap.get? b=some o->b≠s.heap.objs.size:=λe=>bh (bf e)
  have kY:∀b∈[z,ti,to,i,j],upd H s.heap.objs.size (.tup [c,d]) b=none:=λb hb=>by
   have jz:∃o,s.heap.get? b=some o:=by
    obtain⟨o4,e4,_⟩:=Ar h4
    obtain⟨o5,e5,_⟩:=Ar h5
    simp only[bS,gr,we] at hb
    rcases hb with v | v | v | v | v <;> subst v
    .exact⟨_,h1⟩
    .exact⟨_,h2⟩
    .exact⟨_,h3⟩
    .exact⟨_,e4⟩
    .exact⟨_,e5⟩
   obtain⟨o,e⟩:=jz
   rw[ak (lt e)]
   exact(hf b hb).1
  have EL:IsPair h' ti (.ref i) (.ref j):=kp ti _ Z.a1 YV YW YX h2
  refine⟨_,rfl,wpAny_letOwnedTupleGo_zip (s:={ s with heap:=h',toks:=tk }) g1 λiG y1 sb=>?_⟩
  have I2:Inv X pins σ (upd H s.heap.objs.size (.tup [c,d])) { s with heap:=iG,toks:=tk } :=
   Inv.turned (s:={ s with heap:=h',toks:=tk }) (h':=iG) (t':=tk) (it:=z) I1 (λb o hb e=>(sb.2 b hb).trans e) (kY z (by simp)) fz.2.1 fz.2.2.2.1 fz.2.2.2.2.1 fz.2.2.2.2.2
  have Aw:∀b o,b≠z->h'.get? b=some o->iG.get? b=some o:=λb o hb e=>(sb.2 b hb).trans e
  exact⟨.ref s.heap.objs.size,_,I2,rfl,⟨_,c,d,fr,rfl,λY0 h=>by rw[MF I h fM];exact EI,λY0 h=>by rw[MF I h Av];exact EJ,rfl⟩,⟨y1,Aw _ _ Z.a1 EL,⟨_,_,Aw _ _ Z.a2 g2⟩,As (up1 _ _ g3) λo e=>Aw _ _ Z.a3 e,As (MJ _ _ g4) λo e=>Aw _ _ Z.a4 e⟩,kY⟩
 done:=by
  intro X hP hw hK hc q pins s σ H E I hf st hg
  subst hP hw hK
  obtain⟨h1,h2,⟨a,b',h3⟩,h4,h5⟩:=st
  obtain⟨xs,ys,fM,Av,hg⟩:=hg
  have hh:X.A.in1.handled=none:=I.ok.hd hc
  obtain⟨f1,P1,S1,D1,EK,n1,MH,up1⟩:=Au I hh fM h4 (hf i (by simp))
  obtain⟨f2,P2,S2,D2,gw,n2,MI,MJ⟩:=Au I hh Av h5 (hf j (by simp))
  have Z2:pR z ti to i j f1 f2:=⟨Z.a1,Z.a2,Z.a3,Z.a4,Z.a6,Z.a7,Z.a8,n1 z (bo Z.a3) (hf z (by simp)),n1 to Z.a6 (hf to (by simp)),n1 j (bo Z.a8) (hf j (by simp)),n2 z (bo Z.a4) (hf z (by simp)),n2 to Z.a7 (hf to (by simp)),n2 i Z.a8 (hf i (by simp))⟩
  have fz:=hf z (by simp)
  have fo:=hf to (by simp)
  have fi:=hf i (by simp)
  have fj:=hf j (by simp)
  refine YK D1 D2 Z2 h1 h2 h3 EK gw (by omega) λh' tk kp=>⟨rfl,?_⟩
  have lg:∀b o,b∉[z,to,i,j]->s.heap.get? b=some o->h'.get? b=some o:=λb o hb e=>kp b o (λv=>hb (by simp[v])) (λv=>hb (by simp[v])) (λv=>hb (by simp[v])) (λv=>hb (by simp[v])) e
  have xo:∀b o,H b=some o->b∉[z,to,i,j]:=λb o e hb=>by
   simp only[bS,gr,we] at hb
   rcases hb with v | v | v | v
   .exact aZ e fz.1 v
   .exact aZ e fo.1 v
   .exact aZ e fi.1 v
   .exact aZ e fj.1 v
  refine I.qW (s':={ s with heap:=h',toks:=tk }) (ch:=[z,to,i,j]) rfl ⟨λb o e n _ hx=>lg b o hx e,λb o e n _ hx=>⟨o.slots,lg b o hx e⟩,λb o e n hx=>n,λb o e hx=>⟨o,lg b o hx e⟩,
    λb ys e=>e,λb ob ys e=>e,λb ps e=>⟨#[],by rw[e];simp⟩⟩ (λb o e=>?_) I.bare (λb hb=>?_)
  .refine(I.aC b o e).iT (λc' v tK e' =>?_) (λc' e'=>e') λc' ys e'=>e'
   rcases tK with v' | v'
   .subst v'
    exact lg c' v (xo c' o e) e'
   .exact lg c' v (xo c' _ v') e'
  .simp only[bS,gr,we] at hb
   rcases hb with v | v | v | v <;> subst v
   .exact⟨fz.2.2.2.1,fz.2.1,fz.2.2.2.2.1,fz.2.2.2.2.2⟩
   .exact⟨fo.2.2.2.1,fo.2.1,fo.2.2.2.2.1,fo.2.2.2.2.2⟩
   .exact⟨fi.2.2.2.1,fi.2.1,fi.2.2.2.2.1,fi.2.2.2.2.2⟩
   .exact⟨fj.2.2.2.1,fj.2.1,fj.2.2.2.2.1,fj.2.2.2.2.2⟩
 self:=λ_ _ _ _ _ st h=>wpAny_pyIter_zip st.1 h
def Y1(k1 k2:ZK)(K:PySem.W.Frag)(ta:TA):TI:=λσ H R=>ta σ H λvs H1=>∃a b,vs=[a,b]/\(∃xs,zq k1 K H1 a xs)/\(∃ys,zq k2 K H1 b ys)/\R (xn k1 k2 K a b) H1
theorem xp{X:Cx}(k1 k2:ZK){elts:List Expr}{k:Nat}{nF:Pos}{a b:Expr}{ta:TA}{p pos:Pos}(hg:Gl X "zip")(hm:X.mg "zip"=none)(ha:PA X [a,b] ta)(hs:starEach [a,b] X.env=(false,eval a X.env)::starEach [b] X.env:=by rfl)(hpl:(backTo pos (starEach [b] X.env)).any (·.1)=false:=by rfl) :
  PI X (.Tuple elts k nF) (.Call (.Name "zip" p) [a,b] [] pos) (Y1 k1 k2 X.K ta):=by
 intro pins s σ H R I h
 refine Call_ (lP I hg hm YO (vS (aB (ha pos pins s σ H _ I h) λus s1 ⟨vs,H1,I1,r1,q1⟩=>?_) hs hpl))
 obtain⟨ta,tb,e,⟨xs,hx⟩,⟨ys,hy⟩,q⟩:=q1
 subst e
 obtain⟨u1,u2,rfl,ru,rv⟩:=vals2 r1
 obtain⟨o1,K1,t1,a1,a2,a3,a4,a5⟩:=MG I1 hx ru
 obtain⟨o2,K2,t2,b1,b2,b3,b4,b5⟩:=MG I1 hy rv
 refine YM a1 b1 a2 (b3 _) a4 b4 λh' g1 g2 g3 g4 g5 kp=>?_
 have I2:Inv X pins σ H1 { s1 with heap:=h' }:=I1.kept (t':=s1.toks) kp
 refine wpAny_pyIter_zip (s:={ s1 with heap:=h' }) g1 ?_
 refine⟨s1.heap.objs.size+4,[s1.heap.objs.size+4,s1.heap.objs.size+2,s1.heap.objs.size+3,s1.heap.objs.size,s1.heap.objs.size+1],_,_,H1,rfl,I2,
  YU k1 k2 ta tb t1 t2 _ _ _ _ _ (Aq s1.heap.objs.size).1 (Aq s1.heap.objs.size).2.1 (Aq s1.heap.objs.size).2.2.1 (Aq s1.heap.objs.size).2.2.2,
  ⟨g1,g2,⟨_,_,g3⟩,a5 _ _ g4,b5 _ _ g5⟩,λb hb=>?_,q⟩
 have nS:s1.heap.objs.size<=b:=by
  simp only[bS,gr,we] at hb
  rcases hb with v | v | v | v | v <;> rw[v]
  .exact zI _ _
  .exact zI _ _
  .exact zI _ _
  .exact aP _
  .exact zI _ _
 exact I1.gT nS (I1.aC.fresh nS)
theorem xq{K:PySem.W.Frag}{k1 k2:ZK}{ta tb:V}{xs ys:List V}{g:TG}{MK:TS}{D:Ends}{σ:St}{H:Hp}(Pv:Nat->St->Hp->Prop)(h0:Pv 0 σ H)(hl:∀i σ H,i<=min xs.length ys.length->Pv i σ H->zq k1 K H ta xs/\zq k2 K H tb ys)
  (hs:∀i x y p σ H,xs[i]? = some x->ys[i]? = some y->Pv i σ H->H p=none->g (.ref p) σ (upd H p (.tup [x,y])) λσ2 H2=>MK { D with nx:=Pv (i+1),ct:=Pv (i+1),bk:=D.nx } σ2 H2) (hd:∀σ H,Pv (min xs.length ys.length) σ H->D.nx σ H) :
  ∃W:Nat->Nat->St->Hp->Prop,(∃m,W 0 m σ H)/\∀i m σ H,W i m σ H->
   ((xn k1 k2 K ta tb).stop i H/\D.nx σ H)\/((xn k1 k2 K ta tb).go i H/\∃N:St->Hp->Prop,(∀σ' H',N σ' H'->∃m',m'<m/\W (i+1) m' σ' H')/\∀v H',(xn k1 k2 K ta tb).gv i H v H'->g v σ H' λσ2 H2=>MK { D with nx:=N,ct:=N,bk:=D.nx } σ2 H2):=by
 refine⟨λi m σ H=>m=min xs.length ys.length - i/\i<=min xs.length ys.length/\Pv i σ H,⟨_,rfl,bC _,h0⟩,?_⟩
 rintro i m σ H ⟨rfl,hi,p⟩
 obtain⟨q1,q2⟩:=hl i σ H hi p
 by_cases aJ:i<min xs.length ys.length
 .have e1:=bg (l:=xs) (i:=i) (by omega)
  have e2:=bg (l:=ys) (i:=i) (by omega)
  refine .inr ⟨⟨xs,ys,_,_,q1,q2,e1,e2⟩,Pv (i+1),λσ' H' p'=>⟨min xs.length ys.length - (i+1),by omega,rfl,aJ,p'⟩,λv H' yy=>?_⟩
  obtain⟨pp,x,y,hn,rfl,f1,f2,rfl⟩:=yy
  exact hs i x y pp σ H (f1 xs q1) (f2 ys q2) p hn
 .have e:i=min xs.length ys.length:=by omega
  subst e
  exact .inl ⟨⟨xs,ys,q1,q2,rfl⟩,hd σ H p⟩
structure GD(K:PySem.W.Frag)(w:World)(mg:Str->Option Value)(x:Str)(kvs:List (Key×V)):Prop where
 ex:∃(a:Addr) (vs:List (Key×Value)),mg x=some (.ref a)/\(a==sysModules)=false/\KV kvs vs/\∀(P:Program) (h:Heap),K.In h->h.DictOf (bN P w) a vs
theorem Ax{X:Cx}{C:Addr}{x:Str}{p pos:Pos}{e:Expr}{es:List Expr}{t:TA}{sp:Sp}{k:Nat}(N:Nw X.prog X.w X.K X.mg X.base x C k sp)(hr:cw (k+1) X.A)(hg:Gl X x)(ha:PA X (e::es) t)(fK:(x==("__debug__":Str))=false:=by decide)
  (he:starEach (e::es) X.env=(false,eval e X.env)::starEach es X.env:=by rfl) (hpl:(backTo pos (starEach es X.env)).any (·.1)=false:=by rfl):PE X (.Call (.Name x p) (e::es) [] pos) (zZ C sp [] E0 t):=by
 obtain⟨f,fd,ps,M,G,hb,hm⟩:=N.ex
 exact Wd M G hr hg hm hb .nil uc ha fK he hpl
structure EM(P:Program)(w:World)(K:PySem.W.Frag)(mg:Str->Option Value)(base:Heap)(x:Str)(k:Nat)(sp:Sp)(cP:List V):Prop where
 ex:∃(f:Addr) (fd:FuncData) (ps:List Str) (ds:List Value),aS P w K mg base aY k f fd ps sp/\mg x=some (.ref f)/\PySem.W.keepIn K (.ref f)=true/\Binds K fd ps ds/\Vals cP ds
theorem Y2{X:Cx}{x:Str}{p pos:Pos}{e:Expr}{es:List Expr}{t:TA}{sp:Sp}{k:Nat}{cP:List V}(F:EM X.prog X.w X.K X.mg X.base x k sp cP)(hr:cw k X.A)(hg:Gl X x)(ha:PA X (e::es) t)(fK:(x==("__debug__":Str))=false:=by decide)
  (he:starEach (e::es) X.env=(false,eval e X.env)::starEach es X.env:=by rfl) (hpl:(backTo pos (starEach es X.env)).any (·.1)=false:=by rfl):PE X (.Call (.Name x p) (e::es) [] pos) (DE sp cP E0 t):=by
 obtain⟨f,fd,ps,ds,G,hm,hk,hb,hd⟩:=F.ex
 exact Ll G hr hg hm hk hb hd uc ha fK he hpl
def Ay:Expr->Bool
 |.Starred .. =>true
 |_=>false
theorem dq{e:Expr}{es:List Expr}{env:Env}(h:Ay e=false):starEach (e::es) env=(false,eval e env)::starEach es env:=by
 cases e <;> first | rfl | cases h
theorem xt:∀{es:List Expr}{env:Env}{pos:Pos},es.all (λe=>!Ay e)=true->(backTo pos (starEach es env)).any (·.1)=false
 |[],_,_,_=>rfl
 |e::es,env,pos,h=>by
  rw[zh,dZ] at h
  rw[dq (by cases hs:Ay e with | false=>rfl | true=>rw[hs] at h;cases h.1)]
  have ih:=xt (es:=es) (env:=env) (pos:=pos) h.2
  unfold backTo at ih ⊢
  rw[bX,tq,ih]
  rfl
theorem Y3{X:Cx}{a b:Int}{j j' k:Nat}{p p' pos:Pos}:PE X (.Tuple [.Constant (.int a) j p,.Constant (.int b) j' p'] k pos) (DC (pH (tC (.int a)) (pH (tC (.int b)) lT))):=
 fX (ab aE (ab aE ah (hs:=dq rfl)) (hs:=dq rfl))
structure LE(X:Cx)(e:Expr)(t:TE):Prop where
 h:PE X e t
structure LA(X:Cx)(es:List Expr)(t:TA):Prop where
 h:PA X es t
structure LS(X:Cx)(st:Stmt)(t:TS):Prop where
 h:PS X st t
structure ML(X:Cx)(st:List Stmt)(t:TS):Prop where
 h:gS X st t
section
variable{X:Cx}{e a b:Expr}{es:List Expr}{te ta tb:TE}{t:TA}{pos:Pos}
theorem Y4:LA X [] lT:=⟨ah⟩
theorem rT(ha:LE X e te)(hr:LA X es t)(h:Ay e=false):LA X (e::es) (pH te t):=⟨ab ha.h hr.h (dq h)⟩
theorem Y5(h:LA X es t):LE X (.List es pos) (Lk t):=⟨fm h.h⟩
theorem rV{i k:Int}{j j' n:Nat}{p p':Pos}:LE X (.Tuple [.Constant (.int i) j p,.Constant (.int k) j' p'] n pos) (DC (pH (tC (.int i)) (pH (tC (.int k)) lT))):=⟨Y3⟩
theorem Y6{r:R2}(hr:tX X r)(ha:LE X a ta)(hb:PE X b tb)(hs:DL b):LE X (.Subscript a b pos) (pD r ta tb):=⟨aV hr ha.h hb hs⟩
theorem Y7{tg:Expr}{g:TG}(he:LE X e te)(hg:PG X tg g)(hs:swapsWithSole [tg] e pos.line X.env=pure false:=by rfl)(hw:swappedStores [tg] e X.env=pure none:=by rfl)
  (h1:(assignEach [tg] X.env).map (·.2)=[assign tg X.env]:=by rfl):LS X (.Assign [tg] e pos) (zT te g):=⟨qZ he.h hg hs hw h1⟩
theorem Y8{st d8:Stmt}{rest:List Stmt}{ts tr:TS}(h:LS X st ts)(hr:gS X (d8::rest) tr):ML X (st::d8::rest) (KW ts tr):=⟨au h.h hr⟩
end
section
variable{P:Program}{w:World}{K:PySem.W.Frag}{mg:Str->Option Value}{base:Heap}
theorem bq.Y9{x qual:Str}{st:Stmt}{f:Addr}{fd:FuncData}{N ps:List Str}{k:Nat}{sp:Sp}(F:bq K x qual st f fd)(S:bw N ps (aW st))(len:∀vs H Q E,sp vs H Q E->vs.length=ps.length)
  (rm:∀(aL:Value) (A:Around) (outer:List Env) (s:Shared) (H:Hp) (vs:List V) (Q:VK) (E:XK),cw k (A.deeper (envOfC qual (aW st) s.heap.objs.size f aL))->sp vs H Q E->
   ∃t,ML (nG aY P w K mg base N qual (aW st) f aL A outer s H E).pA (kR st) t/\t { nx:=λ_ H'=>Q .aD H',rt:=Q } (start N vs) H):aS P w K mg base aY (k+1) f fd ps sp:=
 F.ok S len λaL A outer s H vs Q E hr h=>let ⟨t,a,q⟩:=rm aL A outer s H vs Q E hr h;⟨t,a.h,q⟩
end
def rW(q f a:Addr):Heap->Prop:=λh=>h.get? q=some (PySem.W.methodObj (.ref f) (.ref a))
theorem Za{P:Program}{w:World}{H:Hp}{h:Heap}{q f a:Addr}(e:h.get? q=some (PySem.W.methodObj (.ref f) (.ref a))):cS P w H h q (.ext (rW q f a)):=⟨e,⟨_,e⟩,λ_ _ x k=>k _ x⟩
structure MM(K:PySem.W.Frag)(f:Addr):Prop where
 gf:PySem.W.specialIn K (.ref f) "__get__"=some (some (.builtin "function.__get__"))
 tk:PySem.W.takesIn K (.ref f)=some false
section
variable{X:Cx}{pins:List (Addr×Obj)}{σ:St}{H:Hp}{s:Shared}{a C dx g q l:Addr}{fs:List (Str×V)}{m:Str}{A:Around}{E:Value->Shared->Prop}
theorem Zb{expr:Bool}{Q:Value->Shared->Prop}(I:Inv X pins σ H s)(e:H a=some (.ins C dx fs))(c:cH X.K C)(k:Meth X.K C m g)(b:MM X.K g)(hc:PySem.W.copiedNames.contains m=false)(hl:fs.lookup m=none)
  (h:∀q s',H q=none->Inv X pins σ (upd H q (.ext (rW q g a))) s'->Q (.ref q) s'):wpAny (model X.prog X.w) A (getAttr (.ref a) m expr) Q E s:=by
 obtain⟨mA,O,r,_,_,_⟩:=wF I.aC e
 have hn:mA m=none:=fH.none_of (by rw[<-hl];exact r m)
 obtain⟨od,J,nT⟩:=O.look
 have hp:=J2 (c.get m)
 refine PySem.W.get_bind I.dh J hp.1 (PySem.W.findObj_fn c.hd k.at_ b.gf b.tk hc (by rw[nT,hn])) hp.2 (zg (PySem.W.fn_get (s:={ s with toks:=s.toks+1 }) I.dh (m8.mp k.fn) (PySem.W.handed_on rfl ?_)))
 exact h s.heap.objs.size _ I.fresh (I.laid (t':=s.toks+1) (λ_ _ z=>bz _ z) (aP _) (Za (cB _ rfl)))
theorem MN:∀{vs:List Value}{ns:List Int},Vals (ns.map V.int) vs->IntsAre vs ns
 |_,[],.nil=>.nil
 |_,n::_,.cons h t=>by
  obtain⟨t',rfl⟩:=h
  exact .cons n t' (MN t)
theorem MO{kz:Str->Int}:∀{ss:List Str}{vs:List Value}{ps:List (Int×Value)},Vals (ss.map V.str) vs->(∀p∈ps,p∈(ss.map kz).zip vs)->∃ts:List Str,Vals (ts.map V.str) (ps.map Prod.snd)/\ts.map kz=ps.map Prod.fst
 |_,_,[],_,_=>⟨[],.nil,rfl⟩
 |ss,vs,p::r,hv,h=>by
  obtain⟨ts,h1,h2⟩:=MO (ps:=r) hv λq hq=>h q (cg _ hq)
  obtain⟨i,hi⟩:=iw (h p bL)
  rw[List.getElem?_zip_eq_some] at hi
  obtain⟨e1,e2⟩:=hi
  rw[bu] at e1
  cases es:ss[i]? with
  |none=>rw[es] at e1;cases e1
  |some x=>
   rw[es] at e1
   have e1:kz x=p.1:=dm e1
   obtain⟨u,hu,ru⟩:=hv.get (i:=i) (x:=V.str x) (by rw[bu,es];rfl)
   rw[e2] at hu
   cases hu
   exact⟨x::ts,.cons ru h1,by rw[bX,bX,h2,e1]⟩
theorem MP:∀{ss ts:List Str},ss.map V.str=ts.map V.str->ss=ts
 |[],[],_=>rfl
 |[],_::_,h=>by cases h
 |_::_,[],h=>by cases h
 |x::r,y::t,h=>by
  rw[bX,bX] at h
  obtain⟨h1,h2⟩:=List.cons.inj h
  cases h1
  rw[MP h2]
theorem Zc{vs us:List Value}{ss:List Str}(h:Vals (ss.map V.str) vs)(p:us.Perm vs):∃ts:List Str,Vals (ts.map V.str) us/\ts.Perm ss:=by
 induction p generalizing ss with
 |nil=>exact⟨ss,h,List.Perm.refl _⟩
 |cons x _ ih=>
  cases ss with
  |nil=>cases h
  |cons y r=>
   cases h with
   |cons h1 h2=>
    obtain⟨ts,a,b⟩:=ih h2
    exact⟨y::ts,.cons h1 a,b.cons y⟩
 |swap x y l=>
  match ss,h with
  |u::v::r,.cons h1 (.cons h2 h3)=>exact⟨v::u::r,.cons h2 (.cons h1 h3),List.Perm.swap ..⟩
 |trans _ _ Zd Ze=>
  obtain⟨ts,a,b⟩:=Ze h
  obtain⟨us,c,d⟩:=Zd a
  exact⟨us,c,d.trans b⟩
theorem Zf{k:Nat}{f:Addr}{fd:FuncData}{ps:List Str}{sp:Sp}{Q:VK}{u:Value}{v:V}(F:aS X.prog X.w X.K X.mg X.base aY k f fd ps sp)(hr:cw k A)(he:kM X.prog X.w X.K X.mg X.base A X.stack s H)(hb:Binds X.K fd ps [])(I:Inv X pins σ H s)(hq:H q=some (.ext (rW q f a)))
  (rv:RelV v u) (h:sp [.ref a,v] H Q E0):wpAny (model X.prog X.w) A (call (.ref q) [u]) (EP X pins σ Q) (λ_ _=>False) s:=by
 have hm:rW q f a s.heap:=(I.aC q _ hq).1
 have hl:([.ref a,u]++([]:List Value)).length=ps.length:=(F.len _ _ _ _ h)
 refine zg (ks_codeAny_call_bound hm ?_)
 refine vT (F.run A X.stack s H ⟨[.ref a,u],[]⟩ [.ref a,u] [.ref a,v] Q E0 hr he (hb s [.ref a,u] I.dh hl) (.cons rfl (.cons rv .nil)) h) λr s' z=>?_
 cases r with
 |error e=>exact z
 |ok fl=>
  cases fl with
  |ret w'=>exact I.after z
  |next=>exact False.elim z
  |brk=>exact False.elim z
  |cont=>exact False.elim z
theorem sorted_out{kz:Str->Int}{ss:List Str}{vs:List Value}{out:List Value}(hv:Vals (ss.map V.str) vs)(h:KskOut true (ss.map kz) vs out):∃ts:List Str,Vals (ts.map V.str) out/\ts.Perm ss/\ts.Pairwise λx y=>kz y<=kz x:=by
 obtain⟨ps,hp,rfl,ho⟩:=h
 obtain⟨ts,h1,h2⟩:=MO (kz:=kz) hv λp hm=>hp.mem_iff.mp hm
 have hl:ss.length=vs.length:=by rw[<-hv.length,ax]
 have kb:(ps.map Prod.snd).Perm vs:=by
  have:=hp.map Prod.snd
  rw[List.map_snd_zip (by rw[ax];omega)] at this
  exact this
 obtain⟨fB,h3,h4⟩:=Zc hv kb
 have e:ts=fB:=MP (Vals.inj h1 h3)
 subst e
 refine⟨ts,h1,h4,?_⟩
 have h5:(ps.map Prod.fst).Pairwise (λx y:Int=>y<=x):=by
  rw[List.pairwise_map]
  exact ho.imp λ{a b} z=>by simpa using z
 rw[<-h2,List.pairwise_map] at h5
 exact h5
theorem Zg{k:Nat}{f:Addr}{fd:FuncData}{ps:List Str}{sp:Sp}{ss:List Str}{kz:Str->Int}{Q:Value->Shared->Prop}(I:Inv X pins σ H s)(hq:H q=some (.ext (rW q f a)))(F:aS X.prog X.w X.K X.mg X.base aY k f fd ps sp)(hr:cw (k+2) X.A)(hb:Binds X.K fd ps [])
  (hl:aj X.K H l (ss.map V.str)) (eO:ss.length<64) (turn:∀x∈ss,∀H3,af H H3->∀Q':VK,(∀H4,af H3 H4->Q' (.int (kz x)) H4)->sp [.ref a,.str x] H3 Q' E0)
  (fin:∀(p:Addr) (out:List Str) (H5:Hp) (s':Shared),H p=none->af H H5->H5 p=some (.lst (out.map V.str))->out.Perm ss->(out.Pairwise λx y=>kz y<=kz x)->Inv X pins σ H5 s'->Q (.ref p) s') :
  wpAny (model X.prog X.w) X.A (call (.builtin "sorted") [.ref l] [(Str.ofString "key",.ref q),(Str.ofString "reverse",.bool true)]) Q E s:=by
 obtain⟨its,rv,pl,hz⟩:=I.list hl
 have hL:=pl.isList
 have hlen:its.length=ss.length:=by rw[<-rv.length,ax]
 have lh:(64:Nat)<=sizeLine:=by decide
 refine call_function_entry_kw kind_sorted plain_sorted entry_sorted (ksk_s2 _ _ _) ?_
 unfold Builtin.«sorted»
 refine ai (m:=checkCount "sorted" 1 1 _) (aM ?_)
 refine ai (collect_list hL ?_ (by omega))
 refine ai (wpAny_newList ?_ (by omega))
 generalize EN:(s.heap.push (seqObj "list" #[] 0)).update s.heap.objs.size (Obj.mapSeq (· ++ its.toArray))=g1
 have z1:g1.objs.size=s.heap.objs.size+1:=by rw[<-EN,Heap.size_update,lL]
 have k1:∀b o,s.heap.get? b=some o->g1.get? b=some o:=λb o e=>by
  have aJ:=bf e
  rw[<-EN,Ko _ _ _ _ (bh aJ),Heap.get?_push_ne _ _ _ (bh aJ)]
  exact e
 show wpAny _ _ _ _ _ { s with heap:=g1.push (seqObj "list" its.toArray 0) }
 have jA:(g1.push (seqObj "list" its.toArray 0)).get? (s.heap.objs.size+1)=some (seqObj "list" its.toArray 0):=by
  have:(g1.push (seqObj "list" its.toArray 0)).get? g1.objs.size=some (seqObj "list" its.toArray 0):=cB _ rfl
  rwa [z1] at this
 have k2:∀b o,s.heap.get? b=some o->(g1.push (seqObj "list" its.toArray 0)).get? b=some o:=λb o e=>bz _ (k1 b o e)
 have z2:(g1.push (seqObj "list" its.toArray 0)).objs.size=s.heap.objs.size+2:=by rw[lL,z1]
 rw[show(Value.ref g1.objs.size) = .ref (s.heap.objs.size+1) by rw[z1]]
 generalize g1.push (seqObj "list" its.toArray 0)=g2 at jA k2 z2
 generalize wR:s.heap.objs.size+1=b at jA
 have ml:s.heap.objs.size<=b:=by rw[<-wR];exact iO _
 clear EN z1 k1
 refine ai (gQ (wpAny_call_entry_kw slot_list_sort ⟨_,jA,rfl⟩ entry_list_sort ?body (ksk_l2 _ _ _)))
 case body=>
  rw[ksk_t2]
  unfold ksk_tree
  refine ai (listItems_at jA rfl ?_)
  refine ai (listUpdate_at jA rfl ?_ (by rw[bc];omega) (bC _))
  obtain⟨e1,uk⟩:∃e1,(g2.update b (Obj.mapSeq λ_=>(#[]:Array Value))).get? b=some (seqObj "list" #[] e1):=⟨_,get?_update_seq jA λ_=>#[]⟩
  have k3:∀c o,s.heap.get? c=some o->(g2.update b (Obj.mapSeq λ_=>(#[]:Array Value))).get? c=some o:=λc o e=>by
   have aJ:=bf e
   rw[Ko _ _ _ _ (bh (by rw[<-wR];exact jo aJ))]
   exact k2 c o e
  have z3:(g2.update b (Obj.mapSeq λ_=>(#[]:Array Value))).objs.size=s.heap.objs.size+2:=by rw[Heap.size_update,z2]
  show wpAny _ _ _ _ _ { s with heap:=g2.update b (Obj.mapSeq λ_=>(#[]:Array Value)) }
  generalize g2.update b (Obj.mapSeq λ_=>(#[]:Array Value))=g3 at uk k3 z3
  refine ai (seqEpoch_at uk rfl ?_)
  refine ai (wpAny_newTuple ?_ (by show its.length<=_;omega))
  refine ai (wpAny_newList ?_ (bC _))
  refine gQ ?_
  have z4:(g3.push { cls := .type "tuple",data := .seq its.toArray }).objs.size=s.heap.objs.size+3:=by rw[lL,z3]
  have EO:((g3.push { cls := .type "tuple",data := .seq its.toArray }).push { cls := .type "list",data := .seq ([]:List Value).toArray }).get? (s.heap.objs.size+3)=some (seqObj "list" #[] 0):=by
   have:((g3.push { cls := .type "tuple",data := .seq its.toArray }).push { cls := .type "list",data := .seq ([]:List Value).toArray }).get? (g3.push { cls := .type "tuple",data := .seq its.toArray }).objs.size=some (seqObj "list" #[] 0):=cB _ rfl
   rwa [z4] at this
  have k5:∀c o,g3.get? c=some o->((g3.push { cls := .type "tuple",data := .seq its.toArray }).push { cls := .type "list",data := .seq ([]:List Value).toArray }).get? c=some o:=λc o e=>bz _ (bz _ e)
  show wpAny _ _ (ksk_rest b (.ref q) true its.toArray e1 (.ref (g3.push { cls := .type "tuple",data := .seq its.toArray }).objs.size)) _ _ { s with heap:=(g3.push { cls := .type "tuple",data := .seq its.toArray }).push { cls := .type "list",data := .seq ([]:List Value).toArray } }
  rw[z4]
  have MQ:=k5 _ _ uk
  have I5:Inv X pins σ H { s with heap:=(g3.push { cls := .type "tuple",data := .seq its.toArray }).push { cls := .type "list",data := .seq ([]:List Value).toArray } }:=I.kept (t':=s.toks) λc o e=>k5 c o (k3 c o e)
  have ER:H b=none:=I.aC.fresh ml
  have MR:H (s.heap.objs.size+3)=none:=I.aC.fresh (zI _ _)
  have fb:∀{H':Hp},H' b=none->dU X pins H' b:=λh=>I.gT ml h
  have fk:∀{H':Hp},H' (s.heap.objs.size+3)=none->dU X pins H' (s.heap.objs.size+3):=λh=>I.gT (zI _ _) h
  have pT:b≠s.heap.objs.size+3:=by rw[<-wR];exact bh (jo (oS _))
  generalize (g3.push { cls := .type "tuple",data := .seq its.toArray }).push { cls := .type "list",data := .seq ([]:List Value).toArray }=g5 at EO MQ I5
  clear z4 k5 k3 z3 k2 z2 uk
  generalize s.heap.objs.size+3=kS at EO MR fk pT
  have MS:∀{H':Hp}{s':Shared}{ok:Obj},Inv X pins σ H' s'->H' b=none->H' kS=none->s'.heap.get? b=some (seqObj "list" #[] e1)->s'.heap.get? kS=some ok->(∀v,ok.data ≠ .cell v)->Inv X (pins++[(b,seqObj "list" #[] e1),(kS,ok)]) σ H' s':=λJ nb nk eb ek hd=>
   J.zO λp hp=>(du.mp hp).elim (λz=>J.pin p (fE _ z)) λz=>by
    rcases bS.mp z with z | z
    .subst z
     exact⟨eb,nb,(fb nb).2.1,(fb nb).2.2.1,λv z=>nomatch z⟩
    .have z:=cI.mp z
     subst z
     exact⟨ek,nk,(fk nk).2.1,(fk nk).2.2.1,hd⟩
  have MT:∀{H':Hp}{s':Shared}{l2:List (Addr×Obj)},Inv X (pins++l2) σ H' s'->Inv X pins σ H' s':=λJ=>J.q8
  unfold ksk_rest
  refine ai (tF ?_)
  rw[List.forIn_toArray]
  refine ai (ksk_fold (λi s' =>∃(H':Hp) (kA:Array Value) (e:Nat),Inv X (pins++[(b,seqObj "list" #[] e1),(kS,seqObj "list" kA e)]) σ H' s'/\af H H'/\Vals (((ss.take i).map kz).map V.int) kA.toList) its 0 _
   ⟨H,#[],0,MS I5 ER MR MQ EO (λv z=>nomatch z),af.refl _,by rw[qK];exact .nil⟩ ?step ?done)
  case step=>
   rintro j x s' hx ⟨H',kA,e,J,sm,hk⟩
   rw[qL] at hk ⊢
   have hj:j<ss.length:=by rw[<-hlen];exact(cn.mp hx).1
   obtain⟨y,hy⟩:∃y,ss[j]? = some y:=⟨_,bg hj⟩
   obtain⟨u,hu,ru⟩:=rv.get (i:=j) (x:=V.str y) (by rw[bu,hy];rfl)
   rw[hx] at hu
   cases hu
   have xu:cw k X.A.in1.in1:=hr.in1.in1
   refine ai (zE (jP (Zf (Q:=λv H4=>v = .int (kz y)/\af H' H4) F xu J.DD.in1.in1 hb J (sm _ _ hq) ru (turn y (bE hy) H' sm _ λH4 s4=>⟨rfl,s4⟩)) (λv s2 he=>?_) λ_ _ hF=>hF.elim))
   obtain⟨v',H4,J4,r4,rfl,s4⟩:=he
   obtain⟨t4,rfl⟩:=r4
   dsimp only
   have pb:=J4.pin (b,seqObj "list" #[] e1) (by simp)
   have pk:=J4.pin (kS,seqObj "list" kA e) (by simp)
   have i4:kA.size<=64:=by
    have h1:=hk.length
    have h2:kA.toList.length=kA.size:=lI
    rw[ax,ax,jQ] at h1
    omega
   refine ai (listUpdate_at pk.1 rfl ?_ (by omega) (by rw[Kq];omega))
   have ek:(s2.heap.update kS (Obj.mapSeq (·.push (.int (kz y) t4)))).get? kS=some (seqObj "list" (kA.push (.int (kz y) t4)) _):=get?_update_seq pk.1 (·.push (.int (kz y) t4))
   have eb:(s2.heap.update kS (Obj.mapSeq (·.push (.int (kz y) t4)))).get? b=some (seqObj "list" #[] e1):=by
    rw[Ko _ _ _ _ pT]
    exact pb.1
   have Az:=fk pk.2.1
   have J5:Inv X pins σ H4 { s2 with heap:=s2.heap.update kS (Obj.mapSeq (·.push (.int (kz y) t4))) }:=(MT J4).turned (t':=s2.toks) (it:=kS) (λc o hc e=>by rw[Ko _ _ _ _ hc];exact e) pk.2.1 Az.2.1 Az.2.2.2.1 Az.2.2.2.2.1 Az.2.2.2.2.2
   refine aM ⟨rfl,H4,_,_,MS J5 pb.2.1 pk.2.1 eb ek (λv z=>nomatch z),sm.trans s4,?_⟩
   rw[gq,hy,eK,eK,Array.toList_push]
   exact hk.append (.cons ⟨t4,rfl⟩ .nil)
  case done=>
   rintro s' ⟨H',kA,e,J,sm,hk⟩
   rw[qL,hlen,gu (aP _)] at hk
   have pb:=J.pin (b,seqObj "list" #[] e1) (by simp)
   have pk:=J.pin (kS,seqObj "list" kA e) (by simp)
   refine ai (listItems_at pk.1 rfl ?_)
   obtain⟨mL,MU,_⟩:=id J.loc
   have Zh:=(fb pb.2.1).2.1
   have Zi:=(fk pk.2.1).2.1
   have Zj:∀{c:Addr}{o:Obj},c≠X.env.locals->c≠kS->c≠b->s'.heap.get? c=some o->(c,o)∈(j7.ledger s'.heap X.env.locals kS).filter λp=>decide (p.1≠b):=λh1 h2 h3 h4=>cR.mpr ⟨j7.D0.mpr ⟨h1,h2,h4⟩,aG h3⟩
   refine ksk_end_ (h₀:=j7.Ae s'.heap) (L:=X.env.locals) (m:=mL) (news:=(j7.ledger s'.heap X.env.locals kS).filter λp=>decide (p.1≠b)) (e:=e) (kz:=ss.map kz) (j7.Xe MU) (λp hp=>?_) (bo pT) (λp hp=>?_) (λp hp=>?_) (MN hk) (by rw[ax,hlen]) (by omega) λh' tk out c MV N' ko=>?_
   .rcases du.mp hp with hp | hp
    .obtain⟨h1,_⟩:=cR.mp hp
     obtain⟨n1,n2,h3⟩:=j7.D0.mp h1
     exact⟨h3,n1,j7.Af _ _⟩
    .rcases bS.mp hp with z | z
     .subst z
      exact⟨pk.1,Zi,j7.Af _ _⟩
     .have z:=cI.mp z
      subst z
      exact⟨pb.1,Zh,j7.Af _ _⟩
   .exact(j7.D0.mp (cR.mp hp).1).2.1
   .exact ff (cR.mp hp).2
   .obtain⟨ts,v1,v2,v3⟩:=sorted_out rv ko
    have pQ:h'.get? b=some (seqObj "list" out c):=(N' (b,seqObj "list" out c) bL).1
    have kp:∀{x:Addr}{o:Obj},x≠X.env.locals->x≠kS->x≠b->s'.heap.get? x=some o->h'.get? x=some o:=λh1 h2 h3 h4=>(N' _ (cg _ (Zj h1 h2 h3 h4))).1
    have tl:∀x u,H' x=some u->x≠X.env.locals/\x≠kS/\x≠b:=λx u z=>⟨λy=>(by rw[y,J.free] at z;cases z),λy=>(by rw[y,pk.2.1] at z;cases z),λy=>(by rw[y,pb.2.1] at z;cases z)⟩
    have FB:=fb pb.2.1
    have FK:=fk pk.2.1
    have pJ:(ts.map V.str).length<=sizeLine:=by rw[ax,v2.length_eq];omega
    have J6:Inv X pins σ (upd H' b (.lst (ts.map V.str))) { s' with heap:=h',toks:=tk }:=by
     refine(MT J).step (g':=s'.gens) (d':=s'.drawn) (ch:=[kS,b]) (λx hx=>?_) (λx o n1 _ hc e _=>kp n1 (λz=>hc (by simp[z])) (λz=>hc (by simp[z])) e) (λx o n1 _ hc e _=>⟨o.slots,kp n1 (λz=>hc (by simp[z])) (λz=>hc (by simp[z])) e⟩)
      (λx o hc _ n=>by rw[ak (λz=>hc (by simp[z]))];exact n) (λx o hc e=>?_) (λx xs z=>by rw[ak (tl x _ z).2.2];exact z) (λx o u z=>by rw[ak (tl x _ z).2.2];exact z) (λx ps z=>⟨#[],by rw[ak (tl x _ z).2.2,z];simp⟩) (λm' Zk=>?_) (λx u z=>?_) J.bare
     .have hx:x=kS\/x=b:=by simpa using hx
      rcases hx with rfl | rfl
      .exact⟨FK.2.2.2.1,FK.2.1,FK.2.2.2.2.1,FK.2.2.2.2.2⟩
      .exact⟨FB.2.2.2.1,FB.2.1,FB.2.2.2.2.1,FB.2.2.2.2.2⟩
     .by_cases y:x=X.env.locals
      .obtain⟨oL,_,_,eL,_⟩:=MV.ns
       exact⟨oL,by rw[y];exact eL⟩
      .exact⟨o,kp y (λz=>hc (by simp[z])) (λz=>hc (by simp[z])) e⟩
     .have:m'=mL:=funext λnm=>Zk.agree MU nm
      rw[this]
      exact MV.ns
     .by_cases y:x=b
      .subst y
       rw[ar] at z
       cases z
       exact⟨pJ,out.toList,c,v1,by rw[Array.toArray_toList];exact pQ⟩
      .rw[ak y] at z
       obtain⟨n1,n2,n3⟩:=tl x u z
       refine(J.aC x u z).iT (λd v hd e=>?_) (λdd e=>by rw[ak (tl dd _ e).2.2];exact e) λdd u' e=>by rw[ak (tl dd _ e).2.2];exact e
       rcases hd with rfl | hd
       .exact kp n1 n2 n3 e
       .obtain⟨m1,m2,m3⟩:=tl d _ hd
        exact kp m1 m2 m3 e
    refine⟨_,rfl,?_⟩
    exact aM ⟨_,rfl,fin b ts _ _ ER (λx o z=>by rw[ak (λy=>by rw[y,ER] at z;cases z)];exact sm x o z) ar v2 v3 J6⟩
end
section
variable{X:Cx}{K:PySem.W.Frag}{C g:Addr}{m:Str}{o e:Expr}{to tl:TE}{sp:Sp}{k:Nat}{p pos ap Zl Zm cp:Pos}{ck:Nat}
structure ES(K:PySem.W.Frag)(C:Addr)(m:Str):Prop where
 ex:∃f,PySem.W.findIn K (.ref C) m=some (some (.ref f))/\MM K f
 nm:PySem.W.copiedNames.contains m=false
def ET(K:PySem.W.Frag)(C:Addr)(m:Str)(sp:Sp)(to:TE)(σ:St)(Q:VK)(x:V)(H1:Hp):Prop:=to σ H1 λy H2=>∃(l:Addr) (ss:List Str) (a dx:Addr) (fs:List (Str×V)) (kz:Str->Int),x = .ref l/\y = .ref a/\aj K H2 l (ss.map V.str)/\ss.length<64/\H2 a=some (.ins C dx fs)/\fs.lookup m=none/\
 (∀x∈ss,∀H3,af H2 H3->∀Q':VK,(∀H4,af H3 H4->Q' (.int (kz x)) H4)->sp [.ref a,.str x] H3 Q' E0)/\
 ∀(p:Addr) (out:List Str) (H5:Hp),H2 p=none->af H2 H5->H5 p=some (.lst (out.map V.str))->out.Perm ss->(out.Pairwise λx y=>kz y<=kz x)->Q (.ref p) H5
def Zn(K:PySem.W.Frag)(C:Addr)(m:Str)(sp:Sp)(tl to:TE):TE:=λσ H Q=>tl σ H (ET K C m sp to σ Q)
def Zo(k:V->Hp->Prop):List V->Hp->Prop
 |[x],H=>k x H
 |_,_=>False
theorem Zp(hK:X.K=K)(M:Mt X.prog X.w X.K X.mg X.base C m k sp [])(hM:ES X.K C m)(hr:cw (k+2) X.A)(hg:Gl X "sorted")(hm:X.mg "sorted"=none)(hv:bootBuiltins "sorted"=some (.builtin "sorted"))(ha:PA X [e] (pH tl lT))(ho:PE X o to)
  (hb:attributeBase o m X.env (eval o X.env)=eval o X.env) (he:backTo pos (starEach [e] X.env)=(false,eval e X.env)::backTo pos (starEach [] X.env):=by rfl) (hp:(backTo pos (starEach [e] X.env)).any (·.1)=false:=by rfl) :
  PE X (.Call (.Name "sorted" p) [e] [⟨some "key",.Attribute o m ap,Zl⟩,⟨some "reverse",.Constant (.bool true) ck cp,Zm⟩] pos) (Zn K C m sp tl to):=by
 subst hK
 intro pins s σ H Q I h
 obtain⟨f,fd,ps,ds,mt,F,bn,vd⟩:=M.ex
 cases vd
 obtain⟨f',Zq,bd⟩:=hM.ex
 have ef:f'=f:=by
  have:=Zq.symm.trans mt.at_
  injection this with this
  injection this with this
  injection this with this
 subst ef
 refine vU (lP I hg hm hv ?_ (by decide) (by decide))
 have h':pH tl lT σ H (Zo (ET X.K C m sp to σ Q)):=h
 refine callWith_kw (aB (ha pos pins s σ H _ I h') λus s1 ⟨vs,H1,I1,r1,q1⟩=>?_) he hp
 obtain⟨x,rfl,q1⟩:∃x,vs=[x]/\ET X.K C m sp to σ Q x H1:=by
  match vs,q1 with
  |[x],q1=>exact⟨x,rfl,q1⟩
 obtain⟨u,rfl,ru⟩:∃u,us=[u]/\RelV _ u:=vals1 r1
 refine kws_cons (Li hb (aB (ho pins s1 σ H1 _ I1 q1) λw' s2 ⟨y,H2,I2,ry,q2⟩=>?_))
 obtain⟨l,ss,a,dx,fs,kz,rfl,rfl,hl,eO,AA,nT,turn,fin⟩:=q2
 cases ru
 cases ry
 refine Zb I2 AA M.cl mt bd hM.nm nT λq s3 hq I3=>?_
 have sq:=af.upd (o:=HO.ext (rW q f' a)) hq
 refine kws_cons (aB (fJ pins s3 σ _ (λv H'=>v = .bl true/\H'=upd H2 q (.ext (rW q f' a))) I3 ⟨rfl,rfl⟩) λb s4 ⟨v4,H4,I4,r4,e4,e5⟩=>?_)
 subst e4 e5
 cases r4
 refine kws_nil ?_
 refine Zg (a:=a) (q:=q) I4 ar F hr bn (sq.seq hl) eO (λx mx H3 s3=>turn x mx H3 (sq.trans s3)) λp out H5 s5 hp s6 h5 h6 h7 I5=>?_
 exact⟨.ref p,H5,I5,rfl,fin p out H5 (sq.free hp) (sq.trans s6) h5 h6 h7⟩
end
theorem Zr:typeLookup (.type "list") "keys"=pure none:=am_miss_of_fast (by kernel_rfl)
theorem AB:plainId "dict.update.loop"=true:=by decide +kernel
theorem MW:entryFor table "dict.update.loop"=some Builtin.«dict.update.loop»:=entryFor_of_fast (by kernel_rfl)
section
variable{prog:Program}{w:World}{A:Around}{E:Value->Shared->Prop}{s:Shared}
theorem Zs{a:Addr}{xs:Array Value}{k:Nat}{Q:Option Value->Shared->Prop}(hx:s.heap.get? a=some { cls := .type "list",data := .seq xs k })(hA:A.handled=none)
  (h:∀h' tk,(∀b o,s.heap.get? b=some o->h'.get? b=some o)->Q none { s with heap:=h',toks:=tk }):wpAny (model prog w) A (getAttr? (.ref a) "keys") Q E s:=by
 obtain⟨hp,g,d,tk,os⟩:=s
 have hT:∀n,(⟨hp,g,d,n,os⟩:Shared).TypeIs (.ref a) "list":=λ_=>⟨_,hx,rfl⟩
 have g1:=sub_AttributeError
 have g2:=UQ.lookup;have g3:=UQ.bind (.ref a);have g4:=am_list_getattr_none
 unfold getAttr? getAttrBy? getAttrBy
 repeat (any_goals (first | assumption | exact hT _ | ((with_reducible show wpAny _ _ (call (Value.builtin "list.__getattribute__") _ _) _ _ _);refine call_meets UQ (hT _) am_entry_list_getattribute (F.args_list_getattribute_2 _ _) (meets_getattribute_miss_list a xs k _ "keys" _ Zr (by decide +kernel) (by decide)) ⟨hx,hA,λh' n e hn=>?_⟩) | wp_step))
 obtain⟨t',u',he⟩:=hn.there
 show wpAny _ _ (getattributeRaised _ _ _ _ _ _ _) _ _ _
 unfold getattributeRaised
 repeat (any_goals (first | assumption | wp_step))
 exact h _ _ hn.keeps
end
section
variable{prog:Program}{w:World}{A:Around}{R:Result->Shared->Prop}{I:Addr}{fp wr:List Addr}{n:Nat}{P:Nat->Value->Prop}{St:Nat->Heap->Prop}{KK:Type}[DecidableEq KK]{knd:KeyKind prog w KK}
theorem Zt(W:Walks prog w A.in1 I fp wr n P St)(D:Addr)(MX:D∉fp)(ks:Nat->KK)(ky vl:Nat->Value)(tt:Nat->Addr)(hP:∀i v,P i v->v = .ref (tt i))(hk:∀i,i<n->knd.is (ks i) (ky i)=true)(ht:∀i,i<n->tt i∉wr/\tt i≠D)
  (L:Nat->List (KK×Value)) (hL:∀i,i<n->L (i+1)=stored (L i) (ks i) (vl i)) (hz:∀i,i<=n->(L i).length<=sizeLine) :
  ∀(k i:Nat) (s:Shared) (it:Tok),n - i=k->i<=n->St i s.heap->s.heap.DictOf knd D (L i)->(∀i,i<n->∃o c,s.heap.get? (tt i)=some o/\o.cls = .type "tuple"/\o.data = .seq #[ky i,vl i] c)->
  (∀h' tk,(∀b o,b∉wr->b≠D->s.heap.get? b=some o->h'.get? b=some o)->h'.DictOf knd D (L n)->R (.ok (.ret .none)) { s with heap:=h',toks:=tk })->
  codeAny (model prog w) A (.builtin "dict.update.loop" ⟨[.ref D,.ref I,.int i it,.none],[]⟩) R s:=by
 have MY:D∉wr:=λh=>MX (W.sub _ h)
 intro k
 induction k with
 |zero=>
  intro i s it AD hi cX hD EU hR
  have br:i=n:=by omega
  subst br
  refine nr MW ?_
  rw[o8 AB _]
  show wpAny _ A.in1 (pyNext (.ref I) >>= _) _ _ s
  refine ai (W.done s _ _ cX λh' tk eP=>?_)
  obtain⟨o,es,ep,ho,r⟩:=hD
  show wpAny _ A.in1 (Builtin.Dict.addKeywords D [] >>= _) _ _ _
  exact ai (aM (aM (hR h' tk (λb o hb _ e=>eP b o hb e) ⟨o,es,ep,eP D o MY ho,r⟩)))
 |succ k ih=>
  intro i s it AD hi cX hD EU hR
  have aJ:i<n:=by omega
  refine nr MW ?_
  rw[o8 AB _]
  show wpAny _ A.in1 (pyNext (.ref I) >>= _) _ _ s
  refine ai (W.item i s _ _ aJ cX λv h' tk hv jF eP=>?_)
  have um:h'.DictOf knd D (L i):=by
   obtain⟨o,es,ep,ho,r⟩:=hD
   exact⟨o,es,ep,eP D o MY ho,r⟩
  rw[hP i v hv]
  obtain⟨oT,cT,EV,rX,Zu⟩:=EU i aJ
  have MZ:=eP _ _ (ht i aJ).1 EV
  show wpAny _ A.in1 (holding _ _ >>= _) _ _ _
  refine ai (gQ (ai (C6 ?_)))
  unfold Builtin.Dict.pairItems
  refine ai (wpAny_typeOf (s:={ s with heap:=h',toks:=tk }) ⟨_,MZ,rX⟩ ?_)
  rw[aA (by decide)]
  unfold seqItems?
  refine ai (ai (wpAny_load (s:={ s with heap:=h',toks:=tk }) MZ ?_))
  rw[Zu]
  refine aM (aM ?_)
  refine gQ (wpAny_dictSet_pairs (s:={ s with heap:=h',toks:=tk }) (hk i aJ) um (λh2 hd2 kd=>?_) (hz i (zc aJ)))
  rw[<-hL i aJ] at hd2
  refine aM ⟨qM AB _,ih (i+1) _ _ (by omega) aJ (W.frame _ _ _ jF λb hb o e=>?_) hd2 (λj hj=>?_) λh3 rY dW mn=>?_⟩
  .exact kd.extBut b o (λz=>MX (z ▸ hb)) e
  .obtain⟨o,c,h1,h2,h3⟩:=EU j hj
   exact⟨o,c,kd.extBut _ _ (ht j hj).2 (eP _ _ (ht j hj).1 h1),h2,h3⟩
  .exact hR h3 rY (λb o mw xw e=>dW b o mw xw (kd.extBut b o xw (eP b o mw e))) mn
end
section
variable{prog:Program}{w:World}{A:Around}{E:Value->Shared->Prop}{s:Shared}
theorem Zv{l:Addr}{xs:Array Value}{k:Nat}{Q:Value->Shared->Prop}(hx:s.heap.get? l=some { cls := .type "list",data := .seq xs k })(hA:A.handled=none)
  (h:∀h' tk,(∀b o,s.heap.get? b=some o->h'.get? b=some o)->h'.get? s.heap.objs.size=some { cls := .type "dict",data := .dict #[] }->wpAny (model prog w) A.in1.in1 (pyIter (.ref l)) (λit s1=>codeAny (model prog w) A.in1 (.builtin "dict.update.loop" ⟨[.ref s.heap.objs.size,it,rawInt 0,.none],[]⟩) (wants (λr s2=>r = .none/\Q (.ref s.heap.objs.size) s2) E) s1) E { s with heap:=h',toks:=tk }) :
  wpAny (model prog w) A (call (.type "dict") [.ref l]) Q E s:=by
 refine callType_codes (Q₁:=λobj s₁=>obj = .ref s.heap.objs.size/\s₁={ s with heap:=s.heap.push { cls := .type "dict",data := .dict #[] } }) F.kt_called_dict (F.kt_typeCall_dict_1 _) F.entry_dict_init (kt_code_dict_new _ ⟨rfl,rfl⟩) λobj s1 hq=>?_
 obtain⟨rfl,rfl⟩:=hq
 have Ab:(s.heap.push { cls := .type "dict",data := .dict #[] }).get? s.heap.objs.size=some { cls := .type "dict",data := .dict #[] }:=cB _ rfl
 have hT:Shared.TypeIs { s with heap:=s.heap.push { cls := .type "dict",data := .dict #[] } } (.ref s.heap.objs.size) "dict":=⟨_,Ab,rfl⟩
 have pU:(s.heap.push { cls := .type "dict",data := .dict #[] }).get? l=some { cls := .type "list",data := .seq xs k }:=bz _ hx
 refine⟨hT,F.args_dict_init_2 _ _,?_⟩
 unfold Builtin.«dict.__init__» Builtin.Dict.selfAndRest
 refine ai (ai (wpAny_notOrdered_dict hT ?_))
 show wpAny _ _ (pure (s.heap.objs.size,[Value.ref l])) _ _ _
 refine aM ?_
 show wpAny _ _ (Builtin.Dict.updateFrom "dict.__init__" s.heap.objs.size (.ref l) [] .none) _ _ _
 unfold Builtin.Dict.updateFrom
 refine ai (wpAny_typeOf (s:={ s with heap:=s.heap.push { cls := .type "dict",data := .dict #[] } }) ⟨_,pU,rfl⟩ ?_)
 rw[aA (by decide)]
 refine ai (Zs (s:={ s with heap:=s.heap.push { cls := .type "dict",data := .dict #[] } }) pU hA λh' tk kp=>?_)
 rw[aA (show(none:Option Value).isNone=true from rfl)]
 refine ai (tF ?_)
 refine ai (jP (h h' tk (λb o e=>kp b o (bz _ e)) (kp _ _ Ab)) (λit s1 z=>aM ⟨qM AB _,z⟩) λ_ _ z=>z)
end
def i5(ps:List (Str×V)):List (Key×V):=ps.foldl (λkvs p=>putK kvs (Sum.inr p.1) p.2) []
theorem M0(ps:List (Str×V))(p:Str×V):i5 (ps++[p])=putK (i5 ps) (Sum.inr p.1) p.2:=by unfold i5;rw[List.foldl_append];rfl
def strN(ks:Nat->Key)(vl:Nat->Value):Nat->List (Key×Value)
 |0=>[]
 |i+1=>stored (strN ks vl i) (ks i) (vl i)
theorem Zw(kvs:List (Key×Value))(k:Key)(v:Value):(stored kvs k v).length<=kvs.length+1:=by
 unfold stored
 split
 .rw[ax];omega
 .rw[dw];exact aP _
theorem EW(ks:Nat->Key)(vl:Nat->Value):∀i,(strN ks vl i).length<=i
 |0=>aP _
 |i+1=>bO (Zw _ _ _) (lM (EW ks vl i))
theorem M3{H:Hp}:∀{ts:List Addr}{ps:List (Str×V)},Paired (λt p=>H t=some (.tup [.str p.1,p.2])) ts ps->∀{i:Nat}{t:Addr},ts[i]? = some t->∃p,ps[i]? = some p/\H t=some (.tup [.str p.1,p.2])
 |_,_,.nil,_,_,h=>by cases h
 |_,_,.cons h1 h2,0,_,h=>⟨_,rfl,by cases h;exact h1⟩
 |_,_,.cons h1 h2,i+1,_,h=>M3 h2 (i:=i) (by simpa using h)
theorem Zx{X:Cx}(hc:X.calm=true):fW X (.type "dict") (λxs H Q=>∃(a:Addr) (ts:List Addr) (ps:List (Str×V)),xs=[.ref a]/\H a=some (.lst (ts.map V.ref))/\Paired (λt p=>H t=some (.tup [.str p.1,p.2])) ts ps/\ps.length<=10000/\
  ∀d,H d=none->Q (.ref d) (upd H d (.dK (i5 ps)))):=by
 intro pins s σ H xs us Q I r h
 obtain⟨l,ts,ps,rfl,hl,hp,hn,q⟩:=h
 obtain⟨u,rfl,ru⟩:=vals1 r
 cases ru
 obtain⟨z,its,n,rv,hlen,e⟩:=I.pI hl
 have hh:X.A.handled=none:=I.ok.hd hc
 have lj:=jj hp
 rw[ax] at hlen
 have xx:l<s.heap.objs.size:=bf e
 have ex:∀i:Nat,∃kv:Value×Value,∀(t:Addr) (p:Str×V),ts[i]? = some t->ps[i]? = some p->(bN X.prog X.w).is (Sum.inr p.1) kv.1=true/\RelV p.2 kv.2/\IsTup s.heap t #[kv.1,kv.2]:=by
  intro i
  by_cases hi:i<ts.length
  .have e1:ts[i]? = some ts[i]:=bg hi
   have e2:ps[i]? = some ps[i]:=bg (by omega)
   obtain⟨p,fL,ht⟩:=M3 hp e1
   obtain⟨Zy,EX,hT,_⟩:=I.tuple (aq.of ht)
   obtain⟨a1,a2,rfl,r1,r2⟩:=vals2 EX
   obtain⟨tk,rfl⟩:=r1
   refine⟨(.str p.1 tk,a2),λt p' h1 h2=>?_⟩
   rw[e1] at h1
   rw[fL] at h2
   cases h1
   cases h2
   exact⟨Dh p.1 tk,r2,hT⟩
  .exact⟨(.none,.none),λt p h1=>by rw[dy (by omega)] at h1;cases h1⟩
 obtain⟨f,hf⟩:=Classical.axiomOfChoice ex
 refine Zv e hh λh' tk kp iH=>?_
 have e':=kp _ _ e
 have hD:h'.DictOf (bN X.prog X.w) s.heap.objs.size (strN (λi=>Sum.inr (ps.getD i (⟨#[]⟩,.aD)).1) (λi=>(f i).2) 0):=⟨_,#[],0,iH,⟨rfl,rfl,rfl⟩,rfl,(λe he=>by simp at he),.nil,jm⟩
 have xy:h'.IsList l its.toArray:=⟨_,e',rfl,n,rfl⟩
 refine tf (s:={ s with heap:=h',toks:=tk }) xy ?_
 have hsz:s.heap.objs.size<h'.objs.size:=bf iH
 have aJ:l<h'.objs.size:=Nat.lt_trans xx hsz
 have gt:∀i,i<its.toArray.size->∃(t:Addr) (p:Str×V),ts[i]? = some t/\ps[i]? = some p/\its[i]? = some (.ref t):=λi hi=>by
  rw[bc] at hi
  have e1:ts[i]? = some ts[i]:=bg (by omega)
  have e2:ps[i]? = some ps[i]:=bg (by omega)
  obtain⟨u,hu,ru⟩:=rv.get (i:=i) (x:=V.ref ts[i]) (by rw[bu,e1];rfl)
  cases ru
  exact⟨_,_,e1,e2,hu⟩
 refine Zt (knd:=bN X.prog X.w) (zr (A:=X.A.in1.in1) hh _ l (bh aJ) its.toArray) s.heap.objs.size ?_ (λi=>Sum.inr (ps.getD i (⟨#[]⟩,.aD)).1) (λi=>(f i).1) (λi=>(f i).2) (λi=>ts.getD i 0) (λi v hP=>?_) (λi hi=>?_) (λi hi=>?_)
  (strN (λi=>Sum.inr (ps.getD i (⟨#[]⟩,.aD)).1) (λi=>(f i).2)) (λi _=>rfl) (λi hi=>?_) its.toArray.size 0 _ _ (by omega) (bC _) ⟨⟨_,cB _ rfl,rfl,rfl⟩,xy.push _⟩ (hD.push _) (λi hi=>?_) λh3 rY k3 d3=>⟨rfl,?_⟩
 .intro m
  have m:s.heap.objs.size=h'.objs.size\/s.heap.objs.size=l:=by simpa using m
  rcases m with m | m
  .exact bh hsz m
  .exact ze xx m
 .have hP:its[i]? = some v:=by simpa using hP
  have hi:i<its.toArray.size:=by rw[bc];exact(cn.mp hP).1
  obtain⟨t,p,e1,_,e3⟩:=gt i hi
  rw[hP] at e3
  cases e3
  show _=Value.ref (ts.getD i 0)
  rw[bQ,e1]
  rfl
 .obtain⟨t,p,e1,e2,_⟩:=gt i hi
  have:=(hf i t p e1 e2).1
  show(bN X.prog X.w).is (Sum.inr (ps.getD i (⟨#[]⟩,.aD)).1) (f i).1=true
  rw[bQ,e2]
  exact this
 .obtain⟨t,p,e1,e2,_⟩:=gt i hi
  obtain⟨o,ho,_⟩:=(hf i t p e1 e2).2.2
  have pJ:=bf ho
  show ts.getD i 0∉[h'.objs.size]/\ts.getD i 0≠s.heap.objs.size
  rw[bQ,e1]
  refine⟨λm=>?_,bh pJ⟩
  exact bh (Nat.lt_trans pJ hsz) (cI.mp m)
 .have:=EW (λi=>Sum.inr (ps.getD i (⟨#[]⟩,.aD)).1) (λi=>(f i).2) i
  rw[bc] at hi
  have M5:(10000:Nat)<=sizeLine:=by decide
  omega
 .obtain⟨t,p,e1,e2,_⟩:=gt i hi
  obtain⟨o,ho,rn,c,hd2⟩:=(hf i t p e1 e2).2.2
  refine⟨o,c,?_,rn,hd2⟩
  show(h'.push _).get? (ts.getD i 0)=_
  rw[bQ,e1]
  exact bz _ (kp _ _ ho)
 .have kv:∀i,i<=ps.length->KV (i5 (ps.take i)) (strN (λi=>Sum.inr (ps.getD i (⟨#[]⟩,.aD)).1) (λi=>(f i).2) i):=by
   intro i
   induction i with
   |zero=>intro _;rw[qK];exact .nil
   |succ i ih=>
    intro hi
    have e2:ps[i]? = some ps[i]:=bg hi
    obtain⟨t,p,e1,e3,_⟩:=gt i (by rw[bc];omega)
    rw[e2] at e3
    cases e3
    rw[gq,e2]
    show KV (i5 (ps.take i++[ps[i]])) (stored _ _ _)
    have eg:(ps.getD i (⟨#[]⟩,.aD))=ps[i]:=by rw[bQ,e2];rfl
    dsimp only
    rw[M0,eg]
    exact(ih (by omega)).put _ (hf i t _ e1 e2).2.1
  have EY:=kv ps.length (aP _)
  rw[gu (aP _)] at EY
  have en:its.toArray.size=ps.length:=by rw[bc];omega
  rw[en] at d3
  have uo:(i5 ps).length<=sizeLine:=by
   rw[EY.length]
   exact bO (EW _ _ _) (bO hn (by decide))
  have fr:=I.fresh
  refine⟨.ref s.heap.objs.size,_,I.laid (a:=s.heap.objs.size) (o := .dK (i5 ps)) (t':=rY) (λb o hb=>?_) (aP _) (LP uo (vP.mpr (bo (bh I.big))) EY d3),rfl,q _ fr⟩
  have jz:=bf hb
  refine k3 b o (λm=>?_) (bh jz) (bz _ (kp _ _ hb))
  exact bh (Nat.lt_trans jz hsz) (cI.mp m)
theorem Zz:bootBuiltins "dict"=some (.type "dict"):=by decide +kernel
section
variable{prog:Program}{w:World}{KK:Type}[DecidableEq KK]{knd:HeapKind prog w KK}{A:Around}{E:Value->Shared->Prop}{s:Shared}
theorem ZA{d a:Addr}{xs:List (KK×Addr×Value)}{k:KK}{v:Value}{Q:Value->Shared->Prop}(hu:knd.room A)(rl:knd.is s.heap k a)(hm:s.heap.DictOfH knd d xs)(hz:xs.length<=sizeLine)
  (old:∀p,atKey xs k=some p->Q p.2 { s with toks:=s.toks+knd.draws k })
  (new:atKey xs k=none->∀h',h'.DictOfH knd d (storedH xs k a v)->Heap.SameBut d s.heap h'->Q v { s with heap:=h',toks:=s.toks+knd.draws k }):wpAny (model prog w) A (dictSetDefault d (.ref a) v) Q E s:=by
 obtain⟨o,es,ep,ho,hc,hd,he,M6,hn⟩:=hm
 unfold dictSetDefault
 refine gQ (ai (knd.pyHash hu rl (ai (wpAny_dictFind_heap (s:={ s with toks:=s.toks+knd.draws k }) hu rl ho hd he M6 hn (λrZ=>?_) λj p hj=>?_))))
 .have e0:=atKey_none_of_get rZ
  have ZC:k∉xs.map (·.1):=not_mem_keys_of_get rZ
  have ez:=size_of_entries he
  have nw:=new e0
  rw[storedH_new e0] at nw
  refine ai (tF (ai (wpAny_updateDictKeys (hz:=by omega) (s:={ s with toks:=s.toks+knd.draws k }) ho hd (aM (nw _ ⟨_,_,ep+1,tm _ ho (Obj.isFreed_of_dict (Obj.data_mapDictKeys hd _)),hc.mapDictKeys _,Obj.data_mapDictKeys hd _,?_,λx hx=>?_,?_⟩ (wa ..))))))
  .simp[he,entryOfKey]
  .rcases du.mp hx with hx | hx
   .exact knd.keeps (M6 x hx) ho hd (wa ..)
   .rw[cI.mp hx]
    exact knd.keeps rl ho hd (wa ..)
  .rw[eK,qN]
   exact⟨hn,by simp,λx hx y hy z=>ZC (by rw[<-show y=k by simpa using hy,<-z];exact hx)⟩
 .refine ai (wpAny_dictEntries (s:={ s with toks:=s.toks+knd.draws k }) ho hd ?_)
  rw[entry_at he j,hj]
  exact ai (tF (aM (old p (atKey_of_get hn hj))))
end
section
variable{X:Cx}{pins:List (Addr×Obj)}{σ:St}{H:Hp}{s:Shared}{a b:Addr}{A:Around}{E:Value->Shared->Prop}{kvs:List (List Key×V)}{k:List Key}{z:V}{r:Value}
theorem ZD{Q:Value->Shared->Prop}(hu:A.units+1<cLine)(I:Inv X pins σ H s)(e:H a=some (.dT kvs))(eb:H b=some (.tup (k.map kV)))(hl:kvs.length<sizeLine)(rz:RelV z r)
  (old:∀v,aQ kvs k=some v->∀u s',Inv X pins σ H s'->RelV v u->Q u s') (new:aQ kvs k=none->∀s',Inv X pins σ (upd H a (.dT (putK kvs k z))) s'->Q r s') :
  wpAny (model X.prog X.w) A (call (.builtin "dict.setdefault") [.ref a,.ref b,r]) Q E s:=by
 obtain⟨hz,hd,xs,rel,dd⟩:=LO I.aC e
 refine qI PySem.F.slot_dict_setdefault dd.typeIs PySem.F.entry_dict_setdefault ?_ (PySem.F.args_dict_setdefault_3 _ _ _)
 unfold Builtin.«dict.setdefault» Builtin.Dict.keyAndDefault
 refine ai (ai (wpAny_notOrdered_dict dd.typeIs ?_))
 show wpAny _ A.in1 (pure (a,Value.ref b,some r)) _ _ s
 refine aM ?_
 show wpAny _ A.in1 (if (a==sysModules)=true then _ else (dictSetDefault a (.ref b) r >>= λv=>ret v)) _ _ s
 rw[aw (show ¬(a==sysModules)=true by rw[hd];decide)]
 refine ai (ZA (zi hu) (rE I.aC eb) dd (by rw[<-jj rel];exact hz) (λp hp=>?_) λhp h' ua hs=>?_)
 .obtain⟨v,hv,rv⟩:∃v,aQ kvs k=some v/\RelV v p.2:=by
   have:=rel.val k
   rw[hp] at this
   cases hv:aQ kvs k with
   |none=>rw[hv] at this;exact this.elim
   |some v=>rw[hv] at this;exact⟨v,rfl,this⟩
  exact aM ⟨_,rfl,old v hv _ _ (I.tok _) rv⟩
 .have hv:aQ kvs k=none:=by
   have:=rel.val k
   rw[hp] at this
   cases hv:aQ kvs k with
   |none=>rfl
   |some v=>rw[hv] at this;exact this.elim
  have iC:(putK kvs k z).length<=sizeLine:=by have:=tY kvs k z;omega
  refine aM ⟨_,rfl,new hv _ ?_⟩
  obtain⟨q,es,ep,hq,h2,h3,h4,_,h5⟩:=ua
  refine DV I (by rw[e];exact True.intro) hs ⟨q,hq⟩ ⟨iC,hd,_,(rel.put k eb rz).keeps λc ys ec=>?_,q,es,ep,hq,h2,h3,h4,h5⟩
  rw[ak (bY ec e (λz=>nomatch z))]
  exact ec
end
section
variable{X:Cx}{o e f:Expr}{td ty tx:TE}{apos dz:Pos}
def ZE(td ty tx:TE):TE:=λσ H Q=>td σ H λx H1=>∃a,x = .ref a/\DY H1 a/\ty σ H1 λy H2=>tx σ H2 λz H3=>∃kvs k b,H3 a=some (.dT kvs)/\y = .ref b/\H3 b=some (.tup (k.map kV))/\kvs.length<sizeLine/\
 (∀v,aQ kvs k=some v->Q v H3)/\(aQ kvs k=none->Q z (upd H3 a (.dT (putK kvs k z))))
theorem ZF(hu:X.A.units+1<cLine)(ho:PE X o td)(he:PE X e ty)(hf:PE X f tx)(m:M2 X o "setdefault" apos e f dz):PE X (.Call (.Attribute o "setdefault" apos) [e,f] [] dz) (ZE td ty tx):=by
 intro pins s σ H Q I h
 refine wpAny_Call_method m.base m.gE m.line PySem.F.plainAttrs_dict PySem.F.slot_dict_setdefault PySem.F.type_dict_setdefault (aB (ho pins s σ H _ I h) λu s1 ⟨x,H1,I1,rx,a,ex,d,q1⟩=>?_)
 subst ex
 obtain rfl:u=Value.ref a:=rx
 obtain⟨t1,t2,_⟩:=LW I1 d
 refine⟨t1,t2,?_⟩
 rw[m.trees]
 refine UH rfl (UI (CM (aB (he pins s1 σ H1 _ I1 q1) λiv s2 ⟨y,H2,I2,ry,q2⟩=>CM (aB (hf pins s2 σ H2 _ I2 q2) λfv s3 ⟨z,H3,I3,rz,kvs,k,b,ea,ey,eb,hl,q3,q4⟩=>Calls.spliced_nil ?_))))
 subst ey
 obtain rfl:iv=Value.ref b:=ry
 exact ZD hu I3 ea eb hl rz (λv hv u s4 I4 ru=>⟨v,H3,I4,ru,q3 v hv⟩) λhv s4 I4=>⟨z,_,I4,rz,q4 hv⟩
end
section
variable{prog:Program}{w:World}{A:Around}{R:Result->Shared->Prop}{I:Addr}{fp wr:List Addr}{n:Nat}{P:Nat->Value->Prop}{St:Nat->Heap->Prop}
def mB(h:Heap)(t:Addr)(a b:Int):Prop := ∃u v:Tok,IsTup h t #[.int a u,.int b v]
theorem mB.ext{h h':Heap}{t:Addr}{a b:Int}(x:mB h t a b)(k:∀o,h.get? t=some o->h'.get? t=some o):mB h' t a b:=let ⟨u,v,o,ho,r⟩:=x;⟨u,v,o,k o ho,r⟩
theorem ZG{s:Shared}{E:Value->Shared->Prop}{Q:Value->Shared->Prop}{t t':Addr}{a b a' b':Int}(x:mB s.heap t a b)(y:mB s.heap t' a' b')(hu:A.units<cLine)(h:Q (.bool (HT.lexLt [a,b] [a',b'])) s) :
  wpAny (model prog w) A (richCompare .Lt (.ref t) (.ref t')) Q E s:=by
 obtain⟨u,v,p⟩:=x
 obtain⟨u',v',p'⟩:=y
 exact HT.Wu p p' (.cons a u (.cons b v .nil)) (.cons a' u' (.cons b' v' .nil)) hu h
theorem M7{a b a' b':Int}:(HT.lexLt [a,b] [a',b']=true->a<=a')/\(HT.lexLt [a,b] [a',b']=false->a'<=a):=by
 rw[HT.Lw]
 by_cases e:a=a'
 .exact⟨λ_=>by omega,λ_=>by omega⟩
 .rw[aw e]
  exact⟨λh=>by have:=ff h;omega,λh=>by have:=of_decide_eq_false h;omega⟩
theorem ZH(W:Walks prog w A.in1 I fp wr n P St)(bs:Addr)(uq:bs∉fp)(hu:A.in1.units<cLine)(tt:Nat->Addr)(fa fb:Nat->Int)(hP:∀i v,P i v->v = .ref (tt i))(ht:∀i,i<n->tt i∉wr/\tt i≠bs) :
  ∀(k j:Nat) (s:Shared) (b c:Nat),n - (j+1)=k->j+1<=n->St (j+1) s.heap->b<=j->(∀i,i<=j->fa b<=fa i)->s.heap.get? bs=some { cls := .type "list",data := .seq #[.ref (tt b),.ref (tt b)] c }->(∀i,i<n->mB s.heap (tt i) (fa i) (fb i))->
  (∀b h' tk,b<n->(∀i,i<n->fa b<=fa i)->(∀x o,x∉wr->x≠bs->s.heap.get? x=some o->h'.get? x=some o)->R (.ok (.ret (.ref (tt b)))) { s with heap:=h',toks:=tk })->
  codeAny (model prog w) A (.builtin "min.loop" ⟨[.ref I,.none,.ref bs],[]⟩) R s:=by
 have mw:bs∉wr:=λh=>uq (W.sub _ h)
 have ur:(toString "min"++toString ".loop":String)="min.loop":=by decide
 intro k
 induction k with
 |zero=>
  intro j s b c hk hj cX hb mC hS hT hR
  have br:j+1=n:=by omega
  refine nr F.entry_min_loop ?_
  rw[o8 wg _]
  show wpAny _ A.in1 (seqItems? (.ref bs) >>= _) _ _ s
  refine ai (kI hS rfl ?_)
  show wpAny _ A.in1 (tryCatch (pyNext (.ref I)) _ >>= _) _ _ s;refine ai (C6 (W.done s _ _ (by rw[<-br];exact cX) λh' tk kp=>?_))
  have ke:=kp bs _ mw hS
  show wpAny _ A.in1 (updateSeq bs (λ_=>#[]) >>= _) _ _ _
  refine ai (wpAny_updateSeq ke rfl (ai (wc (aM (hR b _ tk (by omega) (λi hi=>mC i (by omega)) λx o h1 h2 e=>(nh _ _ (bo h2)).trans (kp x o h1 e))))))
 |succ k ih=>
  intro j s b c hk hj cX hb mC hS hT hR
  have aJ:j+1<n:=by omega
  refine nr F.entry_min_loop ?_
  rw[o8 wg _]
  show wpAny _ A.in1 (seqItems? (.ref bs) >>= _) _ _ s
  refine ai (kI hS rfl ?_)
  show wpAny _ A.in1 (tryCatch (pyNext (.ref I)) _ >>= _) _ _ s;refine ai (C6 (W.item (j+1) s _ _ aJ cX λv h' tk hv jF kp=>?_))
  have ke:=kp bs _ mw hS
  have AE:∀i,i<n->mB h' (tt i) (fa i) (fb i):=λi hi=>(hT i hi).ext λo e=>kp _ o (ht i hi).1 e
  rw[hP _ v hv]
  show wpAny _ A.in1 (tryCatch (holding _ (richCompare .Lt (.ref (tt (j+1))) (.ref (tt b)) >>= _)) _ >>= _) _ _ _
  refine ai (C6 (gQ (ai (ZG (s:={ s with heap:=h',toks:=tk }) (AE _ aJ) (AE b (by omega)) hu ?_))))
  refine ai (gQ (oR (ai (wc (aM ?_)))))
  cases hc:HT.lexLt [fa (j+1),fb (j+1)] [fa b,fb b] with
  |true=>
   have h1:=M7.1 hc
   simp only[jk]
   refine ai (wpAny_updateSeq ke rfl (ai (wc ?_)))
   rw[ur]
   refine aM ⟨qM wg _,ih (j+1) _ (j+1) _ (by omega) aJ (W.frame _ _ _ jF λx hx o e=>?_) (aP _) (λi hi=>?_) (tm _ ke rfl) (λi hi=>(AE i hi).ext λo e=>(nh _ _ (bo (ht i hi).2)).trans e) λb' h2 jE q1 q2 q3=>hR b' h2 jE q1 q2 λx o h1 h2 e=>q3 x o h1 h2 ((nh _ _ (bo h2)).trans (kp x o h1 e))⟩
   .exact(nh _ _ (λz:bs=x=>uq (by rw[z];exact hx))).trans e
   .rcases Nat.lt_or_ge j i with z | z
    .rw[show i=j+1 by omega];exact Int.le_refl _
    .have:=mC i z;omega
  |false=>
   have h1:=M7.2 hc
   simp only[gn,fG]
   refine ai (wc ?_)
   rw[ur]
   refine aM ⟨qM wg _,ih (j+1) _ b c (by omega) aJ jF (by omega) (λi hi=>?_) ke AE λb' h2 jE q1 q2 q3=>hR b' h2 jE q1 q2 λx o h1 h2 e=>q3 x o h1 h2 (kp x o h1 e)⟩
   rcases Nat.lt_or_ge j i with z | z
   .rw[show i=j+1 by omega];exact h1
   .exact mC i z
theorem ZI(W:Walks prog w A.in1 I fp wr n P St)(bs:Addr)(uq:bs∉fp)(hu:A.in1.units<cLine)(tt:Nat->Addr)(fa fb:Nat->Int)(hP:∀i v,P i v->v = .ref (tt i))(ht:∀i,i<n->tt i∉wr/\tt i≠bs)(hn:0<n){s:Shared}{c:Nat}(cX:St 0 s.heap)
  (hS:s.heap.get? bs=some { cls := .type "list",data := .seq #[] c }) (hT:∀i,i<n->mB s.heap (tt i) (fa i) (fb i))
  (hR:∀b h' tk,b<n->(∀i,i<n->fa b<=fa i)->(∀x o,x∉wr->x≠bs->s.heap.get? x=some o->h'.get? x=some o)->R (.ok (.ret (.ref (tt b)))) { s with heap:=h',toks:=tk }) :
  codeAny (model prog w) A (.builtin "min.loop" ⟨[.ref I,.none,.ref bs],[]⟩) R s:=by
 have mw:bs∉wr:=λh=>uq (W.sub _ h)
 have ur:(toString "min"++toString ".loop":String)="min.loop":=by decide
 refine nr F.entry_min_loop ?_
 rw[o8 wg _]
 show wpAny _ A.in1 (seqItems? (.ref bs) >>= _) _ _ s
 refine ai (kI hS rfl ?_)
 show wpAny _ A.in1 (tryCatch (pyNext (.ref I)) _ >>= _) _ _ s;refine ai (C6 (W.item 0 s _ _ hn cX λv h' tk hv jF kp=>?_))
 have ke:=kp bs _ mw hS
 rw[hP _ v hv]
 show wpAny _ A.in1 (updateSeq bs (λ_=>#[.ref (tt 0),.ref (tt 0)]) >>= _) _ _ _
 refine ai (wpAny_updateSeq ke rfl ?_)
 rw[ur]
 refine aM ⟨qM wg _,ZH W bs uq hu tt fa fb hP ht _ 0 _ 0 _ rfl hn (W.frame _ _ _ jF λx hx o e=>?_) (aP _) (λi hi=>?_) (tm _ ke rfl) (λi hi=>((hT i hi).ext λo e=>kp _ o (ht i hi).1 e).ext λo e=>(nh _ _ (bo (ht i hi).2)).trans e)
  λb' h2 jE q1 q2 q3=>hR b' h2 jE q1 q2 λx o h1 h2 e=>q3 x o h1 h2 ((nh _ _ (bo h2)).trans (kp x o h1 e))⟩
 .exact(nh _ _ (λz:bs=x=>uq (by rw[z];exact hx))).trans e
 .rw[show i=0 by omega];exact Int.le_refl _
end
section
variable{X:Cx}
theorem ZJ(hc:X.calm=true)(hu:X.A.units+4<cLine):fW X (.builtin "min") (λxs H Q=>∃(a:Addr) (ts:List Addr) (ps:List (Int×Int)),xs=[.ref a]/\H a=some (.lst (ts.map V.ref))/\Paired (λt p=>H t=some (.tup [.int p.1,.int p.2])) ts ps/\0<ps.length/\
  ∀(b:Nat) (t:Addr) (p:Int×Int),ts[b]? = some t->ps[b]? = some p->(∀q∈ps,p.1<=q.1)->Q (.ref t) H):=by
 intro pins s σ H xs us Q I r h
 obtain⟨l,ts,ps,rfl,hl,hp,hn,q⟩:=h
 obtain⟨u,rfl,ru⟩:=vals1 r
 cases ru
 obtain⟨z,its,n,rv,hlen,e⟩:=I.pI hl
 have hh:X.A.handled=none:=I.ok.hd hc
 have lj:=jj hp
 rw[ax] at hlen
 have xx:l<s.heap.objs.size:=bf e
 have xy:s.heap.IsList l its.toArray:=⟨_,e,rfl,n,rfl⟩
 have gt:∀i,i<ts.length->∃(t:Addr) (p:Int×Int),ts[i]? = some t/\ps[i]? = some p/\its[i]? = some (.ref t)/\mB s.heap t p.1 p.2:=λi hi=>by
  have e1:ts[i]? = some ts[i]:=bg hi
  obtain⟨p,fL,ht⟩:=Paired.getL hp e1
  obtain⟨u,hu,ru⟩:=rv.get (i:=i) (x:=V.ref ts[i]) (by rw[bu,e1];rfl)
  cases ru
  obtain⟨Zy,EX,hT,_⟩:=I.tuple (aq.of ht)
  obtain⟨a1,a2,rfl,r1,r2⟩:=vals2 EX
  obtain⟨t1,rfl⟩:=r1
  obtain⟨t2,rfl⟩:=r2
  exact⟨_,p,e1,fL,hu,t1,t2,hT⟩
 refine call_function_tree F.kind_min F.plain_min F.entry_min (F.args_min1 _) ?_
 show wpAny _ X.A.in1 (Builtin.Builtins.bindParams "min" ["key","default"] 0 ⟨[],[]⟩ >>= _) _ _ s
 refine ai (oZ (a:=[none,none]) rfl (ai (aM (ai (tf xy ?_)))))
 refine ai (tw ?_)
 have ur:(toString "min"++toString ".loop":String)="min.loop":=by decide
 rw[ur]
 have z1:(s.heap.push { cls := .type "list_iterator",data := .fields #[.ref l,.int 0 0] }).objs.size=s.heap.objs.size+1:=lL _ _
 refine aM ⟨qM wg _,ZI (zr (A:=X.A.in1) hh s.heap.objs.size l (bh xx) its.toArray) _ ?_ (by show X.A.units+1<cLine;omega) (λi=>ts.getD i 0) (λi=>(ps.getD i (0,0)).1) (λi=>(ps.getD i (0,0)).2) (λi v hP=>?_) (λi hi=>?_) (by rw[bc];omega)
  ⟨⟨_,bz _ (cB _ rfl),rfl,rfl⟩,(xy.push _).push _⟩ (cB _ rfl) (λi hi=>?_) λb h' tk hb hm kp=>?_⟩
 .intro m
  have m:(s.heap.push { cls := .type "list_iterator",data := .fields #[.ref l,.int 0 0] }).objs.size=s.heap.objs.size\/(s.heap.push { cls := .type "list_iterator",data := .fields #[.ref l,.int 0 0] }).objs.size=l:=by simpa using m
  rw[z1] at m
  rcases m with m | m
  .exact ze (oS _) m
  .exact ze (jo xx) m
 .have hP:its[i]? = some v:=by simpa using hP
  obtain⟨t,p,e1,_,e3,_⟩:=gt i (by have:=(cn.mp hP).1;omega)
  rw[hP] at e3
  cases e3
  show _=Value.ref (ts.getD i 0)
  rw[bQ,e1]
  rfl
 .obtain⟨t,p,e1,e2,_,x,y,o,ho,_⟩:=gt i (by rw[bc] at hi;omega)
  have pJ:=bf ho
  show ts.getD i 0∉[s.heap.objs.size]/\ts.getD i 0≠(s.heap.push _).objs.size
  rw[bQ,e1,z1]
  exact⟨λm=>bh pJ (cI.mp m),bh (jo pJ)⟩
 .obtain⟨t,p,e1,e2,_,hT⟩:=gt i (by rw[bc] at hi;omega)
  show mB _ (ts.getD i 0) (ps.getD i (0,0)).1 (ps.getD i (0,0)).2
  rw[bQ,bQ,e1,e2]
  exact hT.ext λo e=>bz _ (bz _ e)
 .obtain⟨t,p,e1,e2,_⟩:=gt b (by rw[bc] at hb;omega)
  have et:ts.getD b 0=t:=by rw[bQ,e1];rfl
  have ep:ps.getD b (0,0)=p:=by rw[bQ,e2];rfl
  show EP X pins σ Q (.ref (ts.getD b 0)) _
  rw[et]
  refine⟨.ref t,H,I.kept (t':=tk) (λx o hx=>?_),rfl,q b t p e1 e2 λp' eN=>?_⟩
  .have hlx:=bf hx
   exact kp x o (λm=>bh hlx (cI.mp m)) (by show x≠(s.heap.push _).objs.size;rw[z1];exact bh (jo hlx)) (bz _ (bz _ hx))
  .obtain⟨i,hi⟩:=iw eN
   have ZL:=(cn.mp hi).1
   have:=hm i (by rw[bc];omega)
   rw[ep,bQ,hi] at this
   exact this
end
set_option maxRecDepth 100000 in
theorem ZM(l:Addr)(items:Array Value)(n:Nat)(EZ:Option Addr)(sl:Array (Option Value)) :
  Meets (Builtin.«enumerate.__new__» ⟨[.type "enumerate",.ref l],[]⟩) (λ_ R s=>s.heap.get? l=some ⟨.type "tuple",EZ,.seq items n,sl⟩/\
   R (.ok (.ret (.ref (s.heap.push ⟨.type "tuple_iterator",none,.fields #[.ref l,.int 0 0],#[]⟩).objs.size)))
    { s with heap:=(s.heap.push ⟨.type "tuple_iterator",none,.fields #[.ref l,.int 0 0],#[]⟩).push ⟨.type "enumerate",none,.fields #[.none,.bool false,.ref s.heap.objs.size,rawInt 0,.none,.none],#[]⟩ }):=
 .of_wp λprog w A R s h=>by
  obtain⟨hp,g,d,tk,os⟩:=s;obtain⟨hl,h⟩:=h
  have ZN:=sub_enumerate
  have hL:Heap.IsTuple (Shared.heap ⟨hp,g,d,tk,os⟩) l items:=⟨_,hl,rfl,n,rfl⟩
  wp_walk using UR hl
  refine wpAny_stack_any λst=>aM ?_
  split
  .rename_i c _ _ _ _ _
   cases(c==Value.type "enumerate") <;> (wp_walk using UR hl,J0 hL;exact⟨_,rfl,h⟩)
  .wp_walk using UR hl,J0 hL
   exact⟨_,rfl,h⟩
theorem ZO{prog:Program}{w:World}{A:Around}{E:Value->Shared->Prop}{s:Shared}{l:Addr}{items:Array Value}{Q:Value->Shared->Prop}(hL:IsTup s.heap l items)
  (h:∀h',IsEnum h' (s.heap.objs.size+1) s.heap.objs.size 0 .none->h'.IsTupleIter s.heap.objs.size l 0->h'.objs.size=s.heap.objs.size+2->(∀b o,s.heap.get? b=some o->h'.get? b=some o)->Q (.ref (s.heap.objs.size+1)) { s with heap:=h' }) :
  wpAny (model prog w) A (call (.type "enumerate") [.ref l]) Q E s:=by
 obtain⟨⟨c,EZ,dt,sl⟩,hl,hc,n,hd⟩:=hL
 have hc:c = .type "tuple":=hc
 have hd:dt = .seq items n:=hd
 subst hc hd
 refine callType_new F.called_enumerate (by decide) (F.typeCall_enumerate_1 _) (F.newCall_enumerate_1 _) (λobj=>F.args_object_init_2 obj _) F.entry_enumerate_new (ZM l items n EZ sl) ⟨hl,?_⟩
 have hz:(s.heap.push ⟨.type "tuple_iterator",none,.fields #[.ref l,.int 0 0],#[]⟩).objs.size=s.heap.objs.size+1:=lJ ..
 show _/\_
 rw[hz]
 have he:IsEnum ((s.heap.push ⟨.type "tuple_iterator",none,.fields #[.ref l,.int 0 0],#[]⟩).push ⟨.type "enumerate",none,.fields #[.none,.bool false,.ref s.heap.objs.size,rawInt 0,.none,.none],#[]⟩) (s.heap.objs.size+1) s.heap.objs.size 0 .none:=by
  have e:=cB (s.heap.push ⟨.type "tuple_iterator",none,.fields #[.ref l,.int 0 0],#[]⟩) (o:=⟨.type "enumerate",none,.fields #[.none,.bool false,.ref s.heap.objs.size,rawInt 0,.none,.none],#[]⟩) rfl
  rw[hz] at e;exact e
 exact⟨⟨_,he,rfl⟩,h _ he ⟨_,bz _ (cB _ rfl),rfl,rfl⟩ (by rw[lJ,hz]) λb o x=>bz _ (bz _ x)⟩
def xA(K:PySem.W.Frag)(a:Addr)(xs:List V):It:=
 ⟨λi H=>aq K H a xs/\i<xs.length,λi H x H' =>∃p v,H p=none/\x = .ref p/\xs[i]? = some v/\H'=upd H p (.tup [.int i,v]),λi H=>aq K H a xs/\i=xs.length⟩
theorem ZP{P:Program}{w:World}{K:PySem.W.Frag}{elts:List Expr}{k:Nat}{pos:Pos}(a it e:Addr)(xs:List V)(w8:a≠it)(En:a≠e)(g9:e≠it) :
  Turn P w K (.Tuple elts k pos) (xA K a xs) [e,it] e (λi h=>(∃old,IsEnum h e it i old)/\h.IsTupleIter it a i) where
 mem:=by simp
 obj:=λi h st b hb=>by
  obtain⟨⟨old,he⟩,o,ho,hc,hd⟩:=st
  rcases bS.mp hb with z | z
  .subst z
   exact⟨_,he,λv z=>by
    have z':Data.fields _=Data.cell v:=z
    cases z'⟩
  .have z:b=it:=by simpa using z
   subst z
   exact⟨o,ho,λv z=>by rw[hd] at z;cases z⟩
 keep:=λi h h' st kk=>by
  obtain⟨⟨old,he⟩,hit⟩:=st
  exact⟨⟨old,kk e (by simp) _ he⟩,hit.at λo q=>kk it (by simp) o q⟩
 item:=by
  intro X hP hw hK hc i pins s σ H E I hf st hg
  subst hP hw hK
  obtain⟨⟨old,he⟩,hit⟩:=st
  obtain⟨hq,aJ⟩:=hg
  obtain⟨its,rv,p,hz⟩:=I.tuple hq
  have hl:=rv.length
  obtain⟨u0,Eo,Ep⟩:=rv.get (i:=i) (x:=xs[i]) (by simp[aJ])
  have fe:=hf e (by simp)
  have fi:=hf it (by simp)
  refine UL (EH (prog:=X.prog) (w:=X.w) (A:=X.A.in1) (I.ok.hd hc) it a w8 its.toArray) he ⟨hit,p⟩ (by rw[bc];omega) g9 (by simp[g9,bo En]) λx h' tk nR ho kX hT hsz hk=>?_
  have hx:x=u0:=by
   have nR:its.toArray[i]? = some x:=nR
   have:its[i]? = some x:=by simpa using nR
   rw[Eo] at this
   exact(dm this).symm
  subst hx
  have fr:H s.heap.objs.size=none:=I.fresh
  have neT:∀b o,H b=some o->b≠e/\b≠it:=λb o q=>⟨aZ q fe.1,aZ q fi.1⟩
  have I1:Inv X pins σ (upd H s.heap.objs.size (.tup [.int i,xs[i]])) { s with heap:=h',toks:=tk+1 }:=by
   refine I.qW (s':={ s with heap:=h',toks:=tk+1 }) (ch:=[e,it]) rfl ⟨λb o q n _ hx=>hk b o (λz=>hx (by simp[z])) (λz=>hx (by simp[z])) q,λb o q n _ hx=>⟨o.slots,hk b o (λz=>hx (by simp[z])) (λz=>hx (by simp[z])) q⟩,
    λb o q n hx=>by rw[ak (bh (bf q))];exact n,λb o q hx=>⟨o,hk b o (λz=>hx (by simp[z])) (λz=>hx (by simp[z])) q⟩,
    λb ys q=>by rw[ak (aZ q fr)];exact q,λb ob ys q=>by rw[ak (aZ q fr)];exact q,λb ps q=>⟨#[],by rw[ak (aZ q fr),q];simp⟩⟩ (λb o q=>?_) I.bare (λb hb=>?_)
   .by_cases hb:b=s.heap.objs.size
    .subst hb
     rw[ar] at q
     cases q
     exact⟨by show 2<=sizeLine;decide,[.int i tk,x],.cons ⟨tk,rfl⟩ (.cons Ep .nil),⟨_,hT,rfl,_,rfl⟩⟩
    .rw[ak hb] at q
     refine(I.aC b o q).iT (λc v hc q' =>?_) (λc q'=>by rw[ak (aZ q' fr)];exact q') λc ys q'=>by rw[ak (aZ q' fr)];exact q'
     rcases hc with z | z
     .subst z
      exact hk c v (neT c o q).1 (neT c o q).2 q'
     .exact hk c v (neT c _ z).1 (neT c _ z).2 q'
   .have z:b=e\/b=it:=by simpa using hb
    rcases z with z | z
    .subst z
     exact⟨fe.2.2.2.1,fe.2.1,fe.2.2.2.2.1,fe.2.2.2.2.2⟩
    .subst z
     exact⟨fi.2.2.2.1,fi.2.1,fi.2.2.2.2.1,fi.2.2.2.2.2⟩
  have kY:∀b∈[e,it],upd H s.heap.objs.size (.tup [.int i,xs[i]]) b=none:=λb hb=>by
   have z:b=e\/b=it:=by simpa using hb
   have rO:b<s.heap.objs.size:=by
    rcases z with z | z
    .subst z;exact bf he
    .subst z;obtain⟨o,q,_⟩:=hit;exact bf q
   rw[ak (bh rO)]
   rcases z with z | z
   .subst z;exact fe.1
   .subst z;exact fi.1
  refine⟨_,rfl,UM (s:={ s with heap:=h',toks:=tk+1 }) ho λh2 xb kK=>?_⟩
  have I2:Inv X pins σ (upd H s.heap.objs.size (.tup [.int i,xs[i]])) { s with heap:=h2,toks:=tk+1 } :=
   Inv.turned (s:={ s with heap:=h',toks:=tk+1 }) (h':=h2) (t':=tk+1) (it:=e) I1 (λb o hb q=>(kK.2 b hb).trans q) (kY e (by simp)) fe.2.1 fe.2.2.2.1 fe.2.2.2.2.1 fe.2.2.2.2.2
  refine⟨.ref s.heap.objs.size,_,I2,rfl,⟨_,_,fr,rfl,by simp[aJ],rfl⟩,⟨⟨x,?_⟩,kX.1.at λo q=>(kK.2 it (bo g9)).trans q⟩,kY⟩
  have e1:((i+1:Nat):Int)=(i:Int)+1:=by omega
  rw[e1]
  exact xb
 done:=by
  intro X hP hw hK hc i pins s σ H E I hf st hg
  subst hP hw hK
  obtain⟨⟨old,he⟩,hit⟩:=st
  obtain⟨hq,aJ⟩:=hg
  obtain⟨its,rv,p,hz⟩:=I.tuple hq
  have hl:=rv.length
  have fi:=hf it (by simp)
  have ei:i=its.toArray.size:=by rw[bc];omega
  refine UN (EH (prog:=X.prog) (w:=X.w) (A:=X.A.in1) (I.ok.hd hc) it a w8 its.toArray) he ⟨by rw[<-ei];exact hit,p⟩ λh' eb=>⟨rfl,?_⟩
  exact I.turned (t':=s.toks) (it:=it) (λb o hb q=>eb b o hb q) fi.1 fi.2.1 fi.2.2.2.1 fi.2.2.2.2.1 fi.2.2.2.2.2
 self:=λ_ _ _ _ _ st h=>by
  obtain⟨⟨old,he⟩,_⟩:=st
  exact zt he h
def ZQ(K:PySem.W.Frag)(ta:TA):TI:=λσ H R=>ta σ H λvs H1=>∃a xs,vs=[.ref a]/\aq K H1 a xs/\R (xA K a xs) H1
theorem ZR{X:Cx}{elts:List Expr}{k:Nat}{nF:Pos}{a:Expr}{ta:TA}{p pos:Pos}(hg:Gl X "enumerate")(hm:X.mg "enumerate"=none)(ha:PA X [a] ta)(hs:starEach [a] X.env=[(false,eval a X.env)]:=by rfl) :
  PI X (.Tuple elts k nF) (.Call (.Name "enumerate" p) [a] [] pos) (ZQ X.K ta):=by
 intro pins s σ H R I h
 refine Call_ (lP I hg hm boot_enumerate (vS (aB (ha pos pins s σ H _ I h) λus s1 ⟨vs,H1,I1,r1,q1⟩=>?_) hs rfl))
 obtain⟨l,xs,e,hq,q⟩:=q1
 subst e
 obtain⟨u,rfl,ru⟩:=vals1 r1
 cases ru
 obtain⟨its,rv,pl,hz⟩:=I1.tuple hq
 have aJ:l<s1.heap.objs.size:=by obtain⟨o,e,_⟩:=id pl;exact bf e
 refine ZO pl λh' he xc hsz hk=>?_
 have I2:Inv X pins σ H1 { s1 with heap:=h' }:=I1.kept (t':=s1.toks) hk
 refine zt (s:={ s1 with heap:=h' }) he ?_
 refine⟨s1.heap.objs.size+1,[s1.heap.objs.size+1,s1.heap.objs.size],_,_,H1,rfl,I2,ZP l s1.heap.objs.size (s1.heap.objs.size+1) xs (bh aJ) (bh (jo aJ)) (Nat.succ_ne_self _),⟨⟨.none,he⟩,xc⟩,λb hb=>?_,q⟩
 have z:b=s1.heap.objs.size+1\/b=s1.heap.objs.size:=by simpa using hb
 rcases z with z | z
 .subst z;exact I1.gT (iO _) (I1.aC.fresh (iO _))
 .subst z;exact I1.gT (aP _) I1.fresh
theorem ZS{K:PySem.W.Frag}{a:Addr}{xs:List V}{g:TG}{tb:TS}{D:Ends}{σ:St}{H:Hp}(Pv:Nat->St->Hp->Prop)(h0:Pv 0 σ H)(hl:∀i σ H,i<=xs.length->Pv i σ H->aq K H a xs)
  (hs:∀i x p σ H,xs[i]? = some x->Pv i σ H->H p=none->g (.ref p) σ (upd H p (.tup [.int i,x])) λσ2 H2=>tb { D with nx:=Pv (i+1),ct:=Pv (i+1),bk:=D.nx } σ2 H2) (hd:∀σ H,Pv xs.length σ H->D.nx σ H) :
  ∃W:Nat->Nat->St->Hp->Prop,(∃m,W 0 m σ H)/\∀i m σ H,W i m σ H->
   ((xA K a xs).stop i H/\D.nx σ H)\/((xA K a xs).go i H/\∃N:St->Hp->Prop,(∀σ' H',N σ' H'->∃m',m'<m/\W (i+1) m' σ' H')/\∀x H',(xA K a xs).gv i H x H'->g x σ H' λσ2 H2=>tb { D with nx:=N,ct:=N,bk:=D.nx } σ2 H2):=by
 refine⟨λi m σ H=>m=xs.length - i/\i<=xs.length/\Pv i σ H,⟨xs.length,by simp,bC _,h0⟩,?_⟩
 rintro i m σ H ⟨rfl,hi,p⟩
 have q:=hl i σ H hi p
 by_cases aJ:i<xs.length
 .refine .inr ⟨⟨q,aJ⟩,Pv (i+1),λσ' H' p'=>⟨xs.length - (i+1),by omega,rfl,aJ,p'⟩,λx H' y=>?_⟩
  obtain⟨pp,v,hn,e1,e2,e3⟩:=y
  subst e1 e3
  exact hs i v pp σ H e2 p hn
 .have e:i=xs.length:=by omega
  subst e
  exact .inl ⟨⟨q,rfl⟩,hd σ H p⟩
structure AF(K:PySem.W.Frag)(mg:Str->Option Value)(x:Str)(C:Addr):Prop where
 M8:PySem.W.makesIn K C=true
 it:PySem.W.findIn K (.ref C) "__init__"=some (some (.builtin "object.__init__"))
 kp:PySem.W.keepIn K (.ref C)=true
 gl:mg x=some (.ref C)
def ZT(C:Addr):TE:=λ_ H Q=>∀x dx,H x=none->H dx=none->dx≠x->Q (.ref x) (upd (upd H dx (.own x)) x (.ins C dx []))
theorem ZU{X:Cx}{x:Str}{C:Addr}{p pos:Pos}(N:AF X.K X.mg x C)(hg:Gl X x)(fK:(x==("__debug__":Str))=false:=by decide):PE X (.Call (.Name x p) [] [] pos) (ZT C):=by
 intro pins s σ H Q I h
 refine vU (wA I hg N.gl ?_ fK)
 refine PySem.W.callWith_K0 I.dh N.kp (zg (V1 I.dh N.M8 N.it (λself=>PySem.W.Looks.of_pure (PySem.W.oi_bind self)) ?_))
 have I2:=Inv.made (C:=C) I
 have q:=h (s.heap.objs.size+1) s.heap.objs.size (I.aC.fresh (iO _)) (I.aC.fresh (aP _)) (bh (oS _))
 have Y:=PySem.W.makes_of (M:=model X.prog X.w) I.dh N.M8
 have e2:((s.heap.push PySem.W.emptyDict).push (PySem.W.instObj C s.heap.objs.size)).get? (s.heap.objs.size+1)=some (PySem.W.instObj C s.heap.objs.size):=by
  have:((s.heap.push PySem.W.emptyDict).push (PySem.W.instObj C s.heap.objs.size)).get? (s.heap.push PySem.W.emptyDict).objs.size=some (PySem.W.instObj C s.heap.objs.size):=cB _ rfl
  rwa [lJ] at this
 have lt:PySem.W.Looks (model X.prog X.w) ((s.heap.push PySem.W.emptyDict).push (PySem.W.instObj C s.heap.objs.size)) (typeOf (.ref (s.heap.objs.size+1))) (.ref C):=(PySem.W.Looks.ld e2).andThen .now
 have lk:PySem.W.Looks (model X.prog X.w) ((s.heap.push PySem.W.emptyDict).push (PySem.W.instObj C s.heap.objs.size)) (isInstance (.ref (s.heap.objs.size+1)) (.type "object")) true:=lt.andThen (Y.top.keeps λb o e=>bz _ (bz _ e))
 refine codeAny_call_builtin PySem.W.oi_plain PySem.W.entry_oi (@PySem.W.check_slot (model X.prog X.w) _ _ _ "object.__init__" "object" "__init__" (.ref (s.heap.objs.size+1)) [] [] _ PySem.W.oi_kind PySem.W.oi_split lk (PySem.W.oi_args _) ?_)
 rw[PySem.W.oi_run]
 exact aM ⟨rfl,.ref (s.heap.objs.size+1),_,I2,rfl,q⟩
structure pV(K:PySem.W.Frag)(C:Addr):Prop where
 cl:cH K C
 ha:PySem.W.findIn K (.ref C) "__class__"=some (some (.builtin "object.__class__"))
 hn:PySem.W.specialIn K (.builtin "object.__class__") "__get__"=some (some (.builtin "getset_descriptor.__get__"))
 ht:PySem.W.takesIn K (.builtin "object.__class__")=some true
 hm:PySem.W.mroIn K C (.type "object")=some true
theorem pV.ty{K:PySem.W.Frag}{C a dx:Addr}{H:Hp}{fs:List (Str×V)}(t:pV K C)(e:H a=some (.ins C dx fs)):gU K H (.ref a) (.ref C) := .ins e t.cl t.ha t.hn t.ht t.hm
theorem M9{X:Cx}:fW X (.builtin "isinstance") (λxs H Q=>∃x D t b,(xs=[x,.ref D]/\gU X.K H x t/\PySem.W.kitOne X.K t (.ref D)=some b)/\Q (.bl b) H):=by
 intro pins s σ H xs us Q I r h
 obtain⟨x,D,t,b,⟨rfl,ty,e⟩,q⟩:=h
 obtain⟨u,v,rfl,ru,rv⟩:=vals2 r
 cases rv
 exact Lj I ru ty e λtk=>⟨.bl b,H,I.tok tk,rfl,q⟩
section
variable{X:Cx}{pins:List (Addr×Obj)}{σ:St}{H:Hp}{s:Shared}
noncomputable def fD(K:PySem.W.Frag)(H:Hp)(e:D)(u:Value):Bool :=@decide (∃d x,At K H d x/\RelV x u/\eX d e=true) (Classical.propDecidable _)
theorem ZV(I:Inv X pins σ H s){d e:D}{x:V}{u:Value}(a:At X.K H d x)(r:RelV x u):fD X.K H e u=eX d e:=by
 unfold fD
 rw[zf]
 constructor
 .intro hh
  obtain⟨d',x',a',r',h⟩ :=@ff _ (Classical.propDecidable _) hh
  have ex:=r.inj r'
  subst ex
  rw[At.inj I d d' x a a']
  exact h
 .intro h
  exact @aG _ (Classical.propDecidable _) ⟨d,x,a,r,h⟩
theorem Na(I:Inv X pins σ H s){e:D}{y:V}{v:Value}{A:Around}(hu:A.units+50<cLine)(ae:At X.K H e y)(ry:RelV y v):∀{ds:List D}{xs:List V}{us:List Value},dO X.K H ds xs->Vals xs us->fA ds<=50->(∀u∈us,SeqAt.EqAt A s u v (fD X.K H e u))/\us.any (fD X.K H e)=ds.any λd=>eX d e
 |[],xs,us,a,r,_=>by
  rw[dO] at a
  subst a
  cases r
  exact⟨λu m=>by(cases m),rfl⟩
 |d::ds,xs,us,a,r,hd=>by
  rw[dO] at a
  obtain⟨x,xr,rfl,a1,a2⟩:=a
  cases r with
  |cons r1 r2=>
   rw[fA] at hd
   obtain⟨i1,i2⟩:=Na I hu ae ry a2 r2 (by omega)
   have ef:=ZV I (e:=e) a1 r1
   refine⟨λu m=>?_,?_⟩
   .rcases bS.mp m with z | z
    .subst z
     rw[ef]
     exact Mb I d e x y _ v A 50 (by omega) hu a1 ae r1 ry
    .exact i1 u z
   .rw[tq,tq,ef,i2]
def ZW(K:PySem.W.Frag)(neg:Bool):R2:=λx y H Q=>∃p xs ds e,y = .ref p/\aj K H p xs/\dO K H ds xs/\At K H e x/\fA ds<=50/\Q (.bl (if neg then !(ds.any λd=>eX d e) else ds.any λd=>eX d e)) H
theorem ZX(hu:X.A.units+64<cLine):cN X (compareOp .In) (ZW X.K false):=by
 intro pins s σ H x y v u Q I rx ry h
 obtain⟨p,xs,ds,e,rfl,hq,ad,ae,hd,q⟩:=h
 cases ry
 obtain⟨its,r,pl,hz⟩:=I.list hq
 obtain⟨h1,h2⟩:=Na I (A:=X.A.in1) (by show X.A.units+1+50<cLine;omega) ae rx ad r hd
 refine SeqAt.in_listAt (fD X.K H e) pl.isList (λw hw=>h1 w (by simpa using hw)) ⟨.bl _,H,I,rfl,?_⟩
 rw[show its.toArray.any (fD X.K H e)=its.any (fD X.K H e) by simp,h2]
 exact q
end
theorem uu:plainId "set.update.loop"=true:=by decide +kernel
theorem AH:entryFor table "set.update.loop"=some Builtin.«set.update.loop»:=entryFor_of_fast (by kernel_rfl)
section
variable{prog:Program}{w:World}{A:Around}{R:Result->Shared->Prop}{I:Addr}{fp wr:List Addr}{n:Nat}{P:Nat->Value->Prop}{St:Nat->Heap->Prop}{KK:Type}[DecidableEq KK]{knd:KeyKind prog w KK}
theorem ZY(W:Walks prog w A.in1 I fp wr n P St)(S:Addr)(xB:S∉fp)(ks:Nat->KK)(hP:∀i v,P i v->knd.is (ks i) v=true/\v.scannable=true)(hn:n+1<scanBound)
  (J:Nat->(KK->Bool)->Nat->Prop) (hJ:∀i T c,i<n->J i T c->J (i+1) (λk'=>T k'||decide (k'=ks i)) (if T (ks i)=true then c else c+1)) (hc:∀i T c,J i T c->c<=i) :
  ∀(k i:Nat) (s:Shared) (T:KK->Bool) (c:Nat),n - i=k->i<=n->St i s.heap->J i T c->s.heap.SetOf knd S T c->
  (∀h' tk T' c',(∀b o,b∉wr->b≠S->s.heap.get? b=some o->h'.get? b=some o)->J n T' c'->h'.SetOf knd S T' c'->R (.ok (.ret .none)) { s with heap:=h',toks:=tk })->
  codeAny (model prog w) A (.builtin "set.update.loop" ⟨[.ref S,.ref I],[]⟩) R s:=by
 have xC:S∉wr:=λh=>xB (W.sub _ h)
 intro k
 induction k with
 |zero=>
  intro i s T c hk hi cX hj hS hR
  have br:i=n:=by omega
  subst br
  refine nr AH ?_
  rw[o8 uu _]
  show wpAny _ A.in1 (pyNext (.ref I) >>= _) _ _ s
  refine ai (W.done s _ _ cX λh' tk eP=>?_)
  obtain⟨o,es,ep,t,ho,r⟩:=hS
  exact aM (hR h' tk T c (λb o hb _ e=>eP b o hb e) hj ⟨o,es,ep,t,eP S o xC ho,r⟩)
 |succ k ih=>
  intro i s T c hk hi cX hj hS hR
  have aJ:i<n:=by omega
  refine nr AH ?_
  rw[o8 uu _]
  show wpAny _ A.in1 (pyNext (.ref I) >>= _) _ _ s
  refine ai (W.item i s _ _ aJ cX λv h' tk hv jF eP=>?_)
  have ke:h'.SetOf knd S T c:=by
   obtain⟨o,es,ep,t,ho,r⟩:=hS
   exact⟨o,es,ep,t,eP S o xC ho,r⟩
  have hci:=hc i T c hj
  show wpAny _ A.in1 (holding [v] (setAdd S v) >>= _) _ _ _
  refine ai (gQ ?_)
  unfold setAdd
  refine gQ ?_
  refine ai ((knd.pyHash (hP i v hv).1) ?_)
  refine wpAny_setAddHashed_of (hP i v hv).1 (hP i v hv).2 ke (by omega) λZZ kd AJ=>?_
  refine aM ⟨qM uu _,ih (i+1) _ _ _ (by omega) aJ (W.frame _ _ _ jF λb hb o e=>?_) (hJ i T c aJ hj) AJ λh3 rY T' c' dW Z1 E1=>?_⟩
  .exact kd.extBut b o (λz=>xB (z ▸ hb)) e
  .exact hR h3 rY T' c' (λb o mw xw e=>dW b o mw xw (kd.extBut b o xw (eP b o mw e))) Z1 E1
end
section
variable{prog:Program}{w:World}{A:Around}{E:Value->Shared->Prop}{s:Shared}
def iI(b:Bool):Obj:={ cls := .type "set",dict:=none,data := .set #[] 0 (.fresh 0 0 b) }
theorem Z3(x:Value):checkBuiltinCall "set.__new__" ⟨[.type "set",x],[]⟩=pure ():=by kernel_rfl
theorem Z4(x:Value):checkTypeCall "set" ⟨[x],[]⟩=pure ():=by kernel_rfl
theorem Z5{x:Value}{Z:Value->Shared->Prop}(hq:∀b:Bool,Z (.ref s.heap.objs.size) { s with heap:=s.heap.push (iI b) }) :
  codeAny (model prog w) A (.call (.builtin "set.__new__") ⟨[.type "set",x],[]⟩) (wants Z E) s:=by
 refine codeAny_of_tree ?_
 refine ai (m:=checkBuiltinCall "set.__new__" ⟨[.type "set",x],[]⟩) (oZ (Z3 x) (aM ⟨qM F.plain_set_new _,nr F.entry_set_new ?_⟩))
 rw[o8 F.plain_set_new _]
 unfold Builtin.«set.__new__» Builtin.Frozenset.newClass
 have hb:=sub_set_self
 cases s
 dsimp only
 wp_walk
 refine wpAny_askSetting (aM ?_)
 dsimp only
 simp only[newObj]
 exact ai (wpAny_alloc (aM (aM (hq _))))
theorem Z6{M:Model}{o x:Value}{Z:Unit->Shared->Prop}(hT:s.TypeIs o "set")(hZ:Z () s):wpAny M A (checkBuiltinCall "set.__init__" ⟨[o,x],[]⟩) Z E s:=by
 simp only[checkBuiltinCall,kind_set_init,split_set_init,sig_set_init]
 refine ai (Kk hT sub_set_self ?_)
 simp only[wk,gn,fG]
 unfold Bind.checkArgs
 dsimp only
 refine ai (m:=Bind.printed "set" true _ _) (printed_name (by decide) ?_)
 refine ai (m:=Bind.printed "*" false _ _) (printed_star (self:=o) rfl hT λsh=>?_)
 have e1:(if (Manifest.Receiver.self==Manifest.Receiver.none)=true then [o,x].length else [o,x].length - 1)=1:=by simp[show(Manifest.Receiver.self==Manifest.Receiver.none)=false from by decide]
 rw[e1]
 simp only[vW]
 have e2:Bind.check ⟨.positional,"set","*",.self,[⟨"iterable",.posOnly,false⟩]⟩ "set" sh 1 []=pure ():=by
  simp[Bind.check,Bind.checkCount,Bind.isPositional]
  intro z
  exact absurd z (by decide)
 rw[e2]
 exact aM hZ
theorem Nb:isSubtype (.type "list") (.type "set")=pure false:=by rw[zw];kernel_rfl
theorem Nc:isSubtype (.type "list") (.type "frozenset")=pure false:=by rw[zw];kernel_rfl
theorem Z7{S p:Addr}{Z:Unit->Shared->Prop}(hL:s.TypeIs (.ref p) "list")
  (h:wpAny (model prog w) A (pyIter (.ref p)) (λit s1=>wpAny (model prog w) A (runValue (.builtin "set.update.loop" ⟨[.ref S,it],[]⟩)) (λ_ s2=>Z () s2) E s1) E s) :
  wpAny (model prog w) A (Builtin.Frozenset.updateFrom "set.__init__" S (.ref p)) Z E s:=by
 unfold Builtin.Frozenset.updateFrom Builtin.Frozenset.isAnySet
 generalize pyIter (.ref p)=it at h ⊢
 have s1:=Nb
 have s2:=Nc
 wp_walk
 exact aB h λa s' hq=>ai (aB hq λ_ _ z=>aM z)
theorem Nd{p:Addr}{Q:Value->Shared->Prop}(hL:s.TypeIs (.ref p) "list")
  (h:∀b:Bool,wpAny (model prog w) A.in1.in1 (pyIter (.ref p)) (λit s1=>wpAny (model prog w) A.in1.in1 (runValue (.builtin "set.update.loop" ⟨[.ref s.heap.objs.size,it],[]⟩)) (λ_ s2=>Q (.ref s.heap.objs.size) s2) E s1) E { s with heap:=s.heap.push (iI b) }) :
  wpAny (model prog w) A (call (.type "set") [.ref p]) Q E s:=by
 obtain⟨c,tl,aob⟩:=tG.mro
 have aoc:=tG.made
 have ZN:=tG.sub
 refine zg (codeAny_of_tree ?_)
 refine aM ⟨Code.quiet_builtin _ (by decide +kernel),nr F.entry_type_call ?_⟩
 rw[Around.under_plain (weight_type_call_type "set" [.ref p] []) rfl]
 have h1:=tG.notType
 have h2:=tG.canCreate
 have h3:=Z4 (.ref p)
 repeat (any_goals (first | assumption | wp_step))
 refine vT (Z5 (E:=E) (Z:=λo s1=>∃b:Bool,o = .ref s.heap.objs.size/\s1={ s with heap:=s.heap.push (iI b) }) λb=>⟨b,rfl,rfl⟩) λr s1 hr=>?_
 rcases r with e | fl
 .exact hr
 .cases fl with
  |ret o=>
   obtain⟨b,rfl,rfl⟩:=hr
   have hS:(s.heap.push (iI b)).get? s.heap.objs.size=some (iI b):=cB _ rfl
   have hT:Shared.TypeIs { s with heap:=s.heap.push (iI b) } (.ref s.heap.objs.size) "set":=⟨_,hS,rfl⟩
   have li:=tG.init.lookup
   have bi:=tG.init.bind (.ref s.heap.objs.size)
   repeat (any_goals (first | assumption | wp_step))
   refine vT (codeAny_call_builtin (R:=wants (λr s2=>r = .none/\Q (.ref s.heap.objs.size) s2) E) tG.init.plain F.entry_set_init (Z6 hT ?_)) λr2 s2 xu=>?_
   .unfold Builtin.«set.__init__» noKeywords
    have Z8:Shared.TypeIs { s with heap:=s.heap.push (iI b) } (.ref p) "list":=let ⟨o,e,c⟩:=hL;⟨o,bz _ e,c⟩
    have s1:=Nb
    have s2:=Nc
    generalize hU:Builtin.Frozenset.updateFrom "set.__init__"=U
    wp_walk
    subst hU
    exact Z7 Z8 (aB (h b) λit s1 hz=>aB hz λ_ s2 hq=>aM ⟨rfl,hq⟩)
   .rcases r2 with e | fl
    .exact xu
    .cases fl with
     |ret r=>
      obtain⟨rfl,hq⟩:=xu
      repeat (any_goals (first | assumption | wp_step))
     |_=>exact xu.elim
  |_=>exact hr.elim
end
def E2(ss:List Str)(i:Nat)(T:Key->Bool)(c:Nat):Prop:=c<=i/\(c=i↔(ss.take i).Nodup)/\∀k,T k=true↔∃x∈ss.take i,k=Sum.inr x
def pW(ss:List Str)(i:Nat):Key:=Sum.inr ((ss[i]?).getD ⟨#[]⟩)
theorem Z9{ss:List Str}{i:Nat}{T:Key->Bool}{c:Nat}(hi:i<ss.length)(h:E2 ss i T c):E2 ss (i+1) (λk'=>T k'||decide (k'=pW ss i)) (if T (pW ss i)=true then c else c+1):=by
 obtain⟨h1,h2,h3⟩:=h
 have e:ss[i]? = some ss[i]:=bg hi
 have ek:pW ss i=Sum.inr ss[i]:=by unfold pW;rw[e];rfl
 have et:ss.take (i+1)=ss.take i++[ss[i]]:=by rw[gq,e];rfl
 have hT:T (pW ss i)=true↔ss[i]∈ss.take i:=by
  rw[h3,ek]
  constructor
  .rintro⟨x,hx,z⟩
   rw[Sum.inr.inj z]
   exact hx
  .exact λm=>⟨_,m,rfl⟩
 have hN:(ss.take (i+1)).Nodup↔(ss.take i).Nodup/\ss[i]∉ss.take i:=by
  rw[et,qN]
  constructor
  .rintro⟨a,_,c⟩
   exact⟨a,λm=>c _ m _ (cI.mpr rfl) rfl⟩
  .rintro⟨a,b⟩
   exact⟨a,fF.mpr ⟨gr,jm⟩,λu hu v hv z=>b (by rw[<-cI.mp hv,<-z];exact hu)⟩
 refine⟨by split <;> omega,?_,λk=>?_⟩
 .rw[hN]
  by_cases m:ss[i]∈ss.take i
  .rw[aA (hT.mpr m)]
   exact⟨λz=>by omega,λz=>absurd m z.2⟩
  .rw[aw (λz=>m (hT.mp z))]
   exact⟨λz=>⟨h2.mp (by omega),m⟩,λz=>by have:=h2.mpr z.1;omega⟩
 .rw[vX,h3,Kr,ek,et]
  constructor
  .rintro(⟨x,hx,z⟩ | z)
   .exact⟨x,du.mpr (.inl hx),z⟩
   .exact⟨_,du.mpr (.inr (cI.mpr rfl)),z⟩
  .rintro⟨x,hx,z⟩
   rcases du.mp hx with m | m
   .exact .inl ⟨x,m,z⟩
   .rw[cI.mp m] at z
    exact .inr z
def uv(prog:Program)(w:World)(p:Addr)(T:Key->Bool)(c:Nat):Heap->Prop:=λh=>h.SetOf (bN prog w) p T c
theorem aaa{X:Cx}(hc:X.calm=true):fW X (.type "set") (λxs H Q=>∃(a:Addr) (ss:List Str),xs=[.ref a]/\aj X.K H a (ss.map V.str)/\ss.length+1<scanBound/\
  ∀p T c,H p=none->(c=ss.length↔ss.Nodup)->Q (.ref p) (upd H p (.ext (uv X.prog X.w p T c)))):=by
 intro pins s σ H xs us Q I r h
 obtain⟨l,ss,rfl,hq,hn,q⟩:=h
 obtain⟨u,rfl,ru⟩:=vals1 r
 cases ru
 obtain⟨its,rv,pl,hz⟩:=I.list hq
 have hl:=pl.isList
 have hh:X.A.handled=none:=I.ok.hd hc
 have aJ:l<s.heap.objs.size:=by obtain⟨_,e,_⟩:=hl;exact bf e
 have hlen:its.length=ss.length:=by rw[<-rv.length,ax]
 refine Nd (let ⟨o,e,c,_⟩:=hl;⟨o,e,c⟩) λb=>?_
 refine tf (hl.push _) ?_
 refine wpAny_runValue ?_
 have hT:its.toArray.size=ss.length:=by rw[bc,hlen]
 refine ZY (knd:=bN X.prog X.w) (zr (A:=X.A.in1.in1.in1) hh _ l ?_ its.toArray) s.heap.objs.size ?_ (pW ss) (λi v hP=>?_) (by omega) (E2 ss) (λi T c hi h=>Z9 (by omega) h) (λ_ _ _ h=>h.1)
  its.toArray.size 0 _ (λ_=>false) 0 (by omega) (bC _) ⟨⟨_,cB _ rfl,rfl,rfl⟩,(hl.push _).push _⟩ ⟨aP _,⟨λ_=>jm,λ_=>rfl⟩,λk=>⟨λz=>(by cases z),λ⟨x,hx,_⟩=>by cases hx⟩⟩
  ⟨iI b,#[],0,.fresh 0 0 b,bz _ (cB _ rfl),⟨rfl,rfl,rfl⟩,rfl,(λe he=>by cases he),(λk=>⟨λz=>(by cases z),λ⟨e,he,_⟩=>by cases he⟩),(by decide),rfl,rfl⟩ λh' tk T c hk hj hS=>?_
 .show l≠(s.heap.push (iI b)).objs.size
  rw[lL]
  exact bh (jo aJ)
 .intro z
  have z:s.heap.objs.size=(s.heap.push (iI b)).objs.size\/s.heap.objs.size=l:=by simpa using z
  rw[lL] at z
  rcases z with z | z
  .exact bh (oS _) z
  .exact bh aJ z.symm
 .have hv:its[i]? = some v:=by simpa using hP
  have hi:i<ss.length:=by rw[<-hlen];exact(cn.mp hv).1
  obtain⟨u',e1,e2⟩:=rv.get (i:=i) (x:=V.str ss[i]) (by simp[hi])
  rw[hv] at e1
  cases e1
  obtain⟨t,rfl⟩:=e2
  have ek:pW ss i=Sum.inr ss[i]:=by unfold pW;rw[bg hi];rfl
  rw[ek]
  exact⟨Dh ss[i] t,rfl⟩
 .rw[hT] at hj
  obtain⟨_,h2,_⟩:=hj
  rw[C5] at h2
  have xD:=hS
  obtain⟨o,es,ep,tt,ho,_⟩:=xD
  refine⟨.ref s.heap.objs.size,_,I.laid (t':=tk) (λb' o' e=>?_) ?_ (show cS X.prog X.w _ h' _ (.ext (uv X.prog X.w s.heap.objs.size T c)) from⟨hS,⟨o,ho⟩,λh1 h3 x k=>?_⟩),rfl,q _ T c (I.aC.fresh (aP _)) h2⟩
  .have hb:=bf e
   refine hk b' o' (λz=>?_) (λz=>?_) (bz _ (bz _ e))
   .have z:b'=(s.heap.push (iI b)).objs.size:=by simpa using z
    rw[lL] at z
    exact bh (jo hb) z
   .exact bh hb z
  .exact aP _
  .obtain⟨o,es,ep,tt,ho,r⟩:=x
   exact⟨o,es,ep,tt,k _ ho,r⟩
theorem aab{X:Cx}:fW X (.builtin "len") (λxs H Q=>∃p T c,xs=[.ref p]/\H p=some (.ext (uv X.prog X.w p T c))/\Q (.int (c:Nat)) H):=by
 intro pins s σ H xs us Q I r h
 obtain⟨p,T,c,rfl,hp,q⟩:=h
 obtain⟨u,rfl,rx⟩:=vals1 r
 cases rx
 obtain⟨hS,_⟩:=(show cS X.prog X.w H s.heap p (.ext (uv X.prog X.w p T c)) from I.aC p _ hp)
 obtain⟨o,es,ep,t,ho,hx,hd,_,_,hb,hf,hc⟩:=hS
 have kd:scanBound<=2 ^ 62:=by decide
 refine call_len_set ho hx hd hf (by omega) ⟨.int (c:Nat),H,(I.tok _).tok _,⟨s.toks+1,by rw[hc]⟩,q⟩
theorem Ng:bootBuiltins "set"=some (.type "set"):=by decide +kernel
end L2
namespace L2
open PySem
def nU(t:SetTable):Nat->SetTable.Probe->SetTable.Probe
 |0,p=>p
 |n+1,p=>nU t n (t.advance p)
theorem Nh(t:SetTable):∀(m n:Nat) (p:SetTable.Probe),nU t (m+n) p=nU t n (nU t m p)
 |0,n,p=>by rw[qL];rfl
 |m+1,n,p=>by rw[Nat.succ_add];exact Nh t m n (t.advance p)
def AK(t:SetTable)(p:SetTable.Probe)(i q:Nat):SetTable.Probe:={ p with j:=i,more:=SetTable.runEnd t.mask i - i,i:=i,perturb:=q }
theorem E3(t:SetTable):∀(m:Nat) (p:SetTable.Probe),p.more=m->nU t (m+1) p=AK t p (SetTable.leap t.mask p.i p.perturb).1 (SetTable.leap t.mask p.i p.perturb).2
 |0,p,h=>by
  show t.advance p=_
  unfold SetTable.advance AK
  rw[aw (by omega)]
 |m+1,p,h=>by
  show nU t (m+1) (t.advance p)=_
  have e:t.advance p={ p with j:=p.j+1,more:=p.more - 1 }:=by
   unfold SetTable.advance
   rw[aA (by omega)]
  rw[e,E3 t m _ (by show p.more - 1=m;omega)]
  rfl
theorem E4(m i:Nat):SetTable.runEnd m i - i<=9:=by
 unfold SetTable.runEnd
 split <;> omega
def gJ(m:Nat):Nat->Nat×Nat->Nat×Nat
 |0,x=>x
 |n+1,x=>gJ m n (SetTable.leap m x.1 x.2)
theorem Ni(m:Nat):∀(a b:Nat) (x:Nat×Nat),gJ m (a+b) x=gJ m b (gJ m a x)
 |0,b,x=>by rw[qL];rfl
 |a+1,b,x=>by rw[Nat.succ_add];exact Ni m a b _
theorem Nj(t:SetTable):∀(n:Nat) (p:SetTable.Probe),p.more<=9->∃d,d<=10*(n+1)/\n+1<=d/\nU t d p=AK t p (gJ t.mask (n+1) (p.i,p.perturb)).1 (gJ t.mask (n+1) (p.i,p.perturb)).2
 |0,p,h=>⟨p.more+1,by omega,by omega,E3 t p.more p rfl⟩
 |n+1,p,h=>by
  have e:=E3 t p.more p rfl
  obtain⟨d,hd,hd2,ed⟩:=Nj t n (AK t p (SetTable.leap t.mask p.i p.perturb).1 (SetTable.leap t.mask p.i p.perturb).2) (E4 _ _)
  refine⟨p.more+1+d,by omega,by omega,?_⟩
  rw[Nh,e,ed]
  rfl
theorem Nk(m:Nat):∀(n:Nat) (x:Nat×Nat),(gJ m n x).2=x.2 / 32 ^ n
 |0,x=>by simp[gJ]
 |n+1,x=>by
  rw[gJ,Nk m n]
  show x.2 / 32 / 32 ^ n=_
  rw[Nat.div_div_eq_div_mul,Nat.pow_succ,oW]
theorem Nl(m:Nat):∀(n:Nat) (x:Nat×Nat),(gJ m (n+1) x).1<=m
 |0,x=>by
  show(x.1*5+1+x.2 / 32) % (m+1)<=m
  have:=Nat.mod_lt (x.1*5+1+x.2 / 32) (show 0<m+1 by omega)
  omega
 |n+1,x=>Nl m n _
def E5(m i:Nat):Nat:=(i*5+1) % (m+1)
def xE(m:Nat):Nat->Nat->Nat
 |0,i=>i
 |n+1,i=>xE m n (E5 m i)
theorem Nm(m:Nat):∀(n i:Nat),gJ m n (i,0)=(xE m n i,0)
 |0,i=>rfl
 |n+1,i=>by
  rw[gJ,xE]
  have:SetTable.leap m i 0=(E5 m i,0):=by
   unfold SetTable.leap E5
   simp
  rw[this]
  exact Nm m n _
def Full(m:Nat):Prop := ∀i,i<=m->∀j,j<=m->∃n,n<=m/\xE m n i=j
theorem aac:Full 7:=by
 have h:∀i:Fin 8,∀j:Fin 8,∃n:Fin 8,xE 7 n.1 i.1=j.1:=by decide
 intro i hi j hj
 obtain⟨n,e⟩:=h ⟨i,by omega⟩ ⟨j,by omega⟩
 exact⟨n.1,by omega,e⟩
structure nV(t:SetTable)(p:SetTable.Probe):Prop where
 more:p.more<=9
 E6:p.perturb<2 ^ 64
 mD:p.dummy=none
theorem reach{t:SetTable}(F:Full t.mask){p:SetTable.Probe}(O:nV t p){j:Nat}(hj:j<=t.mask):∃d,d<=10*(t.mask+14)/\(nU t d p).j=j:=by
 obtain⟨n,hn,e⟩:=F (gJ t.mask (12+1) (p.i,p.perturb)).1 (Nl _ _ _) j hj
 obtain⟨d,hd,_,ed⟩:=Nj t (12+n) p O.more
 refine⟨d,by omega,?_⟩
 rw[ed]
 show(gJ t.mask (12+n+1) (p.i,p.perturb)).1=j
 have hz:(gJ t.mask (12+1) (p.i,p.perturb)).2=0:=by
  rw[Nk]
  show p.perturb / 32 ^ 13=0
  have:=O.E6
  omega
 have Nn:gJ t.mask (12+1) (p.i,p.perturb)=((gJ t.mask (12+1) (p.i,p.perturb)).1,0):=by rw[<-hz]
 rw[show 12+n+1=(12+1)+n from by omega,Ni,Nn,Nm,e]
theorem Np(t:SetTable)(h:Int):nV t (t.probeStart h):=by
 refine⟨E4 _ _,?_,rfl⟩
 show SetTable.bits h<2 ^ 64
 unfold SetTable.bits
 have h1:=nt h (show(2 ^ 64:Int)≠0 by decide)
 have h2:=qO h (show(0:Int)<2 ^ 64 by decide)
 omega
theorem Nr{t:SetTable}{p:SetTable.Probe}(O:nV t p):nV t (t.advance p):=by
 unfold SetTable.advance
 split
 .exact⟨by show p.more - 1<=9;have:=O.more;omega,O.E6,O.mD⟩
 .refine⟨E4 _ _,?_,O.mD⟩
  show p.perturb / 32<2 ^ 64
  have:=O.E6
  omega
theorem AL{α:Type}[DecidableEq α]:∀{l m:List α},l.Nodup->(∀x∈l,x∈m)->l.length<=m.length
 |[],m,_,_=>bC _
 |a::l,m,nd,h=>by
  have ha:=h a bL
  have h1:=AL (fF.mp nd).2 (m:=m.erase a) λx mx=>(List.mem_erase_of_ne λz:x=a=>(fF.mp nd).1 (by rw[<-z];exact mx)).mpr (h x (cg _ mx))
  rw[List.length_erase_of_mem ha] at h1
  have:=List.length_pos_of_mem ha
  rw[dg]
  omega
theorem aad{t:SetTable}(hd:t.dummies = #[])(hs:t.place.size<=t.mask):∃j,j<=t.mask/\t.slot j = .empty:=by
 refine Ks λhn=>?_
 have fu:∀j,j<=t.mask->j∈t.place.toList:=λj hj=>by
  refine Ks λhm=>hn ⟨j,hj,?_⟩
  unfold SetTable.slot
  rw[aw (λz=>hm ?_)]
  .rw[aw]
   rw[hd]
   unfold SetTable.has
   simp
  .have z:t.place[SetTable.below t.place j]? = some j:=by simpa using z
   exact UD.mpr (Array.mem_of_getElem? z)
 have h1:(List.range (t.mask+1)).length<=t.place.toList.length:=AL Kt λj mj=>fu j (by have:=ip.mp mj;omega)
 rw[kG,lI] at h1
 omega
theorem aae{t:SetTable}(hd:t.dummies = #[])(j:Nat):t.slot j = .empty\/∃i,t.slot j = .live i/\i<t.place.size:=by
 unfold SetTable.slot
 by_cases h:(t.place[SetTable.below t.place j]? == some j)=true
 .rw[aA h]
  have z:t.place[SetTable.below t.place j]? = some j:=by simpa using h
  refine .inr ⟨_,rfl,(Array.getElem?_eq_some_iff.mp z).1⟩
 .rw[aw h,aw]
  .exact .inl rfl
  .rw[hd]
   unfold SetTable.has
   simp
def r6(t:SetTable)(d:Nat)(p:SetTable.Probe):Prop:=t.slot (nU t d p).j = .empty
theorem aaf{t:SetTable}(F:Full t.mask)(hd:t.dummies = #[])(hs:t.place.size<=t.mask){p:SetTable.Probe}(O:nV t p):∃d,d<=10*(t.mask+14)/\r6 t d p:=by
 obtain⟨j,hj,e⟩:=aad hd hs
 obtain⟨d,h1,h2⟩:=reach F O hj
 exact⟨d,h1,by unfold r6;rw[h2];exact e⟩
theorem Nt{t:SetTable}(hd:t.dummies = #[])(ha:Nat->Int)(h:Int):∀(d fuel:Nat) (p:SetTable.Probe),d<fuel->r6 t d p->nV t p->
  (∃j,SetTable.probe.go t ha h fuel p=some (.empty j none)/\t.slot j = .empty)\/∃j i q d',SetTable.probe.go t ha h fuel p=some (.candidate j i q)/\t.slot j = .live i/\i<t.place.size/\nV t q/\d'<d/\r6 t d' q
 |d,0,p,hf,_,_=>by omega
 |d,fuel+1,p,hf,hn,O=>by
  rw[SetTable.probe.go]
  rcases aae hd p.j with e | ⟨i,e,hi⟩
  .rw[e]
   exact .inl ⟨p.j,by show some (SetTable.Met.empty p.j p.dummy)=_;rw[O.mD],e⟩
  .have nW:d≠0:=λz=>by
    rw[z] at hn
    have hn:t.slot p.j = .empty:=hn
    rw[e] at hn
    cases hn
   obtain⟨d',rfl⟩:∃d',d=d'+1:=⟨d - 1,by omega⟩
   have zP:r6 t d' (t.advance p):=hn
   rw[e]
   show(∃j,(if ha i==h then some (SetTable.Met.candidate p.j i (t.advance p)) else SetTable.probe.go t ha h fuel (t.advance p))=_/\_)\/∃j i_1 q aod,(if ha i==h then some (SetTable.Met.candidate p.j i (t.advance p)) else SetTable.probe.go t ha h fuel (t.advance p))=_/\_
   by_cases hh:(ha i==h)=true
   .rw[aA hh]
    exact .inr ⟨p.j,i,t.advance p,d',rfl,e,hi,Nr O,by omega,zP⟩
   .rw[aw hh]
    rcases Nt hd ha h d' fuel (t.advance p) (by omega) zP (Nr O) with z | ⟨j,i',q,d'',z1,z2,z3,z4,z5,z6⟩
    .exact .inl z
    .exact .inr ⟨j,i',q,d'',z1,z2,z3,z4,by omega,z6⟩
theorem aag(t:SetTable)(j:Nat):(t.put j).1.place.size=t.place.size+1:=by
 show(SetTable.insertAt t.place (SetTable.below t.place j) j).size=_
 rw[<-lI,(US t.place _ j).length_eq,lI,Kq]
theorem aah{t:SetTable}(hd:t.dummies = #[])(j:Nat):(t.put j).1.dummies = #[]:=by
 show(if SetTable.has t.dummies j then SetTable.eraseAt t.dummies (SetTable.below t.dummies j) else t.dummies) = #[]
 rw[hd]
 split
 .rfl
 .rfl
end L2
namespace L2
open PySem PySem.Spec PyProof.Rows
section
variable{prog:Program}{w:World}{A:Around}{E:Value->Shared->Prop}{s:Shared}
structure nX(t:SetTable)(n:Nat):Prop where
 mD:t.dummies = #[]
 uw:t.place.size=n
 odd:t.gaveWay=false
 E7:Full t.mask
 gE:n<=t.mask
 low:t.mask<=1000
theorem nX.fits{t:SetTable}{n:Nat}(T:nX t n):t.fits n=true:=by
 unfold SetTable.fits SetTable.fill
 rw[T.mD,T.uw]
 simp[T.gE]
def aai(prog:Program)(w:World)(h:Heap)(es:Array (Int×Value))(ks:List Key):Prop := ∀e∈es.toList,∃b mE,e.2 = .ref b/\IsTupleKey (bN prog w) h mE b/\mE≠ks
theorem Nu{ks:List Key}{a:Addr}{n:Nat}{Q:Bool->Shared->Prop}(hk:IsTupleKey (bN prog w) s.heap ks a)(h:Q false s):wpAny (model prog w) A (ofAClassStatement (n+1) (.ref a)) Q E s:=by
 have hT:=hk.typeIs
 obtain⟨o,items,m,ho,_,hd,hi⟩:=hk
 have hv:∀v∈items.toList,carriedByValue v=true:=hi.byValue
 unfold ofAClassStatement
 refine ai (wpAny_typeOf hT ?_)
 dsimp only
 refine ai ?_
 refine aM ?_
 simp only[wk,gn,fG]
 refine ai (kI ho hd ?_)
 dsimp only
 refine ai ?_
 rw[<-Array.forIn_toList]
 refine Kb _ (λrest r s'=>r.1=none/\s'=s/\∀v∈rest,carriedByValue v=true) _ (λv rest r s' hh=>?_) (λr s' hh=>?_) _ _ ⟨rfl,rfl,hv⟩
 .obtain⟨hr,rfl,fu⟩:=hh
  have hc:=fu v bL
  have e:ofAClassStatement n v=pure false:=by
   cases v with
   |ref b=>simp[carriedByValue] at hc
   |_=>unfold ofAClassStatement;rfl
  rw[e]
  refine ai (aM ?_)
  simp only[gn,fG]
  exact aM ⟨rfl,rfl,λu r8=>fu u (cg _ r8)⟩
 .obtain⟨r1,r2⟩:=r
  obtain⟨hr,rfl,_⟩:=hh
  simp only at hr
  subst hr
  exact aM h
theorem aaj{ks:List Key}{x:Addr}{l:List Value}{Q:Bool->Shared->Prop}(hk:IsTupleKey (bN prog w) s.heap ks x)(hl:∀v∈l,∃b mE,v = .ref b/\IsTupleKey (bN prog w) s.heap mE b)(h:Q false s) :
  wpAny (model prog w) A (searchCouldBeSeen (.ref x) l) Q E s:=by
 unfold searchCouldBeSeen
 refine ai ?_
 refine Kb _ (λrest r s'=>r.1=none/\s'=s/\∀v∈rest,∃b mE,v = .ref b/\IsTupleKey (bN prog w) s.heap mE b) _ (λv rest r s' hh=>?_) (λr s' hh=>?_) _ _ ⟨rfl,rfl,hl⟩
 .obtain⟨hr,rfl,fu⟩:=hh
  obtain⟨b,mE,rfl,hb⟩:=fu v bL
  have hq:∀{Q:Bool->Shared->Prop}{c:Addr}{aak:List Key},IsTupleKey (bN prog w) s'.heap aak c->Q true s'->wpAny (model prog w) A (eqIsQuiet 8 (.ref c)) Q E s':=λhk hq=>(tupleKind (bN prog w)).quiet hk hq
  dsimp only
  by_cases hv:((x==b)||(carriedByValue (.ref x)&&carriedByValue (.ref b)))=true
  .rw[aA hv]
   exact aM ⟨rfl,rfl,λu r8=>fu u (cg _ r8)⟩
  .rw[aw hv]
   refine ai (hq hk ?_)
   simp only[wk,gn,fG]
   refine ai (hq hb ?_)
   simp only[wk,gn,fG]
   refine ai (Nu hk ?_)
   simp only[gn,fG]
   refine ai (Nu hb ?_)
   simp only[gn,fG]
   exact aM ⟨rfl,rfl,λu r8=>fu u (cg _ r8)⟩
 .obtain⟨r1,r2⟩:=r
  obtain⟨hr,rfl,_⟩:=hh
  simp only at hr
  subst hr
  exact aM h
theorem aal{a x:Addr}{o:Obj}{es:Array (Int×Value)}{ep:Nat}{t:SetTable}{ks:List Key}{gZ:Int}(hu:A.units<cLine)(hk:IsTupleKey (bN prog w) s.heap ks x)(ho:s.heap.get? a=some o)(hd:o.data = .set es ep t)(T:nX t es.size)(nY:aai prog w s.heap es ks){Q:SetFound->Shared->Prop}(h:∀j,Q (.free j false) s) :
  ∀(d fuel:Nat) (st:Option SetTable.Probe),d<fuel->d<=10*(t.mask+14)->nV t (st.getD (t.probeStart gZ))->r6 t d (st.getD (t.probeStart gZ))->wpAny (model prog w) A (setSearchFrom a (.ref x) gZ true fuel st) Q E s:=by
 intro d
 induction d using Nat.strongRecOn with
 |ind d ih=>
  intro fuel st hf aoe O N
  obtain⟨fuel,rfl⟩:∃f,fuel=f+1:=⟨fuel - 1,by omega⟩
  unfold setSearchFrom
  refine ai (C7 ho hd T.fits ?_)
  dsimp only
  rw[T.odd]
  simp only[gn,fG]
  generalize hp:SetTable.probe t _ gZ _=met
  have hm:(∃j,met=some (.empty j none)/\t.slot j = .empty)\/∃j i q d',met=some (.candidate j i q)/\t.slot j = .live i/\i<t.place.size/\nV t q/\d'<d/\r6 t d' q:=by
   rw[<-hp]
   exact Nt T.mD _ gZ d (10*SetTable.turns t.mask) _ (by unfold SetTable.turns;omega) N O
  rcases hm with ⟨j,rfl,_⟩ | ⟨j,i,q,d',rfl,lh,hi,Oq,AM,Nq⟩
  .dsimp only
   exact aM (h j)
  .dsimp only
   rw[T.uw] at hi
   have g9:es[i]? = some es[i]:=Array.getElem?_eq_getElem hi
   obtain⟨b,mE,eb,hb,dI⟩:=nY es[i] (UD.mpr (Array.getElem_mem hi))
   have cX:∀v∈((es.filter (λx=>x.1==gZ)).toList.map (λx=>x.2)),∃b mE,v = .ref b/\IsTupleKey (bN prog w) s.heap mE b:=λv mv=>by
    obtain⟨e,me,rfl⟩:=bP.mp mv
    have me:e∈es.toList:=by
     rw[Array.toList_filter] at me
     exact(cR.mp me).1
    obtain⟨b,k2,e1,e2,_⟩:=nY e me
    exact⟨b,k2,e1,e2⟩
   have nZ:t.sameMemory t.moves t.mask=some true:=by
    unfold SetTable.sameMemory
    rw[aA (by simp)]
   cases hl:t.led
   all_goals simp only[wk,Bool.not_false,gn,fG,jk]
   .refine ai (aaj hk cX ?_)
    simp only[gn,fG]
    rw[g9]
    dsimp only
    rw[eb]
    refine ai (gQ (wpAny_eqBool_tuple hu hb hk ?_))
    refine ai (C7 ho hd T.fits ?_)
    rw[aH dI]
    dsimp only
    simp only[ni,gn,fG]
    rw[nZ]
    dsimp only
    rw[aA rfl,lh]
    dsimp only
    rw[g9]
    dsimp only
    rw[eb]
    refine ai (wpAny_isSame_ref_self ?_)
    refine ai (aM ?_)
    simp only[jk]
    exact ih d' AM fuel (some q) (by omega) (by omega) Oq Nq
   .rw[g9]
    dsimp only
    rw[eb]
    refine ai (gQ (wpAny_eqBool_tuple hu hb hk ?_))
    refine ai (C7 ho hd T.fits ?_)
    rw[aH dI]
    dsimp only
    simp only[ni,gn,fG]
    rw[nZ]
    dsimp only
    rw[aA rfl,lh]
    dsimp only
    rw[g9]
    dsimp only
    rw[eb]
    refine ai (wpAny_isSame_ref_self ?_)
    refine ai (aM ?_)
    simp only[jk]
    exact ih d' AM fuel (some q) (by omega) (by omega) Oq Nq
theorem aam{ks:List Key}{a:Addr}{n:Nat}{Q:Bool->Shared->Prop}(hk:IsTupleKey (bN prog w) s.heap ks a)(h:∀b,Q b s):wpAny (model prog w) A (hashByValue (n+1) (.ref a)) Q E s:=by
 have hT:=hk.typeIs
 obtain⟨o,items,m,ho,_,hd,hi⟩:=hk
 have hv:∀v∈items.toList,∃k,(bN prog w).is k v=true:=by
  clear h ho hd hT
  generalize items.toList=l at hi
  induction hi with
  |nil=>intro v m;cases m
  |cons h1 _ ih=>
   intro v m
   rcases bS.mp m with z | z
   .rw[z];exact⟨_,h1⟩
   .exact ih v z
 unfold hashByValue
 refine ai (CY hT F.slot_tuple_hash.lookup ?_)
 dsimp only
 refine ai (kI ho hd ?_)
 refine ai ?_
 show wpAny _ _ (forIn items _ _) _ _ s
 rw[<-Array.forIn_toList]
 refine Kb _ (λrest r s'=>r.1=none/\s'=s/\∀v∈rest,∃k,(bN prog w).is k v=true) _ (λv rest r s' hh=>?_) (λr s' hh=>?_) _ _ ⟨rfl,rfl,hv⟩
 .obtain⟨hr,rfl,fu⟩:=hh
  obtain⟨k,hk⟩:=fu v bL
  rcases jW hk with ⟨i,t,rfl,rfl⟩ | ⟨x,t,rfl,rfl⟩
  .have e:hashByValue n (.int i t)=pure true:=by cases n <;> rfl
   rw[e]
   refine ai (aM ?_)
   simp only[wk,gn,fG]
   exact aM ⟨rfl,rfl,λu r8=>fu u (cg _ r8)⟩
  .have e:hashByValue n (.str x t)=pure false:=by cases n <;> rfl
   rw[e]
   refine ai (aM ?_)
   simp only[Bool.not_false,jk]
   exact aM (aM (h _))
 .obtain⟨r1,r2⟩:=r
  obtain⟨hr,rfl,_⟩:=hh
  simp only at hr
  subst hr
  exact aM (h _)
def n0(prog:Program)(w:World)(h0 h:Heap)(S:Addr)(m:Nat)(done:List (List Key)):Prop := ∃o es ep t,h.get? S=some o/\o.ExactSet/\o.data = .set es ep t/\nX t es.size/\t.mask=m/\es.size=done.length/\∀e∈es.toList,∃b ks,e.2 = .ref b/\IsTupleKey (bN prog w) h0 ks b/\ks∈done
theorem n0.keep{h0 h h':Heap}{S:Addr}{m:Nat}{done:List (List Key)}(k:∀o,h.get? S=some o->h'.get? S=some o)(x:n0 prog w h0 h S m done):n0 prog w h0 h' S m done:=
 let ⟨o,es,ep,t,ho,r⟩:=x;⟨o,es,ep,t,k _ ho,r⟩
theorem E8{h h':Heap}{ks:List Key}{b:Addr}(k:∀b o,h.get? b=some o->h'.get? b=some o)(x:IsTupleKey (bN prog w) h ks b):IsTupleKey (bN prog w) h' ks b:=
 let ⟨o,items,n,ho,r⟩:=x;⟨o,items,n,k _ _ ho,r⟩
theorem Nv{t:SetTable}{n:Nat}(T:nX t n)(b:Bool):nX (if b=true then t else { t with plain:=false }) n:=by
 cases b
 .exact⟨T.mD,T.uw,T.odd,T.E7,T.gE,T.low⟩
 .exact T
theorem Nx(t:SetTable)(b:Bool):(if b=true then t else { t with plain:=false }).mask=t.mask:=by cases b <;> rfl
theorem aan{t:SetTable}{n:Nat}(T:nX t n)(hn:n+1<=t.mask)(j:Nat):nX (t.put j).1 (n+1):=
 ⟨aah T.mD j,by rw[aag,T.uw],T.odd,T.E7,hn,T.low⟩
theorem Ny{h0:Heap}{S:Addr}{o:Obj}{es jG:Array (Int×Value)}{ep m g:Nat}{t t2:SetTable}{done:List (List Key)}{Q:Bool->Shared->Prop}(ho:s.heap.get? S=some o)(hex:o.ExactSet)(hd:o.data = .set es ep t)(T2:nX t2 jG.size)(hm:t2.mask=m)(E9:5*jG.size<3*m)
  (hl:jG.size=done.length) (nY:∀e∈jG.toList,∃b ks,e.2 = .ref b/\IsTupleKey (bN prog w) h0 ks b/\ks∈done) (h:∀h',Heap.SameBut S s.heap h'->n0 prog w h0 h' S m done->Q true { s with heap:=h' }) :
  wpAny (model prog w) A (storeSet S jG t2 >>= λ_=>if (!false&&t2.tooFull)=true then (setRelay S g >>= λ_=>pure true) else pure true) Q E s:=by
 have aao:=T2.low
 have lh:jG.size<=sizeLine:=by rw[sizeLine_eq];omega
 refine ai (wpAny_storeSet_of ho hd ?_ lh)
 have htf:t2.tooFull=false:=by
  unfold SetTable.tooFull SetTable.fill
  rw[T2.mD,T2.uw,hm]
  simp
  omega
 rw[htf]
 simp only[ni,gn,fG]
 have kd:=wa s.heap S (Obj.putSet jG t2)
 have hg:(s.heap.update S (Obj.putSet jG t2)).get? S=some { o with data := .set jG (ep+1) t2 }:=by
  have:=tm (Obj.putSet jG t2) ho (by rw[putSet_of jG t2 hd];rfl)
  rw[putSet_of jG t2 hd] at this
  exact this
 refine aM (h _ kd ⟨_,jG,ep+1,t2,hg,hex,rfl,T2,hm,hl,nY⟩)
theorem aap{h0:Heap}{S x:Addr}{m:Nat}{done:List (List Key)}{ks:List Key}{gZ:Int}{Q:Bool->Shared->Prop}(hu:A.units<cLine)(hold:∀b o,h0.get? b=some o->s.heap.get? b=some o)(AD:IsTupleKey (bN prog w) h0 ks x)(hS:n0 prog w h0 s.heap S m done)(hn:ks∉done)(E9:5*(done.length+1)<3*m)
  (h:∀h',Heap.SameBut S s.heap h'->n0 prog w h0 h' S m (done++[ks])->Q true { s with heap:=h' }):wpAny (model prog w) A (setAddHashed S (.ref x) gZ) Q E s:=by
 have hk:=E8 hold AD
 obtain⟨o,es,ep,t,ho,hex,hd,T,hm,hl,nY⟩:=hS
 unfold setAddHashed
 refine gQ ?_
 unfold setAddHashedIn
 refine ai (C7 ho hd T.fits ?_)
 dsimp only
 have hb:byScan (.ref x) es=false:=rfl
 rw[hb]
 simp only[gn,fG]
 obtain⟨d,nW,hN⟩:=aaf T.E7 T.mD (by rw[T.uw];exact T.gE) (Np t gZ)
 have aao:=T.low
 refine ai ?_
 unfold setSearch
 refine aal hu hk ho hd T (λe me=>?_) (λj=>?_) d 100000 none (by omega) nW (Np t gZ) hN
 .obtain⟨b,k2,e1,e2,e3⟩:=nY e me
  exact⟨b,k2,e1,E8 hold e2,λz=>hn (z ▸ e3)⟩
 .dsimp only
  refine ai (C7 ho hd T.fits ?_)
  dsimp only
  have hsz:(SetTable.insertAt es (t.put j).2 (gZ,Value.ref x)).size=es.size+1:=by
   rw[<-lI,(US es _ _).length_eq,lI,Kq]
  have T1:=aan T (by rw[hm];omega) j
  rw[<-hsz] at T1
  have Nz:∀e∈(SetTable.insertAt es (t.put j).2 (gZ,Value.ref x)).toList,∃b k2,e.2 = .ref b/\IsTupleKey (bN prog w) h0 k2 b/\k2∈done++[ks]:=λe me=>by
   have me:=(US es (t.put j).2 (gZ,Value.ref x)).mem_iff.mp me
   rw[Array.toList_push] at me
   rcases du.mp me with z | z
   .obtain⟨b,k2,e1,e2,e3⟩:=nY e z
    exact⟨b,k2,e1,e2,oQ _ e3⟩
   .rw[cI.mp z]
    exact⟨x,ks,rfl,AD,fE _ bL⟩
  have jH:(SetTable.insertAt es (t.put j).2 (gZ,Value.ref x)).size=(done++[ks]).length:=by rw[hsz,dw,hl];rfl
  by_cases hp:(t.put j).1.plain=true
  .rw[aA hp]
   refine ai (aam (n:=7) hk λb=>?_)
   exact Ny (t2:=if b=true then (t.put j).1 else { (t.put j).1 with plain:=false }) ho hex hd (Nv T1 b) (by rw[Nx];exact hm) (by rw[hsz,hl];exact E9) jH Nz h
  .rw[aw hp]
   refine ai (aM ?_)
   exact Ny (t2:=if true=true then (t.put j).1 else { (t.put j).1 with plain:=false }) ho hex hd (Nv T1 true) (by rw[Nx];exact hm) (by rw[hsz,hl];exact E9) jH Nz h
end
section
variable{prog:Program}{w:World}{A:Around}{R:Result->Shared->Prop}{I:Addr}{fp wr:List Addr}{n:Nat}{P:Nat->Value->Prop}{St:Nat->Heap->Prop}
theorem aaq(hu:A.units+1<cLine)(W:Walks prog w A.in1 I fp wr n P St)(S:Addr)(xB:S∉fp)(h0:Heap)(hwr:∀b∈wr,h0.get? b=none)(hS0:h0.get? S=none)(eY:List (List Key))(cZ:eY.Nodup)(cU:eY.length=n)(m:Nat)(hm:5*n<3*m)
  (hP:∀i v,P i v->∃b ks,v = .ref b/\eY[i]? = some ks/\IsTupleKey (bN prog w) h0 ks b) :
  ∀(k i:Nat) (s:Shared),n - i=k->i<=n->St i s.heap->(∀b o,h0.get? b=some o->s.heap.get? b=some o)->n0 prog w h0 s.heap S m (eY.take i)->
  (∀h' tk,(∀b o,h0.get? b=some o->h'.get? b=some o)->n0 prog w h0 h' S m eY->R (.ok (.ret .none)) { s with heap:=h',toks:=tk })->
  codeAny (model prog w) A (.builtin "set.update.loop" ⟨[.ref S,.ref I],[]⟩) R s:=by
 have xC:S∉wr:=λh=>xB (W.sub _ h)
 have NA:∀b o,h0.get? b=some o->b∉wr:=λb o e z=>by rw[hwr b z] at e;cases e
 intro k
 induction k with
 |zero=>
  intro i s hk hi cX hold hS hR
  have br:i=n:=by omega
  subst br
  refine nr AH ?_
  rw[o8 uu _]
  show wpAny _ A.in1 (pyNext (.ref I) >>= _) _ _ s
  refine ai (W.done s _ _ cX λh' tk eP=>?_)
  rw[gu (by omega)] at hS
  exact aM (hR h' tk (λb o e=>eP b o (NA b o e) (hold b o e)) (hS.keep λo e=>eP S o xC e))
 |succ k ih=>
  intro i s hk hi cX hold hS hR
  have aJ:i<n:=by omega
  refine nr AH ?_
  rw[o8 uu _]
  show wpAny _ A.in1 (pyNext (.ref I) >>= _) _ _ s
  refine ai (W.item i s _ _ aJ cX λv h' tk hv jF eP=>?_)
  obtain⟨b,ks,rfl,Fb,hb⟩:=hP i v hv
  have Fc:∀b o,h0.get? b=some o->h'.get? b=some o:=λb o e=>eP b o (NA b o e) (hold b o e)
  have ke:n0 prog w h0 h' S m (eY.take i):=hS.keep λo e=>eP S o xC e
  have ht:eY.take (i+1)=eY.take i++[ks]:=by rw[gq,Fb];rfl
  have hni:ks∉eY.take i:=λz=>by
   have h1:(eY.take (i+1)).Nodup:=cZ.sublist (Ka _ _)
   rw[ht,qN] at h1
   exact h1.2.2 ks z ks (cI.mpr rfl) rfl
  have dP:A.in1.units<cLine:=hu
  show wpAny _ A.in1 (holding [.ref b] (setAdd S (.ref b)) >>= _) _ _ _
  refine ai (gQ ?_)
  unfold setAdd
  refine gQ ?_
  refine ai (wpAny_pyHash_tuple dP (E8 Fc hb) ?_)
  refine aap dP Fc hb ke hni (by rw[jQ];omega) λZZ kd AJ=>?_
  rw[<-ht] at AJ
  refine aM ⟨qM uu _,ih (i+1) _ (by omega) aJ (W.frame _ _ _ jF λc hc o e=>?_) (λc o e=>?_) AJ λh3 rY dW E1=>?_⟩
  .exact kd.extBut c o (λz=>xB (z ▸ hc)) e
  .exact kd.extBut c o (λz=>by rw[z,hS0] at e;cases e) (Fc c o e)
  .exact hR h3 rY dW E1
end
def ux(p:Addr)(c:Nat):Heap->Prop:=λh=>∃o es ep t,h.get? p=some o/\o.ExactSet/\o.data = .set es ep t/\t.fits es.size=true/\es.size=c/\c<=1000
theorem aar{X:Cx}(hc:X.calm=true)(hu:X.A.units+4<cLine):fW X (.type "set") (λxs H Q=>∃(a:Addr) (ts:List Addr) (eY:List (List Key)),xs=[.ref a]/\H a=some (.lst (ts.map V.ref))/\Paired (λt ks=>aq X.K H t (ks.map kV)) ts eY/\eY.Nodup/\eY.length<=4/\
  ∀p,H p=none->Q (.ref p) (upd H p (.ext (ux p eY.length)))):=by
 intro pins s σ H xs us Q I r h
 obtain⟨l,ts,eY,rfl,hq,hp,cZ,h4,q⟩:=h
 obtain⟨u,rfl,ru⟩:=vals1 r
 cases ru
 obtain⟨its,rv,pl,hz⟩:=I.list (aj.of hq)
 have hl:=pl.isList
 have hh:X.A.handled=none:=I.ok.hd hc
 have aJ:l<s.heap.objs.size:=by obtain⟨_,e,_⟩:=hl;exact bf e
 have NB:=hp.length
 have hlen:its.length=eY.length:=by rw[<-rv.length,ax];omega
 have rl:∀(i:Nat) (v:Value),its[i]? = some v->∃(b:Addr) (ks:List Key),v=Value.ref b/\eY[i]? = some ks/\IsTupleKey (bN X.prog X.w) s.heap ks b:=λi v hv=>by
  have hi:i<its.length:=(cn.mp hv).1
  obtain⟨t,ht⟩:∃t,ts[i]? = some t:=⟨_,bg (by omega)⟩
  obtain⟨ks,Fb,hk⟩:=Paired.getL hp ht
  obtain⟨u',e1,e2⟩:=rv.get (i:=i) (x:=V.ref t) (by rw[bu,ht];rfl)
  rw[hv] at e1
  cases e1
  cases e2
  obtain⟨nJ,r2,⟨o2,h1,h2,n2,h3⟩,_⟩:=I.tuple hk
  exact⟨t,ks,rfl,Fb,⟨o2,nJ.toArray,n2,h1,h2,h3,by simpa using DU r2⟩⟩
 refine Nd (let ⟨o,e,c,_⟩:=hl;⟨o,e,c⟩) λb=>?_
 refine tf (hl.push _) ?_
 refine wpAny_runValue ?_
 have hT:its.toArray.size=eY.length:=by rw[bc,hlen]
 have NC:∀c,s.heap.objs.size<=c->s.heap.get? c=none:=λc hc=>by
  cases e:s.heap.get? c with
  |none=>rfl
  |some o=>exact absurd (bf e) (Nat.not_lt.mpr hc)
 refine aaq (A:=X.A.in1.in1) ?_ (zr (A:=X.A.in1.in1.in1) hh _ l ?_ its.toArray) s.heap.objs.size ?_ s.heap ?_ ?_ eY cZ hT.symm 7 (by omega) (λi v hP=>rl i v (by simpa using hP))
  its.toArray.size 0 _ (by omega) (bC _) ⟨⟨_,cB _ rfl,rfl,rfl⟩,(hl.push _).push _⟩ (λc o e=>bz _ (bz _ e)) ⟨iI b,#[],0,.fresh 0 0 b,bz _ (cB _ rfl),⟨rfl,rfl,rfl⟩,rfl,⟨rfl,rfl,(by show(7 % 2==0)=false;decide),aac,bC _,by show 7<=1000;decide⟩,rfl,rfl,λe he=>by cases he⟩ λh' tk hold hS=>?_
 .have:=hu
  show X.A.units+2+1<cLine
  omega
 .show l≠(s.heap.push (iI b)).objs.size
  rw[lL]
  exact bh (jo aJ)
 .intro z
  have z:s.heap.objs.size=(s.heap.push (iI b)).objs.size\/s.heap.objs.size=l:=by simpa using z
  rw[lL] at z
  rcases z with z | z
  .exact bh (oS _) z
  .exact bh aJ z.symm
 .intro c hc
  have hc:c=(s.heap.push (iI b)).objs.size:=by simpa using hc
  refine NC c ?_
  rw[hc,lL]
  exact iO _
 .exact NC _ (aP _)
 .obtain⟨o,es,ep,t,ho,hex,hd,T,_,Fd,_⟩:=hS
  refine⟨.ref s.heap.objs.size,_,I.laid (t':=tk) (λb' o' e=>hold b' o' e) (aP _) (show cS X.prog X.w _ h' _ (.ext (ux s.heap.objs.size eY.length)) from⟨⟨o,es,ep,t,ho,hex,hd,T.fits,Fd,by omega⟩,⟨o,ho⟩,λh1 h3 x k=>?_⟩),rfl,q _ (I.aC.fresh (aP _))⟩
  obtain⟨o,es,ep,tt,ho,r⟩:=x
  exact⟨o,es,ep,tt,k _ ho,r⟩
theorem aas{X:Cx}:fW X (.builtin "len") (λxs H Q=>∃p c,xs=[.ref p]/\H p=some (.ext (ux p c))/\Q (.int (c:Nat)) H):=by
 intro pins s σ H xs us Q I r h
 obtain⟨p,c,rfl,hp,q⟩:=h
 obtain⟨u,rfl,rx⟩:=vals1 r
 cases rx
 obtain⟨hS,_⟩:=(show cS X.prog X.w H s.heap p (.ext (ux p c)) from I.aC p _ hp)
 obtain⟨o,es,ep,t,ho,hx,hd,hf,hc,hb⟩:=hS
 refine call_len_set ho hx hd hf (by omega) ⟨.int (c:Nat),H,(I.tok _).tok _,⟨s.toks+1,by rw[hc]⟩,q⟩
end L2
namespace Cw
open PySem
theorem pX{x y:Str}(h:x.cps.toList=y.cps.toList):x=y:=by
 cases x;cases y
 exact eD Str.mk (Array.toList_inj.mp h)
theorem mF(x y:Str):(x++y).cps.toList=x.cps.toList++y.cps.toList:=by
 show(x.cps++y.cps).toList=_
 simp
theorem cC(x:Str):x.cps.toList.length=x.length:=by simp[Str.length]
def cellAt(ns:List Int)(k:Nat):Int:=ns.getD k 0
def n5(c:Nat):Prop:=c=35\/c=46\/(97<=c/\c<=122)
structure bj(l:List Str)(w:Nat):Prop where
 one:1<=l.length
 nine:l.length<=9
 w1:1<=w
 w9:w<=9
 len:∀x∈l,x.length=w
 ok:∀x∈l,∀c∈x.cps.toList,n5 c
def i6:Str:="abcdefghijklmnopqrstuvwxyz"
theorem Fe:i6.cps.toList=(List.range 26).map (97 + ·):=by decide +kernel
def cells(h w:Nat):List (Nat×Nat):=(List.range h).flatMap λi=>(List.range w).map λj=>(i,j)
theorem Ff(h w:Nat):cells (h+1) w=cells h w++(List.range w).map λj=>(h,j):=by
 unfold cells
 rw[lK,Ku]
 simp
theorem n6(h w:Nat):(cells h w).length=h*w:=by
 induction h with
 |zero=>simp[cells]
 |succ h ih=>rw[Ff,dw,ih,ax,kG,iP]
theorem xF{w:Nat}:∀{h i j:Nat},i<h->j<w->(cells h w)[i*w+j]? = some (i,j)
 |0,_,_,hi,_=>absurd hi (jn _)
 |h+1,i,j,hi,hj=>by
  rw[Ff]
  by_cases e:i<h
  .have:i*w+j<(cells h w).length:=by
    rw[n6]
    have h1:(i+1)*w<=h*w:=C8 w e
    rw[iP] at h1
    omega
   rw[UG this]
   exact xF e hj
  .have e:i=h:=by omega
   subst e
   rw[J3 (by rw[n6];omega),n6,Nat.add_sub_cancel_left,bu,qJ hj]
   rfl
theorem uy{h w:Nat}{c:Nat×Nat}(m:c∈cells h w):c.1<h/\c.2<w:=by
 unfold cells at m
 obtain⟨i,hi,m⟩:=C9.mp m
 obtain⟨j,hj,rfl⟩:=bP.mp m
 exact⟨ip.mp hi,ip.mp hj⟩
theorem aat{h w i j:Nat}(hi:i<h)(hj:j<w):(i,j)∈cells h w:=bE (xF hi hj)
theorem Fg{h w n:Nat}{c:Nat×Nat}(e:(cells h w)[n]? = some c):n=c.1*w+c.2/\c.1<h/\c.2<w:=by
 have hn:n<h*w:=by rw[<-n6];exact(cn.mp e).1
 have hw:0<w:=by
  rcases Nat.eq_zero_or_pos w with z | z
  .rw[z] at hn;simp at hn
  .exact z
 have hi:n / w<h:=Kv (by rw[oW];exact hn)
 have hj:n % w<w:=Nat.mod_lt _ hw
 have q:=xF hi hj
 have e2:n / w*w+n % w=n:=by rw[oW];exact Nat.div_add_mod n w
 rw[e2,e] at q
 cases q
 exact⟨e2.symm,hi,hj⟩
theorem ND{h w i j:Nat}(hi:i<h)(hj:j<w):(cells h w).take (i*w+j+1)=(cells h w).take (i*w+j)++[(i,j)]:=by
 rw[gq,xF hi hj]
 rfl
def sg(l:List Str)(c:Nat×Nat):Nat:=((l.getD c.1 ⟨#[]⟩).cps.toList).getD c.2 0
theorem cu{α:Type}{l:List α}{i:Nat}{x d:α}(h:l[i]? = some x):l.getD i d=x:=by rw[bQ,h];rfl
theorem bj.row{l:List Str}{w:Nat}(S:bj l w){i:Nat}(hi:i<l.length):∃x,l[i]? = some x/\x∈l/\x.length=w/\x.cps.toList.length=w/\∀j,j<w->x.cps.toList[j]? = some (sg l (i,j)):=by
 refine⟨l[i],bg hi,lN hi,S.len _ (lN hi),by rw[cC];exact S.len _ (lN hi),λj hj=>?_⟩
 have hl:j<l[i].cps.toList.length:=by rw[cC,S.len _ (lN hi)];exact hj
 unfold sg
 rw[cu (bg hi),bg hl]
 simp only[cu (bg hl)]
def cb(l:List Str)(c:Nat×Nat):Bool := !decide (sg l c=35)
def AN(l:List Str)(c:Nat×Nat):Bool:=decide (sg l c=46)
def bV(l:List Str)(w:Nat):List (Nat×Nat):=(cells l.length w).filter (cb l)
def fI(l:List Str)(w:Nat):List (Nat×Nat):=(cells l.length w).filter (AN l)
theorem xG{l:List Str}{w:Nat}(S:bj l w):(cells l.length w).length<=81:=by
 rw[n6]
 exact wb S.nine S.w9
def bH(x:Str)(j ch:Nat):Str:=⟨(x.cps.toList.take j++ch::x.cps.toList.drop (j+1)).toArray⟩
def setC(l:List Str)(c:Nat×Nat)(ch:Nat):List Str:=l.set c.1 (bH (l.getD c.1 ⟨#[]⟩) c.2 ch)
theorem dC(l:List Str)(c:Nat×Nat)(ch:Nat):(setC l c ch).length=l.length:=by unfold setC;rw[Kc]
theorem xH{x:Str}{j ch:Nat}(h:j<x.length):(bH x j ch).length=x.length:=by
 show(x.cps.toList.take j++ch::x.cps.toList.drop (j+1)).toArray.size=x.length
 have hl:x.cps.toList.length=x.length:=cC x
 rw[bc,dw,jQ,dg,CT,hl]
 omega
theorem Fh{x:Str}{j ch k:Nat}(h:j<x.length)(hk:k<x.length):(bH x j ch).cps.toList[k]? = if k=j then some ch else x.cps.toList[k]? :=by
 have hl:x.cps.toList.length=x.length:=cC x
 have e:(bH x j ch).cps.toList=x.cps.toList.take j++ch::x.cps.toList.drop (j+1):=by simp[bH]
 have ht:(x.cps.toList.take j).length=j:=by rw[jQ];omega
 rw[e]
 rcases Nat.lt_trichotomy k j with h1 | h1 | h1
 .rw[aw (by omega),UG (by omega),CO h1]
 .subst h1
  rw[aA rfl,J3 (by omega),ht,Nat.sub_self]
  rfl
 .rw[aw (by omega),J3 (by omega),ht]
  obtain⟨m,rfl⟩:∃m,k=j+1+m:=⟨k - (j+1),by omega⟩
  rw[show j+1+m - j=m+1 by omega,List.getElem?_cons_succ,List.getElem?_drop]
theorem Fi{x:Str}{j ch:Nat}{a b:Str}(ha:a.cps.toList=x.cps.toList.take j)(hb:b.cps.toList=x.cps.toList.drop (j+1)):a++⟨#[ch]⟩++b=bH x j ch:=by
 apply pX
 rw[mF,mF,ha,hb]
 simp[bH]
structure aof(m:List Str)(w:Nat):Prop where
 len:∀x∈m,x.length=w
 ok:∀x∈m,∀c∈x.cps.toList,n5 c
theorem aau{x:Str}{j ch:Nat}(h:∀c∈x.cps.toList,n5 c)(hc:n5 ch):∀c∈(bH x j ch).cps.toList,n5 c:=λc m=>by
 have m:c∈x.cps.toList.take j++ch::x.cps.toList.drop (j+1):=by simpa[bH] using m
 rcases du.mp m with z | z
 .exact h c (zJ z)
 .rcases bS.mp z with z | z
  .rw[z];exact hc
  .exact h c (UT z)
theorem xI{l:List Str}{w:Nat}(S:bj l w){c:Nat×Nat}{ch:Nat}(h1:c.1<l.length)(h2:c.2<w)(hc:n5 ch):bj (setC l c ch) w:=by
 obtain⟨x,hx,mx,lx,pY,hj⟩:=S.row h1
 refine⟨by rw[dC];exact S.one,by rw[dC];exact S.nine,S.w1,S.w9,λy my=>?_,λy my=>?_⟩
 .unfold setC at my
  rcases Kw my with z | z
  .exact S.len y z
  .rw[z,cu hx,xH (by omega),lx]
 .unfold setC at my
  rcases Kw my with z | z
  .exact S.ok y z
  .rw[z,cu hx]
   exact aau (S.ok x mx) hc
abbrev C2:=Nat×Nat
def go(c d:C2)(n:Nat):C2:=(c.1+n*d.1,c.2+n*d.2)
def line(c d:C2)(n:Nat):List C2:=(List.range n).map (go c d)
theorem i7(c d:C2):go c d 0=c:=by simp[go]
theorem go_succ(c d:C2)(n:Nat):go c d (n+1)=((go c d n).1+d.1,(go c d n).2+d.2):=by
 simp only[go,iP,Nat.add_assoc]
theorem NF(c d:C2)(n:Nat):line c d (n+1)=line c d n++[go c d n]:=by
 unfold line
 rw[lK,eK]
 rfl
theorem sd(c d:C2)(n:Nat):(line c d n).length=n:=by simp[line]
def runN(op:C2->Bool)(d:C2):Nat->C2->Nat
 |0,_=>0
 |f+1,c=>if op c=true then runN op d f (c.1+d.1,c.2+d.2)+1 else 0
theorem Fj{op:C2->Bool}{d:C2}:∀{f n:Nat}{c:C2},n<f->(∀k,k<n->op (go c d k)=true)->op (go c d n)=false->runN op d f c=n
 |0,_,_,h,_,_=>absurd h (jn _)
 |f+1,0,c,_,_,h=>by
  rw[i7] at h
  unfold runN
  rw[h,aw cj]
 |f+1,n+1,c,hf,hk,h=>by
  have h0:=hk 0 (Nat.succ_pos _)
  rw[i7] at h0
  have e:∀k,go c d (k+1)=go (c.1+d.1,c.2+d.2) d k:=λk=>by
   simp only[go,iP,nv]
   omega
  unfold runN
  rw[h0,aA rfl,Fj (f:=f) (n:=n) (by omega) (λk q=>by rw[<-e];exact hk (k+1) (by omega)) (by rw[<-e];exact h)]
def hV(op:C2->Bool)(d c:C2):Bool:=decide (d.1<=c.1)&&(decide (d.2<=c.2)&&op (c.1 - d.1,c.2 - d.2))
def bW(op:C2->Bool)(d c:C2):List C2:=if hV op d c=true then [] else if runN op d 10 c<2 then [] else line c d (runN op d 10 c)
abbrev n8(op:C2->Bool):C2->List C2:=bW op (0,1)
abbrev mG(op:C2->Bool):C2->List C2:=bW op (1,0)
def eF(op:C2->Bool)(c:C2):Bool := !(n8 op c).isEmpty || !(mG op c).isEmpty
def eB(op:C2->Bool)(cs:List C2):Nat:=(cs.filter (eF op)).length
theorem NG(op:C2->Bool)(cs:List C2)(c:C2):eB op (cs++[c])=if eF op c=true then eB op cs+1 else eB op cs:=by
 unfold eB
 rw[jS,d5,oY]
 split
 .rw[dw];rfl
 .rw[gm]
def dE(op:C2->Bool)(f:C2->List C2):Nat->List C2->List (Nat×List C2)
 |_,[]=>[]
 |n,c::r=>if (f c).isEmpty=true then dE op f (if eF op c=true then n+1 else n) r else (if eF op c=true then n+1 else n,f c)::dE op f (if eF op c=true then n+1 else n) r
theorem NH(op:C2->Bool)(f:C2->List C2)(c:C2):∀(n:Nat) (cs:List C2),dE op f n (cs++[c]) =
  dE op f n cs++if (f c).isEmpty=true then [] else [(if eF op c=true then n+eB op cs+1 else n+eB op cs,f c)]
 |n,[]=>by
  show dE op f n [c]=[]++_
  unfold dE
  simp only[dE,CV]
  rfl
 |n,x::r=>by
  have ih:=NH op f c (if eF op x=true then n+1 else n) r
  have e:eB op (x::r)=(if eF op x=true then 1 else 0)+eB op r:=by
   unfold eB
   rw[d5]
   split
   .rw[dg,Nat.add_comm]
   .rw[qL]
  have e2:(if eF op x=true then n+1 else n)+eB op r=n+eB op (x::r):=by
   rw[e]
   split <;> omega
  rw[e2] at ih
  show dE op f n (x::(r++[c]))=_
  unfold dE
  rw[ih]
  split
  .rfl
  .rfl
theorem Fp{op:C2->Bool}{c:C2}(h:(n8 op c).isEmpty=false):eF op c=true:=by unfold eF;rw[h];rfl
theorem Fq{op:C2->Bool}{c:C2}(h:(mG op c).isEmpty=false):eF op c=true:=by unfold eF;rw[h];simp
theorem NI{op:C2->Bool}{f:C2->List C2}(hf:∀c,(f c).isEmpty=false->eF op c=true):∀{n:Nat}{cs:List C2}{q:Nat×List C2},q∈dE op f n cs->
  n<q.1/\∃c,(cs.filter (eF op))[q.1 - n - 1]? = some c/\c∈cs/\q.2=f c/\(f c).isEmpty=false
 |n,[],q,h=>by simp[dE] at h
 |n,x::r,q,h=>by
  unfold dE at h
  have step:q∈dE op f (if eF op x=true then n+1 else n) r->n<q.1/\∃c,((x::r).filter (eF op))[q.1 - n - 1]? = some c/\c∈x::r/\q.2=f c/\(f c).isEmpty=false:=λh=>by
   obtain⟨h1,c,h2,h3,h4⟩:=NI hf h
   rw[d5]
   by_cases e:eF op x=true
   .rw[aA e] at h1 h2 ⊢
    refine⟨by omega,c,?_,cg _ h3,h4⟩
    have:q.1 - n - 1=(q.1 - (n+1) - 1)+1:=by omega
    rw[this,List.getElem?_cons_succ]
    exact h2
   .rw[aw e] at h1 h2 ⊢
    exact⟨h1,c,h2,cg _ h3,h4⟩
  split at h
  .exact step h
  .rename_i he
   rcases bS.mp h with z | z
   .have he:(f x).isEmpty=false:=gR.mpr he
    have hx:=hf x he
    subst z
    rw[aA hx]
    refine⟨oS _,x,?_,bL,rfl,he⟩
    rw[d5,aA hx,show n+1 - n - 1=0 by omega]
    rfl
   .exact step z
def bx(l:List Str)(w:Nat)(c:C2):Bool:=decide (c.1<l.length)&&(decide (c.2<w)&&cb l c)
theorem n9{l:List Str}{w:Nat}{c:C2}(h:bx l w c=true):c.1<l.length/\c.2<w/\cb l c=true:=by
 unfold bx at h
 simp only[dZ,Kf] at h
 exact⟨h.1,h.2.1,h.2.2⟩
theorem se{l:List Str}{w:Nat}{c:C2}(h1:c.1<l.length)(h2:c.2<w):bx l w c=cb l c:=by
 unfold bx
 rw[aG h1,aG h2,tH,tH]
def pZ(l:List Str)(w:Nat):List (Nat×List C2):=dE (bx l w) (n8 (bx l w)) 0 (bV l w)
def qb(l:List Str)(w:Nat):List (Nat×List C2):=dE (bx l w) (mG (bx l w)) 0 (bV l w)
def Dir(d:C2):Prop:=d=(0,1)\/d=(1,0)
theorem go_inj{x d:C2}(hd:Dir d){i j:Nat}(h:go x d i=go x d j):i=j:=by
 rcases hd with rfl | rfl
 .simp only[go,nv,iR,o9] at h;omega
 .simp only[go,nv,iR,o9] at h;omega
theorem NJ(x d:C2)(i j:Nat):go (go x d i) d j=go x d (i+j):=by
 simp only[go,nv,Nat.add_mul]
 omega
theorem go_eq{x y d:C2}(hd:Dir d){i j:Nat}(xJ:i<=j)(h:go x d i=go y d j):x=go y d (j - i):=by
 rcases hd with rfl | rfl
 .simp only[go,nv,iR,o9] at h
  refine Dc.mpr ?_
  simp only[go,iR,o9]
  omega
 .simp only[go,nv,iR,o9] at h
  refine Dc.mpr ?_
  simp only[go,iR,o9]
  omega
theorem NK{op:C2->Bool}{x d:C2}(hd:Dir d){k:Nat}(h:op (go x d k)=true):hV op d (go x d (k+1))=true:=by
 have e:((go x d (k+1)).1 - d.1,(go x d (k+1)).2 - d.2)=go x d k:=by
  rcases hd with rfl | rfl
  .simp only[go,nv,iR,o9];omega
  .simp only[go,nv,iR,o9];omega
 unfold hV
 rw[e,h,aG,aG]
 .rfl
 .rcases hd with rfl | rfl
  .simp only[go,iR];omega
  .simp only[go,o9];omega
 .rcases hd with rfl | rfl
  .simp only[go,o9];omega
  .simp only[go,iR];omega
theorem aav{op:C2->Bool}{c d:C2}(hd:Dir d)(h:hV op d c=true):∃b,c=go b d 1/\op b=true/\b.1+b.2<c.1+c.2:=by
 unfold hV at h
 simp only[dZ,Kf] at h
 refine⟨_,?_,h.2.2,?_⟩
 .refine Dc.mpr ?_
  simp only[go,Nat.one_mul]
  omega
 .rcases hd with rfl | rfl
  .have:=h.2.1;simp only at this ⊢;omega
  .have:=h.1;simp only at this ⊢;omega
theorem uz{op:C2->Bool}{d:C2}:∀{f:Nat}{c:C2}{k:Nat},k<runN op d f c->op (go c d k)=true
 |0,_,_,h=>by unfold runN at h;exact absurd h (jn _)
 |f+1,c,k,h=>by
  unfold runN at h
  split at h
  .rename_i ho
   cases k with
   |zero=>rw[i7];exact ho
   |succ k=>
    have:=uz (op:=op) (d:=d) (f:=f) (c:=(c.1+d.1,c.2+d.2)) (k:=k) (by omega)
    have e:go c d (k+1)=go (c.1+d.1,c.2+d.2) d k:=by
     simp only[go,iP,nv]
     omega
    rw[e]
    exact this
  .exact absurd h (jn _)
theorem Fs{op:C2->Bool}{d:C2}:∀{f n:Nat}{c:C2},n<=f->(∀k,k<n->op (go c d k)=true)->n<=runN op d f c
 |_,0,_,_,_=>bC _
 |0,n+1,_,h,_=>absurd h (Nat.not_succ_le_zero _)
 |f+1,n+1,c,h,hk=>by
  have h0:=hk 0 (Nat.succ_pos _)
  rw[i7] at h0
  unfold runN
  rw[h0,aA rfl]
  refine lM (Fs (Nat.le_of_succ_le_succ h) λk q=>?_)
  have e:go c d (k+1)=go (c.1+d.1,c.2+d.2) d k:=by
   simp only[go,iP,nv]
   omega
  rw[<-e]
  exact hk (k+1) (by omega)
theorem Ft{op:C2->Bool}{d x c:C2}(h:c∈bW op d x):¬hV op d x=true/\2<=runN op d 10 x/\∃k,k<runN op d 10 x/\go x d k=c:=by
 unfold bW at h
 split at h
 .exact absurd h gr
 .rename_i h1
  split at h
  .exact absurd h gr
  .obtain⟨k,hk,e⟩:=bP.mp h
   exact⟨h1,by omega,k,ip.mp hk,e⟩
theorem aaw{op:C2->Bool}{d x c:C2}(h1:¬hV op d x=true)(h2:2<=runN op d 10 x){k:Nat}(hk:k<runN op d 10 x)(e:go x d k=c):c∈bW op d x:=by
 unfold bW
 rw[aw h1,aw (by omega)]
 exact bP.mpr ⟨k,ip.mpr hk,e⟩
theorem aax{op:C2->Bool}{d x y c:C2}(hd:Dir d)(hx:c∈bW op d x)(hy:c∈bW op d y):x=y:=by
 obtain⟨px,_,i,hi,ei⟩:=Ft hx
 obtain⟨py,_,j,hj,ej⟩:=Ft hy
 have key:∀{x y:C2}{i j:Nat},¬hV op d x=true->j<runN op d 10 y->i<=j->go x d i=c->go y d j=c->x=y:=λ{x y i j} px hj xJ ei ej=>by
  have e:=go_eq hd xJ (ei.trans ej.symm)
  cases hz:j - i with
  |zero=>rw[hz,i7] at e;exact e
  |succ z=>
   rw[hz] at e
   exact absurd (by rw[e];exact NK hd (uz (f:=10) (by omega))) px
 rcases Nat.le_total i j with h | h
 .exact key px hj h ei ej
 .exact(key py hi h ej ei).symm
theorem aay{op:C2->Bool}{d:C2}(hd:Dir d):∀(k:Nat) (c:C2),c.1+c.2=k->op c=true->∃x i,c=go x d i/\¬hV op d x=true/\∀j,j<=i->op (go x d j)=true:=by
 intro k
 induction k using Nat.strongRecOn with
 |_ k ih=>
  intro c hc ho
  by_cases hp:hV op d c=true
  .obtain⟨b,e,hb,aJ⟩:=aav hd hp
   obtain⟨x,i,ex,px,ox⟩:=ih (b.1+b.2) (by omega) b rfl hb
   refine⟨x,i+1,?_,px,λj hj=>?_⟩
   .rw[e,ex,NJ]
   .rcases Nat.lt_or_eq_of_le hj with z | z
    .exact ox j (by omega)
    .rw[z,<-NJ,<-ex,<-e];exact ho
  .refine⟨c,0,by rw[i7],hp,λj hj=>?_⟩
   have:j=0:=by omega
   rw[this,i7];exact ho
def hX(op:C2->Bool)(d c:C2):Bool:=op c&&(hV op d c||op (go c d 1))
theorem aaz{op:C2->Bool}{d c:C2}(hd:Dir d)(hb:∀c,op c=true->c.1<9/\c.2<9)(h:hX op d c=true):∃x,op x=true/\c∈bW op d x:=by
 unfold hX at h
 simp only[dZ,vX] at h
 obtain⟨ho,hs⟩:=h
 obtain⟨x,i,e,px,ox⟩:=aay hd _ c rfl ho
 have hx:op x=true:=by have:=ox 0 (bC _);rw[i7] at this;exact this
 have hi:i<=8:=by
  have:=hb c ho
  rcases hd with rfl | rfl
  .rw[e] at this;simp only[go,iR] at this;omega
  .rw[e] at this;simp only[go,iR] at this;omega
 have h1:i+1<=runN op d 10 x:=Fs (by omega) λk hk=>ox k (by omega)
 have h2:2<=runN op d 10 x:=by
  rcases Nat.eq_zero_or_pos i with z | z
  .subst z
   rw[i7] at e
   subst e
   have hn:op (go c d 1)=true:=by
    rcases hs with hs | hs
    .exact absurd hs px
    .exact hs
   refine Fs (by omega) λk hk=>?_
   rcases(by omega:k=0\/k=1) with z | z
   .rw[z,i7];exact ho
   .rw[z];exact hn
  .omega
 exact⟨x,hx,aaw px h2 (by omega) e.symm⟩
theorem aaA{op:C2->Bool}{d x c:C2}(hd:Dir d)(h:c∈bW op d x):hX op d c=true:=by
 obtain⟨px,h2,k,hk,e⟩:=Ft h
 have ho:op c=true:=by rw[<-e];exact uz hk
 unfold hX
 rw[ho,tH,vX]
 cases k with
 |zero=>
  rw[i7] at e
  rw[<-e]
  exact .inr (uz (f:=10) (by omega))
 |succ k=>rw[<-e];exact .inl (NK hd (uz (f:=10) (by omega)))
theorem aaB{c d:C2}(hd:Dir d)(n:Nat):(line c d n).Nodup:=by
 unfold line
 refine List.Pairwise.map _ (λi j xJ=>?_) (Kt (n:=n))
 exact λe=>xJ (go_inj hd e)
theorem Fu{op:C2->Bool}{d x:C2}(hd:Dir d):(bW op d x).Nodup:=by
 unfold bW
 split
 .exact jm
 .split
  .exact jm
  .exact aaB hd _
def dk(c:C2)(rs:List (Nat×List C2)):Nat:=(rs.map λq=>q.2.count c).sum
theorem NL{op:C2->Bool}{f:C2->List C2}(c:C2):∀(n:Nat) (cs:List C2),dk c (dE op f n cs)=(cs.map λx=>(f x).count c).sum
 |n,[]=>rfl
 |n,x::r=>by
  have ih:=NL (op:=op) (f:=f) c (if eF op x=true then n+1 else n) r
  unfold dE
  rw[bX,fT,<-ih]
  split
  .rename_i he
   rw[List.isEmpty_iff.mp he,List.count_nil,qL]
  .unfold dk
   rw[bX,fT]
theorem xK:∀{l:List Nat},(∀y∈l,y=0)->l.sum=0
 |[],_=>rfl
 |x::r,h=>by rw[fT,h x bL,xK λy hy=>h y (cg _ hy)]
theorem NM{α:Type}[DecidableEq α]{g:α->Nat}{a:α}:∀{cs:List α},cs.Nodup->a∈cs->g a=1->(∀x∈cs,x≠a->g x=0)->(cs.map g).sum=1
 |[],_,h,_,_=>absurd h gr
 |x::r,nd,h,ga,gz=>by
  rw[bX,fT]
  obtain⟨n1,n2⟩:=fF.mp nd
  by_cases e:x=a
  .subst e
   have z:(r.map g).sum=0:=by
    have:∀y∈r.map g,y=0:=λy hy=>by
     obtain⟨u,hu,rfl⟩:=bP.mp hy
     exact gz u (cg _ hu) λe=>n1 (e ▸ hu)
    exact xK this
   rw[ga,z]
  .rcases bS.mp h with q | q
   .exact absurd q.symm e
   .rw[gz x bL e,qL]
    exact NM n2 q ga λy hy=>gz y (cg _ hy)
theorem aaC(h w:Nat):(cells h w).Nodup:=by
 refine UU.mpr λi j hi hj xJ e=>?_
 have h1:(cells h w)[i]? = some (cells h w)[i]:=bg hi
 have h2:(cells h w)[j]? = some (cells h w)[j]:=bg hj
 rw[<-e] at h2
 obtain⟨e1,_⟩:=Fg h1
 obtain⟨e2,_⟩:=Fg h2
 omega
theorem NN{op:C2->Bool}{d c:C2}(hd:Dir d)(hb:∀c,op c=true->c.1<9/\c.2<9){n:Nat}{cs:List C2}(hn:cs.Nodup)(hc:∀x,op x=true->x∈cs):dk c (dE op (bW op d) n cs)=if hX op d c=true then 1 else 0:=by
 rw[NL]
 by_cases h:hX op d c=true
 .rw[aA h]
  obtain⟨x,hx,hm⟩:=aaz hd hb h
  refine NM hn (hc x hx) ?_ λy _ hy=>?_
  .exact Nat.le_antisymm (List.nodup_iff_count.mp (Fu hd) c) (List.count_pos_iff.mpr hm)
  .refine List.count_eq_zero.mpr λz=>hy (aax hd z hm)
 .rw[aw h]
  refine xK λy hy=>?_
  obtain⟨u,hu,rfl⟩:=bP.mp hy
  exact List.count_eq_zero.mpr λz=>h (aaA hd z)
theorem Fv(l:List Str)(w:Nat):(bV l w).Nodup:=List.Pairwise.filter _ (aaC _ _)
theorem AO{l:List Str}{w:Nat}{c:C2}(h:bx l w c=true):c∈bV l w:=by
 obtain⟨h1,h2,h3⟩:=n9 h
 exact cR.mpr ⟨aat h1 h2,h3⟩
theorem NO{l:List Str}{w:Nat}(S:bj l w):∀c,bx l w c=true->c.1<9/\c.2<9:=λc h=>by
 obtain⟨h1,h2,_⟩:=n9 h
 have:=S.nine
 have:=S.w9
 omega
theorem NP{l:List Str}{w:Nat}(S:bj l w)(c:C2):dk c (pZ l w)=if hX (bx l w) (0,1) c=true then 1 else 0:=NN (.inl rfl) (NO S) (Fv l w) λ_ h=>AO h
theorem NQ{l:List Str}{w:Nat}(S:bj l w)(c:C2):dk c (qb l w)=if hX (bx l w) (1,0) c=true then 1 else 0:=NN (.inr rfl) (NO S) (Fv l w) λ_ h=>AO h
end Cw
namespace Cw
open PySem L2
def top(i:Nat):Stmt:=PySem.Challenge.pw_crosswright_k41_whole_fillings.main.body.getD i (.Pass ⟨0,0,0,0⟩)
structure Bl(mg:Str->Option Value):Prop where
 cf:mg "len"=none
 i8:mg "range"=none
 sf:mg "tuple"=none
 oa:mg "list"=none
 NR:mg "str"=none
 mH:mg "isinstance"=none
 NS:mg "all"=none
 xM:mg "sorted"=none
 xN:mg "enumerate"=none
 xO:mg "zip"=none
 aaD:mg "sum"=none
 aaE:mg "dict"=none
 aaF:mg "min"=none
 aaG:mg "reversed"=none
 NT:mg "set"=none
 aaH:mg "bool"=none
 aaI:mg "int"=none
section
variable{P:Program}{w:World}{K:PySem.W.Frag}{mg:Str->Option Value}{base:Heap}{f:Addr}{fd:FuncData}
def uA(K:PySem.W.Frag):Sp:=λvs H Q _=>∃(a:Addr) (ns:List Int) (k:Nat),vs=[.ref a,.int k]/\aj K H a (ns.map V.int)/\Q (.int (cellAt ns k)) H
theorem aaJ{ns:List Int}{k:Nat}(h:k<ns.length):(ns.map V.int)[k]? = some (.int (cellAt ns k)):=by
 rw[bu,bg h]
 simp[cellAt,h]
theorem aaK:bw ["_law_script","_law_k"] ["_law_script","_law_k"] (aW (top 53)):=⟨rfl,rfl,rfl,by decide +kernel,rfl,by decide +kernel,by decide +kernel⟩
theorem aaL(B:Bl mg)(F:bq K "_law_cell_at" "_law_cell_at" (top 53) f fd):aS P w K mg base aY 1 f fd ["_law_script","_law_k"] (uA K):=by
 refine F.ok aaK (λvs H Q E h=>?_) (λaL A outer s H vs Q E hr h=>?_)
 .obtain⟨a,ns,k,rfl,_⟩:=h
  rfl
 .refine hide λG_ aK=>?_
  obtain⟨a,ns,k,rfl,hS,q⟩:=h
  refine aK.k ?_
  refine⟨_,(au (bJ (bT lS (pv 1) (bp d9 (by rfl) B.cf bZ (ab (pv 0) ah)) (cq _))
   (az (aX (aV gC (pv 0) (pv 1) (λ_ _=>rfl))))
   bR)
   (az (aX aE))),?_⟩
  try dsimp only[bF]
  refine⟨_,rfl,_,rfl,a,_,rfl,.inl hS,_,_,rfl,rfl,_,rfl,fw (λh=>?_) (λh=>?_)⟩
  .have h:(k:Int)<((ns.map V.int).length:Int):=ff h
   rw[ax] at h
   exact⟨_,rfl,_,rfl,a,_,_,_,rfl,rfl,hS,dH (aaJ (by omega)),q⟩
  .have h:¬(k:Int)<((ns.map V.int).length:Int):=λz=>h (aG z)
   rw[ax] at h
   have e:cellAt ns k=0:=by
    unfold cellAt
    rw[bQ,dy (by omega)]
    rfl
   rw[e] at q
   exact q
end
def og(H:Hp)(c:Nat×Nat)(x:V):Prop := ∃a,x = .ref a/\H a=some (.tup [.int c.1,.int c.2])
abbrev bB(H:Hp)(cs:List (Nat×Nat))(xs:List V):Prop:=Paired (og H) cs xs
theorem og.mono{H H':Hp}{c:Nat×Nat}{x:V}(s:af H H')(h:og H c x):og H' c x:=let ⟨a,e,q⟩:=h;⟨a,e,s _ _ q⟩
theorem og.off{H H':Hp}{D:Addr}{c:Nat×Nat}{x:V}(hD:∃o,H D=some (.lst o))(k:∀b o,b≠D->H b=some o->H' b=some o)(h:og H c x):og H' c x:=by
 obtain⟨a,e,q⟩:=h
 obtain⟨o,hD⟩:=hD
 exact⟨a,e,k a _ (bY q hD (by intro z;cases z)) q⟩
theorem bB.mono{H H':Hp}{cs:List (Nat×Nat)}{xs:List V}(s:af H H')(h:bB H cs xs):bB H' cs xs:=Paired.bM h λ_ _ q=>q.mono s
theorem bB.off{H H':Hp}{D:Addr}{cs:List (Nat×Nat)}{xs:List V}(hD:∃o,H D=some (.lst o))(k:∀b o,b≠D->H b=some o->H' b=some o)(h:bB H cs xs):bB H' cs xs:=Paired.bM h λ_ _ q=>q.off hD k
theorem AQ(n m:Nat):decide (V.str ⟨#[n]⟩=V.str ⟨#[m]⟩)=decide (n=m):=by
 by_cases h:n=m
 .rw[h,aG rfl,aG rfl]
 .rw[aH h,aH]
  intro z
  injection z with z
  injection z with z
  have z:[n]=[m]:=by simpa using eD Array.toList z
  exact h (List.cons.inj z).1
theorem qc:("#":Str)=⟨#[35]⟩:=by decide +kernel
theorem uB:(".":Str)=⟨#[46]⟩:=by decide +kernel
section
variable{P:Program}{w:World}{K:PySem.W.Frag}{mg:Str->Option Value}{base:Heap}{f:Addr}{fd:FuncData}
theorem eG{n:Nat}(h:n<=10000):n<=sizeLine:=bO h (by decide)
theorem uC{n:Nat}(h:n<=10000):n<sizeLine:=kF h (by decide)
theorem i9{l:List Str}{i:Nat}{x:Str}(h:l[i]? = some x):iA (l.map V.str) (i:Int)=some (.str x):=dH (by rw[bu,h];rfl)
def AR(K:PySem.W.Frag):Sp:=λvs H Q _=>∃(a b:Addr) (l:List Str) (w:Nat) (c:Nat×Nat),vs=[.ref a,.ref b]/\aq K H a (l.map V.str)/\bj l w/\aq K H b [.int c.1,.int c.2]/\c.1<l.length/\c.2<w/\Q (.str ⟨#[sg l c]⟩) H
theorem aaM:bw ["sheet","cell"] ["sheet","cell"] (aW (top 13)):=⟨rfl,rfl,rfl,by decide +kernel,rfl,by decide +kernel,by decide +kernel⟩
theorem aaN(F:bq K "sign_at" "sign_at" (top 13) f fd):aS P w K mg base aY 1 f fd ["sheet","cell"] (AR K):=by
 refine F.ok aaM (λvs H Q E h=>?_) (λaL A outer s H vs Q E hr h=>?_)
 .refine hide λG_ aK=>?_
  obtain⟨a,b,l,w,c,rfl,_⟩:=h
  refine aK.k ?_
  rfl
 .refine hide λG_ aN=>?_
  obtain⟨a,b,l,wd,c,rfl,hT,S,hb,h1,h2,q⟩:=h
  obtain⟨x,hx,mx,lx,pY,hj⟩:=S.row h1
  refine aN.k ?_
  have hw:=S.w9
  refine⟨_,(az (aX (aV gW (aV bU (pv 0) (aV bU (pv 1) aE (λ_ _=>rfl)) (λ_ _=>rfl)) (aV bU (pv 1) aE (λ_ _=>rfl)) (λ_ _=>rfl)))),?_⟩
  try dsimp only[bF]
  exact⟨_,rfl,_,rfl,b,_,0,.int c.1,rfl,rfl,hb,rfl,a,_,_,.str x,rfl,rfl,hT,i9 hx,_,rfl,b,_,1,.int c.2,rfl,rfl,hb,rfl,x,_,sg l c,rfl,rfl,eG (by omega),dH (hj c.2 h2),q⟩
def xP(K:PySem.W.Frag):Sp:=λvs H Q _=>∃(a b:Addr) (l:List Str) (w:Nat) (c:Nat×Nat),vs=[.ref a,.ref b]/\aq K H a (l.map V.str)/\bj l w/\aq K H b [.int c.1,.int c.2]/\c.1<l.length/\c.2<w/\Q (.bl (cb l c)) H
theorem aaO:bw ["sheet","cell"] ["sheet","cell"] (aW (top 14)):=⟨rfl,rfl,rfl,by decide +kernel,rfl,by decide +kernel,by decide +kernel⟩
theorem aaP(F:bq K "is_open" "is_open" (top 14) f fd)(Fw:Cn mg "SHUT" (.str "#"))(Fx:Fn P w K mg base "sign_at" 1 (AR K)):aS P w K mg base aY 2 f fd ["sheet","cell"] (xP K):=by
 refine F.ok aaO (λvs H Q E h=>?_) (λaL A outer s H vs Q E hr h=>?_)
 .refine hide λG_ aK=>?_
  obtain⟨a,b,l,w,c,rfl,_⟩:=h
  refine aK.k ?_
  rfl
 .refine hide λG_ aN=>?_
  obtain⟨a,b,l,wd,c,rfl,hT,S,hb,h1,h2,q⟩:=h
  refine aN.k ?_
  refine⟨_,(az (aX (pG iY (ba Fx (hr.mono (by decide)) (by rfl) (ab (pv 0) (ab (pv 1) ah))) (kW Fw (by rfl)) (cq _)))),?_⟩
  try dsimp only[bF]
  refine⟨_,rfl,_,rfl,a,b,l,wd,c,rfl,hT,S,hb,h1,h2,rfl,?_⟩
  rw[qc,AQ]
  exact q
def Fy(K:PySem.W.Frag):Sp:=λvs H Q _=>∃(a:Addr) (l:List Str) (w:Nat),vs=[.ref a]/\aq K H a (l.map V.str)/\bj l w/\
 ∀p xs H',H p=none->af H H'->H' p=some (.lst xs)->bB H' (cells l.length w) xs->Q (.ref p) H'
theorem AS:bw ["sheet","cells","line","column"] ["sheet"] (aW (top 12)):=⟨rfl,rfl,rfl,by decide +kernel,rfl,by decide +kernel,by decide +kernel⟩
theorem aaQ(B:Bl mg)(F:bq K "all_cells" "all_cells" (top 12) f fd):aS P w K mg base aY 1 f fd ["sheet"] (Fy K):=by
 refine F.ok AS (λvs H Q E h=>?_) (λaL A outer s H vs Q E hr h=>?_)
 .obtain⟨a,l,w,rfl,_⟩:=h
  rfl
 .refine hide λG_ aK=>?_
  obtain⟨a,l,wd,rfl,hT,S,q⟩:=h
  refine aK.k ?_
  have h9:=S.nine
  have hw:=S.w9
  have nZ:=xG S
  refine⟨_,(au (aO (i:=1) AS.nd rfl (Or.inl rfl) (fm ah))
   (au (cM cL rfl (iW (by rfl) B.i8 (ab (bp d9 (by rfl) B.cf bZ (ab (pv 0) ah)) ah)) (bK (i:=2) AS.nd rfl (Or.inl rfl))
   (az (cM cL rfl (iW (by rfl) B.i8 (ab (bp fY (by rfl) B.cf bZ (ab (aV bU (pv 0) (pv 2) (λ_ _=>rfl)) ah)) ah)) (bK (i:=3) AS.nd rfl (Or.inl rfl))
    (az (fg (fq jq jT jU gY (pv 1) (ab (fX (ab (pv 2) (ab (pv 3) ah))) ah (hs:=dq rfl))))))))
   (az (aX (pv 1))))),?_⟩
  try dsimp only[bF]
  refine⟨bC _,λp hp=>?_⟩
  have eZ:af H (upd H p (.lst [])):=af.upd hp
  refine⟨_,rfl,a,_,rfl,.inr (eZ.tup hT),_,rfl,by rw[ax];omega,by rw[ax];omega,?_⟩
  rw[dY,ax]
  refine j9 (λi σ H2=>∃v2 v3 xs,σ=[some (.ref a),some (.ref p),v2,v3]/\af H H2/\H2 p=some (.lst xs)/\bB H2 ((cells l.length wd).take (i*wd)) xs)
   ⟨none,none,[],rfl,eZ,ar,by rw[Nat.zero_mul,qK];exact .nil⟩ ?_ ?_
  .intro i σ H2 hi q1_
   refine hide λG_ aN=>?_
   obtain⟨v2,v3,xs,rfl,sm,hL,hC⟩:=q1_
   obtain⟨x,hx,mx,lx,pY,hj⟩:=S.row hi
   refine aN.k ?_
   refine⟨_,rfl,_,rfl,a,_,_,.str x,rfl,rfl,sm.tup hT,i9 hx,x,rfl,eG (by omega),_,rfl,by omega,by omega,?_⟩
   rw[dY,lx]
   refine j9 (λj σ H3=>∃v3 xs,σ=[some (.ref a),some (.ref p),some (.int i),v3]/\af H H3/\H3 p=some (.lst xs)/\bB H3 ((cells l.length wd).take (i*wd+j)) xs)
    ⟨v3,xs,rfl,sm,hL,hC⟩ ?_ ?_
   .intro j σ H3 hjw q2_
    refine hide λG_ bt=>?_
    obtain⟨v3,ys,rfl,fN,ja,jI⟩:=q2_
    refine bt.k ?_
    refine⟨_,rfl,.inl ⟨rfl,_,aj.of ja⟩,_,rfl,_,rfl,by show 2<=sizeLine;decide,λt ht=>?_⟩
    have si:t≠p:=bo (aZ ja ht)
    have NU:upd H3 t (.tup [.int i,.int j]) p=some (.lst ys):=by rw[ak (bo si)];exact ja
    have hlen:ys.length<=81:=by
     have e1:=jI.length
     rw[jQ] at e1
     omega
    refine⟨p,ys,_,rfl,rfl,NU,uC (by omega),some (.int j),ys++[.ref t],rfl,(fN.trans (af.upd ht)).j8 hp,ar,?_⟩
    have off:∀b o,b≠p->upd H3 t (.tup [.int i,.int j]) b=some o->upd (upd H3 t (.tup [.int i,.int j])) p (.lst (ys++[.ref t])) b=some o:=λb o hb e=>by rw[ak hb];exact e
    have e2:i*wd+(j+1)=i*wd+j+1:=rfl
    rw[e2,ND hi hjw]
    exact nj (bB.off ⟨ys,NU⟩ off (bB.mono (af.upd ht) jI)) ⟨t,rfl,off t _ si ar⟩
   .intro σ H3 q3_
    refine hide λG_ cD=>?_
    obtain⟨v3,ys,rfl,fN,ja,jI⟩:=q3_
    refine cD.k ?_
    refine⟨_,_,ys,rfl,fN,ja,?_⟩
    rw[iP]
    exact jI
  .intro σ H2 q4_
   refine hide λG_ cJ=>?_
   obtain⟨v2,v3,xs,rfl,sm,hL,hC⟩:=q4_
   refine cJ.k ?_
   refine⟨_,rfl,q p xs H2 hp sm hL ?_⟩
   rw[gu (by rw[n6];exact aP _)] at hC
   exact hC
def AU(K:PySem.W.Frag):Sp:=λvs H Q _=>∃(a:Addr) (l:List Str) (w:Nat),vs=[.ref a]/\aq K H a (l.map V.str)/\bj l w/\
 ∀p xs H',H p=none->af H H'->H' p=some (.lst xs)->bB H' (bV l w) xs->Q (.ref p) H'
theorem aaR:bw ["sheet"] ["sheet"] (aW (top 10)):=⟨rfl,rfl,rfl,by decide +kernel,rfl,by decide +kernel,by decide +kernel⟩
theorem aaS(F:bq K "open_cells" "open_cells" (top 10) f fd)(aaT:Fn P w K mg base "all_cells" 1 (Fy K))(xQ:Fn P w K mg base "is_open" 2 (xP K)):aS P w K mg base aY 3 f fd ["sheet"] (AU K):=by
 refine F.ok aaR (λvs H Q E h=>?_) (λaL A outer s H vs Q E hr h=>?_)
 .obtain⟨a,l,w,rfl,_⟩:=h
  rfl
 .refine hide λG_ aK=>?_
  obtain⟨a,l,wd,rfl,hT,S,q⟩:=h
  refine aK.k ?_
  have nZ:=xG S
  refine⟨_,(az (aX (i0 (js:=[0]) (ns:=["sheet"]) (dQ (ba aaT (hr.mono (by decide)) (by rfl) (ab (pv 0) ah))) rfl rfl rfl rfl (λ_ _ _ _=>(nM (eU (ba xQ (hr.mono (by decide)) (by rfl) (ab (pv 1) (ab (pv 0) ah)))))) (λ_ _ _ _=>(pv 0))))),?_⟩
  try dsimp only[bF]
  refine⟨_,rfl,a,l,wd,rfl,hT,S,λp xs H1 hp sm hL hC=>⟨p,rfl,⟨_,aj.of hL⟩,?_⟩⟩
  have hlx:=hC.length
  refine ma jC (by omega) (λi=>cb l ((cells l.length wd).getD i (0,0))) (λ_ i y _=>xs[i]? = some y) (λH2 s2=>aj.of (s2 _ _ hL)) (λ_ _ _ _ _ _ _ _ h=>h) ?_ ?_
  .intro D i x H2 Z0 Z hD hx s2 _ k0 k1
   refine hide λG_ aN=>?_
   obtain⟨c,hc,b,rfl,hb⟩:=Paired.get hC hx
   obtain⟨_,m1,m2⟩:=Fg hc
   refine aN.k ?_
   have ec:(cells l.length wd).getD i (0,0)=c:=cu hc
   rw[ec] at k0 k1
   refine⟨_,rfl,_,rfl,a,b,l,wd,c,rfl,(sm.trans s2).tup hT,S,aq.of (s2 _ _ hb),m1,m2,_,rfl,fw (λh=>?_) (λh=>?_)⟩
   .exact⟨_,rfl,k1 _ _ (af.cQ _) h hx⟩
   .exact k0 _ (af.cQ _) (by simpa using h)
  .intro D ys H2 hD bA s2 pr
   refine q D ys H2 (sm.free hD) (sm.trans s2) bA ?_
   exact Paired.pick (bB.mono s2 hC) (cb l) _ (λi c e=>by rw[cu e]) pr
end
def qd(H:Hp)(way:Str)(q:Nat×List C2)(x:V):Prop := ∃a t xs,x = .ref a/\H a=some (.tup [.int q.1,.str way,.ref t])/\H t=some (.tup xs)/\bB H q.2 xs
abbrev gc(H:Hp)(way:Str)(qs:List (Nat×List C2))(xs:List V):Prop:=Paired (qd H way) qs xs
theorem qd.mono{H H':Hp}{way:Str}{q:Nat×List C2}{x:V}(s:af H H')(h:qd H way q x):qd H' way q x:=let ⟨a,t,xs,e,h1,h2,h3⟩:=h;⟨a,t,xs,e,s _ _ h1,s _ _ h2,h3.mono s⟩
theorem qd.off{H H':Hp}{D:Addr}{way:Str}{q:Nat×List C2}{x:V}(hD:∃o,H D=some (.lst o))(k:∀b o,b≠D->H b=some o->H' b=some o)(h:qd H way q x):qd H' way q x:=by
 obtain⟨a,t,xs,e,h1,h2,h3⟩:=h
 have um:=hD
 obtain⟨o,um⟩:=um
 exact⟨a,t,xs,e,k a _ (bY h1 um (by intro z;cases z)) h1,k t _ (bY h2 um (by intro z;cases z)) h2,bB.off hD k h3⟩
theorem gc.mono{H H':Hp}{way:Str}{qs:List (Nat×List C2)}{xs:List V}(s:af H H')(h:gc H way qs xs):gc H' way qs xs:=Paired.bM h λ_ _ q=>q.mono s
theorem gc.off{H H':Hp}{D:Addr}{way:Str}{qs:List (Nat×List C2)}{xs:List V}(hD:∃o,H D=some (.lst o))(k:∀b o,b≠D->H b=some o->H' b=some o)(h:gc H way qs xs):gc H' way qs xs:=Paired.bM h λ_ _ q=>q.off hD k
theorem NV{K:PySem.W.Frag}{H:Hp}{p e:Addr}{xs ys:List V}{o:HO}(hp:H p=some (.lst ys))(h:aq K H e xs):aq K (upd H p o) e xs:=by
 rcases h with (h | ⟨ob,h⟩) | h
 .exact .inl (.inl (by rw[ak (bY h hp (by intro z;cases z))];exact h))
 .exact .inl (.inr ⟨ob,by rw[ak (bY h hp (by intro z;cases z))];exact h⟩)
 .exact .inr h
def jv(l:List Str)(w:Nat)(i j:Int):Bool:=decide (0<=i)&&(decide (i<(l.length:Int))&&(decide (0<=j)&&(decide (j<(w:Int))&&cb l (i.toNat,j.toNat))))
theorem Fz(l:List Str)(w:Nat)(c:C2):jv l w (c.1:Int) (c.2:Int)=bx l w c:=by
 unfold jv bx
 have h1:decide ((0:Int)<=(c.1:Int))=true:=aG (by omega)
 have h2:decide ((0:Int)<=(c.2:Int))=true:=aG (by omega)
 have h3:decide ((c.1:Int)<(l.length:Int))=decide (c.1<l.length):=by
  by_cases h:c.1<l.length
  .rw[aG h,aG (by omega)]
  .rw[aH h,aH (by omega)]
 have h4:decide ((c.2:Int)<(w:Int))=decide (c.2<w):=by
  by_cases h:c.2<w
  .rw[aG h,aG (by omega)]
  .rw[aH h,aH (by omega)]
 rw[h1,h2,h3,h4,tH,tH,dY,dY]
theorem NW(l:List Str)(w:Nat)(c d:C2):jv l w ((c.1:Int) - (d.1:Int)) ((c.2:Int) - (d.2:Int))=hV (bx l w) d c:=by
 unfold hV
 by_cases h1:d.1<=c.1
 .by_cases h2:d.2<=c.2
  .have e1:(c.1:Int) - (d.1:Int)=((c.1 - d.1:Nat):Int):=by omega
   have e2:(c.2:Int) - (d.2:Int)=((c.2 - d.2:Nat):Int):=by omega
   rw[e1,e2,Fz l w (c.1 - d.1,c.2 - d.2),aG h1,aG h2,tH,tH]
  .unfold jv
   rw[aH h2,iq,ni,aH (p:=(0:Int)<=(c.2:Int) - (d.2:Int)) (by omega),iq,ni,ni]
 .unfold jv
  rw[aH h1,iq,aH (p:=(0:Int)<=(c.1:Int) - (d.1:Int)) (by omega),iq]
theorem qe(op:C2->Bool)(f:C2->List C2):∀(n:Nat) (cs:List C2),(dE op f n cs).length<=cs.length
 |n,[]=>aP _
 |n,c::r=>by
  unfold dE
  split
  .exact Nat.le_succ_of_le (qe op f _ r)
  .exact lM (qe op f _ r)
theorem NX{α β:Type}{R:α->β->Prop}:∀{l:List α}{m:List β},Paired R l m->m.isEmpty=l.isEmpty
 |_,_,.nil=>rfl
 |_,_,.cons _ _=>rfl
theorem NY{op:C2->Bool}{f:C2->List C2}(hf:∀{c},(f c).isEmpty=false->eF op c=true){cs:List C2}{i:Nat}{c:C2}(hc:cs[i]? = some c) :
  dE op f 0 (cs.take (i+1))=dE op f 0 (cs.take i)++if (f c).isEmpty=true then [] else [(eB op (cs.take (i+1)),f c)]:=by
 have qf:cs.take (i+1)=cs.take i++[c]:=by rw[gq,hc];rfl
 rw[qf,NH,NG,qL]
def AV(K:PySem.W.Frag)(mg:Str->Option Value)(x:Str)(xs:List V):Prop := ∃a,Cn mg x (.ref a)/\∀H,aq K H a xs
section
variable{P:Program}{w:World}{K:PySem.W.Frag}{mg:Str->Option Value}{base:Heap}{f:Addr}{fd:FuncData}
def FA(K:PySem.W.Frag):Sp:=λvs H Q _=>∃(a b:Addr) (l:List Str) (w:Nat) (i j:Int),vs=[.ref a,.ref b]/\aq K H a (l.map V.str)/\bj l w/\aq K H b [.int i,.int j]/\Q (.bl (jv l w i j)) H
theorem aaU:bw ["sheet","cell"] ["sheet","cell"] (aW (top 22)):=⟨rfl,rfl,rfl,by decide +kernel,rfl,by decide +kernel,by decide +kernel⟩
theorem aaV(B:Bl mg)(F:bq K "is_open_within" "is_open_within" (top 22) f fd)(xQ:Fn P w K mg base "is_open" 2 (xP K)):aS P w K mg base aY 3 f fd ["sheet","cell"] (FA K):=by
 refine F.ok aaU (λvs H Q E h=>?_) (λaL A outer s H vs Q E hr h=>?_)
 .refine hide λG_ aK=>?_
  obtain⟨a,b,l,w,i,j,rfl,_⟩:=h
  refine aK.k ?_
  rfl
 .refine hide λG_ aN=>?_
  obtain⟨a,b,l,wd,i,j,rfl,hT,S,hb,q⟩:=h
  obtain⟨x0,oh,AW,oi,_⟩:=S.row (i:=0) S.one
  refine aN.k ?_
  have h9:=S.nine
  have hw:=S.w9
  refine⟨_,(au (bJ (fV (wD rf lS aE (aV bU (pv 1) aE (λ_ _=>rfl)) (bp d9 (by rfl) B.cf bZ (ab (pv 0) ah))))
   (az (aX fJ))
   bR)
   (au (bJ (fV (wD rf lS aE (aV bU (pv 1) aE (λ_ _=>rfl)) (bp fY (by rfl) B.cf bZ (ab (aV bU (pv 0) aE (λ_ _=>rfl)) ah))))
   (az (aX fJ))
   bR)
   (az (aX (ba xQ (hr.mono (by decide)) (by rfl) (ab (pv 0) (ab (pv 1) ah))))))),?_⟩
  try dsimp only[bF]
  unfold jv at q
  refine⟨_,rfl,b,_,0,.int i,rfl,rfl,hb,rfl,_,_,rfl,rfl,_,rfl,?_⟩
  by_cases h0:(0:Int)<=i
  .rw[aG h0] at q ⊢
   refine bG ⟨_,rfl,a,_,rfl,.inr hT,_,_,rfl,rfl,_,rfl,?_⟩
   rw[ax]
   by_cases h1:i<(l.length:Int)
   .rw[aG h1] at q ⊢
    refine aT ?_
    refine⟨_,rfl,b,_,1,.int j,rfl,rfl,hb,rfl,_,_,rfl,rfl,_,rfl,?_⟩
    by_cases h2:(0:Int)<=j
    .rw[aG h2] at q ⊢
     refine bG ⟨_,rfl,a,_,0,.str x0,rfl,rfl,hT,i9 oh,x0,rfl,eG (by omega),_,_,rfl,rfl,_,rfl,?_⟩
     rw[oi]
     by_cases h3:j<(wd:Int)
     .rw[aG h3] at q ⊢
      refine aT ?_
      obtain⟨i',rfl⟩:=qP h0
      obtain⟨j',rfl⟩:=qP h2
      rw[dY,dY] at q
      exact⟨_,rfl,_,rfl,a,b,l,wd,(i',j'),rfl,hT,S,hb,by omega,by omega,q⟩
     .rw[aH h3] at q ⊢
      exact bG q
    .rw[aH h2] at q ⊢
     refine aT ⟨_,rfl,?_⟩
     exact bG q
   .rw[aH h1] at q ⊢
    exact bG q
  .rw[aH h0] at q ⊢
   refine aT ⟨_,rfl,?_⟩
   exact bG q
def NZ(K:PySem.W.Frag)(a b d t p:Addr)(H:Hp)(l:List Str)(wd:Nat)(c dd:C2):Nat->St->Hp->Prop:=λm σ H2=>∃n xs e,m=10 - n/\n<=9/\σ=[some (.ref a),some (.ref b),some (.ref d),some (.ref t),some (.ref p),some (.ref e)]/\af H H2/\
 H2 p=some (.lst xs)/\bB H2 (line c dd n) xs/\H2 e=some (.tup [.int (go c dd n).1,.int (go c dd n).2])/\∀k,k<n->bx l wd (go c dd k)=true
def FC(K:PySem.W.Frag):Sp:=λvs H Q _=>∃(a b d:Addr) (l:List Str) (w:Nat) (c dd:C2),vs=[.ref a,.ref b,.ref d]/\aq K H a (l.map V.str)/\bj l w/\H b=some (.tup [.int c.1,.int c.2])/\aq K H d [.int dd.1,.int dd.2]/\(dd=(0,1)\/dd=(1,0))/\
 ∀t xs H',af H H'->H' t=some (.tup xs)->bB H' (bW (bx l w) dd c) xs->Q (.ref t) H'
theorem xR:bw ["sheet","cell","way","before","cells","here"] ["sheet","cell","way"] (aW (top 21)):=⟨rfl,rfl,rfl,by decide +kernel,rfl,by decide +kernel,by decide +kernel⟩
theorem aaW(B:Bl mg)(F:bq K "row_from" "row_from" (top 21) f fd)(N0:Fn P w K mg base "is_open_within" 3 (FA K)):aS P w K mg base aY 4 f fd ["sheet","cell","way"] (FC K):=by
 refine F.ok xR (λvs H Q E h=>?_) (λaL A outer s H vs Q E hr h=>?_)
 .refine hide λG_ aK=>?_
  obtain⟨a,b,d,l,w,c,dd,rfl,_⟩:=h
  refine aK.k ?_
  rfl
 .refine hide λG_ aN=>?_
  obtain⟨a,b,d,l,wd,c,dd,rfl,hT,S,hb,hd,AM,q⟩:=h
  refine aN.k ?_
  have h9:=S.nine
  have hw:=S.w9
  have N1:aq K H b [.int c.1,.int c.2]:=aq.of hb
  refine⟨_,(au (aO (i:=3) xR.nd rfl (Or.inl rfl) (fX (ab (aR pF (aV bU (pv 1) aE (λ_ _=>rfl)) (aV bU (pv 2) aE (λ_ _=>rfl))) (ab (aR pF (aV bU (pv 1) aE (λ_ _=>rfl)) (aV bU (pv 2) aE (λ_ _=>rfl))) ah))))
   (au (bJ (eU (ba N0 (hr.mono (by decide)) (by rfl) (ab (pv 0) (ab (pv 3) ah))))
   (az (aX (fX ah)))
   bR)
   (au (aO (i:=4) xR.nd rfl (Or.inl rfl) (fm ah))
   (au (aO (i:=5) xR.nd rfl (Or.inl rfl) (pv 1))
   (au (K3 cL (eU (ba N0 (hr.mono (by decide)) (by rfl) (ab (pv 0) (ab (pv 5) ah))))
   (au (fg (fq jq jT jU gY (pv 4) (ab (pv 5) ah)))
    (az (aO (i:=5) xR.nd rfl (Or.inl rfl) (fX (ab (aR eV (aV bU (pv 5) aE (λ_ _=>rfl)) (aV bU (pv 2) aE (λ_ _=>rfl))) (ab (aR eV (aV bU (pv 5) aE (λ_ _=>rfl)) (aV bU (pv 2) aE (λ_ _=>rfl))) ah)))))))
   (au (bJ (bT lS (bp d9 (by rfl) B.cf bZ (ab (pv 4) ah)) aE (cq _))
   (az (aX (fX ah)))
   bR)
   (az (aX (iz wN (by rfl) B.sf rM (ab (pv 4) ah)))))))))),?_⟩
  try dsimp only[bF]
  refine⟨_,rfl,b,_,0,.int c.1,rfl,rfl,N1,rfl,_,rfl,d,_,0,.int dd.1,rfl,rfl,hd,rfl,_,_,rfl,rfl,_,rfl,b,_,1,.int c.2,rfl,rfl,N1,rfl,_,rfl,d,_,1,.int dd.2,rfl,rfl,hd,rfl,_,_,rfl,rfl,by show 2<=sizeLine;decide,λt ht=>?_⟩
  have eZ:af H (upd H t (.tup [.int ((c.1:Int) - (dd.1:Int)),.int ((c.2:Int) - (dd.2:Int))])):=af.upd ht
  refine⟨_,rfl,_,rfl,a,t,l,wd,_,_,rfl,eZ.tup hT,S,aq.of ar,_,rfl,?_⟩
  rw[NW]
  refine fw (λkb=>?_) (λkb=>?_)
  .refine⟨bC _,λp hp=>q p [] _ (eZ.trans (af.upd hp)) ar ?_⟩
   unfold bW
   rw[aA kb]
   exact .nil
  .refine⟨bC _,λp hp=>?_⟩
   have fC:af H (upd (upd H t (.tup [.int ((c.1:Int) - (dd.1:Int)),.int ((c.2:Int) - (dd.2:Int))])) p (.lst [])):=eZ.trans (af.upd hp)
   have fc:H p=none:=eZ.free hp
   refine⟨_,rfl,?_⟩
   refine⟨NZ K a b d t p H l wd c dd,⟨10,0,[],b,rfl,by omega,rfl,fC,ar,.nil,by rw[i7];exact fC _ _ hb,λk hk=>absurd hk (jn _)⟩,?_⟩
   intro m σ H2 q5_
   refine hide λG_ bt=>?_
   obtain⟨n,xs,e,rfl,hn,rfl,sm,hL,hC,hE,ho⟩:=q5_
   refine bt.k ?_
   refine⟨_,rfl,_,rfl,a,e,l,wd,_,_,rfl,sm.tup hT,S,aq.of hE,_,rfl,?_⟩
   rw[Fz]
   have hlen:xs.length=n:=by rw[<-hC.length,sd]
   refine fw (λjb=>?_) (λjb=>?_)
   .have hn8:n<=8:=by
     obtain⟨o1,o2,_⟩:=n9 jb
     simp only[go] at o1 o2
     rcases AM with rfl | rfl
     .simp only[iR] at o2
      omega
     .simp only[iR] at o1
      omega
    refine⟨λσ' H' =>∃m',m'<10 - n/\NZ K a b d t p H l wd c dd m' σ' H',λ_ _ z=>z,?_⟩
    have FD:∀o,upd H2 p o e=some (.tup [.int (go c dd n).1,.int (go c dd n).2]):=λo=>by rw[ak (bY hE hL (by intro z;cases z))];exact hE
    refine⟨_,rfl,.inl ⟨rfl,_,aj.of hL⟩,_,rfl,p,xs,_,rfl,rfl,hL,uC (by omega),?_⟩
    refine⟨_,rfl,e,_,0,.int (go c dd n).1,rfl,rfl,aq.of (FD _),rfl,_,rfl,d,_,0,.int dd.1,rfl,rfl,NV hL (sm.tup hd),rfl,_,_,rfl,rfl,_,rfl,e,_,1,.int (go c dd n).2,rfl,rfl,aq.of (FD _),rfl,_,rfl,d,_,1,.int dd.2,rfl,rfl,NV hL (sm.tup hd),rfl,_,_,rfl,rfl,by show 2<=sizeLine;decide,λt2 jJ=>?_⟩
    refine⟨10 - (n+1),by omega,n+1,xs++[.ref e],t2,rfl,by omega,rfl,(sm.j8 fc).trans (af.upd jJ),af.upd jJ _ _ ar,?_,?_,?_⟩
    .rw[NF]
     refine bB.mono (af.upd jJ) (nj (bB.off ⟨xs,hL⟩ (λb' o jz z=>by rw[ak jz];exact z) hC) ⟨e,rfl,FD _⟩)
    .rw[ar,go_succ]
     simp only[Kx]
    .intro k hk
     rcases wm.mp hk with z | z
     .exact ho k z
     .rw[z];exact jb
   .have AX:runN (bx l wd) dd 10 c=n:=Fj (by omega) ho (gR.mpr jb)
    refine⟨_,rfl,p,_,rfl,.inl (aj.of hL),_,_,rfl,rfl,_,rfl,?_⟩
    rw[hlen]
    refine fw (λh2=>?_) (λh2=>?_)
    .have h2:(n:Int)<2:=ff h2
     refine⟨bC _,λp' eN=>q p' [] _ (sm.trans (af.upd eN)) ar ?_⟩
     unfold bW
     rw[aw kb,AX,aA (by omega)]
     exact .nil
    .have h2:¬(n:Int)<2:=λz=>h2 (aG z)
     refine⟨_,rfl,p,_,rfl,.inl ⟨aj.of hL,λp' eN=>?_⟩⟩
     refine q p' xs _ (sm.trans (af.upd eN)) ar ?_
     unfold bW
     rw[aw kb,AX,aw (by omega)]
     exact hC.mono (af.upd eN)
def AY(K:PySem.W.Frag):Sp:=λvs H Q _=>∃(a:Addr) (l:List Str) (w:Nat),vs=[.ref a]/\aq K H a (l.map V.str)/\bj l w/\
 ∀p xs ys H',H p=none->af H H'->H' p=some (.lst (xs++ys))->gc H' "across" (pZ l w) xs->gc H' "down" (qb l w) ys->Q (.ref p) H'
theorem qg:bw ["sheet","across","down","number","cell","to_the_right","to_below"] ["sheet"] (aW (top 20)):=⟨rfl,rfl,rfl,by decide +kernel,rfl,by decide +kernel,by decide +kernel⟩
theorem aaX(F:bq K "rows_of" "rows_of" (top 20) f fd)(CA:AV K mg "ACROSS" [.int 0,.int 1])(CD:AV K mg "DOWN" [.int 1,.int 0])(FE:Fn P w K mg base "open_cells" 3 (AU K))(N2:Fn P w K mg base "row_from" 4 (FC K)):aS P w K mg base aY 5 f fd ["sheet"] (AY K):=by
 refine F.ok qg (λvs H Q E h=>?_) (λaL A outer s H vs Q E hr h=>?_)
 .obtain⟨a,l,w,rfl,_⟩:=h
  rfl
 .refine hide λG_ aK=>?_
  obtain⟨a,l,wd,rfl,hT,S,q⟩:=h
  obtain⟨dA,FF,tA⟩:=CA
  obtain⟨dD,FG,tD⟩:=CD
  refine aK.k ?_
  have nZ:=xG S
  have AZ:(bV l wd).length<=81:=bO (iQ _ _) nZ
  refine⟨_,(au (aO (i:=1) qg.nd rfl (Or.inl rfl) (fm ah))
   (au (aO (i:=2) qg.nd rfl (Or.inl rfl) (fm ah))
   (au (aO (i:=3) qg.nd rfl (Or.inl rfl) aE)
   (au (cM cL rfl (dQ (ba FE (hr.mono (by decide)) (by rfl) (ab (pv 0) ah))) (bK (i:=4) qg.nd rfl (Or.inl rfl))
   (au (aO (i:=5) qg.nd rfl (Or.inl rfl) (ba N2 (hr.mono (by decide)) (by rfl) (ab (pv 0) (ab (pv 4) (ab (kW FF (by rfl)) ah)))))
    (au (aO (i:=6) qg.nd rfl (Or.inl rfl) (ba N2 (hr.mono (by decide)) (by rfl) (ab (pv 0) (ab (pv 4) (ab (kW FG (by rfl)) ah)))))
    (au (pN (bJ (PW.pt (iV (tU (pv 5) (by intro _;rfl)) (jZ (tU (pv 6) (by intro _;rfl)))))
    (az (aO (i:=3) qg.nd rfl (Or.inl rfl) (aR eV (pv 3) aE)))
    bR))
    (au (pN (bJ (tU (pv 5) (by intro _;rfl))
    (az (fg (fq jq jT jU gY (pv 1) (ab (fX (ab (pv 3) (ab eM (ab (pv 5) ah)))) ah (hs:=dq rfl)))))
    bR))
    (az (bJ (tU (pv 6) (by intro _;rfl))
    (az (fg (fq jq jT jU gY (pv 2) (ab (fX (ab (pv 3) (ab eM (ab (pv 6) ah)))) ah (hs:=dq rfl)))))
    bR)))))))
   (az (aX (aR LK (pv 1) (pv 2)))))))),?_⟩
  try dsimp only[bF]
  refine⟨bC _,λpa xS=>?_⟩
  refine⟨bC _,λpd qh=>?_⟩
  have FH:pa≠pd:=by intro z;rw[<-z,ar] at qh;cases qh
  have N3:af H (upd H pa (.lst [])):=af.upd xS
  have N4:af H (upd (upd H pa (.lst [])) pd (.lst [])):=N3.trans (af.upd qh)
  have aaY:H pd=none:=N3.free qh
  have A0:upd (upd H pa (.lst [])) pd (.lst []) pa=some (.lst []):=by rw[ak FH,ar]
  have xT:upd (upd H pa (.lst [])) pd (.lst []) pd=some (.lst []):=ar
  refine⟨_,rfl,a,l,wd,rfl,N4.tup hT,S,λp xs H1 hp fC hL hC=>⟨p,rfl,⟨_,aj.of hL⟩,?_⟩⟩
  have sj:p≠pa:=λz=>by rw[z] at hp;rw[A0] at hp;cases hp
  have uD:p≠pd:=λz=>by rw[z] at hp;rw[xT] at hp;cases hp
  generalize jb:bx l wd=op at *
  have ll:xs.length=(bV l wd).length:=hC.length.symm
  refine j2 (xs:=xs) (λi σ H2=>∃v4 v5 v6 as ds,σ=[some (.ref a),some (.ref pa),some (.ref pd),some (.int (eB op ((bV l wd).take i))),v4,v5,v6]/\af H H2/\(∀b o,b≠pa->b≠pd->H1 b=some o->H2 b=some o)/\
    H2 pa=some (.lst as)/\H2 pd=some (.lst ds)/\gc H2 "across" (dE op (n8 op) 0 ((bV l wd).take i)) as/\gc H2 "down" (dE op (mG op) 0 ((bV l wd).take i)) ds)
   ⟨none,none,none,[],[],rfl,N4.trans fC,λ_ _ _ _ z=>z,fC _ _ A0,fC _ _ xT,.nil,.nil⟩ ?_ ?_ ?_
  .rintro i σ H2 _ ⟨v4,v5,v6,as,ds,rfl,sm,off,hA,hD,rA,rD⟩
   exact aj.of (off _ _ sj uD hL)
  .intro i x σ H2 hi q6_
   refine hide λG_ aN=>?_
   obtain⟨v4,v5,v6,as,ds,rfl,sm,off,hA,hD,rA,rD⟩:=q6_
   obtain⟨c,hc,b,rfl,hb⟩:=Paired.get hC hi
   refine aN.k ?_
   have aog:∀o,H1 pa=some o->∃z,o=HO.lst z:=λo e=>⟨[],by rw[fC _ _ A0] at e;exact(dm e).symm⟩
   have nba:b≠pa:=bY hb (fC _ _ A0) (by intro z;cases z)
   have nbd:b≠pd:=bY hb (fC _ _ xT) (by intro z;cases z)
   have nS:=off _ _ nba nbd hb
   have qf:(bV l wd).take (i+1)=(bV l wd).take i++[c]:=by rw[gq,hc];rfl
   have A2:as.length<=81:=by rw[<-rA.length];exact bO (qe _ _ _ _) (bO (List.length_take_le' _ _) AZ)
   have hld:ds.length<=81:=by rw[<-rD.length];exact bO (qe _ _ _ _) (bO (List.length_take_le' _ _) AZ)
   refine⟨_,rfl,_,rfl,a,b,dA,l,wd,c,(0,1),rfl,sm.tup hT,S,nS,tA _,.inl rfl,λt1 A3 H3 fN ht1 FI=>?_⟩
   refine⟨_,rfl,_,rfl,a,b,dD,l,wd,c,(1,0),rfl,(sm.trans fN).tup hT,S,fN _ _ nS,tD _,.inr rfl,λt2 xU H4 dS jJ FJ=>?_⟩
   rw[jb] at FI FJ
   have e1:A3.isEmpty=(n8 op c).isEmpty:=NX FI
   have e2:xU.isEmpty=(mG op c).isEmpty:=NX FJ
   have sk:=fN.trans dS
   have uE:=sk _ _ hA
   have hD4:=sk _ _ hD
   have A4:=dS _ _ ht1
   refine⟨λσ' H'=>σ'=[some (.ref a),some (.ref pa),some (.ref pd),some (.int (eB op ((bV l wd).take (i+1)))),some (.ref b),some (.ref t1),some (.ref t2)]/\H4=H',?_,?_⟩
   .rintro σ' H' ⟨rfl,rfl⟩
    refine⟨λσ' H'=>σ'=[some (.ref a),some (.ref pa),some (.ref pd),some (.int (eB op ((bV l wd).take (i+1)))),some (.ref b),some (.ref t1),some (.ref t2)]/\(∀b o,b≠pa->H4 b=some o->H' b=some o)/\
     ∃xV,H' pa=some (.lst xV)/\gc H' "across" (dE op (n8 op) 0 ((bV l wd).take (i+1))) xV,?_,?_⟩
    .rintro σ' H5 ⟨rfl,oj,xV,N5,N6⟩
     have FN:=oj _ _ (bo FH) hD4
     have FO:=oj _ _ (bY jJ uE (by intro z;cases z)) jJ
     have aaZ:bB H5 (mG op c) xU:=bB.off ⟨as,uE⟩ oj FJ
     have N7:gc H5 "down" (dE op (mG op) 0 ((bV l wd).take i)) ds:=gc.off ⟨as,uE⟩ oj (rD.mono sk)
     have qi:af H H5:=λb o z=>oj b o (aZ z xS) ((sm.trans sk) _ _ z)
     have N8:∀b o,b≠pa->b≠pd->H1 b=some o->H5 b=some o:=λb o h1 h2 z=>oj b o h1 (sk _ _ (off b o h1 h2 z))
     have er:=NY (op:=op) (f:=mG op) Fq hc
     refine⟨_,rfl,_,Or.inr (Or.inl ⟨xU,aq.of FO,rfl⟩),?_⟩
     by_cases z:(mG op c).isEmpty=true
     .rw[e2,z]
      refine aT ⟨some (.ref b),some (.ref t1),some (.ref t2),xV,ds,rfl,qi,N8,N5,FN,N6,?_⟩
      rw[er,aA z,gm]
      exact N7
     .rw[e2,gR.mpr z]
      refine bG ⟨_,rfl,.inl ⟨rfl,_,aj.of FN⟩,_,rfl,_,rfl,by show 3<=sizeLine;decide,λt ht=>?_⟩
      have h8:af H5 (upd H5 t (.tup [.int (eB op ((bV l wd).take (i+1))),.str "down",.ref t2])):=af.upd ht
      have uF:=h8 _ _ FN
      have ib:∀o' b o,b≠pd->upd H5 t (.tup [.int (eB op ((bV l wd).take (i+1))),.str "down",.ref t2]) b=some o->upd (upd H5 t (.tup [.int (eB op ((bV l wd).take (i+1))),.str "down",.ref t2])) pd o' b=some o:=λo' b o hb y=>by rw[ak hb];exact y
      refine⟨pd,ds,_,rfl,rfl,uF,uC (by omega),some (.ref b),some (.ref t1),some (.ref t2),xV,ds++[.ref t],rfl,(qi.trans h8).j8 aaY,λb o h1 h2 y=>ib _ b o h2 (h8 _ _ (N8 b o h1 h2 y)),ib _ pa _ FH (h8 _ _ N5),ar,?_,?_⟩
      .exact gc.off ⟨ds,uF⟩ (ib _) (N6.mono h8)
      .rw[er,aw z]
       refine nj (gc.off ⟨ds,uF⟩ (ib _) (N7.mono h8)) ⟨t,t2,xU,rfl,ib _ t _ (bY ar uF (by intro y;cases y)) ar,ib _ t2 _ (bY (h8 _ _ FO) uF (by intro y;cases y)) (h8 _ _ FO),bB.off ⟨ds,uF⟩ (ib _) (aaZ.mono h8)⟩
    .have er:=NY (op:=op) (f:=n8 op) Fp hc
     refine⟨_,rfl,_,Or.inr (Or.inl ⟨A3,aq.of A4,rfl⟩),?_⟩
     by_cases z:(n8 op c).isEmpty=true
     .rw[e1,z]
      refine aT ⟨rfl,λ_ _ _ y=>y,as,uE,?_⟩
      rw[er,aA z,gm]
      exact rA.mono sk
     .rw[e1,gR.mpr z]
      refine bG ⟨_,rfl,.inl ⟨rfl,_,aj.of uE⟩,_,rfl,_,rfl,by show 3<=sizeLine;decide,λt ht=>?_⟩
      have h8:af H4 (upd H4 t (.tup [.int (eB op ((bV l wd).take (i+1))),.str "across",.ref t1])):=af.upd ht
      have xW:=h8 _ _ uE
      have ib:∀o' b o,b≠pa->upd H4 t (.tup [.int (eB op ((bV l wd).take (i+1))),.str "across",.ref t1]) b=some o->upd (upd H4 t (.tup [.int (eB op ((bV l wd).take (i+1))),.str "across",.ref t1])) pa o' b=some o:=λo' b o hb y=>by rw[ak hb];exact y
      refine⟨pa,as,_,rfl,rfl,xW,uC (by omega),rfl,λb o h1 y=>ib _ b o h1 (h8 _ _ y),as++[.ref t],ar,?_⟩
      rw[er,aw z]
      exact nj (gc.off ⟨as,xW⟩ (ib _) ((rA.mono sk).mono h8)) ⟨t,t1,A3,rfl,ib _ t _ (bY ar xW (by intro y;cases y)) ar,ib _ t1 _ (bY (h8 _ _ A4) xW (by intro y;cases y)) (h8 _ _ A4),bB.off ⟨as,xW⟩ (ib _) ((FI.mono dS).mono h8)⟩
   .have enum:eB op ((bV l wd).take (i+1))=if eF op c=true then eB op ((bV l wd).take i)+1 else eB op ((bV l wd).take i):=by rw[qf,NG]
    refine⟨_,rfl,_,Or.inr (Or.inl ⟨A3,aq.of A4,rfl⟩),?_⟩
    by_cases z1:(n8 op c).isEmpty=true
    .rw[e1,z1]
     refine aT ⟨_,rfl,_,Or.inr (Or.inl ⟨xU,aq.of jJ,rfl⟩),?_⟩
     by_cases z2:(mG op c).isEmpty=true
     .rw[e2,z2]
      refine aT ⟨?_,rfl⟩
      rw[enum,aw (by unfold eF;rw[z1,z2];decide)]
      rfl
     .rw[e2,gR.mpr z2]
      refine bG ⟨_,rfl,_,_,rfl,rfl,?_,rfl⟩
      rw[enum,aA (Fq (gR.mpr z2))]
      rfl
    .rw[e1,gR.mpr z1]
     refine bG (bG ⟨_,rfl,_,_,rfl,rfl,?_,rfl⟩)
     rw[enum,aA (Fp (gR.mpr z1))]
     rfl
  .intro σ H2 q7_
   refine hide λG_ bt=>?_
   obtain⟨v4,v5,v6,as,ds,rfl,sm,off,hA,hD,rA,rD⟩:=q7_
   refine bt.k ?_
   rw[gu (by omega)] at rA rD
   have A2:as.length<=81:=by rw[<-rA.length];exact bO (qe _ _ _ _) AZ
   have hld:ds.length<=81:=by rw[<-rD.length];exact bO (qe _ _ _ _) AZ
   subst jb
   refine⟨_,rfl,_,rfl,pa,pd,as,ds,rfl,rfl,hA,hD,eG (by omega),λp' eN=>?_⟩
   exact q p' as ds _ (sm.free eN) (sm.trans (af.upd eN)) ar (rA.mono (af.upd eN)) (rD.mono (af.upd eN))
end
theorem FQ{op:C2->Bool}{d:C2}:∀{f:Nat}{c:C2}{k:Nat},k<runN op d f c->op (go c d k)=true
 |0,_,_,h=>by unfold runN at h;exact absurd h (jn _)
 |f+1,c,k,h=>by
  unfold runN at h
  split at h
  .rename_i ho
   cases k with
   |zero=>rw[i7];exact ho
   |succ k=>
    have:=FQ (op:=op) (d:=d) (f:=f) (c:=(c.1+d.1,c.2+d.2)) (k:=k) (by omega)
    have e:go c d (k+1)=go (c.1+d.1,c.2+d.2) d k:=by
     simp only[go,iP,nv]
     omega
    rw[e]
    exact this
  .exact absurd h (jn _)
theorem N9{op:C2->Bool}{d:C2}:∀{f:Nat}{c:C2},runN op d f c<=f
 |0,_=>by unfold runN;exact aP _
 |f+1,c=>by
  unfold runN
  split
  .exact lM N9
  .exact bC _
theorem aa0{op:C2->Bool}{d c x:C2}(h:x∈bW op d c):op x=true:=by
 unfold bW at h
 split at h
 .exact absurd h gr
 .split at h
  .exact absurd h gr
  .obtain⟨k,hk,rfl⟩:=bP.mp h
   exact FQ (ip.mp hk)
theorem aa1{op:C2->Bool}{d c:C2}:(bW op d c).length<=10:=by
 unfold bW
 split
 .exact bC _
 .split
  .exact bC _
  .rw[sd];exact N9
def dF(l:List Str)(w:Nat):List (Nat×List C2):=pZ l w++qb l w
theorem Oa{op:C2->Bool}{d:C2}(hf:∀c,(bW op d c).isEmpty=false->eF op c=true){n:Nat}{cs:List C2}{q:Nat×List C2}(h:q∈dE op (bW op d) n cs):q.2.length<=10/\∀c∈q.2,op c=true:=by
 obtain⟨_,c,_,_,e,_⟩:=NI hf h
 rw[e]
 exact⟨aa1,λx hx=>aa0 hx⟩
theorem FR{l:List Str}{w:Nat}{q:Nat×List C2}(h:q∈dF l w):q.2.length<=10/\∀c∈q.2,c.1<l.length/\c.2<w/\cb l c=true:=by
 have z:q.2.length<=10/\∀c∈q.2,bx l w c=true:=by
  rcases du.mp h with h | h
  .exact Oa (λc=>Fp) h
  .exact Oa (λc=>Fq) h
 exact⟨z.1,λc hc=>n9 (z.2 c hc)⟩
theorem uG{l:List Str}{w:Nat}(S:bj l w):(dF l w).length<=162:=by
 unfold dF
 rw[dw]
 have h1:(pZ l w).length<=(bV l w).length:=qe _ _ _ _
 have h2:(qb l w).length<=(bV l w).length:=qe _ _ _ _
 have h3:(bV l w).length<=(cells l.length w).length:=iQ _ _
 have h4:=xG S
 omega
def RAt(H:Hp)(q:Nat×List C2)(x:V):Prop := ∃way,qd H way q x
theorem Ob{α β:Type}{R:α->β->Prop}:∀{l:List α}{m:List β}{l':List α}{m':List β},Paired R l m->Paired R l' m'->Paired R (l++l') (m++m')
 |_,_,_,_,.nil,h=>h
 |_,_,_,_,.cons h t,h' =>.cons h (Ob t h')
theorem Oc{H:Hp}{l:List Str}{w:Nat}{xs ys:List V}(h1:gc H "across" (pZ l w) xs)(h2:gc H "down" (qb l w) ys):Paired (RAt H) (dF l w) (xs++ys):=
 Ob (Paired.bM h1 λ_ _ h=>⟨_,h⟩) (Paired.bM h2 λ_ _ h=>⟨_,h⟩)
def aF(l:List Str)(cs:List C2):Str:=⟨(cs.map (sg l)).toArray⟩
theorem FT:∀xs:List Nat,Str.join ⟨#[]⟩ (xs.map λc=>(⟨#[c]⟩:Str))=⟨xs.toArray⟩
 |[]=>rfl
 |[x]=>rfl
 |x::y::r=>by
  have ih:=FT (y::r)
  show(⟨#[x]⟩++⟨#[]⟩++Str.join ⟨#[]⟩ ((y::r).map λc=>(⟨#[c]⟩:Str)):Str)=_
  rw[ih]
  apply pX
  rw[mF,mF]
  simp
theorem FU:∀xs:List Nat,(((xs.map λc=>(⟨#[c]⟩:Str)).map (·.length)).sum)=xs.length
 |[]=>rfl
 |x::r=>by
  rw[bX,bX,fT,FU r,dg,Nat.add_comm]
  rfl
theorem qj:("":Str)=⟨#[]⟩:=by decide +kernel
theorem mI{α β:Type}{f:α->β}:∀{l:List α}{ys:List β},Paired (λi y=>y=f i) l ys->ys=l.map f
 |_,_,.nil=>rfl
 |_,_,.cons h t=>by rw[bX,<-mI t,h]
theorem mJ{α β:Type}(g:α->β)(d:α)(l:List α):(List.range l.length).map (λi=>g (l.getD i d))=l.map g:=by
 apply kH
 intro i
 rw[bu,bu]
 by_cases h:i<l.length
 .rw[qJ h,bg h,ir,ir,bQ,bg h,oX]
 .rw[dy (by simpa using h),dy (by simpa using h)]
  rfl
section
variable{P:Program}{w:World}{K:PySem.W.Frag}{mg:Str->Option Value}{base:Heap}{f:Addr}{fd:FuncData}
def FV(K:PySem.W.Frag):Sp:=λvs H Q _=>∃(a t:Addr) (l:List Str) (w:Nat) (cs:List C2) (xs:List V),vs=[.ref a,.ref t]/\aq K H a (l.map V.str)/\bj l w/\H t=some (.tup xs)/\bB H cs xs/\cs.length<=100/\(∀c∈cs,c.1<l.length/\c.2<w)/\
 ∀H',af H H'->Q (.str (aF l cs)) H'
theorem aa2:bw ["sheet","cells"] ["sheet","cells"] (aW (top 26)):=⟨rfl,rfl,rfl,by decide +kernel,rfl,by decide +kernel,by decide +kernel⟩
theorem aa3(F:bq K "pattern" "pattern" (top 26) f fd)(Fx:Fn P w K mg base "sign_at" 1 (AR K)):aS P w K mg base aY 2 f fd ["sheet","cells"] (FV K):=by
 refine F.ok aa2 (λvs H Q E h=>?_) (λaL A outer s H vs Q E hr h=>?_)
 .refine hide λG_ aK=>?_
  obtain⟨a,t,l,w,cs,xs,rfl,_⟩:=h
  refine aK.k ?_
  rfl
 .refine hide λG_ aN=>?_
  obtain⟨a,t,l,wd,cs,xs,rfl,hT,S,ht,hC,hlen,br,q⟩:=h
  refine aN.k ?_
  have hlx:=hC.length
  refine⟨_,(az (aX (fq De Ky Kz Al eM (ab (i0 (js:=[0]) (ns:=["sheet"]) (zU (pv 1)) rfl rfl rfl rfl (λ_ _ _ _=>jB) (λ_ _ _ _=>(ba Fx (hr.mono (by decide)) (by rfl) (ab (pv 1) (ab (pv 0) ah))))) ah)))),?_⟩
  try dsimp only[bF]
  refine⟨rfl,_,rfl,t,rfl,⟨_,aq.of ht⟩,?_⟩
  refine comp_map Em (by omega) (λ_ i y _=>y = .str ⟨#[sg l (cs.getD i (0,0))]⟩) (λH2 s2=>aq.of (s2 _ _ ht)) (λ_ _ _ _ _ _ _ _ h=>h) ?_ ?_
  .intro D i x H2 Z hD hx s2 _ k1
   obtain⟨c,hc,b,rfl,hb⟩:=Paired.get hC hx
   have dG:=br c (bE hc)
   exact⟨_,rfl,_,rfl,a,b,l,wd,c,rfl,s2.tup hT,S,aq.of (s2 _ _ hb),dG.1,dG.2,k1 _ _ (af.cQ _) (by rw[cu hc])⟩
  .intro D ys H2 hD bA s2 pr
   have e:=mI pr
   rw[<-hlx,mJ (λc=>V.str ⟨#[sg l c]⟩)] at e
   have e1:ys=((cs.map (sg l)).map λc=>(⟨#[c]⟩:Str)).map V.str:=by rw[e,jV,jV];rfl
   rw[e1] at bA
   refine⟨_,D,(cs.map (sg l)).map λc=>(⟨#[c]⟩:Str),rfl,rfl,.inl (aj.of bA),?_,?_⟩
   .rw[FU,ax,ax,qj]
    show _+_*0<=_
    omega
   .rw[qj,FT]
    exact q H2 s2
end
structure eC(l:List Str)(w:Nat):Prop where
 one:1<=l.length
 nine:l.length<=9
 w9:w<=9
 len:∀x∈l,x.length=w
theorem bj.eI{l:List Str}{w:Nat}(S:bj l w):eC l w:=⟨S.one,S.nine,S.w9,S.len⟩
theorem eC.row{l:List Str}{w:Nat}(S:eC l w){i:Nat}(hi:i<l.length):∃x,l[i]? = some x/\x∈l/\x.length=w/\x.cps.toList.length=w/\∀j,j<w->x.cps.toList[j]? = some (sg l (i,j)):=by
 refine⟨l[i],bg hi,lN hi,S.len _ (lN hi),by rw[cC];exact S.len _ (lN hi),λj hj=>?_⟩
 have hl:j<l[i].cps.toList.length:=by rw[cC,S.len _ (lN hi)];exact hj
 unfold sg
 rw[cu (bg hi),bg hl]
 simp only[cu (bg hl)]
theorem eC.set{l:List Str}{w:Nat}(S:eC l w){c:Nat×Nat}{ch:Nat}(h1:c.1<l.length)(h2:c.2<w):eC (setC l c ch) w:=by
 obtain⟨x,hx,mx,lx,pY,hj⟩:=S.row h1
 refine⟨by rw[dC];exact S.one,by rw[dC];exact S.nine,S.w9,λy my=>?_⟩
 unfold setC at my
 rcases Kw my with z | z
 .exact S.len y z
 .rw[z,cu hx,xH (by omega),lx]
theorem eC.jK{l:List Str}{w:Nat}(S:eC l w){c:Nat×Nat}{ch:Nat}(h1:c.1<l.length)(h2:c.2<w){d:Nat×Nat}(d1:d.1<l.length)(d2:d.2<w):sg (setC l c ch) d=if d=c then ch else sg l d:=by
 obtain⟨x,hx,mx,lx,pY,hj⟩:=S.row d1
 have g:=hj d.2 d2
 by_cases e:d.1=c.1
 .have pU:(setC l c ch)[d.1]? = some (bH x c.2 ch):=by
   unfold setC
   rw[e] at hx ⊢
   rw[vQ h1,cu hx]
  have q:sg (setC l c ch) d=(bH x c.2 ch).cps.toList.getD d.2 0:=by unfold sg;rw[cu pU]
  rw[q,bQ,Fh (by omega) (by omega),g]
  by_cases e2:d.2=c.2
  .rw[aA e2,aA (Dc.mpr ⟨e,e2⟩)]
   rfl
  .rw[aw e2,aw (λz=>e2 (eD Prod.snd z))]
   rfl
 .have pU:(setC l c ch)[d.1]? = some x:=by
   unfold setC
   rw[zd (bo e)]
   exact hx
  have q:sg (setC l c ch) d=sg l d:=by unfold sg;rw[cu pU,cu hx]
  rw[q,aw (λz=>e (eD Prod.fst z))]
section
variable{P:Program}{w:World}{K:PySem.W.Frag}{mg:Str->Option Value}{base:Heap}{f:Addr}{fd:FuncData}
theorem FW{x:Str}{j:Nat}(h:j<=x.length):(Txt.slice x none (some (j:Int))).cps.toList=x.cps.toList.take j:=by
 have e:=m8.mp (PyProof.Rows.slice_closes_to (x:=x) (j:=(j:Int)) ⟨by omega,by rw[cC];omega⟩)
 rw[e]
 simp
theorem FX{x:Str}{j:Nat}(h:j+1<=x.length):(Txt.slice x (some ((j:Int)+1)) none).cps.toList=x.cps.toList.drop (j+1):=by
 have e:=PyProof.Rows.slice_from_eq (x:=x) (i:=(j:Int)+1) (b:=(x.length:Int)) (by omega) (by omega) rfl
 rw[e]
 have e1:((j:Int)+1).toNat=j+1:=by omega
 rw[e1]
 show(x.cps.toList.drop (j+1)).take _=_
 refine gu ?_
 rw[CT,cC]
 omega
def mK(K:PySem.W.Frag):Sp:=λvs H Q _=>∃(a b:Addr) (l:List Str) (w:Nat) (c:Nat×Nat) (ch:Nat),vs=[.ref a,.ref b,.str ⟨#[ch]⟩]/\aq K H a (l.map V.str)/\eC l w/\aq K H b [.int c.1,.int c.2]/\c.1<l.length/\c.2<w/\
 ∀t H',H t=none->af H H'->H' t=some (.tup ((setC l c ch).map V.str))->Q (.ref t) H'
theorem A5:bw ["sheet","cell","sign","number","column","lines"] ["sheet","cell","sign"] (aW (top 16)):=⟨rfl,rfl,rfl,by decide +kernel,rfl,by decide +kernel,by decide +kernel⟩
theorem aa4(B:Bl mg)(F:bq K "with_sign" "with_sign" (top 16) f fd):aS P w K mg base aY 1 f fd ["sheet","cell","sign"] (mK K):=by
 refine F.ok A5 (λvs H Q E h=>?_) (λaL A outer s H vs Q E hr h=>?_)
 .refine hide λG_ aK=>?_
  obtain⟨a,b,l,w,c,ch,rfl,_⟩:=h
  refine aK.k ?_
  rfl
 .refine hide λG_ aN=>?_
  obtain⟨a,b,l,wd,c,ch,rfl,hT,S,hb,h1,h2,q⟩:=h
  obtain⟨x,hx,mx,lx,pY,hj⟩:=S.row h1
  refine aN.k ?_
  have hw:=S.w9
  refine⟨_,(au (aO (i:=3) A5.nd rfl (Or.inl rfl) (aV bU (pv 1) aE (λ_ _=>rfl)))
   (au (aO (i:=4) A5.nd rfl (Or.inl rfl) (aV bU (pv 1) aE (λ_ _=>rfl)))
   (au (aO (i:=5) A5.nd rfl (Or.inl rfl) (iz rp (by rfl) B.oa nP (ab (pv 0) ah)))
   (au (qZ (aR rj (aR rj (nH ui (aV gC (pv 5) (pv 3) (λ_ _=>rfl)) lW (lX (pv 4))) (pv 2)) (nH ui (aV gC (pv 5) (pv 3) (λ_ _=>rfl)) (lX (aR eV (pv 4) aE)) lW)) (tO (pv 5) (pv 3) set_list))
   (az (aX (iz wN (by rfl) B.sf rM (ab (pv 5) ah)))))))),?_⟩
  try dsimp only[bF]
  refine⟨_,rfl,b,_,0,.int c.1,rfl,rfl,hb,rfl,_,rfl,b,_,1,.int c.2,rfl,rfl,hb,rfl,_,rfl,a,_,rfl,.inr hT,λp hp=>?_⟩
  have l1:(Txt.slice x none (some (c.2:Int))).length<=100:=bO (vZ x _ _) (by omega)
  have l2:(Txt.slice x (some ((c.2:Int)+1)) none).length<=100:=bO (vZ x _ _) (by omega)
  refine⟨_,rfl,_,rfl,p,_,_,.str x,rfl,rfl,aj.of ar,i9 hx,_,rfl,_,rfl,x,rfl,eG (by omega),_,rfl,_,_,rfl,rfl,eG (by show _+1<=_;omega),?_⟩
  refine⟨_,rfl,_,rfl,p,_,_,.str x,rfl,rfl,aj.of ar,i9 hx,_,rfl,_,_,rfl,rfl,_,rfl,x,rfl,eG (by omega),_,_,rfl,rfl,eG ?_,?_⟩
  .rw[<-cC,mF,dw,cC]
   show _+1+_<=_
   omega
  have eg:=Fi (x:=x) (j:=c.2) (ch:=ch) (FW (by omega)) (FX (by omega))
  refine⟨_,rfl,_,rfl,p,_,_,c.1,rfl,rfl,ar,uj (by rw[ax];exact h1),?_⟩
  rw[eg,KG]
  refine⟨_,rfl,p,_,rfl,.inl ⟨aj.of ar,λt ht=>?_⟩⟩
  have sm:af H (upd H p (.lst ((l.map V.str).set c.1 (.str (bH x c.2 ch))))):=af.upd hp
  refine q t _ (sm.free ht) (sm.trans (af.upd ht)) ?_
  rw[ar]
  unfold setC
  rw[cu hx,List.map_set]
end
def jL(x:Str):Bool:=x.cps.toList.all λc=>decide (c∈i6.cps.toList)
def om(x:Str)(a b:Int):Bool:=decide (a<=(x.length:Int))&&(decide ((x.length:Int)<=b)&&jL x)
theorem A6{α β:Type}{f:α->β}:∀{l:List α}{ys:List β},Paired (λi y=>y=f i) l ys->ys=l.map f
 |_,_,.nil=>rfl
 |_,_,.cons h t=>by rw[bX,<-A6 t,h]
theorem aa5{α β:Type}(g:α->β)(d:α)(l:List α):(List.range l.length).map (λi=>g (l.getD i d))=l.map g:=by
 apply kH
 intro i
 rw[bu,bu]
 by_cases h:i<l.length
 .rw[qJ h,bg h,ir,ir,bQ,bg h,oX]
 .rw[dy (by simpa using h),dy (by simpa using h)]
  rfl
section
variable{P:Program}{w:World}{K:PySem.W.Frag}{mg:Str->Option Value}{base:Heap}{f:Addr}{fd:FuncData}
def FY(K:PySem.W.Frag):Sp:=λvs H Q _=>(∃(x:Str) (a b:Int),vs=[.str x,.int a,.int b]/\x.length<=1000/\∀H',af H H'->Q (.bl (om x a b)) H')\/
 ∃(v:V) (t:Value) (a b:Int),vs=[v,.int a,.int b]/\gU K H v t/\PySem.W.kitOne K t (.type "str")=some false/\Q (.bl false) H
theorem aa6:bw ["thing","least","most"] ["thing","least","most"] (aW (top 44)):=⟨rfl,rfl,rfl,by decide +kernel,rfl,by decide +kernel,by decide +kernel⟩
theorem aa7(B:Bl mg)(FZ:Cn mg "LETTERS" (.str i6))(F:bq K "is_letters" "is_letters" (top 44) f fd):aS P w K mg base aY 1 f fd ["thing","least","most"] (FY K):=by
 refine F.ok aa6 (λvs H Q E h=>?_) (λaL A outer s H vs Q E hr h=>?_)
 .rcases h with ⟨x,a,b,rfl,_⟩ | ⟨v,t,a,b,rfl,_⟩ <;> rfl
 .refine⟨_,(au (bJ (fV (eU (bp pM (by rfl) B.mH lZ (ab (pv 0) (ab (pw (v := .ty "str") (by rfl) B.NR Mf rfl) ah)))))
   (az (aX fJ))
   bR)
   (az (aX (KU (VQ rf rf (pv 1) (bp fY (by rfl) B.cf bZ (ab (pv 0) ah)) (pv 2)) (KS (bp (Mg rfl) (by rfl) B.NS Me (ab (i0 (js:=[]) (ns:=[]) (XF (pv 0)) rfl rfl rfl rfl (λ_ _ _ _=>jB) (λ_ _ _ _=>(pG Dx (pv 0) (kW FZ (by rfl)) rfl))) ah))))))),?_⟩
  try dsimp only[bF]
  rcases h with ⟨x,a,b,rfl,hx,q⟩ | ⟨v,t,a,b,rfl,ty,hk,q⟩
  .refine⟨_,rfl,_,_,_,true,⟨rfl,.str _,XA⟩,_,rfl,aT ?_⟩
   refine⟨_,rfl,_,rfl,x,rfl,dX (by omega),_,_,rfl,rfl,_,rfl,?_⟩
   by_cases h2:a<=(x.length:Int)
   .rw[aG h2]
    refine bG ⟨_,rfl,_,_,rfl,rfl,_,rfl,?_⟩
    by_cases h3:(x.length:Int)<=b
    .rw[aG h3]
     refine bG ?_
     refine⟨_,rfl,x,rfl,comp_map XG (by rw[ax,lI];show x.length<=10000;omega) (λ_ i y _=>y = .bl (decide (x.cps.toList.getD i 0∈i6.cps.toList))) (λ_ _=>trivial) (λ_ _ _ _ _ _ _ _ h=>h) ?_ ?_⟩
     .intro D i z H2 Z _ hz _ _ k1
      rw[bu] at hz
      cases e:x.cps.toList[i]? with
      |none=>rw[e] at hz;cases hz
      |some c=>
       rw[e] at hz
       cases hz
       refine⟨_,rfl,_,_,rfl,rfl,k1 _ _ (af.cQ _) ?_⟩
       rw[Df,bQ,e]
       all_goals rfl
     .intro D ys H2 hD bA sm pr
      have e:=A6 pr
      rw[ax,aa5 (λc=>V.bl (decide (c∈i6.cps.toList)))] at e
      refine⟨D,x.cps.toList.map λc=>decide (c∈i6.cps.toList),rfl,aj.of (by rw[bA,e,jV];rfl),?_⟩
      have e2:((x.cps.toList.map λc=>decide (c∈i6.cps.toList)).all id)=om x a b:=by
       unfold om jL
       rw[tE,aG h2,aG h3]
       rfl
      rw[e2]
      exact q H2 sm
    .rw[aH h3]
     refine aT ?_
     have e:om x a b=false:=by
      unfold om
      rw[aH h3,iq,ni]
     rw[<-e]
     exact q H (af.cQ _)
   .rw[aH h2]
    refine aT ⟨_,rfl,aT ?_⟩
    have e:om x a b=false:=by
     unfold om
     rw[aH h2,iq]
    rw[<-e]
    exact q H (af.cQ _)
  .exact⟨_,rfl,_,_,_,false,⟨rfl,ty,hk⟩,_,rfl,bG q⟩
end
def dJ(x:Str):Bool:=decide (2<=x.length)&&(decide (x.length<=9)&&jL x)
theorem xX{x:Str}(h:dJ x=true):2<=x.length/\x.length<=9:=by
 unfold dJ at h
 simp only[dZ,Kf] at h
 exact⟨h.1,h.2.1⟩
theorem A7{α β:Type}{f:α->β}:∀{l:List α}{ys:List β},Paired (λi y=>y=f i) l ys->ys=l.map f
 |_,_,.nil=>rfl
 |_,_,.cons h t=>by rw[bX,<-A7 t,h]
theorem aa8{α β:Type}(g:α->β)(d:α)(l:List α):(List.range l.length).map (λi=>g (l.getD i d))=l.map g:=by
 apply kH
 intro i
 rw[bu,bu]
 by_cases h:i<l.length
 .rw[qJ h,bg h,ir,ir,bQ,bg h,oX]
 .rw[dy (by simpa using h),dy (by simpa using h)]
  rfl
theorem aa9{n:Nat}(h:n<=10000):n<=sizeLine:=bO h (by decide)
theorem A8{n:Nat}(h:n<=10000):n<sizeLine:=kF h (by decide)
def uH(d:Addr):List (Str×V):=aU "worths" (.ref d) []
theorem uI(d:Addr):(uH d).lookup ("worths":Str)=some (.ref d):=by
 unfold uH
 rw[cO,aA rfl]
theorem uJ(d:Addr){m:Str}(h:¬m="worths"):(uH d).lookup m=none:=by
 unfold uH
 rw[cO,aw h]
 rfl
structure iJ(C:Addr)(H:Hp)(p d:Addr)(kvs:List (Key×V)):Prop where
 ob:∃dx,H p=some (.ins C dx (uH d))
 dc:H d=some (.dK kvs)
 nd:(kvs.map (·.1)).Nodup
 tx:mh kvs
theorem iJ.mono{C p d:Addr}{H H':Hp}{kvs:List (Key×V)}(s:af H H')(h:iJ C H p d kvs):iJ C H' p d kvs:=let ⟨⟨dx,e⟩,b,c,t⟩:=h;⟨⟨dx,s _ _ e⟩,s _ _ b,c,t⟩
theorem aba{kvs:List (Key×V)}(h:mh kvs)(x:Str)(v:V)(e:aQ kvs (Sum.inr x:Key)=none):mh (putK kvs (Sum.inr x) v):=by
 rw[tZ v e]
 intro q m
 rcases du.mp m with z | z
 .exact h q z
 .rw[cI.mp z];exact⟨x,rfl⟩
section
variable{P:Program}{w:World}{K:PySem.W.Frag}{mg:Str->Option Value}{base:Heap}{f:Addr}{fd:FuncData}
def Ga:Sp:=λvs H Q _=>∃(x:Str),vs=[.str x]/\x.length<=1000/\∀H',af H H'->Q (.bl (dJ x)) H'
theorem abb(x:Str):om x 2 9=dJ x:=by
 unfold om dJ
 have e1:decide ((2:Int)<=(x.length:Int))=decide (2<=x.length):=by
  by_cases h:2<=x.length
  .rw[aG h,aG (by omega)]
  .rw[aH h,aH (by omega)]
 have e2:decide ((x.length:Int)<=(9:Int))=decide (x.length<=9):=by
  by_cases h:x.length<=9
  .rw[aG h,aG (by omega)]
  .rw[aH h,aH (by omega)]
 rw[e1,e2]
theorem abc:bw ["thing"] ["thing"] (aW (top 50)):=⟨rfl,rfl,rfl,by decide +kernel,rfl,by decide +kernel,by decide +kernel⟩
theorem abd(Gb:Cn mg "LEAST_LETTERS" (.int 2))(Ge:Cn mg "MOST_LETTERS" (.int 9))(F:bq K "is_word" "is_word" (top 50) f fd)(abe:Fn P w K mg base "is_letters" 1 (FY K)):aS P w K mg base aY 2 f fd ["thing"] Ga:=by
 refine F.ok abc (λvs H Q E h=>?_) (λaL A outer s H vs Q E hr h=>?_)
 .obtain⟨x,rfl,_⟩:=h
  rfl
 .obtain⟨x,rfl,hx,q⟩:=h
  refine⟨_,(az (aX (ba abe (hr.mono (by decide)) (by rfl) (ab (pv 0) (ab (kW Gb (by rfl)) (ab (kW Ge (by rfl)) ah)))))),?_⟩
  try dsimp only[bF]
  refine⟨_,rfl,.inl ⟨x,2,9,rfl,hx,λH1 s1=>?_⟩⟩
  rw[abb]
  exact q H1 s1
def A9:Sp:=λvs H Q _=>∃(x:Str),vs=[.str x]/\dJ x=true/\∀H',af H H'->Q .aD H'
theorem abf:bw ["thing"] ["thing"] (aW (top 49)):=⟨rfl,rfl,rfl,by decide +kernel,rfl,by decide +kernel,by decide +kernel⟩
theorem abg(F:bq K "need_word" "need_word" (top 49) f fd)(abh:Fn P w K mg base "is_word" 2 Ga):aS P w K mg base aY 3 f fd ["thing"] A9:=by
 refine F.ok abf (λvs H Q E h=>?_) (λaL A outer s H vs Q E hr h=>?_)
 .obtain⟨x,rfl,_⟩:=h
  rfl
 .obtain⟨x,rfl,hw,q⟩:=h
  have hl:=xX hw
  refine⟨_,(az (bJ (fV (eU (ba abh (hr.mono (by decide)) (by rfl) (ab (pv 0) ah))))
   (az wB)
   bR)),?_⟩
  try dsimp only[bF]
  refine⟨_,rfl,x,rfl,by omega,λH1 s1=>⟨_,rfl,?_⟩⟩
  rw[hw]
  exact aT (q H1 s1)
def Gf(C:Addr):Sp:=λvs H Q _=>∃(p dx:Addr),vs=[.ref p]/\H p=some (.ins C dx [])/\∀(d:Addr) (H':Hp),H d=none->iJ C H' p d []->(∀b o,H b=some o->b≠p->H' b=some o)->Q .aD H'
theorem abi:bw ["self"] ["self"] (aW (inClass (top 48) 0)):=⟨rfl,rfl,rfl,by decide +kernel,rfl,by decide +kernel,by decide +kernel⟩
theorem abj{C:Addr}(F:bq K "__init__" "Book.__init__" (inClass (top 48) 0) f fd)(T:cH K C)(nw:cz K C "worths"):aS P w K mg base aY 1 f fd ["self"] (Gf C):=by
 refine F.ok abi (λvs H Q E h=>?_) (λaL A outer s H vs Q E hr h=>?_)
 .obtain⟨p,dx,rfl,_⟩:=h
  rfl
 .obtain⟨p,dx,rfl,hp,q⟩:=h
  refine⟨_,(az (kL (pv 0) DX rfl)),?_⟩
  try dsimp only[bF]
  intro d hd
  have uD:p≠d:=aZ hp hd
  refine⟨_,rfl,p,C,dx,[],rfl,(by rw[ak uD];exact hp),T,nw,(by show 0<1000;decide),?_⟩
  refine q d _ hd ⟨⟨dx,ar⟩,by rw[ak uD.symm,ar],jm,λq m=>absurd m gr⟩ λb o e hb=>?_
  rw[ak hb,ak (aZ e hd)]
  exact e
def Gg(C:Addr):Sp:=λvs H Q _=>∃(p d:Addr) (kvs:List (Key×V)) (x:Str) (v:V),vs=[.ref p,.str x]/\iJ C H p d kvs/\dJ x=true/\aQ kvs (Sum.inr x:Key)=some v/\∀H',af H H'->Q .aD H'
theorem abk:bw ["self","word"] ["self","word"] (aW (inClass (top 48) 8)):=⟨rfl,rfl,rfl,by decide +kernel,rfl,by decide +kernel,by decide +kernel⟩
theorem abl{C:Addr}(F:bq K "need_there" "Book.need_there" (inClass (top 48) 8) f fd)(T:cH K C)(nw:cz K C "worths")(Gh:Fn P w K mg base "need_word" 3 A9):aS P w K mg base aY 4 f fd ["self","word"] (Gg C):=by
 refine F.ok abk (λvs H Q E h=>?_) (λaL A outer s H vs Q E hr h=>?_)
 .refine hide λG_ aK=>?_
  obtain⟨p,d,kvs,x,v,rfl,_⟩:=h
  refine aK.k ?_
  rfl
 .refine hide λG_ aN=>?_
  obtain⟨p,d,kvs,x,v,rfl,S,hw,hv,q⟩:=h
  refine aN.k ?_
  have dP:=kT hr
  refine⟨_,(au (fg (ba Gh (hr.mono (by decide)) (by rfl) (ab (pv 1) ah)))
   (az (bJ (zQ (LU dP (pv 1) (cK (pv 0) rfl)))
   (az wB)
   bR))),?_⟩
  try dsimp only[bF]
  refine⟨_,rfl,x,rfl,hw,λH1 s1=>?_⟩
  obtain⟨⟨dx,h1⟩,hd,_⟩:=S.mono s1
  refine⟨_,rfl,_,rfl,p,C,dx,_,_,rfl,h1,T,nw,uI _,d,_,rfl,eA.k (k:=Sum.inr x) hd,_,rfl,?_⟩
  rw[hv]
  exact aT (q H1 s1)
def Ba(C:Addr):Sp:=λvs H Q _=>∃(p d:Addr) (kvs:List (Key×V)) (x:Str) (v:V),vs=[.ref p,.str x,v]/\iJ C H p d kvs/\dJ x=true/\aQ kvs (Sum.inr x:Key)=none/\kvs.length<=1000/\
 ∀H',iJ C H' p d (putK kvs (Sum.inr x) v)->(∀b o,b≠d->H b=some o->H' b=some o)->Q .aD H'
theorem abm:bw ["self","word","worth"] ["self","word","worth"] (aW (inClass (top 48) 1)):=⟨rfl,rfl,rfl,by decide +kernel,rfl,by decide +kernel,by decide +kernel⟩
theorem Od{C:Addr}{dv:Value}(F:pO K "put" "Book.put" (inClass (top 48) 1) f fd dv)(T:cH K C)(nw:cz K C "worths")(Gh:Fn P w K mg base "need_word" 3 A9):aS P w K mg base aY 4 f fd ["self","word","worth"] (Ba C):=by
 refine F.ok abm (λvs H Q E h=>?_) (λaL A outer s H vs Q E hr h=>?_)
 .refine hide λG_ aK=>?_
  obtain⟨p,d,kvs,x,v,rfl,_⟩:=h
  refine aK.k ?_
  rfl
 .refine hide λG_ aN=>?_
  obtain⟨p,d,kvs,x,v,rfl,S,hw,hv,hl,q⟩:=h
  refine aN.k ?_
  have dP:=kT hr
  refine⟨_,(au (fg (ba Gh (hr.mono (by decide)) (by rfl) (ab (pv 1) ah)))
   (au (bJ (zQ (LR dP (pv 1) (cK (pv 0) rfl)))
   (az wB)
   bR)
   (az (Ac dP (cK (pv 0) rfl) (pv 1) (pv 2) rfl)))),?_⟩
  try dsimp only[bF]
  refine⟨_,rfl,x,rfl,hw,λH1 s1=>?_⟩
  obtain⟨⟨dx,h1⟩,hd,nd,tx⟩:=S.mono s1
  refine⟨_,rfl,_,rfl,p,C,dx,_,_,rfl,h1,T,nw,uI _,d,_,rfl,eA.k (k:=Sum.inr x) hd,_,rfl,?_⟩
  rw[hv]
  have uD:p≠d:=bY h1 hd (by intro z;cases z)
  refine aT ⟨_,rfl,_,rfl,p,C,dx,_,_,rfl,h1,T,nw,uI _,_,rfl,d,_,rfl,lY.k (k:=Sum.inr x) hd (Xl (by omega)),?_⟩
  refine q _ ⟨⟨dx,by rw[ak uD];exact h1⟩,ar,Xm v nd hv,aba tx x v hv⟩ λb o hb e=>?_
  rw[ak hb]
  exact s1 _ _ e
def Bb(C:Addr):Sp:=λvs H Q _=>∃(p d:Addr) (kvs:List (Key×V)) (x:Str) (v:V),vs=[.ref p,.str x]/\iJ C H p d kvs/\dJ x=true/\aQ kvs (Sum.inr x:Key)=some v/\∀H',af H H'->Q v H'
theorem abn:bw ["self","word"] ["self","word"] (aW (inClass (top 48) 4)):=⟨rfl,rfl,rfl,by decide +kernel,rfl,by decide +kernel,by decide +kernel⟩
theorem abo{C:Addr}(F:bq K "worth" "Book.worth" (inClass (top 48) 4) f fd)(T:cH K C)(nw:cz K C "worths")(Gi:Mt P w K mg base C "need_there" 4 (Gg C) []):aS P w K mg base aY 5 f fd ["self","word"] (Bb C):=by
 refine F.ok abn (λvs H Q E h=>?_) (λaL A outer s H vs Q E hr h=>?_)
 .refine hide λG_ aK=>?_
  obtain⟨p,d,kvs,x,v,rfl,_⟩:=h
  refine aK.k ?_
  rfl
 .refine hide λG_ aN=>?_
  obtain⟨p,d,kvs,x,v,rfl,S,hw,hv,q⟩:=h
  have dP:=kT hr
  obtain⟨⟨xY,M5⟩,_⟩:=id S
  refine aN.k ?_
  refine⟨_,(au (fg (rP Gi (hr.mono (by decide)) (pv 0) (ab (pv 1) ah)))
   (az (aX (DW dP (cK (pv 0) rfl) (pv 1) (λ_ _=>rfl))))),?_⟩
  try dsimp only[bF]
  refine⟨_,rfl,p,xY,_,rfl,M5,uJ _ (by decide +kernel),_,rfl,p,d,kvs,x,v,rfl,S,hw,hv,λH1 s1=>?_⟩
  obtain⟨⟨dx,h1⟩,hd,nd,tx⟩:=S.mono s1
  exact⟨_,rfl,p,C,dx,_,_,rfl,h1,T,nw,uI _,_,rfl,d,v,rfl,hv ▸ eA.k (k:=Sum.inr x) hd,q H1 s1⟩
def Gj(C:Addr):Sp:=λvs H Q _=>∃(p d:Addr) (kvs:List (Key×V)),vs=[.ref p]/\iJ C H p d kvs/\kvs.length<64/\∀l H',H l=none->af H H'->H' l=some (.lst ((cx (bb kvs)).map V.str))->Q (.ref l) H'
theorem abp:bw ["self"] ["self"] (aW (inClass (top 48) 3)):=⟨rfl,rfl,rfl,by decide +kernel,rfl,by decide +kernel,by decide +kernel⟩
theorem abq{C:Addr}(B:Bl mg)(F:bq K "words" "Book.words" (inClass (top 48) 3) f fd)(T:cH K C)(nw:cz K C "worths"):aS P w K mg base aY 1 f fd ["self"] (Gj C):=by
 refine F.ok abp (λvs H Q E h=>?_) (λaL A outer s H vs Q E hr h=>?_)
 .obtain⟨p,d,kvs,rfl,_⟩:=h
  rfl
 .refine hide λG_ aK=>?_
  obtain⟨p,d,kvs,rfl,S,hl,q⟩:=h
  obtain⟨⟨dx,h1⟩,hd,nd,tx⟩:=id S
  refine aK.k ?_
  refine⟨_,(az (aX (bp (Yr rfl) (by rfl) B.xM w6 (ab (cK (pv 0) rfl) ah)))),?_⟩
  try dsimp only[bF]
  exact⟨_,rfl,p,C,dx,_,_,rfl,h1,T,nw,uI _,d,kvs,rfl,hd,tx,hl,λl xZ=>q l _ xZ (af.upd xZ) ar⟩
end
def lr(c d:Nat):Bool:=decide (d=46)||decide (d=c)
def da(x p:Str):Bool:=decide (x.length=p.length)&&(List.range x.length).all λi=>lr (x.cps.toList.getD i 0) (p.cps.toList.getD i 0)
theorem sr(n m:Nat):decide (V.str ⟨#[n]⟩=V.str ⟨#[m]⟩)=decide (n=m):=by
 by_cases h:n=m
 .rw[h,aG rfl,aG rfl]
 .rw[aH h,aH]
  intro z
  injection z with z
  injection z with z
  have z:[n]=[m]:=by simpa using eD Array.toList z
  exact h (List.cons.inj z).1
theorem Oe:(".":Str)=⟨#[46]⟩:=by decide +kernel
theorem Bc{α:Type}{l:List α}{i:Nat}{x d:α}(h:l[i]? = some x):l.getD i d=x:=by rw[bQ,h];rfl
theorem Gm{α β:Type}(h:α->β)(d:α)(l:List α)(g:α->Bool):((List.range l.length).filter λi=>g (l.getD i d)).map (λi=>h (l.getD i d))=(l.filter g).map h:=by
 have e:((List.range l.length).map λi=>l.getD i d)=l:=by
  have:=aa8 (λx:α=>x) d l
  rw[this,List.map_id']
 conv=>rhs;rw[<-e]
 rw[zu,jV]
 rfl
theorem abr{kvs:List (Key×V)}(h:mh kvs){i:Nat}{v:V}(e:(kvs.map λq=>kV q.1)[i]? = some v):∃x,v = .str x/\(bb kvs)[i]? = some x:=by
 rw[bu] at e
 cases q:kvs[i]? with
 |none=>rw[q] at e;cases e
 |some y=>
  rw[q] at e
  obtain⟨x,hx⟩:=h y (bE q)
  have e:kV y.1=v:=dm e
  rw[hx] at e
  refine⟨x,e.symm,?_⟩
  unfold bb
  rw[bu,q,ir,hx]
section
variable{P:Program}{w:World}{K:PySem.W.Frag}{mg:Str->Option Value}{base:Heap}{f:Addr}{fd:FuncData}
theorem abt{i:Nat}{g:Nat->Bool}:(List.range (i+1)).all g=((List.range i).all g&&g i):=by rw[lK,List.all_append,zh,List.all_nil,vY]
def eQ(p:Str)(n:Nat)(x:Str):Bool:=decide (x.length=p.length)&&(List.range n).all λi=>lr (x.cps.toList.getD i 0) (p.cps.toList.getD i 0)
theorem abu(x p:Str):eQ p p.cps.size x=da x p:=by
 unfold eQ da
 by_cases h:x.length=p.length
 .rw[aG h,h]
  rfl
 .rw[aH h,iq,iq]
theorem Of(x p:Str)(n:Nat):eQ p (n+1) x=(eQ p n x&&lr (x.cps.toList.getD n 0) (p.cps.toList.getD n 0)):=by
 unfold eQ
 rw[abt,Bool.and_assoc]
def Gn:Sp:=λvs H Q _=>∃(d:Addr) (kvs:List (Key×V)) (pt:Str),vs=[.ref d,.str pt]/\H d=some (.dK kvs)/\mh kvs/\kvs.length<=1000/\pt.length<=1000/\(∀x∈bb kvs,x.length<=1000)/\
 ∀l H',H l=none->af H H'->H' l=some (.lst (((bb kvs).filter λx=>da x pt).map V.str))->Q (.ref l) H'
theorem Gp(x p:Str):decide (V.int (x.length:Int)=V.int (p.length:Int))=decide (x.length=p.length):=by
 by_cases h:x.length=p.length
 .rw[h,aG rfl,aG rfl]
 .rw[aH h,aH]
  intro z
  injection z with z
  omega
theorem uK:bw ["words","pattern","length","fits","at","sign"] ["words","pattern"] (aW (top 51)):=⟨rfl,rfl,rfl,by decide +kernel,rfl,by decide +kernel,by decide +kernel⟩
theorem abv(B:Bl mg)(F:bq K "words_fitting" "words_fitting" (top 51) f fd)(oo:Cn mg "FREE" (.str ".")):aS P w K mg base aY 1 f fd ["words","pattern"] Gn:=by
 refine F.ok uK (λvs H Q E h=>?_) (λaL A outer s H vs Q E hr h=>?_)
 .obtain⟨d,kvs,pt,rfl,_⟩:=h
  rfl
 .refine hide λG_ aK=>?_
  obtain⟨d,kvs,pt,rfl,hd,tx,hl,hpt,hk,q⟩:=h
  refine aK.k ?_
  have i4:(bb kvs).length=kvs.length:=by unfold bb;rw[ax]
  refine⟨_,(au (aO (i:=2) uK.nd rfl (Or.inr rfl) (bp fY (by rfl) B.cf bZ (ab (pv 1) ah)))
   (au (Yy (uf (i:=3) uK.nd rfl (Or.inl rfl) (js:=[2]) (ns:=["length"]) (Yv (pv 0)) rfl rfl rfl rfl (λ_ _ _ _=>(nM (bT j3 (bp fY (by rfl) B.cf bZ (ab (pv 0) ah)) (pv 1) (cq _)))) (λ_ _ _ _=>(pv 0))))
   (au (cM cL rfl (YC (by rfl) B.xN (ab (pv 1) ah)) (j1 rfl (d7 (bK (i:=4) uK.nd rfl (Or.inr rfl)) (d7 (bK (i:=5) uK.nd rfl (Or.inr rfl)) j0)))
   (az (bJ (bT iY (pv 5) (kW oo (by rfl)) (cq _))
    (az (uf (i:=3) uK.nd rfl (Or.inl rfl) (js:=[5,4]) (ns:=["sign","at"]) (dQ (pv 3)) rfl rfl rfl rfl (λ_ _ _ _=>(nM (bT j3 (aV gW (pv 0) (pv 2) (λ_ _=>rfl)) (pv 1) (cq _)))) (λ_ _ _ _=>(pv 0))))
    bR)))
   (az (aX (pv 3)))))),?_⟩
  try dsimp only[bF]
  refine⟨_,rfl,pt,rfl,dX (by omega),?_⟩
  refine⟨d,kvs,hd,λob=>?_⟩
  refine⟨_,rfl,d,ob,kvs,rfl,ar,?_⟩
  refine ma Yw (by rw[ax];omega) (λi=>eQ pt 0 ((bb kvs).getD i ⟨#[]⟩)) (λ_ i y _=>y = .str ((bb kvs).getD i ⟨#[]⟩)) (λH2 s2=>s2 _ _ ar) (λ_ _ _ _ _ _ _ _ h=>h) ?_ ?_
  .intro D i v H2 Z0 Z hD hv s2 _ k0 k1
   obtain⟨x,rfl,hx⟩:=abr tx hv
   have gh:=hk x (bE hx)
   rw[Bc hx] at k0 k1
   have e0:eQ pt 0 x=decide (x.length=pt.length):=by unfold eQ;rw[List.range_zero,List.all_nil,vY]
   refine⟨_,rfl,x,rfl,dX (by omega),_,rfl,rfl,_,rfl,?_⟩
   rw[Gp,<-e0]
   refine fw (λh=>?_) (λh=>?_)
   .exact⟨_,rfl,k1 _ _ (af.cQ _) h rfl⟩
   .exact k0 _ (af.cQ _) (gR.mpr h)
  .intro D ys H2 hD bA s2 pr
   have e:=A7 pr
   rw[ax,<-i4,Gm V.str ⟨#[]⟩ (bb kvs) λx=>eQ pt 0 x] at e
   have hd2:H2 d=some (.d6 ob (.dK kvs)):=s2 _ _ ar
   have Oh:D≠d:=λz=>by rw[z,ar] at hD;cases hD
   have xT:H D=none:=by rw[ak Oh] at hD;exact hD
   refine⟨hd2,?_⟩
   have sm:af H (upd H2 d (.dK kvs)):=λb o hb=>by
    by_cases z:b=d
    .subst z
     rw[hd] at hb
     rw[ar,hb]
    .rw[ak z]
     exact s2 _ _ (by rw[ak z];exact hb)
   have Oi:upd H2 d (.dK kvs) D=some (.lst (((bb kvs).filter λx=>eQ pt 0 x).map V.str)):=by rw[ak Oh,bA,e]
   generalize upd H2 d (.dK kvs)=H3 at sm Oi
   refine⟨_,rfl,pt,rfl,?_⟩
   refine YD (λi σ H4=>∃p v4 v5,σ=[some (.ref d),some (.str pt),some (.int pt.length),some (.ref p),v4,v5]/\H p=none/\af H H4/\H4 p=some (.lst (((bb kvs).filter λx=>eQ pt i x).map V.str))) ⟨D,none,none,rfl,xT,sm,Oi⟩ ?_ ?_
   .intro i c t σ H4 hc q8_ ht
    refine hide λG_ aN=>?_
    obtain⟨p,v4,v5,rfl,fc,dS,hp⟩:=q8_
    refine aN.k ?_
    have st:af H4 (upd H4 t (.tup [.int i,.str ⟨#[c]⟩])):=af.upd ht
    have hi:i<pt.length:=by rw[<-cC];exact(cn.mp hc).1
    have gp:pt.cps.toList.getD i 0=c:=Bc hc
    refine⟨t,_,rfl,aq.of ar,rfl,_,_,rfl,_,_,rfl,rfl,?_⟩
    generalize upd H4 t (.tup [.int i,.str ⟨#[c]⟩])=H5 at st
    have sy:=st _ _ hp
    refine⟨_,rfl,rfl,_,rfl,?_⟩
    rw[Oe,sr]
    by_cases dr:c=46
    .rw[aG dr]
     refine aT ⟨p,_,_,rfl,fc,dS.trans st,?_⟩
     have ef:(λx=>eQ pt (i+1) x)=λx=>eQ pt i x:=by
      funext x
      rw[Of,gp]
      unfold lr
      rw[aG dr,Bool.true_or,vY]
     rw[ef]
     exact sy
    .rw[aH dr]
     refine bG ⟨_,rfl,p,rfl,⟨_,aj.of sy⟩,?_⟩
     have eE:((bb kvs).filter λx=>eQ pt i x).length<=1000:=bO (iQ _ _) (by omega)
     refine ma jC (by rw[ax];omega) (λj=>decide ((((bb kvs).filter λx=>eQ pt i x).getD j ⟨#[]⟩).cps.toList.getD i 0=c)) (λ_ j y _=>y = .str (((bb kvs).filter λx=>eQ pt i x).getD j ⟨#[]⟩)) (λH6 s6=>aj.of (s6 _ _ sy)) (λ_ _ _ _ _ _ _ _ h=>h) ?_ ?_
     .intro D2 j v H6 Z0 Z jM hv s6 _ k0 k1
      rw[bu] at hv
      cases e:((bb kvs).filter λx=>eQ pt i x)[j]? with
      |none=>rw[e] at hv;cases hv
      |some x=>
       rw[e] at hv
       cases hv
       rw[Bc e] at k0 k1
       have mx:=cR.mp (bE e)
       have gh:x.length=pt.length:=by
        have:=mx.2
        unfold eQ at this
        rw[dZ] at this
        exact ff this.1
       have Gq:x.cps.toList[i]? = some (x.cps.toList.getD i 0):=by
        rw[bQ,bg (by rw[cC];omega)]
        rfl
       refine⟨_,rfl,_,rfl,x,_,_,rfl,rfl,dX (by omega),dH Gq,_,rfl,rfl,_,rfl,?_⟩
       rw[sr]
       refine fw (λh=>?_) (λh=>?_)
       .exact⟨_,rfl,k1 _ _ (af.cQ _) h rfl⟩
       .exact k0 _ (af.cQ _) (gR.mpr h)
     .intro D2 zs H6 jM kf s6 oq
      have e2:=A7 oq
      rw[ax,Gm V.str ⟨#[]⟩ ((bb kvs).filter λx=>eQ pt i x) λx=>decide (x.cps.toList.getD i 0=c)] at e2
      refine⟨D2,_,_,rfl,(dS.trans st).free jM,dS.trans (st.trans s6),?_⟩
      rw[kf,e2,List.filter_filter]
      have ef:(λx:Str=>decide (x.cps.toList.getD i 0=c)&&eQ pt i x)=λx=>eQ pt (i+1) x:=by
       funext x
       rw[Of,gp,Bool.and_comm]
       unfold lr
       rw[aH dr,Bool.false_or]
       congr 1
       by_cases h:x.cps.toList.getD i 0=c
       .rw[aG h,aG h.symm]
       .rw[aH h,aH (bo h)]
      rw[ef]
   .intro σ H4 q9_
    refine hide λG_ bt=>?_
    obtain⟨p,v4,v5,rfl,fc,dS,hp⟩:=q9_
    refine bt.k ?_
    refine⟨_,rfl,q p H4 fc dS ?_⟩
    have ef:(λx=>eQ pt pt.cps.size x)=λx=>da x pt:=by funext x;exact abu x pt
    rw[ef] at hp
    exact hp
def Gr(C:Addr):Sp:=λvs H Q _=>∃(p d:Addr) (kvs:List (Key×V)) (pt:Str),vs=[.ref p,.str pt]/\iJ C H p d kvs/\kvs.length<64/\pt.length<=1000/\(∀x∈bb kvs,x.length<=1000)/\
 ∀l H',H l=none->af H H'->H' l=some (.lst ((cx ((bb kvs).filter λx=>da x pt)).map V.str))->Q (.ref l) H'
theorem abw:bw ["self","pattern"] ["self","pattern"] (aW (inClass (top 48) 5)):=⟨rfl,rfl,rfl,by decide +kernel,rfl,by decide +kernel,by decide +kernel⟩
theorem abx{C:Addr}(B:Bl mg)(F:bq K "fitting" "Book.fitting" (inClass (top 48) 5) f fd)(T:cH K C)(nw:cz K C "worths")(aby:Fn P w K mg base "words_fitting" 1 Gn):aS P w K mg base aY 2 f fd ["self","pattern"] (Gr C):=by
 refine F.ok abw (λvs H Q E h=>?_) (λaL A outer s H vs Q E hr h=>?_)
 .refine hide λG_ aK=>?_
  obtain⟨p,d,kvs,pt,rfl,_⟩:=h
  refine aK.k ?_
  rfl
 .refine hide λG_ aN=>?_
  obtain⟨p,d,kvs,pt,rfl,S,hl,hpt,hk,q⟩:=h
  obtain⟨⟨dx,h1⟩,hd,nd,tx⟩:=id S
  refine aN.k ?_
  have i4:(bb kvs).length=kvs.length:=by unfold bb;rw[ax]
  refine⟨_,(az (aX (bp Ey (by rfl) B.xM w6 (ab (ba aby (hr.mono (by decide)) (by rfl) (ab (cK (pv 0) rfl) (ab (pv 1) ah))) ah)))),?_⟩
  try dsimp only[bF]
  refine⟨_,rfl,p,C,dx,_,_,rfl,h1,T,nw,uI _,_,rfl,d,kvs,pt,rfl,hd,tx,by omega,hpt,hk,λg H1 hg s1 hL=>?_⟩
  exact⟨g,_,rfl,aj.of hL,kF (iQ _ _) (by omega),λl xZ=>q l _ (s1.free xZ) (s1.trans (af.upd xZ)) ar⟩
end
def runC(op:C2->Bool)(d c:C2):List C2:=if hV op d c=true then [] else line c d (runN op d 10 c)
theorem abz(op:C2->Bool)(d c:C2):bW op d c=if (runC op d c).length<2 then [] else runC op d c:=by
 unfold bW runC
 split
 .rfl
 .rw[sd]
def cE(k:Nat):C2:=(k,1 - k)
def jc(l:List Str)(w k n:Nat):List (List C2):=(((cells l.length w).take n).map (bW (bx l w) (cE k))).filter (λr=>!r.isEmpty)
theorem abA{l:List Str}{w k i j:Nat}(hi:i<l.length)(hj:j<w):jc l w k (i*w+(j+1))=jc l w k (i*w+j)++if (bW (bx l w) (cE k) (i,j)).isEmpty=true then [] else [bW (bx l w) (cE k) (i,j)]:=by
 unfold jc
 rw[show i*w+(j+1)=i*w+j+1 from rfl,ND hi hj,eK,jS,bX,vW,d5,oY]
 cases(bW (bx l w) (cE k) (i,j)).isEmpty <;> rfl
def lu(l:List Str)(w k:Nat):List (List C2):=jc l w k (l.length*w)
def aI(l:List Str)(w:Nat):List (List C2):=lu l w 0++lu l w 1
theorem Bd(op:C2->Bool)(f:C2->List C2):∀(n:Nat) (cs:List C2),(dE op f n cs).map (·.2)=(cs.map f).filter λr=>!r.isEmpty
 |n,[]=>rfl
 |n,c::r=>by
  unfold dE
  rw[bX,d5]
  cases h:(f c).isEmpty with
  |true=>
   rw[aA rfl,Bd op f _ r]
   rfl
  |false=>
   rw[aw cj,bX,Bd op f _ r]
   rfl
theorem abB{op:C2->Bool}{d c:C2}(h:op c=false):bW op d c=[]:=by
 unfold bW
 have:runN op d 10 c=0:=by
  unfold runN
  rw[h,aw cj]
 rw[this]
 split
 .rfl
 .rw[aA (by decide)]
theorem Oj{l:List Str}{w:Nat}(d:C2):((bV l w).map (bW (bx l w) d)).filter (λr=>!r.isEmpty)=((cells l.length w).map (bW (bx l w) d)).filter (λr=>!r.isEmpty):=by
 unfold bV
 have:∀cs:List C2,(∀c∈cs,c.1<l.length/\c.2<w)->((cs.filter (cb l)).map (bW (bx l w) d)).filter (λr=>!r.isEmpty)=(cs.map (bW (bx l w) d)).filter (λr=>!r.isEmpty):=by
  intro cs
  induction cs with
  |nil=>intro _;rfl
  |cons c r ih=>
   intro h
   have hc:=h c bL
   have ih:=ih λx m=>h x (cg _ m)
   rw[d5,bX,d5]
   cases ho:cb l c with
   |true=>
    rw[aA rfl,bX,d5,ih]
   |false=>
    rw[aw cj,ih,abB (by rw[se hc.1 hc.2];exact ho)]
    rfl
 exact this _ λc m=>uy m
theorem sD(l:List Str)(w:Nat):aI l w=(dF l w).map (·.2):=by
 unfold aI lu jc dF pZ qb
 rw[eK,Bd,Bd,Oj,Oj,gu (by rw[n6];exact aP _)]
 rfl
def Be(g:Addr)(H:Hp)(r:List C2)(x:V):Prop := ∃p ys,x = .ref p/\p≠g/\H p=some (.lst ys)/\bB H r ys
theorem Be.mono{g:Addr}{H H':Hp}{r:List C2}{x:V}(s:af H H')(h:Be g H r x):Be g H' r x:=let ⟨p,ys,e,n,a,b⟩:=h;⟨p,ys,e,n,s _ _ a,b.mono s⟩
abbrev gi(g:Addr)(H:Hp):List (List C2)->List V->Prop:=Paired (Be g H)
theorem gi.mono{g:Addr}{H H':Hp}{rs:List (List C2)}{xs:List V}(s:af H H')(h:gi g H rs xs):gi g H' rs xs:=Paired.bM h λ_ _ q=>q.mono s
theorem gi.off{g:Addr}{H H':Hp}{rs:List (List C2)}{xs:List V}(hg:∃o,H g=some (.lst o))(k:∀b o,b≠g->H b=some o->H' b=some o)(h:gi g H rs xs):gi g H' rs xs:=
 Paired.bM h λ_ _ ⟨p,ys,e,n,a,b⟩=>⟨p,ys,e,n,k _ _ n a,bB.off hg k b⟩
section
variable{P:Program}{w:World}{K:PySem.W.Frag}{mg:Str->Option Value}{base:Heap}{f:Addr}{fd:FuncData}
def Gs(K:PySem.W.Frag):Sp:=λvs H Q _=>∃(a:Addr) (l:List Str) (w:Nat) (i j:Int),vs=[.ref a,.int i,.int j]/\aq K H a (l.map V.str)/\bj l w/\Q (.bl (jv l w i j)) H
theorem abC:bw ["_law_sheet_here","_law_line","_law_column"] ["_law_sheet_here","_law_line","_law_column"] (aW (top 54)):=⟨rfl,rfl,rfl,by decide +kernel,rfl,by decide +kernel,by decide +kernel⟩
theorem abD(B:Bl mg)(F:bq K "_law_open" "_law_open" (top 54) f fd):aS P w K mg base aY 1 f fd ["_law_sheet_here","_law_line","_law_column"] (Gs K):=by
 refine F.ok abC (λvs H Q E h=>?_) (λaL A outer s H vs Q E hr h=>?_)
 .refine hide λG_ aK=>?_
  obtain⟨a,l,w,i,j,rfl,_⟩:=h
  refine aK.k ?_
  rfl
 .refine hide λG_ aN=>?_
  obtain⟨a,l,wd,i,j,rfl,hT,S,q⟩:=h
  obtain⟨x0,oh,AW,oi,_⟩:=S.row (i:=0) S.one
  refine aN.k ?_
  have h9:=S.nine
  have hw:=S.w9
  refine⟨_,(au (bJ (PW.pt (tM (wD rf lS aE (pv 1) (bp d9 (by rfl) B.cf bZ (ab (pv 0) ah))) (tL (wD rf lS aE (pv 2) (bp fY (by rfl) B.cf bZ (ab (aV bU (pv 0) aE (λ_ _=>rfl)) ah))))))
   (az (aX (pG iY (aV gW (aV bU (pv 0) (pv 1) (λ_ _=>rfl)) (pv 2) (λ_ _=>rfl)) eM (cq _))))
   bR)
   (az (aX fJ))),?_⟩
  try dsimp only[bF]
  unfold jv at q
  refine⟨_,rfl,_,_,rfl,rfl,_,rfl,?_⟩
  by_cases h0:(0:Int)<=i
  .rw[aG h0] at q ⊢
   refine bG ⟨_,rfl,a,_,rfl,.inr hT,_,_,rfl,rfl,_,rfl,?_⟩
   rw[ax]
   by_cases h1:i<(l.length:Int)
   .rw[aG h1] at q ⊢
    refine bG ⟨_,rfl,_,_,rfl,rfl,_,rfl,?_⟩
    by_cases h2:(0:Int)<=j
    .rw[aG h2] at q ⊢
     refine bG ⟨_,rfl,a,_,0,.str x0,rfl,rfl,hT,i9 oh,x0,rfl,eG (by omega),_,_,rfl,rfl,_,rfl,?_⟩
     rw[oi]
     by_cases h3:j<(wd:Int)
     .rw[aG h3] at q ⊢
      refine hide λG_ bt=>?_
      obtain⟨i',rfl⟩:=qP h0
      obtain⟨j',rfl⟩:=qP h2
      rw[dY,dY] at q
      obtain⟨x,hx,mx,lx,_,hj⟩:=S.row (i:=i') (by omega)
      refine bt.k ?_
      refine bG ⟨_,rfl,_,rfl,a,_,_,.str x,rfl,rfl,hT,i9 hx,_,rfl,x,_,sg l (i',j'),rfl,rfl,eG (by omega),dH (hj j' (by omega)),rfl,?_⟩
      rw[qc,AQ]
      exact q
     .rw[aH h3] at q ⊢
      exact aT q
    .rw[aH h2] at q ⊢
     exact aT ⟨_,rfl,aT q⟩
   .rw[aH h1] at q ⊢
    exact aT (aT q)
  .rw[aH h0] at q ⊢
   exact aT ⟨_,rfl,aT (aT q)⟩
def Ol(K:PySem.W.Frag)(a p:Addr)(H:Hp)(l:List Str)(wd:Nat)(c:C2)(k:Nat):Nat->St->Hp->Prop:=λm σ H2=>∃n xs,m=10 - n/\n<=9/\σ=[some (.ref a),some (.int (go c (cE k) n).1),some (.int (go c (cE k) n).2),some (.int k),some (.ref p)]/\af H H2/\
 H2 p=some (.lst xs)/\bB H2 (line c (cE k) n) xs/\∀j,j<n->bx l wd (go c (cE k) j)=true
def Gu(K:PySem.W.Frag):Sp:=λvs H Q _=>∃(a:Addr) (l:List Str) (w:Nat) (c:C2) (k:Nat),vs=[.ref a,.int c.1,.int c.2,.int k]/\aq K H a (l.map V.str)/\bj l w/\k<=1/\
 ∀p xs H',H p=none->af H H'->H' p=some (.lst xs)->bB H' (runC (bx l w) (cE k) c) xs->Q (.ref p) H'
theorem Bf:bw ["_law_sheet_here","_law_line","_law_column","_law_down","_law_cells"] ["_law_sheet_here","_law_line","_law_column","_law_down"] (aW (top 55)):=⟨rfl,rfl,rfl,by decide +kernel,rfl,by decide +kernel,by decide +kernel⟩
theorem abE(F:bq K "_law_run" "_law_run" (top 55) f fd)(Oo:Fn P w K mg base "_law_open" 1 (Gs K)):aS P w K mg base aY 2 f fd ["_law_sheet_here","_law_line","_law_column","_law_down"] (Gu K):=by
 refine F.ok Bf (λvs H Q E h=>?_) (λaL A outer s H vs Q E hr h=>?_)
 .refine hide λG_ aK=>?_
  obtain⟨a,l,w,c,k,rfl,_⟩:=h
  refine aK.k ?_
  rfl
 .refine hide λG_ aN=>?_
  obtain⟨a,l,wd,c,k,rfl,hT,S,hk,q⟩:=h
  refine aN.k ?_
  have h9:=S.nine
  have hw:=S.w9
  refine⟨_,(au (aO (i:=4) Bf.nd rfl (Or.inl rfl) (fm ah))
   (au (bJ (eU (ba Oo (hr.mono (by decide)) (by rfl) (ab (pv 0) (ab (aR pF (pv 1) (pv 3)) (ab (aR eV (aR pF (pv 2) aE) (pv 3)) ah)))))
   (az (aX (pv 4)))
   bR)
   (au (K3 cL (eU (ba Oo (hr.mono (by decide)) (by rfl) (ab (pv 0) (ab (pv 1) (ab (pv 2) ah)))))
   (au (fg (fq jq jT jU gY (pv 4) (ab (fX (ab (pv 1) (ab (pv 2) ah))) ah (hs:=dq rfl))))
    (au (aO (i:=1) Bf.nd rfl (Or.inl rfl) (aR eV (pv 1) (pv 3)))
    (az (aO (i:=2) Bf.nd rfl (Or.inl rfl) (aR pF (aR eV (pv 2) aE) (pv 3)))))))
   (az (aX (pv 4)))))),?_⟩
  try dsimp only[bF]
  refine⟨bC _,λp hp=>?_⟩
  have eZ:=af.upd (o:=HO.lst []) hp
  have Ot:((1 - k:Nat):Int)=1 - (k:Int):=by omega
  have Ou:=NW l wd c (cE k)
  have e2:(c.2:Int) - (((cE k).2:Nat):Int)=(c.2:Int) - 1+(k:Int):=by show(c.2:Int) - ((1 - k:Nat):Int)=_;omega
  rw[e2] at Ou
  refine⟨_,rfl,_,rfl,_,rfl,_,_,rfl,rfl,_,rfl,_,_,rfl,rfl,_,rfl,_,_,rfl,rfl,a,l,wd,_,_,rfl,eZ.tup hT,S,_,rfl,?_⟩
  rw[show(c.1:Int) - (k:Int)=(c.1:Int) - (((cE k).1:Nat):Int) from rfl,Ou]
  refine fw (λkb=>?_) (λkb=>?_)
  .refine⟨_,rfl,q p [] _ hp eZ ar ?_⟩
   unfold runC
   rw[aA kb]
   exact .nil
  .refine⟨Ol K a p H l wd c k,⟨10,0,[],rfl,by omega,by rw[i7];rfl,eZ,ar,.nil,λj hj=>absurd hj (jn _)⟩,?_⟩
   intro m σ H2 abF
   refine hide λG_ bt=>?_
   obtain⟨n,xs,rfl,hn,rfl,sm,hL,hC,ho⟩:=abF
   refine bt.k ?_
   refine⟨_,rfl,_,rfl,_,rfl,a,l,wd,_,_,rfl,sm.tup hT,S,_,rfl,?_⟩
   rw[Fz]
   have hlen:xs.length=n:=by rw[<-hC.length,sd]
   refine fw (λjb=>?_) (λjb=>?_)
   .have hn8:n<=8:=by
     obtain⟨o1,o2,_⟩:=n9 jb
     simp only[go,cE] at o1 o2
     rcases(by omega:k=0\/k=1) with rfl | rfl
     .simp only[Nat.sub_zero,iR] at o2
      omega
     .simp only[iR] at o1
      omega
    refine⟨λσ' H' =>∃m',m'<10 - n/\Ol K a p H l wd c k m' σ' H',λ_ _ z=>z,?_⟩
    refine⟨_,rfl,.inl ⟨rfl,_,aj.of hL⟩,_,rfl,_,rfl,by show 2<=sizeLine;decide,λt ht=>?_⟩
    have si:t≠p:=bo (aZ hL ht)
    have tt:=af.upd (o:=HO.tup [V.int ((go c (cE k) n).1:Nat),V.int ((go c (cE k) n).2:Nat)]) ht
    refine⟨p,xs,_,rfl,rfl,tt _ _ hL,uC (by omega),?_⟩
    refine⟨_,rfl,_,rfl,_,_,rfl,rfl,_,rfl,_,_,rfl,rfl,_,rfl,_,_,rfl,rfl,?_⟩
    refine⟨10 - (n+1),by omega,n+1,xs++[.ref t],rfl,by omega,?_,(sm.trans tt).j8 hp,ar,?_,?_⟩
    .rw[go_succ]
     have g1:(((go c (cE k) n).1+(cE k).1:Nat):Int)=((go c (cE k) n).1:Int)+(k:Int):=by show(((go c (cE k) n).1+k:Nat):Int)=_;omega
     have g2:(((go c (cE k) n).2+(cE k).2:Nat):Int)=((go c (cE k) n).2:Int)+1 - (k:Int):=by show(((go c (cE k) n).2+(1 - k):Nat):Int)=_;omega
     simp only[g1,g2]
     rfl
    .rw[NF]
     have off:∀b o,b≠p->upd H2 t (HO.tup [V.int ((go c (cE k) n).1:Nat),V.int ((go c (cE k) n).2:Nat)]) b=some o->upd (upd H2 t (HO.tup [V.int ((go c (cE k) n).1:Nat),V.int ((go c (cE k) n).2:Nat)])) p (.lst (xs++[.ref t])) b=some o:=λb o hb z=>by rw[ak hb];exact z
     exact nj (bB.off ⟨xs,tt _ _ hL⟩ off (hC.mono tt)) ⟨t,rfl,off _ _ si ar⟩
    .intro j hj
     rcases wm.mp hj with z | z
     .exact ho j z
     .rw[z];exact jb
   .have AX:runN (bx l wd) (cE k) 10 c=n:=Fj (by omega) ho (gR.mpr jb)
    refine⟨_,rfl,q p xs H2 hp sm hL ?_⟩
    unfold runC
    rw[aw kb,AX]
    exact hC
def sF(K:PySem.W.Frag):Sp:=λvs H Q _=>∃(a:Addr) (l:List Str) (w:Nat),vs=[.ref a]/\aq K H a (l.map V.str)/\bj l w/\
 ∀g xs H',H g=none->af H H'->H' g=some (.lst xs)->gi g H' (aI l w) xs->Q (.ref g) H'
theorem x4(l:List Str)(w k n:Nat):(jc l w k n).length<=(cells l.length w).length:=by
 unfold jc
 refine bO (iQ _ _) ?_
 rw[ax,jQ]
 omega
def Bg(l:List Str)(w:Nat):Nat->List (List C2)
 |0=>[]
 |1=>lu l w 0
 |_=>aI l w
def mM(l:List Str)(w k n:Nat):List (List C2):=Bg l w k++jc l w k n
theorem uL:bw ["_law_sheet_here","_law_rows_here","_law_down","_law_line","_law_column","_law_cells"] ["_law_sheet_here"] (aW (top 56)):=⟨rfl,rfl,rfl,by decide +kernel,rfl,by decide +kernel,by decide +kernel⟩
theorem abG(B:Bl mg)(F:bq K "_law_rows" "_law_rows" (top 56) f fd)(abH:Fn P w K mg base "_law_run" 2 (Gu K)):aS P w K mg base aY 3 f fd ["_law_sheet_here"] (sF K):=by
 refine F.ok uL (λvs H Q E h=>?_) (λaL A outer s H vs Q E hr h=>?_)
 .obtain⟨a,l,w,rfl,_⟩:=h
  rfl
 .refine hide λG_ aK=>?_
  obtain⟨a,l,wd,rfl,hT,S,q⟩:=h
  have h9:=S.nine
  have hw:=S.w9
  have nZ:=xG S
  obtain⟨x0,oh,AW,oi,_⟩:=S.row (i:=0) S.one
  refine aK.k ?_
  refine⟨_,(au (aO (i:=1) uL.nd rfl (Or.inl rfl) (fm ah))
   (au (cM cL rfl (iW (by rfl) B.i8 (ab aE ah)) (bK (i:=2) uL.nd rfl (Or.inl rfl))
   (az (cM cL rfl (iW (by rfl) B.i8 (ab (bp d9 (by rfl) B.cf bZ (ab (pv 0) ah)) ah)) (bK (i:=3) uL.nd rfl (Or.inl rfl))
    (az (cM cL rfl (iW (by rfl) B.i8 (ab (bp fY (by rfl) B.cf bZ (ab (aV bU (pv 0) aE (λ_ _=>rfl)) ah)) ah)) (bK (i:=4) uL.nd rfl (Or.inl rfl))
     (au (aO (i:=5) uL.nd rfl (Or.inl rfl) (ba abH (hr.mono (by decide)) (by rfl) (ab (pv 0) (ab (pv 3) (ab (pv 4) (ab (pv 2) ah))))))
      (az (bJ (bT zX (bp d9 (by rfl) B.cf bZ (ab (pv 5) ah)) aE (cq _))
      (az (fg (fq jq jT jU gY (pv 1) (ab (pv 5) ah))))
      bR))))))))
   (az (aX (pv 1))))),?_⟩
  try dsimp only[bF]
  refine⟨bC _,λg hg=>?_⟩
  have eZ:=af.upd (o:=HO.lst []) hg
  have abI:∀k n,(mM l wd k n).length<=300:=λk n=>by
   unfold mM
   have h1:=x4 l wd k n
   have h2:(lu l wd 0).length<=81:=bO (x4 l wd 0 _) nZ
   have h3:(Bg l wd k).length<=162:=by
    match k with
    |0=>exact bC _
    |1=>show(lu l wd 0).length<=_;omega
    |k+2=>
     show(aI l wd).length<=_
     unfold aI
     have h2:(lu l wd 1).length<=81:=bO (x4 l wd 1 _) nZ
     rw[dw]
     omega
   rw[dw]
   omega
  refine⟨_,rfl,by decide,by decide,j9 (n:=2) (λk σ H2=>∃v2 v3 v4 v5 xs,σ=[some (.ref a),some (.ref g),v2,v3,v4,v5]/\af H H2/\H2 g=some (.lst xs)/\gi g H2 (Bg l wd k) xs)
   ⟨none,none,none,none,[],rfl,eZ,ar,.nil⟩ ?_ ?_⟩
  .intro k σ H2 hk abJ
   refine hide λG_ aN=>?_
   obtain⟨v2,v3,v4,v5,xs,rfl,sm,hL,hC⟩:=abJ
   refine aN.k ?_
   refine⟨_,rfl,a,_,rfl,.inr (sm.tup hT),_,rfl,by rw[ax];omega,by rw[ax];omega,?_⟩
   rw[dY,ax]
   refine j9 (λi σ H3=>∃v3 v4 v5 xs,σ=[some (.ref a),some (.ref g),some (.int k),v3,v4,v5]/\af H H3/\H3 g=some (.lst xs)/\gi g H3 (mM l wd k (i*wd)) xs)
    ⟨v3,v4,v5,xs,rfl,sm,hL,by unfold mM jc;rw[Nat.zero_mul,qK];simpa using hC⟩ ?_ ?_
   .intro i σ H3 hi abK
    refine hide λG_ bt=>?_
    obtain⟨v3,v4,v5,ys,rfl,fN,ja,jI⟩:=abK
    refine bt.k ?_
    refine⟨_,rfl,a,_,0,.str x0,rfl,rfl,fN.tup hT,i9 oh,x0,rfl,eG (by omega),_,rfl,by omega,by omega,?_⟩
    rw[dY,oi]
    refine j9 (λj σ H4=>∃v4 v5 xs,σ=[some (.ref a),some (.ref g),some (.int k),some (.int i),v4,v5]/\af H H4/\H4 g=some (.lst xs)/\gi g H4 (mM l wd k (i*wd+j)) xs)
     ⟨v4,v5,ys,rfl,fN,ja,jI⟩ ?_ ?_
    .intro j σ H4 hj abL
     refine hide λG_ cD=>?_
     obtain⟨v4,v5,zs,rfl,dS,sG,x5⟩:=abL
     refine cD.k ?_
     refine⟨_,rfl,_,rfl,_,rfl,_,rfl,a,l,wd,(i,j),k,rfl,dS.tup hT,S,by omega,λp us H5 hp s5 hP Ov=>?_⟩
     have x6:=s5 _ _ sG
     have Ow:p≠g:=λz=>by rw[z,sG] at hp;cases hp
     have Gv:=Ov.length
     have e1:mM l wd k (i*wd+(j+1))=mM l wd k (i*wd+j)++if (bW (bx l wd) (cE k) (i,j)).isEmpty=true then [] else [bW (bx l wd) (cE k) (i,j)]:=by
      unfold mM
      rw[abA hi hj,oV]
     have e2:=abz (bx l wd) (cE k) (i,j)
     refine⟨_,rfl,p,_,rfl,.inl (aj.of hP),_,_,rfl,rfl,_,rfl,fw (λh1=>?_) (λh1=>?_)⟩
     .have h1:(1:Int)<(us.length:Int):=ff h1
      have hz:=x5.length
      have iC:=abI k (i*wd+j)
      refine⟨_,rfl,.inl ⟨rfl,_,aj.of x6⟩,_,rfl,g,zs,_,rfl,rfl,x6,uC (by omega),?_⟩
      refine⟨_,_,_,rfl,(dS.trans s5).j8 hg,ar,?_⟩
      rw[aw (by omega)] at e2
      have dI:(bW (bx l wd) (cE k) (i,j)).isEmpty=false:=by
       rw[e2]
       cases gj:runC (bx l wd) (cE k) (i,j) with
       |nil=>
        exfalso
        rw[gj] at Gv
        have Gv:0=us.length:=Gv
        omega
       |cons _ _=>rfl
      rw[e1,aw (by rw[dI];exact cj),e2]
      have off:∀b o,b≠g->H5 b=some o->upd H5 g (.lst (zs++[.ref p])) b=some o:=λb o hb z=>by rw[ak hb];exact z
      exact nj (gi.off ⟨zs,x6⟩ off (gi.mono s5 x5)) ⟨p,us,rfl,Ow,off _ _ Ow hP,bB.off ⟨zs,x6⟩ off Ov⟩
     .have h1:¬(1:Int)<(us.length:Int):=λz=>h1 (aG z)
      rw[aA (by omega)] at e2
      refine⟨_,_,zs,rfl,dS.trans s5,x6,?_⟩
      rw[e1,e2,aA (show([]:List C2).isEmpty=true from rfl),gm]
      exact gi.mono s5 x5
    .intro σ H4 abM
     refine hide λG_ cJ=>?_
     obtain⟨v4,v5,zs,rfl,dS,sG,x5⟩:=abM
     refine cJ.k ?_
     refine⟨_,_,_,zs,rfl,dS,sG,?_⟩
     rw[iP]
     exact x5
   .intro σ H3 abN
    refine hide λG_ gK=>?_
    obtain⟨v3,v4,v5,ys,rfl,fN,ja,jI⟩:=abN
    refine gK.k ?_
    refine⟨_,_,_,_,ys,rfl,fN,ja,?_⟩
    have e3:mM l wd k (l.length*wd)=Bg l wd (k+1):=by
     rcases(by omega:k=0\/k=1) with rfl | rfl
     .unfold mM
      exact CV _
     .rfl
    rw[<-e3]
    exact jI
  .intro σ H2 abO
   refine hide λG_ ou=>?_
   obtain⟨v2,v3,v4,v5,xs,rfl,sm,hL,hC⟩:=abO
   refine ou.k ?_
   exact⟨_,rfl,q g xs H2 hg sm hL hC⟩
end
def putL(l:List Str):List C2->List Nat->List Str
 |c::cs,x::xs=>putL (setC l c x) cs xs
 |_,_=>l
theorem sH(l:List Str):∀(cs:List C2) (xs:List Nat) (i:Nat) (c:C2) (x:Nat),cs[i]? = some c->xs[i]? = some x->putL l (cs.take (i+1)) (xs.take (i+1))=setC (putL l (cs.take i) (xs.take i)) c x:=by
 intro cs
 induction cs generalizing l with
 |nil=>intro xs i c x h;simp at h
 |cons d r ih=>
  intro xs i c x h1 h2
  cases xs with
  |nil=>simp at h2
  |cons y s=>
   cases i with
   |zero=>
    have h1:d=c:=by simpa using h1
    have h2:y=x:=by simpa using h2
    subst h1 h2
    rfl
   |succ i=>
    have h1:r[i]? = some c:=by simpa using h1
    have h2:s[i]? = some x:=by simpa using h2
    exact ih (setC l d y) s i c x h1 h2
theorem Ox(l:List Str):∀(cs:List C2) (xs:List Nat),putL l (cs.take (min cs.length xs.length)) (xs.take (min cs.length xs.length))=putL l cs xs:=by
 intro cs
 induction cs generalizing l with
 |nil=>intro xs;simp[putL]
 |cons d r ih=>
  intro xs
  cases xs with
  |nil=>simp[putL]
  |cons y s=>
   have e:min (d::r).length (y::s).length=min r.length s.length+1:=by simp only[dg];omega
   rw[e]
   exact ih (setC l d y) s
section
variable{P:Program}{w:World}{K:PySem.W.Frag}{mg:Str->Option Value}{base:Heap}{f:Addr}{fd:FuncData}
theorem Gw:bw ["_law_sheet_here","_law_cell","_law_sign","_law_lines","_law_line"] ["_law_sheet_here","_law_cell","_law_sign"] (aW (top 57)):=⟨rfl,rfl,rfl,by decide +kernel,rfl,by decide +kernel,by decide +kernel⟩
theorem abP(B:Bl mg)(F:bq K "_law_with" "_law_with" (top 57) f fd):aS P w K mg base aY 1 f fd ["_law_sheet_here","_law_cell","_law_sign"] (mK K):=by
 refine F.ok Gw (λvs H Q E h=>?_) (λaL A outer s H vs Q E hr h=>?_)
 .refine hide λG_ aK=>?_
  obtain⟨a,b,l,w,c,ch,rfl,_⟩:=h
  refine aK.k ?_
  rfl
 .refine hide λG_ aN=>?_
  obtain⟨a,b,l,wd,c,ch,rfl,hT,S,hb,h1,h2,q⟩:=h
  obtain⟨x,hx,mx,lx,pY,hj⟩:=S.row h1
  refine aN.k ?_
  have hw:=S.w9
  refine⟨_,(au (aO (i:=3) Gw.nd rfl (Or.inl rfl) (iz rp (by rfl) B.oa nP (ab (pv 0) ah)))
   (au (aO (i:=4) Gw.nd rfl (Or.inl rfl) (aV gC (pv 3) (aV bU (pv 1) aE (λ_ _=>rfl)) (λ_ _=>rfl)))
   (au (qZ (aR rj (aR rj (nH ui (pv 4) lW (lX (aV bU (pv 1) aE (λ_ _=>rfl)))) (pv 2)) (nH ui (pv 4) (lX (aR eV (aV bU (pv 1) aE (λ_ _=>rfl)) aE)) lW)) (tO (pv 3) (aV bU (pv 1) aE (λ_ _=>rfl)) set_list))
   (az (aX (iz wN (by rfl) B.sf rM (ab (pv 3) ah))))))),?_⟩
  try dsimp only[bF]
  refine⟨_,rfl,a,_,rfl,.inr hT,λp hp=>?_⟩
  have t1:=af.upd (o:=HO.lst (l.map V.str)) hp
  have l1:(Txt.slice x none (some (c.2:Int))).length<=100:=bO (vZ x _ _) (by omega)
  have l2:(Txt.slice x (some ((c.2:Int)+1)) none).length<=100:=bO (vZ x _ _) (by omega)
  have ml:=t1.tup hb
  refine⟨_,rfl,_,rfl,b,_,0,.int c.1,rfl,rfl,ml,rfl,p,_,_,.str x,rfl,rfl,aj.of ar,i9 hx,?_⟩
  refine⟨_,rfl,_,rfl,b,_,1,.int c.2,rfl,rfl,ml,rfl,_,rfl,x,rfl,eG (by omega),_,rfl,_,_,rfl,rfl,eG (by show _+1<=_;omega),?_⟩
  refine⟨_,rfl,_,rfl,b,_,1,.int c.2,rfl,rfl,ml,rfl,_,_,rfl,rfl,_,rfl,x,rfl,eG (by omega),_,_,rfl,rfl,eG ?_,?_⟩
  .rw[<-cC,mF,dw,cC]
   show _+1+_<=_
   omega
  have eg:=Fi (x:=x) (j:=c.2) (ch:=ch) (FW (by omega)) (FX (by omega))
  refine⟨_,rfl,_,rfl,b,_,0,.int c.1,rfl,rfl,ml,rfl,p,_,_,c.1,rfl,rfl,ar,uj (by rw[ax];exact h1),?_⟩
  rw[eg,KG]
  refine⟨_,rfl,p,_,rfl,.inl ⟨aj.of ar,λt ht=>?_⟩⟩
  have sm:af H (upd H p (.lst ((l.map V.str).set c.1 (.str (bH x c.2 ch))))):=af.upd hp
  refine q t _ (sm.free ht) (sm.trans (af.upd ht)) ?_
  rw[ar]
  unfold setC
  rw[cu hx,List.map_set]
def x8(K:PySem.W.Frag):Sp:=λvs H Q _=>∃(a t:Addr) (l:List Str) (w:Nat) (cs:List C2) (xs:List V),vs=[.ref a,.ref t]/\aq K H a (l.map V.str)/\bj l w/\H t=some (.lst xs)/\bB H cs xs/\cs.length<=100/\(∀c∈cs,c.1<l.length/\c.2<w)/\
 ∀H',af H H'->Q (.str (aF l cs)) H'
theorem abQ:bw ["_law_sheet_here","_law_cells"] ["_law_sheet_here","_law_cells"] (aW (top 62)):=⟨rfl,rfl,rfl,by decide +kernel,rfl,by decide +kernel,by decide +kernel⟩
theorem abR(F:bq K "_law_text" "_law_text" (top 62) f fd):aS P w K mg base aY 1 f fd ["_law_sheet_here","_law_cells"] (x8 K):=by
 refine F.ok abQ (λvs H Q E h=>?_) (λaL A outer s H vs Q E hr h=>?_)
 .refine hide λG_ aK=>?_
  obtain⟨a,t,l,w,cs,xs,rfl,_⟩:=h
  refine aK.k ?_
  rfl
 .refine hide λG_ aN=>?_
  obtain⟨a,t,l,wd,cs,xs,rfl,hT,S,ht,hC,hlen,br,q⟩:=h
  refine aN.k ?_
  have hlx:=hC.length
  have hw:=S.w9
  refine⟨_,(az (aX (fq De Ky Kz Al eM (ab (Mq (js:=[0]) (ns:=["_law_sheet_here"]) (dQ (pv 1)) rfl rfl rfl rfl (λ_ _ _ _=>jB) (λ_ _ _ _=>(aV gW (An (K:=K) (rr:=wI) rfl bU (pv 2) (pv 0) (λ_ _=>rfl)) (pv 1) (λ_ _=>rfl)))) ah (hs:=dq rfl))))),?_⟩
  try dsimp only[bF]
  refine⟨rfl,_,rfl,t,rfl,⟨_,aj.of ht⟩,?_⟩
  refine Ym (by omega) (aj.of ht) (λ_=>true) (λ_ i y _=>y = .str ⟨#[sg l (cs.getD i (0,0))]⟩) (λ_ _ _ _ _ _ _ _ h=>h) ?_ ?_
  .intro D i x H2 Z0 Z hD hx s2 _ k0 k1
   refine hide λG_ bt=>?_
   obtain⟨c,hc,b,rfl,hb⟩:=Paired.get hC hx
   have dG:=br c (bE hc)
   obtain⟨y,hy,my,ly,_,hj⟩:=S.row dG.1
   refine bt.k ?_
   refine⟨b,_,_,rfl,aq.of (s2 _ _ hb),bG (B:=Z0 H2) ?_⟩
   exact⟨_,rfl,_,rfl,a,_,_,.str y,rfl,rfl,s2.tup hT,i9 hy,_,rfl,y,_,_,rfl,rfl,eG (by omega),dH (hj c.2 dG.2),k1 _ _ (af.cQ _) rfl (by rw[cu hc])⟩
  .intro D ys H2 hD bA s2 pr
   rw[List.filter_eq_self.mpr (λ_ _=>rfl)] at pr
   have e:=mI pr
   rw[<-hlx,mJ (λc=>V.str ⟨#[sg l c]⟩)] at e
   have e1:ys=((cs.map (sg l)).map λc=>(⟨#[c]⟩:Str)).map V.str:=by rw[e,jV,jV];rfl
   rw[e1] at bA
   refine⟨_,D,(cs.map (sg l)).map λc=>(⟨#[c]⟩:Str),rfl,rfl,.inl (aj.of bA),?_,?_⟩
   .rw[FU,ax,ax,qj]
    show _+_*0<=_
    omega
   .rw[qj,FT]
    exact q H2 s2
theorem Gx(z:Int):iA i6.cps.toList (z % 26)=some (97+(z % 26).toNat)/\97<=97+(z % 26).toNat/\97+(z % 26).toNat<=122:=by
 have h1:=nt z (show(26:Int)≠0 by decide)
 have h2:=qO z (show(0:Int)<26 by decide)
 obtain⟨k,hk⟩:=qP h1
 rw[hk,dY]
 have e:i6.cps.toList[k]? = some (97+k):=by
  rw[Fe,bu,qJ (by omega)]
  rfl
 exact⟨dH e,by omega,by omega⟩
def x9(K:PySem.W.Frag):Sp:=λvs H Q _=>∃(a:Addr) (ns:List Int) (n:Int),vs=[.ref a,.int n]/\aj K H a (ns.map V.int)/\∀ch:Nat,97<=ch->ch<=122->Q (.str ⟨#[ch]⟩) H
theorem Gy:bw ["_law_script","_law_number","_law_letters","_law_cell"] ["_law_script","_law_number"] (aW (top 60)):=⟨rfl,rfl,rfl,by decide +kernel,rfl,by decide +kernel,by decide +kernel⟩
theorem abS(F:bq K "_law_letter" "_law_letter" (top 60) f fd)(mN:Fn P w K mg base "_law_cell_at" 1 (uA K)):aS P w K mg base aY 2 f fd ["_law_script","_law_number"] (x9 K):=by
 refine F.ok Gy (λvs H Q E h=>?_) (λaL A outer s H vs Q E hr h=>?_)
 .obtain⟨a,ns,n,rfl,_⟩:=h
  rfl
 .refine hide λG_ aK=>?_
  obtain⟨a,ns,n,rfl,hS,q⟩:=h
  refine aK.k ?_
  refine⟨_,(au (aO (i:=2) Gy.nd rfl (Or.inl rfl) eM)
   (au (aO (i:=3) Gy.nd rfl (Or.inl rfl) (ba mN (hr.mono (by decide)) (by rfl) (ab (pv 0) (ab aE ah))))
   (az (aX (aV gW (pv 2) (aR fh (aR eV (aR iX (pv 3) aE) (aR tT (aR fh (pv 1) (aR eV aE (aR fh (pv 3) aE))) (aR eV aE (aR fh (aR iX (pv 3) aE) aE)))) aE) (λ_ _=>rfl)))))),?_⟩
  try dsimp only[bF]
  have c0:=nt (cellAt ns 1) (show(3:Int)≠0 by decide)
  have d0:=nt (cellAt ns 1 / 78) (show(8:Int)≠0 by decide)
  have d1:=qO (cellAt ns 1 / 78) (show(0:Int)<8 by decide)
  refine⟨_,rfl,a,ns,1,rfl,hS,?_⟩
  refine⟨_,rfl,_,rfl,_,_,rfl,rfl,⟨by decide,by decide⟩,_,rfl,_,rfl,_,_,rfl,rfl,(by show(0:Int)<3;decide),_,_,rfl,rfl,_,_,rfl,rfl,(by show(0:Int)<2+cellAt ns 1 % 3;omega),?_⟩
  refine⟨_,rfl,_,_,rfl,rfl,⟨by decide,by decide⟩,_,_,rfl,rfl,(by show(0:Int)<8;decide),_,_,rfl,rfl,_,_,rfl,rfl,.inr ⟨by omega,by omega⟩,_,_,rfl,rfl,_,_,rfl,rfl,(by show(0:Int)<26;decide),?_⟩
  exact⟨i6,_,_,rfl,rfl,by decide,(Gx _).1,q _ (Gx _).2.1 (Gx _).2.2⟩
def Gz(K:PySem.W.Frag):Sp:=λvs H Q _=>∃(a t:Addr) (l:List Str) (w:Nat) (cs:List C2) (xs:List V) (x:Str),vs=[.ref a,.ref t,.str x]/\H a=some (.tup (l.map V.str))/\eC l w/\H t=some (.tup xs)/\bB H cs xs/\(∀c∈cs,c.1<l.length/\c.2<w)/\
 ∀p H',af H H'->H' p=some (.tup ((putL l cs x.cps.toList).map V.str))->Q (.ref p) H'
theorem ya:bw ["sheet","cells","word","after","cell","letter"] ["sheet","cells","word"] (aW (top 27)):=⟨rfl,rfl,rfl,by decide +kernel,rfl,by decide +kernel,by decide +kernel⟩
theorem abT(B:Bl mg)(F:bq K "put_word" "put_word" (top 27) f fd)(abU:Fn P w K mg base "with_sign" 1 (mK K)):aS P w K mg base aY 2 f fd ["sheet","cells","word"] (Gz K):=by
 refine F.ok ya (λvs H Q E h=>?_) (λaL A outer s H vs Q E hr h=>?_)
 .refine hide λG_ aK=>?_
  obtain⟨a,t,l,w,cs,xs,x,rfl,_⟩:=h
  refine aK.k ?_
  rfl
 .refine hide λG_ aN=>?_
  obtain⟨a,t,l,wd,cs,xs,x,rfl,hT,S,ht,hC,br,q⟩:=h
  refine aN.k ?_
  have hlx:=hC.length
  have lx:x.cps.toList.length=x.length:=cC x
  refine⟨_,(au (aO (i:=3) ya.nd rfl (Or.inl rfl) (pv 0))
   (au (cM cL rfl (xp .T .S (by rfl) B.xO (ab (pv 1) (ab (pv 2) ah))) (j1 rfl (d7 (bK (i:=4) ya.nd rfl (Or.inl rfl)) (d7 (bK (i:=5) ya.nd rfl (Or.inl rfl)) j0)))
   (az (aO (i:=3) ya.nd rfl (Or.inl rfl) (ba abU (hr.mono (by decide)) (by rfl) (ab (pv 3) (ab (pv 4) (ab (pv 5) ah)))))))
   (az (aX (pv 3))))),?_⟩
  try dsimp only[bF]
  refine⟨_,rfl,?_⟩
  refine⟨_,rfl,_,rfl,_,_,rfl,⟨_,t,rfl,aq.of ht⟩,⟨_,x,rfl,rfl⟩,?_⟩
  refine xq (K:=K) (k1 := .T) (k2 := .S) (xs:=xs) (ys:=x.cps.toList.map λc=>V.str ⟨#[c]⟩) (λi σ H2=>∃p v4 v5,σ=[some (.ref a),some (.ref t),some (.str x),some (.ref p),v4,v5]/\af H H2/\H2 p=some (.tup ((putL l (cs.take i) (x.cps.toList.take i)).map V.str))/\eC (putL l (cs.take i) (x.cps.toList.take i)) wd/\(putL l (cs.take i) (x.cps.toList.take i)).length=l.length)
   ⟨a,none,none,rfl,af.cQ _,hT,S,rfl⟩ (λi σ H2 _ h=>?_) ?_ ?_
  .refine hide λG_ bt=>?_
   obtain⟨p,v4,v5,rfl,sm,_⟩:=h
   refine bt.k ?_
   exact⟨⟨_,rfl,aq.of (sm _ _ ht)⟩,_,rfl,rfl⟩
  .intro i y cv p σ H2 hy lz abV hp
   refine hide λG_ cD=>?_
   obtain⟨p0,v4,v5,rfl,sm,hP,G,hl⟩:=abV
   rw[bu] at lz
   obtain⟨c,hc,rfl⟩:=jl.mp lz
   obtain⟨cc,hcc,b,rfl,hb⟩:=Paired.get hC hy
   refine cD.k ?_
   have dG:=br cc (bE hcc)
   have tp:=af.upd (o:=HO.tup [V.ref b,V.str ⟨#[c]⟩]) hp
   refine⟨p,_,rfl,aq.of ar,rfl,_,_,rfl,_,_,rfl,rfl,?_⟩
   have s2:=sm.trans tp
   refine⟨_,rfl,_,rfl,_,rfl,p0,b,_,wd,cc,c,rfl,aq.of (tp _ _ hP),G,aq.of (s2 _ _ hb),by rw[hl];exact dG.1,dG.2,λt2 H3 jJ s3 rX=>?_⟩
   rw[<-sH l cs x.cps.toList i cc c hcc hc] at rX
   refine⟨t2,_,_,rfl,s2.trans s3,rX,?_,?_⟩
   .rw[sH l cs x.cps.toList i cc c hcc hc]
    exact G.set (by rw[hl];exact dG.1) dG.2
   .rw[sH l cs x.cps.toList i cc c hcc hc,dC]
    exact hl
  .intro σ H2 abW
   refine hide λG_ cJ=>?_
   obtain⟨p,v4,v5,rfl,sm,hP,_⟩:=abW
   refine cJ.k ?_
   refine⟨_,rfl,q p H2 sm ?_⟩
   have e:=Ox l cs x.cps.toList
   rw[lx,hlx] at e
   rw[ax,lx,e] at hP
   exact hP
def Bh(K:PySem.W.Frag):Sp:=λvs H Q _=>∃(a t:Addr) (l:List Str) (w:Nat) (cs:List C2) (xs:List V) (x:Str),vs=[.ref a,.ref t,.str x]/\aq K H a (l.map V.str)/\eC l w/\H t=some (.lst xs)/\bB H cs xs/\(∀c∈cs,c.1<l.length/\c.2<w)/\
 ∀p H',af H H'->aq K H' p ((putL l cs x.cps.toList).map V.str)->Q (.ref p) H'
theorem Bi:bw ["_law_sheet_here","_law_cells","_law_word","_law_cell","_law_letter_here"] ["_law_sheet_here","_law_cells","_law_word"] (aW (top 66)):=⟨rfl,rfl,rfl,by decide +kernel,rfl,by decide +kernel,by decide +kernel⟩
theorem abX(B:Bl mg)(F:bq K "_law_put" "_law_put" (top 66) f fd)(mO:Fn P w K mg base "_law_with" 1 (mK K)):aS P w K mg base aY 2 f fd ["_law_sheet_here","_law_cells","_law_word"] (Bh K):=by
 refine F.ok Bi (λvs H Q E h=>?_) (λaL A outer s H vs Q E hr h=>?_)
 .refine hide λG_ aK=>?_
  obtain⟨a,t,l,w,cs,xs,x,rfl,_⟩:=h
  refine aK.k ?_
  rfl
 .refine hide λG_ aN=>?_
  obtain⟨a,t,l,wd,cs,xs,x,rfl,hT,S,ht,hC,br,q⟩:=h
  refine aN.k ?_
  have hlx:=hC.length
  have lx:x.cps.toList.length=x.length:=cC x
  refine⟨_,(au (cM cL rfl (xp .L .S (by rfl) B.xO (ab (pv 1) (ab (pv 2) ah))) (j1 rfl (d7 (bK (i:=3) Bi.nd rfl (Or.inl rfl)) (d7 (bK (i:=4) Bi.nd rfl (Or.inl rfl)) j0)))
   (az (aO (i:=0) Bi.nd rfl (Or.inl rfl) (ba mO (hr.mono (by decide)) (by rfl) (ab (pv 0) (ab (pv 3) (ab (pv 4) ah)))))))
   (az (aX (pv 0)))),?_⟩
  try dsimp only[bF]
  refine⟨_,rfl,_,rfl,_,_,rfl,⟨_,t,rfl,aj.of ht⟩,⟨_,x,rfl,rfl⟩,?_⟩
  refine xq (K:=K) (k1 := .L) (k2 := .S) (xs:=xs) (ys:=x.cps.toList.map λc=>V.str ⟨#[c]⟩) (λi σ H2=>∃p v3 v4,σ=[some (.ref p),some (.ref t),some (.str x),v3,v4]/\af H H2/\aq K H2 p ((putL l (cs.take i) (x.cps.toList.take i)).map V.str)/\eC (putL l (cs.take i) (x.cps.toList.take i)) wd/\(putL l (cs.take i) (x.cps.toList.take i)).length=l.length)
   ⟨a,none,none,rfl,af.cQ _,hT,S,rfl⟩ (λi σ H2 _ h=>?_) ?_ ?_
  .refine hide λG_ bt=>?_
   obtain⟨p,v3,v4,rfl,sm,_⟩:=h
   refine bt.k ?_
   exact⟨⟨_,rfl,aj.of (sm _ _ ht)⟩,_,rfl,rfl⟩
  .intro i y cv p σ H2 hy lz abY hp
   refine hide λG_ cD=>?_
   obtain⟨p0,v3,v4,rfl,sm,hP,G,hl⟩:=abY
   rw[bu] at lz
   obtain⟨c,hc,rfl⟩:=jl.mp lz
   obtain⟨cc,hcc,b,rfl,hb⟩:=Paired.get hC hy
   refine cD.k ?_
   have dG:=br cc (bE hcc)
   have tp:=af.upd (o:=HO.tup [V.ref b,V.str ⟨#[c]⟩]) hp
   refine⟨p,_,rfl,aq.of ar,rfl,_,_,rfl,_,_,rfl,rfl,?_⟩
   have s2:=sm.trans tp
   refine⟨_,rfl,_,rfl,_,rfl,p0,b,_,wd,cc,c,rfl,tp.tup hP,G,aq.of (s2 _ _ hb),by rw[hl];exact dG.1,dG.2,λt2 H3 jJ s3 rX=>?_⟩
   rw[<-sH l cs x.cps.toList i cc c hcc hc] at rX
   refine⟨t2,_,_,rfl,s2.trans s3,aq.of rX,?_,?_⟩
   .rw[sH l cs x.cps.toList i cc c hcc hc]
    exact G.set (by rw[hl];exact dG.1) dG.2
   .rw[sH l cs x.cps.toList i cc c hcc hc,dC]
    exact hl
  .intro σ H2 abZ
   refine hide λG_ cJ=>?_
   obtain⟨p,v3,v4,rfl,sm,hP,_⟩:=abZ
   refine cJ.k ?_
   refine⟨_,rfl,q p H2 sm ?_⟩
   have e:=Ox l cs x.cps.toList
   rw[lx,hlx] at e
   rw[ax,lx,e] at hP
   exact hP
end
def ow(l:List Str):List Int:=l.map λx=>(x.length:Int) - (Txt.count x "#":Int)
def yb(l:List Str)(w:Nat):Bool:=decide (((((aI l w).map (·.length)).sum:Nat):Int)=2*(ow l).sum)
structure oy(l:List Str)(w:Nat):Prop where
 sh:bj l w
 h4:l.length<=4
 w4:w<=4
 sg:∀x∈l,∀c∈x.cps.toList,c=35\/c=46
theorem bj.of{l:List Str}{w:Nat}(h1:1<=l.length)(h9:l.length<=9)(w1:1<=w)(w9:w<=9)(hl:∀x∈l,x.length=w)(hc:∀x∈l,∀c∈x.cps.toList,c=35\/c=46):bj l w:=
 ⟨h1,h9,w1,w9,hl,λx m c mc=>by rcases hc x m c mc with h | h <;> rw[h] <;> unfold n5 <;> omega⟩
theorem ab0{l:List Str}{c:C2}{ch:Nat}{P:Nat->Prop}(h:∀x∈l,∀d∈x.cps.toList,P d)(h1:c.1<l.length)(hP:P ch):∀x∈setC l c ch,∀d∈x.cps.toList,P d:=by
 intro x m d md
 unfold setC at m
 rcases Kw m with z | z
 .exact h x z d md
 .rw[z] at md
  have md:d∈(l.getD c.1 ⟨#[]⟩).cps.toList.take c.2++ch::(l.getD c.1 ⟨#[]⟩).cps.toList.drop (c.2+1):=by
   unfold bH at md
   simpa using md
  have hm:l.getD c.1 ⟨#[]⟩∈l:=by rw[bQ,bg h1];exact lN h1
  rcases du.mp md with md | md
  .exact h _ hm d (zJ md)
  .rcases bS.mp md with md | md
   .rw[md];exact hP
   .exact h _ hm d (UT md)
theorem oy.set{l:List Str}{w:Nat}(F:oy l w){c:C2}(h1:c.1<l.length)(h2:c.2<w):oy (setC l c 35) w:=
 ⟨xI F.sh h1 h2 (.inl rfl),by rw[dC];exact F.h4,F.w4,ab0 (P:=λd=>d=35\/d=46) F.sg h1 (.inl rfl)⟩
theorem GA(n:Nat):(gI "." n).cps.toList=List.replicate n 46:=by
 show(List.replicate n (".":Str).cps.toList).flatten=_
 rw[show(".":Str).cps.toList=[46] from by decide +kernel]
 induction n with
 |zero=>rfl
 |succ n ih=>rw[oU,vV,ih,oU];rfl
theorem Oy{h w:Nat}(h1:1<=h)(h4:h<=4)(w1:1<=w)(w4:w<=4):oy (List.replicate h (gI "." w)) w:=by
 have hs:∀x∈List.replicate h (gI "." w),∀c∈x.cps.toList,c=35\/c=46:=λx m c mc=>by
  rw[UW m,GA] at mc
  exact .inr (UW mc)
 refine⟨bj.of (by rw[tj];exact h1) (by rw[tj];omega) w1 (by omega) (λx m=>?_) hs,by rw[tj];exact h4,w4,hs⟩
 rw[UW m,<-cC,GA,tj]
theorem Oz{α:Type}(x:α):∀n:Nat,(List.replicate n [x]).flatten=List.replicate n x
 |0=>rfl
 |n+1=>by rw[oU,vV,Oz x n];rfl
theorem GB(a b:Int):decide (V.int a=V.int b)=decide (a=b):=by
 by_cases h:a=b
 .rw[h,aG rfl,aG rfl]
 .rw[aH h,aH]
  intro z
  injection z with z
  exact h z
theorem uM{H:Hp}{p:Addr}{o:HO}(_:af H (upd H p o)):upd H p o p=some o:=ar
def kg(l:List Str)(w:Nat):Prop := ∀c:C2,c.1<l.length->c.2<w->(sg l c=35↔sg l (l.length - 1 - c.1,w - 1 - c.2)=35)
theorem GC{h w:Nat}{c:C2}(h1:c.1<h)(h2:c.2<w):sg (List.replicate h (gI "." w)) c=46:=by
 unfold sg
 have e1:(List.replicate h (gI "." w))[c.1]? = some (gI "." w):=by rw[UE,aA h1]
 rw[cu e1]
 rw[GA,bQ,UE,aA h2]
 rfl
theorem ab1{h w:Nat}:kg (List.replicate h (gI "." w)) w:=λc h1 h2=>by
 rw[tj] at h1 ⊢
 rw[GC h1 h2,GC (c:=(h - 1 - c.1,w - 1 - c.2)) (by show h - 1 - c.1<h;omega) (by show w - 1 - c.2<w;omega)]
theorem kg.set{l:List Str}{w:Nat}(S:bj l w)(Y:kg l w){c:C2}(h1:c.1<l.length)(h2:c.2<w):kg (setC (setC l c 35) (l.length - 1 - c.1,w - 1 - c.2) 35) w:=by
 have G:=S.eI
 have G1:=G.set (ch:=35) h1 h2
 have t1:l.length - 1 - c.1<l.length:=by omega
 have t2:w - 1 - c.2<w:=by omega
 have key:∀d:C2,d.1<l.length->d.2<w->(sg (setC (setC l c 35) (l.length - 1 - c.1,w - 1 - c.2) 35) d=35↔d=c\/d=(l.length - 1 - c.1,w - 1 - c.2)\/sg l d=35):=λd d1 d2=>by
  rw[G1.jK (c:=(l.length - 1 - c.1,w - 1 - c.2)) (by rw[dC];exact t1) t2 (by rw[dC];exact d1) d2,G.jK h1 h2 d1 d2]
  by_cases e1:d=(l.length - 1 - c.1,w - 1 - c.2)
  .rw[aA e1]
   exact⟨λ_=>.inr (.inl e1),λ_=>rfl⟩
  .rw[aw e1]
   by_cases e2:d=c
   .rw[aA e2]
    exact⟨λ_=>.inl e2,λ_=>rfl⟩
   .rw[aw e2]
    exact⟨λz=>.inr (.inr z),λz=>by rcases z with z | z | z;exact absurd z e2;exact absurd z e1;exact z⟩
 intro d d1 d2
 rw[dC,dC] at d1 ⊢
 rw[key d d1 d2,key (l.length - 1 - d.1,w - 1 - d.2) (by show l.length - 1 - d.1<_;omega) (by show w - 1 - d.2<w;omega),Y d d1 d2]
 have a1:(d=c)↔((l.length - 1 - d.1,w - 1 - d.2)=(l.length - 1 - c.1,w - 1 - c.2)):=by
  constructor
  .intro z;rw[z]
  .intro z
   injection z with z1 z2
   exact qQ (by omega) (by omega)
 have a2:(d=(l.length - 1 - c.1,w - 1 - c.2))↔((l.length - 1 - d.1,w - 1 - d.2)=c):=by
  constructor
  .intro z
   rw[z]
   exact qQ (by show l.length - 1 - (l.length - 1 - c.1)=c.1;omega) (by show w - 1 - (w - 1 - c.2)=c.2;omega)
  .intro z
   rw[<-z]
   exact qQ (by show d.1=l.length - 1 - (l.length - 1 - d.1);omega) (by show d.2=w - 1 - (w - 1 - d.2);omega)
 rw[a1,a2]
 constructor
 .rintro(z | z | z)
  .exact .inr (.inl z)
  .exact .inl z
  .exact .inr (.inr z)
 .rintro(z | z | z)
  .exact .inr (.inl z)
  .exact .inl z
  .exact .inr (.inr z)
theorem ab2{h w sp:Nat}(hw:0<w)(hs:sp<h*w):(h*w - 1 - sp) / w=h - 1 - sp / w/\(h*w - 1 - sp) % w=w - 1 - sp % w:=by
 have e:=Nat.div_add_mod sp w
 have hm:=Nat.mod_lt sp hw
 have hd:sp / w<h:=Kv (by rw[oW];exact hs)
 obtain⟨k,hk⟩:∃k,h=sp / w+1+k:=⟨h - (sp / w+1),by omega⟩
 have e3:h*w - 1 - sp=(w - 1 - sp % w)+w*k:=by
  have e4:h*w=w*(sp / w)+w+w*k:=by rw[hk,Nat.add_mul,Nat.add_mul,Nat.one_mul,oW (sp / w) w,oW k w]
  omega
 have e5:h - 1 - sp / w=k:=by omega
 rw[e3,e5]
 exact⟨by rw[Nat.add_mul_div_left _ _ hw,Nat.div_eq_of_lt (by omega),qL],by rw[Nat.add_mul_mod_self_left,Nat.mod_eq_of_lt (by omega)]⟩
theorem ab3:∀h∈[2,3,4],∀w∈[2,3,4],yb (List.replicate h (gI "." w)) w=true:=by decide +kernel
def OA(l m:List Str)(w n:Nat)(c:C2):Prop:=(sg l c=35->sg m c=35)/\(sg l c≠35->if c.1*w+c.2<n then 97<=sg m c/\sg m c<=122 else sg m c=46)
structure ic(l m:List Str)(w n:Nat):Prop where
 sh:bj m w
 ln:m.length=l.length
 cl:∀c:C2,c.1<l.length->c.2<w->OA l m w n c
theorem GF{w a b c d:Nat}(h:b<w)(h':d<w)(e:a*w+b=c*w+d):a=c/\b=d:=by
 rcases Nat.lt_trichotomy a c with z | z | z
 .have:=C8 w z
  rw[iP] at this
  omega
 .subst z
  exact⟨rfl,by omega⟩
 .have:=C8 w z
  rw[iP] at this
  omega
theorem ic.zero{l:List Str}{w:Nat}(F:oy l w):ic l l w 0:=by
 refine⟨F.sh,rfl,λc h1 h2=>⟨id,λh=>?_⟩⟩
 rw[aw (jn _)]
 obtain⟨x,_,mx,_,_,hj⟩:=F.sh.row h1
 rcases F.sg x mx _ (bE (hj _ h2)) with z | z
 .exact absurd z h
 .exact z
theorem ic.ab4{l m:List Str}{w i j:Nat}(F:ic l m w (i*w+j))(hj:j<w)(hc:sg l (i,j)=35):ic l m w (i*w+(j+1)):=by
 refine⟨F.sh,F.ln,λc h1 h2=>⟨(F.cl c h1 h2).1,λh=>?_⟩⟩
 have g:=(F.cl c h1 h2).2 h
 have ne:c.1*w+c.2≠i*w+j:=λe=>by
  have:=GF h2 hj e
  exact h (by rw[show c=(i,j) from qQ this.1 this.2];exact hc)
 by_cases z:c.1*w+c.2<i*w+j
 .rw[aA z] at g
  rw[aA (by omega)]
  exact g
 .rw[aw z] at g
  rw[aw (by omega)]
  exact g
theorem ic.put{l m:List Str}{w i j ch:Nat}(F:ic l m w (i*w+j))(hi:i<l.length)(hj:j<w)(hc:sg l (i,j)≠35)(c1:97<=ch)(c2:ch<=122):ic l (setC m (i,j) ch) w (i*w+(j+1)):=by
 have yc:i<m.length:=by rw[F.ln];exact hi
 refine⟨xI F.sh yc hj (.inr (.inr ⟨c1,c2⟩)),by rw[dC];exact F.ln,λc h1 h2=>?_⟩
 unfold OA
 rw[F.sh.eI.jK (c:=(i,j)) yc hj (by rw[F.ln];exact h1) h2]
 by_cases e:c=(i,j)
 .rw[aA e,e]
  refine⟨λz=>absurd z hc,λ_=>?_⟩
  rw[aA (by show i*w+j<_;omega)]
  exact⟨c1,c2⟩
 .rw[aw e]
  refine⟨(F.cl c h1 h2).1,λh=>?_⟩
  have g:=(F.cl c h1 h2).2 h
  have ne:c.1*w+c.2≠i*w+j:=λz=>e (qQ (GF h2 hj z).1 (GF h2 hj z).2)
  by_cases z:c.1*w+c.2<i*w+j
  .rw[aA z] at g
   rw[aA (by omega)]
   exact g
  .rw[aw z] at g
   rw[aw (by omega)]
   exact g
structure qk(m g:List Str)(w:Nat):Prop where
 sh:bj g w
 ln:g.length=m.length
 cl:∀c:C2,c.1<m.length->c.2<w->sg g c=sg m c\/(sg m c≠35/\sg g c=46)
theorem qk.put{m g:List Str}{w:Nat}{c:C2}(F:qk m g w)(h1:c.1<m.length)(h2:c.2<w)(hc:sg m c≠35):qk m (setC g c 46) w:=by
 have yc:c.1<g.length:=by rw[F.ln];exact h1
 refine⟨xI F.sh yc h2 (.inr (.inl rfl)),by rw[dC];exact F.ln,λd d1 d2=>?_⟩
 rw[F.sh.eI.jK yc h2 (by rw[F.ln];exact d1) d2]
 by_cases e:d=c
 .rw[aA e,e]
  exact .inr ⟨hc,rfl⟩
 .rw[aw e]
  exact F.cl d d1 d2
section
variable{P:Program}{w:World}{K:PySem.W.Frag}{mg:Str->Option Value}{base:Heap}{f:Addr}{fd:FuncData}
def GG(K:PySem.W.Frag):Sp:=λvs H Q _=>∃(a b:Addr) (ns:List Int) (l:List Str) (w:Nat) (c:Int),vs=[.ref a,.ref b,.int c]/\aj K H a (ns.map V.int)/\H b=some (.tup (l.map V.str))/\oy l w/\
 ∀p m H',af H H'->H' p=some (.tup (m.map V.str))->ic l m w (l.length*w)->Q (.ref p) H'
theorem sI:bw ["_law_script","_law_floor_here","_law_cell","_law_sheet_here","_law_number","_law_line","_law_column"] ["_law_script","_law_floor_here","_law_cell"] (aW (top 61)):=⟨rfl,rfl,rfl,by decide +kernel,rfl,by decide +kernel,by decide +kernel⟩
theorem ab5(B:Bl mg)(F:bq K "_law_filled" "_law_filled" (top 61) f fd)(mO:Fn P w K mg base "_law_with" 1 (mK K))(yd:Fn P w K mg base "_law_letter" 2 (x9 K)):aS P w K mg base aY 3 f fd ["_law_script","_law_floor_here","_law_cell"] (GG K):=by
 refine F.ok sI (λvs H Q E h=>?_) (λaL A outer s H vs Q E hr h=>?_)
 .refine hide λG_ aK=>?_
  obtain⟨a,b,ns,l,w,c,rfl,_⟩:=h
  refine aK.k ?_
  rfl
 .refine hide λG_ aN=>?_
  obtain⟨a,b,ns,l,wd,c,rfl,hS,hT,Fl,q⟩:=h
  have S:=Fl.sh
  have h9:=S.nine
  have hw:=S.w9
  obtain⟨x0,oh,AW,oi,_⟩:=S.row (i:=0) S.one
  refine aN.k ?_
  refine⟨_,(au (aO (i:=3) sI.nd rfl (Or.inl rfl) (pv 1))
   (au (aO (i:=4) sI.nd rfl (Or.inl rfl) (aR eV (aR fh (pv 2) aE) aE))
   (au (cM cL rfl (iW (by rfl) B.i8 (ab (bp d9 (by rfl) B.cf bZ (ab (pv 1) ah)) ah)) (bK (i:=5) sI.nd rfl (Or.inl rfl))
   (az (cM cL rfl (iW (by rfl) B.i8 (ab (bp fY (by rfl) B.cf bZ (ab (aV bU (pv 1) aE (λ_ _=>rfl)) ah)) ah)) (bK (i:=6) sI.nd rfl (Or.inl rfl))
    (au (aO (i:=4) sI.nd rfl (Or.inl rfl) (aR fh (aR tT (pv 4) aE) aE))
     (az (pN (bJ (bT iY (aV gW (aV bU (pv 1) (pv 5) (λ_ _=>rfl)) (pv 6) (λ_ _=>rfl)) eM (cq _))
     (az (aO (i:=3) sI.nd rfl (Or.inl rfl) (ba mO (hr.mono (by decide)) (by rfl) (ab (pv 3) (ab (fX (ab (pv 5) (ab (pv 6) ah))) (ab (ba yd (hr.mono (by decide)) (by rfl) (ab (pv 0) (ab (aR iX (pv 4) aE) ah))) ah (hs:=dq rfl)) (hs:=dq rfl)) (hs:=dq rfl)) (he:=dq rfl) (hpl:=xt rfl))))
     bR)))))))
   (az (aX (pv 3)))))),?_⟩
  try dsimp only[bF]
  refine⟨_,rfl,_,rfl,_,_,rfl,rfl,(by show(0:Int)<2147483647;decide),_,_,rfl,rfl,?_⟩
  refine⟨_,rfl,b,_,rfl,.inr (aq.of hT),_,rfl,by rw[ax];omega,by rw[ax];omega,?_⟩
  rw[dY,ax]
  refine j9 (λi σ H2=>∃p m n v5 v6,σ=[some (.ref a),some (.ref b),some (.int c),some (.ref p),some (.int n),v5,v6]/\af H H2/\H2 p=some (.tup (m.map V.str))/\ic l m wd (i*wd))
   ⟨b,l,_,none,none,rfl,af.cQ _,hT,by rw[Nat.zero_mul];exact ic.zero Fl⟩ ?_ ?_
  .intro i σ H2 hi ab6
   refine hide λG_ bt=>?_
   obtain⟨p,m,n,v5,v6,rfl,sm,hP,Fm⟩:=ab6
   refine bt.k ?_
   refine⟨_,rfl,b,_,0,.str x0,rfl,rfl,aq.of (sm _ _ hT),i9 oh,x0,rfl,eG (by omega),_,rfl,by omega,by omega,?_⟩
   rw[dY,oi]
   refine j9 (λj σ H2=>∃p m n v6,σ=[some (.ref a),some (.ref b),some (.int c),some (.ref p),some (.int n),some (.int i),v6]/\af H H2/\H2 p=some (.tup (m.map V.str))/\ic l m wd (i*wd+j))
    ⟨p,m,n,v6,rfl,sm,hP,Fm⟩ ?_ ?_
   .intro j σ H3 hj ab7
    refine hide λG_ cD=>?_
    obtain⟨p,m,n,v6,rfl,sm,hP,Fm⟩:=ab7
    obtain⟨x,hx,mx,lx,_,ye⟩:=S.row hi
    refine cD.k ?_
    refine⟨_,rfl,_,_,rfl,rfl,.inr ⟨by decide,by decide⟩,_,_,rfl,rfl,(by show(0:Int)<2147483647;decide),?_⟩
    refine⟨λσ H2=>∃p m n v6,σ=[some (.ref a),some (.ref b),some (.int c),some (.ref p),some (.int n),some (.int i),v6]/\af H H2/\H2 p=some (.tup (m.map V.str))/\ic l m wd (i*wd+(j+1)),λ_ _ h=>h,?_⟩
    refine⟨_,rfl,_,rfl,b,_,_,.str x,rfl,rfl,aq.of (sm _ _ hT),i9 hx,_,rfl,x,_,_,rfl,rfl,eG (by omega),dH (ye j hj),rfl,_,rfl,?_⟩
    rw[qc,AQ]
    by_cases mP:sg l (i,j)=35
    .rw[aG mP]
     exact aT ⟨p,m,_,_,rfl,sm,hP,Fm.ab4 hj mP⟩
    .rw[aH mP]
     refine bG ?_
     refine⟨_,rfl,_,rfl,_,rfl,(by show 2<=sizeLine;decide),λq1 mQ=>?_⟩
     have y1:=af.upd (o:=HO.tup [V.int (i:Int),V.int (j:Int)]) mQ
     refine⟨_,rfl,_,rfl,_,_,rfl,rfl,⟨by decide,by decide⟩,a,ns,_,rfl,(sm.trans y1).seq hS,λch c1 c2=>?_⟩
     refine⟨p,q1,m,wd,(i,j),ch,rfl,aq.of (y1 _ _ hP),Fm.sh.eI,aq.of ar,by rw[Fm.ln];exact hi,hj,λt H4 _ s4 ht=>?_⟩
     exact⟨t,_,_,_,rfl,sm.trans (y1.trans s4),ht,Fm.put hi hj mP c1 c2⟩
   .intro σ H3 ab8
    refine hide λG_ cJ=>?_
    obtain⟨p,m,n,v6,rfl,sm,hP,Fm⟩:=ab8
    refine cJ.k ?_
    exact⟨p,m,n,_,_,rfl,sm,hP,by rw[iP];exact Fm⟩
  .intro σ H2 ab9
   refine hide λG_ gK=>?_
   obtain⟨p,m,n,v5,v6,rfl,sm,hP,Fm⟩:=ab9
   refine gK.k ?_
   exact⟨_,rfl,q p m H2 sm hP Fm⟩
def GH(K:PySem.W.Frag):Sp:=λvs H Q _=>∃(b:Addr) (m:List Str) (w:Nat) (c:Int),vs=[.ref b,.int c]/\H b=some (.tup (m.map V.str))/\bj m w/\
 ∀p g H',af H H'->H' p=some (.tup (g.map V.str))->qk m g w->Q (.ref p) H'
theorem qm:bw ["_law_filled_here","_law_cell","_law_sheet_here","_law_kept","_law_line","_law_column"] ["_law_filled_here","_law_cell"] (aW (top 64)):=⟨rfl,rfl,rfl,by decide +kernel,rfl,by decide +kernel,by decide +kernel⟩
theorem aca(B:Bl mg)(F:bq K "_law_given" "_law_given" (top 64) f fd)(mO:Fn P w K mg base "_law_with" 1 (mK K)):aS P w K mg base aY 2 f fd ["_law_filled_here","_law_cell"] (GH K):=by
 refine F.ok qm (λvs H Q E h=>?_) (λaL A outer s H vs Q E hr h=>?_)
 .refine hide λG_ aK=>?_
  obtain⟨b,m,w,c,rfl,_⟩:=h
  refine aK.k ?_
  rfl
 .refine hide λG_ aN=>?_
  obtain⟨b,m,wd,c,rfl,hT,S,q⟩:=h
  have h9:=S.nine
  have hw:=S.w9
  obtain⟨x0,oh,AW,oi,_⟩:=S.row (i:=0) S.one
  refine aN.k ?_
  refine⟨_,(au (aO (i:=2) qm.nd rfl (Or.inl rfl) (pv 0))
   (au (aO (i:=3) qm.nd rfl (Or.inl rfl) (aR eV aE (aR fh (pv 1) aE)))
   (au (aO (i:=1) qm.nd rfl (Or.inl rfl) (aR iX (pv 1) aE))
   (au (cM cL rfl (iW (by rfl) B.i8 (ab (bp d9 (by rfl) B.cf bZ (ab (pv 0) ah)) ah)) (bK (i:=4) qm.nd rfl (Or.inl rfl))
   (az (cM cL rfl (iW (by rfl) B.i8 (ab (bp fY (by rfl) B.cf bZ (ab (aV bU (pv 0) aE (λ_ _=>rfl)) ah)) ah)) (bK (i:=5) qm.nd rfl (Or.inl rfl))
    (au (pN (bJ (PW.pt (tM (bT iY (aV gW (aV bU (pv 0) (pv 4) (λ_ _=>rfl)) (pv 5) (λ_ _=>rfl)) eM (cq _)) (tL (PW.pt (iV (bT j3 (pv 3) aE (cq _)) (jZ (bT zX (aR fh (pv 1) (pv 3)) aE (cq _))))))))
     (az (aO (i:=2) qm.nd rfl (Or.inl rfl) (ba mO (hr.mono (by decide)) (by rfl) (ab (pv 2) (ab (fX (ab (pv 4) (ab (pv 5) ah))) (ab eM ah (hs:=dq rfl)) (hs:=dq rfl)) (hs:=dq rfl)) (he:=dq rfl) (hpl:=xt rfl))))
     bR))
     (az (aO (i:=1) qm.nd rfl (Or.inl rfl) (aR iX (pv 1) aE)))))))
   (az (aX (pv 2))))))),?_⟩
  try dsimp only[bF]
  have k0:=nt c (show(4:Int)≠0 by decide)
  refine⟨_,rfl,_,rfl,_,_,rfl,rfl,(by show(0:Int)<4;decide),_,_,rfl,rfl,?_⟩
  refine⟨_,rfl,_,_,rfl,rfl,⟨by decide,by decide⟩,?_⟩
  refine⟨_,rfl,b,_,rfl,.inr (aq.of hT),_,rfl,by rw[ax];omega,by rw[ax];omega,?_⟩
  rw[dY,ax]
  refine j9 (λi σ H2=>∃p g n v4 v5,σ=[some (.ref b),some (.int n),some (.ref p),some (.int (2+c % 4)),v4,v5]/\af H H2/\H2 p=some (.tup (g.map V.str))/\qk m g wd)
   ⟨b,m,_,none,none,rfl,af.cQ _,hT,⟨S,rfl,λ_ _ _=>.inl rfl⟩⟩ ?_ ?_
  .intro i σ H2 hi acb
   refine hide λG_ bt=>?_
   obtain⟨p,g,n,v4,v5,rfl,sm,hP,Fm⟩:=acb
   refine bt.k ?_
   refine⟨_,rfl,b,_,0,.str x0,rfl,rfl,aq.of (sm _ _ hT),i9 oh,x0,rfl,eG (by omega),_,rfl,by omega,by omega,?_⟩
   rw[dY,oi]
   refine j9 (λj σ H2=>∃p g n v5,σ=[some (.ref b),some (.int n),some (.ref p),some (.int (2+c % 4)),some (.int i),v5]/\af H H2/\H2 p=some (.tup (g.map V.str))/\qk m g wd)
    ⟨p,g,n,v5,rfl,sm,hP,Fm⟩ ?_ ?_
   .intro j σ H3 hj acd
    refine hide λG_ cD=>?_
    obtain⟨p,g,n,v5,rfl,sm,hP,Fm⟩:=acd
    obtain⟨x,hx,mx,lx,_,ye⟩:=S.row hi
    refine cD.k ?_
    refine⟨λσ H2=>∃p g,σ=[some (.ref b),some (.int n),some (.ref p),some (.int (2+c % 4)),some (.int i),some (.int j)]/\af H H2/\H2 p=some (.tup (g.map V.str))/\qk m g wd,?_,?_⟩
    .rintro σ H4 ⟨p,g,rfl,h⟩
     exact⟨_,rfl,_,_,rfl,rfl,⟨by decide,by decide⟩,p,g,_,_,rfl,h⟩
    refine⟨_,rfl,_,rfl,b,_,_,.str x,rfl,rfl,aq.of (sm _ _ hT),i9 hx,_,rfl,x,_,_,rfl,rfl,eG (by omega),dH (ye j hj),rfl,_,rfl,?_⟩
    rw[qc,AQ]
    by_cases mP:sg m (i,j)=35
    .rw[aG mP]
     exact aT (aT ⟨p,g,rfl,sm,hP,Fm⟩)
    .rw[aH mP]
     refine bG ?_
     refine⟨_,rfl,rfl,_,rfl,fw (λ_=>bG ?_) (λ_=>⟨_,rfl,_,rfl,_,_,rfl,rfl,(by show(0:Int)<2+c % 4;omega),_,_,rfl,rfl,_,rfl,fw (λ_=>?_) (λ_=>⟨p,g,rfl,sm,hP,Fm⟩)⟩)⟩
     all_goals
      refine⟨_,rfl,_,rfl,_,rfl,(by show 2<=sizeLine;decide),λq1 mQ=>?_⟩
      have y1:=af.upd (o:=HO.tup [V.int (i:Int),V.int (j:Int)]) mQ
      exact⟨p,q1,g,wd,(i,j),46,by rw[<-uB];rfl,aq.of (y1 _ _ hP),Fm.sh.eI,aq.of ar,by rw[Fm.ln];exact hi,hj,λt H4 _ s4 ht=>⟨t,_,rfl,sm.trans (y1.trans s4),ht,Fm.put hi hj mP⟩⟩
   .intro σ H3 ace
    refine hide λG_ cJ=>?_
    obtain⟨p,g,n,v5,rfl,sm,hP,Fm⟩:=ace
    refine cJ.k ?_
    exact⟨p,g,n,_,_,rfl,sm,hP,Fm⟩
  .intro σ H2 acf
   refine hide λG_ gK=>?_
   obtain⟨p,g,n,v4,v5,rfl,sm,hP,Fm⟩:=acf
   refine gK.k ?_
   exact⟨_,rfl,q p g H2 sm hP Fm⟩
end
theorem OB{c:Nat}(h1:97<=c)(h2:c<=122):c∈i6.cps.toList:=by
 rw[Fe]
 exact bP.mpr ⟨c - 97,ip.mpr (by omega),by omega⟩
theorem acg{x y:Str}(h1:jL x=true)(h2:jL y=true):jL (x++y)=true:=by
 unfold jL at *
 rw[mF,List.all_append,h1,h2]
 rfl
theorem OC{x:Str}(h1:2<=x.length)(h2:x.length<=9)(h3:jL x=true):dJ x=true:=by
 unfold dJ
 rw[aG h1,aG h2,h3]
 rfl
theorem ach{c:Nat}(h:c∈i6.cps.toList):jL ⟨#[c]⟩=true:=by
 unfold jL
 show([c]:List Nat).all _=true
 rw[zh,List.all_nil,vY]
 exact aG h
theorem aci(ns:List Int)(lo hi:Option Int):∀y∈kN (ns.map V.int) lo hi,∃z,y=V.int z:=λy m=>by
 unfold kN at m
 obtain⟨z,_,e⟩:=bP.mp (UT (zJ m))
 exact⟨z,e.symm⟩
theorem GI{x:Str}{ps:List Str}(h:iZ (.str x) (ps.map V.str)=false):x∉ps:=λm=>by
 unfold iZ at h
 rw[List.any_map] at h
 have:=J1.mp h x m
 exact this (by show gX (.str x) (.str x)=true;simp[gX])
def GJ(m:List Str)(w:Nat):Prop := ∀c:C2,c.1<m.length->c.2<w->cb m c=true->97<=sg m c/\sg m c<=122
theorem ic.lets{l m:List Str}{w:Nat}(F:ic l m w (l.length*w)):GJ m w:=by
 intro c h1 h2 ho
 rw[F.ln] at h1
 have hc:=F.cl c h1 h2
 have hm:sg m c≠35:=by
  unfold cb at ho
  simpa using ho
 have hl:sg l c≠35:=λz=>hm (hc.1 z)
 have:=hc.2 hl
 have hx:c.1*w+c.2<l.length*w:=by
  have:=C8 w h1
  rw[iP] at this
  omega
 rw[aA hx] at this
 exact this
theorem acj{l:List Str}{w k:Nat}{c:C2}(S:bj l w)(hk:k<=1):(bW (bx l w) (cE k) c).length<=9:=by
 have h9:=S.nine
 have hw:=S.w9
 unfold bW
 split
 .exact bC _
 .split
  .exact bC _
  .rw[sd]
   rcases Nat.lt_or_ge 9 (runN (bx l w) (cE k) 10 c) with z | z
   .exfalso
    have:=n9 (FQ z)
    unfold go cE at this
    dsimp only at this
    have e:k=0\/k=1:=by omega
    rcases e with e | e <;> subst e <;> omega
   .exact z
theorem ack{op:C2->Bool}{d c:C2}(h:(bW op d c).isEmpty=false):2<=(bW op d c).length:=by
 unfold bW at h ⊢
 split at h
 .cases h
 .split at h
  .cases h
  .rw[aw (by assumption),aw (by assumption),sd]
   omega
theorem OD{l:List Str}{w k n:Nat}{r:List C2}(S:bj l w)(hk:k<=1)(h:r∈jc l w k n):2<=r.length/\r.length<=9:=by
 unfold jc at h
 have h:=cR.mp h
 obtain⟨c,_,e⟩:=bP.mp h.1
 subst e
 exact⟨ack (by simpa using h.2),acj S hk⟩
theorem kh{l:List Str}{w:Nat}{r:List C2}(S:bj l w)(h:r∈aI l w):2<=r.length/\r.length<=9/\∀c∈r,c.1<l.length/\c.2<w/\cb l c=true:=by
 have a:2<=r.length/\r.length<=9:=by
  unfold aI at h
  rcases du.mp h with z | z
  .exact OD S (by decide) z
  .exact OD S (by decide) z
 refine⟨a.1,a.2,?_⟩
 rw[sD] at h
 obtain⟨q,hq,e⟩:=bP.mp h
 rw[<-e]
 exact(FR hq).2
theorem ie(l:List Str)(cs:List C2):(aF l cs).length=cs.length:=by
 rw[<-cC]
 unfold aF
 simp
theorem acm{m:List Str}{w:Nat}{r:List C2}(S:bj m w)(L:GJ m w)(h:r∈aI m w):dJ (aF m r)=true:=by
 obtain⟨h2,h9,br⟩:=kh S h
 refine OC (by rw[ie];exact h2) (by rw[ie];exact h9) ?_
 unfold jL aF
 rw[jR]
 intro c mc
 have mc:c∈r.map (sg m):=by simpa using mc
 obtain⟨d,hd,e⟩:=bP.mp mc
 have hb:=br d hd
 have:=L d hb.1 hb.2.1 hb.2.2
 rw[<-e]
 exact aG (OB this.1 this.2)
theorem acn{m:List Str}{w:Nat}(h4:m.length<=4)(w4:w<=4):(aI m w).length<=32:=by
 have h:=wb h4 w4
 have a:=x4 m w 0 (m.length*w)
 have b:=x4 m w 1 (m.length*w)
 rw[n6] at a b
 unfold aI lu
 rw[dw]
 omega
def jd(ps:List Str)(n:Nat):List Str:=ps.filter λx=>decide (x.length=n)
theorem OE(ps qs:List Str)(n:Nat):jd (ps++qs) n=jd ps n++jd qs n:=jS ..
theorem OF:∀{es:List Str},(∀x∈es,2<=x.length/\x.length<=4)->es.length=(jd es 2).length+(jd es 3).length+(jd es 4).length
 |[],_=>rfl
 |x::r,h=>by
  have ih:=OF (es:=r) λy my=>h y (cg _ my)
  have hx:=h x bL
  unfold jd at ih ⊢
  have e:x.length=2\/x.length=3\/x.length=4:=by omega
  rcases e with e | e | e <;> simp only[d5,e,dg] <;> simp <;> omega
structure sJ(rs es:List Str):Prop where
 OG:rs.length<=32
 nd:(rs++es).Nodup
 wd:∀x∈rs++es,dJ x=true
 e4:∀x∈es,2<=x.length/\x.length<=4
 e5:∀n,(jd es n).length<=5
theorem sJ.gE{rs es:List Str}(W:sJ rs es):(rs++es).length<=47:=by
 have:=OF W.e4
 have a:=W.e5 2
 have b:=W.e5 3
 have c:=W.e5 4
 have d:=W.OG
 rw[dw]
 omega
theorem OH{ps:List Str}{x:Str}(h:ps.Nodup)(hn:x∉ps):(ps++[x]).Nodup:=by
 rw[qN]
 exact⟨h,fF.mpr ⟨gr,jm⟩,λu hu v hv e=>hn (by rw[<-cI.mp hv,<-e];exact hu)⟩
theorem sJ.more{rs es:List Str}{x:Str}(W:sJ rs es)(hn:x∉rs++es)(hw:dJ x=true)(h4:x.length<=4)(h5:(jd (rs++es) x.length).length<5):sJ rs (es++[x]):=by
 refine⟨W.OG,by rw[<-oV];exact OH W.nd hn,λy my=>?_,λy my=>?_,λn=>?_⟩
 .rw[<-oV] at my
  rcases du.mp my with z | z
  .exact W.wd y z
  .rw[cI.mp z];exact hw
 .rcases du.mp my with z | z
  .exact W.e4 y z
  .rw[cI.mp z];exact⟨(xX hw).1,h4⟩
 .rw[OE,dw]
  rw[OE,dw] at h5
  by_cases e:x.length=n
  .rw[e] at h5
   have:(jd [x] n).length=1:=by unfold jd;rw[d5,aG e];rfl
   omega
  .have:(jd [x] n).length=0:=by unfold jd;rw[d5,aH e];rfl
   have:=W.e5 n
   omega
section
variable{P:Program}{w:World}{K:PySem.W.Frag}{mg:Str->Option Value}{base:Heap}{f:Addr}{fd:FuncData}
def GK(K:PySem.W.Frag):Sp:=λvs H Q _=>∃(a b:Addr) (ns:List Int) (m:List Str) (w k:Nat),vs=[.ref a,.ref b,.int k]/\aj K H a (ns.map V.int)/\aq K H b (m.map V.str)/\bj m w/\GJ m w/\m.length<=4/\w<=4/\
 ∀(l:Addr) (rs es:List Str) (H':Hp),H l=none->af H H'->H' l=some (.lst ((rs++es).map V.str))->sJ rs es->Q (.ref l) H'
theorem oz:bw ["_law_script","_law_filled_here","_law_start","_law_words_here","_law_cells","_law_cell","_law_word","_law_number","_law_k"] ["_law_script","_law_filled_here","_law_start"] (aW (top 63)):=⟨rfl,rfl,rfl,by decide +kernel,rfl,by decide +kernel,by decide +kernel⟩
theorem aco(B:Bl mg)(F:bq K "_law_words" "_law_words" (top 63) f fd)(mN:Fn P w K mg base "_law_cell_at" 1 (uA K))(oB:Fn P w K mg base "_law_rows" 3 (sF K))(sL:Fn P w K mg base "_law_text" 1 (x8 K))(yd:Fn P w K mg base "_law_letter" 2 (x9 K)):aS P w K mg base aY 4 f fd ["_law_script","_law_filled_here","_law_start"] (GK K):=by
 refine F.ok oz (λvs H Q E h=>?_) (λaL A outer s H vs Q E hr h=>?_)
 .refine hide λG_ aK=>?_
  obtain⟨a,b,ns,m,w,k,rfl,_⟩:=h
  refine aK.k ?_
  rfl
 .refine hide λG_ aN=>?_
  obtain⟨a,b,ns,m,wd,k,rfl,hS,hT,S,L,m4,w4,q⟩:=h
  refine aN.k ?_
  refine⟨_,(au (aO (i:=3) oz.nd rfl (Or.inl rfl) (fm ah))
   (au (pN (bJ (bT zX (aR fh (ba mN (hr.mono (by decide)) (by rfl) (ab (pv 0) (ab aE ah))) aE) aE (cq _))
   (az (cM cL rfl (dQ (ba oB (hr.mono (by decide)) (by rfl) (ab (pv 1) ah))) (bK (i:=4) oz.nd rfl (Or.inl rfl))
    (az (bJ (bT wM (ba sL (hr.mono (by decide)) (by rfl) (ab (pv 1) (ab (pv 4) ah))) (pv 3) rfl)
     (az (fg (fq jq jT jU gY (pv 3) (ab (ba sL (hr.mono (by decide)) (by rfl) (ab (pv 1) (ab (pv 4) ah))) ah))))
     bR))))
   bR))
   (au (cM cL rfl (dQ (nH DM (pv 0) (lX (pv 2)) (lX aE))) (bK (i:=5) oz.nd rfl (Or.inl rfl))
   (au (aO (i:=6) oz.nd rfl (Or.inr rfl) eM)
    (au (aO (i:=7) oz.nd rfl (Or.inl rfl) (aR fh (aR iX (pv 5) aE) aE))
    (au (cM cL rfl (iW (by rfl) B.i8 (ab (aR eV aE (aR fh (pv 5) aE)) ah)) (bK (i:=8) oz.nd rfl (Or.inl rfl))
    (au (aO (i:=6) oz.nd rfl (Or.inr rfl) (aR rj (pv 6) (ba yd (hr.mono (by decide)) (by rfl) (ab (pv 0) (ab (pv 7) ah)))))
     (az (aO (i:=7) oz.nd rfl (Or.inl rfl) (aR fh (aR tT (aR eV (pv 7) aE) aE) aE)))))
    (az (bJ (PW.pt (tM (bT wM (pv 6) (pv 3) rfl) (tL (bT lS (bp d9 (by rfl) B.cf bZ (ab (i0 (js:=[6]) (ns:=["_law_word"]) (dQ (pv 3)) rfl rfl rfl rfl (λ_ _ _ _=>(nM (bT j3 (bp fY (by rfl) B.cf bZ (ab (pv 0) ah)) (bp fY (by rfl) B.cf bZ (ab (pv 1) ah)) (cq _)))) (λ_ _ _ _=>(pv 0))) ah)) aE (cq _)))))
    (az (fg (fq jq jT jU gY (pv 3) (ab (pv 6) ah))))
    bR))))))
   (az (aX (pv 3)))))),?_⟩
  try dsimp only[bF]
  refine⟨bC _,λl hl=>?_⟩
  have s0:=af.upd (o:=HO.lst []) hl
  have yf:=uM s0
  revert s0 yf
  generalize upd H l (.lst [])=H0
  intro s0 yf
  refine⟨λσ H2=>∃(v4:Option V) (rs:List Str),σ=[some (.ref a),some (.ref b),some (.int k),some (.ref l),v4,none,none,none,none]/\af H H2/\H2 l=some (.lst (rs.map V.str))/\rs.Nodup/\(∀x∈rs,dJ x=true)/\rs.length<=32,?_,?_⟩
  .intro σ H2 acp
   refine hide λG_ bt=>?_
   obtain⟨v4,rs,rfl,sm,hL,cZ,iK,OI⟩:=acp
   refine bt.k ?_
   refine⟨_,rfl,_,rfl,_,rfl,_,rfl,a,_,rfl,sm.seq hS,λsl lh=>⟨sl,rfl,⟨_,aj.of ar⟩,?_⟩⟩
   have mR:=aci ns (some (k:Int)) (some 63)
   revert mR
   generalize kN (ns.map V.int) (some (k:Int)) (some 63)=cs
   intro mR
   have ss:=af.upd (o:=HO.lst cs) lh
   have GL:=uM ss
   have jH:=ss _ _ hL
   have fC:=sm.trans ss
   have nsl:sl≠l:=λz=>by rw[z,hL] at lh;cases lh
   revert GL jH fC
   clear ss
   generalize upd H2 sl (.lst cs)=H3
   intro GL jH fC
   refine j2 (xs:=cs) (λi σ H2=>∃(v5 v6 v7 v8:Option V) (es:List Str),σ=[some (.ref a),some (.ref b),some (.int k),some (.ref l),v4,v5,v6,v7,v8]/\af H H2/\H2 sl=some (.lst cs)/\H2 l=some (.lst ((rs++es).map V.str))/\sJ rs es)
    ⟨none,none,none,none,[],rfl,fC,GL,by rw[gm];exact jH,⟨OI,by rw[gm];exact cZ,by rw[gm];exact iK,λ_ z=>absurd z gr,λ_=>bC _⟩⟩ ?_ ?_ ?_
   .rintro i σ H2 _ ⟨v5,v6,v7,v8,es,rfl,sm,uN,_⟩
    exact aj.of uN
   .intro i y σ H2 hi acq
    refine hide λG_ cD=>?_
    obtain⟨v5,v6,v7,v8,es,rfl,sm,uN,hL,W⟩:=acq
    obtain⟨c,rfl⟩:=mR y (bE hi)
    have m1:=nt c (show(3:Int)≠0 by decide)
    have m2:=qO c (show(0:Int)<3 by decide)
    obtain⟨r,hr3⟩:=qP m1
    refine cD.k ?_
    have er:2+c % 3=((2+r:Nat):Int):=by omega
    refine⟨_,rfl,_,_,rfl,rfl,⟨by decide,by decide⟩,_,_,rfl,rfl,(by show(0:Int)<2147483647;decide),?_⟩
    refine⟨_,rfl,_,_,rfl,rfl,(by show(0:Int)<3;decide),_,_,rfl,rfl,_,rfl,by omega,by omega,?_⟩
    rw[er,dY]
    refine j9 (λj σ H3=>∃x z v8,σ=[some (.ref a),some (.ref b),some (.int k),some (.ref l),v4,some (.int c),some (.str x),some (.int z),v8]/\H3=H2/\x.length=j/\jL x=true)
     ⟨Str.ofString "",_,v8,rfl,rfl,rfl,rfl⟩ ?_ ?_
    .intro j σ H3 hj acs
     refine hide λG_ cJ=>?_
     obtain⟨x,z,v8',rfl,rfl,hx,hlx⟩:=acs
     refine cJ.k ?_
     refine⟨_,rfl,_,rfl,_,rfl,a,ns,z,rfl,sm.seq hS,λch c1 c2=>?_⟩
     refine⟨_,_,rfl,rfl,aa9 (by rw[hx];show j+1<=10000;omega),?_⟩
     refine⟨_,rfl,_,_,rfl,rfl,_,_,rfl,rfl,.inr ⟨by decide,by decide⟩,_,_,rfl,rfl,(by show(0:Int)<2147483647;decide),?_⟩
     exact⟨_,_,_,rfl,rfl,by rw[Str.length_append,hx];rfl,acg hlx (ach (OB c1 c2))⟩
    .intro σ H3 acu
     refine hide λG_ gK=>?_
     obtain⟨x,z,v8',rfl,rfl,hx,hlx⟩:=acu
     refine gK.k ?_
     have hwx:dJ x=true:=OC (by omega) (by omega) hlx
     have eE:((rs++es).map V.str).all j6=true:=by rw[tE];exact jR.mpr λ_ _=>rfl
     have gE:=W.gE
     refine⟨_,rfl,_,rfl,l,_,rfl,.inl (aj.of hL),rfl,eE,_,rfl,fw (λh=>?_) (λh=>aT ⟨_,_,_,_,es,rfl,sm,uN,hL,W⟩)⟩
     have hn:x∉rs++es:=GI (by simpa using h)
     refine⟨_,rfl,l,rfl,⟨_,aj.of hL⟩,?_⟩
     refine ma jC (by rw[ax];omega) (λj=>decide (((rs++es).getD j ⟨#[]⟩).length=x.length)) (λ_ j y _=>y = .str ((rs++es).getD j ⟨#[]⟩)) (λH6 s6=>aj.of (s6 _ _ hL)) (λ_ _ _ _ _ _ _ _ h=>h) ?_ ?_
     .intro D2 j v H6 Z0 Z jM hv s6 _ k0 k1
      rw[bu] at hv
      cases e:(rs++es)[j]? with
      |none=>rw[e] at hv;cases hv
      |some y=>
       rw[e] at hv
       cases hv
       rw[Bc e] at k0 k1
       have hy:=xX (W.wd y (bE e))
       refine⟨_,rfl,y,rfl,dX (by omega),_,rfl,x,rfl,dX (by omega),rfl,_,rfl,?_⟩
       rw[Gp]
       refine fw (λh=>?_) (λh=>?_)
       .exact⟨_,rfl,k1 _ _ (af.cQ _) h rfl⟩
       .exact k0 _ (af.cQ _) (gR.mpr h)
     .intro D2 zs H6 jM kf s6 oq
      have e2:=A7 oq
      rw[ax,Gm V.str ⟨#[]⟩ (rs++es) λy=>decide (y.length=x.length)] at e2
      have GN:=s6 _ _ hL
      have hz:zs.length=(jd (rs++es) x.length).length:=by rw[e2,ax];rfl
      refine⟨D2,zs,rfl,.inl (aj.of kf),_,_,rfl,rfl,_,rfl,fw (λh5=>?_) (λ_=>⟨_,_,_,_,es,rfl,sm.trans s6,s6 _ _ uN,GN,W⟩)⟩
      have h5:(zs.length:Int)<5:=ff h5
      refine⟨_,rfl,.inl ⟨rfl,_,aj.of GN⟩,_,rfl,l,_,_,rfl,rfl,GN,A8 (by rw[ax];omega),?_⟩
      exact⟨_,_,_,_,es++[x],rfl,(sm.trans s6).j8 hl,by rw[ak nsl];exact s6 _ _ uN,by rw[ar];simp,W.more hn hwx (by omega) (by omega)⟩
   .intro σ H2 acv
    refine hide λG_ ou=>?_
    obtain⟨v5,v6,v7,v8,es,rfl,sm,uN,hL,W⟩:=acv
    refine ou.k ?_
    exact⟨_,rfl,q l rs es H2 hl sm hL W⟩
  .refine⟨_,rfl,a,ns,3,rfl,s0.seq hS,_,_,rfl,rfl,(by show(0:Int)<4;decide),_,_,rfl,rfl,_,rfl,fw (λ_=>?_) (λ_=>?_)⟩
   .refine⟨_,rfl,b,m,wd,rfl,s0.tup hT,S,λg xs H1 hg s1 hG hR=>⟨g,rfl,⟨_,aj.of hG⟩,?_⟩⟩
    have GO:=hR.length
    have OI:=acn m4 w4
    have GQ:=s1 _ _ yf
    have ngl:g≠l:=λz=>by rw[z,yf] at hg;cases hg
    have fC:=s0.trans s1
    refine j2 (xs:=xs) (λi σ H2=>∃(v4:Option V) (rs:List Str),σ=[some (.ref a),some (.ref b),some (.int k),some (.ref l),v4,none,none,none,none]/\af H H2/\(∀c o,c≠l->H1 c=some o->H2 c=some o)/\H2 l=some (.lst (rs.map V.str))/\rs.Nodup/\(∀x∈rs,dJ x=true)/\rs.length<=i)
     ⟨none,[],rfl,fC,λ_ _ _ h=>h,GQ,jm,λ_ z=>absurd z gr,aP _⟩ ?_ ?_ ?_
    .rintro i σ H2 _ ⟨v4,rs,rfl,sm,kp,_⟩
     exact aj.of (kp _ _ ngl hG)
    .intro i x σ H2 hx acw
     refine hide λG_ sM=>?_
     obtain⟨v4,rs,rfl,sm,kp,hL,cZ,iK,hle⟩:=acw
     have OJ:=(cn.mp hx).1
     obtain⟨r,gj,p,ys,rfl,_,hp,hc⟩:=Paired.get hR hx
     have mr:=bE gj
     obtain⟨r2,r9,br⟩:=kh S mr
     refine sM.k ?_
     have eW:=hc.length
     have npl:p≠l:=λz=>by
      rw[z,GQ] at hp
      injection hp with hp
      injection hp with hp
      rw[<-hp] at eW
      have eW:r.length=0:=eW
      omega
     have fL:=kp _ _ npl hp
     have rn:bB H2 r ys:=bB.off ⟨_,GQ⟩ kp hc
     have eE:(rs.map V.str).all j6=true:=by rw[tE];exact jR.mpr λ_ _=>rfl
     refine⟨_,rfl,_,rfl,b,p,m,wd,r,ys,rfl,sm.tup hT,S,fL,rn,by omega,λc mc=>⟨(br c mc).1,(br c mc).2.1⟩,λH3 s3=>?_⟩
     have ja:=s3 _ _ hL
     refine⟨_,rfl,l,_,rfl,.inl (aj.of ja),rfl,eE,_,rfl,fw (λh=>?_) (λh=>?_)⟩
     .have hn:aF m r∉rs:=GI (by simpa using h)
      refine⟨_,rfl,.inl ⟨rfl,_,aj.of ja⟩,_,rfl,_,rfl,b,p,m,wd,r,ys,rfl,(sm.trans s3).tup hT,S,s3 _ _ fL,rn.mono s3,by omega,λc mc=>⟨(br c mc).1,(br c mc).2.1⟩,λH4 s4=>?_⟩
      have OK:=s3.trans s4
      refine⟨l,_,_,rfl,rfl,s4 _ _ ja,A8 (by rw[ax];omega),?_⟩
      refine⟨_,rs++[aF m r],rfl,(sm.trans OK).j8 hl,λc o hc h=>by rw[ak hc];exact OK _ _ (kp c o hc h),by rw[ar,eK];rfl,OH cZ hn,λy my=>?_,by rw[dw];show _+1<=_;omega⟩
      rcases du.mp my with z | z
      .exact iK y z
      .rw[cI.mp z];exact acm S L mr
     .exact⟨_,rs,rfl,sm.trans s3,λc o hc h=>s3 _ _ (kp c o hc h),ja,cZ,iK,by omega⟩
    .intro σ H2 acx
     refine hide λG_ yg=>?_
     obtain⟨v4,rs,rfl,sm,kp,hL,cZ,iK,hle⟩:=acx
     refine yg.k ?_
     exact⟨v4,rs,rfl,sm,hL,cZ,iK,by omega⟩
   .exact⟨none,[],rfl,s0,yf,jm,λ_ z=>absurd z gr,bC _⟩
end
def ao(rs:List (List C2))(i:Nat):List C2:=rs.getD i []
def qo(l:List Str)(rs:List (List C2))(pl:Nat):List Str:=((List.range rs.length).filter λi=>!decide (i=pl)).map λi=>aF l (ao rs i)
def oC(l:List Str)(rs:List (List C2))(pl:Nat)(ks:List Str):List Str:=(cx (ks.filter λx=>da x (aF l (ao rs pl)))).filter λx=>!decide (x∈qo l rs pl)
theorem Bj(l:List Str)(w:Nat):(aI l w).length=(dF l w).length:=by rw[sD,ax]
theorem dIn(i j:Nat):decide (V.int (i:Int)=V.int (j:Int))=decide (i=j):=by
 rw[GB]
 by_cases h:i=j
 .rw[aG h,aG (by omega)]
 .rw[aH h,aH (by omega)]
theorem GR(x:Str)(ps:List Str):iZ (.str x) (ps.map V.str)=decide (x∈ps):=by
 by_cases h:x∈ps
 .rw[aG h]
  cases e:iZ (.str x) (ps.map V.str) with
  |true=>rfl
  |false=>exact absurd h (GI e)
 .rw[aH h]
  unfold iZ
  rw[List.any_map,J1]
  intro y hy e
  have e:gX (.str x) (.str y)=true\/gX (.str y) (.str x)=true := .inr e
  have:x=y:=by rcases e with e | e <;> simp[gX] at e <;> simp[e]
  exact h (this ▸ hy)
theorem acy(l:List Str)(p:Str->Bool):cx (l.filter p)=(cx l).filter p:=Ap ((ka l).filter p) ((Ex l).filter p)
def yh(l:List Str)(rs:List (List C2))(pl j:Nat):Bool := !decide (j=pl) && !decide (46∈(aF l (ao rs j)).cps.toList)
def ig(l:List Str)(rs:List (List C2))(pl i:Nat):List Str:=((List.range i).filter (yh l rs pl)).map λj=>aF l (ao rs j)
theorem acz(l:List Str)(rs:List (List C2))(pl i:Nat):ig l rs pl (i+1)=ig l rs pl i++if yh l rs pl i=true then [aF l (ao rs i)] else []:=by
 unfold ig
 rw[lK,jS,eK,d5,oY]
 cases yh l rs pl i <;> rfl
theorem acA{l:List Str}{rs:List (List C2)}{pl:Nat}{x:Str}(hx:46∉x.cps.toList):x∈ig l rs pl rs.length↔x∈qo l rs pl:=by
 unfold ig qo yh
 constructor
 .intro h
  obtain⟨j,hj,e⟩:=bP.mp h
  have hj:=cR.mp hj
  rw[dZ] at hj
  exact bP.mpr ⟨j,cR.mpr ⟨hj.1,hj.2.1⟩,e⟩
 .intro h
  obtain⟨j,hj,e⟩:=bP.mp h
  have hj:=cR.mp hj
  refine bP.mpr ⟨j,cR.mpr ⟨hj.1,?_⟩,e⟩
  rw[hj.2,e,aH hx]
  rfl
theorem acB{x:Str}(h:dJ x=true):46∉x.cps.toList:=λm=>by
 unfold dJ at h
 simp only[dZ] at h
 have:=h.2.2
 unfold jL at this
 have:=ff (jR.mp this 46 m)
 rw[Fe] at this
 obtain⟨k,_,e⟩:=bP.mp this
 omega
def jN(l:List Str)(rs:List (List C2))(pl:Nat)(x:Str):Bool:=da x (aF l (ao rs pl)) && !decide (x∈ig l rs pl rs.length)
theorem acC{l:List Str}{rs:List (List C2)}{pl:Nat}{ws:List Str}(h:∀x∈ws,dJ x=true):oC l rs pl ws=cx (ws.filter (jN l rs pl)):=by
 unfold oC
 rw[<-acy,List.filter_filter]
 congr 1
 apply List.filter_congr
 intro x mx
 unfold jN
 have:=acA (l:=l) (rs:=rs) (pl:=pl) (acB (h x mx))
 rw[Bool.and_comm]
 congr 2
 by_cases z:x∈qo l rs pl
 .rw[aG z,aG (this.mpr z)]
 .rw[aH z,aH (λy=>z (this.mp y))]
theorem acD{α:Type}{ws:List α}{i:Nat}{x:α}(hx:ws[i]? = some x)(f:α->Bool):(ws.take (i+1)).filter f=(ws.take i).filter f++if f x=true then [x] else []:=by
 rw[gq,hx,jS]
 show _++[x].filter f=_
 rw[d5,oY]
def uO(x t:Str)(i:Nat):Bool := !lr (x.cps.toList.getD i 0) (t.cps.toList.getD i 0)
theorem acE{x t:Str}(h:x.length=t.length):da x t=decide ((List.range t.length).filter (uO x t)=[]):=by
 unfold da
 rw[aG h,tH,h]
 by_cases z:(List.range t.length).filter (uO x t)=[]
 .rw[aG z,jR]
  intro i mi
  have:=UX.mp z i mi
  unfold uO at this
  simpa using this
 .rw[aH z,gR]
  intro y
  refine z (UX.mpr λi mi=>?_)
  have:=jR.mp y i mi
  unfold uO
  rw[this]
  decide
theorem GS(K:PySem.W.Frag)(H:Hp):∀is:List Nat,dO K H (is.map λ(i:Nat)=>D.int (0+(i:Int))) (is.map λ(i:Nat)=>V.int (0+(i:Int)))
 |[]=>rfl
 |i::r=>⟨.int (0+(i:Int)),r.map λ(i:Nat)=>V.int (0+(i:Int)),rfl,rfl,GS K H r⟩
theorem OL(is:List Nat):dep (.lst (is.map λ(i:Nat)=>D.int (0+(i:Int))))<=50:=by
 have:fA (is.map λ(i:Nat)=>D.int (0+(i:Int)))=0:=by
  induction is with
  |nil=>rfl
  |cons x r ih=>rw[bX,fA,ih];rfl
 rw[dep,this]
 decide
theorem OM(is:List Nat):eX (.lst (is.map λ(i:Nat)=>D.int (0+(i:Int)))) (.lst [])=decide (is=[]):=by
 cases is <;> rfl
theorem acF(c d:Nat):decide ((⟨#[d]⟩:Str)∈[(".":Str),⟨#[c]⟩])=lr c d:=by
 rw[Oe]
 unfold lr
 have e:∀a b:Nat,((⟨#[a]⟩:Str)=⟨#[b]⟩)↔a=b:=λa b=>⟨λz=>(List.cons.inj (show [a]=[b] from eD (λy:Str=>y.cps.toList) z)).1,λz=>by rw[z]⟩
 rw[<-Bool.decide_or]
 congr 1
 rw[bS,cI,e,e]
theorem ON{n i:Nat}{v:V}(h:((List.range n).map λ(i:Nat)=>V.int (0+(i:Int)))[i]? = some v):i<n/\v = .int (0+(i:Int)):=by
 rw[bu] at h
 cases e:(List.range n)[i]? with
 |none=>rw[e] at h;cases h
 |some j=>
  obtain⟨hi,OO⟩:=cn.mp e
  rw[kG] at hi
  rw[List.getElem_range] at OO
  subst OO
  rw[e] at h
  cases h
  exact⟨hi,rfl⟩
def eS(l:List Str)(w:Nat):List Str:=(aI l w).map (aF l)
def ki(l:List Str):Bool:=l.any λx=>decide (46∈x.cps.toList)
def ij(ks:List Str)(l:List Str)(w:Nat):Bool := !ki l&&(decide (eS l w).Nodup&&(eS l w).all λx=>decide (x∈ks))
theorem OP{h w:Nat}{c:C2}(h1:c.1<h)(h2:c.2<w):c∈cells h w:=bE (xF (w:=w) h1 h2)
theorem GU{kvs:List (Key×V)}(t:mh kvs)(x:Str):(aQ kvs (Sum.inr x:Key)).isSome=decide (x∈bb kvs):=by
 cases e:aQ kvs (Sum.inr x:Key) with
 |none=>
  refine(aH λm=>L3 e ?_).symm
  unfold bb at m
  obtain⟨q,hq,eq⟩:=bP.mp m
  obtain⟨y,ey⟩:=t q hq
  rw[ey] at eq
  have eq:y=x:=eq
  exact bP.mpr ⟨q,hq,by rw[ey,eq]⟩
 |some v=>
  refine(aG ?_).symm
  obtain⟨q,hq,e1⟩:=bP.mp (L4 e)
  unfold bb
  exact bP.mpr ⟨q,hq,by rw[e1]⟩
theorem acG{kvs:List (Key×V)}{x:Str}(v:V)(e:aQ kvs (Sum.inr x:Key)=none):bb (putK kvs (Sum.inr x) v)=bb kvs++[x]:=by
 rw[tZ v e]
 unfold bb
 rw[eK]
 rfl
theorem acH{kvs:List (Key×V)}{x:Str}(n:x∉bb kvs):aQ kvs (Sum.inr x:Key)=none:=by
 cases e:aQ kvs (Sum.inr x:Key) with
 |none=>rfl
 |some v=>
  refine absurd ?_ n
  have m:=L4 e
  obtain⟨q,hq,e1⟩:=bP.mp m
  unfold bb
  exact bP.mpr ⟨q,hq,by rw[e1]⟩
theorem yi(kvs:List (Key×V)):(bb kvs).length=kvs.length:=by unfold bb;rw[ax]
theorem acI{ks l:List Str}{w:Nat}(h1:ki l=false)(h2:(eS l w).Nodup)(h3:∀x∈eS l w,x∈ks):ij ks l w=true:=by
 unfold ij
 rw[h1,aG h2,jR.mpr λx m=>aG (h3 x m)]
 rfl
theorem OQ{ks l:List Str}{w:Nat}(h:ij ks l w=true):ki l=false/\(eS l w).Nodup/\∀x∈eS l w,x∈ks:=by
 unfold ij at h
 rw[dZ,dZ] at h
 exact⟨by simpa using h.1,ff h.2.1,λx m=>ff (jR.mp h.2.2 x m)⟩
theorem acJ(l:List Str)(w:Nat):(eS l w).length=(dF l w).length:=by unfold eS;rw[ax,sD,ax]
def uP(kvs:List (Key×V)):Prop := ∀q∈kvs,∃n,q.2=V.int n
def uQ(kvs:List (Key×V))(x:Str):Int:=match aQ kvs (Sum.inr x:Key) with | some (.int n)=>n | _=>0
theorem acK{kvs:List (Key×V)}{k:Key}{v:V}(h:aQ kvs k=some v):∃q∈kvs,q.1=k/\q.2=v:=by
 unfold aQ at h
 cases e:kvs.find? (λkv=>decide (kv.1=k)) with
 |none=>rw[e] at h;cases h
 |some q=>
  rw[e] at h
  exact⟨q,List.mem_of_find?_eq_some e,ff (by simpa using List.find?_some e),dm h⟩
theorem acL{kvs:List (Key×V)}{x:Str}(t:mh kvs)(hi:uP kvs)(m:x∈bb kvs):aQ kvs (Sum.inr x:Key)=some (.int (uQ kvs x)):=by
 have:=GU t x
 rw[aG m] at this
 cases e:aQ kvs (Sum.inr x:Key) with
 |none=>rw[e] at this;cases this
 |some v=>
  obtain⟨q,hq,_,e2⟩:=acK e
  obtain⟨n,en⟩:=hi q hq
  have ev:v = .int n:=by rw[<-e2,en]
  unfold uQ
  rw[e,ev]
section
variable{P:Program}{w:World}{K:PySem.W.Frag}{mg:Str->Option Value}{base:Heap}{f:Addr}{fd:FuncData}
def Bk(K:PySem.W.Frag):Sp:=λvs H Q _=>∃(ww g a:Addr) (ws:List Str) (l:List Str) (w pl:Nat) (zs:List V),vs=[.ref ww,.ref g,.ref a,.int pl]/\H ww=some (.lst (ws.map V.str))/\ws.length<64/\(∀x∈ws,dJ x=true)/\aq K H a (l.map V.str)/\bj l w/\H g=some (.lst zs)/\gi g H (aI l w) zs/\pl<(aI l w).length/\
 ∀t H',H t=none->af H H'->H' t=some (.lst ((oC l (aI l w) pl ws).map V.str))->Q (.ref t) H'
theorem qr:bw ["_law_words_here","_law_rows_here","_law_sheet_here","_law_place","_law_text_here","_law_taken","_law_k","_law_other","_law_found","_law_word","_law_wrong"] ["_law_words_here","_law_rows_here","_law_sheet_here","_law_place"] (aW (top 65)):=⟨rfl,rfl,rfl,by decide +kernel,rfl,by decide +kernel,by decide +kernel⟩
theorem acM(B:Bl mg)(F:bq K "_law_left" "_law_left" (top 65) f fd)(sL:Fn P w K mg base "_law_text" 1 (x8 K)):aS P w K mg base aY 2 f fd ["_law_words_here","_law_rows_here","_law_sheet_here","_law_place"] (Bk K):=by
 refine F.ok qr (λvs H Q E h=>?_) (λaL A outer s H vs Q E hr h=>?_)
 .refine hide λG_ aK=>?_
  obtain⟨ww,g,a,ws,l,w,pl,zs,rfl,_⟩:=h
  refine aK.k ?_
  rfl
 .refine hide λG_ aN=>?_
  obtain⟨ww,g,a,ws,l,wd,pl,zs,rfl,hW,eO,iK,hT,S,hG,hR,hpl,q⟩:=h
  refine aN.k ?_
  have hu:=hr.units
  refine⟨_,(au (aO (i:=4) qr.nd rfl (Or.inr rfl) (ba sL (hr.mono (by decide)) (by rfl) (ab (pv 2) (ab (aV gC (pv 1) (pv 3) (λ_ _=>rfl)) ah))))
   (au (aO (i:=5) qr.nd rfl (Or.inl rfl) (fm ah))
   (au (cM cL rfl (iW (by rfl) B.i8 (ab (bp d9 (by rfl) B.cf bZ (ab (pv 1) ah)) ah)) (bK (i:=6) qr.nd rfl (Or.inl rfl))
   (au (aO (i:=7) qr.nd rfl (Or.inl rfl) (ba sL (hr.mono (by decide)) (by rfl) (ab (pv 2) (ab (aV gC (pv 1) (pv 6) (λ_ _=>rfl)) ah))))
    (az (bJ (PW.pt (tM (bT iY (pv 6) (pv 3) (cq _)) (tL (bT Ld eM (pv 7) rfl))))
    (az (fg (fq jq jT jU gY (pv 5) (ab (pv 7) ah))))
    bR))))
   (au (aO (i:=8) qr.nd rfl (Or.inl rfl) (fm ah))
   (au (cM cL rfl (dQ (pv 0)) (bK (i:=9) qr.nd rfl (Or.inr rfl))
   (az (bJ (PW.pt (tM (bT j3 (bp fY (by rfl) B.cf bZ (ab (pv 9) ah)) (bp fY (by rfl) B.cf bZ (ab (pv 4) ah)) (cq _)) (tL (bT wM (pv 9) (pv 5) rfl))))
    (au (uf (i:=10) qr.nd rfl (Or.inl rfl) (js:=[4,9]) (ns:=["_law_text_here","_law_word"]) (iW (by rfl) B.i8 (ab (bp fY (by rfl) B.cf bZ (ab (pv 4) ah)) ah)) rfl rfl rfl rfl (λ_ _ _ _=>(nM (Mr (K:=K) (rr:=λK=>wL K true) rfl wM (aV gW (pv 1) (pv 0) (λ_ _=>rfl)) (fm (ab eM (ab (aV gW (pv 2) (pv 0) (λ_ _=>rfl)) ah))) rfl))) (λ_ _ _ _=>(pv 0)))
     (az (bJ (bT (Xx hu) (pv 10) (fm ah) (cq _))
     (az (fg (fq jq jT jU gY (pv 8) (ab (pv 9) ah))))
     bR)))
    bR)))
   (az (aX (bp Ey (by rfl) B.xM w6 (ab (pv 8) ah))))))))),?_⟩
  try dsimp only[bF]
  have hlz:=hR.length
  have mS:=uG S
  rw[<-Bj] at mS
  rw[acC iK] at q
  refine hide λG_ bt=>?_
  obtain⟨v0,Bm⟩:∃v,zs[pl]? = some v:=⟨_,bg (by omega)⟩
  obtain⟨r0,hr0,p0,sN,rfl,_,fc,mR⟩:=Paired.get hR Bm
  refine bt.k ?_
  have GV:=kh S (bE hr0)
  have e0:ao (aI l wd) pl=r0:=cu hr0
  refine⟨_,rfl,_,rfl,_,rfl,g,_,_,.ref p0,rfl,rfl,aj.of hG,dH Bm,a,p0,l,wd,r0,sN,rfl,hT,S,fc,mR,by omega,λc hc=>⟨(GV.2.2 c hc).1,(GV.2.2 c hc).2.1⟩,λH1 s1=>?_⟩
  rw[<-e0]
  have NB:(aF l (ao (aI l wd) pl)).length<=9:=by rw[e0,ie];exact GV.2.1
  refine⟨bC _,λtk gy=>?_⟩
  have acN:=s1.free gy
  have fC:=s1.trans (af.upd (o:=HO.lst []) gy)
  have GW:=uM (af.upd (o:=HO.lst []) gy)
  revert fC GW
  generalize upd H1 tk (.lst [])=H2
  intro fC GW
  refine⟨_,rfl,g,_,rfl,.inl (aj.of (fC _ _ hG)),_,rfl,by omega,by omega,?_⟩
  rw[dY,<-hlz]
  refine j9 (λi σ H2=>∃(v6 v7:Option V),σ=[some (.ref ww),some (.ref g),some (.ref a),some (.int pl),some (.str (aF l (ao (aI l wd) pl))),some (.ref tk),v6,v7,none,none,none]/\af H H2/\H2 tk=some (.lst ((ig l (aI l wd) pl i).map V.str)))
   ⟨none,none,rfl,fC,GW⟩ ?_ ?_
  .intro i σ H3 hi acO
   refine hide λG_ cD=>?_
   obtain⟨v6,v7,rfl,sm,Bn⟩:=acO
   obtain⟨v,hv⟩:∃v,zs[i]? = some v:=⟨_,bg (by omega)⟩
   obtain⟨r,gj,p,ys,rfl,_,hp,hc⟩:=Paired.get hR hv
   refine cD.k ?_
   have br:=kh S (bE gj)
   have er:ao (aI l wd) i=r:=cu gj
   refine⟨_,rfl,_,rfl,_,rfl,g,_,_,.ref p,rfl,rfl,aj.of (sm _ _ hG),dH hv,a,p,l,wd,r,ys,rfl,sm.tup hT,S,sm _ _ hp,hc.mono sm,by omega,λc hc=>⟨(br.2.2 c hc).1,(br.2.2 c hc).2.1⟩,λH4 s4=>?_⟩
   have dS:=sm.trans s4
   have Bo:=s4 _ _ Bn
   have ef:(!(Builtin.Str.occurrences (aF l r) (Str.ofString ".") 0 (aF l r).length 1).isEmpty)=decide (46∈(aF l r).cps.toList):=by
    rw[uB]
    exact Df (aF l r) 46
   have et:=acz l (aI l wd) pl i
   unfold yh at et
   rw[er] at et
   refine⟨_,rfl,_,rfl,rfl,_,rfl,?_⟩
   rw[dIn]
   by_cases OR:i=pl
   .rw[aG OR] at et ⊢
    refine aT (aT ⟨_,_,rfl,dS,?_⟩)
    rw[et]
    show H4 tk=some (.lst ((ig l (aI l wd) pl i++[]).map V.str))
    rw[gm]
    exact Bo
   .rw[aH OR] at et ⊢
    refine bG ⟨_,rfl,_,_,rfl,rfl,_,rfl,?_⟩
    rw[ef]
    by_cases dr:46∈(aF l r).cps.toList
    .rw[aG dr] at et ⊢
     refine aT ⟨_,_,rfl,dS,?_⟩
     rw[et]
     show H4 tk=some (.lst ((ig l (aI l wd) pl i++[]).map V.str))
     rw[gm]
     exact Bo
    .rw[aH dr] at et ⊢
     have eW:(ig l (aI l wd) pl i).length<=i:=by
      unfold ig
      rw[ax]
      exact bO (iQ _ _) (by rw[kG];exact aP _)
     refine bG ⟨_,rfl,.inl ⟨rfl,_,aj.of Bo⟩,_,rfl,tk,_,_,rfl,rfl,Bo,A8 (by rw[ax];omega),?_⟩
     refine⟨_,_,rfl,dS.j8 acN,?_⟩
     rw[ar,et]
     show _=some (HO.lst ((ig l (aI l wd) pl i++[aF l r]).map V.str))
     rw[eK]
     rfl
  .rintro σ H3 ⟨v6,v7,rfl,sm,Bn⟩
   refine⟨bC _,λfo cF=>?_⟩
   have acP:=sm.free cF
   have nft:fo≠tk:=λz=>by rw[z,Bn] at cF;cases cF
   have Bp:=sm.trans (af.upd (o:=HO.lst []) cF)
   have GX:=(af.upd (o:=HO.lst []) cF) _ _ Bn
   have oE:=uM (af.upd (o:=HO.lst []) cF)
   revert Bp GX oE
   generalize upd H3 fo (.lst [])=H4
   intro Bp GX oE
   have eE:((ig l (aI l wd) pl (aI l wd).length).map V.str).all j6=true:=by rw[tE];exact jR.mpr λ_ _=>rfl
   refine⟨_,rfl,ww,rfl,⟨_,aj.of (Bp _ _ hW)⟩,?_⟩
   refine j2 (xs:=ws.map V.str) (λi σ H2=>∃(v9 v10:Option V),σ=[some (.ref ww),some (.ref g),some (.ref a),some (.int pl),some (.str (aF l (ao (aI l wd) pl))),some (.ref tk),v6,v7,some (.ref fo),v9,v10]/\af H H2/\H2 tk=some (.lst ((ig l (aI l wd) pl (aI l wd).length).map V.str))/\H2 fo=some (.lst (((ws.take i).filter (jN l (aI l wd) pl)).map V.str)))
    ⟨none,none,rfl,Bp,GX,oE⟩ (λi σ H2 _ ⟨_,_,_,sm',_⟩=>aj.of (sm' _ _ hW)) ?_ ?_
   .intro i y σ H5 hy acQ
    refine hide λG_ cJ=>?_
    obtain⟨v9,v10,rfl,qi,Bq,yj⟩:=acQ
    refine cJ.k ?_
    rw[bu] at hy
    cases e:ws[i]? with
    |none=>rw[e] at hy;cases hy
    |some x=>
     rw[e] at hy
     cases hy
     have hi:=(cn.mp e).1
     have gh:=xX (iK x (bE e))
     have ek:=acD e (jN l (aI l wd) pl)
     have same:∀H6 v10,af H5 H6->jN l (aI l wd) pl x=false->∃(v9 acR:Option V),[some (.ref ww),some (.ref g),some (.ref a),some (.int pl),some (.str (aF l (ao (aI l wd) pl))),some (.ref tk),v6,v7,some (.ref fo),some (V.str x),v10]=[some (.ref ww),some (.ref g),some (.ref a),some (.int pl),some (.str (aF l (ao (aI l wd) pl))),some (.ref tk),v6,v7,some (.ref fo),v9,acR]/\af H H6/\H6 tk=some (.lst ((ig l (aI l wd) pl (aI l wd).length).map V.str))/\H6 fo=some (.lst (((ws.take (i+1)).filter (jN l (aI l wd) pl)).map V.str)):=λH6 v10 s6 hb=>by
      refine⟨_,_,rfl,qi.trans s6,s6 _ _ Bq,?_⟩
      rw[ek,hb,aw cj,gm]
      exact s6 _ _ yj
     refine⟨_,rfl,x,rfl,dX (by omega),_,rfl,_,rfl,dX (by omega),rfl,_,rfl,?_⟩
     rw[Gp]
     by_cases hl:x.length=(aF l (ao (aI l wd) pl)).length
     .rw[aG hl]
      refine bG ⟨_,rfl,_,rfl,tk,_,rfl,.inl (aj.of Bq),rfl,eE,_,rfl,?_⟩
      rw[GR,aA rfl]
      by_cases hm:x∈ig l (aI l wd) pl (aI l wd).length
      .rw[aG hm]
       exact aT (same H5 _ (af.cQ _) (by unfold jN;rw[aG hm];simp))
      .rw[aH hm]
       refine bG ⟨_,rfl,_,rfl,dX (by omega),_,rfl,by omega,by omega,?_⟩
       rw[dY]
       generalize yk:aF l (ao (aI l wd) pl)=tx at *
       refine ma Mi (by rw[ax,kG];omega) (uO x tx) (λ_ i y _=>y = .int (0+(i:Int))) (λ_ _=>trivial) (λ_ _ _ _ _ _ _ _ h=>h) ?_ ?_
       .intro D2 j v H6 Z0 Z jM hv s6 _ k0 k1
        obtain⟨hj,rfl⟩:=ON hv
        have Gq:x.cps.toList[j]? = some (x.cps.toList.getD j 0):=by
         rw[bQ,bg (by rw[cC];omega)]
         rfl
        have hgt:tx.cps.toList[j]? = some (tx.cps.toList.getD j 0):=by
         rw[bQ,bg (by rw[cC];omega)]
         rfl
        have a1:iA x.cps.toList (0+(j:Int))=some (x.cps.toList.getD j 0):=by rw[CZ];exact dH Gq
        have a2:iA tx.cps.toList (0+(j:Int))=some (tx.cps.toList.getD j 0):=by rw[CZ];exact dH hgt
        refine⟨_,rfl,_,rfl,tx,_,_,rfl,rfl,dX (by omega),a2,_,rfl,_,rfl,x,_,_,rfl,rfl,dX (by omega),a1,(by show 2<=sizeLine;decide),λlp lj=>?_⟩
        refine⟨lp,_,rfl,.inl (aj.of ar),rfl,rfl,_,rfl,?_⟩
        have ei:iZ (.str ⟨#[tx.cps.toList.getD j 0]⟩) [V.str (Str.ofString "."),V.str ⟨#[x.cps.toList.getD j 0]⟩]=lr (x.cps.toList.getD j 0) (tx.cps.toList.getD j 0):=by
         rw[<-acF]
         exact GR _ [(".":Str),⟨#[x.cps.toList.getD j 0]⟩]
        rw[ei,aA rfl]
        refine fw (λh=>?_) (λh=>?_)
        .exact⟨_,rfl,k1 _ _ (af.upd lj) h rfl⟩
        .exact k0 _ (af.upd lj) (gR.mpr h)
       .intro D2 ys H6 jM kf s6 oq
        have e2:=mI oq
        rw[ax,kG] at e2
        rw[e2] at kf
        refine⟨_,rfl,bC _,λen yl=>?_⟩
        have sE:=s6.trans (af.upd (o:=HO.lst []) yl)
        refine⟨.lst (((List.range tx.length).filter (uO x tx)).map λ(i:Nat)=>D.int (0+(i:Int))),.lst [],⟨D2,_,rfl,aj.of ((af.upd yl) _ _ kf),GS _ _ _⟩,⟨en,_,rfl,aj.of ar,rfl⟩,.inr ⟨_,_,rfl,rfl⟩,OL _,_,rfl,?_⟩
        rw[OM,<-acE hl]
        refine fw (λh=>?_) (λh=>?_)
        .have h:da x tx=true:=by simpa using h
         have hb:jN l (aI l wd) pl x=true:=by
          unfold jN
          rw[yk,h,aH hm]
          rfl
         have uR:=sE _ _ yj
         have:=iQ (jN l (aI l wd) pl) (ws.take i)
         have:=List.length_take_le i ws
         refine⟨_,rfl,.inl ⟨rfl,_,aj.of uR⟩,_,rfl,fo,_,_,rfl,rfl,uR,A8 (by rw[ax];omega),?_⟩
         refine⟨_,_,rfl,(qi.trans sE).j8 acP,by rw[ak (bo nft)];exact sE _ _ Bq,?_⟩
         rw[ar,ek,hb,aA rfl,eK]
         rfl
        .have h:da x tx=false:=by simpa using h
         exact same _ _ sE (by unfold jN;rw[yk,h];rfl)
     .rw[aH hl]
      exact aT (aT (same H5 _ (af.cQ _) (by unfold jN da;rw[aH hl];rfl)))
   .intro σ H5 acS
    refine hide λG_ gK=>?_
    obtain⟨v9,v10,rfl,qi,Bq,yj⟩:=acS
    refine gK.k ?_
    rw[ax,gu (aP _)] at yj
    have:=iQ (jN l (aI l wd) pl) ws
    exact⟨_,rfl,fo,_,rfl,aj.of yj,by omega,λt ht=>q t _ (qi.free ht) (qi.trans (af.upd ht)) ar⟩
end
open PySem.StrLaws PySem.Builtin.Str in
theorem GY(x:Str)(c:Nat):∀(k i free:Nat) (found:Array Nat),i+k=x.length+1->free<=i->i<=x.length+1->found.size=(x.cps.toList.take i).count c->(forIn (List.range' i k) (found,free) (occBody x ⟨#[c]⟩ x.length (x.length+1))).run.fst.toList.length=x.cps.toList.count c
 |0,i,free,found,h,hf,hi,hs=>by
  show found.toList.length=_
  rw[lI,hs,gu]
  rw[cC]
  omega
 |k+1,i,free,found,h,hf,hi,hs=>by
  rw[List.range'_succ,Ke]
  unfold occBody
  have eW:(x.cps.toList.take i).count c<=i:=bO List.count_le_length (by rw[jQ];omega)
  by_cases hc:x.cps.toList[i]? = some c
  .obtain⟨c1,c2⟩:=(subAt_one x c i).mpr hc
   have c1':i+1<=x.length:=c1
   rw[aA ⟨⟨⟨by show found.size<_;omega,hf⟩,c1⟩,c2⟩]
   refine GY x c k (i+1) (i+1) (found.push i) (by omega) (aP _) (by omega) ?_
   rw[Kq,hs,gq,hc,KA]
   simp
  .rw[aw (λz=>hc ((subAt_one x c i).mp ⟨z.1.2,z.2⟩))]
   refine GY x c k (i+1) free found (by omega) (by omega) (by omega) ?_
   rw[hs,gq,KA]
   cases e:x.cps.toList[i]? with
   |none=>simp
   |some d=>
    have:d≠c:=λz=>hc (by rw[e,z])
    simp[this]
open PySem.StrLaws in
theorem acT(x:Str)(c:Nat):Txt.count x ⟨#[c]⟩=((x.cps.toList.count c:Nat):Int):=by
 unfold Txt.count
 rw[occ_eq]
 congr 1
 exact GY x c (x.length+1) 0 0 #[] (by omega) (aP _) (bC _) rfl
theorem acU(x:List Nat)(w:Nat)(h:x.length=w):((List.range w).filter λj=>!decide (x.getD j 0=35)).length+x.count 35=w:=by
 subst h
 induction x with
 |nil=>rfl
 |cons a r ih=>
  rw[dg,Kg,d5,zu,KC]
  have e:((λj=>!decide ((a::r).getD j 0=35))∘Nat.succ)=λj=>!decide (r.getD j 0=35):=by funext j;rfl
  rw[e]
  by_cases z:a=35
  .subst z
   simp only[List.getD_cons_zero,decide_true,wk,gn,fG,ax,Kh,jk]
   omega
  .have:¬(a==35)=true:=by simpa using z
   rw[aw this]
   simp only[List.getD_cons_zero,aH z,Bool.not_false,jk,dg,ax]
   omega
theorem OS(l:List Str)(w:Nat):∀n,((cells n w).filter (cb l)).length=((List.range n).map λi=>((List.range w).filter λj=>!decide ((l.getD i ⟨#[]⟩).cps.toList.getD j 0=35)).length).sum
 |0=>rfl
 |n+1=>by
  rw[Ff,jS,dw,OS l w n,lK,eK,C4,zu,ax]
  simp only[bX,vW,fT,List.sum_nil,Nat.add_zero]
  rfl
theorem OT:∀l:List Nat,((l.sum:Nat):Int)=(l.map λ(n:Nat)=>(n:Int)).sum
 |[]=>rfl
 |a::r=>by rw[fT,bX,fT,<-OT r];simp
theorem acV{α β:Type}(g:α->β)(d:α)(l:List α):(List.range l.length).map (λi=>g (l.getD i d))=l.map g:=mJ g d l
theorem acW{l:List Str}{w:Nat}(S:bj l w):((bV l w).length:Int)=(ow l).sum:=by
 unfold bV ow
 rw[OS,acV (λx:Str=>((List.range w).filter λj=>!decide (x.cps.toList.getD j 0=35)).length),OT,jV]
 congr 1
 refine List.map_congr_left λx mx=>?_
 have hl:=S.len x mx
 have e:=acU x.cps.toList w (by rw[cC];exact hl)
 have e2:Txt.count x "#"=((x.cps.toList.count 35:Nat):Int):=by rw[<-acT,<-qc]
 show((((List.range w).filter λj=>!decide (x.cps.toList.getD j 0=35)).length:Nat):Int)=(x.length:Int) - Txt.count x "#"
 rw[e2,hl]
 omega
theorem OU{cs:List C2}(nd:cs.Nodup):∀{r:List C2},(∀c∈r,c∈cs)->(cs.map λc=>r.count c).sum=r.length
 |[],_=>by
  rw[xK]
  .rfl
  .intro y my
   obtain⟨c,_,rfl⟩:=bP.mp my
   rfl
 |a::r,h=>by
  have ih:=OU nd (r:=r) λc m=>h c (cg _ m)
  have e:∀xs:List C2,(xs.map λc=>(a::r).count c).sum=(xs.map λc=>r.count c).sum+xs.count a:=by
   intro xs
   induction xs with
   |nil=>rfl
   |cons x t GZ=>
    rw[bX,fT,GZ,bX,fT,KC,KC]
    by_cases z:a=x
    .subst z
     simp
     omega
    .have z1:¬(a==x)=true:=by simpa using z
     have z2:¬(x==a)=true:=by simpa using λy=>z y.symm
     rw[aw z1,aw z2]
     omega
  rw[e,ih,dg,List.Nodup.count nd,aA (h a bL)]
theorem OV{cs:List C2}(nd:cs.Nodup):∀{rs:List (Nat×List C2)},(∀q∈rs,∀c∈q.2,c∈cs)->(cs.map λc=>dk c rs).sum=(rs.map λq=>q.2.length).sum
 |[],_=>by
  rw[xK]
  .rfl
  .intro y my
   obtain⟨c,_,rfl⟩:=bP.mp my
   rfl
 |q::rs,h=>by
  have ih:=OV nd (rs:=rs) λp m=>h p (cg _ m)
  have e:∀xs:List C2,(xs.map λc=>dk c (q::rs)).sum=(xs.map λc=>q.2.count c).sum+(xs.map λc=>dk c rs).sum:=by
   intro xs
   induction xs with
   |nil=>rfl
   |cons x t GZ=>
    rw[bX,fT,GZ,bX,fT,bX,fT]
    have:dk x (q::rs)=q.2.count x+dk x rs:=by unfold dk;rw[bX,fT]
    omega
  rw[e,ih,OU nd (h q bL),bX,fT]
theorem OW:∀{l:List Nat},(∀x∈l,x<=2)->l.sum=2*l.length->∀x∈l,x=2
 |[],_,_,x,m=>by cases m
 |a::r,h,e,x,m=>by
  rw[fT,dg] at e
  have ha:=h a bL
  have hr:r.sum<=2*r.length:=by
   clear e m ha
   have h':∀x∈r,x<=2:=λy my=>h y (cg _ my)
   clear h
   induction r with
   |nil=>exact aP _
   |cons b t ih=>
    rw[fT,dg]
    have:=h' b bL
    have:=ih λy my=>h' y (cg _ my)
    omega
  rcases bS.mp m with z | z
  .omega
  .exact OW (λy my=>h y (cg _ my)) (by omega) x z
theorem OX{l:List Str}{w:Nat}(c:C2):dk c (dF l w)=dk c (pZ l w)+dk c (qb l w):=by
 unfold dF dk
 rw[eK,C4]
def lA(l:List Str)(w:Nat):Prop := ∀c,bx l w c=true->dk c (dF l w)=2
theorem OY{l:List Str}{w:Nat}(S:bj l w)(h:yb l w=true):lA l w:=by
 have h:=ff h
 rw[<-acW S] at h
 have e1:((bV l w).map λc=>dk c (dF l w)).sum=((aI l w).map (·.length)).sum:=by
  rw[OV (Fv l w) λq mq c mc=>?_,sD,jV]
  .rfl
  .have hc:=(FR mq).2 c mc
   exact AO (by rw[se hc.1 hc.2.1];exact hc.2.2)
 have e2:((bV l w).map λc=>dk c (dF l w)).sum=2*((bV l w).map λc=>dk c (dF l w)).length:=by
  rw[e1,ax]
  omega
 intro c hc
 refine OW (λx mx=>?_) e2 _ (Dg (AO hc))
 obtain⟨d,_,rfl⟩:=bP.mp mx
 rw[OX,NP S,NQ S]
 split <;> split <;> omega
def oF(l:List Str)(w:Nat):Prop := ∃c,bx l w c=true
theorem acX{l:List Str}{w:Nat}{c:C2}(h:hX (bx l w) (0,1) c=true):∃d:C2,bx l w d=true/\d.1=c.1/\d.2≠c.2:=by
 unfold hX hV at h
 rw[dZ,vX,dZ,dZ] at h
 rcases h.2 with z | z
 .have h1:1<=c.2:=ff z.2.1
  exact⟨_,z.2.2,by show c.1 - 0=c.1;omega,by show c.2 - 1≠c.2;omega⟩
 .exact⟨_,z,by unfold go;show c.1+1*0=c.1;omega,by unfold go;show c.2+1*1≠c.2;omega⟩
theorem acY{l:List Str}{w:Nat}{c:C2}(h:hX (bx l w) (1,0) c=true):∃d:C2,bx l w d=true/\d.2=c.2/\d.1≠c.1:=by
 unfold hX hV at h
 rw[dZ,vX,dZ,dZ] at h
 rcases h.2 with z | z
 .have h1:1<=c.1:=ff z.1
  exact⟨_,z.2.2,by show c.2 - 0=c.2;omega,by show c.1 - 1≠c.1;omega⟩
 .exact⟨_,z,by unfold go;show c.2+1*0=c.2;omega,by unfold go;show c.1+1*1≠c.1;omega⟩
theorem oF.set{l:List Str}{w:Nat}(S:bj l w)(T:lA l w)(N:oF l w){c1 c2:C2}(a1:c1.1<l.length)(a2:c1.2<w)(b1:c2.1<l.length)(b2:c2.2<w):oF (setC (setC l c1 35) c2 35) w:=by
 obtain⟨c,hc⟩:=N
 have h2:=T c hc
 rw[OX,NP S,NQ S] at h2
 have hA:hX (bx l w) (0,1) c=true:=by
  by_cases z:hX (bx l w) (0,1) c=true
  .exact z
  .rw[aw z] at h2
   split at h2 <;> omega
 have hD:hX (bx l w) (1,0) c=true:=by
  by_cases z:hX (bx l w) (1,0) c=true
  .exact z
  .rw[aw z] at h2
   split at h2 <;> omega
 obtain⟨d,hd,d1,d2⟩:=acX hA
 obtain⟨e,he,e1,e2⟩:=acY hD
 have key:∀x:C2,bx l w x=true->x≠c1->x≠c2->oF (setC (setC l c1 35) c2 35) w:=λx hx n1 n2=>by
  obtain⟨x1,x2,x3⟩:=n9 hx
  refine⟨x,?_⟩
  rw[se (by rw[dC,dC];exact x1) x2]
  unfold cb at x3 ⊢
  rw[(S.eI.set (ch:=35) a1 a2).jK (by rw[dC];exact b1) b2 (by rw[dC];exact x1) x2,aw n2,S.eI.jK a1 a2 x1 x2,aw n1]
  exact x3
 by_cases z1:c=c1\/c=c2
 .by_cases z2:d=c1\/d=c2
  .refine key e he (λz=>?_) (λz=>?_)
   .rcases z1 with y1 | y1
    .rw[y1,z] at e2;exact e2 rfl
    .rcases z2 with y2 | y2
     .rw[z,<-y2,d1] at e2;exact e2 rfl
     .rw[y2,<-y1] at d2;exact d2 rfl
   .rcases z1 with y1 | y1
    .rcases z2 with y2 | y2
     .rw[y2,<-y1] at d2;exact d2 rfl
     .rw[z,<-y2,d1] at e2;exact e2 rfl
    .rw[y1,z] at e2;exact e2 rfl
  .exact key d hd (λz=>z2 (.inl z)) (λz=>z2 (.inr z))
 .exact key c hc (λz=>z1 (.inl z)) (λz=>z1 (.inr z))
theorem acZ{h w:Nat}(h1:0<h)(w1:0<w):oF (List.replicate h (gI "." w)) w:=by
 refine⟨(0,0),?_⟩
 rw[se (by rw[tj];exact h1) w1]
 unfold cb
 rw[GC (c:=(0,0)) h1 w1]
 rfl
section
variable{P:Program}{w:World}{K:PySem.W.Frag}{mg:Str->Option Value}{base:Heap}{f:Addr}{fd:FuncData}
def G0(K:PySem.W.Frag):Sp:=λvs H Q _=>∃(a:Addr) (l:List Str) (w:Nat),vs=[.ref a]/\aq K H a (l.map V.str)/\bj l w/\∀H',af H H'->Q (.bl (yb l w)) H'
theorem Br:bw ["_law_sheet_here","_law_many","_law_cells"] ["_law_sheet_here"] (aW (top 58)):=⟨rfl,rfl,rfl,by decide +kernel,rfl,by decide +kernel,by decide +kernel⟩
theorem ac0(B:Bl mg)(F:bq K "_law_good" "_law_good" (top 58) f fd)(oB:Fn P w K mg base "_law_rows" 3 (sF K)):aS P w K mg base aY 4 f fd ["_law_sheet_here"] (G0 K):=by
 refine F.ok Br (λvs H Q E h=>?_) (λaL A outer s H vs Q E hr h=>?_)
 .obtain⟨a,l,w,rfl,_⟩:=h
  rfl
 .refine hide λG_ aK=>?_
  obtain⟨a,l,wd,rfl,hT,S,q⟩:=h
  refine aK.k ?_
  have h9:=S.nine
  have hw:=S.w9
  refine⟨_,(au (aO (i:=1) Br.nd rfl (Or.inl rfl) aE)
   (au (cM cL rfl (dQ (ba oB (hr.mono (by decide)) (by rfl) (ab (pv 0) ah))) (bK (i:=2) Br.nd rfl (Or.inl rfl))
   (az (aO (i:=1) Br.nd rfl (Or.inl rfl) (aR eV (pv 1) (bp d9 (by rfl) B.cf bZ (ab (pv 2) ah))))))
   (az (aX (pG j3 (pv 1) (aR tT aE (bp (Yb rfl) (by rfl) B.aaD X8 (ab (i0 (js:=[]) (ns:=[]) (zU (pv 0)) rfl rfl rfl rfl (λ_ _ _ _=>jB) (λ_ _ _ _=>(aR pF (bp fY (by rfl) B.cf bZ (ab (pv 0) ah)) (Yd (K:=K) (rr:=λ_=>MD) rfl De PySem.F.slot_str_count PySem.F.type_str_count YG (pv 0) (ab eM ah))))) ah))) (cq _)))))),?_⟩
  try dsimp only[bF]
  refine⟨_,rfl,a,l,wd,rfl,hT,S,λg xs H1 hg s1 hL hR=>⟨g,rfl,⟨_,aj.of hL⟩,?_⟩⟩
  have GO:=hR.length
  refine j2 (xs:=xs) (λi σ H2=>∃v2,σ=[some (.ref a),some (.int (((((aI l wd).take i).map (·.length)).sum:Nat):Int)),v2]/\H2=H1) ⟨none,rfl,rfl⟩ (λi σ H2 _ ⟨_,_,e⟩=>by rw[e];exact aj.of hL) ?_ ?_
  .intro i x σ H2 hx ac1
   refine hide λG_ aN=>?_
   obtain⟨v2,rfl,rfl⟩:=ac1
   obtain⟨r,gj,p,ys,rfl,_,hp,hc⟩:=Paired.get hR hx
   refine aN.k ?_
   refine⟨_,rfl,_,rfl,p,_,rfl,.inl (aj.of hp),_,_,rfl,rfl,?_⟩
   refine⟨some (.ref p),?_,rfl⟩
   rw[gq,gj]
   simp only[Option.toList_some,eK,bX,vW,C4,fT,List.sum_nil,Nat.add_zero,Kx,hc.length]
   rfl
  .rintro σ H2 ⟨v2,rfl,rfl⟩
   rw[gu (by omega)]
   refine⟨_,rfl,_,rfl,a,rfl,⟨_,s1.tup hT⟩,?_⟩
   refine comp_map Em (by rw[ax];omega) (λ_ i y _=>y = .int ((ow l).getD i 0)) (λH3 s3=>(s1.trans s3).tup hT) (λ_ _ _ _ _ _ _ _ h=>h) ?_ ?_
   .intro D i z H3 Z hD hz s3 _ k1
    rw[bu] at hz
    cases e:l[i]? with
    |none=>rw[e] at hz;cases hz
    |some x=>
     rw[e] at hz
     cases hz
     have lx:=S.len x (bE e)
     refine⟨_,rfl,x,rfl,eG (by omega),_,rfl,rfl,_,_,rfl,rfl,_,_,rfl,rfl,k1 _ _ (af.cQ _) ?_⟩
     have:(ow l)[i]? = some ((x.length:Int) - (Txt.count x "#":Int)):=by unfold ow;rw[bu,e];rfl
     rw[cu this]
   .intro D ys H3 hD bA s3 pr
    have e:=mI pr
    have el:(l.map V.str).length=(ow l).length:=by unfold ow;rw[ax,ax]
    rw[el,mJ V.int] at e
    refine⟨D,ow l,rfl,aj.of (by rw[bA,e]),_,_,rfl,rfl,.inl ⟨by decide,by decide⟩,rfl,?_⟩
    have:=q H3 (s1.trans s3)
    unfold yb at this
    rw[GB]
    exact this
def G2(K:PySem.W.Frag):Sp:=λvs H Q _=>∃(c:Int),vs=[.int c]/\∀p l w H',af H H'->H' p=some (.tup (l.map V.str))->oy l w->lA l w->kg l w->oF l w->Q (.ref p) H'
theorem mT:bw ["_law_cell","_law_high","_law_wide","_law_sheet_here","_law_k","_law_spot","_law_other","_law_some"] ["_law_cell"] (aW (top 59)):=⟨rfl,rfl,rfl,by decide +kernel,rfl,by decide +kernel,by decide +kernel⟩
theorem ac2(B:Bl mg)(F:bq K "_law_floor" "_law_floor" (top 59) f fd)(mO:Fn P w K mg base "_law_with" 1 (mK K))(ac3:Fn P w K mg base "_law_good" 4 (G0 K)):aS P w K mg base aY 5 f fd ["_law_cell"] (G2 K):=by
 refine F.Y9 mT (λvs H Q E h=>?_) (λaL A outer s H vs Q E hr h=>?_)
 .obtain⟨c,rfl,_⟩:=h
  rfl
 .obtain⟨c,rfl,q⟩:=h
  refine⟨_,(Y8 (Y7 (Y6 gC (Y5 (rT rV (rT rV (rT rV (rT rV (rT rV (rT rV (rT rV Y4 rfl) rfl) rfl) rfl) rfl) rfl) rfl)) (aR fh (pv 0) aE) (λ_ _=>rfl)) (j1 rfl (d7 (bK (i:=1) mT.nd rfl (Or.inl rfl)) (d7 (bK (i:=2) mT.nd rfl (Or.inl rfl)) j0)))) (au (aO (i:=3) mT.nd rfl (Or.inl rfl) (iz wN (by rfl) B.sf rM (ab (aR WQ (fm (ab (aR YF eM (pv 2)) ah)) (pv 1)) ah (hs:=dq rfl))))
   (au (cM cL rfl (iW (by rfl) B.i8 (ab (aR fh (aR iX (pv 0) aE) aE) ah)) (bK (i:=4) mT.nd rfl (Or.inl rfl))
   (au (aO (i:=5) mT.nd rfl (Or.inl rfl) (aR fh (aR iX (aR iX (pv 0) aE) (aR eV (pv 4) aE)) (aR tT (pv 1) (pv 2))))
    (au (aO (i:=6) mT.nd rfl (Or.inl rfl) (aR pF (aR pF (aR tT (pv 1) (pv 2)) aE) (pv 5)))
    (au (aO (i:=7) mT.nd rfl (Or.inl rfl) (ba mO (hr.mono (by decide)) (by rfl) (ab (pv 3) (ab (fX (ab (aR iX (pv 5) (pv 2)) (ab (aR fh (pv 5) (pv 2)) ah))) (ab eM ah (hs:=dq rfl)) (hs:=dq rfl)) (hs:=dq rfl)) (he:=dq rfl) (hpl:=xt rfl)))
    (au (aO (i:=7) mT.nd rfl (Or.inl rfl) (ba mO (hr.mono (by decide)) (by rfl) (ab (pv 7) (ab (fX (ab (aR iX (pv 6) (pv 2)) (ab (aR fh (pv 6) (pv 2)) ah))) (ab eM ah (hs:=dq rfl)) (hs:=dq rfl)) (hs:=dq rfl)) (he:=dq rfl) (hpl:=xt rfl)))
    (az (pN (bJ (eU (ba ac3 (hr.mono (by decide)) (by rfl) (ab (pv 7) ah)))
    (az (aO (i:=3) mT.nd rfl (Or.inl rfl) (pv 7)))
    bR))))))))
   (az (aX (pv 3)))))),?_⟩
  try dsimp only[bF]
  have s2:2<=sizeLine:=by decide
  refine⟨s2,λp0 h0=>⟨s2,λp1 h1=>⟨s2,λp2 h2=>⟨s2,λp3 h3=>⟨s2,λp4 h4=>⟨s2,λp5 h5=>⟨s2,λp6 h6=>⟨by show 7<=sizeLine;decide,λpo hpo=>?_⟩⟩⟩⟩⟩⟩⟩⟩
  have t0:=af.upd (o:=HO.tup [V.int 3,V.int 3]) h0
  have t1:=af.upd (o:=HO.tup [V.int 2,V.int 2]) h1
  have t2:=af.upd (o:=HO.tup [V.int 2,V.int 3]) h2
  have t3:=af.upd (o:=HO.tup [V.int 3,V.int 2]) h3
  have t4:=af.upd (o:=HO.tup [V.int 3,V.int 3]) h4
  have t5:=af.upd (o:=HO.tup [V.int 2,V.int 4]) h5
  have t6:=af.upd (o:=HO.tup [V.int 4,V.int 2]) h6
  have t7:=af.upd (o:=HO.lst [V.ref p0,V.ref p1,V.ref p2,V.ref p3,V.ref p4,V.ref p5,V.ref p6]) hpo
  have d0:=nt c (show(7:Int)≠0 by decide)
  have d1:=qO c (show(0:Int)<7 by decide)
  have sA:=t0.trans (t1.trans (t2.trans (t3.trans (t4.trans (t5.trans (t6.trans t7))))))
  have g6:=t7 _ _ (ar (a:=p6) (o:=HO.tup [V.int 4,V.int 2]))
  have g5:=t7 _ _ (t6 _ _ (ar (a:=p5) (o:=HO.tup [V.int 2,V.int 4])))
  have g4:=t7 _ _ (t6 _ _ (t5 _ _ (ar (a:=p4) (o:=HO.tup [V.int 3,V.int 3]))))
  have g3:=t7 _ _ (t6 _ _ (t5 _ _ (t4 _ _ (ar (a:=p3) (o:=HO.tup [V.int 3,V.int 2])))))
  have g2:=t7 _ _ (t6 _ _ (t5 _ _ (t4 _ _ (t3 _ _ (ar (a:=p2) (o:=HO.tup [V.int 2,V.int 3]))))))
  have g1:=t7 _ _ (t6 _ _ (t5 _ _ (t4 _ _ (t3 _ _ (t2 _ _ (ar (a:=p1) (o:=HO.tup [V.int 2,V.int 2])))))))
  have g0:=t7 _ _ (t6 _ _ (t5 _ _ (t4 _ _ (t3 _ _ (t2 _ _ (t1 _ _ (ar (a:=p0) (o:=HO.tup [V.int 3,V.int 3]))))))))
  have gL:=uM t7
  revert sA g0 g1 g2 g3 g4 g5 g6 gL
  generalize upd _ po (HO.lst [V.ref p0,V.ref p1,V.ref p2,V.ref p3,V.ref p4,V.ref p5,V.ref p6])=HA
  intro sA g6 g5 g4 g3 g2 g1 g0 gL
  clear t0 t1 t2 t3 t4 t5 t6 t7
  refine hide λG_ aK=>?_
  obtain⟨pd,hh,ww,rR,qh,hd⟩:∃(pd:Addr) (hh ww:Nat),iA [V.ref p0,V.ref p1,V.ref p2,V.ref p3,V.ref p4,V.ref p5,V.ref p6] (c % 7)=some (.ref pd)/\HA pd=some (.tup [V.int hh,V.int ww])/\(2<=hh/\hh<=4/\2<=ww/\ww<=4):=by
   have e:c % 7=0\/c % 7=1\/c % 7=2\/c % 7=3\/c % 7=4\/c % 7=5\/c % 7=6:=by omega
   rcases e with e | e | e | e | e | e | e <;> rw[e]
   .exact⟨p0,3,3,rfl,g0,by decide⟩
   .exact⟨p1,2,2,rfl,g1,by decide⟩
   .exact⟨p2,2,3,rfl,g2,by decide⟩
   .exact⟨p3,3,2,rfl,g3,by decide⟩
   .exact⟨p4,3,3,rfl,g4,by decide⟩
   .exact⟨p5,2,4,rfl,g5,by decide⟩
   .exact⟨p6,4,2,rfl,g6,by decide⟩
  refine aK.k ?_
  refine⟨_,rfl,_,_,rfl,rfl,(by show(0:Int)<7;decide),po,_,_,.ref pd,rfl,rfl,aj.of gL,rR,pd,_,rfl,aq.of qh,rfl,_,_,rfl,_,_,rfl,rfl,?_⟩
  clear g0 g1 g2 g3 g4 g5 g6 gL rR
  have ac4:(".":Str).length=1:=by decide +kernel
  refine⟨_,rfl,_,_,rfl,rfl,by omega,by omega,by rw[ac4];decide,by show 1<=sizeLine;decide,λl1 jH=>?_⟩
  rw[dY]
  refine⟨_,rfl,l1,_,_,rfl,rfl,ar,by omega,by omega,eG (by rw[dY];show 1*_<=_;omega),λl2 iC=>?_⟩
  rw[dY,Oz]
  refine⟨l2,_,rfl,.inl ⟨aj.of ar,λtp htp=>?_⟩⟩
  have u1:=af.upd (o:=HO.lst [V.str (gI "." ww)]) jH
  have u2:=af.upd (o:=HO.lst (List.replicate hh (V.str (gI "." ww)))) iC
  have u3:=af.upd (o:=HO.tup (List.replicate hh (V.str (gI "." ww)))) htp
  have sB:=sA.trans (u1.trans (u2.trans u3))
  have Bs:=uM u3
  revert sB Bs
  clear u1 u2 u3
  generalize upd _ tp (HO.tup (List.replicate hh (V.str (gI "." ww))))=HB
  intro sB Bs
  rw[<-List.map_replicate] at Bs
  have m0:=nt (c / 7) (show(3:Int)≠0 by decide)
  have m1:=qO (c / 7) (show(0:Int)<3 by decide)
  refine⟨_,rfl,_,_,rfl,rfl,⟨by decide,by decide⟩,_,_,rfl,rfl,(by show(0:Int)<3;decide),_,rfl,by omega,by omega,?_⟩
  refine j9 (λi σ H2=>∃p l v4 v5 v6 v7,σ=[some (.int c),some (.int hh),some (.int ww),some (.ref p),v4,v5,v6,v7]/\af H H2/\H2 p=some (.tup (l.map V.str))/\oy l ww/\l.length=hh/\lA l ww/\kg l ww/\oF l ww)
   ⟨tp,_,none,none,none,none,rfl,sB,Bs,Oy (by omega) (by omega) (by omega) (by omega),by rw[tj],OY (Oy (by omega) (by omega) (by omega) (by omega)).sh (ab3 hh (by simp;omega) ww (by simp;omega)),ab1,acZ (by omega) (by omega)⟩ ?_ ?_
  .intro i σ H2 hi ac5
   refine hide λG_ aN=>?_
   obtain⟨p,l,v4,v5,v6,v7,rfl,sm,hP,Fl,hl,Gd,Sy,Ne⟩:=ac5
   refine aN.k ?_
   have hhw:0<hh*ww:=Nat.mul_pos (by omega) (by omega)
   have aoh:hh*ww<=16:=by
    have:=wb hd.2.1 hd.2.2.2
    omega
   have hn:((hh:Int)*(ww:Int))=((hh*ww:Nat):Int):=by simp
   have p1:(0:Int)<(i:Int)+1:=by omega
   have p2:(i:Int)+1<1073741824:=by omega
   have cm:zW (hh:Int) (ww:Int) := .inl ⟨by omega,by omega⟩
   have pL:(0:Int)<(hh:Int)*(ww:Int):=by rw[hn];omega
   refine⟨_,rfl,_,_,rfl,rfl,⟨by decide,by decide⟩,_,rfl,_,_,rfl,rfl,_,_,rfl,rfl,⟨p1,p2⟩,_,rfl,_,rfl,_,_,rfl,rfl,cm,_,_,rfl,rfl,pL,?_⟩
   have z0:=nt (c / 21 / ((i:Int)+1)) (Int.ne_of_gt pL)
   have z1:=qO (c / 21 / ((i:Int)+1)) pL
   dsimp only
   generalize c / 21 / ((i:Int)+1) % ((hh:Int)*(ww:Int))=z at z0 z1 ⊢
   obtain⟨sp,rfl⟩:=qP z0
   rw[hn] at z1
   have z1:sp<hh*ww:=Int.ofNat_lt.mp z1
   refine⟨_,rfl,_,rfl,_,_,rfl,rfl,cm,_,_,rfl,rfl,_,rfl,_,_,rfl,rfl,?_⟩
   have nY:(hh:Int)*(ww:Int) - 1 - (sp:Int)=((hh*ww - 1 - sp:Nat):Int):=by rw[hn];omega
   dsimp only
   rw[nY]
   have o1:hh*ww - 1 - sp<hh*ww:=by omega
   have ti:=ab2 (h:=hh) (w:=ww) (sp:=sp) (by omega) z1
   generalize hh*ww - 1 - sp=ot at o1 ti ⊢
   have wp:0<ww:=by omega
   have dv:K7 (0:Int) (ww:Int):=⟨by omega,by omega⟩
   have a1:sp / ww<hh:=Kv (by rw[oW];exact z1)
   have b1:ot / ww<hh:=Kv (by rw[oW];exact o1)
   have a2:sp % ww<ww:=Nat.mod_lt _ wp
   have b2:ot % ww<ww:=Nat.mod_lt _ wp
   refine⟨_,rfl,_,rfl,_,rfl,_,_,rfl,rfl,dv,_,rfl,_,rfl,_,_,rfl,rfl,dv.1,s2,λq1 mQ=>?_⟩
   have y1:=af.upd (o:=HO.tup [V.int ((sp:Int) / (ww:Int)),V.int ((sp:Int) % (ww:Int))]) mQ
   refine⟨p,q1,l,ww,(sp / ww,sp % ww),35,by rw[<-qc];rfl,y1.tup (aq.of hP),Fl.sh.eI,aq.of (by rw[ar];simp),by rw[hl];exact a1,a2,λt H3 _ s3 ht=>?_⟩
   have F1:=Fl.set (c:=(sp / ww,sp % ww)) (by rw[hl];exact a1) a2
   have jH:(setC l (sp / ww,sp % ww) 35).length=hh:=by rw[dC,hl]
   have G3:kg (setC (setC l (sp / ww,sp % ww) 35) (ot / ww,ot % ww) 35) ww:=by
    have e:=Sy.set Fl.sh (c:=(sp / ww,sp % ww)) (by rw[hl];exact a1) a2
    rw[hl] at e
    rw[ti.1,ti.2]
    exact e
   have G4:oF (setC (setC l (sp / ww,sp % ww) 35) (ot / ww,ot % ww) 35) ww:=Ne.set Fl.sh Gd (by rw[hl];exact a1) a2 (by rw[hl];exact b1) b2
   generalize setC l (sp / ww,sp % ww) 35=l1 at ht F1 jH G3 G4
   have fN:=sm.trans (y1.trans s3)
   have hP3:=(y1.trans s3) _ _ hP
   clear y1 s3
   refine⟨_,rfl,_,rfl,_,rfl,_,_,rfl,rfl,dv,_,rfl,_,rfl,_,_,rfl,rfl,dv.1,s2,λq2 G5=>?_⟩
   have y2:=af.upd (o:=HO.tup [V.int ((ot:Int) / (ww:Int)),V.int ((ot:Int) % (ww:Int))]) G5
   refine⟨t,q2,l1,ww,(ot / ww,ot % ww),35,by rw[<-qc];rfl,y2.tup (aq.of ht),F1.sh.eI,aq.of (by rw[ar];simp),by rw[jH];exact b1,b2,λt2 H4 _ s4 jJ=>?_⟩
   have F2:=F1.set (c:=(ot / ww,ot % ww)) (by rw[jH];exact b1) b2
   have iC:(setC l1 (ot / ww,ot % ww) 35).length=hh:=by rw[dC,jH]
   generalize setC l1 (ot / ww,ot % ww) 35=l2 at jJ F2 iC G3 G4
   have dS:=fN.trans (y2.trans s4)
   have hP4:=(y2.trans s4) _ _ hP3
   clear y2 s4
   refine⟨λσ H5=>∃p l,σ=[some (.int c),some (.int hh),some (.int ww),some (.ref p),some (.int i),some (.int sp),some (.int ot),some (.ref t2)]/\af H H5/\H5 p=some (.tup (l.map V.str))/\oy l ww/\l.length=hh/\lA l ww/\kg l ww/\oF l ww,λσ H5 ⟨p,l,e,h⟩=>⟨p,l,_,_,_,_,e,h⟩,?_⟩
   refine⟨_,rfl,t2,l2,ww,rfl,aq.of jJ,F2.sh,λH5 s5=>⟨_,rfl,?_⟩⟩
   cases oG:yb l2 ww with
   |true=>exact bG ⟨_,rfl,t2,l2,rfl,dS.trans s5,s5 _ _ jJ,F2,iC,OY F2.sh oG,G3,G4⟩
   |false=>exact aT ⟨p,l,rfl,dS.trans s5,s5 _ _ hP4,Fl,hl,Gd,Sy,Ne⟩
  .intro σ H2 ac6
   refine hide λG_ bt=>?_
   obtain⟨p,l,v4,v5,v6,v7,rfl,sm,hP,Fl,hl,Gd,Sy,Ne⟩:=ac6
   refine bt.k ?_
   exact⟨_,rfl,q p l ww H2 sm hP Fl Gd Sy Ne⟩
end
theorem G6{α:Type}{l:List α}(h:l.Nodup){i j:Nat}{a:α}(hi:l[i]? = some a)(hj:l[j]? = some a):i=j:=by
 obtain⟨ym,ei⟩:=cn.mp hi
 obtain⟨yn,ej⟩:=cn.mp hj
 rcases Nat.lt_trichotomy i j with z | z | z
 .exact absurd (ei.trans ej.symm) (UU.mp h i j ym yn z)
 .exact z
 .exact absurd (ej.trans ei.symm) (UU.mp h j i yn ym z)
def de(R:List (List C2))(c:C2):List (Nat×Nat):=(List.range R.length).flatMap λi=>((List.range (ao R i).length).filter λk=>decide ((ao R i)[k]? = some c)).map λk=>(i,k)
theorem lB{R:List (List C2)}{i k:Nat}{c:C2}(h:(ao R i)[k]? = some c):i<R.length/\k<(ao R i).length:=by
 refine⟨?_,(cn.mp h).1⟩
 by_cases z:i<R.length
 .exact z
 .have e:ao R i=[]:=by
   unfold ao
   rw[bQ,dy (Kd z)]
   rfl
  rw[e] at h
  cases h
theorem qt{R:List (List C2)}{c:C2}{p:Nat×Nat}:p∈de R c↔(ao R p.1)[p.2]? = some c:=by
 unfold de
 rw[C9]
 constructor
 .rintro⟨i,_,h⟩
  obtain⟨k,hk,rfl⟩:=bP.mp h
  exact ff (cR.mp hk).2
 .intro h
  have:=lB h
  exact⟨p.1,ip.mpr this.1,bP.mpr ⟨p.2,cR.mpr ⟨ip.mpr this.2,aG h⟩,rfl⟩⟩
theorem G7(R:List (List C2))(c:C2):(de R c).Nodup:=by
 unfold de List.Nodup
 rw[List.pairwise_flatMap]
 refine⟨λi _=>?_,?_⟩
 .exact List.Pairwise.map _ (λa b h z=>h (eD Prod.snd z)) (Kt.filter _)
 .refine List.Pairwise.imp (λ{a b} h x hx y hy z=>?_) Kt
  obtain⟨_,_,rfl⟩:=bP.mp hx
  obtain⟨_,_,rfl⟩:=bP.mp hy
  exact h (eD Prod.fst z)
structure GoodR(R:List (List C2)):Prop where
 nd:∀i,(ao R i).Nodup
 two:∀(i k:Nat) (c:C2),(ao R i)[k]? = some c->∃(j a:Nat),j≠i/\(ao R j)[a]? = some c/\∀(i' k':Nat),(ao R i')[k']? = some c->(i'=i/\k'=k)\/(i'=j/\k'=a)
theorem OZ{α:Type}{l:List α}{x:α}(nd:l.Nodup)(m:x∈l)(u:∀y∈l,y=x):l=[x]:=by
 cases l with
 |nil=>cases m
 |cons a r=>
  have ea:=u a bL
  subst ea
  cases r with
  |nil=>rfl
  |cons b s=>
   have eb:=u b (cg _ bL)
   exact absurd (by rw[eb];exact bL) (fF.mp nd).1
def uS(R:List (List C2))(pl:Nat)(c:C2):List (Nat×Nat):=(de R c).filter λp=>!decide (p.1=pl)
def kj(R:List (List C2))(pl:Nat):List (Nat×Nat):=(ao R pl).flatMap (uS R pl)
structure G8(R:List (List C2))(pl:Nat)(c:C2)(p:Nat×Nat):Prop where
 ne:p.1≠pl
 lt:p.1<R.length
 ix:(ao R p.1)[p.2]? = some c
 un:∀(i' k':Nat),(ao R i')[k']? = some c->i'≠pl->i'=p.1/\k'=p.2
theorem Bt{R:List (List C2)}(G:GoodR R){pl k:Nat}{c:C2}(h:(ao R pl)[k]? = some c):∃p,uS R pl c=[p]/\G8 R pl c p:=by
 obtain⟨j,a,hj,G9,hu⟩:=G.two pl k c h
 have O0:∀(i' k':Nat),(ao R i')[k']? = some c->i'≠pl->i'=j/\k'=a:=λi' k' e n=>by
  rcases hu i' k' e with z | z
  .exact absurd z.1 n
  .exact z
 refine⟨(j,a),OZ ((G7 R c).filter _) (cR.mpr ⟨qt.mpr G9,by simp[hj]⟩) (λy hy=>?_),hj,(lB G9).1,G9,O0⟩
 obtain⟨h1,h2⟩:=cR.mp hy
 have:=O0 y.1 y.2 (qt.mp h1) (by simpa using h2)
 exact qQ this.1 this.2
theorem O1{α β:Type}{f:α->List β}{g:α->β}:∀{l:List α},(∀x∈l,f x=[g x])->l.flatMap f=l.map g
 |[],_=>rfl
 |a::r,h=>by
  rw[List.flatMap_cons,bX,h a bL,O1 λx m=>h x (cg _ m)]
  rfl
theorem O2{R:List (List C2)}(G:GoodR R)(pl:Nat):kj R pl=(ao R pl).map λc=>(uS R pl c).headD (0,0):=by
 unfold kj
 refine O1 λc mc=>?_
 obtain⟨k,hk⟩:=iw mc
 obtain⟨p,e,_⟩:=Bt G hk
 rw[e]
 rfl
theorem ac7{R:List (List C2)}(G:GoodR R)(pl:Nat):(kj R pl).length=(ao R pl).length:=by rw[O2 G,ax]
theorem ac8{R:List (List C2)}(G:GoodR R){pl k:Nat}{c:C2}(h:(ao R pl)[k]? = some c):∃p,(kj R pl)[k]? = some p/\G8 R pl c p:=by
 obtain⟨p,e,hp⟩:=Bt G h
 refine⟨p,?_,hp⟩
 rw[O2 G,bu,h,ir,e]
 rfl
theorem mU(m:List Str)(r:List C2):(aF m r).cps.toList=r.map (sg m):=by simp[aF]
theorem qu{m:List Str}{r:List C2}{k:Nat}{c:C2}(h:r[k]? = some c):(aF m r).cps.toList[k]? = some (sg m c):=by rw[mU,bu,h];rfl
theorem ac9{m:List Str}{w:Nat}(S:eC m w){r:List C2}(nd:r.Nodup)(br:∀c∈r,c.1<m.length/\c.2<w){a:Nat}{c:C2}(ha:r[a]? = some c)(ch:Nat):aF (setC m c ch) r=bH (aF m r) a ch:=by
 have hc:=br c (bE ha)
 have A2:a<(aF m r).length:=by rw[ie];exact(cn.mp ha).1
 apply pX
 apply kH
 intro k
 by_cases hk:k<r.length
 .have ek:r[k]? = some r[k]:=bg hk
  have eP:=br r[k] (lN hk)
  rw[Fh A2 (by rw[ie];exact hk),qu ek,qu ek,S.jK hc.1 hc.2 eP.1 eP.2]
  by_cases e:k=a
  .subst e
   rw[ek] at ha
   rw[aA (dm ha),aA rfl]
  .rw[aw e,aw λz=>e (G6 nd (by rw[ek,z]) ha)]
 .rw[dy (by rw[mU,ax];omega),dy (by rw[cC,xH A2,ie];omega)]
theorem O3{m:List Str}{w:Nat}(S:eC m w){r:List C2}(br:∀c∈r,c.1<m.length/\c.2<w){c:C2}(h1:c.1<m.length)(h2:c.2<w){ch:Nat}(hc:c∉r\/sg m c=ch):aF (setC m c ch) r=aF m r:=by
 apply pX
 rw[mU,mU]
 refine List.map_congr_left λd md=>?_
 have hd:=br d md
 rw[S.jK h1 h2 hd.1 hd.2]
 by_cases e:d=c
 .rw[aA e]
  rcases hc with z | z
  .exact absurd (e ▸ md) z
  .rw[e,z]
 .rw[aw e]
theorem qv:∀(m:List Str) (cs:List C2) (xs:List Nat),(putL m cs xs).length=m.length
 |m,[],_=>by simp[putL]
 |m,c::cs,[]=>by simp[putL]
 |m,c::cs,x::xs=>by rw[putL,qv,dC]
theorem Hc{w:Nat}:∀{m:List Str}(_:eC m w) (cs:List C2) (xs:List Nat),(∀c∈cs,c.1<m.length/\c.2<w)->eC (putL m cs xs) w
 |m,S,[],_,_=>by simpa[putL] using S
 |m,S,c::cs,[],_=>by simpa[putL] using S
 |m,S,c::cs,x::xs,h=>by
  rw[putL]
  have hc:=h c bL
  exact Hc (S.set hc.1 hc.2) cs xs λd md=>by rw[dC];exact h d (cg _ md)
theorem O4{w:Nat}:∀{m:List Str}(_:bj m w) (cs:List C2) (xs:List Nat),(∀c∈cs,c.1<m.length/\c.2<w)->(∀x∈xs,n5 x)->bj (putL m cs xs) w
 |m,S,[],_,_,_=>by simpa[putL] using S
 |m,S,c::cs,[],_,_=>by simpa[putL] using S
 |m,S,c::cs,x::xs,h,h2=>by
  rw[putL]
  have hc:=h c bL
  exact O4 (xI S hc.1 hc.2 (h2 x bL)) cs xs (λd md=>by rw[dC];exact h d (cg _ md)) λy my=>h2 y (cg _ my)
theorem uT{w:Nat}:∀{m:List Str}(_:eC m w) (cs:List C2) (xs:List Nat),(∀c∈cs,c.1<m.length/\c.2<w)->∀{d:C2},d.1<m.length->d.2<w->d∉cs->sg (putL m cs xs) d=sg m d
 |m,S,[],_,_,d,_,_,_=>by simp[putL]
 |m,S,c::cs,[],_,d,_,_,_=>by simp[putL]
 |m,S,c::cs,x::xs,h,d,d1,d2,hd=>by
  have hc:=h c bL
  rw[putL,uT (S.set hc.1 hc.2) cs xs (λe me=>by rw[dC];exact h e (cg _ me)) (by rw[dC];exact d1) d2 (λz=>hd (cg _ z)),
   S.jK hc.1 hc.2 d1 d2,aw λz=>hd (by rw[z];exact bL)]
theorem yo{w:Nat}:∀{m:List Str}(_:eC m w) (cs:List C2) (xs:List Nat),(∀c∈cs,c.1<m.length/\c.2<w)->cs.Nodup->∀{k:Nat}{c:C2}{x:Nat},cs[k]? = some c->xs[k]? = some x->sg (putL m cs xs) c=x
 |m,S,[],_,_,_,k,c,x,hc,_=>by cases hc
 |m,S,c::cs,[],_,_,k,_,x,_,hx=>by cases hx
 |m,S,c::cs,y::xs,h,nd,k,d,x,hd,hx=>by
  have hc:=h c bL
  have h':∀e∈cs,e.1<(setC m c y).length/\e.2<w:=λe me=>by rw[dC];exact h e (cg _ me)
  rw[putL]
  cases k with
  |zero=>
   have e1:c=d:=by simpa using hd
   have e2:y=x:=by simpa using hx
   subst e1 e2
   rw[uT (S.set hc.1 hc.2) cs xs h' (by rw[dC];exact hc.1) hc.2 (fF.mp nd).1,S.jK hc.1 hc.2 hc.1 hc.2,aA rfl]
  |succ k=>exact yo (S.set hc.1 hc.2) cs xs h' (fF.mp nd).2 (by simpa using hd) (by simpa using hx)
theorem ada{m:List Str}{w:Nat}(S:eC m w){r:List C2}{x:Str}(br:∀c∈r,c.1<m.length/\c.2<w)(nd:r.Nodup)(hl:x.length=r.length):aF (putL m r x.cps.toList) r=x:=by
 have hx:=cC x
 apply pX
 apply kH
 intro k
 by_cases hk:k<r.length
 .have ek:r[k]? = some r[k]:=bg hk
  have ex:x.cps.toList[k]? = some x.cps.toList[k]:=bg (by omega)
  rw[qu ek,yo S r x.cps.toList br nd ek ex,ex]
 .rw[dy (by rw[mU,ax];omega),dy (by omega)]
theorem kl{x t:Str}:da x t=true↔x.length=t.length/\∀i,i<x.length->t.cps.toList.getD i 0=46\/t.cps.toList.getD i 0=x.cps.toList.getD i 0:=by
 unfold da
 rw[dZ,jR,Kr]
 refine and_congr_right λ_=>⟨λh i hi=>?_,λh i hi=>?_⟩
 .have:=h i (ip.mpr hi)
  unfold lr at this
  simpa using this
 .have:=h i (ip.mp hi)
  unfold lr
  simpa using this
theorem Bu{x:Str}{j ch k:Nat}(h:j<x.length)(hk:k<x.length):(bH x j ch).cps.toList.getD k 0=if k=j then ch else x.cps.toList.getD k 0:=by
 rw[bQ,Fh h hk,bQ]
 by_cases e:k=j
 .rw[aA e,aA e]
  rfl
 .rw[aw e,aw e]
theorem adb{x t:Str}{a ch:Nat}(ha:a<t.length)(dr:t.cps.toList.getD a 0=46)(hc:ch≠46):da x (bH t a ch)=true↔da x t=true/\x.cps.toList.getD a 0=ch:=by
 rw[kl,kl,xH ha]
 constructor
 .rintro⟨hl,h⟩
  have ea:=h a (by omega)
  rw[Bu ha ha,aA rfl] at ea
  refine⟨⟨hl,λi hi=>?_⟩,?_⟩
  .have:=h i hi
   rw[Bu ha (by omega)] at this
   by_cases e:i=a
   .rw[e];exact .inl dr
   .rw[aw e] at this;exact this
  .rcases ea with z | z
   .exact absurd z hc
   .exact z.symm
 .rintro⟨⟨hl,h⟩,e⟩
  refine⟨hl,λi hi=>?_⟩
  rw[Bu ha (by omega)]
  by_cases ei:i=a
  .rw[aA ei,ei];exact .inr e.symm
  .rw[aw ei];exact h i hi
theorem Hd{x t:Str}(h:da x t=true)(hd:46∉t.cps.toList):x=t:=by
 obtain⟨hl,h⟩:=kl.mp h
 have hx:=cC x
 have ht:=cC t
 apply pX
 apply kH
 intro k
 by_cases hk:k<x.length
 .have:=h k hk
  rw[bQ,bQ,bg (by omega),bg (by omega),oX,oX] at this
  rw[bg (by omega),bg (by omega)]
  rcases this with z | z
  .exact absurd (by rw[<-z];exact lN _) hd
  .rw[z]
 .rw[dy (by omega),dy (by omega)]
theorem ade(t:Str):da t t=true:=kl.mpr ⟨rfl,λ_ _=>.inr rfl⟩
structure lC(ks:List Str)(wf:Str->Int)(t:Str)(ws:List Str):Prop where
 nd:ws.Nodup
 mem:∀x,x∈ws↔x∈ks/\da x t=true
 up:ws.Pairwise λa b=>wf b<=wf a
theorem lC.narrow{ks:List Str}{wf:Str->Int}{t:Str}{ws:List Str}{a ch:Nat}(F:lC ks wf t ws)(ha:a<t.length)(dr:t.cps.toList.getD a 0=46)(hc:ch≠46):lC ks wf (bH t a ch) (ws.filter λx=>decide (x.cps.toList.getD a 0=ch)):=by
 refine⟨F.nd.filter _,λx=>?_,F.up.filter _⟩
 rw[cR,F.mem,adb ha dr hc,Kr,and_assoc]
theorem lC.one{ks:List Str}{wf:Str->Int}{x:Str}(m:x∈ks)(hd:46∉x.cps.toList):lC ks wf x [x]:=by
 refine⟨fF.mpr ⟨gr,jm⟩,λy=>?_,List.pairwise_singleton _ _⟩
 rw[cI]
 constructor
 .rintro rfl
  exact⟨m,ade y⟩
 .rintro⟨_,h⟩
  exact Hd h hd
theorem O5{l m:List Str}{w:Nat}(hl:m.length=l.length)(h:∀c:C2,c.1<l.length->c.2<w->cb m c=cb l c):aI m w=aI l w:=by
 have e:bx m w=bx l w:=by
  funext c
  unfold bx
  rw[hl]
  by_cases h1:c.1<l.length
  .by_cases h2:c.2<w
   .rw[h c h1 h2]
   .rw[aH h2,iq,iq]
  .rw[aH h1,iq,iq]
 unfold aI lu jc
 rw[e,hl]
structure di(l:List Str)(w:Nat)(R:List (List C2)):Prop where
 sh:bj l w
 eq:aI l w=R
 good:GoodR R
 all:∀c:C2,c.1<l.length->c.2<w->cb l c=true->∃i k:Nat,(ao R i)[k]? = some c
theorem sO{R:List (List C2)}{i:Nat}(h:i<R.length):ao R i∈R:=by
 unfold ao
 rw[cu (bg h)]
 exact lN h
theorem di.uU{l:List Str}{w:Nat}{R:List (List C2)}(F:di l w R){i k:Nat}{c:C2}(h:(ao R i)[k]? = some c):c.1<l.length/\c.2<w/\cb l c=true:=by
 have:=sO (lB h).1
 rw[<-F.eq] at this
 have hc:=bE h
 rw[<-F.eq] at hc
 exact(kh F.sh this).2.2 c hc
theorem di.jO{l:List Str}{w:Nat}{R:List (List C2)}(F:di l w R)(i:Nat):∀c∈ao R i,c.1<l.length/\c.2<w:=λc m=>by
 obtain⟨k,hk⟩:=iw m
 have:=F.uU hk
 exact⟨this.1,this.2.1⟩
theorem di.len{l:List Str}{w:Nat}{R:List (List C2)}(F:di l w R){i:Nat}(hi:i<R.length):2<=(ao R i).length/\(ao R i).length<=9:=by
 have:=sO hi
 rw[<-F.eq] at this
 have:=kh F.sh this
 rw[F.eq] at this
 exact⟨this.1,this.2.1⟩
def qw(x:Str):Prop := ∀ch∈x.cps.toList,97<=ch/\ch<=122
theorem He{m:List Str}{w:Nat}{R:List (List C2)}(F:di m w R)(pl:Nat){x:Str}(hl:x.length=(ao R pl).length){c:C2}(h1:c.1<m.length)(h2:c.2<w) :
  (∃(k ch:Nat),(ao R pl)[k]? = some c/\x.cps.toList[k]? = some ch/\sg (putL m (ao R pl) x.cps.toList) c=ch)\/(c∉ao R pl/\sg (putL m (ao R pl) x.cps.toList) c=sg m c):=by
 by_cases hc:c∈ao R pl
 .refine Or.inl ?_
  obtain⟨k,hk⟩:=iw hc
  have kU:=(lB hk).2
  have hx:=cC x
  have ex:x.cps.toList[k]? = some x.cps.toList[k]:=bg (by omega)
  exact⟨k,_,hk,ex,yo F.sh.eI _ _ (F.jO pl) (F.good.nd pl) hk ex⟩
 .exact .inr ⟨hc,uT F.sh.eI _ _ (F.jO pl) h1 h2 hc⟩
theorem di.O6{m:List Str}{w:Nat}{R:List (List C2)}(F:di m w R)(pl:Nat){x:Str}(hx:qw x)(hl:x.length=(ao R pl).length){c:C2}(h1:c.1<m.length)(h2:c.2<w):cb (putL m (ao R pl) x.cps.toList) c=cb m c:=by
 rcases He F pl hl h1 h2 with ⟨k,ch,hk,hch,e⟩ | ⟨_,e⟩
 .rw[(F.uU hk).2.2]
  unfold cb
  rw[e]
  have:=hx ch (bE hch)
  rw[aH (by omega)]
  rfl
 .unfold cb
  rw[e]
theorem di.put{m:List Str}{w:Nat}{R:List (List C2)}(F:di m w R)(pl:Nat){x:Str}(hx:qw x)(hl:x.length=(ao R pl).length):di (putL m (ao R pl) x.cps.toList) w R:=by
 have hlen:=qv m (ao R pl) x.cps.toList
 refine⟨O4 F.sh _ _ (F.jO pl) (λch mc=>.inr (.inr (hx ch mc))),?_,F.good,λc h1 h2 ho=>?_⟩
 .rw[O5 hlen λc h1 h2=>F.O6 pl hx hl h1 h2]
  exact F.eq
 .rw[hlen] at h1
  rw[F.O6 pl hx hl h1 h2] at ho
  exact F.all c h1 h2 ho
structure mV(R:List (List C2))(m:List Str)(pl:Nat)(x:Str)(k:Nat)(ps:List Str):Prop where
 len:ps.length=R.length
 own:ps[pl]? = some (aF m (ao R pl))
 je:∀i,i<R.length->i≠pl->ps[i]? = some (aF (putL m ((ao R pl).take k) (x.cps.toList.take k)) (ao R i))
theorem oH{β:Type}(R:List (List C2))(f:List C2->β){i:Nat}(h:i<R.length):(R.map f)[i]? = some (f (ao R i)):=by
 unfold ao
 rw[bu,cu (bg h),bg h]
 rfl
theorem mV.zero{R:List (List C2)}{m:List Str}{pl:Nat}{x:Str}(hpl:pl<R.length):mV R m pl x 0 (R.map (aF m)):=
 ⟨ax ..,oH R _ hpl,λi hi _=>by rw[qK,qK,oH R _ hi];rfl⟩
theorem mV.step{R:List (List C2)}{m:List Str}{w pl k:Nat}{x:Str}{ps:List Str}(F:di m w R)(dR:da x (aF m (ao R pl))=true)(A:mV R m pl x k ps){c:C2}{ch:Nat}(hc:(ao R pl)[k]? = some c)(hch:x.cps.toList[k]? = some ch){p:Nat×Nat}(hp:G8 R pl c p) :
  ∃b,ps[p.1]? = some b/\b.cps.toList[p.2]? = some (sg m c)/\p.2<b.length/\b.length<=9/\(sg m c=46->mV R m pl x (k+1) (ps.set p.1 (bH b p.2 ch)))/\(sg m c≠46->mV R m pl x (k+1) ps):=by
 have gy:∀d∈(ao R pl).take k,d.1<m.length/\d.2<w:=λd md=>F.jO pl d (zJ md)
 have Gk:=Hc F.sh.eI ((ao R pl).take k) (x.cps.toList.take k) gy
 have nT:=qv m ((ao R pl).take k) (x.cps.toList.take k)
 have dG:=F.uU hc
 have Fd:c∉(ao R pl).take k:=λz=>by
  obtain⟨j,hj⟩:=iw z
  have hjk:j<k:=by
   have:=(cn.mp hj).1
   rw[jQ] at this
   omega
  rw[CO hjk] at hj
  have:=G6 (F.good.nd pl) hj hc
  omega
 have O7:sg (putL m ((ao R pl).take k) (x.cps.toList.take k)) c=sg m c:=uT F.sh.eI _ _ gy dG.1 dG.2.1 Fd
 have O8:putL m ((ao R pl).take (k+1)) (x.cps.toList.take (k+1))=setC (putL m ((ao R pl).take k) (x.cps.toList.take k)) c ch:=sH m _ _ k c ch hc hch
 have ml:c.1<(putL m ((ao R pl).take k) (x.cps.toList.take k)).length:=by rw[nT];exact dG.1
 have uV:∀i,∀d∈ao R i,d.1<(putL m ((ao R pl).take k) (x.cps.toList.take k)).length/\d.2<w:=λi d md=>by rw[nT];exact F.jO i d md
 have lj:=F.len hp.lt
 refine⟨_,A.je p.1 hp.lt hp.ne,?_,?_,?_,λdr=>⟨by rw[Kc];exact A.len,?_,λi hi dI=>?_⟩,λdr=>⟨A.len,A.own,λi hi dI=>?_⟩⟩
 .rw[qu hp.ix,O7]
 .rw[ie];exact(lB hp.ix).2
 .rw[ie];exact lj.2
 .rw[zd hp.ne];exact A.own
 .rw[O8]
  by_cases e:i=p.1
  .rw[e,vQ (by rw[A.len];exact hp.lt),ac9 Gk (F.good.nd p.1) (uV p.1) hp.ix]
  .rw[zd (bo e),A.je i hi dI,O3 Gk (uV i) ml dG.2.1 (.inl λz=>?_)]
   obtain⟨j,hj⟩:=iw z
   exact e (hp.un i j hj dI).1
 .have ech:sg m c=ch:=by
   obtain⟨hl,h⟩:=kl.mp dR
   have hk:k<x.length:=by rw[<-cC];exact(cn.mp hch).1
   have:=h k hk
   rw[cu (qu hc),cu hch] at this
   rcases this with z | z
   .exact absurd z dr
   .exact z
  rw[O8,O3 Gk (uV i) ml dG.2.1 (.inr (O7.trans ech))]
  exact A.je i hi dI
theorem mV.done{R:List (List C2)}{m:List Str}{w pl:Nat}{x:Str}{ps:List Str}(F:di m w R)(A:mV R m pl x (ao R pl).length ps)(hl:x.length=(ao R pl).length)(hpl:pl<R.length):ps.set pl x=R.map (aF (putL m (ao R pl) x.cps.toList)):=by
 have hx:=cC x
 apply kH
 intro i
 by_cases hi:i<R.length
 .rw[oH R _ hi]
  by_cases e:i=pl
  .rw[e,vQ (by rw[A.len];exact hpl),ada F.sh.eI (F.jO pl) (F.good.nd pl) hl]
  .rw[zd (bo e),A.je i hi e,gu (aP _),gu (by omega)]
 .rw[dy (by rw[Kc,A.len];omega),dy (by rw[ax];omega)]
theorem adf{l m:List Str}{w:Nat}(S:eC l w)(T:eC m w)(hl:l.length=m.length)(h:∀c:C2,c.1<l.length->c.2<w->sg l c=sg m c):l=m:=by
 apply kH
 intro i
 by_cases hi:i<l.length
 .obtain⟨x,hx,_,_,lx,ye⟩:=S.row hi
  obtain⟨y,hy,_,_,ly,Hf⟩:=T.row (i:=i) (by omega)
  rw[hx,hy]
  congr 1
  apply pX
  apply kH
  intro j
  by_cases hj:j<w
  .rw[ye j hj,Hf j hj,h (i,j) hi hj]
  .rw[dy (by omega),dy (by omega)]
 .rw[dy (by omega),dy (by omega)]
def km(l:List Str)(R:List (List C2))(m:List Str):Nat->List Str
 |0=>l
 |n+1=>putL (km l R m n) (ao R n) (aF m (ao R n)).cps.toList
theorem qx(l:List Str)(R:List (List C2))(m:List Str):∀n,(km l R m n).length=l.length
 |0=>rfl
 |n+1=>by rw[km,qv,qx l R m n]
theorem uW{l m:List Str}{w:Nat}{R:List (List C2)}(F:di l w R):∀n,eC (km l R m n) w
 |0=>F.sh.eI
 |n+1=>by
  rw[km]
  exact Hc (uW F n) _ _ λd md=>by rw[qx];exact F.jO n d md
theorem O9{l m:List Str}{w:Nat}{R:List (List C2)}(F:di l w R){c:C2}(h1:c.1<l.length)(h2:c.2<w):∀n,((∃i,i<n/\c∈ao R i)->sg (km l R m n) c=sg m c)/\((∀i,i<n->c∉ao R i)->sg (km l R m n) c=sg l c)
 |0=>⟨λ⟨i,hi,_⟩=>absurd hi (jn _),λ_=>rfl⟩
 |n+1=>by
  have ih:=O9 (m:=m) F h1 h2 n
  have hc:∀d∈ao R n,d.1<(km l R m n).length/\d.2<w:=λd md=>by rw[qx];exact F.jO n d md
  rw[km]
  refine⟨λ⟨i,hi,hm⟩=>?_,λh=>?_⟩
  .by_cases z:c∈ao R n
   .obtain⟨k,hk⟩:=iw z
    exact yo (uW F n) _ _ hc (F.good.nd n) hk (qu hk)
   .rw[uT (uW F n) _ _ hc (by rw[qx];exact h1) h2 z]
    refine ih.1 ⟨i,?_,hm⟩
    rcases wm.mp hi with y | y
    .exact y
    .exact absurd (y ▸ hm) z
  .rw[uT (uW F n) _ _ hc (by rw[qx];exact h1) h2 (h n (oS _))]
   exact ih.2 λi hi=>h i (jo hi)
theorem Pa{l:List Str}{c:C2}(h:¬cb l c=true):sg l c=35:=by
 unfold cb at h
 simpa using h
theorem adg{l m:List Str}{w:Nat}{R:List (List C2)}(F:di l w R)(M:di m w R)(hl:m.length=l.length):km l R m R.length=m:=by
 refine adf (uW F _) M.sh.eI (by rw[qx,hl]) λc h1 h2=>?_
 rw[qx] at h1
 have s:=O9 (m:=m) F h1 h2 R.length
 by_cases ho:cb l c=true
 .obtain⟨i,k,hk⟩:=F.all c h1 h2 ho
  exact s.1 ⟨i,(lB hk).1,bE hk⟩
 .have no:∀i,i<R.length->c∉ao R i:=λi _ z=>by
   obtain⟨k,hk⟩:=iw z
   exact ho (F.uU hk).2.2
  have hm:¬cb m c=true:=λz=>by
   obtain⟨i,k,hk⟩:=M.all c (by rw[hl];exact h1) h2 z
   exact no i (lB hk).1 (bE hk)
  rw[s.2 no,Pa ho,Pa hm]
structure gM(s m:List Str)(w:Nat):Prop where
 sh:bj s w
 ln:s.length=m.length
 cl:∀c:C2,c.1<m.length->c.2<w->(sg m c≠46->sg s c=sg m c)/\(sg m c=46->sg s c≠35)
theorem gM.refl{m:List Str}{w:Nat}(S:bj m w):gM m m w:=⟨S,rfl,λc _ _=>⟨λ_=>rfl,λh=>by rw[h];decide⟩⟩
theorem adh{m:List Str}{w:Nat}{R:List (List C2)}{pl k ch:Nat}{x:Str}{c:C2}(dR:da x (aF m (ao R pl))=true)(hc:(ao R pl)[k]? = some c)(hch:x.cps.toList[k]? = some ch):sg m c=46\/sg m c=ch:=by
 obtain⟨hl,h⟩:=kl.mp dR
 have hk:k<x.length:=by rw[<-cC];exact(cn.mp hch).1
 have:=h k hk
 rw[cu (qu hc),cu hch] at this
 exact this
theorem gM.adi{s m:List Str}{w:Nat}{R:List (List C2)}{pl:Nat}{x:Str}(F:di m w R)(hx:qw x)(dR:da x (aF m (ao R pl))=true)(A:gM s (putL m (ao R pl) x.cps.toList) w):gM s m w:=by
 have hl:x.length=(ao R pl).length:=by rw[(kl.mp dR).1,ie]
 have hlen:=qv m (ao R pl) x.cps.toList
 refine⟨A.sh,by rw[A.ln,hlen],λc h1 h2=>?_⟩
 have a:=A.cl c (by rw[hlen];exact h1) h2
 rcases He F pl hl h1 h2 with ⟨k,ch,hk,hch,e⟩ | ⟨_,e⟩
 .have hb:=hx ch (bE hch)
  rw[e] at a
  have es:=a.1 (by omega)
  rcases adh (w:=w) dR hk hch with z | z
  .exact⟨λy=>absurd z y,λ_=>by omega⟩
  .exact⟨λ_=>by omega,λy=>by omega⟩
 .rw[e] at a
  exact a
theorem gM.text{s m:List Str}{w:Nat}{R:List (List C2)}{pl:Nat}{x:Str}(F:di m w R)(hx:qw x)(hl:x.length=(ao R pl).length)(A:gM s (putL m (ao R pl) x.cps.toList) w):aF s (ao R pl)=x:=by
 have gh:=cC x
 have hlen:=qv m (ao R pl) x.cps.toList
 apply pX
 apply kH
 intro k
 by_cases hk:k<(ao R pl).length
 .have ek:(ao R pl)[k]? = some (ao R pl)[k]:=bg hk
  have ex:x.cps.toList[k]? = some x.cps.toList[k]:=bg (by omega)
  have hb:=F.uU ek
  have a:=A.cl _ (by rw[hlen];exact hb.1) hb.2.1
  have e:=yo F.sh.eI _ _ (F.jO pl) (F.good.nd pl) ek ex
  rw[e] at a
  have:=hx _ (bE ex)
  rw[qu ek,ex,a.1 (by omega)]
 .rw[dy (by rw[mU,ax];omega),dy (by omega)]
theorem Pb{α:Type}{p q:α->Bool}:∀{l:List α},(∀x∈l,p x=true->q x=true)->(l.filter p).length<=(l.filter q).length/\((∃x∈l,q x=true/\p x=false)->(l.filter p).length<(l.filter q).length)
 |[],_=>⟨aP _,λ⟨_,m,_⟩=>by cases m⟩
 |a::r,h=>by
  have ih:=Pb (l:=r) λx m=>h x (cg _ m)
  have ha:=h a bL
  rw[d5,d5]
  cases hp:p a with
  |true=>
   rw[ha hp]
   refine⟨lM ih.1,λ⟨x,m,hq,hx⟩=>?_⟩
   rcases bS.mp m with z | z
   .rw[z,hp] at hx;cases hx
   .exact Nat.succ_lt_succ (ih.2 ⟨x,z,hq,hx⟩)
  |false=>
   cases hq:q a with
   |true=>exact⟨Nat.le_succ_of_le ih.1,λ_=>Nat.lt_succ_of_le ih.1⟩
   |false=>
    refine⟨ih.1,λ⟨x,m,jw,hx⟩=>?_⟩
    rcases bS.mp m with z | z
    .rw[z,hq] at jw;cases jw
    .exact ih.2 ⟨x,z,jw,hx⟩
theorem adj{m:List Str}{w:Nat}{R:List (List C2)}{pl:Nat}{x:Str}(F:di m w R)(hx:qw x)(dR:da x (aF m (ao R pl))=true)(hd:46∈(aF m (ao R pl)).cps.toList):(fI (putL m (ao R pl) x.cps.toList) w).length<(fI m w).length:=by
 have hl:x.length=(ao R pl).length:=by rw[(kl.mp dR).1,ie]
 unfold fI
 rw[qv]
 have key:∀c∈cells m.length w,AN (putL m (ao R pl) x.cps.toList) c=true->AN m c=true/\c∉ao R pl:=λc mc h=>by
  have hb:=uy mc
  unfold AN at h ⊢
  have h:=ff h
  rcases He F pl hl hb.1 hb.2 with ⟨k,ch,hk,hch,e⟩ | ⟨hn,e⟩
  .have:=hx ch (bE hch)
   rw[e] at h
   omega
  .exact⟨aG (e.symm.trans h),hn⟩
 refine(Pb λc mc h=>(key c mc h).1).2 ?_
 rw[mU] at hd
 obtain⟨c,mc,ec⟩:=bP.mp hd
 have hb:=F.jO pl c mc
 refine⟨c,OP hb.1 hb.2,aG ec,gR.mpr λz=>?_⟩
 exact(key c (OP hb.1 hb.2) z).2 mc
theorem adk{ks:List Str}{wf:Str->Int}{m:List Str}{R:List (List C2)}{pl:Nat}{ws:List Str}(hk:ks.Nodup)(Fo:lC ks wf (aF m (ao R pl)) ws):cx (ws.filter λx=>!decide (x∈qo m R pl))=oC m R pl ks:=by
 unfold oC
 refine Ap ?_ ((Ex _).filter _)
 refine List.Perm.filter _ ?_
 refine(ka _).trans ?_
 rw[List.perm_ext_iff_of_nodup (hk.filter _) Fo.nd]
 intro x
 rw[cR,Fo.mem]
theorem adl{m:List Str}{R:List (List C2)}{pl:Nat}{x:Str}:x∈qo m R pl↔∃i,i<R.length/\i≠pl/\aF m (ao R i)=x:=by
 unfold qo
 constructor
 .intro h
  obtain⟨i,hi,e⟩:=bP.mp h
  obtain⟨h1,h2⟩:=cR.mp hi
  exact⟨i,ip.mp h1,by simpa using h2,e⟩
 .rintro⟨i,h1,h2,e⟩
  exact bP.mpr ⟨i,cR.mpr ⟨ip.mpr h1,by simpa using h2⟩,e⟩
def kq(H:Hp)(r:List C2)(x:V):Prop := ∃t ys,x = .ref t/\H t=some (.tup ys)/\bB H r ys
def kC(c:C2):List Key:=[Sum.inl (c.1:Int),Sum.inl (c.2:Int)]
theorem uX{c d:C2}(h:kC c=kC d):c=d:=by
 unfold kC at h
 injection h with h1 h2
 injection h2 with h2
 injection h1 with h1
 injection h2 with h2
 exact qQ (by omega) (by omega)
theorem uY{α β:Type}{R:α->β->Prop}:∀{l1 l2:List α}{m1 m2:List β},Paired R l1 m1->Paired R l2 m2->Paired R (l1++l2) (m1++m2)
 |_,_,_,_,.nil,h=>h
 |_,_,_,_,.cons h t,g=>.cons h (uY t g)
structure jf(H:Hp)(d:Addr)(g:C2->List (Nat×Nat))(ls:List Addr)(n:Nat):Prop where
 ex:∃kvs:List (List Key×V),H d=some (.dT kvs)/\kvs.length<=n/\(∀c,g c=[]->aQ kvs (kC c)=none)/\
  (∀c,g c≠[]->∃q zs,aQ kvs (kC c)=some (.ref q)/\q∈ls/\H q=some (.lst zs)/\bB H (g c) zs)/\
  (∀c c' q,aQ kvs (kC c)=some (.ref q)->aQ kvs (kC c')=some (.ref q)->c=c')
theorem bB.lists{H H':Hp}{cs:List (Nat×Nat)}{xs:List V}(k:∀b o,H b=some (.tup o)->H' b=some (.tup o))(h:bB H cs xs):bB H' cs xs:=Paired.bM h λ_ _ q=>let ⟨b,e,hb⟩:=q;⟨b,e,k _ _ hb⟩
theorem jf.mono{H H':Hp}{d:Addr}{g:C2->List (Nat×Nat)}{ls:List Addr}{n:Nat}(s:af H H')(h:jf H d g ls n):jf H' d g ls n:=by
 obtain⟨kvs,hd,hl,h1,h2,h3⟩:=h.ex
 refine⟨kvs,s _ _ hd,hl,h1,λc hc=>?_,h3⟩
 obtain⟨q,zs,a,b,e,f⟩:=h2 c hc
 exact⟨q,zs,a,b,s _ _ e,f.mono s⟩
theorem jf.fresh{H H':Hp}{d p0:Addr}{g g':C2->List (Nat×Nat)}{ls:List Addr}{n:Nat}{kvs:List (List Key×V)}{c:C2}{o:Nat×Nat}{u:V}(h:jf H d g ls n)(hd:H d=some (.dT kvs))(hp:H p0=none)(hc:g c=[])
  (e1:g' c=[o]) (e2:∀x,x≠c->g' x=g x) (wx:H' d=some (.dT (putK kvs (kC c) (.ref p0)))) (eN:H' p0=some (.lst [u])) (hu:og H' o u) (k:∀b x,b≠d->b≠p0->H b=some x->H' b=some x):jf H' d g' (p0::ls) (n+1):=by
 obtain⟨adm,iH,hl,h1,h2,h3⟩:=h.ex
 rw[hd] at iH
 cases iH
 have kt:∀b o,H b=some (.tup o)->H' b=some (.tup o):=λb o e=>k b _ (λz=>by rw[z,hd] at e;cases e) (λz=>by rw[z,hp] at e;cases e) e
 refine⟨_,wx,bO (tY _ _ _) (by omega),λx hx=>?_,λx hx=>?_,λx y q hx hy=>?_⟩
 .by_cases z:x=c
  .rw[z,e1] at hx;cases hx
  .rw[nK,aw (λw=>z (uX w))]
   exact h1 x (by rw[<-e2 x z];exact hx)
 .by_cases z:x=c
  .subst z
   refine⟨p0,[u],by rw[nK,aA rfl],bL,eN,?_⟩
   rw[e1]
   exact .cons hu .nil
  .rw[e2 x z] at hx ⊢
   obtain⟨q,zs,a,b,e,f⟩:=h2 x hx
   refine⟨q,zs,by rw[nK,aw (λw=>z (uX w))];exact a,cg _ b,k q _ (λw=>by rw[w,hd] at e;cases e) (λw=>by rw[w,hp] at e;cases e) e,f.lists kt⟩
 .have old:∀x,x≠c->aQ kvs (kC x)=some (.ref q)->q≠p0:=λx z hv w=>by
   by_cases gx:g x=[]
   .rw[h1 x gx] at hv;cases hv
   .obtain⟨q',zs,a,b,e,f⟩:=h2 x gx
    rw[a] at hv
    cases hv
    rw[w,hp] at e
    cases e
  rw[nK] at hx hy
  by_cases zx:x=c <;> by_cases zy:y=c
  .rw[zx,zy]
  .rw[aA (by rw[zx])] at hx
   rw[aw (λw=>zy (uX w))] at hy
   cases hx
   exact absurd rfl (old y zy hy)
  .rw[aw (λw=>zx (uX w))] at hx
   rw[aA (by rw[zy])] at hy
   cases hy
   exact absurd rfl (old x zx hx)
  .rw[aw (λw=>zx (uX w))] at hx
   rw[aw (λw=>zy (uX w))] at hy
   exact h3 x y q hx hy
theorem jf.more{H H':Hp}{d q:Addr}{g g':C2->List (Nat×Nat)}{ls:List Addr}{n:Nat}{kvs:List (List Key×V)}{c:C2}{o:Nat×Nat}{u:V}{zs:List V}(h:jf H d g ls n)(hd:H d=some (.dT kvs))(hq:aQ kvs (kC c)=some (.ref q))(hz:H q=some (.lst zs))(hc:bB H (g c) zs)
  (e1:g' c=g c++[o]) (e2:∀x,x≠c->g' x=g x) (jw:H' q=some (.lst (zs++[u]))) (hu:og H' o u) (k:∀b x,b≠q->H b=some x->H' b=some x):jf H' d g' ls n:=by
 obtain⟨adm,iH,hl,h1,h2,h3⟩:=h.ex
 rw[hd] at iH
 cases iH
 have kt:∀b o,H b=some (.tup o)->H' b=some (.tup o):=λb o e=>k b _ (λz=>by rw[z,hz] at e;cases e) e
 have hgc:g c≠[]:=λz=>by rw[h1 c z] at hq;cases hq
 refine⟨_,k d _ (λz=>by rw[z,hz] at hd;cases hd) hd,hl,λx hx=>?_,λx hx=>?_,h3⟩
 .by_cases z:x=c
  .rw[z,e1] at hx
   simp at hx
  .exact h1 x (by rw[<-e2 x z];exact hx)
 .by_cases z:x=c
  .subst z
   obtain⟨q',Pc,a,b,e,f⟩:=h2 x hgc
   rw[hq] at a
   cases a
   refine⟨q,zs++[u],hq,b,jw,?_⟩
   rw[e1]
   exact uY (hc.lists kt) (.cons hu .nil)
  .rw[e2 x z] at hx ⊢
   obtain⟨q',Pc,a,b,e,f⟩:=h2 x hx
   refine⟨q',Pc,a,b,k q' _ (λw=>?_) e,f.lists kt⟩
   subst w
   exact z (h3 x c q' a hq)
def gP(R:List (List C2))(i j:Nat)(c:C2):List (Nat×Nat):=((List.range i).flatMap λi=>((List.range (ao R i).length).filter λk=>decide ((ao R i)[k]? = some c)).map λk=>(i,k))++((List.range j).filter λk=>decide ((ao R i)[k]? = some c)).map λk=>(i,k)
theorem Pd{R:List (List C2)}{i j:Nat}{c:C2}(h:(ao R i)[j]? = some c):gP R i (j+1) c=gP R i j c++[(i,j)]:=by
 unfold gP
 rw[lK,jS,eK,oV]
 simp[h]
theorem Pe{R:List (List C2)}{i j:Nat}{c x:C2}(h:(ao R i)[j]? = some c)(n:x≠c):gP R i (j+1) x=gP R i j x:=by
 unfold gP
 rw[lK,jS,eK]
 simp[h,bo n]
theorem adn(R:List (List C2))(i:Nat)(c:C2):gP R (i+1) 0 c=gP R i (ao R i).length c:=by
 unfold gP
 rw[lK,Ku]
 simp
theorem ado(R:List (List C2))(c:C2):gP R R.length 0 c=de R c:=by
 unfold gP de
 simp
theorem Pf{R:List (List C2)}(h9:∀i,(ao R i).length<=9)(c:C2):∀i,((List.range i).flatMap λi=>((List.range (ao R i).length).filter λk=>decide ((ao R i)[k]? = some c)).map λk=>(i,k)).length<=9*i
 |0=>by simp
 |i+1=>by
  have ih:=Pf h9 c i
  rw[lK,Ku,dw]
  have e:=iQ (λk=>decide ((ao R i)[k]? = some c)) (List.range (ao R i).length)
  rw[kG] at e
  have:=h9 i
  simp only[List.flatMap_cons,List.flatMap_nil,gm,ax]
  omega
theorem adp{R:List (List C2)}(h9:∀i,(ao R i).length<=9)(i j:Nat)(c:C2):(gP R i j c).length<=9*i+j:=by
 have h1:=Pf h9 c i
 have e:=iQ (λk=>decide ((ao R i)[k]? = some c)) (List.range j)
 rw[kG] at e
 unfold gP
 rw[dw,ax]
 omega
theorem adq(R:List (List C2))(c:C2):gP R 0 0 c=[]:=rfl
theorem Pg{α:Type}(A:List α)(p:α->Bool)(d:α):((List.range A.length).filter λk=>p (A.getD k d)).map (λk=>A.getD k d)=A.filter p:=by
 have e:(List.range A.length).map (λk=>A.getD k d)=A:=by
  apply kH
  intro i
  rw[bu]
  by_cases h:i<A.length
  .rw[qJ h,bg h,ir,bQ,bg h,oX]
  .rw[dy (by simpa using h),dy (by simpa using h)]
   rfl
 have:=zu (f:=λk=>A.getD k d) (p:=p) (l:=List.range A.length)
 rw[e] at this
 rw[this]
 rfl
theorem Ph{α β γ:Type}{S:β->γ->Prop}{g:α->β}:∀{l:List α}{m:List γ},Paired (λa y=>S (g a) y) l m->Paired S (l.map g) m
 |_,_,.nil=>.nil
 |_,_,.cons h t=>.cons h (Ph t)
theorem ads{H:Hp}{A:List (Nat×Nat)}{p:Nat×Nat->Bool}{us vs:List V}(h:bB H A us)(pr:Paired (λk y=>us[k]? = some y) ((List.range us.length).filter λk=>p (A.getD k (0,0))) vs):bB H (A.filter p) vs:=by
 rw[<-Pg A p (0,0)]
 have hl:=h.length
 rw[hl]
 refine Ph (Paired.bM pr λk y e=>?_)
 obtain⟨o,ho,hc⟩:=Paired.get h e
 rw[bQ,ho]
 exact hc
theorem adt{R:List (List C2)}(G:GoodR R){pl k:Nat}{c:C2}(h:(ao R pl)[k]? = some c):(de R c).length<=2:=by
 obtain⟨p,e,_⟩:=Bt G h
 have e1:(de R c).countP (λp=>!decide (p.1=pl))=1:=by
  rw[List.countP_eq_length_filter]
  show(uS R pl c).length=1
  rw[e]
  rfl
 have e2:(de R c).countP (λp=>decide (p.1=pl))<=1:=by
  rw[List.countP_eq_length_filter]
  have nd:=(G7 R c).filter (λp=>decide (p.1=pl))
  have u:∀y∈(de R c).filter (λp=>decide (p.1=pl)),y=(pl,k):=λy my=>by
   obtain⟨m1,m2⟩:=cR.mp my
   have hy:=qt.mp m1
   have h1:y.1=pl:=ff m2
   rw[h1] at hy
   have h2:y.2=k:=(List.getElem?_inj (lB hy).2 (G.nd pl)).mp (hy.trans h.symm)
   exact qQ h1 h2
  cases hl:(de R c).filter (λp=>decide (p.1=pl)) with
  |nil=>exact bC _
  |cons a r=>
   have m:(pl,k)∈(de R c).filter (λp=>decide (p.1=pl)):=by
    rw[<-u a (by rw[hl];exact bL),hl]
    exact bL
   rw[<-hl,OZ nd m u]
   exact aP _
 have:=List.length_eq_countP_add_countP (l:=de R c) (λp=>decide (p.1=pl))
 have e3:(de R c).countP (λa=>decide ¬(decide (a.1=pl))=true)=(de R c).countP (λp=>!decide (p.1=pl)):=by
  congr 1
  funext a
  by_cases z:a.1=pl <;> simp[z]
 rw[e3] at this
 omega
section
variable{P:Program}{w:World}{K:PySem.W.Frag}{mg:Str->Option Value}{base:Heap}{f:Addr}{fd:FuncData}
def Hg(K:PySem.W.Frag):Sp:=λvs H Q _=>∃(d t:Addr) (R:List (List C2)) (pl:Nat) (ys:List V) (ls:List Addr),vs=[.ref d,.int pl,.ref t]/\(∃n,jf H d (de R) ls n)/\H t=some (.tup ys)/\bB H (ao R pl) ys/\pl<R.length/\GoodR R/\(ao R pl).length<=9/\
 ∀p zs H',H p=none->af H H'->H' p=some (.lst zs)->bB H' (kj R pl) zs->Q (.ref p) H'
theorem Hh:bw ["through","place","cells","crossings","cell"] ["through","place","cells"] (aW (top 38)):=⟨rfl,rfl,rfl,by decide +kernel,rfl,by decide +kernel,by decide +kernel⟩
theorem adu(F:bq K "crossings_on" "crossings_on" (top 38) f fd):aS P w K mg base aY 1 f fd ["through","place","cells"] (Hg K):=by
 refine F.ok Hh (λvs H Q E h=>?_) (λaL A outer s H vs Q E hr h=>?_)
 .refine hide λG_ aK=>?_
  obtain⟨d,t,R,pl,ys,ls,rfl,_⟩:=h
  refine aK.k ?_
  rfl
 .refine hide λG_ aN=>?_
  obtain⟨d,t,R,pl,ys,ls,rfl,hD,ht,hC,hpl,G,h9,q⟩:=h
  refine aN.k ?_
  have dP:=kT hr
  refine⟨_,(au (aO (i:=3) Hh.nd rfl (Or.inl rfl) (fm ah))
   (au (cM cL rfl (zU (pv 2)) (bK (i:=4) Hh.nd rfl (Or.inl rfl))
   (az (fg (fq jq PySem.F.slot_list_extend PySem.F.type_list_extend WM (pv 3) (ab (i0 (js:=[1]) (ns:=["place"]) (dQ (DW dP (pv 0) (pv 4) (λ_ _=>rfl))) rfl rfl rfl rfl (λ_ _ _ _=>(nM (bT iY (An (K:=K) (rr:=wI) rfl bU (pv 0) aE (λ_ _=>rfl)) (pv 1) (cq _)))) (λ_ _ _ _=>(pv 0))) ah)))))
   (az (aX (pv 3))))),?_⟩
  try dsimp only[bF]
  refine hide λG_ bt=>?_
  obtain⟨nn,hD⟩:=hD
  obtain⟨kvs,hd,i4,rZ,Bv,adv⟩:=hD.ex
  refine bt.k ?_
  have wY:=hC.length
  refine⟨bC _,λp hp=>?_⟩
  have s0:af H (upd H p (.lst [])):=af.upd hp
  refine⟨_,rfl,t,rfl,⟨_,aq.of (s0 _ _ ht)⟩,?_⟩
  refine VF (K:=K) (xs:=ys) (λi σ H2=>∃v4 zs,σ=[some (.ref d),some (.int (pl:Int)),some (.ref t),some (.ref p),v4]/\af H H2/\H2 p=some (.lst zs)/\bB H2 (((ao R pl).take i).flatMap (uS R pl)) zs/\zs.length<=i)
   ⟨none,[],rfl,s0,ar,.nil,aP _⟩ ?_ ?_ ?_
  .rintro i σ H2 _ ⟨v4,zs,rfl,s2,_⟩
   exact aq.of (s2 _ _ ht)
  .intro i x σ H2 hx adw
   refine hide λG_ cD=>?_
   obtain⟨v4,zs,rfl,s2,fL,hz,pP⟩:=adw
   obtain⟨c,hc,b,rfl,hb⟩:=Paired.get hC hx
   have hi:=(cn.mp hx).1
   have nS:H2 b=some (.tup ((kC c).map kV)):=s2 _ _ hb
   have pq:de R c≠[]:=λz=>by
    have:=qt (p:=(pl,i)).mpr hc
    rw[z] at this
    cases this
   obtain⟨qa,us,adx,hql,fM,rN⟩:=Bv c pq
   refine cD.k ?_
   have Hj:=rN.length
   have h2:=adt G hc
   have hg:eA H2 d (.ref b) (some (.ref qa)):=by rw[<-adx];exact eA.t (s2 _ _ hd) nS
   have Pj:=s2 _ _ fM
   refine⟨_,rfl,.inl ⟨rfl,_,aj.of fL⟩,_,rfl,_,rfl,d,.ref qa,rfl,hg,qa,rfl,⟨_,aj.of Pj⟩,?_⟩
   refine ma (jC (K:=K) (xs:=us)) (by omega) (λk=>!decide (((de R c).getD k (0,0)).1=pl)) (λ_ k y _=>us[k]? = some y) (λH3 s3=>aj.of (s3 _ _ Pj)) (λ_ _ _ _ _ _ _ _ h=>h) ?_ ?_
   .intro D k y H3 Z0 Z hD hy s3 _ k0 k1
    obtain⟨o,ho,ob,rfl,pQ⟩:=Paired.get rN hy
    have ady:=s3 _ _ (s2 _ _ pQ)
    have Pk:(de R c).getD k (0,0)=o:=by rw[bQ,ho];rfl
    refine⟨_,rfl,ob,_,0,.int (o.1:Int),rfl,rfl,aq.of ady,rfl,_,rfl,rfl,_,rfl,?_⟩
    by_cases z:o.1=pl
    .rw[aG (by rw[z])]
     exact aT (k0 _ (af.cQ _) (by show(!decide _)=false;rw[Pk,aG z];rfl))
    .rw[aH (λy=>z (by injection y with y;omega))]
     exact bG ⟨_,rfl,k1 _ _ (af.cQ _) (by show(!decide _)=true;rw[Pk,aH z];rfl) hy⟩
   .intro D vs H3 hD bA s3 pr
    have Pl:af H H3:=s2.trans s3
    have Bw:bB H3 (uS R pl c) vs:=by
     have e:=ads (A:=de R c) (p:=λo=>!decide (o.1=pl)) (bB.mono Pl rN) pr
     exact e
    have yp:=Bw.length
    obtain⟨o1,eo,_⟩:=Bt G hc
    rw[eo] at yp
    have yp:vs.length=1:=yp.symm
    have kr:=s3 _ _ fL
    have nD:D≠p:=λz=>by rw[z,fL] at hD;cases hD
    refine⟨p,D,zs,vs,rfl,rfl,kr,bA,zc (mf (by omega)),?_⟩
    have hn:H p=none:=hp
    have sU:af H (upd H3 p (.lst (zs++vs))):=λb o e=>by rw[ak (aZ e hn)];exact Pl _ _ e
    refine⟨_,zs++vs,rfl,sU,ar,?_,by rw[dw];omega⟩
    have tk:(ao R pl).take (i+1)=(ao R pl).take i++[c]:=by rw[gq,hc];rfl
    rw[tk,Ku]
    refine uY (bB.off ⟨_,kr⟩ (λb o hb e=>by rw[ak hb];exact e) (bB.mono s3 hz)) ?_
    simpa using bB.off ⟨_,kr⟩ (λb o hb e=>by rw[ak hb];exact e) Bw
  .intro σ H2 adz
   refine hide λG_ cJ=>?_
   obtain⟨v4,zs,rfl,s2,fL,hz,pP⟩:=adz
   refine cJ.k ?_
   rw[gu (by omega)] at hz
   exact⟨_,rfl,q p zs H2 hp s2 fL hz⟩
def Hk(K:PySem.W.Frag):Sp:=λvs H Q _=>∃(a:Addr) (R:List (List C2)) (xs:List V),vs=[.ref a]/\H a=some (.lst xs)/\Paired (kq H) R xs/\GoodR R/\R.length<=162/\(∀i,(ao R i).length<=9)/\
 ∀p zs H',H p=none->af H H'->H' p=some (.lst zs)->Paired (λi x=>∃q us,x = .ref q/\H q=none/\H' q=some (.lst us)/\bB H' (kj R i) us) (List.range R.length) zs->Q (.ref p) H'
theorem uZ:bw ["rows","through","place","cells","at","cell"] ["rows"] (aW (top 37)):=⟨rfl,rfl,rfl,by decide +kernel,rfl,by decide +kernel,by decide +kernel⟩
theorem adA(B:Bl mg)(F:bq K "crossings_of" "crossings_of" (top 37) f fd)(adB:Fn P w K mg base "crossings_on" 1 (Hg K)):aS P w K mg base aY 2 f fd ["rows"] (Hk K):=by
 refine F.ok uZ (λvs H Q E h=>?_) (λaL A outer s H vs Q E hr h=>?_)
 .obtain⟨a,R,xs,rfl,_⟩:=h
  rfl
 .refine hide λG_ aK=>?_
  obtain⟨a,R,xs,rfl,ha,hR,G,mS,h9,q⟩:=h
  refine aK.k ?_
  have dP:=kT hr
  refine⟨_,(au (aO (i:=1) uZ.nd rfl (Or.inr rfl) LV)
   (au (cM cL rfl (Er (by rfl) B.xN (ab (pv 0) ah)) (j1 rfl (d7 (bK (i:=2) uZ.nd rfl (Or.inl rfl)) (d7 (bK (i:=3) uZ.nd rfl (Or.inl rfl)) j0)))
   (az (cM cL rfl (ZR (by rfl) B.xN (ab (pv 3) ah)) (j1 rfl (d7 (bK (i:=4) uZ.nd rfl (Or.inl rfl)) (d7 (bK (i:=5) uZ.nd rfl (Or.inl rfl)) j0)))
    (az (fg (fq jq jT jU gY (ZF dP (pv 1) (pv 5) (fm ah) ⟨rfl,rfl,rfl,rfl⟩) (ab (fX (ab (pv 2) (ab (pv 4) ah))) ah (hs:=dq rfl))))))))
   (az (aX (Mq (js:=[1]) (ns:=["through"]) (Er (by rfl) B.xN (ab (pv 0) ah)) rfl rfl rfl rfl (λ_ _ _ _=>jB) (λ_ _ _ _=>(ba adB (hr.mono (by decide)) (by rfl) (ab (pv 2) (ab (pv 0) (ab (pv 1) ah)))))))))),?_⟩
  try dsimp only[bF]
  intro d iH
  have eZ:af H (upd H d (.dT [])):=af.upd iH
  have t0:jf (upd H d (.dT [])) d (gP R 0 0) [] 0:=⟨[],ar,aP _,λ_ _=>rfl,λc hc=>absurd (adq R c) hc,λc c' q h=>by cases h⟩
  generalize upd H d (.dT [])=H0 at eZ t0
  have gh:=hR.length
  refine⟨_,rfl,a,xs,rfl,aj.of (eZ _ _ ha),?_⟩
  refine Mj (K:=K) (xs:=xs) (λi σ H2=>∃v2 v3 v4 v5 ls n,σ=[some (.ref a),some (.ref d),v2,v3,v4,v5]/\af H H2/\(∀q∈ls,H q=none)/\n<=9*i/\jf H2 d (gP R i 0) ls n)
   ⟨none,none,none,none,[],0,rfl,eZ,(λ_ m=>nomatch m),aP _,t0⟩ ?_ ?_ ?_
  .rintro i σ H2 _ ⟨v2,v3,v4,v5,ls,n,rfl,s2,_⟩
   exact aj.of (s2 _ _ ha)
  .intro i x pt σ H2 hx adC hpt
   refine hide λG_ aN=>?_
   obtain⟨v2,v3,v4,v5,ls,n,rfl,s2,qy,hn,T2⟩:=adC
   obtain⟨row,hq,t,ys,rfl,ht,ll⟩:=Paired.get hR hx
   refine aN.k ?_
   have hi:i<R.length:=by rw[gh];exact(cn.mp hx).1
   have mW:ao R i=row:=by unfold ao;rw[bQ,hq];rfl
   have wY:=ll.length
   have h9i:=h9 i
   rw[mW] at h9i
   have su:af H2 (upd H2 pt (.tup [.int i,.ref t])):=af.upd hpt
   refine⟨pt,_,rfl,aq.of ar,rfl,_,_,rfl,_,_,rfl,rfl,?_⟩
   have xm:=s2.trans su
   have Pm:=T2.mono su
   generalize upd H2 pt (.tup [.int i,.ref t])=H3 at su xm Pm
   refine⟨_,rfl,t,ys,rfl,aq.of (xm _ _ ht),?_⟩
   refine ZS (K:=K) (xs:=ys) (λj σ H4=>∃v4 v5 ls n,σ=[some (.ref a),some (.ref d),some (.int (i:Int)),some (.ref t),v4,v5]/\af H H4/\(∀q∈ls,H q=none)/\n<=9*i+j/\jf H4 d (gP R i j) ls n)
    ⟨v4,v5,ls,n,rfl,xm,qy,hn,Pm⟩ ?_ ?_ ?_
   .rintro j σ H4 _ ⟨v4,v5,ls,n,rfl,s4,_⟩
    exact aq.of (s4 _ _ ht)
   .intro j y pu σ H4 hy adD hpu
    refine hide λG_ bt=>?_
    obtain⟨v4,v5,ls,n,rfl,s4,qy,hn,T4⟩:=adD
    obtain⟨c,hc,b,rfl,hb⟩:=Paired.get ll hy
    refine bt.k ?_
    have hj:j<ys.length:=(cn.mp hy).1
    have Bx:(ao R i)[j]? = some c:=by rw[mW];exact hc
    have sv:af H4 (upd H4 pu (.tup [.int j,.ref b])):=af.upd hpu
    refine⟨pu,_,rfl,aq.of ar,rfl,_,_,rfl,_,_,rfl,rfl,?_⟩
    have s5:=s4.trans sv
    have T5:=T4.mono sv
    generalize upd H4 pu (.tup [.int j,.ref b])=H5 at sv s5 T5
    refine hide λG_ cD=>?_
    obtain⟨kvs,u6,i4,rZ,Bv,adv⟩:=id T5.ex
    refine cD.k ?_
    have hb5:H5 b=some (.tup ((kC c).map kV)):=s5 _ _ hb
    refine⟨_,rfl,d,rfl,.inr ⟨kvs,.inl u6⟩,_,rfl,bC _,λp0 fc=>?_⟩
    have s6:af H5 (upd H5 p0 (.lst [])):=af.upd fc
    refine⟨kvs,kC c,b,s6 _ _ u6,rfl,s6 _ _ hb5,mf (by omega),λv hv=>?_,λhv=>?_⟩
    .have hg:gP R i j c≠[]:=λz=>by rw[rZ c z] at hv;cases hv
     refine hide λG_ cJ=>?_
     obtain⟨qa,zs,mQ,G5,yq,Pn⟩:=Bv c hg
     refine cJ.k ?_
     rw[mQ] at hv
     cases hv
     have pP:=Pn.length
     have yr:=adp h9 i j c
     have T6:=T5.mono s6
     refine⟨.inl ⟨rfl,_,aj.of (s6 _ _ yq)⟩,_,rfl,_,rfl,(show 2<=sizeLine by decide),λu hu=>?_⟩
     have s7:af (upd H5 p0 (.lst [])) (upd (upd H5 p0 (.lst [])) u (.tup [.int (i:Int),.int (j:Int)])):=af.upd hu
     have By:upd (upd H5 p0 (.lst [])) u (.tup [.int (i:Int),.int (j:Int)]) u=some (.tup [.int (i:Int),.int (j:Int)]):=ar
     have T7:=T6.mono s7
     have yt:=s6.trans s7
     generalize upd (upd H5 p0 (.lst [])) u (.tup [.int (i:Int),.int (j:Int)])=H7 at s7 T7 yt By
     have Hl:=yt _ _ yq
     have nu:u≠qa:=λz=>by rw[z,Hl] at By;cases By
     refine⟨qa,zs,_,rfl,rfl,Hl,mf (by omega),?_⟩
     have u9:=qy qa G5
     refine⟨_,_,ls,n,rfl,λb o e=>?_,qy,by omega,T7.more (yt _ _ u6) mQ Hl (Pn.mono yt) (Pd Bx) (λx z=>Pe Bx z) ar ⟨u,rfl,by rw[ak nu];exact By⟩ λb o hb e=>by rw[ak hb];exact e⟩
     rw[ak (aZ e u9)]
     exact yt _ _ (s5 _ _ e)
    .have hg:gP R i j c=[]:=Ks λz=>by
      obtain⟨qa,zs,mQ,_⟩:=Bv c z
      rw[mQ] at hv
      cases hv
     have Po:d≠p0:=λz=>by rw[z,fc] at u6;cases u6
     have Pp:H p0=none:=by
      cases e:H p0 with
      |none=>rfl
      |some o=>rw[s5 _ _ e] at fc;cases fc
     have Hm:upd (upd H5 p0 (.lst [])) d (.dT (putK kvs (kC c) (.ref p0))) p0=some (.lst []):=by rw[ak (bo Po)];exact ar
     refine⟨.inl ⟨rfl,_,aj.of Hm⟩,_,rfl,_,rfl,(show 2<=sizeLine by decide),λu hu=>?_⟩
     have Pq:u≠p0:=λz=>by rw[z,Hm] at hu;cases hu
     have nud:u≠d:=λz=>by rw[z,ar] at hu;cases hu
     refine⟨p0,[],_,rfl,rfl,by rw[ak (bo Pq)];exact Hm,mf (by simp),?_⟩
     refine⟨_,_,p0::ls,n+1,rfl,λb o e=>?_,λx m=>?_,by omega,T5.fresh u6 fc hg (by rw[Pd Bx,hg];rfl) (λx z=>Pe Bx z) ?_ ar ⟨u,rfl,?_⟩ λb o h1 h2 e=>?_⟩
     .have e5:=s5 _ _ e
      have Hn:b≠d:=aZ e iH
      have vc:b≠p0:=aZ e Pp
      have Ho:b≠u:=λz=>by
       rw[z] at e5 Hn vc
       rw[ak Hn,ak vc,e5] at hu
       cases hu
      rw[ak vc,ak Ho,ak Hn,ak vc]
      exact e5
     .rcases bS.mp m with z | z
      .rw[z];exact Pp
      .exact qy x z
     .rw[ak Po,ak (bo nud),ar]
     .rw[ak Pq,ar]
     .have Ho:b≠u:=λz=>by
       rw[z] at e h1 h2
       rw[ak h1,ak h2,e] at hu
       cases hu
      rw[ak h2,ak Ho,ak h1,ak h2]
      exact e
   .intro σ H4 adE
    refine hide λG_ gK=>?_
    obtain⟨v4,v5,ls,n,rfl,s4,qy,hn,T4⟩:=adE
    refine gK.k ?_
    refine⟨_,_,_,_,ls,n,rfl,s4,qy,by omega,?_⟩
    have eg:gP R (i+1) 0=gP R i ys.length:=by
     funext c
     rw[adn,mW,wY]
    rw[eg]
    exact T4
  .intro σ H2 adF
   refine hide λG_ ou=>?_
   obtain⟨v2,v3,v4,v5,ls,n,rfl,s2,qy,hn,T2⟩:=adF
   refine ou.k ?_
   rw[<-gh] at T2
   have T3:jf H2 d (de R) ls n:=by
    have eg:gP R R.length 0=de R:=funext λc=>ado R c
    rw[<-eg]
    exact T2
   refine⟨_,rfl,a,xs,rfl,aj.of (s2 _ _ ha),?_⟩
   refine Yl (by omega) (aj.of (s2 _ _ ha)) (λ_=>true) (λD i y H5=>∃qa us,y = .ref qa/\qa≠D/\H qa=none/\H5 qa=some (.lst us)/\bB H5 (kj R i) us) ?_ ?_ ?_
   .intro D i y Ha Hb hD ho k adG
    refine hide λG_ sM=>?_
    obtain⟨qa,us,rfl,n1,n2,n3,n4⟩:=adG
    refine sM.k ?_
    exact⟨qa,us,rfl,n1,n2,k _ _ n1 n3,n4.off ho k⟩
   .intro D i x H5 Z0 Z hD hx s5 ho k0 k1
    refine hide λG_ yg=>?_
    obtain⟨row,hq,t,ys,rfl,ht,ll⟩:=Paired.get hR hx
    refine yg.k ?_
    have hi:i<R.length:=by rw[gh];exact(cn.mp hx).1
    have mW:ao R i=row:=by unfold ao;rw[bQ,hq];rfl
    have Hq:=s2.trans s5
    refine bG (B:=Z0 H5) ⟨_,rfl,_,rfl,_,rfl,d,t,R,i,ys,ls,rfl,⟨n,T3.mono s5⟩,Hq _ _ ht,by rw[mW];exact ll.mono Hq,hi,G,h9 i,λqa us H6 u9 s6 hqs hqc=>?_⟩
    obtain⟨o,ho⟩:=ho
    refine k1 _ _ s6 rfl ⟨qa,us,rfl,(λz=>by rw[z,ho] at u9;cases u9),?_,hqs,hqc⟩
    cases e:H qa with
    |none=>rfl
    |some o'=>rw[Hq _ _ e] at u9;cases u9
   .intro D zs H5 hD bA s5 pr
    refine q D zs H5 ?_ (s2.trans s5) bA ?_
    .cases e:H D with
     |none=>rfl
     |some o'=>rw[s2 _ _ e] at hD;cases hD
    .rw[List.filter_eq_self.mpr (λ_ _=>rfl)] at pr
     rw[gh]
     exact Paired.bM pr λi y h=>let ⟨qa,us,e1,_,e3,e4,e5⟩:=h;⟨qa,us,e1,e3,e4,e5⟩
end
def gk(sh ce cr wo kn:V):List (Str×V):=aU "known" kn (aU "worths" wo (aU "crossings" cr (aU "cells" ce (aU "sheet" sh []))))
theorem Bz(sh ce cr wo kn:V):(gk sh ce cr wo kn).lookup ("known":Str)=some kn:=by
 unfold gk
 rw[cO,aA rfl]
theorem adH(sh ce cr wo kn:V):(gk sh ce cr wo kn).lookup ("crossings":Str)=some cr:=by
 unfold gk
 rw[cO,aw (by decide +kernel),cO,aw (by decide +kernel),cO,aA rfl]
theorem Pr(sh ce cr wo kn:V):(gk sh ce cr wo kn).lookup ("cells":Str)=some ce:=by
 unfold gk
 rw[cO,aw (by decide +kernel),cO,aw (by decide +kernel),cO,aw (by decide +kernel),cO,aA rfl]
theorem adI(sh ce cr wo kn:V):(gk sh ce cr wo kn).lookup ("sheet":Str)=some sh:=by
 unfold gk
 rw[cO,aw (by decide +kernel),cO,aw (by decide +kernel),cO,aw (by decide +kernel),cO,aw (by decide +kernel),cO,aA rfl]
def gN(Z:Addr->Prop)(H:Hp)(ks:List Str)(wf:Str->Int)(t:Str)(v:V):Prop := ∃q ws,v = .ref q/\Z q/\H q=some (.lst (ws.map V.str))/\lC ks wf t ws/\ws.length<=64
structure ik(Z:Addr->Prop)(M:Str->Prop)(H:Hp)(ks:List Str)(wf:Str->Int)(kvs:List (Key×V)):Prop where
 nd:(kvs.map (·.1)).Nodup
 key:∀k∈kvs.map (·.1),∃x,k=Sum.inr x/\M x
 fit:∀x v,aQ kvs (Sum.inr x:Key)=some v->gN Z H ks wf x v
def BA(M:Str->Prop):Prop := ∀l:List Key,l.Nodup->(∀k∈l,∃x,k=Sum.inr x/\M x)->l.length<sizeLine
theorem gN.keep{Z:Addr->Prop}{H H':Hp}{ks:List Str}{wf:Str->Int}{t:Str}{v:V}(k:∀b o,H b=some (.lst o)->Z b->H' b=some (.lst o))(h:gN Z H ks wf t v):gN Z H' ks wf t v:=let ⟨q,ws,e,z,a,b,c⟩:=h;⟨q,ws,e,z,k _ _ a z,b,c⟩
theorem adJ{kvs:List (Key×V)}{k:Key}(h:aQ kvs k=none):k∉kvs.map (·.1):=by
 induction kvs with
 |nil=>simp
 |cons p r ih=>
  obtain⟨k',v⟩:=p
  intro m
  unfold aQ at h ih
  by_cases z:k'=k
  .simp[tu,z] at h
  .simp only[tu,aH z] at h
   rcases bS.mp m with w | w
   .exact z w.symm
   .exact ih h w
theorem Pt{ws:List Str}(p:Str->Bool):((List.range ws.length).filter λk=>p (ws.getD k ⟨#[]⟩)).map (λk=>V.str (ws.getD k ⟨#[]⟩))=(ws.filter p).map V.str:=by
 rw[<-Pg ws p ⟨#[]⟩,jV]
 rfl
section
variable{P:Program}{w:World}{K:PySem.W.Frag}{mg:Str->Option Value}{base:Heap}{f:Addr}{fd:FuncData}
def Hr(K:PySem.W.Frag)(C:Addr):Sp:=λvs H Q _=>∃(g dx l kn:Addr) (sh ce cr wo:V) (ws ks:List Str) (wf:Str->Int) (t:Str) (a ch:Nat) (kvs:List (Key×V)) (Z:Addr->Prop) (M:Str->Prop),vs=[.ref g,.ref l,.str (bH t a ch),.int (a:Int)]/\H g=some (.ins C dx (gk sh ce cr wo (.ref kn)))/\H kn=some (.dK kvs)/\ik Z M H ks wf kvs/\BA M/\
 H l=some (.lst (ws.map V.str))/\lC ks wf t ws/\ws.length<=64/\a<t.length/\t.length<=1000/\t.cps.toList.getD a 0=46/\ch≠46/\M (bH t a ch)/\(∀q,H q=none->Z q)/\
 ∀H' ve v,(∀b o,b≠kn->H b=some o->H' b=some o)->H' kn=some (.dK ve)->ik Z M H' ks wf ve->gN Z H' ks wf (bH t a ch) v->Q v H'
theorem adK:bw ["self","words","signs","at"] ["self","words","signs","at"] (aW (inClass (top 34) 1)):=⟨rfl,rfl,rfl,by decide +kernel,rfl,by decide +kernel,by decide +kernel⟩
theorem adL{C:Addr}(F:bq K "narrowed" "Ground.narrowed" (inClass (top 34) 1) f fd)(T:cH K C)(nk:cz K C "known"):aS P w K mg base aY 1 f fd ["self","words","signs","at"] (Hr K C):=by
 refine F.ok adK (λvs H Q E h=>?_) (λaL A outer s H vs Q E hr h=>?_)
 .refine hide λG_ aK=>?_
  obtain⟨g,dx,l,kn,sh,ce,cr,wo,ws,ks,wf,t,a,ch,kvs,Z,M,rfl,_⟩:=h
  refine aK.k ?_
  rfl
 .refine hide λG_ aN=>?_
  obtain⟨g,dx,l,kn,sh,ce,cr,wo,ws,ks,wf,t,a,ch,kvs,Z,M,rfl,hg,hk,hK,hM,hl,hF,eO,ha,ht,dr,hch,hm,hZ,q⟩:=h
  refine aN.k ?_
  have dP:=kT hr
  refine⟨_,(au (bJ (zQ (LU dP (pv 2) (cK (pv 0) rfl)))
   (az (Ac dP (cK (pv 0) rfl) (pv 2) (i0 (js:=[3,2]) (ns:=["at","signs"]) (dQ (pv 1)) rfl rfl rfl rfl (λ_ _ _ _=>(nM (bT j3 (aV gW (pv 0) (pv 1) (λ_ _=>rfl)) (aV gW (pv 2) (pv 1) (λ_ _=>rfl)) (cq _)))) (λ_ _ _ _=>(pv 0))) rfl))
   bR)
   (az (aX (DW dP (cK (pv 0) rfl) (pv 2) (λ_ _=>rfl))))),?_⟩
  try dsimp only[bF]
  refine⟨_,rfl,_,rfl,g,C,dx,_,_,rfl,hg,T,nk,Bz ..,kn,_,rfl,eA.k (k:=Sum.inr (bH t a ch)) hk,_,rfl,?_⟩
  cases hv:aQ kvs (Sum.inr (bH t a ch):Key) with
  |some v=>exact aT ⟨_,rfl,g,C,dx,_,_,rfl,hg,T,nk,Bz ..,_,rfl,kn,v,rfl,hv ▸ eA.k (k:=Sum.inr (bH t a ch)) hk,q H kvs v (λ_ _ _ e=>e) hk hK (hK.fit _ _ hv)⟩
  |none=>
   refine bG ⟨_,rfl,l,rfl,⟨_,aj.of hl⟩,?_⟩
   have lh:(bH t a ch).length=t.length:=xH ha
   have hsa:(bH t a ch).cps.toList[a]? = some ch:=by
    have h1:=Bu (x:=t) (j:=a) (ch:=ch) (k:=a) ha ha
    rw[aA rfl,bQ] at h1
    have h2:a<(bH t a ch).cps.toList.length:=by show a<(bH t a ch).cps.size;exact(show a<(bH t a ch).length from by omega)
    rw[bg h2] at h1 ⊢
    exact eD some h1
   refine ma (jC (K:=K) (xs:=ws.map V.str)) (by rw[ax];omega) (λk=>decide ((ws.getD k ⟨#[]⟩).cps.toList.getD a 0=ch)) (λ_ k y _=>y = .str (ws.getD k ⟨#[]⟩)) (λH3 s3=>aj.of (s3 _ _ hl)) (λ_ _ _ _ _ _ _ _ h=>h) ?_ ?_
   .intro D k y H3 Z0 Z' hD hy s3 _ k0 k1
    rw[bu] at hy
    obtain⟨x,hx,rfl⟩:=jl.mp hy
    have oG:ws.getD k ⟨#[]⟩=x:=by rw[bQ,hx];rfl
    have Pu:=((hF.mem x).mp (bE hx)).2
    have gh:=(kl.mp Pu).1
    obtain⟨c,hc⟩:∃c,x.cps.toList[a]? = some c:=⟨_,bg (show a<x.cps.toList.length from by show a<x.cps.size;exact(show a<x.length from by omega))⟩
    refine⟨_,rfl,_,rfl,x,_,c,rfl,rfl,dX (by omega),dH hc,_,rfl,_,rfl,_,_,ch,rfl,rfl,dX (by omega),dH hsa,rfl,_,rfl,?_⟩
    rw[sr]
    by_cases z:c=ch
    .rw[aG z]
     exact bG ⟨_,rfl,k1 _ _ (af.cQ _) (by show decide _=true;rw[oG,bQ,hc];exact aG z) (by rw[oG])⟩
    .rw[aH z]
     exact aT (k0 _ (af.cQ _) (by show decide _=false;rw[oG,bQ,hc];exact aH z))
   .intro D ys H3 hD bA s3 pr
    have e:=A6 pr
    rw[ax,Pt (λx=>decide (x.cps.toList.getD a 0=ch))] at e
    subst e
    have dW:=s3 _ _ hk
    have nkD:D≠kn:=λz=>by rw[z,hk] at hD;cases hD
    refine⟨_,rfl,g,C,dx,_,_,rfl,s3 _ _ hg,T,nk,Bz ..,_,rfl,kn,_,rfl,lY.k (k:=Sum.inr (bH t a ch)) dW ?_,?_⟩
    .have:=hM (kvs.map (·.1)) hK.nd hK.key
     rw[ax] at this
     exact this
    have hg4:upd H3 kn (.dK (putK kvs (Sum.inr (bH t a ch)) (.ref D))) g=some (.ins C dx (gk sh ce cr wo (.ref kn))):=by
     rw[ak (λz=>by rw[z,hk] at hg;cases hg)]
     exact s3 _ _ hg
    have nw:=hF.narrow ha dr hch
    have dR:gN Z (upd H3 kn (.dK (putK kvs (Sum.inr (bH t a ch)) (.ref D)))) ks wf (bH t a ch) (.ref D):=⟨D,_,rfl,hZ D hD,by rw[ak nkD];exact bA,nw,bO (iQ _ _) eO⟩
    refine⟨_,rfl,g,C,dx,_,_,rfl,hg4,T,nk,Bz ..,_,rfl,kn,.ref D,rfl,?_,q _ (putK kvs (Sum.inr (bH t a ch)) (.ref D)) (.ref D) (λb o hb e=>by rw[ak hb];exact s3 _ _ e) ar ⟨?_,?_,λx v hx=>?_⟩ dR⟩
    .have e2:aQ (putK kvs (Sum.inr (bH t a ch):Key) (.ref D)) (Sum.inr (bH t a ch))=some (.ref D):=by rw[nK,aA rfl]
     exact e2 ▸ eA.k (k:=Sum.inr (bH t a ch)) ar
    .rw[tZ _ hv,eK]
     refine qN.mpr ⟨hK.nd,by simp,λx mx y my z=>?_⟩
     have e3:y=Sum.inr (bH t a ch):=by simpa using my
     rw[z,e3] at mx
     exact adJ hv mx
    .rw[tZ _ hv,eK]
     intro k mk
     rcases du.mp mk with z | z
     .exact hK.key k z
     .exact⟨_,by simpa using z,hm⟩
    .rw[nK] at hx
     by_cases z:(Sum.inr x:Key)=Sum.inr (bH t a ch)
     .rw[aA z] at hx
      cases hx
      injection z with z
      rw[z]
      exact dR
     .rw[aw z] at hx
      refine(hK.fit x v hx).keep λb o e _=>?_
      rw[ak (λw=>by rw[w,hk] at e;cases e)]
      exact s3 _ _ e
end
def iL(g p f:V):List (Str×V):=aU "fits" f (aU "patterns" p (aU "ground" g []))
theorem BB(g p f:V):(iL g p f).lookup ("fits":Str)=some f:=by
 unfold iL
 rw[cO,aA rfl]
theorem yu(g p f:V):(iL g p f).lookup ("patterns":Str)=some p:=by
 unfold iL
 rw[cO,aw (by decide +kernel),cO,aA rfl]
theorem yw(g p f:V):(iL g p f).lookup ("ground":Str)=some g:=by
 unfold iL
 rw[cO,aw (by decide +kernel),cO,aw (by decide +kernel),cO,aA rfl]
section
variable{P:Program}{w:World}{K:PySem.W.Frag}{mg:Str->Option Value}{base:Heap}{f:Addr}{fd:FuncData}
def BC(C:Addr):Sp:=λvs H Q _=>∃(s dx:Addr) (g p f:V),vs=[.ref s,g,p,f]/\H s=some (.ins C dx [])/\∀H':Hp,H' s=some (.ins C dx (iL g p f))->(∀b o,b≠s->H b=some o->H' b=some o)->Q .aD H'
theorem adM:bw ["self","ground","patterns","fits"] ["self","ground","patterns","fits"] (aW (inClass (top 35) 0)):=⟨rfl,rfl,rfl,by decide +kernel,rfl,by decide +kernel,by decide +kernel⟩
theorem adN{C:Addr}(F:bq K "__init__" "Standing.__init__" (inClass (top 35) 0) f fd)(T:cH K C)(ng:cz K C "ground")(np:cz K C "patterns")(nf:cz K C "fits"):aS P w K mg base aY 1 f fd ["self","ground","patterns","fits"] (BC C):=by
 refine F.ok adM (λvs H Q E h=>?_) (λaL A outer s H vs Q E hr h=>?_)
 .refine hide λG_ aK=>?_
  obtain⟨s,dx,g,p,f,rfl,_⟩:=h
  refine aK.k ?_
  rfl
 .refine hide λG_ aN=>?_
  obtain⟨s,dx,g,p,f,rfl,hs,q⟩:=h
  refine aN.k ?_
  refine⟨_,(au (kL (pv 0) (pv 1) rfl)
   (au (kL (pv 0) (pv 2) rfl)
   (az (kL (pv 0) (pv 3) rfl)))),?_⟩
  try dsimp only[bF]
  refine⟨_,rfl,_,rfl,s,C,dx,[],rfl,hs,T,ng,(by show 0<1000;decide),?_⟩
  refine⟨_,rfl,_,rfl,s,C,dx,_,rfl,ar,T,np,(by show 1<1000;decide),?_⟩
  refine⟨_,rfl,_,rfl,s,C,dx,_,rfl,ar,T,nf,(by
   have h:¬(Str.ofString "ground")=Str.ofString "patterns":=by decide +kernel
   show(aU (Str.ofString "patterns") p [(Str.ofString "ground",g)]).length<1000
   rw[aU,aw h,aU]
   show 2<1000
   decide),?_⟩
  exact q _ ar λb o hb e=>by rw[ak hb,ak hb,ak hb];exact e
theorem adO{x:Str}{ps:List Str}(h:x∈ps):iZ (.str x) (ps.map V.str)=true:=by
 unfold iZ
 rw[List.any_map,zj]
 exact⟨x,h,by simp[gX]⟩
theorem adP{x:Str}{ps:List Str}(h:x∉ps):iZ (.str x) (ps.map V.str)=false:=by
 unfold iZ
 rw[List.any_map,J1]
 intro y my z
 have z:gX (.str y) (.str x)=true:=z
 have:y=x:=by simpa[gX] using z
 exact h (this ▸ my)
theorem adQ(ss:List Str)(j:Nat):kN (ss.map V.str) none (some (j:Int))=(ss.take j).map V.str:=by
 unfold kN
 rw[HT.Ly,HT.Lz,List.drop_zero,Nat.sub_zero,List.map_take,ax]
 rcases Nat.le_total j ss.length with h | h
 .rw[Nat.min_eq_left h]
 .rw[Nat.min_eq_right h,gu (by simp),gu (by simpa using h)]
theorem adR(ss:List Str)(j:Nat):kN (ss.map V.str) (some (j:Int)) none=(ss.drop j).map V.str:=by
 unfold kN
 rw[HT.Ly,HT.Lz,List.map_drop,ax]
 rcases Nat.le_total j ss.length with h | h
 .rw[Nat.min_eq_left h,gu (by simp)]
 .rw[Nat.min_eq_right h,List.drop_of_length_le (by simp),List.drop_of_length_le (by simpa using h),List.take_nil]
def fO(ps:List Str)(pl:Nat):List Str:=ps.take pl++ps.drop (pl+1)
def BD(K:PySem.W.Frag)(C:Addr):Sp:=λvs H Q _=>∃(s dx p fl l:Addr) (g:V) (pats ws:List Str) (fs:List V) (pl:Nat),vs=[.ref s,.int (pl:Int)]/\H s=some (.ins C dx (iL g (.ref p) (.ref fl)))/\H p=some (.lst (pats.map V.str))/\H fl=some (.lst fs)/\fs[pl]? = some (.ref l)/\H l=some (.lst (ws.map V.str))/\pl<pats.length/\pats.length<=200/\ws.length<=64/\
 ∀q H',H q=none->af H H'->H' q=some (.lst ((ws.filter λx=>!decide (x∈fO pats pl)).map V.str))->Q (.ref q) H'
theorem Pw:bw ["self","place","others"] ["self","place"] (aW (inClass (top 35) 3)):=⟨rfl,rfl,rfl,by decide +kernel,rfl,by decide +kernel,by decide +kernel⟩
theorem adS{C:Addr}(F:bq K "left" "Standing.left" (inClass (top 35) 3) f fd)(T:cH K C)(np:cz K C "patterns")(nf:cz K C "fits"):aS P w K mg base aY 1 f fd ["self","place"] (BD K C):=by
 refine F.ok Pw (λvs H Q E h=>?_) (λaL A outer s H vs Q E hr h=>?_)
 .refine hide λG_ aK=>?_
  obtain⟨s,dx,p,fl,l,g,pats,ws,fs,pl,rfl,_⟩:=h
  refine aK.k ?_
  rfl
 .refine hide λG_ aN=>?_
  obtain⟨s,dx,p,fl,l,g,pats,ws,fs,pl,rfl,hs,hp,eE,Px,hl,hpl,sP,eO,q⟩:=h
  refine aN.k ?_
  refine⟨_,(au (aO (i:=2) Pw.nd rfl (Or.inr rfl) (aR LK (nH DM (cK (pv 0) rfl) lW (lX (pv 1))) (nH DM (cK (pv 0) rfl) (lX (aR eV (pv 1) aE)) lW)))
   (az (aX (i0 (js:=[2]) (ns:=["others"]) (dQ (aV gC (cK (pv 0) rfl) (pv 1) (λ_ _=>rfl))) rfl rfl rfl rfl (λ_ _ _ _=>(nM (Mr (K:=K) (rr:=λK=>wL K true) rfl wM (pv 0) (pv 1) rfl))) (λ_ _ _ _=>(pv 0)))))),?_⟩
  try dsimp only[bF]
  have d1:pl<fs.length:=(cn.mp Px).1
  refine⟨_,rfl,s,C,dx,_,_,rfl,hs,T,np,yu ..,_,rfl,_,rfl,p,_,rfl,aj.of hp,λq1 e1=>?_⟩
  rw[adQ]
  have s1:af H (upd H q1 (.lst ((pats.take pl).map V.str))):=af.upd e1
  have h1:upd H q1 (.lst ((pats.take pl).map V.str)) q1=some (.lst ((pats.take pl).map V.str)):=ar
  generalize upd H q1 (.lst ((pats.take pl).map V.str))=H1 at s1 h1
  refine⟨_,rfl,s,C,dx,_,_,rfl,s1 _ _ hs,T,np,yu ..,_,rfl,_,_,rfl,rfl,_,rfl,p,_,rfl,aj.of (s1 _ _ hp),λq2 e2=>?_⟩
  rw[show((pl:Int)+1)=((pl+1:Nat):Int) by omega,adR]
  have s2:af H1 (upd H1 q2 (.lst ((pats.drop (pl+1)).map V.str))):=af.upd e2
  have h2:upd H1 q2 (.lst ((pats.drop (pl+1)).map V.str)) q2=some (.lst ((pats.drop (pl+1)).map V.str)):=ar
  generalize upd H1 q2 (.lst ((pats.drop (pl+1)).map V.str))=H2 at s2 h2
  refine⟨q1,q2,_,_,rfl,rfl,s2 _ _ h1,h2,zc (mf (by rw[ax,ax,jQ,CT];omega)),λq3 e3=>?_⟩
  have s3:af H2 (upd H2 q3 (.lst ((pats.take pl).map V.str++(pats.drop (pl+1)).map V.str))):=af.upd e3
  have h3:upd H2 q3 (.lst ((pats.take pl).map V.str++(pats.drop (pl+1)).map V.str)) q3=some (.lst ((fO pats pl).map V.str)):=by rw[ar];unfold fO;rw[eK]
  generalize upd H2 q3 (.lst ((pats.take pl).map V.str++(pats.drop (pl+1)).map V.str))=H3 at s3 h3
  have ku:=(s1.trans s2).trans s3
  refine⟨_,rfl,s,C,dx,_,_,rfl,ku _ _ hs,T,nf,BB ..,_,rfl,fl,_,_,.ref l,rfl,rfl,aj.of (ku _ _ eE),dH Px,l,rfl,⟨_,aj.of (ku _ _ hl)⟩,?_⟩
  refine ma (jC (K:=K) (xs:=ws.map V.str)) (by rw[ax];omega) (λk=>!decide (ws.getD k ⟨#[]⟩∈fO pats pl)) (λ_ k y _=>y = .str (ws.getD k ⟨#[]⟩)) (λH4 s4=>aj.of (s4 _ _ (ku _ _ hl))) (λ_ _ _ _ _ _ _ _ h=>h) ?_ ?_
  .intro D k y H4 Z0 Z' hD hy s4 _ k0 k1
   rw[bu] at hy
   obtain⟨x,hx,rfl⟩:=jl.mp hy
   have oG:ws.getD k ⟨#[]⟩=x:=by rw[bQ,hx];rfl
   have cF:((fO pats pl).map V.str).all j6=true:=by rw[tE];exact jR.mpr λ_ _=>rfl
   refine⟨_,rfl,_,rfl,q3,_,rfl,.inl (aj.of (s4 _ _ h3)),rfl,cF,_,rfl,?_⟩
   rw[aA rfl]
   by_cases z:x∈fO pats pl
   .have e:iZ (.str x) ((fO pats pl).map V.str)=true:=adO z
    rw[e]
    exact aT (k0 _ (af.cQ _) (by show(!decide _)=false;rw[oG,aG z];rfl))
   .have e:iZ (.str x) ((fO pats pl).map V.str)=false:=adP z
    rw[e]
    exact bG ⟨_,rfl,k1 _ _ (af.cQ _) (by show(!decide _)=true;rw[oG,aH z];rfl) (by rw[oG])⟩
  .intro D ys H4 hD bA s4 pr
   have e:=A6 pr
   rw[ax,Pt (λx=>!decide (x∈fO pats pl))] at e
   subst e
   refine q D H4 ?_ (ku.trans s4) bA
   cases e:H D with
   |none=>rfl
   |some o=>rw[ku _ _ e] at hD;cases hD
end
theorem adT{K:PySem.W.Frag}{H:Hp}{q:Addr}{ws:List Str}(h:H q=some (.lst (ws.map V.str))):DA K (.ref q) H (!decide (ws=[])):=by
 refine Or.inl ⟨_,aj.of h,?_⟩
 cases ws <;> rfl
section
variable{P:Program}{w:World}{K:PySem.W.Frag}{mg:Str->Option Value}{base:Heap}{f:Addr}{fd:FuncData}
def Py(H:Hp)(dM:List (List Str))(fs:List V):Prop:=Paired (λws v=>∃q,v=V.ref q/\H q=some (.lst (ws.map V.str))/\ws.length<=64) dM fs
def BE(C:Addr):Sp:=λvs H Q _=>∃(s dx p fl:Addr) (g:V) (pats:List Str) (dM:List (List Str)) (fs:List V),vs=[.ref s]/\H s=some (.ins C dx (iL g (.ref p) (.ref fl)))/\H p=some (.lst (pats.map V.str))/\H fl=some (.lst fs)/\Py H dM fs/\dM.length=pats.length/\pats.length<=200/\(∀t∈pats,t.length<=1000)/\
 (((∀t∈pats,46∉t.cps.toList)/\pats.Nodup/\∀ws∈dM,ws≠[])->∀H',af H H'->Q .aD H')/\
 ∀pl H',pl<pats.length->((46∈(pats.getD pl ⟨#[]⟩).cps.toList/\∀j,j<pats.length->46∈(pats.getD j ⟨#[]⟩).cps.toList->(dM.getD pl []).length<=(dM.getD j []).length)\/(46∉(pats.getD pl ⟨#[]⟩).cps.toList/\(pats.getD pl ⟨#[]⟩∈pats.take pl\/dM.getD pl []=[])))->af H H'->Q (.int (pl:Int)) H'
theorem yx:bw ["self","sizes","seen","place","signs"] ["self"] (aW (inClass (top 35) 2)):=⟨rfl,rfl,rfl,by decide +kernel,rfl,by decide +kernel,by decide +kernel⟩
theorem adU{C:Addr}(B:Bl mg)(oo:Cn mg "FREE" (.str "."))(F:bq K "narrowest" "Standing.narrowest" (inClass (top 35) 2) f fd)(T:cH K C)(np:cz K C "patterns")(nf:cz K C "fits"):aS P w K mg base aY 1 f fd ["self"] (BE C):=by
 refine F.ok yx (λvs H Q E h=>?_) (λaL A outer s H vs Q E hr h=>?_)
 .refine hide λG_ aK=>?_
  obtain⟨s,dx,p,fl,g,pats,dM,fs,rfl,_⟩:=h
  refine aK.k ?_
  rfl
 .have dP:=kT hr
  have hu:=hr.units
  have Hs:(A.deeper (PyProof.Rows.envOfC "Standing.narrowest" (aW (inClass (top 35) 2)) s.heap.objs.size f aL)).units+4<cLine:=by have:=hr.un;omega
  refine⟨_,(au (aO (i:=1) yx.nd rfl (Or.inl rfl) (fm ah))
   (au (aO (i:=2) yx.nd rfl (Or.inl rfl) DX)
   (au (cM cL rfl (Er (by rfl) B.xN (ab (cK (pv 0) rfl) ah)) (j1 rfl (d7 (bK (i:=3) yx.nd rfl (Or.inl rfl)) (d7 (bK (i:=4) yx.nd rfl (Or.inl rfl)) j0)))
   (az (bJ (bT Dx (kW oo (by rfl)) (pv 4) rfl)
    (az (fg (fq jq jT jU gY (pv 1) (ab (fX (ab (bp d9 (by rfl) B.cf bZ (ab (aV gC (cK (pv 0) rfl) (pv 3) (λ_ _=>rfl)) ah)) (ab (pv 3) ah))) ah (hs:=dq rfl)))))
    (az (bJ (PW.pt (iV (zQ (LR dP (pv 4) (pv 2))) (jZ (fV (tU (aV gC (cK (pv 0) rfl) (pv 3) (λ_ _=>rfl)) (by intro _;rfl))))))
     (az (aX (pv 3)))
     (az (Ac dP (pv 2) (pv 4) fJ rfl)))))))
   (au (bJ (fV (tU (pv 1) (by intro _;rfl)))
   (az (aX qX))
   bR)
   (az (aX (aV bU (bp (ZJ rfl Hs) (by rfl) B.aaF X9 (ab (pv 1) ah)) aE (λ_ _=>rfl)))))))),?_⟩
  try dsimp only[bF]
  refine hide λG_ aN=>?_
  obtain⟨s0,dx,p,fl,g,pats,dM,fs,rfl,hs,hp,eE,hF,ub,sP,hlen,qn,qp⟩:=h
  refine aN.k ?_
  have Ht:=hF.length
  refine⟨bC _,λsz hsz sn hsn=>?_⟩
  have sa:af H (upd H sz (.lst [])):=af.upd hsz
  have sb:af (upd H sz (.lst [])) (upd (upd H sz (.lst [])) sn (.dK [])):=af.upd hsn
  have Hu:sz≠sn:=λz=>by rw[<-z,ar] at hsn;cases hsn
  have Pz:upd (upd H sz (.lst [])) sn (.dK []) sz=some (.lst (([]:List Addr).map V.ref)):=by rw[ak Hu];exact ar
  have pL:upd (upd H sz (.lst [])) sn (.dK []) sn=some (.dK []):=ar
  have adV:H sn=none:=by
   cases e:H sn with
   |none=>rfl
   |some o=>rw[sa _ _ e] at hsn;cases hsn
  have sm:=sa.trans sb
  generalize upd (upd H sz (.lst [])) sn (.dK [])=H0 at sm Pz pL
  refine⟨_,rfl,s0,C,dx,_,_,rfl,sm _ _ hs,T,np,yu ..,p,_,rfl,aj.of (sm _ _ hp),?_⟩
  refine Mj (K:=K) (xs:=pats.map V.str) (λi σ H2=>∃(v3 v4:Option V) (ts:List Addr) (ps:List (Int×Int)) (kvs:List (Key×V)),σ=[some (.ref s0),some (.ref sz),some (.ref sn),v3,v4]/\af H H2/\H2 sz=some (.lst (ts.map V.ref))/\Paired (λt p=>H2 t=some (.tup [.int p.1,.int p.2])) ts ps/\ps.length<=i/\(∀q∈ps,∃k:Nat,q.2=(k:Int)/\k<pats.length/\46∈(pats.getD k ⟨#[]⟩).cps.toList/\q.1=((dM.getD k []).length:Int))/\(∀k,k<i->46∈(pats.getD k ⟨#[]⟩).cps.toList->∃q∈ps,q.1=((dM.getD k []).length:Int))/\H2 sn=some (.dK kvs)/\kvs.length<=i/\(∀x:Str,(aQ kvs (Sum.inr x:Key)).isSome=true↔x∈pats.take i/\46∉x.cps.toList)/\(ps=[]->(∀t∈pats.take i,46∉t.cps.toList)/\(pats.take i).Nodup/\∀ws∈dM.take i,ws≠[]))
   ⟨none,none,[],[],[],rfl,sm,Pz,.nil,aP _,(λ_ m=>nomatch m),(λk hk=>absurd hk (jn _)),pL,aP _,λx=>⟨λz=>(by cases z),λz=>(by simp at z)⟩,λ_=>⟨λ_ m=>(by simp at m),(by simp),λ_ m=>(by simp at m)⟩⟩ ?_ ?_ ?_
  .rintro i σ H2 _ ⟨v3,v4,ts,ps,kvs,rfl,s2,_⟩
   exact aj.of (s2 _ _ hp)
  .intro i x pt σ H2 hx adW hpt
   refine hide λG_ bt=>?_
   obtain⟨v3,v4,ts,ps,kvs,rfl,s2,uo,qz,hpl,BF,BG,nE,i4,rS,yz⟩:=adW
   rw[bu] at hx
   obtain⟨t,ht,rfl⟩:=jl.mp hx
   have hi:i<pats.length:=(cn.mp ht).1
   have yA:pats.getD i ⟨#[]⟩=t:=by rw[bQ,ht];rfl
   have gy:pats.take (i+1)=pats.take i++[t]:=by rw[gq,ht];rfl
   obtain⟨ws,hws⟩:∃ws,dM[i]? = some ws:=⟨_,bg (by omega)⟩
   have iK:dM.getD i []=ws:=by rw[bQ,hws];rfl
   have hwk:dM.take (i+1)=dM.take i++[ws]:=by rw[gq,hws];rfl
   obtain⟨fv,yB⟩:∃fv,fs[i]? = some fv:=⟨_,bg (by omega)⟩
   obtain⟨ws',PB,qa,rfl,fM,BH⟩:=Paired.get hF yB
   refine bt.k ?_
   rw[hws] at PB
   cases PB
   have su:af H2 (upd H2 pt (.tup [.int i,.str t])):=af.upd hpt
   refine⟨pt,_,rfl,aq.of ar,rfl,_,_,rfl,_,_,rfl,rfl,?_⟩
   have s3:=s2.trans su
   have vf:=su _ _ uo
   have yC:=su _ _ nE
   have Hv:=Paired.bM qz λa b e=>su _ _ e
   generalize upd H2 pt (.tup [.int i,.str t])=H3 at su s3 vf yC Hv
   have e46:(!(Builtin.Str.occurrences t (Str.ofString ".") 0 t.length 1).isEmpty)=decide (46∈t.cps.toList):=Df t 46
   refine⟨_,rfl,_,t,rfl,rfl,_,rfl,?_⟩
   rw[e46]
   by_cases hd:46∈t.cps.toList
   .rw[aG hd]
    refine bG ⟨_,rfl,.inl ⟨rfl,_,aj.of vf⟩,_,rfl,s0,C,dx,_,_,rfl,s3 _ _ hs,T,nf,BB ..,_,rfl,fl,_,_,.ref qa,rfl,rfl,aj.of (s3 _ _ eE),dH yB,qa,_,rfl,.inl (aj.of (s3 _ _ fM)),_,rfl,(show 2<=sizeLine by decide),λu hu=>?_⟩
    have nu:u≠sz:=λz=>by rw[z,vf] at hu;cases hu
    have nsz:sn≠sz:=bo Hu
    refine⟨sz,_,_,rfl,rfl,by rw[ak (bo nu)];exact vf,mf (by rw[ax];have:=qz.length;omega),?_⟩
    have lD:∀b o,b≠sz->H3 b=some o->upd (upd H3 u (.tup [.int ((ws.map V.str).length:Int),.int (i:Int)])) sz (.lst (ts.map V.ref++[.ref u])) b=some o:=λb o hb e=>by rw[ak hb,ak (λz=>by rw[z,hu] at e;cases e)];exact e
    refine⟨_,_,ts++[u],ps++[(((ws.map V.str).length:Int),(i:Int))],kvs,rfl,λb o e=>lD b o (aZ e hsz) (s3 _ _ e),by rw[ar,eK];rfl,?_,by rw[dw];simp;omega,?_,?_,lD _ _ nsz yC,by omega,λx=>?_,λz=>by simp at z⟩
    .exact uY (Paired.bM Hv λa b e=>lD _ _ (λz=>by rw[z,vf] at e;cases e) e) (.cons (by rw[ak nu];exact ar) .nil)
    .intro q mq
     rcases du.mp mq with z | z
     .exact BF q z
     .rw[cI.mp z]
      exact⟨i,rfl,hi,by rw[yA];exact hd,by rw[iK,ax]⟩
    .intro k hk yD
     rcases wm.mp hk with z | z
     .obtain⟨q,mq,eq⟩:=BG k z yD
      exact⟨q,oQ _ mq,eq⟩
     .exact⟨_,fE _ bL,by rw[z,iK,ax]⟩
    .rw[rS x,gy]
     constructor
     .exact λz=>⟨oQ _ z.1,z.2⟩
     .rintro⟨z,zz⟩
      rcases du.mp z with z | z
      .exact⟨z,zz⟩
      .rw[cI.mp z] at zz
       exact absurd hd zz
   .rw[aH hd]
    refine aT ⟨_,rfl,_,rfl,sn,_,rfl,eA.k (k:=Sum.inr t) yC,_,rfl,?_⟩
    cases hv:(aQ kvs (Sum.inr t:Key)).isSome with
    |true=>exact bG (bG ⟨_,rfl,qp i H3 hi (.inr ⟨by rw[yA];exact hd,.inl (by rw[yA];exact((rS t).mp hv).1)⟩) s3⟩)
    |false=>
     refine aT ⟨_,rfl,s0,C,dx,_,_,rfl,s3 _ _ hs,T,nf,BB ..,_,rfl,fl,_,_,.ref qa,rfl,rfl,aj.of (s3 _ _ eE),dH yB,!decide (ws=[]),adT (s3 _ _ fM),?_⟩
     by_cases BI:ws=[]
     .rw[aG BI]
      exact bG ⟨_,rfl,qp i H3 hi (.inr ⟨by rw[yA];exact hd,.inr (by rw[iK];exact BI)⟩) s3⟩
     .rw[aH BI]
      have hvn:aQ kvs (Sum.inr t:Key)=none:=by
       cases e:aQ kvs (Sum.inr t:Key) with
       |none=>rfl
       |some v=>rw[e] at hv;cases hv
      have hnt:t∉pats.take i:=λz=>by
       have:=(rS t).mpr ⟨z,hd⟩
       rw[hv] at this
       cases this
      refine aT ?_
      refine⟨_,rfl,_,rfl,sn,_,rfl,lY.k (k:=Sum.inr t) yC (mf (by omega)),?_⟩
      have lD:∀b o,b≠sn->H3 b=some o->upd H3 sn (.dK (putK kvs (Sum.inr t) (.bl true))) b=some o:=λb o hb e=>by rw[ak hb];exact e
      refine⟨_,_,ts,ps,putK kvs (Sum.inr t) (.bl true),rfl,λb o e=>lD b o (aZ e adV) (s3 _ _ e),lD _ _ Hu vf,Paired.bM Hv (λa b e=>lD _ _ (λz=>by rw[z,yC] at e;cases e) e),by omega,BF,(λk hk yD=>by
       rcases wm.mp hk with z | z
       .exact BG k z yD
       .rw[z,yA] at yD;exact absurd yD hd),ar,bO (tY _ _ _) (by omega),λx=>?_,λz=>?_⟩
      .rw[nK,gy]
       by_cases zx:x=t
       .subst zx
        rw[aA rfl]
        exact⟨λ_=>⟨fE _ bL,hd⟩,λ_=>rfl⟩
       .rw[aw (λw=>zx (by injection w)),rS x]
        constructor
        .exact λw=>⟨oQ _ w.1,w.2⟩
        .rintro⟨w,ww⟩
         rcases du.mp w with w | w
         .exact⟨w,ww⟩
         .exact absurd (cI.mp w) zx
      .obtain⟨a1,a2,a3⟩:=yz z
       rw[gy,hwk]
       refine⟨λx m=>?_,qN.mpr ⟨a2,by simp,λx mx y my w=>?_⟩,λx m=>?_⟩
       .rcases du.mp m with w | w
        .exact a1 x w
        .rw[cI.mp w];exact hd
       .rw[cI.mp my] at w
        rw[w] at mx
        exact hnt mx
       .rcases du.mp m with w | w
        .exact a3 x w
        .rw[cI.mp w];exact BI
  .intro σ H2 adX
   refine hide λG_ cD=>?_
   obtain⟨v3,v4,ts,ps,kvs,rfl,s2,uo,qz,hpl,BF,BG,nE,i4,rS,yz⟩:=adX
   refine cD.k ?_
   have mX:=qz.length
   rw[ax,C5] at yz
   rw[<-ub,C5] at yz
   refine⟨_,rfl,!decide (ps=[]),?_,?_⟩
   .refine Or.inl ⟨_,aj.of uo,?_⟩
    cases ts with
    |nil=>cases ps with
     |nil=>rfl
     |cons _ _=>cases mX
    |cons _ _=>cases ps with
     |nil=>cases mX
     |cons _ _=>rfl
   by_cases fc:ps=[]
   .rw[aG fc]
    exact bG (qn (yz fc) H2 s2)
   .rw[aH fc]
    refine aT ⟨_,rfl,sz,ts,ps,rfl,uo,qz,List.length_pos_iff.mpr fc,λb tt pp hb hpb hmn=>?_⟩
    obtain⟨pp',yE,htt⟩:=Paired.getL qz hb
    rw[hpb] at yE
    cases yE
    obtain⟨k,ek,Ot,kU,dW⟩:=BF pp (bE hpb)
    refine⟨tt,_,1,.int pp.2,rfl,rfl,aq.of htt,rfl,?_⟩
    rw[ek]
    refine qp k H2 Ot (.inl ⟨kU,λj hj adY=>?_⟩) s2
    obtain⟨q,mq,eq⟩:=BG j (by rw[ax];exact hj) adY
    have:=hmn q mq
    omega
def BJ(K:PySem.W.Frag)(CS CG:Addr):Sp:=λvs H Q _=>∃(s dx g cV p ce a:Addr) (fv cr wo kn:V) (l m:List Str) (w:Nat) (R:List (List C2)) (xs:List V),vs=[.ref s]/\H s=some (.ins CS dx (iL (.ref g) (.ref p) fv))/\H g=some (.ins CG cV (gk (.ref a) (.ref ce) cr wo kn))/\H a=some (.tup (l.map V.str))/\H ce=some (.lst xs)/\Paired (kq H) R xs/\H p=some (.lst ((R.map (aF m)).map V.str))/\di l w R/\di m w R/\m.length=l.length/\
 ∀q H',af H H'->H' q=some (.tup (m.map V.str))->Q (.ref q) H'
theorem yF:bw ["self","sheet","cells","signs"] ["self"] (aW (inClass (top 35) 5)):=⟨rfl,rfl,rfl,by decide +kernel,rfl,by decide +kernel,by decide +kernel⟩
theorem adZ{CS CG:Addr}(B:Bl mg)(F:bq K "filled" "Standing.filled" (inClass (top 35) 5) f fd)(TS:cH K CS)(TG:cH K CG)(ng:cz K CS "ground")(np:cz K CS "patterns")(Hw:cz K CG "sheet")(nc:cz K CG "cells")(ad0:Fn P w K mg base "put_word" 2 (Gz K)):aS P w K mg base aY 3 f fd ["self"] (BJ K CS CG):=by
 refine F.ok yF (λvs H Q E h=>?_) (λaL A outer s H vs Q E hr h=>?_)
 .refine hide λG_ aK=>?_
  obtain⟨s,dx,g,cV,p,ce,a,fv,cr,wo,kn,l,m,w,R,xs,rfl,_⟩:=h
  refine aK.k ?_
  rfl
 .refine hide λG_ aN=>?_
  obtain⟨s0,dx,g,cV,p,ce,a,fv,cr,wo,kn,l,m,wd,R,xs,rfl,hs,hg,ha,mY,hR,hp,FL,FM,vg,q⟩:=h
  refine aN.k ?_
  refine⟨_,(au (aO (i:=1) yF.nd rfl (Or.inl rfl) (cK (cK (pv 0) rfl) rfl))
   (au (cM cL rfl (xp .L .L (by rfl) B.xO (ab (cK (cK (pv 0) rfl) rfl) (ab (cK (pv 0) rfl) ah))) (j1 rfl (d7 (bK (i:=2) yF.nd rfl (Or.inl rfl)) (d7 (bK (i:=3) yF.nd rfl (Or.inl rfl)) j0)))
   (az (aO (i:=1) yF.nd rfl (Or.inl rfl) (ba ad0 (hr.mono (by decide)) (by rfl) (ab (pv 1) (ab (pv 2) (ab (pv 3) ah)))))))
   (az (aX (pv 1))))),?_⟩
  try dsimp only[bF]
  have gh:=hR.length
  refine⟨_,rfl,s0,CS,dx,_,_,rfl,hs,TS,ng,yw ..,g,CG,cV,_,_,rfl,hg,TG,Hw,adI ..,?_⟩
  refine⟨_,rfl,s0,CS,dx,_,_,rfl,hs,TS,ng,yw ..,g,CG,cV,_,_,rfl,hg,TG,nc,Pr ..,_,rfl,s0,CS,dx,_,_,rfl,hs,TS,np,yu ..,_,_,rfl,⟨_,ce,rfl,aj.of mY⟩,⟨_,p,rfl,aj.of hp⟩,?_⟩
  have mC:min xs.length ((R.map (aF m)).map V.str).length=R.length:=by rw[ax,ax];omega
  refine xq (K:=K) (k1 := .L) (k2 := .L) (xs:=xs) (ys:=(R.map (aF m)).map V.str) (λi σ H2=>∃v2 v3 qa,σ=[some (.ref s0),some (.ref qa),v2,v3]/\af H H2/\H2 qa=some (.tup ((km l R m i).map V.str)))
   ⟨none,none,a,rfl,af.cQ _,ha⟩ ?_ ?_ ?_
  .intro i σ H2 _ ad1
   refine hide λG_ bt=>?_
   obtain⟨v2,v3,qa,rfl,s2,_⟩:=ad1
   refine bt.k ?_
   exact⟨⟨_,rfl,aj.of (s2 _ _ mY)⟩,_,rfl,aj.of (s2 _ _ hp)⟩
  .intro i x y pt σ H2 hx hy ad2 hpt
   refine hide λG_ cD=>?_
   obtain⟨v2,v3,qa,rfl,s2,hq⟩:=ad2
   obtain⟨row,hrow,t,ys,rfl,ht,ll⟩:=Paired.get hR hx
   refine cD.k ?_
   have mW:ao R i=row:=by unfold ao;rw[bQ,hrow];rfl
   have hyv:y = .str (aF m (ao R i)):=by
    rw[bu,bu,hrow] at hy
    cases hy
    rw[mW]
   subst hyv
   have su:af H2 (upd H2 pt (.tup [.ref t,.str (aF m (ao R i))])):=af.upd hpt
   refine⟨pt,_,rfl,aq.of ar,rfl,_,_,rfl,_,_,rfl,rfl,?_⟩
   have s3:=s2.trans su
   have yq:=su _ _ hq
   generalize upd H2 pt (.tup [.ref t,.str (aF m (ao R i))])=H3 at su s3 yq
   refine⟨_,rfl,_,rfl,_,rfl,qa,t,km l R m i,wd,ao R i,ys,aF m (ao R i),rfl,yq,uW FL i,s3 _ _ ht,by rw[mW];exact ll.mono s3,λc hc=>by rw[qx];exact FL.jO i c hc,λq' H' s' jw=>?_⟩
   exact⟨_,_,q',rfl,s3.trans s',jw⟩
  .intro σ H2 ad3
   refine hide λG_ cJ=>?_
   obtain⟨v2,v3,qa,rfl,s2,hq⟩:=ad3
   refine cJ.k ?_
   rw[mC,adg FL FM vg] at hq
   exact⟨_,rfl,q qa H2 s2 hq⟩
theorem ad4(sh ce cr wo kn:V):(gk sh ce cr wo kn).lookup ("narrowed":Str)=none:=by
 unfold gk
 rw[cO,aw (by decide +kernel),cO,aw (by decide +kernel),cO,aw (by decide +kernel),cO,aw (by decide +kernel),cO,aw (by decide +kernel)]
 rfl
theorem gN.weak{Z Z':Addr->Prop}{H:Hp}{ks:List Str}{wf:Str->Int}{t:Str}{v:V}(k:∀b o,Z b->H b=some o->Z' b)(h:gN Z H ks wf t v):gN Z' H ks wf t v:=let ⟨q,ws,e,z,a,b,c⟩:=h;⟨q,ws,e,k _ _ z a,a,b,c⟩
theorem ik.weak{Z Z':Addr->Prop}{M:Str->Prop}{H:Hp}{ks:List Str}{wf:Str->Int}{kvs:List (Key×V)}(k:∀b o,Z b->H b=some o->Z' b)(h:ik Z M H ks wf kvs):ik Z' M H ks wf kvs:=⟨h.nd,h.key,λx v e=>(h.fit x v e).weak k⟩
theorem ik.keep{Z:Addr->Prop}{M:Str->Prop}{H H':Hp}{ks:List Str}{wf:Str->Int}{kvs:List (Key×V)}(k:∀b o,H b=some (.lst o)->Z b->H' b=some (.lst o))(h:ik Z M H ks wf kvs):ik Z M H' ks wf kvs:=⟨h.nd,h.key,λx v e=>(h.fit x v e).keep k⟩
theorem Hx{α β:Type}{R:α->β->Prop}:∀{xs:List α}{ys:List β}{i:Nat}{x:α}{y:β},Paired R xs ys->R x y->Paired R (xs.set i x) (ys.set i y)
 |_,_,_,_,_,.nil,_=>.nil
 |_,_,0,_,_,.cons _ t,h=>.cons h t
 |_,_,i+1,_,_,.cons g t,h=>.cons g (Hx t h)
structure ad5(Z:Addr->Prop)(M:Str->Prop)(H:Hp)(CS CG s dx g cV p fl cG kn:Addr)(sh ce wo:V)(m ks:List Str)(wf:Str->Int)(w pl:Nat)(R:List (List C2))(fs cs:List V)(x:Str)(kvs:List (Key×V)):Prop where
 e1:H s=some (.ins CS dx (iL (.ref g) (.ref p) (.ref fl)))
 e2:H g=some (.ins CG cV (gk sh ce (.ref cG) wo (.ref kn)))
 e3:H kn=some (.dK kvs)
 e4:ik Z M H ks wf kvs
 e5:BA M
 e6:H p=some (.lst ((R.map (aF m)).map V.str))
 e7:H fl=some (.lst fs)
 e8:Paired (gN Z H ks wf) (R.map (aF m)) fs
 e9:H cG=some (.lst cs)
 e10:Paired (λi x=>∃q us,x=V.ref q/\H q=some (.lst us)/\bB H (kj R i) us) (List.range R.length) cs
 Ak:di m w R
 e12:pl<R.length
 Nn:R.length<=200
 PD:da x (aF m (ao R pl))=true
 e15:x∈ks
 e16:46∉x.cps.toList
 e17:∀q,H q=none->Z q
 e18:∀k i,i<R.length->46∈(aF m (ao R i)).cps.toList->M (aF (putL m ((ao R pl).take k) (x.cps.toList.take k)) (ao R i))
structure ad6(Z:Addr->Prop)(M:Str->Prop)(H H':Hp)(CS g kn s dx p fl:Addr)(m ks:List Str)(wf:Str->Int)(pl:Nat)(R:List (List C2))(fs:List V)(x:Str)(kvs:List (Key×V)):Prop where
 e1:H p=none
 e2:H fl=none
 e3:∀b o,b≠kn->H b=some o->H' b=some o
 e4:H' kn=some (.dK kvs)
 e5:ik Z M H' ks wf kvs
 e6:H' s=some (.ins CS dx (iL (.ref g) (.ref p) (.ref fl)))
 e7:H' p=some (.lst ((R.map (aF (putL m (ao R pl) x.cps.toList))).map V.str))
 e8:H' fl=some (.lst fs)
 e9:Paired (gN Z H' ks wf) (R.map (aF (putL m (ao R pl) x.cps.toList))) fs
def BK(K:PySem.W.Frag)(CS CG:Addr):Sp:=λvs H Q _=>∃(s dx g cV p fl cG kn:Addr) (sh ce wo:V) (m ks:List Str) (wf:Str->Int) (w pl:Nat) (R:List (List C2)) (fs cs:List V) (x:Str) (kvs:List (Key×V)) (Z:Addr->Prop) (M:Str->Prop),vs=[.ref s,.int (pl:Int),.str x]/\ad5 Z M H CS CG s dx g cV p fl cG kn sh ce wo m ks wf w pl R fs cs x kvs/\∀(s' oI p' cA:Addr) wt ve H',ad6 Z M H H' CS g kn s' oI p' cA m ks wf pl R wt x ve->Q (.ref s') H'
structure ad7(Z:Addr->Prop)(M:Str->Prop)(H H2:Hp)(p' cA kn:Addr)(m ks:List Str)(wf:Str->Int)(pl i:Nat)(R:List (List C2))(x:Str)(ps:List Str)(fP:List V)(gO:List (Key×V)):Prop where
 e1:∀b o,b≠kn->H b=some o->H2 b=some o
 e2:H2 kn=some (.dK gO)
 e3:ik (λb=>Z b/\b≠p'/\b≠cA) M H2 ks wf gO
 e4:H2 p'=some (.lst (ps.map V.str))
 e5:H2 cA=some (.lst fP)
 e6:mV R m pl x i ps
 e7:Paired (gN (λb=>Z b/\b≠p'/\b≠cA) H2 ks wf) ps fP
theorem qA:bw ["self","place","word","patterns","fits","letter","crossing","other","at","before"] ["self","place","word"] (aW (inClass (top 35) 1)):=⟨rfl,rfl,rfl,by decide +kernel,rfl,by decide +kernel,by decide +kernel⟩
theorem ad8{CS CG:Addr}(B:Bl mg)(oo:Cn mg "FREE" (.str "."))(F:bq K "after" "Standing.after" (inClass (top 35) 1) f fd)(TS:cH K CS)(TG:cH K CG)(ng:cz K CS "ground")(np:cz K CS "patterns")(nf:cz K CS "fits")(nx:cz K CG "crossings")(vh:Nw P w K mg base "Standing" CS 1 (BC CS))(Hy:Mt P w K mg base CG "narrowed" 1 (Hr K CG) []):aS P w K mg base aY 3 f fd ["self","place","word"] (BK K CS CG):=by
 refine F.ok qA (λvs H Q E h=>?_) (λaL A outer s H vs Q E hr h=>?_)
 .refine hide λG_ aK=>?_
  obtain⟨s,dx,g,cV,p,fl,cG,kn,sh,ce,wo,m,ks,wf,w,pl,R,fs,cs,x,kvs,Z,M,rfl,_⟩:=h
  refine aK.k ?_
  rfl
 .refine hide λG_ aN=>?_
  obtain⟨s0,dx,g,cV,p,fl,cG,kn,sh,ce,wo,m,ks,wf,wd,pl,R,fs,cs,x,kvs,Z,M,rfl,⟨hs,hg,cU,hK,hM,hp,eE,vi,hcr,PF,FL,hpl,sP,dR,iM,BL,hZ,hMk⟩,q⟩:=h
  refine aN.k ?_
  refine⟨_,(au (aO (i:=3) qA.nd rfl (Or.inl rfl) (iz rp (by rfl) B.oa nP (ab (cK (pv 0) rfl) ah)))
   (au (aO (i:=4) qA.nd rfl (Or.inl rfl) (iz rp (by rfl) B.oa nP (ab (cK (pv 0) rfl) ah)))
   (au (cM cL rfl (xp .S .L (by rfl) B.xO (ab (pv 2) (ab (aV gC (cK (cK (pv 0) rfl) rfl) (pv 1) (λ_ _=>rfl)) ah))) (j1 rfl (d7 (bK (i:=5) qA.nd rfl (Or.inl rfl)) (d7 (bK (i:=6) qA.nd rfl (Or.inl rfl)) j0)))
   (au (aO (i:=7) qA.nd rfl (Or.inl rfl) (aV bU (pv 6) aE (λ_ _=>rfl)))
    (au (aO (i:=8) qA.nd rfl (Or.inl rfl) (aV bU (pv 6) aE (λ_ _=>rfl)))
    (au (aO (i:=9) qA.nd rfl (Or.inl rfl) (aV gC (pv 3) (pv 7) (λ_ _=>rfl)))
    (az (bJ (bT j3 (aV gW (pv 9) (pv 8) (λ_ _=>rfl)) (kW oo (by rfl)) (cq _))
    (au (qZ (aR rj (aR rj (nH ui (pv 9) lW (lX (pv 8))) (pv 5)) (nH ui (pv 9) (lX (aR eV (pv 8) aE)) lW)) (tO (pv 3) (pv 7) set_list))
     (az (qZ (rP Hy (hr.mono (by decide)) (cK (pv 0) rfl) (ab (aV gC (pv 4) (pv 7) (λ_ _=>rfl)) (ab (aV gC (pv 3) (pv 7) (λ_ _=>rfl)) (ab (pv 8) ah)))) (tO (pv 4) (pv 7) set_list))))
    bR))))))
   (au (qZ (pv 2) (tO (pv 3) (pv 1) set_list))
   (au (qZ (fm (ab (pv 2) ah)) (tO (pv 4) (pv 1) set_list))
   (az (aX (Ax vh (hr.mono (by decide)) (by rfl) (ab (cK (pv 0) rfl) (ab (pv 3) (ab (pv 4) ah))))))))))),?_⟩
  try dsimp only[bF]
  have Ht:=vi.length
  rw[ax] at Ht
  have gh:x.length=(ao R pl).length:=by rw[(kl.mp dR).1,ie]
  have h9:=(FL.len hpl).2
  refine⟨_,rfl,s0,CS,dx,_,_,rfl,hs,TS,np,yu ..,p,_,rfl,.inl (aj.of hp),λp' eN=>?_⟩
  have s1:af H (upd H p' (.lst ((R.map (aF m)).map V.str))):=af.upd eN
  refine⟨_,rfl,s0,CS,dx,_,_,rfl,s1 _ _ hs,TS,nf,BB ..,fl,_,rfl,.inl (aj.of (s1 _ _ eE)),λcA BM=>?_⟩
  have s2:af (upd H p' (.lst ((R.map (aF m)).map V.str))) (upd (upd H p' (.lst ((R.map (aF m)).map V.str))) cA (.lst fs)):=af.upd BM
  have PH:H cA=none:=s1.free BM
  have yG:p'≠cA:=λz=>by rw[<-z,ar] at BM;cases BM
  have PJ:upd (upd H p' (.lst ((R.map (aF m)).map V.str))) cA (.lst fs) p'=some (.lst ((R.map (aF m)).map V.str)):=by rw[ak yG];exact ar
  have PK:upd (upd H p' (.lst ((R.map (aF m)).map V.str))) cA (.lst fs) cA=some (.lst fs):=ar
  have sm:=s1.trans s2
  generalize upd (upd H p' (.lst ((R.map (aF m)).map V.str))) cA (.lst fs)=H0 at sm PJ PK
  clear s1 s2
  refine hide λG_ bt=>?_
  obtain⟨cv,lz⟩:∃cv,cs[pl]? = some cv:=⟨_,bg (by have:=PF.length;rw[kG] at this;omega)⟩
  obtain⟨pl',PL,qa,us,rfl,fM,lD⟩:=Paired.get PF lz
  refine bt.k ?_
  have epl:pl'=pl:=by
   rw[qJ hpl] at PL
   exact(dm PL).symm
  rw[epl] at lD
  have Hj:us.length=(ao R pl).length:=by rw[<-lD.length,ac7 FL.good]
  refine⟨_,rfl,_,rfl,s0,CS,dx,_,_,rfl,sm _ _ hs,TS,ng,yw ..,g,CG,cV,_,_,rfl,sm _ _ hg,TG,nx,adH ..,_,rfl,cG,_,_,.ref qa,rfl,rfl,aj.of (sm _ _ hcr),dH lz,_,_,rfl,⟨_,x,rfl,rfl⟩,⟨_,qa,rfl,aj.of (sm _ _ fM)⟩,?_⟩
  have jg:∀b o,H b=some o->b≠p'/\b≠cA:=λb o e=>⟨aZ e eN,aZ e PH⟩
  have mC:min (x.cps.toList.map λc=>V.str ⟨#[c]⟩).length us.length=(ao R pl).length:=by rw[ax,cC];omega
  refine xq (K:=K) (k1 := .S) (k2 := .L) (xs:=x.cps.toList.map λc=>V.str ⟨#[c]⟩) (ys:=us) (λi σ H2=>∃v5 v6 v7 v8 v9 ps fP gO,σ=[some (.ref s0),some (.int (pl:Int)),some (.str x),some (.ref p'),some (.ref cA),v5,v6,v7,v8,v9]/\ad7 Z M H H2 p' cA kn m ks wf pl i R x ps fP gO)
   ⟨none,none,none,none,none,R.map (aF m),fs,kvs,rfl,⟨λb o _ e=>sm _ _ e,sm _ _ cU,?_,PJ,PK,mV.zero hpl,?_⟩⟩ ?_ ?_ ?_
  .exact(hK.weak λb o z e=>⟨z,jg b o e⟩).keep λb o e _=>sm _ _ e
  .exact Paired.bM vi λt v e=>(e.weak λb o z e=>⟨z,jg b o e⟩).keep λb o e _=>sm _ _ e
  .intro i σ H2 _ ad9
   refine hide λG_ cD=>?_
   obtain⟨v5,v6,v7,v8,v9,ps,fP,gO,rfl,SI⟩:=ad9
   refine cD.k ?_
   exact⟨⟨_,rfl,rfl⟩,_,rfl,aj.of (SI.e1 _ _ (bY fM cU (by intro z;cases z)) fM)⟩
  .intro i cv y pt σ H2 lz hy aea hpt
   refine hide λG_ cJ=>?_
   obtain⟨v5,v6,v7,v8,v9,ps,fP,gO,rfl,⟨off,kU,BN,fL,BO,AI,oE⟩⟩:=aea
   rw[bu] at lz
   obtain⟨ch,hch,rfl⟩:=jl.mp lz
   obtain⟨pp,xi,u,rfl,hu⟩:=Paired.get lD hy
   have hi:i<(ao R pl).length:=by rw[<-Hj];exact(cn.mp hy).1
   obtain⟨c,hc⟩:∃c,(ao R pl)[i]? = some c:=⟨_,bg hi⟩
   obtain⟨pp',yE,CR⟩:=ac8 FL.good hc
   refine cJ.k ?_
   rw[xi] at yE
   cases yE
   refine hide λG_ gK=>?_
   obtain⟨b,hb,PM,nS,hb9,ay,an⟩:=AI.step FL dR hc hch CR
   refine gK.k ?_
   have su:af H2 (upd H2 pt (.tup [.str ⟨#[ch]⟩,.ref u])):=af.upd hpt
   refine⟨pt,_,rfl,aq.of ar,rfl,_,_,rfl,_,_,rfl,rfl,?_⟩
   have iN:∀b o,b≠kn->H b=some o->upd H2 pt (.tup [.str ⟨#[ch]⟩,.ref u]) b=some o:=λb o n e=>su _ _ (off b o n e)
   have dW:=su _ _ kU
   have kr:=su _ _ fL
   have qB:=su _ _ BO
   have oJ:=BN.keep λb o e _=>su _ _ e
   have oK:=Paired.bM oE λt v e=>e.keep λb o e _=>su _ _ e
   generalize upd H2 pt (.tup [.str ⟨#[ch]⟩,.ref u])=H3 at iN dW kr qB oJ oK
   clear su kU fL BO BN oE off hpt
   have PN:H3 u=some (.tup [.int (pp.1:Int),.int (pp.2:Int)]):=iN _ _ (bY hu cU (by intro z;cases z)) hu
   have mX:ps.length=R.length:=AI.len
   have kb:(ps.map V.str)[pp.1]? = some (.str b):=by rw[bu,hb];rfl
   refine⟨_,rfl,u,_,0,.int (pp.1:Int),rfl,rfl,aq.of PN,rfl,?_⟩
   refine⟨_,rfl,u,_,1,.int (pp.2:Int),rfl,rfl,aq.of PN,rfl,?_⟩
   refine⟨_,rfl,_,rfl,p',_,_,.str b,rfl,rfl,aj.of kr,dH kb,?_⟩
   refine⟨_,rfl,_,rfl,b,_,sg m c,rfl,rfl,dX (by omega),dH PM,rfl,_,rfl,?_⟩
   rw[uB,sr]
   by_cases dr:sg m c=46
   .rw[aG dr]
    have l1:(Txt.slice b none (some (pp.2:Int))).length<=100:=bO (vZ b _ _) (by omega)
    have l2:(Txt.slice b (some ((pp.2:Int)+1)) none).length<=100:=bO (vZ b _ _) (by omega)
    refine bG ⟨_,rfl,_,rfl,_,rfl,b,rfl,dX (by omega),_,rfl,_,_,rfl,rfl,dX (by show _+1<=_;omega),?_⟩
    refine⟨_,rfl,_,rfl,_,_,rfl,rfl,_,rfl,b,rfl,dX (by omega),_,_,rfl,rfl,dX ?_,?_⟩
    .rw[<-cC,mF,dw,cC]
     show _+1+_<=_
     omega
    have eg:=Fi (x:=b) (j:=pp.2) (ch:=ch) (FW (by omega)) (FX (by omega))
    refine⟨_,rfl,_,rfl,p',_,_,pp.1,rfl,rfl,kr,uj (by rw[ax,mX];exact CR.lt),?_⟩
    rw[eg]
    have A1:=ay dr
    have BP:kn≠p':=(jg _ _ cU).1
    have BQ:kn≠cA:=(jg _ _ cU).2
    have vj:∀b' o,b'≠kn->H b'=some o->upd H3 p' (.lst ((ps.map V.str).set pp.1 (.str (bH b pp.2 ch)))) b'=some o:=λb' o n e=>by rw[ak (jg _ _ e).1];exact iN b' o n e
    have yH:upd H3 p' (.lst ((ps.map V.str).set pp.1 (.str (bH b pp.2 ch)))) kn=some (.dK gO):=by rw[ak BP];exact dW
    have BR:upd H3 p' (.lst ((ps.map V.str).set pp.1 (.str (bH b pp.2 ch)))) p'=some (.lst ((ps.set pp.1 (bH b pp.2 ch)).map V.str)):=by rw[ar,List.map_set]
    have BS:upd H3 p' (.lst ((ps.map V.str).set pp.1 (.str (bH b pp.2 ch)))) cA=some (.lst fP):=by rw[ak (bo yG)];exact qB
    have Hz:ik (λb=>Z b/\b≠p'/\b≠cA) M (upd H3 p' (.lst ((ps.map V.str).set pp.1 (.str (bH b pp.2 ch))))) ks wf gO:=oJ.keep λb' o e z=>by rw[ak z.2.1];exact e
    have qC:Paired (gN (λb=>Z b/\b≠p'/\b≠cA) (upd H3 p' (.lst ((ps.map V.str).set pp.1 (.str (bH b pp.2 ch))))) ks wf) ps fP:=Paired.bM oK λt v e=>e.keep λb' o e z=>by rw[ak z.2.1];exact e
    have HD:∀b',upd H3 p' (.lst ((ps.map V.str).set pp.1 (.str (bH b pp.2 ch)))) b'=none->H b'=none/\b'≠p'/\b'≠cA:=λb' e=>by
     refine⟨?_,(λz=>by rw[z,BR] at e;cases e),(λz=>by rw[z,BS] at e;cases e)⟩
     cases eb:H b' with
     |none=>rfl
     |some o=>
      by_cases zk:b'=kn
      .rw[zk,yH] at e;cases e
      .rw[vj b' o zk eb] at e;cases e
    generalize upd H3 p' (.lst ((ps.map V.str).set pp.1 (.str (bH b pp.2 ch))))=H4 at vj yH BR BS Hz qC HD
    refine hide λG_ ou=>?_
    obtain⟨lv,xj,l,ws,rfl,zl,hl4,yI,BH⟩:=Paired.getL qC hb
    refine ou.k ?_
    have aeb:((ps.set pp.1 (bH b pp.2 ch)).map V.str)[pp.1]? = some (.str (bH b pp.2 ch)):=by
     rw[bu,vQ (by rw[mX];exact CR.lt)]
     rfl
    have aec:b.cps.toList.getD pp.2 0=46:=by rw[cu PM];exact dr
    have aed:ch≠46:=λz=>BL (by rw[<-z];exact bE hch)
    have hMb:M (bH b pp.2 ch):=by
     have e1:=A1.je pp.1 CR.lt CR.ne
     rw[vQ (by rw[mX];exact CR.lt)] at e1
     rw[dm e1]
     exact hMk (i+1) pp.1 CR.lt (by rw[mU,<-dr];exact Dg (bE CR.ix))
    refine⟨_,rfl,s0,CS,dx,_,_,rfl,vj _ _ (bY hs cU (by intro z;cases z)) hs,TS,ng,yw ..,g,cV,_,rfl,vj _ _ (bY hg cU (by intro z;cases z)) hg,ad4 ..,?_⟩
    refine⟨_,rfl,_,rfl,cA,_,_,.ref l,rfl,rfl,aj.of BS,dH xj,_,rfl,_,rfl,p',_,_,.str (bH b pp.2 ch),rfl,rfl,aj.of BR,dH aeb,_,rfl,?_⟩
    refine⟨g,cV,l,kn,sh,ce,.ref cG,wo,ws,ks,wf,b,pp.2,ch,gO,(λb=>Z b/\b≠p'/\b≠cA),M,rfl,vj _ _ (bY hg cU (by intro z;cases z)) hg,yH,Hz,hM,hl4,yI,BH,nS,by omega,aec,aed,hMb,λb' e=>⟨hZ b' (HD b' e).1,(HD b' e).2⟩,λH5 kv5 v o5 sQ HE hFv=>?_⟩
    have BU:=o5 _ _ (bo BQ) BS
    refine⟨_,rfl,_,rfl,cA,_,_,pp.1,rfl,rfl,BU,uj (by rw[<-qC.length,mX];exact CR.lt),?_⟩
    refine⟨_,_,_,_,_,ps.set pp.1 (bH b pp.2 ch),fP.set pp.1 v,kv5,rfl,⟨λb' o n e=>?_,?_,?_,?_,ar,A1,?_⟩⟩
    .rw[ak (jg _ _ e).2]
     exact o5 _ _ n (vj b' o n e)
    .rw[ak BQ];exact sQ
    .exact HE.keep λb' o e z=>by rw[ak z.2.2];exact e
    .rw[ak yG];exact o5 _ _ (bo BP) BR
    .refine Hx (Paired.bM qC λt v' e=>e.keep λb' o e z=>?_) (hFv.keep λb' o e z=>by rw[ak z.2.2];exact e)
     rw[ak z.2.2]
     exact o5 _ _ (bY e yH (by intro z;cases z)) e
   .rw[aH dr]
    exact aT ⟨_,_,_,_,_,ps,fP,gO,rfl,⟨iN,dW,oJ,kr,qB,an dr,oK⟩⟩
  .intro σ H2 aee
   refine hide λG_ sM=>?_
   obtain⟨v5,v6,v7,v8,v9,ps,fP,gO,rfl,⟨off,kU,BN,fL,BO,AI,oE⟩⟩:=aee
   refine sM.k ?_
   rw[mC] at AI
   have mX:ps.length=R.length:=AI.len
   have BP:kn≠p':=(jg _ _ cU).1
   have BQ:kn≠cA:=(jg _ _ cU).2
   refine⟨_,rfl,_,rfl,_,rfl,p',_,_,pl,rfl,rfl,fL,uj (by rw[ax,mX];exact hpl),?_⟩
   have ed:=AI.done FL gh hpl
   have kr:upd H2 p' (.lst ((ps.map V.str).set pl (.str x))) p'=some (.lst ((R.map (aF (putL m (ao R pl) x.cps.toList))).map V.str)):=by rw[ar,<-List.map_set,ed]
   have iN:∀b' o,b'≠kn->H b'=some o->upd H2 p' (.lst ((ps.map V.str).set pl (.str x))) b'=some o:=λb' o n e=>by rw[ak (jg _ _ e).1];exact off b' o n e
   have dW:upd H2 p' (.lst ((ps.map V.str).set pl (.str x))) kn=some (.dK gO):=by rw[ak BP];exact kU
   have qB:upd H2 p' (.lst ((ps.map V.str).set pl (.str x))) cA=some (.lst fP):=by rw[ak (bo yG)];exact BO
   have oJ:ik (λb=>Z b/\b≠p'/\b≠cA) M (upd H2 p' (.lst ((ps.map V.str).set pl (.str x)))) ks wf gO:=BN.keep λb' o e z=>by rw[ak z.2.1];exact e
   have oK:Paired (gN (λb=>Z b/\b≠p'/\b≠cA) (upd H2 p' (.lst ((ps.map V.str).set pl (.str x)))) ks wf) ps fP:=Paired.bM oE λt v e=>e.keep λb' o e z=>by rw[ak z.2.1];exact e
   generalize upd H2 p' (.lst ((ps.map V.str).set pl (.str x)))=H3 at iN dW kr qB oJ oK
   refine⟨_,rfl,(by show 1<=sizeLine;decide),λl hl=>⟨_,rfl,_,rfl,cA,fP,_,pl,rfl,rfl,?_,uj (by rw[<-oE.length,mX];exact hpl),?_⟩⟩
   .rw[ak (λz=>by rw[<-z,qB] at hl;cases hl)]
    exact qB
   have nlp:l≠p':=λz=>by rw[z,kr] at hl;cases hl
   have nlf:l≠cA:=λz=>by rw[z,qB] at hl;cases hl
   have nlk:kn≠l:=λz=>by rw[<-z,dW] at hl;cases hl
   have hlH:H l=none:=by
    cases eb:H l with
    |none=>rfl
    |some o=>
     rw[iN l o (bo nlk) eb] at hl;cases hl
   have h5:∀b o,b≠cA->H3 b=some o->upd (upd H3 l (.lst [.str x])) cA (.lst (fP.set pl (.ref l))) b=some o:=λb o n e=>by rw[ak n,ak (aZ e hl)];exact e
   have PQ:upd (upd H3 l (.lst [.str x])) cA (.lst (fP.set pl (.ref l))) l=some (.lst ([x].map V.str)):=by rw[ak nlf];exact ar
   have BU:upd (upd H3 l (.lst [.str x])) cA (.lst (fP.set pl (.ref l))) cA=some (.lst (fP.set pl (.ref l))):=ar
   generalize upd (upd H3 l (.lst [.str x])) cA (.lst (fP.set pl (.ref l)))=H5 at h5 PQ BU
   have oj:∀b' o,b'≠kn->H b'=some o->H5 b'=some o:=λb' o n e=>h5 _ _ (jg _ _ e).2 (iN b' o n e)
   have HF:=oj _ _ (bY hs cU (by intro z;cases z)) hs
   refine⟨_,rfl,s0,CS,dx,_,_,rfl,HF,TS,ng,yw ..,_,rfl,_,rfl,λs' oI kX HG dI=>⟨s',oI,.ref g,.ref p',.ref cA,rfl,ar,λH' h1 h2=>⟨rfl,?_⟩⟩⟩
   have h6:∀b o,H5 b=some o->H' b=some o:=λb o e=>h2 _ _ (λz=>by rw[z,kX] at e;cases e) (by rw[ak (λz=>by rw[z,kX] at e;cases e),ak (λz=>by rw[z,HG] at e;cases e)];exact e)
   have sy:=h5 _ _ yG kr
   have sQ:=h5 _ _ BQ dW
   refine q s' oI p' cA _ gO H' ⟨eN,PH,λb o n e=>h6 _ _ (oj b o n e),h6 _ _ sQ,?_,h1,h6 _ _ sy,h6 _ _ BU,?_⟩
   .exact(oJ.keep λb o e z=>h6 _ _ (h5 _ _ z.2.2 e)).weak λb o z _=>z.1
   .rw[<-ed]
    refine Hx (Paired.bM oK λt v e=>(e.keep λb o e z=>h6 _ _ (h5 _ _ z.2.2 e)).weak λb o z _=>z.1) ?_
    exact⟨l,[x],rfl,hZ l hlH,h6 _ _ PQ,lC.one iM BL,by show 1<=64;decide⟩
end
theorem lE(f:Str)(v:V):∀fs:List (Str×V),(aU f v fs).length<=fs.length+1
 |[]=>aP _
 |(g,u)::r=>by
  unfold aU
  split
  .exact iO _
  .exact lM (lE f v r)
theorem aq.aef{K:PySem.W.Frag}{H H':Hp}{a g:Addr}{xs:List V}{C dx:Addr}{fs:List (Str×V)}(hg:H g=some (.ins C dx fs))(k:∀b o,b≠g->H b=some o->H' b=some o)(h:aq K H a xs):aq K H' a xs:=by
 rcases h with (h | ⟨o,h⟩) | h
 .exact .inl (.inl (k _ _ (bY h hg (by intro z;cases z)) h))
 .exact .inl (.inr ⟨o,k _ _ (bY h hg (by intro z;cases z)) h⟩)
 .exact .inr h
theorem kq.off{H H':Hp}{D:Addr}{r:List C2}{x:V}(hD:∃o,H D=some (.lst o))(k:∀b o,b≠D->H b=some o->H' b=some o)(h:kq H r x):kq H' r x:=by
 obtain⟨t,ys,e,ht,hc⟩:=h
 obtain⟨o,ho⟩:=id hD
 exact⟨t,ys,e,k _ _ (bY ht ho (by intro z;cases z)) ht,hc.off hD k⟩
theorem kq.fU{H H':Hp}{r:List C2}{x:V}(k:∀b o,H b=some (.tup o)->H' b=some (.tup o))(h:kq H r x):kq H' r x:=by
 obtain⟨t,ys,e,ht,hc⟩:=h
 exact⟨t,ys,e,k _ _ ht,hc.lists k⟩
theorem HH{α β:Type}{F:α->β->Prop}(d:α):∀(R:List α) (ys:List β) (k:Nat),Paired (λi y=>F (R.getD (i - k) d) y) (List.range' k R.length) ys->Paired F R ys
 |[],ys,k,h=>by cases h;exact .nil
 |r::R,ys,k,h=>by
  rw[dg,List.range'_succ] at h
  cases h with
  |cons h t=>
   refine .cons ?_ (HH d R _ (k+1) (PR t λi y mi e=>?_))
   .rw[Nat.sub_self] at h
    exact h
   .have h1:=(List.mem_range'_1.mp mi).1
    have e2:i - k=(i - (k+1))+1:=by omega
    rw[e2] at e
    exact e
where
 PR {α β:Type}{F G:α->β->Prop}:∀{xs:List α}{ys:List β},Paired F xs ys->(∀x y,x∈xs->F x y->G x y)->Paired G xs ys
  |_,_,.nil,_=>.nil
  |_,_,.cons h t,k=>.cons (k _ _ bL h) (PR t λx y m e=>k x y (cg _ m) e)
theorem aeg{β:Type}{F:List C2->β->Prop}{R:List (List C2)}{ys:List β}(h:Paired (λi y=>F (ao R i) y) (List.range R.length) ys):Paired F R ys:=by
 refine HH [] R ys 0 ?_
 rw[<-List.range_eq_range']
 exact h
theorem PU{α:Type}{G:α->Addr->Prop}:∀{l:List α}{ys:List V},Paired (λi y=>∃t,y=V.ref t/\G i t) l ys->∃ts:List Addr,ys=ts.map V.ref/\Paired (λt i=>G i t) ts l
 |_,_,.nil=>⟨[],rfl,.nil⟩
 |_,_,.cons ⟨t,e,h⟩ r=>by
  obtain⟨ts,e2,p⟩:=PU r
  exact⟨t::ts,by rw[e,e2];rfl,.cons h p⟩
theorem PV(h:Str->V)(x:Str):∀(n:Nat) (xs:List Str),xs.length=n->aQ (i5 (xs.map λx=>(x,h x))) (Sum.inr x:Key)=if x∈xs then some (h x) else none
 |0,xs,e=>by
  have:xs=[]:=List.length_eq_zero_iff.mp e
  subst this
  rfl
 |n+1,xs,e=>by
  have dI:xs≠[]:=λz=>by rw[z] at e;cases e
  obtain⟨ys,y,rfl⟩:∃ys y,xs=ys++[y]:=⟨xs.dropLast,xs.getLast dI,(List.dropLast_concat_getLast dI).symm⟩
  have ih:=PV h x n ys (by simpa using e)
  rw[eK,bX,vW,M0,nK]
  by_cases z:x=y
  .rw[aA (by rw[z]),aA (by rw[z];simp),z]
  .rw[aw (λw=>z (by injection w)),ih]
   by_cases m:x∈ys
   .rw[aA m,aA (oQ _ m)]
   .rw[aw m,aw (λw=>by rcases du.mp w with w | w;exact m w;exact z (cI.mp w))]
theorem HI{α β γ:Type}{F:α->γ->Prop}{f:β->γ}:∀{xs:List α}{ys:List β},Paired (λx y=>F x (f y)) xs ys->Paired F xs (ys.map f)
 |_,_,.nil=>.nil
 |_,_,.cons h t=>.cons h (HI t)
section
variable{P:Program}{w:World}{K:PySem.W.Frag}{mg:Str->Option Value}{base:Heap}{f:Addr}{fd:FuncData}
def aeh(H H':Hp)(R:List (List C2))(cs:List V):Prop:=Paired (λi x=>∃q us,x=V.ref q/\H q=none/\H' q=some (.lst us)/\bB H' (kj R i) us) (List.range R.length) cs
def HJ(K:PySem.W.Frag)(CG CB:Addr):Sp:=λvs H Q _=>∃(g dx a bk d:Addr) (l:List Str) (w:Nat) (kvs:List (Key×V)),vs=[.ref g,.ref bk,.ref a]/\H g=some (.ins CG dx [])/\aq K H a (l.map V.str)/\bj l w/\GoodR (aI l w)/\iJ CB H bk d kvs/\kvs.length<64/\(∀x∈bb kvs,dJ x=true)/\
 ∀(ce cG wo kn:Addr) (xs cs:List V) (wd:List (Key×V)) (H':Hp),(∀b o,b≠g->H b=some o->H' b=some o)->H' g=some (.ins CG dx (gk (.ref a) (.ref ce) (.ref cG) (.ref wo) (.ref kn)))->H ce=none->H' ce=some (.lst xs)->Paired (kq H') (aI l w) xs->H cG=none->H' cG=some (.lst cs)->aeh H H' (aI l w) cs->
  H wo=none->H' wo=some (.dK wd)->(∀x∈bb kvs,aQ wd (Sum.inr x:Key)=aQ kvs (Sum.inr x:Key))->H kn=none->H' kn=some (.dK [])->Q .aD H'
theorem aei:bw ["self","book","sheet"] ["self","book","sheet"] (aW (inClass (top 34) 0)):=⟨rfl,rfl,rfl,by decide +kernel,rfl,by decide +kernel,by decide +kernel⟩
theorem aej{CG CB:Addr}(B:Bl mg)(F:bq K "__init__" "Ground.__init__" (inClass (top 34) 0) f fd)(T:cH K CG)(Hw:cz K CG "sheet")(BV:cz K CG "cells")(ncr:cz K CG "crossings")(PX:cz K CG "worths")(HK:cz K CG "known")(HL:Fn P w K mg base "rows_of" 5 (AY K))(aek:Fn P w K mg base "crossings_of" 2 (Hk K))(HM:Mt P w K mg base CB "words" 1 (Gj CB) [])(vk:Mt P w K mg base CB "worth" 5 (Bb CB) []):aS P w K mg base aY 6 f fd ["self","book","sheet"] (HJ K CG CB):=by
 refine F.ok aei (λvs H Q E h=>?_) (λaL A outer s H vs Q E hr h=>?_)
 .refine hide λG_ aK=>?_
  obtain⟨g,dx,a,bk,d,l,w,kvs,rfl,_⟩:=h
  refine aK.k ?_
  rfl
 .refine hide λG_ aN=>?_
  obtain⟨g,dx,a,bk,d,l,wd,kvs,rfl,hg,hT,S,G,hB,eO,il,q⟩:=h
  refine aN.k ?_
  refine⟨_,(au (kL (pv 0) (pv 2) rfl)
   (au (kL (pv 0) (i0 (js:=[]) (ns:=[]) (dQ (ba HL (hr.mono (by decide)) (by rfl) (ab (pv 2) ah))) rfl rfl rfl rfl (λ_ _ _ _=>jB) (λ_ _ _ _=>(An (K:=K) (rr:=wI) rfl bU (pv 0) aE (λ_ _=>rfl)))) rfl)
   (au (kL (pv 0) (ba aek (hr.mono (by decide)) (by rfl) (ab (cK (pv 0) rfl) ah)) rfl)
   (au (kL (pv 0) (iz (Zx rfl) (by rfl) B.aaE Zz (ab (i0 (js:=[1]) (ns:=["book"]) (dQ (Eu HM (hr.mono (by decide)) (pv 1))) rfl rfl rfl rfl (λ_ _ _ _=>jB) (λ_ _ _ _=>(fX (ab (pv 0) (ab (rP vk (hr.mono (by decide)) (pv 1) (ab (pv 0) ah)) ah))))) ah (hs:=dq rfl))) rfl)
   (az (kL (pv 0) DX rfl)))))),?_⟩
  try dsimp only[bF]
  have hR9:∀i,(ao (aI l wd) i).length<=9:=λi=>by
   by_cases hi:i<(aI l wd).length
   .exact(kh S (sO hi)).2.1
   .unfold ao
    rw[bQ,dy (Kd hi)]
    exact bC _
  have mS:=uG S
  rw[<-Bj] at mS
  obtain⟨⟨HN,pT⟩,HP,HQ,vm⟩:=id hB
  have PY:bk≠g:=bY pT hg (λz=>by injection z with _ _ z;unfold uH at z;cases z)
  have ndg:d≠g:=bY HP hg (λz=>by cases z)
  refine⟨_,rfl,_,rfl,g,CG,dx,[],rfl,hg,T,Hw,(by show 0<1000;decide),?_⟩
  have o1:∀b o,b≠g->H b=some o->upd H g (.ins CG dx (aU "sheet" (.ref a) [])) b=some o:=λb o n e=>by rw[ak n];exact e
  have g1:upd H g (.ins CG dx (aU "sheet" (.ref a) [])) g=some (.ins CG dx (aU "sheet" (.ref a) [])):=ar
  have PZ:∀b,upd H g (.ins CG dx (aU "sheet" (.ref a) [])) b=none->H b=none:=λb e=>by
   cases eb:H b with
   |none=>rfl
   |some o=>
    by_cases z:b=g
    .rw[z,g1] at e;cases e
    .rw[o1 b o z eb] at e;cases e
  generalize upd H g (.ins CG dx (aU "sheet" (.ref a) []))=H1 at o1 g1 PZ
  have EV:=aq.aef hg o1 hT
  refine⟨_,rfl,a,l,wd,rfl,EV,S,λgg xa xd H2 hgg s2 hL rA rD=>⟨gg,rfl,⟨_,aj.of hL⟩,?_⟩⟩
  have rB:=Oc rA rD
  have P0:=rB.length
  have eW:(aI l wd).length=(xa++xd).length:=by rw[sD,ax,P0]
  refine comp_map jC (by omega) (λ_ i y H3=>kq H3 (ao (aI l wd) i) y) (λH3 s3=>aj.of (s3 _ _ hL)) (λD i y Ha Hb _ hD k h=>h.off hD k) ?_ ?_
  .intro D i y H3 Z hD hy s3 _ k1
   refine hide λG_ bt=>?_
   obtain⟨row,hrow,way,aa,t,ys,rfl,e1,e2,e3⟩:=Paired.get rB hy
   refine bt.k ?_
   have er:ao (aI l wd) i=row.2:=by unfold ao;rw[sD,bQ,bu,hrow];rfl
   exact⟨_,rfl,aa,_,2,.ref t,rfl,rfl,aq.of (s3 _ _ e1),rfl,k1 _ _ (af.cQ _) ⟨t,ys,rfl,s3 _ _ e2,by rw[er];exact e3.mono s3⟩⟩
  .intro ce ys H3 mY uV s3 pr
   rw[<-eW] at pr
   have sR:=aeg (F:=kq H3) pr
   have oM:=s2.trans s3
   have vn:H1 ce=none:=s2.free mY
   have HR:ce≠g:=λz=>by rw[z,g1] at vn;cases vn
   refine⟨_,rfl,g,CG,dx,_,rfl,oM _ _ g1,T,BV,kF (lE _ _ _) (by show 1<1000;decide),?_⟩
   have o4:∀b o,b≠g->H3 b=some o->upd H3 g (.ins CG dx (aU "cells" (.ref ce) (aU "sheet" (.ref a) []))) b=some o:=λb o n e=>by rw[ak n];exact e
   have g4:upd H3 g (.ins CG dx (aU "cells" (.ref ce) (aU "sheet" (.ref a) []))) g=some (.ins CG dx (aU "cells" (.ref ce) (aU "sheet" (.ref a) []))):=ar
   generalize upd H3 g (.ins CG dx (aU "cells" (.ref ce) (aU "sheet" (.ref a) [])))=H4 at o4 g4
   have ng3:∀b o,H3 b=some (.tup o)->b≠g:=λb o e=>bY e (oM _ _ g1) (by intro z;cases z)
   have P4:=Paired.bM sR λr x h=>h.fU λb o e=>o4 b _ (ng3 b o e) e
   have HS:∀b o,b≠g->H b=some o->H4 b=some o:=λb o n e=>o4 b o n (oM _ _ (o1 b o n e))
   have BW:∀b,H4 b=none->H b=none:=λb e=>by
    cases eb:H b with
    |none=>rfl
    |some o=>
     by_cases z:b=g
     .rw[z,g4] at e;cases e
     .rw[HS b o z eb] at e;cases e
   have lc:(aU "cells" (.ref ce) (aU "sheet" (.ref a) [])).lookup ("cells":Str)=some (V.ref ce):=by rw[cO,aA rfl]
   refine⟨_,rfl,g,CG,dx,_,_,rfl,g4,T,BV,lc,ce,aI l wd,ys,rfl,o4 _ _ HR uV,P4,G,mS,hR9,λcG zs H5 sS s5 ael ll=>?_⟩
   have aem:cG≠g:=λz=>by rw[z,g4] at sS;cases sS
   refine⟨_,rfl,g,CG,dx,_,rfl,s5 _ _ g4,T,ncr,kF (bO (lE _ _ _) (lM (lE _ _ _))) (by show 2<1000;decide),?_⟩
   have g5:=s5 _ _ g4
   have o6:∀b o,b≠g->H5 b=some o->upd H5 g (.ins CG dx (aU "crossings" (.ref cG) (aU "cells" (.ref ce) (aU "sheet" (.ref a) [])))) b=some o:=λb o n e=>by rw[ak n];exact e
   have g6:upd H5 g (.ins CG dx (aU "crossings" (.ref cG) (aU "cells" (.ref ce) (aU "sheet" (.ref a) [])))) g=some (.ins CG dx (aU "crossings" (.ref cG) (aU "cells" (.ref ce) (aU "sheet" (.ref a) [])))):=ar
   generalize upd H5 g (.ins CG dx (aU "crossings" (.ref cG) (aU "cells" (.ref ce) (aU "sheet" (.ref a) []))))=H6 at o6 g6
   have HU:∀b o,b≠g->H b=some o->H6 b=some o:=λb o n e=>o6 b o n (s5 _ _ (HS b o n e))
   have P5:iJ CB H6 bk d kvs:=⟨⟨HN,HU _ _ PY pT⟩,HU _ _ ndg HP,HQ,vm⟩
   refine⟨_,rfl,bk,HN,_,rfl,HU _ _ PY pT,uJ _ (by decide +kernel),bk,d,kvs,rfl,P5,eO,λlw H7 hlw s7 P6=>⟨lw,rfl,⟨_,aj.of P6⟩,?_⟩⟩
   have i4:(cx (bb kvs)).length=kvs.length:=by rw[(ka _).length_eq,yi]
   have P7:∀x,x∈cx (bb kvs)↔x∈bb kvs:=λx=>(ka _).mem_iff
   refine comp_map jC (by rw[ax];omega) (λ_ i y H8=>∃t,y = .ref t/\H8 t=some (.tup [.str ((cx (bb kvs)).getD i ⟨#[]⟩),(aQ kvs (Sum.inr ((cx (bb kvs)).getD i ⟨#[]⟩):Key)).getD .aD])) (λH8 s8=>aj.of (s8 _ _ P6)) (λD i y Ha Hb _ hD k h=>?_) ?_ ?_
   .obtain⟨t,e1,e2⟩:=h
    obtain⟨o,ho⟩:=hD
    exact⟨t,e1,k _ _ (bY e2 ho (by intro z;cases z)) e2⟩
   .intro D i y H8 Z hD hy s8 _ k1
    rw[bu] at hy
    refine hide λG_ cD=>?_
    obtain⟨x,hx,rfl⟩:=jl.mp hy
    have hxd:(cx (bb kvs)).getD i ⟨#[]⟩=x:=cu hx
    have iM:x∈bb kvs:=(P7 x).mp (bE hx)
    obtain⟨v,hv⟩:∃v,aQ kvs (Sum.inr x:Key)=some v:=by
     have:=GU vm x
     rw[aG iM] at this
     cases e:aQ kvs (Sum.inr x:Key) with
     |none=>rw[e] at this;cases this
     |some v=>exact⟨v,rfl⟩
    have P8:=P5.mono (s7.trans s8)
    obtain⟨⟨dx8,aen⟩,_⟩:=id P8
    refine cD.k ?_
    refine⟨_,rfl,_,rfl,bk,dx8,_,rfl,aen,uJ _ (by decide +kernel),_,rfl,bk,d,kvs,x,v,rfl,P8,il x iM,hv,λH9 s9=>⟨by show 2<=sizeLine;decide,λt ht=>k1 _ _ (s9.trans (af.upd ht)) ⟨t,rfl,?_⟩⟩⟩
    rw[ar,hxd,hv]
    rfl
   .intro D us H8 hD bA s8 pr8
    obtain⟨ts,rfl,P9⟩:=PU pr8
    rw[ax] at P9
    have aeo:Paired (λt p=>H8 t=some (HO.tup [V.str p.1,p.2])) ts ((cx (bb kvs)).map λx=>(x,(aQ kvs (Sum.inr x:Key)).getD .aD)):=by
     have e:=HI (F:=λt p=>H8 t=some (HO.tup [V.str p.1,p.2])) (f:=λi=>((cx (bb kvs)).getD i ⟨#[]⟩,(aQ kvs (Sum.inr ((cx (bb kvs)).getD i ⟨#[]⟩):Key)).getD .aD)) P9
     rw[mJ (λx=>(x,(aQ kvs (Sum.inr x:Key)).getD .aD))] at e
     exact e
    refine⟨D,ts,_,rfl,bA,aeo,by rw[ax];omega,λwo vo=>?_⟩
    have s6:=s7.trans s8
    have s9:af H8 (upd H8 wo (.dK (i5 ((cx (bb kvs)).map λx=>(x,(aQ kvs (Sum.inr x:Key)).getD .aD))))):=af.upd vo
    have w9:upd H8 wo (.dK (i5 ((cx (bb kvs)).map λx=>(x,(aQ kvs (Sum.inr x:Key)).getD .aD)))) wo=some (.dK (i5 ((cx (bb kvs)).map λx=>(x,(aQ kvs (Sum.inr x:Key)).getD .aD)))):=ar
    generalize upd H8 wo (.dK (i5 ((cx (bb kvs)).map λx=>(x,(aQ kvs (Sum.inr x:Key)).getD .aD))))=H9 at s9 w9
    have BX:=s6.trans s9
    have HV:wo≠g:=λz=>by rw[z,s6 _ _ g6] at vo;cases vo
    refine⟨_,rfl,g,CG,dx,_,rfl,BX _ _ g6,T,PX,kF (bO (lE _ _ _) (lM (bO (lE _ _ _) (lM (lE _ _ _))))) (by show 3<1000;decide),?_⟩
    have oA:∀b o,b≠g->H9 b=some o->upd H9 g (.ins CG dx (aU "worths" (.ref wo) (aU "crossings" (.ref cG) (aU "cells" (.ref ce) (aU "sheet" (.ref a) []))))) b=some o:=λb o n e=>by rw[ak n];exact e
    have gA:upd H9 g (.ins CG dx (aU "worths" (.ref wo) (aU "crossings" (.ref cG) (aU "cells" (.ref ce) (aU "sheet" (.ref a) []))))) g=some (.ins CG dx (aU "worths" (.ref wo) (aU "crossings" (.ref cG) (aU "cells" (.ref ce) (aU "sheet" (.ref a) []))))):=ar
    generalize upd H9 g (.ins CG dx (aU "worths" (.ref wo) (aU "crossings" (.ref cG) (aU "cells" (.ref ce) (aU "sheet" (.ref a) [])))))=HA at oA gA
    intro kn cU
    have sB:af HA (upd HA kn (.dK [])):=af.upd cU
    have kB:upd HA kn (.dK []) kn=some (.dK []):=ar
    generalize upd HA kn (.dK [])=HB at sB kB
    have HW:kn≠g:=λz=>by rw[z,gA] at cU;cases cU
    refine⟨_,rfl,g,CG,dx,_,rfl,sB _ _ gA,T,HK,kF (bO (lE _ _ _) (lM (bO (lE _ _ _) (lM (bO (lE _ _ _) (lM (lE _ _ _))))))) (by show 4<1000;decide),?_⟩
    have HX:∀b o,b≠g->H4 b=some o->upd HB g (.ins CG dx (gk (.ref a) (.ref ce) (.ref cG) (.ref wo) (.ref kn))) b=some o:=λb o n e=>by
     rw[ak n]
     exact sB _ _ (oA b o n (BX _ _ (o6 b o n (s5 _ _ e))))
    have HY:∀b o,b≠g->H5 b=some o->upd HB g (.ins CG dx (gk (.ref a) (.ref ce) (.ref cG) (.ref wo) (.ref kn))) b=some o:=λb o n e=>by
     rw[ak n]
     exact sB _ _ (oA b o n (BX _ _ (o6 b o n e)))
    have ng5:∀b o,H5 b=some (.tup o)->b≠g:=λb o e=>bY e g5 (by intro z;cases z)
    have ng4:∀b o,H4 b=some (.tup o)->b≠g:=λb o e=>bY e g4 (by intro z;cases z)
    refine q ce cG wo kn ys zs (i5 ((cx (bb kvs)).map λx=>(x,(aQ kvs (Sum.inr x:Key)).getD .aD))) _ (λb o n e=>HX b o n (HS b o n e)) ar (PZ _ vn) (HX _ _ HR (o4 _ _ HR uV)) (Paired.bM P4 λr x h=>h.fU λb o e=>HX b _ (ng4 b o e) e) (BW _ sS) (HY _ _ aem ael) ?_ ?_ ?_ (λx hx=>?_) ?_ ?_
    .refine Paired.bM ll λi x h=>?_
     refine hide λG_ cJ=>?_
     obtain⟨qq,vs,e1,e2,e3,e4⟩:=h
     refine cJ.k ?_
     exact⟨qq,vs,e1,BW _ e2,HY _ _ (bY e3 g5 (by intro z;cases z)) e3,e4.lists λb o e=>HY b _ (ng5 b o e) e⟩
    .refine BW _ ?_
     cases eb:H4 wo with
     |none=>rfl
     |some o=>rw[s6 _ _ (o6 _ _ HV (s5 _ _ eb))] at vo;cases vo
    .rw[ak HV]
     exact sB _ _ (oA _ _ HV w9)
    .rw[PV (λx=>(aQ kvs (Sum.inr x:Key)).getD .aD) x _ _ rfl,aA ((P7 x).mpr hx)]
     have:=GU vm x
     rw[aG hx] at this
     cases e:aQ kvs (Sum.inr x:Key) with
     |none=>rw[e] at this;cases this
     |some v=>rfl
    .refine BW _ ?_
     cases eb:H4 kn with
     |none=>rfl
     |some o=>rw[oA _ _ HW (BX _ _ (o6 _ _ HW (s5 _ _ eb)))] at cU;cases cU
    .rw[ak HW]
     exact kB
end
structure qD(K:PySem.W.Frag)(CG:Addr)(Z:Addr->Prop)(H:Hp)(g kn:Addr)(l:List Str)(R:List (List C2)):Prop where
 ex:∃(cV a ce cG:Addr) (wo:V) (xs cs:List V),H g=some (.ins CG cV (gk (.ref a) (.ref ce) (.ref cG) wo (.ref kn)))/\H a=some (.tup (l.map V.str))/\H ce=some (.lst xs)/\Z ce/\Paired (kq H) R xs/\H cG=some (.lst cs)/\Z cG/\
  Paired (λi x=>∃q us,x=V.ref q/\Z q/\H q=some (.lst us)/\bB H (kj R i) us) (List.range R.length) cs
structure Std(CS:Addr)(Z:Addr->Prop)(H:Hp)(s g:Addr)(m:List Str)(R:List (List C2))(ks:List Str)(wf:Str->Int):Prop where
 ex:∃(dx p fl:Addr) (fs:List V),H s=some (.ins CS dx (iL (.ref g) (.ref p) (.ref fl)))/\H p=some (.lst ((R.map (aF m)).map V.str))/\Z p/\H fl=some (.lst fs)/\Z fl/\Paired (gN Z H ks wf) (R.map (aF m)) fs
theorem Qa{kvs:List (Key×V)}(h:(kvs.map (·.1)).Nodup)(t:mh kvs):(bb kvs).Nodup:=by
 induction kvs with
 |nil=>exact jm
 |cons q r ih=>
  obtain⟨h1,h2⟩:=fF.mp h
  have t2:mh r:=λx m=>t x (cg _ m)
  refine fF.mpr ⟨λm=>h1 ?_,ih h2 t2⟩
  obtain⟨x,ex⟩:=t q bL
  obtain⟨y,my,ey⟩:=bP.mp m
  obtain⟨z,ez⟩:=t2 y my
  refine bP.mpr ⟨y,my,?_⟩
  dsimp only at ey ⊢
  rw[ex,ez] at ey
  rw[ex,ez]
  exact eD Sum.inr ey
structure Kp(Z:Addr->Prop)(H H':Hp):Prop where
 je:∀b o,(∀l,o ≠ .lst l)->(∀l,o ≠ .dK l)->H b=some o->H' b=some o
 lst:∀b l,Z b->H b=some (.lst l)->H' b=some (.lst l)
theorem Kp.trans{Z:Addr->Prop}{H H1 H2:Hp}(a:Kp Z H H1)(b:Kp Z H1 H2):Kp Z H H2:=⟨λc o n1 n2 e=>b.je c o n1 n2 (a.je c o n1 n2 e),λc l z e=>b.lst c l z (a.lst c l z e)⟩
theorem Kp.of{Z:Addr->Prop}{H H1:Hp}(a:af H H1):Kp Z H H1:=⟨λc o _ _ e=>a c o e,λc l _ e=>a c _ e⟩
theorem Kp.tup{Z:Addr->Prop}{H H':Hp}(k:Kp Z H H'){b:Addr}{o:List V}(h:H b=some (.tup o)):H' b=some (.tup o):=k.je _ _ (by intro _ z;cases z) (by intro _ z;cases z) h
theorem Kp.ins{Z:Addr->Prop}{H H':Hp}(k:Kp Z H H'){b C dx:Addr}{fs:List (Str×V)}(h:H b=some (.ins C dx fs)):H' b=some (.ins C dx fs):=k.je _ _ (by intro _ z;cases z) (by intro _ z;cases z) h
theorem qD.keep{K:PySem.W.Frag}{CG:Addr}{Z:Addr->Prop}{H H':Hp}{g kn:Addr}{l:List Str}{R:List (List C2)}(k:Kp Z H H')(h:qD K CG Z H g kn l R):qD K CG Z H' g kn l R:=by
 obtain⟨cV,a,ce,cG,wo,xs,cs,h1,h2,h3,z3,h4,h5,z5,h6⟩:=h.ex
 exact⟨cV,a,ce,cG,wo,xs,cs,k.ins h1,k.tup h2,k.lst _ _ z3 h3,z3,Paired.bM h4 λr x e=>e.fU λb o e=>k.tup e,k.lst _ _ z5 h5,z5,Paired.bM h6 λi x e=>let ⟨q,us,e1,e2,e3,e4⟩:=e;⟨q,us,e1,e2,k.lst _ _ e2 e3,e4.lists λb o e=>k.tup e⟩⟩
theorem qD.weak{K:PySem.W.Frag}{CG:Addr}{Z Z':Addr->Prop}{H:Hp}{g kn:Addr}{l:List Str}{R:List (List C2)}(k:∀b o,Z b->H b=some o->Z' b)(h:qD K CG Z H g kn l R):qD K CG Z' H g kn l R:=by
 obtain⟨cV,a,ce,cG,wo,xs,cs,h1,h2,h3,z3,h4,h5,z5,h6⟩:=h.ex
 exact⟨cV,a,ce,cG,wo,xs,cs,h1,h2,h3,k _ _ z3 h3,h4,h5,k _ _ z5 h5,Paired.bM h6 λi x e=>let ⟨q,us,e1,e2,e3,e4⟩:=e;⟨q,us,e1,k _ _ e2 e3,e3,e4⟩⟩
section
variable{P:Program}{w:World}{K:PySem.W.Frag}{mg:Str->Option Value}{base:Heap}{f:Addr}{fd:FuncData}
def HZ(K:PySem.W.Frag)(CB CG CS:Addr):Sp:=λvs H Q _=>∃(a bk d:Addr) (l:List Str) (w:Nat) (R:List (List C2)) (kvs:List (Key×V)),vs=[.ref bk,.ref a]/\H a=some (.tup (l.map V.str))/\di l w R/\iJ CB H bk d kvs/\kvs.length<64/\(∀x∈bb kvs,dJ x=true)/\uP kvs/\
 ∀(s g kn wo:Addr) (H':Hp),af H H'->H kn=none->qD K CG (λb=>H b=none) H' g kn l R->H' kn=some (.dK [])->Std CS (λb=>H b=none) H' s g l R (bb kvs) (uQ kvs)->Q (.ref s) H'
theorem BY:bw ["book","sheet","ground","patterns","fits"] ["book","sheet"] (aW (top 36)):=⟨rfl,rfl,rfl,by decide +kernel,rfl,by decide +kernel,by decide +kernel⟩
theorem aep{CB CG CS:Addr}(B:Bl mg)(F:bq K "first_standing" "first_standing" (top 36) f fd)(TG:cH K CG)(TB:cH K CB)(BV:cz K CG "cells")(aeq:Fn P w K mg base "pattern" 2 (FV K))(Ia:Mt P w K mg base CB "fitting" 2 (Gr CB) [])(vk:Mt P w K mg base CB "worth" 5 (Bb CB) [])(aer:ES K CB "worth")(Ib:Nw P w K mg base "Ground" CG 6 (HJ K CG CB))(vh:Nw P w K mg base "Standing" CS 1 (BC CS)):aS P w K mg base aY 8 f fd ["book","sheet"] (HZ K CB CG CS):=by
 refine F.ok BY (λvs H Q E h=>?_) (λaL A outer s H vs Q E hr h=>?_)
 .refine hide λG_ aK=>?_
  obtain⟨a,bk,d,l,w,R,kvs,rfl,_⟩:=h
  refine aK.k ?_
  rfl
 .refine hide λG_ aN=>?_
  obtain⟨a,bk,d,l,wd,R,kvs,rfl,hT,FL,hB,eO,il,Ic,q⟩:=h
  refine aN.k ?_
  refine⟨_,(au (aO (i:=2) BY.nd rfl (Or.inl rfl) (Ax Ib (hr.mono (by decide)) (by rfl) (ab (pv 0) (ab (pv 1) ah))))
   (au (uf (i:=3) BY.nd rfl (Or.inl rfl) (js:=[1]) (ns:=["sheet"]) (dQ (cK (pv 2) rfl)) rfl rfl rfl rfl (λ_ _ _ _=>jB) (λ_ _ _ _=>(ba aeq (hr.mono (by decide)) (by rfl) (ab (pv 1) (ab (pv 0) ah)))))
   (au (uf (i:=4) BY.nd rfl (Or.inl rfl) (js:=[0]) (ns:=["book"]) (dQ (pv 3)) rfl rfl rfl rfl (λ_ _ _ _=>jB) (λ_ _ _ _=>(Zp (K:=K) rfl vk aer (hr.mono (by decide)) (by rfl) B.xM w6 (ab (rP Ia (hr.mono (by decide)) (pv 1) (ab (pv 0) ah)) ah) (pv 1) rfl)))
   (az (aX (Ax vh (hr.mono (by decide)) (by rfl) (ab (pv 2) (ab (pv 3) (ab (pv 4) ah))))))))),?_⟩
  try dsimp only[bF]
  have eR:=FL.eq
  subst eR
  have S:=FL.sh
  obtain⟨⟨HN,pT⟩,HP,HQ,vm⟩:=id hB
  have cU:(bb kvs).Nodup:=Qa HQ vm
  refine⟨_,rfl,_,rfl,λg cV hg yJ dI=>?_⟩
  have o0:af H (upd (upd H cV (.own g)) g (.ins CG cV [])):=λb o e=>by rw[ak (aZ e hg),ak (aZ e yJ)];exact e
  have g0:upd (upd H cV (.own g)) g (.ins CG cV []) g=some (.ins CG cV []):=ar
  generalize upd (upd H cV (.own g)) g (.ins CG cV [])=H0 at o0 g0
  refine⟨g,cV,a,bk,d,l,wd,kvs,rfl,g0,aq.of (o0 _ _ hT),S,FL.good,hB.mono o0,eO,il,λce cG wo kn xs cs wdd H1 off g1 vn mY sR Qb sS Ie PX vo hwv HK aes=>⟨rfl,?_⟩⟩
  have s1:af H H1:=λb o e=>off b o (aZ e hg) (o0 b o e)
  have gh:=sR.length
  have mS:=uG S
  rw[<-Bj] at mS
  refine⟨_,rfl,g,CG,cV,_,_,rfl,g1,TG,BV,Pr ..,ce,rfl,⟨_,aj.of mY⟩,?_⟩
  refine comp_map jC (by omega) (λ_ i y _=>y = .str (aF l (ao (aI l wd) i))) (λH2 s2=>aj.of (s2 _ _ mY)) (λ_ _ _ _ _ _ _ _ h=>h) ?_ ?_
  .intro D i y H2 Z hD hy s2 _ k1
   refine hide λG_ bt=>?_
   obtain⟨row,hrow,t,ys,rfl,ht,ll⟩:=Paired.get sR hy
   refine bt.k ?_
   have mW:ao (aI l wd) i=row:=cu hrow
   have br:=kh S (bE hrow)
   exact⟨_,rfl,_,rfl,a,t,l,wd,row,ys,rfl,aq.of ((s1.trans s2) _ _ hT),S,s2 _ _ ht,ll.mono s2,by omega,λc hc=>⟨(br.2.2 c hc).1,(br.2.2 c hc).2.1⟩,λH3 s3=>k1 _ _ s3 (by rw[mW])⟩
  .intro pp ys H2 xi BZ s2 pr
   have e:=mI pr
   have e2:(List.range xs.length).map (λi=>V.str (aF l (ao (aI l wd) i)))=(aI l wd).map (λr=>V.str (aF l r)):=by
    rw[<-gh]
    exact mJ (λr=>V.str (aF l r)) [] (aI l wd)
   rw[e2] at e
   have e3:ys=((aI l wd).map (aF l)).map V.str:=by rw[e,jV];rfl
   rw[e3] at BZ
   clear e e2 e3 pr
   have lF:=s1.trans s2
   refine⟨_,rfl,pp,rfl,⟨_,aj.of BZ⟩,?_⟩
   refine comp_map jC (by rw[ax,ax];omega) (λD i y H4=>∃q ws,y = .ref q/\q≠D/\H q=none/\H4 q=some (.lst (ws.map V.str))/\lC (bb kvs) (uQ kvs) (((aI l wd).map (aF l)).getD i ⟨#[]⟩) ws/\ws.length<=64) (λH3 s3=>aj.of (s3 _ _ BZ)) (λD i y Ha Hb _ _ k h=>?_) ?_ ?_
   .refine hide λG_ cD=>?_
    obtain⟨q,ws,e1,e2,e3,e4,e5⟩:=h
    refine cD.k ?_
    exact⟨q,ws,e1,e2,e3,k _ _ e2 e4,e5⟩
   .intro D i y H3 Z hD hy s3 hDo k1
    rw[bu] at hy
    refine hide λG_ cJ=>?_
    obtain⟨pt,hpt,rfl⟩:=jl.mp hy
    have qh:((aI l wd).map (aF l)).getD i ⟨#[]⟩=pt:=cu hpt
    have hpl:pt.length<=9:=by
     obtain⟨r,mr,rfl⟩:=bP.mp (bE hpt)
     rw[ie]
     exact(kh S mr).2.1
    have ku:=lF.trans s3
    have Ig:=hB.mono ku
    obtain⟨⟨dx3,aet⟩,_⟩:=id Ig
    refine cJ.k ?_
    refine⟨_,rfl,bk,dx3,_,rfl,aet,uJ _ (by decide +kernel),_,rfl,bk,d,kvs,pt,rfl,Ig,eO,by omega,λx mx=>by have:=xX (il x mx);omega,λlf H4 Qc s4 hLf=>?_⟩
    have Qd:=Ig.mono s4
    obtain⟨⟨dx4,aeu⟩,_⟩:=id Qd
    have Qe:∀x,x∈cx ((bb kvs).filter λx=>da x pt)↔x∈bb kvs/\da x pt=true:=λx=>by rw[(ka _).mem_iff,cR]
    have lh:(cx ((bb kvs).filter λx=>da x pt)).length<=kvs.length:=by
     rw[(ka _).length_eq]
     exact bO (iQ _ _) (by rw[yi];exact aP _)
    refine⟨_,rfl,lf,_,bk,dx4,_,uQ kvs,rfl,rfl,aj.of hLf,by omega,aeu,uJ _ (by decide +kernel),λx mx H5 s5 Q' hQ' =>?_,λp out H5 hp s5 qz Ih hpw=>?_⟩
    .have iM:=((Qe x).mp mx).1
     exact⟨bk,d,kvs,x,_,rfl,Qd.mono s5,il x iM,acL vm Ic iM,λH6 s6=>hQ' H6 s6⟩
    .obtain⟨o,ho⟩:=hDo
     refine k1 _ _ (s4.trans s5) ⟨p,out,rfl,(λz=>by rw[z,s4 _ _ ho] at hp;cases hp),?_,qz,?_,by rw[Ih.length_eq];omega⟩
     .cases eb:H p with
      |none=>rfl
      |some o'=>rw[s4 _ _ (ku _ _ eb)] at hp;cases hp
     .rw[qh]
      exact⟨Ih.nodup_iff.mpr ((ka _).nodup_iff.mpr (cU.filter _)),λx=>by rw[Ih.mem_iff];exact Qe x,hpw⟩
   .intro fl fs H3 eE aev s3 pr
    have ku:=lF.trans s3
    refine⟨_,rfl,_,rfl,_,rfl,λs' oI kX HG aoi=>⟨s',oI,.ref g,.ref pp,.ref fl,rfl,ar,λH' h1 h2=>⟨rfl,?_⟩⟩⟩
    have h6:af H3 H':=λb o e=>h2 _ _ (λz=>by rw[z,kX] at e;cases e) (by rw[ak (λz=>by rw[z,kX] at e;cases e),ak (λz=>by rw[z,HG] at e;cases e)];exact e)
    have sT:af H1 H':=s2.trans (s3.trans h6)
    refine q s' g kn wo H' (ku.trans h6) (o0.free HK) ⟨cV,a,ce,cG,.ref wo,xs,cs,sT _ _ g1,(ku.trans h6) _ _ hT,sT _ _ mY,?_,Paired.bM sR λr x h=>h.fU λb o e=>sT _ _ e,sT _ _ sS,?_,Paired.bM Ie λi x h=>?_⟩ (sT _ _ aes) ⟨oI,pp,fl,fs,h1,h6 _ _ (s3 _ _ BZ),s1.free xi,h6 _ _ aev,lF.free eE,?_⟩
    .cases eb:H ce with
     |none=>rfl
     |some o=>rw[o0 _ _ eb] at vn;cases vn
    .cases eb:H cG with
     |none=>rfl
     |some o=>rw[o0 _ _ eb] at Qb;cases Qb
    .refine hide λG_ gK=>?_
     obtain⟨qq,us,e1,e2,e3,e4⟩:=h
     refine gK.k ?_
     refine⟨qq,us,e1,?_,sT _ _ e3,e4.lists λb o e=>sT _ _ e⟩
     cases eb:H qq with
     |none=>rfl
     |some o=>rw[o0 _ _ eb] at e2;cases e2
    .rw[ax] at pr
     refine HH ⟨#[]⟩ _ fs 0 ?_
     rw[<-List.range_eq_range']
     exact Paired.bM pr λi y h=>let ⟨qq,ws,e1,_,e3,e4,e5,e6⟩:=h;⟨qq,ws,e1,e3,h6 _ _ e4,e5,e6⟩
end
def vp(pl q:V):List (Str×V):=aU "parts" q (aU "place" pl [])
theorem Ii(pl q:V):(vp pl q).lookup ("parts":Str)=some q:=by
 unfold vp
 rw[cO,aA rfl]
theorem yK(pl q:V):(vp pl q).lookup ("place":Str)=some pl:=by
 unfold vp
 rw[cO,aw (by decide +kernel),cO,aA rfl]
def mZ(Z:Addr->Prop)(H:Hp)(CW CC:Addr)(R:List (List C2))(ks:List Str)(told:List (List Str)):Nat->V->List Str->Prop
 |0,_,_=>False
 |n+1,v,m=>(∃p dx,v = .ref p/\H p=some (.ins CW dx [])/\ki m=false/\m∈told)\/
   ∃(p dx q:Addr) (pl:Nat) (xs:List Str) (vs:List V),v = .ref p/\H p=some (.ins CC dx (vp (.int (pl:Int)) (.ref q)))/\Z q/\H q=some (.lst vs)/\pl<R.length/\cx xs=oC m R pl ks/\xs.length<64/\
    Paired (λx v=>∃t u,v=V.ref t/\H t=some (.tup [.str x,u])/\da x (aF m (ao R pl))=true/\mZ Z H CW CC R ks told n u (putL m (ao R pl) x.cps.toList)) xs vs
theorem mZ.mono{Z Z':Addr->Prop}{H H':Hp}{CW CC:Addr}{R:List (List C2)}{ks:List Str}{told Qf:List (List Str)}(k:Kp Z H H')(hz:∀b o,Z b->H b=some o->Z' b)(ht:∀s∈told,s∈Qf):∀{n:Nat}{v:V}{m:List Str},mZ Z H CW CC R ks told n v m->mZ Z' H' CW CC R ks Qf n v m
 |0,_,_,h=>h
 |n+1,v,m,h=>by
  rcases h with ⟨p,dx,e,h1,h2,h3⟩ | ⟨p,dx,q,pl,xs,vs,e,h1,hq,h2,h3,h4,h5,h6⟩
  .exact .inl ⟨p,dx,e,k.ins h1,h2,ht _ h3⟩
  .exact .inr ⟨p,dx,q,pl,xs,vs,e,k.ins h1,hz _ _ hq h2,k.lst _ _ hq h2,h3,h4,h5,Paired.bM h6 λx v g=>let ⟨t,u,e1,e2,e3,e4⟩:=g;⟨t,u,e1,k.tup e2,e3,mZ.mono k hz ht e4⟩⟩
def lG(H:Hp)(ts:List Addr)(dj:List (List Str)):Prop:=Paired (λt s=>H t=some (.tup (s.map V.str))) ts dj
theorem lG.keep{H H':Hp}{ts:List Addr}{dj:List (List Str)}(k:∀b o,(∀l,o ≠ .lst l)->(∀l,o ≠ .dK l)->H b=some o->H' b=some o)(h:lG H ts dj):lG H' ts dj:=Paired.bM h λ_ _ e=>k _ _ (by intro _ z;cases z) (by intro _ z;cases z) e
def KX(kn fo:Addr)(H H':Hp):Prop := ∀b o,b≠kn->b≠fo->H b=some o->H' b=some o
theorem KX.trans{kn fo:Addr}{H H1 H2:Hp}(a:KX kn fo H H1)(b:KX kn fo H1 H2):KX kn fo H H2:=λc o n1 n2 e=>b c o n1 n2 (a c o n1 n2 e)
theorem KX.of{kn fo:Addr}{H H1:Hp}(a:af H H1):KX kn fo H H1:=λc o _ _ e=>a c o e
theorem KX.kp{kn fo:Addr}{H H':Hp}{Z:Addr->Prop}{kvs:List (Key×V)}{ys:List V}(k:KX kn fo H H')(hk:H kn=some (.dK kvs))(hf:H fo=some (.lst ys))(hz:¬Z fo):Kp Z H H':=
 ⟨λb o n1 n2 e=>k b o (λz=>by rw[z,hk] at e;exact n2 _ (dm e).symm) (λz=>by rw[z,hf] at e;exact n1 _ (dm e).symm) e,λb l z e=>k b _ (λy=>by rw[y,hk] at e;cases e) (λy=>hz (y ▸ z)) e⟩
theorem KX.none{kn fo:Addr}{H H':Hp}(k:KX kn fo H H')(hk:∃o,H' kn=some o)(hf:∃o,H' fo=some o){b:Addr}(e:H' b=none):H b=none:=by
 obtain⟨ok,hk⟩:=hk
 obtain⟨of,hf⟩:=hf
 cases eb:H b with
 |none=>rfl
 |some o=>rw[k b o (λz=>by rw[z,hk] at e;cases e) (λz=>by rw[z,hf] at e;cases e) eb] at e;cases e
theorem Qg{m:List Str}{R:List (List C2)}{pl:Nat}{x:Str}(hpl:pl<R.length):x∈fO (R.map (aF m)) pl↔x∈qo m R pl:=by
 rw[adl]
 unfold fO
 rw[du]
 constructor
 .rintro(h | h)
  .obtain⟨i,hi⟩:=iw h
   have aJ:i<pl:=by
    have:=(cn.mp hi).1
    rw[jQ] at this
    omega
   rw[CO aJ,oH R _ (by omega)] at hi
   exact⟨i,by omega,by omega,dm hi⟩
  .obtain⟨i,hi⟩:=iw h
   have aJ:=(cn.mp hi).1
   rw[CT,ax] at aJ
   rw[List.getElem?_drop,oH R _ (by omega)] at hi
   exact⟨_,by omega,by omega,dm hi⟩
 .rintro⟨i,h1,h2,e⟩
  have hg:=oH R (aF m) h1
  rcases Nat.lt_or_gt_of_ne h2 with z | z
  .refine Or.inl ?_
   exact bE (i:=i) (by rw[CO z,hg,e])
  .refine Or.inr ?_
   exact bE (i:=i - (pl+1)) (by rw[List.getElem?_drop,show pl+1+(i - (pl+1))=i from by omega,hg,e])
theorem aew{m:List Str}{w:Nat}{R:List (List C2)}(F:di m w R)(h:∀r∈R,46∉(aF m r).cps.toList):ki m=false:=by
 refine gR.mpr λz=>?_
 unfold ki at z
 obtain⟨x,mx,hx⟩:=zj.mp z
 have hx:46∈x.cps.toList:=ff hx
 obtain⟨i,hi⟩:=iw mx
 obtain⟨j,hj⟩:=iw hx
 have ym:=(cn.mp hi).1
 obtain⟨y,hy,_,_,ly,Hf⟩:=F.sh.eI.row ym
 rw[hi] at hy
 cases hy
 have yn:j<w:=by
  have:=(cn.mp hj).1
  omega
 have e:=Hf j yn
 rw[hj] at e
 have Qh:sg m (i,j)=46:=(dm e).symm
 have ho:cb m (i,j)=true:=by
  unfold cb
  rw[Qh]
  rfl
 obtain⟨a,b,hab⟩:=F.all (i,j) ym yn ho
 refine h _ (sO (lB hab).1) ?_
 rw[mU,<-Qh]
 exact Dg (bE hab)
theorem Ij{x:Str}(h:dJ x=true):qw x:=by
 unfold dJ at h
 rw[dZ,dZ] at h
 intro ch m
 have hl:=ff (jR.mp h.2.2 ch m)
 have:∀c∈i6.cps.toList,97<=c/\c<=122:=by decide +kernel
 exact this ch hl
theorem B1(g p f:V){m:Str}(h1:¬m="fits")(h2:¬m="patterns")(h3:¬m="ground"):(iL g p f).lookup m=none:=by
 unfold iL
 rw[cO,aw h1,cO,aw h2,cO,aw h3]
 rfl
theorem Qi{Z:Addr->Prop}{H:Hp}{ks:List Str}{wf:Str->Int}:∀{pats:List Str}{fs:List V},Paired (gN Z H ks wf) pats fs->∃dM,Py H dM fs/\Paired (λt ws=>lC ks wf t ws) pats dM
 |_,_,.nil=>⟨[],.nil,.nil⟩
 |_,_,.cons ⟨q,ws,e,_,h1,h2,h3⟩ r=>by
  obtain⟨dM,a,b⟩:=Qi r
  exact⟨ws::dM,.cons ⟨q,e,h1,h3⟩ a,.cons h2 b⟩
section
variable{P:Program}{w:World}{K:PySem.W.Frag}{mg:Str->Option Value}{base:Heap}{f:Addr}{fd:FuncData}
def B2(C:Addr):Sp:=λvs H Q _=>∃(s dx q:Addr) (p:V) (us:List V),vs=[.ref s,p,.ref q]/\H s=some (.ins C dx [])/\H q=some (.lst us)/\∀(r:Addr) (H':Hp),H r=none->H' s=some (.ins C dx (vp p (.ref r)))->H' r=some (.lst us)->(∀b o,b≠s->H b=some o->H' b=some o)->Q .aD H'
theorem aex:bw ["self","place","parts"] ["self","place","parts"] (aW (inClass (top 31) 0)):=⟨rfl,rfl,rfl,by decide +kernel,rfl,by decide +kernel,by decide +kernel⟩
theorem aey{C:Addr}(B:Bl mg)(F:bq K "__init__" "Cases.__init__" (inClass (top 31) 0) f fd)(T:cH K C)(np:cz K C "place")(nq:cz K C "parts"):aS P w K mg base aY 1 f fd ["self","place","parts"] (B2 C):=by
 refine F.ok aex (λvs H Q E h=>?_) (λaL A outer s H vs Q E hr h=>?_)
 .refine hide λG_ aK=>?_
  obtain⟨s,dx,q,p,us,rfl,_⟩:=h
  refine aK.k ?_
  rfl
 .refine hide λG_ aN=>?_
  obtain⟨s,dx,q,p,us,rfl,hs,hq,k⟩:=h
  refine aN.k ?_
  refine⟨_,(au (kL (pv 0) (pv 1) rfl)
   (az (kL (pv 0) (iz rp (by rfl) B.oa nP (ab (pv 2) ah)) rfl))),?_⟩
  try dsimp only[bF]
  refine⟨_,rfl,_,rfl,s,C,dx,[],rfl,hs,T,np,(by show 0<1000;decide),?_⟩
  have nqs:q≠s:=bY hq hs (by intro z;cases z)
  refine⟨_,rfl,q,us,rfl,.inl (aj.of (by rw[ak nqs];exact hq)),λr gj=>?_⟩
  have B3:r≠s:=λz=>by rw[z,ar] at gj;cases gj
  refine⟨_,rfl,s,C,dx,_,rfl,by rw[ak (bo B3)];exact ar,T,nq,(by show 1<1000;decide),?_⟩
  refine k r _ (by rw[ak B3] at gj;exact gj) ar (by rw[ak B3];exact ar) λb o hb e=>?_
  rw[ak B3] at gj
  rw[ak hb,ak (λz=>by rw[z,gj] at e;cases e),ak hb]
  exact e
structure aez(K:PySem.W.Frag)(CG CS:Addr)(Z:Addr->Prop)(M:Str->Prop)(H:Hp)(s g kn fo:Addr)(most w n:Nat)(l m ks:List Str)(wf:Str->Int)(R:List (List C2))(kvs:List (Key×V))(ts:List Addr)(dj:List (List Str)):Prop where
 e1:qD K CG Z H g kn l R
 e2:Std CS Z H s g m R ks wf
 e3:H kn=some (.dK kvs)
 e4:ik Z M H ks wf kvs
 e5:BA M
 e6:∀m' pl x k i,di m' w R->m'.length=l.length->pl<R.length->x∈ks->da x (aF m' (ao R pl))=true->(∀j,j<R.length->46∈(aF m' (ao R j)).cps.toList->∃y∈ks,da y (aF m' (ao R j))=true)->i<R.length->46∈(aF m' (ao R i)).cps.toList->M (aF (putL m' ((ao R pl).take k) (x.cps.toList.take k)) (ao R i))
 e7:di l w R
 e8:di m w R
 e9:m.length=l.length
 ea:R.length<=200
 eb:∀x∈ks,dJ x=true
 ec:ks.Nodup
 ed:ks.length<64
 ee:∀q,H q=none->Z q
 ef:¬Z fo
 eg:H fo=some (.lst (ts.map V.ref))
 eh:lG H ts dj
 ei:dj.length<most
 ej:most<=1000
 ek:(fI m w).length<n
structure aeA(Z:Addr->Prop)(M:Str->Prop)(H H':Hp)(CW CC kn fo:Addr)(most w n:Nat)(m ks:List Str)(wf:Str->Int)(R:List (List C2))(kvs:List (Key×V))(ts fB:List Addr)(dj new:List (List Str))(v:V):Prop where
 e1:KX kn fo H H'
 e2:H' kn=some (.dK kvs)
 e3:ik Z M H' ks wf kvs
 e4:H' fo=some (.lst ((ts++fB).map V.ref))
 e5:lG H' (ts++fB) (dj++new)
 e6:new.Nodup
 e7:∀s∈new,gM s m w/\ij ks s w=true
 e8:(v = .aD/\(dj++new).length=most)\/(v ≠ .aD/\(dj++new).length<most/\∀told,(∀s∈new,s∈told)->mZ Z H' CW CC R ks told n v m)
def yL(K:PySem.W.Frag)(CG CS CW CC:Addr)(n:Nat):Sp:=λvs H Q _=>∃(s g kn fo:Addr) (most w:Nat) (l m ks:List Str) (wf:Str->Int) (R:List (List C2)) (kvs:List (Key×V)) (Z:Addr->Prop) (M:Str->Prop) (ts:List Addr) (dj:List (List Str)),vs=[.ref s,.int (most:Int),.ref fo]/\aez K CG CS Z M H s g kn fo most w n l m ks wf R kvs ts dj/\∀v new fB ve H',aeA Z M H H' CW CC kn fo most w n m ks wf R ve ts fB dj new v->Q v H'
structure aeB(Z:Addr->Prop)(M:Str->Prop)(H3 Hi:Hp)(CW CC kn fo pa:Addr)(most w n pl i:Nat)(m ks:List Str)(wf:Str->Int)(R:List (List C2))(Xs:List Str)(ts fB:List Addr)(dj new:List (List Str))(kv:List (Key×V))(us:List V):Prop where
 e1:∀b o,b≠kn->b≠fo->b≠pa->H3 b=some o->Hi b=some o
 e2:Hi kn=some (.dK kv)
 e3:ik (λb=>Z b/\b≠pa) M Hi ks wf kv
 e4:Hi fo=some (.lst ((ts++fB).map V.ref))
 e5:lG Hi (ts++fB) (dj++new)
 e6:new.Nodup
 e7:∀s∈new,gM s m w/\ij ks s w=true/\aF s (ao R pl)∈Xs.take i
 e8:(dj++new).length<most
 e9:Hi pa=some (.lst us)
 ea:Paired (λx v=>∃t u,v=V.ref t/\Hi t=some (.tup [.str x,u])/\da x (aF m (ao R pl))=true/\∀told,(∀s∈new,s∈told)->mZ (λb=>Z b/\b≠pa) Hi CW CC R ks told n u (putL m (ao R pl) x.cps.toList)) (Xs.take i) us
theorem vq:bw ["standing","most","found","place","parts","word","paper"] ["standing","most","found"] (aW (top 41)):=⟨rfl,rfl,rfl,by decide +kernel,rfl,by decide +kernel,by decide +kernel⟩
theorem aeC{CG CS CW CC:Addr}(n:Nat)(B:Bl mg)(F:bq K "closing_paper" "closing_paper" (top 41) f fd)(Ik:Fn P w K mg base "closing_paper" (n+4) (yL K CG CS CW CC n))(vt:Mt P w K mg base CS "narrowest" 1 (BE CS) [])(vv:Mt P w K mg base CS "filled" 3 (BJ K CS CG) [])(vw:Mt P w K mg base CS "left" 1 (BD K CS) [])(vx:Mt P w K mg base CS "after" 3 (BK K CS CG) [])(vy:AF K mg "Whole" CW)(vz:Nw P w K mg base "Cases" CC 1 (B2 CC)) :
  aS P w K mg base aY (n+5) f fd ["standing","most","found"] (yL K CG CS CW CC (n+1)):=by
 refine F.ok vq (λvs H Q E h=>?_) (λaL A outer s H vs Q E hr h=>?_)
 .refine hide λG_ aK=>?_
  obtain⟨s,g,kn,fo,most,w,l,m,ks,wf,R,kvs,Z,M,ts,dj,rfl,_⟩:=h
  refine aK.k ?_
  rfl
 .refine hide λG_ aN=>?_
  obtain⟨s0,g,kn,fo,most,wd,l,m,ks,wf,R,kvs,Z,M,ts,dj,rfl,⟨hG,hS,cU,hK,hM,Qj,FL,FM,vg,sP,il,cZ,eO,hZ,B4,cF,hF,aJ,Qk,hn⟩,q⟩:=h
  refine aN.k ?_
  refine⟨_,(au (bJ (bT VP (bp d9 (by rfl) B.cf bZ (ab (pv 2) ah)) (pv 1) (cq _))
   (az (aX qX))
   bR)
   (au (aO (i:=3) vq.nd rfl (Or.inl rfl) (Eu vt (hr.mono (by omega)) (pv 0)))
   (au (bJ (bT Dy (pv 3) qX (cq _))
   (au (fg (fq jq jT jU gY (pv 2) (ab (Eu vv (hr.mono (by omega)) (pv 0)) ah)))
    (az (aX (Vm (bT lS (bp d9 (by rfl) B.cf bZ (ab (pv 2) ah)) (pv 1) (cq _)) (ZU vy (by rfl)) qX))))
   bR)
   (au (aO (i:=4) vq.nd rfl (Or.inl rfl) (fm ah))
   (au (cM cL rfl (dQ (rP vw (hr.mono (by omega)) (pv 0) (ab (pv 3) ah))) (bK (i:=5) vq.nd rfl (Or.inl rfl))
   (au (aO (i:=6) vq.nd rfl (Or.inl rfl) (ba Ik (hr.mono (by omega)) (by rfl) (ab (rP vx (hr.mono (by omega)) (pv 0) (ab (pv 3) (ab (pv 5) ah))) (ab (pv 1) (ab (pv 2) ah)))))
    (au (bJ (bT Dy (pv 6) qX (cq _))
    (az (aX qX))
    bR)
    (az (fg (fq jq jT jU gY (pv 4) (ab (fX (ab (pv 5) (ab (pv 6) ah))) ah (hs:=dq rfl))))))))
   (az (aX (Ax vz (hr.mono (by omega)) (by rfl) (ab (pv 3) (ab (pv 4) ah)))))))))),?_⟩
  try dsimp only[bF]
  refine hide λG_ bt=>?_
  obtain⟨dx,p,fl,fs,hs,hp,zp,eE,zfl,vi⟩:=hS.ex
  obtain⟨cV,a,ce,cG,wo,xs,cs,hg,hT,mY,zce,sR,sS,aeD,Ie⟩:=hG.ex
  obtain⟨dM,Il,B5⟩:=Qi vi
  refine bt.k ?_
  have Ht:=Il.length
  have Ql:=B5.length
  rw[ax] at Ql
  have B6:=jj hF
  have Qm:∀{i:Nat},i<R.length->(R.map (aF m)).getD i ⟨#[]⟩=aF m (ao R i):=λhi=>cu (oH R _ hi)
  refine⟨_,rfl,fo,_,rfl,.inl (aj.of cF),_,rfl,_,_,rfl,rfl,_,rfl,?_⟩
  rw[aH (by rw[ax];omega)]
  refine aT ?_
  refine⟨_,rfl,s0,dx,_,rfl,hs,B1 _ _ _ (by decide +kernel) (by decide +kernel) (by decide +kernel),s0,dx,p,fl,.ref g,R.map (aF m),dM,fs,rfl,hs,hp,eE,Il,by rw[ax];exact Ql.symm,by rw[ax];exact sP,λt mt=>?_,λaeE H1 s1=>?_,λpl H1 hpl Im s1=>?_⟩
  .obtain⟨r,mr,rfl⟩:=bP.mp mt
   rw[ie]
   obtain⟨i,hi⟩:=iw mr
   have:=(FM.len (cn.mp hi).1).2
   have e:ao R i=r:=cu hi
   rw[e] at this
   omega
  .
   obtain⟨nW,hd2,mn⟩:=aeE
   have m5:ki m=false:=aew FM λr mr=>nW _ (Dg mr)
   have yk:eS m wd=R.map (aF m):=by
    unfold eS
    rw[FM.eq]
   have Bw:ij ks m wd=true:=by
    refine acI m5 (by rw[yk];exact hd2) (λx mx=>?_)
    rw[yk] at mx
    obtain⟨i,hi⟩:=iw mx
    obtain⟨ws,hws,aeF⟩:=Paired.getL B5 hi
    have dI:=mn ws (bE hws)
    obtain⟨y,my⟩:∃y,y∈ws:=by
     cases ws with
     |nil=>exact absurd rfl dI
     |cons y r=>exact⟨y,bL⟩
    obtain⟨y1,y2⟩:=(aeF.mem y).mp my
    rw[<-Hd y2 (nW x mx)]
    exact y1
   refine⟨_,rfl,rfl,_,rfl,?_⟩
   rw[aG rfl]
   refine bG ⟨_,rfl,.inl ⟨rfl,_,aj.of (s1 _ _ cF)⟩,?_⟩
   refine⟨_,rfl,s0,dx,_,rfl,s1 _ _ hs,B1 _ _ _ (by decide +kernel) (by decide +kernel) (by decide +kernel),s0,dx,g,cV,p,ce,a,.ref fl,.ref cG,wo,.ref kn,l,m,wd,R,xs,rfl,s1 _ _ hs,s1 _ _ hg,s1 _ _ hT,s1 _ _ mY,Paired.bM sR λr x e=>e.fU λb o e=>s1 _ _ e,s1 _ _ hp,FL,FM,vg,λt H2 s2 ht=>?_⟩
   have lF:=s1.trans s2
   have vA:=lF _ _ cF
   refine⟨fo,_,.ref t,rfl,rfl,vA,mf (by rw[ax];omega),?_⟩
   have o3:∀b o,b≠fo->H2 b=some o->upd H2 fo (.lst (ts.map V.ref++[.ref t])) b=some o:=λb o n e=>by rw[ak n];exact e
   have f3:upd H2 fo (.lst (ts.map V.ref++[.ref t])) fo=some (.lst ((ts++[t]).map V.ref)):=by rw[ar,eK];rfl
   generalize upd H2 fo (.lst (ts.map V.ref++[.ref t]))=H3 at o3 f3
   have B7:KX kn fo H H3:=λb o _ n e=>o3 b o n (lF _ _ e)
   have Io:kn≠fo:=bY cU cF (by intro z;cases z)
   have dW:H3 kn=some (.dK kvs):=o3 _ _ Io (lF _ _ cU)
   have ht3:H3 t=some (.tup (m.map V.str)):=o3 _ _ (bY ht vA (by intro z;cases z)) ht
   have oK:lG H3 (ts++[t]) (dj++[m]):=uY (hF.keep (B7.kp cU cF B4).je) (.cons ht3 .nil)
   have oJ:=hK.keep λb o e z=>(B7.kp cU cF B4).lst _ _ z e
   refine⟨_,rfl,fo,_,rfl,.inl (aj.of f3),_,rfl,_,_,rfl,rfl,_,rfl,?_⟩
   have m6:∀s∈[m],gM s m wd/\ij ks s wd=true:=λs ms=>by rw[cI.mp ms];exact⟨gM.refl FM.sh,Bw⟩
   by_cases rO:dj.length+1<most
   .rw[aG (by rw[ax,dw,CU];omega)]
    refine bG λx qE hx yJ dI=>?_
    have s4:af H3 (upd (upd H3 qE (.own x)) x (.ins CW qE [])):=λb o e=>by rw[ak (aZ e hx),ak (aZ e yJ)];exact e
    have yM:upd (upd H3 qE (.own x)) x (.ins CW qE []) x=some (.ins CW qE []):=ar
    generalize upd (upd H3 qE (.own x)) x (.ins CW qE [])=H4 at s4 yM
    refine q (.ref x) [m] [t] kvs H4 ⟨B7.trans (KX.of s4),s4 _ _ dW,oJ.keep λb o e _=>s4 _ _ e,s4 _ _ f3,oK.keep λb o _ _ e=>s4 _ _ e,by simp,m6,.inr ⟨(by intro z;cases z),by rw[dw,CU];exact rO,λtold ht=>.inl ⟨x,qE,rfl,yM,m5,ht m bL⟩⟩⟩
   .rw[aH (by rw[ax,dw,CU];omega)]
    exact aT (q .aD [m] [t] kvs H3 ⟨B7,dW,oJ,f3,oK,by simp,m6,.inl ⟨rfl,by rw[dw,CU];omega⟩⟩)
  .
   rw[ax] at hpl
   rw[Qm hpl] at Im
   refine⟨_,rfl,rfl,_,rfl,?_⟩
   rw[aH (by intro z;cases z)]
   refine aT ⟨bC _,λpa xS=>?_⟩
   have s2:af H (upd H1 pa (.lst [])):=s1.trans (af.upd xS)
   have Ip:upd H1 pa (.lst []) pa=some (.lst []):=ar
   have aeG:H pa=none:=s1.free xS
   generalize upd H1 pa (.lst [])=H2 at s2 Ip
   refine hide λG_ cD=>?_
   obtain⟨ws,hws⟩:∃ws,dM[pl]? = some ws:=⟨_,bg (by omega)⟩
   obtain⟨fv,yB,lf,rfl,Qc,BH⟩:=Paired.getL Il hws
   obtain⟨pt,hpt,yI⟩:=Paired.get B5 hws
   refine cD.k ?_
   rw[oH R _ hpl] at hpt
   cases hpt
   have iK:dM.getD pl []=ws:=cu hws
   rw[iK] at Im
   refine⟨_,rfl,s0,dx,_,rfl,s2 _ _ hs,B1 _ _ _ (by decide +kernel) (by decide +kernel) (by decide +kernel),_,rfl,s0,dx,p,fl,lf,.ref g,R.map (aF m),ws,fs,pl,rfl,s2 _ _ hs,s2 _ _ hp,s2 _ _ eE,yB,s2 _ _ Qc,by rw[ax];exact hpl,by rw[ax];exact sP,BH,λlq H3 vB s3 Iq=>⟨lq,rfl,⟨_,aj.of Iq⟩,?_⟩⟩
   have Ir:∀x,x∈(ws.filter λx=>!decide (x∈fO (R.map (aF m)) pl))->x∈ks/\da x (aF m (ao R pl))=true/\x∈ws/\x∉fO (R.map (aF m)) pl:=λx mx=>by
    obtain⟨m1,m2⟩:=cR.mp mx
    have:=(yI.mem x).mp m1
    exact⟨this.1,this.2,m1,by simpa using m2⟩
   have Iu:(ws.filter λx=>!decide (x∈fO (R.map (aF m)) pl)).Nodup:=yI.nd.filter _
   have Qn:(ws.filter λx=>!decide (x∈fO (R.map (aF m)) pl)).length<64:=kF (AL Iu λx mx=>(Ir x mx).1) eO
   have yN:cx (ws.filter λx=>!decide (x∈fO (R.map (aF m)) pl))=oC m R pl ks:=by
    rw[<-adk cZ yI]
    congr 1
    refine List.filter_congr λx _=>?_
    by_cases z:x∈fO (R.map (aF m)) pl
    .rw[aG z,aG ((Qg hpl).mp z)]
    .rw[aH z,aH λy=>z ((Qg hpl).mpr y)]
   generalize hXs:(ws.filter λx=>!decide (x∈fO (R.map (aF m)) pl))=Xs at Iq Ir Iu Qn yN
   have oM:=s2.trans s3
   have aeH:=s3 _ _ Ip
   have sj:∀b o,H b=some o->b≠pa:=λb o e=>aZ e aeG
   have Io:kn≠fo:=bY cU cF (by intro z;cases z)
   have jg:kn≠pa:=sj _ _ cU
   have Qo:fo≠pa:=sj _ _ cF
   have aeI:lq≠fo:=λz=>by rw[z,s2 _ _ cF] at vB;cases vB
   have aeJ:lq≠pa:=λz=>by rw[z,Ip] at vB;cases vB
   have aeK:lq≠kn:=λz=>by rw[z,s2 _ _ cU] at vB;cases vB
   have Iv:∀{Hi:Hp},(∀b o,b≠kn->b≠fo->b≠pa->H3 b=some o->Hi b=some o)->KX kn fo H Hi:=λk b o n1 n2 e=>k b o n1 n2 (sj b o e) (oM _ _ e)
   refine j2 (K:=K) (xs:=Xs.map V.str) (λi σ Hi=>∃(v5 v6:Option V) (fB:List Addr) (new:List (List Str)) (kv:List (Key×V)) (us:List V),σ=[some (.ref s0),some (.int (most:Int)),some (.ref fo),some (.int (pl:Int)),some (.ref pa),v5,v6]/\aeB Z M H3 Hi CW CC kn fo pa most wd n pl i m ks wf R Xs ts fB dj new kv us)
    ⟨none,none,[],[],kvs,[],rfl,⟨λb o _ _ _ e=>e,oM _ _ cU,(hK.weak λb o z e=>⟨z,sj b o e⟩).keep λb o e _=>oM _ _ e,by rw[gm];exact oM _ _ cF,by rw[gm,gm];exact hF.keep λb o _ _ e=>oM _ _ e,jm,(λ_ ms=>nomatch ms),by rw[gm];exact aJ,aeH,.nil⟩⟩ ?_ ?_ ?_
   .rintro i σ Hi _ ⟨v5,v6,fB,new,kv,us,rfl,CI⟩
    exact aj.of (CI.e1 _ _ aeK aeI aeJ Iq)
   .intro i y σ Hi hy aeL
    refine hide λG_ cJ=>?_
    obtain⟨v5,v6,fB,new,kv,us,rfl,⟨off,vC,Iw,vD,vE,Iy,sV,Iz,B8,oN⟩⟩:=aeL
    rw[bu] at hy
    obtain⟨x,hx,rfl⟩:=jl.mp hy
    have hi:i<Xs.length:=(cn.mp hx).1
    obtain⟨iM,dR,IA,Qp⟩:=Ir x (bE hx)
    have gy:Xs.take (i+1)=Xs.take i++[x]:=by rw[gq,hx];rfl
    have hxn:x∉Xs.take i:=λz=>by
     have h1:(Xs.take (i+1)).Nodup:=Iu.sublist (Ka _ _)
     rw[gy,qN] at h1
     exact h1.2.2 x z x (cI.mpr rfl) rfl
    obtain⟨m5,mC⟩:46∈(aF m (ao R pl)).cps.toList/\∀j,j<(R.map (aF m)).length->46∈((R.map (aF m)).getD j ⟨#[]⟩).cps.toList->ws.length<=(dM.getD j []).length:=by
     rcases Im with z | ⟨z1,z2⟩
     .exact z
     .exfalso
      rcases z2 with z2 | z2
      .rw[Hd dR z1] at Qp
       exact Qp (by unfold fO;exact oQ _ z2)
      .rw[z2] at IA
       cases IA
    refine cJ.k ?_
    have fu:∀j,j<R.length->46∈(aF m (ao R j)).cps.toList->∃y∈ks,da y (aF m (ao R j))=true:=λj hj dr=>by
     have h1:=mC j (by rw[ax];exact hj) (by rw[Qm hj];exact dr)
     obtain⟨wj,Qq⟩:∃wj,dM[j]? = some wj:=⟨_,bg (by omega)⟩
     obtain⟨pj,Qr,hFj⟩:=Paired.get B5 Qq
     rw[oH R _ hj] at Qr
     cases Qr
     rw[cu Qq] at h1
     have h0:=List.length_pos_of_mem IA
     cases wj with
     |nil=>rw[CQ] at h1;omega
     |cons y r=>exact⟨y,(hFj.mem y).mp bL⟩
    have sW:=Ij (il x iM)
    have BL:46∉x.cps.toList:=λz=>by have:=sW 46 z;omega
    have Qs:x.length=(ao R pl).length:=by rw[(kl.mp dR).1,ie]
    have yO:=Iv off
    have kD:=yO.kp cU cF B4
    have IB:¬(λb=>Z b/\b≠pa) fo:=λz=>B4 z.1
    have B9:∀b,Hi b=none->Z b/\b≠pa:=λb e=>⟨hZ b (yO.none ⟨_,vC⟩ ⟨_,vD⟩ e),λz=>by rw[z,B8] at e;cases e⟩
    have Qt:∀b o,Z b->H b=some o->(Z b/\b≠pa):=λb o z e=>⟨z,sj b o e⟩
    have aeM:=Paired.bM Ie λi v (e:∃q us,v=V.ref q/\Z q/\H q=some (.lst us)/\bB H (kj R i) us)=>(show ∃q us,v=V.ref q/\Hi q=some (.lst us)/\bB Hi (kj R i) us from let ⟨q,us,e1,e2,e3,e4⟩:=e;⟨q,us,e1,kD.lst _ _ e2 e3,e4.lists λb o e=>kD.tup e⟩)
    have aoj:=Paired.bM vi λt v e=>(e.keep (H':=Hi) λb o e z=>kD.lst _ _ z e)
    have aeN:Paired (gN (λb=>Z b/\b≠pa) Hi ks wf) (R.map (aF m)) fs:=Paired.bM vi λt v e=>(e.weak Qt).keep λb o e z=>kD.lst _ _ z.1 e
    refine⟨_,rfl,s0,dx,_,rfl,kD.ins hs,B1 _ _ _ (by decide +kernel) (by decide +kernel) (by decide +kernel),_,rfl,_,rfl,?_⟩
    refine⟨s0,dx,g,cV,p,fl,cG,kn,.ref a,.ref ce,wo,m,ks,wf,wd,pl,R,fs,cs,x,kv,(λb=>Z b/\b≠pa),M,rfl,⟨kD.ins hs,kD.ins hg,vC,Iw,hM,kD.lst _ _ zp hp,kD.lst _ _ zfl eE,aeN,kD.lst _ _ aeD sS,aeM,FM,hpl,sP,dR,iM,BL,B9,λk i hi dr=>Qj m pl x k i FM vg hpl iM dR fu hi dr⟩,λs' oI p' cA wt Qu H5 SP=>?_⟩
    refine hide λG_ gK=>?_
    obtain⟨vc,aeO,o5,sQ,HE,HF,sy,aeP,aeQ⟩:=SP
    refine gK.k ?_
    have Qv:KX kn fo Hi H5:=λb o n _ e=>o5 b o n e
    have ID:=o5 _ _ (bo Io) vD
    have aeR:=o5 _ _ (bo jg) B8
    have IE:Kp (λb=>Z b/\b≠pa) Hi H5:=Qv.kp vC vD IB
    have aeS:Kp (λb=>Z b/\b≠pa) H Hi:=⟨kD.je,λb l z e=>kD.lst b l z.1 e⟩
    have nn5:∀b,H5 b=none->Z b/\b≠pa:=λb e=>B9 b (Qv.none ⟨_,sQ⟩ ⟨_,ID⟩ e)
    refine⟨_,rfl,_,rfl,s',g,kn,fo,most,wd,l,putL m (ao R pl) x.cps.toList,ks,wf,R,Qu,(λb=>Z b/\b≠pa),M,ts++fB,dj++new,rfl,⟨((hG.weak Qt).keep aeS).keep IE,⟨oI,p',cA,wt,HF,sy,B9 _ vc,aeP,B9 _ aeO,aeQ⟩,sQ,HE,hM,Qj,FL,FM.put pl sW Qs,by rw[qv,vg],sP,il,cZ,eO,nn5,IB,ID,vE.keep IE.je,Iz,Qk,by have:=adj FM sW dR m5;omega⟩,λv nw Qw gO H6 CP=>?_⟩
    refine hide λG_ ou=>?_
    obtain⟨kx,Qx,Qy,IF,uR,aeT,IG,jh⟩:=CP
    refine ou.k ?_
    rw[oV] at IF
    rw[oV,oV] at uR
    rw[oV] at jh
    have ib:∀b o,b≠kn->b≠fo->b≠pa->H3 b=some o->H6 b=some o:=λb o n1 n2 n3 e=>kx b o n1 n2 (o5 b o n1 (off b o n1 n2 n3 e))
    have Ca:=kx _ _ (bo jg) (bo Qo) aeR
    have Qz:∀s∈nw,aF s (ao R pl)=x:=λs ms=>gM.text FM sW Qs (IG s ms).1
    have IH:∀s∈new++nw,gM s m wd/\ij ks s wd=true/\aF s (ao R pl)∈Xs.take (i+1):=λs ms=>by
     rw[gy]
     rcases du.mp ms with z | z
     .exact⟨(sV s z).1,(sV s z).2.1,oQ _ (sV s z).2.2⟩
     .exact⟨gM.adi FM sW dR (IG s z).1,(IG s z).2,fE _ (by rw[Qz s z];exact bL)⟩
    have QA:(new++nw).Nodup:=qN.mpr ⟨Iy,aeT,λs ms t mt z=>by
     have h1:=(sV s ms).2.2
     rw[z,Qz t mt] at h1
     exact hxn h1⟩
    rcases jh with ⟨rfl,aeU⟩ | ⟨hv,aeV,eW⟩
    .refine⟨_,rfl,rfl,_,rfl,?_⟩
     rw[aG rfl]
     exact bG (q .aD (new++nw) (fB++Qw) gO H6 ⟨Iv ib,Qx,Qy.weak λb o z _=>z.1,IF,uR,QA,λs ms=>⟨(IH s ms).1,(IH s ms).2.1⟩,.inl ⟨rfl,aeU⟩⟩)
    .refine⟨_,rfl,rfl,_,rfl,?_⟩
     rw[aH hv]
     have Hj:us.length<=64:=by rw[<-oN.length,jQ];omega
     refine aT ⟨_,rfl,.inl ⟨rfl,_,aj.of Ca⟩,_,rfl,_,rfl,(by show 2<=sizeLine;decide),λt ht=>?_⟩
     have si:t≠pa:=λz=>by rw[z,Ca] at ht;cases ht
     refine⟨pa,us,_,rfl,rfl,by rw[ak (bo si)];exact Ca,mf (by omega),?_⟩
     have o7:∀b o,b≠pa->H6 b=some o->upd (upd H6 t (.tup [.str x,v])) pa (.lst (us++[.ref t])) b=some o:=λb o n e=>by rw[ak n,ak (aZ e ht)];exact e
     have QB:upd (upd H6 t (.tup [.str x,v])) pa (.lst (us++[.ref t])) t=some (.tup [.str x,v]):=by rw[ak si];exact ar
     have QC:upd (upd H6 t (.tup [.str x,v])) pa (.lst (us++[.ref t])) pa=some (.lst (us++[.ref t])):=ar
     generalize upd (upd H6 t (.tup [.str x,v])) pa (.lst (us++[.ref t]))=H7 at o7 QB QC
     have II:Kp (λb=>Z b/\b≠pa) H6 H7:=⟨λb o n1 _ e=>o7 b o (λz=>by rw[z,Ca] at e;exact n1 _ (dm e).symm) e,λb l z e=>o7 b _ z.2 e⟩
     have aeW:Kp (λb=>Z b/\b≠pa) H5 H6:=kx.kp sQ ID IB
     have QD:=(IE.trans aeW).trans II
     refine⟨_,_,fB++Qw,new++nw,gO,us++[.ref t],rfl,⟨λb o n1 n2 n3 e=>o7 b o n3 (ib b o n1 n2 n3 e),o7 _ _ jg Qx,Qy.keep λb o e z=>o7 b _ z.2 e,o7 _ _ Qo IF,uR.keep II.je,QA,IH,aeV,QC,?_⟩⟩
     rw[gy]
     refine uY (Paired.bM oN λx' v' g=>?_) (.cons ⟨t,v,rfl,QB,dR,λtold ht=>(eW told λs ms=>ht s (fE _ ms)).mono II (λ_ _ z _=>z) λ_ z=>z⟩ .nil)
     refine hide λG_ sM=>?_
     obtain⟨t',u',e1,e2,e3,e4⟩:=g
     refine sM.k ?_
     exact⟨t',u',e1,QD.tup e2,e3,λtold ht=>(e4 told λs ms=>ht s (oQ _ ms)).mono QD (λ_ _ z _=>z) λ_ z=>z⟩
   .intro σ Hi aeX
    refine hide λG_ yg=>?_
    obtain⟨v5,v6,fB,new,kv,us,rfl,⟨off,vC,Iw,vD,vE,Iy,sV,Iz,B8,oN⟩⟩:=aeX
    refine yg.k ?_
    rw[ax,C5] at oN
    refine⟨_,rfl,_,rfl,λx oO hx yJ dI=>?_⟩
    have s4:af Hi (upd (upd Hi oO (.own x)) x (.ins CC oO [])):=λb o e=>by rw[ak (aZ e hx),ak (aZ e yJ)];exact e
    have yM:upd (upd Hi oO (.own x)) x (.ins CC oO []) x=some (.ins CC oO []):=ar
    generalize upd (upd Hi oO (.own x)) x (.ins CC oO [])=H4 at s4 yM
    refine⟨x,oO,pa,.int (pl:Int),us,rfl,yM,s4 _ _ B8,λr H5 vF h1 h2 h3=>⟨rfl,?_⟩⟩
    have s5:af Hi H5:=λb o e=>h3 _ _ (λz=>by rw[z,hx] at e;cases e) (s4 _ _ e)
    have yO:=Iv off
    have hrH:H r=none:=by
     cases eb:H r with
     |none=>rfl
     |some o=>
      by_cases z1:r=kn
      .rw[z1,s4 _ _ vC] at vF;cases vF
      .by_cases z2:r=fo
       .rw[z2,s4 _ _ vD] at vF;cases vF
       .rw[s4 _ _ (yO r o z1 z2 eb)] at vF;cases vF
    refine q (.ref x) new fB kv H5 ⟨yO.trans (KX.of s5),s5 _ _ vC,(Iw.weak λb o z _=>z.1).keep λb o e _=>s5 _ _ e,s5 _ _ vD,vE.keep λb o _ _ e=>s5 _ _ e,Iy,λs ms=>⟨(sV s ms).1,(sV s ms).2.1⟩,.inr ⟨(by intro z;cases z),Iz,λtold aeY=>.inr ⟨x,oO,r,pl,Xs,us,rfl,h1,hZ r hrH,h2,hpl,yN,Qn,Paired.bM oN λx v g=>?_⟩⟩⟩
    refine hide λG_ aeZ=>?_
    obtain⟨t,u,e1,e2,e3,e4⟩:=g
    refine aeZ.k ?_
    exact⟨t,u,e1,s5 _ _ e2,e3,(e4 told aeY).mono (Kp.of s5) (λb o z _=>z.1) λ_ z=>z⟩
theorem QE{CG CS CW CC:Addr}(B:Bl mg)(F:bq K "closing_paper" "closing_paper" (top 41) f fd)(hm:mg "closing_paper"=some (.ref f))(hk:PySem.W.keepIn K (.ref f)=true)(hb:Binds K fd ["standing","most","found"] [])(vt:Mt P w K mg base CS "narrowest" 1 (BE CS) [])(vv:Mt P w K mg base CS "filled" 3 (BJ K CS CG) [])(vw:Mt P w K mg base CS "left" 1 (BD K CS) [])(vx:Mt P w K mg base CS "after" 3 (BK K CS CG) [])(vy:AF K mg "Whole" CW)(vz:Nw P w K mg base "Cases" CC 1 (B2 CC)) :
  ∀n:Nat,aS P w K mg base aY (n+4) f fd ["standing","most","found"] (yL K CG CS CW CC n)
 |0=>F.ok vq (λvs H Q E h=>by obtain⟨s,g,kn,fo,most,w,l,m,ks,wf,R,kvs,Z,M,ts,dj,rfl,hp,_⟩:=h;have:=hp.ek;omega) (λaL A outer s H vs Q E hr h=>by obtain⟨s,g,kn,fo,most,w,l,m,ks,wf,R,kvs,Z,M,ts,dj,rfl,hp,_⟩:=h;have:=hp.ek;omega)
 |n+1=>aeC n B F ⟨f,fd,_,QE B F hm hk hb vt vv vw vx vy vz n,hm,hk,hb⟩ vt vv vw vx vy vz
end
theorem QF:∀(r:List C2) (c:C2),((List.range r.length).filter λk=>decide (r[k]? = some c)).length=r.count c
 |[],c=>rfl
 |a::r,c=>by
  rw[dg,Kg,d5,zu,KC]
  have e:((λk=>decide ((a::r)[k]? = some c))∘Nat.succ)=λk=>decide (r[k]? = some c):=by funext k;rfl
  rw[e]
  have ih:=QF r c
  by_cases z:a=c
  .have:decide ((a::r)[0]? = some c)=true:=by simp[z]
   rw[aA this,dg,ax,ih,aA (by simp[z])]
  .have:¬decide ((a::r)[0]? = some c)=true:=by simp[z]
   rw[aw this,ax,ih,aw (by simpa using z)]
   rfl
theorem ae0(R:List (List C2))(c:C2):(de R c).length=(R.map λr=>r.count c).sum:=by
 unfold de
 rw[List.length_flatMap]
 have e:(List.map (λi=>(((List.range (ao R i).length).filter λk=>decide ((ao R i)[k]? = some c)).map λk=>(i,k)).length) (List.range R.length))=(List.range R.length).map (λi=>(λr:List C2=>r.count c) (R.getD i [])):=by
  refine List.map_congr_left λi _=>?_
  rw[ax,QF]
  rfl
 rw[e,mJ (λr:List C2=>r.count c)]
theorem QG{l:List Str}{w:Nat}(c:C2):(de (aI l w) c).length=dk c (dF l w):=by
 rw[ae0,sD,jV]
 rfl
theorem ae1{l:List Str}{w:Nat}{r:List C2}(h:r∈aI l w):r.Nodup:=by
 unfold aI lu jc at h
 rcases du.mp h with h | h
 .obtain⟨c,_,e⟩:=bP.mp (cR.mp h).1
  rw[<-e]
  exact Fu (.inl rfl)
 .obtain⟨c,_,e⟩:=bP.mp (cR.mp h).1
  rw[<-e]
  exact Fu (.inr rfl)
theorem ae2{l:List Str}{w:Nat}(S:bj l w)(T:lA l w):GoodR (aI l w):=by
 have nd:∀i,(ao (aI l w) i).Nodup:=λi=>by
  by_cases hi:i<(aI l w).length
  .exact ae1 (sO hi)
  .have:ao (aI l w) i=[]:=by
    unfold ao
    rw[bQ,dy (Kd hi)]
    rfl
   rw[this]
   exact jm
 refine⟨nd,λi k c h=>?_⟩
 have hb:=(kh S (sO (lB h).1)).2.2 c (bE h)
 have h2:(de (aI l w) c).length=2:=by
  rw[QG]
  exact T c (by rw[se hb.1 hb.2.1];exact hb.2.2)
 have mo:(i,k)∈de (aI l w) c:=qt.mpr h
 have QH:=G7 (aI l w) c
 obtain⟨p,p',ep⟩:∃p p',de (aI l w) c=[p,p']:=by
  match ho:de (aI l w) c,h2 with
  |[a,b],_=>exact⟨a,b,rfl⟩
 have key:∃o:Nat×Nat,o≠(i,k)/\o∈de (aI l w) c/\∀y∈de (aI l w) c,y=(i,k)\/y=o:=by
  rw[ep] at mo QH ⊢
  have dI:p≠p':=by
   have:=(fF.mp QH).1
   simpa using this
  rcases bS.mp mo with z | z
  .refine⟨p',λy=>dI (by rw[<-z,y]),by simp,λy my=>?_⟩
   rcases bS.mp my with m | m
   .exact .inl (m.trans z.symm)
   .exact .inr (cI.mp m)
  .have z:=cI.mp z
   refine⟨p,λy=>dI (by rw[<-z,y]),by simp,λy my=>?_⟩
   rcases bS.mp my with m | m
   .exact .inr m
   .exact .inl ((cI.mp m).trans z.symm)
 obtain⟨o,ED,jA,uk⟩:=key
 have pq:=qt.mp jA
 refine⟨o.1,o.2,λz=>ED ?_,pq,λi' k' h' =>?_⟩
 .rw[z] at pq
  exact qQ z (G6 (nd i) pq h)
 .rcases uk (i',k') (qt.mpr h') with z | z
  .injection z with z1 z2
   exact .inl ⟨z1,z2⟩
  .exact .inr ⟨by rw[<-z],by rw[<-z]⟩
theorem IJ{l:List Str}{w:Nat}(S:bj l w)(T:lA l w):di l w (aI l w):=by
 refine⟨S,rfl,ae2 S T,λc h1 h2 ho=>?_⟩
 have h:=T c (by rw[se h1 h2];exact ho)
 rw[<-QG] at h
 cases e:de (aI l w) c with
 |nil=>rw[e] at h;cases h
 |cons p r=>exact⟨p.1,p.2,qt.mp (by rw[e];exact bL)⟩
structure fQ(l m:List Str)(w:Nat):Prop where
 ln:m.length=l.length
 op:∀c:C2,c.1<l.length->c.2<w->cb m c=cb l c
theorem fQ.bx{l m:List Str}{w:Nat}(F:fQ l m w):bx m w=bx l w:=by
 funext c
 unfold Cw.bx
 rw[F.ln]
 by_cases h1:c.1<l.length
 .by_cases h2:c.2<w
  .rw[F.op c h1 h2]
  .rw[aH h2,iq,iq]
 .rw[aH h1,iq,iq]
theorem fQ.bV{l m:List Str}{w:Nat}(F:fQ l m w):bV m w=bV l w:=by
 unfold Cw.bV
 rw[F.ln]
 refine List.filter_congr λc mc=>?_
 have:=uy mc
 exact F.op c this.1 this.2
theorem fQ.dF{l m:List Str}{w:Nat}(F:fQ l m w):dF m w=dF l w:=by
 unfold Cw.dF pZ qb
 rw[F.bx,F.bV]
theorem fQ.two{l m:List Str}{w:Nat}(F:fQ l m w)(T:lA l w):lA m w:=λc hc=>by
 rw[F.dF]
 exact T c (by rw[<-F.bx];exact hc)
theorem fQ.aI{l m:List Str}{w:Nat}(F:fQ l m w):aI m w=aI l w:=O5 F.ln F.op
def kE(l:List Str):List Str:=l.reverse.map lb
theorem IK(x:Str):(lb x).cps.toList=x.cps.toList.reverse:=by simp[lb]
theorem ae3(x:Str):(lb x).length=x.length:=by rw[<-cC,IK,C3,cC]
theorem Cb(l:List Str):(kE l).length=l.length:=by simp[kE]
theorem QI{l:List Str}{w:Nat}(S:bj l w):bj (kE l) w:=by
 refine⟨by rw[Cb];exact S.one,by rw[Cb];exact S.nine,S.w1,S.w9,λx m=>?_,λx m c mc=>?_⟩
 .obtain⟨y,hy,rfl⟩:=bP.mp m
  rw[ae3,S.len y (KD.mp hy)]
 .obtain⟨y,hy,rfl⟩:=bP.mp m
  rw[IK] at mc
  exact S.ok y (KD.mp hy) c (KD.mp mc)
theorem ae4{l:List Str}{i:Nat}(hi:i<l.length):(kE l)[i]? = (l[l.length - 1 - i]?).map lb:=by
 unfold kE
 rw[bu,Kl hi]
theorem ae5{l:List Str}{w:Nat}(S:bj l w){i j:Nat}(hi:i<l.length)(hj:j<w):sg (kE l) (i,j)=sg l (l.length - 1 - i,w - 1 - j):=by
 obtain⟨x,hx,mx,lx,pY,jx⟩:=S.row (i:=l.length - 1 - i) (by omega)
 obtain⟨y,hy,my,ly,ly',jy⟩:=(QI S).row (i:=i) (by rw[Cb];exact hi)
 rw[ae4 hi,hx] at hy
 cases hy
 have h1:=jy j hj
 rw[IK,Kl (by omega),pY,jx (w - 1 - j) (by omega)] at h1
 exact(dm h1).symm
section
variable{P:Program}{w:World}{K:PySem.W.Frag}{mg:Str->Option Value}{base:Heap}{f:Addr}{fd:FuncData}
theorem QJ{β:Type}{f:Nat->β}:∀{l:List Nat}{ys:List β},Paired (λi y=>y=f i) l ys->ys=l.map f
 |_,_,.nil=>rfl
 |_,_,.cons h t=>by rw[bX,<-QJ t,h]
theorem ae6{α β:Type}(g:α->β)(d:α)(l:List α):(List.range l.length).map (λi=>g (l.getD i d))=l.map g:=by
 apply kH
 intro i
 rw[bu,bu]
 by_cases h:i<l.length
 .rw[qJ h,bg h,ir,ir,bQ,bg h,oX]
 .rw[dy (by simpa using h),dy (by simpa using h)]
  rfl
def IL(K:PySem.W.Frag):Sp:=λvs H Q _=>∃(a:Addr) (l:List Str) (w:Nat),vs=[.ref a]/\aq K H a (l.map V.str)/\bj l w/\∀t H',H t=none->af H H'->H' t=some (.tup ((kE l).map V.str))->Q (.ref t) H'
theorem ae7:bw ["sheet"] ["sheet"] (aW (top 15)):=⟨rfl,rfl,rfl,by decide +kernel,rfl,by decide +kernel,by decide +kernel⟩
theorem ae8(B:Bl mg)(F:bq K "turned" "turned" (top 15) f fd):aS P w K mg base aY 1 f fd ["sheet"] (IL K):=by
 refine F.ok ae7 (λvs H Q E h=>?_) (λaL A outer s H vs Q E hr h=>?_)
 .obtain⟨a,l,w,rfl,_⟩:=h
  rfl
 .refine hide λG_ aK=>?_
  obtain⟨a,l,wd,rfl,hT,S,q⟩:=h
  refine aK.k ?_
  have h9:=S.nine
  have hw:=S.w9
  refine⟨_,(az (aX (iz wN (by rfl) B.sf rM (ab (i0 (js:=[]) (ns:=[]) (X3 (by rfl) B.aaG (ab (pv 0) ah)) rfl rfl rfl rfl (λ_ _ _ _=>jB) (λ_ _ _ _=>(X6 (pv 0) (VJ VM aE)))) ah)))),?_⟩
  try dsimp only[bF]
  refine⟨_,rfl,a,_,rfl,hT,comp_map X4 (by rw[C3,ax];omega) (λ_ i y _=>y = .str (lb (l.reverse.getD i ⟨#[]⟩))) (λH2 s2=>s2.tup hT) (λ_ _ _ _ _ _ _ _ h=>h) ?_ ?_⟩
  .intro D i x H2 Z hD hx s2 _ k1
   rw[<-List.map_reverse,bu] at hx
   cases e:l.reverse[i]? with
   |none=>rw[e] at hx;cases hx
   |some z=>
    rw[e] at hx
    cases hx
    have mz:=S.len z (KD.mp (bE e))
    exact⟨_,rfl,_,rfl,z,rfl,rfl,eG (by omega),k1 _ _ (af.cQ _) (by rw[cu e])⟩
  .intro D ys H2 hD bA s2 pr
   have e:=QJ pr
   rw[C3,ax,<-C3 (as:=l),ae6 (λz=>V.str (lb z))] at e
   refine⟨D,_,rfl,.inl ⟨aj.of bA,λt ht=>?_⟩⟩
   refine q t _ (s2.free ht) (s2.trans (af.upd ht)) ?_
   rw[ar,e]
   unfold kE
   rw[jV]
   rfl
end
def kc(c:C2):List Key:=[Sum.inl (c.1:Int),Sum.inl (c.2:Int)]
theorem ae9{c d:C2}(h:kc c=kc d):c=d:=by
 unfold kc at h
 injection h with h1 h2
 injection h2 with h2 _
 injection h1 with h1
 injection h2 with h2
 exact Dc.mpr ⟨by omega,by omega⟩
def qF(kvs:List (List Key×V))(g:C2->Nat):Prop := ∀c,aQ kvs (kc c)=if g c=0 then none else some (.int (g c))
theorem qF.get{kvs:List (List Key×V)}{g:C2->Nat}(h:qF kvs g)(c:C2):(aQ kvs (kc c)).getD (.int 0) = .int (g c):=by
 rw[h c]
 split
 .rename_i e;rw[e];rfl
 .rfl
theorem qF.put{kvs:List (List Key×V)}{g g':C2->Nat}(h:qF kvs g)(c:C2)(e1:g' c=g c+1)(e2:∀x,x≠c->g' x=g x):qF (putK kvs (kc c) (.int ((g c:Int)+1))) g':=by
 intro x
 rw[nK]
 by_cases e:x=c
 .subst e
  rw[aA rfl,aw (by omega),e1]
  rfl
 .rw[aw (λz=>e (ae9 z)),h x,e2 x e]
theorem afa(c:C2):dk c []=0:=rfl
theorem afb(c:C2)(rs:List (Nat×List C2))(q:Nat×List C2):dk c (rs++[q])=dk c rs+q.2.count c:=by
 unfold dk
 rw[eK,C4,bX,fT]
 rfl
theorem IM{α:Type}{p:α->Bool}:∀{l:List α}{i:Nat}{c:α},l[i]? = some c->p c=true->(∀(j:Nat) (x:α),j<i->l[j]? = some x->p x=false)->l.find? p=some c
 |[],_,_,h,_,_=>by simp at h
 |y::r,0,c,h,hp,_=>by
  have h:y=c:=by simpa using h
  rw[h,List.find?_cons_of_pos hp]
 |y::r,i+1,c,h,hp,hj=>by
  have h0:=hj 0 y (Nat.succ_pos _) rfl
  rw[List.find?_cons_of_neg (by rw[h0];exact cj)]
  exact IM (i:=i) (by simpa using h) hp λj x q e=>hj (j+1) x (by omega) (by simpa using e)
theorem IP{α:Type}{p:α->Bool}{l:List α}(h:∀(j:Nat) (x:α),l[j]? = some x->p x=false):l.find? p=none:=by
 rw[List.find?_eq_none]
 intro x hx
 obtain⟨j,hj⟩:=iw hx
 rw[h j x hj]
 exact cj
def vG(l:List Str)(c:C2):Bool := !cb (kE l) c
def gE(l:List Str)(w:Nat)(c:C2):Bool:=decide (dk c (dF l w)<2)
def yP(l:List Str)(w:Nat):Option C2:=((bV l w).find? (vG l)).or ((bV l w).find? (gE l w))
section
variable{P:Program}{w:World}{K:PySem.W.Frag}{mg:Str->Option Value}{base:Heap}{f:Addr}{fd:FuncData}
def IQ(K:PySem.W.Frag):Sp:=λvs H Q _=>∃(a:Addr) (l:List Str) (w:Nat),vs=[.ref a]/\aq K H a (l.map V.str)/\bj l w/\
 ∀p kvs H',H p=none->af H H'->H' p=some (.dT kvs)->qF kvs (λc=>dk c (dF l w))->Q (.ref p) H'
theorem Cc:bw ["sheet","counts","row","cell"] ["sheet"] (aW (top 24)):=⟨rfl,rfl,rfl,by decide +kernel,rfl,by decide +kernel,by decide +kernel⟩
theorem afc(F:bq K "rows_through" "rows_through" (top 24) f fd)(HL:Fn P w K mg base "rows_of" 5 (AY K)):aS P w K mg base aY 6 f fd ["sheet"] (IQ K):=by
 refine F.ok Cc (λvs H Q E h=>?_) (λaL A outer s H vs Q E hr h=>?_)
 .obtain⟨a,l,w,rfl,_⟩:=h
  rfl
 .refine hide λG_ aK=>?_
  obtain⟨a,l,wd,rfl,hT,S,q⟩:=h
  refine aK.k ?_
  have dP:=kT hr
  have hrl:=uG S
  refine⟨_,(au (aO (i:=1) Cc.nd rfl (Or.inl rfl) LV)
   (au (cM cL rfl (dQ (ba HL (hr.mono (by decide)) (by rfl) (ab (pv 0) ah))) (bK (i:=2) Cc.nd rfl (Or.inl rfl))
   (az (cM cL rfl (zU (aV bU (pv 2) aE (λ_ _=>rfl))) (bK (i:=3) Cc.nd rfl (Or.inl rfl))
    (az (Ac dP (pv 1) (pv 3) (aR eV (LX dP (pv 1) (pv 3) aE ⟨rfl,rfl,rfl,rfl⟩) aE) rfl)))))
   (az (aX (pv 1))))),?_⟩
  try dsimp only[bF]
  intro p hp
  have eZ:af H (upd H p (.dT [])):=af.upd hp
  have iH:upd H p (.dT []) p=some (.dT []):=ar
  generalize upd H p (.dT [])=H0 at eZ iH
  refine⟨_,rfl,a,l,wd,rfl,eZ.tup hT,S,λg xa xd H1 hg s1 hL rA rD=>⟨g,rfl,⟨_,aj.of hL⟩,?_⟩⟩
  have rB:=Oc rA rD
  have P0:=rB.length
  have nW:=s1 _ _ iH
  refine j2 (xs:=xa++xd) (λi σ H2=>∃v2 v3 kvs,σ=[some (.ref a),some (.ref p),v2,v3]/\(∀b o,b≠p->H1 b=some o->H2 b=some o)/\H2 p=some (.dT kvs)/\kvs.length<=10*i/\qF kvs (λc=>dk c ((dF l wd).take i)))
   ⟨none,none,[],rfl,λ_ _ _ z=>z,nW,aP _,λc=>by rw[qK,aA (afa c)];rfl⟩ ?_ ?_ ?_
  .rintro i σ H2 _ ⟨v2,v3,kvs,rfl,off,_⟩
   exact aj.of (off _ _ (bY hL nW (by intro z;cases z)) hL)
  .intro i x σ H2 hx afd
   refine hide λG_ aN=>?_
   obtain⟨v2,v3,kvs,rfl,off,hd,nT,hC⟩:=afd
   have hi:i<(xa++xd).length:=(cn.mp hx).1
   obtain⟨row,hq,way,aa,t,xs3,rfl,g1,g2,g3⟩:=Paired.get rB hx
   refine aN.k ?_
   have br:=FR (bE hq)
   have Cd:∀b o,H1 b=some (.tup o)->b≠p:=λb o z=>bY z nW (by intro y;cases y)
   have EL:=off _ _ (Cd _ _ g2) g2
   have hxs:=g3.length
   refine⟨_,rfl,aa,_,2,.ref t,rfl,rfl,aq.of (off _ _ (Cd _ _ g1) g1),rfl,t,rfl,⟨_,aq.of EL⟩,?_⟩
   have qf:(dF l wd).take (i+1)=(dF l wd).take i++[row]:=by rw[gq,hq];rfl
   refine XH Em (λj σ H3=>∃v3 kvs,σ=[some (.ref a),some (.ref p),some (.ref aa),v3]/\(∀b o,b≠p->H1 b=some o->H3 b=some o)/\H3 p=some (.dT kvs)/\kvs.length<=10*i+j/\qF kvs (λc=>dk c ((dF l wd).take i)+(row.2.take j).count c))
    ⟨v3,kvs,rfl,off,hd,nT,λc=>by simp only[qK,List.count_nil,Nat.add_zero];exact hC c⟩ (λj σ H3 _ ⟨_,_,_,iN,_⟩=>aq.of (iN _ _ (Cd _ _ g2) g2)) ?_ ?_
   .intro j x σ H3 hx3 afe
    refine hide λG_ bt=>?_
    obtain⟨v3,IS,rfl,iN,mn,aff,jI⟩:=afe
    obtain⟨c,hc,b,rfl,hb⟩:=Paired.get g3 hx3
    refine bt.k ?_
    have hj:j<row.2.length:=(cn.mp hc).1
    have QK:H3 b=some (.tup ((kc c).map kV)):=iN _ _ (Cd _ _ hb) hb
    refine⟨_,rfl,p,rfl,.inr ⟨IS,.inl mn⟩,_,rfl,_,eA.t mn QK,?_⟩
    rw[jI.get c]
    refine⟨_,_,rfl,rfl,_,rfl,_,rfl,p,_,rfl,lY.t mn QK (mf (by omega)),?_⟩
    refine⟨_,_,rfl,λb' o jz z=>by rw[ak jz];exact iN b' o jz z,ar,bO (tY _ _ _) (by omega),?_⟩
    have et:row.2.take (j+1)=row.2.take j++[c]:=by rw[gq,hc];rfl
    refine jI.put c ?_ λx pU=>?_
    .rw[et,KA,List.count_singleton_self]
     omega
    .rw[et,KA,(List.count_eq_zero (l:=[c])).mpr (by simpa using pU),Nat.add_zero]
   .intro σ H3 afg
    refine hide λG_ cD=>?_
    obtain⟨v3,IS,rfl,iN,mn,aff,jI⟩:=afg
    refine cD.k ?_
    refine⟨_,_,IS,rfl,iN,mn,by omega,λc=>?_⟩
    have:=jI c
    dsimp only at this ⊢
    rw[gu (l:=row.2) (i:=xs3.length) (by omega)] at this
    have e9:dk c ((dF l wd).take (i+1))=dk c ((dF l wd).take i)+row.2.count c:=by rw[qf,afb]
    rw[this]
    simp only[e9]
  .intro σ H2 afh
   refine hide λG_ cJ=>?_
   obtain⟨v2,v3,kvs,rfl,off,hd,nT,hC⟩:=afh
   refine cJ.k ?_
   rw[gu (by omega)] at hC
   refine⟨_,rfl,q p kvs H2 hp (λb o z=>off b o (aZ z hp) (s1 _ _ (eZ _ _ z))) hd hC⟩
def IT(K:PySem.W.Frag):Sp:=λvs H Q _=>∃(a:Addr) (l:List Str) (w:Nat),vs=[.ref a]/\aq K H a (l.map V.str)/\bj l w/\yP l w=none/\∀H',af H H'->Q .aD H'
theorem vH:bw ["sheet","about","cells","cell","counts"] ["sheet"] (aW (top 23)):=⟨rfl,rfl,rfl,by decide +kernel,rfl,by decide +kernel,by decide +kernel⟩
theorem afi(F:bq K "need_floor" "need_floor" (top 23) f fd)(afj:Fn P w K mg base "turned" 1 (IL K))(FE:Fn P w K mg base "open_cells" 3 (AU K))(xQ:Fn P w K mg base "is_open" 2 (xP K))
  (afk:Fn P w K mg base "rows_through" 6 (IQ K)):aS P w K mg base aY 7 f fd ["sheet"] (IT K):=by
 refine F.ok vH (λvs H Q E h=>?_) (λaL A outer s H vs Q E hr h=>?_)
 .obtain⟨a,l,w,rfl,_⟩:=h
  rfl
 .refine hide λG_ aK=>?_
  obtain⟨a,l,wd,rfl,hT,S,vI,q⟩:=h
  refine aK.k ?_
  have dP:=kT hr
  refine⟨_,(au (aO (i:=1) vH.nd rfl (Or.inl rfl) (ba afj (hr.mono (by decide)) (by rfl) (ab (pv 0) ah)))
   (au (aO (i:=2) vH.nd rfl (Or.inl rfl) (ba FE (hr.mono (by decide)) (by rfl) (ab (pv 0) ah)))
   (au (cM cL rfl (dQ (pv 2)) (bK (i:=3) vH.nd rfl (Or.inl rfl))
   (az (bJ (fV (eU (ba xQ (hr.mono (by decide)) (by rfl) (ab (pv 1) (ab (pv 3) ah)))))
    (az wB)
    bR)))
   (au (aO (i:=4) vH.nd rfl (Or.inl rfl) (ba afk (hr.mono (by decide)) (by rfl) (ab (pv 0) ah)))
   (az (cM cL rfl (dQ (pv 2)) (bK (i:=3) vH.nd rfl (Or.inl rfl))
   (az (bJ (bT lS (LX dP (pv 4) (pv 3) aE ⟨rfl,rfl,rfl,rfl⟩) aE (cq _))
    (az wB)
    bR)))))))),?_⟩
  try dsimp only[bF]
  refine⟨_,rfl,a,l,wd,rfl,hT,S,λt H1 ht s1 hTt=>?_⟩
  refine⟨_,rfl,a,l,wd,rfl,s1.tup hT,S,λp xs H2 hp s2 hL hC=>?_⟩
  have QL:=s1.trans s2
  have hcx:=hC.length
  refine⟨_,rfl,p,rfl,⟨_,aj.of hL⟩,j2 (xs:=xs) (λi σ H3=>∃v3,σ=[some (.ref a),some (.ref t),some (.ref p),v3,none]/\H3=H2/\∀j c,j<i->(bV l wd)[j]? = some c->vG l c=false)
   ⟨none,rfl,rfl,λj c z=>absurd z (jn _)⟩ (λi σ H3 _ ⟨_,_,e,_⟩=>by rw[e];exact aj.of hL) ?_ ?_⟩
  .intro i x σ H3 hx afl
   refine hide λG_ aN=>?_
   obtain⟨v3,rfl,rfl,fu⟩:=afl
   obtain⟨c,hc,b,rfl,hb⟩:=Paired.get hC hx
   obtain⟨m1,m2⟩:=uy (cR.mp (bE hc)).1
   refine aN.k ?_
   refine⟨_,rfl,_,rfl,t,b,kE l,wd,c,rfl,aq.of (s2 _ _ hTt),QI S,aq.of hb,by rw[Cb];exact m1,m2,_,rfl,?_⟩
   cases ho:cb (kE l) c with
   |true=>
    refine aT ⟨_,rfl,rfl,λj x hj e=>?_⟩
    rcases wm.mp hj with z | z
    .exact fu j x z e
    .rw[z,hc] at e
     cases e
     unfold vG
     rw[ho]
     rfl
   |false=>
    refine bG ?_
    unfold yP at vI
    rw[IM hc (by unfold vG;rw[ho];rfl) fu] at vI
    cases vI
  .rintro σ H3 ⟨v3,rfl,rfl,fu⟩
   have rZ:(bV l wd).find? (vG l)=none:=IP λj x e=>fu j x (by rw[<-hcx];exact(cn.mp e).1) e
   refine⟨_,rfl,a,l,wd,rfl,QL.tup hT,S,λd kvs H4 iH s4 hd hCn=>?_⟩
   have sG:=s4 _ _ hL
   refine⟨_,rfl,p,rfl,⟨_,aj.of sG⟩,j2 (xs:=xs) (λi σ H5=>∃v3,σ=[some (.ref a),some (.ref t),some (.ref p),v3,some (.ref d)]/\H5=H4/\∀j c,j<i->(bV l wd)[j]? = some c->gE l wd c=false)
    ⟨v3,rfl,rfl,λj c z=>absurd z (jn _)⟩ (λi σ H5 _ ⟨_,_,e,_⟩=>by rw[e];exact aj.of sG) ?_ ?_⟩
   .intro i x σ H5 hx afm
    refine hide λG_ bt=>?_
    obtain⟨v3,rfl,rfl,IU⟩:=afm
    obtain⟨c,hc,b,rfl,hb⟩:=Paired.get hC hx
    refine bt.k ?_
    have hb4:H5 b=some (.tup ((kc c).map kV)):=s4 _ _ hb
    refine⟨_,rfl,d,rfl,.inr ⟨kvs,.inl hd⟩,_,rfl,_,eA.t hd hb4,?_⟩
    rw[hCn.get c]
    refine⟨_,_,rfl,rfl,_,rfl,?_⟩
    by_cases h2:dk c (dF l wd)<2
    .rw[aG (by omega)]
     refine bG ?_
     unfold yP at vI
     rw[rZ,IM hc (by unfold gE;exact aG h2) IU] at vI
     cases vI
    .rw[aH (by omega)]
     refine aT ⟨_,rfl,rfl,λj x hj e=>?_⟩
     rcases wm.mp hj with z | z
     .exact IU j x z e
     .rw[z,hc] at e
      cases e
      unfold gE
      exact aH h2
   .rintro σ H5 ⟨v3,rfl,rfl,IU⟩
    exact q _ (QL.trans s4)
end
theorem afn{l:List Str}{w:Nat}(S:bj l w)(T:lA l w)(Y:kg l w):yP l w=none:=by
 unfold yP
 rw[IP λj x e=>?_,IP λj x e=>?_]
 .rfl
 .have mx:=bE e
  have hb:=uy (cR.mp mx).1
  unfold gE
  rw[T x (by rw[se hb.1 hb.2];exact(cR.mp mx).2)]
  rfl
 .have mx:=bE e
  have hb:=uy (cR.mp mx).1
  have ho:=(cR.mp mx).2
  unfold vG
  have:cb (kE l) x=true:=by
   unfold cb at ho ⊢
   rw[show x=(x.1,x.2) from rfl,ae5 S hb.1 hb.2]
   have ho:¬sg l x=35:=by simpa using ho
   rw[aH λz=>ho ((Y x hb.1 hb.2).mpr z)]
   rfl
  rw[this]
  rfl
theorem fQ.sym{l m:List Str}{w:Nat}(F:fQ l m w)(Y:kg l w):kg m w:=λc h1 h2=>by
 have fZ:c.1<l.length:=by rw[<-F.ln];exact h1
 have e:∀d:C2,d.1<l.length->d.2<w->(sg m d=35↔sg l d=35):=λd d1 d2=>by
  have:=F.op d d1 d2
  unfold cb at this
  constructor
  .intro z
   rw[aG z] at this
   simpa using this
  .intro z
   rw[aG z] at this
   simpa using this
 rw[F.ln,e c fZ h2,e (l.length - 1 - c.1,w - 1 - c.2) (by show l.length - 1 - c.1<_;omega) (by show w - 1 - c.2<w;omega)]
 exact Y c fZ h2
def yQ(al:List Nat):Nat->List (List Nat)
 |0=>[[]]
 |n+1=>al.flatMap λa=>(yQ al n).map λr=>a::r
theorem QM(al:List Nat):∀n,(yQ al n).length=al.length ^ n
 |0=>rfl
 |n+1=>by
  rw[yQ,List.length_flatMap]
  simp only[ax,QM al n]
  rw[List.map_const',List.sum_replicate_nat,Nat.pow_succ,oW]
theorem QN{al:List Nat}:∀{r:List Nat},(∀c∈r,c∈al)->r∈yQ al r.length
 |[],_=>bL
 |a::r,h=>C9.mpr ⟨a,h a bL,Dg (QN λc m=>h c (cg _ m))⟩
def IV:List Nat:=46::(List.range 26).map (· + 97)
def M4(t:Str):Prop:=t.length<=4/\∀c∈t.cps.toList,c=46\/(97<=c/\c<=122)
theorem afo:BA M4:=by
 intro ks nd h
 have h1:ks.length<=(((List.range 5).flatMap λn=>yQ IV n).map λr=>(Sum.inr ⟨r.toArray⟩:Key)).length:=by
  refine AL nd λk mk=>?_
  obtain⟨x,rfl,hx1,hx2⟩:=h k mk
  refine bP.mpr ⟨x.cps.toList,C9.mpr ⟨x.cps.toList.length,ip.mpr (by rw[cC];omega),QN λc mc=>?_⟩,by simp⟩
  unfold IV
  rcases hx2 c mc with z | z
  .rw[z];exact bL
  .exact cg _ (bP.mpr ⟨c - 97,ip.mpr (by omega),by omega⟩)
 rw[ax,List.length_flatMap] at h1
 simp only[QM] at h1
 have e:IV.length=27:=by decide
 rw[e] at h1
 have e2:((List.range 5).map λn=>27 ^ n).sum=551881:=by decide
 rw[e2] at h1
 exact kF h1 (by decide)
theorem afp{l:List Str}{w:Nat}{r:List C2}(h4:l.length<=4)(w4:w<=4)(h:r∈aI l w):r.length<=4:=by
 have key:∀k:Nat,k<=1->∀c:C2,(bW (bx l w) (cE k) c).length<=4:=λk hk c=>by
  unfold bW
  split
  .exact bC _
  .split
   .exact bC _
   .rw[sd]
    rcases Nat.lt_or_ge 4 (runN (bx l w) (cE k) 10 c) with z | z
    .exfalso
     have:=n9 (uz z)
     unfold go cE at this
     dsimp only at this
     have e:k=0\/k=1:=by omega
     rcases e with e | e <;> subst e <;> simp at this <;> omega
    .exact z
 unfold aI lu jc at h
 rcases du.mp h with h | h
 .obtain⟨c,_,e⟩:=bP.mp (cR.mp h).1
  rw[<-e]
  exact key 0 (by decide) c
 .obtain⟨c,_,e⟩:=bP.mp (cR.mp h).1
  rw[<-e]
  exact key 1 (by decide) c
theorem QO{w:Nat}:∀{m:List Str}(_:eC m w) (cs:List C2) (xs:List Nat),(∀c∈cs,c.1<m.length/\c.2<w)->∀{d:C2},d.1<m.length->d.2<w->sg (putL m cs xs) d=sg m d\/sg (putL m cs xs) d∈xs
 |m,S,[],_,_,d,_,_=>by simp[putL]
 |m,S,c::cs,[],_,d,_,_=>by simp[putL]
 |m,S,c::cs,x::xs,h,d,d1,d2=>by
  have hc:=h c bL
  rw[putL]
  rcases QO (S.set (ch:=x) hc.1 hc.2) cs xs (λe me=>by rw[dC];exact h e (cg _ me)) (d:=d) (by rw[dC];exact d1) d2 with z | z
  .rw[z,S.jK hc.1 hc.2 d1 d2]
   by_cases e:d=c
   .rw[aA e];exact .inr bL
   .rw[aw e];exact .inl rfl
  .exact .inr (cg _ z)
theorem afq{l:List Str}{w:Nat}(S:bj l w){c:C2}(h1:c.1<l.length)(h2:c.2<w):n5 (sg l c):=by
 obtain⟨x,_,mx,_,_,hj⟩:=S.row h1
 exact S.ok x mx _ (bE (hj _ h2))
theorem afr{m:List Str}{w pl k i:Nat}{R:List (List C2)}{x:Str}(F:di m w R)(h4:m.length<=4)(w4:w<=4)(hx:qw x)(hi:i<R.length):M4 (aF (putL m ((ao R pl).take k) (x.cps.toList.take k)) (ao R i)):=by
 refine⟨?_,λc mc=>?_⟩
 .rw[ie]
  have:=sO hi
  rw[<-F.eq] at this
  rw[<-F.eq]
  exact afp h4 w4 this
 .rw[mU] at mc
  obtain⟨d,md,rfl⟩:=bP.mp mc
  obtain⟨j,hj⟩:=iw md
  have hb:=F.uU hj
  rcases QO F.sh.eI ((ao R pl).take k) (x.cps.toList.take k) (λe me=>F.jO pl e (zJ me)) hb.1 hb.2.1 with z | z
  .rw[z]
   have ho:=afq F.sh hb.1 hb.2.1
   have jb:¬sg m d=35:=by
    have:=hb.2.2
    unfold cb at this
    simpa using this
   rcases ho with y | y | y
   .exact absurd y jb
   .exact .inl y
   .exact .inr y
  .exact .inr (hx _ (zJ z))
theorem afs(l:List Str)(w:Nat):(fI l w).length<=l.length*w:=by
 unfold fI
 exact bO (iQ _ _) (by rw[n6];exact aP _)
section
variable{P:Program}{w:World}{K:PySem.W.Frag}{mg:Str->Option Value}{base:Heap}{f:Addr}{fd:FuncData}
def yR(K:PySem.W.Frag)(CB CW CC:Addr):Sp:=λvs H Q _=>∃(a bk d:Addr) (l:List Str) (w most:Nat) (kvs:List (Key×V)),vs=[.ref bk,.ref a,.int (most:Int)]/\H a=some (.tup (l.map V.str))/\bj l w/\lA l w/\kg l w/\l.length<=4/\w<=4/\iJ CB H bk d kvs/\kvs.length<64/\(∀x∈bb kvs,dJ x=true)/\uP kvs/\1<=most/\most<=1000/\
 ∀(t fo:Addr) (v:V) (ts:List Addr) (new:List (List Str)) (H':Hp),af H H'->H' t=some (.tup [.ref fo,v])->H' fo=some (.lst (ts.map V.ref))->lG H' ts new->new.Nodup->(∀s∈new,gM s l w/\ij (bb kvs) s w=true)->
  ((v = .aD/\new.length=most)\/(v ≠ .aD/\new.length<most/\mZ (λ_=>True) H' CW CC (aI l w) (bb kvs) new 17 v l))->Q (.ref t) H'
theorem IX:bw ["book","sheet","most","found","paper"] ["book","sheet","most"] (aW (top 40)):=⟨rfl,rfl,rfl,by decide +kernel,rfl,by decide +kernel,by decide +kernel⟩
theorem QP{CB CG CS CW CC:Addr}{dv:Value}(F:pO K "fillings" "fillings" (top 40) f fd dv)(aft:Fn P w K mg base "need_floor" 7 (IT K))(afu:Fn P w K mg base "first_standing" 8 (HZ K CB CG CS))(Ik:Fn P w K mg base "closing_paper" 21 (yL K CG CS CW CC 17)):aS P w K mg base aY 22 f fd ["book","sheet","most"] (yR K CB CW CC):=by
 refine F.ok IX (λvs H Q E h=>?_) (λaL A outer s H vs Q E hr h=>?_)
 .refine hide λG_ aK=>?_
  obtain⟨a,bk,d,l,w,most,kvs,rfl,_⟩:=h
  refine aK.k ?_
  rfl
 .refine hide λG_ aN=>?_
  obtain⟨a,bk,d,l,wd,most,kvs,rfl,hT,S,T2,Sy,h4,w4,hB,eO,il,Ic,hm1,hm2,q⟩:=h
  refine aN.k ?_
  refine⟨_,(au (fg (ba aft (hr.mono (by decide)) (by rfl) (ab (pv 1) ah)))
   (au (aO (i:=3) IX.nd rfl (Or.inl rfl) (fm ah))
   (au (aO (i:=4) IX.nd rfl (Or.inl rfl) (ba Ik (hr.mono (by decide)) (by rfl) (ab (ba afu (hr.mono (by decide)) (by rfl) (ab (pv 0) (ab (pv 1) ah))) (ab (pv 2) (ab (pv 3) ah)))))
   (az (aX (fX (ab (pv 3) (ab (pv 4) ah)))))))),?_⟩
  try dsimp only[bF]
  have FL:=IJ S T2
  refine⟨_,rfl,a,l,wd,rfl,aq.of hT,S,afn S T2 Sy,λH1 s1=>?_⟩
  refine⟨bC _,λfo cF=>?_⟩
  have s2:af H (upd H1 fo (.lst [])):=s1.trans (af.upd cF)
  have vA:upd H1 fo (.lst []) fo=some (.lst (([]:List Addr).map V.ref)):=ar
  have afv:H fo=none:=s1.free cF
  generalize upd H1 fo (.lst [])=H2 at s2 vA
  refine⟨_,rfl,_,rfl,a,bk,d,l,wd,aI l wd,kvs,rfl,s2 _ _ hT,FL,hB.mono s2,eO,il,Ic,λst g kn wo H3 s3 afw hG cU hS=>?_⟩
  have afx:=s3 _ _ vA
  have gh:∀x∈bb kvs,qw x:=λx mx=>Ij (il x mx)
  have hkd:(bb kvs).Nodup:=Qa hB.nd hB.tx
  have mS:=uG S
  rw[<-Bj] at mS
  have afy:H kn=none:=s2.free afw
  refine⟨_,rfl,_,rfl,st,g,kn,fo,most,wd,l,l,bb kvs,uQ kvs,aI l wd,[],(λb=>H2 b=none),M4,[],[],rfl,⟨hG,hS,cU,⟨jm,(λk mk=>nomatch mk),(λx v hv=>by cases hv)⟩,afo,λm' pl x k i Fm vg hpl iM Pu _ hi _=>afr Fm (by omega) w4 (gh x iM) hi,FL,FL,rfl,by omega,il,hkd,by rw[yi];exact eO,λb e=>?_,(λz=>by have z:H2 fo=none:=z;rw[vA] at z;cases z),afx,.nil,hm1,hm2,?_⟩,λv new fB Qu H4 CP=>?_⟩
  .exact s3.free e
  .have:=afs l wd
   have:l.length*wd<=4*4:=wb h4 w4
   omega
  refine hide λG_ bt=>?_
  obtain⟨kx,yH,Hz,QQ,qC,afz,afA,jh⟩:=CP
  refine bt.k ?_
  rw[CV] at QQ qC jh
  rw[CV] at qC
  refine⟨_,rfl,_,rfl,(by show 2<=sizeLine;decide),λt ht=>?_⟩
  have s5:af H4 (upd H4 t (.tup [.ref fo,v])):=af.upd ht
  have t5:upd H4 t (.tup [.ref fo,v]) t=some (.tup [.ref fo,v]):=ar
  generalize upd H4 t (.tup [.ref fo,v])=H5 at s5 t5
  have yS:af H H4:=λb o e=>kx b o (aZ e afy) (aZ e afv) (s3 _ _ (s2 _ _ e))
  refine q t fo v fB new H5 (yS.trans s5) t5 (s5 _ _ QQ) (qC.keep λb o _ _ e=>s5 _ _ e) afz afA ?_
  rcases jh with z | ⟨z1,z2,z3⟩
  .exact .inl z
  .exact .inr ⟨z1,z2,(z3 new λ_ ms=>ms).mono (Kp.of s5) (λ_ _ _ _=>trivial) λ_ ms=>ms⟩
end
theorem QR:∀zs:List Str,(Str.join ⟨#[]⟩ zs).cps.toList=zs.flatMap λx=>x.cps.toList
 |[]=>rfl
 |[x]=>by simp[Str.join]
 |x::y::r=>by
  have ih:=QR (y::r)
  show((x++⟨#[]⟩++Str.join ⟨#[]⟩ (y::r):Str)).cps.toList=_
  rw[mF,mF,ih]
  simp
theorem QS(l:List Str):decide (46∈(Str.join ⟨#[]⟩ l).cps.toList)=ki l:=by
 rw[QR]
 unfold ki
 rw[zf,Kr,C9,zj]
 constructor
 .rintro⟨x,m,h⟩
  exact⟨x,m,aG h⟩
 .rintro⟨x,m,h⟩
  exact⟨x,m,ff h⟩
theorem IY{w:Nat}:∀{l:List Str},(∀x∈l,x.length=w)->(l.map (·.length)).sum=l.length*w
 |[],_=>by simp
 |x::r,h=>by
  rw[bX,fT,IY λy m=>h y (cg _ m),h x bL,dg,iP,Nat.add_comm]
theorem afB{l:List Str}{w i:Nat}{r:List C2}(h:(aI l w)[i]? = some r):(eS l w)[i]? = some (aF l r):=by
 unfold eS
 rw[bu,h]
 rfl
theorem yT(i j:Nat):decide (V.int (i:Int)=V.int (j:Int))=decide (i=j):=by
 by_cases h:i=j
 .rw[h,aG rfl,aG rfl]
 .rw[aH h,aH]
  intro z
  injection z with z
  omega
section
variable{P:Program}{w:World}{K:PySem.W.Frag}{mg:Str->Option Value}{base:Heap}{f:Addr}{fd:FuncData}
def IZ(K:PySem.W.Frag):Sp:=λvs H Q _=>∃(d a:Addr) (ks:List Str) (l:List Str) (w:Nat),vs=[.ref d,.ref a]/\H d=some (.lst (ks.map V.str))/\aq K H a (l.map V.str)/\bj l w/\∀H',af H H'->Q (.bl (ij ks l w)) H'
theorem QT:bw ["_law_words_here","_law_sheet_here","_law_texts"] ["_law_words_here","_law_sheet_here"] (aW (top 67)):=⟨rfl,rfl,rfl,by decide +kernel,rfl,by decide +kernel,by decide +kernel⟩
theorem afC(B:Bl mg)(F:bq K "_law_is_filling" "_law_is_filling" (top 67) f fd)(oB:Fn P w K mg base "_law_rows" 3 (sF K))(sL:Fn P w K mg base "_law_text" 1 (x8 K)):aS P w K mg base aY 4 f fd ["_law_words_here","_law_sheet_here"] (IZ K):=by
 refine F.ok QT (λvs H Q E h=>?_) (λaL A outer s H vs Q E hr h=>?_)
 .refine hide λG_ aK=>?_
  obtain⟨d,a,ks,l,w,rfl,_⟩:=h
  refine aK.k ?_
  rfl
 .refine hide λG_ aN=>?_
  obtain⟨d,a,ks,l,wd,rfl,hd,hT,S,q⟩:=h
  refine aN.k ?_
  have dP:=kT hr
  refine⟨_,(au (uf (i:=2) QT.nd rfl (Or.inl rfl) (js:=[1]) (ns:=["_law_sheet_here"]) (dQ (ba oB (hr.mono (by decide)) (by rfl) (ab (pv 1) ah))) rfl rfl rfl rfl (λ_ _ _ _=>jB) (λ_ _ _ _=>(ba sL (hr.mono (by decide)) (by rfl) (ab (pv 1) (ab (pv 0) ah)))))
   (au (bJ (PW.pt (iV (bT Dx eM (fq De Ky Kz Al eM (ab (iz rp (by rfl) B.oa nP (ab (pv 1) ah)) ah)) rfl) (jZ (bT iY (bp aab (by rfl) B.cf bZ (ab (iz (aaa rfl) (by rfl) B.NT Ng (ab (pv 2) ah)) ah)) (bp d9 (by rfl) B.cf bZ (ab (pv 2) ah)) (cq _)))))
   (az (aX fJ))
   bR)
   (az (aX (bp (Mg rfl) (by rfl) B.NS Me (ab (i0 (js:=[0]) (ns:=["_law_words_here"]) (dQ (pv 2)) rfl rfl rfl rfl (λ_ _ _ _=>jB) (λ_ _ _ _=>(Yn (K:=K) (rr:=λK=>wL K false) rfl WI (pv 0) (pv 1) rfl))) ah)))))),?_⟩
  try dsimp only[bF]
  refine⟨_,rfl,a,l,wd,rfl,hT,S,λg xs H1 hg s1 hL hR=>⟨g,rfl,⟨_,aj.of hL⟩,?_⟩⟩
  have GO:=jj hR
  have mS:=uG S
  have NB:=acJ l wd
  have htc:(eS l wd).length=(aI l wd).length:=by unfold eS;rw[ax]
  refine comp_map jC (by omega) (λ_ i y _=>y = .str ((eS l wd).getD i ⟨#[]⟩)) (λH2 s2=>aj.of (s2 _ _ hL)) (λ_ _ _ _ _ _ _ _ h=>h) ?_ ?_
  .intro D i x H2 Z jM hx s2 _ k1
   refine hide λG_ bt=>?_
   obtain⟨r,gj,p1,ys,rfl,_,hp,hc⟩:=Paired.get hR hx
   refine bt.k ?_
   have br:=kh S (bE gj)
   exact⟨_,rfl,_,rfl,a,p1,l,wd,r,ys,rfl,(s1.trans s2).tup hT,S,s2 _ _ hp,hc.mono s2,by omega,λc mc=>⟨(br.2.2 c mc).1,(br.2.2 c mc).2.1⟩,λH3 s3=>k1 _ _ s3 (by rw[cu (afB gj)])⟩
  .intro D zs H2 jM bA s2 pr
   have e:=mI pr
   rw[<-GO,<-htc,mJ (λx=>V.str x)] at e
   rw[e] at bA
   have sm:=s1.trans s2
   clear pr e hR hL jM
   refine⟨rfl,_,rfl,a,_,rfl,.inr (sm.tup hT),λlp lj=>⟨_,lp,l,rfl,rfl,.inl (aj.of ar),?_,_,_,rfl,rfl,_,rfl,?_⟩⟩
   .rw[IY S.len,qj]
    have h9:=S.nine
    have w9:=S.w9
    have:l.length*wd<=9*9:=wb h9 w9
    show _+_*0<=_
    omega
   .have ef:(!(Builtin.Str.occurrences (Str.join (Str.ofString "") l) (Str.ofString ".") 0 (Str.join (Str.ofString "") l).length 1).isEmpty)=ki l:=by
     rw[<-QS,uB,qj]
     exact Df _ 46
    rw[ef]
    have fN:=sm.trans (af.upd (o:=HO.lst (l.map V.str)) lj)
    have yU:=(af.upd (o:=HO.lst (l.map V.str)) lj) _ _ bA
    revert fN yU
    generalize upd H2 lp (.lst (l.map V.str))=H3
    intro fN yU
    cases m5:ki l with
    |true=>
     have e:ij (ks) l wd=false:=gR.mpr λe=>by rw[(OQ e).1] at m5;cases m5
     rw[e] at q
     exact bG (bG (q H3 fN))
    |false=>
     refine aT ?_
     refine⟨_,rfl,D,eS l wd,rfl,aj.of yU,kF (show(eS l wd).length+1<=1000 by omega) (by decide),λst T c cX hc=>⟨st,T,c,rfl,ar,_,rfl,D,_,rfl,.inl (aj.of ((af.upd cX) _ _ yU)),rfl,_,rfl,?_⟩⟩
     have dS:=fN.trans (af.upd (o:=HO.ext (uv P w st T c)) cX)
     have QU:=(af.upd (o:=HO.ext (uv P w st T c)) cX) _ _ yU
     rw[ax,yT]
     by_cases cZ:(eS l wd).Nodup
     .rw[aG (hc.mpr cZ)]
      refine aT ?_
      refine⟨_,rfl,D,rfl,⟨_,aj.of QU⟩,?_⟩
      refine comp_map jC (by rw[ax];omega) (λ_ i y _=>y = .bl (decide ((eS l wd).getD i ⟨#[]⟩∈ks))) (λH5 s5=>aj.of (s5 _ _ QU)) (λ_ _ _ _ _ _ _ _ h=>h) ?_ ?_
      .intro D2 i v H5 Z jM hv s5 _ k1
       rw[bu] at hv
       cases ex:(eS l wd)[i]? with
       |none=>rw[ex] at hv;cases hv
       |some x=>
        rw[ex] at hv
        cases hv
        refine⟨_,rfl,_,rfl,d,_,rfl,.inl (aj.of ((dS.trans s5) _ _ hd)),rfl,by rw[tE];exact jR.mpr λ_ _=>rfl,k1 _ _ (af.cQ _) ?_⟩
        rw[GR,cu ex]
        rfl
      .intro D2 bs H5 jM kf s5 oq
       have e2:=mI oq
       rw[ax,mJ (λx=>V.bl (decide (x∈ks)))] at e2
       have e3:bs=((eS l wd).map λx=>decide (x∈ks)).map V.bl:=by rw[e2,jV];rfl
       rw[e3] at kf
       refine⟨D2,_,rfl,aj.of kf,?_⟩
       have ea:(((eS l wd).map λx=>decide (x∈ks)).all id)=ij (ks) l wd:=by
        unfold ij
        rw[m5,aG cZ,tE]
        rfl
       rw[ea]
       exact q H5 (dS.trans s5)
     .rw[aH λz=>cZ (hc.mp z)]
      have e:ij (ks) l wd=false:=gR.mpr λe=>cZ (OQ e).2.1
      rw[e] at q
      exact bG (q _ dS)
def I0(K:PySem.W.Frag):Sp:=λvs H Q _=>∃(b a:Addr) (s l:List Str) (w:Nat),vs=[.ref b,.ref a]/\H b=some (.tup (s.map V.str))/\H a=some (.tup (l.map V.str))/\bj l w/\gM s l w/\∀H',af H H'->Q (.bl true) H'
theorem I8:bw ["_law_sheet_here","_law_given_here","_law_line","_law_other"] ["_law_sheet_here","_law_given_here"] (aW (top 69)):=⟨rfl,rfl,rfl,by decide +kernel,rfl,by decide +kernel,by decide +kernel⟩
theorem afD(B:Bl mg)(F:bq K "_law_agreeing" "_law_agreeing" (top 69) f fd):aS P w K mg base aY 1 f fd ["_law_sheet_here","_law_given_here"] (I0 K):=by
 refine F.ok I8 (λvs H Q E h=>?_) (λaL A outer s H vs Q E hr h=>?_)
 .refine hide λG_ aK=>?_
  obtain⟨b,a,s,l,w,rfl,_⟩:=h
  refine aK.k ?_
  rfl
 .refine hide λG_ aN=>?_
  obtain⟨b,a,t,l,wd,rfl,hb,ha,S,AG,q⟩:=h
  refine aN.k ?_
  have hu:=hr.units
  refine⟨_,(au (bJ (PW.pt (iV (fV (eU (bp pM (by rfl) B.mH lZ (ab (pv 0) (ab (pw (v := .ty "tuple") (by rfl) B.sf rM rfl) ah))))) (jZ (bT iY (bp d9 (by rfl) B.cf bZ (ab (pv 0) ah)) (bp d9 (by rfl) B.cf bZ (ab (pv 1) ah)) (cq _)))))
   (az (aX fJ))
   bR)
   (au (cM cL rfl (xp .T .T (by rfl) B.xO (ab (pv 0) (ab (pv 1) ah))) (j1 rfl (d7 (bK (i:=2) I8.nd rfl (Or.inr rfl)) (d7 (bK (i:=3) I8.nd rfl (Or.inr rfl)) j0)))
   (au (bJ (PW.pt (iV (fV (eU (bp pM (by rfl) B.mH lZ (ab (pv 2) (ab (pw (v := .ty "str") (by rfl) B.NR Mf rfl) ah))))) (jZ (bT iY (bp fY (by rfl) B.cf bZ (ab (pv 2) ah)) (bp fY (by rfl) B.cf bZ (ab (pv 3) ah)) (cq _)))))
    (az (aX fJ))
    bR)
    (az (bJ (bT (Md hu) (i0 (js:=[3,2]) (ns:=["_law_other","_law_line"]) (iW (by rfl) B.i8 (ab (bp fY (by rfl) B.cf bZ (ab (pv 2) ah)) ah)) rfl rfl rfl rfl (λ_ _ _ _=>(nM (PW.pt (tM (bT iY (aV gW (pv 1) (pv 0) (λ_ _=>rfl)) (aV gW (pv 2) (pv 0) (λ_ _=>rfl)) (cq _)) (tL (PW.pt (iV (bT iY (aV gW (pv 1) (pv 0) (λ_ _=>rfl)) eM (cq _)) (jZ (bT j3 (aV gW (pv 2) (pv 0) (λ_ _=>rfl)) eM (cq _)))))))))) (λ_ _ _ _=>(pv 0))) (fm ah) (cq _))
    (az (aX fJ))
    bR))))
   (az (aX fJ)))),?_⟩
  try dsimp only[bF]
  have hln:=AG.ln
  have k1:PySem.W.kitOne K (.type "tuple") (.type "tuple")=some true:=by kernel_rfl
  have k2:PySem.W.kitOne K (.type "str") (.type "str")=some true:=by kernel_rfl
  refine⟨_,rfl,_,_,_,true,⟨rfl,.tup hb,k1⟩,_,rfl,aT ⟨_,rfl,b,_,rfl,.inr (aq.of hb),_,rfl,a,_,rfl,.inr (aq.of ha),rfl,_,rfl,?_⟩⟩
  rw[ax,ax,yT,aG hln]
  refine aT ⟨_,rfl,_,rfl,_,_,rfl,⟨_,b,rfl,aq.of hb⟩,⟨_,a,rfl,aq.of ha⟩,?_⟩
  refine xq (K:=K) (k1 := .T) (k2 := .T) (xs:=t.map V.str) (ys:=l.map V.str) (λi σ H2=>∃(v2 v3:Option V),σ=[some (.ref b),some (.ref a),v2,v3]/\af H H2) ⟨none,none,rfl,af.cQ _⟩ ?_ ?_ ?_
  .rintro i σ H2 _ ⟨v2,v3,rfl,s2⟩
   exact⟨⟨_,rfl,aq.of (s2 _ _ hb)⟩,_,rfl,aq.of (s2 _ _ ha)⟩
  .intro i x y pt σ H2 hx hy afE hpt
   refine hide λG_ bt=>?_
   obtain⟨v2,v3,rfl,s2⟩:=afE
   rw[bu] at hx hy
   obtain⟨sx,hsx,rfl⟩:=jl.mp hx
   obtain⟨lx,hlx,rfl⟩:=jl.mp hy
   refine bt.k ?_
   have OJ:i<l.length:=(cn.mp hlx).1
   have w9:=S.w9
   have lsx:=AG.sh.len sx (bE hsx)
   have llx:=S.len lx (bE hlx)
   refine⟨pt,_,rfl,aq.of ar,rfl,_,_,rfl,_,_,rfl,rfl,?_⟩
   have s3:af H (upd H2 pt (.tup [.str sx,.str lx])):=s2.trans (af.upd hpt)
   generalize upd H2 pt (.tup [.str sx,.str lx])=H3 at s3
   refine⟨_,rfl,_,_,_,true,⟨rfl,.str sx,k2⟩,_,rfl,aT ⟨_,rfl,sx,rfl,dX (by omega),_,rfl,lx,rfl,dX (by omega),rfl,_,rfl,?_⟩⟩
   rw[yT,aG (by omega)]
   refine aT ⟨_,rfl,sx,rfl,dX (by omega),_,rfl,by omega,by omega,?_⟩
   rw[dY]
   refine ma Mi (by rw[ax,kG];omega) (λ_=>false) (λ_ i y _=>y = .int (0+(i:Int))) (λ_ _=>trivial) (λ_ _ _ _ _ _ _ _ h=>h) ?_ ?_
   .intro D2 j v H6 Z0 Z jM hv s6 _ k0 k1
    obtain⟨hj,rfl⟩:=ON hv
    have hgs:sx.cps.toList[j]? = some (sx.cps.toList.getD j 0):=by
     rw[bQ,bg (by rw[cC];omega)]
     rfl
    have yr:lx.cps.toList[j]? = some (lx.cps.toList.getD j 0):=by
     rw[bQ,bg (by rw[cC];omega)]
     rfl
    have e1:sg t (i,j)=sx.cps.toList.getD j 0:=by unfold sg;rw[cu hsx]
    have e2:sg l (i,j)=lx.cps.toList.getD j 0:=by unfold sg;rw[cu hlx]
    have cl:=AG.cl (i,j) OJ (by show j<wd;omega)
    rw[e1,e2] at cl
    have a1:iA sx.cps.toList (0+(j:Int))=some (sx.cps.toList.getD j 0):=by rw[CZ];exact dH hgs
    have a2:iA lx.cps.toList (0+(j:Int))=some (lx.cps.toList.getD j 0):=by rw[CZ];exact dH yr
    generalize sx.cps.toList.getD j 0=gs at a1 cl
    generalize lx.cps.toList.getD j 0=gl at a2 cl
    refine⟨_,rfl,_,rfl,lx,_,gl,rfl,rfl,dX (by omega),a2,_,rfl,_,rfl,sx,_,gs,rfl,rfl,dX (by omega),a1,rfl,_,rfl,?_⟩
    rw[sr]
    by_cases e:gl=gs
    .rw[aG e]
     exact aT (aT (k0 _ (af.cQ _) rfl))
    .rw[aH e]
     have dr:gl=46:=Ks λz=>e (cl.1 z).symm
     have mP:¬gs=35:=cl.2 dr
     refine bG ⟨_,rfl,_,rfl,lx,_,gl,rfl,rfl,dX (by omega),a2,rfl,_,rfl,?_⟩
     rw[uB,sr,aG dr]
     refine aT ⟨_,rfl,_,rfl,sx,_,gs,rfl,rfl,dX (by omega),a1,rfl,_,rfl,?_⟩
     rw[qc,sr,aH mP]
     exact aT (k0 _ (af.cQ _) rfl)
   .intro D2 ys H6 jM kf s6 oq
    have e2:=mI oq
    rw[UX.mpr (λ_ _=>cj)] at e2
    rw[e2] at kf
    refine⟨bC _,λen yl=>?_⟩
    have sE:=s6.trans (af.upd (o:=HO.lst []) yl)
    refine⟨.lst (([]:List Nat).map λ(i:Nat)=>D.int (0+(i:Int))),.lst [],⟨D2,_,rfl,aj.of ((af.upd yl) _ _ kf),GS _ _ _⟩,⟨en,_,rfl,aj.of ar,rfl⟩,.inr ⟨_,_,rfl,rfl⟩,OL _,_,rfl,?_⟩
    rw[OM,aG rfl]
    exact aT ⟨_,_,rfl,s3.trans sE⟩
  .rintro σ H2 ⟨v2,v3,rfl,s2⟩
   exact q H2 s2
end
theorem yV(K:PySem.W.Frag)(H:Hp):∀ss:List Str,dO K H (ss.map D.str) (ss.map V.str)
 |[]=>rfl
 |x::r=>⟨.str x,r.map V.str,rfl,rfl,yV K H r⟩
theorem I9:∀ss:List Str,fA (ss.map D.str)=0
 |[]=>rfl
 |x::r=>by
  rw[bX,fA,I9 r]
  rfl
def vJ(dj:List (List Str)):List D:=dj.map λs=>D.tup (s.map D.str)
theorem QV(K:PySem.W.Frag)(H:Hp):∀{ts:List Addr}{dj:List (List Str)},lG H ts dj->dO K H (vJ dj) (ts.map V.ref)
 |_,_,.nil=>rfl
 |_,_,.cons h t=>⟨_,_,rfl,⟨_,_,rfl,aq.of h,yV K H _⟩,QV K H t⟩
theorem QW:∀dj:List (List Str),fA (vJ dj)<=50
 |[]=>bC _
 |s::r=>by
  unfold vJ
  rw[bX,fA]
  have:=QW r
  unfold vJ at this
  have e:dep (D.tup (s.map D.str))=1:=by rw[dep,I9]
  omega
section
variable{P:Program}{w:World}{K:PySem.W.Frag}{mg:Str->Option Value}{base:Heap}{f:Addr}{fd:FuncData}
structure afF(K:PySem.W.Frag)(H:Hp)(CW CC:Addr)(n:Nat)(ww g a fo:Addr)(v:V)(ws m:List Str)(w:Nat)(R:List (List C2))(zs:List V)(ts:List Addr)(told:List (List Str)):Prop where
 e1:mZ (λ_=>True) H CW CC R ws told n v m
 e2:H ww=some (.lst (ws.map V.str))
 e3:ws.length<64
 e4:∀x∈ws,dJ x=true
 e5:aq K H a (m.map V.str)
 e6:di m w R
 e7:H g=some (.lst zs)
 e8:gi g H R zs
 e9:H fo=some (.lst (ts.map V.ref))
 ea:lG H ts told
 eb:told.length<=1000
def yW(K:PySem.W.Frag)(CW CC:Addr)(n:Nat):Sp:=λvs H Q _=>∃(ww g a fo:Addr) (v:V) (ws m:List Str) (w:Nat) (R:List (List C2)) (zs:List V) (ts:List Addr) (told:List (List Str)),vs=[v,.ref ww,.ref g,.ref a,.ref fo]/\afF K H CW CC n ww g a fo v ws m w R zs ts told/\
 ∀H',af H H'->Q (.bl true) H'
theorem Ce:bw ["_law_paper","_law_words_here","_law_rows_here","_law_sheet_here","_law_told","_law_word","_law_other"] ["_law_paper","_law_words_here","_law_rows_here","_law_sheet_here","_law_told"] (aW (top 68)):=⟨rfl,rfl,rfl,by decide +kernel,rfl,by decide +kernel,by decide +kernel⟩
theorem afG{CW CC:Addr}(n:Nat)(B:Bl mg)(F:bq K "_law_walked" "_law_walked" (top 68) f fd)(vK:Cn mg "Whole" (.ref CW))(vL:Cn mg "Cases" (.ref CC))(IW:pV K CW)(IC:pV K CC)(vM:PySem.W.kitOne K (.ref CC) (.ref CW)=some false)(T:cH K CC)(np:cz K CC "place")(nq:cz K CC "parts")(Ja:Fn P w K mg base "_law_walked" (n+3) (yW K CW CC n))(Cf:Fn P w K mg base "_law_left" 2 (Bk K))(Cg:Fn P w K mg base "_law_put" 2 (Bh K)) :
  aS P w K mg base aY (n+4) f fd ["_law_paper","_law_words_here","_law_rows_here","_law_sheet_here","_law_told"] (yW K CW CC (n+1)):=by
 refine F.ok Ce (λvs H Q E h=>?_) (λaL A outer s H vs Q E hr h=>?_)
 .refine hide λG_ aK=>?_
  obtain⟨ww,g,a,fo,v,ws,m,w,R,zs,ts,told,rfl,_⟩:=h
  refine aK.k ?_
  rfl
 .refine hide λG_ aN=>?_
  obtain⟨ww,g,a,fo,v,ws,m,wd,R,zs,ts,told,rfl,⟨hC,hW,eO,il,hT,FM,hG,hR,cF,hF,afH⟩,q⟩:=h
  refine aN.k ?_
  have hu:=hr.units
  refine⟨_,(au (bJ (eU (bp M9 (by rfl) B.mH lZ (ab (pv 0) (ab (kW vK (by rfl)) ah))))
   (az (aX (KU (pG Ld eM (fq De Ky Kz Al eM (ab (iz rp (by rfl) B.oa nP (ab (pv 3) ah)) ah)) rfl) (KS (pG (ZX hu) (pv 3) (pv 4) rfl)))))
   bR)
   (au (bJ (PW.pt (iV (fV (eU (bp M9 (by rfl) B.mH lZ (ab (pv 0) (ab (kW vL (by rfl)) ah))))) (iV (eU (bp pM (by rfl) B.mH lZ (ab (cK (pv 0) rfl) (ab (pw (v := .ty "bool") (by rfl) B.aaH Xz rfl) ah)))) (jZ (fV (eU (bp pM (by rfl) B.mH lZ (ab (cK (pv 0) rfl) (ab (pw (v := .ty "int") (by rfl) B.aaI Xy rfl) ah)))))))))
   (az (aX fJ))
   bR)
   (au (bJ (PW.pt (iV (fV (wD rf lS aE (cK (pv 0) rfl) (bp d9 (by rfl) B.cf bZ (ab (pv 2) ah)))) (jZ (fV (eU (bp pM (by rfl) B.mH lZ (ab (cK (pv 0) rfl) (ab (pw (v := .ty "list") (by rfl) B.oa nP rfl) ah))))))))
   (az (aX fJ))
   bR)
   (au (bJ (bT (Md hu) (bp Ey (by rfl) B.xM w6 (ab (i0 (js:=[]) (ns:=[]) (dQ (cK (pv 0) rfl)) rfl rfl rfl rfl (λ_ _ _ _=>jB) (λ_ _ _ _=>(An (K:=K) (rr:=wI) rfl bU (pv 0) aE (λ_ _=>rfl)))) ah)) (ba Cf (hr.mono (by omega)) (by rfl) (ab (pv 1) (ab (pv 2) (ab (pv 3) (ab (cK (pv 0) rfl) ah))))) (cq _))
   (az (aX fJ))
   bR)
   (au (cM cL rfl (dQ (cK (pv 0) rfl)) (j1 rfl (d7 (bK (i:=5) Ce.nd rfl (Or.inl rfl)) (d7 (bK (i:=6) Ce.nd rfl (Or.inl rfl)) j0)))
   (az (bJ (fV (eU (ba Ja (hr.mono (by omega)) (by rfl) (ab (pv 6) (ab (pv 1) (ab (pv 2) (ab (ba Cg (hr.mono (by omega)) (by rfl) (ab (pv 3) (ab (aV gC (pv 2) (cK (pv 0) rfl) (λ_ _=>rfl)) (ab (pv 5) ah)))) (ab (pv 4) ah))))))))
    (az (aX fJ))
    bR)))
   (az (aX fJ))))))),?_⟩
  try dsimp only[bF]
  have k3:PySem.W.kitOne K (.type "int") (.type "bool")=some false:=by kernel_rfl
  have k4:PySem.W.kitOne K (.type "int") (.type "int")=some true:=by kernel_rfl
  have k5:PySem.W.kitOne K (.type "list") (.type "list")=some true:=by kernel_rfl
  have QX:∀C:Addr,PySem.W.kitOne K (.ref C) (.ref C)=some true:=λC=>by unfold PySem.W.kitOne;rw[aA (by simp)]
  rcases hC with ⟨p,dx,rfl,hp,m5,hmt⟩ | ⟨p,dx,qa,pl,xs,vs,rfl,hp,_,fM,hpl,yN,gh,oN⟩
  .refine⟨_,rfl,_,CW,_,true,⟨rfl,IW.ty hp,QX CW⟩,_,rfl,bG ?_⟩
   have S:=FM.sh
   refine⟨rfl,_,rfl,a,_,rfl,.inr hT,λlp lj=>⟨_,lp,m,rfl,rfl,.inl (aj.of ar),?_,_,_,rfl,rfl,_,rfl,?_⟩⟩
   .rw[IY S.len,qj]
    have h9:=S.nine
    have w9:=S.w9
    have:m.length*wd<=9*9:=wb h9 w9
    show _+_*0<=_
    omega
   .have ef:(!(Builtin.Str.occurrences (Str.join (Str.ofString "") m) (Str.ofString ".") 0 (Str.join (Str.ofString "") m).length 1).isEmpty)=ki m:=by
     rw[<-QS,uB,qj]
     exact Df _ 46
    rw[ef,m5]
    have s1:af H (upd H lp (.lst (m.map V.str))):=af.upd lj
    refine bG ⟨_,rfl,_,rfl,fo,_,vJ told,.tup (m.map D.str),rfl,aj.of (s1 _ _ cF),QV K _ (hF.keep λb o _ _ e=>s1 _ _ e),⟨a,_,rfl,s1.tup hT,yV K _ _⟩,QW _,?_⟩
    have e1:((vJ told).any λd=>eX d (.tup (m.map D.str)))=true:=zj.mpr ⟨D.tup (m.map D.str),bP.mpr ⟨m,hmt,rfl⟩,wZ _⟩
    rw[aw cj,e1]
    exact q _ s1
  .refine⟨_,rfl,_,CW,_,false,⟨rfl,IC.ty hp,vM⟩,_,rfl,aT ?_⟩
   refine⟨_,rfl,_,CC,_,true,⟨rfl,IC.ty hp,QX CC⟩,_,rfl,aT ?_⟩
   refine⟨_,rfl,p,CC,dx,_,_,rfl,hp,T,np,yK ..,_,_,_,false,⟨rfl,.int _,k3⟩,_,rfl,aT ?_⟩
   refine⟨_,rfl,p,CC,dx,_,_,rfl,hp,T,np,yK ..,_,_,_,true,⟨rfl,.int _,k4⟩,_,rfl,aT ?_⟩
   have pP:=jj hR
   rw[gi] at hR
   refine hide λG_ bt=>?_
   obtain⟨zv,QY⟩:∃zv,zs[pl]? = some zv:=⟨_,bg (by omega)⟩
   obtain⟨r0,hr0,QZ,sN,rfl,_,afI,mR⟩:=Paired.get hR QY
   refine bt.k ?_
   have Q0:ao R pl=r0:=cu hr0
   have yp:=jj oN
   refine⟨_,rfl,p,CC,dx,_,_,rfl,hp,T,np,yK ..,?_⟩
   refine⟨_,_,rfl,rfl,_,rfl,?_⟩
   rw[aG (by omega)]
   refine bG ⟨_,rfl,g,_,rfl,.inl (aj.of hG),_,_,rfl,rfl,_,rfl,?_⟩
   rw[aG (by omega)]
   refine aT ⟨_,rfl,p,CC,dx,_,_,rfl,hp,T,nq,Ii ..,_,_,_,true,⟨rfl,.lst fM,k5⟩,_,rfl,aT ?_⟩
   refine⟨_,rfl,p,CC,dx,_,_,rfl,hp,T,nq,Ii ..,qa,rfl,⟨_,aj.of fM⟩,?_⟩
   refine comp_map jC (by omega) (λ_ i y _=>y = .str (xs.getD i ⟨#[]⟩)) (λH3 s3=>aj.of (s3 _ _ fM)) (λ_ _ _ _ _ _ _ _ h=>h) ?_ ?_
   .intro D i y H3 Z hD hy s3 _ k1
    refine hide λG_ cD=>?_
    obtain⟨x,hx,t,u,rfl,ht,_⟩:=Paired.get oN hy
    refine cD.k ?_
    exact⟨_,rfl,t,_,0,.str x,rfl,rfl,aq.of (s3 _ _ ht),rfl,k1 _ _ (af.cQ _) (by rw[cu hx])⟩
   .intro Dq ys H2 hD bA s2 pr
    have e:=mI pr
    rw[<-yp,mJ (λx=>V.str x)] at e
    rw[e] at bA
    clear e pr
    refine⟨Dq,xs,rfl,aj.of bA,gh,λso hso=>?_⟩
    have s3:af H (upd H2 so (.lst ((cx xs).map V.str))):=s2.trans (af.upd hso)
    have Q1:upd H2 so (.lst ((cx xs).map V.str)) so=some (.lst ((cx xs).map V.str)):=ar
    generalize upd H2 so (.lst ((cx xs).map V.str))=H3 at s3 Q1
    refine⟨_,rfl,_,rfl,_,rfl,_,rfl,p,CC,dx,_,_,rfl,s3 _ _ hp,T,np,yK ..,?_⟩
    refine⟨ww,g,a,ws,m,wd,pl,zs,rfl,s3 _ _ hW,eO,il,s3.tup hT,FM.sh,s3 _ _ hG,by rw[FM.eq];exact gi.mono s3 hR,by rw[FM.eq];exact hpl,λt H4 ht s4 Q2=>?_⟩
    rw[FM.eq] at Q2
    have yS:=s3.trans s4
    refine⟨.lst ((cx xs).map D.str),.lst ((oC m R pl ws).map D.str),⟨so,_,rfl,aj.of (s4 _ _ Q1),yV _ _ _⟩,⟨t,_,rfl,aj.of Q2,yV _ _ _⟩,.inr ⟨_,_,rfl,rfl⟩,by rw[dep,I9];decide,_,rfl,?_⟩
    rw[yN,wZ]
    refine aT ⟨_,rfl,p,CC,dx,_,_,rfl,yS _ _ hp,T,nq,Ii ..,qa,rfl,⟨_,aj.of (yS _ _ fM)⟩,?_⟩
    refine j2 (K:=K) (xs:=vs) (λi σ H5=>∃(v5 v6:Option V),σ=[some (.ref p),some (.ref ww),some (.ref g),some (.ref a),some (.ref fo),v5,v6]/\af H H5) ⟨none,none,rfl,yS⟩ ?_ ?_ ?_
    .rintro i σ H5 _ ⟨v5,v6,rfl,s5⟩
     exact aj.of (s5 _ _ fM)
    .intro i y σ H5 hy afJ
     refine hide λG_ cJ=>?_
     obtain⟨v5,v6,rfl,s5⟩:=afJ
     obtain⟨x,hx,t,u,rfl,ht,dR,eW⟩:=Paired.get oN hy
     refine cJ.k ?_
     have iM:x∈ws:=by
      have h1:x∈cx xs:=(ka xs).mem_iff.mpr (bE hx)
      rw[yN] at h1
      unfold oC at h1
      have h2:=(ka _).mem_iff.mp (cR.mp h1).1
      exact(cR.mp h2).1
     have sW:=Ij (il x iM)
     have afK:x.length=(ao R pl).length:=by rw[(kl.mp dR).1,ie]
     refine⟨t,_,rfl,aq.of (s5 _ _ ht),rfl,_,_,rfl,_,_,rfl,rfl,?_⟩
     refine⟨_,rfl,_,rfl,_,rfl,_,rfl,_,rfl,_,rfl,p,CC,dx,_,_,rfl,s5 _ _ hp,T,np,yK ..,g,_,_,.ref QZ,rfl,rfl,aj.of (s5 _ _ hG),dH QY,_,rfl,?_⟩
     refine⟨a,QZ,m,wd,r0,sN,x,rfl,s5.tup hT,FM.sh.eI,s5 _ _ afI,mR.mono s5,by rw[<-Q0];exact FM.jO pl,λa2 H6 s6 AA=>?_⟩
     rw[<-Q0] at AA
     have sX:=s5.trans s6
     refine⟨_,rfl,ww,g,a2,fo,u,ws,putL m (ao R pl) x.cps.toList,wd,R,zs,ts,told,rfl,⟨eW.mono (Kp.of sX) (λ_ _ _ _=>trivial) (λ_ z=>z),sX _ _ hW,eO,il,AA,FM.put pl sW afK,sX _ _ hG,gi.mono sX hR,sX _ _ cF,hF.keep (λb o _ _ e=>sX _ _ e),afH⟩,λH7 s7=>⟨_,rfl,aT ⟨_,_,rfl,sX.trans s7⟩⟩⟩
    .rintro σ H5 ⟨v5,v6,rfl,s5⟩
     exact q H5 s5
theorem Q3{CW CC:Addr}(B:Bl mg)(F:bq K "_law_walked" "_law_walked" (top 68) f fd)(hm:mg "_law_walked"=some (.ref f))(hk:PySem.W.keepIn K (.ref f)=true)(hb:Binds K fd ["_law_paper","_law_words_here","_law_rows_here","_law_sheet_here","_law_told"] [])(vK:Cn mg "Whole" (.ref CW))(vL:Cn mg "Cases" (.ref CC))(IW:pV K CW)(IC:pV K CC)(vM:PySem.W.kitOne K (.ref CC) (.ref CW)=some false)(T:cH K CC)(np:cz K CC "place")(nq:cz K CC "parts")(Cf:Fn P w K mg base "_law_left" 2 (Bk K))(Cg:Fn P w K mg base "_law_put" 2 (Bh K)) :
  ∀n:Nat,aS P w K mg base aY (n+3) f fd ["_law_paper","_law_words_here","_law_rows_here","_law_sheet_here","_law_told"] (yW K CW CC n)
 |0=>F.ok Ce (λvs H Q E h=>by obtain⟨ww,g,a,fo,v,ws,m,w,R,zs,ts,told,rfl,hC,_⟩:=h;exact hC.e1.elim) (λaL A outer s H vs Q E hr h=>by obtain⟨ww,g,a,fo,v,ws,m,w,R,zs,ts,told,rfl,hC,_⟩:=h;exact hC.e1.elim)
 |n+1=>afG n B F vK vL IW IC vM T np nq ⟨f,fd,_,Q3 B F hm hk hb vK vL IW IC vM T np nq Cf Cg n,hm,hk,hb⟩ Cf Cg
end
theorem Q4{m g:List Str}{w:Nat}(G:qk m g w):fQ m g w:=by
 refine⟨G.ln,λc h1 h2=>?_⟩
 unfold cb
 rcases G.cl c h1 h2 with z | ⟨z1,z2⟩
 .rw[z]
 .rw[z2,aH z1]
  rfl
theorem fQ.put{m g:List Str}{w:Nat}{c:C2}{ch:Nat}(O:fQ m g w)(S:bj g w)(h1:c.1<m.length)(h2:c.2<w)(ho:cb m c=true)(hc:ch≠35):fQ m (setC g c ch) w:=by
 have fZ:c.1<g.length:=by rw[O.ln];exact h1
 refine⟨by rw[dC,O.ln],λd d1 d2=>?_⟩
 by_cases e:d=c
 .rw[e,ho]
  unfold cb
  rw[S.eI.jK fZ h2 fZ h2,aA rfl,aH hc]
  rfl
 .rw[<-O.op d d1 d2]
  unfold cb
  rw[S.eI.jK fZ h2 (by rw[O.ln];exact d1) d2,aw e]
section
variable{P:Program}{w:World}{K:PySem.W.Frag}{mg:Str->Option Value}{base:Heap}{f:Addr}{fd:FuncData}
def Jb(K:PySem.W.Frag):Sp:=λvs H Q _=>∃(a b:Addr) (ns:List Int) (m:List Str) (w:Nat),vs=[.ref a,.ref b]/\aj K H a (ns.map V.int)/\H b=some (.tup (m.map V.str))/\bj m w/\aI m w≠[]/\
 ∀p g H',af H H'->H' p=some (.tup (g.map V.str))->bj g w->fQ m g w->Q (.ref p) H'
theorem yX:bw ["_law_script","_law_filled_here","_law_sheet_here","_law_cell","_law_cells"] ["_law_script","_law_filled_here"] (aW (top 70)):=⟨rfl,rfl,rfl,by decide +kernel,rfl,by decide +kernel,by decide +kernel⟩
theorem afL(B:Bl mg)(F:bq K "_law_sheet" "_law_sheet" (top 70) f fd)(mN:Fn P w K mg base "_law_cell_at" 1 (uA K))(afM:Fn P w K mg base "_law_given" 2 (GH K))(oB:Fn P w K mg base "_law_rows" 3 (sF K))(mO:Fn P w K mg base "_law_with" 1 (mK K))(yd:Fn P w K mg base "_law_letter" 2 (x9 K)):aS P w K mg base aY 4 f fd ["_law_script","_law_filled_here"] (Jb K):=by
 refine F.ok yX (λvs H Q E h=>?_) (λaL A outer s H vs Q E hr h=>?_)
 .refine hide λG_ aK=>?_
  obtain⟨a,b,ns,m,w,rfl,_⟩:=h
  refine aK.k ?_
  rfl
 .refine hide λG_ aN=>?_
  obtain⟨a,b,ns,m,wd,rfl,hA,hT,S,dI,q⟩:=h
  refine aN.k ?_
  refine⟨_,(au (aO (i:=2) yX.nd rfl (Or.inl rfl) (ba afM (hr.mono (by decide)) (by rfl) (ab (pv 1) (ab (ba mN (hr.mono (by decide)) (by rfl) (ab (pv 0) (ab aE ah))) ah))))
   (au (aO (i:=3) yX.nd rfl (Or.inl rfl) (ba mN (hr.mono (by decide)) (by rfl) (ab (pv 0) (ab aE ah))))
   (au (aO (i:=4) yX.nd rfl (Or.inl rfl) (aV gC (ba oB (hr.mono (by decide)) (by rfl) (ab (pv 1) ah)) aE (λ_ _=>rfl)))
   (au (pN (bJ (bT j3 (aR fh (pv 3) aE) aE (cq _))
   (az (aO (i:=2) yX.nd rfl (Or.inl rfl) (ba mO (hr.mono (by decide)) (by rfl) (ab (pv 2) (ab (aV gC (pv 4) (aR fh (aR iX (pv 3) aE) (bp d9 (by rfl) B.cf bZ (ab (pv 4) ah))) (λ_ _=>rfl)) (ab (ba yd (hr.mono (by decide)) (by rfl) (ab (pv 0) (ab (aR iX (pv 3) aE) ah))) ah))))))
   bR))
   (az (aX (pv 2))))))),?_⟩
  try dsimp only[bF]
  refine⟨_,rfl,_,rfl,a,ns,5,rfl,hA,b,m,wd,_,rfl,hT,S,λp g H1 s1 hp GP=>?_⟩
  refine⟨_,rfl,a,ns,6,rfl,s1.seq hA,?_⟩
  generalize cellAt ns 6=c6
  refine⟨_,rfl,b,m,wd,rfl,aq.of (s1 _ _ hT),S,λrg xs H2 hrg s2 Jc hR=>?_⟩
  refine hide λG_ bt=>?_
  obtain⟨r0,hr0⟩:∃r0,(aI m wd)[0]? = some r0:=by
   cases e:aI m wd with
   |nil=>exact absurd e dI
   |cons r t=>exact⟨r,rfl⟩
  obtain⟨v0,Bm,p0,sN,rfl,_,fc,mR⟩:=Paired.getL hR hr0
  refine bt.k ?_
  have br:=kh S (bE hr0)
  have wY:=mR.length
  have lF:=s1.trans s2
  refine⟨rg,_,_,.ref p0,rfl,rfl,aj.of Jc,(show iA xs ((0:Nat):Int)=_ from dH Bm),?_⟩
  refine⟨λσ H3=>∃p' g',σ=[some (.ref a),some (.ref b),some (.ref p'),some (.int c6),some (.ref p0)]/\af H H3/\H3 p'=some (.tup (g'.map V.str))/\bj g' wd/\fQ m g' wd,?_,?_⟩
  .intro σ H3 afN
   refine hide λG_ cD=>?_
   obtain⟨p',g',rfl,s3,eN,S',O'⟩:=afN
   refine cD.k ?_
   exact⟨_,rfl,q p' g' H3 s3 eN S' O'⟩
  .refine⟨_,rfl,_,_,rfl,rfl,(by show(0:Int)<8;decide),rfl,_,rfl,fw (λ_=>?_) (λ_=>⟨p,g,rfl,lF,s2 _ _ hp,GP.sh,Q4 GP⟩)⟩
   have Jd:(0:Int)<(sN.length:Int):=by omega
   have z0:=nt (c6 / 8) (Int.ne_of_gt Jd)
   have z1:=qO (c6 / 8) Jd
   refine hide λG_ cJ=>?_
   obtain⟨k,hk⟩:=qP z0
   have i4:k<sN.length:=by omega
   obtain⟨y,hy⟩:∃y,sN[k]? = some y:=⟨_,bg i4⟩
   obtain⟨cc,hcc,u,rfl,hu⟩:=Paired.get mR hy
   refine cJ.k ?_
   have dG:=br.2.2 cc (bE hcc)
   refine⟨_,rfl,_,rfl,_,rfl,_,_,rfl,rfl,⟨by decide,by decide⟩,_,rfl,p0,_,rfl,.inl (aj.of fc),_,_,rfl,rfl,Jd,p0,_,_,.ref u,rfl,rfl,aj.of fc,by rw[hk];exact dH hy,?_⟩
   refine⟨_,rfl,_,rfl,_,_,rfl,rfl,⟨by decide,by decide⟩,a,ns,_,rfl,lF.seq hA,λch c1 c2=>?_⟩
   refine⟨p,u,g,wd,cc,ch,rfl,aq.of (s2 _ _ hp),GP.sh.eI,aq.of hu,by rw[GP.ln];exact dG.1,dG.2.1,λt H4 _ s4 ht=>?_⟩
   exact⟨t,_,rfl,lF.trans s4,ht,xI GP.sh (by rw[GP.ln];exact dG.1) dG.2.1 (.inr (.inr ⟨c1,c2⟩)),(Q4 GP).put GP.sh dG.1 dG.2.1 dG.2.2 (by omega)⟩
end
theorem afO{H H':Hp}{a d:Addr}{xs:List V}{kv:List (Key×V)}(hd:H d=some (.dK kv))(off:∀b o,b≠d->H b=some o->H' b=some o)(h:H a=some (.tup xs)):H' a=some (.tup xs):=off _ _ (bY h hd (by intro z;cases z)) h
theorem afP{K:PySem.W.Frag}{H H':Hp}{a d:Addr}{xs:List V}{kv:List (Key×V)}(hd:H d=some (.dK kv))(off:∀b o,b≠d->H b=some o->H' b=some o)(h:aj K H a xs):aj K H' a xs:=by
 rcases h with (h | ⟨o,h⟩) | h
 .exact .inl (.inl (off _ _ (bY h hd (by intro z;cases z)) h))
 .exact .inl (.inr ⟨o,off _ _ (bY h hd (by intro z;cases z)) h⟩)
 .exact .inr h
theorem afQ{l m:List Str}{w:Nat}(F:ic l m w (l.length*w))(hw:0<w):fQ l m w:=by
 refine⟨F.ln,λc h1 h2=>?_⟩
 have g:=F.cl c h1 h2
 unfold cb
 by_cases z:sg l c=35
 .rw[aG z,aG (g.1 z)]
 .have h:=g.2 z
  have aJ:c.1*w+c.2<l.length*w:=by
   have:=C8 w (Nat.succ_le_of_lt h1)
   rw[iP] at this
   omega
  rw[aA aJ] at h
  rw[aH z,aH (by omega)]
theorem afR{kvs:List (Key×V)}{x:Str}(h:uP kvs)(n:Int)(e:aQ kvs (Sum.inr x:Key)=none):uP (putK kvs (Sum.inr x) (.int n)):=by
 rw[tZ _ e]
 intro q mq
 rcases du.mp mq with z | z
 .exact h q z
 .rw[cI.mp z]
  exact⟨n,rfl⟩
theorem Je(s:List Str):(s.map λx=>(Sum.inr x:Key)).map kV=s.map V.str:=by
 rw[jV]
 rfl
structure LJ(CW CC:Addr)(H7 H8:Hp)(ws g:List Str)(wd most:Nat)(t fo:Addr)(v:V)(ts:List Addr)(new:List (List Str)):Prop where
 e1:most<=4
 e2:af H7 H8
 e3:H8 t=some (.tup [.ref fo,v])
 e4:H8 fo=some (.lst (ts.map V.ref))
 e5:lG H8 ts new
 e6:new.Nodup
 e7:∀s∈new,gM s g wd/\ij ws s wd=true
 e8:(v = .aD/\new.length=most)\/(v ≠ .aD/\new.length<most/\mZ (λ_=>True) H8 CW CC (aI g wd) ws new 17 v g)
def Ci(K:PySem.W.Frag):Sp:=λvs H Q _=>∃(a:Addr) (ns:List Int),vs=[.ref a]/\aj K H a (ns.map V.int)/\ns.length<=63/\∀H',Q (.bl true) H'
section
variable{P:Program}{w:World}{K:PySem.W.Frag}{mg:Str->Option Value}{base:Heap}{f:Addr}{fd:FuncData}
theorem lH:bw ["_law_script","_law_filled_here","_law_words_here","_law_sheet_here","_law_book","_law_word","_law_most","_law_found","_law_other"] ["_law_script"] (aW (top 71)):=⟨rfl,rfl,rfl,by decide +kernel,rfl,by decide +kernel,by decide +kernel⟩
theorem afS{C CW CC:Addr}(B:Bl mg)(F:bq K "law" "law" (top 71) f fd)(mN:Fn P w K mg base "_law_cell_at" 1 (uA K))(afT:Fn P w K mg base "_law_floor" 5 (G2 K))(afU:Fn P w K mg base "_law_filled" 3 (GG K))(afV:Fn P w K mg base "_law_words" 4 (GK K))(afW:Fn P w K mg base "_law_sheet" 4 (Jb K))(oB:Fn P w K mg base "_law_rows" 3 (sF K))
  (Jf:Nw P w K mg base "Book" C 1 (Gf C)) (Jg:Mt P w K mg base C "put" 4 (Ba C) [.int 0]) (afX:Fn P w K mg base "fillings" 22 (yR K C CW CC)) (afY:EM P w K mg base "fillings" 22 (yR K C CW CC) [.int 2]) (afZ:Fn P w K mg base "_law_agreeing" 1 (I0 K)) (af0:Fn P w K mg base "_law_is_filling" 4 (IZ K)) (Ja:Fn P w K mg base "_law_walked" 20 (yW K CW CC 17)):aS P w K mg base aY 23 f fd ["_law_script"] (Ci K):=by
 refine F.ok lH (λvs H Q E h=>?_) (λaL A outer s H vs Q E hr h=>?_)
 .obtain⟨a,ns,rfl,_⟩:=h
  rfl
 .refine hide λG_ aK=>?_
  obtain⟨a,ns,rfl,hS,hlen,q⟩:=h
  refine aK.k ?_
  have hu:=hr.units
  have dP:=kT hr
  have Hs:(A.deeper (PyProof.Rows.envOfC "law" (aW (top 71)) s.heap.objs.size f aL)).units+4<cLine:=by have:=hr.un;omega
  refine⟨_,(au (aO (i:=1) lH.nd rfl (Or.inl rfl) (ba afU (hr.mono (by decide)) (by rfl) (ab (pv 0) (ab (ba afT (hr.mono (by decide)) (by rfl) (ab (ba mN (hr.mono (by decide)) (by rfl) (ab (pv 0) (ab aE ah))) ah)) (ab (ba mN (hr.mono (by decide)) (by rfl) (ab (pv 0) (ab aE ah))) ah)))))
   (au (aO (i:=2) lH.nd rfl (Or.inl rfl) (ba afV (hr.mono (by decide)) (by rfl) (ab (pv 0) (ab (pv 1) (ab aE ah)))))
   (au (aO (i:=3) lH.nd rfl (Or.inl rfl) (ba afW (hr.mono (by decide)) (by rfl) (ab (pv 0) (ab (pv 1) ah))))
   (au (aO (i:=4) lH.nd rfl (Or.inl rfl) (Yc Jf (hr.mono (by decide)) (by rfl)))
   (au (cM cL rfl (dQ (pv 2)) (bK (i:=5) lH.nd rfl (Or.inl rfl))
   (az (fg (rP Jg (hr.mono (by decide)) (pv 4) (ab (pv 5) ah)))))
   (au (aO (i:=6) lH.nd rfl (Or.inl rfl) (aR eV aE (aR fh (aR iX (ba mN (hr.mono (by decide)) (by rfl) (ab (pv 0) (ab aE ah))) aE) aE)))
   (au (pN (bJ (bT j3 (pv 6) aE (cq _))
   (au (aO (i:=6) lH.nd rfl (Or.inl rfl) aE)
    (az (aO (i:=7) lH.nd rfl (Or.inl rfl) (Y2 afY (hr.mono (by decide)) (by rfl) (ab (pv 4) (ab (pv 3) ah))))))
   (az (aO (i:=7) lH.nd rfl (Or.inl rfl) (ba afX (hr.mono (by decide)) (by rfl) (ab (pv 4) (ab (pv 3) (ab (pv 6) ah))))))))
   (au (bJ (PW.pt (iV (fV (eU (bp pM (by rfl) B.mH lZ (ab (pv 7) (ab (pw (v := .ty "tuple") (by rfl) B.sf rM rfl) ah))))) (iV (bT iY (bp d9 (by rfl) B.cf bZ (ab (pv 7) ah)) aE (cq _)) (jZ (fV (eU (bp pM (by rfl) B.mH lZ (ab (aV bU (pv 7) aE (λ_ _=>rfl)) (ab (pw (v := .ty "list") (by rfl) B.oa nP rfl) ah)))))))))
   (az (aX fJ))
   bR)
   (au (bJ (PW.pt (iV (bT zX (bp d9 (by rfl) B.cf bZ (ab (aV bU (pv 7) aE (λ_ _=>rfl)) ah)) (pv 6) (cq _)) (jZ (bT iY (bp aas (by rfl) B.cf bZ (ab (iz (aar rfl Hs) (by rfl) B.NT Ng (ab (aV bU (pv 7) aE (λ_ _=>rfl)) ah)) ah)) (bp d9 (by rfl) B.cf bZ (ab (aV bU (pv 7) aE (λ_ _=>rfl)) ah)) (cq _)))))
   (az (aX fJ))
   bR)
   (au (cM cL rfl (dQ (aV bU (pv 7) aE (λ_ _=>rfl))) (bK (i:=8) lH.nd rfl (Or.inl rfl))
   (az (bJ (PW.pt (iV (fV (eU (ba afZ (hr.mono (by decide)) (by rfl) (ab (pv 8) (ab (pv 3) ah))))) (jZ (fV (eU (ba af0 (hr.mono (by decide)) (by rfl) (ab (pv 2) (ab (pv 8) ah))))))))
    (az (aX fJ))
    bR)))
   (au (bJ (bT j3 (bp d9 (by rfl) B.cf bZ (ab (aV bU (pv 7) aE (λ_ _=>rfl)) ah)) (pv 6) (cq _))
   (az (aX (pG Dy (aV bU (pv 7) aE (λ_ _=>rfl)) qX (cq _))))
   bR)
   (az (aX (ba Ja (hr.mono (by decide)) (by rfl) (ab (aV bU (pv 7) aE (λ_ _=>rfl)) (ab (pv 2) (ab (ba oB (hr.mono (by decide)) (by rfl) (ab (pv 3) ah)) (ab (pv 3) (ab (aV bU (pv 7) aE (λ_ _=>rfl)) ah))))))))))))))))))),?_⟩
  try dsimp only[bF]
  have k1:PySem.W.kitOne K (.type "tuple") (.type "tuple")=some true:=by kernel_rfl
  have k5:PySem.W.kitOne K (.type "list") (.type "list")=some true:=by kernel_rfl
  refine⟨_,rfl,_,rfl,a,ns,0,rfl,hS,_,rfl,λfl l wd H1 s1 B6 FP T2 Sy Nf=>?_⟩
  refine⟨_,rfl,a,ns,2,rfl,s1.seq hS,a,fl,ns,l,wd,_,rfl,s1.seq hS,B6,FP,λfi m H2 s2 vE FM=>?_⟩
  have xD:=(s1.trans s2).seq hS
  have Om:=afQ FM FP.sh.w1
  have T2m:=Om.two T2
  have Sym:=Om.sym Sy
  have af1:aI m wd≠[]:=λz=>by
   obtain⟨c,hc⟩:=Nf
   have br:=n9 hc
   obtain⟨i,k,hik⟩:=(IJ FP.sh T2).all c br.1 br.2.1 br.2.2
   have:=(lB hik).1
   rw[<-Om.aI,z] at this
   exact jn _ this
  refine⟨_,rfl,_,rfl,a,fi,ns,m,wd,7,rfl,xD,aq.of vE,FM.sh,FM.lets,by rw[FM.ln];exact FP.h4,FP.w4,λwl rs es H3 ub s3 hW W=>?_⟩
  refine⟨_,rfl,_,rfl,a,fi,ns,m,wd,rfl,s3.seq xD,s3 _ _ vE,FM.sh,af1,λsh g H5 s5 Q5 Sg Og=>?_⟩
  intro p xY Jh Q6 Q7
  refine⟨p,xY,rfl,ar,λd H6 fd0 B0 Q8=>⟨rfl,?_⟩⟩
  have t1:af H5 (upd (upd H5 xY (.own p)) p (.ins C xY [])):=(af.upd Q6).trans (af.upd (by rw[ak (bo Q7)];exact Jh))
  have t2:af H5 H6:=λb o e=>Q8 b o (t1 b o e) (aZ e Jh)
  have qG:=(s5.trans t2) _ _ hW
  have Q9:=t2 _ _ Q5
  have Ra:=(s3.trans (s5.trans t2)).seq xD
  have cZ:=W.nd
  have hw:=W.wd
  have Rb:=W.gE
  have yr:g.length<=4:=by rw[Og.ln,FM.ln];exact FP.h4
  have Ji:=Og.two T2m
  have Rc:=Og.sym Sym
  clear t1 t2 Q8 fd0 Q7 Q6 Jh Q5 hW W
  revert qG cZ hw Rb
  generalize rs++es=ws
  intro qG cZ hw Rb
  refine⟨_,rfl,wl,rfl,⟨_,aj.of qG⟩,?_⟩
  refine j2 (xs:=ws.map V.str) (λi σ H7=>∃(v5:Option V) (kvs:List (Key×V)),σ=[some (.ref a),some (.ref fi),some (.ref wl),some (.ref sh),some (.ref p),v5,none,none,none]/\iJ C H7 p d kvs/\bb kvs=ws.take i/\uP kvs/\(∀b o,b≠d->H6 b=some o->H7 b=some o))
   ⟨none,[],rfl,B0,by rw[qK];rfl,(λ_ mq=>nomatch mq),λ_ _ _ h=>h⟩ (λi σ H7 _ ⟨_,_,_,_,_,_,h4⟩=>aj.of (h4 _ _ (bY qG B0.dc (by intro z;cases z)) qG)) ?_ ?_
  .intro i y σ H7 hi af2
   refine hide λG_ aN=>?_
   obtain⟨v5,kvs,rfl,S7,m7,Cj,off⟩:=af2
   rw[bu] at hi
   obtain⟨x,hx,rfl⟩:=jl.mp hi
   have mx:x∈ws:=bE hx
   have ZL:i<ws.length:=(cn.mp hx).1
   have qf:ws.take (i+1)=ws.take i++[x]:=by rw[gq,hx];rfl
   have hn:x∉ws.take i:=by
    have h1:(ws.take (i+1)).Nodup:=cZ.sublist (Ka _ _)
    rw[qf,qN] at h1
    exact λm=>h1.2.2 x m x (cI.mpr rfl) rfl
   have hv:=acH (kvs:=kvs) (x:=x) (by rw[m7];exact hn)
   have i4:kvs.length<=60:=by rw[<-yi,m7,jQ];omega
   obtain⟨⟨dx,h1⟩,mn,_⟩:=id S7
   refine aN.k ?_
   refine⟨_,rfl,p,dx,_,rfl,h1,uJ _ (by decide +kernel),_,rfl,p,d,kvs,x,.int 0,rfl,S7,hw x mx,hv,by omega,λH8 S8 af3=>?_⟩
   refine⟨_,_,rfl,S8,?_,afR Cj 0 hv,λb o hb h=>af3 b o hb (off b o hb h)⟩
   rw[acG _ hv,m7,qf]
  .intro σ H7 af4
   refine hide λG_ bt=>?_
   obtain⟨v5,kvs,rfl,S7,m7,Cj,off⟩:=af4
   refine bt.k ?_
   rw[ax,gu (aP _)] at m7
   have Rf:=off _ _ (bY qG B0.dc (by intro z;cases z)) qG
   have yY:=afO B0.dc off Q9
   have hS7:=afP B0.dc off Ra
   have i4:kvs.length<64:=by rw[<-yi,m7];omega
   clear qG Q9 Ra off B0
   refine⟨_,rfl,a,ns,6,rfl,hS7,_,_,rfl,rfl,⟨by decide,by decide⟩,_,_,rfl,rfl,(by show(0:Int)<5;decide),_,_,rfl,rfl,?_⟩
   have z0:=nt (cellAt ns 6 / 64) (show(5:Int)≠0 by decide)
   have z1:=qO (cellAt ns 6 / 64) (show(0:Int)<5 by decide)
   generalize cellAt ns 6 / 64 % 5=z at z0 z1
   obtain⟨k,rfl⟩:=qP z0
   refine⟨λσ H8=>∃(most:Nat) (t fo:Addr) (v:V) (ts:List Addr) (new:List (List Str)),σ=[some (.ref a),some (.ref fi),some (.ref wl),some (.ref sh),some (.ref p),v5,some (.int (most:Int)),some (.ref t),none]/\LJ CW CC H7 H8 ws g wd most t fo v ts new,?_,?_⟩
   .intro σ H8 af5
    refine hide λG_ cD=>?_
    obtain⟨most,t,fo,v,ts,new,rfl,⟨Qk,s8,ht,cF,hF,yZ,m6,jh⟩⟩:=af5
    refine cD.k ?_
    have B6:=jj hF
    refine⟨_,rfl,_,_,_,true,⟨rfl,.tup ht,k1⟩,_,rfl,aT ⟨_,rfl,t,_,rfl,.inr (aq.of ht),rfl,_,rfl,?_⟩⟩
    rw[aG (show V.int (([V.ref fo,v]:List V).length:Int)=V.int 2 from rfl)]
    refine aT ⟨_,rfl,t,_,0,.ref fo,rfl,rfl,aq.of ht,rfl,_,_,_,true,⟨rfl,.lst cF,k5⟩,_,rfl,aT ?_⟩
    have hnl:new.length<=most:=by
     rcases jh with z | z
     .omega
     .omega
    refine⟨_,rfl,t,_,0,.ref fo,rfl,rfl,aq.of ht,rfl,fo,_,rfl,.inl (aj.of cF),_,rfl,_,_,rfl,rfl,_,rfl,?_⟩
    rw[aH (by rw[ax];omega)]
    have EA:Paired (λt ks=>aq K H8 t (ks.map kV)) ts (new.map λs=>s.map λx=>(Sum.inr x:Key)):=HI (Paired.bM hF λt s e=>by rw[Je];exact aq.of e)
    have cU:(new.map λs=>s.map λx=>(Sum.inr x:Key)).Nodup:=by
     refine List.Pairwise.map _ (λs t h z=>h ?_) yZ
     have e:=eD (λu:List Key=>u.map kV) z
     rw[Je,Je] at e
     exact List.map_inj_right (λx y h=>by injection h) |>.mp e
    refine aT ⟨_,rfl,t,_,0,.ref fo,rfl,rfl,aq.of ht,rfl,fo,ts,_,rfl,cF,EA,cU,by rw[ax];omega,λst cX=>⟨st,_,rfl,ar,?_⟩⟩
    have s9:af H8 (upd H8 st (.ext (ux st (new.map λs=>s.map λx=>(Sum.inr x:Key)).length))):=af.upd cX
    generalize upd H8 st (.ext (ux st (new.map λs=>s.map λx=>(Sum.inr x:Key)).length))=H9 at s9
    refine⟨_,rfl,t,_,0,.ref fo,rfl,rfl,aq.of (s9 _ _ ht),rfl,fo,_,rfl,.inl (aj.of (s9 _ _ cF)),rfl,_,rfl,?_⟩
    rw[yT,ax,ax,aG B6.symm]
    refine aT ⟨_,rfl,t,_,0,.ref fo,rfl,rfl,aq.of (s9 _ _ ht),rfl,fo,rfl,⟨_,aj.of (s9 _ _ cF)⟩,?_⟩
    refine j2 (K:=K) (xs:=ts.map V.ref) (λi σ HA=>∃(v8:Option V),σ=[some (.ref a),some (.ref fi),some (.ref wl),some (.ref sh),some (.ref p),v5,some (.int (most:Int)),some (.ref t),v8]/\af H8 HA) ⟨none,rfl,s9⟩ (λi σ HA _ ⟨_,_,sA⟩=>aj.of (sA _ _ cF)) ?_ ?_
    .intro i y σ HA hy af6
     refine hide λG_ cJ=>?_
     obtain⟨v8,rfl,sA⟩:=af6
     rw[bu] at hy
     obtain⟨ti,hti,rfl⟩:=jl.mp hy
     obtain⟨sn,hsn,jF⟩:=Paired.getL hF hti
     obtain⟨ag,fb⟩:=m6 sn (bE hsn)
     refine cJ.k ?_
     refine⟨_,rfl,_,rfl,ti,sh,sn,g,wd,rfl,sA _ _ jF,(s8.trans sA) _ _ yY,Sg,ag,λHB sB=>⟨_,rfl,aT ⟨_,rfl,_,rfl,wl,ti,ws,sn,wd,rfl,(s8.trans (sA.trans sB)) _ _ Rf,aq.of ((sA.trans sB) _ _ jF),ag.sh,λHC sC=>⟨_,rfl,?_⟩⟩⟩⟩
     rw[fb]
     exact aT ⟨_,rfl,sA.trans (sB.trans sC)⟩
    .rintro σ HA ⟨v8,rfl,sA⟩
     refine⟨_,rfl,t,_,0,.ref fo,rfl,rfl,aq.of (sA _ _ ht),rfl,fo,_,rfl,.inl (aj.of (sA _ _ cF)),_,rfl,rfl,_,rfl,?_⟩
     rw[yT,ax]
     rcases jh with ⟨rfl,hl⟩ | ⟨hv,hl,eW⟩
     .rw[aG (by omega)]
      refine bG ⟨_,rfl,t,_,1,.aD,rfl,rfl,aq.of (sA _ _ ht),rfl,rfl,?_⟩
      rw[aG rfl]
      exact q _
     .rw[aH (by omega)]
      refine aT ⟨_,rfl,t,_,1,v,rfl,rfl,aq.of (sA _ _ ht),rfl,_,rfl,_,rfl,sh,g,wd,rfl,aq.of ((s8.trans sA) _ _ yY),Sg,λrg xs HB hrg sB Jc hR=>?_⟩
      have vN:=sA.trans sB
      refine⟨_,rfl,_,rfl,t,_,0,.ref fo,rfl,rfl,aq.of (vN _ _ ht),rfl,wl,rg,sh,fo,v,ws,g,wd,aI g wd,xs,ts,new,rfl,⟨eW.mono (Kp.of vN) (λ_ _ _ _=>trivial) (λ_ z=>z),(s8.trans vN) _ _ Rf,by omega,hw,aq.of ((s8.trans vN) _ _ yY),IJ Sg Ji,Jc,hR,vN _ _ cF,hF.keep (λb o _ _ e=>vN _ _ e),by omega⟩,λHC _=>q HC⟩
   .refine⟨_,rfl,rfl,_,rfl,?_⟩
    rw[GB]
    by_cases h5:k=4
    .rw[aG (by omega)]
     refine bG ⟨_,rfl,_,rfl,sh,p,d,g,wd,2,kvs,rfl,yY,Sg,Ji,Rc,yr,FP.w4,S7,i4,by rw[m7];exact hw,Cj,by decide,by decide,λt fo v ts new H8 s8 ht cF hF yZ m6 jh=>?_⟩
     rw[m7] at m6 jh
     exact⟨2,t,fo,v,ts,new,rfl,⟨by decide,s8,ht,cF,hF,yZ,m6,jh⟩⟩
    .rw[aH (by omega)]
     refine aT ⟨_,rfl,_,rfl,_,rfl,sh,p,d,g,wd,1+k,kvs,by rw[Kx];rfl,yY,Sg,Ji,Rc,yr,FP.w4,S7,i4,by rw[m7];exact hw,Cj,by omega,by omega,λt fo v ts new H8 s8 ht cF hF yZ m6 jh=>?_⟩
     rw[m7] at m6 jh
     exact⟨1+k,t,fo,v,ts,new,by rw[Kx];rfl,⟨by omega,s8,ht,cF,hF,yZ,m6,jh⟩⟩
end
abbrev hN(K:PySem.W.Frag)(x:Str)(f:Addr):Prop:=PySem.W.nsIn K mainGlobals x=some (some (.ref f))
abbrev hL(K:PySem.W.Frag)(f:Addr)(nm ql:Str)(st:Stmt)(df oc:Value)(od an:Option Addr)(kV dc pm cd ct:Value)(sl:Array (Option Value)):Prop:=K.lookup f=some ⟨oc,od,.func (PySem.W.fnOf nm ql (pK st) (kR st) (aW st) df kV dc pm an cd ct),sl⟩
abbrev hC(K:PySem.W.Frag)(cd:Value)(q:Str):Prop:=PySem.W.codeIn K cd q=true
abbrev hK(K:PySem.W.Frag)(f:Addr):Prop:=PySem.W.keepIn K (.ref f)=true
theorem all_mk{l:PySem.W.OpenLaw}{w:World}{K:PySem.W.Frag}{h:Heap}{mg:Str->Option Value}{fa:Addr}(X:K.In h)(G:h.Ns mainGlobals mg)(hfa:mg "law"=some (.ref fa))
  {f0 f1 f2 f3 f4 f5 f6 f7 f8 f9 Jj Jk Jl Ck y0 Cm sY Co Jm Cp Jn Jo Jp Jq Jr Js Jt Ju Jv Jw Jx Jy Jz JA JB JC Cq Cr Cs Ct Cu Cv Cy JD Cz JE JF JG JH CF JI JJ JK JL JM Rg Rh:Addr}
  {od0 an0 od1 an1 od2 an2 od3 an3 od4 an4 od5 an5 od6 an6 od7 an7 od8 an8 od9 an9 af7 af8 af9 aga agb agc agd age agf agg agh agi agj agk agl agm agn ago agp agq agr ags agt agu agv agw agx agy agz agA agB agC agD agE agF agG agH agI agJ agK agL agM agN agO agP agQ agR agS agT agU agV agW agX agY agZ ag0 ag1 ag2 ag3 ag4 ag5 ag6 ag7 ag8 ag9 aha ahb ahc ahd ahe ahf ahg ahh ahi ahj ahk ahl ahm ahn aho ahp ahq ahr ahs aht ahu ahv ahw ahx ahy ahz Ri:Option Addr}
  {sl0 sl1 wH sl3 sl4 sl5 sl6 sl7 sl8 sl9 ahA ahB ahC ahD ahE ahF ahG ahH ahI ahJ ahK ahL ahM ahN ahO ahP ahQ ahR ahS ahT ahU ahV ahW ahX ahY ahZ ah0 ah1 ah2 ah3 ah4 ah5 ah6 ah7 ah8 ah9 aia aib aic aid aie aif aih aii aij aik ail:Array (Option Value)}
  {oc0 kV0 dc0 pm0 Rj ct0 oc1 kV1 dc1 pm1 Rk ct1 oc2 kV2 dc2 pm2 Rl ct2 oc3 kV3 dc3 pm3 Rm ct3 oc4 kV4 dc4 pm4 Rn ct4 oc5 kV5 dc5 pm5 Ro ct5 oc6 kV6 dc6 pm6 Rp ct6 oc7 kV7 dc7 pm7 Rq ct7 oc8 kV8 dc8 pm8 Rr ct8 oc9 kV9 dc9 pm9 Rt ct9 aim ain aio aip Ru aiq air ais ait aiu Rv aiv aiw aix aiy aiz Rw aiA aiB aiC aiD aiE Rx aiF aiG aiH aiI aiJ Ry aiK aiL aiM aiN aiO Rz aiP aiQ aiR aiS aiT RA aiU aiV aiW aiX aiY RB aiZ ai0 ai1 ai2 ai3 RC ai4 ai5 ai6 ai7 ai8 RD ai9 aja ajb ajc ajd RE aje ajf ajg ajh aji RF ajj ajk ajl ajm ajn RG ajo ajp ajq ajr ajs RH ajt aju ajv ajw ajx RI ajy ajz ajA ajB ajC RJ ajD ajE ajF ajG ajH RK ajI ajJ ajK ajL ajM RL ajN ajO ajP ajQ ajR RM ajS ajT ajU ajV ajW RN ajX ajY ajZ aj0 aj1 RO aj2 aj3 aj4 aj5 aj6 RP aj7 aj8 aj9 aka akb RQ akc akd ake akf akg RS akh aki akj akk akl RT akm akn ako akp akq RU akr aks akt aku akv RV akw akx aky akz akA RW akB akC akD akE akF RX akG akH akI akJ akK RY akL akM akN akO akP RZ akQ akR akS akT akU R0 akV akW akX akY akZ R1 ak0 ak1 ak2 ak3 ak4 R3 ak5 ak6 ak7 ak8 ak9 R4 ala alb alc ald ale R5 alf alg alh ali alj R6 alk alm aln alo alp R7 alq alr als alu alv R8 alw alx aly alz alA R9 alB alC alD alE alF Sa alG alH alI alJ alK Sb alL alM alN alO alP Sd alQ alR alS alT alU Se alV alW Sf Sh Si JN Sj:Value}
  {alX alY:Nat}
  {alZ al0:Tok}
  {cW:Addr}(al1:PySem.W.nsIn K mainGlobals "Book"=some (some (.ref cW)))
  (al2:PySem.W.plainGet K cW Str.empty=true) (al3:PySem.W.hasDictIn K cW=true) (al4:PySem.W.plainOver K cW=true) (al5:PySem.W.findIn K (.ref cW) "__setattr__"=some (some (.builtin "object.__setattr__"))) (al6:PySem.W.makesIn K cW=true) (al7:PySem.W.keepIn K (.ref cW)=true)
  (sZ:PySem.W.findIn K (.ref cW) "worths"=some none)
  {eJ:Addr}(al8:PySem.W.nsIn K mainGlobals "Ground"=some (some (.ref eJ)))
  (al9:PySem.W.plainGet K eJ Str.empty=true) (ama:PySem.W.hasDictIn K eJ=true) (amb:PySem.W.plainOver K eJ=true) (amc:PySem.W.findIn K (.ref eJ) "__setattr__"=some (some (.builtin "object.__setattr__"))) (amd:PySem.W.makesIn K eJ=true) (ame:PySem.W.keepIn K (.ref eJ)=true)
  (Sk:PySem.W.findIn K (.ref eJ) "sheet"=some none)
  (JO:PySem.W.findIn K (.ref eJ) "cells"=some none)
  (Sl:PySem.W.findIn K (.ref eJ) "crossings"=some none)
  (amf:PySem.W.findIn K (.ref eJ) "worths"=some none)
  (Sm:PySem.W.findIn K (.ref eJ) "known"=some none)
  {dN:Addr}(amg:PySem.W.nsIn K mainGlobals "Standing"=some (some (.ref dN)))
  (amh:PySem.W.plainGet K dN Str.empty=true) (ami:PySem.W.hasDictIn K dN=true) (amj:PySem.W.plainOver K dN=true) (amk:PySem.W.findIn K (.ref dN) "__setattr__"=some (some (.builtin "object.__setattr__"))) (aml:PySem.W.makesIn K dN=true) (amm:PySem.W.keepIn K (.ref dN)=true)
  (JP:PySem.W.findIn K (.ref dN) "ground"=some none)
  (y9:PySem.W.findIn K (.ref dN) "patterns"=some none)
  (CH:PySem.W.findIn K (.ref dN) "fits"=some none)
  {eT:Addr}(Sn:PySem.W.nsIn K mainGlobals "Cases"=some (some (.ref eT)))
  (amn:PySem.W.plainGet K eT Str.empty=true) (amo:PySem.W.hasDictIn K eT=true) (amq:PySem.W.plainOver K eT=true) (amr:PySem.W.findIn K (.ref eT) "__setattr__"=some (some (.builtin "object.__setattr__"))) (ams:PySem.W.makesIn K eT=true) (amt:PySem.W.keepIn K (.ref eT)=true)
  (So:PySem.W.findIn K (.ref eT) "place"=some none)
  (Sq:PySem.W.findIn K (.ref eT) "parts"=some none)
  {fR:Addr}(Sr:PySem.W.nsIn K mainGlobals "Whole"=some (some (.ref fR))) (amu:PySem.W.makesIn K fR=true) (amv:PySem.W.findIn K (.ref fR) "__init__"=some (some (.builtin "object.__init__"))) (amw:PySem.W.keepIn K (.ref fR)=true)
  (a0:hN K "_law_cell_at" f0)
  (l0:hL K f0 "_law_cell_at" "_law_cell_at" (top 53) .none oc0 od0 an0 kV0 dc0 pm0 Rj ct0 sl0)
  (c0:hC K Rj "_law_cell_at") (k0:hK K f0)
  (a1:hN K "sign_at" f1)
  (l1:hL K f1 "sign_at" "sign_at" (top 13) .none oc1 od1 an1 kV1 dc1 pm1 Rk ct1 sl1)
  (c1:hC K Rk "sign_at") (k1:hK K f1)
  (a2:hN K "is_open" f2)
  (l2:hL K f2 "is_open" "is_open" (top 14) .none oc2 od2 an2 kV2 dc2 pm2 Rl ct2 wH)
  (c2:hC K Rl "is_open") (k2:hK K f2)
  (a3:hN K "all_cells" f3)
  (l3:hL K f3 "all_cells" "all_cells" (top 12) .none oc3 od3 an3 kV3 dc3 pm3 Rm ct3 sl3)
  (c3:hC K Rm "all_cells") (k3:hK K f3)
  (a4:hN K "open_cells" f4)
  (l4:hL K f4 "open_cells" "open_cells" (top 10) .none oc4 od4 an4 kV4 dc4 pm4 Rn ct4 sl4)
  (c4:hC K Rn "open_cells") (k4:hK K f4)
  (a5:hN K "is_open_within" f5)
  (l5:hL K f5 "is_open_within" "is_open_within" (top 22) .none oc5 od5 an5 kV5 dc5 pm5 Ro ct5 sl5)
  (c5:hC K Ro "is_open_within") (k5:hK K f5)
  (a6:hN K "row_from" f6)
  (l6:hL K f6 "row_from" "row_from" (top 21) .none oc6 od6 an6 kV6 dc6 pm6 Rp ct6 sl6)
  (c6:hC K Rp "row_from") (k6:hK K f6)
  (a7:hN K "rows_of" f7)
  (l7:hL K f7 "rows_of" "rows_of" (top 20) .none oc7 od7 an7 kV7 dc7 pm7 Rq ct7 sl7)
  (c7:hC K Rq "rows_of") (k7:hK K f7)
  (a8:hN K "pattern" f8)
  (l8:hL K f8 "pattern" "pattern" (top 26) .none oc8 od8 an8 kV8 dc8 pm8 Rr ct8 sl8)
  (c8:hC K Rr "pattern") (k8:hK K f8)
  (a9:hN K "with_sign" f9)
  (l9:hL K f9 "with_sign" "with_sign" (top 16) .none oc9 od9 an9 kV9 dc9 pm9 Rt ct9 sl9)
  (c9:hC K Rt "with_sign") (k9:hK K f9)
  (a10:hN K "is_letters" Jj)
  (l10:hL K Jj "is_letters" "is_letters" (top 44) .none aim af7 af8 ain aio aip Ru aiq ahA)
  (c10:hC K Ru "is_letters") (Ss:hK K Jj)
  (a11:hN K "is_word" Jk)
  (l11:hL K Jk "is_word" "is_word" (top 50) .none air af9 aga ais ait aiu Rv aiv ahB)
  (c11:hC K Rv "is_word") (Su:hK K Jk)
  (a12:hN K "need_word" Jl)
  (l12:hL K Jl "need_word" "need_word" (top 49) .none aiw agb agc aix aiy aiz Rw aiA ahC)
  (c12:hC K Rw "need_word") (Sv:hK K Jl)
  (a13:PySem.W.findIn K (.ref cW) "__init__"=some (some (.ref Ck))) (i13:PySem.W.isFn K (.ref Ck)=true)
  (l13:hL K Ck "__init__" "Book.__init__" (inClass (top 48) 0) .none aiB agd age aiC aiD aiE Rx aiF ahD)
  (c13:hC K Rx "Book.__init__") (k13:hK K Ck)
  (Sw:PySem.W.findIn K (.ref cW) "put"=some (some (.ref y0))) (Sx:PySem.W.isFn K (.ref y0)=true)
  (l14:hL K y0 "put" "Book.put" (inClass (top 48) 1) (.ref Rg) aiG agg agh aiH aiI aiJ Ry aiK ahF)
  (d14:K.lookup Rg=some ⟨.type "tuple",agf,.seq #[.int 0 alZ] alX,ahE⟩)
  (c14:hC K Ry "Book.put") (JQ:hK K y0)
  (a15:PySem.W.findIn K (.ref cW) "need_there"=some (some (.ref Cm))) (i15:PySem.W.isFn K (.ref Cm)=true)
  (l15:hL K Cm "need_there" "Book.need_there" (inClass (top 48) 8) .none aiL agi agj aiM aiN aiO Rz aiP ahG)
  (c15:hC K Rz "Book.need_there") (Sz:hK K Cm)
  (SA:PySem.W.findIn K (.ref cW) "worth"=some (some (.ref sY))) (i16:PySem.W.isFn K (.ref sY)=true)
  (l16:hL K sY "worth" "Book.worth" (inClass (top 48) 4) .none aiQ agk agl aiR aiS aiT RA aiU ahH)
  (c16:hC K RA "Book.worth") (SD:hK K sY)
  (a17:PySem.W.findIn K (.ref cW) "words"=some (some (.ref Co))) (i17:PySem.W.isFn K (.ref Co)=true)
  (l17:hL K Co "words" "Book.words" (inClass (top 48) 3) .none aiV agm agn aiW aiX aiY RB aiZ ahI)
  (c17:hC K RB "Book.words") (SE:hK K Co)
  (a18:hN K "words_fitting" Jm)
  (l18:hL K Jm "words_fitting" "words_fitting" (top 51) .none ai0 ago agp ai1 ai2 ai3 RC ai4 ahJ)
  (c18:hC K RC "words_fitting") (SF:hK K Jm)
  (a19:PySem.W.findIn K (.ref cW) "fitting"=some (some (.ref Cp))) (i19:PySem.W.isFn K (.ref Cp)=true)
  (l19:hL K Cp "fitting" "Book.fitting" (inClass (top 48) 5) .none ai5 agq agr ai6 ai7 ai8 RD ai9 ahK)
  (c19:hC K RD "Book.fitting") (SG:hK K Cp)
  (a20:hN K "_law_open" Jn)
  (l20:hL K Jn "_law_open" "_law_open" (top 54) .none aja ags agt ajb ajc ajd RE aje ahL)
  (c20:hC K RE "_law_open") (SH:hK K Jn)
  (a21:hN K "_law_run" Jo)
  (l21:hL K Jo "_law_run" "_law_run" (top 55) .none ajf agu agv ajg ajh aji RF ajj ahM)
  (c21:hC K RF "_law_run") (SJ:hK K Jo)
  (a22:hN K "_law_rows" Jp)
  (l22:hL K Jp "_law_rows" "_law_rows" (top 56) .none ajk agw agx ajl ajm ajn RG ajo ahN)
  (c22:hC K RG "_law_rows") (SK:hK K Jp)
  (a23:hN K "_law_with" Jq)
  (l23:hL K Jq "_law_with" "_law_with" (top 57) .none ajp agy agz ajq ajr ajs RH ajt ahO)
  (c23:hC K RH "_law_with") (SM:hK K Jq)
  (a24:hN K "_law_text" Jr)
  (l24:hL K Jr "_law_text" "_law_text" (top 62) .none aju agA agB ajv ajw ajx RI ajy ahP)
  (c24:hC K RI "_law_text") (SN:hK K Jr)
  (a25:hN K "_law_letter" Js)
  (l25:hL K Js "_law_letter" "_law_letter" (top 60) .none ajz agC agD ajA ajB ajC RJ ajD ahQ)
  (c25:hC K RJ "_law_letter") (SO:hK K Js)
  (a26:hN K "put_word" Jt)
  (l26:hL K Jt "put_word" "put_word" (top 27) .none ajE agE agF ajF ajG ajH RK ajI ahR)
  (c26:hC K RK "put_word") (SQ:hK K Jt)
  (a27:hN K "_law_put" Ju)
  (l27:hL K Ju "_law_put" "_law_put" (top 66) .none ajJ agG agH ajK ajL ajM RL ajN ahS)
  (c27:hC K RL "_law_put") (SR:hK K Ju)
  (a28:hN K "_law_filled" Jv)
  (l28:hL K Jv "_law_filled" "_law_filled" (top 61) .none ajO agI agJ ajP ajQ ajR RM ajS ahT)
  (c28:hC K RM "_law_filled") (SS:hK K Jv)
  (a29:hN K "_law_given" Jw)
  (l29:hL K Jw "_law_given" "_law_given" (top 64) .none ajT agK agL ajU ajV ajW RN ajX ahU)
  (c29:hC K RN "_law_given") (SU:hK K Jw)
  (a30:hN K "_law_words" Jx)
  (l30:hL K Jx "_law_words" "_law_words" (top 63) .none ajY agM agN ajZ aj0 aj1 RO aj2 ahV)
  (c30:hC K RO "_law_words") (SV:hK K Jx)
  (a31:hN K "_law_left" Jy)
  (l31:hL K Jy "_law_left" "_law_left" (top 65) .none aj3 agO agP aj4 aj5 aj6 RP aj7 ahW)
  (c31:hC K RP "_law_left") (SW:hK K Jy)
  (a32:hN K "_law_good" Jz)
  (l32:hL K Jz "_law_good" "_law_good" (top 58) .none aj8 agQ agR aj9 aka akb RQ akc ahX)
  (c32:hC K RQ "_law_good") (SX:hK K Jz)
  (a33:hN K "_law_floor" JA)
  (l33:hL K JA "_law_floor" "_law_floor" (top 59) .none akd agS agT ake akf akg RS akh ahY)
  (c33:hC K RS "_law_floor") (SY:hK K JA)
  (a34:hN K "crossings_on" JB)
  (l34:hL K JB "crossings_on" "crossings_on" (top 38) .none aki agU agV akj akk akl RT akm ahZ)
  (c34:hC K RT "crossings_on") (S0:hK K JB)
  (a35:hN K "crossings_of" JC)
  (l35:hL K JC "crossings_of" "crossings_of" (top 37) .none akn agW agX ako akp akq RU akr ah0)
  (c35:hC K RU "crossings_of") (S3:hK K JC)
  (a36:PySem.W.findIn K (.ref eJ) "__init__"=some (some (.ref Cq))) (i36:PySem.W.isFn K (.ref Cq)=true)
  (l36:hL K Cq "__init__" "Ground.__init__" (inClass (top 34) 0) .none aks agY agZ akt aku akv RV akw ah1)
  (c36:hC K RV "Ground.__init__") (k36:hK K Cq)
  (a37:PySem.W.findIn K (.ref eJ) "narrowed"=some (some (.ref Cr))) (i37:PySem.W.isFn K (.ref Cr)=true)
  (l37:hL K Cr "narrowed" "Ground.narrowed" (inClass (top 34) 1) .none akx ag0 ag1 aky akz akA RW akB ah2)
  (c37:hC K RW "Ground.narrowed") (S4:hK K Cr)
  (a38:PySem.W.findIn K (.ref dN) "__init__"=some (some (.ref Cs))) (i38:PySem.W.isFn K (.ref Cs)=true)
  (l38:hL K Cs "__init__" "Standing.__init__" (inClass (top 35) 0) .none akC ag2 ag3 akD akE akF RX akG ah3)
  (c38:hC K RX "Standing.__init__") (k38:hK K Cs)
  (a39:PySem.W.findIn K (.ref dN) "left"=some (some (.ref Ct))) (i39:PySem.W.isFn K (.ref Ct)=true)
  (l39:hL K Ct "left" "Standing.left" (inClass (top 35) 3) .none akH ag4 ag5 akI akJ akK RY akL ah4)
  (c39:hC K RY "Standing.left") (S5:hK K Ct)
  (a40:PySem.W.findIn K (.ref dN) "narrowest"=some (some (.ref Cu))) (i40:PySem.W.isFn K (.ref Cu)=true)
  (l40:hL K Cu "narrowest" "Standing.narrowest" (inClass (top 35) 2) .none akM ag6 ag7 akN akO akP RZ akQ ah5)
  (c40:hC K RZ "Standing.narrowest") (S6:hK K Cu)
  (a41:PySem.W.findIn K (.ref dN) "filled"=some (some (.ref Cv))) (i41:PySem.W.isFn K (.ref Cv)=true)
  (l41:hL K Cv "filled" "Standing.filled" (inClass (top 35) 5) .none akR ag8 ag9 akS akT akU R0 akV ah6)
  (c41:hC K R0 "Standing.filled") (S9:hK K Cv)
  (a42:PySem.W.findIn K (.ref dN) "after"=some (some (.ref Cy))) (i42:PySem.W.isFn K (.ref Cy)=true)
  (l42:hL K Cy "after" "Standing.after" (inClass (top 35) 1) .none akW aha ahb akX akY akZ R1 ak0 ah7)
  (c42:hC K R1 "Standing.after") (Ta:hK K Cy)
  (a43:hN K "first_standing" JD)
  (l43:hL K JD "first_standing" "first_standing" (top 36) .none ak1 ahc ahd ak2 ak3 ak4 R3 ak5 ah8)
  (c43:hC K R3 "first_standing") (Tb:hK K JD)
  (a44:PySem.W.findIn K (.ref eT) "__init__"=some (some (.ref Cz))) (i44:PySem.W.isFn K (.ref Cz)=true)
  (l44:hL K Cz "__init__" "Cases.__init__" (inClass (top 31) 0) .none ak6 ahe ahf ak7 ak8 ak9 R4 ala ah9)
  (c44:hC K R4 "Cases.__init__") (k44:hK K Cz)
  (Tc:hN K "closing_paper" JE)
  (l45:hL K JE "closing_paper" "closing_paper" (top 41) .none alb ahg ahh alc ald ale R5 alf aia)
  (c45:hC K R5 "closing_paper") (JR:hK K JE)
  (a46:hN K "turned" JF)
  (l46:hL K JF "turned" "turned" (top 15) .none alg ahi ahj alh ali alj R6 alk aib)
  (c46:hC K R6 "turned") (Td:hK K JF)
  (a47:hN K "rows_through" JG)
  (l47:hL K JG "rows_through" "rows_through" (top 24) .none alm ahk ahl aln alo alp R7 alq aic)
  (c47:hC K R7 "rows_through") (Te:hK K JG)
  (a48:hN K "need_floor" JH)
  (l48:hL K JH "need_floor" "need_floor" (top 23) .none alr ahm ahn als alu alv R8 alw aid)
  (c48:hC K R8 "need_floor") (Tf:hK K JH)
  (Tg:hN K "fillings" CF)
  (l49:hL K CF "fillings" "fillings" (top 40) (.ref Rh) alx ahp ahq aly alz alA R9 alB aif)
  (d49:K.lookup Rh=some ⟨.type "tuple",aho,.seq #[.int 2 al0] alY,aie⟩)
  (c49:hC K R9 "fillings") (JS:hK K CF)
  (a50:hN K "_law_is_filling" JI)
  (l50:hL K JI "_law_is_filling" "_law_is_filling" (top 67) .none alC ahr ahs alD alE alF Sa alG aih)
  (c50:hC K Sa "_law_is_filling") (Th:hK K JI)
  (a51:hN K "_law_agreeing" JJ)
  (l51:hL K JJ "_law_agreeing" "_law_agreeing" (top 69) .none alH aht ahu alI alJ alK Sb alL aii)
  (c51:hC K Sb "_law_agreeing") (Ti:hK K JJ)
  (Tj:hN K "_law_walked" JK)
  (l52:hL K JK "_law_walked" "_law_walked" (top 68) .none alM ahv ahw alN alO alP Sd alQ aij)
  (c52:hC K Sd "_law_walked") (JT:hK K JK)
  (a53:hN K "_law_sheet" JL)
  (l53:hL K JL "_law_sheet" "_law_sheet" (top 70) .none alR ahx ahy alS alT alU Se alV aik)
  (c53:hC K Se "_law_sheet") (Tn:hK K JL)
  (a54:hN K "law" JM)
  (l54:hL K JM "law" "law" (top 71) .none alW ahz Ri Sf Sh Si JN Sj ail)
  (c54:hC K JN "law") (k54:hK K JM)
  {amx:Tok}(amy:PySem.W.nsIn K mainGlobals "SHUT"=some (some (.str "#" amx)))
  {To:Addr}{amz:Option Addr}{amA:Nat}{amB:Array (Option Value)}{amC amD:Tok}
  (amE:PySem.W.nsIn K mainGlobals "ACROSS"=some (some (.ref To)))
  (amF:K.lookup To=some ⟨.type "tuple",amz,.seq #[.int 0 amC,.int 1 amD] amA,amB⟩)
  {Tp:Addr}{amG:Option Addr}{amH:Nat}{amI:Array (Option Value)}{amJ amK:Tok}
  (amL:PySem.W.nsIn K mainGlobals "DOWN"=some (some (.ref Tp)))
  (amM:K.lookup Tp=some ⟨.type "tuple",amG,.seq #[.int 1 amJ,.int 0 amK] amH,amI⟩)
  {amN:Tok}(amO:PySem.W.nsIn K mainGlobals "LETTERS"=some (some (.str "abcdefghijklmnopqrstuvwxyz" amN)))
  {amP:Tok}(amQ:PySem.W.nsIn K mainGlobals "LEAST_LETTERS"=some (some (.int 2 amP)))
  {amR:Tok}(amS:PySem.W.nsIn K mainGlobals "MOST_LETTERS"=some (some (.int 9 amR)))
  {amT:Tok}(amU:PySem.W.nsIn K mainGlobals "FREE"=some (some (.str "." amT)))
  (vM:PySem.W.kitOne K (.ref eT) (.ref fR)=some false)
  (amV:PySem.W.nsIn K mainGlobals "len"=some none)
  (amW:PySem.W.nsIn K mainGlobals "range"=some none)
  (amX:PySem.W.nsIn K mainGlobals "tuple"=some none)
  (amY:PySem.W.nsIn K mainGlobals "list"=some none)
  (amZ:PySem.W.nsIn K mainGlobals "str"=some none)
  (am0:PySem.W.nsIn K mainGlobals "isinstance"=some none)
  (am1:PySem.W.nsIn K mainGlobals "all"=some none)
  (am2:PySem.W.nsIn K mainGlobals "sorted"=some none)
  (am3:PySem.W.nsIn K mainGlobals "enumerate"=some none)
  (am4:PySem.W.nsIn K mainGlobals "zip"=some none)
  (am5:PySem.W.nsIn K mainGlobals "sum"=some none)
  (am6:PySem.W.nsIn K mainGlobals "dict"=some none)
  (am7:PySem.W.nsIn K mainGlobals "min"=some none)
  (am8:PySem.W.nsIn K mainGlobals "reversed"=some none)
  (am9:PySem.W.nsIn K mainGlobals "set"=some none)
  (ana:PySem.W.nsIn K mainGlobals "bool"=some none)
  (anb:PySem.W.nsIn K mainGlobals "int"=some none)
  (Tq:PySem.W.specialIn K (.builtin "object.__class__") "__get__"=some (some (.builtin "getset_descriptor.__get__"))) (Tr:PySem.W.takesIn K (.builtin "object.__class__")=some true)
  (anc:PySem.W.plainGet K fR Str.empty=true) (ane:PySem.W.hasDictIn K fR=true) (anf:PySem.W.plainOver K fR=true) (ang:PySem.W.findIn K (.ref fR) "__setattr__"=some (some (.builtin "object.__setattr__")))
  (anh:PySem.W.findIn K (.ref fR) "__class__"=some (some (.builtin "object.__class__"))) (ani:PySem.W.mroIn K fR (.type "object")=some true)
  (anj:PySem.W.findIn K (.ref eT) "__class__"=some (some (.builtin "object.__class__"))) (ank:PySem.W.mroIn K eT (.type "object")=some true)
  (anl:PySem.W.specialIn K (.ref sY) "__get__"=some (some (.builtin "function.__get__"))) (anm:PySem.W.takesIn K (.ref sY)=some false)
  : ∃fd:FuncData,(∀(s:Shared) (v:Value),BindsTo s fd ⟨[v],[]⟩ [("_law_script",v)])/\∀base:Heap,K.In base->base.Ns mainGlobals mg->aS l.prog w K mg base aY 23 fa fd ["_law_script"] (Ci K):=by
 have e:=hfa.symm.trans (bD X G a54)
 cases e
 have B:Bl mg:=⟨iy X G amV,iy X G amW,iy X G amX,iy X G amY,iy X G amZ,iy X G am0,iy X G am1,iy X G am2,iy X G am3,iy X G am4,iy X G am5,iy X G am6,iy X G am7,iy X G am8,iy X G am9,iy X G ana,iy X G anb⟩
 have Fw:Cn mg "SHUT" (.str "#"):=⟨_,bD X G amy,_,rfl⟩
 have FF:AV K mg "ACROSS" [.int 0,.int 1]:=⟨_,⟨_,bD X G amE,rfl⟩,λH=>.inr ⟨_,_,_,amF,rfl,rfl,(by show 2<=sizeLine;decide),(.cons ⟨_,rfl⟩ (.cons ⟨_,rfl⟩ .nil))⟩⟩
 have FG:AV K mg "DOWN" [.int 1,.int 0]:=⟨_,⟨_,bD X G amL,rfl⟩,λH=>.inr ⟨_,_,_,amM,rfl,rfl,(by show 2<=sizeLine;decide),(.cons ⟨_,rfl⟩ (.cons ⟨_,rfl⟩ .nil))⟩⟩
 have FZ:Cn mg "LETTERS" (.str i6):=⟨_,bD X G amO,_,rfl⟩
 have Gb:Cn mg "LEAST_LETTERS" (.int 2):=⟨_,bD X G amQ,_,rfl⟩
 have Ge:Cn mg "MOST_LETTERS" (.int 9):=⟨_,bD X G amS,_,rfl⟩
 have oo:Cn mg "FREE" (.str "."):=⟨_,bD X G amU,_,rfl⟩
 have ji:cH K cW:=⟨al2,al3,al4,al5⟩
 have vO:cH K eJ:=⟨al9,ama,amb,amc⟩
 have oP:cH K dN:=⟨amh,ami,amj,amk⟩
 have JU:cH K eT:=⟨amn,amo,amq,amr⟩
 have vy:AF K mg "Whole" fR:=⟨amu,amv,amw,bD X G Sr⟩
 have ano:cH K fR:=⟨anc,ane,anf,ang⟩
 have anp:pV K fR:=⟨ano,anh,Tq,Tr,ani⟩
 have vK:Cn mg "Whole" (.ref fR):=⟨_,bD X G Sr,rfl⟩
 have anq:pV K eT:=⟨JU,anj,Tq,Tr,ank⟩
 have vL:Cn mg "Cases" (.ref eT):=⟨_,bD X G Sn,rfl⟩
 have anr:ES K cW "worth":=⟨⟨sY,SA,⟨anl,anm⟩⟩,by decide +kernel⟩
 have F0:=bI (st:=(top 53)) l0 c0 k0
 have b0:=F0.binds (ps:=["_law_script","_law_k"]) λ_ _ _ _ _ _=>gH λ_ _=>rfl
 have F1:=bI (st:=(top 13)) l1 c1 k1
 have b1:=F1.binds (ps:=["sheet","cell"]) λ_ _ _ _ _ _=>gH λ_ _=>rfl
 have F2:=bI (st:=(top 14)) l2 c2 k2
 have b2:=F2.binds (ps:=["sheet","cell"]) λ_ _ _ _ _ _=>gH λ_ _=>rfl
 have F3:=bI (st:=(top 12)) l3 c3 k3
 have b3:=F3.binds (ps:=["sheet"]) λ_ _ _ _ _ _=>gG λ_=>rfl
 have F4:=bI (st:=(top 10)) l4 c4 k4
 have b4:=F4.binds (ps:=["sheet"]) λ_ _ _ _ _ _=>gG λ_=>rfl
 have F5:=bI (st:=(top 22)) l5 c5 k5
 have b5:=F5.binds (ps:=["sheet","cell"]) λ_ _ _ _ _ _=>gH λ_ _=>rfl
 have F6:=bI (st:=(top 21)) l6 c6 k6
 have b6:=F6.binds (ps:=["sheet","cell","way"]) λ_ _ _ _ _ _=>i3 λ_ _ _=>rfl
 have F7:=bI (st:=(top 20)) l7 c7 k7
 have b7:=F7.binds (ps:=["sheet"]) λ_ _ _ _ _ _=>gG λ_=>rfl
 have F8:=bI (st:=(top 26)) l8 c8 k8
 have b8:=F8.binds (ps:=["sheet","cells"]) λ_ _ _ _ _ _=>gH λ_ _=>rfl
 have F9:=bI (st:=(top 16)) l9 c9 k9
 have b9:=F9.binds (ps:=["sheet","cell","sign"]) λ_ _ _ _ _ _=>i3 λ_ _ _=>rfl
 have Ts:=bI (st:=(top 44)) l10 c10 Ss
 have b10:=Ts.binds (ps:=["thing","least","most"]) λ_ _ _ _ _ _=>i3 λ_ _ _=>rfl
 have Tt:=bI (st:=(top 50)) l11 c11 Su
 have b11:=Tt.binds (ps:=["thing"]) λ_ _ _ _ _ _=>gG λ_=>rfl
 have Tu:=bI (st:=(top 49)) l12 c12 Sv
 have b12:=Tu.binds (ps:=["thing"]) λ_ _ _ _ _ _=>gG λ_=>rfl
 have Tv:=bI (st:=(inClass (top 48) 0)) l13 c13 k13
 have b13:=Tv.binds (ps:=["self"]) λ_ _ _ _ _ _=>gG λ_=>rfl
 have CJ:pO K "put" "Book.put" (inClass (top 48) 1) y0 _ _:=⟨⟨_,_,_,_,_,_,_,_,_,_,rfl,l14,c14,_,_,_,d14⟩,JQ⟩
 have b14:=CJ.binds (ps:=["self","word","worth"]) (ds:=[]) λ_ _ _ _ _ _ _ _ us _ _ _ hT hl=>match us,hl with | [_,_,_],_=>.of_defaults rfl hT rfl rfl rfl
 have PD:=CJ.binds (ps:=["self","word","worth"]) (ds:=[.int 0 _]) λ_ _ _ _ _ _ _ _ us _ _ _ hT hl=>have iC:us.length=2:=(by simpa using hl);match us,iC with | [_,_],_=>.of_defaults rfl hT rfl rfl rfl
 have Tw:=bI (st:=(inClass (top 48) 8)) l15 c15 Sz
 have b15:=Tw.binds (ps:=["self","word"]) λ_ _ _ _ _ _=>gH λ_ _=>rfl
 have Tx:=bI (st:=(inClass (top 48) 4)) l16 c16 SD
 have b16:=Tx.binds (ps:=["self","word"]) λ_ _ _ _ _ _=>gH λ_ _=>rfl
 have Tz:=bI (st:=(inClass (top 48) 3)) l17 c17 SE
 have b17:=Tz.binds (ps:=["self"]) λ_ _ _ _ _ _=>gG λ_=>rfl
 have TC:=bI (st:=(top 51)) l18 c18 SF
 have b18:=TC.binds (ps:=["words","pattern"]) λ_ _ _ _ _ _=>gH λ_ _=>rfl
 have TF:=bI (st:=(inClass (top 48) 5)) l19 c19 SG
 have b19:=TF.binds (ps:=["self","pattern"]) λ_ _ _ _ _ _=>gH λ_ _=>rfl
 have TH:=bI (st:=(top 54)) l20 c20 SH
 have b20:=TH.binds (ps:=["_law_sheet_here","_law_line","_law_column"]) λ_ _ _ _ _ _=>i3 λ_ _ _=>rfl
 have TJ:=bI (st:=(top 55)) l21 c21 SJ
 have b21:=TJ.binds (ps:=["_law_sheet_here","_law_line","_law_column","_law_down"]) λ_ _ _ _ _ _=>Am λ_ _ _ _=>rfl
 have TK:=bI (st:=(top 56)) l22 c22 SK
 have b22:=TK.binds (ps:=["_law_sheet_here"]) λ_ _ _ _ _ _=>gG λ_=>rfl
 have TL:=bI (st:=(top 57)) l23 c23 SM
 have b23:=TL.binds (ps:=["_law_sheet_here","_law_cell","_law_sign"]) λ_ _ _ _ _ _=>i3 λ_ _ _=>rfl
 have TM:=bI (st:=(top 62)) l24 c24 SN
 have b24:=TM.binds (ps:=["_law_sheet_here","_law_cells"]) λ_ _ _ _ _ _=>gH λ_ _=>rfl
 have TN:=bI (st:=(top 60)) l25 c25 SO
 have b25:=TN.binds (ps:=["_law_script","_law_number"]) λ_ _ _ _ _ _=>gH λ_ _=>rfl
 have TQ:=bI (st:=(top 27)) l26 c26 SQ
 have b26:=TQ.binds (ps:=["sheet","cells","word"]) λ_ _ _ _ _ _=>i3 λ_ _ _=>rfl
 have TR:=bI (st:=(top 66)) l27 c27 SR
 have b27:=TR.binds (ps:=["_law_sheet_here","_law_cells","_law_word"]) λ_ _ _ _ _ _=>i3 λ_ _ _=>rfl
 have TU:=bI (st:=(top 61)) l28 c28 SS
 have b28:=TU.binds (ps:=["_law_script","_law_floor_here","_law_cell"]) λ_ _ _ _ _ _=>i3 λ_ _ _=>rfl
 have TV:=bI (st:=(top 64)) l29 c29 SU
 have b29:=TV.binds (ps:=["_law_filled_here","_law_cell"]) λ_ _ _ _ _ _=>gH λ_ _=>rfl
 have TX:=bI (st:=(top 63)) l30 c30 SV
 have b30:=TX.binds (ps:=["_law_script","_law_filled_here","_law_start"]) λ_ _ _ _ _ _=>i3 λ_ _ _=>rfl
 have TY:=bI (st:=(top 65)) l31 c31 SW
 have b31:=TY.binds (ps:=["_law_words_here","_law_rows_here","_law_sheet_here","_law_place"]) λ_ _ _ _ _ _=>Am λ_ _ _ _=>rfl
 have TZ:=bI (st:=(top 58)) l32 c32 SX
 have b32:=TZ.binds (ps:=["_law_sheet_here"]) λ_ _ _ _ _ _=>gG λ_=>rfl
 have T8:=bI (st:=(top 59)) l33 c33 SY
 have b33:=T8.binds (ps:=["_law_cell"]) λ_ _ _ _ _ _=>gG λ_=>rfl
 have T9:=bI (st:=(top 38)) l34 c34 S0
 have b34:=T9.binds (ps:=["through","place","cells"]) λ_ _ _ _ _ _=>i3 λ_ _ _=>rfl
 have Ua:=bI (st:=(top 37)) l35 c35 S3
 have b35:=Ua.binds (ps:=["rows"]) λ_ _ _ _ _ _=>gG λ_=>rfl
 have Ub:=bI (st:=(inClass (top 34) 0)) l36 c36 k36
 have b36:=Ub.binds (ps:=["self","book","sheet"]) λ_ _ _ _ _ _=>i3 λ_ _ _=>rfl
 have Uc:=bI (st:=(inClass (top 34) 1)) l37 c37 S4
 have b37:=Uc.binds (ps:=["self","words","signs","at"]) λ_ _ _ _ _ _=>Am λ_ _ _ _=>rfl
 have Ud:=bI (st:=(inClass (top 35) 0)) l38 c38 k38
 have b38:=Ud.binds (ps:=["self","ground","patterns","fits"]) λ_ _ _ _ _ _=>Am λ_ _ _ _=>rfl
 have Ue:=bI (st:=(inClass (top 35) 3)) l39 c39 S5
 have b39:=Ue.binds (ps:=["self","place"]) λ_ _ _ _ _ _=>gH λ_ _=>rfl
 have Ug:=bI (st:=(inClass (top 35) 2)) l40 c40 S6
 have b40:=Ug.binds (ps:=["self"]) λ_ _ _ _ _ _=>gG λ_=>rfl
 have Uh:=bI (st:=(inClass (top 35) 5)) l41 c41 S9
 have b41:=Uh.binds (ps:=["self"]) λ_ _ _ _ _ _=>gG λ_=>rfl
 have Ui:=bI (st:=(inClass (top 35) 1)) l42 c42 Ta
 have b42:=Ui.binds (ps:=["self","place","word"]) λ_ _ _ _ _ _=>i3 λ_ _ _=>rfl
 have Uj:=bI (st:=(top 36)) l43 c43 Tb
 have b43:=Uj.binds (ps:=["book","sheet"]) λ_ _ _ _ _ _=>gH λ_ _=>rfl
 have Uk:=bI (st:=(inClass (top 31) 0)) l44 c44 k44
 have b44:=Uk.binds (ps:=["self","place","parts"]) λ_ _ _ _ _ _=>i3 λ_ _ _=>rfl
 have Ul:=bI (st:=(top 41)) l45 c45 JR
 have Um:=Ul.binds (ps:=["standing","most","found"]) λ_ _ _ _ _ _=>i3 λ_ _ _=>rfl
 have Uo:=bI (st:=(top 15)) l46 c46 Td
 have b46:=Uo.binds (ps:=["sheet"]) λ_ _ _ _ _ _=>gG λ_=>rfl
 have Up:=bI (st:=(top 24)) l47 c47 Te
 have b47:=Up.binds (ps:=["sheet"]) λ_ _ _ _ _ _=>gG λ_=>rfl
 have Uq:=bI (st:=(top 23)) l48 c48 Tf
 have b48:=Uq.binds (ps:=["sheet"]) λ_ _ _ _ _ _=>gG λ_=>rfl
 have CK:pO K "fillings" "fillings" (top 40) CF _ _:=⟨⟨_,_,_,_,_,_,_,_,_,_,rfl,l49,c49,_,_,_,d49⟩,JS⟩
 have b49:=CK.binds (ps:=["book","sheet","most"]) (ds:=[]) λ_ _ _ _ _ _ _ _ us _ _ _ hT hl=>match us,hl with | [_,_,_],_=>.of_defaults rfl hT rfl rfl rfl
 have e49:=CK.binds (ps:=["book","sheet","most"]) (ds:=[.int 2 _]) λ_ _ _ _ _ _ _ _ us _ _ _ hT hl=>have iC:us.length=2:=(by simpa using hl);match us,iC with | [_,_],_=>.of_defaults rfl hT rfl rfl rfl
 have Ur:=bI (st:=(top 67)) l50 c50 Th
 have b50:=Ur.binds (ps:=["_law_words_here","_law_sheet_here"]) λ_ _ _ _ _ _=>gH λ_ _=>rfl
 have Us:=bI (st:=(top 69)) l51 c51 Ti
 have b51:=Us.binds (ps:=["_law_sheet_here","_law_given_here"]) λ_ _ _ _ _ _=>gH λ_ _=>rfl
 have Ut:=bI (st:=(top 68)) l52 c52 JT
 have Uu:=Ut.binds (ps:=["_law_paper","_law_words_here","_law_rows_here","_law_sheet_here","_law_told"]) λ_ _ _ _ _ _=>X7 λ_ _ _ _ _=>rfl
 have Uv:=bI (st:=(top 70)) l53 c53 Tn
 have b53:=Uv.binds (ps:=["_law_script","_law_filled_here"]) λ_ _ _ _ _ _=>gH λ_ _=>rfl
 have Uw:=bI (st:=(top 71)) l54 c54 k54
 have b54:=Uw.binds (ps:=["_law_script"]) λ_ _ _ _ _ _=>gG λ_=>rfl
 refine⟨PySem.W.fnOf "law" "law" (pK (top 71)) (kR (top 71)) (aW (top 71)) .none Sf Sh Si Ri JN Sj,λs v=>.of_eq rfl,λbase _ _=>?_⟩
 have CL:Fn l.prog w K mg base "_law_cell_at" 1 (uA K):=⟨_,_,_,aaL B F0,bD X G a0,k0,b0⟩
 have Ux:Fn l.prog w K mg base "sign_at" 1 (AR K):=⟨_,_,_,aaN F1,bD X G a1,k1,b1⟩
 have JV:Fn l.prog w K mg base "is_open" 2 (xP K):=⟨_,_,_,aaP F2 Fw Ux,bD X G a2,k2,b2⟩
 have ans:Fn l.prog w K mg base "all_cells" 1 (Fy K):=⟨_,_,_,aaQ B F3,bD X G a3,k3,b3⟩
 have Uy:Fn l.prog w K mg base "open_cells" 3 (AU K):=⟨_,_,_,aaS F4 ans JV,bD X G a4,k4,b4⟩
 have ant:Fn l.prog w K mg base "is_open_within" 3 (FA K):=⟨_,_,_,aaV B F5 JV,bD X G a5,k5,b5⟩
 have anu:Fn l.prog w K mg base "row_from" 4 (FC K):=⟨_,_,_,aaW B F6 ant,bD X G a6,k6,b6⟩
 have Uz:Fn l.prog w K mg base "rows_of" 5 (AY K):=⟨_,_,_,aaX F7 FF FG Uy anu,bD X G a7,k7,b7⟩
 have anv:Fn l.prog w K mg base "pattern" 2 (FV K):=⟨_,_,_,aa3 F8 Ux,bD X G a8,k8,b8⟩
 have anw:Fn l.prog w K mg base "with_sign" 1 (mK K):=⟨_,_,_,aa4 B F9,bD X G a9,k9,b9⟩
 have anx:Fn l.prog w K mg base "is_letters" 1 (FY K):=⟨_,_,_,aa7 B FZ Ts,bD X G a10,Ss,b10⟩
 have anz:Fn l.prog w K mg base "is_word" 2 Ga:=⟨_,_,_,abd Gb Ge Tt anx,bD X G a11,Su,b11⟩
 have JW:Fn l.prog w K mg base "need_word" 3 A9:=⟨_,_,_,abg Tu anz,bD X G a12,Sv,b12⟩
 have Jf:Nw l.prog w K mg base "Book" cW 1 (Gf cW):=⟨_,_,_,⟨al6,a13,i13,al7⟩,abj Tv ji sZ,b13,bD X G al1⟩
 have aok:Mt l.prog w K mg base cW "put" 4 (Ba cW) []:=⟨ji,_,_,_,_,⟨Sw,Sx,JQ⟩,Od CJ ji sZ JW,b14,.nil⟩
 have Jg:Mt l.prog w K mg base cW "put" 4 (Ba cW) [.int 0]:=⟨ji,_,_,_,_,⟨Sw,Sx,JQ⟩,Od CJ ji sZ JW,PD,.cons ⟨_,rfl⟩ .nil⟩
 have Gi:Mt l.prog w K mg base cW "need_there" 4 (Gg cW) []:=⟨ji,_,_,_,_,⟨a15,i15,Sz⟩,abl Tw ji sZ JW,b15,.nil⟩
 have vk:Mt l.prog w K mg base cW "worth" 5 (Bb cW) []:=⟨ji,_,_,_,_,⟨SA,i16,SD⟩,abo Tx ji sZ Gi,b16,.nil⟩
 have HM:Mt l.prog w K mg base cW "words" 1 (Gj cW) []:=⟨ji,_,_,_,_,⟨a17,i17,SE⟩,abq B Tz ji sZ,b17,.nil⟩
 have anA:Fn l.prog w K mg base "words_fitting" 1 Gn:=⟨_,_,_,abv B TC oo,bD X G a18,SF,b18⟩
 have Ia:Mt l.prog w K mg base cW "fitting" 2 (Gr cW) []:=⟨ji,_,_,_,_,⟨a19,i19,SG⟩,abx B TF ji sZ anA,b19,.nil⟩
 have anB:Fn l.prog w K mg base "_law_open" 1 (Gs K):=⟨_,_,_,abD B TH,bD X G a20,SH,b20⟩
 have anC:Fn l.prog w K mg base "_law_run" 2 (Gu K):=⟨_,_,_,abE TJ anB,bD X G a21,SJ,b21⟩
 have za:Fn l.prog w K mg base "_law_rows" 3 (sF K):=⟨_,_,_,abG B TK anC,bD X G a22,SK,b22⟩
 have zb:Fn l.prog w K mg base "_law_with" 1 (mK K):=⟨_,_,_,abP B TL,bD X G a23,SM,b23⟩
 have JX:Fn l.prog w K mg base "_law_text" 1 (x8 K):=⟨_,_,_,abR TM,bD X G a24,SN,b24⟩
 have JY:Fn l.prog w K mg base "_law_letter" 2 (x9 K):=⟨_,_,_,abS TN CL,bD X G a25,SO,b25⟩
 have anD:Fn l.prog w K mg base "put_word" 2 (Gz K):=⟨_,_,_,abT B TQ anw,bD X G a26,SQ,b26⟩
 have anE:Fn l.prog w K mg base "_law_put" 2 (Bh K):=⟨_,_,_,abX B TR zb,bD X G a27,SR,b27⟩
 have anF:Fn l.prog w K mg base "_law_filled" 3 (GG K):=⟨_,_,_,ab5 B TU zb JY,bD X G a28,SS,b28⟩
 have anG:Fn l.prog w K mg base "_law_given" 2 (GH K):=⟨_,_,_,aca B TV zb,bD X G a29,SU,b29⟩
 have anH:Fn l.prog w K mg base "_law_words" 4 (GK K):=⟨_,_,_,aco B TX CL za JX JY,bD X G a30,SV,b30⟩
 have anI:Fn l.prog w K mg base "_law_left" 2 (Bk K):=⟨_,_,_,acM B TY JX,bD X G a31,SW,b31⟩
 have anJ:Fn l.prog w K mg base "_law_good" 4 (G0 K):=⟨_,_,_,ac0 B TZ za,bD X G a32,SX,b32⟩
 have anK:Fn l.prog w K mg base "_law_floor" 5 (G2 K):=⟨_,_,_,ac2 B T8 zb anJ,bD X G a33,SY,b33⟩
 have anL:Fn l.prog w K mg base "crossings_on" 1 (Hg K):=⟨_,_,_,adu T9,bD X G a34,S0,b34⟩
 have anM:Fn l.prog w K mg base "crossings_of" 2 (Hk K):=⟨_,_,_,adA B Ua anL,bD X G a35,S3,b35⟩
 have Ib:Nw l.prog w K mg base "Ground" eJ 6 (HJ K eJ cW):=⟨_,_,_,⟨amd,a36,i36,ame⟩,aej B Ub vO Sk JO Sl amf Sm Uz anM HM vk,b36,bD X G al8⟩
 have Hy:Mt l.prog w K mg base eJ "narrowed" 1 (Hr K eJ) []:=⟨vO,_,_,_,_,⟨a37,i37,S4⟩,adL Uc vO Sm,b37,.nil⟩
 have vh:Nw l.prog w K mg base "Standing" dN 1 (BC dN):=⟨_,_,_,⟨aml,a38,i38,amm⟩,adN Ud oP JP y9 CH,b38,bD X G amg⟩
 have vw:Mt l.prog w K mg base dN "left" 1 (BD K dN) []:=⟨oP,_,_,_,_,⟨a39,i39,S5⟩,adS Ue oP y9 CH,b39,.nil⟩
 have vt:Mt l.prog w K mg base dN "narrowest" 1 (BE dN) []:=⟨oP,_,_,_,_,⟨a40,i40,S6⟩,adU B oo Ug oP y9 CH,b40,.nil⟩
 have vv:Mt l.prog w K mg base dN "filled" 3 (BJ K dN eJ) []:=⟨oP,_,_,_,_,⟨a41,i41,S9⟩,adZ B Uh oP vO JP y9 Sk JO anD,b41,.nil⟩
 have vx:Mt l.prog w K mg base dN "after" 3 (BK K dN eJ) []:=⟨oP,_,_,_,_,⟨a42,i42,Ta⟩,ad8 B oo Ui oP vO JP y9 CH Sl vh Hy,b42,.nil⟩
 have UA:Fn l.prog w K mg base "first_standing" 8 (HZ K cW eJ dN):=⟨_,_,_,aep B Uj vO ji JO anv Ia vk anr Ib vh,bD X G a43,Tb,b43⟩
 have vz:Nw l.prog w K mg base "Cases" eT 1 (B2 eT):=⟨_,_,_,⟨ams,a44,i44,amt⟩,aey B Uk JU So Sq,b44,bD X G Sn⟩
 have UB:Fn l.prog w K mg base "closing_paper" 21 (yL K eJ dN fR eT 17):=⟨_,_,_,QE B Ul (bD X G Tc) JR Um vt vv vw vx vy vz 17,bD X G Tc,JR,Um⟩
 have anN:Fn l.prog w K mg base "turned" 1 (IL K):=⟨_,_,_,ae8 B Uo,bD X G a46,Td,b46⟩
 have anO:Fn l.prog w K mg base "rows_through" 6 (IQ K):=⟨_,_,_,afc Up Uz,bD X G a47,Te,b47⟩
 have UC:Fn l.prog w K mg base "need_floor" 7 (IT K):=⟨_,_,_,afi Uq anN Uy JV anO,bD X G a48,Tf,b48⟩
 have anP:Fn l.prog w K mg base "fillings" 22 (yR K cW fR eT):=⟨_,_,_,QP CK UC UA UB,bD X G Tg,JS,b49⟩
 have anQ:EM l.prog w K mg base "fillings" 22 (yR K cW fR eT) [.int 2]:=⟨_,_,_,_,QP CK UC UA UB,bD X G Tg,JS,e49,.cons ⟨_,rfl⟩ .nil⟩
 have anR:Fn l.prog w K mg base "_law_is_filling" 4 (IZ K):=⟨_,_,_,afC B Ur za JX,bD X G a50,Th,b50⟩
 have anS:Fn l.prog w K mg base "_law_agreeing" 1 (I0 K):=⟨_,_,_,afD B Us,bD X G a51,Ti,b51⟩
 have anT:Fn l.prog w K mg base "_law_walked" 20 (yW K fR eT 17):=⟨_,_,_,Q3 B Ut (bD X G Tj) JT Uu vK vL anp anq vM JU So Sq anI anE 17,bD X G Tj,JT,Uu⟩
 have anU:Fn l.prog w K mg base "_law_sheet" 4 (Jb K):=⟨_,_,_,afL B Uv CL anG za zb JY,bD X G a53,Tn,b53⟩
 exact afS B Uw CL anK anF anH anU za Jf Jg anP anQ anS anR anT
theorem walk{l:PySem.W.OpenLaw}{q:Program}{loose:List Str}{XP:(Str->Option Value)->Heap->Prop}{YP:World->Heap->Prop}{d:DefRec}{K:Params->PySem.W.Frag}(hn:l.most=some 63)(wQ:d.params.defaults=[])
  (hY:∀(w:World) (h:Heap),YP w h->(K w.params).In h)
  (F:∀(w:World) (mg:Str->Option Value) (fa:Addr) (h:Heap),(K w.params).In h->h.Ns mainGlobals mg->mg d.name=some (.ref fa)->
   ∃fd:FuncData,(∀(s:Shared) (u:Value),BindsTo s fd ⟨[u],[]⟩ [("_law_script",u)])/\∀base:Heap,(K w.params).In base->base.Ns mainGlobals mg->aS l.prog w (K w.params) mg base aY 23 fa fd ["_law_script"] (Ci (K w.params))) :
  PySem.W.WalkO q loose XP YP l.row.toRowW d [] (λf vs=>PySem.call f vs):=
 L2.Xk (n:=63) (k:=23) (x:="_law_script") (CX:=λ_=>aY) (sp:=λw=>Ci (K w.params)) hn (by decide) wQ ⟨rfl,by decide,by decide,rfl⟩ hY F (λ_ _ a ns hl _ hS=>⟨a,ns,rfl,hS,hl,λ_=>rfl⟩) λ_ _ _ _ _ z=>z
end Cw
namespace PySem.W.Fast
theorem tw12941461576355054647:1=1:=rfl
theorem tw12182936234944053974:1=1:=rfl
theorem tw8645686252422706661:1=1:=rfl
theorem tw10381871057072456259:1=1:=rfl
theorem tw7060796556110300677:1=1:=rfl
theorem tw16141005442832517872:1=1:=rfl
theorem tw17045616270673299643:1=1:=rfl
theorem tw16731269296747138743:1=1:=rfl
theorem tw15093017882613663489:1=1:=rfl
theorem tw10322571669355099927:1=1:=rfl
theorem tw15035358351751161242:1=1:=rfl
theorem tw17068137573200516573:1=1:=rfl
theorem tw7908348494833211727:1=1:=rfl
theorem tw18116238254053286809:1=1:=rfl
theorem tw7783776049444952404:1=1:=rfl
theorem tw9997308738062470745:1=1:=rfl
theorem tw15579707922684001947:1=1:=rfl
theorem tw11709578500100839118:1=1:=rfl
theorem tw16656470177176340413:1=1:=rfl
theorem tw15062570481085357119:1=1:=rfl
theorem tw4067358085849408876:1=1:=rfl
theorem tw6312862692111548956:1=1:=rfl
theorem tw14892152955427873506:1=1:=rfl
theorem tw3455550565557017339:1=1:=rfl
theorem tw3639645242955897214:1=1:=rfl
theorem tw15872908449856254272:1=1:=rfl
theorem tw5634650702399800676:1=1:=rfl
theorem tw10828615075565292752:1=1:=rfl
theorem tw2589345805459934363:1=1:=rfl
theorem tw2014766281136964760:1=1:=rfl
theorem tw13774211723748199584:1=1:=rfl
theorem tw9216732442034409579:1=1:=rfl
theorem tw9921571154014059651:1=1:=rfl
theorem tw11322311658705454929:1=1:=rfl
theorem tw6882203931873351177:1=1:=rfl
theorem tw9950121254724081752:1=1:=rfl
theorem tw14345305681121972794:1=1:=rfl
theorem tw8482828913353449436:1=1:=rfl
theorem tw9448563888919272323:1=1:=rfl
theorem tw1046223118805472244:1=1:=rfl
theorem tw7192493183285839615:1=1:=rfl
theorem tw11465959580637472928:1=1:=rfl
theorem tw5585568719716012905:1=1:=rfl
theorem tw8530879234137154936:1=1:=rfl
theorem tw3389759869526922633:1=1:=rfl
theorem tw6521651498021735857:1=1:=rfl
theorem tw15104599773129106276:1=1:=rfl
theorem tw15820111621780484297:1=1:=rfl
theorem tw3748291598808969870:1=1:=rfl
theorem tw4562302344157614239:1=1:=rfl
theorem tw15920360745653574776:1=1:=rfl
theorem tw5238638920329052510:1=1:=rfl
theorem tw4604930932775936622:1=1:=rfl
theorem tw9508698338392013288:1=1:=rfl
theorem tw14664699117629050346:1=1:=rfl
theorem tw13168773106510146147:1=1:=rfl
theorem tw2913609566536332369:1=1:=rfl
theorem tw6324613275994620626:1=1:=rfl
theorem tw15449926712988476971:1=1:=rfl
theorem tw16209316452748516266:1=1:=rfl
theorem tw3125149444342266623:1=1:=rfl
theorem tw1025005274368116520:1=1:=rfl
theorem tw15655513610133956850:1=1:=rfl
theorem tw8683999105982616857:1=1:=rfl
theorem tw10235342582069431396:1=1:=rfl
theorem tw10760595518210268889:1=1:=rfl
theorem tw4113806018866564242:1=1:=rfl
theorem tw15507647864084312371:1=1:=rfl
theorem tw12954208844761997470:1=1:=rfl
theorem tw4309038765720230839:1=1:=rfl
theorem tw3556361226778556507:1=1:=rfl
theorem tw2305036403005094489:1=1:=rfl
theorem tw11096965396971706082:1=1:=rfl
theorem tw5379185025588182943:1=1:=rfl
theorem tw6289774737533880347:1=1:=rfl
theorem tw6937596301360515705:1=1:=rfl
theorem tw12133198481013287150:1=1:=rfl
theorem tw17519863437236203730:1=1:=rfl
theorem tw7278075837759912486:1=1:=rfl
theorem tw7121449693704704958:1=1:=rfl
theorem tw18367410929868382469:1=1:=rfl
theorem tw15464568965223408333:1=1:=rfl
theorem tw15228882443371682384:1=1:=rfl
theorem tw15966247754341973013:1=1:=rfl
theorem tw6165817244806054281:1=1:=rfl
theorem tw2235291316508649940:1=1:=rfl
theorem tw1624454970783507289:1=1:=rfl
theorem tw10071469859104304802:1=1:=rfl
theorem tw5308753783132319266:1=1:=rfl
theorem tw14562861023683514700:1=1:=rfl
theorem tw15102111865654323868:1=1:=rfl
theorem tw5071547963611647194:1=1:=rfl
theorem tw2642457855905818692:1=1:=rfl
theorem tw4456622271284376693:1=1:=rfl
theorem tw1029162717354647481:1=1:=rfl
theorem tw3413344150554159447:1=1:=rfl
theorem tw6161118473705293389:1=1:=rfl
theorem tw3109348867067162196:1=1:=rfl
theorem tw12690573339867864567:1=1:=rfl
theorem tw3385704994043748489:1=1:=rfl
theorem tw9573650883149854668:1=1:=rfl
theorem tw8767458824698303262:1=1:=rfl
theorem tw6877958314131745181:1=1:=rfl
theorem tw8392903641742936824:1=1:=rfl
theorem tw15626054700908272388:1=1:=rfl
theorem tw14486023308147926038:1=1:=rfl
theorem tw16291571148248425829:1=1:=rfl
theorem tw3362081576687111518:1=1:=rfl
theorem tw112792230762220710:1=1:=rfl
theorem tw2266140102696804585:1=1:=rfl
theorem tw13647336209638053332:1=1:=rfl
theorem tw11600118916091973711:1=1:=rfl
theorem tw18222319630544794301:1=1:=rfl
theorem tw78722060108023660:1=1:=rfl
theorem tw10611574445754953768:1=1:=rfl
theorem tw3862862672177840043:1=1:=rfl
theorem tw11284066786017991988:1=1:=rfl
theorem tw16551365976879080957:1=1:=rfl
theorem tw2218461688176808832:1=1:=rfl
theorem tw10394044732135083840:1=1:=rfl
theorem tw1088215363977061600:1=1:=rfl
theorem tw8475511908472975945:1=1:=rfl
theorem tw14883660913956907901:1=1:=rfl
theorem tw423058843211998159:1=1:=rfl
theorem tw6287626236915857330:1=1:=rfl
theorem tw16603287410543317179:1=1:=rfl
theorem tw16586935589569647818:1=1:=rfl
theorem tw10399666720578958857:1=1:=rfl
theorem tw3947750526846118918:1=1:=rfl
theorem tw14027033404298244013:1=1:=rfl
theorem tw15220812704471249270:1=1:=rfl
theorem tw18322866685624585748:1=1:=rfl
theorem tw15369137734530971072:1=1:=rfl
theorem tw8631735551801556081:1=1:=rfl
theorem tw11769178892721346268:1=1:=rfl
theorem tw3132439946265486687:1=1:=rfl
theorem tw8519817380391072322:1=1:=rfl
theorem tw7378196576009124658:1=1:=rfl
theorem tw12538380680532379000:1=1:=rfl
theorem tw12135686803793612533:1=1:=rfl
theorem tw17098966335770604031:1=1:=rfl
theorem tw184366641643414690:1=1:=rfl
theorem tw14605715731857991680:1=1:=rfl
theorem tw16864548814514973522:1=1:=rfl
theorem tw10535583734906959820:1=1:=rfl
theorem tw10017801064898488655:1=1:=rfl
theorem tw3819256857288191834:1=1:=rfl
theorem tw18185545011630270532:1=1:=rfl
theorem tw10143225189038652604:1=1:=rfl
theorem tw11543338679952095149:1=1:=rfl
theorem tw13583917936133305507:1=1:=rfl
theorem tw13625436440310486167:1=1:=rfl
theorem tw6642852150015417534:1=1:=rfl
theorem tw14712432938803718395:1=1:=rfl
theorem tw2885003747031971920:1=1:=rfl
theorem tw7171866237994585680:1=1:=rfl
theorem tw649202058524096361:1=1:=rfl
theorem tw8548859601311039812:1=1:=rfl
theorem tw6189435764418545023:1=1:=rfl
theorem tw10928354697554528464:1=1:=rfl
theorem tw9457619737343457444:1=1:=rfl
theorem tw3040944295802400271:1=1:=rfl
theorem tw9552398184034606703:1=1:=rfl
theorem tw454924758908280031:1=1:=rfl
theorem tw16656163787333203274:1=1:=rfl
theorem tw16662696367149025452:1=1:=rfl
theorem tw3696797290465793611:1=1:=rfl
theorem tw8881472716646148029:1=1:=rfl
theorem tw14358786625776415420:1=1:=rfl
theorem tw12914410165152876594:1=1:=rfl
theorem tw9133508724106094325:1=1:=rfl
theorem tw3213551923245589137:1=1:=rfl
theorem tw9627546776664831307:1=1:=rfl
theorem tw17784331891224450173:1=1:=rfl
theorem tw8418632764630904739:1=1:=rfl
theorem tw14376168075659984411:1=1:=rfl
theorem tw14193321365198044209:1=1:=rfl
theorem tw5948021818446848765:1=1:=rfl
theorem tw1515579973023868364:1=1:=rfl
theorem tw17870231727402340676:1=1:=rfl
theorem tw4893717118082764053:1=1:=rfl
theorem tw15820497369825847104:1=1:=rfl
theorem tw17300385333894436332:1=1:=rfl
theorem tw17985737863377393590:1=1:=rfl
theorem tw13501754853725497324:1=1:=rfl
theorem tw4052383850153922937:1=1:=rfl
theorem tw6989396648048067445:1=1:=rfl
theorem tw16163540503780419964:1=1:=rfl
theorem tw9073842622407719760:1=1:=rfl
theorem tw8510050616605232530:1=1:=rfl
theorem tw2361788006290875386:1=1:=rfl
theorem tw7278297855176334215:1=1:=rfl
theorem tw7110140934026918043:1=1:=rfl
theorem tw13253111875294740644:1=1:=rfl
theorem tw18292545223403069041:1=1:=rfl
theorem tw17154864079083467147:1=1:=rfl
theorem tw1117371522960442017:1=1:=rfl
theorem tw4553376838816560724:1=1:=rfl
theorem tw14920738486674942339:1=1:=rfl
theorem tw14320357885443517247:1=1:=rfl
theorem tw13214887533934830439:1=1:=rfl
theorem tw500699415572907951:1=1:=rfl
theorem tw17222265520538788189:1=1:=rfl
theorem tw7291148151458625512:1=1:=rfl
theorem tw12456982388865641066:1=1:=rfl
theorem tw3519801126509124203:1=1:=rfl
theorem tw6499380497192938579:1=1:=rfl
theorem tw2978540433047492971:1=1:=rfl
theorem tw5216364857957740530:1=1:=rfl
theorem tw3728597095708338427:1=1:=rfl
theorem tw13629488689965781654:1=1:=rfl
theorem tw5068980370203576060:1=1:=rfl
theorem tw16161747965561130586:1=1:=rfl
theorem tw16162890864707915881:1=1:=rfl
theorem tw14116130661534272174:1=1:=rfl
theorem tw10278906725447334458:1=1:=rfl
theorem tw10036730632452967801:1=1:=rfl
theorem tw16737702194054731266:1=1:=rfl
theorem tw14267559389501046063:1=1:=rfl
theorem tw10355646245713405446:1=1:=rfl
theorem tw8115183158951810598:1=1:=rfl
theorem tw11772823632559746426:1=1:=rfl
theorem tw3241424644368417188:1=1:=rfl
theorem tw9094442885646755950:1=1:=rfl
theorem tw7013853408765064041:1=1:=rfl
theorem tw9694874889489383286:1=1:=rfl
theorem tw16498698374140949185:1=1:=rfl
theorem tw15848376443223556628:1=1:=rfl
theorem tw6102224957727023738:1=1:=rfl
theorem tw12894538264715246837:1=1:=rfl
theorem tw7880096648505565127:1=1:=rfl
theorem tw697971171694204917:1=1:=rfl
theorem tw4113022662264106920:1=1:=rfl
theorem tw3688252211392962151:1=1:=rfl
theorem tw3272482112306921176:1=1:=rfl
theorem tw17333705895139223930:1=1:=rfl
theorem tw13101849433264531117:1=1:=rfl
theorem tw5981596072527531993:1=1:=rfl
theorem tw13946704645622174504:1=1:=rfl
theorem tw10232044617177026989:1=1:=rfl
theorem tw2835647333674891590:1=1:=rfl
theorem tw11004337415005498315:1=1:=rfl
theorem tw1073333465628170145:1=1:=rfl
theorem tw6674069399455406925:1=1:=rfl
theorem tw1730944117905176661:1=1:=rfl
theorem tw12762675983060592550:1=1:=rfl
theorem tw23953188726709876:1=1:=rfl
theorem tw14690273900876288406:1=1:=rfl
theorem tw4268531300144974610:1=1:=rfl
theorem tw6232147316981025383:1=1:=rfl
theorem tw15145376607939849940:1=1:=rfl
theorem tw10096839311618795577:1=1:=rfl
theorem tw16661797791993525565:1=1:=rfl
theorem tw7807237500318437514:1=1:=rfl
theorem tw5769319322605072890:1=1:=rfl
theorem tw14146840375743688585:1=1:=rfl
theorem tw10718891959981100438:1=1:=rfl
theorem tw10395516211290410943:1=1:=rfl
theorem tw18393394890725155803:1=1:=rfl
theorem tw1475685936813179503:1=1:=rfl
theorem tw7580529422771553353:1=1:=rfl
theorem tw17463061348604953402:1=1:=rfl
theorem tw6439989153172907348:1=1:=rfl
theorem tw16573806968037662747:1=1:=rfl
theorem tw12350450477899863308:1=1:=rfl
theorem tw1018054998535280467:1=1:=rfl
theorem tw8749223501956381538:1=1:=rfl
theorem tw6151226498135845547:1=1:=rfl
theorem tw7814907576090212481:1=1:=rfl
theorem tw5131887718782496937:1=1:=rfl
theorem tw4051807981326589364:1=1:=rfl
theorem tw17026965597351935927:1=1:=rfl
theorem tw16101584193165593478:1=1:=rfl
theorem tw15945182357574502506:1=1:=rfl
theorem tw15525319162604053225:1=1:=rfl
theorem tw13571693070121272790:1=1:=rfl
theorem tw11299615055670891124:1=1:=rfl
theorem tw10913718311847394404:1=1:=rfl
theorem tw13469163224450208426:1=1:=rfl
theorem tw12638411666226862503:1=1:=rfl
theorem tw9025125270447777968:1=1:=rfl
theorem tw17071032716896496172:1=1:=rfl
theorem tw5272606529695160162:1=1:=rfl
theorem tw17753083046751859545:1=1:=rfl
theorem tw15812574066893643776:1=1:=rfl
theorem tw14563894522928009728:1=1:=rfl
theorem tw10079788208826042048:1=1:=rfl
theorem tw9902835047703214625:1=1:=rfl
theorem tw5221104325947933764:1=1:=rfl
theorem tw18396751749369885412:1=1:=rfl
theorem tw15664790266867749542:1=1:=rfl
theorem tw8446601031480707720:1=1:=rfl
theorem tw3241172493349041000:1=1:=rfl
theorem tw6232604023460643049:1=1:=rfl
theorem tw1881817157496691369:1=1:=rfl
theorem tw13292238218665939371:1=1:=rfl
theorem tw16122899647144359628:1=1:=rfl
theorem tw8021311752418871052:1=1:=rfl
theorem tw11715170840079139181:1=1:=rfl
theorem tw6945486153998156655:1=1:=rfl
theorem tw16812459943699427440:1=1:=rfl
theorem tw12132566417901035569:1=1:=rfl
theorem tw10364806489555727666:1=1:=rfl
theorem tw15660268571745431026:1=1:=rfl
theorem tw9118772759075132019:1=1:=rfl
theorem tw9421601417567935604:1=1:=rfl
theorem tw17134340488944828756:1=1:=rfl
theorem tw96399391084086964:1=1:=rfl
theorem tw9117682878368720852:1=1:=rfl
theorem tw3026630851925085237:1=1:=rfl
theorem tw15695630554349476886:1=1:=rfl
theorem tw10057443384463709944:1=1:=rfl
theorem tw2081232151645433433:1=1:=rfl
theorem tw14729822962558328986:1=1:=rfl
theorem tw10871341665877092571:1=1:=rfl
theorem tw14101169472585336219:1=1:=rfl
theorem tw13631636389831107227:1=1:=rfl
theorem tw9871035738148999229:1=1:=rfl
theorem tw17905986026955189727:1=1:=rfl
theorem tw17422852700797394260:1=1:=rfl
end PySem.W.Fast
open PySem PySem.W PyProof.Rows
set_option maxRecDepth 100000 in
set_option maxHeartbeats 0 in
theorem PySem.Challenge.cw_crosswright_k41_whole_fillings_holds : PySem.Challenge.rw_crosswright_k41_whole_fillings.Holds := by
  w_on; o_law; k_head; (case hw => w_witness2)
  k_fill
  refine Cw.walk (l := PySem.Challenge.rw_crosswright_k41_whole_fillings) rfl rfl (fun w h Y => PySem.W.kIn_of Y) ?F
  case F =>
    intro w mg fa h KX G hmg
    refine' Cw.all_mk KX G hmg ?_ ?_ ?_ ?_ ?_ ?_ ?_ ?_ ?_ ?_ ?_ ?_ ?_ ?_ ?_ ?_ ?_ ?_ ?_ ?_ ?_ ?_ ?_ ?_ ?_ ?_ ?_ ?_ ?_ ?_ ?_ ?_ ?_ ?_ ?_ ?_ ?_ ?_ ?_ ?_ ?_ ?_ ?_ ?_ ?_ ?_ ?_ ?_ ?_ ?_ ?_ ?_ ?_ ?_ ?_ ?_ ?_ ?_ ?_ ?_ ?_ ?_ ?_ ?_ ?_ ?_ ?_ ?_ ?_ ?_ ?_ ?_ ?_ ?_ ?_ ?_ ?_ ?_ ?_ ?_ ?_ ?_ ?_ ?_ ?_ ?_ ?_ ?_ ?_ ?_ ?_ ?_ ?_ ?_ ?_ ?_ ?_ ?_ ?_ ?_ ?_ ?_ ?_ ?_ ?_ ?_ ?_ ?_ ?_ ?_ ?_ ?_ ?_ ?_ ?_ ?_ ?_ ?_ ?_ ?_ ?_ ?_ ?_ ?_ ?_ ?_ ?_ ?_ ?_ ?_ ?_ ?_ ?_ ?_ ?_ ?_ ?_ ?_ ?_ ?_ ?_ ?_ ?_ ?_ ?_ ?_ ?_ ?_ ?_ ?_ ?_ ?_ ?_ ?_ ?_ ?_ ?_ ?_ ?_ ?_ ?_ ?_ ?_ ?_ ?_ ?_ ?_ ?_ ?_ ?_ ?_ ?_ ?_ ?_ ?_ ?_ ?_ ?_ ?_ ?_ ?_ ?_ ?_ ?_ ?_ ?_ ?_ ?_ ?_ ?_ ?_ ?_ ?_ ?_ ?_ ?_ ?_ ?_ ?_ ?_ ?_ ?_ ?_ ?_ ?_ ?_ ?_ ?_ ?_ ?_ ?_ ?_ ?_ ?_ ?_ ?_ ?_ ?_ ?_ ?_ ?_ ?_ ?_ ?_ ?_ ?_ ?_ ?_ ?_ ?_ ?_ ?_ ?_ ?_ ?_ ?_ ?_ ?_ ?_ ?_ ?_ ?_ ?_ ?_ ?_ ?_ ?_ ?_ ?_ ?_ ?_ ?_ ?_ ?_ ?_ ?_ ?_ ?_ ?_ ?_ ?_ ?_ ?_ ?_ ?_ ?_ ?_ ?_ ?_ ?_ ?_ ?_ ?_ ?_ ?_ ?_ ?_ ?_ ?_ ?_ ?_ ?_ ?_ ?_ ?_ ?_ ?_ ?_ ?_ ?_ ?_ ?_ ?_ ?_ ?_ ?_ ?_ ?_ ?_ ?_ ?_ ?_ ?_ ?_ ?_ ?_ ?_ ?_ ?_ ?_ ?_ ?_ ?_ ?_ ?_ ?_ ?_ ?_
    repeat (first | (show _ = _; k_is) | (with_unfolding_all exact rfl) | kernel_rfl)
#print axioms PySem.Challenge.cw_crosswright_k41_whole_fillings_holds
