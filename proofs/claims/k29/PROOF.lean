import PyProof.Rows.All
import Wide.All
import OpenK.AllK
import Wide.FinOn
import Lean
import PyProof.EqAt
import PyProof.EqKinds
import PyProof.TupleCall
import PySem.Challenge.RW_truceroll_k29_whole_joins_stay
set_option Elab.async false
set_option linter.all false
set_option maxRecDepth 100000
set_option maxHeartbeats 0
def az:=@PySem.wpAny_bind
def aM:=@List.length_map
def bD:=@List.getElem?_eq_getElem
def cy:=@List.getElem?_eq_some_iff
def aK:=@PySem.wpAny_pure
def cF:=@PySem.Heap.get?_push_of_some
def aU:=@Nat.le_refl
def aO:=@PyProof.Rows.wpS_bind
def dF:=@Array.length_toList
def cZ:=@List.size_toArray
def aS:=@PySem.Heap.lt_size
def bR:=@List.mem_singleton
def aA:=@if_neg
def aH:=@PyProof.Rows.wpS_pure
def cw:=@List.length_append
def bP:=@List.map_append
def aB:=@if_pos
def bT:=@List.mem_append
def dE:=@List.mem_of_getElem?
def fC:=@List.getElem?_append_right
def cz:=@List.length_take
def di:=@List.mem_cons_self
def bH:=@List.mem_map
def cv:=@Option.some.inj
def dD:=@PySem.Heap.get?_push_size
def bK:=@Nat.ne_of_lt
def cR:=@List.getElem?_map
def gi:=@List.getD_eq_getElem?_getD
def gh:=@List.getElem?_append_left
def dh:=@Bool.and_eq_true
def dS:=@Nat.lt_of_lt_of_le
def cu:=@PySem.W.mg_of
def fw:=@List.mem_cons_of_mem
def g9:=@Array.getElem?_eq_getElem
def eM:=@Bool.false_ne_true
def fB:=@Bool.false_eq_true
def gD:=@List.mem_iff_getElem
def fu:=@List.take_length
def eJ:=@PySem.PassesOwn.never
def df:=@Nat.le_trans
def iI:=@List.mem_append_right
def dR:=@List.mem_cons
def ja:=@List.length_singleton
def eI:=@List.map_cons
def j5:=@PySem.F.plainAttrs_list
def gb:=@List.length_cons
def jE:=@List.getElem?_eq_none
def lQ:=@PySem.F.type_list_append
def lP:=@PySem.F.slot_list_append
def g8:=@decide_eq_true_eq
def g7:=@Array.getElem_mem
def dG:=@Nat.zero_le
def bU:=@if_false
def iH:=@PySem.wpAny_newObj_type
def dq:=@PySem.wpAny_mono
def j4:=@List.mem_append_left
def lO:=@Array.getElem?_toList
def eL:=@PyProof.Rows.wpS_forRange
def qq:=@Array.getD_eq_getD_getElem?
def lN:=@List.pairwise_append
def lM:=@Array.toList_append
def jD:=@List.length_drop
def jC:=@List.all_eq_true
def iZ:=@Bool.eq_iff_iff
def j3:=@List.append_assoc
def cp:=@Iff.rfl
def jB:=@List.append_nil
def oV:=@PySem.Heap.get?_update_self
def ml:=@PySem.W.mg_none_of
def oU:=@PySem.mem_of_lookup
def gC:=@Int.le_refl
def qp:=@List.length_filter_le
def iG:=@List.map_map
def iY:=@PySem.wpAny_holding
def lL:=@PySem.wpAny_call_entry
def qo:=@Nat.pow_le_pow_right
def vj:=@Array.perm_iff_toList_perm
def tV:=@List.take_of_length_le
def mj:=@List.lookup_cons
def dQ:=@PyProof.Rows.wpS_mono
def tU:=@PySem.Heap.get?_update_other
def mh:=@PySem.Around.in1_units
def j0:=@Nat.lt_irrefl
def lK:=@List.lt_irrefl
def Ce:=@PySem.F.slot_dict_keyiterator_next
def iX:=@Nat.le_succ
def tT:=@List.mem_of_mem_take
def qm:=@List.nodup_append
def ql:=@List.ext_getElem?
def tS:=@List.toList_toArray
def tR:=@List.map_congr_left
def oR:=@List.nodup_cons
def xR:=@Classical.byContradiction
def vi:=@List.take_append_drop
def tQ:=@PySem.Heap.SameBut.update
def qj:=@beq_self_eq_true
def tP:=@PySem.F.called_set
def qi:=@List.any_eq_true
def tO:=@Array.toList_push
def vh:=@PySem.Around.under_plainId
def jb:=@Nat.le_of_lt
def mD:=@List.getElem_inj
def pJ:=@List.filter_append
def vJ:=@Array.getElem?_eq_some_iff
def vI:=@List.pairwise_iff_getElem
def mC:=@List.mem_filter
def pI:=@Option.some.injEq
def jP:=@Nat.sub_self
def pH:=@Nat.lt_succ_of_lt
def pG:=@List.take_add_one
def mB:=@PySem.wpAny_specialOf
def mz:=@PySem.codeAny_builtin
def my:=@List.mem_range
def pF:=@List.getElem_map
def sf:=@PySem.Heap.get?_none_of_le
def pE:=@Array.toList_map
def gF:=@PyProof.Rows.wpS_modify
def iy:=@PySem.wpAny_rule
def se:=@decide_eq_true_iff
def kI:=@Nat.ne_of_gt
def vH:=@PySem.wpAny_callSpecial?_slot
def gj:=@congrArg
def pD:=@Option.map_some
def mw:=@Bool.not_true
def vG:=@List.length_replicate
def zL:=@PySem.wpAny_typeNameOfWhole_keyiter
def fz:=@Ne.symm
def sd:=@Int.toNat_natCast
def rZ:=@PySem.wpAny_setField_rec
def pC:=@PySem.wpAny_passesOwn
def vF:=@List.getElem?_of_mem
def fK:=@if_true
def rY:=@Option.join_some
def rX:=@List.getElem_mem
def rW:=@List.filter_cons
def rV:=@PySem.wpAny_truthy_bool
def rT:=@PySem.wpAny_setState_of
def jO:=@PyProof.Rows.mirror_perm
def vE:=@beq_eq_false_iff_ne
def kG:=@PySem.sizeLine_eq
def pB:=@List.any_cons
def rS:=@Nat.not_lt_zero
def rR:=@List.foldl_cons
def rQ:=@List.find?_cons
def rP:=@List.cons.injEq
def rO:=@Bool.or_eq_true
def rN:=@PySem.wpAny_isInstance
def vD:=@Nat.lt_of_le_of_lt
def zK:=@PySem.F.plain_list_iadd
def zJ:=@List.getElem?_cons_succ
def zH:=@PySem.wpAny_typeNameOf_keyiter
def vC:=@Option.isSome_map
def pA:=@Nat.pow_succ
def vB:=@Nat.le_succ_of_le
def rM:=@List.nodup_nil
def zG:=@List.drop_eq_nil_of_le
def vA:=@PySem.wpAny_Call_Name_kw
def GD:=@PyProof.Rows.slot_tuple_getitem
def vz:=@PySem.Obj.data_mapFields
def rL:=@Nat.add_assoc
def rK:=@List.lt_trans
def rJ:=@List.all_cons
def rH:=@PySem.wpAny_fieldsOf
def px:=@PySem.codeAny_mono
def rG:=@PySem.Heap.size_push
def zF:=@Array.toList_reverse
def pk:=@PyProof.Rows.listUpdate_at
def vy:=@Int.emod_nonneg
def zE:=@List.reverse_append
def zD:=@List.filterMap_cons
def rF:=@PySem.wpAny_standAt
def rE:=@PySem.wpAny_attempt
def pj:=@PySem.wpAny_field
def zC:=@List.pairwise_cons
def GC:=@List.length_eraseIdx_of_lt
def vx:=@List.drop_zero
def zB:=@Int.emod_lt_of_pos
def zA:=@Array.forIn_toList
def Gz:=@List.drop_eq_getElem_cons
def rD:=@Sum.inr.inj
def rC:=@List.not_lt
def zv:=@Bool.not_eq_true'
def Gy:=@PySem.F.args_tuple_add_2
def iw:=@PyProof.Rows.wpS_get
def vw:=@PySem.wpAny_setField
def zu:=@PySem.tupleKind_room_in1
def Gx:=@decide_eq_false_iff_not
def Gw:=@PySem.F.entry_tuple_add
def mq:=@Prod.ext
def zt:=@List.not_mem_nil
def Gv:=@PySem.F.slot_tuple_add
def Gu:=@Option.map_eq_none_iff
def vv:=@Nat.mul_comm
def vt:=@List.map_nil
def Gs:=@List.Perm.append_right
def vq:=@Int.le_trans
def zr:=@PySem.wpAny_pyIter_list
def zq:=@PySem.wpAny_loadPart_at
def zp:=@PySem.fits_of_scanBound
def zm:=@Nat.min_eq_left
def zk:=@PySem.F.slot_tuple_hash
def zj:=@Array.Perm.refl
def vp:=@PySem.wpAny_newList
def vo:=@PySem.plainId_quiet
def Gr:=@PySem.F.slot_dict_get
def Gq:=@List.mem_iff_getElem?
def Gp:=@List.Perm.append_left
def zi:=@PySem.wpAny_forIn_list
def vn:=@List.map_id
def zh:=@List.Perm.refl
def zg:=@PySem.F.slot_bool_hash
def rB:=@PySem.wpAny_call
def Nr:=@PySem.F.args_dict_keyiterator_next_1
def Gn:=@List.map_eq_nil_iff
def zf:=@PySem.wpAny_loadPart'
def zc:=@PySem.wpAny_execs_nil
def Nq:=@PySem.F.entry_dict_keyiterator_next
def zb:=@List.map_take
def Gm:=@PySem.wpAny_isOneOf_keyiter
def Np:=@PySem.wpAny_callSpecialIfBoundUnlessNone?_slot
def Gk:=@PySem.Obj.isFreed_of_fields
def Gj:=@Nat.add_sub_cancel
def Gi:=@List.find?_eq_none
def vm:=@Int.not_lt
def Gh:=@Array.size_extract
def vk:=@PySem.wpAny_of_eq
def Gg:=@PySem.codeAny_call_builtin
def Gf:=@bne_self_eq_false
def za:=@Nat.sub_zero
def Ge:=@List.take_sublist
def Gb:=@List.pairwise_map
def Ga:=@List.find?_isSome
def mn:=@PyProof.Rows.wpS_lift
def FZ:=@PyProof.Rows.F.plain_set_update_loop
def FW:=@PySem.wpAny_setEntries_of
def FV:=@PySem.wpAny_raiseNew_none
def FT:=@PySem.wpAny_isSubtype_exc
def FQ:=@PySem.Value.isStrOf_shape
def Nn:=@PyProof.Rows.callWith_builtin1
def FP:=@Nat.min_eq_right
def FN:=@Nat.lt_succ_self
def FK:=@List.le_antisymm
def FJ:=@List.Sublist.map
def Nk:=@Array.eq_empty_of_size_eq_zero
def Nj:=@List.eq_nil_of_length_eq_zero
def Ni:=@Array.mem_extract_iff_getElem
section
namespace L2
open PySem PySem.Spec PyProof.Rows
abbrev Key:=Sum Int Str
def yu:Key->Value->Bool
 | .inl k,v=>Value.isInt k v
 | .inr x,v=>Value.isStrOf x v
def aDB(w:World):Key->Int
 | .inl k=>hashInt k
 | .inr x=>hashStr w x
theorem cL:∀{k:Key} {v:Value},yu k v=true->(∃i t,k=Sum.inl i/\v=Value.int i t)\/(∃x t,k=Sum.inr x/\v=Value.str x t)
 | .inl i,v,h=>by
  obtain⟨t,e⟩:=Value.isInt_shape (k:=i) (v:=v) h
  exact .inl ⟨i,t,rfl,e⟩
 | .inr x,v,h=>by
  obtain⟨t,e⟩:=FQ (x:=x) (v:=v) h
  exact .inr ⟨x,t,rfl,e⟩
theorem L5(i:Int)(t:Tok):yu (.inl i) (.int i t)=true:=by simp[yu,Value.isInt]
theorem L1(x:Str)(t:Tok):yu (.inr x) (.str x t)=true:=by simp[yu,Value.isStrOf]
theorem Xx(a b:Int):decide ((Sum.inl a:Key)=Sum.inl b)=(a==b):=by
 by_cases e:a=b
 ·subst e;simp
 ·have h:¬(Sum.inl a:Key)=Sum.inl b:=λq=>e (Sum.inl.inj q)
  rw[decide_eq_false h]
  exact(vE.mpr e).symm
theorem Xu(a b:Str):decide ((Sum.inr a:Key)=Sum.inr b)=decide (a=b):=by
 by_cases e:a=b
 ·subst e;simp
 ·have h:¬(Sum.inr a:Key)=Sum.inr b:=λq=>e (rD q)
  rw[decide_eq_false h,decide_eq_false e]
theorem Xw(a:Int)(b:Str):decide ((Sum.inl a:Key)=Sum.inr b)=false:=decide_eq_false (λq=>nomatch q)
theorem Xv(a:Str)(b:Int):decide ((Sum.inr a:Key)=Sum.inl b)=false:=decide_eq_false (λq=>nomatch q)
def cY(prog:Program)(w:World):PySem.KeyKind prog w Key where
 is:=yu
 hash:=aDB w
 inj:=λv a b ha hb=>by
  rcases cL ha with ⟨i,t,rfl,rfl⟩ | ⟨x,t,rfl,rfl⟩
  ·rcases cL hb with ⟨j,u,rfl,e⟩ | ⟨y,u,rfl,e⟩
   ·injection e with e1 _;rw[e1]
   ·exact nomatch e
  ·rcases cL hb with ⟨j,u,rfl,e⟩ | ⟨y,u,rfl,e⟩
   ·exact nomatch e
   ·injection e with e1 _;rw[e1]
 byValue:=λk v h=>by
  rcases cL h with ⟨i,t,rfl,rfl⟩ | ⟨x,t,rfl,rfl⟩ <;> rfl
 pyHash:=λhv h=>by
  rcases cL hv with ⟨i,t,rfl,rfl⟩ | ⟨x,t,rfl,rfl⟩
  ·exact wpAny_pyHash_int h
  ·exact wpAny_pyHash_str h
 eqBool:=λhu hv h=>by
  rcases cL hu with ⟨i,t,rfl,rfl⟩ | ⟨x,t,rfl,rfl⟩
  ·rcases cL hv with ⟨j,u,rfl,rfl⟩ | ⟨y,u,rfl,rfl⟩
   ·rw[Xx]at h;exact wpAny_eqBool_int h
   ·rw[Xw]at h;exact SeqAt.EqAt.int_str i t y u _ _ _ _ h
  ·rcases cL hv with ⟨j,u,rfl,rfl⟩ | ⟨y,u,rfl,rfl⟩
   ·rw[Xv]at h;exact SeqAt.EqAt.str_int x t j u _ _ _ _ h
   ·rw[Xu]at h;exact wpAny_eqBool_str h
 «strs»:=λk x t v h=>by
  rcases cL h with ⟨i,u,rfl,e⟩ | ⟨y,u,rfl,e⟩
  ·exact nomatch e
  ·injection e with e1 _
   subst e1
   cases v <;> rfl
theorem DP(prog:Program)(w:World)(i:Int)(t:Tok):(cY prog w).is (.inl i) (.int i t)=true:=L5 i t
theorem DN(prog:Program)(w:World)(x:Str)(t:Tok):(cY prog w).is (.inr x) (.str x t)=true:=L1 x t
end L2
namespace L2
open PySem PySem.Spec PyProof.Rows
inductive V where
 | non | bl (b:Bool) | int (i:Int) | str (x:Str) | Rc (b:Array UInt8) | flt (b:UInt64) | ref (a:Addr) | ty (n:String)
 deriving DecidableEq
def RelV:V->Value->Prop
 | .non,u=>u=Value.none
 | .bl b,u=>u=Value.bool b
 | .int i,u=>∃t,u=Value.int i t
 | .str x,u=>∃t,u=Value.str x t
 | .Rc b,u=>∃t,u=Value.bytes b t
 | .flt b,u=>∃t,u=Value.float b t
 | .ref a,u=>u=Value.ref a
 | .ty n,u=>u=Value.type n
abbrev Vals:List V->List Value->Prop:=Paired RelV
theorem Vals.length{xs:List V}{us:List Value}(r:Vals xs us):xs.length=us.length:=Paired.length r
theorem Vals.get:∀{xs:List V} {us:List Value} {i:Nat} {x:V},Vals xs us->xs[i]?=some x->∃u,us[i]?=some u/\RelV x u
 | _,_,_,_,.nil,e=>by simp at e
 | _,_,0,_,.cons r _,e=>by simp at e;subst e;exact⟨_,rfl,r⟩
 | _,_,i+1,x,.cons _ t,e=>by
  obtain⟨u,h1,h2⟩:=Vals.get (i:=i) (x:=x) t (by simpa using e)
  exact⟨u,by simpa using h1,h2⟩
theorem Vals.set{x:V}{u:Value}(r:RelV x u):∀{xs:List V} {us:List Value} (i:Nat),Vals xs us->Vals (xs.set i x) (us.set i u)
 | _,_,_,.nil=>.nil
 | _,_,0,.cons _ t=>.cons r t
 | _,_,i+1,.cons q t=>.cons q (Vals.set r i t)
theorem Vals.append:∀{xs ys:List V} {us ws:List Value},Vals xs us->Vals ys ws->Vals (xs++ys) (us++ws)
 | _,_,_,_,.nil,s=>s
 | _,_,_,_,.cons r t,s=>.cons r (Vals.append t s)
theorem Vals.take:∀{xs:List V} {us:List Value} (n:Nat),Vals xs us->Vals (xs.take n) (us.take n)
 | _,_,0,_=>.nil
 | _,_,_+1,.nil=>.nil
 | _,_,n+1,.cons r t=>.cons r (Vals.take n t)
theorem Vals.drop:∀{xs:List V} {us:List Value} (n:Nat),Vals xs us->Vals (xs.drop n) (us.drop n)
 | _,_,0,r=>r
 | _,_,_+1,.nil=>.nil
 | _,_,n+1,.cons _ t=>Vals.drop n t
def uO:Option V->Option Value->Prop
 | some v,some u=>RelV v u
 | none,none=>True
 | _,_=>False
def KV{κ:Type}:List (κ×V)->List (κ×Value)->Prop:=Paired λ(p:κ×V) (q:κ×Value)=>p.1=q.1/\RelV p.2 q.2
def kV:Key->V
 | .inl i=>.int i
 | .inr x=>.str x
inductive HO where
 | lst (xs:List V)
 | tup (xs:List V)
 | dK (kvs:List (Key×V)) | dT (kvs:List (List Key×V))
 | set (S:Int->Bool) (n:Nat)
 | ins (C dx:Addr) (fs:List (Str×V))
 | own (x:Addr)
 | xd (fs:List (Str×V))
 | met (f x:Addr)
 | rng (lo hi:Int)
 | m9 (o:Obj) (u:HO)
 | Wi (ps:Array Value)
 | ext (φ:Heap->Prop)
abbrev Hp:=Addr->Option HO
def upd(H:Hp)(a:Addr)(o:HO):Hp:=λb=>if b=a then some o else H b
theorem ag{H:Hp}{a:Addr}{o:HO}:upd H a o a=some o:=by unfold upd;rw[aB rfl]
theorem au{H:Hp}{a b:Addr}{o:HO}(h:b≠a):upd H a o b=H b:=by unfold upd;rw[aA h]
theorem jG{H:Hp}{a:Addr}{o u:HO}:upd (upd H a o) a u=upd H a u:=by
 funext b;unfold upd;split <;> rfl
theorem fE{H:Hp}{a b:Addr}{o u:HO}(h:H a=some o)(h':H b=some u)(d:o≠u):a≠b:=by
 intro e;subst e;rw[h]at h';exact d (cv h')
theorem ay{H:Hp}{a b:Addr}{o:HO}(h:H a=some o)(h':H b=none):a≠b:=by
 intro e;subst e;rw[h]at h';cases h'
section
variable (P:Program)(w:World)
def dj(H:Hp)(h:Heap)(a:Addr):HO->Prop
 | .lst xs=>xs.length<=sizeLine/\∃(its:List Value) (n:Nat),Vals xs its/\h.get? a=some { cls:=.type "list",data:=.seq its.toArray n }
 | .tup xs=>xs.length<=sizeLine/\∃its:List Value,Vals xs its/\IsTup h a its.toArray
 | .dK kvs=>kvs.length<=sizeLine/\(a==sysModules)=false/\∃vs,KV kvs vs/\h.DictOf (cY P w) a vs
 | .dT kvs=>kvs.length<=sizeLine/\(a==sysModules)=false/\∃xs:List (List Key×Addr×Value),
   Paired (λ(p:List Key×V) (q:List Key×Addr×Value)=>p.1=q.1/\H q.2.1=some (.tup (p.1.map kV))/\RelV p.2 q.2.2) kvs xs/\
   ∃o es ep,h.get? a=some o/\o.ExactDict/\o.data=.dict es ep/\es.toList=xs.map (entryOfKey (tupleKind (cY P w)))/\(xs.map (·.1)).Nodup
 | .set S n=>h.SetOf (intKind P w) a S n
 | .ins C dx fs=>H dx=some (.own a)/\fs.length<=1000/\dx≠a/\h.get? a=some (PySem.W.instObj C dx)/\
   ∃mA,h.Ns1 dx mA/\(∀f,uO (fs.lookup f) (mA f))/\PySem.Within mA (fs.map (·.1))
 | .own _=>∃o,h.get? a=some o
 | .xd fs=>∃mA,h.Ns1 a mA/\∀f,uO (fs.lookup f) (mA f)
 | .rng lo hi=>∃t u v,h.get? a=some { cls:=.type "range",data:=.fields #[.int lo t,.int hi u,.int 1 v] }
 | .m9 o u=>h.get? a=some o/\dj H h a u
 | .Wi ps=>h.get? a=some { cls:=.none,data:=.fields ps }
 | .met f x=>h.get? a=some (PySem.W.methodObj (.ref f) (.ref x))
 | .ext φ=>φ h/\(∃o,h.get? a=some o)/\∀h1 h2:Heap,φ h1->(∀o,h1.get? a=some o->h2.get? a=some o)->φ h2
def ju(H:Hp)(h:Heap):Prop:=∀a o,H a=some o->dj P w H h a o
end
section
variable {P:Program}{w:World}{H H':Hp}{h h':Heap}{a:Addr}{o:HO}
theorem dj.lt(x:dj P w H h a o):a<h.objs.size:=by
 cases o with
 | lst xs=>obtain⟨_,_,_,_,e⟩:=x;exact aS e
 | tup xs=>obtain⟨_,_,_,p⟩:=x;exact p.lt
 | dK kvs=>obtain⟨_,_,_,_,o,_,_,e,_⟩:=x;exact aS e
 | dT kvs=>obtain⟨_,_,_,_,o,_,_,e,_⟩:=x;exact aS e
 | set S n=>obtain⟨o,_,_,_,e,_⟩:=x;exact aS e
 | ins C dx fs=>obtain⟨_,_,_,e,_⟩:=x;exact aS e
 | own y=>obtain⟨_,e⟩:=x;exact aS e
 | xd fs=>obtain⟨_,⟨_,_,_,e,_⟩,_⟩:=x;exact aS e
 | rng lo hi=>obtain⟨_,_,_,e⟩:=x;exact aS e
 | m9 ob u=>obtain⟨e,_⟩:=x;exact aS e
 | Wi ps=>exact aS (show h.get? a=some _ from x)
 | met f y=>exact aS (show h.get? a=some _ from x)
 | ext φ=>obtain⟨_,⟨_,e⟩,_⟩:=x;exact aS e
theorem Paired.Xo{α β:Type}{F G:α->β->Prop}:∀{l₁:List α} {l₂:List β},Paired F l₁ l₂->(∀a b,F a b->G a b)->Paired G l₁ l₂
 | _,_,.nil,_=>.nil
 | _,_,.cons r t,f=>.cons (f _ _ r) (Paired.Xo t f)
theorem dj.stay(x:dj P w H h a o)(k:∀b u,(b=a\/H b=some (.own a))->h.get? b=some u->h'.get? b=some u)
  (ho:∀b,H b=some (.own a)->H' b=some (.own a)) (ht:∀b xs,H b=some (.tup xs)->H' b=some (.tup xs)):dj P w H' h' a o:=by
 induction o with
 | lst xs=>obtain⟨z,its,n,r,e⟩:=x;exact⟨z,its,n,r,k _ _ (.inl rfl) e⟩
 | tup xs=>obtain⟨z,its,r,ob,e,c⟩:=x;exact⟨z,its,r,ob,k _ _ (.inl rfl) e,c⟩
 | dK kvs=>obtain⟨z,y,vs,r,ob,es,ep,e,c⟩:=x;exact⟨z,y,vs,r,ob,es,ep,k _ _ (.inl rfl) e,c⟩
 | dT kvs=>
  obtain⟨z,y,xs,r,ob,es,ep,e,c⟩:=x
  exact⟨z,y,xs,Paired.Xo r λp q z=>⟨z.1,ht _ _ z.2.1,z.2.2⟩,ob,es,ep,k _ _ (.inl rfl) e,c⟩
 | set S n=>obtain⟨ob,es,ep,t,e,c⟩:=x;exact⟨ob,es,ep,t,k _ _ (.inl rfl) e,c⟩
 | ins C dx fs=>
  obtain⟨d,z,ne,e,mA,⟨od,es,ep,e2,c⟩,r⟩:=x
  exact⟨ho _ d,z,ne,k _ _ (.inl rfl) e,mA,⟨od,es,ep,k _ _ (.inr d) e2,c⟩,r⟩
 | own y=>obtain⟨ob,e⟩:=x;exact⟨ob,k _ _ (.inl rfl) e⟩
 | xd fs=>obtain⟨mA,⟨od,es,ep,e,c⟩,r⟩:=x;exact⟨mA,⟨od,es,ep,k _ _ (.inl rfl) e,c⟩,r⟩
 | rng lo hi=>obtain⟨t,u,v,e⟩:=x;exact⟨t,u,v,k _ _ (.inl rfl) e⟩
 | m9 ob u ih=>obtain⟨e,q⟩:=x;exact⟨k _ _ (.inl rfl) e,ih q⟩
 | Wi ps=>
  have e:h.get? a=some { cls:=.none,data:=.fields ps }:=x
  show h'.get? a=some { cls:=.none,data:=.fields ps }
  exact k a _ (.inl rfl) e
 | met f y=>
  have e:h.get? a=some (PySem.W.methodObj (.ref f) (.ref y)):=x
  show h'.get? a=some (PySem.W.methodObj (.ref f) (.ref y))
  exact k a _ (.inl rfl) e
 | ext φ=>obtain⟨p,⟨o,e⟩,st⟩:=x;exact⟨st _ _ p λo q=>k _ _ (.inl rfl) q,⟨o,k _ _ (.inl rfl) e⟩,st⟩
theorem ju.lt(x:ju P w H h)(e:H a=some o):a<h.objs.size:=(x a o e).lt
theorem ju.fresh(x:ju P w H h)(e:h.objs.size<=a):H a=none:=by
 cases q:H a with
 | none=>rfl
 | some u=>exact absurd (dS (x.lt q) e) (j0 _)
theorem ju.kept(x:ju P w H h)(k:∀b u,h.get? b=some u->h'.get? b=some u):ju P w H h':=λa o e=>
 (x a o e).stay (λb u _ q=>k b u q) (λ_ q=>q) λ_ _ q=>q
theorem ju.laid(x:ju P w H h)(k:∀b u,h.get? b=some u->h'.get? b=some u)(hp:h.objs.size<=a)(new:dj P w (upd H a o) h' a o):ju P w (upd H a o) h':=λb u e=>by
 have hn:=x.fresh hp
 by_cases hb:b=a
 ·subst hb;rw[ag]at e;cases e;exact new
 ·rw[au hb]at e
  exact(x b u e).stay (λc v _ q=>k c v q) (λc q=>by rw[au (ay q hn)];exact q) λc xs q=>by rw[au (ay q hn)];exact q
end
def Rd(H:Hp)(a:Addr)(u:HO):Prop:=H a=some u\/∃o,H a=some (.m9 o u)
theorem Rd.ok{P:Program}{w:World}{H:Hp}{h:Heap}{a:Addr}{u:HO}(r:Rd H a u)(x:ju P w H h):dj P w H h a u:=by
 rcases r with r | ⟨o,r⟩
 ·exact x a u r
 ·obtain⟨_,q⟩:=x a _ r
  exact q
def Mut:Option HO->Prop
 | some (.lst _)=>True
 | some (.dK _)=>True
 | some (.dT _)=>True
 | some (.set _ _)=>True
 | some (.ins _ _ _)=>True
 | some (.ext _)=>True
 | _=>False
section
variable {P:Program}{w:World}{H:Hp}{h h':Heap}{x e:Addr}{o':HO}
theorem ju.write(ok:ju P w H h)(mu:Mut (H x))(he:e=x\/H e=some (.own x))(k:∀b u,b≠e->h.get? b=some u->h'.get? b=some u)(Za:∃u,h'.get? e=some u)
  (new:dj P w (upd H x o') h' x o'):ju P w (upd H x o') h':=λb u q=>by
 have aAq:∀c y,H c=some (.own y)->c≠x:=λc y r z=>by subst z;rw[r]at mu;exact mu
 have Pt:∀c xs,H c=some (.tup xs)->c≠x:=λc xs r z=>by subst z;rw[r]at mu;exact mu
 by_cases hb:b=x
 ·subst hb;rw[ag]at q;cases q;exact new
 ·rw[au hb]at q
  by_cases X7:b=e
  ·have q':H b=some (.own x):=by
    rcases he with z | z
    ·exact absurd (X7.trans z) hb
    ·rw[X7];exact z
   rw[q]at q';cases q'
   obtain⟨v,hv⟩:=Za
   exact⟨v,by rw[X7];exact hv⟩
  ·refine(ok b u q).stay (λc v hc r=>k c v ?_ r) (λc r=>by rw[au (aAq c b r)];exact r) λc xs r=>by rw[au (Pt c xs r)];exact r
   rcases hc with rfl | hc
   ·exact X7
   ·rintro rfl
    rcases he with z | z
    ·exact aAq c b hc z
    ·rw[hc]at z;cases z;exact hb rfl
end
structure Un(fs ex:List Addr)(H H':Hp)(h h':Heap):Prop where
 keep:∀b o,h.get? b=some o->H b=none->b∉fs->b∉ex->h'.get? b=some o
 slot:∀b o,h.get? b=some o->H b=none->b∈fs->b∉ex->∃sl,h'.get? b=some { o with slots:=sl }
 free:∀b o,h.get? b=some o->H b=none->b∉ex->H' b=none
 there:∀b o,h.get? b=some o->b∉ex->∃o',h'.get? b=some o'
 tups:∀b xs,H b=some (.tup xs)->H' b=some (.tup xs)
 frzs:∀b o u,H b=some (.m9 o u)->H' b=some (.m9 o u)
 tbls:∀b ps,H b=some (.Wi ps)->∃more,H' b=some (.Wi (ps++more))
section
variable {fs fs' ex ex':List Addr}{H H1 H2:Hp}{h h1 h2 h':Heap}{a x e:Addr}{o:HO}
theorem Un.any(u:Un fs ex H H1 h h1){b:Addr}{ob:Obj}(q:h.get? b=some ob)(n:H b=none)(hx:b∉ex):∃sl,h1.get? b=some { ob with slots:=sl }:=by
 by_cases hb:b∈fs
 ·exact u.slot b ob q n hb hx
 ·exact⟨ob.slots,u.keep b ob q n hb hx⟩
theorem Un.trans(a:Un fs ex H H1 h h1)(b:Un fs ex H1 H2 h1 h2):Un fs ex H H2 h h2 where
 keep:=λc ob q n hc hx=>b.keep c ob (a.keep c ob q n hc hx) (a.free c ob q n hx) hc hx
 slot:=λc ob q n hc hx=>by
  obtain⟨sl,e1⟩:=a.slot c ob q n hc hx
  obtain⟨ZL,e2⟩:=b.slot c _ e1 (a.free c ob q n hx) hc hx
  exact⟨ZL,e2⟩
 free:=λc ob q n hx=>by
  obtain⟨o',e1⟩:=a.there c ob q hx
  exact b.free c o' e1 (a.free c ob q n hx) hx
 there:=λc ob q hx=>by
  obtain⟨o',e1⟩:=a.there c ob q hx
  exact b.there c o' e1 hx
 tups:=λc xs q=>b.tups c xs (a.tups c xs q)
 frzs:=λc ob xs q=>b.frzs c ob xs (a.frzs c ob xs q)
 tbls:=λc ps q=>by
  obtain⟨m1,e1⟩:=a.tbls c ps q
  obtain⟨m2,e2⟩:=b.tbls c _ e1
  exact⟨m1++m2,by rw[e2,Array.append_assoc]⟩
theorem Un.kept(k:∀b u,h.get? b=some u->h'.get? b=some u):Un fs ex H H h h':=
 ⟨λb ob q _ _ _=>k b ob q,λb ob q _ _ _=>⟨ob.slots,k b ob q⟩,λ_ _ _ n _=>n,λb ob q _=>⟨ob,k b ob q⟩,λ_ _ q=>q,λ_ _ _ q=>q,λ_ ps q=>⟨#[],by rw[q];simp⟩⟩
theorem Un.refl:Un fs ex H H h h:=Un.kept λ_ _ q=>q
theorem Un.laid(k:∀b u,h.get? b=some u->h'.get? b=some u)(hp:h.objs.size<=a)(hn:H a=none):Un fs ex H (upd H a o) h h' where
 keep:=λb u q _ _ _=>k b u q
 slot:=λb u q _ _ _=>⟨u.slots,k b u q⟩
 free:=λb u q n _=>by rw[au (bK (dS (aS q) hp))];exact n
 there:=λb u q _=>⟨u,k b u q⟩
 tups:=λb xs q=>by rw[au (ay q hn)];exact q
 frzs:=λb u xs q=>by rw[au (ay q hn)];exact q
 tbls:=λb ps q=>⟨#[],by rw[au (ay q hn),q];simp⟩
theorem Un.write(mu:Mut (H x))(he:e=x\/H e=some (.own x))(k:∀b u,b≠e->h.get? b=some u->h'.get? b=some u)(Za:∃u,h'.get? e=some u):Un fs ex H (upd H x o) h h':=by
 have hx:∀b,H b=none->b≠x:=λb n z=>by subst z;rw[n]at mu;exact mu
 have hb:∀b,H b=none->b≠e:=λb n z=>by
  subst z
  rcases he with r | r
  ·exact hx b n r
  ·rw[n]at r;cases r
 have hm:∀b u,H b=some u->¬Mut (some u)->b≠x:=λb u q nm z=>by subst z;rw[q]at mu;exact nm mu
 refine⟨λb u q n _ _=>k b u (hb b n) q,λb u q n _ _=>⟨u.slots,k b u (hb b n) q⟩,λb u q n _=>by rw[au (hx b n)];exact n,λb u q _=>?_,
  λb xs q=>by rw[au (hm b _ q λz=>z)];exact q,λb u xs q=>by rw[au (hm b _ q λz=>z)];exact q,λb ps q=>⟨#[],by rw[au (hm b _ q λz=>z),q];simp⟩⟩
 by_cases X7:b=e
 ·subst X7;exact Za
 ·exact⟨u,k b u X7 q⟩
end
def trk(h:Heap)(H:Hp):List Addr:=(List.range h.objs.size).filter λa=>(H a).isSome
def Bp(h:Heap)(H:Hp):Heap:=PySem.W.hideAll h (trk h H)
theorem Md(h:Heap)(H:Hp):(Bp h H).objs.size=h.objs.size:=PySem.W.hideAll_size _ _
theorem Qu{h:Heap}{H:Hp}{b:Addr}{o:Obj}(e:h.get? b=some o)(n:H b=none):(Bp h H).get? b=some o:=
 PySem.W.hideAll_get _ e λhm=>by
  have q:(H b).isSome=true:=(mC.mp hm).2
  rw[n]at q;simp at q
theorem TX{h:Heap}{H:Hp}{b:Addr}{o:Obj}(e:(Bp h H).get? b=some o):h.get? b=some o/\H b=none:=by
 have e':h.get? b=some o:=PySem.W.of_hideAll (trk h H) e
 refine⟨e',?_⟩
 cases q:H b with
 | none=>rfl
 | some x=>
  have hm:b∈trk h H:=mC.mpr ⟨my.mpr (aS e'),by simp[q]⟩
  have z:(Bp h H).get? b=none:=PySem.W.hideAll_none (trk h H) hm
  rw[z]at e;cases e
def U5(g h:Heap)(L:Addr):List (Addr×Obj):=(List.range h.objs.size).filterMap λa=>if a=L\/(g.get? a).isSome=true then none else (h.get? a).map λo=>(a,o)
def rest(g h:Heap)(L d:Addr):List (Addr×Obj):=(U5 g h L).filter λp=>decide (p.1≠d)
end L2
namespace L2
open PySem PySem.Spec PyProof.Rows
structure Mod(K:PySem.W.Frag)(mg:Str->Option Value)(base:Heap):Prop where
 Y0:K.In base
 glob:base.Ns mainGlobals mg
 blt:∃mb,base.Ns builtinsNs mb/\∀x:Str,x≠"__name__"->mb x=bootBuiltins x
 nolimit:base.NoLimit
structure Cx where
 prog:Program
 w:World
 K:PySem.W.Frag
 mg:Str->Option Value
 base:Heap
 A:Around
 N:List Str
 s₀:Shared
 H₀:Hp
 env:Env
 outer:List Env
 stack:List Env
 ex:List Addr
 fn:Str->Bool
 calm:Bool
 pn:List (Addr×Obj)
 xe:Value->Shared->Prop
def qg(l:List Env):List Addr:=l.filterMap (·.frame)
abbrev Cx.fs(X:Cx):List Addr:=qg X.outer
def Vis(sc:Scope)(x:Str):Prop:=sc.names.lookup x=some .local\/sc.names.lookup x=some .cell\/sc.names.lookup x=some .free
def Loc(sc:Scope)(x:Str):Prop:=sc.names.lookup x=some .local\/sc.names.lookup x=some .cell
def Look(env:Env)(h:Heap)(m:Str->Option Value)(x:Str)(u:Value):Prop:=
 (env.kindOf x=some .local/\m x=some u)\/((env.kindOf x=some .cell\/env.kindOf x=some .free)/\∃c,env.cells.lookup x=some c/\h.IsCell c (some u))
structure Cx.Ok(X:Cx):Prop where
 mod:Mod X.K X.mg X.base
 kind:X.env.scope.kind=.function
 glob:X.env.globals=mainGlobals
 blt:X.env.builtins=builtinsNs
 above:X.s₀.heap.objs.size<=X.env.locals
 inj:∀x y c,X.env.cells.lookup x=some c->X.env.cells.lookup y=some c->x=y
 has:∀x,(X.env.kindOf x=some .cell\/X.env.kindOf x=some .free)->∃c,X.env.cells.lookup x=some c
 cab:∀x c,X.fn x=true->X.env.cells.lookup x=some c->X.s₀.heap.objs.size<=c
 hd:X.calm=true->X.A.handled=none
 frames:X.A.frames=some X.stack
 stk:X.stack=X.outer\/(X.stack=X.env::X.outer/\X.env.frame=some X.env.locals)
 exf:∀b∈X.ex,b≠X.env.locals/\∀x c,X.env.cells.lookup x=some c->c≠b
 bs:∀b o,X.base.get? b=some o->X.s₀.heap.get? b=some o/\X.H₀ b=none
 RT:X.base.objs.size<=X.s₀.heap.objs.size
 Py:∀b o,X.base.get? b=some o->b∉X.ex
 UJ:∀b∈X.ex,b∉X.fs
 sQ:X.s₀.heap.FunFrames X.base X.outer
 VP:∀b∈X.fs,X.H₀ b=none
structure Inv(X:Cx)(pins:List (Addr×Obj))(σ:List (Option V))(H:Hp)(s:Shared):Prop where
 ok:X.Ok
 os:s.os=X.s₀.os
 bare:AllBare s.gens
 base:Un X.fs X.ex X.H₀ H X.s₀.heap s.heap
 loc:∃m,s.heap.Ns X.env.locals m/\∀(i:Nat) (x:Str) (v:V),X.N[i]?=some x->σ[i]?=some (some v)->Vis X.env.scope x->∃u,RelV v u/\Look X.env s.heap m x u
 cell:∀x c,X.env.cells.lookup x=some c->∃v,s.heap.IsCell c v
 free:H X.env.locals=none
 lU:∀x c,X.env.cells.lookup x=some c->H c=none
 pin:∀p∈X.pn++pins,s.heap.get? p.1=some p.2/\H p.1=none/\p.1≠X.env.locals/\p.1∉X.fs/\∀v,p.2.data≠.cell v
 bM:ju X.prog X.w H s.heap
 len:σ.length=X.N.length
section
variable {X:Cx}{pins:List (Addr×Obj)}{σ:List (Option V)}{H H':Hp}{s:Shared}{h':Heap}
theorem Cx.Ok.aDv(ok:X.Ok){b:Addr}{o:Obj}(e:X.base.get? b=some o):b∉X.fs:=λhb=>by
 have:=(ok.sQ.mem hb).1
 rw[e]at this;cases this
theorem Inv.bs(I:Inv X pins σ H s):∀b o,X.base.get? b=some o->s.heap.get? b=some o/\H b=none:=λb o e=>
 ⟨I.base.keep b o (I.ok.bs b o e).1 (I.ok.bs b o e).2 (I.ok.aDv e) (I.ok.Py b o e),I.base.free b o (I.ok.bs b o e).1 (I.ok.bs b o e).2 (I.ok.Py b o e)⟩
theorem Inv.bk(I:Inv X pins σ H s):∀b o,X.base.get? b=some o->s.heap.get? b=some o:=λb o e=>(I.bs b o e).1
theorem Inv.mod(I:Inv X pins σ H s):Mod X.K X.mg X.base:=I.ok.mod
theorem Inv.HF(I:Inv X pins σ H s):X.K.In s.heap:=I.ok.mod.Y0.keeps I.bk
theorem Inv.lt(I:Inv X pins σ H s):X.env.locals<s.heap.objs.size:=let ⟨_,hn,_⟩:=I.loc;hn.lt
theorem Inv.sz(I:Inv X pins σ H s):X.s₀.heap.objs.size<=s.heap.objs.size:=df I.ok.above (jb I.lt)
theorem Inv.aAr(I:Inv X pins σ H s){a:Addr}(h:s.heap.objs.size<=a):a∉X.fs:=λhb=>by
 obtain⟨_,o,ho,_⟩:=I.ok.sQ.mem hb
 exact absurd (dS (aS ho) (df I.sz h)) (j0 _)
theorem Inv.Yt(I:Inv X pins σ H s):∀x c,X.env.cells.lookup x=some c->c≠X.env.locals:=λx c e z=>by
 obtain⟨v,o,ho,hd⟩:=I.cell x c e
 obtain⟨m,⟨o',es,ep,Eg,Ze,_⟩,_⟩:=I.loc
 rw[z,Eg]at ho;cases ho;rw[Ze]at hd;cases hd
theorem Inv.sQ(I:Inv X pins σ H s):s.heap.FunFrames X.base X.outer:=by
 have all:∀(l:List Env),(∀b∈qg l,b∈X.fs)->X.s₀.heap.FunFrames X.base l->s.heap.FunFrames X.base l:=by
  intro l
  induction l with
  | nil=>intro _ _;trivial
  | cons env r ih=>
   intro hs hl
   obtain⟨hk,⟨L,o,hf,hn,ho,hd⟩,hr⟩:=hl
   have hL:L∈X.fs:=hs L (by unfold qg;rw[zD,hf];exact di)
   obtain⟨sl,e⟩:=I.base.slot L o ho (I.ok.VP L hL) hL λz=>I.ok.UJ L z hL
   exact⟨hk,⟨L,_,hf,hn,e,hd⟩,ih (λb hb=>hs b (by unfold qg;rw[zD,hf];exact fw _ hb)) hr⟩
 exact all X.outer (λ_ hb=>hb) I.ok.sQ
theorem Inv.stack(I:Inv X pins σ H s):s.heap.FunFrames X.base X.stack:=by
 rcases I.ok.stk with e | ⟨e,hf⟩
 ·rw[e];exact I.sQ
 ·rw[e]
  obtain⟨m,hn,_⟩:=I.loc
  refine .cons (by rw[I.ok.kind];decide) hf hn ?_ I.sQ
  exact sf (df I.ok.RT I.ok.above)
theorem Inv.vW(I:Inv X pins σ H s):∀b∈qg X.stack,b∈X.env.locals::X.fs:=λb hb=>by
 rcases I.ok.stk with e | ⟨e,hf⟩
 ·rw[e]at hb;exact fw _ hb
 ·rw[e]at hb
  unfold qg at hb
  rw[zD,hf]at hb
  exact hb
theorem Inv.zY(I:Inv X pins σ H s):∀b∈qg X.stack,H b=none:=λb hb=>by
 rcases dR.mp (I.vW b hb) with e | hb
 ·rw[e];exact I.free
 ·obtain⟨_,o,ho,_⟩:=I.ok.sQ.mem hb
  exact I.base.free b o ho (I.ok.VP b hb) λz=>I.ok.UJ b z hb
theorem Inv.step{g':Array GenState}{t':Nat}{d':Drawn}{ch:List Addr}(I:Inv X pins σ H s)
  (Fy:∀b∈ch,(b∈X.ex\/X.s₀.heap.objs.size<=b)/\b≠X.env.locals/\(∀x c,X.env.cells.lookup x=some c->c≠b)/\∀p∈X.pn++pins,p.1≠b)
  (keep:∀b o,b≠X.env.locals->b∉X.fs->b∉ch->s.heap.get? b=some o->H b=none->h'.get? b=some o)
  (slot:∀b o,b≠X.env.locals->b∈X.fs->b∉ch->s.heap.get? b=some o->H b=none->∃sl,h'.get? b=some { o with slots:=sl }) (free:∀b o,b∉ch->s.heap.get? b=some o->H b=none->H' b=none)
  (there:∀b o,b∉ch->s.heap.get? b=some o->∃o',h'.get? b=some o')
  (tups:∀b xs,H b=some (.tup xs)->H' b=some (.tup xs)) (frzs:∀b o u,H b=some (.m9 o u)->H' b=some (.m9 o u)) (tbls:∀b ps,H b=some (.Wi ps)->∃more,H' b=some (.Wi (ps++more)))
  (ns:∀m,s.heap.Ns X.env.locals m->h'.Ns X.env.locals m) (bM:ju X.prog X.w H' h') (hg:AllBare g') :
  Inv X pins σ H' { s with heap:=h',gens:=g',drawn:=d',toks:=t' }:=by
 have neL:∀b o,X.s₀.heap.get? b=some o->b≠X.env.locals:=λb o e=>bK (dS (aS e) I.ok.above)
 have neC:∀b o,X.s₀.heap.get? b=some o->b∉X.ex->b∉ch:=λb o e hx hb=>by
  rcases(Fy b hb).1 with z | z
  ·exact hx z
  ·exact absurd (dS (aS e) z) (j0 _)
 have cellK:∀x c,X.env.cells.lookup x=some c->∀v,s.heap.IsCell c v->h'.IsCell c v:=λx c e v ⟨o,ho,hd⟩=>by
  have nch:c∉ch:=λz=>(Fy c z).2.2.1 x c e rfl
  by_cases hc:c∈X.fs
  ·obtain⟨sl,q⟩:=slot c o (I.Yt x c e) hc nch ho (I.lU x c e)
   exact⟨_,q,hd⟩
  ·exact⟨o,keep c o (I.Yt x c e) hc nch ho (I.lU x c e),hd⟩
 refine⟨I.ok,I.os,hg,⟨λb o e n hb hx=>?_,λb o e n hb hx=>?_,λb o e n hx=>?_,λb o e hx=>?_,λb xs e=>tups b xs (I.base.tups b xs e),λb o xs e=>frzs b o xs (I.base.frzs b o xs e),λb ps e=>?_⟩,?_,λx c e=>?_,?_,λx c e=>?_,λp hp=>?_,bM,I.len⟩
 ·exact keep b o (neL b o e) hb (neC b o e hx) (I.base.keep b o e n hb hx) (I.base.free b o e n hx)
 ·obtain⟨sl,e1⟩:=I.base.slot b o e n hb hx
  obtain⟨ZL,e2⟩:=slot b _ (neL b o e) hb (neC b o e hx) e1 (I.base.free b o e n hx)
  exact⟨ZL,e2⟩
 ·obtain⟨o',e1⟩:=I.base.there b o e hx
  exact free b o' (neC b o e hx) e1 (I.base.free b o e n hx)
 ·obtain⟨o',e1⟩:=I.base.there b o e hx
  exact there b o' (neC b o e hx) e1
 ·obtain⟨m1,e1⟩:=I.base.tbls b ps e
  obtain⟨m2,e2⟩:=tbls b _ e1
  exact⟨m1++m2,by rw[e2,Array.append_assoc]⟩
 ·obtain⟨m,hn,hl⟩:=I.loc
  refine⟨m,ns m hn,λi x v e1 e2 e3=>?_⟩
  obtain⟨u,r,l⟩:=hl i x v e1 e2 e3
  refine⟨u,r,?_⟩
  rcases l with l | ⟨k,c,e,z⟩
  ·exact .inl l
  ·exact .inr ⟨k,c,e,cellK x c e _ z⟩
 ·obtain⟨v,z⟩:=I.cell x c e
  exact⟨v,cellK x c e v z⟩
 ·obtain⟨m,⟨o,_,_,ho,_⟩,_⟩:=I.loc
  exact free _ o (λz=>(Fy _ z).2.1 rfl) ho I.free
 ·obtain⟨v,o,ho,hd⟩:=I.cell x c e
  exact free c o (λz=>(Fy c z).2.2.1 x c e rfl) ho (I.lU x c e)
 ·obtain⟨e,n,ne,nf,d⟩:=I.pin p hp
  have nch:p.1∉ch:=λz=>(Fy p.1 z).2.2.2 p hp rfl
  exact⟨keep p.1 p.2 ne nf nch e n,free p.1 p.2 nch e n,ne,nf,d⟩
theorem Inv.un{t':Nat}(I:Inv X pins σ H s)(u:Un X.fs [] H H' s.heap h')(bM:ju X.prog X.w H' h'):Inv X pins σ H' { s with heap:=h',toks:=t' }:=by
 obtain⟨m,⟨o,es,ep,ho,r⟩,_⟩:=id I.loc
 obtain⟨sl,hL⟩:=u.any ho I.free (by simp)
 exact I.step (g':=s.gens) (d':=s.drawn) (ch:=[]) (λ_ z=>nomatch z) (λb o _ hb _ e n=>u.keep b o e n hb (by simp)) (λb o _ hb _ e n=>u.slot b o e n hb (by simp)) (λb o _ e n=>u.free b o e n (by simp)) (λb o _ e=>u.there b o e (by simp)) u.tups u.frzs u.tbls (λm' hm=>by
  obtain⟨o',es',Zo,Eg,r'⟩:=hm
  rw[ho]at Eg;cases Eg
  exact⟨_,es',Zo,hL,r'⟩) bM I.bare
theorem Inv.call{g':Array GenState}{t':Nat}{d':Drawn}{ch:List Addr}(I:Inv X pins σ H s)(u:Un (qg X.stack) ch H H' s.heap h')(bM:ju X.prog X.w H' h')(hg:AllBare g')
  (Fy:∀b∈ch,(b∈X.ex\/X.s₀.heap.objs.size<=b)/\b≠X.env.locals/\(∀x c,X.env.cells.lookup x=some c->c≠b)/\∀p∈X.pn++pins,p.1≠b) :
  Inv X pins σ H' { s with heap:=h',gens:=g',drawn:=d',toks:=t' }:=by
 obtain⟨m,⟨o,es,ep,ho,r⟩,_⟩:=id I.loc
 obtain⟨sl,hL⟩:=u.any ho I.free λz=>(Fy _ z).2.1 rfl
 exact I.step (ch:=ch) Fy (λb o hL hb hc e n=>u.keep b o e n (λz=>(dR.mp (I.vW b z)).elim hL hb) hc) (λb o _ _ hc e n=>u.any e n hc) (λb o hc e n=>u.free b o e n hc) (λb o hc e=>u.there b o e hc) u.tups u.frzs u.tbls (λm' hm=>by
  obtain⟨o',es',Zo,Eg,r'⟩:=hm
  rw[ho]at Eg;cases Eg
  exact⟨_,es',Zo,hL,r'⟩) bM hg
theorem Inv.turned{t':Nat}{it:Addr}(I:Inv X pins σ H s)(k:∀b o,b≠it->s.heap.get? b=some o->h'.get? b=some o)(hn:H it=none)(hL:it≠X.env.locals)
  (h1:it∈X.ex\/X.s₀.heap.objs.size<=it) (h2:∀x c,X.env.cells.lookup x=some c->c≠it) (h3:∀p∈X.pn++pins,p.1≠it):Inv X pins σ H { s with heap:=h',toks:=t' }:=by
 have nit:∀b u,H b=some u->b≠it:=λb u e z=>by rw[z,hn]at e;cases e
 refine I.step (g':=s.gens) (d':=s.drawn) (ch:=[it]) (λb hb=>?_) (λb o _ _ hc e _=>k b o (λz=>hc (by simp[z])) e) (λb o _ _ hc e _=>⟨o.slots,k b o (λz=>hc (by simp[z])) e⟩) (λ_ _ _ _ n=>n)
  (λb o hc e=>⟨o,k b o (λz=>hc (by simp[z])) e⟩) (λ_ _ e=>e) (λ_ _ _ e=>e) (λb ps e=>⟨#[],by rw[e];simp⟩) (λm hm=>?_) (λb u e=>?_) I.bare
 ·have e:b=it:=by simpa using hb
  subst e
  exact⟨h1,hL,h2,h3⟩
 ·obtain⟨o,es,ep,ho,r⟩:=hm
  exact⟨o,es,ep,k _ o (fz hL) ho,r⟩
 ·refine(I.bM b u e).stay (λc v hc q=>k c v ?_ q) (λ_ q=>q) λ_ _ q=>q
  rcases hc with z | z
  ·rw[z];exact nit b u e
  ·exact nit c _ z
theorem Inv.tok(I:Inv X pins σ H s)(t:Nat):Inv X pins σ H { s with toks:=t }:=I.un (h':=s.heap) (t':=t) Un.refl I.bM
theorem Inv.kept{t':Nat}(I:Inv X pins σ H s)(k:∀b u,s.heap.get? b=some u->h'.get? b=some u):Inv X pins σ H { s with heap:=h',toks:=t' }:=I.un (Un.kept k) (I.bM.kept k)
theorem Inv.laid{a:Addr}{o:HO}{t':Nat}(I:Inv X pins σ H s)(k:∀b u,s.heap.get? b=some u->h'.get? b=some u)(hp:s.heap.objs.size<=a)(new:dj X.prog X.w (upd H a o) h' a o) :
  Inv X pins σ (upd H a o) { s with heap:=h',toks:=t' }:=I.un (Un.laid k hp (I.bM.fresh hp)) (I.bM.laid k hp new)
theorem Inv.write{x e:Addr}{o:HO}{t':Nat}(I:Inv X pins σ H s)(mu:Mut (H x))(he:e=x\/H e=some (.own x))(k:∀b u,b≠e->s.heap.get? b=some u->h'.get? b=some u)(Za:∃u,h'.get? e=some u)
  (new:dj X.prog X.w (upd H x o) h' x o):Inv X pins σ (upd H x o) { s with heap:=h',toks:=t' }:=I.un (Un.write mu he k Za) (I.bM.write mu he k Za new)
theorem Inv.JF{O0:List (Addr×Obj)}(I:Inv X pins σ H s)(h:∀p∈O0,s.heap.get? p.1=some p.2/\H p.1=none/\p.1≠X.env.locals/\p.1∉X.fs/\∀v,p.2.data≠.cell v):Inv X O0 σ H s:=
 ⟨I.ok,I.os,I.bare,I.base,I.loc,I.cell,I.free,I.lU,λp hp=>(bT.mp hp).elim (λz=>I.pin p (j4 _ z)) (h p),I.bM,I.len⟩
theorem Dw{N:List Str}(hN:N.Nodup){i j:Nat}{x:Str}(a:N[i]?=some x)(b:N[j]?=some x):i=j:=by
 obtain⟨h1,e1⟩:=cy.mp a
 obtain⟨h2,e2⟩:=cy.mp b
 exact(mD hN).mp (e1.trans e2.symm)
theorem yb{M:Model}{A:Around}{E:Value->Shared->Prop}{i:Nat}{x:Str}{v:V}{u:Value}{Q:Unit->Shared->Prop}(I:Inv X pins σ H s)(hN:X.N.Nodup)(hi:X.N[i]?=some x)(hx:Loc X.env.scope x)(r:RelV v u)
  (h:∀s',Inv X pins (σ.set i (some v)) H s'->(∃a,Heap.SameBut a s.heap s'.heap/\(a=X.env.locals\/X.env.cells.lookup x=some a))->Q () s') (hf:X.fn x=true\/X.env.scope.names.lookup x=some .local:=by first | exact .inl rfl | exact .inr rfl | assumption):wpAny M A (storeName X.env x u) Q E s:=by
 obtain⟨m,hn,hl⟩:=id I.loc
 have aEg:(X.env.scope.kind == .class||(X.env.scope.kind == .module&&X.env.locals != X.env.globals))=false:=by rw[I.ok.kind];rfl
 have hiσ:i<σ.length:=by rw[I.len];exact(cy.mp hi).1
 have Yt:=I.Yt
 have tracked:∀{a:Addr} {h':Heap},(∃o,s.heap.get? a=some o/\H a=none)->Heap.SameBut a s.heap h'->ju X.prog X.w H h':=λ{a h'} ha hs b ob e=>by
  obtain⟨_,_,Eh⟩:=ha
  refine(I.bM b ob e).stay (λc w' hc q=>(hs.2 c ?_).trans q) (λ_ q=>q) λ_ _ q=>q
  rintro rfl
  rcases hc with rfl | hc
  ·rw[Eh]at e;cases e
  ·rw[Eh]at hc;cases hc
 rcases hx with hk | hk
 ·refine wpAny_storeName_local hk hn (λh' Bo hs=>?_) aEg
  obtain⟨oL,_,_,Mb,_⟩:=id hn
  refine h _ ⟨I.ok,I.os,I.bare,⟨λb o e n hb hx=>?_,λb o e n hb hx=>?_,I.base.free,λb o e hx=>?_,I.base.tups,I.base.frzs,I.base.tbls⟩,⟨_,Bo,λj y v' e1 e2 e3=>?_⟩,λy c e=>?_,I.free,I.lU,λp hp=>?_,tracked ⟨oL,Mb,I.free⟩ hs,by simpa using I.len⟩ ⟨_,hs,.inl rfl⟩
  ·exact(hs.2 b (bK (dS (aS e) I.ok.above))).trans (I.base.keep b o e n hb hx)
  ·obtain⟨sl,e1⟩:=I.base.slot b o e n hb hx
   exact⟨sl,(hs.2 b (bK (dS (aS e) I.ok.above))).trans e1⟩
  ·obtain⟨o',e1⟩:=I.base.there b o e hx
   exact⟨o',(hs.2 b (bK (dS (aS e) I.ok.above))).trans e1⟩
  ·by_cases hj:j=i
   ·subst hj
    rw[hi]at e1;cases e1
    rw[List.getElem?_set_self hiσ]at e2
    cases e2
    exact⟨u,r,.inl ⟨hk,by simp⟩⟩
   ·rw[List.getElem?_set_ne (fz hj)]at e2
    obtain⟨u',r',q⟩:=hl j y v' e1 e2 e3
    refine⟨u',r',?_⟩
    rcases q with ⟨k,e⟩ | ⟨k,c,e,z⟩
    ·refine .inl ⟨k,?_⟩
     have:y≠x:=λe=>hj (Dw hN e1 (e ▸ hi))
     simp[this,e]
    ·exact .inr ⟨k,c,e,z.sameBut hs (Yt y c e)⟩
  ·obtain⟨w',z⟩:=I.cell y c e
   exact⟨w',z.sameBut hs (Yt y c e)⟩
  ·obtain⟨e,n,ne,nf,d⟩:=I.pin p hp
   exact⟨(hs.2 p.1 ne).trans e,n,ne,nf,d⟩
 ·have hfn:X.fn x=true:=by
   rcases hf with z | z
   ·exact z
   ·rw[z]at hk;cases hk
  obtain⟨c,hc⟩:=I.ok.has x (.inl hk)
  obtain⟨w',z⟩:=I.cell x c hc
  refine wpAny_storeName_cell I.ok.kind hk hc z (λh' o6 hs=>?_)
  obtain⟨oc,hoc,aEa⟩:=id z
  refine h { s with heap:=h' } ⟨I.ok,I.os,I.bare,⟨λb o e n hb hx=>?_,λb o e n hb hx=>?_,I.base.free,λb o e hx=>?_,I.base.tups,I.base.frzs,I.base.tbls⟩,⟨m,hn.sameBut hs (fz (Yt x c hc)),λj y v' e1 e2 e3=>?_⟩,λy c' e=>?_,I.free,I.lU,λp hp=>?_,tracked ⟨oc,hoc,I.lU x c hc⟩ hs,by simpa using I.len⟩ ⟨c,hs,.inr hc⟩
  ·exact(hs.2 b (bK (dS (aS e) (I.ok.cab x c hfn hc)))).trans (I.base.keep b o e n hb hx)
  ·obtain⟨sl,e1⟩:=I.base.slot b o e n hb hx
   exact⟨sl,(hs.2 b (bK (dS (aS e) (I.ok.cab x c hfn hc)))).trans e1⟩
  ·obtain⟨o',e1⟩:=I.base.there b o e hx
   exact⟨o',(hs.2 b (bK (dS (aS e) (I.ok.cab x c hfn hc)))).trans e1⟩
  ·by_cases hj:j=i
   ·subst hj
    rw[hi]at e1;cases e1
    rw[List.getElem?_set_self hiσ]at e2
    cases e2
    exact⟨u,r,.inr ⟨.inl hk,c,hc,o6⟩⟩
   ·rw[List.getElem?_set_ne (fz hj)]at e2
    obtain⟨u',r',q⟩:=hl j y v' e1 e2 e3
    refine⟨u',r',?_⟩
    rcases q with q | ⟨k,c',e,z'⟩
    ·exact .inl q
    ·refine .inr ⟨k,c',e,z'.sameBut hs ?_⟩
     rintro rfl
     exact hj (Dw hN e1 (I.ok.inj _ _ _ e hc ▸ hi))
  ·by_cases hcc:c'=c
   ·subst hcc;exact⟨_,o6⟩
   ·obtain⟨w2,z2⟩:=I.cell y c' e
    exact⟨w2,z2.sameBut hs hcc⟩
  ·obtain⟨e,n,ne,nf,d⟩:=I.pin p hp
   refine⟨(hs.2 p.1 ?_).trans e,n,ne,nf,d⟩
   intro q
   rw[q,hoc]at e
   have q':oc=p.2:=cv e
   exact d w' (by rw[<-q'];exact aEa)
theorem Cu{M:Model}{A:Around}{E:Value->Shared->Prop}{i:Nat}{x:Str}{v:V}{u:Value}{Q:Unit->Shared->Prop}(I:Inv X pins σ H s)(hN:X.N.Nodup)(hi:X.N[i]?=some x)(hx:Loc X.env.scope x)(r:RelV v u)
  (h:∀s',Inv X pins (σ.set i (some v)) H s'->Q () s') (hf:X.fn x=true\/X.env.scope.names.lookup x=some .local:=by first | exact .inl rfl | exact .inr rfl | assumption):wpAny M A (storeName X.env x u) Q E s:=
 yb I hN hi hx r (λs' I' _=>h s' I') hf
theorem Inv.call'{s':Shared}{ch:List Addr}(I:Inv X pins σ H s)(ho:s'.os=s.os)(u:Un (qg X.stack) ch H H' s.heap s'.heap)(bM:ju X.prog X.w H' s'.heap)(hg:AllBare s'.gens)
  (Fy:∀b∈ch,(b∈X.ex\/X.s₀.heap.objs.size<=b)/\b≠X.env.locals/\(∀x c,X.env.cells.lookup x=some c->c≠b)/\∀p∈X.pn++pins,p.1≠b):Inv X pins σ H' s':=by
 obtain⟨h',g',d',t',o'⟩:=s'
 have e:o'=s.os:=ho
 subst e
 exact I.call (g':=g') (t':=t') (d':=d') u bM hg Fy
end
abbrev XK:=Value->Option Addr->Hp->Prop
abbrev St:=List (Option V)
abbrev VK:=V->Hp->Prop
abbrev TE:=St->Hp->VK->Prop
abbrev TT:=St->Hp->(Bool->Hp->Prop)->Prop
abbrev TA:=St->Hp->(List V->Hp->Prop)->Prop
structure Ends where
 nx:St->Hp->Prop
 rt:VK
 bk:St->Hp->Prop:=λ_ _=>False
 ct:St->Hp->Prop:=λ_ _=>False
abbrev TS:=Ends->St->Hp->Prop
def EP(X:Cx)(pins:List (Addr×Obj))(σ:St)(Q:VK)(u:Value)(s':Shared):Prop:=∃v H',Inv X pins σ H' s'/\RelV v u/\Q v H'
def TP(X:Cx)(pins:List (Addr×Obj))(σ:St)(Q:Bool->Hp->Prop)(b:Bool)(s':Shared):Prop:=∃H',Inv X pins σ H' s'/\Q b H'
def AP(X:Cx)(pins:List (Addr×Obj))(σ:St)(Q:List V->Hp->Prop)(us:List Value)(s':Shared):Prop:=∃vs H',Inv X pins σ H' s'/\Vals vs us/\Q vs H'
def SP(X:Cx)(pins:List (Addr×Obj))(D:Ends)(f:Flow)(s':Shared):Prop:=
 match f with
 | .next=>∃σ' H',Inv X pins σ' H' s'/\D.nx σ' H'
 | .brk=>∃σ' H',Inv X pins σ' H' s'/\D.bk σ' H'
 | .cont=>∃σ' H',Inv X pins σ' H' s'/\D.ct σ' H'
 | .ret u=>∃v σ' H',Inv X pins σ' H' s'/\RelV v u/\D.rt v H'
def PE(X:Cx)(e:Expr)(t:TE):Prop:=
 ∀(pins:List (Addr×Obj)) (s:Shared) (σ:St) (H:Hp) (Q:VK),Inv X pins σ H s->t σ H Q->wpAny (model X.prog X.w) X.A (eval e X.env) (EP X pins σ Q) X.xe s
def PT(X:Cx)(e:Expr)(t:TT):Prop:=
 ∀(pins:List (Addr×Obj)) (s:Shared) (σ:St) (H:Hp) (Q:Bool->Hp->Prop),Inv X pins σ H s->t σ H Q->wpAny (model X.prog X.w) X.A (isTrue e X.env (eval e X.env)) (TP X pins σ Q) X.xe s
def PW(X:Cx)(e:Expr)(t:TT):Prop:=
 ∀(whole:Sem Value) (pins:List (Addr×Obj)) (s:Shared) (σ:St) (H:Hp) (Q:Bool->Hp->Prop),Inv X pins σ H s->t σ H Q->wpAny (model X.prog X.w) X.A (isTrue e X.env whole) (TP X pins σ Q) X.xe s
theorem PW.pt{X:Cx}{e:Expr}{t:TT}(h:PW X e t):PT X e t:=h _
def PA(X:Cx)(es:List Expr)(t:TA):Prop:=
 ∀(pos:Pos) (pins:List (Addr×Obj)) (s:Shared) (σ:St) (H:Hp) (Q:List V->Hp->Prop),Inv X pins σ H s->t σ H Q->wpAny (model X.prog X.w) X.A (spliced (backTo pos (starEach es X.env))) (AP X pins σ Q) X.xe s
def PS(X:Cx)(st:Stmt)(t:TS):Prop:=
 ∀(pins:List (Addr×Obj)) (s:Shared) (σ:St) (H:Hp) (D:Ends),Inv X pins σ H s->t D σ H->wpAny (model X.prog X.w) X.A (exec st X.env) (SP X pins D) X.xe s
def BG(X:Cx)(st:List Stmt)(t:TS):Prop:=
 ∀(pins:List (Addr×Obj)) (s:Shared) (σ:St) (H:Hp) (D:Ends),Inv X pins σ H s->t D σ H->wpAny (model X.prog X.w) X.A (execs st X.env) (SP X pins D) X.xe s
theorem dm{α:Type}{t:Sem α}{Q Q':α->Shared->Prop}{M:Model}{A:Around}{E:Value->Shared->Prop}{s:Shared}(h:wpAny M A t Q E s)(hQ:∀a s,Q a s->Q' a s):wpAny M A t Q' E s:=dq h hQ λ_ _ x=>x
end L2
namespace L2
open PySem PySem.Spec PyProof.Rows
section
variable {X:Cx}
theorem bin{a b:Expr}{ta tb:TE}(ha:PE X a ta)(hb:PE X b tb){pins:List (Addr×Obj)}{s:Shared}{σ:St}{H:Hp}{R:V->V->Hp->Prop}(I:Inv X pins σ H s)(h:ta σ H λx H1=>tb σ H1 λy H2=>R x y H2)
  {α:Type} {Q:α->Shared->Prop} {f:Value->Value->Sem α}
  (hf:∀v u s2 x y H2,Inv X pins σ H2 s2->RelV x v->RelV y u->R x y H2->wpAny (model X.prog X.w) X.A (f v u) Q X.xe s2) :
  wpAny (model X.prog X.w) X.A (eval a X.env) (λv s₁=>wpAny (model X.prog X.w) X.A (eval b X.env) (λu s₂=>wpAny (model X.prog X.w) X.A (f v u) Q X.xe s₂) X.xe s₁) X.xe s:=by
 refine dm (ha pins s σ H _ I h) λv s1 ⟨x,H1,I1,r1,q1⟩=>?_
 refine dm (hb pins s1 σ H1 _ I1 q1) λu s2 ⟨y,H2,I2,r2,q2⟩=>?_
 exact hf v u s2 x y H2 I2 r1 r2 q2
def gI(i:Nat):TE:=λσ H Q=>∃v,σ[i]?=some (some v)/\Q v H
def tC(v:V):TE:=λ_ H Q=>Q v H
theorem O7{i:Nat}{x:Str}{pos:Pos}(hN:X.N[i]?=some x)(hv:Vis X.env.scope x)(hd:(x==("__debug__" : Str))=false:=by decide)(Ig:(x==("__classdict__" : Str))=false:=by decide):PE X (.Name x pos) (gI i):=by
 intro pins s σ H Q I h
 obtain⟨v,e,h⟩:=h
 obtain⟨m,hn,hl⟩:=I.loc
 obtain⟨u,r,l⟩:=hl i x v hN e hv
 have fin:EP X pins σ Q u s:=⟨v,H,I,r,h⟩
 rcases l with ⟨hk,hm⟩ | ⟨hk,c,hc,uh⟩
 ·exact wpAny_Name (wpAny_loadName_local I.ok.kind hk hn hm fin) hd
 ·rcases hk with hk | hk
  ·exact wpAny_Name (wpAny_loadName_cell I.ok.kind hk hc uh fin) hd
  ·exact wpAny_Name (wpAny_loadName_free I.ok.kind hk hc uh fin Ig) hd
theorem W7{i j pos}:PE X (.Constant (.int i) j pos) (tC (.int i)):=λ_ _ _ H _ I h=>wpAny_Constant_int ⟨.int i,H,I.tok _,⟨_,rfl⟩,h⟩
theorem aAk{b j pos}:PE X (.Constant (.bool b) j pos) (tC (.bl b)):=λ_ _ _ H _ I h=>Constant_bool ⟨.bl b,H,I,rfl,h⟩
theorem W5{j pos}:PE X (.Constant .none j pos) (tC .non):=λ_ _ _ H _ I h=>Constant_none ⟨.non,H,I,rfl,h⟩
theorem O8{x j pos}:PE X (.Constant (.str x) j pos) (tC (.str x)):=λ_ _ _ H _ I h=>Calls.Constant_str ⟨.str x,H,I.tok _,⟨_,rfl⟩,h⟩
def Gl(X:Cx)(x:Str):Prop:=X.env.kindOf x=some .globalImplicit
theorem uZ{E:Value->Shared->Prop}{pins:List (Addr×Obj)}{s:Shared}{σ:St}{H:Hp}{x:Str}{u:Value}{pos:Pos}{Q:Value->Shared->Prop}(I:Inv X pins σ H s)(hg:Gl X x)(hm:X.mg x=some u)(h:Q u s)
  (hd:(x==("__debug__" : Str))=false:=by decide):wpAny (model X.prog X.w) X.A (eval (.Name x pos) X.env) Q E s:=
 Calls.Name_function_global I.ok.kind hg (Calls.loadGlobal_global (by rw[I.ok.glob];exact I.mod.glob.keeps I.bk) hm h) hd
theorem Bk{E:Value->Shared->Prop}{pins:List (Addr×Obj)}{s:Shared}{σ:St}{H:Hp}{x:Str}{u:Value}{pos:Pos}{Q:Value->Shared->Prop}(I:Inv X pins σ H s)(hg:Gl X x)(hm:X.mg x=none)(hv:bootBuiltins x=some u)(h:Q u s)
  (hn:x≠"__name__":=by decide) (hd:(x==("__debug__" : Str))=false:=by decide):wpAny (model X.prog X.w) X.A (eval (.Name x pos) X.env) Q E s:=by
 obtain⟨mb,h1,h2⟩:=I.mod.blt
 exact Calls.Name_function_global I.ok.kind hg (Calls.loadGlobal_builtin (by rw[I.ok.glob];exact I.mod.glob.keeps I.bk) hm (by rw[I.ok.blt];exact h1.keeps I.bk) ((h2 x hn).trans hv) h) hd
variable {a b:Expr}{ta tb:TE}{pos:Pos}
def PC(X:Cx)(op:CmpOp)(a b:Expr)(t:TE):Prop:=
 ∀(pins:List (Addr×Obj)) (s:Shared) (σ:St) (H:Hp) (Q:VK),Inv X pins σ H s->t σ H Q->
  wpAny (model X.prog X.w) X.A (eval a X.env) (λv s₁=>wpAny (model X.prog X.w) X.A (eval b X.env) (λu s₂=>wpAny (model X.prog X.w) X.A (compareOp op v u) (EP X pins σ Q) X.xe s₂) X.xe s₁) X.xe s
theorem PJ(b:Expr){op:CmpOp}(h:op≠.In)(h2:op≠.NotIn):behindInMarks op b=false:=by
 have e1:(op==CmpOp.In)=false:=by cases op <;> first | rfl | exact absurd rfl h
 have e2:(op==CmpOp.NotIn)=false:=by cases op <;> first | rfl | exact absurd rfl h2
 cases b <;> simp[behindInMarks,e1,e2]
def tB(t:TE):TT:=λσ H Q=>t σ H λx H1=>∃c,x=.bl c/\Q c H1
theorem Ox{op:CmpOp}{t:TE}(h:PC X op a b t)(h1:behindInMarks op b=false:=by first | exact PJ _ (by decide) (by decide) | rfl):PT X (.Compare a [op] [b] pos) (tB t):=by
 intro pins s σ H Q I hw
 refine wpAny_isTrue_Compare1 (dm (h pins s σ H _ I hw) λv s1 h1=>dm h1 λu s2 h2=>dm h2 λc s3 ⟨x,H1,I1,r1,q1⟩=>?_) h1
 obtain⟨d,rfl,q⟩:=q1
 cases r1
 exact rV ⟨H1,I1,q⟩
theorem Ow{e:Expr}{t:TE}(h:PE X e t)(he:∀whole,isTrue e X.env whole=(do let v <-whole;standAt e.pos;holding [v] (truthy v)):=by intro _;rfl):PT X e (tB t):=by
 intro pins s σ H Q I hw
 refine isTrue_plain (dm (h pins s σ H _ I hw) λv s1 ⟨x,H1,I1,r1,q1⟩=>?_) (he _)
 obtain⟨d,rfl,q⟩:=q1
 cases r1
 exact rV ⟨H1,I1,q⟩
variable {tA Rx:TT}{rest:List Expr}
def Cr(t u:TT):TT:=λσ H Q=>t σ H λc H1=>if c=true then u σ H1 Q else Q false H1
def Vh(t u:TT):TT:=λσ H Q=>t σ H λc H1=>if c=true then Q true H1 else u σ H1 Q
def zR(t:TT):TT:=λσ H Q=>t σ H λc H1=>Q (!c) H1
theorem Sz(ha:PT X a tA):PW X (.BoolOp .And [a] pos) tA:=by
 intro wh pins s σ H Q I h
 refine isTrue_and (dm (ha pins s σ H Q I h) λc s1 e=>?_)
 cases c with
 | true=>exact isTrue_and_nil e
 | false=>exact e
theorem WK(ha:PT X a tA):PW X (.BoolOp .Or [a] pos) tA:=by
 intro wh pins s σ H Q I h
 refine isTrue_or (dm (ha pins s σ H Q I h) λc s1 e=>?_)
 cases c with
 | false=>exact isTrue_or_nil e
 | true=>exact e
theorem WL(ha:PT X a tA)(hb:PW X (.BoolOp .And (b::rest) pos) Rx):PW X (.BoolOp .And (a::b::rest) pos) (Cr tA Rx):=by
 intro wh pins s σ H Q I h
 refine isTrue_and (dm (ha pins s σ H _ I h) λc s1 ⟨H1,I1,q1⟩=>?_)
 cases c with
 | true=>exact hb wh pins s1 σ H1 Q I1 q1
 | false=>exact⟨H1,I1,q1⟩
theorem aAe(ha:PT X a tA)(hb:PW X (.BoolOp .Or (b::rest) pos) Rx):PW X (.BoolOp .Or (a::b::rest) pos) (Vh tA Rx):=by
 intro wh pins s σ H Q I h
 refine isTrue_or (dm (ha pins s σ H _ I h) λc s1 ⟨H1,I1,q1⟩=>?_)
 cases c with
 | true=>exact⟨H1,I1,q1⟩
 | false=>exact hb wh pins s1 σ H1 Q I1 q1
theorem WM(ha:PT X a tA):PT X (.UnaryOp .Not a pos) (zR tA):=by
 intro pins s σ H Q I h
 exact isTrue_not (ha pins s σ H (λc H1=>Q (!c) H1) I h)
def t6(ta tb:TE):TE:=λσ H Q=>ta σ H λx H1=>∃c,x=.bl c/\if c=true then tb σ H1 Q else Q (.bl false) H1
def Cp(ta tb:TE):TE:=λσ H Q=>ta σ H λx H1=>∃c,x=.bl c/\if c=true then Q (.bl true) H1 else tb σ H1 Q
def tX(ta:TE):TE:=λσ H Q=>ta σ H λx H1=>∃c,x=.bl c/\Q (.bl (!c)) H1
theorem W3{op}{t:TE}(h:PE X a t):PE X (.BoolOp op [a] pos) t:=λpins s σ H Q I hw=>BoolOp_one (h pins s σ H Q I hw)
theorem W8(ha:PE X a ta)(hb:PE X (.BoolOp .And (b::rest) pos) tb):PE X (.BoolOp .And (a::b::rest) pos) (t6 ta tb):=by
 intro pins s σ H Q I h
 refine BoolOp_and (dm (ha pins s σ H _ I h) λv s1 ⟨x,H1,I1,r1,q1⟩=>?_)
 obtain⟨c,rfl,q1⟩:=q1
 cases r1
 refine rV ?_
 cases c with
 | true=>exact hb pins s1 σ H1 Q I1 q1
 | false=>exact⟨.bl false,H1,I1,rfl,q1⟩
theorem aAh(ha:PE X a ta)(hb:PE X (.BoolOp .Or (b::rest) pos) tb):PE X (.BoolOp .Or (a::b::rest) pos) (Cp ta tb):=by
 intro pins s σ H Q I h
 refine BoolOp_or (dm (ha pins s σ H _ I h) λv s1 ⟨x,H1,I1,r1,q1⟩=>?_)
 obtain⟨c,rfl,q1⟩:=q1
 cases r1
 refine rV ?_
 cases c with
 | false=>exact hb pins s1 σ H1 Q I1 q1
 | true=>exact⟨.bl true,H1,I1,rfl,q1⟩
theorem W4(ha:PE X a ta):PE X (.UnaryOp .Not a pos) (tX ta):=by
 intro pins s σ H Q I h
 refine UnaryOp_ (dm (ha pins s σ H _ I h) λv s1 ⟨x,H1,I1,r1,q1⟩=>?_)
 obtain⟨c,rfl,q1⟩:=q1
 cases r1
 exact not_of (rV ⟨.bl (!c),H1,I1,rfl,q1⟩)
def YK(t:TT)(ta tb:TE):TE:=λσ H Q=>t σ H λc H1=>if c=true then ta σ H1 Q else tb σ H1 Q
end
end L2
namespace L2
open PySem PySem.Spec PyProof.Rows
def oQ(K:PySem.W.Frag)(H:Hp)(a:Addr)(xs:List V):Prop:=
 Rd H a (.lst xs)\/
  ∃(o:Obj) (its:Array Value) (n:Nat),K.lookup a=some o/\o.cls=.type "list"/\o.dict=none/\o.data=.seq its n/\its.size<=sizeLine/\Vals xs its.toList
def xJ(K:PySem.W.Frag)(H:Hp)(a:Addr)(xs:List V):Prop:=
 Rd H a (.tup xs)\/
  ∃(o:Obj) (its:Array Value) (n:Nat),K.lookup a=some o/\o.cls=.type "tuple"/\o.data=.seq its n/\its.size<=sizeLine/\Vals xs its.toList
def aFC:Value->Option V
 | .none=>some .non
 | .bool b=>some (.bl b)
 | .int i _=>some (.int i)
 | .str x _=>some (.str x)
 | .bytes b _=>some (.Rc b)
 | .float b _=>some (.flt b)
 | .ref a=>some (.ref a)
 | .type n=>some (.ty n)
 | _=>none
theorem RelV.abs{x:V}{u:Value}(r:RelV x u):aFC u=some x:=by
 cases x with
 | non=>cases r;rfl
 | bl _=>cases r;rfl
 | int _=>obtain⟨t,rfl⟩:=r;rfl
 | str _=>obtain⟨t,rfl⟩:=r;rfl
 | Rc _=>obtain⟨t,rfl⟩:=r;rfl
 | flt _=>obtain⟨t,rfl⟩:=r;rfl
 | ref _=>cases r;rfl
 | ty _=>cases r;rfl
theorem RelV.inj{x y:V}{u:Value}(r:RelV x u)(q:RelV y u):x=y:=cv (r.abs.symm.trans q.abs)
theorem Vals.inj:∀{xs ys:List V} {us:List Value},Vals xs us->Vals ys us->xs=ys
 | _,_,_,.nil,.nil=>rfl
 | _,_,_,.cons r t,.cons r' t'=>by rw[r.inj r',Vals.inj t t']
section
variable {X:Cx}{pins:List (Addr×Obj)}{σ:St}{H:Hp}{s:Shared}{a:Addr}{xs ys:List V}
theorem oQ.of{K:PySem.W.Frag}(h:H a=some (.lst xs)):oQ K H a xs:=.inl (.inl h)
theorem xJ.of{K:PySem.W.Frag}(h:H a=some (.tup xs)):xJ K H a xs:=.inl (.inl h)
theorem Inv.list(I:Inv X pins σ H s)(h:oQ X.K H a xs):∃its:List Value,Vals xs its/\PlainL s.heap a its.toArray/\xs.length<=sizeLine:=by
 rcases h with h | ⟨o,its,n,hk,hc,hd,hs,hz,r⟩
 ·obtain⟨z,its,n,r,e⟩:=h.ok I.bM
  exact⟨its,r,⟨_,n,e,rfl,rfl,rfl⟩,z⟩
 ·refine⟨its.toList,r,⟨o,n,I.HF a o hk,hc,hd,by simpa using hs⟩,?_⟩
  have e:=r.length
  simp only[dF]at e
  lia
theorem Inv.tuple(I:Inv X pins σ H s)(h:xJ X.K H a xs):∃its:List Value,Vals xs its/\IsTup s.heap a its.toArray/\xs.length<=sizeLine:=by
 rcases h with h | ⟨o,its,n,hk,hc,hs,hz,r⟩
 ·obtain⟨z,its,r,p⟩:=h.ok I.bM
  exact⟨its,r,p,z⟩
 ·refine⟨its.toList,r,⟨o,I.HF a o hk,hc,n,by simpa using hs⟩,?_⟩
  have e:=r.length
  simp only[dF]at e
  lia
theorem Inv.Qe(I:Inv X pins σ H s)(h:oQ X.K H a xs)(h':oQ X.K H a ys):xs=ys:=by
 obtain⟨its,r,⟨o,n,e,_,_,d⟩,_⟩:=I.list h
 obtain⟨its',r',⟨o',n',e',_,_,d'⟩,_⟩:=I.list h'
 rw[e]at e';cases e'
 rw[d]at d'
 injection d' with d1 _
 have:its=its':=by simpa using gj Array.toList d1
 subst this
 exact r.inj r'
theorem Inv.KC(I:Inv X pins σ H s)(h:xJ X.K H a xs)(h':xJ X.K H a ys):xs=ys:=by
 obtain⟨its,r,⟨o,e,_,n,d⟩,_⟩:=I.tuple h
 obtain⟨its',r',⟨o',e',_,n',d'⟩,_⟩:=I.tuple h'
 rw[e]at e';cases e'
 rw[d]at d'
 injection d' with d1 _
 have:its=its':=by simpa using gj Array.toList d1
 subst this
 exact r.inj r'
end
abbrev Cx.wish(X:Cx)(E:Value->Shared->Prop):Cx:={ X with xe:=E }
abbrev Cx.RC(X:Cx):Cx:=X.wish λ_ _=>False
theorem Cx.Ok.wish{X:Cx}(ok:X.Ok)(E:Value->Shared->Prop):(X.wish E).Ok:=
 ⟨ok.mod,ok.kind,ok.glob,ok.blt,ok.above,ok.inj,ok.has,ok.cab,ok.hd,ok.frames,ok.stk,ok.exf,ok.bs,ok.RT,ok.Py,ok.UJ,ok.sQ,ok.VP⟩
theorem Cx.Ok.mF{X:Cx}{E:Value->Shared->Prop}(ok:(X.wish E).Ok):X.Ok:=
 ⟨ok.mod,ok.kind,ok.glob,ok.blt,ok.above,ok.inj,ok.has,ok.cab,ok.hd,ok.frames,ok.stk,ok.exf,ok.bs,ok.RT,ok.Py,ok.UJ,ok.sQ,ok.VP⟩
section
variable {X:Cx}{pins:List (Addr×Obj)}{σ:St}{H:Hp}{s:Shared}{E:Value->Shared->Prop}
theorem Inv.wish(I:Inv X pins σ H s)(E:Value->Shared->Prop):Inv (X.wish E) pins σ H s:=⟨I.ok.wish E,I.os,I.bare,I.base,I.loc,I.cell,I.free,I.lU,I.pin,I.bM,I.len⟩
theorem Inv.mF(I:Inv (X.wish E) pins σ H s):Inv X pins σ H s:=⟨I.ok.mF,I.os,I.bare,I.base,I.loc,I.cell,I.free,I.lU,I.pin,I.bM,I.len⟩
theorem SP.mF{D:Ends}{f:Flow}{s':Shared}(h:SP (X.wish E) pins D f s'):SP X pins D f s':=by
 cases f with
 | next=>obtain⟨σ',H',I,q⟩:=h;exact⟨σ',H',I.mF,q⟩
 | brk=>obtain⟨σ',H',I,q⟩:=h;exact⟨σ',H',I.mF,q⟩
 | cont=>obtain⟨σ',H',I,q⟩:=h;exact⟨σ',H',I.mF,q⟩
 | ret u=>obtain⟨v,σ',H',I,r,q⟩:=h;exact⟨v,σ',H',I.mF,r,q⟩
theorem BG.RC{st:List Stmt}{t:TS}(h:BG X.RC st t):BG X st t:=λpins s σ H D I hw=>
 dq (h pins s σ H D (I.wish _) hw) (λ_ _ q=>q.mF) λ_ _ z=>False.elim z
end
section
variable {X:Cx}{st:Stmt}{rest:List Stmt}{t u:TS}{e:Expr}{te:TE}{pos:Pos}
def qz:TS:=λD σ H=>D.nx σ H
def G6(t u:TS):TS:=λD σ H=>t { D with nx:=u D } σ H
theorem SN:BG X [] qz:=λ_ _ σ H _ I h=>zc ⟨σ,H,I,h⟩
theorem Oy(h1:PS X st t)(h2:BG X rest u):BG X (st::rest) (G6 t u):=by
 intro pins s σ H D I h
 refine wpAny_execs_cons (dm (h1 pins s σ H { D with nx:=u D } I h) λf s1 q=>?_)
 cases f with
 | next=>
  obtain⟨σ',H',I',q⟩:=q
  exact h2 pins s1 σ' H' D I' q
 | ret v=>exact q
 | brk=>exact q
 | cont=>exact q
theorem SM(h1:PS X st t):BG X [st] t:=by
 intro pins s σ H D I h
 refine wpAny_execs_cons (dm (h1 pins s σ H D I h) λf s1 q=>?_)
 cases f with
 | next=>exact zc q
 | ret v=>exact q
 | brk=>exact q
 | cont=>exact q
theorem Inv.quiet{pins:List (Addr×Obj)}{σ:St}{H:Hp}{s:Shared}(I:Inv X pins σ H s):interactive X.env=false:=by simp[interactive,I.ok.kind]
def tY(te:TE):TS:=λD σ H=>te σ H λ_ H1=>D.nx σ H1
theorem JC(he:PE X e te)(hs:swapsWith e none pos.line X.env=pure false:=by rfl):PS X (.Expr e pos) (tY te):=by
 intro pins s σ H D I h
 exact wpAny_Expr_any (dm (he pins s σ H _ I h) λv s1 ⟨x,H1,I1,r1,q1⟩=>⟨σ,H1,I1,q1⟩) I.quiet hs
def Cm(te:TE):TS:=λD σ H=>te σ H D.rt
theorem WQ(he:PE X e te):PS X (.Return (some e) pos) (Cm te):=by
 intro pins s σ H D I h
 exact wpAny_Return_some (dm (he pins s σ H _ I h) λv s1 ⟨x,H1,I1,r1,q1⟩=>⟨x,σ,H1,I1,r1,q1⟩)
def x8:TS:=λD _ H=>D.rt .non H
def zT(c:TT)(t u:TS):TS:=λD σ H=>c σ H λb H1=>if b=true then t D σ H1 else u D σ H1
theorem aAf{c:Expr}{a b:List Stmt}{tc:TT}(hc:PT X c tc)(ha:BG X a t)(hb:BG X b u):PS X (.If c a b pos) (zT tc t u):=by
 intro pins s σ H D I h
 refine wpAny_If (dm (hc pins s σ H _ I h) λd s1 ⟨H1,I1,q1⟩=>?_)
 cases d with
 | true=>exact ha pins s1 σ H1 D I1 q1
 | false=>exact hb pins s1 σ H1 D I1 q1
def zS:TS:=λ_ _ _=>False
end
abbrev TG:=V->St->Hp->(St->Hp->Prop)->Prop
abbrev RV:=List V->St->Hp->(St->Hp->Prop)->Prop
def PG(X:Cx)(target:Expr)(t:TG):Prop:=
 ∀(pins:List (Addr×Obj)) (s:Shared) (σ:St) (H:Hp) (v:V) (u:Value) (Q:St->Hp->Prop),Inv X pins σ H s->RelV v u->t v σ H Q->
  wpAny (model X.prog X.w) X.A (assign target X.env u) (λ_ s'=>∃σ' H',Inv X pins σ' H' s'/\Q σ' H') X.xe s
def PGs(X:Cx)(ts:List Expr)(t:RV):Prop:=
 ∀(pins:List (Addr×Obj)) (s:Shared) (σ:St) (H:Hp) (vs:List V) (us:List Value) (Q:St->Hp->Prop),Inv X pins σ H s->Vals vs us->t vs σ H Q->
  wpAny (model X.prog X.w) X.A (assignInOrder ((assignEach ts X.env).map (·.2)) us) (λ_ s'=>∃σ' H',Inv X pins σ' H' s'/\Q σ' H') X.xe s
abbrev Jb:=V->V->V->Hp->(Hp->Prop)->Prop
def M3(X:Cx)(t:Jb):Prop:=
 ∀(pins:List (Addr×Obj)) (s:Shared) (σ:St) (H:Hp) (o i v:V) (ov iv u:Value) (Q:Hp->Prop),Inv X pins σ H s->RelV o ov->RelV i iv->RelV v u->t o i v H Q->
  wpAny (model X.prog X.w) X.A (setItem ov iv u) (λ_ s'=>∃H',Inv X pins σ H' s'/\Q H') X.xe s
abbrev Zr:=V->V->Hp->VK->Prop
def PIp(X:Cx)(op:Operator)(t:Zr):Prop:=
 ∀(pins:List (Addr×Obj)) (s:Shared) (σ:St) (H:Hp) (x y:V) (v u:Value) (Q:VK),Inv X pins σ H s->RelV x v->RelV y u->t x y H Q->
  wpAny (model X.prog X.w) X.A (inplaceOp op v u) (EP X pins σ Q) X.xe s
section
variable {X:Cx}{pos:Pos}
def cJ(i:Nat):TG:=λv σ H Q=>Q (σ.set i (some v)) H
theorem JH{i:Nat}{x:Str}(hN:X.N.Nodup)(hi:X.N[i]?=some x)(hx:Loc X.env.scope x)(hf:X.fn x=true\/X.env.scope.names.lookup x=some .local:=by first | exact .inl rfl | exact .inr rfl | assumption):PG X (.Name x pos) (cJ i):=by
 intro pins s σ H v u Q I r h
 exact wpAny_assign_Name (Cu I hN hi hx r (λs' I'=>⟨_,H,I',h⟩) hf)
def Ik:RV:=λvs σ H Q=>vs=[]/\Q σ H
def ui(t:TG)(u:RV):RV:=λvs σ H Q=>∃v r,vs=v::r/\t v σ H λσ' H'=>u r σ' H' Q
theorem Tc:PGs X [] Ik:=by
 intro pins s σ H vs us Q I r h
 obtain⟨e,h⟩:=h
 subst e
 cases r
 exact assignInOrder_nil ⟨σ,H,I,h⟩
theorem Di{e:Expr}{es:List Expr}{t:TG}{u:RV}(h1:PG X e t)(h2:PGs X es u)
  (hs:(assignEach (e::es) X.env).map (·.2)=assign e X.env::(assignEach es X.env).map (·.2):=by rfl):PGs X (e::es) (ui t u):=by
 intro pins s σ H vs us Q I r h
 obtain⟨v,vr,e1,h⟩:=h
 subst e1
 cases r with
 | cons r rr=>
  rw[hs]
  refine assignInOrder_cons (dm (h1 pins s σ H _ _ _ I r h) λ_ s1 ⟨σ1,H1,I1,q1⟩=>?_)
  exact h2 pins s1 σ1 H1 _ _ Q I1 rr q1
def Yl(K:PySem.W.Frag)(n:Nat)(t:RV):TG:=λv σ H Q=>∃a xs,v=.ref a/\xJ K H a xs/\xs.length=n/\t xs σ H Q
theorem Hm{es:List Expr}{k:Nat}{t:RV}{n:Nat}(hc:X.calm=true)(h:PGs X es t)
  (hn:(assignEach es X.env).length=n:=by rfl) (hst:(assignEach es X.env).findIdx? (·.1)=none:=by rfl):PG X (.Tuple es k pos) (Yl X.K n t):=by
 intro pins s σ H v u Q I r hw
 obtain⟨a,xs,e1,hq,hl,hw⟩:=hw
 subst e1
 cases r
 obtain⟨its,rv,ht,hz⟩:=I.tuple hq
 refine assign_Tuple_tuple (I.ok.hd hc) ht (by simp[hn,<-hl,rv.length]) hst λh' hx=>?_
 have I1:Inv X pins σ H { s with heap:=h' }:=I.kept (t':=s.toks) λb o e=>hx b o (bK (aS e)) e
 exact h pins _ σ H xs _ Q I1 (by simpa using rv) hw
def Ej(to ti:TE)(t:Jb):TG:=λv σ H Q=>to σ H λo H1=>ti σ H1 λi H2=>t o i v H2 λH3=>Q σ H3
theorem O5{o i:Expr}{to ti:TE}{t:Jb}(ho:PE X o to)(hi:PE X i ti)(hs:M3 X t)
  (ha:∀v,assign (.Subscript o i pos) X.env v=(do
   let ov <-holding [v] (eval o X.env)
   let iv <-holding [v,ov] (eval i X.env)
   standAt pos
   holding [v,ov,iv] (setItem ov iv v)
   release [v,ov,iv] []):=by intro _;rfl):PG X (.Subscript o i pos) (Ej to ti t):=by
 intro pins s σ H v u Q I r h
 rw[ha]
 refine az (iY (dm (ho pins s σ H _ I h) λov s1 ⟨x,H1,I1,r1,q1⟩=>?_))
 refine az (iY (dm (hi pins s1 σ H1 _ I1 q1) λiv s2 ⟨y,H2,I2,r2,q2⟩=>?_))
 refine az (rF (az (iY (dm (hs pins s2 σ H2 x y v ov iv u _ I2 r1 r2 r q2) λ_ s3 ⟨H3,I3,q3⟩=>?_))))
 exact wpAny_release ⟨σ,H3,I3,q3⟩
def qB(te:TE)(g:TG):TS:=λD σ H=>te σ H λx H1=>g x σ H1 D.nx
theorem Am{tg e:Expr}{te:TE}{g:TG}(he:PE X e te)(hg:PG X tg g)(hs:swapsWithSole [tg] e pos.line X.env=pure false:=by rfl)(hw:swappedStores [tg] e X.env=pure none:=by rfl)
  (h1:(assignEach [tg] X.env).map (·.2)=[assign tg X.env]:=by rfl):PS X (.Assign [tg] e pos) (qB te g):=by
 intro pins s σ H D I h
 refine wpAny_Assign_stores (dm (he pins s σ H _ I h) λv s1 ⟨x,H1,I1,r1,q1⟩=>?_) hs hw
 rw[h1]
 exact dm (hg pins s1 σ H1 x v _ I1 r1 q1) λ_ s2 q=>q
theorem WN{i:Nat}{x:Str}{e:Expr}{te:TE}{pos':Pos}(hN:X.N.Nodup)(hi:X.N[i]?=some x)(hx:Loc X.env.scope x)(he:PE X e te)(hs:swapsWith e (some (.Name x pos')) pos.line X.env=pure false:=by rfl)(hf:X.fn x=true\/X.env.scope.names.lookup x=some .local:=by first | exact .inl rfl | exact .inr rfl | assumption) :
  PS X (.Assign [.Name x pos'] e pos) (qB te (cJ i)):=by
 intro pins s σ H D I h
 refine wpAny_Assign_Name (dm (he pins s σ H _ I h) λv s1 ⟨y,H1,I1,r1,q1⟩=>?_) hs
 exact Cu I1 hN hi hx r1 (λs2 I2=>⟨_,H1,I2,q1⟩) hf
def KD(i j:Nat)(ta:TA):TS:=λD σ H=>ta σ H λvs H1=>∃v w,vs=[v,w]/\D.nx ((σ.set i (some v)).set j (some w)) H1
def KJ(i:Nat)(te:TE)(ti:Zr):TS:=λD σ H=>∃x,σ[i]?=some (some x)/\te σ H λy H1=>ti x y H1 λz H2=>D.nx (σ.set i (some z)) H2
def t5(to ti te:TE)(GZ:V->V->Hp->VK->Prop)(Wh:Zr)(GX:Jb):TS:=λD σ H=>to σ H λo H1=>ti σ H1 λi H2=>GZ o i H2 λx H3=>te σ H3 λy H4=>Wh x y H4 λz H5=>GX o i z H5 λH6=>D.nx σ H6
def YC(X:Cx)(t:V->V->Hp->VK->Prop):Prop:=
 ∀(pins:List (Addr×Obj)) (s:Shared) (σ:St) (H:Hp) (o i:V) (ov iv:Value) (Q:VK),Inv X pins σ H s->RelV o ov->RelV i iv->t o i H Q->
  wpAny (model X.prog X.w) X.A (getItem ov iv) (EP X pins σ Q) X.xe s
theorem JD{o i e:Expr}{to ti te:TE}{GZ:V->V->Hp->VK->Prop}{Wh:Zr}{GX:Jb}{op:Operator}{NC:Pos}(ho:PE X o to)(hi:PE X i ti)(hg:YC X GZ)(he:PE X e te)(hp:PIp X op Wh)(hs:M3 X GX)
  (ha:∀ov iv new,augStore i ov iv new=(do holding [new,ov,iv] (setItem ov iv new);release [new,ov,iv] [];pure .next):=by intros;rfl):PS X (.AugAssign (.Subscript o i NC) op e pos) (t5 to ti te GZ Wh GX):=by
 intro pins s σ H D I h
 refine wpAny_AugAssign_SubscriptAny (dm (ho pins s σ H _ I h) λov s1 ⟨x1,H1,I1,r1,q1⟩=>?_) ha
 refine dm (hi pins s1 σ H1 _ I1 q1) λiv s2 ⟨x2,H2,I2,r2,q2⟩=>?_
 refine dm (hg pins s2 σ H2 x1 x2 ov iv _ I2 r1 r2 q2) λold s3 ⟨x3,H3,I3,r3,q3⟩=>?_
 refine dm (he pins s3 σ H3 _ I3 q3) λv s4 ⟨x4,H4,I4,r4,q4⟩=>?_
 refine dm (hp pins s4 σ H4 x3 x4 old v _ I4 r3 r4 q4) λnew s5 ⟨x5,H5,I5,r5,q5⟩=>?_
 exact dm (hs pins s5 σ H5 x1 x2 x5 ov iv new _ I5 r1 r2 r5 q5) λ_ s6 ⟨H6,I6,q6⟩=>⟨σ,H6,I6,q6⟩
def Vs(f:Int->Int->Int):Zr:=λx y H Q=>∃i j,x=.int i/\y=.int j/\Q (.int (f i j)) H
theorem XD:PIp X .Add (Vs λi j=>i+j):=by
 intro pins s σ H x y v u Q I r1 r2 h
 obtain⟨i,j,e1,e2,q⟩:=h
 subst e1;subst e2
 obtain⟨t,rfl⟩:=r1
 obtain⟨t',rfl⟩:=r2
 exact iadd_int ⟨.int _,H,I.tok _,⟨_,rfl⟩,q⟩
theorem XB:PIp X .Sub (Vs λi j=>i-j):=by
 intro pins s σ H x y v u Q I r1 r2 h
 obtain⟨i,j,e1,e2,q⟩:=h
 subst e1;subst e2
 obtain⟨t,rfl⟩:=r1
 obtain⟨t',rfl⟩:=r2
 exact isub_int ⟨.int _,H,I.tok _,⟨_,rfl⟩,q⟩
def G0(c:TT)(tb:TS):TS:=λD σ H=>∃W:Nat->St->Hp->Prop,(∃m,W m σ H)/\∀m σ H,W m σ H->
 c σ H λb H1=>if b=true then ∃N:St->Hp->Prop,(∀σ' H',N σ' H'->∃m',m'<m/\W m' σ' H')/\tb { D with nx:=N,ct:=N,bk:=D.nx } σ H1 else D.nx σ H1
theorem Oz{c:Expr}{body:List Stmt}{tc:TT}{tb:TS}(hp:PassesOwn (model X.prog X.w) X.A X.env X.xe)(hc:PT X c tc)(hb:BG X body tb):PS X (.While c body [] pos) (G0 tc tb):=by
 intro pins s σ H D I h
 obtain⟨W,⟨m0,w0⟩,turn⟩:=h
 refine wpAny_While (codeAny_whileLoop (λn s'=>∃σ' H',Inv X pins σ' H' s'/\W n σ' H') ?_ m0 ⟨σ,H,I,w0⟩)
 rintro n s1 ⟨σ1,H1,I1,w1⟩
 refine pC hp (dm (hc pins s1 σ1 H1 _ I1 (turn n σ1 H1 w1)) λb s2 ⟨H2,I2,q2⟩=>?_)
 cases b with
 | true=>
  obtain⟨N,hN,q2⟩:=q2
  rw[aB rfl]
  refine pC hp (dm (hb pins s2 σ1 H2 _ I2 q2) λf s3 q3=>?_)
  cases f with
  | next=>
   obtain⟨σ3,H3,I3,n3⟩:=q3
   obtain⟨m',hm,w3⟩:=hN σ3 H3 n3
   exact⟨m',hm,σ3,H3,I3,w3⟩
  | cont=>
   obtain⟨σ3,H3,I3,n3⟩:=q3
   obtain⟨m',hm,w3⟩:=hN σ3 H3 n3
   exact⟨m',hm,σ3,H3,I3,w3⟩
  | brk=>exact q3
  | ret v=>exact q3
 | false=>
  rw[aA eM]
  exact zc ⟨σ1,H2,I2,q2⟩
end
structure It where
 go:Nat->Hp->Prop
 Kv:Nat->Hp->V->Hp->Prop
 stop:Nat->Hp->Prop
def BM(X:Cx)(pins:List (Addr×Obj))(H:Hp)(b:Addr):Prop:=
 H b=none/\b≠X.env.locals/\b∉X.fs/\(b∈X.ex\/X.s₀.heap.objs.size<=b)/\(∀x c,X.env.cells.lookup x=some c->c≠b)/\∀p∈X.pn++pins,p.1≠b
theorem Inv.Uz{X:Cx}{pins:List (Addr×Obj)}{σ:St}{H H':Hp}{s:Shared}{b:Addr}(I:Inv X pins σ H s)(hb:s.heap.objs.size<=b)(hn:H' b=none):BM X pins H' b:=by
 refine⟨hn,kI (dS I.lt hb),I.aAr hb,.inr (df I.sz hb),λx c e z=>?_,λp hp z=>?_⟩
 ·obtain⟨v,q⟩:=I.cell x c e
  exact absurd (dS q.lt (by rw[z];exact hb)) (j0 _)
 ·exact absurd (dS (aS (I.pin p hp).1) (by rw[z];exact hb)) (j0 _)
structure Turn(P:Program)(w:World)(K:PySem.W.Frag)(tg:Expr)(J:It)(fp:List Addr)(it:Addr)(tn:Nat->Heap->Prop):Prop where
 mem:it∈fp
 obj:∀i h,tn i h->∀b∈fp,∃o,h.get? b=some o/\∀v,o.data≠.cell v
 keep:∀i h h',tn i h->(∀b∈fp,∀o,h.get? b=some o->h'.get? b=some o)->tn i h'
 item:∀(X:Cx),X.prog=P->X.w=w->X.K=K->X.calm=true->∀(i:Nat) (pins:List (Addr×Obj)) (s:Shared) (σ:St) (H:Hp) (E:Value->Shared->Prop),Inv X pins σ H s->(∀b∈fp,BM X pins H b)->tn i s.heap->J.go i H->
  wpAny (model P w) X.A (pyNext (.ref it)) (λr s1=>∃u,r=some u/\
   wpAny (model P w) X.A (letOwnedTupleGo tg (.ref it) u) (λ_ s2=>∃x H',Inv X pins σ H' s2/\RelV x u/\J.Kv i H x H'/\tn (i+1) s2.heap/\∀b∈fp,H' b=none) E s1) E s
 done:∀(X:Cx),X.prog=P->X.w=w->X.K=K->X.calm=true->∀(i:Nat) (pins:List (Addr×Obj)) (s:Shared) (σ:St) (H:Hp) (E:Value->Shared->Prop),Inv X pins σ H s->(∀b∈fp,BM X pins H b)->tn i s.heap->J.stop i H->
  wpAny (model P w) X.A (pyNext (.ref it)) (λr s1=>r=none/\Inv X pins σ H s1) E s
 self:∀(A:Around) (i:Nat) (s:Shared) (Q:Value->Shared->Prop) (E:Value->Shared->Prop),tn i s.heap->Q (.ref it) s->wpAny (model P w) A (pyIter (.ref it)) Q E s
abbrev TI:=St->Hp->(It->Hp->Prop)->Prop
def PIE(X:Cx)(pins:List (Addr×Obj))(σ:St)(tg:Expr)(R:It->Hp->Prop)(itv:Value)(s2:Shared):Prop:=
 ∃(it:Addr) (fp:List Addr) (tn:Nat->Heap->Prop) (J:It) (H':Hp),itv=.ref it/\Inv X pins σ H' s2/\Turn X.prog X.w X.K tg J fp it tn/\tn 0 s2.heap/\(∀b∈fp,BM X pins H' b)/\R J H'
def PI(X:Cx)(tg iter:Expr)(wi:TI):Prop:=
 ∀(pins:List (Addr×Obj)) (s:Shared) (σ:St) (H:Hp) (R:It->Hp->Prop),Inv X pins σ H s->wi σ H R->
  wpAny (model X.prog X.w) X.A (eval iter X.env) (λv s1=>wpAny (model X.prog X.w) X.A (pyIter v) (PIE X pins σ tg R) X.xe s1) X.xe s
theorem J8{M : Model}{A : Around}{E : Value → Shared → Prop}{s : Shared}{tg : Expr}{it : Addr}{u : Value}{o : Obj}{n : String}{vs : Array Value}{Q : Unit → Shared → Prop}(ho : s.heap.get? it=some o)(hc : o.cls=.type n)(hd : o.data=.fields vs)
    (hn : ["enumerate", "zip", "dict_itemiterator", "dict_reverseitemiterator", "odict_iterator", "itertools.zip_longest", "itertools.pairwise"].contains n=false) (hQ : Q () s) : wpAny M A (letOwnedTupleGo tg (.ref it) u) Q E s := by
  unfold letOwnedTupleGo
  cases tg <;> first
    | exact aK hQ
    | (cases u <;> first
        | exact aK hQ
        | (refine az (wpAny_load ho ?_)
           rw[hc, hd]
           show wpAny M A (if (["enumerate", "zip", "dict_itemiterator", "dict_reverseitemiterator", "odict_iterator", "itertools.zip_longest", "itertools.pairwise"].contains n&&vs[0]? == some (rawInt _))=true then _ else _) Q E s
           rw[aA (by intro h; rw[hn, Bool.false_and]at h; cases h)]
           exact aK hQ))
def FH(K:PySem.W.Frag)(a:Addr):It:=
 ⟨λi H=>∃xs x,oQ K H a xs/\xs[i]?=some x,λi H x H'=>H'=H/\∀xs,oQ K H a xs->xs[i]?=some x,λi H=>∃xs,oQ K H a xs/\xs.length<=i⟩
def Vb(K:PySem.W.Frag)(a:Addr):It:=
 ⟨λi H=>∃xs x,xJ K H a xs/\xs[i]?=some x,λi H x H'=>H'=H/\∀xs,xJ K H a xs->xs[i]?=some x,λi H=>∃xs,xJ K H a xs/\xs.length<=i⟩
def FG(lo:Int)(n:Nat):It:=⟨λi _=>i<n,λi H x H'=>H'=H/\x=.int (lo+i),λi _=>n<=i⟩
theorem Kz{P:Program}{w:World}{K:PySem.W.Frag}{tg:Expr}(a it:Addr):Turn P w K tg (FH K a) [it] it (λi h=>h.IsListIter it a i) where
 mem:=by simp
 obj:=λi h st b hb=>by
  have e:b=it:=by simpa using hb
  subst e
  obtain⟨o,e,c,d⟩:=st
  exact⟨o,e,λv z=>by rw[d]at z;cases z⟩
 keep:=λi h h' st k=>st.at λo e=>k it (by simp) o e
 item:=by
  intro X hP hw hK hc i pins s σ H E I hf st hg
  subst hP hw hK
  obtain⟨xs,x,hq,hx⟩:=hg
  obtain⟨its,rv,p,hz⟩:=I.list hq
  obtain⟨u,hu,ru⟩:=rv.get hx
  obtain⟨f0,f1,f2,f3,f4,f5⟩:=hf it (by simp)
  refine wpAny_pyNext_list_item st p.isList (x:=u) (by simpa using hu) λh' bu sb=>?_
  have I1:Inv X pins σ H { s with heap:=h' }:=I.turned (t':=s.toks) (λb o hb e=>(sb.2 b hb).trans e) f0 f1 f3 f4 f5
  obtain⟨o,e,c,d⟩:=id bu
  exact⟨u,rfl,J8 (s:={ s with heap:=h' }) e c d (by decide) ⟨x,H,I1,ru,⟨rfl,λys hy=>by rw[I.Qe hy hq];exact hx⟩,bu,λb hb=>(hf b hb).1⟩⟩
 done:=by
  intro X hP hw hK hc i pins s σ H E I hf st hg
  subst hP hw hK
  obtain⟨xs,hq,hx⟩:=hg
  obtain⟨its,rv,p,hz⟩:=I.list hq
  obtain⟨f0,f1,f2,f3,f4,f5⟩:=hf it (by simp)
  have hl:=rv.length
  exact wpAny_pyNext_list_end (I.ok.hd hc) st p.isList (by simp;lia) λh' eb=>⟨rfl,I.turned (t':=s.toks) (λb o hb e=>eb b o hb e) f0 f1 f3 f4 f5⟩
 self:=λ_ _ _ _ _ st h=>wpAny_pyIter_listiter st h
theorem GP{P:Program}{w:World}{K:PySem.W.Frag}{tg:Expr}(a it:Addr):Turn P w K tg (Vb K a) [it] it (λi h=>h.IsTupleIter it a i) where
 mem:=by simp
 obj:=λi h st b hb=>by
  have e:b=it:=by simpa using hb
  subst e
  obtain⟨o,e,c,d⟩:=st
  exact⟨o,e,λv z=>by rw[d]at z;cases z⟩
 keep:=λi h h' st k=>st.at λo e=>k it (by simp) o e
 item:=by
  intro X hP hw hK hc i pins s σ H E I hf st hg
  subst hP hw hK
  obtain⟨xs,x,hq,hx⟩:=hg
  obtain⟨its,rv,p,hz⟩:=I.tuple hq
  obtain⟨u,hu,ru⟩:=rv.get hx
  obtain⟨f0,f1,f2,f3,f4,f5⟩:=hf it (by simp)
  refine wpAny_pyNext_tuple_item st (show s.heap.IsTuple a its.toArray from p) (x:=u) (by simpa using hu) λh' bu sb=>?_
  have I1:Inv X pins σ H { s with heap:=h' }:=I.turned (t':=s.toks) (λb o hb e=>(sb.2 b hb).trans e) f0 f1 f3 f4 f5
  obtain⟨o,e,c,d⟩:=id bu
  exact⟨u,rfl,J8 (s:={ s with heap:=h' }) e c d (by decide) ⟨x,H,I1,ru,⟨rfl,λys hy=>by rw[I.KC hy hq];exact hx⟩,bu,λb hb=>(hf b hb).1⟩⟩
 done:=by
  intro X hP hw hK hc i pins s σ H E I hf st hg
  subst hP hw hK
  obtain⟨xs,hq,hx⟩:=hg
  obtain⟨its,rv,p,hz⟩:=I.tuple hq
  obtain⟨f0,f1,f2,f3,f4,f5⟩:=hf it (by simp)
  have hl:=rv.length
  exact wpAny_pyNext_tuple_end (I.ok.hd hc) st (show s.heap.IsTuple a its.toArray from p) (by simp;lia) λh' eb=>⟨rfl,I.turned (t':=s.toks) (λb o hb e=>eb b o hb e) f0 f1 f3 f4 f5⟩
 self:=λ_ _ _ _ _ st h=>wpAny_pyIter_tupleiter st h
theorem GQ{P:Program}{w:World}{K:PySem.W.Frag}{tg:Expr}(it:Addr)(lo:Int)(n:Nat):Turn P w K tg (FG lo n) [it] it (λi h=>IsRangeIter h it (lo+(i:Nat)*1) ((n:Int)-(i:Nat)) 1) where
 mem:=by simp
 obj:=λi h st b hb=>by
  have e:b=it:=by simpa using hb
  subst e
  exact⟨_,st,λv z=>by
   have z':Data.fields _=Data.cell v:=z
   cases z'⟩
 keep:=λi h h' st k=>k it (by simp) _ st
 item:=by
  intro X hP hw hK hc i pins s σ H E I hf st hg
  subst hP hw hK
  obtain⟨f0,f1,f2,f3,f4,f5⟩:=hf it (by simp)
  have W:=Walks.range (prog:=X.prog) (w:=X.w) (I.ok.hd hc) it lo 1 n
  refine W.item i s _ _ hg st λv h' tk hv bu kk=>?_
  obtain⟨t,rfl⟩:=hv
  have I1:Inv X pins σ H { s with heap:=h',toks:=tk }:=I.turned (λb o hb e=>kk b o (by simpa using hb) e) f0 f1 f3 f4 f5
  refine⟨_,rfl,J8 (s:={ s with heap:=h',toks:=tk }) (n:="range_iterator") bu rfl rfl (by decide) ⟨.int (lo+i),H,I1,⟨t,?_⟩,⟨rfl,rfl⟩,bu,λb hb=>(hf b hb).1⟩⟩
  rw[Int.mul_one]
 done:=by
  intro X hP hw hK hc i pins s σ H E I hf st hg
  subst hP hw hK
  obtain⟨f0,f1,f2,f3,f4,f5⟩:=hf it (by simp)
  exact wpAny_pyNext_range_end (I.ok.hd hc) st (by have:n<=i:=hg;lia) λh' eb=>⟨rfl,I.turned (t':=s.toks) (λb o hb e=>eb b o hb e) f0 f1 f3 f4 f5⟩
 self:=λ_ _ _ _ _ st h=>wpAny_pyIter_rangeiter st h
end L2
namespace L2
open PySem PySem.Spec PyProof.Rows
section
variable {X:Cx}{tg:Expr}
def ug(K:PySem.W.Frag)(tl:TE):TI:=λσ H R=>tl σ H λx H1=>∃a,x=.ref a/\(∃xs,oQ K H1 a xs)/\R (FH K a) H1
def Ef(K:PySem.W.Frag)(tl:TE):TI:=λσ H R=>tl σ H λx H1=>∃a,x=.ref a/\(∃xs,xJ K H1 a xs)/\R (Vb K a) H1
theorem Tb{l:Expr}{tl:TE}(hl:PE X l tl):PI X tg l (ug X.K tl):=by
 intro pins s σ H R I h
 refine dm (hl pins s σ H _ I h) λv s1 ⟨x,H1,I1,r1,q1⟩=>?_
 obtain⟨a,e,⟨xs,hq⟩,q⟩:=q1
 subst e
 cases r1
 obtain⟨its,rv,p,hz⟩:=I1.list hq
 refine zr p.isList ?_
 refine⟨s1.heap.objs.size,[s1.heap.objs.size],_,_,H1,rfl,I1.kept (t':=s1.toks) λb o e=>cF _ e,Kz a _,⟨_,dD _ rfl,rfl,rfl⟩,λb hb=>?_,q⟩
 have e:b=s1.heap.objs.size:=by simpa using hb
 subst e
 exact I1.Uz (aU _) (I1.bM.fresh (aU _))
theorem W0{l:Expr}{tl:TE}(hl:PE X l tl):PI X tg l (Ef X.K tl):=by
 intro pins s σ H R I h
 refine dm (hl pins s σ H _ I h) λv s1 ⟨x,H1,I1,r1,q1⟩=>?_
 obtain⟨a,e,⟨xs,hq⟩,q⟩:=q1
 subst e
 cases r1
 obtain⟨its,rv,p,hz⟩:=I1.tuple hq
 refine wpAny_pyIter_tuple (show s1.heap.IsTuple a its.toArray from p) ?_
 refine⟨s1.heap.objs.size,[s1.heap.objs.size],_,_,H1,rfl,I1.kept (t':=s1.toks) λb o e=>cF _ e,GP a _,⟨_,dD _ rfl,rfl,rfl⟩,λb hb=>?_,q⟩
 have e:b=s1.heap.objs.size:=by simpa using hb
 subst e
 exact I1.Uz (aU _) (I1.bM.fresh (aU _))
theorem Oi{pins:List (Addr×Obj)}{σ:St}{H:Hp}{s:Shared}{R:It->Hp->Prop}{E:Value->Shared->Prop}{lo hi:Int}{t u v:Tok}{tk:Nat}(I:Inv X pins σ H s)(h1 : -(2 ^ 62)<=lo)(h2:lo<2 ^ 62)(h3 : -(2 ^ 62)<=hi)(h4:hi<2 ^ 62)
  (q:R (FG lo (hi-lo).toNat) H):wpAny (model X.prog X.w) X.A (pyIter (.ref s.heap.objs.size)) (PIE X pins σ tg R) E { s with heap:=s.heap.push { cls:=.type "range",data:=.fields #[.int lo t,.int hi u,.int 1 v] },toks:=tk }:=by
 refine wpAny_pyIter_range (IsRange.new ..) (small_one h1 h2 h3 h4) ?_
 have I1:Inv X pins σ H { s with heap:=s.heap.push { cls:=.type "range",data:=.fields #[.int lo t,.int hi u,.int 1 v] },toks:=tk }:=I.kept λb o e=>cF _ e
 refine⟨(s.heap.push { cls:=.type "range",data:=.fields #[.int lo t,.int hi u,.int 1 v] }).objs.size,[(s.heap.push { cls:=.type "range",data:=.fields #[.int lo t,.int hi u,.int 1 v] }).objs.size],_,_,H,rfl,
  I1.kept (t':=tk) λb o e=>cF _ e,GQ _ lo (hi-lo).toNat,?_,λb hb=>?_,q⟩
 ·have e1:lo+((0:Nat):Int)*1=lo:=by simp
  have e2:(((hi-lo).toNat:Nat):Int)-((0:Nat):Int)=Builtin.Range.rangeSize lo hi 1:=by rw[rangeSize_one];split <;> lia
  show IsRangeIter _ _ (lo+((0:Nat):Int)*1) ((((hi-lo).toNat:Nat):Int)-((0:Nat):Int)) 1
  rw[e1,e2]
  exact dD _ rfl
 ·have e:b=(s.heap.push { cls:=.type "range",data:=.fields #[.int lo t,.int hi u,.int 1 v] }).objs.size:=by simpa using hb
  subst e
  exact I1.Uz (aU _) (I1.bM.fresh (aU _))
def uf(ta:TA):TI:=λσ H R=>ta σ H λvs H1=>∃j:Int,vs=[.int j]/\-(2 ^ 62)<=j/\j<2 ^ 62/\R (FG 0 j.toNat) H1
def yA(ta:TA):TI:=λσ H R=>ta σ H λvs H1=>∃i j:Int,vs=[.int i,.int j]/\(-(2 ^ 62)<=i/\i<2 ^ 62/\-(2 ^ 62)<=j/\j<2 ^ 62)/\R (FG i (j-i).toNat) H1
theorem yn{a:Expr}{ta:TA}{p pos:Pos}(hg:Gl X "range")(hm:X.mg "range" = none)(ha:PA X [a] ta)(hs:starEach [a] X.env=[(false,eval a X.env)]:=by rfl):PI X tg (.Call (.Name "range" p) [a] [] pos) (uf ta):=by
 intro pins s σ H R I h
 refine Call_ (Bk I hg hm boot_range (PyProof.Rows.callWith_type1 (dm (ha pos pins s σ H _ I h) λus s1 ⟨vs,H1,I1,r1,q1⟩=>?_) hs rfl))
 obtain⟨j,e,q1,q2,q⟩:=q1
 subst e
 cases r1 with
 | cons r rr=>
  cases rr
  obtain⟨t,rfl⟩:=r
  exact call_range_1 (Oi I1 (by lia) (by lia) q1 q2 (by simpa using q))
def R7(wi:TI)(g:TG)(tb:TS):TS:=λD σ H=>wi σ H λJ H1=>∃W:Nat->Nat->St->Hp->Prop,(∃m,W 0 m σ H1)/\∀i m σ H,W i m σ H->
 (J.stop i H/\D.nx σ H)\/(J.go i H/\∃N:St->Hp->Prop,(∀σ' H',N σ' H'->∃m',m'<m/\W (i+1) m' σ' H')/\∀x H',J.Kv i H x H'->g x σ H' λσ2 H2=>tb { D with nx:=N,ct:=N,bk:=D.nx } σ2 H2)
def wg(fp:List Addr)(h:Heap):List (Addr×Obj):=fp.filterMap λb=>(h.get? b).map λo=>(b,o)
theorem kY{fp:List Addr}{h:Heap}{b:Addr}{o:Obj}(hb:b∈fp)(e:h.get? b=some o):(b,o)∈wg fp h:=List.mem_filterMap.mpr ⟨b,hb,by rw[e];rfl⟩
theorem Lq{fp:List Addr}{h:Heap}{p:Addr×Obj}(hp:p∈wg fp h):p.1∈fp/\h.get? p.1=some p.2:=by
 obtain⟨b,hb,e⟩:=List.mem_filterMap.mp hp
 cases q:h.get? b with
 | none=>rw[q]at e;cases e
 | some o=>
  rw[q]at e
  have e':(b,o)=p:=cv e
  subst e'
  exact⟨hb,q⟩
theorem Inv.pinned{pins:List (Addr×Obj)}{σ:St}{H:Hp}{s:Shared}{fp:List Addr}(I:Inv X pins σ H s)(hf:∀b∈fp,BM X pins H b)(ho:∀b∈fp,∃o,s.heap.get? b=some o/\∀v,o.data≠.cell v):Inv X (pins++wg fp s.heap) σ H s:=
 I.JF λp hp=>(bT.mp hp).elim (λz=>I.pin p (iI _ z)) λz=>by
  obtain⟨hb,e⟩:=Lq z
  obtain⟨f0,f1,f2,_⟩:=hf p.1 hb
  obtain⟨o,e',d⟩:=ho p.1 hb
  rw[e]at e';cases e'
  exact⟨e,f0,f1,f2,d⟩
theorem Inv.qy{pins pl:List (Addr×Obj)}{σ:St}{H:Hp}{s:Shared}(I:Inv X (pins++pl) σ H s):Inv X pins σ H s:=I.JF λp hp=>I.pin p (iI _ (j4 _ hp))
theorem WR{iter:Expr}{body:List Stmt}{wi:TI}{g:TG}{tb:TS}{pos:Pos}(hp:PassesOwn (model X.prog X.w) X.A X.env X.xe)(hc:X.calm=true)(hi:PI X tg iter wi)(hg:PG X tg g)(hb:BG X body tb)
  (hs:∀x,foldedSetIterable iter X.env x=pure x:=by intro _;rfl):PS X (.For tg iter body [] pos) (R7 wi g tb):=by
 intro pins s σ H D I h
 refine wpAny_For (dm (hi pins s σ H _ I h) λv s1 h1=>dm h1 λitv s2 h2=>?_) hs
 obtain⟨it,fp,tn,J,H2,e,I2,T,Ry,f2,W,⟨m0,w0⟩,turn⟩:=h2
 subst e
 have stat:∀{H':Hp},(∀b∈fp,H' b=none)->∀b∈fp,BM X pins H' b:=λhn b hb=>⟨hn b hb,(f2 b hb).2⟩
 refine codeAny_forLoop_any (λn s'=>∃i σ' H',Inv X pins σ' H' s'/\tn i s'.heap/\(∀b∈fp,H' b=none)/\W i n σ' H') ?_ m0 ⟨0,σ,H2,I2,Ry,λb hb=>(f2 b hb).1,w0⟩
 rintro n s3 ⟨i,σ3,H3,I3,st3,fr3,w3⟩
 rcases turn i n σ3 H3 w3 with ⟨stop,qn⟩ | ⟨go,N,hN,step⟩
 ·refine pC hp (dm (T.done X rfl rfl rfl hc i pins s3 σ3 H3 X.xe I3 (stat fr3) st3 stop) λr s4 ⟨hr,I4⟩=>?_)
  subst hr
  exact zc ⟨σ3,H3,I4,qn⟩
 ·refine pC hp (dm (T.item X rfl rfl rfl hc i pins s3 σ3 H3 X.xe I3 (stat fr3) st3 go) λr s4 ⟨u,hr,h4⟩=>?_)
  subst hr
  refine pC hp (dm h4 λ_ s5 ⟨x,H5,I5,r5,y5,st5,fr5⟩=>?_)
  have I5':=I5.pinned (stat fr5) (T.obj _ _ st5)
  refine pC hp (dm (hg _ s5 σ3 H5 x u _ I5' r5 (step x H5 y5)) λ_ s6 ⟨σ6,H6,I6,q6⟩=>?_)
  refine pC hp (dm (hb _ s6 σ6 H6 _ I6 q6) λf s7 q7=>?_)
  have again:∀{σ7:St} {H7:Hp},Inv X (pins++wg fp s5.heap) σ7 H7 s7->N σ7 H7->∃m,m<n/\∃i σ' H',Inv X pins σ' H' s7/\tn i s7.heap/\(∀b∈fp,H' b=none)/\W i m σ' H':=λ{σ7 H7} I7 n7=>by
   obtain⟨m',hm,w7⟩:=hN σ7 H7 n7
   refine⟨m',hm,i+1,σ7,H7,I7.qy,T.keep _ _ _ st5 λb hb o e=>(I7.pin (b,o) (iI _ (iI _ (kY hb e)))).1,λb hb=>?_,w7⟩
   obtain⟨o,e,d⟩:=T.obj _ _ st5 b hb
   exact(I7.pin (b,o) (iI _ (iI _ (kY hb e)))).2.1
  cases f with
  | next=>obtain⟨σ7,H7,I7,n7⟩:=q7;exact again I7 n7
  | cont=>obtain⟨σ7,H7,I7,n7⟩:=q7;exact again I7 n7
  | brk=>obtain⟨σ7,H7,I7,q7⟩:=q7;exact⟨σ7,H7,I7.qy,q7⟩
  | ret v=>obtain⟨x7,σ7,H7,I7,r7,q7⟩:=q7;exact⟨x7,σ7,H7,I7.qy,r7,q7⟩
end
theorem QH{K:PySem.W.Frag}{a:Addr}{xs:List V}{g:TG}{tb:TS}{D:Ends}{σ:St}{H:Hp}(Pv:Nat->St->Hp->Prop)(h0:Pv 0 σ H)(hl:∀i σ H,i<=xs.length->Pv i σ H->oQ K H a xs)
  (hs:∀i x σ H,xs[i]?=some x->Pv i σ H->g x σ H λσ2 H2=>tb { D with nx:=Pv (i+1),ct:=Pv (i+1),bk:=D.nx } σ2 H2) (hd:∀σ H,Pv xs.length σ H->D.nx σ H) :
  ∃W:Nat->Nat->St->Hp->Prop,(∃m,W 0 m σ H)/\∀i m σ H,W i m σ H->
   ((FH K a).stop i H/\D.nx σ H)\/((FH K a).go i H/\∃N:St->Hp->Prop,(∀σ' H',N σ' H'->∃m',m'<m/\W (i+1) m' σ' H')/\∀x H',(FH K a).Kv i H x H'->g x σ H' λσ2 H2=>tb { D with nx:=N,ct:=N,bk:=D.nx } σ2 H2):=by
 refine⟨λi m σ H=>m=xs.length-i/\i<=xs.length/\Pv i σ H,⟨xs.length,by simp,dG _,h0⟩,?_⟩
 rintro i m σ H ⟨rfl,hi,p⟩
 have q:=hl i σ H hi p
 by_cases iQ:i<xs.length
 ·refine .inr ⟨⟨xs,xs[i],q,by simp[iQ]⟩,Pv (i+1),λσ' H' p'=>⟨xs.length-(i+1),by lia,rfl,iQ,p'⟩,λx H' y=>?_⟩
  obtain⟨e,y⟩:=y
  subst e
  exact hs i x σ _ (y xs q) p
 ·have e:i=xs.length:=by lia
  subst e
  exact .inl ⟨⟨xs,q,aU _⟩,hd σ H p⟩
theorem UG{K:PySem.W.Frag}{a:Addr}{xs:List V}{g:TG}{tb:TS}{D:Ends}{σ:St}{H:Hp}(Pv:Nat->St->Hp->Prop)(h0:Pv 0 σ H)(hl:∀i σ H,i<=xs.length->Pv i σ H->xJ K H a xs)
  (hs:∀i x σ H,xs[i]?=some x->Pv i σ H->g x σ H λσ2 H2=>tb { D with nx:=Pv (i+1),ct:=Pv (i+1),bk:=D.nx } σ2 H2) (hd:∀σ H,Pv xs.length σ H->D.nx σ H) :
  ∃W:Nat->Nat->St->Hp->Prop,(∃m,W 0 m σ H)/\∀i m σ H,W i m σ H->
   ((Vb K a).stop i H/\D.nx σ H)\/((Vb K a).go i H/\∃N:St->Hp->Prop,(∀σ' H',N σ' H'->∃m',m'<m/\W (i+1) m' σ' H')/\∀x H',(Vb K a).Kv i H x H'->g x σ H' λσ2 H2=>tb { D with nx:=N,ct:=N,bk:=D.nx } σ2 H2):=by
 refine⟨λi m σ H=>m=xs.length-i/\i<=xs.length/\Pv i σ H,⟨xs.length,by simp,dG _,h0⟩,?_⟩
 rintro i m σ H ⟨rfl,hi,p⟩
 have q:=hl i σ H hi p
 by_cases iQ:i<xs.length
 ·refine .inr ⟨⟨xs,xs[i],q,by simp[iQ]⟩,Pv (i+1),λσ' H' p'=>⟨xs.length-(i+1),by lia,rfl,iQ,p'⟩,λx H' y=>?_⟩
  obtain⟨e,y⟩:=y
  subst e
  exact hs i x σ _ (y xs q) p
 ·have e:i=xs.length:=by lia
  subst e
  exact .inl ⟨⟨xs,q,aU _⟩,hd σ H p⟩
theorem Mk{lo:Int}{n:Nat}{g:TG}{tb:TS}{D:Ends}{σ:St}{H:Hp}(Pv:Nat->St->Hp->Prop)(h0:Pv 0 σ H)
  (hs:∀i σ H,i<n->Pv i σ H->g (.int (lo+i)) σ H λσ2 H2=>tb { D with nx:=Pv (i+1),ct:=Pv (i+1),bk:=D.nx } σ2 H2) (hd:∀σ H,Pv n σ H->D.nx σ H) :
  ∃W:Nat->Nat->St->Hp->Prop,(∃m,W 0 m σ H)/\∀i m σ H,W i m σ H->
   ((FG lo n).stop i H/\D.nx σ H)\/((FG lo n).go i H/\∃N:St->Hp->Prop,(∀σ' H',N σ' H'->∃m',m'<m/\W (i+1) m' σ' H')/\∀x H',(FG lo n).Kv i H x H'->g x σ H' λσ2 H2=>tb { D with nx:=N,ct:=N,bk:=D.nx } σ2 H2):=by
 refine⟨λi m σ H=>m=n-i/\i<=n/\Pv i σ H,⟨n,by simp,dG _,h0⟩,?_⟩
 rintro i m σ H ⟨rfl,hi,p⟩
 by_cases iQ:i<n
 ·refine .inr ⟨iQ,Pv (i+1),λσ' H' p'=>⟨n-(i+1),by lia,rfl,iQ,p'⟩,λx H' y=>?_⟩
  obtain⟨e,y⟩:=y
  subst e y
  exact hs i σ _ iQ p
 ·have e:i=n:=by lia
  subst e
  exact .inl ⟨aU _,hd σ H p⟩
end L2
namespace L2
open PySem PySem.Spec PyProof.Rows
abbrev R2:=V->V->Hp->VK->Prop
def kF(X:Cx)(f:Value->Value->Sem Value)(r:R2):Prop:=
 ∀(pins:List (Addr×Obj)) (s:Shared) (σ:St) (H:Hp) (x y:V) (v u:Value) (Q:VK),Inv X pins σ H s->RelV x v->RelV y u->r x y H Q->
  wpAny (model X.prog X.w) X.A (f v u) (EP X pins σ Q) X.xe s
def dy(X:Cx)(f:Value)(r:List V->Hp->VK->Prop):Prop:=
 ∀(pins:List (Addr×Obj)) (s:Shared) (σ:St) (H:Hp) (xs:List V) (us:List Value) (Q:VK),Inv X pins σ H s->Vals xs us->r xs H Q->
  wpAny (model X.prog X.w) X.A (call f us) (EP X pins σ Q) X.xe s
def BR(r:R2)(ta tb:TE):TE:=λσ H Q=>ta σ H λx H1=>tb σ H1 λy H2=>r x y H2 Q
def YJ(r:V->Hp->VK->Prop)(ta:TE):TE:=λσ H Q=>ta σ H λx H1=>r x H1 Q
def rI(C:Int->Int->Prop)(g:Int->Int->V):R2:=λx y H Q=>∃i j,x=.int i/\y=.int j/\C i j/\Q (g i j) H
def K6(g:Int->Int->V):R2:=λx y H Q=>∃i j,x=.int i/\y=.int j/\Q (g i j) H
def rU(g:Int->V):V->Hp->VK->Prop:=λx H Q=>∃i,x=.int i/\Q (g i) H
section
variable {X:Cx}{a b c:Expr}{ta tb tc:TE}{pos:Pos}
theorem Yv(ha:PE X a ta)(hb:PE X b tb){pins:List (Addr×Obj)}{s:Shared}{σ:St}{H:Hp}{R:V->V->Hp->Prop}(I:Inv X pins σ H s)
  (h:ta σ H λx H1=>tb σ H1 λy H2=>R x y H2) {Q:Value->Shared->Prop} {f:Value->Value->Sem Value}
  (hf:∀v u s2 x y H2,Inv X pins σ H2 s2->RelV x v->RelV y u->R x y H2->wpAny (model X.prog X.w) X.A (f v u) Q X.xe s2) :
  wpAny (model X.prog X.w) X.A (eval a X.env) (λv s₁=>wpAny (model X.prog X.w) X.A (eval b X.env) (λu s₂=>wpAny (model X.prog X.w) X.A (f v u) Q X.xe s₂) X.xe s₁) X.xe s:=by
 refine dm (ha pins s σ H _ I h) λv s1 ⟨x,H1,I1,r1,q1⟩=>?_
 refine dm (hb pins s1 σ H1 _ I1 q1) λu s2 ⟨y,H2,I2,r2,q2⟩=>?_
 exact hf v u s2 x y H2 I2 r1 r2 q2
theorem aAi{op:Operator}{r:R2}(ho:kF X (binaryOp op) r)(ha:PE X a ta)(hb:PE X b tb):PE X (.BinOp a op b pos) (BR r ta tb):=by
 intro pins s σ H Q I h
 exact wpAny_BinOp (Yv ha hb I h λv u s2 x y H2 I2 rx ry q=>ho pins s2 σ H2 x y v u Q I2 rx ry q)
theorem opI{f:Value->Value->Sem Value}{C:Int->Int->Prop}{g:Int->Int->Int}
  (rule:∀(i j:Int) (t u:Tok) (s:Shared) (Q:Value->Shared->Prop) (E:Value->Shared->Prop),C i j->Q (.int (g i j) s.toks) { s with toks:=s.toks+1 }->wpAny (model X.prog X.w) X.A (f (.int i t) (.int j u)) Q E s) :
  kF X f (rI C λi j=>.int (g i j)):=by
 intro pins s σ H x y v u Q I rx ry h
 obtain⟨i,j,rfl,rfl,hc,q⟩:=h
 obtain⟨t,rfl⟩:=rx
 obtain⟨t',rfl⟩:=ry
 exact rule i j t t' s _ _ hc ⟨.int (g i j),H,I.tok _,⟨_,rfl⟩,q⟩
theorem aAo{f:Value->Value->Sem Value}{g:Int->Int->Int}
  (rule:∀(i j:Int) (t u:Tok) (s:Shared) (Q:Value->Shared->Prop) (E:Value->Shared->Prop),Q (.int (g i j) s.toks) { s with toks:=s.toks+1 }->wpAny (model X.prog X.w) X.A (f (.int i t) (.int j u)) Q E s) :
  kF X f (K6 λi j=>.int (g i j)):=by
 intro pins s σ H x y v u Q I rx ry h
 obtain⟨i,j,rfl,rfl,q⟩:=h
 obtain⟨t,rfl⟩:=rx
 obtain⟨t',rfl⟩:=ry
 exact rule i j t t' s _ _ ⟨.int (g i j),H,I.tok _,⟨_,rfl⟩,q⟩
theorem Xg{f:Value->Value->Sem Value}{g:Int->Int->Bool}
  (rule:∀(i j:Int) (t u:Tok) (s:Shared) (Q:Value->Shared->Prop) (E:Value->Shared->Prop),Q (.bool (g i j)) s->wpAny (model X.prog X.w) X.A (f (.int i t) (.int j u)) Q E s) :
  kF X f (K6 λi j=>.bl (g i j)):=by
 intro pins s σ H x y v u Q I rx ry h
 obtain⟨i,j,rfl,rfl,q⟩:=h
 obtain⟨t,rfl⟩:=rx
 obtain⟨t',rfl⟩:=ry
 exact rule i j t t' s _ _ ⟨.bl (g i j),H,I,rfl,q⟩
def aFG(i j:Int):Prop:=0<j/\j<1073741824
def aBK(i j:Int):Prop:=0<=j/\j<=1000000/\i.natAbs<2 ^ 64
def lJ(i j:Int):Prop:=(-(2 ^ 64)<i/\i<2 ^ 64)\/(-(2 ^ 64)<j/\j<2 ^ 64)
theorem lJ.ok{i j:Int}(h:lJ i j):IntMulOk i j:=by
 rcases h with ⟨h1,h2⟩ | ⟨h1,h2⟩
 ·exact .of_left (intBits_le_64 h1 h2)
 ·exact .of_right (intBits_le_64 h1 h2)
theorem fA:kF X (binaryOp .Add) (K6 λi j=>.int (i+j)):=aAo λ_ _ _ _ _ _ _ q=>add_int q
theorem Ap:kF X (binaryOp .Sub) (K6 λi j=>.int (i-j)):=aAo λ_ _ _ _ _ _ _ q=>sub_int q
theorem mU:kF X (binaryOp .Mult) (rI lJ λi j=>.int (i*j)):=opI λ_ _ _ _ _ _ _ hc q=>mul_int q hc.ok
theorem Tv:kF X (binaryOp .FloorDiv) (rI aFG λi j=>.int (i / j)):=opI λi j _ _ _ _ _ hc q=>by
 have h1:(0:Int)<j:=hc.1
 have h2:j<1073741824:=hc.2
 exact floordiv_int (by lia) (by rw[Int.fdiv_eq_ediv_of_nonneg i (by lia)];exact q) (.inl (PyProof.noPylong_small (by lia)))
theorem jj:kF X (binaryOp .Mod) (rI (λ_ j=>0<j) λi j=>.int (i%j)):=opI λi j _ _ _ _ _ hc q=>by
 have h1:(0:Int)<j:=hc
 exact mod_int' (by lia) (by rw[Int.fmod_eq_emod_of_nonneg i (by lia)];exact q)
theorem Xc:kF X (binaryOp .Pow) (rI aBK λi j=>.int (i ^ j.toNat)):=opI λ_ _ _ _ _ _ _ hc q=>pow_int_small hc.1 hc.2.1 hc.2.2 q
end
def Cz:V->V->Bool
 | .non,.non=>true | .non,.int _=>true | .int _,.non=>true | .non,.bl _=>true | .bl _,.non=>true | .non,.str _=>true | .str _,.non=>true
 | .int _,.int _=>true | .bl _,.bl _=>true | .str _,.str _=>true | .Rc _,.Rc _=>true
 | .int _,.str _=>true | .str _,.int _=>true | .bl _,.str _=>true | .str _,.bl _=>true
 | _,_=>false
def Wz:R2:=λx y H Q=>Cz x y=true/\Q (.bl (decide (x=y))) H
def Vn:R2:=λx y H Q=>Cz x y=true/\Q (.bl (!decide (x=y))) H
theorem Kb{i j:Int}:decide (V.int i=V.int j)=(i==j):=by
 rw[iZ]
 simp
theorem QW{i j:Bool}:decide (V.bl i=V.bl j)=(i==j):=by
 rw[iZ]
 simp
theorem Ka{i j:Str}:decide (V.str i=V.str j)=(i==j):=by
 rw[iZ]
 simp
theorem Kc{i j:Array UInt8}:decide (V.Rc i=V.Rc j)=(i.toList==j.toList):=by
 rw[iZ]
 cases i
 cases j
 simp
section
variable {X:Cx}{a b c:Expr}{ta tb tc:TE}{pos:Pos}
theorem bQ{pins:List (Addr×Obj)}{σ:St}{H:Hp}{s:Shared}{Q:VK}{k k':Bool}(I:Inv X pins σ H s)(q:Q (.bl k) H)(e:k=k'):EP X pins σ Q (.bool k') s:=by
 subst e
 exact⟨.bl k,H,I,rfl,q⟩
theorem cV:kF X (compareOp .Eq) Wz:=by
 intro pins s σ H x y v u Q I rx ry h
 obtain⟨hs,q⟩:=h
 cases x with
 | non=>
  cases rx
  cases y with
  | non=>cases ry;exact PySem.EqNone.eq_none_none (bQ I q (by simp))
  | bl j=>cases ry;exact PySem.EqNone.eq_none_bool (bQ I q (by simp))
  | int j=>obtain⟨t',rfl⟩:=ry;exact PySem.EqNone.eq_none_int (bQ I q (by simp))
  | str j=>obtain⟨t',rfl⟩:=ry;exact PySem.EqNone.eq_none_str (bQ I q (by simp))
  | _=>exact absurd (show false=true from hs) eM
 | bl i=>
  cases rx
  cases y with
  | non=>cases ry;exact PySem.EqNone.eq_bool_none (bQ I q (by simp))
  | bl j=>cases ry;exact eq_bool (bQ I q QW)
  | str j=>obtain⟨t',rfl⟩:=ry;exact PySem.EqMixed.eq_bool_str (bQ I q (by simp))
  | _=>exact absurd (show false=true from hs) eM
 | int i=>
  obtain⟨t,rfl⟩:=rx
  cases y with
  | non=>cases ry;exact PySem.EqNone.eq_int_none (bQ I q (by simp))
  | int j=>obtain⟨t',rfl⟩:=ry;exact eq_int (bQ I q Kb)
  | str j=>obtain⟨t',rfl⟩:=ry;exact PySem.EqMixed.eq_int_str (bQ I q (by simp))
  | _=>exact absurd (show false=true from hs) eM
 | str i=>
  obtain⟨t,rfl⟩:=rx
  cases y with
  | non=>cases ry;exact PySem.EqNone.eq_str_none (bQ I q (by simp))
  | bl j=>cases ry;exact PySem.EqMixed.eq_str_bool (bQ I q (by simp))
  | int j=>obtain⟨t',rfl⟩:=ry;exact PySem.EqMixed.eq_str_int (bQ I q (by simp))
  | str j=>obtain⟨t',rfl⟩:=ry;exact eq_str (bQ I q Ka)
  | _=>exact absurd (show false=true from hs) eM
 | Rc i=>
  obtain⟨t,rfl⟩:=rx
  cases y with
  | Rc j=>obtain⟨t',rfl⟩:=ry;exact PySem.W.eq_bytes (bQ I q Kc)
  | _=>exact absurd (show false=true from hs) eM
 | _=>cases y <;> exact absurd (show false=true from hs) eM
theorem Dp:kF X (compareOp .NotEq) Vn:=by
 intro pins s σ H x y v u Q I rx ry h
 obtain⟨hs,q⟩:=h
 cases x with
 | non=>
  cases rx
  cases y with
  | non=>cases ry;exact PySem.EqNone.ne_none_none (bQ I q (by simp))
  | bl j=>cases ry;exact PySem.EqNone.ne_none_bool (bQ I q (by simp))
  | int j=>obtain⟨t',rfl⟩:=ry;exact PySem.EqNone.ne_none_int (bQ I q (by simp))
  | str j=>obtain⟨t',rfl⟩:=ry;exact PySem.EqNone.ne_none_str (bQ I q (by simp))
  | _=>exact absurd (show false=true from hs) eM
 | bl i=>
  cases rx
  cases y with
  | non=>cases ry;exact PySem.EqNone.ne_bool_none (bQ I q (by simp))
  | bl j=>cases ry;exact ne_bool (bQ I q (gj not QW))
  | str j=>obtain⟨t',rfl⟩:=ry;exact PySem.EqMixed.ne_bool_str (bQ I q (by simp))
  | _=>exact absurd (show false=true from hs) eM
 | int i=>
  obtain⟨t,rfl⟩:=rx
  cases y with
  | non=>cases ry;exact PySem.EqNone.ne_int_none (bQ I q (by simp))
  | int j=>obtain⟨t',rfl⟩:=ry;exact ne_int (bQ I q (gj not Kb))
  | str j=>obtain⟨t',rfl⟩:=ry;exact PySem.EqMixed.ne_int_str (bQ I q (by simp))
  | _=>exact absurd (show false=true from hs) eM
 | str i=>
  obtain⟨t,rfl⟩:=rx
  cases y with
  | non=>cases ry;exact PySem.EqNone.ne_str_none (bQ I q (by simp))
  | bl j=>cases ry;exact PySem.EqMixed.ne_str_bool (bQ I q (by simp))
  | int j=>obtain⟨t',rfl⟩:=ry;exact PySem.EqMixed.ne_str_int (bQ I q (by simp))
  | str j=>obtain⟨t',rfl⟩:=ry;exact ne_str (bQ I q (gj not Ka))
  | _=>exact absurd (show false=true from hs) eM
 | Rc i=>
  obtain⟨t,rfl⟩:=rx
  cases y with
  | Rc j=>obtain⟨t',rfl⟩:=ry;exact PySem.W.ne_bytes (bQ I q (gj not Kc))
  | _=>exact absurd (show false=true from hs) eM
 | _=>cases y <;> exact absurd (show false=true from hs) eM
theorem JL:kF X (compareOp .Lt) (K6 λi j=>.bl (decide (i<j))):=Xg λ_ _ _ _ _ _ _ q=>lt_int q
theorem Vp:kF X (compareOp .Gt) (K6 λi j=>.bl (decide (j<i))):=Xg λ_ _ _ _ _ _ _ q=>gt_int q
theorem aAn:kF X (compareOp .GtE) (K6 λi j=>.bl (decide (j<=i))):=Xg λ_ _ _ _ _ _ _ q=>ge_int q
theorem Xe:kF X (compareOp .Is) (λx y H Q=>y=.non/\Q (.bl (decide (x=.non))) H):=by
 intro pins s σ H x y v u Q I rx ry h
 obtain⟨rfl,q⟩:=h
 cases ry
 refine is_none_gen (bQ I q ?_)
 cases x <;> first
  | (cases rx;rfl)
  | (obtain⟨t,rfl⟩:=rx;rfl)
theorem Tr:kF X (compareOp .IsNot) (λx y H Q=>y=.non/\Q (.bl (!decide (x=.non))) H):=by
 intro pins s σ H x y v u Q I rx ry h
 obtain⟨rfl,q⟩:=h
 cases ry
 refine isnot_none_gen (bQ I q ?_)
 cases x <;> first
  | (cases rx;rfl)
  | (obtain⟨t,rfl⟩:=rx;rfl)
theorem aX(b:Expr){op:CmpOp}(h:op≠.In:=by decide)(h2:op≠.NotIn:=by decide):behindInMarks op b=false:=by
 have e1:(op==CmpOp.In)=false:=by cases op <;> first | rfl | exact absurd rfl h
 have e2:(op==CmpOp.NotIn)=false:=by cases op <;> first | rfl | exact absurd rfl h2
 cases b <;> simp[behindInMarks,e1,e2]
theorem Tf{op:CmpOp}{r:R2}(ho:kF X (compareOp op) r)(ha:PE X a ta)(hb:PE X b tb)(hm:behindInMarks op b=false):PE X (.Compare a [op] [b] pos) (BR r ta tb):=by
 intro pins s σ H Q I h
 exact wpAny_Compare1 (Yv ha hb I h λv u s2 x y H2 I2 rx ry q=>ho pins s2 σ H2 x y v u Q I2 rx ry q) hm
def oX(t:TE):TT:=λσ H Q=>t σ H λx H'=>∃k,x=.bl k/\Q k H'
theorem SJ{op:CmpOp}{r:R2}(ho:kF X (compareOp op) r)(ha:PE X a ta)(hb:PE X b tb)(hm:behindInMarks op b=false):PT X (.Compare a [op] [b] pos) (oX (BR r ta tb)):=by
 intro pins s σ H Q I h
 refine wpAny_isTrue_Compare1 (dm (ha pins s σ H _ I h) λv s1 ⟨x,H1,I1,r1,q1⟩=>dm (hb pins s1 σ H1 _ I1 q1) λu s2 ⟨y,H2,I2,r2,q2⟩=>
  dm (ho pins s2 σ H2 x y v u _ I2 r1 r2 q2) λc s3 ⟨z,H3,I3,r3,k,e,q3⟩=>?_) hm
 subst e
 cases r3
 exact rV ⟨H3,I3,q3⟩
theorem sG:(sizeLine:Nat)<2 ^ 63:=by rw[kG];decide
theorem wm:kF X (binaryOp .Add) (λx y H Q=>∃i j,x=.str i/\y=.str j/\i.length+j.length<=sizeLine/\Q (.str (i++j)) H):=by
 intro pins s σ H x y v u Q I rx ry h
 obtain⟨i,j,rfl,rfl,hz,q⟩:=h
 obtain⟨t,rfl⟩:=rx
 obtain⟨t',rfl⟩:=ry
 exact add_str (λt' tk=>⟨.str (i++j),H,I.tok _,⟨_,rfl⟩,q⟩) hz
theorem vals1{x:V}{us:List Value}(r:Vals [x] us):∃u,us=[u]/\RelV x u:=by
 cases r with
 | cons r1 r2=>cases r2;exact⟨_,rfl,r1⟩
theorem Rb:dy X (.builtin "abs") (λxs H Q=>∃i,xs=[.int i]/\Q (.int (if i<0 then -i else i)) H):=by
 intro pins s σ H xs us Q I r h
 obtain⟨i,rfl,q⟩:=h
 obtain⟨u,rfl,t,rfl⟩:=vals1 r
 exact call_abs_int λu tk=>⟨.int (if i<0 then -i else i),H,I.tok _,⟨_,rfl⟩,q⟩
end
end L2
namespace L2
open PySem PySem.Spec PyProof.Rows
section
variable {prog:Program}{w:World}{A:Around}{E:Value->Shared->Prop}{s:Shared}{K:PySem.W.Frag}{x dx C f:Addr}{mA:Str->Option Value}{name:Str}{v:Value}
end
theorem uO.some_of{v:V}{o:Option Value}(r:uO (some v) o):∃u,o=some u/\RelV v u:=by
 cases o with
 | none=>exact(show False from r).elim
 | some u=>exact⟨u,rfl,r⟩
section
variable {P:Program}{w:World}{H H':Hp}{h h':Heap}{a C dx:Addr}{fs fs':List (Str×V)}
end
structure Cls(K:PySem.W.Frag)(C:Addr):Prop where
 pg:PySem.W.plainGet K C Str.empty=true
 hd:PySem.W.hasDictIn K C=true
 po:PySem.W.plainOver K C=true
 sa:PySem.W.findIn K (.ref C) "__setattr__" = some (some (.builtin "object.__setattr__"))
section
variable {X:Cx}{pins:List (Addr×Obj)}{σ:St}{H:Hp}{s:Shared}{a C dx:Addr}{fs:List (Str×V)}{f:Str}{v:V}{A:Around}{E:Value->Shared->Prop}
end
section
variable {X:Cx}{o e value:Expr}{f:Str}{pos pos' NC:Pos}{ta tv:TE}
end
section
variable {X:Cx}{pins:List (Addr×Obj)}{σ:St}{H:Hp}{s:Shared}{A:Around}{E:Value->Shared->Prop}{Q:Value->Shared->Prop}{c:Value}{b:Bool}
inductive uN (K:PySem.W.Frag) (H:Hp):V->Value->Prop where
 | non:uN K H .non (.type "NoneType")
 | bl (x:Bool):uN K H (.bl x) (.type "bool")
 | int (i:Int):uN K H (.int i) (.type "int")
 | str (x:Str):uN K H (.str x) (.type "str")
 | flt (x:UInt64):uN K H (.flt x) (.type "float")
 | lst {a:Addr} {xs:List V} (e:H a=some (.lst xs)):uN K H (.ref a) (.type "list")
 | m9 {a:Addr} {o:Obj} {xs:List V} (e:H a=some (.m9 o (.lst xs))):uN K H (.ref a) (.type "list")
 | tup {a:Addr} {xs:List V} (e:H a=some (.tup xs)):uN K H (.ref a) (.type "tuple")
 | dK {a:Addr} {kvs:List (Key×V)} (e:H a=some (.dK kvs)):uN K H (.ref a) (.type "dict")
 | dT {a:Addr} {kvs:List (List Key×V)} (e:H a=some (.dT kvs)):uN K H (.ref a) (.type "dict")
 | ins {a C dx:Addr} {fs:List (Str×V)} (e:H a=some (.ins C dx fs)) (cl:Cls K C) (ha:PySem.W.findIn K (.ref C) "__class__" = some (some (.builtin "object.__class__")))
   (hn:PySem.W.specialIn K (.builtin "object.__class__") "__get__" = some (some (.builtin "getset_descriptor.__get__"))) (htk:PySem.W.takesIn K (.builtin "object.__class__")=some true)
   (hm:PySem.W.mroIn K C (.type "object")=some true):uN K H (.ref a) (.ref C)
end
end L2
namespace L2
open PySem PySem.Spec PyProof.Rows
structure eF(k:Nat)(A:Around):Prop where
 hd:A.handled=none
 dp:A.depth+3*k+5<recursionLimit
 un:A.units+16*k+200<cLine
theorem eF.mono{j k:Nat}{A:Around}(r:eF k A)(h:j<=k):eF j A:=⟨r.hd,by have:=r.dp;lia,by have:=r.un;lia⟩
theorem eF.deeper{k:Nat}{A:Around}(r:eF (k+1) A)(env:Env):eF k (A.deeper env):=
 ⟨r.hd,by have:=r.dp;show A.depth+1+3*k+5<_;lia,by have:=r.un;show A.units+3+16*k+200<_;lia⟩
theorem eF.in1{k:Nat}{A:Around}(r:eF (k+1) A):eF k A.in1:=
 ⟨r.hd,by have:=r.dp;show A.depth+3*k+5<_;lia,by have:=r.un;show A.units+1+16*k+200<_;lia⟩
theorem Hw{A:Around}{C:Addr}{us:List Value}{kw:List (Str×Value)}:(A.under (.builtin "type.__call__" ⟨.ref C::us,kw⟩)).depth=A.depth+1:=by
 first | rfl | simp[Around.under,Code.weight,Code.isCreation,Code.isGuard,Code.isCaller,Code.frames,Code.isFrame,guardIds]
theorem Hv{A:Around}{C:Addr}{us:List Value}{kw:List (Str×Value)}:(A.under (.builtin "type.__call__" ⟨.ref C::us,kw⟩)).units=A.units+1:=by
 first | rfl | simp[Around.under,Code.cUnits,Code.frames,Code.isFrame]
theorem eF.make{k:Nat}{A:Around}(r:eF (k+1) A)(C:Addr)(us:List Value)(kw:List (Str×Value)):eF k (A.under (.builtin "type.__call__" ⟨.ref C::us,kw⟩)):=
 ⟨r.hd,by have:=r.dp;rw[Hw];lia,by have:=r.un;rw[Hv];lia⟩
theorem eF.depth{k:Nat}{A:Around}(r:eF k A):A.depth<recursionLimit:=by have:=r.dp;lia
theorem eF.units{k:Nat}{A:Around}(r:eF k A):A.units+64<cLine:=by have:=r.un;lia
theorem eF.dI{k:Nat}{A:Around}(r:eF k A):A.units<cLine:=by have:=r.un;lia
def vS:TA:=λ_ H Q=>Q [] H
def j8(ta:TE)(tr:TA):TA:=λσ H Q=>ta σ H λx H1=>tr σ H1 λxs H2=>Q (x::xs) H2
section
variable {X:Cx}{e:Expr}{es:List Expr}{te:TE}{t:TA}{pos:Pos}
theorem Ao:PA X [] vS:=λ_ _ _ _ H Q I h=>Calls.spliced_nil ⟨[],H,I,.nil,h⟩
theorem qQ(ha:PE X e te)(hr:PA X es t)(hs:starEach (e::es) X.env=(false,eval e X.env)::starEach es X.env:=by rfl):PA X (e::es) (j8 te t):=by
 intro pos pins s σ H Q I h
 rw[hs]
 show wpAny _ _ (spliced ((false,eval e X.env)::backTo pos (starEach es X.env))) _ _ s
 refine Calls.spliced_cons (dm (ha pins s σ H _ I h) λu s1 ⟨x,H1,I1,r1,q1⟩=>?_)
 exact dm (hr pos pins s1 σ H1 _ I1 q1) λus s2 ⟨xs,H2,I2,r2,q2⟩=>⟨x::xs,H2,I2,.cons r1 r2,q2⟩
def zP(t:TA):TE:=λσ H Q=>t σ H λxs H1=>xs.length<=sizeLine/\∀p,H1 p=none->Q (.ref p) (upd H1 p (.tup xs))
def Cq(t:TA):TE:=λσ H Q=>t σ H λxs H1=>xs.length<=sizeLine/\∀p,H1 p=none->Q (.ref p) (upd H1 p (.lst xs))
theorem W2{x1}(h:PA X es t):PE X (.Tuple es x1 pos) (zP t):=by
 intro pins s σ H Q I hq
 refine wpAny_Tuple_spliced (dm (h pos pins s σ H _ I hq) λus s1 ⟨xs,H1,I1,r,z,q⟩=>⟨by rw[<-r.length];exact z,?_⟩)
 have hf:H1 s1.heap.objs.size=none:=I1.bM.fresh (aU _)
 refine⟨.ref s1.heap.objs.size,upd H1 s1.heap.objs.size (.tup xs),I1.laid (t':=s1.toks) (λb u e=>cF _ e) (aU _) ?_,rfl,q _ hf⟩
 exact⟨z,us,r,⟨_,dD _ rfl,rfl,_,rfl⟩⟩
theorem W6(h:PA X es t):PE X (.List es pos) (Cq t):=by
 intro pins s σ H Q I hq
 refine wpAny_List_spliced (dm (h pos pins s σ H _ I hq) λus s1 ⟨xs,H1,I1,r,z,q⟩=>⟨by rw[<-r.length];exact z,?_⟩)
 have hf:H1 s1.heap.objs.size=none:=I1.bM.fresh (aU _)
 refine⟨.ref s1.heap.objs.size,upd H1 s1.heap.objs.size (.lst xs),I1.laid (t':=s1.toks) (λb u e=>cF _ e) (aU _) ?_,rfl,q _ hf⟩
 exact⟨z,us,0,r,dD _ rfl⟩
end
abbrev Sp:=List V->Hp->VK->XK->Prop
abbrev M8:=List Env->Hp->Shared->XK->Value->Shared->Prop
structure xQ(P:Program)(w:World)(K:PySem.W.Frag)(mg:Str->Option Value)(base:Heap)(A:Around)(outer:List Env)(s:Shared)(H:Hp):Prop where
 frames:A.frames=some outer
 mod:Mod K mg base
 bs:∀b o,base.get? b=some o->s.heap.get? b=some o/\H b=none
 RT:base.objs.size<=s.heap.objs.size
 sQ:s.heap.FunFrames base outer
 VP:∀b∈qg outer,H b=none
 bM:ju P w H s.heap
 bare:AllBare s.gens
def CE(outer:List Env)(P:Program)(w:World)(H:Hp)(s:Shared)(Q:VK)(u:Value)(s':Shared):Prop:=
 ∃v H',s'.os=s.os/\AllBare s'.gens/\Un (qg outer) [] H H' s.heap s'.heap/\ju P w H' s'.heap/\RelV v u/\Q v H'
def CR(CX:M8)(outer:List Env)(P:Program)(w:World)(H:Hp)(s:Shared)(Q:VK)(E:XK)(r:Result)(s':Shared):Prop:=
 match r with
 | .ok (.ret u)=>CE outer P w H s Q u s'
 | .ok _=>False
 | .error e=>CX outer H s E e s'
structure cE(P:Program)(w:World)(K:PySem.W.Frag)(mg:Str->Option Value)(base:Heap)(CX:M8)(k:Nat)(f:Addr)(fd:FuncData)(ps:List Str)(sp:Sp):Prop where
 len:∀vs H Q E,sp vs H Q E->vs.length=ps.length
 run:∀(A:Around) (outer:List Env) (s:Shared) (H:Hp) (args:Args) (us:List Value) (vs:List V) (Q:VK) (E:XK),eF k A->xQ P w K mg base A outer s H->BindsTo s fd args (ps.zip us)->Vals vs us->sp vs H Q E->
  codeAny (model P w) A (.call (.ref f) args) (CR CX outer P w H s Q E) s
theorem xQ.make{P:Program}{w:World}{K:PySem.W.Frag}{mg:Str->Option Value}{base:Heap}{A:Around}{outer:List Env}{s:Shared}{H:Hp}(e:xQ P w K mg base A outer s H)(C:Addr)(us:List Value)(kw:List (Str×Value)) :
  xQ P w K mg base (A.under (.builtin "type.__call__" ⟨.ref C::us,kw⟩)) outer s H:=⟨by first | exact e.frames | (simpa [Around.under,Code.envs,Code.isFrame,pushEnvs]using e.frames),e.mod,e.bs,e.RT,e.sQ,e.VP,e.bM,e.bare⟩
theorem xQ.in1{P:Program}{w:World}{K:PySem.W.Frag}{mg:Str->Option Value}{base:Heap}{A:Around}{outer:List Env}{s:Shared}{H:Hp}(e:xQ P w K mg base A outer s H) :
  xQ P w K mg base A.in1 outer s H:=⟨e.frames,e.mod,e.bs,e.RT,e.sQ,e.VP,e.bM,e.bare⟩
section
variable {X:Cx}{pins:List (Addr×Obj)}{σ:St}{H:Hp}{s s':Shared}
theorem Inv.Yn(I:Inv X pins σ H s):xQ X.prog X.w X.K X.mg X.base X.A X.stack s H:=
 ⟨I.ok.frames,I.ok.mod,I.bs,df I.ok.RT I.sz,I.stack,I.zY,I.bM,I.bare⟩
theorem Inv.after{Q:VK}{u:Value}(I:Inv X pins σ H s)(h:CE X.stack X.prog X.w H s Q u s'):EP X pins σ Q u s':=by
 obtain⟨v,H',os,bare,un,bM,r,q⟩:=h
 obtain⟨hh,g,d,t,os'⟩:=s'
 obtain rfl:os'=s.os:=os
 exact⟨v,H',I.call (h':=hh) (g':=g) (d':=d) (t':=t) (ch:=[]) un bM bare (λb z=>absurd z (by simp)),r,q⟩
end
def qA(sp:Sp)(QS:List V)(E:XK)(t:TA):TE:=λσ H Q=>t σ H λvs H1=>sp (vs++QS) H1 Q E
def Binds(K:PySem.W.Frag)(fd:FuncData)(ps:List Str)(ds:List Value):Prop:=
 ∀(s:Shared) (us:List Value),K.In s.heap->(us++ds).length=ps.length->BindsTo s fd ⟨us,[]⟩ (ps.zip (us++ds))
theorem Binds.all{K:PySem.W.Frag}{fd:FuncData}{ps:List Str}(h:∀us:List Value,us.length=ps.length->bindArgs fd ⟨us,[]⟩=pure (ps.zip us)):Binds K fd ps []:=λs us _ hl=>by
 rw[jB]at hl ⊢
 exact .of_eq (h us hl)
def Passes(CX:M8)(X:Cx)(E:XK):Prop:=∀(pins:List (Addr×Obj)) (σ:St) (H:Hp) (s:Shared) (e:Value) (s':Shared),Inv X pins σ H s->CX X.stack H s E e s'->X.xe e s'
section
variable {X:Cx}{CX:M8}{k:Nat}{f C:Addr}{fd:FuncData}{ps:List Str}{sp:Sp}{QS:List V}{ds:List Value}{E:XK}{x m:Str}{p pos apos:Pos}{e o:Expr}{es:List Expr}{ta:TE}{t:TA}
theorem Ww{pins:List (Addr×Obj)}{σ:St}{H:Hp}{s:Shared}{Q:VK}{us:List Value}{vs:List V}(F:cE X.prog X.w X.K X.mg X.base CX k f fd ps sp)(hr:eF k X.A)(hb:Binds X.K fd ps ds)(hd:Vals QS ds)(hx:Passes CX X E)
  (I:Inv X pins σ H s) (r:Vals vs us) (h:sp (vs++QS) H Q E):wpAny (model X.prog X.w) X.A (call (.ref f) us) (EP X pins σ Q) X.xe s:=by
 have r2:Vals (vs++QS) (us++ds):=r.append hd
 have hl:(us++ds).length=ps.length:=by rw[<-r2.length];exact F.len _ _ _ _ h
 refine rB (px (F.run X.A X.stack s H ⟨us,[]⟩ (us++ds) (vs++QS) Q E hr I.Yn (hb s us I.HF hl) r2 h) λr s' hq=>?_)
 cases r with
 | error e=>exact hx pins σ H s e s' I hq
 | ok fl=>
  cases fl with
  | ret u=>exact I.after hq
  | next=>exact False.elim hq
  | brk=>exact False.elim hq
  | cont=>exact False.elim hq
theorem uU(F:cE X.prog X.w X.K X.mg X.base CX k f fd ps sp)(hr:eF k X.A)(hg:Gl X x)(hm:X.mg x=some (.ref f))(hk:PySem.W.keepIn X.K (.ref f)=true)(hb:Binds X.K fd ps ds)(hd:Vals QS ds)(hx:Passes CX X E)
  (ha:PA X (e::es) t) (Bq:(x==("__debug__" : Str))=false:=by decide) (he:starEach (e::es) X.env=(false,eval e X.env)::starEach es X.env:=by rfl) (yC:(backTo pos (starEach es X.env)).any (·.1)=false:=by rfl) :
  PE X (.Call (.Name x p) (e::es) [] pos) (qA sp QS E t):=by
 intro pins s σ H Q I h
 refine vA (uZ I hg hm ?_ Bq)
 refine PySem.W.callWith_K (h₀:=X.base) I.ok.mod.Y0 hk (dm (ha pos pins s σ H _ I h) λus s1 ⟨vs,H1,I1,r,q⟩=>⟨I1.HF,?_⟩) he yC
 exact Ww F hr hb hd hx I1 r q
end
def PK(X:Cx)(kws:List Keyword)(t:TA):Prop:=
 ∀(pos:Pos) (pins:List (Addr×Obj)) (s:Shared) (σ:St) (H:Hp) (Q:List V->Hp->Prop),Inv X pins σ H s->t σ H Q->wpAny (model X.prog X.w) X.A (evalAll ((backToKw pos (keywordEach kws X.env)).map (·.2))) (AP X pins σ Q) X.xe s
section
variable {X:Cx}{CX:M8}{k:Nat}{f C:Addr}{fd:FuncData}{ps ks:List Str}{sp:Sp}{E:XK}{x m:Str}{p pos apos kpos:Pos}{e o:Expr}{es:List Expr}{kws:List Keyword}{te ta:TE}{t tk:TA}{nm:Option Str}
theorem WY:PK X [] vS:=λ_ _ _ _ H Q I h=>wpAny_evalAll_nil ⟨[],H,I,.nil,h⟩
theorem Ta(ha:PE X e te)(hr:PK X kws t):PK X (⟨nm,e,kpos⟩::kws) (j8 te t):=by
 intro pos pins s σ H Q I h
 show wpAny _ _ (evalAll ((do let v <-eval e X.env;standAt pos;pure v)::(backToKw pos (keywordEach kws X.env)).map (·.2))) _ _ s
 refine wpAny_evalAll_cons (az (dm (ha pins s σ H _ I h) λu s1 ⟨x,H1,I1,r1,q1⟩=>az (rF (aK ?_))))
 exact dm (hr pos pins s1 σ H1 _ I1 q1) λus s2 ⟨xs,H2,I2,r2,q2⟩=>⟨x::xs,H2,I2,.cons r1 r2,q2⟩
variable {g:List Value->List Value->List Value}{gV:List V->List V->List V}
end
structure aT(N P:List Str)(sc:Scope):Prop where
 kind:sc.kind=.function
 co:sc.isCoroutine=false
 gen:sc.isGenerator=false
 nd:N.Nodup
 pre:N.take P.length=P
 par:∀x∈P,sc.names.lookup x=some .local\/sc.names.lookup x=some .cell
 Xk:∀y∈sc.names,y.2≠.free
theorem yQ{kindOf:Str->Option NameKind}{x:Str}:∀{binds:List (Str×Value)} {m:Str->Option Value},(∀v,(x,v)∉binds)->bindL kindOf binds m x=m x
 | [],_,_=>rfl
 | (n,v)::r,m,h=>by
  unfold bindL
  rw[yQ λw hw=>h w (fw _ hw)]
  split
  ·have:x≠n:=by rintro rfl;exact h v di
   simp[this]
  ·rfl
theorem yS{kindOf:Str->Option NameKind}{x:Str}:∀{binds:List (Str×Value)} {m:Str->Option Value},(∀v,(x,v)∉binds)->bindC kindOf binds m x=m x
 | [],_,_=>rfl
 | (n,v)::r,m,h=>by
  unfold bindC
  rw[yS λw hw=>h w (fw _ hw)]
  split
  ·rfl
  ·have:x≠n:=by rintro rfl;exact h v di
   simp[this]
theorem yR{kindOf:Str->Option NameKind}{x:Str}{v:Value}:∀{P:List Str} {vs:List Value} {i:Nat} {m:Str->Option Value},P.Nodup->P[i]?=some x->vs[i]?=some v->kindOf x=some .local->
  bindL kindOf (P.zip vs) m x=some v
 | [],_,_,_,_,h,_,_=>by simp at h
 | _::_,[],_,_,_,_,h,_=>by simp at h
 | p::P,w::vs,0,m,nd,h1,h2,hk=>by
  simp at h1 h2;subst h1;subst h2
  show bindL kindOf ((p,w)::P.zip vs) m p=_
  unfold bindL
  rw[yQ λv hv=>(oR.mp nd).1 (List.of_mem_zip hv).1,aB hk]
  simp
 | p::P,w::vs,i+1,m,nd,h1,h2,hk=>by
  show bindL kindOf ((p,w)::P.zip vs) m x=_
  unfold bindL
  exact yR (i:=i) (oR.mp nd).2 (by simpa using h1) (by simpa using h2) hk
theorem yT{kindOf:Str->Option NameKind}{x:Str}{v:Value}:∀{P:List Str} {vs:List Value} {i:Nat} {m:Str->Option Value},P.Nodup->P[i]?=some x->vs[i]?=some v->kindOf x≠some .local->
  bindC kindOf (P.zip vs) m x=some v
 | [],_,_,_,_,h,_,_=>by simp at h
 | _::_,[],_,_,_,_,h,_=>by simp at h
 | p::P,w::vs,0,m,nd,h1,h2,hk=>by
  simp at h1 h2;subst h1;subst h2
  show bindC kindOf ((p,w)::P.zip vs) m p=_
  unfold bindC
  rw[yS λv hv=>(oR.mp nd).1 (List.of_mem_zip hv).1,aA hk]
  simp
 | p::P,w::vs,i+1,m,nd,h1,h2,hk=>by
  show bindC kindOf ((p,w)::P.zip vs) m x=_
  unfold bindC
  exact yT (i:=i) (oR.mp nd).2 (by simpa using h1) (by simpa using h2) hk
def start(N:List Str)(vs:List V):St:=vs.map some++List.replicate (N.length-vs.length) none
def km(CX:M8)(P:Program)(w:World)(K:PySem.W.Frag)(mg:Str->Option Value)(base:Heap)(N:List Str)(qual:Str)(scope:Scope)(f:Addr)(cd:Value)(A:Around)(outer:List Env)(s:Shared)(H:Hp)(E:XK):Cx where
 prog:=P
 w:=w
 K:=K
 mg:=mg
 base:=base
 A:=A.deeper (envOfC qual scope s.heap.objs.size f cd)
 N:=N
 s₀:=s
 H₀:=H
 env:=envOfC qual scope s.heap.objs.size f cd
 outer:=outer
 stack:=envOfC qual scope s.heap.objs.size f cd::outer
 ex:=[]
 calm:=true
 fn:=λ_=>true
 pn:=[]
 xe:=λe s'=>wpAny (model P w) (A.deeper (envOfC qual scope s.heap.objs.size f cd)) (leaving (envOfC qual scope s.heap.objs.size f cd) e) (λ_ Fu=>CX outer H s E e Fu) (λe' Fu=>CX outer H s E e' Fu) s'
theorem Ey{sc:Scope}{n:Nat}{x:Str}(h:sc.names.lookup x=some .cell):∃c,(cellsFrom n sc.names []).lookup x=some c:=by
 have q:=PySem.W.cellsFrom_some sc.names n [] (.inl h)
 exact Option.isSome_iff_exists.mp q
theorem L8{CX:M8}{P:Program}{w:World}{K:PySem.W.Frag}{mg:Str->Option Value}{base:Heap}{N ps:List Str}{qual:Str}{scope:Scope}{f:Addr}{cd:Value}{A:Around}{outer:List Env}{s s1:Shared}{H:Hp}{E:XK}{us:List Value}{vs:List V}
  (S:aT N ps scope) (hd:A.handled=none) (e0:xQ P w K mg base A outer s H) (hl:vs.length=ps.length) (r:Vals vs us)
  (x:InCallC s s.heap.objs.size (bindL (envOfC qual scope s.heap.objs.size f cd).kindOf (ps.zip us) λ_=>none) (cellsFrom (s.heap.objs.size+1) scope.names []) (bindC (envOfC qual scope s.heap.objs.size f cd).kindOf (ps.zip us) λ_=>none) s1) :
  Inv (km CX P w K mg base N qual scope f cd A outer s H E) [] (start N vs) H s1:=by
 have yC:ps.length<=N.length:=by have:=gj List.length S.pre;rw[cz]at this;lia
 obtain⟨h1,tk,rfl,hk⟩:=x.done
 have noA:∀b:Addr,b∉(km CX P w K mg base N qual scope f cd A outer s H E).ex:=λb z=>absurd (show b∈([]:List Addr) from z) (by simp)
 refine⟨⟨e0.mod,S.kind,rfl,rfl,aU _,λy z c h1 h2=>?_,λy hy=>?_,λy c _ h=>?_,λ_=>hd,Around.frames_deeper e0.frames,.inr ⟨rfl,rfl⟩,λb z=>absurd z (noA b),e0.bs,e0.RT,λb _ _=>noA b,λb z=>absurd z (noA b),e0.sQ,e0.VP⟩,
  rfl,e0.bare,Un.kept hk,⟨_,x.toInCall.ns,λi y v h1 h2 h3=>?_⟩,λy c h=>⟨_,x.cell y c h⟩,e0.bM.fresh (aU _),λy c h=>?_,λp hp=>absurd (show p∈([]:List (Addr×Obj)) from hp) (by simp),e0.bM.kept hk,?_⟩
 ·exact name_of_addr x.apart (oU h1) (oU h2)
 ·have hy:scope.names.lookup y=some .cell\/scope.names.lookup y=some .free:=hy
  rcases hy with hy | hy
  ·exact Ey hy
  ·exact absurd rfl (S.Xk _ (oU hy))
 ·exact jb (x.above y c (oU h))
 ·have hi:i<vs.length:=by
   unfold start at h2
   by_cases hi:i<vs.length
   ·exact hi
   ·rw[fC (by simpa using hi)]at h2
    rw[List.getElem?_replicate]at h2
    split at h2 <;> cases h2
  have ha:vs[i]?=some v:=by
   unfold start at h2
   rw[gh (by simpa using hi),cR]at h2
   cases e:vs[i]? with
   | none=>rw[e]at h2;cases h2
   | some a=>rw[e]at h2;cases h2;rfl
  obtain⟨u,hu,rv⟩:=r.get ha
  have hp:ps[i]?=some y:=by
   rw[<-S.pre,List.getElem?_take_of_lt (by lia)];exact h1
  have ndP:ps.Nodup:=by rw[<-S.pre];exact S.nd.sublist (Ge _ _)
  refine⟨u,rv,?_⟩
  rcases S.par y (dE hp) with k | k
  ·exact .inl ⟨k,yR ndP hp hu k⟩
  ·obtain⟨c,e⟩:=Ey (n:=s.heap.objs.size+1) k
   refine .inr ⟨.inl k,c,e,?_⟩
   have q:=x.cell y c e
   rw[yT ndP hp hu (by show scope.names.lookup y≠_;rw[k];decide)]at q
   exact q
 ·exact e0.bM.fresh (jb (x.above y c (oU h)))
 ·unfold start
  show _=N.length
  rw[cw,aM,vG]
  lia
theorem VR{CX:M8}{P:Program}{w:World}{K:PySem.W.Frag}{mg:Str->Option Value}{base:Heap}{k:Nat}{f:Addr}{name qual:Str}{params:Arguments}{body:List Stmt}{scope:Scope}{dV kV doc pm dz ct oc:Value}{an od:Option Addr}
  {Lf:Array (Option Value)} {N ps:List Str} {sp:Sp} (lk:K.lookup f=some ⟨oc,od,.func (PySem.W.fnOf name qual params body scope dV kV doc pm an dz ct),Lf⟩) (Ig:PySem.W.codeIn K dz qual=true) (S:aT N ps scope)
  (len:∀vs H Q E,sp vs H Q E->vs.length=ps.length)
  (m6:∀(A:Around) (outer:List Env) (s:Shared) (H:Hp) (vs:List V) (Q:VK) (E:XK),eF k (A.deeper (envOfC qual scope s.heap.objs.size f dz))->sp vs H Q E->
   ∃t,BG (km CX P w K mg base N qual scope f dz A outer s H E) body t/\t { nx:=λ_ H'=>Q .non H',rt:=Q } (start N vs) H) :
  cE P w K mg base CX (k+1) f (PySem.W.fnOf name qual params body scope dV kV doc pm an dz ct) ps sp:=by
 refine⟨len,λA outer s H args us vs Q E hr e0 hb r RG=>?_⟩
 have hl:=len _ _ _ _ RG
 have KX:K.In s.heap:=e0.mod.Y0.keeps λb o e=>(e0.bs b o e).1
 have lim:s.heap.NoLimit:=e0.mod.nolimit.keeps λb o e=>(e0.bs b o e).1
 have aAL:∀y∈ps.zip us,scope.names.lookup y.1=some .local\/(scope.names.lookup y.1=some .cell/\((cellsFrom (s.heap.objs.size+1) scope.names []).lookup y.1).isSome=true):=λ⟨n,v⟩ hy=>by
  rcases S.par n (List.of_mem_zip hy).1 with q | q
  ·exact .inl q
  ·exact .inr ⟨q,PySem.W.cellsFrom_some _ _ _ (.inl q)⟩
 refine codeAny_call_function hr.depth (KX _ _ lk) rfl S.co S.gen rfl (PySem.W.codeRec_of KX Ig) (hb _ _ _ _ ?_)
 refine wpAny_newFunctionEnv_cells S.kind aAL λenv he s1 x=>?_
 subst he
 refine⟨lim.keeps x.toInCall.keep,codeAny_func ?_⟩
 obtain⟨t,ht,hq⟩:=m6 A outer s H vs Q E (hr.deeper _) RG
 have I:Inv (km CX P w K mg base N qual scope f dz A outer s H E) [] (start N vs) H s1:=L8 S hr.hd e0 hl r x
 refine dq (ht [] s1 (start N vs) H _ I hq) (λfl s' hs=>?_) λe s' hs=>hs
 have fin:∀{σ':St} {H':Hp} {v:V} {u:Value},Inv (km CX P w K mg base N qual scope f dz A outer s H E) [] σ' H' s'->RelV v u->Q v H'->CE outer P w H s Q u s':=
  λ{σ' H' v u} J rv q=>⟨v,H',J.os,J.bare,J.base,J.bM,rv,q⟩
 cases fl with
 | ret u=>
  obtain⟨v,σ',H',J,rv,q⟩:=hs
  exact fin J rv q
 | next=>
  obtain⟨σ',H',J,q⟩:=hs
  exact fin (v:=V.non) (u:=Value.none) J rfl q
 | brk=>
  obtain⟨_,_,_,q⟩:=hs
  exact False.elim q
 | cont=>
  obtain⟨_,_,_,q⟩:=hs
  exact False.elim q
end L2
namespace L2
open PySem PySem.Spec PyProof.Rows
section
variable {X:Cx}{x:Str}{p pos:Pos}{e:Expr}{es:List Expr}{t:TA}{id T:String}{r:List V->Hp->VK->Prop}
def Rw(r:List V->Hp->VK->Prop)(t:TA):TE:=λσ H Q=>t σ H λvs H1=>r vs H1 Q
theorem mS(hc:dy X (.builtin id) r)(hg:Gl X x)(hm:X.mg x=none)(hv:bootBuiltins x=some (.builtin id))(ha:PA X (e::es) t)(hn:x≠"__name__":=by decide)(Bq:(x==("__debug__" : Str))=false:=by decide)
  (he:starEach (e::es) X.env=(false,eval e X.env)::starEach es X.env:=by rfl) (yC:(backTo pos (starEach es X.env)).any (·.1)=false:=by rfl):PE X (.Call (.Name x p) (e::es) [] pos) (Rw r t):=by
 intro pins s σ H Q I h
 refine vA (Bk I hg hm hv ?_ hn Bq)
 exact Nn (dm (ha pos pins s σ H _ I h) λus s1 ⟨vs,H1,I1,r1,q1⟩=>hc pins s1 σ H1 vs us Q I1 r1 q1) he yC
theorem kc(hc:dy X (.type T) r)(hg:Gl X x)(hm:X.mg x=none)(hv:bootBuiltins x=some (.type T))(ha:PA X (e::es) t)(hn:x≠"__name__":=by decide)(Bq:(x==("__debug__" : Str))=false:=by decide)
  (he:starEach (e::es) X.env=(false,eval e X.env)::starEach es X.env:=by rfl) (yC:(backTo pos (starEach es X.env)).any (·.1)=false:=by rfl):PE X (.Call (.Name x p) (e::es) [] pos) (Rw r t):=by
 intro pins s σ H Q I h
 refine vA (Bk I hg hm hv ?_ hn Bq)
 exact PyProof.Rows.callWith_type1 (dm (ha pos pins s σ H _ I h) λus s1 ⟨vs,H1,I1,r1,q1⟩=>hc pins s1 σ H1 vs us Q I1 r1 q1) he yC
end
end L2
namespace HT
open PySem PyProof.Rows
def lexLt:List Int->List Int->Bool
 | [],[]=>false
 | [],_::_=>true
 | _::_,[]=>false
 | x::xs,y::ys=>if x=y then lexLt xs ys else decide (x<y)
section
open PySem.SeqAt
open PySem.AutoSeq1 (wpAny_loadPart')
open PySem.MeetsSeq PySem.MeetsSeq2 PySem.MeetsSeq3
end
section
variable {prog:Program}{w:World}{A:Around}{E:Value->Shared->Prop}{s:Shared}
theorem U0{t b:Addr}{vs ws:List Value}{Q:Value->Shared->Prop}(ht:IsTup s.heap t vs.toArray)(hb:IsTup s.heap b ws.toArray)(hv:vs≠[])
  (h1:ws=[]->Q (.ref t) s) (h2:ws≠[]->Q (.ref s.heap.objs.size) { s with heap:=s.heap.push { cls:=.type "tuple",data:=.seq (vs++ws).toArray } })
  (hsz:vs.length+ws.length<=sizeLine):wpAny (model prog w) A (binaryOp .Add (.ref t) (.ref b)) Q E s:=by
 obtain⟨⟨cls,dd,data,sl⟩,ho,hc,n,hd⟩:=id ht
 obtain⟨⟨aBd,Mr,data2,K0⟩,RJ,RN,n2,hd2⟩:=id hb
 simp only at hc hd RN hd2
 subst hc hd RN hd2
 have e:vs.toArray++ws.toArray=(vs++ws).toArray:=by simp
 by_cases hw:ws=[]
 ·exact concat_meets ⟨_,ho,rfl⟩ ⟨_,RJ,rfl⟩ noFill_tuple_add seq_tuple_add Gv Gw (Gy _ _)
   (tuple_addW1 t b vs.toArray ws.toArray n n2 dd Mr sl K0 (by simpa using hv) (by simp[hw])) ⟨ho,RJ,h1 hw⟩
 ·refine concat_meets ⟨_,ho,rfl⟩ ⟨_,RJ,rfl⟩ noFill_tuple_add seq_tuple_add Gv Gw (Gy _ _)
   (tuple_addW2 t b vs.toArray ws.toArray n n2 dd Mr sl K0 (by simpa using hv) (by simpa using hw) (by rw[cZ,cZ];exact hsz)) ⟨ho,RJ,?_⟩
  rw[e]
  exact h2 hw
def cK(n d:Nat):Option Int->Nat
 | none=>d
 | some v=>if v<0 then (v+(n:Int)).toNat else min v.toNat n
theorem Jr(n d k:Nat):cK n d (some (k:Int))=min k n:=by
 show(if (k:Int)<0 then ((k:Int)+(n:Int)).toNat else min (k:Int).toNat n)=min k n
 rw[aA (by lia),sd]
theorem Od(n d:Nat)(hd:d<=n)(o:Option Int):cK n d o<=n:=by
 cases o with
 | none=>exact hd
 | some v=>
  show(if v<0 then (v+(n:Int)).toNat else min v.toNat n)<=n
  by_cases hv:v<0
  ·rw[aB hv];lia
  ·rw[aA hv];exact Nat.min_le_right _ _
theorem Kh(v:Int)(n d:Nat):(if v<0 then max (v+(n:Int)) 0 else min v (n:Int))=((cK n d (some v):Nat):Int):=by
 show(if v<0 then max (v+(n:Int)) 0 else min v (n:Int))=(((if v<0 then (v+(n:Int)).toNat else min v.toNat n):Nat):Int)
 by_cases hv:v<0
 ·simp only[aB hv];lia
 ·simp only[aA hv];lia
theorem Ja(lo hi:Option Int)(n:Nat):Builtin.Slice.sliceAdjust lo hi 1 (n:Int)=(((cK n 0 lo:Nat):Int),((cK n n hi:Nat):Int)):=by
 have h1:¬((1:Int)<0):=by lia
 unfold Builtin.Slice.sliceAdjust
 simp only[h1,bU]
 refine mq ?_ ?_
 ·cases lo with
  | none=>rfl
  | some v=>exact Kh v n 0
 ·cases hi with
  | none=>rfl
  | some v=>exact Kh v n n
theorem Hl(i j:Nat):Builtin.Slice.slicePlaces (i:Int) (j:Int) 1=j-i:=by
 unfold Builtin.Slice.slicePlaces
 have h1:(1:Int) > 0:=by lia
 simp only[h1,fK,Int.ediv_one]
 split <;> lia
theorem vX{v:Value}{o:Option Int}{Q:Option Int->Shared->Prop}(p:IsPart v o)(h:Q o s):wpAny (model prog w) A (Builtin.Slice.slicePartIndex v) Q E s:=by
 cases p with
 | none=>exact slicePart_none h
 | int i t=>exact slicePart_int h
theorem si{sl:Addr}{vl vu:Value}{lo hi:Option Int}{n:Nat}{Q:Int×Int×Nat->Shared->Prop}(hs:s.heap.IsSliceOf sl vl vu .none)(pl:IsPart vl lo)(pu:IsPart vu hi)
  (h:Q (((cK n 0 lo:Nat):Int),1,cK n n hi-cK n 0 lo) s):wpAny (model prog w) A (Builtin.Slice.sliceApplied (.ref sl) (pure (n:Int))) Q E s:=by
 obtain⟨os,hos,Zf,hds⟩:=id hs
 unfold Builtin.Slice.sliceApplied Builtin.Slice.sliceFields
 refine az (az (pj hos hds (x:=vl) rfl (az (pj hos hds (x:=vu) rfl (az (pj hos hds (x:=.none) rfl (aK ?_)))))))
 refine az (slicePart_none ?_)
 show wpAny _ _ (if ((1:Int)==0)=true then _ else _) _ _ s
 rw[aA (by decide)]
 refine az (vX pl (az (vX pu (az (aK ?_)))))
 show wpAny _ _ (match Builtin.Slice.sliceAdjust lo hi 1 (n:Int) with | (lo,hi)=>pure (lo,(1:Int),Builtin.Slice.slicePlaces lo hi 1)) _ _ s
 rw[Ja lo hi n]
 show wpAny _ _ (pure (((cK n 0 lo:Nat):Int),(1:Int),Builtin.Slice.slicePlaces ((cK n 0 lo:Nat):Int) ((cK n n hi:Nat):Int) 1)) _ _ s
 rw[Hl]
 exact aK h
theorem O3(xs:Array Value)(i k:Nat):((List.range k).filterMap λ(m:Nat)=>xs[((i:Int)+(m:Int)*1).toNat]?).toArray=((xs.toList.drop i).take k).toArray:=by
 have e:(λ(m:Nat)=>xs[((i:Int)+(m:Int)*1).toNat]?)=λm=>xs[i+m]?:=by
  funext m
  have:((i:Int)+(m:Int)*1).toNat=i+m:=by lia
  rw[this]
 rw[e]
 have:=pick_run xs i k
 rw[List.filterMap_map]at this
 have e2:((λx=>xs[x]?) ∘ λx=>i+x)=λm=>xs[i+m]?:=rfl
 rw[e2]at this
 rw[this]
theorem qX{t sl:Addr}{items:Array Value}{vl vu:Value}{lo hi:Option Int}{Q:Value->Shared->Prop}(ht:IsTup s.heap t items)(hs:s.heap.IsSliceOf sl vl vu .none)(pl:IsPart vl lo)(pu:IsPart vu hi)
  (hw:¬(cK items.size 0 lo=0/\cK items.size items.size hi=items.size))
  (h:Q (.ref s.heap.objs.size) { s with heap:=s.heap.push { cls:=.type "tuple",data:=.seq ((items.toList.drop (cK items.size 0 lo)).take (cK items.size items.size hi-cK items.size 0 lo)).toArray } })
  (hsz:items.size<=sizeLine):wpAny (model prog w) A (getItem (.ref t) (.ref sl)) Q E s:=by
 have J1:sizeOk (.seq ((items.toList.drop (cK items.size 0 lo)).take (cK items.size items.size hi-cK items.size 0 lo)).toArray):=by
  show((items.toList.drop (cK items.size 0 lo)).take (cK items.size items.size hi-cK items.size 0 lo)).toArray.size<=sizeLine
  rw[cZ,cz,jD,dF]
  lia
 have hj:cK items.size items.size hi<=items.size:=Od _ _ (aU _) hi
 obtain⟨os,hos,Zf,hds⟩:=id hs
 have hTs:s.TypeIs (.ref sl) "slice":=⟨os,hos,Zf⟩
 unfold getItem
 try with_reducible refine iY ?_
 first | refine az (aK ?_) | skip
 refine az (wpAny_sequenceKey ht.typeIs (by decide) ?_)
 refine az (vH (name:=Str.ofString "__getitem__") ht.typeIs GD
  (lL GD ht.typeIs entry_tuple_getitem ?_ (args_tuple_getitem _ _)))
 show wpAny _ _ (Builtin.Tuple.tupleItemsOf (.ref t) >>= _) _ _ s
 refine az (tupleItemsOf_ ht ?_)
 refine az (wpAny_typeOf hTs ?_)
 rw[aB (by decide)]
 refine az (si hs pl pu ?_)
 have hno:¬((((cK items.size 0 lo:Nat):Int)==0&&(1:Int)==1&&(cK items.size items.size hi-cK items.size 0 lo)==items.size)=true):=by
  intro q
  rw[dh,dh]at q
  have q1:((cK items.size 0 lo:Nat):Int)=0:=eq_of_beq q.1.1
  have q2:cK items.size items.size hi-cK items.size 0 lo=items.size:=eq_of_beq q.2
  exact hw ⟨by lia,by lia⟩
 show wpAny _ _ (if (((cK items.size 0 lo:Nat):Int)==0&&(1:Int)==1&&(cK items.size items.size hi-cK items.size 0 lo)==items.size)=true then _ else _) _ _ s
 rw[aA hno,O3]
 first
  | exact az (m:=Builtin.Tuple.tupleExact _) (iH (aK ⟨_,rfl,aK h⟩) J1)
  | exact az (m:=Builtin.Tuple.tupleExact _) (iH (az (aK (aK ⟨_,rfl,aK h⟩))) J1)
  | exact az (az (m:=Builtin.Tuple.tupleExact _) (iH (aK (aK ⟨_,rfl,aK h⟩)) J1))
  | exact az (az (m:=Builtin.Tuple.tupleExact _) (iH (aK ⟨_,rfl,aK h⟩) J1))
end
end HT
namespace L2
open PySem PySem.Spec PyProof.Rows
abbrev TO:=St->Hp->(Option Int->Hp->Prop)->Prop
def PO(X:Cx)(e:Option Expr)(t:TO):Prop:=
 ∀(pins:List (Addr×Obj)) (s:Shared) (σ:St) (H:Hp) (Q:Option Int->Hp->Prop),Inv X pins σ H s->t σ H Q->
  wpAny (model X.prog X.w) X.A (evalPart e X.env) (λu s'=>∃o H',Inv X pins σ H' s'/\IsPart u o/\Q o H') X.xe s
def jH:TO:=λ_ H Q=>Q none H
def tW(t:TE):TO:=λσ H Q=>t σ H λx H1=>∃i,x=.int i/\Q (some i) H1
section
variable {X:Cx}{e:Expr}{te:TE}{lo hi:Option Expr}{tl th:TO}{pos p2:Pos}
theorem S':PO X none jH:=by
 intro pins s σ H Q I h
 rw[evalPart_none]
 exact aK ⟨none,H,I,.none,h⟩
theorem S9(h:PE X e te):PO X (some e) (tW te):=by
 intro pins s σ H Q I hw
 rw[evalPart_some]
 refine dm (h pins s σ H _ I hw) λu s1 ⟨x,H1,I1,r1,q1⟩=>?_
 obtain⟨i,rfl,q⟩:=q1
 obtain⟨t,rfl⟩:=r1
 exact⟨some i,H1,I1,.int i t,q⟩
def RW(X:Cx)(r:V->Option Int->Option Int->Hp->VK->Prop):Prop:=
 ∀(pins:List (Addr×Obj)) (s:Shared) (σ:St) (H:Hp) (x:V) (v vl vu:Value) (lo hi:Option Int) (sl:Addr) (Q:VK),Inv X pins σ H s->RelV x v->s.heap.IsSliceOf sl vl vu .none->IsPart vl lo->IsPart vu hi->r x lo hi H Q->
  ∃T id,typeLookup (.type T) "__getitem__" = pure (some (.builtin id))/\s.TypeIs v T/\wpAny (model X.prog X.w) X.A (getItem v (.ref sl)) (EP X pins σ Q) X.xe s
def Vg(r:V->Option Int->Option Int->Hp->VK->Prop)(te:TE)(tl th:TO):TE:=λσ H Q=>te σ H λx H1=>tl σ H1 λl H2=>th σ H2 λu H3=>r x l u H3 Q
theorem O'{r:V->Option Int->Option Int->Hp->VK->Prop}(hr:RW X r)(he:PE X e te)(hl:PO X lo tl)(hu:PO X hi th):PE X (.Subscript e (.Slice lo hi none p2) pos) (Vg r te tl th):=by
 intro pins s σ H Q I h
 refine Subscript_ (dm (he pins s σ H _ I h) λv s1 ⟨x,H1,I1,r1,q1⟩=>?_)
 refine wpAny_Slice (dm (hl pins s1 σ H1 _ I1 q1) λvl s2 ⟨l,H2,I2,pl,q2⟩=>dm (hu pins s2 σ H2 _ I2 q2) λvu s3 ⟨u,H3,I3,pu,q3⟩=>?_)
 rw[evalPart_none]
 refine aK ?_
 have I4:Inv X pins σ H3 { s3 with heap:=s3.heap.push { cls:=.type "slice",data:=.fields #[vl,vu,.none] } }:=I3.kept (t':=s3.toks) λb ob q=>cF _ q
 obtain⟨T,id,hT,ht,hg⟩:=hr pins { s3 with heap:=s3.heap.push { cls:=.type "slice",data:=.fields #[vl,vu,.none] } } σ H3 x v vl vu l u s3.heap.objs.size Q I4 r1 (Heap.IsSliceOf.new ..) pl pu q3
 show wpAny (model X.prog X.w) X.A (subscriptTail e (.Slice lo hi none p2) v (.ref s3.heap.objs.size)) (EP X pins σ Q) X.xe { s3 with heap:=s3.heap.push { cls:=.type "slice",data:=.fields #[vl,vu,.none] } }
 exact tail_any (ops:=[.ref s3.heap.objs.size,v]) ht hT hg (by with_unfolding_all rfl)
def jy(xs:List V)(lo hi:Option Int):List V:=(xs.drop (HT.cK xs.length 0 lo)).take (HT.cK xs.length xs.length hi-HT.cK xs.length 0 lo)
theorem uk(xs:List V)(lo hi:Option Int):(jy xs lo hi).length<=xs.length:=by
 unfold jy
 rw[cz,jD]
 lia
def aCf(K:PySem.W.Frag):V->Option Int->Option Int->Hp->VK->Prop:=λx lo hi H Q=>∃a xs,x=.ref a/\xJ K H a xs/\
 ¬(HT.cK xs.length 0 lo=0/\HT.cK xs.length xs.length hi=xs.length)/\∀p,H p=none->Q (.ref p) (upd H p (.tup (jy xs lo hi)))
theorem Ws:RW X (aCf X.K):=by
 intro pins s σ H x v vl vu lo hi sl Q I rx hs pl pu h
 obtain⟨a,xs,rfl,hx,hw,q⟩:=h
 cases rx
 obtain⟨its,r,ht,hz⟩:=I.tuple hx
 have hlen:its.toArray.size=xs.length:=by rw[cZ];exact r.length.symm
 refine⟨"tuple",_,GD.lookup,ht.typeIs,?_⟩
 refine HT.qX ht hs pl pu (by rw[hlen];exact hw) ?_ (by rw[hlen];exact hz)
 rw[hlen]
 refine⟨.ref s.heap.objs.size,_,I.laid (t':=s.toks) (o:=.tup (jy xs lo hi)) (λb ob q=>cF _ q) (aU _) ?_,rfl,q _ (I.bM.fresh (aU _))⟩
 exact⟨df (uk xs lo hi) hz,_,(r.drop (HT.cK xs.length 0 lo)).take (HT.cK xs.length xs.length hi-HT.cK xs.length 0 lo),IsTup.new _ _⟩
def aAa(K:PySem.W.Frag):R2:=λx y H Q=>∃a b xs ys,x=.ref a/\y=.ref b/\xJ K H a xs/\xJ K H b ys/\xs≠[]/\xs.length+ys.length<=sizeLine/\
 (ys=[]->Q (.ref a) H)/\(ys≠[]->∀p,H p=none->Q (.ref p) (upd H p (.tup (xs++ys))))
theorem Vals.Bd{xs:List V}{us:List Value}(r:Vals xs us):us=[]↔xs=[]:=by
 cases r with
 | nil=>simp
 | cons _ _=>simp
theorem Tx:kF X (binaryOp .Add) (aAa X.K):=by
 intro pins s σ H x y v u Q I rx ry h
 obtain⟨a,b,xs,ys,rfl,rfl,ha,hb,hx,hz,q1,q2⟩:=h
 cases rx
 cases ry
 obtain⟨its,r1,p1,_⟩:=I.tuple ha
 obtain⟨Bl,r2,p2,_⟩:=I.tuple hb
 refine HT.U0 p1 p2 (λz=>hx (r1.Bd.mp z)) (λz=>⟨.ref a,H,I,rfl,q1 (r2.Bd.mp z)⟩) (λz=>?_) (by rw[<-r1.length,<-r2.length];exact hz)
 refine⟨.ref s.heap.objs.size,_,I.laid (t':=s.toks) (o:=.tup (xs++ys)) (λb ob q=>cF _ q) (aU _) ?_,rfl,q2 (λw=>z (r2.Bd.mpr w)) _ (I.bM.fresh (aU _))⟩
 exact⟨by rw[cw];exact hz,_,r1.append r2,IsTup.new _ _⟩
end
end L2
namespace L2
open PySem PySem.Spec PyProof.Rows
def L7(n:Nat)(i:Int):Option Nat:=if 0<=i then (if i<n then some i.toNat else none) else if -(n:Int)<=i then some (i+n).toNat else none
def uM{α:Type}(xs:List α)(i:Int):Option α:=(L7 xs.length i).bind λj=>xs[j]?
theorem JV{n:Nat}{i:Int}{j:Nat}(h:L7 n i=some j):seqIndex? i n=some j/\j<n/\-(n:Int)<=i/\i<n:=by
 unfold L7 at h
 by_cases h0:0<=i
 ·rw[aB h0]at h
  by_cases h1:i<n
  ·rw[aB h1]at h
   have e:i.toNat=j:=cv h
   exact⟨by rw[seqIndex_of h0 h1,e],by lia,by lia,h1⟩
  ·rw[aA h1]at h;cases h
 ·rw[aA h0]at h
  by_cases h1 : -(n:Int)<=i
  ·rw[aB h1]at h
   have e:(i+n).toNat=j:=cv h
   exact⟨by rw[seqIndex_neg (by lia) h1,e],by lia,h1,by lia⟩
  ·rw[aA h1]at h;cases h
theorem vg{α:Type}{xs:List α}{i:Int}{v:α}(h:uM xs i=some v):∃j,seqIndex? i xs.length=some j/\xs[j]?=some v/\j<xs.length/\-(xs.length:Int)<=i/\i<xs.length:=by
 unfold uM at h
 cases e:L7 xs.length i with
 | none=>rw[e]at h;cases h
 | some j=>
  rw[e]at h
  obtain⟨h1,h2,h3,h4⟩:=JV e
  exact⟨j,h1,h,h2,h3,h4⟩
theorem fH{α:Type}{xs:List α}{j:Nat}{v:α}(h:xs[j]?=some v):uM xs (j:Int)=some v:=by
 have hj:j<xs.length:=(cy.mp h).1
 have e:L7 xs.length (j:Int)=some j:=by
  unfold L7
  rw[aB (by lia),aB (by lia)];simp
 unfold uM;rw[e];exact h
def Kn(b:Expr):Prop:=∀o i,subscripted b false o i=operate [o,i] (getItem o i)
def Rr(X:Cx)(r:R2):Prop:=
 ∀(value slice:Expr) (pins:List (Addr×Obj)) (s:Shared) (σ:St) (H:Hp) (x y:V) (v u:Value) (Q:VK),Inv X pins σ H s->RelV x v->RelV y u->r x y H Q->
  subscripted slice false v u=operate [v,u] (getItem v u)->wpAny (model X.prog X.w) X.A (subscriptTail value slice v u) (EP X pins σ Q) X.xe s
def V8(X:Cx)(id:String)(r:V->List V->Hp->VK->Prop):Prop:=
 ∀(pins:List (Addr×Obj)) (s:Shared) (σ:St) (H:Hp) (x:V) (xs:List V) (v:Value) (us:List Value) (Q:VK),Inv X pins σ H s->RelV x v->Vals xs us->r x xs H Q->
  wpAny (model X.prog X.w) X.A (call (.builtin id) (v::us)) (EP X pins σ Q) X.xe s
section
variable {X:Cx}{a b:Expr}{ta tb:TE}{pos:Pos}
theorem aAj{r:R2}(hr:Rr X r)(ha:PE X a ta)(hb:PE X b tb)(hs:Kn b):PE X (.Subscript a b pos) (BR r ta tb):=by
 intro pins s σ H Q I h
 exact Subscript_ (Yv ha hb I h λv u s2 x y H2 I2 rx ry q=>hr a b pins s2 σ H2 x y v u Q I2 rx ry q (hs _ _))
def aCj(K:PySem.W.Frag):R2:=λx y H Q=>∃p xs i v,x=.ref p/\y=.int i/\oQ K H p xs/\uM xs i=some v/\Q v H
def aCh(K:PySem.W.Frag):R2:=λx y H Q=>∃p xs i v,x=.ref p/\y=.int i/\xJ K H p xs/\uM xs i=some v/\Q v H
def aCi:R2:=λx y H Q=>∃z i c,x=.str z/\y=.int i/\z.length<=sizeLine/\uM z.cps.toList i=some c/\Q (.str ⟨#[c]⟩) H
theorem Ue:Rr X (aCj X.K):=by
 intro value slice pins s σ H x y v u Q I rx ry h hs
 obtain⟨p,xs,i,z,rfl,rfl,hq,he,q⟩:=h
 cases rx
 obtain⟨t,rfl⟩:=ry
 obtain⟨its,r,pl,hz⟩:=I.list hq
 obtain⟨j,h1,h2,h3,h4,h5⟩:=vg he
 obtain⟨w,ew,Oh⟩:=r.get h2
 have hl:=r.length
 have hn:=sG
 have fin:EP X pins σ Q w s:=⟨z,H,I,Oh,q⟩
 by_cases h0:0<=i
 ·have hj:i.toNat=j:=by
   rw[seqIndex_of h0 h5]at h1
   exact cv h1
  exact item_listR pl.isList h0 (by lia) (by rw[hj];simpa using ew) fin hs
 ·have hj:(i+(its.toArray.size:Int)).toNat=j:=by
   rw[seqIndex_neg (by lia) h4]at h1
   rw[cZ,<-hl]
   exact cv h1
  exact subscriptTail_builtinR (x:=w) pl.isList.typeIs slot_list_getitem.lookup
   (wpAny_getItem_list_neg (Q:=λr s'=>r=w/\EP X pins σ Q r s') pl.isList (by lia) (by rw[cZ] <;> lia) (by lia) (by rw[hj];simpa using ew) ⟨rfl,fin⟩) hs
theorem Xy:Rr X (aCh X.K):=by
 intro value slice pins s σ H x y v u Q I rx ry h hs
 obtain⟨p,xs,i,z,rfl,rfl,hq,he,q⟩:=h
 cases rx
 obtain⟨t,rfl⟩:=ry
 obtain⟨its,r,pl,hz⟩:=I.tuple hq
 obtain⟨j,h1,h2,h3,h4,h5⟩:=vg he
 obtain⟨w,ew,Oh⟩:=r.get h2
 have hl:=r.length
 have hn:=sG
 have fin:EP X pins σ Q w s:=⟨z,H,I,Oh,q⟩
 exact subscriptTail_builtinR (x:=w) pl.typeIs slot_tuple_getitem.lookup
  (getItem_tuple (j:=j) (Q:=λr s'=>r=w/\EP X pins σ Q r s') pl (by lia) (by lia) (by rw[cZ,<-hl];exact h1) (by simpa using ew) ⟨rfl,fin⟩) hs
theorem Xz:Rr X aCi:=by
 intro value slice pins s σ H x y v u Q I rx ry h hs
 obtain⟨z,i,c,rfl,rfl,hz,he,q⟩:=h
 obtain⟨t,rfl⟩:=rx
 obtain⟨t',rfl⟩:=ry
 obtain⟨j,h1,h2,h3,h4,h5⟩:=vg he
 have hl:z.cps.toList.length=z.length:=by simp[Str.length]
 rw[hl]at h1 h4 h5
 have hn:=sG
 exact tail_any (typeIs_str s z t) slot_str_getitem.lookup (getItem_str (c:=c) (by
  have e1:decide (i < -(2 ^ 63:Int))=false:=decide_eq_false (by lia)
  have e2:decide (i>=2 ^ 63)=false:=decide_eq_false (by lia)
  rw[e1,e2,Bool.or_false]) (by rw[h1];simpa using h2) ⟨.str ⟨#[c]⟩,H,I.tok _,⟨_,rfl⟩,q⟩) hs
theorem Hu(its:List Value)(n j:Nat)(u:Value):Obj.mapSeq (·.setIfInBounds j u) { cls:=.type "list",data:=.seq its.toArray n }={ cls:=.type "list",data:=.seq (its.set j u).toArray n }:=by
 simp[Obj.mapSeq]
theorem Inv.lst{pins:List (Addr×Obj)}{σ:St}{H:Hp}{s:Shared}{p:Addr}{xs:List V}(I:Inv X pins σ H s)(h:H p=some (.lst xs)) :
  ∃(its:List Value) (n:Nat),Vals xs its/\s.heap.get? p=some { cls:=.type "list",data:=.seq its.toArray n }/\xs.length<=sizeLine:=by
 obtain⟨z,its,n,r,e⟩:=I.bM p _ h
 exact⟨its,n,r,e,z⟩
theorem Inv.Xs{pins:List (Addr×Obj)}{σ:St}{H:Hp}{s:Shared}{p:Addr}{xs ys:List V}{its its':List Value}{n n':Nat}{f:Obj->Obj}(I:Inv X pins σ H s)(h:H p=some (.lst xs))
  (ho:s.heap.get? p=some { cls:=.type "list",data:=.seq its.toArray n }) (hf:f { cls:=.type "list",data:=.seq its.toArray n }={ cls:=.type "list",data:=.seq its'.toArray n' }) (r:Vals ys its') (hz:ys.length<=sizeLine) (t:Nat) :
  Inv X pins σ (upd H p (.lst ys)) { s with heap:=s.heap.update p f,toks:=t }:=by
 have e:(s.heap.update p f).get? p=some { cls:=.type "list",data:=.seq its'.toArray n' }:=by
  rw[oV f ho (by rw[hf] <;> rfl),hf]
 refine I.write (x:=p) (e:=p) (by rw[h];trivial) (.inl rfl) (λb u hb q=>(tU _ _ (fz hb)).trans q) ⟨_,e⟩ ?_
 exact⟨hz,its',n',r,e⟩
def Z':V->V->V->Hp->(Hp->Prop)->Prop:=λo i v H Q=>∃p xs k j,o=.ref p/\i=.int k/\H p=some (.lst xs)/\L7 xs.length k=some j/\Q (upd H p (.lst (xs.set j v)))
theorem set_list:M3 X Z':=by
 intro pins s σ H o i v ov iv u Q I ro ri rv h
 obtain⟨p,xs,k,j,rfl,rfl,hp,hj,q⟩:=h
 cases ro
 obtain⟨t,rfl⟩:=ri
 obtain⟨its,n,r,ho,hz⟩:=I.lst hp
 obtain⟨h1,h2,h3,h4⟩:=JV hj
 have hl:=r.length
 have hn:=sG
 have I':Inv X pins σ (upd H p (.lst (xs.set j v))) { s with heap:=s.heap.update p (Obj.mapSeq (·.setIfInBounds j u)) }:=
  I.Xs hp ho (Hu its n j u) (r.set rv j) (by rw[List.length_set];exact hz) s.toks
 by_cases h0:0<=k
 ·have hk:k.toNat=j:=by
   rw[seqIndex_of h0 h4]at h1
   exact cv h1
  exact PySem.W.ki_setAt ho h0 (by lia) (by rw[cZ,<-hl];exact h4) (by rw[hk];exact⟨_,I',q⟩)
 ·have hk:(k+(its.toArray.size:Int)).toNat=j:=by
   rw[seqIndex_neg (by lia) h3]at h1
   rw[cZ,<-hl]
   exact cv h1
  exact PySem.W.ki_setBack ho (by lia) (by rw[cZ,<-hl];exact h3) (by lia) (by rw[hk];exact⟨_,I',q⟩)
theorem qC(lo hi:Option Int)(n:Nat):(sliceBounds lo hi none n).1=((HT.cK n 0 lo:Nat):Int)/\(sliceBounds lo hi none n).2.1=((HT.cK n n hi:Nat):Int)/\(sliceBounds lo hi none n).2.2=1:=by
 refine⟨?_,?_,rfl⟩
 ·cases lo with
  | none=>simp[sliceBounds,HT.cK]
  | some i=>
   simp only[sliceBounds,HT.cK,Option.getD_none,show(1:Int) > 0 by decide,fK]
   by_cases h:i<0
   ·simp only[h,fK] <;> lia
   ·simp only[h,bU] <;> lia
 ·cases hi with
  | none=>simp[sliceBounds,HT.cK]
  | some i=>
   simp only[sliceBounds,HT.cK,Option.getD_none,show(1:Int) > 0 by decide,fK]
   by_cases h:i<0
   ·simp only[h,fK] <;> lia
   ·simp only[h,bU] <;> lia
theorem w5(its:List Value)(lo hi:Option Int):slicePick its.toArray lo hi none=((its.drop (HT.cK its.length 0 lo)).take (HT.cK its.length its.length hi-HT.cK its.length 0 lo)).toArray:=by
 obtain⟨h1,h2,h3⟩:=qC lo hi its.toArray.size
 unfold slicePick
 rw[h1,h2,h3]
 simp only[sliceRange_one,pick_run,cZ] <;> rfl
def aCg(K:PySem.W.Frag):V->Option Int->Option Int->Hp->VK->Prop:=λx lo hi H Q=>∃a xs,x=.ref a/\oQ K H a xs/\∀p,H p=none->Q (.ref p) (upd H p (.lst (jy xs lo hi)))
theorem Jm:RW X (aCg X.K):=by
 intro pins s σ H x v vl vu lo hi sl Q I rx hs pl pu h
 obtain⟨a,xs,rfl,hx,q⟩:=h
 cases rx
 obtain⟨its,r,ht,hz⟩:=I.list hx
 have hlen:=r.length
 refine⟨"list",_,slot_list_getitem.lookup,ht.isList.typeIs,?_⟩
 refine wpAny_getItem_list_slice ht.isList hs pl pu .none (by simp) ?_ (by rw[cZ] <;> lia)
 rw[w5,<-hlen]
 refine⟨.ref s.heap.objs.size,_,I.laid (t':=s.toks) (o:=.lst (jy xs lo hi)) (λb ob q=>cF _ q) (aU _) ?_,rfl,q _ (I.bM.fresh (aU _))⟩
 exact⟨df (uk xs lo hi) hz,_,0,(r.drop (HT.cK xs.length 0 lo)).take (HT.cK xs.length xs.length hi-HT.cK xs.length 0 lo),dD _ rfl⟩
def iK:V->Bool
 | .non=>true
 | .bl _=>true
 | .int _=>true
 | .str _=>true
 | _=>false
def J':V->V->Bool
 | .non,.non=>true
 | .bl a,.bl b=>a==b
 | .bl a,.int b=>(if a then 1 else 0)==b
 | .int a,.bl b=>a==(if b then 1 else 0)
 | .int a,.int b=>a==b
 | .str a,.str b=>a==b
 | _,_=>false
theorem ng{A:Around}{s:Shared}{y x:V}{u v:Value}(ry:RelV y u)(rx:RelV x v)(fy:iK y=true)(fx:iK x=true):SeqAt.EqAt A s u v (J' y x):=by
 cases y with
 | non=>
  cases ry
  cases x with
  | non=>cases rx;exact SeqAt.EqAt.same _
  | bl b=>cases rx;exact SeqAt.EqAt.none_bool b
  | int b=>obtain⟨t,rfl⟩:=rx;exact SeqAt.EqAt.none_int b t
  | str b=>obtain⟨t,rfl⟩:=rx;exact SeqAt.EqAt.none_str b t
  | _=>exact absurd (show false=true from fx) eM
 | bl a=>
  cases ry
  cases x with
  | non=>cases rx;exact SeqAt.EqAt.bool_none a
  | bl b=>cases rx;exact SeqAt.EqAt.bool_bool a b
  | int b=>obtain⟨t,rfl⟩:=rx;exact SeqAt.EqAt.bool_int a b t
  | str b=>obtain⟨t,rfl⟩:=rx;exact SeqAt.EqAt.bool_str a b t
  | _=>exact absurd (show false=true from fx) eM
 | int a=>
  obtain⟨t',rfl⟩:=ry
  cases x with
  | non=>cases rx;exact SeqAt.EqAt.int_none a t'
  | bl b=>cases rx;exact SeqAt.EqAt.int_bool a t' b
  | int b=>obtain⟨t,rfl⟩:=rx;exact SeqAt.EqAt.int_int a t' b t
  | str b=>obtain⟨t,rfl⟩:=rx;exact SeqAt.EqAt.int_str a t' b t
  | _=>exact absurd (show false=true from fx) eM
 | str a=>
  obtain⟨t',rfl⟩:=ry
  cases x with
  | non=>cases rx;exact SeqAt.EqAt.str_none a t'
  | bl b=>cases rx;exact SeqAt.EqAt.str_bool a t' b
  | int b=>obtain⟨t,rfl⟩:=rx;exact SeqAt.EqAt.str_int a t' b t
  | str b=>obtain⟨t,rfl⟩:=rx;exact SeqAt.EqAt.str_str a t' b t
  | _=>exact absurd (show false=true from fx) eM
 | _=>exact absurd (show false=true from fy) eM
def Ip(x:V)(u:Value):Bool:=match u with
 | .none=>J' .non x
 | .bool b=>J' (.bl b) x
 | .int i _=>J' (.int i) x
 | .str z _=>J' (.str z) x
 | _=>false
theorem QM{x y:V}{u:Value}(r:RelV y u)(f:iK y=true):Ip x u=J' y x:=by
 cases y with
 | non=>cases r;rfl
 | bl b=>cases r;rfl
 | int i=>obtain⟨t,rfl⟩:=r;rfl
 | str z=>obtain⟨t,rfl⟩:=r;rfl
 | _=>exact absurd (show false=true from f) eM
theorem rj{x:V}:∀{xs:List V} {us:List Value},Vals xs us->xs.all iK=true->us.any (Ip x)=xs.any λy=>J' y x
 | _,_,.nil,_=>rfl
 | y::xs,u::us,.cons r t,f=>by
  rw[rJ,dh]at f
  rw[pB,pB,QM r f.1,rj t f.2]
theorem mW{A:Around}{s:Shared}{x:V}{v:Value}(rx:RelV x v)(fx:iK x=true):∀{xs:List V} {us:List Value},Vals xs us->xs.all iK=true->∀u∈us,SeqAt.EqAt A s u v (Ip x u)
 | _,_,.nil,_=>λu hu=>by cases hu
 | y::xs,u::us,.cons r t,f=>λu' hu=>by
  rw[rJ,dh]at f
  rcases dR.mp hu with rfl | hu
  ·rw[QM r f.1];exact ng r rx f.1 fx
  ·exact mW rx fx t f.2 u' hu
def Vt(x:V)(xs:List V):Bool:=xs.any λy=>J' y x
def rIn(K:PySem.W.Frag)(neg:Bool):R2:=λx y H Q=>∃p xs,y=.ref p/\(oQ K H p xs\/xJ K H p xs)/\iK x=true/\xs.all iK=true/\Q (.bl (if neg then !Vt x xs else Vt x xs)) H
theorem Lg:kF X (compareOp .In) (rIn X.K false):=by
 intro pins s σ H x y v u Q I rx ry h
 obtain⟨p,xs,rfl,hq,fx,fs,q⟩:=h
 cases ry
 rcases hq with hq | hq
 ·obtain⟨its,r,pl,hz⟩:=I.list hq
  refine SeqAt.in_listAt (Ip x) pl.isList (λw hw=>mW rx fx r fs w (by simpa using hw)) ⟨.bl _,H,I,rfl,?_⟩
  rw[show its.toArray.any (Ip x)=its.any (Ip x) by simp,rj r fs]
  exact q
 ·obtain⟨its,r,pl,hz⟩:=I.tuple hq
  refine SeqAt.in_tupleAt (Ip x) pl (λw hw=>mW rx fx r fs w (by simpa using hw)) ⟨.bl _,H,I,rfl,?_⟩
  rw[show its.toArray.any (Ip x)=its.any (Ip x) by simp,rj r fs]
  exact q
theorem Aq:kF X (compareOp .NotIn) (rIn X.K true):=by
 intro pins s σ H x y v u Q I rx ry h
 obtain⟨p,xs,rfl,hq,fx,fs,q⟩:=h
 cases ry
 rcases hq with hq | hq
 ·obtain⟨its,r,pl,hz⟩:=I.list hq
  refine SeqAt.notIn_listAt (Ip x) pl.isList (λw hw=>mW rx fx r fs w (by simpa using hw)) ⟨.bl _,H,I,rfl,?_⟩
  rw[show its.toArray.any (Ip x)=its.any (Ip x) by simp,rj r fs]
  exact q
 ·obtain⟨its,r,pl,hz⟩:=I.tuple hq
  refine SeqAt.notIn_tupleAt (Ip x) pl (λw hw=>mW rx fx r fs w (by simpa using hw)) ⟨.bl _,H,I,rfl,?_⟩
  rw[show its.toArray.any (Ip x)=its.any (Ip x) by simp,rj r fs]
  exact q
theorem qZ:dy X (.builtin "len") (λxs H Q=>∃p ys,xs=[.ref p]/\(oQ X.K H p ys\/xJ X.K H p ys)/\Q (.int ys.length) H):=by
 intro pins s σ H xs us Q I r h
 obtain⟨p,ys,rfl,hq,q⟩:=h
 obtain⟨u,rfl,rx⟩:=vals1 r
 cases rx
 have hn:=sG
 rcases hq with hq | hq
 ·obtain⟨its,r',pl,hz⟩:=I.list hq
  have hlen:=r'.length
  exact Calls.call_len_list pl.isList (by simp only[cZ] <;> lia) ⟨.int ys.length,H,I.tok _,⟨s.toks+1,by rw[cZ,hlen]⟩,q⟩
 ·obtain⟨its,r',pl,hz⟩:=I.tuple hq
  have hlen:=r'.length
  exact len_tuple pl (by simp only[cZ] <;> lia) ⟨.int ys.length,H,I.tok _,⟨s.toks+1,by rw[cZ,hlen]⟩,q⟩
theorem qY:dy X (.type "list") (λxs H Q=>∃p ys,xs=[.ref p]/\(oQ X.K H p ys\/xJ X.K H p ys)/\∀l,H l=none->Q (.ref l) (upd H l (.lst ys))):=by
 intro pins s σ H xs us Q I r h
 obtain⟨p,ys,rfl,hq,q⟩:=h
 obtain⟨u,rfl,rx⟩:=vals1 r
 cases rx
 have fin:∀(its:List Value),Vals ys its->ys.length<=sizeLine->∀(h':Heap) (c':Nat),(∀b o',s.heap.get? b=some o'->h'.get? b=some o')->
   h'.get? s.heap.objs.size=some { cls:=.type "list",dict:=none,data:=.seq its.toArray c',slots:=#[] }->EP X pins σ Q (.ref s.heap.objs.size) { s with heap:=h' }:=λits r' hz h' c' kp e=>
  ⟨.ref s.heap.objs.size,_,I.laid (t':=s.toks) kp (aU _) (show dj X.prog X.w _ h' _ (.lst ys) from ⟨hz,its,c',r',e⟩),rfl,q _ (I.bM.fresh (aU _))⟩
 rcases hq with hq | hq
 ·obtain⟨its,r',pl,hz⟩:=I.list hq
  have hlen:=r'.length
  obtain⟨o,ho,hc,n,hd⟩:=pl.isList
  exact call_list_seq p (.inl rfl) ho hc hd (λh' c' kp e=>fin its r' hz h' c' kp e) (by simp only[cZ] <;> lia)
 ·obtain⟨its,r',pl,hz⟩:=I.tuple hq
  have hlen:=r'.length
  obtain⟨o,ho,hc,n,hd⟩:=pl
  exact call_list_seq p (.inr rfl) ho hc hd (λh' c' kp e=>fin its r' hz h' c' kp e) (by simp only[cZ] <;> lia)
theorem xC:dy X (.type "tuple") (λxs H Q=>∃p ys,xs=[.ref p]/\((oQ X.K H p ys/\∀l,H l=none->Q (.ref l) (upd H l (.tup ys)))\/(xJ X.K H p ys/\Q (.ref p) H))):=by
 intro pins s σ H xs us Q I r h
 obtain⟨p,ys,rfl,h⟩:=h
 obtain⟨u,rfl,rx⟩:=vals1 r
 cases rx
 rcases h with ⟨hq,q⟩ | ⟨hq,q⟩
 ·obtain⟨its,r',pl,hz⟩:=I.list hq
  have hlen:=r'.length
  refine call_tuple_list pl.isList (λh' kp=>?_) (by simp only[cZ] <;> lia)
  have I1:Inv X pins σ H { s with heap:=h' }:=I.kept (t':=s.toks) kp
  have I2:Inv X pins σ (upd H h'.objs.size (.tup ys)) { s with heap:=h'.push { cls:=.type "tuple",data:=.seq its.toArray } }:=
   I1.laid (t':=s.toks) (λb o e=>cF _ e) (aU _) (show dj X.prog X.w _ _ _ (.tup ys) from ⟨hz,its,r',IsTup.new _ _⟩)
  exact⟨.ref h'.objs.size,_,I2,rfl,q _ (I1.bM.fresh (aU _))⟩
 ·obtain⟨its,r',pl,hz⟩:=I.tuple hq
  exact call_tuple_same pl ⟨.ref p,H,I,rfl,q⟩
def tyV(K:PySem.W.Frag)(T:String)(x:V)(H:Hp):Prop:=match x with
 | .str _=>T = "str"
 | .int _=>T = "int"
 | .ref p=>(T = "list"/\∃xs,oQ K H p xs)\/(T = "tuple"/\∃o,K.lookup p=some o/\o.cls=.type "tuple"/\o.dict=none)\/
   (T = "dict"/\((∃kvs,H p=some (.dK kvs))\/∃kvs,H p=some (.dT kvs)))\/(T = "set"/\∃S n,H p=some (.set S n))
 | _=>False
theorem Wf{pins:List (Addr×Obj)}{σ:St}{H:Hp}{s:Shared}{T:String}{x:V}{v:Value}(I:Inv X pins σ H s)(r:RelV x v)(ty:tyV X.K T x H) :
  s.TypeIs v T/\∀a,v=.ref a->∃ob,s.heap.get? a=some ob/\ob.dict=none:=by
 cases x with
 | str z=>
  obtain⟨t,rfl⟩:=r
  cases (show T = "str" from ty)
  exact⟨typeIs_str s z t,λ_ e=>nomatch e⟩
 | int i=>
  obtain⟨t,rfl⟩:=r
  cases (show T = "int" from ty)
  exact⟨typeIs_int s i t,λ_ e=>nomatch e⟩
 | ref p=>
  cases r
  rcases ty with ⟨rfl,xs,hq⟩ | ⟨rfl,o,hk,hc,hd⟩ | ⟨rfl,hk⟩ | ⟨rfl,S,n,hk⟩
  ·obtain⟨its,_,pl,_⟩:=I.list hq
   refine⟨pl.isList.typeIs,λa e=>?_⟩
   cases e
   obtain⟨o,n,e,c,hd,_⟩:=pl
   exact⟨o,e,hd⟩
  ·refine⟨⟨o,I.HF p o hk,hc⟩,λa e=>?_⟩
   cases e
   exact⟨o,I.HF _ o hk,hd⟩
  ·have z:∃o,s.heap.get? p=some o/\o.ExactDict:=by
    rcases hk with ⟨kvs,hk⟩ | ⟨kvs,hk⟩
    ·obtain⟨_,_,_,_,o,_,_,e,ex,_⟩:=I.bM p _ hk
     exact⟨o,e,ex⟩
    ·obtain⟨_,_,_,_,o,_,_,e,ex,_⟩:=I.bM p _ hk
     exact⟨o,e,ex⟩
   obtain⟨o,e,ex⟩:=z
   refine⟨⟨o,e,ex.1⟩,λa e2=>?_⟩
   cases e2
   exact⟨o,e,ex.2.1⟩
  ·obtain⟨o,_,_,_,e,ex,_⟩:=I.bM p _ hk
   refine⟨⟨o,e,ex.1⟩,λa e2=>?_⟩
   cases e2
   exact⟨o,e,ex.2.1⟩
 | _=>exact False.elim ty
def KH(K:PySem.W.Frag)(T:String)(r:V->List V->Hp->VK->Prop)(to:TE):TE:=λσ H Q=>to σ H λx H1=>tyV K T x H1/\r x [] H1 Q
def Vi(K:PySem.W.Frag)(T:String)(r:V->List V->Hp->VK->Prop)(to:TE)(t:TA):TE:=λσ H Q=>to σ H λx H1=>tyV K T x H1/\t σ H1 λxs H2=>r x xs H2 Q
variable {o e:Expr}{es:List Expr}{to:TE}{t:TA}{name:Str}{apos cX:Pos}{T id:String}{r:V->List V->Hp->VK->Prop}
theorem yo(pa:PlainAttrs T)(slot:Slot T name id)(hty:typeOf (.builtin id)=pure (.type "method_descriptor"))(hm:V8 X id r)(ho:PE X o to)(ha:PA X (e::es) t)
  (aAQ:attributeBase o name X.env (eval o X.env)=eval o X.env:=by rfl)
  (aEd:((backTo cX (starEach (e::es) X.env)).all (λx=>!x.1)&&(backToKw cX (keywordEach [] X.env)).all (λx=>x.1.isSome)
   && decide ((e::es).length+([]:List Keyword).length+(if ([]:List Keyword).isEmpty then 0 else 1)<30))=true:=by rfl)
  (hline:(apos.endLine==cX.line)=true:=by rfl) (hs:starEach (e::es) X.env=(false,eval e X.env)::starEach es X.env:=by rfl) (XS:(backTo cX (starEach es X.env)).any (·.1)=false:=by rfl) :
  PE X (.Call (.Attribute o name apos) (e::es) [] cX) (Vi X.K T r to t):=by
 intro pins s σ H Q I h
 refine wpAny_Call_method_late aAQ aEd hline rfl (dm (ho pins s σ H _ I h) λv s1 ⟨x,H1,I1,r1,ty,q1⟩=>?_)
 obtain⟨h1,h2⟩:=Wf I1 r1 ty
 refine⟨T,id,pa,slot,hty,h1,h2,?_⟩
 have hA:=ha cX pins s1 σ H1 _ I1 q1
 rw[hs]at hA ⊢
 refine Calls.callWith_builtin (by show(false||(backTo cX (starEach es X.env)).any (·.1))=false;rw[XS] <;> rfl) (Calls.evalArgs_plain ?_)
 exact dm hA λus s2 ⟨vs,H2,I2,r2,q2⟩=>hm pins s2 σ H2 x vs v us Q I2 r1 r2 q2
end
end L2
namespace L2
open PySem PySem.Spec PyProof.Rows
def MtM(X:Cx)(id:String)(r:V->List V->Hp->VK->Prop):Prop:=
 ∀(pins:List (Addr×Obj)) (s:Shared) (σ:St) (H:Hp) (x:V) (xs:List V) (v:Value) (us:List Value) (Q:VK),Inv X pins σ H s->RelV x v->Vals xs us->r x xs H Q->
  wpAny (model X.prog X.w) X.A (call (.builtin id) (v::us)) (EP X pins σ Q) X.xe s
theorem Vals.one:∀{x:V} {us:List Value},Vals [x] us->∃u,us=[u]/\RelV x u
 | _,_,.cons r .nil=>⟨_,rfl,r⟩
theorem Vals.two:∀{x y:V} {us:List Value},Vals [x,y] us->∃u v,us=[u,v]/\RelV x u/\RelV y v
 | _,_,_,.cons r (.cons q .nil)=>⟨_,_,rfl,r,q⟩
section
variable {X:Cx}{pins:List (Addr×Obj)}{σ:St}{H:Hp}{s:Shared}{l b:Addr}{xs ys zs:List V}
theorem Inv.aAx{its its':List Value}{n:Nat}{f:Array Value->Array Value}{t':Nat}(I:Inv X pins σ H s)(hH:H l=some (.lst xs))
  (e:s.heap.get? l=some { cls:=.type "list",data:=.seq its.toArray n }) (hf:f its.toArray=its'.toArray) (hv:Vals ys its') (hz:ys.length<=sizeLine) :
  Inv X pins σ (upd H l (.lst ys)) { s with heap:=s.heap.update l (Obj.mapSeq f),toks:=t' }:=by
 have q:=PySem.IsL.update e f
 rw[hf]at q
 refine I.write (x:=l) (e:=l) (by rw[hH];exact trivial) (.inl rfl) (λb' u hb hu=>(tU s.heap (Obj.mapSeq f) (fz hb)).trans hu) ⟨_,q⟩ ?_
 exact⟨hz,its',_,hv,q⟩
theorem Inv.aDx{its:List Value}{t':Nat}(I:Inv X pins σ H s)(hv:Vals ys its)(hz:ys.length<=sizeLine) :
  Inv X pins σ (upd H s.heap.objs.size (.lst ys)) { s with heap:=s.heap.push { cls:=.type "list",data:=.seq its.toArray },toks:=t' }:=
 I.laid (λ_ _ q=>cF _ q) (aU _) ⟨hz,its,0,hv,dD _ rfl⟩
theorem Inv.fresh(I:Inv X pins σ H s):H s.heap.objs.size=none:=I.bM.fresh (aU _)
theorem Inv.Qb(I:Inv X pins σ H s)(hH:H l=some (.lst xs)):xs.length<=sizeLine/\∃(its:List Value) (n:Nat),Vals xs its/\xs.length=its.length/\s.heap.get? l=some { cls:=.type "list",data:=.seq its.toArray n }:=by
 obtain⟨z,its,n,r,e⟩:=I.bM l _ hH
 exact⟨z,its,n,r,r.length,e⟩
theorem Px{n:Nat}(h:n<=sizeLine):Builtin.List.listTooLong n=false:=by
 unfold Builtin.List.listTooLong
 exact decide_eq_false (by lia)
end
section
variable {X:Cx}
def kS:V->List V->Hp->VK->Prop:=λx vs H Q=>∃l xs y,x=.ref l/\vs=[y]/\H l=some (.lst xs)/\xs.length<sizeLine/\Q .non (upd H l (.lst (xs++[y])))
theorem cQ:MtM X "list.append" kS:=by
 intro pins s σ H x vs v us Q I rx rv h
 obtain⟨l,xs,y,rfl,rfl,hH,hz,q⟩:=h
 cases rx
 obtain⟨u,rfl,ru⟩:=rv.one
 obtain⟨z,its,n,r,hl,e⟩:=I.Qb hH
 refine call_meets F.slot_list_append ⟨_,e,rfl⟩ F.entry_list_append (F.args_list_append_2 _ _) (PySem.list_append l its.toArray n u (by rw[cZ];lia)) ⟨e,?_⟩
 refine⟨.non,_,I.aAx (its':=its++[u]) hH e (by simp) (r.append (.cons ru .nil)) ?_,rfl,q⟩
 rw[cw,ja]
 lia
def kR:V->List V->Hp->VK->Prop:=λx vs H Q=>∃l b xs zs,x=.ref l/\vs=[.ref b]/\H l=some (.lst xs)/\H b=some (.lst zs)/\xs.length+zs.length<=sizeLine/\Q .non (upd H l (.lst (xs++zs)))
theorem Lw:MtM X "list.extend" kR:=by
 intro pins s σ H x vs v us Q I rx rv h
 obtain⟨l,b,xs,zs,rfl,rfl,hH,hB,hz,q⟩:=h
 cases rx
 obtain⟨u,rfl,ru⟩:=rv.one
 cases ru
 obtain⟨z,its,n,r,hl,e⟩:=I.Qb hH
 obtain⟨z2,Bl,n2,r2,RK,e2⟩:=I.Qb hB
 have hsz:its.toArray.size+Bl.toArray.size<=sizeLine:=by rw[cZ,cZ];lia
 have aAK:¬(!its.toArray.isEmpty&&Builtin.List.listTooLong (its.toArray.size+Bl.toArray.size))=true:=by
  rw[Px hsz,Bool.and_false]
  exact eM
 refine call_meets F.slot_list_extend ⟨_,e,rfl⟩ F.entry_list_extend (F.args_list_extend_2 _ _)
  (AutoSeq1.list_extend_list_list_0 l its.toArray n b Bl.toArray n2 aAK (by rw[cZ];lia) (by lia)) ⟨e,e2,?_⟩
 refine⟨.non,_,I.aAx (its':=its++Bl) hH e (by simp) (r.append r2) ?_,rfl,q⟩
 rw[cw]
 lia
def mR:V->List V->Hp->VK->Prop:=λx vs H Q=>∃l xs i k y,x=.ref l/\vs=[.int i]/\H l=some (.lst xs)/\-(2 ^ 63)<=i/\i<2 ^ 63/\seqIndex? i xs.length=some k/\xs[k]?=some y/\Q y (upd H l (.lst (xs.eraseIdx k)))
def qN:V->List V->Hp->VK->Prop:=λx vs H Q=>∃l xs,x=.ref l/\vs=[]/\H l=some (.lst xs)/\Q .non (upd H l (.lst xs.reverse))
def sj:V->List V->Hp->VK->Prop:=λx vs H Q=>∃l xs,x=.ref l/\vs=[]/\H l=some (.lst xs)/\Q .non (upd H l (.lst []))
def Hg:R2:=λx y H Q=>∃l b xs zs,x=.ref l/\y=.ref b/\H l=some (.lst xs)/\H b=some (.lst zs)/\xs.length+zs.length<=sizeLine/\∀p,H p=none->Q (.ref p) (upd H p (.lst (xs++zs)))
theorem Ho:kF X (binaryOp .Add) Hg:=by
 intro pins s σ H x y v u Q I rx ry h
 obtain⟨l,b,xs,zs,rfl,rfl,hH,hB,hz,q⟩:=h
 cases rx
 cases ry
 obtain⟨z,its,n,r,hl,e⟩:=I.Qb hH
 obtain⟨z2,Bl,n2,r2,RK,e2⟩:=I.Qb hB
 refine PySem.P.add_list e e2 ?_ (by rw[cZ,cZ];lia)
 have ea:its.toArray++Bl.toArray=(its++Bl).toArray:=by simp
 rw[ea]
 exact⟨.ref _,_,I.aDx (t':=s.toks) (r.append r2) (by rw[cw];lia),rfl,q _ I.fresh⟩
end
section
variable {prog:Program}{w:World}{A:Around}{E:Value->Shared->Prop}{s:Shared}
end
section
variable {X:Cx}
end
end L2
namespace L2
open PySem PySem.Spec PyProof.Rows
section
variable {κ:Type} [DecidableEq κ]
def cB(kvs:List (κ×V))(k:κ):Option V:=(kvs.find? λkv=>decide (kv.1=k)).map (·.2)
def putK(kvs:List (κ×V))(k:κ)(v:V):List (κ×V):=
 if (kvs.any λkv=>decide (kv.1=k))=true then kvs.map (λkv=>if kv.1=k then (kv.1,v) else kv) else kvs++[(k,v)]
def aA5(kvs:List (κ×V))(k:κ):List (κ×V):=kvs.filter λkv=>decide (kv.1≠k)
theorem eQ{p:κ×V}{r:List (κ×V)}{k:κ}(e:p.1=k):cB (p::r) k=some p.2:=by simp[cB,rQ,e]
theorem eR{p:κ×V}{r:List (κ×V)}{k:κ}(e:¬p.1=k):cB (p::r) k=cB r k:=by simp[cB,rQ,e]
theorem j6(k:κ):∀kvs:List (κ×V),(kvs.any λkv=>decide (kv.1=k))=(cB kvs k).isSome
 | []=>rfl
 | p::r=>by
  rw[pB]
  by_cases e:p.1=k
  ·simp only[eQ e,decide_eq_true e,Bool.true_or,Option.isSome_some]
  ·rw[eR e,decide_eq_false e,Bool.false_or];exact j6 k r
theorem Ck(k j:κ)(y:V):∀kvs:List (κ×V),cB (kvs.map λkv=>if kv.1=k then (kv.1,y) else kv) j=(cB kvs j).map λx=>if j=k then y else x
 | []=>rfl
 | p::r=>by
  have ih:=Ck k j y r
  rw[eI]
  by_cases h:p.1=k
  ·rw[aB h]
   by_cases e:p.1=j
   ·rw[eQ (p:=(p.1,y)) e,eQ e,pD,aB (e.symm.trans h)]
   ·rw[eR (p:=(p.1,y)) e,eR e,ih]
  ·rw[aA h]
   by_cases e:p.1=j
   ·rw[eQ (p:=p) e,eQ e,pD,aA (λz=>h (e.trans z))]
   ·rw[eR (p:=p) e,eR e,ih]
theorem xX(k j:κ)(y:V):∀kvs:List (κ×V),cB kvs k=none->cB (kvs++[(k,y)]) j=if j=k then some y else cB kvs j
 | [],_=>by
  by_cases e:k=j
  ·rw[aB e.symm];exact eQ (p:=(k,y)) e
  ·rw[aA (λz=>e z.symm)];exact eR (p:=(k,y)) e
 | p::r,hn=>by
  rw[List.cons_append]
  have hk:¬p.1=k:=λz=>by rw[eQ z]at hn;cases hn
  rw[eR hk]at hn
  have ih:=xX k j y r hn
  by_cases e:p.1=j
  ·rw[eQ e,eQ e,aA (λz=>hk (e.trans z))]
  ·rw[eR e,eR e,ih]
theorem vP(kvs:List (κ×V))(k j:κ)(y:V):cB (putK kvs k y) j=if j=k then some y else cB kvs j:=by
 unfold putK
 by_cases a:(kvs.any λkv=>decide (kv.1=k))=true
 ·rw[aB a,Ck]
  rw[j6]at a
  by_cases e:j=k
  ·obtain⟨x,hx⟩:=Option.isSome_iff_exists.mp a
   rw[aB e,e,hx,pD,aB rfl]
  ·rw[aA e]
   cases cB kvs j with
   | none=>rfl
   | some x=>rw[pD,aA e]
 ·rw[aA a]
  refine xX k j y kvs ?_
  rw[j6]at a
  cases q:cB kvs k with
  | none=>rfl
  | some x=>rw[q]at a;exact(a rfl).elim
theorem ud(kvs:List (κ×V))(k:κ)(v:V):(putK kvs k v).length<=kvs.length+1:=by
 unfold putK
 split
 ·rw[aM];lia
 ·rw[cw,gb,List.length_nil];lia
theorem Df{kvs:List (κ×V)}{k:κ}(v:V)(h:cB kvs k=none):putK kvs k v=kvs++[(k,v)]:=by
 unfold putK
 rw[j6,h]
 exact aA (by decide)
theorem uO.sO{o:Option V}{u:Option Value}(r:uO o u):o.isSome=u.isSome:=by
 cases o with
 | none=>cases u with
  | none=>rfl
  | some _=>exact(show False from r).elim
 | some _=>cases u with
  | none=>exact(show False from r).elim
  | some _=>rfl
theorem uO.getD{o:Option V}{u:Option Value}{d:V}{d':Value}(r:uO o u)(rd:RelV d d'):RelV (o.getD d) (u.getD d'):=by
 cases o with
 | none=>cases u with
  | none=>exact rd
  | some _=>exact(show False from r).elim
 | some _=>cases u with
  | none=>exact(show False from r).elim
  | some _=>exact r
theorem KV.val{kvs:List (κ×V)}{vs:List (κ×Value)}(r:KV kvs vs)(k:κ):uO (cB kvs k) (valueAt vs k):=by
 unfold KV at r
 induction r with
 | nil=>exact True.intro
 | @cons p q ps qs h t ih=>
  obtain⟨h1,h2⟩:=h
  by_cases e:p.1=k
  ·have e':q.1=k:=h1.symm.trans e
   have b:valueAt (q::qs) k=some q.2:=by simp[valueAt,rQ,e']
   rw[eQ e,b];exact h2
  ·have e':¬q.1=k:=λz=>e (h1.trans z)
   have b:valueAt (q::qs) k=valueAt qs k:=by simp[valueAt,rQ,e']
   rw[eR e,b];exact ih
theorem KV.any{kvs:List (κ×V)}{vs:List (κ×Value)}(r:KV kvs vs)(k:κ):(kvs.any λkv=>decide (kv.1=k))=vs.any λkv=>decide (kv.1=k):=by
 unfold KV at r
 induction r with
 | nil=>rfl
 | cons h t ih=>rw[pB,pB,ih,h.1]
theorem KV.repl{kvs:List (κ×V)}{vs:List (κ×Value)}(r:KV kvs vs)(k:κ){y:V}{u:Value}(ry:RelV y u) :
  KV (kvs.map λkv=>if kv.1=k then (kv.1,y) else kv) (vs.map λkv=>if kv.1=k then (kv.1,u) else kv):=by
 unfold KV at r ⊢
 induction r with
 | nil=>exact .nil
 | @cons p q ps qs h t ih=>
  rw[eI,eI]
  refine .cons ?_ ih
  obtain⟨h1,h2⟩:=h
  by_cases e:p.1=k
  ·rw[aB e,aB (h1.symm.trans e)];exact⟨h1,ry⟩
  ·rw[aA e,aA (λz=>e (h1.trans z))];exact⟨h1,h2⟩
theorem KV.put{kvs:List (κ×V)}{vs:List (κ×Value)}(r:KV kvs vs)(k:κ){y:V}{u:Value}(ry:RelV y u):KV (putK kvs k y) (stored vs k u):=by
 unfold putK stored
 rw[r.any k]
 by_cases e:(vs.any λkv=>decide (kv.1=k))=true
 ·rw[aB e,aB e];exact r.repl k ry
 ·rw[aA e,aA e];exact Paired.snoc r ⟨rfl,ry⟩
theorem KV.length{kvs:List (κ×V)}{vs:List (κ×Value)}(r:KV kvs vs):kvs.length=vs.length:=Paired.length r
end
theorem Ec{P:Program}{w:World}{k:Key}{u:Value}(r:RelV (kV k) u):(cY P w).is k u=true:=by
 cases k with
 | inl i=>obtain⟨t,e⟩:=(show ∃t,u=Value.int i t from r);subst e;exact DP P w i t
 | inr x=>obtain⟨t,e⟩:=(show ∃t,u=Value.str x t from r);subst e;exact DN P w x t
theorem yw{P:Program}{w:World}:∀{ks:List Key} {us:List Value},Vals (ks.map kV) us->ItemsAre (cY P w) ks us
 | [],_,r=>by rw[vt]at r;cases r;exact .nil
 | k::ks,_,r=>by
  rw[eI]at r
  cases r with
  | cons h t=>exact .cons (Ec h) (yw t)
abbrev KT(H:Hp):List (List Key×V)->List (List Key×Addr×Value)->Prop:=Paired λp q=>p.1=q.1/\H q.2.1=some (.tup (p.1.map kV))/\RelV p.2 q.2.2
theorem KT.val{H:Hp}{kvs:List (List Key×V)}{xs:List (List Key×Addr×Value)}(r:KT H kvs xs)(k:List Key):uO (cB kvs k) ((atKey xs k).map (·.2)):=by
 induction r with
 | nil=>exact True.intro
 | @cons p q ps qs h t ih=>
  obtain⟨h1,_,h2⟩:=h
  by_cases e:p.1=k
  ·have e':q.1=k:=h1.symm.trans e
   have b:atKey (q::qs) k=some q.2:=by simp[atKey,rQ,e']
   rw[eQ e,b];exact h2
  ·have e':¬q.1=k:=λz=>e (h1.trans z)
   have b:atKey (q::qs) k=atKey qs k:=by simp[atKey,rQ,e']
   rw[eR e,b];exact ih
theorem KT.repl{H:Hp}{kvs:List (List Key×V)}{xs:List (List Key×Addr×Value)}(r:KT H kvs xs)(k:List Key){y:V}{u:Value}(ry:RelV y u) :
  KT H (kvs.map λkv=>if kv.1=k then (kv.1,y) else kv) (xs.map (putAt k u)):=by
 induction r with
 | nil=>exact .nil
 | @cons p q ps qs h t ih=>
  rw[eI,eI]
  refine .cons ?_ ih
  obtain⟨h1,h2,h3⟩:=h
  unfold putAt
  by_cases e:p.1=k
  ·rw[aB e,aB (h1.symm.trans e)];exact⟨h1,h2,ry⟩
  ·rw[aA e,aA (λz=>e (h1.trans z))];exact⟨h1,h2,h3⟩
theorem KT.put{H:Hp}{kvs:List (List Key×V)}{xs:List (List Key×Addr×Value)}(r:KT H kvs xs)(k:List Key){b:Addr}{y:V}{u:Value}(hb:H b=some (.tup (k.map kV)))(ry:RelV y u) :
  KT H (putK kvs k y) (storedH xs k b u):=by
 have e:(kvs.any λkv=>decide (kv.1=k))=(atKey xs k).isSome:=by
  rw[j6,(r.val k).sO,vC]
 unfold putK storedH
 rw[e]
 by_cases q:(atKey xs k).isSome=true
 ·rw[aB q,aB q];exact r.repl k ry
 ·rw[aA q,aA q];exact Paired.snoc r ⟨rfl,hb,ry⟩
theorem KT.keeps{H H':Hp}{kvs:List (List Key×V)}{xs:List (List Key×Addr×Value)}(r:KT H kvs xs)(ht:∀b ys,H b=some (.tup ys)->H' b=some (.tup ys)):KT H' kvs xs:=
 Paired.Xo r λ_ _ z=>⟨z.1,ht _ _ z.2.1,z.2.2⟩
section
variable {P:Program}{w:World}{H:Hp}{h:Heap}{a:Addr}
theorem Vm{u:HO}(ok:ju P w H h)(e:Rd H a u):dj P w H h a u:=e.ok ok
theorem yE{kvs:List (Key×V)}(ok:ju P w H h)(e:Rd H a (.dK kvs)):kvs.length<=sizeLine/\(a==sysModules)=false/\∃vs,KV kvs vs/\h.DictOf (cY P w) a vs:=
 show dj P w H h a (.dK kvs) from Vm ok e
theorem aA6{kvs:List (Key×V)}(ok:ju P w H h)(e:H a=some (.dK kvs)):kvs.length<=sizeLine/\(a==sysModules)=false/\∃vs,KV kvs vs/\h.DictOf (cY P w) a vs:=yE ok (.inl e)
theorem wD{ks:List Key}(ok:ju P w H h)(e:H a=some (.tup (ks.map kV))):(tupleKind (cY P w)).is h ks a:=by
 obtain⟨_,its,r,o,h1,h2,n,h3⟩:=(show dj P w H h a (.tup (ks.map kV)) from ok a _ e)
 exact⟨o,its.toArray,n,h1,h2,h3,by simpa using yw r⟩
theorem Em{kvs:List (List Key×V)}(ok:ju P w H h)(e:Rd H a (.dT kvs)):kvs.length<=sizeLine/\(a==sysModules)=false/\
  ∃xs,KT H kvs xs/\h.DictOfH (tupleKind (cY P w)) a xs:=by
 obtain⟨z,y,xs,r,o,es,ep,h1,h2,h3,h4,h5⟩:=(show dj P w H h a (.dT kvs) from Vm ok e)
 refine⟨z,y,xs,r,o,es,ep,h1,h2,h3,h4,λx hx=>?_,h5⟩
 have all:∀{l:List (List Key×V)} {m:List (List Key×Addr×Value)},KT H l m->∀x∈m,(tupleKind (cY P w)).is h x.1 x.2.1:=by
  intro l m q
  induction q with
  | nil=>intro x hx;exact nomatch hx
  | @cons p q ps qs hq t ih=>
   intro x hx
   rcases dR.mp hx with e | hx
   ·subst e
    exact wD ok (by rw[<-hq.1];exact hq.2.1)
   ·exact ih x hx
 exact all r x hx
theorem aA4{kvs:List (List Key×V)}(ok:ju P w H h)(e:H a=some (.dT kvs)):kvs.length<=sizeLine/\(a==sysModules)=false/\
  ∃xs,KT H kvs xs/\h.DictOfH (tupleKind (cY P w)) a xs:=Em ok (.inl e)
end
def oo(H:Hp)(a:Addr)(y:V)(r:Option V):Prop:=
 (∃kvs k,Rd H a (.dK kvs)/\y=kV k/\r=cB kvs k)\/∃kvs k b,Rd H a (.dT kvs)/\y=.ref b/\H b=some (.tup (k.map kV))/\r=cB kvs k
def Fq(H:Hp)(a:Addr)(y v:V)(H':Hp):Prop:=
 (∃kvs k,H a=some (.dK kvs)/\y=kV k/\kvs.length<sizeLine/\H'=upd H a (.dK (putK kvs k v)))\/
 ∃kvs k b,H a=some (.dT kvs)/\y=.ref b/\H b=some (.tup (k.map kV))/\kvs.length<sizeLine/\H'=upd H a (.dT (putK kvs k v))
theorem oo.k{H:Hp}{a:Addr}{kvs:List (Key×V)}{k:Key}(e:H a=some (.dK kvs)):oo H a (kV k) (cB kvs k):=.inl ⟨kvs,k,.inl e,rfl,rfl⟩
theorem Fq.k{H:Hp}{a:Addr}{kvs:List (Key×V)}{k:Key}{v:V}(e:H a=some (.dK kvs))(hl:kvs.length<sizeLine):Fq H a (kV k) v (upd H a (.dK (putK kvs k v))):=.inl ⟨kvs,k,e,rfl,hl,rfl⟩
section
variable {X:Cx}{pins:List (Addr×Obj)}{σ:St}{H:Hp}{s:Shared}{a:Addr}{y v:V}{u r:Value}{o:Option V}{A:Around}{E:Value->Shared->Prop}
theorem Inv.big(I:Inv X pins σ H s):sysModules<s.heap.objs.size:=by
 have h:mainGlobals<s.heap.objs.size:=(I.mod.glob.keeps I.bk).lt
 exact Nat.lt_trans (by decide) h
theorem Mt{Q:Value->Shared->Prop}(hu:A.units+1<cLine)(I:Inv X pins σ H s)(g:oo H a y (some v))(ry:RelV y u)(h:∀w' s',Inv X pins σ H s'->RelV v w'->Q w' s') :
  wpAny (model X.prog X.w) A (getItem (.ref a) u) Q E s:=by
 rcases g with ⟨kvs,k,e,ey,l⟩ | ⟨kvs,k,b,e,ey,eb,l⟩
 ·subst ey
  obtain⟨z,hd,vs,rel,dd⟩:=yE I.bM e
  obtain⟨w',hw,Oh⟩:=uO.some_of (v:=v) (o:=valueAt vs k) (by rw[l];exact rel.val k)
  exact wpAny_getItem_of (Ec ry) dd.mapOf hw (h w' _ (I.tok _) Oh)
 ·subst ey
  cases (show u=Value.ref b from ry)
  obtain⟨z,hd,xs,rel,dd⟩:=Em I.bM e
  obtain⟨w',hw,Oh⟩:=uO.some_of (v:=v) (o:=(atKey xs k).map (·.2)) (by rw[l];exact rel.val k)
  obtain⟨p,hp,BV⟩:=Option.map_eq_some_iff.mp hw
  refine wpAny_getItem_heap (zu hu) (wD I.bM eb) dd hp ?_
  rw[BV]
  exact h w' _ (I.tok _) Oh
theorem UW{Q:Value->Shared->Prop}(hu:A.units+1<cLine)(I:Inv X pins σ H s)(g:oo H a y o)(ry:RelV y u)(h:∀s',Inv X pins σ H s'->Q (.bool (!o.isSome)) s') :
  wpAny (model X.prog X.w) A (compareOp .NotIn u (.ref a)) Q E s:=by
 rcases g with ⟨kvs,k,e,ey,l⟩ | ⟨kvs,k,b,e,ey,eb,l⟩
 ·subst ey
  obtain⟨z,hd,vs,rel,dd⟩:=yE I.bM e
  refine wpAny_notIn_of (Ec ry) hd dd.mapOf ?_
  rw[<-(rel.val k).sO,<-l]
  exact h _ (I.tok _)
 ·subst ey
  cases (show u=Value.ref b from ry)
  obtain⟨z,hd,xs,rel,dd⟩:=Em I.bM e
  refine wpAny_notIn_heap (zu hu) (wD I.bM eb) hd dd ?_
  have q:=(rel.val k).sO
  rw[vC]at q
  rw[<-q,<-l]
  exact h _ (I.tok _)
theorem Bs{h':Heap}{t':Nat}{ob:HO}(I:Inv X pins σ H s)(mu:Mut (H a))(hs:Heap.SameBut a s.heap h')(he:∃q,h'.get? a=some q)(new:dj X.prog X.w (upd H a ob) h' a ob) :
  Inv X pins σ (upd H a ob) { s with heap:=h',toks:=t' }:=
 I.write (x:=a) (e:=a) mu (.inl rfl) (λb q hb z=>(hs.2 b hb).trans z) he new
theorem QT{P:Program}{w:World}{H':Hp}{h':Heap}{kvs:List (Key×V)}{vs:List (Key×Value)}(z:kvs.length<=sizeLine)(hd:(a==sysModules)=false)(rel:KV kvs vs)(dd:h'.DictOf (cY P w) a vs) :
  dj P w H' h' a (.dK kvs):=⟨z,hd,vs,rel,dd⟩
theorem Ms{H':Hp}{Q:Unit->Shared->Prop}(hu:A.units+1<cLine)(I:Inv X pins σ H s)(g:Fq H a y v H')(ry:RelV y u)(rv:RelV v r)(h:∀s',Inv X pins σ H' s'->Q () s') :
  wpAny (model X.prog X.w) A (setItem (.ref a) u r) Q E s:=by
 rcases g with ⟨kvs,k,e,ey,l,eH⟩ | ⟨kvs,k,b,e,ey,eb,l,eH⟩
 ·subst ey eH
  obtain⟨z,hd,vs,rel,dd⟩:=aA6 I.bM e
  have hz:vs.length<=sizeLine:=by rw[<-rel.length];exact z
  have hl:(putK kvs k v).length<=sizeLine:=by have:=ud kvs k v;lia
  refine wpAny_setItem_pairs (hsz:=hz) (Ec ry) dd λh' V0 hs=>h _ ?_
  have he:∃q,h'.get? a=some q:=let ⟨q,_,_,hq,_⟩:=V0;⟨q,hq⟩
  exact Bs I (by rw[e];exact True.intro) hs he (QT hl hd (rel.put k rv) V0)
 ·subst ey eH
  cases (show u=Value.ref b from ry)
  obtain⟨z,hd,xs,rel,dd⟩:=aA4 I.bM e
  have hz:xs.length<=sizeLine:=by rw[<-Paired.length rel];exact z
  have hl:(putK kvs k v).length<=sizeLine:=by have:=ud kvs k v;lia
  refine wpAny_setItem_heap (hsz:=hz) (zu hu) (wD I.bM eb) dd λh' V0 hs=>h _ ?_
  obtain⟨q,es,ep,hq,h2,h3,h4,_,h5⟩:=V0
  refine Bs I (by rw[e];exact True.intro) hs ⟨q,hq⟩ ⟨hl,hd,_,(rel.put k eb rv).keeps λc ys ec=>?_,q,es,ep,hq,h2,h3,h4,h5⟩
  rw[au (fE ec e (λz=>nomatch z))]
  exact ec
end
section
variable {X:Cx}{pins:List (Addr×Obj)}{σ:St}{H:Hp}{s:Shared}{a:Addr}{kvs:List (Key×V)}{k:Key}{u:Value}{A:Around}{E:Value->Shared->Prop}
end
def YD(i:Expr):Prop:=∀ov iv,subscripted i false ov iv=operate [ov,iv] (getItem ov iv)
theorem R8{prog:Program}{w:World}{A:Around}{E:Value->Shared->Prop}{s:Shared}{env:Env}{value slice:Expr}{pos:Pos}{T id:String}{Q:Value->Shared->Prop}
  (hl:typeLookup (.type T) "__getitem__" = pure (some (.builtin id))) (hs:YD slice)
  (h:wpAny (model prog w) A (eval value env) (λo s₁=>wpAny (model prog w) A (eval slice env) (λi s₂=>s₂.TypeIs o T/\wpAny (model prog w) A (getItem o i) Q E s₂) E s₁) E s) :
  wpAny (model prog w) A (eval (.Subscript value slice pos) env) Q E s:=by
 refine Subscript_ (dq h (λo s₁ h₁=>dq h₁ (λi s₂ h₂=>?_) λ_ _ x=>x) λ_ _ x=>x)
 obtain⟨hT,h₂⟩:=h₂
 unfold subscriptTail
 refine az ?_
 rw[getitemInPython_of_ne hT.not_modules]
 refine az (mB hT hl ?_)
 have fin:wpAny (model prog w) A (subscripted slice false o i) (λr s₃=>wpAny (model prog w) A (letTemporaryGo value o r >>= λ_=>pure r) Q E s₃) E s₂:=by
  rw[hs o i]
  exact wpAny_operating (dq h₂ (λr s₃ h₃=>az (wpAny_letTemporaryGo (aK h₃))) λ_ _ x=>x)
 first
  | exact aK (az fin)
  | exact az (aK (az fin))
  | exact az fin
theorem Eo{X:Cx}{pins:List (Addr×Obj)}{σ:St}{H:Hp}{s:Shared}{a:Addr}{y:V}{o:Option V}(I:Inv X pins σ H s)(g:oo H a y o):s.TypeIs (.ref a) "dict":=by
 rcases g with ⟨kvs,k,e,_,_⟩ | ⟨kvs,k,b,e,_,_,_⟩
 ·obtain⟨_,_,vs,_,dd⟩:=yE I.bM e
  exact dd.typeIs
 ·obtain⟨_,_,xs,_,dd⟩:=Em I.bM e
  exact dd.typeIs
def j7(td ty:TE):TE:=λσ H Q=>td σ H λx H1=>ty σ H1 λy H2=>∃a v,x=.ref a/\oo H2 a y (some v)/\Q v H2
def zV(ty td:TE):TE:=λσ H Q=>ty σ H λy H1=>td σ H1 λx H2=>∃a o,x=.ref a/\oo H2 a y o/\Q (.bl (!o.isSome)) H2
def yh(td ty tv:TE):TS:=λD σ H=>tv σ H λv H1=>td σ H1 λx H2=>ty σ H2 λy H3=>∃a H4,x=.ref a/\Fq H3 a y v H4/\D.nx σ H4
section
variable {X:Cx}{o i e value:Expr}{pos pos' NC:Pos}{td ty tv:TE}
theorem Td(hu:X.A.units+1<cLine)(ho:PE X o td)(hi:PE X i ty)(hs:YD i):PE X (.Subscript o i pos) (j7 td ty):=by
 intro pins s σ H Q I h
 refine R8 PySem.F.slot_dict_getitem.lookup hs (dm (ho pins s σ H _ I h) λu s1 ⟨x,H1,I1,rx,q1⟩=>dm (hi pins s1 σ H1 _ I1 q1) λiv s2 ⟨y,H2,I2,ry,a,v,ex,g,q2⟩=>?_)
 subst ex
 obtain rfl:u=Value.ref a:=rx
 exact⟨Eo I2 g,Mt hu I2 g ry λw' s3 I3 Oh=>⟨v,H2,I3,Oh,q2⟩⟩
theorem Le(hu:X.A.units+1<cLine)(hi:PE X i ty)(ho:PE X o td):PC X .NotIn i o (zV ty td):=by
 intro pins s σ H Q I h
 refine dm (hi pins s σ H _ I h) λiv s1 ⟨y,H1,I1,ry,q1⟩=>dm (ho pins s1 σ H1 _ I1 q1) λu s2 ⟨x,H2,I2,rx,a,ov,ex,g,q2⟩=>?_
 subst ex
 obtain rfl:u=Value.ref a:=rx
 exact UW hu I2 g ry λs3 I3=>⟨.bl (!ov.isSome),H2,I3,rfl,q2⟩
theorem S7(hu:X.A.units+1<cLine)(ho:PE X o td)(hi:PE X i ty)(hv:PE X value tv)(hs:swapsWith value (some (.Subscript o i pos')) pos.line X.env=pure false) :
  PS X (.Assign [.Subscript o i pos'] value pos) (yh td ty tv):=by
 intro pins s σ H D I h
 refine wpAny_Assign_Subscript (dm (hv pins s σ H _ I h) λr s1 ⟨v,H1,I1,rv,q1⟩=>dm (ho pins s1 σ H1 _ I1 q1) λu s2 ⟨x,H2,I2,rx,q2⟩=>dm (hi pins s2 σ H2 _ I2 q2) λiv s3 ⟨y,H3,I3,ry,a,H4,ex,g,q3⟩=>?_) hs
 subst ex
 obtain rfl:u=Value.ref a:=rx
 exact Ms hu I3 g ry rv λs4 I4=>⟨σ,H4,I4,q3⟩
end
theorem QV{P:Program}{w:World}{H:Hp}(h:Heap)(hb:sysModules<h.objs.size):dj P w H (h.push { cls:=.type "dict",data:=.dict #[] }) h.objs.size (.dK []):=
 ⟨dG _,vE.mpr (fz (bK hb)),[],.nil,Heap.DictOf.new h⟩
def mJ:TE:=λ_ H Q=>∀p,H p=none->Q (.ref p) (upd H p (.dK []))
def zW:TE:=λ_ H Q=>∀p,H p=none->Q (.ref p) (upd H p (.dT []))
section
variable {X:Cx}{pos:Pos}
theorem Pb:PE X (.Dict [] [] pos) mJ:=λpins s σ H Q I h=>
 wpAny_Dict_empty ⟨.ref s.heap.objs.size,_,I.laid (a:=s.heap.objs.size) (o:=.dK []) (t':=s.toks) (λ_ _ q=>cF _ q) (aU _) (QV s.heap I.big),rfl,h _ (I.bM.fresh (aU _))⟩
end
def Xm(kvs more:List (Key×V)):List (Key×V):=more.foldl (λacc kv=>putK acc kv.1 kv.2) kvs
structure M1(X:Cx)(o:Expr)(m:Str)(apos:Pos)(e:Expr)(cX:Pos):Prop where
 base:attributeBase o m X.env (eval o X.env)=eval o X.env
 few:((backTo cX (starEach [e] X.env)).all (λx=>!x.1)&&(backToKw cX (keywordEach [] X.env)).all (λx=>x.1.isSome)
  && decide (([e]:List Expr).length+([]:List Keyword).length+(if ([]:List Keyword).isEmpty then 0 else 1)<30))=true
 line:(apos.endLine==cX.line)=true
 trees:backTo cX (starEach [e] X.env)=[(false,eval e X.env)]
structure M2(X:Cx)(o:Expr)(m:Str)(apos:Pos)(e f:Expr)(cX:Pos):Prop where
 base:attributeBase o m X.env (eval o X.env)=eval o X.env
 few:((backTo cX (starEach [e,f] X.env)).all (λx=>!x.1)&&(backToKw cX (keywordEach [] X.env)).all (λx=>x.1.isSome)
  && decide (([e,f]:List Expr).length+([]:List Keyword).length+(if ([]:List Keyword).isEmpty then 0 else 1)<30))=true
 line:(apos.endLine==cX.line)=true
 trees:backTo cX (starEach [e,f] X.env)=[(false,eval e X.env),(false,eval f X.env)]
def IsD(H:Hp)(a:Addr):Prop:=(∃kvs,Rd H a (.dK kvs))\/∃kvs,Rd H a (.dT kvs)
section
variable {X:Cx}{pins:List (Addr×Obj)}{σ:St}{H:Hp}{s:Shared}{a:Addr}{y d:V}{u r:Value}{o:Option V}{A:Around}{E:Value->Shared->Prop}
theorem Yo{Q:Value->Shared->Prop}(hu:A.units+1<cLine)(I:Inv X pins σ H s)(g:oo H a y o)(ry:RelV y u)(rd:RelV d r)(h:∀w' s',Inv X pins σ H s'->RelV (o.getD d) w'->Q w' s') :
  wpAny (model X.prog X.w) A (call (.builtin "dict.get") [.ref a,u,r]) Q E s:=by
 rcases g with ⟨kvs,k,e,ey,l⟩ | ⟨kvs,k,b,e,ey,eb,l⟩
 ·subst ey
  obtain⟨z,hd,vs,rel,dd⟩:=yE I.bM e
  refine call_meetsIn Gr dd.typeIs PySem.F.entry_dict_get (PySem.F.args_dict_get_3 _ _ _) (meets_dict_get_default (cY X.prog X.w) a (Ec ry) hd r) ⟨_,dd.mapOf,h _ _ (I.tok _) ?_⟩
  rw[l]
  exact(rel.val k).getD rd
 ·subst ey
  cases (show u=Value.ref b from ry)
  obtain⟨z,hd,xs,rel,dd⟩:=Em I.bM e
  refine call_meetsIn Gr dd.typeIs PySem.F.entry_dict_get (PySem.F.args_dict_get_3 _ _ _) (meetsH_dict_get_default (tupleKind (cY X.prog X.w)) a b hd r) ⟨zu hu,k,xs,wD I.bM eb,dd,h _ _ (I.tok _) ?_⟩
  rw[l]
  exact(rel.val k).getD rd
end
def zU(td ty:TE):TE:=λσ H Q=>td σ H λx H1=>∃a,x=.ref a/\IsD H1 a/\ty σ H1 λy H2=>∃kvs k v,H2 a=some (.dK kvs)/\y=kV k/\cB kvs k=some v/\Q v (upd H2 a (.dK (aA5 kvs k)))
section
variable {X:Cx}{o e f:Expr}{apos cX:Pos}{td ty tx:TE}
end
section
variable {X:Cx}{pins:List (Addr×Obj)}{σ:St}{H:Hp}{s:Shared}{a:Addr}{kvs:List (Key×V)}{A:Around}{E:Value->Shared->Prop}
theorem QZ{Q:Value->Shared->Prop}(I:Inv X pins σ H s)(e:Rd H a (.dK kvs))(h:∀p s',H p=none->Inv X pins σ (upd H p (.dK kvs)) s'->Q (.ref p) s'):wpAny (model X.prog X.w) A (call (.type "dict") [.ref a]) Q E s:=by
 obtain⟨z,hd,vs,rel,dd⟩:=yE I.bM e
 refine kt_call_dict hd dd (by rw[<-rel.length];exact z) λh' V0 hs=>?_
 refine h _ _ (I.bM.fresh (aU _)) (I.laid (a:=s.heap.objs.size) (o:=.dK kvs) (t':=s.toks) (λb q hq=>?_) (aU _) (QT z (vE.mpr (fz (bK I.big))) rel V0))
 exact(hs.2 b (bK (aS hq))).trans (cF _ hq)
end
section
variable {X:Cx}{pins:List (Addr×Obj)}{σ:St}{H:Hp}{s:Shared}{a:Addr}{y:V}{u:Value}{A:Around}{E:Value->Shared->Prop}
end
end L2
namespace Att
open PySem PySem.W PySem.Calls PyProof.Rows
theorem uK{P:Params}{h:Heap}:∀(ns:List Int) (vs:List Value),WellAll P h vs (ns.map WData.int)->IntsAre vs ns:=by
 intro ns
 induction ns with
 | nil=>
  intro vs w
  rw[vt]at w
  cases w
  exact .nil
 | cons n ns ih=>
  intro vs w
  rw[eI]at w
  cases w with
  | cons a b=>
   cases a
   exact .cons _ _ (ih _ b)
theorem K1{l:OpenLaw}{n:Nat}(hn:l.most=some n){P:Params}{h:Heap}{args:List WData}{vals:List Value}
  (Uj:l.row.toRowW.claim.pre args=true) (hwl:WellAll P h vals args) :
  ∃a vs ns,vals=[Value.ref a]/\args=[WData.list (ns.map WData.int)]/\h.get? a=some { cls:=.type "list",data:=.seq vs.toArray }/\IntsAre vs ns/\ns.length<=n:=by
 have hsh:WShape.hasAll [] args [.list .int]=true:=(pre_splitW Uj).1
 have hc:l.pre.holds [] { args:=args }=true:=(pre_splitW Uj).2
 obtain⟨d,r,rfl,h1,h2⟩:=hasAllW_cons hsh
 obtain rfl:=hasAllW_nil h2
 obtain⟨xs,rfl,h3⟩:=hasW_list h1
 obtain⟨ns,rfl⟩:=items_int h3
 have hlen:ns.length<=n:=by
  unfold OpenLaw.pre at hc
  have h4:(WTm.not (.lt (.lit (.int (n:Int))) (.len (.arg 0)))).holds [] { args:=[.list (ns.map .int)] }=true:=by
   have h4:=(holds_andW hc).1
   rw[hn]at h4
   exact h4
  have h5:=condW_of h4 (w_not (w_lt w_lit (w_len_list (w_arg rfl))))
  rw[aM]at h5
  refine Nat.le_of_not_lt λq=>?_
  have q':(n:Int)<((ns.length:Nat):Int):=by lia
  first
   | (rw[decide_eq_true q']at h5;exact absurd h5 (by decide))
   | (simp at h5;lia)
 cases hwl with
 | cons w1 w2=>
  cases w2
  cases w1 with
  | list ho lY=>exact⟨_,_,ns,rfl,rfl,ho,uK ns _ lY,hlen⟩
theorem Ld(l:OpenLaw)(args:List WData):l.row.toRowW.claim.post args (.bool true) args=true:=
 postW_of (r:=l.row.toRowW) (X:=(true==true))
  (show WShape.has [] (.bool true) .bool=true by first | rfl | decide | simp[WShape.has,WShape.arms,WShape.armsAll])
  (show(WTm.eq .res (.lit (.bool true))).value [] { args:=args,res:=some (.bool true),after:=args }=some (.bool (true==true)) from w_eq_bool (w_res rfl) w_lit) rfl
theorem Ff{l:OpenLaw}{n:Nat}{q:Program}{loose:List Str}{XP:(Str->Option Value)->Heap->Prop}{YP:World->Heap->Prop}{d:DefRec}
  (hn:l.most=some n) (hdf:d.params.defaults=[])
  (call:∀(w:World) (s₀ s₁:Shared) (mg mb:Str->Option Value) (fa:Addr) (o:Obj) (pm cd doc:Value) (a:Addr) (vs:List Value) (ns:List Int),
   Ground q loose [] XP w s₀ mg mb s₁.heap->YP w s₁.heap->
   s₁.heap.get? fa=some o->o.data=.func (docDef d.name d.params d.body d.scope pm cd doc)->s₁.heap.CodeRec cd d.name->mg d.name=some (.ref fa)->
   s₁.heap.get? a=some { cls:=.type "list",data:=.seq vs.toArray }->IntsAre vs ns->ns.length<=n->s₁.gens = #[]->
   codeAny (model l.prog w) callerA (.call (.ref fa) ⟨[.ref a],[]⟩) (λr s'=>r=.ok (.ret (.bool true))/\OldK s₁.heap s'.heap/\s'.os=s₁.os/\AllBare s'.gens) s₁) :
  WalkO q loose XP YP l.row.toRowW d [] (λf vs=>PySem.call f vs):=by
 intro w s₀ s₁ mg mb G Y fa o pm cd doc dV kV ho hd Ig hD hmg hg args vals as Uj hlay hrd hwl hlo
 obtain rfl:dV=.none:=Dflts.none hD hdf
 obtain rfl:kV=.none:=Dflts.noKw hD
 obtain⟨a,vs,ns,rfl,rfl,XZ,hints,hlen⟩:=K1 hn Uj hwl
 refine enter_call (px (call w s₀ s₁ mg mb fa o pm cd doc a vs ns G Y ho (fd_plain hd) Ig hmg XZ hints hlen hg) λr s' hq=>?_)
 obtain⟨rfl,h2,h3,h4⟩:=hq
 exact⟨.inl ⟨.bool true,.bool true,[],rfl,λ_=>rfl,.bool true,Ld l _,λ_=>⟨List.Pairwise.nil,λ_ hm=>(nomatch hm)⟩⟩,h2,h3,h4⟩
section
variable {prog:Program}{w:World}{A:Around}{E:Value->Shared->Prop}{s:Shared}{K:Frag}
end
end Att
namespace L2
open PySem PySem.Spec PyProof.Rows
theorem xW:∀{vs:List Value} {ns:List Int},IntsAre vs ns->Vals (ns.map V.int) vs
 | _,_,.nil=>.nil
 | _,_,.cons n t h=>.cons ⟨t,rfl⟩ (xW h)
def Only(H:Hp):Prop:=∀b,H b=none\/∃o xs,H b=some (.m9 o (.lst xs))
theorem Qg{P:Program}{w:World}{K:PySem.W.Frag}{mg mb:Str->Option Value}{CX:M8}{k:Nat}{fa a:Addr}{fd:FuncData}{x:Str}{sp:Sp}{s₁:Shared}{vs:List Value}{ns:List Int}
  (KX:K.In s₁.heap) (Y7:s₁.heap.Ns mainGlobals mg) (hb:s₁.heap.Ns builtinsNs mb) (hbb:∀x:Str,x≠"__name__"->mb x=bootBuiltins x) (aEc:s₁.heap.NoLimit) (hg:s₁.gens = #[])
  (ha:s₁.heap.get? a=some { cls:=.type "list",data:=.seq vs.toArray }) (hi:IntsAre vs ns) (hl:ns.length<=sizeLine) (hr:eF k callerA)
  (F:∀base:Heap,K.In base->base.Ns mainGlobals mg->cE P w K mg base CX k fa fd [x] sp) (aAP:∀(s:Shared) (u:Value),BindsTo s fd ⟨[u],[]⟩ [(x,u)])
  (RG:∀H:Hp,Only H->oQ K H a (ns.map V.int)->sp [.ref a] H (λv _=>v=.bl true) λ_ _ _=>False)
  (hCX:∀H e s',CX [] H s₁ (λ_ _ _=>False) e s'->False) :
  codeAny (model P w) callerA (.call (.ref fa) ⟨[.ref a],[]⟩) (λr s'=>r=.ok (.ret (.bool true))/\OldK s₁.heap s'.heap/\s'.os=s₁.os/\AllBare s'.gens) s₁:=by
 have rv:=xW hi
 have aDA:=hi.length
 have core:∀H:Hp,Only H->oQ K H a (ns.map V.int)->ju P w H s₁.heap->(∀b,H b≠none->b=a)->(H a≠none->K.lookup a=none)->
   codeAny (model P w) callerA (.call (.ref fa) ⟨[.ref a],[]⟩) (λr s'=>r=.ok (.ret (.bool true))/\OldK s₁.heap s'.heap/\s'.os=s₁.os/\AllBare s'.gens) s₁:=by
  intro H hO hS bM hA hK
  have Ki:∀{b:Addr} {o:Obj},s₁.heap.get? b=some o->H b=none->(Bp s₁.heap H).get? b=some o:=λe n=>Qu e n
  have noA:∀{b:Addr} {o:Obj} {es:Array DictEntry} {ep:Nat},s₁.heap.get? b=some o->o.data=.dict es ep->H b=none:=λ{b o es ep} e d=>by
   cases q:H b with
   | none=>rfl
   | some u=>
    have e':b=a:=hA b (by rw[q];simp)
    subst e'
    rw[ha]at e;cases e
    have d':Data.seq vs.toArray _=Data.dict es ep:=d
    cases d'
  have nsK:∀{b:Addr} {m:Str->Option Value},s₁.heap.Ns b m->(Bp s₁.heap H).Ns b m:=λ{b m} ⟨o,es,ep,e,d,r⟩=>⟨o,es,ep,Ki e (noA e d),d,r⟩
  have hKb:K.In (Bp s₁.heap H):=λb o e=>Ki (KX b o e) (by
   cases q:H b with
   | none=>rfl
   | some u=>
    have e':b=a:=hA b (by rw[q];simp)
    subst e'
    rw[hK (by rw[q];simp)]at e;cases e)
  have hM:Mod K mg (Bp s₁.heap H):=⟨hKb,nsK Y7,⟨mb,nsK hb,hbb⟩,let ⟨mc,h1,h2⟩:=aEc;⟨mc,nsK h1,h2⟩⟩
  have e0:xQ P w K mg (Bp s₁.heap H) callerA [] s₁ H:=⟨rfl,hM,λb o e=>TX e,Nat.le_of_eq (Md _ _),trivial,λb hb=>absurd (show b∈([]:List Addr) from hb) (by simp),bM,.of_eq hg⟩
  refine px ((F _ hKb (nsK Y7)).run callerA [] s₁ H ⟨[.ref a],[]⟩ [.ref a] [.ref a] _ _ hr e0 (aAP s₁ (.ref a)) (.cons rfl .nil) (RG H hO hS)) λr s' h=>?_
  cases r with
  | error e=>exact(hCX H e s' h).elim
  | ok fl=>
   cases fl with
   | next=>exact False.elim h
   | brk=>exact False.elim h
   | cont=>exact False.elim h
   | ret u=>
    obtain⟨v,H',os,bare,un,aD9,r',q⟩:=h
    have q':v=.bl true:=q
    subst q'
    obtain rfl:u=Value.bool true:=r'
    refine⟨rfl,OldK.of_keep λb o e=>?_,os,bare⟩
    cases q:H b with
    | none=>exact un.keep b o e q (by intro z;exact absurd (show b∈([]:List Addr) from z) (by simp)) (by simp)
    | some u=>
     rcases hO b with z | ⟨ob,xs,z⟩
     ·rw[q]at z;cases z
     ·have z2:=un.frzs b ob _ z
      obtain⟨e1,_⟩:=bM b _ z
      obtain⟨e2,_⟩:=aD9 b _ z2
      rw[e]at e1;cases e1
      exact e2
 cases hk:K.lookup a with
 | some o=>
  have e:=KX a o hk
  rw[ha]at e
  cases e
  refine core (λ_=>none) (λ_=>.inl rfl) (.inr ⟨_,vs.toArray,_,hk,rfl,rfl,rfl,by rw[cZ,aDA];exact hl,by simpa using rv⟩) (λb u z=>by have z':(none:Option HO)=some u:=z;cases z') (λb z=>absurd rfl z) λz=>absurd rfl z
 | none=>
  refine core (λb=>if b=a then some (.m9 { cls:=.type "list",data:=.seq vs.toArray } (.lst (ns.map V.int))) else none) (λb=>?_) (.inl (.inr ⟨{ cls:=.type "list",data:=.seq vs.toArray },aB rfl⟩)) (λb u z=>?_) (λb z=>?_) λ_=>hk
  ·by_cases hb:b=a
   ·exact .inr ⟨_,_,aB hb⟩
   ·exact .inl (aA hb)
  ·by_cases hb:b=a
   ·have z':=(aB hb).symm.trans z
    cases z'
    subst hb
    exact⟨ha,by rw[aM];exact hl,vs,_,rv,ha⟩
   ·have z':=(aA hb).symm.trans z
    cases z'
  ·by_cases hb:b=a
   ·exact hb
   ·exact absurd (aA hb) z
end L2
namespace L2
open PySem PySem.Spec PyProof.Rows
theorem R3{l:PySem.W.OpenLaw}{n k:Nat}{q:Program}{loose:List Str}{XP:(Str->Option Value)->Heap->Prop}{YP:World->Heap->Prop}{d:DefRec}{K:Params->PySem.W.Frag}{CX:World->M8}{sp:World->Sp}{x:Str}
  (hn:l.most=some n) (Ul:n<=sizeLine) (hdf:d.params.defaults=[]) (hr:eF k callerA)
  (hY:∀(w:World) (h:Heap),YP w h->(K w.params).In h)
  (F:∀(w:World) (mg:Str->Option Value) (fa:Addr) (h:Heap),(K w.params).In h->h.Ns mainGlobals mg->mg d.name=some (.ref fa)->
   ∃fd:FuncData,(∀(s:Shared) (u:Value),BindsTo s fd ⟨[u],[]⟩ [(x,u)])/\
    ∀base:Heap,(K w.params).In base->base.Ns mainGlobals mg->cE l.prog w (K w.params) mg base (CX w) k fa fd [x] (sp w))
  (RG:∀(w:World) (H:Hp) (a:Addr) (ns:List Int),ns.length<=n->Only H->oQ (K w.params) H a (ns.map V.int)->sp w [.ref a] H (λv _=>v=.bl true) λ_ _ _=>False)
  (hCX:∀(w:World) (H:Hp) (s:Shared) (e:Value) (s':Shared),CX w [] H s (λ_ _ _=>False) e s'->False) :
  PySem.W.WalkO q loose XP YP l.row.toRowW d [] (λf vs=>PySem.call f vs):=by
 refine Att.Ff hn hdf λw s₀ s₁ mg mb fa o pm cd doc a vs ns G Y ho hd Ig hmg XZ hints hlen hg=>?_
 have KX:=hY w _ Y
 obtain⟨fd,hb,hF⟩:=F w mg fa _ KX G.T.g hmg
 exact Qg KX G.T.g G.T.b G.T.builtins G.T.nolimit hg XZ hints (df hlen Ul) hr hF hb (λH hO hS=>RG w H a ns hlen hO hS) λH e s'=>hCX w H s₁ e s'
end L2
namespace L2
open PySem PySem.Spec PyProof.Rows
def aW(s:Stmt):Arguments:=match s with
 | .FunctionDef _ a _ _ _ _ _ _ _ _=>a
 | _=>{ posonlyargs:=[],args:=[],vararg:=none,kwonlyargs:=[],kw_defaults:=[],kwarg:=none,defaults:=[] }
def aQ(s:Stmt):List Stmt:=match s with
 | .FunctionDef _ _ b _ _ _ _ _ _ _=>b
 | _=>[]
def ao(s:Stmt):Scope:=match s with
 | .FunctionDef _ _ _ _ _ _ sc _ _ _=>sc
 | _=>{ kind:=.function,names:=[],isGenerator:=false,isCoroutine:=false }
abbrev g6:M8:=λ_ _ _ _ _ _=>False
abbrev E0:XK:=λ_ _ _=>False
theorem aY{X:Cx}:Passes g6 X E0:=λ_ _ _ _ _ _ _ h=>h.elim
structure jA(K:PySem.W.Frag)(x qual:Str)(st:Stmt)(f:Addr)(fd:FuncData):Prop where
 ex:∃(oc:Value) (od:Option Addr) (kV doc pm:Value) (an:Option Addr) (dz ct:Value) (Lf:Array (Option Value)),
  fd=PySem.W.fnOf x qual (aW st) (aQ st) (ao st) .none kV doc pm an dz ct/\K.lookup f=some ⟨oc,od,.func fd,Lf⟩/\PySem.W.codeIn K dz qual=true
 kp:PySem.W.keepIn K (.ref f)=true
section
variable {P:Program}{w:World}{K:PySem.W.Frag}{mg:Str->Option Value}{base:Heap}
theorem jA.ok{x qual:Str}{st:Stmt}{f:Addr}{fd:FuncData}{N ps:List Str}{k:Nat}{sp:Sp}(F:jA K x qual st f fd)(S:aT N ps (ao st))(len:∀vs H Q E,sp vs H Q E->vs.length=ps.length)
  (m6:∀(dz:Value) (A:Around) (outer:List Env) (s:Shared) (H:Hp) (vs:List V) (Q:VK) (E:XK),eF k (A.deeper (envOfC qual (ao st) s.heap.objs.size f dz))->sp vs H Q E->
   ∃t,BG (km g6 P w K mg base N qual (ao st) f dz A outer s H E).RC (aQ st) t/\t { nx:=λ_ H'=>Q .non H',rt:=Q } (start N vs) H):cE P w K mg base g6 (k+1) f fd ps sp:=by
 obtain⟨oc,od,kV,doc,pm,an,dz,ct,Lf,rfl,lk,Ig⟩:=F.ex
 refine VR lk Ig S len λA outer s H vs Q E hr RG=>?_
 obtain⟨t,h,q⟩:=m6 dz A outer s H vs Q E hr RG
 exact⟨t,h.RC,q⟩
theorem jA.binds{x qual:Str}{st:Stmt}{f:Addr}{fd:FuncData}{ps:List Str}(F:jA K x qual st f fd)
  (h:∀(kV doc pm:Value) (an:Option Addr) (dz ct:Value) (us:List Value),us.length=ps.length->bindArgs (PySem.W.fnOf x qual (aW st) (aQ st) (ao st) .none kV doc pm an dz ct) ⟨us,[]⟩=pure (ps.zip us)):Binds K fd ps []:=by
 obtain⟨oc,od,kV,doc,pm,an,dz,ct,Lf,rfl,lk,Ig⟩:=F.ex
 exact .all (h kV doc pm an dz ct)
theorem bL{x qual:Str}{st:Stmt}{f:Addr}{oc:Value}{od an:Option Addr}{Lf:Array (Option Value)}{kV doc pm dz ct:Value}(l:K.lookup f=some ⟨oc,od,.func (PySem.W.fnOf x qual (aW st) (aQ st) (ao st) .none kV doc pm an dz ct),Lf⟩)
  (c:PySem.W.codeIn K dz qual=true) (k:PySem.W.keepIn K (.ref f)=true):jA K x qual st f (PySem.W.fnOf x qual (aW st) (aQ st) (ao st) .none kV doc pm an dz ct):=⟨⟨oc,od,kV,doc,pm,an,dz,ct,Lf,rfl,l,c⟩,k⟩
end
theorem fF{A:Around}{k:Nat}(hr:eF k A):A.units+1<cLine:=vD (Nat.add_le_add_left (by decide:1<=64) _) hr.units
theorem aL{n:Nat}(h:n<=1000):n<sizeLine:=vD h (by decide)
section
variable {X:Cx}
theorem pv(i:Nat){x:Str}{pos:Pos}(hN:X.N[i]?=some x:=by rfl)(hv:Vis X.env.scope x:=by first | exact Or.inl rfl | exact Or.inr (Or.inl rfl) | exact Or.inr (Or.inr rfl))(hd:(x==("__debug__" : Str))=false:=by decide)
  (Ig:(x==("__classdict__" : Str))=false:=by decide):PE X (.Name x pos) (gI i):=O7 hN hv hd Ig
end
def bf(H H':Hp):Prop:=∀b o,H b=some o->H' b=some o
theorem bf.refl(H:Hp):bf H H:=λ_ _ h=>h
theorem bf.trans{H H1 H2:Hp}(a:bf H H1)(b:bf H1 H2):bf H H2:=λc o h=>b c o (a c o h)
theorem bf.free{H H':Hp}(e:bf H H'){l:Addr}(h:H' l=Option.none):H l=Option.none:=by
 cases q:H l with
 | none=>rfl
 | some o=>
  rw[e l o q]at h
  cases h
section
variable {κ:Type} [DecidableEq κ]
theorem uP{kvs:List (κ×V)}{k:κ}{v:V}(h:cB kvs k=some v):k∈kvs.map (·.1):=by
 have q:(kvs.any λkv=>decide (kv.1=k))=true:=by
  rw[j6,h]
  all_goals rfl
 obtain⟨p,hp,e⟩:=qi.mp q
 exact bH.mpr ⟨p,hp,of_decide_eq_true e⟩
end
end L2
end
section
theorem L2.hide{p:Prop}(h:∀q:Prop,(p->q)->q):p:=h p id
end
section
namespace L2
open PySem PySem.Spec PyProof.Rows
theorem uj{α β:Type}{f:α->β->Sem (ForInStep β)}(g:α->β->β):∀(l:List α) (b:β),(∀x∈l,∀c,f x c=pure (.yield (g x c)))->forIn l b f=pure (l.foldl (λc x=>g x c) b)
 | [],b,_=>rfl
 | x::l,b,h=>by
  rw[List.forIn_cons,h x di,pure_bind]
  exact uj g l (g x b) λy hy=>h y (fw _ hy)
def eU(env:Env)(names:List (Str×NameKind))(cs:List (Str×Addr)):List (Str×Addr):=
 names.foldl (λc y=>if y.2==NameKind.free then (y.1,(env.cells.lookup y.1).getD 0)::c else c) cs
theorem kr{scope:Scope}{env:Env}(h:∀y∈scope.names,y.2=.free->∃c,env.cells.lookup y.1=some c):closureFor scope env=pure (eU env scope.names []):=by
 simp only[closureFor]
 rw[uj (λy c=>if y.2==NameKind.free then (y.1,(env.cells.lookup y.1).getD 0)::c else c) scope.names [] (λx hx c=>by
  obtain⟨n,kind⟩:=x
  dsimp only
  by_cases hk:kind=.free
  ·subst hk
   obtain⟨a,e⟩:=h (n,.free) hx rfl
   have e':env.cells.lookup n=some a:=e
   have:cellOf env n=pure a:=by unfold cellOf;rw[e']
   rw[this,e']
   rfl
  ·have hb:(kind==NameKind.free)=false:=by simpa using hk
   rw[hb];rfl)]
 simp only[pure_bind]
 rfl
theorem tD{env:Env}:∀(names:List (Str×NameKind)) (cs:List (Str×Addr)),(∀y∈names,y.2=.free->∃c,env.cells.lookup y.1=some c)->(∀p∈cs,env.cells.lookup p.1=some p.2)->
  ∀p∈eU env names cs,env.cells.lookup p.1=some p.2
 | [],cs,_,hc=>hc
 | y::r,cs,h,hc=>by
  unfold eU
  rw[rR]
  refine tD r _ (λz hz=>h z (fw _ hz)) λp hp=>?_
  by_cases hk:y.2=.free
  ·have hb:(y.2==NameKind.free)=true:=by simpa using hk
   rw[aB hb]at hp
   rcases dR.mp hp with e | hp
   ·obtain⟨c,e1⟩:=h y di hk
    rw[e];dsimp only;rw[e1];rfl
   ·exact hc p hp
  ·have hb:¬(y.2==NameKind.free)=true:=by simpa using hk
   rw[aA hb]at hp
   exact hc p hp
theorem uq{env:Env}{p:Str×Addr}:∀(names:List (Str×NameKind)) (cs:List (Str×Addr)),p∈cs->p∈eU env names cs
 | [],_,h=>h
 | y::r,cs,h=>by
  unfold eU
  rw[rR]
  refine uq r _ ?_
  split
  ·exact fw _ h
  ·exact h
theorem yM{env:Env}{x:Str}:∀(names:List (Str×NameKind)) (cs:List (Str×Addr)),(x,NameKind.free)∈names->∃c,(x,c)∈eU env names cs
 | y::r,cs,h=>by
  rcases dR.mp h with e | h
  ·subst e
   exact⟨_,by
    unfold eU;rw[rR]
    refine uq r _ ?_
    rw[aB (by rfl)]
    exact di⟩
  ·obtain⟨c,hc⟩:=yM r (if y.2==NameKind.free then (y.1,(env.cells.lookup y.1).getD 0)::cs else cs) h
   exact⟨c,by unfold eU;rw[rR];exact hc⟩
theorem o4{f:Str->Option Addr}{x:Str}:∀{cs:List (Str×Addr)},(∀p∈cs,f p.1=some p.2)->(∃c,(x,c)∈cs)->cs.lookup x=f x
 | [],_,⟨_,h⟩=>nomatch h
 | (n,a)::r,hc,⟨c,h⟩=>by
  rw[mj]
  by_cases e:x=n
  ·subst e
   rw[qj]
   exact(hc (x,a) di).symm
  ·have hb:(x==n)=false:=by simpa using e
   rw[hb]
   refine o4 (λp hp=>hc p (fw _ hp)) ⟨c,?_⟩
   rcases dR.mp h with q | q
   ·exact absurd (gj Prod.fst q) e
   ·exact q
theorem qL{env : Env}{y : Str} : ∀ {names : List (Str × NameKind)}, (∀ z ∈ names, z.2 ≠ .cell) →
    ((names.map λ(n, k) => if (k==NameKind.free&&env.scope.kind == .function&&env.kindOf n==some .cell) then (n, NameKind.cell) else (n, k)).lookup y=some .cell ∨
     (names.map λ(n, k) => if (k==NameKind.free&&env.scope.kind == .function&&env.kindOf n==some .cell) then (n, NameKind.cell) else (n, k)).lookup y=some .free) → names.lookup y=some .free
  | [], _, h => by rcases h with h | h <;> cases h
  | (n, k)::r, hc, h => by
    have ih := @qL env y r λz hz => hc z (fw _ hz)
    rw[eI]at h
    rw[mj]
    by_cases e : y=n
    · subst e
      rw[qj]
      by_cases hb : (k==NameKind.free&&env.scope.kind == .function&&env.kindOf y==some .cell)=true
      · have hk : k=.free := by
          rw[dh, dh]at hb
          simpa using hb.1.1
        rw[hk]
      · dsimp only at h
        rw[aA hb, mj, qj]at h
        dsimp only at h
        rcases h with h | h
        · exact absurd (cv h) (hc (y, k) di)
        · exact h
    · have hn : (y==n)=false := by simpa using e
      rw[hn]
      dsimp only at h ⊢
      apply ih
      by_cases hb : (k==NameKind.free&&env.scope.kind == .function&&env.kindOf n==some .cell)=true
      · rw[aB hb, mj, hn]at h
        exact h
      · rw[aA hb, mj, hn]at h
        exact h
structure CB where
 C:Addr
 cl:List (Str×Addr)
 s2:Shared
 H2:Hp
 ex:List Addr
@[reducible] def lV (X:Cx) (scope:Scope) (N:List Str) (c:CB):Cx:=
 { prog:=X.prog,w:=X.w,K:=X.K,mg:=X.mg,base:=X.base,A:=X.A,N:=N,s₀:=c.s2,H₀:=c.H2,env:=compEnvC scope c.cl c.C X.env,outer:=X.stack,stack:=X.stack,ex:=c.ex,fn:=λ_=>false,calm:=X.calm,pn:=[],xe:=λ_ _=>False }
def bZ(σ:St)(idx:List Nat):St:=idx.map λi=>(σ[i]?).join
def ck(N:List Str)(idx:List Nat):List Str:=idx.map λi=>N.getD i ""
def BJ(X:Cx)(ifs:List Expr)(t:TT):Prop:=
 ∀(pins:List (Addr×Obj)) (s:Shared) (σ:St) (H:Hp) (Q:Bool->Hp->Prop),Inv X pins σ H s->t σ H Q->
  wpAny (model X.prog X.w) X.A (forIn ifs true λc r=>if r=true then do let ok <-isTrue c X.env (eval c X.env);pure (ForInStep.yield ok) else pure (ForInStep.yield r)) (TP X pins σ Q) X.xe s
def wZ:TT:=λ_ H Q=>Q true H
theorem O2{X:Cx}:BJ X [] wZ:=λ_ _ _ H _ I h=>wpAny_tests_nil ⟨H,I,h⟩
theorem O1{X:Cx}{e:Expr}{t:TT}(h:PT X e t):BJ X [e] t:=λpins s σ H Q I q=>wpAny_tests_one (h pins s σ H Q I q)
def vT(wi:TI)(k:Nat)(idx:List Nat)(g:CB->TG)(tt:CB->TT)(te:CB->TE):TE:=λσ H Q=>wi σ H λJ H1=>∀D,H1 D=none->∃W:Nat->Nat->List V->Hp->Prop,(∃m,W 0 m [] (upd H1 D (.lst [])))/\
 ∀i m ys H',W i m ys H'->(J.stop i H'/\Q (.ref D) H')\/(J.go i H'/\∃N:List V->Hp->Prop,(∀qv tJ,N qv tJ->∃m',m'<m/\W (i+1) m' qv tJ)/\∀(c:CB) (own:St),own.length=k->∀x H2,J.Kv i H' x H2->g c x (own++bZ σ idx) H2 λσ3 H3=>
  (∃dY,dY.length=k/\σ3=dY++bZ σ idx)/\tt c σ3 H3 λb H4=>if b=true then te c σ3 H4 λy H5=>H5 D=some (.lst ys)/\ys.length<sizeLine/\N (ys++[y]) (upd H5 D (.lst (ys++[y]))) else N ys H4)
structure wX(X:Cx)(scope:Scope)(xs:List Str)(idx:List Nat):Prop where
 kind:scope.kind=.function
 PB:∀y∈scope.names,y.2≠.cell
 loc:∀y∈scope.names,y.2=.local->scope.names.lookup y.1=some .local
 free:∀y∈scope.names,y.2=.free->scope.names.lookup y.1=some .free/\(X.env.kindOf y.1=some .cell\/X.env.kindOf y.1=some .free)
 ix:∀i∈idx,∃y,X.N[i]?=some y/\scope.names.lookup y=some .free
section
variable {prog:Program}{w:World}{A:Around}{R:Result->Shared->Prop}{s:Shared}
theorem nE{elt target iter:Expr}{ifs:List Expr}{scope:Scope}{pos:Pos}{it acc:Value}{env:Env}(I:Nat->Shared->Prop)
  (turn:∀n s,I n s->wpAny (model prog w) A (pyNext it) (λr s₁=>match r with
   | none=>R (.ok .next) s₁
   | some v=>wpAny (model prog w) A (letOwnedTupleGo target it v) (λ_ s₁'=>wpAny (model prog w) A (assign target env v) (λ_ s₂=>
     wpAny (model prog w) A (forIn ifs true λc r=>if r=true then do let ok <-isTrue c env (eval c env);pure (ForInStep.yield ok) else pure (ForInStep.yield r)) (λok s₃=>
      if ok=true then wpAny (model prog w) A (eval elt env) (λx s₄=>
       wpAny (model prog w) A (call (.builtin "list.append") [acc,x]) (λ_ s₅=>∃m,m<n/\I m s₅) (λ_ _=>False) s₄) (λ_ _=>False) s₃
      else ∃m,m<n/\I m s₃) (λ_ _=>False) s₂) (λ_ _=>False) s₁') (λ_ _=>False) s₁) (λ_ _=>False) s)
  (n:Nat) (h:I n s) :
  codeAny (model prog w) A (.compLoop (.ListComp elt [⟨target,iter,ifs,0⟩] scope pos) 0 it acc env) R s:=by
 refine codeAny_loop rfl I (λn s hI=>?_) n h
 show wpAny _ A ((compTurn (.ListComp elt [⟨target,iter,ifs,0⟩] scope pos) 0 it acc env).onRaise (λx=>do noteFrame x env;theTreesLotGoes x)) _ _ s
 refine wpAny_noted ?_
 rw[compTurn_list]
 refine az (rF (az (dq (turn n s hI) (λr s₁ h₁=>?_) λ_ _ h'=>False.elim h')))
 cases r with
 | none=>exact aK h₁
 | some v=>
  refine az (dq h₁ (λ_ s₁' h₁'=>?_) λ_ _ h'=>False.elim h')
  refine az (dq h₁' (λ_ s₂ h₂=>az (dq h₂ (λok s₃ h₃=>?_) λ_ _ h'=>False.elim h')) λ_ _ h'=>False.elim h')
  cases ok with
  | false=>exact aK ⟨rfl,h₃⟩
  | true=>
   exact az (az (dq h₃ (λx s₄ h₄=>az (dq h₄ (λ_ s₅ h₅=>aK (aK ⟨rfl,h₅⟩)) λ_ _ h'=>False.elim h')) λ_ _ h'=>False.elim h'))
end
section
variable {X:Cx}{pins:List (Addr×Obj)}{σ:St}{H:Hp}{s:Shared}
theorem ju.but{P:Program}{w:World}{h h':Heap}{C:Addr}(x:ju P w H h)(hn:H C=none)(hs:Heap.SameBut C h h'):ju P w H h':=λb ob e=>by
 refine(x b ob e).stay (λc w' hc q=>(hs.2 c ?_).trans q) (λ_ q=>q) λ_ _ q=>q
 rintro rfl
 rcases hc with rfl | hc
 ·rw[hn]at e;cases e
 ·rw[hn]at hc;cases hc
theorem Un.but{fs ex:List Addr}{H':Hp}{h h1 h2:Heap}{C:Addr}(u:Un fs ex H H' h h1)(hC:h.get? C=none)(hs:Heap.SameBut C h1 h2):Un fs ex H H' h h2:=by
 have ne:∀b o,h.get? b=some o->b≠C:=λb o e z=>by rw[z,hC]at e;cases e
 exact⟨λb o e n h1 h2=>(hs.2 b (ne b o e)).trans (u.keep b o e n h1 h2),λb o e n h1 h2=>by
   obtain⟨sl,q⟩:=u.slot b o e n h1 h2
   exact⟨sl,(hs.2 b (ne b o e)).trans q⟩,u.free,λb o e h2=>by
   obtain⟨o',q⟩:=u.there b o e h2
   exact⟨o',(hs.2 b (ne b o e)).trans q⟩,u.tups,u.frzs,u.tbls⟩
theorem NP{idx:List Nat}{j:Nat}{v:V}(h:(bZ σ idx)[j]?=some (some v)):∃i,idx[j]?=some i/\σ[i]?=some (some v):=by
 unfold bZ at h
 rw[cR]at h
 cases e:idx[j]? with
 | none=>rw[e]at h;cases h
 | some i=>
  rw[e]at h
  refine⟨i,rfl,?_⟩
  have h':(σ[i]?).join=some v:=cv h
  cases q:σ[i]? with
  | none=>rw[q]at h';cases h'
  | some o=>rw[q]at h';cases o with
   | none=>cases h'
   | some z=>cases h';rfl
theorem NQ{N:List Str}{idx:List Nat}{j i:Nat}{y:Str}(h:idx[j]?=some i)(e:N[i]?=some y):(ck N idx)[j]?=some y:=by
 unfold ck
 rw[cR,h]
 show some (N.getD i "")=some y
 rw[gi,e];rfl
theorem Inv.block{scope:Scope}{xs:List Str}{idx:List Nat}{fp:List Addr}{C:Addr}{h':Heap}{t':Nat}{H1:Hp}{D:Addr}{m0:Str->Option Value}(I:Inv X pins σ H s)(S:wX X scope xs idx)
  (hfp:∀b∈fp,BM X pins H b) (hfo:∀b∈fp,∃o,s.heap.get? b=some o) (hC:s.heap.objs.size<=C) (hDC:D≠C) (hD:s.heap.objs.size<=D) (hn:h'.Ns C m0) (hk:∀b o,s.heap.get? b=some o->h'.get? b=some o)
  (hl:∃n,h'.get? D=some { cls:=.type "list",data:=.seq #[] n }) :
  Inv (lV X scope (xs++ck X.N idx) ⟨C,eU X.env scope.names [],s,H,fp⟩) [] (List.replicate xs.length none++bZ σ idx) (upd H D (.lst [])) { s with heap:=h',toks:=t' }:=by
 have Eh:∀y∈scope.names,y.2=.free->∃c,X.env.cells.lookup y.1=some c:=λy hy e=>I.ok.has y.1 (S.free y hy e).2
 have lY:=tD (env:=X.env) scope.names [] Eh (λp hp=>(nomatch hp))
 have uh:∀y c,(eU X.env scope.names []).lookup y=some c->X.env.cells.lookup y=some c:=λy c e=>lY (y,c) (oU e)
 have aAM:∀y,scope.names.lookup y=some .free->(eU X.env scope.names []).lookup y=X.env.cells.lookup y:=λy e=>o4 (f:=λn=>X.env.cells.lookup n) lY (yM scope.names [] (oU e))
 have lt:∀b,(∃o,s.heap.get? b=some o)->b<s.heap.objs.size:=λb ⟨o,e⟩=>aS e
 have hDn:H D=none:=I.bM.fresh hD
 refine⟨⟨I.ok.mod,S.kind,I.ok.glob,I.ok.blt,hC,λx y c h1 h2=>I.ok.inj x y c (uh x c h1) (uh y c h2),λy hy=>?_,λ_ _ e=>(nomatch e),I.ok.hd,I.ok.frames,.inl rfl,λb hb=>⟨?_,λx c e=>(hfp b hb).2.2.2.2.1 x c (uh x c e)⟩,I.bs,df I.ok.RT I.sz,λb o e hb=>?_,λb hb z=>?_,I.stack,I.zY⟩,
  rfl,I.bare,?_,⟨m0,hn,λi y v e1 e2 hv=>?_⟩,λx c e=>?_,?_,λx c e=>?_,λp hp=>(nomatch hp),?_,?_⟩
 ·
  have q:scope.names.lookup y=some .free:=qL S.PB hy
  have q2:=oU q
  obtain⟨c,e⟩:=Eh _ q2 rfl
  exact⟨c,(aAM y q).trans e⟩
 ·
  exact bK (dS (lt b (hfo b hb)) hC)
 ·
  rcases(hfp b hb).2.2.2.1 with z | z
  ·exact I.ok.Py b o e z
  ·exact absurd (dS (aS e) (df I.ok.RT z)) (j0 _)
 ·
  rcases dR.mp (I.vW b z) with q | q
  ·exact(hfp b hb).2.1 q
  ·exact(hfp b hb).2.2.1 q
 ·
  exact Un.laid hk hD hDn
 ·
  by_cases hi:i<xs.length
  ·rw[gh (by simpa using hi)]at e2
   rw[List.getElem?_replicate]at e2
   split at e2 <;> cases e2
  ·have u5:xs.length<=i:=Nat.le_of_not_lt hi
   rw[fC (by simpa using u5),vG]at e2
   obtain⟨i0,ei,es⟩:=NP e2
   obtain⟨y',ey,ef⟩:=S.ix i0 (dE ei)
   have Mp:(xs++ck X.N idx)[i]?=some y:=e1
   rw[fC u5,NQ ei ey]at Mp
   cases Mp
   obtain⟨m,hm,Vz⟩:=I.loc
   have ef2:=S.free (y,.free) (oU ef) rfl
   have vis:Vis X.env.scope y:=.inr ef2.2
   obtain⟨u,ru,lk⟩:=Vz i0 y v ey es vis
   refine⟨u,ru,?_⟩
   rcases lk with ⟨k1,_⟩ | ⟨_,c,ec,hc⟩
   ·rcases ef2.2 with z | z
    ·have z':X.env.kindOf y=some .cell:=z
     rw[k1]at z';cases z'
    ·have z':X.env.kindOf y=some .free:=z
     rw[k1]at z';cases z'
   ·refine .inr ⟨?_,c,(aAM y ef).trans ec,hc.keeps hk⟩
    rcases hv with z | z | z
    ·exfalso
     have z':(relabel scope X.env).names.lookup y=some .local:=z
     have:∀(names:List (Str×NameKind)),names.lookup y=some .free->(names.map λ(n,k)=>if (k==NameKind.free&&X.env.scope.kind == .function&&X.env.kindOf n==some .cell) then (n,NameKind.cell) else (n,k)).lookup y≠some .local:=by
      intro names
      induction names with
      | nil=>intro h;cases h
      | cons p r ih=>
       obtain⟨n,k⟩:=p
       intro h
       rw[eI]
       by_cases e:y=n
       ·subst e
        rw[mj,qj]at h
        cases h
        dsimp only
        split
        ·rw[mj,qj];exact λq=>nomatch q
        ·rw[mj,qj];exact λq=>nomatch q
       ·have hn:(y==n)=false:=by simpa using e
        rw[mj,hn]at h
        dsimp only
        split
        ·rw[mj,hn];exact ih h
        ·rw[mj,hn];exact ih h
     exact this scope.names ef z'
    ·exact .inl z
    ·exact .inr z
 ·
  obtain⟨v,q⟩:=I.cell x c (uh x c e)
  exact⟨v,q.keeps hk⟩
 ·
  show upd H D (.lst []) C=none
  rw[au (fz hDC)]
  exact I.bM.fresh hC
 ·
  have e':=uh x c e
  obtain⟨v,q⟩:=I.cell x c e'
  rw[au (bK (dS q.lt hD))]
  exact I.lU x c e'
 ·
  obtain⟨n,e⟩:=hl
  exact I.bM.laid hk hD ⟨dG _,[],n,.nil,e⟩
 ·show(List.replicate xs.length none++bZ σ idx).length=(xs++ck X.N idx).length
  rw[cw,cw,vG]
  unfold bZ ck
  rw[aM,aM]
end
section
variable {X:Cx}{elt target iter:Expr}{ifs:List Expr}{scope:Scope}{pos:Pos}{xs:List Str}{idx:List Nat}{wi:TI}{g:CB->TG}{tt:CB->TT}{te:CB->TE}
theorem Er{pins:List (Addr×Obj)}{σ:St}{H2:Hp}{s2:Shared}{fp:List Addr}{it:Addr}{tn:Nat->Heap->Prop}{J:It}{Q:V->Hp->Prop}{RR:Value->Addr->Result->Shared->Prop}{E:Value->Shared->Prop}(hc:X.calm=true)(S:wX X scope xs idx)
  (hg:∀c,PG (lV X scope (xs++ck X.N idx) c) target (g c)) (ht:∀c,BJ (lV X scope (xs++ck X.N idx) c) ifs (tt c)) (he:∀c,PE (lV X scope (xs++ck X.N idx) c) elt (te c))
  (I2:Inv X pins σ H2 s2) (T:Turn X.prog X.w X.K target J fp it tn) (Ry:tn 0 s2.heap) (f2:∀b∈fp,BM X pins H2 b)
  (h:∀D,H2 D=none->∃W:Nat->Nat->List V->Hp->Prop,(∃m,W 0 m [] (upd H2 D (.lst [])))/\
   ∀i m ys H',W i m ys H'->(J.stop i H'/\Q (.ref D) H')\/(J.go i H'/\∃N:List V->Hp->Prop,(∀qv tJ,N qv tJ->∃m',m'<m/\W (i+1) m' qv tJ)/\∀(c:CB) (own:St),own.length=xs.length->∀x H2,J.Kv i H' x H2->g c x (own++bZ σ idx) H2 λσ3 H3=>
    (∃dY,dY.length=xs.length/\σ3=dY++bZ σ idx)/\tt c σ3 H3 λb H4=>if b=true then te c σ3 H4 λy H5=>H5 D=some (.lst ys)/\ys.length<sizeLine/\N (ys++[y]) (upd H5 D (.lst (ys++[y]))) else N ys H4))
  (hRR:∀D C σ' H' s',s2.heap.objs.size<=C->Inv (lV X scope (xs++ck X.N idx) ⟨C,eU X.env scope.names [],s2,H2,fp⟩) [] σ' H' s'->Q (.ref D) H'->RR (.ref D) C (.ok .next) s') :
  wpAny (model X.prog X.w) X.A (newList []) (λacc s₃=>wpAny (model X.prog X.w) X.A (newFunctionEnv scope X.env.globals (eU X.env scope.names []) [] X.env.qual none .none (some X.env)) (λaBe s₄=>
   codeAny (model X.prog X.w) X.A (.compStart (.ListComp elt [⟨target,iter,ifs,0⟩] scope pos) 0 (.ref it) acc { aBe with scope:=relabel scope X.env }) (RR acc aBe.locals) s₄) E s₃) E s2:=by
 refine iH (wpAny_newFunctionEnv S.PB (by intro y hy;simp at hy) (λh₁ X1 Ui=>?_) S.kind)
 dsimp only at X1 Ui ⊢
 generalize hH2:s2.heap.push { cls:=.type "list",dict:=none,data:=.seq ([]:List Value).toArray }=HH at X1 Ui ⊢
 have hCs:HH.objs.size=s2.heap.objs.size+1:=by rw[<-hH2,rG]
 have hDC:s2.heap.objs.size≠HH.objs.size:=by rw[hCs];exact bK (FN _)
 have Yj:s2.heap.objs.size<=HH.objs.size:=by rw[hCs];exact iX _
 have old:∀b o,s2.heap.get? b=some o->h₁.get? b=some o:=λb o e=>Ui.extBut b o (by rw[hCs];exact bK (pH (aS e))) (cF _ (hH2 ▸ cF _ e))
 have Ei:∃n,h₁.get? s2.heap.objs.size=some { cls:=.type "list",data:=.seq #[] n }:=⟨_,Ui.extBut _ _ hDC (cF _ (hH2 ▸ dD _ rfl))⟩
 have st1:tn 0 h₁:=T.keep _ _ _ Ry λb _ o e=>old b o e
 obtain⟨W,⟨m0,w0⟩,turn⟩:=h s2.heap.objs.size I2.fresh
 have loop:∀s₃:Shared,s₃={ s2 with heap:=h₁,toks:=s2.toks+([]:List (Str×Value)).length }->
   codeAny (model X.prog X.w) X.A (.compLoop (.ListComp elt [⟨target,iter,ifs,0⟩] scope pos) 0 (.ref it) (.ref s2.heap.objs.size) (compEnvC scope (eU X.env scope.names []) HH.objs.size X.env)) (RR (.ref s2.heap.objs.size) HH.objs.size) s₃:=by
  rintro s₃ rfl
  have I3:=I2.block (t':=s2.toks+([]:List (Str×Value)).length) (H1:=H2) S f2 (λb hb=>let ⟨o,e,_⟩:=T.obj _ _ Ry b hb;⟨o,e⟩) Yj hDC (aU _) X1 old Ei
  generalize hY:lV X scope (xs++ck X.N idx) ⟨HH.objs.size,eU X.env scope.names [],s2,H2,fp⟩=Y at I3
  have eY:Y=lV X scope (xs++ck X.N idx) ⟨HH.objs.size,eU X.env scope.names [],s2,H2,fp⟩:=hY.symm
  have nof:∀b∈fp,b∉Y.fs:=λb hb z=>by
   rw[eY]at z
   rcases dR.mp (I2.vW b z) with q | q
   ·exact(f2 b hb).2.1 q
   ·exact(f2 b hb).2.2.1 q
  have stat:∀{H':Hp},(∀b∈fp,H' b=none)->∀b∈fp,BM Y [] H' b:=λ{H'} hn b hb=>by
   have lt:b<s2.heap.objs.size:=let ⟨o,e,_⟩:=T.obj _ _ Ry b hb;aS e
   refine⟨hn b hb,?_,nof b hb,.inl (by rw[eY];exact hb),λx c e=>?_,λp hp=>?_⟩
   ·rw[eY];exact bK (dS lt Yj)
   ·rw[eY]at e
    have lY:=tD (env:=X.env) scope.names [] (λy hy e=>I2.ok.has y.1 (S.free y hy e).2) (λp hp=>nomatch hp)
    exact(f2 b hb).2.2.2.2.1 x c (lY (x,c) (oU e))
   ·rw[eY]at hp;exact nomatch hp
  have T':Turn Y.prog Y.w Y.K target J fp it tn:=by rw[eY];exact T
  have hg':PG Y target (g ⟨HH.objs.size,eU X.env scope.names [],s2,H2,fp⟩):=by rw[eY];exact hg _
  have ht':BJ Y ifs (tt ⟨HH.objs.size,eU X.env scope.names [],s2,H2,fp⟩):=by rw[eY];exact ht _
  have he':PE Y elt (te ⟨HH.objs.size,eU X.env scope.names [],s2,H2,fp⟩):=by rw[eY];exact he _
  have hcY:Y.calm=true:=by rw[eY];exact hc
  have eA:Y.A=X.A:=by rw[eY]
  have eP:Y.prog=X.prog:=by rw[eY]
  have eW:Y.w=X.w:=by rw[eY]
  have eE:Y.env=compEnvC scope (eU X.env scope.names []) HH.objs.size X.env:=by rw[eY]
  have eX:Y.xe=λ_ _=>False:=by rw[eY]
  have fin:∀σ' H' s',Inv Y [] σ' H' s'->Q (.ref s2.heap.objs.size) H'->RR (.ref s2.heap.objs.size) HH.objs.size (.ok .next) s':=λσ' H' s' I' q=>hRR _ _ σ' H' s' Yj (by rw[<-eY];exact I') q
  rw[<-eE,<-eA,<-eP,<-eW]
  have fr0:∀b∈fp,(upd H2 s2.heap.objs.size (.lst [])) b=none:=λb hb=>by
   have lt:b<s2.heap.objs.size:=let ⟨o,e,_⟩:=T.obj _ _ Ry b hb;aS e
   rw[au (bK lt)];exact(f2 b hb).1
  refine nE (λn s'=>∃i ys own H',own.length=xs.length/\Inv Y [] (own++bZ σ idx) H' s'/\tn i s'.heap/\(∀b∈fp,H' b=none)/\W i n ys H') ?_ m0
   ⟨0,[],_,_,vG,I3,st1,fr0,w0⟩
  rintro n s4 ⟨i,ys,own,H4,aD7,I4,st4,fr4,w4⟩
  rcases turn i n ys H4 w4 with ⟨stop,qn⟩ | ⟨go,NN,hNN,step⟩
  ·exact dm (T'.done Y rfl rfl rfl hcY i [] s4 _ H4 _ I4 (stat fr4) st4 stop) λr s5 ⟨hr,I5⟩=>by subst hr;exact fin _ _ _ I5 qn
  ·refine dm (T'.item Y rfl rfl rfl hcY i [] s4 _ H4 _ I4 (stat fr4) st4 go) λr s5 ⟨u,hr,h5⟩=>?_
   subst hr
   refine dm h5 λ_ s6 ⟨x,H6,I6,r6,y6,st6,fr6⟩=>?_
   have I6':=I6.pinned (stat fr6) (T'.obj _ _ st6)
   have step':=step ⟨HH.objs.size,eU X.env scope.names [],s2,H2,fp⟩ own aD7 x H6 y6
   refine dq (hg' _ s6 _ H6 x u _ I6' r6 step') (λ_ s7 ⟨σ7,H7,I7,q7⟩=>?_) (λ_ _ z=>by rw[eX]at z;exact z)
   obtain⟨⟨aCK,ho7,e7⟩,q7⟩:=q7
   refine dq (ht' _ s7 σ7 H7 _ I7 q7) (λb s8 ⟨H8,I8,q8⟩=>?_) (λ_ _ z=>by rw[eX]at z;exact z)
   have again:∀{H9:Hp} {s9:Shared} {qv:List V},Inv Y ([]++wg fp s6.heap) σ7 H9 s9->NN qv H9->∃m,m<n/\∃i ys own H',own.length=xs.length/\Inv Y [] (own++bZ σ idx) H' s9/\tn i s9.heap/\(∀b∈fp,H' b=none)/\W i m ys H':=λ{H9 s9 qv} I9 n9=>by
    obtain⟨m',hm,w9⟩:=hNN _ _ n9
    rw[e7]at I9
    refine⟨m',hm,i+1,qv,aCK,H9,ho7,I9.qy,T'.keep _ _ _ st6 λb hb o e=>(I9.pin (b,o) (iI _ (iI _ (kY hb e)))).1,λb hb=>?_,w9⟩
    obtain⟨o,e,d⟩:=T'.obj _ _ st6 b hb
    exact(I9.pin (b,o) (iI _ (iI _ (kY hb e)))).2.1
   cases b with
   | false=>exact again I8 q8
   | true=>
    refine dq (he' _ s8 σ7 H8 _ I8 q8) (λu9 s9 ⟨y,H9,I9,r9,hy,hz,q9⟩=>?_) (λ_ _ z=>by rw[eX]at z;exact z)
    have ap:=cQ (X:=Y) _ s9 σ7 H9 (.ref s2.heap.objs.size) [y] (.ref s2.heap.objs.size) [u9] (λ_ Zu=>NN (ys++[y]) Zu) I9 rfl (.cons r9 .nil) ⟨_,ys,y,rfl,rfl,hy,hz,q9⟩
    refine dq ap (λ_ s10 ⟨_,Zu,I10,_,q10⟩=>again I10 q10) (λ_ _ z=>by rw[eX]at z;exact z)
 exact codeAny_compStart_list (loop _ rfl) (T.self _ 0 _ _ _ st1 (loop _ rfl))
theorem Te(hc:X.calm=true)(S:wX X scope xs idx)(hi:PI X target iter wi)
  (hg:∀c,PG (lV X scope (xs++ck X.N idx) c) target (g c)) (ht:∀c,BJ (lV X scope (xs++ck X.N idx) c) ifs (tt c)) (he:∀c,PE (lV X scope (xs++ck X.N idx) c) elt (te c))
  (hs:∀x,foldedSetIterable iter X.env x=pure x:=by intro _;rfl):PE X (.ListComp elt [⟨target,iter,ifs,0⟩] scope pos) (vT wi xs.length idx g tt te):=by
 intro pins s σ H Q I h
 rw[eval_ListComp]
 have Qw:closureFor scope X.env=pure (eU X.env scope.names []):=kr λy hy e=>I.ok.has y.1 (S.free y hy e).2
 refine wpAny_comprehension_free (use:=none) rfl hs Qw S.kind S.loc (dm (hi pins s σ H _ I h) λxv s₁ h₁=>dm h₁ λitv s₂ h₂=>?_)
 obtain⟨it,fp,tn,J,H2,e,I2,T,Ry,f2,hW⟩:=h₂
 subst e
 refine Er (Q:=Q) (RR:=λacc C=>compPost (model X.prog X.w) X.A X.xe none (EP X pins σ Q) acc C) hc S hg ht he I2 T Ry f2 hW ?_
 intro D C σ' H' s' hC I' q
 obtain⟨m',hn,_⟩:=I'.loc
 refine⟨m',hn,λh'' aAG=>?_⟩
 obtain⟨hh,gg,d,t,os⟩:=s'
 obtain rfl:os=s₂.os:=I'.os
 have Cn:s₂.heap.get? C=none:=sf hC
 refine⟨.ref D,H',I2.call (s:=s₂) (h':=h'') (g':=gg) (d':=d) (t':=t) (ch:=fp) (I'.base.but Cn aAG) (I'.bM.but I'.free aAG) I'.bare (λb hb=>?_),rfl,q⟩
 obtain⟨_,f1,_,f3,f4,f5⟩:=f2 b hb
 exact⟨f3,f1,f4,f5⟩
end
theorem Ir{lo:Int}{n k:Nat}{idx:List Nat}{g:CB->TG}{tt:CB->TT}{te:CB->TE}{σ:St}{Q:VK}{H1:Hp}{D:Addr}(Pv:Nat->List V->Hp->Prop)(h0:Pv 0 [] (upd H1 D (.lst [])))
  (hs:∀i ys H,i<n->Pv i ys H->∀(c:CB) (own:St),own.length=k->g c (.int (lo+i)) (own++bZ σ idx) H λσ3 H3=>
   (∃dY,dY.length=k/\σ3=dY++bZ σ idx)/\tt c σ3 H3 λb H4=>if b=true then te c σ3 H4 λy H5=>H5 D=some (.lst ys)/\ys.length<sizeLine/\Pv (i+1) (ys++[y]) (upd H5 D (.lst (ys++[y]))) else Pv (i+1) ys H4)
  (hd:∀ys H,Pv n ys H->Q (.ref D) H) :
  ∃W:Nat->Nat->List V->Hp->Prop,(∃m,W 0 m [] (upd H1 D (.lst [])))/\
   ∀i m ys H',W i m ys H'->((FG lo n).stop i H'/\Q (.ref D) H')\/((FG lo n).go i H'/\∃N:List V->Hp->Prop,(∀qv tJ,N qv tJ->∃m',m'<m/\W (i+1) m' qv tJ)/\∀(c:CB) (own:St),own.length=k->∀x H2,(FG lo n).Kv i H' x H2->g c x (own++bZ σ idx) H2 λσ3 H3=>
    (∃dY,dY.length=k/\σ3=dY++bZ σ idx)/\tt c σ3 H3 λb H4=>if b=true then te c σ3 H4 λy H5=>H5 D=some (.lst ys)/\ys.length<sizeLine/\N (ys++[y]) (upd H5 D (.lst (ys++[y]))) else N ys H4):=by
 refine⟨λi m ys H=>m=n-i/\i<=n/\Pv i ys H,⟨n,by simp,dG _,h0⟩,?_⟩
 rintro i m ys H ⟨rfl,hi,p⟩
 by_cases iQ:i<n
 ·refine .inr ⟨iQ,Pv (i+1),λqv H' p'=>⟨n-(i+1),by omega,rfl,iQ,p'⟩,λc own ho x H' y=>?_⟩
  obtain⟨e,y⟩:=y
  subst e y
  exact hs i ys _ iQ p c own ho
 ·have e:i=n:=by omega
  subst e
  exact .inl ⟨aU _,hd ys H p⟩
theorem Mx{K:PySem.W.Frag}{a:Addr}{zs:List V}{k:Nat}{idx:List Nat}{g:CB->TG}{tt:CB->TT}{te:CB->TE}{σ:St}{Q:VK}{H1:Hp}{D:Addr}(Pv:Nat->List V->Hp->Prop)(h0:Pv 0 [] (upd H1 D (.lst [])))
  (hl:∀i ys H,i<=zs.length->Pv i ys H->oQ K H a zs)
  (hs:∀i x ys H,zs[i]?=some x->Pv i ys H->∀(c:CB) (own:St),own.length=k->g c x (own++bZ σ idx) H λσ3 H3=>
   (∃dY,dY.length=k/\σ3=dY++bZ σ idx)/\tt c σ3 H3 λb H4=>if b=true then te c σ3 H4 λy H5=>H5 D=some (.lst ys)/\ys.length<sizeLine/\Pv (i+1) (ys++[y]) (upd H5 D (.lst (ys++[y]))) else Pv (i+1) ys H4)
  (hd:∀ys H,Pv zs.length ys H->Q (.ref D) H) :
  ∃W:Nat->Nat->List V->Hp->Prop,(∃m,W 0 m [] (upd H1 D (.lst [])))/\
   ∀i m ys H',W i m ys H'->((FH K a).stop i H'/\Q (.ref D) H')\/((FH K a).go i H'/\∃N:List V->Hp->Prop,(∀qv tJ,N qv tJ->∃m',m'<m/\W (i+1) m' qv tJ)/\∀(c:CB) (own:St),own.length=k->∀x H2,(FH K a).Kv i H' x H2->g c x (own++bZ σ idx) H2 λσ3 H3=>
    (∃dY,dY.length=k/\σ3=dY++bZ σ idx)/\tt c σ3 H3 λb H4=>if b=true then te c σ3 H4 λy H5=>H5 D=some (.lst ys)/\ys.length<sizeLine/\N (ys++[y]) (upd H5 D (.lst (ys++[y]))) else N ys H4):=by
 refine⟨λi m ys H=>m=zs.length-i/\i<=zs.length/\Pv i ys H,⟨zs.length,by simp,dG _,h0⟩,?_⟩
 rintro i m ys H ⟨rfl,hi,p⟩
 have q:=hl i ys H hi p
 by_cases iQ:i<zs.length
 ·refine .inr ⟨⟨zs,zs[i],q,by simp[iQ]⟩,Pv (i+1),λqv H' p'=>⟨zs.length-(i+1),by omega,rfl,iQ,p'⟩,λc own ho x H' y=>?_⟩
  obtain⟨e,y⟩:=y
  subst e
  exact hs i x ys _ (y zs q) p c own ho
 ·have e:i=zs.length:=by omega
  subst e
  exact .inl ⟨⟨zs,q,aU _⟩,hd ys H p⟩
theorem Tq{own:St}{k:St}{x:V}(h:own.length=1):(own++k).set 0 (some x)=[some x]++k:=by
 match own,h with
 | [_],_=>rfl
theorem Es{lo:Int}{n:Nat}{idx:List Nat}{tt:CB->TT}{te:CB->TE}{σ:St}{Q:VK}{H1:Hp}{D:Addr}(Pv:Nat->List V->Hp->Prop)(h0:Pv 0 [] (upd H1 D (.lst [])))
  (hs:∀i ys H,i<n->Pv i ys H->∀(c:CB),tt c (some (.int (lo+i))::bZ σ idx) H λb H4=>if b=true then te c (some (.int (lo+i))::bZ σ idx) H4 λy H5=>H5 D=some (.lst ys)/\ys.length<sizeLine/\Pv (i+1) (ys++[y]) (upd H5 D (.lst (ys++[y]))) else Pv (i+1) ys H4)
  (hd:∀ys H,Pv n ys H->Q (.ref D) H) :
  ∃W:Nat->Nat->List V->Hp->Prop,(∃m,W 0 m [] (upd H1 D (.lst [])))/\
   ∀i m ys H',W i m ys H'->((FG lo n).stop i H'/\Q (.ref D) H')\/((FG lo n).go i H'/\∃N:List V->Hp->Prop,(∀qv tJ,N qv tJ->∃m',m'<m/\W (i+1) m' qv tJ)/\∀(c:CB) (own:St),own.length=1->∀x H2,(FG lo n).Kv i H' x H2->cJ 0 x (own++bZ σ idx) H2 λσ3 H3=>
    (∃dY,dY.length=1/\σ3=dY++bZ σ idx)/\tt c σ3 H3 λb H4=>if b=true then te c σ3 H4 λy H5=>H5 D=some (.lst ys)/\ys.length<sizeLine/\N (ys++[y]) (upd H5 D (.lst (ys++[y]))) else N ys H4):=
 Ir (g:=λ_=>cJ 0) Pv h0 (λi ys H hi p c own ho=>by
  show(∃dY,dY.length=1/\(own++bZ σ idx).set 0 _=dY++bZ σ idx)/\tt c ((own++bZ σ idx).set 0 _) H _
  rw[Tq ho]
  exact⟨⟨[_],rfl,rfl⟩,hs i ys H hi p c⟩) hd
theorem Iv{K:PySem.W.Frag}{a:Addr}{zs:List V}{idx:List Nat}{tt:CB->TT}{te:CB->TE}{σ:St}{Q:VK}{H1:Hp}{D:Addr}(Pv:Nat->List V->Hp->Prop)(h0:Pv 0 [] (upd H1 D (.lst [])))
  (hl:∀i ys H,i<=zs.length->Pv i ys H->oQ K H a zs)
  (hs:∀i x ys H,zs[i]?=some x->Pv i ys H->∀(c:CB),tt c (some x::bZ σ idx) H λb H4=>if b=true then te c (some x::bZ σ idx) H4 λy H5=>H5 D=some (.lst ys)/\ys.length<sizeLine/\Pv (i+1) (ys++[y]) (upd H5 D (.lst (ys++[y]))) else Pv (i+1) ys H4)
  (hd:∀ys H,Pv zs.length ys H->Q (.ref D) H) :
  ∃W:Nat->Nat->List V->Hp->Prop,(∃m,W 0 m [] (upd H1 D (.lst [])))/\
   ∀i m ys H',W i m ys H'->((FH K a).stop i H'/\Q (.ref D) H')\/((FH K a).go i H'/\∃N:List V->Hp->Prop,(∀qv tJ,N qv tJ->∃m',m'<m/\W (i+1) m' qv tJ)/\∀(c:CB) (own:St),own.length=1->∀x H2,(FH K a).Kv i H' x H2->cJ 0 x (own++bZ σ idx) H2 λσ3 H3=>
    (∃dY,dY.length=1/\σ3=dY++bZ σ idx)/\tt c σ3 H3 λb H4=>if b=true then te c σ3 H4 λy H5=>H5 D=some (.lst ys)/\ys.length<sizeLine/\N (ys++[y]) (upd H5 D (.lst (ys++[y]))) else N ys H4):=
 Mx (g:=λ_=>cJ 0) Pv h0 hl (λi x ys H hi p c own ho=>by
  show(∃dY,dY.length=1/\(own++bZ σ idx).set 0 _=dY++bZ σ idx)/\tt c ((own++bZ σ idx).set 0 _) H _
  rw[Tq ho]
  exact⟨⟨[_],rfl,rfl⟩,hs i x ys H hi p c⟩) hd
def sX(z:Str)(lo hi:Option Int):Str:=⟨((z.cps.toList.drop (HT.cK z.length 0 lo)).take (HT.cK z.length z.length hi-HT.cK z.length 0 lo)).toArray⟩
theorem vV(lo hi:Option Int)(n:Nat):Builtin.Str.strSliceIndices lo hi 1 n=sliceRange ((HT.cK n 0 lo:Nat):Int) ((HT.cK n n hi:Nat):Int) 1:=by
 obtain⟨h1,h2,h3⟩:=qC lo hi n
 rw[<-h1,<-h2]
 cases lo <;> cases hi <;> simp[Builtin.Str.strSliceIndices,sliceBounds]
theorem uR{a b:Str}(h:a.cps.toList=b.cps.toList):a=b:=by
 obtain⟨x⟩:=a;obtain⟨y⟩:=b
 have:x=y:=Array.toList_inj.mp h
 rw[this]
theorem xI(x:Str)(lo hi:Option Int):Txt.slice x lo hi=sX x lo hi:=by
 have hl:x.cps.toList.length=x.length:=by simp[Str.length]
 have e:(Builtin.Str.strSliceIndices lo hi 1 x.length).filterMap (x.cps[·]?)=(x.cps.toList.drop (HT.cK x.length 0 lo)).take (HT.cK x.length x.length hi-HT.cK x.length 0 lo):=by
  rw[vV,sliceRange_one,pick_run]
 have el:(Builtin.Str.strSliceIndices lo hi 1 x.length).length=HT.cK x.length x.length hi-HT.cK x.length 0 lo:=by
  rw[vV,sliceRange_one,aM,List.length_range]
 unfold Txt.slice
 rw[e,el]
 have hj:HT.cK x.length x.length hi<=x.length:=HT.Od _ _ (aU _) hi
 by_cases h:HT.cK x.length x.length hi-HT.cK x.length 0 lo=x.length
 ·have hb:((1:Int)==1&&HT.cK x.length x.length hi-HT.cK x.length 0 lo==x.length)=true:=by rw[h];simp
  rw[aB hb]
  refine uR ?_
  unfold sX
  by_cases hx:x.length=0
  ·have e0:x.cps.toList=[]:=Nj (by lia)
   rw[e0];simp
  ·have h0:HT.cK x.length 0 lo=0:=by lia
   rw[h,h0,vx,<-hl,fu]
 ·have hb:¬((1:Int)==1&&HT.cK x.length x.length hi-HT.cK x.length 0 lo==x.length)=true:=by simpa using h
  rw[aA hb]
  rfl
theorem wG{v:Value}{o:Option Int}(h:IsPart v o):∃p:Option (Int×Tok),v=partValue p/\p.map (·.1)=o:=by
 cases h with
 | none=>exact⟨none,rfl,rfl⟩
 | int i t=>exact⟨some (i,t),rfl,rfl⟩
theorem cS{n:Nat}(h:n<=1000):n<=sizeLine:=jb (vD h (by decide))
section
variable {X:Cx}
def Hf:V->Option Int->Option Int->Hp->VK->Prop:=λx lo hi H Q=>∃z,x=.str z/\z.length<=sizeLine/\Q (.str (sX z lo hi)) H
theorem z6:RW X Hf:=by
 intro pins s σ H x v vl vu lo hi sl Q I rx hs pl pu h
 obtain⟨z,rfl,hz,q⟩:=h
 obtain⟨t,rfl⟩:=rx
 obtain⟨pl',rfl,el⟩:=wG pl
 obtain⟨pu',rfl,eu⟩:=wG pu
 refine⟨"str",_,F.slot_str_getitem.lookup,typeIs_str _ _ _,wpAny_getItem_str_slice (l:=pl') (u:=pu') (st:=none) hs rfl ?_⟩
 unfold sliceMade slicePicked
 rw[el,eu]
 refine post_val_or_str ⟨?_,λt' k=>?_⟩
 ·exact df (Txt.slice_le z lo hi) hz
 ·exact⟨.str (sX z lo hi),H,I.tok _,⟨t',by rw[<-xI];rfl⟩,q⟩
def R6(K:PySem.W.Frag)(te ts:TE):TE:=λσ H Q=>te σ H λx H1=>ts σ H1 λy H2=>∃a xs,x=.ref a/\y=.int (-1)/\oQ K H2 a xs/\∀p,H2 p=none->Q (.ref p) (upd H2 p (.lst xs.reverse))
theorem R9{ss:List Str}:∀{us:List Value},Vals (ss.map V.str) us->∃l:List (Str×Tok),us=strValues l/\l.map (·.1)=ss:=by
 induction ss with
 | nil=>intro us r;cases r;exact⟨[],rfl,rfl⟩
 | cons z ss ih=>
  intro us r
  rw[eI]at r
  cases r with
  | cons r1 r2=>
   obtain⟨t,rfl⟩:=r1
   obtain⟨l,rfl,e⟩:=ih r2
   exact⟨(z,t)::l,rfl,by rw[eI,e]⟩
def rJoin(K:PySem.W.Frag):V->List V->Hp->VK->Prop:=λx vs H Q=>∃sep a ss,x=.str sep/\vs=[.ref a]/\oQ K H a (ss.map V.str)/\JoinOk sep ss=true/\Q (.str (Txt.join sep ss)) H
theorem T3:V8 X "str.join" (rJoin X.K):=by
 intro pins s σ H x vs v us Q I rx rv h
 obtain⟨sep,a,ss,rfl,rfl,hq,bM,q⟩:=h
 obtain⟨t,rfl⟩:=rx
 obtain⟨u,rfl,ru⟩:=rv.one
 cases ru
 obtain⟨its,r,pl,hz⟩:=I.list hq
 obtain⟨l,rfl,e⟩:=R9 r
 exact SC.join pl.isList e bM λt' k=>⟨.str (Txt.join sep ss),H,I.tok _,⟨t',rfl⟩,q⟩
theorem pM{ss:List Str}:∀{us:List Value},Vals (ss.map V.str) us->StrsAre us ss:=by
 induction ss with
 | nil=>intro us r;cases r;exact .nil
 | cons z ss ih=>
  intro us r
  rw[eI]at r
  cases r with
  | cons r1 r2=>obtain⟨t,rfl⟩:=r1;exact .cons z t (ih r2)
theorem oA:∀{us:List Value} {ss:List Str},StrsAre us ss->Vals (ss.map V.str) us
 | _,_,.nil=>.nil
 | _,_,.cons x t r=>.cons ⟨t,rfl⟩ (oA r)
def Ss(K:PySem.W.Frag):List V->Hp->VK->Prop:=λvs H Q=>∃a ss,vs=[.ref a]/\oQ K H a (ss.map V.str)/\ss.length<64/\
 ∀ss':List Str,ss'.Perm ss->sortedS ss'=true->∀p,H p=none->Q (.ref p) (upd H p (.lst (ss'.map V.str)))
theorem Ez:dy X (.builtin "sorted") (Ss X.K):=by
 intro pins s σ H vs us Q I rv h
 obtain⟨a,ss,rfl,hq,QG,q⟩:=h
 obtain⟨u,rfl,ru⟩:=vals1 rv
 cases ru
 obtain⟨its,r,pl,hz⟩:=I.list hq
 have hl:=r.length
 rw[aM]at hl
 refine sorted_strs pl.isList (pM r) (by lia) λout ss' h1 h2 h3=>?_
 obtain⟨c,hc⟩:=sortedAll_at s.heap its out
 have o6:(sortedAll s.heap its out).get? (s.heap.objs.size+1)=some { cls:=.type "list",data:=.seq out.toList.toArray c }:=hc
 have hn:H (s.heap.objs.size+1)=none:=I.bM.fresh (iX _)
 refine⟨.ref (s.heap.objs.size+1),_,I.laid (t':=s.toks) (o:=.lst (ss'.map V.str)) (λb ob e=>sortedAll_old e) (iX _) ?_,rfl,q ss' h2 h3 _ hn⟩
 have hlen:ss'.length=ss.length:=h2.length_eq
 exact⟨by rw[aM,hlen];exact cS (by lia),out.toList,c,oA h1,o6⟩
def aA3(xs ys:List V):Bool:=xs.length==ys.length&&(List.range xs.length).all λj=>J' (xs.getD j .non) (ys.getD j .non)
def uT:V->List V->Hp->VK->Prop:=λx vs H Q=>∃a kvs,x=.ref a/\vs=[]/\H a=some (.dK kvs)/\Q .non (upd H a (.dK []))
theorem IV:dy X (.type "dict") (λvs H Q=>∃a kvs,vs=[.ref a]/\H a=some (.dK kvs)/\∀p,H p=none->Q (.ref p) (upd H p (.dK kvs))):=by
 intro pins s σ H vs us Q I rv h
 obtain⟨a,kvs,rfl,hq,q⟩:=h
 obtain⟨u,rfl,ru⟩:=vals1 rv
 cases ru
 exact QZ I (.inl hq) λp s' hp I'=>⟨.ref p,_,I',rfl,q p hp⟩
end
section
variable {X:Cx}{elt target iter:Expr}{ifs:List Expr}{scope:Scope}{pos spos py:Pos}{xs:List Str}{idx:List Nat}{wi:TI}{g:CB->TG}{tt:CB->TT}{te:CB->TE}
theorem S6{i:Nat}{y:Str}(hN:X.N.Nodup)(hi0:X.N[i]?=some y)(hy:X.env.scope.names.lookup y=some .local)(hc:X.calm=true)(S:wX X scope xs idx)(hi:PI X target iter wi)
  (hg:∀c,PG (lV X scope (xs++ck X.N idx) c) target (g c)) (ht:∀c,BJ (lV X scope (xs++ck X.N idx) c) ifs (tt c)) (he:∀c,PE (lV X scope (xs++ck X.N idx) c) elt (te c))
  (hsw:swapsWith (.ListComp elt [⟨target,iter,ifs,0⟩] scope pos) (some (.Name y py)) spos.line X.env=pure true:=by rfl)
  (hs:∀x,foldedSetIterable iter X.env x=pure x:=by intro _;rfl):PS X (.Assign [.Name y py] (.ListComp elt [⟨target,iter,ifs,0⟩] scope pos) spos) (qB (vT wi xs.length idx g tt te) (cJ i)):=by
 intro pins s σ H D I h
 have Qw:closureFor scope X.env=pure (eU X.env scope.names []):=kr λy hy e=>I.ok.has y.1 (S.free y hy e).2
 rw[exec_Assign_Name_used _ _ _ _ hsw]
 refine az (rF (az ?_))
 show wpAny _ X.A (do let _ <-comprehension (.ListComp elt [⟨target,iter,ifs,0⟩] scope pos) scope X.env _ (newList []) false (eval iter X.env) (some (assign (.Name y py) X.env))) _ _ s
 refine az (dq (wpAny_comprehension_free (use:=some (assign (.Name y py) X.env)) (Q:=λ_ s'=>SP X pins D .next s') rfl hs Qw S.kind S.loc
  (dm (hi pins s σ H _ I h) λxv s₁ h₁=>dm h₁ λitv s₂ h₂=>?_)) (λ_ s' hq=>aK (aK hq)) λ_ _ e=>e)
 obtain⟨it,fp,tn,J,H2,e,I2,T,Ry,f2,hW⟩:=h₂
 subst e
 refine Er (Q:=λv H'=>cJ i v σ H' D.nx) (RR:=λacc C=>compPost (model X.prog X.w) X.A X.xe (some (assign (.Name y py) X.env)) (λ_ s'=>SP X pins D .next s') acc C) hc S hg ht he I2 T Ry f2 hW ?_
 intro DD C σ' H' s' hC I' q
 show wpAny _ X.A (assign (.Name y py) X.env (.ref DD)) _ _ _
 obtain⟨hh,gg,d,t,os⟩:=s'
 obtain rfl:os=s₂.os:=I'.os
 have Cn:s₂.heap.get? C=none:=sf hC
 have I3:Inv X pins σ H' { s₂ with heap:=hh,gens:=gg,drawn:=d,toks:=t }:=I2.call (s:=s₂) (h':=hh) (g':=gg) (d':=d) (t':=t) (ch:=fp) (I'.base.but Cn (Heap.SameBut.refl _ _)) I'.bM I'.bare (λb hb=>by
  obtain⟨_,f1,_,f3,f4,f5⟩:=f2 b hb
  exact⟨f3,f1,f4,f5⟩)
 obtain⟨m',hn,_⟩:=I'.loc
 have hLC:X.env.locals≠C:=bK (dS I2.lt hC)
 refine wpAny_assign_Name (yb I3 hN hi0 (.inl hy) (v:=.ref DD) rfl (λFu I4 ⟨a,hs4,ha⟩=>?_) (.inr hy))
 have haC:C≠a:=by
  rcases ha with e | e
  ·rw[e];exact fz hLC
  ·obtain⟨v,q⟩:=I2.cell y a e
   exact kI (dS q.lt hC)
 refine⟨m',hn.sameBut hs4 haC,λh3 hs3=>?_⟩
 obtain⟨hh4,gg4,d4,t4,os4⟩:=Fu
 have I5:Inv X pins (σ.set i (some (.ref DD))) H' { heap:=h3,gens:=gg4,drawn:=d4,toks:=t4,os:=os4 }:=
  I4.turned (s:={ heap:=hh4,gens:=gg4,drawn:=d4,toks:=t4,os:=os4 }) (h':=h3) (t':=t4) (it:=C) (λb o hb e=>(hs3.2 b hb).trans e) I'.free (fz hLC) (.inr (df I2.sz hC)) (λx c e z=>by
   obtain⟨v,q⟩:=I2.cell x c e
   exact absurd (dS q.lt hC) (by rw[z];exact j0 _)) (λp hp z=>by
   have:=(I2.pin p hp).1
   rw[z,Cn]at this;cases this)
 exact⟨_,H',I5,q⟩
end
def Mv(jZ:Scope)(N:List Str)(scope:Scope)(idx:List Nat):Bool:=
 scope.kind == .function&&scope.names.all (λy=>y.2 != .cell)&&scope.names.all (λy=>y.2 != .local||scope.names.lookup y.1==some .local) &&
 scope.names.all (λy=>y.2 != .free||(scope.names.lookup y.1==some .free&&(jZ.names.lookup y.1==some .cell||jZ.names.lookup y.1==some .free))) &&
 idx.all (λi=>match N[i]? with | some y=>scope.names.lookup y==some .free | none=>false)
theorem yG{X:Cx}{scope:Scope}{xs:List Str}{idx:List Nat}{jZ:Scope}{N:List Str}(h:Mv jZ N scope idx=true)(e1:X.env.scope=jZ:=by rfl)(e2:X.N=N:=by rfl):wX X scope xs idx:=by
 unfold Mv at h
 simp only[dh]at h
 refine hide λgG hG=>?_
 obtain⟨⟨⟨⟨h1,h2⟩,h3⟩,h4⟩,h5⟩:=h
 refine hG ?_
 refine⟨by simpa using h1,λy hy e=>?_,λy hy e=>?_,λy hy e=>?_,λi hi=>?_⟩
 ·have:=jC.mp h2 y hy
  rw[e]at this;exact absurd this (by decide)
 ·have:=jC.mp h3 y hy
  rw[e]at this;simpa using this
 ·have:=jC.mp h4 y hy
  rw[e]at this
  have t:(scope.names.lookup y.1==some NameKind.free&&(jZ.names.lookup y.1==some .cell||jZ.names.lookup y.1==some .free))=true:=by simpa using this
  rw[dh,rO]at t
  refine⟨by simpa using t.1,?_⟩
  show X.env.scope.names.lookup y.1=_\/X.env.scope.names.lookup y.1=_
  rw[e1]
  exact t.2.imp (by simp) (by simp)
 ·have:=jC.mp h5 i hi
  rw[e2]
  cases e:N[i]? with
  | none=>rw[e]at this;cases this
  | some y=>rw[e]at this;exact⟨y,rfl,by simpa using this⟩
theorem y0{α:Type}(a:α)(xs:List α):uM (a::xs) 0=some a:=fH (j:=0) rfl
theorem yZ{α:Type}(a b:α)(xs:List α):uM (a::b::xs) 1=some b:=fH (j:=1) rfl
theorem yX{α:Type}(a b c:α)(xs:List α):uM (a::b::c::xs) 2=some c:=fH (j:=2) rfl
theorem yW{α:Type}(a b c d:α)(xs:List α):uM (a::b::c::d::xs) 3=some d:=fH (j:=3) rfl
theorem yV{α:Type}(a b c d e:α)(xs:List α):uM (a::b::c::d::e::xs) 4=some e:=fH (j:=4) rfl
theorem yU{α:Type}(a b c d e f:α)(xs:List α):uM (a::b::c::d::e::f::xs) 5=some f:=fH (j:=5) rfl
theorem sN:L7 6 1=some 1:=rfl
theorem sM:L7 6 2=some 2:=rfl
theorem sJ:L7 6 3=some 3:=rfl
theorem sI:L7 6 4=some 4:=rfl
theorem sH:L7 6 5=some 5:=rfl
theorem Kf(i:Int):lJ i 48271/\lJ i 40693/\lJ i 3/\lJ i 4294967296:=⟨.inr ⟨by decide,by decide⟩,.inr ⟨by decide,by decide⟩,.inr ⟨by decide,by decide⟩,.inr ⟨by decide,by decide⟩⟩
theorem yK(i:Int):lJ i 48271:=(Kf i).1
theorem yJ(i:Int):lJ i 40693:=(Kf i).2.1
theorem yI(i:Int):lJ i 3:=(Kf i).2.2.1
theorem yH(i:Int):lJ i 4294967296:=(Kf i).2.2.2
theorem Kg(i:Int):lJ 5 i/\lJ 3 i/\lJ 7 i/\lJ 10 i:=⟨.inl ⟨by decide,by decide⟩,.inl ⟨by decide,by decide⟩,.inl ⟨by decide,by decide⟩,.inl ⟨by decide,by decide⟩⟩
theorem tu(i:Int):lJ 5 i:=(Kg i).1
theorem tq(i:Int):lJ 3 i:=(Kg i).2.1
theorem tj(i:Int):lJ 7 i:=(Kg i).2.2.1
theorem tf(i:Int):lJ 10 i:=(Kg i).2.2.2
theorem sY:aBK 10 18:=⟨by decide,by decide,by decide⟩
def Wj(t u:TS):TS:=λD σ H=>∃N:St->Hp->Prop,t { D with nx:=N } σ H/\∀σ' H',N σ' H'->u D σ' H'
theorem SQ{X:Cx}{st:Stmt}{rest:List Stmt}{t u:TS}(h1:PS X st t)(h2:BG X rest u):BG X (st::rest) (Wj t u):=by
 intro pins s σ H D I ⟨N,hn,hu⟩
 refine wpAny_execs_cons (dm (h1 pins s σ H { D with nx:=N } I hn) λf s1 q=>?_)
 cases f with
 | next=>
  refine hide λgG hG=>?_
  obtain⟨σ',H',I',q⟩:=q
  refine hG ?_
  exact h2 pins s1 σ' H' D I' (hu σ' H' q)
 | ret v=>exact q
 | brk=>exact q
 | cont=>exact q
theorem Rj{ns:List Int}{k:Int}(h0:0<=k)(h:k<(ns.length:Int)):∃v:Int,uM (ns.map V.int) k=some (.int v):=by
 have hk:k.toNat<ns.length:=by lia
 have ek:k=((k.toNat:Nat):Int):=by lia
 have q:uM (ns.map V.int) ((k.toNat:Nat):Int)=some (.int ns[k.toNat]):=fH (by rw[cR,bD hk] <;> rfl)
 rw[<-ek]at q
 exact⟨_,q⟩
theorem Yw{α:Type}{xs:List α}{k:Int}(h0:0<=k)(h:k<(xs.length:Int)):∃v,uM xs k=some v/\xs[k.toNat]?=some v:=by
 have hk:k.toNat<xs.length:=by lia
 have ek:k=((k.toNat:Nat):Int):=by lia
 have q:uM xs ((k.toNat:Nat):Int)=some xs[k.toNat]:=fH (bD hk)
 rw[<-ek]at q
 exact⟨_,q,bD hk⟩
section
variable {X:Cx}
theorem kF.imp{f:Value->Value->Sem Value}{r r':R2}(h:kF X f r)(i:∀x y H Q,r' x y H Q->r x y H Q):kF X f r':=λpins s σ H x y v u Q I rx ry q=>h pins s σ H x y v u Q I rx ry (i _ _ _ _ q)
theorem Rr.imp{r r':R2}(h:Rr X r)(i:∀x y H Q,r' x y H Q->r x y H Q):Rr X r':=λvalue slice pins s σ H x y v u Q I rx ry q hs=>h value slice pins s σ H x y v u Q I rx ry (i _ _ _ _ q) hs
theorem dy.imp{f:Value}{r r':List V->Hp->VK->Prop}(h:dy X f r)(i:∀x H Q,r' x H Q->r x H Q):dy X f r':=λpins s σ H vs us Q I rv q=>h pins s σ H vs us Q I rv (i _ _ _ q)
theorem V8.imp{id:String}{r r':V->List V->Hp->VK->Prop}(h:V8 X id r)(i:∀x xs H Q,r' x xs H Q->r x xs H Q):V8 X id r':=λpins s σ H x xs v us Q I rx rv q=>h pins s σ H x xs v us Q I rx rv (i _ _ _ _ q)
theorem RW.imp{r r':V->Option Int->Option Int->Hp->VK->Prop}(h:RW X r)(i:∀x lo hi H Q,r' x lo hi H Q->r x lo hi H Q):RW X r':=λpins s σ H x v vl vu lo hi sl Q I rx hs pl pu q=>h pins s σ H x v vl vu lo hi sl Q I rx hs pl pu (i _ _ _ _ _ q)
theorem aP{K:PySem.W.Frag}{H:Hp}{a:Addr}{xs:List V}(h:H a=some (.lst xs)):oQ K H a xs:=oQ.of h
theorem bC{K:PySem.W.Frag}{H:Hp}{a:Addr}{xs:List V}(h:H a=some (.tup xs)):xJ K H a xs:=xJ.of h
def Dc:R2:=λx y H Q=>∃p i,x=.ref p/\y=.int i/\∃xs,H p=some (.lst xs)/\∃v,uM xs i=some v/\Q v H
theorem jk:Rr X Dc:=Ue.imp λx y H Q ⟨p,i,e1,e2,xs,h,v,e3,q⟩=>⟨p,xs,i,v,e1,e2,aP h,e3,q⟩
def CW:R2:=λx y H Q=>∃p i,x=.ref p/\y=.int i/\∃xs,H p=some (.tup xs)/\∃v,uM xs i=some v/\Q v H
theorem lX:Rr X CW:=Xy.imp λx y H Q ⟨p,i,e1,e2,xs,h,v,e3,q⟩=>⟨p,xs,i,v,e1,e2,bC h,e3,q⟩
def CZ:R2:=λx y H Q=>∃z i,x=.str z/\y=.int i/\z.length<=sizeLine/\∃c,uM z.cps.toList i=some c/\Q (.str ⟨#[c]⟩) H
theorem aAB:Rr X CZ:=Xz.imp λx y H Q ⟨z,i,e1,e2,hz,c,e3,q⟩=>⟨z,i,c,e1,e2,hz,e3,q⟩
def Hj:V->Option Int->Option Int->Hp->VK->Prop:=λx lo hi H Q=>∃a,x=.ref a/\∃xs,H a=some (.lst xs)/\∀p,H p=none->Q (.ref p) (upd H p (.lst (jy xs lo hi)))
theorem ZK:RW X Hj:=Jm.imp λx lo hi H Q ⟨a,e,xs,h,q⟩=>⟨a,xs,e,aP h,q⟩
def Hi:V->Option Int->Option Int->Hp->VK->Prop:=λx lo hi H Q=>∃a,x=.ref a/\∃xs,H a=some (.tup xs)/\¬(HT.cK xs.length 0 lo=0/\HT.cK xs.length xs.length hi=xs.length)/\∀p,H p=none->Q (.ref p) (upd H p (.tup (jy xs lo hi)))
theorem Sj:RW X Hi:=Ws.imp λx lo hi H Q ⟨a,e,xs,h,n,q⟩=>⟨a,xs,e,bC h,n,q⟩
def v5:List V->Hp->VK->Prop:=λvs H Q=>∃p,vs=[.ref p]/\∃xs,H p=some (.lst xs)/\Q (.int xs.length) H
theorem gS:dy X (.builtin "len") v5:=qZ.imp λx H Q ⟨p,e,xs,h,q⟩=>⟨p,xs,e,.inl (aP h),q⟩
def v3:List V->Hp->VK->Prop:=λvs H Q=>∃p,vs=[.ref p]/\∃xs,H p=some (.tup xs)/\Q (.int xs.length) H
theorem yN:dy X (.builtin "len") v3:=qZ.imp λx H Q ⟨p,e,xs,h,q⟩=>⟨p,xs,e,.inr (bC h),q⟩
def pQ:List V->Hp->VK->Prop:=λvs H Q=>∃p,vs=[.ref p]/\∃xs,H p=some (.lst xs)/\∀l,H l=none->Q (.ref l) (upd H l (.lst xs))
theorem IK:dy X (.type "list") pQ:=qY.imp λx H Q ⟨p,e,xs,h,q⟩=>⟨p,xs,e,.inl (aP h),q⟩
def pP:List V->Hp->VK->Prop:=λvs H Q=>∃p,vs=[.ref p]/\∃xs,H p=some (.tup xs)/\∀l,H l=none->Q (.ref l) (upd H l (.lst xs))
theorem Iz:dy X (.type "list") pP:=qY.imp λx H Q ⟨p,e,xs,h,q⟩=>⟨p,xs,e,.inr (bC h),q⟩
def kW:List V->Hp->VK->Prop:=λvs H Q=>∃p,vs=[.ref p]/\∃xs,H p=some (.lst xs)/\∀l,H l=none->Q (.ref l) (upd H l (.tup xs))
theorem jL:dy X (.type "tuple") kW:=xC.imp λx H Q ⟨p,e,xs,h,q⟩=>⟨p,xs,e,.inl ⟨aP h,q⟩⟩
def sk:List V->Hp->VK->Prop:=λvs H Q=>∃a,vs=[.ref a]/\∃kvs,H a=some (.dK kvs)/\∀p,H p=none->Q (.ref p) (upd H p (.lst (kvs.map λkv=>kV kv.1)))
def pS:List V->Hp->VK->Prop:=λvs H Q=>∃a,vs=[.ref a]/\∃kvs,H a=some (.dK kvs)/\∀p,H p=none->Q (.ref p) (upd H p (.dK kvs))
theorem ur:dy X (.type "dict") pS:=IV.imp λx H Q ⟨p,e,xs,h,q⟩=>⟨p,xs,e,h,q⟩
def kX:List V->Hp->VK->Prop:=λvs H Q=>∃a,vs=[.ref a]/\∃ss:List Str,H a=some (.lst (ss.map V.str))/\ss.length<64/\
 ∀ss':List Str,ss'.Perm ss->sortedS ss'=true->∀p,H p=none->Q (.ref p) (upd H p (.lst (ss'.map V.str)))
theorem lC:dy X (.builtin "sorted") kX:=Ez.imp λx H Q ⟨p,e,ss,h,n,q⟩=>⟨p,ss,e,aP h,n,q⟩
def v7:V->List V->Hp->VK->Prop:=λx vs H Q=>∃sep a,x=.str sep/\vs=[.ref a]/\∃ss:List Str,H a=some (.lst (ss.map V.str))/\JoinOk sep ss=true/\Q (.str (Txt.join sep ss)) H
theorem PX:V8 X "str.join" v7:=T3.imp λx vs H Q ⟨sep,a,e1,e2,ss,h,n,q⟩=>⟨sep,a,ss,e1,e2,aP h,n,q⟩
def Al(neg:Bool):R2:=λx y H Q=>∃p,y=.ref p/\∃xs,H p=some (.lst xs)/\iK x=true/\xs.all iK=true/\Q (.bl (if neg then !Vt x xs else Vt x xs)) H
theorem Xf:kF X (compareOp .In) (Al false):=Lg.imp λx y H Q ⟨p,e,xs,h,f1,f2,q⟩=>⟨p,xs,e,.inl (aP h),f1,f2,q⟩
theorem yq:kF X (compareOp .NotIn) (Al true):=Aq.imp λx y H Q ⟨p,e,xs,h,f1,f2,q⟩=>⟨p,xs,e,.inl (aP h),f1,f2,q⟩
def K8(neg:Bool):R2:=λx y H Q=>∃p,y=.ref p/\∃xs,H p=some (.tup xs)/\iK x=true/\xs.all iK=true/\Q (.bl (if neg then !Vt x xs else Vt x xs)) H
def K9(neg:Bool):R2:=λx y H Q=>∃a b,x=.ref a/\y=.ref b/\∃xs,H a=some (.lst xs)/\∃ys,H b=some (.lst ys)/\xs.all iK=true/\ys.all iK=true/\Q (.bl (if neg then !aA3 xs ys else aA3 xs ys)) H
def K7(K:PySem.W.Frag):List V->Hp->VK->Prop:=λvs H Q=>∃x n,vs=[x,.ty n]/\∃t,uN K H x t/\∃b,PySem.W.kitOne K t (.type n)=some b/\Q (.bl b) H
def Hk:V->V->V->Hp->(Hp->Prop)->Prop:=λo i v H Q=>∃p k,o=.ref p/\i=.int k/\∃xs,H p=some (.lst xs)/\∃j,L7 xs.length k=some j/\Q (upd H p (.lst (xs.set j v)))
theorem qG:M3 X Hk:=λpins s σ H o i v ov iv u Q I ro ri rv ⟨p,k,e1,e2,xs,h,j,hj,q⟩=>set_list pins s σ H o i v ov iv u Q I ro ri rv ⟨p,xs,k,j,e1,e2,h,hj,q⟩
theorem VL:YC X (λo i H Q=>Dc o i H Q):=by
 intro pins s σ H o i ov iv Q I ro ri h
 refine hide λgG hG=>?_
 obtain⟨p,i,rfl,rfl,xs,hp,z,he,q⟩:=h
 refine hG ?_
 cases ro
 refine hide λgG hG=>?_
 obtain⟨t,rfl⟩:=ri
 obtain⟨its,r,pl,hz⟩:=I.list (aP hp)
 obtain⟨j,h1,h2,h3,h4,h5⟩:=vg he
 obtain⟨w,ew,Oh⟩:=r.get h2
 refine hG ?_
 have hl:=r.length
 have hn:=sG
 have fin:EP X pins σ Q w s:=⟨z,H,I,Oh,q⟩
 by_cases h0:0<=i
 ·have hj:i.toNat=j:=by
   rw[seqIndex_of h0 h5]at h1
   exact cv h1
  exact wpAny_getItem_list pl.isList h0 (by lia) (by rw[hj];simpa using ew) fin
 ·have hj:(i+(its.toArray.size:Int)).toNat=j:=by
   rw[seqIndex_neg (by lia) h4]at h1
   rw[cZ,<-hl]
   exact cv h1
  exact wpAny_getItem_list_neg pl.isList (by lia) (by rw[cZ] <;> lia) (by lia) (by rw[hj];simpa using ew) fin
end
end L2
namespace L2
open PySem PySem.Spec PyProof.Rows
def mG:Expr->Option Str
 | .Constant (.str x) _ _=>some x
 | _=>none
def GK(es:List Expr):List Str:=es.filterMap mG
def NK(es:List Expr):TA:=λ_ H Q=>Q ((GK es).map V.str) H
theorem Wg{e:Expr}(h:(mG e).isSome=true):∃x j p,e=.Constant (.str x) j p:=by
 cases e with
 | Constant v j p=>
  cases v with
  | str x=>exact⟨x,j,p,rfl⟩
  | _=>exact Bool.noConfusion h
 | _=>exact Bool.noConfusion h
theorem Fv{α:Type}{C:List α->Prop}(h:∀a,C [a]):∀us:List α,us.length=1->C us
 | [a],_=>h a
theorem of2{α:Type}{C:List α->Prop}(h:∀a b,C [a,b]):∀us:List α,us.length=2->C us
 | [a,b],_=>h a b
theorem YW{α:Type}{C:List α->Prop}(h:∀a b c,C [a,b,c]):∀us:List α,us.length=3->C us
 | [a,b,c],_=>h a b c
theorem JK{X:Cx}:∀{es:List Expr},(es.all λe=>(mG e).isSome)=true->PA X es (NK es)
 | [],_=>λpos pins s σ H Q I h=>Ao pos pins s σ H Q I h
 | e::es,h=>by
  rw[rJ,dh]at h
  have ih:=JK (X:=X) h.2
  refine hide λgG hG=>?_
  obtain⟨x,j,p,rfl⟩:=Wg h.1
  refine hG ?_
  have c:=qQ (X:=X) (e:=.Constant (.str x) j p) (te:=tC (.str x)) O8 ih rfl
  exact λpos pins s σ H Q I q=>c pos pins s σ H Q I q
structure HC(X:Cx)(N:List Str)(sc:Scope):Prop where
 n:X.N=N
 s:X.env.scope=sc
def okV(N:List Str)(sc:Scope)(i:Nat)(x:Str):Bool:=
 N[i]? == some x&&(sc.names.lookup x==some .local||sc.names.lookup x==some .cell||sc.names.lookup x==some .free) && !(x==("__debug__" : Str)) && !(x==("__classdict__" : Str))
def YT(N:List Str)(sc:Scope)(i:Nat)(x:Str):Bool:=N[i]? == some x&&(sc.names.lookup x==some .local||sc.names.lookup x==some .cell)
def Ln(N:List Str)(sc:Scope)(i:Nat)(x:Str):Bool:=N[i]? == some x&&sc.names.lookup x==some .local
def okG(sc:Scope)(x:Str):Bool:=sc.names.lookup x==some .globalImplicit
section
variable {X:Cx}{N:List Str}{sc:Scope}{x:Str}{pos:Pos}
theorem pvk(hc:HC X N sc)(i:Nat)(h:okV N sc i x=true):PE X (.Name x pos) (gI i):=by
 unfold okV at h
 simp only[dh,rO,beq_iff_eq,zv]at h
 obtain⟨⟨⟨h1,h2⟩,h3⟩,h4⟩:=h
 refine O7 (by rw[hc.n];exact h1) ?_ h3 h4
 unfold Vis
 rw[hc.s]
 rcases h2 with (h2 | h2) | h2
 ·exact .inl h2
 ·exact .inr (.inl h2)
 ·exact .inr (.inr h2)
theorem cG(hc:HC X N sc)(h:okG sc x=true:=by decide +kernel):Gl X x:=by
 show X.env.scope.names.lookup x=some .globalImplicit
 rw[hc.s];simpa [okG]using h
theorem uX(hc:HC X N sc){i:Nat}(h:YT N sc i x=true):X.N[i]?=some x/\Loc X.env.scope x:=by
 unfold YT at h
 simp only[dh,rO,beq_iff_eq]at h
 refine⟨by rw[hc.n];exact h.1,?_⟩
 unfold Loc;rw[hc.s];exact h.2
theorem mV(hc:HC X N sc){i:Nat}(h:Ln N sc i x=true):X.N[i]?=some x/\X.env.scope.names.lookup x=some .local:=by
 unfold Ln at h
 simp only[dh,beq_iff_eq]at h
 exact⟨by rw[hc.n];exact h.1,by rw[hc.s];exact h.2⟩
theorem pgk(hc:HC X N sc)(nd:N.Nodup)(hf:∀x,X.fn x=true)(i:Nat)(h:YT N sc i x=true):PG X (.Name x pos) (cJ i):=
 JH (by rw[hc.n];exact nd) (uX hc h).1 (uX hc h).2 (.inl (hf x))
theorem pgb(hc:HC X N sc)(nd:N.Nodup)(i:Nat)(h:Ln N sc i x=true):PG X (.Name x pos) (cJ i):=
 JH (by rw[hc.n];exact nd) (mV hc h).1 (.inl (mV hc h).2) (.inr (mV hc h).2)
theorem JB{e:Expr}{te:TE}{pos':Pos}(hc:HC X N sc)(nd:N.Nodup)(hf:∀x,X.fn x=true)(i:Nat)(h:YT N sc i x=true)(he:PE X e te)(hs:swapsWith e (some (.Name x pos')) pos.line X.env=pure false:=by rfl) :
  PS X (.Assign [.Name x pos'] e pos) (qB te (cJ i)):=
 WN (by rw[hc.n];exact nd) (uX hc h).1 (uX hc h).2 he hs (.inl (hf x))
end
def du(scope jZ:Scope):Scope:=
 { scope with names:=scope.names.map λ(n,k)=>if (k == .free&&jZ.kind == .function&&jZ.names.lookup n==some .cell) then (n,.cell) else (n,k) }
theorem CN{scope jZ:Scope}{env:Env}(h:env.scope=jZ):relabel scope env=du scope jZ:=by
 subst h;rfl
theorem kh{X:Cx}{N:List Str}{jZ scope:Scope}{xs:List Str}{idx:List Nat}(hc:HC X N jZ)(c:CB):HC (lV X scope (xs++ck X.N idx) c) (xs++ck N idx) (du scope jZ):=
 ⟨by show xs++ck X.N idx=_;rw[hc.n],CN hc.s⟩
section
variable {X:Cx}{N:List Str}{jZ:Scope}{elt target iter:Expr}{ifs:List Expr}{scope:Scope}{pos spos py:Pos}{xs:List Str}{idx:List Nat}{wi:TI}{g:CB->TG}{tt:CB->TT}{te:CB->TE}
theorem Dl(hc:HC X N jZ)(xs:List Str)(idx:List Nat)(Qx:X.calm=true)(S:Mv jZ N scope idx=true)(hi:PI X target iter wi)
  (hg:∀c,HC (lV X scope (xs++ck X.N idx) c) (xs++ck N idx) (du scope jZ)->PG (lV X scope (xs++ck X.N idx) c) target (g c))
  (ht:∀c,HC (lV X scope (xs++ck X.N idx) c) (xs++ck N idx) (du scope jZ)->BJ (lV X scope (xs++ck X.N idx) c) ifs (tt c))
  (he:∀c,HC (lV X scope (xs++ck X.N idx) c) (xs++ck N idx) (du scope jZ)->PE (lV X scope (xs++ck X.N idx) c) elt (te c))
  (hs:∀x,foldedSetIterable iter X.env x=pure x:=by intro _;rfl):PE X (.ListComp elt [⟨target,iter,ifs,0⟩] scope pos) (vT wi xs.length idx g tt te):=
 Te Qx (yG S hc.s hc.n) hi (λc=>hg c (kh hc c)) (λc=>ht c (kh hc c)) (λc=>he c (kh hc c)) hs
theorem Dh{y:Str}(hc:HC X N jZ)(nd:N.Nodup)(i:Nat)(h:Ln N jZ i y=true)(xs:List Str)(idx:List Nat)(Qx:X.calm=true)(S:Mv jZ N scope idx=true)(hi:PI X target iter wi)
  (hg:∀c,HC (lV X scope (xs++ck X.N idx) c) (xs++ck N idx) (du scope jZ)->PG (lV X scope (xs++ck X.N idx) c) target (g c))
  (ht:∀c,HC (lV X scope (xs++ck X.N idx) c) (xs++ck N idx) (du scope jZ)->BJ (lV X scope (xs++ck X.N idx) c) ifs (tt c))
  (he:∀c,HC (lV X scope (xs++ck X.N idx) c) (xs++ck N idx) (du scope jZ)->PE (lV X scope (xs++ck X.N idx) c) elt (te c))
  (hsw:swapsWith (.ListComp elt [⟨target,iter,ifs,0⟩] scope pos) (some (.Name y py)) spos.line X.env=pure true)
  (hs:∀x,foldedSetIterable iter X.env x=pure x:=by intro _;rfl):PS X (.Assign [.Name y py] (.ListComp elt [⟨target,iter,ifs,0⟩] scope pos) spos) (qB (vT wi xs.length idx g tt te) (cJ i)):=
 S6 (by rw[hc.n];exact nd) (mV hc h).1 (mV hc h).2 Qx (yG S hc.s hc.n) hi (λc=>hg c (kh hc c)) (λc=>ht c (kh hc c)) (λc=>he c (kh hc c)) hsw hs
end
end L2
namespace L2
open PySem PySem.Spec PyProof.Rows
@[irreducible] def xK (X:Cx) (st:List Stmt) (t:TS):Prop:=BG X st t
theorem xK.to{X:Cx}{st:List Stmt}{t:TS}(h:xK X st t):BG X st t:=by unfold xK at h;exact h
theorem xK.of{X:Cx}{st:List Stmt}{t:TS}(h:BG X st t):xK X st t:=by unfold xK;exact h
section
variable {X:Cx}{st:Stmt}{rest:List Stmt}{t u:TS}{pos:Pos}
theorem Sw:xK X [] qz:=.of SN
theorem Sv(h1:PS X st t):xK X [st] t:=.of (SM h1)
theorem Ol(h1:PS X st t)(h2:xK X rest u):xK X (st::rest) (G6 t u):=.of (Oy h1 h2.to)
theorem Sx(h1:PS X st t)(h2:xK X rest u):xK X (st::rest) (Wj t u):=.of (SQ h1 h2.to)
theorem aAb{c:Expr}{a b:List Stmt}{tc:TT}(hc:PT X c tc)(ha:xK X a t)(hb:xK X b u):PS X (.If c a b pos) (zT tc t u):=aAf hc ha.to hb.to
theorem Om{c:Expr}{body:List Stmt}{tc:TT}{tb:TS}(hp:PassesOwn (model X.prog X.w) X.A X.env X.xe)(hc:PT X c tc)(hb:xK X body tb):PS X (.While c body [] pos) (G0 tc tb):=Oz hp hc hb.to
theorem Oo{tg iter:Expr}{body:List Stmt}{wi:TI}{g:TG}{tb:TS}(hp:PassesOwn (model X.prog X.w) X.A X.env X.xe)(hc:X.calm=true)(hi:PI X tg iter wi)(hg:PG X tg g)(hb:xK X body tb)
  (hs:∀x,foldedSetIterable iter X.env x=pure x:=by intro _;rfl):PS X (.For tg iter body [] pos) (R7 wi g tb):=WR hp hc hi hg hb.to hs
end
theorem jA.okK{P:Program}{w:World}{K:PySem.W.Frag}{mg:Str->Option Value}{base:Heap}{x qual:Str}{st:Stmt}{f:Addr}{fd:FuncData}{N ps:List Str}{k:Nat}{sp:Sp}(F:jA K x qual st f fd)(S:aT N ps (ao st))(len:∀vs H Q E,sp vs H Q E->vs.length=ps.length)
  (m6:∀(dz:Value) (A:Around) (outer:List Env) (s:Shared) (H:Hp) (vs:List V) (Q:VK) (E:XK),eF k (A.deeper (envOfC qual (ao st) s.heap.objs.size f dz))->sp vs H Q E->
   HC (km g6 P w K mg base N qual (ao st) f dz A outer s H E).RC N (ao st)->(∀x,(km g6 P w K mg base N qual (ao st) f dz A outer s H E).RC.fn x=true)->
   ∃t,xK (km g6 P w K mg base N qual (ao st) f dz A outer s H E).RC (aQ st) t/\t { nx:=λ_ H'=>Q .non H',rt:=Q } (start N vs) H):cE P w K mg base g6 (k+1) f fd ps sp:=
 F.ok S len λdz A outer s H vs Q E hr h=>let ⟨t,h1,h2⟩:=m6 dz A outer s H vs Q E hr h ⟨rfl,rfl⟩ λ_=>rfl;⟨t,h1.to,h2⟩
end L2
namespace L2
open PySem PySem.Spec PyProof.Rows
def BP(J:It)(g:TG)(tb:TS)(D:Ends)(σ:St)(H:Hp):Prop:=∃W:Nat->Nat->St->Hp->Prop,(∃m,W 0 m σ H)/\∀i m σ H,W i m σ H->
 (J.stop i H/\D.nx σ H)\/(J.go i H/\∃N:St->Hp->Prop,(∀σ' H',N σ' H'->∃m',m'<m/\W (i+1) m' σ' H')/\∀x H',J.Kv i H x H'->g x σ H' λσ2 H2=>tb { D with nx:=N,ct:=N,bk:=D.nx } σ2 H2)
theorem oG{wi:TI}{g:TG}{tb:TS}{D:Ends}{σ:St}{H:Hp}:R7 wi g tb D σ H=wi σ H (λJ H1=>BP J g tb D σ H1):=rfl
def fJ(J:It)(k:Nat)(idx:List Nat)(g:CB->TG)(tt:CB->TT)(te:CB->TE)(σ:St)(Q:VK)(H1:Hp):Prop:=∀D,H1 D=none->∃W:Nat->Nat->List V->Hp->Prop,(∃m,W 0 m [] (upd H1 D (.lst [])))/\
 ∀i m ys H',W i m ys H'->(J.stop i H'/\Q (.ref D) H')\/(J.go i H'/\∃N:List V->Hp->Prop,(∀qv tJ,N qv tJ->∃m',m'<m/\W (i+1) m' qv tJ)/\∀(c:CB) (own:St),own.length=k->∀x H2,J.Kv i H' x H2->g c x (own++bZ σ idx) H2 λσ3 H3=>
  (∃dY,dY.length=k/\σ3=dY++bZ σ idx)/\tt c σ3 H3 λb H4=>if b=true then te c σ3 H4 λy H5=>H5 D=some (.lst ys)/\ys.length<sizeLine/\N (ys++[y]) (upd H5 D (.lst (ys++[y]))) else N ys H4)
theorem j9{wi:TI}{k:Nat}{idx:List Nat}{g:CB->TG}{tt:CB->TT}{te:CB->TE}{σ:St}{H:Hp}{Q:VK}:vT wi k idx g tt te σ H Q=wi σ H (λJ H1=>fJ J k idx g tt te σ Q H1):=rfl
theorem pV{lo:Int}{n:Nat}{g:TG}{tb:TS}{D:Ends}{σ:St}{H:Hp}(Pv:Nat->St->Hp->Prop)(h0:Pv 0 σ H)
  (hs:∀i σ H,i<n->Pv i σ H->g (.int (lo+i)) σ H λσ2 H2=>tb { D with nx:=Pv (i+1),ct:=Pv (i+1),bk:=D.nx } σ2 H2) (hd:∀σ H,Pv n σ H->D.nx σ H):BP (FG lo n) g tb D σ H:=Mk Pv h0 hs hd
theorem bO{K:PySem.W.Frag}{a:Addr}{xs:List V}{g:TG}{tb:TS}{D:Ends}{σ:St}{H:Hp}(Pv:Nat->St->Hp->Prop)(h0:Pv 0 σ H)(hl:∀i σ H,i<=xs.length->Pv i σ H->H a=some (.lst xs))
  (hs:∀i x σ H,xs[i]?=some x->Pv i σ H->g x σ H λσ2 H2=>tb { D with nx:=Pv (i+1),ct:=Pv (i+1),bk:=D.nx } σ2 H2) (hd:∀σ H,Pv xs.length σ H->D.nx σ H):BP (FH K a) g tb D σ H:=
 QH Pv h0 (λi σ H hi p=>aP (hl i σ H hi p)) hs hd
theorem gO{K:PySem.W.Frag}{a:Addr}{xs:List V}{g:TG}{tb:TS}{D:Ends}{σ:St}{H:Hp}(Pv:Nat->St->Hp->Prop)(h0:Pv 0 σ H)(hl:∀i σ H,i<=xs.length->Pv i σ H->H a=some (.tup xs))
  (hs:∀i x σ H,xs[i]?=some x->Pv i σ H->g x σ H λσ2 H2=>tb { D with nx:=Pv (i+1),ct:=Pv (i+1),bk:=D.nx } σ2 H2) (hd:∀σ H,Pv xs.length σ H->D.nx σ H):BP (Vb K a) g tb D σ H:=
 UG Pv h0 (λi σ H hi p=>bC (hl i σ H hi p)) hs hd
theorem nC{lo:Int}{n:Nat}{idx:List Nat}{tt:CB->TT}{te:CB->TE}{σ:St}{Q:VK}{H1:Hp}(Pv:Addr->Nat->List V->Hp->Prop)(h0:∀D,H1 D=none->Pv D 0 [] (upd H1 D (.lst [])))
  (hs:∀D,H1 D=none->∀i ys H,i<n->Pv D i ys H->∀(c:CB),tt c (some (.int (lo+i))::bZ σ idx) H λb H4=>if b=true then te c (some (.int (lo+i))::bZ σ idx) H4 λy H5=>H5 D=some (.lst ys)/\ys.length<sizeLine/\Pv D (i+1) (ys++[y]) (upd H5 D (.lst (ys++[y]))) else Pv D (i+1) ys H4)
  (hd:∀D,H1 D=none->∀ys H,Pv D n ys H->Q (.ref D) H):fJ (FG lo n) 1 idx (λ_=>cJ 0) tt te σ Q H1:=
 λD hD=>Es (Pv D) (h0 D hD) (hs D hD) (hd D hD)
theorem dX{K:PySem.W.Frag}{a:Addr}{zs:List V}{idx:List Nat}{tt:CB->TT}{te:CB->TE}{σ:St}{Q:VK}{H1:Hp}(Pv:Addr->Nat->List V->Hp->Prop)(h0:∀D,H1 D=none->Pv D 0 [] (upd H1 D (.lst [])))
  (hl:∀D,H1 D=none->∀i ys H,i<=zs.length->Pv D i ys H->H a=some (.lst zs))
  (hs:∀D,H1 D=none->∀i x ys H,zs[i]?=some x->Pv D i ys H->∀(c:CB),tt c (some x::bZ σ idx) H λb H4=>if b=true then te c (some x::bZ σ idx) H4 λy H5=>H5 D=some (.lst ys)/\ys.length<sizeLine/\Pv D (i+1) (ys++[y]) (upd H5 D (.lst (ys++[y]))) else Pv D (i+1) ys H4)
  (hd:∀D,H1 D=none->∀ys H,Pv D zs.length ys H->Q (.ref D) H):fJ (FH K a) 1 idx (λ_=>cJ 0) tt te σ Q H1:=
 λD hD=>Iv (Pv D) (h0 D hD) (λi ys H hi p=>aP (hl D hD i ys H hi p)) (hs D hD) (hd D hD)
end L2
namespace L2
open PySem PySem.Spec PyProof.Rows
def jQ(ss:List Str):TA:=λ_ H Q=>Q (List.map V.str ss) H
theorem vQ:∀{es:List Expr} {ss:List Str},(es.map mG==ss.map some)=true->(es.all λe=>(mG e).isSome)=true/\GK es=ss
 | [],[],_=>⟨rfl,rfl⟩
 | [],_::_,h=>by cases h
 | _::_,[],h=>by cases h
 | e::es,x::ss,h=>by
  have h':(mG e==some x&&(es.map mG==ss.map some))=true:=h
  rw[dh]at h'
  have e1:mG e=some x:=by simpa using h'.1
  have ih:=vQ h'.2
  refine⟨by rw[rJ,e1,ih.1];rfl,?_⟩
  show(e::es).filterMap mG=_
  rw[zD,e1]
  show x::GK es=_
  rw[ih.2]
theorem Ph{X:Cx}{es:List Expr}(ss:List Str)(h:(es.map mG==ss.map some)=true):PA X es (jQ ss):=by
 have c:=JK (X:=X) (vQ h).1
 rw[show NK es=jQ ss by unfold NK jQ;rw[(vQ h).2]]at c
 exact c
structure ZE(X:Cx)(e:Expr)(t:TE):Prop where
 to:PE X e t
structure ZT(X:Cx)(e:Expr)(t:TT):Prop where
 to:PT X e t
structure ZW(X:Cx)(e:Expr)(t:TT):Prop where
 to:PW X e t
structure ZA(X:Cx)(e:List Expr)(t:TA):Prop where
 to:PA X e t
structure ZS(X:Cx)(e:Stmt)(t:TS):Prop where
 to:PS X e t
structure Ng(X:Cx)(e:List Stmt)(t:TS):Prop where
 to:BG X e t
structure ZG(X:Cx)(e:Expr)(t:TG):Prop where
 to:PG X e t
structure ZGs(X:Cx)(e:List Expr)(t:RV):Prop where
 to:PGs X e t
structure U8(X:Cx)(e:List Expr)(t:TT):Prop where
 to:BJ X e t
structure ZO(X:Cx)(e:Option Expr)(t:TO):Prop where
 to:PO X e t
structure ZI(X:Cx)(tg iter:Expr)(t:TI):Prop where
 to:PI X tg iter t
structure ZC(X:Cx)(op:CmpOp)(a b:Expr)(t:TE):Prop where
 to:PC X op a b t
theorem bY{X:Cx}{b:Bool}{j:Nat}{pos:Pos}:ZE X (Expr.Constant (Const.bool b) j pos) (tC (V.bl b)):=⟨aAk⟩
theorem aq{X:Cx}{i:Int}{j:Nat}{pos:Pos}:ZE X (Expr.Constant (Const.int i) j pos) (tC (V.int i)):=⟨W7⟩
theorem bG{X:Cx}{x:Str}{j:Nat}{pos:Pos}:ZE X (Expr.Constant (Const.str x) j pos) (tC (V.str x)):=⟨O8⟩
theorem qu{X:Cx}{j:Nat}{pos:Pos}:ZE X (Expr.Constant Const.none j pos) (tC V.non):=⟨W5⟩
theorem aj{X:Cx}{N:List Str}{sc:Scope}{x:Str}{pos:Pos}(h1:HC X N sc)(i:Nat)(h2:okV N sc i x=true:=by decide +kernel):ZE X (Expr.Name x pos) (gI i):=⟨pvk h1 i h2⟩
theorem bW{X:Cx}{es:List Expr}{t:TA}{pos:Pos}(h1:ZA X es t):ZE X (Expr.List es pos) (Cq t):=⟨W6 h1.to⟩
theorem bF{X:Cx}{es:List Expr}{t:TA}{pos:Pos}{x1:Nat}(h1:ZA X es t):ZE X (Expr.Tuple es x1 pos) (zP t):=⟨W2 h1.to⟩
theorem oz{X:Cx}{pos:Pos}:ZE X (Expr.Dict [] [] pos) mJ:=⟨Pb⟩
theorem aV{X:Cx}{a b:Expr}{ta tb:TE}{pos:Pos}{op:Operator}{r:R2}(h1:kF X (binaryOp op) r)(h2:ZE X a ta)(h3:ZE X b tb):ZE X (Expr.BinOp a op b pos) (BR r ta tb):=⟨aAi h1 h2.to h3.to⟩
theorem oy{X:Cx}{a:Expr}{ta:TE}{pos:Pos}(h1:ZE X a ta):ZE X (Expr.UnaryOp UnaryOp.Not a pos) (tX ta):=⟨W4 h1.to⟩
theorem hV{X:Cx}{a b:Expr}{ta tb:TE}{pos:Pos}{op:CmpOp}{r:R2}(h1:kF X (compareOp op) r)(h2:ZE X a ta)(h3:ZE X b tb)(h4:behindInMarks op b=false):ZE X (Expr.Compare a [op] [b] pos) (BR r ta tb):=⟨Tf h1 h2.to h3.to h4⟩
theorem ow{X:Cx}{a:Expr}{pos:Pos}{op:BoolOp}{t:TE}(h1:ZE X a t):ZE X (Expr.BoolOp op [a] pos) t:=⟨W3 h1.to⟩
theorem Jf{X:Cx}{a b:Expr}{ta tb:TE}{pos:Pos}{rest:List Expr}(h1:ZE X a ta)(h2:ZE X (Expr.BoolOp BoolOp.And (b::rest) pos) tb):ZE X (Expr.BoolOp BoolOp.And (a::b::rest) pos) (t6 ta tb):=⟨W8 h1.to h2.to⟩
theorem zM{X:Cx}{a b:Expr}{ta tb:TE}{pos:Pos}{rest:List Expr}(h1:ZE X a ta)(h2:ZE X (Expr.BoolOp BoolOp.Or (b::rest) pos) tb):ZE X (Expr.BoolOp BoolOp.Or (a::b::rest) pos) (Cp ta tb):=⟨aAh h1.to h2.to⟩
theorem eO{X:Cx}:ZO X none jH:=⟨S'⟩
theorem eN{X:Cx}{e:Expr}{te:TE}(h1:ZE X e te):ZO X (some e) (tW te):=⟨S9 h1.to⟩
theorem dH{X:Cx}{e:Expr}{te:TE}{lo hi:Option Expr}{tl th:TO}{pos p2:Pos}{r:V->Option Int->Option Int->Hp->VK->Prop}(h1:RW X r)(h2:ZE X e te)(h3:ZO X lo tl)(h4:ZO X hi th):ZE X (Expr.Subscript e (Expr.Slice lo hi none p2) pos) (Vg r te tl th):=⟨O' h1 h2.to h3.to h4.to⟩
theorem jf{X:Cx}{o i:Expr}{pos:Pos}{td ty:TE}(h1:Around.units (Cx.A X)+1<cLine)(h2:ZE X o td)(h3:ZE X i ty)(h4:YD i):ZE X (Expr.Subscript o i pos) (j7 td ty):=⟨Td h1 h2.to h3.to h4⟩
theorem bj{X:Cx}{a b:Expr}{ta tb:TE}{pos:Pos}{r:R2}(h1:Rr X r)(h2:ZE X a ta)(h3:ZE X b tb)(h4:Kn b):ZE X (Expr.Subscript a b pos) (BR r ta tb):=⟨aAj h1 h2.to h3.to h4⟩
theorem bX{X : Cx}{N : List Str}{jZ : Scope}{elt target iter : Expr}{ifs : List Expr}{scope : Scope}{pos : Pos}{wi : TI}{g : CB → TG}{tt : CB → TT}{te : CB → TE}(h1 : HC X N jZ)(xs : List Str)(idx : List Nat)(h2 : Cx.calm X=true)(h3 : Mv jZ N scope idx=true)(h4 : ZI X target iter wi)(h5 : (∀ (c : CB),
                HC (lV X scope (xs++ck (Cx.N X) idx) c) (xs++ck N idx) (du scope jZ) →
                  ZG (lV X scope (xs++ck (Cx.N X) idx) c) target (g c))) (h6 : (∀ (c : CB),
                  HC (lV X scope (xs++ck (Cx.N X) idx) c) (xs++ck N idx) (du scope jZ) →
                    U8 (lV X scope (xs++ck (Cx.N X) idx) c) ifs (tt c))) (h7 : (∀ (c : CB),
                    HC (lV X scope (xs++ck (Cx.N X) idx) c) (xs++ck N idx) (du scope jZ) →
                      ZE (lV X scope (xs++ck (Cx.N X) idx) c) elt (te c))) (h8 : autoParam (∀ (x : Value), foldedSetIterable iter (Cx.env X) x=pure x) Dl._auto_1) : ZE X (Expr.ListComp elt [{ target := target, iter := iter, ifs := ifs, is_async := 0 }] scope pos)
                      (vT wi (List.length xs) idx g tt te) := ⟨Dl h1 xs idx h2 h3 h4.to (λc z => (h5 c z).to) (λc z => (h6 c z).to) (λc z => (h7 c z).to) h8⟩
theorem Ku{X:Cx}{es:List Expr}(ss:List Str)(h1:(List.map mG es==List.map some ss)=true):ZA X es (jQ ss):=⟨Ph ss h1⟩
theorem ah{X:Cx}:ZA X [] vS:=⟨Ao⟩
theorem ae{X:Cx}{e:Expr}{es:List Expr}{te:TE}{t:TA}(h1:ZE X e te)(h2:ZA X es t)(h3:autoParam (starEach (e::es) (Cx.env X)=(false,eval e (Cx.env X))::starEach es (Cx.env X)) qQ._auto_1):ZA X (e::es) (j8 te t):=⟨qQ h1.to h2.to h3⟩
theorem kK{X : Cx}{pos : Pos}{es : List Expr}{k : Nat}{t : RV}{n : Nat}(h1 : Cx.calm X=true)(h2 : ZGs X es t)(h3 : autoParam (List.length (assignEach es (Cx.env X))=n) Hm._auto_1)(h4 : autoParam (List.findIdx? (λ(x : Bool × (Value → Sem Unit)) => Prod.fst x) (assignEach es (Cx.env X))=none)
            Hm._auto_2) : ZG X (Expr.Tuple es k pos) (Yl (Cx.K X) n t) := ⟨Hm h1 h2.to h3 h4⟩
theorem kJ{X:Cx}{N:List Str}{sc:Scope}{x:Str}{pos:Pos}(h1:HC X N sc)(h2:List.Nodup N)(i:Nat)(h3:Ln N sc i x=true):ZG X (Expr.Name x pos) (cJ i):=⟨pgb h1 h2 i h3⟩
theorem eZ{X:Cx}:U8 X [] wZ:=⟨O2⟩
theorem fO{X:Cx}{e:Expr}{t:TT}(h1:ZT X e t):U8 X [e] t:=⟨O1 h1.to⟩
theorem je{X:Cx}:ZGs X [] Ik:=⟨Tc⟩
theorem cH{X : Cx}{e : Expr}{es : List Expr}{t : TG}{u : RV}(h1 : ZG X e t)(h2 : ZGs X es u)(h3 : autoParam
          (List.map (λ(x : Bool × (Value → Sem Unit)) => Prod.snd x) (assignEach (e::es) (Cx.env X)) =
            assign e (Cx.env X) ::
              List.map (λ(x : Bool × (Value → Sem Unit)) => Prod.snd x) (assignEach es (Cx.env X)))
          Di._auto_1) : ZGs X (e::es) (ui t u) := ⟨Di h1.to h2.to h3⟩
theorem gH{X:Cx}{tg a:Expr}{ta:TA}{p pos:Pos}(h1:Gl X (Str.ofString "range"))(h2:Cx.mg X (Str.ofString "range")=none)(h3:ZA X [a] ta)(h4:autoParam (starEach [a] (Cx.env X)=[(false,eval a (Cx.env X))]) yn._auto_1):ZI X tg (Expr.Call (Expr.Name (Str.ofString "range") p) [a] [] pos) (uf ta):=⟨yn h1 h2 h3.to h4⟩
theorem bI{X:Cx}{tg l:Expr}{tl:TE}(h1:ZE X l tl):ZI X tg l (ug (Cx.K X) tl):=⟨Tb h1.to⟩
theorem gY{X:Cx}{tg l:Expr}{tl:TE}(h1:ZE X l tl):ZI X tg l (Ef (Cx.K X) tl):=⟨W0 h1.to⟩
theorem GJ{X:Cx}{o i:Expr}{td ty:TE}(h1:Around.units (Cx.A X)+1<cLine)(h2:ZE X i ty)(h3:ZE X o td):ZC X CmpOp.NotIn i o (zV ty td):=⟨Le h1 h2.to h3.to⟩
theorem Je{X:Cx}{a b:Expr}{pos:Pos}{op:CmpOp}{t:TE}(h1:ZC X op a b t)(h2:autoParam (behindInMarks op b=false) Ox._auto_1):ZT X (Expr.Compare a [op] [b] pos) (tB t):=⟨Ox h1.to h2⟩
theorem aG{X:Cx}{a b:Expr}{ta tb:TE}{pos:Pos}{op:CmpOp}{r:R2}(h1:kF X (compareOp op) r)(h2:ZE X a ta)(h3:ZE X b tb)(h4:behindInMarks op b=false):ZT X (Expr.Compare a [op] [b] pos) (oX (BR r ta tb)):=⟨SJ h1 h2.to h3.to h4⟩
theorem ou{X:Cx}{a:Expr}{pos:Pos}{tA:TT}(h1:ZT X a tA):ZT X (Expr.UnaryOp UnaryOp.Not a pos) (zR tA):=⟨WM h1.to⟩
theorem oW{X:Cx}{e:Expr}{t:TT}(h1:ZW X e t):ZT X e t:=⟨PW.pt h1.to⟩
theorem iL{X:Cx}{e:Expr}{t:TE}(h1:ZE X e t)(h2:autoParam
    (∀(whole:Sem Value),
     PySem.isTrue e (Cx.env X) whole=do
      let v <-whole
      standAt (Expr.pos e)
      holding [v] (truthy v))
    Ow._auto_1):ZT X e (tB t):=⟨Ow h1.to h2⟩
theorem mE{X:Cx}{a:Expr}{pos:Pos}{tA:TT}(h1:ZT X a tA):ZW X (Expr.BoolOp BoolOp.And [a] pos) tA:=⟨Sz h1.to⟩
theorem qt{X:Cx}{a:Expr}{pos:Pos}{tA:TT}(h1:ZT X a tA):ZW X (Expr.BoolOp BoolOp.Or [a] pos) tA:=⟨WK h1.to⟩
theorem oq{X:Cx}{a b:Expr}{pos:Pos}{tA Rx:TT}{rest:List Expr}(h1:ZT X a tA)(h2:ZW X (Expr.BoolOp BoolOp.And (b::rest) pos) Rx):ZW X (Expr.BoolOp BoolOp.And (a::b::rest) pos) (Cr tA Rx):=⟨WL h1.to h2.to⟩
theorem vL{X:Cx}{a b:Expr}{pos:Pos}{tA Rx:TT}{rest:List Expr}(h1:ZT X a tA)(h2:ZW X (Expr.BoolOp BoolOp.Or (b::rest) pos) Rx):ZW X (Expr.BoolOp BoolOp.Or (a::b::rest) pos) (Vh tA Rx):=⟨aAe h1.to h2.to⟩
theorem aC{X : Cx}{CX : M8}{k : Nat}{f : Addr}{fd : FuncData}{ps : List Str}{sp : Sp}{QS : List V}{ds : List Value}{E : XK}{x : Str}{p pos : Pos}{e : Expr}{es : List Expr}{t : TA}(h1 : cE (Cx.prog X) (Cx.w X) (Cx.K X) (Cx.mg X) (Cx.base X) CX k f fd ps sp)(h2 : eF k (Cx.A X))(h3 : Gl X x)(h4 : Cx.mg X x=some (Value.ref f))(h5 : W.keepIn (Cx.K X) (Value.ref f)=true)(h6 : Binds (Cx.K X) fd ps ds)(h7 : Vals QS ds)(h8 : Passes CX X E)(h9 : ZA X (e::es) t)(h10 : autoParam ((x==Str.ofString "__debug__")=false) uU._auto_1)(h11 : autoParam (starEach (e::es) (Cx.env X)=(false, eval e (Cx.env X))::starEach es (Cx.env X))
                          uU._auto_2) (h12 : autoParam
                            ((List.any (backTo pos (starEach es (Cx.env X))) λ(x : Bool × Sem Value) => Prod.fst x) =
                              false)
                            uU._auto_3) : ZE X (Expr.Call (Expr.Name x p) (e::es) [] pos) (qA sp QS E t) := ⟨uU h1 h2 h3 h4 h5 h6 h7 h8 h9.to h10 h11 h12⟩
theorem dA{X : Cx}{x : Str}{p pos : Pos}{e : Expr}{es : List Expr}{t : TA}{T : String}{r : List V → Hp → VK → Prop}(h1 : dy X (Value.type T) r)(h2 : Gl X x)(h3 : Cx.mg X x=none)(h4 : bootBuiltins x=some (Value.type T))(h5 : ZA X (e::es) t)(h6 : autoParam (x ≠ Str.ofString "__name__") kc._auto_1)(h7 : autoParam ((x==Str.ofString "__debug__")=false) kc._auto_2)(h8 : autoParam (starEach (e::es) (Cx.env X)=(false, eval e (Cx.env X))::starEach es (Cx.env X))
                    kc._auto_3) (h9 : autoParam
                      ((List.any (backTo pos (starEach es (Cx.env X))) λ(x : Bool × Sem Value) => Prod.fst x) =
                        false)
                      kc._auto_4) : ZE X (Expr.Call (Expr.Name x p) (e::es) [] pos) (Rw r t) := ⟨kc h1 h2 h3 h4 h5.to h6 h7 h8 h9⟩
theorem bA{X : Cx}{x : Str}{p pos : Pos}{e : Expr}{es : List Expr}{t : TA}{id : String}{r : List V → Hp → VK → Prop}(h1 : dy X (Value.builtin id) r)(h2 : Gl X x)(h3 : Cx.mg X x=none)(h4 : bootBuiltins x=some (Value.builtin id))(h5 : ZA X (e::es) t)(h6 : autoParam (x ≠ Str.ofString "__name__") mS._auto_1)(h7 : autoParam ((x==Str.ofString "__debug__")=false) mS._auto_2)(h8 : autoParam (starEach (e::es) (Cx.env X)=(false, eval e (Cx.env X))::starEach es (Cx.env X))
                    mS._auto_3) (h9 : autoParam
                      ((List.any (backTo pos (starEach es (Cx.env X))) λ(x : Bool × Sem Value) => Prod.fst x) =
                        false)
                      mS._auto_4) : ZE X (Expr.Call (Expr.Name x p) (e::es) [] pos) (Rw r t) := ⟨mS h1 h2 h3 h4 h5.to h6 h7 h8 h9⟩
theorem fL{X : Cx}{o e : Expr}{es : List Expr}{to : TE}{t : TA}{name : Str}{apos cX : Pos}{T id : String}{r : V → List V → Hp → VK → Prop}(h1 : PlainAttrs T)(h2 : Slot T name id)(h3 : typeOf (Value.builtin id)=pure (Value.type "method_descriptor"))(h4 : V8 X id r)(h5 : ZE X o to)(h6 : ZA X (e::es) t)(h7 : autoParam (attributeBase o name (Cx.env X) (eval o (Cx.env X))=eval o (Cx.env X)) yo._auto_1)(h8 : autoParam
                    ((((List.all (backTo cX (starEach (e::es) (Cx.env X))) λ(x : Bool × Sem Value) =>
                            !Prod.fst x) &&
                          List.all (backToKw cX (keywordEach [] (Cx.env X))) λ(x : Option Str × Sem Value) =>
                            Option.isSome (Prod.fst x)) &&
                        decide
                          ((List.length (e::es)+List.length ([] : List Keyword)+if List.isEmpty ([] : List Keyword)=true then 0 else 1)<30)) =
                      true)
                    yo._auto_2) (h9 : autoParam ((Pos.endLine apos==Pos.line cX)=true) yo._auto_3) (h10 : autoParam (starEach (e::es) (Cx.env X)=(false, eval e (Cx.env X))::starEach es (Cx.env X))
                        yo._auto_4) (h11 : autoParam
                          ((List.any (backTo cX (starEach es (Cx.env X))) λ(x : Bool × Sem Value) => Prod.fst x) =
                            false)
                          yo._auto_5) : ZE X (Expr.Call (Expr.Attribute o name apos) (e::es) [] cX) (Vi (Cx.K X) T r to t) := ⟨yo h1 h2 h3 h4 h5.to h6.to h7 h8 h9 h10 h11⟩
theorem aF{X:Cx}{e:Expr}{te:TE}{pos:Pos}(h1:ZE X e te):ZS X (Stmt.Return (some e) pos) (Cm te):=⟨WQ h1.to⟩
theorem cA{X:Cx}{e:Expr}{te:TE}{pos:Pos}(h1:ZE X e te)(h2:autoParam (swapsWith e none (Pos.line pos) (Cx.env X)=pure false) JC._auto_1):ZS X (Stmt.Expr e pos) (tY te):=⟨JC h1.to h2⟩
theorem Kr{X : Cx}{N : List Str}{jZ : Scope}{elt target iter : Expr}{ifs : List Expr}{scope : Scope}{pos spos py : Pos}{wi : TI}{g : CB → TG}{tt : CB → TT}{te : CB → TE}{y : Str}(h1 : HC X N jZ)(h2 : List.Nodup N)(i : Nat)(h3 : Ln N jZ i y=true)(xs : List Str)(idx : List Nat)(h4 : Cx.calm X=true)(h5 : Mv jZ N scope idx=true)(h6 : ZI X target iter wi)(h7 : (∀ (c : CB),
                      HC (lV X scope (xs++ck (Cx.N X) idx) c) (xs++ck N idx) (du scope jZ) →
                        ZG (lV X scope (xs++ck (Cx.N X) idx) c) target (g c))) (h8 : (∀ (c : CB),
                        HC (lV X scope (xs++ck (Cx.N X) idx) c) (xs++ck N idx) (du scope jZ) →
                          U8 (lV X scope (xs++ck (Cx.N X) idx) c) ifs (tt c))) (h9 : (∀ (c : CB),
                          HC (lV X scope (xs++ck (Cx.N X) idx) c) (xs++ck N idx) (du scope jZ) →
                            ZE (lV X scope (xs++ck (Cx.N X) idx) c) elt (te c))) (h10 : swapsWith
                              (Expr.ListComp elt [{ target := target, iter := iter, ifs := ifs, is_async := 0 }] scope
                                pos)
                              (some (Expr.Name y py)) (Pos.line spos) (Cx.env X) =
                            pure true) (h11 : autoParam (∀ (x : Value), foldedSetIterable iter (Cx.env X) x=pure x) Dh._auto_1) : ZS X
                              (Stmt.Assign [Expr.Name y py]
                                (Expr.ListComp elt [{ target := target, iter := iter, ifs := ifs, is_async := 0 }] scope
                                  pos)
                                spos)
                              (qB (vT wi (List.length xs) idx g tt te) (cJ i)) := ⟨Dh h1 h2 i h3 xs idx h4 h5 h6.to (λc z => (h7 c z).to) (λc z => (h8 c z).to) (λc z => (h9 c z).to) h10 h11⟩
theorem aE{X:Cx}{N:List Str}{sc:Scope}{x:Str}{pos:Pos}{e:Expr}{te:TE}{pos':Pos}(h1:HC X N sc)(h2:List.Nodup N)(h3:(∀(x:Str),Cx.fn X x=true))(i:Nat)(h4:YT N sc i x=true)(h5:ZE X e te)(h6:autoParam (swapsWith e (some (Expr.Name x pos')) (Pos.line pos) (Cx.env X)=pure false) JB._auto_1):ZS X (Stmt.Assign [Expr.Name x pos'] e pos) (qB te (cJ i)):=⟨JB h1 h2 h3 i h4 h5.to h6⟩
theorem vM{X:Cx}{o i value:Expr}{pos pos':Pos}{td ty tv:TE}(h1:Around.units (Cx.A X)+1<cLine)(h2:ZE X o td)(h3:ZE X i ty)(h4:ZE X value tv)(h5:swapsWith value (some (Expr.Subscript o i pos')) (Pos.line pos) (Cx.env X)=pure false):ZS X (Stmt.Assign [Expr.Subscript o i pos'] value pos) (yh td ty tv):=⟨S7 h1 h2.to h3.to h4.to h5⟩
theorem jF{X : Cx}{pos : Pos}{tg e : Expr}{te : TE}{g : TG}(h1 : ZE X e te)(h2 : ZG X tg g)(h3 : autoParam (swapsWithSole [tg] e (Pos.line pos) (Cx.env X)=pure false) Am._auto_1)(h4 : autoParam (swappedStores [tg] e (Cx.env X)=pure none) Am._auto_2)(h5 : autoParam
              (List.map (λ(x : Bool × (Value → Sem Unit)) => Prod.snd x) (assignEach [tg] (Cx.env X)) =
                [assign tg (Cx.env X)])
              Am._auto_3) : ZS X (Stmt.Assign [tg] e pos) (qB te g) := ⟨Am h1.to h2.to h3 h4 h5⟩
theorem kL{X : Cx}{pos : Pos}{o i : Expr}{to ti : TE}{t : Jb}(h1 : ZE X o to)(h2 : ZE X i ti)(h3 : M3 X t)(h4 : autoParam
            (∀ (v : Value),
              assign (Expr.Subscript o i pos) (Cx.env X) v=do
                let ov ← holding [v] (eval o (Cx.env X))
                let iv ← holding [v, ov] (eval i (Cx.env X))
                standAt pos
                holding [v, ov, iv] (setItem ov iv v)
                release [v, ov, iv] [])
            O5._auto_1) : ZG X (Expr.Subscript o i pos) (Ej to ti t) := ⟨O5 h1.to h2.to h3 h4⟩
theorem Cg{X : Cx}{pos : Pos}{o i e : Expr}{to ti te : TE}{GZ : V → V → Hp → VK → Prop}{Wh : Zr}{GX : Jb}{op : Operator}{NC : Pos}(h1 : ZE X o to)(h2 : ZE X i ti)(h3 : YC X GZ)(h4 : ZE X e te)(h5 : PIp X op Wh)(h6 : M3 X GX)(h7 : autoParam
                  (∀ (ov iv new : Value),
                    augStore i ov iv new=do
                      holding [new, ov, iv] (setItem ov iv new)
                      release [new, ov, iv] []
                      pure Flow.next)
                  JD._auto_1) : ZS X (Stmt.AugAssign (Expr.Subscript o i NC) op e pos) (t5 to ti te GZ Wh GX) := ⟨JD h1.to h2.to h3 h4.to h5 h6 h7⟩
theorem bh{X:Cx}{t u:TS}{pos:Pos}{c:Expr}{a b:List Stmt}{tc:TT}(h1:ZT X c tc)(h2:Ng X a t)(h3:Ng X b u):ZS X (Stmt.If c a b pos) (zT tc t u):=⟨aAb h1.to (.of h2.to) (.of h3.to)⟩
theorem Kq{X:Cx}{pos:Pos}{c:Expr}{body:List Stmt}{tc:TT}{tb:TS}(h1:PassesOwn (model (Cx.prog X) (Cx.w X)) (Cx.A X) (Cx.env X) (Cx.xe X))(h2:ZT X c tc)(h3:Ng X body tb):ZS X (Stmt.While c body [] pos) (G0 tc tb):=⟨Om h1 h2.to (.of h3.to)⟩
theorem gk{X:Cx}{N:List Str}{sc:Scope}{x:Str}{pos:Pos}(h1:HC X N sc)(h2:List.Nodup N)(h3:(∀(x:Str),Cx.fn X x=true))(i:Nat)(h4:YT N sc i x=true):ZG X (Expr.Name x pos) (cJ i):=⟨pgk h1 h2 h3 i h4⟩
theorem bV{X:Cx}{pos:Pos}{tg iter:Expr}{body:List Stmt}{wi:TI}{g:TG}{tb:TS}(h1:PassesOwn (model (Cx.prog X) (Cx.w X)) (Cx.A X) (Cx.env X) (Cx.xe X))(h2:Cx.calm X=true)(h3:ZI X tg iter wi)(h4:ZG X tg g)(h5:Ng X body tb)(h6:autoParam (∀(x:Value),foldedSetIterable iter (Cx.env X) x=pure x) Oo._auto_1):ZS X (Stmt.For tg iter body [] pos) (R7 wi g tb):=⟨Oo h1 h2 h3.to h4.to (.of h5.to) h6⟩
theorem aN{X:Cx}:Ng X [] qz:=⟨xK.to Sw⟩
theorem ak{X:Cx}{st:Stmt}{t:TS}(h1:ZS X st t):Ng X [st] t:=⟨xK.to (Sv h1.to)⟩
theorem ai{X:Cx}{st:Stmt}{rest:List Stmt}{t u:TS}(h1:ZS X st t)(h2:Ng X rest u):Ng X (st::rest) (G6 t u):=⟨xK.to (Ol h1.to (.of h2.to))⟩
theorem vK{X:Cx}{st:Stmt}{rest:List Stmt}{t u:TS}(h1:ZS X st t)(h2:Ng X rest u):Ng X (st::rest) (Wj t u):=⟨xK.to (Sx h1.to (.of h2.to))⟩
theorem jA.lT{P:Program}{w:World}{K:PySem.W.Frag}{mg:Str->Option Value}{base:Heap}{x qual:Str}{st:Stmt}{f:Addr}{fd:FuncData}{N ps:List Str}{k:Nat}{sp:Sp}(F:jA K x qual st f fd)(S:aT N ps (ao st))(len:∀vs H Q E,sp vs H Q E->vs.length=ps.length)
  (m6:∀(dz:Value) (A:Around) (outer:List Env) (s:Shared) (H:Hp) (vs:List V) (Q:VK) (E:XK),eF k (A.deeper (envOfC qual (ao st) s.heap.objs.size f dz))->sp vs H Q E->
   HC (km g6 P w K mg base N qual (ao st) f dz A outer s H E).RC N (ao st)->(∀x,(km g6 P w K mg base N qual (ao st) f dz A outer s H E).RC.fn x=true)->
   ∃t,Ng (km g6 P w K mg base N qual (ao st) f dz A outer s H E).RC (aQ st) t/\t { nx:=λ_ H'=>Q .non H',rt:=Q } (start N vs) H):cE P w K mg base g6 (k+1) f fd ps sp:=
 F.okK S len λdz A outer s H vs Q E hr h hc hf=>let ⟨t,h1,h2⟩:=m6 dz A outer s H vs Q E hr h hc hf;⟨t,.of h1.to,h2⟩
def BX(w:World):Bool:=w.params.followText "set-order"
theorem Ua(t:SetTable)(es:Array (Int×Value))(h:Int)(x:Value):(layNew t es h x).2.1.led=t.led:=by
 unfold layNew
 split
 ·dsimp only;unfold SetTable.orStandIn
  split <;> rfl
 ·rfl
theorem LR(t:SetTable)(es:Array (Int×Value))(h:Int)(x:Value)(e:t.plain=false):(layNew t es h x).2.1.plain=false:=by
 unfold layNew
 split
 ·dsimp only;unfold SetTable.orStandIn
  split
  ·exact e
  ·rfl
 ·rfl
theorem Ea{mask finger moves:Nat}{led plain:Bool}{hs:Array Int}{t':SetTable}{o:Array Nat}(h:SetTable.laid mask finger moves led plain hs=some (t',o)):t'.led=led/\t'.plain=plain:=by
 unfold SetTable.laid at h
 cases q:SetTable.layClean mask hs with
 | none=>rw[q]at h;cases h
 | some owner=>rw[q]at h;cases h;exact⟨rfl,rfl⟩
theorem K4(t:SetTable)(es:Array (Int×Value))(k:Nat):(relayAll t es k).2.1.led=t.led:=by
 unfold relayAll
 split
 ·rename_i t' o q
  dsimp only
  split
  ·exact(Ea q).1
  ·rfl
 ·rfl
theorem CK(t:SetTable)(es:Array (Int×Value))(k:Nat)(e:t.plain=false):(relayAll t es k).2.1.plain=false:=by
 unfold relayAll
 split
 ·rename_i t' o q
  dsimp only
  split
  ·show t'.plain=false
   rw[(Ea q).2];exact e
  ·rfl
 ·rfl
def xA(w:World)(p:Str×Tok):Int×Value:=(hashStr w p.1,.str p.1 p.2)
def ia(es:Array (Int×Value))(ep:Nat)(t:SetTable):Obj:={ cls:=.type "set",dict:=none,data:=.set es ep t }
structure lZ(w:World)(h:Heap)(a:Addr)(l:List (Str×Tok)):Prop where
 ex:∃es ep t,h.get? a=some (ia es ep t)/\es.toList=l.map (xA w)/\t.fits es.size=true/\t.led = !BX w/\(l≠[]->t.plain=false)
 nd:(l.map (·.1)).Nodup
 sz:l.length<scanBound
theorem lZ.at{w:World}{h h':Heap}{a:Addr}{l:List (Str×Tok)}(x:lZ w h a l)(k:∀o,h.get? a=some o->h'.get? a=some o):lZ w h' a l:=
 ⟨let ⟨es,ep,t,e,r⟩:=x.ex;⟨es,ep,t,k _ e,r⟩,x.nd,x.sz⟩
section
variable {P:Program}{w:World}{A:Around}{E:Value->Shared->Prop}{s:Shared}{a:Addr}{l:List (Str×Tok)}
theorem QR(l:List (Str×Tok)):ElemsOf (PySem.strKind P w) (l.map (xA w)):=by
 intro e he
 obtain⟨p,_,rfl⟩:=bH.mp he
 exact⟨⟨p.1,strKind_is P w _ _,rfl⟩,rfl⟩
theorem QK(x:Str):∀l:List (Str×Tok),(∀j,(l.map (xA w)).findIdx? (λe=>(PySem.strKind P w).is x e.2)=some j->x∈l.map (·.1))/\((l.map (xA w)).findIdx? (λe=>(PySem.strKind P w).is x e.2)=none->x∉l.map (·.1)):=by
 intro l
 refine⟨λj h=>?_,λh hm=>?_⟩
 ·obtain⟨hj,hp,_⟩:=List.findIdx?_eq_some_iff_getElem.mp h
  rw[pF]at hp
  rw[aM]at hj
  have:(l[j]).1=x:=(PySem.strKind P w).inj _ _ _ (strKind_is P w _ _) hp
  exact bH.mpr ⟨l[j],rX hj,this⟩
 ·obtain⟨p,hp,rfl⟩:=bH.mp hm
  have:=List.findIdx?_eq_none_iff.mp h (xA w p) (List.mem_map_of_mem hp)
  rw[show(PySem.strKind P w).is p.1 (xA w p).2=true from strKind_is P w _ _]at this
  cases this
theorem Dj{es':List (Int×Value)}{l:List (Str×Tok)}(p:es'.Perm (l.map (xA w))):∃l':List (Str×Tok),es'=l'.map (xA w)/\l'.Perm l:=by
 let back:Int×Value->Str×Tok:=λe=>match e.2 with | .str x t=>(x,t) | _=>(default,0)
 have hb:∀q:Str×Tok,back (xA w q)=q:=λq=>rfl
 refine⟨es'.map back,?_,?_⟩
 ·rw[iG]
  conv=>lhs;rw[<-vn es']
  refine tR λe he=>?_
  obtain⟨q,_,rfl⟩:=bH.mp (p.mem_iff.mp he)
  rfl
 ·have:=p.map back
  rw[iG,show(back ∘ xA w)=id from funext hb,vn]at this
  exact this
theorem U7{x:Str}{tk:Tok}{Q:Bool->Shared->Prop}(S:lZ w s.heap a l)(room:l.length+1<scanBound)
  (q:∀h' l' b,Heap.SameBut a s.heap h'->lZ w h' a l'->(∀z,z∈l'.map (·.1)↔z∈l.map (·.1)\/z=x)->l'.length<=l.length+1->Q b { s with heap:=h' }) :
  wpAny (model P w) A (setAddHashed a (.str x tk) (hashStr w x)) Q E s:=by
 obtain⟨⟨es,ep,t,ho,VB,hf,Qs,yC⟩,nd,sz⟩:=S
 have hsz:es.size=l.length:=by rw[<-dF,VB,aM]
 have hE:ElemsOf (PySem.strKind P w) es.toList:=by rw[VB];exact QR l
 have hk:(PySem.strKind P w).is x (.str x tk)=true:=strKind_is P w _ _
 have hd:(ia es ep t).data=.set es ep t:=rfl
 unfold setAddHashed setAddHashedIn
 refine iY (az (rT ho hd hf ?_))
 dsimp only
 rw[byScan_of (knd:=PySem.strKind P w) rfl (by rw[hsz];exact sz) hE]
 simp only[↓reduceIte]
 unfold setAddByScan
 refine az (az (iy (az (wpAny_setScan_of (knd:=PySem.strKind P w) hk ho hd hf hE ?_))))
 have hfi:=QK (P:=P) (w:=w) x l
 rw[<-VB]at hfi
 cases hr:List.findIdx? (λe=>(PySem.strKind P w).is x e.2) es.toList with
 | some j=>
  dsimp only
  have hm:=hfi.1 j hr
  refine aK (aK ?_)
  have e:s={ s with heap:=s.heap }:=by cases s;rfl
  rw[e]
  exact q s.heap l false (Heap.SameBut.refl a s.heap) ⟨⟨es,ep,t,ho,VB,hf,Qs,yC⟩,nd,sz⟩ (λz=>⟨.inl,λh=>h.elim id λe=>e ▸ hm⟩) (iX _)
 | none=>
  have hm:=hfi.2 hr
  dsimp only
  have pp:=layNew_perm t es (hashStr w x) (.str x tk)
  have pf:=layNew_fits t es (hashStr w x) (.str x tk)
  have pl:=Ua t es (hashStr w x) (.str x tk)
  have pq:=LR t es (hashStr w x) (.str x tk)
  generalize hL:layNew t es (hashStr w x) (.str x tk)=L at pp pf pl pq ⊢
  obtain⟨qh,t1,aBO,gave⟩:=L
  dsimp only at pp pf pl pq ⊢
  rw[tO,VB]at pp
  obtain⟨l1,e1,p1⟩:=Dj (l:=l++[(x,tk)]) (w:=w) (es':=qh.toList) (by rw[bP];exact pp)
  have aAz:l1.length=l.length+1:=by rw[p1.length_eq,cw];rfl
  have nd1:(l1.map (·.1)).Nodup:=by
   rw[(p1.map (·.1)).nodup_iff,bP,qm]
   refine⟨nd,by simp,λu hu v hv=>?_⟩
   rw[eI,vt,bR]at hv
   rintro rfl
   rw[hv]at hu
   exact hm hu
  have aAu:∀z,z∈l1.map (·.1)↔z∈l.map (·.1)\/z=x:=λz=>by
   rw[(p1.map (·.1)).mem_iff,bP,bT];simp
  have aD1:qh.size=l.length+1:=by rw[<-dF,e1,aM,aAz]
  have gw:∀(b:Bool) {s₁:Shared} {Q':Unit->Shared->Prop},Q' () s₁->wpAny (model P w) A (match b with | true=>rule "set.scan.the-table-gave-way" | false=>pure ()) Q' E s₁:=
   λb s₁ Q' hq=>by cases b <;> first | exact aK hq | exact iy hq
  refine az (gw _ ?_)
  have fin:∀t2:SetTable,t2.fits qh.size=true->t2.led=t.led->t2.plain=false->
    wpAny (model P w) A (do
     storeSet a qh t2
     if (!aBO&&t2.tooFull)=true then do
      (match (relayAll t2 qh (SetTable.grown qh.size)).2.2 with | true=>rule "set.scan.the-table-gave-way" | false=>pure ())
      storeSet a (relayAll t2 qh (SetTable.grown qh.size)).1 (relayAll t2 qh (SetTable.grown qh.size)).2.1
      pure (some true)
     else pure (some true)) (λr s'=>∃b,r=some b/\Q b s') E s:=by
   intro t2 f2 l2 p2
   refine az (wpAny_storeSet_of ho hd ?_ (by rw[aD1];exact zp room))
   have g1:(s.heap.update a (Obj.putSet qh t2)).get? a=some (ia qh (ep+1) t2):=by
    have:=oV (Obj.putSet qh t2) ho (by rw[putSet_of qh t2 hd];rfl)
    rw[putSet_of qh t2 hd]at this;exact this
   have sb:=tQ s.heap a (Obj.putSet qh t2)
   split
   ·have rp:=relayAll_perm t2 qh (SetTable.grown qh.size)
    have rf:=relayAll_fits t2 qh (SetTable.grown qh.size)
    have rl:=K4 t2 qh (SetTable.grown qh.size)
    have rq:=CK t2 qh (SetTable.grown qh.size) p2
    generalize hR:relayAll t2 qh (SetTable.grown qh.size)=R at rp rf rl rq ⊢
    obtain⟨Ym,t3,aFN⟩:=R
    dsimp only at rp rf rl rq ⊢
    rw[e1]at rp
    obtain⟨Qi,e2,p2'⟩:=Dj rp
    have aAy:Qi.length=l.length+1:=by rw[p2'.length_eq,aAz]
    have aD0:Ym.size=l.length+1:=by rw[<-dF,e2,aM,aAy]
    refine az (gw _ ?_)
    refine az (wpAny_storeSet_of g1 rfl ?_ (by rw[aD0];exact zp room))
    have g2:((s.heap.update a (Obj.putSet qh t2)).update a (Obj.putSet Ym t3)).get? a=some (ia Ym (ep+1+1) t3):=by
     have:=oV (Obj.putSet Ym t3) g1 (by rw[putSet_of Ym t3 (show(ia qh (ep+1) t2).data=_ from rfl)];rfl)
     rw[putSet_of Ym t3 (show(ia qh (ep+1) t2).data=_ from rfl)]at this;exact this
    refine aK ⟨true,rfl,q _ Qi true (sb.trans (tQ _ a _)) ⟨⟨Ym,_,t3,g2,e2,rf,by rw[rl,l2,Qs],λ_=>rq⟩,by rw[(p2'.map (·.1)).nodup_iff];exact nd1,by lia⟩ (λz=>by rw[(p2'.map (·.1)).mem_iff];exact aAu z) (by lia)⟩
   ·exact aK ⟨true,rfl,q _ l1 true sb ⟨⟨qh,_,t2,g1,e1,f2,by rw[l2,Qs],λ_=>p2⟩,nd1,by lia⟩ aAu (by lia)⟩
  split
  ·rename_i J3
   refine az ?_
   rw[hashByValue_scannable 8 (show(Value.str x tk).scannable=true from rfl)]
   refine aK ?_
   rw[show(if plainKind (Value.str x tk)=true then t1 else { t1 with plain:=false })={ t1 with plain:=false } from rfl]
   refine dq (fin { t1 with plain:=false } (SetTable.fits_plain_off pf) pl rfl) (λr s' h=>?_) λ_ _ h=>h
   obtain⟨b,rfl,hq⟩:=h
   exact aK hq
  ·rename_i J3
   refine az (aK ?_)
   simp only[↓reduceIte]
   refine dq (fin t1 pf pl (by simpa using J3)) (λr s' h=>?_) λ_ _ h=>h
   obtain⟨b,rfl,hq⟩:=h
   exact aK hq
end
section
variable {P:Program}{w:World}{A:Around}{R:Result->Shared->Prop}{I:Addr}{fp wr:List Addr}{G:Array GenState->Array GenState->Prop}{n:Nat}{Pv:Nat->Value->Prop}{St:Nat->Shared->Prop}
theorem Qc(W:WalksS P w A.in1 I fp wr G n Pv St)(S:Addr)(hSf:S∉fp)(val:Nat->Str)(hval:∀i v,Pv i v->∃t,v=.str (val i) t)(hb:n+1<scanBound) :
  ∀(k i:Nat) (s:Shared) (l:List (Str×Tok)),n-i=k->i<=n->St i s->lZ w s.heap S l->l.length<=i->(∀z,z∈l.map (·.1)↔∃j,j<i/\val j=z)->
   (∀s' l',Moved (S::wr) G s s'->lZ w s'.heap S l'->(∀z,z∈l'.map (·.1)↔∃j,j<n/\val j=z)->R (.ok (.ret .none)) s')->
   codeAny (model P w) A (.builtin "set.update.loop" ⟨[.ref S,.ref I],[]⟩) R s:=by
 have nw:S∉wr:=λz=>hSf (W.sub _ z)
 have up:∀b∈wr,b∈S::wr:=λb z=>fw _ z
 intro k
 induction k with
 | zero=>
  intro i s l hk hi st hS hl hm r
  obtain rfl:i=n:=by lia
  refine mz F.entry_set_update_loop ?_
  rw[vh FZ _]
  refine az (m:=pyNext (.ref I)) (W.done s _ _ st λs' mv=>?_)
  refine aK (r s' l (mv.mono up) (hS.at λo e=>mv.heap S o nw e) hm)
 | succ k ih=>
  intro i s l hk hi st hS hl hm r
  have lt:i<n:=by lia
  refine mz F.entry_set_update_loop ?_
  rw[vh FZ _]
  refine az (m:=pyNext (.ref I)) (W.item i s _ _ lt st λv s' pv bu mv=>?_)
  obtain⟨t,rfl⟩:=hval i v pv
  have hS':=hS.at (h':=s'.heap) λo e=>mv.heap S o nw e
  refine az (m:=holding [Value.str (val i) t] (setAdd S (.str (val i) t))) (iY ?_)
  unfold setAdd
  refine iY (az ((PySem.strKind P w).pyHash (k:=val i) (strKind_is _ _ _ _) ?_))
  refine U7 (s:={ s' with toks:=s'.toks+1 }) hS' (by lia) λh' l' b sb S2 m2 aAy=>?_
  refine aK ⟨vo FZ _,ih (i+1) _ l' (by lia) lt (W.frame _ s' _ _ bu (iX _) λc hc o e=>?_) S2 (by lia) (λz=>?_) λs2 l2 mv2 S3 m3=>?_⟩
  ·rw[sb.2 c (λq:c=S=>hSf (by rw[<-q];exact hc))];exact e
  ·rw[m2 z,hm z]
   constructor
   ·rintro(⟨j,hj,e⟩ | e)
    ·exact⟨j,by lia,e⟩
    ·exact⟨i,by lia,e.symm⟩
   ·rintro⟨j,hj,e⟩
    by_cases q:j=i
    ·subst q;exact .inr e.symm
    ·exact .inl ⟨j,by lia,e⟩
  ·refine r s2 l2 (Moved.trans W.gtrans ((mv.mono up).then_heap (iX _) λc o hc e=>?_) mv2) S3 m3
   rw[sb.2 c (λq:c=S=>hc (by rw[q];exact di))];exact e
end
theorem Jj:∀{vs:List Value} {ss:List Str},StrsAre vs ss->∀(i:Nat) (v:Value),vs[i]?=some v->∃t,v=.str (ss.getD i "") t
 | _,_,.nil,i,v,h=>by cases i <;> cases h
 | _,_,.cons y t r,0,v,h=>by cases h;exact⟨t,rfl⟩
 | _,_,.cons y t r,i+1,v,h=>by
  obtain⟨u,e⟩:=Jj r i v (by simpa using h)
  exact⟨u,by rw[e];rfl⟩
section
variable {P:Program}{w:World}{A:Around}{E:Value->Shared->Prop}{s:Shared}
theorem Sl{x:Value}{Q:Value->Shared->Prop}(h:Q (.ref s.heap.objs.size) { s with heap:=s.heap.push (ia #[] 0 (.fresh 0 0 (!BX w))) }) :
  codeAny (model P w) A (.call (.builtin "set.__new__") ⟨[.type "set",x],[]⟩) (wants Q E) s:=by
 refine codeAny_of_tree ?_
 refine az (m:=checkBuiltinCall "set.__new__" ⟨[.type "set",x],[]⟩) (vk (PySem.F.newCall_set_1 x) (aK ⟨vo PySem.F.plain_set_new _,mz PySem.F.entry_set_new ?_⟩))
 rw[vh PySem.F.plain_set_new _]
 unfold Builtin.«set.__new__» Builtin.Frozenset.newClass
 have aD2:=sub_set_self
 obtain⟨hp,g,d,tk,os⟩:=s
 dsimp only
 wp_walk
 refine wpAny_askSetting (aK ?_)
 dsimp only
 simp only[newObj]
 refine az (wpAny_alloc (aK (aK h)))
theorem N6{l:Addr}{items:Array Value}{ss:List Str}{Q:Value->Shared->Prop}(hh:A.handled=none)(hl:s.heap.IsList l items)(hi:StrsAre items.toList ss)(hb:items.size+1<scanBound)
  (h:∀(h':Heap) (tk:Nat) (ls:List (Str×Tok)),lZ w h' s.heap.objs.size ls->(∀z,z∈ls.map (·.1)↔z∈ss)->(∀b o,b<s.heap.objs.size->s.heap.get? b=some o->h'.get? b=some o)->Q (.ref s.heap.objs.size) { s with heap:=h',toks:=tk }) :
  wpAny (model P w) A (call (.type "set") [.ref l]) Q E s:=by
 have e:∀z:Str,(∃j,j<items.size/\ss.getD j "" = z)↔z∈ss:=λz=>by
  have hlen:items.size=ss.length:=by rw[<-dF];exact hi.length
  rw[hlen,gD]
  constructor
  ·rintro⟨j,hj,e⟩;exact⟨j,hj,by rw[<-e];simp[hj]⟩
  ·rintro⟨j,hj,e⟩;exact⟨j,hj,by rw[<-e];simp[hj]⟩
 obtain⟨c,tl,aFV⟩:=tP.mro
 have aFL:=tP.made
 have aD2:=tP.sub
 refine rB (codeAny_of_tree (aK (a:=_) ⟨Code.quiet_builtin _ (by decide +kernel),mz PySem.F.entry_type_call ?_⟩))
 rw[Around.under_plain (weight_type_call_type "set" [.ref l] []) rfl]
 have h1:=tP.notType
 have h2:=tP.canCreate
 have hct:=PySem.F.typeCall_set_1 (.ref l)
 repeat (any_goals (first | assumption | wp_step))
 refine px (Sl (x:=.ref l) (E:=E) (Q:=λobj s₁=>obj=.ref s.heap.objs.size/\s₁={ s with heap:=s.heap.push (ia #[] 0 (.fresh 0 0 (!BX w))) }) ⟨rfl,rfl⟩) λr s₁ hr=>?_
 cases r with
 | error e=>exact hr
 | ok fl=>
  cases fl with
  | ret obj=>
   obtain⟨rfl,rfl⟩:=hr
   have hS:(s.heap.push (ia #[] 0 (.fresh 0 0 (!BX w)))).get? s.heap.objs.size=some (ia #[] 0 (.fresh 0 0 (!BX w))):=dD _ rfl
   have hT:Shared.TypeIs { s with heap:=s.heap.push (ia #[] 0 (.fresh 0 0 (!BX w))) } (.ref s.heap.objs.size) "set":=⟨_,hS,rfl⟩
   have hli:=tP.init.lookup
   have hbi:=tP.init.bind (.ref s.heap.objs.size)
   repeat (any_goals (first | assumption | wp_step))
   refine px (Gg (R:=wants (λr s₂=>r=.none/\∃h' tk ls,s₂={ s with heap:=h',toks:=tk }/\lZ w h' s.heap.objs.size ls/\(∀z,z∈ls.map (·.1)↔z∈ss)/\
     (∀b o,b<s.heap.objs.size->s.heap.get? b=some o->h'.get? b=some o)) E) tP.init.plain PySem.F.entry_set_init (check_set_init_1 hT ?_)) λr₂ s₂ hr₂=>?_
   ·obtain⟨ol,hol,qW,nl,hdl⟩:=hl
    obtain⟨aFP,aAp,aFH,Xb⟩:=ol
    simp only at qW hdl
    subst qW;subst hdl
    have aD8:(s.heap.push (ia #[] 0 (.fresh 0 0 (!BX w)))).get? l=some { cls:=.type "list",dict:=aAp,data:=.seq items nl,slots:=Xb }:=cF _ hol
    have aFT:=PySem.F.sub_list_set
    have aFU:=PySem.F.sub_list_frozenset
    have rz:(Value.type "list" == Value.type "dict")=false:=by decide
    have RL:(s.heap.push (ia #[] 0 (.fresh 0 0 (!BX w)))).IsList l items:=⟨_,aD8,rfl,nl,rfl⟩
    unfold Builtin.«set.__init__» noKeywords Builtin.Frozenset.updateFrom
    unfold ia at *
    generalize hPI:pyIter=PI
    wp_walk
    subst hPI
    refine zr RL (az (wpAny_runValue ?_))
    have hlS:l<s.heap.objs.size:=aS hol
    have hh3:A.in1.in1.in1.handled=none:=by simp[hh]
    have hsz:(s.heap.push (ia #[] 0 (.fresh 0 0 (!BX w)))).objs.size=s.heap.objs.size+1:=rG _ _
    have aEb:l≠(s.heap.push (ia #[] 0 (.fresh 0 0 (!BX w)))).objs.size:=by rw[hsz];exact bK (pH hlS)
    have hSf:s.heap.objs.size∉[(s.heap.push (ia #[] 0 (.fresh 0 0 (!BX w)))).objs.size,l]:=by
     rw[hsz];simp only[dR,bR,zt,or_false,not_or];exact⟨bK (FN _),kI hlS⟩
    refine Qc ((Walks.list hh3 _ l aEb items).toS) s.heap.objs.size hSf (λj=>ss.getD j "") (λi v hv=>?hv) hb (items.size-0) 0 _ [] (by lia) (dG _)
     ⟨⟨_,dD _ rfl,rfl,rfl⟩,(RL.push _)⟩ ?hS0 (dG _) (λz=>⟨(λz=>nomatch z),λ⟨_,hj,_⟩=>absurd hj (rS _)⟩) ?hR
    case hv=>exact Jj hi i v (by rw[lO];exact hv)
    case hS0=>exact⟨⟨#[],0,_,cF _ hS,rfl,rfl,rfl,λz=>absurd rfl z⟩,rM,by decide⟩
    case hR=>
     intro s' l' hm hS' mem
     obtain⟨h',g',d',tk',os'⟩:=s'
     have eg:g'=s.gens:=hm.gens
     have ed:d'=s.drawn:=hm.drawn
     have eo:os'=s.os:=hm.os
     subst eg;subst ed;subst eo
     refine aK (aK ⟨rfl,h',tk',l',rfl,hS',λz=>(mem z).trans (e z),λb o hb e=>?_⟩)
     refine hm.heap b o ?_ (cF _ (cF _ e))
     rw[hsz]
     simp only[dR,bR,zt,or_false,not_or];exact⟨bK hb,bK (pH hb)⟩
   ·cases r₂ with
    | error e=>exact hr₂
    | ok fl₂=>
     cases fl₂ with
     | ret r=>
      obtain⟨rfl,h',tk,ls,rfl,hS',hm',Ie⟩:=hr₂
      repeat (any_goals (first | assumption | wp_step))
      exact h _ _ _ hS' hm' Ie
     | _=>exact hr₂.elim
  | _=>exact hr.elim
end
theorem e8:Slot "set_iterator" "__next__" "set_iterator.__next__":=
 .of (owner:="set_iterator") (n:="__next__") (by rw[typeLookup_type,builtinLookup_eq_fast];kernel_rfl) (by decide +kernel) (by decide +kernel) (by decide +kernel)
  (.inl (by decide +kernel)) (by rw[isSubtype_type];kernel_rfl)
theorem qE:Slot "set_iterator" "__iter__" "set_iterator.__iter__":=
 .of (owner:="set_iterator") (n:="__iter__") (by rw[typeLookup_type,builtinLookup_eq_fast];kernel_rfl) (by decide +kernel) (by decide +kernel) (by decide +kernel)
  (.inl (by decide +kernel)) (by rw[isSubtype_type];kernel_rfl)
theorem oY:entryFor table "set_iterator.__next__" = some Builtin.«set_iterator.__next__»:=entryFor_of_tree (by kernel_rfl)
theorem w6:entryFor table "set_iterator.__iter__" = some Builtin.«dict_keyiterator.__iter__»:=
 entryFor_alias (id':="dict_keyiterator.__iter__") (by kernel_rfl) rfl (by decide +kernel) (by kernel_rfl)
theorem xc:entryFor table "set.__iter__" = some Builtin.«frozenset.__iter__»:=
 entryFor_alias (id':="frozenset.__iter__") (by kernel_rfl) rfl (by decide +kernel) (by kernel_rfl)
theorem Cw:Manifest.owners.lookup (String.ofList "rotareti_tes".toList.reverse)=some Manifest.sig_set_iterator:=by kernel_rfl
theorem qF(a:Value):argsOk "set_iterator.__next__" ⟨[a],[]⟩:=by
 unfold argsOk;rw[signature?_of (id:="set_iterator.__next__") (n:="__txen__".toList) (o:="rotareti_tes".toList) (by kernel_rfl) Cw];kernel_rfl
theorem Aa(a:Value):argsOk "set_iterator.__iter__" ⟨[a],[]⟩:=by
 unfold argsOk;rw[signature?_of (id:="set_iterator.__iter__") (n:="__reti__".toList) (o:="rotareti_tes".toList) (by kernel_rfl) Cw];kernel_rfl
def oZ(first:Value)(i n ep:Nat)(a:Addr):Obj:={ cls:=.type "set_iterator",data:=.fields #[first,.int i 0,.ref a,.int n 0,.int ep 0] }
section
variable {P:Program}{w:World}{A:Around}{E:Value->Shared->Prop}{s:Shared}{a I:Addr}{es:Array (Int×Value)}{t:SetTable}{ep i n:Nat}{first:Value}
theorem qD(hI:s.heap.get? I=some (oZ first i n ep a)):s.TypeIs (.ref I) "set_iterator":=⟨_,hI,rfl⟩
theorem Jo{Q:Value->Shared->Prop}(hI:s.heap.get? I=some (oZ first i n ep a))(q:Q (.ref I) s):wpAny (model P w) A (pyIter (.ref I)) Q E s:=by
 refine wpAny_pyIter_slot (qD hI) qE (lL qE (qD hI) w6 ?_ (Aa _))
 exact aK ⟨_,rfl,"set_iterator",_,qD hI,e8.lookup,q⟩
theorem N5{slot:Nat}{tk:Tok}{r:Option (Value×Nat)}{Q:Option Value->Shared->Prop}(hh:A.handled=none)(hI:s.heap.get? I=some (oZ (.int slot tk) i n ep a))(hS:s.heap.get? a=some (ia es ep t))(hf:t.fits es.size=true)(hn:es.size=n)
  (hx:∀(B:Around) (E':Value->Shared->Prop) (Q':Option (Value×Nat)->Shared->Prop),Q' r s->wpAny (model P w) B (setNext a slot i ep) Q' E' s)
  (q:match r with
   | some (x,nx)=>∀h',h'.get? I=some (oZ (.int (nx:Int) 0) (i+1) n ep a)->Heap.SameBut I s.heap h'->Q (some x) { s with heap:=h' }
   | none=>∀h',Heap.ExtBut I s.heap h'->Q none { s with heap:=h' }):wpAny (model P w) A (pyNext (.ref I)) Q E s:=by
 have hT:=qD hI
 unfold pyNext
 refine az (rE (vH (name:=Str.ofString "__next__") hT e8 (lL e8 hT oY ?_ (qF _))))
 unfold Builtin.«set_iterator.__next__»
 refine az (m:=slotArgs _ _ _) (aK ?_)
 refine az (rH hI rfl ?_)
 refine az (m:=setEntries a) (FW hS rfl hf ?_)
 rw[aA (by rw[hn];simp)]
 refine az (m:=setNext a slot i ep) (hx _ _ _ ?_)
 cases r with
 | some p=>
  obtain⟨x,nx⟩:=p
  dsimp only at q ⊢
  refine az (m:=setField (.ref I) 0 (rawInt nx)) (rZ hI (by simp) λh1 e1 ZX=>?_)
  refine az (m:=setField (.ref I) 1 (rawInt (i+1))) (rZ e1 (by simp) λh2 e2 ZV=>?_)
  exact aK ⟨x,rfl,aK (q h2 (by rw[e2];rfl) (ZX.trans ZV))⟩
 | none=>
  dsimp only at q ⊢
  refine az (m:=setField (.ref I) 2 .none) (rZ hI (by simp) λh1 e1 ZX=>?_)
  refine az (m:=newExc (.type "StopIteration") []) ?_
  simp only[newExc,newTuple]
  refine az (iH ?_ (by size_fits))
  refine az (m:=firstArgMember _ _) (vk (a:=Value.none) (by first | rfl | (simp only[firstArgMember];rfl)) ?_)
  refine iH (FV hh ?_) (by size_fits)
  refine az (rN (T:="StopIteration") (b:=true) ⟨_,dD _ rfl,rfl⟩ isSubtype_stop ?_)
  exact aK (q _ ((ZX.extBut.push _).push _))
theorem N4{p:Addr}{vs:Array Value}{c:Nat}{r:Option Value}{Q:Option Value->Shared->Prop}(hh:A.handled=none)(hI:s.heap.get? I=some (oZ (.ref p) i n ep a))(hS:s.heap.get? a=some (ia es ep t))(hf:t.fits es.size=true)(hn:es.size=n)
  (hp:s.heap.get? p=some { cls:=.type "tuple",data:=.seq vs c })
  (hv:match r with | some x=>∃(k:Nat) (z:Int),vs[i]?=some (.int k 0)/\es[k]?=some (z,x) | none=>vs[i]?=none)
  (q:match r with
   | some x=>∀h',h'.get? I=some (oZ (.ref p) (i+1) n ep a)->Heap.SameBut I s.heap h'->Q (some x) { s with heap:=h' }
   | none=>∀h',Heap.ExtBut I s.heap h'->Q none { s with heap:=h' }):wpAny (model P w) A (pyNext (.ref I)) Q E s:=by
 have hT:=qD hI
 unfold pyNext
 refine az (rE (vH (name:=Str.ofString "__next__") hT e8 (lL e8 hT oY ?_ (qF _))))
 unfold Builtin.«set_iterator.__next__»
 refine az (m:=slotArgs _ _ _) (aK ?_)
 refine az (rH hI rfl ?_)
 refine az (m:=setEntries a) (FW hS rfl hf ?_)
 rw[aA (by rw[hn];simp)]
 refine az (m:=seqItems? (.ref p)) (wpAny_seqItems hp rfl ?_)
 cases r with
 | some x=>
  obtain⟨k,z,e1,e2⟩:=hv
  dsimp only at q ⊢
  simp only[sd,e1]
  refine az (m:=setNextDrawn a k ep) ?_
  unfold setNextDrawn
  refine az (rT hS rfl hf ?_)
  dsimp only
  rw[aA (by simp)]
  simp only[e2]
  refine aK ?_
  refine az (m:=setField (.ref I) 1 (rawInt (i+1))) (rZ hI (by simp) λh2 e2 ZV=>?_)
  exact aK ⟨x,rfl,aK (q h2 (by rw[e2];rfl) ZV)⟩
 | none=>
  dsimp only at q hv ⊢
  simp only[sd,hv]
  refine az (m:=setField (.ref I) 0 (rawInt 0)) (rZ hI (by simp) λh0 e0 sb0=>?_)
  refine az (m:=setField (.ref I) 2 .none) (rZ e0 (by simp) λh1 e1 ZX=>?_)
  refine az (m:=newExc (.type "StopIteration") []) ?_
  simp only[newExc,newTuple]
  refine az (iH ?_ (by size_fits))
  refine az (m:=firstArgMember _ _) (vk (a:=Value.none) (by first | rfl | (simp only[firstArgMember];rfl)) ?_)
  refine iH (FV hh ?_) (by size_fits)
  refine az (rN (T:="StopIteration") (b:=true) ⟨_,dD _ rfl,rfl⟩ isSubtype_stop ?_)
  exact aK (q _ (((sb0.trans ZX).extBut.push _).push _))
end
theorem pW{α:Type}:∀(l:List α) (i:Nat) (x:α),l[i]?=some x->(x::l.eraseIdx i).Perm l
 | [],i,x,h=>by cases i <;> cases h
 | y::l,0,x,h=>by cases h;exact zh _
 | y::l,i+1,x,h=>by
  rw[zJ]at h
  rw[List.eraseIdx_cons_succ]
  exact(List.Perm.swap y x _).trans ((pW l i x h).cons y)
theorem JG{α:Type}(next:Nat->Nat):∀(f k:Nat) (l:List α) (out:Array α),l.length=f->(pickOrder.go next f k l out).toList.Perm (out.toList++l)
 | 0,k,l,out,h=>by
  rw[List.length_eq_zero_iff.mp h,jB]
  unfold pickOrder.go
  exact zh _
 | f+1,k,l,out,h=>by
  unfold pickOrder.go
  have lt:next k%l.length<l.length:=Nat.mod_lt _ (by lia)
  have e:l[next k%l.length]?=some l[next k%l.length]:=bD lt
  rw[e]
  dsimp only
  refine(JG next f (k+1) _ _ (by rw[GC lt];lia)).trans ?_
  rw[tO,j3]
  exact(pW l _ _ e).append_left _
theorem ym{α:Type}(next:Nat->Nat)(xs:Array α):(pickOrder next xs).toList.Perm xs.toList:=by
 unfold pickOrder
 have:=JG next xs.size 0 xs.toList #[] dF
 simpa using this
section
variable {P:Program}{w:World}{A:Around}{E:Value->Shared->Prop}
theorem yD{α:Type}:∀(n:Nat) (xs:List α) (s:Shared) (Q:List α->Shared->Prop),xs.length=n->(∀ys d,ys.Perm xs->Q ys { s with drawn:=d })->wpAny (model P w) A (drawOrder n xs) Q E s
 | 0,xs,s,Q,h,q=>by
  have:xs=[]:=List.length_eq_zero_iff.mp h
  subst this
  unfold drawOrder
  exact aK (by cases s;exact q [] _ (zh _))
 | n+1,[],s,Q,h,q=>by cases h
 | n+1,x::xs,s,Q,h,q=>by
  unfold drawOrder
  have lt:w.draws .order (s.drawn.get .order)%(x::xs).length<(x::xs).length:=Nat.mod_lt _ (by simp)
  refine az (m:=choose .order (x::xs).length) (λΓ p hΓ=>?_)
  refine⟨by simp,?_⟩
  have e:(x::xs)[w.draws .order (s.drawn.get .order)%(x::xs).length]?=some (x::xs)[w.draws .order (s.drawn.get .order)%(x::xs).length]:=bD lt
  show wpAny (model P w) A (match (x::xs)[w.draws .order (s.drawn.get .order)%(x::xs).length]? with
   | some y=>do let r <-drawOrder n ((x::xs).eraseIdx (w.draws .order (s.drawn.get .order)%(x::xs).length));pure (y::r)
   | none=>unsupported "internal:drawOrder") Q E { s with drawn:=s.drawn.bump .order }
  rw[e]
  dsimp only
  refine az (yD n _ _ _ (by rw[GC lt];simp at h ⊢;lia) λys d hp=>aK ?_)
  exact q _ d ((hp.cons _).trans (pW _ _ _ e))
variable {s:Shared}{a:Addr}{es:Array (Int×Value)}{t:SetTable}{ep slot i:Nat}
theorem lD{Q:Bool->Shared->Prop}(q:Q (BX w) s):wpAny (model P w) A setsByText Q E s:=by
 unfold setsByText
 exact az (wpAny_askSetting (aK q))
theorem DG{Q:Option (Value×Nat)->Shared->Prop}(hb:BX w=true)(hS:s.heap.get? a=some (ia es ep t))(hf:t.fits es.size=true)(q:Q (((pickOrder (w.params.setOrder a ep) es)[i]?).map λe=>(e.2,slot)) s) :
  wpAny (model P w) A (setNext a slot i ep) Q E s:=by
 unfold setNext
 refine az (rT hS rfl hf (az (lD ?_)))
 rw[hb]
 dsimp only
 rw[aB rfl,aA (by simp)]
 refine az ?_
 unfold setWalk
 refine az (rT hS rfl hf (az (lD ?_)))
 rw[hb,aB rfl]
 exact az (wpAny_askSetting (aK (aK q)))
theorem PN{Q:Option (Value×Nat)->Shared->Prop}(hb:BX w=false)(hl:t.led=true)(hz:es.size<=1)(hS:s.heap.get? a=some (ia es ep t))(hf:t.fits es.size=true)
  (q:Q (match es[SetTable.below t.place slot]?,t.place[SetTable.below t.place slot]? with | some (_,x),some j=>some (x,j+1) | _,_=>none) s):wpAny (model P w) A (setNext a slot i ep) Q E s:=by
 unfold setNext
 refine az (rT hS rfl hf (az (lD ?_)))
 rw[hb]
 dsimp only
 rw[aA (by simp)]
 have d:(!t.plain&&decide (es.size > 1))=false:=by
  rw[Bool.and_eq_false_iff];right;simpa using hz
 show wpAny _ _ (if (!t.plain&&decide (es.size > 1))=true then _ else _) _ _ _
 rw[d,aA (by simp)]
 show wpAny _ _ ((if (!t.led && !es.isEmpty)=true then _ else _) >>= _) _ _ _
 rw[hl,mw,Bool.false_and,aA (by simp)]
 exact az (aK (aK q))
end
section
variable {P:Program}{w:World}{B:Around}{a I:Addr}{es:Array (Int×Value)}{t:SetTable}{ep n:Nat}{ord:List Value}
theorem xV(slotAt:Nat->Nat)(hh:B.handled=none)(rz:a≠I)(hf:t.fits es.size=true)(hn:es.size=n)(ho:ord.length=n)
  (hx:∀i,i<=n->∀(s:Shared) (C:Around) (E':Value->Shared->Prop) (Q':Option (Value×Nat)->Shared->Prop),s.heap.get? a=some (ia es ep t)->Q' ((ord[i]?).map λv=>(v,slotAt (i+1))) s->wpAny (model P w) C (setNext a (slotAt i) i ep) Q' E' s) :
  WalksS P w B I [I,a] [I] (λx y=>y=x) n (λi v=>ord[i]?=some v) (λi s=>s.heap.get? I=some (oZ (.int (slotAt i) 0) i n ep a)/\s.heap.get? a=some (ia es ep t)) where
 sub:=λb hb=>by rw[bR.mp hb];exact di
 grefl:=λ_=>rfl
 gtrans:=λ_ _ _ h1 h2=>h2.trans h1
 frame:=λi s h' tk st _ k=>⟨k I (by simp) _ st.1,k a (by simp) _ st.2⟩
 item:=λi s Q E hi st q=>by
  have e:ord[i]?=some ord[i]:=bD (by rw[ho];exact hi)
  refine N5 (r:=some (ord[i],slotAt (i+1))) hh st.1 st.2 hf hn (λC E' Q' hq=>hx i (jb hi) s C E' Q' st.2 (by rw[e];exact hq)) λh' h1 h2=>?_
  exact q _ _ e ⟨h1,h2.extBut a _ rz st.2⟩ ⟨λb o hb z=>h2.extBut b o (λy=>hb (by rw[y];exact bR.mpr rfl)) z,rfl,rfl,rfl,aU _⟩
 done:=λs Q E st q=>by
  have e:ord[n]?=none:=jE (by rw[ho];exact aU _)
  refine N5 (r:=none) hh st.1 st.2 hf hn (λC E' Q' hq=>hx n (aU _) s C E' Q' st.2 (by rw[e];exact hq)) λh' h1=>?_
  exact q _ ⟨λb o hb z=>h1 b o (λy=>hb (by rw[y];exact bR.mpr rfl)) z,rfl,rfl,rfl,aU _⟩
 self:=λi s Q E st q=>Jo st.1 q
theorem Ky{p:Addr}{pl:List Nat}{c:Nat}(hh:B.handled=none)(rz:a≠I)(hnp:p≠I)(hf:t.fits es.size=true)(hn:es.size=n)(ho:ord.length=n)(hl:pl.length=n)
  (hx:∀i:Nat,i<n->∃(k:Nat) (z:Int) (x:Value),pl[i]?=some k/\es[k]?=some (z,x)/\ord[i]?=some x) :
  WalksS P w B I [I,a,p] [I] (λx y=>y=x) n (λi v=>ord[i]?=some v)
   (λi s=>s.heap.get? I=some (oZ (.ref p) i n ep a)/\s.heap.get? a=some (ia es ep t)/\s.heap.get? p=some { cls:=.type "tuple",data:=.seq (pl.map λ(j:Nat)=>Value.int j 0).toArray c }) where
 sub:=λb hb=>by rw[bR.mp hb];exact di
 grefl:=λ_=>rfl
 gtrans:=λ_ _ _ h1 h2=>h2.trans h1
 frame:=λi s h' tk st _ k=>⟨k I (by simp) _ st.1,k a (by simp) _ st.2.1,k p (by simp) _ st.2.2⟩
 item:=λi s Q E hi st q=>by
  obtain⟨k,z,x,e1,e2,e3⟩:=hx i hi
  refine N4 (r:=some x) hh st.1 st.2.1 hf hn st.2.2 ⟨k,z,by simp[e1],e2⟩ λh' h1 h2=>?_
  exact q _ _ e3 ⟨h1,h2.extBut a _ rz st.2.1,h2.extBut p _ hnp st.2.2⟩ ⟨λb o hb z=>h2.extBut b o (λy=>hb (by rw[y];exact bR.mpr rfl)) z,rfl,rfl,rfl,aU _⟩
 done:=λs Q E st q=>by
  refine N4 (r:=none) hh st.1 st.2.1 hf hn st.2.2 (by simp[hl]) λh' h1=>?_
  exact q _ ⟨λb o hb z=>h1 b o (λy=>hb (by rw[y];exact bR.mpr rfl)) z,rfl,rfl,rfl,aU _⟩
 self:=λi s Q E st q=>Jo st.1 q
end
section
variable {P:Program}{w:World}{A:Around}{E:Value->Shared->Prop}{s:Shared}{a:Addr}{l:List (Str×Tok)}
theorem lZ.typeIs(S:lZ w s.heap a l):s.TypeIs (.ref a) "set":=let ⟨_,_,_,e,_⟩:=S.ex;⟨_,e,rfl⟩
def Ro(P:Program)(w:World)(z:Nat)(a:Addr)(l:List (Str×Tok))(I:Addr)(s':Shared):Prop:=
 ∃(ord:List Value) (fp:List Addr) (St:Nat->Shared->Prop),(∀B:Around,B.handled=none->WalksS P w B I fp [I] (λx y=>y=x) l.length (λi v=>ord[i]?=some v) St)/\St 0 s'/\
  (∀b∈fp,b<s'.heap.objs.size/\(b=a\/z<=b))/\I∈fp/\ord.Perm (l.map λp=>Value.str p.1 p.2)
theorem U1(x:Nat):SetTable.below #[x] 0=0:=by
 unfold SetTable.below SetTable.below.go
 simp[SetTable.below.go]
theorem below_1(x:Nat):SetTable.below #[x] (x+1)=1:=by
 unfold SetTable.below SetTable.below.go
 simp[SetTable.below.go]
theorem N7{Q:Value->Shared->Prop}(S:lZ w s.heap a l)
  (q:∀I s',s.heap.objs.size<=I->(∀b o,s.heap.get? b=some o->s'.heap.get? b=some o)->s'.gens=s.gens->s'.os=s.os->Ro P w s.heap.objs.size a l I s'->Q (.ref I) s'):wpAny (model P w) A (pyIter (.ref a)) Q E s:=by
 obtain⟨⟨es,ep,t,ho,VB,hf,Qs,yC⟩,nd,sz⟩:=id S
 have hsz:es.size=l.length:=by rw[<-dF,VB,aM]
 have hval:es.toList.map (·.2)=l.map λp=>Value.str p.1 p.2:=by rw[VB,iG];rfl
 have lt:a<s.heap.objs.size:=aS ho
 refine wpAny_pyIter_slot S.typeIs PySem.F.slot_set_iter (lL PySem.F.slot_set_iter S.typeIs xc ?_ (PySem.F.args_set_iter_1 _))
 unfold Builtin.«frozenset.__iter__»
 refine az (m:=Builtin.Frozenset.slot0 "__iter__" ⟨[.ref a],[]⟩) (vk (a:=a) rfl ?_)
 unfold Builtin.Frozenset.sizeOf
 refine az (az (FW ho rfl hf (aK ?_)))
 unfold setDrawn
 refine az (az (rT ho rfl hf (az (lD (aK ?_)))))
 have last:∀(first:Value) (s1:Shared),s1.heap.get? a=some (ia es ep t)->(∀b o,s.heap.get? b=some o->s1.heap.get? b=some o)->s.heap.objs.size<=s1.heap.objs.size->s1.gens=s.gens->s1.os=s.os->
   (∀s',s'.heap.get? s1.heap.objs.size=some (oZ first 0 es.size ep a)->(∀b o,s1.heap.get? b=some o->s'.heap.get? b=some o)->Ro P w s.heap.objs.size a l s1.heap.objs.size s')->
   wpAny (model P w) A.in1 (do let e <-setEpoch a;let v <-newFields "set_iterator" [first,rawInt 0,Value.ref a,rawInt es.size,rawInt e];ret v) (λfin s'=>∃v,fin=Fin.done (Flow.ret v)/\∃T' r,s'.TypeIs v T'/\typeLookup (Value.type T') (Str.ofString "__next__")=pure (some r)/\Q v s') E s1:=by
  intro first s1 h1 k1 z1 g1 o1 hw
  refine az (wpAny_setEpoch_of h1 rfl hf ?_)
  unfold newFields
  refine az (iH ?_ (by size_fits))
  have hI:(s1.heap.push { cls:=.type "set_iterator",data:=.fields [first,rawInt 0,Value.ref a,rawInt es.size,rawInt ep].toArray }).get? s1.heap.objs.size=some (oZ first 0 es.size ep a):=dD _ rfl
  refine aK ⟨_,rfl,"set_iterator",_,⟨_,hI,rfl⟩,e8.lookup,q _ _ z1 (λb o e=>cF _ (k1 b o e)) g1 o1 (hw _ hI λb o e=>cF _ e)⟩
 show wpAny _ _ (if (!BX w&&(!t.plain&&decide (es.size > 1)))=true then _ else _) _ _ _
 by_cases hd:(!BX w&&(!t.plain&&decide (es.size > 1)))=true
 ·rw[aB hd]
  refine az (yD es.size (List.range es.size) _ _ (by simp) λys d hp=>?_)
  have hyl:ys.length=es.size:=by rw[hp.length_eq,List.length_range]
  refine az (wpAny_newTuple ?_ (by rw[aM,hyl,hsz];exact zp sz))
  refine last (.ref s.heap.objs.size) _ (cF _ ho) (λb o e=>cF _ e) (by show _<=(Heap.push _ _).objs.size;rw[rG];exact iX _) rfl rfl λs' hI k=>?_
  have e1:(Heap.push s.heap { cls:=.type "tuple",data:=.seq (ys.map λ(i:Nat)=>rawInt i).toArray }).objs.size=s.heap.objs.size+1:=rG _ _
  have J4:=k s.heap.objs.size _ (dD _ rfl)
  have VG:=k a _ (cF _ ho)
  have RD:∀j∈ys,j<es.size:=λj hj=>my.mp (hp.mem_iff.mp hj)
  refine⟨ys.map λj=>(es.toList.map (·.2)).getD j .none,_,_,λC hC=>Ky (n:=l.length) (pl:=ys) (c:=0) (p:=s.heap.objs.size) (es:=es) (t:=t) (ep:=ep) (a:=a) hC (by rw[e1];exact bK (pH lt)) (by rw[e1];exact bK (FN _)) hf hsz (by rw[aM,hyl,hsz]) (by rw[hyl,hsz]) λi hi=>?_,⟨by rw[<-hsz];exact hI,VG,J4⟩,?_,by simp,?_⟩
  ·have u5:i<ys.length:=by rw[hyl,hsz];exact hi
   have hk:=RD ys[i] (rX u5)
   refine⟨ys[i],es[ys[i]].1,es[ys[i]].2,bD u5,g9 hk,?_⟩
   rw[cR,bD u5,pD,gi,cR,lO,g9 hk]
   rfl
  ·intro b hb
   simp only[dR,zt,or_false]at hb
   rcases hb with rfl | rfl | rfl
   ·exact⟨aS hI,.inr (by rw[e1];exact iX _)⟩
   ·exact⟨aS VG,.inl rfl⟩
   ·exact⟨aS J4,.inr (aU _)⟩
  ·rw[<-hval]
   refine(hp.map _).trans ?_
   rw[show(List.range es.size).map (λj=>(es.toList.map (·.2)).getD j .none)=es.toList.map (·.2) from ?_]
   refine ql λi=>?_
   by_cases hi:i<es.size
   ·simp[hi]
   ·simp[hi]
 ·rw[aA hd]
  refine az (aK ?_)
  refine last (rawInt 0) s ho (λ_ _ e=>e) (aU _) rfl rfl λs' hI k=>?_
  have VG:=k a _ ho
  have fpl:∀b∈[s.heap.objs.size,a],b<s'.heap.objs.size/\(b=a\/s.heap.objs.size<=b):=λb hb=>by
   simp only[dR,zt,or_false]at hb
   rcases hb with rfl | rfl
   ·exact⟨aS hI,.inr (aU _)⟩
   ·exact⟨aS VG,.inl rfl⟩
  cases hb:BX w with
  | true=>
   refine⟨(pickOrder (w.params.setOrder a ep) es).toList.map (·.2),_,_,λC hC=>xV (n:=l.length) (es:=es) (t:=t) (ep:=ep) (a:=a) (λ_=>0) hC (bK lt) hf hsz (by rw[aM,(ym _ es).length_eq,dF,hsz]) λi _ s1 C' E' Q' h1 hq=>?_,⟨by rw[<-hsz];exact hI,VG⟩,fpl,by simp,?_⟩
   ·refine DG hb h1 hf ?_
    rw[cR,lO,Option.map_map]at hq
    exact hq
   ·rw[<-hval];exact(ym _ es).map _
  | false=>
   have few:es.size<=1:=by
    rw[hb]at hd
    rcases Nat.lt_or_ge 1 es.size with h | h
    ·rw[yC (λz=>by rw[hsz,z]at h;exact absurd h (by decide))]at hd
     simp[h]at hd
    ·exact h
   have led:t.led=true:=by rw[Qs,hb];rfl
   have hpz:t.place.size=es.size:=by
    unfold SetTable.fits at hf
    rw[dh]at hf
    exact eq_of_beq hf.1
   refine⟨es.toList.map (·.2),_,_,λC hC=>xV (n:=l.length) (es:=es) (t:=t) (ep:=ep) (a:=a) (λi=>if i=0 then 0 else t.place.getD 0 0+1) hC (bK lt) hf hsz (by rw[aM,dF,hsz]) λi hi s1 C' E' Q' h1 hq=>?_,⟨by rw[<-hsz];exact hI,VG⟩,fpl,by simp,by rw[hval]⟩
   refine PN hb led few h1 hf ?_
   rcases Nat.eq_zero_or_pos es.size with z | z
   ·have e1:es = #[]:=Nk z
    have e2:t.place = #[]:=Nk (by rw[hpz,z])
    have e0:i=0:=by lia
    subst e0
    rw[e1]at hq
    rw[e1,e2]
    exact hq
   ·have z1:es.size=1:=by lia
    obtain⟨x,hx⟩:∃x,es = #[x]:=⟨es[0],Array.ext (by simp[z1]) λj h1 h2=>by
     have:j=0:=by simp at h2;exact h2
     subst this;rfl⟩
    obtain⟨j,hj⟩:∃j,t.place = #[j]:=⟨t.place[0]'(by lia),Array.ext (by simp[hpz,z1]) λj h1 h2=>by
     have:j=0:=by simp at h2;exact h2
     subst this;rfl⟩
    rw[hx,hj]at hq
    rw[hx,hj]
    rcases Nat.eq_zero_or_pos i with e0 | e0
    ·subst e0
     rw[aB rfl,U1]
     exact hq
    ·have e1:i=1:=by lia
     subst e1
     rw[aA (by decide),show(#[j]:Array Nat).getD 0 0=j from rfl,below_1]
     exact hq
theorem N8{Q:Bool->Shared->Prop}(hT:s.TypeIs (.ref a) "set")(q:Q false s):wpAny (model P w) A (Builtin.List.listLengthHint (.ref a)) Q E s:=by
 unfold Builtin.List.listLengthHint
 refine az (mB hT PySem.F.slot_set_len.lookup ?_)
 generalize hid:("set.__len__" : String)=id0
 wp_delta
 rw[show splitId id0=some ("set","__len__") from by subst hid;decide +kernel]
 subst hid
 refine az (rN (T:="set") (b:=true) hT (by rw[isSubtype_type];kernel_rfl) ?_)
 refine wpAny_ite_split (λz=>absurd z (by decide)) (λ_=>wpAny_ite_split (λ_=>?_) (λz=>absurd (by decide +kernel) z))
 exact az (wpAny_typeOf hT (aK q))
theorem Ew{Q:List Value->Shared->Prop}(hh:A.handled=none)(S:lZ w s.heap a l)
  (q:∀(s':Shared) (vs:List Value),(∀b o,s.heap.get? b=some o->s'.heap.get? b=some o)->s.heap.objs.size<=s'.heap.objs.size->s'.gens=s.gens->s'.os=s.os->vs.Perm (l.map λp=>Value.str p.1 p.2)->Q vs s'):wpAny (model P w) A (collect (.ref a)) Q E s:=by
 have lt:a<s.heap.objs.size:=let ⟨_,_,_,e,_⟩:=S.ex;aS e
 unfold collect
 refine az (wpAny_runValue (mz entry_proto_collect' ?_))
 rw[vh PySem.F.plain_proto_collect _]
 refine az (m:=newList []) (iH ?_)
 refine aK ⟨vo zK _,mz entry_list_iadd' ?_⟩
 rw[vh zK _]
 let L0:Obj:={ cls:=.type "list",data:=.seq ([]:List Value).toArray }
 have k0:∀b o,s.heap.get? b=some o->(s.heap.push L0).get? b=some o:=λb o e=>cF _ e
 have hL:(s.heap.push L0).get? s.heap.objs.size=some L0:=dD _ rfl
 have S0:lZ w (s.heap.push L0) a l:=S.at λo e=>k0 a o e
 show wpAny _ A.in1 (Builtin.List.listExtendWith (.ref s.heap.objs.size) (.ref a) (.ref s.heap.objs.size)) _ _ { s with heap:=s.heap.push L0 }
 unfold Builtin.List.listExtendWith
 refine az (wpAny_typeOf (T:="set") (lZ.typeIs (s:={ s with heap:=s.heap.push L0 }) S0) ?_)
 have h1:Builtin.List.listSameRef (.ref s.heap.objs.size) (.ref a)=false:=by simp[Builtin.List.listSameRef,kI lt]
 have h2:(Value.type "set" == Value.type "list")=false:=by decide
 have h3:(Value.type "set" == Value.type "tuple")=false:=by decide
 simp only[h1,h2,h3,Bool.or_false,fB,bU]
 refine az (N7 (s:={ s with heap:=s.heap.push L0 }) S0 λI s1 zI k1 g1 o1 W=>?_)
 have S1:lZ w s1.heap a l:=S0.at λo e=>k1 a o e
 have BW:=k1 _ _ hL
 have rz:s.heap.objs.size≠I:=by
  have:(s.heap.push L0).objs.size<=I:=zI
  rw[rG]at this
  exact bK this
 refine az (iY (N8 (lZ.typeIs S1) ?_))
 refine hide λgG hG=>?_
 obtain⟨ord,fp,St,wk,st,fpl,mI,po⟩:=W
 refine hG ?_
 have hlen:l.length<=sizeLine:=zp S.sz
 have z1:(s.heap.push L0).objs.size=s.heap.objs.size+1:=rG _ _
 have nf:s.heap.objs.size∉fp:=λz=>by
  rcases(fpl _ z).2 with e | e
  ·exact absurd e (kI lt)
  ·have e':(s.heap.push L0).objs.size<=s.heap.objs.size:=e
   rw[z1]at e'
   exact absurd e' (Nat.not_succ_le_self _)
 refine wpAny_ite_split (λ_=>?_) (λz=>absurd (by decide +kernel) z)
 refine az (iy (az ?_))
 show wpAny _ _ (updateSeq s.heap.objs.size (·.push .none) >>= λ_=>updateSeq s.heap.objs.size (·.pop)) _ _ _
 refine az (wpAny_updateSeq BW rfl ?_)
 have J7:=oV (Obj.mapSeq (·.push Value.none)) BW rfl
 refine wpAny_updateSeq (hz:=by seq_fits) J7 rfl ?_
 have hL3:=oV (Obj.mapSeq (·.pop)) J7 rfl
 have Xa:∀b o,b≠s.heap.objs.size->s1.heap.get? b=some o->((s1.heap.update s.heap.objs.size (Obj.mapSeq (·.push Value.none))).update s.heap.objs.size (Obj.mapSeq (·.pop))).get? b=some o:=
  λb o hb e=>(tU _ _ (fz hb)).trans ((tU _ _ (fz hb)).trans e)
 have W1:=wk A.in1 hh
 refine aK ⟨vo PySem.F.plain_extend_loop _,codeAny_extend_loopS W1 hlen _ nf _ l.length 0 _ #[] _ rfl (dG _) (W1.frame 0 s1 _ s1.toks st (aU _) λb hb o e=>Xa b o (λz=>nf (z ▸ hb)) e) hL3 (ItemsOf.nil _) λs2 acc c2 mv Zg Ei=>?_⟩
 refine az (m:=load s.heap.objs.size) (wpAny_load Zg (aK ?_))
 refine q s2 acc.toList (λb o e=>mv.heap b o (λhm=>?_) (Xa b o (bK (aS e)) (k1 b o (k0 b o e)))) (jb (aS Zg)) (mv.gens.trans g1) (mv.os.trans o1) ?_
 ·have iQ:b<s.heap.objs.size:=aS e
  rcases dR.mp hm with e1 | e1
  ·exact absurd e1 (bK iQ)
  ·rw[bR.mp e1]at iQ
   have:(s.heap.push L0).objs.size<=I:=zI
   rw[z1]at this
   exact absurd (dS iQ (Nat.le_of_succ_le this)) (j0 _)
 ·have e:acc.toList=ord:=by
   refine ql λj=>?_
   by_cases hj:j<l.length
   ·have h0:j<acc.size:=by rw[Ei.1];exact hj
    have h1:acc[j]?=some acc[j]:=g9 h0
    rw[lO,h1,Ei.2 j _ h1]
   ·rw[jE (by rw[dF,Ei.1];lia),jE (by rw[po.length_eq,aM];lia)]
  rw[e];exact po
theorem KQ{vs:List Value}{l:List (Str×Tok)}(po:vs.Perm (l.map λp=>Value.str p.1 p.2)):∃ts,StrsAre vs ts/\ts.Perm (l.map (·.1)):=by
 have:∃l':List (Str×Tok),vs=l'.map (λp:Str×Tok=>Value.str p.1 p.2)/\l'.Perm l:=by
  let back:Value->Str×Tok:=λe=>match e with | .str x t=>(x,t) | _=>(default,0)
  refine⟨vs.map back,?_,?_⟩
  ·rw[iG]
   conv=>lhs;rw[<-vn vs]
   refine tR λe he=>?_
   obtain⟨z,_,rfl⟩:=bH.mp (po.mem_iff.mp he)
   rfl
  ·have:=po.map back
   rw[iG,show(back ∘ λp:Str×Tok=>Value.str p.1 p.2)=id from rfl,vn]at this
   exact this
 obtain⟨l',rfl,pl⟩:=this
 refine⟨l'.map (·.1),?_,pl.map _⟩
 clear po pl
 induction l' with
 | nil=>exact .nil
 | cons p l' ih=>exact .cons p.1 p.2 ih
theorem yd{x:Value}{us:List Str}{Q:Value->Shared->Prop}(QG:us.length<64)
  (hc:∀(Q':List Value->Shared->Prop),(∀(s':Shared) (vs:List Value) (ts:List Str),(∀b o,s.heap.get? b=some o->s'.heap.get? b=some o)->s.heap.objs.size<=s'.heap.objs.size->s'.gens=s.gens->s'.os=s.os->StrsAre vs ts->ts.Perm us->Q' vs s')->wpAny (model P w) A.in1 (collect x) Q' E s)
  (q:∀(s':Shared) (D c:Nat) (vs:List Value) (ss:List Str),(∀b o,s.heap.get? b=some o->s'.heap.get? b=some o)->s.heap.objs.size<=D->s'.gens=s.gens->s'.os=s.os->s'.heap.get? D=some { cls:=.type "list",data:=.seq vs.toArray c }->StrsAre vs ss->
   ss.Perm us->sortedS ss=true->Q (.ref D) s'):wpAny (model P w) A (call (.builtin "sorted") [x]) Q E s:=by
 refine Calls.call_function_entry kind_sorted plain_sorted entry_sorted (args_sorted1 _) ?_
 unfold Builtin.«sorted»
 refine az (m:=checkCount "sorted" 1 1 _) (aK ?_)
 refine az (hc _ λs1 vs ts k1 old g1 o1 Y5 pts=>?_)
 have hl:vs.length=us.length:=by rw[Y5.length,pts.length_eq]
 refine az (vp ?_ (by rw[hl];exact cS (by lia)))
 have Mb:(s1.heap.push (seqObj "list" vs.toArray 0)).get? s1.heap.objs.size=some (seqObj "list" vs.toArray 0):=dD _ rfl
 refine az (iY (lL slot_list_sort ⟨_,Mb,rfl⟩ entry_list_sort (list_sort_treeK strKind_oneLt Mb Y5.keysOf (λv₁ v₂ rest e=>keyKind_strs (by rw[<-e];exact Y5)) (by lia) λbu a1 a2=>⟨_,rfl,?_⟩) (args_list_sort _)))
 refine hide λgG hG=>?_
 obtain⟨ss',e1,e2,e3⟩:=sorted_out_str Y5 a1 a2
 obtain⟨c,hc⟩:=sortedHeap_at (out:=(arrOf bu).map (·.2)) Mb
 refine hG ?_
 refine aK ⟨_,rfl,q _ s1.heap.objs.size c ((arrOf bu).map (·.2)).toList ss' (λb o e=>?_) old g1 o1 (by rw[hc]) e1 (e2.trans pts) e3⟩
 have lt:=aS (k1 b o e)
 show(sortedHeap _ _ _ _).get? b=some o
 rw[sortedHeap_old (bK lt) (by rw[size_push'];exact pH lt)]
 exact cF _ (k1 b o e)
end
theorem Inv.same{X:Cx}{pins:List (Addr×Obj)}{σ:List (Option V)}{H:Hp}{s s':Shared}(I:Inv X pins σ H s)(hh:s'.heap=s.heap)(hg:s'.gens=s.gens)(ho:s'.os=s.os):Inv X pins σ H s':=
 ⟨I.ok,by rw[ho];exact I.os,by rw[hg];exact I.bare,by rw[hh];exact I.base,by rw[hh];exact I.loc,by rw[hh];exact I.cell,I.free,I.lU,by rw[hh];exact I.pin,by rw[hh];exact I.bM,I.len⟩
def YB(w:World)(p:Addr)(ss:List Str):HO:=.ext λh=>∃l,lZ w h p l/\∀z,z∈l.map (·.1)↔z∈ss
section
variable {X:Cx}
def Z9(K:PySem.W.Frag)(w:World):List V->Hp->VK->Prop:=λvs H Q=>∃a ss,vs=[.ref a]/\oQ K H a (ss.map V.str)/\ss.length<4000/\∀p,H p=none->Q (.ref p) (upd H p (YB w p ss))
theorem Mz(hh:X.A.handled=none):dy X (.type "set") (Z9 X.K X.w):=by
 intro pins s σ H vs us Q I rv h
 refine hide λgG hG=>?_
 obtain⟨a,ss,rfl,hq,hn,q⟩:=h
 obtain⟨u,rfl,ru⟩:=vals1 rv
 refine hG ?_
 cases ru
 refine hide λgG hG=>?_
 obtain⟨its,r,pl,hz⟩:=I.list hq
 refine hG ?_
 have hl:=r.length
 rw[aM]at hl
 refine N6 (ss:=ss) hh pl.isList (pM r) (by show its.toArray.size+1<4096;rw[cZ];lia) λh' tk ls hS hm hk=>?_
 have Ie:∀b o,s.heap.get? b=some o->h'.get? b=some o:=λb o e=>hk b o (aS e) e
 refine⟨.ref s.heap.objs.size,_,I.laid (t':=tk) (o:=YB X.w s.heap.objs.size ss) Ie (aU _) ?_,rfl,q _ I.fresh⟩
 exact⟨⟨ls,hS,hm⟩,(let ⟨_,_,_,e,_⟩:=hS.ex;⟨_,e⟩),λh1 h2 ⟨l1,x1,m1⟩ k=>⟨l1,x1.at k,m1⟩⟩
def He(w:World):List V->Hp->VK->Prop:=λvs H Q=>∃a ss,vs=[.ref a]/\H a=some (YB w a ss)/\ss.length<64/\
 ∀ss':List Str,(∀z,z∈ss'↔z∈ss)->ss'.Nodup->sortedS ss'=true->∀p,H p=none->Q (.ref p) (upd H p (.lst (ss'.map V.str)))
theorem cP{α:Type} [DecidableEq α]:∀{l m:List α},l.Nodup->(∀x∈l,x∈m)->l.length<=m.length
 | [],m,_,_=>dG _
 | x::l,m,h,k=>by
  have hx:=k x di
  have:=cP (m:=m.erase x) (oR.mp h).2 λy hy=>(List.mem_erase_of_ne (λ(e:y=x)=>(oR.mp h).1 (by rw[<-e];exact hy))).mpr (k y (fw _ hy))
  rw[List.length_erase_of_mem hx]at this
  have p:0<m.length:=List.length_pos_of_mem hx
  rw[gb];lia
theorem wM(hh:X.A.handled=none):dy X (.builtin "sorted") (He X.w):=by
 intro pins s σ H vs us Q I rv h
 refine hide λgG hG=>?_
 obtain⟨a,ss,rfl,hq,hn,q⟩:=h
 obtain⟨u,rfl,ru⟩:=vals1 rv
 refine hG ?_
 cases ru
 refine hide λgG hG=>?_
 obtain⟨⟨l,hS,hm⟩,_,_⟩:=I.bM a _ hq
 refine hG ?_
 have hl:(l.map (·.1)).length<=ss.length:=cP hS.nd λx hx=>(hm x).mp hx
 refine yd (us:=l.map (·.1)) (by lia) (λQ' hQ'=>Ew (A:=X.A.in1) hh hS λs' vs k z g o po=>let ⟨ts,h1,h2⟩:=KQ po;hQ' s' vs ts k z g o h1 h2) λs' D c vs ss' k z g o hD Y3 YS uS=>?_
 have Bo:H D=none:=I.bM.fresh z
 have I1:Inv X pins σ (upd H D (.lst (ss'.map V.str))) { s with heap:=s'.heap,toks:=s.toks }:=I.laid k z ⟨by rw[aM,YS.length_eq];exact cS (by lia),vs,c,oA Y3,hD⟩
 refine⟨.ref D,_,I1.same rfl g o,rfl,q ss' (λz=>(YS.mem_iff).trans (hm z)) (YS.nodup_iff.mpr hS.nd) uS _ Bo⟩
end
theorem Bv(z:Str){v:Int}(h:0<=v):(sX z none (some v)).cps.toList=z.cps.toList.take v.toNat:=by
 have hl:z.cps.toList.length=z.length:=by simp[Str.length]
 unfold sX
 have e:HT.cK z.length z.length (some v)=min v.toNat z.length:=by
  show(if v<0 then _ else min v.toNat z.length)=_
  rw[aA (by lia)]
 rw[e]
 show(List.take (min v.toNat z.length-0) (List.drop 0 z.cps.toList))=_
 rw[vx,za,<-hl]
 by_cases hv:v.toNat<=z.cps.toList.length
 ·rw[zm hv]
 ·rw[FP (by lia),fu,tV (by lia)]
theorem Mu(z:Str){v:Int}(h:0<=v):(sX z (some v) none).cps.toList=z.cps.toList.drop v.toNat:=by
 have hl:z.cps.toList.length=z.length:=by simp[Str.length]
 unfold sX
 have e:HT.cK z.length 0 (some v)=min v.toNat z.length:=by
  show(if v<0 then _ else min v.toNat z.length)=_
  rw[aA (by lia)]
 rw[e]
 show(List.take (z.length-min v.toNat z.length) (List.drop (min v.toNat z.length) z.cps.toList))=_
 rw[<-hl]
 by_cases hv:v.toNat<=z.cps.toList.length
 ·rw[zm hv,tV (by rw[jD] <;> lia)]
 ·rw[FP (by lia),jP,List.take_zero,zG (by lia)]
theorem oJ(z:Str):z.cps.toList.length=z.length:=by simp[Str.length]
theorem Kl(x y:Str):(x++y).cps.toList=x.cps.toList++y.cps.toList:=by
 show(x.cps++y.cps).toList=_
 simp
theorem Mj{g:Str}(hg:g.cps = #[]):∀ss:List Str,(Txt.join g ss).cps.toList=(ss.map λz=>z.cps.toList).flatten:=by
 have go:∀(l:List Str) (acc:Array Nat),(l.foldl (λacc p=>acc++g.cps++p.cps) acc).toList=acc.toList++(l.map λz=>z.cps.toList).flatten:=by
  intro l
  induction l with
  | nil=>intro acc;simp
  | cons z l ih=>intro acc;rw[rR,ih,hg];simp
 intro ss
 show((ss.drop 1).foldl (λacc p=>acc++g.cps++p.cps) (ss.headD Str.empty).cps).toList=_
 cases ss with
 | nil=>rfl
 | cons z l=>rw[go];simp
theorem joinOk_of{sep:Str}{ss:List Str}{L n:Nat}(h:∀z∈ss,z.length<=L)(hn:ss.length<=n)(hb:n*(L+sep.length)<=16000000):JoinOk sep ss=true:=by
 have go:∀(l:List Str) (a:Nat),(∀z∈l,z.length<=L)->l.foldl (λa x=>a+x.length+sep.length) a<=a+l.length*(L+sep.length):=by
  intro l
  induction l with
  | nil=>intro a _;simp
  | cons z l ih=>
   intro a hz
   have h1:=ih (a+z.length+sep.length) (λy hy=>hz y (fw _ hy))
   have h2:=hz z di
   rw[rR,gb,Nat.add_mul]
   lia
 unfold JoinOk
 have e:ss.toArray.foldl (λa x=>a+x.length+sep.length) 0=ss.foldl (λa x=>a+x.length+sep.length) 0:=by simp
 rw[e]
 have h1:=go ss 0 h
 have h2:ss.length*(L+sep.length)<=n*(L+sep.length):=Nat.mul_le_mul_right _ hn
 have:¬(ss.foldl (λa x=>a+x.length+sep.length) 0 > sizeLine):=by rw[kG];lia
 unfold Builtin.Str.tooLong
 rw[decide_eq_false this];rfl
def Nm(s:Str):Prop:=1<=s.length/\s.length<=8/\∀c∈s.cps.toList,97<=c/\c<=122
theorem Hz:∀n:Nat,n<26->(Str.ofString "abcdefghijklmnopqrstuvwxyz").cps.toList[n]?=some (97+n):=by decide +kernel
theorem uz{i:Int}(h0:0<=i)(h:i<26):uM (Str.ofString "abcdefghijklmnopqrstuvwxyz").cps.toList i=some (97+i.toNat):=by
 have ei:i=((i.toNat:Nat):Int):=by lia
 have q:uM (Str.ofString "abcdefghijklmnopqrstuvwxyz").cps.toList ((i.toNat:Nat):Int)=some (97+i.toNat):=fH (Hz i.toNat (by lia))
 rwa [<-ei]at q
def lits:List Str:=["is","not","and","or","then","same","yes","no","say","fix","isa","nota","a"].map Str.ofString
theorem Hy:lits.Nodup:=by decide +kernel
theorem Qd:lits.length=13:=rfl
theorem T8:∀s∈lits,Nm s:=by
 have:∀s∈lits,(decide (1<=s.length)&&decide (s.length<=8)&&s.cps.toList.all λc=>decide (97<=c)&&decide (c<=122))=true:=by decide +kernel
 intro s hs
 have h:=this s hs
 rw[dh,dh]at h
 refine⟨of_decide_eq_true h.1.1,of_decide_eq_true h.1.2,λc hc=>?_⟩
 have:=jC.mp h.2 c hc
 rw[dh]at this
 exact⟨of_decide_eq_true this.1,of_decide_eq_true this.2⟩
theorem sv{α:Type}{l:List α}(h:∀(i j:Nat) (x:α),i<j->l[i]?=some x->l[j]?=some x->False):l.Nodup:=by
 unfold List.Nodup
 rw[vI]
 intro i j hi hj Fx e
 exact h i j l[i] Fx (bD hi) (by rw[bD hj,e])
theorem Ha:∀{l:List Str},sortedS l=true->l.Pairwise (λa b=>a.cps.toList<=b.cps.toList)
 | [],_=>.nil
 | x::r,h=>by
  have go:∀(r:List Str) (x:Str),risingS x r=true->(x::r).Pairwise (λa b=>a.cps.toList<=b.cps.toList):=by
   intro r
   induction r with
   | nil=>intro x _;exact .cons (λ_ h=>nomatch h) .nil
   | cons y r ih=>
    intro x h
    have h':(!ltCps y.cps.toList x.cps.toList&&risingS y r)=true:=h
    rw[dh,ltCps_eq]at h'
    have p:=ih y h'.2
    have XM:x.cps.toList<=y.cps.toList:=by
     have:¬(y.cps.toList<x.cps.toList):=by simpa using h'.1
     exact rC.mp this
    refine .cons (λz hz=>?_) p
    rcases dR.mp hz with e | hz
    ·rw[e];exact XM
    ·exact List.le_trans XM ((zC.mp p).1 z hz)
  exact go r x h
theorem oC(K:PySem.W.Frag)(z:Str)(H:Hp):tyV K "str" (.str z) H=True:=eq_true rfl
theorem Fi(ss:List Str):(List.map V.str ss).all iK=true:=by
 rw[jC];intro x hx;obtain⟨z,_,rfl⟩:=bH.mp hx;rfl
theorem Ee(s:Str)(ss:List Str):Vt (.str s) (List.map V.str ss)=decide (s∈ss):=by
 induction ss with
 | nil=>rfl
 | cons z ss ih=>
  show(J' (.str z) (.str s)||Vt (.str s) (List.map V.str ss))=_
  rw[ih]
  show((z==s)||decide (s∈ss))=_
  by_cases e:s=z
  ·subst e;simp
  ·have:(z==s)=false:=by simpa using λq:z=s=>e q.symm
   rw[this];simp[e]
theorem Vq{s:Str}{cs:List Nat}(e:s.cps.toList=cs)(h1:1<=cs.length)(h2:cs.length<=8)(h:∀c∈cs,97<=c/\c<=122):Nm s:=by
 have:=oJ s
 rw[e]at this
 exact⟨by lia,by lia,by rw[e];exact h⟩
section
variable {X:Cx}
def vZ(w:World):List V->Hp->VK->Prop:=λvs H Q=>∃a,vs=[.ref a]/\∃ss:List Str,H a=some (.lst (ss.map V.str))/\ss.length<4000/\∀p,H p=none->Q (.ref p) (upd H p (YB w p ss))
theorem MF(hh:X.A.handled=none):dy X (.type "set") (vZ X.w):=(Mz hh).imp λx H Q ⟨p,e,ss,h,n,q⟩=>⟨p,ss,e,aP h,n,q⟩
def ji(w:World):List V->Hp->VK->Prop:=λvs H Q=>∃a,vs=[.ref a]/\∃ss:List Str,H a=some (YB w a ss)/\ss.length<64/\
 ∀ss':List Str,(∀z,z∈ss'↔z∈ss)->ss'.Nodup->sortedS ss'=true->∀p,H p=none->Q (.ref p) (upd H p (.lst (ss'.map V.str)))
theorem xD(hh:X.A.handled=none):dy X (.builtin "sorted") (ji X.w):=(wM hh).imp λx H Q ⟨p,e,ss,h,n,q⟩=>⟨p,ss,e,h,n,q⟩
def wc:List V->Hp->VK->Prop:=λvs H Q=>∃a,vs=[.ref a]/\∃bs:List Bool,H a=some (.lst (bs.map V.bl))/\Q (.bl (bs.all id)) H
theorem Rf:∀{bs:List Bool} {us:List Value},Vals (bs.map V.bl) us->∀(i:Nat) (v:Value),us[i]?=some v->v=.bool (bs.getD i true):=by
 intro bs
 induction bs with
 | nil=>intro us r i v h;cases r;cases i <;> cases h
 | cons b bs ih=>
  intro us r i v h
  rw[eI]at r
  cases r with
  | cons r1 r2=>
   cases r1
   cases i with
   | zero=>cases h;rfl
   | succ i=>exact ih r2 i v (by simpa using h)
theorem all_range:∀(bs:List Bool),((List.range bs.length).all λi=>bs.getD i true)=bs.all id
 | []=>rfl
 | b::bs=>by
  rw[gb,List.range_succ_eq_map,rJ,List.all_map,rJ,<-all_range bs]
  rfl
theorem yP(hh:X.A.handled=none):dy X (.builtin "all") wc:=by
 intro pins s σ H vs us Q I rv h
 obtain⟨a,rfl,bs,hq,q⟩:=h
 obtain⟨u,rfl,ru⟩:=vals1 rv
 cases ru
 obtain⟨its,r,pl,hz⟩:=I.list (aP hq)
 have hl:=r.length
 rw[aM]at hl
 have lt:a<s.heap.objs.size:=let ⟨_,e,_⟩:=pl.isList;aS e
 refine call_all_walkS (zr pl.isList ⟨s.heap.objs.size,_,_,_,its.toArray.size,_,_,λi=>bs.getD i true,rfl,(Walks.list (A:=X.A.in1) hh _ a (bK lt) its.toArray).toS,⟨⟨_,dD _ rfl,rfl,rfl⟩,(pl.isList).push _⟩,?_,λs' mv=>?_⟩)
 ·intro i v s1 Q1 E1 hv hq1
  have:v=.bool (bs.getD i true):=Rf r i v (by simpa using hv)
  subst this
  exact aK hq1
 ·rw[cZ,<-hl,all_range]
  have k:∀b o,s.heap.get? b=some o->s'.heap.get? b=some o:=λb o e=>mv.heap b o (λz=>absurd (aS e) (by rw[bR.mp z];exact j0 _)) (cF _ e)
  have I1:Inv X pins σ H { s with heap:=s'.heap,toks:=s.toks }:=I.un (Un.kept k) (I.bM.kept k)
  exact⟨.bl (bs.all id),H,I1.same rfl mv.gens mv.os,rfl,q⟩
end
section
variable {P:Program}{w:World}{κ:Type} [DecidableEq κ] {knd:PySem.KeyKind P w κ} {A:Around} {E:Value->Shared->Prop} {s:Shared} {a b:Addr} {kvs Qj:List (κ×Value)}
end
section
variable {X:Cx}
def La(neg:Bool):R2:=λx y H Q=>∃a b,x=.ref a/\y=.ref b/\∃kvs,H a=some (.dK kvs)/\H b=some (.dK kvs)/\(∀kv∈kvs,∃c,kv.2=.bl c)/\Q (.bl (!neg)) H
def qM:V->List V->Hp->VK->Prop:=λx vs H Q=>∃a b,x=.ref a/\vs=[.ref b]/\a≠b/\∃kvs,H a=some (.dK kvs)/\∃more,H b=some (.dK more)/\kvs.length+more.length<=sizeLine/\Q .non (upd H a (.dK (Xm kvs more)))
end
abbrev Cl:=List (Str×Bool)
def gE(H:Hp)(q:Addr)(x:Str×Bool):Prop:=H q=some (.tup [.str x.1,.bl x.2])
def dC(H:Hp)(qs:List Addr)(cl:Cl):Prop:=qs.length=cl.length/\∀(i:Nat) q x,qs[i]?=some q->cl[i]?=some x->gE H q x
def de(H:Hp)(cl:Cl)(p:Addr):Prop:=∃qs:List Addr,H p=some (.tup (List.map V.ref qs))/\dC H qs cl
theorem dC.nil{H:Hp}:dC H [] []:=⟨rfl,λi q x e=>by simp at e⟩
theorem dC.mono{H H':Hp}{qs:List Addr}{cl:Cl}(h:dC H qs cl)(k:∀q xs,H q=some (.tup xs)->H' q=some (.tup xs)):dC H' qs cl:=⟨h.1,λi q x e f=>k _ _ (h.2 i q x e f)⟩
theorem de.mono{H H':Hp}{p:Addr}{cl:Cl}(h:de H cl p)(k:∀q xs,H q=some (.tup xs)->H' q=some (.tup xs)):de H' cl p:=let ⟨qs,e,l⟩:=h;⟨qs,k _ _ e,l.mono k⟩
theorem dC.at{H:Hp}{qs:List Addr}{cl:Cl}{i:Nat}{q:Addr}(h:dC H qs cl)(e:qs[i]?=some q):∃n b,cl[i]?=some (n,b)/\H q=some (.tup [.str n,.bl b]):=by
 have hi:i<cl.length:=by rw[<-h.1];exact(cy.mp e).1
 have ec:cl[i]?=some (cl[i].1,cl[i].2):=bD hi
 exact⟨_,_,ec,h.2 i q _ e ec⟩
theorem dC.snoc{H:Hp}{qs:List Addr}{cl:Cl}{q:Addr}{x:Str×Bool}(h:dC H qs cl)(e:gE H q x):dC H (qs++[q]) (cl++[x]):=by
 refine⟨by simp[h.1],λi p y ep ey=>?_⟩
 by_cases hi:i<qs.length
 ·rw[gh hi]at ep
  rw[gh (by rw[<-h.1];exact hi)]at ey
  exact h.2 i p y ep ey
 ·have l:=(cy.mp ep).1
  rw[cw,ja]at l
  have u5:i=qs.length:=by lia
  rw[u5,fC (aU _),jP]at ep
  rw[u5,h.1,fC (aU _),jP]at ey
  cases ep
  cases ey
  exact e
section
variable {X:Cx}{pins:List (Addr×Obj)}{s:Shared}{σ:St}{H:Hp}{A:Around}
theorem oB{xs:List V}{us:List Value}{j:Nat}{x:V}(r:Vals xs us)(h:j<us.toArray.size)(e:xs[j]?=some x):RelV x us.toArray[j]:=by
 have h':j<us.length:=by simpa using h
 obtain⟨u,eu,ru⟩:=r.get e
 have:=bD h'
 rw[eu]at this
 have e1:us.toArray[j]=u:=by simpa using (cv this).symm
 rw[e1];exact ru
theorem QL{p q:Addr}{x y:Str×Bool}(I:Inv X pins σ H s)(hp:gE H p x)(hq:gE H q y)(hu:A.units<cLine):SeqAt.EqAt A s (.ref p) (.ref q) (decide (x=y)):=by
 by_cases e:p=q
 ·subst e
  have:x=y:=by
   have h:=hp.symm.trans hq
   simp only[pI,HO.tup.injEq,rP,V.str.injEq,V.bl.injEq,and_true]at h
   exact mq h.1 h.2
  rw[decide_eq_true this]
  exact SeqAt.EqAt.same _
 ·obtain⟨us,r1,t1,_⟩:=I.tuple (bC hp)
  obtain⟨ws,r2,t2,_⟩:=I.tuple (bC hq)
  have l1:=r1.length
  have l2:=r2.length
  have s1:us.toArray.size=2:=by simpa using l1.symm
  have s2:ws.toArray.size=2:=by simpa using l2.symm
  have h:=SeqAt.RcAt.tuples (A:=A) (e:=λj=>if j=0 then x.1==y.1 else x.2==y.2) t1 t2 hu λj h1 h2=>by
   match j,h1,h2 with
   | 0,h1,h2=>exact ng (oB (x:=.str x.1) r1 h1 rfl) (oB (x:=.str y.1) r2 h2 rfl) rfl rfl
   | 1,h1,h2=>exact ng (oB (x:=.bl x.2) r1 h1 rfl) (oB (x:=.bl y.2) r2 h2 rfl) rfl rfl
   | j+2,h1,h2=>lia
  rw[s1,s2]at h
  have e2:((List.range (min 2 2)).all (λj=>if j=0 then x.1==y.1 else x.2==y.2)&&2==2)=decide (x=y):=by
   have:List.range (min 2 2)=[0,1]:=rfl
   rw[this]
   obtain⟨x1,x2⟩:=x
   obtain⟨y1,y2⟩:=y
   rw[iZ]
   simp
  rw[e2]at h
  exact .of_refs e h
theorem Fh{cl dl:Cl}:((List.range (min cl.length dl.length)).all (λj=>decide (cl[j]?=dl[j]?))&&cl.length==dl.length)=decide (cl=dl):=by
 rw[iZ,dh,jC,se,beq_iff_eq]
 constructor
 ·rintro⟨h,l⟩
  apply ql
  intro i
  by_cases hi:i<cl.length
  ·exact of_decide_eq_true (h i (my.mpr (by lia)))
  ·rw[jE (by lia),jE (by lia)]
 ·rintro rfl
  exact⟨λj _=>decide_eq_true rfl,rfl⟩
theorem xu{ps qs:List Addr}{us ws:List Value}{cl dl:Cl}(I:Inv X pins σ H s)(r1:Vals (List.map V.ref ps) us)(r2:Vals (List.map V.ref qs) ws)(a:dC H ps cl)(b:dC H qs dl)(hu:A.units<cLine)(j:Nat)(h1:j<us.toArray.size)(h2:j<ws.toArray.size) :
  SeqAt.EqAt A s us.toArray[j] ws.toArray[j] (decide (cl[j]?=dl[j]?)):=by
 have l1:=r1.length
 have l2:=r2.length
 rw[aM]at l1 l2
 have j1:j<ps.length:=by rw[l1];simpa using h1
 have j2:j<qs.length:=by rw[l2];simpa using h2
 have e1:ps[j]?=some ps[j]:=bD j1
 have e2:qs[j]?=some qs[j]:=bD j2
 have k1:j<cl.length:=by rw[<-a.1];exact j1
 have k2:j<dl.length:=by rw[<-b.1];exact j2
 have c1:cl[j]?=some cl[j]:=bD k1
 have c2:dl[j]?=some dl[j]:=bD k2
 have v1:us.toArray[j]=.ref ps[j]:=oB (x:=.ref ps[j]) r1 h1 (by rw[cR,e1];rfl)
 have v2:ws.toArray[j]=.ref qs[j]:=oB (x:=.ref qs[j]) r2 h2 (by rw[cR,e2];rfl)
 have:=QL (A:=A) I (a.2 j _ _ e1 c1) (b.2 j _ _ e2 c2) hu
 rw[v1,v2,c1,c2]
 have e3:decide ((some cl[j]:Option (Str×Bool))=some dl[j])=decide (cl[j]=dl[j]):=by simp only[pI]
 rw[e3];exact this
def aAd(neg:Bool):R2:=λx y H Q=>∃a b,x=.ref a/\y=.ref b/\∃cl dl,de H cl a/\de H dl b/\Q (.bl (if neg then !decide (cl=dl) else decide (cl=dl))) H
theorem Xd(hu:X.A.units+1<cLine):kF X (compareOp .NotEq) (aAd true):=by
 intro pins s σ H x y v u Q I rx ry h
 obtain⟨a,b,rfl,rfl,cl,dl,⟨ps,h1,a1⟩,⟨qs,h2,a2⟩,q⟩:=h
 cases rx;cases ry
 obtain⟨us,r1,t1,_⟩:=I.tuple (bC h1)
 obtain⟨ws,r2,t2,_⟩:=I.tuple (bC h2)
 have l1:=r1.length
 have l2:=r2.length
 rw[aM]at l1 l2
 refine SeqAt.RcNeAt.tuples (e:=λj=>decide (cl[j]?=dl[j]?)) t1 t2 (by lia) (λj h1 h2=>xu I r1 r2 a1 a2 (by rw[mh];lia) j h1 h2) _ _ _ _ ⟨.bl _,H,I,rfl,?_⟩
 rw[cZ,cZ,<-l1,<-l2,a1.1,a2.1,Fh]
 exact q
end
section
variable {P:Program}{w:World}{A:Around}{E:Value->Shared->Prop}{s:Shared}
theorem uo{T:String}{r d:Addr}{n:Nat}{Pd:Nat->Value->Prop}{OK:Heap->Prop}{Q:List Value->Shared->Prop}(K:PySem.W.KdlSrc P w T r d n Pd OK)(hh:A.handled=none)(bM:OK s.heap)(hn:n<=sizeLine)
  (q:∀(s':Shared) (vs:List Value),(∀b o,s.heap.get? b=some o->s'.heap.get? b=some o)->s.heap.objs.size<=s'.heap.objs.size->s'.gens=s.gens->s'.os=s.os->vs.length=n->(∀(j:Nat) v,vs[j]?=some v->Pd j v)->Q vs s'):wpAny (model P w) A (collect (.ref r)) Q E s:=by
 have lt:=K.there _ bM
 unfold collect
 refine az (wpAny_runValue (mz entry_proto_collect' ?_))
 rw[vh PySem.F.plain_proto_collect _]
 refine az (m:=newList []) (iH ?_)
 refine aK ⟨vo zK _,mz entry_list_iadd' ?_⟩
 rw[vh zK _]
 let L0:Obj:={ cls:=.type "list",data:=.seq ([]:List Value).toArray }
 have k0:∀b o,s.heap.get? b=some o->(s.heap.push L0).get? b=some o:=λb o e=>cF _ e
 have hL:(s.heap.push L0).get? s.heap.objs.size=some L0:=dD _ rfl
 show wpAny _ A.in1 (Builtin.List.listExtendWith (.ref s.heap.objs.size) (.ref r) (.ref s.heap.objs.size)) _ _ { s with heap:=s.heap.push L0 }
 let R0:Result->Shared->Prop:=λr s'=>match r with
  | .ok (.ret v)=>wpAny (model P w) A (match v with
   | .ref a=>do
    let o <-load a
    match o.data with
     | .seq xs _=>pure xs.toList
     | _=>unsupported "internal:collect"
   | _=>unsupported "internal:collect") Q E s'
  | .ok _=>False
  | .error e=>E e s'
 refine PySem.W.kdl_extend (R:=R0) (s:={ s with heap:=s.heap.push L0 }) K hh (K.keep _ _ bM λb _ o e=>k0 b o e) s.heap.objs.size (kI lt.1) (kI lt.2) _ 0 hL (λh' tk acc c hk hS Ei=>?_) hn
 refine az (m:=load s.heap.objs.size) (wpAny_load hS (aK ?_))
 exact q _ acc.toList (λb o e=>hk b o (bK (aS e)) (k0 b o e)) (jb (aS hS)) rfl rfl (by rw[dF];exact Ei.1) λj v e=>Ei.2 j v (by rw[<-lO];exact e)
end
section
variable {X:Cx}
def Oq:List V->Hp->VK->Prop:=λvs H Q=>∃a,vs=[.ref a]/\∃kvs,H a=some (.dK kvs)/\∃ns:List Str,kvs.map (·.1)=ns.map Sum.inr/\ns.length<64/\
 ∀ss:List Str,ss.Perm ns->sortedS ss=true->∀p,H p=none->Q (.ref p) (upd H p (.lst (ss.map V.str)))
theorem LW{kvs:List (Key×V)}{ws:List (Key×Value)}(rel:KV kvs ws):∀{us:List Value},us.length=ws.length->(∀(j:Nat) v,us[j]?=some v->∃k x,ws[j]?=some (k,x)/\(cY X.prog X.w).is k v=true)->Vals (kvs.map λkv=>kV kv.1) us:=by
 induction rel with
 | nil=>intro us hl _;cases us with
  | nil=>exact .nil
  | cons _ _=>cases hl
 | @cons p q ps qs h t ih=>
  intro us hl hv
  cases us with
  | nil=>cases hl
  | cons u us=>
   refine .cons ?_ (ih (us:=us) (by simpa using hl) λj v e=>by simpa using hv (j+1) v (by simpa using e))
   obtain⟨k,x,e1,e2⟩:=hv 0 u rfl
   have Mp:q=(k,x):=by simpa using e1
   show RelV (kV p.1) u
   rw[h.1,Mp]
   rcases cL e2 with ⟨i,t,rfl,rfl⟩ | ⟨y,t,rfl,rfl⟩
   ·exact⟨t,rfl⟩
   ·exact⟨t,rfl⟩
theorem Iy(hh:X.A.handled=none):dy X (.builtin "sorted") Oq:=by
 intro pins s σ H vs us Q I rv h
 obtain⟨a,rfl,kvs,hq,ns,hk,hn,q⟩:=h
 obtain⟨u,rfl,ru⟩:=vals1 rv
 cases ru
 obtain⟨z,hd,ws,rel,dd⟩:=I.bM a _ hq
 obtain⟨ep,hat⟩:=dd.dictAt
 have hlen:kvs.length=ws.length:=KV.length rel
 have ek:(kvs.map λkv=>kV kv.1)=ns.map V.str:=by
  have:=gj (List.map kV) hk
  rw[iG,iG]at this
  exact this
 refine yd (us:=ns) hn (λQ' hQ'=>uo (A:=X.A.in1) (PySem.W.kdl_dict (knd:=cY X.prog X.w) (kvs:=ws) (ep:=ep) hd) hh hat (by rw[<-hlen];exact z) λs' vs k z' g o hl hv=>hQ' s' vs ns k z' g o (pM (by rw[<-ek];exact LW rel hl hv)) (zh _)) λs' D c vs ss' k z' g o hD Y3 YS uS=>?_
 have Bo:H D=none:=I.bM.fresh z'
 have I1:Inv X pins σ (upd H D (.lst (ss'.map V.str))) { s with heap:=s'.heap,toks:=s.toks }:=I.laid k z' ⟨by rw[aM,YS.length_eq];exact cS (by lia),vs,c,oA Y3,hD⟩
 exact⟨.ref D,_,I1.same rfl g o,rfl,q ss' YS uS _ Bo⟩
def Vo:V->List V->Hp->VK->Prop:=λx vs H Q=>∃a n d,x=.ref a/\vs=[.str n,d]/\∃kvs,H a=some (.dK kvs)/\Q ((cB kvs (Sum.inr n)).getD d) H
theorem T4(hu:X.A.units+1<cLine):V8 X "dict.get" Vo:=by
 intro pins s σ H x vs v us Q I rx rv h
 obtain⟨a,n,d,rfl,rfl,kvs,hq,q⟩:=h
 cases rx
 obtain⟨u1,u2,rfl,r1,r2⟩:=rv.two
 exact Yo hu I (oo.k (k:=Sum.inr n) hq) r1 r2 λw' s' I' r=>⟨_,H,I',r,q⟩
end
section
variable {X:Cx}{tg:Expr}
end
section
variable {X:Cx}
end
theorem Eu{K:PySem.W.Frag}{a:Addr}{zs:List V}{idx:List Nat}{tt:CB->TT}{te:CB->TE}{σ:St}{Q:VK}{H1:Hp}(Pv:Addr->Nat->List V->Hp->Prop)(h0:∀D,H1 D=none->Pv D 0 [] (upd H1 D (.lst [])))
  (hl:∀D,H1 D=none->∀i ys H,i<=zs.length->Pv D i ys H->H a=some (.tup zs))
  (hs:∀D,H1 D=none->∀i x ys H,zs[i]?=some x->Pv D i ys H->∀(c:CB),tt c (some x::bZ σ idx) H λb H4=>if b=true then te c (some x::bZ σ idx) H4 λy H5=>H5 D=some (.lst ys)/\ys.length<sizeLine/\Pv D (i+1) (ys++[y]) (upd H5 D (.lst (ys++[y]))) else Pv D (i+1) ys H4)
  (hd:∀D,H1 D=none->∀ys H,Pv D zs.length ys H->Q (.ref D) H):fJ (Vb K a) 1 idx (λ_=>cJ 0) tt te σ Q H1:=by
 intro D hD
 refine⟨λi m ys H=>m=zs.length-i/\i<=zs.length/\Pv D i ys H,⟨zs.length,by simp,dG _,h0 D hD⟩,?_⟩
 rintro i m ys H ⟨rfl,hi,p⟩
 by_cases iQ:i<zs.length
 ·refine .inr ⟨⟨zs,zs[i],bC (hl D hD i ys H hi p),bD iQ⟩,Pv D (i+1),λqv H' p'=>⟨zs.length-(i+1),by omega,rfl,iQ,p'⟩,λc own ho y H' yl=>?_⟩
  obtain⟨e,hy⟩:=yl
  subst e
  have ey:=hy zs (bC (hl D hD i ys H' hi p))
  show(∃dY,dY.length=1/\(own++bZ σ idx).set 0 _=dY++bZ σ idx)/\tt c ((own++bZ σ idx).set 0 _) H' _
  rw[Tq ho]
  exact⟨⟨[_],rfl,rfl⟩,hs D hD i y ys H' ey p c⟩
 ·have e:i=zs.length:=by omega
  subst e
  exact .inl ⟨⟨zs,bC (hl D hD _ ys H hi p),aU _⟩,hd D hD ys H p⟩
section
variable {X:Cx}
def Ov(neg:Bool):R2:=λx y H Q=>∃c d,x=.bl c/\y=.bl d/\Q (.bl (if neg then c != d else c==d)) H
theorem Ts:kF X (compareOp .IsNot) (Ov true):=by
 intro pins s σ H x y v u Q I rx ry h
 obtain⟨c,d,rfl,rfl,q⟩:=h
 cases rx;cases ry
 exact isnot_bool ⟨.bl _,H,I,rfl,q⟩
def aAc:List V->Hp->VK->Prop:=λvs H Q=>∃b,vs=[.bl b]/\Q (.int (if b then 1 else 0)) H
theorem MJ:dy X (.type "int") aAc:=by
 intro pins s σ H vs us Q I rv h
 obtain⟨b,rfl,q⟩:=h
 obtain⟨u,rfl,ru⟩:=vals1 rv
 cases ru
 exact call_int_bool ⟨.int _,H,I.tok _,⟨_,rfl⟩,q⟩
theorem Q8{prog:Program}{w:World}{A:Around}{E:Value->Shared->Prop}{s:Shared}{t b:Addr}{ws:List Value}{Q:Value->Shared->Prop}(ht:IsTup s.heap t (([]:List Value)).toArray)(hb:IsTup s.heap b ws.toArray)
  (h1:Q (.ref b) s):wpAny (model prog w) A (binaryOp .Add (.ref t) (.ref b)) Q E s:=by
 obtain⟨⟨cls,dd,data,sl⟩,ho,hc,n,hd⟩:=id ht
 obtain⟨⟨aBd,Mr,data2,K0⟩,RJ,RN,n2,hd2⟩:=id hb
 simp only at hc hd RN hd2
 subst hc hd RN hd2
 exact concat_meets ⟨_,ho,rfl⟩ ⟨_,RJ,rfl⟩ noFill_tuple_add seq_tuple_add Gv Gw (Gy _ _)
   (tuple_addW0 t b _ ws.toArray n n2 dd Mr sl K0 rfl) ⟨ho,RJ,h1⟩
def v9:R2:=λx y H Q=>∃a b,x=.ref a/\y=.ref b/\∃xs,H a=some (.tup xs)/\∃ys,H b=some (.tup ys)/\xs.length+ys.length<=sizeLine/\
 ∀p H',bf H H'->(∀c,c≠p->H' c=H c)->H' p=some (.tup (xs++ys))->Q (.ref p) H'
theorem qR:kF X (binaryOp .Add) v9:=by
 intro pins s σ H x y v u Q I rx ry h
 obtain⟨a,b,rfl,rfl,xs,ha,ys,hb,hz,q⟩:=h
 by_cases hx:xs=[]
 ·subst hx
  cases rx;cases ry
  obtain⟨its,r1,p1,_⟩:=I.tuple (bC ha)
  obtain⟨Bl,r2,p2,_⟩:=I.tuple (bC hb)
  cases r1
  exact Q8 p1 p2 ⟨.ref b,H,I,rfl,q b H (bf.refl H) (λ_ _=>rfl) hb⟩
 ·exact Tx pins s σ H _ _ v u Q I rx ry ⟨a,b,xs,ys,rfl,rfl,bC ha,bC hb,hx,hz,λe=>q a H (bf.refl H) (λ_ _=>rfl) (by rw[e,jB];exact ha),λ_ p hp=>q p _ (λb u e=>by rw[au (ay e hp)];exact e) (λc hc=>au hc) ag⟩
def aFE(lo st:Int)(n:Nat):It:=⟨λi _=>i<n,λi H x H'=>H'=H/\x=.int (lo+i*st),λi _=>n<=i⟩
def yz(ta:TA):TI:=λσ H R=>ta σ H λvs H1=>∃i j:Int,vs=[.int i,.int j,.int 2]/\(0<=i/\i<=1000/\-1<=j/\j<=1000)/\R (aFE i 2 ((j-i+1) / 2).toNat) H1
end
end L2
end
section
namespace L2
open PySem PySem.Spec PyProof.Rows Builtin Builtin.Str
section
variable {X:Cx}
end
end L2
end
section
namespace L2
open PySem PySem.W PyProof.Rows
def KG{α:Type}(b:Nat->Nat->Bool)(n:Nat)(P:α->Prop):KasT α->Prop
 | .ret a=>P a
 | .ask i j k=>i<n/\j<n/\KG b n P (k (b i j))
theorem KG.bind{α β:Type}{b:Nat->Nat->Bool}{n:Nat}{P:β->Prop}{f:α->KasT β}:∀{t:KasT α},KG b n (λa=>KG b n P (f a)) t->KG b n P (t.bind f)
 | .ret _,h=>h
 | .ask i j k,⟨h1,h2,h3⟩=>⟨h1,h2,KG.bind (t:=k (b i j)) h3⟩
theorem KG.mono{α:Type}{b:Nat->Nat->Bool}{n:Nat}{P P':α->Prop}(hp:∀a,P a->P' a):∀{t:KasT α},KG b n P t->KG b n P' t
 | .ret a,h=>hp a h
 | .ask i j k,⟨h1,h2,h3⟩=>⟨h1,h2,KG.mono hp (t:=k (b i j)) h3⟩
theorem KG.wp{α:Type}{b:Nat->Nat->Bool}{n:Nat}{P:α->Prop}{cmp:Nat->Nat->(Bool->Shared->Prop)->Shared->Prop}{Q:α->Shared->Prop}{s:Shared}(hc:∀i j C,i<n->j<n->C (b i j) s->cmp i j C s)(hq:∀a,P a->Q a s):∀{t:KasT α},KG b n P t->t.kasWp cmp Q s
 | .ret a,h=>hq a h
 | .ask i j k,⟨h1,h2,h3⟩=>hc i j _ h1 h2 (KG.wp hc hq (t:=k (b i j)) h3)
structure Ord(b:Nat->Nat->Bool)(n:Nat):Prop where
 tr:∀i j k,i<n->j<n->k<n->b i j=true->b j k=true->b i k=true
 asy:∀i j,i<n->j<n->b i j=true->b j i=false
 tot:∀i j,i<n->j<n->i≠j->b i j=true\/b j i=true
abbrev gA(p:Array Nat)(i:Nat):Nat:=p.getD i 0
structure md(p:Array Nat)(n:Nat):Prop where
 perm:p.Perm (List.range n).toArray
theorem md.size{p:Array Nat}{n:Nat}(h:md p n):p.size=n:=by rw[h.perm.size_eq];simp
theorem md.lt{p:Array Nat}{n:Nat}(h:md p n)(hn:0<n)(i:Nat):gA p i<n:=by
 unfold gA
 rw[qq]
 by_cases hi:i<p.size
 ·rw[g9 hi]
  have:=(h.perm.mem_iff (a:=p[i])).mp (g7 hi)
  simpa using this
 ·rw[Array.getElem?_eq_none (by lia)]
  exact hn
theorem md.ne{p:Array Nat}{n:Nat}(h:md p n){i j:Nat}(hi:i<n)(hj:j<n)(d:i≠j):gA p i≠gA p j:=by
 have nd:p.toList.Nodup:=(vj.mp h.perm).nodup_iff.mpr (by simpa using List.nodup_range)
 have hs:=h.size
 intro e
 unfold gA at e
 rw[qq,qq,g9 (by lia:i<p.size),g9 (by lia:j<p.size)]at e
 have e':p.toList[i]'(by simpa using by lia)=p.toList[j]'(by simpa using by lia):=by simpa using e
 exact d ((mD nd).mp e')
def rA(b:Nat->Nat->Bool)(p:Array Nat)(m:Nat):Prop:=∀i,i+1<m->b (gA p i) (gA p (i+1))=true
def Dsc(b:Nat->Nat->Bool)(p:Array Nat)(m:Nat):Prop:=∀i,i+1<m->b (gA p (i+1)) (gA p i)=true
section
variable {b:Nat->Nat->Bool}{n:Nat}
theorem rA.all(O:Ord b n){p:Array Nat}(h:md p n)(hn:0<n){m:Nat}(a:rA b p m)(hm:m<=n):∀d i,i+(d+1)<m->b (gA p i) (gA p (i+(d+1)))=true
 | 0,i,hi=>a i hi
 | d+1,i,hi=>O.tr _ _ _ (h.lt hn _) (h.lt hn _) (h.lt hn _) (rA.all O h hn a hm d i (by lia)) (a (i+(d+1)) hi)
theorem rA.lt(O:Ord b n){p:Array Nat}(h:md p n)(hn:0<n){m:Nat}(a:rA b p m)(hm:m<=n){i j:Nat}(Fx:i<j)(hj:j<m):b (gA p i) (gA p j)=true:=by
 have:=rA.all O h hn a hm (j-i-1) i (by lia)
 rwa [show i+(j-i-1+1)=j by lia]at this
theorem HB(O:Ord b n){p:Array Nat}(h:md p n)(hn:0<n):∀(f m:Nat),1<=m->m+f<=n->rA b p m->KG b n (λk=>m<=k/\k<=m+f/\rA b p k/\(k<m+f->b (gA p k) (gA p (k-1))=true)) (kas_asc p f m)
 | 0,m,_,_,a=>⟨aU _,aU _,a,λz=>absurd z (j0 _)⟩
 | f+1,m,h1,hf,a=>by
  refine⟨h.lt hn _,h.lt hn _,?_⟩
  show KG b n _ (if b (gA p m) (gA p (m-1))=true then _ else _)
  split
  ·rename_i hc
   exact⟨aU _,Nat.le_add_right _ _,a,λ_=>hc⟩
  ·rename_i hc
   have ht:=(O.tot _ _ (h.lt hn m) (h.lt hn (m-1)) (h.ne (by lia) (by lia) (by lia))).resolve_left hc
   refine KG.mono (λk ⟨k1,k2,k3,k4⟩=>⟨by lia,by lia,k3,λz=>k4 (by lia)⟩) (HB O h hn f (m+1) (by lia) (by lia) λi hi=>?_)
   by_cases e:i+1<m
   ·exact a i e
   ·have:i=m-1:=by lia
    subst this
    rwa [show m-1+1=m by lia]
theorem JR(O:Ord b n){p:Array Nat}(h:md p n)(hn:0<n):∀(f m:Nat),1<=m->m+f<=n->Dsc b p m->KG b n (λr=>r.1=p/\r.2.2=0/\m<=r.2.1/\r.2.1<=m+f/\Dsc b p r.2.1) (kas_desc f p m 0)
 | 0,m,_,_,a=>⟨rfl,rfl,aU _,aU _,a⟩
 | f+1,m,h1,hf,a=>by
  refine⟨h.lt hn _,h.lt hn _,?_⟩
  show KG b n _ (if b (gA p m) (gA p (m-1))=true then (if 0 > 0 then _ else kas_desc f p (m+1) 0) else _)
  split
  ·rename_i hc
   rw[aA (by decide)]
   refine KG.mono (λr ⟨k0,k1,k2,k3,k4⟩=>⟨k0,k1,by lia,by lia,k4⟩) (JR O h hn f (m+1) (by lia) (by lia) λi hi=>?_)
   by_cases e:i+1<m
   ·exact a i e
   ·have:i=m-1:=by lia
    subst this
    rwa [show m-1+1=m by lia]
  ·rename_i hc
   have ht:=(O.tot _ _ (h.lt hn m) (h.lt hn (m-1)) (h.ne (by lia) (by lia) (by lia))).resolve_left hc
   refine⟨h.lt hn _,h.lt hn _,?_⟩
   show KG b n _ (if b (gA p (m-1)) (gA p m)=true then _ else _)
   rw[aB ht]
   exact⟨rfl,rfl,aU _,Nat.le_add_right _ _,a⟩
theorem Kj{p:Array Nat}{m:Nat}(hm:m<=p.size){i:Nat}(hi:i<m):gA (kas_rev p 0 m) i=gA p (m-1-i):=by
 unfold gA kas_rev
 rw[qq,qq,getElem?_mirror_all hm,aB ⟨dG _,hi⟩]
 congr 2
 lia
theorem Qk(O:Ord b n){p:Array Nat}(h:md p n)(hn:0<n){m:Nat}(h1:1<=m)(hm:m<=n)(d:Dsc b p m):KG b n (λr=>md r.2 n/\1<=r.1/\r.1<=n/\rA b r.2 r.1) (kas_tail3 m n p):=by
 have h':md (kas_rev p 0 m) n:=⟨(jO _ _ _ _).trans h.perm⟩
 refine KG.bind (KG.mono (λk ⟨k1,k2,k3,_⟩=>⟨h',by lia,by lia,k3⟩) (HB O h' hn (n-m) m h1 (by lia) λi hi=>?_))
 rw[Kj (by rw[h.size];exact hm) (by lia),Kj (by rw[h.size];exact hm) (by lia)]
 have:=d (m-1-(i+1)) (by lia)
 rwa [show m-1-(i+1)+1=m-1-i by lia]at this
theorem Ql(O:Ord b n){p:Array Nat}(h:md p n)(hn:2<=n):KG b n (λr=>md r.2 n/\1<=r.1/\r.1<=n/\rA b r.2 r.1) (kas_count n p):=by
 refine KG.bind (KG.mono (λm ⟨m1,m2,m3,m4⟩=>?_) (HB O h (by lia) (n-1) 1 (aU _) (by lia) λi hi=>by lia))
 split
 ·exact⟨h,m1,by show m<=n;lia,m3⟩
 ·rename_i rz
  have iQ:m<n:=by
   have:m≠n:=λe=>rz (by rw[e];exact qj n)
   lia
  split
  ·rename_i hgt
   refine⟨h.lt (by lia) _,h.lt (by lia) _,?_⟩
   show KG b n _ (if b (gA p 0) (gA p (m-1))=true then _ else _)
   rw[aB (rA.lt O h (by lia) m3 (by lia) (by lia:0<m-1) (by lia))]
   exact⟨h,m1,by show m<=n;lia,m3⟩
  ·rename_i hgt
   have e:m=1:=by lia
   subst e
   have hb:=m4 (by lia)
   refine KG.bind (KG.mono (λr ⟨k0,k1,k2,k3,k4⟩=>?_) (JR O h (by lia) (n-2) 2 (by lia) (by lia) λi hi=>?_))
   ·have:i=0:=by lia
    subst this
    exact hb
   ·rw[k1,aA (by decide),k0]
    exact Qk O h (by lia) (by lia) (by lia) k4
theorem wC(O:Ord b n){p:Array Nat}(h:md p n)(hn:0<n){k:Nat}(hk:k<n)(a:rA b p k):∀(f l r:Nat),l<=r->r<=k->r-l<=f->(∀i,i<l->b (gA p i) (gA p k)=true)->(∀i,r<=i->i<k->b (gA p k) (gA p i)=true)->
  KG b n (λl'=>l'<=k/\(∀i,i<l'->b (gA p i) (gA p k)=true)/\∀i,l'<=i->i<k->b (gA p k) (gA p i)=true) (kas_place p k f l r)
 | 0,l,r,h1,h2,h3,lo,hi=>⟨by lia,lo,λi u5 Ie=>hi i (by lia) Ie⟩
 | f+1,l,r,h1,h2,h3,lo,hi=>by
  unfold kas_place
  split
  ·exact⟨by lia,lo,λi u5 Ie=>hi i (by lia) Ie⟩
  ·refine⟨h.lt hn _,h.lt hn _,?_⟩
   show KG b n _ (if b (gA p k) (gA p ((l+r) / 2))=true then _ else _)
   split
   ·rename_i hc
    refine wC O h hn hk a f l ((l+r) / 2) (by lia) (by lia) (by lia) lo λi u5 Ie=>?_
    by_cases e:i=(l+r) / 2
    ·rw[e];exact hc
    ·exact O.tr _ _ _ (h.lt hn _) (h.lt hn _) (h.lt hn _) hc (rA.lt O h hn a (by lia) (by lia) Ie)
   ·rename_i hc
    have ht:=(O.tot _ _ (h.lt hn k) (h.lt hn ((l+r) / 2)) (h.ne (by lia) (by lia) (by lia))).resolve_left hc
    refine wC O h hn hk a f ((l+r) / 2+1) r (by lia) (by lia) (by lia) (λi u5=>?_) hi
    by_cases e:i=(l+r) / 2
    ·rw[e];exact ht
    ·exact O.tr _ _ _ (h.lt hn _) (h.lt hn _) (h.lt hn _) (rA.lt O h hn a (by lia) (by lia:i<(l+r) / 2) (by lia)) ht
theorem Kk{p:Array Nat}{k l:Nat}(hk:k<p.size)(hl:l<=k)(i:Nat):gA (bubble p k (k-l)) i=if i=l then gA p k else if l<i/\i<=k then gA p (i-1) else gA p i:=by
 have g:∀(x:Array Nat) (j:Nat),gA x j=x[j]?.getD 0:=λx j=>qq
 have e:k-(k-l)=l:=by lia
 rw[g,g,g,g,getElem?_bubble hk (k-l) (by lia) i,e]
 by_cases c1:i=l
 ·rw[aB c1,aB c1]
 ·rw[aA c1,aA c1]
  by_cases c2:l<i/\i<=k
  ·rw[aB c2,aB c2]
  ·rw[aA c2,aA c2]
theorem Qm(O:Ord b n)(hn:0<n):∀(f k:Nat) {p:Array Nat},md p n->1<=k->k+f=n->rA b p k->KG b n (λp'=>md p' n/\rA b p' n) (kas_bin f p k)
 | 0,k,p,h,_,e,a=>⟨h,by
  have:k=n:=by lia
  subst this
  exact a⟩
 | f+1,k,p,h,h1,e,a=>by
  refine KG.bind (KG.mono (λl ⟨l1,l2,l3⟩=>?_) (wC O h hn (by lia) a k 0 k (dG _) (aU _) (by lia) (λi hi=>absurd hi (rS _)) λi hi hk=>by lia))
  refine Qm O hn f (k+1) (p:=bubble p k (k-l)) ⟨(bubble_perm _ _ _).trans h.perm⟩ (by lia) (by lia) λi hi=>?_
  have hs:=h.size
  rw[Kk (by lia) l1,Kk (by lia) l1]
  by_cases c1:i=l
  ·rw[aB c1,aA (by lia),aB (by lia)]
   exact l3 _ (by lia) (by lia)
  ·rw[aA c1]
   by_cases c2:i+1=l
   ·rw[aA (by lia),aB c2]
    exact l2 i (by lia)
   ·rw[aA c2]
    by_cases c3:l<i
    ·rw[aB (by lia),aB (by lia)]
     have:=a (i-1) (by lia)
     rwa [show i-1+1=i+1-1 by lia]at this
    ·rw[aA (by lia),aA (by lia)]
     exact a i (by lia)
theorem Uc(O:Ord b n)(hn:2<=n):KG b n (λp=>md p n/\rA b p n) (kas_sort n):=by
 refine KG.bind (KG.mono (λr ⟨r1,r2,r3,r4⟩=>?_) (Ql O (p:=(List.range n).toArray) ⟨zj _⟩ hn))
 split
 ·rw[Nat.max_eq_left r2]
  exact Qm O (by lia) (n-r.1) r.1 r1 r2 (by lia) r4
 ·have:r.1=n:=by lia
  exact⟨r1,by rw[<-this];exact r4⟩
end
def VM:Bool->Keyed->Array Keyed->Nat->Nat->Nat->StateT SortSt Sem (Option Nat):=sortPriv% PySem.Builtin.gallop
def mLo:Array Keyed->Array Keyed->StateT SortSt Sem (Array Keyed):=sortPriv% PySem.Builtin.mergeLo
def mHi:Array Keyed->Array Keyed->StateT SortSt Sem (Array Keyed):=sortPriv% PySem.Builtin.mergeHi
abbrev dk(st:SortSt)(g:Nat):SortSt:=SortSt.mk' (kindOf st) (arrOf st) (pendingOf st) g (failedOf st)
def Yz(lf:Bool)(ky:Keyed)(xs:Array Keyed)(bs i:Nat):StateT SortSt Sem (Option Bool):=do
 let z <-elem' xs (bs+i)
 if lf then lt' z ky else return (<-lt' ky z).map (!·)
theorem Yk(lf:Bool)(ky:Keyed)(xs:Array Keyed)(bs m ht:Nat):VM lf ky xs bs m ht=(do
 let mut lst:=0
 let mut of:=1
 let mut l:=0
 let mut h:=0
 let some rgt <-Yz lf ky xs bs ht | return none
 if rgt then
  let mx:=m-ht
  for _ in [0:m] do
   if of>=mx then break
   let some mo <-Yz lf ky xs bs (ht+of) | return none
   if !mo then break
   lst:=of
   of:=2*of+1
  l:=ht+lst+1
  h:=ht+min of mx
 else
  let mx:=ht+1
  for _ in [0:m] do
   if of>=mx then break
   let some fd <-Yz lf ky xs bs (ht-of) | return none
   if fd then break
   lst:=of
   of:=2*of+1
  l:=ht+1-min of mx
  h:=ht-lst
 for _ in [0:m] do
  if l>=h then break
  let c:=l+(h-l) / 2
  let some mo <-Yz lf ky xs bs c | return none
  if mo then l:=c+1 else h:=c
 return some h):=rfl
theorem Xp(a b:Array Keyed):mLo a b=(do
 rule "list.sort.merge-lo"
 let tot:=a.size+b.size
 let fin (o:Array Keyed) (x y:Nat):=o++a.extract x a.size++b.extract y b.size
 let laA (o:Array Keyed) (x y:Nat):=o++b.extract y b.size++a.extract x a.size
 let mut o:Array Keyed:=#[<-elem' b 0]
 let mut x:=0
 let mut y:=1
 if y==b.size then return fin o x y
 if x+1==a.size then return laA o x y
 let mut mg:=gallopOf (<-get)
 for _ in [0:tot] do
  let mut na:=0
  let mut nb:=0
  for _ in [0:tot] do
   let some bw <-lt' (<-elem' b y) (<-elem' a x) | return fin o x y
   if bw then
    o:=o.push (<-elem' b y);y:=y+1;nb:=nb+1;na:=0
    if y==b.size then return fin o x y
    if nb>=mg then break
   else
    o:=o.push (<-elem' a x);x:=x+1;na:=na+1;nb:=0
    if x+1==a.size then return laA o x y
    if na>=mg then break
  rule "list.sort.gallop"
  mg:=mg+1
  for _ in [0:tot] do
   if mg > 1 then mg:=mg-1
   modify λst=>dk st mg
   let some k <-VM false (<-elem' b y) a x (a.size-x) 0 | return fin o x y
   na:=k
   if k > 0 then
    o:=o++a.extract x (x+k);x:=x+k
    if x+1==a.size then return laA o x y
    if x==a.size then return fin o x y
   o:=o.push (<-elem' b y);y:=y+1
   if y==b.size then return fin o x y
   let some k <-VM true (<-elem' a x) b y (b.size-y) 0 | return fin o x y
   nb:=k
   if k > 0 then
    o:=o++b.extract y (y+k);y:=y+k
    if y==b.size then return fin o x y
   o:=o.push (<-elem' a x);x:=x+1
   if x+1==a.size then return laA o x y
   if na<7&&nb<7 then break
  mg:=mg+1
  modify λst=>dk st mg
 unsupported "internal:list.sort.merge-bound"):=rfl
theorem Xq(a b:Array Keyed):mHi a b=(do
 rule "list.sort.merge-hi"
 let tot:=a.size+b.size
 let fin (o:Array Keyed) (x y:Nat):=a.extract 0 x++b.extract 0 y++o.reverse
 let fiB (o:Array Keyed) (x y:Nat):=b.extract 0 y++a.extract 0 x++o.reverse
 let mut x:=a.size-1
 let mut y:=b.size
 let mut o:Array Keyed:=#[<-elem' a x]
 if x==0 then return fin o x y
 if y==1 then return fiB o x y
 let mut mg:=gallopOf (<-get)
 for _ in [0:tot] do
  let mut na:=0
  let mut nb:=0
  for _ in [0:tot] do
   let some aw <-lt' (<-elem' b (y-1)) (<-elem' a (x-1)) | return fin o x y
   if aw then
    x:=x-1;o:=o.push (<-elem' a x);na:=na+1;nb:=0
    if x==0 then return fin o x y
    if na>=mg then break
   else
    y:=y-1;o:=o.push (<-elem' b y);nb:=nb+1;na:=0
    if y==1 then return fiB o x y
    if nb>=mg then break
  rule "list.sort.gallop"
  mg:=mg+1
  for _ in [0:tot] do
   if mg > 1 then mg:=mg-1
   modify λst=>dk st mg
   let some e <-VM false (<-elem' b (y-1)) a 0 x (x-1) | return fin o x y
   let k:=x-e
   na:=k
   if k > 0 then
    o:=o++(a.extract e x).reverse;x:=e
    if x==0 then return fin o x y
   y:=y-1;o:=o.push (<-elem' b y)
   if y==1 then return fiB o x y
   let some e <-VM true (<-elem' a (x-1)) b 0 y (y-1) | return fin o x y
   let k:=y-e
   nb:=k
   if k > 0 then
    o:=o++(b.extract e y).reverse;y:=e
    if y==1 then return fiB o x y
    if y==0 then return fin o x y
   x:=x-1;o:=o.push (<-elem' a x)
   if x==0 then return fin o x y
   if na<7&&nb<7 then break
  mg:=mg+1
  modify λst=>dk st mg
 unsupported "internal:list.sort.merge-bound"):=rfl
theorem Xr(i:Nat):mergeAt' i=(do
 let st <-get
 let (some (sa,na,pw),some (sb,nb,_)):=((pendingOf st)[i]?,(pendingOf st)[i+1]?) | unsupported "internal:list.sort.pending"
 set (setPending st (((pendingOf st).setIfInBounds i (sa,na+nb,pw)).eraseIdxIfInBounds (i+1)))
 let some k <-VM false (<-elem' (arrOf st) sb) (arrOf st) sa na 0 | return false
 let (sa,na):=(sa+k,na-k)
 if na==0 then return true
 let some nb <-VM true (<-elem' (arrOf st) (sa+na-1)) (arrOf st) sb nb (nb-1) | return false
 if nb==0 then return true
 let x:=(arrOf st).extract sa sb
 let y:=(arrOf st).extract sb (sb+nb)
 let mgd <-if na<=nb then mLo x y else mHi x y
 modify λst=>setArr st (mgd.toList.zipIdx.foldl (λa (p,j)=>a.setIfInBounds (sa+j) p) (arrOf st))
 return (failedOf (<-get)).isNone):=rfl
section
variable {prog:Program}{w:World}{A:Around}{E:Value->Shared->Prop}{s:Shared}{κ:SortKind}{r:Keyed->Int}{U:Keyed->Prop}
def Zv(prog:Program)(w:World)(A:Around)(s:Shared)(κ:SortKind)(r:Keyed->Int)(U:Keyed->Prop):Prop:=
 ∀x y (Q:Bool->Shared->Prop),U x->U y->Q (decide (r x<r y)) s->wpAny (model prog w) A (keyLt' κ x.1 y.1) Q (λ_ _=>False) s
theorem Oc(C:Zv prog w A s κ r U){x y:Keyed}{Q:Option Bool->SortSt->Prop}{st:SortSt}(hx:U x)(hy:U y)(hk:kindOf st=κ)(h:Q (some (decide (r x<r y))) st):wpS (model prog w) A E s (lt' x y) Q st:=by
 rw[lt'_eq]
 refine aO (iw ?_)
 rw[hk]
 refine aO (mn (rE (dq (C x y (λb s'=>s'=s/\b=decide (r x<r y)) hx hy ⟨rfl,rfl⟩) (λb s' h'=>?_) λ_ _ hF=>hF.elim)))
 obtain⟨rfl,rfl⟩:=h'
 exact⟨rfl,aH h⟩
theorem cU{xs:Array Keyed}{i:Nat}{Q:Keyed->SortSt->Prop}{st:SortSt}(hi:i<xs.size)(h:Q xs[i] st):wpS (model prog w) A E s (elem' xs i) Q st:=by
 rw[elem'_eq,g9 hi]
 exact aH h
def isA(r:Keyed->Int)(lf:Bool)(ky z:Keyed):Bool:=if lf then decide (r z<r ky) else decide (r z<=r ky)
theorem Z3(C:Zv prog w A s κ r U){lf:Bool}{ky:Keyed}{xs:Array Keyed}{bs i:Nat}{Q:Option Bool->SortSt->Prop}{st:SortSt}(hi:bs+i<xs.size)(hU:∀z∈xs,U z)(hy:U ky)(hk:kindOf st=κ)(h:Q (some (isA r lf ky xs[bs+i])) st) :
  wpS (model prog w) A E s (Yz lf ky xs bs i) Q st:=by
 unfold Yz
 refine aO (cU hi ?_)
 have hu:=hU _ (g7 hi)
 unfold isA at h
 cases lf with
 | true=>exact Oc C hu hy hk h
 | false=>
  simp only[fB,bU]at h ⊢
  refine aO (Oc C hy hu hk (aH ?_))
  have e:(!decide (r ky<r xs[bs+i]))=decide (r xs[bs+i]<=r ky):=by
   rw[iZ];simp
  show Q (some (!decide (r ky<r xs[bs+i]))) st
  rw[e];exact h
theorem yf(C:Zv prog w A s κ r U){lf:Bool}{ky:Keyed}{xs:Array Keyed}{bs m ht:Nat}{Q:Option Nat->SortSt->Prop}{st:SortSt}(hm:bs+m<=xs.size)(hh:ht<m)(hU:∀z∈xs,U z)(hy:U ky)(hk:kindOf st=κ)
  (uS:∀i j (h1:i<=j) (h2:bs+j<xs.size),j<m->r (xs[bs+i]'(by lia))<=r xs[bs+j])
  (h:∀k,k<=m->(∀i,i<k->∀(h2:bs+i<xs.size),isA r lf ky xs[bs+i]=true)->(∀i,k<=i->i<m->∀(h2:bs+i<xs.size),isA r lf ky xs[bs+i]=false)->Q (some k) st) :
  wpS (model prog w) A E s (VM lf ky xs bs m ht) Q st:=by
 obtain⟨f,hf⟩:∃f:Nat->Bool,∀i (h2:bs+i<xs.size),isA r lf ky xs[bs+i]=f i:=⟨λi=>if h2:bs+i<xs.size then isA r lf ky xs[bs+i] else false,λi h2=>by dsimp only;rw[dif_pos h2]⟩
 have mono:∀i j,i<=j->j<m->f j=true->f i=true:=λi j Fx hj e=>by
  have h2:bs+j<xs.size:=by lia
  rw[<-hf j h2]at e
  rw[<-hf i (by lia)]
  have:=uS i j Fx h2 hj
  unfold isA at e ⊢
  cases lf <;> simp at e ⊢ <;> lia
 have JP:∀i j,i<=j->j<m->f i=false->f j=false:=λi j Fx hj e=>by
  cases e':f j with
  | false=>rfl
  | true=>rw[mono i j Fx hj e']at e;cases e
 have h':∀k,k<=m->(∀i,i<k->f i=true)->(∀i,k<=i->i<m->f i=false)->Q (some k) st:=λk hk1 h1 h2=>
  h k hk1 (λi hi hb=>by rw[hf];exact h1 i hi) (λi hi Uo hb=>by rw[hf];exact h2 i hi Uo)
 have ask:∀i (Q':Option Bool->SortSt->Prop),i<m->Q' (some (f i)) st->wpS (model prog w) A E s (Yz lf ky xs bs i) Q' st:=λi Q' hi q=>by
  have h2:bs+i<xs.size:=by lia
  exact Z3 C h2 hU hy hk (by rw[hf i h2];exact q)
 rw[Yk]
 refine aO (ask ht _ hh ?_)
 cases hr:f ht with
 | true=>
  simp only[fK]
  refine aO (dQ (eL (I:=λx c bu=>bu=st/\∃la of,c=(none,la,of)/\la<of/\ht+la<m/\x+1<=of/\f (ht+la)=true)
   (Q:=λc bu=>bu=st/\∃la of,c=(none,la,of)/\la<of/\ht+la<m/\f (ht+la)=true/\(of>=m-ht\/f (ht+of)=false)) ?step ?fin ⟨rfl,0,1,rfl,by lia,by lia,by lia,hr⟩) ?post)
  case post=>
   intro c σ0 gB
   refine hide λgG hG=>?_
   obtain⟨rfl,la,of,rfl,a1,a2,a3,a4⟩:=gB
   refine hG ?_
   have RL:ht+la+1<=ht+min of (m-ht):=by lia
   have RK:ht+min of (m-ht)<=m:=by lia
   have hl3:∀i,i<ht+la+1->f i=true:=λi hi=>mono i _ (by lia) a2 a3
   have hl4:∀i,ht+min of (m-ht)<=i->i<m->f i=false:=λi hi Uo=>a4.elim (λa4=>by lia) λa4=>JP _ i (by lia) Uo a4
   dsimp only
   generalize ht+la+1=l0 at RL hl3 ⊢
   generalize ht+min of (m-ht)=h0 at RL RK hl4 ⊢
   refine aO (dQ (eL (I:=λx c bu=>bu=σ0/\∃l hI,c=(none,l,hI)/\l<=hI/\hI<=m/\hI-l<=m-x/\(∀i,i<l->f i=true)/\(∀i,hI<=i->i<m->f i=false))
    (Q:=λc bu=>bu=σ0/\∃hI l,c=(none,l,hI)/\hI<=m/\(∀i,i<hI->f i=true)/\(∀i,hI<=i->i<m->f i=false)) ?bstep ?bfin ⟨rfl,l0,h0,rfl,RL,RK,by lia,hl3,hl4⟩) ?bpost)
   case bpost=>
    intro c bu gB
    refine hide λgG hG=>?_
    obtain⟨rfl,hI,l,rfl,a1,a2,a3⟩:=gB
    refine hG ?_
    exact aH (h' hI a1 a2 a3)
   case bfin=>
    intro c bu gB
    refine hide λgG hG=>?_
    obtain⟨rfl,l,hI,rfl,a1,a2,a3,a4,a5⟩:=gB
    refine hG ?_
    have:l=hI:=by lia
    subst this
    exact⟨rfl,l,l,rfl,a2,a4,a5⟩
   case bstep=>
    intro x c bu _ hx wJ
    refine hide λgG hG=>?_
    obtain⟨rfl,l,hI,rfl,a1,a2,a3,a4,a5⟩:=wJ
    refine hG ?_
    dsimp only
    by_cases Mf:l>=hI
    ·rw[aB Mf]
     have:l=hI:=by lia
     subst this
     exact aH ⟨rfl,l,l,rfl,a2,a4,a5⟩
    ·rw[aA Mf]
     refine aO (ask _ _ (by lia) ?_)
     cases hc:f (l+(hI-l) / 2) with
     | true=>
      simp only[fK]
      exact aH ⟨rfl,_,_,rfl,by lia,by lia,by lia,λi hi=>mono i _ (by lia) (by lia) hc,a5⟩
     | false=>
      simp only[fB,bU]
      exact aH ⟨rfl,_,_,rfl,by lia,by lia,by lia,a4,λi hi Uo=>JP _ i hi Uo hc⟩
  case fin=>
   intro c bu gB
   refine hide λgG hG=>?_
   obtain⟨rfl,la,of,rfl,a1,a2,a3,a4⟩:=gB
   refine hG ?_
   exact⟨rfl,la,of,rfl,a1,a2,a4,.inl (by lia)⟩
  case step=>
   intro x c bu _ hx wJ
   refine hide λgG hG=>?_
   obtain⟨rfl,la,of,rfl,a1,a2,a3,a4⟩:=wJ
   refine hG ?_
   dsimp only
   by_cases Mf:of>=m-ht
   ·rw[aB Mf]
    exact aH ⟨rfl,la,of,rfl,a1,a2,a4,.inl Mf⟩
   ·rw[aA Mf]
    refine aO (ask _ _ (by lia) ?_)
    cases hc:f (ht+of) with
    | true=>
     simp only[mw,fB,bU]
     exact aH ⟨rfl,of,_,rfl,by lia,by lia,by lia,hc⟩
    | false=>
     simp only[Bool.not_false,fK]
     exact aH ⟨rfl,la,of,rfl,a1,a2,a4,.inr hc⟩
 | false=>
  simp only[fB,bU]
  refine aO (dQ (eL (I:=λx c bu=>bu=st/\∃la of,c=(none,la,of)/\la<of/\la<=ht/\x+1<=of/\f (ht-la)=false)
   (Q:=λc bu=>bu=st/\∃la of,c=(none,la,of)/\la<of/\la<=ht/\f (ht-la)=false/\(of>=ht+1\/f (ht-of)=true)) ?step ?fin ⟨rfl,0,1,rfl,by lia,by lia,by lia,hr⟩) ?post)
  case post=>
   intro c σ0 gB
   refine hide λgG hG=>?_
   obtain⟨rfl,la,of,rfl,a1,a2,a3,a4⟩:=gB
   refine hG ?_
   have RL:ht+1-min of (ht+1)<=ht-la:=by lia
   have RK:ht-la<=m:=by lia
   have hl3:∀i,i<ht+1-min of (ht+1)->f i=true:=λi hi=>a4.elim (λa4=>by lia) λa4=>mono i _ (by lia) (by lia) a4
   have hl4:∀i,ht-la<=i->i<m->f i=false:=λi hi Uo=>JP _ i hi Uo a3
   dsimp only
   generalize ht+1-min of (ht+1)=l0 at RL hl3 ⊢
   generalize ht-la=h0 at RL RK hl4 ⊢
   refine aO (dQ (eL (I:=λx c bu=>bu=σ0/\∃l hI,c=(none,l,hI)/\l<=hI/\hI<=m/\hI-l<=m-x/\(∀i,i<l->f i=true)/\(∀i,hI<=i->i<m->f i=false))
    (Q:=λc bu=>bu=σ0/\∃hI l,c=(none,l,hI)/\hI<=m/\(∀i,i<hI->f i=true)/\(∀i,hI<=i->i<m->f i=false)) ?bstep ?bfin ⟨rfl,l0,h0,rfl,RL,RK,by lia,hl3,hl4⟩) ?bpost)
   case bpost=>
    intro c bu gB
    refine hide λgG hG=>?_
    obtain⟨rfl,hI,l,rfl,a1,a2,a3⟩:=gB
    refine hG ?_
    exact aH (h' hI a1 a2 a3)
   case bfin=>
    intro c bu gB
    refine hide λgG hG=>?_
    obtain⟨rfl,l,hI,rfl,a1,a2,a3,a4,a5⟩:=gB
    refine hG ?_
    have:l=hI:=by lia
    subst this
    exact⟨rfl,l,l,rfl,a2,a4,a5⟩
   case bstep=>
    intro x c bu _ hx wJ
    refine hide λgG hG=>?_
    obtain⟨rfl,l,hI,rfl,a1,a2,a3,a4,a5⟩:=wJ
    refine hG ?_
    dsimp only
    by_cases Mf:l>=hI
    ·rw[aB Mf]
     have:l=hI:=by lia
     subst this
     exact aH ⟨rfl,l,l,rfl,a2,a4,a5⟩
    ·rw[aA Mf]
     refine aO (ask _ _ (by lia) ?_)
     cases hc:f (l+(hI-l) / 2) with
     | true=>
      simp only[fK]
      exact aH ⟨rfl,_,_,rfl,by lia,by lia,by lia,λi hi=>mono i _ (by lia) (by lia) hc,a5⟩
     | false=>
      simp only[fB,bU]
      exact aH ⟨rfl,_,_,rfl,by lia,by lia,by lia,a4,λi hi Uo=>JP _ i hi Uo hc⟩
  case fin=>
   intro c bu gB
   refine hide λgG hG=>?_
   obtain⟨rfl,la,of,rfl,a1,a2,a3,a4⟩:=gB
   refine hG ?_
   exact⟨rfl,la,of,rfl,a1,a2,a4,.inl (by lia)⟩
  case step=>
   intro x c bu _ hx wJ
   refine hide λgG hG=>?_
   obtain⟨rfl,la,of,rfl,a1,a2,a3,a4⟩:=wJ
   refine hG ?_
   dsimp only
   by_cases Mf:of>=ht+1
   ·rw[aB Mf]
    exact aH ⟨rfl,la,of,rfl,a1,a2,a4,.inl Mf⟩
   ·rw[aA Mf]
    refine aO (ask _ _ (by lia) ?_)
    cases hc:f (ht-of) with
    | true=>
     simp only[fK]
     exact aH ⟨rfl,la,of,rfl,a1,a2,a4,.inr hc⟩
    | false=>
     simp only[fB,bU]
     exact aH ⟨rfl,of,_,rfl,by lia,by lia,by lia,hc⟩
end
theorem aJ{M:Model}{A:Around}{E:Value->Shared->Prop}{s:Shared}{σ α:Type}{c:Prop} [Decidable c] {m n:StateT σ Sem α} {Q:α->σ->Prop} {st:σ} (h1:c->wpS M A E s m Q st) (h2:¬c->wpS M A E s n Q st):wpS M A E s (if c then m else n) Q st:=by
 by_cases h:c
 ·rw[aB h];exact h1 h
 ·rw[aA h];exact h2 h
theorem Ab{α:Type}{P R:α->Nat->Prop}{G:Prop}(k:(∀o x,R o x->P o x)->G)(h:∀o x,R o x->P o x):G:=k h
theorem share{P:Nat->Prop}{G:Prop}(k:(∀g,P g)->G)(h:∀g,P g):G:=k h
def jz(r:Keyed->Int)(l:List Keyed):Prop:=l.Pairwise λx y=>r x<=r y
structure MI(r:Keyed->Int)(tot o ra rb:List Keyed):Prop where
 perm:(o++(ra++rb)).Perm tot
 so:jz r o
 sa:jz r ra
 sb:jz r rb
 la:∀u∈o,∀v∈ra,r u<=r v
 lb:∀u∈o,∀v∈rb,r u<=r v
section
variable {r:Keyed->Int}{tot o ra rb p:List Keyed}
theorem MI.x6(h:MI r tot o (p++ra) rb)(hp:∀u∈p,∀v∈rb,r u<=r v):MI r tot (o++p) ra rb:=by
 have sa:=lN.mp h.sa
 refine⟨by simpa [j3]using h.perm,lN.mpr ⟨h.so,sa.1,λu hu v hv=>h.la u hu v (j4 _ hv)⟩,sa.2.1,h.sb,λu hu v hv=>?_,λu hu v hv=>?_⟩
 ·rcases bT.mp hu with hu | hu
  ·exact h.la u hu v (iI _ hv)
  ·exact sa.2.2 u hu v hv
 ·rcases bT.mp hu with hu | hu
  ·exact h.lb u hu v hv
  ·exact hp u hu v hv
theorem MI.xZ(h:MI r tot o ra (p++rb))(hp:∀u∈p,∀v∈ra,r u<=r v):MI r tot (o++p) ra rb:=by
 have sb:=lN.mp h.sb
 refine⟨?_,lN.mpr ⟨h.so,sb.1,λu hu v hv=>h.lb u hu v (j4 _ hv)⟩,h.sa,sb.2.1,λu hu v hv=>?_,λu hu v hv=>?_⟩
 ·refine List.Perm.trans ?_ h.perm
  rw[j3]
  refine Gp o ?_
  rw[<-j3,<-j3]
  exact Gs rb List.perm_append_comm
 ·rcases bT.mp hu with hu | hu
  ·exact h.la u hu v hv
  ·exact hp u hu v hv
 ·rcases bT.mp hu with hu | hu
  ·exact h.lb u hu v (iI _ hv)
  ·exact sb.2.2 u hu v hv
theorem MI.UT(h:MI r tot o ra []):(o++ra).Perm tot/\jz r (o++ra):=⟨by simpa using h.perm,lN.mpr ⟨h.so,h.sa,h.la⟩⟩
theorem MI.UL(h:MI r tot o [] rb):(o++rb).Perm tot/\jz r (o++rb):=⟨by simpa using h.perm,lN.mpr ⟨h.so,h.sb,h.lb⟩⟩
theorem MI.aEq{z:Keyed}(h:MI r tot o [z] rb)(hz:∀v∈rb,r v<=r z):(o++rb++[z]).Perm tot/\jz r (o++rb++[z]):=by
 have h':=(MI.xZ (p:=rb) (rb:=[]) (by simpa using h) λu hu v hv=>by rw[bR.mp hv];exact hz u hu).UT
 exact h'
end
section
variable {r:Keyed->Int}{a b o:Array Keyed}{x y k:Nat}
abbrev tot(a b:Array Keyed):List Keyed:=a.toList++b.toList
def Good(r:Keyed->Int)(a b R:Array Keyed):Prop:=R.toList.Perm (tot a b)/\jz r R.toList
abbrev BZ(r:Keyed->Int)(a b o:Array Keyed)(x y:Nat):Prop:=MI r (tot a b) o.toList (a.toList.drop x) (b.toList.drop y)
theorem ie(a:Array Keyed)(x n:Nat):(a.extract x n).toList=(a.toList.drop x).take (n-x):=by
 rw[Array.toList_extract]
theorem vd(a:Array Keyed)(x:Nat):(a.extract x a.size).toList=a.toList.drop x:=by
 rw[ie,<-dF,<-jD]
 exact fu
theorem En(l:List Keyed)(x k:Nat):l.drop x=(l.drop x).take k++l.drop (x+k):=by
 rw[<-List.drop_drop];exact(vi k _).symm
theorem drop_one(a:Array Keyed){x:Nat}(h:x<a.size):a.toList.drop x=[a[x]]++a.toList.drop (x+1):=by
 rw[Gz (by simpa using h)];simp
theorem jI{a:Array Keyed}{x:Nat}{v:Keyed}(h:v∈a.toList.drop x):∃i,∃(hi:x+i<a.size),v=a[x+i]:=by
 obtain⟨i,hi,e⟩:=gD.mp h
 rw[jD,dF]at hi
 refine⟨i,by lia,?_⟩
 rw[<-e];simp
theorem ic{a:Array Keyed}{x k:Nat}{v:Keyed}(h:v∈(a.toList.drop x).take k):∃i,∃(hi:x+i<a.size),i<k/\v=a[x+i]:=by
 obtain⟨i,hi,e⟩:=gD.mp h
 rw[cz,jD,dF]at hi
 refine⟨i,by lia,by lia,?_⟩
 rw[<-e];simp
theorem gJ{a:Array Keyed}(s:jz r a.toList){i j:Nat}(Fx:i<=j)(hj:j<a.size):r (a[i]'(by lia))<=r a[j]:=by
 rcases Nat.lt_or_eq_of_le Fx with h | h
 ·have:=(vI.mp s) i j (by simpa using by lia) (by simpa using hj) h
  simpa using this
 ·subst h;exact gC _
theorem MI.yj(h:BZ r a b o x y)(hy:y<b.size)(hx:∀i,x<=i->∀(hi:i<a.size),r b[y]<=r a[i]):BZ r a b (o.push b[y]) x (y+1):=by
 have h':MI r (tot a b) o.toList (a.toList.drop x) ([b[y]]++b.toList.drop (y+1)):=by rw[<-drop_one b hy];exact h
 have:=h'.xZ λu hu v hv=>by
  obtain⟨i,hi,rfl⟩:=jI hv
  rw[bR.mp hu]
  exact hx _ (by lia) hi
 show MI r (tot a b) (o.push b[y]).toList _ _
 rw[tO];exact this
theorem MI.yk(h:BZ r a b o x y)(hx:x<a.size)(hy:∀i,y<=i->∀(hi:i<b.size),r a[x]<=r b[i]):BZ r a b (o.push a[x]) (x+1) y:=by
 have h':MI r (tot a b) o.toList ([a[x]]++a.toList.drop (x+1)) (b.toList.drop y):=by rw[<-drop_one a hx];exact h
 have:=h'.x6 λu hu v hv=>by
  obtain⟨i,hi,rfl⟩:=jI hv
  rw[bR.mp hu]
  exact hy _ (by lia) hi
 show MI r (tot a b) (o.push a[x]).toList _ _
 rw[tO];exact this
theorem MI.P6(h:BZ r a b o x y)(hp:∀i,i<k->∀(hi:x+i<a.size) j,y<=j->∀(hj:j<b.size),r a[x+i]<=r b[j]):BZ r a b (o++a.extract x (x+k)) (x+k) y:=by
 have h':MI r (tot a b) o.toList ((a.toList.drop x).take k++a.toList.drop (x+k)) (b.toList.drop y):=by rw[<-En];exact h
 have:=h'.x6 λu hu v hv=>by
  refine hide λgG hG=>?_
  obtain⟨i,hi,hk,rfl⟩:=ic hu
  obtain⟨j,hj,rfl⟩:=jI hv
  refine hG ?_
  exact hp i hk hi _ (by lia) hj
 show MI r (tot a b) (o++a.extract x (x+k)).toList _ _
 rw[lM,ie,Nat.add_sub_cancel_left]
 exact this
theorem MI.P0(h:BZ r a b o x y)(hp:∀i,i<k->∀(hi:y+i<b.size) j,x<=j->∀(hj:j<a.size),r b[y+i]<=r a[j]):BZ r a b (o++b.extract y (y+k)) x (y+k):=by
 have h':MI r (tot a b) o.toList (a.toList.drop x) ((b.toList.drop y).take k++b.toList.drop (y+k)):=by rw[<-En];exact h
 have:=h'.xZ λu hu v hv=>by
  refine hide λgG hG=>?_
  obtain⟨i,hi,hk,rfl⟩:=ic hu
  obtain⟨j,hj,rfl⟩:=jI hv
  refine hG ?_
  exact hp i hk hi _ (by lia) hj
 show MI r (tot a b) (o++b.extract y (y+k)).toList _ _
 rw[lM,ie,Nat.add_sub_cancel_left]
 exact this
theorem MI.fin(h:BZ r a b o x y)(e:y=b.size\/x=a.size):Good r a b (o++a.extract x a.size++b.extract y b.size):=by
 unfold Good
 rw[lM,lM,vd,vd]
 rcases e with e | e
 ·have z:b.toList.drop y=[]:=zG (by simp[e])
  have h':MI r (tot a b) o.toList (a.toList.drop x) []:=by rw[<-z];exact h
  rw[z,jB];exact h'.UT
 ·have z:a.toList.drop x=[]:=zG (by simp[e])
  have h':MI r (tot a b) o.toList [] (b.toList.drop y):=by rw[<-z];exact h
  rw[z,jB];exact h'.UL
theorem MI.las(h:BZ r a b o x y)(e:x+1=a.size)(hl:∀v∈b,r v<=r (a[a.size-1]'(by lia))):Good r a b (o++b.extract y b.size++a.extract x a.size):=by
 unfold Good
 rw[lM,lM,vd,vd]
 have z:a.toList.drop x=[a[a.size-1]'(by lia)]:=by
  rw[drop_one a (by lia),zG (by simp;lia)]
  simp only[jB]
  congr 2
  lia
 have h':MI r (tot a b) o.toList [a[a.size-1]'(by lia)] (b.toList.drop y):=by rw[<-z];exact h
 rw[z]
 exact h'.aEq λv hv=>hl v (by simpa using List.mem_of_mem_drop hv)
end
section
variable {prog:Program}{w:World}{A:Around}{E:Value->Shared->Prop}{s:Shared}{κ:SortKind}{r:Keyed->Int}{U:Keyed->Prop}
theorem Z0(C:Zv prog w A s κ r U){a b:Array Keyed}{Q:Array Keyed->SortSt->Prop}{st:SortSt}(hk:kindOf st=κ)(ha:∀z∈a,U z)(hb:∀z∈b,U z)(sa:jz r a.toList)(sb:jz r b.toList)(na:0<a.size)(nb:0<b.size)
  (h0:r b[0]<=r a[0]) (hl:∀v∈b,r v<=r (a[a.size-1]'(by lia))) (h:∀R g,Good r a b R->Q R (dk st g)):wpS (model prog w) A E s (mLo a b) Q st:=by
 rw[Xp]
 refine aO (mn (iy ⟨rfl,?_⟩))
 refine aO (cU nb ?_)
 try dsimp only
 have M0:BZ r a b #[b[0]] 0 1:=MI.yj (o:=#[]) (x:=0) (y:=0) ⟨by simp,List.Pairwise.nil,by simpa using sa,by simpa using sb,by simp,by simp⟩ nb λi _ hi=>by
  have:=gJ sa (dG i) hi
  lia
 refine aJ (λhz=>?_) (λhz=>?_)
 ·exact aH (h _ (gallopOf st) (M0.fin (.inl (by simpa using hz))))
 have Y1:=hz
 refine aJ (λhz=>?_) (λhz=>?_)
 ·exact aH (h _ (gallopOf st) (M0.las (by simpa using hz) hl))
 have xr:=hz
 have XH:1≠b.size:=by simpa using Y1
 have Qo:0+1≠a.size:=by simpa using xr
 clear h0 hz Y1 xr
 refine aO (iw ?_)
 refine aO (dQ (eL (I:=λn c bu=>(∃g,bu=dk st g)/\∃o x y mg,c=(none,o,x,y,mg)/\x+1<a.size/\y<b.size/\BZ r a b o x y/\n+1<=x+y)
  (Q:=λc bu=>(∃g,bu=dk st g)/\∃R,c.1=some R/\Good r a b R) ?step ?fin ⟨⟨gallopOf st,rfl⟩,_,_,_,_,rfl,by lia,by lia,M0,by lia⟩) ?post)
 case post=>
  intro QF bu gB
  refine hide λgG hG=>?_
  obtain⟨c1,c⟩:=QF
  obtain⟨⟨g,rfl⟩,R,rfl,hR⟩:=gB
  refine hG ?_
  exact aH (h R g hR)
 case fin=>
  intro c bu gB
  refine hide λgG hG=>?_
  obtain⟨_,o,x,y,mg,rfl,hx,hy,M,hn⟩:=gB
  refine hG ?_
  lia
 case step=>
  clear XH Qo M0 h
  intro n c bu _ hn wJ
  refine hide λgG hG=>?_
  obtain⟨⟨g,rfl⟩,o,x,y,mg,rfl,hx,hy,M,X8⟩:=wJ
  refine hG ?_
  try dsimp only
  refine aO (dQ (eL (I:=λn1 d bu=>(∃g,bu=dk st g)/\∃o' x' y' p q,d=(none,o',x',y',p,q)/\x'+1<a.size/\y'<b.size/\BZ r a b o' x' y'/\x+y+n1<=x'+y')
   (Q:=λd bu=>(∃g,bu=dk st g)/\match d.1 with | some R=>Good r a b R | none=>d.2.2.1+1<a.size/\d.2.2.2.1<b.size/\BZ r a b d.2.1 d.2.2.1 d.2.2.2.1/\n+2<=d.2.2.1+d.2.2.2.1) ?step1 ?fin1 ⟨⟨g,rfl⟩,o,x,y,0,0,rfl,hx,hy,M,by lia⟩) ?post1)
  case fin1=>
   intro d bu gB
   refine hide λgG hG=>?_
   obtain⟨hg,o',x',y',p,q,rfl,Fw,Ib,M',Bo⟩:=gB
   refine hG ?_
   exact⟨hg,Fw,Ib,M',by simp only;lia⟩
  case step1=>
   clear hx hy M hn
   intro n1 d bu _ u3 wJ
   refine hide λgG hG=>?_
   obtain⟨⟨g,rfl⟩,o,x,y,p,q,rfl,hx,hy,M,Bo⟩:=wJ
   refine hG ?_
   try dsimp only
   refine aO (cU hy ?_)
   refine aO (cU (by lia) ?_)
   refine aO (Oc C (hb _ (g7 _)) (ha _ (g7 _)) hk ?_)
   try dsimp only
   by_cases hc:r b[y]<r a[x]
   ·rw[aB (by simpa using hc)]
    refine aO (cU hy ?_)
    try dsimp only
    have MB:=MI.yj M hy λi hi h2=>by
     have:=gJ sa hi h2
     lia
    refine aJ (λhz=>?_) (λhz=>?_)
    ·exact aH ⟨⟨_,rfl⟩,MB.fin (.inl (by simpa using hz))⟩
    have Ma:y+1≠b.size:=by simpa using hz
    refine aJ (λhz=>?_) (λhz=>?_)
    ·exact aH ⟨⟨_,rfl⟩,hx,(by simp only;lia),MB,by simp only;lia⟩
    ·exact aH ⟨⟨_,rfl⟩,_,_,_,_,_,rfl,hx,by lia,MB,by lia⟩
   ·rw[aA (by simpa using hc)]
    refine aO (cU (by lia) ?_)
    try dsimp only
    have MB:=MI.yk M (by lia) λi hi h2=>by
     have:=gJ sb hi h2
     lia
    refine aJ (λhz=>?_) (λhz=>?_)
    ·exact aH ⟨⟨_,rfl⟩,MB.las (by simpa using hz) hl⟩
    have Ma:x+1+1≠a.size:=by simpa using hz
    refine aJ (λhz=>?_) (λhz=>?_)
    ·exact aH ⟨⟨_,rfl⟩,(by simp only;lia),hy,MB,by simp only;lia⟩
    ·exact aH ⟨⟨_,rfl⟩,_,_,_,_,_,rfl,by lia,hy,MB,by lia⟩
  case post1=>
   intro QF bu gB
   refine hide λgG hG=>?_
   obtain⟨d1,o1,x1,y1,p1,q1⟩:=QF
   obtain⟨⟨g,rfl⟩,hd⟩:=gB
   refine hG ?_
   dsimp only at hd ⊢
   cases d1 with
   | some R=>exact aH ⟨⟨_,rfl⟩,R,rfl,hd⟩
   | none=>
    refine hide λgG hG=>?_
    obtain⟨JZ,Qp,M1,u3⟩:=hd
    refine hG ?_
    clear hx hy M X8 hn
    try dsimp only
    refine aO (mn (iy ⟨rfl,?_⟩))
    refine aO (dQ (eL (I:=λ_ e bu=>(∃g,bu=dk st g)/\∃o' x' y' m' p q,e=(none,o',x',y',m',p,q)/\x'+1<a.size/\y'<b.size/\BZ r a b o' x' y'/\n+2<=x'+y')
     (Q:=λe bu=>(∃g,bu=dk st g)/\match e.1 with | some R=>Good r a b R | none=>e.2.2.1+1<a.size/\e.2.2.2.1<b.size/\BZ r a b e.2.1 e.2.2.1 e.2.2.2.1/\n+2<=e.2.2.1+e.2.2.2.1) ?step2 ?fin2 ⟨⟨_,rfl⟩,_,_,_,_,_,_,rfl,JZ,Qp,M1,u3⟩) ?post2)
    case fin2=>
     intro e bu gB
     refine hide λgG hG=>?_
     obtain⟨hg,o',x',y',m',p,q,rfl,Fw,Ib,M',Bo⟩:=gB
     refine hG ?_
     exact⟨hg,Fw,Ib,M',Bo⟩
    case post2=>
     intro QF bu gB
     refine hide λgG hG=>?_
     obtain⟨e1,o2,x2,y2,m2,p2,q2⟩:=QF
     obtain⟨⟨g,rfl⟩,he⟩:=gB
     refine hG ?_
     dsimp only at he ⊢
     cases e1 with
     | some R=>exact aH ⟨⟨_,rfl⟩,R,rfl,he⟩
     | none=>
      refine hide λgG hG=>?_
      obtain⟨Uh,Vv,M2,Ul⟩:=he
      refine hG ?_
      refine aO (gF (aH ⟨⟨_,rfl⟩,_,_,_,_,rfl,Uh,Vv,M2,by lia⟩))
    case step2=>
     clear JZ Qp M1 u3
     intro n2 e bu _ Ul wJ
     refine hide λgG hG=>?_
     obtain⟨⟨g,rfl⟩,o,x,y,m',p,q,rfl,hx,hy,M,Bo⟩:=wJ
     refine hG ?_
     try dsimp only
     refine' share (P:=_) (λH=>aJ (λhm=>?A) (λhm=>?B)) ?_
     case A=>generalize m'-1=gg;revert gg;exact H
     case B=>clear hm;generalize m'=gg;revert gg;exact H
     intro gg
     try dsimp only
     refine aO (gF ?_)
     refine aO (cU hy ?_)
     refine aO (yf C (by lia) (by lia) ha (hb _ (g7 _)) hk (λi j h1 h2 _=>gJ sa (by lia) h2) λk l1 l2 l3=>?_)
     try dsimp only
     replace l1:x+k<=a.size:=by lia
     have Qi:∀i,i<k->∀(h2:x+i<a.size),r a[x+i]<=r b[y]:=λi hi h2=>by simpa [isA]using l2 i hi h2
     have Vr:∀i,k<=i->∀(h2:x+i<a.size),r b[y]<r a[x+i]:=λi hi h2=>by have:=l3 i hi (by lia) h2;simpa [isA]using this
     clear l2 l3
     refine' Ab (R:=λo' x'=>x'=x+k/\x'+1<a.size/\BZ r a b o' x' y) (P:=_) (λH=>aJ (λhz=>?A) (λhz=>?B)) ?_
     case A=>
      have MA:=MI.P6 (k:=k) M λi hi h2 j hj Um=>by
       have e1:=Qi i hi h2
       have e2:=gJ sb hj Um
       lia
      refine aJ (λhz=>?_) (λhz=>?_)
      ·exact aH ⟨⟨_,rfl⟩,MA.las (by simpa using hz) hl⟩
      have hz0:x+k+1≠a.size:=by simpa using hz
      refine aJ (λhz=>?_) (λhz=>?_)
      ·exact aH ⟨⟨_,rfl⟩,MA.fin (.inr (by simpa using hz))⟩
      have Y1:x+k≠a.size:=by simpa using hz
      have e1:x+k+1<a.size:=by lia
      obtain⟨x',Fw⟩:∃x',x'=x+k:=⟨_,rfl⟩
      rw[<-Fw]at MA e1 ⊢
      generalize o++a.extract x x'=o' at MA ⊢
      exact H o' x' ⟨Fw,e1,MA⟩
     case B=>exact H o x ⟨by lia,hx,M⟩
     rintro o x' ⟨Fw,JZ,MA⟩
     clear Qi
     refine aO (cU hy ?_)
     try dsimp only
     have MB:=MI.yj MA hy (λi hi h2=>by
        have:=Vr (i-x) (by lia) (by lia)
        have e:x+(i-x)=i:=by lia
        simp only[e]at this
        lia)
     clear Vr MA M l1 hx
     refine aJ (λhz=>?_) (λhz=>?_)
     ·exact aH ⟨⟨_,rfl⟩,MB.fin (.inl (by simpa using hz))⟩
     have xr:y+1≠b.size:=by simpa using hz
     have Vv:y+1<b.size:=by lia
     clear xr hz
     refine aO (cU (by lia) ?_)
     refine aO (yf C (by lia) (by lia) hb (ha _ (g7 _)) hk (λi j h1 h2 _=>gJ sb (by lia) h2) λk2 l1 l2 l3=>?_)
     try dsimp only
     replace l1:y+1+k2<=b.size:=by lia
     have Qi:∀i,i<k2->∀(h2:y+1+i<b.size),r b[y+1+i]<r (a[x']'(by lia)):=λi hi h2=>by simpa [isA]using l2 i hi h2
     have Vr:∀i,k2<=i->∀(h2:y+1+i<b.size),r (a[x']'(by lia))<=r b[y+1+i]:=λi hi h2=>by have:=l3 i hi (by lia) h2;simpa [isA]using this
     clear l2 l3
     refine' Ab (R:=λo' y'=>y'=y+1+k2/\y'<b.size/\BZ r a b o' x' y') (P:=_) (λH=>aJ (λhz=>?A) (λhz=>?B)) ?_
     case A=>
      have MC:=MI.P0 (k:=k2) MB λi hi h2 j hj Um=>by
       have e1:=Qi i hi h2
       have e2:=gJ sa hj Um
       lia
      refine aJ (λhz=>?_) (λhz=>?_)
      ·exact aH ⟨⟨_,rfl⟩,MC.fin (.inl (by simpa using hz))⟩
      have hz4:y+1+k2≠b.size:=by simpa using hz
      have e1:y+1+k2<b.size:=by lia
      obtain⟨y',Ib⟩:∃y',y'=y+1+k2:=⟨_,rfl⟩
      rw[<-Ib]at MC e1 ⊢
      generalize _++b.extract (y+1) y'=o' at MC ⊢
      exact H o' y' ⟨Ib,e1,MC⟩
     case B=>exact H _ (y+1) ⟨by lia,Vv,MB⟩
     rintro o' y' ⟨Ib,Qp,MC⟩
     clear Qi MB
     have MZ:=MI.yk MC (by lia) λi hi h2=>by
      have:=Vr (i-(y+1)) (by lia) (by lia)
      simpa [show y+1+(i-(y+1))=i by lia]using this
     clear Vr MC l1 Vv
     refine aO (cU (by lia) ?_)
     try dsimp only
     refine aJ (λhz=>?_) (λhz=>?_)
     ·exact aH ⟨⟨_,rfl⟩,(MZ.las (by simpa using hz) hl)⟩
     ·have Ma:x'+1+1≠a.size:=by simpa using hz
      have e1:x'+1+1<a.size:=by lia
      have e2:n+2<=x'+1+y':=by lia
      refine aJ (λhz=>?_) (λhz=>?_)
      ·exact aH ⟨⟨_,rfl⟩,e1,Qp,MZ,e2⟩
      ·exact aH ⟨⟨_,rfl⟩,_,_,_,_,_,_,rfl,e1,Qp,MZ,e2⟩
end
structure MH(r:Keyed->Int)(tot ra rb o:List Keyed):Prop where
 perm:(ra++rb++o).Perm tot
 so:jz r o
 sa:jz r ra
 sb:jz r rb
 la:∀u∈ra,∀v∈o,r u<=r v
 lb:∀u∈rb,∀v∈o,r u<=r v
section
variable {r:Keyed->Int}{tot o ra rb p:List Keyed}
theorem MH.xZ(h:MH r tot ra (rb++p) o)(hp:∀u∈p,∀v∈ra,r v<=r u):MH r tot ra rb (p++o):=by
 have sb:=lN.mp h.sb
 refine⟨by simpa [j3]using h.perm,lN.mpr ⟨sb.2.1,h.so,λu hu v hv=>h.lb u (iI _ hu) v hv⟩,h.sa,sb.1,λu hu v hv=>?_,λu hu v hv=>?_⟩
 ·rcases bT.mp hv with hv | hv
  ·exact hp v hv u hu
  ·exact h.la u hu v hv
 ·rcases bT.mp hv with hv | hv
  ·exact sb.2.2 u hu v hv
  ·exact h.lb u (j4 _ hu) v hv
theorem MH.x6(h:MH r tot (ra++p) rb o)(hp:∀u∈p,∀v∈rb,r v<=r u):MH r tot ra rb (p++o):=by
 have sa:=lN.mp h.sa
 refine⟨?_,lN.mpr ⟨sa.2.1,h.so,λu hu v hv=>h.la u (iI _ hu) v hv⟩,sa.1,h.sb,λu hu v hv=>?_,λu hu v hv=>?_⟩
 ·refine List.Perm.trans ?_ h.perm
  rw[<-j3]
  refine Gs o ?_
  rw[j3,j3]
  exact Gp ra List.perm_append_comm
 ·rcases bT.mp hv with hv | hv
  ·exact sa.2.2 u hu v hv
  ·exact h.la u (j4 _ hu) v hv
 ·rcases bT.mp hv with hv | hv
  ·exact hp v hv u hu
  ·exact h.lb u hu v hv
theorem MH.UT(h:MH r tot ra [] o):(ra++o).Perm tot/\jz r (ra++o):=⟨by simpa using h.perm,lN.mpr ⟨h.sa,h.so,h.la⟩⟩
theorem MH.UL(h:MH r tot [] rb o):(rb++o).Perm tot/\jz r (rb++o):=⟨by simpa using h.perm,lN.mpr ⟨h.sb,h.so,h.lb⟩⟩
theorem MH.aEr{z:Keyed}(h:MH r tot ra [z] o)(hz:∀v∈ra,r z<=r v):([z]++ra++o).Perm tot/\jz r ([z]++ra++o):=by
 have h':=(MH.x6 (p:=ra) (ra:=[]) (by simpa using h) λu hu v hv=>by rw[bR.mp hv];exact hz u hu).UL
 rw[j3];exact h'
end
section
variable {r:Keyed->Int}{a b o:Array Keyed}{x y e:Nat}
abbrev Ca(r:Keyed->Int)(a b o:Array Keyed)(x y:Nat):Prop:=MH r (tot a b) (a.toList.take x) (b.toList.take y) o.toList.reverse
theorem J9(a:Array Keyed)(x:Nat):(a.extract 0 x).toList=a.toList.take x:=by
 rw[ie,vx,za]
theorem vR(l:List Keyed){x e:Nat}(h:e<=x):l.take x=l.take e++(l.drop e).take (x-e):=by
 have:=(vi e (l.take x)).symm
 rw[List.take_take,zm h,List.drop_take]at this
 exact this
theorem take_one(a:Array Keyed){x:Nat}(h:x<a.size):a.toList.take (x+1)=a.toList.take x++[a[x]]:=by
 rw[pG,bD (by simpa using h)];simp
theorem Be{a:Array Keyed}{x:Nat}{v:Keyed}(h:v∈a.toList.take x):∃i,∃(hi:i<a.size),i<x/\v=a[i]:=by
 have h':v∈(a.toList.drop 0).take x:=by simpa using h
 refine hide λgG hG=>?_
 obtain⟨i,hi,hx,e⟩:=ic h'
 refine hG ?_
 exact⟨i,by lia,hx,by rw[e];simp⟩
theorem MH.yj(h:Ca r a b o x (y+1))(hy:y<b.size)(hx:∀i,i<x->∀(hi:i<a.size),r a[i]<=r b[y]):Ca r a b (o.push b[y]) x y:=by
 have h':MH r (tot a b) (a.toList.take x) (b.toList.take y++[b[y]]) o.toList.reverse:=by rw[<-take_one b hy];exact h
 have:=h'.xZ λu hu v hv=>by
  refine hide λgG hG=>?_
  obtain⟨i,hi,hk,rfl⟩:=Be hv
  refine hG ?_
  rw[bR.mp hu]
  exact hx _ hk hi
 show MH r (tot a b) _ _ (o.push b[y]).toList.reverse
 rw[tO,zE];exact this
theorem MH.yk(h:Ca r a b o (x+1) y)(hx:x<a.size)(hy:∀i,i<y->∀(hi:i<b.size),r b[i]<=r a[x]):Ca r a b (o.push a[x]) x y:=by
 have h':MH r (tot a b) (a.toList.take x++[a[x]]) (b.toList.take y) o.toList.reverse:=by rw[<-take_one a hx];exact h
 have:=h'.x6 λu hu v hv=>by
  refine hide λgG hG=>?_
  obtain⟨i,hi,hk,rfl⟩:=Be hv
  refine hG ?_
  rw[bR.mp hu]
  exact hy _ hk hi
 show MH r (tot a b) _ _ (o.push a[x]).toList.reverse
 rw[tO,zE];exact this
theorem MH.P6(h:Ca r a b o x y)(he:e<=x)(hp:∀i,e<=i->i<x->∀(hi:i<a.size) j,j<y->∀(hj:j<b.size),r b[j]<=r a[i]):Ca r a b (o++(a.extract e x).reverse) e y:=by
 have h':MH r (tot a b) (a.toList.take e++(a.toList.drop e).take (x-e)) (b.toList.take y) o.toList.reverse:=by rw[<-vR _ he];exact h
 have:=h'.x6 λu hu v hv=>by
  refine hide λgG hG=>?_
  obtain⟨i,hi,hk,rfl⟩:=ic hu
  obtain⟨j,hj,Um,rfl⟩:=Be hv
  refine hG ?_
  exact hp (e+i) (by lia) (by lia) hi _ Um hj
 show MH r (tot a b) _ _ (o++(a.extract e x).reverse).toList.reverse
 rw[lM,zF,zE,List.reverse_reverse,ie]
 exact this
theorem MH.P0(h:Ca r a b o x y)(he:e<=y)(hp:∀i,e<=i->i<y->∀(hi:i<b.size) j,j<x->∀(hj:j<a.size),r a[j]<=r b[i]):Ca r a b (o++(b.extract e y).reverse) x e:=by
 have h':MH r (tot a b) (a.toList.take x) (b.toList.take e++(b.toList.drop e).take (y-e)) o.toList.reverse:=by rw[<-vR _ he];exact h
 have:=h'.xZ λu hu v hv=>by
  refine hide λgG hG=>?_
  obtain⟨i,hi,hk,rfl⟩:=ic hu
  obtain⟨j,hj,Um,rfl⟩:=Be hv
  refine hG ?_
  exact hp (e+i) (by lia) (by lia) hi _ Um hj
 show MH r (tot a b) _ _ (o++(b.extract e y).reverse).toList.reverse
 rw[lM,zF,zE,List.reverse_reverse,ie]
 exact this
theorem MH.fin(h:Ca r a b o x y)(e:x=0\/y=0):Good r a b (a.extract 0 x++b.extract 0 y++o.reverse):=by
 unfold Good
 rw[lM,lM,zF,J9,J9]
 rcases e with e | e
 ·subst e
  exact MH.UL h
 ·subst e
  rw[List.take_zero,jB]
  exact MH.UT h
theorem MH.fst(h:Ca r a b o x y)(e:y=1)(nb:0<b.size)(h0:∀v∈a,r b[0]<=r v):Good r a b (b.extract 0 y++a.extract 0 x++o.reverse):=by
 unfold Good
 rw[lM,lM,zF,J9,J9]
 subst e
 have z:b.toList.take 1=[b[0]]:=by rw[take_one b nb];rfl
 have h':MH r (tot a b) (a.toList.take x) [b[0]] o.toList.reverse:=by rw[<-z];exact h
 rw[z]
 exact h'.aEr λv hv=>h0 v (by simpa using tT hv)
end
section
variable {prog:Program}{w:World}{A:Around}{E:Value->Shared->Prop}{s:Shared}{κ:SortKind}{r:Keyed->Int}{U:Keyed->Prop}
theorem Z1(C:Zv prog w A s κ r U){a b:Array Keyed}{Q:Array Keyed->SortSt->Prop}{st:SortSt}(hk:kindOf st=κ)(ha:∀z∈a,U z)(hb:∀z∈b,U z)(sa:jz r a.toList)(sb:jz r b.toList)(na:0<a.size)(nb:0<b.size)
  (h0:∀v∈a,r b[0]<=r v) (hl:∀v∈b,r v<=r (a[a.size-1]'(by lia))) (h:∀R g,Good r a b R->Q R (dk st g)):wpS (model prog w) A E s (mHi a b) Q st:=by
 rw[Xq]
 refine aO (mn (iy ⟨rfl,?_⟩))
 refine aO (cU (by lia) ?_)
 try dsimp only
 obtain⟨na',hna⟩:∃na',a.size=na'+1:=⟨a.size-1,by lia⟩
 have M0:Ca r a b #[a[a.size-1]'(by lia)] (a.size-1) b.size:=by
  refine MH.yk (o:=#[]) (x:=a.size-1) (y:=b.size) ⟨?_,List.Pairwise.nil,?_,?_,by simp,by simp⟩ (by lia) λi hi M9=>hl _ (g7 _)
  ·rw[show a.size-1+1=a.size by lia,tV (by simp),tV (by simp)];simp
  ·rw[show a.size-1+1=a.size by lia,tV (by simp)];exact sa
  ·rw[tV (by simp)];exact sb
 refine aJ (λhz=>?_) (λY1=>?_)
 ·exact aH (h _ (gallopOf st) (M0.fin (.inl (by simpa using hz))))
 refine aJ (λhz=>?_) (λxr=>?_)
 ·exact aH (h _ (gallopOf st) (M0.fst (by simpa using hz) nb h0))
 have XH:a.size-1≠0:=by simpa using Y1
 have Qo:b.size≠1:=by simpa using xr
 clear Y1 xr
 refine aO (iw ?_)
 refine aO (dQ (eL (a:=0) (I:=λn c bu=>(∃g,bu=dk st g)/\∃o x y mg,c=(none,x,y,o,mg)/\0<x/\x<=a.size/\1<y/\y<=b.size/\Ca r a b o x y/\x+y+n+1<=a.size+b.size)
  (Q:=λc bu=>(∃g,bu=dk st g)/\∃R,c.1=some R/\Good r a b R) ?step ?fin ⟨⟨gallopOf st,rfl⟩,_,a.size-1,b.size,gallopOf st,rfl,by lia,by lia,by lia,by lia,M0,by lia⟩) ?post)
 case post=>
  intro QF bu gB
  refine hide λgG hG=>?_
  obtain⟨c1,c⟩:=QF
  obtain⟨⟨g,rfl⟩,R,rfl,hR⟩:=gB
  refine hG ?_
  exact aH (h R g hR)
 case fin=>
  intro c bu gB
  refine hide λgG hG=>?_
  obtain⟨_,o,x,y,mg,rfl,hx,J0,hy,Vw,M,hn⟩:=gB
  refine hG ?_
  lia
 case step=>
  clear XH Qo M0 h hna
  intro n c bu _ hn wJ
  refine hide λgG hG=>?_
  obtain⟨⟨g,rfl⟩,o,x,y,mg,rfl,hx,J0,hy,Vw,M,X8⟩:=wJ
  refine hG ?_
  try dsimp only
  refine aO (dQ (eL (a:=0) (I:=λn1 d bu=>(∃g,bu=dk st g)/\∃o' x' y' p q,d=(none,x',y',o',p,q)/\0<x'/\x'<=a.size/\1<y'/\y'<=b.size/\Ca r a b o' x' y'/\x'+y'+n1<=x+y)
   (Q:=λd bu=>(∃g,bu=dk st g)/\match d.1 with | some R=>Good r a b R | none=>0<d.2.1/\d.2.1<=a.size/\1<d.2.2.1/\d.2.2.1<=b.size/\Ca r a b d.2.2.2.1 d.2.1 d.2.2.1/\d.2.1+d.2.2.1+n+2<=a.size+b.size) ?step1 ?fin1 ⟨⟨g,rfl⟩,o,x,y,0,0,rfl,hx,J0,hy,Vw,M,by lia⟩) ?post1)
  case fin1=>
   intro d bu gB
   refine hide λgG hG=>?_
   obtain⟨hg,o',x',y',p,q,rfl,Fw,XQ,Ib,XJ,M',Bo⟩:=gB
   refine hG ?_
   exact⟨hg,Fw,XQ,Ib,XJ,M',by simp only;lia⟩
  case step1=>
   clear hx J0 hy Vw M hn
   intro n1 d bu _ u3 wJ
   refine hide λgG hG=>?_
   obtain⟨⟨g,rfl⟩,o,x,y,p,q,rfl,hx,J0,hy,Vw,M,Bo⟩:=wJ
   refine hG ?_
   try dsimp only
   refine hide λgG hG=>?_
   obtain⟨x,rfl⟩:∃x1,x=x1+1:=⟨x-1,by lia⟩
   obtain⟨y,rfl⟩:∃y1,y=y1+1:=⟨y-1,by lia⟩
   refine hG ?_
   simp only[Gj]
   refine aO (cU (by lia) ?_)
   refine aO (cU (by lia) ?_)
   refine aO (Oc C (hb _ (g7 _)) (ha _ (g7 _)) hk ?_)
   try dsimp only
   by_cases hc:r b[y]<r a[x]
   ·rw[aB (by simpa using hc)]
    refine aO (cU (by lia) ?_)
    try dsimp only
    have MB:=MH.yk M (by lia) λi hi h2=>by
     have:=gJ sb (show i<=y by lia) (by lia)
     lia
    refine aJ (λhz=>?_) (λhz=>?_)
    ·exact aH ⟨⟨_,rfl⟩,MB.fin (.inl (by simpa using hz))⟩
    have Ma:x≠0:=by simpa using hz
    refine aJ (λhz=>?_) (λhz=>?_)
    ·exact aH ⟨⟨_,rfl⟩,(by simp only;lia),(by simp only;lia),hy,Vw,MB,by simp only;lia⟩
    ·exact aH ⟨⟨_,rfl⟩,_,_,_,_,_,rfl,by lia,by lia,hy,Vw,MB,by lia⟩
   ·rw[aA (by simpa using hc)]
    refine aO (cU (by lia) ?_)
    try dsimp only
    have MB:=MH.yj M (by lia) λi hi h2=>by
     have:=gJ sa (show i<=x by lia) (by lia)
     lia
    refine aJ (λhz=>?_) (λhz=>?_)
    ·exact aH ⟨⟨_,rfl⟩,MB.fst (by simpa using hz) nb h0⟩
    have Ma:y≠1:=by simpa using hz
    refine aJ (λhz=>?_) (λhz=>?_)
    ·exact aH ⟨⟨_,rfl⟩,hx,J0,(by simp only;lia),(by simp only;lia),MB,by simp only;lia⟩
    ·exact aH ⟨⟨_,rfl⟩,_,_,_,_,_,rfl,hx,J0,by lia,by lia,MB,by lia⟩
  case post1=>
   intro QF bu gB
   refine hide λgG hG=>?_
   obtain⟨d1,x1,y1,o1,p1,q1⟩:=QF
   obtain⟨⟨g,rfl⟩,hd⟩:=gB
   refine hG ?_
   dsimp only at hd ⊢
   cases d1 with
   | some R=>exact aH ⟨⟨_,rfl⟩,R,rfl,hd⟩
   | none=>
    refine hide λgG hG=>?_
    obtain⟨JZ,aAF,Qp,aAE,M1,u3⟩:=hd
    refine hG ?_
    clear hx J0 hy Vw M X8 hn
    try dsimp only
    refine aO (mn (iy ⟨rfl,?_⟩))
    refine aO (dQ (eL (I:=λ_ e bu=>(∃g,bu=dk st g)/\∃o' x' y' m' p q,e=(none,x',y',o',m',p,q)/\0<x'/\x'<=a.size/\1<y'/\y'<=b.size/\Ca r a b o' x' y'/\x'+y'+n+2<=a.size+b.size)
     (Q:=λe bu=>(∃g,bu=dk st g)/\match e.1 with | some R=>Good r a b R | none=>0<e.2.1/\e.2.1<=a.size/\1<e.2.2.1/\e.2.2.1<=b.size/\Ca r a b e.2.2.2.1 e.2.1 e.2.2.1/\e.2.1+e.2.2.1+n+2<=a.size+b.size) ?step2 ?fin2 ⟨⟨_,rfl⟩,_,_,_,_,_,_,rfl,JZ,aAF,Qp,aAE,M1,u3⟩) ?post2)
    case fin2=>
     intro e bu gB
     refine hide λgG hG=>?_
     obtain⟨hg,o',x',y',m',p,q,rfl,Fw,XQ,Ib,XJ,M',Bo⟩:=gB
     refine hG ?_
     exact⟨hg,Fw,XQ,Ib,XJ,M',Bo⟩
    case post2=>
     intro QF bu gB
     refine hide λgG hG=>?_
     obtain⟨e1,x2,y2,o2,m2,p2,q2⟩:=QF
     obtain⟨⟨g,rfl⟩,he⟩:=gB
     refine hG ?_
     dsimp only at he ⊢
     cases e1 with
     | some R=>exact aH ⟨⟨_,rfl⟩,R,rfl,he⟩
     | none=>
      refine hide λgG hG=>?_
      obtain⟨Uh,aDZ,Vv,aDY,M2,Ul⟩:=he
      refine hG ?_
      refine aO (gF (aH ⟨⟨_,rfl⟩,_,_,_,_,rfl,Uh,aDZ,Vv,aDY,M2,by lia⟩))
    case step2=>
     clear JZ aAF Qp aAE M1 u3
     intro n2 e bu _ Ul wJ
     refine hide λgG hG=>?_
     obtain⟨⟨g,rfl⟩,o,x,y,m',p,q,rfl,hx,J0,hy,Vw,M,Bo⟩:=wJ
     refine hG ?_
     try dsimp only
     refine' share (P:=_) (λH=>aJ (λhm=>?A) (λhm=>?B)) ?_
     case A=>generalize m'-1=gg;revert gg;exact H
     case B=>clear hm;generalize m'=gg;revert gg;exact H
     intro gg
     obtain⟨y,rfl⟩:∃y1,y=y1+1:=⟨y-1,by lia⟩
     simp only[Gj]
     refine aO (gF ?_)
     refine aO (cU (by lia) ?_)
     refine aO (yf C (by lia) (by lia) ha (hb _ (g7 _)) hk (λi j h1 h2 _=>gJ sa (by lia) h2) λe l1 l2 l3=>?_)
     try dsimp only
     have Qi:∀i,i<e->∀(h2:i<a.size),r a[i]<=r (b[y]'(by lia)):=λi hi h2=>by simpa [isA]using l2 i hi (by lia)
     have Vr:∀i,e<=i->i<x->∀(h2:i<a.size),r (b[y]'(by lia))<r a[i]:=λi hi M9 h2=>by have:=l3 i hi M9 (by lia);simpa [isA]using this
     clear l2 l3
     generalize aEf:x-e=cnt
     refine' Ab (R:=λo' x'=>x'=e/\0<x'/\Ca r a b o' x' (y+1)) (P:=_) (λH=>aJ (λhz=>?A) (λhz=>?B)) ?_
     case A=>
      have MA:=MH.P6 (e:=e) M l1 λi hi M9 h2 j hj Um=>by
       have e1:=Vr i hi M9 h2
       have e2:=gJ sb (show j<=y by lia) (by lia)
       lia
      refine aJ (λhz=>?_) (λhz=>?_)
      ·exact aH ⟨⟨_,rfl⟩,MA.fin (.inl (by simpa using hz))⟩
      have hz0:e≠0:=by simpa using hz
      have e1:0<e:=by lia
      obtain⟨x',Fw⟩:∃x',x'=e:=⟨_,rfl⟩
      rw[<-Fw]at MA e1 ⊢
      generalize o++(a.extract x' x).reverse=o' at MA ⊢
      exact H o' x' ⟨Fw,e1,MA⟩
     case B=>exact H o x ⟨by lia,hx,M⟩
     rintro o x' ⟨Fw,JZ,MA⟩
     obtain⟨x',rfl⟩:∃x1,x'=x1+1:=⟨x'-1,by lia⟩
     simp only[Gj]
     have MB:=MH.yj (y:=y) MA (by lia) λi hi h2=>Qi i (by lia) h2
     clear Qi Vr MA M
     refine aO (cU (by lia) ?_)
     try dsimp only
     refine aJ (λhz=>?_) (λhz=>?_)
     ·exact aH ⟨⟨_,rfl⟩,MB.fst (by simpa using hz) nb h0⟩
     have xr:y≠1:=by simpa using hz
     have Vv:1<y:=by lia
     have hxa:x'+1<=a.size:=by lia
     have hnn:x'+1+(y+1)+n+2<=a.size+b.size:=by lia
     clear xr hz aEf Fw Bo J0 hx l1
     refine aO (cU (by lia) ?_)
     refine aO (yf C (by lia) (by lia) hb (ha _ (g7 _)) hk (λi j h1 h2 _=>gJ sb (by lia) h2) λf l1 m2 m3=>?_)
     try dsimp only
     have m2':∀i,i<f->∀(h2:i<b.size),r b[i]<r (a[x']'(by lia)):=λi hi h2=>by simpa [isA]using m2 i hi (by lia)
     have m3':∀i,f<=i->i<y->∀(h2:i<b.size),r (a[x']'(by lia))<=r b[i]:=λi hi M9 h2=>by have:=m3 i hi M9 (by lia);simpa [isA]using this
     clear m2 m3
     generalize aFM:y-f=aF0
     refine' Ab (R:=λo' y'=>y'=f/\1<y'/\Ca r a b o' (x'+1) y') (P:=_) (λH=>aJ (λhz=>?A) (λhz=>?B)) ?_
     case A=>
      have MC:=MH.P0 (e:=f) MB (by lia) λi hi M9 h2 j hj Um=>by
       have e1:=m3' i hi M9 h2
       have e2:=gJ sa (show j<=x' by lia) (by lia)
       lia
      refine aJ (λhz=>?_) (λhz=>?_)
      ·exact aH ⟨⟨_,rfl⟩,MC.fst (by simpa using hz) nb h0⟩
      have hz4:f≠1:=by simpa using hz
      refine aJ (λhz=>?_) (λhz=>?_)
      ·exact aH ⟨⟨_,rfl⟩,MC.fin (.inr (by simpa using hz))⟩
      have hz5:f≠0:=by simpa using hz
      have e1:1<f:=by lia
      obtain⟨y',Ib⟩:∃y',y'=f:=⟨_,rfl⟩
      rw[<-Ib]at MC e1 ⊢
      generalize _++(b.extract y' y).reverse=o' at MC ⊢
      exact H o' y' ⟨Ib,e1,MC⟩
     case B=>exact H _ y ⟨by lia,Vv,MB⟩
     rintro o' y' ⟨Ib,Qp,MC⟩
     have MZ:=MH.yk (x:=x') MC (by lia) λi hi h2=>(by have:=m2' i (by lia) h2;lia)
     clear m2' m3' MB MC
     refine aO (cU (by lia) ?_)
     try dsimp only
     refine aJ (λhz=>?_) (λhz=>?_)
     ·exact aH ⟨⟨_,rfl⟩,MZ.fin (.inl (by simpa using hz))⟩
     ·have Ma:x'≠0:=by simpa using hz
      have e1:0<x':=by lia
      have e2:x'<=a.size:=by lia
      have e3:y'<=b.size:=by lia
      have e4:x'+y'+n+2<=a.size+b.size:=by lia
      refine aJ (λhz=>?_) (λhz=>?_)
      ·exact aH ⟨⟨_,rfl⟩,e1,e2,Qp,e3,MZ,e4⟩
      ·exact aH ⟨⟨_,rfl⟩,_,_,_,_,_,_,rfl,e1,e2,Qp,e3,MZ,e4⟩
end
section
variable {prog:Program}{w:World}{A:Around}{E:Value->Shared->Prop}{s:Shared}{κ:SortKind}{r:Keyed->Int}{a₀:Array Keyed}
def Rk(r:Keyed->Int)(xs:Array Keyed)(i:Nat):Int:=match xs[i]? with
 | some p=>r p
 | none=>0
theorem Rk.eq{xs:Array Keyed}{i:Nat}(h:i<xs.size):Rk r xs i=r xs[i]:=by unfold Rk;rw[g9 h]
theorem Rk.congr{xs ys:Array Keyed}{i j:Nat}(h:xs[i]?=ys[j]?):Rk r xs i=Rk r ys j:=by unfold Rk;rw[h]
def Sg(r:Keyed->Int)(xs:Array Keyed)(lo hi:Nat):Prop:=∀i j,lo<=i->i<=j->j<hi->Rk r xs i<=Rk r xs j
def Dg(r:Keyed->Int)(xs:Array Keyed)(lo hi:Nat):Prop:=∀i j,lo<=i->i<=j->j<hi->Rk r xs j<=Rk r xs i
structure SB(a₀:Array Keyed)(κ:SortKind)(st:SortSt):Prop where
 perm:(arrOf st).Perm a₀
 kind:kindOf st=κ
 ok:failedOf st=none
theorem SB.size{st:SortSt}(h:SB a₀ κ st):(arrOf st).size=a₀.size:=h.perm.size_eq
theorem SB.put{st:SortSt}(h:SB a₀ κ st){xs:Array Keyed}(hp:xs.Perm (arrOf st)):SB a₀ κ (setArr st xs):=⟨hp.trans h.perm,h.kind,h.ok⟩
theorem SB.mem{st:SortSt}(h:SB a₀ κ st){z:Keyed}(hz:z∈arrOf st):z∈a₀:=h.perm.mem_iff.mp hz
abbrev M7(prog:Program)(w:World)(A:Around)(s:Shared)(κ:SortKind)(r:Keyed->Int)(a₀:Array Keyed):Prop:=Zv prog w A s κ r (·∈a₀)
theorem jh(C:M7 prog w A s κ r a₀){st:SortSt}{i j:Nat}{Q:Option Bool->SortSt->Prop}(B:SB a₀ κ st)(hi:i<a₀.size)(hj:j<a₀.size)(h:Q (some (decide (Rk r (arrOf st) i<Rk r (arrOf st) j))) st):wpS (model prog w) A E s (ltAt' i j) Q st:=by
 have u5:i<(arrOf st).size:=by rw[B.size];exact hi
 have uL:j<(arrOf st).size:=by rw[B.size];exact hj
 rw[Rk.eq u5,Rk.eq uL]at h
 rw[ltAt'_eq]
 refine aO (iw ?_)
 refine aO (cU u5 (aO (cU uL (Oc C (B.mem (g7 _)) (B.mem (g7 _)) B.kind h))))
theorem qJ{st:SortSt}{i j:Nat}{Q:Unit->SortSt->Prop}(h:Q () (setArr st (mirror (arrOf st) i j ((j-i) / 2)))):wpS (model prog w) A E s (reverseSlice' i j) Q st:=by
 rw[reverseSlice'_eq];exact gF h
theorem fk{xs:Array Keyed}{i j:Nat}(hj:j<=xs.size)(k:Nat):Rk r (mirror xs i j ((j-i) / 2)) k=if i<=k/\k<j then Rk r xs (i+j-1-k) else Rk r xs k:=by
 have e:=getElem?_mirror_all (i:=i) hj k
 by_cases h1:i<=k/\k<j
 ·rw[aB h1]at e ⊢;exact Rk.congr e
 ·rw[aA h1]at e ⊢;exact Rk.congr e
theorem cC{xs:Array Keyed}{i j:Nat}(hj:j<=xs.size)(heq:∀k,i<=k->k<j->Rk r xs k=Rk r xs (j-1))(k:Nat):Rk r (mirror xs i j ((j-i) / 2)) k=Rk r xs k:=by
 rw[fk hj]
 split
 ·rw[heq _ (by lia) (by lia),heq k (by lia) (by lia)]
 ·rfl
def Pre(lo:Nat)(xs ys:Array Keyed):Prop:=∀k,k<lo->ys[k]?=xs[k]?
theorem Pre.refl{lo:Nat}{xs:Array Keyed}:Pre lo xs xs:=λ_ _=>rfl
theorem Pre.trans{lo:Nat}{xs ys zs:Array Keyed}(h:Pre lo xs ys)(g:Pre lo ys zs):Pre lo xs zs:=λk hk=>(g k hk).trans (h k hk)
theorem Pre.T5{lo i j:Nat}{xs:Array Keyed}(hi:lo<=i)(hj:j<=xs.size):Pre lo xs (mirror xs i j ((j-i) / 2)):=λk hk=>by
 rw[getElem?_mirror_all hj,aA (by lia)]
theorem Pre.bub{lo src d:Nat}{xs:Array Keyed}(hs:src<xs.size)(hd:lo+d<=src):Pre lo xs (bubble xs src d):=λk hk=>by
 rw[getElem?_bubble hs d (by lia),aA (by lia),aA (by lia)]
theorem yi{xs:Array Keyed}{src d:Nat}(hs:src<xs.size)(hd:d<=src)(k:Nat):Rk r (bubble xs src d) k=if k=src-d then Rk r xs src else if src-d<k/\k<=src then Rk r xs (k-1) else Rk r xs k:=by
 have e:=getElem?_bubble hs d hd k
 by_cases h1:k=src-d
 ·rw[aB h1]at e ⊢;exact Rk.congr e
 ·rw[aA h1]at e ⊢
  by_cases h2:src-d<k/\k<=src
  ·rw[aB h2]at e ⊢;exact Rk.congr e
  ·rw[aA h2]at e ⊢;exact Rk.congr e
theorem Z2(C:M7 prog w A s κ r a₀){st:SortSt}{lo n ok:Nat}{Q:Bool->SortSt->Prop}(hn:lo+n<=a₀.size)(bM:ok<=n)(B:SB a₀ κ st)(hs:Sg r (arrOf st) lo (lo+ok))
  (h:∀bu,SB a₀ κ bu->pendingOf bu=pendingOf st->Pre lo (arrOf st) (arrOf bu)->Sg r (arrOf bu) lo (lo+n)->Q true bu):wpS (model prog w) A E s (binarySort' lo n ok) Q st:=by
 rw[binarySort'_eq]
 refine aO (dQ (eL (I:=λk c bu=>c=(none,())/\SB a₀ κ bu/\pendingOf bu=pendingOf st/\Pre lo (arrOf st) (arrOf bu)/\Sg r (arrOf bu) lo (lo+min k n))
  (Q:=λc bu=>c=(none,())/\SB a₀ κ bu/\pendingOf bu=pendingOf st/\Pre lo (arrOf st) (arrOf bu)/\Sg r (arrOf bu) lo (lo+n)) ?step ?fin ?init) ?post)
 case post=>
  rintro c bu ⟨rfl,B',p',e',s'⟩
  exact aH (h bu B' p' e' s')
 case init=>
  refine⟨rfl,B,rfl,.refl,λi j h1 h2 h3=>?_⟩
  by_cases z:ok=0
  ·have:i=j:=by lia
   subst this;exact gC _
  ·exact hs i j h1 h2 (by lia)
 case fin=>
  rintro c bu ⟨hc,B',p',e',s'⟩
  refine⟨hc,B',p',e',?_⟩
  rwa [show min (max (max ok 1) n) n=n by lia]at s'
 case step=>
  rintro k c bu hak hkn ⟨rfl,B',p',e',s'⟩
  rw[show min k n=k by lia]at s'
  have hsz:(arrOf bu).size=a₀.size:=B'.size
  refine aO (dQ (eL (a:=0) (I:=λx c aI=>aI=bu/\∃l q,c=(none,l,q)/\l<=q/\q<=k/\q-l<=k-x/\(∀i,lo<=i->i<lo+l->Rk r (arrOf bu) i<=Rk r (arrOf bu) (lo+k))/\(∀i,lo+q<=i->i<lo+k->Rk r (arrOf bu) (lo+k)<Rk r (arrOf bu) i))
   (Q:=λc aI=>aI=bu/\∃l q,c=(none,l,q)/\l<=k/\(∀i,lo<=i->i<lo+l->Rk r (arrOf bu) i<=Rk r (arrOf bu) (lo+k))/\(∀i,lo+l<=i->i<lo+k->Rk r (arrOf bu) (lo+k)<Rk r (arrOf bu) i)) ?istep ?ifin ⟨rfl,0,k,rfl,by lia,by lia,by lia,λi _ _=>by lia,λi _ _=>by lia⟩) ?ipost)
  case ifin=>
   rintro c aI ⟨rfl,l,q,rfl,a1,a2,a3,a4,a5⟩
   have:l=q:=by lia
   subst this
   exact⟨rfl,l,l,rfl,a2,a4,a5⟩
  case istep=>
   rintro x c aI _ hx ⟨rfl,l,q,rfl,a1,a2,a3,a4,a5⟩
   try dsimp only
   refine aJ (λhz=>?_) (λhz=>?_)
   ·have:l=q:=by lia
    subst this
    exact aH ⟨rfl,l,l,rfl,a2,a4,a5⟩
   ·refine aO (jh C B' (by lia) (by lia) ?_)
    try dsimp only
    refine aJ (λhc=>?_) (λhc=>?_)
    ·have o6:=of_decide_eq_true hc
     refine aH ⟨rfl,l,(l+q) / 2,rfl,by lia,by lia,by lia,a4,λi h1 h2=>?_⟩
     have:=s' (lo+(l+q) / 2) i (by lia) h1 (by lia)
     lia
    ·have o6:¬(Rk r (arrOf aI) (lo+k)<Rk r (arrOf aI) (lo+(l+q) / 2)):=λz=>hc (decide_eq_true z)
     refine aH ⟨rfl,(l+q) / 2+1,q,rfl,by lia,by lia,by lia,λi h1 h2=>?_,a5⟩
     have:=s' i (lo+(l+q) / 2) h1 (by lia) (by lia)
     lia
  case ipost=>
   rintro c aI ⟨rfl,l,q,rfl,hlk,a4,a5⟩
   show wpS _ _ _ _ (do moveDown' (lo+k) (lo+l);pure (ForInStep.yield (none,()))) _ _
   rw[moveDown'_eq]
   have hks:lo+k<(arrOf aI).size:=by lia
   have ed:lo+k-(lo+l)=k-l:=by lia
   refine aO (gF (aH ⟨rfl,B'.put (bubble_perm _ _ _),p',e'.trans (Pre.bub hks (by lia)),?_⟩))
   rw[show min (k+1) n=k+1 by lia]
   intro i j h1 h2 h3
   show Rk r (bubble (arrOf aI) (lo+k) (lo+k-(lo+l))) i<=Rk r (bubble (arrOf aI) (lo+k) (lo+k-(lo+l))) j
   rw[yi hks (by lia),yi hks (by lia),ed,show lo+k-(k-l)=lo+l by lia]
   repeat' split
   all_goals first
    | (exfalso;lia)
    | exact gC _
    | exact a4 _ (by lia) (by lia)
    | exact Int.le_of_lt (a5 _ (by lia) (by lia))
    | exact s' _ _ (by lia) (by lia) (by lia)
theorem Sn(C:M7 prog w A s κ r a₀){st:SortSt}{lo dW:Nat}{Q:Option Nat->SortSt->Prop}(hn:lo+dW<=a₀.size)(hr1:1<=dW)(B:SB a₀ κ st)
  (h:∀m bu,SB a₀ κ bu->pendingOf bu=pendingOf st->Pre lo (arrOf st) (arrOf bu)->1<=m->m<=dW->Sg r (arrOf bu) lo (lo+m)->Q (some m) bu):wpS (model prog w) A E s (countRun' lo dW) Q st:=by
 rw[countRun'_eq]
 try dsimp only
 have s0:Sg r (arrOf st) lo (lo+1):=λi j h1 h2 h3=>by
  have:i=j:=by lia
  subst this;exact gC _
 refine aO (dQ (eL (a:=1) (I:=λx c aI=>aI=st/\c=(none,x)/\Sg r (arrOf st) lo (lo+x))
  (Q:=λc aI=>aI=st/\∃n,c=(none,n)/\1<=n/\n<=dW/\Sg r (arrOf st) lo (lo+n)/\(n=dW\/Rk r (arrOf st) (lo+n)<Rk r (arrOf st) (lo+n-1))) ?stepz ?finz ⟨rfl,rfl,s0⟩) ?postz)
 case finz=>
  rintro c aI ⟨rfl,rfl,s'⟩
  rw[show max (1) dW=dW by lia]at s' ⊢
  exact⟨rfl,dW,rfl,by lia,aU _,s',.inl rfl⟩
 case stepz=>
  rintro x c aI Mg Y2 ⟨e0,rfl,s'⟩
  replace e0:=e0.symm;subst e0
  try dsimp only
  refine aO (jh C B (by lia) (by lia) ?_)
  try dsimp only
  refine aJ (λhc=>?_) (λhc=>?_)
  ·exact aH ⟨rfl,x,rfl,Mg,by lia,s',.inr (of_decide_eq_true hc)⟩
  ·have o6:=λz=>hc (decide_eq_true z)
   refine aH ⟨rfl,rfl,λi j h1 h2 h3=>?_⟩
   by_cases hj:j<lo+x
   ·exact s' i j h1 h2 hj
   ·have uL:j=lo+x:=by lia
    subst uL
    by_cases hi:i=lo+x
    ·subst hi;exact gC _
    ·have:=s' i (lo+x-1) h1 (by lia) (by lia)
     exact vq this (vm.mp o6)
 case postz=>
  intro c aI gB
  refine hide λgG hG=>?_
  obtain⟨e0,n,rfl,hn0,u3,s',hor⟩:=gB
  refine hG ?_
  replace e0:=e0.symm;subst e0
  try dsimp only
  refine aJ (λhz=>?_) (λhz=>?_)
  ·have Ma:n=dW:=by simpa using hz
   exact aH (h n _ B rfl .refl (by lia) u3 s')
  have Ma:n≠dW:=by simpa using hz
  have iQ:=hor.resolve_left Ma
  have hsz:(arrOf st).size=a₀.size:=B.size
  refine aJ (λxr=>?_) (λxr=>?_)
  ·refine aO (jh C B (by lia) (by lia) ?_)
   try dsimp only
   refine aJ (λhc=>?_) (λhc=>?_)
   ·exact aH (h n _ B rfl .refl (by lia) u3 s')
   ·have o6:¬(Rk r (arrOf st) lo<Rk r (arrOf st) (lo+n-1)):=λz=>hc (decide_eq_true z)
    have lY:∀k,lo<=k->k<lo+n->Rk r (arrOf st) k=Rk r (arrOf st) (lo+n-1):=λk h1 h2=>by
     have a1:=s' lo k (by lia) h1 h2
     have a2:=s' k (lo+n-1) h1 (by lia) (by lia)
     lia
    refine aO (qJ ?_)
    have B1:=B.put (jO _ lo (lo+n) ((lo+n-lo) / 2))
    have e1:Pre lo (arrOf st) (mirror (arrOf st) lo (lo+n) ((lo+n-lo) / 2)):=Pre.T5 (aU lo) (by lia)
    have d1:Dg r (arrOf (setArr st (mirror (arrOf st) lo (lo+n) ((lo+n-lo) / 2)))) lo (lo+(n+1)):=λi j h1 h2 h3=>by
     show Rk r (mirror (arrOf st) _ _ _) j<=Rk r (mirror (arrOf st) _ _ _) i
     rw[cC (by lia) lY,cC (by lia) lY]
     by_cases hj:j<lo+n
     ·rw[lY i h1 (by lia),lY j (by lia) hj];exact gC _
     ·have uL:j=lo+n:=by lia
      subst uL
      by_cases hi:i=lo+n
      ·subst hi;exact gC _
      ·rw[lY i h1 (by lia)];exact Int.le_of_lt iQ
    have Mp:Pre lo (arrOf st) (arrOf (setArr st (mirror (arrOf st) lo (lo+n) ((lo+n-lo) / 2)))):=e1
    have p1:pendingOf (setArr st (mirror (arrOf st) lo (lo+n) ((lo+n-lo) / 2)))=pendingOf st:=rfl
    clear e1
    generalize setArr st (mirror (arrOf st) lo (lo+n) ((lo+n-lo) / 2))=S1 at B1 d1 Mp p1 ⊢
    refine aO (mn (iy ⟨rfl,?_⟩))
    refine aO (dQ (eL (a:=n+1) (I:=λx c aI=>∃q,c=(none,x,q)/\SB a₀ κ aI/\pendingOf aI=pendingOf st/\Pre lo (arrOf st) (arrOf aI)/\Dg r (arrOf aI) lo (lo+x)/\q+1<=x/\(∀i,lo+x-(q+1)<=i->i<lo+x->Rk r (arrOf aI) i=Rk r (arrOf aI) (lo+x-1)))
     (Q:=λc aI=>∃x q,c=(none,x,q)/\n+1<=x/\x<=dW/\SB a₀ κ aI/\pendingOf aI=pendingOf st/\Pre lo (arrOf st) (arrOf aI)/\Dg r (arrOf aI) lo (lo+x)/\q+1<=x/\(∀i,lo+x-(q+1)<=i->i<lo+x->Rk r (arrOf aI) i=Rk r (arrOf aI) (lo+x-1))) ?dstepx ?dfinx ⟨0,rfl,B1,p1,Mp,d1,by lia,λi h1 h2=>by congr 1;lia⟩) ?dpostx)
    case dfinx=>
     intro c aI gB
     refine hide λgG hG=>?_
     obtain⟨q,rfl,b1,b2,b3,b4,b5,b6⟩:=gB
     refine hG ?_
     rw[show max (n+1) dW=dW by lia]at b4 b5 b6 ⊢
     exact⟨dW,q,rfl,by lia,aU _,b1,b2,b3,b4,b5,b6⟩
    case dstepx=>
     intro x c aI Mg Y2 wJ
     refine hide λgG hG=>?_
     obtain⟨q,rfl,b1,b2,b3,b4,b5,b6⟩:=wJ
     refine hG ?_
     have hsz:(arrOf aI).size=a₀.size:=b1.size
     try dsimp only
     refine aO (jh C b1 (by lia) (by lia) ?_)
     try dsimp only
     refine aJ (λhc=>?_) (λhc=>?_)
     ·have o6:=of_decide_eq_true hc
      have Vj:∀xs:Array Keyed,(∀k,Rk r xs k=Rk r (arrOf aI) k)->Dg r xs lo (lo+(x+1)):=λxs hk i j h1 h2 h3=>by
       rw[hk,hk]
       by_cases hj:j<lo+x
       ·exact b4 i j h1 h2 hj
       ·have uL:j=lo+x:=by lia
        subst uL
        by_cases hi:i=lo+x
        ·subst hi;exact gC _
        ·have:=b4 i (lo+x-1) h1 (by lia) (by lia)
         lia
      refine aJ (λhq=>?_) (λhq=>?_)
      ·refine aO (qJ (aH ⟨0,rfl,b1.put (jO _ _ _ _),b2,b3.trans (Pre.T5 (by lia) (by lia)),Vj _ (cC (by lia) b6),by lia,λi h1 h2=>by congr 1;lia⟩))
      ·exact aH ⟨0,rfl,b1,b2,b3,Vj _ (λ_=>rfl),by lia,λi h1 h2=>by congr 1;lia⟩
     ·have o6:¬(Rk r (arrOf aI) (lo+x)<Rk r (arrOf aI) (lo+x-1)):=λz=>hc (decide_eq_true z)
      refine aO (jh C b1 (by lia) (by lia) ?_)
      try dsimp only
      refine aJ (λhd=>?_) (λhd=>?_)
      ·exact aH ⟨x,q,rfl,Mg,by lia,b1,b2,b3,b4,b5,b6⟩
      ·have Ze:¬(Rk r (arrOf aI) (lo+x-1)<Rk r (arrOf aI) (lo+x)):=λz=>hd (decide_eq_true z)
       have heq:Rk r (arrOf aI) (lo+x)=Rk r (arrOf aI) (lo+x-1):=by lia
       refine aH ⟨q+1,rfl,b1,b2,b3,λi j h1 h2 h3=>?_,by lia,λi h1 h2=>?_⟩
       ·by_cases hj:j<lo+x
        ·exact b4 i j h1 h2 hj
        ·have uL:j=lo+x:=by lia
         subst uL
         by_cases hi:i=lo+x
         ·subst hi;exact gC _
         ·rw[heq];exact b4 i (lo+x-1) h1 (by lia) (by lia)
       ·rw[show lo+(x+1)-1=lo+x by lia]
        by_cases hi:i=lo+x
        ·subst hi;rfl
        ·rw[heq];exact b6 i (by lia) (by lia)
    case dpostx=>
     intro c S3 gB
     refine hide λgG hG=>?_
     obtain⟨m,q,rfl,hm1,Y8,b1,b2,b3,b4,b5,b6⟩:=gB
     refine hG ?_
     try dsimp only
     refine aJ (λhq=>?_) (λhq=>?_)
     ·refine aO (qJ ?_)
      have hsz:(arrOf S3).size=a₀.size:=b1.size
      have B4:=b1.put (jO _ (lo+m-(q+1)) (lo+m) ((lo+m-(lo+m-(q+1))) / 2))
      have e4:Pre lo (arrOf st) (arrOf (setArr S3 (mirror (arrOf S3) (lo+m-(q+1)) (lo+m) ((lo+m-(lo+m-(q+1))) / 2)))):=b3.trans (Pre.T5 (show lo<=lo+m-(q+1) by lia) (show lo+m<=(arrOf S3).size by lia))
      have d4:Dg r (arrOf (setArr S3 (mirror (arrOf S3) (lo+m-(q+1)) (lo+m) ((lo+m-(lo+m-(q+1))) / 2)))) lo (lo+m):=λi j h1 h2 h3=>by
       show Rk r (mirror (arrOf S3) _ _ _) j<=Rk r (mirror (arrOf S3) _ _ _) i
       rw[cC (by lia) b6,cC (by lia) b6]
       exact b4 i j h1 h2 h3
      have p4:pendingOf (setArr S3 (mirror (arrOf S3) (lo+m-(q+1)) (lo+m) ((lo+m-(lo+m-(q+1))) / 2)))=pendingOf st:=b2
      generalize setArr S3 (mirror (arrOf S3) (lo+m-(q+1)) (lo+m) ((lo+m-(lo+m-(q+1))) / 2))=S4 at B4 e4 d4 p4 ⊢
      refine aO (qJ ?_)
      have Ic:=B4.size
      have B2:=B4.put (jO _ lo (lo+m) ((lo+m-lo) / 2))
      have e2:Pre lo (arrOf st) (arrOf (setArr S4 (mirror (arrOf S4) lo (lo+m) ((lo+m-lo) / 2)))):=e4.trans (Pre.T5 (aU lo) (show lo+m<=_ by rw[Ic];lia))
      have s2:Sg r (mirror (arrOf S4) lo (lo+m) ((lo+m-lo) / 2)) lo (lo+m):=λi j h1 h2 h3=>by
       rw[fk (by rw[Ic];lia),fk (by rw[Ic];lia),aB (by lia),aB (by lia)]
       exact d4 _ _ (by lia) (by lia) (by lia)
      have p2:pendingOf (setArr S4 (mirror (arrOf S4) lo (lo+m) ((lo+m-lo) / 2)))=pendingOf st:=p4
      have Oe:Sg r (arrOf (setArr S4 (mirror (arrOf S4) lo (lo+m) ((lo+m-lo) / 2)))) lo (lo+m):=s2
      clear s2
      generalize setArr S4 (mirror (arrOf S4) lo (lo+m) ((lo+m-lo) / 2))=S2 at B2 p2 Oe e2 ⊢
      have s2:=Oe
      refine aO (dQ (eL (a:=m) (I:=λx c aI=>aI=S2/\c=(none,x)/\Sg r (arrOf S2) lo (lo+x))
       (Q:=λc aI=>aI=S2/\∃n,c=(none,n)/\m<=n/\n<=dW/\Sg r (arrOf S2) lo (lo+n)/\(n=dW\/Rk r (arrOf S2) (lo+n)<Rk r (arrOf S2) (lo+n-1))) ?stepxa ?finxa ⟨rfl,rfl,s2⟩) ?postxa)
      case finxa=>
       rintro c aI ⟨rfl,rfl,s'⟩
       rw[show max (m) dW=dW by lia]at s' ⊢
       exact⟨rfl,dW,rfl,by lia,aU _,s',.inl rfl⟩
      case stepxa=>
       rintro x c aI Mg Y2 ⟨e0,rfl,s'⟩
       replace e0:=e0.symm;subst e0
       try dsimp only
       refine aO (jh C B2 (by lia) (by lia) ?_)
       try dsimp only
       refine aJ (λhc=>?_) (λhc=>?_)
       ·exact aH ⟨rfl,x,rfl,Mg,by lia,s',.inr (of_decide_eq_true hc)⟩
       ·have o6:=λz=>hc (decide_eq_true z)
        refine aH ⟨rfl,rfl,λi j h1 h2 h3=>?_⟩
        by_cases hj:j<lo+x
        ·exact s' i j h1 h2 hj
        ·have uL:j=lo+x:=by lia
         subst uL
         by_cases hi:i=lo+x
         ·subst hi;exact gC _
         ·have:=s' i (lo+x-1) h1 (by lia) (by lia)
          exact vq this (vm.mp o6)
      case postxa=>
       intro c aI gB
       refine hide λgG hG=>?_
       obtain⟨e0,n,rfl,hn0,u3,s',hor⟩:=gB
       refine hG ?_
       replace e0:=e0.symm;subst e0
       try dsimp only
       exact aH (h n _ B2 p2 e2 (by lia) u3 s')
     ·refine aO (qJ ?_)
      have Ic:=b1.size
      have B2:=b1.put (jO _ lo (lo+m) ((lo+m-lo) / 2))
      have e2:Pre lo (arrOf st) (arrOf (setArr S3 (mirror (arrOf S3) lo (lo+m) ((lo+m-lo) / 2)))):=b3.trans (Pre.T5 (aU lo) (show lo+m<=_ by rw[Ic];lia))
      have s2:Sg r (mirror (arrOf S3) lo (lo+m) ((lo+m-lo) / 2)) lo (lo+m):=λi j h1 h2 h3=>by
       rw[fk (by rw[Ic];lia),fk (by rw[Ic];lia),aB (by lia),aB (by lia)]
       exact b4 _ _ (by lia) (by lia) (by lia)
      have p2:pendingOf (setArr S3 (mirror (arrOf S3) lo (lo+m) ((lo+m-lo) / 2)))=pendingOf st:=b2
      have Oe:Sg r (arrOf (setArr S3 (mirror (arrOf S3) lo (lo+m) ((lo+m-lo) / 2)))) lo (lo+m):=s2
      clear s2
      generalize setArr S3 (mirror (arrOf S3) lo (lo+m) ((lo+m-lo) / 2))=S2 at B2 p2 Oe e2 ⊢
      have s2:=Oe
      refine aO (dQ (eL (a:=m) (I:=λx c aI=>aI=S2/\c=(none,x)/\Sg r (arrOf S2) lo (lo+x))
       (Q:=λc aI=>aI=S2/\∃n,c=(none,n)/\m<=n/\n<=dW/\Sg r (arrOf S2) lo (lo+n)/\(n=dW\/Rk r (arrOf S2) (lo+n)<Rk r (arrOf S2) (lo+n-1))) ?stepxb ?finxb ⟨rfl,rfl,s2⟩) ?postxb)
      case finxb=>
       rintro c aI ⟨rfl,rfl,s'⟩
       rw[show max (m) dW=dW by lia]at s' ⊢
       exact⟨rfl,dW,rfl,by lia,aU _,s',.inl rfl⟩
      case stepxb=>
       rintro x c aI Mg Y2 ⟨e0,rfl,s'⟩
       replace e0:=e0.symm;subst e0
       try dsimp only
       refine aO (jh C B2 (by lia) (by lia) ?_)
       try dsimp only
       refine aJ (λhc=>?_) (λhc=>?_)
       ·exact aH ⟨rfl,x,rfl,Mg,by lia,s',.inr (of_decide_eq_true hc)⟩
       ·have o6:=λz=>hc (decide_eq_true z)
        refine aH ⟨rfl,rfl,λi j h1 h2 h3=>?_⟩
        by_cases hj:j<lo+x
        ·exact s' i j h1 h2 hj
        ·have uL:j=lo+x:=by lia
         subst uL
         by_cases hi:i=lo+x
         ·subst hi;exact gC _
         ·have:=s' i (lo+x-1) h1 (by lia) (by lia)
          exact vq this (vm.mp o6)
      case postxb=>
       intro c aI gB
       refine hide λgG hG=>?_
       obtain⟨e0,n,rfl,hn0,u3,s',hor⟩:=gB
       refine hG ?_
       replace e0:=e0.symm;subst e0
       try dsimp only
       exact aH (h n _ B2 p2 e2 (by lia) u3 s')
  ·have hn:n=1:=by lia
   have d1:Dg r (arrOf st) lo (lo+(n+1)):=λi j h1 h2 h3=>by
    by_cases hi:i=j
    ·subst hi;exact gC _
    ·have e1:i=lo+n-1:=by lia
     have e2:j=lo+n:=by lia
     subst e1;subst e2
     exact Int.le_of_lt iQ
   refine aO (mn (iy ⟨rfl,?_⟩))
   refine aO (dQ (eL (a:=n+1) (I:=λx c aI=>∃q,c=(none,x,q)/\SB a₀ κ aI/\pendingOf aI=pendingOf st/\Pre lo (arrOf st) (arrOf aI)/\Dg r (arrOf aI) lo (lo+x)/\q+1<=x/\(∀i,lo+x-(q+1)<=i->i<lo+x->Rk r (arrOf aI) i=Rk r (arrOf aI) (lo+x-1)))
    (Q:=λc aI=>∃x q,c=(none,x,q)/\n+1<=x/\x<=dW/\SB a₀ κ aI/\pendingOf aI=pendingOf st/\Pre lo (arrOf st) (arrOf aI)/\Dg r (arrOf aI) lo (lo+x)/\q+1<=x/\(∀i,lo+x-(q+1)<=i->i<lo+x->Rk r (arrOf aI) i=Rk r (arrOf aI) (lo+x-1))) ?dstepy ?dfiny ⟨0,rfl,B,rfl,.refl,d1,by lia,λi h1 h2=>by congr 1;lia⟩) ?dposty)
   case dfiny=>
    intro c aI gB
    refine hide λgG hG=>?_
    obtain⟨q,rfl,b1,b2,b3,b4,b5,b6⟩:=gB
    refine hG ?_
    rw[show max (n+1) dW=dW by lia]at b4 b5 b6 ⊢
    exact⟨dW,q,rfl,by lia,aU _,b1,b2,b3,b4,b5,b6⟩
   case dstepy=>
    intro x c aI Mg Y2 wJ
    refine hide λgG hG=>?_
    obtain⟨q,rfl,b1,b2,b3,b4,b5,b6⟩:=wJ
    refine hG ?_
    have hsz:(arrOf aI).size=a₀.size:=b1.size
    try dsimp only
    refine aO (jh C b1 (by lia) (by lia) ?_)
    try dsimp only
    refine aJ (λhc=>?_) (λhc=>?_)
    ·have o6:=of_decide_eq_true hc
     have Vj:∀xs:Array Keyed,(∀k,Rk r xs k=Rk r (arrOf aI) k)->Dg r xs lo (lo+(x+1)):=λxs hk i j h1 h2 h3=>by
      rw[hk,hk]
      by_cases hj:j<lo+x
      ·exact b4 i j h1 h2 hj
      ·have uL:j=lo+x:=by lia
       subst uL
       by_cases hi:i=lo+x
       ·subst hi;exact gC _
       ·have:=b4 i (lo+x-1) h1 (by lia) (by lia)
        lia
     refine aJ (λhq=>?_) (λhq=>?_)
     ·refine aO (qJ (aH ⟨0,rfl,b1.put (jO _ _ _ _),b2,b3.trans (Pre.T5 (by lia) (by lia)),Vj _ (cC (by lia) b6),by lia,λi h1 h2=>by congr 1;lia⟩))
     ·exact aH ⟨0,rfl,b1,b2,b3,Vj _ (λ_=>rfl),by lia,λi h1 h2=>by congr 1;lia⟩
    ·have o6:¬(Rk r (arrOf aI) (lo+x)<Rk r (arrOf aI) (lo+x-1)):=λz=>hc (decide_eq_true z)
     refine aO (jh C b1 (by lia) (by lia) ?_)
     try dsimp only
     refine aJ (λhd=>?_) (λhd=>?_)
     ·exact aH ⟨x,q,rfl,Mg,by lia,b1,b2,b3,b4,b5,b6⟩
     ·have Ze:¬(Rk r (arrOf aI) (lo+x-1)<Rk r (arrOf aI) (lo+x)):=λz=>hd (decide_eq_true z)
      have heq:Rk r (arrOf aI) (lo+x)=Rk r (arrOf aI) (lo+x-1):=by lia
      refine aH ⟨q+1,rfl,b1,b2,b3,λi j h1 h2 h3=>?_,by lia,λi h1 h2=>?_⟩
      ·by_cases hj:j<lo+x
       ·exact b4 i j h1 h2 hj
       ·have uL:j=lo+x:=by lia
        subst uL
        by_cases hi:i=lo+x
        ·subst hi;exact gC _
        ·rw[heq];exact b4 i (lo+x-1) h1 (by lia) (by lia)
      ·rw[show lo+(x+1)-1=lo+x by lia]
       by_cases hi:i=lo+x
       ·subst hi;rfl
       ·rw[heq];exact b6 i (by lia) (by lia)
   case dposty=>
    intro c S3 gB
    refine hide λgG hG=>?_
    obtain⟨m,q,rfl,hm1,Y8,b1,b2,b3,b4,b5,b6⟩:=gB
    refine hG ?_
    try dsimp only
    refine aJ (λhq=>?_) (λhq=>?_)
    ·refine aO (qJ ?_)
     have hsz:(arrOf S3).size=a₀.size:=b1.size
     have B4:=b1.put (jO _ (lo+m-(q+1)) (lo+m) ((lo+m-(lo+m-(q+1))) / 2))
     have e4:Pre lo (arrOf st) (arrOf (setArr S3 (mirror (arrOf S3) (lo+m-(q+1)) (lo+m) ((lo+m-(lo+m-(q+1))) / 2)))):=b3.trans (Pre.T5 (show lo<=lo+m-(q+1) by lia) (show lo+m<=(arrOf S3).size by lia))
     have d4:Dg r (arrOf (setArr S3 (mirror (arrOf S3) (lo+m-(q+1)) (lo+m) ((lo+m-(lo+m-(q+1))) / 2)))) lo (lo+m):=λi j h1 h2 h3=>by
      show Rk r (mirror (arrOf S3) _ _ _) j<=Rk r (mirror (arrOf S3) _ _ _) i
      rw[cC (by lia) b6,cC (by lia) b6]
      exact b4 i j h1 h2 h3
     have p4:pendingOf (setArr S3 (mirror (arrOf S3) (lo+m-(q+1)) (lo+m) ((lo+m-(lo+m-(q+1))) / 2)))=pendingOf st:=b2
     generalize setArr S3 (mirror (arrOf S3) (lo+m-(q+1)) (lo+m) ((lo+m-(lo+m-(q+1))) / 2))=S4 at B4 e4 d4 p4 ⊢
     refine aO (qJ ?_)
     have Ic:=B4.size
     have B2:=B4.put (jO _ lo (lo+m) ((lo+m-lo) / 2))
     have e2:Pre lo (arrOf st) (arrOf (setArr S4 (mirror (arrOf S4) lo (lo+m) ((lo+m-lo) / 2)))):=e4.trans (Pre.T5 (aU lo) (show lo+m<=_ by rw[Ic];lia))
     have s2:Sg r (mirror (arrOf S4) lo (lo+m) ((lo+m-lo) / 2)) lo (lo+m):=λi j h1 h2 h3=>by
      rw[fk (by rw[Ic];lia),fk (by rw[Ic];lia),aB (by lia),aB (by lia)]
      exact d4 _ _ (by lia) (by lia) (by lia)
     have p2:pendingOf (setArr S4 (mirror (arrOf S4) lo (lo+m) ((lo+m-lo) / 2)))=pendingOf st:=p4
     have Oe:Sg r (arrOf (setArr S4 (mirror (arrOf S4) lo (lo+m) ((lo+m-lo) / 2)))) lo (lo+m):=s2
     clear s2
     generalize setArr S4 (mirror (arrOf S4) lo (lo+m) ((lo+m-lo) / 2))=S2 at B2 p2 Oe e2 ⊢
     have s2:=Oe
     refine aO (dQ (eL (a:=m) (I:=λx c aI=>aI=S2/\c=(none,x)/\Sg r (arrOf S2) lo (lo+x))
      (Q:=λc aI=>aI=S2/\∃n,c=(none,n)/\m<=n/\n<=dW/\Sg r (arrOf S2) lo (lo+n)/\(n=dW\/Rk r (arrOf S2) (lo+n)<Rk r (arrOf S2) (lo+n-1))) ?stepya ?finya ⟨rfl,rfl,s2⟩) ?postya)
     case finya=>
      rintro c aI ⟨rfl,rfl,s'⟩
      rw[show max (m) dW=dW by lia]at s' ⊢
      exact⟨rfl,dW,rfl,by lia,aU _,s',.inl rfl⟩
     case stepya=>
      rintro x c aI Mg Y2 ⟨e0,rfl,s'⟩
      replace e0:=e0.symm;subst e0
      try dsimp only
      refine aO (jh C B2 (by lia) (by lia) ?_)
      try dsimp only
      refine aJ (λhc=>?_) (λhc=>?_)
      ·exact aH ⟨rfl,x,rfl,Mg,by lia,s',.inr (of_decide_eq_true hc)⟩
      ·have o6:=λz=>hc (decide_eq_true z)
       refine aH ⟨rfl,rfl,λi j h1 h2 h3=>?_⟩
       by_cases hj:j<lo+x
       ·exact s' i j h1 h2 hj
       ·have uL:j=lo+x:=by lia
        subst uL
        by_cases hi:i=lo+x
        ·subst hi;exact gC _
        ·have:=s' i (lo+x-1) h1 (by lia) (by lia)
         exact vq this (vm.mp o6)
     case postya=>
      intro c aI gB
      refine hide λgG hG=>?_
      obtain⟨e0,n,rfl,hn0,u3,s',hor⟩:=gB
      refine hG ?_
      replace e0:=e0.symm;subst e0
      try dsimp only
      exact aH (h n _ B2 p2 e2 (by lia) u3 s')
    ·refine aO (qJ ?_)
     have Ic:=b1.size
     have B2:=b1.put (jO _ lo (lo+m) ((lo+m-lo) / 2))
     have e2:Pre lo (arrOf st) (arrOf (setArr S3 (mirror (arrOf S3) lo (lo+m) ((lo+m-lo) / 2)))):=b3.trans (Pre.T5 (aU lo) (show lo+m<=_ by rw[Ic];lia))
     have s2:Sg r (mirror (arrOf S3) lo (lo+m) ((lo+m-lo) / 2)) lo (lo+m):=λi j h1 h2 h3=>by
      rw[fk (by rw[Ic];lia),fk (by rw[Ic];lia),aB (by lia),aB (by lia)]
      exact b4 _ _ (by lia) (by lia) (by lia)
     have p2:pendingOf (setArr S3 (mirror (arrOf S3) lo (lo+m) ((lo+m-lo) / 2)))=pendingOf st:=b2
     have Oe:Sg r (arrOf (setArr S3 (mirror (arrOf S3) lo (lo+m) ((lo+m-lo) / 2)))) lo (lo+m):=s2
     clear s2
     generalize setArr S3 (mirror (arrOf S3) lo (lo+m) ((lo+m-lo) / 2))=S2 at B2 p2 Oe e2 ⊢
     have s2:=Oe
     refine aO (dQ (eL (a:=m) (I:=λx c aI=>aI=S2/\c=(none,x)/\Sg r (arrOf S2) lo (lo+x))
      (Q:=λc aI=>aI=S2/\∃n,c=(none,n)/\m<=n/\n<=dW/\Sg r (arrOf S2) lo (lo+n)/\(n=dW\/Rk r (arrOf S2) (lo+n)<Rk r (arrOf S2) (lo+n-1))) ?stepyb ?finyb ⟨rfl,rfl,s2⟩) ?postyb)
     case finyb=>
      rintro c aI ⟨rfl,rfl,s'⟩
      rw[show max (m) dW=dW by lia]at s' ⊢
      exact⟨rfl,dW,rfl,by lia,aU _,s',.inl rfl⟩
     case stepyb=>
      rintro x c aI Mg Y2 ⟨e0,rfl,s'⟩
      replace e0:=e0.symm;subst e0
      try dsimp only
      refine aO (jh C B2 (by lia) (by lia) ?_)
      try dsimp only
      refine aJ (λhc=>?_) (λhc=>?_)
      ·exact aH ⟨rfl,x,rfl,Mg,by lia,s',.inr (of_decide_eq_true hc)⟩
      ·have o6:=λz=>hc (decide_eq_true z)
       refine aH ⟨rfl,rfl,λi j h1 h2 h3=>?_⟩
       by_cases hj:j<lo+x
       ·exact s' i j h1 h2 hj
       ·have uL:j=lo+x:=by lia
        subst uL
        by_cases hi:i=lo+x
        ·subst hi;exact gC _
        ·have:=s' i (lo+x-1) h1 (by lia) (by lia)
         exact vq this (vm.mp o6)
     case postyb=>
      intro c aI gB
      refine hide λgG hG=>?_
      obtain⟨e0,n,rfl,hn0,u3,s',hor⟩:=gB
      refine hG ?_
      replace e0:=e0.symm;subst e0
      try dsimp only
      exact aH (h n _ B2 p2 e2 (by lia) u3 s')
end
theorem Ek:∀(l:List Keyed) (n:Nat) (xs:Array Keyed) (sa:Nat),sa+n+l.length<=xs.size->∀k:Nat,
  ((l.zipIdx n).foldl (λa (q:Keyed×Nat)=>a.setIfInBounds (sa+q.2) q.1) xs)[k]?=if sa+n<=k/\k<sa+n+l.length then l[k-(sa+n)]? else xs[k]?
 | [],n,xs,sa,_,k=>by rw[aA (by simp)];rfl
 | z::l,n,xs,sa,h,k=>by
  rw[gb]at h
  show(List.foldl _ (xs.setIfInBounds (sa+n) z) (l.zipIdx (n+1)))[k]?=_
  rw[Ek l (n+1) _ sa (by rw[Array.size_setIfInBounds];lia) k,gb]
  by_cases h1:sa+(n+1)<=k/\k<sa+(n+1)+l.length
  ·rw[aB h1,aB (by lia),show k-(sa+n)=(k-(sa+(n+1)))+1 by lia,zJ]
  ·rw[aA h1]
   by_cases h2:k=sa+n
   ·subst h2
    rw[aB (by lia),jP,List.getElem?_cons_zero,Array.getElem?_setIfInBounds_self_of_lt (by lia)]
   ·rw[aA (by lia),Array.getElem?_setIfInBounds_ne (by lia)]
theorem QJ(R:Array Keyed)(xs:Array Keyed)(sa:Nat):(R.toList.zipIdx.foldl (λa (x:Keyed×Nat)=>match x with | (p,j)=>a.setIfInBounds (sa+j) p) xs)=(R.toList.zipIdx.foldl (λa (q:Keyed×Nat)=>a.setIfInBounds (sa+q.2) q.1) xs):=rfl
section
variable {r:Keyed->Int}{xs ys:Array Keyed}
theorem Sg.congr{lo hi:Nat}(h:Sg r xs lo hi)(e:∀k,lo<=k->k<hi->ys[k]?=xs[k]?):Sg r ys lo hi:=λi j h1 h2 h3=>by
 rw[Rk.congr (e i h1 (by lia)),Rk.congr (e j (by lia) h3)];exact h i j h1 h2 h3
theorem Jp{lo hi:Nat}(h:Sg r xs lo hi)(hh:hi<=xs.size):jz r (xs.extract lo hi).toList:=by
 refine vI.mpr λi j Uq hj1 Fx=>?_
 have s1:(xs.extract lo hi).toList.length=hi-lo:=by rw[dF,Gh];lia
 rw[s1]at Uq hj1
 have:=h (lo+i) (lo+j) (by lia) (by lia) (by lia)
 rw[Rk.eq (by lia),Rk.eq (by lia)]at this
 simpa using this
theorem T9{L:List Keyed}(h:jz r L){u:Nat}(e:∀k,k<L.length->ys[u+k]?=L[k]?):Sg r ys u (u+L.length):=λi j h1 h2 h3=>by
 have ei:=e (i-u) (by lia)
 have ej:=e (j-u) (by lia)
 rw[show u+(i-u)=i by lia]at ei
 rw[show u+(j-u)=j by lia]at ej
 have Uq:i-u<L.length:=by lia
 have hj1:j-u<L.length:=by lia
 unfold Rk
 rw[ei,ej,bD Uq,bD hj1]
 rcases Nat.lt_or_eq_of_le h2 with z | z
 ·exact(vI.mp h) (i-u) (j-u) Uq hj1 (by lia)
 ·subst z;exact gC _
def dw(r:Keyed->Int)(xs:Array Keyed):Nat->List (Nat×Nat×Nat)->Nat->Prop
 | lo,[],hi=>lo=hi
 | lo,p::ps,hi=>p.1=lo/\1<=p.2.1/\Sg r xs lo (lo+p.2.1)/\dw r xs (lo+p.2.1) ps hi
theorem dw.le:∀{lo:Nat} {ps:List (Nat×Nat×Nat)} {hi:Nat},dw r xs lo ps hi->lo+ps.length<=hi
 | lo,[],hi,h=>by have:lo=hi:=h;simp;lia
 | lo,p::ps,hi,⟨h1,h2,_,h4⟩=>by have:=h4.le;rw[gb];lia
theorem dw.congr:∀{lo:Nat} {ps:List (Nat×Nat×Nat)} {hi:Nat},dw r xs lo ps hi->(∀k,lo<=k->k<hi->ys[k]?=xs[k]?)->dw r ys lo ps hi
 | lo,[],hi,h,_=>h
 | lo,p::ps,hi,⟨h1,h2,h3,h4⟩,e=>⟨h1,h2,h3.congr λk a b=>e k a (by have:=h4.le;lia),h4.congr λk a b=>e k (by lia) b⟩
theorem dw.app:∀{lo:Nat} {ps qs:List (Nat×Nat×Nat)} {hi:Nat},dw r xs lo (ps++qs) hi↔∃m,dw r xs lo ps m/\dw r xs m qs hi
 | lo,[],qs,hi=>⟨λh=>⟨lo,rfl,h⟩,λ⟨m,h1,h2⟩=>by have:lo=m:=h1;subst this;exact h2⟩
 | lo,p::ps,qs,hi=>⟨λ⟨h1,h2,h3,h4⟩=>by
   obtain⟨m,a,b⟩:=dw.app.mp h4
   exact⟨m,⟨h1,h2,h3,a⟩,b⟩,λ⟨m,⟨h1,h2,h3,a⟩,b⟩=>⟨h1,h2,h3,dw.app.mpr ⟨m,a,b⟩⟩⟩
end
theorem O6{xs ys M:List Keyed}{u v:Nat}(huv:u<=v)(hM:M.Perm ((xs.drop u).take (v-u)))(e:ys=xs.take u++M++xs.drop v):ys.Perm xs:=by
 have e2:xs=xs.take u++(xs.drop u).take (v-u)++xs.drop v:=by
  have h1:=(vi u xs).symm
  have h2:=(vi (v-u) (xs.drop u)).symm
  rw[List.drop_drop,show u+(v-u)=v by lia]at h2
  rw[j3,<-h2];exact h1
 rw[e]
 conv=>rhs;rw[e2]
 exact Gs _ (Gp _ hM)
section
variable {prog:Program}{w:World}{A:Around}{E:Value->Shared->Prop}{s:Shared}{κ:SortKind}{r:Keyed->Int}{a₀:Array Keyed}
theorem Ml{α:Type}(pre post:List α)(x y z:α):((pre++x::y::post).set pre.length z).eraseIdx (pre.length+1)=pre++z::post:=by
 rw[List.set_append_right _ _ (aU _),jP,List.set_cons_zero,List.eraseIdx_append_of_length_le (by lia)]
 simp
theorem Ob(C:M7 prog w A s κ r a₀){st:SortSt}{pre post:List (Nat×Nat×Nat)}{p q:Nat×Nat×Nat}{hi:Nat}{Q:Bool->SortSt->Prop}(B:SB a₀ κ st)(hp:(pendingOf st).toList=pre++p::q::post)(sg:dw r (arrOf st) 0 (pre++p::q::post) hi)(hh:hi<=a₀.size)
  (h:∀bu,SB a₀ κ bu->(pendingOf bu).toList=pre++(p.1,p.2.1+q.2.1,p.2.2)::post->dw r (arrOf bu) 0 (pre++(p.1,p.2.1+q.2.1,p.2.2)::post) hi->(∀k,hi<=k->(arrOf bu)[k]?=(arrOf st)[k]?)->Q true bu):wpS (model prog w) A E s (mergeAt' pre.length) Q st:=by
 refine hide λgG hG=>?_
 obtain⟨sa,na,pw⟩:=p
 obtain⟨sb,nb,pw2⟩:=q
 obtain⟨m,sg1,e1,g1,g2,e2,g3,g4,sg2⟩:=dw.app.mp sg
 refine hG ?_
 dsimp only at e1 g1 g2 e2 g3 g4 sg2 h
 subst e1 e2
 have hm:=sg2.le
 have hsz:=B.size
 have hU:∀z∈arrOf st,z∈a₀:=λz hz=>B.mem hz
 have sg0:∀ys:Array Keyed,(∀k,k<sa->ys[k]?=(arrOf st)[k]?)->(∀k,sa+na+nb<=k->ys[k]?=(arrOf st)[k]?)->Sg r ys sa (sa+na+nb)->dw r ys 0 (pre++(sa,na+nb,pw)::post) hi:=λys k1 k2 k3=>
  dw.app.mpr ⟨sa,sg1.congr λk _ b=>k1 k b,rfl,by show 1<=na+nb;lia,by rw[<-rL];exact k3,by
   show dw r ys (sa+(na+nb)) post hi
   rw[<-rL];exact sg2.congr λk a _=>k2 k a⟩
 have x1:(pendingOf st)[pre.length]?=some (sa,na,pw):=by rw[<-lO,hp];simp
 have x2:(pendingOf st)[pre.length+1]?=some (sa+na,nb,pw2):=by rw[<-lO,hp,fC (by lia)];simp
 rw[Xr]
 refine aO (iw ?_)
 rw[x1,x2]
 dsimp only
 have pe:(((pendingOf st).setIfInBounds pre.length (sa,na+nb,pw)).eraseIdxIfInBounds (pre.length+1)).toList=pre++(sa,na+nb,pw)::post:=by
  have hl:pre.length+1<(pendingOf st).size:=by rw[<-dF,hp];simp
  rw[Array.eraseIdxIfInBounds,dif_pos (by rw[Array.size_setIfInBounds];exact hl),Array.toList_eraseIdx,Array.toList_setIfInBounds,hp]
  exact Ml pre post _ _ _
 have aBN:∀{Q':PUnit->SortSt->Prop} {v st0:SortSt},Q' ⟨⟩ v->wpS (model prog w) A E s (set v:StateT SortSt Sem PUnit) Q' st0:=λ{Q' v st0} hq=>by
  unfold wpS;rw[StateT.run_set];exact aK ⟨rfl,hq⟩
 refine aO (aBN ?_)
 have B1:SB a₀ κ (setPending st (((pendingOf st).setIfInBounds pre.length (sa,na+nb,pw)).eraseIdxIfInBounds (pre.length+1))):=⟨B.perm,B.kind,B.ok⟩
 have q1:(pendingOf (setPending st (((pendingOf st).setIfInBounds pre.length (sa,na+nb,pw)).eraseIdxIfInBounds (pre.length+1)))).toList=pre++(sa,na+nb,pw)::post:=pe
 have q2:arrOf (setPending st (((pendingOf st).setIfInBounds pre.length (sa,na+nb,pw)).eraseIdxIfInBounds (pre.length+1)))=arrOf st:=rfl
 generalize setPending st (((pendingOf st).setIfInBounds pre.length (sa,na+nb,pw)).eraseIdxIfInBounds (pre.length+1))=S1 at B1 q1 q2 ⊢
 have aBR:∀i j (h1:i<=j) (h2:sa+j<(arrOf st).size),j<na->r ((arrOf st)[sa+i]'(by lia))<=r (arrOf st)[sa+j]:=λi j h1 h2 h3=>by
  have:=g2 (sa+i) (sa+j) (by lia) (by lia) (by lia)
  rwa [Rk.eq (by lia),Rk.eq h2]at this
 have ZD:∀i j (h1:i<=j) (h2:sa+na+j<(arrOf st).size),j<nb->r ((arrOf st)[sa+na+i]'(by lia))<=r (arrOf st)[sa+na+j]:=λi j h1 h2 h3=>by
  have:=g4 (sa+na+i) (sa+na+j) (by lia) (by lia) (by lia)
  rwa [Rk.eq (by lia),Rk.eq h2]at this
 have Ih:sa+na<(arrOf st).size:=by lia
 refine aO (cU Ih ?_)
 refine aO (yf C (by lia) (by lia) hU (hU _ (g7 _)) B1.kind aBR λk k1 k2 k3=>?_)
 dsimp only
 have k2':∀i,sa<=i->i<sa+k->Rk r (arrOf st) i<=Rk r (arrOf st) (sa+na):=λi h1 h2=>by
  have:=k2 (i-sa) (by lia) (by lia)
  rw[Rk.eq (by lia),Rk.eq Ih]
  have e:sa+(i-sa)=i:=by lia
  simpa [isA,e]using this
 have k3':∀i,sa+k<=i->i<sa+na->Rk r (arrOf st) (sa+na)<Rk r (arrOf st) i:=λi h1 h2=>by
  have:=k3 (i-sa) (by lia) (by lia) (by lia)
  rw[Rk.eq Ih,Rk.eq (by lia)]
  have e:sa+(i-sa)=i:=by lia
  simpa [isA,e]using this
 refine aJ (λhz=>?_) (λhz=>?_)
 ·have Ma:na-k=0:=by simpa using hz
  refine aH (h S1 B1 q1 (sg0 _ (λk _=>by rw[q2]) (λk _=>by rw[q2]) ?_) (λk _=>by rw[q2]))
  rw[q2]
  intro i j h1 h2 h3
  by_cases ci:i<sa+na
  ·by_cases cj:j<sa+na
   ·exact g2 i j h1 h2 cj
   ·have a1:=k2' i h1 (by lia)
    have a2:=g4 (sa+na) j (by lia) (by lia) h3
    lia
  ·exact g4 i j (by lia) h2 h3
 have Ma:na-k≠0:=by simpa using hz
 have hla:sa+k+(na-k)-1=sa+na-1:=by lia
 refine aO (cU (by lia) ?_)
 refine aO (yf C (by lia) (by lia) hU (hU _ (g7 _)) B1.kind ZD λf f1 f2 f3=>?_)
 dsimp only
 have hl0:sa+na-1<(arrOf st).size:=by lia
 have f2':∀i,sa+na<=i->i<sa+na+f->Rk r (arrOf st) i<Rk r (arrOf st) (sa+na-1):=λi h1 h2=>by
  have:=f2 (i-(sa+na)) (by lia) (by lia)
  rw[Rk.eq (by lia),Rk.eq hl0]
  have e:sa+na+(i-(sa+na))=i:=by lia
  simpa [isA,e,hla]using this
 have f3':∀i,sa+na+f<=i->i<sa+na+nb->Rk r (arrOf st) (sa+na-1)<=Rk r (arrOf st) i:=λi h1 h2=>by
  have:=f3 (i-(sa+na)) (by lia) (by lia) (by lia)
  rw[Rk.eq hl0,Rk.eq (by lia)]
  have e:sa+na+(i-(sa+na))=i:=by lia
  simpa [isA,e,hla]using this
 refine aJ (λxr=>?_) (λxr=>?_)
 ·have Qo:f=0:=by simpa using xr
  refine aH (h S1 B1 q1 (sg0 _ (λk _=>by rw[q2]) (λk _=>by rw[q2]) ?_) (λk _=>by rw[q2]))
  rw[q2]
  intro i j h1 h2 h3
  by_cases ci:i<sa+na
  ·by_cases cj:j<sa+na
   ·exact g2 i j h1 h2 cj
   ·have a1:=g2 i (sa+na-1) h1 (by lia) (by lia)
    have a2:=f3' j (by lia) h3
    lia
  ·exact g4 i j (by lia) h2 h3
 have Qo:f≠0:=by simpa using xr
 have zx:((arrOf st).extract (sa+k) (sa+na)).size=na-k:=by rw[Gh];lia
 have zy:((arrOf st).extract (sa+na) (sa+na+f)).size=f:=by rw[Gh];lia
 have ux:∀z∈(arrOf st).extract (sa+k) (sa+na),z∈a₀:=λz hz=>hU z (Ni.mp hz |> λ⟨i,hi,e⟩=>by rw[<-e];exact g7 _)
 have uy:∀z∈(arrOf st).extract (sa+na) (sa+na+f),z∈a₀:=λz hz=>hU z (Ni.mp hz |> λ⟨i,hi,e⟩=>by rw[<-e];exact g7 _)
 have sx:jz r ((arrOf st).extract (sa+k) (sa+na)).toList:=Jp (λi j h1 h2 h3=>g2 i j (by lia) h2 h3) (by lia)
 have sy:jz r ((arrOf st).extract (sa+na) (sa+na+f)).toList:=Jp (λi j h1 h2 h3=>g4 i j (by lia) h2 (by lia)) (by lia)
 have atx:∀i (hi:i<((arrOf st).extract (sa+k) (sa+na)).size),r ((arrOf st).extract (sa+k) (sa+na))[i]=Rk r (arrOf st) (sa+k+i):=λi hi=>by
  rw[Rk.eq (by lia),Array.getElem_extract]
 have aty:∀i (hi:i<((arrOf st).extract (sa+na) (sa+na+f)).size),r ((arrOf st).extract (sa+na) (sa+na+f))[i]=Rk r (arrOf st) (sa+na+i):=λi hi=>by
  rw[Rk.eq (by lia),Array.getElem_extract]
 have key:∀(R:Array Keyed) (g:Nat),Good r ((arrOf st).extract (sa+k) (sa+na)) ((arrOf st).extract (sa+na) (sa+na+f)) R->
   wpS (model prog w) A E s (do
    modify λst=>setArr st (R.toList.zipIdx.foldl (λa (x:Keyed×Nat)=>match x with | (p,j)=>a.setIfInBounds (sa+k+j) p) (arrOf st))
    let z <-get
    pure (failedOf z).isNone) Q (dk S1 g):=λR g ⟨Y6,hsR⟩=>by
  have lR:R.toList.length=na-k+f:=by
   have:=Y6.length_eq
   rw[cw,dF,dF,dF,zx,zy]at this
   rw[dF];exact this
  have fs:∀i:Nat,(R.toList.zipIdx.foldl (λa (x:Keyed×Nat)=>match x with | (p,j)=>a.setIfInBounds (sa+k+j) p) (arrOf st))[i]?=if sa+k<=i/\i<sa+na+f then R.toList[i-(sa+k)]? else (arrOf st)[i]?:=λi=>by
   rw[QJ,Ek R.toList 0 (arrOf st) (sa+k) (by rw[lR];lia) i,lR]
   by_cases c:sa+k<=i/\i<sa+na+f
   ·rw[aB c,aB (by lia)];simp
   ·rw[aA c,aA (by lia)]
  refine aO (gF (aO (iw (aH ?_))))
  have eA:arrOf (dk S1 g)=arrOf st:=q2
  rw[eA]
  have B2:SB a₀ κ (setArr (dk S1 g) (R.toList.zipIdx.foldl (λa (x:Keyed×Nat)=>match x with | (p,j)=>a.setIfInBounds (sa+k+j) p) (arrOf st))):=by
   refine⟨?_,B1.kind,B1.ok⟩
   refine Array.Perm.trans ?_ B.perm
   show(R.toList.zipIdx.foldl (λa (x:Keyed×Nat)=>match x with | (p,j)=>a.setIfInBounds (sa+k+j) p) (arrOf st)).Perm (arrOf st)
   refine vj.mpr (O6 (u:=sa+k) (v:=sa+na+f) (by lia) (M:=R.toList) ?_ ?_)
   ·refine Y6.trans ?_
    show(((arrOf st).extract (sa+k) (sa+na)).toList++((arrOf st).extract (sa+na) (sa+na+f)).toList).Perm _
    rw[ie,ie,vR (x:=sa+na+f-(sa+k)) (e:=sa+na-(sa+k)) _ (by lia),List.drop_drop,show sa+k+(sa+na-(sa+k))=sa+na by lia,show sa+na+f-(sa+k)-(sa+na-(sa+k))=sa+na+f-(sa+na) by lia]
   ·refine ql λi=>?_
    rw[lO,fs i]
    have lt1:((arrOf st).toList.take (sa+k)).length=sa+k:=by rw[cz,dF];lia
    by_cases c1:i<sa+k
    ·rw[aA (by lia),j3,gh (by lia),List.getElem?_take,aB c1,lO]
    ·by_cases c2:i<sa+na+f
     ·rw[aB (by lia),j3,fC (by lia),lt1,gh (by lia)]
     ·rw[aA (by lia),fC (by rw[cw,lt1,lR];lia),cw,lt1,lR,List.getElem?_drop,lO]
      congr 1
      lia
  have eok:(failedOf (setArr (dk S1 g) (R.toList.zipIdx.foldl (λa (x:Keyed×Nat)=>match x with | (p,j)=>a.setIfInBounds (sa+k+j) p) (arrOf st)))).isNone=true:=by
   have:failedOf S1=none:=B1.ok
   show(failedOf S1).isNone=true
   rw[this];rfl
  rw[eok]
  refine h _ B2 q1 (sg0 _ (λi hi=>by show(R.toList.zipIdx.foldl _ (arrOf st))[i]?=_;rw[fs,aA (by lia)]) (λi hi=>by show(R.toList.zipIdx.foldl _ (arrOf st))[i]?=_;rw[fs,aA (by lia)]) ?_) (λi hi=>by show(R.toList.zipIdx.foldl _ (arrOf st))[i]?=_;rw[fs,aA (by lia)])
  show Sg r (R.toList.zipIdx.foldl (λa (x:Keyed×Nat)=>match x with | (p,j)=>a.setIfInBounds (sa+k+j) p) (arrOf st)) sa (sa+na+nb)
  generalize R.toList.zipIdx.foldl (λa (x:Keyed×Nat)=>match x with | (p,j)=>a.setIfInBounds (sa+k+j) p) (arrOf st)=ys at fs
  have out:∀i,¬(sa+k<=i/\i<sa+na+f)->Rk r ys i=Rk r (arrOf st) i:=λi hi=>Rk.congr (by rw[fs,aA hi])
  have mid:Sg r ys (sa+k) (sa+k+R.toList.length):=T9 hsR λi hi=>by rw[fs,aB (by lia)];congr 1;lia
  rw[lR]at mid
  have src:∀i,sa+k<=i->i<sa+na+f->∃t,sa+k<=t/\t<sa+na+f/\Rk r ys i=Rk r (arrOf st) t:=λi h1 h2=>by
   have hi:i-(sa+k)<R.toList.length:=by lia
   have e:=fs i
   rw[aB ⟨h1,h2⟩,bD hi]at e
   have hm:=Y6.mem_iff.mp (rX hi)
   have e3:Rk r ys i=r R.toList[i-(sa+k)]:=by unfold Rk;rw[e]
   rcases bT.mp hm with hm | hm
   ·obtain⟨t,ht,et⟩:=gD.mp hm
    rw[dF]at ht
    have et':((arrOf st).extract (sa+k) (sa+na))[t]=R.toList[i-(sa+k)]:=by simpa using et
    exact⟨sa+k+t,by lia,by lia,by rw[e3,<-et',atx t ht]⟩
   ·obtain⟨t,ht,et⟩:=gD.mp hm
    rw[dF]at ht
    have et':((arrOf st).extract (sa+na) (sa+na+f))[t]=R.toList[i-(sa+k)]:=by simpa using et
    exact⟨sa+na+t,by lia,by lia,by rw[e3,<-et',aty t ht]⟩
  have low:∀i t,sa<=i->i<sa+k->sa+k<=t->t<sa+na+nb->Rk r (arrOf st) i<=Rk r (arrOf st) t:=λi t h1 h2 h3 h4=>by
   by_cases c:t<sa+na
   ·exact g2 i t h1 (by lia) c
   ·have a1:=k2' i h1 h2
    have a2:=g4 (sa+na) t (by lia) (by lia) h4
    lia
  have high:∀t j,sa<=t->t<sa+na+f->sa+na+f<=j->j<sa+na+nb->Rk r (arrOf st) t<=Rk r (arrOf st) j:=λt j h1 h2 h3 h4=>by
   by_cases c:t<sa+na
   ·have a1:=g2 t (sa+na-1) h1 (by lia) (by lia)
    have a2:=f3' j h3 h4
    lia
   ·exact g4 t j (by lia) (by lia) h4
  intro i j h1 h2 h3
  by_cases ci:i<sa+k
  ·rw[out i (by lia)]
   by_cases cj:j<sa+k
   ·rw[out j (by lia)];exact g2 i j h1 h2 (by lia)
   ·by_cases cj2:j<sa+na+f
    ·refine hide λgG hG=>?_
     obtain⟨t,t1,t2,t3⟩:=src j (by lia) cj2
     refine hG ?_
     rw[t3];exact low i t h1 ci t1 (by lia)
    ·rw[out j (by lia)];exact low i j h1 ci (by lia) h3
  ·by_cases ci2:i<sa+na+f
   ·by_cases cj2:j<sa+na+f
    ·exact mid i j (by lia) h2 (by lia)
    ·refine hide λgG hG=>?_
     obtain⟨t,t1,t2,t3⟩:=src i (by lia) ci2
     refine hG ?_
     rw[t3,out j (by lia)];exact high t j (by lia) t2 (by lia) h3
   ·rw[out i (by lia),out j (by lia)];exact g4 i j (by lia) h2 h3
 have h0x:0<((arrOf st).extract (sa+k) (sa+na)).size:=by lia
 have h0y:0<((arrOf st).extract (sa+na) (sa+na+f)).size:=by lia
 have c0:r ((arrOf st).extract (sa+na) (sa+na+f))[0]<r ((arrOf st).extract (sa+k) (sa+na))[0]:=by
  rw[aty 0 h0y,atx 0 h0x];exact k3' _ (by lia) (by lia)
 have cl:∀v∈(arrOf st).extract (sa+na) (sa+na+f),r v<=r (((arrOf st).extract (sa+k) (sa+na))[((arrOf st).extract (sa+k) (sa+na)).size-1]'(by lia)):=λv hv=>by
  obtain⟨i,hi,rfl⟩:=Array.mem_iff_getElem.mp hv
  rw[aty i hi,atx _ (by lia)]
  have:=f2' (sa+na+i) (by lia) (by lia)
  rw[zx,show sa+k+(na-k-1)=sa+na-1 by lia]
  lia
 have cf:∀v∈(arrOf st).extract (sa+k) (sa+na),r ((arrOf st).extract (sa+na) (sa+na+f))[0]<=r v:=λv hv=>by
  obtain⟨i,hi,rfl⟩:=Array.mem_iff_getElem.mp hv
  rw[aty 0 h0y,atx i hi]
  have:=k3' (sa+k+i) (by lia) (by lia)
  simp only[Nat.add_zero]
  lia
 refine aJ (λ_=>?_) (λ_=>?_)
 ·refine aO (Z0 C B1.kind ux uy sx sy h0x h0y (by lia) cl λR g hR=>?_)
  exact key R g hR
 ·refine aO (Z1 C B1.kind ux uy sx sy h0x h0y cf cl λR g hR=>?_)
  exact key R g hR
end
theorem Bt{α:Type}{l:List α}{i:Nat}(h:i+1<l.length):l=l.take i++l[i]::l[i+1]::l.drop (i+2):=by
 rw[<-Gz h,<-Gz (by omega)]
 exact(vi i l).symm
theorem Bu{α:Type}{l:List α}{i:Nat}(h:i+1<l.length):(l.take i).length=i:=by rw[cz];omega
theorem pT{α β:Type}(f:α->β)(g:α->α)(hg:∀x,f (g x)=f x):∀{l:List α} (i:Nat),(l.modify i g).map f=l.map f
 | [],i=>by cases i <;> rfl
 | x::l,0=>by simp[hg]
 | x::l,i+1=>by simp[pT f g hg (l:=l) i]
theorem dw.pow{r:Keyed->Int}{xs:Array Keyed}:∀{lo:Nat} {ps qs:List (Nat×Nat×Nat)} {hi:Nat},dw r xs lo ps hi->qs.map (λp=>(p.1,p.2.1))=ps.map (λp=>(p.1,p.2.1))->dw r xs lo qs hi
 | lo,[],qs,hi,h,e=>by
  have:qs=[]:=by simpa using e
  rw[this];exact h
 | lo,p::ps,[],hi,h,e=>by simp at e
 | lo,p::ps,q::qs,hi,⟨h1,h2,h3,h4⟩,e=>by
  rw[eI,eI]at e
  injection e with e1 e2
  injection e1 with e3 e4
  exact⟨e3.trans h1,by rw[e4];exact h2,by rw[e4];exact h3,by rw[e4];exact h4.pow e2⟩
section
variable {prog:Program}{w:World}{A:Around}{E:Value->Shared->Prop}{s:Shared}{κ:SortKind}{r:Keyed->Int}{a₀:Array Keyed}
theorem Wu(C:M7 prog w A s κ r a₀){st:SortSt}{Q:Unit->SortSt->Prop}(B:SB a₀ κ st)(Vy:pendingOf st = #[])(h2:2<=a₀.size)
  (h:∀bu,SB a₀ κ bu->Sg r (arrOf bu) 0 a₀.size->Q () bu):wpS (model prog w) A E s sortRuns' Q st:=by
 rw[sortRuns'_eq]
 refine aO (iw ?_)
 try dsimp only
 rw[B.size]
 generalize minRun' a₀.size a₀.size 0=mr
 refine aO (dQ (eL (a:=0) (I:=λx c bu=>∃lo,c=(none,lo)/\SB a₀ κ bu/\lo<=a₀.size/\min x a₀.size<=lo/\dw r (arrOf bu) 0 (pendingOf bu).toList lo)
  (Q:=λc bu=>c=(none,a₀.size)/\SB a₀ κ bu/\dw r (arrOf bu) 0 (pendingOf bu).toList a₀.size) ?step ?fin ⟨0,rfl,B,by omega,by omega,by rw[Vy];rfl⟩) ?post)
 case fin=>
  rintro c bu ⟨lo,rfl,b1,b2,b3,b4⟩
  have e:lo=a₀.size:=by omega
  subst e
  exact⟨rfl,b1,b4⟩
 case post=>
  rintro c bu ⟨rfl,b1,b2⟩
  try dsimp only
  refine aO (dQ (eL (a:=0) (I:=λx c aI=>c=(none,())/\SB a₀ κ aI/\dw r (arrOf aI) 0 (pendingOf aI).toList a₀.size/\(pendingOf aI).size+x<=a₀.size+1)
   (Q:=λc aI=>c=(none,())/\SB a₀ κ aI/\dw r (arrOf aI) 0 (pendingOf aI).toList a₀.size/\(pendingOf aI).size<=1) ?fstep ?ffin ⟨rfl,b1,b2,by have:=b2.le;rw[dF]at this;omega⟩) ?fpost)
  case ffin=>
   rintro c aI ⟨hc,d1,d2,d3⟩
   exact⟨hc,d1,d2,by omega⟩
  case fpost=>
   rintro c aI ⟨rfl,d1,d2,d3⟩
   refine aH (h aI d1 ?_)
   rw[<-dF]at d3
   revert d2 d3
   generalize (pendingOf aI).toList=ps
   intro d2 d3
   match ps,d2,d3 with
   | [],d2,_=>
    have:0=a₀.size:=d2
    omega
   | [p],⟨e1,e2,e3,e4⟩,_=>
    have e5:0+p.2.1=a₀.size:=e4
    rw[<-e5]
    exact e3
   | _::_::_,_,d3=>simp at d3
  case fstep=>
   rintro x c S4 _ hx ⟨rfl,d1,d2,d3⟩
   refine aO (iw ?_)
   refine aJ (λhz=>?_) (λhz=>?_)
   ·exact aH ⟨rfl,d1,d2,hz⟩
   ·generalize hi0:(if (Option.any (λx=>decide (x<((pendingOf S4)[(pendingOf S4).size-2+1]?.elim 0 λx=>x.2.1))) (if (pendingOf S4).size-2 > 0 then Option.map (λx=>x.2.1) (pendingOf S4)[(pendingOf S4).size-2-1]? else none))=true then (pendingOf S4).size-2-1 else (pendingOf S4).size-2)=i0
    have Uq:i0+1<(pendingOf S4).toList.length:=by
     have le:∀(c:Bool) (m:Nat),(if c=true then m-1 else m)<=m:=λc m=>by cases c <;> simp
     have:=le (Option.any (λx=>decide (x<((pendingOf S4)[(pendingOf S4).size-2+1]?.elim 0 λx=>x.2.1))) (if (pendingOf S4).size-2 > 0 then Option.map (λx=>x.2.1) (pendingOf S4)[(pendingOf S4).size-2-1]? else none)) ((pendingOf S4).size-2)
     rw[dF]
     rw[hi0]at this
     omega
    have cut:=Bt Uq
    have lt:=Bu Uq
    have VN:=d2
    rw[cut]at VN
    have run:=Ob (E:=E) C d1 cut VN (aU _) (Q:=λbb aI=>bb=true/\SB a₀ κ aI/\dw r (arrOf aI) 0 (pendingOf aI).toList a₀.size/\(pendingOf aI).size+(x+1)<=a₀.size+1) λaI b1 b2 b3 b4=>⟨rfl,b1,by rw[b2];exact b3,by
     rw[<-dF,b2,cw,gb,cz,jD]
     rw[<-dF]at d3
     omega⟩
    rw[lt]at run
    refine aO (dQ run λbb aI ⟨e,c1,c2,c3⟩=>?_)
    subst e
    exact aH ⟨rfl,c1,c2,c3⟩
 case step=>
  rintro x c bu _ hx ⟨lo,rfl,b1,b2,b3,b4⟩
  try dsimp only
  refine aJ (λhz=>?_) (λhz=>?_)
  ·have e:lo=a₀.size:=by omega
   subst e
   exact aH ⟨rfl,b1,b4⟩
  refine aO (Sn C (by omega) (by omega) b1 λn0 S1 B1 p1 e1 hm1 Y8 s1=>?_)
  try dsimp only
  have g1:dw r (arrOf S1) 0 (pendingOf S1).toList lo:=by rw[p1];exact b4.congr λk _ hk=>e1 k hk
  refine aJ (λxr=>?_) (λxr=>?_)
  ·refine aO (mn (iy ⟨rfl,?_⟩))
   refine aO (Z2 C (by omega) (by omega) B1 s1 λS2 B2 p2 e2 s2=>?_)
   simp only[mw,fB,bU]
   have g2:dw r (arrOf S2) 0 (pendingOf S2).toList lo:=by rw[p2];exact g1.congr λk _ hk=>e2 k hk
   have u3:1<=min (a₀.size-lo) mr:=by omega
   have Ul:lo+min (a₀.size-lo) mr<=a₀.size:=by omega
   clear xr
   generalize min (a₀.size-lo) mr=n at s2 u3 Ul ⊢
   refine aO (iw ?_)
   have psh:∀S5:SortSt,SB a₀ κ S5->dw r (arrOf S5) 0 (pendingOf S5).toList lo->Sg r (arrOf S5) lo (lo+n)->SB a₀ κ (setPending S5 ((pendingOf S5).push (lo,n,0)))/\dw r (arrOf S5) 0 ((pendingOf S5).push (lo,n,0)).toList (lo+n):=λS5 b1 b2 b3=>⟨⟨b1.perm,b1.kind,b1.ok⟩,by
    rw[tO]
    exact dw.app.mpr ⟨lo,b2,rfl,u3,b3,rfl⟩⟩
   cases eb:(pendingOf S2).back? with
   | none=>
    try dsimp only
    obtain⟨c1,c2⟩:=psh S2 B2 g2 s2
    exact aO (gF (aH ⟨lo+n,rfl,c1,by omega,by omega,c2⟩))
   | some t=>
    obtain⟨s1,n1,pw1⟩:=t
    try dsimp only
    generalize power' a₀.size (2*s1+n1) (2*s1+n1+n1+n) a₀.size=pw
    refine aO (dQ (eL (I:=λ_ c aI=>c=(none,())/\SB a₀ κ aI/\dw r (arrOf aI) 0 (pendingOf aI).toList lo/\Sg r (arrOf aI) lo (lo+n))
     (Q:=λc aI=>c=(none,())/\SB a₀ κ aI/\dw r (arrOf aI) 0 (pendingOf aI).toList lo/\Sg r (arrOf aI) lo (lo+n)) ?mstepa (λ_ _ z=>z) ⟨rfl,B2,g2,s2⟩) ?mposta)
    case mposta=>
     rintro c S4 ⟨rfl,B4,g4,s4⟩
     try dsimp only
     refine aO (gF ?_)
     have B5:SB a₀ κ (setPending S4 ((pendingOf S4).modify ((pendingOf S4).size-1) λ(x:Nat×Nat×Nat)=>match x with | (st,len,_)=>(st,len,pw))):=⟨B4.perm,B4.kind,B4.ok⟩
     have g5:dw r (arrOf (setPending S4 ((pendingOf S4).modify ((pendingOf S4).size-1) λ(x:Nat×Nat×Nat)=>match x with | (st,len,_)=>(st,len,pw)))) 0 (pendingOf (setPending S4 ((pendingOf S4).modify ((pendingOf S4).size-1) λ(x:Nat×Nat×Nat)=>match x with | (st,len,_)=>(st,len,pw)))).toList lo:=by
      show dw r (arrOf S4) 0 ((pendingOf S4).modify ((pendingOf S4).size-1) λ(x:Nat×Nat×Nat)=>match x with | (st,len,_)=>(st,len,pw)).toList lo
      rw[Array.toList_modify]
      refine g4.pow (pT _ _ ?_ _)
      intro x
      rfl
     have s5:Sg r (arrOf (setPending S4 ((pendingOf S4).modify ((pendingOf S4).size-1) λ(x:Nat×Nat×Nat)=>match x with | (st,len,_)=>(st,len,pw)))) lo (lo+n):=s4
     generalize setPending S4 ((pendingOf S4).modify ((pendingOf S4).size-1) λ(x:Nat×Nat×Nat)=>match x with | (st,len,_)=>(st,len,pw))=S5 at B5 g5 s5 ⊢
     obtain⟨c1,c2⟩:=psh S5 B5 g5 s5
     exact aO (gF (aH ⟨lo+n,rfl,c1,by omega,by omega,c2⟩))
    case mstepa=>
     rintro z c S4 _ _ ⟨rfl,B4,g4,s4⟩
     refine aO (iw ?_)
     by_cases hp:(pendingOf S4).size > 1
     ·have J4:(pendingOf S4).size-2<(pendingOf S4).size:=by omega
      rw[aB hp,g9 J4]
      try dsimp only
      refine aJ (λhq=>?_) (λhq=>?_)
      ·exact aH ⟨rfl,B4,g4,s4⟩
      ·have hl:(pendingOf S4).size-2+1<(pendingOf S4).toList.length:=by rw[dF];omega
       have cut:=Bt hl
       have lt:=Bu hl
       have VN:=g4
       rw[cut]at VN
       have run:=Ob (E:=E) C B4 cut VN (by omega) (Q:=λbb aI=>bb=true/\SB a₀ κ aI/\dw r (arrOf aI) 0 (pendingOf aI).toList lo/\Sg r (arrOf aI) lo (lo+n)) λaI b1 b2 b3 b4=>⟨rfl,b1,by rw[b2];exact b3,s4.congr λk h1 _=>b4 k h1⟩
       rw[lt]at run
       refine aO (dQ run λbb aI ⟨e,b1,b2,b3⟩=>?_)
       subst e
       exact aH ⟨rfl,b1,b2,b3⟩
     ·rw[aA hp]
      exact aH ⟨rfl,B4,g4,s4⟩
  ·have B2:=B1
   have g2:=g1
   have s2:=s1
   have u3:=hm1
   have Ul:lo+n0<=a₀.size:=by omega
   clear xr hm1 Y8 s1 B1 g1 p1 e1
   revert S1
   intro S2 B2 g2 s2
   generalize n0=n at s2 u3 Ul ⊢
   refine aO (iw ?_)
   have psh:∀S5:SortSt,SB a₀ κ S5->dw r (arrOf S5) 0 (pendingOf S5).toList lo->Sg r (arrOf S5) lo (lo+n)->SB a₀ κ (setPending S5 ((pendingOf S5).push (lo,n,0)))/\dw r (arrOf S5) 0 ((pendingOf S5).push (lo,n,0)).toList (lo+n):=λS5 b1 b2 b3=>⟨⟨b1.perm,b1.kind,b1.ok⟩,by
    rw[tO]
    exact dw.app.mpr ⟨lo,b2,rfl,u3,b3,rfl⟩⟩
   cases eb:(pendingOf S2).back? with
   | none=>
    try dsimp only
    obtain⟨c1,c2⟩:=psh S2 B2 g2 s2
    exact aO (gF (aH ⟨lo+n,rfl,c1,by omega,by omega,c2⟩))
   | some t=>
    obtain⟨s1,n1,pw1⟩:=t
    try dsimp only
    generalize power' a₀.size (2*s1+n1) (2*s1+n1+n1+n) a₀.size=pw
    refine aO (dQ (eL (I:=λ_ c aI=>c=(none,())/\SB a₀ κ aI/\dw r (arrOf aI) 0 (pendingOf aI).toList lo/\Sg r (arrOf aI) lo (lo+n))
     (Q:=λc aI=>c=(none,())/\SB a₀ κ aI/\dw r (arrOf aI) 0 (pendingOf aI).toList lo/\Sg r (arrOf aI) lo (lo+n)) ?mstepb (λ_ _ z=>z) ⟨rfl,B2,g2,s2⟩) ?mpostb)
    case mpostb=>
     rintro c S4 ⟨rfl,B4,g4,s4⟩
     try dsimp only
     refine aO (gF ?_)
     have B5:SB a₀ κ (setPending S4 ((pendingOf S4).modify ((pendingOf S4).size-1) λ(x:Nat×Nat×Nat)=>match x with | (st,len,_)=>(st,len,pw))):=⟨B4.perm,B4.kind,B4.ok⟩
     have g5:dw r (arrOf (setPending S4 ((pendingOf S4).modify ((pendingOf S4).size-1) λ(x:Nat×Nat×Nat)=>match x with | (st,len,_)=>(st,len,pw)))) 0 (pendingOf (setPending S4 ((pendingOf S4).modify ((pendingOf S4).size-1) λ(x:Nat×Nat×Nat)=>match x with | (st,len,_)=>(st,len,pw)))).toList lo:=by
      show dw r (arrOf S4) 0 ((pendingOf S4).modify ((pendingOf S4).size-1) λ(x:Nat×Nat×Nat)=>match x with | (st,len,_)=>(st,len,pw)).toList lo
      rw[Array.toList_modify]
      refine g4.pow (pT _ _ ?_ _)
      intro x
      rfl
     have s5:Sg r (arrOf (setPending S4 ((pendingOf S4).modify ((pendingOf S4).size-1) λ(x:Nat×Nat×Nat)=>match x with | (st,len,_)=>(st,len,pw)))) lo (lo+n):=s4
     generalize setPending S4 ((pendingOf S4).modify ((pendingOf S4).size-1) λ(x:Nat×Nat×Nat)=>match x with | (st,len,_)=>(st,len,pw))=S5 at B5 g5 s5 ⊢
     obtain⟨c1,c2⟩:=psh S5 B5 g5 s5
     exact aO (gF (aH ⟨lo+n,rfl,c1,by omega,by omega,c2⟩))
    case mstepb=>
     rintro z c S4 _ _ ⟨rfl,B4,g4,s4⟩
     refine aO (iw ?_)
     by_cases hp:(pendingOf S4).size > 1
     ·have J4:(pendingOf S4).size-2<(pendingOf S4).size:=by omega
      rw[aB hp,g9 J4]
      try dsimp only
      refine aJ (λhq=>?_) (λhq=>?_)
      ·exact aH ⟨rfl,B4,g4,s4⟩
      ·have hl:(pendingOf S4).size-2+1<(pendingOf S4).toList.length:=by rw[dF];omega
       have cut:=Bt hl
       have lt:=Bu hl
       have VN:=g4
       rw[cut]at VN
       have run:=Ob (E:=E) C B4 cut VN (by omega) (Q:=λbb aI=>bb=true/\SB a₀ κ aI/\dw r (arrOf aI) 0 (pendingOf aI).toList lo/\Sg r (arrOf aI) lo (lo+n)) λaI b1 b2 b3 b4=>⟨rfl,b1,by rw[b2];exact b3,s4.congr λk h1 _=>b4 k h1⟩
       rw[lt]at run
       refine aO (dQ run λbb aI ⟨e,b1,b2,b3⟩=>?_)
       subst e
       exact aH ⟨rfl,b1,b2,b3⟩
     ·rw[aA hp]
      exact aH ⟨rfl,B4,g4,s4⟩
end
theorem kM{n:Nat}(h:n<=1000000):n<=sizeLine:=jb (vD h (by decide))
theorem Si{n:Nat}(h:n<=1000000):n<sizeLine:=vD h (by decide)
theorem filter_lt{l:List Nat}{f g:Nat->Bool}(h:∀x∈l,f x=true->g x=true){y:Nat}(hy:y∈l)(h1:f y=false)(h2:g y=true):(l.filter f).length<(l.filter g).length:=by
 induction l with
 | nil=>cases hy
 | cons x l ih=>
  have le:(l.filter f).length<=(l.filter g).length:=by
   clear ih hy
   induction l with
   | nil=>exact aU _
   | cons z l ih2=>
    have e1:=h z (by simp)
    have ih3:=ih2 λu hu=>h u (by rcases dR.mp hu with r | r <;> simp[r])
    rw[rW,rW]
    cases c1:f z <;> cases c2:g z <;> simp[c1,c2]at e1 ⊢ <;> lia
  rw[rW,rW]
  rcases dR.mp hy with e | e
  ·subst e
   simp[h1,h2];lia
  ·have:=ih (λu hu=>h u (fw _ hu)) e
   have e1:=h x di
   cases c1:f x <;> cases c2:g x <;> simp[c1,c2]at e1 ⊢ <;> lia
theorem Ord.rank{b:Nat->Nat->Bool}{n:Nat}(O:Ord b n):∃ρ:Nat->Int,∀i j,i<n->j<n->(b i j=true↔ρ i<ρ j):=by
 have irr:∀i,i<n->b i i=false:=λi hi=>by
  cases e:b i i with
  | false=>rfl
  | true=>have:=O.asy i i hi hi e;rw[e]at this;cases this
 have up:∀i j,i<n->j<n->b i j=true->(((List.range n).filter (b · i)).length:Int)<((List.range n).filter (b · j)).length:=λi j hi hj e=>by
  have:=filter_lt (l:=List.range n) (f:=(b · i)) (g:=(b · j)) (λk hk e'=>O.tr k i j (my.mp hk) hi hj e' e) (my.mpr hi) (irr i hi) e
  lia
 refine⟨λi=>((List.range n).filter (b · i)).length,λi j hi hj=>⟨up i j hi hj,λh=>?_⟩⟩
 by_cases d:i=j
 ·subst d;lia
 ·rcases O.tot i j hi hj d with e | e
  ·exact e
  ·have:=up j i hj hi e
   dsimp only at h
   lia
section
variable {prog:Program}{w:World}{A:Around}{E:Value->Shared->Prop}{s:Shared}{κ:SortKind}
theorem Oa{item:Nat->Keyed}{n:Nat}{b:Nat->Nat->Bool}{it:Array Keyed}(inj:∀i j,i<n->j<n->item i=item j->i=j)(O:Ord b n)(hn:2<=n)
  (hc:∀i j (Q:Bool->Shared->Prop),i<n->j<n->Q (b i j) s->wpAny (model prog w) A (keyLt' κ (item i).1 (item j).1) Q (λ_ _=>False) s) (hit:it.toList=(List.range n).map item) :
  wpAny (model prog w) A (sortRuns'.run (SortSt.mk' κ it #[] 7 none)) (λr s3=>s3=s/\∃p,md p n/\rA b p n/\arrOf r.2=p.map item/\failedOf r.2=none) E s:=by
 obtain⟨ρ,hρ⟩:=O.rank
 obtain⟨g,hg⟩:∃g:Keyed->Nat,∀i,i<n->g (item i)=i:=by
  classical
  refine⟨λz=>if h:∃i,i<n/\item i=z then h.choose else 0,λi hi=>?_⟩
  have h:∃k,k<n/\item k=item i:=⟨i,hi,rfl⟩
  dsimp only
  rw[dif_pos h]
  exact inj _ _ h.choose_spec.1 hi h.choose_spec.2
 have mem:∀z∈it,∃i,i<n/\z=item i:=λz hz=>by
  have Ma:z∈it.toList:=by simpa using hz
  rw[hit]at Ma
  obtain⟨i,hi,e⟩:=bH.mp Ma
  exact⟨i,my.mp hi,e.symm⟩
 have sz:it.size=n:=by rw[<-dF,hit];simp
 have C:M7 prog w A s κ (λz=>ρ (g z)) it:=λx y Q hx hy hq=>by
  obtain⟨i,hi,rfl⟩:=mem x hx
  obtain⟨j,hj,rfl⟩:=mem y hy
  refine hc i j Q hi hj ?_
  have e:b i j=decide (ρ (g (item i))<ρ (g (item j))):=by
   rw[iZ,g8,hg i hi,hg j hj];exact hρ i j hi hj
  rw[e];exact hq
 have run:=Wu (E:=E) (st:=SortSt.mk' κ it #[] 7 none) (Q:=λ_ bu=>∃p,md p n/\rA b p n/\arrOf bu=p.map item/\failedOf bu=none) C ⟨zj _,rfl,rfl⟩ rfl (by rw[sz];exact hn) λbu B sg=>?_
 ·exact run
 have hl:(arrOf bu).toList.Perm ((List.range n).map item):=by rw[<-hit];exact vj.mp B.perm
 have hb:(arrOf bu).toList.map (λz=>item (g z))=(arrOf bu).toList:=by
  have:∀z∈(arrOf bu).toList,item (g z)=z:=λz hz=>by
   obtain⟨i,hi,rfl⟩:=mem z (B.mem (by simpa using hz))
   rw[hg i hi]
  rw[tR this,List.map_id']
 have hp:((arrOf bu).toList.map g).Perm (List.range n):=by
  have:=hl.map g
  rw[iG]at this
  have e:(List.range n).map (g ∘ item)=List.range n:=by
   have:=tR (l:=List.range n) (f:=g ∘ item) (g:=id) λi hi=>hg i (my.mp hi)
   rw[this,vn]
  rwa [e]at this
 refine⟨((arrOf bu).map g),⟨vj.mpr (by rw[pE,tS];exact hp)⟩,λi hi=>?_,?_,B.ok⟩
 ·have hs':(arrOf bu).size=n:=by rw[B.size,sz]
  have P:md ((arrOf bu).map g) n:=⟨vj.mpr (by rw[pE,tS];exact hp)⟩
  have a1:=P.lt (by lia) i
  have a2:=P.lt (by lia) (i+1)
  have at_:∀k,k<n->Rk (λz=>ρ (g z)) (arrOf bu) k=ρ (gA ((arrOf bu).map g) k):=λk hk=>by
   rw[Rk.eq (by lia)]
   unfold gA
   rw[qq,Array.getElem?_map,g9 (by lia)]
   rfl
  have h1:=sg i (i+1) (by lia) (by lia) (by lia)
  rw[at_ i (by lia),at_ (i+1) hi]at h1
  rcases O.tot _ _ a1 a2 (P.ne (by lia) hi (by lia)) with e | e
  ·exact e
  ·have:=(hρ _ _ a2 a1).mp e
   lia
 ·apply Array.ext'
  rw[pE,pE,iG]
  exact hb.symm
end
end L2
end
section
namespace L2
open PySem PySem.Spec PySem.W PyProof.Rows Builtin
def ZP(x y:List Int):Bool:=decide (x.length<y.length)||(decide (x.length=y.length)&&HT.lexLt x y)
section
variable {P:Program}{w:World}{A:Around}{E:Value->Shared->Prop}{s:Shared}
end
section
variable {P:Program}{w:World}{H H1:Hp}{h h1 h2:Heap}{e a:Addr}{o:HO}{fs:List Addr}
theorem J5(x:ju P w H h)(hn:H e=none)(k:∀b u,b≠e->h.get? b=some u->h2.get? b=some u):ju P w H h2:=λa o ea=>
 (x a o ea).stay (λb u hb q=>k b u (λz=>by
  subst z
  rcases hb with rfl | hb
  ·rw[hn]at ea;cases ea
  ·rw[hn]at hb;cases hb) q) (λ_ q=>q) λ_ _ q=>q
theorem Nz(u:Un fs [] H H1 h h1)(he:h.objs.size<=e)(k:∀b u,b≠e->h1.get? b=some u->h2.get? b=some u):Un fs [] H H1 h h2:=
 have ne:∀b ob,h.get? b=some ob->b≠e:=λb ob q=>bK (dS (aS q) he)
 ⟨λb ob q n hb hx=>k _ _ (ne b ob q) (u.keep b ob q n hb hx),λb ob q n hb hx=>let ⟨sl,r⟩:=u.slot b ob q n hb hx;⟨sl,k _ _ (ne b ob q) r⟩,u.free,λb ob q hx=>let ⟨o',r⟩:=u.there b ob q hx;⟨o',k _ _ (ne b ob q) r⟩,u.tups,u.frzs,u.tbls⟩
theorem Uk(x:ju P w H h)(hn:H a=none)(new:dj P w (upd H a o) h a o):ju P w (upd H a o) h:=λb u eb=>by
 by_cases hb:b=a
 ·subst hb;rw[ag]at eb;cases eb;exact new
 ·rw[au hb]at eb
  exact(x b u eb).stay (λ_ _ _ q=>q) (λc q=>by rw[au (ay q hn)];exact q) λc xs q=>by rw[au (ay q hn)];exact q
theorem Wd(u:Un fs [] H H1 h h1)(ha:h.objs.size<=a)(hn:H a=none):Un fs [] H (upd H1 a o) h h1:=
 have ne:∀b ob,h.get? b=some ob->b≠a:=λb ob q=>bK (dS (aS q) ha)
 ⟨u.keep,u.slot,λb ob q n hx=>by rw[au (ne b ob q)];exact u.free b ob q n hx,u.there,λb xs q=>by rw[au (ay q hn)];exact u.tups b xs q,λb ob xs q=>by rw[au (ay q hn)];exact u.frzs b ob xs q,λb ps q=>by rw[au (ay q hn)];exact u.tbls b ps q⟩
end
def yc:Sp:=λvs H Q _=>∃a,vs=[.ref a]/\∃xs,H a=some (.tup xs)/\∀p,H p=none->Q (.ref p) (upd H p (.tup [.int xs.length,.ref a]))
section
variable {X:Cx}{pins:List (Addr×Obj)}{σ:St}{H:Hp}{s:Shared}
structure Nh(X:Cx)(H:Hp)(s:Shared)(D S:Addr)(e1:Nat)(H':Hp)(s':Shared)(kA:Array Value):Prop where
 os:s'.os=s.os
 bare:AllBare s'.gens
 un:Un (qg X.stack) [] H H' s.heap s'.heap
 bM:ju X.prog X.w H' s'.heap
 same:bf H H'
 nD:H' D=none
 nS:H' S=none
 oD:s'.heap.get? D=some (seqObj "list" #[] e1)
 oS:∃e,s'.heap.get? S=some (seqObj "list" kA e)
theorem Nh.call{D S:Addr}{e1:Nat}{H':Hp}{s':Shared}{kA:Array Value}(I:Inv X pins σ H s)(m:Nh X H s D S e1 H' s' kA)(hD:s.heap.objs.size<=D)(hS:s.heap.objs.size<=S){k:Nat}{f:Addr}{fd:FuncData}{pm:Str}(F:cE X.prog X.w X.K X.mg X.base g6 k f fd [pm] yc)(hr:eF k X.A.in1.in1)
  (hb:Binds X.K fd [pm] []) {a:Addr} {xs:List V} (ha:H a=some (.tup xs)) {Q:Value->Shared->Prop} {E:Value->Shared->Prop}
  (q:∀p s2,H' p=none->Nh X H s D S e1 (upd H' p (.tup [.int xs.length,.ref a])) s2 kA->Q (.ref p) s2):wpAny (model X.prog X.w) X.A.in1.in1 (call (.ref f) [.ref a]) Q E s':=by
 have I':Inv X pins σ H' s':=I.call' (ch:=[]) m.os m.un m.bM m.bare (λb z=>absurd z (by simp))
 have nfD:∀b,s.heap.objs.size<=b->b∉qg X.stack:=λb hb z=>by
  rcases dR.mp (I.vW b z) with z | z
  ·exact absurd (dS I.lt hb) (by rw[z];exact j0 _)
  ·exact I.aAr hb z
 refine rB (px (F.run X.A.in1.in1 X.stack s' H' ⟨[.ref a],[]⟩ [.ref a] [.ref a] (λv H2=>∃p,v=.ref p/\H' p=none/\H2=upd H' p (.tup [.int xs.length,.ref a])) (λ_ _ _=>False) hr I'.Yn.in1.in1 (hb s' [.ref a] I'.HF rfl) (.cons rfl .nil) ⟨a,rfl,xs,m.same _ _ ha,λp hp=>⟨p,rfl,hp,rfl⟩⟩) λr s2 hq=>?_)
 cases r with
 | error e=>exact False.elim hq
 | ok fl=>
  cases fl with
  | next=>exact False.elim hq
  | brk=>exact False.elim hq
  | cont=>exact False.elim hq
  | ret u=>
   refine hide λgG hG=>?_
   obtain⟨v,H2,os,bare,un,bM,rv,p,rfl,hp,rfl⟩:=hq
   refine hG ?_
   cases rv
   obtain⟨eS,oS⟩:=m.oS
   exact q p s2 hp ⟨os.trans m.os,bare,m.un.trans un,bM,m.same.trans λb u eb=>by rw[au (ay eb hp)];exact eb,un.free D _ m.oD m.nD (by simp),un.free S _ oS m.nS (by simp),un.keep D _ m.oD m.nD (nfD D hD) (by simp),eS,un.keep S _ oS m.nS (nfD S hS) (by simp)⟩
theorem Nh.push{D S:Addr}{e1:Nat}{H':Hp}{s':Shared}{kA:Array Value}(m:Nh X H s D S e1 H' s' kA)(hS:s.heap.objs.size<=S)(RQ:D≠S)(g:Array Value->Array Value):Nh X H s D S e1 H' { s' with heap:=s'.heap.update S (Obj.mapSeq g) } (g kA):=by
 obtain⟨eS,oS⟩:=m.oS
 have sb:=tQ s'.heap S (Obj.mapSeq g)
 have k:∀b u,b≠S->s'.heap.get? b=some u->(s'.heap.update S (Obj.mapSeq g)).get? b=some u:=λb u nb q=>(sb.2 b nb).trans q
 exact⟨m.os,m.bare,Nz m.un hS k,J5 m.bM m.nS k,m.same,m.nD,m.nS,k _ _ RQ m.oD,_,get?_update_seq oS g⟩
end
section
variable {P:Program}{w:World}{H':Hp}{h:Heap}{p a:Addr}
theorem JS{l:Int}(bM:ju P w H' h)(e:H' p=some (.tup [.int l,.ref a])):∃t,IsTup h p #[.int l t,.ref a]:=by
 refine hide λgG hG=>?_
 obtain⟨_,its,r,ht⟩:=bM p _ e
 refine hG ?_
 cases r with
 | cons r1 r2=>
  obtain⟨t,rfl⟩:=r1
  cases r2 with
  | cons r3 r4=>
   cases r4
   cases r3
   exact⟨t,ht⟩
end
section
variable {X:Cx}{pins:List (Addr×Obj)}{σ:St}{H:Hp}{s:Shared}
structure Fin(X:Cx)(H:Hp)(s:Shared)(D:Addr)(H':Hp)(s':Shared)(bs:List Addr):Prop where
 os:s'.os=s.os
 bare:AllBare s'.gens
 un:Un (qg X.stack) [] H H' s.heap s'.heap
 bM:ju X.prog X.w H' s'.heap
 same:bf H H'
 nD:H' D=none
 oD:∃c,s'.heap.get? D=some (seqObj "list" (bs.map Value.ref).toArray c)
theorem ye{D S:Addr}{e1:Nat}{H':Hp}{s':Shared}{kA:Array Value}{bs:List Addr}{st:SortSt}{Pq:PySem.Fin->Shared->Prop}{E:Value->Shared->Prop}(m:Nh X H s D S e1 H' s' kA)(hD:s.heap.objs.size<=D)(hS:s.heap.objs.size<=S)(RQ:D≠S)(hk:kA.size<=100000)(hb:bs.length<=100000)
  (Qq:(arrOf st).map (·.2)=(bs.map Value.ref).toArray) (hf:failedOf st=none) (q:∀s2,Fin X H s D H' s2 bs->Pq (.done (.ret .none)) s2):wpAny (model X.prog X.w) X.A.in1.in1 (ksk_tail D false e1 (.ref S) st) Pq E s':=by
 obtain⟨eS,oS⟩:=m.oS
 have m1:=m.push hS RQ (λ_=>#[])
 have sb:=tQ (s'.heap.update S (Obj.mapSeq λ_=>(#[]:Array Value))) D (Obj.mapSeq λ_=>(bs.map Value.ref).toArray)
 have k:∀b u,b≠D->(s'.heap.update S (Obj.mapSeq λ_=>(#[]:Array Value))).get? b=some u->((s'.heap.update S (Obj.mapSeq λ_=>(#[]:Array Value))).update D (Obj.mapSeq λ_=>(bs.map Value.ref).toArray)).get? b=some u:=λb u nb q=>(sb.2 b nb).trans q
 unfold ksk_tail
 dsimp only
 refine az (pk (xs:=kA) oS rfl ?_ (kM (by lia)) (dG _))
 refine az (wpAny_letGo ?_)
 refine az (seqEpoch_at m1.oD rfl ?_)
 rw[Qq]
 refine az (pk m1.oD rfl ?_ (dG _) (by
  have z:((bs.map Value.ref).toArray).size<=sizeLine:=by rw[cZ,aM];exact kM (by lia)
  first | exact z | exact vB z))
 rw[hf]
 simp only[Gf,fB,bU]
 exact aK (q _ ⟨m1.os,m1.bare,Nz m1.un hD k,J5 m1.bM m1.nD k,m1.same,m1.nD,_,get?_update_seq m1.oD λ_=>(bs.map Value.ref).toArray⟩)
theorem wF{h:Heap}:∀{l:List Value},(∀v∈l,∃p a,∃k:Int,∃t,v=.ref p/\IsTup h p #[.int k t,.ref a])->∃fs,KatTups h l fs/\fs.length=l.length/\∀f∈fs,∃(k:Int) (t:Tok),f=.int k t
 | [],_=>⟨[],.nil,rfl,λ_ z=>nomatch z⟩
 | v::l,hv=>by
  refine hide λgG hG=>?_
  obtain⟨p,a,k,t,rfl,o,e,c,n,d⟩:=hv v di
  obtain⟨fs,r1,r2,r3⟩:=wF (l:=l) λu hu=>hv u (fw _ hu)
  refine hG ?_
  exact⟨.int k t::fs,.cons e c d rfl r1,by rw[gb,gb,r2],λf hf=>by
   rcases dR.mp hf with rfl | hf
   ·exact⟨k,t,rfl⟩
   ·exact r3 f hf⟩
theorem getD_some{α:Type}{l:List α}{i:Nat}{x d:α}(h:l[i]?=some x):l.getD i d=x:=by rw[gi,h];rfl
end
theorem Ci:∀l:List Addr,Vals (List.map V.ref l) (List.map Value.ref l)
 | []=>.nil
 | a::l=>.cons rfl (Ci l)
section
variable {X:Cx}{pins:List (Addr×Obj)}{σ:St}{H:Hp}{s:Shared}
end
def o7(h:Heap)(d:Addr)(es:Array DictEntry)(ep:Nat):Prop:=∃o,h.get? d=some o/\o.ExactDict/\o.data=.dict es ep
section
variable {P:Program}{w:World}{A:Around}{E:Value->Shared->Prop}{s:Shared}{d it:Addr}{es:Array DictEntry}{ep i:Nat}
theorem o7.ty(r:o7 s.heap d es ep):s.TypeIs (.ref d) "dict":=let ⟨o,e,c,_⟩:=r;⟨o,e,c.1⟩
theorem o7.on{h h':Heap}(r:o7 h d es ep)(k:∀o,h.get? d=some o->h'.get? d=some o):o7 h' d es ep:=let ⟨o,e,c⟩:=r;⟨o,k _ e,c⟩
theorem CT{Q:Value->Shared->Prop}(lo:(d==sysModules)=false)(r:o7 s.heap d es ep)(q:Q (.ref s.heap.objs.size) { s with heap:=s.heap.push { cls:=.type "dict_keyiterator",data:=.fields #[.ref d,.int 0 0,.int es.size 0,.int ep 0] } }) :
  wpAny (model P w) A (pyIter (.ref d)) Q E s:=by
 have ty:=r.ty
 refine hide λgG hG=>?_
 obtain⟨o,ho,hc,Ur⟩:=r
 refine hG ?_
 refine wpAny_pyIter_slot ty PySem.F.slot_dict_iter (lL PySem.F.slot_dict_iter ty PySem.F.entry_dict_iter ?_ (PySem.F.args_dict_iter_1 _))
 unfold Builtin.«dict.__iter__»
 refine az ?_
 unfold Builtin.Dict.dictSlotNone
 refine az (wpAny_notOrdered_dict ty (aK ?_))
 refine(?_:wpAny (model P w) _ (Builtin.Dict.showsAll d >>= _) _ _ s)
 unfold Builtin.Dict.showsAll
 rw[aA (λz=>by rw[lo]at z;cases z)]
 refine az (aK (az (wpAny_dictEntries ho Ur (az (wpAny_dictEpoch ho Ur ?_)))))
 refine az (iH (aK ⟨_,rfl,"dict_keyiterator",_,⟨_,dD _ rfl,rfl⟩,Ce.lookup,?_⟩))
 exact q
theorem CV{Q:Option Value->Shared->Prop}(ki:s.heap.IsKeyIter it d i es.size ep)(r:o7 s.heap d es ep)(hi:i<es.size)
  (q:∀h',h'.IsKeyIter it d (i+1) es.size ep->Heap.SameBut it s.heap h'->Q (some es[i].key) { s with heap:=h' }):wpAny (model P w) A (pyNext (.ref it)) Q E s:=by
 refine hide λgG hG=>?_
 obtain⟨o,ho,hc,hd⟩:=id ki
 obtain⟨od,hod,_,hdd⟩:=id r
 refine hG ?_
 have ty:=ki.typeIs
 unfold pyNext
 refine az (rE (vH (name:=Str.ofString "__next__") ty Ce (lL Ce ty Nq ?_ (Nr _))))
 refine az (aK (az (az ?_)))
 first | refine az (zL ty (aK (az (rH ho hd ?_)))) | refine az (zH ty (aK (az (rH ho hd ?_))))
 rw[show Builtin.Dict_items.ownsTuple "dict_keyiterator" = false by decide]
 simp only[fB,bU]
 refine(?_:wpAny (model P w) _ (if (Value.ref d==Value.none)=true then _ else _) _ _ s)
 rw[aA (λz=>by cases z)]
 refine az (aK (az (wpAny_dictEntries hod hdd ?_)))
 rw[aA (by simp)]
 refine az (aK (az (wpAny_dictEpoch hod hdd ?_)))
 rw[aA (by simp)]
 refine aK ?_
 simp only[show ¬((i:Int)<0) from by omega,bU,sd,g9 hi]
 refine az ?_
 first | refine az (zL ty (aK (az (Gm ty ?_)))) | refine az (zH ty (aK (az (Gm ty ?_))))
 refine(?_:wpAny (model P w) _ (setField (.ref it) 1 (rawInt ((i:Int)+1)) >>= _) _ _ s)
 refine az (vw ho hd (by simp) ?_)
 have ki':(s.heap.update it (Obj.mapFields (·.setIfInBounds 1 (rawInt ((i:Int)+1))))).IsKeyIter it d (i+1) es.size ep:=by
  refine⟨_,oV _ ho (Gk (vz hd _)),(Obj.cls_mapFields ..).trans hc,?_⟩
  rw[vz hd]
  simp[rawInt]
 refine az (iY (az (Gm (s:={ s with heap:=s.heap.update it (Obj.mapFields (·.setIfInBounds 1 (rawInt ((i:Int)+1)))) }) ki'.typeIs ?_)))
 exact aK (aK ⟨_,rfl,aK (q _ ki' (tQ ..))⟩)
theorem Jt{Q:Option Value->Shared->Prop}(hh:A.handled=none)(ki:s.heap.IsKeyIter it d i es.size ep)(r:o7 s.heap d es ep)(hi:es.size<=i)
  (q:∀h',Heap.ExtBut it s.heap h'->Q none { s with heap:=h' }):wpAny (model P w) A (pyNext (.ref it)) Q E s:=by
 refine hide λgG hG=>?_
 obtain⟨o,ho,hc,hd⟩:=id ki
 obtain⟨od,hod,_,hdd⟩:=id r
 refine hG ?_
 have ty:=ki.typeIs
 unfold pyNext
 refine az (rE (vH (name:=Str.ofString "__next__") ty Ce (lL Ce ty Nq ?_ (Nr _))))
 refine az (aK (az (az ?_)))
 first | refine az (zL ty (aK (az (rH ho hd ?_)))) | refine az (zH ty (aK (az (rH ho hd ?_))))
 rw[show Builtin.Dict_items.ownsTuple "dict_keyiterator" = false by decide]
 simp only[fB,bU]
 refine(?_:wpAny (model P w) _ (if (Value.ref d==Value.none)=true then _ else _) _ _ s)
 rw[aA (λz=>by cases z)]
 refine az (aK (az (wpAny_dictEntries hod hdd ?_)))
 rw[aA (by simp)]
 refine az (aK (az (wpAny_dictEpoch hod hdd ?_)))
 rw[aA (by simp)]
 refine aK ?_
 simp only[show ¬((i:Int)<0) from by omega,bU,sd,Array.getElem?_eq_none hi]
 refine az ?_
 first | refine az (zL ty (aK ?_)) | refine az (zH ty (aK ?_))
 refine(?_:wpAny (model P w) _ (setField (.ref it) 0 .none >>= _) _ _ s)
 refine az (vw ho hd (by simp) ?_)
 refine(?_:wpAny (model P w) _ (newExc (.type "StopIteration") [] >>= _) _ _ _)
 refine az ?_
 simp only[newExc,newTuple]
 refine az (iH ?_ (by size_fits))
 refine az (m:=firstArgMember _ _) (vk (a:=Value.none)
  (by first | rfl | (simp only[firstArgMember];rfl)) ?_)
 refine iH ?_ (by size_fits)
 simp only[raiseNew]
 refine az (wpAny_handled ?_)
 rw[show A.in1.handled=none from hh]
 refine az (aK (wpAny_throw ?_))
 refine az (rN (T:="StopIteration") (b:=true)
  ⟨_,dD _ rfl,rfl⟩ isSubtype_stop ?_)
 exact aK (q _ (((tQ ..).extBut.push _).push _))
theorem K5(hh:A.handled=none)(ne:d≠it):Walks P w A it [it,d] [it] es.size (λj v=>(es[j]?.map λe=>e.key)=some v) (λj h=>h.IsKeyIter it d j es.size ep/\o7 h d es ep) where
 sub:=λb hb=>by simp at hb;simp[hb]
 frame:=λ_ _ _ st hk=>⟨st.1.at λo e=>hk it (by simp) o e,st.2.on λo e=>hk d (by simp) o e⟩
 item:=λj s Q E hj st hQ=>CV st.1 st.2 hj λh' k1 k2=>by
  refine hQ _ h' s.toks (by rw[g9 hj];rfl) ⟨k1,st.2.on λo e=>k2.extBut d o ne e⟩ λb o hb e=>?_
  exact k2.extBut b o (λz=>hb (by simp[z])) e
 done:=λs Q E st hQ=>Jt hh st.1 st.2 (aU _) λh' k=>by
  refine hQ h' s.toks λb o hb e=>?_
  exact k b o (λz=>hb (by simp[z])) e
 self:=λ_ _ _ _ st hQ=>wpAny_pyIter_keyiter st.1 hQ
theorem Sr(lo:(d==sysModules)=false):KdlSrc P w "dict" d d es.size (λj v=>(es[j]?.map λe=>e.key)=some v) (λh=>o7 h d es ep) where
 type:=λ_ r=>r.ty
 there:=λ_ ⟨_,e,_⟩=>⟨aS e,aS e⟩
 keep:=λ_ _ r hk=>r.on λo e=>hk d (.inl rfl) o e
 notList:=by decide
 notTuple:=by decide
 hint:=λ_ _ _ _ r hq=>kdl_hint_dict r.ty hq
 iter:=λ_ s hh r=>⟨_,_,(λ_ _ hq=>CT lo r hq),K5 hh (by obtain⟨_,e,_⟩:=r;exact bK (aS e)),⟨⟨_,dD _ rfl,rfl,rfl⟩,r.on λo e=>cF _ e⟩⟩
end
def By(H:Hp)(bs:List Addr)(ts:List (List Int)):Prop:=bs.length=ts.length/\∀(i:Nat) b t,bs[i]?=some b->ts[i]?=some t->H b=some (.tup (List.map V.int t))
def WD(x:V)(H:Hp)(Q:VK):Prop:=∃d,x=.ref d/\∃kvs ss,H d=some (.dT kvs)/\kvs.map (·.1)=ss.map (List.map Sum.inl)/\ss.length<100000/\
 ∀D H' bs ts,bf H H'->H D=none->H' D=some (.lst (List.map V.ref bs))->By H' bs ts->ts.Perm ss->ts.Pairwise (λa b=>ZP a b=true)->Q (.ref D) H'
def zQ(te:TE):TE:=λσ H Q=>te σ H λx H1=>WD x H1 Q
theorem S8{α:Type}{l:List α}{p:Array Nat}{d:α}(hp:md p l.length):(p.toList.map λi=>l.getD i d).Perm l:=by
 have h1:p.toList.Perm (List.range l.length):=by simpa using vj.mp hp.perm
 have h2:=h1.map λi=>l.getD i d
 have e:(List.range l.length).map (λi=>l.getD i d)=l:=by
  apply ql
  intro i
  rw[cR]
  by_cases hi:i<l.length
  ·rw[List.getElem?_range hi,bD hi]
   simp[gi,bD hi]
  ·rw[jE (by simpa using hi),jE (by lia)]
   rfl
 rwa [e]at h2
section
variable {X:Cx}{k:Nat}{f:Addr}{fd:FuncData}{pm g:Str}{e:Expr}{te:TE}{p kp kpos pos:Pos}
theorem Pa(hg:Gl X g)(hm:X.mg g=some (.ref f))(Bq:(g==("__debug__" : Str))=false):PE X (.Name g kp) (tC (.ref f)):=λpins s σ H Q I h=>uZ I hg hm ⟨.ref f,H,I,rfl,h⟩ Bq
end
section
variable {X:Cx}
def wa:List V->Hp->VK->Prop:=λvs H Q=>∃a,vs=[.ref a]/\∃bs:List Bool,H a=some (.lst (bs.map V.bl))/\Q (.bl (bs.any id)) H
theorem MK:∀{bs:List Bool} {us:List Value},Vals (bs.map V.bl) us->∀(i:Nat) (v:Value),us[i]?=some v->v=.bool (bs.getD i false):=by
 intro bs
 induction bs with
 | nil=>intro us r i v h;cases r;cases i <;> cases h
 | cons b bs ih=>
  intro us r i v h
  rw[eI]at r
  cases r with
  | cons r1 r2=>
   cases r1
   cases i with
   | zero=>cases h;rfl
   | succ i=>exact ih r2 i v (by simpa using h)
theorem any_range:∀(bs:List Bool),((List.range bs.length).any λi=>bs.getD i false)=bs.any id
 | []=>rfl
 | b::bs=>by
  rw[gb,List.range_succ_eq_map,pB,List.any_map,pB,<-any_range bs]
  rfl
theorem yO(hh:X.A.handled=none):dy X (.builtin "any") wa:=by
 intro pins s σ H vs us Q I rv h
 obtain⟨a,rfl,bs,hq,q⟩:=h
 obtain⟨u,rfl,ru⟩:=vals1 rv
 cases ru
 obtain⟨its,r,pl,hz⟩:=I.list (aP hq)
 have hl:=r.length
 rw[aM]at hl
 have lt:a<s.heap.objs.size:=let ⟨_,e,_⟩:=pl.isList;aS e
 refine call_any_walk (zr pl.isList ⟨s.heap.objs.size,_,_,its.toArray.size,_,_,λi=>bs.getD i false,rfl,Walks.list (A:=X.A.in1) hh _ a (bK lt) its.toArray,⟨⟨_,dD _ rfl,rfl,rfl⟩,(pl.isList).push _⟩,?_,λh' tk mv=>?_⟩)
 ·intro i v s1 Q1 E1 hv hq1
  have:v=.bool (bs.getD i false):=MK r i v (by simpa using hv)
  subst this
  exact aK hq1
 ·rw[cZ,<-hl,any_range]
  have k:∀b o,s.heap.get? b=some o->h'.get? b=some o:=λb o e=>mv b o (λz=>absurd (aS e) (by rw[bR.mp z];exact j0 _)) (cF _ e)
  exact⟨.bl (bs.any id),H,I.un (t':=tk) (Un.kept k) (I.bM.kept k),rfl,q⟩
variable {k:Nat}{f:Addr}{fd:FuncData}{pm g:Str}{e:Expr}{te:TE}{p kp kpos pos:Pos}
def oH:V->List V->Hp->VK->Prop:=λx vs H Q=>∃l i y,x=.ref l/\vs=[.int i,y]/\∃xs,H l=some (.lst xs)/\0<=i/\i<=xs.length/\xs.length<100000/\Q .non (upd H l (.lst (xs.take i.toNat++y::xs.drop i.toNat)))
end
end L2
namespace L2
open PySem PySem.Spec PySem.W PyProof.Rows Builtin
end L2
end
section
namespace L2
open PySem PySem.Spec PyProof.Rows
def aFF(K:PySem.W.Frag)(a:Addr)(n:Nat):It:=
 ⟨λi H=>i<n/\∃xs,oQ K H a xs/\xs.length=n,λi H x H'=>H'=H/\∀xs,oQ K H a xs->xs[n-1-i]?=some x,λi _=>i=n⟩
section
variable {X:Cx}{tg:Expr}
def Ug(K:PySem.W.Frag)(ta:TA):TI:=λσ H R=>ta σ H λvs H1=>∃a,vs=[.ref a]/\∃xs,oQ K H1 a xs/\R (aFF K a xs.length) H1
end
section
variable {X:Cx}{pins:List (Addr×Obj)}{s:Shared}{σ:St}{H:Hp}{A:Around}
def Jx(neg:Bool):R2:=λx y H Q=>∃a b,x=.ref a/\y=.ref b/\∃u v:List Int,H a=some (.tup (List.map V.int u))/\H b=some (.tup (List.map V.int v))/\Q (.bl (if neg then !decide (u=v) else decide (u=v))) H
def Jy(neg:Bool):R2:=λx y H Q=>∃a b,x=.ref a/\y=.ref b/\∃ps qs cl dl,H a=some (.lst (List.map V.ref ps))/\H b=some (.lst (List.map V.ref qs))/\By H ps cl/\By H qs dl/\Q (.bl (if neg then !decide (cl=dl) else decide (cl=dl))) H
end
section
variable {X:Cx}{pins:List (Addr×Obj)}{σ:St}{H:Hp}{s:Shared}
end
section
variable {X:Cx}{elt target iter:Expr}{ifs:List Expr}{scope:Scope}{pos:Pos}{cs xs:List Str}{idx:List Nat}{wi:TI}{g:CB->TG}{tt:CB->TT}{te:CB->TE}
end
section
variable {X:Cx}{N:List Str}{jZ:Scope}{elt target iter:Expr}{ifs:List Expr}{scope:Scope}{pos:Pos}{wi:TI}{g:CB->TG}{tt:CB->TT}{te:CB->TE}
end
section
variable {prog:Program}{w:World}{A:Around}{E:Value->Shared->Prop}{s:Shared}
end
section
variable {X:Cx}
end
def Up(xs:Array Nat):Prop:=xs.toList.Pairwise (· < ·)
def aEp(p:Int×Tok):Int×Value:=(hashInt p.1,.int p.1 p.2)
structure aFD(w:World)(h:Heap)(a:Addr)(l:List (Int×Tok)):Prop where
 ex:∃es ep t,h.get? a=some (ia es ep t)/\es.toList=l.map (aEp)/\t.fits es.size=true/\t.led = !BX w/\Up t.place
 nd:(l.map (·.1)).Nodup
 sz:l.length<scanBound
section
variable {P:Program}{w:World}{A:Around}{E:Value->Shared->Prop}{s:Shared}{a:Addr}{l:List (Int×Tok)}
end
section
variable {P:Program}{w:World}{A:Around}{R:Result->Shared->Prop}{I:Addr}{fp wr:List Addr}{G:Array GenState->Array GenState->Prop}{n:Nat}{Pv:Nat->Value->Prop}{St:Nat->Shared->Prop}
end
section
variable {P:Program}{w:World}{A:Around}{E:Value->Shared->Prop}{s:Shared}
end
section
variable {P:Program}{w:World}{A:Around}{E:Value->Shared->Prop}{s:Shared}{a:Addr}{l:List (Int×Tok)}
end
section
variable {P:Program}{w:World}{A:Around}{E:Value->Shared->Prop}{s:Shared}{a:Addr}{es:Array (Int×Value)}{t:SetTable}{ep slot i:Nat}
end
section
variable {P:Program}{w:World}{A:Around}{E:Value->Shared->Prop}{s:Shared}{a:Addr}{l:List (Int×Tok)}
end
def InS(w:World)(p:Addr)(ss:List Int):HO:=.ext λh=>∃l,aFD w h p l/\∀z,z∈l.map (·.1)↔z∈ss
section
variable {X:Cx}
def Jv(w:World):List V->Hp->VK->Prop:=λvs H Q=>∃a,vs=[.ref a]/\∃ss:List Int,H a=some (.lst (ss.map V.int))/\ss.length<4000/\∀p,H p=none->Q (.ref p) (upd H p (InS w p ss))
def oI(w:World):List V->Hp->VK->Prop:=λvs H Q=>∃a,vs=[.ref a]/\∃ss:List Int,H a=some (InS w a ss)/\ss.length<64/\
 ∀ss':List Int,(∀z,z∈ss'↔z∈ss)->ss'.Pairwise (· < ·)->∀p,H p=none->Q (.ref p) (upd H p (.lst (ss'.map V.int)))
end
end L2
end
section
namespace HT
open PySem PyProof.Rows L2
section
variable {prog:Program}{w:World}{A:Around}{E:Value->Shared->Prop}{s:Shared}
end
end HT
namespace L2
open PySem PySem.Spec PyProof.Rows
section
variable {X:Cx}
def Ju:V->Option Int->Option Int->Hp->VK->Prop:=λx lo hi H Q=>∃a,x=.ref a/\∃xs,H a=some (.tup xs)/\
 ((HT.cK xs.length 0 lo=0/\HT.cK xs.length xs.length hi=xs.length)->Q (.ref a) H)/\(¬(HT.cK xs.length 0 lo=0/\HT.cK xs.length xs.length hi=xs.length)->∀p,H p=none->Q (.ref p) (upd H p (.tup (jy xs lo hi))))
end
section
variable {X:Cx}{pins:List (Addr×Obj)}{s:Shared}{σ:St}{H:Hp}
def Sy(neg:Bool):R2:=λx y H Q=>∃a L,x=.ref a/\y=.ref L/\∃u bs ts,H a=some (.tup (List.map V.int u))/\H L=some (.lst (List.map V.ref bs))/\By H bs ts/\Q (.bl (if neg then !decide (u∈ts) else decide (u∈ts))) H
end
end L2
end
section
namespace L2
open PySem
end L2
end
section
namespace L2
open PySem PySem.Spec PyProof.Rows
section
variable {P:Program}{w:World}{A:Around}{E:Value->Shared->Prop}{s:Shared}
end
section
variable {X:Cx}
def Ah(w:World):List V->Hp->VK->Prop:=λvs H Q=>∃a,vs=[.ref a]/\∃ss:List Int,H a=some (.tup (ss.map V.int))/\ss.length<4000/\∀p,H p=none->Q (.ref p) (upd H p (InS w p ss))
end
section
variable {P:Program}{w:World}{κ:Type} [DecidableEq κ] {knd:PySem.KeyKind P w κ} {A:Around} {E:Value->Shared->Prop} {s:Shared} {a b:Addr} {kvs Qj:List (κ×Value)}
end
section
variable {X:Cx}
def Jz(neg:Bool):R2:=λx y H Q=>∃a b,x=.ref a/\y=.ref b/\∃kvs Qj,H a=some (.dK kvs)/\H b=some (.dK Qj)/\kvs.length=Qj.length/\
 (∀k v,(k,v)∈kvs->∃p q t,v=.ref p/\(k,V.ref q)∈Qj/\H p=some (.tup (List.map V.int t))/\H q=some (.tup (List.map V.int t)))/\Q (.bl (!neg)) H
end
section
variable {X:Cx}{pins:List (Addr×Obj)}{σ:St}{H:Hp}{s:Shared}{d:Addr}{o:Obj}{kvs:List (Key×V)}
theorem Qr{P:Program}{w:World}{h:Heap}{u u':HO}(hk:ju P w H h)(hd:H d=some u)(n1:∀y,u≠.own y)(n2:∀xs,u≠.tup xs)(hn:∀H',(∀b y,H b=some (.own y)->H' b=some (.own y))->(∀b xs,H b=some (.tup xs)->H' b=some (.tup xs))->dj P w H' h d u') :
  ju P w (upd H d u') h:=by
 have a1:∀b y,H b=some (.own y)->upd H d u' b=some (.own y):=λb y e=>by rw[au (fE hd e (n1 y)).symm];exact e
 have a2:∀b xs,H b=some (.tup xs)->upd H d u' b=some (.tup xs):=λb xs e=>by rw[au (fE hd e (n2 xs)).symm];exact e
 intro b z q
 by_cases hb:b=d
 ·subst hb;rw[ag]at q;cases q;exact hn _ a1 a2
 ·rw[au hb]at q
  exact(hk b z q).stay (λ_ _ _ q=>q) (λc q=>a1 c _ q) a2
end
def Itd(d:Addr)(o:Obj)(kvs:List (Key×V)):It:=
 ⟨λi H=>i<kvs.length/\H d=some (.m9 o (.dK kvs)),λi H x H'=>H'=H/\∃k v,kvs[i]?=some (k,v)/\x=kV k,λi H=>kvs.length<=i/\H d=some (.m9 o (.dK kvs))⟩
section
variable {X:Cx}{tg:Expr}
def JX(te:TE):TI:=λσ H R=>te σ H λv H1=>∃a kvs,v=.ref a/\H1 a=some (.dK kvs)/\∀o,R (Itd a o kvs) (upd H1 a (.m9 o (.dK kvs)))
def Jh(H0:Hp)(t:TS):TS:=λD σ H=>∃d o kvs,H d=some (.m9 o (.dK kvs))/\H0 d=none/\t D σ (upd H d (.dK kvs))
end
section
variable {X:Cx}
def Ag:V->List V->Hp->VK->Prop:=λx vs H Q=>∃a n d,x=.ref a/\vs=[.int n,d]/\∃kvs,H a=some (.dK kvs)/\Q ((cB kvs (Sum.inl n)).getD d) H
def qO:V->List V->Hp->VK->Prop:=λx vs H Q=>∃l b xs zs,x=.ref l/\vs=[.ref b]/\H l=some (.lst xs)/\H b=some (.tup zs)/\xs.length+zs.length<=sizeLine/\Q .non (upd H l (.lst (xs++zs)))
end
section
variable {X:Cx}{N:List Str}{sc:Scope}{pos:Pos}
end
section
variable {X:Cx}
end
end L2
end
section
namespace L2
structure Nx(P R:St->Hp->Prop):Prop where
 to:∀σ H,P σ H->R σ H
theorem cT{t u:TS}{D:Ends}{σ:St}{H:Hp}(h:∀R:St->Hp->Prop,Nx (u D) R->t { D with nx:=R } σ H):G6 t u D σ H:=h (u D) ⟨λ_ _ z=>z⟩
end L2
end
section
namespace L2
open PySem PySem.Spec PyProof.Rows
open PySem.W (Frag Looks)
abbrev Zx:List Value:=[.type "ValueError",.type "Exception",.type "BaseException",.type "object"]
def RZ(K:Frag)(n:Addr):Bool:=match K.lookup n with
 | some o=>(match o.data with | .dict es _=>es.toList.all λe=>(match e.key with | .str _ _=>true | _=>false) | _=>false)
 | none=>false
theorem Vf{K:Frag}{h:Heap}{n:Addr}(X:K.In h)(q:RZ K n=true):∃m,h.Ns n m:=by
 unfold RZ at q
 cases e:K.lookup n with
 | none=>rw[e]at q;cases q
 | some o=>
  rw[e]at q
  dsimp only at q
  cases d:o.data with
  | dict es ep=>
   rw[d]at q
   dsimp only at q
   refine⟨nsFind es,o,es,ep,X _ _ e,d,λx hx=>?_,λ_=>rfl⟩
   have:=jC.mp q x (Array.mem_toList_iff.mpr hx)
   cases k:x.key with
   | str y t=>exact⟨y,t,rfl⟩
   | _=>rw[k]at this;cases this
  | _=>rw[d]at q;cases q
def RX(K:Frag):List Value->Bool
 | .ref a::tl=>(match K.lookup a with
  | some o=>(match o.data with | .cls cd=>RZ K cd.ns&&(PySem.W.nsIn K cd.ns "__init__" == some none) | _=>false)
  | none=>false)&&RX K tl
 | l=>l==Zx
theorem Ve{K:Frag}{h:Heap}(X:K.In h):∀{l:List Value},RX K l=true->OwnTail h Zx l
 | .ref a::tl,q=>by
  simp only[RX,dh]at q
  obtain⟨q,r⟩:=q
  cases e:K.lookup a with
  | none=>rw[e]at q;cases q
  | some o=>
   rw[e]at q
   obtain⟨oc,od,da,sl⟩:=o
   cases da with
   | cls cd=>
    simp only[dh,beq_iff_eq]at q
    obtain⟨m,hm⟩:=Vf X q.1
    exact .own (X _ _ e) hm (PySem.W.ns_none_of X hm q.2) (Ve X r)
   | _=>cases q
 | [],q=>by cases eq_of_beq q
 | .type n::tl,q=>by rw[show Value.type n::tl=Zx from eq_of_beq q];exact .base
 | .none::tl,q=>by cases eq_of_beq q
 | .bool _::tl,q=>by cases eq_of_beq q
 | .int _ _::tl,q=>by cases eq_of_beq q
 | .str _ _::tl,q=>by cases eq_of_beq q
 | .builtin _::tl,q=>by cases eq_of_beq q
 | .float _ _::tl,q=>by cases eq_of_beq q
 | .bytes _ _::tl,q=>by cases eq_of_beq q
 | .ellipsis::tl,q=>by cases eq_of_beq q
 | .notImplemented::tl,q=>by cases eq_of_beq q
def vN(K:Frag)(C:Addr):Bool:=match K.lookup C with
 | some o=>o.cls == .type "type" && (match o.data with
  | .cls cd=>!cd.hasDel&&cd.hasDict&&RZ K cd.ns&&(match cd.mro with | v::tl=>v == .ref C&&RX K tl | []=>false) | _=>false)&&(match o.slots.toList with | [_,_,_,_,some v,_]=>v == .builtin "ValueError.__new__" | _=>false)
 | none=>false
theorem xU{K:Frag}{h:Heap}{C:Addr}(X:K.In h)(q:vN K C=true):∃nm qn N bs bm sn sub ab col dd k0 k1 k2 k3 k5 mN,h.get? C=some (excClassObj nm qn C N bs bm true sn sub ab col dd k0 k1 k2 k3 k5 "ValueError.__new__")/\h.Ns N mN/\OwnTail h Zx bm:=by
 unfold vN at q
 cases e:K.lookup C with
 | none=>rw[e]at q;cases q
 | some o=>
  rw[e]at q
  obtain⟨oc,od,da,sl⟩:=o
  simp only[dh,beq_iff_eq]at q
  obtain⟨⟨rfl,q1⟩,q2⟩:=q
  cases da with
  | cls cd=>
   obtain⟨nm,bs,mro,ns,qn,hd,sn,sub,ab,col,del⟩:=cd
   simp only[dh,zv]at q1
   obtain⟨⟨⟨rfl,rfl⟩,n1⟩,q1⟩:=q1
   cases mro with
   | nil=>cases q1
   | cons v tl=>
    simp only[dh,beq_iff_eq]at q1
    obtain⟨rfl,q1⟩:=q1
    obtain⟨l⟩:=sl
    match l,q2 with
    | [k0,k1,k2,k3,some v,k5],q2=>
     obtain⟨m,hm⟩:=Vf X n1
     have ev:v=.builtin "ValueError.__new__":=eq_of_beq q2
     subst ev
     exact⟨nm,qn,ns,bs,tl,sn,sub,ab,col,od,k0,k1,k2,k3,k5,m,X _ _ e,hm,Ve X q1⟩
  | _=>cases q1
section
variable {prog:Program}{w:World}{A:Around}{E:Value->Shared->Prop}{s:Shared}{K:Frag}{C fI:Addr}
theorem wY{rest:List Value}{Q:PySem.Fin->Shared->Prop}(X:K.In s.heap)(q:vN K C=true)(hi:PySem.W.findIn K (.ref C) "__init__" = some (some (.ref fI)))(hf:PySem.W.typeIn K (.ref fI)=some (.type "function"))
  (hq:∀h',Heap.MadeExcOf s.heap h' (s.heap.objs.size+1) (.ref C) rest->wpAny (model prog w) A (call (.ref fI) (.ref (s.heap.objs.size+1)::rest)) (λr s'=>r=.none/\Q (.done (.ret (.ref (s.heap.objs.size+1)))) s') E { s with heap:=h' }) (yB:rest.length<=sizeLine) :
  wpAny (model prog w) A (Builtin.«type.__call__» ⟨.ref C::rest,[]⟩) Q E s:=by
 obtain⟨nm,qn,N,bs,bm,sn,sub,ab,col,dd,k0,k1,k2,k3,k5,mN,hC,hN,T⟩:=xU X q
 obtain⟨h,g,d,t,os⟩:=s
 dsimp only at X hC hN T hq
 repeat (first | with_reducible refine zq hC ?_ | with_reducible refine wpAny_madeBy_exc hC ?_ | wp_step)
 have FF:=PySem.F.excBase_ValueError
 refine codeAny_call_builtin_code (Code.quiet_builtin _ FF.quiet) (wpAny_check_new_subU FF (by decide +kernel) T hC (codeAny_exc_new_subU FF (by decide +kernel) FF T hC ?_ yB))
 show wpAny _ _ _ _ _ _
 have kp:∀b o,h.get? b=some o->((h.push { cls:=.type "tuple",data:=.seq rest.toArray }).push { cls:=.ref C,data:=.fields #[.ref h.objs.size,.none,.none,.none,.bool false,.none] }).get? b=some o:=λb o e=>cF _ (cF _ e)
 have e1:((h.push { cls:=.type "tuple",data:=.seq rest.toArray }).push { cls:=.ref C,data:=.fields #[.ref h.objs.size,.none,.none,.none,.bool false,.none] }).get? (h.objs.size+1)=some { cls:=.ref C,data:=.fields #[.ref h.objs.size,.none,.none,.none,.bool false,.none] }:=by heap_get
 have mk:Heap.MadeExcOf h ((h.push { cls:=.type "tuple",data:=.seq rest.toArray }).push { cls:=.ref C,data:=.fields #[.ref h.objs.size,.none,.none,.none,.bool false,.none] }) (h.objs.size+1) (.ref C) rest:=⟨kp,sf (iX _),h.objs.size,e1,sf (aU _),cF _ (Heap.get?_push_at rfl rfl)⟩
 generalize ((h.push { cls:=.type "tuple",data:=.seq rest.toArray }).push { cls:=.ref C,data:=.fields #[.ref h.objs.size,.none,.none,.none,.bool false,.none] })=h2 at kp e1 mk ⊢
 have Zn:=kp _ _ hC
 have X2:K.In h2:=X.keeps kp
 have hcC:(Value.ref C::bm).contains (.ref C)=true:=by simp
 unfold isInstance
 repeat (first | with_reducible refine zq e1 ?_ | (with_reducible refine FT Zn ?_;rw[hcC]) | wp_step)
 show wpAny _ _ (typeLookup (.ref C) _) _ _ _
 refine(PySem.W.looks_findIn (M:=model prog w) (h:=h2) X2 hi) _ _ _ _ (λ_ _ e=>e) (iY (az ((PySem.W.bind_fn (M:=model prog w) (h:=h2) X2 (.ref (h.objs.size+1)) hf) _ _ _ _ (λ_ _ e=>e) ?_)))
 refine az (dq (hq h2 mk) (λr s' hr=>?_) λ_ _ z=>z)
 obtain⟨rfl,z⟩:=hr
 wp_walk
 exact z
theorem Ra{rest:List Value}{Q:Value->Shared->Prop}(X:K.In s.heap)(q:vN K C=true)(hi:PySem.W.findIn K (.ref C) "__init__" = some (some (.ref fI)))(hf:PySem.W.typeIn K (.ref fI)=some (.type "function"))
  (hq:∀h',Heap.MadeExcOf s.heap h' (s.heap.objs.size+1) (.ref C) rest->wpAny (model prog w) (A.under (.builtin "type.__call__" ⟨.ref C::rest,[]⟩)) (call (.ref fI) (.ref (s.heap.objs.size+1)::rest)) (λr s'=>r=.none/\Q (.ref (s.heap.objs.size+1)) s') E { s with heap:=h' }) (yB:rest.length<=sizeLine) :
  wpAny (model prog w) A (call (.ref C) rest) Q E s:=by
 obtain⟨nm,qn,N,bs,bm,sn,sub,ab,col,dd,k0,k1,k2,k3,k5,mN,hC,hN,T⟩:=xU X q
 obtain⟨h,g,d,t,os⟩:=s
 dsimp only at X hC hN T hq
 have f1:=tc_lookup
 have f2:=tc_bind (.ref C)
 have hT:(⟨h,g,d,t,os⟩:Shared).TypeIs (.ref C) "type":=⟨_,hC,rfl⟩
 refine rB (codeAny_of_tree (show wpAny _ _ (callAny (.ref C) _) _ _ _ from ?_))
 repeat (any_goals (first | assumption | with_reducible refine zq hC ?_ | wp_step))
 refine⟨rfl,codeAny_call_builtin_at (Code.quiet_builtin _ (by decide +kernel)) entry_typeCall (wpAny_check_type_call_sub hC (wY (s:=⟨h,g,d,t,os⟩) X q hi hf (λh' hm=>?_) yB))⟩
 exact hq h' hm
end
section
variable {prog:Program}{w:World}{A:Around}{E:Value->Shared->Prop}{s:Shared}{K:Frag}{C e:Addr}{oe:Obj}{vs:Array Value}
theorem MN{t0:Addr}{rest:List Value}{Q:Value->Shared->Prop}(X:K.In s.heap)(q:vN K C=true)(he:s.heap.get? e=some { cls:=.ref C,data:=.fields #[.ref t0,.none,.none,.none,.bool false,.none] })
  (hq:Q .none { s with heap:=(s.heap.push { cls:=.type "tuple",data:=.seq rest.toArray }).update e (Obj.mapFields (·.setIfInBounds 0 (Value.ref s.heap.objs.size))) }) (yB:rest.length<=sizeLine) :
  wpAny (model prog w) A (call (.builtin "ValueError.__init__") (.ref e::rest)) Q E s:=by
 obtain⟨nm,qn,N,bs,bm,sn,sub,ab,col,dd,k0,k1,k2,k3,k5,mN,hC,hN,T⟩:=xU X q
 have FF:=PySem.F.excBase_ValueError
 obtain⟨h,g,d,t,os⟩:=s
 dsimp only at X hC hN T hq he
 have Zb:(h.push { cls:=.type "tuple",data:=.seq rest.toArray }).get? e=some { cls:=.ref C,data:=.fields #[.ref t0,.none,.none,.none,.bool false,.none] }:=cF _ he
 refine rB (Gg FF.init.plain FF.initEntry (wpAny_check_init_subU FF T hC he rfl ?_))
 wp_walk
 exact hq
theorem CP(self:Value){h:Heap}{l:List Value}(T:OwnTail h Zx l):refuseLoop self "__setattr__" l=pure ():=by
 induction T with
 | base=>exact PySem.F.store_ValueError.passes self
 | own _ _ _ _ ih=>rw[refuseLoop_ref];exact ih
theorem Kw{name:Str}{tk:Tok}{v:Value}{R:Result->Shared->Prop}(X:K.In s.heap)(q:vN K C=true)(he:s.heap.get? e=some oe)(hc:oe.cls=.ref C)(ht:PySem.W.takerIn K C name=some none)
  (h:∀b,wpAny (model prog w) A.in1 (Builtin.ObjectAttr.storeInOwnDict (.ref e) (.ref C) (.str name tk) name v b) (λfin s'=>match fin with | .done f=>R (.ok f) s' | .again c'=>c'.quiet=true/\codeAny (model prog w) A c' R s') (λx s'=>R (.error x) s') s) :
  codeAny (model prog w) A (.call (.builtin "object.__setattr__") ⟨[.ref e,.str name tk,v],[]⟩) R s:=by
 obtain⟨nm,qn,N,bs,bm,sn,sub,ab,col,dd,k0,k1,k2,k3,k5,mN,hC,hN,T⟩:=xU X q
 have SF:=PySem.F.store_object
 have ty:Looks (model prog w) s.heap (typeOf (.ref e)) (.ref C):=hc ▸ (Looks.ld he).andThen .now
 have sub:Looks (model prog w) s.heap (isInstance (.ref e) (.type "object")) true:=ty.andThen (λA Q E s k z=>by
  obtain⟨h,g,d,t,os⟩:=s
  refine FT (k _ _ hC) ?_
  rw[List.contains_cons,T.hasType (X:="object") (b:=true) (by decide +kernel),Bool.or_true]
  exact z)
 refine Gg SF.slot.plain SF.entry (@PySem.W.check_slot (model prog w) _ _ s "object.__setattr__" "object" "__setattr__" (.ref e) [.str name tk,v] [] _ SF.kind SF.split sub (SF.args (.ref e) (.str name tk) v) ?_)
 obtain⟨attr,ha,hr⟩:=Option.bind_eq_some_iff.mp ht
 have hm:Looks (model prog w) s.heap (mroOf (.ref C)) (.ref C::bm):=λA Q E s k z=>by
  obtain⟨h,g,d,t,os⟩:=s
  exact wpAny_mroOf_exc (k _ _ hC) z
 have L3:Looks (model prog w) s.heap (Builtin.ObjectAttr.storeTaker? attr) none:=by
  cases attr with
  | none=>exact .now
  | some a=>
   obtain⟨b,hb,z⟩:=Option.map_eq_some_iff.mp hr
   cases b with
   | true=>cases z
   | false=>exact(PySem.W.looks_takesIn X hb).andThen .now
 rw[PySem.W.osa_eq,refuse_eq]
 refine az (az (ty.here (az (hm.here ?_))))
 rw[refuseLoop_ref,CP _ T]
 exact aK (az (ty.here (az ((PySem.W.looks_findIn X ha).here (az (L3.here (h _)))))))
theorem aBM{name:Str}{v:Value}{Q:Unit->Shared->Prop}(X:K.In s.heap)(q:vN K C=true)(he:s.heap.get? e=some oe)(hc:oe.cls=.ref C)(hd:oe.dict=none)(Y3:oe.data=.fields vs)
  (hs:PySem.W.findIn K (.ref C) "__setattr__" = some (some (.builtin "object.__setattr__"))) (ht:PySem.W.takerIn K C name=some none)
  (h:∀h' tk,h'.get? e=some { oe with dict:=some s.heap.objs.size }->h'.Ns1 s.heap.objs.size (λy=>if y=name then some v else none)->(∀b o,b≠e->s.heap.get? b=some o->h'.get? b=some o)->Q () { s with heap:=h',toks:=tk }) :
  wpAny (model prog w) A (setAttr (.ref e) name v) Q E s:=by
 obtain⟨oc,od,oda,Lf⟩:=oe
 dsimp only at hc hd Y3
 subst hc hd Y3
 have J:PySem.W.InstAt s.heap e ⟨.ref C,none,.fields vs,Lf⟩ C none:=⟨he,rfl,rfl,True.intro⟩
 refine PySem.W.set_plain X J hs (Kw (s:={ s with toks:=s.toks+1 }) X q he rfl ht λb=>?_)
 obtain⟨nm,qn,N,bs,bm,sn,sub,ab,col,dd,k0,k1,k2,k3,k5,mN,hC,hN,T⟩:=xU X q
 have Ig:Looks (model prog w) s.heap (classData C) _:=(Looks.ld (part:=none) hC).andThen .now
 refine az (aK (az (az (wpAny_loadPart he (az (Looks.here (s:={ s with toks:=s.toks+1 }) Ig ?_))))))
 rw[aA (by simp)]
 dsimp only
 rw[aA (by simp[typeHasDict])]
 have Zb:(s.heap.push { cls:=.type "dict",data:=.dict #[] }).get? e=some ⟨.ref C,none,.fields vs,Lf⟩:=cF _ he
 have rz:e≠s.heap.objs.size:=bK (aS he)
 refine az (wpAny_alloc' (az (wpAny_update' Zb ?_)))
 refine aK ?_
 have Uh:=oV (λo:Obj=>{ cls:=o.cls,dict:=some s.heap.objs.size,data:=o.data,slots:=o.slots }) Zb rfl
 have kp2:∀b o,b≠e->(s.heap.push { cls:=.type "dict",data:=.dict #[] }).get? b=some o->((s.heap.push { cls:=.type "dict",data:=.dict #[] }).update e λo=>{ cls:=o.cls,dict:=some s.heap.objs.size,data:=o.data,slots:=o.slots }).get? b=some o:=λb o hb z=>(Heap.get?_update_ne _ _ _ _ hb).trans z
 have hgd:=kp2 _ _ rz.symm (Heap.get?_push_at (h:=s.heap) (o:={ cls:=.type "dict",data:=.dict #[] }) rfl rfl)
 have kp3:∀b o,b≠e->s.heap.get? b=some o->((s.heap.push { cls:=.type "dict",data:=.dict #[] }).update e λo=>{ cls:=o.cls,dict:=some s.heap.objs.size,data:=o.data,slots:=o.slots }).get? b=some o:=λb o hb z=>kp2 b o hb (cF _ z)
 generalize ((s.heap.push { cls:=.type "dict",data:=.dict #[] }).update e λo=>{ cls:=o.cls,dict:=some s.heap.objs.size,data:=o.data,slots:=o.slots })=h2 at Uh hgd kp3 ⊢
 have hnd:h2.Ns s.heap.objs.size (λ_=>none):=⟨_,#[],_,hgd,rfl,λx hx=>absurd hx (by simp),λ_=>rfl⟩
 refine az (aK (az ?_))
 refine wpAny_nsSet1 (s:={ s with heap:=h2,toks:=s.toks+1 }) (Heap.Ns1.of_empty hnd) λh' Bo sb=>?_
 obtain⟨oD,esD,epD,hoD,hdD,hcD⟩:=Bo.count (Within.cons name v Within.nil)
 refine az (wpAny_lookBehind hoD (by rw[hdD];exact pastItsLine_dict (df hcD (by rw[gb,List.length_nil,kG];omega))) ?_)
 exact aK (h h' _ ((sb.2 _ rz).trans Uh) Bo λb o hb z=>(sb.2 b (bK (aS z))).trans (kp3 b o hb z))
end
abbrev Wa(C:Addr)(dx:Option Addr)(t:Addr):Obj:={ cls:=.ref C,dict:=dx,data:=.fields #[.ref t,.none,.none,.none,.bool false,.none] }
section
variable {M:Model}{A:Around}{E:Value->Shared->Prop}{s:Shared}{K:Frag}{C:Addr}{env:Env}
theorem V'{x:Sem Value}{Q:Flow->Shared->Prop}(q:vN K C=true)(hh:A.handled=none)(h:wpAny M A x (λv s₁=>∃e dx t,v=.ref e/\K.In s₁.heap/\s₁.heap.get? e=some (Wa C dx t)/\E (.ref e) s₁) E s) :
  wpAny M A (raiseStmt env (some x) none) Q E s:=by
 unfold raiseStmt
 refine az (dq h (λv s₁ h₁=>?_) λ_ _ z=>z)
 obtain⟨e,dx,t,rfl,X,he,hE⟩:=h₁
 obtain⟨nm,qn,N,bs,bm,sn,sub,ab,col,dd,k0,k1,k2,k3,k5,mN,hC,hN,T⟩:=xU X q
 have hb:(Value.ref C::bm).contains (.type "BaseException")=true:=by rw[List.contains_cons,T.hasType (X:="BaseException") (b:=true) (by decide +kernel),Bool.or_true]
 obtain⟨hp,g,d,tk,os⟩:=s₁
 dsimp only at hC he
 repeat (first | with_reducible refine zq he ?_ | (with_reducible refine FT hC ?_;rw[hb]) | wp_step)
 exact FV hh hE
end
def U9(N:Addr->Prop)(h:Heap)(e C:Addr)(dx:Option Addr):Prop:=N e/\∃vs sl,h.get? e=some ⟨.ref C,dx,.fields vs,sl⟩/\(vs[1]?=some .none\/∃T oT ts,N T/\T≠e/\vs[1]?=some (.ref T)/\h.get? T=some oT/\oT.data=.fields ts/\ts[3]?=some .none)
structure Lv(fs ch:List Addr)(h h':Heap):Prop where
 keep:∀b o,b∉fs->b∉ch->h.get? b=some o->h'.get? b=some o
 slot:∀b o,b∈fs->h.get? b=some o->∃sl,h'.get? b=some { o with slots:=sl }
section
variable {M:Model}{A:Around}{E:Value->Shared->Prop}{s:Shared}{env:Env}{outer:List Env}{base:Heap}{N:Addr->Prop}{e C L:Addr}{dx:Option Addr}
theorem Ny{oe:Obj}{vs:Array Value}{head:Value}{Us:Bool}{Q:Unit->Shared->Prop}(Y9:A.frames=some (env::outer))(hl:s.heap.FunFrames base (env::outer))(hf:env.frame=some L)
  (he:s.heap.get? e=some oe) (hd:oe.data=.fields vs) (hz:1<vs.size)
  (h:∀h' T oT ts,s.heap.objs.size<=T->T≠e->h'.get? e=some { oe with data:=.fields (vs.setIfInBounds 1 (.ref T)) }->h'.get? T=some oT->oT.data=.fields ts->ts[3]?=some (rawInt L)->
   (∀b o,b≠e->b∉qg (env::outer)->s.heap.get? b=some o->h'.get? b=some o)->(∀b o,b∈qg (env::outer)->s.heap.get? b=some o->∃sl,h'.get? b=some { o with slots:=sl })->h'.FunFrames base (env::outer)->Q () { s with heap:=h' }) :
  wpAny M A (do let a <-frameOf env;let pl <-entryPlaceOf L Us;let b <-EntryCells.newEntry head a .none (rawInt L) .none pl;setField (.ref e) 1 b) Q E s:=by
 have nf:∀b,b∈qg (env::outer)->b≠e:=λb hb z=>by
  obtain⟨_,o,ho,nd⟩:=hl.mem hb
  rw[z,he]at ho;cases ho;exact nd vs hd
 refine az (wpAny_frameOf_fun Y9 hl hf λh₁ so=>az (wpAny_entryPlaceOf λpl yC=>?_))
 unfold EntryCells.newEntry newFields
 refine az (iH ?_ (yC.sizeOk5 _ _ _ _ _))
 have Zb:h₁.get? e=some oe:=(so.2.1 e λz=>nf e z rfl).trans he
 have k2:∀b o,h₁.get? b=some o->(h₁.push { cls:=.type "traceback",dict:=none,data:=.fields ([head,.ref L,.none,rawInt L,.none]++(if pl.isEmpty then List.replicate 6 Value.none else pl)).toArray }).get? b=some o:=λb o z=>cF _ z
 have t2:=dD h₁ (o:={ cls:=.type "traceback",dict:=none,data:=.fields ([head,.ref L,.none,rawInt L,.none]++(if pl.isEmpty then List.replicate 6 Value.none else pl)).toArray }) rfl
 have t3:([head,.ref L,.none,rawInt L,.none]++(if pl.isEmpty then List.replicate 6 Value.none else pl)).toArray[3]?=some (rawInt L):=by simp
 generalize ([head,.ref L,.none,rawInt L,.none]++(if pl.isEmpty then List.replicate 6 Value.none else pl)).toArray=ts at k2 t2 t3 ⊢
 generalize h₁.push { cls:=.type "traceback",dict:=none,data:=.fields ts }=h₂ at k2 t2 ⊢
 have he2:=k2 _ _ Zb
 have Yb:h₁.objs.size≠e:=kI (aS Zb)
 refine vw he2 hd hz ?_
 have Xa:∀b o,b≠e->h₂.get? b=some o->(h₂.update e (Obj.mapFields (·.setIfInBounds 1 (Value.ref h₁.objs.size)))).get? b=some o:=λb o hb z=>(tU _ _ hb.symm).trans z
 have d3:=vz hd (·.setIfInBounds 1 (Value.ref h₁.objs.size))
 have he3:=oV (Obj.mapFields (·.setIfInBounds 1 (Value.ref h₁.objs.size))) he2 (Gk d3)
 have sl3:∀b o,b∈qg (env::outer)->s.heap.get? b=some o->∃sl,(h₂.update e (Obj.mapFields (·.setIfInBounds 1 (Value.ref h₁.objs.size)))).get? b=some { o with slots:=sl }:=λb o hb z=>by
  obtain⟨sl,e1⟩:=so.2.2 b o z
  exact⟨sl,Xa _ _ (nf b hb) (k2 _ _ e1)⟩
 refine h _ h₁.objs.size _ ts (Nat.le_of_eq so.1.symm) Yb ?_ (Xa _ _ Yb t2) rfl t3 (λb o hb hf z=>Xa b o hb (k2 _ _ ((so.2.1 b hf).trans z))) sl3 ?_
 ·rw[he3]
  obtain⟨oc,od,oda,Lf⟩:=oe
  dsimp only at hd
  subst hd
  rfl
 ·refine hl.of_keeps λb o hb nd=>?_
  obtain⟨sl,e1⟩:=so.2.2 b o hb
  refine⟨_,Xa b _ (λz=>?_) (k2 _ _ e1),rfl⟩
  rw[z,he]at hb;cases hb;exact nd vs hd
theorem Zw{T:Addr}{oe oT:Obj}{vs ts:Array Value}{Q:Unit->Shared->Prop}(he:s.heap.get? e=some oe)(hd:oe.data=.fields vs)(h1:vs[1]?=some (.ref T))(hT:s.heap.get? T=some oT)(hdT:oT.data=.fields ts)(hz:3<ts.size)
  (h:Q () { s with heap:=s.heap.update T (Obj.mapFields (·.setIfInBounds 3 Value.none)) }):wpAny M A (setFlight (.ref e) none) Q E s:=by
 unfold setFlight
 refine az (pj he hd h1 ?_)
 rw[aB (show(Value.ref T != Value.none)=true from by simp)]
 exact vw hT hdT hz h
theorem Wb{Q:Unit->Shared->Prop}(Y9:A.frames=some (env::outer))(hl:s.heap.FunFrames base (env::outer))(hf:env.frame=some L)(hN:∀b,s.heap.objs.size<=b->N b)(x:U9 N s.heap e C dx)
  (h:∀h' ch,(∀b∈ch,N b/\∃o vs,s.heap.get? b=some o/\o.data=.fields vs)->U9 N h' e C dx->Lv (qg (env::outer)) ch s.heap h'->Q () { s with heap:=h' }):wpAny M A (noteFrame (.ref e) env) (λ_ s'=>wpAny M A (setFlight (.ref e) none) Q E s') E s:=by
 obtain⟨ne,vs,sl,he,tb⟩:=x
 have fin:∀(ch:List Addr) (Fy:∀b∈ch,N b/\∃o vs,s.heap.get? b=some o/\o.data=.fields vs) (s1:Shared) (h':Heap) (T:Addr) (oT:Obj) (ts:Array Value),s1.heap.objs.size=s.heap.objs.size->s1.heap.objs.size<=T->T≠e->h'.get? e=some ⟨.ref C,dx,.fields (vs.setIfInBounds 1 (.ref T)),sl⟩->1<vs.size->h'.get? T=some oT->oT.data=.fields ts->ts[3]?=some (rawInt L)->
   (∀b o,b∉qg (env::outer)->b∉ch->s.heap.get? b=some o->h'.get? b=some o)->(∀b o,b∈qg (env::outer)->s.heap.get? b=some o->∃sl,h'.get? b=some { o with slots:=sl })->s1={ s with heap:=s1.heap }->
   wpAny M A (setFlight (.ref e) none) Q E { s1 with heap:=h' }:=λch Fy s1 h' T oT ts hs hT Yb e1 hz t1 t2 t3 k1 k2 es=>by
  have v1:(vs.setIfInBounds 1 (Value.ref T))[1]?=some (.ref T):=by simp[hz]
  have z3:=(vJ.mp t3).1
  refine Zw (s:={ s1 with heap:=h' }) e1 rfl v1 t1 t2 z3 ?_
  have nT:N T:=hN T (by omega)
  have ot:∀b o,b≠T->h'.get? b=some o->(h'.update T (Obj.mapFields (·.setIfInBounds 3 Value.none))).get? b=some o:=λb o hb z=>(tU _ _ hb.symm).trans z
  have t4:=oV (Obj.mapFields (·.setIfInBounds 3 Value.none)) t1 (Gk (vz t2 _))
  have g:=h (h'.update T (Obj.mapFields (·.setIfInBounds 3 Value.none))) ch Fy ⟨ne,_,sl,ot _ _ Yb.symm e1,.inr ⟨T,_,_,nT,Yb,v1,t4,vz t2 _,by simp[z3]⟩⟩ ⟨λb o hb nb z=>ot b o (λy=>?_) (k1 b o hb nb z),λb o hb z=>?_⟩
  ·rw[es];exact g
  ·have:=aS z
   rw[y]at this
   exact absurd this (Nat.not_lt.mpr (by rw[<-hs];exact hT))
  ·obtain⟨ZL,e2⟩:=k2 b o hb z
   refine⟨ZL,ot b _ (λy=>?_) e2⟩
   obtain⟨_,o',Eg,nd⟩:=hl.mem hb
   have:=aS Eg
   rw[y]at this
   exact absurd this (Nat.not_lt.mpr (by rw[<-hs];exact hT))
 unfold noteFrame
 simp only[hf]
 rcases tb with h1 | ⟨T,oT,ts,nT,Yb,h1,hT,dT,h3⟩
 ·have hz:=(vJ.mp h1).1
  refine az (pj he rfl h1 ?_)
  rw[aA (by decide)]
  exact Ny Y9 hl hf he rfl hz λh' T oT ts a1 a2 a3 a4 a5 a6 a7 a8 _=>fin [e] (λb hb=>by rw[bR.mp hb];exact⟨ne,_,_,he,rfl⟩) s h' T oT ts rfl a1 a2 a3 hz a4 a5 a6 (λb o hb nb z=>a7 b o (λy=>nb (by rw[y];simp)) hb z) a8 rfl
 ·have hz:=(vJ.mp h1).1
  refine az (pj he rfl h1 ?_)
  rw[aB (show(Value.ref T != Value.none)=true by simp)]
  refine az (pj hT dT h3 ?_)
  rw[aA (show ¬((Value.none==rawInt L)=true) by simp[rawInt])]
  refine az (vw hT dT (vJ.mp h3).1 ?_)
  have ot:∀b o,b≠T->s.heap.get? b=some o->(s.heap.update T (Obj.mapFields (·.setIfInBounds 3 Value.none))).get? b=some o:=λb o hb z=>(tU _ _ hb.symm).trans z
  have nfT:∀b o,s.heap.get? b=some o->(∀vs,o.data≠.fields vs)->b≠T:=λb o z nd y=>by rw[y,hT]at z;cases z;exact nd ts dT
  have RK:(s.heap.update T (Obj.mapFields (·.setIfInBounds 3 Value.none))).FunFrames base (env::outer):=hl.of_keeps λb o z nd=>⟨o,ot b o (nfT b o z nd) z,rfl⟩
  have sz:(s.heap.update T (Obj.mapFields (·.setIfInBounds 3 Value.none))).objs.size=s.heap.objs.size:=by simp
  have he2:=ot _ _ Yb.symm he
  generalize s.heap.update T (Obj.mapFields (·.setIfInBounds 3 Value.none))=hq at ot RK sz he2 ⊢
  refine Ny (s:={ s with heap:=hq }) Y9 RK hf he2 rfl hz λh' T' oT' ts' a1 a2 a3 a4 a5 a6 a7 a8 _=>fin [e,T] (λb hb=>?_) { s with heap:=hq } h' T' oT' ts' sz a1 a2 a3 hz a4 a5 a6 (λb o hb nb z=>a7 b o (λy=>nb (by rw[y];simp)) hb (ot b o (λy=>nb (by rw[y];simp)) z)) (λb o hb z=>a8 b o hb (ot b o ?_ z)) rfl
  ·have:b=e\/b=T:=by simpa using hb
   rcases this with rfl | rfl
   ·exact⟨ne,_,_,he,rfl⟩
   ·exact⟨nT,_,_,hT,dT⟩
  ·obtain⟨_,o',Eg,nd⟩:=hl.mem hb
   exact nfT b o' Eg nd
theorem Nw{Q:Unit->Shared->Prop}(Y9:A.frames=some (env::outer))(hl:s.heap.FunFrames base (env::outer))(hf:env.frame=some L)(hN:∀b,s.heap.objs.size<=b->N b)(x:U9 N s.heap e C dx)
  (h:∀h' ch,(∀b∈ch,N b/\∃o vs,s.heap.get? b=some o/\o.data=.fields vs)->U9 N h' e C dx->Lv (qg (env::outer)) ch s.heap h'->Q () { s with heap:=h' }):wpAny M A (leaving env (.ref e)) Q E s:=az (Wb Y9 hl hf hN x h)
end
structure XC(K:Frag)(C:Addr):Prop where
 is:vN K C=true
 hd:PySem.W.hasDictIn K C=true
 sa:PySem.W.findIn K (.ref C) "__setattr__" = some (some (.builtin "object.__setattr__"))
 ga:PySem.W.findIn K (.ref C) "__getattribute__" = some (some (.builtin "BaseException.__getattribute__"))
 gn:PySem.W.findIn K (.ref C) "__getattr__" = some none
 ca:PySem.W.findIn K (.ref C) "__class__" = some (some (.builtin "object.__class__"))
 cn:PySem.W.specialIn K (.builtin "object.__class__") "__get__" = some (some (.builtin "getset_descriptor.__get__"))
 ct:PySem.W.takesIn K (.builtin "object.__class__")=some true
 cm:PySem.W.mroIn K C (.type "object")=some true
section
variable {prog:Program}{w:World}{A:Around}{E:Value->Shared->Prop}{s:Shared}{K:Frag}{C e:Addr}{oe:Obj}{od:Option Obj}
end
def Rv(P:Program)(w:World):M8:=λouter H s E x s'=>∃e C dx H',x=.ref e/\s'.os=s.os/\AllBare s'.gens/\Un (qg outer) [] H H' s.heap s'.heap/\ju P w H' s'.heap/\U9 (λb=>s.heap.objs.size<=b/\H' b=none) s'.heap e C dx/\E (.ref C) dx H'
def XN(X:Cx)(pins:List (Addr×Obj))(H:Hp)(b:Addr):Prop:=X.s₀.heap.objs.size<=b/\H b=none/\b≠X.env.locals/\(∀x c,X.env.cells.lookup x=some c->c≠b)/\∀p∈X.pn++pins,p.1≠b
theorem XN.new{X:Cx}{pins:List (Addr×Obj)}{σ:St}{H H':Hp}{s:Shared}(I:Inv X pins σ H s){b:Addr}(hb:s.heap.objs.size<=b)(hn:H' b=none):XN X pins H' b:=by
 have nb:∀{c:Addr} {o:Obj},s.heap.get? c=some o->c≠b:=λz y=>absurd (aS z) (by rw[y];exact Nat.not_lt.mpr hb)
 refine⟨df I.sz hb,hn,λy=>?_,λx c e=>?_,λp hp=>nb (I.pin p hp).1⟩
 ·obtain⟨m,⟨o,_,_,ho,_⟩,_⟩:=I.loc
  exact nb ho y.symm
 ·obtain⟨v,o,ho,_⟩:=I.cell x c e
  exact nb ho
def Ko(X:Cx)(EH:St->XK):Prop:=∀(pins:List (Addr×Obj)) (σ:St) (H:Hp) (s:Shared) (e C:Addr) (dx:Option Addr),Inv X pins σ H s->U9 (XN X pins H) s.heap e C dx->EH σ (.ref C) dx H->X.xe (.ref e) s
theorem U9.mono{N N':Addr->Prop}{h:Heap}{e C:Addr}{dx:Option Addr}(k:∀b,N b->N' b)(x:U9 N h e C dx):U9 N' h e C dx:=by
 obtain⟨n,vs,sl,he,tb⟩:=x
 refine⟨k _ n,vs,sl,he,tb.imp id ?_⟩
 rintro⟨T,oT,ts,nT,r⟩
 exact⟨T,oT,ts,k _ nT,r⟩
section
variable {P:Program}{w:World}{K:Frag}{mg:Str->Option Value}{base:Heap}
theorem Qh{N:List Str}{qual:Str}{scope:Scope}{f:Addr}{cd:Value}{A:Around}{outer:List Env}{s:Shared}{H:Hp}{E:XK}:Ko (km (Rv P w) P w K mg base N qual scope f cd A outer s H E) (λ_=>E):=by
 intro pins σ H1 s1 e C dx I xa hE
 have hsz:s.heap.objs.size<=s1.heap.objs.size:=I.sz
 refine Nw (L:=s.heap.objs.size) (N:=λb=>s.heap.objs.size<=b/\H1 b=none) (base:=base) I.ok.frames I.stack rfl (λb hb=>⟨df hsz hb,I.bM.fresh hb⟩) (xa.mono λb hb=>⟨hb.1,hb.2.1⟩) λh' ch Fy xa' lv=>?_
 have nn:∀b o,s.heap.get? b=some o->b∉ch:=λb o z y=>absurd (aS z) (Nat.not_lt.mpr (Fy b y).1.1)
 have nf:∀b o,s.heap.get? b=some o->b∉qg outer->b∉qg (envOfC qual scope s.heap.objs.size f cd::outer):=λb o z hb y=>by
  rcases dR.mp (show b∈s.heap.objs.size::qg outer from y) with y | y
  ·have:=aS z
   rw[y]at this
   exact j0 _ this
  ·exact hb y
 have sub:∀b,b∈qg outer->b∈qg (envOfC qual scope s.heap.objs.size f cd::outer):=λb hb=>fw (a:=b) s.heap.objs.size hb
 have un:Un (qg outer) [] H H1 s.heap s1.heap:=I.base
 refine⟨e,C,dx,H1,rfl,I.os,I.bare,⟨λb o z n hb hx=>lv.keep b o (nf b o z hb) (nn b o z) (un.keep b o z n hb hx),λb o z n hb hx=>?_,un.free,λb o z hx=>?_,un.tups,un.frzs,un.tbls⟩,λa u z=>?_,xa',hE⟩
 ·obtain⟨sl,z1⟩:=un.slot b o z n hb hx
  obtain⟨K0,z2⟩:=lv.slot b _ (sub b hb) z1
  exact⟨K0,z2⟩
 ·obtain⟨o',z1⟩:=un.there b o z hx
  by_cases hb:b∈qg (envOfC qual scope s.heap.objs.size f cd::outer)
  ·obtain⟨K0,z2⟩:=lv.slot b _ hb z1
   exact⟨_,z2⟩
  ·exact⟨o',lv.keep b o' hb (nn b o z) z1⟩
 ·refine(I.bM a u z).stay (λb v hb y=>?_) (λ_ q=>q) λ_ _ q=>q
  have hn:¬H1 b=none:=λy=>by
   rcases hb with rfl | hb
   ·rw[z]at y;cases y
   ·rw[hb]at y;cases y
  exact lv.keep b v (λy=>hn (I.zY b y)) (λy=>hn (Fy b y).1.2) y
theorem jA.okE{x qual:Str}{st:Stmt}{f:Addr}{fd:FuncData}{N ps:List Str}{k:Nat}{sp:Sp}(F:jA K x qual st f fd)(S:aT N ps (ao st))(len:∀vs H Q E,sp vs H Q E->vs.length=ps.length)
  (m6:∀(dz:Value) (A:Around) (outer:List Env) (s:Shared) (H:Hp) (vs:List V) (Q:VK) (E:XK),eF k (A.deeper (envOfC qual (ao st) s.heap.objs.size f dz))->sp vs H Q E->
   HC (km (Rv P w) P w K mg base N qual (ao st) f dz A outer s H E) N (ao st)->(∀x,(km (Rv P w) P w K mg base N qual (ao st) f dz A outer s H E).fn x=true)->
   Ko (km (Rv P w) P w K mg base N qual (ao st) f dz A outer s H E) (λ_=>E)->PassesOwn (model P w) (km (Rv P w) P w K mg base N qual (ao st) f dz A outer s H E).A (km (Rv P w) P w K mg base N qual (ao st) f dz A outer s H E).env (km (Rv P w) P w K mg base N qual (ao st) f dz A outer s H E).xe->
   ∃t,Ng (km (Rv P w) P w K mg base N qual (ao st) f dz A outer s H E) (aQ st) t/\t { nx:=λ_ H'=>Q .non H',rt:=Q } (start N vs) H):cE P w K mg base (Rv P w) (k+1) f fd ps sp:=by
 obtain⟨oc,od,kV,doc,pm,an,dz,ct,Lf,rfl,lk,Ig⟩:=F.ex
 refine VR lk Ig S len λA outer s H vs Q E hr RG=>?_
 obtain⟨t,h,q⟩:=m6 dz A outer s H vs Q E hr RG ⟨rfl,rfl⟩ (λ_=>rfl) Qh PassesOwn.leaving
 exact⟨t,h.to,q⟩
end
section
variable {X:Cx}{k:Nat}{f C:Addr}{fd:FuncData}{ps:List Str}{sp:Sp}{EH:St->XK}{x:Str}{p pos:Pos}{e:Expr}{es:List Expr}{t:TA}
def zX(sp:Sp)(EH:St->XK)(t:TA):TE:=λσ H Q=>t σ H λvs H1=>sp vs H1 Q (EH σ)
end
section
variable {X:Cx}{k:Nat}{fI C:Addr}{fd:FuncData}{ps:List Str}{sp:Sp}{EH:St->XK}{x:Str}{np cX pos:Pos}{a:Expr}{t:TA}
def uQ(C:Addr)(t:TA)(EH:St->XK):TS:=λ_ σ H=>t σ H λvs H1=>vs.length<=sizeLine/\EH σ (.ref C) none H1
def jt(e C:Addr)(dx:Option Addr)(t:Addr):Heap->Prop:=λh=>h.get? e=some (Wa C dx t)
theorem zN{P:Program}{w:World}{H:Hp}{h:Heap}{e C t:Addr}{dx:Option Addr}(z:h.get? e=some (Wa C dx t)):dj P w H h e (.ext (jt e C dx t)):=⟨z,⟨_,z⟩,λh1 h2 a b=>b _ a⟩
def zZ(C:Addr)(fld:Str):Sp:=λvs H Q _=>∃e v t,vs=[.ref e,v]/\H e=some (.ext (jt e C none t))/\∀dx t',H dx=none->dx≠e->Q .non (upd (upd H e (.ext (jt e C (some dx) t'))) dx (.xd [(fld,v)]))
def Mq(H:Hp)(e:Addr):Hp:=λb=>if b=e then none else H b
theorem sU{H:Hp}{e:Addr}:Mq H e e=none:=aB rfl
theorem jK{H:Hp}{e b:Addr}(h:b≠e):Mq H e b=H b:=aA h
theorem oK{H:Hp}{e b:Addr}(h:H b=none):Mq H e b=none:=by
 by_cases hb:b=e
 ·rw[hb];exact sU
 ·rw[jK hb];exact h
theorem Inv.forget{pins:List (Addr×Obj)}{σ:St}{H:Hp}{s:Shared}{e:Addr}{φ:Heap->Prop}(I:Inv X pins σ H s)(he:H e=some (.ext φ)):Inv X pins σ (Mq H e) s:=by
 have ne:∀{b:Addr} {u:HO},H b=some u->(HO.ext φ≠u)->b≠e:=λz n=>(fE he z n).symm
 have ok:ju X.prog X.w (Mq H e) s.heap:=λb u z=>by
  by_cases hb:b=e
  ·rw[hb,sU]at z;cases z
  ·rw[jK hb]at z
   refine(I.bM b u z).stay (λ_ _ _ q=>q) (λc q=>?_) λc xs q=>?_
   ·rw[jK (ne q (by intro z;cases z))];exact q
   ·rw[jK (ne q (by intro z;cases z))];exact q
 refine⟨I.ok,I.os,I.bare,⟨I.base.keep,I.base.slot,λb ob z n hx=>oK (I.base.free b ob z n hx),I.base.there,λb xs z=>?_,λb ob u z=>?_,λb ps z=>?_⟩,I.loc,I.cell,oK I.free,λx c z=>oK (I.lU x c z),λp hp=>?_,ok,I.len⟩
 ·have e1:=I.base.tups b xs z
  rw[jK (ne e1 (by intro z;cases z))];exact e1
 ·have e1:=I.base.frzs b ob u z
  rw[jK (ne e1 (by intro z;cases z))];exact e1
 ·obtain⟨m,e1⟩:=I.base.tbls b ps z
  exact⟨m,by rw[jK (ne e1 (by intro z;cases z))];exact e1⟩
 ·obtain⟨p1,p2,p3⟩:=I.pin p hp
  exact⟨p1,oK p2,p3⟩
def oF(C:Addr)(fld:Str)(t:TE)(EH:St->XK):TS:=λ_ σ H=>t σ H λv H1=>∀dx,H1 dx=none->EH σ (.ref C) (some dx) (upd H1 dx (.xd [(fld,v)]))
theorem Lc{fld:Str}{te:TE}(c:XC X.K C)(hi:PySem.W.findIn X.K (.ref C) "__init__" = some (some (.ref fI)))(hf:PySem.W.typeIn X.K (.ref fI)=some (.type "function"))(hk:PySem.W.keepIn X.K (.ref C)=true)
  (F:cE X.prog X.w X.K X.mg X.base g6 k fI fd ps (zZ C fld)) (hb:Binds X.K fd ps []) (hr:eF (k+1) X.A) (hg:Gl X x) (hm:X.mg x=some (.ref C)) (hc:X.calm=true) (L:Ko X EH) (ha:PE X a te)
  (Bq:(x==("__debug__" : Str))=false:=by decide) (he:starEach [a] X.env=(false,eval a X.env)::starEach [] X.env:=by rfl) (yC:(backTo cX (starEach [] X.env)).any (·.1)=false:=by rfl) :
  PS X (.Raise (some (.Call (.Name x np) [a] [] cX)) none pos) (oF C fld te EH):=by
 intro pins s σ H D I h
 rw[arm_exec_Raise]
 refine az (rF (V' c.is (I.ok.hd hc) ?_))
 refine az (vA (uZ I hg hm ?_ Bq))
 refine PySem.W.callWith_K (h₀:=X.base) I.ok.mod.Y0 hk (dm (qQ ha Ao he cX pins s σ H (λvs H1=>match vs with | [v]=>(∀dx,H1 dx=none->EH σ (.ref C) (some dx) (upd H1 dx (.xd [(fld,v)]))) | _=>False) I h) λus s1 ⟨vs,H1,I1,r,q⟩=>⟨I1.HF,?_⟩) he yC
 match vs,q,r with
 | [v],q,r=>
  have ul:us.length<=sizeLine:=by rw[<-r.length];show 1<=sizeLine;decide
  refine Ra I1.HF c.is hi hf (λh' mk=>?_) ul
  obtain⟨t,e1,_,_⟩:=mk.there
  have fe:H1 (s1.heap.objs.size+1)=none:=I1.bM.fresh (iX _)
  have I2:=I1.laid (a:=s1.heap.objs.size+1) (o:=.ext (jt (s1.heap.objs.size+1) C none t)) (t':=s1.toks) mk.keeps (iX _) (zN e1)
  have fe2:∀H':Hp,H' (s1.heap.objs.size+1)=none->XN X pins H' (s1.heap.objs.size+1):=λH' z=>.new I1 (iX _) z
  generalize s1.heap.objs.size+1=e at e1 fe I2 fe2
  have hq:zZ C fld [.ref e,v] (upd H1 e (.ext (jt e C none t))) (λu H2=>u=.non/\∃dx t',H1 dx=none/\dx≠e/\H2=upd (upd (upd H1 e (.ext (jt e C none t))) e (.ext (jt e C (some dx) t'))) dx (.xd [(fld,v)])) E0:=⟨e,v,t,rfl,ag,λdx t' hd rz=>⟨rfl,dx,t',by rwa [au rz]at hd,rz,rfl⟩⟩
  have r2:Vals [V.ref e,v] (Value.ref e::us):=.cons rfl r
  have hl:(Value.ref e::us).length=ps.length:=by rw[<-r2.length];exact F.len _ _ _ _ hq
  have b:=hb _ (Value.ref e::us) I2.HF (by rw[jB];exact hl)
  rw[jB]at b
  refine rB (px (F.run _ X.stack _ _ ⟨Value.ref e::us,[]⟩ (Value.ref e::us) _ _ E0 (hr.make C us []) (I2.Yn.make C us []) b r2 hq) λr s' hq'=>?_)
  cases r with
  | error e=>exact False.elim hq'
  | ok fl=>
   cases fl with
   | ret u=>
    obtain⟨v',H3,I3,rv,rfl,dx,t',hdx,rz,rfl⟩:=I2.after hq'
    have e3:upd (upd (upd H1 e (.ext (jt e C none t))) e (.ext (jt e C (some dx) t'))) dx (.xd [(fld,v)]) e=some (.ext (jt e C (some dx) t')):=by rw[au rz.symm,ag]
    have o3:jt e C (some dx) t' s'.heap:=(I3.bM e _ e3).1
    have I4:=Inv.forget I3 e3
    have eh:Mq (upd (upd (upd H1 e (.ext (jt e C none t))) e (.ext (jt e C (some dx) t'))) dx (.xd [(fld,v)])) e=upd H1 dx (.xd [(fld,v)]):=by
     funext b
     by_cases hb:b=e
     ·rw[hb,sU,au rz.symm,fe]
     ·rw[jK hb]
      by_cases hd:b=dx
      ·rw[hd,ag,ag]
      ·rw[au hd,au hd,au hb,au hb]
    rw[eh]at I4
    refine⟨rv,az (rF (aK ⟨e,some dx,t',rfl,I4.HF,o3,L pins σ _ _ e C (some dx) I4 ⟨fe2 _ (by rw[au rz.symm];exact fe),_,_,o3,.inl rfl⟩ (q dx hdx)⟩))⟩
   | _=>exact False.elim hq'
end
section
variable {X:Cx}{B:Addr}{x:Str}{np cX apos pos pos':Pos}{a b o value:Expr}{t:TA}{ta tv:TE}{fld:Str}
def x9(K:Frag)(t:TA):TE:=λσ H Q=>t σ H λvs H1=>∃e C t0 v,vs=[.ref e,v]/\H1 e=some (.ext (jt e C none t0))/\XC K C/\∀t',Q .non (upd H1 e (.ext (jt e C none t')))
theorem U3{pins:List (Addr×Obj)}{σ:St}{H1:Hp}{s1:Shared}{us:List Value}{vs:List V}{Q:VK}{A:Around}{E:Value->Shared->Prop}(I1:Inv X pins σ H1 s1)(r:Vals vs us)
  (h:∃e C t0 v,vs=[.ref e,v]/\H1 e=some (.ext (jt e C none t0))/\XC X.K C/\∀t',Q .non (upd H1 e (.ext (jt e C none t')))):wpAny (model X.prog X.w) A (call (.builtin "ValueError.__init__") us) (EP X pins σ Q) E s1:=by
 obtain⟨e,C,t0,v,rfl,he,c,q⟩:=h
 obtain⟨u1,u2,rfl,r1,r2⟩:=r.two
 obtain rfl:u1=Value.ref e:=r1
 have o1:s1.heap.get? e=some (Wa C none t0):=(I1.bM e _ he).1
 have e1:(s1.heap.push { cls:=.type "tuple",data:=.seq [u2].toArray }).get? e=some (Wa C none t0):=cF _ o1
 have e2:((s1.heap.push { cls:=.type "tuple",data:=.seq [u2].toArray }).update e (Obj.mapFields (·.setIfInBounds 0 (Value.ref s1.heap.objs.size)))).get? e=some (Wa C none s1.heap.objs.size):=(oV _ e1 rfl).trans rfl
 have k2:∀b ob,b≠e->s1.heap.get? b=some ob->((s1.heap.push { cls:=.type "tuple",data:=.seq [u2].toArray }).update e (Obj.mapFields (·.setIfInBounds 0 (Value.ref s1.heap.objs.size)))).get? b=some ob:=λb ob hb z=>(tU _ _ hb.symm).trans (cF _ z)
 refine MN I1.HF c.is o1 ?_ (show 1<=sizeLine by decide)
 generalize ((s1.heap.push { cls:=.type "tuple",data:=.seq [u2].toArray }).update e (Obj.mapFields (·.setIfInBounds 0 (Value.ref s1.heap.objs.size))))=h2 at e2 k2 ⊢
 exact⟨.non,_,I1.write (x:=e) (e:=e) (o:=.ext (jt e C none s1.heap.objs.size)) (t':=s1.toks) (by rw[he];trivial) (.inl rfl) (λb ob hb z=>k2 b ob hb z) ⟨_,e2⟩ (zN e2),rfl,q _⟩
theorem Tg{pl:Sem Bool}(hr:PySem.W.readsIn X.K B (.type "type")=true)(hf:PySem.W.findCls X.K (.ref B) (.type "type") "__init__" = some (.val (.builtin "ValueError.__init__")))
  (hs:PySem.W.specialIn X.K (.ref B) "__getattribute__" = some (some (.builtin "type.__getattribute__"))) (hg:Gl X x) (hm:X.mg x=some (.ref B)) (ha:PA X [a,b] t)
  (Bq:(x==("__debug__" : Str))=false:=by decide) (hst:starEach [a,b] X.env=(false,eval a X.env)::starEach [b] X.env:=by rfl) (yC:(backTo cX (starEach [b] X.env)).any (·.1)=false:=by rfl)
  (ht:eval (.Call (.Attribute (.Name x np) "__init__" apos) [a,b] [] cX) X.env=(do
   let ov <-eval (.Name x np) X.env
   standAt apos.atName
   let (f,first) <-holding [ov] (getMethod ov "__init__" pl)
   callWith cX f first (backTo cX (starEach [a,b] X.env)) (backToKw cX (keywordEach [] X.env))):=by rfl) :
  PE X (.Call (.Attribute (.Name x np) "__init__" apos) [a,b] [] cX) (x9 X.K t):=by
 intro pins s σ H Q I h
 refine PySem.W.methodCall_KW (pl:=pl) (uZ I hg hm ?_ Bq) ht
 refine PySem.W.method_cls I.HF hs (PySem.W.cls_value I.HF hr hf rfl ?_)
 have I0:Inv X pins σ H { s with toks:=s.toks+1 }:=I.tok _
 show wpAny _ _ (callWith cX (.builtin "ValueError.__init__") [] (backTo cX (starEach [a,b] X.env)) []) _ _ _
 exact Nn (dm (ha cX pins _ σ H _ I0 h) λus s1 ⟨vs,H1,I1,r,q⟩=>U3 I1 r q) hst yC
def yg(K:Frag)(ta tv:TE)(fld:Str):TS:=λD σ H=>tv σ H λy H1=>ta σ H1 λx H2=>∃e C t,x=.ref e/\H2 e=some (.ext (jt e C none t))/\XC K C/\PySem.W.takerIn K C fld=some none/\
 ∀dx,H2 dx=none->dx≠e->D.nx σ (upd (upd H2 e (.ext (jt e C (some dx) t))) dx (.xd [(fld,y)]))
theorem SX(ha:PE X o ta)(hv:PE X value tv)(hs:swapsWith value (some (.Attribute o fld pos')) pos.line X.env=pure false):PS X (.Assign [.Attribute o fld pos'] value pos) (yg X.K ta tv fld):=by
 intro pins s σ H D I h
 refine plainObj_wpAny_Assign_Attribute (dm (hv pins s σ H _ I h) λu s1 ⟨y,H1,I1,ry,q⟩=>dm (ha pins s1 σ H1 _ I1 q) λov s2 ⟨x,H2,I2,rx,e,C,t,ex,he,c,tk,q2⟩=>?_) hs
 subst ex
 obtain rfl:ov=Value.ref e:=rx
 have o2:s2.heap.get? e=some (Wa C none t):=(I2.bM e _ he).1
 refine aBM I2.HF c.is o2 rfl rfl rfl c.sa tk λh' tk' e3 n3 k3=>?_
 have hd:H2 s2.heap.objs.size=none:=I2.bM.fresh (aU _)
 have hde:s2.heap.objs.size≠e:=kI (aS o2)
 have hdn:s2.heap.get? s2.heap.objs.size=none:=sf (aU _)
 generalize s2.heap.objs.size=dx at e3 n3 hd hde hdn
 have U:∀{b:Addr},b≠e->b≠dx->upd (upd H2 e (.ext (jt e C (some dx) t))) dx (.xd [(fld,y)]) b=H2 b:=λh1 h2=>by rw[au h2,au h1]
 have ne:∀{b:Addr} {z:HO},H2 b=some z->(HO.ext (jt e C none t)≠z)->b≠e:=λz n=>(fE he z n).symm
 have nd:∀{b:Addr} {z:HO},H2 b=some z->b≠dx:=λz y=>by rw[y,hd]at z;cases z
 have nb:∀{b:Addr} {z:Obj},s2.heap.get? b=some z->b≠dx:=λz y=>by rw[y,hdn]at z;cases z
 have nn:∀{b:Addr},H2 b=none->b≠e:=λz y=>by rw[y,he]at z;cases z
 refine⟨σ,_,I2.un (H':=upd (upd H2 e (.ext (jt e C (some dx) t))) dx (.xd [(fld,y)])) (t':=tk') ⟨λb ob z n _ _=>k3 b ob (nn n) z,λb ob z n _ _=>⟨ob.slots,k3 b ob (nn n) z⟩,λb ob z n _=>by rw[U (nn n) (nb z)];exact n,λb ob z _=>?_,λb xs z=>?_,λb ob z' z=>?_,λb ps z=>⟨#[],?_⟩⟩ λb z hz=>?_,q2 dx hd hde⟩
 ·by_cases hb:b=e
  ·rw[hb];exact⟨_,e3⟩
  ·exact⟨ob,k3 b ob hb z⟩
 ·rw[U (ne z (by intro z;cases z)) (nd z)];exact z
 ·rw[U (ne z (by intro z;cases z)) (nd z)];exact z
 ·rw[U (ne z (by intro z;cases z)) (nd z),z];simp
 ·by_cases hb:b=dx
  ·rw[hb,ag]at hz
   cases hz
   rw[hb]
   refine⟨_,n3,λf=>?_⟩
   by_cases hf:f=fld
   ·rw[hf,aB rfl]
    simp only[List.lookup,qj]
    exact ry
   ·rw[aA hf]
    have:(f==fld)=false:=vE.mpr hf
    simp only[List.lookup,this]
    trivial
  ·rw[au hb]at hz
   by_cases Nb:b=e
   ·rw[Nb,ag]at hz
    cases hz
    rw[Nb]
    exact zN e3
   ·rw[au Nb]at hz
    refine(I2.bM b z hz).stay (λc v hc y=>k3 c v ?_ y) (λc y=>?_) λc xs y=>?_
    ·rcases hc with rfl | hc
     ·exact Nb
     ·exact ne hc (by intro z;cases z)
    ·rw[U (ne y (by intro z;cases z)) (nd y)];exact y
    ·rw[U (ne y (by intro z;cases z)) (nd y)];exact y
end
def XOb(e C:Addr)(dx:Option Addr):Heap->Prop:=λh=>∃vs sl,h.get? e=some ⟨.ref C,dx,.fields vs,sl⟩
section
variable {X:Cx}{pins:List (Addr×Obj)}{σ:St}{H:Hp}{s:Shared}{e C:Addr}{dx:Option Addr}
end
section
variable {X:Cx}{pins O0:List (Addr×Obj)}{σ:St}{H:Hp}{s:Shared}{e:Addr}{xe:Value->Shared->Prop}
end
def Ends.Zy(D:Ends)(i:Nat):Ends:={ nx:=λσ H=>D.nx (σ.set i none) H,rt:=D.rt,bk:=λσ H=>D.bk (σ.set i none) H,ct:=λσ H=>D.ct (σ.set i none) H }
def R5(K:Frag)(i:Nat)(B:Addr)(tb:(St->XK)->TS)(ts:TS):TS:=λD σ H=>∃EH:St->XK,tb EH D σ H/\∀σ' C dx H',EH σ' (.ref C) dx H'->PySem.W.subIn K (.ref C) (.ref B)=some true/\∀e,H' e=none->ts (D.Zy i) (σ'.set i (some (.ref e))) (upd H' e (.ext (XOb e C dx)))
section
variable {X:Cx}{B:Addr}{x n:Str}{np aD3 pos:Pos}{body suite:List Stmt}{b₀:Stmt}{tb:(St->XK)->TS}{ts:TS}{i:Nat}
end
def Rn(H:Hp)(dx:Option Addr):Prop:=∀d,dx=some d->∃fs,H d=some (.xd fs)
section
variable {X:Cx}{pins:List (Addr×Obj)}{σ:St}{H:Hp}{s:Shared}{e C:Addr}{dx:Option Addr}
def Ai(K:Frag):List V->Hp->VK->Prop:=λvs H Q=>∃e T,vs=[.ref e,.ty T]/\∃C dx,H e=some (.ext (XOb e C dx))/\Rn H dx/\XC K C/\∃b,PySem.W.kitOne K (.ref C) (.type T)=some b/\Q (.bl b) H
def Aj(K:Frag):List V->Hp->VK->Prop:=λvs H Q=>∃e D,vs=[.ref e,.ref D]/\∃C dx,H e=some (.ext (XOb e C dx))/\Rn H dx/\XC K C/\∃b,PySem.W.kitOne K (.ref C) (.ref D)=some b/\Q (.bl b) H
def Ak(K:Frag):List V->Hp->VK->Prop:=λvs H Q=>∃e p,vs=[.ref e,.ref p]/\∃Ds:List Addr,H p=some (.tup (Ds.map V.ref))/\∃C dx,H e=some (.ext (XOb e C dx))/\Rn H dx/\XC K C/\∃b,PySem.W.kitAny K (.ref C) (Ds.map Value.ref)=some b/\Q (.bl b) H
def Ji(K:Frag)(ta:TE)(f:Str):TE:=λσ H Q=>ta σ H λx H1=>∃e,x=.ref e/\∃C dx,H1 e=some (.ext (XOb e C (some dx)))/\XC K C/\PySem.W.findIn K (.ref C) f=some none/\∃fs,H1 dx=some (.xd fs)/\∃v,fs.lookup f=some v/\Q v H1
end
theorem aAl{X:Cx}{P:Program}{w:World}:Passes (Rv P w) X E0:=λ_ _ _ _ _ _ _ h=>by
 obtain⟨_,_,_,_,_,_,_,_,_,_,q⟩:=h
 exact q.elim
section
variable {X:Cx}{N:List Str}{sc:Scope}
variable {k:Nat}{fI C B:Addr}{fd:FuncData}{ps:List Str}{sp:Sp}{EH:St->XK}{x n fld:Str}{np cX apos aD3 pos pos':Pos}{a b o value:Expr}{t:TA}{te ta tv:TE}{body suite:List Stmt}{b₀:Stmt}{tb:(St->XK)->TS}{ts:TS}
theorem GF(c:XC X.K C)(hi:PySem.W.findIn X.K (.ref C) "__init__" = some (some (.ref fI)))(hf:PySem.W.typeIn X.K (.ref fI)=some (.type "function"))(hk:PySem.W.keepIn X.K (.ref C)=true)
  (F:cE X.prog X.w X.K X.mg X.base g6 k fI fd ps (zZ C fld)) (hb:Binds X.K fd ps []) (hr:eF (k+1) X.A) (hg:Gl X x) (hm:X.mg x=some (.ref C)) (hc:X.calm=true) (L:Ko X EH) (ha:ZE X a te)
  (Bq:(x==("__debug__" : Str))=false:=by decide) (he:starEach [a] X.env=(false,eval a X.env)::starEach [] X.env:=by rfl) (yC:(backTo cX (starEach [] X.env)).any (·.1)=false:=by rfl) :
  ZS X (.Raise (some (.Call (.Name x np) [a] [] cX)) none pos) (oF C fld te EH):=⟨Lc c hi hf hk F hb hr hg hm hc L ha.to Bq he yC⟩
theorem Nu{pl:Sem Bool}(hr:PySem.W.readsIn X.K B (.type "type")=true)(hf:PySem.W.findCls X.K (.ref B) (.type "type") "__init__" = some (.val (.builtin "ValueError.__init__")))
  (hs:PySem.W.specialIn X.K (.ref B) "__getattribute__" = some (some (.builtin "type.__getattribute__"))) (hg:Gl X x) (hm:X.mg x=some (.ref B)) (ha:ZA X [a,b] t)
  (Bq:(x==("__debug__" : Str))=false:=by decide) (hst:starEach [a,b] X.env=(false,eval a X.env)::starEach [b] X.env:=by rfl) (yC:(backTo cX (starEach [b] X.env)).any (·.1)=false:=by rfl)
  (ht:eval (.Call (.Attribute (.Name x np) "__init__" apos) [a,b] [] cX) X.env=(do
   let ov <-eval (.Name x np) X.env
   standAt apos.atName
   let (f,first) <-holding [ov] (getMethod ov "__init__" pl)
   callWith cX f first (backTo cX (starEach [a,b] X.env)) (backToKw cX (keywordEach [] X.env))):=by rfl) :
  ZE X (.Call (.Attribute (.Name x np) "__init__" apos) [a,b] [] cX) (x9 X.K t):=⟨Tg (pl:=pl) hr hf hs hg hm ha.to Bq hst yC ht⟩
theorem Nt(ha:ZE X o ta)(hv:ZE X value tv)(hs:swapsWith value (some (.Attribute o fld pos')) pos.line X.env=pure false):ZS X (.Assign [.Attribute o fld pos'] value pos) (yg X.K ta tv fld):=⟨SX ha.to hv.to hs⟩
end
section
variable {X:Cx}
def Jw(neg:Bool):R2:=λx y H Q=>∃p q,x=.ref p/\y=.ref q/\∃xs ys:List Str,H p=some (.tup (List.map V.str xs))/\H q=some (.tup (List.map V.str ys))/\Q (.bl (if neg then !decide (xs=ys) else decide (xs=ys))) H
end
end L2
end
section
namespace L2
open PySem PySem.Spec PySem.W PyProof.Rows Builtin
theorem OJ{α:Type}{l:List α}{p:Array Nat}{d:α}(hp:md p l.length):(p.toList.map λi=>l.getD i d).Perm l:=by
 have h1:p.toList.Perm (List.range l.length):=by simpa using vj.mp hp.perm
 have h2:=h1.map λi=>l.getD i d
 have e:(List.range l.length).map (λi=>l.getD i d)=l:=by
  apply ql
  intro i
  rw[cR]
  by_cases hi:i<l.length
  ·rw[List.getElem?_range hi,bD hi]
   simp[gi,bD hi]
  ·rw[jE (by simpa using hi),jE (by lia)]
   rfl
 rwa [e]at h2
theorem Fg{α:Type}{l:List α}{p:Array Nat}{d:α}{R:α->α->Bool}(hp:md p l.length)(O:Ord (λi j=>R (l.getD i d) (l.getD j d)) l.length)(a:rA (λi j=>R (l.getD i d) (l.getD j d)) p l.length):(p.toList.map λi=>l.getD i d).Pairwise λx y=>R x y=true:=by
 rw[Gb,vI]
 intro i j hi hj Fx
 have hs:=hp.size
 rw[dF]at hi hj
 have:=rA.lt O hp (by lia) a (aU _) Fx (by lia)
 have e:∀k (hk:k<p.size),gA p k=p.toList[k]'(by simpa using hk):=λk hk=>by
  unfold gA
  rw[qq,g9 hk]
  simp
 rw[e i hi,e j hj]at this
 exact this
section
variable {prog:Program}{w:World}{A:Around}{E:Value->Shared->Prop}{s:Shared}
theorem xq{a:Addr}{vs:List Value}{n:Nat}{κ:SortKind}{b:Nat->Nat->Bool}{P:PySem.Fin->Shared->Prop}(ho:s.heap.get? a=some (seqObj "list" vs.toArray n))(QG:vs.length<64)(O:Ord b vs.length)
  (hk:∀h',(∀c o,c≠a->s.heap.get? c=some o->h'.get? c=some o)->2<=vs.length->wpAny (model prog w) A (keyKind' vs.toArray) (λk s'=>k=κ/\s'={ s with heap:=h' }) (λ_ _=>False) { s with heap:=h' })
  (hc:∀h',(∀c o,c≠a->s.heap.get? c=some o->h'.get? c=some o)->∀i j C,i<vs.length->j<vs.length->C (b i j) { s with heap:=h' }->kas_ask prog w A κ vs i j C { s with heap:=h' })
  (h:∀p,md p vs.length->rA b p vs.length->P (.done (.ret .none)) { s with heap:=sortedHeap s.heap a vs (p.toList.map λi=>vs.getD i Value.none).toArray }) :
  wpAny (model prog w) A (Builtin.«list.sort» ⟨[.ref a],[]⟩) P E s:=by
 rw[list_sort_plain]
 have ha:a<s.heap.objs.size:=aS ho
 have sb:=tQ s.heap a (Obj.mapSeq λ_=>(#[]:Array Value))
 obtain⟨e1,ho1⟩:∃e1,(s.heap.update a (Obj.mapSeq λ_=>(#[]:Array Value))).get? a=some (seqObj "list" #[] e1):=⟨_,get?_update_seq ho λ_=>#[]⟩
 have hsz:vs.toArray.size=vs.length:=by simp
 refine az (listItems_at ho rfl ?_)
 refine az (pk ho rfl ?_ (by rw[hsz,kG];lia) (dG _))
 refine az (seqEpoch_at ho1 rfl ?_)
 refine az (wpAny_newTuple ?_ (by show vs.length<=_;rw[kG];lia))
 refine az (vp ?_ (dG _))
 refine iY ?_
 have ho6:(((s.heap.update a (Obj.mapSeq λ_=>(#[]:Array Value))).push (seqObj "tuple" vs.toArray 0)).push (seqObj "list" #[] 0)).get? a=some (seqObj "list" #[] e1):=cF _ (cF _ ho1)
 have keep:∀c o,c≠a->s.heap.get? c=some o->(((s.heap.update a (Obj.mapSeq λ_=>(#[]:Array Value))).push (seqObj "tuple" vs.toArray 0)).push (seqObj "list" #[] 0)).get? c=some o:=λc o nc e=>
  cF _ (cF _ ((sb.2 c nc).trans e))
 show wpAny (model prog w) A _ P E { s with heap:=((s.heap.update a (Obj.mapSeq λ_=>(#[]:Array Value))).push (seqObj "tuple" vs.toArray 0)).push (seqObj "list" #[] 0) }
 dsimp only
 by_cases h2:vs.toArray.size<2
 ·rw[aB h2,aB h2]
  refine az (aK ?_)
  rw[StateT.run_pure]
  refine az (aK ?_)
  dsimp only
  refine az (seqEpoch_at ho6 rfl ?_)
  have hp:md (List.toArray (List.range vs.length)) vs.length:=⟨zj _⟩
  have Qq:(arrOf (SortSt.mk' general' (vs.toArray.zip vs.toArray) #[] 7 none)).map (·.2)=((List.toArray (List.range vs.length)).toList.map λi=>vs.getD i Value.none).toArray:=by
   have z:=kat_snds (ks:=vs) (vs:=vs) rfl (st:=SortSt.mk' general' (vs.toArray.zip vs.toArray) #[] 7 none) (p:=List.toArray (List.range vs.length)) (by
    have e:=kas_range (vs.toArray.zip vs.toArray)
    rw[show(vs.toArray.zip vs.toArray).size=vs.length by simp]at e
    exact e.symm)
   exact z
  rw[Qq]
  refine az (pk ho6 rfl ?_ (dG _) (by
   have z:(((List.toArray (List.range vs.length)).toList.map λi=>vs.getD i Value.none).toArray).size<=sizeLine:=by rw[kG];simp;lia
   exact vB z))
  simp only[Gf,fB,bU]
  exact aK (h _ hp λi hi=>by lia)
 ·rw[aA h2,aA h2]
  have h2':2<=vs.length:=by lia
  refine az (dq (hk _ keep h2') (λk s' ⟨e2,e3⟩=>?_) λ_ _ x=>x.elim)
  subst e2 e3
  have g:(kas_sort vs.length).kasWp (kas_ask prog w A k vs) (λp Fu=>(md p vs.length/\rA b p vs.length)/\Fu={ s with heap:=((s.heap.update a (Obj.mapSeq λ_=>(#[]:Array Value))).push (seqObj "tuple" vs.toArray 0)).push (seqObj "list" #[] 0) }) { s with heap:=((s.heap.update a (Obj.mapSeq λ_=>(#[]:Array Value))).push (seqObj "tuple" vs.toArray 0)).push (seqObj "list" #[] 0) }:=
   KG.wp (λi j C hi hj hC=>hc _ keep i j C hi hj hC) (λp hp=>⟨hp,rfl⟩) (Uc O h2')
  refine az (dq (kat_run (Q:=λbu s'=>∃p:Array Nat,arrOf bu=p.map (kas_item (vs.toArray.zip vs.toArray))/\failedOf bu=none/\(md p vs.length/\rA b p vs.length)/\s'=_) rfl h2' QG (λp' bu s' _ a2 a3 a4=>⟨p',a2,a3,a4.1,a4.2⟩) g) ?_ λ_ _ e=>e)
  rintro⟨⟨⟩,bu⟩ s' ⟨p,har,hf,⟨hp,aEh⟩,rfl⟩
  dsimp only
  have Qq:=kat_snds rfl har
  rw[Qq]
  refine az (seqEpoch_at ho6 rfl ?_)
  refine az (pk ho6 rfl ?_ (dG _) (by
   have z:((p.toList.map λi=>vs.getD i Value.none).toArray).size<=sizeLine:=by rw[kG,cZ,aM,dF,hp.size];lia
   exact vB z))
  rw[hf]
  simp only[Gf,fB,bU]
  exact aK (h p hp aEh)
theorem G'{l:Addr}{vs:List Value}{κ:SortKind}{b:Nat->Nat->Bool}{Q:Value->Shared->Prop}(hl:s.heap.IsList l vs.toArray)(QG:vs.length<64)(O:Ord b vs.length)
  (hk:∀h',(∀c o,s.heap.get? c=some o->h'.get? c=some o)->2<=vs.length->wpAny (model prog w) A.in1.in1 (keyKind' vs.toArray) (λk s'=>k=κ/\s'={ s with heap:=h' }) (λ_ _=>False) { s with heap:=h' })
  (hc:∀h',(∀c o,s.heap.get? c=some o->h'.get? c=some o)->∀i j C,i<vs.length->j<vs.length->C (b i j) { s with heap:=h' }->kas_ask prog w A.in1.in1 κ vs i j C { s with heap:=h' })
  (h:∀p,md p vs.length->rA b p vs.length->Q (.ref (s.heap.objs.size+1)) { s with heap:=sortedAll s.heap vs (p.toList.map λi=>vs.getD i Value.none).toArray }) :
  wpAny (model prog w) A (call (.builtin "sorted") [.ref l]) Q E s:=by
 refine Calls.call_function_entry kind_sorted plain_sorted entry_sorted (args_sorted1 _) ?_
 unfold Builtin.«sorted»
 refine az (m:=checkCount "sorted" 1 1 _) (aK ?_)
 refine az (collect_list hl ?_ (by rw[kG];lia))
 refine az (vp ?_ (by rw[kG];lia))
 have hsz:((s.heap.push (seqObj "list" #[] 0)).update s.heap.objs.size (Obj.mapSeq (· ++ vs.toArray))).objs.size=s.heap.objs.size+1:=by
  rw[Heap.size_update,size_push']
 have Mb:(((s.heap.push (seqObj "list" #[] 0)).update s.heap.objs.size (Obj.mapSeq (· ++ vs.toArray))).push (seqObj "list" vs.toArray 0)).get? (s.heap.objs.size+1)=some (seqObj "list" vs.toArray 0):=by
  rw[<-hsz];exact dD _ rfl
 have keep:∀b o,s.heap.get? b=some o->b≠s.heap.objs.size+1/\(((s.heap.push (seqObj "list" #[] 0)).update s.heap.objs.size (Obj.mapSeq (· ++ vs.toArray))).push (seqObj "list" vs.toArray 0)).get? b=some o:=λb o q=>by
  have iQ:b<s.heap.objs.size:=aS q
  refine⟨bK (pH iQ),?_⟩
  rw[Heap.get?_push_ne _ _ _ (by rw[hsz];exact bK (pH iQ)),Heap.get?_update_ne _ _ _ _ (bK iQ),Heap.get?_push_ne _ _ _ (bK iQ)]
  exact q
 show wpAny _ _ _ _ _ { s with heap:=((s.heap.push (seqObj "list" #[] 0)).update s.heap.objs.size (Obj.mapSeq (· ++ vs.toArray))).push (seqObj "list" vs.toArray 0) }
 rw[hsz]
 refine az (iY (lL slot_list_sort ⟨_,Mb,rfl⟩ entry_list_sort (xq (κ:=κ) Mb QG O (λh' k h2=>?_) (λh' k=>?_) λp a1 a2=>⟨_,rfl,?_⟩) (args_list_sort _)))
 ·exact hk h' (λc o e=>k c o (keep c o e).1 (keep c o e).2) h2
 ·exact hc h' (λc o e=>k c o (keep c o e).1 (keep c o e).2)
 ·exact aK ⟨_,rfl,h p a1 a2⟩
end
def T7(x y:Str×Bool):Bool:=decide (x.1.cps.toList<y.1.cps.toList)
def ltB(cl:Cl)(i j:Nat):Bool:=T7 (cl.getD i (("" : Str),false)) (cl.getD j (("" : Str),false))
theorem Bi{cl:Cl}(nd:(cl.map (·.1)).Nodup):Ord (ltB cl) cl.length where
 tr:=λi j k _ _ _ h1 h2=>by
  unfold ltB T7 at *
  rw[g8]at *
  exact rK h1 h2
 asy:=λi j _ _ h=>by
  unfold ltB T7 at *
  rw[g8]at h
  exact decide_eq_false λz=>lK _ (rK h z)
 tot:=λi j hi hj d=>by
  unfold ltB T7
  rw[g8,g8,gi,gi,bD hi,bD hj]
  refine xR λz=>?_
  rw[not_or]at z
  have e:=uR (FK (rC.mp z.2) (rC.mp z.1))
  refine d ((mD (xs:=cl.map (·.1)) (h₀:=by simpa using hi) (h₁:=by simpa using hj) nd).mp ?_)
  rw[pF,pF]
  exact e
section
variable {X:Cx}{pins:List (Addr×Obj)}{s:Shared}{σ:St}{H:Hp}{A:Around}
theorem Dm{P:Program}{w:World}{h:Heap}{p:Addr}{x:Str×Bool}(bM:ju P w H h)(e:gE H p x):∃t,IsTup h p #[.str x.1 t,.bool x.2]:=by
 obtain⟨_,its,r,ht⟩:=bM p _ e
 cases r with
 | cons r1 r2=>
  obtain⟨t,rfl⟩:=r1
  cases r2 with
  | cons r3 r4=>
   cases r4
   cases r3
   exact⟨t,ht⟩
theorem Q5{P:Program}{w:World}{E:Value->Shared->Prop}{p q:Addr}{x y:Str×Bool}{t u:Tok}{C:Bool->Shared->Prop}(hp:IsTup s.heap p #[.str x.1 t,.bool x.2])(hq:IsTup s.heap q #[.str y.1 u,.bool y.2])(rz:x.1=y.1->x.2=y.2)(h:C (T7 x y) s):wpAny (model P w) A (keyLt' (tuples' true) (.ref p) (.ref q)) C E s:=by
 obtain⟨o1,e1,c1,n1,d1⟩:=id hp
 obtain⟨o2,e2,c2,n2,d2⟩:=id hq
 refine kat_lt e1 d1 e2 d2 ?_
 show KatLex P w A true _ C [(.str x.1 t,.str y.1 u),(.bool x.2,.bool y.2)] 0 s
 refine kat_cons (ng (y:=.str x.1) (x:=.str y.1) ⟨t,rfl⟩ ⟨u,rfl⟩ rfl rfl P w _ _ ?_)
 refine kat_go (λe=>kat_yes (kat_cons (ng (y:=.bl x.2) (x:=.bl y.2) rfl rfl rfl rfl P w _ _ ?_))) λe=>kat_no (oneLt_str h)
 have e1:x.1=y.1:=by simpa [J']using e
 have e2:=rz e1
 refine kat_go (λ_=>kat_yes (kat_nil ?_)) λe'=>absurd e2 (by simpa [J']using e')
 have z:T7 x y=false:=by unfold T7;rw[e1];exact decide_eq_false (lK _)
 rw[z]at h
 exact h
theorem qV{h:Heap}:∀{l:List Value},(∀v∈l,∃p x t,∃b:Bool,v=.ref p/\IsTup h p #[.str x t,.bool b])->∃fs,KatTups h l fs/\fs.length=l.length/\∀f∈fs,∃(x:Str) (t:Tok),f=.str x t
 | [],_=>⟨[],.nil,rfl,λ_ z=>nomatch z⟩
 | v::l,hv=>by
  obtain⟨p,x,t,b,rfl,hd⟩:=hv v di
  obtain⟨o,e,c,n,d⟩:=hd
  obtain⟨fs,r1,r2,r3⟩:=qV (l:=l) λu hu=>hv u (fw _ hu)
  exact⟨.str x t::fs,.cons e c d rfl r1,by rw[gb,gb,r2],λf hf=>by
   rcases dR.mp hf with rfl | hf
   ·exact⟨x,t,rfl⟩
   ·exact r3 f hf⟩
theorem fo:∀{l:List Addr} {us:List Value},Vals (List.map V.ref l) us->us=l.map Value.ref
 | [],_,.nil=>rfl
 | a::l,_,.cons r1 r2=>by rw[fo r2,r1];rfl
theorem qw:∀l:List Addr,Vals (List.map V.ref l) (List.map Value.ref l)
 | []=>.nil
 | a::l=>.cons rfl (qw l)
def vY:List V->Hp->VK->Prop:=λvs H Q=>∃a,vs=[.ref a]/\∃ps cl,H a=some (.lst (List.map V.ref ps))/\dC H ps cl/\cl.length<64/\(cl.map (·.1)).Nodup/\
 ∀qs dl,dl.Perm cl->dl.Pairwise (λx y=>x.1.cps.toList<y.1.cps.toList)->dC H qs dl->∀p,H p=none->Q (.ref p) (upd H p (.lst (List.map V.ref qs)))
theorem wN:dy X (.builtin "sorted") vY:=by
 intro pins s σ H vs us Q I rv h
 obtain⟨a,rfl,ps,cl,hL,lits,QG,nd,q⟩:=h
 obtain⟨u,rfl,ru⟩:=vals1 rv
 cases ru
 obtain⟨its,r,pl,hz⟩:=I.list (aP hL)
 have ei:=fo r
 subst ei
 have ll:=lits.1
 have lm:(ps.map Value.ref).length=cl.length:=by rw[aM,ll]
 have obj:∀i,i<ps.length->∃t,IsTup s.heap (ps.getD i 0) #[.str (cl.getD i (("" : Str),false)).1 t,.bool (cl.getD i (("" : Str),false)).2]/\(ps.map Value.ref).getD i Value.none=.ref (ps.getD i 0):=λi hi=>by
  have e1:ps[i]?=some ps[i]:=bD hi
  have e2:cl[i]?=some (cl[i]'(by lia)):=bD (by lia)
  obtain⟨t,ht⟩:=Dm I.bM (lits.2 i _ _ e1 e2)
  refine⟨t,?_,?_⟩
  ·rw[gi,e1,gi,e2];exact ht
  ·rw[gi,cR,e1,gi,e1];rfl
 have up:∀{h':Heap} {p:Addr} {xs:Array Value},(∀c o,s.heap.get? c=some o->h'.get? c=some o)->IsTup s.heap p xs->IsTup h' p xs:=λk z=>by
  obtain⟨o,e,c,n,d⟩:=z
  exact⟨o,k _ _ e,c,n,d⟩
 refine G' (κ:=tuples' true) (b:=ltB cl) pl.isList (by lia) (by rw[lm];exact Bi nd) (λh' k h2=>?_) (λh' k i j C hi hj hC=>?_) λp hp ha=>?_
 ·obtain⟨fs,kt,lf,hf⟩:=qV (h:=h') (l:=ps.map Value.ref) λv hv=>by
   obtain⟨i,hi,rfl⟩:=gD.mp hv
   rw[aM]at hi
   obtain⟨t,ht,e⟩:=obj i hi
   refine⟨_,_,t,_,?_,up k ht⟩
   rw[<-e,gi,bD (by simpa using hi)]
   rfl
  exact kat_kind (M:=model X.prog X.w) (A:=X.A.in1.in1) (s:={ s with heap:=h' }) (T:=Value.type "str") (Q:=λκ s2=>κ=tuples' true/\s2={ s with heap:=h' }) kt (by rw[lf];lia) (λv hv=>by
   obtain⟨x,t,rfl⟩:=hf v hv
   exact .now) (by decide) ⟨by congr 1,rfl⟩
 ·rw[aM]at hi hj
  obtain⟨t,ht,e⟩:=obj i hi
  obtain⟨t',ht',e'⟩:=obj j hj
  unfold kas_ask
  rw[e,e']
  refine Q5 (s:={ s with heap:=h' }) (up k ht) (up k ht') (λz=>?_) hC
  have Fx:i=j:=xR λd=>by
   rcases(Bi nd).tot i j (by lia) (by lia) d with y | y <;>
   ·unfold ltB T7 at y
    rw[z]at y
    exact lK _ (of_decide_eq_true y)
  rw[Fx]
 ·rw[aM]at hp ha
  obtain⟨c,hc⟩:=sortedAll_at s.heap (ps.map Value.ref) ((p.toList.map λi=>(ps.map Value.ref).getD i Value.none).toArray)
  have iQ:∀i∈p.toList,i<ps.length:=λi hi=>by
   have:=(hp.perm.mem_iff (a:=i)).mp (by simpa using hi)
   simpa using this
  have eo:(p.toList.map λi=>(ps.map Value.ref).getD i Value.none)=(p.toList.map λi=>ps.getD i 0).map Value.ref:=by
   rw[iG]
   exact tR λi hi=>let ⟨_,_,e⟩:=obj i (iQ i hi);e
  have hn:H (s.heap.objs.size+1)=none:=I.bM.fresh (iX _)
  have J4:md p cl.length:=by rw[<-ll];exact hp
  have pm:(p.toList.map λi=>cl.getD i (("" : Str),false)).Perm cl:=OJ J4
  have lq:dC H (p.toList.map λi=>ps.getD i 0) (p.toList.map λi=>cl.getD i (("" : Str),false)):=by
   refine⟨by rw[aM,aM],λi b x eb ex=>?_⟩
   rw[cR]at eb ex
   cases ep:p.toList[i]? with
   | none=>rw[ep]at eb;cases eb
   | some m=>
    rw[ep]at eb ex
    have hm:=iQ m (dE ep)
    have e1:ps[m]?=some ps[m]:=bD hm
    have e2:cl[m]?=some (cl[m]'(by lia)):=bD (by lia)
    rw[pD,gi,e1]at eb
    rw[pD,gi,e2]at ex
    cases eb
    cases ex
    exact lits.2 m _ _ e1 e2
  refine⟨.ref (s.heap.objs.size+1),_,I.laid (t':=s.toks) (o:=.lst (List.map V.ref (p.toList.map λi=>ps.getD i 0))) (λb ob e=>sortedAll_old e) (iX _) ?_,rfl,q _ _ pm ?_ lq _ hn⟩
  ·refine⟨?_,(p.toList.map λi=>ps.getD i 0).map Value.ref,c,qw _,?_⟩
   ·rw[aM,aM,dF,hp.size];exact cS (by lia)
   ·have o6:=hc
    rw[eo]at o6 ⊢
    exact o6
  ·have:=Fg (l:=cl) (d:=(("" : Str),false)) (R:=T7) J4 (Bi nd) (by rw[<-ll];exact ha)
   exact this.imp λ{x y} h=>of_decide_eq_true h
def iJ(bs:List Addr)(ts:Cl)(x:Str×Bool):Value->Bool
 | .ref p=>(bs.zip ts).any λq=>decide (q.1=p)&&decide (q.2=x)
 | _=>false
theorem wH{bs:List Addr}{ts:Cl}{x:Str×Bool}(a:dC H bs ts){i:Nat}{p:Addr}{t:Str×Bool}(h1:bs[i]?=some p)(h2:ts[i]?=some t):iJ bs ts x (.ref p)=decide (t=x):=by
 unfold iJ
 rw[iZ,qi,se]
 constructor
 ·rintro⟨⟨p',t'⟩,hm,e⟩
  simp only[dh,g8]at e
  obtain⟨rfl,rfl⟩:=e
  obtain⟨j,hj,ej⟩:=gD.mp hm
  rw[List.length_zip]at hj
  rw[List.getElem_zip]at ej
  injection ej with e1 e2
  have g1:=a.2 j _ _ (bD (by lia)) (bD (by lia))
  rw[e1,e2]at g1
  have g:=(a.2 i _ _ h1 h2).symm.trans g1
  simp only[pI,HO.tup.injEq,rP,V.str.injEq,V.bl.injEq,and_true]at g
  exact mq g.1 g.2
 ·rintro rfl
  refine⟨(p,t),?_,by simp⟩
  have i1:=cy.mp h1
  have i2:=cy.mp h2
  refine gD.mpr ⟨i,by rw[List.length_zip];have:=i1.1;have:=i2.1;lia,?_⟩
  rw[List.getElem_zip,i1.2,i2.2]
theorem oM{bs:List Addr}{ts:Cl}{x:Str×Bool}(a:dC H bs ts):(bs.map Value.ref).any (iJ bs ts x)=decide (x∈ts):=by
 have lt:=a.1
 rw[iZ,qi,se]
 constructor
 ·rintro⟨u,hu,e⟩
  obtain⟨p,hp,rfl⟩:=bH.mp hu
  obtain⟨i,hi,rfl⟩:=gD.mp hp
  rw[wH a (bD hi) (bD (by lia)),se]at e
  rw[<-e];exact rX _
 ·intro h
  obtain⟨i,hi,rfl⟩:=gD.mp h
  exact⟨.ref (bs[i]'(by lia)),bH.mpr ⟨_,rX _,rfl⟩,by rw[wH a (bD (by lia)) (bD hi),se]⟩
theorem uY{a:Addr}{u:Str×Bool}{bs:List Addr}{ts:Cl}(I:Inv X pins σ H s)(ha:gE H a u)(sa:dC H bs ts)(hu:A.units<cLine):∀z∈bs.map Value.ref,SeqAt.EqAt A s z (.ref a) (iJ bs ts u z):=λz hz=>by
 obtain⟨p,hp,rfl⟩:=bH.mp hz
 obtain⟨i,hi,rfl⟩:=gD.mp hp
 have lt:=sa.1
 have e1:bs[i]?=some bs[i]:=bD hi
 have e2:ts[i]?=some (ts[i]'(by lia)):=bD (by lia)
 rw[wH sa e1 e2]
 exact QL I (sa.2 i _ _ e1 e2) ha hu
def Dd(neg:Bool):R2:=λx y H Q=>∃a L,x=.ref a/\y=.ref L/\∃u bs ts,gE H a u/\(H L=some (.tup (List.map V.ref bs))\/H L=some (.lst (List.map V.ref bs)))/\dC H bs ts/\Q (.bl (if neg then !decide (u∈ts) else decide (u∈ts))) H
theorem Hn(hu:X.A.units+1<cLine):kF X (compareOp .In) (Dd false):=by
 intro pins s σ H x y v u Q I rx ry h
 obtain⟨a,L,rfl,rfl,w,bs,ts,ha,hL,sa,q⟩:=h
 cases rx;cases ry
 rcases hL with hL | hL
 ·obtain⟨its,r,pl,hz⟩:=I.tuple (bC hL)
  have e:=fo r
  subst e
  refine SeqAt.in_tupleAt (iJ bs ts w) pl (λz hz=>uY I ha sa (by first | (rw[mh];lia) | lia) z (by simpa using hz)) ⟨.bl _,H,I,rfl,?_⟩
  rw[show(bs.map Value.ref).toArray.any (iJ bs ts w)=(bs.map Value.ref).any (iJ bs ts w) by simp,oM sa]
  exact q
 ·obtain⟨its,r,pl,hz⟩:=I.list (aP hL)
  have e:=fo r
  subst e
  refine SeqAt.in_listAt (iJ bs ts w) pl.isList (λz hz=>uY I ha sa (by first | (rw[mh];lia) | lia) z (by simpa using hz)) ⟨.bl _,H,I,rfl,?_⟩
  rw[show(bs.map Value.ref).toArray.any (iJ bs ts w)=(bs.map Value.ref).any (iJ bs ts w) by simp,oM sa]
  exact q
theorem iV(hu:X.A.units+1<cLine):kF X (compareOp .NotIn) (Dd true):=by
 intro pins s σ H x y v u Q I rx ry h
 obtain⟨a,L,rfl,rfl,w,bs,ts,ha,hL,sa,q⟩:=h
 cases rx;cases ry
 rcases hL with hL | hL
 ·obtain⟨its,r,pl,hz⟩:=I.tuple (bC hL)
  have e:=fo r
  subst e
  refine SeqAt.notIn_tupleAt (iJ bs ts w) pl (λz hz=>uY I ha sa (by first | (rw[mh];lia) | lia) z (by simpa using hz)) ⟨.bl _,H,I,rfl,?_⟩
  rw[show(bs.map Value.ref).toArray.any (iJ bs ts w)=(bs.map Value.ref).any (iJ bs ts w) by simp,oM sa]
  exact q
 ·obtain⟨its,r,pl,hz⟩:=I.list (aP hL)
  have e:=fo r
  subst e
  refine SeqAt.notIn_listAt (iJ bs ts w) pl.isList (λz hz=>uY I ha sa (by first | (rw[mh];lia) | lia) z (by simpa using hz)) ⟨.bl _,H,I,rfl,?_⟩
  rw[show(bs.map Value.ref).toArray.any (iJ bs ts w)=(bs.map Value.ref).any (iJ bs ts w) by simp,oM sa]
  exact q
end
section
variable {prog:Program}{w:World}{A:Around}{E:Value->Shared->Prop}{s:Shared}
theorem De{b:Bool}{Q:Int->Shared->Prop}(h:Q (hashInt (if b then 1 else 0)) { s with toks:=s.toks+1 }):wpAny (model prog w) A (pyHash (.bool b)) Q E s:=by
 have hr:=rawHash_range (if b then 1 else 0)
 have hT:s.TypeIs (.bool b) "bool":=rfl
 unfold pyHash
 have hv:[Value.bool b].any Value.onHeap=false:=rfl
 refine az ?_
 rw[cRoomFor,aA (by rw[hv];exact eM)]
 refine aK ?_
 refine az (mB hT zg.lookup ?_)
 show wpAny _ _ (if (some (Value.builtin "int.__hash__")==some Value.none)=true then _ else _) Q E s
 rw[aA (by rw[beq_builtin_none];exact eM)]
 refine az (mB hT zg.lookup ?_)
 show wpAny _ _ (callSpecialIfBoundUnlessNone? (.bool b) "__hash__" _ >>= _) Q E s
 refine az (Np hT zg
  (lL zg hT F.entry_int_hash
   (show wpAny _ _ (do ret (<-mkInt (rawHash (if b then 1 else 0)))) _ _ s from wpAny_ret_mkInt ?_) (F.args_int_hash_1 _)))
 show wpAny _ _ (if (decide (-(2:Int) ^ 63<=rawHash (if b then 1 else 0))&&decide (rawHash (if b then 1 else 0)<2 ^ 63))=true then _ else _) Q E _
 rw[aB (by rw[decide_eq_true hr.1,decide_eq_true hr.2];rfl)]
 exact aK h
end
def aAC:Str ⊕ Bool->Value->Bool
 | .inl x,v=>Value.isStrOf x v
 | .inr b,.bool c=>c==b
 | .inr _,_=>false
def ZR:Str ⊕ Bool->V
 | .inl x=>.str x
 | .inr b=>.bl b
theorem ke{k:Str ⊕ Bool}{v:Value}(h:aAC k v=true):RelV (ZR k) v:=by
 cases k with
 | inl x=>obtain⟨t,rfl⟩:=FQ h;exact⟨t,rfl⟩
 | inr b=>cases v with
  | bool c=>have:c=b:=eq_of_beq h;rw[this];rfl
  | _=>exact Bool.noConfusion h
theorem Jq(k:Str ⊕ Bool):iK (ZR k)=true:=by cases k <;> rfl
theorem ZQ(j k:Str ⊕ Bool):J' (ZR j) (ZR k)=decide (j=k):=by
 rw[iZ,g8]
 cases j <;> cases k <;> simp[ZR,J']
def Wt(w:World):Str ⊕ Bool->Int
 | .inl x=>hashStr w x
 | .inr b=>hashInt (if b then 1 else 0)
def Hc(prog:Program)(w:World):KeyKind prog w (Str ⊕ Bool) where
 is:=aAC
 hash:=Wt w
 inj:=λv j k h1 h2=>by
  have r1:=ke h1
  have r2:=ke h2
  cases j with
  | inl x=>
   obtain⟨t,rfl⟩:=r1
   cases k with
   | inl y=>obtain⟨u,e⟩:=r2;injection e with e;rw[e]
   | inr b=>cases r2
  | inr b=>
   cases k with
   | inl y=>obtain⟨u,e⟩:=r2;rw[e]at r1;cases r1
   | inr c=>have e:Value.bool b=Value.bool c:=(show v=Value.bool b from r1).symm.trans r2;injection e with e;rw[e]
 byValue:=λk v h=>by
  have r:=ke h
  cases k with
  | inl x=>obtain⟨t,rfl⟩:=r;rfl
  | inr b=>cases r;rfl
 pyHash:=λ{A E s k v Q} h hq=>by
  have r:=ke h
  cases k with
  | inl x=>obtain⟨t,rfl⟩:=r;exact wpAny_pyHash_str hq
  | inr b=>cases r;exact De hq
 eqBool:=λ{A E s a b u v Q} h1 h2 hq=>ng (ke h1) (ke h2) (Jq a) (Jq b) prog w E Q (by rw[ZQ];exact hq)
 «strs»:=λk x t v h=>by
  cases k with
  | inl y=>
   have h':Value.isStrOf y (.str x t)=true:=h
   obtain⟨u,e⟩:=FQ h'
   injection e with e
   subst e
   cases v <;> rfl
  | inr b=>exact Bool.noConfusion h
def Af(x:Str×Bool):List (Str ⊕ Bool):=[.inl x.1,.inr x.2]
theorem N9{x y:Str×Bool}(h:Af x=Af y):x=y:=by
 simp only[Af,rP,Sum.inl.injEq,Sum.inr.injEq,and_true]at h
 exact mq h.1 h.2
section
variable {prog:Program}{w:World}{A:Around}{E:Value->Shared->Prop}{s:Shared}{h h':Heap}
theorem wj{q:Addr}{x:Str×Bool}{t:Tok}(hq:IsTup h q #[.str x.1 t,.bool x.2]):IsTupleKey (Hc prog w) h (Af x) q:=by
 obtain⟨o,e,c,n,d⟩:=hq
 exact⟨o,_,n,e,c,d,.cons (show(x.1==x.1)=true by simp) (.cons (show(x.2==x.2)=true by simp) .nil)⟩
inductive eG (h:Heap):List Addr->Cl->Prop
 | nil:eG h [] []
 | cons {q:Addr} {x:Str×Bool} {t:Tok} {qs:List Addr} {cl:Cl}:IsTup h q #[.str x.1 t,.bool x.2]->eG h qs cl->eG h (q::qs) (x::cl)
def Kp(h:Heap)(cl:Cl)(a:Addr):Prop:=∃qs:List Addr,IsTup h a (qs.map Value.ref).toArray/\eG h qs cl
theorem IsTup.items{p:Addr}{xs ys:Array Value}(a:IsTup h p xs)(b:IsTup h p ys):xs=ys:=by
 obtain⟨o,e,c,n,d⟩:=a
 obtain⟨o',e',c',n',d'⟩:=b
 rw[e]at e'
 cases e'
 rw[d]at d'
 injection d'
theorem eG.inj:∀{qs:List Addr} {x y:Cl},eG h qs x->eG h qs y->x=y
 | _,_,_,.nil,.nil=>rfl
 | _,_,_,.cons h1 r1,.cons h2 r2=>by
  have e:=IsTup.items h1 h2
  simp only[Array.mk.injEq,rP,Value.str.injEq,Value.bool.injEq,and_true]at e
  rw[r1.inj r2,mq e.1.1 e.2]
theorem CQ:∀{qs ps:List Addr},qs.map Value.ref=ps.map Value.ref->qs=ps
 | [],[],_=>rfl
 | [],_::_,e=>by simp at e
 | _::_,[],e=>by simp at e
 | a::l,b::m,e=>by
  simp only[eI,rP,Value.ref.injEq]at e
  rw[e.1,CQ e.2]
theorem Kp.inj{x y:Cl}{a:Addr}(hx:Kp h x a)(hy:Kp h y a):x=y:=by
 obtain⟨qs,t1,p1⟩:=hx
 obtain⟨ps,t2,p2⟩:=hy
 have e:=IsTup.items t1 t2
 have e':qs.map Value.ref=ps.map Value.ref:=gj Array.toList e
 have:=CQ e'
 subst this
 exact p1.inj p2
theorem xY{a d:Addr}{o:Obj}{es ep}{xs:Array Value}(x:IsTup h a xs)(ho:h.get? d=some o)(hd:o.data=.dict es ep)(hs:Heap.SameBut d h h'):IsTup h' a xs:=by
 obtain⟨o',e,c,n,dd⟩:=x
 have rz:a≠d:=by
  rintro rfl
  rw[ho]at e
  cases e
  rw[hd]at dd
  cases dd
 exact⟨o',(hs.2 a rz).trans e,c,n,dd⟩
theorem eG.imp(k:∀{a xs},IsTup h a xs->IsTup h' a xs):∀{qs:List Addr} {cl:Cl},eG h qs cl->eG h' qs cl
 | _,_,.nil=>.nil
 | _,_,.cons h1 r1=>.cons (k h1) (r1.imp k)
def ib(prog:Program)(w:World)(x:Str×Bool):Int:=tupleKeyHash (Hc prog w) (Af x)
def Iw(prog:Program)(w:World)(cl:Cl):Int:=reduceHash (Builtin.Tuple.tupleHashOf (cl.map (ib prog w)))
theorem eG.length:∀{qs:List Addr} {cl:Cl},eG h qs cl->qs.length=cl.length
 | _,_,.nil=>rfl
 | _,_,.cons _ r=>by rw[gb,gb,r.length]
theorem Lb{cl:Cl}{a:Addr}{Q:Int->Shared->Prop}(hu:A.units+1<cLine)(hk:Kp s.heap cl a)(hq:Q (Iw prog w cl) { s with toks:=s.toks+(3*cl.length+1) }):wpAny (model prog w) A (pyHash (.ref a)) Q E s:=by
 obtain⟨qs,⟨o,ho,hc,n,hd⟩,pr⟩:=hk
 have hT:s.TypeIs (.ref a) "tuple":=⟨o,ho,hc⟩
 unfold pyHash
 first | unfold pyHashByItsType | skip
 first | refine az (wpAny_cRoomFor_or (.inr (by lia)) ?_) | skip
 refine az (mB hT zk.lookup ?_)
 show wpAny _ _ (if (some (Value.builtin "tuple.__hash__")==some Value.none)=true then _ else _) Q E s
 rw[aA (by rw[beq_builtin_none];exact eM)]
 refine az (mB hT zk.lookup ?_)
 show wpAny _ _ (callSpecialIfBoundUnlessNone? (.ref a) "__hash__" _ >>= _) Q E s
 refine az (Np hT zk (lL zk hT F.entry_tuple_hash ?_ (F.args_tuple_hash_1 _)))
 show wpAny _ _ (Builtin.Tuple.tupleItemsOf (.ref a) >>= _) _ _ s
 refine az (wpAny_tupleItemsOf ho hd ?_)
 refine az ?_
 rw[<-zA,tS]
 refine zi _
  (λrest (b:Array Int) s'=>∃done left rs,cl=done++left/\rest=rs.map Value.ref/\eG s.heap rs left/\b.toList=done.map (ib prog w)/\s'={ s with toks:=s.toks+3*done.length })
  _ ?_ ?_ _ _ ⟨[],cl,qs,rfl,rfl,pr,rfl,rfl⟩
 ·rintro x rest b s' ⟨done,left,rs,rfl,er,hl,hb,rfl⟩
  cases hl with
  | nil=>cases er
  | @cons q x1 t qs' cl' h1 Vz=>
   rw[eI]at er
   injection er with er1 er2
   subst er1 er2
   refine az (wpAny_pyHash_tuple (s:={ s with toks:=s.toks+3*done.length }) (by rw[mh];lia) (wj h1) ?_)
   first
    | exact aK ⟨done++[x1],cl',qs',by simp,rfl,Vz,by simp[hb,ib],by simp[rL,Nat.mul_add,Af]⟩
    | exact az (aK (aK ⟨done++[x1],cl',qs',by simp,rfl,Vz,by simp[hb,ib],by simp[rL,Nat.mul_add,Af]⟩))
 ·rintro b s' ⟨done,left,rs,rfl,er,hl,hb,rfl⟩
  cases hl with
  | cons _ _=>cases er
  | nil=>
   rw[jB]at hq
   show wpAny _ _ (retInt (Builtin.Tuple.tupleHashOf b.toList)) _ _ _
   rw[hb]
   refine wpAny_ret_mkInt ?_
   show wpAny _ _ (if (decide (-(2:Int) ^ 63<=Builtin.Tuple.tupleHashOf (done.map (ib prog w)))&&decide (Builtin.Tuple.tupleHashOf (done.map (ib prog w))<2 ^ 63))=true then _ else _) Q E _
   unfold Iw reduceHash at hq
   by_cases hr:(decide (-(2:Int) ^ 63<=Builtin.Tuple.tupleHashOf (done.map (ib prog w)))&&decide (Builtin.Tuple.tupleHashOf (done.map (ib prog w))<2 ^ 63))=true
   ·rw[aB hr]
    rw[aB hr]at hq
    exact aK (by simpa [rL]using hq)
   ·rw[aA hr]
    rw[aA hr]at hq
    exact az (iy (aK (by simpa [rL]using hq)))
theorem eG.at:∀{qs:List Addr} {cl:Cl} {j:Nat} {q:Addr},eG h qs cl->qs[j]?=some q->∃x t,cl[j]?=some x/\IsTup h q #[.str x.1 t,.bool x.2]
 | _,_,0,_,.cons h1 r1,e=>by cases e;exact⟨_,_,rfl,h1⟩
 | _,_,j+1,_,.cons h1 r1,e=>r1.at (j:=j) e
theorem El{p q:Addr}{x y:Str×Bool}{t u:Tok}(hu:A.units<cLine)(hp:IsTup s.heap p #[.str x.1 t,.bool x.2])(hq:IsTup s.heap q #[.str y.1 u,.bool y.2]):SeqAt.EqAt A s (.ref p) (.ref q) (decide (x=y)):=λprog w E Q h=>by
 refine wpAny_eqBool_tuple (knd:=Hc prog w) hu (wj hp) (wj hq) ?_
 have e:decide (Af x=Af y)=decide (x=y):=by
  rw[iZ,g8,g8]
  exact⟨N9,λz=>by rw[z]⟩
 rw[e];exact h
theorem Io{a b:Addr}{cl dl:Cl}(hu:A.units+1<cLine)(ha:Kp s.heap cl a)(hb:Kp s.heap dl b):SeqAt.EqAt A s (.ref a) (.ref b) (decide (cl=dl)):=by
 by_cases e:a=b
 ·subst e
  rw[decide_eq_true (ha.inj hb)]
  exact SeqAt.EqAt.same _
 ·obtain⟨qs,t1,p1⟩:=ha
  obtain⟨ps,t2,p2⟩:=hb
  have l1:=p1.length
  have l2:=p2.length
  have h:=SeqAt.RcAt.tuples (A:=A) (e:=λj=>decide (cl[j]?=dl[j]?)) t1 t2 (by lia) λj h1 h2=>by
   have j1:j<qs.length:=by simpa using h1
   have j2:j<ps.length:=by simpa using h2
   obtain⟨x,t,ex,hx⟩:=p1.at (bD j1)
   obtain⟨y,u,ey,hy⟩:=p2.at (bD j2)
   have v1:(qs.map Value.ref).toArray[j]=.ref qs[j]:=by simp
   have v2:(ps.map Value.ref).toArray[j]=.ref ps[j]:=by simp
   rw[v1,v2,ex,ey]
   have e3:decide ((some x:Option (Str×Bool))=some y)=decide (x=y):=by simp only[pI]
   rw[e3]
   exact El (by first | (rw[mh];lia) | lia) hx hy
  rw[cZ,cZ,aM,aM,l1,l2,Fh]at h
  exact .of_refs e h
theorem Hh{q:Addr}{x:Str×Bool}{t:Tok}(n:Nat){Q:Bool->Shared->Prop}(hq:IsTup s.heap q #[.str x.1 t,.bool x.2])(h:Q true s):wpAny (model prog w) A (eqIsQuiet (n+1) (.ref q)) Q E s:=by
 obtain⟨o,ho,hc,m,hd⟩:=hq
 have hT:s.TypeIs (.ref q) "tuple":=⟨o,ho,hc⟩
 unfold eqIsQuiet
 refine az (mB hT F.slot_tuple_eq.lookup ?_)
 show wpAny _ _ (isInstance (.ref q) (.type "tuple") >>= _) _ _ s
 refine az (rN hT isSubtype_tuple_tuple ?_)
 simp only[mw,fB,bU]
 refine az (wpAny_seqItems ho hd ?_)
 refine az ?_
 rw[<-zA]
 refine zi _ (λrest r s'=>r.1=none/\s'=s/\∀v∈rest,carriedByValue v=true) _ ?_ ?_ _ _ ⟨rfl,rfl,λv hv=>?_⟩
 ·rintro v rest r s' ⟨hr,rfl,lY⟩
  rw[eqIsQuiet_byValue _ (lY v di)]
  refine az (aK ?_)
  simp only[mw,fB,bU]
  exact aK ⟨rfl,rfl,λu hu'=>lY u (fw _ hu')⟩
 ·rintro⟨r1,r2⟩ s' ⟨hr,rfl,_⟩
  simp only at hr
  subst hr
  exact aK h
 ·simp at hv
  rcases hv with rfl | rfl <;> rfl
theorem Oj{a:Addr}{cl:Cl}{Q:Bool->Shared->Prop}(ha:Kp s.heap cl a)(h:Q true s):wpAny (model prog w) A (eqIsQuiet 8 (.ref a)) Q E s:=by
 obtain⟨qs,⟨o,ho,hc,m,hd⟩,pr⟩:=ha
 have hT:s.TypeIs (.ref a) "tuple":=⟨o,ho,hc⟩
 unfold eqIsQuiet
 refine az (mB hT F.slot_tuple_eq.lookup ?_)
 show wpAny _ _ (isInstance (.ref a) (.type "tuple") >>= _) _ _ s
 refine az (rN hT isSubtype_tuple_tuple ?_)
 simp only[mw,fB,bU]
 refine az (wpAny_seqItems ho hd ?_)
 refine az ?_
 rw[<-zA,tS]
 refine zi _ (λrest r s'=>r.1=none/\s'=s/\∀v∈rest,∃q x t,v=.ref q/\IsTup s.heap q #[.str x t,.bool true]\/v=.ref q/\IsTup s.heap q #[.str x t,.bool false]) _ ?_ ?_ _ _ ⟨rfl,rfl,λv hv=>?_⟩
 ·rintro v rest r s' ⟨hr,rfl,lY⟩
  obtain⟨q,x,t,hv⟩:=lY v di
  have go:∀b:Bool,v=.ref q->IsTup s'.heap q #[.str x t,.bool b]->wpAny (model prog w) A (eqIsQuiet 7 v) (λb s2=>b=true/\s2=s') E s':=λb e hq=>by
   rw[e]
   exact Hh (x:=(x,b)) 6 hq ⟨rfl,rfl⟩
  have run:wpAny (model prog w) A (eqIsQuiet 7 v) (λb s2=>b=true/\s2=s') E s':=hv.elim (λz=>go true z.1 z.2) (λz=>go false z.1 z.2)
  refine az (dq run (λb s2 ⟨e1,e2⟩=>?_) λ_ _ z=>z)
  subst e1 e2
  simp only[mw,fB,bU]
  exact aK ⟨rfl,rfl,λu hu'=>lY u (fw _ hu')⟩
 ·rintro⟨r1,r2⟩ s' ⟨hr,rfl,_⟩
  simp only at hr
  subst hr
  exact aK h
 ·obtain⟨q,hq,rfl⟩:=bH.mp hv
  obtain⟨j,hj,rfl⟩:=gD.mp hq
  obtain⟨⟨x,b⟩,t,_,hx⟩:=pr.at (bD hj)
  cases b
  ·exact⟨_,x,t,.inr ⟨rfl,hx⟩⟩
  ·exact⟨_,x,t,.inl ⟨rfl,hx⟩⟩
end
def nF(prog:Program)(w:World):HeapKind prog w Cl where
 is:=Kp
 hash:=Iw prog w
 draws:=λcl=>3*cl.length+1
 room:=λA=>A.units+1<cLine
 inj:=λhx hy=>hx.inj hy
 keeps:=λx ho hd hs=>let ⟨qs,t,p⟩:=x;⟨qs,xY t ho hd hs,p.imp λy=>xY y ho hd hs⟩
 pyHash:=λhu hk h=>Lb hu hk h
 eqBool:=λhu hx hy h=>Io hu hx hy _ _ _ _ h
 quiet:=λhk h=>Oj hk h
def lg(ks:List (Cl×Addr)):List (Cl×Addr×Value):=ks.map λk=>(k.1,k.2,Value.bool true)
def iW(P:Program)(w:World)(d:Addr)(ks:List (Cl×Addr)):HO:=.ext λh=>(d==sysModules)=false/\∃o es ep,h.get? d=some o/\o.ExactDict/\o.data=.dict es ep/\es.toList=(lg ks).map (entryOfKey (nF P w))
theorem iW.ok{P:Program}{w:World}{H:Hp}{h:Heap}{d:Addr}{ks:List (Cl×Addr)}(lo:(d==sysModules)=false){o:Obj}{es:Array DictEntry}{ep:Nat}(e:h.get? d=some o)(x:o.ExactDict)(dt:o.data=.dict es ep)(l:es.toList=(lg ks).map (entryOfKey (nF P w))):dj P w H h d (iW P w d ks):=
 ⟨⟨lo,o,es,ep,e,x,dt,l⟩,⟨o,e⟩,λh1 h2 ⟨z,o,es,ep,e,r⟩ k=>⟨z,o,es,ep,k o e,r⟩⟩
theorem iW.of{P:Program}{w:World}{H:Hp}{h:Heap}{d:Addr}{ks:List (Cl×Addr)}(x:dj P w H h d (iW P w d ks)):(d==sysModules)=false/\∃o es ep,h.get? d=some o/\o.ExactDict/\o.data=.dict es ep/\es.toList=(lg ks).map (entryOfKey (nF P w)):=x.1
theorem yp{P:Program}{w:World}{H:Hp}{h:Heap}(bM:ju P w H h):∀{qs:List Addr} {cl:Cl},qs.length=cl.length->(∀(i:Nat) q x,qs[i]?=some q->cl[i]?=some x->gE H q x)->eG h qs cl
 | [],[],_,_=>.nil
 | [],_::_,e,_=>by simp at e
 | _::_,[],e,_=>by simp at e
 | q::qs,x::cl,e,k=>by
  obtain⟨t,ht⟩:=Dm bM (k 0 q x rfl rfl)
  exact .cons ht (yp bM (by simpa using e) λi q x h1 h2=>k (i+1) q x h1 h2)
theorem p6{P:Program}{w:World}{H:Hp}{h:Heap}{cl:Cl}{a:Addr}(bM:ju P w H h)(c:de H cl a):Kp h cl a:=by
 refine hide λgG hG=>?_
 obtain⟨qs,e,l⟩:=c
 obtain⟨_,its,r,ht⟩:=bM a _ e
 refine hG ?_
 have:=fo r
 subst this
 exact⟨qs,ht,yp bM l.1 l.2⟩
def qP(ks:List (Cl×Addr))(cl:Cl)(a:Addr):List (Cl×Addr):=if cl∈ks.map (·.1) then ks else ks++[(cl,a)]
theorem Eb(ks:List (Cl×Addr)):(lg ks).map (·.1)=ks.map (·.1):=by unfold lg;rw[iG];rfl
theorem NR(ks:List (Cl×Addr))(cl:Cl)(a:Addr):storedH (lg ks) cl a (.bool true)=lg (qP ks cl a):=by
 unfold storedH qP
 by_cases h:cl∈ks.map (·.1)
 ·have e:(atKey (lg ks) cl).isSome=true:=by
   obtain⟨k,hk,e⟩:=bH.mp h
   unfold atKey
   rw[vC,Ga]
   exact⟨(k.1,k.2,.bool true),bH.mpr ⟨k,hk,rfl⟩,by simpa using e⟩
  rw[aB e,aB h]
  unfold lg
  rw[iG]
  refine tR λk _=>?_
  show putAt cl (.bool true) (k.1,k.2,Value.bool true)=_
  unfold putAt
  split <;> rfl
 ·have e:¬(atKey (lg ks) cl).isSome=true:=λz=>by
   unfold atKey at z
   rw[vC,Ga]at z
   refine hide λgG hG=>?_
   obtain⟨x,hx,ex⟩:=z
   obtain⟨k,hk,rfl⟩:=bH.mp hx
   refine hG ?_
   exact h (bH.mpr ⟨k,hk,by simpa using ex⟩)
  rw[aA e,aA h]
  unfold lg
  rw[bP]
  rfl
def mK(P:Program)(w:World):TE:=λ_ H Q=>∀p,H p=none->Q (.ref p) (upd H p (iW P w p []))
def mQ(P:Program)(w:World)(td ty tv:TE):TS:=λD σ H=>tv σ H λv H1=>td σ H1 λx H2=>ty σ H2 λy H3=>∃d,x=.ref d/\∃a,y=.ref a/\v=.bl true/\∃ks cl,H3 d=some (iW P w d ks)/\(∀k∈ks,de H3 k.1 k.2)/\de H3 cl a/\(ks.map (·.1)).Nodup/\ks.length<sizeLine/\D.nx σ (upd H3 d (iW P w d (qP ks cl a)))
section
variable {X:Cx}{pos pos':Pos}{o i value:Expr}{td ty tv:TE}
theorem Pg:PE X (.Dict [] [] pos) (mK X.prog X.w):=λpins s σ H Q I h=>
 wpAny_Dict_empty ⟨.ref s.heap.objs.size,_,I.laid (a:=s.heap.objs.size) (o:=iW X.prog X.w s.heap.objs.size []) (t':=s.toks) (λ_ _ q=>cF _ q) (aU _)
  (iW.ok (vE.mpr (fz (bK I.big))) (dD _ rfl) ⟨rfl,rfl,rfl⟩ rfl rfl),rfl,h _ (I.bM.fresh (aU _))⟩
theorem OD(hu:X.A.units+64<cLine)(ho:PE X o td)(hi:PE X i ty)(hv:PE X value tv)(hs:swapsWith value (some (.Subscript o i pos')) pos.line X.env=pure false) :
  PS X (.Assign [.Subscript o i pos'] value pos) (mQ X.prog X.w td ty tv):=by
 intro pins s σ H D I h
 refine wpAny_Assign_Subscript (dm (hv pins s σ H _ I h) λr s1 ⟨v,H1,I1,rv,q1⟩=>dm (ho pins s1 σ H1 _ I1 q1) λu s2 ⟨x,H2,I2,rx,q2⟩=>dm (hi pins s2 σ H2 _ I2 q2) λiv s3 ⟨y,H3,I3,ry,d,ex,a,ey,ev,ks,cl,hd,all,hc,nd,few,q3⟩=>?_) hs
 subst ex ey ev
 cases rx
 cases ry
 cases rv
 refine hide λgG hG=>?_
 obtain⟨lo,ob,es,ep,e1,e2,e3,e4⟩:=iW.of (I3.bM d _ hd)
 refine hG ?_
 have dd:s3.heap.DictOfH (nF X.prog X.w) d (lg ks):=⟨ob,es,ep,e1,e2,e3,e4,λx hx=>by
  obtain⟨k,hk,rfl⟩:=bH.mp hx
  exact p6 I3.bM (all k hk),by rw[Eb];exact nd⟩
 refine wpAny_setItem_heap (knd:=nF X.prog X.w) (hsz:=by unfold lg;rw[aM];exact jb few) (show X.A.in1.units+1<cLine by rw[mh];lia) (p6 I3.bM hc) dd λh' V0 hs'=>⟨σ,_,?_,q3⟩
 refine hide λgG hG=>?_
 obtain⟨ob',es',Zo,g1,g2,g3,g4,_,_⟩:=V0
 refine hG ?_
 rw[NR]at g4
 exact Bs I3 (by rw[hd];exact True.intro) hs' ⟨ob',g1⟩ (iW.ok lo g1 g2 g3 g4)
end
section
variable {X:Cx}{pos:Pos}{k v:Expr}{tk tv:TE}
end
def Va(A:Around)(s:Shared)(y x:Value)(l:Bool):Prop:=∀(prog:Program) (w:World) (E:Value->Shared->Prop) (Q:Value->Shared->Prop),Q (.bool l) s->wpAny (model prog w) A (richCompare .Lt y x) Q E s
inductive Fs (A:Around) (s:Shared):List Value->List Value->List (Bool×Bool)->Prop
 | left (ws:List Value):Fs A s [] ws []
 | right (v:Value) (vs:List Value):Fs A s (v::vs) [] []
 | cons {v u:Value} {vs ws:List Value} {e l:Bool} {es:List (Bool×Bool)}:SeqAt.EqAt A s v u e->(e=false->Va A s v u l)->Fs A s vs ws es->Fs A s (v::vs) (u::ws) ((e,l)::es)
def Bj:List (Bool×Bool)->Bool->Bool
 | [],d=>d
 | (true,_)::r,d=>Bj r d
 | (false,l)::_,_=>l
section
open PySem.SeqAt
open PySem.AutoSeq1 (wpAny_loadPart')
open PySem.MeetsSeq PySem.MeetsSeq2 PySem.MeetsSeq3
theorem zO(l b:Addr)(items gp:Array Value)(n n2:Nat)(dd Mr:Option Addr)(sl K0:Array (Option Value)) :
  Meets (Builtin.«tuple.__lt__» ⟨[.ref l,.ref b],[]⟩)
   (λA R s=>s.heap.get? l=some { cls:=.type "tuple",dict:=dd,data:=.seq items n,slots:=sl }/\s.heap.get? b=some { cls:=.type "tuple",dict:=Mr,data:=.seq gp n2,slots:=K0 }/\
    ∃es,Fs A.in1 s items.toList gp.toList es/\R (.ok (.ret (.bool (Bj es (decide (items.size<gp.size)))))) s):=
 .of_wp λprog w A R s h=>by
  obtain⟨hp,g,d,tk,os⟩:=s;obtain⟨hl,hb,es,RM,h⟩:=h
  have f2:=AutoSeq1.sub_tuple_tuple
  wp_walk using zf hl,zf hb,zi _ (λrest b s'=>b.1=none/\s'=⟨hp,g,d,tk,os⟩/\∃(vs ws:List Value) (es':List (Bool×Bool)),rest=vs.zip ws/\
   Fs A.in1 ⟨hp,g,d,tk,os⟩ vs ws es'/\R (.ok (.ret (.bool (Bj es' (decide (items.size<gp.size)))))) ⟨hp,g,d,tk,os⟩) _
  case turn=>
   rintro⟨y,x⟩ rest b s' ⟨Qy,rfl,vs,ws,es',hz,hc,hR⟩
   cases hc with
   | left ws=>rw[List.zip_nil_left]at hz;cases hz
   | right v vs=>rw[List.zip_nil_right]at hz;cases hz
   | @cons v u vs ws e l es' he iQ o6=>
    rw[List.zip_cons_cons]at hz
    injection hz with hyx yB
    injection hyx with hy hx
    subst hy hx
    refine az (he prog w _ _ ?_)
    cases e with
    | true=>
     have hR':R (.ok (.ret (.bool (Bj es' (decide (items.size<gp.size)))))) ⟨hp,g,d,tk,os⟩:=hR
     wp_walk
     exact⟨rfl,rfl,_,_,_,yB,o6,hR'⟩
    | false=>
     have hR':R (.ok (.ret (.bool l))) ⟨hp,g,d,tk,os⟩:=hR
     have hri:=iQ rfl prog w
     wp_walk using hri
     exact⟨_,rfl,by simpa using hR'⟩
  case fin=>
   rintro⟨b1,b2⟩ s' ⟨Qy,rfl,vs,ws,es',hz,hc,hR⟩
   simp only at Qy
   subst Qy
   have hR':R (.ok (.ret (.bool (decide (items.size<gp.size))))) ⟨hp,g,d,tk,os⟩:=by
    cases hc with
    | left ws=>exact hR
    | right v vs=>exact hR
    | cons _ _ _=>rw[List.zip_cons_cons]at hz;cases hz
   wp_walk
   exact⟨_,rfl,by simpa [Builtin.Tuple.tupleCompareSizes]using hR'⟩
  case h=>
   exact⟨rfl,rfl,items.toList,gp.toList,es,rfl,RM,h⟩
end
section
variable {prog:Program}{w:World}{A:Around}{E:Value->Shared->Prop}{s:Shared}
theorem yt{l b:Addr}{items gp:Array Value}{es:List (Bool×Bool)}(hl:IsTup s.heap l items)(hb:IsTup s.heap b gp)(RM:Fs A.in1 s items.toList gp.toList es)
  (hu:A.units<cLine):Va A s (.ref l) (.ref b) (Bj es (decide (items.size<gp.size))):=λprog w E Q h=>by
 obtain⟨⟨cls,dd,data,sl⟩,ho,hc,n,hd⟩:=id hl
 obtain⟨⟨aBd,Mr,data2,K0⟩,RJ,RN,n2,hd2⟩:=id hb
 simp only at hc hd RN hd2
 subst hc hd RN hd2
 exact richCompare_meets_room (op:=.Lt) ⟨_,ho,rfl⟩ ⟨_,RJ,rfl⟩ PySem.F.slot_tuple_lt PySem.F.entry_tuple_lt (PySem.F.args_tuple_lt_2 _ _) (zO l b items gp n n2 dd Mr sl K0)
  ⟨ho,RJ,es,RM,show Value.bool (Bj es (decide (items.size<gp.size)))≠Value.notImplemented/\Q (.bool (Bj es (decide (items.size<gp.size)))) s from ⟨(λx=>nomatch x),h⟩⟩ hu
def Dn(x y:Str×Bool):Bool:=if x.1=y.1 then (!x.2&&y.2) else decide (x.1.cps.toList<y.1.cps.toList)
def iP:Cl->Cl->Bool
 | [],[]=>false
 | [],_::_=>true
 | _::_,[]=>false
 | x::xs,y::ys=>if x=y then iP xs ys else Dn x y
theorem T6{p q:Addr}{x y:Str×Bool}{t u:Tok}(hu:A.units<cLine)(hp:IsTup s.heap p #[.str x.1 t,.bool x.2])(hq:IsTup s.heap q #[.str y.1 u,.bool y.2]):Va A s (.ref p) (.ref q) (Dn x y):=by
 have h:=yt (es:=[(x.1==y.1,decide (x.1.cps.toList<y.1.cps.toList)),(x.2==y.2,decide (b2i x.2<b2i y.2))]) hp hq
  (.cons (ng (y:=.str x.1) (x:=.str y.1) ⟨t,rfl⟩ ⟨u,rfl⟩ rfl rfl) (λ_ prog w E Q hq=>(lt_str hq:wpAny (model prog w) _ (compareOp .Lt _ _) Q E s))
   (.cons (ng (y:=.bl x.2) (x:=.bl y.2) rfl rfl rfl rfl) (λ_ prog w E Q hq=>(lt_bool hq:wpAny (model prog w) _ (compareOp .Lt _ _) Q E s)) (.left _))) hu
 have e:Bj [(x.1==y.1,decide (x.1.cps.toList<y.1.cps.toList)),(x.2==y.2,decide (b2i x.2<b2i y.2))] (decide ((#[Value.str x.1 t,.bool x.2]).size<(#[Value.str y.1 u,.bool y.2]).size))=Dn x y:=by
  unfold Dn
  by_cases e1:x.1=y.1
  ·rw[aB e1,show(x.1==y.1)=true by simpa using e1]
   cases x.2 <;> cases y.2 <;> rfl
  ·rw[aA e1,show(x.1==y.1)=false by simpa using e1]
   rfl
 rw[e]at h
 exact h
theorem yL(hu:A.units<cLine):∀{qs ps:List Addr} {cl dl:Cl},eG s.heap qs cl->eG s.heap ps dl->∃es,Fs A s (qs.map Value.ref) (ps.map Value.ref) es/\∀n m:Nat,n+dl.length=m+cl.length->Bj es (decide (n<m))=iP cl dl
 | _,_,_,_,.nil,.nil=>⟨[],.left _,λn m e=>by show decide (n<m)=false;exact decide_eq_false (by simp at e;lia)⟩
 | _,_,_,_,.nil,.cons _ _=>⟨[],.left _,λn m e=>by show decide (n<m)=true;exact decide_eq_true (by simp at e;lia)⟩
 | _,_,_,_,.cons _ _,.nil=>⟨[],.right _ _,λn m e=>by show decide (n<m)=false;exact decide_eq_false (by simp at e;lia)⟩
 | _,_,_,_,.cons (x:=x) h1 r1,.cons (x:=y) h2 r2=>by
  obtain⟨es,c,e⟩:=yL hu r1 r2
  refine⟨_,.cons (El hu h1 h2) (λ_=>T6 hu h1 h2) c,λn m h=>?_⟩
  unfold iP
  by_cases XM:x=y
  ·rw[aB XM,decide_eq_true XM]
   exact e n m (by simp at h;lia)
  ·rw[aA XM,decide_eq_false XM]
   rfl
theorem aAw{a b:Addr}{cl dl:Cl}(hu:A.units+2<cLine)(ha:Kp s.heap cl a)(hb:Kp s.heap dl b):Va A s (.ref a) (.ref b) (iP cl dl):=by
 obtain⟨qs,t1,p1⟩:=ha
 obtain⟨ps,t2,p2⟩:=hb
 obtain⟨es,c,e⟩:=yL (A:=A.in1) (by rw[mh];lia) p1 p2
 have h:=yt t1 t2 c (by lia)
 rw[e _ _ (by rw[cZ,cZ,aM,aM,p1.length,p2.length];lia)]at h
 exact h
end
theorem uV{x y:Str×Bool}:Dn x y=true↔x.1.cps.toList<y.1.cps.toList\/(x.1=y.1/\x.2=false/\y.2=true):=by
 unfold Dn
 by_cases e:x.1=y.1
 ·rw[aB e]
  have:¬(x.1.cps.toList<y.1.cps.toList):=by rw[e];exact lK _
  constructor
  ·intro h
   simp only[dh,zv]at h
   exact .inr ⟨e,h.1,h.2⟩
  ·rintro(z | ⟨_,h2,h3⟩)
   ·exact absurd z this
   ·rw[h2,h3];rfl
 ·rw[aA e]
  simp[e]
theorem Tn(x:Str×Bool):Dn x x=false:=by
 unfold Dn
 rw[aB rfl]
 cases x.2 <;> rfl
theorem Tj{x y:Str×Bool}(h:x≠y):Dn x y=true\/Dn y x=true:=by
 rw[uV,uV]
 by_cases e:x.1=y.1
 ·have e2:x.2≠y.2:=λz=>h (mq e z)
  cases h1:x.2 <;> cases h2:y.2 <;> simp_all
 ·refine xR λz=>?_
  rw[not_or,not_or,not_or]at z
  exact e (uR (FK (rC.mp z.2.1) (rC.mp z.1.1)))
theorem Tp{x y:Str×Bool}(h:Dn x y=true):Dn y x=false:=by
 cases e:Dn y x with
 | false=>rfl
 | true=>
  rw[uV]at h e
  rcases h with h | ⟨h1,h2,h3⟩ <;> rcases e with e | ⟨e1,e2,e3⟩
  ·exact absurd (rK h e) (lK _)
  ·rw[e1]at h;exact absurd h (lK _)
  ·rw[h1]at e;exact absurd e (lK _)
  ·rw[h3]at e2;cases e2
theorem W9{x y z:Str×Bool}(h:Dn x y=true)(k:Dn y z=true):Dn x z=true:=by
 rw[uV]at *
 rcases h with h | ⟨h1,h2,h3⟩ <;> rcases k with k | ⟨k1,k2,k3⟩
 ·exact .inl (rK h k)
 ·exact .inl (by rw[<-k1];exact h)
 ·exact .inl (by rw[h1];exact k)
 ·rw[h3]at k2;cases k2
theorem W'{x y:Str×Bool}(h:Dn x y=true):x≠y:=λe=>by rw[e,Tn]at h;cases h
theorem wB:∀x:Cl,iP x x=false
 | []=>rfl
 | a::l=>by unfold iP;rw[aB rfl];exact wB l
theorem DY:∀{x y:Cl},x.length=y.length->x≠y->iP x y=true\/iP y x=true
 | [],[],_,h=>absurd rfl h
 | a::l,b::m,hl,h=>by
  unfold iP
  by_cases e:a=b
  ·subst e
   have:=DY (x:=l) (y:=m) (by simpa using hl) (λz=>h (by rw[z]))
   simpa using this
  ·rw[aA e,aA (fz e)]
   exact Tj e
 | [],_::_,hl,_=>by simp at hl
 | _::_,[],hl,_=>by simp at hl
theorem D':∀{x y:Cl},iP x y=true->iP y x=false
 | [],[],h=>by simp[iP]at h
 | [],b::m,_=>rfl
 | a::l,[],h=>by simp[iP]at h
 | a::l,b::m,h=>by
  unfold iP at h ⊢
  by_cases e:a=b
  ·subst e
   rw[aB rfl]at h ⊢
   exact D' h
  ·rw[aA e]at h
   rw[aA (fz e)]
   exact Tp h
theorem JQ:∀{x y z:Cl},iP x y=true->iP y z=true->iP x z=true
 | [],[],_,h,_=>by simp[iP]at h
 | [],b::m,[],_,h=>by simp[iP]at h
 | [],b::m,c::n,_,_=>rfl
 | a::l,[],_,h,_=>by simp[iP]at h
 | a::l,b::m,[],_,h=>by simp[iP]at h
 | a::l,b::m,c::n,h1,h2=>by
  unfold iP at h1 h2 ⊢
  by_cases e1:a=b
  ·subst e1
   by_cases e2:a=c
   ·subst e2
    rw[aB rfl]at h1 h2 ⊢
    exact JQ h1 h2
   ·rw[aB rfl]at h1
    rw[aA e2]at h2 ⊢
    exact h2
  ·by_cases e2:b=c
   ·subst e2
    rw[aA e1]at h1 ⊢
    exact h1
   ·rw[aA e1]at h1
    rw[aA e2]at h2
    have:=W9 h1 h2
    rw[aA (W' this)]
    exact this
def oP(x y:Cl):Bool:=decide (x.length<y.length)||(decide (x.length=y.length)&&iP x y)
def V2(ss:List Cl)(i j:Nat):Bool:=oP (ss.getD i []) (ss.getD j [])
theorem Ex{ss:List Cl}(nd:ss.Nodup):Ord (V2 ss) ss.length where
 tr:=λi j k hi hj hk h1 h2=>by
  unfold V2 oP at *
  simp only[rO,dh,g8]at *
  rcases h1 with h1 | ⟨h1,l1⟩ <;> rcases h2 with h2 | ⟨h2,l2⟩
  ·exact .inl (by lia)
  ·exact .inl (by lia)
  ·exact .inl (by lia)
  ·exact .inr ⟨by lia,JQ l1 l2⟩
 asy:=λi j hi hj h=>by
  unfold V2 oP at *
  simp only[rO,dh,g8]at h
  rcases h with h | ⟨h,l⟩
  ·simp only[Bool.or_eq_false_iff,Bool.and_eq_false_imp,Gx,g8]
   exact⟨by lia,λz=>by lia⟩
  ·simp only[Bool.or_eq_false_iff,Bool.and_eq_false_imp,Gx,g8]
   exact⟨by lia,λ_=>D' l⟩
 tot:=λi j hi hj d=>by
  have ne:ss.getD i []≠ss.getD j []:=by
   rw[gi,gi,bD hi,bD hj]
   exact λe=>d ((mD nd).mp e)
  unfold V2 oP
  simp only[rO,dh,g8]
  rcases Nat.lt_trichotomy (ss.getD i []).length (ss.getD j []).length with h | h | h
  ·exact .inl (.inl h)
  ·rcases DY h ne with z | z
   ·exact .inl (.inr ⟨h,z⟩)
   ·exact .inr (.inr ⟨h.symm,z⟩)
  ·exact .inr (.inl h)
section
variable {P:Program}{w:World}{A:Around}{E:Value->Shared->Prop}{s:Shared}
theorem Q6{p q a c:Addr}{lx ly:Int}{t u:Tok}{ns ms:Cl}{C:Bool->Shared->Prop}(hu:A.units+2<cLine)(hp:IsTup s.heap p #[.int lx t,.ref a])(hq:IsTup s.heap q #[.int ly u,.ref c])
  (ha:Kp s.heap ns a) (hc:Kp s.heap ms c) (hx:lx=ns.length) (hy:ly=ms.length) (h:C (oP ns ms) s):wpAny (model P w) A (keyLt' (tuples' true) (.ref p) (.ref q)) C E s:=by
 refine hide λgG hG=>?_
 obtain⟨o1,e1,c1,n1,d1⟩:=id hp
 obtain⟨o2,e2,c2,n2,d2⟩:=id hq
 refine hG ?_
 refine kat_lt e1 d1 e2 d2 ?_
 show KatLex P w A true _ C [(.int lx t,.int ly u),(.ref a,.ref c)] 0 s
 refine kat_cons ((cY P w).eqBool (a:=Sum.inl lx) (b:=Sum.inl ly) (by show(lx==lx)=true;simp) (by show(ly==ly)=true;simp) ?_)
 refine kat_go (λe=>?_) λe=>?_
 ·have el:lx=ly:=Sum.inl.inj (of_decide_eq_true e)
  refine kat_yes (kat_cons (Io (by lia) ha hc P w _ _ ?_))
  refine kat_go (λe'=>kat_yes (kat_nil ?_)) λe'=>kat_no ?_
  ·have:ns=ms:=of_decide_eq_true e'
   subst this
   have z:oP ns ns=false:=by unfold oP;rw[wB];simp
   rw[z]at h
   exact h
  ·refine kat_one _ _ (aAw hu ha hc P w _ _ ?_)
   have z:oP ns ms=iP ns ms:=by
    unfold oP
    rw[decide_eq_false (by lia:¬ns.length<ms.length),decide_eq_true (by lia:ns.length=ms.length)]
    simp
   rw[z]at h
   exact h
 ·have el:lx≠ly:=λz=>by rw[z]at e;simp at e
  refine kat_no (oneLt_int ?_)
  have z:oP ns ms=decide (lx<ly):=by
   unfold oP
   rw[decide_eq_false (by lia:¬ns.length=ms.length),Bool.false_and,Bool.or_false,iZ,g8,g8]
   lia
  rw[z]at h
  exact h
end
theorem Q7{H:Hp}{x y:Cl}{a:Addr}(hx:de H x a)(hy:de H y a):x=y:=by
 refine hide λgG hG=>?_
 obtain⟨qs,e1,l1⟩:=hx
 obtain⟨ps,e2,l2⟩:=hy
 refine hG ?_
 rw[e1]at e2
 have e3:qs=ps:=by
  injection e2 with e2
  injection e2 with e2
  exact(List.map_inj_right λ_ _ h=>V.ref.inj h).mp e2
 subst e3
 apply ql
 intro i
 by_cases hi:i<qs.length
 ·have a1:=bD (l:=x) (i:=i) (by rw[<-l1.1];exact hi)
  have a2:=bD (l:=y) (i:=i) (by rw[<-l2.1];exact hi)
  have h1:=l1.2 i _ _ (bD hi) a1
  have h2:=l2.2 i _ _ (bD hi) a2
  have h:=h1.symm.trans h2
  simp only[pI,HO.tup.injEq,rP,V.str.injEq,V.bl.injEq,and_true]at h
  rw[a1,a2,mq h.1 h.2]
 ·rw[jE (by rw[<-l1.1];lia),jE (by rw[<-l2.1];lia)]
section
variable {X:Cx}{pins:List (Addr×Obj)}{σ:St}{H:Hp}{s:Shared}
def Rq(H':Hp)(as:List Addr)(ss:List Cl)(n:Nat)(kA:Array Value):Prop:=kA.size=n/\∀(j:Nat) v,kA[j]?=some v->∃p a ns,v=.ref p/\as[j]?=some a/\ss[j]?=some ns/\H' p=some (.tup [.int (ns.length:Nat),.ref a])
theorem HD{D S:Addr}{e1:Nat}{H0:Hp}{s0:Shared}(I:Inv X pins σ H s)(m:Nh X H s D S e1 H0 s0 #[])(hD:s.heap.objs.size<=D)(hS:s.heap.objs.size<=S)(RQ:D≠S){k:Nat}{f:Addr}{fd:FuncData}{pm:Str}(F:cE X.prog X.w X.K X.mg X.base g6 k f fd [pm] yc)(hr:eF k X.A.in1.in1)
  (hb:Binds X.K fd [pm] []) {as:List Addr} {ss:List Cl} (ls:as.length=ss.length) (QG:as.length<100000) (hs:∀(i:Nat) a ns,as[i]?=some a->ss[i]?=some ns->de H ns a) {Q:PUnit->Shared->Prop} {E:Value->Shared->Prop} {body:Value->PUnit->Sem (ForInStep PUnit)}
  (m6:∀a R s1,wpAny (model X.prog X.w) X.A.in1.in1 (call (.ref f) [.ref a]) (λv s2=>wpAny (model X.prog X.w) X.A.in1.in1 (Builtin.List.listUpdate (.ref S) (·.push v)) (λ_ s3=>R (.yield ⟨⟩) s3) E s2) (λ_ _=>False) s1->wpAny (model X.prog X.w) X.A.in1.in1 (body (.ref a) ⟨⟩) R E s1)
  (q:∀H' s' kA,Nh X H s D S e1 H' s' kA->Rq H' as ss as.length kA->Q ⟨⟩ s'):wpAny (model X.prog X.w) X.A.in1.in1 (forIn (as.map Value.ref) PUnit.unit body) Q E s0:=by
 refine ksk_fold (λi s'=>∃H' kA,Nh X H s D S e1 H' s' kA/\Rq H' as ss i kA) (as.map Value.ref) 0 s0 ⟨H0,#[],m,rfl,λj v e=>by simp at e⟩ (λj x s1 hx hJ=>?_) λs' hd=>?_
 ·refine hide λgG hG=>?_
  obtain⟨H',kA,m1,ks,kk⟩:=hJ
  refine hG ?_
  rw[cR]at hx
  cases ea:as[j]? with
  | none=>rw[ea]at hx;cases hx
  | some a=>
   rw[ea]at hx
   cases hx
   have hj:j<as.length:=(cy.mp ea).1
   have es:ss[j]?=some ss[j]:=bD (by lia)
   obtain⟨qs,hqs,lits⟩:=hs j a _ ea es
   refine m6 a _ s1 (m1.call I hD hS F hr hb hqs λp s2 hp m2=>?_)
   obtain⟨eS,oS⟩:=m2.oS
   have z1:kA.size<=sizeLine:=kM (by lia)
   have z2:(kA.push (.ref p)).size<=sizeLine:=by rw[Array.size_push];exact kM (by lia)
   refine pk (xs:=kA) oS rfl ⟨rfl,_,kA.push (.ref p),m2.push hS RQ (·.push (.ref p)),by rw[Array.size_push,ks],λi v ev=>?_⟩ z1 (vB z2)
   by_cases hi:i<kA.size
   ·rw[Array.getElem?_push_lt hi]at ev
    obtain⟨p',a',ns',Mp,e2',e3',e4'⟩:=kk i v (by rw[g9 hi];exact ev)
    exact⟨p',a',ns',Mp,e2',e3',by rw[au (ay e4' hp)];exact e4'⟩
   ·have M9:i=kA.size:=by
     have:=(vJ.mp ev).1
     rw[Array.size_push]at this
     lia
    subst M9
    rw[Array.getElem?_push_size]at ev
    cases ev
    rw[ks,Nat.zero_add]
    exact⟨p,a,_,rfl,ea,es,by rw[ag,aM,lits.1]⟩
 ·refine hide λgG hG=>?_
  obtain⟨H',kA,m1,ks,kk⟩:=hd
  refine hG ?_
  rw[aM,Nat.zero_add]at ks
  exact q H' s' kA m1 ⟨ks,kk⟩
theorem KZ{D S:Addr}{e1:Nat}{H':Hp}{s':Shared}{kA:Array Value}{as:List Addr}{ss:List Cl}{Pq:PySem.Fin->Shared->Prop}{E:Value->Shared->Prop}(m:Nh X H s D S e1 H' s' kA)(hu:X.A.in1.in1.units+2<cLine)(hD:s.heap.objs.size<=D)(hS:s.heap.objs.size<=S)(RQ:D≠S)
  (kk:Rq H' as ss as.length kA) (ls:as.length=ss.length) (QG:as.length<100000) (nd:ss.Nodup) (hs:∀(i:Nat) a ns,as[i]?=some a->ss[i]?=some ns->de H ns a)
  (q:∀s2 p,md p as.length->rA (V2 ss) p as.length->Fin X H s D H' s2 (p.toList.map λi=>as.getD i 0)->Pq (.done (.ret .none)) s2):wpAny (model X.prog X.w) X.A.in1.in1 (ksk_end D false (as.map Value.ref).toArray e1 (.ref S) kA) Pq E s':=by
 obtain⟨ks,kv⟩:=kk
 have hzs:(kA.zip (as.map Value.ref).toArray).size=as.length:=by rw[Array.size_zip,ks,cZ,aM,Nat.min_self]
 have itm:∀i,i<as.length->∃p,kas_item (kA.zip (as.map Value.ref).toArray) i=(.ref p,.ref (as.getD i 0))/\∃a ns,as[i]?=some a/\ss[i]?=some ns/\H' p=some (.tup [.int (ns.length:Nat),.ref a]):=λi hi=>by
  have Uq:i<kA.size:=by lia
  obtain⟨p,a,ns,e1,e2,e3,e4⟩:=kv i kA[i] (g9 Uq)
  refine⟨p,?_,a,ns,e2,e3,e4⟩
  unfold kas_item
  rw[qq,g9 (by rw[hzs];exact hi),Option.getD_some,Array.getElem_zip,e1,getD_some e2]
  congr 1
  have:(as.map Value.ref)[i]?=some (.ref a):=by rw[cR,e2];rfl
  have h2:=cy.mp this
  simpa using h2.2
 have aAm:∀p:Array Nat,md p as.length->(p.map (kas_item (kA.zip (as.map Value.ref).toArray))).map (·.2)=((p.toList.map λi=>as.getD i 0).map Value.ref).toArray:=λp hp=>by
  apply Array.ext'
  rw[pE,pE,tS,iG,iG]
  refine tR λi hi=>?_
  have iQ:i<as.length:=by
   have:=(hp.perm.mem_iff (a:=i)).mp (by simpa using hi)
   simpa using this
  obtain⟨p',e,_⟩:=itm i iQ
  show(kas_item _ i).2=_
  rw[e]
  rfl
 have aBE:∀p:Array Nat,md p as.length->(p.toList.map λi=>as.getD i 0).length<=100000:=λp hp=>by rw[aM,dF,hp.size];lia
 unfold ksk_end
 dsimp only
 simp only[fB,bU]
 by_cases h2:(as.map Value.ref).toArray.size<2
 ·rw[aB h2,aB h2]
  refine az (aK ?_)
  rw[StateT.run_pure]
  refine az (aK ?_)
  dsimp only
  have hp:md (List.toArray (List.range as.length)) as.length:=⟨zj _⟩
  rw[cZ,aM]at h2
  refine ye (st:=SortSt.mk' general' (kA.zip (as.map Value.ref).toArray) #[] 7 none) m hD hS RQ (by lia) (aBE _ hp) ?_ rfl λs2 f=>q s2 _ hp (λi hi=>by lia) f
  rw[<-aAm _ hp]
  have:(List.toArray (List.range as.length)).map (kas_item (kA.zip (as.map Value.ref).toArray))=kA.zip (as.map Value.ref).toArray:=by
   have:=kas_range (kA.zip (as.map Value.ref).toArray)
   rwa [hzs]at this
  rw[this]
 ·rw[aA h2,aA h2]
  rw[cZ,aM]at h2
  have h2':2<=as.length:=by lia
  have tups:∀v∈kA.toList,∃p a,∃k:Int,∃t,v=.ref p/\IsTup s'.heap p #[.int k t,.ref a]:=λv hv=>by
   obtain⟨i,hi,rfl⟩:=gD.mp hv
   obtain⟨p,a,ns,e1,e2,e3,e4⟩:=kv i (kA.toList[i]) (by rw[<-lO];exact bD hi)
   obtain⟨t,ht⟩:=JS m.bM e4
   exact⟨p,a,_,t,e1,ht⟩
  refine hide λgG hG=>?_
  obtain⟨fs,kt,lf,hf⟩:=wF tups
  refine hG ?_
  have kind:wpAny (model X.prog X.w) X.A.in1.in1 (keyKind' kA) (λκ s2=>κ=tuples' true/\s2=s') E s':=by
   have:=kat_kind (M:=model X.prog X.w) (A:=X.A.in1.in1) (E:=E) (s:=s') (T:=Value.type "int") (Q:=λκ s2=>κ=tuples' true/\s2=s') kt (by rw[lf,dF];lia) (λv hv=>by
    obtain⟨k,t,rfl⟩:=hf v hv
    exact .now) (by decide) ⟨by congr 1,rfl⟩
   rwa [Array.toArray_toList]at this
  refine az (dq kind (λκ s2 ⟨e1,e2⟩=>?_) λ_ _ x=>x)
  subst e1 e2
  have hn:0<as.length:=by lia
  have obj:∀i,i<as.length->∃p a t,∃k:Int,(kas_item (kA.zip (as.map Value.ref).toArray) i).1=.ref p/\IsTup s2.heap p #[.int k t,.ref a]/\Kp s2.heap (ss.getD i []) a/\k=(ss.getD i []).length:=λi hi=>by
   refine hide λgG hG=>?_
   obtain⟨p,e,a,ns,e2,e3,e4⟩:=itm i hi
   obtain⟨t,ht⟩:=JS m.bM e4
   refine hG ?_
   have hca:=p6 m.bM ((hs i a ns e2 e3).mono λq xs z=>m.same _ _ z)
   exact⟨p,a,t,_,by rw[e],ht,by rw[getD_some e3];exact hca,by rw[getD_some e3]⟩
  have ssD:∀i,i<as.length->ss[i]?=some (ss.getD i []):=λi hi=>by
   rw[gi,bD (by lia)];rfl
  have inj:∀i j,i<as.length->j<as.length->kas_item (kA.zip (as.map Value.ref).toArray) i=kas_item (kA.zip (as.map Value.ref).toArray) j->i=j:=λi j hi hj e=>by
   refine hide λgG hG=>?_
   obtain⟨p,e1,a,ns,f1,f2,_⟩:=itm i hi
   obtain⟨p',Mp,a',ns',f1',f2',_⟩:=itm j hj
   refine hG ?_
   rw[e1,Mp]at e
   injection e with _ e2
   injection e2 with e2
   rw[getD_some f1,getD_some f1']at e2
   subst e2
   have g1:=hs i a ns f1 f2
   have g2:=hs j a ns' f1' f2'
   have e3:ns=ns':=Q7 g1 g2
   subst e3
   have h1:=(cy.mp f2)
   have h2:=(cy.mp f2')
   exact(mD nd).mp (h1.2.trans h2.2.symm)
  have run:=Oa (prog:=X.prog) (w:=X.w) (A:=X.A.in1.in1) (E:=E) (κ:=tuples' true) (item:=kas_item (kA.zip (as.map Value.ref).toArray)) (n:=as.length) (b:=V2 ss) (s:=s2) (it:=kA.zip (as.map Value.ref).toArray) inj
   (by have:=Ex nd;rw[<-ls]at this;exact this) h2' (λi j C hi hj hC=>by
    refine hide λgG hG=>?_
    obtain⟨p,a,t,k,e1,t1,t2,t4⟩:=obj i hi
    obtain⟨p',a',t',k',Mp,t1',t2',t4'⟩:=obj j hj
    refine hG ?_
    rw[e1,Mp]
    exact Q6 hu t1 t1' t2 t2' t4 t4' hC) (by
    have:=kas_range (kA.zip (as.map Value.ref).toArray)
    rw[hzs]at this
    have e:=gj Array.toList this
    rw[pE,tS]at e
    exact e.symm)
  refine az (dq run (λr s3 ⟨e,p,hp,ha,e1,e2⟩=>?_) λ_ _ x=>x)
  obtain⟨⟨⟩,bu⟩:=r
  subst e
  dsimp only
  exact ye m hD hS RQ (by lia) (aBE _ hp) (by rw[e1];exact aAm p hp) e2 λs4 f=>q s4 p hp ha f
theorem Cv{k:Nat}{f:Addr}{fd:FuncData}{pm:Str}{x:Value}{as:List Addr}{ss:List Cl}{Q:VK}(I:Inv X pins σ H s)(F:cE X.prog X.w X.K X.mg X.base g6 k f fd [pm] yc)(hr:eF k X.A.in1.in1)(hb:Binds X.K fd [pm] [])
  (ls:as.length=ss.length) (QG:as.length<100000) (nd:ss.Nodup) (hs:∀(i:Nat) a ns,as[i]?=some a->ss[i]?=some ns->de H ns a)
  (hc:∀(Q':List Value->Shared->Prop),(∀s',(∀b o,s.heap.get? b=some o->s'.heap.get? b=some o)->s.heap.objs.size<=s'.heap.objs.size->s'.gens=s.gens->s'.os=s.os->Q' (as.map Value.ref) s')->wpAny (model X.prog X.w) X.A.in1 (collect x) Q' X.xe s)
  (q:∀D H' p,bf H H'->H D=none->md p as.length->rA (V2 ss) p as.length->H' D=some (.lst (List.map V.ref (p.toList.map λi=>as.getD i 0)))->Q (.ref D) H') :
  wpAny (model X.prog X.w) X.A (PySem.call (.builtin "sorted") [x] [(Str.ofString "key",.ref f)]) (EP X pins σ Q) X.xe s:=by
 refine call_function_entry_kw kind_sorted plain_sorted entry_sorted (ksk_s1 _ _) ?_
 unfold Builtin.«sorted»
 refine az (m:=checkCount "sorted" 1 1 _) (aK ?_)
 refine az (hc _ λs1 k1 z1 g1 o1=>?_)
 refine az (vp ?_ (by rw[aM];exact kM (by lia)))
 have Mb:(s1.heap.push (seqObj "list" (as.map Value.ref).toArray 0)).get? s1.heap.objs.size=some (seqObj "list" (as.map Value.ref).toArray 0):=dD _ rfl
 refine az (iY (wpAny_call_entry_kw slot_list_sort ⟨_,Mb,rfl⟩ entry_list_sort ?body (ksk_l1 _ _)))
 case body=>
  show wpAny (model X.prog X.w) X.A.in1.in1 (Builtin.«list.sort» ⟨[.ref s1.heap.objs.size],[(Str.ofString "key",.ref f)]⟩) _ _ _
  rw[ksk_t1]
  unfold ksk_tree
  have lv:(as.map Value.ref).toArray.size<=sizeLine:=by rw[cZ,aM];exact kM (by lia)
  obtain⟨e1,aAJ⟩:∃e1,((s1.heap.push (seqObj "list" (as.map Value.ref).toArray 0)).update s1.heap.objs.size (Obj.mapSeq λ_=>(#[]:Array Value))).get? s1.heap.objs.size=some (seqObj "list" #[] e1):=⟨_,get?_update_seq Mb λ_=>#[]⟩
  have sb:=tQ (s1.heap.push (seqObj "list" (as.map Value.ref).toArray 0)) s1.heap.objs.size (Obj.mapSeq λ_=>(#[]:Array Value))
  have ZM:((s1.heap.push (seqObj "list" (as.map Value.ref).toArray 0)).update s1.heap.objs.size (Obj.mapSeq λ_=>(#[]:Array Value))).objs.size=s1.heap.objs.size+1:=by rw[Heap.size_update,size_push']
  refine az (listItems_at Mb rfl ?_)
  refine az (pk Mb rfl ?_ lv (dG _))
  refine az (seqEpoch_at aAJ rfl ?_)
  refine az (wpAny_newTuple ?_ (by rw[tS,aM];exact kM (by lia)))
  refine az (vp ?_ (dG _))
  refine iY ?_
  have Vk:(((s1.heap.push (seqObj "list" (as.map Value.ref).toArray 0)).update s1.heap.objs.size (Obj.mapSeq λ_=>(#[]:Array Value))).push (seqObj "tuple" (as.map Value.ref).toArray 0)).objs.size=s1.heap.objs.size+2:=by rw[size_push',ZM]
  have keep:∀b o,s.heap.get? b=some o->((((s1.heap.push (seqObj "list" (as.map Value.ref).toArray 0)).update s1.heap.objs.size (Obj.mapSeq λ_=>(#[]:Array Value))).push (seqObj "tuple" (as.map Value.ref).toArray 0)).push (seqObj "list" #[] 0)).get? b=some o:=λb o e=>by
   have lb:b<s1.heap.objs.size:=dS (aS e) z1
   exact cF _ (cF _ ((sb.2 b (bK lb)).trans (cF _ (k1 b o e))))
  have m0:Nh X H s s1.heap.objs.size (s1.heap.objs.size+2) e1 H { s1 with heap:=(((s1.heap.push (seqObj "list" (as.map Value.ref).toArray 0)).update s1.heap.objs.size (Obj.mapSeq λ_=>(#[]:Array Value))).push (seqObj "tuple" (as.map Value.ref).toArray 0)).push (seqObj "list" #[] 0) } #[]:=
   ⟨o1,by show AllBare s1.gens;rw[g1];exact I.bare,Un.kept keep,I.bM.kept keep,bf.refl H,I.bM.fresh z1,I.bM.fresh (by lia),cF _ (cF _ aAJ),0,by rw[<-Vk];exact dD _ rfl⟩
  unfold ksk_rest
  refine az (iy ?_)
  rw[<-zA,tS]
  show wpAny (model X.prog X.w) X.A.in1.in1 _ _ X.xe { s1 with heap:=(((s1.heap.push (seqObj "list" (as.map Value.ref).toArray 0)).update s1.heap.objs.size (Obj.mapSeq λ_=>(#[]:Array Value))).push (seqObj "tuple" (as.map Value.ref).toArray 0)).push (seqObj "list" #[] 0) }
  rw[Vk]
  refine az (HD I m0 z1 (by lia:s.heap.objs.size<=s1.heap.objs.size+2) (by lia:s1.heap.objs.size≠s1.heap.objs.size+2) F hr hb ls QG hs (λa R s2 hw=>?_) λH' s' kA m kk=>?_)
  ·refine az (rE (dq hw (λv s3 h3=>?_) λ_ _ hF=>hF.elim))
   dsimp only
   exact az (dq h3 (λ_ s4 h4=>aK h4) λ_ _ x=>x)
  ·obtain⟨eS,oS⟩:=m.oS
   refine az (listItems_at oS rfl ?_)
   refine KZ m (by have:=hr.units;lia) z1 (by lia:s.heap.objs.size<=s1.heap.objs.size+2) (by lia:s1.heap.objs.size≠s1.heap.objs.size+2) kk ls QG nd hs λs2 p hp ha fin=>⟨_,rfl,?_⟩
   obtain⟨c,oD⟩:=fin.oD
   have hn:H s1.heap.objs.size=none:=I.bM.fresh z1
   have bl:(List.map V.ref (p.toList.map λi=>as.getD i 0)).length<=sizeLine:=by rw[aM,aM,dF,hp.size];exact kM (by lia)
   have I2:Inv X pins σ (upd H' s1.heap.objs.size (.lst (List.map V.ref (p.toList.map λi=>as.getD i 0)))) s2:=I.call' (ch:=[]) fin.os (Wd fin.un z1 hn) (Uk fin.bM fin.nD ⟨bl,_,c,Ci _,oD⟩) fin.bare (λb z=>absurd z (by simp))
   exact aK ⟨_,rfl,.ref s1.heap.objs.size,_,I2,rfl,q _ _ p (fin.same.trans λb u eb=>by rw[au (ay eb fin.nD)];exact eb) hn hp ha ag⟩
end
def ClsAt(H:Hp)(bs:List Addr)(ts:List Cl):Prop:=bs.length=ts.length/\∀(i:Nat) b t,bs[i]?=some b->ts[i]?=some t->de H t b
def Ot(P:Program)(w:World)(x:V)(H:Hp)(Q:VK):Prop:=∃d,x=.ref d/\∃ks,H d=some (iW P w d ks)/\(∀k∈ks,de H k.1 k.2)/\(ks.map (·.1)).Nodup/\ks.length<100000/\
 ∀D H' bs ts,bf H H'->H D=none->H' D=some (.lst (List.map V.ref bs))->ClsAt H' bs ts->ts.Perm (ks.map (·.1))->ts.Pairwise (λx y=>oP x y=true)->Q (.ref D) H'
def mH(P:Program)(w:World)(te:TE):TE:=λσ H Q=>te σ H λx H1=>Ot P w x H1 Q
section
variable {X:Cx}{k:Nat}{f:Addr}{fd:FuncData}{pm g:Str}{e:Expr}{te:TE}{p kp kpos pos:Pos}
theorem O9(F:cE X.prog X.w X.K X.mg X.base g6 k f fd [pm] yc)(hr:eF (k+2) X.A)(hg:Gl X "sorted")(hm:X.mg "sorted" = none)(hv:bootBuiltins "sorted" = some (.builtin "sorted"))(hgf:Gl X g)(hmf:X.mg g=some (.ref f))(hb:Binds X.K fd [pm] [])(ha:PE X e te)
  (Bq:(g==("__debug__" : Str))=false:=by decide) (he:starEach [e] X.env=[(false,eval e X.env)]:=by rfl) :
  PE X (.Call (.Name "sorted" p) [e] [⟨some "key",.Name g kp,kpos⟩] pos) (mH X.prog X.w te):=by
 intro pins s σ H Q I h
 refine vA (Bk I hg hm hv ?_)
 refine callWith_kw (dm ((qQ ha Ao he) pos pins s σ H (λvs H1=>match vs with | [x]=>Ot X.prog X.w x H1 Q | _=>False) I h) λus s1 ⟨vs,H1,I1,r1,q1⟩=>?_) (by rw[he];rfl) (by rw[he];rfl)
 match vs,r1,q1 with
 | [x],r1,q1=>
  obtain⟨u,rfl,ru⟩:=vals1 r1
  refine dm ((Ta (nm:=some (Str.ofString "key")) (kpos:=kpos) (Pa (kp:=kp) hgf hmf Bq) WY) pos pins s1 σ H1 (λzs H2=>zs=[.ref f]/\H2=H1) I1 ⟨rfl,rfl⟩) λws s2 ⟨zs,H2,I2,r2,ez,eh⟩=>?_
  subst ez eh
  obtain⟨u2,rfl,ru2⟩:=vals1 r2
  cases ru2
  refine hide λgG hG=>?_
  obtain⟨d,rfl,ks,hd,all,nds,few,q⟩:=q1
  refine hG ?_
  cases ru
  refine hide λgG hG=>?_
  obtain⟨lo,o,es,ep,ho,hx,Ur,RM⟩:=iW.of (I2.bM d _ hd)
  refine hG ?_
  have sz:es.size=ks.length:=by rw[<-dF,RM,aM];unfold lg;rw[aM]
  have at':∀(i:Nat) a ns,(ks.map (·.2))[i]?=some a->(ks.map (·.1))[i]?=some ns->de H2 ns a:=λi a ns ha Y7=>by
   rw[cR]at ha Y7
   cases ex:ks[i]? with
   | none=>rw[ex]at ha;cases ha
   | some x=>
    rw[ex]at ha Y7
    cases ha
    cases Y7
    exact all x (dE ex)
  have lss:(ks.map (·.2)).length=(ks.map (·.1)).length:=by rw[aM,aM]
  refine Cv (as:=ks.map (·.2)) (ss:=ks.map (·.1)) I2 F hr.in1.in1 hb lss (by rw[aM];exact few) nds at' (λQ' hQ'=>?_) λD H' p sm hD hp ha hl=>?_
  ·refine uo (A:=X.A.in1) (Sr (es:=es) (ep:=ep) lo) hr.hd ⟨o,ho,hx,Ur⟩ (by rw[sz];exact kM (by lia)) λs' vs k1 k2 k3 k4 k5 k6=>?_
   have e6:vs=(ks.map (·.2)).map Value.ref:=by
    apply ql
    intro i
    cases ev:vs[i]? with
    | none=>
     have:=List.getElem?_eq_none_iff.mp ev
     rw[jE]
     rw[aM,aM]
     lia
    | some v=>
     have h1:=k6 i v ev
     rw[<-lO,RM,cR]at h1
     unfold lg at h1
     rw[cR]at h1
     rw[cR,cR]
     cases ex:ks[i]? with
     | none=>rw[ex]at h1;cases h1
     | some x=>rw[ex]at h1;exact h1.symm
   rw[e6]at *
   exact hQ' s' k1 k2 k3 k4
  ·have hpS:md p (ks.map (·.1)).length:=by rw[<-lss];exact hp
   have haS:rA (V2 (ks.map (·.1))) p (ks.map (·.1)).length:=by rw[<-lss];exact ha
   refine q D H' (p.toList.map λi=>(ks.map (·.2)).getD i 0) (p.toList.map λi=>(ks.map (·.1)).getD i []) sm hD hl ⟨by simp,λi b t hb ht=>?_⟩ (S8 hpS) ?_
   ·rw[cR]at hb ht
    cases ei:p.toList[i]? with
    | none=>rw[ei]at hb;cases hb
    | some j=>
     rw[ei]at hb ht
     have hj:j<(ks.map (·.1)).length:=by
      have:=(hpS.perm.mem_iff (a:=j)).mp (by simpa using dE ei)
      simpa using this
     have Qy:(ks.map (·.2)).getD j 0=b:=cv hb
     have ht':(ks.map (·.1)).getD j []=t:=cv ht
     refine(at' j b t ?_ ?_).mono λq xs z=>sm _ _ z
     ·rw[<-Qy,gi,bD (by rw[lss];exact hj)];rfl
     ·rw[<-ht',gi,bD hj];rfl
   ·exact Fg (l:=ks.map (λk:Cl×Addr=>k.1)) (d:=([]:Cl)) (R:=oP) hpS (Ex nds) haS
theorem Kt(F:cE X.prog X.w X.K X.mg X.base g6 k f fd [pm] yc)(hr:eF (k+2) X.A)(hg:Gl X "sorted")(hm:X.mg "sorted" = none)(hv:bootBuiltins "sorted" = some (.builtin "sorted"))(hgf:Gl X g)(hmf:X.mg g=some (.ref f))(hb:Binds X.K fd [pm] [])(ha:ZE X e te)
  (Bq:(g==("__debug__" : Str))=false:=by decide) (he:starEach [e] X.env=[(false,eval e X.env)]:=by rfl) :
  ZE X (.Call (.Name "sorted" p) [e] [⟨some "key",.Name g kp,kpos⟩] pos) (mH X.prog X.w te):=⟨O9 F hr hg hm hv hgf hmf hb ha.to Bq he⟩
theorem xT{X:Cx}{pos:Pos}:ZE X (.Dict [] [] pos) (mK X.prog X.w):=⟨Pg⟩
theorem xS{X:Cx}{o i value:Expr}{pos pos':Pos}{td ty tv:TE}(h1:X.A.units+64<cLine)(h2:ZE X o td)(h3:ZE X i ty)(h4:ZE X value tv)(h5:swapsWith value (some (Expr.Subscript o i pos')) (Pos.line pos) (Cx.env X)=pure false):ZS X (Stmt.Assign [Expr.Subscript o i pos'] value pos) (mQ X.prog X.w td ty tv):=⟨OD h1 h2.to h3.to h4.to h5⟩
end
theorem ClsAt.mono{H H':Hp}{bs:List Addr}{ts:List Cl}(h:ClsAt H bs ts)(k:∀q xs,H q=some (.tup xs)->H' q=some (.tup xs)):ClsAt H' bs ts:=⟨h.1,λi b t e f=>(h.2 i b t e f).mono k⟩
theorem U4{cl dl:List Cl}:((List.range (min cl.length dl.length)).all (λj=>decide (cl[j]?=dl[j]?))&&cl.length==dl.length)=decide (cl=dl):=by
 rw[iZ,dh,jC,se,beq_iff_eq]
 constructor
 ·rintro⟨h,l⟩
  apply ql
  intro i
  by_cases hi:i<cl.length
  ·exact of_decide_eq_true (h i (my.mpr (by lia)))
  ·rw[jE (by lia),jE (by lia)]
 ·rintro rfl
  exact⟨λj _=>decide_eq_true rfl,rfl⟩
section
variable {X:Cx}{pins:List (Addr×Obj)}{s:Shared}{σ:St}{H:Hp}{A:Around}
theorem Br{ps qs:List Addr}{cl dl:List Cl}(I:Inv X pins σ H s)(a:ClsAt H ps cl)(b:ClsAt H qs dl)(hu:A.units+1<cLine)(j:Nat)(h1:j<(ps.map Value.ref).toArray.size)(h2:j<(qs.map Value.ref).toArray.size) :
  SeqAt.EqAt A s (ps.map Value.ref).toArray[j] (qs.map Value.ref).toArray[j] (decide (cl[j]?=dl[j]?)):=by
 have j1:j<ps.length:=by simpa using h1
 have j2:j<qs.length:=by simpa using h2
 have k1:j<cl.length:=by rw[<-a.1];exact j1
 have k2:j<dl.length:=by rw[<-b.1];exact j2
 have c1:cl[j]?=some cl[j]:=bD k1
 have c2:dl[j]?=some dl[j]:=bD k2
 have v1:(ps.map Value.ref).toArray[j]=.ref ps[j]:=by simp
 have v2:(qs.map Value.ref).toArray[j]=.ref qs[j]:=by simp
 have:=Io (A:=A) hu (p6 I.bM (a.2 j _ _ (bD j1) c1)) (p6 I.bM (b.2 j _ _ (bD j2) c2))
 rw[v1,v2,c1,c2]
 have e3:decide ((some cl[j]:Option Cl)=some dl[j])=decide (cl[j]=dl[j]):=by simp only[pI]
 rw[e3];exact this
def v8(neg:Bool):R2:=λx y H Q=>∃a b,x=.ref a/\y=.ref b/\∃ps qs cl dl,H a=some (.lst (List.map V.ref ps))/\H b=some (.lst (List.map V.ref qs))/\ClsAt H ps cl/\ClsAt H qs dl/\Q (.bl (if neg then !decide (cl=dl) else decide (cl=dl))) H
end
section
variable {X:Cx}
theorem Tw(hu:X.A.units+64<cLine):kF X (compareOp .Eq) (v8 false):=by
 intro pins s σ H x y v u Q I rx ry h
 obtain⟨a,b,rfl,rfl,ps,qs,cl,dl,h1,h2,a1,a2,q⟩:=h
 cases rx;cases ry
 obtain⟨us,r1,t1,_⟩:=I.list (aP h1)
 obtain⟨ws,r2,t2,_⟩:=I.list (aP h2)
 have e1:=fo r1
 have e2:=fo r2
 subst e1 e2
 have l1:(ps.map Value.ref).toArray.size=cl.length:=by rw[cZ,aM,a1.1]
 have l2:(qs.map Value.ref).toArray.size=dl.length:=by rw[cZ,aM,a2.1]
 by_cases hl:cl.length=dl.length
 ·refine SeqAt.eq_listAt (e:=λj=>decide (cl[j]?=dl[j]?)) t1.isList t2.isList (by rw[l1,l2,hl]) (by lia) (λj h1 h2=>Br I a1 a2 (by rw[mh];lia) j h1 h2) ⟨.bl _,H,I,rfl,?_⟩
  have e:=U4 (cl:=cl) (dl:=dl)
  rw[hl,Nat.min_self,qj,Bool.and_true]at e
  rw[l1,hl,e]
  exact q
 ·refine SeqAt.eq_list_lengthsAt t1.isList t2.isList (by rw[l1,l2];simpa using hl) (by lia) ⟨.bl _,H,I,rfl,?_⟩
  have e:decide (cl=dl)=false:=decide_eq_false λz=>hl (by rw[z])
  have q':Q (.bl (decide (cl=dl))) H:=q
  rw[e]at q'
  exact q'
end
section
variable {X:Cx}{pins:List (Addr×Obj)}{σ:St}{H:Hp}{s:Shared}{d:Addr}{o:Obj}{ks:List (Cl×Addr)}
theorem Ed(I:Inv X pins σ H s)(hd:H d=some (iW X.prog X.w d ks))(ho:s.heap.get? d=some o):Inv X pins σ (upd H d (.m9 o (iW X.prog X.w d ks))) s:=by
 have ok:ju X.prog X.w (upd H d (.m9 o (iW X.prog X.w d ks))) s.heap:=Qr I.bM hd (λy z=>by cases z) (λxs z=>by cases z) λH' h1 h2=>⟨ho,(I.bM d _ hd).stay (λ_ _ _ q=>q) (λc q=>h1 c _ q) h2⟩
 have ne:∀{b:Addr} {u:HO},H b=some u->(iW X.prog X.w d ks≠u)->b≠d:=λe n=>(fE hd e n).symm
 exact I.step (g':=s.gens) (t':=s.toks) (d':=s.drawn) (ch:=[]) (λ_ z=>nomatch z) (λ_ _ _ _ _ e _=>e) (λb o _ _ _ e _=>⟨o.slots,e⟩) (λb o _ e n=>by rw[au (ay hd n).symm];exact n) (λb o _ e=>⟨o,e⟩)
  (λb xs e=>by rw[au (ne e (by intro z;cases z))];exact e) (λb o u e=>by rw[au (ne e (by intro z;cases z))];exact e) (λb ps e=>⟨#[],by rw[au (ne e (by intro z;cases z)),e];simp⟩) (λm h=>h) ok I.bare
end
def Itc(P:Program)(w:World)(d:Addr)(o:Obj)(ks:List (Cl×Addr)):It:=
 ⟨λi H=>i<ks.length/\H d=some (.m9 o (iW P w d ks)),λi H x H'=>H'=H/\∃k,ks[i]?=some k/\x=.ref k.2,λi H=>ks.length<=i/\H d=some (.m9 o (iW P w d ks))⟩
theorem JT{P:Program}{w:World}{ks:List (Cl×Addr)}{es:Array DictEntry}(h:es.toList=(lg ks).map (entryOfKey (nF P w))):es.size=ks.length/\∀i (hi:i<es.size) k,ks[i]?=some k->es[i].key=.ref k.2:=by
 have sz:es.size=ks.length:=by rw[<-dF,h,aM];unfold lg;rw[aM]
 refine⟨sz,λi hi k hk=>?_⟩
 have e:es.toList[i]?=some es[i]:=by simp[hi]
 rw[h]at e
 unfold lg at e
 rw[cR,cR,hk]at e
 rw[<-cv e]
 rfl
theorem GR{P:Program}{w:World}{K:PySem.W.Frag}{tg:Expr}(d it:Addr)(o:Obj)(ks:List (Cl×Addr))(es:Array DictEntry)(ep:Nat)(ne:d≠it)(ox:o.ExactDict)(od:o.data=.dict es ep):Turn P w K tg (Itc P w d o ks) [it] it (λi h=>h.IsKeyIter it d i es.size ep) where
 mem:=by simp
 obj:=λi h st b hb=>by
  have e:b=it:=by simpa using hb
  subst e
  refine hide λgG hG=>?_
  obtain⟨o,e,c,d⟩:=st
  refine hG ?_
  exact⟨o,e,λv z=>by rw[d]at z;cases z⟩
 keep:=λi h h' st k=>st.at λo e=>k it (by simp) o e
 item:=by
  intro X hP hw hK hc i pins s σ H E I hf st hg
  subst hP hw hK
  refine hide λgG hG=>?_
  obtain⟨hi,hd⟩:=hg
  obtain⟨ho,q⟩:=(show dj X.prog X.w H s.heap d (.m9 o (iW X.prog X.w d ks)) from I.bM d _ hd)
  obtain⟨_,o',es',Zo,Eg,ox',od',RM⟩:=iW.of q
  refine hG ?_
  rw[ho]at Eg
  cases Eg
  rw[od]at od'
  cases od'
  refine hide λgG hG=>?_
  obtain⟨f0,f1,f2,f3,f4,f5⟩:=hf it (by simp)
  obtain⟨zl,at'⟩:=JT RM
  refine hG ?_
  have u5:i<es.size:=by lia
  have ek:ks[i]?=some ks[i]:=bD hi
  refine CV st ⟨o,ho,ox,od⟩ u5 λh' bu sb=>?_
  have I1:Inv X pins σ H { s with heap:=h' }:=I.turned (t':=s.toks) (λb o hb e=>(sb.2 b hb).trans e) f0 f1 f3 f4 f5
  refine hide λgG hG=>?_
  obtain⟨oi,e,c,dd⟩:=id bu
  refine hG ?_
  exact⟨_,rfl,J8 (s:={ s with heap:=h' }) e c dd (by decide) ⟨.ref (ks[i]).2,H,I1,at' i u5 _ ek,⟨rfl,_,ek,rfl⟩,bu,λb hb=>(hf b hb).1⟩⟩
 done:=by
  intro X hP hw hK hc i pins s σ H E I hf st hg
  subst hP hw hK
  refine hide λgG hG=>?_
  obtain⟨hi,hd⟩:=hg
  obtain⟨ho,q⟩:=(show dj X.prog X.w H s.heap d (.m9 o (iW X.prog X.w d ks)) from I.bM d _ hd)
  obtain⟨_,o',es',Zo,Eg,ox',od',RM⟩:=iW.of q
  refine hG ?_
  rw[ho]at Eg
  cases Eg
  rw[od]at od'
  cases od'
  refine hide λgG hG=>?_
  obtain⟨f0,f1,f2,f3,f4,f5⟩:=hf it (by simp)
  obtain⟨zl,_⟩:=JT RM
  refine hG ?_
  exact Jt (I.ok.hd hc) st ⟨o,ho,ox,od⟩ (by lia) λh' eb=>⟨rfl,I.turned (t':=s.toks) (λb o hb e=>eb b o hb e) f0 f1 f3 f4 f5⟩
 self:=λ_ _ _ _ _ st h=>wpAny_pyIter_keyiter st h
section
variable {X:Cx}{tg:Expr}
def m5(P:Program)(w:World)(te:TE):TI:=λσ H R=>te σ H λv H1=>∃a,v=.ref a/\∃ks,H1 a=some (iW P w a ks)/\∀o,R (Itc P w a o ks) (upd H1 a (.m9 o (iW P w a ks)))
theorem O4{l:Expr}{tl:TE}(hl:PE X l tl):PI X tg l (m5 X.prog X.w tl):=by
 intro pins s σ H R I h
 refine dm (hl pins s σ H _ I h) λv s1 q1=>?_
 refine hide λgG hG=>?_
 obtain⟨x,H1,I1,r1,a,rfl,ks,hd,q⟩:=q1
 refine hG ?_
 cases r1
 refine hide λgG hG=>?_
 obtain⟨lo,o,es,ep,ho,ox,od,c⟩:=iW.of (I1.bM a _ hd)
 refine hG ?_
 refine CT lo ⟨o,ho,ox,od⟩ ?_
 have I0:=Ed I1 hd ho
 have I2:Inv X pins σ (upd H1 a (.m9 o (iW X.prog X.w a ks))) { s1 with heap:=s1.heap.push { cls:=.type "dict_keyiterator",data:=.fields #[.ref a,.int 0 0,.int es.size 0,.int ep 0] } }:=I0.kept (t':=s1.toks) λb o e=>cF _ e
 refine⟨s1.heap.objs.size,[s1.heap.objs.size],_,_,_,rfl,I2,GR a _ o ks es ep (bK (aS ho)) ox od,⟨_,dD _ rfl,rfl,rfl⟩,λb hb=>?_,q o⟩
 have e:b=s1.heap.objs.size:=by simpa using hb
 subst e
 exact I0.Uz (aU _) (I0.bM.fresh (aU _))
theorem Ks{l:Expr}{tl:TE}(h1:ZE X l tl):ZI X tg l (m5 X.prog X.w tl):=⟨O4 h1.to⟩
theorem xB{P:Program}{w:World}{a:Addr}{o:Obj}{ks:List (Cl×Addr)}{idx:List Nat}{tt:CB->TT}{te:CB->TE}{σ:St}{Q:VK}{H1:Hp}(Pv:Addr->Nat->List V->Hp->Prop)(h0:∀D,H1 D=none->Pv D 0 [] (upd H1 D (.lst [])))
  (hl:∀D,H1 D=none->∀i ys H,i<=ks.length->Pv D i ys H->H a=some (.m9 o (iW P w a ks)))
  (hs:∀D,H1 D=none->∀i k ys H,ks[i]?=some k->Pv D i ys H->∀(c:CB),tt c (some (.ref k.2)::bZ σ idx) H λb H4=>if b=true then te c (some (.ref k.2)::bZ σ idx) H4 λy H5=>H5 D=some (.lst ys)/\ys.length<sizeLine/\Pv D (i+1) (ys++[y]) (upd H5 D (.lst (ys++[y]))) else Pv D (i+1) ys H4)
  (hd:∀D,H1 D=none->∀ys H,Pv D ks.length ys H->Q (.ref D) H):fJ (Itc P w a o ks) 1 idx (λ_=>cJ 0) tt te σ Q H1:=by
 intro D hD
 refine⟨λi m ys H=>m=ks.length-i/\i<=ks.length/\Pv D i ys H,⟨ks.length,by simp,dG _,h0 D hD⟩,?_⟩
 rintro i m ys H ⟨rfl,hi,p⟩
 by_cases iQ:i<ks.length
 ·refine .inr ⟨⟨iQ,hl D hD i ys H hi p⟩,Pv D (i+1),λqv H' p'=>⟨ks.length-(i+1),by lia,rfl,iQ,p'⟩,λc own ho y H' yl=>?_⟩
  refine hide λgG hG=>?_
  obtain⟨rfl,k,hk,rfl⟩:=yl
  refine hG ?_
  show(∃dY,dY.length=1/\(own++bZ σ idx).set 0 _=dY++bZ σ idx)/\tt c ((own++bZ σ idx).set 0 _) _ _
  rw[Tq ho]
  exact⟨⟨[_],rfl,rfl⟩,hs D hD i k ys _ hk p c⟩
 ·have e:i=ks.length:=by lia
  subst e
  exact .inl ⟨⟨aU _,hl D hD _ ys H hi p⟩,hd D hD ys H p⟩
def tZ(P:Program)(w:World)(ty td:TE):TE:=λσ H Q=>ty σ H λy H1=>td σ H1 λx H2=>∃d,x=.ref d/\∃a,y=.ref a/\∃ks cl,(H2 d=some (iW P w d ks)\/∃o,H2 d=some (.m9 o (iW P w d ks)))/\(∀k∈ks,de H2 k.1 k.2)/\de H2 cl a/\(ks.map (·.1)).Nodup/\Q (.bl (decide (cl∈ks.map (·.1)))) H2
theorem Ti{i o:Expr}{ty td:TE}(hu:X.A.units+64<cLine)(hi:PE X i ty)(ho:PE X o td):PC X .In i o (tZ X.prog X.w ty td):=by
 intro pins s σ H Q I h
 refine dm (hi pins s σ H _ I h) λiv s1 ⟨y,H1,I1,ry,q1⟩=>dm (ho pins s1 σ H1 _ I1 q1) λu s2 ⟨x,H2,I2,rx,d,ex,a,ey,ks,cl,hd,all,hc,nd,q2⟩=>?_
 subst ex ey
 cases rx
 cases ry
 have obj:dj X.prog X.w H2 s2.heap d (iW X.prog X.w d ks):=by
  rcases hd with hd | ⟨ob,hd⟩
  ·exact I2.bM d _ hd
  ·exact(show dj X.prog X.w H2 s2.heap d (.m9 ob (iW X.prog X.w d ks)) from I2.bM d _ hd).2
 refine hide λgG hG=>?_
 obtain⟨lo,ob,es,ep,e1,e2,e3,e4⟩:=iW.of obj
 refine hG ?_
 have dd:s2.heap.DictOfH (nF X.prog X.w) d (lg ks):=⟨ob,es,ep,e1,e2,e3,e4,λx hx=>by
  obtain⟨k,hk,rfl⟩:=bH.mp hx
  exact p6 I2.bM (all k hk),by rw[Eb];exact nd⟩
 refine wpAny_in_heap (knd:=nF X.prog X.w) (show X.A.in1.units+1<cLine by rw[mh];lia) (p6 I2.bM hc) lo dd ⟨.bl (decide (cl∈ks.map (·.1))),H2,I2.tok _,?_,q2⟩
 show Value.bool _=Value.bool _
 congr 1
 rw[iZ,g8]
 unfold atKey
 rw[vC,Ga]
 constructor
 ·rintro⟨x,hx,ex⟩
  obtain⟨k,hk,rfl⟩:=bH.mp hx
  exact bH.mpr ⟨k,hk,by simpa using ex⟩
 ·intro h
  obtain⟨k,hk,e⟩:=bH.mp h
  exact⟨(k.1,k.2,.bool true),bH.mpr ⟨k,hk,rfl⟩,by simpa using e⟩
def pR:R2:=λx y H Q=>∃a b,x=.ref a/\y=.ref b/\∃xs,H a=some (.lst xs)/\H b=some (.lst [])/\Q (.bl (decide (xs=[]))) H
theorem Pj(hu:X.A.units+1<cLine):kF X (compareOp .Eq) pR:=by
 intro pins s σ H x y v u Q I rx ry h
 refine hide λgG hG=>?_
 obtain⟨a,b,rfl,rfl,xs,h1,h2,q⟩:=h
 refine hG ?_
 cases rx;cases ry
 refine hide λgG hG=>?_
 obtain⟨us,r1,t1,_⟩:=I.list (aP h1)
 obtain⟨ws,r2,t2,_⟩:=I.list (aP h2)
 refine hG ?_
 cases r2
 have l1:=r1.length
 cases xs with
 | nil=>
  cases r1
  exact SeqAt.eq_listAt (e:=λ_=>true) t1.isList t2.isList rfl (by lia) (λj h1 h2=>absurd h1 (rS _)) ⟨.bl true,H,I,rfl,q⟩
 | cons z zs=>exact SeqAt.RcAt.lists_lengths t1.isList t2.isList (by rw[cZ,<-l1];rfl) (by lia) _ _ _ _ ⟨.bl false,H,I,rfl,q⟩
theorem Nv{i o:Expr}{ty td:TE}(hu:X.A.units+64<cLine)(hi:ZE X i ty)(ho:ZE X o td):ZC X .In i o (tZ X.prog X.w ty td):=⟨Ti hu hi.to ho.to⟩
end
end L2
end
section
namespace L2
open PySem PySem.Spec PyProof.Rows
theorem um{K K':PySem.W.Frag}{a:Addr}{zs:List V}{idx:List Nat}{n:CB->Nat}{tt:CB->TT}{te:CB->TE}{σ:St}{Q:VK}{H1:Hp}(hn:∀c,n c=2)(Pv:Addr->Nat->List V->Hp->Prop)(h0:∀D,H1 D=none->Pv D 0 [] (upd H1 D (.lst [])))
  (hl:∀D,H1 D=none->∀i ys H,i<=zs.length->Pv D i ys H->H a=some (.tup zs))
  (hs:∀D,H1 D=none->∀i x ys H,zs[i]?=some x->Pv D i ys H->∃q u v,x=.ref q/\H q=some (.tup [u,v])/\∀(c:CB),tt c (some u::some v::bZ σ idx) H λb H4=>if b=true then te c (some u::some v::bZ σ idx) H4 λy H5=>H5 D=some (.lst ys)/\ys.length<sizeLine/\Pv D (i+1) (ys++[y]) (upd H5 D (.lst (ys++[y]))) else Pv D (i+1) ys H4)
  (hd:∀D,H1 D=none->∀ys H,Pv D zs.length ys H->Q (.ref D) H):fJ (Vb K a) 2 idx (λc=>Yl K' (n c) (ui (cJ 0) (ui (cJ 1) Ik))) tt te σ Q H1:=by
 intro D hD
 refine⟨λi m ys H=>m=zs.length-i/\i<=zs.length/\Pv D i ys H,⟨zs.length,by simp,dG _,h0 D hD⟩,?_⟩
 rintro i m ys H ⟨rfl,hi,p⟩
 by_cases iQ:i<zs.length
 ·refine .inr ⟨⟨zs,zs[i],bC (hl D hD i ys H hi p),bD iQ⟩,Pv D (i+1),λqv H' p'=>⟨zs.length-(i+1),by omega,rfl,iQ,p'⟩,λc own ho y H' yl=>?_⟩
  obtain⟨e,hy⟩:=yl
  subst e
  have ey:=hy zs (bC (hl D hD i ys H' hi p))
  obtain⟨q,u,v,rfl,hq,run⟩:=hs D hD i y ys H' ey p
  match own,ho with
  | [o1,o2],_=>exact⟨q,[u,v],rfl,bC hq,(hn c).symm,⟨u,[v],rfl,v,[],rfl,rfl,⟨[some u,some v],rfl,rfl⟩,run c⟩⟩
 ·have e:i=zs.length:=by omega
  subst e
  exact .inl ⟨⟨zs,bC (hl D hD _ ys H hi p),aU _⟩,hd D hD ys H p⟩
def Ou:R2:=λx y H Q=>(x=.non/\y=.non/\Q (.bl false) H)\/aAd true x y H Q
section
variable {X:Cx}
theorem Tt(hu:X.A.units+1<cLine):kF X (compareOp .NotEq) Ou:=by
 intro pins s σ H x y v u Q I rx ry h
 rcases h with ⟨rfl,rfl,q⟩ | h
 ·exact Dp pins s σ H _ _ v u Q I rx ry ⟨rfl,q⟩
 ·exact Xd hu pins s σ H x y v u Q I rx ry h
end
end L2
end
namespace My
open PySem L2
def top(i:Nat):Stmt:=PySem.Challenge.pw_truceroll_k29_whole_joins_stay.main.body.getD i (.Pass ⟨0,0,0,0⟩)
abbrev gN:Stmt:=top 4
abbrev dN:Stmt:=top 5
abbrev bS:Stmt:=top 7
abbrev gM:Stmt:=top 8
abbrev cq:Stmt:=top 10
abbrev fS:Stmt:=top 11
abbrev iT:Stmt:=top 12
abbrev kb:Stmt:=top 13
abbrev gL:Stmt:=top 15
abbrev dM:Stmt:=top 16
abbrev fT:Stmt:=top 17
abbrev fP:Stmt:=top 18
abbrev iU:Stmt:=top 20
abbrev fQ:Stmt:=top 21
abbrev d8:Stmt:=top 22
abbrev cM:Stmt:=top 23
abbrev d9:Stmt:=top 24
abbrev fY:Stmt:=top 26
abbrev fX:Stmt:=top 27
abbrev fU:Stmt:=top 28
abbrev fZ:Stmt:=top 29
abbrev fi:Stmt:=top 30
abbrev fV:Stmt:=top 31
abbrev fj:Stmt:=top 32
abbrev dn:Stmt:=top 33
abbrev cN:Stmt:=top 34
abbrev cO:Stmt:=top 35
abbrev dO:Stmt:=top 36
abbrev eC:Stmt:=top 37
abbrev eB:Stmt:=top 38
abbrev fh:Stmt:=top 39
abbrev fW:Stmt:=top 40
abbrev qK:Stmt:=top 41
abbrev Dz:List Str:=["rule"]
abbrev uI:List Str:=["rule","names","part"]
abbrev lW:List Str:=["tuples","each","one"]
abbrev Dy:List Str:=["one"]
abbrev oO:List Str:=["clauses"]
abbrev Av:List Str:=["literals","truths","name","truth"]
abbrev Hs:List Str:=["clause","facts","left","name","truth"]
abbrev Ls:List Str:=["one","other","name"]
abbrev Dx:List Str:=["rule","facts","word"]
abbrev uH:List Str:=["word","one","other"]
abbrev Aw:List Str:=["names","rows","name","longer","facts"]
abbrev Ar:List Str:=["facts","name","truth","more"]
abbrev Ht:List Str:=["rule","clause"]
abbrev Au:List Str:=["rule"]
abbrev wq:List Str:=["rule","following"]
abbrev qS:List Str:=["names","rows","pairs","name","longer","clause","unmet","following"]
abbrev wt:List Str:=["clause","following","place"]
abbrev Bb:List Str:=["_law_script"]
abbrev Ba:List Str:=["_law_hand_here"]
abbrev Ax:List Str:=["_law_hand_here","_law_cell"]
abbrev Bc:List Str:=["_law_hand_here","_law_many","_law_got","_law_value","_law_size"]
abbrev xg:List Str:=["_law_hand_here","_law_many","_law_letters","_law_way","_law_some","_law_at","_law_word","_law_spot","_law_start","_law_names_here","_law_k","_law_sign","_law_name"]
abbrev Ay:List Str:=["_law_hand_here","_law_names_here","_law_deep","_law_way","_law_one"]
abbrev xh:List Str:=["_law_rule_here","_law_facts","_law_word","_law_one","_law_other"]
abbrev sA:List Str:=["_law_rule_here","_law_names_here","_law_part"]
abbrev qT:List Str:=["_law_rules","_law_names_here","_law_rule_here"]
abbrev qU:List Str:=["_law_names_here","_law_rows","_law_name","_law_more","_law_row","_law_truth","_law_one"]
abbrev uJ:List Str:=["_law_rule_here","_law_clause","_law_names_here","_law_facts"]
abbrev wx:List Str:=["_law_one","_law_other","_law_literal"]
abbrev wu:List Str:=["_law_hand_here","_law_clause","_law_names_here","_law_literals","_law_name"]
abbrev xf:List Str:=["_law_some","_law_name","_law_pairs_here","_law_one","_law_other"]
abbrev Az:List Str:=["_law_one","_law_other","_law_name","_law_left","_law_literal"]
abbrev Xl:List Str:=["_law_script","_law_hand_here","_law_names_here","_law_rule_here","_law_own","_law_told","_law_some","_law_k","_law_name","_law_pairs_here","_law_one","_law_other","_law_found"]
def aAD(s:Stmt)(j:Nat):Stmt:=match s with
 | .ClassDef _ _ _ b _ _ _ _ _ _ _=>b.getD j (.Pass ⟨0,0,0,0⟩)
 | _=>.Pass ⟨0,0,0,0⟩
abbrev cI:Stmt:=aAD (top 2) 0
abbrev cW:List Str:=["self","name"]
structure tN where
 qa:Addr
 pZ:FuncData
 jr:Addr
 jn:FuncData
 eV:Addr
 eT:FuncData
 p9:Addr
 pY:FuncData
 fN:Addr
 fM:FuncData
 nO:Addr
 nj:FuncData
 tH:Addr
 sV:FuncData
 wU:Addr
 wK:FuncData
 p8:Addr
 pX:FuncData
 jq:Addr
 jm:FuncData
 nP:Addr
 nq:FuncData
 nJ:Addr
 nh:FuncData
 tI:Addr
 sW:FuncData
 nM:Addr
 ni:FuncData
 jV:Addr
 jR:FuncData
 gT:Addr
 gP:FuncData
 jW:Addr
 jS:FuncData
 nW:Addr
 nA:FuncData
 nV:Addr
 nz:FuncData
 nQ:Addr
 nr:FuncData
 nX:Addr
 nB:FuncData
 lG:Addr
 lA:FuncData
 nR:Addr
 nu:FuncData
 lH:Addr
 lB:FuncData
 iE:Addr
 iC:FuncData
 gU:Addr
 gQ:FuncData
 gW:Addr
 gR:FuncData
 js:Addr
 jo:FuncData
 jY:Addr
 jU:FuncData
 jX:Addr
 jT:FuncData
 lF:Addr
 lh:FuncData
 nU:Addr
 nv:FuncData
 Rm:Addr
 QX:FuncData
 aR:Addr
 bJ:Addr
 bE:Addr
 gx:FuncData
structure Txt(K:PySem.W.Frag)(mg:Str->Option Value)(t:tN):Prop where
 qf:jA K "names_of" "names_of" gN t.qa t.pZ
 wQ:Binds K t.pZ ["rule"] []
 wz:mg "names_of" = some (.ref t.qa)
 gy:jA K "names_within" "names_within" dN t.jr t.jn
 nG:Binds K t.jn ["rule"] []
 mX:mg "names_within" = some (.ref t.jr)
 il:jA K "each_once_in_order" "each_once_in_order" bS t.eV t.eT
 nH:Binds K t.eT ["tuples"] []
 mY:mg "each_once_in_order" = some (.ref t.eV)
 Jd:jA K "order_of" "order_of" gM t.p9 t.pY
 IW:Binds K t.pY ["one"] []
 Hx:mg "order_of" = some (.ref t.p9)
 jx:jA K "clauses_in_order" "clauses_in_order" cq t.fN t.fM
 p7:Binds K t.fM ["clauses"] []
 pU:mg "clauses_in_order" = some (.ref t.fN)
 uB:jA K "clause_of" "clause_of" fS t.nO t.nj
 EY:Binds K t.nj ["literals"] []
 DR:mg "clause_of" = some (.ref t.nO)
 y8:jA K "left_of" "left_of" iT t.tH t.sV
 MP:Binds K t.sV ["clause","facts"] []
 Lx:mg "left_of" = some (.ref t.tH)
 Fp:jA K "joined" "joined" kb t.wU t.wK
 Rh:Binds K t.wK ["one","other","name"] []
 P9:mg "joined" = some (.ref t.wU)
 gX:jA K "truth_of" "truth_of" gL t.p8 t.pX
 lE:Binds K t.pX ["rule","facts"] []
 kZ:mg "truth_of" = some (.ref t.p8)
 og:jA K "truth_of_two" "truth_of_two" dM t.jq t.jm
 wO:Binds K t.jm ["word","one","other"] []
 wy:mg "truth_of_two" = some (.ref t.jq)
 uC:jA K "all_facts" "all_facts" fT t.nP t.nq
 Fb:Binds K t.nq ["names"] []
 DS:mg "all_facts" = some (.ref t.nP)
 n8:jA K "with_fact" "with_fact" fP t.nJ t.nh
 uv:Binds K t.nh ["facts","name","truth"] []
 t9:mg "with_fact" = some (.ref t.nJ)
 y9:jA K "follows" "follows" iU t.tI t.sW
 MT:Binds K t.sW ["rule","clause"] []
 Ly:mg "follows" = some (.ref t.tI)
 oj:jA K "facts_for" "facts_for" fQ t.nM t.ni
 uw:Binds K t.ni ["rule"] []
 ua:mg "facts_for" = some (.ref t.nM)
 o8:jA K "shortest_of" "shortest_of" d8 t.jV t.jR
 xE:Binds K t.jR ["rule"] []
 xj:mg "shortest_of" = some (.ref t.jV)
 kz:jA K "following_over" "following_over" cM t.gT t.gP
 tE:Binds K t.gP ["names","rows"] []
 sD:mg "following_over" = some (.ref t.gT)
 o9:jA K "has_shorter" "has_shorter" d9 t.jW t.jS
 xF:Binds K t.jS ["clause","following"] []
 xk:mg "has_shorter" = some (.ref t.jW)
 uF:jA K "_law_hand" "_law_hand" fY t.nW t.nA
 Fe:Binds K t.nA ["_law_script"] []
 DX:mg "_law_hand" = some (.ref t.nW)
 iq:jA K "_law_next" "_law_next" fX t.nV t.nz
 jM:Binds K t.nz ["_law_hand_here"] []
 jJ:mg "_law_next" = some (.ref t.nV)
 uD:jA K "_law_take" "_law_take" fU t.nQ t.nr
 Fc:Binds K t.nr ["_law_hand_here"] []
 DT:mg "_law_take" = some (.ref t.nQ)
 bq:jA K "_law_draw" "_law_draw" fZ t.nX t.nB
 bz:Binds K t.nB ["_law_hand_here","_law_many"] []
 bx:mg "_law_draw" = some (.ref t.nX)
 rm:jA K "_law_names" "_law_names" fi t.lG t.lA
 Bx:Binds K t.lA ["_law_hand_here","_law_many"] []
 Bg:mg "_law_names" = some (.ref t.lG)
 ip:jA K "_law_rule" "_law_rule" fV t.nR t.nu
 nI:Binds K t.nu ["_law_hand_here","_law_names_here","_law_deep"] []
 mZ:mg "_law_rule" = some (.ref t.nR)
 ft:jA K "_law_holds" "_law_holds" fj t.lH t.lB
 iS:Binds K t.lB ["_law_rule_here","_law_facts"] []
 iO:mg "_law_holds" = some (.ref t.lH)
 d7:jA K "_law_names_of" "_law_names_of" dn t.iE t.iC
 iD:Binds K t.iC ["_law_rule_here"] []
 iA:mg "_law_names_of" = some (.ref t.iE)
 kB:jA K "_law_all_names" "_law_all_names" cN t.gU t.gQ
 tF:Binds K t.gQ ["_law_rules"] []
 sE:mg "_law_all_names" = some (.ref t.gU)
 kE:jA K "_law_all_facts" "_law_all_facts" cO t.gW t.gR
 tG:Binds K t.gR ["_law_names_here"] []
 sF:mg "_law_all_facts" = some (.ref t.gW)
 om:jA K "_law_follows" "_law_follows" dO t.js t.jo
 wR:Binds K t.jo ["_law_rule_here","_law_clause"] []
 wA:mg "_law_follows" = some (.ref t.js)
 ph:jA K "_law_inside" "_law_inside" eC t.jY t.jU
 xH:Binds K t.jU ["_law_one","_law_other"] []
 xm:mg "_law_inside" = some (.ref t.jY)
 pd:jA K "_law_longer" "_law_longer" eB t.jX t.jT
 xG:Binds K t.jT ["_law_hand_here","_law_clause","_law_names_here"] []
 xl:mg "_law_longer" = some (.ref t.jX)
 rk:jA K "_law_pairs" "_law_pairs" fh t.lF t.lh
 Bw:Binds K t.lh ["_law_some","_law_name"] []
 Bf:mg "_law_pairs" = some (.ref t.lF)
 uE:jA K "_law_rest" "_law_rest" fW t.nU t.nv
 Fd:Binds K t.nv ["_law_one","_law_other","_law_name"] []
 DW:mg "_law_rest" = some (.ref t.nU)
 aBJ:jA K "law" "law" qK t.Rm t.QX
 aFO:Binds K t.QX ["_law_script"] []
 aFJ:mg "law" = some (.ref t.Rm)
 z_abs:mg "abs" = none
 z_all:mg "all" = none
 z_any:mg "any" = none
 z_dict:mg "dict" = none
 z_int:mg "int" = none
 z_len:mg "len" = none
 z_list:mg "list" = none
 z_range:mg "range" = none
 z_set:mg "set" = none
 z_sorted:mg "sorted" = none
 z_tuple:mg "tuple" = none
 Bh:mg "TruceError" = some (.ref t.aR)
 R1:XC K t.aR
 kc_TruceError:PySem.W.keepIn K (.ref t.aR)=true
 ii_TruceError:PySem.W.findIn K (.ref t.aR) "__init__" = some (some (.builtin "ValueError.__init__"))
 rd_TruceError:PySem.W.readsIn K t.aR (.type "type")=true
 fc_TruceError:PySem.W.findCls K (.ref t.aR) (.type "type") "__init__" = some (.val (.builtin "ValueError.__init__"))
 sg_TruceError:PySem.W.specialIn K (.ref t.aR) "__getattribute__" = some (some (.builtin "type.__getattribute__"))
 Qa:mg "NoJoin" = some (.ref t.bJ)
 vO:XC K t.bJ
 kc_NoJoin:PySem.W.keepIn K (.ref t.bJ)=true
 rn:jA K "__init__" "NoJoin.__init__" cI t.bE t.gx
 rh:Binds K t.gx cW []
 ii_NoJoin:PySem.W.findIn K (.ref t.bJ) "__init__" = some (some (.ref t.bE))
 if_NoJoin:PySem.W.typeIn K (.ref t.bE)=some (.type "function")
 tk_NoJoin:PySem.W.takerIn K t.bJ "name" = some none
 nf_NoJoin:PySem.W.findIn K (.ref t.bJ) "name" = some none
theorem pO:aT cW cW (ao cI):=⟨rfl,rfl,rfl,by decide +kernel,rfl,by decide +kernel,by decide +kernel⟩
theorem CJ:aT Dz ["rule"] (ao gN):=⟨rfl,rfl,rfl,by decide +kernel,rfl,by decide +kernel,by decide +kernel⟩
theorem fG:aT uI ["rule"] (ao dN):=⟨rfl,rfl,rfl,by decide +kernel,rfl,by decide +kernel,by decide +kernel⟩
theorem eD:aT lW ["tuples"] (ao bS):=⟨rfl,rfl,rfl,by decide +kernel,rfl,by decide +kernel,by decide +kernel⟩
theorem CG:aT Dy ["one"] (ao gM):=⟨rfl,rfl,rfl,by decide +kernel,rfl,by decide +kernel,by decide +kernel⟩
theorem oN:aT oO ["clauses"] (ao cq):=⟨rfl,rfl,rfl,by decide +kernel,rfl,by decide +kernel,by decide +kernel⟩
theorem iM:aT Av ["literals"] (ao fS):=⟨rfl,rfl,rfl,by decide +kernel,rfl,by decide +kernel,by decide +kernel⟩
theorem kO:aT Hs ["clause","facts"] (ao iT):=⟨rfl,rfl,rfl,by decide +kernel,rfl,by decide +kernel,by decide +kernel⟩
theorem K3:aT Ls ["one","other","name"] (ao kb):=⟨rfl,rfl,rfl,by decide +kernel,rfl,by decide +kernel,by decide +kernel⟩
theorem mL:aT Dx ["rule","facts"] (ao gL):=⟨rfl,rfl,rfl,by decide +kernel,rfl,by decide +kernel,by decide +kernel⟩
theorem uG:aT uH ["word","one","other"] (ao dM):=⟨rfl,rfl,rfl,by decide +kernel,rfl,by decide +kernel,by decide +kernel⟩
theorem e9:aT Aw ["names"] (ao fT):=⟨rfl,rfl,rfl,by decide +kernel,rfl,by decide +kernel,by decide +kernel⟩
theorem qH:aT Ar ["facts","name","truth"] (ao fP):=⟨rfl,rfl,rfl,by decide +kernel,rfl,by decide +kernel,by decide +kernel⟩
theorem Hb:aT Ht ["rule","clause"] (ao iU):=⟨rfl,rfl,rfl,by decide +kernel,rfl,by decide +kernel,by decide +kernel⟩
theorem Ac:aT Au ["rule"] (ao fQ):=⟨rfl,rfl,rfl,by decide +kernel,rfl,by decide +kernel,by decide +kernel⟩
theorem mM:aT wq ["rule"] (ao d8):=⟨rfl,rfl,rfl,by decide +kernel,rfl,by decide +kernel,by decide +kernel⟩
theorem bt:aT qS ["names","rows"] (ao cM):=⟨rfl,rfl,rfl,by decide +kernel,rfl,by decide +kernel,by decide +kernel⟩
theorem mO:aT wt ["clause","following"] (ao d9):=⟨rfl,rfl,rfl,by decide +kernel,rfl,by decide +kernel,by decide +kernel⟩
theorem Ae:aT Bb ["_law_script"] (ao fY):=⟨rfl,rfl,rfl,by decide +kernel,rfl,by decide +kernel,by decide +kernel⟩
theorem Ad:aT Ba ["_law_hand_here"] (ao fX):=⟨rfl,rfl,rfl,by decide +kernel,rfl,by decide +kernel,by decide +kernel⟩
theorem kP:aT Ax ["_law_hand_here"] (ao fU):=⟨rfl,rfl,rfl,by decide +kernel,rfl,by decide +kernel,by decide +kernel⟩
theorem fc:aT Bc ["_law_hand_here","_law_many"] (ao fZ):=⟨rfl,rfl,rfl,by decide +kernel,rfl,by decide +kernel,by decide +kernel⟩
theorem bB:aT xg ["_law_hand_here","_law_many"] (ao fi):=⟨rfl,rfl,rfl,by decide +kernel,rfl,by decide +kernel,by decide +kernel⟩
theorem iN:aT Ay ["_law_hand_here","_law_names_here","_law_deep"] (ao fV):=⟨rfl,rfl,rfl,by decide +kernel,rfl,by decide +kernel,by decide +kernel⟩
theorem fD:aT xh ["_law_rule_here","_law_facts"] (ao fj):=⟨rfl,rfl,rfl,by decide +kernel,rfl,by decide +kernel,by decide +kernel⟩
theorem dJ:aT sA ["_law_rule_here"] (ao dn):=⟨rfl,rfl,rfl,by decide +kernel,rfl,by decide +kernel,by decide +kernel⟩
theorem eK:aT qT ["_law_rules"] (ao cN):=⟨rfl,rfl,rfl,by decide +kernel,rfl,by decide +kernel,by decide +kernel⟩
theorem bN:aT qU ["_law_names_here"] (ao cO):=⟨rfl,rfl,rfl,by decide +kernel,rfl,by decide +kernel,by decide +kernel⟩
theorem iz:aT uJ ["_law_rule_here","_law_clause"] (ao dO):=⟨rfl,rfl,rfl,by decide +kernel,rfl,by decide +kernel,by decide +kernel⟩
theorem mP:aT wx ["_law_one","_law_other"] (ao eC):=⟨rfl,rfl,rfl,by decide +kernel,rfl,by decide +kernel,by decide +kernel⟩
theorem jg:aT wu ["_law_hand_here","_law_clause","_law_names_here"] (ao eB):=⟨rfl,rfl,rfl,by decide +kernel,rfl,by decide +kernel,by decide +kernel⟩
theorem gZ:aT xf ["_law_some","_law_name"] (ao fh):=⟨rfl,rfl,rfl,by decide +kernel,rfl,by decide +kernel,by decide +kernel⟩
theorem kQ:aT Az ["_law_one","_law_other","_law_name"] (ao fW):=⟨rfl,rfl,rfl,by decide +kernel,rfl,by decide +kernel,by decide +kernel⟩
theorem gK:aT Xl ["_law_script"] (ao qK):=⟨rfl,rfl,rfl,by decide +kernel,rfl,by decide +kernel,by decide +kernel⟩
def kj:List Str:=[Str.ofString "is",Str.ofString "not",Str.ofString "and",Str.ofString "or",Str.ofString "then",Str.ofString "same",Str.ofString "yes",Str.ofString "no",Str.ofString "say",Str.ofString "fix",Str.ofString "isa",Str.ofString "nota",Str.ofString "a"]
theorem aBH:bootBuiltins "abs" = some (.builtin "abs"):=by decide +kernel
theorem V7:bootBuiltins "all" = some (.builtin "all"):=by decide +kernel
theorem V6:bootBuiltins "any" = some (.builtin "any"):=by decide +kernel
theorem Ri:bootBuiltins "dict" = some (.type "dict"):=by decide +kernel
theorem aBG:bootBuiltins "int" = some (.type "int"):=by decide +kernel
theorem rg:bootBuiltins "len" = some (.builtin "len"):=by decide +kernel
theorem Rg:bootBuiltins "list" = some (.type "list"):=by decide +kernel
theorem aBF:bootBuiltins "set" = some (.type "set"):=by decide +kernel
theorem ig:bootBuiltins "sorted" = some (.builtin "sorted"):=by decide +kernel
theorem vf:bootBuiltins "tuple" = some (.type "tuple"):=by decide +kernel
def hv(l:Addr)(a b c d e:Int):HO:=.lst [.ref l,.int a,.int b,.int c,.int d,.int e]
def HdO(l:Addr)(o:HO):Prop:=∃a b c d e,o=hv l a b c d e/\0<=a
def pN:Sp:=λvs H Q _=>∃h,vs=[.ref h]/\∃l a b c d e,H h=some (hv l a b c d e)/\Q (.int (d*48271%2147483647+e*40693%2147483399)) (upd H h (hv l a b c (d*48271%2147483647) (e*40693%2147483399)))
def Wl:Sp:=λvs H Q _=>∃h,vs=[.ref h]/\∃l ns o,H h=some o/\HdO l o/\H l=some (.lst (List.map V.int ns))/\∀o',HdO l o'->Q .non (upd H h o')
def G8:Sp:=λvs H Q _=>∃h m,vs=[.ref h,.int m]/\1<=m/\m<1073741824/\∃l ns o,H h=some o/\HdO l o/\H l=some (.lst (List.map V.int ns))/\∀r o',0<=r->r<m->HdO l o'->Q (.int r) (upd H h o')
local macro_rules | `(tactic| walk_at "r") => `(tactic| repeat (walk_at "rl"))
local macro_rules | `(tactic| walk_at "rd") => `(tactic| walk_at "rc")
local macro_rules | `(tactic| walk_at "rl") => `(tactic| first | (refine cT fun R hR => ?_) | walk_at "ry" | (refine Nx.to (by assumption) _ _ ?_))
local macro_rules | `(tactic| walk_at "rc") => do
  let ids := ("L2.start G6 qz zT oX tB BR YJ gI tC qB cJ Ej Cm x8 tY qA j8 vS Rw jQ mJ Cq zP K6 rI rU Wz Vn Cz t5 Vs Dc CW CZ Hj Hi v5 v3 pQ pP kW sk pS kX vZ ji wc La v7 Al K8 K9 K7 Hk Vg tW jH Hf Vi KH kS kR Hg Cr Vh zR t6 Cp tX YK List.map_cons List.map_nil List.cons_append List.nil_append List.append_nil List.length_cons List.length_nil List.replicate List.getElem?_cons_zero List.getElem?_cons_succ List.set_cons_zero List.set_cons_succ Nat.reduceAdd Nat.reduceSub Nat.reduceLeDiff Option.some.injEq V.int.injEq V.ref.injEq V.str.injEq V.bl.injEq V.ty.injEq List.cons.injEq HO.lst.injEq HO.tup.injEq HO.dK.injEq exists_eq_left exists_eq_left' exists_and_left and_true true_and and_assoc exists_const reduceCtorEq ag jG decide_eq_true_eq List.length_map ite_true ite_false Bool.false_eq_true Bool.true_and Bool.and_true y0 yZ yX yW yV yU sN sM sJ sI sH yK yJ yI yH tu tq tj tf sY bZ Option.join_some Option.join_none j9 oG uf yA yz v9 ug Ef oC wZ Int.zero_add Int.reduceMul Int.reduceAdd Int.reduceSub Int.reduceLT Int.reduceLE Int.reducePow Int.reduceToNat Int.reduceNeg gt_iff_lt ge_iff_le pN hv KD Dd mK mQ mH m5 tZ pR HO.ext.injEq wa oH sj v8 KJ".splitOn " ").toArray.map fun x => Lean.mkIdent x.toName
  `(tactic| simp only [$[$ids:ident],*])
local macro_rules | `(tactic| walk_at "ry") => do
  let ids := ("L2.start qz zT oX tB BR YJ gI tC qB cJ Ej Cm x8 tY qA j8 vS Rw jQ mJ Cq zP K6 rI rU Wz Vn Cz t5 Vs Dc CW CZ Hj Hi v5 v3 pQ pP kW sk pS kX vZ ji wc La v7 Al K8 K9 K7 Hk Vg tW jH Hf Vi KH kS kR Hg Cr Vh zR t6 Cp tX YK List.map_cons List.map_nil List.cons_append List.nil_append List.append_nil List.length_cons List.length_nil List.replicate List.getElem?_cons_zero List.getElem?_cons_succ List.set_cons_zero List.set_cons_succ Nat.reduceAdd Nat.reduceSub Nat.reduceLeDiff Option.some.injEq V.int.injEq V.ref.injEq V.str.injEq V.bl.injEq V.ty.injEq List.cons.injEq HO.lst.injEq HO.tup.injEq HO.dK.injEq exists_eq_left exists_eq_left' exists_and_left and_true true_and and_assoc exists_const reduceCtorEq ag jG decide_eq_true_eq List.length_map ite_true ite_false Bool.false_eq_true Bool.true_and Bool.and_true y0 yZ yX yW yV yU sN sM sJ sI sH yK yJ yI yH tu tq tj tf sY bZ Option.join_some Option.join_none j9 oG uf yA yz v9 ug Ef oC wZ Int.zero_add Int.reduceMul Int.reduceAdd Int.reduceSub Int.reduceLT Int.reduceLE Int.reducePow Int.reduceToNat Int.reduceNeg gt_iff_lt ge_iff_le pN hv KD Dd mK mQ mH m5 tZ pR HO.ext.injEq wa oH sj v8 KJ".splitOn " ").toArray.map fun x => Lean.mkIdent x.toName
  `(tactic| simp only [$[$ids:ident],*])
section
variable {P:Program}{w:World}{K:PySem.W.Frag}{mg:Str->Option Value}{base:Heap}{t:tN}
theorem JN(T:Txt K mg t):cE P w K mg base g6 1 t.nV t.nz ["_law_hand_here"] pN:=by
 refine T.iq.lT Ad (λvs H Q E h=>?_) (λdz A outer s H vs Q E hr h hc hf=>?_)
 ·obtain⟨h,rfl,_⟩:=h;rfl
 obtain⟨h,rfl,l,a,b,c,d,e,hh,q⟩:=h
 refine⟨_,(by apply ai;exact(jF (aV jj (aV mU (bj jk (aj hc 0) aq (λ_ _=>rfl)) aq) aq) (kL (aj hc 0) aq qG));apply ai;exact(jF (aV jj (aV mU (bj jk (aj hc 0) aq (λ_ _=>rfl)) aq) aq) (kL (aj hc 0) aq qG));exact ak (aF (aV fA (bj jk (aj hc 0) aq (λ_ _=>rfl)) (bj jk (aj hc 0) aq (λ_ _=>rfl))))),?_⟩
 unfold hv at *
 walk_at "rd"
 simp only[hh]
 walk_at "rd"
 exact q
theorem TB(T:Txt K mg t):cE P w K mg base g6 2 t.nQ t.nr ["_law_hand_here"] Wl:=by
 have ik:=JN (P:=P) (w:=w) (base:=base) T
 refine T.uD.lT kP (λvs H Q E h=>?_) (λdz A outer s H vs Q E hr h hc hf=>?_)
 ·obtain⟨h,rfl,_⟩:=h;rfl
 obtain⟨h,rfl,l,ns,o,hh,⟨a,b,c,d,e,rfl,ha⟩,hl,q⟩:=h
 refine⟨_,(by apply ai;exact(aE hc kP.nd hf 1 (by decide +kernel) aq);apply vK;exact(bh (aG JL (bj jk (aj hc 0) aq (λ_ _=>rfl)) (bA gS (cG hc) T.z_len rg (ae (bj jk (aj hc 0) aq (λ_ _=>rfl)) ah)) (aX _)) (by exact ak (aE hc kP.nd hf 1 (by decide +kernel) (bA Rb (cG hc) T.z_abs aBH (ae (bj jk (bj jk (aj hc 0) aq (λ_ _=>rfl)) (bj jk (aj hc 0) aq (λ_ _=>rfl)) (λ_ _=>rfl)) ah)))) aN);apply ai;exact(Cg (aj hc 0) aq VL aq XD qG);apply vK;exact(bh (aG aAn (aj hc 1) (aV Xc aq aq) (aX _)) (by exact ak (jF (aj hc 1) (kL (aj hc 0) aq qG))) (by exact ak (jF aq (kL (aj hc 0) aq qG))));apply ai;exact(jF (aV fA (aV jj (aV fA (bj jk (aj hc 0) aq (λ_ _=>rfl)) (aV jj (aj hc 1) aq)) aq) aq) (kL (aj hc 0) aq qG));apply ai;exact(jF (aV fA (aV jj (aV fA (aV mU (bj jk (aj hc 0) aq (λ_ _=>rfl)) aq) (aV jj (aj hc 1) aq)) aq) aq) (kL (aj hc 0) aq qG));apply ai;exact(cA (aC ik (hr.mono (by omega)) (cG hc) T.jJ T.iq.kp T.jM .nil aY (ae (aj hc 0) ah)));exact ak (cA (aC ik (hr.mono (by omega)) (cG hc) T.jJ T.iq.kp T.jM .nil aY (ae (aj hc 0) ah)))),?_⟩
 unfold hv at *
 walk_at "rd"
 refine⟨λσ' H'=>∃z,σ'=[some (.ref h),some (.int z)]/\H'=H,?_,?_⟩
 ·repeat (first | walk_at "rd" | simp only[hh,hl])
  split
  ·rename_i iQ
   obtain⟨v,XR⟩:=Rj ha iQ
   rw[XR]
   walk_at "rd"
   exact⟨_,rfl⟩
  ·exact⟨_,rfl⟩
 ·rintro σ' H' ⟨z,e1,e2⟩
  subst e1 e2
  repeat (first | walk_at "rd" | simp only[hh,hl])
  refine⟨λσ' tJ=>∃b' c',σ'=[some (.ref h),some (.int z)]/\tJ=upd H' h (.lst [.ref l,.int (a+1),.int b',.int c',.int d,.int e]),?_,?_⟩
  ·repeat (first | walk_at "rd" | simp only[hh,hl])
   split
   ·exact⟨_,_,rfl⟩
   ·exact⟨_,_,rfl⟩
  ·rintro σ' tJ ⟨b',c',e1,e2⟩
   subst e1 e2
   repeat (first | walk_at "rd" | simp only[hh,hl])
   exact q _ ⟨_,_,_,_,_,rfl,by lia⟩
theorem uW(T:Txt K mg t):cE P w K mg base g6 3 t.nX t.nB ["_law_hand_here","_law_many"] G8:=by
 have ik:=JN (P:=P) (w:=w) (base:=base) T
 have Fm:=TB (P:=P) (w:=w) (base:=base) T
 refine T.bq.lT fc (λvs H Q E h=>?_) (λdz A outer s H vs Q E hr h hc hf=>?_)
 ·obtain⟨h,m,rfl,_⟩:=h;rfl
 obtain⟨h,m,rfl,hm,Y8,l,ns,o,hh,⟨a,b,c,d,e,rfl,ha⟩,hl,q⟩:=h
 refine⟨_,(by apply vK;exact(bh (oW (oq (aG cV (bj jk (aj hc 0) aq (λ_ _=>rfl)) aq (aX _)) (mE (aG cV (bj jk (aj hc 0) aq (λ_ _=>rfl)) aq (aX _))))) (by exact ak (cA (aC Fm (hr.mono (by omega)) (cG hc) T.DT T.uD.kp T.Fc .nil aY (ae (aj hc 0) ah)))) aN);apply ai;exact(bh (aG Vp (bj jk (aj hc 0) aq (λ_ _=>rfl)) aq (aX _)) (by apply ai;exact(aE hc fc.nd hf 2 (by decide +kernel) (aV jj (bj jk (aj hc 0) aq (λ_ _=>rfl)) (aj hc 1)));apply ai;exact(jF (aV Tv (bj jk (aj hc 0) aq (λ_ _=>rfl)) (aj hc 1)) (kL (aj hc 0) aq qG));exact ak (aF (aj hc 2))) aN);apply ai;exact(Cg (aj hc 0) aq VL aq XB qG);apply ai;exact(aE hc fc.nd hf 3 (by decide +kernel) (aC ik (hr.mono (by omega)) (cG hc) T.jJ T.iq.kp T.jM .nil aY (ae (aj hc 0) ah)));apply ai;exact(aE hc fc.nd hf 4 (by decide +kernel) aq);apply ai;exact(Kq eJ (aG JL (aj hc 4) (aj hc 1) (aX _)) (by apply ai;exact(aE hc fc.nd hf 3 (by decide +kernel) (aV fA (aV mU (aj hc 3) aq) (aC ik (hr.mono (by omega)) (cG hc) T.jJ T.iq.kp T.jM .nil aY (ae (aj hc 0) ah))));exact ak (aE hc fc.nd hf 4 (by decide +kernel) (aV mU (aj hc 4) aq))));exact ak (aF (aV jj (aj hc 3) (aj hc 1)))),?_⟩
 unfold hv at *
 walk_at "rd"
 refine⟨λσ' H'=>∃a b c d e,σ'=[some (.ref h),some (.int m),none,none,none]/\H'=upd H h (hv l a b c d e)/\0<=a,?_,?_⟩
 ·have same:H=upd H h (hv l a b c d e):=by
   funext x;unfold upd;split
   ·rename_i e;rw[e,hh];rfl
   ·rfl
  repeat (first | walk_at "rd" | simp only[hh,hl])
  by_cases hb:b=0
  ·by_cases hc:c=0
   ·simp only[hb,hc,fK]
    repeat (first | walk_at "rd" | simp only[hh,hl])
    refine⟨h,rfl,l,ns,_,hh,⟨a,b,c,d,e,by rw[hb,hc];rfl,ha⟩,hl,?_⟩
    rintro o' ⟨a',b',c',d',e',rfl,VG⟩
    exact⟨a',b',c',d',e',rfl,VG⟩
   ·simp only[hb,hc,fK,bU,fB]
    exact⟨a,b,c,d,e,same,ha⟩
  ·simp only[hb,bU,fB]
   exact⟨a,b,c,d,e,same,ha⟩
 ·rintro σ' H' ⟨a,b,c,d,e,e1,e2,ha⟩
  subst e1 e2
  repeat (first | walk_at "rd" | simp only[hh,hl])
  split
  ·rename_i hb
   refine⟨by lia,⟨by lia,Y8⟩,q _ _ (vy _ (by lia)) (zB _ (by lia)) ⟨_,_,_,_,_,rfl,ha⟩⟩
  ·rename_i hb
   refine⟨λ_ σ' H'=>σ'=_/\H'=_,⟨0,rfl,rfl⟩,?_⟩
   rintro _ σ' H' ⟨e1,e2⟩
   subst e1 e2
   walk_at "rd"
   have hno:¬((4294967296:Int)<m):=by lia
   simp only[hno,bU]
   refine⟨by lia,q _ _ (vy _ (by lia)) (zB _ (by lia)) ⟨_,_,_,_,_,rfl,ha⟩⟩
end
local macro_rules | `(tactic| walk_at "rd") => `(tactic| walk_at "rc")
local macro_rules | `(tactic| walk_at "rl") => `(tactic| first | (refine cT fun R hR => ?_) | walk_at "ry" | (refine Nx.to (by assumption) _ _ ?_))
local macro_rules | `(tactic| walk_at "rc") => do
  let ids := ("L2.start G6 qz zT oX tB BR YJ gI tC qB cJ Ej Cm x8 tY qA j8 vS Rw jQ mJ Cq zP K6 rI rU Wz Vn Cz t5 Vs Dc CW CZ Hj Hi v5 v3 pQ pP kW sk pS kX vZ ji wc La v7 Al K8 K9 K7 Hk Vg tW jH Hf Vi KH kS kR Hg Cr Vh zR t6 Cp tX YK List.map_cons List.map_nil List.cons_append List.nil_append List.append_nil List.length_cons List.length_nil List.replicate List.getElem?_cons_zero List.getElem?_cons_succ List.set_cons_zero List.set_cons_succ Nat.reduceAdd Nat.reduceSub Nat.reduceLeDiff Option.some.injEq V.int.injEq V.ref.injEq V.str.injEq V.bl.injEq V.ty.injEq List.cons.injEq HO.lst.injEq HO.tup.injEq HO.dK.injEq exists_eq_left exists_eq_left' exists_and_left and_true true_and and_assoc exists_const reduceCtorEq ag jG decide_eq_true_eq List.length_map ite_true ite_false Bool.false_eq_true Bool.true_and Bool.and_true y0 yZ yX yW yV yU sN sM sJ sI sH yK yJ yI yH tu tq tj tf sY bZ Option.join_some Option.join_none j9 oG uf yA yz v9 ug Ef oC wZ Int.zero_add Int.reduceMul Int.reduceAdd Int.reduceSub Int.reduceLT Int.reduceLE Int.reducePow Int.reduceToNat Int.reduceNeg gt_iff_lt ge_iff_le pN hv KD Dd mK mQ mH m5 tZ pR HO.ext.injEq wa oH sj v8 KJ Ju qM zS Sy qN uT mR R6 zW zQ Jx Jy Ov mR Jv Ah oI Ug JX Jh Jz Ag qO zX uQ oF x9 yg R5 Ends.Zy Ai Aj Ak Ji Jw zU vY HO.xd.injEq".splitOn " ").toArray.map fun x => Lean.mkIdent x.toName
  `(tactic| simp only [$[$ids:ident],*])
local macro_rules | `(tactic| walk_at "ry") => do
  let ids := ("L2.start qz zT oX tB BR YJ gI tC qB cJ Ej Cm x8 tY qA j8 vS Rw jQ mJ Cq zP K6 rI rU Wz Vn Cz t5 Vs Dc CW CZ Hj Hi v5 v3 pQ pP kW sk pS kX vZ ji wc La v7 Al K8 K9 K7 Hk Vg tW jH Hf Vi KH kS kR Hg Cr Vh zR t6 Cp tX YK List.map_cons List.map_nil List.cons_append List.nil_append List.append_nil List.length_cons List.length_nil List.replicate List.getElem?_cons_zero List.getElem?_cons_succ List.set_cons_zero List.set_cons_succ Nat.reduceAdd Nat.reduceSub Nat.reduceLeDiff Option.some.injEq V.int.injEq V.ref.injEq V.str.injEq V.bl.injEq V.ty.injEq List.cons.injEq HO.lst.injEq HO.tup.injEq HO.dK.injEq exists_eq_left exists_eq_left' exists_and_left and_true true_and and_assoc exists_const reduceCtorEq ag jG decide_eq_true_eq List.length_map ite_true ite_false Bool.false_eq_true Bool.true_and Bool.and_true y0 yZ yX yW yV yU sN sM sJ sI sH yK yJ yI yH tu tq tj tf sY bZ Option.join_some Option.join_none j9 oG uf yA yz v9 ug Ef oC wZ Int.zero_add Int.reduceMul Int.reduceAdd Int.reduceSub Int.reduceLT Int.reduceLE Int.reducePow Int.reduceToNat Int.reduceNeg gt_iff_lt ge_iff_le pN hv KD Dd mK mQ mH m5 tZ pR HO.ext.injEq wa oH sj v8 KJ Ju qM zS Sy qN uT mR R6 zW zQ Jx Jy Ov mR Jv Ah oI Ug JX Jh Jz Ag qO zX uQ oF x9 yg R5 Ends.Zy Ai Aj Ak Ji Jw zU vY HO.xd.injEq".splitOn " ").toArray.map fun x => Lean.mkIdent x.toName
  `(tactic| simp only [$[$ids:ident],*])
def Hd(H:Hp)(h l:Addr):Prop:=∃ns o,H h=some o/\HdO l o/\H l=some (.lst (List.map V.int ns))
def dP(H:Hp)(h:Addr):Prop:=∃l,Hd H h l
structure Dr(h:Addr)(H H':Hp):Prop where
 keep:∀b o,b≠h->H b=some o->H' b=some o
 hand:∀l,Hd H h l->Hd H' h l
theorem Dr.refl{h:Addr}{H:Hp}:Dr h H H:=⟨λ_ _ _ e=>e,λ_ x=>x⟩
theorem Dr.trans{h:Addr}{H H1 H2:Hp}(a:Dr h H H1)(b:Dr h H1 H2):Dr h H H2:=⟨λc o hc e=>b.keep c o hc (a.keep c o hc e),λl x=>b.hand l (a.hand l x)⟩
theorem Dr.cD{h:Addr}{H H1:Hp}(a:Dr h H H1)(x:dP H h):dP H1 h:=let ⟨l,y⟩:=x;⟨l,a.hand l y⟩
theorem Hd.apart{H:Hp}{h l:Addr}(x:Hd H h l):l≠h:=by
 obtain⟨ns,o,e1,⟨a,b,c,d,e,rfl,_⟩,e3⟩:=x
 intro z
 rw[z,e1]at e3
 have q:=cv e3
 unfold hv at q
 injection q with q
 match ns,q with
 | [],q=>cases q
 | n::_,q=>injection q with q1 _;cases q1
theorem Dr.new{h p:Addr}{H H1:Hp}{o:HO}(a:Dr h H H1)(hp:H1 p=none):Dr h H (upd H1 p o):=by
 refine⟨λc o' hc e=>?_,λl x=>?_⟩
 ·rw[au (ay (a.keep c o' hc e) hp)];exact a.keep c o' hc e
 ·obtain⟨ns,oh,e1,e2,e3⟩:=a.hand l x
  exact⟨ns,oh,by rw[au (ay e1 hp)];exact e1,e2,by rw[au (ay e3 hp)];exact e3⟩
theorem Dr.put{h p:Addr}{H H1:Hp}{o':HO}(a:Dr h H H1)(hn:H p=none):Dr h H (upd H1 p o'):=by
 refine⟨λc o' hc e=>?_,λl x=>?_⟩
 ·rw[au (ay e hn)];exact a.keep c o' hc e
 ·obtain⟨ns,oh,e1,e2,e3⟩:=a.hand l x
  obtain⟨_,_,f1,_,f3⟩:=x
  exact⟨ns,oh,by rw[au (ay f1 hn)];exact e1,e2,by rw[au (ay f3 hn)];exact e3⟩
theorem dP.ne{h p:Addr}{H:Hp}(x:dP H h)(hp:H p=none):p≠h:=by
 obtain⟨l,ns,oh,e1,_,_⟩:=x
 exact(ay e1 hp).symm
theorem Dr.free{h p:Addr}{H H1:Hp}(a:Dr h H H1)(x:dP H h)(hp:H1 p=none):H p=none:=by
 cases e:H p with
 | none=>rfl
 | some o=>
  have n:=(a.cD x).ne hp
  have:=a.keep p o n e
  rw[hp]at this;cases this
theorem dv{h:Addr}{m:Int}{H0 H:Hp}{Q:VK}{E:XK}(hd:dP H0 h)(d:Dr h H0 H)(h1:1<=m)(h2:m<1073741824)(q:∀r H',0<=r->r<m->Dr h H0 H'->(∀b,b≠h->H' b=H b)->Q (.int r) H'):G8 [.ref h,.int m] H Q E:=by
 obtain⟨l,x⟩:=hd
 have x':=d.hand l x
 have ap:=x'.apart
 obtain⟨ns,oh,e1,e2,e3⟩:=x'
 refine⟨h,m,rfl,h1,h2,l,ns,oh,e1,e2,e3,λr o' r0 r1 ho=>q r _ r0 r1 ⟨λc o hc e=>?_,λl' x'=>?_⟩ (λb hb=>au hb)⟩
 ·rw[au hc];exact d.keep c o hc e
 ·have y:=d.hand l' x'
  have ap':=y.apart
  obtain⟨ns',oh',f1,f2,f3⟩:=y
  have el:l'=l:=by
   obtain⟨a,b,c,d,e,rfl,_⟩:=e2
   obtain⟨a',b',c',d',e',rfl,_⟩:=f2
   rw[e1]at f1
   have:=cv f1
   unfold hv at this
   injection this with this
   injection this with this _
   exact(V.ref.inj this).symm
  subst el
  exact⟨ns,o',ag,ho,by rw[au ap];exact e3⟩
theorem av{H:Hp}{p:Addr}(h:H p=none)(o:HO):bf H (upd H p o):=λb u q=>by rw[au (ay q h)];exact q
theorem Ep{α:Type}(f:α->V)(xs:List α)(lo hi:Option Int):jy (xs.map f) lo hi=((xs.drop (HT.cK xs.length 0 lo)).take (HT.cK xs.length xs.length hi-HT.cK xs.length 0 lo)).map f:=by
 unfold jy;rw[aM,zb,List.map_drop]
def Wq(K:PySem.W.Frag):Sp:=λvs H Q _=>∃a ns,vs=[.ref a]/\oQ K H a (List.map V.int ns)/\∀h H',bf H H'->H h=none->dP H' h->Q (.ref h) H'
section
variable {P:Program}{w:World}{K:PySem.W.Frag}{mg:Str->Option Value}{base:Heap}{t:tN}
theorem TQ(T:Txt K mg t):cE P w K mg base g6 1 t.nW t.nA ["_law_script"] (Wq K):=by
 refine T.uF.lT Ae (λvs H Q E h=>?_) (λdz A outer s H vs Q E hr h hc hf=>?_)
 ·obtain⟨a,ns,rfl,_⟩:=h;rfl
 obtain⟨a,ns,rfl,hS,q⟩:=h
 refine⟨_,(by exact ak (aF (bW (ae (dA IK (cG hc) T.z_list Rg (ae (dH Jm (aj hc 0) eO (eN aq)) ah)) (ae aq (ae aq (ae aq (ae aq (ae aq ah))))))))),?_⟩
 walk_at "rd"
 refine⟨a,List.map V.int ns,rfl,hS,λp hp=>?_⟩
 rw[Ep]
 walk_at "rd"
 refine λl hl=>⟨by decide,λh hh=>?_⟩
 have s1:=av hp (.lst (List.map V.int ((ns.drop (HT.cK ns.length 0 none)).take (HT.cK ns.length ns.length (some 63)-HT.cK ns.length 0 none))))
 have s2:=av hl (.lst (List.map V.int ((ns.drop (HT.cK ns.length 0 none)).take (HT.cK ns.length ns.length (some 63)-HT.cK ns.length 0 none))))
 have s3:=av hh (hv l 0 0 0 20011 40009)
 exact q h _ (s1.trans (s2.trans s3)) ((s1.trans s2).free hh) ⟨l,_,_,ag,⟨_,_,_,_,_,rfl,gC 0⟩,s3 _ _ ag⟩
end
local macro_rules | `(tactic| walk_at "rd") => `(tactic| walk_at "rc")
local macro_rules | `(tactic| walk_at "rl") => `(tactic| first | (refine cT fun R hR => ?_) | walk_at "ry" | (refine Nx.to (by assumption) _ _ ?_))
def Se:Sp:=λvs H Q _=>∃h m,vs=[.ref h,.int m]/\0<=m/\m<=8/\dP H h/\∀p ss H',Dr h H H'->H p=none->H' p=some (.lst (List.map V.str ss))->ss.length=m.toNat->ss.Nodup->(∀s∈ss,Nm s)->Q (.ref p) H'
def sgn(c:Nat):Str:=⟨#[c]⟩
theorem Mw{h:Addr}{n:Nat}{σ:St}{H1:Hp}{Q:VK}(hd:dP H1 h)(h2:σ[2]?=some (some (.str (Str.ofString "abcdefghijklmnopqrstuvwxyz"))))(h0:σ[0]?=some (some (.ref h)))(hn:n<=100)
  (q:∀D (cs:List Nat) H',H1 D=none->Dr h H1 H'->H' D=some (.lst (List.map V.str (cs.map sgn)))->cs.length=n->(∀c∈cs,97<=c/\c<=122)->Q (.ref D) H') :
  fJ (FG 0 n) 1 [2,0] (λ_=>cJ 0) (λ_=>wZ) (λ_=>BR CZ (gI 1) (qA G8 [] E0 (j8 (gI 2) (j8 (tC (V.int 26)) vS)))) σ Q H1:=by
 refine nC (λD i ys H=>∃cs:List Nat,ys=List.map V.str (cs.map sgn)/\cs.length=i/\(∀c∈cs,97<=c/\c<=122)/\Dr h H1 H/\H D=some (.lst ys)) (λD hD=>⟨[],rfl,rfl,(λ_ z=>nomatch z),Dr.refl.new hD,ag⟩) (λD hD i ys H hi p c=>?_) (λD hD ys H p=>?_)
 ·obtain⟨cs,rfl,hl,hc,d,hy⟩:=p
  walk_at "rc"
  repeat (first | walk_at "rl" | simp only[h0,h2,rY])
  refine dv hd d (by decide) (by decide) λr H' r0 r1 d' k'=>?_
  walk_at "rl"
  refine⟨by decide,?_⟩
  rw[uz r0 r1]
  walk_at "rl"
  refine⟨by rw[k' D (hd.ne hD)];exact hy,aL (by lia),cs++[97+r.toNat],by simp[sgn],by simp[hl],?_,d'.put hD⟩
  intro c o6
  rcases bT.mp o6 with z | z
  ·exact hc c z
  ·rw[bR.mp z];lia
 ·obtain⟨cs,rfl,hl,hc,d,hy⟩:=p
  exact q D cs H hD d hy hl hc
theorem yv{cs:List Nat}(hn:cs.length<=100):JoinOk (Str.ofString "") (cs.map sgn)=true/\(Txt.join (Str.ofString "") (cs.map sgn)).cps.toList=cs:=by
 refine⟨joinOk_of (L:=1) (n:=100) (λz hz=>?_) (by simpa using hn) (by decide),?_⟩
 ·obtain⟨c,_,rfl⟩:=bH.mp hz
  exact aU 1
 ·rw[Mj (show(Str.ofString "").cps = #[] by decide)]
  induction cs with
  | nil=>rfl
  | cons c cs ih=>rw[eI,eI,List.flatten_cons,ih (by simp at hn;lia)];rfl
section
variable {P:Program}{w:World}{K:PySem.W.Frag}{mg:Str->Option Value}{base:Heap}{t:tN}
theorem Pm(T:Txt K mg t):cE P w K mg base g6 4 t.lG t.lA ["_law_hand_here","_law_many"] Se:=by
 have aZ:=uW (P:=P) (w:=w) (base:=base) T
 refine T.rm.lT bB (λvs H Q E h=>?_) (λdz A outer s H vs Q E hr h hc hf=>?_)
 ·obtain⟨h,m,rfl,_⟩:=h;rfl
 obtain⟨h,m,rfl,hm1,Y8,hd,q⟩:=h
 refine⟨_,(by apply ai;exact(aE hc bB.nd hf 2 (by decide +kernel) bG);apply ai;exact(aE hc bB.nd hf 3 (by decide +kernel) (aC aZ (hr.mono (by omega)) (cG hc) T.bx T.bq.kp T.bz .nil aY (ae (aj hc 0) (ae aq ah))));apply ai;exact(bh (aG cV (aj hc 3) aq (aX _)) (by apply ai;exact(aE hc bB.nd hf 4 (by decide +kernel) (bW (Ku kj (by decide +kernel))));apply ai;exact(aE hc bB.nd hf 5 (by decide +kernel) (aC aZ (hr.mono (by omega)) (cG hc) T.bx T.bq.kp T.bz .nil aY (ae (aj hc 0) (ae aq ah))));exact ak (aF (bX hc ["_law_k"] [4,5] rfl (by decide +kernel) (gH (cG hc) T.z_range (ae (aj hc 1) ah)) (λ_ hc=>kJ hc (by decide +kernel) 0 (by decide +kernel)) (λ_ _=>eZ) (λ_ hc=>(bj jk (aj hc 1) (aV jj (aV fA (aj hc 2) (aV mU aq (aj hc 0))) aq) (λ_ _=>rfl)))))) aN);apply ai;exact(aE hc bB.nd hf 6 (by decide +kernel) (fL PySem.F.plainAttrs_str PySem.F.slot_str_join PySem.F.type_str_join PX bG (ae (bX hc ["_law_k"] [2,0] rfl (by decide +kernel) (gH (cG hc) T.z_range (ae aq ah)) (λ_ hc=>kJ hc (by decide +kernel) 0 (by decide +kernel)) (λ_ _=>eZ) (λ_ hc=>(bj aAB (aj hc 1) (aC aZ (hr.mono (by omega)) (cG hc) T.bx T.bq.kp T.bz .nil aY (ae (aj hc 2) (ae aq ah))) (λ_ _=>rfl)))) ah)));apply ai;exact(bh (aG cV (aj hc 3) aq (aX _)) (by apply ai;exact(aE hc bB.nd hf 5 (by decide +kernel) (aC aZ (hr.mono (by omega)) (cG hc) T.bx T.bq.kp T.bz .nil aY (ae (aj hc 0) (ae aq ah))));exact ak (aF (bX hc ["_law_k"] [6,5] rfl (by decide +kernel) (gH (cG hc) T.z_range (ae (aj hc 1) ah)) (λ_ hc=>kJ hc (by decide +kernel) 0 (by decide +kernel)) (λ_ _=>eZ) (λ_ hc=>(dH z6 (aj hc 1) eO (eN (aV fA (aV jj (aV fA (aj hc 2) (aV mU aq (aj hc 0))) aq) aq))))))) aN);apply ai;exact(aE hc bB.nd hf 7 (by decide +kernel) (aC aZ (hr.mono (by omega)) (cG hc) T.bx T.bq.kp T.bz .nil aY (ae (aj hc 0) (ae aq ah))));apply ai;exact(aE hc bB.nd hf 8 (by decide +kernel) (aC aZ (hr.mono (by omega)) (cG hc) T.bx T.bq.kp T.bz .nil aY (ae (aj hc 0) (ae aq ah))));apply ai;exact(aE hc bB.nd hf 9 (by decide +kernel) (bW ah));apply ai;exact(bV eJ rfl (gH (cG hc) T.z_range (ae (aj hc 1) ah)) (gk hc bB.nd hf 10 (by decide +kernel)) (by apply ai;exact(aE hc bB.nd hf 11 (by decide +kernel) (bj aAB (aj hc 2) (aV jj (aV fA (aj hc 8) (aV mU aq (aj hc 10))) aq) (λ_ _=>rfl)));apply ai;exact(aE hc bB.nd hf 12 (by decide +kernel) (aV wm (aV wm (dH z6 (aj hc 6) eO (eN (aj hc 7))) (aj hc 11)) (dH z6 (aj hc 6) (eN (aV fA (aj hc 7) aq)) eO)));exact ak (cA (fL j5 lP lQ cQ (aj hc 9) (ae (dH z6 (aj hc 12) eO (eN (aV fA (aV fA (aj hc 7) aq) (aC aZ (hr.mono (by omega)) (cG hc) T.bx T.bq.kp T.bz .nil aY (ae (aj hc 0) (ae (aV Ap aq (aj hc 7)) ah)))))) ah)))));exact ak (aF (aj hc 9))),?_⟩
 walk_at "rl"
 walk_at "r"
 refine dv hd Dr.refl (by decide) (by decide) λway H0 w0 w4 d0 k0=>?_
 have hd0:=d0.cD hd
 walk_at "r"
 split
 ·
  refine⟨by decide,λS hS=>?_⟩
  have el:kj=lits:=rfl
  rw[el]
  have hSh:S≠h:=hd0.ne hS
  have d1:=d0.new (o:=.lst (List.map V.str lits)) hS
  walk_at "r"
  refine dv hd d1 (by decide) (by decide) λgA H2 a0 a1 d2 k2=>?_
  have Zg:H2 S=some (.lst (List.map V.str lits)):=by rw[k2 S hSh,ag]
  walk_at "r"
  refine⟨by lia,by lia,nC (λD i ys H3=>∃ss:List Str,ys=List.map V.str ss/\ss.length=i/\(∀k s,ss[k]?=some s->lits[((gA+5*(k:Nat))%13).toNat]?=some s)/\Dr h H H3/\H3 D=some (.lst ys)/\H3 S=some (.lst (List.map V.str lits))) (λD hD=>⟨[],rfl,rfl,(λk s z=>by simp at z),d2.new hD,ag,by rw[au (ay Zg hD)];exact Zg⟩) (λD hD i ys H3 hi p c=>?_) (λD hD ys H3 p=>?_)⟩
  ·obtain⟨ss,rfl,hl,hk,d3,hy,hS3⟩:=p
   walk_at "rc"
   repeat (first | walk_at "rl" | simp only[hS3])
   have J0:0<=(gA+5*(i:Int))%13:=vy _ (by decide)
   have JZ:(gA+5*(i:Int))%13<13:=zB _ (by decide)
   obtain⟨v,ev,gv⟩:=Yw (xs:=List.map V.str lits) J0 (by rw[aM,Qd];exact JZ)
   rw[ev]
   walk_at "rl"
   rw[cR]at gv
   obtain⟨s,es,rfl⟩:∃s,lits[((gA+5*(i:Int))%13).toNat]?=some s/\V.str s=v:=by
    cases e:lits[((gA+5*(i:Int))%13).toNat]? with
    | none=>rw[e]at gv;cases gv
    | some s=>rw[e]at gv;exact⟨s,rfl,cv gv⟩
   have hnD:D≠S:=λz=>by rw[z,Zg]at hD;cases hD
   refine⟨hy,aL (by lia),ss++[s],by simp,by simp[hl],λk s' e=>?_,d3.put (d2.free hd hD),by rw[au hnD.symm];exact hS3⟩
   by_cases Qt:k<ss.length
   ·rw[gh Qt]at e;exact hk k s' e
   ·rw[fC (by lia)]at e
    have hk0:k-ss.length=0:=by
     cases z:k-ss.length with
     | zero=>rfl
     | succ n=>rw[z]at e;cases e
    rw[hk0]at e
    have:k=i:=by lia
    subst this
    cases e;exact es
  ·obtain⟨ss,rfl,hl,hk,d3,hy,hS3⟩:=p
   refine q D ss H3 d3 (d2.free hd hD) hy hl (sv λi j x Fx e1 e2=>?_) λs hs=>?_
   ·have g1:=hk i x e1
    have g2:=hk j x e2
    have hj:j<ss.length:=(cy.mp e2).1
    have u1:((gA+5*(i:Int))%13).toNat<lits.length:=(cy.mp g1).1
    have:=(mD (i:=((gA+5*(i:Int))%13).toNat) (j:=((gA+5*(j:Int))%13).toNat) (h₀:=u1) (h₁:=(cy.mp g2).1) Hy).mp ((cy.mp g1).2.trans (cy.mp g2).2.symm)
    omega
   ·obtain⟨k,Ie⟩:=Gq.mp hs
    exact T8 s (dE (hk k s Ie))
 ·
  walk_at "r"
  refine Mw hd0 rfl rfl (by decide) λD cs H2 hD d2 Mi qW Zf=>?_
  have dr2:Dr h H H2:=d0.trans d2
  walk_at "r"
  refine⟨cs.map sgn,Mi,(yv (by lia)).1,?_⟩
  obtain⟨wd,hwd⟩:∃z,Txt.join (Str.ofString "") (cs.map sgn)=z:=⟨_,rfl⟩
  have ew:wd.cps.toList=cs:=by rw[<-hwd];exact(yv (by lia)).2
  have lw:wd.length=8:=by have:=oJ wd;rw[ew]at this;lia
  rw[hwd]
  walk_at "r"
  split
  ·
   walk_at "r"
   refine dv hd dr2 (by decide) (by decide) λgA H3 a0 a1 d3 k3=>?_
   walk_at "r"
   refine⟨by lia,by lia,?_⟩
   obtain⟨Pv,cx⟩:∃Pv:Addr->Nat->List V->Hp->Prop,∀D i ys H',Pv D i ys H'↔∃ss:List Str,ys=List.map V.str ss/\ss.length=i/\(∀(k:Nat) s,ss[k]?=some s->s.cps.toList=cs.take ((gA+3*(k:Int))%8+1).toNat)/\Dr h H H'/\H' D=some (.lst ys):=⟨_,λ_ _ _ _=>cp⟩
   refine nC Pv (λD hD=>(cx _ _ _ _).mpr ⟨[],rfl,rfl,(λk s z=>by simp at z),d3.new hD,ag⟩) (λD hD i ys H4 hi pv c=>?_) (λD hD ys H4 pv=>?_)
   ·obtain⟨ss,rfl,hl,hk,d4,hy⟩:=(cx _ _ _ _).mp pv
    walk_at "rc"
    walk_at "r"
    have J0:0<=(gA+3*(i:Int))%8:=vy _ (by decide)
    refine⟨by rw[lw];decide,hy,aL (by lia),(cx _ _ _ _).mpr ⟨ss++[sX wd none (some ((gA+3*(i:Int))%8+1))],by simp,by simp[hl],λk s e=>?_,d4.put (d3.free hd hD),ag⟩⟩
    by_cases Qt:k<ss.length
    ·rw[gh Qt]at e;exact hk k s e
    ·rw[fC (by lia)]at e
     have hk0:k-ss.length=0:=by
      cases z:k-ss.length with
      | zero=>rfl
      | succ n=>rw[z]at e;cases e
     rw[hk0]at e
     have:k=i:=by lia
     subst this
     cases e
     rw[Bv wd (by lia),ew]
   ·obtain⟨ss,rfl,hl,hk,d4,hy⟩:=(cx _ _ _ _).mp pv
    refine q D ss H4 d4 (d3.free hd hD) hy hl (sv λi j x Fx e1 e2=>?_) λs hs=>?_
    ·have g1:=hk i x e1
     have g2:=hk j x e2
     have hj:j<ss.length:=(cy.mp e2).1
     have:=gj List.length (g1.symm.trans g2)
     rw[cz,cz,qW]at this
     lia
    ·obtain⟨k,Ie⟩:=Gq.mp hs
     have g:=hk k s Ie
     refine Vq g ?_ ?_ λc o6=>Zf c (tT o6)
     ·rw[cz,qW];lia
     ·rw[cz,qW];lia
  ·
   walk_at "r"
   refine dv hd dr2 (by decide) (by decide) λsp H3 s0 s1 d3 k3=>?_
   walk_at "r"
   refine dv hd d3 (by decide) (by decide) λst H4 t0 t1 d4 k4=>?_
   walk_at "r"
   refine⟨by decide,λp hp=>?_⟩
   have hph:p≠h:=(d4.cD hd).ne hp
   have Vy:H p=none:=d4.free hd hp
   have dp:Dr h H (upd H4 p (.lst [])):=d4.new hp
   walk_at "r"
   refine⟨by lia,by lia,?_⟩
   obtain⟨Pv,cx⟩:∃Pv:Nat->St->Hp->Prop,∀i σ' H',Pv i σ' H'↔∃(ss:List Str) (a b c:Option V),σ'=[some (.ref h),some (.int m),some (.str (Str.ofString "abcdefghijklmnopqrstuvwxyz")),some (.int way),none,none,some (.str wd),some (.int sp),some (.int st),some (.ref p),a,b,c]/\
    ss.length=i/\(∀(k:Nat) s,ss[k]?=some s->Nm s/\s.cps.toList[sp.toNat]?=some (97+((st+7*(k:Int))%26).toNat))/\Dr h H H'/\H' p=some (.lst (List.map V.str ss)):=⟨_,λ_ _ _=>cp⟩
   refine pV Pv ((cx _ _ _).mpr ⟨[],none,none,none,rfl,rfl,(λk s z=>by simp at z),dp,ag⟩) (λi σ' H5 hi pv=>?_) (λσ' H5 pv=>?_)
   ·obtain⟨ss,a,b,c,rfl,hl,hk,d5,Vx⟩:=(cx _ _ _).mp pv
    walk_at "r"
    have J0:0<=(st+7*(i:Int))%26:=vy _ (by decide)
    have JZ:(st+7*(i:Int))%26<26:=zB _ (by decide)
    refine⟨by decide,?_⟩
    rw[uz J0 JZ]
    walk_at "r"
    obtain⟨c0,VF⟩:∃c0,97+((st+7*(i:Int))%26).toNat=c0:=⟨_,rfl⟩
    rw[VF]
    obtain⟨x1,JZ⟩:∃z,sX wd none (some sp)=z:=⟨_,rfl⟩
    obtain⟨x2,Uh⟩:∃z,sX wd (some (sp+1)) none=z:=⟨_,rfl⟩
    have e1:x1.cps.toList=cs.take sp.toNat:=by rw[<-JZ,Bv wd s0,ew]
    have e2:x2.cps.toList=cs.drop (sp.toNat+1):=by
     rw[<-Uh,Mu wd (by lia),ew]
     congr 1;lia
    rw[JZ,Uh]
    have l1:x1.length=sp.toNat:=by have:=oJ x1;rw[e1,cz,qW]at this;lia
    have l2:x2.length=8-(sp.toNat+1):=by have:=oJ x2;rw[e2,jD,qW]at this;lia
    have lc:(Str.mk #[c0]).length=1:=rfl
    have e3:(x1++Str.mk #[c0]).cps.toList=cs.take sp.toNat++[c0]:=by rw[Kl,e1]
    have l3:(x1++Str.mk #[c0]).length=sp.toNat+1:=by
     have:=oJ (x1++Str.mk #[c0])
     rw[e3,cw,cz,qW,ja]at this;lia
    obtain⟨z,hz⟩:∃z,x1++Str.mk #[c0]++x2=z:=⟨_,rfl⟩
    have ez:z.cps.toList=cs.take sp.toNat++[c0]++cs.drop (sp.toNat+1):=by rw[<-hz,Kl,e3,e2]
    have lz:z.cps.toList.length=8:=by rw[ez,cw,cw,cz,jD,qW,ja];lia
    have lz':z.length=8:=by rw[<-oJ z];exact lz
    rw[hz]
    refine⟨by rw[lw];decide,by rw[l1,lc];exact cS (by lia),by rw[lw];decide,by rw[l3,l2];exact cS (by lia),?_⟩
    walk_at "r"
    refine⟨.inl ⟨rfl,_,aP Vx⟩,?_⟩
    refine dv hd d5 (by lia) (by lia) λr H6 r0 r1 d6 k6=>?_
    have hp6:H6 p=some (.lst (List.map V.str ss)):=by rw[k6 p hph];exact Vx
    repeat (first | walk_at "rl" | simp only[hp6])
    have eq:(sX z none (some (sp+1+r))).cps.toList=z.cps.toList.take (sp+1+r).toNat:=Bv z (by lia)
    refine⟨by rw[lz'];decide,aL (by lia),(cx _ _ _).mpr ⟨ss++[sX z none (some (sp+1+r))],_,_,_,rfl,by simp[hl],λk s e=>?_,d6.put Vy,by simp[ag]⟩⟩
    by_cases Qt:k<ss.length
    ·rw[gh Qt]at e;exact hk k s e
    ·rw[fC (by lia)]at e
     have hk0:k-ss.length=0:=by
      cases z:k-ss.length with
      | zero=>rfl
      | succ n=>rw[z]at e;cases e
     rw[hk0]at e
     have:k=i:=by lia
     subst this
     cases e
     refine⟨Vq eq (by rw[cz,lz];lia) (by rw[cz,lz];lia) λc o6=>?_,?_⟩
     ·have hm:=tT o6
      rw[ez]at hm
      rcases bT.mp hm with hm | hm
      ·rcases bT.mp hm with hm | hm
       ·exact Zf c (tT hm)
       ·rw[bR.mp hm];lia
      ·exact Zf c (List.mem_of_mem_drop hm)
     ·rw[eq,List.getElem?_take_of_lt (by lia),ez,gh (by rw[cw,cz,qW,ja];lia),fC (by rw[cz,qW];lia),cz,qW]
      have:sp.toNat-min sp.toNat 8=0:=by lia
      rw[this,<-VF];rfl
   ·obtain⟨ss,a,b,c,rfl,hl,hk,d5,Vx⟩:=(cx _ _ _).mp pv
    walk_at "r"
    refine q p ss H5 d5 Vy Vx hl (sv λi j x Fx e1 e2=>?_) λs hs=>?_
    ·have g1:=(hk i x e1).2
     have g2:=(hk j x e2).2
     have hj:j<ss.length:=(cy.mp e2).1
     rw[g1]at g2
     have:=cv g2
     lia
    ·obtain⟨k,Ie⟩:=Gq.mp hs
     exact(hk k s Ie).1
end
local macro_rules | `(tactic| walk_at "rd") => `(tactic| walk_at "rc")
local macro_rules | `(tactic| walk_at "rl") => `(tactic| first | (refine cT fun R hR => ?_) | walk_at "ry" | (refine Nx.to (by assumption) _ _ ?_))
inductive Rl where
 | yes | no | var (x:Str) | neg (a:Rl) | two (k:Str) (a b:Rl)
def bw:List Str:=[Str.ofString "and",Str.ofString "or",Str.ofString "then",Str.ofString "same"]
def iF(H:Hp):Rl->Addr->Prop
 | .yes,p=>H p=some (.tup [.str (Str.ofString "yes")])
 | .no,p=>H p=some (.tup [.str (Str.ofString "no")])
 | .var x,p=>H p=some (.tup [.str (Str.ofString "is"),.str x])
 | .neg a,p=>∃q,H p=some (.tup [.str (Str.ofString "not"),.ref q])/\iF H a q
 | .two k a b,p=>k∈bw/\∃q r,H p=some (.tup [.str k,.ref q,.ref r])/\iF H a q/\iF H b r
def Rl.deep:Rl->Nat
 | .neg a=>a.deep+1
 | .two _ a b=>max a.deep b.deep+1
 | _=>1
def Rl.names:Rl->List Str
 | .var x=>[x]
 | .neg a=>a.names
 | .two _ a b=>a.names++b.names
 | _=>[]
def lI(H H':Hp):Prop:=∀q xs,H q=some (.tup xs)->H' q=some (.tup xs)
theorem aD{H H':Hp}(s:bf H H'):lI H H':=λq xs e=>s q _ e
theorem dP.Pt{H:Hp}{h q:Addr}{xs:List V}(x:dP H h)(e:H q=some (.tup xs)):q≠h:=by
 obtain⟨l,ns,o,e1,⟨a,b,c,d,f,rfl,_⟩,_⟩:=x
 exact fE e e1 (by intro z;cases z)
theorem Dr.tups{h:Addr}{H H':Hp}(d:Dr h H H')(x:dP H h):lI H H':=λq xs e=>d.keep q _ (x.Pt e) e
theorem iF.mono{H H':Hp}(k:lI H H'):∀{r:Rl} {p:Addr},iF H r p->iF H' r p
 | .yes,p,h=>k _ _ h
 | .no,p,h=>k _ _ h
 | .var x,p,h=>k _ _ h
 | .neg a,p,⟨q,e,x⟩=>⟨q,k _ _ e,iF.mono k x⟩
 | .two w a b,p,⟨m,q,r,e,x,y⟩=>⟨m,q,r,k _ _ e,iF.mono k x,iF.mono k y⟩
theorem Rl.len:∀r:Rl,r.names.length*2<=2 ^ r.deep
 | .yes=>by decide
 | .no=>by decide
 | .var x=>by show 1*2<=2 ^ 1;decide
 | .neg a=>df a.len (qo (by decide) (iX _))
 | .two k a b=>by
  show(a.names++b.names).length*2<=2 ^ (max a.deep b.deep+1)
  have h1:=df a.len (qo (show 0<2 by decide) (Nat.le_max_left a.deep b.deep))
  have h2:=df b.len (qo (show 0<2 by decide) (Nat.le_max_right a.deep b.deep))
  rw[cw,pA];lia
theorem Rl.LQ{r:Rl}(h:r.deep<=6):r.names.length<=32:=by
 have h1:=r.len
 have h2:2 ^ r.deep<=2 ^ 6:=qo (by decide) h
 have h3:(2:Nat) ^ 6=64:=by decide
 lia
theorem Rl.pos:∀r:Rl,1<=r.deep
 | .yes=>aU _
 | .no=>aU _
 | .var _=>aU _
 | .neg _=>Nat.le_add_left _ _
 | .two _ _ _=>Nat.le_add_left _ _
theorem aBD:∀k∈bw,k≠Str.ofString "is":=by decide
theorem iF.kids{H:Hp}:∀{r:Rl} {p:Addr},iF H r p->(∃x,r=.var x/\H p=some (.tup [.str (Str.ofString "is"),.str x]))\/
  ∃(k:Str) (qs:List Addr) (rs:List Rl),H p=some (.tup (.str k::qs.map V.ref))/\k≠Str.ofString "is"/\qs.length=rs.length/\rs.length<=2/\(∀(i:Nat) q r',qs[i]?=some q->rs[i]?=some r'->iF H r' q/\r'.deep+1<=r.deep)/\r.names=(rs.map Rl.names).flatten
 | .yes,p,h=>.inr ⟨_,[],[],h,by decide,rfl,by decide,(λi q r' e=>by simp at e),rfl⟩
 | .no,p,h=>.inr ⟨_,[],[],h,by decide,rfl,by decide,(λi q r' e=>by simp at e),rfl⟩
 | .var x,p,h=>.inl ⟨x,rfl,h⟩
 | .neg a,p,⟨q,e,x⟩=>.inr ⟨_,[q],[a],e,by decide,rfl,by simp,(λi q' r' e1 e2=>by
   cases i with
   | zero=>cases e1;cases e2;exact⟨x,aU _⟩
   | succ n=>cases e1),by simp[Rl.names]⟩
 | .two w a b,p,⟨m,q,r,e,x,y⟩=>.inr ⟨_,[q,r],[a,b],e,aBD _ m,rfl,by simp,(λi q' r' e1 e2=>by
   match i with
   | 0=>cases e1;cases e2;exact⟨x,Nat.succ_le_succ (Nat.le_max_left _ _)⟩
   | 1=>cases e1;cases e2;exact⟨y,Nat.succ_le_succ (Nat.le_max_right _ _)⟩
   | n+2=>cases e1),by simp[Rl.names]⟩
theorem yF(x:V)(xs:List V):jy (x::xs) (some 1) none=xs:=by
 unfold jy HT.cK
 simp
def NX(d:Nat):Sp:=λvs H Q _=>∃h N dp,vs=[.ref h,.ref N,.int dp]/\1<=dp/\dp<=d/\∃ss:List Str,dP H h/\H N=some (.lst (List.map V.str ss))/\ss.length<=8/\
 ∀p r H',Dr h H H'->iF H' r p->(r.deep:Int)<=dp->(∀x∈r.names,x∈ss)->Q (.ref p) H'
theorem dP.Xj{H:Hp}{h N:Addr}{ss:List Str}(x:dP H h)(e:H N=some (.lst (List.map V.str ss))):N≠h:=by
 obtain⟨l,ns,o,e1,⟨a,b,c,d,f,rfl,_⟩,_⟩:=x
 refine fE e e1 (λz=>?_)
 unfold hv at z
 injection z with z
 match ss,z with
 | [],z=>cases z
 | s::_,z=>injection z with z1 _;cases z1
theorem Vu{c d:Prop} [Decidable c] [Decidable d] {X Y:Prop} (h1:X) (h2:¬c->¬d->Y):if c then X else if d then X else Y:=by
 split
 ·exact h1
 ·split
  ·exact h1
  ·exact h2 ‹_› ‹_›
section
variable {P:Program}{w:World}{K:PySem.W.Frag}{mg:Str->Option Value}{base:Heap}{t:tN}
theorem JM(T:Txt K mg t):∀d:Nat,cE P w K mg base g6 (d+4) t.nR t.nu ["_law_hand_here","_law_names_here","_law_deep"] (NX d)
 | 0=>T.ip.lT (k:=3) iN (λvs H Q E h=>by obtain⟨h,N,dp,rfl,_⟩:=h;rfl) (λdz A outer s H vs Q E hr h hc hf=>by obtain⟨h,N,dp,rfl,h1,h2,_⟩:=h;lia)
 | d+1=>by
  have aZ:=uW (P:=P) (w:=w) (base:=base) T
  have jN:=JM T d
  refine T.ip.lT (k:=d+4) iN (λvs H Q E h=>?_) (λdz A outer s H vs Q E hr h hc hf=>?_)
  ·obtain⟨h,N,dp,rfl,_⟩:=h;rfl
  obtain⟨h,N,dp,rfl,h1,h2,ss,hd,hN,l8,q⟩:=h
  have Yg:=hd.Xj hN
  refine⟨_,(by apply ai;exact(aE hc iN.nd hf 3 (by decide +kernel) (aC aZ (hr.mono (by omega)) (cG hc) T.bx T.bq.kp T.bz .nil aY (ae (aj hc 0) (ae aq ah))));apply ai;exact(bh (oW (vL (aG cV (aj hc 2) aq (aX _)) (qt (aG JL (aj hc 3) aq (aX _))))) (by apply ai;exact(bh (oW (vL (aG cV (aC aZ (hr.mono (by omega)) (cG hc) T.bx T.bq.kp T.bz .nil aY (ae (aj hc 0) (ae aq ah))) aq (aX _)) (qt (aG cV (bA gS (cG hc) T.z_len rg (ae (aj hc 1) ah)) aq (aX _))))) (by exact ak (aF (bj jk (bW (ae (bF (ae bG ah)) (ae (bF (ae bG ah)) ah))) (aC aZ (hr.mono (by omega)) (cG hc) T.bx T.bq.kp T.bz .nil aY (ae (aj hc 0) (ae aq ah))) (λ_ _=>rfl)))) aN);exact ak (aF (bF (ae bG (ae (bj jk (aj hc 1) (aC aZ (hr.mono (by omega)) (cG hc) T.bx T.bq.kp T.bz .nil aY (ae (aj hc 0) (ae (bA gS (cG hc) T.z_len rg (ae (aj hc 1) ah)) ah))) (λ_ _=>rfl)) ah))))) aN);apply ai;exact(aE hc iN.nd hf 4 (by decide +kernel) (aC jN (hr.mono (by omega)) (cG hc) T.mZ T.ip.kp T.nI .nil aY (ae (aj hc 0) (ae (aj hc 1) (ae (aV Ap (aj hc 2) aq) ah)))));apply ai;exact(bh (aG JL (aj hc 3) aq (aX _)) (by exact ak (aF (bF (ae bG (ae (aj hc 4) ah))))) aN);exact ak (aF (bF (ae (bj jk (bW (ae bG (ae bG (ae bG (ae bG ah))))) (aV Ap (aj hc 3) aq) (λ_ _=>rfl)) (ae (aj hc 4) (ae (aC jN (hr.mono (by omega)) (cG hc) T.mZ T.ip.kp T.nI .nil aY (ae (aj hc 0) (ae (aj hc 1) (ae (aV Ap (aj hc 2) aq) ah)))) ah)))))),?_⟩
  walk_at "rd"
  refine dv hd Dr.refl (by decide) (by decide) λway H1 w0 w8 d1 k1=>?_
  have Zi:H1 N=some (.lst (List.map V.str ss)):=by rw[k1 N Yg];exact hN
  have hd1:=d1.cD hd
  repeat (first | walk_at "rd" | simp only[Zi])
  refine Vu ?_ λn1 n2=>?_
  ·refine dv hd d1 (by decide) (by decide) λr H2 r0 r1 d2 k2=>?_
   have QD:H2 N=some (.lst (List.map V.str ss)):=by rw[k2 N Yg];exact Zi
   have hd2:=d2.cD hd
   repeat (first | walk_at "rd" | simp only[QD])
   refine Vu ?_ λm1 m2=>?_
   ·refine⟨by decide,λp hp=>⟨by decide,λp' J4=>⟨by decide,λL hL=>?_⟩⟩⟩
    have d5:=((d2.new (o:=.tup [.str (Str.ofString "yes")]) hp).new (o:=.tup [.str (Str.ofString "no")]) J4).new (o:=.lst [.ref p,.ref p']) hL
    refine dv hd d5 (by decide) (by decide) λi H3 i0 i2 d3 k3=>?_
    have nL:L≠h:=(((d2.new (o:=.tup [.str (Str.ofString "yes")]) hp).new (o:=.tup [.str (Str.ofString "no")]) J4).cD hd).ne hL
    have np:p≠h:=hd2.ne hp
    have np':p'≠h:=((d2.new (o:=.tup [.str (Str.ofString "yes")]) hp).cD hd).ne J4
    have pp:p≠p':=ay ag J4
    have pL:p≠L:=ay (H:=upd (upd H2 p _) p' _) (by rw[au pp,ag]) hL
    have pL':p'≠L:=ay (H:=upd (upd H2 p _) p' _) ag hL
    have e1:H3 L=some (.lst [.ref p,.ref p']):=by rw[k3 L nL,ag]
    have e2:H3 p=some (.tup [.str (Str.ofString "yes")]):=by rw[k3 p np,au pL,au pp,ag]
    have e3:H3 p'=some (.tup [.str (Str.ofString "no")]):=by rw[k3 p' np',au pL',ag]
    have hi:i=0\/i=1:=by lia
    rcases hi with rfl | rfl
    ·repeat (first | walk_at "rd" | simp only[e1])
     exact q p .yes H3 d3 e2 (by show((1:Nat):Int)<=dp;lia) (λx hx=>nomatch hx)
    ·repeat (first | walk_at "rd" | simp only[e1])
     exact q p' .no H3 d3 e3 (by show((1:Nat):Int)<=dp;lia) (λx hx=>nomatch hx)
   ·refine dv hd d2 (by lia) (by lia) λi H3 i0 i2 d3 k3=>?_
    have Nc:H3 N=some (.lst (List.map V.str ss)):=by rw[k3 N Yg];exact QD
    have hi:i.toNat<ss.length:=by lia
    have e:uM (List.map V.str ss) i=some (.str ss[i.toNat]):=by
     have:=fH (xs:=List.map V.str ss) (j:=i.toNat) (v:=.str ss[i.toNat]) (by rw[cR,bD hi];rfl)
     rw[Int.toNat_of_nonneg i0]at this;exact this
    repeat (first | walk_at "rd" | simp only[Nc,e])
    refine⟨by decide,λp hp=>?_⟩
    exact q p (.var ss[i.toNat]) _ (d3.new hp) ag (by show((1:Nat):Int)<=dp;lia) (λx hx=>by rw[bR.mp hx];exact rX hi)
  ·refine⟨h,N,dp-1,rfl,by lia,by lia,ss,hd1,Zi,l8,λp1 a1 H2 d2 at2 de2 na2=>?_⟩
   have Mr:=d1.trans d2
   have hd2:=Mr.cD hd
   have QD:H2 N=some (.lst (List.map V.str ss)):=d2.keep _ _ Yg Zi
   split
   ·refine⟨by decide,λp hp=>q p (.neg a1) _ (Mr.new hp) ⟨p1,ag,at2.mono (aD (av hp _))⟩ (by show((a1.deep+1:Nat):Int)<=dp;lia) na2⟩
   ·refine⟨by decide,λL hL=>?_⟩
    have sL:=av hL (.lst [V.str (Str.ofString "and"),V.str (Str.ofString "or"),V.str (Str.ofString "then"),V.str (Str.ofString "same")])
    have hdL:=(Mr.new (o:=.lst [V.str (Str.ofString "and"),V.str (Str.ofString "or"),V.str (Str.ofString "then"),V.str (Str.ofString "same")]) hL).cD hd
    have fin:∀k∈bw,NX d [V.ref h,V.ref N,V.int (dp-1)] (upd H2 L (.lst [V.str (Str.ofString "and"),V.str (Str.ofString "or"),V.str (Str.ofString "then"),V.str (Str.ofString "same")]))
      (λx H1=>3<=sizeLine/\∀(p:Addr),H1 p=none->Q (V.ref p) (upd H1 p (HO.tup [V.str k,V.ref p1,x]))) E0:=by
     intro k hk
     refine⟨h,N,dp-1,rfl,by lia,by lia,ss,hdL,sL _ _ QD,l8,λp2 a2 H3 d3 at3 de3 na3=>⟨by decide,λp hp=>?_⟩⟩
     have dd3:=(Mr.new (o:=.lst [V.str (Str.ofString "and"),V.str (Str.ofString "or"),V.str (Str.ofString "then"),V.str (Str.ofString "same")]) hL).trans d3
     refine q p (.two k a1 a2) _ (dd3.new hp) ⟨hk,p1,p2,ag,((at2.mono (aD sL)).mono (d3.tups hdL)).mono (aD (av hp _)),at3.mono (aD (av hp _))⟩ ?_ ?_
     ·show((max a1.deep a2.deep+1:Nat):Int)<=dp
      lia
     ·intro x hx
      rcases bT.mp hx with z | z
      ·exact na2 x z
      ·exact na3 x z
    have hw:way=4\/way=5\/way=6\/way=7:=by lia
    rcases hw with rfl | rfl | rfl | rfl
    ·exact⟨_,rfl,fin _ (by decide)⟩
    ·exact⟨_,rfl,fin _ (by decide)⟩
    ·exact⟨_,rfl,fin _ (by decide)⟩
    ·exact⟨_,rfl,fin _ (by decide)⟩
end
local macro_rules | `(tactic| walk_at "rd") => `(tactic| walk_at "rc")
local macro_rules | `(tactic| walk_at "rl") => `(tactic| first | (refine cT fun R hR => ?_) | walk_at "ry" | (refine Nx.to (by assumption) _ _ ?_))
def NT(d:Nat):Sp:=λvs H Q _=>∃p,vs=[.ref p]/\∃r,iF H r p/\r.deep<=d/\r.deep<=6/\∀L H',bf H H'->H L=none->H' L=some (.lst (List.map V.str r.names))->Q (.ref L) H'
theorem oE{rs:List Rl}{i:Nat}{r:Rl}(h:rs[i]?=some r):((rs.take (i+1)).map Rl.names).flatten=((rs.take i).map Rl.names).flatten++r.names:=by
 rw[pG,h]
 simp
theorem dB{qs:List Addr}{i:Nat}{x:V}(h:(List.map V.ref qs)[i]?=some x):∃q,qs[i]?=some q/\x=.ref q:=by
 rw[cR]at h
 cases e:qs[i]? with
 | none=>rw[e]at h;cases h
 | some q=>rw[e]at h;exact⟨q,rfl,(cv h).symm⟩
section
variable {P:Program}{w:World}{K:PySem.W.Frag}{mg:Str->Option Value}{base:Heap}{t:tN}
theorem yr(T:Txt K mg t):∀d:Nat,cE P w K mg base g6 (d+1) t.jr t.jn ["rule"] (NT d)
 | 0=>T.gy.lT (k:=0) fG (λvs H Q E h=>by obtain⟨p,rfl,_⟩:=h;rfl) (λdz A outer s H vs Q E hr h hc hf=>by obtain⟨p,rfl,r,_,h1,_⟩:=h;have:=r.pos;lia)
 | d+1=>by
  have jw:=yr T d
  refine T.gy.lT (k:=d+1) fG (λvs H Q E h=>?_) (λdz A outer s H vs Q E hr h hc hf=>?_)
  ·obtain⟨p,rfl,_⟩:=h;rfl
  obtain⟨p,rfl,r,ra,hd,h6,q⟩:=h
  refine⟨_,(by apply ai;exact(bh (aG cV (bj lX (aj hc 0) aq (λ_ _=>rfl)) bG (aX _)) (by exact ak (aF (bW (ae (bj lX (aj hc 0) aq (λ_ _=>rfl)) ah)))) aN);apply ai;exact(aE hc fG.nd hf 1 (by decide +kernel) (bW ah));apply ai;exact(bV eJ rfl (gY (dH Sj (aj hc 0) (eN aq) eO)) (gk hc fG.nd hf 2 (by decide +kernel)) (by exact ak (cA (fL j5 PySem.F.slot_list_extend PySem.F.type_list_extend Lw (aj hc 1) (ae (aC jw (hr.mono (by omega)) (cG hc) T.mX T.gy.kp T.nG .nil aY (ae (aj hc 2) ah)) ah)))));exact ak (aF (aj hc 1))),?_⟩
  rcases ra.kids with ⟨x,rfl,hp⟩ | ⟨k,qs,rs,hp,kis,hl,l2,kid,nm⟩
  ·repeat (first | walk_at "rl" | simp only[hp])
   refine⟨by decide,λL hL=>q L _ (av hL _) hL ag⟩
  ·repeat (first | walk_at "rl" | simp only[hp,kis])
   refine⟨by decide,λL hL=>?_⟩
   have pL:p≠L:=ay hp hL
   walk_at "r"
   refine⟨_,by rw[au pL];exact hp,by simp[HT.cK],λC hC=>?_⟩
   rw[yF]
   have LC:L≠C:=ay ag hC
   have sC:bf H (upd (upd H L (.lst [])) C (.tup (List.map V.ref qs))):=(av hL _).trans (av hC _)
   refine⟨⟨_,bC ag⟩,?_⟩
   obtain⟨Pv,cx⟩:∃Pv:Nat->St->Hp->Prop,∀i σ' H',Pv i σ' H'↔∃x:Option V,σ'=[some (.ref p),some (.ref L),x]/\bf H H'/\H' L=some (.lst (List.map V.str ((rs.take i).map Rl.names).flatten))/\H' C=some (.tup (List.map V.ref qs)):=⟨_,λ_ _ _=>cp⟩
   refine gO (xs:=List.map V.ref qs) Pv ((cx _ _ _).mpr ⟨none,rfl,sC,by rw[au LC,ag];rfl,ag⟩) (λi σ' H1 _ pv=>?_) (λi x σ' H1 hx pv=>?_) (λσ' H1 pv=>?_)
   ·obtain⟨_,_,_,_,h⟩:=(cx _ _ _).mp pv
    exact h
   ·obtain⟨y,rfl,s1,BW,VJ⟩:=(cx _ _ _).mp pv
    obtain⟨a,ea,rfl⟩:=dB hx
    have hi:i<rs.length:=by rw[<-hl];exact(cy.mp ea).1
    have er:rs[i]?=some rs[i]:=bD hi
    obtain⟨ka,kd⟩:=kid i a _ ea er
    have len:((rs.take i).map Rl.names).flatten.length+(rs[i]).names.length<=32:=by
     have:=Rl.LQ h6
     have e2:r.names=((rs.take (i+1)).map Rl.names).flatten++((rs.drop (i+1)).map Rl.names).flatten:=by
      rw[nm,<-List.flatten_append,<-bP,vi]
     rw[e2,oE er,cw,cw]at this
     lia
    walk_at "r"
    refine⟨.inl ⟨rfl,_,aP BW⟩,a,rfl,rs[i],ka.mono (aD s1),by lia,by lia,λM H2 s2 hM hM2=>?_⟩
    repeat (first | walk_at "rl" | simp only[hM2,s2 _ _ BW])
    refine⟨cS (by lia),(cx _ _ _).mpr ⟨_,rfl,?_,?_,?_⟩⟩
    ·exact λb u e=>by rw[au (ay e hL)];exact s2 _ _ (s1 _ _ e)
    ·rw[ag,oE er,bP]
    ·rw[au LC.symm];exact s2 _ _ VJ
   ·obtain⟨y,rfl,s1,BW,VJ⟩:=(cx _ _ _).mp pv
    walk_at "r"
    refine q L H1 s1 hL ?_
    rw[BW,aM,hl,fu,<-nm]
end
def KS:Sp:=λvs H Q _=>∃p,vs=[.ref p]/\∃r,iF H r p/\r.deep<=6/\∀L ts H',bf H H'->H L=none->H' L=some (.lst (List.map V.str ts))->(∀z,z∈ts↔z∈r.names)->ts.Nodup->PyProof.Rows.sortedS ts=true->Q (.ref L) H'
section
variable {P:Program}{w:World}{K:PySem.W.Frag}{mg:Str->Option Value}{base:Heap}{t:tN}
theorem t8(T:Txt K mg t):cE P w K mg base g6 8 t.qa t.pZ ["rule"] KS:=by
 have jw:=yr (P:=P) (w:=w) (base:=base) T 6
 refine T.qf.lT CJ (λvs H Q E h=>?_) (λdz A outer s H vs Q E hr h hc hf=>?_)
 ·obtain⟨p,rfl,_⟩:=h;rfl
 obtain⟨p,rfl,r,ra,h6,q⟩:=h
 refine⟨_,(by exact ak (aF (bA (xD hr.hd) (cG hc) T.z_sorted ig (ae (dA (MF hr.hd) (cG hc) T.z_set aBF (ae (aC jw (hr.mono (by omega)) (cG hc) T.mX T.gy.kp T.nG .nil aY (ae (aj hc 0) ah)) ah)) ah)))),?_⟩
 walk_at "r"
 refine⟨p,rfl,r,ra,h6,h6,λL H1 s1 hL BW=>?_⟩
 have l32:=Rl.LQ h6
 repeat (first | walk_at "rl" | simp only[BW])
 refine⟨r.names,rfl,by lia,λZ hZ=>⟨r.names,rfl,by lia,λts mem nd uS D hD=>?_⟩⟩
 have s3:=(s1.trans (av hZ (YB w Z r.names))).trans (av hD (.lst (List.map V.str ts)))
 exact q D ts _ s3 ((s1.trans (av hZ (YB w Z r.names))).free hD) ag mem nd uS
end
local macro_rules | `(tactic| walk_at "rd") => `(tactic| walk_at "rc")
local macro_rules | `(tactic| walk_at "rl") => `(tactic| first | (refine cT fun R hR => ?_) | walk_at "ry" | (refine Nx.to (by assumption) _ _ ?_))
def GL(k:Str)(a b:Bool):Bool:=if k=Str.ofString "and" then a&&b else if k=Str.ofString "or" then a||b else if k=Str.ofString "then" then !a||b else a==b
def Rl.val(e:Str->Bool):Rl->Bool
 | .yes=>true
 | .no=>false
 | .var x=>e x
 | .neg a=>!a.val e
 | .two k a b=>GL k (a.val e) (b.val e)
def Fact(kvs:List (Key×V))(ns:List Str):Prop:=∀x∈ns,∃b,cB kvs (Sum.inr x)=some (.bl b)
def gq(kvs:List (Key×V))(x:Str):Bool:=match cB kvs (Sum.inr x) with | some (.bl b)=>b | _=>false
theorem iR{kvs:List (Key×V)}{x:Str}{b:Bool}(h:cB kvs (Sum.inr x)=some (.bl b)):gq kvs x=b:=by unfold gq;rw[h]
theorem Fact.left{kvs:List (Key×V)}{a b:List Str}(h:Fact kvs (a++b)):Fact kvs a:=λx hx=>h x (j4 _ hx)
theorem Fact.right{kvs:List (Key×V)}{a b:List Str}(h:Fact kvs (a++b)):Fact kvs b:=λx hx=>h x (iI _ hx)
theorem V5:∀k∈bw,k≠Str.ofString "yes"/\k≠Str.ofString "no"/\k≠Str.ofString "is"/\k≠Str.ofString "not":=by decide
theorem DK:Str.ofString "no"≠Str.ofString "yes"/\Str.ofString "is"≠Str.ofString "yes"/\Str.ofString "is"≠Str.ofString "no"/\Str.ofString "not"≠Str.ofString "yes"/\Str.ofString "not"≠Str.ofString "no"/\Str.ofString "not"≠Str.ofString "is":=by decide
def ZF:Sp:=λvs H Q _=>∃k a b,vs=[.str k,.bl a,.bl b]/\Q (.bl (GL k a b)) H
def R'(d:Nat):Sp:=λvs H Q _=>∃p f,vs=[.ref p,.ref f]/\∃r,iF H r p/\r.deep<=d/\∃kvs,H f=some (.dK kvs)/\Fact kvs r.names/\Q (.bl (r.val (gq kvs))) H
section
variable {P:Program}{w:World}{K:PySem.W.Frag}{mg:Str->Option Value}{base:Heap}{t:tN}
theorem Xh(T:Txt K mg t):cE P w K mg base g6 1 t.jq t.jm ["word","one","other"] ZF:=by
 refine T.og.lT uG (λvs H Q E h=>?_) (λdz A outer s H vs Q E hr h hc hf=>?_)
 ·obtain⟨k,a,b,rfl,_⟩:=h;rfl
 obtain⟨k,a,b,rfl,q⟩:=h
 have hu:=fF hr
 have Bn:=hr.dI
 refine⟨_,(by apply ai;exact(bh (aG cV (aj hc 0) bG (aX _)) (by exact ak (aF (Jf (aj hc 1) (ow (aj hc 2))))) aN);apply ai;exact(bh (aG cV (aj hc 0) bG (aX _)) (by exact ak (aF (zM (aj hc 1) (ow (aj hc 2))))) aN);apply ai;exact(bh (aG cV (aj hc 0) bG (aX _)) (by exact ak (aF (zM (oy (aj hc 1)) (ow (aj hc 2))))) aN);exact ak (aF (hV cV (aj hc 1) (aj hc 2) (aX _)))),?_⟩
 walk_at "r"
 unfold GL at q
 split
 ·rename_i h;rw[aB h]at q;cases a <;> exact q
 ·rename_i h1;rw[aA h1]at q
  walk_at "r"
  split
  ·rename_i h;rw[aB h]at q;cases a <;> exact q
  ·rename_i h2;rw[aA h2]at q
   walk_at "r"
   split
   ·rename_i h;rw[aB h]at q;cases a <;> exact q
   ·walk_at "r"
    rename_i h3;rw[aA h3]at q;cases a <;> cases b <;> exact q
theorem Dq(T:Txt K mg t):∀d:Nat,cE P w K mg base g6 (d+2) t.p8 t.pX ["rule","facts"] (R' d)
 | 0=>T.gX.lT (k:=1) mL (λvs H Q E h=>by obtain⟨p,f,rfl,_⟩:=h;rfl) (λdz A outer s H vs Q E hr h hc hf=>by obtain⟨p,f,rfl,r,_,h1,_⟩:=h;have:=r.pos;lia)
 | d+1=>by
  have jv:=Dq T d
  have wV:=Xh (P:=P) (w:=w) (base:=base) T
  refine T.gX.lT (k:=d+2) mL (λvs H Q E h=>?_) (λdz A outer s H vs Q E hr h hc hf=>?_)
  ·obtain⟨p,f,rfl,_⟩:=h;rfl
  obtain⟨p,f,rfl,r,ra,hd,kvs,hF,fa,q⟩:=h
  have hu:=fF hr
  have Bn:=hr.dI
  obtain⟨n1,n2,n3,n4,n5,n6⟩:=DK
  refine⟨_,(by apply ai;exact(aE hc mL.nd hf 2 (by decide +kernel) (bj lX (aj hc 0) aq (λ_ _=>rfl)));apply ai;exact(bh (aG cV (aj hc 2) bG (aX _)) (by exact ak (aF bY)) aN);apply ai;exact(bh (aG cV (aj hc 2) bG (aX _)) (by exact ak (aF bY)) aN);apply ai;exact(bh (aG cV (aj hc 2) bG (aX _)) (by exact ak (aF (jf hu (aj hc 1) (bj lX (aj hc 0) aq (λ_ _=>rfl)) (λ_ _=>rfl)))) aN);apply ai;exact(bh (aG cV (aj hc 2) bG (aX _)) (by exact ak (aF (oy (aC jv (hr.mono (by omega)) (cG hc) T.kZ T.gX.kp T.lE .nil aY (ae (bj lX (aj hc 0) aq (λ_ _=>rfl)) (ae (aj hc 1) ah)))))) aN);exact ak (aF (aC wV (hr.mono (by omega)) (cG hc) T.wy T.og.kp T.wO .nil aY (ae (aj hc 2) (ae (aC jv (hr.mono (by omega)) (cG hc) T.kZ T.gX.kp T.lE .nil aY (ae (bj lX (aj hc 0) aq (λ_ _=>rfl)) (ae (aj hc 1) ah))) (ae (aC jv (hr.mono (by omega)) (cG hc) T.kZ T.gX.kp T.lE .nil aY (ae (bj lX (aj hc 0) aq (λ_ _=>rfl)) (ae (aj hc 1) ah))) ah)))))),?_⟩
  match r,ra,q with
  | .yes,ra,q=>
   have hp:H p=some (.tup [.str (Str.ofString "yes")]):=ra
   repeat (first | walk_at "rl" | simp only[hp])
   exact q
  | .no,ra,q=>
   have hp:H p=some (.tup [.str (Str.ofString "no")]):=ra
   repeat (first | walk_at "rl" | simp only[hp,n1,bU])
   exact q
  | .var x,ra,q=>
   have hp:H p=some (.tup [.str (Str.ofString "is"),.str x]):=ra
   obtain⟨b,hb⟩:=fa x di
   repeat (first | walk_at "rl" | simp only[hp,n2,n3,bU,j7])
   refine⟨.bl b,(by have:=oo.k (k:=Sum.inr x) hF;rw[hb]at this;exact this),?_⟩
   have e:(Rl.var x).val (gq kvs)=b:=iR hb
   rw[e]at q;exact q
  | .neg a,ra,q=>
   obtain⟨q1,hp,Wy⟩:=ra
   have d1:a.deep+1<=d+1:=hd
   repeat (first | walk_at "rl" | simp only[hp,n4,n5,n6,bU])
   exact⟨q1,f,rfl,a,Wy,by lia,kvs,hF,fa,_,rfl,q⟩
  | .two k a b,ra,q=>
   obtain⟨hk,q1,q2,hp,Wy,ra2⟩:=ra
   obtain⟨m1,m2,m3,m4⟩:=V5 k hk
   have d1:max a.deep b.deep+1<=d+1:=hd
   repeat (first | walk_at "rl" | simp only[hp,m1,m2,m3,m4,bU])
   refine⟨q1,f,rfl,a,Wy,by lia,kvs,hF,fa.left,?_⟩
   repeat (first | walk_at "rl" | simp only[hp])
   refine⟨q2,f,rfl,b,ra2,by lia,kvs,hF,fa.right,?_⟩
   repeat (first | walk_at "rl" | simp only[hp])
   exact⟨k,_,_,rfl,q⟩
end
theorem vU{ss:List Str}{i:Nat}{x:V}(h:(List.map V.str ss)[i]?=some x):∃y,ss[i]?=some y/\x=.str y:=by
 rw[cR]at h
 cases e:ss[i]? with
 | none=>rw[e]at h;cases h
 | some q=>rw[e]at h;exact⟨q,rfl,(cv h).symm⟩
theorem bp{H H1:Hp}{p:Addr}{o:HO}(a:bf H H1)(hn:H p=none):bf H (upd H1 p o):=λb u e=>by rw[au (ay e hn)];exact a b u e
theorem dP.aFI{H:Hp}{h q:Addr}{xs:List (Key×V)}(x:dP H h)(e:H q=some (.dK xs)):q≠h:=by
 obtain⟨l,ns,o,e1,⟨a,b,c,d,f,rfl,_⟩,_⟩:=x
 exact fE e e1 (by intro z;cases z)
theorem Dr.same{h:Addr}{H H1 H2:Hp}(d:Dr h H H1)(s:bf H1 H2):Dr h H H2:=⟨λb o hb e=>s _ _ (d.keep b o hb e),λl x=>by
 obtain⟨ns,o,e1,e2,e3⟩:=d.hand l x
 exact⟨ns,o,s _ _ e1,e2,s _ _ e3⟩⟩
theorem aBa(xs:List Str)(lo hi:Option Int):∃ys:List Str,jy (List.map V.str xs) lo hi=List.map V.str ys/\ys.length<=xs.length:=by
 refine⟨_,Ep V.str xs lo hi,?_⟩
 rw[cz,jD]
 lia
theorem Kd(xs:List V){k:Int}(hk:0<=k):jy xs none (some k)=xs.take k.toNat:=by
 have e:HT.cK xs.length xs.length (some k)=min k.toNat xs.length:=by
  show(if k<0 then _ else min k.toNat xs.length)=_
  rw[aA (by lia)]
 have e0:HT.cK xs.length 0 none=0:=rfl
 unfold jy
 rw[e,e0,vx,za]
 exact(List.take_eq_take_min ..).symm
local macro_rules | `(tactic| walk_at "rd") => `(tactic| walk_at "rc")
local macro_rules | `(tactic| walk_at "rl") => `(tactic| first | (refine cT fun R hR => ?_) | walk_at "ry" | (refine Nx.to (by assumption) _ _ ?_))
def Row(ts:List Str)(k:Nat)(kvs:List (Key×V)):Prop:=
 kvs.map (·.1)=ts.map Sum.inr/\∀(j:Nat) s,ts[j]?=some s->cB kvs (Sum.inr s)=some (.bl (decide (k / 2 ^ (ts.length-1-j)%2=1)))
theorem qx{kvs:List (Key×V)}{k:Key}(h:k∉kvs.map (·.1)):cB kvs k=none:=by
 unfold cB
 rw[Gu,Gi]
 intro kv X3
 have:kv.1≠k:=λe=>h (bH.mpr ⟨kv,X3,e⟩)
 simpa using this
theorem Row.nil:Row [] 0 []:=⟨rfl,λj s e=>by simp at e⟩
theorem Row.step{ts:List Str}{t:Str}{k:Nat}{kvs:List (Key×V)}(r:Row ts k kvs)(hn:t∉ts)(b:Bool):Row (ts++[t]) (2*k+(if b then 1 else 0)) (putK kvs (Sum.inr t) (.bl b)):=by
 obtain⟨hk,hv⟩:=r
 have hnone:cB kvs (Sum.inr t:Key)=none:=qx (by rw[hk];intro h;obtain⟨s,hs,e⟩:=bH.mp h;exact hn (by rw[<-rD e];exact hs))
 refine⟨by rw[Df _ hnone,bP,hk,bP];rfl,λj s e=>?_⟩
 rw[vP,cw,ja]
 by_cases hj:j<ts.length
 ·rw[gh hj]at e
  have hs:s∈ts:=dE e
  have rz:¬((Sum.inr s:Key)=Sum.inr t):=λz=>hn (by rw[<-rD z];exact hs)
  rw[aA rz,hv j s e]
  have e1:ts.length+1-1-j=(ts.length-1-j)+1:=by lia
  rw[e1,pA,vv (2 ^ _) 2,<-Nat.div_div_eq_div_mul]
  have e2:(2*k+if b=true then 1 else 0) / 2=k:=by cases b <;> simp <;> lia
  rw[e2]
 ·rw[fC (by lia)]at e
  have h0:j-ts.length=0:=by
   cases z:j-ts.length with
   | zero=>rfl
   | succ n=>rw[z]at e;cases e
  rw[h0]at e
  cases e
  have e1:ts.length+1-1-j=0:=by lia
  rw[aB rfl,e1,Nat.pow_zero,Nat.div_one]
  cases b
  ·have:¬((2*k+if false=true then 1 else 0)%2=1):=by simp <;> lia
   rw[decide_eq_false this]
  ·have:(2*k+if true=true then 1 else 0)%2=1:=by simp <;> lia
   rw[decide_eq_true this]
theorem Row.len{ts:List Str}{k:Nat}{kvs:List (Key×V)}(r:Row ts k kvs):kvs.length=ts.length:=by
 have:=gj List.length r.1
 simpa using this
def Rows(H0 H:Hp)(as:List Addr)(ts:List Str):Prop:=∀(k:Nat) b,as[k]?=some b->H0 b=none/\∃kvs,H b=some (.dK kvs)/\Row ts k kvs
theorem Rows.mono{H0 H H':Hp}{as:List Addr}{ts:List Str}(r:Rows H0 H as ts)(h:∀b kvs,H b=some (.dK kvs)->H' b=some (.dK kvs)):Rows H0 H' as ts:=λk b e=>
 let ⟨h1,kvs,h2,h3⟩:=r k b e;⟨h1,kvs,h b kvs h2,h3⟩
theorem Rows.snoc{H0 H:Hp}{as:List Addr}{ts:List Str}{p:Addr}{kvs:List (Key×V)}(r:Rows H0 H as ts)(h0:H0 p=none)(hp:H p=some (.dK kvs))(hr:Row ts as.length kvs):Rows H0 H (as++[p]) ts:=λk b e=>by
 by_cases hk:k<as.length
 ·rw[gh hk]at e;exact r k b e
 ·rw[fC (by lia)]at e
  have h0':k-as.length=0:=by
   cases z:k-as.length with
   | zero=>rfl
   | succ n=>rw[z]at e;cases e
  rw[h0']at e
  have:k=as.length:=by lia
  subst this
  cases e
  exact⟨h0,kvs,hp,hr⟩
theorem qI{H H1:Hp}{p:Addr}{o:HO}(a:bf H H1)(hn:H p=none):bf H (upd H1 p o):=λb u e=>by rw[au (ay e hn)];exact a b u e
def Wk:Sp:=λvs H Q _=>∃a s b,vs=[.ref a,.str s,.bl b]/\∃kvs,H a=some (.dK kvs)/\kvs.length<=900/\∀p,H p=none->Q (.ref p) (upd H p (.dK (putK kvs (Sum.inr s) (.bl b))))
def Sh:Sp:=λvs H Q _=>∃a,vs=[.ref a]/\∃ss:List Str,H a=some (.lst (List.map V.str ss))/\ss.length<=6/\ss.Nodup/\
 ∀R as ts H',bf H H'->H R=none->H' R=some (.lst (List.map V.ref as))->ts.Perm ss->PyProof.Rows.sortedS ts=true->as.length=2 ^ ts.length->Rows H H' as ts->Q (.ref R) H'
section
variable {P:Program}{w:World}{K:PySem.W.Frag}{mg:Str->Option Value}{base:Heap}{t:tN}
theorem Tz(T:Txt K mg t):cE P w K mg base g6 1 t.nJ t.nh ["facts","name","truth"] Wk:=by
 refine T.n8.lT qH (λvs H Q E h=>?_) (λdz A outer s H vs Q E hr h hc hf=>?_)
 ·obtain⟨a,s,b,rfl,_⟩:=h;rfl
 obtain⟨a,s,b,rfl,kvs,ha,hl,q⟩:=h
 have hu:=fF hr
 refine⟨_,(by apply ai;exact(aE hc qH.nd hf 3 (by decide +kernel) (dA ur (cG hc) T.z_dict Ri (ae (aj hc 0) ah)));apply ai;exact(vM hu (aj hc 3) (aj hc 1) (aj hc 2) rfl);exact ak (aF (aj hc 3))),?_⟩
 repeat (first | walk_at "rl" | simp only[ha])
 intro p hp
 walk_at "r"
 simp only[yh,gI,List.getElem?_cons_zero,zJ,pI,exists_eq_left']
 refine⟨p,_,rfl,Fq.k (k:=Sum.inr s) ag (aL (by lia)),?_⟩
 rw[jG]
 walk_at "r"
 exact q p hp
theorem Pr(T:Txt K mg t):cE P w K mg base g6 2 t.nP t.nq ["names"] Sh:=by
 have uA:=Tz (P:=P) (w:=w) (base:=base) T
 refine T.uC.lT e9 (λvs H Q E h=>?_) (λdz A outer s H vs Q E hr h hc hf=>?_)
 ·obtain⟨a,rfl,_⟩:=h;rfl
 obtain⟨a,rfl,ss,ha,hl,nd,q⟩:=h
 refine⟨_,(by apply ai;exact(aE hc e9.nd hf 1 (by decide +kernel) (bW (ae oz ah)));apply ai;exact(bV eJ rfl (bI (bA lC (cG hc) T.z_sorted ig (ae (aj hc 0) ah))) (gk hc e9.nd hf 2 (by decide +kernel)) (by apply ai;exact(aE hc e9.nd hf 3 (by decide +kernel) (bW ah));apply ai;exact(bV eJ rfl (bI (aj hc 1)) (gk hc e9.nd hf 4 (by decide +kernel)) (by apply ai;exact(cA (fL j5 lP lQ cQ (aj hc 3) (ae (aC uA (hr.mono (by omega)) (cG hc) T.t9 T.n8.kp T.uv .nil aY (ae (aj hc 4) (ae (aj hc 2) (ae bY ah)))) ah)));exact ak (cA (fL j5 lP lQ cQ (aj hc 3) (ae (aC uA (hr.mono (by omega)) (cG hc) T.t9 T.n8.kp T.uv .nil aY (ae (aj hc 4) (ae (aj hc 2) (ae bY ah)))) ah)))));exact ak (aE hc e9.nd hf 1 (by decide +kernel) (aj hc 3))));exact ak (aF (aj hc 1))),?_⟩
 walk_at "r"
 intro d hd
 refine⟨by decide,λR hR=>?_⟩
 have s1:bf H (upd H d (.dK [])):=av hd _
 have s2:bf H (upd (upd H d (.dK [])) R (.lst [.ref d])):=s1.trans (av hR _)
 walk_at "r"
 refine⟨ss,s2 _ _ ha,by lia,λts hp hs TS hTS=>?_⟩
 have s3:=s2.trans (av hTS (.lst (List.map V.str ts)))
 have hRT:R≠TS:=ay ag hTS
 have hdR:d≠R:=ay ag hR
 have hdT:d≠TS:=ay (by rw[au hdR,ag]) hTS
 have ndt:ts.Nodup:=hp.nodup_iff.mpr nd
 have lt6:ts.length<=6:=by have:=hp.length_eq;lia
 refine⟨⟨_,aP ag⟩,?_⟩
 obtain⟨Pv,cx⟩:∃Pv:Nat->St->Hp->Prop,∀i σ' H',Pv i σ' H'↔∃(R:Addr) (as:List Addr) (x y z:Option V),σ'=[some (.ref a),some (.ref R),x,y,z]/\bf H H'/\H R=none/\H' R=some (.lst (List.map V.ref as))/\H' TS=some (.lst (List.map V.str ts))/\as.length=2 ^ i/\Rows H H' as (ts.take i):=⟨_,λ_ _ _=>cp⟩
 refine bO (xs:=List.map V.str ts) Pv ((cx _ _ _).mpr ⟨R,[d],none,none,none,rfl,s3,s1.free hR,by rw[au hRT,ag];rfl,ag,rfl,λk b e=>?_⟩) (λi σ' H' _ pv=>?_) (λi x σ' H1 hx pv=>?_) (λσ' H1 pv=>?_)
 ·have hk:k=0:=by
   cases k with
   | zero=>rfl
   | succ n=>simp at e
  subst hk
  cases e
  exact⟨hd,[],by rw[au hdT,au hdR,ag],Row.nil⟩
 ·obtain⟨_,_,_,_,_,_,_,_,_,h,_⟩:=(cx _ _ _).mp pv
  exact h
 ·obtain⟨R,as,x1,x2,x3,rfl,s4,hR0,Fz,hT4,Ii,rows⟩:=(cx _ _ _).mp pv
  rw[cR]at hx
  obtain⟨n,en,rfl⟩:∃n,ts[i]?=some n/\V.str n=x:=by
   cases e:ts[i]? with
   | none=>rw[e]at hx;cases hx
   | some n=>rw[e]at hx;exact⟨n,rfl,cv hx⟩
  have hil:i<ts.length:=(cy.mp en).1
  have et:ts.take (i+1)=ts.take i++[n]:=by rw[pG,en];rfl
  have hni:n∉ts.take i:=λhm=>by
   have:=ndt.sublist (Ge (i+1) ts)
   rw[et,qm]at this
   exact this.2.2 n hm n (by simp) rfl
  walk_at "r"
  refine⟨by decide,λL hL=>?_⟩
  have s5:=s4.trans (av hL (.lst []))
  have Qz:R≠L:=ay Fz hL
  have hTL:TS≠L:=ay hT4 hL
  have Uy:H L=none:=s4.free hL
  walk_at "r"
  refine⟨⟨List.map V.ref as,aP (by rw[au Qz];exact Fz)⟩,?_⟩
  obtain⟨Pw,u6⟩:∃Pw:Nat->St->Hp->Prop,∀k σ' H',Pw k σ' H'↔∃(bs:List Addr) (z:Option V),σ'=[some (.ref a),some (.ref R),some (.str n),some (.ref L),z]/\bf H H'/\H' R=some (.lst (List.map V.ref as))/\H' TS=some (.lst (List.map V.str ts))/\H' L=some (.lst (List.map V.ref bs))/\bs.length=2*k/\Rows H H' as (ts.take i)/\Rows H H' bs (ts.take (i+1)):=⟨_,λ_ _ _=>cp⟩
  have aFY:as.length<=64:=by
   rw[Ii]
   exact df (qo (by decide) (show i<=6 by lia)) (by decide)
  refine bO (xs:=List.map V.ref as) Pw ((u6 _ _ _).mpr ⟨[],x3,rfl,s5,by rw[au Qz];exact Fz,by rw[au hTL];exact hT4,ag,rfl,rows.mono λb kvs e=>by rw[au (ay e hL)];exact e,λk b e=>by simp at e⟩) (λk σ' H' _ pv=>?_) (λk x σ' H2 hx pv=>?_) (λσ' H2 pv=>?_)
  ·obtain⟨_,_,_,_,h,_⟩:=(u6 _ _ _).mp pv
   exact h
  ·obtain⟨bs,z,rfl,s6,VH,hT6,Ij,J6,ra,rb⟩:=(u6 _ _ _).mp pv
   rw[cR]at hx
   obtain⟨f,ef,rfl⟩:∃f,as[k]?=some f/\V.ref f=x:=by
    cases e:as[k]? with
    | none=>rw[e]at hx;cases hx
    | some f=>rw[e]at hx;exact⟨f,rfl,cv hx⟩
   have hkl:k<as.length:=(cy.mp ef).1
   obtain⟨hf0,kvs,hf6,rf⟩:=ra k f ef
   have lkv:kvs.length<=6:=by rw[rf.len,cz];lia
   have hfL:f≠L:=fE hf6 Ij (by intro z;cases z)
   repeat (first | walk_at "rl" | simp only[Ij])
   refine⟨.inl ⟨rfl,_,aP Ij⟩,f,n,false,rfl,kvs,hf6,by lia,λp BV=>?_⟩
   have XT:L≠p:=ay Ij BV
   have Y6:R≠p:=ay VH BV
   have hpT:TS≠p:=ay hT6 BV
   have hpf:f≠p:=ay hf6 BV
   repeat (first | walk_at "rl" | simp only[au XT,Ij])
   refine⟨aL (by rw[J6];lia),?_⟩
   walk_at "r"
   refine⟨.inl ⟨rfl,_,aP ag⟩,f,n,true,rfl,kvs,by rw[au hfL,au hpf];exact hf6,by lia,λp2 J2=>?_⟩
   have aAI:L≠p2:=ay ag J2
   have aD4:p≠p2:=ay (H:=upd (upd H2 p _) L _) (by rw[au XT.symm,ag]) J2
   repeat (first | walk_at "rl" | simp only[au aAI])
   refine⟨by rw[cw,aM,ja,J6];exact aL (by lia),(u6 _ _ _).mpr ⟨bs++[p]++[p2],_,rfl,?_⟩⟩
   have hpn:H p=none:=s6.free BV
   have sa:bf H (upd (upd H2 p (.dK (putK kvs (Sum.inr n) (.bl false)))) L (.lst (List.map V.ref bs++[V.ref p]))):=qI (qI s6 hpn) Uy
   have aAH:H p2=none:=sa.free J2
   have aD6:R≠p2:=ay (H:=upd (upd H2 p _) L _) (by rw[au Qz,au Y6];exact VH) J2
   have aD5:TS≠p2:=ay (H:=upd (upd H2 p _) L _) (by rw[au hTL,au hpT];exact hT6) J2
   have kd:∀b kv,H2 b=some (.dK kv)->(upd (upd (upd (upd H2 p (.dK (putK kvs (Sum.inr n) (.bl false)))) L (.lst (List.map V.ref bs++[V.ref p]))) p2 (.dK (putK kvs (Sum.inr n) (.bl true)))) L (.lst (List.map V.ref bs++[V.ref p]++[V.ref p2]))) b=some (.dK kv):=λb kv e=>by
    have n1:b≠p:=ay e BV
    have n2:b≠L:=fE e Ij (by intro z;cases z)
    have n3:b≠p2:=ay (H:=upd (upd H2 p _) L _) (by rw[au n2,au n1];exact e) J2
    rw[au n2,au n3,au n2,au n1];exact e
   refine⟨qI (qI sa aAH) Uy,by rw[au Qz,au aD6,au Qz,au Y6];exact VH,by rw[au hTL,au aD5,au hTL,au hpT];exact hT6,by rw[ag,bP,bP];rfl,by simp[J6];lia,ra.mono kd,?_⟩
   have r0:=rf.step (t:=n) hni false
   have r1:=rf.step (t:=n) hni true
   rw[<-et]at r0 r1
   have q1:=(rb.mono kd).snoc (p:=p) hpn (by rw[au XT.symm,au aD4,au XT.symm,ag]) (by rw[J6];exact r0)
   exact q1.snoc (p:=p2) aAH (by rw[au aAI.symm,ag]) (by rw[cw,ja,J6];exact r1)
  ·obtain⟨bs,z,rfl,s6,VH,hT6,Ij,J6,ra,rb⟩:=(u6 _ _ _).mp pv
   walk_at "r"
   refine(cx _ _ _).mpr ⟨L,bs,_,_,_,rfl,s6,Uy,Ij,hT6,?_,rb⟩
   rw[J6,aM,Ii,pA,vv]
 ·obtain⟨R,as,x1,x2,x3,rfl,s4,hR0,Fz,hT4,Ii,rows⟩:=(cx _ _ _).mp pv
  walk_at "r"
  rw[aM,fu]at rows
  rw[aM]at Ii
  exact q R as ts H1 s4 hR0 Fz hp hs Ii rows
end
local macro_rules | `(tactic| walk_at "rd") => `(tactic| walk_at "rc")
local macro_rules | `(tactic| walk_at "rl") => `(tactic| first | (refine cT fun R hR => ?_) | walk_at "ry" | (refine Nx.to (by assumption) _ _ ?_))
def N1(d:Nat):Sp:=λvs H Q _=>∃p f,vs=[.ref p,.ref f]/\∃r,iF H r p/\r.deep<=d/\∃kvs,H f=some (.dK kvs)/\Fact kvs r.names/\Q (.bl (r.val (gq kvs))) H
section
variable {P:Program}{w:World}{K:PySem.W.Frag}{mg:Str->Option Value}{base:Heap}{t:tN}
theorem sr(T:Txt K mg t):∀d:Nat,cE P w K mg base g6 (d+1) t.lH t.lB ["_law_rule_here","_law_facts"] (N1 d)
 | 0=>T.ft.lT (k:=0) fD (λvs H Q E h=>by obtain⟨p,f,rfl,_⟩:=h;rfl) (λdz A outer s H vs Q E hr h hc hf=>by obtain⟨p,f,rfl,r,_,h1,_⟩:=h;have:=r.pos;lia)
 | d+1=>by
  have fq:=sr T d
  refine T.ft.lT (k:=d+1) fD (λvs H Q E h=>?_) (λdz A outer s H vs Q E hr h hc hf=>?_)
  ·obtain⟨p,f,rfl,_⟩:=h;rfl
  obtain⟨p,f,rfl,r,ra,hd,kvs,hF,fa,q⟩:=h
  have hu:=fF hr
  have Bn:=hr.dI
  obtain⟨n1,n2,n3,n4,n5,n6⟩:=DK
  refine⟨_,(by apply ai;exact(aE hc fD.nd hf 2 (by decide +kernel) (bj lX (aj hc 0) aq (λ_ _=>rfl)));apply ai;exact(bh (oW (vL (aG cV (aj hc 2) bG (aX _)) (qt (aG cV (aj hc 2) bG (aX _))))) (by exact ak (aF (hV cV (aj hc 2) bG (aX _)))) aN);apply ai;exact(bh (aG cV (aj hc 2) bG (aX _)) (by exact ak (aF (jf hu (aj hc 1) (bj lX (aj hc 0) aq (λ_ _=>rfl)) (λ_ _=>rfl)))) aN);apply ai;exact(aE hc fD.nd hf 3 (by decide +kernel) (aC fq (hr.mono (by omega)) (cG hc) T.iO T.ft.kp T.iS .nil aY (ae (bj lX (aj hc 0) aq (λ_ _=>rfl)) (ae (aj hc 1) ah))));apply ai;exact(bh (aG cV (aj hc 2) bG (aX _)) (by exact ak (aF (oy (aj hc 3)))) aN);apply ai;exact(aE hc fD.nd hf 4 (by decide +kernel) (aC fq (hr.mono (by omega)) (cG hc) T.iO T.ft.kp T.iS .nil aY (ae (bj lX (aj hc 0) aq (λ_ _=>rfl)) (ae (aj hc 1) ah))));apply ai;exact(bh (aG cV (aj hc 2) bG (aX _)) (by exact ak (aF (Jf (aj hc 3) (ow (aj hc 4))))) aN);apply ai;exact(bh (aG cV (aj hc 2) bG (aX _)) (by exact ak (aF (zM (aj hc 3) (ow (aj hc 4))))) aN);apply ai;exact(bh (aG cV (aj hc 2) bG (aX _)) (by exact ak (aF (zM (oy (aj hc 3)) (ow (aj hc 4))))) aN);exact ak (aF (hV cV (aj hc 3) (aj hc 4) (aX _)))),?_⟩
  match r,ra,q with
  | .yes,ra,q=>
   have hp:H p=some (.tup [.str (Str.ofString "yes")]):=ra
   repeat (first | walk_at "rl" | simp only[hp])
   simpa [Rl.val]using q
  | .no,ra,q=>
   have hp:H p=some (.tup [.str (Str.ofString "no")]):=ra
   repeat (first | walk_at "rl" | simp only[hp,n1,bU])
   simpa [Rl.val]using q
  | .var x,ra,q=>
   have hp:H p=some (.tup [.str (Str.ofString "is"),.str x]):=ra
   obtain⟨b,hb⟩:=fa x di
   repeat (first | walk_at "rl" | simp only[hp,n2,n3,bU,j7])
   refine⟨.bl b,(by have:=oo.k (k:=Sum.inr x) hF;rw[hb]at this;exact this),?_⟩
   have e:(Rl.var x).val (gq kvs)=b:=iR hb
   rw[e]at q;exact q
  | .neg a,ra,q=>
   obtain⟨q1,hp,Wy⟩:=ra
   have d1:a.deep+1<=d+1:=hd
   repeat (first | walk_at "rl" | simp only[hp,n4,n5,n6,bU])
   refine⟨q1,f,rfl,a,Wy,by lia,kvs,hF,fa,?_⟩
   repeat (first | walk_at "rl" | simp only[hp,n4,n5,n6,bU])
   exact q
  | .two k a b,ra,q=>
   obtain⟨hk,q1,q2,hp,Wy,ra2⟩:=ra
   obtain⟨m1,m2,m3,m4⟩:=V5 k hk
   have d1:max a.deep b.deep+1<=d+1:=hd
   repeat (first | walk_at "rl" | simp only[hp,m1,m2,m3,m4,bU])
   refine⟨q1,f,rfl,a,Wy,by lia,kvs,hF,fa.left,?_⟩
   repeat (first | walk_at "rl" | simp only[hp,m1,m2,m3,m4,bU])
   refine⟨q2,f,rfl,b,ra2,by lia,kvs,hF,fa.right,?_⟩
   have q':Q (.bl (GL k (a.val (gq kvs)) (b.val (gq kvs)))) H:=q
   generalize a.val (gq kvs)=va at q' ⊢
   generalize b.val (gq kvs)=vb at q' ⊢
   repeat (first | walk_at "rl" | simp only[hp,m1,m2,m3,m4,bU])
   unfold GL at q'
   split
   ·rename_i h;rw[aB h]at q';cases va <;> exact q'
   ·rename_i h1;rw[aA h1]at q'
    walk_at "r"
    split
    ·rename_i h;rw[aB h]at q';cases va <;> exact q'
    ·rename_i h2;rw[aA h2]at q'
     walk_at "r"
     split
     ·rename_i h;rw[aB h]at q';cases va <;> exact q'
     ·walk_at "r"
      rename_i h3;rw[aA h3]at q';cases va <;> cases vb <;> exact q'
end
def Sf:Sp:=λvs H Q _=>∃N,vs=[.ref N]/\∃ts:List Str,H N=some (.lst (List.map V.str ts))/\ts.length<=8/\ts.Nodup/\
 ∀R as H',bf H H'->H R=none->H' R=some (.lst (List.map V.ref as))->as.length=2 ^ ts.length->Rows H H' as ts->Q (.ref R) H'
section
variable {P:Program}{w:World}{K:PySem.W.Frag}{mg:Str->Option Value}{base:Heap}{t:tN}
theorem Pn(T:Txt K mg t):cE P w K mg base g6 1 t.gW t.gR ["_law_names_here"] Sf:=by
 refine T.kE.lT bN (λvs H Q E h=>?_) (λdz A outer s H vs Q E hr h hc hf=>?_)
 ·obtain⟨N,rfl,_⟩:=h;rfl
 obtain⟨N,rfl,ts,hN,l8,nd,q⟩:=h
 have hu:=fF hr
 have Bn:=hr.dI
 refine⟨_,(by apply ai;exact(aE hc bN.nd hf 1 (by decide +kernel) (bW (ae oz ah)));apply ai;exact(bV eJ rfl (bI (aj hc 0)) (gk hc bN.nd hf 2 (by decide +kernel)) (by apply ai;exact(aE hc bN.nd hf 3 (by decide +kernel) (bW ah));apply ai;exact(bV eJ rfl (bI (aj hc 1)) (gk hc bN.nd hf 4 (by decide +kernel)) (by exact ak (bV eJ rfl (gY (bF (ae bY (ae bY ah)))) (gk hc bN.nd hf 5 (by decide +kernel)) (by apply ai;exact(aE hc bN.nd hf 6 (by decide +kernel) (dA ur (cG hc) T.z_dict Ri (ae (aj hc 4) ah)));apply ai;exact(vM hu (aj hc 6) (aj hc 2) (aj hc 5) rfl);exact ak (cA (fL j5 lP lQ cQ (aj hc 3) (ae (aj hc 6) ah)))))));exact ak (aE hc bN.nd hf 1 (by decide +kernel) (aj hc 3))));exact ak (aF (aj hc 1))),?_⟩
 walk_at "r"
 intro d hd
 refine⟨by decide,λR hR=>?_⟩
 have s1:bf H (upd H d (.dK [])):=av hd _
 have s2:bf H (upd (upd H d (.dK [])) R (.lst [.ref d])):=s1.trans (av hR _)
 have hdR:d≠R:=ay ag hR
 walk_at "r"
 refine⟨⟨_,aP (s2 _ _ hN)⟩,?_⟩
 obtain⟨Pv,cx⟩:∃Pv:Nat->St->Hp->Prop,∀i σ' H',Pv i σ' H'↔∃(R:Addr) (as:List Addr) (x1 x2 x3 x4 x5:Option V),σ'=[some (.ref N),some (.ref R),x1,x2,x3,x4,x5]/\bf H H'/\H R=none/\H' R=some (.lst (List.map V.ref as))/\as.length=2 ^ i/\Rows H H' as (ts.take i):=⟨_,λ_ _ _=>cp⟩
 refine bO (xs:=List.map V.str ts) Pv ((cx _ _ _).mpr ⟨R,[d],none,none,none,none,none,rfl,s2,s1.free hR,ag,rfl,λk b e=>?_⟩) (λi σ' H' _ pv=>?_) (λi x σ' H1 hx pv=>?_) (λσ' H1 pv=>?_)
 ·have hk:k=0:=by
   cases k with
   | zero=>rfl
   | succ n=>simp at e
  subst hk
  cases e
  exact⟨hd,[],by rw[au hdR,ag],Row.nil⟩
 ·obtain⟨_,_,_,_,_,_,_,_,s,_⟩:=(cx _ _ _).mp pv
  exact s _ _ hN
 ·obtain⟨R,as,x1,x2,x3,x4,x5,rfl,s4,hR0,Fz,Ii,rows⟩:=(cx _ _ _).mp pv
  obtain⟨n,en,rfl⟩:=vU hx
  have hil:i<ts.length:=(cy.mp en).1
  have et:ts.take (i+1)=ts.take i++[n]:=by rw[pG,en];rfl
  have hni:n∉ts.take i:=λhm=>by
   have:=nd.sublist (Ge (i+1) ts)
   rw[et,qm]at this
   exact this.2.2 n hm n (by simp) rfl
  have aFZ:as.length<=128:=by
   rw[Ii]
   exact df (qo (by decide) (show i<=7 by lia)) (by decide)
  repeat (first | walk_at "rl" | simp only[Fz])
  refine⟨by decide,λL hL=>?_⟩
  have Qz:R≠L:=ay Fz hL
  have Uy:H L=none:=s4.free hL
  have s5:=s4.trans (av hL (.lst []))
  walk_at "r"
  refine⟨⟨_,aP (by rw[au Qz];exact Fz)⟩,?_⟩
  obtain⟨Pw,u6⟩:∃Pw:Nat->St->Hp->Prop,∀k σ' H',Pw k σ' H'↔∃(bs:List Addr) (x3 x4 x5:Option V),σ'=[some (.ref N),some (.ref R),some (.str n),some (.ref L),x3,x4,x5]/\bf H H'/\H' R=some (.lst (List.map V.ref as))/\H' L=some (.lst (List.map V.ref bs))/\bs.length=2*k/\Rows H H' as (ts.take i)/\Rows H H' bs (ts.take (i+1)):=⟨_,λ_ _ _=>cp⟩
  refine bO (xs:=List.map V.ref as) Pw ((u6 _ _ _).mpr ⟨[],x3,x4,x5,rfl,s5,by rw[au Qz];exact Fz,ag,rfl,rows.mono λb kvs e=>by rw[au (ay e hL)];exact e,λk b e=>by simp at e⟩) (λk σ' H' _ pv=>?_) (λk z σ' H2 hz pv=>?_) (λσ' H2 pv=>?_)
  ·obtain⟨_,_,_,_,_,_,h,_⟩:=(u6 _ _ _).mp pv
   exact h
  ·obtain⟨bs,y3,y4,y5,rfl,s6,VH,Ij,J6,oa,ob⟩:=(u6 _ _ _).mp pv
   obtain⟨a0,ea,rfl⟩:=dB hz
   have aFW:k<as.length:=(cy.mp ea).1
   obtain⟨_,kv0,h0,f0⟩:=oa k a0 ea
   repeat (first | walk_at "rl" | simp only[Fz])
   refine⟨by decide,λC hC=>?_⟩
   have s7:=s6.trans (av hC (.tup [V.bl false,V.bl true]))
   have hLC:L≠C:=ay Ij hC
   have hRC:R≠C:=ay VH hC
   refine⟨⟨_,bC ag⟩,?_⟩
   obtain⟨Pu,hPu⟩:∃Pu:Nat->St->Hp->Prop,∀j σ' H',Pu j σ' H'↔∃(cs:List Addr) (x4 x5:Option V),σ'=[some (.ref N),some (.ref R),some (.str n),some (.ref L),some (.ref a0),x4,x5]/\bf H H'/\H' R=some (.lst (List.map V.ref as))/\H' C=some (.tup [V.bl false,V.bl true])/\H' L=some (.lst (List.map V.ref cs))/\cs.length=2*k+j/\Rows H H' as (ts.take i)/\Rows H H' cs (ts.take (i+1)):=⟨_,λ_ _ _=>cp⟩
   refine gO (xs:=[V.bl false,V.bl true]) Pu ((hPu _ _ _).mpr ⟨bs,y4,y5,rfl,s7,by rw[au hRC];exact VH,ag,by rw[au hLC];exact Ij,J6,oa.mono λb kvs e=>by rw[au (ay e hC)];exact e,ob.mono λb kvs e=>by rw[au (ay e hC)];exact e⟩) (λj σ' H' _ pv=>?_) (λj z σ' H3 hz pv=>?_) (λσ' H3 pv=>?_)
   ·obtain⟨_,_,_,_,_,_,h,_⟩:=(hPu _ _ _).mp pv
    exact h
   ·obtain⟨cs,z4,z5,rfl,s8,hR8,hC8,Yh,qW,oa8,oc8⟩:=(hPu _ _ _).mp pv
    have hj:j<2:=(cy.mp hz).1
    obtain⟨c,rfl,hcj⟩:∃c,z=V.bl c/\j=if c=true then 1 else 0:=by
     match j,hz with
     | 0,hz=>exact⟨false,(cv hz).symm,rfl⟩
     | 1,hz=>exact⟨true,(cv hz).symm,rfl⟩
    obtain⟨_,kv8,h8,f8⟩:=oa8 k a0 ea
    have l8':=f8.len
    rw[cz]at l8'
    repeat (first | walk_at "rl" | simp only[h8,Yh,yh])
    intro D hD
    have hDL:L≠D:=ay Yh hD
    repeat (first | walk_at "rl" | simp only[yh])
    refine⟨_,Fq.k (k:=Sum.inr n) ag (aL (by lia)),?_⟩
    repeat (first | walk_at "rl" | simp only[au hDL,Yh])
    have keep:∀b kvs,H3 b=some (.dK kvs)->upd (upd H3 D (.dK (putK kv8 (Sum.inr n) (.bl c)))) L (.lst (List.map V.ref cs++[V.ref D])) b=some (.dK kvs):=λb kvs e=>by rw[au (fE e Yh (by intro z;cases z)),au (ay e hD)];exact e
    refine⟨.inl ⟨rfl,_,aP (by rw[au hDL];exact Yh)⟩,aL (by lia),(hPu _ _ _).mpr ⟨cs++[D],_,_,rfl,?_,?_,?_,by rw[ag,bP];rfl,by simp[qW];lia,oa8.mono keep,(oc8.mono keep).snoc (s8.free hD) (by rw[au hDL.symm,ag]) ?_⟩⟩
    ·exact bp (bp s8 (s8.free hD)) Uy
    ·rw[au Qz,au (ay hR8 hD)];exact hR8
    ·rw[au hLC.symm,au (ay hC8 hD)];exact hC8
    ·rw[et,qW,hcj];exact f8.step hni c
   ·obtain⟨cs,z4,z5,rfl,s8,hR8,hC8,Yh,qW,oa8,oc8⟩:=(hPu _ _ _).mp pv
    walk_at "r"
    exact(u6 _ _ _).mpr ⟨cs,_,_,_,rfl,s8,hR8,Yh,by simp at qW;lia,oa8,oc8⟩
  ·obtain⟨bs,y3,y4,y5,rfl,s6,VH,Ij,J6,oa,ob⟩:=(u6 _ _ _).mp pv
   walk_at "r"
   refine(cx _ _ _).mpr ⟨L,bs,_,_,_,_,_,rfl,s6,Uy,Ij,?_,ob⟩
   rw[J6,aM,Ii,pA,vv]
 ·obtain⟨R,as,x1,x2,x3,x4,x5,rfl,s4,hR0,Fz,Ii,rows⟩:=(cx _ _ _).mp pv
  walk_at "r"
  rw[aM]at Ii rows
  rw[fu]at rows
  exact q R as H1 s4 hR0 Fz Ii rows
end
local macro_rules | `(tactic| walk_at "rd") => `(tactic| walk_at "rc")
local macro_rules | `(tactic| walk_at "rl") => `(tactic| first | (refine cT fun R hR => ?_) | walk_at "ry" | (refine Nx.to (by assumption) _ _ ?_))
theorem take_one{α:Type}{l:List α}{i:Nat}{x:α}(h:l[i]?=some x):l.take (i+1)=l.take i++[x]:=by rw[pG,h];rfl
def Cd(ns:List Str):Prop:=ns.Pairwise λa b=>a.cps.toList<b.cps.toList
theorem HS{ts:List Str}(h:PyProof.Rows.sortedS ts=true)(nd:ts.Nodup):Cd ts:=
 (List.Pairwise.and (Ha h) nd).imp λ{a b} ⟨h1,h2⟩=>Decidable.byContradiction λh3=>h2 (uR (FK h1 (rC.mp h3)))
theorem kf{ts:List Str}(h:Cd ts):ts.Nodup:=h.imp λ{a b} h1 h2=>by rw[h2]at h1;exact lK _ h1
def One(ls:Cl):Prop:=∀x∈ls,∀y∈ls,x.1=y.1->x.2=y.2
def Ft(ls cl:Cl):Prop:=Cd (cl.map (·.1))/\∀x,x∈cl↔x∈ls
theorem Dk{α:Type} [DecidableEq α]:∀{l m:List α},l.Nodup->m.Nodup->(∀z,z∈l↔z∈m)->l.Perm m
 | [],m,_,_,h=>by
  cases m with
  | nil=>exact .refl _
  | cons x m=>exact absurd ((h x).mpr di) (by simp)
 | x::l,m,hl,hm,h=>by
  have hx:x∈m:=(h x).mp di
  have h1:=Dk (l:=l) (m:=m.erase x) (oR.mp hl).2 (hm.erase x) λz=>by
   rw[hm.mem_erase_iff]
   constructor
   ·intro hz
    exact⟨λe=>(oR.mp hl).1 (by rw[<-e];exact hz),(h z).mp (fw _ hz)⟩
   ·rintro⟨n,hz⟩
    rcases dR.mp ((h z).mpr hz) with e | e
    ·exact absurd e n
    ·exact e
  exact(h1.cons x).trans (List.perm_cons_erase hx).symm
theorem sP{cl:Cl}(h:Cd (cl.map (·.1))):cl.Pairwise λx y=>x.1.cps.toList<y.1.cps.toList:=(Gb (f:=λx:Str×Bool=>x.1) (R:=λa b:Str=>a.cps.toList<b.cps.toList)).mp h
theorem t7{cl:Cl}(h:Cd (cl.map (·.1))):cl.Nodup:=(sP h).imp λ{a b} h1 h2=>by rw[h2]at h1;exact lK _ h1
theorem Ft.same{ls cl dl:Cl}(a:Ft ls cl)(b:Ft ls dl):cl=dl:=
 List.Perm.eq_of_pairwise (le:=λx y:Str×Bool=>x.1.cps.toList<y.1.cps.toList) (λx y _ _ h h'=>absurd (rK h h') (lK _)) (sP a.1) (sP b.1) (Dk (t7 a.1) (t7 b.1) λz=>(a.2 z).trans (b.2 z).symm)
theorem NB{H:Hp}{p:Addr}{o:HO}(h:H p=none):lI H (upd H p o):=aD (av h o)
theorem hX{H:Hp}{p:Addr}{o:HO}{xs:List V}(h:H p=some (.lst xs)):lI H (upd H p o):=λq ys e=>by rw[au (fE e h (by intro z;cases z))];exact e
theorem lI.trans{H H1 H2:Hp}(a:lI H H1)(b:lI H1 H2):lI H H2:=λq xs e=>b q xs (a q xs e)
theorem dU{α:Type}{l:List α}{i:Nat}{x:α}(h:l[i]?=some x):l.take (i+1)=l.take i++[x]:=by rw[pG,h];rfl
theorem Rl.val_congr{e e':Str->Bool}:∀{r:Rl},(∀x∈r.names,e x=e' x)->r.val e=r.val e'
 | .yes,_=>rfl
 | .no,_=>rfl
 | .var x,h=>h x di
 | .neg a,h=>by
  have:a.val e=a.val e':=Rl.val_congr (r:=a) h
  show(!a.val e) = !a.val e'
  rw[this]
 | .two k a b,h=>by
  have h1:a.val e=a.val e':=Rl.val_congr (r:=a) λx hx=>h x (j4 _ hx)
  have h2:b.val e=b.val e':=Rl.val_congr (r:=b) λx hx=>h x (iI _ hx)
  show GL k (a.val e) (b.val e)=GL k (a.val e') (b.val e')
  rw[h1,h2]
theorem Js:∀(ts:List Str) (e:Str->Bool),∃k,k<2 ^ ts.length/\∀(j:Nat) s,ts[j]?=some s->decide (k / 2 ^ (ts.length-1-j)%2=1)=e s
 | [],e=>⟨0,by decide,λj s h=>by simp at h⟩
 | t::ts,e=>by
  obtain⟨k,hk,h⟩:=Js ts e
  refine⟨(if e t=true then 1 else 0)*2 ^ ts.length+k,?_,λj s hs=>?_⟩
  ·rw[gb,pA]
   split <;> lia
  ·rw[gb]
   cases j with
   | zero=>
    cases hs
    have e1:ts.length+1-1-0=ts.length:=by lia
    rw[e1,vv,Nat.mul_add_div (Nat.pow_pos (by decide)),Nat.div_eq_of_lt hk,Nat.add_zero]
    cases z:e t <;> simp
   | succ j=>
    rw[zJ]at hs
    have hj:j<ts.length:=(cy.mp hs).1
    rw[<-h j s hs]
    have e1:ts.length+1-1-(j+1)=ts.length-1-j:=by lia
    obtain⟨m,hm⟩:∃m,m=ts.length-1-j:=⟨_,rfl⟩
    have e2:ts.length=m+1+j:=by lia
    rw[e1,<-hm]
    have e3:2 ^ ts.length=2 ^ m*(2*2 ^ j):=by rw[e2,Nat.pow_add,pA,Nat.mul_assoc]
    have e4:(if e t=true then 1 else 0)*2 ^ ts.length+k=2 ^ m*(2*((if e t=true then 1 else 0)*2 ^ j))+k:=by
     rw[e3]
     congr 1
     split <;> simp
    rw[e4,Nat.mul_add_div (Nat.pow_pos (by decide)),Nat.mul_add_mod]
structure FX(kvs:List (Key×V))(ns:List Str):Prop where
 fact:Fact kvs ns
 out:∀s,s∉ns->cB kvs (Sum.inr s)=none
theorem Row.fx{ts:List Str}{k:Nat}{kvs:List (Key×V)}(r:Row ts k kvs):FX kvs ts:=⟨λx hx=>by
 obtain⟨j,hj⟩:=vF hx
 exact⟨_,r.2 j x hj⟩,λs hs=>qx (by
 rw[r.1]
 intro h
 obtain⟨y,hy,e⟩:=bH.mp h
 exact hs (by rw[<-rD e];exact hy))⟩
theorem FX.sub{kvs:List (Key×V)}{ns ms:List Str}(h:FX kvs ns)(e:∀z,z∈ns↔z∈ms):FX kvs ms:=⟨λx hx=>h.fact x ((e x).mpr hx),λs hs=>h.out s λz=>hs ((e s).mp z)⟩
theorem Rows.any{H0 H:Hp}{as:List Addr}{ts:List Str}(r:Rows H0 H as ts)(hl:as.length=2 ^ ts.length)(e:Str->Bool):∃b∈as,∃kvs,H b=some (.dK kvs)/\FX kvs ts/\∀x∈ts,gq kvs x=e x:=by
 obtain⟨k,hk,h⟩:=Js ts e
 rw[<-hl]at hk
 have eb:as[k]?=some as[k]:=bD hk
 obtain⟨_,kvs,hb,row⟩:=r k _ eb
 refine⟨_,dE eb,kvs,hb,row.fx,λx hx=>?_⟩
 obtain⟨j,hj⟩:=vF hx
 rw[iR (row.2 j x hj)]
 exact h j x hj
local macro_rules | `(tactic| walk_at "rd") => `(tactic| walk_at "rc")
local macro_rules | `(tactic| walk_at "rl") => `(tactic| first | (refine cT fun R hR => ?_) | walk_at "ry" | (refine Nx.to (by assumption) _ _ ?_))
def Few(r:Rl):Prop:=∃us:List Str,us.length<=6/\∀z∈r.names,z∈us
def ZJ:Sp:=λvs H Q _=>∃p,vs=[.ref p]/\∃r,iF H r p/\r.deep<=6/\Few r/\
 ∀L bs H',bf H H'->H L=none->H' L=some (.lst (List.map V.ref bs))->bs.length<=64->(∀b∈bs,∃kvs,H' b=some (.dK kvs)/\FX kvs r.names/\r.val (gq kvs)=true)->
  (∀e:Str->Bool,r.val e=true->∃b∈bs,∃kvs,H' b=some (.dK kvs)/\∀x∈r.names,gq kvs x=e x)->Q (.ref L) H'
section
variable {P:Program}{w:World}{K:PySem.W.Frag}{mg:Str->Option Value}{base:Heap}{t:tN}
theorem Pp(T:Txt K mg t):cE P w K mg base g6 9 t.nM t.ni ["rule"] ZJ:=by
 have qb:=t8 (P:=P) (w:=w) (base:=base) T
 have Fl:=Pr (P:=P) (w:=w) (base:=base) T
 have jv:=Dq (P:=P) (w:=w) (base:=base) T 6
 refine T.oj.lT Ac (λvs H Q E h=>?_) (λdz A outer s H vs Q E hr h hc hf=>?_)
 ·obtain⟨p,rfl,_⟩:=h;rfl
 obtain⟨p,rfl,r,ra,h6,⟨us,YZ,sub⟩,q⟩:=h
 have hu:=fF hr
 have Bn:=hr.dI
 refine⟨_,(by exact ak (aF (bX hc ["facts"] [0] rfl (by decide +kernel) (bI (aC Fl (hr.mono (by omega)) (cG hc) T.DS T.uC.kp T.Fb .nil aY (ae (aC qb (hr.mono (by omega)) (cG hc) T.wz T.qf.kp T.wQ .nil aY (ae (aj hc 0) ah)) ah))) (λ_ hc=>kJ hc (by decide +kernel) 0 (by decide +kernel)) (λ_ hc=>fO (iL (aC jv (hr.mono (by omega)) (cG hc) T.kZ T.gX.kp T.lE .nil aY (ae (aj hc 1) (ae (aj hc 0) ah))))) (λ_ hc=>(aj hc 0))))),?_⟩
 repeat (walk_at "rd")
 refine⟨p,rfl,r,ra,h6,λF ts H1 s1 hF hF1 mem nd uS=>?_⟩
 have RD:ts.length<=6:=df (cP nd λz hz=>sub z ((mem z).mp hz)) YZ
 refine⟨F,rfl,ts,hF1,RD,nd,λR as ts' H2 s2 hR hR2 pm _ Ii rows=>?_⟩
 have aAv:∀z,z∈ts'↔z∈r.names:=λz=>(pm.mem_iff).trans (mem z)
 have la:as.length<=64:=by
  rw[Ii,pm.length_eq]
  exact df (qo (by decide) RD) (by decide)
 have RB:=s1.trans s2
 repeat (walk_at "rd")
 refine⟨⟨_,aP hR2⟩,?_⟩
 obtain⟨Pc,iu⟩:∃Pc:Addr->Nat->List V->Hp->Prop,∀Z i ys H',Pc Z i ys H'↔∃bs:List Addr,ys=List.map V.ref bs/\bs.length<=i/\bf H2 H'/\H' Z=some (.lst ys)/\(∀b∈bs,∃kvs,H' b=some (.dK kvs)/\FX kvs r.names/\r.val (gq kvs)=true)/\∀(k:Nat) b kvs,k<i->as[k]?=some b->H2 b=some (.dK kvs)->r.val (gq kvs)=true->b∈bs:=⟨_,λ_ _ _ _=>cp⟩
 refine dX (zs:=List.map V.ref as) Pc (λZ hZ=>(iu _ _ _ _).mpr ⟨[],rfl,aU _,av hZ _,ag,(λb hb=>nomatch hb),λk b kvs hk=>absurd hk (rS _)⟩) (λZ hZ i ys H' _ pv=>?_) (λZ hZ i z ys H' hz pv cb=>?_) (λZ hZ ys H' pv=>?_)
 ·obtain⟨_,_,_,s,_⟩:=(iu _ _ _ _).mp pv
  exact s _ _ hR2
 ·obtain⟨bs,rfl,J6,sZ,m8,gd,al⟩:=(iu _ _ _ _).mp pv
  obtain⟨b0,eb,rfl⟩:=dB hz
  have hi:i<as.length:=(cy.mp eb).1
  obtain⟨_,kvs,hb,row⟩:=rows i b0 eb
  have fx:=row.fx.sub aAv
  walk_at "rc"
  repeat (walk_at "rd")
  refine⟨p,b0,rfl,r,ra.mono (aD (RB.trans sZ)),h6,kvs,sZ _ _ hb,fx.fact,?_⟩
  repeat (walk_at "rd")
  split
  ·rename_i hv
   refine⟨m8,aL (by lia),(iu _ _ _ _).mpr ⟨bs++[b0],by simp,by simp;lia,bp sZ hZ,ag,λb Qy=>?_,λk b kv hk ek e XR=>?_⟩⟩
   ·rcases bT.mp Qy with z | z
    ·obtain⟨kv,e,f,v⟩:=gd b z
     exact⟨kv,by rw[au (fE e m8 (by intro z;cases z))];exact e,f,v⟩
    ·rw[bR.mp z]
     exact⟨kvs,by rw[au (ay hb hZ)];exact sZ _ _ hb,fx,hv⟩
   ·by_cases Qt:k<i
    ·exact j4 _ (al k b kv Qt ek e XR)
    ·have:k=i:=by lia
     rw[this,eb]at ek
     rw[<-cv ek]
     simp
  ·rename_i hv
   refine(iu _ _ _ _).mpr ⟨bs,rfl,by lia,sZ,m8,gd,λk b kv hk ek e XR=>?_⟩
   by_cases Qt:k<i
   ·exact al k b kv Qt ek e XR
   ·have:k=i:=by lia
    rw[this,eb]at ek
    rw[<-cv ek,hb]at e
    rw[<-HO.dK.inj (cv e)]at XR
    exact absurd XR hv
 ·obtain⟨bs,rfl,J6,sZ,m8,gd,al⟩:=(iu _ _ _ _).mp pv
  rw[aM]at J6 al
  refine q Z bs H' (RB.trans sZ) (RB.free hZ) m8 (by lia) gd λe he=>?_
  obtain⟨b,hb,kvs,hk,fx,ev⟩:=rows.any Ii e
  obtain⟨k,ek⟩:=vF hb
  have ev':∀x∈r.names,gq kvs x=e x:=λx hx=>ev x ((aAv x).mpr hx)
  exact⟨b,al k b kvs (cy.mp ek).1 ek hk (by rw[<-he];exact Rl.val_congr ev'),kvs,sZ _ _ hk,ev'⟩
end
local macro_rules | `(tactic| walk_at "rd") => `(tactic| walk_at "rc")
local macro_rules | `(tactic| walk_at "rl") => `(tactic| first | (refine cT fun R hR => ?_) | walk_at "ry" | (refine Nx.to (by assumption) _ _ ?_))
def Jk:Sp:=λvs H Q _=>∃L,vs=[.ref L]/\∃bs ts,H L=some (.lst (List.map V.ref bs))/\ClsAt H bs ts/\ts.length<=90000/\
 ∀D H' cs us,bf H H'->H D=none->H' D=some (.lst (List.map V.ref cs))->ClsAt H' cs us->us.Pairwise (λx y=>oP x y=true)->(∀x,x∈us↔x∈ts)->Q (.ref D) H'
theorem len_sub{α:Type} [DecidableEq α]:∀{l m:List α},l.Nodup->(∀x∈l,x∈m)->l.length<=m.length
 | [],_,_,_=>dG _
 | a::l,m,nd,h=>by
  have ha:=h a di
  have h1:=len_sub (l:=l) (m:=m.erase a) (oR.mp nd).2 λx hx=>by
   rw[List.mem_erase_of_ne (λe=>(oR.mp nd).1 (by rw[<-e];exact hx))]
   exact h x (fw _ hx)
  rw[List.length_erase_of_mem ha]at h1
  have:=List.length_pos_of_mem ha
  rw[gb]
  lia
section
variable {P:Program}{w:World}{K:PySem.W.Frag}{mg:Str->Option Value}{base:Heap}{t:tN}
theorem Dt(T:Txt K mg t):cE P w K mg base g6 1 t.p9 t.pY ["one"] yc:=by
 refine T.Jd.lT CG (λvs H Q E h=>?_) (λdz A outer s H vs Q E hr h hc hf=>?_)
 ·obtain⟨a,rfl,_⟩:=h;rfl
 obtain⟨a,rfl,xs,ha,q⟩:=h
 refine⟨_,(by exact ak (aF (bF (ae (bA yN (cG hc) T.z_len rg (ae (aj hc 0) ah)) (ae (aj hc 0) ah))))),?_⟩
 repeat (first | walk_at "rl" | simp only[ha])
 exact⟨by decide,q⟩
theorem TK(T:Txt K mg t):cE P w K mg base g6 4 t.eV t.eT ["tuples"] Jk:=by
 have Jc:=Dt (P:=P) (w:=w) (base:=base) T
 refine T.il.lT eD (λvs H Q E h=>?_) (λdz A outer s H vs Q E hr h hc hf=>?_)
 ·obtain⟨a,rfl,_⟩:=h;rfl
 obtain⟨L,rfl,bs,ts,hL,cat,l9,q⟩:=h
 have hu:=fF hr
 have Bn:=hr.dI
 refine⟨_,(by apply ai;exact(aE hc eD.nd hf 1 (by decide +kernel) xT);apply ai;exact(bV eJ rfl (bI (aj hc 0)) (gk hc eD.nd hf 2 (by decide +kernel)) (by exact ak (xS hr.units (aj hc 1) (aj hc 2) bY rfl)));exact ak (aF (Kt Jc (hr.mono (by omega)) (cG hc) T.z_sorted ig (cG hc) T.Hx T.IW (aj hc 1)))),?_⟩
 walk_at "r"
 intro p hp
 have sp:=av hp (iW P w p [])
 walk_at "r"
 refine⟨⟨_,aP (sp _ _ hL)⟩,?_⟩
 obtain⟨Pv,cx⟩:∃Pv:Nat->St->Hp->Prop,∀i σ' H',Pv i σ' H'↔∃(x:Option V) (ks:List (Cl×Addr)),σ'=[some (.ref L),some (.ref p),x]/\H'=upd H p (iW P w p ks)/\(∀k∈ks,de H k.1 k.2)/\(ks.map (·.1)).Nodup/\∀z,z∈ks.map (·.1)↔z∈ts.take i:=⟨_,λ_ _ _=>cp⟩
 have up:∀{o:HO} {cl:Cl} {a:Addr},de H cl a->de (upd H p o) cl a:=λ{o cl a} c=>c.mono (aD (av hp o))
 refine bO (xs:=List.map V.ref bs) Pv ((cx _ _ _).mpr ⟨none,[],rfl,rfl,(λk hk=>nomatch hk),rM,λz=>by simp⟩) (λi σ' H1 _ pv=>?_) (λi x σ' H1 hx pv=>?_) (λσ' H1 pv=>?_)
 ·obtain⟨_,_,_,rfl,_⟩:=(cx _ _ _).mp pv
  exact av hp _ _ _ hL
 ·obtain⟨y,ks,rfl,rfl,all,nd,mem⟩:=(cx _ _ _).mp pv
  obtain⟨a,ea,rfl⟩:=dB hx
  have hi:i<bs.length:=(cy.mp ea).1
  have M9:i<ts.length:=by have:=cat.1;lia
  have es:ts[i]?=some ts[i]:=bD M9
  have ca:=cat.2 i a _ ea es
  have lk:ks.length<=90000:=by
   have h2:=len_sub nd λx hx=>tT ((mem x).mp hx)
   rw[aM]at h2
   lia
  walk_at "r"
  refine⟨ks,rfl,(λk hk=>up (all k hk)),ts[i],up ca,nd,Si (by lia),?_⟩
  first | rw[jG] | skip
  refine(cx _ _ _).mpr ⟨_,_,rfl,rfl,?_,?_,λz=>?_⟩
  ·unfold qP
   split
   ·exact all
   ·intro k hk
    rcases bT.mp hk with hk | hk
    ·exact all k hk
    ·rw[bR.mp hk];exact ca
  ·unfold qP
   split
   ·exact nd
   ·rename_i hn
    rw[bP,qm]
    exact⟨nd,by simp,λx hx y hy z=>hn (by rw[show y=ts[i] by simpa using hy]at z;rw[<-z];exact hx)⟩
  ·rw[dU es,bT,<-mem z,bR]
   unfold qP
   split
   ·rename_i hn
    exact⟨.inl,λh=>h.elim id λe=>by rw[e];exact hn⟩
   ·rw[bP,bT]
    exact or_congr cp (by rw[eI,vt,bR])
 ·obtain⟨y,ks,rfl,rfl,all,nd,mem⟩:=(cx _ _ _).mp pv
  rw[aM,cat.1,fu]at mem
  have lk:ks.length<100000:=by
   have h2:=len_sub nd λx hx=>(mem x).mp hx
   rw[aM]at h2
   lia
  walk_at "r"
  refine⟨p,rfl,ks,ag,(λk hk=>up (all k hk)),nd,lk,λD H' cs us sm hD hD' cat' pm uS=>?_⟩
  exact q D H' cs us ((av hp _).trans sm) ((av hp _).free hD) hD' cat' uS λx=>pm.mem_iff.trans (mem x)
theorem Lk(T:Txt K mg t):cE P w K mg base g6 5 t.fN t.fM ["clauses"] Jk:=by
 have nZ:=TK (P:=P) (w:=w) (base:=base) T
 refine T.jx.lT oN (λvs H Q E h=>?_) (λdz A outer s H vs Q E hr h hc hf=>?_)
 ·obtain⟨a,rfl,_⟩:=h;rfl
 obtain⟨L,rfl,h⟩:=h
 refine⟨_,(by exact ak (aF (aC nZ (hr.mono (by omega)) (cG hc) T.mY T.il.kp T.nH .nil aY (ae (aj hc 0) ah)))),?_⟩
 walk_at "r"
 exact⟨L,rfl,h⟩
end
def N3:Sp:=λvs H Q _=>∃A B,vs=[.ref A,.ref B]/\∃cl dl,de H cl A/\de H dl B/\Q (.bl (cl.all λx=>decide (x∈dl))) H
section
variable {P:Program}{w:World}{K:PySem.W.Frag}{mg:Str->Option Value}{base:Heap}{t:tN}
theorem Lj(T:Txt K mg t):cE P w K mg base g6 1 t.jY t.jU ["_law_one","_law_other"] N3:=by
 refine T.ph.lT mP (λvs H Q E h=>?_) (λdz A outer s H vs Q E hr h hc hf=>?_)
 ·obtain⟨A,B,rfl,_⟩:=h;rfl
 obtain⟨A,B,rfl,cl,dl,⟨qs,hA,la⟩,⟨ps,hB,lb⟩,q⟩:=h
 have hu:=fF hr
 have Bn:=hr.dI
 refine⟨_,(by apply ai;exact(bV eJ rfl (gY (aj hc 0)) (gk hc mP.nd hf 2 (by decide +kernel)) (by exact ak (bh (aG (iV hu) (aj hc 2) (aj hc 1) (by with_unfolding_all rfl)) (by exact ak (aF bY)) aN)));exact ak (aF bY)),?_⟩
 walk_at "r"
 refine⟨⟨_,bC hA⟩,?_⟩
 obtain⟨Pv,cx⟩:∃Pv:Nat->St->Hp->Prop,∀i σ' H',Pv i σ' H'↔∃(x:Option V),σ'=[some (.ref A),some (.ref B),x]/\H'=H/\((cl.take i).all λx=>decide (x∈dl))=true:=⟨_,λ_ _ _=>cp⟩
 refine gO (xs:=List.map V.ref qs) Pv ((cx _ _ _).mpr ⟨none,rfl,rfl,rfl⟩) (λi σ' H' _ pv=>?_) (λi z σ' H1 hz pv=>?_) (λσ' H1 pv=>?_)
 ·obtain⟨_,_,rfl,_⟩:=(cx _ _ _).mp pv
  exact hA
 ·obtain⟨x,rfl,rfl,al⟩:=(cx _ _ _).mp pv
  obtain⟨b0,eb,rfl⟩:=dB hz
  obtain⟨m,b,ec,Ih⟩:=la.at eb
  walk_at "r"
  refine⟨(m,b),Ih,ps,.inl hB,dl,lb,?_⟩
  by_cases hm:(m,b)∈dl
  ·rw[aA (by simp[hm])]
   refine(cx _ _ _).mpr ⟨_,rfl,rfl,?_⟩
   rw[dU ec,List.all_append,al]
   simp[hm]
  ·rw[aB (by simp[hm])]
   have e:(cl.all λx=>decide (x∈dl))=false:=by
    cases z:(cl.all λx=>decide (x∈dl)) with
    | false=>rfl
    | true=>exact absurd (of_decide_eq_true (jC.mp z (m,b) (dE ec))) hm
   rw[e]at q
   exact q
 ·obtain⟨x,rfl,rfl,al⟩:=(cx _ _ _).mp pv
  rw[aM,la.1,fu]at al
  walk_at "r"
  rw[al]at q
  exact q
end
local macro_rules | `(tactic| walk_at "rd") => `(tactic| walk_at "rc")
local macro_rules | `(tactic| walk_at "rl") => `(tactic| first | (refine cT fun R hR => ?_) | walk_at "ry" | (refine Nx.to (by assumption) _ _ ?_))
def N0(d:Nat):Sp:=λvs H Q _=>∃p,vs=[.ref p]/\∃r,iF H r p/\r.deep<=d/\r.deep<=6/\∀L ts H',bf H H'->H L=none->H' L=some (.lst (List.map V.str ts))->(∀z,z∈ts↔z∈r.names)->ts.Nodup->PyProof.Rows.sortedS ts=true->Q (.ref L) H'
theorem wL{K:PySem.W.Frag}{N M:Addr}{us ts:List Str}{j:Nat}{σ:St}{H2:Hp}{Q:VK}(hN:H2 N=some (.lst (List.map V.str us)))(hM:H2 M=some (.lst (List.map V.str ts)))(hj:σ[j]?=some (some (.ref M)))(hl:us.length<=900)
  (q:∀D H',bf H2 H'->H2 D=none->H' D=some (.lst (List.map V.str (us.filter λx=>decide (x∉ts))))->Q (.ref D) H') :
  fJ (FH K N) 1 [j] (λ_=>cJ 0) (λ_=>oX (BR (Al true) (gI 0) (gI 1))) (λ_=>gI 0) σ Q H2:=by
 refine dX (zs:=List.map V.str us) (λD i ys H5=>ys=List.map V.str ((us.take i).filter λx=>decide (x∉ts))/\bf H2 H5/\H5 D=some (.lst ys)) (λD hD=>⟨rfl,av hD _,ag⟩) (λD hD i ys H5 _ pv=>pv.2.1 _ _ hN) (λD hD i x ys H5 hx pv c=>?_) (λD hD ys H5 pv=>?_)
 ·obtain⟨rfl,s5,Mh⟩:=pv
  obtain⟨y,ey,rfl⟩:=vU hx
  have et:us.take (i+1)=us.take i++[y]:=by rw[pG,ey];rfl
  have Zj:=s5 _ _ hM
  walk_at "rc"
  repeat (first | walk_at "rl" | simp only[hj,Zj,rY])
  refine⟨rfl,Fi _,?_⟩
  simp only[Ee,fK,zv,Gx]
  split
  ·rename_i hy
   refine⟨Mh,?_,?_,bp s5 hD⟩
   ·have:=qp (λx=>decide (x∉ts)) (us.take i)
    have h2:(us.take i).length<=us.length:=by rw[cz];lia
    try rw[aM]
    exact aL (by lia)
   ·rw[et,pJ];simp[hy]
  ·rename_i hy
   refine⟨?_,s5,Mh⟩
   rw[et,pJ];simp[hy]
 ·obtain⟨rfl,s5,Mh⟩:=pv
  rw[aM,fu]at Mh
  exact q D H5 s5 hD Mh
section
variable {P:Program}{w:World}{K:PySem.W.Frag}{mg:Str->Option Value}{base:Heap}{t:tN}
theorem sq(T:Txt K mg t):∀d:Nat,cE P w K mg base g6 (d+1) t.iE t.iC ["_law_rule_here"] (N0 d)
 | 0=>T.d7.lT (k:=0) dJ (λvs H Q E h=>by obtain⟨p,rfl,_⟩:=h;rfl) (λdz A outer s H vs Q E hr h hc hf=>by obtain⟨p,rfl,r,_,h1,_⟩:=h;have:=r.pos;lia)
 | d+1=>by
  have dZ:=sq T d
  refine T.d7.lT (k:=d+1) dJ (λvs H Q E h=>?_) (λdz A outer s H vs Q E hr h hc hf=>?_)
  ·obtain⟨p,rfl,_⟩:=h;rfl
  obtain⟨p,rfl,r,ra,hd,h6,q⟩:=h
  refine⟨_,(by apply ai;exact(bh (aG cV (bj lX (aj hc 0) aq (λ_ _=>rfl)) bG (aX _)) (by exact ak (aF (bW (ae (bj lX (aj hc 0) aq (λ_ _=>rfl)) ah)))) aN);apply ai;exact(aE hc dJ.nd hf 1 (by decide +kernel) (bW ah));apply ai;exact(bV eJ rfl (gY (dH Sj (aj hc 0) (eN aq) eO)) (gk hc dJ.nd hf 2 (by decide +kernel)) (by exact ak (aE hc dJ.nd hf 1 (by decide +kernel) (aV Ho (aj hc 1) (bX hc ["_law_name"] [1] rfl (by decide +kernel) (bI (aC dZ (hr.mono (by omega)) (cG hc) T.iA T.d7.kp T.iD .nil aY (ae (aj hc 2) ah))) (λ_ hc=>kJ hc (by decide +kernel) 0 (by decide +kernel)) (λ_ hc=>fO (aG yq (aj hc 0) (aj hc 1) (by with_unfolding_all rfl))) (λ_ hc=>(aj hc 0)))))));exact ak (aF (bA lC (cG hc) T.z_sorted ig (ae (aj hc 1) ah)))),?_⟩
  rcases ra.kids with ⟨x,rfl,hp⟩ | ⟨k,qs,rs,hp,kis,hl,l2,kid,nm⟩
  ·repeat (first | walk_at "rl" | simp only[hp])
   refine⟨by decide,λL hL=>q L [x] _ (av hL _) hL ag (λz=>cp) (by simp) rfl⟩
  ·repeat (first | walk_at "rl" | simp only[hp,kis])
   refine⟨by decide,λL hL=>?_⟩
   have pL:p≠L:=ay hp hL
   walk_at "r"
   refine⟨_,by rw[au pL];exact hp,by simp[HT.cK],λC hC=>?_⟩
   rw[yF]
   have LC:L≠C:=ay ag hC
   have sC:bf H (upd (upd H L (.lst [])) C (.tup (List.map V.ref qs))):=(av hL _).trans (av hC _)
   refine⟨⟨_,bC ag⟩,?_⟩
   obtain⟨Pv,cx⟩:∃Pv:Nat->St->Hp->Prop,∀i σ' H',Pv i σ' H'↔∃(M:Addr) (ts:List Str) (x:Option V),σ'=[some (.ref p),some (.ref M),x]/\bf H H'/\H' M=some (.lst (List.map V.str ts))/\H' C=some (.tup (List.map V.ref qs))/\ts.Nodup/\∀z,z∈ts↔z∈((rs.take i).map Rl.names).flatten:=⟨_,λ_ _ _=>cp⟩
   refine gO (xs:=List.map V.ref qs) Pv ((cx _ _ _).mpr ⟨L,[],none,rfl,sC,by rw[au LC,ag];rfl,ag,rM,λz=>cp⟩) (λi σ' H1 _ pv=>?_) (λi x σ' H1 hx pv=>?_) (λσ' H1 pv=>?_)
   ·obtain⟨_,_,_,_,_,_,h,_⟩:=(cx _ _ _).mp pv
    exact h
   ·obtain⟨M,ts,y,rfl,s1,hM1,VJ,nd,mem⟩:=(cx _ _ _).mp pv
    obtain⟨a,ea,rfl⟩:=dB hx
    have hi:i<rs.length:=by rw[<-hl];exact(cy.mp ea).1
    have er:rs[i]?=some rs[i]:=bD hi
    obtain⟨ka,kd⟩:=kid i a _ ea er
    have len:((rs.take i).map Rl.names).flatten.length+(rs[i]).names.length<=32:=by
     have:=Rl.LQ h6
     have e2:r.names=((rs.take (i+1)).map Rl.names).flatten++((rs.drop (i+1)).map Rl.names).flatten:=by
      rw[nm,<-List.flatten_append,<-bP,vi]
     rw[e2,oE er,cw,cw]at this
     lia
    walk_at "r"
    refine⟨a,rfl,rs[i],ka.mono (aD s1),by lia,by lia,λN us H2 s2 hN QD aAt T2 ZD=>?_⟩
    repeat (first | walk_at "rl" | simp only[QD,s2 _ _ hM1])
    have YZ:us.length<=32:=by
     have:=cP T2 λx hx=>(aAt x).mp hx
     lia
    have RD:ts.length<=32:=by
     have:=cP nd λx hx=>(mem x).mp hx
     lia
    refine⟨⟨_,aP QD⟩,wL QD (s2 _ _ hM1) rfl (by lia) λD H3 s3 hD Zm=>?_⟩
    have lf:=qp (λx=>decide (x∉ts)) us
    refine⟨D,rfl,_,s3 _ _ (s2 _ _ hM1),_,Zm,by rw[aM,aM];exact cS (by lia),λZ hZ=>(cx _ _ _).mpr ⟨Z,ts++us.filter (λx=>decide (x∉ts)),_,rfl,?_,by rw[ag,bP],?_,?_,λz=>?_⟩⟩
    ·exact((s1.trans s2).trans s3).trans (av hZ _)
    ·exact av hZ _ _ _ (s3 _ _ (s2 _ _ VJ))
    ·rw[qm]
     refine⟨nd,T2.filter _,λx hx y hy e=>?_⟩
     subst e
     have:=(mC.mp hy).2
     simp at this
     exact this hx
    ·rw[oE er,bT,bT,mem z,mC,aAt z]
     constructor
     ·rintro(h | h)
      ·exact .inl h
      ·exact .inr h.1
     ·rintro(h | h)
      ·exact .inl h
      ·by_cases hz:z∈ts
       ·exact .inl ((mem z).mp hz)
       ·exact .inr ⟨h,by simpa using hz⟩
   ·obtain⟨M,ts,y,rfl,s1,hM1,VJ,nd,mem⟩:=(cx _ _ _).mp pv
    repeat (first | walk_at "rl" | simp only[hM1])
    rw[aM,hl,fu,<-nm]at mem
    have l32:=Rl.LQ h6
    have RD:ts.length<=r.names.length:=cP nd λx hx=>(mem x).mp hx
    refine⟨ts,rfl,by lia,λus pu su Z hZ=>?_⟩
    exact q Z us _ (s1.trans (av hZ _)) (s1.free hZ) ag (λz=>(pu.mem_iff).trans (mem z)) (pu.nodup_iff.mpr nd) su
end
local macro_rules | `(tactic| walk_at "rd") => `(tactic| walk_at "rc")
local macro_rules | `(tactic| walk_at "rl") => `(tactic| first | (refine cT fun R hR => ?_) | walk_at "ry" | (refine Nx.to (by assumption) _ _ ?_))
theorem Q0(xs:List V){k:Int}(hk:0<=k):jy xs none (some k)=xs.take k.toNat:=by
 have e:HT.cK xs.length xs.length (some k)=min k.toNat xs.length:=by
  show(if k<0 then _ else min k.toNat xs.length)=_
  rw[aA (by lia)]
 have e0:HT.cK xs.length 0 none=0:=rfl
 unfold jy
 rw[e,e0,vx,za]
 exact(List.take_eq_take_min ..).symm
theorem Iq(xs:List V){k:Int}(hk:0<=k):jy xs (some k) none=xs.drop k.toNat:=by
 have e:HT.cK xs.length 0 (some k)=min k.toNat xs.length:=by
  show(if k<0 then _ else min k.toNat xs.length)=_
  rw[aA (by lia)]
 have e0:HT.cK xs.length xs.length none=xs.length:=rfl
 unfold jy
 rw[e,e0,tV (by rw[jD];lia)]
 rcases Nat.le_total k.toNat xs.length with h | h
 ·rw[zm h]
 ·rw[FP h,List.drop_of_length_le (aU _),List.drop_of_length_le h]
theorem Lz{H:Hp}{qs:List Addr}{cl:Cl}(h:dC H qs cl)(n:Nat):dC H (qs.take n) (cl.take n):=⟨by rw[cz,cz,h.1],λi q x e f=>by
 rw[List.getElem?_take]at e f
 split at e
 ·rename_i hi
  rw[aB hi]at f
  exact h.2 i q x e f
 ·cases e⟩
theorem LK{H:Hp}{qs:List Addr}{cl:Cl}(h:dC H qs cl)(n:Nat):dC H (qs.drop n) (cl.drop n):=⟨by rw[jD,jD,h.1],λi q x e f=>by
 rw[List.getElem?_drop]at e f
 exact h.2 _ q x e f⟩
theorem uc{H:Hp}{qs ps:List Addr}{cl dl:Cl}(h:dC H qs cl)(k:dC H ps dl):dC H (qs++ps) (cl++dl):=by
 refine⟨by simp[h.1,k.1],λi q x eq ex=>?_⟩
 by_cases hi:i<qs.length
 ·rw[gh hi]at eq
  rw[gh (by rw[<-h.1];exact hi)]at ex
  exact h.2 i q x eq ex
 ·have hl:=h.1
  rw[fC (by lia)]at eq
  rw[fC (by lia),<-hl]at ex
  exact k.2 _ q x eq ex
def DAt(P:Program)(w:World)(H:Hp)(d:Addr)(ks:List (Cl×Addr)):Prop:=(H d=some (iW P w d ks)\/∃o,H d=some (.m9 o (iW P w d ks)))/\(∀k∈ks,de H k.1 k.2)/\(ks.map (·.1)).Nodup
theorem DAt.mono{P:Program}{w:World}{H H':Hp}{d:Addr}{ks:List (Cl×Addr)}(h:DAt P w H d ks)(s:bf H H'):DAt P w H' d ks:=⟨h.1.elim (λz=>.inl (s _ _ z)) (λ⟨o,z⟩=>.inr ⟨o,s _ _ z⟩),λk hk=>(h.2.1 k hk).mono (aD s),h.2.2⟩
def KR(P:Program)(w:World):Sp:=λvs H Q _=>∃C d,vs=[.ref C,.ref d]/\∃cl ks,de H cl C/\cl.length<=900/\DAt P w H d ks/\
 ∀b H',bf H H'->(b=true↔∃i,i<cl.length/\cl.eraseIdx i∈ks.map (·.1))->Q (.bl b) H'
section
variable {P:Program}{w:World}{K:PySem.W.Frag}{mg:Str->Option Value}{base:Heap}{t:tN}
theorem Hq(T:Txt K mg t):cE P w K mg base g6 1 t.jW t.jS ["clause","following"] (KR P w):=by
 refine T.o9.lT mO (λvs H Q E h=>?_) (λdz A outer s H vs Q E hr h hc hf=>?_)
 ·obtain⟨C,d,rfl,_⟩:=h;rfl
 obtain⟨C,d,rfl,cl,ks,⟨qs,hC,lits⟩,l9,dat,q⟩:=h
 have hu:=fF hr
 have Bn:=hr.dI
 have lq:=lits.1
 refine⟨_,(by apply ai;exact(bV eJ rfl (gH (cG hc) T.z_range (ae (bA yN (cG hc) T.z_len rg (ae (aj hc 0) ah)) ah)) (gk hc mO.nd hf 2 (by decide +kernel)) (by exact ak (bh (Je (Nv hr.units (aV qR (dH Sj (aj hc 0) eO (eN (aj hc 2))) (dH Sj (aj hc 0) (eN (aV fA (aj hc 2) aq)) eO)) (aj hc 1))) (by exact ak (aF bY)) aN)));exact ak (aF bY)),?_⟩
 repeat (first | walk_at "rl" | simp only[hC])
 refine⟨by lia,by lia,?_⟩
 obtain⟨Pv,cx⟩:∃Pv:Nat->St->Hp->Prop,∀i σ' H',Pv i σ' H'↔∃(x:Option V),σ'=[some (.ref C),some (.ref d),x]/\bf H H'/\∀j,j<i->cl.eraseIdx j∉ks.map (·.1):=⟨_,λ_ _ _=>cp⟩
 refine pV Pv ((cx _ _ _).mpr ⟨none,rfl,λ_ _ z=>z,λj hj=>absurd hj (rS _)⟩) (λn σ' H1 hi pv=>?_) (λσ' H1 pv=>?_)
 ·obtain⟨x,rfl,s1,no⟩:=(cx _ _ _).mp pv
  have hn:n<qs.length:=by lia
  have VJ:=s1 _ _ hC
  have aFK:=lits.mono (aD s1)
  repeat (first | walk_at "rl" | simp only[VJ])
  have ct:jy (List.map V.ref qs) none (some (n:Int))=List.map V.ref (qs.take n):=by rw[Q0 _ (by lia),sd,zb]
  have cd:jy (List.map V.ref qs) (some ((n:Int)+1)) none=List.map V.ref (qs.drop (n+1)):=by rw[Iq _ (by lia),show((n:Int)+1).toNat=n+1 by lia,List.map_drop]
  have w1:¬(HT.cK qs.length 0 none=0/\HT.cK qs.length qs.length (some (n:Int))=qs.length):=λz=>by
   have:=z.2
   rw[HT.Jr]at this
   lia
  have w2:¬(HT.cK (List.map V.ref qs).length 0 (some ((n:Int)+1))=0/\HT.cK (List.map V.ref qs).length (List.map V.ref qs).length none=(List.map V.ref qs).length):=λz=>by
   have:=z.1
   rw[show(n:Int)+1=((n+1:Nat):Int) by lia,HT.Jr,aM]at this
   lia
  refine⟨w1,λp1 J3=>?_⟩
  rw[ct]
  have t1:=av J3 (.tup (List.map V.ref (qs.take n)))
  have g1:upd H1 p1 (.tup (List.map V.ref (qs.take n))) p1=some (.tup (List.map V.ref (qs.take n))):=ag
  generalize upd H1 p1 (.tup (List.map V.ref (qs.take n)))=H3 at t1 g1 ⊢
  refine⟨_,t1 _ _ VJ,w2,λp2 BV=>?_⟩
  rw[cd]
  have t2:=av BV (.tup (List.map V.ref (qs.drop (n+1))))
  generalize upd H3 p2 (.tup (List.map V.ref (qs.drop (n+1))))=H4 at t2 ⊢
  refine⟨_,t2 _ _ g1,by rw[aM,aM,cz,jD];exact jb (aL (by lia)),λp3 H5 t3 _ J2=>?_⟩
  have sa:=s1.trans ((t1.trans t2).trans t3)
  have es:cl.take n++cl.drop (n+1)=cl.eraseIdx n:=(List.eraseIdx_eq_take_drop_succ ..).symm
  have qW:de H5 (cl.eraseIdx n) p3:=by
   rw[<-es]
   exact⟨qs.take n++qs.drop (n+1),by rw[J2,bP],(uc (Lz lits n) (LK lits (n+1))).mono (aD sa)⟩
  obtain⟨da,db,dc⟩:=dat.mono sa
  refine⟨ks,da,db,_,qW,dc,?_⟩
  by_cases hm:cl.eraseIdx n∈ks.map (·.1)
  ·rw[aB hm]
   exact q true H5 sa ⟨λ_=>⟨n,by lia,hm⟩,λ_=>rfl⟩
  ·rw[aA hm]
   refine(cx _ _ _).mpr ⟨_,rfl,sa,λj hj=>?_⟩
   rcases Nat.lt_or_ge j n with z | z
   ·exact no j z
   ·have:j=n:=by lia
    rw[this];exact hm
 ·obtain⟨x,rfl,s1,no⟩:=(cx _ _ _).mp pv
  walk_at "r"
  exact q false H1 s1 ⟨(λz=>nomatch z),λ⟨i,hi,hm⟩=>absurd hm (no i (by lia))⟩
end
local macro_rules | `(tactic| walk_at "rd") => `(tactic| walk_at "rc")
local macro_rules | `(tactic| walk_at "rl") => `(tactic| first | (refine cT fun R hR => ?_) | walk_at "ry" | (refine Nx.to (by assumption) _ _ ?_))
def un(bs:List Addr)(ev:Addr->Str->Bool)(cl:Cl):List Addr:=bs.filter λb=>cl.all λx=>!(ev b x.1==x.2)
structure Kx(L:Addr)(H H':Hp):Prop where
 tup:lI H H'
 lst:∀u xs,u≠L->H u=some (.lst xs)->H' u=some (.lst xs)
theorem Kx.of{L:Addr}{H H':Hp}(s:bf H H'):Kx L H H':=⟨aD s,λu xs _ e=>s _ _ e⟩
theorem Kx.put{L:Addr}{H:Hp}{xs:List V}{o:HO}(h:H L=some (.lst xs)):Kx L H (upd H L o):=⟨hX h,λu ys n e=>by rw[au n];exact e⟩
def PrX(bs:List Addr)(ev:Addr->Str->Bool)(L:Addr)(H:Hp)(p:Addr)(cl:Cl):Prop:=∃c u,H p=some (.tup [.ref c,.ref u])/\de H cl c/\u≠L/\H u=some (.lst (List.map V.ref (un bs ev cl)))
theorem PrX.mono{bs:List Addr}{ev:Addr->Str->Bool}{L:Addr}{H H':Hp}{p:Addr}{cl:Cl}(h:PrX bs ev L H p cl)(k:Kx L H H'):PrX bs ev L H' p cl:=let ⟨c,u,a,b,n,d⟩:=h;⟨c,u,k.tup _ _ a,b.mono k.tup,n,k.lst _ _ n d⟩
def Bz(bs:List Addr)(ev:Addr->Str->Bool)(L:Addr)(H:Hp)(ps:List Addr)(cls:List Cl):Prop:=ps.length=cls.length/\∀(i:Nat) p cl,ps[i]?=some p->cls[i]?=some cl->PrX bs ev L H p cl
theorem Bz.mono{bs:List Addr}{ev:Addr->Str->Bool}{L:Addr}{H H':Hp}{ps:List Addr}{cls:List Cl}(h:Bz bs ev L H ps cls)(k:Kx L H H'):Bz bs ev L H' ps cls:=⟨h.1,λi p cl e f=>(h.2 i p cl e f).mono k⟩
theorem Bz.nil{bs:List Addr}{ev:Addr->Str->Bool}{L:Addr}{H:Hp}:Bz bs ev L H [] []:=⟨rfl,λi p cl e=>by simp at e⟩
theorem Bz.snoc{bs:List Addr}{ev:Addr->Str->Bool}{L:Addr}{H:Hp}{ps:List Addr}{cls:List Cl}{p:Addr}{cl:Cl}(h:Bz bs ev L H ps cls)(k:PrX bs ev L H p cl):Bz bs ev L H (ps++[p]) (cls++[cl]):=by
 have hl:=h.1
 refine⟨by simp[hl],λi q x eq ex=>?_⟩
 by_cases hi:i<ps.length
 ·rw[gh hi]at eq
  rw[gh (by lia)]at ex
  exact h.2 i q x eq ex
 ·have l:=(cy.mp eq).1
  rw[cw,ja]at l
  have u5:i=ps.length:=by lia
  rw[u5,fC (aU _),jP]at eq
  rw[u5,hl,fC (aU _),jP]at ex
  cases eq
  cases ex
  exact k
theorem Bz.other{bs:List Addr}{ev:Addr->Str->Bool}{L M:Addr}{H:Hp}{ps:List Addr}{cls:List Cl}(h:Bz bs ev L H ps cls)(hM:H M=none):Bz bs ev M H ps cls:=⟨h.1,λi p cl e f=>let ⟨c,u,a,b,_,d⟩:=h.2 i p cl e f;⟨c,u,a,b,ay d hM,d⟩⟩
theorem Jg{bs:List Addr}{ev:Addr->Str->Bool}{cl:Cl}{n:Str}{b:Bool}:un bs ev (cl++[(n,b)])=(un bs ev cl).filter λa=>!(ev a n==b):=by
 unfold un
 rw[List.filter_filter]
 refine List.filter_congr λa _=>?_
 rw[List.all_append,Bool.and_comm]
 simp
theorem Wc{bs:List Addr}{ev:Addr->Str->Bool}:un bs ev []=bs:=List.filter_eq_self.mpr λa _=>rfl
theorem R4{bs:List Addr}{ev:Addr->Str->Bool}{cl:Cl}:un bs ev cl=[]↔∀b∈bs,∃x∈cl,ev b x.1=x.2:=by
 unfold un
 rw[List.filter_eq_nil_iff]
 refine⟨λh b hb=>?_,λh b hb z=>?_⟩
 ·refine xR λno=>h b hb (jC.mpr λx hx=>?_)
  have:ev b x.1≠x.2:=λe=>no ⟨x,hx,e⟩
  simpa using this
 ·obtain⟨x,hx,e⟩:=h b hb
  have:=jC.mp z x hx
  simp[e]at this
theorem sub_snoc{cl:Cl}{l:List Str}{n:Str}:(cl.map (·.1)).Sublist (l++[n])↔(cl.map (·.1)).Sublist l\/∃c b,cl=c++[(n,b)]/\(c.map (·.1)).Sublist l:=by
 constructor
 ·intro h
  obtain⟨l1,l2,e,h1,h2⟩:=List.sublist_append_iff.mp h
  obtain⟨c,d,rfl,e1,e2⟩:=List.map_eq_append_iff.mp e
  rcases List.sublist_cons_iff.mp h2 with h3 | ⟨r,h3,h4⟩
  ·have:l2=[]:=List.sublist_nil.mp h3
   rw[this]at e2
   have:d=[]:=Gn.mp e2
   rw[this,jB,e1]
   exact .inl h1
  ·have:r=[]:=List.sublist_nil.mp h4
   rw[this]at h3
   rw[h3]at e2
   obtain⟨x,rfl,ex⟩:∃x,d=[x]/\x.1=n:=by
    cases d with
    | nil=>cases e2
    | cons x d=>
     rw[eI]at e2
     injection e2 with a b
     have:d=[]:=Gn.mp b
     exact⟨x,by rw[this],a⟩
   exact .inr ⟨c,x.2,by rw[<-ex],by rw[e1];exact h1⟩
 ·rintro(h | ⟨c,b,rfl,h⟩)
  ·exact h.trans (List.sublist_append_left _ _)
  ·rw[bP]
   exact h.append (List.Sublist.refl _)
theorem Ke{K:PySem.W.Frag}{U:Addr}{cs:List Addr}{ev:Addr->Str->Bool}{n:Str}{j:Nat}{σ:St}{H2:Hp}{Q:VK}(neg:Bool){tt:CB->TT}(htt:tt=λ_=>if neg then zR (tB (j7 (gI 0) (gI 1))) else tB (j7 (gI 0) (gI 1)))(hU:H2 U=some (.lst (List.map V.ref cs)))(rows:∀a∈cs,∃kvs,H2 a=some (.dK kvs)/\cB kvs (Sum.inr n)=some (.bl (ev a n)))(hj:σ[j]?=some (some (.str n)))(hl:cs.length<=900)
  (q:∀Z H',bf H2 H'->H2 Z=none->H' Z=some (.lst (List.map V.ref (cs.filter λa=>!(ev a n==neg))))->Q (.ref Z) H') :
  fJ (FH K U) 1 [j] (λ_=>cJ 0) tt (λ_=>gI 0) σ Q H2:=by
 subst htt
 obtain⟨Pc,iu⟩:∃Pc:Addr->Nat->List V->Hp->Prop,∀Z i ys H',Pc Z i ys H'↔ys=List.map V.ref ((cs.take i).filter λa=>!(ev a n==neg))/\bf H2 H'/\H' Z=some (.lst ys):=⟨_,λ_ _ _ _=>cp⟩
 refine dX (zs:=List.map V.ref cs) Pc (λZ hZ=>(iu _ _ _ _).mpr ⟨rfl,av hZ _,ag⟩) (λZ hZ i ys H' _ pv=>?_) (λZ hZ i z ys H' hz pv cb=>?_) (λZ hZ ys H' pv=>?_)
 ·obtain⟨_,s,_⟩:=(iu _ _ _ _).mp pv
  exact s _ _ hU
 ·obtain⟨ey,sZ,m8⟩:=(iu _ _ _ _).mp pv
  obtain⟨a,ea,rfl⟩:=dB hz
  obtain⟨kvs,hk,hv⟩:=rows a (dE ea)
  have hi:i<cs.length:=(cy.mp ea).1
  have ly:ys.length<=900:=by
   rw[ey,aM]
   have:=qp (λa=>!(ev a n==neg)) (cs.take i)
   rw[cz]at this
   lia
  have hk1:=sZ _ _ hk
  have dg:oo H' a (.str n) (some (.bl (ev a n))):=by have:=oo.k (k:=Sum.inr n) hk1;rw[hv]at this;exact this
  have Vj:(cs.take (i+1)).filter (λa=>!(ev a n==neg))=(cs.take i).filter (λa=>!(ev a n==neg))++(if (!(ev a n==neg))=true then [a] else []):=by
   rw[dU ea,pJ]
   congr 1
   by_cases h:(!(ev a n==neg))=true
   ·rw[aB h];simp only[rW,List.filter_nil];rw[aB h]
   ·rw[aA h];simp only[rW,List.filter_nil];rw[aA h]
  have yes:(!(ev a n==neg))=true->H' Z=some (.lst ys)/\ys.length<sizeLine/\Pc Z (i+1) (ys++[.ref a]) (upd H' Z (.lst (ys++[.ref a]))):=λh=>⟨m8,aL (by lia),(iu _ _ _ _).mpr ⟨by rw[Vj,aB h,bP,<-ey];rfl,bp sZ hZ,ag⟩⟩
  have no:(!(ev a n==neg))≠true->Pc Z (i+1) ys H':=λh=>(iu _ _ _ _).mpr ⟨by rw[Vj,aA h,jB];exact ey,sZ,m8⟩
  cases neg with
  | false=>
   simp only[fB,bU]
   walk_at "rc"
   repeat (first | walk_at "rl" | simp only[j7,hj,rY])
   refine⟨_,dg,_,rfl,?_⟩
   by_cases h:ev a n=true
   ·rw[aB h]
    exact yes (by simp[h])
   ·rw[aA h]
    exact no (by simpa using h)
  | true=>
   simp only[fK]
   walk_at "rc"
   repeat (first | walk_at "rl" | simp only[j7,hj,rY])
   refine⟨_,dg,_,rfl,?_⟩
   by_cases h:ev a n=true
   ·first | rw[aA (by simp[h])] | rw[aB h]
    exact no (by simp[h])
   ·first | rw[aB (by simpa using h)] | rw[aA h]
    exact yes (by simpa using h)
 ·obtain⟨ey,sZ,m8⟩:=(iu _ _ _ _).mp pv
  rw[aM,fu]at ey
  rw[ey]at m8
  exact q Z H' sZ hZ m8
def Wn(P:Program)(w:World):Sp:=λvs H Q _=>∃N R,vs=[.ref N,.ref R]/\∃(ns:List Str) (bs:List Addr) (ev:Addr->Str->Bool),H N=some (.lst (List.map V.str ns))/\ns.length<=6/\H R=some (.lst (List.map V.ref bs))/\bs.length<=900/\
 (∀b∈bs,∃kvs,H b=some (.dK kvs)/\Fact kvs ns/\∀n∈ns,gq kvs n=ev b n)/\
 ∀d ks H',bf H H'->H d=none->H' d=some (iW P w d ks)->(∀k∈ks,de H' k.1 k.2)->(ks.map (·.1)).Nodup->ks.length<=900->(∀cl,cl∈ks.map (·.1)↔(cl.map (·.1)).Sublist ns/\∀b∈bs,∃x∈cl,ev b x.1=x.2)->Q (.ref d) H'
section
variable {P:Program}{w:World}{K:PySem.W.Frag}{mg:Str->Option Value}{base:Heap}{t:tN}
theorem TJ(T:Txt K mg t):cE P w K mg base g6 1 t.gT t.gP ["names","rows"] (Wn P w):=by
 refine T.kz.lT bt (λvs H Q E h=>?_) (λdz A outer s H vs Q E hr h hc hf=>?_)
 ·obtain⟨N,R,rfl,_⟩:=h;rfl
 obtain⟨N,R,rfl,ns,bs,ev,hN,l6,hR,lb,rows,q⟩:=h
 have hu:=fF hr
 have Bn:=hr.dI
 refine⟨_,(by apply ai;exact(aE hc bt.nd hf 2 (by decide +kernel) (bW (ae (bF (ae (bF ah) (ae (aj hc 1) ah))) ah)));apply ai;exact(bV eJ rfl (bI (aj hc 0)) (gk hc bt.nd hf 3 (by decide +kernel)) (by apply ai;exact(aE hc bt.nd hf 4 (by decide +kernel) (bW ah));apply ai;exact(bV eJ rfl (bI (aj hc 2)) (kK rfl (cH (gk hc bt.nd hf 5 (by decide +kernel)) (cH (gk hc bt.nd hf 6 (by decide +kernel)) je))) (by apply ai;exact(cA (fL j5 lP lQ cQ (aj hc 4) (ae (bF (ae (aj hc 5) (ae (aj hc 6) ah))) ah)));apply ai;exact(cA (fL j5 lP lQ cQ (aj hc 4) (ae (bF (ae (aV qR (aj hc 5) (bF (ae (bF (ae (aj hc 3) (ae bY ah))) ah))) (ae (bX hc ["facts"] [3] rfl (by decide +kernel) (bI (aj hc 6)) (λ_ hc=>kJ hc (by decide +kernel) 0 (by decide +kernel)) (λ_ hc=>fO (iL (jf hu (aj hc 0) (aj hc 1) (λ_ _=>rfl)))) (λ_ hc=>(aj hc 0))) ah))) ah)));exact ak (cA (fL j5 lP lQ cQ (aj hc 4) (ae (bF (ae (aV qR (aj hc 5) (bF (ae (bF (ae (aj hc 3) (ae bY ah))) ah))) (ae (bX hc ["facts"] [3] rfl (by decide +kernel) (bI (aj hc 6)) (λ_ hc=>kJ hc (by decide +kernel) 0 (by decide +kernel)) (λ_ hc=>fO (ou (iL (jf hu (aj hc 0) (aj hc 1) (λ_ _=>rfl))))) (λ_ hc=>(aj hc 0))) ah))) ah)))));exact ak (aE hc bt.nd hf 2 (by decide +kernel) (aj hc 4))));apply ai;exact(aE hc bt.nd hf 7 (by decide +kernel) xT);apply ai;exact(bV eJ rfl (bI (aj hc 2)) (kK rfl (cH (gk hc bt.nd hf 5 (by decide +kernel)) (cH (gk hc bt.nd hf 6 (by decide +kernel)) je))) (by exact ak (bh (aG (Pj hu) (aj hc 6) (bW ah) (aX _)) (by exact ak (xS hr.units (aj hc 7) (aj hc 5) bY rfl)) aN)));exact ak (aF (aj hc 7))),?_⟩
 walk_at "r"
 refine⟨by decide,λe0 he0=>?_⟩
 have s0:=av he0 (.tup [])
 have g0:de (upd H e0 (.tup [])) [] e0:=⟨[],ag,dC.nil⟩
 generalize upd H e0 (.tup [])=H0 at s0 g0 ⊢
 refine⟨by decide,λp0 Vy=>?_⟩
 have s1:=av Vy (.tup [V.ref e0,V.ref R])
 have g1:upd H0 p0 (.tup [V.ref e0,V.ref R]) p0=some (.tup [V.ref e0,V.ref R]):=ag
 generalize upd H0 p0 (.tup [V.ref e0,V.ref R])=H1 at s1 g1 ⊢
 refine⟨by decide,λL0 Uy=>?_⟩
 have s2:=av Uy (.lst [V.ref p0])
 have g2:upd H1 L0 (.lst [V.ref p0]) L0=some (.lst (List.map V.ref [p0])):=ag
 have hR1:=s1 _ _ (s0 _ _ hR)
 have Qz:R≠L0:=ay hR1 Uy
 have pr0:Bz bs ev L0 (upd H1 L0 (.lst [V.ref p0])) [p0] [[]]:=Bz.nil.snoc ⟨e0,R,s2 _ _ g1,g0.mono (aD (s1.trans s2)),Qz,by rw[Wc];exact s2 _ _ hR1⟩
 generalize upd H1 L0 (.lst [V.ref p0])=H2 at s2 g2 pr0 ⊢
 have s02:=(s0.trans s1).trans s2
 walk_at "r"
 refine⟨⟨_,aP (s02 _ _ hN)⟩,?_⟩
 obtain⟨Pv,cx⟩:∃Pv:Nat->St->Hp->Prop,∀i σ' H',Pv i σ' H'↔∃(Lp:Addr) (x1 x2 x3 x4:Option V) (ps:List Addr) (cls:List Cl),σ'=[some (.ref N),some (.ref R),some (.ref Lp),x1,x2,x3,x4,none]/\bf H H'/\H' Lp=some (.lst (List.map V.ref ps))/\Bz bs ev Lp H' ps cls/\cls.length=3 ^ i/\∀cl,cl∈cls↔(cl.map (·.1)).Sublist (ns.take i):=⟨_,λ_ _ _=>cp⟩
 refine bO (xs:=List.map V.str ns) Pv ((cx _ _ _).mpr ⟨L0,none,none,none,none,[p0],[[]],rfl,s02,g2,pr0,rfl,λcl=>by simp⟩) (λi σ' H' _ pv=>?_) (λi z σ' H3 hz pv=>?_) (λσ' H3 pv=>?_)
 ·obtain⟨_,_,_,_,_,_,_,_,s,_⟩:=(cx _ _ _).mp pv
  exact s _ _ hN
 ·obtain⟨Lp,x1,x2,x3,x4,ps,cls,rfl,s3,hLp,WT,lcl,mem⟩:=(cx _ _ _).mp pv
  obtain⟨n,en,rfl⟩:=vU hz
  have hin:n∈ns:=dE en
  have hi:i<ns.length:=(cy.mp en).1
  have l3:3 ^ i<=243:=df (qo (by decide) (by lia:i<=5)) (by decide)
  have lps:=WT.1
  walk_at "r"
  refine⟨by decide,λM hM=>?_⟩
  have s4:=av hM (.lst [])
  have g4:upd H3 M (.lst []) M=some (.lst (List.map V.ref [])):=ag
  generalize upd H3 M (.lst [])=H4 at s4 g4 ⊢
  walk_at "r"
  refine⟨⟨_,aP (s4 _ _ hLp)⟩,?_⟩
  have prM:=WT.other hM
  obtain⟨Pw,u6⟩:∃Pw:Nat->St->Hp->Prop,∀j σ' H',Pw j σ' H'↔∃(x3 x4:Option V) (qs:List Addr) (ds:List Cl),σ'=[some (.ref N),some (.ref R),some (.ref Lp),some (.str n),some (.ref M),x3,x4,none]/\bf H3 H'/\H' M=some (.lst (List.map V.ref qs))/\Bz bs ev M H' qs ds/\ds.length=3*j/\∀cl,cl∈ds↔∃c∈cls.take j,cl=c\/∃b,cl=c++[(n,b)]:=⟨_,λ_ _ _=>cp⟩
  refine bO (xs:=List.map V.ref ps) Pw ((u6 _ _ _).mpr ⟨_,_,[],[],rfl,s4,g4,Bz.nil,rfl,λcl=>by simp⟩) (λj σ' H' _ pw=>?_) (λj z σ' H5 hz pw=>?_) (λσ' H5 pw=>?_)
  ·obtain⟨_,_,_,_,_,s,_⟩:=(u6 _ _ _).mp pw
   exact s _ _ hLp
  ·obtain⟨x3,x4,qs,ds,rfl,s5,Zj,prq,lds,P8⟩:=(u6 _ _ _).mp pw
   obtain⟨p,ep,rfl⟩:=dB hz
   have hj:j<ps.length:=(cy.mp ep).1
   have ec:cls[j]?=some (cls[j]'(by lia)):=bD (by lia)
   obtain⟨c,u,hp,VF,huM,Bm⟩:=prM.2 j p _ ep ec
   generalize cls[j]'(by lia)=cl at ec VF Bm
   refine⟨p,_,rfl,bC (s5 _ _ hp),rfl,?_⟩
   repeat (first | walk_at "rl" | simp only[ui,Ik])
   obtain⟨qc,hqc,lcq⟩:=VF
   have lcc:=lcq.1
   have aFR:cl.length<=6:=by
    have:=((mem cl).mp (dE ec)).length_le
    rw[aM,cz]at this
    lia
   have Z5:∀a∈bs,∃kvs,H a=some (.dK kvs)/\cB kvs (Sum.inr n)=some (.bl (ev a n)):=λa ha=>by
    obtain⟨kvs,hk,fa,he⟩:=rows a ha
    obtain⟨v,hv⟩:=fa n hin
    exact⟨kvs,hk,by rw[<-he n hin,iR hv];exact hv⟩
   refine⟨.inl ⟨rfl,_,aP Zj⟩,by decide,λp1 J3=>?_⟩
   have t1:=av J3 (.tup [V.ref c,V.ref u])
   have gp1:upd H5 p1 (.tup [V.ref c,V.ref u]) p1=some (.tup [V.ref c,V.ref u]):=ag
   generalize upd H5 p1 (.tup [V.ref c,V.ref u])=H5a at t1 gp1 ⊢
   have aAX:=t1 _ _ Zj
   have Sq:=s5.trans t1
   have aFQ:ds.length<=729:=by lia
   refine⟨_,aAX,by rw[aM];exact aL (by have:=prq.1;lia),?_⟩
   have aCn:Bz bs ev M H5a (qs++[p1]) (ds++[cl]):=(prq.mono (Kx.of t1)).snoc ⟨c,u,gp1,⟨qc,Sq _ _ hqc,lcq.mono (aD Sq)⟩,huM,Sq _ _ Bm⟩
   have WX:=aCn.mono (Kx.put (o:=.lst (List.map V.ref qs++[V.ref p1])) aAX)
   have sH6:bf H3 (upd H5a M (.lst (List.map V.ref qs++[V.ref p1]))):=bp Sq hM
   have Ux:upd H5a M (.lst (List.map V.ref qs++[V.ref p1])) M=some (.lst (List.map V.ref (qs++[p1]))):=by rw[ag,bP];rfl
   generalize upd H5a M (.lst (List.map V.ref qs++[V.ref p1]))=H6 at WX sH6 Ux ⊢
   walk_at "r"
   refine⟨.inl ⟨rfl,_,aP Ux⟩,?_⟩
   refine⟨by decide,λa2 ha2=>?_⟩
   have u21:=av ha2 (.tup [.str n,.bl false])
   have la2:gE (upd H6 a2 (.tup [.str n,.bl false])) a2 (n,false):=ag
   generalize upd H6 a2 (.tup [.str n,.bl false])=Ha2 at u21 la2 ⊢
   refine⟨by decide,λb2 Nb=>?_⟩
   have u22:=av Nb (.tup [V.ref a2])
   generalize upd Ha2 b2 (.tup [V.ref a2])=Hb2 at u22 ⊢
   have v22:=u21.trans u22
   have ZV:=sH6.trans v22
   refine⟨_,ZV _ _ hqc,by rw[aM,lcc];exact aL (by lia),λc2 Hc2 u23 _ RN=>?_⟩
   have v23:=v22.trans u23
   have sc2:=sH6.trans v23
   have aFc:de Hc2 (cl++[(n,false)]) c2:=⟨qc++[a2],by rw[RN,bP];rfl,(lcq.mono (aD sc2)).snoc (u23 _ _ (u22 _ _ la2))⟩
   refine⟨⟨_,aP (sc2 _ _ Bm)⟩,?_⟩
   refine Ke (ev:=ev) (n:=n) false rfl (sc2 _ _ Bm) (λa ha=>?_) rfl (by have:=qp (λb=>cl.all λx=>!(ev b x.1==x.2)) bs;exact df this lb) λZ Hd2 u24 hZ hZd=>?_
   ·obtain⟨kvs,hk,hv⟩:=Z5 a (mC.mp ha).1
    exact⟨kvs,sc2 _ _ (s3 _ _ hk),hv⟩
   rw[<-Jg]at hZd
   have v24:=v23.trans u24
   refine⟨by decide,λp2 BV=>?_⟩
   have u25:=av BV (.tup [V.ref c2,V.ref Z])
   have gp2:upd Hd2 p2 (.tup [V.ref c2,V.ref Z]) p2=some (.tup [V.ref c2,V.ref Z]):=ag
   generalize upd Hd2 p2 (.tup [V.ref c2,V.ref Z])=He2 at u25 gp2 ⊢
   have v25:=v24.trans u25
   have aAW:=v25 _ _ Ux
   have aEj:Z≠M:=λe=>by rw[e]at hZ;rw[v23 _ _ Ux]at hZ;cases hZ
   refine⟨_,aAW,by rw[aM];exact aL (by have:=WX.1;simp at this ⊢;lia),?_⟩
   have aCl:Bz bs ev M He2 ((qs++[p1])++[p2]) ((ds++[cl])++[cl++[(n,false)]]):=(WX.mono (Kx.of v25)).snoc ⟨c2,Z,gp2,aFc.mono (aD (u24.trans u25)),aEj,u25 _ _ hZd⟩
   have WW:=aCl.mono (Kx.put (o:=.lst (List.map V.ref (qs++[p1])++[V.ref p2])) aAW)
   have sH7:bf H3 (upd He2 M (.lst (List.map V.ref (qs++[p1])++[V.ref p2]))):=bp (sH6.trans v25) hM
   have Uw:upd He2 M (.lst (List.map V.ref (qs++[p1])++[V.ref p2])) M=some (.lst (List.map V.ref (qs++[p1]++[p2]))):=by rw[ag,bP (l₁:=qs++[p1])];rfl
   generalize upd He2 M (.lst (List.map V.ref (qs++[p1])++[V.ref p2]))=H7 at WW sH7 Uw ⊢
   walk_at "r"
   refine⟨.inl ⟨rfl,_,aP Uw⟩,?_⟩
   refine⟨by decide,λa3 ha3=>?_⟩
   have u31:=av ha3 (.tup [.str n,.bl true])
   have la3:gE (upd H7 a3 (.tup [.str n,.bl true])) a3 (n,true):=ag
   generalize upd H7 a3 (.tup [.str n,.bl true])=Ha3 at u31 la3 ⊢
   refine⟨by decide,λb3 hb3=>?_⟩
   have u32:=av hb3 (.tup [V.ref a3])
   generalize upd Ha3 b3 (.tup [V.ref a3])=Hb3 at u32 ⊢
   have v32:=u31.trans u32
   have sb3:=sH7.trans v32
   refine⟨_,sb3 _ _ hqc,by rw[aM,lcc];exact aL (by lia),λc3 Hc3 u33 _ hc3=>?_⟩
   have v33:=v32.trans u33
   have sc3:=sH7.trans v33
   have aFb:de Hc3 (cl++[(n,true)]) c3:=⟨qc++[a3],by rw[hc3,bP];rfl,(lcq.mono (aD sc3)).snoc (u33 _ _ (u32 _ _ la3))⟩
   refine⟨⟨_,aP (sc3 _ _ Bm)⟩,?_⟩
   refine Ke (ev:=ev) (n:=n) true rfl (sc3 _ _ Bm) (λa ha=>?_) rfl (by have:=qp (λb=>cl.all λx=>!(ev b x.1==x.2)) bs;exact df this lb) λZ Hd3 u34 hZ hZd=>?_
   ·obtain⟨kvs,hk,hv⟩:=Z5 a (mC.mp ha).1
    exact⟨kvs,sc3 _ _ (s3 _ _ hk),hv⟩
   rw[<-Jg]at hZd
   have v34:=v33.trans u34
   refine⟨by decide,λp3 J2=>?_⟩
   have u35:=av J2 (.tup [V.ref c3,V.ref Z])
   have gp3:upd Hd3 p3 (.tup [V.ref c3,V.ref Z]) p3=some (.tup [V.ref c3,V.ref Z]):=ag
   generalize upd Hd3 p3 (.tup [V.ref c3,V.ref Z])=He3 at u35 gp3 ⊢
   have v35:=v34.trans u35
   have aAV:=v35 _ _ Uw
   have aEi:Z≠M:=λe=>by rw[e]at hZ;rw[v33 _ _ Uw]at hZ;cases hZ
   refine⟨_,aAV,by rw[aM];exact aL (by have:=WW.1;simp at this ⊢;lia),?_⟩
   have aCk:Bz bs ev M He3 ((qs++[p1]++[p2])++[p3]) ((ds++[cl]++[cl++[(n,false)]])++[cl++[(n,true)]]):=(WW.mono (Kx.of v35)).snoc ⟨c3,Z,gp3,aFb.mono (aD (u34.trans u35)),aEi,u35 _ _ hZd⟩
   have aCm:=aCk.mono (Kx.put (o:=.lst (List.map V.ref (qs++[p1]++[p2])++[V.ref p3])) aAV)
   refine(u6 _ _ _).mpr ⟨_,_,qs++[p1]++[p2]++[p3],ds++[cl]++[cl++[(n,false)]]++[cl++[(n,true)]],rfl,bp (sH7.trans v35) hM,by rw[ag,bP (l₁:=qs++[p1]++[p2])];rfl,aCm,by simp;lia,λx=>?_⟩
   rw[dU ec]
   simp only[bT,bR,P8]
   constructor
   ·rintro(((⟨c,hc,h⟩ | rfl) | rfl) | rfl)
    ·exact⟨c,.inl hc,h⟩
    ·exact⟨_,.inr rfl,.inl rfl⟩
    ·exact⟨_,.inr rfl,.inr ⟨_,rfl⟩⟩
    ·exact⟨_,.inr rfl,.inr ⟨_,rfl⟩⟩
   ·rintro⟨c,hc | rfl,h⟩
    ·exact .inl (.inl (.inl ⟨c,hc,h⟩))
    ·rcases h with rfl | ⟨b,rfl⟩
     ·exact .inl (.inl (.inr rfl))
     ·cases b
      ·exact .inl (.inr rfl)
      ·exact .inr rfl
  ·obtain⟨x3,x4,qs,ds,rfl,s5,Zj,prq,lds,P8⟩:=(u6 _ _ _).mp pw
   rw[aM,lps]at lds P8
   rw[fu]at P8
   walk_at "r"
   refine(cx _ _ _).mpr ⟨M,_,_,_,_,qs,ds,rfl,s3.trans s5,Zj,prq,by rw[lds,lcl,pA,vv],λcl=>?_⟩
   rw[dU en,sub_snoc,P8]
   constructor
   ·rintro⟨c,hc,rfl | ⟨b,rfl⟩⟩
    ·exact .inl ((mem _).mp hc)
    ·exact .inr ⟨c,b,rfl,(mem _).mp hc⟩
   ·rintro(h | ⟨c,b,rfl,h⟩)
    ·exact⟨cl,(mem _).mpr h,.inl rfl⟩
    ·exact⟨c,(mem _).mpr h,.inr ⟨b,rfl⟩⟩
 ·obtain⟨Lp,x1,x2,x3,x4,ps,cls,rfl,s3,hLp,WT,lcl,mem⟩:=(cx _ _ _).mp pv
  rw[aM]at lcl mem
  rw[fu]at mem
  have lps:=WT.1
  have l3:3 ^ ns.length<=729:=df (qo (by decide) l6) (by decide)
  walk_at "r"
  intro d hd
  have s4:=av hd (iW P w d [])
  walk_at "r"
  refine⟨⟨_,aP (s4 _ _ hLp)⟩,?_⟩
  obtain⟨Pz,Zh⟩:∃Pz:Nat->St->Hp->Prop,∀j σ' H',Pz j σ' H'↔∃(x3 x4:Option V) (ks:List (Cl×Addr)),σ'=[some (.ref N),some (.ref R),some (.ref Lp),x1,x2,x3,x4,some (.ref d)]/\bf H3 H'/\H' d=some (iW P w d ks)/\(∀k∈ks,de H' k.1 k.2)/\(ks.map (·.1)).Nodup/\ks.length<=j/\∀cl,cl∈ks.map (·.1)↔cl∈cls.take j/\un bs ev cl=[]:=⟨_,λ_ _ _=>cp⟩
  refine bO (xs:=List.map V.ref ps) Pz ((Zh _ _ _).mpr ⟨_,_,[],rfl,s4,ag,(λk hk=>nomatch hk),rM,aU _,λcl=>by simp⟩) (λj σ' H' _ pz=>?_) (λj z σ' H5 hz pz=>?_) (λσ' H5 pz=>?_)
  ·obtain⟨_,_,_,_,s,_⟩:=(Zh _ _ _).mp pz
   exact s _ _ hLp
  ·obtain⟨x3,x4,ks,rfl,s5,X4,Yx,YX,lk5,DQ⟩:=(Zh _ _ _).mp pz
   obtain⟨p,ep,rfl⟩:=dB hz
   have hj:j<ps.length:=(cy.mp ep).1
   have ec:cls[j]?=some (cls[j]'(by lia)):=bD (by lia)
   obtain⟨c,u,hp,VF,_,Bm⟩:=WT.2 j p _ ep ec
   generalize cls[j]'(by lia)=cl at ec VF Bm
   refine⟨p,_,rfl,bC (s5 _ _ hp),rfl,?_⟩
   repeat (first | walk_at "rl" | simp only[ui,Ik])
   refine⟨by decide,λe he=>?_⟩
   have t1:=av he (.lst [])
   have ge:upd H5 e (.lst []) e=some (.lst []):=ag
   generalize upd H5 e (.lst [])=H6 at t1 ge ⊢
   have s6:=s5.trans t1
   have hd6:=t1 _ _ X4
   have U6:∀k∈ks,de H6 k.1 k.2:=λk hk=>(Yx k hk).mono (aD t1)
   have up:lI H6 (upd H6 d (iW P w d (qP ks cl c))):=λq xs z=>by rw[au (fE z hd6 (by intro y;cases y))];exact z
   have aAO:=VF.mono (aD s6)
   refine⟨_,s6 _ _ Bm,?_⟩
   by_cases hun:un bs ev cl=[]
   ·rw[aB (by rw[hun];rfl)]
    refine⟨ks,hd6,U6,cl,aAO,YX,aL (by lia),(Zh _ _ _).mpr ⟨_,_,qP ks cl c,rfl,bp s6 hd,ag,?_,?_,?_,λx=>?_⟩⟩
    ·unfold qP
     split
     ·exact λk hk=>(U6 k hk).mono (by unfold qP at up;rename_i hn;rw[aB hn]at up;exact up)
     ·rename_i hn
      unfold qP at up
      rw[aA hn]at up
      intro k hk
      rcases bT.mp hk with hk | hk
      ·exact(U6 k hk).mono up
      ·rw[bR.mp hk];exact aAO.mono up
    ·unfold qP
     split
     ·exact YX
     ·rename_i hn
      rw[bP,qm]
      exact⟨YX,by simp,λx hx y hy z=>hn (by rw[show y=cl by simpa using hy]at z;rw[<-z];exact hx)⟩
    ·unfold qP
     split
     ·lia
     ·rw[cw,ja];lia
    ·rw[dU ec,bT,bR]
     unfold qP
     split
     ·rename_i hn
      rw[DQ]
      exact⟨λh=>⟨.inl h.1,h.2⟩,λh=>h.1.elim (λz=>⟨z,h.2⟩) λz=>by rw[z];exact(DQ cl).mp hn⟩
     ·rw[bP,bT,DQ,eI,vt,bR]
      exact⟨λh=>h.elim (λz=>⟨.inl z.1,z.2⟩) λz=>⟨.inr z,by rw[z];exact hun⟩,λh=>h.1.elim (λz=>.inl ⟨z,h.2⟩) .inr⟩
   ·rw[aA (λz=>hun (Gn.mp z))]
    refine(Zh _ _ _).mpr ⟨_,_,ks,rfl,s6,hd6,U6,YX,by lia,λx=>?_⟩
    rw[DQ,dU ec,bT,bR]
    exact⟨λh=>⟨.inl h.1,h.2⟩,λh=>h.1.elim (λz=>⟨z,h.2⟩) λz=>absurd (by rw[<-z];exact h.2) hun⟩
  ·obtain⟨x3,x4,ks,rfl,s5,X4,Yx,YX,lk5,DQ⟩:=(Zh _ _ _).mp pz
   rw[aM,lps]at lk5 DQ
   rw[fu]at DQ
   walk_at "r"
   exact q d ks H5 (s3.trans s5) (s3.free hd) X4 Yx YX (by lia) λcl=>by rw[DQ,mem,R4]
end
local macro_rules | `(tactic| walk_at "rd") => `(tactic| walk_at "rc")
local macro_rules | `(tactic| walk_at "rl") => `(tactic| first | (refine cT fun R hR => ?_) | walk_at "ry" | (refine Nx.to (by assumption) _ _ ?_))
def Vc(r:Rl)(cl:Cl):Prop:=∀e:Str->Bool,r.val e=true->∃x∈cl,e x.1=x.2
structure Short(r:Rl)(cl:Cl):Prop where
 inc:Cd (cl.map (·.1))
 sub:∀x∈cl,x.1∈r.names
 Il:Vc r cl
 least:∀i,i<cl.length->¬Vc r (cl.eraseIdx i)
theorem pK:∀{m l:List Str},Cd l->Cd m->(∀x∈l,x∈m)->l.Sublist m
 | m,[],_,_,_=>List.nil_sublist _
 | [],a::l,_,_,h=>nomatch h a di
 | b::m,a::l,hl,hm,h=>by
  have Vz:=zC.mp hl
  have hm':=zC.mp hm
  by_cases e:a=b
  ·subst e
   refine(pK (m:=m) (l:=l) Vz.2 hm'.2 λx hx=>?_).cons₂ _
   rcases dR.mp (h x (fw _ hx)) with z | z
   ·have:=Vz.1 x hx
    rw[z]at this
    exact absurd this (lK _)
   ·exact z
  ·have ha:a∈m:=(dR.mp (h a di)).elim (λz=>absurd z e) id
   refine(pK (m:=m) (l:=a::l) hl hm'.2 λx hx=>?_).cons _
   rcases dR.mp (h x hx) with z | z
   ·have hb:=hm'.1 a ha
    rcases dR.mp hx with y | y
    ·rw[y];exact ha
    ·have:=rK hb (Vz.1 x y)
     rw[z]at this
     exact absurd this (lK _)
   ·exact z
def evH(H:Hp)(b:Addr)(n:Str):Bool:=match H b with | some (.dK kvs)=>gq kvs n | _=>false
theorem Im{H:Hp}{b:Addr}{kvs:List (Key×V)}(h:H b=some (.dK kvs))(n:Str):evH H b n=gq kvs n:=by unfold evH;rw[h]
def Sb:Sp:=λvs H Q _=>∃p,vs=[.ref p]/\∃r,iF H r p/\r.deep<=6/\Few r/\
 ∀D cs us H',bf H H'->H D=none->H' D=some (.lst (List.map V.ref cs))->ClsAt H' cs us->us.Pairwise (λx y=>oP x y=true)->us.length<=900->(∀cl,cl∈us↔Short r cl)->Q (.ref D) H'
section
variable {P:Program}{w:World}{K:PySem.W.Frag}{mg:Str->Option Value}{base:Heap}{t:tN}
theorem Pk(T:Txt K mg t):cE P w K mg base g6 10 t.jV t.jR ["rule"] Sb:=by
 have qb:=t8 (P:=P) (w:=w) (base:=base) T
 have nY:=Pp (P:=P) (w:=w) (base:=base) T
 have tK:=TJ (P:=P) (w:=w) (base:=base) T
 have xN:=Hq (P:=P) (w:=w) (base:=base) T
 have qd:=Lk (P:=P) (w:=w) (base:=base) T
 refine T.o8.lT mM (λvs H Q E h=>?_) (λdz A outer s H vs Q E hr h hc hf=>?_)
 ·obtain⟨p,rfl,_⟩:=h;rfl
 obtain⟨p,rfl,r,ra,h6,few,q⟩:=h
 obtain⟨us0,aDw,aBP⟩:=id few
 have hu:=fF hr
 have Bn:=hr.dI
 refine⟨_,(by apply ai;exact(aE hc mM.nd hf 1 (by decide +kernel) (aC tK (hr.mono (by omega)) (cG hc) T.sD T.kz.kp T.tE .nil aY (ae (aC qb (hr.mono (by omega)) (cG hc) T.wz T.qf.kp T.wQ .nil aY (ae (aj hc 0) ah)) (ae (aC nY (hr.mono (by omega)) (cG hc) T.ua T.oj.kp T.uw .nil aY (ae (aj hc 0) ah)) ah))));exact ak (aF (aC qd (hr.mono (by omega)) (cG hc) T.pU T.jx.kp T.p7 .nil aY (ae (bX hc ["clause"] [1] rfl (by decide +kernel) (Ks (aj hc 1)) (λ_ hc=>kJ hc (by decide +kernel) 0 (by decide +kernel)) (λ_ hc=>fO (ou (iL (aC xN (hr.mono (by omega)) (cG hc) T.xk T.o9.kp T.xF .nil aY (ae (aj hc 0) (ae (aj hc 1) ah)))))) (λ_ hc=>(aj hc 0))) ah)))),?_⟩
 walk_at "r"
 refine⟨p,rfl,r,ra,h6,λN ts H1 s1 hN Zi mem nd uS=>?_⟩
 have RD:ts.length<=6:=df (cP nd λz hz=>aBP z ((mem z).mp hz)) aDw
 have inc:=HS uS nd
 refine⟨p,rfl,r,ra.mono (aD s1),h6,few,λR bs H2 s2 hR hR2 lbs gd al=>?_⟩
 have RB:=s1.trans s2
 refine⟨N,R,rfl,ts,bs,evH H2,s2 _ _ Zi,RD,hR2,by lia,(λb hb=>?_),λd ks H3 s3 hd Zd all nk lk aAs=>?_⟩
 ·obtain⟨kvs,hk,fx,_⟩:=gd b hb
  exact⟨kvs,hk,(λx hx=>fx.fact x ((mem x).mp hx)),λn _=>(Im hk n).symm⟩
 have s13:=RB.trans s3
 have Il:∀{cl:Cl},(∀x∈cl,x.1∈r.names)->((∀b∈bs,∃x∈cl,evH H2 b x.1=x.2)↔Vc r cl):=λ{cl} hs=>by
  constructor
  ·intro h e he
   obtain⟨b,hb,kvs,hk,ee⟩:=al e he
   obtain⟨x,hx,ex⟩:=h b hb
   exact⟨x,hx,by rw[<-ee x.1 (hs x hx),<-Im hk];exact ex⟩
  ·intro h b hb
   obtain⟨kvs,hk,_,hv⟩:=gd b hb
   obtain⟨x,hx,ex⟩:=h _ hv
   exact⟨x,hx,by rw[Im hk];exact ex⟩
 have key:∀cl,cl∈ks.map (·.1)↔(Cd (cl.map (·.1))/\∀x∈cl,x.1∈r.names)/\Vc r cl:=λcl=>by
  rw[aAs]
  constructor
  ·rintro⟨h1,h2⟩
   have hs:∀x∈cl,x.1∈r.names:=λx hx=>(mem _).mp (h1.subset (bH.mpr ⟨x,hx,rfl⟩))
   exact⟨⟨inc.sublist h1,hs⟩,(Il hs).mp h2⟩
  ·rintro⟨⟨h1,hs⟩,h2⟩
   refine⟨pK h1 inc λx hx=>?_,(Il hs).mpr h2⟩
   obtain⟨y,hy,rfl⟩:=bH.mp hx
   exact(mem _).mpr (hs y hy)
 have short:∀cl,Short r cl↔cl∈ks.map (·.1)/\¬∃i,i<cl.length/\cl.eraseIdx i∈ks.map (·.1):=λcl=>by
  constructor
  ·intro h
   exact⟨(key cl).mpr ⟨⟨h.inc,h.sub⟩,h.Il⟩,λ⟨i,hi,hk⟩=>h.least i hi ((key _).mp hk).2⟩
  ·rintro⟨h1,h2⟩
   obtain⟨⟨a,b⟩,c⟩:=(key cl).mp h1
   have sl:∀i,(cl.eraseIdx i).Sublist cl:=λi=>List.eraseIdx_sublist ..
   exact⟨a,b,c,λi hi hf=>h2 ⟨i,hi,(key _).mpr ⟨⟨a.sublist (FJ _ (sl i)),λx hx=>b x ((sl i).subset hx)⟩,hf⟩⟩⟩
 have aDz:∀cl∈ks.map (·.1),cl.length<=6:=λcl hc=>by
  have:=((aAs cl).mp hc).1.length_le
  rw[aM]at this
  lia
 walk_at "r"
 refine⟨ks,Zd,λo=>?_⟩
 have hdH:H d=none:=RB.free hd
 have s4:bf H (upd H3 d (.m9 o (iW P w d ks))):=bp s13 hdH
 have up:lI H3 (upd H3 d (.m9 o (iW P w d ks))):=λq xs z=>by rw[au (fE z Zd (by intro y;cases y))];exact z
 have Yy:∀k∈ks,de (upd H3 d (.m9 o (iW P w d ks))) k.1 k.2:=λk hk=>(all k hk).mono up
 have Zc:upd H3 d (.m9 o (iW P w d ks)) d=some (.m9 o (iW P w d ks)):=ag
 change fJ (Itc P w d o ks) _ _ _ _ _ _ _ (upd H3 d (.m9 o (iW P w d ks)))
 generalize upd H3 d (.m9 o (iW P w d ks))=H4 at s4 Yy Zc ⊢
 have dat:DAt P w H4 d ks:=⟨.inr ⟨o,Zc⟩,Yy,nk⟩
 obtain⟨Pc,iu⟩:∃Pc:Addr->Nat->List V->Hp->Prop,∀Z i ys H',Pc Z i ys H'↔∃(cs:List Addr) (us:List Cl),ys=List.map V.ref cs/\bf H4 H'/\H' Z=some (.lst ys)/\ClsAt H' cs us/\us.length<=i/\∀cl,cl∈us↔(∃k∈ks.take i,k.1=cl)/\¬∃i,i<cl.length/\cl.eraseIdx i∈ks.map (·.1):=⟨_,λ_ _ _ _=>cp⟩
 refine xB Pc (λZ hZ=>(iu _ _ _ _).mpr ⟨[],[],rfl,av hZ _,ag,⟨rfl,λi b t e=>by simp at e⟩,aU _,λcl=>by simp⟩) (λZ hZ i ys H' _ pv=>?_) (λZ hZ i k ys H' hk pv cb=>?_) (λZ hZ ys H' pv=>?_)
 ·obtain⟨_,_,_,s,_⟩:=(iu _ _ _ _).mp pv
  exact s _ _ Zc
 ·obtain⟨cs,us,rfl,sZ,m8,cat,YZ,P7⟩:=(iu _ _ _ _).mp pv
  have hi:i<ks.length:=(cy.mp hk).1
  have hkm:k∈ks:=dE hk
  have hck:=(Yy k hkm).mono (aD sZ)
  have lcs:=cat.1
  walk_at "rc"
  walk_at "r"
  refine⟨k.2,d,rfl,k.1,ks,hck,df (aDz k.1 (bH.mpr ⟨k,hkm,rfl⟩)) (by decide),dat.mono sZ,λb tJ Fu hb=>?_⟩
  walk_at "r"
  have tk:ks.take (i+1)=ks.take i++[k]:=dU hk
  cases b with
  | true=>
   obtain hsh:=hb.mp rfl
   rw[aA (by simp)]
   refine(iu _ _ _ _).mpr ⟨cs,us,rfl,sZ.trans Fu,Fu _ _ m8,cat.mono (aD Fu),by lia,λcl=>?_⟩
   rw[P7,tk]
   constructor
   ·rintro⟨⟨k',h1,h2⟩,h3⟩
    exact⟨⟨k',j4 _ h1,h2⟩,h3⟩
   ·rintro⟨⟨k',h1,h2⟩,h3⟩
    rcases bT.mp h1 with z | z
    ·exact⟨⟨k',z,h2⟩,h3⟩
    ·rw[bR.mp z]at h2
     rw[<-h2]at h3
     exact absurd hsh h3
  | false=>
   have hsh:¬∃i,i<k.1.length/\k.1.eraseIdx i∈ks.map (·.1):=λz=>by cases hb.mpr z
   rw[aB (by simp)]
   refine⟨Fu _ _ m8,aL (by lia),(iu _ _ _ _).mpr ⟨cs++[k.2],us++[k.1],by simp,bp (sZ.trans Fu) hZ,ag,?_,by simp;lia,λcl=>?_⟩⟩
   ·have aFf:=cat.mono (aD Fu)
    have hk2:=hck.mono (aD Fu)
    have kx:=hX (o:=.lst (List.map V.ref cs++[V.ref k.2])) (Fu _ _ m8)
    refine⟨by simp[lcs],λj b t eb et=>?_⟩
    by_cases hj:j<cs.length
    ·rw[gh hj]at eb
     rw[gh (by lia)]at et
     exact(aFf.2 j b t eb et).mono kx
    ·have l:=(cy.mp eb).1
     rw[cw,ja]at l
     have uL:j=cs.length:=by lia
     rw[uL,fC (aU _),jP]at eb
     rw[uL,lcs,fC (aU _),jP]at et
     cases eb
     cases et
     exact hk2.mono kx
   ·rw[bT,P7,tk,bR]
    constructor
    ·rintro(⟨⟨k',h1,h2⟩,h3⟩ | h)
     ·exact⟨⟨k',j4 _ h1,h2⟩,h3⟩
     ·rw[h];exact⟨⟨k,by simp,rfl⟩,hsh⟩
    ·rintro⟨⟨k',h1,h2⟩,h3⟩
     rcases bT.mp h1 with z | z
     ·exact .inl ⟨⟨k',z,h2⟩,h3⟩
     ·rw[bR.mp z]at h2
      exact .inr h2.symm
 ·obtain⟨cs,us,rfl,sZ,m8,cat,YZ,P7⟩:=(iu _ _ _ _).mp pv
  rw[fu]at P7
  refine⟨Z,rfl,cs,us,m8,cat,by lia,λD H5 ds vs s5 hD Mh aFe Zz memD=>?_⟩
  have hZ4:=s4.trans sZ
  refine q D ds vs H5 (hZ4.trans s5) (hZ4.free hD) Mh aFe Zz ?_ λcl=>?_
  ·have nds:vs.Nodup:=Zz.imp λ{x y} h1 h2=>by rw[h2]at h1;unfold oP at h1;rw[wB]at h1;simp at h1
   have:=len_sub nds λx hx=>(memD x).mp hx
   lia
  ·rw[memD,P7,short,bH]
end
local macro_rules | `(tactic| walk_at "rd") => `(tactic| walk_at "rc")
local macro_rules | `(tactic| walk_at "rl") => `(tactic| first | (refine cT fun R hR => ?_) | walk_at "ry" | (refine Nx.to (by assumption) _ _ ?_))
theorem Cj{kvs:List (Key×V)}{k:Key}(h:k∉kvs.map (·.1)):cB kvs k=none:=by
 unfold cB
 rw[Gu,Gi]
 intro kv X3
 have:kv.1≠k:=λe=>h (bH.mpr ⟨kv,X3,e⟩)
 simpa using this
theorem uP{kvs:List (Key×V)}{k:Key}(h:k∈kvs.map (·.1)):∃v,cB kvs k=some v:=by
 obtain⟨kv,X3,e⟩:=bH.mp h
 cases z:cB kvs k with
 | some v=>exact⟨v,rfl⟩
 | none=>
  unfold cB at z
  rw[Gu,Gi]at z
  exact absurd e (by simpa using z kv X3)
theorem Qn{kvs:List (Key×V)}{k:Key}{u:V}(v:V)(h:cB kvs k=some u):(putK kvs k v).map (·.1)=kvs.map (·.1):=by
 have hm:k∈kvs.map (·.1):=xR λz=>by rw[Cj z]at h;cases h
 obtain⟨kv,X3,e⟩:=bH.mp hm
 unfold putK
 rw[aB (qi.mpr ⟨kv,X3,by simpa using e⟩),iG]
 refine tR λx _=>?_
 show(if x.1=k then (x.1,v) else x).1=x.1
 split <;> rfl
structure Km(kvs:List (Key×V))(ls:Cl):Prop where
 keys:∃ns:List Str,kvs.map (·.1)=ns.map Sum.inr/\ns.Nodup/\ns.length<=ls.length
 back:∀s v,cB kvs (Sum.inr s)=some v->∃b,v=.bl b/\(s,b)∈ls
 all:∀x∈ls,cB kvs (Sum.inr x.1)=some (.bl x.2)
theorem Km.nil:Km [] []:=⟨⟨[],rfl,rM,aU _⟩,(λs v h=>nomatch h),λx hx=>nomatch hx⟩
theorem Km.one{kvs:List (Key×V)}{ls:Cl}(h:Km kvs ls):One ls:=λx hx y hy e=>by
 have h1:=h.all x hx
 have h2:=h.all y hy
 rw[e,h2]at h1
 injection h1 with h1
 injection h1 with h1
 exact h1.symm
theorem Km.len{kvs:List (Key×V)}{ls:Cl}(h:Km kvs ls):kvs.length<=ls.length:=by
 obtain⟨ns,e,_,l⟩:=h.keys
 have:=gj List.length e
 rw[aM,aM]at this
 omega
theorem Km.put{kvs:List (Key×V)}{ls:Cl}{n:Str}{b:Bool}(h:Km kvs ls)(hv:cB kvs (Sum.inr n)=none\/cB kvs (Sum.inr n)=some (.bl b)):Km (putK kvs (Sum.inr n) (.bl b)) (ls++[(n,b)]):=by
 obtain⟨ns,ek,nd,hl⟩:=h.keys
 refine⟨?_,λs v e=>?_,λx hx=>?_⟩
 ·rcases hv with hv | hv
  ·refine⟨ns++[n],by rw[Df _ hv,bP,ek,bP];rfl,?_,by simp;omega⟩
   rw[qm]
   refine⟨nd,by simp,λa ha c hc z=>?_⟩
   rw[bR.mp hc]at z
   have hm:(Sum.inr n:Key)∈kvs.map (·.1):=by rw[ek];exact bH.mpr ⟨a,ha,by rw[z]⟩
   obtain⟨u,hu⟩:=uP hm
   rw[hv]at hu;cases hu
  ·exact⟨ns,by rw[Qn _ hv,ek],nd,by simp;omega⟩
 ·rw[vP]at e
  split at e
  ·rename_i hs
   have hs':s=n:=rD hs
   injection e with e
   exact⟨b,e.symm,by rw[hs'];simp⟩
  ·obtain⟨c,e1,e2⟩:=h.back s v e
   exact⟨c,e1,j4 _ e2⟩
 ·rw[vP]
  rcases bT.mp hx with hx | hx
  ·have ha:=h.all x hx
   split
   ·rename_i hs
    rw[hs]at ha
    rcases hv with hv | hv
    ·rw[hv]at ha;cases ha
    ·rw[hv]at ha
     exact ha
   ·exact ha
  ·rw[bR.mp hx]
   exact aB rfl
theorem Km.aFd{kvs:List (Key×V)}{ls:Cl}{ns ss:List Str}(h:Km kvs ls)(ek:kvs.map (·.1)=ns.map Sum.inr)(nd:ns.Nodup)(pm:ss.Perm ns)(uS:PyProof.Rows.sortedS ss=true):Ft ls (ss.map λn=>(n,gq kvs n)):=by
 refine⟨?_,λx=>⟨λhx=>?_,λhx=>?_⟩⟩
 ·rw[iG]
  show Cd (ss.map λn=>n)
  rw[List.map_id']
  exact HS uS (pm.nodup_iff.mpr nd)
 ·obtain⟨n,hn,rfl⟩:=bH.mp hx
  have hm:(Sum.inr n:Key)∈kvs.map (·.1):=by rw[ek];exact bH.mpr ⟨n,pm.mem_iff.mp hn,rfl⟩
  obtain⟨v,hv⟩:=uP hm
  obtain⟨b,rfl,hb⟩:=h.back n v hv
  rw[iR hv]
  exact hb
 ·have ha:=h.all x hx
  have hm:x.1∈ns:=by
   have:(Sum.inr x.1:Key)∈kvs.map (·.1):=xR λz=>by rw[Cj z]at ha;cases ha
   rw[ek]at this
   obtain⟨n,hn,e⟩:=bH.mp this
   rw[<-rD e];exact hn
  refine bH.mpr ⟨x.1,pm.mem_iff.mpr hm,?_⟩
  rw[iR ha]
def Wr:Sp:=λvs H Q _=>∃L,vs=[.ref L]/\∃ps ls,H L=some (.lst (List.map V.ref ps))/\dC H ps ls/\ls.length<=50/\
 ∀H',bf H H'->(¬One ls->Q .non H')/\(One ls->∀p cl,H p=none->de H' cl p->Ft ls cl->Q (.ref p) H')
section
variable {P:Program}{w:World}{K:PySem.W.Frag}{mg:Str->Option Value}{base:Heap}{t:tN}
theorem TY{kvs:List (Key×V)}{ls:Cl}{i:Nat}{n:Str}{b c:Bool}(tr:Km kvs (ls.take i))(e:ls[i]?=some (n,b))(hv:cB kvs (Sum.inr n)=some (.bl c))(rz:c≠b):¬One ls:=λh=>by
 obtain⟨d,e1,e2⟩:=tr.back n _ hv
 injection e1 with e1
 rw[<-e1]at e2
 exact rz (h (n,c) (tT e2) (n,b) (dE e) rfl)
theorem Iu{K:PySem.W.Frag}{S D:Addr}{ss:List Str}{kvs:List (Key×V)}{j:Nat}{σ:St}{H2:Hp}{Q:VK}(hS:H2 S=some (.lst (List.map V.str ss)))(hD:H2 D=some (.dK kvs))(hj:σ[j]?=some (some (.ref D)))(hl:ss.length<=900)(bo:∀n∈ss,∃b,cB kvs (Sum.inr n)=some (.bl b))
  (q:∀Z qs H',bf H2 H'->H2 Z=none->H' Z=some (.lst (List.map V.ref qs))->dC H' qs (ss.map λn=>(n,gq kvs n))->Q (.ref Z) H') :
  fJ (FH K S) 1 [j] (λ_=>cJ 0) (λ_=>wZ) (λ_=>zP (j8 (gI 0) (j8 (j7 (gI 1) (gI 0)) vS))) σ Q H2:=by
 obtain⟨Pc,iu⟩:∃Pc:Addr->Nat->List V->Hp->Prop,∀Z i ys H',Pc Z i ys H'↔∃qs:List Addr,ys=List.map V.ref qs/\bf H2 H'/\H' Z=some (.lst ys)/\dC H' qs ((ss.take i).map λn=>(n,gq kvs n)):=⟨_,λ_ _ _ _=>cp⟩
 refine dX (zs:=List.map V.str ss) Pc (λZ hZ=>(iu _ _ _ _).mpr ⟨[],rfl,av hZ _,ag,dC.nil⟩) (λZ hZ i ys H' _ pv=>?_) (λZ hZ i z ys H' hz pv cb=>?_) (λZ hZ ys H' pv=>?_)
 ·obtain⟨_,_,s,_⟩:=(iu _ _ _ _).mp pv
  exact s _ _ hS
 ·obtain⟨qs,rfl,sZ,m8,lq⟩:=(iu _ _ _ _).mp pv
  obtain⟨n,en,rfl⟩:=vU hz
  have hi:i<ss.length:=(cy.mp en).1
  have lqs:=lq.1
  rw[aM,cz]at lqs
  obtain⟨c,hc⟩:=bo n (dE en)
  have ec:=iR hc
  walk_at "rc"
  repeat (first | walk_at "rd" | simp only[j7,hj,rY])
  refine⟨.bl c,(by have:=oo.k (k:=Sum.inr n) (sZ _ _ hD);rw[hc]at this;exact this),by decide,λp hp=>?_⟩
  have hpZ:Z≠p:=ay m8 hp
  refine⟨by rw[au hpZ];exact m8,aL (by omega),(iu _ _ _ _).mpr ⟨qs++[p],by simp,bp (bp sZ (sZ.free hp)) hZ,ag,?_⟩⟩
  rw[take_one en,bP]
  refine(lq.mono λb xs e=>?_).snoc ?_
  ·rw[au (fE e m8 (by intro z;cases z)),au (ay e hp)];exact e
  ·show upd _ Z _ p=_
   rw[au hpZ.symm,ag]
   show some (HO.tup [V.str n,V.bl c])=some (.tup [.str n,.bl (gq kvs n)])
   rw[ec]
 ·obtain⟨qs,rfl,sZ,m8,lq⟩:=(iu _ _ _ _).mp pv
  rw[aM,fu]at lq
  exact q Z qs H' sZ hZ m8 lq
theorem TV(T:Txt K mg t):cE P w K mg base g6 1 t.nO t.nj ["literals"] Wr:=by
 refine T.uB.lT iM (λvs H Q E h=>?_) (λdz A outer s H vs Q E hr h hc hf=>?_)
 ·obtain⟨L,rfl,_⟩:=h;rfl
 obtain⟨L,rfl,ps,ls,hL,lits,l50,q⟩:=h
 have hu:=fF hr
 have Bn:=hr.dI
 refine⟨_,(by apply ai;exact(aE hc iM.nd hf 1 (by decide +kernel) oz);apply ai;exact(bV eJ rfl (bI (aj hc 0)) (kK rfl (cH (gk hc iM.nd hf 2 (by decide +kernel)) (cH (gk hc iM.nd hf 3 (by decide +kernel)) je))) (by apply ai;exact(bh (aG Dp (fL PySem.F.plainAttrs_dict Gr PySem.F.type_dict_get (T4 hu) (aj hc 1) (ae (aj hc 2) (ae (aj hc 3) ah))) (aj hc 3) (aX _)) (by exact ak (aF qu)) aN);exact ak (vM hu (aj hc 1) (aj hc 2) (aj hc 3) rfl)));exact ak (aF (dA jL (cG hc) T.z_tuple vf (ae (bX hc ["name"] [1] rfl (by decide +kernel) (bI (bA (Iy hr.hd) (cG hc) T.z_sorted ig (ae (aj hc 1) ah))) (λ_ hc=>kJ hc (by decide +kernel) 0 (by decide +kernel)) (λ_ _=>eZ) (λ_ hc=>(bF (ae (aj hc 0) (ae (jf hu (aj hc 1) (aj hc 0) (λ_ _=>rfl)) ah))))) ah)))),?_⟩
 repeat (walk_at "rd")
 intro D hD
 have s1:=av hD (.dK [])
 refine⟨⟨_,aP (s1 _ _ hL)⟩,?_⟩
 obtain⟨Pv,cx⟩:∃Pv:Nat->St->Hp->Prop,∀i σ' H',Pv i σ' H'↔∃(kvs:List (Key×V)) (x y:Option V),σ'=[some (.ref L),some (.ref D),x,y]/\bf H H'/\H' D=some (.dK kvs)/\Km kvs (ls.take i):=⟨_,λ_ _ _=>cp⟩
 refine bO (xs:=List.map V.ref ps) Pv ((cx _ _ _).mpr ⟨[],none,none,rfl,s1,ag,Km.nil⟩) (λi σ' H' _ pv=>?_) (λi z σ' H1 hz pv=>?_) (λσ' H1 pv=>?_)
 ·obtain⟨_,_,_,_,s,_⟩:=(cx _ _ _).mp pv
  exact s _ _ hL
 ·obtain⟨kvs,x,y,rfl,s2,Mi,tr⟩:=(cx _ _ _).mp pv
  obtain⟨p0,ep,rfl⟩:=dB hz
  obtain⟨n,b,ec,Vy⟩:=lits.at ep
  have hi:i<ls.length:=(cy.mp ec).1
  refine⟨p0,_,rfl,bC (s2 _ _ Vy),rfl,?_⟩
  repeat (first | walk_at "rd" | simp only[ui,Ik,Vo,yh])
  have lk:=tr.len
  rw[cz]at lk
  refine⟨.inr (.inr (.inl ⟨rfl,.inl ⟨_,Mi⟩⟩)),kvs,Mi,?_⟩
  cases hv:cB kvs (Sum.inr n) with
  | none=>
   refine⟨rfl,?_⟩
   rw[aA (by simp)]
   refine⟨_,Fq.k (k:=Sum.inr n) Mi (aL (by omega)),(cx _ _ _).mpr ⟨_,_,_,rfl,bp s2 hD,ag,?_⟩⟩
   rw[take_one ec]
   exact tr.put (.inl hv)
  | some v=>
   obtain⟨c,rfl,_⟩:=tr.back n v hv
   refine⟨rfl,?_⟩
   by_cases X6:c=b
   ·subst X6
    rw[aA (by simp)]
    refine⟨_,Fq.k (k:=Sum.inr n) Mi (aL (by omega)),(cx _ _ _).mpr ⟨_,_,_,rfl,bp s2 hD,ag,?_⟩⟩
    rw[take_one ec]
    exact tr.put (.inr hv)
   ·rw[aB (by simp[X6])]
    exact(q _ s2).1 (TY tr ec hv X6)
 ·obtain⟨kvs,x,y,rfl,s2,Mi,tr⟩:=(cx _ _ _).mp pv
  have hl:=lits.1
  rw[aM,hl,fu]at tr
  obtain⟨ns,ek,nd,ln⟩:=tr.keys
  repeat (first | walk_at "rd" | simp only[Oq])
  refine⟨kvs,Mi,ns,ek,by omega,λss pm uS S hS=>⟨⟨_,aP ag⟩,?_⟩⟩
  have sS:=av hS (.lst (List.map V.str ss))
  have bo:∀n∈ss,∃b,cB kvs (Sum.inr n)=some (.bl b):=λn hn=>by
   have hm:(Sum.inr n:Key)∈kvs.map (·.1):=by rw[ek];exact bH.mpr ⟨n,pm.mem_iff.mp hn,rfl⟩
   obtain⟨v,hv⟩:=uP hm
   obtain⟨b,rfl,_⟩:=tr.back n v hv
   exact⟨b,hv⟩
  have lss:=pm.length_eq
  refine Iu ag (sS _ _ Mi) rfl (by omega) bo λZ qs H3 s3 hZ RP lq=>?_
  refine⟨Z,rfl,_,RP,λC hC=>?_⟩
  have s4:=(s2.trans sS).trans s3
  exact(q _ (s4.trans (av hC _))).2 tr.one C _ (s4.free hC) ⟨qs,ag,lq.mono (aD (av hC _))⟩ (tr.aFd ek nd pm uS)
end
local macro_rules | `(tactic| walk_at "rd") => `(tactic| walk_at "rc")
local macro_rules | `(tactic| walk_at "rl") => `(tactic| first | (refine cT fun R hR => ?_) | walk_at "ry" | (refine Nx.to (by assumption) _ _ ?_))
def jl(cl dl:Cl)(n:Str):Cl:=(cl++dl).filter λx=>!decide (x.1=n)
structure Vd(H:Hp)(cl:Cl)(p:Addr):Prop where
 at_:de H cl p
 inc:Cd (cl.map (·.1))
 few:cl.length<=20
theorem Vd.mono{H H':Hp}{cl:Cl}{p:Addr}(h:Vd H cl p)(k:lI H H'):Vd H' cl p:=⟨h.at_.mono k,h.inc,h.few⟩
def N2(C:Addr):Sp:=λvs H Q E=>∃A B n,vs=[.ref A,.ref B,.str n]/\∃cl dl,Vd H cl A/\Vd H dl B/\
 ((n,true)∉cl\/(n,false)∉dl->∀dx H',bf H H'->H' dx=some (.xd [("name",.str n)])->E (.ref C) (some dx) H')/\
 ((n,true)∈cl->(n,false)∈dl->∀H',bf H H'->(¬One (jl cl dl n)->Q .non H')/\(One (jl cl dl n)->∀p kl,de H' kl p->Ft (jl cl dl n) kl->Q (.ref p) H'))
theorem Et{K : PySem.W.Frag}{S : Addr}{qs : List Addr}{cl : Cl}{n : Str}{j : Nat}{σ : St}{H2 : Hp}{Q : VK}(hS : H2 S=some (.tup (List.map V.ref qs)))(lits : dC H2 qs cl)(hj : σ[j]?=some (some (.str n)))(hl : cl.length ≤ 900)
    (q : ∀ Z rs H', bf H2 H' → H2 Z=none → H' Z=some (.lst (List.map V.ref rs)) → dC H' rs (cl.filter λx => !decide (x.1=n)) → Q (.ref Z) H') :
    fJ (Vb K S) 1 [j] (λ_ => cJ 0) (λ_ => oX (BR Vn (BR CW (gI 0) (tC (V.int 0))) (gI 1))) (λ_ => gI 0) σ Q H2 := by
  obtain⟨Pc, iu⟩ : ∃ Pc : Addr → Nat → List V → Hp → Prop, ∀ Z i ys H', Pc Z i ys H' ↔ ∃ rs : List Addr, ys=List.map V.ref rs ∧ bf H2 H' ∧ H' Z=some (.lst ys) ∧ dC H' rs ((cl.take i).filter λx => !decide (x.1=n)) := ⟨_, λ_ _ _ _ => cp⟩
  refine Eu (zs := List.map V.ref qs) Pc (λZ hZ => (iu _ _ _ _).mpr ⟨[], rfl, av hZ _, ag, dC.nil⟩) (λZ hZ i ys H' _ pv => ?_) (λZ hZ i z ys H' hz pv cb => ?_) (λZ hZ ys H' pv => ?_)
  · obtain⟨_, _, s, _⟩ := (iu _ _ _ _).mp pv
    exact s _ _ hS
  · obtain⟨rs, rfl, sZ, m8, lr⟩ := (iu _ _ _ _).mp pv
    obtain⟨b0, eb, rfl⟩ := dB hz
    obtain⟨m, b, ec, Ih⟩ := lits.at eb
    have hi : i<cl.length := (cy.mp ec).1
    have lrs : rs.length ≤ 900 := by
      have := qp (λx : Str × Bool => !decide (x.1=n)) (cl.take i)
      rw[cz]at this
      have := lr.1
      omega
    have X8 := sZ _ _ Ih
    walk_at "rc"
    repeat (first | walk_at "rd" | simp only[hj, X8, rY])
    by_cases hm : m=n
    · have e1 : (!decide (m=n))=false := by simp[hm]
      simp only[e1, hm]
      first
        | (rw[aA (by simp)]
           refine(iu _ _ _ _).mpr ⟨rs, rfl, sZ, m8, ?_⟩
           rw[dU ec, pJ]
           have e2 : [(m, b)].filter (λx : Str × Bool => !decide (x.1=n))=[] := by simp[hm]
           rw[e2, jB]
           exact lr)
        | trace_state
    · rw[aB (by simp[hm])]
      refine⟨m8, aL (by omega), (iu _ _ _ _).mpr ⟨rs++[b0], by simp, bp sZ hZ, ag, ?_⟩⟩
      rw[dU ec, pJ]
      have e2 : [(m, b)].filter (λx : Str × Bool => !decide (x.1=n))=[(m, b)] := by simp[hm]
      rw[e2]
      refine(lr.mono (hX m8)).snoc ?_
      show upd _ Z _ b0=_
      rw[au (fE X8 m8 (by intro z; cases z))]
      exact X8
  · obtain⟨rs, rfl, sZ, m8, lr⟩ := (iu _ _ _ _).mp pv
    have hl := lits.1
    rw[aM, hl, fu]at lr
    exact q Z rs H' sZ hZ m8 lr
section
variable {P:Program}{w:World}{K:PySem.W.Frag}{mg:Str->Option Value}{base:Heap}{t:tN}
theorem wo(T:Txt K mg t):cE P w K mg base g6 1 t.bE t.gx cW (zZ t.bJ "name"):=by
 refine T.rn.lT pO (λvs H Q E h=>?_) (λdz A outer s H vs Q E hr h hc hf=>?_)
 ·obtain⟨e,v,t,rfl,_⟩:=h;rfl
 obtain⟨e,v,t0,rfl,he,q⟩:=h
 refine⟨_,(by apply ai;exact(cA (Nu T.rd_TruceError T.fc_TruceError T.sg_TruceError (cG hc) T.Bh (ae (aj hc 0) (ae bG ah))));exact ak (Nt (aj hc 0) (aj hc 1) rfl)),?_⟩
 repeat (walk_at "rd")
 refine⟨t.bJ,t0,he,T.vO,λt'=>⟨t.bJ,t',rfl,T.vO,T.tk_NoJoin,λdx hd rz=>?_⟩⟩
 rw[au rz]at hd
 exact q dx t' hd rz
theorem Li(T:Txt K mg t):cE P w K mg base (Rv P w) 3 t.wU t.wK ["one","other","name"] (N2 t.bJ):=by
 have Fj:=TV (P:=P) (w:=w) (base:=base) T
 have Ru:=wo (P:=P) (w:=w) (base:=base) T
 refine T.Fp.okE K3 (λvs H Q E h=>?_) (λdz A outer s H vs Q E hr h hc hf L hpo=>?_)
 ·obtain⟨A,B,n,rfl,_⟩:=h;rfl
 obtain⟨A,B,n,rfl,cl,dl,hA,hB,qe,q⟩:=h
 obtain⟨qs,hA1,la⟩:=hA.at_
 obtain⟨ps,hB1,lb⟩:=hB.at_
 have hu:=fF hr
 have Bn:=hr.dI
 refine⟨_,(by apply ai;exact(bh (oW (vL (aG (iV hu) (bF (ae (aj hc 2) (ae bY ah))) (aj hc 0) (by with_unfolding_all rfl)) (qt (aG (iV hu) (bF (ae (aj hc 2) (ae bY ah))) (aj hc 1) (by with_unfolding_all rfl))))) (by exact ak (GF (EH:=λ_=>E) T.vO T.ii_NoJoin T.if_NoJoin T.kc_NoJoin Ru T.rh (hr.mono (by omega)) (cG hc) T.Qa rfl L (aj hc 2))) aN);exact ak (aF (aC Fj (hr.mono (by omega)) (cG hc) T.DR T.uB.kp T.EY .nil aY (ae (bX hc ["literal"] [2] rfl (by decide +kernel) (gY (aV qR (aj hc 0) (aj hc 1))) (λ_ hc=>kJ hc (by decide +kernel) 0 (by decide +kernel)) (λ_ hc=>fO (aG Dp (bj lX (aj hc 0) aq (λ_ _=>rfl)) (aj hc 1) (aX _))) (λ_ hc=>(aj hc 0))) ah)))),?_⟩
 repeat (walk_at "rd")
 refine⟨by decide,λp1 J3=>?_⟩
 have s1:=av J3 (.tup [.str n,.bl true])
 have l1:gE (upd H p1 (.tup [.str n,.bl true])) p1 (n,true):=ag
 generalize upd H p1 (.tup [.str n,.bl true])=H1 at s1 l1 ⊢
 refine⟨_,l1,qs,.inl (s1 _ _ hA1),cl,la.mono (aD s1),?_⟩
 by_cases h1:(n,true)∈cl
 ·rw[aA (by simp[h1])]
  refine⟨by decide,λp2 BV=>?_⟩
  have s2:=av BV (.tup [.str n,.bl false])
  have l2:gE (upd H1 p2 (.tup [.str n,.bl false])) p2 (n,false):=ag
  generalize upd H1 p2 (.tup [.str n,.bl false])=H2 at s2 l2 ⊢
  have s3:=s1.trans s2
  refine⟨_,l2,ps,.inl (s3 _ _ hB1),dl,lb.mono (aD s3),?_⟩
  by_cases h2:(n,false)∈dl
  ·rw[aA (by simp[h2])]
   have la1:=la.1
   have lb1:=lb.1
   have fa:=hA.few
   have fb:=hB.few
   refine⟨_,s3 _ _ hA1,_,s3 _ _ hB1,by rw[aM,aM];exact jb (aL (by omega)),λD H3 s4 _ hD=>⟨⟨_,bC hD⟩,?_⟩⟩
   have s5:=s3.trans s4
   rw[<-bP]at hD
   refine Et hD (uc (la.mono (aD s5)) (lb.mono (aD s5))) rfl (by rw[cw];omega) λZ rs H4 s6 hZ hZ4 lr=>?_
   have lj:=qp (λx:Str×Bool=>!decide (x.1=n)) (cl++dl)
   rw[cw]at lj
   refine⟨Z,rfl,rs,_,hZ4,lr,by omega,λH5 s7=>?_⟩
   obtain⟨q1,q2⟩:=q h1 h2 H5 ((s5.trans s6).trans s7)
   exact⟨q1,λo p kl _ a c=>q2 o p kl a c⟩
  ·rw[aB (by simp[h2])]
   intro dx hdx
   exact qe (.inr h2) dx _ (s3.trans (av hdx _)) ag
 ·rw[aB (by simp[h1])]
  intro dx hdx
  exact qe (.inl h1) dx _ (s1.trans (av hdx _)) ag
end
local macro_rules | `(tactic| walk_at "rd") => `(tactic| walk_at "rc")
local macro_rules | `(tactic| walk_at "rl") => `(tactic| first | (refine cT fun R hR => ?_) | walk_at "ry" | (refine Nx.to (by assumption) _ _ ?_))
def Wm:Sp:=λvs H Q _=>∃A B n,vs=[.ref A,.ref B,.str n]/\∃cl dl,Vd H cl A/\Vd H dl B/\
 ∀H',bf H H'->(¬One (jl cl dl n)->Q .non H')/\(One (jl cl dl n)->∀p kl,de H' kl p->Ft (jl cl dl n) kl->Q (.ref p) H')
theorem yx{kl:Cl}(h:kl.Pairwise λx y=>x.1.cps.toList<y.1.cps.toList):Cd (kl.map (·.1)):=(Gb (f:=λx:Str×Bool=>x.1) (R:=λa b:Str=>a.cps.toList<b.cps.toList)).mpr h
theorem Lr{cl:Cl}{p:Str×Bool->Bool}(h:Cd (cl.map (·.1))):((cl.filter p).map (·.1)).Nodup:=kf (h.sublist (FJ _ List.filter_sublist))
structure Rp(cl dl:Cl)(n:Str)(i:Nat)(ls:Cl):Prop where
 nd:(ls.map (·.1)).Nodup
 mem:∀x,x∈ls↔x∈jl cl (dl.take i) n
 few:ls.length<=20+i
theorem iB{cl dl:Cl}{n:Str}{x:Str×Bool}:x∈jl cl dl n↔(x∈cl\/x∈dl)/\x.1≠n:=by
 unfold jl
 rw[mC,bT]
 simp
theorem Rp.skip{cl dl ls:Cl}{n:Str}{i:Nat}{x:Str×Bool}(h:Rp cl dl n i ls)(e:dl[i]?=some x)(k:x.1=n\/x∈ls):Rp cl dl n (i+1) ls:=⟨h.nd,λy=>by
 rw[h.mem,iB,iB,dU e,bT,bR]
 constructor
 ·rintro⟨a | a,b⟩
  ·exact⟨.inl a,b⟩
  ·exact⟨.inr (.inl a),b⟩
 ·rintro⟨a | a | a,b⟩
  ·exact⟨.inl a,b⟩
  ·exact⟨.inr a,b⟩
  ·subst a
   rcases k with k | k
   ·exact absurd k b
   ·rw[h.mem,iB]at k
    exact k,vB h.few⟩
theorem Rp.add{cl dl ls:Cl}{n:Str}{i:Nat}{x:Str×Bool}(h:Rp cl dl n i ls)(e:dl[i]?=some x)(k:x.1≠n)(k1:x∉ls)(k2:(x.1,!x.2)∉ls):Rp cl dl n (i+1) (ls++[x]):=⟨by
 rw[bP,qm]
 refine⟨h.nd,by simp,λa ha b hb z=>?_⟩
 obtain⟨u,hu1,rfl⟩:=bH.mp ha
 have Qy:b=x.1:=by simpa using hb
 rw[Qy]at z
 by_cases e2:u.2=x.2
 ·exact k1 (by rw[<-mq z e2];exact hu1)
 ·have e3:u.2 = !x.2:=by cases h1:u.2 <;> cases h2:x.2 <;> simp_all
  exact k2 (by rw[<-z,<-e3];exact hu1),λy=>by
 rw[bT,h.mem,iB,iB,dU e,bT,bR]
 constructor
 ·rintro(⟨a | a,b⟩ | a)
  ·exact⟨.inl a,b⟩
  ·exact⟨.inr (.inl a),b⟩
  ·subst a
   exact⟨.inr (.inr rfl),k⟩
 ·rintro⟨a | a | a,b⟩
  ·exact .inl ⟨.inl a,b⟩
  ·exact .inl ⟨.inr a,b⟩
  ·exact .inr a,by rw[cw,ja];have:=h.few;omega⟩
theorem Rp.clash{cl dl ls:Cl}{n:Str}{i:Nat}{x:Str×Bool}(h:Rp cl dl n i ls)(e:dl[i]?=some x)(k:x.1≠n)(k2:(x.1,!x.2)∈ls):¬One (jl cl dl n):=λo=>by
 have h1:x∈jl cl dl n:=iB.mpr ⟨.inr (dE e),k⟩
 have h2:(x.1,!x.2)∈jl cl dl n:=by
  obtain⟨a,b⟩:=iB.mp ((h.mem _).mp k2)
  exact iB.mpr ⟨a.imp id tT,b⟩
 have:=o _ h1 _ h2 rfl
 cases hx:x.2 <;> simp[hx]at this
theorem Rp.one{cl dl ls:Cl}{n:Str}{i:Nat}(h:Rp cl dl n i ls)(hi:dl.length<=i):One (jl cl dl n):=λx hx y hy e=>by
 have m:∀z,z∈jl cl dl n->z∈ls:=λz hz=>by rw[h.mem,tV hi];exact hz
 obtain⟨a,ha,ea⟩:=gD.mp (m x hx)
 obtain⟨b,hb,eb⟩:=gD.mp (m y hy)
 have:a=b:=(mD (xs:=ls.map (·.1)) (h₀:=by simpa using ha) (h₁:=by simpa using hb) h.nd).mp (by rw[pF,pF,ea,eb];exact e)
 subst this
 rw[ea]at eb
 rw[eb]
section
variable {P:Program}{w:World}{K:PySem.W.Frag}{mg:Str->Option Value}{base:Heap}{t:tN}
theorem TF(T:Txt K mg t):cE P w K mg base g6 1 t.nU t.nv ["_law_one","_law_other","_law_name"] Wm:=by
 refine T.uE.lT kQ (λvs H Q E h=>?_) (λdz A outer s H vs Q E hr h hc hf=>?_)
 ·obtain⟨A,B,n,rfl,_⟩:=h;rfl
 obtain⟨A,B,n,rfl,cl,dl,hA,hB,q⟩:=h
 obtain⟨qs,hA1,la⟩:=hA.at_
 obtain⟨ps,hB1,lb⟩:=hB.at_
 have fa:=hA.few
 have fb:=hB.few
 have hu:=fF hr
 have Bn:=hr.dI
 refine⟨_,(by apply ai;exact(Kr hc kQ.nd 3 (by decide +kernel) ["_law_literal"] [2] rfl (by decide +kernel) (gY (aj hc 0)) (λ_ hc=>kJ hc (by decide +kernel) 0 (by decide +kernel)) (λ_ hc=>fO (aG Dp (bj lX (aj hc 0) aq (λ_ _=>rfl)) (aj hc 1) (aX _))) (λ_ hc=>(aj hc 0)) (by rfl));apply ai;exact(bV eJ rfl (gY (aj hc 1)) (gk hc kQ.nd hf 4 (by decide +kernel)) (by exact ak (bh (oW (oq (aG Dp (bj lX (aj hc 4) aq (λ_ _=>rfl)) (aj hc 2) (aX _)) (mE (aG (iV hu) (aj hc 4) (aj hc 3) (by with_unfolding_all rfl))))) (by apply ai;exact(bh (aG (Hn hu) (bF (ae (bj lX (aj hc 4) aq (λ_ _=>rfl)) (ae (oy (bj lX (aj hc 4) aq (λ_ _=>rfl))) ah))) (aj hc 3) (by with_unfolding_all rfl)) (by exact ak (aF qu)) aN);exact ak (cA (fL j5 lP lQ cQ (aj hc 3) (ae (aj hc 4) ah)))) aN)));exact ak (aF (dA jL (cG hc) T.z_tuple vf (ae (bA wN (cG hc) T.z_sorted ig (ae (aj hc 3) ah)) ah)))),?_⟩
 repeat (walk_at "rd")
 refine⟨⟨_,bC hA1⟩,?_⟩
 refine Et hA1 la rfl (by omega) λZ rs0 H1 s1 hZ hZ1 lr0=>?_
 repeat (walk_at "rd")
 refine⟨⟨_,bC (s1 _ _ hB1)⟩,?_⟩
 obtain⟨Pv,cx⟩:∃Pv:Nat->St->Hp->Prop,∀i σ' H',Pv i σ' H'↔∃(rs:List Addr) (ls:Cl) (x:Option V),σ'=[some (.ref A),some (.ref B),some (.str n),some (.ref Z),x]/\bf H H'/\H' Z=some (.lst (List.map V.ref rs))/\dC H' rs ls/\Rp cl dl n i ls:=⟨_,λ_ _ _=>cp⟩
 have lf:=qp (λx:Str×Bool=>!decide (x.1=n)) cl
 refine gO (xs:=List.map V.ref ps) Pv ((cx _ _ _).mpr ⟨rs0,_,none,rfl,s1,hZ1,lr0,⟨Lr hA.inc,λx=>by rw[iB,mC,List.take_zero];simp,by omega⟩⟩) (λi σ' H' _ pv=>?_) (λi z σ' H2 hz pv=>?_) (λσ' H2 pv=>?_)
 ·obtain⟨_,_,_,_,s,_⟩:=(cx _ _ _).mp pv
  exact s _ _ hB1
 ·obtain⟨rs,ls,x,rfl,s2,X9,lr,Qf⟩:=(cx _ _ _).mp pv
  obtain⟨b0,eb,rfl⟩:=dB hz
  obtain⟨m,b,ec,Ih⟩:=lb.at eb
  have hi:i<dl.length:=(cy.mp ec).1
  have Nb:=s2 _ _ Ih
  have ll:=lr.1
  have aDy:=Qf.few
  repeat (first | walk_at "rd" | simp only[Nb])
  by_cases hm:m=n
  ·rw[aA (by simp[hm])]
   exact(cx _ _ _).mpr ⟨rs,ls,_,rfl,s2,X9,lr,Qf.skip ec (.inl hm)⟩
  ·rw[aB (by simp[hm])]
   refine⟨(m,b),Nb,rs,.inr X9,ls,lr,?_⟩
   by_cases h1:(m,b)∈ls
   ·rw[aA (by simp[h1])]
    exact(cx _ _ _).mpr ⟨rs,ls,_,rfl,s2,X9,lr,Qf.skip ec (.inr h1)⟩
   ·rw[aB (by simp[h1])]
    repeat (first | walk_at "rd" | simp only[Nb])
    refine⟨by decide,λp1 J3=>?_⟩
    have s3:=av J3 (.tup [.str m,.bl (!b)])
    have l1:gE (upd H2 p1 (.tup [.str m,.bl (!b)])) p1 (m,!b):=ag
    generalize upd H2 p1 (.tup [.str m,.bl (!b)])=H3 at s3 l1 ⊢
    have RP:=s3 _ _ X9
    have lr3:=lr.mono (aD s3)
    refine⟨_,l1,rs,.inr RP,ls,lr3,?_⟩
    by_cases h2:(m,!b)∈ls
    ·rw[aB h2]
     exact(q _ (s2.trans s3)).1 (Qf.clash ec hm h2)
    ·rw[aA h2]
     refine⟨.inl ⟨rfl,_,aP RP⟩,_,RP,by rw[aM];exact aL (by omega),(cx _ _ _).mpr ⟨rs++[b0],ls++[(m,b)],_,rfl,bp (s2.trans s3) hZ,?_,?_,Qf.add ec hm h1 h2⟩⟩
     ·rw[ag,bP];rfl
     ·refine(lr3.mono (hX RP)).snoc ?_
      show upd _ Z _ b0=_
      rw[au (fE Nb X9 (by intro z;cases z))]
      exact s3 _ _ Nb
 ·obtain⟨rs,ls,x,rfl,s2,X9,lr,Qf⟩:=(cx _ _ _).mp pv
  rw[aM,lb.1]at Qf
  repeat (walk_at "rd")
  have ll:=lr.1
  have aDy:=Qf.few
  refine⟨rs,X9,ls,lr,by omega,Qf.nd,λks kl pm uS lk p4 hp4=>?_⟩
  have s5:=av hp4 (.lst (List.map V.ref ks))
  repeat (walk_at "rd")
  intro p5 Vx
  have s6:=av Vx (.tup (List.map V.ref ks))
  have sa:=s2.trans (s5.trans s6)
  refine(q _ sa).2 (Qf.one (aU _)) p5 kl ⟨ks,ag,lk.mono (aD (s5.trans s6))⟩ ⟨yx uS,λx=>?_⟩
  rw[pm.mem_iff,Qf.mem,fu]
end
local macro_rules | `(tactic| walk_at "rd") => `(tactic| walk_at "rc")
local macro_rules | `(tactic| walk_at "rl") => `(tactic| first | (refine cT fun R hR => ?_) | walk_at "ry" | (refine Nx.to (by assumption) _ _ ?_))
def o5(kvs:List (Key×V))(x:Str×Bool):Bool:=match cB kvs (Sum.inr x.1) with | some (.bl b)=>b==x.2 | _=>false
def isLeft(kvs:List (Key×V))(x:Str×Bool):Bool:=(cB kvs (Sum.inr x.1)).isNone
def V9(kvs:List (Key×V)):Prop:=∀s v,cB kvs (Sum.inr s)=some v->∃b,v=.bl b
def Wo:Sp:=λvs H Q _=>∃C f,vs=[.ref C,.ref f]/\∃cl kvs,de H cl C/\H f=some (.dK kvs)/\V9 kvs/\cl.length<=800/\
 ∀H',bf H H'->(cl.any (o5 kvs)=true->Q .non H')/\(cl.any (o5 kvs)=false->∀p,H p=none->de H' (cl.filter (isLeft kvs)) p->Q (.ref p) H')
section
variable {P:Program}{w:World}{K:PySem.W.Frag}{mg:Str->Option Value}{base:Heap}{t:tN}
theorem TL(T:Txt K mg t):cE P w K mg base g6 1 t.tH t.sV ["clause","facts"] Wo:=by
 refine T.y8.lT kO (λvs H Q E h=>?_) (λdz A outer s H vs Q E hr h hc hf=>?_)
 ·obtain⟨C,f,rfl,_⟩:=h;rfl
 obtain⟨C,f,rfl,cl,kvs,⟨qs,hC,lits⟩,hF,bo,l8,q⟩:=h
 have hu:=fF hr
 have Bn:=hr.dI
 refine⟨_,(by apply ai;exact(aE hc kO.nd hf 2 (by decide +kernel) (bW ah));apply ai;exact(bV eJ rfl (gY (aj hc 0)) (kK rfl (cH (gk hc kO.nd hf 3 (by decide +kernel)) (cH (gk hc kO.nd hf 4 (by decide +kernel)) je))) (by exact ak (bh (Je (GJ hu (aj hc 3) (aj hc 1))) (by exact ak (cA (fL j5 lP lQ cQ (aj hc 2) (ae (bF (ae (aj hc 3) (ae (aj hc 4) ah))) ah)))) (by exact ak (bh (aG cV (jf hu (aj hc 1) (aj hc 3) (λ_ _=>rfl)) (aj hc 4) (aX _)) (by exact ak (aF qu)) aN)))));exact ak (aF (dA jL (cG hc) T.z_tuple vf (ae (aj hc 2) ah)))),?_⟩
 repeat (walk_at "rd")
 refine⟨by decide,λL hL=>?_⟩
 have s1:=av hL (.lst [])
 refine⟨⟨_,bC (s1 _ _ hC)⟩,?_⟩
 obtain⟨Pv,cx⟩:∃Pv:Nat->St->Hp->Prop,∀i σ' H',Pv i σ' H'↔∃(rs:List Addr) (x y:Option V),σ'=[some (.ref C),some (.ref f),some (.ref L),x,y]/\bf H H'/\H' L=some (.lst (List.map V.ref rs))/\dC H' rs ((cl.take i).filter (isLeft kvs))/\(cl.take i).any (o5 kvs)=false:=⟨_,λ_ _ _=>cp⟩
 refine gO (xs:=List.map V.ref qs) Pv ((cx _ _ _).mpr ⟨[],none,none,rfl,s1,ag,dC.nil,rfl⟩) (λi σ' H' _ pv=>?_) (λi z σ' H1 hz pv=>?_) (λσ' H1 pv=>?_)
 ·obtain⟨_,_,_,_,s,_⟩:=(cx _ _ _).mp pv
  exact s _ _ hC
 ·obtain⟨rs,x,y,rfl,s2,J7,lr,an⟩:=(cx _ _ _).mp pv
  obtain⟨b0,eb,rfl⟩:=dB hz
  obtain⟨n,b,ec,Ih⟩:=lits.at eb
  have hi:i<cl.length:=(cy.mp ec).1
  have lrs:rs.length<=i:=by
   have:=qp (isLeft kvs) (cl.take i)
   rw[cz]at this
   have:=lr.1
   omega
  refine⟨b0,_,rfl,bC (s2 _ _ Ih),rfl,?_⟩
  repeat (first | walk_at "rd" | simp only[ui,Ik,zV,j7])
  refine⟨_,oo.k (k:=Sum.inr n) (s2 _ _ hF),?_⟩
  have et:=dU ec
  cases hv:cB kvs (Sum.inr n) with
  | none=>
   repeat (first | walk_at "rd" | simp only[Option.isSome_none,Bool.not_false,fK])
   refine⟨.inl ⟨rfl,_,aP J7⟩,by decide,λp hp=>?_⟩
   have XT:L≠p:=ay J7 hp
   refine⟨_,by rw[au XT];exact J7,by rw[aM];exact aL (by omega),(cx _ _ _).mpr ⟨rs++[p],_,_,rfl,?_,?_,?_,?_⟩⟩
   ·exact bp (bp s2 (s2.free hp)) hL
   ·rw[ag,bP];rfl
   ·rw[et,pJ]
    have e1:[(n,b)].filter (isLeft kvs)=[(n,b)]:=by simp[isLeft,hv]
    rw[e1]
    refine(lr.mono λq xs e=>?_).snoc ?_
    ·rw[au (fE e J7 (by intro z;cases z)),au (ay e hp)];exact e
    ·show upd _ L _ p=_
     rw[au XT.symm,ag]
   ·rw[et,List.any_append,an]
    simp[o5,hv]
  | some v=>
   obtain⟨c,rfl⟩:=bo n v hv
   repeat (first | walk_at "rd" | simp only[Option.isSome_some,mw,bU,j7])
   refine⟨.bl c,(by have:=oo.k (k:=Sum.inr n) (s2 _ _ hF);rw[hv]at this;exact this),rfl,?_⟩
   simp only[V.bl.injEq]
   split
   ·rename_i X6
    exact(q _ s2).1 (qi.mpr ⟨(n,b),dE ec,by simp[o5,hv,X6]⟩)
   ·rename_i X6
    refine(cx _ _ _).mpr ⟨rs,_,_,rfl,s2,J7,?_,?_⟩
    ·rw[et,pJ]
     have e1:[(n,b)].filter (isLeft kvs)=[]:=by simp[isLeft,hv]
     rw[e1,jB]
     exact lr
    ·rw[et,List.any_append,an]
     simp[o5,hv]
     exact X6
 ·obtain⟨rs,x,y,rfl,s2,J7,lr,an⟩:=(cx _ _ _).mp pv
  have hl:=lits.1
  rw[aM,hl,fu]at lr an
  repeat (first | walk_at "rd" | simp only[J7])
  intro D hD
  exact(q _ (s2.trans (av hD _))).2 an D (s2.free hD) ⟨rs,ag,lr.mono (NB hD)⟩
end
def KY:Sp:=λvs H Q _=>∃p C,vs=[.ref p,.ref C]/\∃r cl,iF H r p/\r.deep<=6/\Few r/\de H cl C/\cl.length<=800/\
 ∀b H',bf H H'->(b=true↔∀e:Str->Bool,r.val e=true->∃x∈cl,x.1∈r.names/\e x.1=x.2)->Q (.bl b) H'
theorem FX.bools{kvs:List (Key×V)}{ns:List Str}(h:FX kvs ns):V9 kvs:=λs v e=>by
 by_cases hs:s∈ns
 ·obtain⟨b,hb⟩:=h.fact s hs
  rw[hb]at e
  exact⟨b,(cv e).symm⟩
 ·rw[h.out s hs]at e;cases e
theorem FX.hit{kvs:List (Key×V)}{ns:List Str}(h:FX kvs ns){x:Str×Bool}:o5 kvs x=true↔x.1∈ns/\gq kvs x.1=x.2:=by
 unfold o5
 by_cases hs:x.1∈ns
 ·obtain⟨b,hb⟩:=h.fact x.1 hs
  rw[hb,iR hb]
  simp[hs]
 ·rw[h.out x.1 hs]
  simp[hs]
section
variable {P:Program}{w:World}{K:PySem.W.Frag}{mg:Str->Option Value}{base:Heap}{t:tN}
theorem Hr(T:Txt K mg t):cE P w K mg base g6 10 t.tI t.sW ["rule","clause"] KY:=by
 have nY:=Pp (P:=P) (w:=w) (base:=base) T
 have M5:=TL (P:=P) (w:=w) (base:=base) T
 refine T.y9.lT Hb (λvs H Q E h=>?_) (λdz A outer s H vs Q E hr h hc hf=>?_)
 ·obtain⟨p,C,rfl,_⟩:=h;rfl
 obtain⟨p,C,rfl,r,cl,ra,h6,few,hC,lc,q⟩:=h
 have hu:=fF hr
 have Bn:=hr.dI
 refine⟨_,(by exact ak (aF (bA (yP hr.hd) (cG hc) T.z_all V7 (ae (bX hc ["facts"] [1] rfl (by decide +kernel) (bI (aC nY (hr.mono (by omega)) (cG hc) T.ua T.oj.kp T.uw .nil aY (ae (aj hc 0) ah))) (λ_ hc=>kJ hc (by decide +kernel) 0 (by decide +kernel)) (λ_ _=>eZ) (λ_ hc=>(hV Xe (aC M5 (hr.mono (by omega)) (cG hc) T.Lx T.y8.kp T.MP .nil aY (ae (aj hc 1) (ae (aj hc 0) ah))) qu (aX _)))) ah)))),?_⟩
 repeat (walk_at "rd")
 refine⟨p,rfl,r,ra,h6,few,λL bs H1 s1 hL BW lb gd al=>?_⟩
 repeat (walk_at "rd")
 refine⟨⟨_,aP BW⟩,?_⟩
 obtain⟨Pc,iu⟩:∃Pc:Addr->Nat->List V->Hp->Prop,∀Z i ys H',Pc Z i ys H'↔∃vs:List Bool,ys=List.map V.bl vs/\vs.length=i/\bf H1 H'/\H' Z=some (.lst ys)/\∀(k:Nat) v b kvs,vs[k]?=some v->bs[k]?=some b->H1 b=some (.dK kvs)->v=cl.any (o5 kvs):=⟨_,λ_ _ _ _=>cp⟩
 refine dX (zs:=List.map V.ref bs) Pc (λZ hZ=>(iu _ _ _ _).mpr ⟨[],rfl,rfl,av hZ _,ag,λk v b kvs e=>by simp at e⟩) (λZ hZ i ys H' _ pv=>?_) (λZ hZ i z ys H' hz pv cb=>?_) (λZ hZ ys H' pv=>?_)
 ·obtain⟨_,_,_,s,_⟩:=(iu _ _ _ _).mp pv
  exact s _ _ BW
 ·obtain⟨vs,rfl,Y4,sZ,m8,al'⟩:=(iu _ _ _ _).mp pv
  obtain⟨b0,eb,rfl⟩:=dB hz
  have hi:i<bs.length:=(cy.mp eb).1
  obtain⟨kvs,hb,fx,hv⟩:=gd b0 (dE eb)
  have fin:∀(c:Bool) H2,bf H' H2->c=cl.any (o5 kvs)->Pc Z (i+1) (List.map V.bl vs++[V.bl c]) (upd H2 Z (.lst (List.map V.bl vs++[V.bl c]))):=λc H2 s2 hcv=>by
   refine(iu _ _ _ _).mpr ⟨vs++[c],by simp,by simp[Y4],bp (sZ.trans s2) hZ,ag,λk v b kv ev ek e=>?_⟩
   by_cases Qt:k<vs.length
   ·rw[gh Qt]at ev
    exact al' k v b kv ev ek e
   ·have hk1:=(cy.mp ev).1
    rw[cw,ja]at hk1
    have:k=i:=by omega
    rw[this,eb]at ek
    rw[<-cv ek,hb]at e
    rw[<-HO.dK.inj (cv e),<-hcv]
    rw[this,<-Y4,fC (aU _),jP]at ev
    exact(cv ev).symm
  walk_at "rc"
  repeat (walk_at "rd")
  refine⟨C,b0,rfl,cl,kvs,hC.mono (aD (s1.trans sZ)),sZ _ _ hb,fx.bools,lc,λH2 s2=>⟨λht=>?_,λhn T hT qW=>?_⟩⟩
  ·refine⟨s2 _ _ m8,aL (by omega),fin _ H2 s2 (by rw[ht];rfl)⟩
  ·refine⟨s2 _ _ m8,aL (by omega),fin _ H2 s2 (by rw[hn];rfl)⟩
 ·obtain⟨vs,rfl,Y4,sZ,m8,al'⟩:=(iu _ _ _ _).mp pv
  rw[aM]at Y4
  repeat (walk_at "rd")
  refine⟨vs,m8,q _ H' (s1.trans sZ) ?_⟩
  rw[jC]
  constructor
  ·intro h e he
   obtain⟨b,hb,kvs,hk,ev⟩:=al e he
   obtain⟨k,ek⟩:=vF hb
   have hkl:k<vs.length:=by rw[Y4];exact(cy.mp ek).1
   have evk:vs[k]?=some vs[k]:=bD hkl
   have h1:=al' k _ b kvs evk ek hk
   have h2:vs[k]=true:=h _ (dE evk)
   rw[h2]at h1
   obtain⟨x,hx,hit⟩:=qi.mp h1.symm
   obtain⟨kv',e',fx,_⟩:=gd b hb
   rw[hk]at e'
   rw[<-HO.dK.inj (cv e')]at fx
   obtain⟨n1,n2⟩:=fx.hit.mp hit
   exact⟨x,hx,n1,by rw[<-ev _ n1];exact n2⟩
  ·intro h v hv
   obtain⟨k,ek⟩:=vF hv
   have hkl:k<bs.length:=by rw[<-Y4];exact(cy.mp ek).1
   have ebk:bs[k]?=some bs[k]:=bD hkl
   obtain⟨kvs,hb,fx,hval⟩:=gd _ (dE ebk)
   obtain⟨x,hx,n1,n2⟩:=h _ hval
   rw[al' k v _ kvs ek ebk hb]
   exact qi.mpr ⟨x,hx,fx.hit.mpr ⟨n1,n2⟩⟩
end
local macro_rules | `(tactic| walk_at "rd") => `(tactic| walk_at "rc")
local macro_rules | `(tactic| walk_at "rl") => `(tactic| first | (refine cT fun R hR => ?_) | walk_at "ry" | (refine Nx.to (by assumption) _ _ ?_))
def G9:Sp:=λvs H Q _=>∃R p,vs=[.ref R]/\H R=some (.lst [.ref p])/\∃r,iF H r p/\r.deep<=6/\∀L ts H',bf H H'->H L=none->H' L=some (.lst (List.map V.str ts))->(∀z,z∈ts↔z∈r.names)->ts.Nodup->PyProof.Rows.sortedS ts=true->Q (.ref L) H'
def G7:Sp:=λvs H Q _=>∃p C,vs=[.ref p,.ref C]/\∃r cl,iF H r p/\r.deep<=6/\Few r/\de H cl C/\cl.length<=100/\(∀x∈cl,x.1∈r.names)/\(∀e:Str->Bool,r.val e=true->∃x∈cl,e x.1=x.2)/\∀H',bf H H'->Q (.bl true) H'
section
variable {P:Program}{w:World}{K:PySem.W.Frag}{mg:Str->Option Value}{base:Heap}{t:tN}
theorem Dv(T:Txt K mg t):cE P w K mg base g6 8 t.gU t.gQ ["_law_rules"] G9:=by
 have dZ:=sq (P:=P) (w:=w) (base:=base) T 6
 refine T.kB.lT eK (λvs H Q E h=>?_) (λdz A outer s H vs Q E hr h hc hf=>?_)
 ·obtain⟨R,p,rfl,_⟩:=h;rfl
 obtain⟨R,p,rfl,hR,r,ra,h6,q⟩:=h
 have hu:=fF hr
 have Bn:=hr.dI
 refine⟨_,(by apply ai;exact(aE hc eK.nd hf 1 (by decide +kernel) (bW ah));apply ai;exact(bV eJ rfl (bI (aj hc 0)) (gk hc eK.nd hf 2 (by decide +kernel)) (by exact ak (aE hc eK.nd hf 1 (by decide +kernel) (aV Ho (aj hc 1) (bX hc ["_law_name"] [1] rfl (by decide +kernel) (bI (aC dZ (hr.mono (by omega)) (cG hc) T.iA T.d7.kp T.iD .nil aY (ae (aj hc 2) ah))) (λ_ hc=>kJ hc (by decide +kernel) 0 (by decide +kernel)) (λ_ hc=>fO (aG yq (aj hc 0) (aj hc 1) (by with_unfolding_all rfl))) (λ_ hc=>(aj hc 0)))))));exact ak (aF (bA lC (cG hc) T.z_sorted ig (ae (aj hc 1) ah)))),?_⟩
 walk_at "r"
 refine⟨by decide,λL hL=>?_⟩
 have s1:=av hL (.lst [])
 have BW:upd H L (.lst []) L=some (.lst []):=ag
 generalize upd H L (.lst [])=H1 at s1 BW ⊢
 walk_at "r"
 refine⟨⟨_,aP (s1 _ _ hR)⟩,?_⟩
 obtain⟨Pv,cx⟩:∃Pv:Nat->St->Hp->Prop,∀i σ' H',Pv i σ' H'↔∃(M:Addr) (ts:List Str) (x:Option V),σ'=[some (.ref R),some (.ref M),x]/\bf H H'/\H' M=some (.lst (List.map V.str ts))/\ts.Nodup/\(i=0->ts=[])/\(i=1->∀z,z∈ts↔z∈r.names):=⟨_,λ_ _ _=>cp⟩
 refine bO (xs:=[V.ref p]) Pv ((cx _ _ _).mpr ⟨L,[],none,rfl,s1,BW,rM,λ_=>rfl,λz=>(nomatch z)⟩) (λi σ' H' _ pv=>?_) (λi z σ' H2 hz pv=>?_) (λσ' H2 pv=>?_)
 ·obtain⟨_,_,_,_,s,_⟩:=(cx _ _ _).mp pv
  exact s _ _ hR
 ·obtain⟨M,ts,x,rfl,s2,hM2,nd,e0,_⟩:=(cx _ _ _).mp pv
  have hi:i=0:=by
   have:=(cy.mp hz).1
   simp at this;omega
  subst hi
  have Y5:=e0 rfl
  subst Y5
  cases hz
  walk_at "r"
  refine⟨p,rfl,r,ra.mono (aD s2),h6,h6,λN us H3 s3 hN Nc mem nd3 uS=>?_⟩
  have YZ:us.length<=32:=by
   have h1:=cP nd3 λx hx=>(mem x).mp hx
   have:=Rl.LQ h6
   omega
  have hM3:=s3 _ _ hM2
  repeat (first | walk_at "rl" | simp only[Nc,hM3])
  refine⟨⟨_,aP Nc⟩,wL Nc hM3 rfl (by omega) λD H4 s4 hD hD4=>?_⟩
  have ef:(us.filter λx=>decide (x∉([]:List Str)))=us:=List.filter_eq_self.mpr λx _=>by simp
  rw[ef]at hD4
  refine⟨D,rfl,_,s4 _ _ hM3,_,hD4,by rw[aM,aM];exact cS (by simp;omega),λZ hZ=>(cx _ _ _).mpr ⟨Z,us,_,rfl,((s2.trans s3).trans s4).trans (av hZ _),by rw[ag];rfl,nd3,λz=>(nomatch z),λ_=>mem⟩⟩
 ·obtain⟨M,ts,x,rfl,s2,hM2,nd,_,e1⟩:=(cx _ _ _).mp pv
  have mem:=e1 rfl
  repeat (first | walk_at "rl" | simp only[hM2])
  have l32:=Rl.LQ h6
  have RD:ts.length<=r.names.length:=cP nd λx hx=>(mem x).mp hx
  refine⟨ts,rfl,by omega,λus pu su Z hZ=>?_⟩
  exact q Z us _ (s2.trans (av hZ _)) (s2.free hZ) ag (λz=>(pu.mem_iff).trans (mem z)) (pu.nodup_iff.mpr nd) su
theorem Du(T:Txt K mg t):cE P w K mg base g6 9 t.js t.jo ["_law_rule_here","_law_clause"] G7:=by
 have tL:=Dv (P:=P) (w:=w) (base:=base) T
 have tM:=Pn (P:=P) (w:=w) (base:=base) T
 have fq:=sr (P:=P) (w:=w) (base:=base) T 6
 refine T.om.lT iz (λvs H Q E h=>?_) (λdz A outer s H vs Q E hr h hc hf=>?_)
 ·obtain⟨p,C,rfl,_⟩:=h;rfl
 obtain⟨p,C,rfl,r,cl,ra,h6,few,hC,lc,inN,Il,q⟩:=h
 have hu:=fF hr
 have Bn:=hr.dI
 refine⟨_,(by apply ai;exact(aE hc iz.nd hf 2 (by decide +kernel) (aC tL (hr.mono (by omega)) (cG hc) T.sE T.kB.kp T.tF .nil aY (ae (bW (ae (aj hc 0) ah)) ah)));apply ai;exact(bh (ou (iL (bA (yP hr.hd) (cG hc) T.z_all V7 (ae (bX hc ["_law_name","_law_truth"] [2] rfl (by decide +kernel) (gY (aj hc 1)) (λ_ hc=>kK rfl (cH (kJ hc (by decide +kernel) 0 (by decide +kernel)) (cH (kJ hc (by decide +kernel) 1 (by decide +kernel)) je))) (λ_ _=>eZ) (λ_ hc=>(hV Xf (aj hc 0) (aj hc 2) (by with_unfolding_all rfl)))) ah)))) (by exact ak (aF bY)) aN);apply ai;exact(bV eJ rfl (bI (aC tM (hr.mono (by omega)) (cG hc) T.sF T.kE.kp T.tG .nil aY (ae (aj hc 2) ah))) (gk hc iz.nd hf 3 (by decide +kernel)) (by exact ak (bh (oW (oq (iL (aC fq (hr.mono (by omega)) (cG hc) T.iO T.ft.kp T.iS .nil aY (ae (aj hc 0) (ae (aj hc 3) ah)))) (mE (ou (iL (bA (yO hr.hd) (cG hc) T.z_any V6 (ae (bX hc ["_law_name","_law_truth"] [3] rfl (by decide +kernel) (gY (aj hc 1)) (λ_ hc=>kK rfl (cH (kJ hc (by decide +kernel) 0 (by decide +kernel)) (cH (kJ hc (by decide +kernel) 1 (by decide +kernel)) je))) (λ_ _=>eZ) (λ_ hc=>(hV cV (jf hu (aj hc 2) (aj hc 0) (λ_ _=>rfl)) (aj hc 1) (aX _)))) ah))))))) (by exact ak (aF bY)) aN)));exact ak (aF bY)),?_⟩
 walk_at "r"
 refine⟨by decide,λR hR=>?_⟩
 have s1:=av hR (.lst [V.ref p])
 have hR1:upd H R (.lst [V.ref p]) R=some (.lst [V.ref p]):=ag
 generalize upd H R (.lst [V.ref p])=H1 at s1 hR1 ⊢
 refine⟨R,p,rfl,hR1,r,ra.mono (aD s1),h6,λN ts H2 s2 hN QD mem nd uS=>?_⟩
 have RB:=s1.trans s2
 obtain⟨qs,hC0,lits⟩:=hC
 have Zn:=RB _ _ hC0
 repeat (first | walk_at "rl" | simp only[Zn])
 refine⟨⟨_,bC Zn⟩,?_⟩
 have lq:=lits.1
 obtain⟨Pc,iu⟩:∃Pc:Addr->Nat->List V->Hp->Prop,∀Z i ys H',Pc Z i ys H'↔ys=List.map V.bl (List.replicate i true)/\bf H2 H'/\H' Z=some (.lst ys):=⟨_,λ_ _ _ _=>cp⟩
 refine um (zs:=List.map V.ref qs) (λ_=>rfl) Pc (λZ hZ=>(iu _ _ _ _).mpr ⟨rfl,av hZ _,ag⟩) (λZ hZ i ys H' _ pv=>?_) (λZ hZ i z ys H3 hz pv=>?_) (λZ hZ ys H3 pv=>?_)
 ·obtain⟨_,s,_⟩:=(iu _ _ _ _).mp pv
  exact s _ _ Zn
 ·obtain⟨rfl,s3,RP⟩:=(iu _ _ _ _).mp pv
  obtain⟨b0,eb,rfl⟩:=dB hz
  obtain⟨n,b,ec,Ih⟩:=lits.at eb
  have hi:i<cl.length:=(cy.mp ec).1
  refine⟨b0,.str n,.bl b,rfl,s3 _ _ (RB _ _ Ih),λc=>?_⟩
  have Nc:=s3 _ _ QD
  walk_at "rc"
  repeat (first | walk_at "rl" | simp only[Nc])
  refine⟨rfl,Fi _,RP,by rw[vG];exact aL (by omega),(iu _ _ _ _).mpr ⟨?_,bp s3 hZ,ag⟩⟩
  rw[Ee,decide_eq_true ((mem n).mpr (inN _ (dE ec))),List.replicate_succ',bP];rfl
 obtain⟨rfl,s3,RP⟩:=(iu _ _ _ _).mp pv
 refine⟨Z,rfl,_,RP,?_⟩
 have all1:∀n:Nat,(List.replicate n true).all id=true:=λn=>by simp
 rw[all1,aA (by decide)]
 have s13:=RB.trans s3
 have Nc:=s3 _ _ QD
 have RD:ts.length<=6:=by
  obtain⟨us,lu,hu'⟩:=few
  exact df (cP nd λx hx=>hu' x ((mem x).mp hx)) lu
 walk_at "r"
 refine⟨N,rfl,ts,Nc,by omega,nd,λR2 as H4 s4 hR2 Fz Ii rows=>?_⟩
 have YQ:=s13.trans s4
 walk_at "r"
 refine⟨⟨_,aP Fz⟩,?_⟩
 obtain⟨Pv,cx⟩:∃Pv:Nat->St->Hp->Prop,∀i σ' H',Pv i σ' H'↔∃z:Option V,σ'=[some (.ref p),some (.ref C),some (.ref N),z]/\bf H4 H':=⟨_,λ_ _ _=>cp⟩
 refine bO (xs:=List.map V.ref as) Pv ((cx _ _ _).mpr ⟨none,rfl,λ_ _ e=>e⟩) (λi σ' H' _ pv=>?_) (λi z σ' H5 hz pv=>?_) (λσ' H5 pv=>?_)
 ·obtain⟨_,_,s⟩:=(cx _ _ _).mp pv
  exact s _ _ Fz
 ·obtain⟨z,rfl,s5⟩:=(cx _ _ _).mp pv
  obtain⟨b,eb,rfl⟩:=dB hz
  obtain⟨_,kvs,hk4,row⟩:=rows i b eb
  have fx:FX kvs r.names:=row.fx.sub mem
  have hk:=s5 _ _ hk4
  have YM:=YQ.trans s5
  walk_at "r"
  refine⟨p,b,rfl,r,ra.mono (aD YM),h6,kvs,hk,fx.fact,_,rfl,?_⟩
  by_cases hv:Rl.val (gq kvs) r=true
  ·rw[aB hv]
   have hC5:=s5 _ _ (s4 _ _ (s3 _ _ Zn))
   refine⟨⟨_,bC hC5⟩,?_⟩
   obtain⟨Pd,QB⟩:∃Pd:Addr->Nat->List V->Hp->Prop,∀Z i ys H',Pd Z i ys H'↔ys=List.map V.bl ((cl.take i).map λx=>gq kvs x.1==x.2)/\bf H5 H'/\H' Z=some (.lst ys):=⟨_,λ_ _ _ _=>cp⟩
   refine um (zs:=List.map V.ref qs) (λ_=>rfl) Pd (λZ hZ=>(QB _ _ _ _).mpr ⟨rfl,av hZ _,ag⟩) (λZ hZ i ys H' _ pv=>?_) (λZ hZ j z ys H6 hz pv=>?_) (λZ hZ ys H6 pv=>?_)
   ·obtain⟨_,s,_⟩:=(QB _ _ _ _).mp pv
    exact s _ _ hC5
   ·obtain⟨rfl,s6,hZ6⟩:=(QB _ _ _ _).mp pv
    obtain⟨b0,eb0,rfl⟩:=dB hz
    obtain⟨n,b1,ec,Ih⟩:=lits.at eb0
    have hj:j<cl.length:=(cy.mp ec).1
    obtain⟨v,hvn⟩:=fx.fact n (inN _ (dE ec))
    have ev:=iR hvn
    refine⟨b0,.str n,.bl b1,rfl,s6 _ _ (YM _ _ Ih),λc=>?_⟩
    have hk6:=s6 _ _ hk
    walk_at "rc"
    repeat (first | walk_at "rl" | simp only[j7])
    refine⟨.bl v,(by have:=oo.k (k:=Sum.inr n) hk6;rw[hvn]at this;exact this),rfl,hZ6,by rw[cz];exact aL (by omega),(QB _ _ _ _).mpr ⟨?_,bp s6 hZ,ag⟩⟩
    rw[dU ec,bP,bP]
    simp[ev]
    cases v <;> cases b1 <;> rfl
   obtain⟨rfl,s6,hZ6⟩:=(QB _ _ _ _).mp pv
   rw[aM,lq,fu]at hZ6
   refine⟨Z,rfl,_,hZ6,?_⟩
   obtain⟨x,hx,ex⟩:=Il _ hv
   have an:(cl.map λx=>gq kvs x.1==x.2).any id=true:=qi.mpr ⟨true,bH.mpr ⟨x,hx,by simp[ex]⟩,rfl⟩
   rw[an,aA (by decide)]
   exact(cx _ _ _).mpr ⟨_,rfl,s5.trans s6⟩
  ·rw[aA hv]
   exact(cx _ _ _).mpr ⟨_,rfl,s5⟩
 ·obtain⟨z,rfl,s5⟩:=(cx _ _ _).mp pv
  walk_at "r"
  exact q _ (YQ.trans s5)
end
local macro_rules | `(tactic| walk_at "rd") => `(tactic| walk_at "rc")
local macro_rules | `(tactic| walk_at "rl") => `(tactic| first | (refine cT fun R hR => ?_) | walk_at "ry" | (refine Nx.to (by assumption) _ _ ?_))
structure ClN(H:Hp)(ns:List Str)(cl:Cl)(p:Addr):Prop where
 at_:de H cl p
 inc:Cd (cl.map (·.1))
 sub:∀x∈cl,x.1∈ns
theorem ClN.mono{H H':Hp}{ns:List Str}{cl:Cl}{p:Addr}(h:ClN H ns cl p)(k:lI H H'):ClN H' ns cl p:=⟨h.at_.mono k,h.inc,h.sub⟩
theorem aBL{ns:List Str}{cl:Cl}(h:Cd (cl.map (·.1)))(s:∀x∈cl,x.1∈ns):cl.length<=ns.length:=by
 have:=cP (kf h) (m:=ns) λx hx=>by
  obtain⟨y,hy,rfl⟩:=bH.mp hx
  exact s y hy
 rwa [aM]at this
def NZ:Sp:=λvs H Q _=>∃h C N,vs=[.ref h,.ref C,.ref N]/\dP H h/\∃cl ns,ClN H ns cl C/\H N=some (.lst (List.map V.str ns))/\ns.length<=6/\ns.Nodup/\
 ∀p kl H',Dr h H H'->ClN H' ns kl p->(∀x∈cl,x∈kl)->Q (.ref p) H'
section
variable {P:Program}{w:World}{K:PySem.W.Frag}{mg:Str->Option Value}{base:Heap}{t:tN}
theorem Lh(T:Txt K mg t):cE P w K mg base g6 5 t.jX t.jT ["_law_hand_here","_law_clause","_law_names_here"] NZ:=by
 have aZ:=uW (P:=P) (w:=w) (base:=base) T
 refine T.pd.lT jg (λvs H Q E h=>?_) (λdz A outer s H vs Q E hr h hc hf=>?_)
 ·obtain⟨h,C,N,rfl,_⟩:=h;rfl
 obtain⟨h,C,N,rfl,hd,cl,ns,hC,hN,l6,nd,q⟩:=h
 have hu:=fF hr
 have Bn:=hr.dI
 obtain⟨⟨qs,hC0,lits⟩,inc,sub⟩:=hC
 refine⟨_,(by apply ai;exact(aE hc jg.nd hf 3 (by decide +kernel) (dA Iz (cG hc) T.z_list Rg (ae (aj hc 1) ah)));apply ai;exact(bV eJ rfl (bI (aj hc 2)) (gk hc jg.nd hf 4 (by decide +kernel)) (by exact ak (bh (oW (oq (aG cV (aC aZ (hr.mono (by omega)) (cG hc) T.bx T.bq.kp T.bz .nil aY (ae (aj hc 0) (ae aq ah))) aq (aX _)) (oq (aG (iV hu) (bF (ae (aj hc 4) (ae bY ah))) (aj hc 3) (by with_unfolding_all rfl)) (mE (aG (iV hu) (bF (ae (aj hc 4) (ae bY ah))) (aj hc 3) (by with_unfolding_all rfl)))))) (by exact ak (cA (fL j5 lP lQ cQ (aj hc 3) (ae (bF (ae (aj hc 4) (ae (hV cV (aC aZ (hr.mono (by omega)) (cG hc) T.bx T.bq.kp T.bz .nil aY (ae (aj hc 0) (ae aq ah))) aq (aX _)) ah))) ah)))) aN)));exact ak (aF (dA jL (cG hc) T.z_tuple vf (ae (bA wN (cG hc) T.z_sorted ig (ae (aj hc 3) ah)) ah)))),?_⟩
 repeat (first | walk_at "rl" | simp only[hC0])
 intro L hL
 have hLh:L≠h:=hd.ne hL
 have d1:Dr h H (upd H L (.lst (List.map V.ref qs))):=Dr.refl.new hL
 have BW:upd H L (.lst (List.map V.ref qs)) L=some (.lst (List.map V.ref qs)):=ag
 generalize upd H L (.lst (List.map V.ref qs))=H1 at d1 BW ⊢
 have Yg:=hd.Xj hN
 walk_at "r"
 refine⟨⟨_,aP (d1.keep _ _ Yg hN)⟩,?_⟩
 obtain⟨Pv,cx⟩:∃Pv:Nat->St->Hp->Prop,∀i σ' H',Pv i σ' H'↔∃(z:Option V) (rs:List Addr) (ls:Cl),σ'=[some (.ref h),some (.ref C),some (.ref N),some (.ref L),z]/\Dr h H H'/\H' L=some (.lst (List.map V.ref rs))/\dC H' rs ls/\(ls.map (·.1)).Nodup/\(∀x∈cl,x∈ls)/\(∀x∈ls,x.1∈ns):=⟨_,λ_ _ _=>cp⟩
 refine bO (xs:=List.map V.str ns) Pv ((cx _ _ _).mpr ⟨none,qs,cl,rfl,d1,BW,lits.mono (d1.tups hd),kf inc,λx hx=>hx,sub⟩) (λi σ' H' _ pv=>?_) (λi z σ' H2 hz pv=>?_) (λσ' H2 pv=>?_)
 ·obtain⟨_,_,_,_,d,_⟩:=(cx _ _ _).mp pv
  exact d.keep _ _ Yg hN
 ·obtain⟨z,rs,ls,rfl,d2,J7,lr2,T2,XF,KN⟩:=(cx _ _ _).mp pv
  obtain⟨n,en,rfl⟩:=vU hz
  walk_at "r"
  refine dv hd d2 (by decide) (by decide) λv H3 v0 v1 d3 k3=>?_
  have hL3:=(k3 L hLh).trans J7
  have lr3:dC H3 rs ls:=lr2.mono λb xs e=>(k3 b (λz=>(d2.cD hd).Pt e z)).trans e
  repeat (first | walk_at "rl" | simp only[hL3])
  have stay:∀H',bf H3 H'->Pv (i+1) [some (.ref h),some (.ref C),some (.ref N),some (.ref L),some (.str n)] H':=λH' s=>(cx _ _ _).mpr ⟨_,rs,ls,rfl,d3.same s,s _ _ hL3,lr3.mono (aD s),T2,XF,KN⟩
  by_cases e0:v=0
  ·rw[aB e0]
   refine⟨by decide,λp1 J3=>?_⟩
   have s4:=av J3 (.tup [V.str n,V.bl true])
   have l4:gE (upd H3 p1 (.tup [V.str n,V.bl true])) p1 (n,true):=ag
   generalize upd H3 p1 (.tup [V.str n,V.bl true])=H4 at s4 l4 ⊢
   have hL4:=s4 _ _ hL3
   have lr4:=lr3.mono (aD s4)
   refine⟨_,l4,rs,.inr hL4,ls,lr4,?_⟩
   by_cases e1:(n,true)∈ls
   ·rw[aA (by simp[e1])]
    exact stay _ s4
   rw[aB (by simp[e1])]
   refine⟨by decide,λp2 BV=>?_⟩
   have s5:=av BV (.tup [V.str n,V.bl false])
   have l5:gE (upd H4 p2 (.tup [V.str n,V.bl false])) p2 (n,false):=ag
   generalize upd H4 p2 (.tup [V.str n,V.bl false])=H5 at s5 l5 ⊢
   have hL5:=s5 _ _ hL4
   have lr5:=lr4.mono (aD s5)
   refine⟨_,l5,rs,.inr hL5,ls,lr5,?_⟩
   by_cases e2:(n,false)∈ls
   ·rw[aA (by simp[e2])]
    exact stay _ (s4.trans s5)
   rw[aB (by simp[e2])]
   refine⟨.inl ⟨rfl,_,aP hL5⟩,?_⟩
   have d5:=d3.same (s4.trans s5)
   refine dv hd d5 (by decide) (by decide) λu H6 u0 u1 d6 k6=>⟨rfl,by decide,λp3 J2=>?_⟩
   have Ij:=(k6 L hLh).trans hL5
   have lr6:dC H6 rs ls:=lr5.mono λb xs e=>(k6 b (λz=>(d5.cD hd).Pt e z)).trans e
   have s7:=av J2 (.tup [V.str n,V.bl (decide (V.int u=V.int 0))])
   have l7:gE (upd H6 p3 (.tup [V.str n,V.bl (decide (V.int u=V.int 0))])) p3 (n,decide (V.int u=V.int 0)):=ag
   generalize decide (V.int u=V.int 0)=bb at s7 l7 ⊢
   generalize upd H6 p3 (.tup [V.str n,V.bl bb])=H7 at s7 l7 ⊢
   have hL7:=s7 _ _ Ij
   have nn:n∉ls.map (·.1):=λz=>by
    obtain⟨y,hy,ey⟩:=bH.mp z
    cases hb:y.2 with
    | true=>exact e1 (by rw[<-ey,<-hb];exact hy)
    | false=>exact e2 (by rw[<-ey,<-hb];exact hy)
   have lls:ls.length<=6:=by
    have:=cP T2 (m:=ns) λx hx=>by
     obtain⟨y,hy,rfl⟩:=bH.mp hx
     exact KN y hy
    rw[aM]at this;omega
   have lrs:=lr6.1
   refine⟨_,hL7,by rw[aM];exact aL (by omega),(cx _ _ _).mpr ⟨_,rs++[p3],ls++[(n,bb)],rfl,(d6.same s7).put hL,by rw[ag,bP];rfl,?_,?_,λx hx=>j4 _ (XF x hx),λx hx=>?_⟩⟩
   ·refine((lr6.mono (aD s7)).mono (hX hL7)).snoc ?_
    show upd _ L _ p3=_
    rw[au (fE l7 hL7 (by intro z;cases z))]
    exact l7
   ·rw[bP,qm]
    refine⟨T2,by simp,λa ha b hb z=>?_⟩
    have Qy:b=n:=by simpa using hb
    rw[z,Qy]at ha
    exact nn ha
   ·rcases bT.mp hx with h1 | h1
    ·exact KN x h1
    ·rw[bR.mp h1];exact dE en
  ·rw[aA e0]
   exact stay _ λ_ _ e=>e
 ·obtain⟨z,rs,ls,rfl,d2,J7,lr2,T2,XF,KN⟩:=(cx _ _ _).mp pv
  repeat (first | walk_at "rl" | simp only[J7])
  have lls:ls.length<=6:=by
   have:=cP T2 (m:=ns) λx hx=>by
    obtain⟨y,hy,rfl⟩:=bH.mp hx
    exact KN y hy
   rw[aM]at this;omega
  refine⟨rs,rfl,ls,lr2,by omega,T2,λks kl pm uS lk p4 hp4 p5 Vx=>?_⟩
  have s5:=av hp4 (.lst (List.map V.ref ks))
  have s6:=av Vx (.tup (List.map V.ref ks))
  exact q p5 kl _ (d2.same (s5.trans s6)) ⟨⟨ks,ag,lk.mono (aD (s5.trans s6))⟩,yx uS,λx hx=>KN x (pm.mem_iff.mp hx)⟩ λx hx=>pm.mem_iff.mpr (XF x hx)
end
def CS(H:Hp)(bs:List Addr)(G:Cl->Prop):Prop:=∀b∈bs,∃cl,de H cl b/\G cl
theorem CS.mono{H H':Hp}{bs:List Addr}{G:Cl->Prop}(h:CS H bs G)(k:lI H H'):CS H' bs G:=λb hb=>let ⟨cl,a,g⟩:=h b hb;⟨cl,a.mono k,g⟩
def Zt(H:Hp)(ps:List Addr)(n:Str)(G:Cl->Prop):Prop:=∀p∈ps,∃A B cl dl,H p=some (.tup [V.ref A,V.ref B])/\de H cl A/\de H dl B/\G cl/\G dl/\(n,true)∈cl/\(n,false)∈dl
theorem Zt.mono{H H':Hp}{ps:List Addr}{n:Str}{G:Cl->Prop}(h:Zt H ps n G)(k:lI H H'):Zt H' ps n G:=λp hp=>let ⟨A,B,cl,dl,a,b,c,r⟩:=h p hp;⟨A,B,cl,dl,k _ _ a,b.mono k,c.mono k,r⟩
def Sd:Sp:=λvs H Q _=>∃S n,vs=[.ref S,.str n]/\∃bs G,H S=some (.lst (List.map V.ref bs))/\bs.length<=30/\CS H bs G/\∀D ps H',bf H H'->H D=none->H' D=some (.lst (List.map V.ref ps))->ps.length<=900->Zt H' ps n G->Q (.ref D) H'
section
variable {P:Program}{w:World}{K:PySem.W.Frag}{mg:Str->Option Value}{base:Heap}{t:tN}
theorem Pl(T:Txt K mg t):cE P w K mg base g6 1 t.lF t.lh ["_law_some","_law_name"] Sd:=by
 refine T.rk.lT gZ (λvs H Q E h=>?_) (λdz A outer s H vs Q E hr h hc hf=>?_)
 ·obtain⟨S,n,rfl,_⟩:=h;rfl
 obtain⟨S,n,rfl,bs,G,hS,lb,cs,q⟩:=h
 have hu:=fF hr
 have Bn:=hr.dI
 refine⟨_,(by apply ai;exact(aE hc gZ.nd hf 2 (by decide +kernel) (bW ah));apply ai;exact(bV eJ rfl (bI (aj hc 0)) (gk hc gZ.nd hf 3 (by decide +kernel)) (by exact ak (bV eJ rfl (bI (aj hc 0)) (gk hc gZ.nd hf 4 (by decide +kernel)) (by exact ak (bh (oW (oq (aG (Hn hu) (bF (ae (aj hc 1) (ae bY ah))) (aj hc 3) (by with_unfolding_all rfl)) (mE (aG (Hn hu) (bF (ae (aj hc 1) (ae bY ah))) (aj hc 4) (by with_unfolding_all rfl))))) (by exact ak (cA (fL j5 lP lQ cQ (aj hc 2) (ae (bF (ae (aj hc 3) (ae (aj hc 4) ah))) ah)))) aN)))));exact ak (aF (aj hc 2))),?_⟩
 walk_at "r"
 refine⟨by decide,λD hD=>?_⟩
 have s1:=av hD (.lst [])
 have hD1:upd H D (.lst []) D=some (.lst []):=ag
 generalize upd H D (.lst [])=H1 at s1 hD1 ⊢
 walk_at "r"
 refine⟨⟨_,aP (s1 _ _ hS)⟩,?_⟩
 obtain⟨Pv,cx⟩:∃Pv:Nat->St->Hp->Prop,∀i σ' H',Pv i σ' H'↔∃(z1 z2:Option V) (ps:List Addr),σ'=[some (.ref S),some (.str n),some (.ref D),z1,z2]/\bf H H'/\H' D=some (.lst (List.map V.ref ps))/\ps.length<=30*i/\Zt H' ps n G:=⟨_,λ_ _ _=>cp⟩
 refine bO (xs:=List.map V.ref bs) Pv ((cx _ _ _).mpr ⟨none,none,[],rfl,s1,hD1,dG _,λp hp=>(nomatch hp)⟩) (λi σ' H' _ pv=>?_) (λi z σ' H2 hz pv=>?_) (λσ' H2 pv=>?_)
 ·obtain⟨_,_,_,_,s,_⟩:=(cx _ _ _).mp pv
  exact s _ _ hS
 ·obtain⟨z1,z2,ps,rfl,s2,Mi,lp,pr⟩:=(cx _ _ _).mp pv
  obtain⟨b,eb,rfl⟩:=dB hz
  have hi:i<bs.length:=(cy.mp eb).1
  obtain⟨cl,ca,cg⟩:=cs b (dE eb)
  walk_at "r"
  refine⟨⟨_,aP (s2 _ _ hS)⟩,?_⟩
  obtain⟨Pw,u6⟩:∃Pw:Nat->St->Hp->Prop,∀j σ' H',Pw j σ' H'↔∃(z2:Option V) (ps:List Addr),σ'=[some (.ref S),some (.str n),some (.ref D),some (.ref b),z2]/\bf H H'/\H' D=some (.lst (List.map V.ref ps))/\ps.length<=30*i+j/\Zt H' ps n G:=⟨_,λ_ _ _=>cp⟩
  refine bO (xs:=List.map V.ref bs) Pw ((u6 _ _ _).mpr ⟨z2,ps,rfl,s2,Mi,lp,pr⟩) (λj σ' H' _ pw=>?_) (λj z σ' H3 xr pw=>?_) (λσ' H3 pw=>?_)
  ·obtain⟨_,_,_,s,_⟩:=(u6 _ _ _).mp pw
   exact s _ _ hS
  ·obtain⟨z2,ps,rfl,s3,Zm,lp3,pr3⟩:=(u6 _ _ _).mp pw
   obtain⟨b2,eb2,rfl⟩:=dB xr
   have hj:j<bs.length:=(cy.mp eb2).1
   obtain⟨dl,da,dg⟩:=cs b2 (dE eb2)
   walk_at "r"
   have stay:∀H',bf H3 H'->Pw (j+1) [some (.ref S),some (.str n),some (.ref D),some (.ref b),some (.ref b2)] H':=λH' s=>(u6 _ _ _).mpr ⟨_,ps,rfl,s3.trans s,s _ _ Zm,by omega,pr3.mono (aD s)⟩
   refine⟨by decide,λp1 J3=>?_⟩
   have s4:=av J3 (.tup [V.str n,V.bl true])
   have l4:gE (upd H3 p1 (.tup [V.str n,V.bl true])) p1 (n,true):=ag
   generalize upd H3 p1 (.tup [V.str n,V.bl true])=H4 at s4 l4 ⊢
   have ca4:=ca.mono (aD (s3.trans s4))
   obtain⟨qs4,hb4,lr4⟩:=ca4
   refine⟨_,l4,qs4,.inl hb4,cl,lr4,?_⟩
   by_cases e1:(n,true)∈cl
   ·rw[aB e1]
    refine⟨by decide,λp2 BV=>?_⟩
    have s5:=av BV (.tup [V.str n,V.bl false])
    have l5:gE (upd H4 p2 (.tup [V.str n,V.bl false])) p2 (n,false):=ag
    generalize upd H4 p2 (.tup [V.str n,V.bl false])=H5 at s5 l5 ⊢
    have Sq:=s4.trans s5
    obtain⟨qs5,hb5,lr5⟩:=da.mono (aD (s3.trans Sq))
    refine⟨_,l5,qs5,.inl hb5,dl,lr5,?_⟩
    by_cases e2:(n,false)∈dl
    ·rw[aB e2]
     have Mh:=Sq _ _ Zm
     refine⟨.inl ⟨rfl,_,aP Mh⟩,by decide,λp3 J2=>?_⟩
     have s6:=av J2 (.tup [V.ref b,V.ref b2])
     have h6:upd H5 p3 (.tup [V.ref b,V.ref b2]) p3=some (.tup [V.ref b,V.ref b2]):=ag
     generalize upd H5 p3 (.tup [V.ref b,V.ref b2])=H6 at s6 h6 ⊢
     have s36:=Sq.trans s6
     have hD6:=s6 _ _ Mh
     have kt:lI H6 (upd H6 D (.lst (List.map V.ref ps++[V.ref p3]))):=hX hD6
     refine⟨_,hD6,by rw[aM];exact aL (by omega),(u6 _ _ _).mpr ⟨_,ps++[p3],rfl,bp (s3.trans s36) hD,by rw[ag,bP];rfl,by rw[cw,ja];omega,λp hp=>?_⟩⟩
     rcases bT.mp hp with hp | hp
     ·exact(pr3.mono ((aD s36).trans kt)) p hp
     ·rw[bR.mp hp]
      exact⟨b,b2,cl,dl,kt _ _ h6,ca.mono ((aD (s3.trans s36)).trans kt),da.mono ((aD (s3.trans s36)).trans kt),cg,dg,e1,e2⟩
    ·rw[aA e2]
     exact stay _ Sq
   ·rw[aA e1]
    exact stay _ s4
  ·obtain⟨z2,ps,rfl,s3,Zm,lp3,pr3⟩:=(u6 _ _ _).mp pw
   rw[aM]at lp3
   exact(cx _ _ _).mpr ⟨_,_,ps,rfl,s3,Zm,by omega,pr3⟩
 ·obtain⟨z1,z2,ps,rfl,s2,Mi,lp,pr⟩:=(cx _ _ _).mp pv
  rw[aM]at lp
  walk_at "r"
  exact q D ps H2 s2 hD Mi (by omega) pr
end
local macro_rules | `(tactic| walk_at "rd") => `(tactic| walk_at "rc")
local macro_rules | `(tactic| walk_at "rl") => `(tactic| first | (refine cT fun R hR => ?_) | walk_at "ry" | (refine Nx.to (by assumption) _ _ ?_))
local macro_rules | `(tactic| walk_at "rc") => do
  let ids := ("L2.start G6 qz zT oX tB BR YJ gI tC qB cJ Ej Cm x8 tY qA j8 vS Rw jQ mJ Cq zP K6 rI rU Wz Vn Cz t5 Vs Dc CW CZ Hj Hi v5 v3 pQ pP kW sk pS kX vZ ji wc La v7 Al K8 K9 K7 Hk Vg tW jH Hf Vi KH kS kR Hg Cr Vh zR t6 Cp tX YK List.map_cons List.map_nil List.cons_append List.nil_append List.append_nil List.length_cons List.length_nil List.replicate List.getElem?_cons_zero List.getElem?_cons_succ List.set_cons_zero List.set_cons_succ Nat.reduceAdd Nat.reduceSub Nat.reduceLeDiff Option.some.injEq V.int.injEq V.ref.injEq V.str.injEq V.bl.injEq V.ty.injEq List.cons.injEq HO.lst.injEq HO.tup.injEq HO.dK.injEq exists_eq_left exists_eq_left' exists_and_left and_true true_and and_assoc exists_const reduceCtorEq ag jG decide_eq_true_eq List.length_map ite_true ite_false Bool.false_eq_true Bool.true_and Bool.and_true y0 yZ yX yW yV yU sN sM sJ sI sH yK yJ yI yH tu tq tj tf sY bZ Option.join_some Option.join_none j9 oG uf yA yz v9 ug Ef oC wZ Int.zero_add Int.reduceMul Int.reduceAdd Int.reduceSub Int.reduceLT Int.reduceLE Int.reducePow Int.reduceToNat Int.reduceNeg gt_iff_lt ge_iff_le pN hv KD Dd mK mQ mH m5 tZ pR HO.ext.injEq wa oH sj v8 Ou KJ Ju qM zS Sy qN uT mR R6 zW zQ Jx Jy Ov mR Jv Ah oI Ug JX Jh Jz Ag qO zX uQ oF x9 yg R5 Ends.Zy Ai Aj Ak Ji Jw zU vY HO.xd.injEq".splitOn " ").toArray.map fun x => Lean.mkIdent x.toName
  `(tactic| simp only [$[$ids:ident],*])
local macro_rules | `(tactic| walk_at "ry") => do
  let ids := ("L2.start qz zT oX tB BR YJ gI tC qB cJ Ej Cm x8 tY qA j8 vS Rw jQ mJ Cq zP K6 rI rU Wz Vn Cz t5 Vs Dc CW CZ Hj Hi v5 v3 pQ pP kW sk pS kX vZ ji wc La v7 Al K8 K9 K7 Hk Vg tW jH Hf Vi KH kS kR Hg Cr Vh zR t6 Cp tX YK List.map_cons List.map_nil List.cons_append List.nil_append List.append_nil List.length_cons List.length_nil List.replicate List.getElem?_cons_zero List.getElem?_cons_succ List.set_cons_zero List.set_cons_succ Nat.reduceAdd Nat.reduceSub Nat.reduceLeDiff Option.some.injEq V.int.injEq V.ref.injEq V.str.injEq V.bl.injEq V.ty.injEq List.cons.injEq HO.lst.injEq HO.tup.injEq HO.dK.injEq exists_eq_left exists_eq_left' exists_and_left and_true true_and and_assoc exists_const reduceCtorEq ag jG decide_eq_true_eq List.length_map ite_true ite_false Bool.false_eq_true Bool.true_and Bool.and_true y0 yZ yX yW yV yU sN sM sJ sI sH yK yJ yI yH tu tq tj tf sY bZ Option.join_some Option.join_none j9 oG uf yA yz v9 ug Ef oC wZ Int.zero_add Int.reduceMul Int.reduceAdd Int.reduceSub Int.reduceLT Int.reduceLE Int.reducePow Int.reduceToNat Int.reduceNeg gt_iff_lt ge_iff_le pN hv KD Dd mK mQ mH m5 tZ pR HO.ext.injEq wa oH sj v8 Ou KJ Ju qM zS Sy qN uT mR R6 zW zQ Jx Jy Ov mR Jv Ah oI Ug JX Jh Jz Ag qO zX uQ oF x9 yg R5 Ends.Zy Ai Aj Ak Ji Jw zU vY HO.xd.injEq".splitOn " ").toArray.map fun x => Lean.mkIdent x.toName
  `(tactic| simp only [$[$ids:ident],*])
theorem aA1{r:Rl}{cl dl:Cl}(h:Vc r cl)(s:∀x∈cl,x∈dl):Vc r dl:=λe he=>let ⟨x,hx,ex⟩:=h e he;⟨x,s x hx,ex⟩
theorem Cy{r:Rl}:∀(n:Nat) {cl:Cl},cl.length<=n->Cd (cl.map (·.1))->(∀x∈cl,x.1∈r.names)->Vc r cl->∃dl,Short r dl/\∀x∈dl,x∈cl
 | n,cl,hl,hi,hs,hf=>by
  by_cases h:∃i,i<cl.length/\Vc r (cl.eraseIdx i)
  ·obtain⟨i,iQ,hfi⟩:=h
   have sl:(cl.eraseIdx i).Sublist cl:=List.eraseIdx_sublist ..
   have le:(cl.eraseIdx i).length+1=cl.length:=by rw[GC iQ];lia
   match n,hl with
   | 0,hl=>lia
   | n+1,hl=>
    obtain⟨dl,h1,h2⟩:=Cy n (cl:=cl.eraseIdx i) (by lia) (hi.sublist (FJ _ sl)) (λx hx=>hs x (sl.subset hx)) hfi
    exact⟨dl,h1,λx hx=>sl.subset (h2 x hx)⟩
  ·exact⟨cl,⟨hi,hs,hf,λi u5 z=>h ⟨i,u5,z⟩⟩,λx hx=>hx⟩
def Jl(K:PySem.W.Frag):Sp:=λvs H Q _=>∃(a:Addr) (ns:List Int),vs=[.ref a]/\oQ K H a (List.map V.int ns)/\ns.length<=63/\∀H',Q (.bl true) H'
structure Gd(r:Rl)(cl:Cl):Prop where
 inc:Cd (cl.map (·.1))
 sub:∀x∈cl,x.1∈r.names
 Il:Vc r cl
theorem JW{cl:Cl}(h:Cd (cl.map (·.1))){n:Str}{b c:Bool}(h1:(n,b)∈cl)(h2:(n,c)∈cl):b=c:=by
 obtain⟨i,hi,ei⟩:=gD.mp h1
 obtain⟨j,hj,ej⟩:=gD.mp h2
 have:i=j:=(mD (xs:=cl.map (·.1)) (h₀:=by simpa using hi) (h₁:=by simpa using hj) (kf h)).mp (by rw[pF,pF,ei,ej])
 subst this
 rw[ei]at ej
 injection ej
theorem Gd.join{r:Rl}{cl dl kl:Cl}{n:Str}(h1:Gd r cl)(h2:Gd r dl)(a1:(n,true)∈cl)(a2:(n,false)∈dl)(k:Ft (jl cl dl n) kl):Gd r kl:=by
 refine⟨k.1,λx hx=>?_,λe he=>?_⟩
 ·rcases(iB.mp ((k.2 x).mp hx)).1 with h | h
  ·exact h1.sub x h
  ·exact h2.sub x h
 ·obtain⟨x,hx,ex⟩:=h1.Il e he
  obtain⟨y,hy,ey⟩:=h2.Il e he
  by_cases nx:x.1=n
  ·by_cases ny:y.1=n
   ·have b1:x.2=true:=JW h1.inc (n:=n) (by rw[<-nx];exact hx) a1
    have b2:y.2=false:=JW h2.inc (n:=n) (by rw[<-ny];exact hy) a2
    rw[nx,b1]at ex
    rw[ny,b2,ex]at ey
    cases ey
   ·exact⟨y,(k.2 y).mpr (iB.mpr ⟨.inr hy,ny⟩),ey⟩
  ·exact⟨x,(k.2 x).mpr (iB.mpr ⟨.inl hx,nx⟩),ex⟩
section
variable {P:Program}{w:World}{K:PySem.W.Frag}{mg:Str->Option Value}{base:Heap}{t:tN}
theorem Xi(T:Txt K mg t):cE P w K mg base g6 11 t.Rm t.QX ["_law_script"] (Jl K):=by
 have aZ:=uW (P:=P) (w:=w) (base:=base) T
 have Fo:=TQ (P:=P) (w:=w) (base:=base) T
 have BL:=Pm (P:=P) (w:=w) (base:=base) T
 have jN:=JM (P:=P) (w:=w) (base:=base) T 6
 have dZ:=sq (P:=P) (w:=w) (base:=base) T 6
 have xM:=Pk (P:=P) (w:=w) (base:=base) T
 have xP:=Lj (P:=P) (w:=w) (base:=base) T
 have fq:=sr (P:=P) (w:=w) (base:=base) T 6
 have xO:=Lh (P:=P) (w:=w) (base:=base) T
 have BK:=Pl (P:=P) (w:=w) (base:=base) T
 have Rt:=Li (P:=P) (w:=w) (base:=base) T
 have Fn:=TF (P:=P) (w:=w) (base:=base) T
 have M6:=Hr (P:=P) (w:=w) (base:=base) T
 have wW:=Du (P:=P) (w:=w) (base:=base) T
 refine T.aBJ.lT gK (λvs H Q E h=>?_) (λdz A outer s H vs Q E hr h hc hf=>?_)
 ·obtain⟨a,ns,rfl,_⟩:=h;rfl
 obtain⟨a,ns,rfl,hS,h63,q⟩:=h
 have hu:=fF hr
 have Bn:=hr.dI
 refine⟨_,(by apply ai;exact(aE hc gK.nd hf 1 (by decide +kernel) (aC Fo (hr.mono (by omega)) (cG hc) T.DX T.uF.kp T.Fe .nil aY (ae (aj hc 0) ah)));apply ai;exact(aE hc gK.nd hf 2 (by decide +kernel) (aC BL (hr.mono (by omega)) (cG hc) T.Bg T.rm.kp T.Bx .nil aY (ae (aj hc 1) (ae (aV fA aq (aC aZ (hr.mono (by omega)) (cG hc) T.bx T.bq.kp T.bz .nil aY (ae (aj hc 1) (ae aq ah)))) ah))));apply ai;exact(aE hc gK.nd hf 3 (by decide +kernel) (aC jN (hr.mono (by omega)) (cG hc) T.mZ T.ip.kp T.nI .nil aY (ae (aj hc 1) (ae (aj hc 2) (ae (aV fA aq (aC aZ (hr.mono (by omega)) (cG hc) T.bx T.bq.kp T.bz .nil aY (ae (aj hc 1) (ae aq ah)))) ah)))));apply ai;exact(aE hc gK.nd hf 4 (by decide +kernel) (aC dZ (hr.mono (by omega)) (cG hc) T.iA T.d7.kp T.iD .nil aY (ae (aj hc 3) ah)));apply ai;exact(aE hc gK.nd hf 5 (by decide +kernel) (aC xM (hr.mono (by omega)) (cG hc) T.xj T.o8.kp T.xE .nil aY (ae (aj hc 3) ah)));apply ai;exact(aE hc gK.nd hf 6 (by decide +kernel) (aV Ho (dH ZK (aj hc 5) eO (eN aq)) (bX hc ["_law_clause"] [1,4] rfl (by decide +kernel) (bI (dH ZK (aj hc 5) eO (eN aq))) (λ_ hc=>kJ hc (by decide +kernel) 0 (by decide +kernel)) (λ_ _=>eZ) (λ_ hc=>(aC xO (hr.mono (by omega)) (cG hc) T.xl T.pd.kp T.xG .nil aY (ae (aj hc 1) (ae (aj hc 0) (ae (aj hc 2) ah))))))));apply ai;exact(bV eJ rfl (gH (cG hc) T.z_range (ae aq ah)) (gk hc gK.nd hf 7 (by decide +kernel)) (by apply ai;exact(bh (aG cV (bA gS (cG hc) T.z_len rg (ae (aj hc 4) ah)) aq (aX _)) (by exact ak (aF (hV (Tw hr.units) (aj hc 5) (bj jk (bW (ae (bW ah) (ae (bW (ae (bF ah) ah)) ah))) (dA MJ (cG hc) T.z_int aBG (ae (oy (aC fq (hr.mono (by omega)) (cG hc) T.iO T.ft.kp T.iS .nil aY (ae (aj hc 3) (ae oz ah)))) ah)) (λ_ _=>rfl)) (aX _)))) aN);apply ai;exact(aE hc gK.nd hf 8 (by decide +kernel) (bj jk (aj hc 4) (aC aZ (hr.mono (by omega)) (cG hc) T.bx T.bq.kp T.bz .nil aY (ae (aj hc 1) (ae (bA gS (cG hc) T.z_len rg (ae (aj hc 4) ah)) ah))) (λ_ _=>rfl)));apply ai;exact(aE hc gK.nd hf 9 (by decide +kernel) (aC BK (hr.mono (by omega)) (cG hc) T.Bf T.rk.kp T.Bw .nil aY (ae (aj hc 6) (ae (aj hc 8) ah))));exact ak (bh (aG Vp (bA gS (cG hc) T.z_len rg (ae (aj hc 9) ah)) aq (aX _)) (by apply ai;exact(jF (bj jk (aj hc 9) (aC aZ (hr.mono (by omega)) (cG hc) T.bx T.bq.kp T.bz .nil aY (ae (aj hc 1) (ae (bA gS (cG hc) T.z_len rg (ae (aj hc 9) ah)) ah))) (λ_ _=>rfl)) (kK rfl (cH (gk hc gK.nd hf 10 (by decide +kernel)) (cH (gk hc gK.nd hf 11 (by decide +kernel)) je))));apply ai;exact(aE hc gK.nd hf 12 (by decide +kernel) (aC Rt (hr.mono (by omega)) (cG hc) T.P9 T.Fp.kp T.Rh .nil aAl (ae (aj hc 10) (ae (aj hc 11) (ae (aj hc 8) ah)))));apply ai;exact(bh (aG (Tt hu) (aj hc 12) (aC Fn (hr.mono (by omega)) (cG hc) T.DW T.uE.kp T.Fd .nil aY (ae (aj hc 10) (ae (aj hc 11) (ae (aj hc 8) ah)))) (aX _)) (by exact ak (aF bY)) aN);exact ak (bh (aG Tr (aj hc 12) qu (aX _)) (by apply ai;exact(bh (ou (iL (bA (yO hr.hd) (cG hc) T.z_any V6 (ae (bX hc ["_law_clause"] [12] rfl (by decide +kernel) (bI (aj hc 5)) (λ_ hc=>kJ hc (by decide +kernel) 0 (by decide +kernel)) (λ_ _=>eZ) (λ_ hc=>(aC xP (hr.mono (by omega)) (cG hc) T.xm T.ph.kp T.xH .nil aY (ae (aj hc 0) (ae (aj hc 1) ah))))) ah)))) (by exact ak (aF bY)) aN);apply ai;exact(bh (oW (vL (aG Ts (aC M6 (hr.mono (by omega)) (cG hc) T.Ly T.y9.kp T.MT .nil aY (ae (aj hc 3) (ae (aj hc 12) ah))) bY (aX _)) (qt (ou (iL (aC wW (hr.mono (by omega)) (cG hc) T.wA T.om.kp T.wR .nil aY (ae (aj hc 3) (ae (aj hc 12) ah)))))))) (by exact ak (aF bY)) aN);exact ak (cA (fL j5 lP lQ cQ (aj hc 6) (ae (aj hc 12) ah)))) aN)) aN)));exact ak (aF bY)),?_⟩
 walk_at "r"
 refine⟨a,ns,rfl,hS,λh H1 s1 hh hd=>?_⟩
 walk_at "r"
 refine dv hd Dr.refl (by decide) (by decide) λm H2 m0 m7 d2 k2=>?_
 walk_at "r"
 refine⟨h,_,rfl,by lia,by lia,d2.cD hd,λN ss H3 d3 hN Nc ls nd nm=>?_⟩
 have Nf:=d2.trans d3
 have Zd:=Nf.cD hd
 have l5:ss.length<=5:=by lia
 clear d2 k2 d3 Nf hN hh
 walk_at "r"
 refine dv Zd Dr.refl (by decide) (by decide) λdp H4 dp0 dp6 d4 e4=>?_
 have Zc:=d4.cD Zd
 have hN4:H4 N=some (.lst (List.map V.str ss)):=by rw[e4 N (Zd.Xj Nc)];exact Nc
 walk_at "r"
 refine⟨h,N,_,rfl,by lia,by lia,ss,Zc,hN4,by lia,λp r H5 d5 ra dr sub=>?_⟩
 have X4:=d5.cD Zc
 walk_at "r"
 refine⟨p,rfl,r,ra,by lia,by lia,λO ts H6 s6 hO hO6 mem ndt uS=>?_⟩
 have inc:=HS uS ndt
 have ra6:=ra.mono (aD s6)
 walk_at "r"
 refine⟨p,rfl,r,ra6,by lia,⟨ss,by lia,sub⟩,λD cs us H7 s7 hD hD7 cat aBQ YZ Xn=>?_⟩
 have hO7:=s7 _ _ hO6
 have ra7:=ra6.mono (aD s7)
 have lcs:=cat.1
 have lt5:ts.length<=5:=df (len_sub ndt λz hz=>sub z ((mem z).mp hz)) l5
 have hd7:dP H7 h:=(Dr.refl.same (s6.trans s7)).cD X4
 have sh:∀{cl:Cl},cl∈us->Short r cl:=λe=>(Xn _).mp e
 repeat (first | walk_at "rl" | simp only[hD7])
 have Zk:D≠h:=((Dr.refl.same s6).cD X4).ne hD
 have Ye:O≠h:=X4.ne hO
 have gu:∀cl∈us,Gd r cl:=λcl qW=>⟨(sh qW).inc,(sh qW).sub,(sh qW).Il⟩
 have gl:∀{cl:Cl},Gd r cl->cl.length<=5:=λ{cl} z=>by
  have:=len_sub (kf z.inc) λx hx=>by
   obtain⟨y,hy,rfl⟩:=bH.mp hx
   exact sub _ (z.sub y hy)
  rw[aM]at this
  lia
 have csD:CS H7 cs (Gd r):=λb hb=>by
  obtain⟨i,hi,rfl⟩:=gD.mp hb
  have eu:us[i]?=some (us[i]'(by lia)):=bD (by lia)
  exact⟨_,cat.2 i _ _ (bD hi) eu,gu _ (dE eu)⟩
 intro P1 hP1
 rw[Kd _ (by decide),show(8:Int).toNat=8 from rfl,<-zb]
 have s8:=av hP1 (.lst (List.map V.ref (cs.take 8)))
 have hP8:upd H7 P1 (.lst (List.map V.ref (cs.take 8))) P1=some (.lst (List.map V.ref (cs.take 8))):=ag
 have aEo:P1≠h:=hd7.ne hP1
 generalize upd H7 P1 (.lst (List.map V.ref (cs.take 8)))=H8 at s8 hP8 ⊢
 refine⟨_,s8 _ _ hD7,λP2 hP2=>?_⟩
 rw[Kd _ (by decide),show(8:Int).toNat=8 from rfl,<-zb]
 have s9:=av hP2 (.lst (List.map V.ref (cs.take 8)))
 have hP9:upd H8 P2 (.lst (List.map V.ref (cs.take 8))) P2=some (.lst (List.map V.ref (cs.take 8))):=ag
 generalize upd H8 P2 (.lst (List.map V.ref (cs.take 8)))=H9 at s9 hP9 ⊢
 have Rz:=s8.trans s9
 have VD:dP H9 h:=(Dr.refl.same Rz).cD hd7
 have aEn:P2≠h:=((Dr.refl.same s8).cD hd7).ne hP2
 have l8:(cs.take 8).length<=8:=by rw[cz];lia
 have cs9:CS H9 (cs.take 8) (Gd r):=(λb hb=>(csD.mono (aD Rz)) b (tT hb))
 refine⟨⟨_,aP hP9⟩,?_⟩
 obtain⟨Pc,iu⟩:∃Pc:Addr->Nat->List V->Hp->Prop,∀Z i ys H',Pc Z i ys H'↔∃rs:List Addr,ys=List.map V.ref rs/\rs.length=i/\Dr h H9 H'/\H' Z=some (.lst ys)/\CS H' rs (Gd r):=⟨_,λ_ _ _ _=>cp⟩
 refine dX (zs:=List.map V.ref (cs.take 8)) Pc (λZ hZ=>(iu _ _ _ _).mpr ⟨[],rfl,rfl,Dr.refl.new hZ,ag,λb hb=>(nomatch hb)⟩) (λZ hZ i ys H' _ pv=>?_) (λZ hZ i z ys H' hz pv cb=>?_) (λZ hZ ys Zu pv=>?_)
 ·obtain⟨_,_,_,d,_⟩:=(iu _ _ _ _).mp pv
  exact d.keep _ _ aEn hP9
 ·obtain⟨rs,rfl,hrl,d,hZ',cr⟩:=(iu _ _ _ _).mp pv
  obtain⟨b,eb,rfl⟩:=dB hz
  have hi:i<(cs.take 8).length:=(cy.mp eb).1
  obtain⟨cl,ca,cg⟩:=cs9 b (dE eb)
  have hZh:Z≠h:=VD.ne hZ
  have Ze:=d.cD VD
  walk_at "rc"
  walk_at "r"
  refine⟨h,b,O,rfl,Ze,cl,ts,⟨ca.mono (d.tups VD),cg.inc,λx hx=>(mem _).mpr (cg.sub x hx)⟩,d.keep _ _ Ye (Rz _ _ hO7),by lia,ndt,λp1 kl tJ d' kn Y0=>⟨d'.keep _ _ hZh hZ',aL (by lia),(iu _ _ _ _).mpr ⟨rs++[p1],by rw[bP];rfl,by simp[hrl],(d.trans d').put hZ,ag,λb hb=>?_⟩⟩⟩
  have kt:lI tJ (upd tJ Z (.lst (List.map V.ref rs++[V.ref p1]))):=hX (d'.keep _ _ hZh hZ')
  rcases bT.mp hb with hb | hb
  ·exact(cr.mono ((d'.tups Ze).trans kt)) b hb
  ·rw[bR.mp hb]
   exact⟨kl,kn.at_.mono kt,kn.inc,λx hx=>(mem _).mp (kn.sub x hx),λe he=>let ⟨x,hx,ex⟩:=cg.Il e he;⟨x,Y0 x hx,ex⟩⟩
 obtain⟨rs,rfl,hrl,Zq,aAR,cr⟩:=(iu _ _ _ _).mp pv
 rw[aM]at hrl
 have aAS:=Zq.keep _ _ aEo (s9 _ _ hP8)
 have aAN:=Zq.cD VD
 refine⟨Z,rfl,_,aAS,_,aAR,by rw[aM,aM];exact cS (by lia),λS hS0=>?_⟩
 rw[<-bP]
 have s11:=av hS0 (.lst (List.map V.ref (cs.take 8++rs)))
 have Uu:upd Zu S (.lst (List.map V.ref (cs.take 8++rs))) S=some (.lst (List.map V.ref (cs.take 8++rs))):=ag
 have hSh:S≠h:=aAN.ne hS0
 generalize upd Zu S (.lst (List.map V.ref (cs.take 8++rs)))=H11 at s11 Uu ⊢
 have Yq:Dr h H9 H11:=Zq.same s11
 have Ys:CS H11 (cs.take 8++rs) (Gd r):=λb hb=>by
  rcases bT.mp hb with hb | hb
  ·exact(cs9.mono (Yq.tups VD)) b hb
  ·exact(cr.mono (aD s11)) b hb
 have lS:(cs.take 8++rs).length<=16:=by rw[cw];lia
 generalize cs.take 8++rs=bs at Ys lS Uu
 have aAU:=Yq.keep _ _ Ye (Rz _ _ hO7)
 have aA0:=Yq.keep _ _ Zk (Rz _ _ hD7)
 have V4:ClsAt H11 cs us:=(cat.mono (aD Rz)).mono (Yq.tups VD)
 have Z8:iF H11 r p:=(ra7.mono (aD Rz)).mono (Yq.tups VD)
 have aEe:=Yq.cD VD
 have RQ:D≠S:=λz=>by rw[<-z,Zq.keep _ _ Zk (Rz _ _ hD7)]at hS0;cases hS0
 have hOS:O≠S:=λz=>by rw[<-z,Zq.keep _ _ Ye (Rz _ _ hO7)]at hS0;cases hS0
 clear aAS aAR hP8 hP9 s8 s9 Rz cs9 cr pv iu Zq Yq hZ csD
 walk_at "r"
 obtain⟨Pv,cx⟩:∃Pv:Nat->St->Hp->Prop,∀i σ' H',Pv i σ' H'↔∃(z7 z8 z9 YH YG YF:Option V) (bs:List Addr),σ'=[some (.ref a),some (.ref h),some (.ref N),some (.ref p),some (.ref O),some (.ref D),some (.ref S),z7,z8,z9,YH,YG,YF]/\Dr h Zu H'/\H' O=some (.lst (List.map V.str ts))/\H' D=some (.lst (List.map V.ref cs))/\ClsAt H' cs us/\iF H' r p/\H' S=some (.lst (List.map V.ref bs))/\bs.length<=16+i/\CS H' bs (Gd r):=⟨_,λ_ _ _=>cp⟩
 refine pV Pv ((cx _ _ _).mpr ⟨none,none,none,none,none,none,bs,rfl,Dr.refl.same s11,aAU,aA0,V4,Z8,Uu,by lia,Ys⟩) (λi σ' H12 hi pv=>?_) (λσ' H12 pv=>?_)
 ·clear aEe aAU aA0 V4 Z8 Uu Ys
  obtain⟨z7,z8,z9,YH,YG,YF,bs,rfl,aA8,Uv,aAZ,V3,Z7,aEk,aFS,aFa⟩:=(cx _ _ _).mp pv
  have Qv:=aA8.cD aAN
  repeat (first | walk_at "rl" | simp only[Uv])
  by_cases e0:((ts.length:Nat):Int)=0
  ·rw[aB e0]
   walk_at "r"
   have ets:ts=[]:=Nj (by lia)
   have nn:∀z,z∉r.names:=λz hz=>by have:=(mem z).mpr hz;rw[ets]at this;cases this
   refine⟨by decide,λP1 h1=>?_⟩
   have s1:=av h1 (.lst [])
   have g1:upd H12 P1 (.lst []) P1=some (.lst []):=ag
   generalize upd H12 P1 (.lst [])=G1 at s1 g1 ⊢
   refine⟨by decide,λP2 h2=>?_⟩
   have s2:=av h2 (.tup [])
   have g2:upd G1 P2 (.tup []) P2=some (.tup []):=ag
   generalize upd G1 P2 (.tup [])=G2 at s2 g2 ⊢
   refine⟨by decide,λP3 h3=>?_⟩
   have s3:=av h3 (.lst [V.ref P2])
   have g3:upd G2 P3 (.lst [V.ref P2]) P3=some (.lst [V.ref P2]):=ag
   generalize upd G2 P3 (.lst [V.ref P2])=G3 at s3 g3 ⊢
   refine⟨by decide,λP4 h4=>?_⟩
   have s4:=av h4 (.lst [V.ref P1,V.ref P3])
   have g4:upd G3 P4 (.lst [V.ref P1,V.ref P3]) P4=some (.lst [V.ref P1,V.ref P3]):=ag
   generalize upd G3 P4 (.lst [V.ref P1,V.ref P3])=G4 at s4 g4 ⊢
   intro P5 h5
   have s5:=av h5 (.dK [])
   have g5:upd G4 P5 (.dK []) P5=some (.dK []):=ag
   generalize upd G4 P5 (.dK [])=G5 at s5 g5 ⊢
   have YM:=(((s1.trans s2).trans s3).trans s4).trans s5
   refine⟨p,P5,rfl,r,Z7.mono (aD YM),by lia,[],g5,(λx hx=>absurd hx (nn x)),_,rfl,?_⟩
   have only:∀cl,Short r cl->cl=[]:=λcl z=>by
    cases cl with
    | nil=>rfl
    | cons x cl=>exact absurd (z.sub x di) (nn _)
   have vc:∀e:Str->Bool,r.val e=r.val (gq []):=λe=>Rl.val_congr λx hx=>absurd hx (nn x)
   have Mh:=YM _ _ aAZ
   have aBB:=V3.mono (aD YM)
   have g15:=s5 _ _ (s4 _ _ (s3 _ _ (s2 _ _ g1)))
   have g25:=s5 _ _ (s4 _ _ (s3 _ _ g2))
   have g35:=s5 _ _ (s4 _ _ g3)
   have g45:=s5 _ _ g4
   cases ev:Rl.val (gq []) r with
   | true=>
    have eu:us=[]:=List.eq_nil_iff_forall_not_mem.mpr λcl qW=>by
     have z:=sh qW
     rw[only cl z]at z
     obtain⟨x,hx,_⟩:=z.Il _ ev
     cases hx
    refine⟨_,rfl,0,rfl,_,g45,.ref P1,rfl,P1,rfl,cs,Mh,[],g15,us,aBB,[],⟨rfl,λ_ _ _ z=>by cases z⟩,?_⟩
    rw[eu,decide_eq_true rfl]
    exact q _
   | false=>
    have eu:us=[[]]:=by
     have h1:[]∈us:=(Xn []).mpr ⟨List.Pairwise.nil,λx hx=>(nomatch hx),(λe he=>by rw[vc,ev]at he;cases he),λi hi=>absurd hi (rS i)⟩
     cases us with
     | nil=>cases h1
     | cons u us=>
      have e1:=only u (sh di)
      subst e1
      cases us with
      | nil=>rfl
      | cons u2 us=>
       have e2:=only u2 (sh (fw _ di))
       subst e2
       have:=(zC.mp aBQ).1 [] di
       exact absurd this (by decide)
    refine⟨_,rfl,1,rfl,_,g45,.ref P3,rfl,P3,rfl,cs,Mh,[P2],g35,us,aBB,[[]],⟨rfl,λi b cl e1 e2=>?_⟩,?_⟩
    ·cases i with
     | zero=>cases e1;cases e2;exact⟨[],g25,dC.nil⟩
     | succ i=>cases e1
    rw[eu,decide_eq_true rfl]
    exact q _
  rw[aA e0]
  repeat (first | walk_at "rl" | simp only[Uv])
  refine dv Qv Dr.refl (by lia) (by lia) λv H13 v0 v1 Nf k13=>⟨v,rfl,_,Nf.keep _ _ Ye Uv,?_⟩
  have xt:=Nf.cD Qv
  have aA7:=aA8.trans Nf
  obtain⟨n,en⟩:∃n,ts[v.toNat]?=some n:=⟨_,bD (by lia)⟩
  have atn:uM (List.map V.str ts) v=some (.str n):=by
   have:=fH (xs:=List.map V.str ts) (j:=v.toNat) (v:=.str n) (by rw[cR,en];rfl)
   rwa [show((v.toNat:Nat):Int)=v by lia]at this
  refine⟨_,atn,?_⟩
  have aAT:=Nf.keep _ _ Ye Uv
  have Yi:=Nf.keep _ _ Zk aAZ
  have Yd:=Nf.keep _ _ hSh aEk
  have Q9:=V3.mono (Nf.tups Qv)
  have Wx:=Z7.mono (Nf.tups Qv)
  have Yr:=aFa.mono (Nf.tups Qv)
  walk_at "r"
  refine⟨S,n,rfl,bs,Gd r,Yd,by lia,Yr,λPL ps H14 YQ hPL QC lps WT=>?_⟩
  have X5:=(Dr.refl.same YQ).cD xt
  have stay:∀(H':Hp) (YH YG YF:Option V),Dr h H13 H'->Pv (i+1) [some (.ref a),some (.ref h),some (.ref N),some (.ref p),some (.ref O),some (.ref D),some (.ref S),some (.int (i:Int)),some (.str n),some (.ref PL),YH,YG,YF] H':=λH' YH YG YF d=>(cx _ _ _).mpr ⟨_,_,_,_,_,_,bs,rfl,aA7.trans d,d.keep _ _ Ye aAT,d.keep _ _ Zk Yi,Q9.mono (d.tups xt),Wx.mono (d.tups xt),d.keep _ _ hSh Yd,by lia,Yr.mono (d.tups xt)⟩
  repeat (first | walk_at "rl" | simp only[QC])
  by_cases e1:0<((ps.length:Nat):Int)
  ·rw[aB e1]
   repeat (first | walk_at "rl" | simp only[QC])
   refine dv X5 Dr.refl (by lia) (by lia) λv2 H15 w0 w1 d15 k15=>?_
   have aFX:=d15.cD X5
   have V1:Dr h H13 H15:=(Dr.refl.same YQ).trans d15
   have aEm:PL≠h:=xt.ne hPL
   obtain⟨q0,eq0⟩:∃q0,ps[v2.toNat]?=some q0:=⟨_,bD (by lia)⟩
   have atq:uM (List.map V.ref ps) v2=some (.ref q0):=by
    have:=fH (xs:=List.map V.ref ps) (j:=v2.toNat) (v:=.ref q0) (by rw[cR,eq0];rfl)
    rwa [show((v2.toNat:Nat):Int)=v2 by lia]at this
   obtain⟨A1,B1,cl,dl,hq0,ca,da,cg,dg,in1,XF⟩:=(WT.mono (d15.tups X5)) q0 (dE eq0)
   have jc:Vd H15 cl A1:=⟨ca,cg.inc,by have:=gl cg;lia⟩
   have jd:Vd H15 dl B1:=⟨da,dg.inc,by have:=gl dg;lia⟩
   refine⟨v2,rfl,_,d15.keep _ _ aEm QC,_,atq,?_⟩
   refine⟨q0,_,rfl,bC hq0,rfl,.ref A1,[.ref B1],rfl,.ref B1,[],rfl,rfl,?_⟩
   walk_at "r"
   refine⟨A1,B1,n,rfl,cl,dl,jc,jd,(λz=>absurd z (λz=>z.elim (λz=>z in1) λz=>z XF)),λ_ _ H16 YL=>⟨λno=>?_,λon p1 kl ka ko=>?_⟩⟩
   ·walk_at "r"
    refine⟨A1,B1,n,rfl,cl,dl,jc.mono (aD YL),jd.mono (aD YL),λH17 Z4=>⟨λ_=>.inl ⟨rfl,?_⟩,λon=>absurd on no⟩⟩
    walk_at "r"
    rw[aA (by decide)]
    exact stay _ _ _ _ (V1.same (YL.trans Z4))
   ·walk_at "r"
    refine⟨A1,B1,n,rfl,cl,dl,jc.mono (aD YL),jd.mono (aD YL),λH17 Z4=>⟨λno=>absurd on no,λ_ p2 Ub ka2 ko2=>.inr ⟨p1,p2,rfl,rfl,kl,Ub,ka.mono (aD Z4),ka2,_,rfl,?_⟩⟩⟩
    have ekl:Ub=kl:=ko2.same ko
    subst ekl
    rw[aA (by simp)]
    have kg:Gd r Ub:=cg.join dg in1 XF ko
    have d17:Dr h H13 H17:=V1.same (YL.trans Z4)
    have Ud:=ka.mono (aD Z4)
    have aAY:=d17.keep _ _ Zk Yi
    have aBC:=Q9.mono (d17.tups xt)
    have Z6:=Wx.mono (d17.tups xt)
    have lkl:=gl kg
    walk_at "r"
    rw[aB (by decide)]
    walk_at "r"
    refine⟨⟨_,aP aAY⟩,?_⟩
    obtain⟨Pd,QB⟩:∃Pd:Addr->Nat->List V->Hp->Prop,∀Z i ys H',Pd Z i ys H'↔ys=List.map V.bl ((us.take i).map λcl=>cl.all λx=>decide (x∈Ub))/\bf H17 H'/\H' Z=some (.lst ys):=⟨_,λ_ _ _ _=>cp⟩
    refine dX (zs:=List.map V.ref cs) Pd (λZ hZ=>(QB _ _ _ _).mpr ⟨rfl,av hZ _,ag⟩) (λZ hZ i ys H' _ pv=>?_) (λZ hZ j z ys H18 hz pv cb=>?_) (λZ hZ ys H18 pv=>?_)
    ·obtain⟨_,s,_⟩:=(QB _ _ _ _).mp pv
     exact s _ _ aAY
    ·obtain⟨rfl,Wv,Ut⟩:=(QB _ _ _ _).mp pv
     obtain⟨b0,eb,rfl⟩:=dB hz
     have hj:j<cs.length:=(cy.mp eb).1
     have eu:us[j]?=some (us[j]'(by lia)):=bD (by lia)
     have qW:=(aBC.2 j _ _ eb eu).mono (aD Wv)
     walk_at "rc"
     walk_at "r"
     refine⟨b0,p1,rfl,_,Ub,qW,Ud.mono (aD Wv),Ut,by rw[cz];exact aL (by lia),(QB _ _ _ _).mpr ⟨?_,bp Wv hZ,ag⟩⟩
     rw[dU eu,bP,bP]
     rfl
    obtain⟨rfl,Wv,Ut⟩:=(QB _ _ _ _).mp pv
    rw[aM,lcs,fu]at Ut
    refine⟨Z,rfl,_,Ut,?_⟩
    obtain⟨sl,s1,s2⟩:=Cy _ (aU _) kg.inc kg.sub kg.Il
    have an:(us.map λcl=>cl.all λx=>decide (x∈Ub)).any id=true:=qi.mpr ⟨true,bH.mpr ⟨sl,(Xn sl).mpr s1,jC.mpr λx hx=>decide_eq_true (s2 x hx)⟩,rfl⟩
    rw[an,aA (by decide)]
    have aA2:Few r:=⟨ss,by lia,sub⟩
    walk_at "r"
    refine⟨p,p1,rfl,r,Ub,Z6.mono (aD Wv),by lia,aA2,Ud.mono (aD Wv),by lia,λb H19 s19 hb=>?_⟩
    have hbt:b=true:=hb.mpr λe he=>let ⟨x,hx,ex⟩:=kg.Il e he;⟨x,hx,kg.sub x hx,ex⟩
    subst hbt
    refine⟨true,rfl,?_⟩
    rw[aA (by decide)]
    have Og:=Wv.trans s19
    refine⟨p,p1,rfl,r,Ub,Z6.mono (aD Og),by lia,aA2,Ud.mono (aD Og),by lia,kg.sub,kg.Il,λH20 s20=>⟨_,rfl,?_⟩⟩
    rw[aA (by decide)]
    have Vl:=Og.trans s20
    have Yp:Dr h H13 H20:=d17.same Vl
    have Yc:=Yp.keep _ _ hSh Yd
    walk_at "r"
    refine⟨.inl ⟨rfl,_,aP Yc⟩,_,Yc,by rw[aM];exact aL (by lia),?_⟩
    have kt:lI H20 (upd H20 S (.lst (List.map V.ref bs++[V.ref p1]))):=hX Yc
    have ku:∀{b:Addr} {o:HO},b≠S->H20 b=some o->upd H20 S (.lst (List.map V.ref bs++[V.ref p1])) b=some o:=λn e=>by rw[au n];exact e
    refine(cx _ _ _).mpr ⟨_,_,_,_,_,_,bs++[p1],rfl,?_,ku hOS (Yp.keep _ _ Ye aAT),ku RQ (Yp.keep _ _ Zk Yi),(Q9.mono (Yp.tups xt)).mono kt,(Wx.mono (Yp.tups xt)).mono kt,by rw[ag,bP];rfl,by rw[cw,ja];lia,λb hb=>?_⟩
    ·exact(aA7.trans Yp).put hS0
    ·rcases bT.mp hb with hb | hb
     ·exact((Yr.mono (Yp.tups xt)).mono kt) b hb
     ·rw[bR.mp hb]
      exact⟨Ub,(Ud.mono (aD Vl)).mono kt,kg⟩
  ·rw[aA e1]
   exact stay _ _ _ _ (Dr.refl.same YQ)
 ·walk_at "r"
  obtain⟨z7,z8,z9,YH,YG,YF,bs,rfl,_⟩:=(cx _ _ _).mp pv
  walk_at "r"
  exact q _
end
local macro_rules | `(tactic| walk_at "rd") => `(tactic| walk_at "rc")
local macro_rules | `(tactic| walk_at "rl") => `(tactic| first | (refine cT fun R hR => ?_) | walk_at "ry" | (refine Nx.to (by assumption) _ _ ?_))
theorem all_mk{l:PySem.W.OpenLaw}{w:World}{K:PySem.W.Frag}{h:Heap}{mg:Str->Option Value}{fa f0 f1 f2 f3 f4 f5 f6 f7 f8 f9 f10 f11 f12 f13 f14 f15 f16 f17 f18 f19 f20 f21 f22 f23 f24 f25 f26 f27 f28 f29 f30 f31 f32:Addr}(X:K.In h)(G:h.Ns mainGlobals mg)(hfa:mg "law" = some (.ref fa))
  {od0 an0 od1 an1 od2 an2 od3 an3 od4 an4 od5 an5 od6 an6 od7 an7 od8 an8 od9 an9 aC7 aFB aC6 aFA aC5 aFz aC4 aFy aC3 aFx aC2 aFw aC1 aFv aC0 aFu aCZ aFt aCY aFs aCX aFr aCW aFq aCV aFp aCU aFo aCT aFn aCS aFm aCR aFl aCQ aFk aCP aFj aCO aFi aCN aFh aCM aFg aCL aBI:Option Addr} {sl0 sl1 K0 sl3 sl4 sl5 sl6 sl7 sl8 sl9 aCe aCd aCc aCb aCa aB9 aB8 aB7 aB6 aB5 aB4 aB3 aB2 aB1 aB0 aBZ aBY aBX aBW aBV aBU aBT aBS:Array (Option Value)} {oc0 kV0 dc0 pm0 cd0 ct0 oc1 kV1 dc1 pm1 cd1 ct1 oc2 kV2 dc2 pm2 cd2 ct2 oc3 kV3 dc3 pm3 cd3 ct3 oc4 kV4 dc4 pm4 cd4 ct4 oc5 kV5 dc5 pm5 cd5 ct5 oc6 kV6 dc6 pm6 cd6 ct6 oc7 kV7 dc7 pm7 cd7 ct7 oc8 kV8 dc8 pm8 cd8 ct8 oc9 kV9 dc9 pm9 cd9 ct9 aDu aDX aEN aCJ aBA aE9 aDt aDW aEM aCI aBz aE8 aDs aDV aEL aCH aBy aE7 aDr aDU aEK aCG aBx aE6 aDq aDT aEJ aCF aBw aE5 aDp aDS aEI aCE aBv aE4 aDo aDR aEH aCD aBu aE3 aDn aDQ aEG aCC aBt aE2 aDm aDP aEF aCB aBs aE1 aDl aDO aEE aCA aBr aE0 aDk aDN aED aCz aBq aEZ aDj aDM aEC aCy aBp aEY aDi aDL aEB aCx aBo aEX aDh aDK aEA aCw aBn aEW aDg aDJ aEz aCv aBm aEV aDf aDI aEy aCu aBl aEU aDe aDH aEx aCt aBk aET aDd aDG aEw aCs aBj aES aDc aDF aEv aCr aBi aER aDb aDE aEu aCq aBh aEQ aDa aDD aEt aCp aBg aEP aC9 aDC aEs aCo aBf aEO aC8 aAA aA9 aAg Yu aBb:Value}
  (a0:PySem.W.nsIn K mainGlobals "names_of" = some (some (.ref f0))) (l0:K.lookup f0=some ⟨oc0,od0,.func (PySem.W.fnOf "names_of" "names_of" (aW gN) (aQ gN) (ao gN) .none kV0 dc0 pm0 an0 cd0 ct0),sl0⟩) (c0:PySem.W.codeIn K cd0 "names_of" = true) (k0:PySem.W.keepIn K (.ref f0)=true)
  (a1:PySem.W.nsIn K mainGlobals "names_within" = some (some (.ref f1))) (l1:K.lookup f1=some ⟨oc1,od1,.func (PySem.W.fnOf "names_within" "names_within" (aW dN) (aQ dN) (ao dN) .none kV1 dc1 pm1 an1 cd1 ct1),sl1⟩) (c1:PySem.W.codeIn K cd1 "names_within" = true) (k1:PySem.W.keepIn K (.ref f1)=true)
  (a2:PySem.W.nsIn K mainGlobals "each_once_in_order" = some (some (.ref f2))) (l2:K.lookup f2=some ⟨oc2,od2,.func (PySem.W.fnOf "each_once_in_order" "each_once_in_order" (aW bS) (aQ bS) (ao bS) .none kV2 dc2 pm2 an2 cd2 ct2),K0⟩) (c2:PySem.W.codeIn K cd2 "each_once_in_order" = true) (k2:PySem.W.keepIn K (.ref f2)=true)
  (a3:PySem.W.nsIn K mainGlobals "order_of" = some (some (.ref f3))) (l3:K.lookup f3=some ⟨oc3,od3,.func (PySem.W.fnOf "order_of" "order_of" (aW gM) (aQ gM) (ao gM) .none kV3 dc3 pm3 an3 cd3 ct3),sl3⟩) (c3:PySem.W.codeIn K cd3 "order_of" = true) (k3:PySem.W.keepIn K (.ref f3)=true)
  (a4:PySem.W.nsIn K mainGlobals "clauses_in_order" = some (some (.ref f4))) (l4:K.lookup f4=some ⟨oc4,od4,.func (PySem.W.fnOf "clauses_in_order" "clauses_in_order" (aW cq) (aQ cq) (ao cq) .none kV4 dc4 pm4 an4 cd4 ct4),sl4⟩) (c4:PySem.W.codeIn K cd4 "clauses_in_order" = true) (k4:PySem.W.keepIn K (.ref f4)=true)
  (a5:PySem.W.nsIn K mainGlobals "clause_of" = some (some (.ref f5))) (l5:K.lookup f5=some ⟨oc5,od5,.func (PySem.W.fnOf "clause_of" "clause_of" (aW fS) (aQ fS) (ao fS) .none kV5 dc5 pm5 an5 cd5 ct5),sl5⟩) (c5:PySem.W.codeIn K cd5 "clause_of" = true) (k5:PySem.W.keepIn K (.ref f5)=true)
  (a6:PySem.W.nsIn K mainGlobals "left_of" = some (some (.ref f6))) (l6:K.lookup f6=some ⟨oc6,od6,.func (PySem.W.fnOf "left_of" "left_of" (aW iT) (aQ iT) (ao iT) .none kV6 dc6 pm6 an6 cd6 ct6),sl6⟩) (c6:PySem.W.codeIn K cd6 "left_of" = true) (k6:PySem.W.keepIn K (.ref f6)=true)
  (a7:PySem.W.nsIn K mainGlobals "joined" = some (some (.ref f7))) (l7:K.lookup f7=some ⟨oc7,od7,.func (PySem.W.fnOf "joined" "joined" (aW kb) (aQ kb) (ao kb) .none kV7 dc7 pm7 an7 cd7 ct7),sl7⟩) (c7:PySem.W.codeIn K cd7 "joined" = true) (k7:PySem.W.keepIn K (.ref f7)=true)
  (a8:PySem.W.nsIn K mainGlobals "truth_of" = some (some (.ref f8))) (l8:K.lookup f8=some ⟨oc8,od8,.func (PySem.W.fnOf "truth_of" "truth_of" (aW gL) (aQ gL) (ao gL) .none kV8 dc8 pm8 an8 cd8 ct8),sl8⟩) (c8:PySem.W.codeIn K cd8 "truth_of" = true) (k8:PySem.W.keepIn K (.ref f8)=true)
  (a9:PySem.W.nsIn K mainGlobals "truth_of_two" = some (some (.ref f9))) (l9:K.lookup f9=some ⟨oc9,od9,.func (PySem.W.fnOf "truth_of_two" "truth_of_two" (aW dM) (aQ dM) (ao dM) .none kV9 dc9 pm9 an9 cd9 ct9),sl9⟩) (c9:PySem.W.codeIn K cd9 "truth_of_two" = true) (k9:PySem.W.keepIn K (.ref f9)=true)
  (a10:PySem.W.nsIn K mainGlobals "all_facts" = some (some (.ref f10))) (l10:K.lookup f10=some ⟨aDu,aC7,.func (PySem.W.fnOf "all_facts" "all_facts" (aW fT) (aQ fT) (ao fT) .none aDX aEN aCJ aFB aBA aE9),aCe⟩) (c10:PySem.W.codeIn K aBA "all_facts" = true) (k10:PySem.W.keepIn K (.ref f10)=true)
  (a11:PySem.W.nsIn K mainGlobals "with_fact" = some (some (.ref f11))) (l11:K.lookup f11=some ⟨aDt,aC6,.func (PySem.W.fnOf "with_fact" "with_fact" (aW fP) (aQ fP) (ao fP) .none aDW aEM aCI aFA aBz aE8),aCd⟩) (c11:PySem.W.codeIn K aBz "with_fact" = true) (k11:PySem.W.keepIn K (.ref f11)=true)
  (a12:PySem.W.nsIn K mainGlobals "follows" = some (some (.ref f12))) (l12:K.lookup f12=some ⟨aDs,aC5,.func (PySem.W.fnOf "follows" "follows" (aW iU) (aQ iU) (ao iU) .none aDV aEL aCH aFz aBy aE7),aCc⟩) (c12:PySem.W.codeIn K aBy "follows" = true) (k12:PySem.W.keepIn K (.ref f12)=true)
  (a13:PySem.W.nsIn K mainGlobals "facts_for" = some (some (.ref f13))) (l13:K.lookup f13=some ⟨aDr,aC4,.func (PySem.W.fnOf "facts_for" "facts_for" (aW fQ) (aQ fQ) (ao fQ) .none aDU aEK aCG aFy aBx aE6),aCb⟩) (c13:PySem.W.codeIn K aBx "facts_for" = true) (k13:PySem.W.keepIn K (.ref f13)=true)
  (a14:PySem.W.nsIn K mainGlobals "shortest_of" = some (some (.ref f14))) (l14:K.lookup f14=some ⟨aDq,aC3,.func (PySem.W.fnOf "shortest_of" "shortest_of" (aW d8) (aQ d8) (ao d8) .none aDT aEJ aCF aFx aBw aE5),aCa⟩) (c14:PySem.W.codeIn K aBw "shortest_of" = true) (k14:PySem.W.keepIn K (.ref f14)=true)
  (a15:PySem.W.nsIn K mainGlobals "following_over" = some (some (.ref f15))) (l15:K.lookup f15=some ⟨aDp,aC2,.func (PySem.W.fnOf "following_over" "following_over" (aW cM) (aQ cM) (ao cM) .none aDS aEI aCE aFw aBv aE4),aB9⟩) (c15:PySem.W.codeIn K aBv "following_over" = true) (k15:PySem.W.keepIn K (.ref f15)=true)
  (a16:PySem.W.nsIn K mainGlobals "has_shorter" = some (some (.ref f16))) (l16:K.lookup f16=some ⟨aDo,aC1,.func (PySem.W.fnOf "has_shorter" "has_shorter" (aW d9) (aQ d9) (ao d9) .none aDR aEH aCD aFv aBu aE3),aB8⟩) (c16:PySem.W.codeIn K aBu "has_shorter" = true) (k16:PySem.W.keepIn K (.ref f16)=true)
  (a17:PySem.W.nsIn K mainGlobals "_law_hand" = some (some (.ref f17))) (l17:K.lookup f17=some ⟨aDn,aC0,.func (PySem.W.fnOf "_law_hand" "_law_hand" (aW fY) (aQ fY) (ao fY) .none aDQ aEG aCC aFu aBt aE2),aB7⟩) (c17:PySem.W.codeIn K aBt "_law_hand" = true) (k17:PySem.W.keepIn K (.ref f17)=true)
  (a18:PySem.W.nsIn K mainGlobals "_law_next" = some (some (.ref f18))) (l18:K.lookup f18=some ⟨aDm,aCZ,.func (PySem.W.fnOf "_law_next" "_law_next" (aW fX) (aQ fX) (ao fX) .none aDP aEF aCB aFt aBs aE1),aB6⟩) (c18:PySem.W.codeIn K aBs "_law_next" = true) (k18:PySem.W.keepIn K (.ref f18)=true)
  (a19:PySem.W.nsIn K mainGlobals "_law_take" = some (some (.ref f19))) (l19:K.lookup f19=some ⟨aDl,aCY,.func (PySem.W.fnOf "_law_take" "_law_take" (aW fU) (aQ fU) (ao fU) .none aDO aEE aCA aFs aBr aE0),aB5⟩) (c19:PySem.W.codeIn K aBr "_law_take" = true) (k19:PySem.W.keepIn K (.ref f19)=true)
  (a20:PySem.W.nsIn K mainGlobals "_law_draw" = some (some (.ref f20))) (l20:K.lookup f20=some ⟨aDk,aCX,.func (PySem.W.fnOf "_law_draw" "_law_draw" (aW fZ) (aQ fZ) (ao fZ) .none aDN aED aCz aFr aBq aEZ),aB4⟩) (c20:PySem.W.codeIn K aBq "_law_draw" = true) (k20:PySem.W.keepIn K (.ref f20)=true)
  (a21:PySem.W.nsIn K mainGlobals "_law_names" = some (some (.ref f21))) (l21:K.lookup f21=some ⟨aDj,aCW,.func (PySem.W.fnOf "_law_names" "_law_names" (aW fi) (aQ fi) (ao fi) .none aDM aEC aCy aFq aBp aEY),aB3⟩) (c21:PySem.W.codeIn K aBp "_law_names" = true) (k21:PySem.W.keepIn K (.ref f21)=true)
  (a22:PySem.W.nsIn K mainGlobals "_law_rule" = some (some (.ref f22))) (l22:K.lookup f22=some ⟨aDi,aCV,.func (PySem.W.fnOf "_law_rule" "_law_rule" (aW fV) (aQ fV) (ao fV) .none aDL aEB aCx aFp aBo aEX),aB2⟩) (c22:PySem.W.codeIn K aBo "_law_rule" = true) (k22:PySem.W.keepIn K (.ref f22)=true)
  (a23:PySem.W.nsIn K mainGlobals "_law_holds" = some (some (.ref f23))) (l23:K.lookup f23=some ⟨aDh,aCU,.func (PySem.W.fnOf "_law_holds" "_law_holds" (aW fj) (aQ fj) (ao fj) .none aDK aEA aCw aFo aBn aEW),aB1⟩) (c23:PySem.W.codeIn K aBn "_law_holds" = true) (k23:PySem.W.keepIn K (.ref f23)=true)
  (a24:PySem.W.nsIn K mainGlobals "_law_names_of" = some (some (.ref f24))) (l24:K.lookup f24=some ⟨aDg,aCT,.func (PySem.W.fnOf "_law_names_of" "_law_names_of" (aW dn) (aQ dn) (ao dn) .none aDJ aEz aCv aFn aBm aEV),aB0⟩) (c24:PySem.W.codeIn K aBm "_law_names_of" = true) (k24:PySem.W.keepIn K (.ref f24)=true)
  (a25:PySem.W.nsIn K mainGlobals "_law_all_names" = some (some (.ref f25))) (l25:K.lookup f25=some ⟨aDf,aCS,.func (PySem.W.fnOf "_law_all_names" "_law_all_names" (aW cN) (aQ cN) (ao cN) .none aDI aEy aCu aFm aBl aEU),aBZ⟩) (c25:PySem.W.codeIn K aBl "_law_all_names" = true) (k25:PySem.W.keepIn K (.ref f25)=true)
  (a26:PySem.W.nsIn K mainGlobals "_law_all_facts" = some (some (.ref f26))) (l26:K.lookup f26=some ⟨aDe,aCR,.func (PySem.W.fnOf "_law_all_facts" "_law_all_facts" (aW cO) (aQ cO) (ao cO) .none aDH aEx aCt aFl aBk aET),aBY⟩) (c26:PySem.W.codeIn K aBk "_law_all_facts" = true) (k26:PySem.W.keepIn K (.ref f26)=true)
  (a27:PySem.W.nsIn K mainGlobals "_law_follows" = some (some (.ref f27))) (l27:K.lookup f27=some ⟨aDd,aCQ,.func (PySem.W.fnOf "_law_follows" "_law_follows" (aW dO) (aQ dO) (ao dO) .none aDG aEw aCs aFk aBj aES),aBX⟩) (c27:PySem.W.codeIn K aBj "_law_follows" = true) (k27:PySem.W.keepIn K (.ref f27)=true)
  (a28:PySem.W.nsIn K mainGlobals "_law_inside" = some (some (.ref f28))) (l28:K.lookup f28=some ⟨aDc,aCP,.func (PySem.W.fnOf "_law_inside" "_law_inside" (aW eC) (aQ eC) (ao eC) .none aDF aEv aCr aFj aBi aER),aBW⟩) (c28:PySem.W.codeIn K aBi "_law_inside" = true) (k28:PySem.W.keepIn K (.ref f28)=true)
  (a29:PySem.W.nsIn K mainGlobals "_law_longer" = some (some (.ref f29))) (l29:K.lookup f29=some ⟨aDb,aCO,.func (PySem.W.fnOf "_law_longer" "_law_longer" (aW eB) (aQ eB) (ao eB) .none aDE aEu aCq aFi aBh aEQ),aBV⟩) (c29:PySem.W.codeIn K aBh "_law_longer" = true) (k29:PySem.W.keepIn K (.ref f29)=true)
  (a30:PySem.W.nsIn K mainGlobals "_law_pairs" = some (some (.ref f30))) (l30:K.lookup f30=some ⟨aDa,aCN,.func (PySem.W.fnOf "_law_pairs" "_law_pairs" (aW fh) (aQ fh) (ao fh) .none aDD aEt aCp aFh aBg aEP),aBU⟩) (c30:PySem.W.codeIn K aBg "_law_pairs" = true) (k30:PySem.W.keepIn K (.ref f30)=true)
  (a31:PySem.W.nsIn K mainGlobals "_law_rest" = some (some (.ref f31))) (l31:K.lookup f31=some ⟨aC9,aCM,.func (PySem.W.fnOf "_law_rest" "_law_rest" (aW fW) (aQ fW) (ao fW) .none aDC aEs aCo aFg aBf aEO),aBT⟩) (c31:PySem.W.codeIn K aBf "_law_rest" = true) (k31:PySem.W.keepIn K (.ref f31)=true)
  (a32:PySem.W.nsIn K mainGlobals "law" = some (some (.ref f32))) (l32:K.lookup f32=some ⟨aC8,aCL,.func (PySem.W.fnOf "law" "law" (aW qK) (aQ qK) (ao qK) .none aAA aA9 aAg aBI Yu aBb),aBS⟩) (c32:PySem.W.codeIn K Yu "law" = true) (k32:PySem.W.keepIn K (.ref f32)=true)
  (z_abs:PySem.W.nsIn K mainGlobals "abs" = some none)
  (z_all:PySem.W.nsIn K mainGlobals "all" = some none)
  (z_any:PySem.W.nsIn K mainGlobals "any" = some none)
  (z_dict:PySem.W.nsIn K mainGlobals "dict" = some none)
  (z_int:PySem.W.nsIn K mainGlobals "int" = some none)
  (z_len:PySem.W.nsIn K mainGlobals "len" = some none)
  (z_list:PySem.W.nsIn K mainGlobals "list" = some none)
  (z_range:PySem.W.nsIn K mainGlobals "range" = some none)
  (z_set:PySem.W.nsIn K mainGlobals "set" = some none)
  (z_sorted:PySem.W.nsIn K mainGlobals "sorted" = some none)
  (z_tuple:PySem.W.nsIn K mainGlobals "tuple" = some none)
  (cx7:PySem.W.specialIn K (.builtin "object.__class__") "__get__" = some (some (.builtin "getset_descriptor.__get__"))) (cx8:PySem.W.takesIn K (.builtin "object.__class__")=some true)
  {aR bJ:Addr}
  {bE:Addr} {HQ Ia:Option Addr} {HJ:Array (Option Value)} {HR HW HX HN wI HY:Value}
  (am_TruceError:PySem.W.nsIn K mainGlobals "TruceError" = some (some (.ref aR))) (x1_TruceError:vN K aR=true) (x2_TruceError:PySem.W.hasDictIn K aR=true) (x3_TruceError:PySem.W.findIn K (.ref aR) "__setattr__" = some (some (.builtin "object.__setattr__"))) (x4_TruceError:PySem.W.findIn K (.ref aR) "__getattribute__" = some (some (.builtin "BaseException.__getattribute__"))) (x5_TruceError:PySem.W.findIn K (.ref aR) "__getattr__" = some none) (x6_TruceError:PySem.W.findIn K (.ref aR) "__class__" = some (some (.builtin "object.__class__"))) (x9_TruceError:PySem.W.mroIn K aR (.type "object")=some true)
  (am_NoJoin:PySem.W.nsIn K mainGlobals "NoJoin" = some (some (.ref bJ))) (x1_NoJoin:vN K bJ=true) (x2_NoJoin:PySem.W.hasDictIn K bJ=true) (x3_NoJoin:PySem.W.findIn K (.ref bJ) "__setattr__" = some (some (.builtin "object.__setattr__"))) (x4_NoJoin:PySem.W.findIn K (.ref bJ) "__getattribute__" = some (some (.builtin "BaseException.__getattribute__"))) (x5_NoJoin:PySem.W.findIn K (.ref bJ) "__getattr__" = some none) (x6_NoJoin:PySem.W.findIn K (.ref bJ) "__class__" = some (some (.builtin "object.__class__"))) (x9_NoJoin:PySem.W.mroIn K bJ (.type "object")=some true)
  (kc_TruceError:PySem.W.keepIn K (.ref aR)=true)
  (ii_TruceError:PySem.W.findIn K (.ref aR) "__init__" = some (some (.builtin "ValueError.__init__")))
  (rd_TruceError:PySem.W.readsIn K aR (.type "type")=true)
  (fc_TruceError:PySem.W.findCls K (.ref aR) (.type "type") "__init__" = some (.val (.builtin "ValueError.__init__")))
  (sg_TruceError:PySem.W.specialIn K (.ref aR) "__getattribute__" = some (some (.builtin "type.__getattribute__")))
  (kc_NoJoin:PySem.W.keepIn K (.ref bJ)=true)
  (il_NoJoin:K.lookup bE=some ⟨HR,HQ,.func (PySem.W.fnOf "__init__" "NoJoin.__init__" (aW cI) (aQ cI) (ao cI) .none HW HX HN Ia wI HY),HJ⟩) (ic_NoJoin:PySem.W.codeIn K wI "NoJoin.__init__" = true) (ik_NoJoin:PySem.W.keepIn K (.ref bE)=true)
  (ii_NoJoin:PySem.W.findIn K (.ref bJ) "__init__" = some (some (.ref bE)))
  (if_NoJoin:PySem.W.typeIn K (.ref bE)=some (.type "function"))
  (tk_NoJoin:PySem.W.takerIn K bJ "name" = some none)
  (nf_NoJoin:PySem.W.findIn K (.ref bJ) "name" = some none)
  : ∃fd:FuncData,(∀(s:Shared) (v:Value),BindsTo s fd ⟨[v],[]⟩ [("_law_script",v)])/\∀base:Heap,K.In base->base.Ns mainGlobals mg->cE l.prog w K mg base g6 11 fa fd ["_law_script"] (Jl K):=by
 have e:=hfa.symm.trans (cu X G a32)
 cases e
 have F0:=bL (st:=gN) l0 c0 k0
 have b0:=F0.binds (ps:=["rule"]) λ_ _ _ _ _ _=>Fv λ_=>rfl
 have F1:=bL (st:=dN) l1 c1 k1
 have b1:=F1.binds (ps:=["rule"]) λ_ _ _ _ _ _=>Fv λ_=>rfl
 have F2:=bL (st:=bS) l2 c2 k2
 have b2:=F2.binds (ps:=["tuples"]) λ_ _ _ _ _ _=>Fv λ_=>rfl
 have F3:=bL (st:=gM) l3 c3 k3
 have b3:=F3.binds (ps:=["one"]) λ_ _ _ _ _ _=>Fv λ_=>rfl
 have F4:=bL (st:=cq) l4 c4 k4
 have b4:=F4.binds (ps:=["clauses"]) λ_ _ _ _ _ _=>Fv λ_=>rfl
 have F5:=bL (st:=fS) l5 c5 k5
 have b5:=F5.binds (ps:=["literals"]) λ_ _ _ _ _ _=>Fv λ_=>rfl
 have F6:=bL (st:=iT) l6 c6 k6
 have b6:=F6.binds (ps:=["clause","facts"]) λ_ _ _ _ _ _=>of2 λ_ _=>rfl
 have F7:=bL (st:=kb) l7 c7 k7
 have b7:=F7.binds (ps:=["one","other","name"]) λ_ _ _ _ _ _=>YW λ_ _ _=>rfl
 have F8:=bL (st:=gL) l8 c8 k8
 have b8:=F8.binds (ps:=["rule","facts"]) λ_ _ _ _ _ _=>of2 λ_ _=>rfl
 have F9:=bL (st:=dM) l9 c9 k9
 have b9:=F9.binds (ps:=["word","one","other"]) λ_ _ _ _ _ _=>YW λ_ _ _=>rfl
 have F10:=bL (st:=fT) l10 c10 k10
 have b10:=F10.binds (ps:=["names"]) λ_ _ _ _ _ _=>Fv λ_=>rfl
 have F11:=bL (st:=fP) l11 c11 k11
 have b11:=F11.binds (ps:=["facts","name","truth"]) λ_ _ _ _ _ _=>YW λ_ _ _=>rfl
 have F12:=bL (st:=iU) l12 c12 k12
 have b12:=F12.binds (ps:=["rule","clause"]) λ_ _ _ _ _ _=>of2 λ_ _=>rfl
 have F13:=bL (st:=fQ) l13 c13 k13
 have b13:=F13.binds (ps:=["rule"]) λ_ _ _ _ _ _=>Fv λ_=>rfl
 have F14:=bL (st:=d8) l14 c14 k14
 have b14:=F14.binds (ps:=["rule"]) λ_ _ _ _ _ _=>Fv λ_=>rfl
 have F15:=bL (st:=cM) l15 c15 k15
 have b15:=F15.binds (ps:=["names","rows"]) λ_ _ _ _ _ _=>of2 λ_ _=>rfl
 have F16:=bL (st:=d9) l16 c16 k16
 have b16:=F16.binds (ps:=["clause","following"]) λ_ _ _ _ _ _=>of2 λ_ _=>rfl
 have F17:=bL (st:=fY) l17 c17 k17
 have b17:=F17.binds (ps:=["_law_script"]) λ_ _ _ _ _ _=>Fv λ_=>rfl
 have F18:=bL (st:=fX) l18 c18 k18
 have b18:=F18.binds (ps:=["_law_hand_here"]) λ_ _ _ _ _ _=>Fv λ_=>rfl
 have F19:=bL (st:=fU) l19 c19 k19
 have b19:=F19.binds (ps:=["_law_hand_here"]) λ_ _ _ _ _ _=>Fv λ_=>rfl
 have F20:=bL (st:=fZ) l20 c20 k20
 have b20:=F20.binds (ps:=["_law_hand_here","_law_many"]) λ_ _ _ _ _ _=>of2 λ_ _=>rfl
 have F21:=bL (st:=fi) l21 c21 k21
 have b21:=F21.binds (ps:=["_law_hand_here","_law_many"]) λ_ _ _ _ _ _=>of2 λ_ _=>rfl
 have F22:=bL (st:=fV) l22 c22 k22
 have b22:=F22.binds (ps:=["_law_hand_here","_law_names_here","_law_deep"]) λ_ _ _ _ _ _=>YW λ_ _ _=>rfl
 have F23:=bL (st:=fj) l23 c23 k23
 have b23:=F23.binds (ps:=["_law_rule_here","_law_facts"]) λ_ _ _ _ _ _=>of2 λ_ _=>rfl
 have F24:=bL (st:=dn) l24 c24 k24
 have b24:=F24.binds (ps:=["_law_rule_here"]) λ_ _ _ _ _ _=>Fv λ_=>rfl
 have F25:=bL (st:=cN) l25 c25 k25
 have b25:=F25.binds (ps:=["_law_rules"]) λ_ _ _ _ _ _=>Fv λ_=>rfl
 have F26:=bL (st:=cO) l26 c26 k26
 have b26:=F26.binds (ps:=["_law_names_here"]) λ_ _ _ _ _ _=>Fv λ_=>rfl
 have F27:=bL (st:=dO) l27 c27 k27
 have b27:=F27.binds (ps:=["_law_rule_here","_law_clause"]) λ_ _ _ _ _ _=>of2 λ_ _=>rfl
 have F28:=bL (st:=eC) l28 c28 k28
 have b28:=F28.binds (ps:=["_law_one","_law_other"]) λ_ _ _ _ _ _=>of2 λ_ _=>rfl
 have F29:=bL (st:=eB) l29 c29 k29
 have b29:=F29.binds (ps:=["_law_hand_here","_law_clause","_law_names_here"]) λ_ _ _ _ _ _=>YW λ_ _ _=>rfl
 have F30:=bL (st:=fh) l30 c30 k30
 have b30:=F30.binds (ps:=["_law_some","_law_name"]) λ_ _ _ _ _ _=>of2 λ_ _=>rfl
 have F31:=bL (st:=fW) l31 c31 k31
 have b31:=F31.binds (ps:=["_law_one","_law_other","_law_name"]) λ_ _ _ _ _ _=>YW λ_ _ _=>rfl
 have F32:=bL (st:=qK) l32 c32 k32
 have b32:=F32.binds (ps:=["_law_script"]) λ_ _ _ _ _ _=>Fv λ_=>rfl
 have y7:=bL (st:=cI) il_NoJoin ic_NoJoin ik_NoJoin
 have M4:=y7.binds (ps:=cW) λ_ _ _ _ _ _=>of2 λ_ _=>rfl
 have T:Txt K mg ⟨_,_,_,_,_,_,_,_,_,_,_,_,_,_,_,_,_,_,_,_,_,_,_,_,_,_,_,_,_,_,_,_,_,_,_,_,_,_,_,_,_,_,_,_,_,_,_,_,_,_,_,_,_,_,_,_,_,_,_,_,_,_,_,_,_,_,_,_,_,_⟩:=⟨F0,b0,cu X G a0,F1,b1,cu X G a1,F2,b2,cu X G a2,F3,b3,cu X G a3,F4,b4,cu X G a4,F5,b5,cu X G a5,F6,b6,cu X G a6,F7,b7,cu X G a7,F8,b8,cu X G a8,F9,b9,cu X G a9,F10,b10,cu X G a10,F11,b11,cu X G a11,F12,b12,cu X G a12,F13,b13,cu X G a13,F14,b14,cu X G a14,F15,b15,cu X G a15,F16,b16,cu X G a16,F17,b17,cu X G a17,F18,b18,cu X G a18,F19,b19,cu X G a19,F20,b20,cu X G a20,F21,b21,cu X G a21,F22,b22,cu X G a22,F23,b23,cu X G a23,F24,b24,cu X G a24,F25,b25,cu X G a25,F26,b26,cu X G a26,F27,b27,cu X G a27,F28,b28,cu X G a28,F29,b29,cu X G a29,F30,b30,cu X G a30,F31,b31,cu X G a31,F32,b32,cu X G a32,ml X G z_abs,ml X G z_all,ml X G z_any,ml X G z_dict,ml X G z_int,ml X G z_len,ml X G z_list,ml X G z_range,ml X G z_set,ml X G z_sorted,ml X G z_tuple,cu X G am_TruceError,⟨x1_TruceError,x2_TruceError,x3_TruceError,x4_TruceError,x5_TruceError,x6_TruceError,cx7,cx8,x9_TruceError⟩,kc_TruceError,ii_TruceError,rd_TruceError,fc_TruceError,sg_TruceError,cu X G am_NoJoin,⟨x1_NoJoin,x2_NoJoin,x3_NoJoin,x4_NoJoin,x5_NoJoin,x6_NoJoin,cx7,cx8,x9_NoJoin⟩,kc_NoJoin,y7,M4,ii_NoJoin,if_NoJoin,tk_NoJoin,nf_NoJoin⟩
 exact⟨PySem.W.fnOf "law" "law" (aW qK) (aQ qK) (ao qK) .none aAA aA9 aAg aBI Yu aBb,λs v=>.of_eq rfl,λbase _ _=>Xi (P:=l.prog) (w:=w) (base:=base) T⟩
theorem walk{l:PySem.W.OpenLaw}{q:Program}{loose:List Str}{XP:(Str->Option Value)->Heap->Prop}{YP:World->Heap->Prop}{d:DefRec}{K:Params->PySem.W.Frag}(hn:l.most=some 63)(hdf:d.params.defaults=[])
  (hY:∀(w:World) (h:Heap),YP w h->(K w.params).In h)
  (F:∀(w:World) (mg:Str->Option Value) (fa:Addr) (h:Heap),(K w.params).In h->h.Ns mainGlobals mg->mg d.name=some (.ref fa)->
   ∃fd:FuncData,(∀(s:Shared) (u:Value),BindsTo s fd ⟨[u],[]⟩ [("_law_script",u)])/\∀base:Heap,(K w.params).In base->base.Ns mainGlobals mg->cE l.prog w (K w.params) mg base g6 11 fa fd ["_law_script"] (Jl (K w.params))) :
  PySem.W.WalkO q loose XP YP l.row.toRowW d [] (λf vs=>PySem.call f vs):=
 L2.R3 (n:=63) (k:=11) (x:="_law_script") (CX:=λ_=>g6) (sp:=λw=>Jl (K w.params)) hn (by decide) hdf ⟨rfl,by decide,by decide⟩ hY F (λ_ _ a ns hl _ hS=>⟨a,ns,rfl,hS,hl,λ_=>rfl⟩) λ_ _ _ _ _ z=>z
def view:Program:={ PySem.Challenge.pw_truceroll_k29_whole_joins_stay with main:={ PySem.Challenge.pw_truceroll_k29_whole_joins_stay.main with body:=[top 1,top 2,top 4,top 5,top 7,top 8,top 10,top 11,top 12,top 13,top 15,top 16,top 17,top 18,top 20,top 21,top 22,top 23,top 24,top 26,top 27,top 28,top 29,top 30,top 31,top 32,top 33,top 34,top 35,top 36,top 37,top 38,top 39,top 40,top 41] } }
end My
open PySem PySem.W PyProof.Rows
local macro_rules | `(tactic| o_head $H:term) => `(tactic| (
  refine holds_open (q := My.view) (loose := []) (Xt := fun s => xlAt My.view [] s && recOk (RowW.records (OpenRow.toRowW PySem.Challenge.rw_truceroll_k29_whole_joins_stay.row)) s) (XP := XL My.view []) (Yf := Hook.obs $H) (Ya := Hook.val $H) (YP := Hook.says $H) (N := 40000) ?hl (Hook.of $H) (Hook.keeps $H) (fun s e => xl_of s (Bool.and_eq_true_iff.mp e).1) XL.keeps (by rfl) (by rfl) (by rfl) (fun s e => recFacts_of (Bool.and_eq_true_iff.mp e).2) (by rfl) (by first | assumption | decide +kernel) (by decide +kernel) ⟨rfl, rfl, rfl, rfl, rfl, by decide +kernel⟩ ?hw ?hc
  case hl => intro w; kernel_rfl))
theorem PySem.Challenge.cw_truceroll_k29_whole_joins_stay_holds : PySem.Challenge.rw_truceroll_k29_whole_joins_stay.Holds := by
 w_on;o_law;k_head;(case hw=>w_witness2)
 k_fill
 refine My.walk (l:=PySem.Challenge.rw_truceroll_k29_whole_joins_stay) rfl rfl (λw h Y=>PySem.W.kIn_of Y) ?F
 case F=>
  intro w mg fa h KX G hmg
  refine' My.all_mk KX G hmg ?a0 ?l0 ?c0 ?k0 ?a1 ?l1 ?c1 ?k1 ?a2 ?l2 ?c2 ?k2 ?a3 ?l3 ?c3 ?k3 ?a4 ?l4 ?c4 ?k4 ?a5 ?l5 ?c5 ?k5 ?a6 ?l6 ?c6 ?k6 ?a7 ?l7 ?c7 ?k7 ?a8 ?l8 ?c8 ?k8 ?a9 ?l9 ?c9 ?k9 ?a10 ?l10 ?c10 ?k10 ?a11 ?l11 ?c11 ?k11 ?a12 ?l12 ?c12 ?k12 ?a13 ?l13 ?c13 ?k13 ?a14 ?l14 ?c14 ?k14 ?a15 ?l15 ?c15 ?k15 ?a16 ?l16 ?c16 ?k16 ?a17 ?l17 ?c17 ?k17 ?a18 ?l18 ?c18 ?k18 ?a19 ?l19 ?c19 ?k19 ?a20 ?l20 ?c20 ?k20 ?a21 ?l21 ?c21 ?k21 ?a22 ?l22 ?c22 ?k22 ?a23 ?l23 ?c23 ?k23 ?a24 ?l24 ?c24 ?k24 ?a25 ?l25 ?c25 ?k25 ?a26 ?l26 ?c26 ?k26 ?a27 ?l27 ?c27 ?k27 ?a28 ?l28 ?c28 ?k28 ?a29 ?l29 ?c29 ?k29 ?a30 ?l30 ?c30 ?k30 ?a31 ?l31 ?c31 ?k31 ?a32 ?l32 ?c32 ?k32 ?z_abs ?z_all ?z_any ?z_dict ?z_int ?z_len ?z_list ?z_range ?z_set ?z_sorted ?z_tuple ?cx7 ?cx8 ?am_TruceError ?x1_TruceError ?x2_TruceError ?x3_TruceError ?x4_TruceError ?x5_TruceError ?x6_TruceError ?x9_TruceError ?am_NoJoin ?x1_NoJoin ?x2_NoJoin ?x3_NoJoin ?x4_NoJoin ?x5_NoJoin ?x6_NoJoin ?x9_NoJoin ?kc_TruceError ?ii_TruceError ?rd_TruceError ?fc_TruceError ?sg_TruceError ?kc_NoJoin ?il_NoJoin ?ic_NoJoin ?ik_NoJoin ?ii_NoJoin ?if_NoJoin ?tk_NoJoin ?nf_NoJoin
  (case a0=>k_is)
  (case l0=>k_is)
  (case c0=>k_is)
  (case k0=>k_is)
  (case a1=>k_is)
  (case l1=>k_is)
  (case c1=>k_is)
  (case k1=>k_is)
  (case a2=>k_is)
  (case l2=>k_is)
  (case c2=>k_is)
  (case k2=>k_is)
  (case a3=>k_is)
  (case l3=>k_is)
  (case c3=>k_is)
  (case k3=>k_is)
  (case a4=>k_is)
  (case l4=>k_is)
  (case c4=>k_is)
  (case k4=>k_is)
  (case a5=>k_is)
  (case l5=>k_is)
  (case c5=>k_is)
  (case k5=>k_is)
  (case a6=>k_is)
  (case l6=>k_is)
  (case c6=>k_is)
  (case k6=>k_is)
  (case a7=>k_is)
  (case l7=>k_is)
  (case c7=>k_is)
  (case k7=>k_is)
  (case a8=>k_is)
  (case l8=>k_is)
  (case c8=>k_is)
  (case k8=>k_is)
  (case a9=>k_is)
  (case l9=>k_is)
  (case c9=>k_is)
  (case k9=>k_is)
  (case a10=>k_is)
  (case l10=>k_is)
  (case c10=>k_is)
  (case k10=>k_is)
  (case a11=>k_is)
  (case l11=>k_is)
  (case c11=>k_is)
  (case k11=>k_is)
  (case a12=>k_is)
  (case l12=>k_is)
  (case c12=>k_is)
  (case k12=>k_is)
  (case a13=>k_is)
  (case l13=>k_is)
  (case c13=>k_is)
  (case k13=>k_is)
  (case a14=>k_is)
  (case l14=>k_is)
  (case c14=>k_is)
  (case k14=>k_is)
  (case a15=>k_is)
  (case l15=>k_is)
  (case c15=>k_is)
  (case k15=>k_is)
  (case a16=>k_is)
  (case l16=>k_is)
  (case c16=>k_is)
  (case k16=>k_is)
  (case a17=>k_is)
  (case l17=>k_is)
  (case c17=>k_is)
  (case k17=>k_is)
  (case a18=>k_is)
  (case l18=>k_is)
  (case c18=>k_is)
  (case k18=>k_is)
  (case a19=>k_is)
  (case l19=>k_is)
  (case c19=>k_is)
  (case k19=>k_is)
  (case a20=>k_is)
  (case l20=>k_is)
  (case c20=>k_is)
  (case k20=>k_is)
  (case a21=>k_is)
  (case l21=>k_is)
  (case c21=>k_is)
  (case k21=>k_is)
  (case a22=>k_is)
  (case l22=>k_is)
  (case c22=>k_is)
  (case k22=>k_is)
  (case a23=>k_is)
  (case l23=>k_is)
  (case c23=>k_is)
  (case k23=>k_is)
  (case a24=>k_is)
  (case l24=>k_is)
  (case c24=>k_is)
  (case k24=>k_is)
  (case a25=>k_is)
  (case l25=>k_is)
  (case c25=>k_is)
  (case k25=>k_is)
  (case a26=>k_is)
  (case l26=>k_is)
  (case c26=>k_is)
  (case k26=>k_is)
  (case a27=>k_is)
  (case l27=>k_is)
  (case c27=>k_is)
  (case k27=>k_is)
  (case a28=>k_is)
  (case l28=>k_is)
  (case c28=>k_is)
  (case k28=>k_is)
  (case a29=>k_is)
  (case l29=>k_is)
  (case c29=>k_is)
  (case k29=>k_is)
  (case a30=>k_is)
  (case l30=>k_is)
  (case c30=>k_is)
  (case k30=>k_is)
  (case a31=>k_is)
  (case l31=>k_is)
  (case c31=>k_is)
  (case k31=>k_is)
  (case a32=>k_is)
  (case l32=>k_is)
  (case c32=>k_is)
  (case k32=>k_is)
  (case z_abs=>k_is)
  (case z_all=>k_is)
  (case z_any=>k_is)
  (case z_dict=>k_is)
  (case z_int=>k_is)
  (case z_len=>k_is)
  (case z_list=>k_is)
  (case z_range=>k_is)
  (case z_set=>k_is)
  (case z_sorted=>k_is)
  (case z_tuple=>k_is)
  (case cx7=>first | k_is | rfl)
  (case cx8=>first | k_is | rfl)
  (case am_TruceError=>first | k_is | rfl)
  (case x1_TruceError=>first | k_is | rfl)
  (case x2_TruceError=>first | k_is | rfl)
  (case x3_TruceError=>first | k_is | rfl)
  (case x4_TruceError=>first | k_is | rfl)
  (case x5_TruceError=>first | k_is | rfl)
  (case x6_TruceError=>first | k_is | rfl)
  (case x9_TruceError=>first | k_is | rfl)
  (case ii_TruceError=>first | k_is | rfl)
  (case am_NoJoin=>first | k_is | rfl)
  (case x1_NoJoin=>first | k_is | rfl)
  (case x2_NoJoin=>first | k_is | rfl)
  (case x3_NoJoin=>first | k_is | rfl)
  (case x4_NoJoin=>first | k_is | rfl)
  (case x5_NoJoin=>first | k_is | rfl)
  (case x6_NoJoin=>first | k_is | rfl)
  (case x9_NoJoin=>first | k_is | rfl)
  (case ii_NoJoin=>first | k_is | rfl)
  (case kc_TruceError=>first | k_is | rfl)
  (case rd_TruceError=>first | k_is | rfl)
  (case fc_TruceError=>first | k_is | rfl)
  (case sg_TruceError=>first | k_is | rfl)
  (case kc_NoJoin=>first | k_is | rfl)
  (case il_NoJoin=>first | k_is | rfl)
  (case ic_NoJoin=>first | k_is | rfl)
  (case ik_NoJoin=>first | k_is | rfl)
  (case if_NoJoin=>first | k_is | rfl)
  (case tk_NoJoin=>first | k_is | rfl)
  (case nf_NoJoin=>first | k_is | rfl)
