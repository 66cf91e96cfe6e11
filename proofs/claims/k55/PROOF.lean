import PyProof.Rows.All
import Wide.All
import OpenK.AllK
import Wide.FinOn
import Lean
import PyProof.EqAt
import PyProof.EqKinds
import PyProof.TupleCall
import PySem.Challenge.RW_truceroll_k55_whole_no_asking_that_follo
set_option Elab.async false
set_option linter.all false
set_option maxRecDepth 100000
set_option maxHeartbeats 0
def ay:=@PySem.wpAny_bind
def bJ:=@List.getElem?_eq_getElem
def aY:=@List.length_map
def bZ:=@PySem.Heap.get?_push_of_some
def aK:=@PySem.wpAny_pure
def cD:=@List.size_toArray
def di:=@Array.length_toList
def bx:=@Nat.le_refl
def aN:=@PyProof.Rows.wpS_bind
def aC:=@if_neg
def dc:=@List.getElem?_eq_some_iff
def aU:=@PySem.Heap.lt_size
def aB:=@if_pos
def dO:=@Array.getElem?_eq_getElem
def aF:=@PyProof.Rows.wpS_pure
def cI:=@PySem.Heap.get?_push_size
def cE:=@List.mem_singleton
def cT:=@Nat.lt_of_lt_of_le
def cS:=@List.length_append
def cH:=@List.getElem?_map
def cv:=@List.mem_append
def bH:=@Nat.ne_of_lt
def dN:=@List.mem_cons_of_mem
def du:=@List.mem_cons_self
def bT:=@List.mem_cons
def cR:=@PySem.W.mg_of
def eJ:=@List.length_cons
def fG:=@Bool.false_ne_true
def eI:=@Bool.and_eq_true
def jJ:=@Array.getD_eq_getD_getElem?
def eG:=@Option.some.inj
def jI:=@List.getElem?_append_right
def gN:=@List.pairwise_append
def eU:=@List.map_append
def iX:=@List.mem_append_right
def eF:=@List.map_cons
def gM:=@decide_eq_true_eq
def mh:=@List.getElem?_append_left
def fZ:=@List.append_nil
def jH:=@Array.getElem?_toList
def iL:=@PySem.F.called_set
def ig:=@Array.getElem_mem
def gL:=@List.length_take
def gK:=@List.any_eq_true
def dM:=@Nat.zero_le
def gq:=@List.mem_filter
def iK:=@List.append_assoc
def ie:=@List.lookup_cons
def iW:=@Bool.false_eq_true
def jG:=@Array.toList_append
def e8:=@Nat.le_trans
def iJ:=@PySem.wpAny_newObj_type
def dE:=@PySem.wpAny_mono
def iI:=@beq_self_eq_true
def jF:=@PySem.W.mg_none_of
def eZ:=@PyProof.Rows.wpS_forRange
def kr:=@PySem.mem_of_lookup
def iV:=@List.take_length
def jE:=@List.take_add_one
def qV:=@List.getD_eq_getElem?_getD
def fY:=@List.mem_map
def mQ:=@List.getElem?_eq_none
def iH:=@PySem.PassesOwn.never
def fX:=@Int.le_refl
def gJ:=@List.map_map
def jD:=@List.foldl_cons
def oW:=@PySem.Heap.get?_update_self
def oV:=@List.mem_of_getElem?
def lZ:=@List.getElem_mem
def yL:=@PyProof.Rows.slot_tuple_getitem
def jC:=@Nat.lt_irrefl
def dZ:=@PyProof.Rows.wpS_mono
def jB:=@PySem.wpAny_holding
def qU:=@List.map_congr_left
def uO:=@PySem.Heap.get?_update_other
def uN:=@List.length_filter_le
def vI:=@PySem.F.type_list_append
def vH:=@PySem.F.slot_list_append
def mP:=@PySem.W.kia_one
def jA:=@Nat.ne_of_gt
def mO:=@List.nodup_cons
def dJ:=@Iff.rfl
def mM:=@Bool.eq_iff_iff
def Dj:=@PySem.F.slot_dict_keyiterator_next
def qT:=@Nat.lt_of_le_of_lt
def fF:=@if_false
def vG:=@PySem.F.plainAttrs_list
def uM:=@List.mem_append_left
def oU:=@PySem.wpAny_call_entry
def yK:=@Array.perm_iff_toList_perm
def yJ:=@List.pairwise_iff_getElem
def ko:=@PySem.codeAny_mono
def vF:=@List.length_replicate
def qR:=@List.length_drop
def qQ:=@List.all_eq_true
def vE:=@List.mem_iff_getElem
def uL:=@PySem.wpAny_Call_Name_kw
def uK:=@List.ext_getElem?
def uJ:=@Int.toNat_natCast
def uI:=@Array.toList_push
def lh:=@Bool.or_eq_true
def pM:=@beq_eq_false_iff_ne
def pL:=@List.toList_toArray
def pK:=@PySem.Around.under_plainId
def iZ:=@Nat.le_of_lt
def tK:=@List.take_of_length_le
def tJ:=@PySem.wpAny_callSpecial?_slot
def lg:=@PySem.codeAny_builtin
def pJ:=@PySem.Heap.SameBut.update
def wc:=@Array.getElem?_eq_some_iff
def wa:=@List.drop_eq_getElem_cons
def fJ:=@congrArg
def pI:=@Option.some.injEq
def pH:=@Nat.lt_succ_of_lt
def iY:=@Nat.le_succ
def kZ:=@PySem.Heap.size_push
def tI:=@List.length_reverse
def tH:=@PySem.Heap.get?_none_of_le
def pG:=@Array.toList_map
def gQ:=@PyProof.Rows.wpS_modify
def iC:=@PySem.wpAny_rule
def pF:=@List.nil_append
def v9:=@List.take_append_drop
def Bi:=@PySem.wpAny_typeNameOfWhole_keyiter
def fH:=@Ne.symm
def tG:=@PySem.wpAny_setField_rec
def pE:=@PySem.wpAny_passesOwn
def pD:=@List.nodup_nil
def pC:=@List.mem_range
def v8:=@Array.getElem_toList
def tF:=@Nat.lt_succ_self
def tE:=@List.not_mem_nil
def tD:=@List.filter_cons
def tj:=@PySem.wpAny_setState_of
def v7:=@List.mem_map_of_mem
def j3:=@PySem.wpAny_call
def pB:=@List.any_cons
def gu:=@if_true
def tf:=@List.find?_cons
def v5:=@PySem.W.callWith_K
def v3:=@List.pairwise_cons
def vZ:=@List.map_inj_right
def Bh:=@PySem.F.plain_list_iadd
def Bg:=@PySem.wpAny_typeNameOf_keyiter
def kY:=@PyProof.Rows.mirror_perm
def vY:=@PySem.Obj.data_mapFields
def Bf:=@PySem.W.methodCall_KW
def vX:=@List.map_reverse
def vW:=@List.getElem_inj
def vV:=@PySem.wpAny_truthy_bool
def sZ:=@PySem.wpAny_fieldsOf
def Be:=@Array.toList_reverse
def vU:=@beq_false_of_ne
def vT:=@Option.map_some
def vS:=@List.of_mem_zip
def vR:=@List.length_nil
def Bd:=@eq_false_of_ne_true
def Bc:=@List.reverse_append
def GX:=@PyProof.Rows.callWith_type1
def sY:=@PySem.wpAny_standAt
def sX:=@PySem.wpAny_attempt
def pA:=@PySem.wpAny_field
def Bb:=@PySem.codeAny_call_builtin
def Ba:=@Nat.add_sub_cancel
def Az:=@List.filter_append
def sW:=@Sum.inl.inj
def Ay:=@List.nodup_append
def Ax:=@List.foldl_append
def Aw:=@List.Sublist.refl
def GR:=@PySem.F.args_tuple_add_2
def vQ:=@List.all_cons
def iB:=@PyProof.Rows.wpS_get
def vP:=@PySem.wpAny_setField
def GQ:=@PySem.F.entry_tuple_add
def GP:=@List.length_eq_zero_iff
def GL:=@List.getElem?_cons_succ
def Av:=@PySem.Code.quiet_builtin
def GK:=@PySem.F.slot_tuple_add
def GJ:=@List.drop_eq_nil_of_le
def GF:=@List.Perm.append_right
def vO:=@Int.le_trans
def GD:=@Array.getElem?_eq_none
def Au:=@PySem.wpAny_pyIter_list
def Ar:=@PySem.wpAny_loadPart_at
def Aq:=@PySem.fits_of_scanBound
def vN:=@PySem.plainId_quiet
def GC:=@List.mem_iff_getElem?
def Gz:=@List.length_singleton
def Gy:=@List.getElem?_reverse
def Gx:=@List.Perm.append_left
def Ap:=@PySem.wpAny_isInstance
def Gw:=@PySem.W.looks_findIn
def Gv:=@Nat.pow_le_pow_right
def Gu:=@List.replicate_succ'
def vM:=@List.map_id
def Ao:=@Bool.false_and
def Am:=@PySem.Around.in1_units
def vL:=@PySem.wpAny_typeOf
def Gs:=@PySem.W.plainGet_of
def Ob:=@PySem.F.args_dict_keyiterator_next_1
def Gr:=@List.getElem_of_mem
def Gq:=@List.filter_sublist
def Gp:=@List.filterMap_cons
def Al:=@PySem.wpAny_execs_nil
def Ak:=@PySem.codeAny_of_tree
def Oa:=@PySem.F.entry_dict_keyiterator_next
def Aj:=@Bool.or_false
def Ai:=@Bool.not_true
def Gn:=@PySem.wpAny_isOneOf_keyiter
def Gm:=@PySem.Obj.isFreed_of_fields
def vK:=@Int.not_lt
def Gk:=@Array.size_extract
def Ah:=@PySem.wpAny_runValue
def vJ:=@PySem.wpAny_of_eq
def Ag:=@Nat.min_self
def Gj:=@Nat.lt_trichotomy
def Af:=@List.map_nil
def Ae:=@List.any_map
def mR:=@PyProof.Rows.wpS_lift
def Gi:=@PyProof.Rows.F.plain_set_update_loop
def Gh:=@PySem.wpAny_setEntries_of
def Gg:=@PySem.wpAny_raiseNew_none
def Gf:=@PySem.wpAny_isSubtype_exc
def N9:=@PyProof.Rows.callWith_builtin1
def N8:=@List.eq_nil_of_length_eq_zero
def N7:=@Array.mem_extract_iff_getElem
section
namespace L2
open PySem PySem.Spec PyProof.Rows
abbrev Key:=Sum Int Str
def zL:Key->Value->Bool
 | .inl k,v=>Value.isInt k v
 | .inr x,v=>Value.isStrOf x v
def aDR(w:World):Key->Int
 | .inl k=>hashInt k
 | .inr x=>hashStr w x
theorem dz:∀{k:Key} {v:Value},zL k v=true->(∃i t,k=Sum.inl i/\v=Value.int i t)\/(∃x t,k=Sum.inr x/\v=Value.str x t)
 | .inl i,v,h=>by
  obtain⟨t,e⟩:=Value.isInt_shape (k:=i) (v:=v) h
  exact .inl ⟨i,t,rfl,e⟩
 | .inr x,v,h=>by
  obtain⟨t,e⟩:=Value.isStrOf_shape (x:=x) (v:=v) h
  exact .inr ⟨x,t,rfl,e⟩
theorem M3(i:Int)(t:Tok):zL (.inl i) (.int i t)=true:=by simp[zL,Value.isInt]
theorem MT(x:Str)(t:Tok):zL (.inr x) (.str x t)=true:=by simp[zL,Value.isStrOf]
theorem Y6(a b:Int):decide ((Sum.inl a:Key)=Sum.inl b)=(a==b):=by
 by_cases e:a=b
 ·subst e;simp
 ·have h:¬(Sum.inl a:Key)=Sum.inl b:=λq=>e (sW q)
  rw[decide_eq_false h]
  exact(pM.mpr e).symm
theorem Y3(a b:Str):decide ((Sum.inr a:Key)=Sum.inr b)=decide (a=b):=by
 by_cases e:a=b
 ·subst e;simp
 ·have h:¬(Sum.inr a:Key)=Sum.inr b:=λq=>e (Sum.inr.inj q)
  rw[decide_eq_false h,decide_eq_false e]
theorem Y5(a:Int)(b:Str):decide ((Sum.inl a:Key)=Sum.inr b)=false:=decide_eq_false (λq=>nomatch q)
theorem Y4(a:Str)(b:Int):decide ((Sum.inr a:Key)=Sum.inl b)=false:=decide_eq_false (λq=>nomatch q)
def dH(prog:Program)(w:World):PySem.KeyKind prog w Key where
 is:=zL
 hash:=aDR w
 inj:=λv a b ha hb=>by
  rcases dz ha with ⟨i,t,rfl,rfl⟩ | ⟨x,t,rfl,rfl⟩
  ·rcases dz hb with ⟨j,u,rfl,e⟩ | ⟨y,u,rfl,e⟩
   ·injection e with e1 _;rw[e1]
   ·exact nomatch e
  ·rcases dz hb with ⟨j,u,rfl,e⟩ | ⟨y,u,rfl,e⟩
   ·exact nomatch e
   ·injection e with e1 _;rw[e1]
 byValue:=λk v h=>by
  rcases dz h with ⟨i,t,rfl,rfl⟩ | ⟨x,t,rfl,rfl⟩ <;> rfl
 pyHash:=λhv h=>by
  rcases dz hv with ⟨i,t,rfl,rfl⟩ | ⟨x,t,rfl,rfl⟩
  ·exact wpAny_pyHash_int h
  ·exact wpAny_pyHash_str h
 eqBool:=λhu hv h=>by
  rcases dz hu with ⟨i,t,rfl,rfl⟩ | ⟨x,t,rfl,rfl⟩
  ·rcases dz hv with ⟨j,u,rfl,rfl⟩ | ⟨y,u,rfl,rfl⟩
   ·rw[Y6]at h;exact wpAny_eqBool_int h
   ·rw[Y5]at h;exact SeqAt.EqAt.int_str i t y u _ _ _ _ h
  ·rcases dz hv with ⟨j,u,rfl,rfl⟩ | ⟨y,u,rfl,rfl⟩
   ·rw[Y4]at h;exact SeqAt.EqAt.str_int x t j u _ _ _ _ h
   ·rw[Y3]at h;exact wpAny_eqBool_str h
 «strs»:=λk x t v h=>by
  rcases dz h with ⟨i,u,rfl,e⟩ | ⟨y,u,rfl,e⟩
  ·exact nomatch e
  ·injection e with e1 _
   subst e1
   cases v <;> rfl
theorem El(prog:Program)(w:World)(i:Int)(t:Tok):(dH prog w).is (.inl i) (.int i t)=true:=M3 i t
theorem Ek(prog:Program)(w:World)(x:Str)(t:Tok):(dH prog w).is (.inr x) (.str x t)=true:=MT x t
end L2
namespace L2
open PySem PySem.Spec PyProof.Rows
inductive V where
 | non | bl (b:Bool) | int (i:Int) | str (x:Str) | N5 (b:Array UInt8) | Z4 (b:UInt64) | ref (a:Addr) | ty (n:String)
 deriving DecidableEq
def RelV:V->Value->Prop
 | .non,u=>u=Value.none
 | .bl b,u=>u=Value.bool b
 | .int i,u=>∃t,u=Value.int i t
 | .str x,u=>∃t,u=Value.str x t
 | .N5 b,u=>∃t,u=Value.bytes b t
 | .Z4 b,u=>∃t,u=Value.float b t
 | .ref a,u=>u=Value.ref a
 | .ty n,u=>u=Value.type n
abbrev Vals:List V->List Value->Prop:=Paired RelV
theorem Vals.length{xs:List V}{us:List Value}(r:Vals xs us):xs.length=us.length:=Paired.length r
theorem Vals.get:∀{xs:List V} {us:List Value} {i:Nat} {x:V},Vals xs us->xs[i]?=some x->∃u,us[i]?=some u/\RelV x u
 | _,_,_,_,.nil,e=>by simp at e
 | _,_,0,_,.cons r _,e=>by simp at e;subst e;exact⟨_,rfl,r⟩
 | _,_,i+1,x,.cons _ t,e=>by
  obtain⟨u,h1,h2⟩:=Vals.get (i:=i) (x:=x) t (by simpa using e)
  exact⟨u,by simpa using h1,h2⟩
theorem Vals.set{x:V}{u:Value}(r:RelV x u):∀{xs:List V} {us:List Value} (i:Nat),Vals xs us->Vals (xs.set i x) (us.set i u)
 | _,_,_,.nil=>.nil
 | _,_,0,.cons _ t=>.cons r t
 | _,_,i+1,.cons q t=>.cons q (Vals.set r i t)
theorem Vals.append:∀{xs ys:List V} {us ws:List Value},Vals xs us->Vals ys ws->Vals (xs++ys) (us++ws)
 | _,_,_,_,.nil,s=>s
 | _,_,_,_,.cons r t,s=>.cons r (Vals.append t s)
theorem Vals.take:∀{xs:List V} {us:List Value} (n:Nat),Vals xs us->Vals (xs.take n) (us.take n)
 | _,_,0,_=>.nil
 | _,_,_+1,.nil=>.nil
 | _,_,n+1,.cons r t=>.cons r (Vals.take n t)
theorem Vals.drop:∀{xs:List V} {us:List Value} (n:Nat),Vals xs us->Vals (xs.drop n) (us.drop n)
 | _,_,0,r=>r
 | _,_,_+1,.nil=>.nil
 | _,_,n+1,.cons _ t=>Vals.drop n t
def oO:Option V->Option Value->Prop
 | some v,some u=>RelV v u
 | none,none=>True
 | _,_=>False
def KV{κ:Type}:List (κ×V)->List (κ×Value)->Prop:=Paired λ(p:κ×V) (q:κ×Value)=>p.1=q.1/\RelV p.2 q.2
def kV:Key->V
 | .inl i=>.int i
 | .inr x=>.str x
inductive HO where
 | lst (xs:List V)
 | tup (xs:List V)
 | dK (aL:List (Key×V)) | dT (aL:List (List Key×V))
 | set (S:Int->Bool) (n:Nat)
 | ins (C dx:Addr) (fs:List (Str×V))
 | own (x:Addr)
 | xd (fs:List (Str×V))
 | met (f x:Addr)
 | rng (lo hi:Int)
 | zS (o:Obj) (u:HO)
 | qM (ps:Array Value)
 | ext (φ:Heap->Prop)
abbrev Hp:=Addr->Option HO
def upd(H:Hp)(a:Addr)(o:HO):Hp:=λb=>if b=a then some o else H b
theorem ah{H:Hp}{a:Addr}{o:HO}:upd H a o a=some o:=by unfold upd;rw[aB rfl]
theorem av{H:Hp}{a b:Addr}{o:HO}(h:b≠a):upd H a o b=H b:=by unfold upd;rw[aC h]
theorem oa{H:Hp}{a:Addr}{o u:HO}:upd (upd H a o) a u=upd H a u:=by
 funext b;unfold upd;split <;> rfl
theorem bj{H:Hp}{a b:Addr}{o u:HO}(h:H a=some o)(h':H b=some u)(d:o≠u):a≠b:=by
 intro e;subst e;rw[h]at h';exact d (eG h')
theorem aj{H:Hp}{a b:Addr}{o:HO}(h:H a=some o)(h':H b=none):a≠b:=by
 intro e;subst e;rw[h]at h';cases h'
section
variable (P:Program)(w:World)
def dj(H:Hp)(h:Heap)(a:Addr):HO->Prop
 | .lst xs=>xs.length<=sizeLine/\∃(its:List Value) (n:Nat),Vals xs its/\h.get? a=some { cls:=.type "list",data:=.seq its.toArray n }
 | .tup xs=>xs.length<=sizeLine/\∃its:List Value,Vals xs its/\IsTup h a its.toArray
 | .dK aL=>aL.length<=sizeLine/\(a==sysModules)=false/\∃vs,KV aL vs/\h.DictOf (dH P w) a vs
 | .dT aL=>aL.length<=sizeLine/\(a==sysModules)=false/\∃xs:List (List Key×Addr×Value),
   Paired (λ(p:List Key×V) (q:List Key×Addr×Value)=>p.1=q.1/\H q.2.1=some (.tup (p.1.map kV))/\RelV p.2 q.2.2) aL xs/\
   ∃o es ep,h.get? a=some o/\o.ExactDict/\o.data=.dict es ep/\es.toList=xs.map (entryOfKey (tupleKind (dH P w)))/\(xs.map (·.1)).Nodup
 | .set S n=>h.SetOf (intKind P w) a S n
 | .ins C dx fs=>H dx=some (.own a)/\fs.length<=1000/\dx≠a/\h.get? a=some (PySem.W.instObj C dx)/\
   ∃mA,h.Ns1 dx mA/\(∀f,oO (fs.lookup f) (mA f))/\PySem.Within mA (fs.map (·.1))
 | .own _=>∃o,h.get? a=some o
 | .xd fs=>∃mA,h.Ns1 a mA/\∀f,oO (fs.lookup f) (mA f)
 | .rng lo hi=>∃t u v,h.get? a=some { cls:=.type "range",data:=.fields #[.int lo t,.int hi u,.int 1 v] }
 | .zS o u=>h.get? a=some o/\dj H h a u
 | .qM ps=>h.get? a=some { cls:=.none,data:=.fields ps }
 | .met f x=>h.get? a=some (PySem.W.methodObj (.ref f) (.ref x))
 | .ext φ=>φ h/\(∃o,h.get? a=some o)/\∀h1 h2:Heap,φ h1->(∀o,h1.get? a=some o->h2.get? a=some o)->φ h2
def hX(H:Hp)(h:Heap):Prop:=∀a o,H a=some o->dj P w H h a o
end
section
variable {P:Program}{w:World}{H H':Hp}{h h':Heap}{a:Addr}{o:HO}
theorem dj.lt(x:dj P w H h a o):a<h.objs.size:=by
 cases o with
 | lst xs=>obtain⟨_,_,_,_,e⟩:=x;exact aU e
 | tup xs=>obtain⟨_,_,_,p⟩:=x;exact p.lt
 | dK aL=>obtain⟨_,_,_,_,o,_,_,e,_⟩:=x;exact aU e
 | dT aL=>obtain⟨_,_,_,_,o,_,_,e,_⟩:=x;exact aU e
 | set S n=>obtain⟨o,_,_,_,e,_⟩:=x;exact aU e
 | ins C dx fs=>obtain⟨_,_,_,e,_⟩:=x;exact aU e
 | own y=>obtain⟨_,e⟩:=x;exact aU e
 | xd fs=>obtain⟨_,⟨_,_,_,e,_⟩,_⟩:=x;exact aU e
 | rng lo hi=>obtain⟨_,_,_,e⟩:=x;exact aU e
 | zS ob u=>obtain⟨e,_⟩:=x;exact aU e
 | qM ps=>exact aU (show h.get? a=some _ from x)
 | met f y=>exact aU (show h.get? a=some _ from x)
 | ext φ=>obtain⟨_,⟨_,e⟩,_⟩:=x;exact aU e
theorem Paired.YM{α β:Type}{F G:α->β->Prop}:∀{l₁:List α} {l₂:List β},Paired F l₁ l₂->(∀a b,F a b->G a b)->Paired G l₁ l₂
 | _,_,.nil,_=>.nil
 | _,_,.cons r t,f=>.cons (f _ _ r) (Paired.YM t f)
theorem dj.stay(x:dj P w H h a o)(k:∀b u,(b=a\/H b=some (.own a))->h.get? b=some u->h'.get? b=some u)
  (ho:∀b,H b=some (.own a)->H' b=some (.own a)) (ht:∀b xs,H b=some (.tup xs)->H' b=some (.tup xs)):dj P w H' h' a o:=by
 induction o with
 | lst xs=>obtain⟨z,its,n,r,e⟩:=x;exact⟨z,its,n,r,k _ _ (.inl rfl) e⟩
 | tup xs=>obtain⟨z,its,r,ob,e,c⟩:=x;exact⟨z,its,r,ob,k _ _ (.inl rfl) e,c⟩
 | dK aL=>obtain⟨z,y,vs,r,ob,es,ep,e,c⟩:=x;exact⟨z,y,vs,r,ob,es,ep,k _ _ (.inl rfl) e,c⟩
 | dT aL=>
  obtain⟨z,y,xs,r,ob,es,ep,e,c⟩:=x
  exact⟨z,y,xs,Paired.YM r λp q z=>⟨z.1,ht _ _ z.2.1,z.2.2⟩,ob,es,ep,k _ _ (.inl rfl) e,c⟩
 | set S n=>obtain⟨ob,es,ep,t,e,c⟩:=x;exact⟨ob,es,ep,t,k _ _ (.inl rfl) e,c⟩
 | ins C dx fs=>
  obtain⟨d,z,ne,e,mA,⟨od,es,ep,e2,c⟩,r⟩:=x
  exact⟨ho _ d,z,ne,k _ _ (.inl rfl) e,mA,⟨od,es,ep,k _ _ (.inr d) e2,c⟩,r⟩
 | own y=>obtain⟨ob,e⟩:=x;exact⟨ob,k _ _ (.inl rfl) e⟩
 | xd fs=>obtain⟨mA,⟨od,es,ep,e,c⟩,r⟩:=x;exact⟨mA,⟨od,es,ep,k _ _ (.inl rfl) e,c⟩,r⟩
 | rng lo hi=>obtain⟨t,u,v,e⟩:=x;exact⟨t,u,v,k _ _ (.inl rfl) e⟩
 | zS ob u ih=>obtain⟨e,q⟩:=x;exact⟨k _ _ (.inl rfl) e,ih q⟩
 | qM ps=>
  have e:h.get? a=some { cls:=.none,data:=.fields ps }:=x
  show h'.get? a=some { cls:=.none,data:=.fields ps }
  exact k a _ (.inl rfl) e
 | met f y=>
  have e:h.get? a=some (PySem.W.methodObj (.ref f) (.ref y)):=x
  show h'.get? a=some (PySem.W.methodObj (.ref f) (.ref y))
  exact k a _ (.inl rfl) e
 | ext φ=>obtain⟨p,⟨o,e⟩,st⟩:=x;exact⟨st _ _ p λo q=>k _ _ (.inl rfl) q,⟨o,k _ _ (.inl rfl) e⟩,st⟩
theorem hX.lt(x:hX P w H h)(e:H a=some o):a<h.objs.size:=(x a o e).lt
theorem hX.fresh(x:hX P w H h)(e:h.objs.size<=a):H a=none:=by
 cases q:H a with
 | none=>rfl
 | some u=>exact absurd (cT (x.lt q) e) (jC _)
theorem hX.kept(x:hX P w H h)(k:∀b u,h.get? b=some u->h'.get? b=some u):hX P w H h':=λa o e=>
 (x a o e).stay (λb u _ q=>k b u q) (λ_ q=>q) λ_ _ q=>q
theorem hX.laid(x:hX P w H h)(k:∀b u,h.get? b=some u->h'.get? b=some u)(hp:h.objs.size<=a)(new:dj P w (upd H a o) h' a o):hX P w (upd H a o) h':=λb u e=>by
 have hn:=x.fresh hp
 by_cases hb:b=a
 ·subst hb;rw[ah]at e;cases e;exact new
 ·rw[av hb]at e
  exact(x b u e).stay (λc v _ q=>k c v q) (λc q=>by rw[av (aj q hn)];exact q) λc xs q=>by rw[av (aj q hn)];exact q
end
def Rd(H:Hp)(a:Addr)(u:HO):Prop:=H a=some u\/∃o,H a=some (.zS o u)
theorem Rd.ok{P:Program}{w:World}{H:Hp}{h:Heap}{a:Addr}{u:HO}(r:Rd H a u)(x:hX P w H h):dj P w H h a u:=by
 rcases r with r | ⟨o,r⟩
 ·exact x a u r
 ·obtain⟨_,q⟩:=x a _ r
  exact q
def Mut:Option HO->Prop
 | some (.lst _)=>True
 | some (.dK _)=>True
 | some (.dT _)=>True
 | some (.set _ _)=>True
 | some (.ins _ _ _)=>True
 | some (.ext _)=>True
 | _=>False
section
variable {P:Program}{w:World}{H:Hp}{h h':Heap}{x e:Addr}{o':HO}
theorem hX.write(ok:hX P w H h)(mu:Mut (H x))(he:e=x\/H e=some (.own x))(k:∀b u,b≠e->h.get? b=some u->h'.get? b=some u)(heo:∃u,h'.get? e=some u)
  (new:dj P w (upd H x o') h' x o'):hX P w (upd H x o') h':=λb u q=>by
 have Mv:∀c y,H c=some (.own y)->c≠x:=λc y r z=>by subst z;rw[r]at mu;exact mu
 have qm:∀c xs,H c=some (.tup xs)->c≠x:=λc xs r z=>by subst z;rw[r]at mu;exact mu
 by_cases hb:b=x
 ·subst hb;rw[ah]at q;cases q;exact new
 ·rw[av hb]at q
  by_cases ZD:b=e
  ·have q':H b=some (.own x):=by
    rcases he with z | z
    ·exact absurd (ZD.trans z) hb
    ·rw[ZD];exact z
   rw[q]at q';cases q'
   obtain⟨v,hv⟩:=heo
   exact⟨v,by rw[ZD];exact hv⟩
  ·refine(ok b u q).stay (λc v hc r=>k c v ?_ r) (λc r=>by rw[av (Mv c b r)];exact r) λc xs r=>by rw[av (qm c xs r)];exact r
   rcases hc with rfl | hc
   ·exact ZD
   ·rintro rfl
    rcases he with z | z
    ·exact Mv c b hc z
    ·rw[hc]at z;cases z;exact hb rfl
end
structure Un(fs ex:List Addr)(H H':Hp)(h h':Heap):Prop where
 keep:∀b o,h.get? b=some o->H b=none->b∉fs->b∉ex->h'.get? b=some o
 slot:∀b o,h.get? b=some o->H b=none->b∈fs->b∉ex->∃sl,h'.get? b=some { o with slots:=sl }
 free:∀b o,h.get? b=some o->H b=none->b∉ex->H' b=none
 there:∀b o,h.get? b=some o->b∉ex->∃o',h'.get? b=some o'
 tups:∀b xs,H b=some (.tup xs)->H' b=some (.tup xs)
 frzs:∀b o u,H b=some (.zS o u)->H' b=some (.zS o u)
 tbls:∀b ps,H b=some (.qM ps)->∃more,H' b=some (.qM (ps++more))
section
variable {fs fs' ex ex':List Addr}{H H1 H2:Hp}{h h1 h2 h':Heap}{a x e:Addr}{o:HO}
theorem Un.any(u:Un fs ex H H1 h h1){b:Addr}{ob:Obj}(q:h.get? b=some ob)(n:H b=none)(hx:b∉ex):∃sl,h1.get? b=some { ob with slots:=sl }:=by
 by_cases hb:b∈fs
 ·exact u.slot b ob q n hb hx
 ·exact⟨ob.slots,u.keep b ob q n hb hx⟩
theorem Un.trans(a:Un fs ex H H1 h h1)(b:Un fs ex H1 H2 h1 h2):Un fs ex H H2 h h2 where
 keep:=λc ob q n hc hx=>b.keep c ob (a.keep c ob q n hc hx) (a.free c ob q n hx) hc hx
 slot:=λc ob q n hc hx=>by
  obtain⟨sl,e1⟩:=a.slot c ob q n hc hx
  obtain⟨sl',e2⟩:=b.slot c _ e1 (a.free c ob q n hx) hc hx
  exact⟨sl',e2⟩
 free:=λc ob q n hx=>by
  obtain⟨o',e1⟩:=a.there c ob q hx
  exact b.free c o' e1 (a.free c ob q n hx) hx
 there:=λc ob q hx=>by
  obtain⟨o',e1⟩:=a.there c ob q hx
  exact b.there c o' e1 hx
 tups:=λc xs q=>b.tups c xs (a.tups c xs q)
 frzs:=λc ob xs q=>b.frzs c ob xs (a.frzs c ob xs q)
 tbls:=λc ps q=>by
  obtain⟨m1,e1⟩:=a.tbls c ps q
  obtain⟨m2,e2⟩:=b.tbls c _ e1
  exact⟨m1++m2,by rw[e2,Array.append_assoc]⟩
theorem Un.kept(k:∀b u,h.get? b=some u->h'.get? b=some u):Un fs ex H H h h':=
 ⟨λb ob q _ _ _=>k b ob q,λb ob q _ _ _=>⟨ob.slots,k b ob q⟩,λ_ _ _ n _=>n,λb ob q _=>⟨ob,k b ob q⟩,λ_ _ q=>q,λ_ _ _ q=>q,λ_ ps q=>⟨#[],by rw[q];simp⟩⟩
theorem Un.refl:Un fs ex H H h h:=Un.kept λ_ _ q=>q
theorem Un.laid(k:∀b u,h.get? b=some u->h'.get? b=some u)(hp:h.objs.size<=a)(hn:H a=none):Un fs ex H (upd H a o) h h' where
 keep:=λb u q _ _ _=>k b u q
 slot:=λb u q _ _ _=>⟨u.slots,k b u q⟩
 free:=λb u q n _=>by rw[av (bH (cT (aU q) hp))];exact n
 there:=λb u q _=>⟨u,k b u q⟩
 tups:=λb xs q=>by rw[av (aj q hn)];exact q
 frzs:=λb u xs q=>by rw[av (aj q hn)];exact q
 tbls:=λb ps q=>⟨#[],by rw[av (aj q hn),q];simp⟩
theorem Un.write(mu:Mut (H x))(he:e=x\/H e=some (.own x))(k:∀b u,b≠e->h.get? b=some u->h'.get? b=some u)(heo:∃u,h'.get? e=some u):Un fs ex H (upd H x o) h h':=by
 have hx:∀b,H b=none->b≠x:=λb n z=>by subst z;rw[n]at mu;exact mu
 have hb:∀b,H b=none->b≠e:=λb n z=>by
  subst z
  rcases he with r | r
  ·exact hx b n r
  ·rw[n]at r;cases r
 have hm:∀b u,H b=some u->¬Mut (some u)->b≠x:=λb u q nm z=>by subst z;rw[q]at mu;exact nm mu
 refine⟨λb u q n _ _=>k b u (hb b n) q,λb u q n _ _=>⟨u.slots,k b u (hb b n) q⟩,λb u q n _=>by rw[av (hx b n)];exact n,λb u q _=>?_,
  λb xs q=>by rw[av (hm b _ q λz=>z)];exact q,λb u xs q=>by rw[av (hm b _ q λz=>z)];exact q,λb ps q=>⟨#[],by rw[av (hm b _ q λz=>z),q];simp⟩⟩
 by_cases ZD:b=e
 ·subst ZD;exact heo
 ·exact⟨u,k b u ZD q⟩
end
def trk(h:Heap)(H:Hp):List Addr:=(List.range h.objs.size).filter λa=>(H a).isSome
def yx(h:Heap)(H:Hp):Heap:=PySem.W.hideAll h (trk h H)
theorem M8(h:Heap)(H:Hp):(yx h H).objs.size=h.objs.size:=PySem.W.hideAll_size _ _
theorem Q9{h:Heap}{H:Hp}{b:Addr}{o:Obj}(e:h.get? b=some o)(n:H b=none):(yx h H).get? b=some o:=
 PySem.W.hideAll_get _ e λhm=>by
  have q:(H b).isSome=true:=(gq.mp hm).2
  rw[n]at q;simp at q
theorem UW{h:Heap}{H:Hp}{b:Addr}{o:Obj}(e:(yx h H).get? b=some o):h.get? b=some o/\H b=none:=by
 have e':h.get? b=some o:=PySem.W.of_hideAll (trk h H) e
 refine⟨e',?_⟩
 cases q:H b with
 | none=>rfl
 | some x=>
  have hm:b∈trk h H:=gq.mpr ⟨pC.mpr (aU e'),by simp[q]⟩
  have z:(yx h H).get? b=none:=PySem.W.hideAll_none (trk h H) hm
  rw[z]at e;cases e
def Wg(g h:Heap)(L:Addr):List (Addr×Obj):=(List.range h.objs.size).filterMap λa=>if a=L\/(g.get? a).isSome=true then none else (h.get? a).map λo=>(a,o)
def rest(g h:Heap)(L d:Addr):List (Addr×Obj):=(Wg g h L).filter λp=>decide (p.1≠d)
end L2
namespace L2
open PySem PySem.Spec PyProof.Rows
structure Mod(K:PySem.W.Frag)(mg:Str->Option Value)(base:Heap):Prop where
 Y2:K.In base
 glob:base.Ns mainGlobals mg
 blt:∃mb,base.Ns builtinsNs mb/\∀x:Str,x≠"__name__"->mb x=bootBuiltins x
 nolimit:base.NoLimit
structure Cx where
 prog:Program
 w:World
 K:PySem.W.Frag
 mg:Str->Option Value
 base:Heap
 A:Around
 N:List Str
 s₀:Shared
 H₀:Hp
 env:Env
 outer:List Env
 stack:List Env
 ex:List Addr
 fn:Str->Bool
 calm:Bool
 pn:List (Addr×Obj)
 xe:Value->Shared->Prop
def o7(l:List Env):List Addr:=l.filterMap (·.frame)
abbrev Cx.fs(X:Cx):List Addr:=o7 X.outer
def Vis(sc:Scope)(x:Str):Prop:=sc.names.lookup x=some .local\/sc.names.lookup x=some .cell\/sc.names.lookup x=some .free
def Loc(sc:Scope)(x:Str):Prop:=sc.names.lookup x=some .local\/sc.names.lookup x=some .cell
def Look(env:Env)(h:Heap)(m:Str->Option Value)(x:Str)(u:Value):Prop:=
 (env.kindOf x=some .local/\m x=some u)\/((env.kindOf x=some .cell\/env.kindOf x=some .free)/\∃c,env.cells.lookup x=some c/\h.IsCell c (some u))
structure Cx.Ok(X:Cx):Prop where
 mod:Mod X.K X.mg X.base
 kind:X.env.scope.kind=.function
 glob:X.env.globals=mainGlobals
 blt:X.env.builtins=builtinsNs
 above:X.s₀.heap.objs.size<=X.env.locals
 inj:∀x y c,X.env.cells.lookup x=some c->X.env.cells.lookup y=some c->x=y
 has:∀x,(X.env.kindOf x=some .cell\/X.env.kindOf x=some .free)->∃c,X.env.cells.lookup x=some c
 cab:∀x c,X.fn x=true->X.env.cells.lookup x=some c->X.s₀.heap.objs.size<=c
 hd:X.calm=true->X.A.handled=none
 frames:X.A.frames=some X.stack
 stk:X.stack=X.outer\/(X.stack=X.env::X.outer/\X.env.frame=some X.env.locals)
 exf:∀b∈X.ex,b≠X.env.locals/\∀x c,X.env.cells.lookup x=some c->c≠b
 bs:∀b o,X.base.get? b=some o->X.s₀.heap.get? b=some o/\X.H₀ b=none
 Nt:X.base.objs.size<=X.s₀.heap.objs.size
 QB:∀b o,X.base.get? b=some o->b∉X.ex
 VM:∀b∈X.ex,b∉X.fs
 oK:X.s₀.heap.FunFrames X.base X.outer
 N3:∀b∈X.fs,X.H₀ b=none
structure Inv(X:Cx)(pins:List (Addr×Obj))(σ:List (Option V))(H:Hp)(s:Shared):Prop where
 ok:X.Ok
 os:s.os=X.s₀.os
 bare:AllBare s.gens
 base:Un X.fs X.ex X.H₀ H X.s₀.heap s.heap
 loc:∃m,s.heap.Ns X.env.locals m/\∀(i:Nat) (x:Str) (v:V),X.N[i]?=some x->σ[i]?=some (some v)->Vis X.env.scope x->∃u,RelV v u/\Look X.env s.heap m x u
 cell:∀x c,X.env.cells.lookup x=some c->∃v,s.heap.IsCell c v
 free:H X.env.locals=none
 kL:∀x c,X.env.cells.lookup x=some c->H c=none
 pin:∀p∈X.pn++pins,s.heap.get? p.1=some p.2/\H p.1=none/\p.1≠X.env.locals/\p.1∉X.fs/\∀v,p.2.data≠.cell v
 bE:hX X.prog X.w H s.heap
 len:σ.length=X.N.length
section
variable {X:Cx}{pins:List (Addr×Obj)}{σ:List (Option V)}{H H':Hp}{s:Shared}{h':Heap}
theorem Cx.Ok.aDK(ok:X.Ok){b:Addr}{o:Obj}(e:X.base.get? b=some o):b∉X.fs:=λhb=>by
 have:=(ok.oK.mem hb).1
 rw[e]at this;cases this
theorem Inv.bs(I:Inv X pins σ H s):∀b o,X.base.get? b=some o->s.heap.get? b=some o/\H b=none:=λb o e=>
 ⟨I.base.keep b o (I.ok.bs b o e).1 (I.ok.bs b o e).2 (I.ok.aDK e) (I.ok.QB b o e),I.base.free b o (I.ok.bs b o e).1 (I.ok.bs b o e).2 (I.ok.QB b o e)⟩
theorem Inv.bk(I:Inv X pins σ H s):∀b o,X.base.get? b=some o->s.heap.get? b=some o:=λb o e=>(I.bs b o e).1
theorem Inv.mod(I:Inv X pins σ H s):Mod X.K X.mg X.base:=I.ok.mod
theorem Inv.mL(I:Inv X pins σ H s):X.K.In s.heap:=I.ok.mod.Y2.keeps I.bk
theorem Inv.lt(I:Inv X pins σ H s):X.env.locals<s.heap.objs.size:=let ⟨_,hn,_⟩:=I.loc;hn.lt
theorem Inv.sz(I:Inv X pins σ H s):X.s₀.heap.objs.size<=s.heap.objs.size:=e8 I.ok.above (iZ I.lt)
theorem Inv.aA3(I:Inv X pins σ H s){a:Addr}(h:s.heap.objs.size<=a):a∉X.fs:=λhb=>by
 obtain⟨_,o,ho,_⟩:=I.ok.oK.mem hb
 exact absurd (cT (aU ho) (e8 I.sz h)) (jC _)
theorem Inv.Xo(I:Inv X pins σ H s):∀x c,X.env.cells.lookup x=some c->c≠X.env.locals:=λx c e z=>by
 obtain⟨v,o,ho,hd⟩:=I.cell x c e
 obtain⟨m,⟨o',es,ep,Q7,hd',_⟩,_⟩:=I.loc
 rw[z,Q7]at ho;cases ho;rw[hd']at hd;cases hd
theorem Inv.oK(I:Inv X pins σ H s):s.heap.FunFrames X.base X.outer:=by
 have all:∀(l:List Env),(∀b∈o7 l,b∈X.fs)->X.s₀.heap.FunFrames X.base l->s.heap.FunFrames X.base l:=by
  intro l
  induction l with
  | nil=>intro _ _;trivial
  | cons env r ih=>
   intro hs hl
   obtain⟨hk,⟨L,o,hf,hn,ho,hd⟩,hr⟩:=hl
   have hL:L∈X.fs:=hs L (by unfold o7;rw[Gp,hf];exact du)
   obtain⟨sl,e⟩:=I.base.slot L o ho (I.ok.N3 L hL) hL λz=>I.ok.VM L z hL
   exact⟨hk,⟨L,_,hf,hn,e,hd⟩,ih (λb hb=>hs b (by unfold o7;rw[Gp,hf];exact dN _ hb)) hr⟩
 exact all X.outer (λ_ hb=>hb) I.ok.oK
theorem Inv.stack(I:Inv X pins σ H s):s.heap.FunFrames X.base X.stack:=by
 rcases I.ok.stk with e | ⟨e,hf⟩
 ·rw[e];exact I.oK
 ·rw[e]
  obtain⟨m,hn,_⟩:=I.loc
  refine .cons (by rw[I.ok.kind];decide) hf hn ?_ I.oK
  exact tH (e8 I.ok.Nt I.ok.above)
theorem Inv.tU(I:Inv X pins σ H s):∀b∈o7 X.stack,b∈X.env.locals::X.fs:=λb hb=>by
 rcases I.ok.stk with e | ⟨e,hf⟩
 ·rw[e]at hb;exact dN _ hb
 ·rw[e]at hb
  unfold o7 at hb
  rw[Gp,hf]at hb
  exact hb
theorem Inv.Bo(I:Inv X pins σ H s):∀b∈o7 X.stack,H b=none:=λb hb=>by
 rcases bT.mp (I.tU b hb) with e | hb
 ·rw[e];exact I.free
 ·obtain⟨_,o,ho,_⟩:=I.ok.oK.mem hb
  exact I.base.free b o ho (I.ok.N3 b hb) λz=>I.ok.VM b z hb
theorem Inv.step{g':Array GenState}{t':Nat}{d':Drawn}{ch:List Addr}(I:Inv X pins σ H s)
  (Ge:∀b∈ch,(b∈X.ex\/X.s₀.heap.objs.size<=b)/\b≠X.env.locals/\(∀x c,X.env.cells.lookup x=some c->c≠b)/\∀p∈X.pn++pins,p.1≠b)
  (keep:∀b o,b≠X.env.locals->b∉X.fs->b∉ch->s.heap.get? b=some o->H b=none->h'.get? b=some o)
  (slot:∀b o,b≠X.env.locals->b∈X.fs->b∉ch->s.heap.get? b=some o->H b=none->∃sl,h'.get? b=some { o with slots:=sl }) (free:∀b o,b∉ch->s.heap.get? b=some o->H b=none->H' b=none)
  (there:∀b o,b∉ch->s.heap.get? b=some o->∃o',h'.get? b=some o')
  (tups:∀b xs,H b=some (.tup xs)->H' b=some (.tup xs)) (frzs:∀b o u,H b=some (.zS o u)->H' b=some (.zS o u)) (tbls:∀b ps,H b=some (.qM ps)->∃more,H' b=some (.qM (ps++more)))
  (ns:∀m,s.heap.Ns X.env.locals m->h'.Ns X.env.locals m) (bE:hX X.prog X.w H' h') (hg:AllBare g') :
  Inv X pins σ H' { s with heap:=h',gens:=g',drawn:=d',toks:=t' }:=by
 have neL:∀b o,X.s₀.heap.get? b=some o->b≠X.env.locals:=λb o e=>bH (cT (aU e) I.ok.above)
 have neC:∀b o,X.s₀.heap.get? b=some o->b∉X.ex->b∉ch:=λb o e hx hb=>by
  rcases(Ge b hb).1 with z | z
  ·exact hx z
  ·exact absurd (cT (aU e) z) (jC _)
 have cellK:∀x c,X.env.cells.lookup x=some c->∀v,s.heap.IsCell c v->h'.IsCell c v:=λx c e v ⟨o,ho,hd⟩=>by
  have nch:c∉ch:=λz=>(Ge c z).2.2.1 x c e rfl
  by_cases hc:c∈X.fs
  ·obtain⟨sl,q⟩:=slot c o (I.Xo x c e) hc nch ho (I.kL x c e)
   exact⟨_,q,hd⟩
  ·exact⟨o,keep c o (I.Xo x c e) hc nch ho (I.kL x c e),hd⟩
 refine⟨I.ok,I.os,hg,⟨λb o e n hb hx=>?_,λb o e n hb hx=>?_,λb o e n hx=>?_,λb o e hx=>?_,λb xs e=>tups b xs (I.base.tups b xs e),λb o xs e=>frzs b o xs (I.base.frzs b o xs e),λb ps e=>?_⟩,?_,λx c e=>?_,?_,λx c e=>?_,λp hp=>?_,bE,I.len⟩
 ·exact keep b o (neL b o e) hb (neC b o e hx) (I.base.keep b o e n hb hx) (I.base.free b o e n hx)
 ·obtain⟨sl,e1⟩:=I.base.slot b o e n hb hx
  obtain⟨sl',e2⟩:=slot b _ (neL b o e) hb (neC b o e hx) e1 (I.base.free b o e n hx)
  exact⟨sl',e2⟩
 ·obtain⟨o',e1⟩:=I.base.there b o e hx
  exact free b o' (neC b o e hx) e1 (I.base.free b o e n hx)
 ·obtain⟨o',e1⟩:=I.base.there b o e hx
  exact there b o' (neC b o e hx) e1
 ·obtain⟨m1,e1⟩:=I.base.tbls b ps e
  obtain⟨m2,e2⟩:=tbls b _ e1
  exact⟨m1++m2,by rw[e2,Array.append_assoc]⟩
 ·obtain⟨m,hn,hl⟩:=I.loc
  refine⟨m,ns m hn,λi x v e1 e2 e3=>?_⟩
  obtain⟨u,r,l⟩:=hl i x v e1 e2 e3
  refine⟨u,r,?_⟩
  rcases l with l | ⟨k,c,e,z⟩
  ·exact .inl l
  ·exact .inr ⟨k,c,e,cellK x c e _ z⟩
 ·obtain⟨v,z⟩:=I.cell x c e
  exact⟨v,cellK x c e v z⟩
 ·obtain⟨m,⟨o,_,_,ho,_⟩,_⟩:=I.loc
  exact free _ o (λz=>(Ge _ z).2.1 rfl) ho I.free
 ·obtain⟨v,o,ho,hd⟩:=I.cell x c e
  exact free c o (λz=>(Ge c z).2.2.1 x c e rfl) ho (I.kL x c e)
 ·obtain⟨e,n,ne,nf,d⟩:=I.pin p hp
  have nch:p.1∉ch:=λz=>(Ge p.1 z).2.2.2 p hp rfl
  exact⟨keep p.1 p.2 ne nf nch e n,free p.1 p.2 nch e n,ne,nf,d⟩
theorem Inv.un{t':Nat}(I:Inv X pins σ H s)(u:Un X.fs [] H H' s.heap h')(bE:hX X.prog X.w H' h'):Inv X pins σ H' { s with heap:=h',toks:=t' }:=by
 obtain⟨m,⟨o,es,ep,ho,r⟩,_⟩:=id I.loc
 obtain⟨sl,hL⟩:=u.any ho I.free (by simp)
 exact I.step (g':=s.gens) (d':=s.drawn) (ch:=[]) (λ_ z=>nomatch z) (λb o _ hb _ e n=>u.keep b o e n hb (by simp)) (λb o _ hb _ e n=>u.slot b o e n hb (by simp)) (λb o _ e n=>u.free b o e n (by simp)) (λb o _ e=>u.there b o e (by simp)) u.tups u.frzs u.tbls (λm' hm=>by
  obtain⟨o',es',ep',Q7,r'⟩:=hm
  rw[ho]at Q7;cases Q7
  exact⟨_,es',ep',hL,r'⟩) bE I.bare
theorem Inv.call{g':Array GenState}{t':Nat}{d':Drawn}{ch:List Addr}(I:Inv X pins σ H s)(u:Un (o7 X.stack) ch H H' s.heap h')(bE:hX X.prog X.w H' h')(hg:AllBare g')
  (Ge:∀b∈ch,(b∈X.ex\/X.s₀.heap.objs.size<=b)/\b≠X.env.locals/\(∀x c,X.env.cells.lookup x=some c->c≠b)/\∀p∈X.pn++pins,p.1≠b) :
  Inv X pins σ H' { s with heap:=h',gens:=g',drawn:=d',toks:=t' }:=by
 obtain⟨m,⟨o,es,ep,ho,r⟩,_⟩:=id I.loc
 obtain⟨sl,hL⟩:=u.any ho I.free λz=>(Ge _ z).2.1 rfl
 exact I.step (ch:=ch) Ge (λb o hL hb hc e n=>u.keep b o e n (λz=>(bT.mp (I.tU b z)).elim hL hb) hc) (λb o _ _ hc e n=>u.any e n hc) (λb o hc e n=>u.free b o e n hc) (λb o hc e=>u.there b o e hc) u.tups u.frzs u.tbls (λm' hm=>by
  obtain⟨o',es',ep',Q7,r'⟩:=hm
  rw[ho]at Q7;cases Q7
  exact⟨_,es',ep',hL,r'⟩) bE hg
theorem Inv.turned{t':Nat}{it:Addr}(I:Inv X pins σ H s)(k:∀b o,b≠it->s.heap.get? b=some o->h'.get? b=some o)(hn:H it=none)(hL:it≠X.env.locals)
  (h1:it∈X.ex\/X.s₀.heap.objs.size<=it) (h2:∀x c,X.env.cells.lookup x=some c->c≠it) (h3:∀p∈X.pn++pins,p.1≠it):Inv X pins σ H { s with heap:=h',toks:=t' }:=by
 have nit:∀b u,H b=some u->b≠it:=λb u e z=>by rw[z,hn]at e;cases e
 refine I.step (g':=s.gens) (d':=s.drawn) (ch:=[it]) (λb hb=>?_) (λb o _ _ hc e _=>k b o (λz=>hc (by simp[z])) e) (λb o _ _ hc e _=>⟨o.slots,k b o (λz=>hc (by simp[z])) e⟩) (λ_ _ _ _ n=>n)
  (λb o hc e=>⟨o,k b o (λz=>hc (by simp[z])) e⟩) (λ_ _ e=>e) (λ_ _ _ e=>e) (λb ps e=>⟨#[],by rw[e];simp⟩) (λm hm=>?_) (λb u e=>?_) I.bare
 ·have e:b=it:=by simpa using hb
  subst e
  exact⟨h1,hL,h2,h3⟩
 ·obtain⟨o,es,ep,ho,r⟩:=hm
  exact⟨o,es,ep,k _ o (fH hL) ho,r⟩
 ·refine(I.bE b u e).stay (λc v hc q=>k c v ?_ q) (λ_ q=>q) λ_ _ q=>q
  rcases hc with z | z
  ·rw[z];exact nit b u e
  ·exact nit c _ z
theorem Inv.tok(I:Inv X pins σ H s)(t:Nat):Inv X pins σ H { s with toks:=t }:=I.un (h':=s.heap) (t':=t) Un.refl I.bE
theorem Inv.kept{t':Nat}(I:Inv X pins σ H s)(k:∀b u,s.heap.get? b=some u->h'.get? b=some u):Inv X pins σ H { s with heap:=h',toks:=t' }:=I.un (Un.kept k) (I.bE.kept k)
theorem Inv.laid{a:Addr}{o:HO}{t':Nat}(I:Inv X pins σ H s)(k:∀b u,s.heap.get? b=some u->h'.get? b=some u)(hp:s.heap.objs.size<=a)(new:dj X.prog X.w (upd H a o) h' a o) :
  Inv X pins σ (upd H a o) { s with heap:=h',toks:=t' }:=I.un (Un.laid k hp (I.bE.fresh hp)) (I.bE.laid k hp new)
theorem Inv.write{x e:Addr}{o:HO}{t':Nat}(I:Inv X pins σ H s)(mu:Mut (H x))(he:e=x\/H e=some (.own x))(k:∀b u,b≠e->s.heap.get? b=some u->h'.get? b=some u)(heo:∃u,h'.get? e=some u)
  (new:dj X.prog X.w (upd H x o) h' x o):Inv X pins σ (upd H x o) { s with heap:=h',toks:=t' }:=I.un (Un.write mu he k heo) (I.bE.write mu he k heo new)
theorem Inv.JV{P':List (Addr×Obj)}(I:Inv X pins σ H s)(h:∀p∈P',s.heap.get? p.1=some p.2/\H p.1=none/\p.1≠X.env.locals/\p.1∉X.fs/\∀v,p.2.data≠.cell v):Inv X P' σ H s:=
 ⟨I.ok,I.os,I.bare,I.base,I.loc,I.cell,I.free,I.kL,λp hp=>(cv.mp hp).elim (λz=>I.pin p (uM _ z)) (h p),I.bE,I.len⟩
theorem wU{N:List Str}(hN:N.Nodup){i j:Nat}{x:Str}(a:N[i]?=some x)(b:N[j]?=some x):i=j:=by
 obtain⟨h1,e1⟩:=dc.mp a
 obtain⟨h2,e2⟩:=dc.mp b
 exact(vW hN).mp (e1.trans e2.symm)
theorem y4{M:Model}{A:Around}{E:Value->Shared->Prop}{i:Nat}{x:Str}{v:V}{u:Value}{Q:Unit->Shared->Prop}(I:Inv X pins σ H s)(hN:X.N.Nodup)(hi:X.N[i]?=some x)(hx:Loc X.env.scope x)(r:RelV v u)
  (h:∀s',Inv X pins (σ.set i (some v)) H s'->(∃a,Heap.SameBut a s.heap s'.heap/\(a=X.env.locals\/X.env.cells.lookup x=some a))->Q () s') (hf:X.fn x=true\/X.env.scope.names.lookup x=some .local:=by first | exact .inl rfl | exact .inr rfl | assumption):wpAny M A (storeName X.env x u) Q E s:=by
 obtain⟨m,hn,hl⟩:=id I.loc
 have aEz:(X.env.scope.kind == .class||(X.env.scope.kind == .module&&X.env.locals != X.env.globals))=false:=by rw[I.ok.kind];rfl
 have hiσ:i<σ.length:=by rw[I.len];exact(dc.mp hi).1
 have Xo:=I.Xo
 have tracked:∀{a:Addr} {h':Heap},(∃o,s.heap.get? a=some o/\H a=none)->Heap.SameBut a s.heap h'->hX X.prog X.w H h':=λ{a h'} ha hs b ob e=>by
  obtain⟨_,_,Fl⟩:=ha
  refine(I.bE b ob e).stay (λc w' hc q=>(hs.2 c ?_).trans q) (λ_ q=>q) λ_ _ q=>q
  rintro rfl
  rcases hc with rfl | hc
  ·rw[Fl]at e;cases e
  ·rw[Fl]at hc;cases hc
 rcases hx with hk | hk
 ·refine wpAny_storeName_local hk hn (λh' zO hs=>?_) aEz
  obtain⟨oL,_,_,Sr,_⟩:=id hn
  refine h _ ⟨I.ok,I.os,I.bare,⟨λb o e n hb hx=>?_,λb o e n hb hx=>?_,I.base.free,λb o e hx=>?_,I.base.tups,I.base.frzs,I.base.tbls⟩,⟨_,zO,λj y v' e1 e2 e3=>?_⟩,λy c e=>?_,I.free,I.kL,λp hp=>?_,tracked ⟨oL,Sr,I.free⟩ hs,by simpa using I.len⟩ ⟨_,hs,.inl rfl⟩
  ·exact(hs.2 b (bH (cT (aU e) I.ok.above))).trans (I.base.keep b o e n hb hx)
  ·obtain⟨sl,e1⟩:=I.base.slot b o e n hb hx
   exact⟨sl,(hs.2 b (bH (cT (aU e) I.ok.above))).trans e1⟩
  ·obtain⟨o',e1⟩:=I.base.there b o e hx
   exact⟨o',(hs.2 b (bH (cT (aU e) I.ok.above))).trans e1⟩
  ·by_cases hj:j=i
   ·subst hj
    rw[hi]at e1;cases e1
    rw[List.getElem?_set_self hiσ]at e2
    cases e2
    exact⟨u,r,.inl ⟨hk,by simp⟩⟩
   ·rw[List.getElem?_set_ne (fH hj)]at e2
    obtain⟨u',r',q⟩:=hl j y v' e1 e2 e3
    refine⟨u',r',?_⟩
    rcases q with ⟨k,e⟩ | ⟨k,c,e,z⟩
    ·refine .inl ⟨k,?_⟩
     have:y≠x:=λe=>hj (wU hN e1 (e ▸ hi))
     simp[this,e]
    ·exact .inr ⟨k,c,e,z.sameBut hs (Xo y c e)⟩
  ·obtain⟨w',z⟩:=I.cell y c e
   exact⟨w',z.sameBut hs (Xo y c e)⟩
  ·obtain⟨e,n,ne,nf,d⟩:=I.pin p hp
   exact⟨(hs.2 p.1 ne).trans e,n,ne,nf,d⟩
 ·have Ra:X.fn x=true:=by
   rcases hf with z | z
   ·exact z
   ·rw[z]at hk;cases hk
  obtain⟨c,hc⟩:=I.ok.has x (.inl hk)
  obtain⟨w',z⟩:=I.cell x c hc
  refine wpAny_storeName_cell I.ok.kind hk hc z (λh' mJ hs=>?_)
  obtain⟨oc,sV,aEr⟩:=id z
  refine h { s with heap:=h' } ⟨I.ok,I.os,I.bare,⟨λb o e n hb hx=>?_,λb o e n hb hx=>?_,I.base.free,λb o e hx=>?_,I.base.tups,I.base.frzs,I.base.tbls⟩,⟨m,hn.sameBut hs (fH (Xo x c hc)),λj y v' e1 e2 e3=>?_⟩,λy c' e=>?_,I.free,I.kL,λp hp=>?_,tracked ⟨oc,sV,I.kL x c hc⟩ hs,by simpa using I.len⟩ ⟨c,hs,.inr hc⟩
  ·exact(hs.2 b (bH (cT (aU e) (I.ok.cab x c Ra hc)))).trans (I.base.keep b o e n hb hx)
  ·obtain⟨sl,e1⟩:=I.base.slot b o e n hb hx
   exact⟨sl,(hs.2 b (bH (cT (aU e) (I.ok.cab x c Ra hc)))).trans e1⟩
  ·obtain⟨o',e1⟩:=I.base.there b o e hx
   exact⟨o',(hs.2 b (bH (cT (aU e) (I.ok.cab x c Ra hc)))).trans e1⟩
  ·by_cases hj:j=i
   ·subst hj
    rw[hi]at e1;cases e1
    rw[List.getElem?_set_self hiσ]at e2
    cases e2
    exact⟨u,r,.inr ⟨.inl hk,c,hc,mJ⟩⟩
   ·rw[List.getElem?_set_ne (fH hj)]at e2
    obtain⟨u',r',q⟩:=hl j y v' e1 e2 e3
    refine⟨u',r',?_⟩
    rcases q with q | ⟨k,c',e,z'⟩
    ·exact .inl q
    ·refine .inr ⟨k,c',e,z'.sameBut hs ?_⟩
     rintro rfl
     exact hj (wU hN e1 (I.ok.inj _ _ _ e hc ▸ hi))
  ·by_cases hcc:c'=c
   ·subst hcc;exact⟨_,mJ⟩
   ·obtain⟨w2,z2⟩:=I.cell y c' e
    exact⟨w2,z2.sameBut hs hcc⟩
  ·obtain⟨e,n,ne,nf,d⟩:=I.pin p hp
   refine⟨(hs.2 p.1 ?_).trans e,n,ne,nf,d⟩
   intro q
   rw[q,sV]at e
   have q':oc=p.2:=eG e
   exact d w' (by rw[<-q'];exact aEr)
theorem rn{M:Model}{A:Around}{E:Value->Shared->Prop}{i:Nat}{x:Str}{v:V}{u:Value}{Q:Unit->Shared->Prop}(I:Inv X pins σ H s)(hN:X.N.Nodup)(hi:X.N[i]?=some x)(hx:Loc X.env.scope x)(r:RelV v u)
  (h:∀s',Inv X pins (σ.set i (some v)) H s'->Q () s') (hf:X.fn x=true\/X.env.scope.names.lookup x=some .local:=by first | exact .inl rfl | exact .inr rfl | assumption):wpAny M A (storeName X.env x u) Q E s:=
 y4 I hN hi hx r (λs' I' _=>h s' I') hf
theorem Inv.call'{s':Shared}{ch:List Addr}(I:Inv X pins σ H s)(ho:s'.os=s.os)(u:Un (o7 X.stack) ch H H' s.heap s'.heap)(bE:hX X.prog X.w H' s'.heap)(hg:AllBare s'.gens)
  (Ge:∀b∈ch,(b∈X.ex\/X.s₀.heap.objs.size<=b)/\b≠X.env.locals/\(∀x c,X.env.cells.lookup x=some c->c≠b)/\∀p∈X.pn++pins,p.1≠b):Inv X pins σ H' s':=by
 obtain⟨h',g',d',t',o'⟩:=s'
 have e:o'=s.os:=ho
 subst e
 exact I.call (g':=g') (t':=t') (d':=d') u bE hg Ge
end
abbrev XK:=Value->Option Addr->Hp->Prop
abbrev St:=List (Option V)
abbrev VK:=V->Hp->Prop
abbrev TE:=St->Hp->VK->Prop
abbrev TT:=St->Hp->(Bool->Hp->Prop)->Prop
abbrev TA:=St->Hp->(List V->Hp->Prop)->Prop
structure Ends where
 nx:St->Hp->Prop
 rt:VK
 bk:St->Hp->Prop:=λ_ _=>False
 ct:St->Hp->Prop:=λ_ _=>False
abbrev TS:=Ends->St->Hp->Prop
def EP(X:Cx)(pins:List (Addr×Obj))(σ:St)(Q:VK)(u:Value)(s':Shared):Prop:=∃v H',Inv X pins σ H' s'/\RelV v u/\Q v H'
def TP(X:Cx)(pins:List (Addr×Obj))(σ:St)(Q:Bool->Hp->Prop)(b:Bool)(s':Shared):Prop:=∃H',Inv X pins σ H' s'/\Q b H'
def AP(X:Cx)(pins:List (Addr×Obj))(σ:St)(Q:List V->Hp->Prop)(us:List Value)(s':Shared):Prop:=∃vs H',Inv X pins σ H' s'/\Vals vs us/\Q vs H'
def SP(X:Cx)(pins:List (Addr×Obj))(D:Ends)(f:Flow)(s':Shared):Prop:=
 match f with
 | .next=>∃σ' H',Inv X pins σ' H' s'/\D.nx σ' H'
 | .brk=>∃σ' H',Inv X pins σ' H' s'/\D.bk σ' H'
 | .cont=>∃σ' H',Inv X pins σ' H' s'/\D.ct σ' H'
 | .ret u=>∃v σ' H',Inv X pins σ' H' s'/\RelV v u/\D.rt v H'
def PE(X:Cx)(e:Expr)(t:TE):Prop:=
 ∀(pins:List (Addr×Obj)) (s:Shared) (σ:St) (H:Hp) (Q:VK),Inv X pins σ H s->t σ H Q->wpAny (model X.prog X.w) X.A (eval e X.env) (EP X pins σ Q) X.xe s
def PT(X:Cx)(e:Expr)(t:TT):Prop:=
 ∀(pins:List (Addr×Obj)) (s:Shared) (σ:St) (H:Hp) (Q:Bool->Hp->Prop),Inv X pins σ H s->t σ H Q->wpAny (model X.prog X.w) X.A (isTrue e X.env (eval e X.env)) (TP X pins σ Q) X.xe s
def PW(X:Cx)(e:Expr)(t:TT):Prop:=
 ∀(whole:Sem Value) (pins:List (Addr×Obj)) (s:Shared) (σ:St) (H:Hp) (Q:Bool->Hp->Prop),Inv X pins σ H s->t σ H Q->wpAny (model X.prog X.w) X.A (isTrue e X.env whole) (TP X pins σ Q) X.xe s
theorem PW.pt{X:Cx}{e:Expr}{t:TT}(h:PW X e t):PT X e t:=h _
def PA(X:Cx)(es:List Expr)(t:TA):Prop:=
 ∀(pos:Pos) (pins:List (Addr×Obj)) (s:Shared) (σ:St) (H:Hp) (Q:List V->Hp->Prop),Inv X pins σ H s->t σ H Q->wpAny (model X.prog X.w) X.A (spliced (backTo pos (starEach es X.env))) (AP X pins σ Q) X.xe s
def PS(X:Cx)(st:Stmt)(t:TS):Prop:=
 ∀(pins:List (Addr×Obj)) (s:Shared) (σ:St) (H:Hp) (D:Ends),Inv X pins σ H s->t D σ H->wpAny (model X.prog X.w) X.A (exec st X.env) (SP X pins D) X.xe s
def CW(X:Cx)(st:List Stmt)(t:TS):Prop:=
 ∀(pins:List (Addr×Obj)) (s:Shared) (σ:St) (H:Hp) (D:Ends),Inv X pins σ H s->t D σ H->wpAny (model X.prog X.w) X.A (execs st X.env) (SP X pins D) X.xe s
theorem cU{α:Type}{t:Sem α}{Q Q':α->Shared->Prop}{M:Model}{A:Around}{E:Value->Shared->Prop}{s:Shared}(h:wpAny M A t Q E s)(hQ:∀a s,Q a s->Q' a s):wpAny M A t Q' E s:=dE h hQ λ_ _ x=>x
end L2
namespace L2
open PySem PySem.Spec PyProof.Rows
section
variable {X:Cx}
theorem bin{a b:Expr}{ta tb:TE}(ha:PE X a ta)(hb:PE X b tb){pins:List (Addr×Obj)}{s:Shared}{σ:St}{H:Hp}{R:V->V->Hp->Prop}(I:Inv X pins σ H s)(h:ta σ H λx H1=>tb σ H1 λy H2=>R x y H2)
  {α:Type} {Q:α->Shared->Prop} {f:Value->Value->Sem α}
  (hf:∀v u s2 x y H2,Inv X pins σ H2 s2->RelV x v->RelV y u->R x y H2->wpAny (model X.prog X.w) X.A (f v u) Q X.xe s2) :
  wpAny (model X.prog X.w) X.A (eval a X.env) (λv s₁=>wpAny (model X.prog X.w) X.A (eval b X.env) (λu s₂=>wpAny (model X.prog X.w) X.A (f v u) Q X.xe s₂) X.xe s₁) X.xe s:=by
 refine cU (ha pins s σ H _ I h) λv s1 ⟨x,H1,I1,r1,q1⟩=>?_
 refine cU (hb pins s1 σ H1 _ I1 q1) λu s2 ⟨y,H2,I2,r2,q2⟩=>?_
 exact hf v u s2 x y H2 I2 r1 r2 q2
def yh(i:Nat):TE:=λσ H Q=>∃v,σ[i]?=some (some v)/\Q v H
def tC(v:V):TE:=λ_ H Q=>Q v H
theorem Qf{i:Nat}{x:Str}{pos:Pos}(hN:X.N[i]?=some x)(hv:Vis X.env.scope x)(hd:(x==("__debug__" : Str))=false:=by decide)(yA:(x==("__classdict__" : Str))=false:=by decide):PE X (.Name x pos) (yh i):=by
 intro pins s σ H Q I h
 obtain⟨v,e,h⟩:=h
 obtain⟨m,hn,hl⟩:=I.loc
 obtain⟨u,r,l⟩:=hl i x v hN e hv
 have fin:EP X pins σ Q u s:=⟨v,H,I,r,h⟩
 rcases l with ⟨hk,hm⟩ | ⟨hk,c,hc,o6⟩
 ·exact wpAny_Name (wpAny_loadName_local I.ok.kind hk hn hm fin) hd
 ·rcases hk with hk | hk
  ·exact wpAny_Name (wpAny_loadName_cell I.ok.kind hk hc o6 fin) hd
  ·exact wpAny_Name (wpAny_loadName_free I.ok.kind hk hc o6 fin yA) hd
theorem Yw{i j pos}:PE X (.Constant (.int i) j pos) (tC (.int i)):=λ_ _ _ H _ I h=>wpAny_Constant_int ⟨.int i,H,I.tok _,⟨_,rfl⟩,h⟩
theorem aAU{b j pos}:PE X (.Constant (.bool b) j pos) (tC (.bl b)):=λ_ _ _ H _ I h=>Constant_bool ⟨.bl b,H,I,rfl,h⟩
theorem Ys{x j pos}:PE X (.Constant (.str x) j pos) (tC (.str x)):=λ_ _ _ H _ I h=>Calls.Constant_str ⟨.str x,H,I.tok _,⟨_,rfl⟩,h⟩
def Gl(X:Cx)(x:Str):Prop:=X.env.kindOf x=some .globalImplicit
theorem oz{E:Value->Shared->Prop}{pins:List (Addr×Obj)}{s:Shared}{σ:St}{H:Hp}{x:Str}{u:Value}{pos:Pos}{Q:Value->Shared->Prop}(I:Inv X pins σ H s)(hg:Gl X x)(hm:X.mg x=some u)(h:Q u s)
  (hd:(x==("__debug__" : Str))=false:=by decide):wpAny (model X.prog X.w) X.A (eval (.Name x pos) X.env) Q E s:=
 Calls.Name_function_global I.ok.kind hg (Calls.loadGlobal_global (by rw[I.ok.glob];exact I.mod.glob.keeps I.bk) hm h) hd
theorem t7{E:Value->Shared->Prop}{pins:List (Addr×Obj)}{s:Shared}{σ:St}{H:Hp}{x:Str}{u:Value}{pos:Pos}{Q:Value->Shared->Prop}(I:Inv X pins σ H s)(hg:Gl X x)(hm:X.mg x=none)(hv:bootBuiltins x=some u)(h:Q u s)
  (hn:x≠"__name__":=by decide) (hd:(x==("__debug__" : Str))=false:=by decide):wpAny (model X.prog X.w) X.A (eval (.Name x pos) X.env) Q E s:=by
 obtain⟨mb,h1,h2⟩:=I.mod.blt
 exact Calls.Name_function_global I.ok.kind hg (Calls.loadGlobal_builtin (by rw[I.ok.glob];exact I.mod.glob.keeps I.bk) hm (by rw[I.ok.blt];exact h1.keeps I.bk) ((h2 x hn).trans hv) h) hd
theorem BK{x:Str}{v:V}{u:Value}{pos:Pos}(hg:Gl X x)(hm:X.mg x=none)(hv:bootBuiltins x=some u)(r:RelV v u)(hn:x≠"__name__":=by decide)(hd:(x==("__debug__" : Str))=false:=by decide):PE X (.Name x pos) (tC v):=
 λ_ _ _ H _ I h=>t7 I hg hm hv ⟨v,H,I,r,h⟩ hn hd
variable {a b:Expr}{ta tb:TE}{pos:Pos}
def PC(X:Cx)(op:CmpOp)(a b:Expr)(t:TE):Prop:=
 ∀(pins:List (Addr×Obj)) (s:Shared) (σ:St) (H:Hp) (Q:VK),Inv X pins σ H s->t σ H Q->
  wpAny (model X.prog X.w) X.A (eval a X.env) (λv s₁=>wpAny (model X.prog X.w) X.A (eval b X.env) (λu s₂=>wpAny (model X.prog X.w) X.A (compareOp op v u) (EP X pins σ Q) X.xe s₂) X.xe s₁) X.xe s
theorem QC(b:Expr){op:CmpOp}(h:op≠.In)(h2:op≠.NotIn):behindInMarks op b=false:=by
 have e1:(op==CmpOp.In)=false:=by cases op <;> first | rfl | exact absurd rfl h
 have e2:(op==CmpOp.NotIn)=false:=by cases op <;> first | rfl | exact absurd rfl h2
 cases b <;> simp[behindInMarks,e1,e2]
def tB(t:TE):TT:=λσ H Q=>t σ H λx H1=>∃c,x=.bl c/\Q c H1
theorem P7{op:CmpOp}{t:TE}(h:PC X op a b t)(h1:behindInMarks op b=false:=by first | exact QC _ (by decide) (by decide) | rfl):PT X (.Compare a [op] [b] pos) (tB t):=by
 intro pins s σ H Q I hw
 refine wpAny_isTrue_Compare1 (cU (h pins s σ H _ I hw) λv s1 h1=>cU h1 λu s2 h2=>cU h2 λc s3 ⟨x,H1,I1,r1,q1⟩=>?_) h1
 obtain⟨d,rfl,q⟩:=q1
 cases r1
 exact vV ⟨H1,I1,q⟩
theorem P6{e:Expr}{t:TE}(h:PE X e t)(he:∀whole,isTrue e X.env whole=(do let v <-whole;standAt e.pos;holding [v] (truthy v)):=by intro _;rfl):PT X e (tB t):=by
 intro pins s σ H Q I hw
 refine isTrue_plain (cU (h pins s σ H _ I hw) λv s1 ⟨x,H1,I1,r1,q1⟩=>?_) (he _)
 obtain⟨d,rfl,q⟩:=q1
 cases r1
 exact vV ⟨H1,I1,q⟩
variable {tA Sf:TT}{rest:List Expr}
def He(t u:TT):TT:=λσ H Q=>t σ H λc H1=>if c=true then u σ H1 Q else Q false H1
def XF(t u:TT):TT:=λσ H Q=>t σ H λc H1=>if c=true then Q true H1 else u σ H1 Q
def Hb(t:TT):TT:=λσ H Q=>t σ H λc H1=>Q (!c) H1
theorem T6(ha:PT X a tA):PW X (.BoolOp .And [a] pos) tA:=by
 intro wh pins s σ H Q I h
 refine isTrue_and (cU (ha pins s σ H Q I h) λc s1 e=>?_)
 cases c with
 | true=>exact isTrue_and_nil e
 | false=>exact e
theorem Yd(ha:PT X a tA):PW X (.BoolOp .Or [a] pos) tA:=by
 intro wh pins s σ H Q I h
 refine isTrue_or (cU (ha pins s σ H Q I h) λc s1 e=>?_)
 cases c with
 | false=>exact isTrue_or_nil e
 | true=>exact e
theorem Ye(ha:PT X a tA)(hb:PW X (.BoolOp .And (b::rest) pos) Sf):PW X (.BoolOp .And (a::b::rest) pos) (He tA Sf):=by
 intro wh pins s σ H Q I h
 refine isTrue_and (cU (ha pins s σ H _ I h) λc s1 ⟨H1,I1,q1⟩=>?_)
 cases c with
 | true=>exact hb wh pins s1 σ H1 Q I1 q1
 | false=>exact⟨H1,I1,q1⟩
theorem aAP(ha:PT X a tA)(hb:PW X (.BoolOp .Or (b::rest) pos) Sf):PW X (.BoolOp .Or (a::b::rest) pos) (XF tA Sf):=by
 intro wh pins s σ H Q I h
 refine isTrue_or (cU (ha pins s σ H _ I h) λc s1 ⟨H1,I1,q1⟩=>?_)
 cases c with
 | true=>exact⟨H1,I1,q1⟩
 | false=>exact hb wh pins s1 σ H1 Q I1 q1
theorem Yg(ha:PT X a tA):PT X (.UnaryOp .Not a pos) (Hb tA):=by
 intro pins s σ H Q I h
 exact isTrue_not (ha pins s σ H (λc H1=>Q (!c) H1) I h)
def wD(ta tb:TE):TE:=λσ H Q=>ta σ H λx H1=>∃c,x=.bl c/\if c=true then tb σ H1 Q else Q (.bl false) H1
def Ow(ta tb:TE):TE:=λσ H Q=>ta σ H λx H1=>∃c,x=.bl c/\if c=true then Q (.bl true) H1 else tb σ H1 Q
def wx(ta:TE):TE:=λσ H Q=>ta σ H λx H1=>∃c,x=.bl c/\Q (.bl (!c)) H1
theorem Yt{op}{t:TE}(h:PE X a t):PE X (.BoolOp op [a] pos) t:=λpins s σ H Q I hw=>BoolOp_one (h pins s σ H Q I hw)
theorem Yy(ha:PE X a ta)(hb:PE X (.BoolOp .And (b::rest) pos) tb):PE X (.BoolOp .And (a::b::rest) pos) (wD ta tb):=by
 intro pins s σ H Q I h
 refine BoolOp_and (cU (ha pins s σ H _ I h) λv s1 ⟨x,H1,I1,r1,q1⟩=>?_)
 obtain⟨c,rfl,q1⟩:=q1
 cases r1
 refine vV ?_
 cases c with
 | true=>exact hb pins s1 σ H1 Q I1 q1
 | false=>exact⟨.bl false,H1,I1,rfl,q1⟩
theorem Yu(ha:PE X a ta):PE X (.UnaryOp .Not a pos) (wx ta):=by
 intro pins s σ H Q I h
 refine UnaryOp_ (cU (ha pins s σ H _ I h) λv s1 ⟨x,H1,I1,r1,q1⟩=>?_)
 obtain⟨c,rfl,q1⟩:=q1
 cases r1
 exact not_of (vV ⟨.bl (!c),H1,I1,rfl,q1⟩)
def tIf(t:TT)(ta tb:TE):TE:=λσ H Q=>t σ H λc H1=>if c=true then ta σ H1 Q else tb σ H1 Q
end
end L2
namespace L2
open PySem PySem.Spec PyProof.Rows
def qP(K:PySem.W.Frag)(H:Hp)(a:Addr)(xs:List V):Prop:=
 Rd H a (.lst xs)\/
  ∃(o:Obj) (its:Array Value) (n:Nat),K.lookup a=some o/\o.cls=.type "list"/\o.dict=none/\o.data=.seq its n/\its.size<=sizeLine/\Vals xs its.toList
def yF(K:PySem.W.Frag)(H:Hp)(a:Addr)(xs:List V):Prop:=
 Rd H a (.tup xs)\/
  ∃(o:Obj) (its:Array Value) (n:Nat),K.lookup a=some o/\o.cls=.type "tuple"/\o.data=.seq its n/\its.size<=sizeLine/\Vals xs its.toList
def aFz:Value->Option V
 | .none=>some .non
 | .bool b=>some (.bl b)
 | .int i _=>some (.int i)
 | .str x _=>some (.str x)
 | .bytes b _=>some (.N5 b)
 | .float b _=>some (.Z4 b)
 | .ref a=>some (.ref a)
 | .type n=>some (.ty n)
 | _=>none
theorem RelV.abs{x:V}{u:Value}(r:RelV x u):aFz u=some x:=by
 cases x with
 | non=>cases r;rfl
 | bl _=>cases r;rfl
 | int _=>obtain⟨t,rfl⟩:=r;rfl
 | str _=>obtain⟨t,rfl⟩:=r;rfl
 | N5 _=>obtain⟨t,rfl⟩:=r;rfl
 | Z4 _=>obtain⟨t,rfl⟩:=r;rfl
 | ref _=>cases r;rfl
 | ty _=>cases r;rfl
theorem RelV.inj{x y:V}{u:Value}(r:RelV x u)(q:RelV y u):x=y:=eG (r.abs.symm.trans q.abs)
theorem Vals.inj:∀{xs ys:List V} {us:List Value},Vals xs us->Vals ys us->xs=ys
 | _,_,_,.nil,.nil=>rfl
 | _,_,_,.cons r t,.cons r' t'=>by rw[r.inj r',Vals.inj t t']
section
variable {X:Cx}{pins:List (Addr×Obj)}{σ:St}{H:Hp}{s:Shared}{a:Addr}{xs ys:List V}
theorem qP.of{K:PySem.W.Frag}(h:H a=some (.lst xs)):qP K H a xs:=.inl (.inl h)
theorem yF.of{K:PySem.W.Frag}(h:H a=some (.tup xs)):yF K H a xs:=.inl (.inl h)
theorem Inv.list(I:Inv X pins σ H s)(h:qP X.K H a xs):∃its:List Value,Vals xs its/\PlainL s.heap a its.toArray/\xs.length<=sizeLine:=by
 rcases h with h | ⟨o,its,n,hk,hc,hd,hs,hz,r⟩
 ·obtain⟨z,its,n,r,e⟩:=h.ok I.bE
  exact⟨its,r,⟨_,n,e,rfl,rfl,rfl⟩,z⟩
 ·refine⟨its.toList,r,⟨o,n,I.mL a o hk,hc,hd,by simpa using hs⟩,?_⟩
  have e:=r.length
  simp only[di]at e
  lia
theorem Inv.tuple(I:Inv X pins σ H s)(h:yF X.K H a xs):∃its:List Value,Vals xs its/\IsTup s.heap a its.toArray/\xs.length<=sizeLine:=by
 rcases h with h | ⟨o,its,n,hk,hc,hs,hz,r⟩
 ·obtain⟨z,its,r,p⟩:=h.ok I.bE
  exact⟨its,r,p,z⟩
 ·refine⟨its.toList,r,⟨o,I.mL a o hk,hc,n,by simpa using hs⟩,?_⟩
  have e:=r.length
  simp only[di]at e
  lia
theorem Inv.Er(I:Inv X pins σ H s)(h:qP X.K H a xs)(h':qP X.K H a ys):xs=ys:=by
 obtain⟨its,r,⟨o,n,e,_,_,d⟩,_⟩:=I.list h
 obtain⟨its',r',⟨o',n',e',_,_,d'⟩,_⟩:=I.list h'
 rw[e]at e';cases e'
 rw[d]at d'
 injection d' with d1 _
 have:its=its':=by simpa using fJ Array.toList d1
 subst this
 exact r.inj r'
theorem Inv.Li(I:Inv X pins σ H s)(h:yF X.K H a xs)(h':yF X.K H a ys):xs=ys:=by
 obtain⟨its,r,⟨o,e,_,n,d⟩,_⟩:=I.tuple h
 obtain⟨its',r',⟨o',e',_,n',d'⟩,_⟩:=I.tuple h'
 rw[e]at e';cases e'
 rw[d]at d'
 injection d' with d1 _
 have:its=its':=by simpa using fJ Array.toList d1
 subst this
 exact r.inj r'
end
abbrev Cx.wish(X:Cx)(E:Value->Shared->Prop):Cx:={ X with xe:=E }
abbrev Cx.yc(X:Cx):Cx:=X.wish λ_ _=>False
theorem Cx.Ok.wish{X:Cx}(ok:X.Ok)(E:Value->Shared->Prop):(X.wish E).Ok:=
 ⟨ok.mod,ok.kind,ok.glob,ok.blt,ok.above,ok.inj,ok.has,ok.cab,ok.hd,ok.frames,ok.stk,ok.exf,ok.bs,ok.Nt,ok.QB,ok.VM,ok.oK,ok.N3⟩
theorem Cx.Ok.mY{X:Cx}{E:Value->Shared->Prop}(ok:(X.wish E).Ok):X.Ok:=
 ⟨ok.mod,ok.kind,ok.glob,ok.blt,ok.above,ok.inj,ok.has,ok.cab,ok.hd,ok.frames,ok.stk,ok.exf,ok.bs,ok.Nt,ok.QB,ok.VM,ok.oK,ok.N3⟩
section
variable {X:Cx}{pins:List (Addr×Obj)}{σ:St}{H:Hp}{s:Shared}{E:Value->Shared->Prop}
theorem Inv.wish(I:Inv X pins σ H s)(E:Value->Shared->Prop):Inv (X.wish E) pins σ H s:=⟨I.ok.wish E,I.os,I.bare,I.base,I.loc,I.cell,I.free,I.kL,I.pin,I.bE,I.len⟩
theorem Inv.mY(I:Inv (X.wish E) pins σ H s):Inv X pins σ H s:=⟨I.ok.mY,I.os,I.bare,I.base,I.loc,I.cell,I.free,I.kL,I.pin,I.bE,I.len⟩
theorem SP.mY{D:Ends}{f:Flow}{s':Shared}(h:SP (X.wish E) pins D f s'):SP X pins D f s':=by
 cases f with
 | next=>obtain⟨σ',H',I,q⟩:=h;exact⟨σ',H',I.mY,q⟩
 | brk=>obtain⟨σ',H',I,q⟩:=h;exact⟨σ',H',I.mY,q⟩
 | cont=>obtain⟨σ',H',I,q⟩:=h;exact⟨σ',H',I.mY,q⟩
 | ret u=>obtain⟨v,σ',H',I,r,q⟩:=h;exact⟨v,σ',H',I.mY,r,q⟩
theorem CW.yc{st:List Stmt}{t:TS}(h:CW X.yc st t):CW X st t:=λpins s σ H D I hw=>
 dE (h pins s σ H D (I.wish _) hw) (λ_ _ q=>q.mY) λ_ _ z=>False.elim z
end
section
variable {X:Cx}{st:Stmt}{rest:List Stmt}{t u:TS}{e:Expr}{te:TE}{pos:Pos}
def uP:TS:=λD σ H=>D.nx σ H
def G'(t u:TS):TS:=λD σ H=>t { D with nx:=u D } σ H
theorem T9:CW X [] uP:=λ_ _ σ H _ I h=>Al ⟨σ,H,I,h⟩
theorem P8(h1:PS X st t)(h2:CW X rest u):CW X (st::rest) (G' t u):=by
 intro pins s σ H D I h
 refine wpAny_execs_cons (cU (h1 pins s σ H { D with nx:=u D } I h) λf s1 q=>?_)
 cases f with
 | next=>
  obtain⟨σ',H',I',q⟩:=q
  exact h2 pins s1 σ' H' D I' q
 | ret v=>exact q
 | brk=>exact q
 | cont=>exact q
theorem T8(h1:PS X st t):CW X [st] t:=by
 intro pins s σ H D I h
 refine wpAny_execs_cons (cU (h1 pins s σ H D I h) λf s1 q=>?_)
 cases f with
 | next=>exact Al q
 | ret v=>exact q
 | brk=>exact q
 | cont=>exact q
theorem Inv.quiet{pins:List (Addr×Obj)}{σ:St}{H:Hp}{s:Shared}(I:Inv X pins σ H s):interactive X.env=false:=by simp[interactive,I.ok.kind]
def wz(te:TE):TS:=λD σ H=>te σ H λ_ H1=>D.nx σ H1
theorem JS(he:PE X e te)(hs:swapsWith e none pos.line X.env=pure false:=by rfl):PS X (.Expr e pos) (wz te):=by
 intro pins s σ H D I h
 exact wpAny_Expr_any (cU (he pins s σ H _ I h) λv s1 ⟨x,H1,I1,r1,q1⟩=>⟨σ,H1,I1,q1⟩) I.quiet hs
def Ha(te:TE):TS:=λD σ H=>te σ H D.rt
theorem Yj(he:PE X e te):PS X (.Return (some e) pos) (Ha te):=by
 intro pins s σ H D I h
 exact wpAny_Return_some (cU (he pins s σ H _ I h) λv s1 ⟨x,H1,I1,r1,q1⟩=>⟨x,σ,H1,I1,r1,q1⟩)
def Dq:TS:=λD _ H=>D.rt .non H
def Du(c:TT)(t u:TS):TS:=λD σ H=>c σ H λb H1=>if b=true then t D σ H1 else u D σ H1
theorem aAQ{c:Expr}{a b:List Stmt}{tc:TT}(hc:PT X c tc)(ha:CW X a t)(hb:CW X b u):PS X (.If c a b pos) (Du tc t u):=by
 intro pins s σ H D I h
 refine wpAny_If (cU (hc pins s σ H _ I h) λd s1 ⟨H1,I1,q1⟩=>?_)
 cases d with
 | true=>exact ha pins s1 σ H1 D I1 q1
 | false=>exact hb pins s1 σ H1 D I1 q1
def wy:TS:=λ_ _ _=>False
end
abbrev TG:=V->St->Hp->(St->Hp->Prop)->Prop
abbrev TGs:=List V->St->Hp->(St->Hp->Prop)->Prop
def PG(X:Cx)(target:Expr)(t:TG):Prop:=
 ∀(pins:List (Addr×Obj)) (s:Shared) (σ:St) (H:Hp) (v:V) (u:Value) (Q:St->Hp->Prop),Inv X pins σ H s->RelV v u->t v σ H Q->
  wpAny (model X.prog X.w) X.A (assign target X.env u) (λ_ s'=>∃σ' H',Inv X pins σ' H' s'/\Q σ' H') X.xe s
abbrev Jo:=V->V->V->Hp->(Hp->Prop)->Prop
def Nz(X:Cx)(t:Jo):Prop:=
 ∀(pins:List (Addr×Obj)) (s:Shared) (σ:St) (H:Hp) (o i v:V) (ov iv u:Value) (Q:Hp->Prop),Inv X pins σ H s->RelV o ov->RelV i iv->RelV v u->t o i v H Q->
  wpAny (model X.prog X.w) X.A (setItem ov iv u) (λ_ s'=>∃H',Inv X pins σ H' s'/\Q H') X.xe s
abbrev Wj:=V->V->Hp->VK->Prop
def PIp(X:Cx)(op:Operator)(t:Wj):Prop:=
 ∀(pins:List (Addr×Obj)) (s:Shared) (σ:St) (H:Hp) (x y:V) (v u:Value) (Q:VK),Inv X pins σ H s->RelV x v->RelV y u->t x y H Q->
  wpAny (model X.prog X.w) X.A (inplaceOp op v u) (EP X pins σ Q) X.xe s
section
variable {X:Cx}{pos:Pos}
def dA(i:Nat):TG:=λv σ H Q=>Q (σ.set i (some v)) H
theorem JZ{i:Nat}{x:Str}(hN:X.N.Nodup)(hi:X.N[i]?=some x)(hx:Loc X.env.scope x)(hf:X.fn x=true\/X.env.scope.names.lookup x=some .local:=by first | exact .inl rfl | exact .inr rfl | assumption):PG X (.Name x pos) (dA i):=by
 intro pins s σ H v u Q I r h
 exact wpAny_assign_Name (rn I hN hi hx r (λs' I'=>⟨_,H,I',h⟩) hf)
def VF:TGs:=λvs σ H Q=>vs=[]/\Q σ H
def Km(t:TG)(u:TGs):TGs:=λvs σ H Q=>∃v r,vs=v::r/\t v σ H λσ' H'=>u r σ' H' Q
def VD(K:PySem.W.Frag)(n:Nat)(t:TGs):TG:=λv σ H Q=>∃a xs,v=.ref a/\yF K H a xs/\xs.length=n/\t xs σ H Q
def IV(to ti:TE)(t:Jo):TG:=λv σ H Q=>to σ H λo H1=>ti σ H1 λi H2=>t o i v H2 λH3=>Q σ H3
theorem Qd{o i:Expr}{to ti:TE}{t:Jo}(ho:PE X o to)(hi:PE X i ti)(hs:Nz X t)
  (ha:∀v,assign (.Subscript o i pos) X.env v=(do
   let ov <-holding [v] (eval o X.env)
   let iv <-holding [v,ov] (eval i X.env)
   standAt pos
   holding [v,ov,iv] (setItem ov iv v)
   release [v,ov,iv] []):=by intro _;rfl):PG X (.Subscript o i pos) (IV to ti t):=by
 intro pins s σ H v u Q I r h
 rw[ha]
 refine ay (jB (cU (ho pins s σ H _ I h) λov s1 ⟨x,H1,I1,r1,q1⟩=>?_))
 refine ay (jB (cU (hi pins s1 σ H1 _ I1 q1) λiv s2 ⟨y,H2,I2,r2,q2⟩=>?_))
 refine ay (sY (ay (jB (cU (hs pins s2 σ H2 x y v ov iv u _ I2 r1 r2 r q2) λ_ s3 ⟨H3,I3,q3⟩=>?_))))
 exact wpAny_release ⟨σ,H3,I3,q3⟩
def tT(te:TE)(g:TG):TS:=λD σ H=>te σ H λx H1=>g x σ H1 D.nx
theorem BJ{tg e:Expr}{te:TE}{g:TG}(he:PE X e te)(hg:PG X tg g)(hs:swapsWithSole [tg] e pos.line X.env=pure false:=by rfl)(hw:swappedStores [tg] e X.env=pure none:=by rfl)
  (h1:(assignEach [tg] X.env).map (·.2)=[assign tg X.env]:=by rfl):PS X (.Assign [tg] e pos) (tT te g):=by
 intro pins s σ H D I h
 refine wpAny_Assign_stores (cU (he pins s σ H _ I h) λv s1 ⟨x,H1,I1,r1,q1⟩=>?_) hs hw
 rw[h1]
 exact cU (hg pins s1 σ H1 x v _ I1 r1 q1) λ_ s2 q=>q
theorem Yi{i:Nat}{x:Str}{e:Expr}{te:TE}{pos':Pos}(hN:X.N.Nodup)(hi:X.N[i]?=some x)(hx:Loc X.env.scope x)(he:PE X e te)(hs:swapsWith e (some (.Name x pos')) pos.line X.env=pure false:=by rfl)(hf:X.fn x=true\/X.env.scope.names.lookup x=some .local:=by first | exact .inl rfl | exact .inr rfl | assumption) :
  PS X (.Assign [.Name x pos'] e pos) (tT te (dA i)):=by
 intro pins s σ H D I h
 refine wpAny_Assign_Name (cU (he pins s σ H _ I h) λv s1 ⟨y,H1,I1,r1,q1⟩=>?_) hs
 exact rn I1 hN hi hx r1 (λs2 I2=>⟨_,H1,I2,q1⟩) hf
def Tb(i j:Nat)(ta:TA):TS:=λD σ H=>ta σ H λvs H1=>∃v w,vs=[v,w]/\D.nx ((σ.set i (some v)).set j (some w)) H1
def Tf(i:Nat)(te:TE)(ti:Wj):TS:=λD σ H=>∃x,σ[i]?=some (some x)/\te σ H λy H1=>ti x y H1 λz H2=>D.nx (σ.set i (some z)) H2
theorem Yn{i:Nat}{x:Str}{e:Expr}{te:TE}{op:Operator}{ti:Wj}{pos':Pos}(hN:X.N.Nodup)(hi:X.N[i]?=some x)(hx:Loc X.env.scope x)(he:PE X e te)(ho:PIp X op ti)(hf:X.fn x=true\/X.env.scope.names.lookup x=some .local:=by first | exact .inl rfl | exact .inr rfl | assumption) :
  PS X (.AugAssign (.Name x pos') op e pos) (Tf i te ti):=by
 intro pins s σ H D I h
 obtain⟨v,e1,h⟩:=h
 obtain⟨m,hn,hl⟩:=I.loc
 have vis:Vis X.env.scope x:=by rcases hx with k | k;exact .inl k;exact .inr (.inl k)
 obtain⟨u,r,l⟩:=hl i x v hi e1 vis
 refine wpAny_AugAssign_Name ?_
 have go:wpAny (model X.prog X.w) X.A (eval e X.env) (λw s₂=>wpAny (model X.prog X.w) X.A (inplaceOp op u w) (λr s₃=>wpAny (model X.prog X.w) X.A (storeName X.env x r) (λ_=>SP X pins D .next) X.xe s₃) X.xe s₂) X.xe s:=by
  refine cU (he pins s σ H _ I h) λw s1 ⟨y,H1,I1,r1,q1⟩=>?_
  refine cU (ho pins s1 σ H1 v y u w _ I1 r r1 q1) λz s2 ⟨zv,H2,I2,r2,q2⟩=>?_
  exact rn I2 hN hi hx r2 (λs3 I3=>⟨_,H2,I3,q2⟩) hf
 rcases l with ⟨hk,hm⟩ | ⟨hk,c,hc,o6⟩
 ·exact wpAny_loadName_local I.ok.kind hk hn hm go
 ·rcases hk with hk | hk
  ·exact wpAny_loadName_cell I.ok.kind hk hc o6 go
  ·rcases hx with k | k
   ·have:X.env.scope.names.lookup x=some .free:=hk
    rw[k]at this;cases this
   ·have:X.env.scope.names.lookup x=some .free:=hk
    rw[k]at this;cases this
def wC(to ti te:TE)(G6:V->V->Hp->VK->Prop)(Xz:Wj)(G5:Jo):TS:=λD σ H=>to σ H λo H1=>ti σ H1 λi H2=>G6 o i H2 λx H3=>te σ H3 λy H4=>Xz x y H4 λz H5=>G5 o i z H5 λH6=>D.nx σ H6
def aAe(X:Cx)(t:V->V->Hp->VK->Prop):Prop:=
 ∀(pins:List (Addr×Obj)) (s:Shared) (σ:St) (H:Hp) (o i:V) (ov iv:Value) (Q:VK),Inv X pins σ H s->RelV o ov->RelV i iv->t o i H Q->
  wpAny (model X.prog X.w) X.A (getItem ov iv) (EP X pins σ Q) X.xe s
theorem JT{o i e:Expr}{to ti te:TE}{G6:V->V->Hp->VK->Prop}{Xz:Wj}{G5:Jo}{op:Operator}{Ou:Pos}(ho:PE X o to)(hi:PE X i ti)(hg:aAe X G6)(he:PE X e te)(hp:PIp X op Xz)(hs:Nz X G5)
  (ha:∀ov iv new,augStore i ov iv new=(do holding [new,ov,iv] (setItem ov iv new);release [new,ov,iv] [];pure .next):=by intros;rfl):PS X (.AugAssign (.Subscript o i Ou) op e pos) (wC to ti te G6 Xz G5):=by
 intro pins s σ H D I h
 refine wpAny_AugAssign_SubscriptAny (cU (ho pins s σ H _ I h) λov s1 ⟨x1,H1,I1,r1,q1⟩=>?_) ha
 refine cU (hi pins s1 σ H1 _ I1 q1) λiv s2 ⟨x2,H2,I2,r2,q2⟩=>?_
 refine cU (hg pins s2 σ H2 x1 x2 ov iv _ I2 r1 r2 q2) λold s3 ⟨x3,H3,I3,r3,q3⟩=>?_
 refine cU (he pins s3 σ H3 _ I3 q3) λv s4 ⟨x4,H4,I4,r4,q4⟩=>?_
 refine cU (hp pins s4 σ H4 x3 x4 old v _ I4 r3 r4 q4) λnew s5 ⟨x5,H5,I5,r5,q5⟩=>?_
 exact cU (hs pins s5 σ H5 x1 x2 x5 ov iv new _ I5 r1 r2 r5 q5) λ_ s6 ⟨H6,I6,q6⟩=>⟨σ,H6,I6,q6⟩
def WM(f:Int->Int->Int):Wj:=λx y H Q=>∃i j,x=.int i/\y=.int j/\Q (.int (f i j)) H
theorem QV:PIp X .Add (WM λi j=>i+j):=by
 intro pins s σ H x y v u Q I r1 r2 h
 obtain⟨i,j,e1,e2,q⟩:=h
 subst e1;subst e2
 obtain⟨t,rfl⟩:=r1
 obtain⟨t',rfl⟩:=r2
 exact iadd_int ⟨.int _,H,I.tok _,⟨_,rfl⟩,q⟩
theorem Y9:PIp X .Sub (WM λi j=>i-j):=by
 intro pins s σ H x y v u Q I r1 r2 h
 obtain⟨i,j,e1,e2,q⟩:=h
 subst e1;subst e2
 obtain⟨t,rfl⟩:=r1
 obtain⟨t',rfl⟩:=r2
 exact isub_int ⟨.int _,H,I.tok _,⟨_,rfl⟩,q⟩
def G8(c:TT)(tb:TS):TS:=λD σ H=>∃W:Nat->St->Hp->Prop,(∃m,W m σ H)/\∀m σ H,W m σ H->
 c σ H λb H1=>if b=true then ∃N:St->Hp->Prop,(∀σ' H',N σ' H'->∃m',m'<m/\W m' σ' H')/\tb { D with nx:=N,ct:=N,bk:=D.nx } σ H1 else D.nx σ H1
theorem P9{c:Expr}{body:List Stmt}{tc:TT}{tb:TS}(hp:PassesOwn (model X.prog X.w) X.A X.env X.xe)(hc:PT X c tc)(hb:CW X body tb):PS X (.While c body [] pos) (G8 tc tb):=by
 intro pins s σ H D I h
 obtain⟨W,⟨m0,w0⟩,turn⟩:=h
 refine wpAny_While (codeAny_whileLoop (λn s'=>∃σ' H',Inv X pins σ' H' s'/\W n σ' H') ?_ m0 ⟨σ,H,I,w0⟩)
 rintro n s1 ⟨σ1,H1,I1,w1⟩
 refine pE hp (cU (hc pins s1 σ1 H1 _ I1 (turn n σ1 H1 w1)) λb s2 ⟨H2,I2,q2⟩=>?_)
 cases b with
 | true=>
  obtain⟨N,hN,q2⟩:=q2
  rw[aB rfl]
  refine pE hp (cU (hb pins s2 σ1 H2 _ I2 q2) λf s3 q3=>?_)
  cases f with
  | next=>
   obtain⟨σ3,H3,I3,n3⟩:=q3
   obtain⟨m',hm,w3⟩:=hN σ3 H3 n3
   exact⟨m',hm,σ3,H3,I3,w3⟩
  | cont=>
   obtain⟨σ3,H3,I3,n3⟩:=q3
   obtain⟨m',hm,w3⟩:=hN σ3 H3 n3
   exact⟨m',hm,σ3,H3,I3,w3⟩
  | brk=>exact q3
  | ret v=>exact q3
 | false=>
  rw[aC fG]
  exact Al ⟨σ1,H2,I2,q2⟩
end
structure It where
 go:Nat->Hp->Prop
 Lb:Nat->Hp->V->Hp->Prop
 stop:Nat->Hp->Prop
def De(X:Cx)(pins:List (Addr×Obj))(H:Hp)(b:Addr):Prop:=
 H b=none/\b≠X.env.locals/\b∉X.fs/\(b∈X.ex\/X.s₀.heap.objs.size<=b)/\(∀x c,X.env.cells.lookup x=some c->c≠b)/\∀p∈X.pn++pins,p.1≠b
theorem Inv.VG{X:Cx}{pins:List (Addr×Obj)}{σ:St}{H H':Hp}{s:Shared}{b:Addr}(I:Inv X pins σ H s)(hb:s.heap.objs.size<=b)(hn:H' b=none):De X pins H' b:=by
 refine⟨hn,jA (cT I.lt hb),I.aA3 hb,.inr (e8 I.sz hb),λx c e z=>?_,λp hp z=>?_⟩
 ·obtain⟨v,q⟩:=I.cell x c e
  exact absurd (cT q.lt (by rw[z];exact hb)) (jC _)
 ·exact absurd (cT (aU (I.pin p hp).1) (by rw[z];exact hb)) (jC _)
structure Turn(P:Program)(w:World)(K:PySem.W.Frag)(tg:Expr)(J:It)(fp:List Addr)(it:Addr)(tn:Nat->Heap->Prop):Prop where
 mem:it∈fp
 obj:∀i h,tn i h->∀b∈fp,∃o,h.get? b=some o/\∀v,o.data≠.cell v
 keep:∀i h h',tn i h->(∀b∈fp,∀o,h.get? b=some o->h'.get? b=some o)->tn i h'
 item:∀(X:Cx),X.prog=P->X.w=w->X.K=K->X.calm=true->∀(i:Nat) (pins:List (Addr×Obj)) (s:Shared) (σ:St) (H:Hp) (E:Value->Shared->Prop),Inv X pins σ H s->(∀b∈fp,De X pins H b)->tn i s.heap->J.go i H->
  wpAny (model P w) X.A (pyNext (.ref it)) (λr s1=>∃u,r=some u/\
   wpAny (model P w) X.A (letOwnedTupleGo tg (.ref it) u) (λ_ s2=>∃x H',Inv X pins σ H' s2/\RelV x u/\J.Lb i H x H'/\tn (i+1) s2.heap/\∀b∈fp,H' b=none) E s1) E s
 done:∀(X:Cx),X.prog=P->X.w=w->X.K=K->X.calm=true->∀(i:Nat) (pins:List (Addr×Obj)) (s:Shared) (σ:St) (H:Hp) (E:Value->Shared->Prop),Inv X pins σ H s->(∀b∈fp,De X pins H b)->tn i s.heap->J.stop i H->
  wpAny (model P w) X.A (pyNext (.ref it)) (λr s1=>r=none/\Inv X pins σ H s1) E s
 self:∀(A:Around) (i:Nat) (s:Shared) (Q:Value->Shared->Prop) (E:Value->Shared->Prop),tn i s.heap->Q (.ref it) s->wpAny (model P w) A (pyIter (.ref it)) Q E s
abbrev TI:=St->Hp->(It->Hp->Prop)->Prop
def PIE(X:Cx)(pins:List (Addr×Obj))(σ:St)(tg:Expr)(R:It->Hp->Prop)(itv:Value)(s2:Shared):Prop:=
 ∃(it:Addr) (fp:List Addr) (tn:Nat->Heap->Prop) (J:It) (H':Hp),itv=.ref it/\Inv X pins σ H' s2/\Turn X.prog X.w X.K tg J fp it tn/\tn 0 s2.heap/\(∀b∈fp,De X pins H' b)/\R J H'
def PI(X:Cx)(tg iter:Expr)(wi:TI):Prop:=
 ∀(pins:List (Addr×Obj)) (s:Shared) (σ:St) (H:Hp) (R:It->Hp->Prop),Inv X pins σ H s->wi σ H R->
  wpAny (model X.prog X.w) X.A (eval iter X.env) (λv s1=>wpAny (model X.prog X.w) X.A (pyIter v) (PIE X pins σ tg R) X.xe s1) X.xe s
theorem Kl{M : Model}{A : Around}{E : Value → Shared → Prop}{s : Shared}{tg : Expr}{it : Addr}{u : Value}{o : Obj}{n : String}{vs : Array Value}{Q : Unit → Shared → Prop}(ho : s.heap.get? it=some o)(hc : o.cls=.type n)(hd : o.data=.fields vs)
    (hn : ["enumerate", "zip", "dict_itemiterator", "dict_reverseitemiterator", "odict_iterator", "itertools.zip_longest", "itertools.pairwise"].contains n=false) (hQ : Q () s) : wpAny M A (letOwnedTupleGo tg (.ref it) u) Q E s := by
  unfold letOwnedTupleGo
  cases tg <;> first
    | exact aK hQ
    | (cases u <;> first
        | exact aK hQ
        | (refine ay (wpAny_load ho ?_)
           rw[hc, hd]
           show wpAny M A (if (["enumerate", "zip", "dict_itemiterator", "dict_reverseitemiterator", "odict_iterator", "itertools.zip_longest", "itertools.pairwise"].contains n&&vs[0]? == some (rawInt _))=true then _ else _) Q E s
           rw[aC (by intro h; rw[hn, Ao]at h; cases h)]
           exact aK hQ))
def Jr(K:PySem.W.Frag)(a:Addr):It:=
 ⟨λi H=>∃xs x,qP K H a xs/\xs[i]?=some x,λi H x H'=>H'=H/\∀xs,qP K H a xs->xs[i]?=some x,λi H=>∃xs,qP K H a xs/\xs.length<=i⟩
def Wm(K:PySem.W.Frag)(a:Addr):It:=
 ⟨λi H=>∃xs x,yF K H a xs/\xs[i]?=some x,λi H x H'=>H'=H/\∀xs,yF K H a xs->xs[i]?=some x,λi H=>∃xs,yF K H a xs/\xs.length<=i⟩
def Jq(lo:Int)(n:Nat):It:=⟨λi _=>i<n,λi H x H'=>H'=H/\x=.int (lo+i),λi _=>n<=i⟩
theorem Lg{P:Program}{w:World}{K:PySem.W.Frag}{tg:Expr}(a it:Addr):Turn P w K tg (Jr K a) [it] it (λi h=>h.IsListIter it a i) where
 mem:=by simp
 obj:=λi h st b hb=>by
  have e:b=it:=by simpa using hb
  subst e
  obtain⟨o,e,c,d⟩:=st
  exact⟨o,e,λv z=>by rw[d]at z;cases z⟩
 keep:=λi h h' st k=>st.at λo e=>k it (by simp) o e
 item:=by
  intro X hP hw hK hc i pins s σ H E I hf st hg
  subst hP hw hK
  obtain⟨xs,x,hq,hx⟩:=hg
  obtain⟨its,rv,p,hz⟩:=I.list hq
  obtain⟨u,hu,ru⟩:=rv.get hx
  obtain⟨f0,f1,f2,f3,f4,f5⟩:=hf it (by simp)
  refine wpAny_pyNext_list_item st p.isList (x:=u) (by simpa using hu) λh' bD sb=>?_
  have I1:Inv X pins σ H { s with heap:=h' }:=I.turned (t':=s.toks) (λb o hb e=>(sb.2 b hb).trans e) f0 f1 f3 f4 f5
  obtain⟨o,e,c,d⟩:=id bD
  exact⟨u,rfl,Kl (s:={ s with heap:=h' }) e c d (by decide) ⟨x,H,I1,ru,⟨rfl,λys hy=>by rw[I.Er hy hq];exact hx⟩,bD,λb hb=>(hf b hb).1⟩⟩
 done:=by
  intro X hP hw hK hc i pins s σ H E I hf st hg
  subst hP hw hK
  obtain⟨xs,hq,hx⟩:=hg
  obtain⟨its,rv,p,hz⟩:=I.list hq
  obtain⟨f0,f1,f2,f3,f4,f5⟩:=hf it (by simp)
  have hl:=rv.length
  exact wpAny_pyNext_list_end (I.ok.hd hc) st p.isList (by simp;lia) λh' eb=>⟨rfl,I.turned (t':=s.toks) (λb o hb e=>eb b o hb e) f0 f1 f3 f4 f5⟩
 self:=λ_ _ _ _ _ st h=>wpAny_pyIter_listiter st h
theorem G3{P:Program}{w:World}{K:PySem.W.Frag}{tg:Expr}(a it:Addr):Turn P w K tg (Wm K a) [it] it (λi h=>h.IsTupleIter it a i) where
 mem:=by simp
 obj:=λi h st b hb=>by
  have e:b=it:=by simpa using hb
  subst e
  obtain⟨o,e,c,d⟩:=st
  exact⟨o,e,λv z=>by rw[d]at z;cases z⟩
 keep:=λi h h' st k=>st.at λo e=>k it (by simp) o e
 item:=by
  intro X hP hw hK hc i pins s σ H E I hf st hg
  subst hP hw hK
  obtain⟨xs,x,hq,hx⟩:=hg
  obtain⟨its,rv,p,hz⟩:=I.tuple hq
  obtain⟨u,hu,ru⟩:=rv.get hx
  obtain⟨f0,f1,f2,f3,f4,f5⟩:=hf it (by simp)
  refine wpAny_pyNext_tuple_item st (show s.heap.IsTuple a its.toArray from p) (x:=u) (by simpa using hu) λh' bD sb=>?_
  have I1:Inv X pins σ H { s with heap:=h' }:=I.turned (t':=s.toks) (λb o hb e=>(sb.2 b hb).trans e) f0 f1 f3 f4 f5
  obtain⟨o,e,c,d⟩:=id bD
  exact⟨u,rfl,Kl (s:={ s with heap:=h' }) e c d (by decide) ⟨x,H,I1,ru,⟨rfl,λys hy=>by rw[I.Li hy hq];exact hx⟩,bD,λb hb=>(hf b hb).1⟩⟩
 done:=by
  intro X hP hw hK hc i pins s σ H E I hf st hg
  subst hP hw hK
  obtain⟨xs,hq,hx⟩:=hg
  obtain⟨its,rv,p,hz⟩:=I.tuple hq
  obtain⟨f0,f1,f2,f3,f4,f5⟩:=hf it (by simp)
  have hl:=rv.length
  exact wpAny_pyNext_tuple_end (I.ok.hd hc) st (show s.heap.IsTuple a its.toArray from p) (by simp;lia) λh' eb=>⟨rfl,I.turned (t':=s.toks) (λb o hb e=>eb b o hb e) f0 f1 f3 f4 f5⟩
 self:=λ_ _ _ _ _ st h=>wpAny_pyIter_tupleiter st h
theorem G4{P:Program}{w:World}{K:PySem.W.Frag}{tg:Expr}(it:Addr)(lo:Int)(n:Nat):Turn P w K tg (Jq lo n) [it] it (λi h=>IsRangeIter h it (lo+(i:Nat)*1) ((n:Int)-(i:Nat)) 1) where
 mem:=by simp
 obj:=λi h st b hb=>by
  have e:b=it:=by simpa using hb
  subst e
  exact⟨_,st,λv z=>by
   have z':Data.fields _=Data.cell v:=z
   cases z'⟩
 keep:=λi h h' st k=>k it (by simp) _ st
 item:=by
  intro X hP hw hK hc i pins s σ H E I hf st hg
  subst hP hw hK
  obtain⟨f0,f1,f2,f3,f4,f5⟩:=hf it (by simp)
  have W:=Walks.range (prog:=X.prog) (w:=X.w) (I.ok.hd hc) it lo 1 n
  refine W.item i s _ _ hg st λv h' tk hv bD kk=>?_
  obtain⟨t,rfl⟩:=hv
  have I1:Inv X pins σ H { s with heap:=h',toks:=tk }:=I.turned (λb o hb e=>kk b o (by simpa using hb) e) f0 f1 f3 f4 f5
  refine⟨_,rfl,Kl (s:={ s with heap:=h',toks:=tk }) (n:="range_iterator") bD rfl rfl (by decide) ⟨.int (lo+i),H,I1,⟨t,?_⟩,⟨rfl,rfl⟩,bD,λb hb=>(hf b hb).1⟩⟩
  rw[Int.mul_one]
 done:=by
  intro X hP hw hK hc i pins s σ H E I hf st hg
  subst hP hw hK
  obtain⟨f0,f1,f2,f3,f4,f5⟩:=hf it (by simp)
  exact wpAny_pyNext_range_end (I.ok.hd hc) st (by have:n<=i:=hg;lia) λh' eb=>⟨rfl,I.turned (t':=s.toks) (λb o hb e=>eb b o hb e) f0 f1 f3 f4 f5⟩
 self:=λ_ _ _ _ _ st h=>wpAny_pyIter_rangeiter st h
end L2
namespace L2
open PySem PySem.Spec PyProof.Rows
section
variable {X:Cx}{tg:Expr}
def xA(K:PySem.W.Frag)(tl:TE):TI:=λσ H R=>tl σ H λx H1=>∃a,x=.ref a/\(∃xs,qP K H1 a xs)/\R (Jr K a) H1
def Io(K:PySem.W.Frag)(tl:TE):TI:=λσ H R=>tl σ H λx H1=>∃a,x=.ref a/\(∃xs,yF K H1 a xs)/\R (Wm K a) H1
theorem Ul{l:Expr}{tl:TE}(hl:PE X l tl):PI X tg l (xA X.K tl):=by
 intro pins s σ H R I h
 refine cU (hl pins s σ H _ I h) λv s1 ⟨x,H1,I1,r1,q1⟩=>?_
 obtain⟨a,e,⟨xs,hq⟩,q⟩:=q1
 subst e
 cases r1
 obtain⟨its,rv,p,hz⟩:=I1.list hq
 refine Au p.isList ?_
 refine⟨s1.heap.objs.size,[s1.heap.objs.size],_,_,H1,rfl,I1.kept (t':=s1.toks) λb o e=>bZ _ e,Lg a _,⟨_,cI _ rfl,rfl,rfl⟩,λb hb=>?_,q⟩
 have e:b=s1.heap.objs.size:=by simpa using hb
 subst e
 exact I1.VG (bx _) (I1.bE.fresh (bx _))
theorem Yp{l:Expr}{tl:TE}(hl:PE X l tl):PI X tg l (Io X.K tl):=by
 intro pins s σ H R I h
 refine cU (hl pins s σ H _ I h) λv s1 ⟨x,H1,I1,r1,q1⟩=>?_
 obtain⟨a,e,⟨xs,hq⟩,q⟩:=q1
 subst e
 cases r1
 obtain⟨its,rv,p,hz⟩:=I1.tuple hq
 refine wpAny_pyIter_tuple (show s1.heap.IsTuple a its.toArray from p) ?_
 refine⟨s1.heap.objs.size,[s1.heap.objs.size],_,_,H1,rfl,I1.kept (t':=s1.toks) λb o e=>bZ _ e,G3 a _,⟨_,cI _ rfl,rfl,rfl⟩,λb hb=>?_,q⟩
 have e:b=s1.heap.objs.size:=by simpa using hb
 subst e
 exact I1.VG (bx _) (I1.bE.fresh (bx _))
theorem Pt{pins:List (Addr×Obj)}{σ:St}{H:Hp}{s:Shared}{R:It->Hp->Prop}{E:Value->Shared->Prop}{lo hi:Int}{t u v:Tok}{tk:Nat}(I:Inv X pins σ H s)(h1 : -(2 ^ 62)<=lo)(h2:lo<2 ^ 62)(h3 : -(2 ^ 62)<=hi)(h4:hi<2 ^ 62)
  (q:R (Jq lo (hi-lo).toNat) H):wpAny (model X.prog X.w) X.A (pyIter (.ref s.heap.objs.size)) (PIE X pins σ tg R) E { s with heap:=s.heap.push { cls:=.type "range",data:=.fields #[.int lo t,.int hi u,.int 1 v] },toks:=tk }:=by
 refine wpAny_pyIter_range (IsRange.new ..) (small_one h1 h2 h3 h4) ?_
 have I1:Inv X pins σ H { s with heap:=s.heap.push { cls:=.type "range",data:=.fields #[.int lo t,.int hi u,.int 1 v] },toks:=tk }:=I.kept λb o e=>bZ _ e
 refine⟨(s.heap.push { cls:=.type "range",data:=.fields #[.int lo t,.int hi u,.int 1 v] }).objs.size,[(s.heap.push { cls:=.type "range",data:=.fields #[.int lo t,.int hi u,.int 1 v] }).objs.size],_,_,H,rfl,
  I1.kept (t':=tk) λb o e=>bZ _ e,G4 _ lo (hi-lo).toNat,?_,λb hb=>?_,q⟩
 ·have e1:lo+((0:Nat):Int)*1=lo:=by simp
  have e2:(((hi-lo).toNat:Nat):Int)-((0:Nat):Int)=Builtin.Range.rangeSize lo hi 1:=by rw[rangeSize_one];split <;> lia
  show IsRangeIter _ _ (lo+((0:Nat):Int)*1) ((((hi-lo).toNat:Nat):Int)-((0:Nat):Int)) 1
  rw[e1,e2]
  exact cI _ rfl
 ·have e:b=(s.heap.push { cls:=.type "range",data:=.fields #[.int lo t,.int hi u,.int 1 v] }).objs.size:=by simpa using hb
  subst e
  exact I1.VG (bx _) (I1.bE.fresh (bx _))
def xu(ta:TA):TI:=λσ H R=>ta σ H λvs H1=>∃j:Int,vs=[.int j]/\-(2 ^ 62)<=j/\j<2 ^ 62/\R (Jq 0 j.toNat) H1
def Fh(ta:TA):TI:=λσ H R=>ta σ H λvs H1=>∃i j:Int,vs=[.int i,.int j]/\(-(2 ^ 62)<=i/\i<2 ^ 62/\-(2 ^ 62)<=j/\j<2 ^ 62)/\R (Jq i (j-i).toNat) H1
theorem zt{a:Expr}{ta:TA}{p pos:Pos}(hg:Gl X "range")(hm:X.mg "range" = none)(ha:PA X [a] ta)(hs:starEach [a] X.env=[(false,eval a X.env)]:=by rfl):PI X tg (.Call (.Name "range" p) [a] [] pos) (xu ta):=by
 intro pins s σ H R I h
 refine Call_ (t7 I hg hm boot_range (GX (cU (ha pos pins s σ H _ I h) λus s1 ⟨vs,H1,I1,r1,q1⟩=>?_) hs rfl))
 obtain⟨j,e,q1,q2,q⟩:=q1
 subst e
 cases r1 with
 | cons r rr=>
  cases rr
  obtain⟨t,rfl⟩:=r
  exact call_range_1 (Pt I1 (by lia) (by lia) q1 q2 (by simpa using q))
def Tc(wi:TI)(g:TG)(tb:TS):TS:=λD σ H=>wi σ H λJ H1=>∃W:Nat->Nat->St->Hp->Prop,(∃m,W 0 m σ H1)/\∀i m σ H,W i m σ H->
 (J.stop i H/\D.nx σ H)\/(J.go i H/\∃N:St->Hp->Prop,(∀σ' H',N σ' H'->∃m',m'<m/\W (i+1) m' σ' H')/\∀x H',J.Lb i H x H'->g x σ H' λσ2 H2=>tb { D with nx:=N,ct:=N,bk:=D.nx } σ2 H2)
def wQ(fp:List Addr)(h:Heap):List (Addr×Obj):=fp.filterMap λb=>(h.get? b).map λo=>(b,o)
theorem lH{fp:List Addr}{h:Heap}{b:Addr}{o:Obj}(hb:b∈fp)(e:h.get? b=some o):(b,o)∈wQ fp h:=List.mem_filterMap.mpr ⟨b,hb,by rw[e];rfl⟩
theorem Mt{fp:List Addr}{h:Heap}{p:Addr×Obj}(hp:p∈wQ fp h):p.1∈fp/\h.get? p.1=some p.2:=by
 obtain⟨b,hb,e⟩:=List.mem_filterMap.mp hp
 cases q:h.get? b with
 | none=>rw[q]at e;cases e
 | some o=>
  rw[q]at e
  have e':(b,o)=p:=eG e
  subst e'
  exact⟨hb,q⟩
theorem Inv.pinned{pins:List (Addr×Obj)}{σ:St}{H:Hp}{s:Shared}{fp:List Addr}(I:Inv X pins σ H s)(hf:∀b∈fp,De X pins H b)(ho:∀b∈fp,∃o,s.heap.get? b=some o/\∀v,o.data≠.cell v):Inv X (pins++wQ fp s.heap) σ H s:=
 I.JV λp hp=>(cv.mp hp).elim (λz=>I.pin p (iX _ z)) λz=>by
  obtain⟨hb,e⟩:=Mt z
  obtain⟨f0,f1,f2,_⟩:=hf p.1 hb
  obtain⟨o,e',d⟩:=ho p.1 hb
  rw[e]at e';cases e'
  exact⟨e,f0,f1,f2,d⟩
theorem Inv.rh{pins pl:List (Addr×Obj)}{σ:St}{H:Hp}{s:Shared}(I:Inv X (pins++pl) σ H s):Inv X pins σ H s:=I.JV λp hp=>I.pin p (iX _ (uM _ hp))
theorem Yk{iter:Expr}{body:List Stmt}{wi:TI}{g:TG}{tb:TS}{pos:Pos}(hp:PassesOwn (model X.prog X.w) X.A X.env X.xe)(hc:X.calm=true)(hi:PI X tg iter wi)(hg:PG X tg g)(hb:CW X body tb)
  (hs:∀x,foldedSetIterable iter X.env x=pure x:=by intro _;rfl):PS X (.For tg iter body [] pos) (Tc wi g tb):=by
 intro pins s σ H D I h
 refine wpAny_For (cU (hi pins s σ H _ I h) λv s1 h1=>cU h1 λitv s2 h2=>?_) hs
 obtain⟨it,fp,tn,J,H2,e,I2,T,NQ,f2,W,⟨m0,w0⟩,turn⟩:=h2
 subst e
 have stat:∀{H':Hp},(∀b∈fp,H' b=none)->∀b∈fp,De X pins H' b:=λhn b hb=>⟨hn b hb,(f2 b hb).2⟩
 refine codeAny_forLoop_any (λn s'=>∃i σ' H',Inv X pins σ' H' s'/\tn i s'.heap/\(∀b∈fp,H' b=none)/\W i n σ' H') ?_ m0 ⟨0,σ,H2,I2,NQ,λb hb=>(f2 b hb).1,w0⟩
 rintro n s3 ⟨i,σ3,H3,I3,st3,fr3,w3⟩
 rcases turn i n σ3 H3 w3 with ⟨stop,qn⟩ | ⟨go,N,hN,step⟩
 ·refine pE hp (cU (T.done X rfl rfl rfl hc i pins s3 σ3 H3 X.xe I3 (stat fr3) st3 stop) λr s4 ⟨hr,I4⟩=>?_)
  subst hr
  exact Al ⟨σ3,H3,I4,qn⟩
 ·refine pE hp (cU (T.item X rfl rfl rfl hc i pins s3 σ3 H3 X.xe I3 (stat fr3) st3 go) λr s4 ⟨u,hr,h4⟩=>?_)
  subst hr
  refine pE hp (cU h4 λ_ s5 ⟨x,H5,I5,r5,y5,st5,fr5⟩=>?_)
  have I5':=I5.pinned (stat fr5) (T.obj _ _ st5)
  refine pE hp (cU (hg _ s5 σ3 H5 x u _ I5' r5 (step x H5 y5)) λ_ s6 ⟨σ6,H6,I6,q6⟩=>?_)
  refine pE hp (cU (hb _ s6 σ6 H6 _ I6 q6) λf s7 q7=>?_)
  have again:∀{σ7:St} {H7:Hp},Inv X (pins++wQ fp s5.heap) σ7 H7 s7->N σ7 H7->∃m,m<n/\∃i σ' H',Inv X pins σ' H' s7/\tn i s7.heap/\(∀b∈fp,H' b=none)/\W i m σ' H':=λ{σ7 H7} I7 n7=>by
   obtain⟨m',hm,w7⟩:=hN σ7 H7 n7
   refine⟨m',hm,i+1,σ7,H7,I7.rh,T.keep _ _ _ st5 λb hb o e=>(I7.pin (b,o) (iX _ (iX _ (lH hb e)))).1,λb hb=>?_,w7⟩
   obtain⟨o,e,d⟩:=T.obj _ _ st5 b hb
   exact(I7.pin (b,o) (iX _ (iX _ (lH hb e)))).2.1
  cases f with
  | next=>obtain⟨σ7,H7,I7,n7⟩:=q7;exact again I7 n7
  | cont=>obtain⟨σ7,H7,I7,n7⟩:=q7;exact again I7 n7
  | brk=>obtain⟨σ7,H7,I7,q7⟩:=q7;exact⟨σ7,H7,I7.rh,q7⟩
  | ret v=>obtain⟨x7,σ7,H7,I7,r7,q7⟩:=q7;exact⟨x7,σ7,H7,I7.rh,r7,q7⟩
end
theorem Rz{K:PySem.W.Frag}{a:Addr}{xs:List V}{g:TG}{tb:TS}{D:Ends}{σ:St}{H:Hp}(Pv:Nat->St->Hp->Prop)(h0:Pv 0 σ H)(hl:∀i σ H,i<=xs.length->Pv i σ H->qP K H a xs)
  (hs:∀i x σ H,xs[i]?=some x->Pv i σ H->g x σ H λσ2 H2=>tb { D with nx:=Pv (i+1),ct:=Pv (i+1),bk:=D.nx } σ2 H2) (hd:∀σ H,Pv xs.length σ H->D.nx σ H) :
  ∃W:Nat->Nat->St->Hp->Prop,(∃m,W 0 m σ H)/\∀i m σ H,W i m σ H->
   ((Jr K a).stop i H/\D.nx σ H)\/((Jr K a).go i H/\∃N:St->Hp->Prop,(∀σ' H',N σ' H'->∃m',m'<m/\W (i+1) m' σ' H')/\∀x H',(Jr K a).Lb i H x H'->g x σ H' λσ2 H2=>tb { D with nx:=N,ct:=N,bk:=D.nx } σ2 H2):=by
 refine⟨λi m σ H=>m=xs.length-i/\i<=xs.length/\Pv i σ H,⟨xs.length,by simp,dM _,h0⟩,?_⟩
 rintro i m σ H ⟨rfl,hi,p⟩
 have q:=hl i σ H hi p
 by_cases jj:i<xs.length
 ·refine .inr ⟨⟨xs,xs[i],q,by simp[jj]⟩,Pv (i+1),λσ' H' p'=>⟨xs.length-(i+1),by lia,rfl,jj,p'⟩,λx H' y=>?_⟩
  obtain⟨e,y⟩:=y
  subst e
  exact hs i x σ _ (y xs q) p
 ·have e:i=xs.length:=by lia
  subst e
  exact .inl ⟨⟨xs,q,bx _⟩,hd σ H p⟩
theorem VJ{K:PySem.W.Frag}{a:Addr}{xs:List V}{g:TG}{tb:TS}{D:Ends}{σ:St}{H:Hp}(Pv:Nat->St->Hp->Prop)(h0:Pv 0 σ H)(hl:∀i σ H,i<=xs.length->Pv i σ H->yF K H a xs)
  (hs:∀i x σ H,xs[i]?=some x->Pv i σ H->g x σ H λσ2 H2=>tb { D with nx:=Pv (i+1),ct:=Pv (i+1),bk:=D.nx } σ2 H2) (hd:∀σ H,Pv xs.length σ H->D.nx σ H) :
  ∃W:Nat->Nat->St->Hp->Prop,(∃m,W 0 m σ H)/\∀i m σ H,W i m σ H->
   ((Wm K a).stop i H/\D.nx σ H)\/((Wm K a).go i H/\∃N:St->Hp->Prop,(∀σ' H',N σ' H'->∃m',m'<m/\W (i+1) m' σ' H')/\∀x H',(Wm K a).Lb i H x H'->g x σ H' λσ2 H2=>tb { D with nx:=N,ct:=N,bk:=D.nx } σ2 H2):=by
 refine⟨λi m σ H=>m=xs.length-i/\i<=xs.length/\Pv i σ H,⟨xs.length,by simp,dM _,h0⟩,?_⟩
 rintro i m σ H ⟨rfl,hi,p⟩
 have q:=hl i σ H hi p
 by_cases jj:i<xs.length
 ·refine .inr ⟨⟨xs,xs[i],q,by simp[jj]⟩,Pv (i+1),λσ' H' p'=>⟨xs.length-(i+1),by lia,rfl,jj,p'⟩,λx H' y=>?_⟩
  obtain⟨e,y⟩:=y
  subst e
  exact hs i x σ _ (y xs q) p
 ·have e:i=xs.length:=by lia
  subst e
  exact .inl ⟨⟨xs,q,bx _⟩,hd σ H p⟩
theorem Nc{lo:Int}{n:Nat}{g:TG}{tb:TS}{D:Ends}{σ:St}{H:Hp}(Pv:Nat->St->Hp->Prop)(h0:Pv 0 σ H)
  (hs:∀i σ H,i<n->Pv i σ H->g (.int (lo+i)) σ H λσ2 H2=>tb { D with nx:=Pv (i+1),ct:=Pv (i+1),bk:=D.nx } σ2 H2) (hd:∀σ H,Pv n σ H->D.nx σ H) :
  ∃W:Nat->Nat->St->Hp->Prop,(∃m,W 0 m σ H)/\∀i m σ H,W i m σ H->
   ((Jq lo n).stop i H/\D.nx σ H)\/((Jq lo n).go i H/\∃N:St->Hp->Prop,(∀σ' H',N σ' H'->∃m',m'<m/\W (i+1) m' σ' H')/\∀x H',(Jq lo n).Lb i H x H'->g x σ H' λσ2 H2=>tb { D with nx:=N,ct:=N,bk:=D.nx } σ2 H2):=by
 refine⟨λi m σ H=>m=n-i/\i<=n/\Pv i σ H,⟨n,by simp,dM _,h0⟩,?_⟩
 rintro i m σ H ⟨rfl,hi,p⟩
 by_cases jj:i<n
 ·refine .inr ⟨jj,Pv (i+1),λσ' H' p'=>⟨n-(i+1),by lia,rfl,jj,p'⟩,λx H' y=>?_⟩
  obtain⟨e,y⟩:=y
  subst e y
  exact hs i σ _ jj p
 ·have e:i=n:=by lia
  subst e
  exact .inl ⟨bx _,hd σ H p⟩
end L2
namespace L2
open PySem PySem.Spec PyProof.Rows
abbrev R2:=V->V->Hp->VK->Prop
def oE(X:Cx)(f:Value->Value->Sem Value)(r:R2):Prop:=
 ∀(pins:List (Addr×Obj)) (s:Shared) (σ:St) (H:Hp) (x y:V) (v u:Value) (Q:VK),Inv X pins σ H s->RelV x v->RelV y u->r x y H Q->
  wpAny (model X.prog X.w) X.A (f v u) (EP X pins σ Q) X.xe s
def fw(X:Cx)(f:Value)(r:List V->Hp->VK->Prop):Prop:=
 ∀(pins:List (Addr×Obj)) (s:Shared) (σ:St) (H:Hp) (xs:List V) (us:List Value) (Q:VK),Inv X pins σ H s->Vals xs us->r xs H Q->
  wpAny (model X.prog X.w) X.A (call f us) (EP X pins σ Q) X.xe s
def Lj(r:R2)(ta tb:TE):TE:=λσ H Q=>ta σ H λx H1=>tb σ H1 λy H2=>r x y H2 Q
def tUn(r:V->Hp->VK->Prop)(ta:TE):TE:=λσ H Q=>ta σ H λx H1=>r x H1 Q
def rI(C:Int->Int->Prop)(g:Int->Int->V):R2:=λx y H Q=>∃i j,x=.int i/\y=.int j/\C i j/\Q (g i j) H
def L1(g:Int->Int->V):R2:=λx y H Q=>∃i j,x=.int i/\y=.int j/\Q (g i j) H
def rU(g:Int->V):V->Hp->VK->Prop:=λx H Q=>∃i,x=.int i/\Q (g i) H
section
variable {X:Cx}{a b c:Expr}{ta tb tc:TE}{pos:Pos}
theorem aAa(ha:PE X a ta)(hb:PE X b tb){pins:List (Addr×Obj)}{s:Shared}{σ:St}{H:Hp}{R:V->V->Hp->Prop}(I:Inv X pins σ H s)
  (h:ta σ H λx H1=>tb σ H1 λy H2=>R x y H2) {Q:Value->Shared->Prop} {f:Value->Value->Sem Value}
  (hf:∀v u s2 x y H2,Inv X pins σ H2 s2->RelV x v->RelV y u->R x y H2->wpAny (model X.prog X.w) X.A (f v u) Q X.xe s2) :
  wpAny (model X.prog X.w) X.A (eval a X.env) (λv s₁=>wpAny (model X.prog X.w) X.A (eval b X.env) (λu s₂=>wpAny (model X.prog X.w) X.A (f v u) Q X.xe s₂) X.xe s₁) X.xe s:=by
 refine cU (ha pins s σ H _ I h) λv s1 ⟨x,H1,I1,r1,q1⟩=>?_
 refine cU (hb pins s1 σ H1 _ I1 q1) λu s2 ⟨y,H2,I2,r2,q2⟩=>?_
 exact hf v u s2 x y H2 I2 r1 r2 q2
theorem aAS{op:Operator}{r:R2}(ho:oE X (binaryOp op) r)(ha:PE X a ta)(hb:PE X b tb):PE X (.BinOp a op b pos) (Lj r ta tb):=by
 intro pins s σ H Q I h
 exact wpAny_BinOp (aAa ha hb I h λv u s2 x y H2 I2 rx ry q=>ho pins s2 σ H2 x y v u Q I2 rx ry q)
theorem opI{f:Value->Value->Sem Value}{C:Int->Int->Prop}{g:Int->Int->Int}
  (rule:∀(i j:Int) (t u:Tok) (s:Shared) (Q:Value->Shared->Prop) (E:Value->Shared->Prop),C i j->Q (.int (g i j) s.toks) { s with toks:=s.toks+1 }->wpAny (model X.prog X.w) X.A (f (.int i t) (.int j u)) Q E s) :
  oE X f (rI C λi j=>.int (g i j)):=by
 intro pins s σ H x y v u Q I rx ry h
 obtain⟨i,j,rfl,rfl,hc,q⟩:=h
 obtain⟨t,rfl⟩:=rx
 obtain⟨t',rfl⟩:=ry
 exact rule i j t t' s _ _ hc ⟨.int (g i j),H,I.tok _,⟨_,rfl⟩,q⟩
theorem aAZ{f:Value->Value->Sem Value}{g:Int->Int->Int}
  (rule:∀(i j:Int) (t u:Tok) (s:Shared) (Q:Value->Shared->Prop) (E:Value->Shared->Prop),Q (.int (g i j) s.toks) { s with toks:=s.toks+1 }->wpAny (model X.prog X.w) X.A (f (.int i t) (.int j u)) Q E s) :
  oE X f (L1 λi j=>.int (g i j)):=by
 intro pins s σ H x y v u Q I rx ry h
 obtain⟨i,j,rfl,rfl,q⟩:=h
 obtain⟨t,rfl⟩:=rx
 obtain⟨t',rfl⟩:=ry
 exact rule i j t t' s _ _ ⟨.int (g i j),H,I.tok _,⟨_,rfl⟩,q⟩
theorem Ux{f:Value->Value->Sem Value}{g:Int->Int->Bool}
  (rule:∀(i j:Int) (t u:Tok) (s:Shared) (Q:Value->Shared->Prop) (E:Value->Shared->Prop),Q (.bool (g i j)) s->wpAny (model X.prog X.w) X.A (f (.int i t) (.int j u)) Q E s) :
  oE X f (L1 λi j=>.bl (g i j)):=by
 intro pins s σ H x y v u Q I rx ry h
 obtain⟨i,j,rfl,rfl,q⟩:=h
 obtain⟨t,rfl⟩:=rx
 obtain⟨t',rfl⟩:=ry
 exact rule i j t t' s _ _ ⟨.bl (g i j),H,I,rfl,q⟩
def aCd(i j:Int):Prop:=0<=j/\j<=1000000/\i.natAbs<2 ^ 64
def lY(i j:Int):Prop:=(-(2 ^ 64)<i/\i<2 ^ 64)\/(-(2 ^ 64)<j/\j<2 ^ 64)
theorem lY.ok{i j:Int}(h:lY i j):IntMulOk i j:=by
 rcases h with ⟨h1,h2⟩ | ⟨h1,h2⟩
 ·exact .of_left (intBits_le_64 h1 h2)
 ·exact .of_right (intBits_le_64 h1 h2)
theorem gX:oE X (binaryOp .Add) (L1 λi j=>.int (i+j)):=aAZ λ_ _ _ _ _ _ _ q=>add_int q
theorem Hw:oE X (binaryOp .Sub) (L1 λi j=>.int (i-j)):=aAZ λ_ _ _ _ _ _ _ q=>sub_int q
theorem qi:oE X (binaryOp .Mult) (rI lY λi j=>.int (i*j)):=opI λ_ _ _ _ _ _ _ hc q=>mul_int q hc.ok
theorem nj:oE X (binaryOp .Mod) (rI (λ_ j=>0<j) λi j=>.int (i%j)):=opI λi j _ _ _ _ _ hc q=>by
 have h1:(0:Int)<j:=hc
 exact mod_int' (by lia) (by rw[Int.fmod_eq_emod_of_nonneg i (by lia)];exact q)
theorem BL:oE X (binaryOp .Pow) (rI aCd λi j=>.int (i ^ j.toNat)):=opI λ_ _ _ _ _ _ _ hc q=>pow_int_small hc.1 hc.2.1 hc.2.2 q
end
def Hl:V->V->Bool
 | .non,.non=>true | .non,.int _=>true | .int _,.non=>true | .non,.bl _=>true | .bl _,.non=>true | .non,.str _=>true | .str _,.non=>true
 | .int _,.int _=>true | .bl _,.bl _=>true | .str _,.str _=>true | .N5 _,.N5 _=>true
 | .int _,.str _=>true | .str _,.int _=>true | .bl _,.str _=>true | .str _,.bl _=>true
 | _,_=>false
def rEq:R2:=λx y H Q=>Hl x y=true/\Q (.bl (decide (x=y))) H
def rNe:R2:=λx y H Q=>Hl x y=true/\Q (.bl (!decide (x=y))) H
theorem Kv{i j:Int}:decide (V.int i=V.int j)=(i==j):=by
 rw[mM]
 simp
theorem RP{i j:Bool}:decide (V.bl i=V.bl j)=(i==j):=by
 rw[mM]
 simp
theorem Ku{i j:Str}:decide (V.str i=V.str j)=(i==j):=by
 rw[mM]
 simp
theorem Kw{i j:Array UInt8}:decide (V.N5 i=V.N5 j)=(i.toList==j.toList):=by
 rw[mM]
 cases i
 cases j
 simp
section
variable {X:Cx}{a b c:Expr}{ta tb tc:TE}{pos:Pos}
theorem bY{pins:List (Addr×Obj)}{σ:St}{H:Hp}{s:Shared}{Q:VK}{k k':Bool}(I:Inv X pins σ H s)(q:Q (.bl k) H)(e:k=k'):EP X pins σ Q (.bool k') s:=by
 subst e
 exact⟨.bl k,H,I,rfl,q⟩
theorem uR:oE X (compareOp .Eq) rEq:=by
 intro pins s σ H x y v u Q I rx ry h
 obtain⟨hs,q⟩:=h
 cases x with
 | non=>
  cases rx
  cases y with
  | non=>cases ry;exact PySem.EqNone.eq_none_none (bY I q (by simp))
  | bl j=>cases ry;exact PySem.EqNone.eq_none_bool (bY I q (by simp))
  | int j=>obtain⟨t',rfl⟩:=ry;exact PySem.EqNone.eq_none_int (bY I q (by simp))
  | str j=>obtain⟨t',rfl⟩:=ry;exact PySem.EqNone.eq_none_str (bY I q (by simp))
  | _=>exact absurd (show false=true from hs) fG
 | bl i=>
  cases rx
  cases y with
  | non=>cases ry;exact PySem.EqNone.eq_bool_none (bY I q (by simp))
  | bl j=>cases ry;exact eq_bool (bY I q RP)
  | str j=>obtain⟨t',rfl⟩:=ry;exact PySem.EqMixed.eq_bool_str (bY I q (by simp))
  | _=>exact absurd (show false=true from hs) fG
 | int i=>
  obtain⟨t,rfl⟩:=rx
  cases y with
  | non=>cases ry;exact PySem.EqNone.eq_int_none (bY I q (by simp))
  | int j=>obtain⟨t',rfl⟩:=ry;exact eq_int (bY I q Kv)
  | str j=>obtain⟨t',rfl⟩:=ry;exact PySem.EqMixed.eq_int_str (bY I q (by simp))
  | _=>exact absurd (show false=true from hs) fG
 | str i=>
  obtain⟨t,rfl⟩:=rx
  cases y with
  | non=>cases ry;exact PySem.EqNone.eq_str_none (bY I q (by simp))
  | bl j=>cases ry;exact PySem.EqMixed.eq_str_bool (bY I q (by simp))
  | int j=>obtain⟨t',rfl⟩:=ry;exact PySem.EqMixed.eq_str_int (bY I q (by simp))
  | str j=>obtain⟨t',rfl⟩:=ry;exact eq_str (bY I q Ku)
  | _=>exact absurd (show false=true from hs) fG
 | N5 i=>
  obtain⟨t,rfl⟩:=rx
  cases y with
  | N5 j=>obtain⟨t',rfl⟩:=ry;exact PySem.W.eq_bytes (bY I q Kw)
  | _=>exact absurd (show false=true from hs) fG
 | _=>cases y <;> exact absurd (show false=true from hs) fG
theorem Wx:oE X (compareOp .NotEq) rNe:=by
 intro pins s σ H x y v u Q I rx ry h
 obtain⟨hs,q⟩:=h
 cases x with
 | non=>
  cases rx
  cases y with
  | non=>cases ry;exact PySem.EqNone.ne_none_none (bY I q (by simp))
  | bl j=>cases ry;exact PySem.EqNone.ne_none_bool (bY I q (by simp))
  | int j=>obtain⟨t',rfl⟩:=ry;exact PySem.EqNone.ne_none_int (bY I q (by simp))
  | str j=>obtain⟨t',rfl⟩:=ry;exact PySem.EqNone.ne_none_str (bY I q (by simp))
  | _=>exact absurd (show false=true from hs) fG
 | bl i=>
  cases rx
  cases y with
  | non=>cases ry;exact PySem.EqNone.ne_bool_none (bY I q (by simp))
  | bl j=>cases ry;exact ne_bool (bY I q (fJ not RP))
  | str j=>obtain⟨t',rfl⟩:=ry;exact PySem.EqMixed.ne_bool_str (bY I q (by simp))
  | _=>exact absurd (show false=true from hs) fG
 | int i=>
  obtain⟨t,rfl⟩:=rx
  cases y with
  | non=>cases ry;exact PySem.EqNone.ne_int_none (bY I q (by simp))
  | int j=>obtain⟨t',rfl⟩:=ry;exact ne_int (bY I q (fJ not Kv))
  | str j=>obtain⟨t',rfl⟩:=ry;exact PySem.EqMixed.ne_int_str (bY I q (by simp))
  | _=>exact absurd (show false=true from hs) fG
 | str i=>
  obtain⟨t,rfl⟩:=rx
  cases y with
  | non=>cases ry;exact PySem.EqNone.ne_str_none (bY I q (by simp))
  | bl j=>cases ry;exact PySem.EqMixed.ne_str_bool (bY I q (by simp))
  | int j=>obtain⟨t',rfl⟩:=ry;exact PySem.EqMixed.ne_str_int (bY I q (by simp))
  | str j=>obtain⟨t',rfl⟩:=ry;exact ne_str (bY I q (fJ not Ku))
  | _=>exact absurd (show false=true from hs) fG
 | N5 i=>
  obtain⟨t,rfl⟩:=rx
  cases y with
  | N5 j=>obtain⟨t',rfl⟩:=ry;exact PySem.W.ne_bytes (bY I q (fJ not Kw))
  | _=>exact absurd (show false=true from hs) fG
 | _=>cases y <;> exact absurd (show false=true from hs) fG
theorem Qp:oE X (compareOp .Lt) (L1 λi j=>.bl (decide (i<j))):=Ux λ_ _ _ _ _ _ _ q=>lt_int q
theorem aAX:oE X (compareOp .LtE) (L1 λi j=>.bl (decide (i<=j))):=Ux λ_ _ _ _ _ _ _ q=>le_int q
theorem Qq:oE X (compareOp .Gt) (L1 λi j=>.bl (decide (j<i))):=Ux λ_ _ _ _ _ _ _ q=>gt_int q
theorem aAY:oE X (compareOp .GtE) (L1 λi j=>.bl (decide (j<=i))):=Ux λ_ _ _ _ _ _ _ q=>ge_int q
theorem dg(b:Expr){op:CmpOp}(h:op≠.In:=by decide)(h2:op≠.NotIn:=by decide):behindInMarks op b=false:=by
 have e1:(op==CmpOp.In)=false:=by cases op <;> first | rfl | exact absurd rfl h
 have e2:(op==CmpOp.NotIn)=false:=by cases op <;> first | rfl | exact absurd rfl h2
 cases b <;> simp[behindInMarks,e1,e2]
theorem Ut{op:CmpOp}{r:R2}(ho:oE X (compareOp op) r)(ha:PE X a ta)(hb:PE X b tb)(hm:behindInMarks op b=false):PE X (.Compare a [op] [b] pos) (Lj r ta tb):=by
 intro pins s σ H Q I h
 exact wpAny_Compare1 (aAa ha hb I h λv u s2 x y H2 I2 rx ry q=>ho pins s2 σ H2 x y v u Q I2 rx ry q) hm
def wq(t:TE):TT:=λσ H Q=>t σ H λx H'=>∃k,x=.bl k/\Q k H'
theorem T7{op:CmpOp}{r:R2}(ho:oE X (compareOp op) r)(ha:PE X a ta)(hb:PE X b tb)(hm:behindInMarks op b=false):PT X (.Compare a [op] [b] pos) (wq (Lj r ta tb)):=by
 intro pins s σ H Q I h
 refine wpAny_isTrue_Compare1 (cU (ha pins s σ H _ I h) λv s1 ⟨x,H1,I1,r1,q1⟩=>cU (hb pins s1 σ H1 _ I1 q1) λu s2 ⟨y,H2,I2,r2,q2⟩=>
  cU (ho pins s2 σ H2 x y v u _ I2 r1 r2 q2) λc s3 ⟨z,H3,I3,r3,k,e,q3⟩=>?_) hm
 subst e
 cases r3
 exact vV ⟨H3,I3,q3⟩
theorem w5:(sizeLine:Nat)<2 ^ 63:=by rw[sizeLine_eq];decide
theorem vals1{x:V}{us:List Value}(r:Vals [x] us):∃u,us=[u]/\RelV x u:=by
 cases r with
 | cons r1 r2=>cases r2;exact⟨_,rfl,r1⟩
theorem R4:fw X (.builtin "abs") (λxs H Q=>∃i,xs=[.int i]/\Q (.int (if i<0 then -i else i)) H):=by
 intro pins s σ H xs us Q I r h
 obtain⟨i,rfl,q⟩:=h
 obtain⟨u,rfl,t,rfl⟩:=vals1 r
 exact call_abs_int λu tk=>⟨.int (if i<0 then -i else i),H,I.tok _,⟨_,rfl⟩,q⟩
end
end L2
namespace L2
open PySem PySem.Spec PyProof.Rows
structure Jp(h:Heap)(x dx C:Addr)(mA:Str->Option Value):Prop where
 obj:h.get? x=some (PySem.W.instObj C dx)
 ns:h.Ns1 dx mA
 ne:dx≠x
theorem MF{h:Heap}{dx:Addr}{mA:Str->Option Value}(n:h.Ns1 dx mA):∃od,h.get? dx=some od/\∀name,PySem.W.lookIn name od=some (mA name):=by
 obtain⟨o,es,ep,ho,hd,hk,_,hm⟩:=n
 refine⟨o,ho,λname=>?_⟩
 have e:=hm name
 unfold nsFind findBy at e
 rw[<-Array.find?_toList]at e
 unfold PySem.W.lookIn
 rw[hd]
 dsimp only
 split
 ·rename_i y q
  rw[q]at e
  exact fJ some e
 ·rename_i q
  rw[q]at e
  have a:es.toList.any (·.refKey)=false:=by
   rw[List.any_eq_false]
   intro y hy
   obtain⟨z,t,hkey⟩:=hk y (Array.mem_toList_iff.mp hy)
   simp[DictEntry.refKey,hkey]
  have a':¬es.toList.any (·.refKey)=true:=by rw[a];exact fG
  rw[aC a']
  exact fJ some e
theorem Jp.look{h:Heap}{x dx C:Addr}{mA:Str->Option Value}(I:Jp h x dx C mA):∃od,PySem.W.InstAt h x (PySem.W.instObj C dx) C (some od)/\∀name,PySem.W.lookIn name od=some (mA name):=
 let ⟨od,ho,hl⟩:=MF I.ns
 ⟨od,⟨I.obj,rfl,rfl,ho⟩,hl⟩
section
variable {prog:Program}{w:World}{A:Around}{E:Value->Shared->Prop}{s:Shared}{K:PySem.W.Frag}{x dx C f:Addr}{mA:Str->Option Value}{name:Str}{v:Value}
theorem get_map{expr:Bool}{Q:Value->Shared->Prop}(X:K.In s.heap)(I:Jp s.heap x dx C mA)(hg:PySem.W.plainGet K C name=true)(hh:PySem.W.hasDictIn K C=true)
  (ha:PySem.W.findIn K (.ref C) name=some none) (hv:mA name=some v) (Va:PySem.W.handedIn v=true) (h:Q v { s with toks:=s.toks+1 }) :
  wpAny (model prog w) A (getAttr (.ref x) name expr) Q E s:=by
 obtain⟨od,J,hl⟩:=I.look
 exact PySem.W.get_value X J (Gs hg).1 (PySem.W.findObj_own hh ha rfl (by rw[hl,hv])) Va h
theorem Rx{pl:Sem Bool}{Q:Value×List Value->Shared->Prop}(X:K.In s.heap)(I:Jp s.heap x dx C mA)(hg:PySem.W.plainGet K C name=true)
  (hf:PySem.W.findIn K (.ref C) name=some (some (.ref f))) (ht:PySem.W.isFn K (.ref f)=true) (hv:mA name=none) (h:Q (.ref f,[.ref x]) s) :
  wpAny (model prog w) A (getMethod (.ref x) name pl) Q E s:=by
 obtain⟨od,J,hl⟩:=I.look
 exact PySem.W.method_fn X J (Gs hg).1 (Gs hg).2 hf (beq_iff_eq.mp ht) (by show(PySem.W.lookIn name od).map (·.isSome)=some false;rw[hl,hv];rfl) h
theorem Tx{ns:List Str}{Q:Unit->Shared->Prop}(X:K.In s.heap)(I:Jp s.heap x dx C mA)
  (hs:PySem.W.findIn K (.ref C) "__setattr__" = some (some (.builtin "object.__setattr__"))) (hp:PySem.W.plainOver K C=true) (ht:PySem.W.takerIn K C name=some none) (hh:PySem.W.hasDictIn K C=true)
  (hw:PySem.Within mA ns) (hsz:ns.length<=sizeLine)
  (h:∀h',Jp h' x dx C (λy=>if y=name then some v else mA y)->Heap.SameBut dx s.heap h'->Q () { s with heap:=h',toks:=s.toks+2 }) :
  wpAny (model prog w) A (setAttr (.ref x) name v) Q E s:=by
 obtain⟨od,J,hl⟩:=I.look
 refine PySem.W.set_plain X J hs (PySem.W.osa_open (s:={ s with toks:=s.toks+1 }) (r:=none) X J hp ht λb=>?_)
 obtain⟨cd,hc,hd'⟩:=PySem.W.any_some hh
 have hx:s.heap.get? x=some ⟨.ref C,some dx,.plain,#[]⟩:=I.obj
 refine ay (aK (ay (ay (wpAny_loadPart hx (ay (PySem.W.Looks.here (s:={ s with toks:=s.toks+1 }) (PySem.W.looks_clsIn X hc) ?_))))))
 rw[hd']
 refine aK (a:=some dx) (ay (aK (ay ?_)))
 refine wpAny_nsSet1 (s:={ s with toks:=s.toks+1 }) I.ns λh' N0 hs2=>?_
 obtain⟨oD,esD,epD,hoD,hdD,hcD⟩:=N0.count (PySem.Within.cons name v hw)
 refine ay (wpAny_lookBehind hoD (by rw[hdD];exact pastItsLine_dict (e8 hcD (by rw[eJ];lia))) ?_)
 exact aK (h _ ⟨(hs2.2 _ (fH I.ne)).trans I.obj,N0,I.ne⟩ hs2)
theorem QK{R:Result->Shared->Prop}{vs:List Value}{kw:List (Str×Value)}(X:K.In s.heap)(hm:PySem.W.makesIn K C=true)
  (hi:PySem.W.findIn K (.ref C) "__init__" = some (some (.ref f))) (hf:PySem.W.typeIn K (.ref f)=some (.type "function"))
  (h:codeAny (model prog w) (A.under (.builtin "type.__call__" ⟨.ref C::vs,kw⟩)) (.call (.ref f) ⟨.ref (s.heap.objs.size+1)::vs,kw⟩) (PySem.W.InitBack (s.heap.objs.size+1) R)
   { s with heap:=(s.heap.push PySem.W.emptyDict).push (PySem.W.instObj C s.heap.objs.size) }) :
  codeAny (model prog w) A (.call (.ref C) ⟨vs,kw⟩) R s:=by
 obtain⟨hh,g,d,t,os⟩:=s
 exact PySem.W.make_core (PySem.W.makes_of X hm) (Gw X hi) (λself=>PySem.W.bind_fn X self hf) (.inl rfl) h
end
def nh(f:Str)(v:V):List (Str×V)->List (Str×V)
 | []=>[(f,v)]
 | (g,x)::r=>if g=f then (g,v)::r else (g,x)::nh f v r
theorem uT(f g:Str)(v:V):∀fs:List (Str×V),(nh f v fs).lookup g=if g=f then some v else fs.lookup g
 | []=>by
  show List.lookup g [(f,v)]=_
  by_cases h:g=f
  ·have hb:(g==f)=true:=beq_iff_eq.mpr h
   simp only[List.lookup,hb,aB h]
  ·have hb:(g==f)=false:=pM.mpr h
   simp only[List.lookup,hb,aC h]
 | (k,x)::r=>by
  have ih:=uT f g v r
  rw[show nh f v ((k,x)::r)=(if k=f then (k,v)::r else (k,x)::nh f v r) from rfl]
  by_cases hk:k=f
  ·rw[aB hk]
   by_cases h:g=k
   ·have hb:(g==k)=true:=beq_iff_eq.mpr h
    simp only[List.lookup,hb,aB (h.trans hk)]
   ·have hb:(g==k)=false:=pM.mpr h
    simp only[List.lookup,hb,aC (λe:g=f=>h (e.trans hk.symm))]
  ·rw[aC hk]
   by_cases h:g=k
   ·have hb:(g==k)=true:=beq_iff_eq.mpr h
    simp only[List.lookup,hb,aC (λe:g=f=>hk (h.symm.trans e))]
   ·have hb:(g==k)=false:=pM.mpr h
    simp only[List.lookup,hb]
    exact ih
theorem t8(f:Str)(v:V):∀fs:List (Str×V),f∈(nh f v fs).map (·.1)/\∀g,g∈fs.map (·.1)->g∈(nh f v fs).map (·.1)
 | []=>⟨by simp[nh],λg h=>by simp at h⟩
 | (k,x)::r=>by
  obtain⟨i1,i2⟩:=t8 f v r
  rw[show nh f v ((k,x)::r)=(if k=f then (k,v)::r else (k,x)::nh f v r) from rfl]
  by_cases hk:k=f
  ·rw[aB hk]
   subst hk
   exact⟨by simp,λg h=>by simpa using h⟩
  ·rw[aC hk]
   refine⟨?_,λg h=>?_⟩
   ·rw[eF]
    exact dN _ i1
   ·rw[eF]at h ⊢
    rcases bT.mp h with e | e
    ·exact bT.mpr (.inl e)
    ·exact dN _ (i2 g e)
theorem uU(f:Str)(v:V):∀fs:List (Str×V),(nh f v fs).length<=fs.length+1
 | []=>by simp[nh]
 | (k,x)::r=>by
  have ih:=uU f v r
  rw[show nh f v ((k,x)::r)=(if k=f then (k,v)::r else (k,x)::nh f v r) from rfl]
  by_cases hk:k=f
  ·rw[aB hk,eJ,eJ];lia
  ·rw[aC hk,eJ,eJ];lia
theorem oO.some_of{v:V}{o:Option Value}(r:oO (some v) o):∃u,o=some u/\RelV v u:=by
 cases o with
 | none=>exact(show False from r).elim
 | some u=>exact⟨u,rfl,r⟩
theorem oO.none_of{o:Option Value}(r:oO none o):o=none:=by
 cases o with
 | none=>rfl
 | some u=>exact(show False from r).elim
theorem Nb{v:V}{u:Value}(r:RelV v u):PySem.W.handedIn u=true:=by
 cases v with
 | non=>cases (show u=Value.none from r);rfl
 | bl b=>cases (show u=Value.bool b from r);rfl
 | int i=>obtain⟨t,e⟩:=(show ∃t,u=Value.int i t from r);cases e;rfl
 | str x=>obtain⟨t,e⟩:=(show ∃t,u=Value.str x t from r);cases e;rfl
 | N5 b=>obtain⟨t,e⟩:=(show ∃t,u=Value.bytes b t from r);cases e;rfl
 | Z4 b=>obtain⟨t,e⟩:=(show ∃t,u=Value.float b t from r);cases e;rfl
 | ref a=>cases (show u=Value.ref a from r);rfl
 | ty n=>cases (show u=Value.type n from r);rfl
section
variable {P:Program}{w:World}{H H':Hp}{h h':Heap}{a C dx:Addr}{fs fs':List (Str×V)}
theorem sf(bE:hX P w H h)(e:H a=some (.ins C dx fs)):∃mA,Jp h a dx C mA/\(∀f,oO (fs.lookup f) (mA f))/\PySem.Within mA (fs.map (·.1))/\fs.length<=1000/\H dx=some (.own a):=by
 obtain⟨d,z,ne,ob,mA,n,r,q⟩:=(show dj P w H h a (.ins C dx fs) from bE a _ e)
 exact⟨mA,⟨ob,n,ne⟩,r,q,z,d⟩
end
structure Cls(K:PySem.W.Frag)(C:Addr):Prop where
 pg:PySem.W.plainGet K C Str.empty=true
 hd:PySem.W.hasDictIn K C=true
 po:PySem.W.plainOver K C=true
 sa:PySem.W.findIn K (.ref C) "__setattr__" = some (some (.builtin "object.__setattr__"))
theorem Cls.get{K:PySem.W.Frag}{C:Addr}(c:Cls K C)(f:Str):PySem.W.plainGet K C f=true:=c.pg
def iG(K:PySem.W.Frag)(C:Addr)(f:Str):Prop:=PySem.W.findIn K (.ref C) f=some none
theorem iG.aAm{K:PySem.W.Frag}{C:Addr}{f:Str}(n:iG K C f):PySem.W.takerIn K C f=some none:=by
 unfold PySem.W.takerIn
 rw[show PySem.W.findIn K (.ref C) f=some none from n]
 rfl
structure Meth(K:PySem.W.Frag)(C:Addr)(m:Str)(f:Addr):Prop where
 at_:PySem.W.findIn K (.ref C) m=some (some (.ref f))
 fn:PySem.W.isFn K (.ref f)=true
 kp:PySem.W.keepIn K (.ref f)=true
section
variable {X:Cx}{pins:List (Addr×Obj)}{σ:St}{H:Hp}{s:Shared}{a C dx:Addr}{fs:List (Str×V)}{f:Str}{v:V}{A:Around}{E:Value->Shared->Prop}
theorem xF{b:Bool}{Q:Value->Shared->Prop}(I:Inv X pins σ H s)(e:H a=some (.ins C dx fs))(c:Cls X.K C)(n:iG X.K C f)(l:fs.lookup f=some v)
  (h:∀u s',Inv X pins σ H s'->RelV v u->Q u s'):wpAny (model X.prog X.w) A (getAttr (.ref a) f b) Q E s:=by
 obtain⟨mA,O,r,_,_,_⟩:=sf I.bE e
 obtain⟨u,hu,ru⟩:=oO.some_of (v:=v) (o:=mA f) (by rw[<-l];exact r f)
 exact get_map I.mL O (c.get f) c.hd n hu (Nb ru) (h u _ (I.tok _) ru)
theorem xE{m:Str}{g:Addr}{pl:Sem Bool}{Q:Value×List Value->Shared->Prop}(I:Inv X pins σ H s)(e:H a=some (.ins C dx fs))(c:Cls X.K C)(k:Meth X.K C m g)(l:fs.lookup m=none)
  (h:Q (.ref g,[.ref a]) s):wpAny (model X.prog X.w) A (getMethod (.ref a) m pl) Q E s:=by
 obtain⟨mA,O,r,_,_,_⟩:=sf I.bE e
 have hn:mA m=none:=oO.none_of (by rw[<-l];exact r m)
 exact Rx I.mL O (c.get m) k.at_ k.fn hn h
theorem Hj{y:V}{u:Value}{Q:Unit->Shared->Prop}(I:Inv X pins σ H s)(e:H a=some (.ins C dx fs))(c:Cls X.K C)(n:iG X.K C f)(hl:fs.length<1000)(ry:RelV y u)
  (h:∀s',Inv X pins σ (upd H a (.ins C dx (nh f y fs))) s'->Q () s'):wpAny (model X.prog X.w) A (setAttr (.ref a) f u) Q E s:=by
 obtain⟨mA,O,r,wi,_,ho⟩:=sf I.bE e
 have hz:(fs.map (·.1)).length<=sizeLine:=by rw[aY,sizeLine_eq];lia
 refine Tx I.mL O c.sa c.po n.aAm c.hd wi hz λh' O' sb=>h _ ?_
 have hd:∃o,h'.get? dx=some o:=let ⟨o,_,_,e',_⟩:=O'.ns;⟨o,e'⟩
 refine I.write (x:=a) (e:=dx) (by rw[e];exact True.intro) (.inr ho) (λb q hb z=>(sb.2 b hb).trans z) hd ?_
 refine⟨by rw[av O.ne];exact ho,?_,O.ne,O'.obj,_,O'.ns,λg=>?_,λg hg=>?_⟩
 ·have:=uU f y fs;lia
 ·show oO ((nh f y fs).lookup g) (if g=f then some u else mA g)
  rw[uT]
  by_cases q:g=f
  ·rw[aB q,aB q];exact ry
  ·rw[aC q,aC q];exact r g
 ·by_cases q:g=f
  ·rw[q];exact(t8 f y fs).1
  ·refine(t8 f y fs).2 g (wi g λz=>hg ?_)
   show(if g=f then some u else mA g)=none
   rw[aC q];exact z
theorem Inv.made(I:Inv X pins σ H s):Inv X pins σ (upd (upd H s.heap.objs.size (.own (s.heap.objs.size+1))) (s.heap.objs.size+1) (.ins C s.heap.objs.size []))
  { s with heap:=(s.heap.push PySem.W.emptyDict).push (PySem.W.instObj C s.heap.objs.size) }:=by
 have e1:(s.heap.push PySem.W.emptyDict).get? s.heap.objs.size=some PySem.W.emptyDict:=cI s.heap rfl
 have e2:((s.heap.push PySem.W.emptyDict).push (PySem.W.instObj C s.heap.objs.size)).get? (s.heap.objs.size+1)=some (PySem.W.instObj C s.heap.objs.size):=by
  have:=cI (s.heap.push PySem.W.emptyDict) (o:=PySem.W.instObj C s.heap.objs.size) rfl
  rwa [kZ]at this
 have e3:(s.heap.push PySem.W.emptyDict).Ns s.heap.objs.size (λ_=>none):=⟨PySem.W.emptyDict,#[],_,e1,rfl,(λe he=>absurd he (by simp)),λ_=>rfl⟩
 have I1:=I.laid (a:=s.heap.objs.size) (o:=.own (s.heap.objs.size+1)) (h':=s.heap.push PySem.W.emptyDict) (t':=s.toks) (λb u q=>bZ _ q) (bx _) ⟨_,e1⟩
 refine I1.laid (a:=s.heap.objs.size+1) (o:=.ins C s.heap.objs.size []) (t':=s.toks) (λb u q=>bZ _ q) (Nat.le_of_eq (kZ _ _)) ?_
 have ne:s.heap.objs.size≠s.heap.objs.size+1:=bH (tF _)
 refine⟨by rw[av ne,ah],dM _,ne,e2,λ_=>none,(Heap.Ns1.of_empty e3).at λo q=>bZ _ q,λ_=>True.intro,λy hy=>absurd rfl hy⟩
theorem Wc{prog:Program}{w:World}{env:Env}{e:Expr}{f:Str}{pos:Pos}{s:Shared}{Q:Value->Shared->Prop}(hb:attributeBase e f env (eval e env)=eval e env)
  (h:wpAny (model prog w) A (eval e env) (λo s₁=>wpAny (model prog w) A (getAttr o f true) Q E s₁) E s):wpAny (model prog w) A (eval (.Attribute e f pos) env) Q E s:=
 Attribute_any_ h (by rw[arm_eval_Attribute,hb])
end
def Ln(K:PySem.W.Frag)(ta:TE)(f:Str):TE:=λσ H Q=>ta σ H λx H1=>∃a C dx fs v,x=.ref a/\H1 a=some (.ins C dx fs)/\Cls K C/\iG K C f/\fs.lookup f=some v/\Q v H1
def LK(K:PySem.W.Frag)(ta tv:TE)(f:Str):TS:=λD σ H=>tv σ H λy H1=>ta σ H1 λx H2=>∃a C dx fs,x=.ref a/\H2 a=some (.ins C dx fs)/\Cls K C/\iG K C f/\fs.length<1000/\
 D.nx σ (upd H2 a (.ins C dx (nh f y fs)))
section
variable {X:Cx}{o e value:Expr}{f:Str}{pos pos' Ou:Pos}{ta tv:TE}
theorem Yx(he:PE X e ta)(hb:attributeBase e f X.env (eval e X.env)=eval e X.env):PE X (.Attribute e f pos) (Ln X.K ta f):=by
 intro pins s σ H Q I h
 refine Wc hb (cU (he pins s σ H _ I h) λu s1 ⟨x,H1,I1,rx,a,C,dx,fs,v,ex,ea,c,n,l,q⟩=>?_)
 subst ex
 obtain rfl:u=Value.ref a:=rx
 exact xF I1 ea c n l λu' s2 I2 ru=>⟨v,H1,I2,ru,q⟩
theorem Yl(ha:PE X o ta)(hv:PE X value tv)(hs:swapsWith value (some (.Attribute o f pos')) pos.line X.env=pure false):PS X (.Assign [.Attribute o f pos'] value pos) (LK X.K ta tv f):=by
 intro pins s σ H D I h
 refine plainObj_wpAny_Assign_Attribute (cU (hv pins s σ H _ I h) λu s1 ⟨y,H1,I1,ry,q⟩=>cU (ha pins s1 σ H1 _ I1 q) λov s2 ⟨x,H2,I2,rx,a,C,dx,fs,ex,ea,c,n,l,q2⟩=>?_) hs
 subst ex
 obtain rfl:ov=Value.ref a:=rx
 exact Hj I2 ea c n l ry λs3 I3=>⟨σ,_,I3,q2⟩
theorem WD{pl:Sem Bool}{m:Str}{apos:Pos}{args:List Expr}{pins:List (Addr×Obj)}{s:Shared}{σ:St}{H:Hp}{Q:Value->Shared->Prop}{te:TE}(he:PE X e te)(I:Inv X pins σ H s)
  (h:te σ H λx H1=>∃a C dx fs g,x=.ref a/\H1 a=some (.ins C dx fs)/\Cls X.K C/\Meth X.K C m g/\fs.lookup m=none/\
   ∀s1,Inv X pins σ H1 s1->wpAny (model X.prog X.w) X.A (callWith pos (.ref g) [.ref a] (backTo pos (starEach args X.env)) (backToKw pos (keywordEach [] X.env))) Q X.xe s1)
  (ht:eval (.Call (.Attribute e m apos) args [] pos) X.env=(do
   let ov <-eval e X.env
   standAt apos.atName
   let (f,first) <-holding [ov] (getMethod ov m pl)
   callWith pos f first (backTo pos (starEach args X.env)) (backToKw pos (keywordEach [] X.env)))) :
  wpAny (model X.prog X.w) X.A (eval (.Call (.Attribute e m apos) args [] pos) X.env) Q X.xe s:=by
 refine Bf (pl:=pl) (cU (he pins s σ H _ I h) λu s1 ⟨x,H1,I1,rx,a,C,dx,fs,g,ex,ea,c,k,l,q⟩=>?_) ht
 subst ex
 obtain rfl:u=Value.ref a:=rx
 exact xE I1 ea c k l (q s1 I1)
end
section
variable {X:Cx}{pins:List (Addr×Obj)}{σ:St}{H:Hp}{s:Shared}{A:Around}{E:Value->Shared->Prop}{Q:Value->Shared->Prop}{c:Value}{b:Bool}
inductive sM (K:PySem.W.Frag) (H:Hp):V->Value->Prop where
 | non:sM K H .non (.type "NoneType")
 | bl (x:Bool):sM K H (.bl x) (.type "bool")
 | int (i:Int):sM K H (.int i) (.type "int")
 | str (x:Str):sM K H (.str x) (.type "str")
 | Z4 (x:UInt64):sM K H (.Z4 x) (.type "float")
 | lst {a:Addr} {xs:List V} (e:H a=some (.lst xs)):sM K H (.ref a) (.type "list")
 | zS {a:Addr} {o:Obj} {xs:List V} (e:H a=some (.zS o (.lst xs))):sM K H (.ref a) (.type "list")
 | tup {a:Addr} {xs:List V} (e:H a=some (.tup xs)):sM K H (.ref a) (.type "tuple")
 | dK {a:Addr} {aL:List (Key×V)} (e:H a=some (.dK aL)):sM K H (.ref a) (.type "dict")
 | dT {a:Addr} {aL:List (List Key×V)} (e:H a=some (.dT aL)):sM K H (.ref a) (.type "dict")
 | ins {a C dx:Addr} {fs:List (Str×V)} (e:H a=some (.ins C dx fs)) (cl:Cls K C) (ha:PySem.W.findIn K (.ref C) "__class__" = some (some (.builtin "object.__class__")))
   (hn:PySem.W.specialIn K (.builtin "object.__class__") "__get__" = some (some (.builtin "getset_descriptor.__get__"))) (htk:PySem.W.takesIn K (.builtin "object.__class__")=some true)
   (hm:PySem.W.mroIn K C (.type "object")=some true):sM K H (.ref a) (.ref C)
theorem M5{x:V}{u t:Value}(I:Inv X pins σ H s)(rx:RelV x u)(ty:sM X.K H x t)(e:PySem.W.kitOne X.K t c=some b)(h:∀tk,Q (.bool b) { s with toks:=tk }) :
  wpAny (model X.prog X.w) A (call (.builtin "isinstance") [u,c]) Q E s:=by
 cases ty with
 | non=>cases (show u=Value.none from rx);exact mP PySem.W.kitx_none I.mL True.intro e (λz=>nomatch z) h
 | bl y=>cases (show u=Value.bool y from rx);exact mP PySem.W.kitx_bool I.mL True.intro e (λz=>nomatch z) h
 | int i=>obtain⟨t,q⟩:=(show ∃t,u=Value.int i t from rx);cases q;exact mP PySem.W.kitx_int I.mL True.intro e (λz=>nomatch z) h
 | str y=>obtain⟨t,q⟩:=(show ∃t,u=Value.str y t from rx);cases q;exact mP PySem.W.kitx_str I.mL True.intro e (λz=>nomatch z) h
 | Z4 y=>obtain⟨t,q⟩:=(show ∃t,u=Value.float y t from rx);cases q;exact mP PySem.W.kitx_float I.mL True.intro e (λz=>nomatch z) h
 | @lst a xs ea=>
  cases (show u=Value.ref a from rx)
  obtain⟨_,_,n,_,h1⟩:=(show dj X.prog X.w H s.heap a (.lst xs) from I.bE a _ ea)
  exact mP PySem.W.kitx_list I.mL ⟨_,h1,rfl⟩ e (λz=>nomatch z) h
 | @zS a ob xs ea=>
  cases (show u=Value.ref a from rx)
  obtain⟨_,_,_,n,_,h1⟩:=(show dj X.prog X.w H s.heap a (.zS ob (.lst xs)) from I.bE a _ ea)
  exact mP PySem.W.kitx_list I.mL ⟨_,h1,rfl⟩ e (λz=>nomatch z) h
 | @tup a xs ea=>
  cases (show u=Value.ref a from rx)
  obtain⟨_,_,_,p⟩:=(show dj X.prog X.w H s.heap a (.tup xs) from I.bE a _ ea)
  obtain⟨o,h1,h2,_⟩:=p
  exact mP PySem.W.kitx_tuple I.mL ⟨o,h1,h2⟩ e (λz=>nomatch z) h
 | @dK a aL ea=>
  cases (show u=Value.ref a from rx)
  obtain⟨_,_,vs,_,p⟩:=(show dj X.prog X.w H s.heap a (.dK aL) from I.bE a _ ea)
  obtain⟨o,es,ep,h1,h2,_⟩:=p
  exact mP PySem.W.kitx_dict I.mL ⟨o,h1,h2.1⟩ e (λz=>nomatch z) h
 | @dT a aL ea=>
  cases (show u=Value.ref a from rx)
  obtain⟨_,_,xs,_,o,es,ep,h1,h2,_⟩:=(show dj X.prog X.w H s.heap a (.dT aL) from I.bE a _ ea)
  exact mP PySem.W.kitx_dict I.mL ⟨o,h1,h2.1⟩ e (λz=>nomatch z) h
 | @ins a C dx fs ea cl ha hn htk hm=>
  cases (show u=Value.ref a from rx)
  obtain⟨mA,O,_⟩:=sf I.bE ea
  obtain⟨od,J,_⟩:=O.look
  exact mP (PySem.W.kitx_own (cl.get _) cl.hd ha hn htk hm) I.mL J e (λz=>nomatch z) h
end
end L2
namespace L2
open PySem PySem.Spec PyProof.Rows
structure cC(k:Nat)(A:Around):Prop where
 hd:A.handled=none
 dp:A.depth+3*k+5<recursionLimit
 un:A.units+16*k+200<cLine
theorem cC.mono{j k:Nat}{A:Around}(r:cC k A)(h:j<=k):cC j A:=⟨r.hd,by have:=r.dp;lia,by have:=r.un;lia⟩
theorem cC.deeper{k:Nat}{A:Around}(r:cC (k+1) A)(env:Env):cC k (A.deeper env):=
 ⟨r.hd,by have:=r.dp;show A.depth+1+3*k+5<_;lia,by have:=r.un;show A.units+3+16*k+200<_;lia⟩
theorem cC.in1{k:Nat}{A:Around}(r:cC (k+1) A):cC k A.in1:=
 ⟨r.hd,by have:=r.dp;show A.depth+3*k+5<_;lia,by have:=r.un;show A.units+1+16*k+200<_;lia⟩
theorem HS{A:Around}{C:Addr}{us:List Value}{kw:List (Str×Value)}:(A.under (.builtin "type.__call__" ⟨.ref C::us,kw⟩)).depth=A.depth+1:=by
 first | rfl | simp[Around.under,Code.weight,Code.isCreation,Code.isGuard,Code.isCaller,Code.frames,Code.isFrame,guardIds]
theorem HR{A:Around}{C:Addr}{us:List Value}{kw:List (Str×Value)}:(A.under (.builtin "type.__call__" ⟨.ref C::us,kw⟩)).units=A.units+1:=by
 first | rfl | simp[Around.under,Code.cUnits,Code.frames,Code.isFrame]
theorem cC.make{k:Nat}{A:Around}(r:cC (k+1) A)(C:Addr)(us:List Value)(kw:List (Str×Value)):cC k (A.under (.builtin "type.__call__" ⟨.ref C::us,kw⟩)):=
 ⟨r.hd,by have:=r.dp;rw[HS];lia,by have:=r.un;rw[HR];lia⟩
theorem cC.depth{k:Nat}{A:Around}(r:cC k A):A.depth<recursionLimit:=by have:=r.dp;lia
theorem cC.units{k:Nat}{A:Around}(r:cC k A):A.units+64<cLine:=by have:=r.un;lia
theorem cC.iD{k:Nat}{A:Around}(r:cC k A):A.units<cLine:=by have:=r.un;lia
def Dt:TA:=λ_ H Q=>Q [] H
def uQ(ta:TE)(tr:TA):TA:=λσ H Q=>ta σ H λx H1=>tr σ H1 λxs H2=>Q (x::xs) H2
section
variable {X:Cx}{e:Expr}{es:List Expr}{te:TE}{t:TA}{pos:Pos}
theorem Hu:PA X [] Dt:=λ_ _ _ _ H Q I h=>Calls.spliced_nil ⟨[],H,I,.nil,h⟩
theorem vz(ha:PE X e te)(hr:PA X es t)(hs:starEach (e::es) X.env=(false,eval e X.env)::starEach es X.env:=by rfl):PA X (e::es) (uQ te t):=by
 intro pos pins s σ H Q I h
 rw[hs]
 show wpAny _ _ (spliced ((false,eval e X.env)::backTo pos (starEach es X.env))) _ _ s
 refine Calls.spliced_cons (cU (ha pins s σ H _ I h) λu s1 ⟨x,H1,I1,r1,q1⟩=>?_)
 exact cU (hr pos pins s1 σ H1 _ I1 q1) λus s2 ⟨xs,H2,I2,r2,q2⟩=>⟨x::xs,H2,I2,.cons r1 r2,q2⟩
def G9(t:TA):TE:=λσ H Q=>t σ H λxs H1=>xs.length<=sizeLine/\∀p,H1 p=none->Q (.ref p) (upd H1 p (.tup xs))
def Hc(t:TA):TE:=λσ H Q=>t σ H λxs H1=>xs.length<=sizeLine/\∀p,H1 p=none->Q (.ref p) (upd H1 p (.lst xs))
theorem Yr{x1}(h:PA X es t):PE X (.Tuple es x1 pos) (G9 t):=by
 intro pins s σ H Q I hq
 refine wpAny_Tuple_spliced (cU (h pos pins s σ H _ I hq) λus s1 ⟨xs,H1,I1,r,z,q⟩=>⟨by rw[<-r.length];exact z,?_⟩)
 have hf:H1 s1.heap.objs.size=none:=I1.bE.fresh (bx _)
 refine⟨.ref s1.heap.objs.size,upd H1 s1.heap.objs.size (.tup xs),I1.laid (t':=s1.toks) (λb u e=>bZ _ e) (bx _) ?_,rfl,q _ hf⟩
 exact⟨z,us,r,⟨_,cI _ rfl,rfl,_,rfl⟩⟩
theorem Yv(h:PA X es t):PE X (.List es pos) (Hc t):=by
 intro pins s σ H Q I hq
 refine wpAny_List_spliced (cU (h pos pins s σ H _ I hq) λus s1 ⟨xs,H1,I1,r,z,q⟩=>⟨by rw[<-r.length];exact z,?_⟩)
 have hf:H1 s1.heap.objs.size=none:=I1.bE.fresh (bx _)
 refine⟨.ref s1.heap.objs.size,upd H1 s1.heap.objs.size (.lst xs),I1.laid (t':=s1.toks) (λb u e=>bZ _ e) (bx _) ?_,rfl,q _ hf⟩
 exact⟨z,us,0,r,cI _ rfl⟩
end
abbrev Sp:=List V->Hp->VK->XK->Prop
abbrev K7:=List Env->Hp->Shared->XK->Value->Shared->Prop
structure qK(P:Program)(w:World)(K:PySem.W.Frag)(mg:Str->Option Value)(base:Heap)(A:Around)(outer:List Env)(s:Shared)(H:Hp):Prop where
 frames:A.frames=some outer
 mod:Mod K mg base
 bs:∀b o,base.get? b=some o->s.heap.get? b=some o/\H b=none
 Nt:base.objs.size<=s.heap.objs.size
 oK:s.heap.FunFrames base outer
 N3:∀b∈o7 outer,H b=none
 bE:hX P w H s.heap
 bare:AllBare s.gens
def CE(outer:List Env)(P:Program)(w:World)(H:Hp)(s:Shared)(Q:VK)(u:Value)(s':Shared):Prop:=
 ∃v H',s'.os=s.os/\AllBare s'.gens/\Un (o7 outer) [] H H' s.heap s'.heap/\hX P w H' s'.heap/\RelV v u/\Q v H'
def CR(CX:K7)(outer:List Env)(P:Program)(w:World)(H:Hp)(s:Shared)(Q:VK)(E:XK)(r:Result)(s':Shared):Prop:=
 match r with
 | .ok (.ret u)=>CE outer P w H s Q u s'
 | .ok _=>False
 | .error e=>CX outer H s E e s'
structure bS(P:Program)(w:World)(K:PySem.W.Frag)(mg:Str->Option Value)(base:Heap)(CX:K7)(k:Nat)(f:Addr)(fd:FuncData)(ps:List Str)(sp:Sp):Prop where
 len:∀vs H Q E,sp vs H Q E->vs.length=ps.length
 run:∀(A:Around) (outer:List Env) (s:Shared) (H:Hp) (args:Args) (us:List Value) (vs:List V) (Q:VK) (E:XK),cC k A->qK P w K mg base A outer s H->BindsTo s fd args (ps.zip us)->Vals vs us->sp vs H Q E->
  codeAny (model P w) A (.call (.ref f) args) (CR CX outer P w H s Q E) s
theorem qK.make{P:Program}{w:World}{K:PySem.W.Frag}{mg:Str->Option Value}{base:Heap}{A:Around}{outer:List Env}{s:Shared}{H:Hp}(e:qK P w K mg base A outer s H)(C:Addr)(us:List Value)(kw:List (Str×Value)) :
  qK P w K mg base (A.under (.builtin "type.__call__" ⟨.ref C::us,kw⟩)) outer s H:=⟨by first | exact e.frames | (simpa [Around.under,Code.envs,Code.isFrame,pushEnvs]using e.frames),e.mod,e.bs,e.Nt,e.oK,e.N3,e.bE,e.bare⟩
theorem qK.in1{P:Program}{w:World}{K:PySem.W.Frag}{mg:Str->Option Value}{base:Heap}{A:Around}{outer:List Env}{s:Shared}{H:Hp}(e:qK P w K mg base A outer s H) :
  qK P w K mg base A.in1 outer s H:=⟨e.frames,e.mod,e.bs,e.Nt,e.oK,e.N3,e.bE,e.bare⟩
section
variable {X:Cx}{pins:List (Addr×Obj)}{σ:St}{H:Hp}{s s':Shared}
theorem Inv.Nh(I:Inv X pins σ H s):qK X.prog X.w X.K X.mg X.base X.A X.stack s H:=
 ⟨I.ok.frames,I.ok.mod,I.bs,e8 I.ok.Nt I.sz,I.stack,I.Bo,I.bE,I.bare⟩
theorem Inv.after{Q:VK}{u:Value}(I:Inv X pins σ H s)(h:CE X.stack X.prog X.w H s Q u s'):EP X pins σ Q u s':=by
 obtain⟨v,H',os,bare,un,bE,r,q⟩:=h
 obtain⟨hh,g,d,t,os'⟩:=s'
 obtain rfl:os'=s.os:=os
 exact⟨v,H',I.call (h':=hh) (g':=g) (d':=d) (t':=t) (ch:=[]) un bE bare (λb z=>absurd z (by simp)),r,q⟩
end
def wB(sp:Sp)(ug:List V)(E:XK)(t:TA):TE:=λσ H Q=>t σ H λvs H1=>sp (vs++ug) H1 Q E
def yV(C:Addr)(m:Str)(sp:Sp)(ug:List V)(E:XK)(ta:TE)(t:TA):TE:=λσ H Q=>ta σ H λx H1=>∃a dx fs,x=.ref a/\H1 a=some (.ins C dx fs)/\fs.lookup m=none/\
 t σ H1 λvs H2=>sp (x::(vs++ug)) H2 Q E
def yW(C:Addr)(sp:Sp)(ug:List V)(E:XK)(t:TA):TE:=λσ H Q=>t σ H λvs H1=>∀x dx,H1 x=none->H1 dx=none->dx≠x->
 sp (.ref x::(vs++ug)) (upd (upd H1 dx (.own x)) x (.ins C dx [])) (λv H2=>v=.non/\Q (.ref x) H2) E
def Binds(K:PySem.W.Frag)(fd:FuncData)(ps:List Str)(ds:List Value):Prop:=
 ∀(s:Shared) (us:List Value),K.In s.heap->(us++ds).length=ps.length->BindsTo s fd ⟨us,[]⟩ (ps.zip (us++ds))
theorem Binds.all{K:PySem.W.Frag}{fd:FuncData}{ps:List Str}(h:∀us:List Value,us.length=ps.length->bindArgs fd ⟨us,[]⟩=pure (ps.zip us)):Binds K fd ps []:=λs us _ hl=>by
 rw[fZ]at hl ⊢
 exact .of_eq (h us hl)
def Passes(CX:K7)(X:Cx)(E:XK):Prop:=∀(pins:List (Addr×Obj)) (σ:St) (H:Hp) (s:Shared) (e:Value) (s':Shared),Inv X pins σ H s->CX X.stack H s E e s'->X.xe e s'
section
variable {X:Cx}{CX:K7}{k:Nat}{f C:Addr}{fd:FuncData}{ps:List Str}{sp:Sp}{ug:List V}{ds:List Value}{E:XK}{x m:Str}{p pos apos:Pos}{e o:Expr}{es:List Expr}{ta:TE}{t:TA}
theorem Pk{pins:List (Addr×Obj)}{σ:St}{H:Hp}{s:Shared}{Q:VK}{us:List Value}{vs:List V}(F:bS X.prog X.w X.K X.mg X.base CX k f fd ps sp)(hr:cC k X.A)(hb:Binds X.K fd ps ds)(hd:Vals ug ds)(hx:Passes CX X E)
  (I:Inv X pins σ H s) (r:Vals vs us) (h:sp (vs++ug) H Q E):wpAny (model X.prog X.w) X.A (call (.ref f) us) (EP X pins σ Q) X.xe s:=by
 have r2:Vals (vs++ug) (us++ds):=r.append hd
 have hl:(us++ds).length=ps.length:=by rw[<-r2.length];exact F.len _ _ _ _ h
 refine j3 (ko (F.run X.A X.stack s H ⟨us,[]⟩ (us++ds) (vs++ug) Q E hr I.Nh (hb s us I.mL hl) r2 h) λr s' hq=>?_)
 cases r with
 | error e=>exact hx pins σ H s e s' I hq
 | ok fl=>
  cases fl with
  | ret u=>exact I.after hq
  | next=>exact False.elim hq
  | brk=>exact False.elim hq
  | cont=>exact False.elim hq
theorem vy(F:bS X.prog X.w X.K X.mg X.base CX k f fd ps sp)(hr:cC k X.A)(hg:Gl X x)(hm:X.mg x=some (.ref f))(hk:PySem.W.keepIn X.K (.ref f)=true)(hb:Binds X.K fd ps ds)(hd:Vals ug ds)(hx:Passes CX X E)
  (ha:PA X (e::es) t) (uc:(x==("__debug__" : Str))=false:=by decide) (he:starEach (e::es) X.env=(false,eval e X.env)::starEach es X.env:=by rfl) (kJ:(backTo pos (starEach es X.env)).any (·.1)=false:=by rfl) :
  PE X (.Call (.Name x p) (e::es) [] pos) (wB sp ug E t):=by
 intro pins s σ H Q I h
 refine uL (oz I hg hm ?_ uc)
 refine v5 (h₀:=X.base) I.ok.mod.Y2 hk (cU (ha pos pins s σ H _ I h) λus s1 ⟨vs,H1,I1,r,q⟩=>⟨I1.mL,?_⟩) he kJ
 exact Pk F hr hb hd hx I1 r q
theorem Uo{pl:Sem Bool}(he:PE X o ta)(c:Cls X.K C)(hm:Meth X.K C m f)(F:bS X.prog X.w X.K X.mg X.base CX k f fd ps sp)(hr:cC k X.A)(hb:Binds X.K fd ps ds)(hd:Vals ug ds)(hx:Passes CX X E)(ha:PA X (e::es) t)
  (Q5:starEach (e::es) X.env=(false,eval e X.env)::starEach es X.env:=by rfl) (kJ:(backTo pos (starEach es X.env)).any (·.1)=false:=by rfl)
  (ht:eval (.Call (.Attribute o m apos) (e::es) [] pos) X.env=(do
   let ov <-eval o X.env
   standAt apos.atName
   let (f,first) <-holding [ov] (getMethod ov m pl)
   callWith pos f first (backTo pos (starEach (e::es) X.env)) (backToKw pos (keywordEach [] X.env))):=by rfl) :
  PE X (.Call (.Attribute o m apos) (e::es) [] pos) (yV C m sp ug E ta t):=by
 intro pins s σ H Q I h
 refine Bf (pl:=pl) (cU (he pins s σ H _ I h) λu s1 ⟨x,H1,I1,rx,a,dx,fs,ex,ea,l,q⟩=>?_) ht
 subst ex
 obtain rfl:u=Value.ref a:=rx
 refine xE I1 ea c hm l ?_
 refine v5 (first:=[.ref a]) (h₀:=X.base) I.ok.mod.Y2 hm.kp (cU (ha pos pins s1 σ H1 _ I1 q) λus s2 ⟨vs,H2,I2,r,q2⟩=>⟨I2.mL,?_⟩) Q5 kJ
 exact Pk (us:=.ref a::us) (vs:=.ref a::vs) F hr hb hd hx I2 (.cons rfl r) q2
structure Mk(K:PySem.W.Frag)(C f:Addr):Prop where
 makes:PySem.W.makesIn K C=true
 init:PySem.W.findIn K (.ref C) "__init__" = some (some (.ref f))
 fn:PySem.W.isFn K (.ref f)=true
 kp:PySem.W.keepIn K (.ref C)=true
theorem Pj{pins:List (Addr×Obj)}{σ:St}{H:Hp}{s:Shared}{Q:VK}{us:List Value}{vs:List V}(M:Mk X.K C f)(F:bS X.prog X.w X.K X.mg X.base CX k f fd ps sp)(hr:cC (k+1) X.A)(hb:Binds X.K fd ps ds)(hd:Vals ug ds)
  (hx:Passes CX X E) (I:Inv X pins σ H s) (r:Vals vs us)
  (h:∀x dx,H x=none->H dx=none->dx≠x->sp (.ref x::(vs++ug)) (upd (upd H dx (.own x)) x (.ins C dx [])) (λv H2=>v=.non/\Q (.ref x) H2) E) :
  wpAny (model X.prog X.w) X.A (call (.ref C) us) (EP X pins σ Q) X.xe s:=by
 have hq:=h (s.heap.objs.size+1) s.heap.objs.size (I.bE.fresh (iY _)) (I.bE.fresh (bx _)) (bH (tF _))
 have I2:=Inv.made (C:=C) I
 have r2:Vals (V.ref (s.heap.objs.size+1)::(vs++ug)) (Value.ref (s.heap.objs.size+1)::(us++ds)):=.cons rfl (r.append hd)
 have hl:(Value.ref (s.heap.objs.size+1)::us++ds).length=ps.length:=by
  have e:=r2.length
  rw[F.len _ _ _ _ hq]at e
  exact e.symm
 refine j3 (QK (f:=f) I.mL M.makes M.init (beq_iff_eq.mp M.fn) (ko (F.run _ X.stack _ _ ⟨Value.ref (s.heap.objs.size+1)::us,[]⟩ (Value.ref (s.heap.objs.size+1)::(us++ds)) _ _ E (hr.make C us [])
  (I2.Nh.make C us []) (hb _ (Value.ref (s.heap.objs.size+1)::us) I2.mL hl) r2 hq) λr s' M7=>?_))
 cases r with
 | error e=>exact hx pins σ _ _ e s' I2 M7
 | ok fl=>
  cases fl with
  | ret u=>
   obtain⟨v,H',I3,rv,ev,q3⟩:=I2.after M7
   subst ev
   exact⟨rv,⟨V.ref (s.heap.objs.size+1),H',I3,rfl,q3⟩⟩
  | next=>exact False.elim M7
  | brk=>exact False.elim M7
  | cont=>exact False.elim M7
theorem Uq(M:Mk X.K C f)(F:bS X.prog X.w X.K X.mg X.base CX k f fd ps sp)(hr:cC (k+1) X.A)(hg:Gl X x)(hm:X.mg x=some (.ref C))(hb:Binds X.K fd ps ds)(hd:Vals ug ds)(hx:Passes CX X E)
  (ha:PA X (e::es) t) (uc:(x==("__debug__" : Str))=false:=by decide) (he:starEach (e::es) X.env=(false,eval e X.env)::starEach es X.env:=by rfl) (kJ:(backTo pos (starEach es X.env)).any (·.1)=false:=by rfl) :
  PE X (.Call (.Name x p) (e::es) [] pos) (yW C sp ug E t):=by
 intro pins s σ H Q I h
 refine uL (oz I hg hm ?_ uc)
 refine v5 (h₀:=X.base) I.ok.mod.Y2 M.kp (cU (ha pos pins s σ H _ I h) λus s1 ⟨vs,H1,I1,r,q⟩=>⟨I1.mL,?_⟩) he kJ
 exact Pj M F hr hb hd hx I1 r q
end
def PK(X:Cx)(kws:List Keyword)(t:TA):Prop:=
 ∀(pos:Pos) (pins:List (Addr×Obj)) (s:Shared) (σ:St) (H:Hp) (Q:List V->Hp->Prop),Inv X pins σ H s->t σ H Q->wpAny (model X.prog X.w) X.A (evalAll ((backToKw pos (keywordEach kws X.env)).map (·.2))) (AP X pins σ Q) X.xe s
section
variable {X:Cx}{CX:K7}{k:Nat}{f C:Addr}{fd:FuncData}{ps ks:List Str}{sp:Sp}{E:XK}{x m:Str}{p pos apos kpos:Pos}{e o:Expr}{es:List Expr}{kws:List Keyword}{te ta:TE}{t tk:TA}{nm:Option Str}
theorem Yo:PK X [] Dt:=λ_ _ _ _ H Q I h=>wpAny_evalAll_nil ⟨[],H,I,.nil,h⟩
theorem Uk(ha:PE X e te)(hr:PK X kws t):PK X (⟨nm,e,kpos⟩::kws) (uQ te t):=by
 intro pos pins s σ H Q I h
 show wpAny _ _ (evalAll ((do let v <-eval e X.env;standAt pos;pure v)::(backToKw pos (keywordEach kws X.env)).map (·.2))) _ _ s
 refine wpAny_evalAll_cons (ay (cU (ha pins s σ H _ I h) λu s1 ⟨x,H1,I1,r1,q1⟩=>ay (sY (aK ?_))))
 exact cU (hr pos pins s1 σ H1 _ I1 q1) λus s2 ⟨xs,H2,I2,r2,q2⟩=>⟨x::xs,H2,I2,.cons r1 r2,q2⟩
variable {g:List Value->List Value->List Value}{gV:List V->List V->List V}
end
structure aX(N P:List Str)(sc:Scope):Prop where
 kind:sc.kind=.function
 co:sc.isCoroutine=false
 gen:sc.isGenerator=false
 nd:N.Nodup
 pre:N.take P.length=P
 par:∀x∈P,sc.names.lookup x=some .local\/sc.names.lookup x=some .cell
 YH:∀y∈sc.names,y.2≠.free
theorem zZ{kindOf:Str->Option NameKind}{x:Str}:∀{binds:List (Str×Value)} {m:Str->Option Value},(∀v,(x,v)∉binds)->bindL kindOf binds m x=m x
 | [],_,_=>rfl
 | (n,v)::r,m,h=>by
  unfold bindL
  rw[zZ λw hw=>h w (dN _ hw)]
  split
  ·have:x≠n:=by rintro rfl;exact h v du
   simp[this]
  ·rfl
theorem z5{kindOf:Str->Option NameKind}{x:Str}:∀{binds:List (Str×Value)} {m:Str->Option Value},(∀v,(x,v)∉binds)->bindC kindOf binds m x=m x
 | [],_,_=>rfl
 | (n,v)::r,m,h=>by
  unfold bindC
  rw[z5 λw hw=>h w (dN _ hw)]
  split
  ·rfl
  ·have:x≠n:=by rintro rfl;exact h v du
   simp[this]
theorem z4{kindOf:Str->Option NameKind}{x:Str}{v:Value}:∀{P:List Str} {vs:List Value} {i:Nat} {m:Str->Option Value},P.Nodup->P[i]?=some x->vs[i]?=some v->kindOf x=some .local->
  bindL kindOf (P.zip vs) m x=some v
 | [],_,_,_,_,h,_,_=>by simp at h
 | _::_,[],_,_,_,_,h,_=>by simp at h
 | p::P,w::vs,0,m,nd,h1,h2,hk=>by
  simp at h1 h2;subst h1;subst h2
  show bindL kindOf ((p,w)::P.zip vs) m p=_
  unfold bindL
  rw[zZ λv hv=>(mO.mp nd).1 (vS hv).1,aB hk]
  simp
 | p::P,w::vs,i+1,m,nd,h1,h2,hk=>by
  show bindL kindOf ((p,w)::P.zip vs) m x=_
  unfold bindL
  exact z4 (i:=i) (mO.mp nd).2 (by simpa using h1) (by simpa using h2) hk
theorem z6{kindOf:Str->Option NameKind}{x:Str}{v:Value}:∀{P:List Str} {vs:List Value} {i:Nat} {m:Str->Option Value},P.Nodup->P[i]?=some x->vs[i]?=some v->kindOf x≠some .local->
  bindC kindOf (P.zip vs) m x=some v
 | [],_,_,_,_,h,_,_=>by simp at h
 | _::_,[],_,_,_,_,h,_=>by simp at h
 | p::P,w::vs,0,m,nd,h1,h2,hk=>by
  simp at h1 h2;subst h1;subst h2
  show bindC kindOf ((p,w)::P.zip vs) m p=_
  unfold bindC
  rw[z5 λv hv=>(mO.mp nd).1 (vS hv).1,aC hk]
  simp
 | p::P,w::vs,i+1,m,nd,h1,h2,hk=>by
  show bindC kindOf ((p,w)::P.zip vs) m x=_
  unfold bindC
  exact z6 (i:=i) (mO.mp nd).2 (by simpa using h1) (by simpa using h2) hk
def start(N:List Str)(vs:List V):St:=vs.map some++List.replicate (N.length-vs.length) none
def fQ(CX:K7)(P:Program)(w:World)(K:PySem.W.Frag)(mg:Str->Option Value)(base:Heap)(N:List Str)(qual:Str)(scope:Scope)(f:Addr)(cd:Value)(A:Around)(outer:List Env)(s:Shared)(H:Hp)(E:XK):Cx where
 prog:=P
 w:=w
 K:=K
 mg:=mg
 base:=base
 A:=A.deeper (envOfC qual scope s.heap.objs.size f cd)
 N:=N
 s₀:=s
 H₀:=H
 env:=envOfC qual scope s.heap.objs.size f cd
 outer:=outer
 stack:=envOfC qual scope s.heap.objs.size f cd::outer
 ex:=[]
 calm:=true
 fn:=λ_=>true
 pn:=[]
 xe:=λe s'=>wpAny (model P w) (A.deeper (envOfC qual scope s.heap.objs.size f cd)) (leaving (envOfC qual scope s.heap.objs.size f cd) e) (λ_ s''=>CX outer H s E e s'') (λe' s''=>CX outer H s E e' s'') s'
theorem FJ{sc:Scope}{n:Nat}{x:Str}(h:sc.names.lookup x=some .cell):∃c,(cellsFrom n sc.names []).lookup x=some c:=by
 have q:=PySem.W.cellsFrom_some sc.names n [] (.inl h)
 exact Option.isSome_iff_exists.mp q
theorem M6{CX:K7}{P:Program}{w:World}{K:PySem.W.Frag}{mg:Str->Option Value}{base:Heap}{N ps:List Str}{qual:Str}{scope:Scope}{f:Addr}{cd:Value}{A:Around}{outer:List Env}{s s1:Shared}{H:Hp}{E:XK}{us:List Value}{vs:List V}
  (S:aX N ps scope) (hd:A.handled=none) (e0:qK P w K mg base A outer s H) (hl:vs.length=ps.length) (r:Vals vs us)
  (x:InCallC s s.heap.objs.size (bindL (envOfC qual scope s.heap.objs.size f cd).kindOf (ps.zip us) λ_=>none) (cellsFrom (s.heap.objs.size+1) scope.names []) (bindC (envOfC qual scope s.heap.objs.size f cd).kindOf (ps.zip us) λ_=>none) s1) :
  Inv (fQ CX P w K mg base N qual scope f cd A outer s H E) [] (start N vs) H s1:=by
 have kJ:ps.length<=N.length:=by have:=fJ List.length S.pre;rw[gL]at this;lia
 obtain⟨h1,tk,rfl,hk⟩:=x.done
 have Sj:∀b:Addr,b∉(fQ CX P w K mg base N qual scope f cd A outer s H E).ex:=λb z=>absurd (show b∈([]:List Addr) from z) (by simp)
 refine⟨⟨e0.mod,S.kind,rfl,rfl,bx _,λy z c h1 h2=>?_,λy hy=>?_,λy c _ h=>?_,λ_=>hd,Around.frames_deeper e0.frames,.inr ⟨rfl,rfl⟩,λb z=>absurd z (Sj b),e0.bs,e0.Nt,λb _ _=>Sj b,λb z=>absurd z (Sj b),e0.oK,e0.N3⟩,
  rfl,e0.bare,Un.kept hk,⟨_,x.toInCall.ns,λi y v h1 h2 h3=>?_⟩,λy c h=>⟨_,x.cell y c h⟩,e0.bE.fresh (bx _),λy c h=>?_,λp hp=>absurd (show p∈([]:List (Addr×Obj)) from hp) (by simp),e0.bE.kept hk,?_⟩
 ·exact name_of_addr x.apart (kr h1) (kr h2)
 ·have hy:scope.names.lookup y=some .cell\/scope.names.lookup y=some .free:=hy
  rcases hy with hy | hy
  ·exact FJ hy
  ·exact absurd rfl (S.YH _ (kr hy))
 ·exact iZ (x.above y c (kr h))
 ·have hi:i<vs.length:=by
   unfold start at h2
   by_cases hi:i<vs.length
   ·exact hi
   ·rw[jI (by simpa using hi)]at h2
    rw[List.getElem?_replicate]at h2
    split at h2 <;> cases h2
  have ha:vs[i]?=some v:=by
   unfold start at h2
   rw[mh (by simpa using hi),cH]at h2
   cases e:vs[i]? with
   | none=>rw[e]at h2;cases h2
   | some a=>rw[e]at h2;cases h2;rfl
  obtain⟨u,hu,rv⟩:=r.get ha
  have hp:ps[i]?=some y:=by
   rw[<-S.pre,List.getElem?_take_of_lt (by lia)];exact h1
  have ndP:ps.Nodup:=by rw[<-S.pre];exact S.nd.sublist (List.take_sublist _ _)
  refine⟨u,rv,?_⟩
  rcases S.par y (oV hp) with k | k
  ·exact .inl ⟨k,z4 ndP hp hu k⟩
  ·obtain⟨c,e⟩:=FJ (n:=s.heap.objs.size+1) k
   refine .inr ⟨.inl k,c,e,?_⟩
   have q:=x.cell y c e
   rw[z6 ndP hp hu (by show scope.names.lookup y≠_;rw[k];decide)]at q
   exact q
 ·exact e0.bE.fresh (iZ (x.above y c (kr h)))
 ·unfold start
  show _=N.length
  rw[cS,aY,vF]
  lia
theorem RC{CX:K7}{P:Program}{w:World}{K:PySem.W.Frag}{mg:Str->Option Value}{base:Heap}{k:Nat}{f:Addr}{name qual:Str}{params:Arguments}{body:List Stmt}{scope:Scope}{dV kV doc pm cP ct oc:Value}{an od:Option Addr}
  {J0:Array (Option Value)} {N ps:List Str} {sp:Sp} (lk:K.lookup f=some ⟨oc,od,.func (PySem.W.fnOf name qual params body scope dV kV doc pm an cP ct),J0⟩) (yA:PySem.W.codeIn K cP qual=true) (S:aX N ps scope)
  (len:∀vs H Q E,sp vs H Q E->vs.length=ps.length)
  (fP:∀(A:Around) (outer:List Env) (s:Shared) (H:Hp) (vs:List V) (Q:VK) (E:XK),cC k (A.deeper (envOfC qual scope s.heap.objs.size f cP))->sp vs H Q E->
   ∃t,CW (fQ CX P w K mg base N qual scope f cP A outer s H E) body t/\t { nx:=λ_ H'=>Q .non H',rt:=Q } (start N vs) H) :
  bS P w K mg base CX (k+1) f (PySem.W.fnOf name qual params body scope dV kV doc pm an cP ct) ps sp:=by
 refine⟨len,λA outer s H args us vs Q E hr e0 hb r Gb=>?_⟩
 have hl:=len _ _ _ _ Gb
 have KX:K.In s.heap:=e0.mod.Y2.keeps λb o e=>(e0.bs b o e).1
 have lim:s.heap.NoLimit:=e0.mod.nolimit.keeps λb o e=>(e0.bs b o e).1
 have aBp:∀y∈ps.zip us,scope.names.lookup y.1=some .local\/(scope.names.lookup y.1=some .cell/\((cellsFrom (s.heap.objs.size+1) scope.names []).lookup y.1).isSome=true):=λ⟨n,v⟩ hy=>by
  rcases S.par n (vS hy).1 with q | q
  ·exact .inl q
  ·exact .inr ⟨q,PySem.W.cellsFrom_some _ _ _ (.inl q)⟩
 refine codeAny_call_function hr.depth (KX _ _ lk) rfl S.co S.gen rfl (PySem.W.codeRec_of KX yA) (hb _ _ _ _ ?_)
 refine wpAny_newFunctionEnv_cells S.kind aBp λenv he s1 x=>?_
 subst he
 refine⟨lim.keeps x.toInCall.keep,codeAny_func ?_⟩
 obtain⟨t,ht,hq⟩:=fP A outer s H vs Q E (hr.deeper _) Gb
 have I:Inv (fQ CX P w K mg base N qual scope f cP A outer s H E) [] (start N vs) H s1:=M6 S hr.hd e0 hl r x
 refine dE (ht [] s1 (start N vs) H _ I hq) (λfl s' hs=>?_) λe s' hs=>hs
 have fin:∀{σ':St} {H':Hp} {v:V} {u:Value},Inv (fQ CX P w K mg base N qual scope f cP A outer s H E) [] σ' H' s'->RelV v u->Q v H'->CE outer P w H s Q u s':=
  λ{σ' H' v u} J rv q=>⟨v,H',J.os,J.bare,J.base,J.bE,rv,q⟩
 cases fl with
 | ret u=>
  obtain⟨v,σ',H',J,rv,q⟩:=hs
  exact fin J rv q
 | next=>
  obtain⟨σ',H',J,q⟩:=hs
  exact fin (v:=V.non) (u:=Value.none) J rfl q
 | brk=>
  obtain⟨_,_,_,q⟩:=hs
  exact False.elim q
 | cont=>
  obtain⟨_,_,_,q⟩:=hs
  exact False.elim q
end L2
namespace L2
open PySem PySem.Spec PyProof.Rows
section
variable {X:Cx}{x:Str}{p pos:Pos}{e:Expr}{es:List Expr}{t:TA}{id T:String}{r:List V->Hp->VK->Prop}
def Te(r:List V->Hp->VK->Prop)(t:TA):TE:=λσ H Q=>t σ H λvs H1=>r vs H1 Q
theorem ni(hc:fw X (.builtin id) r)(hg:Gl X x)(hm:X.mg x=none)(hv:bootBuiltins x=some (.builtin id))(ha:PA X (e::es) t)(hn:x≠"__name__":=by decide)(uc:(x==("__debug__" : Str))=false:=by decide)
  (he:starEach (e::es) X.env=(false,eval e X.env)::starEach es X.env:=by rfl) (kJ:(backTo pos (starEach es X.env)).any (·.1)=false:=by rfl):PE X (.Call (.Name x p) (e::es) [] pos) (Te r t):=by
 intro pins s σ H Q I h
 refine uL (t7 I hg hm hv ?_ hn uc)
 exact N9 (cU (ha pos pins s σ H _ I h) λus s1 ⟨vs,H1,I1,r1,q1⟩=>hc pins s1 σ H1 vs us Q I1 r1 q1) he kJ
theorem kE(hc:fw X (.type T) r)(hg:Gl X x)(hm:X.mg x=none)(hv:bootBuiltins x=some (.type T))(ha:PA X (e::es) t)(hn:x≠"__name__":=by decide)(uc:(x==("__debug__" : Str))=false:=by decide)
  (he:starEach (e::es) X.env=(false,eval e X.env)::starEach es X.env:=by rfl) (kJ:(backTo pos (starEach es X.env)).any (·.1)=false:=by rfl):PE X (.Call (.Name x p) (e::es) [] pos) (Te r t):=by
 intro pins s σ H Q I h
 refine uL (t7 I hg hm hv ?_ hn uc)
 exact GX (cU (ha pos pins s σ H _ I h) λus s1 ⟨vs,H1,I1,r1,q1⟩=>hc pins s1 σ H1 vs us Q I1 r1 q1) he kJ
end
end L2
namespace HT
open PySem PyProof.Rows
def lexLt:List Int->List Int->Bool
 | [],[]=>false
 | [],_::_=>true
 | _::_,[]=>false
 | x::xs,y::ys=>if x=y then lexLt xs ys else decide (x<y)
theorem Ig(x y:Int)(xs ys:List Int):lexLt (x::xs) (y::ys)=if x=y then lexLt xs ys else decide (x<y):=rfl
theorem yt:lexLt [] []=false:=rfl
theorem w8(y:Int)(ys:List Int):lexLt [] (y::ys)=true:=rfl
theorem xc(x:Int)(xs:List Int):lexLt (x::xs) []=false:=rfl
theorem RK(A:Around)(s:Shared)(a:Int)(t:Tok)(c:Int)(u:Tok):∃e,SeqAt.EqAt A s (.int a t) (.int c u) e/\(e=true↔a=c):=
 ⟨(a==c),SeqAt.EqAt.int_int a t c u,by simp⟩
theorem Pn(A:Around)(s:Shared)(a:Int)(t:Tok)(c:Int)(u:Tok)(prog:Program)(w:World)(E:Value->Shared->Prop)(Q:Value->Shared->Prop)(h:Q (.bool (decide (a<c))) s) :
  wpAny (model prog w) A (richCompare .Lt (.int a t) (.int c u)) Q E s:=
 (PyProof.Rows.lt_int h:wpAny (model prog w) A (compareOp .Lt (.int a t) (.int c u)) Q E s)
section
open PySem.SeqAt
open PySem.AutoSeq1 (wpAny_loadPart')
open PySem.MeetsSeq PySem.MeetsSeq2 PySem.MeetsSeq3
theorem yg(l b:Addr)(items j9:Array Value)(n n2:Nat)(dd Xm:Option Addr)(sl Ls:Array (Option Value))(ns ms:List Int)(hi:IntsAre items.toList ns)(hj:IntsAre j9.toList ms) :
  Meets (Builtin.«tuple.__lt__» ⟨[.ref l,.ref b],[]⟩)
   (λ_ R s=>s.heap.get? l=some { cls:=.type "tuple",dict:=dd,data:=.seq items n,slots:=sl }/\s.heap.get? b=some { cls:=.type "tuple",dict:=Xm,data:=.seq j9 n2,slots:=Ls }/\
    R (.ok (.ret (.bool (lexLt ns ms)))) s):=
 .of_wp λprog w A R s h=>by
  obtain⟨hp,g,d,tk,os⟩:=s;obtain⟨hl,hb,h⟩:=h
  have f2:=AutoSeq1.sub_tuple_tuple
  have z1:items.size=ns.length:=by rw[<-hi.length];simp
  have z2:j9.size=ms.length:=by rw[<-hj.length];simp
  wp_walk using wpAny_loadPart' hl,wpAny_loadPart' hb,wpAny_forIn_list _ (λrest b s'=>b.1=none/\s'=⟨hp,g,d,tk,os⟩/\∃(vs ws:List Value) (NR ms':List Int),rest=vs.zip ws/\
   IntsAre vs NR/\IntsAre ws ms'/\NR.length+j9.size=ms'.length+items.size/\R (.ok (.ret (.bool (lexLt NR ms')))) ⟨hp,g,d,tk,os⟩) _
  case turn=>
   rintro⟨y,x⟩ rest b s' ⟨hb',rfl,vs,ws,NR,ms',hz,hvi,hwi,hlen,hR⟩
   cases hvi with
   | nil=>rw[List.zip_nil_left]at hz;cases hz
   | cons a t aEd=>
    cases hwi with
    | nil=>rw[List.zip_nil_right]at hz;cases hz
    | cons c u aEb=>
     rw[List.zip_cons_cons]at hz
     injection hz with hyx zN
     injection hyx with hy hx
     subst hy hx
     rw[Ig]at hR
     simp only[eJ]at hlen
     obtain⟨e,he,aBq⟩:=RK A.in1 ⟨hp,g,d,tk,os⟩ a t c u
     refine ay (he prog w _ _ ?_)
     cases e with
     | true=>
      rw[aB (aBq.mp rfl)]at hR
      wp_walk
      exact⟨rfl,rfl,_,_,_,_,zN,aEd,aEb,by lia,hR⟩
     | false=>
      rw[aC (λq=>absurd (aBq.mpr q) fG)]at hR
      have hri:=Pn A.in1 ⟨hp,g,d,tk,os⟩ a t c u prog w
      wp_walk using hri
      exact⟨_,rfl,by simpa using hR⟩
  case fin=>
   rintro⟨b1,b2⟩ s' ⟨hb',rfl,vs,ws,NR,ms',hz,hvi,hwi,hlen,hR⟩
   simp only at hb'
   subst hb'
   have hv:lexLt NR ms'=decide (items.size<j9.size):=by
    cases hvi with
    | nil=>
     cases hwi with
     | nil=>
      simp only[vR]at hlen
      rw[yt]
      exact(decide_eq_false (by lia)).symm
     | cons c u hw=>
      simp only[vR,eJ]at hlen
      rw[w8]
      exact(decide_eq_true (by lia)).symm
    | cons a t hv=>
     cases hwi with
     | nil=>
      simp only[vR,eJ]at hlen
      rw[xc]
      exact(decide_eq_false (by lia)).symm
     | cons c u hw=>
      rw[List.zip_cons_cons]at hz
      cases hz
   rw[hv]at hR
   wp_walk
   exact⟨_,rfl,by simpa [Builtin.Tuple.tupleCompareSizes]using hR⟩
  case h=>
   exact⟨rfl,rfl,items.toList,j9.toList,ns,ms,rfl,hi,hj,by lia,h⟩
end
section
variable {prog:Program}{w:World}{A:Around}{E:Value->Shared->Prop}{s:Shared}
theorem Ib{l b:Addr}{items j9:Array Value}{ns ms:List Int}{Q:Value->Shared->Prop}(hl:IsTup s.heap l items)(hb:IsTup s.heap b j9)(hi:IntsAre items.toList ns)(hj:IntsAre j9.toList ms)
  (hu:A.units<cLine) (h:Q (.bool (lexLt ns ms)) s):wpAny (model prog w) A (compareOp .Lt (.ref l) (.ref b)) Q E s:=by
 obtain⟨⟨cls,dd,data,sl⟩,ho,hc,n,hd⟩:=id hl
 obtain⟨⟨aBO,Xm,data2,Ls⟩,Ss,W8,n2,hd2⟩:=id hb
 simp only at hc hd W8 hd2
 subst hc hd W8 hd2
 exact richCompare_meets_room (op:=.Lt) ⟨_,ho,rfl⟩ ⟨_,Ss,rfl⟩ PySem.F.slot_tuple_lt PySem.F.entry_tuple_lt (PySem.F.args_tuple_lt_2 _ _) (yg l b items j9 n n2 dd Xm sl Ls ns ms hi hj)
  ⟨ho,Ss,show Value.bool (lexLt ns ms)≠Value.notImplemented/\Q (.bool (lexLt ns ms)) s from ⟨(λx=>nomatch x),h⟩⟩ hu
theorem V'{t b:Addr}{vs ws:List Value}{Q:Value->Shared->Prop}(ht:IsTup s.heap t vs.toArray)(hb:IsTup s.heap b ws.toArray)(hv:vs≠[])
  (h1:ws=[]->Q (.ref t) s) (h2:ws≠[]->Q (.ref s.heap.objs.size) { s with heap:=s.heap.push { cls:=.type "tuple",data:=.seq (vs++ws).toArray } })
  (hsz:vs.length+ws.length<=sizeLine):wpAny (model prog w) A (binaryOp .Add (.ref t) (.ref b)) Q E s:=by
 obtain⟨⟨cls,dd,data,sl⟩,ho,hc,n,hd⟩:=id ht
 obtain⟨⟨aBO,Xm,data2,Ls⟩,Ss,W8,n2,hd2⟩:=id hb
 simp only at hc hd W8 hd2
 subst hc hd W8 hd2
 have e:vs.toArray++ws.toArray=(vs++ws).toArray:=by simp
 by_cases hw:ws=[]
 ·exact concat_meets ⟨_,ho,rfl⟩ ⟨_,Ss,rfl⟩ noFill_tuple_add seq_tuple_add GK GQ (GR _ _)
   (tuple_addW1 t b vs.toArray ws.toArray n n2 dd Xm sl Ls (by simpa using hv) (by simp[hw])) ⟨ho,Ss,h1 hw⟩
 ·refine concat_meets ⟨_,ho,rfl⟩ ⟨_,Ss,rfl⟩ noFill_tuple_add seq_tuple_add GK GQ (GR _ _)
   (tuple_addW2 t b vs.toArray ws.toArray n n2 dd Xm sl Ls (by simpa using hv) (by simpa using hw) (by rw[cD,cD];exact hsz)) ⟨ho,Ss,?_⟩
  rw[e]
  exact h2 hw
def dn(n d:Nat):Option Int->Nat
 | none=>d
 | some v=>if v<0 then (v+(n:Int)).toNat else min v.toNat n
theorem X9(n d:Nat)(hd:d<=n)(o:Option Int):dn n d o<=n:=by
 cases o with
 | none=>exact hd
 | some v=>
  show(if v<0 then (v+(n:Int)).toNat else min v.toNat n)<=n
  by_cases hv:v<0
  ·rw[aB hv];lia
  ·rw[aC hv];exact Nat.min_le_right _ _
theorem KJ(v:Int)(n d:Nat):(if v<0 then max (v+(n:Int)) 0 else min v (n:Int))=((dn n d (some v):Nat):Int):=by
 show(if v<0 then max (v+(n:Int)) 0 else min v (n:Int))=(((if v<0 then (v+(n:Int)).toNat else min v.toNat n):Nat):Int)
 by_cases hv:v<0
 ·simp only[aB hv];lia
 ·simp only[aC hv];lia
theorem Jm(lo hi:Option Int)(n:Nat):Builtin.Slice.sliceAdjust lo hi 1 (n:Int)=(((dn n 0 lo:Nat):Int),((dn n n hi:Nat):Int)):=by
 have h1:¬((1:Int)<0):=by lia
 unfold Builtin.Slice.sliceAdjust
 simp only[h1,fF]
 refine Prod.ext ?_ ?_
 ·cases lo with
  | none=>rfl
  | some v=>exact KJ v n 0
 ·cases hi with
  | none=>rfl
  | some v=>exact KJ v n n
theorem Ht(i j:Nat):Builtin.Slice.slicePlaces (i:Int) (j:Int) 1=j-i:=by
 unfold Builtin.Slice.slicePlaces
 have h1:(1:Int) > 0:=by lia
 simp only[h1,gu,Int.ediv_one]
 split <;> lia
theorem wF{v:Value}{o:Option Int}{Q:Option Int->Shared->Prop}(p:IsPart v o)(h:Q o s):wpAny (model prog w) A (Builtin.Slice.slicePartIndex v) Q E s:=by
 cases p with
 | none=>exact slicePart_none h
 | int i t=>exact slicePart_int h
theorem kz{sl:Addr}{vl vu:Value}{lo hi:Option Int}{n:Nat}{Q:Int×Int×Nat->Shared->Prop}(hs:s.heap.IsSliceOf sl vl vu .none)(pl:IsPart vl lo)(pu:IsPart vu hi)
  (h:Q (((dn n 0 lo:Nat):Int),1,dn n n hi-dn n 0 lo) s):wpAny (model prog w) A (Builtin.Slice.sliceApplied (.ref sl) (pure (n:Int))) Q E s:=by
 obtain⟨os,Zo,hcs,hds⟩:=id hs
 unfold Builtin.Slice.sliceApplied Builtin.Slice.sliceFields
 refine ay (ay (pA Zo hds (x:=vl) rfl (ay (pA Zo hds (x:=vu) rfl (ay (pA Zo hds (x:=.none) rfl (aK ?_)))))))
 refine ay (slicePart_none ?_)
 show wpAny _ _ (if ((1:Int)==0)=true then _ else _) _ _ s
 rw[aC (by decide)]
 refine ay (wF pl (ay (wF pu (ay (aK ?_)))))
 show wpAny _ _ (match Builtin.Slice.sliceAdjust lo hi 1 (n:Int) with | (lo,hi)=>pure (lo,(1:Int),Builtin.Slice.slicePlaces lo hi 1)) _ _ s
 rw[Jm lo hi n]
 show wpAny _ _ (pure (((dn n 0 lo:Nat):Int),(1:Int),Builtin.Slice.slicePlaces ((dn n 0 lo:Nat):Int) ((dn n n hi:Nat):Int) 1)) _ _ s
 rw[Ht]
 exact aK h
theorem Qc(xs:Array Value)(i k:Nat):((List.range k).filterMap λ(m:Nat)=>xs[((i:Int)+(m:Int)*1).toNat]?).toArray=((xs.toList.drop i).take k).toArray:=by
 have e:(λ(m:Nat)=>xs[((i:Int)+(m:Int)*1).toNat]?)=λm=>xs[i+m]?:=by
  funext m
  have:((i:Int)+(m:Int)*1).toNat=i+m:=by lia
  rw[this]
 rw[e]
 have:=pick_run xs i k
 rw[List.filterMap_map]at this
 have e2:((λx=>xs[x]?) ∘ λx=>i+x)=λm=>xs[i+m]?:=rfl
 rw[e2]at this
 rw[this]
theorem si{t sl:Addr}{items:Array Value}{vl vu:Value}{lo hi:Option Int}{Q:Value->Shared->Prop}(ht:IsTup s.heap t items)(hs:s.heap.IsSliceOf sl vl vu .none)(pl:IsPart vl lo)(pu:IsPart vu hi)
  (hw:¬(dn items.size 0 lo=0/\dn items.size items.size hi=items.size))
  (h:Q (.ref s.heap.objs.size) { s with heap:=s.heap.push { cls:=.type "tuple",data:=.seq ((items.toList.drop (dn items.size 0 lo)).take (dn items.size items.size hi-dn items.size 0 lo)).toArray } })
  (hsz:items.size<=sizeLine):wpAny (model prog w) A (getItem (.ref t) (.ref sl)) Q E s:=by
 have Kf:sizeOk (.seq ((items.toList.drop (dn items.size 0 lo)).take (dn items.size items.size hi-dn items.size 0 lo)).toArray):=by
  show((items.toList.drop (dn items.size 0 lo)).take (dn items.size items.size hi-dn items.size 0 lo)).toArray.size<=sizeLine
  rw[cD,gL,qR,di]
  lia
 have hj:dn items.size items.size hi<=items.size:=X9 _ _ (bx _) hi
 obtain⟨os,Zo,hcs,hds⟩:=id hs
 have hTs:s.TypeIs (.ref sl) "slice":=⟨os,Zo,hcs⟩
 unfold getItem
 try with_reducible refine jB ?_
 first | refine ay (aK ?_) | skip
 refine ay (wpAny_sequenceKey ht.typeIs (by decide) ?_)
 refine ay (tJ (name:=Str.ofString "__getitem__") ht.typeIs yL
  (oU yL ht.typeIs entry_tuple_getitem ?_ (args_tuple_getitem _ _)))
 show wpAny _ _ (Builtin.Tuple.tupleItemsOf (.ref t) >>= _) _ _ s
 refine ay (tupleItemsOf_ ht ?_)
 refine ay (vL hTs ?_)
 rw[aB (by decide)]
 refine ay (kz hs pl pu ?_)
 have Fi:¬((((dn items.size 0 lo:Nat):Int)==0&&(1:Int)==1&&(dn items.size items.size hi-dn items.size 0 lo)==items.size)=true):=by
  intro q
  rw[eI,eI]at q
  have q1:((dn items.size 0 lo:Nat):Int)=0:=eq_of_beq q.1.1
  have q2:dn items.size items.size hi-dn items.size 0 lo=items.size:=eq_of_beq q.2
  exact hw ⟨by lia,by lia⟩
 show wpAny _ _ (if (((dn items.size 0 lo:Nat):Int)==0&&(1:Int)==1&&(dn items.size items.size hi-dn items.size 0 lo)==items.size)=true then _ else _) _ _ s
 rw[aC Fi,Qc]
 first
  | exact ay (m:=Builtin.Tuple.tupleExact _) (iJ (aK ⟨_,rfl,aK h⟩) Kf)
  | exact ay (m:=Builtin.Tuple.tupleExact _) (iJ (ay (aK (aK ⟨_,rfl,aK h⟩))) Kf)
  | exact ay (ay (m:=Builtin.Tuple.tupleExact _) (iJ (aK (aK ⟨_,rfl,aK h⟩)) Kf))
  | exact ay (ay (m:=Builtin.Tuple.tupleExact _) (iJ (aK ⟨_,rfl,aK h⟩) Kf))
end
end HT
namespace L2
open PySem PySem.Spec PyProof.Rows
abbrev TO:=St->Hp->(Option Int->Hp->Prop)->Prop
def PO(X:Cx)(e:Option Expr)(t:TO):Prop:=
 ∀(pins:List (Addr×Obj)) (s:Shared) (σ:St) (H:Hp) (Q:Option Int->Hp->Prop),Inv X pins σ H s->t σ H Q->
  wpAny (model X.prog X.w) X.A (evalPart e X.env) (λu s'=>∃o H',Inv X pins σ H' s'/\IsPart u o/\Q o H') X.xe s
def lA:TO:=λ_ H Q=>Q none H
def wu(t:TE):TO:=λσ H Q=>t σ H λx H1=>∃i,x=.int i/\Q (some i) H1
theorem intsAre_of{ns:List Int}:∀{us:List Value},Vals (ns.map V.int) us->IntsAre us ns:=by
 induction ns with
 | nil=>intro us r;rw[Af]at r;cases r;exact .nil
 | cons n ns ih=>
  intro us r
  rw[eF]at r
  cases r with
  | cons r1 r2=>
   obtain⟨t,e⟩:=r1
   subst e
   exact .cons n t (ih r2)
section
variable {X:Cx}{e:Expr}{te:TE}{lo hi:Option Expr}{tl th:TO}{pos p2:Pos}
theorem Uj:PO X none lA:=by
 intro pins s σ H Q I h
 rw[evalPart_none]
 exact aK ⟨none,H,I,.none,h⟩
theorem Ui(h:PE X e te):PO X (some e) (wu te):=by
 intro pins s σ H Q I hw
 rw[evalPart_some]
 refine cU (h pins s σ H _ I hw) λu s1 ⟨x,H1,I1,r1,q1⟩=>?_
 obtain⟨i,rfl,q⟩:=q1
 obtain⟨t,rfl⟩:=r1
 exact⟨some i,H1,I1,.int i t,q⟩
def SJ(X:Cx)(r:V->Option Int->Option Int->Hp->VK->Prop):Prop:=
 ∀(pins:List (Addr×Obj)) (s:Shared) (σ:St) (H:Hp) (x:V) (v vl vu:Value) (lo hi:Option Int) (sl:Addr) (Q:VK),Inv X pins σ H s->RelV x v->s.heap.IsSliceOf sl vl vu .none->IsPart vl lo->IsPart vu hi->r x lo hi H Q->
  ∃T id,typeLookup (.type T) "__getitem__" = pure (some (.builtin id))/\s.TypeIs v T/\wpAny (model X.prog X.w) X.A (getItem v (.ref sl)) (EP X pins σ Q) X.xe s
def XD(r:V->Option Int->Option Int->Hp->VK->Prop)(te:TE)(tl th:TO):TE:=λσ H Q=>te σ H λx H1=>tl σ H1 λl H2=>th σ H2 λu H3=>r x l u H3 Q
theorem Qh{r:V->Option Int->Option Int->Hp->VK->Prop}(hr:SJ X r)(he:PE X e te)(hl:PO X lo tl)(hu:PO X hi th):PE X (.Subscript e (.Slice lo hi none p2) pos) (XD r te tl th):=by
 intro pins s σ H Q I h
 refine Subscript_ (cU (he pins s σ H _ I h) λv s1 ⟨x,H1,I1,r1,q1⟩=>?_)
 refine wpAny_Slice (cU (hl pins s1 σ H1 _ I1 q1) λvl s2 ⟨l,H2,I2,pl,q2⟩=>cU (hu pins s2 σ H2 _ I2 q2) λvu s3 ⟨u,H3,I3,pu,q3⟩=>?_)
 rw[evalPart_none]
 refine aK ?_
 have I4:Inv X pins σ H3 { s3 with heap:=s3.heap.push { cls:=.type "slice",data:=.fields #[vl,vu,.none] } }:=I3.kept (t':=s3.toks) λb ob q=>bZ _ q
 obtain⟨T,id,hT,ht,hg⟩:=hr pins { s3 with heap:=s3.heap.push { cls:=.type "slice",data:=.fields #[vl,vu,.none] } } σ H3 x v vl vu l u s3.heap.objs.size Q I4 r1 (Heap.IsSliceOf.new ..) pl pu q3
 show wpAny (model X.prog X.w) X.A (subscriptTail e (.Slice lo hi none p2) v (.ref s3.heap.objs.size)) (EP X pins σ Q) X.xe { s3 with heap:=s3.heap.push { cls:=.type "slice",data:=.fields #[vl,vu,.none] } }
 exact tail_any (ops:=[.ref s3.heap.objs.size,v]) ht hT hg (by with_unfolding_all rfl)
def iO(xs:List V)(lo hi:Option Int):List V:=(xs.drop (HT.dn xs.length 0 lo)).take (HT.dn xs.length xs.length hi-HT.dn xs.length 0 lo)
theorem uY(xs:List V)(lo hi:Option Int):(iO xs lo hi).length<=xs.length:=by
 unfold iO
 rw[gL,qR]
 lia
def aCK(K:PySem.W.Frag):V->Option Int->Option Int->Hp->VK->Prop:=λx lo hi H Q=>∃a xs,x=.ref a/\yF K H a xs/\
 ¬(HT.dn xs.length 0 lo=0/\HT.dn xs.length xs.length hi=xs.length)/\∀p,H p=none->Q (.ref p) (upd H p (.tup (iO xs lo hi)))
theorem X6:SJ X (aCK X.K):=by
 intro pins s σ H x v vl vu lo hi sl Q I rx hs pl pu h
 obtain⟨a,xs,rfl,hx,hw,q⟩:=h
 cases rx
 obtain⟨its,r,ht,hz⟩:=I.tuple hx
 have hlen:its.toArray.size=xs.length:=by rw[cD];exact r.length.symm
 refine⟨"tuple",_,yL.lookup,ht.typeIs,?_⟩
 refine HT.si ht hs pl pu (by rw[hlen];exact hw) ?_ (by rw[hlen];exact hz)
 rw[hlen]
 refine⟨.ref s.heap.objs.size,_,I.laid (t':=s.toks) (o:=.tup (iO xs lo hi)) (λb ob q=>bZ _ q) (bx _) ?_,rfl,q _ (I.bE.fresh (bx _))⟩
 exact⟨e8 (uY xs lo hi) hz,_,(r.drop (HT.dn xs.length 0 lo)).take (HT.dn xs.length xs.length hi-HT.dn xs.length 0 lo),IsTup.new _ _⟩
def aAM(K:PySem.W.Frag):R2:=λx y H Q=>∃a b xs ys,x=.ref a/\y=.ref b/\yF K H a xs/\yF K H b ys/\xs≠[]/\xs.length+ys.length<=sizeLine/\
 (ys=[]->Q (.ref a) H)/\(ys≠[]->∀p,H p=none->Q (.ref p) (upd H p (.tup (xs++ys))))
theorem Vals.Cd{xs:List V}{us:List Value}(r:Vals xs us):us=[]↔xs=[]:=by
 cases r with
 | nil=>simp
 | cons _ _=>simp
theorem Uw:oE X (binaryOp .Add) (aAM X.K):=by
 intro pins s σ H x y v u Q I rx ry h
 obtain⟨a,b,xs,ys,rfl,rfl,ha,hb,hx,hz,q1,q2⟩:=h
 cases rx
 cases ry
 obtain⟨its,r1,p1,_⟩:=I.tuple ha
 obtain⟨Eu,r2,p2,_⟩:=I.tuple hb
 refine HT.V' p1 p2 (λz=>hx (r1.Cd.mp z)) (λz=>⟨.ref a,H,I,rfl,q1 (r2.Cd.mp z)⟩) (λz=>?_) (by rw[<-r1.length,<-r2.length];exact hz)
 refine⟨.ref s.heap.objs.size,_,I.laid (t':=s.toks) (o:=.tup (xs++ys)) (λb ob q=>bZ _ q) (bx _) ?_,rfl,q2 (λw=>z (r2.Cd.mpr w)) _ (I.bE.fresh (bx _))⟩
 exact⟨by rw[cS];exact hz,_,r1.append r2,IsTup.new _ _⟩
end
end L2
namespace L2
open PySem PySem.Spec PyProof.Rows
def M4(n:Nat)(i:Int):Option Nat:=if 0<=i then (if i<n then some i.toNat else none) else if -(n:Int)<=i then some (i+n).toNat else none
def vq{α:Type}(xs:List α)(i:Int):Option α:=(M4 xs.length i).bind λj=>xs[j]?
theorem Ka{n:Nat}{i:Int}{j:Nat}(h:M4 n i=some j):seqIndex? i n=some j/\j<n/\-(n:Int)<=i/\i<n:=by
 unfold M4 at h
 by_cases h0:0<=i
 ·rw[aB h0]at h
  by_cases h1:i<n
  ·rw[aB h1]at h
   have e:i.toNat=j:=eG h
   exact⟨by rw[seqIndex_of h0 h1,e],by lia,by lia,h1⟩
  ·rw[aC h1]at h;cases h
 ·rw[aC h0]at h
  by_cases h1 : -(n:Int)<=i
  ·rw[aB h1]at h
   have e:(i+n).toNat=j:=eG h
   exact⟨by rw[seqIndex_neg (by lia) h1,e],by lia,h1,by lia⟩
  ·rw[aC h1]at h;cases h
theorem CQ{α:Type}{xs:List α}{i:Int}{v:α}(h:vq xs i=some v):∃j,seqIndex? i xs.length=some j/\xs[j]?=some v/\j<xs.length/\-(xs.length:Int)<=i/\i<xs.length:=by
 unfold vq at h
 cases e:M4 xs.length i with
 | none=>rw[e]at h;cases h
 | some j=>
  rw[e]at h
  obtain⟨h1,h2,h3,h4⟩:=Ka e
  exact⟨j,h1,h,h2,h3,h4⟩
theorem gF{α:Type}{xs:List α}{j:Nat}{v:α}(h:xs[j]?=some v):vq xs (j:Int)=some v:=by
 have hj:j<xs.length:=(dc.mp h).1
 have e:M4 xs.length (j:Int)=some j:=by
  unfold M4
  rw[aB (by lia),aB (by lia)];simp
 unfold vq;rw[e];exact h
def K0(b:Expr):Prop:=∀o i,subscripted b false o i=operate [o,i] (getItem o i)
def Wl(X:Cx)(r:R2):Prop:=
 ∀(value slice:Expr) (pins:List (Addr×Obj)) (s:Shared) (σ:St) (H:Hp) (x y:V) (v u:Value) (Q:VK),Inv X pins σ H s->RelV x v->RelV y u->r x y H Q->
  subscripted slice false v u=operate [v,u] (getItem v u)->wpAny (model X.prog X.w) X.A (subscriptTail value slice v u) (EP X pins σ Q) X.xe s
def MtR(X:Cx)(id:String)(r:V->List V->Hp->VK->Prop):Prop:=
 ∀(pins:List (Addr×Obj)) (s:Shared) (σ:St) (H:Hp) (x:V) (xs:List V) (v:Value) (us:List Value) (Q:VK),Inv X pins σ H s->RelV x v->Vals xs us->r x xs H Q->
  wpAny (model X.prog X.w) X.A (call (.builtin id) (v::us)) (EP X pins σ Q) X.xe s
section
variable {X:Cx}{a b:Expr}{ta tb:TE}{pos:Pos}
theorem aAT{r:R2}(hr:Wl X r)(ha:PE X a ta)(hb:PE X b tb)(hs:K0 b):PE X (.Subscript a b pos) (Lj r ta tb):=by
 intro pins s σ H Q I h
 exact Subscript_ (aAa ha hb I h λv u s2 x y H2 I2 rx ry q=>hr a b pins s2 σ H2 x y v u Q I2 rx ry q (hs _ _))
def aCN(K:PySem.W.Frag):R2:=λx y H Q=>∃p xs i v,x=.ref p/\y=.int i/\qP K H p xs/\vq xs i=some v/\Q v H
def aCM(K:PySem.W.Frag):R2:=λx y H Q=>∃p xs i v,x=.ref p/\y=.int i/\yF K H p xs/\vq xs i=some v/\Q v H
theorem U9:Wl X (aCN X.K):=by
 intro value slice pins s σ H x y v u Q I rx ry h hs
 obtain⟨p,xs,i,z,rfl,rfl,hq,he,q⟩:=h
 cases rx
 obtain⟨t,rfl⟩:=ry
 obtain⟨its,r,pl,hz⟩:=I.list hq
 obtain⟨j,h1,h2,h3,h4,h5⟩:=CQ he
 obtain⟨w,ew,Ph⟩:=r.get h2
 have hl:=r.length
 have hn:=w5
 have fin:EP X pins σ Q w s:=⟨z,H,I,Ph,q⟩
 by_cases h0:0<=i
 ·have hj:i.toNat=j:=by
   rw[seqIndex_of h0 h5]at h1
   exact eG h1
  exact item_listR pl.isList h0 (by lia) (by rw[hj];simpa using ew) fin hs
 ·have hj:(i+(its.toArray.size:Int)).toNat=j:=by
   rw[seqIndex_neg (by lia) h4]at h1
   rw[cD,<-hl]
   exact eG h1
  exact subscriptTail_builtinR (x:=w) pl.isList.typeIs slot_list_getitem.lookup
   (wpAny_getItem_list_neg (Q:=λr s'=>r=w/\EP X pins σ Q r s') pl.isList (by lia) (by rw[cD] <;> lia) (by lia) (by rw[hj];simpa using ew) ⟨rfl,fin⟩) hs
theorem Y8:Wl X (aCM X.K):=by
 intro value slice pins s σ H x y v u Q I rx ry h hs
 obtain⟨p,xs,i,z,rfl,rfl,hq,he,q⟩:=h
 cases rx
 obtain⟨t,rfl⟩:=ry
 obtain⟨its,r,pl,hz⟩:=I.tuple hq
 obtain⟨j,h1,h2,h3,h4,h5⟩:=CQ he
 obtain⟨w,ew,Ph⟩:=r.get h2
 have hl:=r.length
 have hn:=w5
 have fin:EP X pins σ Q w s:=⟨z,H,I,Ph,q⟩
 exact subscriptTail_builtinR (x:=w) pl.typeIs slot_tuple_getitem.lookup
  (getItem_tuple (j:=j) (Q:=λr s'=>r=w/\EP X pins σ Q r s') pl (by lia) (by lia) (by rw[cD,<-hl];exact h1) (by simpa using ew) ⟨rfl,fin⟩) hs
theorem HQ(its:List Value)(n j:Nat)(u:Value):Obj.mapSeq (·.setIfInBounds j u) { cls:=.type "list",data:=.seq its.toArray n }={ cls:=.type "list",data:=.seq (its.set j u).toArray n }:=by
 simp[Obj.mapSeq]
theorem Inv.lst{pins:List (Addr×Obj)}{σ:St}{H:Hp}{s:Shared}{p:Addr}{xs:List V}(I:Inv X pins σ H s)(h:H p=some (.lst xs)) :
  ∃(its:List Value) (n:Nat),Vals xs its/\s.heap.get? p=some { cls:=.type "list",data:=.seq its.toArray n }/\xs.length<=sizeLine:=by
 obtain⟨z,its,n,r,e⟩:=I.bE p _ h
 exact⟨its,n,r,e,z⟩
theorem Inv.YW{pins:List (Addr×Obj)}{σ:St}{H:Hp}{s:Shared}{p:Addr}{xs ys:List V}{its its':List Value}{n n':Nat}{f:Obj->Obj}(I:Inv X pins σ H s)(h:H p=some (.lst xs))
  (ho:s.heap.get? p=some { cls:=.type "list",data:=.seq its.toArray n }) (hf:f { cls:=.type "list",data:=.seq its.toArray n }={ cls:=.type "list",data:=.seq its'.toArray n' }) (r:Vals ys its') (hz:ys.length<=sizeLine) (t:Nat) :
  Inv X pins σ (upd H p (.lst ys)) { s with heap:=s.heap.update p f,toks:=t }:=by
 have e:(s.heap.update p f).get? p=some { cls:=.type "list",data:=.seq its'.toArray n' }:=by
  rw[oW f ho (by rw[hf] <;> rfl),hf]
 refine I.write (x:=p) (e:=p) (by rw[h];trivial) (.inl rfl) (λb u hb q=>(uO _ _ (fH hb)).trans q) ⟨_,e⟩ ?_
 exact⟨hz,its',n',r,e⟩
def aAL:V->V->V->Hp->(Hp->Prop)->Prop:=λo i v H Q=>∃p xs k j,o=.ref p/\i=.int k/\H p=some (.lst xs)/\M4 xs.length k=some j/\Q (upd H p (.lst (xs.set j v)))
theorem set_list:Nz X aAL:=by
 intro pins s σ H o i v ov iv u Q I ro ri rv h
 obtain⟨p,xs,k,j,rfl,rfl,hp,hj,q⟩:=h
 cases ro
 obtain⟨t,rfl⟩:=ri
 obtain⟨its,n,r,ho,hz⟩:=I.lst hp
 obtain⟨h1,h2,h3,h4⟩:=Ka hj
 have hl:=r.length
 have hn:=w5
 have I':Inv X pins σ (upd H p (.lst (xs.set j v))) { s with heap:=s.heap.update p (Obj.mapSeq (·.setIfInBounds j u)) }:=
  I.YW hp ho (HQ its n j u) (r.set rv j) (by rw[List.length_set];exact hz) s.toks
 by_cases h0:0<=k
 ·have hk:k.toNat=j:=by
   rw[seqIndex_of h0 h4]at h1
   exact eG h1
  exact PySem.W.ki_setAt ho h0 (by lia) (by rw[cD,<-hl];exact h4) (by rw[hk];exact⟨_,I',q⟩)
 ·have hk:(k+(its.toArray.size:Int)).toNat=j:=by
   rw[seqIndex_neg (by lia) h3]at h1
   rw[cD,<-hl]
   exact eG h1
  exact PySem.W.ki_setBack ho (by lia) (by rw[cD,<-hl];exact h3) (by lia) (by rw[hk];exact⟨_,I',q⟩)
theorem Bq(lo hi:Option Int)(n:Nat):(sliceBounds lo hi none n).1=((HT.dn n 0 lo:Nat):Int)/\(sliceBounds lo hi none n).2.1=((HT.dn n n hi:Nat):Int)/\(sliceBounds lo hi none n).2.2=1:=by
 refine⟨?_,?_,rfl⟩
 ·cases lo with
  | none=>simp[sliceBounds,HT.dn]
  | some i=>
   simp only[sliceBounds,HT.dn,Option.getD_none,show(1:Int) > 0 by decide,gu]
   by_cases h:i<0
   ·simp only[h,gu] <;> lia
   ·simp only[h,fF] <;> lia
 ·cases hi with
  | none=>simp[sliceBounds,HT.dn]
  | some i=>
   simp only[sliceBounds,HT.dn,Option.getD_none,show(1:Int) > 0 by decide,gu]
   by_cases h:i<0
   ·simp only[h,gu] <;> lia
   ·simp only[h,fF] <;> lia
theorem yj(its:List Value)(lo hi:Option Int):slicePick its.toArray lo hi none=((its.drop (HT.dn its.length 0 lo)).take (HT.dn its.length its.length hi-HT.dn its.length 0 lo)).toArray:=by
 obtain⟨h1,h2,h3⟩:=Bq lo hi its.toArray.size
 unfold slicePick
 rw[h1,h2,h3]
 simp only[sliceRange_one,pick_run,cD] <;> rfl
def aCL(K:PySem.W.Frag):V->Option Int->Option Int->Hp->VK->Prop:=λx lo hi H Q=>∃a xs,x=.ref a/\qP K H a xs/\∀p,H p=none->Q (.ref p) (upd H p (.lst (iO xs lo hi)))
theorem JG:SJ X (aCL X.K):=by
 intro pins s σ H x v vl vu lo hi sl Q I rx hs pl pu h
 obtain⟨a,xs,rfl,hx,q⟩:=h
 cases rx
 obtain⟨its,r,ht,hz⟩:=I.list hx
 have hlen:=r.length
 refine⟨"list",_,slot_list_getitem.lookup,ht.isList.typeIs,?_⟩
 refine wpAny_getItem_list_slice ht.isList hs pl pu .none (by simp) ?_ (by rw[cD] <;> lia)
 rw[yj,<-hlen]
 refine⟨.ref s.heap.objs.size,_,I.laid (t':=s.toks) (o:=.lst (iO xs lo hi)) (λb ob q=>bZ _ q) (bx _) ?_,rfl,q _ (I.bE.fresh (bx _))⟩
 exact⟨e8 (uY xs lo hi) hz,_,0,(r.drop (HT.dn xs.length 0 lo)).take (HT.dn xs.length xs.length hi-HT.dn xs.length 0 lo),cI _ rfl⟩
def jl:V->Bool
 | .non=>true
 | .bl _=>true
 | .int _=>true
 | .str _=>true
 | _=>false
def N4:V->V->Bool
 | .non,.non=>true
 | .bl a,.bl b=>a==b
 | .bl a,.int b=>(if a then 1 else 0)==b
 | .int a,.bl b=>a==(if b then 1 else 0)
 | .int a,.int b=>a==b
 | .str a,.str b=>a==b
 | _,_=>false
theorem RL{A:Around}{s:Shared}{y x:V}{u v:Value}(ry:RelV y u)(rx:RelV x v)(fy:jl y=true)(fx:jl x=true):SeqAt.EqAt A s u v (N4 y x):=by
 cases y with
 | non=>
  cases ry
  cases x with
  | non=>cases rx;exact SeqAt.EqAt.same _
  | bl b=>cases rx;exact SeqAt.EqAt.none_bool b
  | int b=>obtain⟨t,rfl⟩:=rx;exact SeqAt.EqAt.none_int b t
  | str b=>obtain⟨t,rfl⟩:=rx;exact SeqAt.EqAt.none_str b t
  | _=>exact absurd (show false=true from fx) fG
 | bl a=>
  cases ry
  cases x with
  | non=>cases rx;exact SeqAt.EqAt.bool_none a
  | bl b=>cases rx;exact SeqAt.EqAt.bool_bool a b
  | int b=>obtain⟨t,rfl⟩:=rx;exact SeqAt.EqAt.bool_int a b t
  | str b=>obtain⟨t,rfl⟩:=rx;exact SeqAt.EqAt.bool_str a b t
  | _=>exact absurd (show false=true from fx) fG
 | int a=>
  obtain⟨t',rfl⟩:=ry
  cases x with
  | non=>cases rx;exact SeqAt.EqAt.int_none a t'
  | bl b=>cases rx;exact SeqAt.EqAt.int_bool a t' b
  | int b=>obtain⟨t,rfl⟩:=rx;exact SeqAt.EqAt.int_int a t' b t
  | str b=>obtain⟨t,rfl⟩:=rx;exact SeqAt.EqAt.int_str a t' b t
  | _=>exact absurd (show false=true from fx) fG
 | str a=>
  obtain⟨t',rfl⟩:=ry
  cases x with
  | non=>cases rx;exact SeqAt.EqAt.str_none a t'
  | bl b=>cases rx;exact SeqAt.EqAt.str_bool a t' b
  | int b=>obtain⟨t,rfl⟩:=rx;exact SeqAt.EqAt.str_int a t' b t
  | str b=>obtain⟨t,rfl⟩:=rx;exact SeqAt.EqAt.str_str a t' b t
  | _=>exact absurd (show false=true from fx) fG
 | _=>exact absurd (show false=true from fy) fG
def Jd(x:V)(u:Value):Bool:=match u with
 | .none=>N4 .non x
 | .bool b=>N4 (.bl b) x
 | .int i _=>N4 (.int i) x
 | .str z _=>N4 (.str z) x
 | _=>false
theorem RJ{x y:V}{u:Value}(r:RelV y u)(f:jl y=true):Jd x u=N4 y x:=by
 cases y with
 | non=>cases r;rfl
 | bl b=>cases r;rfl
 | int i=>obtain⟨t,rfl⟩:=r;rfl
 | str z=>obtain⟨t,rfl⟩:=r;rfl
 | _=>exact absurd (show false=true from f) fG
theorem sL{x:V}:∀{xs:List V} {us:List Value},Vals xs us->xs.all jl=true->us.any (Jd x)=xs.any λy=>N4 y x
 | _,_,.nil,_=>rfl
 | y::xs,u::us,.cons r t,f=>by
  rw[vQ,eI]at f
  rw[pB,pB,RJ r f.1,sL t f.2]
theorem nv{A:Around}{s:Shared}{x:V}{v:Value}(rx:RelV x v)(fx:jl x=true):∀{xs:List V} {us:List Value},Vals xs us->xs.all jl=true->∀u∈us,SeqAt.EqAt A s u v (Jd x u)
 | _,_,.nil,_=>λu hu=>by cases hu
 | y::xs,u::us,.cons r t,f=>λu' hu=>by
  rw[vQ,eI]at f
  rcases bT.mp hu with rfl | hu
  ·rw[RJ r f.1];exact RL r rx f.1 fx
  ·exact nv rx fx t f.2 u' hu
def WQ(x:V)(xs:List V):Bool:=xs.any λy=>N4 y x
def rIn(K:PySem.W.Frag)(neg:Bool):R2:=λx y H Q=>∃p xs,y=.ref p/\(qP K H p xs\/yF K H p xs)/\jl x=true/\xs.all jl=true/\Q (.bl (if neg then !WQ x xs else WQ x xs)) H
theorem Mp:oE X (compareOp .In) (rIn X.K false):=by
 intro pins s σ H x y v u Q I rx ry h
 obtain⟨p,xs,rfl,hq,fx,fs,q⟩:=h
 cases ry
 rcases hq with hq | hq
 ·obtain⟨its,r,pl,hz⟩:=I.list hq
  refine SeqAt.in_listAt (Jd x) pl.isList (λw hw=>nv rx fx r fs w (by simpa using hw)) ⟨.bl _,H,I,rfl,?_⟩
  rw[show its.toArray.any (Jd x)=its.any (Jd x) by simp,sL r fs]
  exact q
 ·obtain⟨its,r,pl,hz⟩:=I.tuple hq
  refine SeqAt.in_tupleAt (Jd x) pl (λw hw=>nv rx fx r fs w (by simpa using hw)) ⟨.bl _,H,I,rfl,?_⟩
  rw[show its.toArray.any (Jd x)=its.any (Jd x) by simp,sL r fs]
  exact q
theorem BM:oE X (compareOp .NotIn) (rIn X.K true):=by
 intro pins s σ H x y v u Q I rx ry h
 obtain⟨p,xs,rfl,hq,fx,fs,q⟩:=h
 cases ry
 rcases hq with hq | hq
 ·obtain⟨its,r,pl,hz⟩:=I.list hq
  refine SeqAt.notIn_listAt (Jd x) pl.isList (λw hw=>nv rx fx r fs w (by simpa using hw)) ⟨.bl _,H,I,rfl,?_⟩
  rw[show its.toArray.any (Jd x)=its.any (Jd x) by simp,sL r fs]
  exact q
 ·obtain⟨its,r,pl,hz⟩:=I.tuple hq
  refine SeqAt.notIn_tupleAt (Jd x) pl (λw hw=>nv rx fx r fs w (by simpa using hw)) ⟨.bl _,H,I,rfl,?_⟩
  rw[show its.toArray.any (Jd x)=its.any (Jd x) by simp,sL r fs]
  exact q
theorem sF:fw X (.builtin "len") (λxs H Q=>∃p ys,xs=[.ref p]/\(qP X.K H p ys\/yF X.K H p ys)/\Q (.int ys.length) H):=by
 intro pins s σ H xs us Q I r h
 obtain⟨p,ys,rfl,hq,q⟩:=h
 obtain⟨u,rfl,rx⟩:=vals1 r
 cases rx
 have hn:=w5
 rcases hq with hq | hq
 ·obtain⟨its,r',pl,hz⟩:=I.list hq
  have hlen:=r'.length
  exact Calls.call_len_list pl.isList (by simp only[cD] <;> lia) ⟨.int ys.length,H,I.tok _,⟨s.toks+1,by rw[cD,hlen]⟩,q⟩
 ·obtain⟨its,r',pl,hz⟩:=I.tuple hq
  have hlen:=r'.length
  exact len_tuple pl (by simp only[cD] <;> lia) ⟨.int ys.length,H,I.tok _,⟨s.toks+1,by rw[cD,hlen]⟩,q⟩
theorem CK:fw X (.type "list") (λxs H Q=>∃p ys,xs=[.ref p]/\(qP X.K H p ys\/yF X.K H p ys)/\∀l,H l=none->Q (.ref l) (upd H l (.lst ys))):=by
 intro pins s σ H xs us Q I r h
 obtain⟨p,ys,rfl,hq,q⟩:=h
 obtain⟨u,rfl,rx⟩:=vals1 r
 cases rx
 have fin:∀(its:List Value),Vals ys its->ys.length<=sizeLine->∀(h':Heap) (c':Nat),(∀b o',s.heap.get? b=some o'->h'.get? b=some o')->
   h'.get? s.heap.objs.size=some { cls:=.type "list",dict:=none,data:=.seq its.toArray c',slots:=#[] }->EP X pins σ Q (.ref s.heap.objs.size) { s with heap:=h' }:=λits r' hz h' c' kp e=>
  ⟨.ref s.heap.objs.size,_,I.laid (t':=s.toks) kp (bx _) (show dj X.prog X.w _ h' _ (.lst ys) from ⟨hz,its,c',r',e⟩),rfl,q _ (I.bE.fresh (bx _))⟩
 rcases hq with hq | hq
 ·obtain⟨its,r',pl,hz⟩:=I.list hq
  have hlen:=r'.length
  obtain⟨o,ho,hc,n,hd⟩:=pl.isList
  exact call_list_seq p (.inl rfl) ho hc hd (λh' c' kp e=>fin its r' hz h' c' kp e) (by simp only[cD] <;> lia)
 ·obtain⟨its,r',pl,hz⟩:=I.tuple hq
  have hlen:=r'.length
  obtain⟨o,ho,hc,n,hd⟩:=pl
  exact call_list_seq p (.inr rfl) ho hc hd (λh' c' kp e=>fin its r' hz h' c' kp e) (by simp only[cD] <;> lia)
theorem yC:fw X (.type "tuple") (λxs H Q=>∃p ys,xs=[.ref p]/\((qP X.K H p ys/\∀l,H l=none->Q (.ref l) (upd H l (.tup ys)))\/(yF X.K H p ys/\Q (.ref p) H))):=by
 intro pins s σ H xs us Q I r h
 obtain⟨p,ys,rfl,h⟩:=h
 obtain⟨u,rfl,rx⟩:=vals1 r
 cases rx
 rcases h with ⟨hq,q⟩ | ⟨hq,q⟩
 ·obtain⟨its,r',pl,hz⟩:=I.list hq
  have hlen:=r'.length
  refine call_tuple_list pl.isList (λh' kp=>?_) (by simp only[cD] <;> lia)
  have I1:Inv X pins σ H { s with heap:=h' }:=I.kept (t':=s.toks) kp
  have I2:Inv X pins σ (upd H h'.objs.size (.tup ys)) { s with heap:=h'.push { cls:=.type "tuple",data:=.seq its.toArray } }:=
   I1.laid (t':=s.toks) (λb o e=>bZ _ e) (bx _) (show dj X.prog X.w _ _ _ (.tup ys) from ⟨hz,its,r',IsTup.new _ _⟩)
  exact⟨.ref h'.objs.size,_,I2,rfl,q _ (I1.bE.fresh (bx _))⟩
 ·obtain⟨its,r',pl,hz⟩:=I.tuple hq
  exact call_tuple_same pl ⟨.ref p,H,I,rfl,q⟩
def tyV(K:PySem.W.Frag)(T:String)(x:V)(H:Hp):Prop:=match x with
 | .str _=>T = "str"
 | .int _=>T = "int"
 | .ref p=>(T = "list"/\∃xs,qP K H p xs)\/(T = "tuple"/\∃o,K.lookup p=some o/\o.cls=.type "tuple"/\o.dict=none)\/
   (T = "dict"/\((∃aL,H p=some (.dK aL))\/∃aL,H p=some (.dT aL)))\/(T = "set"/\∃S n,H p=some (.set S n))
 | _=>False
theorem Xy{pins:List (Addr×Obj)}{σ:St}{H:Hp}{s:Shared}{T:String}{x:V}{v:Value}(I:Inv X pins σ H s)(r:RelV x v)(ty:tyV X.K T x H) :
  s.TypeIs v T/\∀a,v=.ref a->∃ob,s.heap.get? a=some ob/\ob.dict=none:=by
 cases x with
 | str z=>
  obtain⟨t,rfl⟩:=r
  cases (show T = "str" from ty)
  exact⟨typeIs_str s z t,λ_ e=>nomatch e⟩
 | int i=>
  obtain⟨t,rfl⟩:=r
  cases (show T = "int" from ty)
  exact⟨typeIs_int s i t,λ_ e=>nomatch e⟩
 | ref p=>
  cases r
  rcases ty with ⟨rfl,xs,hq⟩ | ⟨rfl,o,hk,hc,hd⟩ | ⟨rfl,hk⟩ | ⟨rfl,S,n,hk⟩
  ·obtain⟨its,_,pl,_⟩:=I.list hq
   refine⟨pl.isList.typeIs,λa e=>?_⟩
   cases e
   obtain⟨o,n,e,c,hd,_⟩:=pl
   exact⟨o,e,hd⟩
  ·refine⟨⟨o,I.mL p o hk,hc⟩,λa e=>?_⟩
   cases e
   exact⟨o,I.mL _ o hk,hd⟩
  ·have z:∃o,s.heap.get? p=some o/\o.ExactDict:=by
    rcases hk with ⟨aL,hk⟩ | ⟨aL,hk⟩
    ·obtain⟨_,_,_,_,o,_,_,e,ex,_⟩:=I.bE p _ hk
     exact⟨o,e,ex⟩
    ·obtain⟨_,_,_,_,o,_,_,e,ex,_⟩:=I.bE p _ hk
     exact⟨o,e,ex⟩
   obtain⟨o,e,ex⟩:=z
   refine⟨⟨o,e,ex.1⟩,λa e2=>?_⟩
   cases e2
   exact⟨o,e,ex.2.1⟩
  ·obtain⟨o,_,_,_,e,ex,_⟩:=I.bE p _ hk
   refine⟨⟨o,e,ex.1⟩,λa e2=>?_⟩
   cases e2
   exact⟨o,e,ex.2.1⟩
 | _=>exact False.elim ty
def Ox(K:PySem.W.Frag)(T:String)(r:V->List V->Hp->VK->Prop)(to:TE):TE:=λσ H Q=>to σ H λx H1=>tyV K T x H1/\r x [] H1 Q
def XH(K:PySem.W.Frag)(T:String)(r:V->List V->Hp->VK->Prop)(to:TE)(t:TA):TE:=λσ H Q=>to σ H λx H1=>tyV K T x H1/\t σ H1 λxs H2=>r x xs H2 Q
variable {o e:Expr}{es:List Expr}{to:TE}{t:TA}{name:Str}{apos dh:Pos}{T id:String}{r:V->List V->Hp->VK->Prop}
theorem zA(pa:PlainAttrs T)(slot:Slot T name id)(hty:typeOf (.builtin id)=pure (.type "method_descriptor"))(hm:MtR X id r)(ho:PE X o to)(ha:PA X (e::es) t)
  (aBt:attributeBase o name X.env (eval o X.env)=eval o X.env:=by rfl)
  (aEv:((backTo dh (starEach (e::es) X.env)).all (λx=>!x.1)&&(backToKw dh (keywordEach [] X.env)).all (λx=>x.1.isSome)
   && decide ((e::es).length+([]:List Keyword).length+(if ([]:List Keyword).isEmpty then 0 else 1)<30))=true:=by rfl)
  (hline:(apos.endLine==dh.line)=true:=by rfl) (hs:starEach (e::es) X.env=(false,eval e X.env)::starEach es X.env:=by rfl) (Zk:(backTo dh (starEach es X.env)).any (·.1)=false:=by rfl) :
  PE X (.Call (.Attribute o name apos) (e::es) [] dh) (XH X.K T r to t):=by
 intro pins s σ H Q I h
 refine wpAny_Call_method_late aBt aEv hline rfl (cU (ho pins s σ H _ I h) λv s1 ⟨x,H1,I1,r1,ty,q1⟩=>?_)
 obtain⟨h1,h2⟩:=Xy I1 r1 ty
 refine⟨T,id,pa,slot,hty,h1,h2,?_⟩
 have hA:=ha dh pins s1 σ H1 _ I1 q1
 rw[hs]at hA ⊢
 refine Calls.callWith_builtin (by show(false||(backTo dh (starEach es X.env)).any (·.1))=false;rw[Zk] <;> rfl) (Calls.evalArgs_plain ?_)
 exact cU hA λus s2 ⟨vs,H2,I2,r2,q2⟩=>hm pins s2 σ H2 x vs v us Q I2 r1 r2 q2
end
end L2
namespace L2
open PySem PySem.Spec PyProof.Rows
def MtM(X:Cx)(id:String)(r:V->List V->Hp->VK->Prop):Prop:=
 ∀(pins:List (Addr×Obj)) (s:Shared) (σ:St) (H:Hp) (x:V) (xs:List V) (v:Value) (us:List Value) (Q:VK),Inv X pins σ H s->RelV x v->Vals xs us->r x xs H Q->
  wpAny (model X.prog X.w) X.A (call (.builtin id) (v::us)) (EP X pins σ Q) X.xe s
theorem Vals.one:∀{x:V} {us:List Value},Vals [x] us->∃u,us=[u]/\RelV x u
 | _,_,.cons r .nil=>⟨_,rfl,r⟩
theorem Vals.two:∀{x y:V} {us:List Value},Vals [x,y] us->∃u v,us=[u,v]/\RelV x u/\RelV y v
 | _,_,_,.cons r (.cons q .nil)=>⟨_,_,rfl,r,q⟩
section
variable {X:Cx}{pins:List (Addr×Obj)}{σ:St}{H:Hp}{s:Shared}{l b:Addr}{xs ys zs:List V}
theorem Inv.aDO{its its':List Value}{n:Nat}{f:Array Value->Array Value}{t':Nat}(I:Inv X pins σ H s)(hH:H l=some (.lst xs))
  (e:s.heap.get? l=some { cls:=.type "list",data:=.seq its.toArray n }) (hf:f its.toArray=its'.toArray) (hv:Vals ys its') (hz:ys.length<=sizeLine) :
  Inv X pins σ (upd H l (.lst ys)) { s with heap:=s.heap.update l (Obj.mapSeq f),toks:=t' }:=by
 have q:=PySem.IsL.update e f
 rw[hf]at q
 refine I.write (x:=l) (e:=l) (by rw[hH];exact trivial) (.inl rfl) (λb' u hb hu=>(uO s.heap (Obj.mapSeq f) (fH hb)).trans hu) ⟨_,q⟩ ?_
 exact⟨hz,its',_,hv,q⟩
theorem Inv.aDP{its:List Value}{t':Nat}(I:Inv X pins σ H s)(hv:Vals ys its)(hz:ys.length<=sizeLine) :
  Inv X pins σ (upd H s.heap.objs.size (.lst ys)) { s with heap:=s.heap.push { cls:=.type "list",data:=.seq its.toArray },toks:=t' }:=
 I.laid (λ_ _ q=>bZ _ q) (bx _) ⟨hz,its,0,hv,cI _ rfl⟩
theorem Inv.fresh(I:Inv X pins σ H s):H s.heap.objs.size=none:=I.bE.fresh (bx _)
theorem Inv.YX(I:Inv X pins σ H s)(hH:H l=some (.lst xs)):xs.length<=sizeLine/\∃(its:List Value) (n:Nat),Vals xs its/\xs.length=its.length/\s.heap.get? l=some { cls:=.type "list",data:=.seq its.toArray n }:=by
 obtain⟨z,its,n,r,e⟩:=I.bE l _ hH
 exact⟨z,its,n,r,r.length,e⟩
end
section
variable {X:Cx}
def ou:V->List V->Hp->VK->Prop:=λx vs H Q=>∃l xs y,x=.ref l/\vs=[y]/\H l=some (.lst xs)/\xs.length<sizeLine/\Q .non (upd H l (.lst (xs++[y])))
theorem gp:MtM X "list.append" ou:=by
 intro pins s σ H x vs v us Q I rx rv h
 obtain⟨l,xs,y,rfl,rfl,hH,hz,q⟩:=h
 cases rx
 obtain⟨u,rfl,ru⟩:=rv.one
 obtain⟨z,its,n,r,hl,e⟩:=I.YX hH
 refine call_meets F.slot_list_append ⟨_,e,rfl⟩ F.entry_list_append (F.args_list_append_2 _ _) (PySem.list_append l its.toArray n u (by rw[cD];lia)) ⟨e,?_⟩
 refine⟨.non,_,I.aDO (its':=its++[u]) hH e (by simp) (r.append (.cons ru .nil)) ?_,rfl,q⟩
 rw[cS,Gz]
 lia
def rL:V->List V->Hp->VK->Prop:=λx vs H Q=>∃l b xs zs,x=.ref l/\vs=[.ref b]/\H l=some (.lst xs)/\H b=some (.lst zs)/\xs.length+zs.length<=sizeLine/\Q .non (upd H l (.lst (xs++zs)))
def j6:V->List V->Hp->VK->Prop:=λx vs H Q=>∃l xs i k y,x=.ref l/\vs=[.int i]/\H l=some (.lst xs)/\-(2 ^ 63)<=i/\i<2 ^ 63/\seqIndex? i xs.length=some k/\xs[k]?=some y/\Q y (upd H l (.lst (xs.eraseIdx k)))
def m9:V->List V->Hp->VK->Prop:=λx vs H Q=>∃l xs,x=.ref l/\vs=[]/\H l=some (.lst xs)/\Q .non (upd H l (.lst xs.reverse))
def wK:V->List V->Hp->VK->Prop:=λx vs H Q=>∃l xs,x=.ref l/\vs=[]/\H l=some (.lst xs)/\Q .non (upd H l (.lst []))
def L5:R2:=λx y H Q=>∃l b xs zs,x=.ref l/\y=.ref b/\H l=some (.lst xs)/\H b=some (.lst zs)/\xs.length+zs.length<=sizeLine/\∀p,H p=none->Q (.ref p) (upd H p (.lst (xs++zs)))
theorem Hx:oE X (binaryOp .Add) L5:=by
 intro pins s σ H x y v u Q I rx ry h
 obtain⟨l,b,xs,zs,rfl,rfl,hH,hB,hz,q⟩:=h
 cases rx
 cases ry
 obtain⟨z,its,n,r,hl,e⟩:=I.YX hH
 obtain⟨z2,Eu,n2,r2,Kh,e2⟩:=I.YX hB
 refine PySem.P.add_list e e2 ?_ (by rw[cD,cD];lia)
 have ea:its.toArray++Eu.toArray=(its++Eu).toArray:=by simp
 rw[ea]
 exact⟨.ref _,_,I.aDP (t':=s.toks) (r.append r2) (by rw[cS];lia),rfl,q _ I.fresh⟩
end
section
variable {prog:Program}{w:World}{A:Around}{E:Value->Shared->Prop}{s:Shared}
end
section
variable {X:Cx}
end
end L2
namespace L2
open PySem PySem.Spec PyProof.Rows
section
variable {κ:Type} [DecidableEq κ]
def fO(aL:List (κ×V))(k:κ):Option V:=(aL.find? λkv=>decide (kv.1=k)).map (·.2)
def putK(aL:List (κ×V))(k:κ)(v:V):List (κ×V):=
 if (aL.any λkv=>decide (kv.1=k))=true then aL.map (λkv=>if kv.1=k then (kv.1,v) else kv) else aL++[(k,v)]
def aBI(aL:List (κ×V))(k:κ):List (κ×V):=aL.filter λkv=>decide (kv.1≠k)
theorem eK{p:κ×V}{r:List (κ×V)}{k:κ}(e:p.1=k):fO (p::r) k=some p.2:=by simp[fO,tf,e]
theorem eL{p:κ×V}{r:List (κ×V)}{k:κ}(e:¬p.1=k):fO (p::r) k=fO r k:=by simp[fO,tf,e]
theorem kx(k:κ):∀aL:List (κ×V),(aL.any λkv=>decide (kv.1=k))=(fO aL k).isSome
 | []=>rfl
 | p::r=>by
  rw[pB]
  by_cases e:p.1=k
  ·simp only[eK e,decide_eq_true e,Bool.true_or,Option.isSome_some]
  ·rw[eL e,decide_eq_false e,Bool.false_or];exact kx k r
theorem Dn(k j:κ)(y:V):∀aL:List (κ×V),fO (aL.map λkv=>if kv.1=k then (kv.1,y) else kv) j=(fO aL j).map λx=>if j=k then y else x
 | []=>rfl
 | p::r=>by
  have ih:=Dn k j y r
  rw[eF]
  by_cases h:p.1=k
  ·rw[aB h]
   by_cases e:p.1=j
   ·rw[eK (p:=(p.1,y)) e,eK e,vT,aB (e.symm.trans h)]
   ·rw[eL (p:=(p.1,y)) e,eL e,ih]
  ·rw[aC h]
   by_cases e:p.1=j
   ·rw[eK (p:=p) e,eK e,vT,aC (λz=>h (e.trans z))]
   ·rw[eL (p:=p) e,eL e,ih]
theorem yR(k j:κ)(y:V):∀aL:List (κ×V),fO aL k=none->fO (aL++[(k,y)]) j=if j=k then some y else fO aL j
 | [],_=>by
  by_cases e:k=j
  ·rw[aB e.symm];exact eK (p:=(k,y)) e
  ·rw[aC (λz=>e z.symm)];exact eL (p:=(k,y)) e
 | p::r,hn=>by
  rw[List.cons_append]
  have hk:¬p.1=k:=λz=>by rw[eK z]at hn;cases hn
  rw[eL hk]at hn
  have ih:=yR k j y r hn
  by_cases e:p.1=j
  ·rw[eK e,eK e,aC (λz=>hk (e.trans z))]
  ·rw[eL e,eL e,ih]
theorem Oo(aL:List (κ×V))(k j:κ)(y:V):fO (putK aL k y) j=if j=k then some y else fO aL j:=by
 unfold putK
 by_cases a:(aL.any λkv=>decide (kv.1=k))=true
 ·rw[aB a,Dn]
  rw[kx]at a
  by_cases e:j=k
  ·obtain⟨x,hx⟩:=Option.isSome_iff_exists.mp a
   rw[aB e,e,hx,vT,aB rfl]
  ·rw[aC e]
   cases fO aL j with
   | none=>rfl
   | some x=>rw[vT,aC e]
 ·rw[aC a]
  refine yR k j y aL ?_
  rw[kx]at a
  cases q:fO aL k with
  | none=>rfl
  | some x=>rw[q]at a;exact(a rfl).elim
theorem nB(aL:List (κ×V))(k:κ)(v:V):(putK aL k v).length<=aL.length+1:=by
 unfold putK
 split
 ·rw[aY];lia
 ·rw[cS,eJ,vR];lia
theorem P5{aL:List (κ×V)}{k:κ}(v:V)(h:fO aL k=none):putK aL k v=aL++[(k,v)]:=by
 unfold putK
 rw[kx,h]
 exact aC (by decide)
theorem oO.t9{o:Option V}{u:Option Value}(r:oO o u):o.isSome=u.isSome:=by
 cases o with
 | none=>cases u with
  | none=>rfl
  | some _=>exact(show False from r).elim
 | some _=>cases u with
  | none=>exact(show False from r).elim
  | some _=>rfl
theorem KV.val{aL:List (κ×V)}{vs:List (κ×Value)}(r:KV aL vs)(k:κ):oO (fO aL k) (valueAt vs k):=by
 unfold KV at r
 induction r with
 | nil=>exact True.intro
 | @cons p q ps qs h t ih=>
  obtain⟨h1,h2⟩:=h
  by_cases e:p.1=k
  ·have e':q.1=k:=h1.symm.trans e
   have b:valueAt (q::qs) k=some q.2:=by simp[valueAt,tf,e']
   rw[eK e,b];exact h2
  ·have e':¬q.1=k:=λz=>e (h1.trans z)
   have b:valueAt (q::qs) k=valueAt qs k:=by simp[valueAt,tf,e']
   rw[eL e,b];exact ih
theorem KV.any{aL:List (κ×V)}{vs:List (κ×Value)}(r:KV aL vs)(k:κ):(aL.any λkv=>decide (kv.1=k))=vs.any λkv=>decide (kv.1=k):=by
 unfold KV at r
 induction r with
 | nil=>rfl
 | cons h t ih=>rw[pB,pB,ih,h.1]
theorem KV.repl{aL:List (κ×V)}{vs:List (κ×Value)}(r:KV aL vs)(k:κ){y:V}{u:Value}(ry:RelV y u) :
  KV (aL.map λkv=>if kv.1=k then (kv.1,y) else kv) (vs.map λkv=>if kv.1=k then (kv.1,u) else kv):=by
 unfold KV at r ⊢
 induction r with
 | nil=>exact .nil
 | @cons p q ps qs h t ih=>
  rw[eF,eF]
  refine .cons ?_ ih
  obtain⟨h1,h2⟩:=h
  by_cases e:p.1=k
  ·rw[aB e,aB (h1.symm.trans e)];exact⟨h1,ry⟩
  ·rw[aC e,aC (λz=>e (h1.trans z))];exact⟨h1,h2⟩
theorem KV.put{aL:List (κ×V)}{vs:List (κ×Value)}(r:KV aL vs)(k:κ){y:V}{u:Value}(ry:RelV y u):KV (putK aL k y) (stored vs k u):=by
 unfold putK stored
 rw[r.any k]
 by_cases e:(vs.any λkv=>decide (kv.1=k))=true
 ·rw[aB e,aB e];exact r.repl k ry
 ·rw[aC e,aC e];exact Paired.snoc r ⟨rfl,ry⟩
theorem KV.length{aL:List (κ×V)}{vs:List (κ×Value)}(r:KV aL vs):aL.length=vs.length:=Paired.length r
end
theorem J'{P:Program}{w:World}{k:Key}{u:Value}(r:RelV (kV k) u):(dH P w).is k u=true:=by
 cases k with
 | inl i=>obtain⟨t,e⟩:=(show ∃t,u=Value.int i t from r);subst e;exact El P w i t
 | inr x=>obtain⟨t,e⟩:=(show ∃t,u=Value.str x t from r);subst e;exact Ek P w x t
theorem zM{P:Program}{w:World}:∀{ks:List Key} {us:List Value},Vals (ks.map kV) us->ItemsAre (dH P w) ks us
 | [],_,r=>by rw[Af]at r;cases r;exact .nil
 | k::ks,_,r=>by
  rw[eF]at r
  cases r with
  | cons h t=>exact .cons (J' h) (zM t)
abbrev KT(H:Hp):List (List Key×V)->List (List Key×Addr×Value)->Prop:=Paired λp q=>p.1=q.1/\H q.2.1=some (.tup (p.1.map kV))/\RelV p.2 q.2.2
theorem KT.val{H:Hp}{aL:List (List Key×V)}{xs:List (List Key×Addr×Value)}(r:KT H aL xs)(k:List Key):oO (fO aL k) ((atKey xs k).map (·.2)):=by
 induction r with
 | nil=>exact True.intro
 | @cons p q ps qs h t ih=>
  obtain⟨h1,_,h2⟩:=h
  by_cases e:p.1=k
  ·have e':q.1=k:=h1.symm.trans e
   have b:atKey (q::qs) k=some q.2:=by simp[atKey,tf,e']
   rw[eK e,b];exact h2
  ·have e':¬q.1=k:=λz=>e (h1.trans z)
   have b:atKey (q::qs) k=atKey qs k:=by simp[atKey,tf,e']
   rw[eL e,b];exact ih
theorem KT.repl{H:Hp}{aL:List (List Key×V)}{xs:List (List Key×Addr×Value)}(r:KT H aL xs)(k:List Key){y:V}{u:Value}(ry:RelV y u) :
  KT H (aL.map λkv=>if kv.1=k then (kv.1,y) else kv) (xs.map (putAt k u)):=by
 induction r with
 | nil=>exact .nil
 | @cons p q ps qs h t ih=>
  rw[eF,eF]
  refine .cons ?_ ih
  obtain⟨h1,h2,h3⟩:=h
  unfold putAt
  by_cases e:p.1=k
  ·rw[aB e,aB (h1.symm.trans e)];exact⟨h1,h2,ry⟩
  ·rw[aC e,aC (λz=>e (h1.trans z))];exact⟨h1,h2,h3⟩
theorem KT.put{H:Hp}{aL:List (List Key×V)}{xs:List (List Key×Addr×Value)}(r:KT H aL xs)(k:List Key){b:Addr}{y:V}{u:Value}(hb:H b=some (.tup (k.map kV)))(ry:RelV y u) :
  KT H (putK aL k y) (storedH xs k b u):=by
 have e:(aL.any λkv=>decide (kv.1=k))=(atKey xs k).isSome:=by
  rw[kx,(r.val k).t9,Option.isSome_map]
 unfold putK storedH
 rw[e]
 by_cases q:(atKey xs k).isSome=true
 ·rw[aB q,aB q];exact r.repl k ry
 ·rw[aC q,aC q];exact Paired.snoc r ⟨rfl,hb,ry⟩
theorem KT.keeps{H H':Hp}{aL:List (List Key×V)}{xs:List (List Key×Addr×Value)}(r:KT H aL xs)(ht:∀b ys,H b=some (.tup ys)->H' b=some (.tup ys)):KT H' aL xs:=
 Paired.YM r λ_ _ z=>⟨z.1,ht _ _ z.2.1,z.2.2⟩
section
variable {P:Program}{w:World}{H:Hp}{h:Heap}{a:Addr}
theorem Ww{u:HO}(ok:hX P w H h)(e:Rd H a u):dj P w H h a u:=e.ok ok
theorem Ks{aL:List (Key×V)}(ok:hX P w H h)(e:Rd H a (.dK aL)):aL.length<=sizeLine/\(a==sysModules)=false/\∃vs,KV aL vs/\h.DictOf (dH P w) a vs:=
 show dj P w H h a (.dK aL) from Ww ok e
theorem aBK{aL:List (Key×V)}(ok:hX P w H h)(e:H a=some (.dK aL)):aL.length<=sizeLine/\(a==sysModules)=false/\∃vs,KV aL vs/\h.DictOf (dH P w) a vs:=Ks ok (.inl e)
theorem Cj{ks:List Key}(ok:hX P w H h)(e:H a=some (.tup (ks.map kV))):(tupleKind (dH P w)).is h ks a:=by
 obtain⟨_,its,r,o,h1,h2,n,h3⟩:=(show dj P w H h a (.tup (ks.map kV)) from ok a _ e)
 exact⟨o,its.toArray,n,h1,h2,h3,by simpa using zM r⟩
theorem Kq{aL:List (List Key×V)}(ok:hX P w H h)(e:Rd H a (.dT aL)):aL.length<=sizeLine/\(a==sysModules)=false/\
  ∃xs,KT H aL xs/\h.DictOfH (tupleKind (dH P w)) a xs:=by
 obtain⟨z,y,xs,r,o,es,ep,h1,h2,h3,h4,h5⟩:=(show dj P w H h a (.dT aL) from Ww ok e)
 refine⟨z,y,xs,r,o,es,ep,h1,h2,h3,h4,λx hx=>?_,h5⟩
 have all:∀{l:List (List Key×V)} {m:List (List Key×Addr×Value)},KT H l m->∀x∈m,(tupleKind (dH P w)).is h x.1 x.2.1:=by
  intro l m q
  induction q with
  | nil=>intro x hx;exact nomatch hx
  | @cons p q ps qs hq t ih=>
   intro x hx
   rcases bT.mp hx with e | hx
   ·subst e
    exact Cj ok (by rw[<-hq.1];exact hq.2.1)
   ·exact ih x hx
 exact all r x hx
theorem aBH{aL:List (List Key×V)}(ok:hX P w H h)(e:H a=some (.dT aL)):aL.length<=sizeLine/\(a==sysModules)=false/\
  ∃xs,KT H aL xs/\h.DictOfH (tupleKind (dH P w)) a xs:=Kq ok (.inl e)
end
def sU(H:Hp)(a:Addr)(y:V)(r:Option V):Prop:=
 (∃aL k,Rd H a (.dK aL)/\y=kV k/\r=fO aL k)\/∃aL k b,Rd H a (.dT aL)/\y=.ref b/\H b=some (.tup (k.map kV))/\r=fO aL k
def x9(H:Hp)(a:Addr)(y v:V)(H':Hp):Prop:=
 (∃aL k,H a=some (.dK aL)/\y=kV k/\aL.length<sizeLine/\H'=upd H a (.dK (putK aL k v)))\/
 ∃aL k b,H a=some (.dT aL)/\y=.ref b/\H b=some (.tup (k.map kV))/\aL.length<sizeLine/\H'=upd H a (.dT (putK aL k v))
theorem sU.k{H:Hp}{a:Addr}{aL:List (Key×V)}{k:Key}(e:H a=some (.dK aL)):sU H a (kV k) (fO aL k):=.inl ⟨aL,k,.inl e,rfl,rfl⟩
theorem sU.t{H:Hp}{a b:Addr}{aL:List (List Key×V)}{k:List Key}(e:H a=some (.dT aL))(eb:H b=some (.tup (k.map kV))):sU H a (.ref b) (fO aL k):=.inr ⟨aL,k,b,.inl e,rfl,eb,rfl⟩
theorem x9.k{H:Hp}{a:Addr}{aL:List (Key×V)}{k:Key}{v:V}(e:H a=some (.dK aL))(hl:aL.length<sizeLine):x9 H a (kV k) v (upd H a (.dK (putK aL k v))):=.inl ⟨aL,k,e,rfl,hl,rfl⟩
theorem x9.t{H:Hp}{a b:Addr}{aL:List (List Key×V)}{k:List Key}{v:V}(e:H a=some (.dT aL))(eb:H b=some (.tup (k.map kV)))(hl:aL.length<sizeLine) :
  x9 H a (.ref b) v (upd H a (.dT (putK aL k v))):=.inr ⟨aL,k,b,e,rfl,eb,hl,rfl⟩
section
variable {X:Cx}{pins:List (Addr×Obj)}{σ:St}{H:Hp}{s:Shared}{a:Addr}{y v:V}{u r:Value}{o:Option V}{A:Around}{E:Value->Shared->Prop}
theorem Inv.big(I:Inv X pins σ H s):sysModules<s.heap.objs.size:=by
 have h:mainGlobals<s.heap.objs.size:=(I.mod.glob.keeps I.bk).lt
 exact Nat.lt_trans (by decide) h
theorem Nm{Q:Value->Shared->Prop}(hu:A.units+1<cLine)(I:Inv X pins σ H s)(g:sU H a y (some v))(ry:RelV y u)(h:∀w' s',Inv X pins σ H s'->RelV v w'->Q w' s') :
  wpAny (model X.prog X.w) A (getItem (.ref a) u) Q E s:=by
 rcases g with ⟨aL,k,e,ey,l⟩ | ⟨aL,k,b,e,ey,eb,l⟩
 ·subst ey
  obtain⟨z,hd,vs,rel,dd⟩:=Ks I.bE e
  obtain⟨w',hw,Ph⟩:=oO.some_of (v:=v) (o:=valueAt vs k) (by rw[l];exact rel.val k)
  exact wpAny_getItem_of (J' ry) dd.mapOf hw (h w' _ (I.tok _) Ph)
 ·subst ey
  cases (show u=Value.ref b from ry)
  obtain⟨z,hd,xs,rel,dd⟩:=Kq I.bE e
  obtain⟨w',hw,Ph⟩:=oO.some_of (v:=v) (o:=(atKey xs k).map (·.2)) (by rw[l];exact rel.val k)
  obtain⟨p,hp,Sq⟩:=Option.map_eq_some_iff.mp hw
  refine wpAny_getItem_heap (tupleKind_room_in1 hu) (Cj I.bE eb) dd hp ?_
  rw[Sq]
  exact h w' _ (I.tok _) Ph
theorem V3{Q:Value->Shared->Prop}(hu:A.units+1<cLine)(I:Inv X pins σ H s)(g:sU H a y o)(ry:RelV y u)(h:∀s',Inv X pins σ H s'->Q (.bool (!o.isSome)) s') :
  wpAny (model X.prog X.w) A (compareOp .NotIn u (.ref a)) Q E s:=by
 rcases g with ⟨aL,k,e,ey,l⟩ | ⟨aL,k,b,e,ey,eb,l⟩
 ·subst ey
  obtain⟨z,hd,vs,rel,dd⟩:=Ks I.bE e
  refine wpAny_notIn_of (J' ry) hd dd.mapOf ?_
  rw[<-(rel.val k).t9,<-l]
  exact h _ (I.tok _)
 ·subst ey
  cases (show u=Value.ref b from ry)
  obtain⟨z,hd,xs,rel,dd⟩:=Kq I.bE e
  refine wpAny_notIn_heap (tupleKind_room_in1 hu) (Cj I.bE eb) hd dd ?_
  have q:=(rel.val k).t9
  rw[Option.isSome_map]at q
  rw[<-q,<-l]
  exact h _ (I.tok _)
theorem Kx{h':Heap}{t':Nat}{ob:HO}(I:Inv X pins σ H s)(mu:Mut (H a))(hs:Heap.SameBut a s.heap h')(he:∃q,h'.get? a=some q)(new:dj X.prog X.w (upd H a ob) h' a ob) :
  Inv X pins σ (upd H a ob) { s with heap:=h',toks:=t' }:=
 I.write (x:=a) (e:=a) mu (.inl rfl) (λb q hb z=>(hs.2 b hb).trans z) he new
theorem Z8{P:Program}{w:World}{H':Hp}{h':Heap}{aL:List (Key×V)}{vs:List (Key×Value)}(z:aL.length<=sizeLine)(hd:(a==sysModules)=false)(rel:KV aL vs)(dd:h'.DictOf (dH P w) a vs) :
  dj P w H' h' a (.dK aL):=⟨z,hd,vs,rel,dd⟩
theorem Nk{H':Hp}{Q:Unit->Shared->Prop}(hu:A.units+1<cLine)(I:Inv X pins σ H s)(g:x9 H a y v H')(ry:RelV y u)(rv:RelV v r)(h:∀s',Inv X pins σ H' s'->Q () s') :
  wpAny (model X.prog X.w) A (setItem (.ref a) u r) Q E s:=by
 rcases g with ⟨aL,k,e,ey,l,eH⟩ | ⟨aL,k,b,e,ey,eb,l,eH⟩
 ·subst ey eH
  obtain⟨z,hd,vs,rel,dd⟩:=aBK I.bE e
  have hz:vs.length<=sizeLine:=by rw[<-rel.length];exact z
  have hl:(putK aL k v).length<=sizeLine:=by have:=nB aL k v;lia
  refine wpAny_setItem_pairs (hsz:=hz) (J' ry) dd λh' dd' hs=>h _ ?_
  have he:∃q,h'.get? a=some q:=let ⟨q,_,_,hq,_⟩:=dd';⟨q,hq⟩
  exact Kx I (by rw[e];exact True.intro) hs he (Z8 hl hd (rel.put k rv) dd')
 ·subst ey eH
  cases (show u=Value.ref b from ry)
  obtain⟨z,hd,xs,rel,dd⟩:=aBH I.bE e
  have hz:xs.length<=sizeLine:=by rw[<-Paired.length rel];exact z
  have hl:(putK aL k v).length<=sizeLine:=by have:=nB aL k v;lia
  refine wpAny_setItem_heap (hsz:=hz) (tupleKind_room_in1 hu) (Cj I.bE eb) dd λh' dd' hs=>h _ ?_
  obtain⟨q,es,ep,hq,h2,h3,h4,_,h5⟩:=dd'
  refine Kx I (by rw[e];exact True.intro) hs ⟨q,hq⟩ ⟨hl,hd,_,(rel.put k eb rv).keeps λc ys ec=>?_,q,es,ep,hq,h2,h3,h4,h5⟩
  rw[av (bj ec e (λz=>nomatch z))]
  exact ec
end
section
variable {X:Cx}{pins:List (Addr×Obj)}{σ:St}{H:Hp}{s:Shared}{a:Addr}{aL:List (Key×V)}{k:Key}{u:Value}{A:Around}{E:Value->Shared->Prop}
end
def aAf(i:Expr):Prop:=∀ov iv,subscripted i false ov iv=operate [ov,iv] (getItem ov iv)
theorem Ti{prog:Program}{w:World}{A:Around}{E:Value->Shared->Prop}{s:Shared}{env:Env}{value slice:Expr}{pos:Pos}{T id:String}{Q:Value->Shared->Prop}
  (hl:typeLookup (.type T) "__getitem__" = pure (some (.builtin id))) (hs:aAf slice)
  (h:wpAny (model prog w) A (eval value env) (λo s₁=>wpAny (model prog w) A (eval slice env) (λi s₂=>s₂.TypeIs o T/\wpAny (model prog w) A (getItem o i) Q E s₂) E s₁) E s) :
  wpAny (model prog w) A (eval (.Subscript value slice pos) env) Q E s:=by
 refine Subscript_ (dE h (λo s₁ h₁=>dE h₁ (λi s₂ h₂=>?_) λ_ _ x=>x) λ_ _ x=>x)
 obtain⟨hT,h₂⟩:=h₂
 unfold subscriptTail
 refine ay ?_
 rw[getitemInPython_of_ne hT.not_modules]
 refine ay (wpAny_specialOf hT hl ?_)
 have fin:wpAny (model prog w) A (subscripted slice false o i) (λr s₃=>wpAny (model prog w) A (letTemporaryGo value o r >>= λ_=>pure r) Q E s₃) E s₂:=by
  rw[hs o i]
  exact wpAny_operating (dE h₂ (λr s₃ h₃=>ay (wpAny_letTemporaryGo (aK h₃))) λ_ _ x=>x)
 first
  | exact aK (ay fin)
  | exact ay (aK (ay fin))
  | exact ay fin
theorem Fq{X:Cx}{pins:List (Addr×Obj)}{σ:St}{H:Hp}{s:Shared}{a:Addr}{y:V}{o:Option V}(I:Inv X pins σ H s)(g:sU H a y o):s.TypeIs (.ref a) "dict":=by
 rcases g with ⟨aL,k,e,_,_⟩ | ⟨aL,k,b,e,_,_,_⟩
 ·obtain⟨_,_,vs,_,dd⟩:=Ks I.bE e
  exact dd.typeIs
 ·obtain⟨_,_,xs,_,dd⟩:=Kq I.bE e
  exact dd.typeIs
def yZ(td ty:TE):TE:=λσ H Q=>td σ H λx H1=>ty σ H1 λy H2=>∃a v,x=.ref a/\sU H2 a y (some v)/\Q v H2
def Bm(ty td:TE):TE:=λσ H Q=>ty σ H λy H1=>td σ H1 λx H2=>∃a o,x=.ref a/\sU H2 a y o/\Q (.bl (!o.isSome)) H2
def wJ(td ty tv:TE):TS:=λD σ H=>tv σ H λv H1=>td σ H1 λx H2=>ty σ H2 λy H3=>∃a H4,x=.ref a/\x9 H3 a y v H4/\D.nx σ H4
section
variable {X:Cx}{o i e value:Expr}{pos pos' Ou:Pos}{td ty tv:TE}
theorem Ur(hu:X.A.units+1<cLine)(ho:PE X o td)(hi:PE X i ty)(hs:aAf i):PE X (.Subscript o i pos) (yZ td ty):=by
 intro pins s σ H Q I h
 refine Ti PySem.F.slot_dict_getitem.lookup hs (cU (ho pins s σ H _ I h) λu s1 ⟨x,H1,I1,rx,q1⟩=>cU (hi pins s1 σ H1 _ I1 q1) λiv s2 ⟨y,H2,I2,ry,a,v,ex,g,q2⟩=>?_)
 subst ex
 obtain rfl:u=Value.ref a:=rx
 exact⟨Fq I2 g,Nm hu I2 g ry λw' s3 I3 Ph=>⟨v,H2,I3,Ph,q2⟩⟩
theorem Mj(hu:X.A.units+1<cLine)(hi:PE X i ty)(ho:PE X o td):PC X .NotIn i o (Bm ty td):=by
 intro pins s σ H Q I h
 refine cU (hi pins s σ H _ I h) λiv s1 ⟨y,H1,I1,ry,q1⟩=>cU (ho pins s1 σ H1 _ I1 q1) λu s2 ⟨x,H2,I2,rx,a,ov,ex,g,q2⟩=>?_
 subst ex
 obtain rfl:u=Value.ref a:=rx
 exact V3 hu I2 g ry λs3 I3=>⟨.bl (!ov.isSome),H2,I3,rfl,q2⟩
theorem Ug(hu:X.A.units+1<cLine)(ho:PE X o td)(hi:PE X i ty)(hv:PE X value tv)(hs:swapsWith value (some (.Subscript o i pos')) pos.line X.env=pure false) :
  PS X (.Assign [.Subscript o i pos'] value pos) (wJ td ty tv):=by
 intro pins s σ H D I h
 refine wpAny_Assign_Subscript (cU (hv pins s σ H _ I h) λr s1 ⟨v,H1,I1,rv,q1⟩=>cU (ho pins s1 σ H1 _ I1 q1) λu s2 ⟨x,H2,I2,rx,q2⟩=>cU (hi pins s2 σ H2 _ I2 q2) λiv s3 ⟨y,H3,I3,ry,a,H4,ex,g,q3⟩=>?_) hs
 subst ex
 obtain rfl:u=Value.ref a:=rx
 exact Nk hu I3 g ry rv λs4 I4=>⟨σ,H4,I4,q3⟩
end
theorem RN{P:Program}{w:World}{H:Hp}(h:Heap)(hb:sysModules<h.objs.size):dj P w H (h.push { cls:=.type "dict",data:=.dict #[] }) h.objs.size (.dK []):=
 ⟨dM _,pM.mpr (fH (bH hb)),[],.nil,Heap.DictOf.new h⟩
theorem RM{P:Program}{w:World}{H:Hp}(h:Heap)(hb:sysModules<h.objs.size):dj P w H (h.push { cls:=.type "dict",data:=.dict #[] }) h.objs.size (.dT []):=
 ⟨dM _,pM.mpr (fH (bH hb)),[],.nil,_,#[],0,cI _ rfl,⟨rfl,rfl,rfl⟩,rfl,rfl,pD⟩
def qe:TE:=λ_ H Q=>∀p,H p=none->Q (.ref p) (upd H p (.dK []))
def qd:TE:=λ_ H Q=>∀p,H p=none->Q (.ref p) (upd H p (.dT []))
section
variable {X:Cx}{pos:Pos}
theorem Qk:PE X (.Dict [] [] pos) qe:=λpins s σ H Q I h=>
 wpAny_Dict_empty ⟨.ref s.heap.objs.size,_,I.laid (a:=s.heap.objs.size) (o:=.dK []) (t':=s.toks) (λ_ _ q=>bZ _ q) (bx _) (RN s.heap I.big),rfl,h _ (I.bE.fresh (bx _))⟩
theorem Qj:PE X (.Dict [] [] pos) qd:=λpins s σ H Q I h=>
 wpAny_Dict_empty ⟨.ref s.heap.objs.size,_,I.laid (a:=s.heap.objs.size) (o:=.dT []) (t':=s.toks) (λ_ _ q=>bZ _ q) (bx _) (RM s.heap I.big),rfl,h _ (I.bE.fresh (bx _))⟩
end
def YL(aL more:List (Key×V)):List (Key×V):=more.foldl (λacc kv=>putK acc kv.1 kv.2) aL
structure M1(X:Cx)(o:Expr)(m:Str)(apos:Pos)(e:Expr)(dh:Pos):Prop where
 base:attributeBase o m X.env (eval o X.env)=eval o X.env
 few:((backTo dh (starEach [e] X.env)).all (λx=>!x.1)&&(backToKw dh (keywordEach [] X.env)).all (λx=>x.1.isSome)
  && decide (([e]:List Expr).length+([]:List Keyword).length+(if ([]:List Keyword).isEmpty then 0 else 1)<30))=true
 line:(apos.endLine==dh.line)=true
 trees:backTo dh (starEach [e] X.env)=[(false,eval e X.env)]
structure M2(X:Cx)(o:Expr)(m:Str)(apos:Pos)(e f:Expr)(dh:Pos):Prop where
 base:attributeBase o m X.env (eval o X.env)=eval o X.env
 few:((backTo dh (starEach [e,f] X.env)).all (λx=>!x.1)&&(backToKw dh (keywordEach [] X.env)).all (λx=>x.1.isSome)
  && decide (([e,f]:List Expr).length+([]:List Keyword).length+(if ([]:List Keyword).isEmpty then 0 else 1)<30))=true
 line:(apos.endLine==dh.line)=true
 trees:backTo dh (starEach [e,f] X.env)=[(false,eval e X.env),(false,eval f X.env)]
def IsD(H:Hp)(a:Addr):Prop:=(∃aL,Rd H a (.dK aL))\/∃aL,Rd H a (.dT aL)
section
variable {X:Cx}{pins:List (Addr×Obj)}{σ:St}{H:Hp}{s:Shared}{a:Addr}{y d:V}{u r:Value}{o:Option V}{A:Around}{E:Value->Shared->Prop}
end
def Bl(td ty:TE):TE:=λσ H Q=>td σ H λx H1=>∃a,x=.ref a/\IsD H1 a/\ty σ H1 λy H2=>∃aL k v,H2 a=some (.dK aL)/\y=kV k/\fO aL k=some v/\Q v (upd H2 a (.dK (aBI aL k)))
section
variable {X:Cx}{o e f:Expr}{apos dh:Pos}{td ty tx:TE}
end
section
variable {X:Cx}{pins:List (Addr×Obj)}{σ:St}{H:Hp}{s:Shared}{a:Addr}{aL:List (Key×V)}{A:Around}{E:Value->Shared->Prop}
end
section
variable {X:Cx}{pins:List (Addr×Obj)}{σ:St}{H:Hp}{s:Shared}{a:Addr}{y:V}{u:Value}{A:Around}{E:Value->Shared->Prop}
end
end L2
namespace Att
open PySem PySem.W PySem.Calls PyProof.Rows
theorem vj{P:Params}{h:Heap}:∀(ns:List Int) (vs:List Value),WellAll P h vs (ns.map WData.int)->IntsAre vs ns:=by
 intro ns
 induction ns with
 | nil=>
  intro vs w
  rw[Af]at w
  cases w
  exact .nil
 | cons n ns ih=>
  intro vs w
  rw[eF]at w
  cases w with
  | cons a b=>
   cases a
   exact .cons _ _ (ih _ b)
theorem Ly{l:OpenLaw}{n:Nat}(hn:l.most=some n){P:Params}{h:Heap}{args:List WData}{vals:List Value}
  (Vg:l.row.toRowW.claim.pre args=true) (hwl:WellAll P h vals args) :
  ∃a vs ns,vals=[Value.ref a]/\args=[WData.list (ns.map WData.int)]/\h.get? a=some { cls:=.type "list",data:=.seq vs.toArray }/\IntsAre vs ns/\ns.length<=n:=by
 have hsh:WShape.hasAll [] args [.list .int]=true:=(pre_splitW Vg).1
 have hc:l.pre.holds [] { args:=args }=true:=(pre_splitW Vg).2
 obtain⟨d,r,rfl,h1,h2⟩:=hasAllW_cons hsh
 obtain rfl:=hasAllW_nil h2
 obtain⟨xs,rfl,h3⟩:=hasW_list h1
 obtain⟨ns,rfl⟩:=items_int h3
 have hlen:ns.length<=n:=by
  unfold OpenLaw.pre at hc
  have h4:(WTm.not (.lt (.lit (.int (n:Int))) (.len (.arg 0)))).holds [] { args:=[.list (ns.map .int)] }=true:=by
   have h4:=(holds_andW hc).1
   rw[hn]at h4
   exact h4
  have h5:=condW_of h4 (w_not (w_lt w_lit (w_len_list (w_arg rfl))))
  rw[aY]at h5
  refine Nat.le_of_not_lt λq=>?_
  have q':(n:Int)<((ns.length:Nat):Int):=by lia
  first
   | (rw[decide_eq_true q']at h5;exact absurd h5 (by decide))
   | (simp at h5;lia)
 cases hwl with
 | cons w1 w2=>
  cases w2
  cases w1 with
  | list ho vn=>exact⟨_,_,ns,rfl,rfl,ho,vj ns _ vn,hlen⟩
theorem Mh(l:OpenLaw)(args:List WData):l.row.toRowW.claim.post args (.bool true) args=true:=
 postW_of (r:=l.row.toRowW) (X:=(true==true))
  (show WShape.has [] (.bool true) .bool=true by first | rfl | decide | simp[WShape.has,WShape.arms,WShape.armsAll])
  (show(WTm.eq .res (.lit (.bool true))).value [] { args:=args,res:=some (.bool true),after:=args }=some (.bool (true==true)) from w_eq_bool (w_res rfl) w_lit) rfl
theorem FT{l:OpenLaw}{n:Nat}{q:Program}{loose:List Str}{XP:(Str->Option Value)->Heap->Prop}{YP:World->Heap->Prop}{d:DefRec}
  (hn:l.most=some n) (hdf:d.params.defaults=[])
  (call:∀(w:World) (s₀ s₁:Shared) (mg mb:Str->Option Value) (fa:Addr) (o:Obj) (pm cd doc:Value) (a:Addr) (vs:List Value) (ns:List Int),
   Ground q loose [] XP w s₀ mg mb s₁.heap->YP w s₁.heap->
   s₁.heap.get? fa=some o->o.data=.func (docDef d.name d.params d.body d.scope pm cd doc)->s₁.heap.CodeRec cd d.name->mg d.name=some (.ref fa)->
   s₁.heap.get? a=some { cls:=.type "list",data:=.seq vs.toArray }->IntsAre vs ns->ns.length<=n->s₁.gens = #[]->
   codeAny (model l.prog w) callerA (.call (.ref fa) ⟨[.ref a],[]⟩) (λr s'=>r=.ok (.ret (.bool true))/\OldK s₁.heap s'.heap/\s'.os=s₁.os/\AllBare s'.gens) s₁) :
  WalkO q loose XP YP l.row.toRowW d [] (λf vs=>PySem.call f vs):=by
 intro w s₀ s₁ mg mb G Y fa o pm cd doc dV kV ho hd yA hD hmg hg args vals as Vg hlay hrd hwl hlo
 obtain rfl:dV=.none:=Dflts.none hD hdf
 obtain rfl:kV=.none:=Dflts.noKw hD
 obtain⟨a,vs,ns,rfl,rfl,Zr,hints,hlen⟩:=Ly hn Vg hwl
 refine enter_call (ko (call w s₀ s₁ mg mb fa o pm cd doc a vs ns G Y ho (fd_plain hd) yA hmg Zr hints hlen hg) λr s' hq=>?_)
 obtain⟨rfl,h2,h3,h4⟩:=hq
 exact⟨.inl ⟨.bool true,.bool true,[],rfl,λ_=>rfl,.bool true,Mh l _,λ_=>⟨List.Pairwise.nil,λ_ hm=>(nomatch hm)⟩⟩,h2,h3,h4⟩
section
variable {prog:Program}{w:World}{A:Around}{E:Value->Shared->Prop}{s:Shared}{K:Frag}
end
end Att
namespace L2
open PySem PySem.Spec PyProof.Rows
theorem tP:∀{vs:List Value} {ns:List Int},IntsAre vs ns->Vals (ns.map V.int) vs
 | _,_,.nil=>.nil
 | _,_,.cons n t h=>.cons ⟨t,rfl⟩ (tP h)
end L2
namespace L2
open PySem PySem.Spec PyProof.Rows
end L2
namespace L2
open PySem PySem.Spec PyProof.Rows
def aW(s:Stmt):Arguments:=match s with
 | .FunctionDef _ a _ _ _ _ _ _ _ _=>a
 | _=>{ posonlyargs:=[],args:=[],vararg:=none,kwonlyargs:=[],kw_defaults:=[],kwarg:=none,defaults:=[] }
def aO(s:Stmt):List Stmt:=match s with
 | .FunctionDef _ _ b _ _ _ _ _ _ _=>b
 | _=>[]
def ag(s:Stmt):Scope:=match s with
 | .FunctionDef _ _ _ _ _ _ sc _ _ _=>sc
 | _=>{ kind:=.function,names:=[],isGenerator:=false,isCoroutine:=false }
abbrev fN:K7:=λ_ _ _ _ _ _=>False
abbrev E0:XK:=λ_ _ _=>False
theorem bh{X:Cx}:Passes fN X E0:=λ_ _ _ _ _ _ _ h=>h.elim
structure jz(K:PySem.W.Frag)(x qual:Str)(st:Stmt)(f:Addr)(fd:FuncData):Prop where
 ex:∃(oc:Value) (od:Option Addr) (kV doc pm:Value) (an:Option Addr) (cP ct:Value) (J0:Array (Option Value)),
  fd=PySem.W.fnOf x qual (aW st) (aO st) (ag st) .none kV doc pm an cP ct/\K.lookup f=some ⟨oc,od,.func fd,J0⟩/\PySem.W.codeIn K cP qual=true
 kp:PySem.W.keepIn K (.ref f)=true
section
variable {P:Program}{w:World}{K:PySem.W.Frag}{mg:Str->Option Value}{base:Heap}
theorem jz.ok{x qual:Str}{st:Stmt}{f:Addr}{fd:FuncData}{N ps:List Str}{k:Nat}{sp:Sp}(F:jz K x qual st f fd)(S:aX N ps (ag st))(len:∀vs H Q E,sp vs H Q E->vs.length=ps.length)
  (fP:∀(cP:Value) (A:Around) (outer:List Env) (s:Shared) (H:Hp) (vs:List V) (Q:VK) (E:XK),cC k (A.deeper (envOfC qual (ag st) s.heap.objs.size f cP))->sp vs H Q E->
   ∃t,CW (fQ fN P w K mg base N qual (ag st) f cP A outer s H E).yc (aO st) t/\t { nx:=λ_ H'=>Q .non H',rt:=Q } (start N vs) H):bS P w K mg base fN (k+1) f fd ps sp:=by
 obtain⟨oc,od,kV,doc,pm,an,cP,ct,J0,rfl,lk,yA⟩:=F.ex
 refine RC lk yA S len λA outer s H vs Q E hr Gb=>?_
 obtain⟨t,h,q⟩:=fP cP A outer s H vs Q E hr Gb
 exact⟨t,h.yc,q⟩
theorem jz.binds{x qual:Str}{st:Stmt}{f:Addr}{fd:FuncData}{ps:List Str}(F:jz K x qual st f fd)
  (h:∀(kV doc pm:Value) (an:Option Addr) (cP ct:Value) (us:List Value),us.length=ps.length->bindArgs (PySem.W.fnOf x qual (aW st) (aO st) (ag st) .none kV doc pm an cP ct) ⟨us,[]⟩=pure (ps.zip us)):Binds K fd ps []:=by
 obtain⟨oc,od,kV,doc,pm,an,cP,ct,J0,rfl,lk,yA⟩:=F.ex
 exact .all (h kV doc pm an cP ct)
theorem bQ{x qual:Str}{st:Stmt}{f:Addr}{oc:Value}{od an:Option Addr}{J0:Array (Option Value)}{kV doc pm cP ct:Value}(l:K.lookup f=some ⟨oc,od,.func (PySem.W.fnOf x qual (aW st) (aO st) (ag st) .none kV doc pm an cP ct),J0⟩)
  (c:PySem.W.codeIn K cP qual=true) (k:PySem.W.keepIn K (.ref f)=true):jz K x qual st f (PySem.W.fnOf x qual (aW st) (aO st) (ag st) .none kV doc pm an cP ct):=⟨⟨oc,od,kV,doc,pm,an,cP,ct,J0,rfl,l,c⟩,k⟩
end
theorem nE{A:Around}{k:Nat}(hr:cC k A):A.units+1<cLine:=qT (Nat.add_le_add_left (by decide:1<=64) _) hr.units
theorem bU{n:Nat}(h:n<=1000):n<sizeLine:=qT h (by decide)
section
variable {X:Cx}
theorem pv(i:Nat){x:Str}{pos:Pos}(hN:X.N[i]?=some x:=by rfl)(hv:Vis X.env.scope x:=by first | exact Or.inl rfl | exact Or.inr (Or.inl rfl) | exact Or.inr (Or.inr rfl))(hd:(x==("__debug__" : Str))=false:=by decide)
  (yA:(x==("__classdict__" : Str))=false:=by decide):PE X (.Name x pos) (yh i):=Qf hN hv hd yA
end
def bN(H H':Hp):Prop:=∀b o,H b=some o->H' b=some o
theorem bN.refl(H:Hp):bN H H:=λ_ _ h=>h
theorem bN.trans{H H1 H2:Hp}(a:bN H H1)(b:bN H1 H2):bN H H2:=λc o h=>b c o (a c o h)
theorem bN.free{H H':Hp}(e:bN H H'){l:Addr}(h:H' l=Option.none):H l=Option.none:=by
 cases q:H l with
 | none=>rfl
 | some o=>
  rw[e l o q]at h
  cases h
section
variable {κ:Type} [DecidableEq κ]
end
end L2
end
section
theorem L2.hide{p:Prop}(h:∀q:Prop,(p->q)->q):p:=h p id
end
section
namespace L2
open PySem PySem.Spec PyProof.Rows
theorem uX{α β:Type}{f:α->β->Sem (ForInStep β)}(g:α->β->β):∀(l:List α) (b:β),(∀x∈l,∀c,f x c=pure (.yield (g x c)))->forIn l b f=pure (l.foldl (λc x=>g x c) b)
 | [],b,_=>rfl
 | x::l,b,h=>by
  rw[List.forIn_cons,h x du,pure_bind]
  exact uX g l (g x b) λy hy=>h y (dN _ hy)
def ft(env:Env)(names:List (Str×NameKind))(cs:List (Str×Addr)):List (Str×Addr):=
 names.foldl (λc y=>if y.2==NameKind.free then (y.1,(env.cells.lookup y.1).getD 0)::c else c) cs
theorem kP{scope:Scope}{env:Env}(h:∀y∈scope.names,y.2=.free->∃c,env.cells.lookup y.1=some c):closureFor scope env=pure (ft env scope.names []):=by
 simp only[closureFor]
 rw[uX (λy c=>if y.2==NameKind.free then (y.1,(env.cells.lookup y.1).getD 0)::c else c) scope.names [] (λx hx c=>by
  obtain⟨n,kind⟩:=x
  dsimp only
  by_cases hk:kind=.free
  ·subst hk
   obtain⟨a,e⟩:=h (n,.free) hx rfl
   have e':env.cells.lookup n=some a:=e
   have:cellOf env n=pure a:=by unfold cellOf;rw[e']
   rw[this,e']
   rfl
  ·have hb:(kind==NameKind.free)=false:=by simpa using hk
   rw[hb];rfl)]
 simp only[pure_bind]
 rfl
theorem um{env:Env}:∀(names:List (Str×NameKind)) (cs:List (Str×Addr)),(∀y∈names,y.2=.free->∃c,env.cells.lookup y.1=some c)->(∀p∈cs,env.cells.lookup p.1=some p.2)->
  ∀p∈ft env names cs,env.cells.lookup p.1=some p.2
 | [],cs,_,hc=>hc
 | y::r,cs,h,hc=>by
  unfold ft
  rw[jD]
  refine um r _ (λz hz=>h z (dN _ hz)) λp hp=>?_
  by_cases hk:y.2=.free
  ·have hb:(y.2==NameKind.free)=true:=by simpa using hk
   rw[aB hb]at hp
   rcases bT.mp hp with e | hp
   ·obtain⟨c,e1⟩:=h y du hk
    rw[e];dsimp only;rw[e1];rfl
   ·exact hc p hp
  ·have hb:¬(y.2==NameKind.free)=true:=by simpa using hk
   rw[aC hb]at hp
   exact hc p hp
theorem u0{env:Env}{p:Str×Addr}:∀(names:List (Str×NameKind)) (cs:List (Str×Addr)),p∈cs->p∈ft env names cs
 | [],_,h=>h
 | y::r,cs,h=>by
  unfold ft
  rw[jD]
  refine u0 r _ ?_
  split
  ·exact dN _ h
  ·exact h
theorem zW{env:Env}{x:Str}:∀(names:List (Str×NameKind)) (cs:List (Str×Addr)),(x,NameKind.free)∈names->∃c,(x,c)∈ft env names cs
 | y::r,cs,h=>by
  rcases bT.mp h with e | h
  ·subst e
   exact⟨_,by
    unfold ft;rw[jD]
    refine u0 r _ ?_
    rw[aB (by rfl)]
    exact du⟩
  ·obtain⟨c,hc⟩:=zW r (if y.2==NameKind.free then (y.1,(env.cells.lookup y.1).getD 0)::cs else cs) h
   exact⟨c,by unfold ft;rw[jD];exact hc⟩
theorem o5{f:Str->Option Addr}{x:Str}:∀{cs:List (Str×Addr)},(∀p∈cs,f p.1=some p.2)->(∃c,(x,c)∈cs)->cs.lookup x=f x
 | [],_,⟨_,h⟩=>nomatch h
 | (n,a)::r,hc,⟨c,h⟩=>by
  rw[ie]
  by_cases e:x=n
  ·subst e
   rw[iI]
   exact(hc (x,a) du).symm
  ·have hb:(x==n)=false:=by simpa using e
   rw[hb]
   refine o5 (λp hp=>hc p (dN _ hp)) ⟨c,?_⟩
   rcases bT.mp h with q | q
   ·exact absurd (fJ Prod.fst q) e
   ·exact q
theorem rH{env : Env}{y : Str} : ∀ {names : List (Str × NameKind)}, (∀ z ∈ names, z.2 ≠ .cell) →
    ((names.map λ(n, k) => if (k==NameKind.free&&env.scope.kind == .function&&env.kindOf n==some .cell) then (n, NameKind.cell) else (n, k)).lookup y=some .cell ∨
     (names.map λ(n, k) => if (k==NameKind.free&&env.scope.kind == .function&&env.kindOf n==some .cell) then (n, NameKind.cell) else (n, k)).lookup y=some .free) → names.lookup y=some .free
  | [], _, h => by rcases h with h | h <;> cases h
  | (n, k)::r, hc, h => by
    have ih := @rH env y r λz hz => hc z (dN _ hz)
    rw[eF]at h
    rw[ie]
    by_cases e : y=n
    · subst e
      rw[iI]
      by_cases hb : (k==NameKind.free&&env.scope.kind == .function&&env.kindOf y==some .cell)=true
      · have hk : k=.free := by
          rw[eI, eI]at hb
          simpa using hb.1.1
        rw[hk]
      · dsimp only at h
        rw[aC hb, ie, iI]at h
        dsimp only at h
        rcases h with h | h
        · exact absurd (eG h) (hc (y, k) du)
        · exact h
    · have hn : (y==n)=false := by simpa using e
      rw[hn]
      dsimp only at h ⊢
      apply ih
      by_cases hb : (k==NameKind.free&&env.scope.kind == .function&&env.kindOf n==some .cell)=true
      · rw[aB hb, ie, hn]at h
        exact h
      · rw[aC hb, ie, hn]at h
        exact h
structure CB where
 C:Addr
 cl:List (Str×Addr)
 s2:Shared
 H2:Hp
 ex:List Addr
@[reducible] def mq (X:Cx) (scope:Scope) (N:List Str) (c:CB):Cx:=
 { prog:=X.prog,w:=X.w,K:=X.K,mg:=X.mg,base:=X.base,A:=X.A,N:=N,s₀:=c.s2,H₀:=c.H2,env:=compEnvC scope c.cl c.C X.env,outer:=X.stack,stack:=X.stack,ex:=c.ex,fn:=λ_=>false,calm:=X.calm,pn:=[],xe:=λ_ _=>False }
def cw(σ:St)(idx:List Nat):St:=idx.map λi=>(σ[i]?).join
def cx(N:List Str)(idx:List Nat):List Str:=idx.map λi=>N.getD i ""
def CZ(X:Cx)(ifs:List Expr)(t:TT):Prop:=
 ∀(pins:List (Addr×Obj)) (s:Shared) (σ:St) (H:Hp) (Q:Bool->Hp->Prop),Inv X pins σ H s->t σ H Q->
  wpAny (model X.prog X.w) X.A (forIn ifs true λc r=>if r=true then do let ok <-isTrue c X.env (eval c X.env);pure (ForInStep.yield ok) else pure (ForInStep.yield r)) (TP X pins σ Q) X.xe s
def G7:TT:=λ_ H Q=>Q true H
theorem Qb{X:Cx}:CZ X [] G7:=λ_ _ _ H _ I h=>wpAny_tests_nil ⟨H,I,h⟩
theorem Qa{X:Cx}{e:Expr}{t:TT}(h:PT X e t):CZ X [e] t:=λpins s σ H Q I q=>wpAny_tests_one (h pins s σ H Q I q)
def wA(wi:TI)(k:Nat)(idx:List Nat)(g:CB->TG)(tt:CB->TT)(te:CB->TE):TE:=λσ H Q=>wi σ H λJ H1=>∀D,H1 D=none->∃W:Nat->Nat->List V->Hp->Prop,(∃m,W 0 m [] (upd H1 D (.lst [])))/\
 ∀i m ys H',W i m ys H'->(J.stop i H'/\Q (.ref D) H')\/(J.go i H'/\∃N:List V->Hp->Prop,(∀tN uC,N tN uC->∃m',m'<m/\W (i+1) m' tN uC)/\∀(c:CB) (own:St),own.length=k->∀x H2,J.Lb i H' x H2->g c x (own++cw σ idx) H2 λσ3 H3=>
  (∃fh,fh.length=k/\σ3=fh++cw σ idx)/\tt c σ3 H3 λb H4=>if b=true then te c σ3 H4 λy H5=>H5 D=some (.lst ys)/\ys.length<sizeLine/\N (ys++[y]) (upd H5 D (.lst (ys++[y]))) else N ys H4)
structure yb(X:Cx)(scope:Scope)(xs:List Str)(idx:List Nat):Prop where
 kind:scope.kind=.function
 j7:∀y∈scope.names,y.2≠.cell
 loc:∀y∈scope.names,y.2=.local->scope.names.lookup y.1=some .local
 free:∀y∈scope.names,y.2=.free->scope.names.lookup y.1=some .free/\(X.env.kindOf y.1=some .cell\/X.env.kindOf y.1=some .free)
 ix:∀i∈idx,∃y,X.N[i]?=some y/\scope.names.lookup y=some .free
section
variable {prog:Program}{w:World}{A:Around}{R:Result->Shared->Prop}{s:Shared}
theorem nL{elt target iter:Expr}{ifs:List Expr}{scope:Scope}{pos:Pos}{it acc:Value}{env:Env}(I:Nat->Shared->Prop)
  (turn:∀n s,I n s->wpAny (model prog w) A (pyNext it) (λr s₁=>match r with
   | none=>R (.ok .next) s₁
   | some v=>wpAny (model prog w) A (letOwnedTupleGo target it v) (λ_ s₁'=>wpAny (model prog w) A (assign target env v) (λ_ s₂=>
     wpAny (model prog w) A (forIn ifs true λc r=>if r=true then do let ok <-isTrue c env (eval c env);pure (ForInStep.yield ok) else pure (ForInStep.yield r)) (λok s₃=>
      if ok=true then wpAny (model prog w) A (eval elt env) (λx s₄=>
       wpAny (model prog w) A (call (.builtin "list.append") [acc,x]) (λ_ s₅=>∃m,m<n/\I m s₅) (λ_ _=>False) s₄) (λ_ _=>False) s₃
      else ∃m,m<n/\I m s₃) (λ_ _=>False) s₂) (λ_ _=>False) s₁') (λ_ _=>False) s₁) (λ_ _=>False) s)
  (n:Nat) (h:I n s) :
  codeAny (model prog w) A (.compLoop (.ListComp elt [⟨target,iter,ifs,0⟩] scope pos) 0 it acc env) R s:=by
 refine codeAny_loop rfl I (λn s hI=>?_) n h
 show wpAny _ A ((compTurn (.ListComp elt [⟨target,iter,ifs,0⟩] scope pos) 0 it acc env).onRaise (λx=>do noteFrame x env;theTreesLotGoes x)) _ _ s
 refine wpAny_noted ?_
 rw[compTurn_list]
 refine ay (sY (ay (dE (turn n s hI) (λr s₁ h₁=>?_) λ_ _ h'=>False.elim h')))
 cases r with
 | none=>exact aK h₁
 | some v=>
  refine ay (dE h₁ (λ_ s₁' h₁'=>?_) λ_ _ h'=>False.elim h')
  refine ay (dE h₁' (λ_ s₂ h₂=>ay (dE h₂ (λok s₃ h₃=>?_) λ_ _ h'=>False.elim h')) λ_ _ h'=>False.elim h')
  cases ok with
  | false=>exact aK ⟨rfl,h₃⟩
  | true=>
   exact ay (ay (dE h₃ (λx s₄ h₄=>ay (dE h₄ (λ_ s₅ h₅=>aK (aK ⟨rfl,h₅⟩)) λ_ _ h'=>False.elim h')) λ_ _ h'=>False.elim h'))
end
section
variable {X:Cx}{pins:List (Addr×Obj)}{σ:St}{H:Hp}{s:Shared}
theorem hX.but{P:Program}{w:World}{h h':Heap}{C:Addr}(x:hX P w H h)(hn:H C=none)(hs:Heap.SameBut C h h'):hX P w H h':=λb ob e=>by
 refine(x b ob e).stay (λc w' hc q=>(hs.2 c ?_).trans q) (λ_ q=>q) λ_ _ q=>q
 rintro rfl
 rcases hc with rfl | hc
 ·rw[hn]at e;cases e
 ·rw[hn]at hc;cases hc
theorem Un.but{fs ex:List Addr}{H':Hp}{h h1 h2:Heap}{C:Addr}(u:Un fs ex H H' h h1)(hC:h.get? C=none)(hs:Heap.SameBut C h1 h2):Un fs ex H H' h h2:=by
 have ne:∀b o,h.get? b=some o->b≠C:=λb o e z=>by rw[z,hC]at e;cases e
 exact⟨λb o e n h1 h2=>(hs.2 b (ne b o e)).trans (u.keep b o e n h1 h2),λb o e n h1 h2=>by
   obtain⟨sl,q⟩:=u.slot b o e n h1 h2
   exact⟨sl,(hs.2 b (ne b o e)).trans q⟩,u.free,λb o e h2=>by
   obtain⟨o',q⟩:=u.there b o e h2
   exact⟨o',(hs.2 b (ne b o e)).trans q⟩,u.tups,u.frzs,u.tbls⟩
theorem Oy{idx:List Nat}{j:Nat}{v:V}(h:(cw σ idx)[j]?=some (some v)):∃i,idx[j]?=some i/\σ[i]?=some (some v):=by
 unfold cw at h
 rw[cH]at h
 cases e:idx[j]? with
 | none=>rw[e]at h;cases h
 | some i=>
  rw[e]at h
  refine⟨i,rfl,?_⟩
  have h':(σ[i]?).join=some v:=eG h
  cases q:σ[i]? with
  | none=>rw[q]at h';cases h'
  | some o=>rw[q]at h';cases o with
   | none=>cases h'
   | some z=>cases h';rfl
theorem Oz{N:List Str}{idx:List Nat}{j i:Nat}{y:Str}(h:idx[j]?=some i)(e:N[i]?=some y):(cx N idx)[j]?=some y:=by
 unfold cx
 rw[cH,h]
 show some (N.getD i "")=some y
 rw[qV,e];rfl
theorem Inv.block{scope:Scope}{xs:List Str}{idx:List Nat}{fp:List Addr}{C:Addr}{h':Heap}{t':Nat}{H1:Hp}{D:Addr}{m0:Str->Option Value}(I:Inv X pins σ H s)(S:yb X scope xs idx)
  (hfp:∀b∈fp,De X pins H b) (Vp:∀b∈fp,∃o,s.heap.get? b=some o) (hC:s.heap.objs.size<=C) (hDC:D≠C) (hD:s.heap.objs.size<=D) (hn:h'.Ns C m0) (hk:∀b o,s.heap.get? b=some o->h'.get? b=some o)
  (hl:∃n,h'.get? D=some { cls:=.type "list",data:=.seq #[] n }) :
  Inv (mq X scope (xs++cx X.N idx) ⟨C,ft X.env scope.names [],s,H,fp⟩) [] (List.replicate xs.length none++cw σ idx) (upd H D (.lst [])) { s with heap:=h',toks:=t' }:=by
 have Fl:∀y∈scope.names,y.2=.free->∃c,X.env.cells.lookup y.1=some c:=λy hy e=>I.ok.has y.1 (S.free y hy e).2
 have vn:=um (env:=X.env) scope.names [] Fl (λp hp=>(nomatch hp))
 have o6:∀y c,(ft X.env scope.names []).lookup y=some c->X.env.cells.lookup y=some c:=λy c e=>vn (y,c) (kr e)
 have aBr:∀y,scope.names.lookup y=some .free->(ft X.env scope.names []).lookup y=X.env.cells.lookup y:=λy e=>o5 (f:=λn=>X.env.cells.lookup n) vn (zW scope.names [] (kr e))
 have lt:∀b,(∃o,s.heap.get? b=some o)->b<s.heap.objs.size:=λb ⟨o,e⟩=>aU e
 have hDn:H D=none:=I.bE.fresh hD
 refine⟨⟨I.ok.mod,S.kind,I.ok.glob,I.ok.blt,hC,λx y c h1 h2=>I.ok.inj x y c (o6 x c h1) (o6 y c h2),λy hy=>?_,λ_ _ e=>(nomatch e),I.ok.hd,I.ok.frames,.inl rfl,λb hb=>⟨?_,λx c e=>(hfp b hb).2.2.2.2.1 x c (o6 x c e)⟩,I.bs,e8 I.ok.Nt I.sz,λb o e hb=>?_,λb hb z=>?_,I.stack,I.Bo⟩,
  rfl,I.bare,?_,⟨m0,hn,λi y v e1 e2 hv=>?_⟩,λx c e=>?_,?_,λx c e=>?_,λp hp=>(nomatch hp),?_,?_⟩
 ·
  have q:scope.names.lookup y=some .free:=rH S.j7 hy
  have q2:=kr q
  obtain⟨c,e⟩:=Fl _ q2 rfl
  exact⟨c,(aBr y q).trans e⟩
 ·
  exact bH (cT (lt b (Vp b hb)) hC)
 ·
  rcases(hfp b hb).2.2.2.1 with z | z
  ·exact I.ok.QB b o e z
  ·exact absurd (cT (aU e) (e8 I.ok.Nt z)) (jC _)
 ·
  rcases bT.mp (I.tU b z) with q | q
  ·exact(hfp b hb).2.1 q
  ·exact(hfp b hb).2.2.1 q
 ·
  exact Un.laid hk hD hDn
 ·
  by_cases hi:i<xs.length
  ·rw[mh (by simpa using hi)]at e2
   rw[List.getElem?_replicate]at e2
   split at e2 <;> cases e2
  ·have Iw:xs.length<=i:=Nat.le_of_not_lt hi
   rw[jI (by simpa using Iw),vF]at e2
   obtain⟨i0,ei,es⟩:=Oy e2
   obtain⟨y',ey,ef⟩:=S.ix i0 (oV ei)
   have Ko:(xs++cx X.N idx)[i]?=some y:=e1
   rw[jI Iw,Oz ei ey]at Ko
   cases Ko
   obtain⟨m,hm,hl'⟩:=I.loc
   have ef2:=S.free (y,.free) (kr ef) rfl
   have vis:Vis X.env.scope y:=.inr ef2.2
   obtain⟨u,ru,lk⟩:=hl' i0 y v ey es vis
   refine⟨u,ru,?_⟩
   rcases lk with ⟨k1,_⟩ | ⟨_,c,ec,hc⟩
   ·rcases ef2.2 with z | z
    ·have z':X.env.kindOf y=some .cell:=z
     rw[k1]at z';cases z'
    ·have z':X.env.kindOf y=some .free:=z
     rw[k1]at z';cases z'
   ·refine .inr ⟨?_,c,(aBr y ef).trans ec,hc.keeps hk⟩
    rcases hv with z | z | z
    ·exfalso
     have z':(relabel scope X.env).names.lookup y=some .local:=z
     have:∀(names:List (Str×NameKind)),names.lookup y=some .free->(names.map λ(n,k)=>if (k==NameKind.free&&X.env.scope.kind == .function&&X.env.kindOf n==some .cell) then (n,NameKind.cell) else (n,k)).lookup y≠some .local:=by
      intro names
      induction names with
      | nil=>intro h;cases h
      | cons p r ih=>
       obtain⟨n,k⟩:=p
       intro h
       rw[eF]
       by_cases e:y=n
       ·subst e
        rw[ie,iI]at h
        cases h
        dsimp only
        split
        ·rw[ie,iI];exact λq=>nomatch q
        ·rw[ie,iI];exact λq=>nomatch q
       ·have hn:(y==n)=false:=by simpa using e
        rw[ie,hn]at h
        dsimp only
        split
        ·rw[ie,hn];exact ih h
        ·rw[ie,hn];exact ih h
     exact this scope.names ef z'
    ·exact .inl z
    ·exact .inr z
 ·
  obtain⟨v,q⟩:=I.cell x c (o6 x c e)
  exact⟨v,q.keeps hk⟩
 ·
  show upd H D (.lst []) C=none
  rw[av (fH hDC)]
  exact I.bE.fresh hC
 ·
  have e':=o6 x c e
  obtain⟨v,q⟩:=I.cell x c e'
  rw[av (bH (cT q.lt hD))]
  exact I.kL x c e'
 ·
  obtain⟨n,e⟩:=hl
  exact I.bE.laid hk hD ⟨dM _,[],n,.nil,e⟩
 ·show(List.replicate xs.length none++cw σ idx).length=(xs++cx X.N idx).length
  rw[cS,cS,vF]
  unfold cw cx
  rw[aY,aY]
end
section
variable {X:Cx}{elt target iter:Expr}{ifs:List Expr}{scope:Scope}{pos:Pos}{xs:List Str}{idx:List Nat}{wi:TI}{g:CB->TG}{tt:CB->TT}{te:CB->TE}
theorem Fv{pins:List (Addr×Obj)}{σ:St}{H2:Hp}{s2:Shared}{fp:List Addr}{it:Addr}{tn:Nat->Heap->Prop}{J:It}{Q:V->Hp->Prop}{RR:Value->Addr->Result->Shared->Prop}{E:Value->Shared->Prop}(hc:X.calm=true)(S:yb X scope xs idx)
  (hg:∀c,PG (mq X scope (xs++cx X.N idx) c) target (g c)) (ht:∀c,CZ (mq X scope (xs++cx X.N idx) c) ifs (tt c)) (he:∀c,PE (mq X scope (xs++cx X.N idx) c) elt (te c))
  (I2:Inv X pins σ H2 s2) (T:Turn X.prog X.w X.K target J fp it tn) (NQ:tn 0 s2.heap) (f2:∀b∈fp,De X pins H2 b)
  (h:∀D,H2 D=none->∃W:Nat->Nat->List V->Hp->Prop,(∃m,W 0 m [] (upd H2 D (.lst [])))/\
   ∀i m ys H',W i m ys H'->(J.stop i H'/\Q (.ref D) H')\/(J.go i H'/\∃N:List V->Hp->Prop,(∀tN uC,N tN uC->∃m',m'<m/\W (i+1) m' tN uC)/\∀(c:CB) (own:St),own.length=xs.length->∀x H2,J.Lb i H' x H2->g c x (own++cw σ idx) H2 λσ3 H3=>
    (∃fh,fh.length=xs.length/\σ3=fh++cw σ idx)/\tt c σ3 H3 λb H4=>if b=true then te c σ3 H4 λy H5=>H5 D=some (.lst ys)/\ys.length<sizeLine/\N (ys++[y]) (upd H5 D (.lst (ys++[y]))) else N ys H4))
  (hRR:∀D C σ' H' s',s2.heap.objs.size<=C->Inv (mq X scope (xs++cx X.N idx) ⟨C,ft X.env scope.names [],s2,H2,fp⟩) [] σ' H' s'->Q (.ref D) H'->RR (.ref D) C (.ok .next) s') :
  wpAny (model X.prog X.w) X.A (newList []) (λacc s₃=>wpAny (model X.prog X.w) X.A (newFunctionEnv scope X.env.globals (ft X.env scope.names []) [] X.env.qual none .none (some X.env)) (λaBP s₄=>
   codeAny (model X.prog X.w) X.A (.compStart (.ListComp elt [⟨target,iter,ifs,0⟩] scope pos) 0 (.ref it) acc { aBP with scope:=relabel scope X.env }) (RR acc aBP.locals) s₄) E s₃) E s2:=by
 refine iJ (wpAny_newFunctionEnv S.j7 (by intro y hy;simp at hy) (λh₁ Zt Vd=>?_) S.kind)
 dsimp only at Zt Vd ⊢
 generalize hH2:s2.heap.push { cls:=.type "list",dict:=none,data:=.seq ([]:List Value).toArray }=HH at Zt Vd ⊢
 have hCs:HH.objs.size=s2.heap.objs.size+1:=by rw[<-hH2,kZ]
 have hDC:s2.heap.objs.size≠HH.objs.size:=by rw[hCs];exact bH (tF _)
 have Z0:s2.heap.objs.size<=HH.objs.size:=by rw[hCs];exact iY _
 have old:∀b o,s2.heap.get? b=some o->h₁.get? b=some o:=λb o e=>Vd.extBut b o (by rw[hCs];exact bH (pH (aU e))) (bZ _ (hH2 ▸ bZ _ e))
 have Fn:∃n,h₁.get? s2.heap.objs.size=some { cls:=.type "list",data:=.seq #[] n }:=⟨_,Vd.extBut _ _ hDC (bZ _ (hH2 ▸ cI _ rfl))⟩
 have Wt:tn 0 h₁:=T.keep _ _ _ NQ λb _ o e=>old b o e
 obtain⟨W,⟨m0,w0⟩,turn⟩:=h s2.heap.objs.size I2.fresh
 have loop:∀s₃:Shared,s₃={ s2 with heap:=h₁,toks:=s2.toks+([]:List (Str×Value)).length }->
   codeAny (model X.prog X.w) X.A (.compLoop (.ListComp elt [⟨target,iter,ifs,0⟩] scope pos) 0 (.ref it) (.ref s2.heap.objs.size) (compEnvC scope (ft X.env scope.names []) HH.objs.size X.env)) (RR (.ref s2.heap.objs.size) HH.objs.size) s₃:=by
  rintro s₃ rfl
  have I3:=I2.block (t':=s2.toks+([]:List (Str×Value)).length) (H1:=H2) S f2 (λb hb=>let ⟨o,e,_⟩:=T.obj _ _ NQ b hb;⟨o,e⟩) Z0 hDC (bx _) Zt old Fn
  generalize hY:mq X scope (xs++cx X.N idx) ⟨HH.objs.size,ft X.env scope.names [],s2,H2,fp⟩=Y at I3
  have eY:Y=mq X scope (xs++cx X.N idx) ⟨HH.objs.size,ft X.env scope.names [],s2,H2,fp⟩:=hY.symm
  have nof:∀b∈fp,b∉Y.fs:=λb hb z=>by
   rw[eY]at z
   rcases bT.mp (I2.tU b z) with q | q
   ·exact(f2 b hb).2.1 q
   ·exact(f2 b hb).2.2.1 q
  have stat:∀{H':Hp},(∀b∈fp,H' b=none)->∀b∈fp,De Y [] H' b:=λ{H'} hn b hb=>by
   have lt:b<s2.heap.objs.size:=let ⟨o,e,_⟩:=T.obj _ _ NQ b hb;aU e
   refine⟨hn b hb,?_,nof b hb,.inl (by rw[eY];exact hb),λx c e=>?_,λp hp=>?_⟩
   ·rw[eY];exact bH (cT lt Z0)
   ·rw[eY]at e
    have vn:=um (env:=X.env) scope.names [] (λy hy e=>I2.ok.has y.1 (S.free y hy e).2) (λp hp=>nomatch hp)
    exact(f2 b hb).2.2.2.2.1 x c (vn (x,c) (kr e))
   ·rw[eY]at hp;exact nomatch hp
  have T':Turn Y.prog Y.w Y.K target J fp it tn:=by rw[eY];exact T
  have hg':PG Y target (g ⟨HH.objs.size,ft X.env scope.names [],s2,H2,fp⟩):=by rw[eY];exact hg _
  have Ze:CZ Y ifs (tt ⟨HH.objs.size,ft X.env scope.names [],s2,H2,fp⟩):=by rw[eY];exact ht _
  have he':PE Y elt (te ⟨HH.objs.size,ft X.env scope.names [],s2,H2,fp⟩):=by rw[eY];exact he _
  have hcY:Y.calm=true:=by rw[eY];exact hc
  have eA:Y.A=X.A:=by rw[eY]
  have eP:Y.prog=X.prog:=by rw[eY]
  have eW:Y.w=X.w:=by rw[eY]
  have eE:Y.env=compEnvC scope (ft X.env scope.names []) HH.objs.size X.env:=by rw[eY]
  have eX:Y.xe=λ_ _=>False:=by rw[eY]
  have fin:∀σ' H' s',Inv Y [] σ' H' s'->Q (.ref s2.heap.objs.size) H'->RR (.ref s2.heap.objs.size) HH.objs.size (.ok .next) s':=λσ' H' s' I' q=>hRR _ _ σ' H' s' Z0 (by rw[<-eY];exact I') q
  rw[<-eE,<-eA,<-eP,<-eW]
  have fr0:∀b∈fp,(upd H2 s2.heap.objs.size (.lst [])) b=none:=λb hb=>by
   have lt:b<s2.heap.objs.size:=let ⟨o,e,_⟩:=T.obj _ _ NQ b hb;aU e
   rw[av (bH lt)];exact(f2 b hb).1
  refine nL (λn s'=>∃i ys own H',own.length=xs.length/\Inv Y [] (own++cw σ idx) H' s'/\tn i s'.heap/\(∀b∈fp,H' b=none)/\W i n ys H') ?_ m0
   ⟨0,[],_,_,vF,I3,Wt,fr0,w0⟩
  rintro n s4 ⟨i,ys,own,H4,aEo,I4,st4,fr4,w4⟩
  rcases turn i n ys H4 w4 with ⟨stop,qn⟩ | ⟨go,NN,hNN,step⟩
  ·exact cU (T'.done Y rfl rfl rfl hcY i [] s4 _ H4 _ I4 (stat fr4) st4 stop) λr s5 ⟨hr,I5⟩=>by subst hr;exact fin _ _ _ I5 qn
  ·refine cU (T'.item Y rfl rfl rfl hcY i [] s4 _ H4 _ I4 (stat fr4) st4 go) λr s5 ⟨u,hr,h5⟩=>?_
   subst hr
   refine cU h5 λ_ s6 ⟨x,H6,I6,r6,y6,st6,fr6⟩=>?_
   have I6':=I6.pinned (stat fr6) (T'.obj _ _ st6)
   have step':=step ⟨HH.objs.size,ft X.env scope.names [],s2,H2,fp⟩ own aEo x H6 y6
   refine dE (hg' _ s6 _ H6 x u _ I6' r6 step') (λ_ s7 ⟨σ7,H7,I7,q7⟩=>?_) (λ_ _ z=>by rw[eX]at z;exact z)
   obtain⟨⟨aC8,ho7,e7⟩,q7⟩:=q7
   refine dE (Ze _ s7 σ7 H7 _ I7 q7) (λb s8 ⟨H8,I8,q8⟩=>?_) (λ_ _ z=>by rw[eX]at z;exact z)
   have again:∀{H9:Hp} {s9:Shared} {tN:List V},Inv Y ([]++wQ fp s6.heap) σ7 H9 s9->NN tN H9->∃m,m<n/\∃i ys own H',own.length=xs.length/\Inv Y [] (own++cw σ idx) H' s9/\tn i s9.heap/\(∀b∈fp,H' b=none)/\W i m ys H':=λ{H9 s9 tN} I9 n9=>by
    obtain⟨m',hm,w9⟩:=hNN _ _ n9
    rw[e7]at I9
    refine⟨m',hm,i+1,tN,aC8,H9,ho7,I9.rh,T'.keep _ _ _ st6 λb hb o e=>(I9.pin (b,o) (iX _ (iX _ (lH hb e)))).1,λb hb=>?_,w9⟩
    obtain⟨o,e,d⟩:=T'.obj _ _ st6 b hb
    exact(I9.pin (b,o) (iX _ (iX _ (lH hb e)))).2.1
   cases b with
   | false=>exact again I8 q8
   | true=>
    refine dE (he' _ s8 σ7 H8 _ I8 q8) (λu9 s9 ⟨y,H9,I9,r9,hy,hz,q9⟩=>?_) (λ_ _ z=>by rw[eX]at z;exact z)
    have ap:=gp (X:=Y) _ s9 σ7 H9 (.ref s2.heap.objs.size) [y] (.ref s2.heap.objs.size) [u9] (λ_ Xs=>NN (ys++[y]) Xs) I9 rfl (.cons r9 .nil) ⟨_,ys,y,rfl,rfl,hy,hz,q9⟩
    refine dE ap (λ_ LQ ⟨_,Xs,I10,_,q10⟩=>again I10 q10) (λ_ _ z=>by rw[eX]at z;exact z)
 exact codeAny_compStart_list (loop _ rfl) (T.self _ 0 _ _ _ Wt (loop _ rfl))
theorem Us(hc:X.calm=true)(S:yb X scope xs idx)(hi:PI X target iter wi)
  (hg:∀c,PG (mq X scope (xs++cx X.N idx) c) target (g c)) (ht:∀c,CZ (mq X scope (xs++cx X.N idx) c) ifs (tt c)) (he:∀c,PE (mq X scope (xs++cx X.N idx) c) elt (te c))
  (hs:∀x,foldedSetIterable iter X.env x=pure x:=by intro _;rfl):PE X (.ListComp elt [⟨target,iter,ifs,0⟩] scope pos) (wA wi xs.length idx g tt te):=by
 intro pins s σ H Q I h
 rw[eval_ListComp]
 have Rc:closureFor scope X.env=pure (ft X.env scope.names []):=kP λy hy e=>I.ok.has y.1 (S.free y hy e).2
 refine wpAny_comprehension_free (use:=none) rfl hs Rc S.kind S.loc (cU (hi pins s σ H _ I h) λxv s₁ h₁=>cU h₁ λitv s₂ h₂=>?_)
 obtain⟨it,fp,tn,J,H2,e,I2,T,NQ,f2,hW⟩:=h₂
 subst e
 refine Fv (Q:=Q) (RR:=λacc C=>compPost (model X.prog X.w) X.A X.xe none (EP X pins σ Q) acc C) hc S hg ht he I2 T NQ f2 hW ?_
 intro D C σ' H' s' hC I' q
 obtain⟨m',hn,_⟩:=I'.loc
 refine⟨m',hn,λh'' aBh=>?_⟩
 obtain⟨hh,gg,d,t,os⟩:=s'
 obtain rfl:os=s₂.os:=I'.os
 have Cn:s₂.heap.get? C=none:=tH hC
 refine⟨.ref D,H',I2.call (s:=s₂) (h':=h'') (g':=gg) (d':=d) (t':=t) (ch:=fp) (I'.base.but Cn aBh) (I'.bE.but I'.free aBh) I'.bare (λb hb=>?_),rfl,q⟩
 obtain⟨_,f1,_,f3,f4,f5⟩:=f2 b hb
 exact⟨f3,f1,f4,f5⟩
end
theorem Je{lo:Int}{n k:Nat}{idx:List Nat}{g:CB->TG}{tt:CB->TT}{te:CB->TE}{σ:St}{Q:VK}{H1:Hp}{D:Addr}(Pv:Nat->List V->Hp->Prop)(h0:Pv 0 [] (upd H1 D (.lst [])))
  (hs:∀i ys H,i<n->Pv i ys H->∀(c:CB) (own:St),own.length=k->g c (.int (lo+i)) (own++cw σ idx) H λσ3 H3=>
   (∃fh,fh.length=k/\σ3=fh++cw σ idx)/\tt c σ3 H3 λb H4=>if b=true then te c σ3 H4 λy H5=>H5 D=some (.lst ys)/\ys.length<sizeLine/\Pv (i+1) (ys++[y]) (upd H5 D (.lst (ys++[y]))) else Pv (i+1) ys H4)
  (hd:∀ys H,Pv n ys H->Q (.ref D) H) :
  ∃W:Nat->Nat->List V->Hp->Prop,(∃m,W 0 m [] (upd H1 D (.lst [])))/\
   ∀i m ys H',W i m ys H'->((Jq lo n).stop i H'/\Q (.ref D) H')\/((Jq lo n).go i H'/\∃N:List V->Hp->Prop,(∀tN uC,N tN uC->∃m',m'<m/\W (i+1) m' tN uC)/\∀(c:CB) (own:St),own.length=k->∀x H2,(Jq lo n).Lb i H' x H2->g c x (own++cw σ idx) H2 λσ3 H3=>
    (∃fh,fh.length=k/\σ3=fh++cw σ idx)/\tt c σ3 H3 λb H4=>if b=true then te c σ3 H4 λy H5=>H5 D=some (.lst ys)/\ys.length<sizeLine/\N (ys++[y]) (upd H5 D (.lst (ys++[y]))) else N ys H4):=by
 refine⟨λi m ys H=>m=n-i/\i<=n/\Pv i ys H,⟨n,by simp,dM _,h0⟩,?_⟩
 rintro i m ys H ⟨rfl,hi,p⟩
 by_cases jj:i<n
 ·refine .inr ⟨jj,Pv (i+1),λtN H' p'=>⟨n-(i+1),by omega,rfl,jj,p'⟩,λc own ho x H' y=>?_⟩
  obtain⟨e,y⟩:=y
  subst e y
  exact hs i ys _ jj p c own ho
 ·have e:i=n:=by omega
  subst e
  exact .inl ⟨bx _,hd ys H p⟩
theorem Np{K:PySem.W.Frag}{a:Addr}{zs:List V}{k:Nat}{idx:List Nat}{g:CB->TG}{tt:CB->TT}{te:CB->TE}{σ:St}{Q:VK}{H1:Hp}{D:Addr}(Pv:Nat->List V->Hp->Prop)(h0:Pv 0 [] (upd H1 D (.lst [])))
  (hl:∀i ys H,i<=zs.length->Pv i ys H->qP K H a zs)
  (hs:∀i x ys H,zs[i]?=some x->Pv i ys H->∀(c:CB) (own:St),own.length=k->g c x (own++cw σ idx) H λσ3 H3=>
   (∃fh,fh.length=k/\σ3=fh++cw σ idx)/\tt c σ3 H3 λb H4=>if b=true then te c σ3 H4 λy H5=>H5 D=some (.lst ys)/\ys.length<sizeLine/\Pv (i+1) (ys++[y]) (upd H5 D (.lst (ys++[y]))) else Pv (i+1) ys H4)
  (hd:∀ys H,Pv zs.length ys H->Q (.ref D) H) :
  ∃W:Nat->Nat->List V->Hp->Prop,(∃m,W 0 m [] (upd H1 D (.lst [])))/\
   ∀i m ys H',W i m ys H'->((Jr K a).stop i H'/\Q (.ref D) H')\/((Jr K a).go i H'/\∃N:List V->Hp->Prop,(∀tN uC,N tN uC->∃m',m'<m/\W (i+1) m' tN uC)/\∀(c:CB) (own:St),own.length=k->∀x H2,(Jr K a).Lb i H' x H2->g c x (own++cw σ idx) H2 λσ3 H3=>
    (∃fh,fh.length=k/\σ3=fh++cw σ idx)/\tt c σ3 H3 λb H4=>if b=true then te c σ3 H4 λy H5=>H5 D=some (.lst ys)/\ys.length<sizeLine/\N (ys++[y]) (upd H5 D (.lst (ys++[y]))) else N ys H4):=by
 refine⟨λi m ys H=>m=zs.length-i/\i<=zs.length/\Pv i ys H,⟨zs.length,by simp,dM _,h0⟩,?_⟩
 rintro i m ys H ⟨rfl,hi,p⟩
 have q:=hl i ys H hi p
 by_cases jj:i<zs.length
 ·refine .inr ⟨⟨zs,zs[i],q,by simp[jj]⟩,Pv (i+1),λtN H' p'=>⟨zs.length-(i+1),by omega,rfl,jj,p'⟩,λc own ho x H' y=>?_⟩
  obtain⟨e,y⟩:=y
  subst e
  exact hs i x ys _ (y zs q) p c own ho
 ·have e:i=zs.length:=by omega
  subst e
  exact .inl ⟨⟨zs,q,bx _⟩,hd ys H p⟩
theorem Yz{own:St}{k:St}{x:V}(h:own.length=1):(own++k).set 0 (some x)=[some x]++k:=by
 match own,h with
 | [_],_=>rfl
theorem Fw{lo:Int}{n:Nat}{idx:List Nat}{tt:CB->TT}{te:CB->TE}{σ:St}{Q:VK}{H1:Hp}{D:Addr}(Pv:Nat->List V->Hp->Prop)(h0:Pv 0 [] (upd H1 D (.lst [])))
  (hs:∀i ys H,i<n->Pv i ys H->∀(c:CB),tt c (some (.int (lo+i))::cw σ idx) H λb H4=>if b=true then te c (some (.int (lo+i))::cw σ idx) H4 λy H5=>H5 D=some (.lst ys)/\ys.length<sizeLine/\Pv (i+1) (ys++[y]) (upd H5 D (.lst (ys++[y]))) else Pv (i+1) ys H4)
  (hd:∀ys H,Pv n ys H->Q (.ref D) H) :
  ∃W:Nat->Nat->List V->Hp->Prop,(∃m,W 0 m [] (upd H1 D (.lst [])))/\
   ∀i m ys H',W i m ys H'->((Jq lo n).stop i H'/\Q (.ref D) H')\/((Jq lo n).go i H'/\∃N:List V->Hp->Prop,(∀tN uC,N tN uC->∃m',m'<m/\W (i+1) m' tN uC)/\∀(c:CB) (own:St),own.length=1->∀x H2,(Jq lo n).Lb i H' x H2->dA 0 x (own++cw σ idx) H2 λσ3 H3=>
    (∃fh,fh.length=1/\σ3=fh++cw σ idx)/\tt c σ3 H3 λb H4=>if b=true then te c σ3 H4 λy H5=>H5 D=some (.lst ys)/\ys.length<sizeLine/\N (ys++[y]) (upd H5 D (.lst (ys++[y]))) else N ys H4):=
 Je (g:=λ_=>dA 0) Pv h0 (λi ys H hi p c own ho=>by
  show(∃fh,fh.length=1/\(own++cw σ idx).set 0 _=fh++cw σ idx)/\tt c ((own++cw σ idx).set 0 _) H _
  rw[Yz ho]
  exact⟨⟨[_],rfl,rfl⟩,hs i ys H hi p c⟩) hd
theorem Jf{K:PySem.W.Frag}{a:Addr}{zs:List V}{idx:List Nat}{tt:CB->TT}{te:CB->TE}{σ:St}{Q:VK}{H1:Hp}{D:Addr}(Pv:Nat->List V->Hp->Prop)(h0:Pv 0 [] (upd H1 D (.lst [])))
  (hl:∀i ys H,i<=zs.length->Pv i ys H->qP K H a zs)
  (hs:∀i x ys H,zs[i]?=some x->Pv i ys H->∀(c:CB),tt c (some x::cw σ idx) H λb H4=>if b=true then te c (some x::cw σ idx) H4 λy H5=>H5 D=some (.lst ys)/\ys.length<sizeLine/\Pv (i+1) (ys++[y]) (upd H5 D (.lst (ys++[y]))) else Pv (i+1) ys H4)
  (hd:∀ys H,Pv zs.length ys H->Q (.ref D) H) :
  ∃W:Nat->Nat->List V->Hp->Prop,(∃m,W 0 m [] (upd H1 D (.lst [])))/\
   ∀i m ys H',W i m ys H'->((Jr K a).stop i H'/\Q (.ref D) H')\/((Jr K a).go i H'/\∃N:List V->Hp->Prop,(∀tN uC,N tN uC->∃m',m'<m/\W (i+1) m' tN uC)/\∀(c:CB) (own:St),own.length=1->∀x H2,(Jr K a).Lb i H' x H2->dA 0 x (own++cw σ idx) H2 λσ3 H3=>
    (∃fh,fh.length=1/\σ3=fh++cw σ idx)/\tt c σ3 H3 λb H4=>if b=true then te c σ3 H4 λy H5=>H5 D=some (.lst ys)/\ys.length<sizeLine/\N (ys++[y]) (upd H5 D (.lst (ys++[y]))) else N ys H4):=
 Np (g:=λ_=>dA 0) Pv h0 hl (λi x ys H hi p c own ho=>by
  show(∃fh,fh.length=1/\(own++cw σ idx).set 0 _=fh++cw σ idx)/\tt c ((own++cw σ idx).set 0 _) H _
  rw[Yz ho]
  exact⟨⟨[_],rfl,rfl⟩,hs i x ys H hi p c⟩) hd
def aEZ(z:Str)(lo hi:Option Int):Str:=⟨((z.cps.toList.drop (HT.dn z.length 0 lo)).take (HT.dn z.length z.length hi-HT.dn z.length 0 lo)).toArray⟩
theorem lB{n:Nat}(h:n<=1000):n<=sizeLine:=iZ (qT h (by decide))
section
variable {X:Cx}
def Pu:V->Option Int->Option Int->Hp->VK->Prop:=λx lo hi H Q=>∃z,x=.str z/\z.length<=sizeLine/\Q (.str (aEZ z lo hi)) H
def Ov(K:PySem.W.Frag)(te ts:TE):TE:=λσ H Q=>te σ H λx H1=>ts σ H1 λy H2=>∃a xs,x=.ref a/\y=.int (-1)/\qP K H2 a xs/\∀p,H2 p=none->Q (.ref p) (upd H2 p (.lst xs.reverse))
theorem R3(c:Value):fw X (.builtin "isinstance") (λvs H Q=>∃x t b n,vs=[x,.ty n]/\sM X.K H x t/\PySem.W.kitOne X.K t (.type n)=some b/\Q (.bl b) H):=by
 intro pins s σ H vs us Q I rv h
 obtain⟨x,t,b,n,rfl,ty,e,q⟩:=h
 obtain⟨u,v,rfl,ru,rv'⟩:=rv.two
 obtain rfl:v=Value.type n:=rv'
 exact M5 I ru ty e λtk=>⟨.bl b,H,I.tok _,rfl,q⟩
def aBF(xs ys:List V):Bool:=xs.length==ys.length&&(List.range xs.length).all λj=>N4 (xs.getD j .non) (ys.getD j .non)
def rM:V->List V->Hp->VK->Prop:=λx vs H Q=>∃a aL,x=.ref a/\vs=[]/\H a=some (.dK aL)/\Q .non (upd H a (.dK []))
end
section
variable {X:Cx}{elt target iter:Expr}{ifs:List Expr}{scope:Scope}{pos spos py:Pos}{xs:List Str}{idx:List Nat}{wi:TI}{g:CB->TG}{tt:CB->TT}{te:CB->TE}
theorem Ue{i:Nat}{y:Str}(hN:X.N.Nodup)(hi0:X.N[i]?=some y)(hy:X.env.scope.names.lookup y=some .local)(hc:X.calm=true)(S:yb X scope xs idx)(hi:PI X target iter wi)
  (hg:∀c,PG (mq X scope (xs++cx X.N idx) c) target (g c)) (ht:∀c,CZ (mq X scope (xs++cx X.N idx) c) ifs (tt c)) (he:∀c,PE (mq X scope (xs++cx X.N idx) c) elt (te c))
  (hsw:swapsWith (.ListComp elt [⟨target,iter,ifs,0⟩] scope pos) (some (.Name y py)) spos.line X.env=pure true:=by rfl)
  (hs:∀x,foldedSetIterable iter X.env x=pure x:=by intro _;rfl):PS X (.Assign [.Name y py] (.ListComp elt [⟨target,iter,ifs,0⟩] scope pos) spos) (tT (wA wi xs.length idx g tt te) (dA i)):=by
 intro pins s σ H D I h
 have Rc:closureFor scope X.env=pure (ft X.env scope.names []):=kP λy hy e=>I.ok.has y.1 (S.free y hy e).2
 rw[exec_Assign_Name_used _ _ _ _ hsw]
 refine ay (sY (ay ?_))
 show wpAny _ X.A (do let _ <-comprehension (.ListComp elt [⟨target,iter,ifs,0⟩] scope pos) scope X.env _ (newList []) false (eval iter X.env) (some (assign (.Name y py) X.env))) _ _ s
 refine ay (dE (wpAny_comprehension_free (use:=some (assign (.Name y py) X.env)) (Q:=λ_ s'=>SP X pins D .next s') rfl hs Rc S.kind S.loc
  (cU (hi pins s σ H _ I h) λxv s₁ h₁=>cU h₁ λitv s₂ h₂=>?_)) (λ_ s' hq=>aK (aK hq)) λ_ _ e=>e)
 obtain⟨it,fp,tn,J,H2,e,I2,T,NQ,f2,hW⟩:=h₂
 subst e
 refine Fv (Q:=λv H'=>dA i v σ H' D.nx) (RR:=λacc C=>compPost (model X.prog X.w) X.A X.xe (some (assign (.Name y py) X.env)) (λ_ s'=>SP X pins D .next s') acc C) hc S hg ht he I2 T NQ f2 hW ?_
 intro DD C σ' H' s' hC I' q
 show wpAny _ X.A (assign (.Name y py) X.env (.ref DD)) _ _ _
 obtain⟨hh,gg,d,t,os⟩:=s'
 obtain rfl:os=s₂.os:=I'.os
 have Cn:s₂.heap.get? C=none:=tH hC
 have I3:Inv X pins σ H' { s₂ with heap:=hh,gens:=gg,drawn:=d,toks:=t }:=I2.call (s:=s₂) (h':=hh) (g':=gg) (d':=d) (t':=t) (ch:=fp) (I'.base.but Cn (Heap.SameBut.refl _ _)) I'.bE I'.bare (λb hb=>by
  obtain⟨_,f1,_,f3,f4,f5⟩:=f2 b hb
  exact⟨f3,f1,f4,f5⟩)
 obtain⟨m',hn,_⟩:=I'.loc
 have hLC:X.env.locals≠C:=bH (cT I2.lt hC)
 refine wpAny_assign_Name (y4 I3 hN hi0 (.inl hy) (v:=.ref DD) rfl (λs'' I4 ⟨a,hs4,ha⟩=>?_) (.inr hy))
 have haC:C≠a:=by
  rcases ha with e | e
  ·rw[e];exact fH hLC
  ·obtain⟨v,q⟩:=I2.cell y a e
   exact jA (cT q.lt hC)
 refine⟨m',hn.sameBut hs4 haC,λh3 hs3=>?_⟩
 obtain⟨hh4,gg4,d4,t4,os4⟩:=s''
 have I5:Inv X pins (σ.set i (some (.ref DD))) H' { heap:=h3,gens:=gg4,drawn:=d4,toks:=t4,os:=os4 }:=
  I4.turned (s:={ heap:=hh4,gens:=gg4,drawn:=d4,toks:=t4,os:=os4 }) (h':=h3) (t':=t4) (it:=C) (λb o hb e=>(hs3.2 b hb).trans e) I'.free (fH hLC) (.inr (e8 I2.sz hC)) (λx c e z=>by
   obtain⟨v,q⟩:=I2.cell x c e
   exact absurd (cT q.lt hC) (by rw[z];exact jC _)) (λp hp z=>by
   have:=(I2.pin p hp).1
   rw[z,Cn]at this;cases this)
 exact⟨_,H',I5,q⟩
end
def Nn(km:Scope)(N:List Str)(scope:Scope)(idx:List Nat):Bool:=
 scope.kind == .function&&scope.names.all (λy=>y.2 != .cell)&&scope.names.all (λy=>y.2 != .local||scope.names.lookup y.1==some .local) &&
 scope.names.all (λy=>y.2 != .free||(scope.names.lookup y.1==some .free&&(km.names.lookup y.1==some .cell||km.names.lookup y.1==some .free))) &&
 idx.all (λi=>match N[i]? with | some y=>scope.names.lookup y==some .free | none=>false)
theorem zV{X:Cx}{scope:Scope}{xs:List Str}{idx:List Nat}{km:Scope}{N:List Str}(h:Nn km N scope idx=true)(e1:X.env.scope=km:=by rfl)(e2:X.N=N:=by rfl):yb X scope xs idx:=by
 unfold Nn at h
 simp only[eI]at h
 refine hide λgG hG=>?_
 obtain⟨⟨⟨⟨h1,h2⟩,h3⟩,h4⟩,h5⟩:=h
 refine hG ?_
 refine⟨by simpa using h1,λy hy e=>?_,λy hy e=>?_,λy hy e=>?_,λi hi=>?_⟩
 ·have:=qQ.mp h2 y hy
  rw[e]at this;exact absurd this (by decide)
 ·have:=qQ.mp h3 y hy
  rw[e]at this;simpa using this
 ·have:=qQ.mp h4 y hy
  rw[e]at this
  have t:(scope.names.lookup y.1==some NameKind.free&&(km.names.lookup y.1==some .cell||km.names.lookup y.1==some .free))=true:=by simpa using this
  rw[eI,lh]at t
  refine⟨by simpa using t.1,?_⟩
  show X.env.scope.names.lookup y.1=_\/X.env.scope.names.lookup y.1=_
  rw[e1]
  exact t.2.imp (by simp) (by simp)
 ·have:=qQ.mp h5 i hi
  rw[e2]
  cases e:N[i]? with
  | none=>rw[e]at this;cases this
  | some y=>rw[e]at this;exact⟨y,rfl,by simpa using this⟩
theorem xT{α:Type}(a:α)(xs:List α):vq (a::xs) 0=some a:=gF (j:=0) rfl
theorem Aa{α:Type}(a b:α)(xs:List α):vq (a::b::xs) 1=some b:=gF (j:=1) rfl
theorem z9{α:Type}(a b c:α)(xs:List α):vq (a::b::c::xs) 2=some c:=gF (j:=2) rfl
theorem z8{α:Type}(a b c d:α)(xs:List α):vq (a::b::c::d::xs) 3=some d:=gF (j:=3) rfl
theorem FW{α:Type}(a b c d e:α)(xs:List α):vq (a::b::c::d::e::xs) 4=some e:=gF (j:=4) rfl
theorem FV{α:Type}(a b c d e f:α)(xs:List α):vq (a::b::c::d::e::f::xs) 5=some f:=gF (j:=5) rfl
theorem xm:M4 6 1=some 1:=rfl
theorem xl:M4 6 2=some 2:=rfl
theorem xk:M4 6 3=some 3:=rfl
theorem xj:M4 6 4=some 4:=rfl
theorem xh:M4 6 5=some 5:=rfl
theorem Kz(i:Int):lY i 48271/\lY i 40693/\lY i 3/\lY i 4294967296:=⟨.inr ⟨by decide,by decide⟩,.inr ⟨by decide,by decide⟩,.inr ⟨by decide,by decide⟩,.inr ⟨by decide,by decide⟩⟩
theorem FH(i:Int):lY i 48271:=(Kz i).1
theorem FG(i:Int):lY i 40693:=(Kz i).2.1
theorem Fz(i:Int):lY i 3:=(Kz i).2.2.1
theorem Fy(i:Int):lY i 4294967296:=(Kz i).2.2.2
theorem KC(i:Int):lY 5 i/\lY 3 i/\lY 7 i/\lY 10 i:=⟨.inl ⟨by decide,by decide⟩,.inl ⟨by decide,by decide⟩,.inl ⟨by decide,by decide⟩,.inl ⟨by decide,by decide⟩⟩
theorem xN(i:Int):lY 5 i:=(KC i).1
theorem xM(i:Int):lY 3 i:=(KC i).2.1
theorem xK(i:Int):lY 7 i:=(KC i).2.2.1
theorem xJ(i:Int):lY 10 i:=(KC i).2.2.2
theorem xI:aCd 10 18:=⟨by decide,by decide,by decide⟩
def Td(t u:TS):TS:=λD σ H=>∃N:St->Hp->Prop,t { D with nx:=N } σ H/\∀σ' H',N σ' H'->u D σ' H'
theorem Ua{X:Cx}{st:Stmt}{rest:List Stmt}{t u:TS}(h1:PS X st t)(h2:CW X rest u):CW X (st::rest) (Td t u):=by
 intro pins s σ H D I ⟨N,hn,hu⟩
 refine wpAny_execs_cons (cU (h1 pins s σ H { D with nx:=N } I hn) λf s1 q=>?_)
 cases f with
 | next=>
  refine hide λgG hG=>?_
  obtain⟨σ',H',I',q⟩:=q
  refine hG ?_
  exact h2 pins s1 σ' H' D I' (hu σ' H' q)
 | ret v=>exact q
 | brk=>exact q
 | cont=>exact q
theorem R8{ns:List Int}{k:Int}(h0:0<=k)(h:k<(ns.length:Int)):∃v:Int,vq (ns.map V.int) k=some (.int v):=by
 have hk:k.toNat<ns.length:=by lia
 have ek:k=((k.toNat:Nat):Int):=by lia
 have q:vq (ns.map V.int) ((k.toNat:Nat):Int)=some (.int ns[k.toNat]):=gF (by rw[cH,bJ hk] <;> rfl)
 rw[<-ek]at q
 exact⟨_,q⟩
section
variable {X:Cx}
theorem oE.imp{f:Value->Value->Sem Value}{r r':R2}(h:oE X f r)(i:∀x y H Q,r' x y H Q->r x y H Q):oE X f r':=λpins s σ H x y v u Q I rx ry q=>h pins s σ H x y v u Q I rx ry (i _ _ _ _ q)
theorem Wl.imp{r r':R2}(h:Wl X r)(i:∀x y H Q,r' x y H Q->r x y H Q):Wl X r':=λvalue slice pins s σ H x y v u Q I rx ry q hs=>h value slice pins s σ H x y v u Q I rx ry (i _ _ _ _ q) hs
theorem fw.imp{f:Value}{r r':List V->Hp->VK->Prop}(h:fw X f r)(i:∀x H Q,r' x H Q->r x H Q):fw X f r':=λpins s σ H vs us Q I rv q=>h pins s σ H vs us Q I rv (i _ _ _ q)
theorem SJ.imp{r r':V->Option Int->Option Int->Hp->VK->Prop}(h:SJ X r)(i:∀x lo hi H Q,r' x lo hi H Q->r x lo hi H Q):SJ X r':=λpins s σ H x v vl vu lo hi sl Q I rx hs pl pu q=>h pins s σ H x v vl vu lo hi sl Q I rx hs pl pu (i _ _ _ _ _ q)
theorem bu{K:PySem.W.Frag}{H:Hp}{a:Addr}{xs:List V}(h:H a=some (.lst xs)):qP K H a xs:=qP.of h
theorem ck{K:PySem.W.Frag}{H:Hp}{a:Addr}{xs:List V}(h:H a=some (.tup xs)):yF K H a xs:=yF.of h
def Hr:R2:=λx y H Q=>∃p i,x=.ref p/\y=.int i/\∃xs,H p=some (.lst xs)/\∃v,vq xs i=some v/\Q v H
theorem jv:Wl X Hr:=U9.imp λx y H Q ⟨p,i,e1,e2,xs,h,v,e3,q⟩=>⟨p,xs,i,v,e1,e2,bu h,e3,q⟩
def Mb:R2:=λx y H Q=>∃p i,x=.ref p/\y=.int i/\∃xs,H p=some (.tup xs)/\∃v,vq xs i=some v/\Q v H
theorem oH:Wl X Mb:=Y8.imp λx y H Q ⟨p,i,e1,e2,xs,h,v,e3,q⟩=>⟨p,xs,i,v,e1,e2,ck h,e3,q⟩
def PL:R2:=λx y H Q=>∃z i,x=.str z/\y=.int i/\z.length<=sizeLine/\∃c,vq z.cps.toList i=some c/\Q (.str ⟨#[c]⟩) H
def L8:V->Option Int->Option Int->Hp->VK->Prop:=λx lo hi H Q=>∃a,x=.ref a/\∃xs,H a=some (.lst xs)/\∀p,H p=none->Q (.ref p) (upd H p (.lst (iO xs lo hi)))
theorem aAC:SJ X L8:=JG.imp λx lo hi H Q ⟨a,e,xs,h,q⟩=>⟨a,xs,e,bu h,q⟩
def L7:V->Option Int->Option Int->Hp->VK->Prop:=λx lo hi H Q=>∃a,x=.ref a/\∃xs,H a=some (.tup xs)/\¬(HT.dn xs.length 0 lo=0/\HT.dn xs.length xs.length hi=xs.length)/\∀p,H p=none->Q (.ref p) (upd H p (.tup (iO xs lo hi)))
theorem aCo:SJ X L7:=X6.imp λx lo hi H Q ⟨a,e,xs,h,n,q⟩=>⟨a,xs,e,ck h,n,q⟩
def zi:List V->Hp->VK->Prop:=λvs H Q=>∃p,vs=[.ref p]/\∃xs,H p=some (.lst xs)/\Q (.int xs.length) H
theorem uo:fw X (.builtin "len") zi:=sF.imp λx H Q ⟨p,e,xs,h,q⟩=>⟨p,xs,e,.inl (bu h),q⟩
def zh:List V->Hp->VK->Prop:=λvs H Q=>∃p,vs=[.ref p]/\∃xs,H p=some (.tup xs)/\Q (.int xs.length) H
theorem iT:fw X (.builtin "len") zh:=sF.imp λx H Q ⟨p,e,xs,h,q⟩=>⟨p,xs,e,.inr (ck h),q⟩
def tY:List V->Hp->VK->Prop:=λvs H Q=>∃p,vs=[.ref p]/\∃xs,H p=some (.lst xs)/\∀l,H l=none->Q (.ref l) (upd H l (.lst xs))
theorem jq:fw X (.type "list") tY:=CK.imp λx H Q ⟨p,e,xs,h,q⟩=>⟨p,xs,e,.inl (bu h),q⟩
def wL:List V->Hp->VK->Prop:=λvs H Q=>∃p,vs=[.ref p]/\∃xs,H p=some (.tup xs)/\∀l,H l=none->Q (.ref l) (upd H l (.lst xs))
def ow:List V->Hp->VK->Prop:=λvs H Q=>∃p,vs=[.ref p]/\∃xs,H p=some (.lst xs)/\∀l,H l=none->Q (.ref l) (upd H l (.tup xs))
theorem iu:fw X (.type "tuple") ow:=yC.imp λx H Q ⟨p,e,xs,h,q⟩=>⟨p,xs,e,.inl ⟨bu h,q⟩⟩
def wM:List V->Hp->VK->Prop:=λvs H Q=>∃a,vs=[.ref a]/\∃aL,H a=some (.dK aL)/\∀p,H p=none->Q (.ref p) (upd H p (.lst (aL.map λkv=>kV kv.1)))
def wO:List V->Hp->VK->Prop:=λvs H Q=>∃a,vs=[.ref a]/\∃aL,H a=some (.dK aL)/\∀p,H p=none->Q (.ref p) (upd H p (.dK aL))
def rN:List V->Hp->VK->Prop:=λvs H Q=>∃a,vs=[.ref a]/\∃ss:List Str,H a=some (.lst (ss.map V.str))/\ss.length<64/\
 ∀ss':List Str,ss'.Perm ss->sortedS ss'=true->∀p,H p=none->Q (.ref p) (upd H p (.lst (ss'.map V.str)))
def DS:V->List V->Hp->VK->Prop:=λx vs H Q=>∃sep a,x=.str sep/\vs=[.ref a]/\∃ss:List Str,H a=some (.lst (ss.map V.str))/\JoinOk sep ss=true/\Q (.str (Txt.join sep ss)) H
def P0(neg:Bool):R2:=λx y H Q=>∃p,y=.ref p/\∃xs,H p=some (.lst xs)/\jl x=true/\xs.all jl=true/\Q (.bl (if neg then !WQ x xs else WQ x xs)) H
def Hs(neg:Bool):R2:=λx y H Q=>∃p,y=.ref p/\∃xs,H p=some (.tup xs)/\jl x=true/\xs.all jl=true/\Q (.bl (if neg then !WQ x xs else WQ x xs)) H
theorem YD:oE X (compareOp .In) (Hs false):=Mp.imp λx y H Q ⟨p,e,xs,h,f1,f2,q⟩=>⟨p,xs,e,.inr (ck h),f1,f2,q⟩
theorem zC:oE X (compareOp .NotIn) (Hs true):=BM.imp λx y H Q ⟨p,e,xs,h,f1,f2,q⟩=>⟨p,xs,e,.inr (ck h),f1,f2,q⟩
def P1(neg:Bool):R2:=λx y H Q=>∃a b,x=.ref a/\y=.ref b/\∃xs,H a=some (.lst xs)/\∃ys,H b=some (.lst ys)/\xs.all jl=true/\ys.all jl=true/\Q (.bl (if neg then !aBF xs ys else aBF xs ys)) H
def Mf(K:PySem.W.Frag):List V->Hp->VK->Prop:=λvs H Q=>∃x n,vs=[x,.ty n]/\∃t,sM K H x t/\∃b,PySem.W.kitOne K t (.type n)=some b/\Q (.bl b) H
theorem kQ:fw X (.builtin "isinstance") (Mf X.K):=(R3 .none).imp λx H Q ⟨y,n,e,t,ty,b,h,q⟩=>⟨y,t,b,n,e,ty,h,q⟩
def Ma:V->V->V->Hp->(Hp->Prop)->Prop:=λo i v H Q=>∃p k,o=.ref p/\i=.int k/\∃xs,H p=some (.lst xs)/\∃j,M4 xs.length k=some j/\Q (upd H p (.lst (xs.set j v)))
theorem rC:Nz X Ma:=λpins s σ H o i v ov iv u Q I ro ri rv ⟨p,k,e1,e2,xs,h,j,hj,q⟩=>set_list pins s σ H o i v ov iv u Q I ro ri rv ⟨p,xs,k,j,e1,e2,h,hj,q⟩
theorem Xi:aAe X (λo i H Q=>Hr o i H Q):=by
 intro pins s σ H o i ov iv Q I ro ri h
 refine hide λgG hG=>?_
 obtain⟨p,i,rfl,rfl,xs,hp,z,he,q⟩:=h
 refine hG ?_
 cases ro
 refine hide λgG hG=>?_
 obtain⟨t,rfl⟩:=ri
 obtain⟨its,r,pl,hz⟩:=I.list (bu hp)
 obtain⟨j,h1,h2,h3,h4,h5⟩:=CQ he
 obtain⟨w,ew,Ph⟩:=r.get h2
 refine hG ?_
 have hl:=r.length
 have hn:=w5
 have fin:EP X pins σ Q w s:=⟨z,H,I,Ph,q⟩
 by_cases h0:0<=i
 ·have hj:i.toNat=j:=by
   rw[seqIndex_of h0 h5]at h1
   exact eG h1
  exact wpAny_getItem_list pl.isList h0 (by lia) (by rw[hj];simpa using ew) fin
 ·have hj:(i+(its.toArray.size:Int)).toNat=j:=by
   rw[seqIndex_neg (by lia) h4]at h1
   rw[cD,<-hl]
   exact eG h1
  exact wpAny_getItem_list_neg pl.isList (by lia) (by rw[cD] <;> lia) (by lia) (by rw[hj];simpa using ew) fin
end
end L2
namespace L2
open PySem PySem.Spec PyProof.Rows
theorem Mu{α:Type}{C:List α->Prop}(h:∀a,C [a]):∀us:List α,us.length=1->C us
 | [a],_=>h a
theorem of2{α:Type}{C:List α->Prop}(h:∀a b,C [a,b]):∀us:List α,us.length=2->C us
 | [a,b],_=>h a b
theorem of3{α:Type}{C:List α->Prop}(h:∀a b c,C [a,b,c]):∀us:List α,us.length=3->C us
 | [a,b,c],_=>h a b c
structure HC(X:Cx)(N:List Str)(sc:Scope):Prop where
 n:X.N=N
 s:X.env.scope=sc
def okV(N:List Str)(sc:Scope)(i:Nat)(x:Str):Bool:=
 N[i]? == some x&&(sc.names.lookup x==some .local||sc.names.lookup x==some .cell||sc.names.lookup x==some .free) && !(x==("__debug__" : Str)) && !(x==("__classdict__" : Str))
def Sh(N:List Str)(sc:Scope)(i:Nat)(x:Str):Bool:=N[i]? == some x&&(sc.names.lookup x==some .local||sc.names.lookup x==some .cell)
def Ms(N:List Str)(sc:Scope)(i:Nat)(x:Str):Bool:=N[i]? == some x&&sc.names.lookup x==some .local
def okG(sc:Scope)(x:Str):Bool:=sc.names.lookup x==some .globalImplicit
section
variable {X:Cx}{N:List Str}{sc:Scope}{x:Str}{pos:Pos}
theorem pvk(hc:HC X N sc)(i:Nat)(h:okV N sc i x=true):PE X (.Name x pos) (yh i):=by
 unfold okV at h
 simp only[eI,lh,beq_iff_eq,Bool.not_eq_true']at h
 obtain⟨⟨⟨h1,h2⟩,h3⟩,h4⟩:=h
 refine Qf (by rw[hc.n];exact h1) ?_ h3 h4
 unfold Vis
 rw[hc.s]
 rcases h2 with (h2 | h2) | h2
 ·exact .inl h2
 ·exact .inr (.inl h2)
 ·exact .inr (.inr h2)
theorem cG(hc:HC X N sc)(h:okG sc x=true:=by decide +kernel):Gl X x:=by
 show X.env.scope.names.lookup x=some .globalImplicit
 rw[hc.s];simpa [okG]using h
theorem lG(hc:HC X N sc){i:Nat}(h:Sh N sc i x=true):X.N[i]?=some x/\Loc X.env.scope x:=by
 unfold Sh at h
 simp only[eI,lh,beq_iff_eq]at h
 refine⟨by rw[hc.n];exact h.1,?_⟩
 unfold Loc;rw[hc.s];exact h.2
theorem nq(hc:HC X N sc){i:Nat}(h:Ms N sc i x=true):X.N[i]?=some x/\X.env.scope.names.lookup x=some .local:=by
 unfold Ms at h
 simp only[eI,beq_iff_eq]at h
 exact⟨by rw[hc.n];exact h.1,by rw[hc.s];exact h.2⟩
theorem pgk(hc:HC X N sc)(nd:N.Nodup)(hf:∀x,X.fn x=true)(i:Nat)(h:Sh N sc i x=true):PG X (.Name x pos) (dA i):=
 JZ (by rw[hc.n];exact nd) (lG hc h).1 (lG hc h).2 (.inl (hf x))
theorem pgb(hc:HC X N sc)(nd:N.Nodup)(i:Nat)(h:Ms N sc i x=true):PG X (.Name x pos) (dA i):=
 JZ (by rw[hc.n];exact nd) (nq hc h).1 (.inl (nq hc h).2) (.inr (nq hc h).2)
theorem JR{e:Expr}{te:TE}{pos':Pos}(hc:HC X N sc)(nd:N.Nodup)(hf:∀x,X.fn x=true)(i:Nat)(h:Sh N sc i x=true)(he:PE X e te)(hs:swapsWith e (some (.Name x pos')) pos.line X.env=pure false:=by rfl) :
  PS X (.Assign [.Name x pos'] e pos) (tT te (dA i)):=
 Yi (by rw[hc.n];exact nd) (lG hc h).1 (lG hc h).2 he hs (.inl (hf x))
theorem Uc{e:Expr}{te:TE}{op:Operator}{ti:Wj}{pos':Pos}(hc:HC X N sc)(nd:N.Nodup)(hf:∀x,X.fn x=true)(i:Nat)(h:Sh N sc i x=true)(he:PE X e te)(ho:PIp X op ti):PS X (.AugAssign (.Name x pos') op e pos) (Tf i te ti):=
 Yn (by rw[hc.n];exact nd) (lG hc h).1 (lG hc h).2 he ho (.inl (hf x))
end
def dw(scope km:Scope):Scope:=
 { scope with names:=scope.names.map λ(n,k)=>if (k == .free&&km.kind == .function&&km.names.lookup n==some .cell) then (n,.cell) else (n,k) }
theorem DG{scope km:Scope}{env:Env}(h:env.scope=km):relabel scope env=dw scope km:=by
 subst h;rfl
theorem kK{X:Cx}{N:List Str}{km scope:Scope}{xs:List Str}{idx:List Nat}(hc:HC X N km)(c:CB):HC (mq X scope (xs++cx X.N idx) c) (xs++cx N idx) (dw scope km):=
 ⟨by show xs++cx X.N idx=_;rw[hc.n],DG hc.s⟩
section
variable {X:Cx}{N:List Str}{km:Scope}{elt target iter:Expr}{ifs:List Expr}{scope:Scope}{pos spos py:Pos}{xs:List Str}{idx:List Nat}{wi:TI}{g:CB->TG}{tt:CB->TT}{te:CB->TE}
theorem DY(hc:HC X N km)(xs:List Str)(idx:List Nat)(Rf:X.calm=true)(S:Nn km N scope idx=true)(hi:PI X target iter wi)
  (hg:∀c,HC (mq X scope (xs++cx X.N idx) c) (xs++cx N idx) (dw scope km)->PG (mq X scope (xs++cx X.N idx) c) target (g c))
  (ht:∀c,HC (mq X scope (xs++cx X.N idx) c) (xs++cx N idx) (dw scope km)->CZ (mq X scope (xs++cx X.N idx) c) ifs (tt c))
  (he:∀c,HC (mq X scope (xs++cx X.N idx) c) (xs++cx N idx) (dw scope km)->PE (mq X scope (xs++cx X.N idx) c) elt (te c))
  (hs:∀x,foldedSetIterable iter X.env x=pure x:=by intro _;rfl):PE X (.ListComp elt [⟨target,iter,ifs,0⟩] scope pos) (wA wi xs.length idx g tt te):=
 Us Rf (zV S hc.s hc.n) hi (λc=>hg c (kK hc c)) (λc=>ht c (kK hc c)) (λc=>he c (kK hc c)) hs
theorem DW{y:Str}(hc:HC X N km)(nd:N.Nodup)(i:Nat)(h:Ms N km i y=true)(xs:List Str)(idx:List Nat)(Rf:X.calm=true)(S:Nn km N scope idx=true)(hi:PI X target iter wi)
  (hg:∀c,HC (mq X scope (xs++cx X.N idx) c) (xs++cx N idx) (dw scope km)->PG (mq X scope (xs++cx X.N idx) c) target (g c))
  (ht:∀c,HC (mq X scope (xs++cx X.N idx) c) (xs++cx N idx) (dw scope km)->CZ (mq X scope (xs++cx X.N idx) c) ifs (tt c))
  (he:∀c,HC (mq X scope (xs++cx X.N idx) c) (xs++cx N idx) (dw scope km)->PE (mq X scope (xs++cx X.N idx) c) elt (te c))
  (hsw:swapsWith (.ListComp elt [⟨target,iter,ifs,0⟩] scope pos) (some (.Name y py)) spos.line X.env=pure true)
  (hs:∀x,foldedSetIterable iter X.env x=pure x:=by intro _;rfl):PS X (.Assign [.Name y py] (.ListComp elt [⟨target,iter,ifs,0⟩] scope pos) spos) (tT (wA wi xs.length idx g tt te) (dA i)):=
 Ue (by rw[hc.n];exact nd) (nq hc h).1 (nq hc h).2 Rf (zV S hc.s hc.n) hi (λc=>hg c (kK hc c)) (λc=>ht c (kK hc c)) (λc=>he c (kK hc c)) hsw hs
end
end L2
namespace L2
open PySem PySem.Spec PyProof.Rows
@[irreducible] def yG (X:Cx) (st:List Stmt) (t:TS):Prop:=CW X st t
theorem yG.to{X:Cx}{st:List Stmt}{t:TS}(h:yG X st t):CW X st t:=by unfold yG at h;exact h
theorem yG.of{X:Cx}{st:List Stmt}{t:TS}(h:CW X st t):yG X st t:=by unfold yG;exact h
section
variable {X:Cx}{st:Stmt}{rest:List Stmt}{t u:TS}{pos:Pos}
theorem T4:yG X [] uP:=.of T9
theorem T3(h1:PS X st t):yG X [st] t:=.of (T8 h1)
theorem Px(h1:PS X st t)(h2:yG X rest u):yG X (st::rest) (G' t u):=.of (P8 h1 h2.to)
theorem T5(h1:PS X st t)(h2:yG X rest u):yG X (st::rest) (Td t u):=.of (Ua h1 h2.to)
theorem aAN{c:Expr}{a b:List Stmt}{tc:TT}(hc:PT X c tc)(ha:yG X a t)(hb:yG X b u):PS X (.If c a b pos) (Du tc t u):=aAQ hc ha.to hb.to
theorem Py{c:Expr}{body:List Stmt}{tc:TT}{tb:TS}(hp:PassesOwn (model X.prog X.w) X.A X.env X.xe)(hc:PT X c tc)(hb:yG X body tb):PS X (.While c body [] pos) (G8 tc tb):=P9 hp hc hb.to
theorem Pz{tg iter:Expr}{body:List Stmt}{wi:TI}{g:TG}{tb:TS}(hp:PassesOwn (model X.prog X.w) X.A X.env X.xe)(hc:X.calm=true)(hi:PI X tg iter wi)(hg:PG X tg g)(hb:yG X body tb)
  (hs:∀x,foldedSetIterable iter X.env x=pure x:=by intro _;rfl):PS X (.For tg iter body [] pos) (Tc wi g tb):=Yk hp hc hi hg hb.to hs
end
theorem jz.okK{P:Program}{w:World}{K:PySem.W.Frag}{mg:Str->Option Value}{base:Heap}{x qual:Str}{st:Stmt}{f:Addr}{fd:FuncData}{N ps:List Str}{k:Nat}{sp:Sp}(F:jz K x qual st f fd)(S:aX N ps (ag st))(len:∀vs H Q E,sp vs H Q E->vs.length=ps.length)
  (fP:∀(cP:Value) (A:Around) (outer:List Env) (s:Shared) (H:Hp) (vs:List V) (Q:VK) (E:XK),cC k (A.deeper (envOfC qual (ag st) s.heap.objs.size f cP))->sp vs H Q E->
   HC (fQ fN P w K mg base N qual (ag st) f cP A outer s H E).yc N (ag st)->(∀x,(fQ fN P w K mg base N qual (ag st) f cP A outer s H E).yc.fn x=true)->
   ∃t,yG (fQ fN P w K mg base N qual (ag st) f cP A outer s H E).yc (aO st) t/\t { nx:=λ_ H'=>Q .non H',rt:=Q } (start N vs) H):bS P w K mg base fN (k+1) f fd ps sp:=
 F.ok S len λcP A outer s H vs Q E hr h=>let ⟨t,h1,h2⟩:=fP cP A outer s H vs Q E hr h ⟨rfl,rfl⟩ λ_=>rfl;⟨t,h1.to,h2⟩
end L2
namespace L2
open PySem PySem.Spec PyProof.Rows
def xZ(J:It)(g:TG)(tb:TS)(D:Ends)(σ:St)(H:Hp):Prop:=∃W:Nat->Nat->St->Hp->Prop,(∃m,W 0 m σ H)/\∀i m σ H,W i m σ H->
 (J.stop i H/\D.nx σ H)\/(J.go i H/\∃N:St->Hp->Prop,(∀σ' H',N σ' H'->∃m',m'<m/\W (i+1) m' σ' H')/\∀x H',J.Lb i H x H'->g x σ H' λσ2 H2=>tb { D with nx:=N,ct:=N,bk:=D.nx } σ2 H2)
theorem rk{wi:TI}{g:TG}{tb:TS}{D:Ends}{σ:St}{H:Hp}:Tc wi g tb D σ H=wi σ H (λJ H1=>xZ J g tb D σ H1):=rfl
def jZ(J:It)(k:Nat)(idx:List Nat)(g:CB->TG)(tt:CB->TT)(te:CB->TE)(σ:St)(Q:VK)(H1:Hp):Prop:=∀D,H1 D=none->∃W:Nat->Nat->List V->Hp->Prop,(∃m,W 0 m [] (upd H1 D (.lst [])))/\
 ∀i m ys H',W i m ys H'->(J.stop i H'/\Q (.ref D) H')\/(J.go i H'/\∃N:List V->Hp->Prop,(∀tN uC,N tN uC->∃m',m'<m/\W (i+1) m' tN uC)/\∀(c:CB) (own:St),own.length=k->∀x H2,J.Lb i H' x H2->g c x (own++cw σ idx) H2 λσ3 H3=>
  (∃fh,fh.length=k/\σ3=fh++cw σ idx)/\tt c σ3 H3 λb H4=>if b=true then te c σ3 H4 λy H5=>H5 D=some (.lst ys)/\ys.length<sizeLine/\N (ys++[y]) (upd H5 D (.lst (ys++[y]))) else N ys H4)
theorem mZ{wi:TI}{k:Nat}{idx:List Nat}{g:CB->TG}{tt:CB->TT}{te:CB->TE}{σ:St}{H:Hp}{Q:VK}:wA wi k idx g tt te σ H Q=wi σ H (λJ H1=>jZ J k idx g tt te σ Q H1):=rfl
theorem qw{lo:Int}{n:Nat}{g:TG}{tb:TS}{D:Ends}{σ:St}{H:Hp}(Pv:Nat->St->Hp->Prop)(h0:Pv 0 σ H)
  (hs:∀i σ H,i<n->Pv i σ H->g (.int (lo+i)) σ H λσ2 H2=>tb { D with nx:=Pv (i+1),ct:=Pv (i+1),bk:=D.nx } σ2 H2) (hd:∀σ H,Pv n σ H->D.nx σ H):xZ (Jq lo n) g tb D σ H:=Nc Pv h0 hs hd
theorem fj{K:PySem.W.Frag}{a:Addr}{xs:List V}{g:TG}{tb:TS}{D:Ends}{σ:St}{H:Hp}(Pv:Nat->St->Hp->Prop)(h0:Pv 0 σ H)(hl:∀i σ H,i<=xs.length->Pv i σ H->H a=some (.lst xs))
  (hs:∀i x σ H,xs[i]?=some x->Pv i σ H->g x σ H λσ2 H2=>tb { D with nx:=Pv (i+1),ct:=Pv (i+1),bk:=D.nx } σ2 H2) (hd:∀σ H,Pv xs.length σ H->D.nx σ H):xZ (Jr K a) g tb D σ H:=
 Rz Pv h0 (λi σ H hi p=>bu (hl i σ H hi p)) hs hd
theorem lK{K:PySem.W.Frag}{a:Addr}{xs:List V}{g:TG}{tb:TS}{D:Ends}{σ:St}{H:Hp}(Pv:Nat->St->Hp->Prop)(h0:Pv 0 σ H)(hl:∀i σ H,i<=xs.length->Pv i σ H->H a=some (.tup xs))
  (hs:∀i x σ H,xs[i]?=some x->Pv i σ H->g x σ H λσ2 H2=>tb { D with nx:=Pv (i+1),ct:=Pv (i+1),bk:=D.nx } σ2 H2) (hd:∀σ H,Pv xs.length σ H->D.nx σ H):xZ (Wm K a) g tb D σ H:=
 VJ Pv h0 (λi σ H hi p=>ck (hl i σ H hi p)) hs hd
theorem uZ{lo:Int}{n:Nat}{idx:List Nat}{tt:CB->TT}{te:CB->TE}{σ:St}{Q:VK}{H1:Hp}(Pv:Addr->Nat->List V->Hp->Prop)(h0:∀D,H1 D=none->Pv D 0 [] (upd H1 D (.lst [])))
  (hs:∀D,H1 D=none->∀i ys H,i<n->Pv D i ys H->∀(c:CB),tt c (some (.int (lo+i))::cw σ idx) H λb H4=>if b=true then te c (some (.int (lo+i))::cw σ idx) H4 λy H5=>H5 D=some (.lst ys)/\ys.length<sizeLine/\Pv D (i+1) (ys++[y]) (upd H5 D (.lst (ys++[y]))) else Pv D (i+1) ys H4)
  (hd:∀D,H1 D=none->∀ys H,Pv D n ys H->Q (.ref D) H):jZ (Jq lo n) 1 idx (λ_=>dA 0) tt te σ Q H1:=
 λD hD=>Fw (Pv D) (h0 D hD) (hs D hD) (hd D hD)
theorem sA{K:PySem.W.Frag}{a:Addr}{zs:List V}{idx:List Nat}{tt:CB->TT}{te:CB->TE}{σ:St}{Q:VK}{H1:Hp}(Pv:Addr->Nat->List V->Hp->Prop)(h0:∀D,H1 D=none->Pv D 0 [] (upd H1 D (.lst [])))
  (hl:∀D,H1 D=none->∀i ys H,i<=zs.length->Pv D i ys H->H a=some (.lst zs))
  (hs:∀D,H1 D=none->∀i x ys H,zs[i]?=some x->Pv D i ys H->∀(c:CB),tt c (some x::cw σ idx) H λb H4=>if b=true then te c (some x::cw σ idx) H4 λy H5=>H5 D=some (.lst ys)/\ys.length<sizeLine/\Pv D (i+1) (ys++[y]) (upd H5 D (.lst (ys++[y]))) else Pv D (i+1) ys H4)
  (hd:∀D,H1 D=none->∀ys H,Pv D zs.length ys H->Q (.ref D) H):jZ (Jr K a) 1 idx (λ_=>dA 0) tt te σ Q H1:=
 λD hD=>Jf (Pv D) (h0 D hD) (λi ys H hi p=>bu (hl D hD i ys H hi p)) (hs D hD) (hd D hD)
end L2
namespace L2
open PySem PySem.Spec PyProof.Rows
def wo(ss:List Str):TA:=λ_ H Q=>Q (List.map V.str ss) H
structure ZE(X:Cx)(e:Expr)(t:TE):Prop where
 to:PE X e t
structure ZT(X:Cx)(e:Expr)(t:TT):Prop where
 to:PT X e t
structure ZW(X:Cx)(e:Expr)(t:TT):Prop where
 to:PW X e t
structure ZA(X:Cx)(e:List Expr)(t:TA):Prop where
 to:PA X e t
structure ZS(X:Cx)(e:Stmt)(t:TS):Prop where
 to:PS X e t
structure KS(X:Cx)(e:List Stmt)(t:TS):Prop where
 to:CW X e t
structure ZG(X:Cx)(e:Expr)(t:TG):Prop where
 to:PG X e t
structure Wh(X:Cx)(e:List Expr)(t:TT):Prop where
 to:CZ X e t
structure ZO(X:Cx)(e:Option Expr)(t:TO):Prop where
 to:PO X e t
structure ZI(X:Cx)(tg iter:Expr)(t:TI):Prop where
 to:PI X tg iter t
structure ZC(X:Cx)(op:CmpOp)(a b:Expr)(t:TE):Prop where
 to:PC X op a b t
theorem eB{X:Cx}{b:Bool}{j:Nat}{pos:Pos}:ZE X (Expr.Constant (Const.bool b) j pos) (tC (V.bl b)):=⟨aAU⟩
theorem ao{X:Cx}{i:Int}{j:Nat}{pos:Pos}:ZE X (Expr.Constant (Const.int i) j pos) (tC (V.int i)):=⟨Yw⟩
theorem SQ{X:Cx}{x:Str}{j:Nat}{pos:Pos}:ZE X (Expr.Constant (Const.str x) j pos) (tC (V.str x)):=⟨Ys⟩
theorem aq{X:Cx}{N:List Str}{sc:Scope}{x:Str}{pos:Pos}(h1:HC X N sc)(i:Nat)(h2:okV N sc i x=true:=by decide +kernel):ZE X (Expr.Name x pos) (yh i):=⟨pvk h1 i h2⟩
theorem mW{X:Cx}{x:Str}{v:V}{u:Value}{pos:Pos}(h1:Gl X x)(h2:Cx.mg X x=none)(h3:bootBuiltins x=some u)(h4:RelV v u)(h5:autoParam (x≠Str.ofString "__name__") BK._auto_1)(h6:autoParam ((x==Str.ofString "__debug__")=false) BK._auto_2):ZE X (Expr.Name x pos) (tC v):=⟨BK h1 h2 h3 h4 h5 h6⟩
theorem fT{X:Cx}{es:List Expr}{t:TA}{pos:Pos}(h1:ZA X es t):ZE X (Expr.List es pos) (Hc t):=⟨Yv h1.to⟩
theorem iN{X:Cx}{es:List Expr}{t:TA}{pos:Pos}{x1:Nat}(h1:ZA X es t):ZE X (Expr.Tuple es x1 pos) (G9 t):=⟨Yr h1.to⟩
theorem K9{X:Cx}{pos:Pos}:ZE X (Expr.Dict [] [] pos) qe:=⟨Qk⟩
theorem bq{X:Cx}{a b:Expr}{ta tb:TE}{pos:Pos}{op:Operator}{r:R2}(h1:oE X (binaryOp op) r)(h2:ZE X a ta)(h3:ZE X b tb):ZE X (Expr.BinOp a op b pos) (Lj r ta tb):=⟨aAS h1 h2.to h3.to⟩
theorem Jy{X:Cx}{a:Expr}{ta:TE}{pos:Pos}(h1:ZE X a ta):ZE X (Expr.UnaryOp UnaryOp.Not a pos) (wx ta):=⟨Yu h1.to⟩
theorem mV{X:Cx}{a b:Expr}{ta tb:TE}{pos:Pos}{op:CmpOp}{r:R2}(h1:oE X (compareOp op) r)(h2:ZE X a ta)(h3:ZE X b tb)(h4:behindInMarks op b=false):ZE X (Expr.Compare a [op] [b] pos) (Lj r ta tb):=⟨Ut h1 h2.to h3.to h4⟩
theorem SX{X:Cx}{a:Expr}{pos:Pos}{op:BoolOp}{t:TE}(h1:ZE X a t):ZE X (Expr.BoolOp op [a] pos) t:=⟨Yt h1.to⟩
theorem S6{X:Cx}{a b:Expr}{ta tb:TE}{pos:Pos}{rest:List Expr}(h1:ZE X a ta)(h2:ZE X (Expr.BoolOp BoolOp.And (b::rest) pos) tb):ZE X (Expr.BoolOp BoolOp.And (a::b::rest) pos) (wD ta tb):=⟨Yy h1.to h2.to⟩
theorem wd{X:Cx}:ZO X none lA:=⟨Uj⟩
theorem mU{X:Cx}{e:Expr}{te:TE}(h1:ZE X e te):ZO X (some e) (wu te):=⟨Ui h1.to⟩
theorem n6{X:Cx}{e:Expr}{te:TE}{lo hi:Option Expr}{tl th:TO}{pos p2:Pos}{r:V->Option Int->Option Int->Hp->VK->Prop}(h1:SJ X r)(h2:ZE X e te)(h3:ZO X lo tl)(h4:ZO X hi th):ZE X (Expr.Subscript e (Expr.Slice lo hi none p2) pos) (XD r te tl th):=⟨Qh h1 h2.to h3.to h4.to⟩
theorem q0{X:Cx}{o i:Expr}{pos:Pos}{td ty:TE}(h1:Around.units (Cx.A X)+1<cLine)(h2:ZE X o td)(h3:ZE X i ty)(h4:aAf i):ZE X (Expr.Subscript o i pos) (yZ td ty):=⟨Ur h1 h2.to h3.to h4⟩
theorem bC{X:Cx}{a b:Expr}{ta tb:TE}{pos:Pos}{r:R2}(h1:Wl X r)(h2:ZE X a ta)(h3:ZE X b tb)(h4:K0 b):ZE X (Expr.Subscript a b pos) (Lj r ta tb):=⟨aAT h1 h2.to h3.to h4⟩
theorem dR{X : Cx}{N : List Str}{km : Scope}{elt target iter : Expr}{ifs : List Expr}{scope : Scope}{pos : Pos}{wi : TI}{g : CB → TG}{tt : CB → TT}{te : CB → TE}(h1 : HC X N km)(xs : List Str)(idx : List Nat)(h2 : Cx.calm X=true)(h3 : Nn km N scope idx=true)(h4 : ZI X target iter wi)(h5 : (∀ (c : CB),
                HC (mq X scope (xs++cx (Cx.N X) idx) c) (xs++cx N idx) (dw scope km) →
                  ZG (mq X scope (xs++cx (Cx.N X) idx) c) target (g c))) (h6 : (∀ (c : CB),
                  HC (mq X scope (xs++cx (Cx.N X) idx) c) (xs++cx N idx) (dw scope km) →
                    Wh (mq X scope (xs++cx (Cx.N X) idx) c) ifs (tt c))) (h7 : (∀ (c : CB),
                    HC (mq X scope (xs++cx (Cx.N X) idx) c) (xs++cx N idx) (dw scope km) →
                      ZE (mq X scope (xs++cx (Cx.N X) idx) c) elt (te c))) (h8 : autoParam (∀ (x : Value), foldedSetIterable iter (Cx.env X) x=pure x) DY._auto_1) : ZE X (Expr.ListComp elt [{ target := target, iter := iter, ifs := ifs, is_async := 0 }] scope pos)
                      (wA wi (List.length xs) idx g tt te) := ⟨DY h1 xs idx h2 h3 h4.to (λc z => (h5 c z).to) (λc z => (h6 c z).to) (λc z => (h7 c z).to) h8⟩
theorem ai{X:Cx}:ZA X [] Dt:=⟨Hu⟩
theorem ae{X:Cx}{e:Expr}{es:List Expr}{te:TE}{t:TA}(h1:ZE X e te)(h2:ZA X es t)(h3:autoParam (starEach (e::es) (Cx.env X)=(false,eval e (Cx.env X))::starEach es (Cx.env X)) vz._auto_1):ZA X (e::es) (uQ te t):=⟨vz h1.to h2.to h3⟩
theorem qZ{X:Cx}{N:List Str}{sc:Scope}{x:Str}{pos:Pos}(h1:HC X N sc)(h2:List.Nodup N)(i:Nat)(h3:Ms N sc i x=true):ZG X (Expr.Name x pos) (dA i):=⟨pgb h1 h2 i h3⟩
theorem fz{X:Cx}:Wh X [] G7:=⟨Qb⟩
theorem ku{X:Cx}{e:Expr}{t:TT}(h1:ZT X e t):Wh X [e] t:=⟨Qa h1.to⟩
theorem ja{X:Cx}{tg a:Expr}{ta:TA}{p pos:Pos}(h1:Gl X (Str.ofString "range"))(h2:Cx.mg X (Str.ofString "range")=none)(h3:ZA X [a] ta)(h4:autoParam (starEach [a] (Cx.env X)=[(false,eval a (Cx.env X))]) zt._auto_1):ZI X tg (Expr.Call (Expr.Name (Str.ofString "range") p) [a] [] pos) (xu ta):=⟨zt h1 h2 h3.to h4⟩
theorem dQ{X:Cx}{tg l:Expr}{tl:TE}(h1:ZE X l tl):ZI X tg l (xA (Cx.K X) tl):=⟨Ul h1.to⟩
theorem ic{X:Cx}{tg l:Expr}{tl:TE}(h1:ZE X l tl):ZI X tg l (Io (Cx.K X) tl):=⟨Yp h1.to⟩
theorem G0{X:Cx}{o i:Expr}{td ty:TE}(h1:Around.units (Cx.A X)+1<cLine)(h2:ZE X i ty)(h3:ZE X o td):ZC X CmpOp.NotIn i o (Bm ty td):=⟨Mj h1 h2.to h3.to⟩
theorem SM{X:Cx}{a b:Expr}{pos:Pos}{op:CmpOp}{t:TE}(h1:ZC X op a b t)(h2:autoParam (behindInMarks op b=false) P7._auto_1):ZT X (Expr.Compare a [op] [b] pos) (tB t):=⟨P7 h1.to h2⟩
theorem bP{X:Cx}{a b:Expr}{ta tb:TE}{pos:Pos}{op:CmpOp}{r:R2}(h1:oE X (compareOp op) r)(h2:ZE X a ta)(h3:ZE X b tb)(h4:behindInMarks op b=false):ZT X (Expr.Compare a [op] [b] pos) (wq (Lj r ta tb)):=⟨T7 h1 h2.to h3.to h4⟩
theorem dG{X:Cx}{a:Expr}{pos:Pos}{tA:TT}(h1:ZT X a tA):ZT X (Expr.UnaryOp UnaryOp.Not a pos) (Hb tA):=⟨Yg h1.to⟩
theorem mX{X:Cx}{e:Expr}{t:TT}(h1:ZW X e t):ZT X e t:=⟨PW.pt h1.to⟩
theorem bM{X:Cx}{e:Expr}{t:TE}(h1:ZE X e t)(h2:autoParam
    (∀(whole:Sem Value),
     PySem.isTrue e (Cx.env X) whole=do
      let v <-whole
      standAt (Expr.pos e)
      holding [v] (truthy v))
    P6._auto_1):ZT X e (tB t):=⟨P6 h1.to h2⟩
theorem qW{X:Cx}{a:Expr}{pos:Pos}{tA:TT}(h1:ZT X a tA):ZW X (Expr.BoolOp BoolOp.And [a] pos) tA:=⟨T6 h1.to⟩
theorem lj{X:Cx}{a:Expr}{pos:Pos}{tA:TT}(h1:ZT X a tA):ZW X (Expr.BoolOp BoolOp.Or [a] pos) tA:=⟨Yd h1.to⟩
theorem vt{X:Cx}{a b:Expr}{pos:Pos}{tA Sf:TT}{rest:List Expr}(h1:ZT X a tA)(h2:ZW X (Expr.BoolOp BoolOp.And (b::rest) pos) Sf):ZW X (Expr.BoolOp BoolOp.And (a::b::rest) pos) (He tA Sf):=⟨Ye h1.to h2.to⟩
theorem lq{X:Cx}{a b:Expr}{pos:Pos}{tA Sf:TT}{rest:List Expr}(h1:ZT X a tA)(h2:ZW X (Expr.BoolOp BoolOp.Or (b::rest) pos) Sf):ZW X (Expr.BoolOp BoolOp.Or (a::b::rest) pos) (XF tA Sf):=⟨aAP h1.to h2.to⟩
theorem aD{X : Cx}{CX : K7}{k : Nat}{f : Addr}{fd : FuncData}{ps : List Str}{sp : Sp}{ug : List V}{ds : List Value}{E : XK}{x : Str}{p pos : Pos}{e : Expr}{es : List Expr}{t : TA}(h1 : bS (Cx.prog X) (Cx.w X) (Cx.K X) (Cx.mg X) (Cx.base X) CX k f fd ps sp)(h2 : cC k (Cx.A X))(h3 : Gl X x)(h4 : Cx.mg X x=some (Value.ref f))(h5 : W.keepIn (Cx.K X) (Value.ref f)=true)(h6 : Binds (Cx.K X) fd ps ds)(h7 : Vals ug ds)(h8 : Passes CX X E)(h9 : ZA X (e::es) t)(h10 : autoParam ((x==Str.ofString "__debug__")=false) vy._auto_1)(h11 : autoParam (starEach (e::es) (Cx.env X)=(false, eval e (Cx.env X))::starEach es (Cx.env X))
                          vy._auto_2) (h12 : autoParam
                            ((List.any (backTo pos (starEach es (Cx.env X))) λ(x : Bool × Sem Value) => Prod.fst x) =
                              false)
                            vy._auto_3) : ZE X (Expr.Call (Expr.Name x p) (e::es) [] pos) (wB sp ug E t) := ⟨vy h1 h2 h3 h4 h5 h6 h7 h8 h9.to h10 h11 h12⟩
theorem de{X : Cx}{x : Str}{p pos : Pos}{e : Expr}{es : List Expr}{t : TA}{T : String}{r : List V → Hp → VK → Prop}(h1 : fw X (Value.type T) r)(h2 : Gl X x)(h3 : Cx.mg X x=none)(h4 : bootBuiltins x=some (Value.type T))(h5 : ZA X (e::es) t)(h6 : autoParam (x ≠ Str.ofString "__name__") kE._auto_1)(h7 : autoParam ((x==Str.ofString "__debug__")=false) kE._auto_2)(h8 : autoParam (starEach (e::es) (Cx.env X)=(false, eval e (Cx.env X))::starEach es (Cx.env X))
                    kE._auto_3) (h9 : autoParam
                      ((List.any (backTo pos (starEach es (Cx.env X))) λ(x : Bool × Sem Value) => Prod.fst x) =
                        false)
                      kE._auto_4) : ZE X (Expr.Call (Expr.Name x p) (e::es) [] pos) (Te r t) := ⟨kE h1 h2 h3 h4 h5.to h6 h7 h8 h9⟩
theorem bt{X : Cx}{x : Str}{p pos : Pos}{e : Expr}{es : List Expr}{t : TA}{id : String}{r : List V → Hp → VK → Prop}(h1 : fw X (Value.builtin id) r)(h2 : Gl X x)(h3 : Cx.mg X x=none)(h4 : bootBuiltins x=some (Value.builtin id))(h5 : ZA X (e::es) t)(h6 : autoParam (x ≠ Str.ofString "__name__") ni._auto_1)(h7 : autoParam ((x==Str.ofString "__debug__")=false) ni._auto_2)(h8 : autoParam (starEach (e::es) (Cx.env X)=(false, eval e (Cx.env X))::starEach es (Cx.env X))
                    ni._auto_3) (h9 : autoParam
                      ((List.any (backTo pos (starEach es (Cx.env X))) λ(x : Bool × Sem Value) => Prod.fst x) =
                        false)
                      ni._auto_4) : ZE X (Expr.Call (Expr.Name x p) (e::es) [] pos) (Te r t) := ⟨ni h1 h2 h3 h4 h5.to h6 h7 h8 h9⟩
theorem pO{X : Cx}{o e : Expr}{es : List Expr}{to : TE}{t : TA}{name : Str}{apos dh : Pos}{T id : String}{r : V → List V → Hp → VK → Prop}(h1 : PlainAttrs T)(h2 : Slot T name id)(h3 : typeOf (Value.builtin id)=pure (Value.type "method_descriptor"))(h4 : MtR X id r)(h5 : ZE X o to)(h6 : ZA X (e::es) t)(h7 : autoParam (attributeBase o name (Cx.env X) (eval o (Cx.env X))=eval o (Cx.env X)) zA._auto_1)(h8 : autoParam
                    ((((List.all (backTo dh (starEach (e::es) (Cx.env X))) λ(x : Bool × Sem Value) =>
                            !Prod.fst x) &&
                          List.all (backToKw dh (keywordEach [] (Cx.env X))) λ(x : Option Str × Sem Value) =>
                            Option.isSome (Prod.fst x)) &&
                        decide
                          ((List.length (e::es)+List.length ([] : List Keyword)+if List.isEmpty ([] : List Keyword)=true then 0 else 1)<30)) =
                      true)
                    zA._auto_2) (h9 : autoParam ((Pos.endLine apos==Pos.line dh)=true) zA._auto_3) (h10 : autoParam (starEach (e::es) (Cx.env X)=(false, eval e (Cx.env X))::starEach es (Cx.env X))
                        zA._auto_4) (h11 : autoParam
                          ((List.any (backTo dh (starEach es (Cx.env X))) λ(x : Bool × Sem Value) => Prod.fst x) =
                            false)
                          zA._auto_5) : ZE X (Expr.Call (Expr.Attribute o name apos) (e::es) [] dh) (XH (Cx.K X) T r to t) := ⟨zA h1 h2 h3 h4 h5.to h6.to h7 h8 h9 h10 h11⟩
theorem aQ{X:Cx}{e:Expr}{te:TE}{pos:Pos}(h1:ZE X e te):ZS X (Stmt.Return (some e) pos) (Ha te):=⟨Yj h1.to⟩
theorem dP{X:Cx}{e:Expr}{te:TE}{pos:Pos}(h1:ZE X e te)(h2:autoParam (swapsWith e none (Pos.line pos) (Cx.env X)=pure false) JS._auto_1):ZS X (Stmt.Expr e pos) (wz te):=⟨JS h1.to h2⟩
theorem tL{X : Cx}{N : List Str}{km : Scope}{elt target iter : Expr}{ifs : List Expr}{scope : Scope}{pos spos py : Pos}{wi : TI}{g : CB → TG}{tt : CB → TT}{te : CB → TE}{y : Str}(h1 : HC X N km)(h2 : List.Nodup N)(i : Nat)(h3 : Ms N km i y=true)(xs : List Str)(idx : List Nat)(h4 : Cx.calm X=true)(h5 : Nn km N scope idx=true)(h6 : ZI X target iter wi)(h7 : (∀ (c : CB),
                      HC (mq X scope (xs++cx (Cx.N X) idx) c) (xs++cx N idx) (dw scope km) →
                        ZG (mq X scope (xs++cx (Cx.N X) idx) c) target (g c))) (h8 : (∀ (c : CB),
                        HC (mq X scope (xs++cx (Cx.N X) idx) c) (xs++cx N idx) (dw scope km) →
                          Wh (mq X scope (xs++cx (Cx.N X) idx) c) ifs (tt c))) (h9 : (∀ (c : CB),
                          HC (mq X scope (xs++cx (Cx.N X) idx) c) (xs++cx N idx) (dw scope km) →
                            ZE (mq X scope (xs++cx (Cx.N X) idx) c) elt (te c))) (h10 : swapsWith
                              (Expr.ListComp elt [{ target := target, iter := iter, ifs := ifs, is_async := 0 }] scope
                                pos)
                              (some (Expr.Name y py)) (Pos.line spos) (Cx.env X) =
                            pure true) (h11 : autoParam (∀ (x : Value), foldedSetIterable iter (Cx.env X) x=pure x) DW._auto_1) : ZS X
                              (Stmt.Assign [Expr.Name y py]
                                (Expr.ListComp elt [{ target := target, iter := iter, ifs := ifs, is_async := 0 }] scope
                                  pos)
                                spos)
                              (tT (wA wi (List.length xs) idx g tt te) (dA i)) := ⟨DW h1 h2 i h3 xs idx h4 h5 h6.to (λc z => (h7 c z).to) (λc z => (h8 c z).to) (λc z => (h9 c z).to) h10 h11⟩
theorem aR{X:Cx}{N:List Str}{sc:Scope}{x:Str}{pos:Pos}{e:Expr}{te:TE}{pos':Pos}(h1:HC X N sc)(h2:List.Nodup N)(h3:(∀(x:Str),Cx.fn X x=true))(i:Nat)(h4:Sh N sc i x=true)(h5:ZE X e te)(h6:autoParam (swapsWith e (some (Expr.Name x pos')) (Pos.line pos) (Cx.env X)=pure false) JR._auto_1):ZS X (Stmt.Assign [Expr.Name x pos'] e pos) (tT te (dA i)):=⟨JR h1 h2 h3 i h4 h5.to h6⟩
theorem qY{X:Cx}{o i value:Expr}{pos pos':Pos}{td ty tv:TE}(h1:Around.units (Cx.A X)+1<cLine)(h2:ZE X o td)(h3:ZE X i ty)(h4:ZE X value tv)(h5:swapsWith value (some (Expr.Subscript o i pos')) (Pos.line pos) (Cx.env X)=pure false):ZS X (Stmt.Assign [Expr.Subscript o i pos'] value pos) (wJ td ty tv):=⟨Ug h1 h2.to h3.to h4.to h5⟩
theorem lu{X : Cx}{pos : Pos}{tg e : Expr}{te : TE}{g : TG}(h1 : ZE X e te)(h2 : ZG X tg g)(h3 : autoParam (swapsWithSole [tg] e (Pos.line pos) (Cx.env X)=pure false) BJ._auto_1)(h4 : autoParam (swappedStores [tg] e (Cx.env X)=pure none) BJ._auto_2)(h5 : autoParam
              (List.map (λ(x : Bool × (Value → Sem Unit)) => Prod.snd x) (assignEach [tg] (Cx.env X)) =
                [assign tg (Cx.env X)])
              BJ._auto_3) : ZS X (Stmt.Assign [tg] e pos) (tT te g) := ⟨BJ h1.to h2.to h3 h4 h5⟩
theorem lz{X : Cx}{pos : Pos}{o i : Expr}{to ti : TE}{t : Jo}(h1 : ZE X o to)(h2 : ZE X i ti)(h3 : Nz X t)(h4 : autoParam
            (∀ (v : Value),
              assign (Expr.Subscript o i pos) (Cx.env X) v=do
                let ov ← holding [v] (eval o (Cx.env X))
                let iv ← holding [v, ov] (eval i (Cx.env X))
                standAt pos
                holding [v, ov, iv] (setItem ov iv v)
                release [v, ov, iv] [])
            Qd._auto_1) : ZG X (Expr.Subscript o i pos) (IV to ti t) := ⟨Qd h1.to h2.to h3 h4⟩
theorem Dk{X : Cx}{pos : Pos}{o i e : Expr}{to ti te : TE}{G6 : V → V → Hp → VK → Prop}{Xz : Wj}{G5 : Jo}{op : Operator}{Ou : Pos}(h1 : ZE X o to)(h2 : ZE X i ti)(h3 : aAe X G6)(h4 : ZE X e te)(h5 : PIp X op Xz)(h6 : Nz X G5)(h7 : autoParam
                  (∀ (ov iv new : Value),
                    augStore i ov iv new=do
                      holding [new, ov, iv] (setItem ov iv new)
                      release [new, ov, iv] []
                      pure Flow.next)
                  JT._auto_1) : ZS X (Stmt.AugAssign (Expr.Subscript o i Ou) op e pos) (wC to ti te G6 Xz G5) := ⟨JT h1.to h2.to h3 h4.to h5 h6 h7⟩
theorem Od{X:Cx}{N:List Str}{sc:Scope}{x:Str}{pos:Pos}{e:Expr}{te:TE}{op:Operator}{ti:Wj}{pos':Pos}(h1:HC X N sc)(h2:List.Nodup N)(h3:(∀(x:Str),Cx.fn X x=true))(i:Nat)(h4:Sh N sc i x=true)(h5:ZE X e te)(h6:PIp X op ti):ZS X (Stmt.AugAssign (Expr.Name x pos') op e pos) (Tf i te ti):=⟨Uc h1 h2 h3 i h4 h5.to h6⟩
theorem cg{X:Cx}{t u:TS}{pos:Pos}{c:Expr}{a b:List Stmt}{tc:TT}(h1:ZT X c tc)(h2:KS X a t)(h3:KS X b u):ZS X (Stmt.If c a b pos) (Du tc t u):=⟨aAN h1.to (.of h2.to) (.of h3.to)⟩
theorem yM{X:Cx}{pos:Pos}{c:Expr}{body:List Stmt}{tc:TT}{tb:TS}(h1:PassesOwn (model (Cx.prog X) (Cx.w X)) (Cx.A X) (Cx.env X) (Cx.xe X))(h2:ZT X c tc)(h3:KS X body tb):ZS X (Stmt.While c body [] pos) (G8 tc tb):=⟨Py h1 h2.to (.of h3.to)⟩
theorem pN{X:Cx}{N:List Str}{sc:Scope}{x:Str}{pos:Pos}(h1:HC X N sc)(h2:List.Nodup N)(h3:(∀(x:Str),Cx.fn X x=true))(i:Nat)(h4:Sh N sc i x=true):ZG X (Expr.Name x pos) (dA i):=⟨pgk h1 h2 h3 i h4⟩
theorem er{X:Cx}{pos:Pos}{tg iter:Expr}{body:List Stmt}{wi:TI}{g:TG}{tb:TS}(h1:PassesOwn (model (Cx.prog X) (Cx.w X)) (Cx.A X) (Cx.env X) (Cx.xe X))(h2:Cx.calm X=true)(h3:ZI X tg iter wi)(h4:ZG X tg g)(h5:KS X body tb)(h6:autoParam (∀(x:Value),foldedSetIterable iter (Cx.env X) x=pure x) Pz._auto_1):ZS X (Stmt.For tg iter body [] pos) (Tc wi g tb):=⟨Pz h1 h2 h3.to h4.to (.of h5.to) h6⟩
theorem bA{X:Cx}:KS X [] uP:=⟨yG.to T4⟩
theorem az{X:Cx}{st:Stmt}{t:TS}(h1:ZS X st t):KS X [st] t:=⟨yG.to (T3 h1.to)⟩
theorem au{X:Cx}{st:Stmt}{rest:List Stmt}{t u:TS}(h1:ZS X st t)(h2:KS X rest u):KS X (st::rest) (G' t u):=⟨yG.to (Px h1.to (.of h2.to))⟩
theorem mS{X:Cx}{st:Stmt}{rest:List Stmt}{t u:TS}(h1:ZS X st t)(h2:KS X rest u):KS X (st::rest) (Td t u):=⟨yG.to (T5 h1.to (.of h2.to))⟩
theorem jz.rO{P:Program}{w:World}{K:PySem.W.Frag}{mg:Str->Option Value}{base:Heap}{x qual:Str}{st:Stmt}{f:Addr}{fd:FuncData}{N ps:List Str}{k:Nat}{sp:Sp}(F:jz K x qual st f fd)(S:aX N ps (ag st))(len:∀vs H Q E,sp vs H Q E->vs.length=ps.length)
  (fP:∀(cP:Value) (A:Around) (outer:List Env) (s:Shared) (H:Hp) (vs:List V) (Q:VK) (E:XK),cC k (A.deeper (envOfC qual (ag st) s.heap.objs.size f cP))->sp vs H Q E->
   HC (fQ fN P w K mg base N qual (ag st) f cP A outer s H E).yc N (ag st)->(∀x,(fQ fN P w K mg base N qual (ag st) f cP A outer s H E).yc.fn x=true)->
   ∃t,KS (fQ fN P w K mg base N qual (ag st) f cP A outer s H E).yc (aO st) t/\t { nx:=λ_ H'=>Q .non H',rt:=Q } (start N vs) H):bS P w K mg base fN (k+1) f fd ps sp:=
 F.okK S len λcP A outer s H vs Q E hr h hc hf=>let ⟨t,h1,h2⟩:=fP cP A outer s H vs Q E hr h hc hf;⟨t,.of h1.to,h2⟩
def uq(w:World):Bool:=w.params.followText "set-order"
theorem U5(t:SetTable)(es:Array (Int×Value))(h:Int)(x:Value):(layNew t es h x).2.1.led=t.led:=by
 unfold layNew
 split
 ·dsimp only;unfold SetTable.orStandIn
  split <;> rfl
 ·rfl
theorem QR{mask finger moves:Nat}{led plain:Bool}{hs:Array Int}{t':SetTable}{o:Array Nat}(h:SetTable.laid mask finger moves led plain hs=some (t',o)):t'.led=led/\t'.plain=plain:=by
 unfold SetTable.laid at h
 cases q:SetTable.layClean mask hs with
 | none=>rw[q]at h;cases h
 | some owner=>rw[q]at h;cases h;exact⟨rfl,rfl⟩
theorem LR(t:SetTable)(es:Array (Int×Value))(k:Nat):(relayAll t es k).2.1.led=t.led:=by
 unfold relayAll
 split
 ·rename_i t' o q
  dsimp only
  split
  ·exact(QR q).1
  ·rfl
 ·rfl
def aEF(w:World)(p:Str×Tok):Int×Value:=(hashStr w p.1,.str p.1 p.2)
def eV(es:Array (Int×Value))(ep:Nat)(t:SetTable):Obj:={ cls:=.type "set",dict:=none,data:=.set es ep t }
structure aFA(w:World)(h:Heap)(a:Addr)(l:List (Str×Tok)):Prop where
 ex:∃es ep t,h.get? a=some (eV es ep t)/\es.toList=l.map (aEF w)/\t.fits es.size=true/\t.led = !uq w/\(l≠[]->t.plain=false)
 nd:(l.map (·.1)).Nodup
 sz:l.length<scanBound
section
variable {P:Program}{w:World}{A:Around}{E:Value->Shared->Prop}{s:Shared}{a:Addr}{l:List (Str×Tok)}
end
section
variable {P:Program}{w:World}{A:Around}{R:Result->Shared->Prop}{I:Addr}{fp wr:List Addr}{G:Array GenState->Array GenState->Prop}{n:Nat}{Pv:Nat->Value->Prop}{St:Nat->Shared->Prop}
end
section
variable {P:Program}{w:World}{A:Around}{E:Value->Shared->Prop}{s:Shared}
theorem JL{x:Value}{Q:Value->Shared->Prop}(h:Q (.ref s.heap.objs.size) { s with heap:=s.heap.push (eV #[] 0 (.fresh 0 0 (!uq w))) }) :
  codeAny (model P w) A (.call (.builtin "set.__new__") ⟨[.type "set",x],[]⟩) (wants Q E) s:=by
 refine Ak ?_
 refine ay (m:=checkBuiltinCall "set.__new__" ⟨[.type "set",x],[]⟩) (vJ (PySem.F.newCall_set_1 x) (aK ⟨vN PySem.F.plain_set_new _,lg PySem.F.entry_set_new ?_⟩))
 rw[pK PySem.F.plain_set_new _]
 unfold Builtin.«set.__new__» Builtin.Frozenset.newClass
 have Iu:=sub_set_self
 obtain⟨hp,g,d,tk,os⟩:=s
 dsimp only
 wp_walk
 refine wpAny_askSetting (aK ?_)
 dsimp only
 simp only[newObj]
 refine ay (wpAny_alloc (aK (aK h)))
end
theorem fA:Slot "set_iterator" "__next__" "set_iterator.__next__":=
 .of (owner:="set_iterator") (n:="__next__") (by rw[typeLookup_type,builtinLookup_eq_fast];kernel_rfl) (by decide +kernel) (by decide +kernel) (by decide +kernel)
  (.inl (by decide +kernel)) (by rw[isSubtype_type];kernel_rfl)
theorem rA:Slot "set_iterator" "__iter__" "set_iterator.__iter__":=
 .of (owner:="set_iterator") (n:="__iter__") (by rw[typeLookup_type,builtinLookup_eq_fast];kernel_rfl) (by decide +kernel) (by decide +kernel) (by decide +kernel)
  (.inl (by decide +kernel)) (by rw[isSubtype_type];kernel_rfl)
theorem oX:entryFor table "set_iterator.__next__" = some Builtin.«set_iterator.__next__»:=entryFor_of_tree (by kernel_rfl)
theorem yk:entryFor table "set_iterator.__iter__" = some Builtin.«dict_keyiterator.__iter__»:=
 entryFor_alias (id':="dict_keyiterator.__iter__") (by kernel_rfl) rfl (by decide +kernel) (by kernel_rfl)
theorem ym:entryFor table "set.__iter__" = some Builtin.«frozenset.__iter__»:=
 entryFor_alias (id':="frozenset.__iter__") (by kernel_rfl) rfl (by decide +kernel) (by kernel_rfl)
theorem Dw:Manifest.owners.lookup (String.ofList "rotareti_tes".toList.reverse)=some Manifest.sig_set_iterator:=by kernel_rfl
theorem rB(a:Value):argsOk "set_iterator.__next__" ⟨[a],[]⟩:=by
 unfold argsOk;rw[signature?_of (id:="set_iterator.__next__") (n:="__txen__".toList) (o:="rotareti_tes".toList) (by kernel_rfl) Dw];kernel_rfl
theorem Br(a:Value):argsOk "set_iterator.__iter__" ⟨[a],[]⟩:=by
 unfold argsOk;rw[signature?_of (id:="set_iterator.__iter__") (n:="__reti__".toList) (o:="rotareti_tes".toList) (by kernel_rfl) Dw];kernel_rfl
def oY(first:Value)(i n ep:Nat)(a:Addr):Obj:={ cls:=.type "set_iterator",data:=.fields #[first,.int i 0,.ref a,.int n 0,.int ep 0] }
section
variable {P:Program}{w:World}{A:Around}{E:Value->Shared->Prop}{s:Shared}{a I:Addr}{es:Array (Int×Value)}{t:SetTable}{ep i n:Nat}{first:Value}
theorem rz(hI:s.heap.get? I=some (oY first i n ep a)):s.TypeIs (.ref I) "set_iterator":=⟨_,hI,rfl⟩
theorem JH{Q:Value->Shared->Prop}(hI:s.heap.get? I=some (oY first i n ep a))(q:Q (.ref I) s):wpAny (model P w) A (pyIter (.ref I)) Q E s:=by
 refine wpAny_pyIter_slot (rz hI) rA (oU rA (rz hI) yk ?_ (Br _))
 exact aK ⟨_,rfl,"set_iterator",_,rz hI,fA.lookup,q⟩
theorem O6{slot:Nat}{tk:Tok}{r:Option (Value×Nat)}{Q:Option Value->Shared->Prop}(hh:A.handled=none)(hI:s.heap.get? I=some (oY (.int slot tk) i n ep a))(hS:s.heap.get? a=some (eV es ep t))(hf:t.fits es.size=true)(hn:es.size=n)
  (hx:∀(B:Around) (E':Value->Shared->Prop) (Q':Option (Value×Nat)->Shared->Prop),Q' r s->wpAny (model P w) B (setNext a slot i ep) Q' E' s)
  (q:match r with
   | some (x,nx)=>∀h',h'.get? I=some (oY (.int (nx:Int) 0) (i+1) n ep a)->Heap.SameBut I s.heap h'->Q (some x) { s with heap:=h' }
   | none=>∀h',Heap.ExtBut I s.heap h'->Q none { s with heap:=h' }):wpAny (model P w) A (pyNext (.ref I)) Q E s:=by
 have hT:=rz hI
 unfold pyNext
 refine ay (sX (tJ (name:=Str.ofString "__next__") hT fA (oU fA hT oX ?_ (rB _))))
 unfold Builtin.«set_iterator.__next__»
 refine ay (m:=slotArgs _ _ _) (aK ?_)
 refine ay (sZ hI rfl ?_)
 refine ay (m:=setEntries a) (Gh hS rfl hf ?_)
 rw[aC (by rw[hn];simp)]
 refine ay (m:=setNext a slot i ep) (hx _ _ _ ?_)
 cases r with
 | some p=>
  obtain⟨x,nx⟩:=p
  dsimp only at q ⊢
  refine ay (m:=setField (.ref I) 0 (rawInt nx)) (tG hI (by simp) λh1 e1 sb1=>?_)
  refine ay (m:=setField (.ref I) 1 (rawInt (i+1))) (tG e1 (by simp) λh2 e2 sb2=>?_)
  exact aK ⟨x,rfl,aK (q h2 (by rw[e2];rfl) (sb1.trans sb2))⟩
 | none=>
  dsimp only at q ⊢
  refine ay (m:=setField (.ref I) 2 .none) (tG hI (by simp) λh1 e1 sb1=>?_)
  refine ay (m:=newExc (.type "StopIteration") []) ?_
  simp only[newExc,newTuple]
  refine ay (iJ ?_ (by size_fits))
  refine ay (m:=firstArgMember _ _) (vJ (a:=Value.none) (by first | rfl | (simp only[firstArgMember];rfl)) ?_)
  refine iJ (Gg hh ?_) (by size_fits)
  refine ay (Ap (T:="StopIteration") (b:=true) ⟨_,cI _ rfl,rfl⟩ isSubtype_stop ?_)
  exact aK (q _ ((sb1.extBut.push _).push _))
theorem O5{p:Addr}{vs:Array Value}{c:Nat}{r:Option Value}{Q:Option Value->Shared->Prop}(hh:A.handled=none)(hI:s.heap.get? I=some (oY (.ref p) i n ep a))(hS:s.heap.get? a=some (eV es ep t))(hf:t.fits es.size=true)(hn:es.size=n)
  (hp:s.heap.get? p=some { cls:=.type "tuple",data:=.seq vs c })
  (hv:match r with | some x=>∃(k:Nat) (z:Int),vs[i]?=some (.int k 0)/\es[k]?=some (z,x) | none=>vs[i]?=none)
  (q:match r with
   | some x=>∀h',h'.get? I=some (oY (.ref p) (i+1) n ep a)->Heap.SameBut I s.heap h'->Q (some x) { s with heap:=h' }
   | none=>∀h',Heap.ExtBut I s.heap h'->Q none { s with heap:=h' }):wpAny (model P w) A (pyNext (.ref I)) Q E s:=by
 have hT:=rz hI
 unfold pyNext
 refine ay (sX (tJ (name:=Str.ofString "__next__") hT fA (oU fA hT oX ?_ (rB _))))
 unfold Builtin.«set_iterator.__next__»
 refine ay (m:=slotArgs _ _ _) (aK ?_)
 refine ay (sZ hI rfl ?_)
 refine ay (m:=setEntries a) (Gh hS rfl hf ?_)
 rw[aC (by rw[hn];simp)]
 refine ay (m:=seqItems? (.ref p)) (wpAny_seqItems hp rfl ?_)
 cases r with
 | some x=>
  obtain⟨k,z,e1,e2⟩:=hv
  dsimp only at q ⊢
  simp only[uJ,e1]
  refine ay (m:=setNextDrawn a k ep) ?_
  unfold setNextDrawn
  refine ay (tj hS rfl hf ?_)
  dsimp only
  rw[aC (by simp)]
  simp only[e2]
  refine aK ?_
  refine ay (m:=setField (.ref I) 1 (rawInt (i+1))) (tG hI (by simp) λh2 e2 sb2=>?_)
  exact aK ⟨x,rfl,aK (q h2 (by rw[e2];rfl) sb2)⟩
 | none=>
  dsimp only at q hv ⊢
  simp only[uJ,hv]
  refine ay (m:=setField (.ref I) 0 (rawInt 0)) (tG hI (by simp) λh0 e0 sb0=>?_)
  refine ay (m:=setField (.ref I) 2 .none) (tG e0 (by simp) λh1 e1 sb1=>?_)
  refine ay (m:=newExc (.type "StopIteration") []) ?_
  simp only[newExc,newTuple]
  refine ay (iJ ?_ (by size_fits))
  refine ay (m:=firstArgMember _ _) (vJ (a:=Value.none) (by first | rfl | (simp only[firstArgMember];rfl)) ?_)
  refine iJ (Gg hh ?_) (by size_fits)
  refine ay (Ap (T:="StopIteration") (b:=true) ⟨_,cI _ rfl,rfl⟩ isSubtype_stop ?_)
  exact aK (q _ (((sb0.trans sb1).extBut.push _).push _))
end
theorem qx{α:Type}:∀(l:List α) (i:Nat) (x:α),l[i]?=some x->(x::l.eraseIdx i).Perm l
 | [],i,x,h=>by cases i <;> cases h
 | y::l,0,x,h=>by cases h;exact List.Perm.refl _
 | y::l,i+1,x,h=>by
  rw[GL]at h
  rw[List.eraseIdx_cons_succ]
  exact(List.Perm.swap y x _).trans ((qx l i x h).cons y)
theorem JX{α:Type}(next:Nat->Nat):∀(f k:Nat) (l:List α) (out:Array α),l.length=f->(pickOrder.go next f k l out).toList.Perm (out.toList++l)
 | 0,k,l,out,h=>by
  rw[GP.mp h,fZ]
  unfold pickOrder.go
  exact List.Perm.refl _
 | f+1,k,l,out,h=>by
  unfold pickOrder.go
  have lt:next k%l.length<l.length:=Nat.mod_lt _ (by lia)
  have e:l[next k%l.length]?=some l[next k%l.length]:=bJ lt
  rw[e]
  dsimp only
  refine(JX next f (k+1) _ _ (by rw[List.length_eraseIdx_of_lt lt];lia)).trans ?_
  rw[uI,iK]
  exact(qx l _ _ e).append_left _
theorem zr{α:Type}(next:Nat->Nat)(xs:Array α):(pickOrder next xs).toList.Perm xs.toList:=by
 unfold pickOrder
 have:=JX next xs.size 0 xs.toList #[] di
 simpa using this
section
variable {P:Program}{w:World}{A:Around}{E:Value->Shared->Prop}
theorem zT{α:Type}:∀(n:Nat) (xs:List α) (s:Shared) (Q:List α->Shared->Prop),xs.length=n->(∀ys d,ys.Perm xs->Q ys { s with drawn:=d })->wpAny (model P w) A (drawOrder n xs) Q E s
 | 0,xs,s,Q,h,q=>by
  have:xs=[]:=GP.mp h
  subst this
  unfold drawOrder
  exact aK (by cases s;exact q [] _ (List.Perm.refl _))
 | n+1,[],s,Q,h,q=>by cases h
 | n+1,x::xs,s,Q,h,q=>by
  unfold drawOrder
  have lt:w.draws .order (s.drawn.get .order)%(x::xs).length<(x::xs).length:=Nat.mod_lt _ (by simp)
  refine ay (m:=choose .order (x::xs).length) (λΓ p hΓ=>?_)
  refine⟨by simp,?_⟩
  have e:(x::xs)[w.draws .order (s.drawn.get .order)%(x::xs).length]?=some (x::xs)[w.draws .order (s.drawn.get .order)%(x::xs).length]:=bJ lt
  show wpAny (model P w) A (match (x::xs)[w.draws .order (s.drawn.get .order)%(x::xs).length]? with
   | some y=>do let r <-drawOrder n ((x::xs).eraseIdx (w.draws .order (s.drawn.get .order)%(x::xs).length));pure (y::r)
   | none=>unsupported "internal:drawOrder") Q E { s with drawn:=s.drawn.bump .order }
  rw[e]
  dsimp only
  refine ay (zT n _ _ _ (by rw[List.length_eraseIdx_of_lt lt];simp at h ⊢;lia) λys d hp=>aK ?_)
  exact q _ d ((hp.cons _).trans (qx _ _ _ e))
variable {s:Shared}{a:Addr}{es:Array (Int×Value)}{t:SetTable}{ep slot i:Nat}
theorem lP{Q:Bool->Shared->Prop}(q:Q (uq w) s):wpAny (model P w) A setsByText Q E s:=by
 unfold setsByText
 exact ay (wpAny_askSetting (aK q))
theorem Ei{Q:Option (Value×Nat)->Shared->Prop}(hb:uq w=true)(hS:s.heap.get? a=some (eV es ep t))(hf:t.fits es.size=true)(q:Q (((pickOrder (w.params.setOrder a ep) es)[i]?).map λe=>(e.2,slot)) s) :
  wpAny (model P w) A (setNext a slot i ep) Q E s:=by
 unfold setNext
 refine ay (tj hS rfl hf (ay (lP ?_)))
 rw[hb]
 dsimp only
 rw[aB rfl,aC (by simp)]
 refine ay ?_
 unfold setWalk
 refine ay (tj hS rfl hf (ay (lP ?_)))
 rw[hb,aB rfl]
 exact ay (wpAny_askSetting (aK (aK q)))
end
section
variable {P:Program}{w:World}{B:Around}{a I:Addr}{es:Array (Int×Value)}{t:SetTable}{ep n:Nat}{ord:List Value}
theorem yQ(slotAt:Nat->Nat)(hh:B.handled=none)(yd:a≠I)(hf:t.fits es.size=true)(hn:es.size=n)(ho:ord.length=n)
  (hx:∀i,i<=n->∀(s:Shared) (C:Around) (E':Value->Shared->Prop) (Q':Option (Value×Nat)->Shared->Prop),s.heap.get? a=some (eV es ep t)->Q' ((ord[i]?).map λv=>(v,slotAt (i+1))) s->wpAny (model P w) C (setNext a (slotAt i) i ep) Q' E' s) :
  WalksS P w B I [I,a] [I] (λx y=>y=x) n (λi v=>ord[i]?=some v) (λi s=>s.heap.get? I=some (oY (.int (slotAt i) 0) i n ep a)/\s.heap.get? a=some (eV es ep t)) where
 sub:=λb hb=>by rw[cE.mp hb];exact du
 grefl:=λ_=>rfl
 gtrans:=λ_ _ _ h1 h2=>h2.trans h1
 frame:=λi s h' tk st _ k=>⟨k I (by simp) _ st.1,k a (by simp) _ st.2⟩
 item:=λi s Q E hi st q=>by
  have e:ord[i]?=some ord[i]:=bJ (by rw[ho];exact hi)
  refine O6 (r:=some (ord[i],slotAt (i+1))) hh st.1 st.2 hf hn (λC E' Q' hq=>hx i (iZ hi) s C E' Q' st.2 (by rw[e];exact hq)) λh' h1 h2=>?_
  exact q _ _ e ⟨h1,h2.extBut a _ yd st.2⟩ ⟨λb o hb z=>h2.extBut b o (λy=>hb (by rw[y];exact cE.mpr rfl)) z,rfl,rfl,rfl,bx _⟩
 done:=λs Q E st q=>by
  have e:ord[n]?=none:=mQ (by rw[ho];exact bx _)
  refine O6 (r:=none) hh st.1 st.2 hf hn (λC E' Q' hq=>hx n (bx _) s C E' Q' st.2 (by rw[e];exact hq)) λh' h1=>?_
  exact q _ ⟨λb o hb z=>h1 b o (λy=>hb (by rw[y];exact cE.mpr rfl)) z,rfl,rfl,rfl,bx _⟩
 self:=λi s Q E st q=>JH st.1 q
theorem Ld{p:Addr}{pl:List Nat}{c:Nat}(hh:B.handled=none)(yd:a≠I)(hnp:p≠I)(hf:t.fits es.size=true)(hn:es.size=n)(ho:ord.length=n)(hl:pl.length=n)
  (hx:∀i:Nat,i<n->∃(k:Nat) (z:Int) (x:Value),pl[i]?=some k/\es[k]?=some (z,x)/\ord[i]?=some x) :
  WalksS P w B I [I,a,p] [I] (λx y=>y=x) n (λi v=>ord[i]?=some v)
   (λi s=>s.heap.get? I=some (oY (.ref p) i n ep a)/\s.heap.get? a=some (eV es ep t)/\s.heap.get? p=some { cls:=.type "tuple",data:=.seq (pl.map λ(j:Nat)=>Value.int j 0).toArray c }) where
 sub:=λb hb=>by rw[cE.mp hb];exact du
 grefl:=λ_=>rfl
 gtrans:=λ_ _ _ h1 h2=>h2.trans h1
 frame:=λi s h' tk st _ k=>⟨k I (by simp) _ st.1,k a (by simp) _ st.2.1,k p (by simp) _ st.2.2⟩
 item:=λi s Q E hi st q=>by
  obtain⟨k,z,x,e1,e2,e3⟩:=hx i hi
  refine O5 (r:=some x) hh st.1 st.2.1 hf hn st.2.2 ⟨k,z,by simp[e1],e2⟩ λh' h1 h2=>?_
  exact q _ _ e3 ⟨h1,h2.extBut a _ yd st.2.1,h2.extBut p _ hnp st.2.2⟩ ⟨λb o hb z=>h2.extBut b o (λy=>hb (by rw[y];exact cE.mpr rfl)) z,rfl,rfl,rfl,bx _⟩
 done:=λs Q E st q=>by
  refine O5 (r:=none) hh st.1 st.2.1 hf hn st.2.2 (by simp[hl]) λh' h1=>?_
  exact q _ ⟨λb o hb z=>h1 b o (λy=>hb (by rw[y];exact cE.mpr rfl)) z,rfl,rfl,rfl,bx _⟩
 self:=λi s Q E st q=>JH st.1 q
end
section
variable {P:Program}{w:World}{A:Around}{E:Value->Shared->Prop}{s:Shared}{a:Addr}{l:List (Str×Tok)}
theorem O7{Q:Bool->Shared->Prop}(hT:s.TypeIs (.ref a) "set")(q:Q false s):wpAny (model P w) A (Builtin.List.listLengthHint (.ref a)) Q E s:=by
 unfold Builtin.List.listLengthHint
 refine ay (wpAny_specialOf hT PySem.F.slot_set_len.lookup ?_)
 generalize hid:("set.__len__" : String)=id0
 wp_delta
 rw[show splitId id0=some ("set","__len__") from by subst hid;decide +kernel]
 subst hid
 refine ay (Ap (T:="set") (b:=true) hT (by rw[isSubtype_type];kernel_rfl) ?_)
 refine wpAny_ite_split (λz=>absurd z (by decide)) (λ_=>wpAny_ite_split (λ_=>?_) (λz=>absurd (by decide +kernel) z))
 exact ay (vL hT (aK q))
end
theorem Inv.same{X:Cx}{pins:List (Addr×Obj)}{σ:List (Option V)}{H:Hp}{s s':Shared}(I:Inv X pins σ H s)(hh:s'.heap=s.heap)(hg:s'.gens=s.gens)(ho:s'.os=s.os):Inv X pins σ H s':=
 ⟨I.ok,by rw[ho];exact I.os,by rw[hg];exact I.bare,by rw[hh];exact I.base,by rw[hh];exact I.loc,by rw[hh];exact I.cell,I.free,I.kL,by rw[hh];exact I.pin,by rw[hh];exact I.bE,I.len⟩
def TxS(w:World)(p:Addr)(ss:List Str):HO:=.ext λh=>∃l,aFA w h p l/\∀z,z∈l.map (·.1)↔z∈ss
section
variable {X:Cx}
theorem zF{α:Type} [DecidableEq α]:∀{l m:List α},l.Nodup->(∀x∈l,x∈m)->l.length<=m.length
 | [],m,_,_=>dM _
 | x::l,m,h,k=>by
  have hx:=k x du
  have:=zF (m:=m.erase x) (mO.mp h).2 λy hy=>(List.mem_erase_of_ne (λ(e:y=x)=>(mO.mp h).1 (by rw[<-e];exact hy))).mpr (k y (dN _ hy))
  rw[List.length_erase_of_mem hx]at this
  have p:0<m.length:=List.length_pos_of_mem hx
  rw[eJ];lia
end
theorem rj(K:PySem.W.Frag)(z:Str)(H:Hp):tyV K "str" (.str z) H=True:=eq_true rfl
theorem eM{α:Type} [DecidableEq α]:∀{l r:List α},l.Nodup->(∀x∈l,x∈r)->l.length<=r.length
 | [],_,_,_=>dM _
 | x::l,r,hn,hs=>by
  have hx:=hs x du
  have zO:=mO.mp hn
  have:=eM (l:=l) (r:=r.erase x) zO.2 λy hy=>(List.mem_erase_of_ne (λe:y=x=>zO.1 (by rw[<-e];exact hy))).mpr (hs y (dN _ hy))
  rw[List.length_erase_of_mem hx]at this
  have h0:0<r.length:=List.length_pos_of_mem hx
  rw[eJ];lia
section
variable {X:Cx}
def DQ(w:World):List V->Hp->VK->Prop:=λvs H Q=>∃a,vs=[.ref a]/\∃ss:List Str,H a=some (.lst (ss.map V.str))/\ss.length<4000/\∀p,H p=none->Q (.ref p) (upd H p (TxS w p ss))
def ng(w:World):List V->Hp->VK->Prop:=λvs H Q=>∃a,vs=[.ref a]/\∃ss:List Str,H a=some (TxS w a ss)/\ss.length<64/\
 ∀ss':List Str,(∀z,z∈ss'↔z∈ss)->ss'.Nodup->sortedS ss'=true->∀p,H p=none->Q (.ref p) (upd H p (.lst (ss'.map V.str)))
def zm:List V->Hp->VK->Prop:=λvs H Q=>∃a,vs=[.ref a]/\∃bs:List Bool,H a=some (.lst (bs.map V.bl))/\Q (.bl (bs.all id)) H
theorem R6:∀{bs:List Bool} {us:List Value},Vals (bs.map V.bl) us->∀(i:Nat) (v:Value),us[i]?=some v->v=.bool (bs.getD i true):=by
 intro bs
 induction bs with
 | nil=>intro us r i v h;cases r;cases i <;> cases h
 | cons b bs ih=>
  intro us r i v h
  rw[eF]at r
  cases r with
  | cons r1 r2=>
   cases r1
   cases i with
   | zero=>cases h;rfl
   | succ i=>exact ih r2 i v (by simpa using h)
theorem all_range:∀(bs:List Bool),((List.range bs.length).all λi=>bs.getD i true)=bs.all id
 | []=>rfl
 | b::bs=>by
  rw[eJ,List.range_succ_eq_map,vQ,List.all_map,vQ,<-all_range bs]
  rfl
theorem oB(hh:X.A.handled=none):fw X (.builtin "all") zm:=by
 intro pins s σ H vs us Q I rv h
 obtain⟨a,rfl,bs,hq,q⟩:=h
 obtain⟨u,rfl,ru⟩:=vals1 rv
 cases ru
 obtain⟨its,r,pl,hz⟩:=I.list (bu hq)
 have hl:=r.length
 rw[aY]at hl
 have lt:a<s.heap.objs.size:=let ⟨_,e,_⟩:=pl.isList;aU e
 refine call_all_walkS (Au pl.isList ⟨s.heap.objs.size,_,_,_,its.toArray.size,_,_,λi=>bs.getD i true,rfl,(Walks.list (A:=X.A.in1) hh _ a (bH lt) its.toArray).toS,⟨⟨_,cI _ rfl,rfl,rfl⟩,(pl.isList).push _⟩,?_,λs' mv=>?_⟩)
 ·intro i v s1 Q1 E1 hv hq1
  have:v=.bool (bs.getD i true):=R6 r i v (by simpa using hv)
  subst this
  exact aK hq1
 ·rw[cD,<-hl,all_range]
  have k:∀b o,s.heap.get? b=some o->s'.heap.get? b=some o:=λb o e=>mv.heap b o (λz=>absurd (aU e) (by rw[cE.mp z];exact jC _)) (bZ _ e)
  have I1:Inv X pins σ H { s with heap:=s'.heap,toks:=s.toks }:=I.un (Un.kept k) (I.bE.kept k)
  exact⟨.bl (bs.all id),H,I1.same rfl mv.gens mv.os,rfl,q⟩
end
section
variable {P:Program}{w:World}{κ:Type} [DecidableEq κ] {knd:PySem.KeyKind P w κ} {A:Around} {E:Value->Shared->Prop} {s:Shared} {a b:Addr} {aL QT:List (κ×Value)}
end
section
variable {X:Cx}
def P4(neg:Bool):R2:=λx y H Q=>∃a b,x=.ref a/\y=.ref b/\∃aL,H a=some (.dK aL)/\H b=some (.dK aL)/\(∀kv∈aL,∃c,kv.2=.bl c)/\Q (.bl (!neg)) H
def m8:V->List V->Hp->VK->Prop:=λx vs H Q=>∃a b,x=.ref a/\vs=[.ref b]/\a≠b/\∃aL,H a=some (.dK aL)/\∃more,H b=some (.dK more)/\aL.length+more.length<=sizeLine/\Q .non (upd H a (.dK (YL aL more)))
end
section
variable {X:Cx}{pins:List (Addr×Obj)}{s:Shared}{σ:St}{H:Hp}{A:Around}
theorem n8{xs:List V}{us:List Value}{j:Nat}{x:V}(r:Vals xs us)(h:j<us.toArray.size)(e:xs[j]?=some x):RelV x us.toArray[j]:=by
 have h':j<us.length:=by simpa using h
 obtain⟨u,eu,ru⟩:=r.get e
 have:=bJ h'
 rw[eu]at this
 have e1:us.toArray[j]=u:=by simpa using (eG this).symm
 rw[e1];exact ru
end
section
variable {P:Program}{w:World}{A:Around}{E:Value->Shared->Prop}{s:Shared}
theorem Fx{T:String}{r d:Addr}{n:Nat}{Pd:Nat->Value->Prop}{OK:Heap->Prop}{Q:List Value->Shared->Prop}(K:PySem.W.KdlSrc P w T r d n Pd OK)(hh:A.handled=none)(bE:OK s.heap)(hn:n<=sizeLine)
  (q:∀(s':Shared) (vs:List Value),(∀b o,s.heap.get? b=some o->s'.heap.get? b=some o)->s.heap.objs.size<=s'.heap.objs.size->s'.gens=s.gens->s'.os=s.os->vs.length=n->(∀(j:Nat) v,vs[j]?=some v->Pd j v)->Q vs s'):wpAny (model P w) A (collect (.ref r)) Q E s:=by
 have lt:=K.there _ bE
 unfold collect
 refine ay (Ah (lg entry_proto_collect' ?_))
 rw[pK PySem.F.plain_proto_collect _]
 refine ay (m:=newList []) (iJ ?_)
 refine aK ⟨vN Bh _,lg entry_list_iadd' ?_⟩
 rw[pK Bh _]
 let L0:Obj:={ cls:=.type "list",data:=.seq ([]:List Value).toArray }
 have k0:∀b o,s.heap.get? b=some o->(s.heap.push L0).get? b=some o:=λb o e=>bZ _ e
 have hL:(s.heap.push L0).get? s.heap.objs.size=some L0:=cI _ rfl
 show wpAny _ A.in1 (Builtin.List.listExtendWith (.ref s.heap.objs.size) (.ref r) (.ref s.heap.objs.size)) _ _ { s with heap:=s.heap.push L0 }
 let R0:Result->Shared->Prop:=λr s'=>match r with
  | .ok (.ret v)=>wpAny (model P w) A (match v with
   | .ref a=>do
    let o <-load a
    match o.data with
     | .seq xs _=>pure xs.toList
     | _=>unsupported "internal:collect"
   | _=>unsupported "internal:collect") Q E s'
  | .ok _=>False
  | .error e=>E e s'
 refine PySem.W.kdl_extend (R:=R0) (s:={ s with heap:=s.heap.push L0 }) K hh (K.keep _ _ bE λb _ o e=>k0 b o e) s.heap.objs.size (jA lt.1) (jA lt.2) _ 0 hL (λh' tk acc c hk hS Fn=>?_) hn
 refine ay (m:=load s.heap.objs.size) (wpAny_load hS (aK ?_))
 exact q _ acc.toList (λb o e=>hk b o (bH (aU e)) (k0 b o e)) (iZ (aU hS)) rfl rfl (by rw[di];exact Fn.1) λj v e=>Fn.2 j v (by rw[<-jH];exact e)
end
section
variable {X:Cx}
end
section
variable {X:Cx}{tg:Expr}
end
section
variable {X:Cx}
end
theorem jS{K:PySem.W.Frag}{a:Addr}{zs:List V}{idx:List Nat}{tt:CB->TT}{te:CB->TE}{σ:St}{Q:VK}{H1:Hp}(Pv:Addr->Nat->List V->Hp->Prop)(h0:∀D,H1 D=none->Pv D 0 [] (upd H1 D (.lst [])))
  (hl:∀D,H1 D=none->∀i ys H,i<=zs.length->Pv D i ys H->H a=some (.tup zs))
  (hs:∀D,H1 D=none->∀i x ys H,zs[i]?=some x->Pv D i ys H->∀(c:CB),tt c (some x::cw σ idx) H λb H4=>if b=true then te c (some x::cw σ idx) H4 λy H5=>H5 D=some (.lst ys)/\ys.length<sizeLine/\Pv D (i+1) (ys++[y]) (upd H5 D (.lst (ys++[y]))) else Pv D (i+1) ys H4)
  (hd:∀D,H1 D=none->∀ys H,Pv D zs.length ys H->Q (.ref D) H):jZ (Wm K a) 1 idx (λ_=>dA 0) tt te σ Q H1:=by
 intro D hD
 refine⟨λi m ys H=>m=zs.length-i/\i<=zs.length/\Pv D i ys H,⟨zs.length,by simp,dM _,h0 D hD⟩,?_⟩
 rintro i m ys H ⟨rfl,hi,p⟩
 by_cases jj:i<zs.length
 ·refine .inr ⟨⟨zs,zs[i],ck (hl D hD i ys H hi p),bJ jj⟩,Pv D (i+1),λtN H' p'=>⟨zs.length-(i+1),by omega,rfl,jj,p'⟩,λc own ho y H' yl=>?_⟩
  obtain⟨e,hy⟩:=yl
  subst e
  have ey:=hy zs (ck (hl D hD i ys H' hi p))
  show(∃fh,fh.length=1/\(own++cw σ idx).set 0 _=fh++cw σ idx)/\tt c ((own++cw σ idx).set 0 _) H' _
  rw[Yz ho]
  exact⟨⟨[_],rfl,rfl⟩,hs D hD i y ys H' ey p c⟩
 ·have e:i=zs.length:=by omega
  subst e
  exact .inl ⟨⟨zs,ck (hl D hD _ ys H hi p),bx _⟩,hd D hD ys H p⟩
section
variable {X:Cx}
def PN(neg:Bool):R2:=λx y H Q=>∃c d,x=.bl c/\y=.bl d/\Q (.bl (if neg then c != d else c==d)) H
theorem RX{prog:Program}{w:World}{A:Around}{E:Value->Shared->Prop}{s:Shared}{t b:Addr}{ws:List Value}{Q:Value->Shared->Prop}(ht:IsTup s.heap t (([]:List Value)).toArray)(hb:IsTup s.heap b ws.toArray)
  (h1:Q (.ref b) s):wpAny (model prog w) A (binaryOp .Add (.ref t) (.ref b)) Q E s:=by
 obtain⟨⟨cls,dd,data,sl⟩,ho,hc,n,hd⟩:=id ht
 obtain⟨⟨aBO,Xm,data2,Ls⟩,Ss,W8,n2,hd2⟩:=id hb
 simp only at hc hd W8 hd2
 subst hc hd W8 hd2
 exact concat_meets ⟨_,ho,rfl⟩ ⟨_,Ss,rfl⟩ noFill_tuple_add seq_tuple_add GK GQ (GR _ _)
   (tuple_addW0 t b _ ws.toArray n n2 dd Xm sl Ls rfl) ⟨ho,Ss,h1⟩
def zj:R2:=λx y H Q=>∃a b,x=.ref a/\y=.ref b/\∃xs,H a=some (.tup xs)/\∃ys,H b=some (.tup ys)/\xs.length+ys.length<=sizeLine/\
 ∀p H',bN H H'->(∀c,c≠p->H' c=H c)->H' p=some (.tup (xs++ys))->Q (.ref p) H'
theorem D':oE X (binaryOp .Add) zj:=by
 intro pins s σ H x y v u Q I rx ry h
 obtain⟨a,b,rfl,rfl,xs,ha,ys,hb,hz,q⟩:=h
 by_cases hx:xs=[]
 ·subst hx
  cases rx;cases ry
  obtain⟨its,r1,p1,_⟩:=I.tuple (ck ha)
  obtain⟨Eu,r2,p2,_⟩:=I.tuple (ck hb)
  cases r1
  exact RX p1 p2 ⟨.ref b,H,I,rfl,q b H (bN.refl H) (λ_ _=>rfl) hb⟩
 ·exact Uw pins s σ H _ _ v u Q I rx ry ⟨a,b,xs,ys,rfl,rfl,ck ha,ck hb,hx,hz,λe=>q a H (bN.refl H) (λ_ _=>rfl) (by rw[e,fZ];exact ha),λ_ p hp=>q p _ (λb u e=>by rw[av (aj e hp)];exact e) (λc hc=>av hc) ah⟩
def aFB(lo st:Int)(n:Nat):It:=⟨λi _=>i<n,λi H x H'=>H'=H/\x=.int (lo+i*st),λi _=>n<=i⟩
def Fg(ta:TA):TI:=λσ H R=>ta σ H λvs H1=>∃i j:Int,vs=[.int i,.int j,.int 2]/\(0<=i/\i<=1000/\-1<=j/\j<=1000)/\R (aFB i 2 ((j-i+1) / 2).toNat) H1
end
end L2
end
section
namespace L2
open PySem PySem.Spec PyProof.Rows Builtin Builtin.Str
section
variable {X:Cx}
end
end L2
end
section
namespace L2
open PySem PySem.W PyProof.Rows
structure Ord(b:Nat->Nat->Bool)(n:Nat):Prop where
 tr:∀i j k,i<n->j<n->k<n->b i j=true->b j k=true->b i k=true
 asy:∀i j,i<n->j<n->b i j=true->b j i=false
 tot:∀i j,i<n->j<n->i≠j->b i j=true\/b j i=true
abbrev Ab(p:Array Nat)(i:Nat):Nat:=p.getD i 0
structure CV(p:Array Nat)(n:Nat):Prop where
 perm:p.Perm (List.range n).toArray
theorem CV.size{p:Array Nat}{n:Nat}(h:CV p n):p.size=n:=by rw[h.perm.size_eq];simp
theorem CV.lt{p:Array Nat}{n:Nat}(h:CV p n)(hn:0<n)(i:Nat):Ab p i<n:=by
 unfold Ab
 rw[jJ]
 by_cases hi:i<p.size
 ·rw[dO hi]
  have:=(h.perm.mem_iff (a:=p[i])).mp (ig hi)
  simpa using this
 ·rw[GD (by lia)]
  exact hn
theorem CV.ne{p:Array Nat}{n:Nat}(h:CV p n){i j:Nat}(hi:i<n)(hj:j<n)(d:i≠j):Ab p i≠Ab p j:=by
 have nd:p.toList.Nodup:=(yK.mp h.perm).nodup_iff.mpr (by simpa using List.nodup_range)
 have hs:=h.size
 intro e
 unfold Ab at e
 rw[jJ,jJ,dO (by lia:i<p.size),dO (by lia:j<p.size)]at e
 have e':p.toList[i]'(by simpa using by lia)=p.toList[j]'(by simpa using by lia):=by simpa using e
 exact d ((vW nd).mp e')
def NP(b:Nat->Nat->Bool)(p:Array Nat)(m:Nat):Prop:=∀i,i+1<m->b (Ab p i) (Ab p (i+1))=true
section
variable {b:Nat->Nat->Bool}{n:Nat}
theorem NP.all(O:Ord b n){p:Array Nat}(h:CV p n)(hn:0<n){m:Nat}(a:NP b p m)(hm:m<=n):∀d i,i+(d+1)<m->b (Ab p i) (Ab p (i+(d+1)))=true
 | 0,i,hi=>a i hi
 | d+1,i,hi=>O.tr _ _ _ (h.lt hn _) (h.lt hn _) (h.lt hn _) (NP.all O h hn a hm d i (by lia)) (a (i+(d+1)) hi)
theorem NP.lt(O:Ord b n){p:Array Nat}(h:CV p n)(hn:0<n){m:Nat}(a:NP b p m)(hm:m<=n){i j:Nat}(Vn:i<j)(hj:j<m):b (Ab p i) (Ab p j)=true:=by
 have:=NP.all O h hn a hm (j-i-1) i (by lia)
 rwa [show i+(j-i-1+1)=j by lia]at this
end
def Xj:Bool->Keyed->Array Keyed->Nat->Nat->Nat->StateT SortSt Sem (Option Nat):=sortPriv% PySem.Builtin.gallop
def mLo:Array Keyed->Array Keyed->StateT SortSt Sem (Array Keyed):=sortPriv% PySem.Builtin.mergeLo
def mHi:Array Keyed->Array Keyed->StateT SortSt Sem (Array Keyed):=sortPriv% PySem.Builtin.mergeHi
abbrev dk(st:SortSt)(g:Nat):SortSt:=SortSt.mk' (kindOf st) (arrOf st) (pendingOf st) g (failedOf st)
def ahd(lf:Bool)(ky:Keyed)(xs:Array Keyed)(bs i:Nat):StateT SortSt Sem (Option Bool):=do
 let z <-elem' xs (bs+i)
 if lf then lt' z ky else return (<-lt' ky z).map (!·)
theorem Z3(lf:Bool)(ky:Keyed)(xs:Array Keyed)(bs m ht:Nat):Xj lf ky xs bs m ht=(do
 let mut lst:=0
 let mut of:=1
 let mut l:=0
 let mut h:=0
 let some rgt <-ahd lf ky xs bs ht | return none
 if rgt then
  let mx:=m-ht
  for _ in [0:m] do
   if of>=mx then break
   let some mo <-ahd lf ky xs bs (ht+of) | return none
   if !mo then break
   lst:=of
   of:=2*of+1
  l:=ht+lst+1
  h:=ht+min of mx
 else
  let mx:=ht+1
  for _ in [0:m] do
   if of>=mx then break
   let some fd <-ahd lf ky xs bs (ht-of) | return none
   if fd then break
   lst:=of
   of:=2*of+1
  l:=ht+1-min of mx
  h:=ht-lst
 for _ in [0:m] do
  if l>=h then break
  let c:=l+(h-l) / 2
  let some mo <-ahd lf ky xs bs c | return none
  if mo then l:=c+1 else h:=c
 return some h):=rfl
theorem YQ(a b:Array Keyed):mLo a b=(do
 rule "list.sort.merge-lo"
 let tot:=a.size+b.size
 let fin (o:Array Keyed) (x y:Nat):=o++a.extract x a.size++b.extract y b.size
 let laA (o:Array Keyed) (x y:Nat):=o++b.extract y b.size++a.extract x a.size
 let mut o:Array Keyed:=#[<-elem' b 0]
 let mut x:=0
 let mut y:=1
 if y==b.size then return fin o x y
 if x+1==a.size then return laA o x y
 let mut mg:=gallopOf (<-get)
 for _ in [0:tot] do
  let mut na:=0
  let mut nb:=0
  for _ in [0:tot] do
   let some bw <-lt' (<-elem' b y) (<-elem' a x) | return fin o x y
   if bw then
    o:=o.push (<-elem' b y);y:=y+1;nb:=nb+1;na:=0
    if y==b.size then return fin o x y
    if nb>=mg then break
   else
    o:=o.push (<-elem' a x);x:=x+1;na:=na+1;nb:=0
    if x+1==a.size then return laA o x y
    if na>=mg then break
  rule "list.sort.gallop"
  mg:=mg+1
  for _ in [0:tot] do
   if mg > 1 then mg:=mg-1
   modify λst=>dk st mg
   let some k <-Xj false (<-elem' b y) a x (a.size-x) 0 | return fin o x y
   na:=k
   if k > 0 then
    o:=o++a.extract x (x+k);x:=x+k
    if x+1==a.size then return laA o x y
    if x==a.size then return fin o x y
   o:=o.push (<-elem' b y);y:=y+1
   if y==b.size then return fin o x y
   let some k <-Xj true (<-elem' a x) b y (b.size-y) 0 | return fin o x y
   nb:=k
   if k > 0 then
    o:=o++b.extract y (y+k);y:=y+k
    if y==b.size then return fin o x y
   o:=o.push (<-elem' a x);x:=x+1
   if x+1==a.size then return laA o x y
   if na<7&&nb<7 then break
  mg:=mg+1
  modify λst=>dk st mg
 unsupported "internal:list.sort.merge-bound"):=rfl
theorem YS(a b:Array Keyed):mHi a b=(do
 rule "list.sort.merge-hi"
 let tot:=a.size+b.size
 let fin (o:Array Keyed) (x y:Nat):=a.extract 0 x++b.extract 0 y++o.reverse
 let fiB (o:Array Keyed) (x y:Nat):=b.extract 0 y++a.extract 0 x++o.reverse
 let mut x:=a.size-1
 let mut y:=b.size
 let mut o:Array Keyed:=#[<-elem' a x]
 if x==0 then return fin o x y
 if y==1 then return fiB o x y
 let mut mg:=gallopOf (<-get)
 for _ in [0:tot] do
  let mut na:=0
  let mut nb:=0
  for _ in [0:tot] do
   let some aw <-lt' (<-elem' b (y-1)) (<-elem' a (x-1)) | return fin o x y
   if aw then
    x:=x-1;o:=o.push (<-elem' a x);na:=na+1;nb:=0
    if x==0 then return fin o x y
    if na>=mg then break
   else
    y:=y-1;o:=o.push (<-elem' b y);nb:=nb+1;na:=0
    if y==1 then return fiB o x y
    if nb>=mg then break
  rule "list.sort.gallop"
  mg:=mg+1
  for _ in [0:tot] do
   if mg > 1 then mg:=mg-1
   modify λst=>dk st mg
   let some e <-Xj false (<-elem' b (y-1)) a 0 x (x-1) | return fin o x y
   let k:=x-e
   na:=k
   if k > 0 then
    o:=o++(a.extract e x).reverse;x:=e
    if x==0 then return fin o x y
   y:=y-1;o:=o.push (<-elem' b y)
   if y==1 then return fiB o x y
   let some e <-Xj true (<-elem' a (x-1)) b 0 y (y-1) | return fin o x y
   let k:=y-e
   nb:=k
   if k > 0 then
    o:=o++(b.extract e y).reverse;y:=e
    if y==1 then return fiB o x y
    if y==0 then return fin o x y
   x:=x-1;o:=o.push (<-elem' a x)
   if x==0 then return fin o x y
   if na<7&&nb<7 then break
  mg:=mg+1
  modify λst=>dk st mg
 unsupported "internal:list.sort.merge-bound"):=rfl
theorem YT(i:Nat):mergeAt' i=(do
 let st <-get
 let (some (sa,na,pw),some (sb,nb,_)):=((pendingOf st)[i]?,(pendingOf st)[i+1]?) | unsupported "internal:list.sort.pending"
 set (setPending st (((pendingOf st).setIfInBounds i (sa,na+nb,pw)).eraseIdxIfInBounds (i+1)))
 let some k <-Xj false (<-elem' (arrOf st) sb) (arrOf st) sa na 0 | return false
 let (sa,na):=(sa+k,na-k)
 if na==0 then return true
 let some nb <-Xj true (<-elem' (arrOf st) (sa+na-1)) (arrOf st) sb nb (nb-1) | return false
 if nb==0 then return true
 let x:=(arrOf st).extract sa sb
 let y:=(arrOf st).extract sb (sb+nb)
 let mgd <-if na<=nb then mLo x y else mHi x y
 modify λst=>setArr st (mgd.toList.zipIdx.foldl (λa (p,j)=>a.setIfInBounds (sa+j) p) (arrOf st))
 return (failedOf (<-get)).isNone):=rfl
section
variable {prog:Program}{w:World}{A:Around}{E:Value->Shared->Prop}{s:Shared}{κ:SortKind}{r:Keyed->Int}{U:Keyed->Prop}
def Cmp(prog:Program)(w:World)(A:Around)(s:Shared)(κ:SortKind)(r:Keyed->Int)(U:Keyed->Prop):Prop:=
 ∀x y (Q:Bool->Shared->Prop),U x->U y->Q (decide (r x<r y)) s->wpAny (model prog w) A (keyLt' κ x.1 y.1) Q (λ_ _=>False) s
theorem Pb(C:Cmp prog w A s κ r U){x y:Keyed}{Q:Option Bool->SortSt->Prop}{st:SortSt}(hx:U x)(hy:U y)(hk:kindOf st=κ)(h:Q (some (decide (r x<r y))) st):wpS (model prog w) A E s (lt' x y) Q st:=by
 rw[lt'_eq]
 refine aN (iB ?_)
 rw[hk]
 refine aN (mR (sX (dE (C x y (λb s'=>s'=s/\b=decide (r x<r y)) hx hy ⟨rfl,rfl⟩) (λb s' h'=>?_) λ_ _ hF=>hF.elim)))
 obtain⟨rfl,rfl⟩:=h'
 exact⟨rfl,aF h⟩
theorem df{xs:Array Keyed}{i:Nat}{Q:Keyed->SortSt->Prop}{st:SortSt}(hi:i<xs.size)(h:Q xs[i] st):wpS (model prog w) A E s (elem' xs i) Q st:=by
 rw[elem'_eq,dO hi]
 exact aF h
def isA(r:Keyed->Int)(lf:Bool)(ky z:Keyed):Bool:=if lf then decide (r z<r ky) else decide (r z<=r ky)
theorem aAK(C:Cmp prog w A s κ r U){lf:Bool}{ky:Keyed}{xs:Array Keyed}{bs i:Nat}{Q:Option Bool->SortSt->Prop}{st:SortSt}(hi:bs+i<xs.size)(hU:∀z∈xs,U z)(hy:U ky)(hk:kindOf st=κ)(h:Q (some (isA r lf ky xs[bs+i])) st) :
  wpS (model prog w) A E s (ahd lf ky xs bs i) Q st:=by
 unfold ahd
 refine aN (df hi ?_)
 have hu:=hU _ (ig hi)
 unfold isA at h
 cases lf with
 | true=>exact Pb C hu hy hk h
 | false=>
  simp only[iW,fF]at h ⊢
  refine aN (Pb C hy hu hk (aF ?_))
  have e:(!decide (r ky<r xs[bs+i]))=decide (r xs[bs+i]<=r ky):=by
   rw[mM];simp
  show Q (some (!decide (r ky<r xs[bs+i]))) st
  rw[e];exact h
theorem zb(C:Cmp prog w A s κ r U){lf:Bool}{ky:Keyed}{xs:Array Keyed}{bs m ht:Nat}{Q:Option Nat->SortSt->Prop}{st:SortSt}(hm:bs+m<=xs.size)(hh:ht<m)(hU:∀z∈xs,U z)(hy:U ky)(hk:kindOf st=κ)
  (srt:∀i j (h1:i<=j) (h2:bs+j<xs.size),j<m->r (xs[bs+i]'(by lia))<=r xs[bs+j])
  (h:∀k,k<=m->(∀i,i<k->∀(h2:bs+i<xs.size),isA r lf ky xs[bs+i]=true)->(∀i,k<=i->i<m->∀(h2:bs+i<xs.size),isA r lf ky xs[bs+i]=false)->Q (some k) st) :
  wpS (model prog w) A E s (Xj lf ky xs bs m ht) Q st:=by
 obtain⟨f,hf⟩:∃f:Nat->Bool,∀i (h2:bs+i<xs.size),isA r lf ky xs[bs+i]=f i:=⟨λi=>if h2:bs+i<xs.size then isA r lf ky xs[bs+i] else false,λi h2=>by dsimp only;rw[dif_pos h2]⟩
 have mono:∀i j,i<=j->j<m->f j=true->f i=true:=λi j Vn hj e=>by
  have h2:bs+j<xs.size:=by lia
  rw[<-hf j h2]at e
  rw[<-hf i (by lia)]
  have:=srt i j Vn h2 hj
  unfold isA at e ⊢
  cases lf <;> simp at e ⊢ <;> lia
 have J7:∀i j,i<=j->j<m->f i=false->f j=false:=λi j Vn hj e=>by
  cases e':f j with
  | false=>rfl
  | true=>rw[mono i j Vn hj e']at e;cases e
 have h':∀k,k<=m->(∀i,i<k->f i=true)->(∀i,k<=i->i<m->f i=false)->Q (some k) st:=λk hk1 h1 h2=>
  h k hk1 (λi hi hb=>by rw[hf];exact h1 i hi) (λi hi Vm hb=>by rw[hf];exact h2 i hi Vm)
 have ask:∀i (Q':Option Bool->SortSt->Prop),i<m->Q' (some (f i)) st->wpS (model prog w) A E s (ahd lf ky xs bs i) Q' st:=λi Q' hi q=>by
  have h2:bs+i<xs.size:=by lia
  exact aAK C h2 hU hy hk (by rw[hf i h2];exact q)
 rw[Z3]
 refine aN (ask ht _ hh ?_)
 cases hr:f ht with
 | true=>
  simp only[gu]
  refine aN (dZ (eZ (I:=λx c bD=>bD=st/\∃la of,c=(none,la,of)/\la<of/\ht+la<m/\x+1<=of/\f (ht+la)=true)
   (Q:=λc bD=>bD=st/\∃la of,c=(none,la,of)/\la<of/\ht+la<m/\f (ht+la)=true/\(of>=m-ht\/f (ht+of)=false)) ?step ?fin ⟨rfl,0,1,rfl,by lia,by lia,by lia,hr⟩) ?post)
  case post=>
   intro c σ0 gI
   refine hide λgG hG=>?_
   obtain⟨rfl,la,of,rfl,a1,a2,a3,a4⟩:=gI
   refine hG ?_
   have yw:ht+la+1<=ht+min of (m-ht):=by lia
   have Kh:ht+min of (m-ht)<=m:=by lia
   have Gd:∀i,i<ht+la+1->f i=true:=λi hi=>mono i _ (by lia) a2 a3
   have W3:∀i,ht+min of (m-ht)<=i->i<m->f i=false:=λi hi Vm=>a4.elim (λa4=>by lia) λa4=>J7 _ i (by lia) Vm a4
   dsimp only
   generalize ht+la+1=l0 at yw Gd ⊢
   generalize ht+min of (m-ht)=h0 at yw Kh W3 ⊢
   refine aN (dZ (eZ (I:=λx c bD=>bD=σ0/\∃l hI,c=(none,l,hI)/\l<=hI/\hI<=m/\hI-l<=m-x/\(∀i,i<l->f i=true)/\(∀i,hI<=i->i<m->f i=false))
    (Q:=λc bD=>bD=σ0/\∃hI l,c=(none,l,hI)/\hI<=m/\(∀i,i<hI->f i=true)/\(∀i,hI<=i->i<m->f i=false)) ?bstep ?bfin ⟨rfl,l0,h0,rfl,yw,Kh,by lia,Gd,W3⟩) ?bpost)
   case bpost=>
    intro c bD gI
    refine hide λgG hG=>?_
    obtain⟨rfl,hI,l,rfl,a1,a2,a3⟩:=gI
    refine hG ?_
    exact aF (h' hI a1 a2 a3)
   case bfin=>
    intro c bD gI
    refine hide λgG hG=>?_
    obtain⟨rfl,l,hI,rfl,a1,a2,a3,a4,a5⟩:=gI
    refine hG ?_
    have:l=hI:=by lia
    subst this
    exact⟨rfl,l,l,rfl,a2,a4,a5⟩
   case bstep=>
    intro x c bD _ hx xB
    refine hide λgG hG=>?_
    obtain⟨rfl,l,hI,rfl,a1,a2,a3,a4,a5⟩:=xB
    refine hG ?_
    dsimp only
    by_cases uW:l>=hI
    ·rw[aB uW]
     have:l=hI:=by lia
     subst this
     exact aF ⟨rfl,l,l,rfl,a2,a4,a5⟩
    ·rw[aC uW]
     refine aN (ask _ _ (by lia) ?_)
     cases hc:f (l+(hI-l) / 2) with
     | true=>
      simp only[gu]
      exact aF ⟨rfl,_,_,rfl,by lia,by lia,by lia,λi hi=>mono i _ (by lia) (by lia) hc,a5⟩
     | false=>
      simp only[iW,fF]
      exact aF ⟨rfl,_,_,rfl,by lia,by lia,by lia,a4,λi hi Vm=>J7 _ i hi Vm hc⟩
  case fin=>
   intro c bD gI
   refine hide λgG hG=>?_
   obtain⟨rfl,la,of,rfl,a1,a2,a3,a4⟩:=gI
   refine hG ?_
   exact⟨rfl,la,of,rfl,a1,a2,a4,.inl (by lia)⟩
  case step=>
   intro x c bD _ hx xB
   refine hide λgG hG=>?_
   obtain⟨rfl,la,of,rfl,a1,a2,a3,a4⟩:=xB
   refine hG ?_
   dsimp only
   by_cases uW:of>=m-ht
   ·rw[aB uW]
    exact aF ⟨rfl,la,of,rfl,a1,a2,a4,.inl uW⟩
   ·rw[aC uW]
    refine aN (ask _ _ (by lia) ?_)
    cases hc:f (ht+of) with
    | true=>
     simp only[Ai,iW,fF]
     exact aF ⟨rfl,of,_,rfl,by lia,by lia,by lia,hc⟩
    | false=>
     simp only[Bool.not_false,gu]
     exact aF ⟨rfl,la,of,rfl,a1,a2,a4,.inr hc⟩
 | false=>
  simp only[iW,fF]
  refine aN (dZ (eZ (I:=λx c bD=>bD=st/\∃la of,c=(none,la,of)/\la<of/\la<=ht/\x+1<=of/\f (ht-la)=false)
   (Q:=λc bD=>bD=st/\∃la of,c=(none,la,of)/\la<of/\la<=ht/\f (ht-la)=false/\(of>=ht+1\/f (ht-of)=true)) ?step ?fin ⟨rfl,0,1,rfl,by lia,by lia,by lia,hr⟩) ?post)
  case post=>
   intro c σ0 gI
   refine hide λgG hG=>?_
   obtain⟨rfl,la,of,rfl,a1,a2,a3,a4⟩:=gI
   refine hG ?_
   have yw:ht+1-min of (ht+1)<=ht-la:=by lia
   have Kh:ht-la<=m:=by lia
   have Gd:∀i,i<ht+1-min of (ht+1)->f i=true:=λi hi=>a4.elim (λa4=>by lia) λa4=>mono i _ (by lia) (by lia) a4
   have W3:∀i,ht-la<=i->i<m->f i=false:=λi hi Vm=>J7 _ i hi Vm a3
   dsimp only
   generalize ht+1-min of (ht+1)=l0 at yw Gd ⊢
   generalize ht-la=h0 at yw Kh W3 ⊢
   refine aN (dZ (eZ (I:=λx c bD=>bD=σ0/\∃l hI,c=(none,l,hI)/\l<=hI/\hI<=m/\hI-l<=m-x/\(∀i,i<l->f i=true)/\(∀i,hI<=i->i<m->f i=false))
    (Q:=λc bD=>bD=σ0/\∃hI l,c=(none,l,hI)/\hI<=m/\(∀i,i<hI->f i=true)/\(∀i,hI<=i->i<m->f i=false)) ?bstep ?bfin ⟨rfl,l0,h0,rfl,yw,Kh,by lia,Gd,W3⟩) ?bpost)
   case bpost=>
    intro c bD gI
    refine hide λgG hG=>?_
    obtain⟨rfl,hI,l,rfl,a1,a2,a3⟩:=gI
    refine hG ?_
    exact aF (h' hI a1 a2 a3)
   case bfin=>
    intro c bD gI
    refine hide λgG hG=>?_
    obtain⟨rfl,l,hI,rfl,a1,a2,a3,a4,a5⟩:=gI
    refine hG ?_
    have:l=hI:=by lia
    subst this
    exact⟨rfl,l,l,rfl,a2,a4,a5⟩
   case bstep=>
    intro x c bD _ hx xB
    refine hide λgG hG=>?_
    obtain⟨rfl,l,hI,rfl,a1,a2,a3,a4,a5⟩:=xB
    refine hG ?_
    dsimp only
    by_cases uW:l>=hI
    ·rw[aB uW]
     have:l=hI:=by lia
     subst this
     exact aF ⟨rfl,l,l,rfl,a2,a4,a5⟩
    ·rw[aC uW]
     refine aN (ask _ _ (by lia) ?_)
     cases hc:f (l+(hI-l) / 2) with
     | true=>
      simp only[gu]
      exact aF ⟨rfl,_,_,rfl,by lia,by lia,by lia,λi hi=>mono i _ (by lia) (by lia) hc,a5⟩
     | false=>
      simp only[iW,fF]
      exact aF ⟨rfl,_,_,rfl,by lia,by lia,by lia,a4,λi hi Vm=>J7 _ i hi Vm hc⟩
  case fin=>
   intro c bD gI
   refine hide λgG hG=>?_
   obtain⟨rfl,la,of,rfl,a1,a2,a3,a4⟩:=gI
   refine hG ?_
   exact⟨rfl,la,of,rfl,a1,a2,a4,.inl (by lia)⟩
  case step=>
   intro x c bD _ hx xB
   refine hide λgG hG=>?_
   obtain⟨rfl,la,of,rfl,a1,a2,a3,a4⟩:=xB
   refine hG ?_
   dsimp only
   by_cases uW:of>=ht+1
   ·rw[aB uW]
    exact aF ⟨rfl,la,of,rfl,a1,a2,a4,.inl uW⟩
   ·rw[aC uW]
    refine aN (ask _ _ (by lia) ?_)
    cases hc:f (ht-of) with
    | true=>
     simp only[gu]
     exact aF ⟨rfl,la,of,rfl,a1,a2,a4,.inr hc⟩
    | false=>
     simp only[iW,fF]
     exact aF ⟨rfl,of,_,rfl,by lia,by lia,by lia,hc⟩
end
theorem aI{M:Model}{A:Around}{E:Value->Shared->Prop}{s:Shared}{σ α:Type}{c:Prop} [Decidable c] {m n:StateT σ Sem α} {Q:α->σ->Prop} {st:σ} (h1:c->wpS M A E s m Q st) (h2:¬c->wpS M A E s n Q st):wpS M A E s (if c then m else n) Q st:=by
 by_cases h:c
 ·rw[aB h];exact h1 h
 ·rw[aC h];exact h2 h
theorem Bs{α:Type}{P R:α->Nat->Prop}{G:Prop}(k:(∀o x,R o x->P o x)->G)(h:∀o x,R o x->P o x):G:=k h
theorem share{P:Nat->Prop}{G:Prop}(k:(∀g,P g)->G)(h:∀g,P g):G:=k h
def jx(r:Keyed->Int)(l:List Keyed):Prop:=l.Pairwise λx y=>r x<=r y
structure MI(r:Keyed->Int)(tot o ra rb:List Keyed):Prop where
 perm:(o++(ra++rb)).Perm tot
 so:jx r o
 sa:jx r ra
 sb:jx r rb
 la:∀u∈o,∀v∈ra,r u<=r v
 lb:∀u∈o,∀v∈rb,r u<=r v
section
variable {r:Keyed->Int}{tot o ra rb p:List Keyed}
theorem MI.yU(h:MI r tot o (p++ra) rb)(hp:∀u∈p,∀v∈rb,r u<=r v):MI r tot (o++p) ra rb:=by
 have sa:=gN.mp h.sa
 refine⟨by simpa [iK]using h.perm,gN.mpr ⟨h.so,sa.1,λu hu v hv=>h.la u hu v (uM _ hv)⟩,sa.2.1,h.sb,λu hu v hv=>?_,λu hu v hv=>?_⟩
 ·rcases cv.mp hu with hu | hu
  ·exact h.la u hu v (iX _ hv)
  ·exact sa.2.2 u hu v hv
 ·rcases cv.mp hu with hu | hu
  ·exact h.lb u hu v hv
  ·exact hp u hu v hv
theorem MI.yT(h:MI r tot o ra (p++rb))(hp:∀u∈p,∀v∈ra,r u<=r v):MI r tot (o++p) ra rb:=by
 have sb:=gN.mp h.sb
 refine⟨?_,gN.mpr ⟨h.so,sb.1,λu hu v hv=>h.lb u hu v (uM _ hv)⟩,h.sa,sb.2.1,λu hu v hv=>?_,λu hu v hv=>?_⟩
 ·refine List.Perm.trans ?_ h.perm
  rw[iK]
  refine Gx o ?_
  rw[<-iK,<-iK]
  exact GF rb List.perm_append_comm
 ·rcases cv.mp hu with hu | hu
  ·exact h.la u hu v hv
  ·exact hp u hu v hv
 ·rcases cv.mp hu with hu | hu
  ·exact h.lb u hu v (iX _ hv)
  ·exact sb.2.2 u hu v hv
theorem MI.VP(h:MI r tot o ra []):(o++ra).Perm tot/\jx r (o++ra):=⟨by simpa using h.perm,gN.mpr ⟨h.so,h.sa,h.la⟩⟩
theorem MI.VN(h:MI r tot o [] rb):(o++rb).Perm tot/\jx r (o++rb):=⟨by simpa using h.perm,gN.mpr ⟨h.so,h.sb,h.lb⟩⟩
theorem MI.aEG{z:Keyed}(h:MI r tot o [z] rb)(hz:∀v∈rb,r v<=r z):(o++rb++[z]).Perm tot/\jx r (o++rb++[z]):=by
 have h':=(MI.yT (p:=rb) (rb:=[]) (by simpa using h) λu hu v hv=>by rw[cE.mp hv];exact hz u hu).VP
 exact h'
end
section
variable {r:Keyed->Int}{a b o:Array Keyed}{x y k:Nat}
abbrev tot(a b:Array Keyed):List Keyed:=a.toList++b.toList
def Good(r:Keyed->Int)(a b R:Array Keyed):Prop:=R.toList.Perm (tot a b)/\jx r R.toList
abbrev Dh(r:Keyed->Int)(a b o:Array Keyed)(x y:Nat):Prop:=MI r (tot a b) o.toList (a.toList.drop x) (b.toList.drop y)
theorem iq(a:Array Keyed)(x n:Nat):(a.extract x n).toList=(a.toList.drop x).take (n-x):=by
 rw[Array.toList_extract]
theorem vD(a:Array Keyed)(x:Nat):(a.extract x a.size).toList=a.toList.drop x:=by
 rw[iq,<-di,<-qR]
 exact iV
theorem Fp(l:List Keyed)(x k:Nat):l.drop x=(l.drop x).take k++l.drop (x+k):=by
 rw[<-List.drop_drop];exact(v9 k _).symm
theorem drop_one(a:Array Keyed){x:Nat}(h:x<a.size):a.toList.drop x=[a[x]]++a.toList.drop (x+1):=by
 rw[wa (by simpa using h)];simp
theorem jN{a:Array Keyed}{x:Nat}{v:Keyed}(h:v∈a.toList.drop x):∃i,∃(hi:x+i<a.size),v=a[x+i]:=by
 obtain⟨i,hi,e⟩:=vE.mp h
 rw[qR,di]at hi
 refine⟨i,by lia,?_⟩
 rw[<-e];simp
theorem il{a:Array Keyed}{x k:Nat}{v:Keyed}(h:v∈(a.toList.drop x).take k):∃i,∃(hi:x+i<a.size),i<k/\v=a[x+i]:=by
 obtain⟨i,hi,e⟩:=vE.mp h
 rw[gL,qR,di]at hi
 refine⟨i,by lia,by lia,?_⟩
 rw[<-e];simp
theorem gR{a:Array Keyed}(s:jx r a.toList){i j:Nat}(Vn:i<=j)(hj:j<a.size):r (a[i]'(by lia))<=r a[j]:=by
 rcases Nat.lt_or_eq_of_le Vn with h | h
 ·have:=(yJ.mp s) i j (by simpa using by lia) (by simpa using hj) h
  simpa using this
 ·subst h;exact fX _
theorem MI.zp(h:Dh r a b o x y)(hy:y<b.size)(hx:∀i,x<=i->∀(hi:i<a.size),r b[y]<=r a[i]):Dh r a b (o.push b[y]) x (y+1):=by
 have h':MI r (tot a b) o.toList (a.toList.drop x) ([b[y]]++b.toList.drop (y+1)):=by rw[<-drop_one b hy];exact h
 have:=h'.yT λu hu v hv=>by
  obtain⟨i,hi,rfl⟩:=jN hv
  rw[cE.mp hu]
  exact hx _ (by lia) hi
 show MI r (tot a b) (o.push b[y]).toList _ _
 rw[uI];exact this
theorem MI.zq(h:Dh r a b o x y)(hx:x<a.size)(hy:∀i,y<=i->∀(hi:i<b.size),r a[x]<=r b[i]):Dh r a b (o.push a[x]) (x+1) y:=by
 have h':MI r (tot a b) o.toList ([a[x]]++a.toList.drop (x+1)) (b.toList.drop y):=by rw[<-drop_one a hx];exact h
 have:=h'.yU λu hu v hv=>by
  obtain⟨i,hi,rfl⟩:=jN hv
  rw[cE.mp hu]
  exact hy _ (by lia) hi
 show MI r (tot a b) (o.push a[x]).toList _ _
 rw[uI];exact this
theorem MI.QJ(h:Dh r a b o x y)(hp:∀i,i<k->∀(hi:x+i<a.size) j,y<=j->∀(hj:j<b.size),r a[x+i]<=r b[j]):Dh r a b (o++a.extract x (x+k)) (x+k) y:=by
 have h':MI r (tot a b) o.toList ((a.toList.drop x).take k++a.toList.drop (x+k)) (b.toList.drop y):=by rw[<-Fp];exact h
 have:=h'.yU λu hu v hv=>by
  refine hide λgG hG=>?_
  obtain⟨i,hi,hk,rfl⟩:=il hu
  obtain⟨j,hj,rfl⟩:=jN hv
  refine hG ?_
  exact hp i hk hi _ (by lia) hj
 show MI r (tot a b) (o++a.extract x (x+k)).toList _ _
 rw[jG,iq,Nat.add_sub_cancel_left]
 exact this
theorem MI.QH(h:Dh r a b o x y)(hp:∀i,i<k->∀(hi:y+i<b.size) j,x<=j->∀(hj:j<a.size),r b[y+i]<=r a[j]):Dh r a b (o++b.extract y (y+k)) x (y+k):=by
 have h':MI r (tot a b) o.toList (a.toList.drop x) ((b.toList.drop y).take k++b.toList.drop (y+k)):=by rw[<-Fp];exact h
 have:=h'.yT λu hu v hv=>by
  refine hide λgG hG=>?_
  obtain⟨i,hi,hk,rfl⟩:=il hu
  obtain⟨j,hj,rfl⟩:=jN hv
  refine hG ?_
  exact hp i hk hi _ (by lia) hj
 show MI r (tot a b) (o++b.extract y (y+k)).toList _ _
 rw[jG,iq,Nat.add_sub_cancel_left]
 exact this
theorem MI.fin(h:Dh r a b o x y)(e:y=b.size\/x=a.size):Good r a b (o++a.extract x a.size++b.extract y b.size):=by
 unfold Good
 rw[jG,jG,vD,vD]
 rcases e with e | e
 ·have z:b.toList.drop y=[]:=GJ (by simp[e])
  have h':MI r (tot a b) o.toList (a.toList.drop x) []:=by rw[<-z];exact h
  rw[z,fZ];exact h'.VP
 ·have z:a.toList.drop x=[]:=GJ (by simp[e])
  have h':MI r (tot a b) o.toList [] (b.toList.drop y):=by rw[<-z];exact h
  rw[z,fZ];exact h'.VN
theorem MI.U6(h:Dh r a b o x y)(e:x+1=a.size)(hl:∀v∈b,r v<=r (a[a.size-1]'(by lia))):Good r a b (o++b.extract y b.size++a.extract x a.size):=by
 unfold Good
 rw[jG,jG,vD,vD]
 have z:a.toList.drop x=[a[a.size-1]'(by lia)]:=by
  rw[drop_one a (by lia),GJ (by simp;lia)]
  simp only[fZ]
  congr 2
  lia
 have h':MI r (tot a b) o.toList [a[a.size-1]'(by lia)] (b.toList.drop y):=by rw[<-z];exact h
 rw[z]
 exact h'.aEG λv hv=>hl v (by simpa using List.mem_of_mem_drop hv)
end
section
variable {prog:Program}{w:World}{A:Around}{E:Value->Shared->Prop}{s:Shared}{κ:SortKind}{r:Keyed->Int}{U:Keyed->Prop}
theorem aAH(C:Cmp prog w A s κ r U){a b:Array Keyed}{Q:Array Keyed->SortSt->Prop}{st:SortSt}(hk:kindOf st=κ)(ha:∀z∈a,U z)(hb:∀z∈b,U z)(sa:jx r a.toList)(sb:jx r b.toList)(na:0<a.size)(nb:0<b.size)
  (h0:r b[0]<=r a[0]) (hl:∀v∈b,r v<=r (a[a.size-1]'(by lia))) (h:∀R g,Good r a b R->Q R (dk st g)):wpS (model prog w) A E s (mLo a b) Q st:=by
 rw[YQ]
 refine aN (mR (iC ⟨rfl,?_⟩))
 refine aN (df nb ?_)
 try dsimp only
 have M0:Dh r a b #[b[0]] 0 1:=MI.zp (o:=#[]) (x:=0) (y:=0) ⟨by simp,List.Pairwise.nil,by simpa using sa,by simpa using sb,by simp,by simp⟩ nb λi _ hi=>by
  have:=gR sa (dM i) hi
  lia
 refine aI (λhz=>?_) (λhz=>?_)
 ·exact aF (h _ (gallopOf st) (M0.fin (.inl (by simpa using hz))))
 have WR:=hz
 refine aI (λhz=>?_) (λhz=>?_)
 ·exact aF (h _ (gallopOf st) (M0.U6 (by simpa using hz) hl))
 have yv:=hz
 have Za:1≠b.size:=by simpa using WR
 have QW:0+1≠a.size:=by simpa using yv
 clear h0 hz WR yv
 refine aN (iB ?_)
 refine aN (dZ (eZ (I:=λn c bD=>(∃g,bD=dk st g)/\∃o x y mg,c=(none,o,x,y,mg)/\x+1<a.size/\y<b.size/\Dh r a b o x y/\n+1<=x+y)
  (Q:=λc bD=>(∃g,bD=dk st g)/\∃R,c.1=some R/\Good r a b R) ?step ?fin ⟨⟨gallopOf st,rfl⟩,_,_,_,_,rfl,by lia,by lia,M0,by lia⟩) ?post)
 case post=>
  intro Rv bD gI
  refine hide λgG hG=>?_
  obtain⟨c1,c⟩:=Rv
  obtain⟨⟨g,rfl⟩,R,rfl,hR⟩:=gI
  refine hG ?_
  exact aF (h R g hR)
 case fin=>
  intro c bD gI
  refine hide λgG hG=>?_
  obtain⟨_,o,x,y,mg,rfl,hx,hy,M,hn⟩:=gI
  refine hG ?_
  lia
 case step=>
  clear Za QW M0 h
  intro n c bD _ hn xB
  refine hide λgG hG=>?_
  obtain⟨⟨g,rfl⟩,o,x,y,mg,rfl,hx,hy,M,N1⟩:=xB
  refine hG ?_
  try dsimp only
  refine aN (dZ (eZ (I:=λn1 d bD=>(∃g,bD=dk st g)/\∃o' x' y' p q,d=(none,o',x',y',p,q)/\x'+1<a.size/\y'<b.size/\Dh r a b o' x' y'/\x+y+n1<=x'+y')
   (Q:=λd bD=>(∃g,bD=dk st g)/\match d.1 with | some R=>Good r a b R | none=>d.2.2.1+1<a.size/\d.2.2.2.1<b.size/\Dh r a b d.2.1 d.2.2.1 d.2.2.2.1/\n+2<=d.2.2.1+d.2.2.2.1) ?step1 ?fin1 ⟨⟨g,rfl⟩,o,x,y,0,0,rfl,hx,hy,M,by lia⟩) ?post1)
  case fin1=>
   intro d bD gI
   refine hide λgG hG=>?_
   obtain⟨hg,o',x',y',p,q,rfl,vB,Cm,M',zO⟩:=gI
   refine hG ?_
   exact⟨hg,vB,Cm,M',by simp only;lia⟩
  case step1=>
   clear hx hy M hn
   intro n1 d bD _ vC xB
   refine hide λgG hG=>?_
   obtain⟨⟨g,rfl⟩,o,x,y,p,q,rfl,hx,hy,M,zO⟩:=xB
   refine hG ?_
   try dsimp only
   refine aN (df hy ?_)
   refine aN (df (by lia) ?_)
   refine aN (Pb C (hb _ (ig _)) (ha _ (ig _)) hk ?_)
   try dsimp only
   by_cases hc:r b[y]<r a[x]
   ·rw[aB (by simpa using hc)]
    refine aN (df hy ?_)
    try dsimp only
    have MB:=MI.zp M hy λi hi h2=>by
     have:=gR sa hi h2
     lia
    refine aI (λhz=>?_) (λhz=>?_)
    ·exact aF ⟨⟨_,rfl⟩,MB.fin (.inl (by simpa using hz))⟩
    have Iq:y+1≠b.size:=by simpa using hz
    refine aI (λhz=>?_) (λhz=>?_)
    ·exact aF ⟨⟨_,rfl⟩,hx,(by simp only;lia),MB,by simp only;lia⟩
    ·exact aF ⟨⟨_,rfl⟩,_,_,_,_,_,rfl,hx,by lia,MB,by lia⟩
   ·rw[aC (by simpa using hc)]
    refine aN (df (by lia) ?_)
    try dsimp only
    have MB:=MI.zq M (by lia) λi hi h2=>by
     have:=gR sb hi h2
     lia
    refine aI (λhz=>?_) (λhz=>?_)
    ·exact aF ⟨⟨_,rfl⟩,MB.U6 (by simpa using hz) hl⟩
    have Iq:x+1+1≠a.size:=by simpa using hz
    refine aI (λhz=>?_) (λhz=>?_)
    ·exact aF ⟨⟨_,rfl⟩,(by simp only;lia),hy,MB,by simp only;lia⟩
    ·exact aF ⟨⟨_,rfl⟩,_,_,_,_,_,rfl,by lia,hy,MB,by lia⟩
  case post1=>
   intro Rv bD gI
   refine hide λgG hG=>?_
   obtain⟨d1,o1,x1,y1,p1,q1⟩:=Rv
   obtain⟨⟨g,rfl⟩,hd⟩:=gI
   refine hG ?_
   dsimp only at hd ⊢
   cases d1 with
   | some R=>exact aF ⟨⟨_,rfl⟩,R,rfl,hd⟩
   | none=>
    refine hide λgG hG=>?_
    obtain⟨Cp,QX,M1,vC⟩:=hd
    refine hG ?_
    clear hx hy M N1 hn
    try dsimp only
    refine aN (mR (iC ⟨rfl,?_⟩))
    refine aN (dZ (eZ (I:=λ_ e bD=>(∃g,bD=dk st g)/\∃o' x' y' m' p q,e=(none,o',x',y',m',p,q)/\x'+1<a.size/\y'<b.size/\Dh r a b o' x' y'/\n+2<=x'+y')
     (Q:=λe bD=>(∃g,bD=dk st g)/\match e.1 with | some R=>Good r a b R | none=>e.2.2.1+1<a.size/\e.2.2.2.1<b.size/\Dh r a b e.2.1 e.2.2.1 e.2.2.2.1/\n+2<=e.2.2.1+e.2.2.2.1) ?step2 ?fin2 ⟨⟨_,rfl⟩,_,_,_,_,_,_,rfl,Cp,QX,M1,vC⟩) ?post2)
    case fin2=>
     intro e bD gI
     refine hide λgG hG=>?_
     obtain⟨hg,o',x',y',m',p,q,rfl,vB,Cm,M',zO⟩:=gI
     refine hG ?_
     exact⟨hg,vB,Cm,M',zO⟩
    case post2=>
     intro Rv bD gI
     refine hide λgG hG=>?_
     obtain⟨e1,o2,x2,y2,m2,p2,q2⟩:=Rv
     obtain⟨⟨g,rfl⟩,he⟩:=gI
     refine hG ?_
     dsimp only at he ⊢
     cases e1 with
     | some R=>exact aF ⟨⟨_,rfl⟩,R,rfl,he⟩
     | none=>
      refine hide λgG hG=>?_
      obtain⟨NT,WW,M2,N0⟩:=he
      refine hG ?_
      refine aN (gQ (aF ⟨⟨_,rfl⟩,_,_,_,_,rfl,NT,WW,M2,by lia⟩))
    case step2=>
     clear Cp QX M1 vC
     intro n2 e bD _ N0 xB
     refine hide λgG hG=>?_
     obtain⟨⟨g,rfl⟩,o,x,y,m',p,q,rfl,hx,hy,M,zO⟩:=xB
     refine hG ?_
     try dsimp only
     refine' share (P:=_) (λH=>aI (λhm=>?A) (λhm=>?B)) ?_
     case A=>generalize m'-1=gg;revert gg;exact H
     case B=>clear hm;generalize m'=gg;revert gg;exact H
     intro gg
     try dsimp only
     refine aN (gQ ?_)
     refine aN (df hy ?_)
     refine aN (zb C (by lia) (by lia) ha (hb _ (ig _)) hk (λi j h1 h2 _=>gR sa (by lia) h2) λk l1 l2 l3=>?_)
     try dsimp only
     replace l1:x+k<=a.size:=by lia
     have QS:∀i,i<k->∀(h2:x+i<a.size),r a[x+i]<=r b[y]:=λi hi h2=>by simpa [isA]using l2 i hi h2
     have WL:∀i,k<=i->∀(h2:x+i<a.size),r b[y]<r a[x+i]:=λi hi h2=>by have:=l3 i hi (by lia) h2;simpa [isA]using this
     clear l2 l3
     refine' Bs (R:=λo' x'=>x'=x+k/\x'+1<a.size/\Dh r a b o' x' y) (P:=_) (λH=>aI (λhz=>?A) (λhz=>?B)) ?_
     case A=>
      have MA:=MI.QJ (k:=k) M λi hi h2 j hj Vk=>by
       have e1:=QS i hi h2
       have e2:=gR sb hj Vk
       lia
      refine aI (λhz=>?_) (λhz=>?_)
      ·exact aF ⟨⟨_,rfl⟩,MA.U6 (by simpa using hz) hl⟩
      have hz0:x+k+1≠a.size:=by simpa using hz
      refine aI (λhz=>?_) (λhz=>?_)
      ·exact aF ⟨⟨_,rfl⟩,MA.fin (.inr (by simpa using hz))⟩
      have WR:x+k≠a.size:=by simpa using hz
      have e1:x+k+1<a.size:=by lia
      obtain⟨x',vB⟩:∃x',x'=x+k:=⟨_,rfl⟩
      rw[<-vB]at MA e1 ⊢
      generalize o++a.extract x x'=o' at MA ⊢
      exact H o' x' ⟨vB,e1,MA⟩
     case B=>exact H o x ⟨by lia,hx,M⟩
     rintro o x' ⟨vB,Cp,MA⟩
     clear QS
     refine aN (df hy ?_)
     try dsimp only
     have MB:=MI.zp MA hy (λi hi h2=>by
        have:=WL (i-x) (by lia) (by lia)
        have e:x+(i-x)=i:=by lia
        simp only[e]at this
        lia)
     clear WL MA M l1 hx
     refine aI (λhz=>?_) (λhz=>?_)
     ·exact aF ⟨⟨_,rfl⟩,MB.fin (.inl (by simpa using hz))⟩
     have yv:y+1≠b.size:=by simpa using hz
     have WW:y+1<b.size:=by lia
     clear yv hz
     refine aN (df (by lia) ?_)
     refine aN (zb C (by lia) (by lia) hb (ha _ (ig _)) hk (λi j h1 h2 _=>gR sb (by lia) h2) λk2 l1 l2 l3=>?_)
     try dsimp only
     replace l1:y+1+k2<=b.size:=by lia
     have QS:∀i,i<k2->∀(h2:y+1+i<b.size),r b[y+1+i]<r (a[x']'(by lia)):=λi hi h2=>by simpa [isA]using l2 i hi h2
     have WL:∀i,k2<=i->∀(h2:y+1+i<b.size),r (a[x']'(by lia))<=r b[y+1+i]:=λi hi h2=>by have:=l3 i hi (by lia) h2;simpa [isA]using this
     clear l2 l3
     refine' Bs (R:=λo' y'=>y'=y+1+k2/\y'<b.size/\Dh r a b o' x' y') (P:=_) (λH=>aI (λhz=>?A) (λhz=>?B)) ?_
     case A=>
      have MC:=MI.QH (k:=k2) MB λi hi h2 j hj Vk=>by
       have e1:=QS i hi h2
       have e2:=gR sa hj Vk
       lia
      refine aI (λhz=>?_) (λhz=>?_)
      ·exact aF ⟨⟨_,rfl⟩,MC.fin (.inl (by simpa using hz))⟩
      have hz4:y+1+k2≠b.size:=by simpa using hz
      have e1:y+1+k2<b.size:=by lia
      obtain⟨y',Cm⟩:∃y',y'=y+1+k2:=⟨_,rfl⟩
      rw[<-Cm]at MC e1 ⊢
      generalize _++b.extract (y+1) y'=o' at MC ⊢
      exact H o' y' ⟨Cm,e1,MC⟩
     case B=>exact H _ (y+1) ⟨by lia,WW,MB⟩
     rintro o' y' ⟨Cm,QX,MC⟩
     clear QS MB
     have MZ:=MI.zq MC (by lia) λi hi h2=>by
      have:=WL (i-(y+1)) (by lia) (by lia)
      simpa [show y+1+(i-(y+1))=i by lia]using this
     clear WL MC l1 WW
     refine aN (df (by lia) ?_)
     try dsimp only
     refine aI (λhz=>?_) (λhz=>?_)
     ·exact aF ⟨⟨_,rfl⟩,(MZ.U6 (by simpa using hz) hl)⟩
     ·have Iq:x'+1+1≠a.size:=by simpa using hz
      have e1:x'+1+1<a.size:=by lia
      have e2:n+2<=x'+1+y':=by lia
      refine aI (λhz=>?_) (λhz=>?_)
      ·exact aF ⟨⟨_,rfl⟩,e1,QX,MZ,e2⟩
      ·exact aF ⟨⟨_,rfl⟩,_,_,_,_,_,_,rfl,e1,QX,MZ,e2⟩
end
structure MH(r:Keyed->Int)(tot ra rb o:List Keyed):Prop where
 perm:(ra++rb++o).Perm tot
 so:jx r o
 sa:jx r ra
 sb:jx r rb
 la:∀u∈ra,∀v∈o,r u<=r v
 lb:∀u∈rb,∀v∈o,r u<=r v
section
variable {r:Keyed->Int}{tot o ra rb p:List Keyed}
theorem MH.yT(h:MH r tot ra (rb++p) o)(hp:∀u∈p,∀v∈ra,r v<=r u):MH r tot ra rb (p++o):=by
 have sb:=gN.mp h.sb
 refine⟨by simpa [iK]using h.perm,gN.mpr ⟨sb.2.1,h.so,λu hu v hv=>h.lb u (iX _ hu) v hv⟩,h.sa,sb.1,λu hu v hv=>?_,λu hu v hv=>?_⟩
 ·rcases cv.mp hv with hv | hv
  ·exact hp v hv u hu
  ·exact h.la u hu v hv
 ·rcases cv.mp hv with hv | hv
  ·exact sb.2.2 u hu v hv
  ·exact h.lb u (uM _ hu) v hv
theorem MH.yU(h:MH r tot (ra++p) rb o)(hp:∀u∈p,∀v∈rb,r v<=r u):MH r tot ra rb (p++o):=by
 have sa:=gN.mp h.sa
 refine⟨?_,gN.mpr ⟨sa.2.1,h.so,λu hu v hv=>h.la u (iX _ hu) v hv⟩,sa.1,h.sb,λu hu v hv=>?_,λu hu v hv=>?_⟩
 ·refine List.Perm.trans ?_ h.perm
  rw[<-iK]
  refine GF o ?_
  rw[iK,iK]
  exact Gx ra List.perm_append_comm
 ·rcases cv.mp hv with hv | hv
  ·exact sa.2.2 u hu v hv
  ·exact h.la u (uM _ hu) v hv
 ·rcases cv.mp hv with hv | hv
  ·exact hp v hv u hu
  ·exact h.lb u hu v hv
theorem MH.VP(h:MH r tot ra [] o):(ra++o).Perm tot/\jx r (ra++o):=⟨by simpa using h.perm,gN.mpr ⟨h.sa,h.so,h.la⟩⟩
theorem MH.VN(h:MH r tot [] rb o):(rb++o).Perm tot/\jx r (rb++o):=⟨by simpa using h.perm,gN.mpr ⟨h.sb,h.so,h.lb⟩⟩
theorem MH.aEH{z:Keyed}(h:MH r tot ra [z] o)(hz:∀v∈ra,r z<=r v):([z]++ra++o).Perm tot/\jx r ([z]++ra++o):=by
 have h':=(MH.yU (p:=ra) (ra:=[]) (by simpa using h) λu hu v hv=>by rw[cE.mp hv];exact hz u hu).VN
 rw[iK];exact h'
end
section
variable {r:Keyed->Int}{a b o:Array Keyed}{x y e:Nat}
abbrev Di(r:Keyed->Int)(a b o:Array Keyed)(x y:Nat):Prop:=MH r (tot a b) (a.toList.take x) (b.toList.take y) o.toList.reverse
theorem Kn(a:Array Keyed)(x:Nat):(a.extract 0 x).toList=a.toList.take x:=by
 rw[iq,List.drop_zero,Nat.sub_zero]
theorem wm(l:List Keyed){x e:Nat}(h:e<=x):l.take x=l.take e++(l.drop e).take (x-e):=by
 have:=(v9 e (l.take x)).symm
 rw[List.take_take,Nat.min_eq_left h,List.drop_take]at this
 exact this
theorem take_one(a:Array Keyed){x:Nat}(h:x<a.size):a.toList.take (x+1)=a.toList.take x++[a[x]]:=by
 rw[jE,bJ (by simpa using h)];simp
theorem Ce{a:Array Keyed}{x:Nat}{v:Keyed}(h:v∈a.toList.take x):∃i,∃(hi:i<a.size),i<x/\v=a[i]:=by
 have h':v∈(a.toList.drop 0).take x:=by simpa using h
 refine hide λgG hG=>?_
 obtain⟨i,hi,hx,e⟩:=il h'
 refine hG ?_
 exact⟨i,by lia,hx,by rw[e];simp⟩
theorem MH.zp(h:Di r a b o x (y+1))(hy:y<b.size)(hx:∀i,i<x->∀(hi:i<a.size),r a[i]<=r b[y]):Di r a b (o.push b[y]) x y:=by
 have h':MH r (tot a b) (a.toList.take x) (b.toList.take y++[b[y]]) o.toList.reverse:=by rw[<-take_one b hy];exact h
 have:=h'.yT λu hu v hv=>by
  refine hide λgG hG=>?_
  obtain⟨i,hi,hk,rfl⟩:=Ce hv
  refine hG ?_
  rw[cE.mp hu]
  exact hx _ hk hi
 show MH r (tot a b) _ _ (o.push b[y]).toList.reverse
 rw[uI,Bc];exact this
theorem MH.zq(h:Di r a b o (x+1) y)(hx:x<a.size)(hy:∀i,i<y->∀(hi:i<b.size),r b[i]<=r a[x]):Di r a b (o.push a[x]) x y:=by
 have h':MH r (tot a b) (a.toList.take x++[a[x]]) (b.toList.take y) o.toList.reverse:=by rw[<-take_one a hx];exact h
 have:=h'.yU λu hu v hv=>by
  refine hide λgG hG=>?_
  obtain⟨i,hi,hk,rfl⟩:=Ce hv
  refine hG ?_
  rw[cE.mp hu]
  exact hy _ hk hi
 show MH r (tot a b) _ _ (o.push a[x]).toList.reverse
 rw[uI,Bc];exact this
theorem MH.QJ(h:Di r a b o x y)(he:e<=x)(hp:∀i,e<=i->i<x->∀(hi:i<a.size) j,j<y->∀(hj:j<b.size),r b[j]<=r a[i]):Di r a b (o++(a.extract e x).reverse) e y:=by
 have h':MH r (tot a b) (a.toList.take e++(a.toList.drop e).take (x-e)) (b.toList.take y) o.toList.reverse:=by rw[<-wm _ he];exact h
 have:=h'.yU λu hu v hv=>by
  refine hide λgG hG=>?_
  obtain⟨i,hi,hk,rfl⟩:=il hu
  obtain⟨j,hj,Vk,rfl⟩:=Ce hv
  refine hG ?_
  exact hp (e+i) (by lia) (by lia) hi _ Vk hj
 show MH r (tot a b) _ _ (o++(a.extract e x).reverse).toList.reverse
 rw[jG,Be,Bc,List.reverse_reverse,iq]
 exact this
theorem MH.QH(h:Di r a b o x y)(he:e<=y)(hp:∀i,e<=i->i<y->∀(hi:i<b.size) j,j<x->∀(hj:j<a.size),r a[j]<=r b[i]):Di r a b (o++(b.extract e y).reverse) x e:=by
 have h':MH r (tot a b) (a.toList.take x) (b.toList.take e++(b.toList.drop e).take (y-e)) o.toList.reverse:=by rw[<-wm _ he];exact h
 have:=h'.yT λu hu v hv=>by
  refine hide λgG hG=>?_
  obtain⟨i,hi,hk,rfl⟩:=il hu
  obtain⟨j,hj,Vk,rfl⟩:=Ce hv
  refine hG ?_
  exact hp (e+i) (by lia) (by lia) hi _ Vk hj
 show MH r (tot a b) _ _ (o++(b.extract e y).reverse).toList.reverse
 rw[jG,Be,Bc,List.reverse_reverse,iq]
 exact this
theorem MH.fin(h:Di r a b o x y)(e:x=0\/y=0):Good r a b (a.extract 0 x++b.extract 0 y++o.reverse):=by
 unfold Good
 rw[jG,jG,Be,Kn,Kn]
 rcases e with e | e
 ·subst e
  exact MH.VN h
 ·subst e
  rw[List.take_zero,fZ]
  exact MH.VP h
theorem MH.fst(h:Di r a b o x y)(e:y=1)(nb:0<b.size)(h0:∀v∈a,r b[0]<=r v):Good r a b (b.extract 0 y++a.extract 0 x++o.reverse):=by
 unfold Good
 rw[jG,jG,Be,Kn,Kn]
 subst e
 have z:b.toList.take 1=[b[0]]:=by rw[take_one b nb];rfl
 have h':MH r (tot a b) (a.toList.take x) [b[0]] o.toList.reverse:=by rw[<-z];exact h
 rw[z]
 exact h'.aEH λv hv=>h0 v (by simpa using List.mem_of_mem_take hv)
end
section
variable {prog:Program}{w:World}{A:Around}{E:Value->Shared->Prop}{s:Shared}{κ:SortKind}{r:Keyed->Int}{U:Keyed->Prop}
theorem aAI(C:Cmp prog w A s κ r U){a b:Array Keyed}{Q:Array Keyed->SortSt->Prop}{st:SortSt}(hk:kindOf st=κ)(ha:∀z∈a,U z)(hb:∀z∈b,U z)(sa:jx r a.toList)(sb:jx r b.toList)(na:0<a.size)(nb:0<b.size)
  (h0:∀v∈a,r b[0]<=r v) (hl:∀v∈b,r v<=r (a[a.size-1]'(by lia))) (h:∀R g,Good r a b R->Q R (dk st g)):wpS (model prog w) A E s (mHi a b) Q st:=by
 rw[YS]
 refine aN (mR (iC ⟨rfl,?_⟩))
 refine aN (df (by lia) ?_)
 try dsimp only
 obtain⟨na',hna⟩:∃na',a.size=na'+1:=⟨a.size-1,by lia⟩
 have M0:Di r a b #[a[a.size-1]'(by lia)] (a.size-1) b.size:=by
  refine MH.zq (o:=#[]) (x:=a.size-1) (y:=b.size) ⟨?_,List.Pairwise.nil,?_,?_,by simp,by simp⟩ (by lia) λi hi qN=>hl _ (ig _)
  ·rw[show a.size-1+1=a.size by lia,tK (by simp),tK (by simp)];simp
  ·rw[show a.size-1+1=a.size by lia,tK (by simp)];exact sa
  ·rw[tK (by simp)];exact sb
 refine aI (λhz=>?_) (λWR=>?_)
 ·exact aF (h _ (gallopOf st) (M0.fin (.inl (by simpa using hz))))
 refine aI (λhz=>?_) (λyv=>?_)
 ·exact aF (h _ (gallopOf st) (M0.fst (by simpa using hz) nb h0))
 have Za:a.size-1≠0:=by simpa using WR
 have QW:b.size≠1:=by simpa using yv
 clear WR yv
 refine aN (iB ?_)
 refine aN (dZ (eZ (a:=0) (I:=λn c bD=>(∃g,bD=dk st g)/\∃o x y mg,c=(none,x,y,o,mg)/\0<x/\x<=a.size/\1<y/\y<=b.size/\Di r a b o x y/\x+y+n+1<=a.size+b.size)
  (Q:=λc bD=>(∃g,bD=dk st g)/\∃R,c.1=some R/\Good r a b R) ?step ?fin ⟨⟨gallopOf st,rfl⟩,_,a.size-1,b.size,gallopOf st,rfl,by lia,by lia,by lia,by lia,M0,by lia⟩) ?post)
 case post=>
  intro Rv bD gI
  refine hide λgG hG=>?_
  obtain⟨c1,c⟩:=Rv
  obtain⟨⟨g,rfl⟩,R,rfl,hR⟩:=gI
  refine hG ?_
  exact aF (h R g hR)
 case fin=>
  intro c bD gI
  refine hide λgG hG=>?_
  obtain⟨_,o,x,y,mg,rfl,hx,Ke,hy,WX,M,hn⟩:=gI
  refine hG ?_
  lia
 case step=>
  clear Za QW M0 h hna
  intro n c bD _ hn xB
  refine hide λgG hG=>?_
  obtain⟨⟨g,rfl⟩,o,x,y,mg,rfl,hx,Ke,hy,WX,M,N1⟩:=xB
  refine hG ?_
  try dsimp only
  refine aN (dZ (eZ (a:=0) (I:=λn1 d bD=>(∃g,bD=dk st g)/\∃o' x' y' p q,d=(none,x',y',o',p,q)/\0<x'/\x'<=a.size/\1<y'/\y'<=b.size/\Di r a b o' x' y'/\x'+y'+n1<=x+y)
   (Q:=λd bD=>(∃g,bD=dk st g)/\match d.1 with | some R=>Good r a b R | none=>0<d.2.1/\d.2.1<=a.size/\1<d.2.2.1/\d.2.2.1<=b.size/\Di r a b d.2.2.2.1 d.2.1 d.2.2.1/\d.2.1+d.2.2.1+n+2<=a.size+b.size) ?step1 ?fin1 ⟨⟨g,rfl⟩,o,x,y,0,0,rfl,hx,Ke,hy,WX,M,by lia⟩) ?post1)
  case fin1=>
   intro d bD gI
   refine hide λgG hG=>?_
   obtain⟨hg,o',x',y',p,q,rfl,vB,Zc,Cm,Zb,M',zO⟩:=gI
   refine hG ?_
   exact⟨hg,vB,Zc,Cm,Zb,M',by simp only;lia⟩
  case step1=>
   clear hx Ke hy WX M hn
   intro n1 d bD _ vC xB
   refine hide λgG hG=>?_
   obtain⟨⟨g,rfl⟩,o,x,y,p,q,rfl,hx,Ke,hy,WX,M,zO⟩:=xB
   refine hG ?_
   try dsimp only
   refine hide λgG hG=>?_
   obtain⟨x,rfl⟩:∃x1,x=x1+1:=⟨x-1,by lia⟩
   obtain⟨y,rfl⟩:∃y1,y=y1+1:=⟨y-1,by lia⟩
   refine hG ?_
   simp only[Ba]
   refine aN (df (by lia) ?_)
   refine aN (df (by lia) ?_)
   refine aN (Pb C (hb _ (ig _)) (ha _ (ig _)) hk ?_)
   try dsimp only
   by_cases hc:r b[y]<r a[x]
   ·rw[aB (by simpa using hc)]
    refine aN (df (by lia) ?_)
    try dsimp only
    have MB:=MH.zq M (by lia) λi hi h2=>by
     have:=gR sb (show i<=y by lia) (by lia)
     lia
    refine aI (λhz=>?_) (λhz=>?_)
    ·exact aF ⟨⟨_,rfl⟩,MB.fin (.inl (by simpa using hz))⟩
    have Iq:x≠0:=by simpa using hz
    refine aI (λhz=>?_) (λhz=>?_)
    ·exact aF ⟨⟨_,rfl⟩,(by simp only;lia),(by simp only;lia),hy,WX,MB,by simp only;lia⟩
    ·exact aF ⟨⟨_,rfl⟩,_,_,_,_,_,rfl,by lia,by lia,hy,WX,MB,by lia⟩
   ·rw[aC (by simpa using hc)]
    refine aN (df (by lia) ?_)
    try dsimp only
    have MB:=MH.zp M (by lia) λi hi h2=>by
     have:=gR sa (show i<=x by lia) (by lia)
     lia
    refine aI (λhz=>?_) (λhz=>?_)
    ·exact aF ⟨⟨_,rfl⟩,MB.fst (by simpa using hz) nb h0⟩
    have Iq:y≠1:=by simpa using hz
    refine aI (λhz=>?_) (λhz=>?_)
    ·exact aF ⟨⟨_,rfl⟩,hx,Ke,(by simp only;lia),(by simp only;lia),MB,by simp only;lia⟩
    ·exact aF ⟨⟨_,rfl⟩,_,_,_,_,_,rfl,hx,Ke,by lia,by lia,MB,by lia⟩
  case post1=>
   intro Rv bD gI
   refine hide λgG hG=>?_
   obtain⟨d1,x1,y1,o1,p1,q1⟩:=Rv
   obtain⟨⟨g,rfl⟩,hd⟩:=gI
   refine hG ?_
   dsimp only at hd ⊢
   cases d1 with
   | some R=>exact aF ⟨⟨_,rfl⟩,R,rfl,hd⟩
   | none=>
    refine hide λgG hG=>?_
    obtain⟨Cp,aBg,QX,aBf,M1,vC⟩:=hd
    refine hG ?_
    clear hx Ke hy WX M N1 hn
    try dsimp only
    refine aN (mR (iC ⟨rfl,?_⟩))
    refine aN (dZ (eZ (I:=λ_ e bD=>(∃g,bD=dk st g)/\∃o' x' y' m' p q,e=(none,x',y',o',m',p,q)/\0<x'/\x'<=a.size/\1<y'/\y'<=b.size/\Di r a b o' x' y'/\x'+y'+n+2<=a.size+b.size)
     (Q:=λe bD=>(∃g,bD=dk st g)/\match e.1 with | some R=>Good r a b R | none=>0<e.2.1/\e.2.1<=a.size/\1<e.2.2.1/\e.2.2.1<=b.size/\Di r a b e.2.2.2.1 e.2.1 e.2.2.1/\e.2.1+e.2.2.1+n+2<=a.size+b.size) ?step2 ?fin2 ⟨⟨_,rfl⟩,_,_,_,_,_,_,rfl,Cp,aBg,QX,aBf,M1,vC⟩) ?post2)
    case fin2=>
     intro e bD gI
     refine hide λgG hG=>?_
     obtain⟨hg,o',x',y',m',p,q,rfl,vB,Zc,Cm,Zb,M',zO⟩:=gI
     refine hG ?_
     exact⟨hg,vB,Zc,Cm,Zb,M',zO⟩
    case post2=>
     intro Rv bD gI
     refine hide λgG hG=>?_
     obtain⟨e1,x2,y2,o2,m2,p2,q2⟩:=Rv
     obtain⟨⟨g,rfl⟩,he⟩:=gI
     refine hG ?_
     dsimp only at he ⊢
     cases e1 with
     | some R=>exact aF ⟨⟨_,rfl⟩,R,rfl,he⟩
     | none=>
      refine hide λgG hG=>?_
      obtain⟨NT,aEa,WW,aD9,M2,N0⟩:=he
      refine hG ?_
      refine aN (gQ (aF ⟨⟨_,rfl⟩,_,_,_,_,rfl,NT,aEa,WW,aD9,M2,by lia⟩))
    case step2=>
     clear Cp aBg QX aBf M1 vC
     intro n2 e bD _ N0 xB
     refine hide λgG hG=>?_
     obtain⟨⟨g,rfl⟩,o,x,y,m',p,q,rfl,hx,Ke,hy,WX,M,zO⟩:=xB
     refine hG ?_
     try dsimp only
     refine' share (P:=_) (λH=>aI (λhm=>?A) (λhm=>?B)) ?_
     case A=>generalize m'-1=gg;revert gg;exact H
     case B=>clear hm;generalize m'=gg;revert gg;exact H
     intro gg
     obtain⟨y,rfl⟩:∃y1,y=y1+1:=⟨y-1,by lia⟩
     simp only[Ba]
     refine aN (gQ ?_)
     refine aN (df (by lia) ?_)
     refine aN (zb C (by lia) (by lia) ha (hb _ (ig _)) hk (λi j h1 h2 _=>gR sa (by lia) h2) λe l1 l2 l3=>?_)
     try dsimp only
     have QS:∀i,i<e->∀(h2:i<a.size),r a[i]<=r (b[y]'(by lia)):=λi hi h2=>by simpa [isA]using l2 i hi (by lia)
     have WL:∀i,e<=i->i<x->∀(h2:i<a.size),r (b[y]'(by lia))<r a[i]:=λi hi qN h2=>by have:=l3 i hi qN (by lia);simpa [isA]using this
     clear l2 l3
     generalize aEy:x-e=cnt
     refine' Bs (R:=λo' x'=>x'=e/\0<x'/\Di r a b o' x' (y+1)) (P:=_) (λH=>aI (λhz=>?A) (λhz=>?B)) ?_
     case A=>
      have MA:=MH.QJ (e:=e) M l1 λi hi qN h2 j hj Vk=>by
       have e1:=WL i hi qN h2
       have e2:=gR sb (show j<=y by lia) (by lia)
       lia
      refine aI (λhz=>?_) (λhz=>?_)
      ·exact aF ⟨⟨_,rfl⟩,MA.fin (.inl (by simpa using hz))⟩
      have hz0:e≠0:=by simpa using hz
      have e1:0<e:=by lia
      obtain⟨x',vB⟩:∃x',x'=e:=⟨_,rfl⟩
      rw[<-vB]at MA e1 ⊢
      generalize o++(a.extract x' x).reverse=o' at MA ⊢
      exact H o' x' ⟨vB,e1,MA⟩
     case B=>exact H o x ⟨by lia,hx,M⟩
     rintro o x' ⟨vB,Cp,MA⟩
     obtain⟨x',rfl⟩:∃x1,x'=x1+1:=⟨x'-1,by lia⟩
     simp only[Ba]
     have MB:=MH.zp (y:=y) MA (by lia) λi hi h2=>QS i (by lia) h2
     clear QS WL MA M
     refine aN (df (by lia) ?_)
     try dsimp only
     refine aI (λhz=>?_) (λhz=>?_)
     ·exact aF ⟨⟨_,rfl⟩,MB.fst (by simpa using hz) nb h0⟩
     have yv:y≠1:=by simpa using hz
     have WW:1<y:=by lia
     have hxa:x'+1<=a.size:=by lia
     have hnn:x'+1+(y+1)+n+2<=a.size+b.size:=by lia
     clear yv hz aEy vB zO Ke hx l1
     refine aN (df (by lia) ?_)
     refine aN (zb C (by lia) (by lia) hb (ha _ (ig _)) hk (λi j h1 h2 _=>gR sb (by lia) h2) λf l1 m2 m3=>?_)
     try dsimp only
     have m2':∀i,i<f->∀(h2:i<b.size),r b[i]<r (a[x']'(by lia)):=λi hi h2=>by simpa [isA]using m2 i hi (by lia)
     have m3':∀i,f<=i->i<y->∀(h2:i<b.size),r (a[x']'(by lia))<=r b[i]:=λi hi qN h2=>by have:=m3 i hi qN (by lia);simpa [isA]using this
     clear m2 m3
     generalize aFE:y-f=aFQ
     refine' Bs (R:=λo' y'=>y'=f/\1<y'/\Di r a b o' (x'+1) y') (P:=_) (λH=>aI (λhz=>?A) (λhz=>?B)) ?_
     case A=>
      have MC:=MH.QH (e:=f) MB (by lia) λi hi qN h2 j hj Vk=>by
       have e1:=m3' i hi qN h2
       have e2:=gR sa (show j<=x' by lia) (by lia)
       lia
      refine aI (λhz=>?_) (λhz=>?_)
      ·exact aF ⟨⟨_,rfl⟩,MC.fst (by simpa using hz) nb h0⟩
      have hz4:f≠1:=by simpa using hz
      refine aI (λhz=>?_) (λhz=>?_)
      ·exact aF ⟨⟨_,rfl⟩,MC.fin (.inr (by simpa using hz))⟩
      have hz5:f≠0:=by simpa using hz
      have e1:1<f:=by lia
      obtain⟨y',Cm⟩:∃y',y'=f:=⟨_,rfl⟩
      rw[<-Cm]at MC e1 ⊢
      generalize _++(b.extract y' y).reverse=o' at MC ⊢
      exact H o' y' ⟨Cm,e1,MC⟩
     case B=>exact H _ y ⟨by lia,WW,MB⟩
     rintro o' y' ⟨Cm,QX,MC⟩
     have MZ:=MH.zq (x:=x') MC (by lia) λi hi h2=>(by have:=m2' i (by lia) h2;lia)
     clear m2' m3' MB MC
     refine aN (df (by lia) ?_)
     try dsimp only
     refine aI (λhz=>?_) (λhz=>?_)
     ·exact aF ⟨⟨_,rfl⟩,MZ.fin (.inl (by simpa using hz))⟩
     ·have Iq:x'≠0:=by simpa using hz
      have e1:0<x':=by lia
      have e2:x'<=a.size:=by lia
      have e3:y'<=b.size:=by lia
      have e4:x'+y'+n+2<=a.size+b.size:=by lia
      refine aI (λhz=>?_) (λhz=>?_)
      ·exact aF ⟨⟨_,rfl⟩,e1,e2,QX,e3,MZ,e4⟩
      ·exact aF ⟨⟨_,rfl⟩,_,_,_,_,_,_,rfl,e1,e2,QX,e3,MZ,e4⟩
end
section
variable {prog:Program}{w:World}{A:Around}{E:Value->Shared->Prop}{s:Shared}{κ:SortKind}{r:Keyed->Int}{a₀:Array Keyed}
def Rk(r:Keyed->Int)(xs:Array Keyed)(i:Nat):Int:=match xs[i]? with
 | some p=>r p
 | none=>0
theorem Rk.eq{xs:Array Keyed}{i:Nat}(h:i<xs.size):Rk r xs i=r xs[i]:=by unfold Rk;rw[dO h]
theorem Rk.congr{xs ys:Array Keyed}{i j:Nat}(h:xs[i]?=ys[j]?):Rk r xs i=Rk r ys j:=by unfold Rk;rw[h]
def Sg(r:Keyed->Int)(xs:Array Keyed)(lo hi:Nat):Prop:=∀i j,lo<=i->i<=j->j<hi->Rk r xs i<=Rk r xs j
def Dg(r:Keyed->Int)(xs:Array Keyed)(lo hi:Nat):Prop:=∀i j,lo<=i->i<=j->j<hi->Rk r xs j<=Rk r xs i
structure SB(a₀:Array Keyed)(κ:SortKind)(st:SortSt):Prop where
 perm:(arrOf st).Perm a₀
 kind:kindOf st=κ
 ok:failedOf st=none
theorem SB.size{st:SortSt}(h:SB a₀ κ st):(arrOf st).size=a₀.size:=h.perm.size_eq
theorem SB.put{st:SortSt}(h:SB a₀ κ st){xs:Array Keyed}(hp:xs.Perm (arrOf st)):SB a₀ κ (setArr st xs):=⟨hp.trans h.perm,h.kind,h.ok⟩
theorem SB.mem{st:SortSt}(h:SB a₀ κ st){z:Keyed}(hz:z∈arrOf st):z∈a₀:=h.perm.mem_iff.mp hz
abbrev NK(prog:Program)(w:World)(A:Around)(s:Shared)(κ:SortKind)(r:Keyed->Int)(a₀:Array Keyed):Prop:=Cmp prog w A s κ r (·∈a₀)
theorem jh(C:NK prog w A s κ r a₀){st:SortSt}{i j:Nat}{Q:Option Bool->SortSt->Prop}(B:SB a₀ κ st)(hi:i<a₀.size)(hj:j<a₀.size)(h:Q (some (decide (Rk r (arrOf st) i<Rk r (arrOf st) j))) st):wpS (model prog w) A E s (ltAt' i j) Q st:=by
 have Iw:i<(arrOf st).size:=by rw[B.size];exact hi
 have vm:j<(arrOf st).size:=by rw[B.size];exact hj
 rw[Rk.eq Iw,Rk.eq vm]at h
 rw[ltAt'_eq]
 refine aN (iB ?_)
 refine aN (df Iw (aN (df vm (Pb C (B.mem (ig _)) (B.mem (ig _)) B.kind h))))
theorem rF{st:SortSt}{i j:Nat}{Q:Unit->SortSt->Prop}(h:Q () (setArr st (mirror (arrOf st) i j ((j-i) / 2)))):wpS (model prog w) A E s (reverseSlice' i j) Q st:=by
 rw[reverseSlice'_eq];exact gQ h
theorem fE{xs:Array Keyed}{i j:Nat}(hj:j<=xs.size)(k:Nat):Rk r (mirror xs i j ((j-i) / 2)) k=if i<=k/\k<j then Rk r xs (i+j-1-k) else Rk r xs k:=by
 have e:=getElem?_mirror_all (i:=i) hj k
 by_cases h1:i<=k/\k<j
 ·rw[aB h1]at e ⊢;exact Rk.congr e
 ·rw[aC h1]at e ⊢;exact Rk.congr e
theorem cF{xs:Array Keyed}{i j:Nat}(hj:j<=xs.size)(heq:∀k,i<=k->k<j->Rk r xs k=Rk r xs (j-1))(k:Nat):Rk r (mirror xs i j ((j-i) / 2)) k=Rk r xs k:=by
 rw[fE hj]
 split
 ·rw[heq _ (by lia) (by lia),heq k (by lia) (by lia)]
 ·rfl
def Pre(lo:Nat)(xs ys:Array Keyed):Prop:=∀k,k<lo->ys[k]?=xs[k]?
theorem Pre.refl{lo:Nat}{xs:Array Keyed}:Pre lo xs xs:=λ_ _=>rfl
theorem Pre.trans{lo:Nat}{xs ys zs:Array Keyed}(h:Pre lo xs ys)(g:Pre lo ys zs):Pre lo xs zs:=λk hk=>(g k hk).trans (h k hk)
theorem Pre.U1{lo i j:Nat}{xs:Array Keyed}(hi:lo<=i)(hj:j<=xs.size):Pre lo xs (mirror xs i j ((j-i) / 2)):=λk hk=>by
 rw[getElem?_mirror_all hj,aC (by lia)]
theorem Pre.bub{lo src d:Nat}{xs:Array Keyed}(hs:src<xs.size)(hd:lo+d<=src):Pre lo xs (bubble xs src d):=λk hk=>by
 rw[getElem?_bubble hs d (by lia),aC (by lia),aC (by lia)]
theorem zf{xs:Array Keyed}{src d:Nat}(hs:src<xs.size)(hd:d<=src)(k:Nat):Rk r (bubble xs src d) k=if k=src-d then Rk r xs src else if src-d<k/\k<=src then Rk r xs (k-1) else Rk r xs k:=by
 have e:=getElem?_bubble hs d hd k
 by_cases h1:k=src-d
 ·rw[aB h1]at e ⊢;exact Rk.congr e
 ·rw[aC h1]at e ⊢
  by_cases h2:src-d<k/\k<=src
  ·rw[aB h2]at e ⊢;exact Rk.congr e
  ·rw[aC h2]at e ⊢;exact Rk.congr e
theorem aAJ(C:NK prog w A s κ r a₀){st:SortSt}{lo n ok:Nat}{Q:Bool->SortSt->Prop}(hn:lo+n<=a₀.size)(bE:ok<=n)(B:SB a₀ κ st)(hs:Sg r (arrOf st) lo (lo+ok))
  (h:∀bD,SB a₀ κ bD->pendingOf bD=pendingOf st->Pre lo (arrOf st) (arrOf bD)->Sg r (arrOf bD) lo (lo+n)->Q true bD):wpS (model prog w) A E s (binarySort' lo n ok) Q st:=by
 rw[binarySort'_eq]
 refine aN (dZ (eZ (I:=λk c bD=>c=(none,())/\SB a₀ κ bD/\pendingOf bD=pendingOf st/\Pre lo (arrOf st) (arrOf bD)/\Sg r (arrOf bD) lo (lo+min k n))
  (Q:=λc bD=>c=(none,())/\SB a₀ κ bD/\pendingOf bD=pendingOf st/\Pre lo (arrOf st) (arrOf bD)/\Sg r (arrOf bD) lo (lo+n)) ?step ?fin ?init) ?post)
 case post=>
  rintro c bD ⟨rfl,B',p',e',s'⟩
  exact aF (h bD B' p' e' s')
 case init=>
  refine⟨rfl,B,rfl,.refl,λi j h1 h2 h3=>?_⟩
  by_cases z:ok=0
  ·have:i=j:=by lia
   subst this;exact fX _
  ·exact hs i j h1 h2 (by lia)
 case fin=>
  rintro c bD ⟨hc,B',p',e',s'⟩
  refine⟨hc,B',p',e',?_⟩
  rwa [show min (max (max ok 1) n) n=n by lia]at s'
 case step=>
  rintro k c bD hak hkn ⟨rfl,B',p',e',s'⟩
  rw[show min k n=k by lia]at s'
  have hsz:(arrOf bD).size=a₀.size:=B'.size
  refine aN (dZ (eZ (a:=0) (I:=λx c aG=>aG=bD/\∃l q,c=(none,l,q)/\l<=q/\q<=k/\q-l<=k-x/\(∀i,lo<=i->i<lo+l->Rk r (arrOf bD) i<=Rk r (arrOf bD) (lo+k))/\(∀i,lo+q<=i->i<lo+k->Rk r (arrOf bD) (lo+k)<Rk r (arrOf bD) i))
   (Q:=λc aG=>aG=bD/\∃l q,c=(none,l,q)/\l<=k/\(∀i,lo<=i->i<lo+l->Rk r (arrOf bD) i<=Rk r (arrOf bD) (lo+k))/\(∀i,lo+l<=i->i<lo+k->Rk r (arrOf bD) (lo+k)<Rk r (arrOf bD) i)) ?istep ?ifin ⟨rfl,0,k,rfl,by lia,by lia,by lia,λi _ _=>by lia,λi _ _=>by lia⟩) ?ipost)
  case ifin=>
   rintro c aG ⟨rfl,l,q,rfl,a1,a2,a3,a4,a5⟩
   have:l=q:=by lia
   subst this
   exact⟨rfl,l,l,rfl,a2,a4,a5⟩
  case istep=>
   rintro x c aG _ hx ⟨rfl,l,q,rfl,a1,a2,a3,a4,a5⟩
   try dsimp only
   refine aI (λhz=>?_) (λhz=>?_)
   ·have:l=q:=by lia
    subst this
    exact aF ⟨rfl,l,l,rfl,a2,a4,a5⟩
   ·refine aN (jh C B' (by lia) (by lia) ?_)
    try dsimp only
    refine aI (λhc=>?_) (λhc=>?_)
    ·have mJ:=of_decide_eq_true hc
     refine aF ⟨rfl,l,(l+q) / 2,rfl,by lia,by lia,by lia,a4,λi h1 h2=>?_⟩
     have:=s' (lo+(l+q) / 2) i (by lia) h1 (by lia)
     lia
    ·have mJ:¬(Rk r (arrOf aG) (lo+k)<Rk r (arrOf aG) (lo+(l+q) / 2)):=λz=>hc (decide_eq_true z)
     refine aF ⟨rfl,(l+q) / 2+1,q,rfl,by lia,by lia,by lia,λi h1 h2=>?_,a5⟩
     have:=s' i (lo+(l+q) / 2) h1 (by lia) (by lia)
     lia
  case ipost=>
   rintro c aG ⟨rfl,l,q,rfl,Sw,a4,a5⟩
   show wpS _ _ _ _ (do moveDown' (lo+k) (lo+l);pure (ForInStep.yield (none,()))) _ _
   rw[moveDown'_eq]
   have hks:lo+k<(arrOf aG).size:=by lia
   have ed:lo+k-(lo+l)=k-l:=by lia
   refine aN (gQ (aF ⟨rfl,B'.put (bubble_perm _ _ _),p',e'.trans (Pre.bub hks (by lia)),?_⟩))
   rw[show min (k+1) n=k+1 by lia]
   intro i j h1 h2 h3
   show Rk r (bubble (arrOf aG) (lo+k) (lo+k-(lo+l))) i<=Rk r (bubble (arrOf aG) (lo+k) (lo+k-(lo+l))) j
   rw[zf hks (by lia),zf hks (by lia),ed,show lo+k-(k-l)=lo+l by lia]
   repeat' split
   all_goals first
    | (exfalso;lia)
    | exact fX _
    | exact a4 _ (by lia) (by lia)
    | exact Int.le_of_lt (a5 _ (by lia) (by lia))
    | exact s' _ _ (by lia) (by lia) (by lia)
theorem TJ(C:NK prog w A s κ r a₀){st:SortSt}{lo eC:Nat}{Q:Option Nat->SortSt->Prop}(hn:lo+eC<=a₀.size)(hr1:1<=eC)(B:SB a₀ κ st)
  (h:∀m bD,SB a₀ κ bD->pendingOf bD=pendingOf st->Pre lo (arrOf st) (arrOf bD)->1<=m->m<=eC->Sg r (arrOf bD) lo (lo+m)->Q (some m) bD):wpS (model prog w) A E s (countRun' lo eC) Q st:=by
 rw[countRun'_eq]
 try dsimp only
 have s0:Sg r (arrOf st) lo (lo+1):=λi j h1 h2 h3=>by
  have:i=j:=by lia
  subst this;exact fX _
 refine aN (dZ (eZ (a:=1) (I:=λx c aG=>aG=st/\c=(none,x)/\Sg r (arrOf st) lo (lo+x))
  (Q:=λc aG=>aG=st/\∃n,c=(none,n)/\1<=n/\n<=eC/\Sg r (arrOf st) lo (lo+n)/\(n=eC\/Rk r (arrOf st) (lo+n)<Rk r (arrOf st) (lo+n-1))) ?stepz ?finz ⟨rfl,rfl,s0⟩) ?postz)
 case finz=>
  rintro c aG ⟨rfl,rfl,s'⟩
  rw[show max (1) eC=eC by lia]at s' ⊢
  exact⟨rfl,eC,rfl,by lia,bx _,s',.inl rfl⟩
 case stepz=>
  rintro x c aG M9 hxn ⟨e0,rfl,s'⟩
  replace e0:=e0.symm;subst e0
  try dsimp only
  refine aN (jh C B (by lia) (by lia) ?_)
  try dsimp only
  refine aI (λhc=>?_) (λhc=>?_)
  ·exact aF ⟨rfl,x,rfl,M9,by lia,s',.inr (of_decide_eq_true hc)⟩
  ·have mJ:=λz=>hc (decide_eq_true z)
   refine aF ⟨rfl,rfl,λi j h1 h2 h3=>?_⟩
   by_cases hj:j<lo+x
   ·exact s' i j h1 h2 hj
   ·have vm:j=lo+x:=by lia
    subst vm
    by_cases hi:i=lo+x
    ·subst hi;exact fX _
    ·have:=s' i (lo+x-1) h1 (by lia) (by lia)
     exact vO this (vK.mp mJ)
 case postz=>
  intro c aG gI
  refine hide λgG hG=>?_
  obtain⟨e0,n,rfl,hn0,vC,s',hor⟩:=gI
  refine hG ?_
  replace e0:=e0.symm;subst e0
  try dsimp only
  refine aI (λhz=>?_) (λhz=>?_)
  ·have Iq:n=eC:=by simpa using hz
   exact aF (h n _ B rfl .refl (by lia) vC s')
  have Iq:n≠eC:=by simpa using hz
  have jj:=hor.resolve_left Iq
  have hsz:(arrOf st).size=a₀.size:=B.size
  refine aI (λyv=>?_) (λyv=>?_)
  ·refine aN (jh C B (by lia) (by lia) ?_)
   try dsimp only
   refine aI (λhc=>?_) (λhc=>?_)
   ·exact aF (h n _ B rfl .refl (by lia) vC s')
   ·have mJ:¬(Rk r (arrOf st) lo<Rk r (arrOf st) (lo+n-1)):=λz=>hc (decide_eq_true z)
    have vn:∀k,lo<=k->k<lo+n->Rk r (arrOf st) k=Rk r (arrOf st) (lo+n-1):=λk h1 h2=>by
     have a1:=s' lo k (by lia) h1 h2
     have a2:=s' k (lo+n-1) h1 (by lia) (by lia)
     lia
    refine aN (rF ?_)
    have B1:=B.put (kY _ lo (lo+n) ((lo+n-lo) / 2))
    have e1:Pre lo (arrOf st) (mirror (arrOf st) lo (lo+n) ((lo+n-lo) / 2)):=Pre.U1 (bx lo) (by lia)
    have d1:Dg r (arrOf (setArr st (mirror (arrOf st) lo (lo+n) ((lo+n-lo) / 2)))) lo (lo+(n+1)):=λi j h1 h2 h3=>by
     show Rk r (mirror (arrOf st) _ _ _) j<=Rk r (mirror (arrOf st) _ _ _) i
     rw[cF (by lia) vn,cF (by lia) vn]
     by_cases hj:j<lo+n
     ·rw[vn i h1 (by lia),vn j (by lia) hj];exact fX _
     ·have vm:j=lo+n:=by lia
      subst vm
      by_cases hi:i=lo+n
      ·subst hi;exact fX _
      ·rw[vn i h1 (by lia)];exact Int.le_of_lt jj
    have Ko:Pre lo (arrOf st) (arrOf (setArr st (mirror (arrOf st) lo (lo+n) ((lo+n-lo) / 2)))):=e1
    have p1:pendingOf (setArr st (mirror (arrOf st) lo (lo+n) ((lo+n-lo) / 2)))=pendingOf st:=rfl
    clear e1
    generalize setArr st (mirror (arrOf st) lo (lo+n) ((lo+n-lo) / 2))=S1 at B1 d1 Ko p1 ⊢
    refine aN (mR (iC ⟨rfl,?_⟩))
    refine aN (dZ (eZ (a:=n+1) (I:=λx c aG=>∃q,c=(none,x,q)/\SB a₀ κ aG/\pendingOf aG=pendingOf st/\Pre lo (arrOf st) (arrOf aG)/\Dg r (arrOf aG) lo (lo+x)/\q+1<=x/\(∀i,lo+x-(q+1)<=i->i<lo+x->Rk r (arrOf aG) i=Rk r (arrOf aG) (lo+x-1)))
     (Q:=λc aG=>∃x q,c=(none,x,q)/\n+1<=x/\x<=eC/\SB a₀ κ aG/\pendingOf aG=pendingOf st/\Pre lo (arrOf st) (arrOf aG)/\Dg r (arrOf aG) lo (lo+x)/\q+1<=x/\(∀i,lo+x-(q+1)<=i->i<lo+x->Rk r (arrOf aG) i=Rk r (arrOf aG) (lo+x-1))) ?dstepx ?dfinx ⟨0,rfl,B1,p1,Ko,d1,by lia,λi h1 h2=>by congr 1;lia⟩) ?dpostx)
    case dfinx=>
     intro c aG gI
     refine hide λgG hG=>?_
     obtain⟨q,rfl,b1,b2,b3,b4,b5,b6⟩:=gI
     refine hG ?_
     rw[show max (n+1) eC=eC by lia]at b4 b5 b6 ⊢
     exact⟨eC,q,rfl,by lia,bx _,b1,b2,b3,b4,b5,b6⟩
    case dstepx=>
     intro x c aG M9 hxn xB
     refine hide λgG hG=>?_
     obtain⟨q,rfl,b1,b2,b3,b4,b5,b6⟩:=xB
     refine hG ?_
     have hsz:(arrOf aG).size=a₀.size:=b1.size
     try dsimp only
     refine aN (jh C b1 (by lia) (by lia) ?_)
     try dsimp only
     refine aI (λhc=>?_) (λhc=>?_)
     ·have mJ:=of_decide_eq_true hc
      have stp:∀xs:Array Keyed,(∀k,Rk r xs k=Rk r (arrOf aG) k)->Dg r xs lo (lo+(x+1)):=λxs hk i j h1 h2 h3=>by
       rw[hk,hk]
       by_cases hj:j<lo+x
       ·exact b4 i j h1 h2 hj
       ·have vm:j=lo+x:=by lia
        subst vm
        by_cases hi:i=lo+x
        ·subst hi;exact fX _
        ·have:=b4 i (lo+x-1) h1 (by lia) (by lia)
         lia
      refine aI (λhq=>?_) (λhq=>?_)
      ·refine aN (rF (aF ⟨0,rfl,b1.put (kY _ _ _ _),b2,b3.trans (Pre.U1 (by lia) (by lia)),stp _ (cF (by lia) b6),by lia,λi h1 h2=>by congr 1;lia⟩))
      ·exact aF ⟨0,rfl,b1,b2,b3,stp _ (λ_=>rfl),by lia,λi h1 h2=>by congr 1;lia⟩
     ·have mJ:¬(Rk r (arrOf aG) (lo+x)<Rk r (arrOf aG) (lo+x-1)):=λz=>hc (decide_eq_true z)
      refine aN (jh C b1 (by lia) (by lia) ?_)
      try dsimp only
      refine aI (λhd=>?_) (λhd=>?_)
      ·exact aF ⟨x,q,rfl,M9,by lia,b1,b2,b3,b4,b5,b6⟩
      ·have hd':¬(Rk r (arrOf aG) (lo+x-1)<Rk r (arrOf aG) (lo+x)):=λz=>hd (decide_eq_true z)
       have heq:Rk r (arrOf aG) (lo+x)=Rk r (arrOf aG) (lo+x-1):=by lia
       refine aF ⟨q+1,rfl,b1,b2,b3,λi j h1 h2 h3=>?_,by lia,λi h1 h2=>?_⟩
       ·by_cases hj:j<lo+x
        ·exact b4 i j h1 h2 hj
        ·have vm:j=lo+x:=by lia
         subst vm
         by_cases hi:i=lo+x
         ·subst hi;exact fX _
         ·rw[heq];exact b4 i (lo+x-1) h1 (by lia) (by lia)
       ·rw[show lo+(x+1)-1=lo+x by lia]
        by_cases hi:i=lo+x
        ·subst hi;rfl
        ·rw[heq];exact b6 i (by lia) (by lia)
    case dpostx=>
     intro c S3 gI
     refine hide λgG hG=>?_
     obtain⟨m,q,rfl,hm1,hm2,b1,b2,b3,b4,b5,b6⟩:=gI
     refine hG ?_
     try dsimp only
     refine aI (λhq=>?_) (λhq=>?_)
     ·refine aN (rF ?_)
      have hsz:(arrOf S3).size=a₀.size:=b1.size
      have B4:=b1.put (kY _ (lo+m-(q+1)) (lo+m) ((lo+m-(lo+m-(q+1))) / 2))
      have e4:Pre lo (arrOf st) (arrOf (setArr S3 (mirror (arrOf S3) (lo+m-(q+1)) (lo+m) ((lo+m-(lo+m-(q+1))) / 2)))):=b3.trans (Pre.U1 (show lo<=lo+m-(q+1) by lia) (show lo+m<=(arrOf S3).size by lia))
      have d4:Dg r (arrOf (setArr S3 (mirror (arrOf S3) (lo+m-(q+1)) (lo+m) ((lo+m-(lo+m-(q+1))) / 2)))) lo (lo+m):=λi j h1 h2 h3=>by
       show Rk r (mirror (arrOf S3) _ _ _) j<=Rk r (mirror (arrOf S3) _ _ _) i
       rw[cF (by lia) b6,cF (by lia) b6]
       exact b4 i j h1 h2 h3
      have p4:pendingOf (setArr S3 (mirror (arrOf S3) (lo+m-(q+1)) (lo+m) ((lo+m-(lo+m-(q+1))) / 2)))=pendingOf st:=b2
      generalize setArr S3 (mirror (arrOf S3) (lo+m-(q+1)) (lo+m) ((lo+m-(lo+m-(q+1))) / 2))=S4 at B4 e4 d4 p4 ⊢
      refine aN (rF ?_)
      have Iv:=B4.size
      have B2:=B4.put (kY _ lo (lo+m) ((lo+m-lo) / 2))
      have e2:Pre lo (arrOf st) (arrOf (setArr S4 (mirror (arrOf S4) lo (lo+m) ((lo+m-lo) / 2)))):=e4.trans (Pre.U1 (bx lo) (show lo+m<=_ by rw[Iv];lia))
      have s2:Sg r (mirror (arrOf S4) lo (lo+m) ((lo+m-lo) / 2)) lo (lo+m):=λi j h1 h2 h3=>by
       rw[fE (by rw[Iv];lia),fE (by rw[Iv];lia),aB (by lia),aB (by lia)]
       exact d4 _ _ (by lia) (by lia) (by lia)
      have p2:pendingOf (setArr S4 (mirror (arrOf S4) lo (lo+m) ((lo+m-lo) / 2)))=pendingOf st:=p4
      have Pg:Sg r (arrOf (setArr S4 (mirror (arrOf S4) lo (lo+m) ((lo+m-lo) / 2)))) lo (lo+m):=s2
      clear s2
      generalize setArr S4 (mirror (arrOf S4) lo (lo+m) ((lo+m-lo) / 2))=S2 at B2 p2 Pg e2 ⊢
      have s2:=Pg
      refine aN (dZ (eZ (a:=m) (I:=λx c aG=>aG=S2/\c=(none,x)/\Sg r (arrOf S2) lo (lo+x))
       (Q:=λc aG=>aG=S2/\∃n,c=(none,n)/\m<=n/\n<=eC/\Sg r (arrOf S2) lo (lo+n)/\(n=eC\/Rk r (arrOf S2) (lo+n)<Rk r (arrOf S2) (lo+n-1))) ?stepxa ?finxa ⟨rfl,rfl,s2⟩) ?postxa)
      case finxa=>
       rintro c aG ⟨rfl,rfl,s'⟩
       rw[show max (m) eC=eC by lia]at s' ⊢
       exact⟨rfl,eC,rfl,by lia,bx _,s',.inl rfl⟩
      case stepxa=>
       rintro x c aG M9 hxn ⟨e0,rfl,s'⟩
       replace e0:=e0.symm;subst e0
       try dsimp only
       refine aN (jh C B2 (by lia) (by lia) ?_)
       try dsimp only
       refine aI (λhc=>?_) (λhc=>?_)
       ·exact aF ⟨rfl,x,rfl,M9,by lia,s',.inr (of_decide_eq_true hc)⟩
       ·have mJ:=λz=>hc (decide_eq_true z)
        refine aF ⟨rfl,rfl,λi j h1 h2 h3=>?_⟩
        by_cases hj:j<lo+x
        ·exact s' i j h1 h2 hj
        ·have vm:j=lo+x:=by lia
         subst vm
         by_cases hi:i=lo+x
         ·subst hi;exact fX _
         ·have:=s' i (lo+x-1) h1 (by lia) (by lia)
          exact vO this (vK.mp mJ)
      case postxa=>
       intro c aG gI
       refine hide λgG hG=>?_
       obtain⟨e0,n,rfl,hn0,vC,s',hor⟩:=gI
       refine hG ?_
       replace e0:=e0.symm;subst e0
       try dsimp only
       exact aF (h n _ B2 p2 e2 (by lia) vC s')
     ·refine aN (rF ?_)
      have Iv:=b1.size
      have B2:=b1.put (kY _ lo (lo+m) ((lo+m-lo) / 2))
      have e2:Pre lo (arrOf st) (arrOf (setArr S3 (mirror (arrOf S3) lo (lo+m) ((lo+m-lo) / 2)))):=b3.trans (Pre.U1 (bx lo) (show lo+m<=_ by rw[Iv];lia))
      have s2:Sg r (mirror (arrOf S3) lo (lo+m) ((lo+m-lo) / 2)) lo (lo+m):=λi j h1 h2 h3=>by
       rw[fE (by rw[Iv];lia),fE (by rw[Iv];lia),aB (by lia),aB (by lia)]
       exact b4 _ _ (by lia) (by lia) (by lia)
      have p2:pendingOf (setArr S3 (mirror (arrOf S3) lo (lo+m) ((lo+m-lo) / 2)))=pendingOf st:=b2
      have Pg:Sg r (arrOf (setArr S3 (mirror (arrOf S3) lo (lo+m) ((lo+m-lo) / 2)))) lo (lo+m):=s2
      clear s2
      generalize setArr S3 (mirror (arrOf S3) lo (lo+m) ((lo+m-lo) / 2))=S2 at B2 p2 Pg e2 ⊢
      have s2:=Pg
      refine aN (dZ (eZ (a:=m) (I:=λx c aG=>aG=S2/\c=(none,x)/\Sg r (arrOf S2) lo (lo+x))
       (Q:=λc aG=>aG=S2/\∃n,c=(none,n)/\m<=n/\n<=eC/\Sg r (arrOf S2) lo (lo+n)/\(n=eC\/Rk r (arrOf S2) (lo+n)<Rk r (arrOf S2) (lo+n-1))) ?stepxb ?finxb ⟨rfl,rfl,s2⟩) ?postxb)
      case finxb=>
       rintro c aG ⟨rfl,rfl,s'⟩
       rw[show max (m) eC=eC by lia]at s' ⊢
       exact⟨rfl,eC,rfl,by lia,bx _,s',.inl rfl⟩
      case stepxb=>
       rintro x c aG M9 hxn ⟨e0,rfl,s'⟩
       replace e0:=e0.symm;subst e0
       try dsimp only
       refine aN (jh C B2 (by lia) (by lia) ?_)
       try dsimp only
       refine aI (λhc=>?_) (λhc=>?_)
       ·exact aF ⟨rfl,x,rfl,M9,by lia,s',.inr (of_decide_eq_true hc)⟩
       ·have mJ:=λz=>hc (decide_eq_true z)
        refine aF ⟨rfl,rfl,λi j h1 h2 h3=>?_⟩
        by_cases hj:j<lo+x
        ·exact s' i j h1 h2 hj
        ·have vm:j=lo+x:=by lia
         subst vm
         by_cases hi:i=lo+x
         ·subst hi;exact fX _
         ·have:=s' i (lo+x-1) h1 (by lia) (by lia)
          exact vO this (vK.mp mJ)
      case postxb=>
       intro c aG gI
       refine hide λgG hG=>?_
       obtain⟨e0,n,rfl,hn0,vC,s',hor⟩:=gI
       refine hG ?_
       replace e0:=e0.symm;subst e0
       try dsimp only
       exact aF (h n _ B2 p2 e2 (by lia) vC s')
  ·have hn:n=1:=by lia
   have d1:Dg r (arrOf st) lo (lo+(n+1)):=λi j h1 h2 h3=>by
    by_cases hi:i=j
    ·subst hi;exact fX _
    ·have e1:i=lo+n-1:=by lia
     have e2:j=lo+n:=by lia
     subst e1;subst e2
     exact Int.le_of_lt jj
   refine aN (mR (iC ⟨rfl,?_⟩))
   refine aN (dZ (eZ (a:=n+1) (I:=λx c aG=>∃q,c=(none,x,q)/\SB a₀ κ aG/\pendingOf aG=pendingOf st/\Pre lo (arrOf st) (arrOf aG)/\Dg r (arrOf aG) lo (lo+x)/\q+1<=x/\(∀i,lo+x-(q+1)<=i->i<lo+x->Rk r (arrOf aG) i=Rk r (arrOf aG) (lo+x-1)))
    (Q:=λc aG=>∃x q,c=(none,x,q)/\n+1<=x/\x<=eC/\SB a₀ κ aG/\pendingOf aG=pendingOf st/\Pre lo (arrOf st) (arrOf aG)/\Dg r (arrOf aG) lo (lo+x)/\q+1<=x/\(∀i,lo+x-(q+1)<=i->i<lo+x->Rk r (arrOf aG) i=Rk r (arrOf aG) (lo+x-1))) ?dstepy ?dfiny ⟨0,rfl,B,rfl,.refl,d1,by lia,λi h1 h2=>by congr 1;lia⟩) ?dposty)
   case dfiny=>
    intro c aG gI
    refine hide λgG hG=>?_
    obtain⟨q,rfl,b1,b2,b3,b4,b5,b6⟩:=gI
    refine hG ?_
    rw[show max (n+1) eC=eC by lia]at b4 b5 b6 ⊢
    exact⟨eC,q,rfl,by lia,bx _,b1,b2,b3,b4,b5,b6⟩
   case dstepy=>
    intro x c aG M9 hxn xB
    refine hide λgG hG=>?_
    obtain⟨q,rfl,b1,b2,b3,b4,b5,b6⟩:=xB
    refine hG ?_
    have hsz:(arrOf aG).size=a₀.size:=b1.size
    try dsimp only
    refine aN (jh C b1 (by lia) (by lia) ?_)
    try dsimp only
    refine aI (λhc=>?_) (λhc=>?_)
    ·have mJ:=of_decide_eq_true hc
     have stp:∀xs:Array Keyed,(∀k,Rk r xs k=Rk r (arrOf aG) k)->Dg r xs lo (lo+(x+1)):=λxs hk i j h1 h2 h3=>by
      rw[hk,hk]
      by_cases hj:j<lo+x
      ·exact b4 i j h1 h2 hj
      ·have vm:j=lo+x:=by lia
       subst vm
       by_cases hi:i=lo+x
       ·subst hi;exact fX _
       ·have:=b4 i (lo+x-1) h1 (by lia) (by lia)
        lia
     refine aI (λhq=>?_) (λhq=>?_)
     ·refine aN (rF (aF ⟨0,rfl,b1.put (kY _ _ _ _),b2,b3.trans (Pre.U1 (by lia) (by lia)),stp _ (cF (by lia) b6),by lia,λi h1 h2=>by congr 1;lia⟩))
     ·exact aF ⟨0,rfl,b1,b2,b3,stp _ (λ_=>rfl),by lia,λi h1 h2=>by congr 1;lia⟩
    ·have mJ:¬(Rk r (arrOf aG) (lo+x)<Rk r (arrOf aG) (lo+x-1)):=λz=>hc (decide_eq_true z)
     refine aN (jh C b1 (by lia) (by lia) ?_)
     try dsimp only
     refine aI (λhd=>?_) (λhd=>?_)
     ·exact aF ⟨x,q,rfl,M9,by lia,b1,b2,b3,b4,b5,b6⟩
     ·have hd':¬(Rk r (arrOf aG) (lo+x-1)<Rk r (arrOf aG) (lo+x)):=λz=>hd (decide_eq_true z)
      have heq:Rk r (arrOf aG) (lo+x)=Rk r (arrOf aG) (lo+x-1):=by lia
      refine aF ⟨q+1,rfl,b1,b2,b3,λi j h1 h2 h3=>?_,by lia,λi h1 h2=>?_⟩
      ·by_cases hj:j<lo+x
       ·exact b4 i j h1 h2 hj
       ·have vm:j=lo+x:=by lia
        subst vm
        by_cases hi:i=lo+x
        ·subst hi;exact fX _
        ·rw[heq];exact b4 i (lo+x-1) h1 (by lia) (by lia)
      ·rw[show lo+(x+1)-1=lo+x by lia]
       by_cases hi:i=lo+x
       ·subst hi;rfl
       ·rw[heq];exact b6 i (by lia) (by lia)
   case dposty=>
    intro c S3 gI
    refine hide λgG hG=>?_
    obtain⟨m,q,rfl,hm1,hm2,b1,b2,b3,b4,b5,b6⟩:=gI
    refine hG ?_
    try dsimp only
    refine aI (λhq=>?_) (λhq=>?_)
    ·refine aN (rF ?_)
     have hsz:(arrOf S3).size=a₀.size:=b1.size
     have B4:=b1.put (kY _ (lo+m-(q+1)) (lo+m) ((lo+m-(lo+m-(q+1))) / 2))
     have e4:Pre lo (arrOf st) (arrOf (setArr S3 (mirror (arrOf S3) (lo+m-(q+1)) (lo+m) ((lo+m-(lo+m-(q+1))) / 2)))):=b3.trans (Pre.U1 (show lo<=lo+m-(q+1) by lia) (show lo+m<=(arrOf S3).size by lia))
     have d4:Dg r (arrOf (setArr S3 (mirror (arrOf S3) (lo+m-(q+1)) (lo+m) ((lo+m-(lo+m-(q+1))) / 2)))) lo (lo+m):=λi j h1 h2 h3=>by
      show Rk r (mirror (arrOf S3) _ _ _) j<=Rk r (mirror (arrOf S3) _ _ _) i
      rw[cF (by lia) b6,cF (by lia) b6]
      exact b4 i j h1 h2 h3
     have p4:pendingOf (setArr S3 (mirror (arrOf S3) (lo+m-(q+1)) (lo+m) ((lo+m-(lo+m-(q+1))) / 2)))=pendingOf st:=b2
     generalize setArr S3 (mirror (arrOf S3) (lo+m-(q+1)) (lo+m) ((lo+m-(lo+m-(q+1))) / 2))=S4 at B4 e4 d4 p4 ⊢
     refine aN (rF ?_)
     have Iv:=B4.size
     have B2:=B4.put (kY _ lo (lo+m) ((lo+m-lo) / 2))
     have e2:Pre lo (arrOf st) (arrOf (setArr S4 (mirror (arrOf S4) lo (lo+m) ((lo+m-lo) / 2)))):=e4.trans (Pre.U1 (bx lo) (show lo+m<=_ by rw[Iv];lia))
     have s2:Sg r (mirror (arrOf S4) lo (lo+m) ((lo+m-lo) / 2)) lo (lo+m):=λi j h1 h2 h3=>by
      rw[fE (by rw[Iv];lia),fE (by rw[Iv];lia),aB (by lia),aB (by lia)]
      exact d4 _ _ (by lia) (by lia) (by lia)
     have p2:pendingOf (setArr S4 (mirror (arrOf S4) lo (lo+m) ((lo+m-lo) / 2)))=pendingOf st:=p4
     have Pg:Sg r (arrOf (setArr S4 (mirror (arrOf S4) lo (lo+m) ((lo+m-lo) / 2)))) lo (lo+m):=s2
     clear s2
     generalize setArr S4 (mirror (arrOf S4) lo (lo+m) ((lo+m-lo) / 2))=S2 at B2 p2 Pg e2 ⊢
     have s2:=Pg
     refine aN (dZ (eZ (a:=m) (I:=λx c aG=>aG=S2/\c=(none,x)/\Sg r (arrOf S2) lo (lo+x))
      (Q:=λc aG=>aG=S2/\∃n,c=(none,n)/\m<=n/\n<=eC/\Sg r (arrOf S2) lo (lo+n)/\(n=eC\/Rk r (arrOf S2) (lo+n)<Rk r (arrOf S2) (lo+n-1))) ?stepya ?finya ⟨rfl,rfl,s2⟩) ?postya)
     case finya=>
      rintro c aG ⟨rfl,rfl,s'⟩
      rw[show max (m) eC=eC by lia]at s' ⊢
      exact⟨rfl,eC,rfl,by lia,bx _,s',.inl rfl⟩
     case stepya=>
      rintro x c aG M9 hxn ⟨e0,rfl,s'⟩
      replace e0:=e0.symm;subst e0
      try dsimp only
      refine aN (jh C B2 (by lia) (by lia) ?_)
      try dsimp only
      refine aI (λhc=>?_) (λhc=>?_)
      ·exact aF ⟨rfl,x,rfl,M9,by lia,s',.inr (of_decide_eq_true hc)⟩
      ·have mJ:=λz=>hc (decide_eq_true z)
       refine aF ⟨rfl,rfl,λi j h1 h2 h3=>?_⟩
       by_cases hj:j<lo+x
       ·exact s' i j h1 h2 hj
       ·have vm:j=lo+x:=by lia
        subst vm
        by_cases hi:i=lo+x
        ·subst hi;exact fX _
        ·have:=s' i (lo+x-1) h1 (by lia) (by lia)
         exact vO this (vK.mp mJ)
     case postya=>
      intro c aG gI
      refine hide λgG hG=>?_
      obtain⟨e0,n,rfl,hn0,vC,s',hor⟩:=gI
      refine hG ?_
      replace e0:=e0.symm;subst e0
      try dsimp only
      exact aF (h n _ B2 p2 e2 (by lia) vC s')
    ·refine aN (rF ?_)
     have Iv:=b1.size
     have B2:=b1.put (kY _ lo (lo+m) ((lo+m-lo) / 2))
     have e2:Pre lo (arrOf st) (arrOf (setArr S3 (mirror (arrOf S3) lo (lo+m) ((lo+m-lo) / 2)))):=b3.trans (Pre.U1 (bx lo) (show lo+m<=_ by rw[Iv];lia))
     have s2:Sg r (mirror (arrOf S3) lo (lo+m) ((lo+m-lo) / 2)) lo (lo+m):=λi j h1 h2 h3=>by
      rw[fE (by rw[Iv];lia),fE (by rw[Iv];lia),aB (by lia),aB (by lia)]
      exact b4 _ _ (by lia) (by lia) (by lia)
     have p2:pendingOf (setArr S3 (mirror (arrOf S3) lo (lo+m) ((lo+m-lo) / 2)))=pendingOf st:=b2
     have Pg:Sg r (arrOf (setArr S3 (mirror (arrOf S3) lo (lo+m) ((lo+m-lo) / 2)))) lo (lo+m):=s2
     clear s2
     generalize setArr S3 (mirror (arrOf S3) lo (lo+m) ((lo+m-lo) / 2))=S2 at B2 p2 Pg e2 ⊢
     have s2:=Pg
     refine aN (dZ (eZ (a:=m) (I:=λx c aG=>aG=S2/\c=(none,x)/\Sg r (arrOf S2) lo (lo+x))
      (Q:=λc aG=>aG=S2/\∃n,c=(none,n)/\m<=n/\n<=eC/\Sg r (arrOf S2) lo (lo+n)/\(n=eC\/Rk r (arrOf S2) (lo+n)<Rk r (arrOf S2) (lo+n-1))) ?stepyb ?finyb ⟨rfl,rfl,s2⟩) ?postyb)
     case finyb=>
      rintro c aG ⟨rfl,rfl,s'⟩
      rw[show max (m) eC=eC by lia]at s' ⊢
      exact⟨rfl,eC,rfl,by lia,bx _,s',.inl rfl⟩
     case stepyb=>
      rintro x c aG M9 hxn ⟨e0,rfl,s'⟩
      replace e0:=e0.symm;subst e0
      try dsimp only
      refine aN (jh C B2 (by lia) (by lia) ?_)
      try dsimp only
      refine aI (λhc=>?_) (λhc=>?_)
      ·exact aF ⟨rfl,x,rfl,M9,by lia,s',.inr (of_decide_eq_true hc)⟩
      ·have mJ:=λz=>hc (decide_eq_true z)
       refine aF ⟨rfl,rfl,λi j h1 h2 h3=>?_⟩
       by_cases hj:j<lo+x
       ·exact s' i j h1 h2 hj
       ·have vm:j=lo+x:=by lia
        subst vm
        by_cases hi:i=lo+x
        ·subst hi;exact fX _
        ·have:=s' i (lo+x-1) h1 (by lia) (by lia)
         exact vO this (vK.mp mJ)
     case postyb=>
      intro c aG gI
      refine hide λgG hG=>?_
      obtain⟨e0,n,rfl,hn0,vC,s',hor⟩:=gI
      refine hG ?_
      replace e0:=e0.symm;subst e0
      try dsimp only
      exact aF (h n _ B2 p2 e2 (by lia) vC s')
end
theorem Fo:∀(l:List Keyed) (n:Nat) (xs:Array Keyed) (sa:Nat),sa+n+l.length<=xs.size->∀k:Nat,
  ((l.zipIdx n).foldl (λa (q:Keyed×Nat)=>a.setIfInBounds (sa+q.2) q.1) xs)[k]?=if sa+n<=k/\k<sa+n+l.length then l[k-(sa+n)]? else xs[k]?
 | [],n,xs,sa,_,k=>by rw[aC (by simp)];rfl
 | z::l,n,xs,sa,h,k=>by
  rw[eJ]at h
  show(List.foldl _ (xs.setIfInBounds (sa+n) z) (l.zipIdx (n+1)))[k]?=_
  rw[Fo l (n+1) _ sa (by rw[Array.size_setIfInBounds];lia) k,eJ]
  by_cases h1:sa+(n+1)<=k/\k<sa+(n+1)+l.length
  ·rw[aB h1,aB (by lia),show k-(sa+n)=(k-(sa+(n+1)))+1 by lia,GL]
  ·rw[aC h1]
   by_cases h2:k=sa+n
   ·subst h2
    rw[aB (by lia),Nat.sub_self,List.getElem?_cons_zero,Array.getElem?_setIfInBounds_self_of_lt (by lia)]
   ·rw[aC (by lia),Array.getElem?_setIfInBounds_ne (by lia)]
theorem RB(R:Array Keyed)(xs:Array Keyed)(sa:Nat):(R.toList.zipIdx.foldl (λa (x:Keyed×Nat)=>match x with | (p,j)=>a.setIfInBounds (sa+j) p) xs)=(R.toList.zipIdx.foldl (λa (q:Keyed×Nat)=>a.setIfInBounds (sa+q.2) q.1) xs):=rfl
section
variable {r:Keyed->Int}{xs ys:Array Keyed}
theorem Sg.congr{lo hi:Nat}(h:Sg r xs lo hi)(e:∀k,lo<=k->k<hi->ys[k]?=xs[k]?):Sg r ys lo hi:=λi j h1 h2 h3=>by
 rw[Rk.congr (e i h1 (by lia)),Rk.congr (e j (by lia) h3)];exact h i j h1 h2 h3
theorem JK{lo hi:Nat}(h:Sg r xs lo hi)(hh:hi<=xs.size):jx r (xs.extract lo hi).toList:=by
 refine yJ.mpr λi j Vo Vl Vn=>?_
 have s1:(xs.extract lo hi).toList.length=hi-lo:=by rw[di,Gk];lia
 rw[s1]at Vo Vl
 have:=h (lo+i) (lo+j) (by lia) (by lia) (by lia)
 rw[Rk.eq (by lia),Rk.eq (by lia)]at this
 simpa using this
theorem U4{L:List Keyed}(h:jx r L){u:Nat}(e:∀k,k<L.length->ys[u+k]?=L[k]?):Sg r ys u (u+L.length):=λi j h1 h2 h3=>by
 have ei:=e (i-u) (by lia)
 have ej:=e (j-u) (by lia)
 rw[show u+(i-u)=i by lia]at ei
 rw[show u+(j-u)=j by lia]at ej
 have Vo:i-u<L.length:=by lia
 have Vl:j-u<L.length:=by lia
 unfold Rk
 rw[ei,ej,bJ Vo,bJ Vl]
 rcases Nat.lt_or_eq_of_le h2 with z | z
 ·exact(yJ.mp h) (i-u) (j-u) Vo Vl (by lia)
 ·subst z;exact fX _
def dB(r:Keyed->Int)(xs:Array Keyed):Nat->List (Nat×Nat×Nat)->Nat->Prop
 | lo,[],hi=>lo=hi
 | lo,p::ps,hi=>p.1=lo/\1<=p.2.1/\Sg r xs lo (lo+p.2.1)/\dB r xs (lo+p.2.1) ps hi
theorem dB.le:∀{lo:Nat} {ps:List (Nat×Nat×Nat)} {hi:Nat},dB r xs lo ps hi->lo+ps.length<=hi
 | lo,[],hi,h=>by have:lo=hi:=h;simp;lia
 | lo,p::ps,hi,⟨h1,h2,_,h4⟩=>by have:=h4.le;rw[eJ];lia
theorem dB.congr:∀{lo:Nat} {ps:List (Nat×Nat×Nat)} {hi:Nat},dB r xs lo ps hi->(∀k,lo<=k->k<hi->ys[k]?=xs[k]?)->dB r ys lo ps hi
 | lo,[],hi,h,_=>h
 | lo,p::ps,hi,⟨h1,h2,h3,h4⟩,e=>⟨h1,h2,h3.congr λk a b=>e k a (by have:=h4.le;lia),h4.congr λk a b=>e k (by lia) b⟩
theorem dB.app:∀{lo:Nat} {ps qs:List (Nat×Nat×Nat)} {hi:Nat},dB r xs lo (ps++qs) hi↔∃m,dB r xs lo ps m/\dB r xs m qs hi
 | lo,[],qs,hi=>⟨λh=>⟨lo,rfl,h⟩,λ⟨m,h1,h2⟩=>by have:lo=m:=h1;subst this;exact h2⟩
 | lo,p::ps,qs,hi=>⟨λ⟨h1,h2,h3,h4⟩=>by
   obtain⟨m,a,b⟩:=dB.app.mp h4
   exact⟨m,⟨h1,h2,h3,a⟩,b⟩,λ⟨m,⟨h1,h2,h3,a⟩,b⟩=>⟨h1,h2,h3,dB.app.mpr ⟨m,a,b⟩⟩⟩
end
theorem Qe{xs ys M:List Keyed}{u v:Nat}(huv:u<=v)(hM:M.Perm ((xs.drop u).take (v-u)))(e:ys=xs.take u++M++xs.drop v):ys.Perm xs:=by
 have e2:xs=xs.take u++(xs.drop u).take (v-u)++xs.drop v:=by
  have h1:=(v9 u xs).symm
  have h2:=(v9 (v-u) (xs.drop u)).symm
  rw[List.drop_drop,show u+(v-u)=v by lia]at h2
  rw[iK,<-h2];exact h1
 rw[e]
 conv=>rhs;rw[e2]
 exact GF _ (Gx _ hM)
section
variable {prog:Program}{w:World}{A:Around}{E:Value->Shared->Prop}{s:Shared}{κ:SortKind}{r:Keyed->Int}{a₀:Array Keyed}
theorem Ng{α:Type}(pre post:List α)(x y z:α):((pre++x::y::post).set pre.length z).eraseIdx (pre.length+1)=pre++z::post:=by
 rw[List.set_append_right _ _ (bx _),Nat.sub_self,List.set_cons_zero,List.eraseIdx_append_of_length_le (by lia)]
 simp
theorem Pa(C:NK prog w A s κ r a₀){st:SortSt}{pre post:List (Nat×Nat×Nat)}{p q:Nat×Nat×Nat}{hi:Nat}{Q:Bool->SortSt->Prop}(B:SB a₀ κ st)(hp:(pendingOf st).toList=pre++p::q::post)(sg:dB r (arrOf st) 0 (pre++p::q::post) hi)(hh:hi<=a₀.size)
  (h:∀bD,SB a₀ κ bD->(pendingOf bD).toList=pre++(p.1,p.2.1+q.2.1,p.2.2)::post->dB r (arrOf bD) 0 (pre++(p.1,p.2.1+q.2.1,p.2.2)::post) hi->(∀k,hi<=k->(arrOf bD)[k]?=(arrOf st)[k]?)->Q true bD):wpS (model prog w) A E s (mergeAt' pre.length) Q st:=by
 refine hide λgG hG=>?_
 obtain⟨sa,na,pw⟩:=p
 obtain⟨sb,nb,pw2⟩:=q
 obtain⟨m,sg1,e1,g1,g2,e2,g3,g4,sg2⟩:=dB.app.mp sg
 refine hG ?_
 dsimp only at e1 g1 g2 e2 g3 g4 sg2 h
 subst e1 e2
 have hm:=sg2.le
 have hsz:=B.size
 have hU:∀z∈arrOf st,z∈a₀:=λz hz=>B.mem hz
 have sg0:∀ys:Array Keyed,(∀k,k<sa->ys[k]?=(arrOf st)[k]?)->(∀k,sa+na+nb<=k->ys[k]?=(arrOf st)[k]?)->Sg r ys sa (sa+na+nb)->dB r ys 0 (pre++(sa,na+nb,pw)::post) hi:=λys k1 k2 k3=>
  dB.app.mpr ⟨sa,sg1.congr λk _ b=>k1 k b,rfl,by show 1<=na+nb;lia,by rw[<-Nat.add_assoc];exact k3,by
   show dB r ys (sa+(na+nb)) post hi
   rw[<-Nat.add_assoc];exact sg2.congr λk a _=>k2 k a⟩
 have x1:(pendingOf st)[pre.length]?=some (sa,na,pw):=by rw[<-jH,hp];simp
 have x2:(pendingOf st)[pre.length+1]?=some (sa+na,nb,pw2):=by rw[<-jH,hp,jI (by lia)];simp
 rw[YT]
 refine aN (iB ?_)
 rw[x1,x2]
 dsimp only
 have pe:(((pendingOf st).setIfInBounds pre.length (sa,na+nb,pw)).eraseIdxIfInBounds (pre.length+1)).toList=pre++(sa,na+nb,pw)::post:=by
  have hl:pre.length+1<(pendingOf st).size:=by rw[<-di,hp];simp
  rw[Array.eraseIdxIfInBounds,dif_pos (by rw[Array.size_setIfInBounds];exact hl),Array.toList_eraseIdx,Array.toList_setIfInBounds,hp]
  exact Ng pre post _ _ _
 have aCg:∀{Q':PUnit->SortSt->Prop} {v st0:SortSt},Q' ⟨⟩ v->wpS (model prog w) A E s (set v:StateT SortSt Sem PUnit) Q' st0:=λ{Q' v st0} hq=>by
  unfold wpS;rw[StateT.run_set];exact aK ⟨rfl,hq⟩
 refine aN (aCg ?_)
 have B1:SB a₀ κ (setPending st (((pendingOf st).setIfInBounds pre.length (sa,na+nb,pw)).eraseIdxIfInBounds (pre.length+1))):=⟨B.perm,B.kind,B.ok⟩
 have q1:(pendingOf (setPending st (((pendingOf st).setIfInBounds pre.length (sa,na+nb,pw)).eraseIdxIfInBounds (pre.length+1)))).toList=pre++(sa,na+nb,pw)::post:=pe
 have q2:arrOf (setPending st (((pendingOf st).setIfInBounds pre.length (sa,na+nb,pw)).eraseIdxIfInBounds (pre.length+1)))=arrOf st:=rfl
 generalize setPending st (((pendingOf st).setIfInBounds pre.length (sa,na+nb,pw)).eraseIdxIfInBounds (pre.length+1))=S1 at B1 q1 q2 ⊢
 have aCk:∀i j (h1:i<=j) (h2:sa+j<(arrOf st).size),j<na->r ((arrOf st)[sa+i]'(by lia))<=r (arrOf st)[sa+j]:=λi j h1 h2 h3=>by
  have:=g2 (sa+i) (sa+j) (by lia) (by lia) (by lia)
  rwa [Rk.eq (by lia),Rk.eq h2]at this
 have aCj:∀i j (h1:i<=j) (h2:sa+na+j<(arrOf st).size),j<nb->r ((arrOf st)[sa+na+i]'(by lia))<=r (arrOf st)[sa+na+j]:=λi j h1 h2 h3=>by
  have:=g4 (sa+na+i) (sa+na+j) (by lia) (by lia) (by lia)
  rwa [Rk.eq (by lia),Rk.eq h2]at this
 have W':sa+na<(arrOf st).size:=by lia
 refine aN (df W' ?_)
 refine aN (zb C (by lia) (by lia) hU (hU _ (ig _)) B1.kind aCk λk k1 k2 k3=>?_)
 dsimp only
 have k2':∀i,sa<=i->i<sa+k->Rk r (arrOf st) i<=Rk r (arrOf st) (sa+na):=λi h1 h2=>by
  have:=k2 (i-sa) (by lia) (by lia)
  rw[Rk.eq (by lia),Rk.eq W']
  have e:sa+(i-sa)=i:=by lia
  simpa [isA,e]using this
 have k3':∀i,sa+k<=i->i<sa+na->Rk r (arrOf st) (sa+na)<Rk r (arrOf st) i:=λi h1 h2=>by
  have:=k3 (i-sa) (by lia) (by lia) (by lia)
  rw[Rk.eq W',Rk.eq (by lia)]
  have e:sa+(i-sa)=i:=by lia
  simpa [isA,e]using this
 refine aI (λhz=>?_) (λhz=>?_)
 ·have Iq:na-k=0:=by simpa using hz
  refine aF (h S1 B1 q1 (sg0 _ (λk _=>by rw[q2]) (λk _=>by rw[q2]) ?_) (λk _=>by rw[q2]))
  rw[q2]
  intro i j h1 h2 h3
  by_cases ci:i<sa+na
  ·by_cases cj:j<sa+na
   ·exact g2 i j h1 h2 cj
   ·have a1:=k2' i h1 (by lia)
    have a2:=g4 (sa+na) j (by lia) (by lia) h3
    lia
  ·exact g4 i j (by lia) h2 h3
 have Iq:na-k≠0:=by simpa using hz
 have hla:sa+k+(na-k)-1=sa+na-1:=by lia
 refine aN (df (by lia) ?_)
 refine aN (zb C (by lia) (by lia) hU (hU _ (ig _)) B1.kind aCj λf f1 f2 f3=>?_)
 dsimp only
 have hl0:sa+na-1<(arrOf st).size:=by lia
 have f2':∀i,sa+na<=i->i<sa+na+f->Rk r (arrOf st) i<Rk r (arrOf st) (sa+na-1):=λi h1 h2=>by
  have:=f2 (i-(sa+na)) (by lia) (by lia)
  rw[Rk.eq (by lia),Rk.eq hl0]
  have e:sa+na+(i-(sa+na))=i:=by lia
  simpa [isA,e,hla]using this
 have f3':∀i,sa+na+f<=i->i<sa+na+nb->Rk r (arrOf st) (sa+na-1)<=Rk r (arrOf st) i:=λi h1 h2=>by
  have:=f3 (i-(sa+na)) (by lia) (by lia) (by lia)
  rw[Rk.eq hl0,Rk.eq (by lia)]
  have e:sa+na+(i-(sa+na))=i:=by lia
  simpa [isA,e,hla]using this
 refine aI (λyv=>?_) (λyv=>?_)
 ·have QW:f=0:=by simpa using yv
  refine aF (h S1 B1 q1 (sg0 _ (λk _=>by rw[q2]) (λk _=>by rw[q2]) ?_) (λk _=>by rw[q2]))
  rw[q2]
  intro i j h1 h2 h3
  by_cases ci:i<sa+na
  ·by_cases cj:j<sa+na
   ·exact g2 i j h1 h2 cj
   ·have a1:=g2 i (sa+na-1) h1 (by lia) (by lia)
    have a2:=f3' j (by lia) h3
    lia
  ·exact g4 i j (by lia) h2 h3
 have QW:f≠0:=by simpa using yv
 have zx:((arrOf st).extract (sa+k) (sa+na)).size=na-k:=by rw[Gk];lia
 have zy:((arrOf st).extract (sa+na) (sa+na+f)).size=f:=by rw[Gk];lia
 have ux:∀z∈(arrOf st).extract (sa+k) (sa+na),z∈a₀:=λz hz=>hU z (N7.mp hz |> λ⟨i,hi,e⟩=>by rw[<-e];exact ig _)
 have uy:∀z∈(arrOf st).extract (sa+na) (sa+na+f),z∈a₀:=λz hz=>hU z (N7.mp hz |> λ⟨i,hi,e⟩=>by rw[<-e];exact ig _)
 have sx:jx r ((arrOf st).extract (sa+k) (sa+na)).toList:=JK (λi j h1 h2 h3=>g2 i j (by lia) h2 h3) (by lia)
 have sy:jx r ((arrOf st).extract (sa+na) (sa+na+f)).toList:=JK (λi j h1 h2 h3=>g4 i j (by lia) h2 (by lia)) (by lia)
 have atx:∀i (hi:i<((arrOf st).extract (sa+k) (sa+na)).size),r ((arrOf st).extract (sa+k) (sa+na))[i]=Rk r (arrOf st) (sa+k+i):=λi hi=>by
  rw[Rk.eq (by lia),Array.getElem_extract]
 have aty:∀i (hi:i<((arrOf st).extract (sa+na) (sa+na+f)).size),r ((arrOf st).extract (sa+na) (sa+na+f))[i]=Rk r (arrOf st) (sa+na+i):=λi hi=>by
  rw[Rk.eq (by lia),Array.getElem_extract]
 have key:∀(R:Array Keyed) (g:Nat),Good r ((arrOf st).extract (sa+k) (sa+na)) ((arrOf st).extract (sa+na) (sa+na+f)) R->
   wpS (model prog w) A E s (do
    modify λst=>setArr st (R.toList.zipIdx.foldl (λa (x:Keyed×Nat)=>match x with | (p,j)=>a.setIfInBounds (sa+k+j) p) (arrOf st))
    let z <-get
    pure (failedOf z).isNone) Q (dk S1 g):=λR g ⟨hpR,hsR⟩=>by
  have lR:R.toList.length=na-k+f:=by
   have:=hpR.length_eq
   rw[cS,di,di,di,zx,zy]at this
   rw[di];exact this
  have fs:∀i:Nat,(R.toList.zipIdx.foldl (λa (x:Keyed×Nat)=>match x with | (p,j)=>a.setIfInBounds (sa+k+j) p) (arrOf st))[i]?=if sa+k<=i/\i<sa+na+f then R.toList[i-(sa+k)]? else (arrOf st)[i]?:=λi=>by
   rw[RB,Fo R.toList 0 (arrOf st) (sa+k) (by rw[lR];lia) i,lR]
   by_cases c:sa+k<=i/\i<sa+na+f
   ·rw[aB c,aB (by lia)];simp
   ·rw[aC c,aC (by lia)]
  refine aN (gQ (aN (iB (aF ?_))))
  have eA:arrOf (dk S1 g)=arrOf st:=q2
  rw[eA]
  have B2:SB a₀ κ (setArr (dk S1 g) (R.toList.zipIdx.foldl (λa (x:Keyed×Nat)=>match x with | (p,j)=>a.setIfInBounds (sa+k+j) p) (arrOf st))):=by
   refine⟨?_,B1.kind,B1.ok⟩
   refine Array.Perm.trans ?_ B.perm
   show(R.toList.zipIdx.foldl (λa (x:Keyed×Nat)=>match x with | (p,j)=>a.setIfInBounds (sa+k+j) p) (arrOf st)).Perm (arrOf st)
   refine yK.mpr (Qe (u:=sa+k) (v:=sa+na+f) (by lia) (M:=R.toList) ?_ ?_)
   ·refine hpR.trans ?_
    show(((arrOf st).extract (sa+k) (sa+na)).toList++((arrOf st).extract (sa+na) (sa+na+f)).toList).Perm _
    rw[iq,iq,wm (x:=sa+na+f-(sa+k)) (e:=sa+na-(sa+k)) _ (by lia),List.drop_drop,show sa+k+(sa+na-(sa+k))=sa+na by lia,show sa+na+f-(sa+k)-(sa+na-(sa+k))=sa+na+f-(sa+na) by lia]
   ·refine uK λi=>?_
    rw[jH,fs i]
    have lt1:((arrOf st).toList.take (sa+k)).length=sa+k:=by rw[gL,di];lia
    by_cases c1:i<sa+k
    ·rw[aC (by lia),iK,mh (by lia),List.getElem?_take,aB c1,jH]
    ·by_cases c2:i<sa+na+f
     ·rw[aB (by lia),iK,jI (by lia),lt1,mh (by lia)]
     ·rw[aC (by lia),jI (by rw[cS,lt1,lR];lia),cS,lt1,lR,List.getElem?_drop,jH]
      congr 1
      lia
  have eok:(failedOf (setArr (dk S1 g) (R.toList.zipIdx.foldl (λa (x:Keyed×Nat)=>match x with | (p,j)=>a.setIfInBounds (sa+k+j) p) (arrOf st)))).isNone=true:=by
   have:failedOf S1=none:=B1.ok
   show(failedOf S1).isNone=true
   rw[this];rfl
  rw[eok]
  refine h _ B2 q1 (sg0 _ (λi hi=>by show(R.toList.zipIdx.foldl _ (arrOf st))[i]?=_;rw[fs,aC (by lia)]) (λi hi=>by show(R.toList.zipIdx.foldl _ (arrOf st))[i]?=_;rw[fs,aC (by lia)]) ?_) (λi hi=>by show(R.toList.zipIdx.foldl _ (arrOf st))[i]?=_;rw[fs,aC (by lia)])
  show Sg r (R.toList.zipIdx.foldl (λa (x:Keyed×Nat)=>match x with | (p,j)=>a.setIfInBounds (sa+k+j) p) (arrOf st)) sa (sa+na+nb)
  generalize R.toList.zipIdx.foldl (λa (x:Keyed×Nat)=>match x with | (p,j)=>a.setIfInBounds (sa+k+j) p) (arrOf st)=ys at fs
  have out:∀i,¬(sa+k<=i/\i<sa+na+f)->Rk r ys i=Rk r (arrOf st) i:=λi hi=>Rk.congr (by rw[fs,aC hi])
  have mid:Sg r ys (sa+k) (sa+k+R.toList.length):=U4 hsR λi hi=>by rw[fs,aB (by lia)];congr 1;lia
  rw[lR]at mid
  have src:∀i,sa+k<=i->i<sa+na+f->∃t,sa+k<=t/\t<sa+na+f/\Rk r ys i=Rk r (arrOf st) t:=λi h1 h2=>by
   have hi:i-(sa+k)<R.toList.length:=by lia
   have e:=fs i
   rw[aB ⟨h1,h2⟩,bJ hi]at e
   have hm:=hpR.mem_iff.mp (lZ hi)
   have e3:Rk r ys i=r R.toList[i-(sa+k)]:=by unfold Rk;rw[e]
   rcases cv.mp hm with hm | hm
   ·obtain⟨t,ht,et⟩:=vE.mp hm
    rw[di]at ht
    have et':((arrOf st).extract (sa+k) (sa+na))[t]=R.toList[i-(sa+k)]:=by simpa using et
    exact⟨sa+k+t,by lia,by lia,by rw[e3,<-et',atx t ht]⟩
   ·obtain⟨t,ht,et⟩:=vE.mp hm
    rw[di]at ht
    have et':((arrOf st).extract (sa+na) (sa+na+f))[t]=R.toList[i-(sa+k)]:=by simpa using et
    exact⟨sa+na+t,by lia,by lia,by rw[e3,<-et',aty t ht]⟩
  have low:∀i t,sa<=i->i<sa+k->sa+k<=t->t<sa+na+nb->Rk r (arrOf st) i<=Rk r (arrOf st) t:=λi t h1 h2 h3 h4=>by
   by_cases c:t<sa+na
   ·exact g2 i t h1 (by lia) c
   ·have a1:=k2' i h1 h2
    have a2:=g4 (sa+na) t (by lia) (by lia) h4
    lia
  have high:∀t j,sa<=t->t<sa+na+f->sa+na+f<=j->j<sa+na+nb->Rk r (arrOf st) t<=Rk r (arrOf st) j:=λt j h1 h2 h3 h4=>by
   by_cases c:t<sa+na
   ·have a1:=g2 t (sa+na-1) h1 (by lia) (by lia)
    have a2:=f3' j h3 h4
    lia
   ·exact g4 t j (by lia) (by lia) h4
  intro i j h1 h2 h3
  by_cases ci:i<sa+k
  ·rw[out i (by lia)]
   by_cases cj:j<sa+k
   ·rw[out j (by lia)];exact g2 i j h1 h2 (by lia)
   ·by_cases cj2:j<sa+na+f
    ·refine hide λgG hG=>?_
     obtain⟨t,t1,t2,t3⟩:=src j (by lia) cj2
     refine hG ?_
     rw[t3];exact low i t h1 ci t1 (by lia)
    ·rw[out j (by lia)];exact low i j h1 ci (by lia) h3
  ·by_cases ci2:i<sa+na+f
   ·by_cases cj2:j<sa+na+f
    ·exact mid i j (by lia) h2 (by lia)
    ·refine hide λgG hG=>?_
     obtain⟨t,t1,t2,t3⟩:=src i (by lia) ci2
     refine hG ?_
     rw[t3,out j (by lia)];exact high t j (by lia) t2 (by lia) h3
   ·rw[out i (by lia),out j (by lia)];exact g4 i j (by lia) h2 h3
 have h0x:0<((arrOf st).extract (sa+k) (sa+na)).size:=by lia
 have h0y:0<((arrOf st).extract (sa+na) (sa+na+f)).size:=by lia
 have c0:r ((arrOf st).extract (sa+na) (sa+na+f))[0]<r ((arrOf st).extract (sa+k) (sa+na))[0]:=by
  rw[aty 0 h0y,atx 0 h0x];exact k3' _ (by lia) (by lia)
 have cl:∀v∈(arrOf st).extract (sa+na) (sa+na+f),r v<=r (((arrOf st).extract (sa+k) (sa+na))[((arrOf st).extract (sa+k) (sa+na)).size-1]'(by lia)):=λv hv=>by
  obtain⟨i,hi,rfl⟩:=Array.mem_iff_getElem.mp hv
  rw[aty i hi,atx _ (by lia)]
  have:=f2' (sa+na+i) (by lia) (by lia)
  rw[zx,show sa+k+(na-k-1)=sa+na-1 by lia]
  lia
 have cf:∀v∈(arrOf st).extract (sa+k) (sa+na),r ((arrOf st).extract (sa+na) (sa+na+f))[0]<=r v:=λv hv=>by
  obtain⟨i,hi,rfl⟩:=Array.mem_iff_getElem.mp hv
  rw[aty 0 h0y,atx i hi]
  have:=k3' (sa+k+i) (by lia) (by lia)
  simp only[Nat.add_zero]
  lia
 refine aI (λ_=>?_) (λ_=>?_)
 ·refine aN (aAH C B1.kind ux uy sx sy h0x h0y (by lia) cl λR g hR=>?_)
  exact key R g hR
 ·refine aN (aAI C B1.kind ux uy sx sy h0x h0y cf cl λR g hR=>?_)
  exact key R g hR
end
theorem Cz{α:Type}{l:List α}{i:Nat}(h:i+1<l.length):l=l.take i++l[i]::l[i+1]::l.drop (i+2):=by
 rw[<-wa h,<-wa (by omega)]
 exact(v9 i l).symm
theorem CG{α:Type}{l:List α}{i:Nat}(h:i+1<l.length):(l.take i).length=i:=by rw[gL];omega
theorem qp{α β:Type}(f:α->β)(g:α->α)(hg:∀x,f (g x)=f x):∀{l:List α} (i:Nat),(l.modify i g).map f=l.map f
 | [],i=>by cases i <;> rfl
 | x::l,0=>by simp[hg]
 | x::l,i+1=>by simp[qp f g hg (l:=l) i]
theorem dB.pow{r:Keyed->Int}{xs:Array Keyed}:∀{lo:Nat} {ps qs:List (Nat×Nat×Nat)} {hi:Nat},dB r xs lo ps hi->qs.map (λp=>(p.1,p.2.1))=ps.map (λp=>(p.1,p.2.1))->dB r xs lo qs hi
 | lo,[],qs,hi,h,e=>by
  have:qs=[]:=by simpa using e
  rw[this];exact h
 | lo,p::ps,[],hi,h,e=>by simp at e
 | lo,p::ps,q::qs,hi,⟨h1,h2,h3,h4⟩,e=>by
  rw[eF,eF]at e
  injection e with e1 e2
  injection e1 with e3 e4
  exact⟨e3.trans h1,by rw[e4];exact h2,by rw[e4];exact h3,by rw[e4];exact h4.pow e2⟩
section
variable {prog:Program}{w:World}{A:Around}{E:Value->Shared->Prop}{s:Shared}{κ:SortKind}{r:Keyed->Int}{a₀:Array Keyed}
theorem X8(C:NK prog w A s κ r a₀){st:SortSt}{Q:Unit->SortSt->Prop}(B:SB a₀ κ st)(Vh:pendingOf st = #[])(h2:2<=a₀.size)
  (h:∀bD,SB a₀ κ bD->Sg r (arrOf bD) 0 a₀.size->Q () bD):wpS (model prog w) A E s sortRuns' Q st:=by
 rw[sortRuns'_eq]
 refine aN (iB ?_)
 try dsimp only
 rw[B.size]
 generalize minRun' a₀.size a₀.size 0=mr
 refine aN (dZ (eZ (a:=0) (I:=λx c bD=>∃lo,c=(none,lo)/\SB a₀ κ bD/\lo<=a₀.size/\min x a₀.size<=lo/\dB r (arrOf bD) 0 (pendingOf bD).toList lo)
  (Q:=λc bD=>c=(none,a₀.size)/\SB a₀ κ bD/\dB r (arrOf bD) 0 (pendingOf bD).toList a₀.size) ?step ?fin ⟨0,rfl,B,by omega,by omega,by rw[Vh];rfl⟩) ?post)
 case fin=>
  rintro c bD ⟨lo,rfl,b1,b2,b3,b4⟩
  have e:lo=a₀.size:=by omega
  subst e
  exact⟨rfl,b1,b4⟩
 case post=>
  rintro c bD ⟨rfl,b1,b2⟩
  try dsimp only
  refine aN (dZ (eZ (a:=0) (I:=λx c aG=>c=(none,())/\SB a₀ κ aG/\dB r (arrOf aG) 0 (pendingOf aG).toList a₀.size/\(pendingOf aG).size+x<=a₀.size+1)
   (Q:=λc aG=>c=(none,())/\SB a₀ κ aG/\dB r (arrOf aG) 0 (pendingOf aG).toList a₀.size/\(pendingOf aG).size<=1) ?fstep ?ffin ⟨rfl,b1,b2,by have:=b2.le;rw[di]at this;omega⟩) ?fpost)
  case ffin=>
   rintro c aG ⟨hc,d1,d2,d3⟩
   exact⟨hc,d1,d2,by omega⟩
  case fpost=>
   rintro c aG ⟨rfl,d1,d2,d3⟩
   refine aF (h aG d1 ?_)
   rw[<-di]at d3
   revert d2 d3
   generalize (pendingOf aG).toList=ps
   intro d2 d3
   match ps,d2,d3 with
   | [],d2,_=>
    have:0=a₀.size:=d2
    omega
   | [p],⟨e1,e2,e3,e4⟩,_=>
    have e5:0+p.2.1=a₀.size:=e4
    rw[<-e5]
    exact e3
   | _::_::_,_,d3=>simp at d3
  case fstep=>
   rintro x c S4 _ hx ⟨rfl,d1,d2,d3⟩
   refine aN (iB ?_)
   refine aI (λhz=>?_) (λhz=>?_)
   ·exact aF ⟨rfl,d1,d2,hz⟩
   ·generalize hi0:(if (Option.any (λx=>decide (x<((pendingOf S4)[(pendingOf S4).size-2+1]?.elim 0 λx=>x.2.1))) (if (pendingOf S4).size-2 > 0 then Option.map (λx=>x.2.1) (pendingOf S4)[(pendingOf S4).size-2-1]? else none))=true then (pendingOf S4).size-2-1 else (pendingOf S4).size-2)=i0
    have Vo:i0+1<(pendingOf S4).toList.length:=by
     have le:∀(c:Bool) (m:Nat),(if c=true then m-1 else m)<=m:=λc m=>by cases c <;> simp
     have:=le (Option.any (λx=>decide (x<((pendingOf S4)[(pendingOf S4).size-2+1]?.elim 0 λx=>x.2.1))) (if (pendingOf S4).size-2 > 0 then Option.map (λx=>x.2.1) (pendingOf S4)[(pendingOf S4).size-2-1]? else none)) ((pendingOf S4).size-2)
     rw[di]
     rw[hi0]at this
     omega
    have cut:=Cz Vo
    have lt:=CG Vo
    have Xk:=d2
    rw[cut]at Xk
    have run:=Pa (E:=E) C d1 cut Xk (bx _) (Q:=λbb aG=>bb=true/\SB a₀ κ aG/\dB r (arrOf aG) 0 (pendingOf aG).toList a₀.size/\(pendingOf aG).size+(x+1)<=a₀.size+1) λaG b1 b2 b3 b4=>⟨rfl,b1,by rw[b2];exact b3,by
     rw[<-di,b2,cS,eJ,gL,qR]
     rw[<-di]at d3
     omega⟩
    rw[lt]at run
    refine aN (dZ run λbb aG ⟨e,c1,c2,c3⟩=>?_)
    subst e
    exact aF ⟨rfl,c1,c2,c3⟩
 case step=>
  rintro x c bD _ hx ⟨lo,rfl,b1,b2,b3,b4⟩
  try dsimp only
  refine aI (λhz=>?_) (λhz=>?_)
  ·have e:lo=a₀.size:=by omega
   subst e
   exact aF ⟨rfl,b1,b4⟩
  refine aN (TJ C (by omega) (by omega) b1 λn0 S1 B1 p1 e1 hm1 hm2 s1=>?_)
  try dsimp only
  have g1:dB r (arrOf S1) 0 (pendingOf S1).toList lo:=by rw[p1];exact b4.congr λk _ hk=>e1 k hk
  refine aI (λyv=>?_) (λyv=>?_)
  ·refine aN (mR (iC ⟨rfl,?_⟩))
   refine aN (aAJ C (by omega) (by omega) B1 s1 λS2 B2 p2 e2 s2=>?_)
   simp only[Ai,iW,fF]
   have g2:dB r (arrOf S2) 0 (pendingOf S2).toList lo:=by rw[p2];exact g1.congr λk _ hk=>e2 k hk
   have vC:1<=min (a₀.size-lo) mr:=by omega
   have N0:lo+min (a₀.size-lo) mr<=a₀.size:=by omega
   clear yv
   generalize min (a₀.size-lo) mr=n at s2 vC N0 ⊢
   refine aN (iB ?_)
   have psh:∀S5:SortSt,SB a₀ κ S5->dB r (arrOf S5) 0 (pendingOf S5).toList lo->Sg r (arrOf S5) lo (lo+n)->SB a₀ κ (setPending S5 ((pendingOf S5).push (lo,n,0)))/\dB r (arrOf S5) 0 ((pendingOf S5).push (lo,n,0)).toList (lo+n):=λS5 b1 b2 b3=>⟨⟨b1.perm,b1.kind,b1.ok⟩,by
    rw[uI]
    exact dB.app.mpr ⟨lo,b2,rfl,vC,b3,rfl⟩⟩
   cases eb:(pendingOf S2).back? with
   | none=>
    try dsimp only
    obtain⟨c1,c2⟩:=psh S2 B2 g2 s2
    exact aN (gQ (aF ⟨lo+n,rfl,c1,by omega,by omega,c2⟩))
   | some t=>
    obtain⟨s1,n1,pw1⟩:=t
    try dsimp only
    generalize power' a₀.size (2*s1+n1) (2*s1+n1+n1+n) a₀.size=pw
    refine aN (dZ (eZ (I:=λ_ c aG=>c=(none,())/\SB a₀ κ aG/\dB r (arrOf aG) 0 (pendingOf aG).toList lo/\Sg r (arrOf aG) lo (lo+n))
     (Q:=λc aG=>c=(none,())/\SB a₀ κ aG/\dB r (arrOf aG) 0 (pendingOf aG).toList lo/\Sg r (arrOf aG) lo (lo+n)) ?mstepa (λ_ _ z=>z) ⟨rfl,B2,g2,s2⟩) ?mposta)
    case mposta=>
     rintro c S4 ⟨rfl,B4,g4,s4⟩
     try dsimp only
     refine aN (gQ ?_)
     have B5:SB a₀ κ (setPending S4 ((pendingOf S4).modify ((pendingOf S4).size-1) λ(x:Nat×Nat×Nat)=>match x with | (st,len,_)=>(st,len,pw))):=⟨B4.perm,B4.kind,B4.ok⟩
     have g5:dB r (arrOf (setPending S4 ((pendingOf S4).modify ((pendingOf S4).size-1) λ(x:Nat×Nat×Nat)=>match x with | (st,len,_)=>(st,len,pw)))) 0 (pendingOf (setPending S4 ((pendingOf S4).modify ((pendingOf S4).size-1) λ(x:Nat×Nat×Nat)=>match x with | (st,len,_)=>(st,len,pw)))).toList lo:=by
      show dB r (arrOf S4) 0 ((pendingOf S4).modify ((pendingOf S4).size-1) λ(x:Nat×Nat×Nat)=>match x with | (st,len,_)=>(st,len,pw)).toList lo
      rw[Array.toList_modify]
      refine g4.pow (qp _ _ ?_ _)
      intro x
      rfl
     have s5:Sg r (arrOf (setPending S4 ((pendingOf S4).modify ((pendingOf S4).size-1) λ(x:Nat×Nat×Nat)=>match x with | (st,len,_)=>(st,len,pw)))) lo (lo+n):=s4
     generalize setPending S4 ((pendingOf S4).modify ((pendingOf S4).size-1) λ(x:Nat×Nat×Nat)=>match x with | (st,len,_)=>(st,len,pw))=S5 at B5 g5 s5 ⊢
     obtain⟨c1,c2⟩:=psh S5 B5 g5 s5
     exact aN (gQ (aF ⟨lo+n,rfl,c1,by omega,by omega,c2⟩))
    case mstepa=>
     rintro z c S4 _ _ ⟨rfl,B4,g4,s4⟩
     refine aN (iB ?_)
     by_cases hp:(pendingOf S4).size > 1
     ·have W2:(pendingOf S4).size-2<(pendingOf S4).size:=by omega
      rw[aB hp,dO W2]
      try dsimp only
      refine aI (λhq=>?_) (λhq=>?_)
      ·exact aF ⟨rfl,B4,g4,s4⟩
      ·have hl:(pendingOf S4).size-2+1<(pendingOf S4).toList.length:=by rw[di];omega
       have cut:=Cz hl
       have lt:=CG hl
       have Xk:=g4
       rw[cut]at Xk
       have run:=Pa (E:=E) C B4 cut Xk (by omega) (Q:=λbb aG=>bb=true/\SB a₀ κ aG/\dB r (arrOf aG) 0 (pendingOf aG).toList lo/\Sg r (arrOf aG) lo (lo+n)) λaG b1 b2 b3 b4=>⟨rfl,b1,by rw[b2];exact b3,s4.congr λk h1 _=>b4 k h1⟩
       rw[lt]at run
       refine aN (dZ run λbb aG ⟨e,b1,b2,b3⟩=>?_)
       subst e
       exact aF ⟨rfl,b1,b2,b3⟩
     ·rw[aC hp]
      exact aF ⟨rfl,B4,g4,s4⟩
  ·have B2:=B1
   have g2:=g1
   have s2:=s1
   have vC:=hm1
   have N0:lo+n0<=a₀.size:=by omega
   clear yv hm1 hm2 s1 B1 g1 p1 e1
   revert S1
   intro S2 B2 g2 s2
   generalize n0=n at s2 vC N0 ⊢
   refine aN (iB ?_)
   have psh:∀S5:SortSt,SB a₀ κ S5->dB r (arrOf S5) 0 (pendingOf S5).toList lo->Sg r (arrOf S5) lo (lo+n)->SB a₀ κ (setPending S5 ((pendingOf S5).push (lo,n,0)))/\dB r (arrOf S5) 0 ((pendingOf S5).push (lo,n,0)).toList (lo+n):=λS5 b1 b2 b3=>⟨⟨b1.perm,b1.kind,b1.ok⟩,by
    rw[uI]
    exact dB.app.mpr ⟨lo,b2,rfl,vC,b3,rfl⟩⟩
   cases eb:(pendingOf S2).back? with
   | none=>
    try dsimp only
    obtain⟨c1,c2⟩:=psh S2 B2 g2 s2
    exact aN (gQ (aF ⟨lo+n,rfl,c1,by omega,by omega,c2⟩))
   | some t=>
    obtain⟨s1,n1,pw1⟩:=t
    try dsimp only
    generalize power' a₀.size (2*s1+n1) (2*s1+n1+n1+n) a₀.size=pw
    refine aN (dZ (eZ (I:=λ_ c aG=>c=(none,())/\SB a₀ κ aG/\dB r (arrOf aG) 0 (pendingOf aG).toList lo/\Sg r (arrOf aG) lo (lo+n))
     (Q:=λc aG=>c=(none,())/\SB a₀ κ aG/\dB r (arrOf aG) 0 (pendingOf aG).toList lo/\Sg r (arrOf aG) lo (lo+n)) ?mstepb (λ_ _ z=>z) ⟨rfl,B2,g2,s2⟩) ?mpostb)
    case mpostb=>
     rintro c S4 ⟨rfl,B4,g4,s4⟩
     try dsimp only
     refine aN (gQ ?_)
     have B5:SB a₀ κ (setPending S4 ((pendingOf S4).modify ((pendingOf S4).size-1) λ(x:Nat×Nat×Nat)=>match x with | (st,len,_)=>(st,len,pw))):=⟨B4.perm,B4.kind,B4.ok⟩
     have g5:dB r (arrOf (setPending S4 ((pendingOf S4).modify ((pendingOf S4).size-1) λ(x:Nat×Nat×Nat)=>match x with | (st,len,_)=>(st,len,pw)))) 0 (pendingOf (setPending S4 ((pendingOf S4).modify ((pendingOf S4).size-1) λ(x:Nat×Nat×Nat)=>match x with | (st,len,_)=>(st,len,pw)))).toList lo:=by
      show dB r (arrOf S4) 0 ((pendingOf S4).modify ((pendingOf S4).size-1) λ(x:Nat×Nat×Nat)=>match x with | (st,len,_)=>(st,len,pw)).toList lo
      rw[Array.toList_modify]
      refine g4.pow (qp _ _ ?_ _)
      intro x
      rfl
     have s5:Sg r (arrOf (setPending S4 ((pendingOf S4).modify ((pendingOf S4).size-1) λ(x:Nat×Nat×Nat)=>match x with | (st,len,_)=>(st,len,pw)))) lo (lo+n):=s4
     generalize setPending S4 ((pendingOf S4).modify ((pendingOf S4).size-1) λ(x:Nat×Nat×Nat)=>match x with | (st,len,_)=>(st,len,pw))=S5 at B5 g5 s5 ⊢
     obtain⟨c1,c2⟩:=psh S5 B5 g5 s5
     exact aN (gQ (aF ⟨lo+n,rfl,c1,by omega,by omega,c2⟩))
    case mstepb=>
     rintro z c S4 _ _ ⟨rfl,B4,g4,s4⟩
     refine aN (iB ?_)
     by_cases hp:(pendingOf S4).size > 1
     ·have W2:(pendingOf S4).size-2<(pendingOf S4).size:=by omega
      rw[aB hp,dO W2]
      try dsimp only
      refine aI (λhq=>?_) (λhq=>?_)
      ·exact aF ⟨rfl,B4,g4,s4⟩
      ·have hl:(pendingOf S4).size-2+1<(pendingOf S4).toList.length:=by rw[di];omega
       have cut:=Cz hl
       have lt:=CG hl
       have Xk:=g4
       rw[cut]at Xk
       have run:=Pa (E:=E) C B4 cut Xk (by omega) (Q:=λbb aG=>bb=true/\SB a₀ κ aG/\dB r (arrOf aG) 0 (pendingOf aG).toList lo/\Sg r (arrOf aG) lo (lo+n)) λaG b1 b2 b3 b4=>⟨rfl,b1,by rw[b2];exact b3,s4.congr λk h1 _=>b4 k h1⟩
       rw[lt]at run
       refine aN (dZ run λbb aG ⟨e,b1,b2,b3⟩=>?_)
       subst e
       exact aF ⟨rfl,b1,b2,b3⟩
     ·rw[aC hp]
      exact aF ⟨rfl,B4,g4,s4⟩
end
theorem j5{n:Nat}(h:n<=1000000):n<=sizeLine:=iZ (qT h (by decide))
theorem vw{n:Nat}(h:n<=1000000):n<sizeLine:=qT h (by decide)
theorem filter_lt{l:List Nat}{f g:Nat->Bool}(h:∀x∈l,f x=true->g x=true){y:Nat}(hy:y∈l)(h1:f y=false)(h2:g y=true):(l.filter f).length<(l.filter g).length:=by
 induction l with
 | nil=>cases hy
 | cons x l ih=>
  have le:(l.filter f).length<=(l.filter g).length:=by
   clear ih hy
   induction l with
   | nil=>exact bx _
   | cons z l ih2=>
    have e1:=h z (by simp)
    have ih3:=ih2 λu hu=>h u (by rcases bT.mp hu with r | r <;> simp[r])
    rw[tD,tD]
    cases c1:f z <;> cases c2:g z <;> simp[c1,c2]at e1 ⊢ <;> lia
  rw[tD,tD]
  rcases bT.mp hy with e | e
  ·subst e
   simp[h1,h2];lia
  ·have:=ih (λu hu=>h u (dN _ hu)) e
   have e1:=h x du
   cases c1:f x <;> cases c2:g x <;> simp[c1,c2]at e1 ⊢ <;> lia
theorem Ord.rank{b:Nat->Nat->Bool}{n:Nat}(O:Ord b n):∃ρ:Nat->Int,∀i j,i<n->j<n->(b i j=true↔ρ i<ρ j):=by
 have irr:∀i,i<n->b i i=false:=λi hi=>by
  cases e:b i i with
  | false=>rfl
  | true=>have:=O.asy i i hi hi e;rw[e]at this;cases this
 have up:∀i j,i<n->j<n->b i j=true->(((List.range n).filter (b · i)).length:Int)<((List.range n).filter (b · j)).length:=λi j hi hj e=>by
  have:=filter_lt (l:=List.range n) (f:=(b · i)) (g:=(b · j)) (λk hk e'=>O.tr k i j (pC.mp hk) hi hj e' e) (pC.mpr hi) (irr i hi) e
  lia
 refine⟨λi=>((List.range n).filter (b · i)).length,λi j hi hj=>⟨up i j hi hj,λh=>?_⟩⟩
 by_cases d:i=j
 ·subst d;lia
 ·rcases O.tot i j hi hj d with e | e
  ·exact e
  ·have:=up j i hj hi e
   dsimp only at h
   lia
section
variable {prog:Program}{w:World}{A:Around}{E:Value->Shared->Prop}{s:Shared}{κ:SortKind}
theorem O9{item:Nat->Keyed}{n:Nat}{b:Nat->Nat->Bool}{it:Array Keyed}(inj:∀i j,i<n->j<n->item i=item j->i=j)(O:Ord b n)(hn:2<=n)
  (hc:∀i j (Q:Bool->Shared->Prop),i<n->j<n->Q (b i j) s->wpAny (model prog w) A (keyLt' κ (item i).1 (item j).1) Q (λ_ _=>False) s) (hit:it.toList=(List.range n).map item) :
  wpAny (model prog w) A (sortRuns'.run (SortSt.mk' κ it #[] 7 none)) (λr s3=>s3=s/\∃p,CV p n/\NP b p n/\arrOf r.2=p.map item/\failedOf r.2=none) E s:=by
 obtain⟨ρ,hρ⟩:=O.rank
 obtain⟨g,hg⟩:∃g:Keyed->Nat,∀i,i<n->g (item i)=i:=by
  classical
  refine⟨λz=>if h:∃i,i<n/\item i=z then h.choose else 0,λi hi=>?_⟩
  have h:∃k,k<n/\item k=item i:=⟨i,hi,rfl⟩
  dsimp only
  rw[dif_pos h]
  exact inj _ _ h.choose_spec.1 hi h.choose_spec.2
 have mem:∀z∈it,∃i,i<n/\z=item i:=λz hz=>by
  have Iq:z∈it.toList:=by simpa using hz
  rw[hit]at Iq
  obtain⟨i,hi,e⟩:=fY.mp Iq
  exact⟨i,pC.mp hi,e.symm⟩
 have sz:it.size=n:=by rw[<-di,hit];simp
 have C:NK prog w A s κ (λz=>ρ (g z)) it:=λx y Q hx hy hq=>by
  obtain⟨i,hi,rfl⟩:=mem x hx
  obtain⟨j,hj,rfl⟩:=mem y hy
  refine hc i j Q hi hj ?_
  have e:b i j=decide (ρ (g (item i))<ρ (g (item j))):=by
   rw[mM,gM,hg i hi,hg j hj];exact hρ i j hi hj
  rw[e];exact hq
 have run:=X8 (E:=E) (st:=SortSt.mk' κ it #[] 7 none) (Q:=λ_ bD=>∃p,CV p n/\NP b p n/\arrOf bD=p.map item/\failedOf bD=none) C ⟨Array.Perm.refl _,rfl,rfl⟩ rfl (by rw[sz];exact hn) λbD B sg=>?_
 ·exact run
 have hl:(arrOf bD).toList.Perm ((List.range n).map item):=by rw[<-hit];exact yK.mp B.perm
 have hb:(arrOf bD).toList.map (λz=>item (g z))=(arrOf bD).toList:=by
  have:∀z∈(arrOf bD).toList,item (g z)=z:=λz hz=>by
   obtain⟨i,hi,rfl⟩:=mem z (B.mem (by simpa using hz))
   rw[hg i hi]
  rw[qU this,List.map_id']
 have hp:((arrOf bD).toList.map g).Perm (List.range n):=by
  have:=hl.map g
  rw[gJ]at this
  have e:(List.range n).map (g ∘ item)=List.range n:=by
   have:=qU (l:=List.range n) (f:=g ∘ item) (g:=id) λi hi=>hg i (pC.mp hi)
   rw[this,vM]
  rwa [e]at this
 refine⟨((arrOf bD).map g),⟨yK.mpr (by rw[pG,pL];exact hp)⟩,λi hi=>?_,?_,B.ok⟩
 ·have hs':(arrOf bD).size=n:=by rw[B.size,sz]
  have P:CV ((arrOf bD).map g) n:=⟨yK.mpr (by rw[pG,pL];exact hp)⟩
  have a1:=P.lt (by lia) i
  have a2:=P.lt (by lia) (i+1)
  have at_:∀k,k<n->Rk (λz=>ρ (g z)) (arrOf bD) k=ρ (Ab ((arrOf bD).map g) k):=λk hk=>by
   rw[Rk.eq (by lia)]
   unfold Ab
   rw[jJ,Array.getElem?_map,dO (by lia)]
   rfl
  have h1:=sg i (i+1) (by lia) (by lia) (by lia)
  rw[at_ i (by lia),at_ (i+1) hi]at h1
  rcases O.tot _ _ a1 a2 (P.ne (by lia) hi (by lia)) with e | e
  ·exact e
  ·have:=(hρ _ _ a2 a1).mp e
   lia
 ·apply Array.ext'
  rw[pG,pG,gJ]
  exact hb.symm
end
end L2
end
section
namespace L2
open PySem PySem.Spec PySem.W PyProof.Rows Builtin
def cy(x y:List Int):Bool:=decide (x.length<y.length)||(decide (x.length=y.length)&&HT.lexLt x y)
theorem kG:∀x:List Int,HT.lexLt x x=false
 | []=>rfl
 | a::l=>by
  unfold HT.lexLt
  simp[kG l]
theorem zH:∀{x y:List Int},x.length=y.length->x≠y->HT.lexLt x y=true\/HT.lexLt y x=true
 | [],[],_,h=>absurd rfl h
 | a::l,b::m,hl,h=>by
  unfold HT.lexLt
  by_cases e:a=b
  ·subst e
   have:=zH (x:=l) (y:=m) (by simpa using hl) (λz=>h (by rw[z]))
   simpa using this
  ·simp only[e,fH e,decide_false,Ao,Aj,gM,fF]
   lia
 | [],_::_,hl,_=>by simp at hl
 | _::_,[],hl,_=>by simp at hl
theorem zJ:∀{x y:List Int},HT.lexLt x y=true->HT.lexLt y x=false
 | [],[],h=>by simp[HT.lexLt]at h
 | [],b::m,_=>rfl
 | a::l,[],h=>by simp[HT.lexLt]at h
 | a::l,b::m,h=>by
  unfold HT.lexLt at h ⊢
  by_cases e:a=b
  ·subst e
   simp at h ⊢
   exact zJ h
  ·simp[e,fH e]at h ⊢
   lia
theorem w6:∀{x y z:List Int},HT.lexLt x y=true->HT.lexLt y z=true->HT.lexLt x z=true
 | [],[],_,h,_=>by simp[HT.lexLt]at h
 | [],b::m,[],_,h=>by simp[HT.lexLt]at h
 | [],b::m,c::n,_,_=>rfl
 | a::l,[],_,h,_=>by simp[HT.lexLt]at h
 | a::l,b::m,[],_,h=>by simp[HT.lexLt]at h
 | a::l,b::m,c::n,h1,h2=>by
  unfold HT.lexLt at h1 h2 ⊢
  by_cases e1:a=b
  ·subst e1
   by_cases e2:a=c
   ·subst e2
    simp at h1 h2 ⊢
    exact w6 h1 h2
   ·simp[e2]at h1 h2 ⊢
    lia
  ·by_cases e2:b=c
   ·subst e2
    simp[e1]at h1 h2 ⊢
    lia
   ·by_cases e3:a=c
    ·subst e3
     simp[e1,e2]at h1 h2
     lia
    ·simp[e1,e2,e3]at h1 h2 ⊢
     lia
theorem za{ss:List (List Int)}(nd:ss.Nodup):Ord (λi j=>cy (ss.getD i []) (ss.getD j [])) ss.length where
 tr:=λi j k hi hj hk h1 h2=>by
  unfold cy at *
  simp only[lh,eI,gM]at *
  rcases h1 with h1 | ⟨h1,l1⟩ <;> rcases h2 with h2 | ⟨h2,l2⟩
  ·exact .inl (by lia)
  ·exact .inl (by lia)
  ·exact .inl (by lia)
  ·exact .inr ⟨by lia,w6 l1 l2⟩
 asy:=λi j hi hj h=>by
  unfold cy at *
  simp only[lh,eI,gM]at h
  rcases h with h | ⟨h,l⟩
  ·simp only[Bool.or_eq_false_iff,Bool.and_eq_false_imp,decide_eq_false_iff_not,gM]
   exact⟨by lia,λz=>by lia⟩
  ·simp only[Bool.or_eq_false_iff,Bool.and_eq_false_imp,decide_eq_false_iff_not,gM]
   exact⟨by lia,λ_=>zJ l⟩
 tot:=λi j hi hj d=>by
  have ne:ss.getD i []≠ss.getD j []:=by
   rw[qV,qV,bJ hi,bJ hj]
   exact λe=>d ((vW nd).mp e)
  unfold cy
  simp only[lh,eI,gM]
  rcases Gj (ss.getD i []).length (ss.getD j []).length with h | h | h
  ·exact .inl (.inl h)
  ·rcases zH h ne with z | z
   ·exact .inl (.inr ⟨h,z⟩)
   ·exact .inr (.inr ⟨h.symm,z⟩)
  ·exact .inr (.inl h)
section
variable {P:Program}{w:World}{A:Around}{E:Value->Shared->Prop}{s:Shared}
theorem j8:∀{us:List Value} {ns:List Int},IntsAre us ns->ItemsAre (dH P w) (ns.map Sum.inl) us
 | _,_,.nil=>.nil
 | _,_,.cons n t r=>.cons (by show(n==n)=true;simp) (j8 r)
theorem Y7{ns ms:List Int}:decide ((ns.map Sum.inl:List Key)=ms.map Sum.inl)=decide (ns=ms):=by
 rw[mM,gM,gM]
 refine⟨λe=>?_,λe=>by rw[e]⟩
 exact vZ (λa b h=>sW h) |>.mp e
theorem V5{p q a c:Addr}{lx ly:Int}{t u:Tok}{its Eu:Array Value}{ns ms:List Int}{C:Bool->Shared->Prop}(hu:A.units<cLine)(hp:IsTup s.heap p #[.int lx t,.ref a])(hq:IsTup s.heap q #[.int ly u,.ref c])
  (ha:IsTup s.heap a its) (hc:IsTup s.heap c Eu) (i1:IntsAre its.toList ns) (i2:IntsAre Eu.toList ms) (hx:lx=ns.length) (hy:ly=ms.length) (h:C (cy ns ms) s):wpAny (model P w) A (keyLt' (tuples' true) (.ref p) (.ref q)) C E s:=by
 obtain⟨o1,e1,c1,n1,d1⟩:=id hp
 obtain⟨o2,e2,c2,n2,d2⟩:=id hq
 obtain⟨o3,e3,c3,n3,d3⟩:=id ha
 obtain⟨o4,e4,c4,n4,d4⟩:=id hc
 refine kat_lt e1 d1 e2 d2 ?_
 show KatLex P w A true _ C [(.int lx t,.int ly u),(.ref a,.ref c)] 0 s
 refine kat_cons ((dH P w).eqBool (a:=Sum.inl lx) (b:=Sum.inl ly) (by show(lx==lx)=true;simp) (by show(ly==ly)=true;simp) ?_)
 refine kat_go (λe=>?_) λe=>?_
 ·have el:lx=ly:=sW (of_decide_eq_true e)
  refine kat_yes (kat_cons (wpAny_eqBool_tuple (knd:=dH P w) hu ⟨o3,its,n3,e3,c3,d3,j8 i1⟩ ⟨o4,Eu,n4,e4,c4,d4,j8 i2⟩ ?_))
  rw[Y7]
  refine kat_go (λe'=>kat_yes (kat_nil ?_)) λe'=>kat_no ?_
  ·have:ns=ms:=of_decide_eq_true e'
   subst this
   have z:cy ns ns=false:=by unfold cy;rw[kG];simp
   rw[z]at h
   exact h
  ·refine kat_one _ _ (HT.Ib ha hc i1 i2 hu ?_)
   have z:cy ns ms=HT.lexLt ns ms:=by
    unfold cy
    rw[decide_eq_false (by lia:¬ns.length<ms.length),decide_eq_true (by lia:ns.length=ms.length)]
    simp
   rw[z]at h
   exact h
 ·have el:lx≠ly:=λz=>by rw[z]at e;simp at e
  refine kat_no (oneLt_int ?_)
  have z:cy ns ms=decide (lx<ly):=by
   unfold cy
   rw[decide_eq_false (by lia:¬ns.length=ms.length),Ao,Aj,mM,gM,gM]
   lia
  rw[z]at h
  exact h
end
section
variable {P:Program}{w:World}{H H1:Hp}{h h1 h2:Heap}{e a:Addr}{o:HO}{fs:List Addr}
theorem Kg(x:hX P w H h)(hn:H e=none)(k:∀b u,b≠e->h.get? b=some u->h2.get? b=some u):hX P w H h2:=λa o ea=>
 (x a o ea).stay (λb u hb q=>k b u (λz=>by
  subst z
  rcases hb with rfl | hb
  ·rw[hn]at ea;cases ea
  ·rw[hn]at hb;cases hb) q) (λ_ q=>q) λ_ _ q=>q
theorem Oq(u:Un fs [] H H1 h h1)(he:h.objs.size<=e)(k:∀b u,b≠e->h1.get? b=some u->h2.get? b=some u):Un fs [] H H1 h h2:=
 have ne:∀b ob,h.get? b=some ob->b≠e:=λb ob q=>bH (cT (aU q) he)
 ⟨λb ob q n hb hx=>k _ _ (ne b ob q) (u.keep b ob q n hb hx),λb ob q n hb hx=>let ⟨sl,r⟩:=u.slot b ob q n hb hx;⟨sl,k _ _ (ne b ob q) r⟩,u.free,λb ob q hx=>let ⟨o',r⟩:=u.there b ob q hx;⟨o',k _ _ (ne b ob q) r⟩,u.tups,u.frzs,u.tbls⟩
theorem Vi(x:hX P w H h)(hn:H a=none)(new:dj P w (upd H a o) h a o):hX P w (upd H a o) h:=λb u eb=>by
 by_cases hb:b=a
 ·subst hb;rw[ah]at eb;cases eb;exact new
 ·rw[av hb]at eb
  exact(x b u eb).stay (λ_ _ _ q=>q) (λc q=>by rw[av (aj q hn)];exact q) λc xs q=>by rw[av (aj q hn)];exact q
theorem Xx(u:Un fs [] H H1 h h1)(ha:h.objs.size<=a)(hn:H a=none):Un fs [] H (upd H1 a o) h h1:=
 have ne:∀b ob,h.get? b=some ob->b≠a:=λb ob q=>bH (cT (aU q) ha)
 ⟨u.keep,u.slot,λb ob q n hx=>by rw[av (ne b ob q)];exact u.free b ob q n hx,u.there,λb xs q=>by rw[av (aj q hn)];exact u.tups b xs q,λb ob xs q=>by rw[av (aj q hn)];exact u.frzs b ob xs q,λb ps q=>by rw[av (aj q hn)];exact u.tbls b ps q⟩
end
def y7:Sp:=λvs H Q _=>∃a,vs=[.ref a]/\∃xs,H a=some (.tup xs)/\∀p,H p=none->Q (.ref p) (upd H p (.tup [.int xs.length,.ref a]))
section
variable {X:Cx}{pins:List (Addr×Obj)}{σ:St}{H:Hp}{s:Shared}
structure Dc(X:Cx)(H:Hp)(s:Shared)(D S:Addr)(e1:Nat)(H':Hp)(s':Shared)(kA:Array Value):Prop where
 os:s'.os=s.os
 bare:AllBare s'.gens
 un:Un (o7 X.stack) [] H H' s.heap s'.heap
 bE:hX X.prog X.w H' s'.heap
 same:bN H H'
 nD:H' D=none
 nS:H' S=none
 oD:s'.heap.get? D=some (seqObj "list" #[] e1)
 oS:∃e,s'.heap.get? S=some (seqObj "list" kA e)
theorem Dc.call{D S:Addr}{e1:Nat}{H':Hp}{s':Shared}{kA:Array Value}(I:Inv X pins σ H s)(m:Dc X H s D S e1 H' s' kA)(hD:s.heap.objs.size<=D)(hS:s.heap.objs.size<=S){k:Nat}{f:Addr}{fd:FuncData}{pm:Str}(F:bS X.prog X.w X.K X.mg X.base fN k f fd [pm] y7)(hr:cC k X.A.in1.in1)
  (hb:Binds X.K fd [pm] []) {a:Addr} {xs:List V} (ha:H a=some (.tup xs)) {Q:Value->Shared->Prop} {E:Value->Shared->Prop}
  (q:∀p s2,H' p=none->Dc X H s D S e1 (upd H' p (.tup [.int xs.length,.ref a])) s2 kA->Q (.ref p) s2):wpAny (model X.prog X.w) X.A.in1.in1 (call (.ref f) [.ref a]) Q E s':=by
 have I':Inv X pins σ H' s':=I.call' (ch:=[]) m.os m.un m.bE m.bare (λb z=>absurd z (by simp))
 have nfD:∀b,s.heap.objs.size<=b->b∉o7 X.stack:=λb hb z=>by
  rcases bT.mp (I.tU b z) with z | z
  ·exact absurd (cT I.lt hb) (by rw[z];exact jC _)
  ·exact I.aA3 hb z
 refine j3 (ko (F.run X.A.in1.in1 X.stack s' H' ⟨[.ref a],[]⟩ [.ref a] [.ref a] (λv H2=>∃p,v=.ref p/\H' p=none/\H2=upd H' p (.tup [.int xs.length,.ref a])) (λ_ _ _=>False) hr I'.Nh.in1.in1 (hb s' [.ref a] I'.mL rfl) (.cons rfl .nil) ⟨a,rfl,xs,m.same _ _ ha,λp hp=>⟨p,rfl,hp,rfl⟩⟩) λr s2 hq=>?_)
 cases r with
 | error e=>exact False.elim hq
 | ok fl=>
  cases fl with
  | next=>exact False.elim hq
  | brk=>exact False.elim hq
  | cont=>exact False.elim hq
  | ret u=>
   refine hide λgG hG=>?_
   obtain⟨v,H2,os,bare,un,bE,rv,p,rfl,hp,rfl⟩:=hq
   refine hG ?_
   cases rv
   obtain⟨eS,oS⟩:=m.oS
   exact q p s2 hp ⟨os.trans m.os,bare,m.un.trans un,bE,m.same.trans λb u eb=>by rw[av (aj eb hp)];exact eb,un.free D _ m.oD m.nD (by simp),un.free S _ oS m.nS (by simp),un.keep D _ m.oD m.nD (nfD D hD) (by simp),eS,un.keep S _ oS m.nS (nfD S hS) (by simp)⟩
theorem Dc.push{D S:Addr}{e1:Nat}{H':Hp}{s':Shared}{kA:Array Value}(m:Dc X H s D S e1 H' s' kA)(hS:s.heap.objs.size<=S)(Xg:D≠S)(g:Array Value->Array Value):Dc X H s D S e1 H' { s' with heap:=s'.heap.update S (Obj.mapSeq g) } (g kA):=by
 obtain⟨eS,oS⟩:=m.oS
 have sb:=pJ s'.heap S (Obj.mapSeq g)
 have k:∀b u,b≠S->s'.heap.get? b=some u->(s'.heap.update S (Obj.mapSeq g)).get? b=some u:=λb u nb q=>(sb.2 b nb).trans q
 exact⟨m.os,m.bare,Oq m.un hS k,Kg m.bE m.nS k,m.same,m.nD,m.nS,k _ _ Xg m.oD,_,get?_update_seq oS g⟩
def aAg(H':Hp)(as:List Addr)(ss:List (List Int))(n:Nat)(kA:Array Value):Prop:=kA.size=n/\∀(j:Nat) v,kA[j]?=some v->∃p a ns,v=.ref p/\as[j]?=some a/\ss[j]?=some ns/\H' p=some (.tup [.int (ns.length:Nat),.ref a])
theorem MP{D S:Addr}{e1:Nat}{H0:Hp}{s0:Shared}(I:Inv X pins σ H s)(m:Dc X H s D S e1 H0 s0 #[])(hD:s.heap.objs.size<=D)(hS:s.heap.objs.size<=S)(Xg:D≠S){k:Nat}{f:Addr}{fd:FuncData}{pm:Str}(F:bS X.prog X.w X.K X.mg X.base fN k f fd [pm] y7)(hr:cC k X.A.in1.in1)
  (hb:Binds X.K fd [pm] []) {as:List Addr} {ss:List (List Int)} (ls:as.length=ss.length) (h64:as.length<100000) (hs:∀(i:Nat) a ns,as[i]?=some a->ss[i]?=some ns->H a=some (.tup (List.map V.int ns))) {Q:PUnit->Shared->Prop} {E:Value->Shared->Prop} {body:Value->PUnit->Sem (ForInStep PUnit)}
  (fP:∀a R s1,wpAny (model X.prog X.w) X.A.in1.in1 (call (.ref f) [.ref a]) (λv s2=>wpAny (model X.prog X.w) X.A.in1.in1 (Builtin.List.listUpdate (.ref S) (·.push v)) (λ_ s3=>R (.yield ⟨⟩) s3) E s2) (λ_ _=>False) s1->wpAny (model X.prog X.w) X.A.in1.in1 (body (.ref a) ⟨⟩) R E s1)
  (q:∀H' s' kA,Dc X H s D S e1 H' s' kA->aAg H' as ss as.length kA->Q ⟨⟩ s'):wpAny (model X.prog X.w) X.A.in1.in1 (forIn (as.map Value.ref) PUnit.unit body) Q E s0:=by
 refine ksk_fold (λi s'=>∃H' kA,Dc X H s D S e1 H' s' kA/\aAg H' as ss i kA) (as.map Value.ref) 0 s0 ⟨H0,#[],m,rfl,λj v e=>by simp at e⟩ (λj x s1 hx hJ=>?_) λs' hd=>?_
 ·refine hide λgG hG=>?_
  obtain⟨H',kA,m1,ks,kk⟩:=hJ
  refine hG ?_
  rw[cH]at hx
  cases ea:as[j]? with
  | none=>rw[ea]at hx;cases hx
  | some a=>
   rw[ea]at hx
   cases hx
   have hj:j<as.length:=(dc.mp ea).1
   have es:ss[j]?=some ss[j]:=bJ (by lia)
   refine fP a _ s1 (m1.call I hD hS F hr hb (hs j a _ ea es) λp s2 hp m2=>?_)
   obtain⟨eS,oS⟩:=m2.oS
   have z1:kA.size<=sizeLine:=j5 (by lia)
   have z2:(kA.push (.ref p)).size<=sizeLine:=by rw[Array.size_push];exact j5 (by lia)
   refine listUpdate_at (xs:=kA) oS rfl ⟨rfl,_,kA.push (.ref p),m2.push hS Xg (·.push (.ref p)),by rw[Array.size_push,ks],λi v ev=>?_⟩ z1 (Nat.le_succ_of_le z2)
   by_cases hi:i<kA.size
   ·rw[Array.getElem?_push_lt hi]at ev
    obtain⟨p',a',NR,Ko,e2',e3',e4'⟩:=kk i v (by rw[dO hi];exact ev)
    exact⟨p',a',NR,Ko,e2',e3',by rw[av (aj e4' hp)];exact e4'⟩
   ·have qN:i=kA.size:=by
     have:=(wc.mp ev).1
     rw[Array.size_push]at this
     lia
    subst qN
    rw[Array.getElem?_push_size]at ev
    cases ev
    rw[ks,Nat.zero_add]
    exact⟨p,a,_,rfl,ea,es,by rw[ah,aY]⟩
 ·refine hide λgG hG=>?_
  obtain⟨H',kA,m1,ks,kk⟩:=hd
  refine hG ?_
  rw[aY,Nat.zero_add]at ks
  exact q H' s' kA m1 ⟨ks,kk⟩
end
section
variable {P:Program}{w:World}{H':Hp}{h:Heap}{p a:Addr}
theorem J9{l:Int}(bE:hX P w H' h)(e:H' p=some (.tup [.int l,.ref a])):∃t,IsTup h p #[.int l t,.ref a]:=by
 refine hide λgG hG=>?_
 obtain⟨_,its,r,ht⟩:=bE p _ e
 refine hG ?_
 cases r with
 | cons r1 r2=>
  obtain⟨t,rfl⟩:=r1
  cases r2 with
  | cons r3 r4=>
   cases r4
   cases r3
   exact⟨t,ht⟩
theorem Tw{ns:List Int}(bE:hX P w H' h)(e:H' a=some (.tup (List.map V.int ns))):∃its,IsTup h a its/\IntsAre its.toList ns:=by
 refine hide λgG hG=>?_
 obtain⟨_,its,r,ht⟩:=bE a _ e
 refine hG ?_
 exact⟨_,ht,intsAre_of r⟩
end
section
variable {X:Cx}{pins:List (Addr×Obj)}{σ:St}{H:Hp}{s:Shared}
structure Fin(X:Cx)(H:Hp)(s:Shared)(D:Addr)(H':Hp)(s':Shared)(bs:List Addr):Prop where
 os:s'.os=s.os
 bare:AllBare s'.gens
 un:Un (o7 X.stack) [] H H' s.heap s'.heap
 bE:hX X.prog X.w H' s'.heap
 same:bN H H'
 nD:H' D=none
 oD:∃c,s'.heap.get? D=some (seqObj "list" (bs.map Value.ref).toArray c)
theorem y9{D S:Addr}{e1:Nat}{H':Hp}{s':Shared}{kA:Array Value}{bs:List Addr}{st:SortSt}{Pq:PySem.Fin->Shared->Prop}{E:Value->Shared->Prop}(m:Dc X H s D S e1 H' s' kA)(hD:s.heap.objs.size<=D)(hS:s.heap.objs.size<=S)(Xg:D≠S)(hk:kA.size<=100000)(hb:bs.length<=100000)
  (aEp:(arrOf st).map (·.2)=(bs.map Value.ref).toArray) (hf:failedOf st=none) (q:∀s2,Fin X H s D H' s2 bs->Pq (.done (.ret .none)) s2):wpAny (model X.prog X.w) X.A.in1.in1 (ksk_tail D false e1 (.ref S) st) Pq E s':=by
 obtain⟨eS,oS⟩:=m.oS
 have m1:=m.push hS Xg (λ_=>#[])
 have sb:=pJ (s'.heap.update S (Obj.mapSeq λ_=>(#[]:Array Value))) D (Obj.mapSeq λ_=>(bs.map Value.ref).toArray)
 have k:∀b u,b≠D->(s'.heap.update S (Obj.mapSeq λ_=>(#[]:Array Value))).get? b=some u->((s'.heap.update S (Obj.mapSeq λ_=>(#[]:Array Value))).update D (Obj.mapSeq λ_=>(bs.map Value.ref).toArray)).get? b=some u:=λb u nb q=>(sb.2 b nb).trans q
 unfold ksk_tail
 dsimp only
 refine ay (listUpdate_at (xs:=kA) oS rfl ?_ (j5 (by lia)) (dM _))
 refine ay (wpAny_letGo ?_)
 refine ay (seqEpoch_at m1.oD rfl ?_)
 rw[aEp]
 refine ay (listUpdate_at m1.oD rfl ?_ (dM _) (by
  have z:((bs.map Value.ref).toArray).size<=sizeLine:=by rw[cD,aY];exact j5 (by lia)
  first | exact z | exact Nat.le_succ_of_le z))
 rw[hf]
 simp only[bne_self_eq_false,iW,fF]
 exact aK (q _ ⟨m1.os,m1.bare,Oq m1.un hD k,Kg m1.bE m1.nD k,m1.same,m1.nD,_,get?_update_seq m1.oD λ_=>(bs.map Value.ref).toArray⟩)
theorem xg{h:Heap}:∀{l:List Value},(∀v∈l,∃p a,∃k:Int,∃t,v=.ref p/\IsTup h p #[.int k t,.ref a])->∃fs,KatTups h l fs/\fs.length=l.length/\∀f∈fs,∃(k:Int) (t:Tok),f=.int k t
 | [],_=>⟨[],.nil,rfl,λ_ z=>nomatch z⟩
 | v::l,hv=>by
  refine hide λgG hG=>?_
  obtain⟨p,a,k,t,rfl,o,e,c,n,d⟩:=hv v du
  obtain⟨fs,r1,r2,r3⟩:=xg (l:=l) λu hu=>hv u (dN _ hu)
  refine hG ?_
  exact⟨.int k t::fs,.cons e c d rfl r1,by rw[eJ,eJ,r2],λf hf=>by
   rcases bT.mp hf with rfl | hf
   ·exact⟨k,t,rfl⟩
   ·exact r3 f hf⟩
def setB(ss:List (List Int))(i j:Nat):Bool:=cy (ss.getD i []) (ss.getD j [])
theorem getD_some{α:Type}{l:List α}{i:Nat}{x d:α}(h:l[i]?=some x):l.getD i d=x:=by rw[qV,h];rfl
theorem O4{D S:Addr}{e1:Nat}{H':Hp}{s':Shared}{kA:Array Value}{as:List Addr}{ss:List (List Int)}{Pq:PySem.Fin->Shared->Prop}{E:Value->Shared->Prop}(m:Dc X H s D S e1 H' s' kA)(hu:X.A.in1.in1.units<cLine)(hD:s.heap.objs.size<=D)(hS:s.heap.objs.size<=S)(Xg:D≠S)
  (kk:aAg H' as ss as.length kA) (ls:as.length=ss.length) (h64:as.length<100000) (nd:ss.Nodup) (hs:∀(i:Nat) a ns,as[i]?=some a->ss[i]?=some ns->H a=some (.tup (List.map V.int ns)))
  (q:∀s2 p,CV p as.length->NP (setB ss) p as.length->Fin X H s D H' s2 (p.toList.map λi=>as.getD i 0)->Pq (.done (.ret .none)) s2):wpAny (model X.prog X.w) X.A.in1.in1 (ksk_end D false (as.map Value.ref).toArray e1 (.ref S) kA) Pq E s':=by
 obtain⟨ks,kv⟩:=kk
 have hzs:(kA.zip (as.map Value.ref).toArray).size=as.length:=by rw[Array.size_zip,ks,cD,aY,Ag]
 have itm:∀i,i<as.length->∃p,kas_item (kA.zip (as.map Value.ref).toArray) i=(.ref p,.ref (as.getD i 0))/\∃a ns,as[i]?=some a/\ss[i]?=some ns/\H' p=some (.tup [.int (ns.length:Nat),.ref a]):=λi hi=>by
  have Vo:i<kA.size:=by lia
  obtain⟨p,a,ns,e1,e2,e3,e4⟩:=kv i kA[i] (dO Vo)
  refine⟨p,?_,a,ns,e2,e3,e4⟩
  unfold kas_item
  rw[jJ,dO (by rw[hzs];exact hi),Option.getD_some,Array.getElem_zip,e1,getD_some e2]
  congr 1
  have:(as.map Value.ref)[i]?=some (.ref a):=by rw[cH,e2];rfl
  have h2:=dc.mp this
  simpa using h2.2
 have aAV:∀p:Array Nat,CV p as.length->(p.map (kas_item (kA.zip (as.map Value.ref).toArray))).map (·.2)=((p.toList.map λi=>as.getD i 0).map Value.ref).toArray:=λp hp=>by
  apply Array.ext'
  rw[pG,pG,pL,gJ,gJ]
  refine qU λi hi=>?_
  have jj:i<as.length:=by
   have:=(hp.perm.mem_iff (a:=i)).mp (by simpa using hi)
   simpa using this
  obtain⟨p',e,_⟩:=itm i jj
  show(kas_item _ i).2=_
  rw[e]
  rfl
 have aB6:∀p:Array Nat,CV p as.length->(p.toList.map λi=>as.getD i 0).length<=100000:=λp hp=>by rw[aY,di,hp.size];lia
 unfold ksk_end
 dsimp only
 simp only[iW,fF]
 by_cases h2:(as.map Value.ref).toArray.size<2
 ·rw[aB h2,aB h2]
  refine ay (aK ?_)
  rw[StateT.run_pure]
  refine ay (aK ?_)
  dsimp only
  have hp:CV (List.toArray (List.range as.length)) as.length:=⟨Array.Perm.refl _⟩
  rw[cD,aY]at h2
  refine y9 (st:=SortSt.mk' general' (kA.zip (as.map Value.ref).toArray) #[] 7 none) m hD hS Xg (by lia) (aB6 _ hp) ?_ rfl λs2 f=>q s2 _ hp (λi hi=>by lia) f
  rw[<-aAV _ hp]
  have:(List.toArray (List.range as.length)).map (kas_item (kA.zip (as.map Value.ref).toArray))=kA.zip (as.map Value.ref).toArray:=by
   have:=kas_range (kA.zip (as.map Value.ref).toArray)
   rwa [hzs]at this
  rw[this]
 ·rw[aC h2,aC h2]
  rw[cD,aY]at h2
  have h2':2<=as.length:=by lia
  have tups:∀v∈kA.toList,∃p a,∃k:Int,∃t,v=.ref p/\IsTup s'.heap p #[.int k t,.ref a]:=λv hv=>by
   obtain⟨i,hi,rfl⟩:=vE.mp hv
   obtain⟨p,a,ns,e1,e2,e3,e4⟩:=kv i (kA.toList[i]) (by rw[<-jH];exact bJ hi)
   obtain⟨t,ht⟩:=J9 m.bE e4
   exact⟨p,a,_,t,e1,ht⟩
  refine hide λgG hG=>?_
  obtain⟨fs,kt,lf,hf⟩:=xg tups
  refine hG ?_
  have kind:wpAny (model X.prog X.w) X.A.in1.in1 (keyKind' kA) (λκ s2=>κ=tuples' true/\s2=s') E s':=by
   have:=kat_kind (M:=model X.prog X.w) (A:=X.A.in1.in1) (E:=E) (s:=s') (T:=Value.type "int") (Q:=λκ s2=>κ=tuples' true/\s2=s') kt (by rw[lf,di];lia) (λv hv=>by
    obtain⟨k,t,rfl⟩:=hf v hv
    exact .now) (by decide) ⟨by congr 1,rfl⟩
   rwa [Array.toArray_toList]at this
  refine ay (dE kind (λκ s2 ⟨e1,e2⟩=>?_) λ_ _ x=>x)
  subst e1 e2
  have hn:0<as.length:=by lia
  have obj:∀i,i<as.length->∃p a t its,∃k:Int,(kas_item (kA.zip (as.map Value.ref).toArray) i).1=.ref p/\IsTup s2.heap p #[.int k t,.ref a]/\IsTup s2.heap a its/\IntsAre its.toList (ss.getD i [])/\k=(ss.getD i []).length:=λi hi=>by
   refine hide λgG hG=>?_
   obtain⟨p,e,a,ns,e2,e3,e4⟩:=itm i hi
   obtain⟨t,ht⟩:=J9 m.bE e4
   obtain⟨its,ha,hia⟩:=Tw m.bE (m.same _ _ (hs i a ns e2 e3))
   refine hG ?_
   exact⟨p,a,t,its,_,by rw[e],ht,ha,by rw[getD_some e3];exact hia,by rw[getD_some e3]⟩
  have ssD:∀i,i<as.length->ss[i]?=some (ss.getD i []):=λi hi=>by
   rw[qV,bJ (by lia)];rfl
  have inj:∀i j,i<as.length->j<as.length->kas_item (kA.zip (as.map Value.ref).toArray) i=kas_item (kA.zip (as.map Value.ref).toArray) j->i=j:=λi j hi hj e=>by
   refine hide λgG hG=>?_
   obtain⟨p,e1,a,ns,f1,f2,_⟩:=itm i hi
   obtain⟨p',Ko,a',NR,f1',f2',_⟩:=itm j hj
   refine hG ?_
   rw[e1,Ko]at e
   injection e with _ e2
   injection e2 with e2
   rw[getD_some f1,getD_some f1']at e2
   subst e2
   have g1:=hs i a ns f1 f2
   have g2:=hs j a NR f1' f2'
   rw[g1]at g2
   have e3:ns=NR:=by
    injection g2 with g2
    injection g2 with g2
    exact(vZ λ_ _ h=>V.int.inj h).mp g2
   subst e3
   have h1:=(dc.mp f2)
   have h2:=(dc.mp f2')
   exact(vW nd).mp (h1.2.trans h2.2.symm)
  have run:=O9 (prog:=X.prog) (w:=X.w) (A:=X.A.in1.in1) (E:=E) (κ:=tuples' true) (item:=kas_item (kA.zip (as.map Value.ref).toArray)) (n:=as.length) (b:=setB ss) (s:=s2) (it:=kA.zip (as.map Value.ref).toArray) inj
   (by have:=za nd;rw[<-ls]at this;exact this) h2' (λi j C hi hj hC=>by
    refine hide λgG hG=>?_
    obtain⟨p,a,t,its,k,e1,t1,t2,t3,t4⟩:=obj i hi
    obtain⟨p',a',t',its',k',Ko,t1',t2',t3',t4'⟩:=obj j hj
    refine hG ?_
    rw[e1,Ko]
    exact V5 hu t1 t1' t2 t2' t3 t3' t4 t4' hC) (by
    have:=kas_range (kA.zip (as.map Value.ref).toArray)
    rw[hzs]at this
    have e:=fJ Array.toList this
    rw[pG,pL]at e
    exact e.symm)
  refine ay (dE run (λr s3 ⟨e,p,hp,ha,e1,e2⟩=>?_) λ_ _ x=>x)
  obtain⟨⟨⟩,bD⟩:=r
  subst e
  dsimp only
  exact y9 m hD hS Xg (by lia) (aB6 _ hp) (by rw[e1];exact aAV p hp) e2 λs4 f=>q s4 p hp ha f
end
theorem Dm:∀l:List Addr,Vals (List.map V.ref l) (List.map Value.ref l)
 | []=>.nil
 | a::l=>.cons rfl (Dm l)
section
variable {X:Cx}{pins:List (Addr×Obj)}{σ:St}{H:Hp}{s:Shared}
theorem Hh{k:Nat}{f:Addr}{fd:FuncData}{pm:Str}{x:Value}{as:List Addr}{ss:List (List Int)}{Q:VK}(I:Inv X pins σ H s)(F:bS X.prog X.w X.K X.mg X.base fN k f fd [pm] y7)(hr:cC k X.A.in1.in1)(hb:Binds X.K fd [pm] [])
  (ls:as.length=ss.length) (h64:as.length<100000) (nd:ss.Nodup) (hs:∀(i:Nat) a ns,as[i]?=some a->ss[i]?=some ns->H a=some (.tup (List.map V.int ns)))
  (hc:∀(Q':List Value->Shared->Prop),(∀s',(∀b o,s.heap.get? b=some o->s'.heap.get? b=some o)->s.heap.objs.size<=s'.heap.objs.size->s'.gens=s.gens->s'.os=s.os->Q' (as.map Value.ref) s')->wpAny (model X.prog X.w) X.A.in1 (collect x) Q' X.xe s)
  (q:∀D H' p,bN H H'->H D=none->CV p as.length->NP (setB ss) p as.length->H' D=some (.lst (List.map V.ref (p.toList.map λi=>as.getD i 0)))->Q (.ref D) H') :
  wpAny (model X.prog X.w) X.A (PySem.call (.builtin "sorted") [x] [(Str.ofString "key",.ref f)]) (EP X pins σ Q) X.xe s:=by
 refine call_function_entry_kw kind_sorted plain_sorted entry_sorted (ksk_s1 _ _) ?_
 unfold Builtin.«sorted»
 refine ay (m:=checkCount "sorted" 1 1 _) (aK ?_)
 refine ay (hc _ λs1 k1 z1 g1 o1=>?_)
 refine ay (wpAny_newList ?_ (by rw[aY];exact j5 (by lia)))
 have Sr:(s1.heap.push (seqObj "list" (as.map Value.ref).toArray 0)).get? s1.heap.objs.size=some (seqObj "list" (as.map Value.ref).toArray 0):=cI _ rfl
 refine ay (jB (wpAny_call_entry_kw slot_list_sort ⟨_,Sr,rfl⟩ entry_list_sort ?body (ksk_l1 _ _)))
 case body=>
  show wpAny (model X.prog X.w) X.A.in1.in1 (Builtin.«list.sort» ⟨[.ref s1.heap.objs.size],[(Str.ofString "key",.ref f)]⟩) _ _ _
  rw[ksk_t1]
  unfold ksk_tree
  have lv:(as.map Value.ref).toArray.size<=sizeLine:=by rw[cD,aY];exact j5 (by lia)
  obtain⟨e1,aBm⟩:∃e1,((s1.heap.push (seqObj "list" (as.map Value.ref).toArray 0)).update s1.heap.objs.size (Obj.mapSeq λ_=>(#[]:Array Value))).get? s1.heap.objs.size=some (seqObj "list" #[] e1):=⟨_,get?_update_seq Sr λ_=>#[]⟩
  have sb:=pJ (s1.heap.push (seqObj "list" (as.map Value.ref).toArray 0)) s1.heap.objs.size (Obj.mapSeq λ_=>(#[]:Array Value))
  have aAD:((s1.heap.push (seqObj "list" (as.map Value.ref).toArray 0)).update s1.heap.objs.size (Obj.mapSeq λ_=>(#[]:Array Value))).objs.size=s1.heap.objs.size+1:=by rw[Heap.size_update,size_push']
  refine ay (listItems_at Sr rfl ?_)
  refine ay (listUpdate_at Sr rfl ?_ lv (dM _))
  refine ay (seqEpoch_at aBm rfl ?_)
  refine ay (wpAny_newTuple ?_ (by rw[pL,aY];exact j5 (by lia)))
  refine ay (wpAny_newList ?_ (dM _))
  refine jB ?_
  have Wu:(((s1.heap.push (seqObj "list" (as.map Value.ref).toArray 0)).update s1.heap.objs.size (Obj.mapSeq λ_=>(#[]:Array Value))).push (seqObj "tuple" (as.map Value.ref).toArray 0)).objs.size=s1.heap.objs.size+2:=by rw[size_push',aAD]
  have keep:∀b o,s.heap.get? b=some o->((((s1.heap.push (seqObj "list" (as.map Value.ref).toArray 0)).update s1.heap.objs.size (Obj.mapSeq λ_=>(#[]:Array Value))).push (seqObj "tuple" (as.map Value.ref).toArray 0)).push (seqObj "list" #[] 0)).get? b=some o:=λb o e=>by
   have lb:b<s1.heap.objs.size:=cT (aU e) z1
   exact bZ _ (bZ _ ((sb.2 b (bH lb)).trans (bZ _ (k1 b o e))))
  have m0:Dc X H s s1.heap.objs.size (s1.heap.objs.size+2) e1 H { s1 with heap:=(((s1.heap.push (seqObj "list" (as.map Value.ref).toArray 0)).update s1.heap.objs.size (Obj.mapSeq λ_=>(#[]:Array Value))).push (seqObj "tuple" (as.map Value.ref).toArray 0)).push (seqObj "list" #[] 0) } #[]:=
   ⟨o1,by show AllBare s1.gens;rw[g1];exact I.bare,Un.kept keep,I.bE.kept keep,bN.refl H,I.bE.fresh z1,I.bE.fresh (by lia),bZ _ (bZ _ aBm),0,by rw[<-Wu];exact cI _ rfl⟩
  unfold ksk_rest
  refine ay (iC ?_)
  rw[<-Array.forIn_toList,pL]
  show wpAny (model X.prog X.w) X.A.in1.in1 _ _ X.xe { s1 with heap:=(((s1.heap.push (seqObj "list" (as.map Value.ref).toArray 0)).update s1.heap.objs.size (Obj.mapSeq λ_=>(#[]:Array Value))).push (seqObj "tuple" (as.map Value.ref).toArray 0)).push (seqObj "list" #[] 0) }
  rw[Wu]
  refine ay (MP I m0 z1 (by lia:s.heap.objs.size<=s1.heap.objs.size+2) (by lia:s1.heap.objs.size≠s1.heap.objs.size+2) F hr hb ls h64 hs (λa R s2 hw=>?_) λH' s' kA m kk=>?_)
  ·refine ay (sX (dE hw (λv s3 h3=>?_) λ_ _ hF=>hF.elim))
   dsimp only
   exact ay (dE h3 (λ_ s4 h4=>aK h4) λ_ _ x=>x)
  ·obtain⟨eS,oS⟩:=m.oS
   refine ay (listItems_at oS rfl ?_)
   refine O4 m hr.iD z1 (by lia:s.heap.objs.size<=s1.heap.objs.size+2) (by lia:s1.heap.objs.size≠s1.heap.objs.size+2) kk ls h64 nd hs λs2 p hp ha fin=>⟨_,rfl,?_⟩
   obtain⟨c,oD⟩:=fin.oD
   have hn:H s1.heap.objs.size=none:=I.bE.fresh z1
   have bl:(List.map V.ref (p.toList.map λi=>as.getD i 0)).length<=sizeLine:=by rw[aY,aY,di,hp.size];exact j5 (by lia)
   have I2:Inv X pins σ (upd H' s1.heap.objs.size (.lst (List.map V.ref (p.toList.map λi=>as.getD i 0)))) s2:=I.call' (ch:=[]) fin.os (Xx fin.un z1 hn) (Vi fin.bE fin.nD ⟨bl,_,c,Dm _,oD⟩) fin.bare (λb z=>absurd z (by simp))
   exact aK ⟨_,rfl,.ref s1.heap.objs.size,_,I2,rfl,q _ _ p (fin.same.trans λb u eb=>by rw[av (aj eb fin.nD)];exact eb) hn hp ha ah⟩
end
def ph(h:Heap)(d:Addr)(es:Array DictEntry)(ep:Nat):Prop:=∃o,h.get? d=some o/\o.ExactDict/\o.data=.dict es ep
section
variable {P:Program}{w:World}{A:Around}{E:Value->Shared->Prop}{s:Shared}{d it:Addr}{es:Array DictEntry}{ep i:Nat}
theorem ph.ty(r:ph s.heap d es ep):s.TypeIs (.ref d) "dict":=let ⟨o,e,c,_⟩:=r;⟨o,e,c.1⟩
theorem ph.on{h h':Heap}(r:ph h d es ep)(k:∀o,h.get? d=some o->h'.get? d=some o):ph h' d es ep:=let ⟨o,e,c⟩:=r;⟨o,k _ e,c⟩
theorem Pp{Q:Value->Shared->Prop}(lo:(d==sysModules)=false)(r:ph s.heap d es ep)(q:Q (.ref s.heap.objs.size) { s with heap:=s.heap.push { cls:=.type "dict_keyiterator",data:=.fields #[.ref d,.int 0 0,.int es.size 0,.int ep 0] } }) :
  wpAny (model P w) A (pyIter (.ref d)) Q E s:=by
 have ty:=r.ty
 refine hide λgG hG=>?_
 obtain⟨o,ho,hc,Vq⟩:=r
 refine hG ?_
 refine wpAny_pyIter_slot ty PySem.F.slot_dict_iter (oU PySem.F.slot_dict_iter ty PySem.F.entry_dict_iter ?_ (PySem.F.args_dict_iter_1 _))
 unfold Builtin.«dict.__iter__»
 refine ay ?_
 unfold Builtin.Dict.dictSlotNone
 refine ay (wpAny_notOrdered_dict ty (aK ?_))
 refine(?_:wpAny (model P w) _ (Builtin.Dict.showsAll d >>= _) _ _ s)
 unfold Builtin.Dict.showsAll
 rw[aC (λz=>by rw[lo]at z;cases z)]
 refine ay (aK (ay (wpAny_dictEntries ho Vq (ay (wpAny_dictEpoch ho Vq ?_)))))
 refine ay (iJ (aK ⟨_,rfl,"dict_keyiterator",_,⟨_,cI _ rfl,rfl⟩,Dj.lookup,?_⟩))
 exact q
theorem Pr{Q:Option Value->Shared->Prop}(ki:s.heap.IsKeyIter it d i es.size ep)(r:ph s.heap d es ep)(hi:i<es.size)
  (q:∀h',h'.IsKeyIter it d (i+1) es.size ep->Heap.SameBut it s.heap h'->Q (some es[i].key) { s with heap:=h' }):wpAny (model P w) A (pyNext (.ref it)) Q E s:=by
 refine hide λgG hG=>?_
 obtain⟨o,ho,hc,hd⟩:=id ki
 obtain⟨od,hod,_,hdd⟩:=id r
 refine hG ?_
 have ty:=ki.typeIs
 unfold pyNext
 refine ay (sX (tJ (name:=Str.ofString "__next__") ty Dj (oU Dj ty Oa ?_ (Ob _))))
 refine ay (aK (ay (ay ?_)))
 first | refine ay (Bi ty (aK (ay (sZ ho hd ?_)))) | refine ay (Bg ty (aK (ay (sZ ho hd ?_))))
 rw[show Builtin.Dict_items.ownsTuple "dict_keyiterator" = false by decide]
 simp only[iW,fF]
 refine(?_:wpAny (model P w) _ (if (Value.ref d==Value.none)=true then _ else _) _ _ s)
 rw[aC (λz=>by cases z)]
 refine ay (aK (ay (wpAny_dictEntries hod hdd ?_)))
 rw[aC (by simp)]
 refine ay (aK (ay (wpAny_dictEpoch hod hdd ?_)))
 rw[aC (by simp)]
 refine aK ?_
 simp only[show ¬((i:Int)<0) from by omega,fF,uJ,dO hi]
 refine ay ?_
 first | refine ay (Bi ty (aK (ay (Gn ty ?_)))) | refine ay (Bg ty (aK (ay (Gn ty ?_))))
 refine(?_:wpAny (model P w) _ (setField (.ref it) 1 (rawInt ((i:Int)+1)) >>= _) _ _ s)
 refine ay (vP ho hd (by simp) ?_)
 have ki':(s.heap.update it (Obj.mapFields (·.setIfInBounds 1 (rawInt ((i:Int)+1))))).IsKeyIter it d (i+1) es.size ep:=by
  refine⟨_,oW _ ho (Gm (vY hd _)),(Obj.cls_mapFields ..).trans hc,?_⟩
  rw[vY hd]
  simp[rawInt]
 refine ay (jB (ay (Gn (s:={ s with heap:=s.heap.update it (Obj.mapFields (·.setIfInBounds 1 (rawInt ((i:Int)+1)))) }) ki'.typeIs ?_)))
 exact aK (aK ⟨_,rfl,aK (q _ ki' (pJ ..))⟩)
theorem TY{Q:Option Value->Shared->Prop}(hh:A.handled=none)(ki:s.heap.IsKeyIter it d i es.size ep)(r:ph s.heap d es ep)(hi:es.size<=i)
  (q:∀h',Heap.ExtBut it s.heap h'->Q none { s with heap:=h' }):wpAny (model P w) A (pyNext (.ref it)) Q E s:=by
 refine hide λgG hG=>?_
 obtain⟨o,ho,hc,hd⟩:=id ki
 obtain⟨od,hod,_,hdd⟩:=id r
 refine hG ?_
 have ty:=ki.typeIs
 unfold pyNext
 refine ay (sX (tJ (name:=Str.ofString "__next__") ty Dj (oU Dj ty Oa ?_ (Ob _))))
 refine ay (aK (ay (ay ?_)))
 first | refine ay (Bi ty (aK (ay (sZ ho hd ?_)))) | refine ay (Bg ty (aK (ay (sZ ho hd ?_))))
 rw[show Builtin.Dict_items.ownsTuple "dict_keyiterator" = false by decide]
 simp only[iW,fF]
 refine(?_:wpAny (model P w) _ (if (Value.ref d==Value.none)=true then _ else _) _ _ s)
 rw[aC (λz=>by cases z)]
 refine ay (aK (ay (wpAny_dictEntries hod hdd ?_)))
 rw[aC (by simp)]
 refine ay (aK (ay (wpAny_dictEpoch hod hdd ?_)))
 rw[aC (by simp)]
 refine aK ?_
 simp only[show ¬((i:Int)<0) from by omega,fF,uJ,GD hi]
 refine ay ?_
 first | refine ay (Bi ty (aK ?_)) | refine ay (Bg ty (aK ?_))
 refine(?_:wpAny (model P w) _ (setField (.ref it) 0 .none >>= _) _ _ s)
 refine ay (vP ho hd (by simp) ?_)
 refine(?_:wpAny (model P w) _ (newExc (.type "StopIteration") [] >>= _) _ _ _)
 refine ay ?_
 simp only[newExc,newTuple]
 refine ay (iJ ?_ (by size_fits))
 refine ay (m:=firstArgMember _ _) (vJ (a:=Value.none)
  (by first | rfl | (simp only[firstArgMember];rfl)) ?_)
 refine iJ ?_ (by size_fits)
 simp only[raiseNew]
 refine ay (wpAny_handled ?_)
 rw[show A.in1.handled=none from hh]
 refine ay (aK (wpAny_throw ?_))
 refine ay (Ap (T:="StopIteration") (b:=true)
  ⟨_,cI _ rfl,rfl⟩ isSubtype_stop ?_)
 exact aK (q _ (((pJ ..).extBut.push _).push _))
theorem LW(hh:A.handled=none)(ne:d≠it):Walks P w A it [it,d] [it] es.size (λj v=>(es[j]?.map λe=>e.key)=some v) (λj h=>h.IsKeyIter it d j es.size ep/\ph h d es ep) where
 sub:=λb hb=>by simp at hb;simp[hb]
 frame:=λ_ _ _ st hk=>⟨st.1.at λo e=>hk it (by simp) o e,st.2.on λo e=>hk d (by simp) o e⟩
 item:=λj s Q E hj st hQ=>Pr st.1 st.2 hj λh' k1 k2=>by
  refine hQ _ h' s.toks (by rw[dO hj];rfl) ⟨k1,st.2.on λo e=>k2.extBut d o ne e⟩ λb o hb e=>?_
  exact k2.extBut b o (λz=>hb (by simp[z])) e
 done:=λs Q E st hQ=>TY hh st.1 st.2 (bx _) λh' k=>by
  refine hQ h' s.toks λb o hb e=>?_
  exact k b o (λz=>hb (by simp[z])) e
 self:=λ_ _ _ _ st hQ=>wpAny_pyIter_keyiter st.1 hQ
theorem TX(lo:(d==sysModules)=false):KdlSrc P w "dict" d d es.size (λj v=>(es[j]?.map λe=>e.key)=some v) (λh=>ph h d es ep) where
 type:=λ_ r=>r.ty
 there:=λ_ ⟨_,e,_⟩=>⟨aU e,aU e⟩
 keep:=λ_ _ r hk=>r.on λo e=>hk d (.inl rfl) o e
 notList:=by decide
 notTuple:=by decide
 hint:=λ_ _ _ _ r hq=>kdl_hint_dict r.ty hq
 iter:=λ_ s hh r=>⟨_,_,(λ_ _ hq=>Pp lo r hq),LW hh (by obtain⟨_,e,_⟩:=r;exact bH (aU e)),⟨⟨_,cI _ rfl,rfl,rfl⟩,r.on λo e=>bZ _ e⟩⟩
end
def aE(H:Hp)(bs:List Addr)(ts:List (List Int)):Prop:=bs.length=ts.length/\∀(i:Nat) b t,bs[i]?=some b->ts[i]?=some t->H b=some (.tup (List.map V.int t))
def PB(x:V)(H:Hp)(Q:VK):Prop:=∃d,x=.ref d/\∃aL ss,H d=some (.dT aL)/\aL.map (·.1)=ss.map (List.map Sum.inl)/\ss.length<100000/\
 ∀D H' bs ts,bN H H'->H D=none->H' D=some (.lst (List.map V.ref bs))->aE H' bs ts->ts.Perm ss->ts.Pairwise (λa b=>cy a b=true)->Q (.ref D) H'
def qc(te:TE):TE:=λσ H Q=>te σ H λx H1=>PB x H1 Q
theorem ny(ns:List Int):List.map kV (List.map Sum.inl ns)=List.map V.int ns:=by rw[gJ];rfl
theorem aAd{ss:List (List Int)}{p:Array Nat}(hp:CV p ss.length)(O:Ord (setB ss) ss.length)(a:NP (setB ss) p ss.length)(h0:0<ss.length):(p.toList.map λi=>ss.getD i []).Pairwise λx y=>cy x y=true:=by
 rw[List.pairwise_map,yJ]
 intro i j hi hj Vn
 have hs:=hp.size
 rw[di]at hi hj
 have:=NP.lt O hp h0 a (bx _) Vn (by lia)
 have e:∀k (hk:k<p.size),Ab p k=p.toList[k]'(by simpa using hk):=λk hk=>by
  unfold Ab
  rw[jJ,dO hk]
  simp
 rw[e i hi,e j hj]at this
 exact this
theorem Uh{α:Type}{l:List α}{p:Array Nat}{d:α}(hp:CV p l.length):(p.toList.map λi=>l.getD i d).Perm l:=by
 have h1:p.toList.Perm (List.range l.length):=by simpa using yK.mp hp.perm
 have h2:=h1.map λi=>l.getD i d
 have e:(List.range l.length).map (λi=>l.getD i d)=l:=by
  apply uK
  intro i
  rw[cH]
  by_cases hi:i<l.length
  ·rw[List.getElem?_range hi,bJ hi]
   simp[qV,bJ hi]
  ·rw[mQ (by simpa using hi),mQ (by lia)]
   rfl
 rwa [e]at h2
theorem rP{α β:Type}{f:α->β}:∀{l:List α},(l.map f).Nodup->l.Nodup
 | [],_=>pD
 | a::l,h=>by
  rw[eF,mO]at h
  exact mO.mpr ⟨λz=>h.1 (v7 z),rP h.2⟩
theorem zB{α β:Type}{F:α->β->Prop}:∀{l:List α} {m:List β},Paired F l m->∀{i:Nat} {b:β},m[i]?=some b->∃a,l[i]?=some a/\F a b
 | _,_,.nil,i,b,h=>by simp at h
 | _,_,.cons (a:=a) r rs,i,b,h=>by
  cases i with
  | zero=>cases h;exact⟨a,rfl,r⟩
  | succ n=>exact zB rs (i:=n) h
section
variable {X:Cx}{k:Nat}{f:Addr}{fd:FuncData}{pm g:Str}{e:Expr}{te:TE}{p kp kpos pos:Pos}
theorem Qi(hg:Gl X g)(hm:X.mg g=some (.ref f))(uc:(g==("__debug__" : Str))=false):PE X (.Name g kp) (tC (.ref f)):=λpins s σ H Q I h=>oz I hg hm ⟨.ref f,H,I,rfl,h⟩ uc
theorem Qg(F:bS X.prog X.w X.K X.mg X.base fN k f fd [pm] y7)(hr:cC (k+2) X.A)(hg:Gl X "sorted")(hm:X.mg "sorted" = none)(hv:bootBuiltins "sorted" = some (.builtin "sorted"))(hgf:Gl X g)(hmf:X.mg g=some (.ref f))(hb:Binds X.K fd [pm] [])(ha:PE X e te)
  (uc:(g==("__debug__" : Str))=false:=by decide) (he:starEach [e] X.env=[(false,eval e X.env)]:=by rfl) :
  PE X (.Call (.Name "sorted" p) [e] [⟨some "key",.Name g kp,kpos⟩] pos) (qc te):=by
 intro pins s σ H Q I h
 refine uL (t7 I hg hm hv ?_)
 refine callWith_kw (cU ((vz ha Hu he) pos pins s σ H (λvs H1=>match vs with | [x]=>PB x H1 Q | _=>False) I h) λus s1 ⟨vs,H1,I1,r1,q1⟩=>?_) (by rw[he];rfl) (by rw[he];rfl)
 match vs,r1,q1 with
 | [x],r1,q1=>
  obtain⟨u,rfl,ru⟩:=vals1 r1
  refine cU ((Uk (nm:=some (Str.ofString "key")) (kpos:=kpos) (Qi (kp:=kp) hgf hmf uc) Yo) pos pins s1 σ H1 (λzs H2=>zs=[.ref f]/\H2=H1) I1 ⟨rfl,rfl⟩) λws s2 ⟨zs,H2,I2,r2,ez,eh⟩=>?_
  subst ez eh
  obtain⟨u2,rfl,ru2⟩:=vals1 r2
  cases ru2
  obtain⟨d,rfl,aL,ss,hd,ek,l64,q⟩:=q1
  cases ru
  obtain⟨zl,lo,xs,pr,o,es,ep,ho,hx,Vq,hes,nd⟩:=I2.bE d _ hd
  have lx:aL.length=xs.length:=pr.length
  have lk:aL.length=ss.length:=by have:=fJ List.length ek;simpa using this
  have at':∀(i:Nat) x,xs[i]?=some x->∃kv,aL[i]?=some kv/\kv.1=x.1/\H2 x.2.1=some (.tup (kv.1.map kV)):=λi x hx=>by
   obtain⟨kv,e1,e2⟩:=zB pr hx
   exact⟨kv,e1,e2.1,e2.2.1⟩
  have sets:∀(i:Nat) a ns,(xs.map (·.2.1))[i]?=some a->ss[i]?=some ns->H2 a=some (.tup (List.map V.int ns)):=λi a ns ha Sv=>by
   rw[cH]at ha
   cases ex:xs[i]? with
   | none=>rw[ex]at ha;cases ha
   | some x=>
    rw[ex]at ha
    cases ha
    obtain⟨kv,e1,_,e3⟩:=at' i x ex
    have:(aL.map (·.1))[i]?=some (ns.map Sum.inl):=by rw[ek,cH,Sv];rfl
    rw[cH,e1]at this
    have e4:kv.1=ns.map Sum.inl:=eG this
    rw[e4,ny]at e3
    exact e3
  have nds:ss.Nodup:=by
   have e5:xs.map (·.1)=ss.map (List.map Sum.inl):=by
    rw[<-ek]
    apply uK
    intro i
    rw[cH,cH]
    cases ex:xs[i]? with
    | none=>rw[mQ (by have:=List.getElem?_eq_none_iff.mp ex;lia)];rfl
    | some x=>obtain⟨kv,e1,e2,_⟩:=at' i x ex;rw[e1];exact fJ some e2.symm
   rw[e5]at nd
   exact rP nd
  have lss:(xs.map (·.2.1)).length=ss.length:=by rw[aY];lia
  refine Hh (as:=xs.map (·.2.1)) (ss:=ss) I2 F hr.in1.in1 hb lss (by lia) nds sets (λQ' hQ'=>?_) λD H' p sm hD hp ha hl=>?_
  ·refine Fx (A:=X.A.in1) (TX (es:=es) (ep:=ep) lo) hr.hd ⟨o,ho,hx,Vq⟩ (by rw[show es.size=aL.length by rw[<-di,hes,aY];lia];exact zl) λs' vs k1 k2 k3 k4 k5 k6=>?_
   have e6:vs=(xs.map (·.2.1)).map Value.ref:=by
    apply uK
    intro i
    cases ev:vs[i]? with
    | none=>
     have:=List.getElem?_eq_none_iff.mp ev
     rw[mQ]
     rw[aY,aY]
     have:es.size=xs.length:=by rw[<-di,hes,aY]
     lia
    | some v=>
     have h1:=k6 i v ev
     rw[<-jH,hes,cH]at h1
     rw[cH,cH]
     cases ex:xs[i]? with
     | none=>rw[ex]at h1;cases h1
     | some x=>rw[ex]at h1;exact h1.symm
   rw[e6]at *
   exact hQ' s' k1 k2 k3 k4
  ·have hpS:CV p ss.length:=by rw[<-lss];exact hp
   have haS:NP (setB ss) p ss.length:=by rw[<-lss];exact ha
   refine q D H' (p.toList.map λi=>(xs.map (·.2.1)).getD i 0) (p.toList.map λi=>ss.getD i []) sm hD hl ⟨by simp,λi b t hb ht=>?_⟩ (Uh hpS) ?_
   ·rw[cH]at hb ht
    cases ei:p.toList[i]? with
    | none=>rw[ei]at hb;cases hb
    | some j=>
     rw[ei]at hb ht
     have hj:j<ss.length:=by
      have:=(hpS.perm.mem_iff (a:=j)).mp (by simpa using oV ei)
      simpa using this
     have hb':(xs.map (·.2.1)).getD j 0=b:=eG hb
     have Ze:ss.getD j []=t:=eG ht
     refine sm _ _ (sets j b t ?_ ?_)
     ·rw[<-hb',qV,bJ (by lia)];rfl
     ·rw[<-Ze,qV,bJ hj];rfl
   ·by_cases h0:0<ss.length
    ·exact aAd hpS (za nds) haS h0
    ·have:p.toList=[]:=by
      have:=hpS.size
      exact N8 (by rw[di];lia)
     rw[this]
     exact List.Pairwise.nil
end
section
variable {X:Cx}
def aCe(i j:Int):Prop:=0<j/\j<2 ^ 300
theorem Qr:oE X (binaryOp .FloorDiv) (rI aCe λi j=>.int (i / j)):=opI λi j _ _ _ _ _ hc q=>by
 have h1:(0:Int)<j:=hc.1
 have h2:j<2 ^ 300:=hc.2
 refine floordiv_int (by omega) (by rw[Int.fdiv_eq_ediv_of_nonneg i (by omega)];exact q) (.inl (PyProof.noPylong_of_log2 ?_))
 have h3:j.natAbs<2 ^ 300:=by omega
 have h4:j.natAbs≠0:=by omega
 have:=(Nat.log2_lt h4).mpr h3
 omega
def zk:List V->Hp->VK->Prop:=λvs H Q=>∃a,vs=[.ref a]/\∃bs:List Bool,H a=some (.lst (bs.map V.bl))/\Q (.bl (bs.any id)) H
theorem Nu:∀{bs:List Bool} {us:List Value},Vals (bs.map V.bl) us->∀(i:Nat) (v:Value),us[i]?=some v->v=.bool (bs.getD i false):=by
 intro bs
 induction bs with
 | nil=>intro us r i v h;cases r;cases i <;> cases h
 | cons b bs ih=>
  intro us r i v h
  rw[eF]at r
  cases r with
  | cons r1 r2=>
   cases r1
   cases i with
   | zero=>cases h;rfl
   | succ i=>exact ih r2 i v (by simpa using h)
theorem any_range:∀(bs:List Bool),((List.range bs.length).any λi=>bs.getD i false)=bs.any id
 | []=>rfl
 | b::bs=>by
  rw[eJ,List.range_succ_eq_map,pB,Ae,pB,<-any_range bs]
  rfl
theorem zY(hh:X.A.handled=none):fw X (.builtin "any") zk:=by
 intro pins s σ H vs us Q I rv h
 obtain⟨a,rfl,bs,hq,q⟩:=h
 obtain⟨u,rfl,ru⟩:=vals1 rv
 cases ru
 obtain⟨its,r,pl,hz⟩:=I.list (bu hq)
 have hl:=r.length
 rw[aY]at hl
 have lt:a<s.heap.objs.size:=let ⟨_,e,_⟩:=pl.isList;aU e
 refine call_any_walk (Au pl.isList ⟨s.heap.objs.size,_,_,its.toArray.size,_,_,λi=>bs.getD i false,rfl,Walks.list (A:=X.A.in1) hh _ a (bH lt) its.toArray,⟨⟨_,cI _ rfl,rfl,rfl⟩,(pl.isList).push _⟩,?_,λh' tk mv=>?_⟩)
 ·intro i v s1 Q1 E1 hv hq1
  have:v=.bool (bs.getD i false):=Nu r i v (by simpa using hv)
  subst this
  exact aK hq1
 ·rw[cD,<-hl,any_range]
  have k:∀b o,s.heap.get? b=some o->h'.get? b=some o:=λb o e=>mv b o (λz=>absurd (aU e) (by rw[cE.mp z];exact jC _)) (bZ _ e)
  exact⟨.bl (bs.any id),H,I.un (t':=tk) (Un.kept k) (I.bE.kept k),rfl,q⟩
variable {k:Nat}{f:Addr}{fd:FuncData}{pm g:Str}{e:Expr}{te:TE}{p kp kpos pos:Pos}
theorem K8(F:bS X.prog X.w X.K X.mg X.base fN k f fd [pm] y7)(hr:cC (k+2) X.A)(hg:Gl X "sorted")(hm:X.mg "sorted" = none)(hv:bootBuiltins "sorted" = some (.builtin "sorted"))(hgf:Gl X g)(hmf:X.mg g=some (.ref f))(hb:Binds X.K fd [pm] [])(ha:ZE X e te)
  (uc:(g==("__debug__" : Str))=false:=by decide) (he:starEach [e] X.env=[(false,eval e X.env)]:=by rfl) :
  ZE X (.Call (.Name "sorted" p) [e] [⟨some "key",.Name g kp,kpos⟩] pos) (qc te):=⟨Qg F hr hg hm hv hgf hmf hb ha.to uc he⟩
def rJ:V->List V->Hp->VK->Prop:=λx vs H Q=>∃l i y,x=.ref l/\vs=[.int i,y]/\∃xs,H l=some (.lst xs)/\0<=i/\i<=xs.length/\xs.length<100000/\Q .non (upd H l (.lst (xs.take i.toNat++y::xs.drop i.toNat)))
end
end L2
namespace L2
open PySem PySem.Spec PySem.W PyProof.Rows Builtin
theorem yN{X:Cx}{pos:Pos}:ZE X (.Dict [] [] pos) qd:=⟨Qj⟩
end L2
end
section
namespace L2
open PySem PySem.Spec PyProof.Rows
def aAh(K:PySem.W.Frag)(a:Addr)(n:Nat):It:=
 ⟨λi H=>i<n/\∃xs,qP K H a xs/\xs.length=n,λi H x H'=>H'=H/\∀xs,qP K H a xs->xs[n-1-i]?=some x,λi _=>i=n⟩
theorem Ot{P:Program}{w:World}{K:PySem.W.Frag}{tg:Expr}(a it:Addr)(n:Nat):Turn P w K tg (aAh K a n) [it] it (λi h=>i<=n/\h.IsRevIter it a ((n:Int)-1-(i:Int))) where
 mem:=by simp
 obj:=λi h st b hb=>by
  have e:b=it:=by simpa using hb
  subst e
  obtain⟨_,o,e,c,d⟩:=st
  exact⟨o,e,λv z=>by rw[d]at z;cases z⟩
 keep:=λi h h' st k=>⟨st.1,st.2.at λo e=>k it (by simp) o e⟩
 item:=by
  intro X hP hw hK hc i pins s σ H E I hf st hg
  subst hP hw hK
  obtain⟨hi,xs,hq,hn⟩:=hg
  obtain⟨its,rv,p,hz⟩:=I.list hq
  have hx:xs[n-1-i]?=some (xs[n-1-i]'(by lia)):=bJ (by lia)
  obtain⟨u,hu,ru⟩:=rv.get hx
  obtain⟨f0,f1,f2,f3,f4,f5⟩:=hf it (by simp)
  have e1:(n:Int)-1-(i:Int)=((n-1-i:Nat):Int):=by lia
  have Wt:=st.2
  rw[e1]at Wt
  refine wpAny_pyNext_rev_item Wt p.isList (x:=u) (by simpa using hu) λh' bD sb=>?_
  have I1:Inv X pins σ H { s with heap:=h' }:=I.turned (t':=s.toks) (λb o hb e=>(sb.2 b hb).trans e) f0 f1 f3 f4 f5
  obtain⟨o,e,c,d⟩:=id bD
  have e2:((n-1-i:Nat):Int)-1=(n:Int)-1-((i+1:Nat):Int):=by lia
  rw[e2]at bD
  exact⟨u,rfl,Kl (s:={ s with heap:=h' }) e c d (by decide) ⟨_,H,I1,ru,⟨rfl,λys hy=>by rw[I.Er hy hq];exact hx⟩,⟨hi,bD⟩,λb hb=>(hf b hb).1⟩⟩
 done:=by
  intro X hP hw hK hc i pins s σ H E I hf st hg
  subst hP hw hK
  obtain⟨f0,f1,f2,f3,f4,f5⟩:=hf it (by simp)
  have hg':i=n:=hg
  have Wt:=st.2
  rw[hg',show(n:Int)-1-(n:Int)=-1 by lia]at Wt
  exact wpAny_pyNext_rev_end (I.ok.hd hc) Wt λh' eb=>⟨rfl,I.turned (t':=s.toks) (λb o hb e=>eb b o hb e) f0 f1 f3 f4 f5⟩
 self:=λ_ _ _ _ _ st h=>wpAny_pyIter_revIter st.2 h
section
variable {X:Cx}{tg:Expr}
theorem boot_reversed:bootBuiltins "reversed" = some (.type "reversed"):=by decide +kernel
def Ip(K:PySem.W.Frag)(ta:TA):TI:=λσ H R=>ta σ H λvs H1=>∃a,vs=[.ref a]/\∃xs,qP K H1 a xs/\R (aAh K a xs.length) H1
theorem Yq{a:Expr}{ta:TA}{p pos:Pos}(hg:Gl X "reversed")(hm:X.mg "reversed" = none)(ha:PA X [a] ta)(hs:starEach [a] X.env=[(false,eval a X.env)]:=by rfl):PI X tg (.Call (.Name "reversed" p) [a] [] pos) (Ip X.K ta):=by
 intro pins s σ H R I h
 refine Call_ (t7 I hg hm boot_reversed (GX (cU (ha pos pins s σ H _ I h) λus s1 ⟨vs,H1,I1,r1,q1⟩=>?_) hs rfl))
 obtain⟨l,e,xs,hq,q⟩:=q1
 subst e
 cases r1 with
 | cons r rr=>
  cases rr
  cases r
  obtain⟨its,rv,pl,hz⟩:=I1.list hq
  have hlen:=rv.length
  refine call_reversed_list pl.isList ?_
  have I2:Inv X pins σ H1 { s1 with heap:=s1.heap.push (revObj l ((its.toArray.size:Int)-1)) }:=I1.kept (t':=s1.toks) λb o e=>bZ _ e
  have st:Heap.IsRevIter (s1.heap.push (revObj l ((its.toArray.size:Int)-1))) s1.heap.objs.size l ((its.toArray.size:Int)-1):=⟨_,cI _ rfl,rfl,rfl⟩
  refine wpAny_pyIter_revIter st ?_
  refine⟨s1.heap.objs.size,[s1.heap.objs.size],_,_,H1,rfl,I2,Ot l _ xs.length,⟨dM _,?_⟩,λb hb=>?_,q⟩
  ·have e:(xs.length:Int)-1-((0:Nat):Int)=(its.toArray.size:Int)-1:=by simp;lia
   show Heap.IsRevIter _ _ _ ((xs.length:Int)-1-((0:Nat):Int))
   rw[e]
   exact st
  ·have e:b=s1.heap.objs.size:=by simpa using hb
   subst e
   exact I1.VG (bx _) (I1.bE.fresh (bx _))
theorem Jb{K:PySem.W.Frag}{a:Addr}{xs:List V}{g:TG}{tb:TS}{D:Ends}{σ:St}{H:Hp}(Pv:Nat->St->Hp->Prop)(h0:Pv 0 σ H)(hl:∀i σ H,i<=xs.length->Pv i σ H->H a=some (.lst xs))
  (hs:∀i x σ H,xs.reverse[i]?=some x->Pv i σ H->g x σ H λσ2 H2=>tb { D with nx:=Pv (i+1),ct:=Pv (i+1),bk:=D.nx } σ2 H2) (hd:∀σ H,Pv xs.length σ H->D.nx σ H):xZ (aAh K a xs.length) g tb D σ H:=by
 refine⟨λi m σ H=>m=xs.length-i/\i<=xs.length/\Pv i σ H,⟨xs.length,by simp,dM _,h0⟩,?_⟩
 rintro i m σ H ⟨rfl,hi,p⟩
 have hL:=hl i σ H hi p
 by_cases jj:i<xs.length
 ·refine .inr ⟨⟨jj,xs,bu hL,rfl⟩,Pv (i+1),λσ' H' p'=>⟨xs.length-(i+1),by lia,rfl,jj,p'⟩,λx H' yl=>?_⟩
  obtain⟨rfl,hx⟩:=yl
  refine hs i x σ _ ?_ p
  rw[Gy jj]
  exact hx xs (bu hL)
 ·have e:i=xs.length:=by lia
  subst e
  exact .inl ⟨rfl,hd σ H p⟩
theorem SN{a:Expr}{ta:TA}{p pos:Pos}(h1:Gl X (Str.ofString "reversed"))(h2:X.mg (Str.ofString "reversed")=none)(h3:ZA X [a] ta)(h4:starEach [a] X.env=[(false,eval a X.env)]:=by rfl):ZI X tg (.Call (.Name (Str.ofString "reversed") p) [a] [] pos) (Ip X.K ta):=⟨Yq h1 h2 h3.1 h4⟩
end
theorem nO{α:Type} [DecidableEq α] {cl dl:List α}:((List.range (min cl.length dl.length)).all (λj=>decide (cl[j]?=dl[j]?))&&cl.length==dl.length)=decide (cl=dl):=by
 rw[mM,eI,qQ,decide_eq_true_iff,beq_iff_eq]
 constructor
 ·rintro⟨h,l⟩
  apply uK
  intro i
  by_cases hi:i<cl.length
  ·exact of_decide_eq_true (h i (pC.mpr (by lia)))
  ·rw[mQ (by lia),mQ (by lia)]
 ·rintro rfl
  exact⟨λj _=>decide_eq_true rfl,rfl⟩
theorem xq:∀{x y:List Int},List.map V.int x=List.map V.int y->x=y
 | [],[],_=>rfl
 | [],_::_,h=>by cases h
 | _::_,[],h=>by cases h
 | a::x,b::y,h=>by
  rw[eF,eF]at h
  injection h with h1 h2
  rw[V.int.inj h1,xq h2]
section
variable {X:Cx}{pins:List (Addr×Obj)}{s:Shared}{σ:St}{H:Hp}{A:Around}
theorem Cu{x y:List Int}{us ws:List Value}(r1:Vals (List.map V.int x) us)(r2:Vals (List.map V.int y) ws)(j:Nat)(h1:j<us.toArray.size)(h2:j<ws.toArray.size) :
  SeqAt.EqAt A s us.toArray[j] ws.toArray[j] (decide (x[j]?=y[j]?)):=by
 have l1:=r1.length
 have l2:=r2.length
 rw[aY]at l1 l2
 have j1:j<x.length:=by rw[l1];simpa using h1
 have j2:j<y.length:=by rw[l2];simpa using h2
 have e1:x[j]?=some x[j]:=bJ j1
 have e2:y[j]?=some y[j]:=bJ j2
 have h:=RL (A:=A) (s:=s) (n8 (x:=.int x[j]) r1 h1 (by rw[cH,e1];rfl)) (n8 (x:=.int y[j]) r2 h2 (by rw[cH,e2];rfl)) rfl rfl
 have e3:N4 (.int x[j]) (.int y[j])=decide (x[j]?=y[j]?):=by
  rw[e1,e2,mM,decide_eq_true_iff,pI]
  show(x[j]==y[j])=true↔_
  rw[beq_iff_eq]
 rw[e3]at h
 exact h
theorem Z6{p q:Addr}{x y:List Int}(I:Inv X pins σ H s)(hp:H p=some (.tup (List.map V.int x)))(hq:H q=some (.tup (List.map V.int y)))(hu:A.units<cLine):SeqAt.EqAt A s (.ref p) (.ref q) (decide (x=y)):=by
 by_cases e:p=q
 ·subst e
  have:x=y:=by
   have h:=hp.symm.trans hq
   simp only[pI,HO.tup.injEq]at h
   exact xq h
  rw[decide_eq_true this]
  exact SeqAt.EqAt.same _
 ·obtain⟨us,r1,t1,_⟩:=I.tuple (ck hp)
  obtain⟨ws,r2,t2,_⟩:=I.tuple (ck hq)
  have l1:=r1.length
  have l2:=r2.length
  rw[aY]at l1 l2
  have h:=SeqAt.RcAt.tuples (A:=A) (e:=λj=>decide (x[j]?=y[j]?)) t1 t2 hu λj h1 h2=>Cu r1 r2 j h1 h2
  rw[cD,cD,<-l1,<-l2,nO]at h
  exact .of_refs e h
theorem lM{ps qs:List Addr}{us ws:List Value}{cl dl:List (List Int)}(I:Inv X pins σ H s)(r1:Vals (List.map V.ref ps) us)(r2:Vals (List.map V.ref qs) ws)(a:aE H ps cl)(b:aE H qs dl)(hu:A.units<cLine)(j:Nat)(h1:j<us.toArray.size)(h2:j<ws.toArray.size) :
  SeqAt.EqAt A s us.toArray[j] ws.toArray[j] (decide (cl[j]?=dl[j]?)):=by
 have l1:=r1.length
 have l2:=r2.length
 rw[aY]at l1 l2
 have j1:j<ps.length:=by rw[l1];simpa using h1
 have j2:j<qs.length:=by rw[l2];simpa using h2
 have e1:ps[j]?=some ps[j]:=bJ j1
 have e2:qs[j]?=some qs[j]:=bJ j2
 have k1:j<cl.length:=by rw[<-a.1];exact j1
 have k2:j<dl.length:=by rw[<-b.1];exact j2
 have c1:cl[j]?=some cl[j]:=bJ k1
 have c2:dl[j]?=some dl[j]:=bJ k2
 have v1:us.toArray[j]=.ref ps[j]:=n8 (x:=.ref ps[j]) r1 h1 (by rw[cH,e1];rfl)
 have v2:ws.toArray[j]=.ref qs[j]:=n8 (x:=.ref qs[j]) r2 h2 (by rw[cH,e2];rfl)
 have:=Z6 (A:=A) I (a.2 j _ _ e1 c1) (b.2 j _ _ e2 c2) hu
 rw[v1,v2,c1,c2]
 have e3:decide ((some cl[j]:Option (List Int))=some dl[j])=decide (cl[j]=dl[j]):=by simp only[pI]
 rw[e3];exact this
def DT(neg:Bool):R2:=λx y H Q=>∃a b,x=.ref a/\y=.ref b/\∃u v:List Int,H a=some (.tup (List.map V.int u))/\H b=some (.tup (List.map V.int v))/\Q (.bl (if neg then !decide (u=v) else decide (u=v))) H
def wN(neg:Bool):R2:=λx y H Q=>∃a b,x=.ref a/\y=.ref b/\∃ps qs cl dl,H a=some (.lst (List.map V.ref ps))/\H b=some (.lst (List.map V.ref qs))/\aE H ps cl/\aE H qs dl/\Q (.bl (if neg then !decide (cl=dl) else decide (cl=dl))) H
theorem J2(hu:X.A.units+1<cLine):oE X (compareOp .NotEq) (wN true):=by
 intro pins s σ H x y v u Q I rx ry h
 obtain⟨a,b,rfl,rfl,ps,qs,cl,dl,h1,h2,a1,a2,q⟩:=h
 cases rx;cases ry
 obtain⟨us,r1,t1,_⟩:=I.list (bu h1)
 obtain⟨ws,r2,t2,_⟩:=I.list (bu h2)
 have l1:=r1.length
 have l2:=r2.length
 rw[aY]at l1 l2
 by_cases hl:cl.length=dl.length
 ·refine SeqAt.RcNeAt.lists (e:=λj=>decide (cl[j]?=dl[j]?)) t1.isList t2.isList (by rw[cD,cD,<-l1,<-l2,a1.1,a2.1,hl]) (by lia) (λj h1 h2=>lM I r1 r2 a1 a2 (by rw[Am];lia) j h1 h2) _ _ _ _ ⟨.bl _,H,I,rfl,?_⟩
  have e:=nO (cl:=cl) (dl:=dl)
  rw[hl,Ag,iI,Bool.and_true]at e
  rw[cD,<-l1,a1.1,hl,e]
  exact q
 ·refine SeqAt.RcNeAt.lists_lengths t1.isList t2.isList (by rw[cD,cD,<-l1,<-l2,a1.1,a2.1];simpa using hl) (by lia) _ _ _ _ ⟨.bl _,H,I,rfl,?_⟩
  have e:decide (cl=dl)=false:=decide_eq_false λz=>hl (by rw[z])
  have q':Q (.bl (!decide (cl=dl))) H:=q
  rw[e]at q'
  exact q'
theorem Uv(hu:X.A.units+1<cLine):oE X (compareOp .Eq) (wN false):=by
 intro pins s σ H x y v u Q I rx ry h
 obtain⟨a,b,rfl,rfl,ps,qs,cl,dl,h1,h2,a1,a2,q⟩:=h
 cases rx;cases ry
 obtain⟨us,r1,t1,_⟩:=I.list (bu h1)
 obtain⟨ws,r2,t2,_⟩:=I.list (bu h2)
 have l1:=r1.length
 have l2:=r2.length
 rw[aY]at l1 l2
 by_cases hl:cl.length=dl.length
 ·refine SeqAt.eq_listAt (e:=λj=>decide (cl[j]?=dl[j]?)) t1.isList t2.isList (by rw[cD,cD,<-l1,<-l2,a1.1,a2.1,hl]) (by lia) (λj h1 h2=>lM I r1 r2 a1 a2 (by rw[Am];lia) j h1 h2) ⟨.bl _,H,I,rfl,?_⟩
  have e:=nO (cl:=cl) (dl:=dl)
  rw[hl,Ag,iI,Bool.and_true]at e
  rw[cD,<-l1,a1.1,hl,e]
  exact q
 ·refine SeqAt.eq_list_lengthsAt t1.isList t2.isList (by rw[cD,cD,<-l1,<-l2,a1.1,a2.1];simpa using hl) (by lia) ⟨.bl _,H,I,rfl,?_⟩
  have e:decide (cl=dl)=false:=decide_eq_false λz=>hl (by rw[z])
  have q':Q (.bl (decide (cl=dl))) H:=q
  rw[e]at q'
  exact q'
end
section
variable {X:Cx}{pins:List (Addr×Obj)}{σ:St}{H:Hp}{s:Shared}
end
section
variable {X:Cx}{elt target iter:Expr}{ifs:List Expr}{scope:Scope}{pos:Pos}{cs xs:List Str}{idx:List Nat}{wi:TI}{g:CB->TG}{tt:CB->TT}{te:CB->TE}
end
section
variable {X:Cx}{N:List Str}{km:Scope}{elt target iter:Expr}{ifs:List Expr}{scope:Scope}{pos:Pos}{wi:TI}{g:CB->TG}{tt:CB->TT}{te:CB->TE}
end
section
variable {prog:Program}{w:World}{A:Around}{E:Value->Shared->Prop}{s:Shared}
end
section
variable {X:Cx}
end
def Up(xs:Array Nat):Prop:=xs.toList.Pairwise (· < ·)
theorem Up.lt{xs:Array Nat}(u:Up xs){i k:Nat}(h:i<k)(hk:k<xs.size):xs.getD i 0<xs.getD k 0:=by
 have h1:i<xs.toList.length:=by rw[di];lia
 have h2:k<xs.toList.length:=by rw[di];lia
 have:=(yJ.mp u) i k h1 h2 h
 rw[v8,v8]at this
 rw[jJ,jJ,dO (by lia),dO hk]
 exact this
theorem Ry{xs:Array Nat}{i j:Nat}(h:i<xs.size):xs.getD i j=xs.getD i 0:=by
 rw[jJ,jJ,dO h];rfl
theorem xQ{xs:Array Nat}{j:Nat}(u:Up xs):∀(f lo hi:Nat),hi-lo<=f->lo<=hi->hi<=xs.size->(∀i,i<lo->xs.getD i 0<j)->(∀i,hi<=i->i<xs.size->j<=xs.getD i 0)->
  SetTable.below.go xs j f lo hi<=xs.size/\(∀i,i<SetTable.below.go xs j f lo hi->xs.getD i 0<j)/\∀i,SetTable.below.go xs j f lo hi<=i->i<xs.size->j<=xs.getD i 0
 | 0,lo,hi,h0,h1,h2,a,b=>by
  have e:lo=hi:=by lia
  subst e
  exact⟨h2,a,b⟩
 | f+1,lo,hi,h0,h1,h2,a,b=>by
  unfold SetTable.below.go
  by_cases c:lo<hi
  ·rw[aB c]
   dsimp only
   have hm:(lo+hi) / 2<xs.size:=by lia
   rw[Ry hm]
   by_cases d:xs.getD ((lo+hi) / 2) 0<j
   ·rw[aB d]
    refine xQ u f _ _ (by lia) (by lia) h2 (λi Iw=>?_) b
    by_cases e:i=(lo+hi) / 2
    ·rw[e];exact d
    ·have:=u.lt (i:=i) (k:=(lo+hi) / 2) (by lia) hm;lia
   ·rw[aC d]
    refine xQ u f _ _ (by lia) (by lia) (by lia) a λi Iw hz=>?_
    by_cases e:i=(lo+hi) / 2
    ·rw[e];lia
    ·have:=u.lt (i:=(lo+hi) / 2) (k:=i) (by lia) hz;lia
  ·rw[aC c]
   have e:lo=hi:=by lia
   subst e
   exact⟨h2,a,b⟩
theorem qC{xs:Array Nat}(u:Up xs)(j:Nat):SetTable.below xs j<=xs.size/\(∀i,i<SetTable.below xs j->xs.getD i 0<j)/\∀i,SetTable.below xs j<=i->i<xs.size->j<=xs.getD i 0:=
 xQ u xs.size 0 xs.size (by lia) (dM _) (bx _) (λi h=>absurd h (Nat.not_lt_zero _)) (λi h1 h2=>absurd h2 (by lia))
def lD(xs:Array Nat)(i:Nat):Nat:=if i=0 then 0 else xs.getD (i-1) 0+1
theorem below_at{xs:Array Nat}(u:Up xs){i:Nat}(hi:i<=xs.size):SetTable.below xs (lD xs i)=i:=by
 obtain⟨h0,h1,h2⟩:=qC u (lD xs i)
 generalize SetTable.below xs (lD xs i)=r at h0 h1 h2 ⊢
 unfold lD at h1 h2
 rcases Gj r i with h | h | h
 ·have:=h2 (i-1) (by lia) (by lia)
  rw[aC (by lia)]at this
  lia
 ·exact h
 ·have:=h1 i h
  by_cases e:i=0
  ·rw[aB e]at this;lia
  ·rw[aC e]at this
   have:=u.lt (i:=i-1) (k:=i) (by lia) (by lia)
   lia
theorem Nv{xs:Array Nat}(u:Up xs){j:Nat}(h:j∈xs.toList):xs[SetTable.below xs j]?=some j:=by
 obtain⟨k,hk,e⟩:=Gr h
 rw[di]at hk
 rw[v8]at e
 have ek:xs.getD k 0=j:=by rw[jJ,dO hk];exact e
 obtain⟨h0,h1,h2⟩:=qC u j
 have:SetTable.below xs j=k:=by
  generalize SetTable.below xs j=r at h0 h1 h2 ⊢
  rcases Gj r k with h | h | h
  ·have a:=h2 r (bx _) (by lia)
   have b:=u.lt (i:=r) (k:=k) h hk
   lia
  ·exact h
  ·have:=h1 k h;lia
 rw[this,dO hk,e]
theorem yu{α:Type}(xs:Array α)(p:Nat)(x:α):(SetTable.insertAt xs p x).toList=xs.toList.take p++x::xs.toList.drop p:=by
 unfold SetTable.insertAt
 simp[Array.toList_extract,List.extract]
 exact tK (by simp)
theorem Le{xs:Array Nat}(u:Up xs){j:Nat}(h:j∉xs.toList):Up (SetTable.insertAt xs (SetTable.below xs j) j):=by
 obtain⟨h0,h1,h2⟩:=qC u j
 generalize SetTable.below xs j=r at h0 h1 h2 ⊢
 unfold Up
 rw[yu,gN]
 have lt:∀a∈xs.toList.take r,a<j:=λa ha=>by
  obtain⟨k,hk,e⟩:=Gr ha
  rw[gL,di]at hk
  rw[List.getElem_take,v8]at e
  have:=h1 k (by lia)
  rw[jJ,dO (by lia)]at this
  rw[<-e];exact this
 have gt:∀a∈xs.toList.drop r,j<a:=λa ha=>by
  have hm:=List.mem_of_mem_drop ha
  obtain⟨k,hk,e⟩:=Gr ha
  rw[qR,di]at hk
  rw[List.getElem_drop,v8]at e
  have:=h2 (r+k) (by lia) (by lia)
  rw[jJ,dO (by lia)]at this
  have h3:j<=a:=by rw[<-e];exact this
  have h4:j≠a:=λz=>h (by rw[z];exact hm)
  lia
 refine⟨u.sublist (List.take_sublist _ _),v3.mpr ⟨gt,u.sublist (List.drop_sublist _ _)⟩,λa ha b hb=>?_⟩
 rcases bT.mp hb with e | hb
 ·rw[e];exact lt a ha
 ·have:=lt a ha;have:=gt b hb;lia
theorem qh{t:SetTable}{hashAt:Nat->Int}{h:Int}:∀(f:Nat) (p:SetTable.Probe) (j:Nat) (d:Option Nat),(∀q,p.dummy=some q->t.slot q=.dummy)->SetTable.probe.go t hashAt h f p=some (.empty j d)->
  t.slot j=.empty/\∀q,d=some q->t.slot q=.dummy
 | 0,p,j,d,_,e=>by cases e
 | f+1,p,j,d,hd,e=>by
  unfold SetTable.probe.go at e
  have adv:∀p:SetTable.Probe,(t.advance p).dummy=p.dummy:=λp=>by unfold SetTable.advance;split <;> rfl
  cases hs:t.slot p.j with
  | empty=>
   rw[hs]at e
   dsimp only at e
   cases e
   exact⟨hs,hd⟩
  | dummy=>
   rw[hs]at e
   refine qh f _ j d (λq hq=>?_) e
   rw[adv]at hq
   cases hq
   exact hs
  | live i=>
   rw[hs]at e
   dsimp only at e
   split at e
   ·cases e
   ·refine qh f _ j d (λq hq=>?_) e
    rw[adv]at hq
    exact hd q hq
theorem Ja{t:SetTable}(u:Up t.place){h:Int}{j:Nat}{b:Bool}(e:t.freeSlot h=some (j,b)):j∉t.place.toList:=by
 unfold SetTable.freeSlot at e
 have key:∀q,t.slot q=.empty\/t.slot q=.dummy->q∉t.place.toList:=λq hq hm=>by
  have z:=Nv u hm
  have sl:t.slot q=.live (SetTable.below t.place q):=by
   unfold SetTable.slot
   dsimp only
   rw[z];simp
  rw[sl]at hq
  rcases hq with h | h <;> cases h
 cases hp:t.probe (λ_=>h+1) h (t.probeStart h) with
 | none=>rw[hp]at e;cases e
 | some m=>
  rw[hp]at e
  cases m with
  | candidate j i n=>cases e
  | empty j0 d=>
   obtain⟨a,c⟩:=qh _ _ _ _ (λq hq=>by cases hq) hp
   dsimp only at e
   cases d with
   | none=>cases e;exact key _ (.inl a)
   | some q=>cases e;exact key _ (.inr (c q rfl))
theorem rg(n:Nat):Up (Array.range n):=by
 unfold Up
 rw[Array.toList_range]
 exact List.pairwise_lt_range
theorem YZ{t:SetTable}(u:Up t.place)(es:Array (Int×Value))(h:Int)(x:Value):Up (layNew t es h x).2.1.place:=by
 unfold layNew
 split
 ·rename_i slot aAl q
  dsimp only
  unfold SetTable.orStandIn
  split
  ·exact Le u (Ja u q)
  ·exact rg _
 ·exact rg _
theorem U7{mask finger moves:Nat}{led plain:Bool}{hs:Array Int}{t':SetTable}{o:Array Nat}(h:SetTable.laid mask finger moves led plain hs=some (t',o)):Up t'.place:=by
 unfold SetTable.laid at h
 cases q:SetTable.layClean mask hs with
 | none=>rw[q]at h;cases h
 | some owner=>
  rw[q]at h
  cases h
  unfold Up
  rw[pL,List.pairwise_map,List.pairwise_filterMap]
  refine List.pairwise_lt_range.imp λ{a b} hab c hc d hd=>?_
  cases ha:owner.getD a none with
  | none=>rw[ha]at hc;cases hc
  | some k=>
   cases hb:owner.getD b none with
   | none=>rw[hb]at hd;cases hd
   | some k'=>
    rw[ha]at hc;rw[hb]at hd
    cases hc;cases hd
    exact hab
theorem Pm{t:SetTable}(es:Array (Int×Value))(k:Nat):Up (relayAll t es k).2.1.place:=by
 unfold relayAll
 split
 ·rename_i t' o q
  dsimp only
  split
  ·exact U7 q
  ·exact rg _
 ·exact rg _
def yB(p:Int×Tok):Int×Value:=(hashInt p.1,.int p.1 p.2)
structure kS(w:World)(h:Heap)(a:Addr)(l:List (Int×Tok)):Prop where
 ex:∃es ep t,h.get? a=some (eV es ep t)/\es.toList=l.map (yB)/\t.fits es.size=true/\t.led = !uq w/\Up t.place
 nd:(l.map (·.1)).Nodup
 sz:l.length<scanBound
theorem kS.at{w:World}{h h':Heap}{a:Addr}{l:List (Int×Tok)}(x:kS w h a l)(k:∀o,h.get? a=some o->h'.get? a=some o):kS w h' a l:=
 ⟨let ⟨es,ep,t,e,r⟩:=x.ex;⟨es,ep,t,k _ e,r⟩,x.nd,x.sz⟩
section
variable {P:Program}{w:World}{A:Around}{E:Value->Shared->Prop}{s:Shared}{a:Addr}{l:List (Int×Tok)}
theorem Ni(l:List (Int×Tok)):ElemsOf (intKind P w) (l.map (yB)):=by
 intro e he
 obtain⟨p,_,rfl⟩:=fY.mp he
 exact⟨⟨p.1,intKind_is P w _ _,rfl⟩,rfl⟩
theorem Nf(x:Int):∀l:List (Int×Tok),(∀j,(l.map (yB)).findIdx? (λe=>(intKind P w).is x e.2)=some j->x∈l.map (·.1))/\((l.map (yB)).findIdx? (λe=>(intKind P w).is x e.2)=none->x∉l.map (·.1)):=by
 intro l
 refine⟨λj h=>?_,λh hm=>?_⟩
 ·obtain⟨hj,hp,_⟩:=List.findIdx?_eq_some_iff_getElem.mp h
  rw[List.getElem_map]at hp
  rw[aY]at hj
  have:(l[j]).1=x:=(intKind P w).inj _ _ _ (intKind_is P w _ _) hp
  exact fY.mpr ⟨l[j],lZ hj,this⟩
 ·obtain⟨p,hp,rfl⟩:=fY.mp hm
  have:=List.findIdx?_eq_none_iff.mp h (yB p) (v7 hp)
  rw[show(intKind P w).is p.1 (yB p).2=true from intKind_is P w _ _]at this
  cases this
theorem zu{es':List (Int×Value)}{l:List (Int×Tok)}(p:es'.Perm (l.map (yB))):∃l':List (Int×Tok),es'=l'.map (yB)/\l'.Perm l:=by
 let back:Int×Value->Int×Tok:=λe=>match e.2 with | .int x t=>(x,t) | _=>(default,0)
 have hb:∀q:Int×Tok,back (yB q)=q:=λq=>rfl
 refine⟨es'.map back,?_,?_⟩
 ·rw[gJ]
  conv=>lhs;rw[<-vM es']
  refine qU λe he=>?_
  obtain⟨q,_,rfl⟩:=fY.mp (p.mem_iff.mp he)
  rfl
 ·have:=p.map back
  rw[gJ,show(back ∘ yB)=id from funext hb,vM]at this
  exact this
theorem add_int{x:Int}{tk:Tok}{Q:Bool->Shared->Prop}(S:kS w s.heap a l)(room:l.length+1<scanBound)
  (q:∀h' l' b,Heap.SameBut a s.heap h'->kS w h' a l'->(∀z,z∈l'.map (·.1)↔z∈l.map (·.1)\/z=x)->l'.length<=l.length+1->Q b { s with heap:=h' }) :
  wpAny (model P w) A (setAddHashed a (.int x tk) (hashInt x)) Q E s:=by
 obtain⟨⟨es,ep,t,ho,W5,hf,Q8,kJ⟩,nd,sz⟩:=S
 have hsz:es.size=l.length:=by rw[<-di,W5,aY]
 have hE:ElemsOf (intKind P w) es.toList:=by rw[W5];exact Ni l
 have hk:(intKind P w).is x (.int x tk)=true:=intKind_is P w _ _
 have hd:(eV es ep t).data=.set es ep t:=rfl
 unfold setAddHashed setAddHashedIn
 refine jB (ay (tj ho hd hf ?_))
 dsimp only
 rw[byScan_of (knd:=intKind P w) rfl (by rw[hsz];exact sz) hE]
 simp only[↓reduceIte]
 unfold setAddByScan
 refine ay (ay (iC (ay (wpAny_setScan_of (knd:=intKind P w) hk ho hd hf hE ?_))))
 have hfi:=Nf (P:=P) (w:=w) x l
 rw[<-W5]at hfi
 cases hr:List.findIdx? (λe=>(intKind P w).is x e.2) es.toList with
 | some j=>
  dsimp only
  have hm:=hfi.1 j hr
  refine aK (aK ?_)
  have e:s={ s with heap:=s.heap }:=by cases s;rfl
  rw[e]
  exact q s.heap l false (Heap.SameBut.refl a s.heap) ⟨⟨es,ep,t,ho,W5,hf,Q8,kJ⟩,nd,sz⟩ (λz=>⟨.inl,λh=>h.elim id λe=>e ▸ hm⟩) (iY _)
 | none=>
  have hm:=hfi.2 hr
  dsimp only
  have pp:=layNew_perm t es (hashInt x) (.int x tk)
  have pf:=layNew_fits t es (hashInt x) (.int x tk)
  have pl:=U5 t es (hashInt x) (.int x tk)
  have pq:=YZ kJ es (hashInt x) (.int x tk)
  generalize hL:layNew t es (hashInt x) (.int x tk)=L at pp pf pl pq ⊢
  obtain⟨qO,t1,aAl,gave⟩:=L
  dsimp only at pp pf pl pq ⊢
  rw[uI,W5]at pp
  obtain⟨l1,e1,p1⟩:=zu (l:=l++[(x,tk)]) (es':=qO.toList) (by rw[eU];exact pp)
  have aBa:l1.length=l.length+1:=by rw[p1.length_eq,cS];rfl
  have nd1:(l1.map (·.1)).Nodup:=by
   rw[(p1.map (·.1)).nodup_iff,eU,Ay]
   refine⟨nd,by simp,λu hu v hv=>?_⟩
   rw[eF,Af,cE]at hv
   rintro rfl
   rw[hv]at hu
   exact hm hu
  have aA8:∀z,z∈l1.map (·.1)↔z∈l.map (·.1)\/z=x:=λz=>by
   rw[(p1.map (·.1)).mem_iff,eU,cv];simp
  have aEg:qO.size=l.length+1:=by rw[<-di,e1,aY,aBa]
  have gw:∀(b:Bool) {s₁:Shared} {Q':Unit->Shared->Prop},Q' () s₁->wpAny (model P w) A (match b with | true=>rule "set.scan.the-table-gave-way" | false=>pure ()) Q' E s₁:=
   λb s₁ Q' hq=>by cases b <;> first | exact aK hq | exact iC hq
  refine ay (gw _ ?_)
  have fin:∀t2:SetTable,t2.fits qO.size=true->t2.led=t.led->Up t2.place->
    wpAny (model P w) A (do
     storeSet a qO t2
     if (!aAl&&t2.tooFull)=true then do
      (match (relayAll t2 qO (SetTable.grown qO.size)).2.2 with | true=>rule "set.scan.the-table-gave-way" | false=>pure ())
      storeSet a (relayAll t2 qO (SetTable.grown qO.size)).1 (relayAll t2 qO (SetTable.grown qO.size)).2.1
      pure (some true)
     else pure (some true)) (λr s'=>∃b,r=some b/\Q b s') E s:=by
   intro t2 f2 l2 p2
   refine ay (wpAny_storeSet_of ho hd ?_ (by rw[aEg];exact Aq room))
   have g1:(s.heap.update a (Obj.putSet qO t2)).get? a=some (eV qO (ep+1) t2):=by
    have:=oW (Obj.putSet qO t2) ho (by rw[putSet_of qO t2 hd];rfl)
    rw[putSet_of qO t2 hd]at this;exact this
   have sb:=pJ s.heap a (Obj.putSet qO t2)
   split
   ·have rp:=relayAll_perm t2 qO (SetTable.grown qO.size)
    have rf:=relayAll_fits t2 qO (SetTable.grown qO.size)
    have rl:=LR t2 qO (SetTable.grown qO.size)
    have rq:=Pm (t:=t2) qO (SetTable.grown qO.size)
    generalize hR:relayAll t2 qO (SetTable.grown qO.size)=R at rp rf rl rq ⊢
    obtain⟨Z5,t3,aFF⟩:=R
    dsimp only at rp rf rl rq ⊢
    rw[e1]at rp
    obtain⟨QS,e2,p2'⟩:=zu rp
    have aA9:QS.length=l.length+1:=by rw[p2'.length_eq,aBa]
    have aEf:Z5.size=l.length+1:=by rw[<-di,e2,aY,aA9]
    refine ay (gw _ ?_)
    refine ay (wpAny_storeSet_of g1 rfl ?_ (by rw[aEf];exact Aq room))
    have g2:((s.heap.update a (Obj.putSet qO t2)).update a (Obj.putSet Z5 t3)).get? a=some (eV Z5 (ep+1+1) t3):=by
     have:=oW (Obj.putSet Z5 t3) g1 (by rw[putSet_of Z5 t3 (show(eV qO (ep+1) t2).data=_ from rfl)];rfl)
     rw[putSet_of Z5 t3 (show(eV qO (ep+1) t2).data=_ from rfl)]at this;exact this
    refine aK ⟨true,rfl,q _ QS true (sb.trans (pJ _ a _)) ⟨⟨Z5,_,t3,g2,e2,rf,by rw[rl,l2,Q8],rq⟩,by rw[(p2'.map (·.1)).nodup_iff];exact nd1,by lia⟩ (λz=>by rw[(p2'.map (·.1)).mem_iff];exact aA8 z) (by lia)⟩
   ·exact aK ⟨true,rfl,q _ l1 true sb ⟨⟨qO,_,t2,g1,e1,f2,by rw[l2,Q8],p2⟩,nd1,by lia⟩ aA8 (by lia)⟩
  split
  ·rename_i vk
   refine ay ?_
   rw[hashByValue_scannable 8 (show(Value.int x tk).scannable=true from rfl)]
   refine aK ?_
   rw[show(if plainKind (Value.int x tk)=true then t1 else { t1 with plain:=false })=t1 from rfl]
   refine dE (fin t1 pf pl pq) (λr s' h=>?_) λ_ _ h=>h
   obtain⟨b,rfl,hq⟩:=h
   exact aK hq
  ·rename_i vk
   refine ay (aK ?_)
   simp only[↓reduceIte]
   refine dE (fin t1 pf pl pq) (λr s' h=>?_) λ_ _ h=>h
   obtain⟨b,rfl,hq⟩:=h
   exact aK hq
end
section
variable {P:Program}{w:World}{A:Around}{R:Result->Shared->Prop}{I:Addr}{fp wr:List Addr}{G:Array GenState->Array GenState->Prop}{n:Nat}{Pv:Nat->Value->Prop}{St:Nat->Shared->Prop}
theorem Ep(W:WalksS P w A.in1 I fp wr G n Pv St)(S:Addr)(hSf:S∉fp)(val:Nat->Int)(hval:∀i v,Pv i v->∃t,v=.int (val i) t)(hb:n+1<scanBound) :
  ∀(k i:Nat) (s:Shared) (l:List (Int×Tok)),n-i=k->i<=n->St i s->kS w s.heap S l->l.length<=i->(∀z,z∈l.map (·.1)↔∃j,j<i/\val j=z)->
   (∀s' l',Moved (S::wr) G s s'->kS w s'.heap S l'->(∀z,z∈l'.map (·.1)↔∃j,j<n/\val j=z)->R (.ok (.ret .none)) s')->
   codeAny (model P w) A (.builtin "set.update.loop" ⟨[.ref S,.ref I],[]⟩) R s:=by
 have nw:S∉wr:=λz=>hSf (W.sub _ z)
 have up:∀b∈wr,b∈S::wr:=λb z=>dN _ z
 intro k
 induction k with
 | zero=>
  intro i s l hk hi st hS hl hm r
  obtain rfl:i=n:=by lia
  refine lg F.entry_set_update_loop ?_
  rw[pK Gi _]
  refine ay (m:=pyNext (.ref I)) (W.done s _ _ st λs' mv=>?_)
  refine aK (r s' l (mv.mono up) (hS.at λo e=>mv.heap S o nw e) hm)
 | succ k ih=>
  intro i s l hk hi st hS hl hm r
  have lt:i<n:=by lia
  refine lg F.entry_set_update_loop ?_
  rw[pK Gi _]
  refine ay (m:=pyNext (.ref I)) (W.item i s _ _ lt st λv s' pv bD mv=>?_)
  obtain⟨t,rfl⟩:=hval i v pv
  have Vt:=hS.at (h':=s'.heap) λo e=>mv.heap S o nw e
  refine ay (m:=holding [Value.int (val i) t] (setAdd S (.int (val i) t))) (jB ?_)
  unfold setAdd
  refine jB (ay ((intKind P w).pyHash (k:=val i) (intKind_is _ _ _ _) ?_))
  refine add_int (s:={ s' with toks:=s'.toks+1 }) Vt (by lia) λh' l' b sb S2 m2 aA9=>?_
  refine aK ⟨vN Gi _,ih (i+1) _ l' (by lia) lt (W.frame _ s' _ _ bD (iY _) λc hc o e=>?_) S2 (by lia) (λz=>?_) λs2 l2 mv2 S3 m3=>?_⟩
  ·rw[sb.2 c (λq:c=S=>hSf (by rw[<-q];exact hc))];exact e
  ·rw[m2 z,hm z]
   constructor
   ·rintro(⟨j,hj,e⟩ | e)
    ·exact⟨j,by lia,e⟩
    ·exact⟨i,by lia,e.symm⟩
   ·rintro⟨j,hj,e⟩
    by_cases q:j=i
    ·subst q;exact .inr e.symm
    ·exact .inl ⟨j,by lia,e⟩
  ·refine r s2 l2 (Moved.trans W.gtrans ((mv.mono up).then_heap (iY _) λc o hc e=>?_) mv2) S3 m3
   rw[sb.2 c (λq:c=S=>hc (by rw[q];exact du))];exact e
end
theorem xr:∀{vs:List Value} {ss:List Int},IntsAre vs ss->∀(i:Nat) (v:Value),vs[i]?=some v->∃t,v=.int (ss.getD i 0) t
 | _,_,.nil,i,v,h=>by cases i <;> cases h
 | _,_,.cons y t r,0,v,h=>by cases h;exact⟨t,rfl⟩
 | _,_,.cons y t r,i+1,v,h=>by
  obtain⟨u,e⟩:=xr r i v (by simpa using h)
  exact⟨u,by rw[e];rfl⟩
section
variable {P:Program}{w:World}{A:Around}{E:Value->Shared->Prop}{s:Shared}
theorem aAE{l:Addr}{items:Array Value}{ss:List Int}{Q:Value->Shared->Prop}(hh:A.handled=none)(hl:s.heap.IsList l items)(hi:IntsAre items.toList ss)(hb:items.size+1<scanBound)
  (h:∀(h':Heap) (tk:Nat) (ls:List (Int×Tok)),kS w h' s.heap.objs.size ls->(∀z,z∈ls.map (·.1)↔z∈ss)->(∀b o,b<s.heap.objs.size->s.heap.get? b=some o->h'.get? b=some o)->Q (.ref s.heap.objs.size) { s with heap:=h',toks:=tk }) :
  wpAny (model P w) A (call (.type "set") [.ref l]) Q E s:=by
 have e:∀z:Int,(∃j,j<items.size/\ss.getD j 0=z)↔z∈ss:=λz=>by
  have hlen:items.size=ss.length:=by rw[<-di];exact hi.length
  rw[hlen,vE]
  constructor
  ·rintro⟨j,hj,e⟩;exact⟨j,hj,by rw[<-e];simp[hj]⟩
  ·rintro⟨j,hj,e⟩;exact⟨j,hj,by rw[<-e];simp[hj]⟩
 obtain⟨c,tl,aEs⟩:=iL.mro
 have aBn:=iL.made
 have Iu:=iL.sub
 refine j3 (Ak (aK (a:=_) ⟨Av _ (by decide +kernel),lg PySem.F.entry_type_call ?_⟩))
 rw[Around.under_plain (weight_type_call_type "set" [.ref l] []) rfl]
 have h1:=iL.notType
 have h2:=iL.canCreate
 have hct:=PySem.F.typeCall_set_1 (.ref l)
 repeat (any_goals (first | assumption | wp_step))
 refine ko (JL (x:=.ref l) (E:=E) (Q:=λobj s₁=>obj=.ref s.heap.objs.size/\s₁={ s with heap:=s.heap.push (eV #[] 0 (.fresh 0 0 (!uq w))) }) ⟨rfl,rfl⟩) λr s₁ hr=>?_
 cases r with
 | error e=>exact hr
 | ok fl=>
  cases fl with
  | ret obj=>
   obtain⟨rfl,rfl⟩:=hr
   have hS:(s.heap.push (eV #[] 0 (.fresh 0 0 (!uq w)))).get? s.heap.objs.size=some (eV #[] 0 (.fresh 0 0 (!uq w))):=cI _ rfl
   have hT:Shared.TypeIs { s with heap:=s.heap.push (eV #[] 0 (.fresh 0 0 (!uq w))) } (.ref s.heap.objs.size) "set":=⟨_,hS,rfl⟩
   have hli:=iL.init.lookup
   have hbi:=iL.init.bind (.ref s.heap.objs.size)
   repeat (any_goals (first | assumption | wp_step))
   refine ko (Bb (R:=wants (λr s₂=>r=.none/\∃h' tk ls,s₂={ s with heap:=h',toks:=tk }/\kS w h' s.heap.objs.size ls/\(∀z,z∈ls.map (·.1)↔z∈ss)/\
     (∀b o,b<s.heap.objs.size->s.heap.get? b=some o->h'.get? b=some o)) E) iL.init.plain PySem.F.entry_set_init (check_set_init_1 hT ?_)) λr₂ s₂ Zf=>?_
   ·obtain⟨ol,hol,yz,nl,W7⟩:=hl
    obtain⟨aDr,Qz,aA1,Hv⟩:=ol
    simp only at yz W7
    subst yz;subst W7
    have Zq:(s.heap.push (eV #[] 0 (.fresh 0 0 (!uq w)))).get? l=some { cls:=.type "list",dict:=Qz,data:=.seq items nl,slots:=Hv }:=bZ _ hol
    have aEh:=PySem.F.sub_list_set
    have aEi:=PySem.F.sub_list_frozenset
    have yd:(Value.type "list" == Value.type "dict")=false:=by decide
    have yw:(s.heap.push (eV #[] 0 (.fresh 0 0 (!uq w)))).IsList l items:=⟨_,Zq,rfl,nl,rfl⟩
    unfold Builtin.«set.__init__» noKeywords Builtin.Frozenset.updateFrom
    unfold eV at *
    generalize hPI:pyIter=PI
    wp_walk
    subst hPI
    refine Au yw (ay (Ah ?_))
    have hlS:l<s.heap.objs.size:=aU hol
    have hh3:A.in1.in1.in1.handled=none:=by simp[hh]
    have hsz:(s.heap.push (eV #[] 0 (.fresh 0 0 (!uq w)))).objs.size=s.heap.objs.size+1:=kZ _ _
    have Zu:l≠(s.heap.push (eV #[] 0 (.fresh 0 0 (!uq w)))).objs.size:=by rw[hsz];exact bH (pH hlS)
    have hSf:s.heap.objs.size∉[(s.heap.push (eV #[] 0 (.fresh 0 0 (!uq w)))).objs.size,l]:=by
     rw[hsz];simp only[bT,cE,tE,or_false,not_or];exact⟨bH (tF _),jA hlS⟩
    refine Ep ((Walks.list hh3 _ l Zu items).toS) s.heap.objs.size hSf (λj=>ss.getD j 0) (λi v hv=>?hv) hb (items.size-0) 0 _ [] (by lia) (dM _)
     ⟨⟨_,cI _ rfl,rfl,rfl⟩,(yw.push _)⟩ ?hS0 (dM _) (λz=>⟨(λz=>nomatch z),λ⟨_,hj,_⟩=>absurd hj (Nat.not_lt_zero _)⟩) ?hR
    case hv=>exact xr hi i v (by rw[jH];exact hv)
    case hS0=>exact⟨⟨#[],0,_,bZ _ hS,rfl,rfl,rfl,List.Pairwise.nil⟩,pD,by decide⟩
    case hR=>
     intro s' l' hm Vt mem
     obtain⟨h',g',d',tk',os'⟩:=s'
     have eg:g'=s.gens:=hm.gens
     have ed:d'=s.drawn:=hm.drawn
     have eo:os'=s.os:=hm.os
     subst eg;subst ed;subst eo
     refine aK (aK ⟨rfl,h',tk',l',rfl,Vt,λz=>(mem z).trans (e z),λb o hb e=>?_⟩)
     refine hm.heap b o ?_ (bZ _ (bZ _ e))
     rw[hsz]
     simp only[bT,cE,tE,or_false,not_or];exact⟨bH hb,bH (pH hb)⟩
   ·cases r₂ with
    | error e=>exact Zf
    | ok fl₂=>
     cases fl₂ with
     | ret r=>
      obtain⟨rfl,h',tk,ls,rfl,Vt,hm',Zv⟩:=Zf
      repeat (any_goals (first | assumption | wp_step))
      exact h _ _ _ Vt hm' Zv
     | _=>exact Zf.elim
  | _=>exact hr.elim
end
section
variable {P:Program}{w:World}{A:Around}{E:Value->Shared->Prop}{s:Shared}{a:Addr}{l:List (Int×Tok)}
theorem kS.typeIs(S:kS w s.heap a l):s.TypeIs (.ref a) "set":=let ⟨_,_,_,e,_⟩:=S.ex;⟨_,e,rfl⟩
def KY(P:Program)(w:World)(z:Nat)(a:Addr)(l:List (Int×Tok))(I:Addr)(s':Shared):Prop:=
 ∃(ord:List Value) (fp:List Addr) (St:Nat->Shared->Prop),(∀B:Around,B.handled=none->WalksS P w B I fp [I] (λx y=>y=x) l.length (λi v=>ord[i]?=some v) St)/\St 0 s'/\
  (∀b∈fp,b<s'.heap.objs.size/\(b=a\/z<=b))/\I∈fp/\ord.Perm (l.map λp=>Value.int p.1 p.2)
end
section
variable {P:Program}{w:World}{A:Around}{E:Value->Shared->Prop}{s:Shared}{a:Addr}{es:Array (Int×Value)}{t:SetTable}{ep slot i:Nat}
theorem HJ{Q:Option (Value×Nat)->Shared->Prop}(hb:uq w=false)(hl:t.led=true)(d:(!t.plain&&decide (es.size > 1))=false)(hS:s.heap.get? a=some (eV es ep t))(hf:t.fits es.size=true)
  (q:Q (match es[SetTable.below t.place slot]?,t.place[SetTable.below t.place slot]? with | some (_,x),some j=>some (x,j+1) | _,_=>none) s):wpAny (model P w) A (setNext a slot i ep) Q E s:=by
 unfold setNext
 refine ay (tj hS rfl hf (ay (lP ?_)))
 rw[hb]
 dsimp only
 rw[aC (by simp)]
 show wpAny _ _ (if (!t.plain&&decide (es.size > 1))=true then _ else _) _ _ _
 rw[d,aC (by simp)]
 show wpAny _ _ ((if (!t.led && !es.isEmpty)=true then _ else _) >>= _) _ _ _
 rw[hl,Ai,Ao,aC (by simp)]
 exact ay (aK (aK q))
end
section
variable {P:Program}{w:World}{A:Around}{E:Value->Shared->Prop}{s:Shared}{a:Addr}{l:List (Int×Tok)}
theorem Lw{Q:Value->Shared->Prop}(S:kS w s.heap a l)
  (q:∀I s',s.heap.objs.size<=I->(∀b o,s.heap.get? b=some o->s'.heap.get? b=some o)->s'.gens=s.gens->s'.os=s.os->KY P w s.heap.objs.size a l I s'->Q (.ref I) s'):wpAny (model P w) A (pyIter (.ref a)) Q E s:=by
 obtain⟨⟨es,ep,t,ho,W5,hf,Q8,kJ⟩,nd,sz⟩:=id S
 have hsz:es.size=l.length:=by rw[<-di,W5,aY]
 have hval:es.toList.map (·.2)=l.map λp=>Value.int p.1 p.2:=by rw[W5,gJ];rfl
 have lt:a<s.heap.objs.size:=aU ho
 refine wpAny_pyIter_slot S.typeIs PySem.F.slot_set_iter (oU PySem.F.slot_set_iter S.typeIs ym ?_ (PySem.F.args_set_iter_1 _))
 unfold Builtin.«frozenset.__iter__»
 refine ay (m:=Builtin.Frozenset.slot0 "__iter__" ⟨[.ref a],[]⟩) (vJ (a:=a) rfl ?_)
 unfold Builtin.Frozenset.sizeOf
 refine ay (ay (Gh ho rfl hf (aK ?_)))
 unfold setDrawn
 refine ay (ay (tj ho rfl hf (ay (lP (aK ?_)))))
 have last:∀(first:Value) (s1:Shared),s1.heap.get? a=some (eV es ep t)->(∀b o,s.heap.get? b=some o->s1.heap.get? b=some o)->s.heap.objs.size<=s1.heap.objs.size->s1.gens=s.gens->s1.os=s.os->
   (∀s',s'.heap.get? s1.heap.objs.size=some (oY first 0 es.size ep a)->(∀b o,s1.heap.get? b=some o->s'.heap.get? b=some o)->KY P w s.heap.objs.size a l s1.heap.objs.size s')->
   wpAny (model P w) A.in1 (do let e <-setEpoch a;let v <-newFields "set_iterator" [first,rawInt 0,Value.ref a,rawInt es.size,rawInt e];ret v) (λfin s'=>∃v,fin=Fin.done (Flow.ret v)/\∃T' r,s'.TypeIs v T'/\typeLookup (Value.type T') (Str.ofString "__next__")=pure (some r)/\Q v s') E s1:=by
  intro first s1 h1 k1 z1 g1 o1 hw
  refine ay (wpAny_setEpoch_of h1 rfl hf ?_)
  unfold newFields
  refine ay (iJ ?_ (by size_fits))
  have hI:(s1.heap.push { cls:=.type "set_iterator",data:=.fields [first,rawInt 0,Value.ref a,rawInt es.size,rawInt ep].toArray }).get? s1.heap.objs.size=some (oY first 0 es.size ep a):=cI _ rfl
  refine aK ⟨_,rfl,"set_iterator",_,⟨_,hI,rfl⟩,fA.lookup,q _ _ z1 (λb o e=>bZ _ (k1 b o e)) g1 o1 (hw _ hI λb o e=>bZ _ e)⟩
 show wpAny _ _ (if (!uq w&&(!t.plain&&decide (es.size > 1)))=true then _ else _) _ _ _
 by_cases hd:(!uq w&&(!t.plain&&decide (es.size > 1)))=true
 ·rw[aB hd]
  refine ay (zT es.size (List.range es.size) _ _ (by simp) λys d hp=>?_)
  have hyl:ys.length=es.size:=by rw[hp.length_eq,List.length_range]
  refine ay (wpAny_newTuple ?_ (by rw[aY,hyl,hsz];exact Aq sz))
  refine last (.ref s.heap.objs.size) _ (bZ _ ho) (λb o e=>bZ _ e) (by show _<=(Heap.push _ _).objs.size;rw[kZ];exact iY _) rfl rfl λs' hI k=>?_
  have e1:(Heap.push s.heap { cls:=.type "tuple",data:=.seq (ys.map λ(i:Nat)=>rawInt i).toArray }).objs.size=s.heap.objs.size+1:=kZ _ _
  have W2:=k s.heap.objs.size _ (cI _ rfl)
  have Xa:=k a _ (bZ _ ho)
  have lts:∀j∈ys,j<es.size:=λj hj=>pC.mp (hp.mem_iff.mp hj)
  refine⟨ys.map λj=>(es.toList.map (·.2)).getD j .none,_,_,λC hC=>Ld (n:=l.length) (pl:=ys) (c:=0) (p:=s.heap.objs.size) (es:=es) (t:=t) (ep:=ep) (a:=a) hC (by rw[e1];exact bH (pH lt)) (by rw[e1];exact bH (tF _)) hf hsz (by rw[aY,hyl,hsz]) (by rw[hyl,hsz]) λi hi=>?_,⟨by rw[<-hsz];exact hI,Xa,W2⟩,?_,by simp,?_⟩
  ·have Iw:i<ys.length:=by rw[hyl,hsz];exact hi
   have hk:=lts ys[i] (lZ Iw)
   refine⟨ys[i],es[ys[i]].1,es[ys[i]].2,bJ Iw,dO hk,?_⟩
   rw[cH,bJ Iw,vT,qV,cH,jH,dO hk]
   rfl
  ·intro b hb
   simp only[bT,tE,or_false]at hb
   rcases hb with rfl | rfl | rfl
   ·exact⟨aU hI,.inr (by rw[e1];exact iY _)⟩
   ·exact⟨aU Xa,.inl rfl⟩
   ·exact⟨aU W2,.inr (bx _)⟩
  ·rw[<-hval]
   refine(hp.map _).trans ?_
   rw[show(List.range es.size).map (λj=>(es.toList.map (·.2)).getD j .none)=es.toList.map (·.2) from ?_]
   refine uK λi=>?_
   by_cases hi:i<es.size
   ·simp[hi]
   ·simp[hi]
 ·rw[aC hd]
  refine ay (aK ?_)
  refine last (rawInt 0) s ho (λ_ _ e=>e) (bx _) rfl rfl λs' hI k=>?_
  have Xa:=k a _ ho
  have fpl:∀b∈[s.heap.objs.size,a],b<s'.heap.objs.size/\(b=a\/s.heap.objs.size<=b):=λb hb=>by
   simp only[bT,tE,or_false]at hb
   rcases hb with rfl | rfl
   ·exact⟨aU hI,.inr (bx _)⟩
   ·exact⟨aU Xa,.inl rfl⟩
  cases hb:uq w with
  | true=>
   refine⟨(pickOrder (w.params.setOrder a ep) es).toList.map (·.2),_,_,λC hC=>yQ (n:=l.length) (es:=es) (t:=t) (ep:=ep) (a:=a) (λ_=>0) hC (bH lt) hf hsz (by rw[aY,(zr _ es).length_eq,di,hsz]) λi _ s1 C' E' Q' h1 hq=>?_,⟨by rw[<-hsz];exact hI,Xa⟩,fpl,by simp,?_⟩
   ·refine Ei hb h1 hf ?_
    rw[cH,jH,Option.map_map]at hq
    exact hq
   ·rw[<-hval];exact(zr _ es).map _
  | false=>
   have led:t.led=true:=by rw[Q8,hb];rfl
   have hpz:t.place.size=es.size:=by
    unfold SetTable.fits at hf
    rw[eI]at hf
    exact eq_of_beq hf.1
   have dr:(!t.plain&&decide (es.size > 1))=false:=by rw[hb]at hd;simpa using hd
   refine⟨es.toList.map (·.2),_,_,λC hC=>yQ (n:=l.length) (es:=es) (t:=t) (ep:=ep) (a:=a) (lD t.place) hC (bH lt) hf hsz (by rw[aY,di,hsz]) λi hi s1 C' E' Q' h1 hq=>?_,⟨by rw[<-hsz];exact hI,Xa⟩,fpl,by simp,by rw[hval]⟩
   refine HJ hb led dr h1 hf ?_
   rw[below_at kJ (by lia)]
   rw[cH,jH]at hq
   by_cases h2:i<es.size
   ·rw[dO h2]at hq ⊢
    rw[dO (show i<t.place.size by lia)]
    have e:lD t.place (i+1)=t.place[i]'(by lia)+1:=by
     unfold lD
     rw[aC (by lia),Ba,jJ,dO (show i<t.place.size by lia)]
     rfl
    rw[e]at hq
    exact hq
   ·rw[GD (by lia)]at hq ⊢
    exact hq
theorem CJ{Q:List Value->Shared->Prop}(hh:A.handled=none)(S:kS w s.heap a l)
  (q:∀(s':Shared) (vs:List Value),(∀b o,s.heap.get? b=some o->s'.heap.get? b=some o)->s.heap.objs.size<=s'.heap.objs.size->s'.gens=s.gens->s'.os=s.os->vs.Perm (l.map λp=>Value.int p.1 p.2)->Q vs s'):wpAny (model P w) A (collect (.ref a)) Q E s:=by
 have lt:a<s.heap.objs.size:=let ⟨_,_,_,e,_⟩:=S.ex;aU e
 unfold collect
 refine ay (Ah (lg entry_proto_collect' ?_))
 rw[pK PySem.F.plain_proto_collect _]
 refine ay (m:=newList []) (iJ ?_)
 refine aK ⟨vN Bh _,lg entry_list_iadd' ?_⟩
 rw[pK Bh _]
 let L0:Obj:={ cls:=.type "list",data:=.seq ([]:List Value).toArray }
 have k0:∀b o,s.heap.get? b=some o->(s.heap.push L0).get? b=some o:=λb o e=>bZ _ e
 have hL:(s.heap.push L0).get? s.heap.objs.size=some L0:=cI _ rfl
 have S0:kS w (s.heap.push L0) a l:=S.at λo e=>k0 a o e
 show wpAny _ A.in1 (Builtin.List.listExtendWith (.ref s.heap.objs.size) (.ref a) (.ref s.heap.objs.size)) _ _ { s with heap:=s.heap.push L0 }
 unfold Builtin.List.listExtendWith
 refine ay (vL (T:="set") (kS.typeIs (s:={ s with heap:=s.heap.push L0 }) S0) ?_)
 have h1:Builtin.List.listSameRef (.ref s.heap.objs.size) (.ref a)=false:=by simp[Builtin.List.listSameRef,jA lt]
 have h2:(Value.type "set" == Value.type "list")=false:=by decide
 have h3:(Value.type "set" == Value.type "tuple")=false:=by decide
 simp only[h1,h2,h3,Aj,iW,fF]
 refine ay (Lw (s:={ s with heap:=s.heap.push L0 }) S0 λI s1 zI k1 g1 o1 W=>?_)
 have S1:kS w s1.heap a l:=S0.at λo e=>k1 a o e
 have Cr:=k1 _ _ hL
 have yd:s.heap.objs.size≠I:=by
  have:(s.heap.push L0).objs.size<=I:=zI
  rw[kZ]at this
  exact bH this
 refine ay (jB (O7 (kS.typeIs S1) ?_))
 obtain⟨ord,fp,St,wk,st,fpl,mI,po⟩:=W
 have hlen:l.length<=sizeLine:=Aq S.sz
 have z1:(s.heap.push L0).objs.size=s.heap.objs.size+1:=kZ _ _
 have nf:s.heap.objs.size∉fp:=λz=>by
  rcases(fpl _ z).2 with e | e
  ·exact absurd e (jA lt)
  ·have e':(s.heap.push L0).objs.size<=s.heap.objs.size:=e
   rw[z1]at e'
   exact absurd e' (Nat.not_succ_le_self _)
 refine wpAny_ite_split (λ_=>?_) (λz=>absurd (by decide +kernel) z)
 refine ay (iC (ay ?_))
 show wpAny _ _ (updateSeq s.heap.objs.size (·.push .none) >>= λ_=>updateSeq s.heap.objs.size (·.pop)) _ _ _
 refine ay (wpAny_updateSeq Cr rfl ?_)
 have Sy:=oW (Obj.mapSeq (·.push Value.none)) Cr rfl
 refine wpAny_updateSeq (hz:=by seq_fits) Sy rfl ?_
 have Sx:=oW (Obj.mapSeq (·.pop)) Sy rfl
 have YC:∀b o,b≠s.heap.objs.size->s1.heap.get? b=some o->((s1.heap.update s.heap.objs.size (Obj.mapSeq (·.push Value.none))).update s.heap.objs.size (Obj.mapSeq (·.pop))).get? b=some o:=
  λb o hb e=>(uO _ _ (fH hb)).trans ((uO _ _ (fH hb)).trans e)
 have W1:=wk A.in1 hh
 refine aK ⟨vN PySem.F.plain_extend_loop _,codeAny_extend_loopS W1 hlen _ nf _ l.length 0 _ #[] _ rfl (dM _) (W1.frame 0 s1 _ s1.toks st (bx _) λb hb o e=>YC b o (λz=>nf (z ▸ hb)) e) Sx (ItemsOf.nil _) λs2 acc c2 mv hS2 Fn=>?_⟩
 refine ay (m:=load s.heap.objs.size) (wpAny_load hS2 (aK ?_))
 refine q s2 acc.toList (λb o e=>mv.heap b o (λhm=>?_) (YC b o (bH (aU e)) (k1 b o (k0 b o e)))) (iZ (aU hS2)) (mv.gens.trans g1) (mv.os.trans o1) ?_
 ·have jj:b<s.heap.objs.size:=aU e
  rcases bT.mp hm with e1 | e1
  ·exact absurd e1 (bH jj)
  ·rw[cE.mp e1]at jj
   have:(s.heap.push L0).objs.size<=I:=zI
   rw[z1]at this
   exact absurd (cT jj (Nat.le_of_succ_le this)) (jC _)
 ·have e:acc.toList=ord:=by
   refine uK λj=>?_
   by_cases hj:j<l.length
   ·have h0:j<acc.size:=by rw[Fn.1];exact hj
    have h1:acc[j]?=some acc[j]:=dO h0
    rw[jH,h1,Fn.2 j _ h1]
   ·rw[mQ (by rw[di,Fn.1];lia),mQ (by rw[po.length_eq,aY];lia)]
  rw[e];exact po
theorem Im{vs:List Value}{l:List (Int×Tok)}(po:vs.Perm (l.map λp=>Value.int p.1 p.2)):∃ts,IntsAre vs ts/\ts.Perm (l.map (·.1)):=by
 have:∃l':List (Int×Tok),vs=l'.map (λp:Int×Tok=>Value.int p.1 p.2)/\l'.Perm l:=by
  let back:Value->Int×Tok:=λe=>match e with | .int x t=>(x,t) | _=>(default,0)
  refine⟨vs.map back,?_,?_⟩
  ·rw[gJ]
   conv=>lhs;rw[<-vM vs]
   refine qU λe he=>?_
   obtain⟨z,_,rfl⟩:=fY.mp (po.mem_iff.mp he)
   rfl
  ·have:=po.map back
   rw[gJ,show(back ∘ λp:Int×Tok=>Value.int p.1 p.2)=id from rfl,vM]at this
   exact this
 obtain⟨l',rfl,pl⟩:=this
 refine⟨l'.map (·.1),?_,pl.map _⟩
 clear po pl
 induction l' with
 | nil=>exact .nil
 | cons p l' ih=>exact .cons p.1 p.2 ih
theorem Hi{x:Value}{us:List Int}{Q:Value->Shared->Prop}(h64:us.length<64)
  (hc:∀(Q':List Value->Shared->Prop),(∀(s':Shared) (vs:List Value) (ts:List Int),(∀b o,s.heap.get? b=some o->s'.heap.get? b=some o)->s.heap.objs.size<=s'.heap.objs.size->s'.gens=s.gens->s'.os=s.os->IntsAre vs ts->ts.Perm us->Q' vs s')->wpAny (model P w) A.in1 (collect x) Q' E s)
  (q:∀(s':Shared) (D c:Nat) (vs:List Value) (ss:List Int),(∀b o,s.heap.get? b=some o->s'.heap.get? b=some o)->s.heap.objs.size<=D->s'.gens=s.gens->s'.os=s.os->s'.heap.get? D=some { cls:=.type "list",data:=.seq vs.toArray c }->IntsAre vs ss->
   ss.Perm us->ss.Pairwise (·<=·)->Q (.ref D) s'):wpAny (model P w) A (call (.builtin "sorted") [x]) Q E s:=by
 refine Calls.call_function_entry kind_sorted plain_sorted entry_sorted (args_sorted1 _) ?_
 unfold Builtin.«sorted»
 refine ay (m:=checkCount "sorted" 1 1 _) (aK ?_)
 refine ay (hc _ λs1 vs ts k1 old g1 o1 NX pts=>?_)
 have hl:vs.length=us.length:=by rw[NX.length,pts.length_eq]
 refine ay (wpAny_newList ?_ (by rw[hl];exact lB (by lia)))
 have Sr:(s1.heap.push (seqObj "list" vs.toArray 0)).get? s1.heap.objs.size=some (seqObj "list" vs.toArray 0):=cI _ rfl
 refine ay (jB (oU slot_list_sort ⟨_,Sr,rfl⟩ entry_list_sort (list_sort_tree Sr NX (by lia) λout ss' e1 e2 e3=>⟨_,rfl,?_⟩) (args_list_sort _)))
 obtain⟨c,hc⟩:=sortedHeap_at (out:=out) Sr
 refine aK ⟨_,rfl,q _ s1.heap.objs.size c out.toList ss' (λb o e=>?_) old g1 o1 (by rw[hc]) e1 (e2.trans pts) e3⟩
 have lt:=aU (k1 b o e)
 show(sortedHeap _ _ _ _).get? b=some o
 rw[sortedHeap_old (bH lt) (by rw[size_push'];exact pH lt)]
 exact bZ _ (k1 b o e)
end
def InS(w:World)(p:Addr)(ss:List Int):HO:=.ext λh=>∃l,kS w h p l/\∀z,z∈l.map (·.1)↔z∈ss
section
variable {X:Cx}
def DN(w:World):List V->Hp->VK->Prop:=λvs H Q=>∃a ss,vs=[.ref a]/\H a=some (InS w a ss)/\ss.length<64/\
 ∀ss':List Int,(∀z,z∈ss'↔z∈ss)->ss'.Pairwise (· < ·)->∀p,H p=none->Q (.ref p) (upd H p (.lst (ss'.map V.int)))
theorem Ic{l:List Int}(n:l.Nodup)(h:l.Pairwise (·<=·)):l.Pairwise (· < ·):=(List.Pairwise.and n h).imp λ⟨a,b⟩=>by lia
theorem vo(hh:X.A.handled=none):fw X (.builtin "sorted") (DN X.w):=by
 intro pins s σ H vs us Q I rv h
 obtain⟨a,ss,rfl,hq,hn,q⟩:=h
 obtain⟨u,rfl,ru⟩:=vals1 rv
 cases ru
 obtain⟨⟨l,hS,hm⟩,_,_⟩:=I.bE a _ hq
 have hl:(l.map (·.1)).length<=ss.length:=zF hS.nd λx hx=>(hm x).mp hx
 refine Hi (us:=l.map (·.1)) (by lia) (λQ' hQ'=>CJ (A:=X.A.in1) hh hS λs' vs k z g o po=>let ⟨ts,h1,h2⟩:=Im po;hQ' s' vs ts k z g o h1 h2) λs' D c vs ss' k z g o hD Q0 pss srt=>?_
 have zO:H D=none:=I.bE.fresh z
 have I1:Inv X pins σ (upd H D (.lst (ss'.map V.int))) { s with heap:=s'.heap,toks:=s.toks }:=I.laid k z ⟨by rw[aY,pss.length_eq];exact lB (by lia),vs,c,tP Q0,hD⟩
 refine⟨.ref D,_,I1.same rfl g o,rfl,q ss' (λz=>(pss.mem_iff).trans (hm z)) (Ic (pss.nodup_iff.mpr hS.nd) srt) _ zO⟩
def DR(w:World):List V->Hp->VK->Prop:=λvs H Q=>∃a,vs=[.ref a]/\∃ss:List Int,H a=some (.lst (ss.map V.int))/\ss.length<4000/\∀p,H p=none->Q (.ref p) (upd H p (InS w p ss))
def iS(w:World):List V->Hp->VK->Prop:=λvs H Q=>∃a,vs=[.ref a]/\∃ss:List Int,H a=some (InS w a ss)/\ss.length<64/\
 ∀ss':List Int,(∀z,z∈ss'↔z∈ss)->ss'.Pairwise (· < ·)->∀p,H p=none->Q (.ref p) (upd H p (.lst (ss'.map V.int)))
theorem xO(hh:X.A.handled=none):fw X (.builtin "sorted") (iS X.w):=(vo hh).imp λx H Q ⟨p,e,ss,h,n,q⟩=>⟨p,ss,e,h,n,q⟩
end
end L2
end
section
namespace HT
open PySem PyProof.Rows L2
section
variable {prog:Program}{w:World}{A:Around}{E:Value->Shared->Prop}{s:Shared}
theorem oJ{t sl:Addr}{items:Array Value}{vl vu:Value}{lo hi:Option Int}{Q:Value->Shared->Prop}(ht:IsTup s.heap t items)(hs:s.heap.IsSliceOf sl vl vu .none)(pl:IsPart vl lo)(pu:IsPart vu hi)
  (h1:dn items.size 0 lo=0) (h2:dn items.size items.size hi=items.size) (h:Q (.ref t) s):wpAny (model prog w) A (getItem (.ref t) (.ref sl)) Q E s:=by
 obtain⟨os,Zo,hcs,hds⟩:=id hs
 have hTs:s.TypeIs (.ref sl) "slice":=⟨os,Zo,hcs⟩
 unfold getItem
 try with_reducible refine jB ?_
 first | refine ay (aK ?_) | skip
 refine ay (wpAny_sequenceKey ht.typeIs (by decide) ?_)
 refine ay (tJ (name:=Str.ofString "__getitem__") ht.typeIs yL
  (oU yL ht.typeIs entry_tuple_getitem ?_ (args_tuple_getitem _ _)))
 show wpAny _ _ (Builtin.Tuple.tupleItemsOf (.ref t) >>= _) _ _ s
 refine ay (tupleItemsOf_ ht ?_)
 refine ay (vL hTs ?_)
 rw[aB (by decide)]
 refine ay (kz hs pl pu ?_)
 have ip:(((dn items.size 0 lo:Nat):Int)==0&&(1:Int)==1&&(dn items.size items.size hi-dn items.size 0 lo)==items.size)=true:=by
  rw[h1,h2];simp
 show wpAny _ _ (if (((dn items.size 0 lo:Nat):Int)==0&&(1:Int)==1&&(dn items.size items.size hi-dn items.size 0 lo)==items.size)=true then _ else _) _ _ s
 rw[aB ip]
 refine ay (m:=Builtin.Tuple.tupleIsExact (.ref t)) ?_
 unfold Builtin.Tuple.tupleIsExact
 refine ay (vL ht.typeIs (aK ?_))
 rw[aB (by decide)]
 exact ay (iC (aK ⟨_,rfl,aK h⟩))
end
end HT
namespace L2
open PySem PySem.Spec PyProof.Rows
section
variable {X:Cx}
def zg:V->Option Int->Option Int->Hp->VK->Prop:=λx lo hi H Q=>∃a,x=.ref a/\∃xs,H a=some (.tup xs)/\
 ((HT.dn xs.length 0 lo=0/\HT.dn xs.length xs.length hi=xs.length)->Q (.ref a) H)/\(¬(HT.dn xs.length 0 lo=0/\HT.dn xs.length xs.length hi=xs.length)->∀p,H p=none->Q (.ref p) (upd H p (.tup (iO xs lo hi))))
theorem aAB:SJ X zg:=by
 intro pins s σ H x v vl vu lo hi sl Q I rx hs pl pu h
 obtain⟨a,rfl,xs,hx,q1,q2⟩:=h
 by_cases hw:HT.dn xs.length 0 lo=0/\HT.dn xs.length xs.length hi=xs.length
 ·cases rx
  obtain⟨its,r,ht,hz⟩:=I.tuple (ck hx)
  have hlen:its.toArray.size=xs.length:=by rw[cD];exact r.length.symm
  refine⟨"tuple",_,yL.lookup,ht.typeIs,?_⟩
  exact HT.oJ ht hs pl pu (by rw[hlen];exact hw.1) (by rw[hlen];exact hw.2) ⟨.ref a,H,I,rfl,q1 hw⟩
 ·exact aCo pins s σ H _ v vl vu lo hi sl Q I rx hs pl pu ⟨a,rfl,xs,hx,hw,q2 hw⟩
end
section
variable {X:Cx}{pins:List (Addr×Obj)}{s:Shared}{σ:St}{H:Hp}
def PX(neg:Bool):R2:=λx y H Q=>∃a L,x=.ref a/\y=.ref L/\∃u bs ts,H a=some (.tup (List.map V.int u))/\H L=some (.lst (List.map V.ref bs))/\aE H bs ts/\Q (.bl (if neg then !decide (u∈ts) else decide (u∈ts))) H
end
def nW{δ:Type}(Rep:Hp->V->δ->Prop)(H:Hp)(vs:List V)(ds:List δ):Prop:=vs.length=ds.length/\∀(i:Nat) v d,vs[i]?=some v->ds[i]?=some d->Rep H v d
theorem nW.nil{δ:Type}{Rep:Hp->V->δ->Prop}{H:Hp}:nW Rep H [] []:=⟨rfl,λi v d h=>by simp at h⟩
theorem nW.snoc{δ:Type}{Rep:Hp->V->δ->Prop}{H:Hp}{vs:List V}{ds:List δ}{v:V}{d:δ}(h:nW Rep H vs ds)(hv:Rep H v d):nW Rep H (vs++[v]) (ds++[d]):=by
 refine⟨by rw[cS,cS,h.1];rfl,λi u e hu he=>?_⟩
 have hl:=h.1
 by_cases hi:i<vs.length
 ·rw[mh hi]at hu
  rw[mh (by lia)]at he
  exact h.2 i u e hu he
 ·rw[jI (by lia)]at hu
  rw[jI (by lia),<-hl]at he
  have h0:i-vs.length=0:=by
   cases z:i-vs.length with
   | zero=>rfl
   | succ n=>rw[z]at hu;simp at hu
  rw[h0]at hu he
  cases hu;cases he
  exact hv
theorem nW.mono{δ:Type}{Rep:Hp->V->δ->Prop}{H H':Hp}{vs:List V}{ds:List δ}(k:∀v d,Rep H v d->Rep H' v d)(h:nW Rep H vs ds):nW Rep H' vs ds:=⟨h.1,λi v d a b=>k v d (h.2 i v d a b)⟩
def jy(H:Hp)(v:V)(x:List Int):Prop:=∃b,v=.ref b/\H b=some (.tup (List.map V.int x))
theorem Bt{H:Hp}{vs:List V}{ts:List (List Int)}(h:nW jy H vs ts):∃bs,vs=List.map V.ref bs/\aE H bs ts:=by
 induction vs generalizing ts with
 | nil=>
  have:ts=[]:=GP.mp h.1.symm
  subst this
  exact⟨[],rfl,rfl,λi b t e=>by simp at e⟩
 | cons v vs ih=>
  cases ts with
  | nil=>exact absurd h.1 (by simp)
  | cons t ts=>
   obtain⟨bs,e1,s1⟩:=ih (ts:=ts) ⟨by have:=h.1;simpa using this,λi v d a b=>h.2 (i+1) v d (by simpa using a) (by simpa using b)⟩
   obtain⟨b,rfl,hb⟩:=h.2 0 v t rfl rfl
   refine⟨b::bs,by rw[e1];rfl,by rw[eJ,eJ,s1.1],λi c u hc hu=>?_⟩
   cases i with
   | zero=>cases hc;cases hu;exact hb
   | succ n=>exact s1.2 n c u (by simpa using hc) (by simpa using hu)
theorem og{δ:Type}(f:Nat->Option δ)(i:Nat):(List.range (i+1)).filterMap f=(List.range i).filterMap f++(f i).toList:=by
 rw[List.range_succ,List.filterMap_append]
 cases e:f i <;> simp[e]
theorem RD{δ:Type}(f:Nat->Option δ)(i:Nat):((List.range i).filterMap f).length<=i:=e8 (List.length_filterMap_le _ _) (by rw[List.length_range];exact bx _)
theorem Jg{K:PySem.W.Frag}{a:Addr}{zs:List V}{idx:List Nat}{tt:CB->TT}{te:CB->TE}{σ:St}{Q:VK}{H1:Hp}{δ:Type}(S:Hp->Hp->Prop)(f:Nat->Option δ)(Rep:Addr->Hp->V->δ->Prop)(sr:S H1 H1)(st:∀H H',S H1 H->S H H'->S H1 H')
  (sp:∀D H o,H1 D=none->S H1 H->S H1 (upd H D o)) (sk:∀D H H' o,H1 D=none->S H1 H->S H H'->H D=some o->H' D=some o)
  (mono:∀D H H' v d,S H1 H->S H H'->Rep D H v d->Rep D H' v d) (HN:∀D H o v d,H1 D=none->S H1 H->(∃xs,H D=some (.lst xs))->Rep D H v d->Rep D (upd H D o) v d)
  (hL:∀H,S H1 H->H a=some (.lst zs)) (l9:zs.length<=900000)
  (hs:∀(D:Addr) (c:CB) (H:Hp) (i:Nat) (z:V) (yes:V->Hp->Prop) (no:Hp->Prop),zs[i]?=some z->S H1 H->H1 D=none->(∃xs,H D=some (.lst xs))->(∀d,f i=some d->∀v H',S H H'->Rep D H' v d->yes v H')->(f i=none->∀H',S H H'->no H')->tt c (some (z)::cw σ idx) H λb H4=>if b=true then te c (some (z)::cw σ idx) H4 yes else no H4)
  (q:∀D H' vs,S H1 H'->H1 D=none->H' D=some (.lst vs)->nW (Rep D) H' vs ((List.range (zs.length)).filterMap f)->Q (.ref D) H'):jZ (Jr K a) 1 idx (λ_=>dA 0) tt te σ Q H1:=by
 obtain⟨Pc,jw⟩:∃Pc:Addr->Nat->List V->Hp->Prop,∀Z i ys H',Pc Z i ys H'↔S H1 H'/\H' Z=some (.lst ys)/\nW (Rep Z) H' ys ((List.range i).filterMap f):=⟨_,λ_ _ _ _=>dJ⟩
 refine sA Pc (λZ hZ=>(jw _ _ _ _).mpr ⟨sp Z _ _ hZ sr,ah,.nil⟩) (λZ hZ i ys H' _ pv=>hL H' ((jw _ _ _ _).mp pv).1) (λZ hZ i z ys H' hz pv cb=>?_) (λZ hZ ys H' pv=>?_)
 ·obtain⟨s1,qu,rl⟩:=(jw _ _ _ _).mp pv
  have hi:i<zs.length:=(dc.mp hz).1
  refine hs Z cb H' i z _ _ hz s1 hZ ⟨_,qu⟩ (λd hd v H2 s2 hv=>?_) (λhn H2 s2=>?_)
  ·refine⟨sk Z _ _ _ hZ s1 s2 qu,?_,(jw _ _ _ _).mpr ⟨sp Z _ _ hZ (st _ _ s1 s2),ah,?_⟩⟩
   ·rw[rl.1]
    have:=RD f i
    exact qT (by lia:((List.range i).filterMap f).length<=1000000) (by decide)
   ·rw[og,hd]
    exact(((rl.mono λv d=>mono Z _ _ v d s1 s2)).snoc hv).mono λv d=>HN Z H2 _ v d hZ (st _ _ s1 s2) ⟨_,sk Z _ _ _ hZ s1 s2 qu⟩
  ·refine(jw _ _ _ _).mpr ⟨st _ _ s1 s2,sk Z _ _ _ hZ s1 s2 qu,?_⟩
   rw[og,hn,Option.toList_none,fZ]
   exact rl.mono λv d=>mono Z _ _ v d s1 s2
 ·obtain⟨s1,qu,rl⟩:=(jw _ _ _ _).mp pv
  exact q Z H' ys s1 hZ qu rl
theorem Nq{K:PySem.W.Frag}{a:Addr}{zs:List V}{idx:List Nat}{tt:CB->TT}{te:CB->TE}{σ:St}{Q:VK}{H1:Hp}{δ:Type}(S:Hp->Hp->Prop)(f:Nat->Option δ)(Rep:Addr->Hp->V->δ->Prop)(sr:S H1 H1)(st:∀H H',S H1 H->S H H'->S H1 H')
  (sp:∀D H o,H1 D=none->S H1 H->S H1 (upd H D o)) (sk:∀D H H' o,H1 D=none->S H1 H->S H H'->H D=some o->H' D=some o)
  (mono:∀D H H' v d,S H1 H->S H H'->Rep D H v d->Rep D H' v d) (HN:∀D H o v d,H1 D=none->S H1 H->(∃xs,H D=some (.lst xs))->Rep D H v d->Rep D (upd H D o) v d)
  (hL:∀H,S H1 H->H a=some (.tup zs)) (l9:zs.length<=900000)
  (hs:∀(D:Addr) (c:CB) (H:Hp) (i:Nat) (z:V) (yes:V->Hp->Prop) (no:Hp->Prop),zs[i]?=some z->S H1 H->H1 D=none->(∃xs,H D=some (.lst xs))->(∀d,f i=some d->∀v H',S H H'->Rep D H' v d->yes v H')->(f i=none->∀H',S H H'->no H')->tt c (some (z)::cw σ idx) H λb H4=>if b=true then te c (some (z)::cw σ idx) H4 yes else no H4)
  (q:∀D H' vs,S H1 H'->H1 D=none->H' D=some (.lst vs)->nW (Rep D) H' vs ((List.range (zs.length)).filterMap f)->Q (.ref D) H'):jZ (Wm K a) 1 idx (λ_=>dA 0) tt te σ Q H1:=by
 obtain⟨Pc,jw⟩:∃Pc:Addr->Nat->List V->Hp->Prop,∀Z i ys H',Pc Z i ys H'↔S H1 H'/\H' Z=some (.lst ys)/\nW (Rep Z) H' ys ((List.range i).filterMap f):=⟨_,λ_ _ _ _=>dJ⟩
 refine jS Pc (λZ hZ=>(jw _ _ _ _).mpr ⟨sp Z _ _ hZ sr,ah,.nil⟩) (λZ hZ i ys H' _ pv=>hL H' ((jw _ _ _ _).mp pv).1) (λZ hZ i z ys H' hz pv cb=>?_) (λZ hZ ys H' pv=>?_)
 ·obtain⟨s1,qu,rl⟩:=(jw _ _ _ _).mp pv
  have hi:i<zs.length:=(dc.mp hz).1
  refine hs Z cb H' i z _ _ hz s1 hZ ⟨_,qu⟩ (λd hd v H2 s2 hv=>?_) (λhn H2 s2=>?_)
  ·refine⟨sk Z _ _ _ hZ s1 s2 qu,?_,(jw _ _ _ _).mpr ⟨sp Z _ _ hZ (st _ _ s1 s2),ah,?_⟩⟩
   ·rw[rl.1]
    have:=RD f i
    exact qT (by lia:((List.range i).filterMap f).length<=1000000) (by decide)
   ·rw[og,hd]
    exact(((rl.mono λv d=>mono Z _ _ v d s1 s2)).snoc hv).mono λv d=>HN Z H2 _ v d hZ (st _ _ s1 s2) ⟨_,sk Z _ _ _ hZ s1 s2 qu⟩
  ·refine(jw _ _ _ _).mpr ⟨st _ _ s1 s2,sk Z _ _ _ hZ s1 s2 qu,?_⟩
   rw[og,hn,Option.toList_none,fZ]
   exact rl.mono λv d=>mono Z _ _ v d s1 s2
 ·obtain⟨s1,qu,rl⟩:=(jw _ _ _ _).mp pv
  exact q Z H' ys s1 hZ qu rl
theorem jo{K:PySem.W.Frag}{a:Addr}{zs:List V}{idx:List Nat}{tt:CB->TT}{te:CB->TE}{σ:St}{Q:VK}{H1:Hp}{δ:Type}(f:Nat->Option δ)(Rep:Addr->Hp->V->δ->Prop)(mono:∀D H H' v d,bN H H'->Rep D H v d->Rep D H' v d)(HN:∀D H o v d,(∃xs,H D=some (.lst xs))->H1 D=none->Rep D H v d->Rep D (upd H D o) v d)
  (hL:H1 a=some (.lst zs)) (l9:zs.length<=900000)
  (hs:∀(D:Addr) (c:CB) (H:Hp) (i:Nat) (z:V) (yes:V->Hp->Prop) (no:Hp->Prop),zs[i]?=some z->bN H1 H->H1 D=none->(∃xs,H D=some (.lst xs))->(∀d,f i=some d->∀v H',bN H H'->Rep D H' v d->yes v H')->(f i=none->∀H',bN H H'->no H')->tt c (some (z)::cw σ idx) H λb H4=>if b=true then te c (some (z)::cw σ idx) H4 yes else no H4)
  (q:∀D H' vs,bN H1 H'->H1 D=none->H' D=some (.lst vs)->nW (Rep D) H' vs ((List.range (zs.length)).filterMap f)->Q (.ref D) H'):jZ (Jr K a) 1 idx (λ_=>dA 0) tt te σ Q H1:=
 Jg bN f Rep (λ_ _ e=>e) (λ_ _ a b=>a.trans b) (λD H o hD s b u e=>by rw[av (aj e hD)];exact s b u e) (λD H H' o _ _ s e=>s D o e) (λD H H' v d _ s r=>mono D H H' v d s r) (λD H o v d hD _ hl r=>HN D H o v d hl hD r) (λH s=>s _ _ hL) l9 hs q
theorem uk{K:PySem.W.Frag}{a:Addr}{zs:List V}{idx:List Nat}{tt:CB->TT}{te:CB->TE}{σ:St}{Q:VK}{H1:Hp}{δ:Type}(f:Nat->Option δ)(Rep:Addr->Hp->V->δ->Prop)(mono:∀D H H' v d,bN H H'->Rep D H v d->Rep D H' v d)(HN:∀D H o v d,(∃xs,H D=some (.lst xs))->H1 D=none->Rep D H v d->Rep D (upd H D o) v d)
  (hL:H1 a=some (.tup zs)) (l9:zs.length<=900000)
  (hs:∀(D:Addr) (c:CB) (H:Hp) (i:Nat) (z:V) (yes:V->Hp->Prop) (no:Hp->Prop),zs[i]?=some z->bN H1 H->H1 D=none->(∃xs,H D=some (.lst xs))->(∀d,f i=some d->∀v H',bN H H'->Rep D H' v d->yes v H')->(f i=none->∀H',bN H H'->no H')->tt c (some (z)::cw σ idx) H λb H4=>if b=true then te c (some (z)::cw σ idx) H4 yes else no H4)
  (q:∀D H' vs,bN H1 H'->H1 D=none->H' D=some (.lst vs)->nW (Rep D) H' vs ((List.range (zs.length)).filterMap f)->Q (.ref D) H'):jZ (Wm K a) 1 idx (λ_=>dA 0) tt te σ Q H1:=
 Nq bN f Rep (λ_ _ e=>e) (λ_ _ a b=>a.trans b) (λD H o hD s b u e=>by rw[av (aj e hD)];exact s b u e) (λD H H' o _ _ s e=>s D o e) (λD H H' v d _ s r=>mono D H H' v d s r) (λD H o v d hD _ hl r=>HN D H o v d hl hD r) (λH s=>s _ _ hL) l9 hs q
theorem jy.mono{H H':Hp}{v:V}{d:List Int}(k:∀b xs,H b=some (.tup xs)->H' b=some (.tup xs))(r:jy H v d):jy H' v d:=let ⟨b,e,h⟩:=r;⟨b,e,k _ _ h⟩
theorem jy.put{H:Hp}{v:V}{d:List Int}{D:Addr}{o:HO}(hl:∃xs,H D=some (.lst xs))(r:jy H v d):jy (upd H D o) v d:=by
 obtain⟨b,rfl,h⟩:=r
 obtain⟨xs,hx⟩:=hl
 exact⟨b,rfl,by rw[av (bj h hx (by intro z;cases z))];exact h⟩
theorem jy.same:∀(D:Addr) (H H':Hp) (v:V) (d:List Int),bN H H'->(λ_=>jy) D H v d->(λ_=>jy) D H' v d:=λ_ _ _ _ _ s r=>r.mono λb xs e=>s _ _ e
theorem jy.puts{H1:Hp}:∀(D:Addr) (H:Hp) (o:HO) (v:V) (d:List Int),(∃xs,H D=some (.lst xs))->H1 D=none->(λ_=>jy) D H v d->(λ_=>jy) D (upd H D o) v d:=λ_ _ _ _ _ hl _ r=>r.put hl
def Wk(H:Hp)(v d:V):Prop:=v=d
theorem Bk{H:Hp}{vs ds:List V}(h:nW Wk H vs ds):vs=ds:=uK λi=>by
 by_cases hi:i<vs.length
 ·have hj:i<ds.length:=by have:=h.1;lia
  rw[bJ hi,bJ hj]
  exact fJ some (h.2 i _ _ (bJ hi) (bJ hj))
 ·rw[mQ (by lia),mQ (by have:=h.1;lia)]
theorem VL{δ:Type}{f:Nat->Option δ}{l:List δ}(h:∀i,i<l.length->f i=l[i]?):(List.range l.length).filterMap f=l:=by
 have:∀n,n<=l.length->(List.range n).filterMap f=l.take n:=λn=>by
  induction n with
  | zero=>intro _;rfl
  | succ n ih=>
   intro hn
   rw[og,ih (by lia),h n (by lia),jE]
 rw[this _ (bx _),iV]
theorem ud{δ:Type}{l:List δ}{p:δ->Bool}{f:Nat->Option δ}(h:∀i (hi:i<l.length),f i=if p l[i] then some l[i] else none):(List.range l.length).filterMap f=l.filter p:=by
 have:∀n,n<=l.length->(List.range n).filterMap f=(l.take n).filter p:=λn=>by
  induction n with
  | zero=>intro _;rfl
  | succ n ih=>
   intro hn
   rw[og,ih (by lia),h n (by lia),jE,Az,bJ (by lia)]
   cases e:p l[n] <;> simp[e]
 rw[this _ (bx _),iV]
theorem xG{α δ:Type}{l:List α}{g:α->δ}{f:Nat->Option δ}(h:∀i (hi:i<l.length),f i=some (g l[i])):(List.range l.length).filterMap f=l.map g:=by
 have:=VL (f:=f) (l:=l.map g) λi hi=>by
  rw[aY]at hi
  rw[h i hi,cH,bJ hi];rfl
 rwa [aY]at this
end L2
end
section
namespace L2
open PySem
theorem aE.mono{H H':Hp}{bs:List Addr}{ts:List (List Int)}(k:∀b xs,H b=some (.tup xs)->H' b=some (.tup xs))(s:aE H bs ts):aE H' bs ts:=⟨s.1,λi b t hb ht=>k _ _ (s.2 i b t hb ht)⟩
theorem aE.snoc{H:Hp}{bs:List Addr}{ts:List (List Int)}{b:Addr}{t:List Int}(s:aE H bs ts)(hb:H b=some (.tup (List.map V.int t))):aE H (bs++[b]) (ts++[t]):=by
 refine⟨by rw[cS,cS,s.1];rfl,λi c u hc hu=>?_⟩
 by_cases hi:i<bs.length
 ·rw[mh hi]at hc
  rw[mh (by rw[<-s.1];exact hi)]at hu
  exact s.2 i c u hc hu
 ·rw[jI (by lia)]at hc
  rw[jI (by rw[<-s.1];lia),<-s.1]at hu
  have h0:i-bs.length=0:=by
   cases z:i-bs.length with
   | zero=>rfl
   | succ n=>rw[z]at hc;simp at hc
  rw[h0]at hc hu
  cases hc;cases hu
  exact hb
theorem aE.app{H:Hp}{bs cs:List Addr}{ts us:List (List Int)}(s:aE H bs ts)(u:aE H cs us):aE H (bs++cs) (ts++us):=by
 refine⟨by rw[cS,cS,s.1,u.1],λi c x hc hx=>?_⟩
 by_cases hi:i<bs.length
 ·rw[mh hi]at hc
  rw[mh (by rw[<-s.1];exact hi)]at hx
  exact s.2 i c x hc hx
 ·rw[jI (by lia)]at hc
  rw[jI (by rw[<-s.1];lia),<-s.1]at hx
  exact u.2 _ c x hc hx
theorem se(K:PySem.W.Frag)(T:String):PySem.W.kitOne K (.type T) (.type T)=some true:=by
 unfold PySem.W.kitOne
 rw[aB (by simp)]
theorem Y1{K:PySem.W.Frag}{A B:String}(h:(Value.type A==Value.type B)=false)(e:PySem.W.kitCls K (.type A) (.type B)=some false):PySem.W.kitOne K (.type A) (.type B)=some false:=by
 unfold PySem.W.kitOne
 rw[aC (by rw[h];exact fG)]
 exact e
end L2
end
section
namespace L2
open PySem PySem.Spec PyProof.Rows
section
variable {P:Program}{w:World}{A:Around}{E:Value->Shared->Prop}{s:Shared}
theorem Lx{l:Addr}{items:Array Value}{ss:List Int}{Q:Value->Shared->Prop}(hh:A.handled=none)(hl:s.heap.IsTuple l items)(hi:IntsAre items.toList ss)(hb:items.size+1<scanBound)
  (h:∀(h':Heap) (tk:Nat) (ls:List (Int×Tok)),kS w h' s.heap.objs.size ls->(∀z,z∈ls.map (·.1)↔z∈ss)->(∀b o,b<s.heap.objs.size->s.heap.get? b=some o->h'.get? b=some o)->Q (.ref s.heap.objs.size) { s with heap:=h',toks:=tk }) :
  wpAny (model P w) A (call (.type "set") [.ref l]) Q E s:=by
 have e:∀z:Int,(∃j,j<items.size/\ss.getD j 0=z)↔z∈ss:=λz=>by
  have hlen:items.size=ss.length:=by rw[<-di];exact hi.length
  rw[hlen,vE]
  constructor
  ·rintro⟨j,hj,e⟩;exact⟨j,hj,by rw[<-e];simp[hj]⟩
  ·rintro⟨j,hj,e⟩;exact⟨j,hj,by rw[<-e];simp[hj]⟩
 obtain⟨c,tl,aEs⟩:=iL.mro
 have aBn:=iL.made
 have Iu:=iL.sub
 refine j3 (Ak (aK (a:=_) ⟨Av _ (by decide +kernel),lg PySem.F.entry_type_call ?_⟩))
 rw[Around.under_plain (weight_type_call_type "set" [.ref l] []) rfl]
 have h1:=iL.notType
 have h2:=iL.canCreate
 have hct:=PySem.F.typeCall_set_1 (.ref l)
 repeat (any_goals (first | assumption | wp_step))
 refine ko (JL (x:=.ref l) (E:=E) (Q:=λobj s₁=>obj=.ref s.heap.objs.size/\s₁={ s with heap:=s.heap.push (eV #[] 0 (.fresh 0 0 (!uq w))) }) ⟨rfl,rfl⟩) λr s₁ hr=>?_
 cases r with
 | error e=>exact hr
 | ok fl=>
  cases fl with
  | ret obj=>
   obtain⟨rfl,rfl⟩:=hr
   have hS:(s.heap.push (eV #[] 0 (.fresh 0 0 (!uq w)))).get? s.heap.objs.size=some (eV #[] 0 (.fresh 0 0 (!uq w))):=cI _ rfl
   have hT:Shared.TypeIs { s with heap:=s.heap.push (eV #[] 0 (.fresh 0 0 (!uq w))) } (.ref s.heap.objs.size) "set":=⟨_,hS,rfl⟩
   have hli:=iL.init.lookup
   have hbi:=iL.init.bind (.ref s.heap.objs.size)
   repeat (any_goals (first | assumption | wp_step))
   refine ko (Bb (R:=wants (λr s₂=>r=.none/\∃h' tk ls,s₂={ s with heap:=h',toks:=tk }/\kS w h' s.heap.objs.size ls/\(∀z,z∈ls.map (·.1)↔z∈ss)/\
     (∀b o,b<s.heap.objs.size->s.heap.get? b=some o->h'.get? b=some o)) E) iL.init.plain PySem.F.entry_set_init (check_set_init_1 hT ?_)) λr₂ s₂ Zf=>?_
   ·obtain⟨ol,hol,yz,nl,W7⟩:=hl
    obtain⟨aDr,Qz,aA1,Hv⟩:=ol
    simp only at yz W7
    subst yz;subst W7
    have Zq:(s.heap.push (eV #[] 0 (.fresh 0 0 (!uq w)))).get? l=some { cls:=.type "tuple",dict:=Qz,data:=.seq items nl,slots:=Hv }:=bZ _ hol
    have aEh:=PySem.F.sub_tuple_set
    have aEi:=PySem.F.sub_tuple_frozenset
    have yd:(Value.type "tuple" == Value.type "dict")=false:=by decide
    have yw:(s.heap.push (eV #[] 0 (.fresh 0 0 (!uq w)))).IsTuple l items:=⟨_,Zq,rfl,nl,rfl⟩
    unfold Builtin.«set.__init__» noKeywords Builtin.Frozenset.updateFrom
    unfold eV at *
    generalize hPI:pyIter=PI
    wp_walk
    subst hPI
    refine wpAny_pyIter_tuple yw (ay (Ah ?_))
    have hlS:l<s.heap.objs.size:=aU hol
    have hh3:A.in1.in1.in1.handled=none:=by simp[hh]
    have hsz:(s.heap.push (eV #[] 0 (.fresh 0 0 (!uq w)))).objs.size=s.heap.objs.size+1:=kZ _ _
    have Zu:l≠(s.heap.push (eV #[] 0 (.fresh 0 0 (!uq w)))).objs.size:=by rw[hsz];exact bH (pH hlS)
    have hSf:s.heap.objs.size∉[(s.heap.push (eV #[] 0 (.fresh 0 0 (!uq w)))).objs.size,l]:=by
     rw[hsz];simp only[bT,cE,tE,or_false,not_or];exact⟨bH (tF _),jA hlS⟩
    refine Ep ((Walks.tuple hh3 _ l Zu items).toS) s.heap.objs.size hSf (λj=>ss.getD j 0) (λi v hv=>?hv) hb (items.size-0) 0 _ [] (by lia) (dM _)
     ⟨⟨_,cI _ rfl,rfl,rfl⟩,(yw.push _)⟩ ?hS0 (dM _) (λz=>⟨(λz=>nomatch z),λ⟨_,hj,_⟩=>absurd hj (Nat.not_lt_zero _)⟩) ?hR
    case hv=>exact xr hi i v (by rw[jH];exact hv)
    case hS0=>exact⟨⟨#[],0,_,bZ _ hS,rfl,rfl,rfl,List.Pairwise.nil⟩,pD,by decide⟩
    case hR=>
     intro s' l' hm Vt mem
     obtain⟨h',g',d',tk',os'⟩:=s'
     have eg:g'=s.gens:=hm.gens
     have ed:d'=s.drawn:=hm.drawn
     have eo:os'=s.os:=hm.os
     subst eg;subst ed;subst eo
     refine aK (aK ⟨rfl,h',tk',l',rfl,Vt,λz=>(mem z).trans (e z),λb o hb e=>?_⟩)
     refine hm.heap b o ?_ (bZ _ (bZ _ e))
     rw[hsz]
     simp only[bT,cE,tE,or_false,not_or];exact⟨bH hb,bH (pH hb)⟩
   ·cases r₂ with
    | error e=>exact Zf
    | ok fl₂=>
     cases fl₂ with
     | ret r=>
      obtain⟨rfl,h',tk,ls,rfl,Vt,hm',Zv⟩:=Zf
      repeat (any_goals (first | assumption | wp_step))
      exact h _ _ _ Vt hm' Zv
     | _=>exact Zf.elim
  | _=>exact hr.elim
end
section
variable {X:Cx}
def tX(w:World):List V->Hp->VK->Prop:=λvs H Q=>∃a,vs=[.ref a]/\∃ss:List Int,H a=some (.tup (ss.map V.int))/\ss.length<4000/\∀p,H p=none->Q (.ref p) (upd H p (InS w p ss))
theorem Jh(hh:X.A.handled=none):fw X (.type "set") (tX X.w):=by
 intro pins s σ H vs us Q I rv h
 obtain⟨a,rfl,ss,hq,hn,q⟩:=h
 obtain⟨u,rfl,ru⟩:=vals1 rv
 cases ru
 obtain⟨its,r,pl,hz⟩:=I.tuple (ck hq)
 have hl:=r.length
 rw[aY]at hl
 refine Lx (ss:=ss) hh pl (intsAre_of r) (by show its.toArray.size+1<4096;rw[cD];lia) λh' tk ls hS hm hk=>?_
 have Zv:∀b o,s.heap.get? b=some o->h'.get? b=some o:=λb o e=>hk b o (aU e) e
 refine⟨.ref s.heap.objs.size,_,I.laid (t':=tk) (o:=InS X.w s.heap.objs.size ss) Zv (bx _) ?_,rfl,q _ I.fresh⟩
 exact⟨⟨ls,hS,hm⟩,(let ⟨_,_,_,e,_⟩:=hS.ex;⟨_,e⟩),λh1 h2 ⟨l1,x1,m1⟩ k=>⟨l1,x1.at k,m1⟩⟩
end
section
variable {P:Program}{w:World}{κ:Type} [DecidableEq κ] {knd:PySem.KeyKind P w κ} {A:Around} {E:Value->Shared->Prop} {s:Shared} {a b:Addr} {aL QT:List (κ×Value)}
end
section
variable {X:Cx}
def JQ(neg:Bool):R2:=λx y H Q=>∃a b,x=.ref a/\y=.ref b/\∃aL QT,H a=some (.dK aL)/\H b=some (.dK QT)/\aL.length=QT.length/\
 (∀k v,(k,v)∈aL->∃p q t,v=.ref p/\(k,V.ref q)∈QT/\H p=some (.tup (List.map V.int t))/\H q=some (.tup (List.map V.int t)))/\Q (.bl (!neg)) H
end
section
variable {X:Cx}{pins:List (Addr×Obj)}{σ:St}{H:Hp}{s:Shared}{d:Addr}{o:Obj}{aL:List (Key×V)}
end
def Itd(d:Addr)(o:Obj)(aL:List (Key×V)):It:=
 ⟨λi H=>i<aL.length/\H d=some (.zS o (.dK aL)),λi H x H'=>H'=H/\∃k v,aL[i]?=some (k,v)/\x=kV k,λi H=>aL.length<=i/\H d=some (.zS o (.dK aL))⟩
section
variable {X:Cx}{tg:Expr}
def Kd(te:TE):TI:=λσ H R=>te σ H λv H1=>∃a aL,v=.ref a/\H1 a=some (.dK aL)/\∀o,R (Itd a o aL) (upd H1 a (.zS o (.dK aL)))
def Jz(H0:Hp)(t:TS):TS:=λD σ H=>∃d o aL,H d=some (.zS o (.dK aL))/\H0 d=none/\t D σ (upd H d (.dK aL))
end
section
variable {X:Cx}
def Bx:V->List V->Hp->VK->Prop:=λx vs H Q=>∃a n d,x=.ref a/\vs=[.int n,d]/\∃aL,H a=some (.dK aL)/\Q ((fO aL (Sum.inl n)).getD d) H
def rK:V->List V->Hp->VK->Prop:=λx vs H Q=>∃l b xs zs,x=.ref l/\vs=[.ref b]/\H l=some (.lst xs)/\H b=some (.tup zs)/\xs.length+zs.length<=sizeLine/\Q .non (upd H l (.lst (xs++zs)))
end
section
variable {X:Cx}{N:List Str}{sc:Scope}{pos:Pos}
end
section
variable {X:Cx}
end
end L2
end
section
namespace L2
open PySem
theorem oo{H H1:Hp}{p:Addr}{o:HO}(a:bN H H1)(hn:H p=none):bN H (upd H1 p o):=λb u e=>by rw[av (aj e hn)];exact a b u e
theorem zK{κ:Type} [DecidableEq κ] {aL:List (κ×V)} {k:κ} {v:V}:(putK aL k v).map (·.1)=if k∈aL.map (·.1) then aL.map (·.1) else aL.map (·.1)++[k]:=by
 unfold putK
 by_cases h:(aL.any λkv=>decide (kv.1=k))=true
 ·have hm:k∈aL.map (·.1):=by
   obtain⟨kv,hkv,e⟩:=gK.mp h
   rw[<-of_decide_eq_true e]
   exact v7 hkv
  rw[aB h,aB hm,gJ]
  refine qU λkv _=>?_
  show(if kv.1=k then (kv.1,v) else kv).1=kv.1
  split <;> rfl
 ·have hm:k∉aL.map (·.1):=λz=>by
   obtain⟨kv,hkv,e⟩:=fY.mp z
   exact h (gK.mpr ⟨kv,hkv,decide_eq_true e⟩)
  rw[aC h,aC hm,eU]
  rfl
theorem Ck{a b:List Int}(h:(a.map Sum.inl:List Key)=b.map Sum.inl):a=b:=(vZ λ_ _ e=>sW e).mp h
theorem gy{qs:List Addr}{i:Nat}{x:V}(h:(List.map V.ref qs)[i]?=some x):∃q,qs[i]?=some q/\x=.ref q:=by
 rw[cH]at h
 cases e:qs[i]? with
 | none=>rw[e]at h;cases h
 | some q=>rw[e]at h;exact⟨q,rfl,(eG h).symm⟩
theorem aJ{H:Hp}{p:Addr}(h:H p=none)(o:HO):bN H (upd H p o):=λb u q=>by rw[av (aj q h)];exact q
def O1:Sp:=λvs H Q _=>∃L,vs=[.ref L]/\∃as ss,H L=some (.lst (List.map V.ref as))/\aE H as ss/\as.length<=90000/\
 ∀D H' bs ts,bN H H'->H D=none->H' D=some (.lst (List.map V.ref bs))->aE H' bs ts->ts.Nodup->(∀x,x∈ts↔x∈ss)->ts.Pairwise (λa b=>cy a b=true)->Q (.ref D) H'
def aH(x y:List Int):Bool:=x.all λm=>decide (m∈y)
theorem xt(m:Int)(y:List Int):WQ (.int m) (List.map V.int y)=decide (m∈y):=by
 unfold WQ
 rw[Ae,mM,gK,gM]
 constructor
 ·rintro⟨z,hz,e⟩
  have:z=m:=by simpa [N4]using e
  rw[<-this];exact hz
 ·intro h
  exact⟨m,h,by simp[N4]⟩
theorem uf(y:List Int):(List.map V.int y).all jl=true:=by
 rw[List.all_map,qQ]
 intro _ _
 rfl
theorem int_at{ns:List Int}{i:Nat}{x:V}(h:(List.map V.int ns)[i]?=some x):∃n,ns[i]?=some n/\x=.int n:=by
 rw[cH]at h
 cases e:ns[i]? with
 | none=>rw[e]at h;cases h
 | some q=>rw[e]at h;exact⟨q,rfl,(eG h).symm⟩
def XT:Sp:=λvs H Q _=>∃a b,vs=[.ref a,.ref b]/\∃x y:List Int,H a=some (.tup (List.map V.int x))/\H b=some (.tup (List.map V.int y))/\Q (.bl (aH x y)) H
def y8(lies:Bool):Sp:=λvs H Q _=>∃a L,vs=[.ref a,.ref L]/\∃(x:List Int) (bs:List Addr) (ts:List (List Int)),H a=some (.tup (List.map V.int x))/\H L=some (.lst (List.map V.ref bs))/\aE H bs ts/\Q (.bl (ts.any λt=>if lies then aH x t else aH t x)) H
def hv(l:Addr)(a b c d e:Int):HO:=.lst [.ref l,.int a,.int b,.int c,.int d,.int e]
def HdO(l:Addr)(o:HO):Prop:=∃a b c d e,o=hv l a b c d e/\0<=a
def tV:Sp:=λvs H Q _=>∃h,vs=[.ref h]/\∃l a b c d e,H h=some (hv l a b c d e)/\Q (.int (d*48271%2147483647+e*40693%2147483399)) (upd H h (hv l a b c (d*48271%2147483647) (e*40693%2147483399)))
def XQ:Sp:=λvs H Q _=>∃h,vs=[.ref h]/\∃l ns o,H h=some o/\HdO l o/\H l=some (.lst (List.map V.int ns))/\∀o',HdO l o'->Q .non (upd H h o')
def O2:Sp:=λvs H Q _=>∃h m,vs=[.ref h,.int m]/\1<=m/\m<2 ^ 300/\∃l ns o,H h=some o/\HdO l o/\H l=some (.lst (List.map V.int ns))/\∀r o',0<=r->r<m->HdO l o'->Q (.int r) (upd H h o')
def Hd(H:Hp)(h l:Addr):Prop:=∃ns o,H h=some o/\HdO l o/\H l=some (.lst (List.map V.int ns))
def fW(H:Hp)(h:Addr):Prop:=∃l,Hd H h l
structure Dr(h:Addr)(H H':Hp):Prop where
 keep:∀b o,b≠h->H b=some o->H' b=some o
 hand:∀l,Hd H h l->Hd H' h l
theorem Dr.refl{h:Addr}{H:Hp}:Dr h H H:=⟨λ_ _ _ e=>e,λ_ x=>x⟩
theorem Dr.trans{h:Addr}{H H1 H2:Hp}(a:Dr h H H1)(b:Dr h H1 H2):Dr h H H2:=⟨λc o hc e=>b.keep c o hc (a.keep c o hc e),λl x=>b.hand l (a.hand l x)⟩
theorem Dr.gY{h:Addr}{H H1:Hp}(a:Dr h H H1)(x:fW H h):fW H1 h:=let ⟨l,y⟩:=x;⟨l,a.hand l y⟩
theorem Hd.apart{H:Hp}{h l:Addr}(x:Hd H h l):l≠h:=by
 obtain⟨ns,o,e1,⟨a,b,c,d,e,rfl,_⟩,e3⟩:=x
 intro z
 rw[z,e1]at e3
 have q:=eG e3
 unfold hv at q
 injection q with q
 match ns,q with
 | [],q=>cases q
 | n::_,q=>injection q with q1 _;cases q1
theorem Dr.new{h p:Addr}{H H1:Hp}{o:HO}(a:Dr h H H1)(hp:H1 p=none):Dr h H (upd H1 p o):=by
 refine⟨λc o' hc e=>?_,λl x=>?_⟩
 ·rw[av (aj (a.keep c o' hc e) hp)];exact a.keep c o' hc e
 ·obtain⟨ns,oh,e1,e2,e3⟩:=a.hand l x
  exact⟨ns,oh,by rw[av (aj e1 hp)];exact e1,e2,by rw[av (aj e3 hp)];exact e3⟩
theorem Dr.put{h p:Addr}{H H1:Hp}{o':HO}(a:Dr h H H1)(hn:H p=none):Dr h H (upd H1 p o'):=by
 refine⟨λc o' hc e=>?_,λl x=>?_⟩
 ·rw[av (aj e hn)];exact a.keep c o' hc e
 ·obtain⟨ns,oh,e1,e2,e3⟩:=a.hand l x
  obtain⟨_,_,f1,_,f3⟩:=x
  exact⟨ns,oh,by rw[av (aj f1 hn)];exact e1,e2,by rw[av (aj f3 hn)];exact e3⟩
theorem fW.ne{h p:Addr}{H:Hp}(x:fW H h)(hp:H p=none):p≠h:=by
 obtain⟨l,ns,oh,e1,_,_⟩:=x
 exact(aj e1 hp).symm
theorem Dr.free{h p:Addr}{H H1:Hp}(a:Dr h H H1)(x:fW H h)(hp:H1 p=none):H p=none:=by
 cases e:H p with
 | none=>rfl
 | some o=>
  have n:=(a.gY x).ne hp
  have:=a.keep p o n e
  rw[hp]at this;cases this
theorem dI{h:Addr}{m:Int}{H0 H:Hp}{Q:VK}{E:XK}(hd:fW H0 h)(d:Dr h H0 H)(h1:1<=m)(h2:m<2 ^ 300)(q:∀r H',0<=r->r<m->Dr h H0 H'->(∀b,b≠h->H' b=H b)->Q (.int r) H'):O2 [.ref h,.int m] H Q E:=by
 obtain⟨l,x⟩:=hd
 have x':=d.hand l x
 have ap:=x'.apart
 obtain⟨ns,oh,e1,e2,e3⟩:=x'
 refine⟨h,m,rfl,h1,h2,l,ns,oh,e1,e2,e3,λr o' r0 r1 ho=>q r _ r0 r1 ⟨λc o hc e=>?_,λl' x'=>?_⟩ (λb hb=>av hb)⟩
 ·rw[av hc];exact d.keep c o hc e
 ·have y:=d.hand l' x'
  have ap':=y.apart
  obtain⟨NR,oh',f1,f2,f3⟩:=y
  have el:l'=l:=by
   obtain⟨a,b,c,d,e,rfl,_⟩:=e2
   obtain⟨a',b',c',d',e',rfl,_⟩:=f2
   rw[e1]at f1
   have:=eG f1
   unfold hv at this
   injection this with this
   injection this with this _
   exact(V.ref.inj this).symm
  subst el
  exact⟨ns,o',ah,ho,by rw[av ap];exact e3⟩
theorem Fu{α:Type}(f:α->V)(xs:List α)(lo hi:Option Int):iO (xs.map f) lo hi=((xs.drop (HT.dn xs.length 0 lo)).take (HT.dn xs.length xs.length hi-HT.dn xs.length 0 lo)).map f:=by
 unfold iO;rw[aY,List.map_take,List.map_drop]
def X1(K:PySem.W.Frag):Sp:=λvs H Q _=>∃a ns,vs=[.ref a]/\qP K H a (List.map V.int ns)/\∀h H',bN H H'->H h=none->fW H' h->Q (.ref h) H'
def fS(x:List Int):Prop:=x.Pairwise (· < ·)
theorem bR{x y:List Int}:aH x y=true↔∀m∈x,m∈y:=by
 unfold aH
 rw[qQ]
 exact⟨λh m hm=>of_decide_eq_true (h m hm),λh m hm=>decide_eq_true (h m hm)⟩
theorem fS.nodup{x:List Int}(h:fS x):x.Nodup:=h.imp λhab e=>by lia
theorem rG:∀{x y:List Int},fS x->fS y->(∀m,m∈x↔m∈y)->x=y
 | [],[],_,_,_=>rfl
 | [],b::y,_,_,h=>absurd ((h b).mpr du) (by simp)
 | a::x,[],_,_,h=>absurd ((h a).mp du) (by simp)
 | a::x,b::y,hx,hy,h=>by
  have vB:=v3.mp hx
  have Cm:=v3.mp hy
  have hab:a=b:=by
   rcases bT.mp ((h a).mp du) with e | e
   ·exact e
   ·rcases bT.mp ((h b).mpr du) with e' | e'
    ·exact e'.symm
    ·have:=Cm.1 a e
     have:=vB.1 b e'
     lia
  subst hab
  rw[rG vB.2 Cm.2 λm=>⟨λhm=>?_,λhm=>?_⟩]
  ·rcases bT.mp ((h m).mp (dN _ hm)) with e | e
   ·have:=vB.1 m hm;lia
   ·exact e
  ·rcases bT.mp ((h m).mpr (dN _ hm)) with e | e
   ·have:=Cm.1 m hm;lia
   ·exact e
theorem ik{x y:List Int}(hx:fS x)(h:aH x y=true):x.length<=y.length:=eM hx.nodup (bR.mp h)
theorem ox{x y:List Int}(hx:fS x)(hy:fS y)(h:aH x y=true)(hl:x.length=y.length):x=y:=by
 refine rG hx hy λm=>⟨bR.mp h m,λhm=>?_⟩
 refine Classical.byContradiction λhn=>?_
 have h1:(m::x).Nodup:=mO.mpr ⟨hn,hx.nodup⟩
 have:=eM h1 λz hz=>by
  rcases bT.mp hz with e | e
  ·rw[e];exact hm
  ·exact bR.mp h z e
 rw[eJ]at this
 lia
theorem nC(x:List Int):aH x x=true:=bR.mpr λ_ h=>h
theorem kI{x y z:List Int}(h1:aH x y=true)(h2:aH y z=true):aH x z=true:=bR.mpr λm hm=>bR.mp h2 m (bR.mp h1 m hm)
def ji:List (List Int)->List (List Int)->List (List Int)
 | [],acc=>acc
 | x::r,acc=>ji r (if acc.any (λt=>aH t x) then acc else acc++[x])
theorem xf:∀(r acc seen:List (List Int)),(∀x∈seen++r,fS x)->(seen++r).Pairwise (λa b=>cy a b=true)->(∀x,x∈acc↔x∈seen/\∀y∈seen,aH y x=true->y=x)->
  (∀x,x∈ji r acc↔x∈seen++r/\∀y∈seen++r,aH y x=true->y=x)
 | [],acc,seen,_,_,h=>λx=>by
  show x∈acc↔_
  rw[fZ]
  exact h x
 | a::r,acc,seen,hr,pw,h=>by
  have e:seen++a::r=(seen++[a])++r:=by simp
  show ∀x,x∈ji r (if acc.any (λt=>aH t a)=true then acc else acc++[a])↔_
  rw[e]at hr pw ⊢
  refine xf r _ (seen++[a]) hr pw λx=>?_
  have ra:fS a:=hr a (by simp)
  have pw1:=(gN.mp pw).1
  have ahead:∀y∈seen,cy y a=true:=λy hy=>(gN.mp pw1).2.2 y hy a (by simp)
  have irr:∀y∈seen,y≠a:=λy hy e=>by
   have:=ahead y hy
   rw[e]at this
   unfold cy at this
   rw[kG]at this
   simp at this
  have low:∀n,∀y∈seen,y.length<=n->∃z∈acc,aH z y=true:=by
   intro n
   induction n with
   | zero=>
    intro y hy hl
    refine⟨y,(h y).mpr ⟨hy,λz hz hp=>?_⟩,nC y⟩
    have h1:=ik (hr z (by simp[hz])) hp
    exact ox (hr z (by simp[hz])) (hr y (by simp[hy])) hp (by lia)
   | succ n ih=>
    intro y hy hl
    by_cases hm:∀z∈seen,aH z y=true->z=y
    ·exact⟨y,(h y).mpr ⟨hy,hm⟩,nC y⟩
    ·obtain⟨z,hz⟩:=Classical.not_forall.mp hm
     obtain⟨hz,yv⟩:=Classical.not_imp.mp hz
     obtain⟨hp,yd⟩:=Classical.not_imp.mp yv
     have h1:=ik (hr z (by simp[hz])) hp
     have h2:z.length≠y.length:=λe=>yd (ox (hr z (by simp[hz])) (hr y (by simp[hy])) hp e)
     obtain⟨u,hu,Zd⟩:=ih z hz (by lia)
     exact⟨u,hu,kI Zd hp⟩
  by_cases c:acc.any (λt=>aH t a)=true
  ·rw[aB c]
   obtain⟨t,ht,Sn⟩:=gK.mp c
   have NX:=((h t).mp ht).1
   rw[h x]
   constructor
   ·rintro⟨h1,h2⟩
    refine⟨by simp[h1],λy hy hp=>?_⟩
    rcases cv.mp hy with z | z
    ·exact h2 y z hp
    ·have ey:y=a:=by simpa using z
     subst ey
     have:=kI Sn hp
     have e2:=h2 t NX this
     subst e2
     have l1:=ik (hr t (by simp[h1])) Sn
     have l2:=ik ra hp
     exact(ox ra (hr t (by simp[h1])) hp (by lia))
   ·rintro⟨h1,h2⟩
    rcases cv.mp h1 with z | z
    ·exact⟨z,λy hy hp=>h2 y (by simp[hy]) hp⟩
    ·have ex:x=a:=by simpa using z
     subst ex
     exact absurd (h2 t (by simp[NX]) Sn) (irr t NX)
  ·rw[aC c,cv,h x]
   constructor
   ·rintro(⟨h1,h2⟩ | h1)
    ·refine⟨by simp[h1],λy hy hp=>?_⟩
     rcases cv.mp hy with z | z
     ·exact h2 y z hp
     ·have ey:y=a:=by simpa using z
      subst ey
      have l2:=ik ra hp
      have:=ahead x h1
      unfold cy at this
      simp only[lh,eI,gM]at this
      rcases this with u | ⟨u,_⟩
      ·lia
      ·exact ox ra (hr x (by simp[h1])) hp u.symm
    ·have ex:x=a:=by simpa using h1
     subst ex
     refine⟨by simp,λy hy hp=>?_⟩
     rcases cv.mp hy with z | z
     ·obtain⟨u,hu,Zd⟩:=low y.length y z (bx _)
      exact(c (gK.mpr ⟨u,hu,kI Zd hp⟩)).elim
     ·simpa using z
   ·rintro⟨h1,h2⟩
    rcases cv.mp h1 with z | z
    ·exact .inl ⟨z,λy hy hp=>h2 y (by simp[hy]) hp⟩
    ·exact .inr z
theorem qt:∀(r acc:List (List Int)),∃l,ji r acc=acc++l/\l.Sublist r
 | [],acc=>⟨[],by simp[ji],Aw _⟩
 | a::r,acc=>by
  show ∃l,ji r (if acc.any (λt=>aH t a)=true then acc else acc++[a])=acc++l/\_
  split
  ·obtain⟨l,e,s⟩:=qt r acc
   exact⟨l,e,s.cons a⟩
  ·obtain⟨l,e,s⟩:=qt r (acc++[a])
   exact⟨a::l,by rw[e];simp,s.cons_cons a⟩
def dv(x y:List Int):List Int:=x.filter λm=>decide (m∉y)
def XS:Sp:=λvs H Q _=>∃a b,vs=[.ref a,.ref b]/\∃x y:List Int,H a=some (.tup (List.map V.int x))/\H b=some (.tup (List.map V.int y))/\x.length<=900/\∀p H',bN H H'->H p=none->H' p=some (.tup (List.map V.int (dv x y)))->Q (.ref p) H'
def jk:List (List Int)->List (List Int)->List (List Int)
 | [],acc=>acc
 | x::r,acc=>jk r (if acc.any (λt=>aH x t) then acc else acc++[x])
theorem xD:∀(r acc seen:List (List Int)),(∀x∈seen++r,fS x)->(seen++r).Pairwise (λa b=>cy b a=true)->(∀x,x∈acc↔x∈seen/\∀y∈seen,aH x y=true->y=x)->(∀y∈seen,∃z∈acc,aH y z=true)->
  (∀x,x∈jk r acc↔x∈seen++r/\∀y∈seen++r,aH x y=true->y=x)
 | [],acc,seen,_,_,h,_=>λx=>by
  show x∈acc↔_
  rw[fZ]
  exact h x
 | a::r,acc,seen,hr,pw,h,cov=>by
  have e:seen++a::r=(seen++[a])++r:=by simp
  show ∀x,x∈jk r (if acc.any (λt=>aH a t)=true then acc else acc++[a])↔_
  rw[e]at hr pw ⊢
  have ra:fS a:=hr a (by simp)
  have pw1:=(gN.mp pw).1
  have ahead:∀y∈seen,cy a y=true:=λy hy=>(gN.mp pw1).2.2 y hy a (by simp)
  have irr:∀y∈seen,y≠a:=λy hy e=>by
   have:=ahead y hy
   rw[e]at this
   unfold cy at this
   rw[kG]at this
   simp at this
  refine xD r _ (seen++[a]) hr pw (λx=>?_) (λy hy=>?_)
  ·by_cases c:acc.any (λt=>aH a t)=true
   ·rw[aB c]
    obtain⟨t,ht,Sn⟩:=gK.mp c
    have NX:=((h t).mp ht).1
    rw[h x]
    constructor
    ·rintro⟨h1,h2⟩
     refine⟨by simp[h1],λy hy hp=>?_⟩
     rcases cv.mp hy with z | z
     ·exact h2 y z hp
     ·have ey:y=a:=by simpa using z
      subst ey
      have e2:=h2 t NX (kI hp Sn)
      subst e2
      have rt:fS t:=hr t (by simp[h1])
      have l1:=ik ra Sn
      have l2:=ik rt hp
      exact ox ra rt Sn (by lia)
    ·rintro⟨h1,h2⟩
     rcases cv.mp h1 with z | z
     ·exact⟨z,λy hy hp=>h2 y (by simp[hy]) hp⟩
     ·have ex:x=a:=by simpa using z
      subst ex
      exact absurd (h2 t (by simp[NX]) Sn) (irr t NX)
   ·rw[aC c,cv,h x]
    constructor
    ·rintro(⟨h1,h2⟩ | h1)
     ·refine⟨by simp[h1],λy hy hp=>?_⟩
      rcases cv.mp hy with z | z
      ·exact h2 y z hp
      ·have ey:y=a:=by simpa using z
       subst ey
       have rx:fS x:=hr x (by simp[h1])
       have l2:=ik rx hp
       have:=ahead x h1
       unfold cy at this
       simp only[lh,eI,gM]at this
       rcases this with u | ⟨u,_⟩
       ·lia
       ·exact(ox rx ra hp u.symm).symm
     ·have ex:x=a:=by simpa using h1
      subst ex
      refine⟨by simp,λy hy hp=>?_⟩
      rcases cv.mp hy with z | z
      ·obtain⟨u,hu,Zd⟩:=cov y z
       exact(c (gK.mpr ⟨u,hu,kI hp Zd⟩)).elim
      ·simpa using z
    ·rintro⟨h1,h2⟩
     rcases cv.mp h1 with z | z
     ·exact .inl ⟨z,λy hy hp=>h2 y (by simp[hy]) hp⟩
     ·exact .inr z
  ·by_cases c:acc.any (λt=>aH a t)=true
   ·rw[aB c]
    rcases cv.mp hy with z | z
    ·exact cov y z
    ·have ey:y=a:=by simpa using z
     subst ey
     obtain⟨t,ht,Sn⟩:=gK.mp c
     exact⟨t,ht,Sn⟩
   ·rw[aC c]
    rcases cv.mp hy with z | z
    ·obtain⟨u,hu,Zd⟩:=cov y z
     exact⟨u,by simp[hu],Zd⟩
    ·have ey:y=a:=by simpa using z
     subst ey
     exact⟨y,by simp,nC y⟩
theorem qv:∀(r acc:List (List Int)),∃l,jk r acc=acc++l/\l.Sublist r
 | [],acc=>⟨[],by simp[jk],Aw _⟩
 | a::r,acc=>by
  show ∃l,jk r (if acc.any (λt=>aH a t)=true then acc else acc++[a])=acc++l/\_
  split
  ·obtain⟨l,e,s⟩:=qv r acc
   exact⟨l,e,s.cons a⟩
  ·obtain⟨l,e,s⟩:=qv r (acc++[a])
   exact⟨a::l,by rw[e];simp,s.cons_cons a⟩
theorem aE.rev{H:Hp}{bs:List Addr}{ts:List (List Int)}(s:aE H bs ts):aE H bs.reverse ts.reverse:=by
 refine⟨by rw[tI,tI];exact s.1,λi b t hb ht=>?_⟩
 have hi:i<bs.length:=by
  have:=(dc.mp hb).1
  rwa [tI]at this
 rw[Gy hi]at hb
 rw[Gy (by rw[<-s.1];exact hi),<-s.1]at ht
 exact s.2 _ b t hb ht
def Tn:Sp:=λvs H Q _=>∃i:Int,vs=[.int i]/\Q (.bl true) H
def Tv:Sp:=λvs H Q _=>∃a,vs=[.ref a]/\∃x:List Int,H a=some (.tup (List.map V.int x))/\x.length<=900/\fS x/\∀H',bN H H'->Q (.bl true) H'
def XM:Sp:=λvs H Q _=>∃L M,vs=[.ref L,.ref M]/\∃(as bs:List Addr) (ss:List (List Int)),H L=some (.lst (List.map V.ref as))/\H M=some (.lst (List.map V.ref bs))/\aE H as ss/\aE H bs ss/\as.length<=90000/\(∀x∈ss,fS x/\x.length<=900)/\∀H',bN H H'->Q (.bl true) H'
theorem all_true:∀(n:Nat),(List.replicate n true).all id=true
 | 0=>rfl
 | n+1=>by rw[List.replicate_succ,vQ,all_true n];rfl
theorem om(x:List Int):cy x x=false:=by
 unfold cy
 rw[kG,Bool.and_false,Aj]
 simp
theorem O8{x y z:List Int}(h1:cy x y=true)(h2:cy y z=true):cy x z=true:=by
 unfold cy at *
 simp only[lh,eI,gM]at *
 rcases h1 with a | ⟨a,b⟩
 ·rcases h2 with c | ⟨c,d⟩ <;> (left;lia)
 ·rcases h2 with c | ⟨c,d⟩
  ·left;lia
  ·right;exact⟨by lia,w6 b d⟩
theorem VH{a b c d r:Int}(h0:0<=r)(h1:r<4):∃v,vq [V.int a,V.int b,V.int c,V.int d] r=some (.int v)/\(v=a\/v=b\/v=c\/v=d):=by
 have:r=0\/r=1\/r=2\/r=3:=by lia
 rcases this with e | e | e | e <;> subst e
 ·exact⟨a,xT ..,by simp⟩
 ·exact⟨b,Aa ..,by simp⟩
 ·exact⟨c,z9 ..,by simp⟩
 ·exact⟨d,z8 ..,by simp⟩
theorem Dr.on{h:Addr}{H H1 H2:Hp}(a:Dr h H H1)(s:bN H1 H2):Dr h H H2:=⟨λc o hc e=>s _ _ (a.keep c o hc e),λl x=>by
 obtain⟨ns,oh,e1,e2,e3⟩:=a.hand l x
 exact⟨ns,oh,s _ _ e1,e2,s _ _ e3⟩⟩
theorem fW.qm{h b:Addr}{H:Hp}{xs:List V}(x:fW H h)(e:H b=some (.tup xs)):b≠h:=by
 obtain⟨l,ns,o,e1,⟨_,_,_,_,_,rfl,_⟩,_⟩:=x
 exact bj e e1 (by intro z;cases z)
def m4(ps:List (List Int))(m:Int):List (List Int):=ps++ps.map (· ++ [m])
def gb(x:List Int):List (List Int):=x.foldl m4 [[]]
theorem Hf(x:List Int)(m:Int):gb (x++[m])=m4 (gb x) m:=by unfold gb;rw[Ax];rfl
theorem oj(x:List Int):(gb x).length=2 ^ x.length:=by
 have:∀(x:List Int) (ps:List (List Int)),(x.foldl m4 ps).length=ps.length*2 ^ x.length:=λx=>by
  induction x with
  | nil=>intro ps;simp
  | cons m x ih=>
   intro ps
   rw[jD,ih,eJ,Nat.pow_succ]
   unfold m4
   rw[cS,aY,Nat.mul_comm (2 ^ x.length) 2,<-Nat.mul_assoc]
   congr 1
   lia
 unfold gb
 rw[this];simp
theorem yi{x t:List Int}(h:t∈gb x):t.length<=x.length:=by
 have:∀(x:List Int) (n:Nat) (ps:List (List Int)),(∀p∈ps,p.length<=n)->∀t∈x.foldl m4 ps,t.length<=n+x.length:=λx=>by
  induction x with
  | nil=>intro n ps h t ht;exact h t ht
  | cons m x ih=>
   intro n ps h t ht
   rw[jD]at ht
   have:=ih (n+1) _ (λp hp=>?_) t ht
   ·rw[eJ];lia
   ·unfold m4 at hp
    rcases cv.mp hp with hp | hp
    ·have:=h p hp;lia
    ·obtain⟨c,hc,rfl⟩:=fY.mp hp
     have:=h c hc
     rw[cS];simp;lia
 have:=this x 0 [[]] (by simp) t h
 lia
theorem DX{n:Nat}(h:n<=10):2 ^ n<=1024:=e8 (Gv (by decide) h) (by decide)
theorem Dr.sets{h:Addr}{H H':Hp}{bs:List Addr}{ts:List (List Int)}(hd:fW H h)(d:Dr h H H')(s:aE H bs ts):aE H' bs ts:=s.mono λb xs e=>d.keep _ _ (hd.qm e) e
theorem V4(xs:List V){k:Int}(hk:0<=k):iO xs none (some k)=xs.take k.toNat:=by
 have e:HT.dn xs.length xs.length (some k)=min k.toNat xs.length:=by
  show(if k<0 then _ else min k.toNat xs.length)=_
  rw[aC (by lia)]
 have e0:HT.dn xs.length 0 none=0:=rfl
 unfold iO
 rw[e,e0,List.drop_zero,Nat.sub_zero]
 exact(List.take_eq_take_min ..).symm
abbrev cut(n:Int)(s:List Int):List Int:=s.filter λm=>decide (m≠n)
end L2
end
section
namespace L2
structure Nx(P R:St->Hp->Prop):Prop where
 to:∀σ H,P σ H->R σ H
theorem e9{t u:TS}{D:Ends}{σ:St}{H:Hp}(h:∀R:St->Hp->Prop,Nx (u D) R->t { D with nx:=R } σ H):G' t u D σ H:=h (u D) ⟨λ_ _ z=>z⟩
end L2
end
section
namespace L2
open PySem PySem.Spec PyProof.Rows
section
variable {X:Cx}{o e value:Expr}{f:Str}{pos pos':Pos}{ta tv:TE}
theorem fU(he:ZE X e ta)(hb:attributeBase e f X.env (eval e X.env)=eval e X.env):ZE X (.Attribute e f pos) (Ln X.K ta f):=⟨Yx he.to hb⟩
theorem qX(ha:ZE X o ta)(hv:ZE X value tv)(hs:swapsWith value (some (.Attribute o f pos')) pos.line X.env=pure false):ZS X (.Assign [.Attribute o f pos'] value pos) (LK X.K ta tv f):=⟨Yl ha.to hv.to hs⟩
end
section
variable {X:Cx}{CX:K7}{k:Nat}{f C:Addr}{fd:FuncData}{ps:List Str}{sp:Sp}{ug:List V}{ds:List Value}{E:XK}{x m:Str}{p pos apos:Pos}{e o:Expr}{es:List Expr}{ta:TE}{t:TA}
theorem wg{pl:Sem Bool}(he:ZE X o ta)(c:Cls X.K C)(hm:Meth X.K C m f)(F:bS X.prog X.w X.K X.mg X.base CX k f fd ps sp)(hr:cC k X.A)(hb:Binds X.K fd ps ds)(hd:Vals ug ds)(hx:Passes CX X E)(ha:ZA X (e::es) t)
  (Q5:starEach (e::es) X.env=(false,eval e X.env)::starEach es X.env:=by rfl) (kJ:(backTo pos (starEach es X.env)).any (·.1)=false:=by rfl)
  (ht:eval (.Call (.Attribute o m apos) (e::es) [] pos) X.env=(do
   let ov <-eval o X.env
   standAt apos.atName
   let (f,first) <-holding [ov] (getMethod ov m pl)
   callWith pos f first (backTo pos (starEach (e::es) X.env)) (backToKw pos (keywordEach [] X.env))):=by rfl) :
  ZE X (.Call (.Attribute o m apos) (e::es) [] pos) (yV C m sp ug E ta t):=⟨Uo he.to c hm F hr hb hd hx ha.to Q5 kJ ht⟩
theorem Oh(M:Mk X.K C f)(F:bS X.prog X.w X.K X.mg X.base CX k f fd ps sp)(hr:cC (k+1) X.A)(hg:Gl X x)(hm:X.mg x=some (.ref C))(hb:Binds X.K fd ps ds)(hd:Vals ug ds)(hx:Passes CX X E)
  (ha:ZA X (e::es) t) (uc:(x==("__debug__" : Str))=false:=by decide) (he:starEach (e::es) X.env=(false,eval e X.env)::starEach es X.env:=by rfl) (kJ:(backTo pos (starEach es X.env)).any (·.1)=false:=by rfl) :
  ZE X (.Call (.Name x p) (e::es) [] pos) (yW C sp ug E t):=⟨Uq M F hr hg hm hb hd hx ha.to uc he kJ⟩
end
def qI(H:Hp)(ps:List Addr)(fs:List (List (List Int))):Prop:=ps.length=fs.length/\∀(i:Nat) p f,ps[i]?=some p->fs[i]?=some f->∃bs,H p=some (.lst (List.map V.ref bs))/\aE H bs f
section
variable {X:Cx}{pins:List (Addr×Obj)}{s:Shared}{σ:St}{H:Hp}{A:Around}
theorem Z7{p q:Addr}{ps qs:List Addr}{cl dl:List (List Int)}(I:Inv X pins σ H s)(h1:H p=some (.lst (List.map V.ref ps)))(h2:H q=some (.lst (List.map V.ref qs)))(a1:aE H ps cl)(a2:aE H qs dl)(hu:A.units+1<cLine):SeqAt.EqAt A s (.ref p) (.ref q) (decide (cl=dl)):=by
 by_cases e:p=q
 ·subst e
  have hp:ps=qs:=by
   have h:=h1.symm.trans h2
   simp only[pI,HO.lst.injEq]at h
   exact(vZ λ_ _ z=>by cases z;rfl).mp h
  subst hp
  have:cl=dl:=by
   apply List.ext_getElem (by rw[<-a1.1,<-a2.1])
   intro i k1 k2
   have j1:i<ps.length:=by rw[a1.1];exact k1
   have x1:=a1.2 i _ _ (bJ j1) (bJ k1)
   have x2:=a2.2 i _ _ (bJ j1) (bJ k2)
   have h:=x1.symm.trans x2
   simp only[pI,HO.tup.injEq]at h
   exact xq h
  rw[decide_eq_true this]
  exact SeqAt.EqAt.same _
 ·obtain⟨us,r1,t1,_⟩:=I.list (bu h1)
  obtain⟨ws,r2,t2,_⟩:=I.list (bu h2)
  have l1:=r1.length
  have l2:=r2.length
  rw[aY]at l1 l2
  by_cases hl:cl.length=dl.length
  ·have h:=SeqAt.RcAt.lists (A:=A) (e:=λj=>decide (cl[j]?=dl[j]?)) t1.isList t2.isList (by rw[cD,cD,<-l1,<-l2,a1.1,a2.1,hl]) (by omega) (λj h1 h2=>lM I r1 r2 a1 a2 (by rw[Am];omega) j h1 h2)
   have e2:=nO (cl:=cl) (dl:=dl)
   rw[hl,Ag,iI,Bool.and_true]at e2
   rw[cD,<-l1,a1.1,hl,e2]at h
   exact .of_refs e h
  ·have h:=SeqAt.RcAt.lists_lengths (A:=A) t1.isList t2.isList (by rw[cD,cD,<-l1,<-l2,a1.1,a2.1];simpa using hl) (by omega)
   rw[decide_eq_false λz=>hl (by rw[z])]
   exact .of_refs e h
theorem Cv{ps qs:List Addr}{us ws:List Value}{cl dl:List (List (List Int))}(I:Inv X pins σ H s)(r1:Vals (List.map V.ref ps) us)(r2:Vals (List.map V.ref qs) ws)(a:qI H ps cl)(b:qI H qs dl)(hu:A.units+1<cLine)(j:Nat)(h1:j<us.toArray.size)(h2:j<ws.toArray.size) :
  SeqAt.EqAt A s us.toArray[j] ws.toArray[j] (decide (cl[j]?=dl[j]?)):=by
 have l1:=r1.length
 have l2:=r2.length
 rw[aY]at l1 l2
 have j1:j<ps.length:=by rw[l1];simpa using h1
 have j2:j<qs.length:=by rw[l2];simpa using h2
 have e1:ps[j]?=some ps[j]:=bJ j1
 have e2:qs[j]?=some qs[j]:=bJ j2
 have k1:j<cl.length:=by rw[<-a.1];exact j1
 have k2:j<dl.length:=by rw[<-b.1];exact j2
 have c1:cl[j]?=some cl[j]:=bJ k1
 have c2:dl[j]?=some dl[j]:=bJ k2
 have v1:us.toArray[j]=.ref ps[j]:=n8 (x:=.ref ps[j]) r1 h1 (by rw[cH,e1];rfl)
 have v2:ws.toArray[j]=.ref qs[j]:=n8 (x:=.ref qs[j]) r2 h2 (by rw[cH,e2];rfl)
 obtain⟨x1,y1,z1⟩:=a.2 j _ _ e1 c1
 obtain⟨x2,y2,z2⟩:=b.2 j _ _ e2 c2
 have:=Z7 (A:=A) I y1 y2 z1 z2 hu
 rw[v1,v2,c1,c2]
 have e3:decide ((some cl[j]:Option (List (List Int)))=some dl[j])=decide (cl[j]=dl[j]):=by simp only[pI]
 rw[e3];exact this
def JP(neg:Bool):R2:=λx y H Q=>∃a b,x=.ref a/\y=.ref b/\∃ps qs cl dl,H a=some (.lst (List.map V.ref ps))/\H b=some (.lst (List.map V.ref qs))/\qI H ps cl/\qI H qs dl/\Q (.bl (if neg then !decide (cl=dl) else decide (cl=dl))) H
end
end L2
end
section
namespace L2
open PySem PySem.Spec PyProof.Rows
open PySem.W (Frag Looks)
abbrev veM:List Value:=[.type "ValueError",.type "Exception",.type "BaseException",.type "object"]
def S8(K:Frag)(n:Addr):Bool:=match K.lookup n with
 | some o=>(match o.data with | .dict es _=>es.toList.all λe=>(match e.key with | .str _ _=>true | _=>false) | _=>false)
 | none=>false
theorem Wr{K:Frag}{h:Heap}{n:Addr}(X:K.In h)(q:S8 K n=true):∃m,h.Ns n m:=by
 unfold S8 at q
 cases e:K.lookup n with
 | none=>rw[e]at q;cases q
 | some o=>
  rw[e]at q
  dsimp only at q
  cases d:o.data with
  | dict es ep=>
   rw[d]at q
   dsimp only at q
   refine⟨nsFind es,o,es,ep,X _ _ e,d,λx hx=>?_,λ_=>rfl⟩
   have:=qQ.mp q x (Array.mem_toList_iff.mpr hx)
   cases k:x.key with
   | str y t=>exact⟨y,t,rfl⟩
   | _=>rw[k]at this;cases this
  | _=>rw[d]at q;cases q
def S7(K:Frag):List Value->Bool
 | .ref a::tl=>(match K.lookup a with
  | some o=>(match o.data with | .cls cd=>S8 K cd.ns&&(PySem.W.nsIn K cd.ns "__init__" == some none) | _=>false)
  | none=>false)&&S7 K tl
 | l=>l==veM
theorem Wq{K:Frag}{h:Heap}(X:K.In h):∀{l:List Value},S7 K l=true->OwnTail h veM l
 | .ref a::tl,q=>by
  simp only[S7,eI]at q
  obtain⟨q,r⟩:=q
  cases e:K.lookup a with
  | none=>rw[e]at q;cases q
  | some o=>
   rw[e]at q
   obtain⟨oc,od,da,sl⟩:=o
   cases da with
   | cls cd=>
    simp only[eI,beq_iff_eq]at q
    obtain⟨m,hm⟩:=Wr X q.1
    exact .own (X _ _ e) hm (PySem.W.ns_none_of X hm q.2) (Wq X r)
   | _=>cases q
 | [],q=>by cases eq_of_beq q
 | .type n::tl,q=>by rw[show Value.type n::tl=veM from eq_of_beq q];exact .base
 | .none::tl,q=>by cases eq_of_beq q
 | .bool _::tl,q=>by cases eq_of_beq q
 | .int _ _::tl,q=>by cases eq_of_beq q
 | .str _ _::tl,q=>by cases eq_of_beq q
 | .builtin _::tl,q=>by cases eq_of_beq q
 | .float _ _::tl,q=>by cases eq_of_beq q
 | .bytes _ _::tl,q=>by cases eq_of_beq q
 | .ellipsis::tl,q=>by cases eq_of_beq q
 | .notImplemented::tl,q=>by cases eq_of_beq q
def wj(K:Frag)(C:Addr):Bool:=match K.lookup C with
 | some o=>o.cls == .type "type" && (match o.data with
  | .cls cd=>!cd.hasDel&&cd.hasDict&&S8 K cd.ns&&(match cd.mro with | v::tl=>v == .ref C&&S7 K tl | []=>false) | _=>false)&&(match o.slots.toList with | [_,_,_,_,some v,_]=>v == .builtin "ValueError.__new__" | _=>false)
 | none=>false
theorem yP{K:Frag}{h:Heap}{C:Addr}(X:K.In h)(q:wj K C=true):∃nm qn N bs bm sn sub ab col dd k0 k1 k2 k3 k5 mN,h.get? C=some (excClassObj nm qn C N bs bm true sn sub ab col dd k0 k1 k2 k3 k5 "ValueError.__new__")/\h.Ns N mN/\OwnTail h veM bm:=by
 unfold wj at q
 cases e:K.lookup C with
 | none=>rw[e]at q;cases q
 | some o=>
  rw[e]at q
  obtain⟨oc,od,da,sl⟩:=o
  simp only[eI,beq_iff_eq]at q
  obtain⟨⟨rfl,q1⟩,q2⟩:=q
  cases da with
  | cls cd=>
   obtain⟨nm,bs,mro,ns,qn,hd,sn,sub,ab,col,del⟩:=cd
   simp only[eI,Bool.not_eq_true']at q1
   obtain⟨⟨⟨rfl,rfl⟩,n1⟩,q1⟩:=q1
   cases mro with
   | nil=>cases q1
   | cons v tl=>
    simp only[eI,beq_iff_eq]at q1
    obtain⟨rfl,q1⟩:=q1
    obtain⟨l⟩:=sl
    match l,q2 with
    | [k0,k1,k2,k3,some v,k5],q2=>
     obtain⟨m,hm⟩:=Wr X n1
     have ev:v=.builtin "ValueError.__new__":=eq_of_beq q2
     subst ev
     exact⟨nm,qn,ns,bs,tl,sn,sub,ab,col,od,k0,k1,k2,k3,k5,m,X _ _ e,hm,Wq X q1⟩
  | _=>cases q1
section
variable {prog:Program}{w:World}{A:Around}{E:Value->Shared->Prop}{s:Shared}{K:Frag}{C fI:Addr}
theorem yf{rest:List Value}{Q:PySem.Fin->Shared->Prop}(X:K.In s.heap)(q:wj K C=true)(hi:PySem.W.findIn K (.ref C) "__init__" = some (some (.ref fI)))(hf:PySem.W.typeIn K (.ref fI)=some (.type "function"))
  (hq:∀h',Heap.MadeExcOf s.heap h' (s.heap.objs.size+1) (.ref C) rest->wpAny (model prog w) A (call (.ref fI) (.ref (s.heap.objs.size+1)::rest)) (λr s'=>r=.none/\Q (.done (.ret (.ref (s.heap.objs.size+1)))) s') E { s with heap:=h' }) (zN:rest.length<=sizeLine) :
  wpAny (model prog w) A (Builtin.«type.__call__» ⟨.ref C::rest,[]⟩) Q E s:=by
 obtain⟨nm,qn,N,bs,bm,sn,sub,ab,col,dd,k0,k1,k2,k3,k5,mN,hC,hN,T⟩:=yP X q
 obtain⟨h,g,d,t,os⟩:=s
 dsimp only at X hC hN T hq
 repeat (first | with_reducible refine Ar hC ?_ | with_reducible refine wpAny_madeBy_exc hC ?_ | wp_step)
 have FF:=PySem.F.excBase_ValueError
 refine codeAny_call_builtin_code (Av _ FF.quiet) (wpAny_check_new_subU FF (by decide +kernel) T hC (codeAny_exc_new_subU FF (by decide +kernel) FF T hC ?_ zN))
 show wpAny _ _ _ _ _ _
 have kp:∀b o,h.get? b=some o->((h.push { cls:=.type "tuple",data:=.seq rest.toArray }).push { cls:=.ref C,data:=.fields #[.ref h.objs.size,.none,.none,.none,.bool false,.none] }).get? b=some o:=λb o e=>bZ _ (bZ _ e)
 have e1:((h.push { cls:=.type "tuple",data:=.seq rest.toArray }).push { cls:=.ref C,data:=.fields #[.ref h.objs.size,.none,.none,.none,.bool false,.none] }).get? (h.objs.size+1)=some { cls:=.ref C,data:=.fields #[.ref h.objs.size,.none,.none,.none,.bool false,.none] }:=by heap_get
 have mk:Heap.MadeExcOf h ((h.push { cls:=.type "tuple",data:=.seq rest.toArray }).push { cls:=.ref C,data:=.fields #[.ref h.objs.size,.none,.none,.none,.bool false,.none] }) (h.objs.size+1) (.ref C) rest:=⟨kp,tH (iY _),h.objs.size,e1,tH (bx _),bZ _ (Heap.get?_push_at rfl rfl)⟩
 generalize ((h.push { cls:=.type "tuple",data:=.seq rest.toArray }).push { cls:=.ref C,data:=.fields #[.ref h.objs.size,.none,.none,.none,.bool false,.none] })=h2 at kp e1 mk ⊢
 have hC2:=kp _ _ hC
 have X2:K.In h2:=X.keeps kp
 have hcC:(Value.ref C::bm).contains (.ref C)=true:=by simp
 unfold isInstance
 repeat (first | with_reducible refine Ar e1 ?_ | (with_reducible refine Gf hC2 ?_;rw[hcC]) | wp_step)
 show wpAny _ _ (typeLookup (.ref C) _) _ _ _
 refine(Gw (M:=model prog w) (h:=h2) X2 hi) _ _ _ _ (λ_ _ e=>e) (jB (ay ((PySem.W.bind_fn (M:=model prog w) (h:=h2) X2 (.ref (h.objs.size+1)) hf) _ _ _ _ (λ_ _ e=>e) ?_)))
 refine ay (dE (hq h2 mk) (λr s' hr=>?_) λ_ _ z=>z)
 obtain⟨rfl,z⟩:=hr
 wp_walk
 exact z
theorem RZ{rest:List Value}{Q:Value->Shared->Prop}(X:K.In s.heap)(q:wj K C=true)(hi:PySem.W.findIn K (.ref C) "__init__" = some (some (.ref fI)))(hf:PySem.W.typeIn K (.ref fI)=some (.type "function"))
  (hq:∀h',Heap.MadeExcOf s.heap h' (s.heap.objs.size+1) (.ref C) rest->wpAny (model prog w) (A.under (.builtin "type.__call__" ⟨.ref C::rest,[]⟩)) (call (.ref fI) (.ref (s.heap.objs.size+1)::rest)) (λr s'=>r=.none/\Q (.ref (s.heap.objs.size+1)) s') E { s with heap:=h' }) (zN:rest.length<=sizeLine) :
  wpAny (model prog w) A (call (.ref C) rest) Q E s:=by
 obtain⟨nm,qn,N,bs,bm,sn,sub,ab,col,dd,k0,k1,k2,k3,k5,mN,hC,hN,T⟩:=yP X q
 obtain⟨h,g,d,t,os⟩:=s
 dsimp only at X hC hN T hq
 have f1:=tc_lookup
 have f2:=tc_bind (.ref C)
 have hT:(⟨h,g,d,t,os⟩:Shared).TypeIs (.ref C) "type":=⟨_,hC,rfl⟩
 refine j3 (Ak (show wpAny _ _ (callAny (.ref C) _) _ _ _ from ?_))
 repeat (any_goals (first | assumption | with_reducible refine Ar hC ?_ | wp_step))
 refine⟨rfl,codeAny_call_builtin_at (Av _ (by decide +kernel)) entry_typeCall (wpAny_check_type_call_sub hC (yf (s:=⟨h,g,d,t,os⟩) X q hi hf (λh' hm=>?_) zN))⟩
 exact hq h' hm
end
section
variable {prog:Program}{w:World}{A:Around}{E:Value->Shared->Prop}{s:Shared}{K:Frag}{C e:Addr}{oe:Obj}{vs:Array Value}
theorem Nw{t0:Addr}{rest:List Value}{Q:Value->Shared->Prop}(X:K.In s.heap)(q:wj K C=true)(he:s.heap.get? e=some { cls:=.ref C,data:=.fields #[.ref t0,.none,.none,.none,.bool false,.none] })
  (hq:Q .none { s with heap:=(s.heap.push { cls:=.type "tuple",data:=.seq rest.toArray }).update e (Obj.mapFields (·.setIfInBounds 0 (Value.ref s.heap.objs.size))) }) (zN:rest.length<=sizeLine) :
  wpAny (model prog w) A (call (.builtin "ValueError.__init__") (.ref e::rest)) Q E s:=by
 obtain⟨nm,qn,N,bs,bm,sn,sub,ab,col,dd,k0,k1,k2,k3,k5,mN,hC,hN,T⟩:=yP X q
 have FF:=PySem.F.excBase_ValueError
 obtain⟨h,g,d,t,os⟩:=s
 dsimp only at X hC hN T hq he
 have he1:(h.push { cls:=.type "tuple",data:=.seq rest.toArray }).get? e=some { cls:=.ref C,data:=.fields #[.ref t0,.none,.none,.none,.bool false,.none] }:=bZ _ he
 refine j3 (Bb FF.init.plain FF.initEntry (wpAny_check_init_subU FF T hC he rfl ?_))
 wp_walk
 exact hq
theorem DK(self:Value){h:Heap}{l:List Value}(T:OwnTail h veM l):refuseLoop self "__setattr__" l=pure ():=by
 induction T with
 | base=>exact PySem.F.store_ValueError.passes self
 | own _ _ _ _ ih=>rw[refuseLoop_ref];exact ih
theorem Lc{name:Str}{tk:Tok}{v:Value}{R:Result->Shared->Prop}(X:K.In s.heap)(q:wj K C=true)(he:s.heap.get? e=some oe)(hc:oe.cls=.ref C)(ht:PySem.W.takerIn K C name=some none)
  (h:∀b,wpAny (model prog w) A.in1 (Builtin.ObjectAttr.storeInOwnDict (.ref e) (.ref C) (.str name tk) name v b) (λfin s'=>match fin with | .done f=>R (.ok f) s' | .again c'=>c'.quiet=true/\codeAny (model prog w) A c' R s') (λx s'=>R (.error x) s') s) :
  codeAny (model prog w) A (.call (.builtin "object.__setattr__") ⟨[.ref e,.str name tk,v],[]⟩) R s:=by
 obtain⟨nm,qn,N,bs,bm,sn,sub,ab,col,dd,k0,k1,k2,k3,k5,mN,hC,hN,T⟩:=yP X q
 have SF:=PySem.F.store_object
 have ty:Looks (model prog w) s.heap (typeOf (.ref e)) (.ref C):=hc ▸ (Looks.ld he).andThen .now
 have sub:Looks (model prog w) s.heap (isInstance (.ref e) (.type "object")) true:=ty.andThen (λA Q E s k z=>by
  obtain⟨h,g,d,t,os⟩:=s
  refine Gf (k _ _ hC) ?_
  rw[List.contains_cons,T.hasType (X:="object") (b:=true) (by decide +kernel),Bool.or_true]
  exact z)
 refine Bb SF.slot.plain SF.entry (@PySem.W.check_slot (model prog w) _ _ s "object.__setattr__" "object" "__setattr__" (.ref e) [.str name tk,v] [] _ SF.kind SF.split sub (SF.args (.ref e) (.str name tk) v) ?_)
 obtain⟨attr,ha,hr⟩:=Option.bind_eq_some_iff.mp ht
 have hm:Looks (model prog w) s.heap (mroOf (.ref C)) (.ref C::bm):=λA Q E s k z=>by
  obtain⟨h,g,d,t,os⟩:=s
  exact wpAny_mroOf_exc (k _ _ hC) z
 have L3:Looks (model prog w) s.heap (Builtin.ObjectAttr.storeTaker? attr) none:=by
  cases attr with
  | none=>exact .now
  | some a=>
   obtain⟨b,hb,z⟩:=Option.map_eq_some_iff.mp hr
   cases b with
   | true=>cases z
   | false=>exact(PySem.W.looks_takesIn X hb).andThen .now
 rw[PySem.W.osa_eq,refuse_eq]
 refine ay (ay (ty.here (ay (hm.here ?_))))
 rw[refuseLoop_ref,DK _ T]
 exact aK (ay (ty.here (ay ((Gw X ha).here (ay (L3.here (h _)))))))
theorem aCf{name:Str}{v:Value}{Q:Unit->Shared->Prop}(X:K.In s.heap)(q:wj K C=true)(he:s.heap.get? e=some oe)(hc:oe.cls=.ref C)(hd:oe.dict=none)(Q0:oe.data=.fields vs)
  (hs:PySem.W.findIn K (.ref C) "__setattr__" = some (some (.builtin "object.__setattr__"))) (ht:PySem.W.takerIn K C name=some none)
  (h:∀h' tk,h'.get? e=some { oe with dict:=some s.heap.objs.size }->h'.Ns1 s.heap.objs.size (λy=>if y=name then some v else none)->(∀b o,b≠e->s.heap.get? b=some o->h'.get? b=some o)->Q () { s with heap:=h',toks:=tk }) :
  wpAny (model prog w) A (setAttr (.ref e) name v) Q E s:=by
 obtain⟨oc,od,oda,J0⟩:=oe
 dsimp only at hc hd Q0
 subst hc hd Q0
 have J:PySem.W.InstAt s.heap e ⟨.ref C,none,.fields vs,J0⟩ C none:=⟨he,rfl,rfl,True.intro⟩
 refine PySem.W.set_plain X J hs (Lc (s:={ s with toks:=s.toks+1 }) X q he rfl ht λb=>?_)
 obtain⟨nm,qn,N,bs,bm,sn,sub,ab,col,dd,k0,k1,k2,k3,k5,mN,hC,hN,T⟩:=yP X q
 have yA:Looks (model prog w) s.heap (classData C) _:=(Looks.ld (part:=none) hC).andThen .now
 refine ay (aK (ay (ay (wpAny_loadPart he (ay (Looks.here (s:={ s with toks:=s.toks+1 }) yA ?_))))))
 rw[aC (by simp)]
 dsimp only
 rw[aC (by simp[typeHasDict])]
 have he1:(s.heap.push { cls:=.type "dict",data:=.dict #[] }).get? e=some ⟨.ref C,none,.fields vs,J0⟩:=bZ _ he
 have yd:e≠s.heap.objs.size:=bH (aU he)
 refine ay (wpAny_alloc' (ay (wpAny_update' he1 ?_)))
 refine aK ?_
 have NT:=oW (λo:Obj=>{ cls:=o.cls,dict:=some s.heap.objs.size,data:=o.data,slots:=o.slots }) he1 rfl
 have kp2:∀b o,b≠e->(s.heap.push { cls:=.type "dict",data:=.dict #[] }).get? b=some o->((s.heap.push { cls:=.type "dict",data:=.dict #[] }).update e λo=>{ cls:=o.cls,dict:=some s.heap.objs.size,data:=o.data,slots:=o.slots }).get? b=some o:=λb o hb z=>(Heap.get?_update_ne _ _ _ _ hb).trans z
 have hgd:=kp2 _ _ yd.symm (Heap.get?_push_at (h:=s.heap) (o:={ cls:=.type "dict",data:=.dict #[] }) rfl rfl)
 have kp3:∀b o,b≠e->s.heap.get? b=some o->((s.heap.push { cls:=.type "dict",data:=.dict #[] }).update e λo=>{ cls:=o.cls,dict:=some s.heap.objs.size,data:=o.data,slots:=o.slots }).get? b=some o:=λb o hb z=>kp2 b o hb (bZ _ z)
 generalize ((s.heap.push { cls:=.type "dict",data:=.dict #[] }).update e λo=>{ cls:=o.cls,dict:=some s.heap.objs.size,data:=o.data,slots:=o.slots })=h2 at NT hgd kp3 ⊢
 have hnd:h2.Ns s.heap.objs.size (λ_=>none):=⟨_,#[],_,hgd,rfl,λx hx=>absurd hx (by simp),λ_=>rfl⟩
 refine ay (aK (ay ?_))
 refine wpAny_nsSet1 (s:={ s with heap:=h2,toks:=s.toks+1 }) (Heap.Ns1.of_empty hnd) λh' zO sb=>?_
 obtain⟨oD,esD,epD,hoD,hdD,hcD⟩:=zO.count (Within.cons name v Within.nil)
 refine ay (wpAny_lookBehind hoD (by rw[hdD];exact pastItsLine_dict (e8 hcD (by rw[eJ,vR,sizeLine_eq];omega))) ?_)
 exact aK (h h' _ ((sb.2 _ yd).trans NT) zO λb o hb z=>(sb.2 b (bH (aU z))).trans (kp3 b o hb z))
end
abbrev Xv(C:Addr)(dx:Option Addr)(t:Addr):Obj:={ cls:=.ref C,dict:=dx,data:=.fields #[.ref t,.none,.none,.none,.bool false,.none] }
section
variable {M:Model}{A:Around}{E:Value->Shared->Prop}{s:Shared}{K:Frag}{C:Addr}{env:Env}
theorem Xu{x:Sem Value}{Q:Flow->Shared->Prop}(q:wj K C=true)(hh:A.handled=none)(h:wpAny M A x (λv s₁=>∃e dx t,v=.ref e/\K.In s₁.heap/\s₁.heap.get? e=some (Xv C dx t)/\E (.ref e) s₁) E s) :
  wpAny M A (raiseStmt env (some x) none) Q E s:=by
 unfold raiseStmt
 refine ay (dE h (λv s₁ h₁=>?_) λ_ _ z=>z)
 obtain⟨e,dx,t,rfl,X,he,hE⟩:=h₁
 obtain⟨nm,qn,N,bs,bm,sn,sub,ab,col,dd,k0,k1,k2,k3,k5,mN,hC,hN,T⟩:=yP X q
 have hb:(Value.ref C::bm).contains (.type "BaseException")=true:=by rw[List.contains_cons,T.hasType (X:="BaseException") (b:=true) (by decide +kernel),Bool.or_true]
 obtain⟨hp,g,d,tk,os⟩:=s₁
 dsimp only at hC he
 repeat (first | with_reducible refine Ar he ?_ | (with_reducible refine Gf hC ?_;rw[hb]) | wp_step)
 exact Gg hh hE
end
def Wi(N:Addr->Prop)(h:Heap)(e C:Addr)(dx:Option Addr):Prop:=N e/\∃vs sl,h.get? e=some ⟨.ref C,dx,.fields vs,sl⟩/\(vs[1]?=some .none\/∃T oT ts,N T/\T≠e/\vs[1]?=some (.ref T)/\h.get? T=some oT/\oT.data=.fields ts/\ts[3]?=some .none)
structure Lv(fs ch:List Addr)(h h':Heap):Prop where
 keep:∀b o,b∉fs->b∉ch->h.get? b=some o->h'.get? b=some o
 slot:∀b o,b∈fs->h.get? b=some o->∃sl,h'.get? b=some { o with slots:=sl }
section
variable {M:Model}{A:Around}{E:Value->Shared->Prop}{s:Shared}{env:Env}{outer:List Env}{base:Heap}{N:Addr->Prop}{e C L:Addr}{dx:Option Addr}
theorem Ol{oe:Obj}{vs:Array Value}{head:Value}{Vr:Bool}{Q:Unit->Shared->Prop}(Cq:A.frames=some (env::outer))(hl:s.heap.FunFrames base (env::outer))(hf:env.frame=some L)
  (he:s.heap.get? e=some oe) (hd:oe.data=.fields vs) (hz:1<vs.size)
  (h:∀h' T oT ts,s.heap.objs.size<=T->T≠e->h'.get? e=some { oe with data:=.fields (vs.setIfInBounds 1 (.ref T)) }->h'.get? T=some oT->oT.data=.fields ts->ts[3]?=some (rawInt L)->
   (∀b o,b≠e->b∉o7 (env::outer)->s.heap.get? b=some o->h'.get? b=some o)->(∀b o,b∈o7 (env::outer)->s.heap.get? b=some o->∃sl,h'.get? b=some { o with slots:=sl })->h'.FunFrames base (env::outer)->Q () { s with heap:=h' }) :
  wpAny M A (do let a <-frameOf env;let pl <-entryPlaceOf L Vr;let b <-EntryCells.newEntry head a .none (rawInt L) .none pl;setField (.ref e) 1 b) Q E s:=by
 have nf:∀b,b∈o7 (env::outer)->b≠e:=λb hb z=>by
  obtain⟨_,o,ho,nd⟩:=hl.mem hb
  rw[z,he]at ho;cases ho;exact nd vs hd
 refine ay (wpAny_frameOf_fun Cq hl hf λh₁ so=>ay (wpAny_entryPlaceOf λpl kJ=>?_))
 unfold EntryCells.newEntry newFields
 refine ay (iJ ?_ (kJ.sizeOk5 _ _ _ _ _))
 have he1:h₁.get? e=some oe:=(so.2.1 e λz=>nf e z rfl).trans he
 have k2:∀b o,h₁.get? b=some o->(h₁.push { cls:=.type "traceback",dict:=none,data:=.fields ([head,.ref L,.none,rawInt L,.none]++(if pl.isEmpty then List.replicate 6 Value.none else pl)).toArray }).get? b=some o:=λb o z=>bZ _ z
 have t2:=cI h₁ (o:={ cls:=.type "traceback",dict:=none,data:=.fields ([head,.ref L,.none,rawInt L,.none]++(if pl.isEmpty then List.replicate 6 Value.none else pl)).toArray }) rfl
 have t3:([head,.ref L,.none,rawInt L,.none]++(if pl.isEmpty then List.replicate 6 Value.none else pl)).toArray[3]?=some (rawInt L):=by simp
 generalize ([head,.ref L,.none,rawInt L,.none]++(if pl.isEmpty then List.replicate 6 Value.none else pl)).toArray=ts at k2 t2 t3 ⊢
 generalize h₁.push { cls:=.type "traceback",dict:=none,data:=.fields ts }=h₂ at k2 t2 ⊢
 have he2:=k2 _ _ he1
 have ZK:h₁.objs.size≠e:=jA (aU he1)
 refine vP he2 hd hz ?_
 have YC:∀b o,b≠e->h₂.get? b=some o->(h₂.update e (Obj.mapFields (·.setIfInBounds 1 (Value.ref h₁.objs.size)))).get? b=some o:=λb o hb z=>(uO _ _ hb.symm).trans z
 have d3:=vY hd (·.setIfInBounds 1 (Value.ref h₁.objs.size))
 have he3:=oW (Obj.mapFields (·.setIfInBounds 1 (Value.ref h₁.objs.size))) he2 (Gm d3)
 have sl3:∀b o,b∈o7 (env::outer)->s.heap.get? b=some o->∃sl,(h₂.update e (Obj.mapFields (·.setIfInBounds 1 (Value.ref h₁.objs.size)))).get? b=some { o with slots:=sl }:=λb o hb z=>by
  obtain⟨sl,e1⟩:=so.2.2 b o z
  exact⟨sl,YC _ _ (nf b hb) (k2 _ _ e1)⟩
 refine h _ h₁.objs.size _ ts (Nat.le_of_eq so.1.symm) ZK ?_ (YC _ _ ZK t2) rfl t3 (λb o hb hf z=>YC b o hb (k2 _ _ ((so.2.1 b hf).trans z))) sl3 ?_
 ·rw[he3]
  obtain⟨oc,od,oda,J0⟩:=oe
  dsimp only at hd
  subst hd
  rfl
 ·refine hl.of_keeps λb o hb nd=>?_
  obtain⟨sl,e1⟩:=so.2.2 b o hb
  refine⟨_,YC b _ (λz=>?_) (k2 _ _ e1),rfl⟩
  rw[z,he]at hb;cases hb;exact nd vs hd
theorem aAk{T:Addr}{oe oT:Obj}{vs ts:Array Value}{Q:Unit->Shared->Prop}(he:s.heap.get? e=some oe)(hd:oe.data=.fields vs)(h1:vs[1]?=some (.ref T))(hT:s.heap.get? T=some oT)(hdT:oT.data=.fields ts)(hz:3<ts.size)
  (h:Q () { s with heap:=s.heap.update T (Obj.mapFields (·.setIfInBounds 3 Value.none)) }):wpAny M A (setFlight (.ref e) none) Q E s:=by
 unfold setFlight
 refine ay (pA he hd h1 ?_)
 rw[aB (show(Value.ref T != Value.none)=true from by simp)]
 exact vP hT hdT hz h
theorem Xw{Q:Unit->Shared->Prop}(Cq:A.frames=some (env::outer))(hl:s.heap.FunFrames base (env::outer))(hf:env.frame=some L)(hN:∀b,s.heap.objs.size<=b->N b)(x:Wi N s.heap e C dx)
  (h:∀h' ch,(∀b∈ch,N b/\∃o vs,s.heap.get? b=some o/\o.data=.fields vs)->Wi N h' e C dx->Lv (o7 (env::outer)) ch s.heap h'->Q () { s with heap:=h' }):wpAny M A (noteFrame (.ref e) env) (λ_ s'=>wpAny M A (setFlight (.ref e) none) Q E s') E s:=by
 obtain⟨ne,vs,sl,he,tb⟩:=x
 have fin:∀(ch:List Addr) (Ge:∀b∈ch,N b/\∃o vs,s.heap.get? b=some o/\o.data=.fields vs) (s1:Shared) (h':Heap) (T:Addr) (oT:Obj) (ts:Array Value),s1.heap.objs.size=s.heap.objs.size->s1.heap.objs.size<=T->T≠e->h'.get? e=some ⟨.ref C,dx,.fields (vs.setIfInBounds 1 (.ref T)),sl⟩->1<vs.size->h'.get? T=some oT->oT.data=.fields ts->ts[3]?=some (rawInt L)->
   (∀b o,b∉o7 (env::outer)->b∉ch->s.heap.get? b=some o->h'.get? b=some o)->(∀b o,b∈o7 (env::outer)->s.heap.get? b=some o->∃sl,h'.get? b=some { o with slots:=sl })->s1={ s with heap:=s1.heap }->
   wpAny M A (setFlight (.ref e) none) Q E { s1 with heap:=h' }:=λch Ge s1 h' T oT ts hs hT ZK e1 hz t1 t2 t3 k1 k2 es=>by
  have v1:(vs.setIfInBounds 1 (Value.ref T))[1]?=some (.ref T):=by simp[hz]
  have z3:=(wc.mp t3).1
  refine aAk (s:={ s1 with heap:=h' }) e1 rfl v1 t1 t2 z3 ?_
  have nT:N T:=hN T (by omega)
  have ot:∀b o,b≠T->h'.get? b=some o->(h'.update T (Obj.mapFields (·.setIfInBounds 3 Value.none))).get? b=some o:=λb o hb z=>(uO _ _ hb.symm).trans z
  have t4:=oW (Obj.mapFields (·.setIfInBounds 3 Value.none)) t1 (Gm (vY t2 _))
  have g:=h (h'.update T (Obj.mapFields (·.setIfInBounds 3 Value.none))) ch Ge ⟨ne,_,sl,ot _ _ ZK.symm e1,.inr ⟨T,_,_,nT,ZK,v1,t4,vY t2 _,by simp[z3]⟩⟩ ⟨λb o hb nb z=>ot b o (λy=>?_) (k1 b o hb nb z),λb o hb z=>?_⟩
  ·rw[es];exact g
  ·have:=aU z
   rw[y]at this
   exact absurd this (Nat.not_lt.mpr (by rw[<-hs];exact hT))
  ·obtain⟨sl',e2⟩:=k2 b o hb z
   refine⟨sl',ot b _ (λy=>?_) e2⟩
   obtain⟨_,o',Q7,nd⟩:=hl.mem hb
   have:=aU Q7
   rw[y]at this
   exact absurd this (Nat.not_lt.mpr (by rw[<-hs];exact hT))
 unfold noteFrame
 simp only[hf]
 rcases tb with h1 | ⟨T,oT,ts,nT,ZK,h1,hT,dT,h3⟩
 ·have hz:=(wc.mp h1).1
  refine ay (pA he rfl h1 ?_)
  rw[aC (by decide)]
  exact Ol Cq hl hf he rfl hz λh' T oT ts a1 a2 a3 a4 a5 a6 a7 a8 _=>fin [e] (λb hb=>by rw[cE.mp hb];exact⟨ne,_,_,he,rfl⟩) s h' T oT ts rfl a1 a2 a3 hz a4 a5 a6 (λb o hb nb z=>a7 b o (λy=>nb (by rw[y];simp)) hb z) a8 rfl
 ·have hz:=(wc.mp h1).1
  refine ay (pA he rfl h1 ?_)
  rw[aB (show(Value.ref T != Value.none)=true by simp)]
  refine ay (pA hT dT h3 ?_)
  rw[aC (show ¬((Value.none==rawInt L)=true) by simp[rawInt])]
  refine ay (vP hT dT (wc.mp h3).1 ?_)
  have ot:∀b o,b≠T->s.heap.get? b=some o->(s.heap.update T (Obj.mapFields (·.setIfInBounds 3 Value.none))).get? b=some o:=λb o hb z=>(uO _ _ hb.symm).trans z
  have nfT:∀b o,s.heap.get? b=some o->(∀vs,o.data≠.fields vs)->b≠T:=λb o z nd y=>by rw[y,hT]at z;cases z;exact nd ts dT
  have Kh:(s.heap.update T (Obj.mapFields (·.setIfInBounds 3 Value.none))).FunFrames base (env::outer):=hl.of_keeps λb o z nd=>⟨o,ot b o (nfT b o z nd) z,rfl⟩
  have sz:(s.heap.update T (Obj.mapFields (·.setIfInBounds 3 Value.none))).objs.size=s.heap.objs.size:=by simp
  have he2:=ot _ _ ZK.symm he
  generalize s.heap.update T (Obj.mapFields (·.setIfInBounds 3 Value.none))=hq at ot Kh sz he2 ⊢
  refine Ol (s:={ s with heap:=hq }) Cq Kh hf he2 rfl hz λh' T' oT' ts' a1 a2 a3 a4 a5 a6 a7 a8 _=>fin [e,T] (λb hb=>?_) { s with heap:=hq } h' T' oT' ts' sz a1 a2 a3 hz a4 a5 a6 (λb o hb nb z=>a7 b o (λy=>nb (by rw[y];simp)) hb (ot b o (λy=>nb (by rw[y];simp)) z)) (λb o hb z=>a8 b o hb (ot b o ?_ z)) rfl
  ·have:b=e\/b=T:=by simpa using hb
   rcases this with rfl | rfl
   ·exact⟨ne,_,_,he,rfl⟩
   ·exact⟨nT,_,_,hT,dT⟩
  ·obtain⟨_,o',Q7,nd⟩:=hl.mem hb
   exact nfT b o' Q7 nd
theorem Oj{Q:Unit->Shared->Prop}(Cq:A.frames=some (env::outer))(hl:s.heap.FunFrames base (env::outer))(hf:env.frame=some L)(hN:∀b,s.heap.objs.size<=b->N b)(x:Wi N s.heap e C dx)
  (h:∀h' ch,(∀b∈ch,N b/\∃o vs,s.heap.get? b=some o/\o.data=.fields vs)->Wi N h' e C dx->Lv (o7 (env::outer)) ch s.heap h'->Q () { s with heap:=h' }):wpAny M A (leaving env (.ref e)) Q E s:=ay (Xw Cq hl hf hN x h)
end
structure XC(K:Frag)(C:Addr):Prop where
 is:wj K C=true
 hd:PySem.W.hasDictIn K C=true
 sa:PySem.W.findIn K (.ref C) "__setattr__" = some (some (.builtin "object.__setattr__"))
 ga:PySem.W.findIn K (.ref C) "__getattribute__" = some (some (.builtin "BaseException.__getattribute__"))
 gn:PySem.W.findIn K (.ref C) "__getattr__" = some none
 ca:PySem.W.findIn K (.ref C) "__class__" = some (some (.builtin "object.__class__"))
 cn:PySem.W.specialIn K (.builtin "object.__class__") "__get__" = some (some (.builtin "getset_descriptor.__get__"))
 ct:PySem.W.takesIn K (.builtin "object.__class__")=some true
 cm:PySem.W.mroIn K C (.type "object")=some true
section
variable {prog:Program}{w:World}{A:Around}{E:Value->Shared->Prop}{s:Shared}{K:Frag}{C e:Addr}{oe:Obj}{od:Option Obj}
end
def Jx(P:Program)(w:World):K7:=λouter H s E x s'=>∃e C dx H',x=.ref e/\s'.os=s.os/\AllBare s'.gens/\Un (o7 outer) [] H H' s.heap s'.heap/\hX P w H' s'.heap/\Wi (λb=>s.heap.objs.size<=b/\H' b=none) s'.heap e C dx/\E (.ref C) dx H'
def XN(X:Cx)(pins:List (Addr×Obj))(H:Hp)(b:Addr):Prop:=X.s₀.heap.objs.size<=b/\H b=none/\b≠X.env.locals/\(∀x c,X.env.cells.lookup x=some c->c≠b)/\∀p∈X.pn++pins,p.1≠b
theorem XN.new{X:Cx}{pins:List (Addr×Obj)}{σ:St}{H H':Hp}{s:Shared}(I:Inv X pins σ H s){b:Addr}(hb:s.heap.objs.size<=b)(hn:H' b=none):XN X pins H' b:=by
 have nb:∀{c:Addr} {o:Obj},s.heap.get? c=some o->c≠b:=λz y=>absurd (aU z) (by rw[y];exact Nat.not_lt.mpr hb)
 refine⟨e8 I.sz hb,hn,λy=>?_,λx c e=>?_,λp hp=>nb (I.pin p hp).1⟩
 ·obtain⟨m,⟨o,_,_,ho,_⟩,_⟩:=I.loc
  exact nb ho y.symm
 ·obtain⟨v,o,ho,_⟩:=I.cell x c e
  exact nb ho
def pj(X:Cx)(EH:St->XK):Prop:=∀(pins:List (Addr×Obj)) (σ:St) (H:Hp) (s:Shared) (e C:Addr) (dx:Option Addr),Inv X pins σ H s->Wi (XN X pins H) s.heap e C dx->EH σ (.ref C) dx H->X.xe (.ref e) s
theorem Wi.mono{N N':Addr->Prop}{h:Heap}{e C:Addr}{dx:Option Addr}(k:∀b,N b->N' b)(x:Wi N h e C dx):Wi N' h e C dx:=by
 obtain⟨n,vs,sl,he,tb⟩:=x
 refine⟨k _ n,vs,sl,he,tb.imp id ?_⟩
 rintro⟨T,oT,ts,nT,r⟩
 exact⟨T,oT,ts,k _ nT,r⟩
theorem pj.pass{X:Cx}{EH:St->XK}(L:pj X EH){pins:List (Addr×Obj)}{σ:St}{H:Hp}{s s':Shared}{x:Value}(I:Inv X pins σ H s)(h:Jx X.prog X.w X.stack H s (EH σ) x s'):X.xe x s':=by
 obtain⟨e,C,dx,H',rfl,os,bare,un,bE,xa,q⟩:=h
 have I':Inv X pins σ H' s':=I.call' os un bE bare (λb z=>absurd z (by simp))
 exact L pins σ H' s' e C dx I' (xa.mono λb hb=>.new I hb.1 hb.2) q
section
variable {P:Program}{w:World}{K:Frag}{mg:Str->Option Value}{base:Heap}
theorem QM{N:List Str}{qual:Str}{scope:Scope}{f:Addr}{cd:Value}{A:Around}{outer:List Env}{s:Shared}{H:Hp}{E:XK}:pj (fQ (Jx P w) P w K mg base N qual scope f cd A outer s H E) (λ_=>E):=by
 intro pins σ H1 s1 e C dx I xa hE
 have hsz:s.heap.objs.size<=s1.heap.objs.size:=I.sz
 refine Oj (L:=s.heap.objs.size) (N:=λb=>s.heap.objs.size<=b/\H1 b=none) (base:=base) I.ok.frames I.stack rfl (λb hb=>⟨e8 hsz hb,I.bE.fresh hb⟩) (xa.mono λb hb=>⟨hb.1,hb.2.1⟩) λh' ch Ge xa' lv=>?_
 have nn:∀b o,s.heap.get? b=some o->b∉ch:=λb o z y=>absurd (aU z) (Nat.not_lt.mpr (Ge b y).1.1)
 have nf:∀b o,s.heap.get? b=some o->b∉o7 outer->b∉o7 (envOfC qual scope s.heap.objs.size f cd::outer):=λb o z hb y=>by
  rcases bT.mp (show b∈s.heap.objs.size::o7 outer from y) with y | y
  ·have:=aU z
   rw[y]at this
   exact jC _ this
  ·exact hb y
 have sub:∀b,b∈o7 outer->b∈o7 (envOfC qual scope s.heap.objs.size f cd::outer):=λb hb=>dN (a:=b) s.heap.objs.size hb
 have un:Un (o7 outer) [] H H1 s.heap s1.heap:=I.base
 refine⟨e,C,dx,H1,rfl,I.os,I.bare,⟨λb o z n hb hx=>lv.keep b o (nf b o z hb) (nn b o z) (un.keep b o z n hb hx),λb o z n hb hx=>?_,un.free,λb o z hx=>?_,un.tups,un.frzs,un.tbls⟩,λa u z=>?_,xa',hE⟩
 ·obtain⟨sl,z1⟩:=un.slot b o z n hb hx
  obtain⟨Ls,z2⟩:=lv.slot b _ (sub b hb) z1
  exact⟨Ls,z2⟩
 ·obtain⟨o',z1⟩:=un.there b o z hx
  by_cases hb:b∈o7 (envOfC qual scope s.heap.objs.size f cd::outer)
  ·obtain⟨Ls,z2⟩:=lv.slot b _ hb z1
   exact⟨_,z2⟩
  ·exact⟨o',lv.keep b o' hb (nn b o z) z1⟩
 ·refine(I.bE a u z).stay (λb v hb y=>?_) (λ_ q=>q) λ_ _ q=>q
  have hn:¬H1 b=none:=λy=>by
   rcases hb with rfl | hb
   ·rw[z]at y;cases y
   ·rw[hb]at y;cases y
  exact lv.keep b v (λy=>hn (I.Bo b y)) (λy=>hn (Ge b y).1.2) y
theorem jz.okE{x qual:Str}{st:Stmt}{f:Addr}{fd:FuncData}{N ps:List Str}{k:Nat}{sp:Sp}(F:jz K x qual st f fd)(S:aX N ps (ag st))(len:∀vs H Q E,sp vs H Q E->vs.length=ps.length)
  (fP:∀(cP:Value) (A:Around) (outer:List Env) (s:Shared) (H:Hp) (vs:List V) (Q:VK) (E:XK),cC k (A.deeper (envOfC qual (ag st) s.heap.objs.size f cP))->sp vs H Q E->
   HC (fQ (Jx P w) P w K mg base N qual (ag st) f cP A outer s H E) N (ag st)->(∀x,(fQ (Jx P w) P w K mg base N qual (ag st) f cP A outer s H E).fn x=true)->
   pj (fQ (Jx P w) P w K mg base N qual (ag st) f cP A outer s H E) (λ_=>E)->PassesOwn (model P w) (fQ (Jx P w) P w K mg base N qual (ag st) f cP A outer s H E).A (fQ (Jx P w) P w K mg base N qual (ag st) f cP A outer s H E).env (fQ (Jx P w) P w K mg base N qual (ag st) f cP A outer s H E).xe->
   ∃t,KS (fQ (Jx P w) P w K mg base N qual (ag st) f cP A outer s H E) (aO st) t/\t { nx:=λ_ H'=>Q .non H',rt:=Q } (start N vs) H):bS P w K mg base (Jx P w) (k+1) f fd ps sp:=by
 obtain⟨oc,od,kV,doc,pm,an,cP,ct,J0,rfl,lk,yA⟩:=F.ex
 refine RC lk yA S len λA outer s H vs Q E hr Gb=>?_
 obtain⟨t,h,q⟩:=fP cP A outer s H vs Q E hr Gb ⟨rfl,rfl⟩ (λ_=>rfl) QM PassesOwn.leaving
 exact⟨t,h.to,q⟩
end
section
variable {X:Cx}{k:Nat}{f C:Addr}{fd:FuncData}{ps:List Str}{sp:Sp}{EH:St->XK}{x:Str}{p pos:Pos}{e:Expr}{es:List Expr}{t:TA}
def Bn(sp:Sp)(EH:St->XK)(t:TA):TE:=λσ H Q=>t σ H λvs H1=>sp vs H1 Q (EH σ)
end
section
variable {X:Cx}{k:Nat}{fI C:Addr}{fd:FuncData}{ps:List Str}{sp:Sp}{EH:St->XK}{x:Str}{np dh pos:Pos}{a:Expr}{t:TA}
def vv(C:Addr)(t:TA)(EH:St->XK):TS:=λ_ σ H=>t σ H λvs H1=>vs.length<=sizeLine/\EH σ (.ref C) none H1
def jt(e C:Addr)(dx:Option Addr)(t:Addr):Heap->Prop:=λh=>h.get? e=some (Xv C dx t)
theorem Bj{P:Program}{w:World}{H:Hp}{h:Heap}{e C t:Addr}{dx:Option Addr}(z:h.get? e=some (Xv C dx t)):dj P w H h e (.ext (jt e C dx t)):=⟨z,⟨_,z⟩,λh1 h2 a b=>b _ a⟩
def Bp(C:Addr)(fld:Str):Sp:=λvs H Q _=>∃e v t,vs=[.ref e,v]/\H e=some (.ext (jt e C none t))/\∀dx t',H dx=none->dx≠e->Q .non (upd (upd H e (.ext (jt e C (some dx) t'))) dx (.xd [(fld,v)]))
def Nj(H:Hp)(e:Addr):Hp:=λb=>if b=e then none else H b
theorem uh{H:Hp}{e:Addr}:Nj H e e=none:=aB rfl
theorem jR{H:Hp}{e b:Addr}(h:b≠e):Nj H e b=H b:=aC h
theorem oA{H:Hp}{e b:Addr}(h:H b=none):Nj H e b=none:=by
 by_cases hb:b=e
 ·rw[hb];exact uh
 ·rw[jR hb];exact h
theorem Inv.forget{pins:List (Addr×Obj)}{σ:St}{H:Hp}{s:Shared}{e:Addr}{φ:Heap->Prop}(I:Inv X pins σ H s)(he:H e=some (.ext φ)):Inv X pins σ (Nj H e) s:=by
 have ne:∀{b:Addr} {u:HO},H b=some u->(HO.ext φ≠u)->b≠e:=λz n=>(bj he z n).symm
 have ok:hX X.prog X.w (Nj H e) s.heap:=λb u z=>by
  by_cases hb:b=e
  ·rw[hb,uh]at z;cases z
  ·rw[jR hb]at z
   refine(I.bE b u z).stay (λ_ _ _ q=>q) (λc q=>?_) λc xs q=>?_
   ·rw[jR (ne q (by intro z;cases z))];exact q
   ·rw[jR (ne q (by intro z;cases z))];exact q
 refine⟨I.ok,I.os,I.bare,⟨I.base.keep,I.base.slot,λb ob z n hx=>oA (I.base.free b ob z n hx),I.base.there,λb xs z=>?_,λb ob u z=>?_,λb ps z=>?_⟩,I.loc,I.cell,oA I.free,λx c z=>oA (I.kL x c z),λp hp=>?_,ok,I.len⟩
 ·have e1:=I.base.tups b xs z
  rw[jR (ne e1 (by intro z;cases z))];exact e1
 ·have e1:=I.base.frzs b ob u z
  rw[jR (ne e1 (by intro z;cases z))];exact e1
 ·obtain⟨m,e1⟩:=I.base.tbls b ps z
  exact⟨m,by rw[jR (ne e1 (by intro z;cases z))];exact e1⟩
 ·obtain⟨p1,p2,p3⟩:=I.pin p hp
  exact⟨p1,oA p2,p3⟩
def oi(C:Addr)(fld:Str)(t:TE)(EH:St->XK):TS:=λ_ σ H=>t σ H λv H1=>∀dx,H1 dx=none->EH σ (.ref C) (some dx) (upd H1 dx (.xd [(fld,v)]))
theorem Mg{fld:Str}{te:TE}(c:XC X.K C)(hi:PySem.W.findIn X.K (.ref C) "__init__" = some (some (.ref fI)))(hf:PySem.W.typeIn X.K (.ref fI)=some (.type "function"))(hk:PySem.W.keepIn X.K (.ref C)=true)
  (F:bS X.prog X.w X.K X.mg X.base fN k fI fd ps (Bp C fld)) (hb:Binds X.K fd ps []) (hr:cC (k+1) X.A) (hg:Gl X x) (hm:X.mg x=some (.ref C)) (hc:X.calm=true) (L:pj X EH) (ha:PE X a te)
  (uc:(x==("__debug__" : Str))=false:=by decide) (he:starEach [a] X.env=(false,eval a X.env)::starEach [] X.env:=by rfl) (kJ:(backTo dh (starEach [] X.env)).any (·.1)=false:=by rfl) :
  PS X (.Raise (some (.Call (.Name x np) [a] [] dh)) none pos) (oi C fld te EH):=by
 intro pins s σ H D I h
 rw[arm_exec_Raise]
 refine ay (sY (Xu c.is (I.ok.hd hc) ?_))
 refine ay (uL (oz I hg hm ?_ uc))
 refine v5 (h₀:=X.base) I.ok.mod.Y2 hk (cU (vz ha Hu he dh pins s σ H (λvs H1=>match vs with | [v]=>(∀dx,H1 dx=none->EH σ (.ref C) (some dx) (upd H1 dx (.xd [(fld,v)]))) | _=>False) I h) λus s1 ⟨vs,H1,I1,r,q⟩=>⟨I1.mL,?_⟩) he kJ
 match vs,q,r with
 | [v],q,r=>
  have ul:us.length<=sizeLine:=by rw[<-r.length];show 1<=sizeLine;decide
  refine RZ I1.mL c.is hi hf (λh' mk=>?_) ul
  obtain⟨t,e1,_,_⟩:=mk.there
  have fe:H1 (s1.heap.objs.size+1)=none:=I1.bE.fresh (iY _)
  have I2:=I1.laid (a:=s1.heap.objs.size+1) (o:=.ext (jt (s1.heap.objs.size+1) C none t)) (t':=s1.toks) mk.keeps (iY _) (Bj e1)
  have fe2:∀H':Hp,H' (s1.heap.objs.size+1)=none->XN X pins H' (s1.heap.objs.size+1):=λH' z=>.new I1 (iY _) z
  generalize s1.heap.objs.size+1=e at e1 fe I2 fe2
  have hq:Bp C fld [.ref e,v] (upd H1 e (.ext (jt e C none t))) (λu H2=>u=.non/\∃dx t',H1 dx=none/\dx≠e/\H2=upd (upd (upd H1 e (.ext (jt e C none t))) e (.ext (jt e C (some dx) t'))) dx (.xd [(fld,v)])) E0:=⟨e,v,t,rfl,ah,λdx t' hd yd=>⟨rfl,dx,t',by rwa [av yd]at hd,yd,rfl⟩⟩
  have r2:Vals [V.ref e,v] (Value.ref e::us):=.cons rfl r
  have hl:(Value.ref e::us).length=ps.length:=by rw[<-r2.length];exact F.len _ _ _ _ hq
  have b:=hb _ (Value.ref e::us) I2.mL (by rw[fZ];exact hl)
  rw[fZ]at b
  refine j3 (ko (F.run _ X.stack _ _ ⟨Value.ref e::us,[]⟩ (Value.ref e::us) _ _ E0 (hr.make C us []) (I2.Nh.make C us []) b r2 hq) λr s' M7=>?_)
  cases r with
  | error e=>exact False.elim M7
  | ok fl=>
   cases fl with
   | ret u=>
    obtain⟨v',H3,I3,rv,rfl,dx,t',Iy,yd,rfl⟩:=I2.after M7
    have e3:upd (upd (upd H1 e (.ext (jt e C none t))) e (.ext (jt e C (some dx) t'))) dx (.xd [(fld,v)]) e=some (.ext (jt e C (some dx) t')):=by rw[av yd.symm,ah]
    have o3:jt e C (some dx) t' s'.heap:=(I3.bE e _ e3).1
    have I4:=Inv.forget I3 e3
    have eh:Nj (upd (upd (upd H1 e (.ext (jt e C none t))) e (.ext (jt e C (some dx) t'))) dx (.xd [(fld,v)])) e=upd H1 dx (.xd [(fld,v)]):=by
     funext b
     by_cases hb:b=e
     ·rw[hb,uh,av yd.symm,fe]
     ·rw[jR hb]
      by_cases hd:b=dx
      ·rw[hd,ah,ah]
      ·rw[av hd,av hd,av hb,av hb]
    rw[eh]at I4
    refine⟨rv,ay (sY (aK ⟨e,some dx,t',rfl,I4.mL,o3,L pins σ _ _ e C (some dx) I4 ⟨fe2 _ (by rw[av yd.symm];exact fe),_,_,o3,.inl rfl⟩ (q dx Iy)⟩))⟩
   | _=>exact False.elim M7
end
section
variable {X:Cx}{B:Addr}{x:Str}{np dh apos pos pos':Pos}{a b o value:Expr}{t:TA}{ta tv:TE}{fld:Str}
def y0(K:Frag)(t:TA):TE:=λσ H Q=>t σ H λvs H1=>∃e C t0 v,vs=[.ref e,v]/\H1 e=some (.ext (jt e C none t0))/\XC K C/\∀t',Q .non (upd H1 e (.ext (jt e C none t')))
theorem Wa{pins:List (Addr×Obj)}{σ:St}{H1:Hp}{s1:Shared}{us:List Value}{vs:List V}{Q:VK}{A:Around}{E:Value->Shared->Prop}(I1:Inv X pins σ H1 s1)(r:Vals vs us)
  (h:∃e C t0 v,vs=[.ref e,v]/\H1 e=some (.ext (jt e C none t0))/\XC X.K C/\∀t',Q .non (upd H1 e (.ext (jt e C none t')))):wpAny (model X.prog X.w) A (call (.builtin "ValueError.__init__") us) (EP X pins σ Q) E s1:=by
 obtain⟨e,C,t0,v,rfl,he,c,q⟩:=h
 obtain⟨u1,u2,rfl,r1,r2⟩:=r.two
 obtain rfl:u1=Value.ref e:=r1
 have o1:s1.heap.get? e=some (Xv C none t0):=(I1.bE e _ he).1
 have e1:(s1.heap.push { cls:=.type "tuple",data:=.seq [u2].toArray }).get? e=some (Xv C none t0):=bZ _ o1
 have e2:((s1.heap.push { cls:=.type "tuple",data:=.seq [u2].toArray }).update e (Obj.mapFields (·.setIfInBounds 0 (Value.ref s1.heap.objs.size)))).get? e=some (Xv C none s1.heap.objs.size):=(oW _ e1 rfl).trans rfl
 have k2:∀b ob,b≠e->s1.heap.get? b=some ob->((s1.heap.push { cls:=.type "tuple",data:=.seq [u2].toArray }).update e (Obj.mapFields (·.setIfInBounds 0 (Value.ref s1.heap.objs.size)))).get? b=some ob:=λb ob hb z=>(uO _ _ hb.symm).trans (bZ _ z)
 refine Nw I1.mL c.is o1 ?_ (show 1<=sizeLine by decide)
 generalize ((s1.heap.push { cls:=.type "tuple",data:=.seq [u2].toArray }).update e (Obj.mapFields (·.setIfInBounds 0 (Value.ref s1.heap.objs.size))))=h2 at e2 k2 ⊢
 exact⟨.non,_,I1.write (x:=e) (e:=e) (o:=.ext (jt e C none s1.heap.objs.size)) (t':=s1.toks) (by rw[he];trivial) (.inl rfl) (λb ob hb z=>k2 b ob hb z) ⟨_,e2⟩ (Bj e2),rfl,q _⟩
theorem Uu{pl:Sem Bool}(hr:PySem.W.readsIn X.K B (.type "type")=true)(hf:PySem.W.findCls X.K (.ref B) (.type "type") "__init__" = some (.val (.builtin "ValueError.__init__")))
  (hs:PySem.W.specialIn X.K (.ref B) "__getattribute__" = some (some (.builtin "type.__getattribute__"))) (hg:Gl X x) (hm:X.mg x=some (.ref B)) (ha:PA X [a,b] t)
  (uc:(x==("__debug__" : Str))=false:=by decide) (Q5:starEach [a,b] X.env=(false,eval a X.env)::starEach [b] X.env:=by rfl) (kJ:(backTo dh (starEach [b] X.env)).any (·.1)=false:=by rfl)
  (ht:eval (.Call (.Attribute (.Name x np) "__init__" apos) [a,b] [] dh) X.env=(do
   let ov <-eval (.Name x np) X.env
   standAt apos.atName
   let (f,first) <-holding [ov] (getMethod ov "__init__" pl)
   callWith dh f first (backTo dh (starEach [a,b] X.env)) (backToKw dh (keywordEach [] X.env))):=by rfl) :
  PE X (.Call (.Attribute (.Name x np) "__init__" apos) [a,b] [] dh) (y0 X.K t):=by
 intro pins s σ H Q I h
 refine Bf (pl:=pl) (oz I hg hm ?_ uc) ht
 refine PySem.W.method_cls I.mL hs (PySem.W.cls_value I.mL hr hf rfl ?_)
 have I0:Inv X pins σ H { s with toks:=s.toks+1 }:=I.tok _
 show wpAny _ _ (callWith dh (.builtin "ValueError.__init__") [] (backTo dh (starEach [a,b] X.env)) []) _ _ _
 exact N9 (cU (ha dh pins _ σ H _ I0 h) λus s1 ⟨vs,H1,I1,r,q⟩=>Wa I1 r q) Q5 kJ
def zc(K:Frag)(ta tv:TE)(fld:Str):TS:=λD σ H=>tv σ H λy H1=>ta σ H1 λx H2=>∃e C t,x=.ref e/\H2 e=some (.ext (jt e C none t))/\XC K C/\PySem.W.takerIn K C fld=some none/\
 ∀dx,H2 dx=none->dx≠e->D.nx σ (upd (upd H2 e (.ext (jt e C (some dx) t))) dx (.xd [(fld,y)]))
theorem Ud(ha:PE X o ta)(hv:PE X value tv)(hs:swapsWith value (some (.Attribute o fld pos')) pos.line X.env=pure false):PS X (.Assign [.Attribute o fld pos'] value pos) (zc X.K ta tv fld):=by
 intro pins s σ H D I h
 refine plainObj_wpAny_Assign_Attribute (cU (hv pins s σ H _ I h) λu s1 ⟨y,H1,I1,ry,q⟩=>cU (ha pins s1 σ H1 _ I1 q) λov s2 ⟨x,H2,I2,rx,e,C,t,ex,he,c,tk,q2⟩=>?_) hs
 subst ex
 obtain rfl:ov=Value.ref e:=rx
 have o2:s2.heap.get? e=some (Xv C none t):=(I2.bE e _ he).1
 refine aCf I2.mL c.is o2 rfl rfl rfl c.sa tk λh' tk' e3 n3 k3=>?_
 have hd:H2 s2.heap.objs.size=none:=I2.bE.fresh (bx _)
 have hde:s2.heap.objs.size≠e:=jA (aU o2)
 have hdn:s2.heap.get? s2.heap.objs.size=none:=tH (bx _)
 generalize s2.heap.objs.size=dx at e3 n3 hd hde hdn
 have U:∀{b:Addr},b≠e->b≠dx->upd (upd H2 e (.ext (jt e C (some dx) t))) dx (.xd [(fld,y)]) b=H2 b:=λh1 h2=>by rw[av h2,av h1]
 have ne:∀{b:Addr} {z:HO},H2 b=some z->(HO.ext (jt e C none t)≠z)->b≠e:=λz n=>(bj he z n).symm
 have nd:∀{b:Addr} {z:HO},H2 b=some z->b≠dx:=λz y=>by rw[y,hd]at z;cases z
 have nb:∀{b:Addr} {z:Obj},s2.heap.get? b=some z->b≠dx:=λz y=>by rw[y,hdn]at z;cases z
 have nn:∀{b:Addr},H2 b=none->b≠e:=λz y=>by rw[y,he]at z;cases z
 refine⟨σ,_,I2.un (H':=upd (upd H2 e (.ext (jt e C (some dx) t))) dx (.xd [(fld,y)])) (t':=tk') ⟨λb ob z n _ _=>k3 b ob (nn n) z,λb ob z n _ _=>⟨ob.slots,k3 b ob (nn n) z⟩,λb ob z n _=>by rw[U (nn n) (nb z)];exact n,λb ob z _=>?_,λb xs z=>?_,λb ob z' z=>?_,λb ps z=>⟨#[],?_⟩⟩ λb z hz=>?_,q2 dx hd hde⟩
 ·by_cases hb:b=e
  ·rw[hb];exact⟨_,e3⟩
  ·exact⟨ob,k3 b ob hb z⟩
 ·rw[U (ne z (by intro z;cases z)) (nd z)];exact z
 ·rw[U (ne z (by intro z;cases z)) (nd z)];exact z
 ·rw[U (ne z (by intro z;cases z)) (nd z),z];simp
 ·by_cases hb:b=dx
  ·rw[hb,ah]at hz
   cases hz
   rw[hb]
   refine⟨_,n3,λf=>?_⟩
   by_cases hf:f=fld
   ·rw[hf,aB rfl]
    simp only[List.lookup,iI]
    exact ry
   ·rw[aC hf]
    have:(f==fld)=false:=pM.mpr hf
    simp only[List.lookup,this]
    trivial
  ·rw[av hb]at hz
   by_cases W9:b=e
   ·rw[W9,ah]at hz
    cases hz
    rw[W9]
    exact Bj e3
   ·rw[av W9]at hz
    refine(I2.bE b z hz).stay (λc v hc y=>k3 c v ?_ y) (λc y=>?_) λc xs y=>?_
    ·rcases hc with rfl | hc
     ·exact W9
     ·exact ne hc (by intro z;cases z)
    ·rw[U (ne y (by intro z;cases z)) (nd y)];exact y
    ·rw[U (ne y (by intro z;cases z)) (nd y)];exact y
end
def XOb(e C:Addr)(dx:Option Addr):Heap->Prop:=λh=>∃vs sl,h.get? e=some ⟨.ref C,dx,.fields vs,sl⟩
section
variable {X:Cx}{pins:List (Addr×Obj)}{σ:St}{H:Hp}{s:Shared}{e C:Addr}{dx:Option Addr}
end
section
variable {X:Cx}{pins P':List (Addr×Obj)}{σ:St}{H:Hp}{s:Shared}{e:Addr}{xe:Value->Shared->Prop}
end
def Ends.unb(D:Ends)(i:Nat):Ends:={ nx:=λσ H=>D.nx (σ.set i none) H,rt:=D.rt,bk:=λσ H=>D.bk (σ.set i none) H,ct:=λσ H=>D.ct (σ.set i none) H }
def Ta(K:Frag)(i:Nat)(B:Addr)(tb:(St->XK)->TS)(ts:TS):TS:=λD σ H=>∃EH:St->XK,tb EH D σ H/\∀σ' C dx H',EH σ' (.ref C) dx H'->PySem.W.subIn K (.ref C) (.ref B)=some true/\∀e,H' e=none->ts (D.unb i) (σ'.set i (some (.ref e))) (upd H' e (.ext (XOb e C dx)))
section
variable {X:Cx}{B:Addr}{x n:Str}{np aEk pos:Pos}{body suite:List Stmt}{b₀:Stmt}{tb:(St->XK)->TS}{ts:TS}{i:Nat}
end
def Sb(H:Hp)(dx:Option Addr):Prop:=∀d,dx=some d->∃fs,H d=some (.xd fs)
section
variable {X:Cx}{pins:List (Addr×Obj)}{σ:St}{H:Hp}{s:Shared}{e C:Addr}{dx:Option Addr}
def By(K:Frag):List V->Hp->VK->Prop:=λvs H Q=>∃e T,vs=[.ref e,.ty T]/\∃C dx,H e=some (.ext (XOb e C dx))/\Sb H dx/\XC K C/\∃b,PySem.W.kitOne K (.ref C) (.type T)=some b/\Q (.bl b) H
def Bz(K:Frag):List V->Hp->VK->Prop:=λvs H Q=>∃e D,vs=[.ref e,.ref D]/\∃C dx,H e=some (.ext (XOb e C dx))/\Sb H dx/\XC K C/\∃b,PySem.W.kitOne K (.ref C) (.ref D)=some b/\Q (.bl b) H
def BG(K:Frag):List V->Hp->VK->Prop:=λvs H Q=>∃e p,vs=[.ref e,.ref p]/\∃Ds:List Addr,H p=some (.tup (Ds.map V.ref))/\∃C dx,H e=some (.ext (XOb e C dx))/\Sb H dx/\XC K C/\∃b,PySem.W.kitAny K (.ref C) (Ds.map Value.ref)=some b/\Q (.bl b) H
def JB(K:Frag)(ta:TE)(f:Str):TE:=λσ H Q=>ta σ H λx H1=>∃e,x=.ref e/\∃C dx,H1 e=some (.ext (XOb e C (some dx)))/\XC K C/\PySem.W.findIn K (.ref C) f=some none/\∃fs,H1 dx=some (.xd fs)/\∃v,fs.lookup f=some v/\Q v H1
end
section
variable {X:Cx}{N:List Str}{sc:Scope}
variable {k:Nat}{fI C B:Addr}{fd:FuncData}{ps:List Str}{sp:Sp}{EH:St->XK}{x n fld:Str}{np dh apos aEk pos pos':Pos}{a b o value:Expr}{t:TA}{te ta tv:TE}{body suite:List Stmt}{b₀:Stmt}{tb:(St->XK)->TS}{ts:TS}
theorem GZ(c:XC X.K C)(hi:PySem.W.findIn X.K (.ref C) "__init__" = some (some (.ref fI)))(hf:PySem.W.typeIn X.K (.ref fI)=some (.type "function"))(hk:PySem.W.keepIn X.K (.ref C)=true)
  (F:bS X.prog X.w X.K X.mg X.base fN k fI fd ps (Bp C fld)) (hb:Binds X.K fd ps []) (hr:cC (k+1) X.A) (hg:Gl X x) (hm:X.mg x=some (.ref C)) (hc:X.calm=true) (L:pj X EH) (ha:ZE X a te)
  (uc:(x==("__debug__" : Str))=false:=by decide) (he:starEach [a] X.env=(false,eval a X.env)::starEach [] X.env:=by rfl) (kJ:(backTo dh (starEach [] X.env)).any (·.1)=false:=by rfl) :
  ZS X (.Raise (some (.Call (.Name x np) [a] [] dh)) none pos) (oi C fld te EH):=⟨Mg c hi hf hk F hb hr hg hm hc L ha.to uc he kJ⟩
theorem Oi{pl:Sem Bool}(hr:PySem.W.readsIn X.K B (.type "type")=true)(hf:PySem.W.findCls X.K (.ref B) (.type "type") "__init__" = some (.val (.builtin "ValueError.__init__")))
  (hs:PySem.W.specialIn X.K (.ref B) "__getattribute__" = some (some (.builtin "type.__getattribute__"))) (hg:Gl X x) (hm:X.mg x=some (.ref B)) (ha:ZA X [a,b] t)
  (uc:(x==("__debug__" : Str))=false:=by decide) (Q5:starEach [a,b] X.env=(false,eval a X.env)::starEach [b] X.env:=by rfl) (kJ:(backTo dh (starEach [b] X.env)).any (·.1)=false:=by rfl)
  (ht:eval (.Call (.Attribute (.Name x np) "__init__" apos) [a,b] [] dh) X.env=(do
   let ov <-eval (.Name x np) X.env
   standAt apos.atName
   let (f,first) <-holding [ov] (getMethod ov "__init__" pl)
   callWith dh f first (backTo dh (starEach [a,b] X.env)) (backToKw dh (keywordEach [] X.env))):=by rfl) :
  ZE X (.Call (.Attribute (.Name x np) "__init__" apos) [a,b] [] dh) (y0 X.K t):=⟨Uu (pl:=pl) hr hf hs hg hm ha.to uc Q5 kJ ht⟩
theorem Oe(ha:ZE X o ta)(hv:ZE X value tv)(hs:swapsWith value (some (.Attribute o fld pos')) pos.line X.env=pure false):ZS X (.Assign [.Attribute o fld pos'] value pos) (zc X.K ta tv fld):=⟨Ud ha.to hv.to hs⟩
end
section
variable {X:Cx}
def JN(neg:Bool):R2:=λx y H Q=>∃p q,x=.ref p/\y=.ref q/\∃xs ys:List Str,H p=some (.tup (List.map V.str xs))/\H q=some (.tup (List.map V.str ys))/\Q (.bl (if neg then !decide (xs=ys) else decide (xs=ys))) H
end
end L2
end
section
namespace L2
open PySem PySem.Spec PySem.W PyProof.Rows
abbrev dy(o:Obj):HO:=.zS o (.own 0)
def eD(C:List (Addr×Obj))(H:Hp):Hp:=λb=>match C.lookup b with | some o=>some (dy o) | none=>H b
def aP(C:List (Addr×Obj))(H:Hp):Hp:=λb=>match C.lookup b with | some _=>none | none=>H b
theorem jU{C:List (Addr×Obj)}{H:Hp}{b:Addr}{o:Obj}(h:C.lookup b=some o):eD C H b=some (dy o):=by unfold eD;rw[h]
theorem bO{C:List (Addr×Obj)}{H:Hp}{b:Addr}(h:C.lookup b=none):eD C H b=H b:=by unfold eD;rw[h]
theorem kM{C:List (Addr×Obj)}{H:Hp}{b:Addr}{o:Obj}(h:C.lookup b=some o):aP C H b=none:=by unfold aP;rw[h]
theorem aT{C:List (Addr×Obj)}{H:Hp}{b:Addr}(h:C.lookup b=none):aP C H b=H b:=by unfold aP;rw[h]
def dD(C:List (Addr×Obj))(H:Hp):Prop:=∀b o,C.lookup b=some o->H b=some (dy o)
def cQ(C:List (Addr×Obj))(H:Hp):Prop:=∀b o,C.lookup b=some o->H b=none
theorem dD.out{C:List (Addr×Obj)}{H:Hp}(p:dD C H){b:Addr}{u:HO}(e:H b=some u)(n:∀o,u≠dy o):C.lookup b=none:=by
 cases q:C.lookup b with
 | none=>rfl
 | some o=>rw[p b o q]at e;cases e;exact absurd rfl (n o)
theorem dD.Ml{C:List (Addr×Obj)}{H:Hp}(p:dD C H){b:Addr}(e:H b=none):C.lookup b=none:=by
 cases q:C.lookup b with
 | none=>rfl
 | some o=>rw[p b o q]at e;cases e
theorem cQ.out{C:List (Addr×Obj)}{H:Hp}(p:cQ C H){b:Addr}{u:HO}(e:H b=some u):C.lookup b=none:=by
 cases q:C.lookup b with
 | none=>rfl
 | some o=>rw[p b o q]at e;cases e
theorem cQ.added{C:List (Addr×Obj)}{H:Hp}:dD C (eD C H):=λ_ _ h=>jU h
section
variable {P:Program}{w:World}{H H':Hp}{h h':Heap}{C:List (Addr×Obj)}{fs:List Addr}
theorem _root_.L2.hX.eD(x:hX P w H h)(p:cQ C H)(k:∀b o,C.lookup b=some o->h.get? b=some o):hX P w (eD C H) h:=λb u e=>by
 cases q:C.lookup b with
 | some o=>rw[jU q]at e;cases e;exact⟨k b o q,o,k b o q⟩
 | none=>
  rw[bO q]at e
  exact(x b u e).stay (λ_ _ _ z=>z) (λc z=>by rw[bO (p.out z)];exact z) λc xs z=>by rw[bO (p.out z)];exact z
theorem _root_.L2.hX.aP(x:hX P w H h)(p:dD C H):hX P w (aP C H) h:=λb u e=>by
 cases q:C.lookup b with
 | some o=>rw[kM q]at e;cases e
 | none=>
  rw[aT q]at e
  exact(x b u e).stay (λ_ _ _ z=>z) (λc z=>by rw[aT (p.out z (by intro o n;cases n))];exact z) λc xs z=>by rw[aT (p.out z (by intro o n;cases n))];exact z
theorem hX.pins(x:hX P w H h)(p:dD C H):∀b o,C.lookup b=some o->h.get? b=some o:=λb o q=>(x b _ (p b o q)).1
theorem Un.Kr(u:Un fs [] (eD C H) H' h h')(x:hX P w H' h')(p:cQ C H)(k:∀b o,C.lookup b=some o->h.get? b=some o):Un fs [] H (aP C H') h h':=by
 have Mi:dD C H':=λb o q=>u.frzs b o _ (jU q)
 have at':∀b o,C.lookup b=some o->h'.get? b=some o:=x.pins Mi
 refine⟨λb o e n hb hx=>?_,λb o e n hb hx=>?_,λb o e n hx=>?_,u.there,λb xs e=>?_,λb o v e=>?_,λb ps e=>?_⟩
 ·cases q:C.lookup b with
  | some o'=>have:=k b o' q;rw[e]at this;cases this;exact at' b o q
  | none=>exact u.keep b o e (by rw[bO q];exact n) hb hx
 ·cases q:C.lookup b with
  | some o'=>have:=k b o' q;rw[e]at this;cases this;exact⟨o.slots,at' b o q⟩
  | none=>exact u.slot b o e (by rw[bO q];exact n) hb hx
 ·cases q:C.lookup b with
  | some o'=>exact kM q
  | none=>rw[aT q];exact u.free b o e (by rw[bO q];exact n) hx
 ·rw[aT (p.out e)];exact u.tups b xs (by rw[bO (p.out e)];exact e)
 ·rw[aT (p.out e)];exact u.frzs b o v (by rw[bO (p.out e)];exact e)
 ·obtain⟨m,z⟩:=u.tbls b ps (by rw[bO (p.out e)];exact e)
  exact⟨m,by rw[aT (p.out e)];exact z⟩
theorem Un.KR(u:Un fs [] (aP C H) H' h h')(x:hX P w H h)(p:dD C H)(nf:∀b o,C.lookup b=some o->b∉fs):Un fs [] H (eD C H') h h'/\cQ C H'/\∀b o,C.lookup b=some o->h'.get? b=some o:=by
 have k:=x.pins p
 refine⟨⟨λb o e n hb hx=>u.keep b o e (by rw[aT (p.Ml n)];exact n) hb hx,λb o e n hb hx=>u.slot b o e (by rw[aT (p.Ml n)];exact n) hb hx,λb o e n hx=>?_,u.there,λb xs e=>?_,λb o v e=>?_,λb ps e=>?_⟩,λb o q=>?_,λb o q=>?_⟩
 ·rw[bO (p.Ml n)];exact u.free b o e (by rw[aT (p.Ml n)];exact n) hx
 ·have q:=p.out e (by intro o n;cases n)
  rw[bO q];exact u.tups b xs (by rw[aT q];exact e)
 ·cases q:C.lookup b with
  | some o'=>rw[p b o' q]at e;cases e;exact jU q
  | none=>rw[bO q];exact u.frzs b o v (by rw[aT q];exact e)
 ·have q:=p.out e (by intro o n;cases n)
  obtain⟨m,z⟩:=u.tbls b ps (by rw[aT q];exact e)
  exact⟨m,by rw[bO q];exact z⟩
 ·exact u.free b o (k b o q) (kM q) (by simp)
 ·exact u.keep b o (k b o q) (kM q) (nf b o q) (by simp)
end
def pz(P:Program)(w:World)(K:PySem.W.Frag)(mg:Str->Option Value)(base:Heap)(k:Nat)(f:Addr)(sp:Sp):Prop:=
 ∀(A:Around) (outer:List Env) (s:Shared) (H:Hp) (us:List Value) (vs:List V) (Q:VK) (E:XK),cC k A->qK P w K mg base A outer s H->Vals vs us->sp vs H Q E->codeAny (model P w) A (.call (.ref f) ⟨us,[]⟩) (CR fN outer P w H s Q E) s
def Xn(P:Program)(w:World)(K:PySem.W.Frag)(mg:Str->Option Value)(base:Heap)(N:List Str)(qual:Str)(scope:Scope)(f:Addr)(cd:Value)(cl:List (Str×Addr))(A:Around)(outer:List Env)(s:Shared)(H:Hp):Cx where
 prog:=P
 w:=w
 K:=K
 mg:=mg
 base:=base
 A:=A.deeper (envX qual scope s.heap.objs.size f cd cl)
 N:=N
 s₀:=s
 H₀:=H
 env:=envX qual scope s.heap.objs.size f cd cl
 outer:=outer
 stack:=envX qual scope s.heap.objs.size f cd cl::outer
 ex:=[]
 calm:=true
 fn:=λ_=>false
 pn:=[]
 xe:=λ_ _=>False
theorem uS{u:Value}{x:Str}:∀{l:List (Str×Value)},(x,u)∈l->(∀v,(x,v)∈l->v=u)->l.lookup x=some u
 | [],h,_=>nomatch h
 | (y,v)::l,h,q=>by
  rw[ie]
  by_cases e:x=y
  ·subst e
   rw[iI]
   show some v=some u
   rw[q v du]
  ·rw[vU e]
   refine uS ?_ λv hv=>q v (dN _ hv)
   rcases bT.mp h with z | z
   ·cases z;exact absurd rfl e
   ·exact z
theorem Ie{ps:List Str}{us:List Value}{i:Nat}{x:Str}{u:Value}(nd:ps.Nodup)(h1:ps[i]?=some x)(h2:us[i]?=some u):(ps.zip us).reverse.lookup x=some u:=by
 have hz:(ps.zip us)[i]?=some (x,u):=by rw[List.getElem?_zip_eq_some];exact⟨h1,h2⟩
 refine uS (List.mem_reverse.mpr (oV hz)) λv hv=>?_
 obtain⟨j,hj⟩:=GC.mp (List.mem_reverse.mp hv)
 rw[List.getElem?_zip_eq_some]at hj
 have:i=j:=wU nd h1 hj.1
 subst this
 rw[h2]at hj
 exact(eG hj.2).symm
def CellsOk(C:List (Addr×Obj))(cl:List (Str×Addr))(fr:List Str)(IW:List V):Prop:=∀(i:Nat) x,fr[i]?=some x->∃c o u v,cl.lookup x=some c/\C.lookup c=some o/\o.data=.cell (some u)/\IW[i]?=some v/\RelV v u
theorem KD{P:Program}{w:World}{K:PySem.W.Frag}{mg:Str->Option Value}{base:Heap}{f:Addr}{qual:Str}{scope:Scope}{cl:List (Str×Addr)}{cd:Value}{ps fr:List Str}{C:List (Addr×Obj)}{IW vs:List V}{us:List Value}{A:Around}{outer:List Env}{s:Shared}{H:Hp}{h₁:Heap}{tk:Tok}
  (kind:scope.kind=.function) (j7:∀x∈scope.names,x.2≠.cell) (nd:(ps++fr).Nodup) (par:∀x∈ps,scope.names.lookup x=some .local) (frk:∀x∈fr,scope.names.lookup x=some .free)
  (has:∀x,scope.names.lookup x=some .free->x∈fr) (ua:∀x c,cl.lookup x=some c->x∈fr) (inj:∀x y c,cl.lookup x=some c->cl.lookup y=some c->x=y)
  (hd:A.handled=none) (e0:qK P w K mg base A outer s H) (r:Vals vs us) (hl:vs.length=ps.length) (hC:dD C H) (lfv:IW.length=fr.length) (Sw:CellsOk C cl fr IW)
  (Sv:h₁.Ns s.heap.objs.size (λx=>(ps.zip us).reverse.lookup x)) (W4:∀b o,s.heap.get? b=some o->h₁.get? b=some o) :
  Inv (Xn P w K mg base (ps++fr) qual scope f cd cl A outer s (aP C H)) [] ((vs++IW).map some) (aP C H) { s with heap:=h₁,toks:=tk }:=by
 have hk:=e0.bE
 have pins:=hk.pins hC
 have ndP:ps.Nodup:=(Ay.mp nd).1
 have cellAt:∀x c,cl.lookup x=some c->∃o u,C.lookup c=some o/\o.data=.cell (some u)/\s.heap.get? c=some o:=λx c e=>by
  obtain⟨i,hi⟩:=GC.mp (ua x c e)
  obtain⟨c2,o,u,v,h1,h2,h3,_⟩:=Sw i x hi
  rw[e]at h1;cases h1
  exact⟨o,u,h2,h3,pins _ _ h2⟩
 have aEq:hX P w (aP C H) h₁:=(hk.aP hC).kept W4
 have Sj:∀b:Addr,b∉(Xn P w K mg base (ps++fr) qual scope f cd cl A outer s (aP C H)).ex:=λb z=>absurd (show b∈([]:List Addr) from z) (by simp)
 have aAW:∀b,H b=none->aP C H b=none:=λb n=>by rw[aT (hC.Ml n)];exact n
 refine⟨⟨e0.mod,kind,rfl,rfl,bx _,inj,λy hy=>?_,λy c z _=>absurd (show false=true from z) (by simp),λ_=>hd,Around.frames_deeper e0.frames,.inr ⟨rfl,rfl⟩,λb z=>absurd z (Sj b),λb o e=>⟨(e0.bs b o e).1,aAW b (e0.bs b o e).2⟩,e0.Nt,λb _ _=>Sj b,λb z=>absurd z (Sj b),e0.oK,λb hb=>aAW b (e0.N3 b hb)⟩,
  rfl,e0.bare,Un.kept W4,⟨_,Sv,λi y v h1 h2 h3=>?_⟩,λy c h=>?_,?_,λy c h=>?_,λp hp=>absurd (show p∈([]:List (Addr×Obj)) from hp) (by simp),aEq,?_⟩
 ·have hy:scope.names.lookup y=some .cell\/scope.names.lookup y=some .free:=hy
  rcases hy with hy | hy
  ·exact absurd rfl (j7 _ (kr hy))
  ·obtain⟨i,hi⟩:=GC.mp (has y hy)
   obtain⟨c,_,_,_,e,_⟩:=Sw i y hi
   exact⟨c,e⟩
 ·have h1:(ps++fr)[i]?=some y:=h1
  rw[cH]at h2
  by_cases hi:i<ps.length
  ·rw[mh hi]at h1
   rw[mh (by omega)]at h2
   have ha:vs[i]?=some v:=by
    cases e:vs[i]? with
    | none=>rw[e]at h2;cases h2
    | some a=>rw[e]at h2;cases h2;rfl
   obtain⟨u,Vb,rv⟩:=r.get ha
   exact⟨u,rv,.inl ⟨par y (oV h1),Ie ndP h1 Vb⟩⟩
  ·rw[jI (by omega)]at h1
   rw[jI (by omega),hl]at h2
   obtain⟨c,o,u,v',e1,e2,e3,e4,e5⟩:=Sw _ y h1
   rw[e4]at h2;cases h2
   exact⟨u,e5,.inr ⟨.inr (frk y (oV h1)),c,e1,o,W4 _ _ (pins _ _ e2),e3⟩⟩
 ·obtain⟨o,u,_,e3,e4⟩:=cellAt y c h
  exact⟨_,o,W4 _ _ e4,e3⟩
 ·exact(hk.aP hC).fresh (bx _)
 ·obtain⟨o,u,e2,_⟩:=cellAt y c h
  exact kM e2
 ·rw[aY,cS,hl,lfv]
  exact cS.symm
theorem KH{P:Program}{w:World}{K:PySem.W.Frag}{mg:Str->Option Value}{base:Heap}{N:List Str}{f:Addr}{qual:Str}{scope:Scope}{cl:List (Str×Addr)}{cd:Value}{C:List (Addr×Obj)}{A:Around}{outer:List Env}{s s':Shared}{H H':Hp}{σ':St}{Q:VK}{v:V}{u:Value}
  (e0:qK P w K mg base A outer s H) (hC:dD C H) (J:Inv (Xn P w K mg base N qual scope f cd cl A outer s (aP C H)) [] σ' H' s') (rv:RelV v u) (q:Q v (eD C H')):CE outer P w H s Q u s':=by
 have nf:∀b o,C.lookup b=some o->b∉o7 outer:=λb o q z=>by have:=e0.N3 b z;rw[hC b o q]at this;cases this
 obtain⟨un,po,at'⟩:=Un.KR (H:=H) (h:=s.heap) J.base e0.bE hC nf
 exact⟨v,eD C H',J.os,J.bare,un,J.bE.eD po at',rv,q⟩
theorem Z'{P:Program}{w:World}{K:PySem.W.Frag}{mg:Str->Option Value}{base:Heap}{k:Nat}{f c':Addr}{name qual:Str}{params:Arguments}{body:List Stmt}{scope:Scope}{cl:List (Str×Addr)}{doc pm ctv:Value}{fo oc:Obj}{Dl:Array Value}{tq:Tok}
  {ps fr:List Str} {sp:Sp} (Vp:fo.data=.func (fnX name qual params body scope cl .none .none doc pm none (.ref c') ctv)) (sV:oc.data=.fields Dl) (hq:Dl[1]?=some (.str qual tq))
  (kind:scope.kind=.function) (co:scope.isCoroutine=false) (gen:scope.isGenerator=false) (j7:∀x∈scope.names,x.2≠.cell) (nd:(ps++fr).Nodup) (par:∀x∈ps,scope.names.lookup x=some .local) (frk:∀x∈fr,scope.names.lookup x=some .free)
  (has:∀x,scope.names.lookup x=some .free->x∈fr)
  (ua:∀x c,cl.lookup x=some c->x∈fr) (inj:∀x y c,cl.lookup x=some c->cl.lookup y=some c->x=y)
  (Fm:∀us:List Value,us.length=ps.length->bindArgs (fnX name qual params body scope cl .none .none doc pm none (.ref c') ctv) ⟨us,[]⟩=pure (ps.zip us))
  (fP:∀vs H Q E,sp vs H Q E->∃C IW,vs.length=ps.length/\H f=some (dy fo)/\H c'=some (dy oc)/\dD C H/\IW.length=fr.length/\CellsOk C cl fr IW/\
   ∀(A:Around) (outer:List Env) (s:Shared),cC k (A.deeper (envX qual scope s.heap.objs.size f (.ref c') cl))->
   HC (Xn P w K mg base (ps++fr) qual scope f (.ref c') cl A outer s (aP C H)) (ps++fr) scope->
   ∃t,KS (Xn P w K mg base (ps++fr) qual scope f (.ref c') cl A outer s (aP C H)) body t/\t { nx:=λ_ H'=>Q .non (eD C H'),rt:=λv H'=>Q v (eD C H') } ((vs++IW).map some) (aP C H)) :
  pz P w K mg base (k+1) f sp:=by
 intro A outer s H us vs Q E hr e0 r Gb
 obtain⟨C,IW,hl,hf,hc,hC,lfv,Sw,fP⟩:=fP _ _ _ _ Gb
 have lim:s.heap.NoLimit:=e0.mod.nolimit.keeps λb o e=>(e0.bs b o e).1
 have hk:=e0.bE
 have hu:us.length=ps.length:=by rw[<-r.length];exact hl
 refine codeAny_call_def (body:=body) (binds:=ps.zip us) hr.depth (hk _ _ hf).1 Vp lim ⟨c',oc,Dl,tq,rfl,(hk _ _ hc).1,sV,hq⟩ rfl (.of_eq (Fm us hu)) j7 (λy hy=>par y.1 (vS (a:=y.1) (b:=y.2) hy).1) (λh₁ Sv W4=>?_) co gen kind
 obtain⟨t,ht,M7⟩:=fP A outer s (hr.deeper _) ⟨rfl,rfl⟩
 refine dE (ht.to [] _ _ _ _ (KD kind j7 nd par frk has ua inj hr.hd e0 r hl hC lfv Sw Sv W4) M7) (λfl s' hs=>?_) λe s' hs=>False.elim hs
 cases fl with
 | ret u=>
  obtain⟨v,σ',H',J,rv,q⟩:=hs
  exact KH e0 hC J rv q
 | next=>
  obtain⟨σ',H',J,q⟩:=hs
  exact KH (v:=V.non) (u:=Value.none) e0 hC J rfl q
 | brk=>
  obtain⟨_,_,_,q⟩:=hs
  exact False.elim q
 | cont=>
  obtain⟨_,_,_,q⟩:=hs
  exact False.elim q
def FnO(H:Hp)(f:Addr):Prop:=∃fo fd,H f=some (dy fo)/\fo.data=.func fd
theorem FnO.at{P:Program}{w:World}{H:Hp}{h:Heap}{f:Addr}(x:FnO H f)(ok:hX P w H h):FnAt f h:=by
 obtain⟨fo,fd,e,d⟩:=x
 obtain⟨oc,od,dt,sl⟩:=fo
 have d':dt=.func fd:=d
 subst d'
 exact⟨oc,od,fd,sl,(ok f _ e).1⟩
section
variable {X:Cx}{k:Nat}{f C:Addr}{sp:Sp}{E:XK}{x m:Str}{p pos apos:Pos}{e o:Expr}{es:List Expr}{ta:TE}{t:TA}
theorem JM{pins:List (Addr×Obj)}{σ:St}{H:Hp}{s:Shared}{Q:VK}{us:List Value}{vs:List V}(F:pz X.prog X.w X.K X.mg X.base k f sp)(hr:cC k X.A)(I:Inv X pins σ H s)(r:Vals vs us)(h:sp vs H Q E) :
  wpAny (model X.prog X.w) X.A (call (.ref f) us) (EP X pins σ Q) X.xe s:=by
 refine j3 (ko (F X.A X.stack s H us vs Q E hr I.Nh r h) λr s' hq=>?_)
 cases r with
 | error e=>exact False.elim hq
 | ok fl=>
  cases fl with
  | ret u=>exact I.after hq
  | next=>exact False.elim hq
  | brk=>exact False.elim hq
  | cont=>exact False.elim hq
def tQ(P:Program)(w:World)(K:PySem.W.Frag)(mg:Str->Option Value)(base:Heap)(k:Nat)(tv:TE)(t:TA):TE:=λσ H Q=>tv σ H λx H1=>∃f,x=.ref f/\FnO H1 f/\t σ H1 λvs H2=>FnO H2 f/\∃sp,pz P w K mg base k f sp/\sp vs H2 Q E0
theorem Ql{tv:TE}(hr:cC k X.A)(hv:PE X (.Name x p) tv)(ha:PA X (e::es) t)(he:starEach (e::es) X.env=(false,eval e X.env)::starEach es X.env:=by rfl)(kJ:(backTo pos (starEach es X.env)).any (·.1)=false:=by rfl) :
  PE X (.Call (.Name x p) (e::es) [] pos) (tQ X.prog X.w X.K X.mg X.base k tv t):=by
 intro pins s σ H Q I h
 refine uL (cU (hv pins s σ H _ I h) λu s1 ⟨v,H1,I1,r1,f,ev,hf,h1⟩=>?_)
 subst ev
 cases r1
 refine callWith_F (hf.at I1.bE) (cU (ha pos pins s1 σ H1 _ I1 h1) λus s2 ⟨vs,H2,I2,r2,hf2,sp,F,q⟩=>⟨hf2.at I2.bE,?_⟩) he kJ
 exact JM F hr I2 r2 q
theorem yO{tv:TE}(hr:cC k X.A)(hv:ZE X (.Name x p) tv)(ha:ZA X (e::es) t)(he:starEach (e::es) X.env=(false,eval e X.env)::starEach es X.env:=by rfl)(kJ:(backTo pos (starEach es X.env)).any (·.1)=false:=by rfl) :
  ZE X (.Call (.Name x p) (e::es) [] pos) (tQ X.prog X.w X.K X.mg X.base k tv t):=⟨Ql hr hv.to ha.to he kJ⟩
end
def BMain(mg:Str->Option Value)(base:Heap):Prop:=∃bm o,mg "__builtins__" = some (.ref bm)/\bm≠builtinsNs/\bm≠mainGlobals/\base.get? bm=some o/\o.cls=.type "module"/\o.dict=some builtinsNs/\o.data=.plain
section
variable {X:Cx}{pins:List (Addr×Obj)}{σ:St}{H:Hp}{s:Shared}{h':Heap}{P c':Addr}{ps more:Array Value}{fo oc:Obj}
def made(H:Hp)(P:Addr)(ps:Array Value)(c':Addr)(oc:Obj)(f:Addr)(fo:Obj):Hp:=upd (upd (upd H P (.qM ps)) c' (dy oc)) f (dy fo)
theorem Inv.WK{t':Nat}(I:Inv X pins σ H s)(hP:H P=some (.qM ps))(hx:Heap.ExtBut P s.heap h')(uW:s.heap.objs.size<=c')(jj:c'<h'.objs.size)(sV:h'.get? c'=some oc)(ht:h'.get? P=some (tabObj (ps++more)))(Cq:fo.isFreed=false) :
  Inv X pins σ (L2.made H P (ps++more) c' oc h'.objs.size fo) { s with heap:=h'.push fo,toks:=t' }:=by
 have aBv:=I.bE.lt hP
 have ncP:c'≠P:=jA (cT aBv uW)
 have nfP:h'.objs.size≠P:=jA (Nat.lt_trans (cT aBv uW) jj)
 have ncf:c'≠h'.objs.size:=bH jj
 have at_:∀{b:Addr},b<s.heap.objs.size->b≠P->L2.made H P (ps++more) c' oc h'.objs.size fo b=H b:=λ{b} hb nb=>by
  unfold L2.made
  rw[av (bH (Nat.lt_trans (cT hb uW) jj)),av (bH (cT hb uW)),av nb]
 have keep:∀b o,b≠P->s.heap.get? b=some o->(h'.push fo).get? b=some o:=λb o nb e=>bZ _ (hx b o nb e)
 have aAn:(h'.push fo).get? P=some (tabObj (ps++more)):=bZ _ ht
 have atP:L2.made H P (ps++more) c' oc h'.objs.size fo P=some (.qM (ps++more)):=by
  unfold L2.made
  rw[av nfP.symm,av ncP.symm,ah]
 refine I.un ⟨λb o e n _ _=>keep b o (λz=>by rw[z,hP]at n;cases n) e,λb o e n _ _=>⟨o.slots,keep b o (λz=>by rw[z,hP]at n;cases n) e⟩,λb o e n _=>?_,λb o e _=>?_,λb xs e=>?_,λb o v e=>?_,λb qs e=>?_⟩ λb u e=>?_
 ·rw[at_ (aU e) (λz=>by rw[z,hP]at n;cases n)];exact n
 ·by_cases nb:b=P
  ·exact⟨_,by rw[nb];exact aAn⟩
  ·exact⟨o,keep b o nb e⟩
 ·rw[at_ (I.bE.lt e) (λz=>by rw[z,hP]at e;cases e)];exact e
 ·rw[at_ (I.bE.lt e) (λz=>by rw[z,hP]at e;cases e)];exact e
 ·by_cases nb:b=P
  ·subst nb
   rw[hP]at e;cases e
   exact⟨more,atP⟩
  ·exact⟨#[],by rw[at_ (I.bE.lt e) nb,e];simp⟩
 ·by_cases h1:b=h'.objs.size
  ·subst h1
   have e':some (dy fo)=some u:=by rw[<-e];unfold L2.made;exact ah.symm
   cases e'
   exact⟨cI _ Cq,fo,cI _ Cq⟩
  ·by_cases h2:b=c'
   ·subst h2
    have e':some (dy oc)=some u:=by rw[<-e];unfold L2.made;rw[av ncf];exact ah.symm
    cases e'
    have:(h'.push fo).get? b=some oc:=bZ _ sV
    exact⟨this,oc,this⟩
   ·by_cases h3:b=P
    ·subst h3
     rw[atP]at e;cases e
     exact aAn
    ·have e0:H b=some u:=by rw[<-e];unfold L2.made;rw[av h1,av h2,av h3]
     have np:∀c,(c=b\/H c=some (.own b))->c≠P:=λc hc z=>by
      rcases hc with hc | hc
      ·exact h3 (hc ▸ z)
      ·rw[z,hP]at hc;cases hc
     refine(I.bE b u e0).stay (λc v hc q=>keep c v (np c hc) q) (λc q=>?_) λc xs q=>?_
     ·rw[at_ (I.bE.lt q) (λz=>by rw[z,hP]at q;cases q)];exact q
     ·rw[at_ (I.bE.lt q) (λz=>by rw[z,hP]at q;cases q)];exact q
end
section
variable {X:Cx}{c P:Addr}{name qual:Str}{params:Arguments}{body:List Stmt}{scope:Scope}{cl:List (Str×Addr)}{pos:Pos}{i:Nat}
def aCh(P:Addr)(mg:Str->Option Value)(name qual:Str)(params:Arguments)(body:List Stmt)(scope:Scope)(cl:List (Str×Addr))(pos:Pos)(i:Nat):TS:=λD σ H=>∃ps,H P=some (.qM ps)/\TriplesOk ps.toList/\codeAmong pos ps.toList=none/\
 ∀f c' oc vs t ctv doc,H f=none->H c'=none->f≠c'->oc.data=.fields vs->vs[1]?=some (.str qual t)->
  D.nx (σ.set i (some (.ref f))) (made H P (ps ++ #[rawInt pos.line,rawInt pos.col,.ref c']) c' oc f (fnMade name qual params body scope cl doc ((mg "__name__").getD .none) c' ctv))
theorem Ym(jP:X.env.code=.ref c)(hC:CodeHd X.base c P)(hB:BMain X.mg X.base)(hN:X.N.Nodup)(hi:X.N[i]?=some name)(hx:Loc X.env.scope name)(hq:qualnameIn X.env name name=qual)(yz:closureFor scope X.env=pure cl)
  (Ki:params.defaults=[]) (hk0:params.kw_defaults=[]) (ha:annTrees params none X.env=[]) (hf:X.fn name=true\/X.env.scope.names.lookup name=some .local) :
  PS X (.FunctionDef name params body [] none [] scope none name pos) (aCh P X.mg name qual params body scope cl pos i):=by
 intro pins s σ H D I h
 obtain⟨ps,hP,ht,hnf,q⟩:=h
 refine nestDef_K Ki hk0 ha ?_
 rw[hq]
 have hg:=I.mod.glob.keeps I.bk
 have hP':s.heap.get? P=some (tabObj ps):=I.bE _ _ hP
 obtain⟨bm,ob,b1,b2,b3,b4,b5,b6,b7⟩:=hB
 have none_:∀{b:Addr} {o:Obj},X.base.get? b=some o->b≠P:=λ{b o} e z=>by have:=(I.bs _ _ e).2;rw[z,hP]at this;cases this
 have hgP:mainGlobals≠P:=by
  obtain⟨o,_,_,e,_⟩:=I.mod.glob
  exact none_ e
 refine makeFunction_K (mg:=X.mg) yz I.ok.glob hg jP (hC.keeps I.bk) hP' ht hnf hgP ⟨bm,ob,b1,b2,b3,none_ b4,I.bk _ _ b4,b5,b6,b7⟩ λc' ctv doc h' tk vB uW jj Zg htb=>?_
 obtain⟨c2,oc,vs,t,e2,sV,hd,hv⟩:=Zg
 cases e2
 have I2:=I.WK (fo:=fnMade name qual params body scope cl doc ((X.mg "__name__").getD .none) c' ctv) (t':=tk) hP vB uW jj sV htb rfl
 have fr1:H h'.objs.size=none:=I.bE.fresh (iZ (qT uW jj))
 have fr2:H c'=none:=I.bE.fresh uW
 exact rn (v:=.ref h'.objs.size) I2 hN hi hx rfl (λs' I3=>⟨_,_,I3,q h'.objs.size c' oc vs t ctv doc fr1 fr2 (jA jj) hd hv⟩) hf
end
def CellsAre(cells:List (Str×Addr))(σ:St)(xs:List (Nat×Str))(C:List (Addr×Obj)):Prop:=∀q∈xs,∃c o u v,cells.lookup q.2=some c/\C.lookup c=some o/\o.data=.cell (some u)/\σ[q.1]?=some (some v)/\RelV v u
section
variable {X:Cx}{pins:List (Addr×Obj)}{σ:St}{H:Hp}{s:Shared}
theorem zX(I:Inv X pins σ H s):∀xs:List (Nat×Str),(∀q∈xs,X.N[q.1]?=some q.2/\X.env.scope.names.lookup q.2=some .cell/\∃v,σ[q.1]?=some (some v))->
  ∃C,(∀b o,C.lookup b=some o->s.heap.get? b=some o/\∃x,X.env.cells.lookup x=some b)/\CellsAre X.env.cells σ xs C
 | [],_=>⟨[],λ_ _ h=>(by cases h),λ_ h=>(nomatch h)⟩
 | q::xs,h=>by
  obtain⟨C,h1,h2⟩:=zX I xs λr hr=>h r (dN _ hr)
  obtain⟨hN,hk,v,hv⟩:=h q du
  obtain⟨m,hn,hl⟩:=I.loc
  obtain⟨u,rv,l⟩:=hl q.1 q.2 v hN hv (.inr (.inl hk))
  have Zv:X.env.kindOf q.2=some .cell:=hk
  obtain⟨c,hc,o,ho,hd⟩:∃c,X.env.cells.lookup q.2=some c/\∃o,s.heap.get? c=some o/\o.data=.cell (some u):=by
   rcases l with ⟨z,_⟩ | ⟨_,c,hc,o,ho,hd⟩
   ·rw[Zv]at z;cases z
   ·exact⟨c,hc,o,ho,hd⟩
  refine⟨(c,o)::C,λb o' e=>?_,λr hr=>?_⟩
  ·rw[ie]at e
   by_cases hb:b=c
   ·subst hb
    rw[iI]at e
    cases e
    exact⟨ho,q.2,hc⟩
   ·rw[vU hb]at e
    exact h1 b o' e
  ·rcases bT.mp hr with rfl | hr
   ·exact⟨c,o,u,v,hc,by rw[ie,iI],hd,hv,rv⟩
   ·obtain⟨c2,o2,u2,v2,e1,e2,e3,e4,e5⟩:=h2 r hr
    by_cases hb:c2=c
    ·subst hb
     have:=(h1 c2 o2 e2).1
     rw[ho]at this
     cases this
     exact⟨c2,o,u2,v2,e1,by rw[ie,iI],e3,e4,e5⟩
    ·exact⟨c2,o2,u2,v2,e1,by rw[ie,vU hb];exact e2,e3,e4,e5⟩
variable {C:List (Addr×Obj)}
theorem Inv.JW(I:Inv X pins σ H s)(h:∀b o,C.lookup b=some o->s.heap.get? b=some o/\∃x,X.env.cells.lookup x=some b):cQ C H:=λb o e=>let ⟨x,hx⟩:=(h b o e).2;I.kL x b hx
theorem Inv.aBG(I:Inv X pins σ H s)(Ra:∀x,X.fn x=true)(h:∀b o,C.lookup b=some o->s.heap.get? b=some o/\∃x,X.env.cells.lookup x=some b):qK X.prog X.w X.K X.mg X.base X.A X.stack s (eD C H):=by
 have e:=I.Nh
 have big:∀b o,C.lookup b=some o->X.s₀.heap.objs.size<=b:=λb o q=>let ⟨x,hx⟩:=(h b o q).2;I.ok.cab x b (Ra x) hx
 refine⟨e.frames,e.mod,λb o q=>⟨(e.bs b o q).1,?_⟩,e.Nt,e.oK,λb hb=>?_,I.bE.eD (I.JW h) λb o q=>(h b o q).1,e.bare⟩
 ·cases z:C.lookup b with
  | none=>rw[bO z];exact(e.bs b o q).2
  | some o'=>exact absurd (cT (aU q) (e8 I.ok.Nt (big b o' z))) (jC _)
 ·cases z:C.lookup b with
  | none=>rw[bO z];exact e.N3 b hb
  | some o'=>
   obtain⟨x,hx⟩:=(h b o' z).2
   rcases bT.mp (I.tU b hb) with y | y
   ·exact absurd y (I.Xo x b hx)
   ·obtain⟨_,ob,ho,_⟩:=I.ok.oK.mem y
    exact absurd (cT (aU ho) (big b o' z)) (jC _)
end
section
variable {X:Cx}{k:Nat}{f:Addr}{fd:FuncData}{ps:List Str}{sp:Sp}{EH:St->XK}{x:Str}{p pos:Pos}{e:Expr}{es:List Expr}{t:TA}
def tR(cells:List (Str×Addr))(xs:List (Nat×Str))(sp:Sp)(EH:St->XK)(t:TA):TE:=λσ H Q=>t σ H λvs H1=>(∀q∈xs,∃v,σ[q.1]?=some (some v))/\
 ∀C,CellsAre cells σ xs C->cQ C H1->sp vs (eD C H1) (λv H'=>Q v (aP C H')) (λc dx H'=>EH σ c dx (aP C H'))
theorem TV{xs:List (Nat×Str)}{pins:List (Addr×Obj)}{σ:St}{H:Hp}{s:Shared}{Q:VK}{us:List Value}{vs:List V}(F:bS X.prog X.w X.K X.mg X.base (Jx X.prog X.w) k f fd ps sp)(hr:cC k X.A)(hb:Binds X.K fd ps [])(hx:pj X EH)(Ra:∀x,X.fn x=true)
  (hxs:∀q∈xs,X.N[q.1]?=some q.2/\X.env.scope.names.lookup q.2=some .cell)
  (I:Inv X pins σ H s) (r:Vals vs us) (hv:∀q∈xs,∃v,σ[q.1]?=some (some v)) (h:∀C,CellsAre X.env.cells σ xs C->cQ C H->sp vs (eD C H) (λv H'=>Q v (aP C H')) (λc dx H'=>EH σ c dx (aP C H'))) :
  wpAny (model X.prog X.w) X.A (call (.ref f) us) (EP X pins σ Q) X.xe s:=by
 obtain⟨C,h1,h2⟩:=zX I xs λq hq=>⟨(hxs q hq).1,(hxs q hq).2,hv q hq⟩
 have po:=I.JW h1
 have at_:∀b o,C.lookup b=some o->s.heap.get? b=some o:=λb o q=>(h1 b o q).1
 have h:=h C h2 po
 have hl:us.length=ps.length:=by rw[<-r.length];exact F.len _ _ _ _ h
 have b:=hb s us I.mL (by rw[fZ];exact hl)
 rw[fZ]at b
 refine j3 (ko (F.run X.A X.stack s (eD C H) ⟨us,[]⟩ us vs _ _ hr (I.aBG Ra h1) b r h) λr s' hq=>?_)
 cases r with
 | error e=>
  obtain⟨e,c,dx,H',rfl,os,bare,un,bE,xa,q⟩:=hq
  have Mi:dD C H':=λb o q=>un.frzs b o _ (jU q)
  refine hx.pass I ⟨e,c,dx,aP C H',rfl,os,bare,un.Kr bE po at_,bE.aP Mi,xa.mono λb hb=>⟨hb.1,?_⟩,q⟩
  rw[aT (Mi.Ml hb.2)];exact hb.2
 | ok fl=>
  cases fl with
  | ret u=>
   obtain⟨v,H',os,bare,un,bE,r',q⟩:=hq
   have Mi:dD C H':=λb o q=>un.frzs b o _ (jU q)
   exact I.after ⟨v,aP C H',os,bare,un.Kr bE po at_,bE.aP Mi,r',q⟩
  | _=>exact False.elim hq
theorem Qm{xs:List (Nat×Str)}{cells:List (Str×Addr)}(yz:X.env.cells=cells)(F:bS X.prog X.w X.K X.mg X.base (Jx X.prog X.w) k f fd ps sp)(hr:cC k X.A)(hg:Gl X x)(hm:X.mg x=some (.ref f))(hk:PySem.W.keepIn X.K (.ref f)=true)(hb:Binds X.K fd ps [])(hx:pj X EH)(Ra:∀x,X.fn x=true)
  (hxs:∀q∈xs,X.N[q.1]?=some q.2/\X.env.scope.names.lookup q.2=some .cell)
  (ha:PA X (e::es) t) (uc:(x==("__debug__" : Str))=false:=by decide) (he:starEach (e::es) X.env=(false,eval e X.env)::starEach es X.env:=by rfl) (kJ:(backTo pos (starEach es X.env)).any (·.1)=false:=by rfl) :
  PE X (.Call (.Name x p) (e::es) [] pos) (tR cells xs sp EH t):=by
 subst yz
 intro pins s σ H Q I h
 refine uL (oz I hg hm ?_ uc)
 exact v5 (h₀:=X.base) I.ok.mod.Y2 hk (cU (ha pos pins s σ H _ I h) λus s1 ⟨vs,H1,I1,r,hv,q⟩=>⟨I1.mL,TV F hr hb hx Ra hxs I1 r hv q⟩) he kJ
theorem tM{xs:List (Nat×Str)}{cells:List (Str×Addr)}(yz:X.env.cells=cells)(F:bS X.prog X.w X.K X.mg X.base (Jx X.prog X.w) k f fd ps sp)(hr:cC k X.A)(hg:Gl X x)(hm:X.mg x=some (.ref f))(hk:PySem.W.keepIn X.K (.ref f)=true)(hb:Binds X.K fd ps [])(hx:pj X EH)(Ra:∀x,X.fn x=true)
  (hxs:∀q∈xs,X.N[q.1]?=some q.2/\X.env.scope.names.lookup q.2=some .cell)
  (ha:ZA X (e::es) t) (uc:(x==("__debug__" : Str))=false:=by decide) (he:starEach (e::es) X.env=(false,eval e X.env)::starEach es X.env:=by rfl) (kJ:(backTo pos (starEach es X.env)).any (·.1)=false:=by rfl) :
  ZE X (.Call (.Name x p) (e::es) [] pos) (tR cells xs sp EH t):=⟨Qm yz F hr hg hm hk hb hx Ra hxs ha.to uc he kJ⟩
end
theorem uz{C:List (Addr×Obj)}{H:Hp}(p:cQ C H):bN H (eD C H):=λb o e=>by rw[bO (p.out e)];exact e
def KZ(ts:List (Addr×Addr))(H:Hp):Prop:=∀q∈ts,H q.2=some (.qM #[])
theorem MJ{P:Program}{w:World}{K:PySem.W.Frag}{mg mb:Str->Option Value}{CX:K7}{k:Nat}{fa a:Addr}{fd:FuncData}{x:Str}{sp:Sp}{s₁:Shared}{vs:List Value}{ns:List Int}{ts:List (Addr×Addr)}
  (hT:TabsAt ts s₁.heap) (hKt:∀q∈ts,K.lookup q.2=none) (hB:BMain mg s₁.heap)
  (KX:K.In s₁.heap) (Sv:s₁.heap.Ns mainGlobals mg) (hb:s₁.heap.Ns builtinsNs mb) (hbb:∀x:Str,x≠"__name__"->mb x=bootBuiltins x) (Fj:s₁.heap.NoLimit) (hg:s₁.gens = #[])
  (ha:s₁.heap.get? a=some { cls:=.type "list",data:=.seq vs.toArray }) (hi:IntsAre vs ns) (hl:ns.length<=sizeLine) (hr:cC k callerA)
  (F:∀base:Heap,K.In base->base.Ns mainGlobals mg->BMain mg base->bS P w K mg base CX k fa fd [x] sp) (Fm:∀(s:Shared) (u:Value),BindsTo s fd ⟨[u],[]⟩ [(x,u)])
  (Gb:∀H:Hp,KZ ts H->qP K H a (ns.map V.int)->sp [.ref a] H (λv _=>v=.bl true) λ_ _ _=>False)
  (hCX:∀H e s',CX [] H s₁ (λ_ _ _=>False) e s'->False) :
  codeAny (model P w) callerA (.call (.ref fa) ⟨[.ref a],[]⟩) (λr s'=>r=.ok (.ret (.bool true))/\OldK s₁.heap s'.heap/\s'.os=s₁.os/\AllBare s'.gens) s₁:=by
 have rv:=tP hi
 have aDQ:=hi.length
 have core:∀H:Hp,KZ ts H->qP K H a (ns.map V.int)->hX P w H s₁.heap->(∀b,H b≠none->b=a\/b∈ts.map (·.2))->(∀b u,H b=some u->(∃o xs,u=.zS o (.lst xs))\/(b∈ts.map (·.2)/\u=.qM #[]))->(H a≠none->K.lookup a=none)->
   codeAny (model P w) callerA (.call (.ref fa) ⟨[.ref a],[]⟩) (λr s'=>r=.ok (.ret (.bool true))/\OldK s₁.heap s'.heap/\s'.os=s₁.os/\AllBare s'.gens) s₁:=by
  intro H hO hS bE hA hU hK
  have CN:∀{b:Addr} {o:Obj},s₁.heap.get? b=some o->H b=none->(yx s₁.heap H).get? b=some o:=λe n=>Q9 e n
  have aBe:∀{b:Addr},b∈ts.map (·.2)->s₁.heap.get? b=some (tabObj #[]):=λ{b} h=>by
   obtain⟨q,hq,rfl⟩:=fY.mp h
   exact(hT q hq).2
  have Sj:∀{b:Addr} {o:Obj},s₁.heap.get? b=some o->(o.cls≠.none\/∃es ep,o.data=.dict es ep)->b≠a->H b=none:=λ{b o} e d nb=>by
   cases q:H b with
   | none=>rfl
   | some u=>
    rcases hA b (by rw[q];simp) with z | z
    ·exact absurd z nb
    ·rw[aBe z]at e;cases e
     rcases d with d | ⟨es,ep,d⟩
     ·exact absurd rfl d
     ·cases d
  have neA:∀{b:Addr} {o:Obj} {es:Array DictEntry} {ep:Nat},s₁.heap.get? b=some o->o.data=.dict es ep->b≠a:=λ{b o es ep} e d z=>by
   subst z
   rw[ha]at e;cases e
   have d':Data.seq vs.toArray _=Data.dict es ep:=d
   cases d'
  have nsK:∀{b:Addr} {m:Str->Option Value},s₁.heap.Ns b m->(yx s₁.heap H).Ns b m:=λ{b m} ⟨o,es,ep,e,d,r⟩=>⟨o,es,ep,CN e (Sj e (.inr ⟨es,ep,d⟩) (neA e d)),d,r⟩
  have hKb:K.In (yx s₁.heap H):=λb o e=>CN (KX b o e) (by
   cases q:H b with
   | none=>rfl
   | some u=>
    rcases hA b (by rw[q];simp) with z | z
    ·subst z
     rw[hK (by rw[q];simp)]at e;cases e
    ·obtain⟨r,hr',rfl⟩:=fY.mp z
     rw[hKt r hr']at e;cases e)
  have hM:Mod K mg (yx s₁.heap H):=⟨hKb,nsK Sv,⟨mb,nsK hb,hbb⟩,let ⟨mc,h1,h2⟩:=Fj;⟨mc,nsK h1,h2⟩⟩
  have hBb:BMain mg (yx s₁.heap H):=by
   obtain⟨bm,o,b1,b2,b3,b4,b5,b6,b7⟩:=hB
   have nb:bm≠a:=λz=>by
    rw[z,ha]at b4;cases b4
    have b7':Data.seq vs.toArray _=Data.plain:=b7
    cases b7'
   exact⟨bm,o,b1,b2,b3,CN b4 (Sj b4 (.inl (by rw[b5];intro z;cases z)) nb),b5,b6,b7⟩
  have e0:qK P w K mg (yx s₁.heap H) callerA [] s₁ H:=⟨rfl,hM,λb o e=>UW e,Nat.le_of_eq (M8 _ _),trivial,λb hb=>absurd (show b∈([]:List Addr) from hb) (by simp),bE,.of_eq hg⟩
  refine ko ((F _ hKb (nsK Sv) hBb).run callerA [] s₁ H ⟨[.ref a],[]⟩ [.ref a] [.ref a] _ _ hr e0 (Fm s₁ (.ref a)) (.cons rfl .nil) (Gb H hO hS)) λr s' h=>?_
  cases r with
  | error e=>exact(hCX H e s' h).elim
  | ok fl=>
   cases fl with
   | next=>exact False.elim h
   | brk=>exact False.elim h
   | cont=>exact False.elim h
   | ret u=>
    obtain⟨v,H',os,bare,un,aBl,r',q⟩:=h
    have q':v=.bl true:=q
    subst q'
    obtain rfl:u=Value.bool true:=r'
    have each:∀b o,s₁.heap.get? b=some o->asItWas s₁.heap s'.heap b o/\∃o',s'.heap.get? b=some o':=λb o e=>by
     cases q:H b with
     | none=>
      have:=un.keep b o e q (by intro z;exact absurd (show b∈([]:List Addr) from z) (by simp)) (by simp)
      exact⟨.inl this,o,this⟩
     | some u=>
      rcases hU b u q with ⟨ob,xs,rfl⟩ | ⟨hm,rfl⟩
      ·have z2:=un.frzs b ob _ q
       obtain⟨e1,_⟩:=bE b _ q
       obtain⟨e2,_⟩:=aBl b _ z2
       rw[e]at e1;cases e1
       exact⟨.inl e2,_,e2⟩
      ·obtain⟨r,hr',rfl⟩:=fY.mp hm
       obtain⟨more,z2⟩:=un.tbls _ _ q
       have e2:s'.heap.get? r.2=some (tabObj (#[]++more)):=aBl _ _ z2
       have e3:=(hT r hr').2
       rw[e]at e3;cases e3
       exact⟨.inr (.inl ⟨((hT r hr').1.tab (hT r hr').2).isCodeTable,rfl,#[],more,rfl,e2⟩),_,e2⟩
    exact⟨rfl,⟨λb o e=>(each b o e).1,λb o e=>(each b o e).2⟩,os,bare⟩
 have naT:a∉ts.map (·.2):=λz=>by
  obtain⟨q,hq,e⟩:=fY.mp z
  have:=(hT q hq).2
  rw[e,ha]at this;cases this
 have aAo:∀(H1:Hp),(∀b,b∈ts.map (·.2)->H1 b=some (.qM #[]))->KZ ts H1:=λH1 h q hq=>h _ (v7 hq)
 have Ws:∀b,b∈ts.map (·.2)->s₁.heap.get? b=some (tabObj #[]):=λb h=>by
  obtain⟨q,hq,rfl⟩:=fY.mp h
  exact(hT q hq).2
 cases hk:K.lookup a with
 | some o=>
  have e:=KX a o hk
  rw[ha]at e
  cases e
  refine core (λb=>if b∈ts.map (·.2) then some (.qM #[]) else none) (aAo _ λb hb=>aB hb) (.inr ⟨_,vs.toArray,_,hk,rfl,rfl,rfl,by rw[cD,aDQ];exact hl,by simpa using rv⟩) (λb u z=>?_) (λb z=>?_) (λb u z=>?_) λz=>absurd (aC naT) z
  ·by_cases hb:b∈ts.map (·.2)
   ·have z':=(aB hb).symm.trans z
    cases z';exact Ws b hb
   ·have z':=(aC hb).symm.trans z
    cases z'
  ·by_cases hb:b∈ts.map (·.2)
   ·exact .inr hb
   ·exact absurd (aC hb) z
  ·by_cases hb:b∈ts.map (·.2)
   ·have z':=(aB hb).symm.trans z
    cases z';exact .inr ⟨hb,rfl⟩
   ·have z':=(aC hb).symm.trans z
    cases z'
 | none=>
  let H0:Hp:=λb=>if b=a then some (.zS { cls:=.type "list",data:=.seq vs.toArray } (.lst (ns.map V.int))) else if b∈ts.map (·.2) then some (.qM #[]) else none
  have Ab:H0 a=some (.zS { cls:=.type "list",data:=.seq vs.toArray } (.lst (ns.map V.int))):=aB rfl
  have atT:∀b,b∈ts.map (·.2)->H0 b=some (.qM #[]):=λb hb=>(aC (λz:b=a=>naT (by rw[<-z];exact hb))).trans (aB hb)
  have atN:∀b,b≠a->b∉ts.map (·.2)->H0 b=none:=λb h1 h2=>(aC h1).trans (aC h2)
  refine core H0 (aAo _ atT) (.inl (.inr ⟨{ cls:=.type "list",data:=.seq vs.toArray },Ab⟩)) (λb u z=>?_) (λb z=>?_) (λb u z=>?_) λ_=>hk
  ·by_cases hb:b=a
   ·subst hb
    rw[Ab]at z;cases z
    exact⟨ha,by rw[aY];exact hl,vs,_,rv,ha⟩
   ·by_cases hm:b∈ts.map (·.2)
    ·rw[atT b hm]at z;cases z;exact Ws b hm
    ·rw[atN b hb hm]at z;cases z
  ·by_cases hb:b=a
   ·exact .inl hb
   ·by_cases hm:b∈ts.map (·.2)
    ·exact .inr hm
    ·exact absurd (atN b hb hm) z
  ·by_cases hb:b=a
   ·subst hb
    rw[Ab]at z;cases z
    exact .inl ⟨_,_,rfl⟩
   ·by_cases hm:b∈ts.map (·.2)
    ·rw[atT b hm]at z;cases z;exact .inr ⟨hm,rfl⟩
    ·rw[atN b hb hm]at z;cases z
theorem Om{l:PySem.W.OpenLaw}{n k:Nat}{q:Program}{loose:List Str}{XP:(Str->Option Value)->Heap->Prop}{YP:World->Heap->Prop}{d:DefRec}{K:Params->PySem.W.Frag}{CX:World->K7}{sp:World->Sp}{x:Str}{ts:List (Addr×Addr)}
  (hn:l.most=some n) (N0:n<=sizeLine) (hdf:d.params.defaults=[]) (hr:cC k callerA)
  (hY:∀(w:World) (h:Heap),YP w h->(K w.params).In h/\∀q∈ts,h.get? q.2=some (tabObj #[]))
  (hCd:∀w:World,∀q∈ts,codeHdIn (K w.params) q.1 q.2=true/\(K w.params).lookup q.2=none)
  (F:∀(w:World) (mg:Str->Option Value) (fa:Addr) (h:Heap),(K w.params).In h->h.Ns mainGlobals mg->mg d.name=some (.ref fa)->
   ∃fd:FuncData,(∀(s:Shared) (u:Value),BindsTo s fd ⟨[u],[]⟩ [(x,u)])/\
    ∀base:Heap,(K w.params).In base->base.Ns mainGlobals mg->BMain mg base->bS l.prog w (K w.params) mg base (CX w) k fa fd [x] (sp w))
  (Gb:∀(w:World) (H:Hp) (a:Addr) (ns:List Int),ns.length<=n->KZ ts H->qP (K w.params) H a (ns.map V.int)->sp w [.ref a] H (λv _=>v=.bl true) λ_ _ _=>False)
  (hCX:∀(w:World) (H:Hp) (s:Shared) (e:Value) (s':Shared),CX w [] H s (λ_ _ _=>False) e s'->False) :
  PySem.W.WalkO q loose XP YP l.row.toRowW d [] (λf vs=>PySem.call f vs):=by
 refine Att.FT hn hdf λw s₀ s₁ mg mb fa o pm cd doc a vs ns G Y ho hd yA hmg Zr hints hlen hg=>?_
 obtain⟨KX,hP⟩:=hY w _ Y
 obtain⟨fd,hb,hF⟩:=F w mg fa _ KX G.T.g hmg
 have hB:BMain mg s₁.heap:=by
  obtain⟨bm,ob,b1,b2,b3,b4,b5,b6⟩:=G.T.bmain
  refine⟨bm,ob,b1,b2,λz=>?_,b3,b4,b5,b6⟩
  obtain⟨o,es,ep,e,dd,_⟩:=G.T.g
  rw[z,e]at b3;cases b3
  rw[dd]at b6;cases b6
 exact MJ (λq hq=>⟨codeHd_of_K KX (hCd w q hq).1,hP q hq⟩) (λq hq=>(hCd w q hq).2) hB KX G.T.g G.T.b G.T.builtins G.T.nolimit hg Zr hints (e8 hlen N0) hr hF hb (λH hO hS=>Gb w H a ns hlen hO hS) λH e s'=>hCX w H s₁ e s'
def DP:List V->Hp->VK->Prop:=λvs H Q=>∃a,vs=[.ref a]/\∃ns:List Int,H a=some (.lst (List.map V.int ns))/\Q (.int ns.sum) H
theorem Fb:∀{ns:List Int} {its:List Value},Vals (List.map V.int ns) its->IntsAre its ns
 | [],[],_=>.nil
 | n::ns,u::its,.cons r rs=>by
  obtain⟨t,rfl⟩:=(r:∃t,u=.int n t)
  exact .cons n t (Fb rs)
section
variable {X:Cx}
theorem Nr(hh:X.A.handled=none):fw X (.builtin "sum") DP:=by
 intro pins s σ H vs us Q I rv h
 obtain⟨a,rfl,ns,hq,q⟩:=h
 obtain⟨u,rfl,ru⟩:=vals1 rv
 cases ru
 obtain⟨its,r,pl,hz⟩:=I.list (bu hq)
 have hi:=Fb r
 obtain⟨xs,hx⟩:=hi.allInts.items
 have hl':s.heap.IsList a (intItems xs):=hx ▸ pl.isList
 refine sum_intListG hh hl' λh' tk t' hk=>?_
 have e1:ns=xs.toList.map (·.1):=by
  rw[<-nums_intItems,<-hx]
  exact(show numsOf its.toArray.toList=ns from hi.numsOf).symm
 have e2:preSum (numAt xs) xs.size=ns.sum:=by
  rw[preSum_eq,tK (by simp),e1]
 rw[e2]
 exact⟨.int ns.sum,H,I.kept hk,⟨_,rfl⟩,q⟩
end
theorem sD{env:Env}{ad:Str->Addr}:∀(ns:List (Str×NameKind)) (acc:List (Str×Addr)),(∀x,(x,NameKind.free)∈ns->env.cells.lookup x=some (ad x))->
  (forIn ns acc λq cs=>match q with | (name,kind)=>if (kind == .free)=true then do let c <-cellOf env name;pure PUnit.unit;pure (ForInStep.yield ((name,c)::cs)) else do pure PUnit.unit;pure (ForInStep.yield cs):Sem (List (Str×Addr))) =
   pure (((ns.filter λq=>q.2 == .free).map λq=>(q.1,ad q.1)).reverse++acc)
 | [],acc,_=>rfl
 | (x,k)::ns,acc,h=>by
  rw[List.forIn_cons]
  have ih:=sD (env:=env) (ad:=ad) ns
  by_cases e:k=.free
  ·subst e
   have hx:=h x du
   have hc:cellOf env x=pure (ad x):=by unfold cellOf;rw[hx]
   simp only[hc,pure_bind,iI,gu]
   rw[ih _ λy hy=>h y (dN _ hy)]
   simp
  ·have e':(k==NameKind.free)=false:=vU e
   simp only[e',iW,fF,pure_bind]
   rw[ih _ λy hy=>h y (dN _ hy)]
   simp[e]
theorem o8{scope:Scope}{env:Env}{ad:Str->Addr}(h:∀x,(x,NameKind.free)∈scope.names->env.cells.lookup x=some (ad x)):closureFor scope env=pure ((scope.names.filter λq=>q.2 == .free).map λq=>(q.1,ad q.1)).reverse:=by
 have:=sD (ad:=ad) scope.names [] h
 rw[fZ]at this
 unfold closureFor
 simp only[bind_pure]
 exact this
theorem qq{ad:Str->Addr}{x:Str}:∀(l:List Str),(l.map λx=>(x,ad x)).lookup x=if x∈l then some (ad x) else none
 | []=>rfl
 | y::l=>by
  rw[eF,ie]
  by_cases e:x=y
  ·subst e;rw[iI,aB du]
  ·rw[vU e,qq l]
   by_cases h:x∈l
   ·rw[aB h,aB (dN _ h)]
   ·rw[aC h,aC (λz=>(bT.mp z).elim e h)]
def freeOf(sc:Scope):List Str:=(sc.names.filter λq=>q.2 == .free).map (·.1)
section
variable {X:Cx}{N:List Str}{sc:Scope}{c P:Addr}{name qual:Str}{params:Arguments}{body:List Stmt}{scope:Scope}{pos:Pos}{fr:List Str}
def yX(P:Addr)(mg:Str->Option Value)(name qual:Str)(params:Arguments)(body:List Stmt)(scope:Scope)(pos:Pos)(i:Nat)(cells:List (Str×Addr))(fr:List Str):TS:=λD σ H=>∃ps,H P=some (.qM ps)/\TriplesOk ps.toList/\codeAmong pos ps.toList=none/\
 ∀cl f c' oc vs t ctv doc,(∀x∈fr,∃c,cells.lookup x=some c/\cl.lookup x=some c)->(∀x c,cl.lookup x=some c->x∈fr)->(∀x y c,cl.lookup x=some c->cl.lookup y=some c->x=y)->H f=none->H c'=none->f≠c'->oc.data=.fields vs->vs[1]?=some (.str qual t)->
  D.nx (σ.set i (some (.ref f))) (made H P (ps ++ #[rawInt pos.line,rawInt pos.col,.ref c']) c' oc f (fnMade name qual params body scope cl doc ((mg "__name__").getD .none) c' ctv))
theorem Ub(hc:HC X N sc)(nd:N.Nodup)(hf:∀x,X.fn x=true)(i:Nat)(h:Sh N sc i name=true)(jP:X.env.code=.ref c)(hC:CodeHd X.base c P)(hB:BMain X.mg X.base)(hq:qualnameIn X.env name name=qual)(Cq:freeOf scope=fr)(Zy:∀x∈fr,sc.names.lookup x=some .cell)
  (Ki:params.defaults=[]) (hk0:params.kw_defaults=[]) (ha:annTrees params none X.env=[]) :
  PS X (.FunctionDef name params body [] none [] scope none name pos) (yX P X.mg name qual params body scope pos i X.env.cells fr):=by
 intro pins s σ H D I hw
 obtain⟨hN,hx⟩:=lG hc h
 have has:∀x∈fr,∃c,X.env.cells.lookup x=some c:=λx hx=>I.ok.has x (.inl (show X.env.scope.names.lookup x=some .cell by rw[hc.s];exact Zy x hx))
 have had:∀x∈fr,X.env.cells.lookup x=some ((X.env.cells.lookup x).getD 0):=λx hx=>by
  obtain⟨c,e⟩:=has x hx
  rw[e];rfl
 have mem:∀x,(x,NameKind.free)∈scope.names->x∈fr:=λx hx=>by
  rw[<-Cq]
  exact fY.mpr ⟨(x,.free),gq.mpr ⟨hx,rfl⟩,rfl⟩
 have yz:=o8 (scope:=scope) (env:=X.env) (ad:=λx=>(X.env.cells.lookup x).getD 0) λx hx=>had x (mem x hx)
 have ecl:((scope.names.filter λq=>q.2 == .free).map λq=>(q.1,(X.env.cells.lookup q.1).getD 0)).reverse=(freeOf scope).reverse.map λx=>(x,(X.env.cells.lookup x).getD 0):=by
  unfold freeOf
  rw[<-vX,<-vX,gJ]
  rfl
 rw[ecl,Cq]at yz
 have lk:∀x,(fr.reverse.map λx=>(x,(X.env.cells.lookup x).getD 0)).lookup x=if x∈fr then some ((X.env.cells.lookup x).getD 0) else none:=λx=>by
  rw[qq];simp
 have inF:∀x c,(fr.reverse.map λx=>(x,(X.env.cells.lookup x).getD 0)).lookup x=some c->x∈fr:=λx c e=>by
  rw[lk]at e
  by_cases hx:x∈fr
  ·exact hx
  ·rw[aC hx]at e;cases e
 have eqF:∀x c,(fr.reverse.map λx=>(x,(X.env.cells.lookup x).getD 0)).lookup x=some c->X.env.cells.lookup x=some c:=λx c e=>by
  have hx:=inF x c e
  rw[lk,aB hx]at e
  rw[had x hx];exact e
 obtain⟨ps,hP,ht,hnf,q⟩:=hw
 exact Ym jP hC hB (by rw[hc.n];exact nd) hN hx hq yz Ki hk0 ha (.inl (hf name)) pins s σ H D I ⟨ps,hP,ht,hnf,λf c' oc vs t ctv doc=>q _ f c' oc vs t ctv doc
  (λx hx=>⟨_,had x hx,by rw[lk,aB hx]⟩) inF λx y c e1 e2=>I.ok.inj x y c (eqF x c e1) (eqF y c e2)⟩
theorem Oc(hc:HC X N sc)(nd:N.Nodup)(hf:∀x,X.fn x=true)(i:Nat)(h:Sh N sc i name=true)(jP:X.env.code=.ref c)(hC:CodeHd X.base c P)(hB:BMain X.mg X.base)(hq:qualnameIn X.env name name=qual)(Cq:freeOf scope=fr)(Zy:∀x∈fr,sc.names.lookup x=some .cell)
  (Ki:params.defaults=[]) (hk0:params.kw_defaults=[]) (ha:annTrees params none X.env=[]) :
  ZS X (.FunctionDef name params body [] none [] scope none name pos) (yX P X.mg name qual params body scope pos i X.env.cells fr):=⟨Ub hc nd hf i h jP hC hB hq Cq Zy Ki hk0 ha⟩
end
theorem jz.aA0{P:Program}{w:World}{K:PySem.W.Frag}{mg:Str->Option Value}{base:Heap}{x qual:Str}{st:Stmt}{f:Addr}{fd:FuncData}{N ps:List Str}{k:Nat}{sp:Sp}(F:jz K x qual st f fd)(S:aX N ps (ag st))(len:∀vs H Q E,sp vs H Q E->vs.length=ps.length)
  (fP:∀(cP:Value) (A:Around) (outer:List Env) (s:Shared) (H:Hp) (vs:List V) (Q:VK) (E:XK),fd.code=cP->cC k (A.deeper (envOfC qual (ag st) s.heap.objs.size f cP))->sp vs H Q E->
   HC (fQ fN P w K mg base N qual (ag st) f cP A outer s H E).yc N (ag st)->(∀x,(fQ fN P w K mg base N qual (ag st) f cP A outer s H E).yc.fn x=true)->
   ∃t,KS (fQ fN P w K mg base N qual (ag st) f cP A outer s H E).yc (aO st) t/\t { nx:=λ_ H'=>Q .non H',rt:=Q } (start N vs) H):bS P w K mg base fN (k+1) f fd ps sp:=by
 obtain⟨oc,od,kV,doc,pm,an,cP,ct,J0,rfl,lk,yA⟩:=F.ex
 refine RC lk yA S len λA outer s H vs Q E hr Gb=>?_
 obtain⟨t,h,q⟩:=fP cP A outer s H vs Q E rfl hr Gb ⟨rfl,rfl⟩ λ_=>rfl
 exact⟨t,h.to.yc,q⟩
theorem Ih{X:Cx}:pj X λ_=>E0:=λ_ _ _ _ _ _ _ _ _ h=>h.elim
theorem Ir{X:Cx}{N:List Str}{sc:Scope}{xs:List (Nat×Str)}(hc:HC X N sc)(h:(xs.all λq=>N[q.1]? == some q.2&&sc.names.lookup q.2==some .cell)=true):∀q∈xs,X.N[q.1]?=some q.2/\X.env.scope.names.lookup q.2=some .cell:=λq hq=>by
 have:=qQ.mp h q hq
 simp only[eI,beq_iff_eq]at this
 rw[hc.n,hc.s];exact this
theorem bS.toE{P:Program}{w:World}{K:PySem.W.Frag}{mg:Str->Option Value}{base:Heap}{k:Nat}{f:Addr}{fd:FuncData}{ps:List Str}{sp:Sp}(F:bS P w K mg base fN k f fd ps sp):bS P w K mg base (Jx P w) k f fd ps sp:=
 ⟨F.len,λA outer s H args us vs Q E hr he hb hv hs=>ko (F.run A outer s H args us vs Q E hr he hb hv hs) λr s' h=>by
  cases r with
  | error e=>exact False.elim h
  | ok fl=>cases fl <;> exact h⟩
section
variable {X:Cx}{pins:List (Addr×Obj)}{σ:St}{H:Hp}{s:Shared}{A:Around}{E:Value->Shared->Prop}{a C dx:Addr}{fs:List (Str×V)}{v:V}
theorem Rw{m:Str}{pl:Sem Bool}{Q:Value×List Value->Shared->Prop}(I:Inv X pins σ H s)(e:H a=some (.ins C dx fs))(c:Cls X.K C)(n:iG X.K C m)(l:fs.lookup m=some v)
  (h:∀u s',Inv X pins σ H s'->RelV v u->Q (u,[]) s'):wpAny (model X.prog X.w) A (getMethod (.ref a) m pl) Q E s:=by
 obtain⟨mA,O,r,_,_,_⟩:=sf I.bE e
 obtain⟨od,J,hl⟩:=O.look
 exact method_usual (r:=none) I.mL J (plainGet_of (c.get m)).1 (plainGet_of (c.get m)).2 n rfl (xF I e c n l λu s' I' ru=>h u s' I' ru)
variable {k:Nat}{m:Str}{p pos apos:Pos}{e o:Expr}{es:List Expr}{ta:TE}{t:TA}
def tS(K':PySem.W.Frag)(P:Program)(w:World)(K:PySem.W.Frag)(mg:Str->Option Value)(base:Heap)(k:Nat)(m:Str)(ta:TE)(t:TA):TE:=λσ H Q=>ta σ H λx H1=>∃a C dx fs f,x=.ref a/\H1 a=some (.ins C dx fs)/\Cls K' C/\iG K' C m/\fs.lookup m=some (.ref f)/\FnO H1 f/\
 t σ H1 λvs H2=>FnO H2 f/\∃sp,pz P w K mg base k f sp/\sp vs H2 Q E0
theorem Qn{pl:Sem Bool}(hr:cC k X.A)(he:PE X o ta)(ha:PA X (e::es) t)
  (Q5:starEach (e::es) X.env=(false,eval e X.env)::starEach es X.env:=by rfl) (kJ:(backTo pos (starEach es X.env)).any (·.1)=false:=by rfl)
  (ht:eval (.Call (.Attribute o m apos) (e::es) [] pos) X.env=(do
   let ov <-eval o X.env
   standAt apos.atName
   let (f,first) <-holding [ov] (getMethod ov m pl)
   callWith pos f first (backTo pos (starEach (e::es) X.env)) (backToKw pos (keywordEach [] X.env))):=by rfl) :
  PE X (.Call (.Attribute o m apos) (e::es) [] pos) (tS X.K X.prog X.w X.K X.mg X.base k m ta t):=by
 intro pins s σ H Q I h
 refine Bf (pl:=pl) (cU (he pins s σ H _ I h) λu s1 ⟨x,H1,I1,rx,a,C,dx,fs,f,ex,ea,c,n,l,hf,q⟩=>?_) ht
 subst ex
 obtain rfl:u=Value.ref a:=rx
 refine Rw I1 ea c n l λu s' I' ru=>?_
 obtain rfl:u=Value.ref f:=ru
 refine callWith_F (hf.at I'.bE) (cU (ha pos pins s' σ H1 _ I' q) λus s2 ⟨vs,H2,I2,r2,hf2,sp,F,q2⟩=>⟨hf2.at I2.bE,?_⟩) Q5 kJ
 exact JM F hr I2 r2 q2
theorem La{pl:Sem Bool}(hr:cC k X.A)(he:ZE X o ta)(ha:ZA X (e::es) t)
  (Q5:starEach (e::es) X.env=(false,eval e X.env)::starEach es X.env:=by rfl) (kJ:(backTo pos (starEach es X.env)).any (·.1)=false:=by rfl)
  (ht:eval (.Call (.Attribute o m apos) (e::es) [] pos) X.env=(do
   let ov <-eval o X.env
   standAt apos.atName
   let (f,first) <-holding [ov] (getMethod ov m pl)
   callWith pos f first (backTo pos (starEach (e::es) X.env)) (backToKw pos (keywordEach [] X.env))):=by rfl) :
  ZE X (.Call (.Attribute o m apos) (e::es) [] pos) (tS X.K X.prog X.w X.K X.mg X.base k m ta t):=⟨Qn hr he.to ha.to Q5 kJ ht⟩
end
section
variable {X:Cx}{N:List Str}{sc:Scope}{c P:Addr}{qual:Str}{params:Arguments}{body:Expr}{scope:Scope}{pos:Pos}{fr:List Str}
def K4(cells cl:List (Str×Addr))(fr:List Str):Prop:=(∀x∈fr,∃c,cells.lookup x=some c/\cl.lookup x=some c)/\(∀x c,cl.lookup x=some c->x∈fr)/\∀x y c,cl.lookup x=some c->cl.lookup y=some c->x=y
def Lk(P:Addr)(mg:Str->Option Value)(qual:Str)(params:Arguments)(body:Expr)(scope:Scope)(pos:Pos)(cells:List (Str×Addr))(fr:List Str):TE:=λ_ H Q=>∃ps,H P=some (.qM ps)/\TriplesOk ps.toList/\
 ((codeAmong pos ps.toList=none/\∀cl f c' oc vs t ctv,K4 cells cl fr->H f=none->H c'=none->f≠c'->oc.data=.fields vs->vs[1]?=some (.str qual t)->
  Q (.ref f) (made H P (ps ++ #[rawInt pos.line,rawInt pos.col,.ref c']) c' oc f (kla_obj "<lambda>" qual params body scope cl ((mg "__name__").getD .none) c' ctv)))\/
 ∃c',codeAmong pos ps.toList=some (.ref c')/\∀cl f ctv,K4 cells cl fr->H f=none->Q (.ref f) (upd H f (dy (kla_obj "<lambda>" qual params body scope cl ((mg "__name__").getD .none) c' ctv))))
theorem Um(hc:HC X N sc)(jP:X.env.code=.ref c)(hC:CodeHd X.base c P)(hB:BMain X.mg X.base)(hq:X.env.qual ++ "<lambda>" = qual)(Cq:freeOf scope=fr)(Zy:∀x∈fr,sc.names.lookup x=some .cell)(Ki:defaultsOf params X.env=([],[])) :
  PE X (.Lambda params body scope pos) (Lk P X.mg qual params body scope pos X.env.cells fr):=by
 intro pins s σ H Q I hw
 have has:∀x∈fr,∃c,X.env.cells.lookup x=some c:=λx hx=>I.ok.has x (.inl (show X.env.scope.names.lookup x=some .cell by rw[hc.s];exact Zy x hx))
 have had:∀x∈fr,X.env.cells.lookup x=some ((X.env.cells.lookup x).getD 0):=λx hx=>by
  obtain⟨c,e⟩:=has x hx
  rw[e];rfl
 have mem:∀x,(x,NameKind.free)∈scope.names->x∈fr:=λx hx=>by
  rw[<-Cq]
  exact fY.mpr ⟨(x,.free),gq.mpr ⟨hx,rfl⟩,rfl⟩
 have yz:=o8 (scope:=scope) (env:=X.env) (ad:=λx=>(X.env.cells.lookup x).getD 0) λx hx=>had x (mem x hx)
 have ecl:((scope.names.filter λq=>q.2 == .free).map λq=>(q.1,(X.env.cells.lookup q.1).getD 0)).reverse=(freeOf scope).reverse.map λx=>(x,(X.env.cells.lookup x).getD 0):=by
  unfold freeOf
  rw[<-vX,<-vX,gJ]
  rfl
 rw[ecl,Cq]at yz
 have lk:∀x,(fr.reverse.map λx=>(x,(X.env.cells.lookup x).getD 0)).lookup x=if x∈fr then some ((X.env.cells.lookup x).getD 0) else none:=λx=>by
  rw[qq];simp
 have inF:∀x c,(fr.reverse.map λx=>(x,(X.env.cells.lookup x).getD 0)).lookup x=some c->x∈fr:=λx c e=>by
  rw[lk]at e
  by_cases hx:x∈fr
  ·exact hx
  ·rw[aC hx]at e;cases e
 have eqF:∀x c,(fr.reverse.map λx=>(x,(X.env.cells.lookup x).getD 0)).lookup x=some c->X.env.cells.lookup x=some c:=λx c e=>by
  have hx:=inF x c e
  rw[lk,aB hx]at e
  rw[had x hx];exact e
 have la:K4 X.env.cells (fr.reverse.map λx=>(x,(X.env.cells.lookup x).getD 0)) fr:=⟨λx hx=>⟨_,had x hx,by rw[lk,aB hx]⟩,inF,λx y c e1 e2=>I.ok.inj x y c (eqF x c e1) (eqF y c e2)⟩
 obtain⟨ps,hP,ht,h⟩:=hw
 refine kla_eval Ki ?_
 rw[hq]
 have hg:=I.mod.glob.keeps I.bk
 have hP':s.heap.get? P=some (tabObj ps):=I.bE _ _ hP
 obtain⟨bm,ob,b1,b2,b3,b4,b5,b6,b7⟩:=hB
 have none_:∀{b:Addr} {o:Obj},X.base.get? b=some o->b≠P:=λ{b o} e z=>by have:=(I.bs _ _ e).2;rw[z,hP]at this;cases this
 have hgP:mainGlobals≠P:=by
  obtain⟨o,_,_,e,_⟩:=I.mod.glob
  exact none_ e
 rcases h with ⟨hnf,q⟩ | ⟨c',hf,q⟩
 ·refine kla_makeFunction (mg:=X.mg) yz I.ok.glob hg jP (hC.keeps I.bk) hP' ht hnf hgP ⟨bm,ob,b1,b2,b3,none_ b4,I.bk _ _ b4,b5,b6,b7⟩ λc' ctv h' tk vB uW jj Zg htb=>?_
  obtain⟨c2,oc,vs,t,e2,sV,hd,hv⟩:=Zg
  cases e2
  have I2:=I.WK (fo:=kla_obj "<lambda>" qual params body scope (fr.reverse.map λx=>(x,(X.env.cells.lookup x).getD 0)) ((X.mg "__name__").getD .none) c' ctv) (t':=tk) hP vB uW jj sV htb rfl
  exact⟨.ref h'.objs.size,_,I2,rfl,q _ h'.objs.size c' oc vs t ctv la (I.bE.fresh (iZ (qT uW jj))) (I.bE.fresh uW) (jA jj) hd hv⟩
 ·refine kla_makeFunctionHit (mg:=X.mg) yz I.ok.glob hg jP (hC.keeps I.bk) hP' ht hf ⟨bm,ob,b1,b2,b3,none_ b4,I.bk _ _ b4,b5,b6,b7⟩ λctv h' tk hk hsz=>?_
  have at_:(h'.push (kla_obj "<lambda>" qual params body scope (fr.reverse.map λx=>(x,(X.env.cells.lookup x).getD 0)) ((X.mg "__name__").getD .none) c' ctv)).get? h'.objs.size=some (kla_obj "<lambda>" qual params body scope (fr.reverse.map λx=>(x,(X.env.cells.lookup x).getD 0)) ((X.mg "__name__").getD .none) c' ctv):=cI _ rfl
  have I2:=I.laid (a:=h'.objs.size) (o:=dy (kla_obj "<lambda>" qual params body scope (fr.reverse.map λx=>(x,(X.env.cells.lookup x).getD 0)) ((X.mg "__name__").getD .none) c' ctv)) (t':=tk) (h':=h'.push (kla_obj "<lambda>" qual params body scope (fr.reverse.map λx=>(x,(X.env.cells.lookup x).getD 0)) ((X.mg "__name__").getD .none) c' ctv)) (λb u e=>bZ _ (hk b u e)) hsz ⟨at_,_,at_⟩
  exact⟨.ref h'.objs.size,_,I2,rfl,q _ h'.objs.size ctv la (I.bE.fresh hsz)⟩
theorem Og(hc:HC X N sc)(jP:X.env.code=.ref c)(hC:CodeHd X.base c P)(hB:BMain X.mg X.base)(hq:X.env.qual ++ "<lambda>" = qual)(Cq:freeOf scope=fr)(Zy:∀x∈fr,sc.names.lookup x=some .cell)(Ki:defaultsOf params X.env=([],[])) :
  ZE X (.Lambda params body scope pos) (Lk P X.mg qual params body scope pos X.env.cells fr):=⟨Um hc jP hC hB hq Cq Zy Ki⟩
end
theorem RW{P:Program}{w:World}{K:PySem.W.Frag}{mg:Str->Option Value}{base:Heap}{N:List Str}{f:Addr}{qual:Str}{scope:Scope}{cl:List (Str×Addr)}{cd:Value}{C:List (Addr×Obj)}{A:Around}{outer:List Env}{s s':Shared}{H H':Hp}{σ':St}{Q:VK}{v:V}{u:Value}
  (e0:qK P w K mg base A outer s H) (hC:dD C H) (J:Inv (Xn P w K mg base N qual scope f cd cl A outer s (aP C H)) [] σ' H' s') (rv:RelV v u) (q:cQ C H'->Q v (eD C H')):CE outer P w H s Q u s':=by
 have nf:∀b o,C.lookup b=some o->b∉o7 outer:=λb o q z=>by have:=e0.N3 b z;rw[hC b o q]at this;cases this
 obtain⟨un,po,at'⟩:=Un.KR (H:=H) (h:=s.heap) J.base e0.bE hC nf
 exact⟨v,eD C H',J.os,J.bare,un,J.bE.eD po at',rv,q po⟩
theorem V6{P:Program}{w:World}{K:PySem.W.Frag}{mg:Str->Option Value}{base:Heap}{k:Nat}{f c':Addr}{name qual:Str}{params:Arguments}{body:Expr}{scope:Scope}{cl:List (Str×Addr)}{pm ctv:Value}{fo oc:Obj}{Dl:Array Value}{tq:Tok}
  {ps fr:List Str} {sp:Sp} (Vp:fo.data=.func (kla_fn name qual params body scope cl pm (.ref c') ctv)) (sV:oc.data=.fields Dl) (hq:Dl[1]?=some (.str qual tq))
  (kind:scope.kind=.function) (co:scope.isCoroutine=false) (gen:scope.isGenerator=false) (j7:∀x∈scope.names,x.2≠.cell) (nd:(ps++fr).Nodup) (par:∀x∈ps,scope.names.lookup x=some .local) (frk:∀x∈fr,scope.names.lookup x=some .free)
  (has:∀x,scope.names.lookup x=some .free->x∈fr)
  (ua:∀x c,cl.lookup x=some c->x∈fr) (inj:∀x y c,cl.lookup x=some c->cl.lookup y=some c->x=y)
  (Fm:∀us:List Value,us.length=ps.length->bindArgs (kla_fn name qual params body scope cl pm (.ref c') ctv) ⟨us,[]⟩=pure (ps.zip us))
  (fP:∀vs H Q E,sp vs H Q E->∃C IW,vs.length=ps.length/\H f=some (dy fo)/\H c'=some (dy oc)/\dD C H/\IW.length=fr.length/\CellsOk C cl fr IW/\
   ∀(A:Around) (outer:List Env) (s:Shared),cC k (A.deeper (envX qual scope s.heap.objs.size f (.ref c') cl))->
   HC (Xn P w K mg base (ps++fr) qual scope f (.ref c') cl A outer s (aP C H)) (ps++fr) scope->
   ∃t,ZE (Xn P w K mg base (ps++fr) qual scope f (.ref c') cl A outer s (aP C H)) body t/\t ((vs++IW).map some) (aP C H) λv H'=>cQ C H'->Q v (eD C H')) :
  pz P w K mg base (k+1) f sp:=by
 intro A outer s H us vs Q E hr e0 r Gb
 obtain⟨C,IW,hl,hf,hc,hC,lfv,Sw,fP⟩:=fP _ _ _ _ Gb
 have lim:s.heap.NoLimit:=e0.mod.nolimit.keeps λb o e=>(e0.bs b o e).1
 have hk:=e0.bE
 have hu:us.length=ps.length:=by rw[<-r.length];exact hl
 refine kla_callFunE (body:=body) hr.depth (hk _ _ hf).1 Vp co gen rfl ⟨c',oc,Dl,tq,rfl,(hk _ _ hc).1,sV,hq⟩ ?_
 rw[Fm us hu]
 refine aK (wpAny_newFunctionEnv j7 (λy hy=>par y.1 (vS (a:=y.1) (b:=y.2) hy).1) (λh₁ Sv hsb=>⟨lim.fresh _ hsb,kla_codeExpr ?_⟩) kind)
 have W4:∀b o,s.heap.get? b=some o->h₁.get? b=some o:=λb o e=>hsb.extBut b o (bH (aU e)) (bZ _ e)
 obtain⟨t,ht,M7⟩:=fP A outer s (hr.deeper _) ⟨rfl,rfl⟩
 refine dE (ht.to [] _ _ _ _ (KD kind j7 nd par frk has ua inj hr.hd e0 r hl hC lfv Sw Sv W4) M7) (λu s' ⟨v,H',J,rv,q⟩=>RW e0 hC J rv q) λe s' hs=>False.elim hs
end L2
end
section
namespace L2
open PySem PySem.Spec PyProof.Rows
def PJ:R2:=λx y H Q=>∃a b,x=.ref a/\y=.ref b/\∃ps qs cl dl,H a=some (.tup (List.map V.ref ps))/\H b=some (.tup (List.map V.ref qs))/\qI H ps cl/\qI H qs dl/\Q (.bl (!decide (cl=dl))) H
section
variable {X:Cx}
theorem J1(hu:X.A.units+64<cLine):oE X (compareOp .NotEq) PJ:=by
 intro pins s σ H x y v u Q I rx ry h
 obtain⟨a,b,rfl,rfl,ps,qs,cl,dl,h1,h2,a1,a2,q⟩:=h
 cases rx;cases ry
 obtain⟨us,r1,t1,_⟩:=I.tuple (ck h1)
 obtain⟨ws,r2,t2,_⟩:=I.tuple (ck h2)
 have l1:=r1.length
 have l2:=r2.length
 rw[aY]at l1 l2
 refine SeqAt.RcNeAt.tuples (e:=λj=>decide (cl[j]?=dl[j]?)) t1 t2 (by omega) (λj h1 h2=>Cv I r1 r2 a1 a2 (by rw[Am];omega) j h1 h2) _ _ _ _ ⟨.bl _,H,I,rfl,?_⟩
 rw[cD,cD,<-l1,<-l2,a1.1,a2.1,nO]
 exact q
end
end L2
end
namespace My
open PySem L2
def top(i:Nat):Stmt:=PySem.Challenge.pw_truceroll_k55_whole_no_asking_that_follo.main.body.getD i (.Pass ⟨0,0,0,0⟩)
abbrev bV:Stmt:=top 4
abbrev gT:Stmt:=top 5
abbrev kB:Stmt:=top 7
abbrev iR:Stmt:=top 8
abbrev gW:Stmt:=top 9
abbrev gU:Stmt:=top 10
abbrev eN:Stmt:=top 11
abbrev dU:Stmt:=top 12
abbrev cV:Stmt:=top 13
abbrev iQ:Stmt:=top 14
abbrev gS:Stmt:=top 15
abbrev oq:Stmt:=top 17
abbrev bI:Stmt:=top 19
abbrev gj:Stmt:=top 22
abbrev gi:Stmt:=top 23
abbrev gd:Stmt:=top 24
abbrev gk:Stmt:=top 25
abbrev cW:Stmt:=top 26
abbrev dm:Stmt:=top 27
abbrev eO:Stmt:=top 28
abbrev dW:Stmt:=top 29
abbrev gh:Stmt:=top 30
abbrev fD:Stmt:=top 31
abbrev fC:Stmt:=top 32
abbrev cJ:Stmt:=top 33
abbrev eQ:Stmt:=top 34
abbrev cq:Stmt:=top 35
abbrev ml:Stmt:=top 36
abbrev mH:List Str:=["tuples","each","one"]
abbrev Ef:List Str:=["one"]
abbrev Mw:List Str:=["numbers"]
abbrev HF:List Str:=["one","other","member"]
abbrev Eh:List Str:=["family"]
abbrev Eg:List Str:=["family","least","part"]
abbrev wV:List Str:=["family","greatest","part"]
abbrev vg:List Str:=["part","family","one"]
abbrev rQ:List Str:=["part","family","one"]
abbrev HD:List Str:=["whole","part"]
abbrev Ee:List Str:=["whole","parts","member"]
abbrev QD:List Str:=["whole","ask","part","peace","member","more"]
abbrev dC:List Str:=["whole","ask","sounding","first","clashes","peaces"]
abbrev BZ:List Str:=["_law_script"]
abbrev BX:List Str:=["_law_hand_here"]
abbrev BV:List Str:=["_law_hand_here","_law_cell"]
abbrev Ca:List Str:=["_law_hand_here","_law_many","_law_got","_law_value","_law_size"]
abbrev rR:List Str:=["_law_one","_law_other"]
abbrev t5:List Str:=["_law_thing"]
abbrev wW:List Str:=["_law_thing"]
abbrev vh:List Str:=["_law_hand_here","_law_most","_law_far","_law_step","_law_at","_law_row","_law_k"]
abbrev BW:List Str:=["_law_hand_here","_law_whole"]
abbrev yp:List Str:=["_law_hand_here","_law_whole","_law_way","_law_weights","_law_alike","_law_one","_law_most","_law_sets","_law_at"]
abbrev yo:List Str:=["_law_model_here","_law_part"]
abbrev qo:List Str:=["_law_notes","_law_whole","_law_part"]
abbrev wX:List Str:=["_law_told","_law_due"]
abbrev nr:List Str:=["_law_model_here","_law_asked","_law_k","_law_one"]
abbrev YK:List Str:=["_law_script","_law_hand_here","_law_whole","_law_model_here","_law_notes","_law_ask","_law_told","_law_asked","_law_kept","_law_again","_law_k"]
def Kc(s:Stmt)(j:Nat):Stmt:=match s with
 | .ClassDef _ _ _ b _ _ _ _ _ _ _=>b.getD j (.Pass ⟨0,0,0,0⟩)
 | _=>.Pass ⟨0,0,0,0⟩
abbrev cz:Stmt:=Kc (top 2) 0
abbrev cL:List Str:=["self","part"]
abbrev cu:Stmt:=Kc (top 20) 0
abbrev nu:List Str:=["self","ask","parts"]
abbrev cX:Stmt:=Kc (top 20) 1
abbrev rV:List Str:=["self","part"]
abbrev cY:Stmt:=Kc (top 20) 2
abbrev rX:List Str:=["self","part","peaceful","left","other"]
abbrev bz:Stmt:=(aO ml).getD 4 (.Pass ⟨0,0,0,0⟩)
abbrev qg:List Str:=["_law_part"]
abbrev aZ:List Str:=["_law_model_here","_law_notes"]
structure ye where
 fu:Addr
 fq:FuncData
 qF:Addr
 qz:FuncData
 xU:Addr
 xH:FuncData
 uB:Addr
 uj:FuncData
 qH:Addr
 qB:FuncData
 qG:Addr
 qA:FuncData
 kf:Addr
 ka:FuncData
 jr:Addr
 jm:FuncData
 g9:Addr
 gZ:FuncData
 uA:Addr
 ui:FuncData
 qE:Addr
 qy:FuncData
 CT:Addr
 Cy:FuncData
 dq:Addr
 kO:FuncData
 nU:Addr
 nI:FuncData
 nR:Addr
 nH:FuncData
 nP:Addr
 nF:FuncData
 nV:Addr
 nJ:FuncData
 hV:Addr
 g6:FuncData
 iF:Addr
 iE:FuncData
 kg:Addr
 kc:FuncData
 js:Addr
 jn:FuncData
 nQ:Addr
 nG:FuncData
 lV:Addr
 lO:FuncData
 lU:Addr
 lN:FuncData
 gH:Addr
 gD:FuncData
 kh:Addr
 ke:FuncData
 fM:Addr
 fK:FuncData
 R':Addr
 Ky:FuncData
 aS:Addr
 bf:Addr
 bB:Addr
 fV:FuncData
 aA:Addr
 bF:Addr
 fL:FuncData
 bW:Addr
 g7:FuncData
 bX:Addr
 g8:FuncData
structure Txt(K:PySem.W.Frag)(mg:Str->Option Value)(t:ye):Prop where
 iz:jz K "each_once_in_order" "each_once_in_order" bV t.fu t.fq
 nM:Binds K t.fq ["tuples"] []
 nA:mg "each_once_in_order" = some (.ref t.fu)
 Jw:jz K "order_of" "order_of" gT t.qF t.qz
 Jj:Binds K t.qz ["one"] []
 HX:mg "order_of" = some (.ref t.qF)
 Ga:jz K "set_of" "set_of" kB t.xU t.xH
 R7:Binds K t.xH ["numbers"] []
 QL:mg "set_of" = some (.ref t.xU)
 kX:jz K "is_part" "is_part" iR t.uB t.uj
 oC:Binds K t.uj ["one","other"] []
 oy:mg "is_part" = some (.ref t.uB)
 ju:jz K "in_order" "in_order" gW t.qH t.qB
 lT:Binds K t.qB ["family"] []
 lI:mg "in_order" = some (.ref t.qH)
 x8:jz K "least_of" "least_of" gU t.qG t.qA
 Jk:Binds K t.qA ["family"] []
 HY:mg "least_of" = some (.ref t.qG)
 pk:jz K "greatest_of" "greatest_of" eN t.kf t.ka
 yD:Binds K t.ka ["family"] []
 yq:mg "greatest_of" = some (.ref t.kf)
 nZ:jz K "holds_one_of" "holds_one_of" dU t.jr t.jm
 xR:Binds K t.jm ["part","family"] []
 wY:mg "holds_one_of" = some (.ref t.jr)
 kW:jz K "lies_in_one_of" "lies_in_one_of" cV t.g9 t.gZ
 uv:Binds K t.gZ ["part","family"] []
 t6:mg "lies_in_one_of" = some (.ref t.g9)
 Ad:jz K "rest_of" "rest_of" iQ t.uA t.ui
 Ny:Binds K t.ui ["whole","part"] []
 Mx:mg "rest_of" = some (.ref t.uA)
 x6:jz K "parts_of" "parts_of" gS t.qE t.qy
 Ji:Binds K t.qy ["whole"] []
 HW:mg "parts_of" = some (.ref t.qE)
 K6:jz K "grown" "grown" oq t.CT t.Cy
 Wb:Binds K t.Cy ["whole","ask","part"] []
 U3:mg "grown" = some (.ref t.CT)
 uF:jz K "sounded" "sounded" bI t.dq t.kO
 z7:Binds K t.kO ["whole","ask"] []
 zG:mg "sounded" = some (.ref t.dq)
 vf:jz K "_law_hand" "_law_hand" gj t.nU t.nI
 FQ:Binds K t.nI ["_law_script"] []
 Eo:mg "_law_hand" = some (.ref t.nU)
 iA:jz K "_law_next" "_law_next" gi t.nR t.nH
 jT:Binds K t.nH ["_law_hand_here"] []
 jO:mg "_law_next" = some (.ref t.nR)
 vb:jz K "_law_take" "_law_take" gd t.nP t.nF
 FN:Binds K t.nF ["_law_hand_here"] []
 Em:mg "_law_take" = some (.ref t.nP)
 bG:jz K "_law_draw" "_law_draw" gk t.nV t.nJ
 bL:Binds K t.nJ ["_law_hand_here","_law_many"] []
 bK:mg "_law_draw" = some (.ref t.nV)
 cZ:jz K "_law_is_within" "_law_is_within" cW t.hV t.g6
 dY:Binds K t.g6 ["_law_one","_law_other"] []
 dX:mg "_law_is_within" = some (.ref t.hV)
 mw:jz K "_law_is_whole" "_law_is_whole" dm t.iF t.iE
 vp:Binds K t.iE ["_law_thing"] []
 vi:mg "_law_is_whole" = some (.ref t.iF)
 kl:jz K "_law_is_set" "_law_is_set" eO t.kg t.kc
 o9:Binds K t.kc ["_law_thing"] []
 oZ:mg "_law_is_set" = some (.ref t.kg)
 n5:jz K "_law_members" "_law_members" dW t.js t.jn
 xS:Binds K t.jn ["_law_hand_here","_law_most"] []
 wZ:mg "_law_members" = some (.ref t.js)
 vd:jz K "_law_some" "_law_some" gh t.nQ t.nG
 FP:Binds K t.nG ["_law_hand_here","_law_whole"] []
 En:mg "_law_some" = some (.ref t.nQ)
 sQ:jz K "_law_model" "_law_model" fD t.lV t.lO
 CP:Binds K t.lO ["_law_hand_here","_law_whole"] []
 Cg:mg "_law_model" = some (.ref t.lV)
 lX:jz K "_law_tells" "_law_tells" fC t.lU t.lN
 sI:Binds K t.lN ["_law_model_here","_law_part"] []
 rZ:mg "_law_tells" = some (.ref t.lU)
 jY:jz K "_law_asked_well" "_law_asked_well" cJ t.gH t.gD
 sJ:Binds K t.gD ["_law_notes","_law_whole"] []
 sd:mg "_law_asked_well" = some (.ref t.gH)
 px:jz K "_law_family" "_law_family" eQ t.kh t.ke
 yE:Binds K t.ke ["_law_told","_law_due"] []
 yr:mg "_law_family" = some (.ref t.kh)
 iM:jz K "_law_none_follows" "_law_none_follows" cq t.fM t.fK
 oM:Binds K t.fK ["_law_model_here","_law_asked"] []
 oG:mg "_law_none_follows" = some (.ref t.fM)
 aCc:jz K "law" "law" ml t.R' t.Ky
 aFG:Binds K t.Ky ["_law_script"] []
 aFD:mg "law" = some (.ref t.R')
 z_abs:mg "abs" = none
 z_all:mg "all" = none
 z_any:mg "any" = none
 z_bool:mg "bool" = none
 z_int:mg "int" = none
 z_isinstance:mg "isinstance" = none
 z_len:mg "len" = none
 z_list:mg "list" = none
 z_range:mg "range" = none
 z_reversed:mg "reversed" = none
 z_set:mg "set" = none
 z_sorted:mg "sorted" = none
 z_sum:mg "sum" = none
 z_tuple:mg "tuple" = none
 Ci:mg "TruceError" = some (.ref t.aS)
 S9:XC K t.aS
 kc_TruceError:PySem.W.keepIn K (.ref t.aS)=true
 ii_TruceError:PySem.W.findIn K (.ref t.aS) "__init__" = some (some (.builtin "ValueError.__init__"))
 rd_TruceError:PySem.W.readsIn K t.aS (.type "type")=true
 fc_TruceError:PySem.W.findCls K (.ref t.aS) (.type "type") "__init__" = some (.val (.builtin "ValueError.__init__"))
 sg_TruceError:PySem.W.specialIn K (.ref t.aS) "__getattribute__" = some (some (.builtin "type.__getattribute__"))
 Mz:mg "NoPeace" = some (.ref t.bf)
 tO:XC K t.bf
 kc_NoPeace:PySem.W.keepIn K (.ref t.bf)=true
 qJ:jz K "__init__" "NoPeace.__init__" cz t.bB t.fV
 qD:Binds K t.fV cL []
 ii_NoPeace:PySem.W.findIn K (.ref t.bf) "__init__" = some (some (.ref t.bB))
 if_NoPeace:PySem.W.typeIn K (.ref t.bB)=some (.type "function")
 tk_NoPeace:PySem.W.takerIn K t.bf "part" = some none
 nf_NoPeace:PySem.W.findIn K (.ref t.bf) "part" = some none
 Ia:mg "Sounding" = some (.ref t.aA)
 aV:Cls K t.aA
 mn:iG K t.aA "ask"
 cO:iG K t.aA "askings"
 cp:iG K t.aA "known"
 cM:iG K t.aA "unknown"
 Ej:Mk K t.aA t.bF
 oR:jz K "__init__" "Sounding.__init__" cu t.bF t.fL
 oN:Binds K t.fL ["self","ask","parts"] []
 uG:jz K "tells" "Sounding.tells" cX t.bW t.g7
 kR:Binds K t.g7 ["self","part"] []
 jM:Meth K t.aA "tells" t.bW
 uH:jz K "learn" "Sounding.learn" cY t.bX t.g8
 uw:Binds K t.g8 ["self","part","peaceful"] []
 rY:Meth K t.aA "learn" t.bX
theorem m7:aX nu ["self","ask","parts"] (ag cu):=⟨rfl,rfl,rfl,by decide +kernel,rfl,by decide +kernel,by decide +kernel⟩
theorem rE:aX rV ["self","part"] (ag cX):=⟨rfl,rfl,rfl,by decide +kernel,rfl,by decide +kernel,by decide +kernel⟩
theorem gx:aX rX ["self","part","peaceful"] (ag cY):=⟨rfl,rfl,rfl,by decide +kernel,rfl,by decide +kernel,by decide +kernel⟩
theorem oF:aX cL cL (ag cz):=⟨rfl,rfl,rfl,by decide +kernel,rfl,by decide +kernel,by decide +kernel⟩
theorem eR:aX mH ["tuples"] (ag bV):=⟨rfl,rfl,rfl,by decide +kernel,rfl,by decide +kernel,by decide +kernel⟩
theorem Dx:aX Ef ["one"] (ag gT):=⟨rfl,rfl,rfl,by decide +kernel,rfl,by decide +kernel,by decide +kernel⟩
theorem Lz:aX Mw ["numbers"] (ag kB):=⟨rfl,rfl,rfl,by decide +kernel,rfl,by decide +kernel,by decide +kernel⟩
theorem wG:aX HF ["one","other"] (ag iR):=⟨rfl,rfl,rfl,by decide +kernel,rfl,by decide +kernel,by decide +kernel⟩
theorem Dy:aX Eh ["family"] (ag gW):=⟨rfl,rfl,rfl,by decide +kernel,rfl,by decide +kernel,by decide +kernel⟩
theorem m5:aX Eg ["family"] (ag gU):=⟨rfl,rfl,rfl,by decide +kernel,rfl,by decide +kernel,by decide +kernel⟩
theorem jf:aX wV ["family"] (ag eN):=⟨rfl,rfl,rfl,by decide +kernel,rfl,by decide +kernel,by decide +kernel⟩
theorem mj:aX vg ["part","family"] (ag dU):=⟨rfl,rfl,rfl,by decide +kernel,rfl,by decide +kernel,by decide +kernel⟩
theorem jL:aX rQ ["part","family"] (ag cV):=⟨rfl,rfl,rfl,by decide +kernel,rfl,by decide +kernel,by decide +kernel⟩
theorem Hm:aX HD ["whole","part"] (ag iQ):=⟨rfl,rfl,rfl,by decide +kernel,rfl,by decide +kernel,by decide +kernel⟩
theorem jK:aX Ee ["whole"] (ag gS):=⟨rfl,rfl,rfl,by decide +kernel,rfl,by decide +kernel,by decide +kernel⟩
theorem m6:aX QD ["whole","ask","part"] (ag oq):=⟨rfl,rfl,rfl,by decide +kernel,rfl,by decide +kernel,by decide +kernel⟩
theorem jd:aX dC ["whole","ask"] (ag bI):=⟨rfl,rfl,rfl,by decide +kernel,rfl,by decide +kernel,by decide +kernel⟩
theorem Bw:aX BZ ["_law_script"] (ag gj):=⟨rfl,rfl,rfl,by decide +kernel,rfl,by decide +kernel,by decide +kernel⟩
theorem Bv:aX BX ["_law_hand_here"] (ag gi):=⟨rfl,rfl,rfl,by decide +kernel,rfl,by decide +kernel,by decide +kernel⟩
theorem lE:aX BV ["_law_hand_here"] (ag gd):=⟨rfl,rfl,rfl,by decide +kernel,rfl,by decide +kernel,by decide +kernel⟩
theorem fB:aX Ca ["_law_hand_here","_law_many"] (ag gk):=⟨rfl,rfl,rfl,by decide +kernel,rfl,by decide +kernel,by decide +kernel⟩
theorem rD:aX rR ["_law_one","_law_other"] (ag cW):=⟨rfl,rfl,rfl,by decide +kernel,rfl,by decide +kernel,by decide +kernel⟩
theorem tW:aX t5 ["_law_thing"] (ag dm):=⟨rfl,rfl,rfl,by decide +kernel,rfl,by decide +kernel,by decide +kernel⟩
theorem wH:aX wW ["_law_thing"] (ag eO):=⟨rfl,rfl,rfl,by decide +kernel,rfl,by decide +kernel,by decide +kernel⟩
theorem cK:aX vh ["_law_hand_here","_law_most"] (ag dW):=⟨rfl,rfl,rfl,by decide +kernel,rfl,by decide +kernel,by decide +kernel⟩
theorem Bu:aX BW ["_law_hand_here","_law_whole"] (ag gh):=⟨rfl,rfl,rfl,by decide +kernel,rfl,by decide +kernel,by decide +kernel⟩
theorem cB:aX yp ["_law_hand_here","_law_whole"] (ag fD):=⟨rfl,rfl,rfl,by decide +kernel,rfl,by decide +kernel,by decide +kernel⟩
theorem yn:aX yo ["_law_model_here","_law_part"] (ag fC):=⟨rfl,rfl,rfl,by decide +kernel,rfl,by decide +kernel,by decide +kernel⟩
theorem jg:aX qo ["_law_notes","_law_whole"] (ag cJ):=⟨rfl,rfl,rfl,by decide +kernel,rfl,by decide +kernel,by decide +kernel⟩
theorem wI:aX wX ["_law_told","_law_due"] (ag eQ):=⟨rfl,rfl,rfl,by decide +kernel,rfl,by decide +kernel,by decide +kernel⟩
theorem fc:aX nr ["_law_model_here","_law_asked"] (ag cq):=⟨rfl,rfl,rfl,by decide +kernel,rfl,by decide +kernel,by decide +kernel⟩
theorem je:aX YK ["_law_script"] (ag ml):=⟨rfl,rfl,rfl,by decide +kernel,rfl,by decide +kernel,by decide +kernel⟩
theorem aCa:bootBuiltins "abs" = some (.builtin "abs"):=by decide +kernel
theorem KN:bootBuiltins "all" = some (.builtin "all"):=by decide +kernel
theorem Xp:bootBuiltins "any" = some (.builtin "any"):=by decide +kernel
theorem aAc:bootBuiltins "bool" = some (.type "bool"):=by decide +kernel
theorem aB9:bootBuiltins "int" = some (.type "int"):=by decide +kernel
theorem gE:bootBuiltins "isinstance" = some (.builtin "isinstance"):=by decide +kernel
theorem sG:bootBuiltins "len" = some (.builtin "len"):=by decide +kernel
theorem ur:bootBuiltins "list" = some (.type "list"):=by decide +kernel
theorem aAb:bootBuiltins "reversed" = some (.type "reversed"):=by decide +kernel
theorem aB8:bootBuiltins "set" = some (.type "set"):=by decide +kernel
theorem FK:bootBuiltins "sorted" = some (.builtin "sorted"):=by decide +kernel
theorem aB7:bootBuiltins "sum" = some (.builtin "sum"):=by decide +kernel
theorem lQ:bootBuiltins "tuple" = some (.type "tuple"):=by decide +kernel
local macro_rules | `(tactic| walk_at "r") => `(tactic| repeat (walk_at "rl"))
local macro_rules | `(tactic| walk_at "rd") => `(tactic| walk_at "rc")
local macro_rules | `(tactic| walk_at "rl") => `(tactic| first | (refine e9 fun R hR => ?_) | walk_at "ry" | (refine Nx.to (by assumption) _ _ ?_))
local macro_rules | `(tactic| walk_at "rc") => do
  let ids := ("L2.start G' uP Du wq tB Lj tUn yh tC tT dA VD Km VF JP IV Ha Dq wz wB uQ Dt Te wo qe Hc G9 L1 rI rU rEq rNe Hl wC WM Hr Mb PL L8 L7 zg zi zh tY wL ow wM wO rN DQ ng zm P4 m8 wy DS P0 Hs PX P1 Mf Ma XD wu lA Pu XH Ox ou rL m9 wK rM j6 L5 Ov He XF Hb wD Ow wx tIf List.map_cons List.map_nil List.cons_append List.nil_append List.append_nil List.length_cons List.length_nil List.replicate List.getElem?_cons_zero List.getElem?_cons_succ List.set_cons_zero List.set_cons_succ Nat.reduceAdd Nat.reduceSub Nat.reduceLeDiff Option.some.injEq V.int.injEq V.ref.injEq V.str.injEq V.bl.injEq V.ty.injEq List.cons.injEq HO.lst.injEq HO.tup.injEq HO.dK.injEq exists_eq_left exists_eq_left' exists_and_left and_true true_and and_assoc exists_const reduceCtorEq ah oa decide_eq_true_eq List.length_map ite_true ite_false Bool.false_eq_true Bool.true_and Bool.and_true xT Aa z9 z8 FW FV xm xl xk xj xh FH FG Fz Fy xN xM xK xJ xI cw Option.join_some Option.join_none mZ rk xu Fh Fg zj qd qc zk DT wN rJ PN j6 DR tX iS xA Ip Io rj G7 Int.zero_add Int.reduceMul Int.reduceAdd Int.reduceSub Int.reduceLT Int.reduceLE Int.reducePow Int.reduceToNat Int.reduceNeg gt_iff_lt ge_iff_le tV hv Ln LK yV yW Ends.unb HO.ext.injEq HO.xd.injEq Kd JQ JN BG Bz By rK Bx zc y0 Bn Bl JB Tb vv oi Jz Ta DP tQ tR yX tS Lk".splitOn " ").toArray.map fun x => Lean.mkIdent x.toName
  `(tactic| simp only [$[$ids:ident],*])
local macro_rules | `(tactic| walk_at "ry") => do
  let ids := ("L2.start uP Du wq tB Lj tUn yh tC tT dA VD Km VF JP IV Ha Dq wz wB uQ Dt Te wo qe Hc G9 L1 rI rU rEq rNe Hl wC WM Hr Mb PL L8 L7 zg zi zh tY wL ow wM wO rN DQ ng zm P4 m8 wy DS P0 Hs PX P1 Mf Ma XD wu lA Pu XH Ox ou rL m9 wK rM j6 L5 Ov He XF Hb wD Ow wx tIf List.map_cons List.map_nil List.cons_append List.nil_append List.append_nil List.length_cons List.length_nil List.replicate List.getElem?_cons_zero List.getElem?_cons_succ List.set_cons_zero List.set_cons_succ Nat.reduceAdd Nat.reduceSub Nat.reduceLeDiff Option.some.injEq V.int.injEq V.ref.injEq V.str.injEq V.bl.injEq V.ty.injEq List.cons.injEq HO.lst.injEq HO.tup.injEq HO.dK.injEq exists_eq_left exists_eq_left' exists_and_left and_true true_and and_assoc exists_const reduceCtorEq ah oa decide_eq_true_eq List.length_map ite_true ite_false Bool.false_eq_true Bool.true_and Bool.and_true xT Aa z9 z8 FW FV xm xl xk xj xh FH FG Fz Fy xN xM xK xJ xI cw Option.join_some Option.join_none mZ rk xu Fh Fg zj qd qc zk DT wN rJ PN j6 DR tX iS xA Ip Io rj G7 Int.zero_add Int.reduceMul Int.reduceAdd Int.reduceSub Int.reduceLT Int.reduceLE Int.reducePow Int.reduceToNat Int.reduceNeg gt_iff_lt ge_iff_le tV hv Ln LK yV yW Ends.unb HO.ext.injEq HO.xd.injEq Kd JQ JN BG Bz By rK Bx zc y0 Bn Bl JB Tb vv oi Jz Ta DP tQ tR yX tS Lk".splitOn " ").toArray.map fun x => Lean.mkIdent x.toName
  `(tactic| simp only [$[$ids:ident],*])
section
variable {P:Program}{w:World}{K:PySem.W.Frag}{mg:Str->Option Value}{base:Heap}{t:ye}
theorem Ea(T:Txt K mg t):bS P w K mg base fN 1 t.qF t.qz ["one"] y7:=by
 refine T.Jw.rO Dx (λvs H Q E h=>?_) (λcP A outer s H vs Q E hr h hc hf=>?_)
 ·obtain⟨a,rfl,_⟩:=h;rfl
 obtain⟨a,rfl,xs,ha,q⟩:=h
 refine⟨_,(by exact az (aQ (iN (ae (bt iT (cG hc) T.z_len sG (ae (aq hc 0) ai)) (ae (aq hc 0) ai))))),?_⟩
 repeat (first | walk_at "rd" | simp only[ha])
 exact⟨by decide,q⟩
theorem UJ(T:Txt K mg t):bS P w K mg base fN 4 t.fu t.fq ["tuples"] O1:=by
 have Ju:=Ea (P:=P) (w:=w) (base:=base) T
 refine T.iz.rO eR (λvs H Q E h=>?_) (λcP A outer s H vs Q E hr h hc hf=>?_)
 ·obtain⟨a,rfl,_⟩:=h;rfl
 obtain⟨L,rfl,as,ss,hL,sat,U8,q⟩:=h
 have hu:=nE hr
 have Sl:=hr.iD
 refine⟨_,(by apply au;exact(aR hc eR.nd hf 1 (by decide +kernel) yN);apply au;exact(er iH rfl (dQ (aq hc 0)) (pN hc eR.nd hf 2 (by decide +kernel)) (by exact az (qY hu (aq hc 1) (aq hc 2) eB rfl)));exact az (aQ (K8 Ju (hr.mono (by omega)) (cG hc) T.z_sorted FK (cG hc) T.HX T.Jj (aq hc 1)))),?_⟩
 repeat (walk_at "rd")
 intro p hp
 have sp:=aJ hp (.dT [])
 have hpL:L≠p:=aj hL hp
 refine⟨⟨_,bu (sp _ _ hL)⟩,?_⟩
 obtain⟨Pv,dF⟩:∃Pv:Nat->St->Hp->Prop,∀i σ' H',Pv i σ' H'↔∃(x:Option V) (aL:List (List Key×V)) (vs:List (List Int)),σ'=[some (.ref L),some (.ref p),x]/\H'=upd H p (.dT aL)/\aL.map (·.1)=vs.map (List.map Sum.inl)/\vs.Nodup/\∀z,z∈vs↔z∈ss.take i:=⟨_,λ_ _ _=>dJ⟩
 refine fj (xs:=List.map V.ref as) Pv ((dF _ _ _).mpr ⟨none,[],[],rfl,rfl,rfl,pD,λz=>by simp⟩) (λi σ' H1 _ pv=>?_) (λi x σ' H1 hx pv=>?_) (λσ' H1 pv=>?_)
 ·obtain⟨_,_,_,_,rfl,_⟩:=(dF _ _ _).mp pv
  rw[av hpL];exact hL
 ·obtain⟨y,aL,vs,rfl,rfl,ek,nd,mem⟩:=(dF _ _ _).mp pv
  obtain⟨a,ea,rfl⟩:=gy hx
  have hi:i<as.length:=(dc.mp ea).1
  have qN:i<ss.length:=by have:=sat.1;omega
  have es:ss[i]?=some ss[i]:=bJ qN
  have ha:=sat.2 i a _ ea es
  have hap:a≠p:=aj ha hp
  have lk:aL.length<=90000:=by
   have h1:=fJ List.length ek
   rw[aY,aY]at h1
   have h2:=eM nd λx hx=>List.mem_of_mem_take ((mem x).mp hx)
   have:=sat.1
   omega
  simp only[dA,wJ,yh,tC,List.getElem?_cons_zero,GL,pI,exists_eq_left',List.set_cons_zero,List.set_cons_succ]
  refine⟨p,_,rfl,x9.t (k:=ss[i].map Sum.inl) ah (by rw[av hap,ny];exact ha) (vw (by omega)),?_⟩
  rw[oa]
  have et:ss.take (i+1)=ss.take i++[ss[i]]:=by rw[jE,es];rfl
  by_cases hin:ss[i]∈vs
  ·refine(dF _ _ _).mpr ⟨_,_,vs,rfl,rfl,?_,nd,λz=>?_⟩
   ·rw[zK,aB (by rw[ek];exact v7 hin)];exact ek
   ·rw[et,cv,<-mem z,cE]
    exact⟨.inl,λh=>h.elim id λe=>by rw[e];exact hin⟩
  ·refine(dF _ _ _).mpr ⟨_,_,vs++[ss[i]],rfl,rfl,?_,?_,λz=>?_⟩
   ·rw[zK,aC (by rw[ek];intro z;obtain⟨v,hv,e⟩:=fY.mp z;exact hin (by rw[<-Ck e];exact hv)),ek,eU];rfl
   ·rw[Ay]
    exact⟨nd,mO.mpr ⟨by simp,pD⟩,λx hx y hy=>by rw[cE.mp hy];exact λe=>hin (by rw[<-e];exact hx)⟩
   ·rw[et,cv,cv,mem z]
 ·obtain⟨y,aL,vs,rfl,rfl,ek,nd,mem⟩:=(dF _ _ _).mp pv
  rw[aY,sat.1,iV]at mem
  have lv:vs.length<100000:=by
   have:=eM nd λx hx=>(mem x).mp hx
   have:=sat.1
   omega
  repeat (walk_at "rd")
  refine⟨p,rfl,aL,vs,ah,ek,lv,λD H' bs ts s1 hD hD' st pm pw=>?_⟩
  have sH:bN H (upd H p (.dT aL)):=λb u e=>by rw[av (aj e hp)];exact e
  exact q D H' bs ts (sH.trans s1) (sH.free hD) hD' st (pm.nodup_iff.mpr nd) (λx=>(pm.mem_iff).trans (mem x)) pw
theorem qj(T:Txt K mg t):bS P w K mg base fN 1 t.uB t.uj ["one","other"] XT:=by
 refine T.kX.rO wG (λvs H Q E h=>?_) (λcP A outer s H vs Q E hr h hc hf=>?_)
 ·obtain⟨a,b,rfl,_⟩:=h;rfl
 obtain⟨a,b,rfl,x,y,ha,hb,q⟩:=h
 have hu:=nE hr
 have Sl:=hr.iD
 refine⟨_,(by apply au;exact(er iH rfl (ic (aq hc 0)) (pN hc wG.nd hf 2 (by decide +kernel)) (by exact az (cg (bP zC (aq hc 2) (aq hc 1) (by with_unfolding_all rfl)) (by exact az (aQ eB)) bA)));exact az (aQ eB)),?_⟩
 repeat (walk_at "rd")
 refine⟨⟨_,ck ha⟩,?_⟩
 obtain⟨Pv,dF⟩:∃Pv:Nat->St->Hp->Prop,∀i σ' H',Pv i σ' H'↔∃z:Option V,σ'=[some (.ref a),some (.ref b),z]/\H'=H/\(x.take i).all (λm=>decide (m∈y))=true:=⟨_,λ_ _ _=>dJ⟩
 refine lK (xs:=List.map V.int x) Pv ((dF _ _ _).mpr ⟨none,rfl,rfl,rfl⟩) (λi σ' H1 _ pv=>?_) (λi z σ' H1 hz pv=>?_) (λσ' H1 pv=>?_)
 ·obtain⟨_,_,rfl,_⟩:=(dF _ _ _).mp pv
  exact ha
 ·obtain⟨z',rfl,rfl,al⟩:=(dF _ _ _).mp pv
  obtain⟨n,en,rfl⟩:=int_at hz
  repeat (first | walk_at "rd" | simp only[hb])
  refine⟨rfl,uf y,?_⟩
  rw[xt]
  by_cases hm:n∈y
  ·rw[aC (by simp[hm])]
   refine(dF _ _ _).mpr ⟨_,rfl,rfl,?_⟩
   rw[jE,en,List.all_append,al]
   simp[hm]
  ·rw[aB (by simp[hm])]
   have e:aH x y=false:=by
    unfold aH
    rw[List.all_eq_false]
    exact⟨n,oV en,by simp[hm]⟩
   rw[<-e]
   exact q
 ·obtain⟨z',rfl,rfl,al⟩:=(dF _ _ _).mp pv
  rw[aY,iV]at al
  repeat (walk_at "rd")
  have e:aH x y=true:=al
  rw[<-e]
  exact q
theorem BP(T:Txt K mg t):bS P w K mg base fN 2 t.jr t.jm ["part","family"] (y8 false):=by
 have iU:=qj (P:=P) (w:=w) (base:=base) T
 refine T.nZ.rO mj (λvs H Q E h=>?_) (λcP A outer s H vs Q E hr h hc hf=>?_)
 ·obtain⟨a,L,rfl,_⟩:=h;rfl
 obtain⟨a,L,rfl,x,bs,ts,ha,hL,st,q⟩:=h
 refine⟨_,(by apply au;exact(er iH rfl (dQ (aq hc 1)) (pN hc mj.nd hf 2 (by decide +kernel)) (by exact az (cg (bM (aD iU (hr.mono (by omega)) (cG hc) T.oy T.kX.kp T.oC .nil bh (ae (aq hc 2) (ae (aq hc 0) ai)))) (by exact az (aQ eB)) bA)));exact az (aQ eB)),?_⟩
 repeat (walk_at "rd")
 refine⟨⟨_,bu hL⟩,?_⟩
 obtain⟨Pv,dF⟩:∃Pv:Nat->St->Hp->Prop,∀i σ' H',Pv i σ' H'↔∃z:Option V,σ'=[some (.ref a),some (.ref L),z]/\H'=H/\(ts.take i).any (λt=>aH t x)=false:=⟨_,λ_ _ _=>dJ⟩
 refine fj (xs:=List.map V.ref bs) Pv ((dF _ _ _).mpr ⟨none,rfl,rfl,rfl⟩) (λi σ' H1 _ pv=>?_) (λi z σ' H1 hz pv=>?_) (λσ' H1 pv=>?_)
 ·obtain⟨_,_,rfl,_⟩:=(dF _ _ _).mp pv
  exact hL
 ·obtain⟨z',rfl,rfl,al⟩:=(dF _ _ _).mp pv
  obtain⟨b,eb,rfl⟩:=gy hz
  have hi:i<bs.length:=(dc.mp eb).1
  have qN:i<ts.length:=by have:=st.1;omega
  have et:ts[i]?=some ts[i]:=bJ qN
  repeat (walk_at "rd")
  refine⟨b,a,rfl,_,x,st.2 i b _ eb et,ha,?_⟩
  repeat (walk_at "rd")
  by_cases hp:aH ts[i] x=true
  ·rw[aB hp]
   have e:ts.any (λt=>if false then aH x t else aH t x)=true:=gK.mpr ⟨ts[i],lZ qN,hp⟩
   rw[<-e]
   exact q
  ·rw[aC hp]
   refine(dF _ _ _).mpr ⟨_,rfl,rfl,?_⟩
   rw[jE,et,List.any_append,al]
   simp[hp]
 ·obtain⟨z',rfl,rfl,al⟩:=(dF _ _ _).mp pv
  rw[aY,st.1,iV]at al
  repeat (walk_at "rd")
  have e:ts.any (λt=>if false then aH x t else aH t x)=false:=al
  rw[<-e]
  exact q
theorem Eb(T:Txt K mg t):bS P w K mg base fN 2 t.g9 t.gZ ["part","family"] (y8 true):=by
 have iU:=qj (P:=P) (w:=w) (base:=base) T
 refine T.kW.rO jL (λvs H Q E h=>?_) (λcP A outer s H vs Q E hr h hc hf=>?_)
 ·obtain⟨a,L,rfl,_⟩:=h;rfl
 obtain⟨a,L,rfl,x,bs,ts,ha,hL,st,q⟩:=h
 refine⟨_,(by apply au;exact(er iH rfl (dQ (aq hc 1)) (pN hc jL.nd hf 2 (by decide +kernel)) (by exact az (cg (bM (aD iU (hr.mono (by omega)) (cG hc) T.oy T.kX.kp T.oC .nil bh (ae (aq hc 0) (ae (aq hc 2) ai)))) (by exact az (aQ eB)) bA)));exact az (aQ eB)),?_⟩
 repeat (walk_at "rd")
 refine⟨⟨_,bu hL⟩,?_⟩
 obtain⟨Pv,dF⟩:∃Pv:Nat->St->Hp->Prop,∀i σ' H',Pv i σ' H'↔∃z:Option V,σ'=[some (.ref a),some (.ref L),z]/\H'=H/\(ts.take i).any (λt=>aH x t)=false:=⟨_,λ_ _ _=>dJ⟩
 refine fj (xs:=List.map V.ref bs) Pv ((dF _ _ _).mpr ⟨none,rfl,rfl,rfl⟩) (λi σ' H1 _ pv=>?_) (λi z σ' H1 hz pv=>?_) (λσ' H1 pv=>?_)
 ·obtain⟨_,_,rfl,_⟩:=(dF _ _ _).mp pv
  exact hL
 ·obtain⟨z',rfl,rfl,al⟩:=(dF _ _ _).mp pv
  obtain⟨b,eb,rfl⟩:=gy hz
  have hi:i<bs.length:=(dc.mp eb).1
  have qN:i<ts.length:=by have:=st.1;omega
  have et:ts[i]?=some ts[i]:=bJ qN
  repeat (walk_at "rd")
  refine⟨a,b,rfl,x,_,ha,st.2 i b _ eb et,?_⟩
  repeat (walk_at "rd")
  by_cases hp:aH x ts[i]=true
  ·rw[aB hp]
   have e:ts.any (λt=>if true then aH x t else aH t x)=true:=gK.mpr ⟨ts[i],lZ qN,hp⟩
   rw[<-e]
   exact q
  ·rw[aC hp]
   refine(dF _ _ _).mpr ⟨_,rfl,rfl,?_⟩
   rw[jE,et,List.any_append,al]
   simp[hp]
 ·obtain⟨z',rfl,rfl,al⟩:=(dF _ _ _).mp pv
  rw[aY,st.1,iV]at al
  repeat (walk_at "rd")
  have e:ts.any (λt=>if true then aH x t else aH t x)=false:=al
  rw[<-e]
  exact q
theorem nk(T:Txt K mg t):bS P w K mg base fN 5 t.qH t.qB ["family"] O1:=by
 have nY:=UJ (P:=P) (w:=w) (base:=base) T
 refine T.ju.rO Dy (λvs H Q E h=>?_) (λcP A outer s H vs Q E hr h hc hf=>?_)
 ·obtain⟨a,rfl,_⟩:=h;rfl
 have h':=h
 obtain⟨L,rfl,_⟩:=h
 refine⟨_,(by exact az (aQ (aD nY (hr.mono (by omega)) (cG hc) T.nA T.iz.kp T.nM .nil bh (ae (aq hc 0) ai)))),?_⟩
 repeat (walk_at "rd")
 exact h'
end
local macro_rules | `(tactic| walk_at "rd") => `(tactic| walk_at "rc")
local macro_rules | `(tactic| walk_at "rl") => `(tactic| first | (refine e9 fun R hR => ?_) | walk_at "ry" | (refine Nx.to (by assumption) _ _ ?_))
section
variable {P:Program}{w:World}{K:PySem.W.Frag}{mg:Str->Option Value}{base:Heap}{t:ye}
theorem UG(T:Txt K mg t):bS P w K mg base fN 1 t.uA t.ui ["whole","part"] XS:=by
 refine T.Ad.rO Hm (λvs H Q E h=>?_) (λcP A outer s H vs Q E hr h hc hf=>?_)
 ·obtain⟨a,b,rfl,_⟩:=h;rfl
 obtain⟨a,b,rfl,x,y,ha,hb,lx,q⟩:=h
 have hu:=nE hr
 have Sl:=hr.iD
 refine⟨_,(by exact az (aQ (de iu (cG hc) T.z_tuple lQ (ae (dR hc ["member"] [1] rfl (by decide +kernel) (ic (aq hc 0)) (λ_ hc=>qZ hc (by decide +kernel) 0 (by decide +kernel)) (λ_ hc=>ku (bP zC (aq hc 0) (aq hc 1) (by with_unfolding_all rfl))) (λ_ hc=>(aq hc 0))) ai)))),?_⟩
 repeat (walk_at "rd")
 refine⟨⟨_,ck ha⟩,?_⟩
 obtain⟨Pc,jw⟩:∃Pc:Addr->Nat->List V->Hp->Prop,∀Z i ys H',Pc Z i ys H'↔ys=List.map V.int (dv (x.take i) y)/\bN H H'/\H' Z=some (.lst ys):=⟨_,λ_ _ _ _=>dJ⟩
 refine jS (zs:=List.map V.int x) Pc (λZ hZ=>(jw _ _ _ _).mpr ⟨rfl,aJ hZ _,ah⟩) (λZ hZ i ys H' _ pv=>?_) (λZ hZ i z ys H' hz pv cb=>?_) (λZ hZ ys H' pv=>?_)
 ·obtain⟨_,s,_⟩:=(jw _ _ _ _).mp pv
  exact s _ _ ha
 ·obtain⟨rfl,s1,qu⟩:=(jw _ _ _ _).mp pv
  obtain⟨n,en,rfl⟩:=int_at hz
  have hi:i<x.length:=(dc.mp en).1
  have N1:=s1 _ _ hb
  have ef:dv (x.take (i+1)) y=dv (x.take i) y++(if n∈y then [] else [n]):=by
   unfold dv
   rw[jE,en,Az]
   by_cases hm:n∈y <;> simp[hm]
  walk_at "rc"
  repeat (first | walk_at "rd" | simp only[N1])
  refine⟨rfl,uf y,?_⟩
  rw[xt]
  by_cases hm:n∈y
  ·rw[aC (by simp[hm])]
   refine(jw _ _ _ _).mpr ⟨?_,s1,qu⟩
   rw[ef,aB hm,fZ]
  ·rw[aB (by simp[hm])]
   have ll:(dv (x.take i) y).length<=900:=e8 (uN _ _) (by rw[gL];omega)
   refine⟨qu,bU (by omega),(jw _ _ _ _).mpr ⟨?_,oo s1 hZ,ah⟩⟩
   rw[ef,aC hm,eU]
   rfl
 ·obtain⟨rfl,s1,qu⟩:=(jw _ _ _ _).mp pv
  rw[aY,iV]at qu
  refine⟨Z,rfl,_,qu,λp hp=>q p _ (s1.trans (aJ hp _)) (s1.free hp) ?_⟩
  exact ah
end
def O0:Sp:=λvs H Q _=>∃L,vs=[.ref L]/\∃ns:List Int,H L=some (.tup (List.map V.int ns))/\ns.length<64/\∀p ms H',bN H H'->H p=none->H' p=some (.tup (List.map V.int ms))->fS ms->(∀x,x∈ms↔x∈ns)->Q (.ref p) H'
section
variable {P:Program}{w:World}{K:PySem.W.Frag}{mg:Str->Option Value}{base:Heap}{t:ye}
theorem Mq(T:Txt K mg t):bS P w K mg base fN 1 t.xU t.xH ["numbers"] O0:=by
 refine T.Ga.rO Lz (λvs H Q E h=>?_) (λcP A outer s H vs Q E hr h hc hf=>?_)
 ·obtain⟨L,rfl,_⟩:=h;rfl
 obtain⟨L,rfl,ns,hL,l64,q⟩:=h
 refine⟨_,(by exact az (aQ (de iu (cG hc) T.z_tuple lQ (ae (bt (xO hr.hd) (cG hc) T.z_sorted FK (ae (de (Jh hr.hd) (cG hc) T.z_set aB8 (ae (aq hc 0) ai)) ai)) ai)))),?_⟩
 repeat (first | walk_at "rd" | simp only[hL])
 refine⟨ns,rfl,by omega,λp hp=>⟨ns,rfl,l64,λss' mem up p1 vk l hl=>?_⟩⟩
 exact q l ss' _ (((aJ hp _).trans (aJ vk _)).trans (aJ hl _)) (((aJ hp _).trans (aJ vk _)).free hl) ah up mem
end
def Tr:Sp:=λvs H Q _=>∃W,vs=[.ref W]/\∃x:List Int,H W=some (.tup (List.map V.int x))/\x.length<=10/\
 ∀D H' bs ts,bN H H'->H D=none->H' D=some (.lst (List.map V.ref bs))->aE H' bs ts->ts.Nodup->(∀t,t∈ts↔t∈gb x)->ts.Pairwise (λa b=>cy a b=true)->Q (.ref D) H'
section
variable {P:Program}{w:World}{K:PySem.W.Frag}{mg:Str->Option Value}{base:Heap}{t:ye}
theorem Qt(T:Txt K mg t):bS P w K mg base fN 6 t.qE t.qy ["whole"] Tr:=by
 have ia:=nk (P:=P) (w:=w) (base:=base) T
 refine T.x6.rO jK (λvs H Q E h=>?_) (λcP A outer s H vs Q E hr h hc hf=>?_)
 ·obtain⟨a,rfl,_⟩:=h;rfl
 obtain⟨W,rfl,x,hW,lx,q⟩:=h
 refine⟨_,(by apply au;exact(aR hc jK.nd hf 1 (by decide +kernel) (fT (ae (iN ai) ai)));apply au;exact(er iH rfl (ic (aq hc 0)) (pN hc jK.nd hf 2 (by decide +kernel)) (by exact az (aR hc jK.nd hf 1 (by decide +kernel) (bq Hx (aq hc 1) (dR hc ["part"] [2] rfl (by decide +kernel) (dQ (aq hc 1)) (λ_ hc=>qZ hc (by decide +kernel) 0 (by decide +kernel)) (λ_ _=>fz) (λ_ hc=>(bq D' (aq hc 0) (iN (ae (aq hc 1) ai)))))))));exact az (aQ (aD ia (hr.mono (by omega)) (cG hc) T.lI T.ju.kp T.lT .nil bh (ae (aq hc 1) ai)))),?_⟩
 repeat (walk_at "rd")
 refine⟨by decide,λp hp=>⟨by decide,λL0 ZQ=>?_⟩⟩
 have s0:=(aJ hp (.tup [])).trans (aJ ZQ (.lst [V.ref p]))
 have Vh:upd (upd H p (.tup [])) L0 (.lst [V.ref p]) p=some (.tup []):=(aJ ZQ _) _ _ ah
 have hl0:upd (upd H p (.tup [])) L0 (.lst [V.ref p]) L0=some (.lst [V.ref p]):=ah
 generalize upd (upd H p (.tup [])) L0 (.lst [V.ref p])=H0 at s0 Vh hl0 ⊢
 refine⟨⟨_,ck (s0 _ _ hW)⟩,?_⟩
 obtain⟨Pv,dF⟩:∃Pv:Nat->St->Hp->Prop,∀i σ' H',Pv i σ' H'↔∃(L:Addr) (z:Option V) (bs:List Addr),σ'=[some (.ref W),some (.ref L),z]/\bN H H'/\H' L=some (.lst (List.map V.ref bs))/\aE H' bs (gb (x.take i)):=⟨_,λ_ _ _=>dJ⟩
 refine lK (xs:=List.map V.int x) Pv ((dF _ _ _).mpr ⟨L0,none,[p],rfl,s0,hl0,rfl,λi b t h1 h2=>?_⟩) (λi σ' H1 _ pv=>?_) (λi z σ' H1 hz pv=>?_) (λσ' H1 pv=>?_)
 ·have h2':([[]]:List (List Int))[i]?=some t:=h2
  cases i with
  | zero=>cases h1;cases h2';exact Vh
  | succ n=>simp at h1
 ·obtain⟨_,_,_,_,s1,_⟩:=(dF _ _ _).mp pv
  exact s1 _ _ hW
 ·obtain⟨L,z',bs,rfl,s1,hL,sa⟩:=(dF _ _ _).mp pv
  obtain⟨m,em,rfl⟩:=int_at hz
  have hi:i<x.length:=(dc.mp em).1
  have et:x.take (i+1)=x.take i++[m]:=by rw[jE,em];rfl
  have lb:bs.length<=1024:=by
   rw[sa.1,oj,gL];exact DX (by omega)
  have ls:=sa.1
  repeat (walk_at "rd")
  refine⟨⟨_,bu hL⟩,?_⟩
  refine jo (zs:=List.map V.ref bs) (λj=>(gb (x.take i))[j]?.map (· ++ [m])) (λ_=>jy) jy.same jy.puts hL (by rw[aY];omega) (λDD c H2 j z yes no hj s2 ZV ZR ip Fi=>?_) (λD H2 vs s2 hD Kk rl=>?_)
  ·obtain⟨b,eb,rfl⟩:=gy hj
   have Vl:j<bs.length:=(dc.mp eb).1
   have es:(gb (x.take i))[j]?=some ((gb (x.take i))[j]'(by omega)):=bJ _
   have hb:=s2 _ _ (sa.2 j b _ eb es)
   have WT:=ip ((gb (x.take i))[j]'(by omega)++[m]) (by rw[es];rfl)
   have ly:=yi (lZ (l:=gb (x.take i)) (n:=j) (by omega))
   rw[gL]at ly
   generalize (gb (x.take i))[j]'(by omega)=y at hb WT ly
   walk_at "rc"
   repeat (walk_at "rd")
   refine⟨by decide,λp1 vk=>⟨_,(aJ vk _) _ _ hb,by rw[aY];exact j5 (by omega),λp2 H3 s3 _ Sq=>WT _ _ ((aJ vk _).trans s3) ⟨p2,rfl,by rw[Sq,eU];rfl⟩⟩⟩
  ·obtain⟨cs,rfl,sc⟩:=Bt rl
   rw[aY,ls,xG (l:=gb (x.take i)) (g:=(· ++ [m])) λk hk=>by rw[bJ hk];rfl]at sc
   have Sy:=s2 _ _ hL
   repeat (first | walk_at "rd" | simp only[Sy,Kk])
   have lc:=sc.1
   rw[aY]at lc
   refine⟨j5 (by omega),λp1 vk=>(dF _ _ _).mpr ⟨p1,_,bs++cs,rfl,(s1.trans s2).trans (aJ vk _),by rw[ah,eU],?_⟩⟩
   rw[et,Hf]
   exact((sa.mono λb xs e=>s2 _ _ e).app sc).mono λb xs e=>(aJ vk _) _ _ e
 ·obtain⟨L,z',bs,rfl,s1,hL,sa⟩:=(dF _ _ _).mp pv
  rw[aY,iV]at sa
  repeat (walk_at "rd")
  refine⟨L,rfl,bs,_,hL,sa,?_,λD H2 cs ts s2 hD Kk sc nd mem pw=>q D H2 cs ts (s1.trans s2) (s1.free hD) Kk sc nd mem pw⟩
  rw[sa.1,oj]
  have:=DX lx
  omega
end
local macro_rules | `(tactic| walk_at "rd") => `(tactic| walk_at "rc")
local macro_rules | `(tactic| walk_at "rl") => `(tactic| first | (refine e9 fun R hR => ?_) | walk_at "ry" | (refine Nx.to (by assumption) _ _ ?_))
def JC(g:List (List Int)->List Int->Prop):Sp:=λvs H Q _=>∃L,vs=[.ref L]/\∃as ss,H L=some (.lst (List.map V.ref as))/\aE H as ss/\as.length<=90000/\(∀x∈ss,fS x)/\
 ∀D H' bs ts,bN H H'->H D=none->H' D=some (.lst (List.map V.ref bs))->aE H' bs ts->(∀x,x∈ts↔x∈ss/\g ss x)->ts.Pairwise (λa b=>cy a b=true)->Q (.ref D) H'
section
variable {P:Program}{w:World}{K:PySem.W.Frag}{mg:Str->Option Value}{base:Heap}{t:ye}
theorem Qv(T:Txt K mg t):bS P w K mg base fN 6 t.qG t.qA ["family"] (JC λss x=>∀y∈ss,aH y x=true->y=x):=by
 have ia:=nk (P:=P) (w:=w) (base:=base) T
 have xX:=BP (P:=P) (w:=w) (base:=base) T
 refine T.x8.rO m5 (λvs H Q E h=>?_) (λcP A outer s H vs Q E hr h hc hf=>?_)
 ·obtain⟨L,rfl,_⟩:=h;rfl
 obtain⟨L,rfl,as,ss,hL,sat,U8,rise,q⟩:=h
 refine⟨_,(by apply au;exact(aR hc m5.nd hf 1 (by decide +kernel) (fT ai));apply au;exact(er iH rfl (dQ (aD ia (hr.mono (by omega)) (cG hc) T.lI T.ju.kp T.lT .nil bh (ae (aq hc 0) ai))) (pN hc m5.nd hf 2 (by decide +kernel)) (by exact az (cg (dG (bM (aD xX (hr.mono (by omega)) (cG hc) T.wY T.nZ.kp T.xR .nil bh (ae (aq hc 2) (ae (aq hc 1) ai))))) (by exact az (dP (pO vG vH vI gp (aq hc 1) (ae (aq hc 2) ai)))) bA)));exact az (aQ (aq hc 1))),?_⟩
 repeat (walk_at "rd")
 refine⟨by decide,λR hR=>?_⟩
 have sR:=aJ hR (.lst [])
 refine⟨L,rfl,as,ss,sR _ _ hL,sat.mono λb xs e=>sR _ _ e,U8,λD H1 bs ts s1 hD zP st nd mem pw=>?_⟩
 have N2:H1 R=some (.lst []):=s1 _ _ ah
 have lt:ts.length<=90000:=by
  have:=eM nd λx hx=>(mem x).mp hx
  have:=sat.1
  omega
 have hRD:R≠D:=aj ah hD
 repeat (walk_at "rd")
 refine⟨⟨_,bu zP⟩,?_⟩
 obtain⟨Pv,dF⟩:∃Pv:Nat->St->Hp->Prop,∀i σ' H',Pv i σ' H'↔∃(x:Option V) (cs:List Addr) (vs:List (List Int)),σ'=[some (.ref L),some (.ref R),x]/\H'=upd H1 R (.lst (List.map V.ref cs))/\aE H1 cs vs/\vs.length<=i/\ji ts []=ji (ts.drop i) vs:=⟨_,λ_ _ _=>dJ⟩
 refine fj (xs:=List.map V.ref bs) Pv ((dF _ _ _).mpr ⟨none,[],[],rfl,?_,⟨rfl,λi b t e=>by simp at e⟩,bx _,rfl⟩) (λi σ' H2 _ pv=>?_) (λi z σ' H2 hz pv=>?_) (λσ' H2 pv=>?_)
 ·funext b
  by_cases e:b=R
  ·rw[e,ah,N2];rfl
  ·rw[av e]
 ·obtain⟨_,_,_,_,rfl,_⟩:=(dF _ _ _).mp pv
  rw[av hRD.symm];exact zP
 ·obtain⟨y,cs,vs,rfl,rfl,sv,lv,ef⟩:=(dF _ _ _).mp pv
  obtain⟨b,eb,rfl⟩:=gy hz
  have hi:i<bs.length:=(dc.mp eb).1
  have qN:i<ts.length:=by have:=st.1;omega
  have et:ts[i]?=some ts[i]:=bJ qN
  have hb:=st.2 i b _ eb et
  have k1:∀o c xs,H1 c=some (.tup xs)->upd H1 R o c=some (.tup xs):=λo c xs e=>by rw[av (bj e N2 (by intro z;cases z))];exact e
  rw[wa qN]at ef
  have VR:ji ts []=ji (ts.drop (i+1)) (if vs.any (λt=>aH t ts[i]) then vs else vs++[ts[i]]):=ef
  repeat (walk_at "rd")
  refine⟨b,R,rfl,_,cs,vs,k1 _ _ _ hb,ah,sv.mono (k1 _),?_⟩
  repeat (walk_at "rd")
  by_cases c:vs.any (λt=>aH t ts[i])=true
  ·rw[aC (by rw[c];simp)]
   rw[aB c]at VR
   exact(dF _ _ _).mpr ⟨_,cs,vs,rfl,rfl,sv,by omega,VR⟩
  ·rw[aB (by rw[Bd c];rfl)]
   rw[aC c]at VR
   refine⟨.inl ⟨rfl,_,bu ah⟩,by rw[sv.1];exact vw (by omega),?_⟩
   exact(dF _ _ _).mpr ⟨_,cs++[b],vs++[ts[i]],rfl,by rw[eU];rfl,sv.snoc hb,by rw[cS];simp;omega,VR⟩
 ·obtain⟨y,cs,vs,rfl,rfl,sv,lv,ef⟩:=(dF _ _ _).mp pv
  have ln:(List.map V.ref bs).length=ts.length:=by rw[aY,st.1]
  rw[ln,List.drop_length]at ef
  have ev:vs=ji ts []:=ef.symm
  repeat (walk_at "rd")
  have rt:∀x∈ts,fS x:=λx hx=>rise x ((mem x).mp hx)
  obtain⟨l,el,sl⟩:=qt ts []
  rw[pF]at el
  have k1:∀o c xs,H1 c=some (.tup xs)->upd H1 R o c=some (.tup xs):=λo c xs e=>by rw[av (bj e N2 (by intro z;cases z))];exact e
  refine q R _ cs vs (λc u e=>?_) hR ah (sv.mono (k1 _)) (λx=>?_) (by rw[ev,el];exact pw.sublist sl)
  ·rw[av (aj e hR)];exact s1 _ _ (sR _ _ e)
  ·rw[ev]
   have:=xf ts [] [] (by simpa using rt) (by simpa using pw) (λx=>by simp) x
   rw[pF]at this
   rw[this]
   constructor
   ·rintro⟨h1,h2⟩
    exact⟨(mem x).mp h1,λy hy=>h2 y ((mem y).mpr hy)⟩
   ·rintro⟨h1,h2⟩
    exact⟨(mem x).mpr h1,λy hy=>h2 y ((mem y).mp hy)⟩
theorem Ed(T:Txt K mg t):bS P w K mg base fN 6 t.kf t.ka ["family"] (JC λss x=>∀y∈ss,aH x y=true->y=x):=by
 have ia:=nk (P:=P) (w:=w) (base:=base) T
 have uD:=Eb (P:=P) (w:=w) (base:=base) T
 refine T.pk.rO jf (λvs H Q E h=>?_) (λcP A outer s H vs Q E hr h hc hf=>?_)
 ·obtain⟨L,rfl,_⟩:=h;rfl
 obtain⟨L,rfl,as,ss,hL,sat,U8,rise,q⟩:=h
 refine⟨_,(by apply au;exact(aR hc jf.nd hf 1 (by decide +kernel) (fT ai));apply au;exact(er iH rfl (SN (cG hc) T.z_reversed (ae (aD ia (hr.mono (by omega)) (cG hc) T.lI T.ju.kp T.lT .nil bh (ae (aq hc 0) ai)) ai)) (pN hc jf.nd hf 2 (by decide +kernel)) (by exact az (cg (dG (bM (aD uD (hr.mono (by omega)) (cG hc) T.t6 T.kW.kp T.uv .nil bh (ae (aq hc 2) (ae (aq hc 1) ai))))) (by exact az (dP (pO vG vH vI gp (aq hc 1) (ae (aq hc 2) ai)))) bA)));exact az (aQ (aD ia (hr.mono (by omega)) (cG hc) T.lI T.ju.kp T.lT .nil bh (ae (aq hc 1) ai)))),?_⟩
 repeat (walk_at "rd")
 refine⟨by decide,λR hR=>?_⟩
 have sR:=aJ hR (.lst [])
 refine⟨L,rfl,as,ss,sR _ _ hL,sat.mono λb xs e=>sR _ _ e,U8,λD H1 bs ts s1 hD zP st nd mem pw=>?_⟩
 have N2:H1 R=some (.lst []):=s1 _ _ ah
 have lt:ts.length<=90000:=by
  have:=eM nd λx hx=>(mem x).mp hx
  have:=sat.1
  omega
 have hRD:R≠D:=aj ah hD
 have str:=st.rev
 repeat (walk_at "rd")
 refine⟨_,bu zP,?_⟩
 obtain⟨Pv,dF⟩:∃Pv:Nat->St->Hp->Prop,∀i σ' H',Pv i σ' H'↔∃(x:Option V) (cs:List Addr) (vs:List (List Int)),σ'=[some (.ref L),some (.ref R),x]/\H'=upd H1 R (.lst (List.map V.ref cs))/\aE H1 cs vs/\vs.length<=i/\jk ts.reverse []=jk (ts.reverse.drop i) vs:=⟨_,λ_ _ _=>dJ⟩
 refine Jb (xs:=List.map V.ref bs) Pv ((dF _ _ _).mpr ⟨none,[],[],rfl,?_,⟨rfl,λi b t e=>by simp at e⟩,bx _,rfl⟩) (λi σ' H2 _ pv=>?_) (λi z σ' H2 hz pv=>?_) (λσ' H2 pv=>?_)
 ·funext b
  by_cases e:b=R
  ·rw[e,ah,N2];rfl
  ·rw[av e]
 ·obtain⟨_,_,_,_,rfl,_⟩:=(dF _ _ _).mp pv
  rw[av hRD.symm];exact zP
 ·obtain⟨y,cs,vs,rfl,rfl,sv,lv,ef⟩:=(dF _ _ _).mp pv
  rw[<-vX]at hz
  obtain⟨b,eb,rfl⟩:=gy hz
  have hi:i<bs.reverse.length:=(dc.mp eb).1
  have qN:i<ts.reverse.length:=by have:=str.1;omega
  have hi3:i<90000:=by rw[tI]at qN;omega
  have et:ts.reverse[i]?=some ts.reverse[i]:=bJ qN
  have hb:=str.2 i b _ eb et
  have k1:∀o c xs,H1 c=some (.tup xs)->upd H1 R o c=some (.tup xs):=λo c xs e=>by rw[av (bj e N2 (by intro z;cases z))];exact e
  rw[wa qN]at ef
  have VR:jk ts.reverse []=jk (ts.reverse.drop (i+1)) (if vs.any (λt=>aH ts.reverse[i] t) then vs else vs++[ts.reverse[i]]):=ef
  repeat (walk_at "rd")
  refine⟨b,R,rfl,_,cs,vs,k1 _ _ _ hb,ah,sv.mono (k1 _),?_⟩
  repeat (walk_at "rd")
  by_cases c:vs.any (λt=>aH ts.reverse[i] t)=true
  ·rw[aC (by rw[c];simp)]
   rw[aB c]at VR
   exact(dF _ _ _).mpr ⟨_,cs,vs,rfl,rfl,sv,by omega,VR⟩
  ·rw[aB (by rw[Bd c];rfl)]
   rw[aC c]at VR
   refine⟨.inl ⟨rfl,_,bu ah⟩,by rw[sv.1];exact vw (by omega),?_⟩
   exact(dF _ _ _).mpr ⟨_,cs++[b],vs++[ts.reverse[i]],rfl,by rw[eU];rfl,sv.snoc hb,by rw[cS];simp;omega,VR⟩
 ·obtain⟨y,cs,vs,rfl,rfl,sv,lv,ef⟩:=(dF _ _ _).mp pv
  have ln:(List.map V.ref bs).length=ts.reverse.length:=by rw[aY,st.1,tI]
  rw[ln,List.drop_length]at ef
  have ev:vs=jk ts.reverse []:=ef.symm
  repeat (walk_at "rd")
  have rt:∀x∈ts,fS x:=λx hx=>rise x ((mem x).mp hx)
  obtain⟨l,el,sl⟩:=qv ts.reverse []
  rw[pF]at el
  have k1:∀o c xs,H1 c=some (.tup xs)->upd H1 R o c=some (.tup xs):=λo c xs e=>by rw[av (bj e N2 (by intro z;cases z))];exact e
  have mv:∀x,x∈vs↔x∈ts/\∀y∈ts,aH x y=true->y=x:=λx=>by
   rw[ev]
   have:=xD ts.reverse [] [] (by simpa using rt) (by rw[pF,List.pairwise_reverse];exact pw) (λx=>by simp) (λy hy=>by simp at hy) x
   rw[pF]at this
   simpa using this
  have lv2:vs.length<=ts.length:=by rw[ev,el];have:=sl.length_le;rwa [tI]at this
  have sH:bN H (upd H1 R (.lst (List.map V.ref cs))):=λc u e=>by rw[av (aj e hR)];exact s1 _ _ (sR _ _ e)
  refine⟨R,rfl,cs,vs,ah,sv.mono (k1 _),by rw[sv.1];omega,λD2 H3 bs2 ts2 s3 Kk Iz NQ nd2 aDN pw2=>q D2 H3 bs2 ts2 (sH.trans s3) (sH.free Kk) Iz NQ (λx=>?_) pw2⟩
  rw[aDN x,mv x]
  constructor
  ·rintro⟨h1,h2⟩
   exact⟨(mem x).mp h1,λy hy=>h2 y ((mem y).mpr hy)⟩
  ·rintro⟨h1,h2⟩
   exact⟨(mem x).mpr h1,λy hy=>h2 y ((mem y).mp hy)⟩
end
local macro_rules | `(tactic| walk_at "rd") => `(tactic| walk_at "rc")
local macro_rules | `(tactic| walk_at "rc") => do
  let ids := ("L2.start G' uP Du wq tB Lj tUn yh tC tT dA IV Ha Dq wz wB uQ Dt Te wo qe Hc G9 L1 rI rU rEq rNe Hl wC WM Hr Mb PL L8 L7 zg zi zh tY wL ow wM wO rN DQ ng zm P4 m8 wy DS P0 Hs PX P1 Mf Ma XD wu lA Pu XH Ox ou rL m9 wK rM j6 L5 Ov He XF Hb wD Ow wx tIf List.map_cons List.map_nil List.cons_append List.nil_append List.append_nil List.length_cons List.length_nil List.replicate List.getElem?_cons_zero List.getElem?_cons_succ List.set_cons_zero List.set_cons_succ Nat.reduceAdd Nat.reduceSub Nat.reduceLeDiff Option.some.injEq V.int.injEq V.ref.injEq V.str.injEq V.bl.injEq V.ty.injEq List.cons.injEq HO.lst.injEq HO.tup.injEq HO.dK.injEq exists_eq_left exists_eq_left' exists_and_left and_true true_and and_assoc exists_const reduceCtorEq ah oa decide_eq_true_eq List.length_map ite_true ite_false Bool.false_eq_true Bool.true_and Bool.and_true xT Aa z9 z8 FW FV xm xl xk xj xh FH FG Fz Fy xN xM xK xJ xI cw Option.join_some Option.join_none mZ rk xu Fh Fg zj qd qc zk DT wN rJ PN j6 DR tX iS xA Ip Io rj G7 Int.zero_add Int.reduceMul Int.reduceAdd Int.reduceSub Int.reduceLT Int.reduceLE Int.reducePow Int.reduceToNat Int.reduceNeg gt_iff_lt ge_iff_le tV hv".splitOn " ").toArray.map fun x => Lean.mkIdent x.toName
  `(tactic| simp only [$[$ids:ident],*])
section
variable {P:Program}{w:World}{K:PySem.W.Frag}{mg:Str->Option Value}{base:Heap}{t:ye}
theorem J4(T:Txt K mg t):bS P w K mg base fN 1 t.nR t.nH ["_law_hand_here"] tV:=by
 refine T.iA.rO Bv (λvs H Q E h=>?_) (λcP A outer s H vs Q E hr h hc hf=>?_)
 ·obtain⟨h,rfl,_⟩:=h;rfl
 obtain⟨h,rfl,l,a,b,c,d,e,hh,q⟩:=h
 refine⟨_,(by apply au;exact(lu (bq nj (bq qi (bC jv (aq hc 0) ao (λ_ _=>rfl)) ao) ao) (lz (aq hc 0) ao rC));apply au;exact(lu (bq nj (bq qi (bC jv (aq hc 0) ao (λ_ _=>rfl)) ao) ao) (lz (aq hc 0) ao rC));exact az (aQ (bq gX (bC jv (aq hc 0) ao (λ_ _=>rfl)) (bC jv (aq hc 0) ao (λ_ _=>rfl))))),?_⟩
 unfold hv at *
 walk_at "rd"
 simp only[hh]
 walk_at "rd"
 exact q
theorem Uz(T:Txt K mg t):bS P w K mg base fN 2 t.nP t.nF ["_law_hand_here"] XQ:=by
 have iy:=J4 (P:=P) (w:=w) (base:=base) T
 refine T.vb.rO lE (λvs H Q E h=>?_) (λcP A outer s H vs Q E hr h hc hf=>?_)
 ·obtain⟨h,rfl,_⟩:=h;rfl
 obtain⟨h,rfl,l,ns,o,hh,⟨a,b,c,d,e,rfl,ha⟩,hl,q⟩:=h
 refine⟨_,(by apply au;exact(aR hc lE.nd hf 1 (by decide +kernel) ao);apply mS;exact(cg (bP Qp (bC jv (aq hc 0) ao (λ_ _=>rfl)) (bt uo (cG hc) T.z_len sG (ae (bC jv (aq hc 0) ao (λ_ _=>rfl)) ai)) (dg _)) (by exact az (aR hc lE.nd hf 1 (by decide +kernel) (bt R4 (cG hc) T.z_abs aCa (ae (bC jv (bC jv (aq hc 0) ao (λ_ _=>rfl)) (bC jv (aq hc 0) ao (λ_ _=>rfl)) (λ_ _=>rfl)) ai)))) bA);apply au;exact(Dk (aq hc 0) ao Xi ao QV rC);apply mS;exact(cg (bP aAY (aq hc 1) (bq BL ao ao) (dg _)) (by exact az (lu (aq hc 1) (lz (aq hc 0) ao rC))) (by exact az (lu ao (lz (aq hc 0) ao rC))));apply au;exact(lu (bq gX (bq nj (bq gX (bC jv (aq hc 0) ao (λ_ _=>rfl)) (bq nj (aq hc 1) ao)) ao) ao) (lz (aq hc 0) ao rC));apply au;exact(lu (bq gX (bq nj (bq gX (bq qi (bC jv (aq hc 0) ao (λ_ _=>rfl)) ao) (bq nj (aq hc 1) ao)) ao) ao) (lz (aq hc 0) ao rC));apply au;exact(dP (aD iy (hr.mono (by omega)) (cG hc) T.jO T.iA.kp T.jT .nil bh (ae (aq hc 0) ai)));exact az (dP (aD iy (hr.mono (by omega)) (cG hc) T.jO T.iA.kp T.jT .nil bh (ae (aq hc 0) ai)))),?_⟩
 unfold hv at *
 walk_at "rd"
 refine⟨λσ' H'=>∃z,σ'=[some (.ref h),some (.int z)]/\H'=H,?_,?_⟩
 ·repeat (first | walk_at "rd" | simp only[hh,hl])
  split
  ·rename_i jj
   obtain⟨v,Va⟩:=R8 ha jj
   rw[Va]
   walk_at "rd"
   exact⟨_,rfl⟩
  ·exact⟨_,rfl⟩
 ·rintro σ' H' ⟨z,e1,e2⟩
  subst e1 e2
  repeat (first | walk_at "rd" | simp only[hh,hl])
  refine⟨λσ' uC=>∃b' c',σ'=[some (.ref h),some (.int z)]/\uC=upd H' h (.lst [.ref l,.int (a+1),.int b',.int c',.int d,.int e]),?_,?_⟩
  ·repeat (first | walk_at "rd" | simp only[hh,hl])
   split
   ·exact⟨_,_,rfl⟩
   ·exact⟨_,_,rfl⟩
  ·rintro σ' uC ⟨b',c',e1,e2⟩
   subst e1 e2
   repeat (first | walk_at "rd" | simp only[hh,hl])
   exact q _ ⟨_,_,_,_,_,rfl,by omega⟩
theorem vA(T:Txt K mg t):bS P w K mg base fN 3 t.nV t.nJ ["_law_hand_here","_law_many"] O2:=by
 have iy:=J4 (P:=P) (w:=w) (base:=base) T
 have FX:=Uz (P:=P) (w:=w) (base:=base) T
 refine T.bG.rO fB (λvs H Q E h=>?_) (λcP A outer s H vs Q E hr h hc hf=>?_)
 ·obtain⟨h,m,rfl,_⟩:=h;rfl
 obtain⟨h,m,rfl,hm,hm2,l,ns,o,hh,⟨a,b,c,d,e,rfl,ha⟩,hl,q⟩:=h
 refine⟨_,(by apply mS;exact(cg (mX (vt (bP uR (bC jv (aq hc 0) ao (λ_ _=>rfl)) ao (dg _)) (qW (bP uR (bC jv (aq hc 0) ao (λ_ _=>rfl)) ao (dg _))))) (by exact az (dP (aD FX (hr.mono (by omega)) (cG hc) T.Em T.vb.kp T.FN .nil bh (ae (aq hc 0) ai)))) bA);apply au;exact(cg (bP Qq (bC jv (aq hc 0) ao (λ_ _=>rfl)) ao (dg _)) (by apply au;exact(aR hc fB.nd hf 2 (by decide +kernel) (bq nj (bC jv (aq hc 0) ao (λ_ _=>rfl)) (aq hc 1)));apply au;exact(lu (bq Qr (bC jv (aq hc 0) ao (λ_ _=>rfl)) (aq hc 1)) (lz (aq hc 0) ao rC));exact az (aQ (aq hc 2))) bA);apply au;exact(Dk (aq hc 0) ao Xi ao Y9 rC);apply au;exact(aR hc fB.nd hf 3 (by decide +kernel) (aD iy (hr.mono (by omega)) (cG hc) T.jO T.iA.kp T.jT .nil bh (ae (aq hc 0) ai)));apply au;exact(aR hc fB.nd hf 4 (by decide +kernel) ao);apply au;exact(yM iH (bP Qp (aq hc 4) (aq hc 1) (dg _)) (by apply au;exact(aR hc fB.nd hf 3 (by decide +kernel) (bq gX (bq qi (aq hc 3) ao) (aD iy (hr.mono (by omega)) (cG hc) T.jO T.iA.kp T.jT .nil bh (ae (aq hc 0) ai))));exact az (aR hc fB.nd hf 4 (by decide +kernel) (bq qi (aq hc 4) ao))));exact az (aQ (bq nj (aq hc 3) (aq hc 1)))),?_⟩
 unfold hv at *
 walk_at "rd"
 refine⟨λσ' H'=>∃a b c d e,σ'=[some (.ref h),some (.int m),none,none,none]/\H'=upd H h (hv l a b c d e)/\0<=a,?_,?_⟩
 ·have same:H=upd H h (hv l a b c d e):=by
   funext x;unfold upd;split
   ·rename_i e;rw[e,hh];rfl
   ·rfl
  repeat (first | walk_at "rd" | simp only[hh,hl])
  by_cases hb:b=0
  ·by_cases hc:c=0
   ·simp only[hb,hc,gu]
    repeat (first | walk_at "rd" | simp only[hh,hl])
    refine⟨h,rfl,l,ns,_,hh,⟨a,b,c,d,e,by rw[hb,hc];rfl,ha⟩,hl,?_⟩
    rintro o' ⟨a',b',c',d',e',rfl,Xa⟩
    exact⟨a',b',c',d',e',rfl,Xa⟩
   ·simp only[hb,hc,gu,fF,iW]
    exact⟨a,b,c,d,e,same,ha⟩
  ·simp only[hb,fF,iW]
   exact⟨a,b,c,d,e,same,ha⟩
 ·rintro σ' H' ⟨a,b,c,d,e,e1,e2,ha⟩
  subst e1 e2
  repeat (first | walk_at "rd" | simp only[hh,hl])
  split
  ·rename_i hb
   refine⟨by omega,⟨by omega,hm2⟩,q _ _ (Int.emod_nonneg _ (by omega)) (Int.emod_lt_of_pos _ (by omega)) ⟨_,_,_,_,_,rfl,ha⟩⟩
  ·rename_i hb
   obtain⟨W,hW⟩:∃W:Nat->St->Hp->Prop,∀μ σ' H',W μ σ' H'↔∃v z a b c d e:Int,μ=(m-z).toNat/\σ'=[some (.ref h),some (.int m),none,some (.int v),some (.int z)]/\H'=upd H h (hv l a b c d e)/\0<=a/\1<=z:=⟨_,λ_ _ _=>dJ⟩
   refine⟨W,⟨_,(hW _ _ _).mpr ⟨_,_,_,_,_,_,_,rfl,rfl,rfl,ha,by omega⟩⟩,?_⟩
   intro μ σ' H' hw'
   obtain⟨v,z,a,b,c,d,e,rfl,e1,e2,ha,hz⟩:=(hW _ _ _).mp hw'
   subst e1 e2
   walk_at "rd"
   split
   ·rename_i jj
    obtain⟨N,hN⟩:∃N:St->Hp->Prop,∀σ' H',N σ' H'↔∃v z' a b c d e:Int,σ'=[some (.ref h),some (.int m),none,some (.int v),some (.int z')]/\H'=upd H h (hv l a b c d e)/\0<=a/\z'=z*4294967296:=⟨_,λ_ _=>dJ⟩
    refine⟨N,λσ' H' hn=>?_,?_⟩
    ·obtain⟨v,z',a,b,c,d,e,e1,e2,ha,e3⟩:=(hN _ _).mp hn
     exact⟨(m-z').toNat,by omega,(hW _ _ _).mpr ⟨v,z',a,b,c,d,e,rfl,e1,e2,ha,by omega⟩⟩
    ·repeat (first | walk_at "rd" | simp only[hh,hl])
     exact(hN _ _).mpr ⟨_,_,_,_,_,_,_,rfl,rfl,ha,rfl⟩
   ·refine⟨by omega,q _ _ (Int.emod_nonneg _ (by omega)) (Int.emod_lt_of_pos _ (by omega)) ⟨_,_,_,_,_,rfl,ha⟩⟩
theorem UT(T:Txt K mg t):bS P w K mg base fN 1 t.nU t.nI ["_law_script"] (X1 K):=by
 refine T.vf.rO Bw (λvs H Q E h=>?_) (λcP A outer s H vs Q E hr h hc hf=>?_)
 ·obtain⟨a,ns,rfl,_⟩:=h;rfl
 obtain⟨a,ns,rfl,hS,q⟩:=h
 refine⟨_,(by exact az (aQ (fT (ae (de jq (cG hc) T.z_list ur (ae (n6 JG (aq hc 0) wd (mU ao)) ai)) (ae ao (ae ao (ae ao (ae ao (ae ao ai))))))))),?_⟩
 walk_at "rd"
 refine⟨a,List.map V.int ns,rfl,hS,λp hp=>?_⟩
 rw[Fu]
 walk_at "rd"
 refine λl hl=>⟨by decide,λh hh=>?_⟩
 have s1:=aJ hp (.lst (List.map V.int ((ns.drop (HT.dn ns.length 0 none)).take (HT.dn ns.length ns.length (some 63)-HT.dn ns.length 0 none))))
 have s2:=aJ hl (.lst (List.map V.int ((ns.drop (HT.dn ns.length 0 none)).take (HT.dn ns.length ns.length (some 63)-HT.dn ns.length 0 none))))
 have s3:=aJ hh (hv l 0 0 0 20011 40009)
 exact q h _ (s1.trans (s2.trans s3)) ((s1.trans s2).free hh) ⟨l,_,_,ah,⟨_,_,_,_,_,rfl,fX 0⟩,s3 _ _ ah⟩
end
local macro_rules | `(tactic| walk_at "rd") => `(tactic| walk_at "rc")
local macro_rules | `(tactic| walk_at "rl") => `(tactic| first | (refine e9 fun R hR => ?_) | walk_at "ry" | (refine Nx.to (by assumption) _ _ ?_))
def OJ:Sp:=λvs H Q _=>∃a b,vs=[.ref a,.ref b]/\∃x y:List Int,H a=some (.tup (List.map V.int x))/\H b=some (.tup (List.map V.int y))/\x.length<=900/\∀H',bN H H'->Q (.bl (aH x y)) H'
section
variable {P:Program}{w:World}{K:PySem.W.Frag}{mg:Str->Option Value}{base:Heap}{t:ye}
theorem tZ(T:Txt K mg t):bS P w K mg base fN 1 t.hV t.g6 ["_law_one","_law_other"] OJ:=by
 refine T.cZ.rO rD (λvs H Q E h=>?_) (λcP A outer s H vs Q E hr h hc hf=>?_)
 ·obtain⟨a,b,rfl,_⟩:=h;rfl
 obtain⟨a,b,rfl,x,y,ha,hb,lx,q⟩:=h
 refine⟨_,(by exact az (aQ (bt (oB hr.hd) (cG hc) T.z_all KN (ae (dR hc ["_law_member"] [1] rfl (by decide +kernel) (ic (aq hc 0)) (λ_ hc=>qZ hc (by decide +kernel) 0 (by decide +kernel)) (λ_ _=>fz) (λ_ hc=>(mV YD (aq hc 0) (aq hc 1) (by with_unfolding_all rfl)))) ai)))),?_⟩
 walk_at "r"
 refine⟨⟨_,ck ha⟩,?_⟩
 refine uk (zs:=List.map V.int x) (λj=>x[j]?.map λm=>V.bl (decide (m∈y))) (λ_=>Wk) (λ_ _ _ _ _ _ r=>r) (λ_ _ _ _ _ _ _ r=>r) ha (by rw[aY];omega) (λDD c H4 j z yes no hj s4 ZV ZR ip Fi=>?_) (λD H4 vs s4 hD Df rl=>?_)
 ·obtain⟨m,em,rfl⟩:=int_at hj
  rw[em]at ip
  walk_at "rc"
  walk_at "r"
  refine⟨_,s4 _ _ hb,rfl,uf _,?_⟩
  rw[xt]
  exact ip _ rfl _ _ (λ_ _ e=>e) rfl
 have ev:=Bk rl
 rw[aY,xG (l:=x) (g:=λm=>V.bl (decide (m∈y))) λk hk=>by rw[bJ hk];rfl]at ev
 subst ev
 refine⟨D,rfl,x.map λm=>decide (m∈y),by rw[Df,gJ];rfl,?_⟩
 rw[List.all_map]
 exact q _ s4
end
def Lr:Sp:=λvs H Q _=>∃h most,vs=[.ref h,.int most]/\∃n:Nat,most=(n:Int)/\n<=12/\fW H h/\∀R ms H',Dr h H H'->H R=none->H' R=some (.tup (List.map V.int ms))->ms.length<=n->fS ms->Q (.ref R) H'
theorem Dp{r a b c:Int}(r0:0<=r)(r1:r<3):∃z,vq [V.int a,V.int b,V.int c] r=some (.int z)/\(z=a\/z=b\/z=c):=by
 have h:r=0\/r=1\/r=2:=by omega
 rcases h with rfl | rfl | rfl
 ·exact⟨a,rfl,.inl rfl⟩
 ·exact⟨b,rfl,.inr (.inl rfl)⟩
 ·exact⟨c,rfl,.inr (.inr rfl)⟩
section
variable {P:Program}{w:World}{K:PySem.W.Frag}{mg:Str->Option Value}{base:Heap}{t:ye}
theorem Hz(T:Txt K mg t):bS P w K mg base fN 4 t.js t.jn ["_law_hand_here","_law_most"] Lr:=by
 have bp:=vA (P:=P) (w:=w) (base:=base) T
 refine T.n5.rO cK (λvs H Q E h=>?_) (λcP A outer s H vs Q E hr h hc hf=>?_)
 ·obtain⟨h,m,rfl,_⟩:=h;rfl
 obtain⟨h,_,rfl,n,rfl,hn,hd,q⟩:=h
 refine⟨_,(by apply au;exact(aR hc cK.nd hf 2 (by decide +kernel) (bC jv (fT (ae ao (ae (bq BL ao ao) (ae (bq BL ao ao) ai)))) (aD bp (hr.mono (by omega)) (cG hc) T.bK T.bG.kp T.bL .nil bh (ae (aq hc 0) (ae ao ai))) (λ_ _=>rfl)));apply au;exact(aR hc cK.nd hf 3 (by decide +kernel) (bC jv (fT (ae ao (ae ao (ae (bq BL ao ao) ai)))) (aD bp (hr.mono (by omega)) (cG hc) T.bK T.bG.kp T.bL .nil bh (ae (aq hc 0) (ae ao ai))) (λ_ _=>rfl)));apply au;exact(aR hc cK.nd hf 4 (by decide +kernel) (bq Hw (aD bp (hr.mono (by omega)) (cG hc) T.bK T.bG.kp T.bL .nil bh (ae (aq hc 0) (ae (bq gX (bq qi ao (aq hc 2)) ao) ai))) (aq hc 2)));apply au;exact(aR hc cK.nd hf 5 (by decide +kernel) (fT ai));apply au;exact(er iH rfl (ja (cG hc) T.z_range (ae (aD bp (hr.mono (by omega)) (cG hc) T.bK T.bG.kp T.bL .nil bh (ae (aq hc 0) (ae (bq gX (aq hc 1) ao) ai))) ai)) (pN hc cK.nd hf 6 (by decide +kernel)) (by apply au;exact(dP (pO vG vH vI gp (aq hc 5) (ae (aq hc 4) ai)));exact az (Od hc cK.nd hf 4 (by decide +kernel) (bq gX ao (aD bp (hr.mono (by omega)) (cG hc) T.bK T.bG.kp T.bL .nil bh (ae (aq hc 0) (ae (aq hc 3) ai)))) QV)));exact az (aQ (de iu (cG hc) T.z_tuple lQ (ae (aq hc 5) ai)))),?_⟩
 repeat (walk_at "rd")
 refine⟨⟨by decide,by decide,by decide⟩,⟨by decide,by decide,by decide⟩,by decide,λp hp=>?_⟩
 have d0:=(Dr.refl (h:=h) (H:=H)).new (o:=.lst [V.int 3,V.int 1000000,V.int 1000000000000000000000000000000000000000000000000000000000000]) hp
 have Zm:p≠h:=hd.ne hp
 refine dI hd d0 (by decide) (by decide) λr H1 r0 r1 d1 k1=>?_
 obtain⟨z,ez,hz⟩:=Dp (a:=3) (b:=1000000) (c:=1000000000000000000000000000000000000000000000000000000000000) r0 r1
 refine⟨_,rfl,_,by rw[k1 p Zm];exact ah,_,ez,⟨by decide,by decide,by decide⟩,by decide,λp2 Sq=>?_⟩
 have d2:=d1.new (o:=.lst [V.int 1,V.int 5,V.int 1000000000]) Sq
 have aEm:p2≠h:=(d1.gY hd).ne Sq
 refine dI hd d2 (by decide) (by decide) λr' H2 r0' r1' d3 k3=>?_
 obtain⟨st,es,hs⟩:=Dp (a:=1) (b:=5) (c:=1000000000) r0' r1'
 have WR:1<=z/\z<=1000000000000000000000000000000000000000000000000000000000000:=by omega
 have hs1:1<=st/\st<=1000000000:=by omega
 refine⟨_,rfl,_,by rw[k3 p2 aEm];exact ah,_,es,?_⟩
 repeat (walk_at "rd")
 refine⟨.inl (by decide),dI hd d3 (by omega) (by omega) λAb H3 a0 a1 d4 k4=>⟨_,rfl,by decide,λR hR3=>?_⟩⟩
 have hR:H R=none:=d4.free hd hR3
 have hRh:R≠h:=hd.ne hR
 refine dI hd (d4.new hR3) (by omega) (by omega) λnn H4 n0 n1 d5 k5=>?_
 have hR4:H4 R=some (.lst []):=(k5 R hRh).trans ah
 obtain⟨m,rfl⟩:∃m:Nat,nn=(m:Int):=⟨nn.toNat,by omega⟩
 refine⟨_,rfl,by omega,by omega,?_⟩
 obtain⟨Pv,dF⟩:∃Pv:Nat->St->Hp->Prop,∀i σ' H',Pv i σ' H'↔∃(v:Int) (y:Option V) (ms:List Int),σ'=[some (.ref h),some (.int (n:Int)),some (.int z),some (.int st),some (.int v),some (.ref R),y]/\Dr h H H'/\H' R=some (.lst (List.map V.int ms))/\ms.length=i/\fS ms/\∀m∈ms,m<v:=⟨_,λ_ _ _=>dJ⟩
 refine qw Pv ((dF _ _ _).mpr ⟨_,none,[],rfl,d5,hR4,rfl,List.Pairwise.nil,λk hk=>by cases hk⟩) (λi σ' H4 hi pv=>?_) (λσ' H4 pv=>?_)
 ·obtain⟨v,y,ms,rfl,d5,hR5,lm,rise,below⟩:=(dF _ _ _).mp pv
  rw[uJ]at hi
  repeat (first | walk_at "rd" | simp only[hR5])
  refine⟨.inl ⟨rfl,_,bu hR5⟩,bU (by omega),?_⟩
  simp only[Tf,WM]
  repeat (walk_at "rd")
  refine dI hd (d5.put hR) (by omega) (by omega) λr H6 r0 r1 d6 k6=>?_
  refine⟨_,rfl,(dF _ _ _).mpr ⟨_,_,ms++[v],rfl,d6,by rw[k6 R hRh,ah,eU];rfl,by rw[cS];simp;omega,?_,λm hm=>?_⟩⟩
  ·unfold fS
   rw[gN]
   exact⟨rise,by simp,λa ha b hb=>by rw[show b=v by simpa using hb];exact below a ha⟩
  ·rcases cv.mp hm with u | u
   ·have:=below m u;omega
   ·have:m=v:=by simpa using u
    omega
 ·obtain⟨v,y,ms,rfl,d5,hR5,lm,rise,below⟩:=(dF _ _ _).mp pv
  rw[uJ]at lm
  repeat (first | walk_at "rd" | simp only[hR5])
  exact λp hp=>q p ms _ (d5.new hp) (d5.free hd hp) ah (by omega) rise
end
def XR:Sp:=λvs H Q _=>∃h W,vs=[.ref h,.ref W]/\fW H h/\∃x:List Int,H W=some (.tup (List.map V.int x))/\x.length<=100/\∀R y H',Dr h H H'->H R=none->H' R=some (.tup (List.map V.int y))->y.Sublist x->Q (.ref R) H'
section
variable {P:Program}{w:World}{K:PySem.W.Frag}{mg:Str->Option Value}{base:Heap}{t:ye}
theorem J3(T:Txt K mg t):bS P w K mg base fN 4 t.nQ t.nG ["_law_hand_here","_law_whole"] XR:=by
 have bp:=vA (P:=P) (w:=w) (base:=base) T
 refine T.vd.rO Bu (λvs H Q E h=>?_) (λcP A outer s H vs Q E hr h hc hf=>?_)
 ·obtain⟨h,m,rfl,_⟩:=h;rfl
 obtain⟨h,W,rfl,hd,x,hW,lx,q⟩:=h
 have Rg:=hd.qm hW
 refine⟨_,(by exact az (aQ (de iu (cG hc) T.z_tuple lQ (ae (dR hc ["_law_one"] [0] rfl (by decide +kernel) (ic (aq hc 1)) (λ_ hc=>qZ hc (by decide +kernel) 0 (by decide +kernel)) (λ_ hc=>ku (bP uR (aD bp (hr.mono (by omega)) (cG hc) T.bK T.bG.kp T.bL .nil bh (ae (aq hc 1) (ae ao ai))) ao (dg _))) (λ_ hc=>(aq hc 0))) ai)))),?_⟩
 repeat (walk_at "rd")
 refine⟨⟨_,ck hW⟩,?_⟩
 obtain⟨Pc,jw⟩:∃Pc:Addr->Nat->List V->Hp->Prop,∀Z i ys H',Pc Z i ys H'↔∃y:List Int,ys=List.map V.int y/\Dr h H H'/\H' Z=some (.lst ys)/\y.Sublist (x.take i):=⟨_,λ_ _ _ _=>dJ⟩
 refine jS (zs:=List.map V.int x) Pc (λZ hZ=>(jw _ _ _ _).mpr ⟨[],rfl,Dr.refl.new hZ,ah,List.nil_sublist _⟩) (λZ hZ i ys H' _ pv=>?_) (λZ hZ i z ys H' hz pv cb=>?_) (λZ hZ ys H' pv=>?_)
 ·obtain⟨_,_,d,_⟩:=(jw _ _ _ _).mp pv
  exact d.keep _ _ Rg hW
 ·obtain⟨y,rfl,d1,qu,sl⟩:=(jw _ _ _ _).mp pv
  obtain⟨m,em,rfl⟩:=int_at hz
  have Xb:Z≠h:=hd.ne hZ
  have ly:=sl.length_le
  rw[gL]at ly
  walk_at "rc"
  repeat (walk_at "rd")
  refine dI hd d1 (by decide) (by decide) λr H2 r0 r1 d2 k2=>?_
  have ZF:H2 Z=_:=(k2 Z Xb).trans qu
  have tk:x.take (i+1)=x.take i++[m]:=by rw[jE,em];rfl
  by_cases e:r=1
  ·subst e
   refine⟨rfl,?_⟩
   rw[aB rfl]
   refine⟨ZF,bU (by omega),(jw _ _ _ _).mpr ⟨y++[m],by rw[eU];rfl,d2.put hZ,ah,?_⟩⟩
   rw[tk];exact sl.append (Aw _)
  ·refine⟨rfl,?_⟩
   rw[aC (by simpa using e)]
   refine(jw _ _ _ _).mpr ⟨y,rfl,d2,ZF,?_⟩
   rw[tk];exact sl.trans (List.sublist_append_left _ _)
 ·obtain⟨y,rfl,d1,qu,sl⟩:=(jw _ _ _ _).mp pv
  rw[aY,iV]at sl
  repeat (first | walk_at "rd" | simp only[qu])
  exact λp hp=>q p y _ (d1.new hp) (d1.free hd hp) ah sl
end
local macro_rules | `(tactic| walk_at "rd") => `(tactic| walk_at "rc")
local macro_rules | `(tactic| walk_at "rl") => `(tactic| first | (refine e9 fun R hR => ?_) | walk_at "ry" | (refine Nx.to (by assumption) _ _ ?_))
def zU(ks:List Int)(g:Int->V):List (Key×V):=ks.map λz=>(Sum.inl z,g z)
theorem Cw(ks:List Int)(g:Int->V)(m:Int):fO (zU ks g) (Sum.inl m)=if m∈ks then some (g m) else none:=by
 induction ks with
 | nil=>rfl
 | cons k ks ih=>
  by_cases e:k=m
  ·subst e
   rw[aB du]
   exact eK (p:=((Sum.inl k:Key),g k)) rfl
  ·have e2:fO (zU (k::ks) g) (Sum.inl m)=fO (zU ks g) (Sum.inl m):=eL (p:=((Sum.inl k:Key),g k)) (λz=>e (sW z))
   rw[e2,ih]
   by_cases hm:m∈ks
   ·rw[aB hm,aB (dN _ hm)]
   ·rw[aC hm,aC (λz=>(bT.mp z).elim (λz=>e z.symm) hm)]
theorem aAj{ks:List Int}{g g':Int->V}(h:∀z∈ks,g z=g' z):zU ks g=zU ks g':=qU λz hz=>by rw[h z hz]
theorem V0{ks:List Int}(g:Int->V){m:Int}(v:V)(h:m∈ks):putK (zU ks g) (Sum.inl m) v=zU ks (λz=>if z=m then v else g z):=by
 unfold putK
 rw[aB (by rw[kx,Cw,aB h];rfl)]
 unfold zU
 rw[gJ]
 refine qU λz _=>?_
 by_cases e:z=m
 ·simp[e]
 ·simp[e]
theorem V1{ks:List Int}(g:Int->V){m:Int}(v:V)(h:m∉ks):putK (zU ks g) (Sum.inl m) v=zU (ks++[m]) (λz=>if z=m then v else g z):=by
 rw[P5 v (by rw[Cw,aC h])]
 unfold zU
 rw[eU]
 refine congr (fJ _ (qU λz hz=>?_)) ?_
 ·dsimp only
  rw[aC (show ¬z=m from λe=>h (by rw[<-e];exact hz))]
 ·simp
theorem aBL(ks:List Int)(g:Int->V):(zU ks g).map (λkv=>kV kv.1)=ks.map V.int:=by
 unfold zU
 rw[gJ]
 rfl
theorem Kt(ks:List Int)(g:Int->V):(zU ks g).length=ks.length:=aY _
theorem Kb{H:Hp}{vs:List V}{ds:List Int}(r:nW (λ(_:Hp) (v:V) (d:Int)=>v=V.int d) H vs ds):vs=List.map V.int ds:=by
 apply List.ext_getElem (by rw[aY];exact r.1)
 intro i h1 h2
 rw[aY]at h2
 rw[List.getElem_map]
 exact r.2 i _ _ (bJ h1) (bJ h2)
theorem RQ(xs:List V)(lo hi:Option Int):(iO xs lo hi).length<=xs.length:=by
 unfold iO
 rw[gL,qR]
 omega
inductive Md where
 | wt (g:Int->Int) (most:Int) | WN (ss:List (List Int)) | out (ss:List (List Int))
def mK(H:Hp)(p:Addr)(W:List Int):Md->Prop
 | .wt g most=>∃d ks,H p=some (.tup [.int 2,.ref d,.int most])/\H d=some (.dK (zU ks λz=>.int (g z)))/\(∀m∈W,m∈ks)/\∀z,0<=g z
 | .WN ss=>∃l bs,H p=some (.tup [.int 0,.ref l,.int 0])/\H l=some (.lst (List.map V.ref bs))/\aE H bs ss/\ss.length<=900/\∀s∈ss,s.length<=100
 | .out ss=>∃l bs,H p=some (.tup [.int 1,.ref l,.int 0])/\H l=some (.lst (List.map V.ref bs))/\aE H bs ss/\ss.length<=900/\∀s∈ss,s.length<=100
theorem mK.same{H H':Hp}{p:Addr}{W:List Int}{md:Md}(s:bN H H')(m:mK H p W md):mK H' p W md:=by
 cases md with
 | wt g most=>obtain⟨d,ks,h1,h2,h3⟩:=m;exact⟨d,ks,s _ _ h1,s _ _ h2,h3⟩
 | WN ss=>obtain⟨l,bs,h1,h2,h3,h4⟩:=m;exact⟨l,bs,s _ _ h1,s _ _ h2,h3.mono λ_ _ e=>s _ _ e,h4⟩
 | out ss=>obtain⟨l,bs,h1,h2,h3,h4⟩:=m;exact⟨l,bs,s _ _ h1,s _ _ h2,h3.mono λ_ _ e=>s _ _ e,h4⟩
def Md.tells:Md->List Int->Bool
 | .wt g most,S=>decide ((S.map g).sum<=most)
 | .WN ss,S=>ss.any λs=>aH S s
 | .out ss,S=>!(ss.any λs=>aH s S)
def Ts:Sp:=λvs H Q _=>∃h W,vs=[.ref h,.ref W]/\fW H h/\∃x:List Int,H W=some (.tup (List.map V.int x))/\x.length<=12/\x.Nodup/\∀R md H',Dr h H H'->H R=none->mK H' R x md->Q (.ref R) H'
section
variable {P:Program}{w:World}{K:PySem.W.Frag}{mg:Str->Option Value}{base:Heap}{t:ye}
theorem Qu(T:Txt K mg t):bS P w K mg base fN 5 t.lV t.lO ["_law_hand_here","_law_whole"] Ts:=by
 have bp:=vA (P:=P) (w:=w) (base:=base) T
 have va:=J3 (P:=P) (w:=w) (base:=base) T
 refine T.sQ.rO cB (λvs H Q E h=>?_) (λcP A outer s H vs Q E hr h hc hf=>?_)
 ·obtain⟨h,m,rfl,_⟩:=h;rfl
 obtain⟨h,W,rfl,hd,x,hW,lx,nd,q⟩:=h
 have hu:=nE hr
 have Sl:=hr.iD
 have Rg:=hd.qm hW
 refine⟨_,(by apply au;exact(aR hc cB.nd hf 2 (by decide +kernel) (aD bp (hr.mono (by omega)) (cG hc) T.bK T.bG.kp T.bL .nil bh (ae (aq hc 0) (ae ao ai))));apply au;exact(cg (bP uR (aq hc 2) ao (dg _)) (by apply au;exact(aR hc cB.nd hf 3 (by decide +kernel) K9);apply au;exact(aR hc cB.nd hf 4 (by decide +kernel) (mV uR (aD bp (hr.mono (by omega)) (cG hc) T.bK T.bG.kp T.bL .nil bh (ae (aq hc 0) (ae ao ai))) ao (dg _)));apply au;exact(er iH rfl (ic (aq hc 1)) (pN hc cB.nd hf 5 (by decide +kernel)) (by apply au;exact(qY hu (aq hc 3) (aq hc 5) ao rfl);exact az (cg (dG (bM (aq hc 4))) (by exact az (qY hu (aq hc 3) (aq hc 5) (aD bp (hr.mono (by omega)) (cG hc) T.bK T.bG.kp T.bL .nil bh (ae (aq hc 0) (ae ao ai))) rfl)) bA)));exact az (aQ (iN (ae ao (ae (aq hc 3) (ae (bq Hw (aD bp (hr.mono (by omega)) (cG hc) T.bK T.bG.kp T.bL .nil bh (ae (aq hc 0) (ae (bq gX (bq qi ao (bt iT (cG hc) T.z_len sG (ae (aq hc 1) ai))) ao) ai))) ao) ai)))))) bA);apply au;exact(aR hc cB.nd hf 6 (by decide +kernel) (bC jv (fT (ae ao (ae ao (ae ao (ae ao ai))))) (aD bp (hr.mono (by omega)) (cG hc) T.bK T.bG.kp T.bL .nil bh (ae (aq hc 0) (ae ao ai))) (λ_ _=>rfl)));apply au;exact(tL hc cB.nd 7 (by decide +kernel) ["_law_k"] [0,1] rfl (by decide +kernel) (ja (cG hc) T.z_range (ae (aD bp (hr.mono (by omega)) (cG hc) T.bK T.bG.kp T.bL .nil bh (ae (aq hc 0) (ae (aq hc 6) ai))) ai)) (λ_ hc=>qZ hc (by decide +kernel) 0 (by decide +kernel)) (λ_ _=>fz) (λ_ hc=>(aD va (hr.mono (by omega)) (cG hc) T.En T.vd.kp T.FP .nil bh (ae (aq hc 1) (ae (aq hc 2) ai)))) (by rfl));apply mS;exact(cg (mX (vt (bP Qq (bt iT (cG hc) T.z_len sG (ae (aq hc 1) ai)) ao (dg _)) (qW (bP uR (aD bp (hr.mono (by omega)) (cG hc) T.bK T.bG.kp T.bL .nil bh (ae (aq hc 0) (ae ao ai))) ao (dg _))))) (by apply au;exact(aR hc cB.nd hf 8 (by decide +kernel) (aD bp (hr.mono (by omega)) (cG hc) T.bK T.bG.kp T.bL .nil bh (ae (aq hc 0) (ae (bt iT (cG hc) T.z_len sG (ae (aq hc 1) ai)) ai))));exact az (aR hc cB.nd hf 7 (by decide +kernel) (bq Hx (aq hc 7) (n6 aAC (fT (ae (de iu (cG hc) T.z_tuple lQ (ae (dR hc ["_law_one"] [1,8] rfl (by decide +kernel) (ic (aq hc 1)) (λ_ hc=>qZ hc (by decide +kernel) 0 (by decide +kernel)) (λ_ hc=>ku (bP Wx (aq hc 0) (bC oH (aq hc 1) (aq hc 2) (λ_ _=>rfl)) (dg _))) (λ_ hc=>(aq hc 0))) ai)) (ae (n6 aAB (aq hc 1) (mU (aq hc 8)) (mU (bq gX (aq hc 8) ao))) ai))) wd (mU (bq gX ao (aD bp (hr.mono (by omega)) (cG hc) T.bK T.bG.kp T.bL .nil bh (ae (aq hc 0) (ae ao ai))))))))) bA);exact az (aQ (iN (ae (aq hc 2) (ae (aq hc 7) (ae ao ai)))))),?_⟩
 walk_at "r"
 refine dI hd .refl (by decide) (by decide) λway H1 w0 w1 d1 k1=>?_
 have hW1:=d1.keep _ _ Rg hW
 walk_at "r"
 by_cases e2:way=2
 ·subst e2
  walk_at "r"
  intro D hD
  have VB:H D=none:=d1.free hd hD
  have hDh:D≠h:=hd.ne VB
  have d2:Dr h H (upd H1 D (.dK [])):=d1.new hD
  have Kk:upd H1 D (.dK []) D=some (.dK []):=ah
  generalize upd H1 D (.dK [])=H2 at d2 Kk ⊢
  walk_at "r"
  refine dI hd d2 (by decide) (by decide) λal H3 a0 a1 d3 k3=>?_
  have Iz:=(k3 D hDh).trans Kk
  walk_at "r"
  have hW3:=d3.keep _ _ Rg hW
  generalize decide (al=1)=ab
  refine⟨⟨_,ck hW3⟩,?_⟩
  obtain⟨Pv,dF⟩:∃Pv:Nat->St->Hp->Prop,∀i σ' H',Pv i σ' H'↔∃(y:Option V) (g:Int->Int),σ'=[some (.ref h),some (.ref W),some (.int 2),some (.ref D),some (.bl ab),y,none,none,none]/\Dr h H H'/\H' D=some (.dK (zU (x.take i) λz=>.int (g z)))/\∀z,0<=g z:=⟨_,λ_ _ _=>dJ⟩
  refine lK (xs:=List.map V.int x) Pv ((dF _ _ _).mpr ⟨none,λ_=>0,rfl,d3,Iz,λ_=>fX _⟩) (λi σ' H' _ pv=>?_) (λi z σ' H4 hz pv=>?_) (λσ' H4 pv=>?_)
  ·obtain⟨_,_,_,d,_⟩:=(dF _ _ _).mp pv
   exact d.keep _ _ Rg hW
  ·obtain⟨y,g,rfl,d4,Df,g0⟩:=(dF _ _ _).mp pv
   obtain⟨m,em,rfl⟩:=int_at hz
   have hi:i<x.length:=(dc.mp em).1
   have tk:x.take (i+1)=x.take i++[m]:=by rw[jE,em];rfl
   have nm:m∉x.take i:=λhm=>by
    obtain⟨j,hj,e⟩:=List.mem_take_iff_getElem.mp hm
    have:=(vW nd).mp (e.trans (dc.mp em).2.symm)
    omega
   repeat (first | walk_at "rl" | simp only[wJ])
   refine⟨_,x9.k (k:=Sum.inl m) Df (bU (by rw[Kt,gL];omega)),?_⟩
   rw[V1 _ _ nm,<-tk]
   have d5:Dr h H (upd H4 D (.dK (zU (x.take (i+1)) λz=>if z=m then V.int 1 else .int (g z)))):=d4.put VB
   have eg:(λz=>if z=m then V.int 1 else .int (g z))=λz=>V.int (if z=m then 1 else g z):=funext λz=>by split <;> rfl
   have Vx:upd H4 D (.dK (zU (x.take (i+1)) λz=>if z=m then V.int 1 else .int (g z))) D=some (.dK (zU (x.take (i+1)) λz=>.int (if z=m then 1 else g z))):=by rw[ah,eg]
   generalize upd H4 D (.dK (zU (x.take (i+1)) λz=>if z=m then V.int 1 else .int (g z)))=H5 at d5 Vx ⊢
   walk_at "r"
   cases ab with
   | true=>
    rw[aC (by decide)]
    exact(dF _ _ _).mpr ⟨_,_,rfl,d5,Vx,λz=>by split <;> first | decide | exact g0 z⟩
   | false=>
    rw[aB (by decide)]
    simp only[wJ]
    walk_at "r"
    refine dI hd d5 (by decide) (by decide) λv H6 v0 v1 d6 k6=>?_
    have Sz:=(k6 D hDh).trans Vx
    refine⟨_,x9.k (k:=Sum.inl m) Sz (bU (by rw[Kt,gL];omega)),?_⟩
    rw[V0 _ _ (by rw[tk];simp)]
    have eg2:(λz=>if z=m then V.int v else .int (if z=m then 1 else g z))=λz=>V.int (if z=m then v else if z=m then 1 else g z):=funext λz=>by split <;> rfl
    exact(dF _ _ _).mpr ⟨_,_,rfl,d6.put VB,by rw[ah,eg2],λz=>by by_cases e:z=m <;> simp only[e,gu,fF] <;> first | exact v0 | exact g0 z⟩
  obtain⟨y,g,rfl,d4,Df,g0⟩:=(dF _ _ _).mp pv
  rw[aY,iV]at Df
  have hW4:=d4.keep _ _ Rg hW
  repeat (first | walk_at "rl" | simp only[hW4])
  refine dI hd d4 (by omega) (by omega) λv H5 v0 v1 d5 k5=>⟨_,rfl,by decide,λp hp=>?_⟩
  have Vx:=(k5 D hDh).trans Df
  exact q p (.wt g (v-1)) _ (d5.new hp) (d5.free hd hp) ⟨D,x,ah,by rw[av (aj Vx hp)];exact Vx,λm hm=>hm,g0⟩
 ·rw[aC (by simpa using e2)]
  walk_at "r"
  refine⟨by decide,λp hp=>?_⟩
  have d2:Dr h H (upd H1 p (.lst [V.int 6,V.int 6,V.int 6,V.int 21])):=d1.new hp
  have Zm:p≠h:=(d1.gY hd).ne hp
  refine dI hd d2 (by decide) (by decide) λr H2 r0 r1 d3 k3=>?_
  obtain⟨z,ez,hz⟩:=VH (a:=6) (b:=6) (c:=6) (d:=21) r0 r1
  refine⟨_,rfl,_,by rw[k3 p Zm];exact ah,_,ez,?_⟩
  have WR:6<=z/\z<=21:=by omega
  clear d2 k3 hz ez
  walk_at "r"
  refine dI hd d3 (by omega) (by omega) λnn H4 n0 n1 d4 k4=>?_
  obtain⟨n,rfl⟩:∃n:Nat,nn=(n:Int):=⟨nn.toNat,by omega⟩
  walk_at "r"
  refine⟨by omega,by omega,?_⟩
  obtain⟨Pc,jw⟩:∃Pc:Addr->Nat->List V->Hp->Prop,∀Z i ys H',Pc Z i ys H'↔∃bs ss,ys=List.map V.ref bs/\Dr h H H'/\H' Z=some (.lst ys)/\aE H' bs ss/\ss.length=i/\∀s∈ss,s.length<=100:=⟨_,λ_ _ _ _=>dJ⟩
  refine uZ Pc (λZ hZ=>(jw _ _ _ _).mpr ⟨[],[],rfl,d4.new hZ,ah,⟨rfl,λ_ _ _ z=>by cases z⟩,rfl,λ_ z=>(nomatch z)⟩) (λZ hZ i ys H' hi pv cb=>?_) (λZ hZ ys H' pv=>?_)
  ·obtain⟨bs,ss,rfl,d5,hZ5,sb,ls,Es⟩:=(jw _ _ _ _).mp pv
   have hZ0:=d4.free hd hZ
   have Xb:Z≠h:=hd.ne hZ0
   walk_at "rc"
   walk_at "r"
   refine⟨h,W,rfl,d5.gY hd,x,d5.keep _ _ Rg hW,by omega,λR y H6 d6 hR hR6 sl=>?_⟩
   have hd5:=d5.gY hd
   have hZ6:=d6.keep _ _ Xb hZ5
   have sb6:=Dr.sets hd5 d6 sb
   have lb:=sb.1
   rw[uJ]at hi
   refine⟨hZ6,bU (by omega),(jw _ _ _ _).mpr ⟨bs++[R],ss++[y],by rw[eU];rfl,(d5.trans d6).put hZ0,ah,?_,by rw[cS,ls];rfl,λs hs=>?_⟩⟩
   ·have s1:aE H6 [R] [y]:=⟨rfl,λj c u h1 h2=>by
     match j,h1,h2 with
     | 0,h1,h2=>cases h1;cases h2;exact hR6
     | _+1,h1,_=>cases h1⟩
    exact(sb6.app s1).mono λc xs e=>by rw[av (bj e hZ6 (by intro z;cases z))];exact e
   ·rcases cv.mp hs with z | z
    ·exact Es s z
    ·rw[cE.mp z];have:=sl.length_le;omega
  obtain⟨bs,ss,rfl,d5,hZ5,sb,ls,Es⟩:=(jw _ _ _ _).mp pv
  rw[uJ]at ls
  have hZ0:=d4.free hd hZ
  clear jw pv Pc d4 k4
  have hW5:=d5.keep _ _ Rg hW
  repeat (first | walk_at "rl" | simp only[hW5])
  obtain⟨Dc,Ri⟩:∃Dc:St->Hp->Prop,∀σ' H',Dc σ' H'↔∃(L:Addr) (y:Option V) (bs:List Addr) (ss:List (List Int)),σ'=[some (.ref h),some (.ref W),some (.int way),none,none,none,some (.int z),some (.ref L),y]/\Dr h H H'/\H' L=some (.lst (List.map V.ref bs))/\aE H' bs ss/\ss.length<=40/\∀s∈ss,s.length<=100:=⟨_,λ_ _=>dJ⟩
  have nx0:∀H6,Dr h H H6->H6 Z=some (.lst (List.map V.ref bs))->aE H6 bs ss->Dc [some (.ref h),some (.ref W),some (.int way),none,none,none,some (.int z),some (.ref Z),none] H6:=λH6 d6 h6 s6=>(Ri _ _).mpr ⟨Z,_,bs,ss,rfl,d6,h6,s6,by omega,Es⟩
  have fin:∀(l q2:Addr) (S1 S2:List Int) (r:Int) (L2:Addr) (y:Option V) (H2:Hp),Dr h H H2->H2 l=some (.tup (List.map V.int S1))->H2 q2=some (.tup (List.map V.int S2))->S1.length<=100->S2.length<=100->aE H2 bs ss->0<=r->r<2->
    H2 L2=some (.lst (List.map V.ref bs++iO [V.ref l,V.ref q2] none (some (1+r))))->Dc [some (.ref h),some (.ref W),some (.int way),none,none,none,some (.int z),some (.ref L2),y] H2:=λl q2 S1 S2 r L2 y H2 d2 h1 h2 l1 l2 s2 r0 r1 hL=>by
   have hr:r=0\/r=1:=by omega
   rcases hr with rfl | rfl
   ·refine(Ri _ _).mpr ⟨L2,y,bs++[l],ss++[S1],rfl,d2,by rw[hL,eU];rfl,s2.app ⟨rfl,λj c u e1 e2=>?_⟩,by rw[cS];simp;omega,λs hs=>?_⟩
    ·match j,e1,e2 with
     | 0,e1,e2=>cases e1;cases e2;exact h1
     | _+1,e1,_=>cases e1
    ·rcases cv.mp hs with k | k
     ·exact Es s k
     ·rw[cE.mp k];exact l1
   ·refine(Ri _ _).mpr ⟨L2,y,bs++[l,q2],ss++[S1,S2],rfl,d2,by rw[hL,eU];rfl,s2.app ⟨rfl,λj c u e1 e2=>?_⟩,by rw[cS];simp;omega,λs hs=>?_⟩
    ·match j,e1,e2 with
     | 0,e1,e2=>cases e1;cases e2;exact h1
     | 1,e1,e2=>cases e1;cases e2;exact h2
     | _+2,e1,_=>cases e1
    ·rcases cv.mp hs with k | k
     ·exact Es s k
     ·rcases bT.mp k with k | k
      ·rw[k];exact l1
      ·rw[cE.mp k];exact l2
  refine⟨Dc,?_,λσ' H6 hm=>?_⟩
  ·repeat (first | walk_at "rl" | simp only[hW5])
   by_cases e0:0<x.length
   ·rw[aB (by simpa using e0)]
    refine dI hd d5 (by decide) (by decide) λr6 H6 _ _ d6 k6=>?_
    have Xb:Z≠h:=hd.ne hZ0
    have hZ6:=(k6 Z Xb).trans hZ5
    have hd5:=d5.gY hd
    have kt:∀c xs,H' c=some (.tup xs)->H6 c=some (.tup xs):=λc xs e=>(k6 c (hd5.qm e)).trans e
    have sb6:=sb.mono kt
    have hW6:=kt _ _ hW5
    refine⟨rfl,?_⟩
    by_cases e6:r6=0
    ·subst e6
     rw[aB rfl]
     repeat (first | walk_at "rl" | simp only[hW6])
     refine dI hd d6 (by omega) (by omega) λat_ H7 a0 a1 d7 k7=>?_
     have hZ7:=(k7 Z Xb).trans hZ6
     have hd6:=d6.gY hd
     have kt7:∀c xs,H6 c=some (.tup xs)->H7 c=some (.tup xs):=λc xs e=>(k7 c (hd6.qm e)).trans e
     have sb7:=sb6.mono kt7
     have Rh:=kt7 _ _ hW6
     repeat (first | walk_at "rl" | simp only[Rh])
     obtain⟨a,rfl⟩:∃a:Nat,at_=(a:Int):=⟨at_.toNat,by omega⟩
     have ha:a<x.length:=by omega
     have eat:vq (List.map V.int x) (a:Int)=some (.int x[a]):=gF (by rw[cH,bJ ha];rfl)
     refine⟨⟨_,ck Rh⟩,?_⟩
     refine uk (zs:=List.map V.int x) (λk=>if (x[k]?.any λm=>decide (m≠x[a])) then x[k]? else none) (λ_ _ v d=>v=V.int d) (λ_ _ _ _ _ _ r=>r) (λ_ _ _ _ _ _ _ r=>r) Rh (by rw[aY];omega) (λDD c H8 j z yes no hj s8 ZV ZR ip Fi=>?_) (λD H8 vs s8 hD hD8 rl=>?_)
     ·obtain⟨m,em,rfl⟩:=int_at hj
      rw[em]at ip Fi
      have hW8:=s8 _ _ Rh
      walk_at "rc"
      repeat (first | walk_at "rl" | simp only[hW8,eat])
      by_cases hm:m=x[a]
      ·rw[aC (by simpa using hm)]
       exact Fi (aC (by simpa using hm)) _ λ_ _ e=>e
      ·rw[aB (by simpa using hm)]
       exact ip _ (aB (by simpa using hm)) _ _ (λ_ _ e=>e) rfl
     have ev:=Kb rl
     rw[aY,ud (l:=x) (p:=λm=>decide (m≠x[a])) λk hk=>by rw[bJ hk];rfl]at ev
     subst ev
     have lo:=uN (λm=>decide (m≠x[a])) x
     generalize (x.filter λm=>decide (m≠x[a]))=S1 at lo hD8
     have d8:=d7.on s8
     refine⟨D,rfl,_,hD8,λl hl=>?_⟩
     have s9:=aJ hl (.tup (List.map V.int S1))
     have hl9:upd H8 l (.tup (List.map V.int S1)) l=_:=ah
     have d9:Dr h H (upd H8 l (.tup (List.map V.int S1))):=d8.new hl
     generalize upd H8 l (.tup (List.map V.int S1))=H9 at s9 hl9 d9 ⊢
     have t79:=s8.trans s9
     have hW9:=t79 _ _ Rh
     have hZ9:=t79 _ _ hZ7
     have X7:aE H9 bs ss:=sb7.mono λ_ _ e=>t79 _ _ e
     refine⟨_,hW9,λ_=>⟨by decide,λp hp=>?_⟩,λ_ q2 hq2=>⟨by decide,λp hp=>?_⟩⟩
     ·have Hq:=aJ hp (.lst [V.ref l,V.ref W])
      have Z9:Dr h H (upd H9 p (.lst [V.ref l,V.ref W])):=d9.new hp
      have Q6:upd H9 p (.lst [V.ref l,V.ref W]) p=_:=ah
      have Zm:p≠h:=(d9.gY hd).ne hp
      generalize upd H9 p (.lst [V.ref l,V.ref W])=H11 at Hq Z9 Q6 ⊢
      refine dI hd Z9 (by decide) (by decide) λT2 H12 r0 r1 d12 k12=>⟨_,rfl,_,(k12 p Zm).trans Q6,λp3 NZ=>?_⟩
      have Zw:=Z9.gY hd
      have Il:∀c xs,H11 c=some (.tup xs)->H12 c=some (.tup xs):=λc xs e=>(k12 c (Zw.qm e)).trans e
      have TQ:=aJ NZ (.lst (iO [V.ref l,V.ref W] none (some (1+T2))))
      have ZJ:=(k12 Z Xb).trans (Hq _ _ hZ9)
      have lb:=sb.1
      refine⟨_,TQ _ _ ZJ,lB (by rw[aY];have:=RQ [V.ref l,V.ref W] (none:Option Int) (some (1+T2));simp at this;omega),λp4 Zn=>?_⟩
      have Dz:=TQ.trans (aJ Zn (.lst (List.map V.ref bs++iO [V.ref l,V.ref W] none (some (1+T2)))))
      exact fin l W S1 x T2 p4 _ _ ((d12.new NZ).new Zn) (Dz _ _ (Il _ _ (Hq _ _ hl9))) (Dz _ _ (Il _ _ (Hq _ _ hW9))) (by omega) (by omega) (((X7.mono λ_ _ e=>Hq _ _ e).mono Il).mono λ_ _ e=>Dz _ _ e) r0 r1 ah
     ·have LQ:=aJ hq2 (.tup (iO (List.map V.int x) (some (a:Int)) (some ((a:Int)+1))))
      have Zj:upd H9 q2 (.tup (iO (List.map V.int x) (some (a:Int)) (some ((a:Int)+1)))) q2=some (.tup (List.map V.int ((x.drop (HT.dn x.length 0 (some (a:Int)))).take (HT.dn x.length x.length (some ((a:Int)+1))-HT.dn x.length 0 (some (a:Int)))))):=by rw[ah,Fu]
      have d10:Dr h H (upd H9 q2 (.tup (iO (List.map V.int x) (some (a:Int)) (some ((a:Int)+1))))):=d9.new hq2
      have l2:((x.drop (HT.dn x.length 0 (some (a:Int)))).take (HT.dn x.length x.length (some ((a:Int)+1))-HT.dn x.length 0 (some (a:Int)))).length<=100:=by rw[gL,qR];omega
      generalize ((x.drop (HT.dn x.length 0 (some (a:Int)))).take (HT.dn x.length x.length (some ((a:Int)+1))-HT.dn x.length 0 (some (a:Int))))=S2 at Zj l2
      generalize upd H9 q2 (.tup (iO (List.map V.int x) (some (a:Int)) (some ((a:Int)+1))))=Xs at LQ Zj d10 hp ⊢
      have Hq:=aJ hp (.lst [V.ref l,V.ref q2])
      have Z9:Dr h H (upd Xs p (.lst [V.ref l,V.ref q2])):=d10.new hp
      have Q6:upd Xs p (.lst [V.ref l,V.ref q2]) p=_:=ah
      have Zm:p≠h:=(d10.gY hd).ne hp
      generalize upd Xs p (.lst [V.ref l,V.ref q2])=H11 at Hq Z9 Q6 ⊢
      have aCJ:aE Xs bs ss:=X7.mono λ_ _ e=>LQ _ _ e
      refine dI hd Z9 (by decide) (by decide) λT2 H12 r0 r1 d12 k12=>⟨_,rfl,_,(k12 p Zm).trans Q6,λp3 NZ=>?_⟩
      have Zw:=Z9.gY hd
      have Il:∀c xs,H11 c=some (.tup xs)->H12 c=some (.tup xs):=λc xs e=>(k12 c (Zw.qm e)).trans e
      have TQ:=aJ NZ (.lst (iO [V.ref l,V.ref q2] none (some (1+T2))))
      have ZJ:=(k12 Z Xb).trans (Hq _ _ (LQ _ _ hZ9))
      have lb:=sb.1
      refine⟨_,TQ _ _ ZJ,lB (by rw[aY];have:=RQ [V.ref l,V.ref q2] (none:Option Int) (some (1+T2));simp at this;omega),λp4 Zn=>?_⟩
      have Dz:=TQ.trans (aJ Zn (.lst (List.map V.ref bs++iO [V.ref l,V.ref q2] none (some (1+T2)))))
      exact fin l q2 S1 S2 T2 p4 _ _ ((d12.new NZ).new Zn) (Dz _ _ (Il _ _ (Hq _ _ (LQ _ _ hl9)))) (Dz _ _ (Il _ _ (Hq _ _ Zj))) (by omega) l2 (((aCJ.mono λ_ _ e=>Hq _ _ e).mono Il).mono λ_ _ e=>Dz _ _ e) r0 r1 ah
    ·rw[aC (by simpa using e6)]
     exact nx0 _ d6 hZ6 sb6
   ·rw[aC (by simpa using e0)]
    exact nx0 _ d5 hZ5 sb
  obtain⟨L,y,bs,ss,rfl,d6,hL6,sb6,l40,Es⟩:=(Ri _ _).mp hm
  clear fin nx0 Ri hm Dc
  walk_at "r"
  refine⟨by decide,λp hp=>?_⟩
  have s7:=aJ hp (.tup [V.int way,V.ref L,V.int 0])
  have aEc:way=0\/way=1:=by omega
  have sb7:aE (upd H6 p (.tup [V.int way,V.ref L,V.int 0])) bs ss:=sb6.mono λ_ _ e=>s7 _ _ e
  rcases aEc with rfl | rfl
  ·exact q p (.WN ss) _ (d6.new hp) (d6.free hd hp) ⟨L,bs,ah,s7 _ _ hL6,sb7,by omega,Es⟩
  ·exact q p (.out ss) _ (d6.new hp) (d6.free hd hp) ⟨L,bs,ah,s7 _ _ hL6,sb7,by omega,Es⟩
end
local macro_rules | `(tactic| walk_at "rd") => `(tactic| walk_at "rc")
local macro_rules | `(tactic| walk_at "rl") => `(tactic| first | (refine e9 fun R hR => ?_) | walk_at "ry" | (refine Nx.to (by assumption) _ _ ?_))
def Tp:Sp:=λvs H Q _=>∃m p,vs=[.ref m,.ref p]/\∃(md:Md) (W S:List Int),mK H m W md/\H p=some (.tup (List.map V.int S))/\S.length<=100/\(∀z∈S,z∈W)/\∀H',bN H H'->Q (.bl (md.tells S)) H'
section
variable {P:Program}{w:World}{K:PySem.W.Frag}{mg:Str->Option Value}{base:Heap}{t:ye}
theorem wR(T:Txt K mg t):bS P w K mg base fN 2 t.lU t.lN ["_law_model_here","_law_part"] Tp:=by
 have cA:=tZ (P:=P) (w:=w) (base:=base) T
 refine T.lX.rO yn (λvs H Q E h=>?_) (λcP A outer s H vs Q E hr h hc hf=>?_)
 ·obtain⟨m,p,rfl,_⟩:=h;rfl
 obtain⟨m,p,rfl,md,W,S,ma,hp,lS,sub,q⟩:=h
 have hu:=nE hr
 have Sl:=hr.iD
 refine⟨_,(by apply au;exact(cg (bP uR (bC oH (aq hc 0) ao (λ_ _=>rfl)) ao (dg _)) (by exact az (aQ (mV aAX (bt (Nr hr.hd) (cG hc) T.z_sum aB7 (ae (dR hc ["_law_one"] [0] rfl (by decide +kernel) (ic (aq hc 1)) (λ_ hc=>qZ hc (by decide +kernel) 0 (by decide +kernel)) (λ_ _=>fz) (λ_ hc=>(q0 hu (bC oH (aq hc 1) ao (λ_ _=>rfl)) (aq hc 0) (λ_ _=>rfl)))) ai)) (bC oH (aq hc 0) ao (λ_ _=>rfl)) (dg _)))) bA);apply au;exact(cg (bP uR (bC oH (aq hc 0) ao (λ_ _=>rfl)) ao (dg _)) (by exact az (aQ (bt (zY hr.hd) (cG hc) T.z_any Xp (ae (dR hc ["_law_one"] [1] rfl (by decide +kernel) (dQ (bC oH (aq hc 0) ao (λ_ _=>rfl))) (λ_ hc=>qZ hc (by decide +kernel) 0 (by decide +kernel)) (λ_ _=>fz) (λ_ hc=>(aD cA (hr.mono (by omega)) (cG hc) T.dX T.cZ.kp T.dY .nil bh (ae (aq hc 1) (ae (aq hc 0) ai))))) ai)))) bA);exact az (aQ (Jy (bt (zY hr.hd) (cG hc) T.z_any Xp (ae (dR hc ["_law_one"] [1] rfl (by decide +kernel) (dQ (bC oH (aq hc 0) ao (λ_ _=>rfl))) (λ_ hc=>qZ hc (by decide +kernel) 0 (by decide +kernel)) (λ_ _=>fz) (λ_ hc=>(aD cA (hr.mono (by omega)) (cG hc) T.dX T.cZ.kp T.dY .nil bh (ae (aq hc 0) (ae (aq hc 1) ai))))) ai))))),?_⟩
 cases md with
 | wt g most=>
  obtain⟨d,ks,hm,hd,hk⟩:=ma
  repeat (first | walk_at "rl" | simp only[hm])
  refine⟨⟨_,ck hp⟩,?_⟩
  refine uk (zs:=List.map V.int S) (λj=>S[j]?.map g) (λ_ _ v d=>v=V.int d) (λ_ _ _ _ _ _ r=>r) (λ_ _ _ _ _ _ _ r=>r) hp (by rw[aY];omega) (λDD c H4 j z yes no hj s4 ZV ZR ip Fi=>?_) (λD H4 vs s4 hD Df rl=>?_)
  ·obtain⟨n,en,rfl⟩:=int_at hj
   rw[en]at ip
   have hm4:=s4 _ _ hm
   walk_at "rc"
   repeat (first | walk_at "rl" | simp only[hm4,yZ])
   refine⟨.int (g n),?_,ip _ rfl _ _ (λ_ _ e=>e) rfl⟩
   have:=sU.k (k:=Sum.inl n) (s4 _ _ hd)
   rw[Cw,aB (hk.1 n (sub n (oV en)))]at this
   exact this
  have ev:=Kb rl
  rw[aY,xG (l:=S) (g:=g) λk hk=>by rw[bJ hk];rfl]at ev
  subst ev
  have hm4:=s4 _ _ hm
  repeat (first | walk_at "rl" | simp only[hm4])
  exact⟨_,Df,q _ s4⟩
 | WN ss=>
  obtain⟨l,bs,hm,hl,sb,l9,ls⟩:=ma
  repeat (first | walk_at "rl" | simp only[hm])
  refine⟨⟨_,bu hl⟩,?_⟩
  refine jo (zs:=List.map V.ref bs) (λj=>ss[j]?.map λs=>V.bl (aH S s)) (λ_=>Wk) (λ_ _ _ _ _ _ r=>r) (λ_ _ _ _ _ _ _ r=>r) hl (by rw[aY,sb.1];omega) (λDD c H4 j z yes no hj s4 ZV ZR ip Fi=>?_) (λD H4 vs s4 hD Df rl=>?_)
  ·obtain⟨b,eb,rfl⟩:=gy hj
   have Vl:j<bs.length:=(dc.mp eb).1
   have es:ss[j]?=some (ss[j]'(by have:=sb.1;omega)):=bJ _
   have hb4:=s4 _ _ (sb.2 j b _ eb es)
   rw[es]at ip
   walk_at "rc"
   walk_at "r"
   exact⟨p,b,rfl,S,_,s4 _ _ hp,hb4,by omega,λH5 s5=>ip _ rfl _ _ s5 rfl⟩
  have ev:=Bk rl
  rw[aY,sb.1,xG (l:=ss) (g:=λs=>V.bl (aH S s)) λk hk=>by rw[bJ hk];rfl]at ev
  subst ev
  refine⟨D,rfl,ss.map λs=>aH S s,by rw[Df,gJ];rfl,?_⟩
  rw[Ae]
  exact q _ s4
 | out ss=>
  obtain⟨l,bs,hm,hl,sb,l9,ls⟩:=ma
  repeat (first | walk_at "rl" | simp only[hm])
  refine⟨⟨_,bu hl⟩,?_⟩
  refine jo (zs:=List.map V.ref bs) (λj=>ss[j]?.map λs=>V.bl (aH s S)) (λ_=>Wk) (λ_ _ _ _ _ _ r=>r) (λ_ _ _ _ _ _ _ r=>r) hl (by rw[aY,sb.1];omega) (λDD c H4 j z yes no hj s4 ZV ZR ip Fi=>?_) (λD H4 vs s4 hD Df rl=>?_)
  ·obtain⟨b,eb,rfl⟩:=gy hj
   have Vl:j<bs.length:=(dc.mp eb).1
   have es:ss[j]?=some (ss[j]'(by have:=sb.1;omega)):=bJ _
   have hb4:=s4 _ _ (sb.2 j b _ eb es)
   rw[es]at ip
   walk_at "rc"
   walk_at "r"
   exact⟨b,p,rfl,_,S,hb4,s4 _ _ hp,by have:=ls _ (oV es);omega,λH5 s5=>ip _ rfl _ _ s5 rfl⟩
  have ev:=Bk rl
  rw[aY,sb.1,xG (l:=ss) (g:=λs=>V.bl (aH s S)) λk hk=>by rw[bJ hk];rfl]at ev
  subst ev
  refine⟨D,rfl,ss.map λs=>aH s S,by rw[Df,gJ];rfl,?_⟩
  rw[Ae]
  exact q _ s4
end
local macro_rules | `(tactic| walk_at "rd") => `(tactic| walk_at "rc")
local macro_rules | `(tactic| walk_at "rl") => `(tactic| first | (refine e9 fun R hR => ?_) | walk_at "ry" | (refine Nx.to (by assumption) _ _ ?_))
def N6(Z:Addr->Prop)(H H':Hp):Prop:=∀b o,¬Z b->H b=some o->H' b=some o
theorem N6.trans{Z:Addr->Prop}{H H1 H2:Hp}(a:N6 Z H H1)(b:N6 Z H1 H2):N6 Z H H2:=λc o hc e=>b c o hc (a c o hc e)
theorem N6.of{Z:Addr->Prop}{H H':Hp}(s:bN H H'):N6 Z H H':=λb o _ e=>s b o e
structure Se(P:Program)(w:World)(K:PySem.W.Frag)(mg:Str->Option Value)(base:Heap)(k:Nat)(f:Addr){ι:Type}(Z:Addr->Prop)(D:ι->Hp->Prop)(nx:ι->List Int->ι)(lim:ι->Prop)(dom:List Int->Prop)(tells:List Int->Bool):Prop where
 run:∃sp,pz P w K mg base k f sp/\∀i H p S Q,D i H->lim i->H p=some (.tup (List.map V.int S))->dom S->(∀H',D (nx i S) H'->N6 Z H H'->Q (.bl (tells S)) H')->sp [.ref p] H Q E0
 fn:∀i H,D i H->FnO H f
 st:∀i H H',D i H->bN H H'->D i H'
 nt:∀i H b xs,D i H->Z b->H b≠some (.tup xs)
theorem Se.tup{P:Program}{w:World}{K:PySem.W.Frag}{mg:Str->Option Value}{base:Heap}{k:Nat}{f:Addr}{ι:Type}{Z:Addr->Prop}{D:ι->Hp->Prop}{nx:ι->List Int->ι}{lim:ι->Prop}{dom:List Int->Prop}{tells:List Int->Bool}(a:Se P w K mg base k f Z D nx lim dom tells){i:ι}{H H':Hp}(d:D i H)(kp:N6 Z H H'){b:Addr}{xs:List V}(e:H b=some (.tup xs)):H' b=some (.tup xs):=
 kp b _ (λz=>a.nt i H b xs d z e) e
def fi(W c:List Int)(m:Int):List Int:=W.filter λz=>decide (z∈c\/z=m)
def gB(tells:List Int->Bool)(W ms c:List Int):List Int:=ms.foldl (λc m=>if tells (fi W c m)=true then fi W c m else c) c
theorem kF(W c:List Int)(m:Int):(fi W c m).Sublist W:=Gq
theorem zR(tells:List Int->Bool)(W:List Int):∀(ms c:List Int),c.Sublist W->(gB tells W ms c).Sublist W
 | [],c,h=>h
 | m::ms,c,h=>by
  unfold gB
  rw[jD]
  refine zR tells W ms _ ?_
  by_cases e:tells (fi W c m)=true
  ·rw[aB e];exact kF W c m
  ·rw[aC e];exact h
theorem QG{W c:List Int}{m:Int}(hW:fS W)(h:c.Sublist W)(hm:m∈c):fi W c m=c:=by
 refine rG (hW.sublist (kF W c m)) (hW.sublist h) λz=>?_
 unfold fi
 rw[gq,gM]
 exact⟨λ⟨_,a⟩=>a.elim id λe=>e ▸ hm,λa=>⟨h.subset a,.inl a⟩⟩
theorem lJ{tells:List Int->Bool}{W S:List Int}(hW:fS W):∀(ms c:List Int),c.Sublist W->(∀z∈S,z∈c)->gB tells W (dv ms S) c=gB tells W ms c
 | [],c,_,_=>rfl
 | m::ms,c,h,hS=>by
  unfold dv
  rw[tD]
  have sub:∀z∈S,z∈fi W c m:=λz hz=>gq.mpr ⟨h.subset (hS z hz),decide_eq_true (.inl (hS z hz))⟩
  by_cases e:m∈S
  ·rw[aC (by simpa using e)]
   have:=lJ (tells:=tells) (S:=S) hW ms c h hS
   unfold dv at this
   rw[this]
   show gB tells W ms c=gB tells W ms (if tells (fi W c m)=true then fi W c m else c)
   rw[QG hW h (hS m e)]
   simp
  ·rw[aB (by simpa using e)]
   show gB tells W (dv ms S) (if tells (fi W c m)=true then fi W c m else c)=gB tells W ms (if tells (fi W c m)=true then fi W c m else c)
   by_cases e2:tells (fi W c m)=true
   ·rw[aB e2];exact lJ hW ms _ (kF W c m) sub
   ·rw[aC e2];exact lJ hW ms c h hS
def jQ{ι:Type}(tells:List Int->Bool)(nx:ι->List Int->ι)(W ms:List Int)(c:List Int×ι):List Int×ι:=ms.foldl (λc m=>(if tells (fi W c.1 m)=true then fi W c.1 m else c.1,nx c.2 (fi W c.1 m))) c
theorem zQ{ι:Type}(tells:List Int->Bool)(nx:ι->List Int->ι)(W:List Int):∀(ms:List Int) (c:List Int×ι),(jQ tells nx W ms c).1=gB tells W ms c.1
 | [],c=>rfl
 | m::ms,c=>by
  unfold jQ gB
  rw[jD,jD]
  exact zQ tells nx W ms _
def JF(P:Program)(w:World)(K:PySem.W.Frag)(mg:Str->Option Value)(base:Heap)(cN:Addr):Sp:=λvs H Q E=>∃U f p,vs=[.ref U,.ref f,.ref p]/\∃(ι:Type) (Z:Addr->Prop) (D:ι->Hp->Prop) (nx:ι->List Int->ι) (dom:List Int->Prop) (tells:List Int->Bool) (n:ι) (W S:List Int),
 Se P w K mg base 12 f Z D nx (λ_=>True) dom tells/\D n H/\H U=some (.tup (List.map V.int W))/\H p=some (.tup (List.map V.int S))/\fS W/\S.Sublist W/\W.length<=60/\(∀T,T.Sublist W->dom T)/\tells S=true/\
 ∀r H',D (jQ tells nx W (dv W S) (S,nx n S)).2 H'->N6 Z H H'->H' r=some (.tup (List.map V.int (gB tells W W S)))->Q (.ref r) H'
section
variable {P:Program}{w:World}{K:PySem.W.Frag}{mg:Str->Option Value}{base:Heap}{t:ye}
theorem HB(T:Txt K mg t):bS P w K mg base fN 1 t.bB t.fV cL (Bp t.bf "part"):=by
 refine T.qJ.rO oF (λvs H Q E h=>?_) (λcP A outer s H vs Q E hr h hc hf=>?_)
 ·obtain⟨e,v,t,rfl,_⟩:=h;rfl
 obtain⟨e,v,t0,rfl,he,q⟩:=h
 refine⟨_,(by apply au;exact(dP (Oi T.rd_TruceError T.fc_TruceError T.sg_TruceError (cG hc) T.Ci (ae (aq hc 0) (ae SQ ai))));exact az (Oe (aq hc 0) (aq hc 1) rfl)),?_⟩
 repeat (walk_at "rd")
 refine⟨t.bf,t0,he,T.tO,λt'=>⟨t.bf,t',rfl,T.tO,T.tk_NoPeace,λdx hd yd=>?_⟩⟩
 rw[av yd]at hd
 exact q dx t' hd yd
theorem Qx(T:Txt K mg t):bS P w K mg base (Jx P w) 14 t.CT t.Cy ["whole","ask","part"] (JF P w K mg base t.bf):=by
 have NB:=UG (P:=P) (w:=w) (base:=base) T
 have Sd:=Mq (P:=P) (w:=w) (base:=base) T
 have NC:=HB (P:=P) (w:=w) (base:=base) T
 refine T.K6.okE m6 (λvs H Q E h=>?_) (λcP A outer s H vs Q E hr h hc hf L hpo=>?_)
 ·obtain⟨U,f,p,rfl,_⟩:=h;rfl
 obtain⟨U,f,p,rfl,ι,Z,D,nx,dom,tells,n,W,S,ask,hD,hU,hp,rW,sS,lW,oI,e0,q⟩:=h
 have hu:=nE hr
 have Sl:=hr.iD
 refine⟨_,(by apply au;exact(cg (dG (bM (yO (k:=12) (hr.mono (by omega)) (aq hc 1) (ae (aq hc 2) ai)))) (by exact az (GZ (EH:=λ_=>E) T.tO T.ii_NoPeace T.if_NoPeace T.kc_NoPeace NC T.qD (hr.mono (by omega)) (cG hc) T.Mz rfl L (aq hc 2))) bA);apply au;exact(aR hc m6.nd hf 3 (by decide +kernel) (aq hc 2));apply au;exact(er hpo rfl (ic (aD NB (hr.mono (by omega)) (cG hc) T.Mx T.Ad.kp T.Ny .nil bh (ae (aq hc 0) (ae (aq hc 2) ai)))) (pN hc m6.nd hf 4 (by decide +kernel)) (by apply au;exact(aR hc m6.nd hf 5 (by decide +kernel) (aD Sd (hr.mono (by omega)) (cG hc) T.QL T.Ga.kp T.R7 .nil bh (ae (bq D' (aq hc 3) (iN (ae (aq hc 4) ai))) ai)));exact az (cg (bM (yO (k:=12) (hr.mono (by omega)) (aq hc 1) (ae (aq hc 5) ai))) (by exact az (aR hc m6.nd hf 3 (by decide +kernel) (aq hc 5))) bA)));exact az (aQ (aq hc 3))),?_⟩
 walk_at "r"
 obtain⟨sp,V9,run⟩:=ask.run
 refine⟨ask.fn _ _ hD,ask.fn _ _ hD,sp,V9,run n H p S _ hD trivial hp (oI S sS) λH1 zP k1=>⟨_,rfl,?_⟩⟩
 have vk:=ask.tup hD k1 hp
 have hU1:=ask.tup hD k1 hU
 rw[e0,aC (by decide)]
 walk_at "r"
 refine⟨U,p,rfl,W,S,hU1,vk,by omega,λR H2 s2 hR Vu=>?_⟩
 walk_at "r"
 refine⟨⟨_,ck Vu⟩,?_⟩
 have lr:(dv W S).length<=W.length:=uN _ _
 have Kk:=ask.st _ _ _ zP s2
 have k2:=k1.trans (N6.of s2)
 obtain⟨Pv,dF⟩:∃Pv:Nat->St->Hp->Prop,∀i σ' H',Pv i σ' H'↔∃(c:Addr) (x y:Option V),σ'=[some (.ref U),some (.ref f),some (.ref p),some (.ref c),x,y]/\D (jQ tells nx W ((dv W S).take i) (S,nx n S)).2 H'/\N6 Z H H'/\(H' R=some (.tup (List.map V.int (dv W S))))/\H' c=some (.tup (List.map V.int (gB tells W ((dv W S).take i) S))):=⟨_,λ_ _ _=>dJ⟩
 refine lK (xs:=List.map V.int (dv W S)) Pv ((dF _ _ _).mpr ⟨p,none,none,rfl,Kk,k2,Vu,s2 _ _ vk⟩) (λi σ' H' _ pv=>?_) (λi z σ' H3 hz pv=>?_) (λσ' H3 pv=>?_)
 ·obtain⟨c,_,_,_,_,_,hR',_⟩:=(dF _ _ _).mp pv
  exact hR'
 ·obtain⟨c,x,y,rfl,Iz,k3,hR3,hc3⟩:=(dF _ _ _).mp pv
  obtain⟨m,em,rfl⟩:=int_at hz
  have hi:i<(dv W S).length:=(dc.mp em).1
  have hmW:m∈W:=(gq.mp (oV em)).1
  have step:gB tells W ((dv W S).take (i+1)) S=if tells (fi W (gB tells W ((dv W S).take i) S) m)=true then fi W (gB tells W ((dv W S).take i) S) m else gB tells W ((dv W S).take i) S:=by
   unfold gB
   rw[jE,em,Ax]
   rfl
  have stepI:(jQ tells nx W ((dv W S).take (i+1)) (S,nx n S)).2=nx (jQ tells nx W ((dv W S).take i) (S,nx n S)).2 (fi W (gB tells W ((dv W S).take i) S) m):=by
   rw[<-zQ tells nx W _ (S,nx n S)]
   unfold jQ
   rw[jE,em,Ax]
   rfl
  have sub:=zR tells W ((dv W S).take i) S sS
  generalize (jQ tells nx W ((dv W S).take i) (S,nx n S)).2=I at Iz stepI
  generalize gB tells W ((dv W S).take i) S=C at hc3 step stepI sub
  have lC:=sub.length_le
  walk_at "r"
  refine⟨by decide,λp1 vk=>?_⟩
  have s4:=aJ vk (.tup [V.int m])
  refine⟨_,s4 _ _ hc3,by rw[aY];exact bU (by omega),λp2 H5 s5 _ hp5=>?_⟩
  have s35:=s4.trans s5
  refine⟨p2,rfl,C++[m],by rw[hp5,eU];rfl,by rw[cS];simp;omega,λr ms H6 s6 _ hr6 rm mm=>?_⟩
  have s36:=s35.trans s6
  have em2:ms=fi W C m:=rG rm (rW.sublist (kF W C m)) λz=>by
   rw[mm]
   unfold fi
   rw[gq,gM,cv,cE]
   exact⟨λh=>⟨h.elim (λa=>sub.subset a) λe=>e ▸ hmW,h⟩,λh=>h.2⟩
  subst em2
  have Sz:=ask.st _ _ _ Iz s36
  have k6:=k3.trans (N6.of s36)
  walk_at "r"
  refine⟨ask.fn _ _ Sz,ask.fn _ _ Sz,sp,V9,run _ H6 r _ _ Sz trivial hr6 (oI _ (kF W C m)) λH7 hD7 k7=>⟨_,rfl,?_⟩⟩
  have hc7:=ask.tup Sz k7 (s36 _ _ hc3)
  have hr7:=ask.tup Sz k7 hr6
  have hR7:=ask.tup Sz k7 (s36 _ _ hR3)
  have k67:=k6.trans k7
  cases e5:tells (fi W C m) with
  | true=>
   rw[aB rfl]
   exact(dF _ _ _).mpr ⟨r,_,_,rfl,by rw[stepI];exact hD7,k67,hR7,by rw[step,e5,aB rfl];exact hr7⟩
  | false=>
   rw[aC (by decide)]
   exact(dF _ _ _).mpr ⟨c,_,_,rfl,by rw[stepI];exact hD7,k67,hR7,by rw[step,e5,aC (by decide)];exact hc7⟩
 obtain⟨c,x,y,rfl,Iz,k3,hR3,hc3⟩:=(dF _ _ _).mp pv
 rw[aY,iV,lJ rW W S sS λz hz=>hz]at hc3
 rw[aY,iV]at Iz
 walk_at "r"
 exact q c H3 Iz k3 hc3
end
local macro_rules | `(tactic| walk_at "rd") => `(tactic| walk_at "rc")
local macro_rules | `(tactic| walk_at "rl") => `(tactic| first | (refine e9 fun R hR => ?_) | walk_at "ry" | (refine Nx.to (by assumption) _ _ ?_))
def cov(pe:Bool)(S T:List Int):Bool:=(pe&&aH T S)||(!pe&&aH S T)
theorem Ck{S T:List Int}(h:S.map (Sum.inl:Int->Key)=T.map Sum.inl):S=T:=(vZ λ_ _ e=>sW e).mp h
def sfs(f l d u:Addr):List (Str×V):=[("ask",.ref f),("askings",.ref l),("known",.ref d),("unknown",.ref u)]
def Tq(C:Addr):Sp:=λvs H Q _=>∃x f u dx,vs=[.ref x,.ref f,.ref u]/\H x=some (.ins C dx [])/\
 ∀l d H',H l=none->H d=none->H' x=some (.ins C dx (sfs f l d u))->H' l=some (.lst [])->H' d=some (.dT [])->(∀b o,b≠x->H b=some o->H' b=some o)->Q .non H'
def Tt(C:Addr):Sp:=λvs H Q _=>∃x p pe,vs=[.ref x,.ref p,.bl pe]/\∃dx f l d u,∃(S:List Int) (qL:List (List Int)) (us:List Addr) (aL:List (List Key×V)),
 H x=some (.ins C dx (sfs f l d u))/\H p=some (.tup (List.map V.int S))/\H u=some (.lst (List.map V.ref us))/\aE H us qL/\H d=some (.dT aL)/\aL.length+qL.length<=900/\
 ∀H' u' us' Y0,H u'=none->H' x=some (.ins C dx (sfs f l d u'))->H' u'=some (.lst (List.map V.ref us'))->aE H' us' (qL.filter λT=>!cov pe S T)->H' d=some (.dT Y0)->Y0.length+(qL.filter λT=>!cov pe S T).length<=aL.length+qL.length->
  (∀T,fO Y0 (T.map Sum.inl)=if T∈qL/\cov pe S T=true then some (.bl pe) else fO aL (T.map Sum.inl))->(∀b o,b≠x->b≠d->H b=some o->H' b=some o)->Q .non H'
section
variable {P:Program}{w:World}{K:PySem.W.Frag}{mg:Str->Option Value}{base:Heap}{t:ye}
theorem Qy(T:Txt K mg t):bS P w K mg base fN 1 t.bF t.fL ["self","ask","parts"] (Tq t.aA):=by
 refine T.oR.rO m7 (λvs H Q E h=>?_) (λcP A outer s H vs Q E hr h hc hf=>?_)
 ·obtain⟨x,f,u,dx,rfl,_⟩:=h;rfl
 obtain⟨x,f,u,dx,rfl,hx,q⟩:=h
 refine⟨_,(by apply au;exact(qX (aq hc 0) (aq hc 1) rfl);apply au;exact(qX (aq hc 0) (fT ai) rfl);apply au;exact(qX (aq hc 0) yN rfl);exact az (qX (aq hc 0) (aq hc 2) rfl)),?_⟩
 repeat (walk_at "rd")
 refine⟨t.aA,dx,[],hx,T.aV,T.mn,by decide,dM _,λl hl=>?_⟩
 have Vj:l≠x:=λe=>by rw[e,ah]at hl;cases hl
 refine⟨t.aA,dx,[("ask",.ref f)],by rw[av Vj.symm,ah];rfl,T.aV,T.cO,(by show 1<1000;decide),λd hd=>?_⟩
 have Iy:d≠x:=λe=>by rw[e,ah]at hd;cases hd
 rw[av Iy]at hd
 have W7:d≠l:=λe=>by rw[e,ah]at hd;cases hd
 rw[av W7,av Iy]at hd
 rw[av Vj]at hl
 refine⟨t.aA,dx,[("ask",.ref f),("askings",.ref l)],by rw[av Iy.symm,ah];rfl,T.aV,T.cp,(by show 2<1000;decide),t.aA,dx,[("ask",.ref f),("askings",.ref l),("known",.ref d)],rfl,T.aV,T.cM,(by show 3<1000;decide),?_⟩
 refine q l d _ hl hd (by rw[ah];rfl) (by rw[av Vj,av W7.symm,av Vj,ah]) (by rw[av Iy,ah]) λb o hb e=>?_
 rw[av hb,av (aj e hd),av hb,av (aj e hl),av hb]
 exact e
theorem Qw(T:Txt K mg t):bS P w K mg base fN 2 t.bX t.g8 ["self","part","peaceful"] (Tt t.aA):=by
 have iU:=qj (P:=P) (w:=w) (base:=base) T
 refine T.uH.rO gx (λvs H Q E h=>?_) (λcP A outer s H vs Q E hr h hc hf=>?_)
 ·obtain⟨x,p,pe,rfl,_⟩:=h;rfl
 obtain⟨x,p,pe,rfl,dx,f,l,d,u,S,qL,us,aL,hx,hp,Vb,su,hd,lk,q⟩:=h
 have hu:=nE hr
 have Sl:=hr.iD
 refine⟨_,(by apply au;exact(aR hc gx.nd hf 3 (by decide +kernel) (fT ai));apply au;exact(er iH rfl (dQ (fU (aq hc 0) rfl)) (pN hc gx.nd hf 4 (by decide +kernel)) (by exact az (cg (mX (lq (mX (vt (bM (aq hc 2)) (qW (bM (aD iU (hr.mono (by omega)) (cG hc) T.oy T.kX.kp T.oC .nil bh (ae (aq hc 4) (ae (aq hc 1) ai))))))) (lj (mX (vt (dG (bM (aq hc 2))) (qW (bM (aD iU (hr.mono (by omega)) (cG hc) T.oy T.kX.kp T.oC .nil bh (ae (aq hc 1) (ae (aq hc 4) ai)))))))))) (by exact az (qY hu (fU (aq hc 0) rfl) (aq hc 4) (aq hc 2) rfl)) (by exact az (dP (pO vG vH vI gp (aq hc 3) (ae (aq hc 4) ai)))))));exact az (qX (aq hc 0) (aq hc 3) rfl)),?_⟩
 repeat (walk_at "rd")
 refine⟨dM _,λL hL=>?_⟩
 have s0:=aJ hL (.lst [])
 have Ke:=s0 _ _ hx
 have Vh:=s0 _ _ hp
 have hu1:=s0 _ _ Vb
 have Ki:=s0 _ _ hd
 have su0:aE (upd H L (.lst [])) us qL:=su.mono λb xs e=>s0 _ _ e
 have ZQ:upd H L (.lst []) L=some (.lst []):=ah
 have Iy:d≠x:=bj hd hx (by intro z;cases z)
 have hdL:d≠L:=aj hd hL
 have hxL:x≠L:=aj hx hL
 have huL:u≠L:=aj Vb hL
 have hud:u≠d:=bj Vb hd (by intro z;cases z)
 generalize upd H L (.lst [])=H0 at s0 Ke Vh hu1 Ki su0 ZQ ⊢
 refine⟨t.aA,dx,_,Ke,T.aV,T.cM,.ref u,rfl,u,rfl,⟨_,bu hu1⟩,?_⟩
 obtain⟨Pv,dF⟩:∃Pv:Nat->St->Hp->Prop,∀i σ' H',Pv i σ' H'↔∃(z:Option V) (cs:List Addr) (kv:List (List Key×V)),σ'=[some (.ref x),some (.ref p),some (.bl pe),some (.ref L),z]/\H' L=some (.lst (List.map V.ref cs))/\aE H' cs ((qL.take i).filter λT=>!cov pe S T)/\H' d=some (.dT kv)/\
  kv.length+((qL.take i).filter λT=>!cov pe S T).length<=aL.length+i/\(∀T,fO kv (T.map Sum.inl)=if T∈qL.take i/\cov pe S T=true then some (.bl pe) else fO aL (T.map Sum.inl))/\(∀b o,b≠d->b≠L->H0 b=some o->H' b=some o):=⟨_,λ_ _ _=>dJ⟩
 refine fj (xs:=List.map V.ref us) Pv ((dF _ _ _).mpr ⟨none,[],aL,rfl,ZQ,⟨rfl,λi b t e=>by simp at e⟩,Ki,by simp,λT=>by simp,λb o _ _ e=>e⟩) (λi σ' H1 _ pv=>?_) (λi z σ' H1 hz pv=>?_) (λσ' H1 pv=>?_)
 ·obtain⟨_,_,_,_,_,_,_,_,_,k⟩:=(dF _ _ _).mp pv
  exact k _ _ hud huL hu1
 ·obtain⟨y,cs,kv,rfl,Cr,sc,Rb,lkv,Va,k⟩:=(dF _ _ _).mp pv
  obtain⟨b,eb,rfl⟩:=gy hz
  have hi:i<us.length:=(dc.mp eb).1
  have qN:i<qL.length:=by have:=su0.1;omega
  have et:qL[i]?=some qL[i]:=bJ qN
  have W':=su0.2 i b _ eb et
  have tk:qL.take (i+1)=qL.take i++[qL[i]]:=by rw[jE,et];rfl
  have N1:=k _ _ (bj W' Ki (by intro z;cases z)) (bj W' ZQ (by intro z;cases z)) W'
  have vk:=k _ _ (bj Vh Ki (by intro z;cases z)) (bj Vh ZQ (by intro z;cases z)) Vh
  have Cp:=k _ _ Iy.symm hxL Ke
  generalize qL[i]=U at W' tk N1 et
  have lcs:=sc.1
  have lfl:((qL.take i).filter λT=>!cov pe S T).length<=900:=by
   have:=uN (λT=>!cov pe S T) (qL.take i)
   rw[gL]at this
   omega
  have yes:cov pe S U=true->Pv (i+1) [some (.ref x),some (.ref p),some (.bl pe),some (.ref L),some (.ref b)] (upd H1 d (.dT (putK kv (U.map Sum.inl) (.bl pe)))):=λc=>by
   have fl:((qL.take (i+1)).filter λT=>!cov pe S T)=(qL.take i).filter λT=>!cov pe S T:=by rw[tk,Az];simp[c]
   refine(dF _ _ _).mpr ⟨_,cs,putK kv (U.map Sum.inl) (.bl pe),rfl,by rw[av hdL.symm];exact Cr,?_,ah,?_,λT=>?_,λb o h1 h2 e=>by rw[av h1];exact k b o h1 h2 e⟩
   ·rw[fl]
    exact sc.mono λb xs e=>by rw[av (bj e Rb (by intro z;cases z))];exact e
   ·rw[fl]
    have:=nB kv (U.map Sum.inl) (.bl pe)
    omega
   ·rw[Oo,Va,tk]
    by_cases e:T=U
    ·rw[aB (by rw[e]),aB ⟨by simp[e],by rw[e];exact c⟩]
    ·rw[aC λz=>e (Ck z)]
     have:(T∈qL.take i++[U])=(T∈qL.take i):=by simp[e]
     simp only[this]
  have no:cov pe S U=false->Pv (i+1) [some (.ref x),some (.ref p),some (.bl pe),some (.ref L),some (.ref b)] (upd H1 L (.lst (List.map V.ref cs++[V.ref b]))):=λc=>by
   have fl:((qL.take (i+1)).filter λT=>!cov pe S T)=((qL.take i).filter λT=>!cov pe S T)++[U]:=by rw[tk,Az];simp[c]
   refine(dF _ _ _).mpr ⟨_,cs++[b],kv,rfl,by rw[ah,eU];rfl,?_,by rw[av hdL];exact Rb,?_,λT=>?_,λb o h1 h2 e=>by rw[av h2];exact k b o h1 h2 e⟩
   ·rw[fl]
    exact(sc.snoc N1).mono λb xs e=>by rw[av (bj e Cr (by intro z;cases z))];exact e
   ·rw[fl,cS,Gz]
    omega
   ·rw[Va,tk]
    by_cases e:T=U
    ·have:¬(T∈qL.take i/\cov pe S T=true):=λz=>by rw[e,c]at z;cases z.2
     rw[aC this,aC λz=>by rw[e,c]at z;cases z.2]
    ·have:(T∈qL.take i++[U])=(T∈qL.take i):=by simp[e]
     simp only[this]
  cases pe with
  | true=>
   repeat (walk_at "rd")
   refine⟨b,p,rfl,U,S,N1,vk,_,rfl,?_⟩
   have ec:cov true S U=aH U S:=by simp[cov]
   rw[<-ec]
   cases c:cov true S U with
   | true=>
    rw[aB rfl]
    simp only[wJ]
    repeat (walk_at "rd")
    exact⟨t.aA,dx,_,Cp,T.aV,T.cp,.ref d,rfl,d,rfl,_,x9.t (k:=U.map Sum.inl) Rb (by rw[ny];exact N1) (bU (by omega)),yes c⟩
   | false=>
    rw[aC (by decide)]
    repeat (walk_at "rd")
    exact⟨.inl ⟨rfl,_,bu Cr⟩,_,Cr,by rw[aY];exact bU (by omega),no c⟩
  | false=>
   repeat (walk_at "rd")
   refine⟨p,b,rfl,S,U,vk,N1,_,rfl,?_⟩
   have ec:cov false S U=aH S U:=by simp[cov]
   rw[<-ec]
   cases c:cov false S U with
   | true=>
    rw[aB rfl]
    simp only[wJ]
    repeat (walk_at "rd")
    exact⟨t.aA,dx,_,Cp,T.aV,T.cp,.ref d,rfl,d,rfl,_,x9.t (k:=U.map Sum.inl) Rb (by rw[ny];exact N1) (bU (by omega)),yes c⟩
   | false=>
    rw[aC (by decide)]
    repeat (walk_at "rd")
    exact⟨.inl ⟨rfl,_,bu Cr⟩,_,Cr,by rw[aY];exact bU (by omega),no c⟩
 ·obtain⟨y,cs,kv,rfl,Cr,sc,Rb,lkv,Va,k⟩:=(dF _ _ _).mp pv
  have hlen:(List.map V.ref us).length=qL.length:=by rw[aY,su0.1]
  rw[hlen,iV]at sc lkv
  rw[hlen,iV]at Va
  have Cp:=k _ _ Iy.symm hxL Ke
  repeat (walk_at "rd")
  refine⟨t.aA,dx,_,Cp,T.aV,T.cM,(by show 4<1000;decide),?_⟩
  have nx:∀{b:Addr} {o:HO},H1 b=some o->b≠x->upd H1 x (.ins t.aA dx (nh (Str.ofString "unknown") (V.ref L) (sfs f l d u))) b=some o:=λe h=>by rw[av h];exact e
  refine q _ L cs kv hL (by rw[ah];rfl) (nx Cr hxL.symm) (sc.mono λb xs e=>nx e (bj e Cp (by intro z;cases z))) (nx Rb Iy) lkv Va λb o h1 h2 e=>nx (k b o h2 (aj e hL) (s0 _ _ e)) h1
end
local macro_rules | `(tactic| walk_at "rd") => `(tactic| walk_at "rc")
local macro_rules | `(tactic| walk_at "rl") => `(tactic| first | (refine e9 fun R hR => ?_) | walk_at "ry" | (refine Nx.to (by assumption) _ _ ?_))
def det(tells:List Int->Bool)(as:List (List Int))(T:List Int):Bool:=as.any λa=>cov (tells a) a T
def ql(tells:List Int->Bool)(as:List (List Int))(S:List Int):List (List Int):=if det tells as S=true then as else as++[S]
structure Wo(P:Program)(w:World)(K:PySem.W.Frag)(mg:Str->Option Value)(base:Heap)(k:Nat)(f:Addr){ι:Type}(Z own:Addr->Prop)(D:ι->Hp->Prop)(nx:ι->List Int->ι)(lim:ι->Prop)(dom:List Int->Prop)(tells:List Int->Bool):Prop where
 g:Se P w K mg base k f Z D nx lim dom tells
 zo:∀b,Z b->own b
 od:∀i H b,D i H->own b->H b≠none
 os:∀i H H',D i H->(∀b o,(own b\/∃xs,o=.tup xs)->H b=some o->H' b=some o)->D i H'
def jV(own:Addr->Prop)(H:Hp)(C x f l d:Addr)(ps:List (List Int))(tells:List Int->Bool)(as:List (List Int)):Prop:=
 ∃(dx u:Addr) (bs us:List Addr) (aL:List (List Key×V)),H x=some (.ins C dx (sfs f l d u))/\H l=some (.lst (List.map V.ref bs))/\aE H bs as/\H d=some (.dT aL)/\(∀S∈ps,fO aL (S.map Sum.inl)=if det tells as S=true then some (.bl (tells S)) else none)/\
  H u=some (.lst (List.map V.ref us))/\aE H us (ps.filter λT=>!det tells as T)/\aL.length+(ps.filter λT=>!det tells as T).length<=ps.length/\u≠l/\¬own u/\as.Nodup/\∀s∈as,s∈ps
def xV(ps:List (List Int))(tells:List Int->Bool):Prop:=∀S∈ps,∀T∈ps,aH S T=true->tells T=true->tells S=true
theorem Ex(S:List Int):aH S S=true:=by unfold aH;simp
theorem RT(b:Bool)(S:List Int):cov b S S=true:=by unfold cov;rw[Ex];cases b <;> rfl
theorem Fs(tells:List Int->Bool)(as:List (List Int))(S T:List Int):det tells (as++[S]) T=(det tells as T||cov (tells S) S T):=by unfold det;rw[List.any_append];simp
theorem sj{tells:List Int->Bool}{as:List (List Int)}{S:List Int}(h:S∈as):det tells as S=true:=gK.mpr ⟨S,h,RT _ _⟩
theorem jV.keep{own:Addr->Prop}{H H':Hp}{C x f l d:Addr}{ps:List (List Int)}{tells:List Int->Bool}{as:List (List Int)}(h:jV own H C x f l d ps tells as)(k:∀b o,(∀o',o≠dy o')->(∀tb,o≠.qM tb)->H b=some o->H' b=some o):jV own H' C x f l d ps tells as:=by
 have p1:∀{xs:List V} (o':Obj),HO.lst xs≠dy o':=λ_ z=>by cases z
 have q1:∀{xs:List V} (tb:Array Value),HO.lst xs≠.qM tb:=λ_ z=>by cases z
 have q2:∀{xs:List V} (tb:Array Value),HO.tup xs≠.qM tb:=λ_ z=>by cases z
 have p2:∀{xs:List V} (o':Obj),HO.tup xs≠dy o':=λ_ z=>by cases z
 obtain⟨dx,u,bs,us,aL,h1,h2,h3,h4,h5,h6,h7,h8⟩:=h
 exact⟨dx,u,bs,us,aL,k _ _ (by intro o z;cases z) (by intro o z;cases z) h1,k _ _ p1 q1 h2,h3.mono λ_ _ e=>k _ _ p2 q2 e,k _ _ (by intro o z;cases z) (by intro o z;cases z) h4,h5,k _ _ p1 q1 h6,h7.mono λ_ _ e=>k _ _ p2 q2 e,h8⟩
theorem Xq{ps as:List (List Int)}(nd:as.Nodup)(h:∀s∈as,s∈ps):as.length<=ps.length:=eM nd h
def Dv(P:Program)(w:World)(K:PySem.W.Frag)(mg:Str->Option Value)(base:Heap)(C:Addr):Sp:=λvs H Q _=>∃x p,vs=[.ref x,.ref p]/\∃(ι:Type) (Z own:Addr->Prop) (D:ι->Hp->Prop) (nx:ι->List Int->ι) (lim:ι->Prop) (dom:List Int->Prop) (tells:List Int->Bool) (i0:ι) (f l d:Addr) (ps as:List (List Int)) (S:List Int),
 Wo P w K mg base 8 f Z own D nx lim dom tells/\D (as.foldl nx i0) H/\(∀ts:List (List Int),ts.length<=100->lim (ts.foldl nx i0))/\xV ps tells/\jV own H C x f l d ps tells as/\H p=some (.tup (List.map V.int S))/\S∈ps/\ps.length<=100/\(∀s∈ps,dom s)/\¬own x/\¬own l/\¬own d/\
 ∀H',jV own H' C x f l d ps tells (ql tells as S)->D ((ql tells as S).foldl nx i0) H'->(∀b o,¬Z b->b≠x->b≠l->b≠d->H b=some o->H' b=some o)->Q (.bl (tells S)) H'
section
variable {P:Program}{w:World}{K:PySem.W.Frag}{mg:Str->Option Value}{base:Heap}{t:ye}
theorem zD(T:Txt K mg t):bS P w K mg base fN 9 t.bW t.g7 ["self","part"] (Dv P w K mg base t.aA):=by
 have uE:=Qw (P:=P) (w:=w) (base:=base) T
 refine T.uG.rO rE (λvs H Q E h=>?_) (λcP A outer s H vs Q E hr h hc hf=>?_)
 ·obtain⟨x,p,rfl,_⟩:=h;rfl
 obtain⟨x,p,rfl,ι,Z,own,D,nx,lim,dom,tells,i0,f,l,d,ps,as,S,ask,hD,Fj,mono,snd,hp,hS,lps,oI,yc,Si,YJ,q⟩:=h
 have hu:=nE hr
 have Sl:=hr.iD
 have X3:=snd
 obtain⟨dx,u,bs,us,aL,hx,hl,sbs,hd,hkv,Vb,sus,lk,hul,nou,nd,sub⟩:=snd
 refine⟨_,(by apply mS;exact(cg (SM (G0 hu (aq hc 1) (fU (aq hc 0) rfl))) (by apply au;exact(dP (pO vG vH vI gp (fU (aq hc 0) rfl) (ae (aq hc 1) ai)));exact az (dP (wg (aq hc 0) T.aV T.rY uE (hr.mono (by omega)) T.uw .nil bh (ae (aq hc 1) (ae (La (k:=8) (hr.mono (by omega)) (aq hc 0) (ae (aq hc 1) ai)) ai))))) bA);exact az (aQ (q0 hu (fU (aq hc 0) rfl) (aq hc 1) (λ_ _=>rfl)))),?_⟩
 unfold Td
 refine⟨λσ' H'=>σ'=[some (.ref x),some (.ref p)]/\jV own H' t.aA x f l d ps tells (ql tells as S)/\D ((ql tells as S).foldl nx i0) H'/\(∀b o,¬Z b->b≠x->b≠l->b≠d->H b=some o->H' b=some o),?_,λσ' H' hN=>?_⟩
 ·repeat (first | walk_at "rl" | simp only[Bm])
  refine⟨t.aA,dx,_,hx,T.aV,T.cp,.ref d,rfl,d,rfl,_,sU.t (k:=S.map Sum.inl) hd (by rw[ny];exact hp),?_⟩
  rw[hkv S hS]
  cases c:det tells as S with
  | true=>
   rw[aB rfl]
   simp only[Option.isSome_some,Ai]
   walk_at "r"
   rw[show ql tells as S=as from aB c]
   exact⟨X3,hD,λb o _ _ _ _ e=>e⟩
  | false=>
   rw[show(if false=true then some (V.bl (tells S)) else none)=none from rfl]
   simp only[Option.isSome_none,Bool.not_false]
   walk_at "r"
   have lbs:=sbs.1
   have U6:=Xq nd sub
   have Vj:l≠x:=bj hl hx (by intro z;cases z)
   have hld:l≠d:=bj hl hd (by intro z;cases z)
   have Iy:d≠x:=bj hd hx (by intro z;cases z)
   have hux:u≠x:=bj Vb hx (by intro z;cases z)
   have hud:u≠d:=bj Vb hd (by intro z;cases z)
   refine⟨t.aA,dx,_,hx,T.aV,T.cO,.ref l,rfl,.inl ⟨rfl,_,bu hl⟩,l,rfl,_,hl,by rw[aY];exact bU (by omega),?_⟩
   have k1:∀b o,b≠l->H b=some o->upd H l (.lst (List.map V.ref bs++[V.ref p])) b=some o:=λb o h e=>by rw[av h];exact e
   have yw:upd H l (.lst (List.map V.ref bs++[V.ref p])) l=some (.lst (List.map V.ref (bs++[p]))):=by rw[ah,eU];rfl
   generalize upd H l (.lst (List.map V.ref bs++[V.ref p]))=H1 at k1 yw ⊢
   have kt1:∀{b:Addr} {xs:List V},H b=some (.tup xs)->H1 b=some (.tup xs):=λe=>k1 _ _ (bj e hl (by intro z;cases z)) e
   have zP:D (as.foldl nx i0) H1:=ask.os _ _ _ hD λb o h e=>k1 b o (h.elim (λh z=>Si (z ▸ h)) λ⟨xs,ho⟩=>bj e hl (by rw[ho];intro z;cases z)) e
   have Cp:=k1 _ _ Vj.symm hx
   have vk:=kt1 hp
   walk_at "r"
   obtain⟨sp,V9,run⟩:=ask.g.run
   refine⟨dx,_,Cp,rfl,t.aA,dx,_,Cp,T.aV,T.mn,f,rfl,ask.g.fn _ _ zP,ask.g.fn _ _ zP,sp,V9,run _ H1 p S _ zP (Fj as (by omega)) vk (oI S hS) λH2 Kk k2=>?_⟩
   have nz:∀{b:Addr},¬own b->¬Z b:=λh z=>h (ask.zo _ z)
   have kt2:∀{b:Addr} {xs:List V},H b=some (.tup xs)->H2 b=some (.tup xs):=λe=>ask.g.tup zP k2 (kt1 e)
   have NT:=k2 _ _ (nz yc) Cp
   have Kh:=k2 _ _ (nz Si) yw
   have hd2:=k2 _ _ (nz YJ) (k1 _ _ hld.symm hd)
   have hu2:=k2 _ _ (nz nou) (k1 _ _ hul Vb)
   have aCi:aE H2 us (ps.filter λT=>!det tells as T):=sus.mono λb xs e=>kt2 e
   refine⟨x,p,tells S,rfl,dx,f,l,d,u,S,_,us,aL,NT,kt2 hp,hu2,aCi,hd2,by omega,λH3 u3 us3 aBb hu3 QZ Gd Lp hd3 lk3 hv3 k3=>?_⟩
   have enx:ql tells as S=as++[S]:=aC (by rw[c];decide)
   have efl:((ps.filter λT=>!det tells as T).filter λT=>!cov (tells S) S T)=ps.filter λT=>!det tells (as++[S]) T:=by
    rw[List.filter_filter]
    congr 1
    funext T
    rw[Fs]
    cases det tells as T <;> cases cov (tells S) S T <;> rfl
   rw[efl]at Lp lk3
   have kt3:∀{b:Addr} {xs:List V},H2 b=some (.tup xs)->H3 b=some (.tup xs):=λe=>k3 _ _ (bj e NT (by intro z;cases z)) (bj e hd2 (by intro z;cases z)) e
   have aEt:=k3 _ _ Vj hld Kh
   rw[enx]
   refine⟨⟨dx,u3,bs++[p],us3,aBb,QZ,aEt,(sbs.mono λb xs e=>kt3 (kt2 e)).snoc (kt3 (kt2 hp)),hd3,λT hT=>?_,Gd,Lp,by omega,(aj Kh hu3).symm,λz=>ask.od _ _ _ Kk z hu3,?_,?_⟩,?_,λb o h1 h2 h3 h4 e=>k3 _ _ h2 h4 (k2 _ _ h1 (k1 _ _ h3 e))⟩
   ·rw[hv3,hkv T hT,Fs]
    by_cases e1:det tells as T=true
    ·have nin:¬(T∈(ps.filter λT=>!det tells as T)/\cov (tells S) S T=true):=λz=>by
      have:=(gq.mp z.1).2
      rw[e1]at this
      cases this
     rw[aC nin,aB e1,aB (by rw[e1];rfl)]
    ·have Ko:=Bd e1
     rw[Ko,Bool.false_or]
     by_cases e2:cov (tells S) S T=true
     ·rw[aB ⟨gq.mpr ⟨hT,by rw[Ko];rfl⟩,e2⟩,aB e2]
      congr 2
      unfold cov at e2
      cases eS:tells S with
      | true=>
       rw[eS]at e2
       simp at e2
       exact(mono T hT S hS e2 eS).symm
      | false=>
       rw[eS]at e2
       simp at e2
       cases eT:tells T with
       | true=>have:=mono S hS T hT e2 eT;rw[eS]at this;cases this
       | false=>rfl
     ·rw[aC λz=>e2 z.2,aC e2];rfl
   ·refine Ay.mpr ⟨nd,by simp,λa ha b hb z=>?_⟩
    rw[cE]at hb
    rw[z,hb]at ha
    rw[sj ha]at c
    cases c
   ·intro s hs
    rcases cv.mp hs with z | z
    ·exact sub s z
    ·rw[cE.mp z];exact hS
   ·rw[Ax]
    exact ask.os _ _ _ Kk λb o h e=>k3 b o (h.elim (λh z=>yc (z ▸ h)) λ⟨xs,ho⟩=>bj e NT (by rw[ho];intro z;cases z)) (h.elim (λh z=>YJ (z ▸ h)) λ⟨xs,ho⟩=>bj e hd2 (by rw[ho];intro z;cases z)) e
 ·obtain⟨rfl,aAy,zP,k1⟩:=hN
  have aCm:=aAy
  obtain⟨dx1,u1,bs1,us1,aFN,Cp,yw,aFJ,Rb,aEu,hu1,aFH,lk1,aFP,aFL,nd1,aFI⟩:=aAy
  have dS:det tells (ql tells as S) S=true:=by
   unfold ql
   by_cases c:det tells as S=true
   ·rw[aB c];exact c
   ·rw[aC c];exact sj (by simp)
  have vk:H' p=some (.tup (List.map V.int S)):=k1 p _ (λz=>ask.g.nt _ H p _ hD z hp) (bj hp hx (by intro z;cases z)) (bj hp hl (by intro z;cases z)) (bj hp hd (by intro z;cases z)) hp
  repeat (first | walk_at "rl" | simp only[yZ])
  have e1:=aEu S hS
  rw[aB dS]at e1
  exact⟨t.aA,dx1,_,Cp,T.aV,T.cp,.ref d,rfl,d,rfl,_,by rw[<-e1];exact sU.t (k:=S.map Sum.inl) Rb (by rw[ny];exact vk),q H' aCm zP k1⟩
end
local macro_rules | `(tactic| walk_at "rd") => `(tactic| walk_at "rc")
local macro_rules | `(tactic| walk_at "rl") => `(tactic| first | (refine e9 fun R hR => ?_) | walk_at "ry" | (refine Nx.to (by assumption) _ _ ?_))
def aM:Expr:=match aO bI with
 | [_,.While _ [_,.If _ [.Expr (.Call _ [_,e,_] _ _) _] _ _] _ _,_,_,_]=>e
 | _=>.Name "" ⟨0,0,0,0⟩
def MN:Expr->Arguments
 | .Lambda a _ _ _=>a
 | _=>{ posonlyargs:=[],args:=[],vararg:=none,kwonlyargs:=[],kw_defaults:=[],kwarg:=none,defaults:=[] }
def MK:Expr->Expr
 | .Lambda _ b _ _=>b
 | e=>e
def Ii:Expr->Scope
 | .Lambda _ _ s _=>s
 | _=>{ kind:=.function,names:=[],isGenerator:=false,isCoroutine:=false }
def Ij:Expr->Pos
 | .Lambda _ _ _ p=>p
 | _=>⟨0,0,0,0⟩
def aAu(P:Program)(w:World)(K:PySem.W.Frag)(mg:Str->Option Value)(base:Heap)(C g c':Addr)(fo oc:Obj)(cl:List (Str×Addr))(x:Addr):Sp:=λvs H Q _=>∃p,vs=[.ref p]/\H g=some (dy fo)/\H c'=some (dy oc)/\∃Cs,dD Cs H/\CellsOk Cs cl ["sounding"] [.ref x]/\∃dx fs,aP Cs H x=some (.ins C dx fs)/\fs.lookup ("tells" : Str)=none/\
 Dv P w K mg base C [.ref x,.ref p] (aP Cs H) (λv H'=>cQ Cs H'->Q v (eD Cs H')) E0
section
variable {P:Program}{w:World}{K:PySem.W.Frag}{mg:Str->Option Value}{base:Heap}{t:ye}
theorem V7(T:Txt K mg t){g c' x:Addr}{oc:Obj}{Dl:Array Value}{tq:Tok}{qual:Str}{cl:List (Str×Addr)}{pm ctv:Value}(sV:oc.data=.fields Dl)(hq:Dl[1]?=some (.str qual tq))
  (ua:∀x c,cl.lookup x=some c->x∈(["sounding"]:List Str)) (inj:∀x y c,cl.lookup x=some c->cl.lookup y=some c->x=y) :
  pz P w K mg base 12 g (aAu P w K mg base t.aA g c' (PySem.W.kla_obj "<lambda>" qual (MN aM) (MK aM) (Ii aM) cl pm c' ctv) oc cl x):=by
 have ib:=zD (P:=P) (w:=w) (base:=base) T
 refine V6 (k:=11) (fo:=PySem.W.kla_obj "<lambda>" qual (MN aM) (MK aM) (Ii aM) cl pm c' ctv) (oc:=oc) (name:="<lambda>") (qual:=qual) (params:=MN aM) (body:=MK aM) (scope:=Ii aM) (cl:=cl) (pm:=pm) (ctv:=ctv) (ps:=["part"]) (fr:=["sounding"]) rfl sV hq rfl rfl rfl (by decide +kernel) (by decide +kernel) (by decide +kernel) (by decide +kernel) (λx hx=>?_) ua inj (λus hu=>?_) λvs H Q E h=>?_
 ·have:L2.freeOf (Ii aM)=(["sounding"]:List Str):=by decide +kernel
  rw[<-this]
  exact fY.mpr ⟨(x,.free),gq.mpr ⟨kr hx,rfl⟩,rfl⟩
 ·match us,hu with
  | [_],_=>rfl
 obtain⟨p,rfl,hf,mJ,C,pin,RV,dx,fs,hx,Sw,q⟩:=h
 refine⟨C,[.ref x],rfl,hf,mJ,pin,rfl,RV,λA outer s hr hc=>?_⟩
 refine⟨_,(wg (aq hc 1) T.aV T.jM ib (hr.mono (by omega)) T.kR .nil bh (ae (aq hc 0) ai)),?_⟩
 walk_at "r"
 exact⟨_,_,hx,Sw,q⟩
theorem Wd(T:Txt K mg t){g c' x f l d:Addr}{oc:Obj}{Dl:Array Value}{tq:Tok}{qual:Str}{cl:List (Str×Addr)}{pm ctv:Value}(sV:oc.data=.fields Dl)(hq:Dl[1]?=some (.str qual tq))
  (ua:∀x c,cl.lookup x=some c->x∈(["sounding"]:List Str)) (inj:∀x y c,cl.lookup x=some c->cl.lookup y=some c->x=y)
  {Cs:List (Addr×Obj)} (RV:CellsOk Cs cl ["sounding"] [.ref x]) {ι:Type} {Z own:Addr->Prop} {D:ι->Hp->Prop} {nx:ι->List Int->ι} {lim:ι->Prop} {dom:List Int->Prop} {tells:List Int->Bool} (ask:Wo P w K mg base 8 f Z own D nx lim dom tells)
  {i0:ι} (Fj:∀ts:List (List Int),ts.length<=100->lim (ts.foldl nx i0)) {ps:List (List Int)} (mono:xV ps tells) (lps:ps.length<=100) (oI:∀s∈ps,dom s) (yc:¬own x) (Si:¬own l) (YJ:¬own d) (nog:¬own g) (U0:¬own c') (noC:∀b o,Cs.lookup b=some o->¬own b) :
  Se P w K mg base 12 g (λb=>Z b\/b=x\/b=l\/b=d) (λas H=>H g=some (dy (PySem.W.kla_obj "<lambda>" qual (MN aM) (MK aM) (Ii aM) cl pm c' ctv))/\H c'=some (dy oc)/\dD Cs H/\jV own H t.aA x f l d ps tells as/\D (as.foldl nx i0) H) (ql tells) (λ_=>True) (λS=>S∈ps) tells:=by
 refine⟨⟨_,V7 T (x:=x) (g:=g) (c':=c') (pm:=pm) (ctv:=ctv) sV hq ua inj,λas H p S Q hD _ hp hS q=>?_⟩,λas H hD=>⟨_,_,hD.1,rfl⟩,λas H H' hD s=>?_,λas H b xs hD hz e=>?_⟩
 ·obtain⟨h1,h2,h3,h4,h5⟩:=hD
  have out:∀{b:Addr} {o:HO},H b=some o->(∀o',o≠dy o')->aP Cs H b=some o:=λe n=>by rw[aT (h3.out e n)];exact e
  have Xh:jV own (aP Cs H) t.aA x f l d ps tells as:=h4.keep λb o n _ e=>out e n
  have h5':D (as.foldl nx i0) (aP Cs H):=ask.os _ _ _ h5 λb o h e=>by
   rcases h with h | ⟨xs,rfl⟩
   ·cases z:Cs.lookup b with
    | none=>rw[aT z];exact e
    | some o'=>exact absurd h (noC b o' z)
   ·exact out e (by intro o z;cases z)
  have aEE:=Xh
  obtain⟨dx,u,_,_,_,hx,hl,_,hd,_⟩:=aEE
  have nz:∀{b:Addr},¬own b->¬Z b:=λh z=>h (ask.zo _ z)
  refine⟨p,rfl,h1,h2,Cs,h3,RV,dx,_,hx,rfl,x,p,rfl,ι,Z,own,D,nx,lim,dom,tells,i0,f,l,d,ps,as,S,ask,h5',Fj,mono,Xh,out hp (by intro o z;cases z),hS,lps,oI,yc,Si,YJ,λH' s' d' k' po=>?_⟩
  have keep:∀b o,¬Z b->b≠x->b≠l->b≠d->H b=some o->eD Cs H' b=some o:=λb o n1 n2 n3 n4 e=>by
   cases z:Cs.lookup b with
   | some o'=>rw[jU z,<-h3 b o' z];exact e
   | none=>rw[bO z];exact k' b o n1 n2 n3 n4 (by rw[aT z];exact e)
  have ne:∀{b:Addr} {o':Obj},H b=some (dy o')->b≠x/\b≠l/\b≠d:=λ{b o'} e=>by
   have YB:∀{a:Addr} {o:HO},aP Cs H a=some o->H a=some o:=λ{a o} e=>by
    cases z:Cs.lookup a with
    | none=>rw[aT z]at e;exact e
    | some o'=>rw[kM z]at e;cases e
   exact⟨bj e (YB hx) (by intro z;cases z),bj e (YB hl) (by intro z;cases z),bj e (YB hd) (by intro z;cases z)⟩
  refine q _ ⟨keep _ _ (nz nog) (ne h1).1 (ne h1).2.1 (ne h1).2.2 h1,keep _ _ (nz U0) (ne h2).1 (ne h2).2.1 (ne h2).2.2 h2,cQ.added,?_,?_⟩ λb o n e=>keep b o (λz=>n (.inl z)) (λz=>n (.inr (.inl z))) (λz=>n (.inr (.inr (.inl z)))) (λz=>n (.inr (.inr (.inr z)))) e
  ·exact s'.keep λb o _ _ e=>by rw[bO (po.out e)];exact e
  ·exact ask.g.st _ _ _ d' λb o e=>by rw[bO (po.out e)];exact e
 ·obtain⟨h1,h2,h3,h4,h5⟩:=hD
  exact⟨s _ _ h1,s _ _ h2,λb o e=>s _ _ (h3 b o e),h4.keep λb o _ _ e=>s _ _ e,ask.g.st _ _ _ h5 s⟩
 ·obtain⟨h1,h2,h3,h4,h5⟩:=hD
  obtain⟨dx,u,_,_,_,hx,hl,_,hd,_⟩:=h4
  rcases hz with z | rfl | rfl | rfl
  ·exact ask.g.nt _ H b xs h5 z e
  ·rw[hx]at e;cases e
  ·rw[hl]at e;cases e
  ·rw[hd]at e;cases e
end
local macro_rules | `(tactic| walk_at "rd") => `(tactic| walk_at "rc")
local macro_rules | `(tactic| walk_at "rl") => `(tactic| first | (refine e9 fun R hR => ?_) | walk_at "ry" | (refine Nx.to (by assumption) _ _ ?_))
theorem j4{x t:List Int}(h:t∈gb x):t.Sublist x:=by
 have:∀(x:List Int) (y:List Int) (ps:List (List Int)),(∀p∈ps,p.Sublist y)->∀t∈x.foldl m4 ps,t.Sublist (y++x):=λx=>by
  induction x with
  | nil=>intro y ps h t ht;rw[fZ];exact h t ht
  | cons k x ih=>
   intro y ps h t ht
   rw[jD]at ht
   have st:∀p∈m4 ps k,p.Sublist (y++[k]):=λp hp=>by
    unfold m4 at hp
    rcases cv.mp hp with hp | hp
    ·exact(h p hp).trans (List.sublist_append_left _ _)
    ·obtain⟨c,hc,rfl⟩:=fY.mp hp
     exact(h c hc).append (Aw _)
   have:=ih (y++[k]) _ st t ht
   rwa [iK]at this
 exact this x [] [[]] (by simp) t h
theorem y3{x t:List Int}:t∈gb x↔t.Sublist x:=by
 refine⟨j4,λh=>?_⟩
 have:∀(x:List Int) (ps:List (List Int)) (p s:List Int),p∈ps->s.Sublist x->p++s∈x.foldl m4 ps:=λx=>by
  induction x with
  | nil=>intro ps p s hp hs;rw[List.sublist_nil.mp hs,fZ];exact hp
  | cons k x ih=>
   intro ps p s hp hs
   rw[jD]
   cases hs with
   | cons _ h1=>exact ih _ p s (uM _ hp) h1
   | cons_cons _ h1=>
    rename_i s'
    have:=ih (m4 ps k) (p++[k]) s' (iX _ (fY.mpr ⟨p,hp,rfl⟩)) h1
    rwa [iK]at this
 exact this x [[]] [] t (by simp) h
def turn(W:List Int)(tells:List Int->Bool)(as:List (List Int))(S:List Int):List (List Int):=
 if tells S=true then (jQ tells (ql tells) W (dv W S) (S,ql tells (ql tells as S) S)).2 else ql tells as S
inductive pd (ps:List (List Int)) (W:List Int) (tells:List Int->Bool):List (List Int)->Prop
 | nil:pd ps W tells []
 | step {as:List (List Int)} {S:List Int} {r:List (List Int)}:pd ps W tells as->(ps.filter λT=>!det tells as T)=S::r->pd ps W tells (turn W tells as S)
theorem BR{tells:List Int->Bool}{as:List (List Int)}{S a:List Int}(h:a∈as):a∈ql tells as S:=by
 unfold ql
 by_cases c:det tells as S=true
 ·rw[aB c];exact h
 ·rw[aC c];exact uM _ h
theorem V2(tells:List Int->Bool)(as:List (List Int))(S:List Int):det tells (ql tells as S) S=true:=by
 unfold ql
 by_cases c:det tells as S=true
 ·rw[aB c];exact c
 ·rw[aC c];exact sj (by simp)
theorem Ft{tells:List Int->Bool}{as as':List (List Int)}(h:∀a∈as,a∈as'){T:List Int}(hd:det tells as T=true):det tells as' T=true:=by
 obtain⟨a,ha,e⟩:=gK.mp hd
 exact gK.mpr ⟨a,h a ha,e⟩
theorem xC(tells:List Int->Bool)(W:List Int){a:List Int}:∀(ms:List Int) (c:List Int×List (List Int)),a∈c.2->a∈(jQ tells (ql tells) W ms c).2
 | [],c,h=>h
 | m::ms,c,h=>by
  unfold jQ
  rw[jD]
  exact xC tells W ms _ (BR h)
theorem yS{W:List Int}{tells:List Int->Bool}{as:List (List Int)}{S a:List Int}(h:a∈ql tells as S):a∈turn W tells as S:=by
 unfold turn
 by_cases c:tells S=true
 ·rw[aB c];exact xC tells W _ _ (BR h)
 ·rw[aC c];exact h
theorem Lh{ps:List (List Int)}{W:List Int}{tells:List Int->Bool}{as:List (List Int)}{S:List Int}{r:List (List Int)}(h:(ps.filter λT=>!det tells as T)=S::r):(ps.filter λT=>!det tells (turn W tells as S) T).length<(ps.filter λT=>!det tells as T).length:=by
 have e:(ps.filter λT=>!det tells (turn W tells as S) T)=(ps.filter λT=>!det tells as T).filter λT=>!det tells (turn W tells as S) T:=by
  rw[List.filter_filter]
  refine List.filter_congr λT _=>?_
  cases d:det tells as T with
  | false=>simp
  | true=>rw[Ft (λa ha=>yS (BR ha)) d];rfl
 rw[e,h,tD,aC (by rw[Ft (λa ha=>yS ha) (V2 tells as S)];decide)]
 exact Nat.lt_succ_of_le (uN _ _)
def u6(own:Addr->Prop)(H:Hp)(pT:Addr)(qual:Str):Prop:=∃tb,H pT=some (.qM tb)/\TriplesOk tb.toList/\(codeAmong (Ij aM) tb.toList=none\/∃c' oc vs tq,codeAmong (Ij aM) tb.toList=some (.ref c')/\H c'=some (dy oc)/\oc.data=.fields vs/\vs[1]?=some (.str qual tq)/\¬own c')
def qS:Str:=(Str.ofString "sounded" ++ (".<locals>." : Str))++Str.ofString "<lambda>"
def Lq(P:Program)(w:World)(K:PySem.W.Frag)(mg:Str->Option Value)(base:Heap)(pT:Addr):Sp:=λvs H Q _=>∃U f,vs=[.ref U,.ref f]/\∃(ι:Type) (Z own:Addr->Prop) (D:ι->Hp->Prop) (nx:ι->List Int->ι) (lim:ι->Prop) (dom:List Int->Prop) (tells:List Int->Bool) (i0:ι) (W:List Int),
 Wo P w K mg base 8 f Z own D nx lim dom tells/\D i0 H/\(∀ts:List (List Int),ts.length<=100->lim (ts.foldl nx i0))/\H U=some (.tup (List.map V.int W))/\fS W/\W.length<=6/\(∀T,T.Sublist W->dom T)/\xV (gb W) tells/\u6 own H pT qS/\¬own pT/\
 ∀r H' c p l cs qs bs clashes lF as ps,H' r=some (.tup [V.ref c,V.ref p,V.ref l])->H' c=some (.lst (List.map V.ref cs))->aE H' cs clashes->H' p=some (.lst (List.map V.ref qs))->aE H' qs lF->H' l=some (.lst (List.map V.ref bs))->aE H' bs as->
  D (as.foldl nx i0) H'->(∀b o,¬Z b->b≠pT->H b=some o->H' b=some o)->(∀x,x∈clashes↔x∈as.filter (λa=>!tells a)/\∀y∈as.filter (λa=>!tells a),aH y x=true->y=x)->(∀x,x∈lF↔x∈as.filter tells/\∀y∈as.filter tells,aH x y=true->y=x)->
  clashes.Pairwise (λa b=>cy a b=true)->lF.Pairwise (λa b=>cy a b=true)->ps.Pairwise (λa b=>cy a b=true)->(∀T,T∈ps↔T∈gb W)->pd ps W tells as->(∀T∈ps,det tells as T=true)->as.Nodup->(∀a∈as,a∈ps)->u6 own H' pT qS->c≠p->c≠l->p≠l->¬own c->¬own p->¬own l->Q (.ref r) H'
section
variable {P:Program}{w:World}{K:PySem.W.Frag}{mg:Str->Option Value}{base:Heap}{t:ye}
theorem Hy(T:Txt K mg t){c pT:Addr}(jP:t.kO.code=.ref c)(hC:PySem.W.CodeHd base c pT)(hB:BMain mg base):bS P w K mg base fN 16 t.dq t.kO ["whole","ask"] (Lq P w K mg base pT):=by
 have Jt:=Qt (P:=P) (w:=w) (base:=base) T
 have oQ:=Qy (P:=P) (w:=w) (base:=base) T
 have ib:=zD (P:=P) (w:=w) (base:=base) T
 have Wn:=Qx (P:=P) (w:=w) (base:=base) T
 have Jv:=Qv (P:=P) (w:=w) (base:=base) T
 have yH:=Ed (P:=P) (w:=w) (base:=base) T
 refine T.uF.aA0 jd (λvs H Q E h=>?_) (λcP A outer s H vs Q E hcv hr h hc hf=>?_)
 ·obtain⟨a,f,rfl,_⟩:=h;rfl
 have yA:=hcv.symm.trans jP
 obtain⟨U,f,rfl,ι,Z,own,D,nx,lim,dom,tells,i0,W,ask,hD,Fj,hU,rise,lW,oI,mono,aAs,YG,q⟩:=h
 have eqS:qS=(fQ fN P w K mg base dC (Str.ofString "sounded") (ag bI) t.dq cP A outer s H E).env.qual++Str.ofString "<lambda>":=rfl
 rw[eqS]at aAs q
 clear eqS
 obtain⟨tb,W0,htb,Zz⟩:=aAs
 have hu:=nE hr
 have Sl:=hr.iD
 refine⟨_,(by apply au;exact(aR hc jd.nd hf 2 (by decide +kernel) (Oh T.Ej oQ (hr.mono (by omega)) (cG hc) T.Ia T.oN .nil bh (ae (aq hc 1) (ae (aD Jt (hr.mono (by omega)) (cG hc) T.HW T.x6.kp T.Ji .nil bh (ae (aq hc 0) ai)) ai))));apply au;exact(yM iH (bP Qq (bt uo (cG hc) T.z_len sG (ae (fU (aq hc 2) rfl) ai)) ao (dg _)) (by apply au;exact(aR hc jd.nd hf 3 (by decide +kernel) (bC jv (fU (aq hc 2) rfl) ao (λ_ _=>rfl)));exact az (cg (bM (wg (aq hc 2) T.aV T.jM ib (hr.mono (by omega)) T.kR .nil bh (ae (aq hc 3) ai))) (by exact az (dP (tM (xs:=[(2,"sounding")]) (cells:=cellsFrom (s.heap.objs.size+1) (ag bI).names []) (EH:=λ_=>E0) rfl Wn (hr.mono (by omega)) (cG hc) T.U3 T.K6.kp T.Wb Ih hf (Ir hc (by decide +kernel)) (ae (aq hc 0) (ae (Og (fr:=["sounding"]) hc yA hC hB rfl (by decide +kernel) (by decide +kernel) rfl) (ae (aq hc 3) ai)))))) bA)));apply au;exact(tL hc jd.nd 4 (by decide +kernel) ["part"] [2] rfl (by decide +kernel) (dQ (fU (aq hc 2) rfl)) (λ_ hc=>qZ hc (by decide +kernel) 0 (by decide +kernel)) (λ_ hc=>ku (dG (bM (q0 hu (fU (aq hc 1) rfl) (aq hc 0) (λ_ _=>rfl))))) (λ_ hc=>(aq hc 0)) (by rfl));apply au;exact(tL hc jd.nd 5 (by decide +kernel) ["part"] [2] rfl (by decide +kernel) (dQ (fU (aq hc 2) rfl)) (λ_ hc=>qZ hc (by decide +kernel) 0 (by decide +kernel)) (λ_ hc=>ku (bM (q0 hu (fU (aq hc 1) rfl) (aq hc 0) (λ_ _=>rfl)))) (λ_ hc=>(aq hc 0)) (by rfl));exact az (aQ (iN (ae (aD Jv (hr.mono (by omega)) (cG hc) T.HY T.x8.kp T.Jk .nil bh (ae (aq hc 4) ai)) (ae (aD yH (hr.mono (by omega)) (cG hc) T.yq T.pk.kp T.yD .nil bh (ae (aq hc 5) ai)) (ae (fU (aq hc 2) rfl) ai)))))),?_⟩
 walk_at "r"
 refine⟨U,rfl,W,hU,by omega,λu H1 us ps s1 hu1 hu2 sus nd Vf pw=>?_⟩
 have lps:ps.length<=64:=by
  have h1:=eM nd λt ht=>(Vf t).mp ht
  rw[oj]at h1
  have h2:2 ^ W.length<=2 ^ 6:=Gv (by decide) lW
  omega
 refine λx dx hx Iy yd=>⟨x,f,u,dx,rfl,ah,λl d H2 hl hd NT Kh hd2 k2=>⟨rfl,?_⟩⟩
 have Vj:l≠x:=λe=>by rw[e,ah]at hl;cases hl
 have aEw:d≠x:=λe=>by rw[e,ah]at hd;cases hd
 rw[av Vj]at hl
 rw[av aEw]at hd
 have yw:H1 l=none:=by
  by_cases e:l=dx
  ·rw[e];exact Iy
  ·rw[av e]at hl;exact hl
 have Rb:H1 d=none:=by
  by_cases e:d=dx
  ·rw[e];exact Iy
  ·rw[av e]at hd;exact hd
 have s2:bN H1 H2:=λb o e=>k2 b o (aj e hx) (by rw[av (aj e hx),av (aj e Iy)];exact e)
 have s02:=s1.trans s2
 have zP:=ask.g.st _ _ _ hD s1
 have Mv:∀{b:Addr},H1 b=none->¬own b:=λe z=>ask.od _ _ _ zP z e
 have nou:¬own u:=λz=>ask.od _ _ _ hD z hu1
 have yc:=Mv hx
 have Si:=Mv yw
 have YJ:=Mv Rb
 have Wz:xV ps tells:=λS hS T' hT'=>mono S ((Vf S).mp hS) T' ((Vf T').mp hT')
 have Iu:∀{S:List Int},S∈ps↔S.Sublist W:=λ{S}=>by rw[Vf];exact y3
 have W6:∀s∈ps,dom s:=λs hs=>oI s (Iu.mp hs)
 have X3:jV own H2 t.aA x f l d ps tells []:=by
  refine⟨dx,u,[],us,[],NT,Kh,⟨rfl,λi b t e=>by simp at e⟩,hd2,λS _=>rfl,s2 _ _ hu2,?_,?_,aj hu2 yw,nou,pD,λs hs=>(nomatch hs)⟩
  ·have:(ps.filter λT=>!det tells [] T)=ps:=List.filter_eq_self.mpr λT _=>rfl
   rw[this];exact sus.mono λb xs e=>s2 _ _ e
  ·exact e8 (by simpa using uN _ _) (bx _)
 clear k2
 walk_at "r"
 refine⟨λm σ' H'=>∃z as,σ'=[some (.ref U),some (.ref f),some (.ref x),z,none,none]/\m=(ps.filter λT=>!det tells as T).length/\jV own H' t.aA x f l d ps tells as/\D (as.foldl nx i0) H'/\pd ps W tells as/\(∀b o,¬Z b->b≠pT->H b=some o->H' b=some o)/\u6 own H' pT ((fQ fN P w K mg base dC (Str.ofString "sounded") (ag bI) t.dq cP A outer s H E).env.qual++Str.ofString "<lambda>"),⟨_,none,[],rfl,rfl,X3,ask.g.st _ _ _ hD s02,.nil,λb o _ _ e=>s02 _ _ e,tb,s02 _ _ W0,htb,Zz.imp id λ⟨c',oc,vs,tq,a1,a2,a3,a4,a5⟩=>⟨c',oc,vs,tq,a1,s02 _ _ a2,a3,a4,a5⟩⟩,?_⟩
 rintro m σ' H3 ⟨z,as,rfl,rfl,snd,Iz,tu,k3,tab⟩
 have aCn:=snd
 obtain⟨Xl,u3,bs3,us3,aBb,QZ,Gd,TB,hd3,aBo,hu3,Lp,lk3,aFO,aFK,nd3,OD⟩:=aCn
 walk_at "r"
 refine⟨t.aA,Xl,_,QZ,T.aV,T.cM,.ref u3,rfl,u3,rfl,_,hu3,?_⟩
 have lus:(List.map V.ref us3).length=(ps.filter λT=>!det tells as T).length:=by rw[aY,Lp.1]
 by_cases e0:0<((List.map V.ref us3).length:Int)
 ·rw[aB e0]
  obtain⟨S,r,eSr⟩:∃S r,(ps.filter λT=>!det tells as T)=S::r:=by
   cases e:(ps.filter λT=>!det tells as T) with
   | nil=>rw[lus,e]at e0;exact absurd e0 (by decide)
   | cons S r=>exact⟨S,r,rfl⟩
  refine⟨λσ' H'=>∃z,σ'=[some (.ref U),some (.ref f),some (.ref x),z,none,none]/\jV own H' t.aA x f l d ps tells (turn W tells as S)/\D ((turn W tells as S).foldl nx i0) H'/\(∀b o,¬Z b->b≠pT->H b=some o->H' b=some o)/\u6 own H' pT ((fQ fN P w K mg base dC (Str.ofString "sounded") (ag bI) t.dq cP A outer s H E).env.qual++Str.ofString "<lambda>"),?_,?_⟩
  ·rintro σ' H' ⟨z,rfl,h1,h2,h3,h4⟩
   exact⟨_,Lh eSr,z,rfl,_,rfl,h1,h2,.step tu eSr,h3,h4⟩
  have aBu:S∈ps.filter λT=>!det tells as T:=by rw[eSr];exact du
  have hS:S∈ps:=(gq.mp aBu).1
  have hSd:det tells as S=false:=by have:=(gq.mp aBu).2;simpa using this
  have sS:=Iu.mp hS
  obtain⟨p0,us4,rfl⟩:∃p0 us4,us3=p0::us4:=by
   cases us3 with
   | nil=>exact absurd e0 (by decide)
   | cons p0 us4=>exact⟨p0,us4,rfl⟩
  have NZ:H3 p0=some (.tup (List.map V.int S)):=by
   rw[eSr]at Lp
   exact Lp.2 0 p0 S rfl rfl
  walk_at "r"
  refine⟨t.aA,Xl,_,QZ,T.aV,T.cM,.ref u3,rfl,u3,rfl,_,hu3,.ref p0,(by rw[eF,xT]),?_⟩
  walk_at "r"
  refine⟨Xl,_,QZ,rfl,x,p0,rfl,ι,Z,own,D,nx,lim,dom,tells,i0,f,l,d,ps,as,S,ask,Iz,Fj,Wz,snd,NZ,hS,by omega,W6,yc,Si,YJ,λH4 aAx Df k4=>⟨_,rfl,?_⟩⟩
  have nz:∀{b:Addr},¬own b->¬Z b:=λh z=>h (ask.zo _ z)
  have old:∀{b:Addr} {o:HO},H b=some o->b≠x/\b≠l/\b≠d:=λe=>⟨aj (s1 _ _ e) hx,aj (s1 _ _ e) yw,aj (s1 _ _ e) Rb⟩
  have k34:∀b o,¬Z b->b≠pT->H b=some o->H4 b=some o:=λb o n1 n2 e=>k4 b o n1 (old e).1 (old e).2.1 (old e).2.2 (k3 b o n1 n2 e)
  have hUT:U≠pT:=bj hU W0 (by intro z;cases z)
  have hU4:H4 U=some (.tup (List.map V.int W)):=k34 U _ (λz=>ask.g.nt _ H U _ hD z hU) hUT hU
  have Zn:H4 p0=some (.tup (List.map V.int S)):=k4 p0 _ (λz=>ask.g.nt _ H3 p0 _ Iz z NZ) (bj NZ QZ (by intro z;cases z)) (bj NZ Gd (by intro z;cases z)) (bj NZ hd3 (by intro z;cases z)) NZ
  have XB:u6 own H4 pT ((fQ fN P w K mg base dC (Str.ofString "sounded") (ag bI) t.dq cP A outer s H E).env.qual++Str.ofString "<lambda>"):=by
   obtain⟨tb',h1,h2,h3⟩:=tab
   refine⟨tb',k4 _ _ (nz YG) (old W0).1 (old W0).2.1 (old W0).2.2 h1,h2,h3.imp id ?_⟩
   rintro⟨c',oc,vs,tq,a1,a2,a3,a4,a5⟩
   exact⟨c',oc,vs,tq,a1,k4 _ _ (nz a5) (bj a2 QZ (by intro z;cases z)) (bj a2 Gd (by intro z;cases z)) (bj a2 hd3 (by intro z;cases z)) a2,a3,a4,a5⟩
  cases eS:tells S with
  | false=>
   rw[aC (by decide)]
   have et:turn W tells as S=ql tells as S:=aC (by rw[eS];decide)
   exact⟨by rw[et];exact aAx,by rw[et];exact Df,k34,XB⟩
  | true=>
  rw[aB rfl]
  have use:∀(H5:Hp) (g c':Addr) (cl:List (Str×Addr)) (oc:Obj) (vs:Array Value) (tq:Tok) (pm ctv:Value),K4 (cellsFrom (s.heap.objs.size+1) (ag bI).names []) cl [Str.ofString "sounding"]->H5 g=some (dy (PySem.W.kla_obj "<lambda>" ((fQ fN P w K mg base dC (Str.ofString "sounded") (ag bI) t.dq cP A outer s H E).env.qual++Str.ofString "<lambda>") (MN aM) (MK aM) (Ii aM) cl pm c' ctv))->H5 c'=some (dy oc)->oc.data=.fields vs->vs[1]?=some (.str ((fQ fN P w K mg base dC (Str.ofString "sounded") (ag bI) t.dq cP A outer s H E).env.qual++Str.ofString "<lambda>") tq)->¬own g->¬own c'->(∀b o,b≠pT->H4 b=some o->H5 b=some o)->(∃tb,H5 pT=some (.qM tb)/\TriplesOk tb.toList/\codeAmong (Ij aM) tb.toList=some (.ref c'))->
    ∀(C:List (Addr×Obj)),CellsAre (cellsFrom (s.heap.objs.size+1) (ag bI).names []) [some (V.ref U),some (V.ref f),some (V.ref x),some (V.ref p0),none,none] [(2,Str.ofString "sounding")] C->cQ C H5->∀(Q':VK) (E':XK),(∀v H',jV own (aP C H') t.aA x f l d ps tells (turn W tells as S)/\D ((turn W tells as S).foldl nx i0) (aP C H')/\(∀b o,¬Z b->b≠pT->H b=some o->aP C H' b=some o)/\u6 own (aP C H') pT ((fQ fN P w K mg base dC (Str.ofString "sounded") (ag bI) t.dq cP A outer s H E).env.qual++Str.ofString "<lambda>")->Q' v H')->JF P w K mg base t.bf [.ref U,.ref g,.ref p0] (eD C H5) Q' E':=λH5 g c' cl oc vs tq pm ctv la hg mJ sV Q0 nog U0 k5 aEe C ca po Q' E' q'=>by
   obtain⟨tb4,Vc,_,_⟩:=XB
   have kt5:∀{b:Addr} {xs:List V},H4 b=some (.tup xs)->H5 b=some (.tup xs):=λe=>k5 _ _ (bj e Vc (by intro z;cases z)) e
   have aAw:jV own H5 t.aA x f l d ps tells (ql tells as S):=aAx.keep λb o _ n e=>k5 b o (bj e Vc (n tb4)) e
   have Vx:D ((ql tells as S).foldl nx i0) H5:=ask.os _ _ _ Df λb o h e=>k5 b o (h.elim (λh z=>YG (z ▸ h)) λ⟨xs,ho⟩=>bj e Vc (by rw[ho];intro z;cases z)) e
   have noC:∀b o,C.lookup b=some o->¬own b:=λb o e z=>ask.od _ _ _ Vx z (po b o e)
   have RV:CellsOk C cl ["sounding"] [.ref x]:=λi y hy=>by
    match i,hy with
    | 0,hy=>
     cases hy
     obtain⟨c0,l1,l2⟩:=la.1 _ (cE.mpr rfl)
     obtain⟨c1,o,u,v,a1,a2,a3,a4,a5⟩:=ca _ (cE.mpr rfl)
     have a1':List.lookup (Str.ofString "sounding") (cellsFrom (s.heap.objs.size+1) (ag bI).names [])=some c1:=a1
     rw[a1']at l1
     cases l1
     cases a4
     exact⟨c0,o,u,_,l2,a2,a3,rfl,a5⟩
   have ak:=Wd (P:=P) (w:=w) (base:=base) T (g:=g) (c':=c') (x:=x) (f:=f) (l:=l) (d:=d) (pm:=pm) (ctv:=ctv) sV Q0 la.2.1 la.2.2 RV ask Fj Wz (by omega) W6 yc Si YJ nog U0 noC
   have sC:bN H5 (eD C H5):=uz po
   have hD':(eD C H5) g=some (dy (PySem.W.kla_obj "<lambda>" ((fQ fN P w K mg base dC (Str.ofString "sounded") (ag bI) t.dq cP A outer s H E).env.qual++Str.ofString "<lambda>") (MN aM) (MK aM) (Ii aM) cl pm c' ctv))/\(eD C H5) c'=some (dy oc)/\dD C (eD C H5)/\jV own (eD C H5) t.aA x f l d ps tells (ql tells as S)/\D ((ql tells as S).foldl nx i0) (eD C H5):=⟨sC _ _ hg,sC _ _ mJ,cQ.added,aAw.keep λb o _ _ e=>sC _ _ e,ask.g.st _ _ _ Vx sC⟩
   refine⟨U,g,p0,rfl,_,_,_,_,_,tells,ql tells as S,W,S,ak,hD',sC _ _ (kt5 hU4),sC _ _ (kt5 Zn),rise,sS,by omega,λT hT=>Iu.mpr hT,eS,λr H6 Sz k6 _=>q' _ _ ?_⟩
   obtain⟨g1,g2,g3,g4,g5⟩:=Sz
   have et:turn W tells as S=(jQ tells (ql tells) W (dv W S) (S,ql tells (ql tells as S) S)).2:=aB eS
   have out:∀{b:Addr} {o:HO},H6 b=some o->(∀o',o≠dy o')->aP C H6 b=some o:=λe n=>by rw[aT (g3.out e n)];exact e
   have keep:∀{b:Addr} {o:HO},¬Z b->b≠x->b≠l->b≠d->H5 b=some o->aP C H6 b=some o:=λ{b o} n1 n2 n3 n4 e=>by
    rw[aT (po.out e)]
    exact k6 b o (λz=>z.elim n1 λz=>z.elim n2 λz=>z.elim n3 n4) (sC _ _ e)
   rw[et]
   refine⟨g4.keep λb o n _ e=>out e n,ask.os _ _ _ g5 λb o h e=>?_,λb o n1 n2 e=>keep n1 (old e).1 (old e).2.1 (old e).2.2 (k5 b o n2 (k34 b o n1 n2 e)),?_⟩
   ·rcases h with h | ⟨xs,rfl⟩
    ·cases z:C.lookup b with
     | none=>rw[aT z];exact e
     | some o'=>exact absurd h (noC b o' z)
    ·exact out e (by intro o z;cases z)
   ·obtain⟨tb5,t1,t2,t3⟩:=aEe
    have aAv:=aAw
    obtain⟨dx5,u5,_,_,_,hx5,hl5,_,hd5,_⟩:=aAv
    exact⟨tb5,keep (nz YG) (old W0).1 (old W0).2.1 (old W0).2.2 t1,t2,.inr ⟨c',oc,vs,tq,t3,keep (nz U0) (bj mJ hx5 (by intro z;cases z)) (bj mJ hl5 (by intro z;cases z)) (bj mJ hd5 (by intro z;cases z)) mJ,sV,Q0,U0⟩⟩
  walk_at "r"
  have vals:∀q∈[(2,Str.ofString "sounding")],∃v,([some (V.ref U),some (V.ref f),some (V.ref x),some (V.ref p0),none,none]:St)[q.1]?=some (some v):=λq hq=>by
   rw[cE.mp hq];exact⟨_,rfl⟩
  have aAq:=XB
  obtain⟨tb4,Vc,tr4,aBs⟩:=aAq
  refine⟨tb4,Vc,tr4,?_⟩
  rcases aBs with hn | ⟨c',oc,vs,tq,WY,mJ,sV,Q0,U0⟩
  ·refine .inl ⟨hn,λcl g c' oc vs tq ctv la hg mJ hgc sV Q0=>⟨vals,λC ca po=>?_⟩⟩
   have hgT:g≠pT:=λz=>by rw[z,Vc]at hg;cases hg
   have hcT:c'≠pT:=λz=>by rw[z,Vc]at mJ;cases mJ
   refine use _ g c' cl oc vs tq _ ctv la ah ?_ sV Q0 (λz=>ask.od _ _ _ Df z hg) (λz=>ask.od _ _ _ Df z mJ) (λb o n e=>?_) ⟨tb4 ++ #[rawInt (Ij aM).line,rawInt (Ij aM).col,.ref c'],?_,?_,?_⟩ C ca po _ _ λv H' h=>h
   ·rw[av hgc.symm,ah]
   ·rw[av (aj e hg),av (aj e mJ),av n]
    exact e
   ·rw[av hgT.symm,av hcT.symm,ah]
    rfl
   ·rw[jG]
    exact TriplesOk_snoc _ _ _ _ tr4
   ·rw[jG]
    exact codeAmong_snoc _ tr4 hn
  ·refine .inr ⟨c',WY,λcl g ctv la hg=>⟨vals,λC ca po=>?_⟩⟩
   have hgT:g≠pT:=λz=>by rw[z,Vc]at hg;cases hg
   refine use _ g c' cl oc vs tq _ ctv la ah (by rw[av (aj mJ hg)];exact mJ) sV Q0 (λz=>ask.od _ _ _ Df z hg) U0 (λb o n e=>by rw[av (aj e hg)];exact e) ⟨tb4,by rw[av hgT.symm];exact Vc,tr4,WY⟩ C ca po _ _ λv H' h=>h
 ·rw[aC e0]
  have un:(ps.filter λT=>!det tells as T)=[]:=by
   have:(ps.filter λT=>!det tells as T).length=0:=by rw[<-lus];omega
   exact N8 this
  have Jl:∀T'∈ps,det tells as T'=true:=λT' hT'=>by
   have:=List.filter_eq_nil_iff.mp un T' hT'
   simpa using this
  have U6:=Xq nd3 OD
  have lbs:=TB.1
  walk_at "r"
  refine⟨t.aA,Xl,_,QZ,T.aV,T.cO,.ref l,rfl,l,rfl,⟨_,bu Gd⟩,?_⟩
  refine jo (zs:=List.map V.ref bs3) (λj=>if (as[j]?.any λa=>!tells a) then as[j]? else none) (λ_=>jy) jy.same jy.puts Gd (by rw[aY];omega) (λDD c H4 j z' yes no hj s4 ZV ZR ip Fi=>?_) (λD1 H4 vs s4 zP aED rl=>?_)
  ·obtain⟨b,eb,rfl⟩:=gy hj
   have Vl:j<bs3.length:=(dc.mp eb).1
   have es:as[j]?=some (as[j]'(by omega)):=bJ _
   have hb:=s4 _ _ (TB.2 j b _ eb es)
   have ha:as[j]'(by omega)∈as:=lZ _
   rw[es]at ip Fi
   generalize as[j]'(by omega)=y at hb ip Fi ha
   have ev:=aBo y (OD y ha)
   rw[aB (sj ha)]at ev
   repeat (first | walk_at "rl" | simp only[yZ])
   refine⟨t.aA,Xl,_,s4 _ _ QZ,T.aV,T.cp,.ref d,rfl,d,rfl,_,by rw[<-ev];exact sU.t (k:=y.map Sum.inl) (s4 _ _ hd3) (by rw[ny];exact hb),_,rfl,?_⟩
   cases ey:tells y with
   | true=>exact Fi (by simp[ey]) _ λ_ _ e=>e
   | false=>exact ip y (by simp[ey]) _ _ (λ_ _ e=>e) ⟨b,rfl,hb⟩
  obtain⟨cs,rfl,scs⟩:=Bt rl
  rw[aY,lbs,ud (l:=as) (p:=λa=>!tells a) λi hi=>by rw[bJ hi];rfl]at scs
  have hx4:=s4 _ _ QZ
  have W3:=s4 _ _ Gd
  walk_at "r"
  refine⟨t.aA,Xl,_,hx4,T.aV,T.cO,.ref l,rfl,l,rfl,⟨_,bu W3⟩,?_⟩
  refine jo (zs:=List.map V.ref bs3) (λj=>if (as[j]?.any tells) then as[j]? else none) (λ_=>jy) jy.same jy.puts W3 (by rw[aY];omega) (λDD c H5 j z' yes no hj s5 ZV ZR ip Fi=>?_) (λD2 H5 vs s5 Kk aEB rl2=>?_)
  ·obtain⟨b,eb,rfl⟩:=gy hj
   have Vl:j<bs3.length:=(dc.mp eb).1
   have es:as[j]?=some (as[j]'(by omega)):=bJ _
   have hb:=s5 _ _ (s4 _ _ (TB.2 j b _ eb es))
   have ha:as[j]'(by omega)∈as:=lZ _
   rw[es]at ip Fi
   generalize as[j]'(by omega)=y at hb ip Fi ha
   have ev:=aBo y (OD y ha)
   rw[aB (sj ha)]at ev
   repeat (first | walk_at "rl" | simp only[yZ])
   refine⟨t.aA,Xl,_,s5 _ _ hx4,T.aV,T.cp,.ref d,rfl,d,rfl,_,by rw[<-ev];exact sU.t (k:=y.map Sum.inl) (s5 _ _ (s4 _ _ hd3)) (by rw[ny];exact hb),_,rfl,?_⟩
   cases ey:tells y with
   | false=>exact Fi (by simp[ey]) _ λ_ _ e=>e
   | true=>exact ip y (by simp[ey]) _ _ (λ_ _ e=>e) ⟨b,rfl,hb⟩
  obtain⟨qs,rfl,sqs⟩:=Bt rl2
  rw[aY,lbs,ud (l:=as) (p:=tells) λi hi=>by rw[bJ hi];rfl]at sqs
  have Pl:∀a∈as,fS a:=λa ha=>rise.sublist (Iu.mp (OD a ha))
  have lf1:=uN (λa=>!tells a) as
  have lf2:=uN tells as
  have lc1:=scs.1
  have lq1:=sqs.1
  walk_at "r"
  refine⟨D1,rfl,cs,_,s5 _ _ aED,scs.mono λb xs e=>s5 _ _ e,by omega,λa ha=>Pl a (gq.mp ha).1,λR1 H6 cs6 clashes s6 N2 ZM sc6 aDM pw6=>?_⟩
  refine⟨D2,rfl,qs,_,s6 _ _ aEB,sqs.mono λb xs e=>s6 _ _ e,by omega,λa ha=>Pl a (gq.mp ha).1,λR2 H7 cs7 lF s7 Vu aEA sc7 aDL pw7=>?_⟩
  have s57:=s6.trans s7
  have s37:=(s4.trans s5).trans s57
  refine⟨t.aA,Xl,_,s37 _ _ QZ,T.aV,T.cO,.ref l,rfl,by decide,λr hr7=>?_⟩
  have s8:=aJ hr7 (.tup [V.ref R1,V.ref R2,V.ref l])
  have s38:=s37.trans s8
  have S':u6 own (upd H7 r (.tup [V.ref R1,V.ref R2,V.ref l])) pT ((fQ fN P w K mg base dC (Str.ofString "sounded") (ag bI) t.dq cP A outer s H E).env.qual++Str.ofString "<lambda>"):=by
   obtain⟨tb',h1,h2,h3⟩:=tab
   exact⟨tb',s38 _ _ h1,h2,h3.imp id λ⟨c',oc,vs,tq,a1,a2,a3,a4,a5⟩=>⟨c',oc,vs,tq,a1,s38 _ _ a2,a3,a4,a5⟩⟩
  exact q r _ R1 R2 l cs6 cs7 bs3 clashes lF as ps ah (s8 _ _ (s7 _ _ ZM)) (sc6.mono λb xs e=>s8 _ _ (s7 _ _ e)) (s8 _ _ aEA) (sc7.mono λb xs e=>s8 _ _ e) (s38 _ _ Gd) (TB.mono λb xs e=>s38 _ _ e) (ask.g.st _ _ _ Iz s38) (λb o n1 n2 e=>s38 _ _ (k3 b o n1 n2 e)) aDM aDL pw6 pw7 pw Vf tu Jl nd3 OD S' (λz=>by rw[z]at ZM;rw[ZM]at Vu;cases Vu) (λz=>by rw[z]at N2;rw[(s4.trans s5) _ _ Gd]at N2;cases N2) (λz=>by rw[z]at Vu;rw[((s4.trans s5).trans s6) _ _ Gd]at Vu;cases Vu) (λz=>ask.od _ _ _ (ask.g.st _ _ _ Iz (s4.trans s5)) z N2) (λz=>ask.od _ _ _ (ask.g.st _ _ _ Iz ((s4.trans s5).trans s6)) z Vu) Si
end
local macro_rules | `(tactic| walk_at "rd") => `(tactic| walk_at "rc")
local macro_rules | `(tactic| walk_at "rl") => `(tactic| first | (refine e9 fun R hR => ?_) | walk_at "ry" | (refine Nx.to (by assumption) _ _ ?_))
def Kp(N:Addr)(H H':Hp):Prop:=∀b o,b≠N->H b=some o->H' b=some o
def but(N:Addr)(H:Hp):Hp:=λb=>if b=N then none else H b
theorem xP{N b:Addr}{H:Hp}(h:b≠N):but N H b=H b:=aC h
theorem R5{N:Addr}{H:Hp}:bN (but N H) H:=λb o e=>by
 by_cases h:b=N
 ·rw[show but N H b=none from aB h]at e;cases e
 ·rw[xP h]at e;exact e
theorem Kp.but{N:Addr}{H H':Hp}(k:Kp N H H'):bN (but N H) (but N H'):=λb o e=>by
 by_cases h:b=N
 ·rw[show My.but N H b=none from aB h]at e;cases e
 ·rw[xP h]at e ⊢;exact k b o h e
theorem mK.move{H H':Hp}{p:Addr}{W:List Int}{md:Md}(k:∀b o,H b=some o->(∀ps,o≠.qM ps)->(∀o',o≠dy o')->H' b=some o)(m:mK H p W md):mK H' p W md:=by
 cases md with
 | wt g most=>obtain⟨d,ks,h1,h2,h3⟩:=m;exact⟨d,ks,k _ _ h1 (by intro o z;cases z) (by intro o z;cases z),k _ _ h2 (by intro o z;cases z) (by intro o z;cases z),h3⟩
 | WN ss=>obtain⟨l,bs,h1,h2,h3,h4⟩:=m;exact⟨l,bs,k _ _ h1 (by intro o z;cases z) (by intro o z;cases z),k _ _ h2 (by intro o z;cases z) (by intro o z;cases z),h3.mono λ_ _ e=>k _ _ e (by intro o z;cases z) (by intro o z;cases z),h4⟩
 | out ss=>obtain⟨l,bs,h1,h2,h3,h4⟩:=m;exact⟨l,bs,k _ _ h1 (by intro o z;cases z) (by intro o z;cases z),k _ _ h2 (by intro o z;cases z) (by intro o z;cases z),h3.mono λ_ _ e=>k _ _ e (by intro o z;cases z) (by intro o z;cases z),h4⟩
theorem Wy{h b:Addr}{H:Hp}{bs:List Addr}(x:fW H h)(e:H b=some (.lst (List.map V.ref bs))):b≠h:=by
 obtain⟨l,ns,o,e1,⟨_,_,_,_,_,rfl,_⟩,_⟩:=x
 intro z
 rw[z,e1]at e
 cases bs with
 | nil=>cases e
 | cons c bs=>cases bs <;> cases e
theorem mK.dr{h N:Addr}{B H:Hp}{p:Addr}{W:List Int}{md:Md}(hd:fW B h)(hN:B N=none)(d:Dr h B H)(m:mK B p W md):mK (but N H) p W md:=by
 have k:∀{b:Addr} {o:HO},B b=some o->b≠h->but N H b=some o:=λ{b o} e nb=>by
  rw[xP (aj e hN)];exact d.keep _ _ nb e
 have nd:∀{b:Addr} {aL:List (Key×V)},B b=some (.dK aL)->b≠h:=λ{b aL} e z=>by
  obtain⟨l,ns,o,e1,⟨_,_,_,_,_,rfl,_⟩,_⟩:=hd
  rw[z,e1]at e;cases e
 cases md with
 | wt g most=>obtain⟨d',ks,h1,h2,h3⟩:=m;exact⟨d',ks,k h1 (hd.qm h1),k h2 (nd h2),h3⟩
 | WN ss=>obtain⟨l,bs,h1,h2,h3,h4⟩:=m;exact⟨l,bs,k h1 (hd.qm h1),k h2 (Wy hd h2),h3.mono λ_ _ e=>k e (hd.qm e),h4⟩
 | out ss=>obtain⟨l,bs,h1,h2,h3,h4⟩:=m;exact⟨l,bs,k h1 (hd.qm h1),k h2 (Wy hd h2),h3.mono λ_ _ e=>k e (hd.qm e),h4⟩
theorem Dr.kp{h N:Addr}{B H H':Hp}{C:List (Addr×Obj)}(d:Dr h B H)(hN:B N=none)(po:cQ C H)(k:Kp N (eD C H) H'):Dr h B (aP C H'):=by
 have q:∀{b:Addr} {o:HO},H b=some o->b≠N->aP C H' b=some o:=λ{b o} e nb=>by
  have z:=po.out e
  rw[aT z];exact k b o nb (by rw[bO z];exact e)
 refine⟨λb o hb e=>q (d.keep b o hb e) (aj e hN),λl x=>?_⟩
 obtain⟨ns,oh,e1,e2,e3⟩:=d.hand l x
 obtain⟨ns0,o0,f1,_,f3⟩:=x
 exact⟨ns,oh,q e1 (aj f1 hN),e2,q e3 (aj f3 hN)⟩
def O3(f c':Addr)(fo oc:Obj)(cl:List (Str×Addr))(M N:Addr):Sp:=λvs H Q _=>∃p,vs=[.ref p]/\H f=some (dy fo)/\H c'=some (dy oc)/\∃C,dD C H/\CellsOk C cl aZ [.ref M,.ref N]/\∃(md:Md) (W S:List Int) (bs:List Addr),mK (but N H) M W md/\H N=some (.lst (List.map V.ref bs))/\bs.length<1000/\H p=some (.tup (List.map V.int S))/\S.length<=100/\(∀z∈S,z∈W)/\
 ∀H',Kp N H H'->H' N=some (.lst (List.map V.ref (bs++[p])))->Q (.bl (md.tells S)) H'
section
variable {P:Program}{w:World}{K:PySem.W.Frag}{mg:Str->Option Value}{base:Heap}{t:ye}
theorem V8(T:Txt K mg t){f c' M N:Addr}{oc:Obj}{Dl:Array Value}{tq:Tok}{qual:Str}{cl:List (Str×Addr)}{doc pm ctv:Value}(sV:oc.data=.fields Dl)(hq:Dl[1]?=some (.str qual tq))
  (ua:∀x c,cl.lookup x=some c->x∈aZ) (inj:∀x y c,cl.lookup x=some c->cl.lookup y=some c->x=y) :
  pz P w K mg base 8 f (O3 f c' (PySem.W.fnMade "_law_ask" qual (aW bz) (aO bz) (ag bz) cl doc pm c' ctv) oc cl M N):=by
 have iP:=wR (P:=P) (w:=w) (base:=base) T
 refine Z' (k:=7) (fo:=PySem.W.fnMade "_law_ask" qual (aW bz) (aO bz) (ag bz) cl doc pm c' ctv) (oc:=oc) (name:="_law_ask") (qual:=qual) (params:=aW bz) (body:=aO bz) (scope:=ag bz) (cl:=cl) (doc:=doc) (pm:=pm) (ctv:=ctv) (ps:=qg) (fr:=aZ) rfl sV hq rfl rfl rfl (by decide +kernel) (by decide +kernel) (by decide +kernel) (by decide +kernel) (λx hx=>?_) ua inj (λus hu=>?_) λvs H Q E h=>?_
 ·have:freeOf (ag bz)=aZ:=by decide +kernel
  rw[<-this]
  exact fY.mpr ⟨(x,.free),gq.mpr ⟨kr hx,rfl⟩,rfl⟩
 ·match us,hu with
  | [_],_=>rfl
 obtain⟨p,rfl,hf,mJ,C,pin,RV,md,W,S,bs,ma,hN,lb,hp,lS,sub,q⟩:=h
 refine⟨C,[.ref M,.ref N],rfl,hf,mJ,pin,rfl,RV,λA outer s hr hc=>?_⟩
 refine⟨_,(by apply au;exact(dP (pO vG vH vI gp (aq hc 2) (ae (aq hc 0) ai)));exact az (aQ (aD iP (hr.mono (by omega)) (cG hc) T.rZ T.lX.kp T.sI .nil bh (ae (aq hc 1) (ae (aq hc 0) ai))))),?_⟩
 walk_at "r"
 have out:∀{b:Addr} {o:HO},H b=some o->(∀o',o≠dy o')->aP C H b=some o:=λe n=>by rw[aT (pin.out e n)];exact e
 have hN':aP C H N=some (.lst (List.map V.ref bs)):=out hN (by intro o z;cases z)
 have W2:aP C H p=some (.tup (List.map V.int S)):=out hp (by intro o z;cases z)
 refine⟨.inl ⟨rfl,_,bu hN'⟩,_,hN',by rw[aY];exact bU (by omega),?_⟩
 have ma':mK (but N (aP C H)) M W md:=ma.move λb o e nt np=>by
  by_cases hb:b=N
  ·rw[show but N H b=none from aB hb]at e;cases e
  ·rw[xP hb]at e ⊢;exact out e np
 have kp1:Kp N (aP C H) (upd (aP C H) N (.lst (List.map V.ref bs++[V.ref p]))):=λb o hb e=>by rw[av hb];exact e
 have hN1:upd (aP C H) N (.lst (List.map V.ref bs++[V.ref p])) N=some (.lst (List.map V.ref (bs++[p]))):=by rw[ah,eU];rfl
 have hpN:p≠N:=bj hp hN (by intro z;cases z)
 have vk:=kp1 _ _ hpN W2
 have ma1:=(ma'.same kp1.but).same R5
 generalize upd (aP C H) N (.lst (List.map V.ref bs++[V.ref p]))=H1 at kp1 hN1 vk ma1 ⊢
 walk_at "r"
 refine⟨M,p,rfl,md,W,S,ma1,vk,lS,sub,λH2 s2=>q _ (λb o hb e=>?_) ?_⟩
 ·cases e1:C.lookup b with
  | some o'=>rw[pin b o' e1]at e;cases e;exact jU e1
  | none=>rw[bO e1];exact s2 _ _ (kp1 b o hb (by rw[aT e1];exact e))
 ·rw[bO (pin.out hN (by intro o z;cases z))];exact s2 _ _ hN1
end
def aAi(B:Hp)(C:List (Addr×Obj))(N:Addr)(dom:List Int->Prop)(ts:List (List Int))(H:Hp):Prop:=(∀b o,B b=some o->H b=some o)/\dD C H/\(∃bs,H N=some (.lst (List.map V.ref bs))/\aE H bs ts)/\∀s∈ts,dom s
section
variable {P:Program}{w:World}{K:PySem.W.Frag}{mg:Str->Option Value}{base:Heap}{t:ye}
theorem KQ{B:Hp}{f c' M N:Addr}{fo oc:Obj}{fd:FuncData}{cl:List (Str×Addr)}{C:List (Addr×Obj)}{x:List Int}{md:Md}{dom:List Int->Prop}(hfd:fo.data=.func fd)(V9:pz P w K mg base 8 f (O3 f c' fo oc cl M N))(RV:CellsOk C cl aZ [.ref M,.ref N])(oI:∀S,dom S->S.length<=100/\∀z∈S,z∈x)
  (hf:B f=some (dy fo)) (hc:B c'=some (dy oc)) (hm:mK B M x md) (hN:B N=none) :
  Wo P w K mg base 8 f (λb=>b=N) (λb=>b=N\/(∃o,B b=some o)\/∃o,C.lookup b=some o) (aAi B C N dom) (λts S=>ts++[S]) (λts=>ts.length<=300) dom md.tells:=by
 refine⟨⟨⟨_,V9,λts H p S Q hD hn hp hS q=>?_⟩,λts H hD=>⟨fo,fd,hD.1 _ _ hf,hfd⟩,λts H H' hD s=>?_,λts H b xs hD hz e=>?_⟩,λb h=>.inl h,λts H b hD h=>?_,λts H H' hD k=>?_⟩
 ·obtain⟨h1,h2,⟨bs,h3,h4⟩,h5⟩:=hD
  have lb:=h4.1
  have sB:bN B (but N H):=λb o e=>by rw[xP (aj e hN)];exact h1 b o e
  refine⟨p,rfl,h1 _ _ hf,h1 _ _ hc,C,h2,RV,md,x,S,bs,hm.same sB,h3,by omega,hp,(oI S hS).1,(oI S hS).2,λH' k hN'=>q H' ?_ λb o n e=>k b o n e⟩
  have ne:∀{b:Addr} {o:HO},H b=some o->o≠.lst (List.map V.ref bs)->H' b=some o:=λe n=>k _ _ (bj e h3 n) e
  refine⟨λb o e=>k b o (aj e hN) (h1 b o e),λb o e=>ne (h2 b o e) (by intro z;cases z),⟨bs++[p],hN',(h4.mono λ_ _ e=>ne e (by intro z;cases z)).snoc (ne hp (by intro z;cases z))⟩,λs hs=>?_⟩
  rcases cv.mp hs with z | z
  ·exact h5 s z
  ·rw[cE.mp z];exact hS
 ·obtain⟨h1,h2,⟨bs,h3,h4⟩,h5⟩:=hD
  exact⟨λb o e=>s _ _ (h1 b o e),λb o e=>s _ _ (h2 b o e),⟨bs,s _ _ h3,h4.mono λ_ _ e=>s _ _ e⟩,h5⟩
 ·obtain⟨h1,h2,⟨bs,h3,h4⟩,h5⟩:=hD
  have Iq:b=N:=hz
  rw[Iq,h3]at e;cases e
 ·obtain⟨h1,h2,⟨bs,h3,h4⟩,h5⟩:=hD
  rcases h with rfl | ⟨o,e⟩ | ⟨o,e⟩
  ·rw[h3];intro z;cases z
  ·rw[h1 b o e];intro z;cases z
  ·rw[h2 b o e];intro z;cases z
 ·obtain⟨h1,h2,⟨bs,h3,h4⟩,h5⟩:=hD
  exact⟨λb o e=>k b o (.inl (.inr (.inl ⟨o,e⟩))) (h1 b o e),λb o e=>k b _ (.inl (.inr (.inr ⟨o,e⟩))) (h2 b o e),⟨bs,k _ _ (.inl (.inl rfl)) h3,h4.mono λb xs e=>k b _ (.inr ⟨xs,rfl⟩) e⟩,h5⟩
end
local macro_rules | `(tactic| walk_at "rd") => `(tactic| walk_at "rc")
local macro_rules | `(tactic| walk_at "rl") => `(tactic| first | (refine e9 fun R hR => ?_) | walk_at "ry" | (refine Nx.to (by assumption) _ _ ?_))
section
variable {P:Program}{w:World}{K:PySem.W.Frag}{mg:Str->Option Value}{base:Heap}{t:ye}
theorem Qs(T:Txt K mg t):bS P w K mg base fN 1 t.iF t.iE ["_law_thing"] Tn:=by
 refine T.mw.rO tW (λvs H Q E h=>?_) (λcP A outer s H vs Q E hr h hc hf=>?_)
 ·obtain⟨i,rfl,_⟩:=h;rfl
 obtain⟨i,rfl,q⟩:=h
 refine⟨_,(by exact az (aQ (S6 (bt kQ (cG hc) T.z_isinstance gE (ae (aq hc 0) (ae (mW (v:=V.ty "int") (cG hc) T.z_int aB9 rfl) ai))) (SX (Jy (bt kQ (cG hc) T.z_isinstance gE (ae (aq hc 0) (ae (mW (v:=V.ty "bool") (cG hc) T.z_bool aAc rfl) ai)))))))),?_⟩
 repeat (walk_at "rd")
 refine⟨_,.int i,true,se _ _,?_⟩
 repeat (walk_at "rd")
 refine⟨_,.int i,false,Y1 (by decide) rfl,?_⟩
 repeat (walk_at "rd")
 exact q
theorem Ec(T:Txt K mg t):bS P w K mg base fN 2 t.kg t.kc ["_law_thing"] Tv:=by
 have vr:=Qs (P:=P) (w:=w) (base:=base) T
 refine T.kl.rO wH (λvs H Q E h=>?_) (λcP A outer s H vs Q E hr h hc hf=>?_)
 ·obtain⟨a,rfl,_⟩:=h;rfl
 obtain⟨a,rfl,x,ha,lx,rise,q⟩:=h
 refine⟨_,(by apply au;exact(cg (mX (lq (dG (bM (bt kQ (cG hc) T.z_isinstance gE (ae (aq hc 0) (ae (mW (v:=V.ty "tuple") (cG hc) T.z_tuple lQ rfl) ai))))) (lj (dG (bM (bt (oB hr.hd) (cG hc) T.z_all KN (ae (dR hc ["_law_one"] [] rfl (by decide +kernel) (ic (aq hc 0)) (λ_ hc=>qZ hc (by decide +kernel) 0 (by decide +kernel)) (λ_ _=>fz) (λ_ hc=>(aD vr (hr.mono (by omega)) (cG hc) T.vi T.mw.kp T.vp .nil bh (ae (aq hc 0) ai)))) ai))))))) (by exact az (aQ eB)) bA);exact az (aQ (bt (oB hr.hd) (cG hc) T.z_all KN (ae (dR hc ["_law_k"] [0] rfl (by decide +kernel) (ja (cG hc) T.z_range (ae (bq Hw (bt iT (cG hc) T.z_len sG (ae (aq hc 0) ai)) ao) ai)) (λ_ hc=>qZ hc (by decide +kernel) 0 (by decide +kernel)) (λ_ _=>fz) (λ_ hc=>(mV Qp (bC oH (aq hc 1) (aq hc 0) (λ_ _=>rfl)) (bC oH (aq hc 1) (bq gX (aq hc 0) ao) (λ_ _=>rfl)) (dg _)))) ai)))),?_⟩
 repeat (walk_at "rd")
 refine⟨_,.tup ha,true,se _ _,?_⟩
 repeat (walk_at "rd")
 refine⟨⟨_,ck ha⟩,?_⟩
 obtain⟨Pc,jw⟩:∃Pc:Addr->Nat->List V->Hp->Prop,∀Z i ys H',Pc Z i ys H'↔ys=List.map V.bl (List.replicate i true)/\bN H H'/\H' Z=some (.lst ys):=⟨_,λ_ _ _ _=>dJ⟩
 refine jS (zs:=List.map V.int x) Pc (λZ hZ=>(jw _ _ _ _).mpr ⟨rfl,aJ hZ _,ah⟩) (λZ hZ i ys H' _ pv=>?_) (λZ hZ i z ys H' hz pv cb=>?_) (λZ hZ ys H' pv=>?_)
 ·obtain⟨_,s,_⟩:=(jw _ _ _ _).mp pv
  exact s _ _ ha
 ·obtain⟨rfl,s1,qu⟩:=(jw _ _ _ _).mp pv
  obtain⟨n,en,rfl⟩:=int_at hz
  have hi:i<x.length:=(dc.mp en).1
  walk_at "rc"
  repeat (walk_at "rd")
  refine⟨n,rfl,qu,by rw[vF];exact bU (by omega),(jw _ _ _ _).mpr ⟨?_,oo s1 hZ,ah⟩⟩
  rw[Gu,eU];rfl
 ·obtain⟨rfl,s1,qu⟩:=(jw _ _ _ _).mp pv
  refine⟨Z,rfl,_,qu,?_⟩
  rw[all_true]
  repeat (walk_at "rd")
  have ha1:=s1 _ _ ha
  repeat (first | walk_at "rd" | simp only[ha1])
  refine⟨by omega,by omega,?_⟩
  obtain⟨Pd,hPd⟩:∃Pd:Addr->Nat->List V->Hp->Prop,∀Z2 i ys uC,Pd Z2 i ys uC↔ys=List.map V.bl (List.replicate i true)/\bN H' uC/\uC Z2=some (.lst ys):=⟨_,λ_ _ _ _=>dJ⟩
  refine uZ Pd (λZ2 ZF=>(hPd _ _ _ _).mpr ⟨rfl,aJ ZF _,ah⟩) (λZ2 ZF i ys H2 hi pv cb=>?_) (λZ2 ZF ys H2 pv=>?_)
  ·obtain⟨rfl,s2,hZ3⟩:=(hPd _ _ _ _).mp pv
   have ha2:=s2 _ _ ha1
   have j1:i<x.length:=by omega
   have j2:i+1<x.length:=by omega
   have e1:vq (List.map V.int x) (i:Int)=some (.int x[i]):=gF (by rw[cH,bJ j1];rfl)
   have e2:vq (List.map V.int x) ((i:Int)+1)=some (.int x[i+1]):=gF (j:=i+1) (by rw[cH,bJ j2];rfl)
   walk_at "rc"
   repeat (first | walk_at "rd" | simp only[ha2,e1,e2])
   have lt:x[i]<x[i+1]:=(yJ.mp rise) i (i+1) j1 j2 (by omega)
   rw[decide_eq_true lt]
   refine⟨hZ3,by rw[vF];exact bU (by omega),(hPd _ _ _ _).mpr ⟨?_,oo s2 ZF,ah⟩⟩
   rw[Gu,eU];rfl
  ·obtain⟨rfl,s2,hZ3⟩:=(hPd _ _ _ _).mp pv
   refine⟨Z2,rfl,_,hZ3,?_⟩
   rw[all_true]
   exact q _ (s1.trans s2)
theorem Mr(T:Txt K mg t):bS P w K mg base fN 3 t.kh t.ke ["_law_told","_law_due"] XM:=by
 have kj:=Ec (P:=P) (w:=w) (base:=base) T
 refine T.px.rO wI (λvs H Q E h=>?_) (λcP A outer s H vs Q E hr h hc hf=>?_)
 ·obtain⟨a,b,rfl,_⟩:=h;rfl
 obtain⟨L,M,rfl,as,bs,ss,hL,hM,sa,sb,la,rise,q⟩:=h
 have hu:=nE hr
 have Sl:=hr.iD
 refine⟨_,(by apply au;exact(cg (mX (lq (dG (bM (bt kQ (cG hc) T.z_isinstance gE (ae (aq hc 0) (ae (mW (v:=V.ty "list") (cG hc) T.z_list ur rfl) ai))))) (lj (dG (bM (bt (oB hr.hd) (cG hc) T.z_all KN (ae (dR hc ["_law_one"] [] rfl (by decide +kernel) (dQ (aq hc 0)) (λ_ hc=>qZ hc (by decide +kernel) 0 (by decide +kernel)) (λ_ _=>fz) (λ_ hc=>(aD kj (hr.mono (by omega)) (cG hc) T.oZ T.kl.kp T.o9 .nil bh (ae (aq hc 0) ai)))) ai))))))) (by exact az (aQ eB)) bA);exact az (aQ (mV (Uv hu) (aq hc 0) (aq hc 1) (dg _)))),?_⟩
 repeat (walk_at "rd")
 refine⟨_,.lst hL,true,se _ _,?_⟩
 repeat (walk_at "rd")
 refine⟨⟨_,bu hL⟩,?_⟩
 obtain⟨Pc,jw⟩:∃Pc:Addr->Nat->List V->Hp->Prop,∀Z i ys H',Pc Z i ys H'↔ys=List.map V.bl (List.replicate i true)/\bN H H'/\H' Z=some (.lst ys):=⟨_,λ_ _ _ _=>dJ⟩
 refine sA (zs:=List.map V.ref as) Pc (λZ hZ=>(jw _ _ _ _).mpr ⟨rfl,aJ hZ _,ah⟩) (λZ hZ i ys H' _ pv=>?_) (λZ hZ i z ys H' hz pv cb=>?_) (λZ hZ ys H' pv=>?_)
 ·obtain⟨_,s,_⟩:=(jw _ _ _ _).mp pv
  exact s _ _ hL
 ·obtain⟨rfl,s1,qu⟩:=(jw _ _ _ _).mp pv
  obtain⟨c,ec,rfl⟩:=gy hz
  have hi:i<as.length:=(dc.mp ec).1
  have qN:i<ss.length:=by have:=sa.1;omega
  have es:ss[i]?=some ss[i]:=bJ qN
  obtain⟨r1,r2⟩:=rise _ (lZ qN)
  walk_at "rc"
  repeat (walk_at "rd")
  refine⟨c,rfl,_,s1 _ _ (sa.2 i c _ ec es),r2,r1,λH2 s2=>⟨s2 _ _ qu,by rw[vF];exact vw (by omega),(jw _ _ _ _).mpr ⟨?_,oo (s1.trans s2) hZ,ah⟩⟩⟩
  rw[Gu,eU];rfl
 ·obtain⟨rfl,s1,qu⟩:=(jw _ _ _ _).mp pv
  refine⟨Z,rfl,_,qu,?_⟩
  rw[all_true]
  repeat (walk_at "rd")
  refine⟨as,s1 _ _ hL,bs,s1 _ _ hM,ss,sa.mono λb xs e=>s1 _ _ e,ss,sb.mono λb xs e=>s1 _ _ e,?_⟩
  have:=q _ s1
  simpa using this
end
local macro_rules | `(tactic| walk_at "rd") => `(tactic| walk_at "rc")
local macro_rules | `(tactic| walk_at "rl") => `(tactic| first | (refine e9 fun R hR => ?_) | walk_at "ry" | (refine Nx.to (by assumption) _ _ ?_))
def XJ:Sp:=λvs H Q _=>∃L W,vs=[.ref L,.ref W]/\∃bs as x,H L=some (.lst (List.map V.ref bs))/\aE H bs as/\H W=some (.tup (List.map V.int x))/\(∀a∈as,fS a/\a.length<=100/\∀z∈a,z∈x)/\∀H',bN H H'->Q (.bl true) H'
def XZ:Sp:=λvs H Q _=>∃M L,vs=[.ref M,.ref L]/\∃(md:Md) (x:List Int) (bs:List Addr) (as:List (List Int)),mK H M x md/\H L=some (.lst (List.map V.ref bs))/\aE H bs as/\as.length<=900/\(∀a∈as,a.length<=100/\∀z∈a,z∈x)/\(∀k (h:k<as.length),det md.tells (as.take k) as[k]=false)/\∀H',bN H H'->Q (.bl true) H'
section
variable {P:Program}{w:World}{K:PySem.W.Frag}{mg:Str->Option Value}{base:Heap}{t:ye}
theorem Uy(T:Txt K mg t):bS P w K mg base fN 3 t.gH t.gD ["_law_notes","_law_whole"] XJ:=by
 have kj:=Ec (P:=P) (w:=w) (base:=base) T
 have cA:=tZ (P:=P) (w:=w) (base:=base) T
 refine T.jY.rO jg (λvs H Q E h=>?_) (λcP A outer s H vs Q E hr h hc hf=>?_)
 ·obtain⟨a,b,rfl,_⟩:=h;rfl
 obtain⟨L,W,rfl,bs,as,x,hL,sb,hW,ri,q⟩:=h
 have lb:=sb.1
 refine⟨_,(by apply au;exact(er iH rfl (dQ (aq hc 0)) (pN hc jg.nd hf 2 (by decide +kernel)) (by exact az (cg (mX (lq (dG (bM (aD kj (hr.mono (by omega)) (cG hc) T.oZ T.kl.kp T.o9 .nil bh (ae (aq hc 2) ai)))) (lj (dG (bM (aD cA (hr.mono (by omega)) (cG hc) T.dX T.cZ.kp T.dY .nil bh (ae (aq hc 2) (ae (aq hc 1) ai)))))))) (by exact az (aQ eB)) bA)));exact az (aQ eB)),?_⟩
 walk_at "r"
 refine⟨⟨_,bu hL⟩,?_⟩
 obtain⟨Pv,dF⟩:∃Pv:Nat->St->Hp->Prop,∀i σ' H',Pv i σ' H'↔∃z:Option V,σ'=[some (.ref L),some (.ref W),z]/\bN H H':=⟨_,λ_ _ _=>dJ⟩
 refine fj (xs:=List.map V.ref bs) Pv ((dF _ _ _).mpr ⟨none,rfl,λ_ _ e=>e⟩) (λi σ' H' _ pv=>?_) (λi z σ' H1 hz pv=>?_) (λσ' H1 pv=>?_)
 ·obtain⟨_,_,s1⟩:=(dF _ _ _).mp pv
  exact s1 _ _ hL
 ·obtain⟨z,rfl,s1⟩:=(dF _ _ _).mp pv
  obtain⟨b,eb,rfl⟩:=gy hz
  have hi:i<bs.length:=(dc.mp eb).1
  have et:as[i]?=some (as[i]'(by omega)):=bJ _
  have hb:=s1 _ _ (sb.2 i b _ eb et)
  obtain⟨r1,r2,r3⟩:=ri _ (lZ (l:=as) (n:=i) (by omega))
  generalize as[i]'(by omega)=S at hb r1 r2 r3
  walk_at "r"
  refine⟨b,rfl,S,hb,by omega,r1,λH2 s2=>⟨_,rfl,?_⟩⟩
  rw[aC (by decide)]
  refine⟨b,W,rfl,S,x,s2 _ _ hb,s2 _ _ (s1 _ _ hW),by omega,λH3 s3=>⟨_,rfl,?_⟩⟩
  rw[bR.mpr r3,aC (by decide)]
  exact(dF _ _ _).mpr ⟨_,rfl,(s1.trans s2).trans s3⟩
 ·obtain⟨_,rfl,s1⟩:=(dF _ _ _).mp pv
  walk_at "r"
  exact q _ s1
theorem UL(T:Txt K mg t):bS P w K mg base fN 3 t.fM t.fK ["_law_model_here","_law_asked"] XZ:=by
 have iP:=wR (P:=P) (w:=w) (base:=base) T
 have cA:=tZ (P:=P) (w:=w) (base:=base) T
 refine T.iM.rO fc (λvs H Q E h=>?_) (λcP A outer s H vs Q E hr h hc hf=>?_)
 ·obtain⟨a,b,rfl,_⟩:=h;rfl
 obtain⟨M,L,rfl,md,x,bs,as,hM,hL,sb,l9,ri,nf,q⟩:=h
 have lb:=sb.1
 refine⟨_,(by apply au;exact(er iH rfl (ja (cG hc) T.z_range (ae (bt uo (cG hc) T.z_len sG (ae (aq hc 1) ai)) ai)) (pN hc fc.nd hf 2 (by decide +kernel)) (by exact az (er iH rfl (dQ (n6 aAC (aq hc 1) wd (mU (aq hc 2)))) (pN hc fc.nd hf 3 (by decide +kernel)) (by exact az (cg (bM (aD iP (hr.mono (by omega)) (cG hc) T.rZ T.lX.kp T.sI .nil bh (ae (aq hc 0) (ae (aq hc 3) ai)))) (by exact az (cg (bM (aD cA (hr.mono (by omega)) (cG hc) T.dX T.cZ.kp T.dY .nil bh (ae (bC jv (aq hc 1) (aq hc 2) (λ_ _=>rfl)) (ae (aq hc 3) ai)))) (by exact az (aQ eB)) bA)) (by exact az (cg (bM (aD cA (hr.mono (by omega)) (cG hc) T.dX T.cZ.kp T.dY .nil bh (ae (aq hc 3) (ae (bC jv (aq hc 1) (aq hc 2) (λ_ _=>rfl)) ai)))) (by exact az (aQ eB)) bA)))))));exact az (aQ eB)),?_⟩
 repeat (first | walk_at "rl" | simp only[hL])
 have st:∀i (hi:i<as.length),∃b,bs[i]?=some b/\H b=some (.tup (List.map V.int as[i])):=λi hi=>by
  have e1:bs[i]?=some (bs[i]'(by omega)):=bJ _
  exact⟨_,e1,sb.2 i _ _ e1 (bJ hi)⟩
 refine⟨by omega,by omega,?_⟩
 obtain⟨Pv,dF⟩:∃Pv:Nat->St->Hp->Prop,∀i σ' H',Pv i σ' H'↔∃z1 z2:Option V,σ'=[some (.ref M),some (.ref L),z1,z2]/\bN H H':=⟨_,λ_ _ _=>dJ⟩
 refine qw Pv ((dF _ _ _).mpr ⟨none,none,rfl,λ_ _ e=>e⟩) (λi σ' H1 hi pv=>?_) (λσ' H1 pv=>?_)
 ·obtain⟨z1,z2,rfl,s1⟩:=(dF _ _ _).mp pv
  have Iw:i<as.length:=by omega
  obtain⟨b,eb,hb⟩:=st i Iw
  have Cr:=s1 _ _ hL
  have nfi:=nf i Iw
  obtain⟨l1,i1⟩:=ri _ (lZ Iw)
  have at1:vq (List.map V.ref bs) (i:Int)=some (.ref b):=gF (by rw[cH,eb];rfl)
  repeat (first | walk_at "rl" | simp only[Cr,at1,Int.zero_add])
  intro p hp
  rw[V4 _ (by omega),show((i:Int)).toNat=i by omega,<-List.map_take]
  have sp:=s1.trans (aJ hp (.lst (List.map V.ref (bs.take i))))
  have Sq:upd H1 p (.lst (List.map V.ref (bs.take i))) p=some (.lst (List.map V.ref (bs.take i))):=ah
  generalize upd H1 p (.lst (List.map V.ref (bs.take i)))=H2 at sp Sq ⊢
  refine⟨⟨_,bu Sq⟩,?_⟩
  obtain⟨Pw,hPw⟩:∃Pw:Nat->St->Hp->Prop,∀j σ' H',Pw j σ' H'↔∃z2:Option V,σ'=[some (.ref M),some (.ref L),some (.int (i:Int)),z2]/\bN H H'/\bN H2 H':=⟨_,λ_ _ _=>dJ⟩
  refine fj (xs:=List.map V.ref (bs.take i)) Pw ((hPw _ _ _).mpr ⟨z2,rfl,sp,λ_ _ e=>e⟩) (λj σ' H' _ pw=>?_) (λj z σ' H3 hz pw=>?_) (λσ' H3 pw=>?_)
  ·obtain⟨_,_,_,s⟩:=(hPw _ _ _).mp pw
   exact s _ _ Sq
  ·obtain⟨z2,rfl,s3,s23⟩:=(hPw _ _ _).mp pw
   obtain⟨b2,eb2,rfl⟩:=gy hz
   have hji:j<i:=by
    have:=(dc.mp eb2).1
    rw[gL]at this;omega
   rw[List.getElem?_take_of_lt hji]at eb2
   have vm:j<as.length:=by omega
   have W9:=sb.2 j b2 _ eb2 (bJ vm)
   obtain⟨l2,i2⟩:=ri _ (lZ vm)
   have Sx:=s3 _ _ hL
   have nc:cov (md.tells as[j]) as[j] as[i]=false:=by
    have h1:¬(as.take i).any (λa=>cov (md.tells a) a as[i])=true:=by
     intro z;have z':det md.tells (as.take i) as[i]=true:=z;rw[nfi]at z';cases z'
    cases e:cov (md.tells as[j]) as[j] as[i] with
    | false=>rfl
    | true=>exact absurd (gK.mpr ⟨as[j],List.mem_take_iff_getElem.mpr ⟨j,by omega,rfl⟩,e⟩) h1
   repeat (first | walk_at "rl" | simp only[Sx,at1])
   refine⟨M,b2,rfl,md,x,_,hM.same s3,s3 _ _ W9,l2,i2,λH4 s4=>⟨_,rfl,?_⟩⟩
   have hL4:=s4 _ _ Sx
   have nx:∀H',bN H4 H'->Pw (j+1) [some (.ref M),some (.ref L),some (.int (i:Int)),some (.ref b2)] H':=λH' s=>(hPw _ _ _).mpr ⟨_,rfl,(s3.trans s4).trans s,(s23.trans s4).trans s⟩
   unfold cov at nc
   cases et:md.tells as[j] with
   | true=>
    rw[et]at nc
    simp at nc
    rw[aB rfl]
    repeat (first | walk_at "rl" | simp only[hL4,at1])
    refine⟨b,b2,rfl,_,_,s4 _ _ (s3 _ _ hb),s4 _ _ (s3 _ _ W9),by omega,λH5 s5=>⟨_,rfl,?_⟩⟩
    rw[nc,aC (by decide)]
    exact nx H5 s5
   | false=>
    rw[et]at nc
    simp at nc
    rw[aC (by decide)]
    repeat (first | walk_at "rl" | simp only[hL4,at1])
    refine⟨b2,b,rfl,_,_,s4 _ _ (s3 _ _ W9),s4 _ _ (s3 _ _ hb),by omega,λH5 s5=>⟨_,rfl,?_⟩⟩
    rw[nc,aC (by decide)]
    exact nx H5 s5
  ·obtain⟨z2,rfl,s3,_⟩:=(hPw _ _ _).mp pw
   exact(dF _ _ _).mpr ⟨_,_,rfl,s3⟩
 ·obtain⟨z1,z2,rfl,s1⟩:=(dF _ _ _).mp pv
  walk_at "r"
  exact q _ s1
end
local macro_rules | `(tactic| walk_at "rd") => `(tactic| walk_at "rc")
local macro_rules | `(tactic| walk_at "rl") => `(tactic| first | (refine e9 fun R hR => ?_) | walk_at "ry" | (refine Nx.to (by assumption) _ _ ?_))
theorem Tg{g:Int->Int}(g0:∀z,0<=g z){S T:List Int}(h:S.Sublist T):(S.map g).sum<=(T.map g).sum:=by
 induction h with
 | slnil=>exact fX _
 | cons a _ ih=>rw[eF,List.sum_cons];have:=g0 a;omega
 | cons_cons a _ ih=>rw[eF,eF,List.sum_cons,List.sum_cons];omega
theorem Qo{S T:List Int}(rS:fS S)(rT:fS T)(h:aH S T=true):S.Sublist T:=by
 have e:T.filter (λz=>decide (z∈S))=S:=rG (rT.sublist Gq) rS λz=>by
  rw[gq,gM]
  exact⟨λh=>h.2,λhz=>⟨bR.mp h z hz,hz⟩⟩
 rw[<-e];exact Gq
theorem J8{H:Hp}{p:Addr}{x:List Int}{md:Md}(rx:fS x)(m:mK H p x md):xV (gb x) md.tells:=λS hS T hT hp ht=>by
 cases md with
 | wt g most=>
  obtain⟨d,ks,_,_,_,g0⟩:=m
  have:=Tg g0 (Qo (rx.sublist (j4 hS)) (rx.sublist (j4 hT)) hp)
  have Ze:=of_decide_eq_true ht
  exact decide_eq_true (by omega)
 | WN ss=>
  obtain⟨s,hs,e⟩:=gK.mp ht
  exact gK.mpr ⟨s,hs,bR.mpr λz hz=>bR.mp e z (bR.mp hp z hz)⟩
 | out ss=>
  have Ze:(!(ss.any λs=>aH s T))=true:=ht
  show(!(ss.any λs=>aH s S))=true
  cases e:ss.any λs=>aH s S with
  | false=>rfl
  | true=>
   obtain⟨s,hs,e⟩:=gK.mp e
   have e2:(ss.any λs=>aH s T)=true:=gK.mpr ⟨s,hs,bR.mpr λz hz=>bR.mp hp z (bR.mp e z hz)⟩
   rw[e2]at Ze
   cases Ze
theorem Jc{A B:List (List Int)}(pa:A.Pairwise (λa b=>cy a b=true))(pb:B.Pairwise (λa b=>cy a b=true))(h:∀x,x∈A↔x∈B):A=B:=by
 induction A generalizing B with
 | nil=>
  cases B with
  | nil=>rfl
  | cons b B=>exact absurd ((h b).mpr du) (by simp)
 | cons a A ih=>
  cases B with
  | nil=>exact absurd ((h a).mp du) (by simp)
  | cons b B=>
   have p1:=v3.mp pa
   have p2:=v3.mp pb
   have e:a=b:=by
    rcases bT.mp ((h a).mp du) with e | e
    ·exact e
    rcases bT.mp ((h b).mpr du) with e' | e'
    ·exact e'.symm
    have:=O8 (p1.1 b e') (p2.1 a e)
    rw[om]at this;cases this
   subst e
   congr 1
   refine ih p1.2 p2.2 λx=>⟨λhx=>?_,λhx=>?_⟩
   ·rcases bT.mp ((h x).mp (dN _ hx)) with e | e
    ·rw[e]at hx
     have:=p1.1 a hx
     rw[om]at this;cases this
    ·exact e
   ·rcases bT.mp ((h x).mpr (dN _ hx)) with e | e
    ·rw[e]at hx
     have:=p2.1 a hx
     rw[om]at this;cases this
    ·exact e
inductive Reach (ps:List (List Int)) (W:List Int) (tells:List Int->Bool):List (List Int)->List (List Int)->Prop
 | refl (a:List (List Int)):Reach ps W tells a a
 | step {a b:List (List Int)} {S:List Int} {r:List (List Int)}:Reach ps W tells a b->(ps.filter λT=>!det tells b T)=S::r->Reach ps W tells a (turn W tells b S)
theorem Reach.first{ps:List (List Int)}{W:List Int}{tells:List Int->Bool}{a b:List (List Int)}(h:Reach ps W tells a b):a=b\/∃S r,(ps.filter λT=>!det tells a T)=S::r/\Reach ps W tells (turn W tells a S) b:=by
 induction h with
 | refl=>exact .inl rfl
 | step h1 e ih=>
  rcases ih with rfl | ⟨S,r,e1,h2⟩
  ·exact .inr ⟨_,_,e,.refl _⟩
  ·exact .inr ⟨S,r,e1,h2.step e⟩
theorem pd.reach{ps:List (List Int)}{W:List Int}{tells:List Int->Bool}{b:List (List Int)}(h:pd ps W tells b):Reach ps W tells [] b:=by
 induction h with
 | nil=>exact .refl _
 | step _ e ih=>exact ih.step e
theorem Lf{ps:List (List Int)}{W:List Int}{tells:List Int->Bool}{a b:List (List Int)}(ha:pd ps W tells a)(hb:pd ps W tells b)(ea:∀T∈ps,det tells a T=true)(eb:∀T∈ps,det tells b T=true):a=b:=by
 have fin:∀{c:List (List Int)},(∀T∈ps,det tells c T=true)->(ps.filter λT=>!det tells c T)=[]:=λh=>List.filter_eq_nil_iff.mpr λT hT=>by rw[h T hT];decide
 have ord:Reach ps W tells a b\/Reach ps W tells b a:=by
  clear eb
  induction hb with
  | nil=>exact .inr ha.reach
  | step _ e ih=>
   rcases ih with h | h
   ·exact .inl (h.step e)
   ·rcases h.first with rfl | ⟨S,r,e1,h2⟩
    ·exact .inl (.step (.refl _) e)
    ·rw[e]at e1
     injection e1 with e1 _
     subst e1
     exact .inr h2
 rcases ord with h | h
 ·rcases h.first with e | ⟨S,r,e1,_⟩
  ·exact e
  ·rw[fin ea]at e1;cases e1
 ·rcases h.first with e | ⟨S,r,e1,_⟩
  ·exact e.symm
  ·rw[fin eb]at e1;cases e1
def NF(tells:List Int->Bool)(as:List (List Int)):Prop:=∀k (h:k<as.length),det tells (as.take k) as[k]=false
theorem J5{tells:List Int->Bool}{as:List (List Int)}(h:NF tells as)(S:List Int):NF tells (ql tells as S):=by
 unfold ql
 by_cases c:det tells as S=true
 ·rw[aB c];exact h
 ·rw[aC c]
  intro k hk
  rw[cS,Gz]at hk
  by_cases e:k<as.length
  ·rw[List.take_append_of_le_length (by omega),List.getElem_append_left e]
   exact h k e
  ·have:k=as.length:=by omega
   subst this
   rw[List.take_left',List.getElem_concat_length rfl]
   ·exact Bd c
   ·rfl
theorem J6{tells:List Int->Bool}{W:List Int}:∀(ms:List Int) (c:List Int×List (List Int)),NF tells c.2->NF tells (jQ tells (ql tells) W ms c).2
 | [],c,h=>h
 | m::ms,c,h=>by
  unfold jQ
  rw[jD]
  exact J6 ms _ (J5 h _)
theorem QF{ps:List (List Int)}{W:List Int}{tells:List Int->Bool}{as:List (List Int)}(h:pd ps W tells as):NF tells as:=by
 induction h with
 | nil=>intro k hk;exact absurd hk (by simp)
 | step _ _ ih=>
  unfold turn
  split
  ·exact J6 _ _ (J5 (J5 ih _) _)
  ·exact J5 ih _
local macro_rules | `(tactic| walk_at "rd") => `(tactic| walk_at "rc")
local macro_rules | `(tactic| walk_at "rl") => `(tactic| first | (refine e9 fun R hR => ?_) | walk_at "ry" | (refine Nx.to (by assumption) _ _ ?_))
local macro_rules | `(tactic| walk_at "rc") => do
  let ids := ("L2.start G' uP Du wq tB Lj tUn yh tC tT dA VD Km VF JP PJ IV Ha Dq wz wB uQ Dt Te wo qe Hc G9 L1 rI rU rEq rNe Hl wC WM Hr Mb PL L8 L7 zg zi zh tY wL ow wM wO rN DQ ng zm P4 m8 wy DS P0 Hs PX P1 Mf Ma XD wu lA Pu XH Ox ou rL m9 wK rM j6 L5 Ov He XF Hb wD Ow wx tIf List.map_cons List.map_nil List.cons_append List.nil_append List.append_nil List.length_cons List.length_nil List.replicate List.getElem?_cons_zero List.getElem?_cons_succ List.set_cons_zero List.set_cons_succ Nat.reduceAdd Nat.reduceSub Nat.reduceLeDiff Option.some.injEq V.int.injEq V.ref.injEq V.str.injEq V.bl.injEq V.ty.injEq List.cons.injEq HO.lst.injEq HO.tup.injEq HO.dK.injEq exists_eq_left exists_eq_left' exists_and_left and_true true_and and_assoc exists_const reduceCtorEq ah oa decide_eq_true_eq List.length_map ite_true ite_false Bool.false_eq_true Bool.true_and Bool.and_true xT Aa z9 z8 FW FV xm xl xk xj xh FH FG Fz Fy xN xM xK xJ xI cw Option.join_some Option.join_none mZ rk xu Fh Fg zj qd qc zk DT wN rJ PN j6 DR tX iS xA Ip Io rj G7 Int.zero_add Int.reduceMul Int.reduceAdd Int.reduceSub Int.reduceLT Int.reduceLE Int.reducePow Int.reduceToNat Int.reduceNeg gt_iff_lt ge_iff_le tV hv Ln LK yV yW Ends.unb HO.ext.injEq HO.xd.injEq Kd JQ JN BG Bz By rK Bx zc y0 Bn Bl JB Tb vv oi Jz Ta DP tQ tR yX tS Lk".splitOn " ").toArray.map fun x => Lean.mkIdent x.toName
  `(tactic| simp only [$[$ids:ident],*])
local macro_rules | `(tactic| walk_at "ry") => do
  let ids := ("L2.start uP Du wq tB Lj tUn yh tC tT dA VD Km VF JP PJ IV Ha Dq wz wB uQ Dt Te wo qe Hc G9 L1 rI rU rEq rNe Hl wC WM Hr Mb PL L8 L7 zg zi zh tY wL ow wM wO rN DQ ng zm P4 m8 wy DS P0 Hs PX P1 Mf Ma XD wu lA Pu XH Ox ou rL m9 wK rM j6 L5 Ov He XF Hb wD Ow wx tIf List.map_cons List.map_nil List.cons_append List.nil_append List.append_nil List.length_cons List.length_nil List.replicate List.getElem?_cons_zero List.getElem?_cons_succ List.set_cons_zero List.set_cons_succ Nat.reduceAdd Nat.reduceSub Nat.reduceLeDiff Option.some.injEq V.int.injEq V.ref.injEq V.str.injEq V.bl.injEq V.ty.injEq List.cons.injEq HO.lst.injEq HO.tup.injEq HO.dK.injEq exists_eq_left exists_eq_left' exists_and_left and_true true_and and_assoc exists_const reduceCtorEq ah oa decide_eq_true_eq List.length_map ite_true ite_false Bool.false_eq_true Bool.true_and Bool.and_true xT Aa z9 z8 FW FV xm xl xk xj xh FH FG Fz Fy xN xM xK xJ xI cw Option.join_some Option.join_none mZ rk xu Fh Fg zj qd qc zk DT wN rJ PN j6 DR tX iS xA Ip Io rj G7 Int.zero_add Int.reduceMul Int.reduceAdd Int.reduceSub Int.reduceLT Int.reduceLE Int.reducePow Int.reduceToNat Int.reduceNeg gt_iff_lt ge_iff_le tV hv Ln LK yV yW Ends.unb HO.ext.injEq HO.xd.injEq Kd JQ JN BG Bz By rK Bx zc y0 Bn Bl JB Tb vv oi Jz Ta DP tQ tR yX tS Lk".splitOn " ").toArray.map fun x => Lean.mkIdent x.toName
  `(tactic| simp only [$[$ids:ident],*])
theorem lL{α:Type}(as:List α):∀i:List α,as.foldl (λts S=>ts++[S]) i=i++as:=by
 induction as with
 | nil=>intro i;rw[fZ];rfl
 | cons a as ih=>intro i;rw[jD,ih,iK];rfl
theorem RG{H:Hp}{p1 p2 p3:Addr}{b1 b2 b3:List Addr}{f1 f2 f3:List (List Int)}(h1:H p1=some (.lst (List.map V.ref b1)))(h2:H p2=some (.lst (List.map V.ref b2)))(h3:H p3=some (.lst (List.map V.ref b3)))(s1:aE H b1 f1)(s2:aE H b2 f2)(s3:aE H b3 f3):qI H [p1,p2,p3] [f1,f2,f3]:=by
 refine⟨rfl,λi p f e1 e2=>?_⟩
 match i,e1,e2 with
 | 0,e1,e2=>cases e1;cases e2;exact⟨_,h1,s1⟩
 | 1,e1,e2=>cases e1;cases e2;exact⟨_,h2,s2⟩
 | 2,e1,e2=>cases e1;cases e2;exact⟨_,h3,s3⟩
 | _+3,e1,_=>cases e1
def JD(K:PySem.W.Frag)(pT pS:Addr):Sp:=λvs H Q _=>∃(a:Addr) (ns:List Int),vs=[.ref a]/\qP K H a (List.map V.int ns)/\ns.length<=63/\H pT=some (.qM #[])/\H pS=some (.qM #[])/\pT≠pS/\∀H',Q (.bl true) H'
section
variable {P:Program}{w:World}{K:PySem.W.Frag}{mg:Str->Option Value}{base:Heap}{t:ye}
theorem YF(T:Txt K mg t){c pT c1 pS:Addr}(jP:t.Ky.code=.ref c)(hC:PySem.W.CodeHd base c pT)(Zx:t.kO.code=.ref c1)(hC1:PySem.W.CodeHd base c1 pS)(hB:BMain mg base):bS P w K mg base fN 20 t.R' t.Ky ["_law_script"] (JD K pT pS):=by
 have bp:=vA (P:=P) (w:=w) (base:=base) T
 have FZ:=UT (P:=P) (w:=w) (base:=base) T
 have xY:=Hz (P:=P) (w:=w) (base:=base) T
 have va:=J3 (P:=P) (w:=w) (base:=base) T
 have Dd:=Qu (P:=P) (w:=w) (base:=base) T
 have iP:=wR (P:=P) (w:=w) (base:=base) T
 have yI:=Mr (P:=P) (w:=w) (base:=base) T
 have sP:=Uy (P:=P) (w:=w) (base:=base) T
 have oP:=UL (P:=P) (w:=w) (base:=base) T
 have Ac:=Hy (P:=P) (w:=w) (base:=base) T Zx hC1 hB
 refine T.aCc.aA0 je (λvs H Q E h=>?_) (λcP A outer s H vs Q E hcv hr h hc hf=>?_)
 ·obtain⟨a,ns,rfl,_⟩:=h;rfl
 obtain⟨a,ns,rfl,hS,h63,hT,hTs,hTS,q⟩:=h
 have yA:cP=.ref c:=by rw[<-hcv];exact jP
 have hu:=nE hr
 have Sl:=hr.iD
 refine⟨_,(by apply au;exact(aR hc je.nd hf 1 (by decide +kernel) (aD FZ (hr.mono (by omega)) (cG hc) T.Eo T.vf.kp T.FQ .nil bh (ae (aq hc 0) ai)));apply au;exact(aR hc je.nd hf 2 (by decide +kernel) (aD xY (hr.mono (by omega)) (cG hc) T.wZ T.n5.kp T.xS .nil bh (ae (aq hc 1) (ae ao ai))));apply au;exact(aR hc je.nd hf 3 (by decide +kernel) (aD Dd (hr.mono (by omega)) (cG hc) T.Cg T.sQ.kp T.CP .nil bh (ae (aq hc 1) (ae (aq hc 2) ai))));apply au;exact(aR hc je.nd hf 4 (by decide +kernel) (fT ai));apply au;exact(Oc (fr:=aZ) hc je.nd hf 5 (by decide +kernel) yA hC hB rfl (by decide +kernel) (by decide +kernel) rfl rfl rfl);apply au;exact(aR hc je.nd hf 6 (by decide +kernel) (tM (xs:=[(3,"_law_model_here"),(4,"_law_notes")]) (cells:=cellsFrom (s.heap.objs.size+1) (ag ml).names []) (EH:=λ_=>E0) rfl Ac.toE (hr.mono (by omega)) (cG hc) T.zG T.uF.kp T.z7 Ih hf (Ir hc (by decide +kernel)) (ae (aq hc 2) (ae (aq hc 5) ai))));apply au;exact(aR hc je.nd hf 7 (by decide +kernel) (de jq (cG hc) T.z_list ur (ae (aq hc 4) ai)));apply au;exact(cg (mX (lq (dG (bM (bt kQ (cG hc) T.z_isinstance gE (ae (aq hc 6) (ae (mW (v:=V.ty "tuple") (cG hc) T.z_tuple lQ rfl) ai))))) (lq (bP Wx (bt iT (cG hc) T.z_len sG (ae (aq hc 6) ai)) ao (dg _)) (lj (dG (bM (aD yI (hr.mono (by omega)) (cG hc) T.yr T.px.kp T.yE .nil bh (ae (bC oH (aq hc 6) ao (λ_ _=>rfl)) (ae (aq hc 7) ai))))))))) (by exact az (aQ eB)) bA);apply au;exact(cg (mX (lq (dG (bM (aD sP (hr.mono (by omega)) (cG hc) T.sd T.jY.kp T.sJ .nil bh (ae (aq hc 7) (ae (aq hc 2) ai))))) (lj (dG (bM (aD oP (hr.mono (by omega)) (cG hc) T.oG T.iM.kp T.oM .nil bh (ae (aq hc 3) (ae (aq hc 7) ai)))))))) (by exact az (aQ eB)) bA);apply au;exact(aR hc je.nd hf 8 (by decide +kernel) (iN (ae (de jq (cG hc) T.z_list ur (ae (bC oH (aq hc 6) ao (λ_ _=>rfl)) ai)) (ae (de jq (cG hc) T.z_list ur (ae (bC oH (aq hc 6) ao (λ_ _=>rfl)) ai)) (ae (de jq (cG hc) T.z_list ur (ae (bC oH (aq hc 6) ao (λ_ _=>rfl)) ai)) ai)))));apply au;exact(aR hc je.nd hf 9 (by decide +kernel) (tM (xs:=[(3,"_law_model_here"),(4,"_law_notes")]) (cells:=cellsFrom (s.heap.objs.size+1) (ag ml).names []) (EH:=λ_=>E0) rfl Ac.toE (hr.mono (by omega)) (cG hc) T.zG T.uF.kp T.z7 Ih hf (Ir hc (by decide +kernel)) (ae (aq hc 2) (ae (aq hc 5) ai))));apply au;exact(cg (mX (lq (bP (J1 hr.units) (aq hc 9) (aq hc 8) (dg _)) (lq (bP (J1 hr.units) (aq hc 6) (aq hc 8) (dg _)) (lj (bP (J2 hu) (aq hc 4) (bq Hx (aq hc 7) (aq hc 7)) (dg _)))))) (by exact az (aQ eB)) bA);apply au;exact(er iH rfl (ja (cG hc) T.z_range (ae ao ai)) (pN hc je.nd hf 10 (by decide +kernel)) (by apply au;exact(cg (bP (J2 hu) (bC oH (aq hc 6) (aq hc 10) (λ_ _=>rfl)) (bC oH (aq hc 8) (aq hc 10) (λ_ _=>rfl)) (dg _)) (by exact az (aQ eB)) bA);exact az (dP (pO vG vH vI gp (bC oH (aq hc 6) (aq hc 10) (λ_ _=>rfl)) (ae (iN (ae ao ai)) ai)))));exact az (aQ eB)),?_⟩
 walk_at "r"
 refine⟨a,ns,rfl,hS,λh H1 s1 h0 hd=>?_⟩
 walk_at "r"
 refine⟨h,_,rfl,6,rfl,by decide,hd,λW x H4 d14 hW hW4 lx rise=>?_⟩
 have Rg:=(d14.gY hd).qm hW4
 have ndx:x.Nodup:=rise.imp λh=>Int.ne_of_lt h
 walk_at "r"
 refine⟨h,W,rfl,d14.gY hd,x,hW4,by omega,ndx,λM md H5 d5 hM md5=>?_⟩
 have d15:=d14.trans d5
 have hTh:pT≠h:=aj hT h0
 have hSh:pS≠h:=aj hTs h0
 have hT5:=d15.keep _ _ hTh (s1 _ _ hT)
 have hS5:=d15.keep _ _ hSh (s1 _ _ hTs)
 walk_at "r"
 refine⟨by decide,λN hN=>?_⟩
 have Yb:=aJ hN (.lst [])
 have hN6:upd H5 N (.lst []) N=some (.lst []):=ah
 generalize upd H5 N (.lst [])=H6 at Yb hN6 ⊢
 have hT6:=Yb _ _ hT5
 have hS6:=Yb _ _ hS5
 walk_at "r"
 refine⟨#[],hT6,trivial,rfl,λcl f c' oc Dl tq ctv doc yz ua inj hf0 hc0 hfc sV hq=>?_⟩
 generalize Vp:PySem.W.fnMade (Str.ofString "_law_ask") _ _ _ _ cl doc _ c' ctv=fo
 have V9:pz P w K mg base 8 f (O3 f c' fo oc cl M N):=by rw[<-Vp];exact V8 T sV hq ua inj
 have ffo:∃fd,fo.data=.func fd:=by rw[<-Vp];exact⟨_,rfl⟩
 clear Vp hq sV inj
 generalize e7:made H6 pT _ c' oc f fo=H7
 have hfT:f≠pT:=(aj hT6 hf0).symm
 have hcT:c'≠pT:=(aj hT6 hc0).symm
 have at7:∀{b:Addr} {o:HO},H6 b=some o->b≠pT->H7 b=some o:=λ{b o} e nb=>by
  rw[<-e7];unfold made
  rw[av (aj e hf0),av (aj e hc0),av nb];exact e
 have hf7:H7 f=some (dy fo):=by rw[<-e7];exact ah
 have hc7:H7 c'=some (dy oc):=by rw[<-e7];unfold made;rw[av hfc.symm];exact ah
 clear e7
 have nT:∀{b:Addr} {o:HO},H6 b=some o->o≠.qM #[]->b≠pT:=λe n=>bj e hT6 n
 obtain⟨fd,hfd⟩:=ffo
 have ZL:H7 pS=some (.qM #[]):=at7 hS6 hTS.symm
 have hN7:H7 N=some (.lst []):=at7 hN6 (nT hN6 (by intro z;cases z))
 have Rh:H7 W=some (.tup (List.map V.int x)):=at7 (Yb _ _ (d5.keep _ _ Rg hW4)) (nT (Yb _ _ (d5.keep _ _ Rg hW4)) (by intro z;cases z))
 obtain⟨B,hBd⟩:∃B:Hp,∀b,B b=if b=N\/b=pS then none else H7 b:=⟨_,λ_=>rfl⟩
 have hBN:B N=none:=by rw[hBd];exact aB (.inl rfl)
 have hBS:B pS=none:=by rw[hBd];exact aB (.inr rfl)
 have toB:∀{b:Addr} {o:HO},H7 b=some o->b≠N->b≠pS->B b=some o:=λ{b o} e n1 n2=>by rw[hBd,aC (λz=>z.elim n1 n2)];exact e
 have ofB:∀b o,B b=some o->H7 b=some o:=λb o e=>by
  rw[hBd]at e
  by_cases z:b=N\/b=pS
  ·rw[aB z]at e;cases e
  ·rw[aC z]at e;exact e
 have mdB:mK B M x md:=md5.move λb o e n _=>toB (at7 (Yb _ _ e) (nT (Yb _ _ e) (n _))) (aj e hN) (bj e hS5 (n _))
 have hfB:B f=some (dy fo):=toB hf7 (aj hN6 hf0).symm (aj hS6 hf0).symm
 have hcB:B c'=some (dy oc):=toB hc7 (aj hN6 hc0).symm (aj hS6 hc0).symm
 obtain⟨dom,oI⟩:∃dom:List Int->Prop,∀s,dom s↔s.Sublist x:=⟨_,λ_=>dJ⟩
 have aBJ:∀T,dom T->T.length<=100/\∀z∈T,z∈x:=λT hT=>⟨by have:=((oI T).mp hT).length_le;omega,λz hz=>((oI T).mp hT).subset hz⟩
 walk_at "r"
 refine⟨λq hq=>?_,λC ca po=>?_⟩
 ·rcases bT.mp hq with rfl | hq
  ·exact⟨_,rfl⟩
  ·rw[cE.mp hq];exact⟨_,rfl⟩
 have RV:CellsOk C cl aZ [.ref M,.ref N]:=λj y hj=>by
  have one:∀(k:Nat) (y:Str) (v:Addr),(k,y)∈[(3,("_law_model_here" : Str)),(4,"_law_notes")]->([some (V.ref a),some (V.ref h),some (V.ref W),some (V.ref M),some (V.ref N),some (V.ref f),none,none,none,none,none]:St)[k]?=some (some (.ref v))->y∈aZ->∃c o u v',cl.lookup y=some c/\C.lookup c=some o/\o.data=.cell (some u)/\some (V.ref v)=some v'/\RelV v' u:=λk y v hk hv hy=>by
   obtain⟨c1,o,u,v',h1,h2,h3,h4,h5⟩:=ca _ hk
   obtain⟨c2,g1,g2⟩:=yz y hy
   have:c1=c2:=eG (h1.symm.trans g1)
   subst this
   have Xh:([some (V.ref a),some (V.ref h),some (V.ref W),some (V.ref M),some (V.ref N),some (V.ref f),none,none,none,none,none]:St)[k]?=some (some v'):=h4
   rw[hv]at Xh
   cases Xh
   exact⟨c1,o,u,_,g2,h2,h3,rfl,h5⟩
  match j,hj with
  | 0,hj=>cases hj;exact one 3 _ M (by simp) rfl (by decide +kernel)
  | 1,hj=>cases hj;exact one 4 _ N (by simp) rfl (by decide +kernel)
  | _+2,hj=>cases hj
 have ak:=KQ (P:=P) (w:=w) (base:=base) hfd V9 RV aBJ hfB hcB mdB hBN
 have sC:bN H7 (eD C H7):=uz po
 have VB:aAi B C N dom [] (eD C H7):=⟨λb o e=>sC _ _ (ofB b o e),cQ.added,⟨[],sC _ _ hN7,⟨rfl,λ_ _ _ z=>by cases z⟩⟩,λs hs=>(nomatch hs)⟩
 have hNS:pS≠N:=λz=>by rw[z,hN7]at ZL;cases ZL
 refine⟨W,f,rfl,_,_,_,_,_,_,dom,md.tells,[],x,ak,VB,λts NX=>?_,sC _ _ Rh,rise,by omega,λT hT=>(oI T).mpr hT,J8 rise mdB,⟨#[],sC _ _ ZL,trivial,.inl rfl⟩,?_,λr H8 LC LP LA cs qs bs clashes lF as ps hr8 Cr sc Sy sq Sx sb hD8 k8 aA7 aA5 pwc pwp aCO Vf tu Jl nda Hg S' ncp ncl npl U0 nop Si=>?_⟩
 ·rw[lL]
  show([]++ts).length<=300
  rw[pF];omega
 ·rintro(z | ⟨o,z⟩ | ⟨o,z⟩)
  ·exact hNS z
  ·rw[hBS]at z;cases z
  ·rw[po _ _ z]at ZL;cases ZL
 rw[lL,pF]at hD8
 obtain⟨hB8,pin,⟨zE,hN8,sn8⟩,aEx⟩:=hD8
 have out:∀{b:Addr} {o:HO},H8 b=some o->(∀o',o≠dy o')->aP C H8 b=some o:=λe n=>by rw[aT (pin.out e n)];exact e
 have hB9:∀b o,B b=some o->aP C H8 b=some o:=λb o e=>by rw[aT (po.out (ofB b o e))];exact hB8 b o e
 have hW8:aP C H8 W=some (.tup (List.map V.int x)):=hB9 _ _ (toB Rh (λz=>by rw[z,hN7]at Rh;cases Rh) (bj Rh ZL (by intro z;cases z)))
 have hr9:=out hr8 (by intro o z;cases z)
 have Vw:=out Cr (by intro o z;cases z)
 have Vv:=out Sy (by intro o z;cases z)
 have Rj:=out Sx (by intro o z;cases z)
 have ZP:=out hN8 (by intro o z;cases z)
 have sc9:aE (aP C H8) cs clashes:=sc.mono λb xs e=>out e (by intro o z;cases z)
 have sq9:aE (aP C H8) qs lF:=sq.mono λb xs e=>out e (by intro o z;cases z)
 have X7:aE (aP C H8) bs as:=sb.mono λb xs e=>out e (by intro o z;cases z)
 have X4:aE (aP C H8) zE as:=sn8.mono λb xs e=>out e (by intro o z;cases z)
 have hCN:LC≠N:=λz=>U0 (.inl z)
 have hPN:LP≠N:=λz=>nop (.inl z)
 have hAN:LA≠N:=λz=>Si (.inl z)
 have aAp:∃tb,aP C H8 pS=some (.qM tb)/\TriplesOk tb.toList/\(codeAmong (Ij aM) tb.toList=none\/∃c2 oc vs tq,codeAmong (Ij aM) tb.toList=some (.ref c2)/\aP C H8 c2=some (dy oc)/\oc.data=.fields vs/\vs[1]?=some (.str qS tq)/\c2≠N/\B c2=none):=by
  obtain⟨tb,h1,h2,h3⟩:=S'
  refine⟨tb,by rw[aT (po.out ZL)];exact h1,h2,h3.imp id ?_⟩
  rintro⟨c2,oc,vs,tq,a1,a2,a3,a4,a5⟩
  refine⟨c2,oc,vs,tq,a1,?_,a3,a4,λz=>a5 (.inl z),?_⟩
  ·cases e:C.lookup c2 with
   | none=>rw[aT e];exact a2
   | some o=>exact absurd (.inr (.inr ⟨o,e⟩)) a5
  ·cases e:B c2 with
   | none=>rfl
   | some o=>exact absurd (.inr (.inl ⟨o,e⟩)) a5
 try dsimp only
 generalize aP C H8=H9 at hW8 hr9 Vw Vv Rj ZP sc9 sq9 X7 X4 hB9 aAp ⊢
 clear hN8 sn8 sc sq sb Cr Sy Sx hr8 out k8 VB ak pin hB8 S' sC
 have Yh:∀{S:List Int},S∈ps↔S.Sublist x:=λ{S}=>by rw[Vf];exact y3
 have riP:∀a∈ps,fS a:=λa ha=>rise.sublist (Yh.mp ha)
 have lnP:∀a∈ps,a.length<=6:=λa ha=>e8 (Yh.mp ha).length_le lx
 have inP:∀a∈as,∀z∈a,z∈x:=λa ha z hz=>(Yh.mp (Hg a ha)).subset hz
 have U6:as.length<=64:=by
  have h1:=eM nda λs hs=>(Vf s).mp (Hg s hs)
  rw[oj]at h1
  have h2:2 ^ x.length<=2 ^ 6:=Gv (by decide) lx
  omega
 have ndl:∀{l:List (List Int)},l.Pairwise (λa b=>cy a b=true)->l.Nodup:=λh=>h.imp λe z=>by rw[z,om]at e;cases e
 have lcl:clashes.length<=64:=e8 (eM (ndl pwc) λs hs=>(gq.mp ((aA7 s).mp hs).1).1) U6
 have lpe:lF.length<=64:=e8 (eM (ndl pwp) λs hs=>(gq.mp ((aA5 s).mp hs).1).1) U6
 have lcs:=sc9.1
 have lqs:=sq9.1
 have lbs:=X7.1
 have lns:=X4.1
 repeat (first | walk_at "rl" | simp only[ZP])
 intro D1 zP
 have LQ:=aJ zP (.lst (List.map V.ref zE))
 have Vz:upd H9 D1 (.lst (List.map V.ref zE)) D1=some (.lst (List.map V.ref zE)):=ah
 generalize upd H9 D1 (.lst (List.map V.ref zE))=Xs at LQ Vz ⊢
 have Zi:=LQ _ _ hr9
 have md9:mK H9 M x md:=mdB.same hB9
 repeat (first | walk_at "rl" | simp only[Zi])
 refine⟨_,.tup Zi,true,se _ _,?_⟩
 rw[aC (by decide),aC (by simp)]
 refine⟨LA,D1,rfl,bs,zE,as,LQ _ _ Rj,Vz,X7.mono λb xs e=>LQ _ _ e,X4.mono λb xs e=>LQ _ _ e,by omega,λa ha=>⟨riP a (Hg a ha),by have:=lnP a (Hg a ha);omega⟩,λH11 Hq=>⟨_,rfl,?_⟩⟩
 rw[aC (by decide)]
 have TL:=LQ.trans Hq
 have Vy:=Hq _ _ Vz
 walk_at "r"
 refine⟨D1,W,rfl,zE,as,x,Vy,X4.mono λb xs e=>TL _ _ e,TL _ _ hW8,λa ha=>⟨riP a (Hg a ha),by have:=lnP a (Hg a ha);omega,inP a ha⟩,λH12 s12=>⟨_,rfl,?_⟩⟩
 rw[aC (by decide)]
 have TK:=TL.trans s12
 refine⟨M,D1,rfl,md,x,zE,as,md9.same TK,s12 _ _ Vy,X4.mono λb xs e=>TK _ _ e,by omega,λa ha=>⟨by have:=lnP a (Hg a ha);omega,inP a ha⟩,QF tu,λH13 TQ=>⟨_,rfl,?_⟩⟩
 rw[aC (by decide)]
 have Hn:=TK.trans TQ
 have aBE:=TQ _ _ (s12 _ _ Vy)
 have Ve:=Hn _ _ hr9
 have Xe:=Hn _ _ Vw
 have Xd:=Hn _ _ Vv
 have Xc:=Hn _ _ Rj
 repeat (first | walk_at "rl" | simp only[Ve,Xe])
 intro K1 hK1
 have Dz:=aJ hK1 (.lst (List.map V.ref cs))
 have Ru:upd H13 K1 (.lst (List.map V.ref cs)) K1=some (.lst (List.map V.ref cs)):=ah
 generalize upd H13 K1 (.lst (List.map V.ref cs))=H14 at Dz Ru ⊢
 refine⟨_,Dz _ _ Ve,.ref LP,rfl,LP,rfl,_,Dz _ _ Xd,λK2 hK2=>?_⟩
 have Wv:=aJ hK2 (.lst (List.map V.ref qs))
 have Rr:upd H14 K2 (.lst (List.map V.ref qs)) K2=some (.lst (List.map V.ref qs)):=ah
 generalize upd H14 K2 (.lst (List.map V.ref qs))=H15 at Wv Rr ⊢
 refine⟨_,Wv _ _ (Dz _ _ Ve),.ref LA,rfl,LA,rfl,_,Wv _ _ (Dz _ _ Xc),λK3 hK3=>?_⟩
 have s16:=aJ hK3 (.lst (List.map V.ref bs))
 have Rp:upd H15 K3 (.lst (List.map V.ref bs)) K3=some (.lst (List.map V.ref bs)):=ah
 generalize upd H15 K3 (.lst (List.map V.ref bs))=H16 at s16 Rp ⊢
 refine⟨by decide,λKT hKT=>?_⟩
 have Yc:=aJ hKT (.tup [V.ref K1,V.ref K2,V.ref K3])
 have Xf:upd H16 KT (.tup [V.ref K1,V.ref K2,V.ref K3]) KT=some (.tup [V.ref K1,V.ref K2,V.ref K3]):=ah
 generalize upd H16 KT (.tup [V.ref K1,V.ref K2,V.ref K3])=H17 at Yc Xf ⊢
 have qf:=(((Hn.trans Dz).trans Wv).trans s16).trans Yc
 have aBC:=Yc _ _ (s16 _ _ (Wv _ _ Ru))
 have aBB:=Yc _ _ (s16 _ _ Rr)
 have aBA:=Yc _ _ Rp
 have aEC:=Yc _ _ (s16 _ _ (Wv _ _ (Dz _ _ aBE)))
 have old:∀{b k:Addr} {o:HO} {Hk:Hp},bN H9 Hk->H9 b=some o->Hk k=none->b≠k:=λs e n=>aj (s _ _ e) n
 have n13:=Hn
 have n14:=n13.trans Dz
 have n15:=n14.trans Wv
 have nK:∀{b:Addr} {o:HO},H9 b=some o->b≠K1/\b≠K2/\b≠K3/\b≠D1:=λe=>⟨old n13 e hK1,old n14 e hK2,old n15 e hK3,aj e zP⟩
 clear Dz Wv s16 Yc hK1 hK2 hK3 hKT Ru Rr Rp n13 n14 n15 old LQ Hq s12 TQ TL TK Hn Zi Ve Xe Xd Xc Vz Vy aBE
 walk_at "r"
 refine⟨λq hq=>?_,λC2 ca2 po2=>?_⟩
 ·rcases bT.mp hq with rfl | hq
  ·exact⟨_,rfl⟩
  ·rw[cE.mp hq];exact⟨_,rfl⟩
 have aFh:CellsOk C2 cl aZ [.ref M,.ref N]:=λj y hj=>by
  have one:∀(k:Nat) (y:Str) (v:Addr),(k,y)∈[(3,("_law_model_here" : Str)),(4,"_law_notes")]->([some (V.ref a),some (V.ref h),some (V.ref W),some (V.ref M),some (V.ref N),some (V.ref f),some (V.ref r),some (V.ref D1),some (V.ref KT),none,none]:St)[k]?=some (some (.ref v))->y∈aZ->∃c o u v',cl.lookup y=some c/\C2.lookup c=some o/\o.data=.cell (some u)/\some (V.ref v)=some v'/\RelV v' u:=λk y v hk hv hy=>by
   obtain⟨c1,o,u,v',h1,h2,h3,h4,h5⟩:=ca2 _ hk
   obtain⟨c2,g1,g2⟩:=yz y hy
   have:c1=c2:=eG (h1.symm.trans g1)
   subst this
   have Xh:([some (V.ref a),some (V.ref h),some (V.ref W),some (V.ref M),some (V.ref N),some (V.ref f),some (V.ref r),some (V.ref D1),some (V.ref KT),none,none]:St)[k]?=some (some v'):=h4
   rw[hv]at Xh
   cases Xh
   exact⟨c1,o,u,_,g2,h2,h3,rfl,h5⟩
  match j,hj with
  | 0,hj=>cases hj;exact one 3 _ M (by simp) rfl (by decide +kernel)
  | 1,hj=>cases hj;exact one 4 _ N (by simp) rfl (by decide +kernel)
  | _+2,hj=>cases hj
 have ak:=KQ (P:=P) (w:=w) (base:=base) hfd V9 aFh aBJ hfB hcB mdB hBN
 have sC:bN H17 (eD C2 H17):=uz po2
 have aBy:=qf _ _ ZP
 have VB:aAi B C2 N dom as (eD C2 H17):=⟨λb o e=>sC _ _ (qf _ _ (hB9 b o e)),cQ.added,⟨zE,sC _ _ aBy,X4.mono λb xs e=>sC _ _ (qf _ _ e)⟩,aEx⟩
 obtain⟨tb,ht1,ht2,ht3⟩:=aAp
 have Vs:=qf _ _ ht1
 have aAr:u6 (λb=>b=N\/(∃o,B b=some o)\/∃o,C2.lookup b=some o) (eD C2 H17) pS qS:=by
  refine⟨tb,sC _ _ Vs,ht2,ht3.imp id ?_⟩
  rintro⟨c2,oc,vs,tq,a1,a2,a3,a4,a5,a6⟩
  refine⟨c2,oc,vs,tq,a1,sC _ _ (qf _ _ a2),a3,a4,?_⟩
  rintro(z | ⟨o,z⟩ | ⟨o,z⟩)
  ·exact a5 z
  ·rw[a6]at z;cases z
  ·have:=po2 _ _ z
   rw[qf _ _ a2]at this;cases this
 refine⟨W,f,rfl,_,_,_,_,_,_,dom,md.tells,as,x,ak,VB,λts NX=>?_,sC _ _ (qf _ _ hW8),rise,by omega,λT hT=>(oI T).mpr hT,J8 rise mdB,aAr,?_,λr2 K5 LC2 LP2 LA2 cs2 qs2 bs2 sE vx R9 ps2 aBk Cr sc Sy sq Sx sb aBD k18 aA6 aA4 aCQ aCP aAO aEj tu2 Wf aFM aFC _ _ _ _ _ _ _=>?_⟩
 ·rw[lL]
  show(as++ts).length<=300
  rw[cS];omega
 ·rintro(z | ⟨o,z⟩ | ⟨o,z⟩)
  ·exact hNS z
  ·rw[hBS]at z;cases z
  ·have:=po2 _ _ z
   rw[Vs]at this;cases this
 have eps:ps2=ps:=Jc aAO aCO λt=>by rw[aEj,Vf]
 subst eps
 have eas:R9=as:=Lf tu2 tu Wf Jl
 subst eas
 have ecl:sE=clashes:=Jc aCQ pwc λt=>by rw[aA6,aA7]
 have epe:vx=lF:=Jc aCP pwp λt=>by rw[aA4,aA5]
 subst ecl epe
 rw[lL]at aBD
 obtain⟨_,pin,⟨aA2,aBx,aAA⟩,_⟩:=aBD
 have out:∀{b:Addr} {o:HO},K5 b=some o->(∀o',o≠dy o')->aP C2 K5 b=some o:=λe n=>by rw[aT (pin.out e n)];exact e
 have k19:∀{b:Addr} {o:HO},H17 b=some o->b≠N->b≠pS->(∀o',o≠dy o')->aP C2 K5 b=some o:=λe n1 n2 n3=>out (k18 _ _ n1 n2 (sC _ _ e)) n3
 have Ik:∀{b:Addr} {xs:List V},H17 b=some (.tup xs)->aP C2 K5 b=some (.tup xs):=λe=>k19 e (bj e aBy (by intro z;cases z)) (bj e Vs (by intro z;cases z)) (by intro o z;cases z)
 have Et:∀{b:Addr} {xs:List V},H17 b=some (.lst xs)->b≠N->aP C2 K5 b=some (.lst xs):=λe n=>k19 e n (bj e Vs (by intro z;cases z)) (by intro o z;cases z)
 have Zh:=Ik (qf _ _ hr9)
 have Rn:=Et (qf _ _ Vw) hCN
 have Rm:=Et (qf _ _ Vv) hPN
 have Rl:=Et (qf _ _ Rj) hAN
 have Kj:=Ik Xf
 have Rt:=Et aBC (nK ZP).1.symm
 have Rq:=Et aBB (nK ZP).2.1.symm
 have Ro:=Et aBA (nK ZP).2.2.1.symm
 have ZX:=Et aEC (nK ZP).2.2.2.symm
 have aBw:=out aBx (by intro o z;cases z)
 have aBi:=out aBk (by intro o z;cases z)
 have gL1:=out Cr (by intro o z;cases z)
 have gL2:=out Sy (by intro o z;cases z)
 have gL3:=out Sx (by intro o z;cases z)
 have Tz:aE (aP C2 K5) cs sE:=sc9.mono λb xs e=>Ik (qf _ _ e)
 have Tj:aE (aP C2 K5) qs vx:=sq9.mono λb xs e=>Ik (qf _ _ e)
 have TF:aE (aP C2 K5) bs R9:=X7.mono λb xs e=>Ik (qf _ _ e)
 have X5:aE (aP C2 K5) zE R9:=X4.mono λb xs e=>Ik (qf _ _ e)
 have aAF:aE (aP C2 K5) cs2 sE:=sc.mono λb xs e=>out e (by intro o z;cases z)
 have aAt:aE (aP C2 K5) qs2 vx:=sq.mono λb xs e=>out e (by intro o z;cases z)
 have aAG:aE (aP C2 K5) bs2 R9:=sb.mono λb xs e=>out e (by intro o z;cases z)
 have aAz:aE (aP C2 K5) aA2 (R9++R9):=aAA.mono λb xs e=>out e (by intro o z;cases z)
 try dsimp only
 generalize aP C2 K5=H19 at Zh Rn Rm Rl Kj Rt Rq Ro ZX aBw aBi gL1 gL2 gL3 Tz Tj TF X5 aAF aAt aAG aAz ⊢
 clear aBx aAA sc sq sb Cr Sy Sx aBk out k18 VB ak pin sC k19 Ik Et
 walk_at "r"
 have fk:=RG Rt Rq Ro Tz Tj TF
 refine⟨[LC2,LP2,LA2],aBi,[K1,K2,K3],Kj,_,RG gL1 gL2 gL3 aAF aAt aAG,_,fk,?_⟩
 rw[aC (by simp)]
 refine⟨[LC,LP,LA],Zh,[K1,K2,K3],Kj,_,RG Rn Rm Rl Tz Tj TF,_,fk,?_⟩
 rw[aC (by simp)]
 refine⟨_,ZX,_,ZX,by rw[aY];exact iZ (bU (by omega)),λp hp=>?_⟩
 have Ho:=aJ hp (.lst (List.map V.ref zE++List.map V.ref zE))
 have aEn:upd H19 p (.lst (List.map V.ref zE++List.map V.ref zE)) p=some (.lst (List.map V.ref zE++List.map V.ref zE)):=ah
 generalize upd H19 p (.lst (List.map V.ref zE++List.map V.ref zE))=H20 at Ho aEn ⊢
 refine⟨aA2,Ho _ _ aBw,zE++zE,by rw[eU],R9++R9,aAz.mono λb xs e=>Ho _ _ e,R9++R9,(X5.app X5).mono λb xs e=>Ho _ _ e,?_⟩
 rw[aC (by simp)]
 walk_at "r"
 obtain⟨Pv,dF⟩:∃Pv:Nat->St->Hp->Prop,∀i σ' H',Pv i σ' H'↔∃z:Option V,σ'=[some (.ref a),some (.ref h),some (.ref W),some (.ref M),some (.ref N),some (.ref f),some (.ref r),some (.ref D1),some (.ref KT),some (.ref r2),z]/\∀b o,H20 b=some o->(b=LC->i<=0)->(b=LP->i<=1)->(b=LA->i<=2)->H' b=some o:=⟨_,λ_ _ _=>dJ⟩
 have gC:=Ho _ _ Rn
 have gP:=Ho _ _ Rm
 have gA:=Ho _ _ Rl
 have gK1:=Ho _ _ Rt
 have gK2:=Ho _ _ Rq
 have gK3:=Ho _ _ Ro
 obtain⟨c1,c2,c3,_⟩:=nK Vw
 obtain⟨p1,p2,p3,_⟩:=nK Vv
 obtain⟨a1,a2,a3,_⟩:=nK Rj
 refine qw Pv ((dF _ _ _).mpr ⟨none,rfl,λb o e _ _ _=>e⟩) (λi σ' Xr hi pv=>?_) (λσ' Xr pv=>?_)
 ·obtain⟨z,rfl,k21⟩:=(dF _ _ _).mp pv
  have kt:∀{b:Addr} {xs:List V},H20 b=some (.tup xs)->Xr b=some (.tup xs):=λe=>k21 _ _ e (λz=>by rw[z,gC]at e;cases e) (λz=>by rw[z,gP]at e;cases e) (λz=>by rw[z,gA]at e;cases e)
  have aBj:=kt (Ho _ _ Zh)
  have aBz:=kt (Ho _ _ Kj)
  have aCH:aE Xr cs sE:=Tz.mono λb xs e=>kt (Ho _ _ e)
  have aCl:aE Xr qs vx:=Tj.mono λb xs e=>kt (Ho _ _ e)
  have aCI:aE Xr bs R9:=TF.mono λb xs e=>kt (Ho _ _ e)
  have pick:∃(L' K':Addr) (bl:List Addr) (fam:List (List Int)),vq [V.ref LC,V.ref LP,V.ref LA] (i:Int)=some (.ref L')/\vq [V.ref K1,V.ref K2,V.ref K3] (i:Int)=some (.ref K')/\Xr L'=some (.lst (List.map V.ref bl))/\Xr K'=some (.lst (List.map V.ref bl))/\aE Xr bl fam/\bl.length<=64/\(∀b,(b=LC->i+1<=0)->(b=LP->i+1<=1)->(b=LA->i+1<=2)->b≠L'):=by
   match i,hi,k21 with
   | 0,_,k21=>exact⟨LC,K1,cs,_,rfl,rfl,k21 _ _ gC (λ_=>by omega) (λz=>absurd z ncp) (λz=>absurd z ncl),k21 _ _ gK1 (λz=>absurd z.symm c1) (λz=>absurd z.symm p1) (λz=>absurd z.symm a1),aCH,by omega,λb h1 _ _ z=>absurd (h1 z) (by omega)⟩
   | 1,_,k21=>exact⟨LP,K2,qs,_,rfl,rfl,k21 _ _ gP (λz=>absurd z.symm ncp) (λ_=>by omega) (λz=>absurd z npl),k21 _ _ gK2 (λz=>absurd z.symm c2) (λz=>absurd z.symm p2) (λz=>absurd z.symm a2),aCl,by omega,λb _ h1 _ z=>absurd (h1 z) (by omega)⟩
   | 2,_,k21=>exact⟨LA,K3,bs,_,rfl,rfl,k21 _ _ gA (λz=>absurd z.symm ncl) (λz=>absurd z.symm npl) (λ_=>by omega),k21 _ _ gK3 (λz=>absurd z.symm c3) (λz=>absurd z.symm p3) (λz=>absurd z.symm a3),aCI,by omega,λb _ _ h1 z=>absurd (h1 z) (by omega)⟩
  obtain⟨L',K',bl,fam,atL,atK,hL',hK',sL',lbl,apart⟩:=pick
  repeat (first | walk_at "rl" | simp only[aBj,aBz,atL,atK,Int.zero_add])
  refine⟨bl,hL',bl,hK',fam,sL',fam,sL',?_⟩
  rw[aC (by simp)]
  repeat (first | walk_at "rl" | simp only[aBj,atL])
  refine⟨.inl ⟨rfl,_,bu hL'⟩,by decide,λp hp=>⟨_,(aJ hp _) _ _ hL',by rw[aY];exact bU (by omega),(dF _ _ _).mpr ⟨_,rfl,λb o e h1 h2 h3=>?_⟩⟩⟩
  rw[av (apart b h1 h2 h3)]
  exact(aJ hp _) _ _ (k21 b o e (λz=>by have:=h1 z;omega) (λz=>by have:=h2 z;omega) (λz=>by have:=h3 z;omega))
 ·obtain⟨z,rfl,k21⟩:=(dF _ _ _).mp pv
  walk_at "r"
  exact q _
end
local macro_rules | `(tactic| walk_at "rd") => `(tactic| walk_at "rc")
local macro_rules | `(tactic| walk_at "rl") => `(tactic| first | (refine e9 fun R hR => ?_) | walk_at "ry" | (refine Nx.to (by assumption) _ _ ?_))
theorem all_mk{l:PySem.W.OpenLaw}{w:World}{K:PySem.W.Frag}{h:Heap}{mg:Str->Option Value}{fa f0 f1 f2 f3 f4 f5 f6 f7 f8 f9 f10 f11 f12 f13 f14 f15 f16 f17 f18 f19 f20 f21 f22 f23 f24 f25 f26 f27:Addr}(X:K.In h)(G:h.Ns mainGlobals mg)(hfa:mg "law" = some (.ref fa))
  {od0 an0 od1 an1 od2 an2 od3 an3 od4 an4 od5 an5 od6 an6 od7 an7 od8 an8 od9 an9 aDq aFy aDp aFx aDo aFw aDn aFv aDm aFu aDl aFt aDk aFs aDj aFr aDi aFq aDh aFp aDg aFo aDf aFn aDe aFm aDd aFl aDc aFk aDb aFj aDa aFi aC9 aCb:Option Addr} {sl0 sl1 Ls sl3 sl4 sl5 sl6 sl7 sl8 sl9 aCG aCF aCE aCD aCC aCB aCA aCz aCy aCx aCw aCv aCu aCt aCs aCr aCq aCp:Array (Option Value)} {oc0 kV0 dc0 pm0 cd0 ct0 oc1 kV1 dc1 pm1 cd1 ct1 oc2 kV2 dc2 pm2 cd2 ct2 oc3 kV3 dc3 pm3 cd3 ct3 oc4 kV4 dc4 pm4 cd4 ct4 oc5 kV5 dc5 pm5 cd5 ct5 oc6 kV6 dc6 pm6 cd6 ct6 oc7 kV7 dc7 pm7 cd7 ct7 oc8 kV8 dc8 pm8 cd8 ct8 oc9 kV9 dc9 pm9 cd9 ct9 aDJ aD8 aEY aC7 aB5 aFg aDI aD7 aEX aC6 aB4 aFf aDH aD6 aEW aC5 aFe aDG aD5 aEV aC4 aB3 aFd aDF aD4 aEU aC3 aB2 aFc aDE aD3 aET aC2 aB1 aFb aDD aD2 aES aC1 aB0 aFa aDC aD1 aER aC0 aBZ aE9 aDB aD0 aEQ aCZ aBY aE8 aDA aDZ aEP aCY aBX aE7 aDz aDY aEO aCX aBW aE6 aDy aDX aEN aCW aBV aE5 aDx aDW aEM aCV aBU aE4 aDw aDV aEL aCU aBT aE3 aDv aDU aEK aCT aBS aE2 aDu aDT aEJ aCS aBR aE1 aDt aDS aEI aCR aBQ aE0 aDs aBd aBM aAR aBN:Value}
  {cC_law pT_law:Addr} (Z1:PySem.W.codeHdIn K cC_law pT_law=true)
  {cC_sounded pT_sounded:Addr} (IK:PySem.W.codeHdIn K cC_sounded pT_sounded=true)
  (a0:PySem.W.nsIn K mainGlobals "each_once_in_order" = some (some (.ref f0))) (l0:K.lookup f0=some ⟨oc0,od0,.func (PySem.W.fnOf "each_once_in_order" "each_once_in_order" (aW bV) (aO bV) (ag bV) .none kV0 dc0 pm0 an0 cd0 ct0),sl0⟩) (c0:PySem.W.codeIn K cd0 "each_once_in_order" = true) (k0:PySem.W.keepIn K (.ref f0)=true)
  (a1:PySem.W.nsIn K mainGlobals "order_of" = some (some (.ref f1))) (l1:K.lookup f1=some ⟨oc1,od1,.func (PySem.W.fnOf "order_of" "order_of" (aW gT) (aO gT) (ag gT) .none kV1 dc1 pm1 an1 cd1 ct1),sl1⟩) (c1:PySem.W.codeIn K cd1 "order_of" = true) (k1:PySem.W.keepIn K (.ref f1)=true)
  (a2:PySem.W.nsIn K mainGlobals "set_of" = some (some (.ref f2))) (l2:K.lookup f2=some ⟨oc2,od2,.func (PySem.W.fnOf "set_of" "set_of" (aW kB) (aO kB) (ag kB) .none kV2 dc2 pm2 an2 cd2 ct2),Ls⟩) (c2:PySem.W.codeIn K cd2 "set_of" = true) (k2:PySem.W.keepIn K (.ref f2)=true)
  (a3:PySem.W.nsIn K mainGlobals "is_part" = some (some (.ref f3))) (l3:K.lookup f3=some ⟨oc3,od3,.func (PySem.W.fnOf "is_part" "is_part" (aW iR) (aO iR) (ag iR) .none kV3 dc3 pm3 an3 cd3 ct3),sl3⟩) (c3:PySem.W.codeIn K cd3 "is_part" = true) (k3:PySem.W.keepIn K (.ref f3)=true)
  (a4:PySem.W.nsIn K mainGlobals "in_order" = some (some (.ref f4))) (l4:K.lookup f4=some ⟨oc4,od4,.func (PySem.W.fnOf "in_order" "in_order" (aW gW) (aO gW) (ag gW) .none kV4 dc4 pm4 an4 cd4 ct4),sl4⟩) (c4:PySem.W.codeIn K cd4 "in_order" = true) (k4:PySem.W.keepIn K (.ref f4)=true)
  (a5:PySem.W.nsIn K mainGlobals "least_of" = some (some (.ref f5))) (l5:K.lookup f5=some ⟨oc5,od5,.func (PySem.W.fnOf "least_of" "least_of" (aW gU) (aO gU) (ag gU) .none kV5 dc5 pm5 an5 cd5 ct5),sl5⟩) (c5:PySem.W.codeIn K cd5 "least_of" = true) (k5:PySem.W.keepIn K (.ref f5)=true)
  (a6:PySem.W.nsIn K mainGlobals "greatest_of" = some (some (.ref f6))) (l6:K.lookup f6=some ⟨oc6,od6,.func (PySem.W.fnOf "greatest_of" "greatest_of" (aW eN) (aO eN) (ag eN) .none kV6 dc6 pm6 an6 cd6 ct6),sl6⟩) (c6:PySem.W.codeIn K cd6 "greatest_of" = true) (k6:PySem.W.keepIn K (.ref f6)=true)
  (a7:PySem.W.nsIn K mainGlobals "holds_one_of" = some (some (.ref f7))) (l7:K.lookup f7=some ⟨oc7,od7,.func (PySem.W.fnOf "holds_one_of" "holds_one_of" (aW dU) (aO dU) (ag dU) .none kV7 dc7 pm7 an7 cd7 ct7),sl7⟩) (c7:PySem.W.codeIn K cd7 "holds_one_of" = true) (k7:PySem.W.keepIn K (.ref f7)=true)
  (a8:PySem.W.nsIn K mainGlobals "lies_in_one_of" = some (some (.ref f8))) (l8:K.lookup f8=some ⟨oc8,od8,.func (PySem.W.fnOf "lies_in_one_of" "lies_in_one_of" (aW cV) (aO cV) (ag cV) .none kV8 dc8 pm8 an8 cd8 ct8),sl8⟩) (c8:PySem.W.codeIn K cd8 "lies_in_one_of" = true) (k8:PySem.W.keepIn K (.ref f8)=true)
  (a9:PySem.W.nsIn K mainGlobals "rest_of" = some (some (.ref f9))) (l9:K.lookup f9=some ⟨oc9,od9,.func (PySem.W.fnOf "rest_of" "rest_of" (aW iQ) (aO iQ) (ag iQ) .none kV9 dc9 pm9 an9 cd9 ct9),sl9⟩) (c9:PySem.W.codeIn K cd9 "rest_of" = true) (k9:PySem.W.keepIn K (.ref f9)=true)
  (a10:PySem.W.nsIn K mainGlobals "parts_of" = some (some (.ref f10))) (l10:K.lookup f10=some ⟨aDJ,aDq,.func (PySem.W.fnOf "parts_of" "parts_of" (aW gS) (aO gS) (ag gS) .none aD8 aEY aC7 aFy aB5 aFg),aCG⟩) (c10:PySem.W.codeIn K aB5 "parts_of" = true) (k10:PySem.W.keepIn K (.ref f10)=true)
  (a11:PySem.W.nsIn K mainGlobals "grown" = some (some (.ref f11))) (l11:K.lookup f11=some ⟨aDI,aDp,.func (PySem.W.fnOf "grown" "grown" (aW oq) (aO oq) (ag oq) .none aD7 aEX aC6 aFx aB4 aFf),aCF⟩) (c11:PySem.W.codeIn K aB4 "grown" = true) (k11:PySem.W.keepIn K (.ref f11)=true)
  (a12:PySem.W.nsIn K mainGlobals "sounded" = some (some (.ref f12))) (l12:K.lookup f12=some ⟨aDH,aDo,.func (PySem.W.fnOf "sounded" "sounded" (aW bI) (aO bI) (ag bI) .none aD6 aEW aC5 aFw (.ref cC_sounded) aFe),aCE⟩) (c12:PySem.W.codeIn K (.ref cC_sounded) "sounded" = true) (k12:PySem.W.keepIn K (.ref f12)=true)
  (a13:PySem.W.nsIn K mainGlobals "_law_hand" = some (some (.ref f13))) (l13:K.lookup f13=some ⟨aDG,aDn,.func (PySem.W.fnOf "_law_hand" "_law_hand" (aW gj) (aO gj) (ag gj) .none aD5 aEV aC4 aFv aB3 aFd),aCD⟩) (c13:PySem.W.codeIn K aB3 "_law_hand" = true) (k13:PySem.W.keepIn K (.ref f13)=true)
  (a14:PySem.W.nsIn K mainGlobals "_law_next" = some (some (.ref f14))) (l14:K.lookup f14=some ⟨aDF,aDm,.func (PySem.W.fnOf "_law_next" "_law_next" (aW gi) (aO gi) (ag gi) .none aD4 aEU aC3 aFu aB2 aFc),aCC⟩) (c14:PySem.W.codeIn K aB2 "_law_next" = true) (k14:PySem.W.keepIn K (.ref f14)=true)
  (a15:PySem.W.nsIn K mainGlobals "_law_take" = some (some (.ref f15))) (l15:K.lookup f15=some ⟨aDE,aDl,.func (PySem.W.fnOf "_law_take" "_law_take" (aW gd) (aO gd) (ag gd) .none aD3 aET aC2 aFt aB1 aFb),aCB⟩) (c15:PySem.W.codeIn K aB1 "_law_take" = true) (k15:PySem.W.keepIn K (.ref f15)=true)
  (a16:PySem.W.nsIn K mainGlobals "_law_draw" = some (some (.ref f16))) (l16:K.lookup f16=some ⟨aDD,aDk,.func (PySem.W.fnOf "_law_draw" "_law_draw" (aW gk) (aO gk) (ag gk) .none aD2 aES aC1 aFs aB0 aFa),aCA⟩) (c16:PySem.W.codeIn K aB0 "_law_draw" = true) (k16:PySem.W.keepIn K (.ref f16)=true)
  (a17:PySem.W.nsIn K mainGlobals "_law_is_within" = some (some (.ref f17))) (l17:K.lookup f17=some ⟨aDC,aDj,.func (PySem.W.fnOf "_law_is_within" "_law_is_within" (aW cW) (aO cW) (ag cW) .none aD1 aER aC0 aFr aBZ aE9),aCz⟩) (c17:PySem.W.codeIn K aBZ "_law_is_within" = true) (k17:PySem.W.keepIn K (.ref f17)=true)
  (a18:PySem.W.nsIn K mainGlobals "_law_is_whole" = some (some (.ref f18))) (l18:K.lookup f18=some ⟨aDB,aDi,.func (PySem.W.fnOf "_law_is_whole" "_law_is_whole" (aW dm) (aO dm) (ag dm) .none aD0 aEQ aCZ aFq aBY aE8),aCy⟩) (c18:PySem.W.codeIn K aBY "_law_is_whole" = true) (k18:PySem.W.keepIn K (.ref f18)=true)
  (a19:PySem.W.nsIn K mainGlobals "_law_is_set" = some (some (.ref f19))) (l19:K.lookup f19=some ⟨aDA,aDh,.func (PySem.W.fnOf "_law_is_set" "_law_is_set" (aW eO) (aO eO) (ag eO) .none aDZ aEP aCY aFp aBX aE7),aCx⟩) (c19:PySem.W.codeIn K aBX "_law_is_set" = true) (k19:PySem.W.keepIn K (.ref f19)=true)
  (a20:PySem.W.nsIn K mainGlobals "_law_members" = some (some (.ref f20))) (l20:K.lookup f20=some ⟨aDz,aDg,.func (PySem.W.fnOf "_law_members" "_law_members" (aW dW) (aO dW) (ag dW) .none aDY aEO aCX aFo aBW aE6),aCw⟩) (c20:PySem.W.codeIn K aBW "_law_members" = true) (k20:PySem.W.keepIn K (.ref f20)=true)
  (a21:PySem.W.nsIn K mainGlobals "_law_some" = some (some (.ref f21))) (l21:K.lookup f21=some ⟨aDy,aDf,.func (PySem.W.fnOf "_law_some" "_law_some" (aW gh) (aO gh) (ag gh) .none aDX aEN aCW aFn aBV aE5),aCv⟩) (c21:PySem.W.codeIn K aBV "_law_some" = true) (k21:PySem.W.keepIn K (.ref f21)=true)
  (a22:PySem.W.nsIn K mainGlobals "_law_model" = some (some (.ref f22))) (l22:K.lookup f22=some ⟨aDx,aDe,.func (PySem.W.fnOf "_law_model" "_law_model" (aW fD) (aO fD) (ag fD) .none aDW aEM aCV aFm aBU aE4),aCu⟩) (c22:PySem.W.codeIn K aBU "_law_model" = true) (k22:PySem.W.keepIn K (.ref f22)=true)
  (a23:PySem.W.nsIn K mainGlobals "_law_tells" = some (some (.ref f23))) (l23:K.lookup f23=some ⟨aDw,aDd,.func (PySem.W.fnOf "_law_tells" "_law_tells" (aW fC) (aO fC) (ag fC) .none aDV aEL aCU aFl aBT aE3),aCt⟩) (c23:PySem.W.codeIn K aBT "_law_tells" = true) (k23:PySem.W.keepIn K (.ref f23)=true)
  (a24:PySem.W.nsIn K mainGlobals "_law_asked_well" = some (some (.ref f24))) (l24:K.lookup f24=some ⟨aDv,aDc,.func (PySem.W.fnOf "_law_asked_well" "_law_asked_well" (aW cJ) (aO cJ) (ag cJ) .none aDU aEK aCT aFk aBS aE2),aCs⟩) (c24:PySem.W.codeIn K aBS "_law_asked_well" = true) (k24:PySem.W.keepIn K (.ref f24)=true)
  (a25:PySem.W.nsIn K mainGlobals "_law_family" = some (some (.ref f25))) (l25:K.lookup f25=some ⟨aDu,aDb,.func (PySem.W.fnOf "_law_family" "_law_family" (aW eQ) (aO eQ) (ag eQ) .none aDT aEJ aCS aFj aBR aE1),aCr⟩) (c25:PySem.W.codeIn K aBR "_law_family" = true) (k25:PySem.W.keepIn K (.ref f25)=true)
  (a26:PySem.W.nsIn K mainGlobals "_law_none_follows" = some (some (.ref f26))) (l26:K.lookup f26=some ⟨aDt,aDa,.func (PySem.W.fnOf "_law_none_follows" "_law_none_follows" (aW cq) (aO cq) (ag cq) .none aDS aEI aCR aFi aBQ aE0),aCq⟩) (c26:PySem.W.codeIn K aBQ "_law_none_follows" = true) (k26:PySem.W.keepIn K (.ref f26)=true)
  (a27:PySem.W.nsIn K mainGlobals "law" = some (some (.ref f27))) (l27:K.lookup f27=some ⟨aDs,aC9,.func (PySem.W.fnOf "law" "law" (aW ml) (aO ml) (ag ml) .none aBd aBM aAR aCb (.ref cC_law) aBN),aCp⟩) (c27:PySem.W.codeIn K (.ref cC_law) "law" = true) (k27:PySem.W.keepIn K (.ref f27)=true)
  (z_abs:PySem.W.nsIn K mainGlobals "abs" = some none)
  (z_all:PySem.W.nsIn K mainGlobals "all" = some none)
  (z_any:PySem.W.nsIn K mainGlobals "any" = some none)
  (z_bool:PySem.W.nsIn K mainGlobals "bool" = some none)
  (z_int:PySem.W.nsIn K mainGlobals "int" = some none)
  (z_isinstance:PySem.W.nsIn K mainGlobals "isinstance" = some none)
  (z_len:PySem.W.nsIn K mainGlobals "len" = some none)
  (z_list:PySem.W.nsIn K mainGlobals "list" = some none)
  (z_range:PySem.W.nsIn K mainGlobals "range" = some none)
  (z_reversed:PySem.W.nsIn K mainGlobals "reversed" = some none)
  (z_set:PySem.W.nsIn K mainGlobals "set" = some none)
  (z_sorted:PySem.W.nsIn K mainGlobals "sorted" = some none)
  (z_sum:PySem.W.nsIn K mainGlobals "sum" = some none)
  (z_tuple:PySem.W.nsIn K mainGlobals "tuple" = some none)
  (cx7:PySem.W.specialIn K (.builtin "object.__class__") "__get__" = some (some (.builtin "getset_descriptor.__get__"))) (cx8:PySem.W.takesIn K (.builtin "object.__class__")=some true)
  {aS bf:Addr}
  {bB:Addr} {Ez Ff:Option Addr} {Ew:Array (Option Value)} {EY Fc Fd Ey uV Fe:Value}
  (am_TruceError:PySem.W.nsIn K mainGlobals "TruceError" = some (some (.ref aS))) (x1_TruceError:wj K aS=true) (x2_TruceError:PySem.W.hasDictIn K aS=true) (x3_TruceError:PySem.W.findIn K (.ref aS) "__setattr__" = some (some (.builtin "object.__setattr__"))) (x4_TruceError:PySem.W.findIn K (.ref aS) "__getattribute__" = some (some (.builtin "BaseException.__getattribute__"))) (x5_TruceError:PySem.W.findIn K (.ref aS) "__getattr__" = some none) (x6_TruceError:PySem.W.findIn K (.ref aS) "__class__" = some (some (.builtin "object.__class__"))) (x9_TruceError:PySem.W.mroIn K aS (.type "object")=some true)
  (am_NoPeace:PySem.W.nsIn K mainGlobals "NoPeace" = some (some (.ref bf))) (x1_NoPeace:wj K bf=true) (x2_NoPeace:PySem.W.hasDictIn K bf=true) (x3_NoPeace:PySem.W.findIn K (.ref bf) "__setattr__" = some (some (.builtin "object.__setattr__"))) (x4_NoPeace:PySem.W.findIn K (.ref bf) "__getattribute__" = some (some (.builtin "BaseException.__getattribute__"))) (x5_NoPeace:PySem.W.findIn K (.ref bf) "__getattr__" = some none) (x6_NoPeace:PySem.W.findIn K (.ref bf) "__class__" = some (some (.builtin "object.__class__"))) (x9_NoPeace:PySem.W.mroIn K bf (.type "object")=some true)
  (kc_TruceError:PySem.W.keepIn K (.ref aS)=true)
  (ii_TruceError:PySem.W.findIn K (.ref aS) "__init__" = some (some (.builtin "ValueError.__init__")))
  (rd_TruceError:PySem.W.readsIn K aS (.type "type")=true)
  (fc_TruceError:PySem.W.findCls K (.ref aS) (.type "type") "__init__" = some (.val (.builtin "ValueError.__init__")))
  (sg_TruceError:PySem.W.specialIn K (.ref aS) "__getattribute__" = some (some (.builtin "type.__getattribute__")))
  (kc_NoPeace:PySem.W.keepIn K (.ref bf)=true)
  (il_NoPeace:K.lookup bB=some ⟨EY,Ez,.func (PySem.W.fnOf "__init__" "NoPeace.__init__" (aW cz) (aO cz) (ag cz) .none Fc Fd Ey Ff uV Fe),Ew⟩) (ic_NoPeace:PySem.W.codeIn K uV "NoPeace.__init__" = true) (ik_NoPeace:PySem.W.keepIn K (.ref bB)=true)
  (ii_NoPeace:PySem.W.findIn K (.ref bf) "__init__" = some (some (.ref bB)))
  (if_NoPeace:PySem.W.typeIn K (.ref bB)=some (.type "function"))
  (tk_NoPeace:PySem.W.takerIn K bf "part" = some none)
  (nf_NoPeace:PySem.W.findIn K (.ref bf) "part" = some none)
  {aA:Addr} {bF:Addr} {bW:Addr} {bX:Addr}
  (pm_Sounding:PySem.W.nsIn K mainGlobals "Sounding" = some (some (.ref aA)))
  (p1_Sounding:PySem.W.plainGet K aA Str.empty=true)
  (p2_Sounding:PySem.W.hasDictIn K aA=true)
  (p3_Sounding:PySem.W.plainOver K aA=true)
  (p4_Sounding:PySem.W.findIn K (.ref aA) "__setattr__" = some (some (.builtin "object.__setattr__")))
  (pn_Sounding_ask:PySem.W.findIn K (.ref aA) "ask" = some none)
  (pn_Sounding_askings:PySem.W.findIn K (.ref aA) "askings" = some none)
  (pn_Sounding_known:PySem.W.findIn K (.ref aA) "known" = some none)
  (pn_Sounding_unknown:PySem.W.findIn K (.ref aA) "unknown" = some none)
  (q1_Sounding:PySem.W.makesIn K aA=true)
  (q2_Sounding:PySem.W.findIn K (.ref aA) "__init__" = some (some (.ref bF)))
  (q3_Sounding:PySem.W.isFn K (.ref bF)=true)
  (q4_Sounding:PySem.W.keepIn K (.ref aA)=true)
  {mB mG:Option Addr} {my:Array (Option Value)} {mC mD mE mz gO mF:Value}
  (pl_Sounding___init__:K.lookup bF=some ⟨mC,mB,.func (PySem.W.fnOf "__init__" "Sounding.__init__" (aW cu) (aO cu) (ag cu) .none mD mE mz mG gO mF),my⟩)
  (pc_Sounding___init__:PySem.W.codeIn K gO "Sounding.__init__" = true)
  (pk_Sounding___init__:PySem.W.keepIn K (.ref bF)=true)
  (r1_Sounding_tells:PySem.W.findIn K (.ref aA) "tells" = some (some (.ref bW)))
  (r2_Sounding_tells:PySem.W.isFn K (.ref bW)=true)
  {pV qa:Option Addr} {pP:Array (Option Value)} {pX pZ p6 pR jb p8:Value}
  (pl_Sounding_tells:K.lookup bW=some ⟨pX,pV,.func (PySem.W.fnOf "tells" "Sounding.tells" (aW cX) (aO cX) (ag cX) .none pZ p6 pR qa jb p8),pP⟩)
  (pc_Sounding_tells:PySem.W.codeIn K jb "Sounding.tells" = true)
  (pk_Sounding_tells:PySem.W.keepIn K (.ref bW)=true)
  (r1_Sounding_learn:PySem.W.findIn K (.ref aA) "learn" = some (some (.ref bX)))
  (r2_Sounding_learn:PySem.W.isFn K (.ref bX)=true)
  {pW qb:Option Addr} {pQ:Array (Option Value)} {pY p5 p7 pU jc p9:Value}
  (pl_Sounding_learn:K.lookup bX=some ⟨pY,pW,.func (PySem.W.fnOf "learn" "Sounding.learn" (aW cY) (aO cY) (ag cY) .none p5 p7 pU qb jc p9),pQ⟩)
  (pc_Sounding_learn:PySem.W.codeIn K jc "Sounding.learn" = true)
  (pk_Sounding_learn:PySem.W.keepIn K (.ref bX)=true)
  : ∃fd:FuncData,(∀(s:Shared) (v:Value),BindsTo s fd ⟨[v],[]⟩ [("_law_script",v)])/\∀base:Heap,K.In base->base.Ns mainGlobals mg->BMain mg base->bS l.prog w K mg base fN 20 fa fd ["_law_script"] (JD K pT_law pT_sounded):=by
 have e:=hfa.symm.trans (cR X G a27)
 cases e
 have F0:=bQ (st:=bV) l0 c0 k0
 have b0:=F0.binds (ps:=["tuples"]) λ_ _ _ _ _ _=>Mu λ_=>rfl
 have F1:=bQ (st:=gT) l1 c1 k1
 have b1:=F1.binds (ps:=["one"]) λ_ _ _ _ _ _=>Mu λ_=>rfl
 have F2:=bQ (st:=kB) l2 c2 k2
 have b2:=F2.binds (ps:=["numbers"]) λ_ _ _ _ _ _=>Mu λ_=>rfl
 have F3:=bQ (st:=iR) l3 c3 k3
 have b3:=F3.binds (ps:=["one","other"]) λ_ _ _ _ _ _=>of2 λ_ _=>rfl
 have F4:=bQ (st:=gW) l4 c4 k4
 have b4:=F4.binds (ps:=["family"]) λ_ _ _ _ _ _=>Mu λ_=>rfl
 have F5:=bQ (st:=gU) l5 c5 k5
 have b5:=F5.binds (ps:=["family"]) λ_ _ _ _ _ _=>Mu λ_=>rfl
 have F6:=bQ (st:=eN) l6 c6 k6
 have b6:=F6.binds (ps:=["family"]) λ_ _ _ _ _ _=>Mu λ_=>rfl
 have F7:=bQ (st:=dU) l7 c7 k7
 have b7:=F7.binds (ps:=["part","family"]) λ_ _ _ _ _ _=>of2 λ_ _=>rfl
 have F8:=bQ (st:=cV) l8 c8 k8
 have b8:=F8.binds (ps:=["part","family"]) λ_ _ _ _ _ _=>of2 λ_ _=>rfl
 have F9:=bQ (st:=iQ) l9 c9 k9
 have b9:=F9.binds (ps:=["whole","part"]) λ_ _ _ _ _ _=>of2 λ_ _=>rfl
 have F10:=bQ (st:=gS) l10 c10 k10
 have b10:=F10.binds (ps:=["whole"]) λ_ _ _ _ _ _=>Mu λ_=>rfl
 have F11:=bQ (st:=oq) l11 c11 k11
 have b11:=F11.binds (ps:=["whole","ask","part"]) λ_ _ _ _ _ _=>of3 λ_ _ _=>rfl
 have F12:=bQ (st:=bI) l12 c12 k12
 have b12:=F12.binds (ps:=["whole","ask"]) λ_ _ _ _ _ _=>of2 λ_ _=>rfl
 have F13:=bQ (st:=gj) l13 c13 k13
 have b13:=F13.binds (ps:=["_law_script"]) λ_ _ _ _ _ _=>Mu λ_=>rfl
 have F14:=bQ (st:=gi) l14 c14 k14
 have b14:=F14.binds (ps:=["_law_hand_here"]) λ_ _ _ _ _ _=>Mu λ_=>rfl
 have F15:=bQ (st:=gd) l15 c15 k15
 have b15:=F15.binds (ps:=["_law_hand_here"]) λ_ _ _ _ _ _=>Mu λ_=>rfl
 have F16:=bQ (st:=gk) l16 c16 k16
 have b16:=F16.binds (ps:=["_law_hand_here","_law_many"]) λ_ _ _ _ _ _=>of2 λ_ _=>rfl
 have F17:=bQ (st:=cW) l17 c17 k17
 have b17:=F17.binds (ps:=["_law_one","_law_other"]) λ_ _ _ _ _ _=>of2 λ_ _=>rfl
 have F18:=bQ (st:=dm) l18 c18 k18
 have b18:=F18.binds (ps:=["_law_thing"]) λ_ _ _ _ _ _=>Mu λ_=>rfl
 have F19:=bQ (st:=eO) l19 c19 k19
 have b19:=F19.binds (ps:=["_law_thing"]) λ_ _ _ _ _ _=>Mu λ_=>rfl
 have F20:=bQ (st:=dW) l20 c20 k20
 have b20:=F20.binds (ps:=["_law_hand_here","_law_most"]) λ_ _ _ _ _ _=>of2 λ_ _=>rfl
 have F21:=bQ (st:=gh) l21 c21 k21
 have b21:=F21.binds (ps:=["_law_hand_here","_law_whole"]) λ_ _ _ _ _ _=>of2 λ_ _=>rfl
 have F22:=bQ (st:=fD) l22 c22 k22
 have b22:=F22.binds (ps:=["_law_hand_here","_law_whole"]) λ_ _ _ _ _ _=>of2 λ_ _=>rfl
 have F23:=bQ (st:=fC) l23 c23 k23
 have b23:=F23.binds (ps:=["_law_model_here","_law_part"]) λ_ _ _ _ _ _=>of2 λ_ _=>rfl
 have F24:=bQ (st:=cJ) l24 c24 k24
 have b24:=F24.binds (ps:=["_law_notes","_law_whole"]) λ_ _ _ _ _ _=>of2 λ_ _=>rfl
 have F25:=bQ (st:=eQ) l25 c25 k25
 have b25:=F25.binds (ps:=["_law_told","_law_due"]) λ_ _ _ _ _ _=>of2 λ_ _=>rfl
 have F26:=bQ (st:=cq) l26 c26 k26
 have b26:=F26.binds (ps:=["_law_model_here","_law_asked"]) λ_ _ _ _ _ _=>of2 λ_ _=>rfl
 have F27:=bQ (st:=ml) l27 c27 k27
 have b27:=F27.binds (ps:=["_law_script"]) λ_ _ _ _ _ _=>Mu λ_=>rfl
 have xW:=bQ (st:=cz) il_NoPeace ic_NoPeace ik_NoPeace
 have Js:=xW.binds (ps:=cL) λ_ _ _ _ _ _=>of2 λ_ _=>rfl
 have iw:=bQ (st:=cu) pl_Sounding___init__ pc_Sounding___init__ pk_Sounding___init__
 have nX:=iw.binds (ps:=["self","ask","parts"]) λ_ _ _ _ _ _=>of3 λ_ _ _=>rfl
 have jW:=bQ (st:=cX) pl_Sounding_tells pc_Sounding_tells pk_Sounding_tells
 have sN:=jW.binds (ps:=["self","part"]) λ_ _ _ _ _ _=>of2 λ_ _=>rfl
 have jX:=bQ (st:=cY) pl_Sounding_learn pc_Sounding_learn pk_Sounding_learn
 have sO:=jX.binds (ps:=["self","part","peaceful"]) λ_ _ _ _ _ _=>of3 λ_ _ _=>rfl
 have T:Txt K mg ⟨_,_,_,_,_,_,_,_,_,_,_,_,_,_,_,_,_,_,_,_,_,_,_,_,_,_,_,_,_,_,_,_,_,_,_,_,_,_,_,_,_,_,_,_,_,_,_,_,_,_,_,_,_,_,_,_,_,_,_,_,_,_,_,_,_,_,_⟩:=⟨F0,b0,cR X G a0,F1,b1,cR X G a1,F2,b2,cR X G a2,F3,b3,cR X G a3,F4,b4,cR X G a4,F5,b5,cR X G a5,F6,b6,cR X G a6,F7,b7,cR X G a7,F8,b8,cR X G a8,F9,b9,cR X G a9,F10,b10,cR X G a10,F11,b11,cR X G a11,F12,b12,cR X G a12,F13,b13,cR X G a13,F14,b14,cR X G a14,F15,b15,cR X G a15,F16,b16,cR X G a16,F17,b17,cR X G a17,F18,b18,cR X G a18,F19,b19,cR X G a19,F20,b20,cR X G a20,F21,b21,cR X G a21,F22,b22,cR X G a22,F23,b23,cR X G a23,F24,b24,cR X G a24,F25,b25,cR X G a25,F26,b26,cR X G a26,F27,b27,cR X G a27,jF X G z_abs,jF X G z_all,jF X G z_any,jF X G z_bool,jF X G z_int,jF X G z_isinstance,jF X G z_len,jF X G z_list,jF X G z_range,jF X G z_reversed,jF X G z_set,jF X G z_sorted,jF X G z_sum,jF X G z_tuple,cR X G am_TruceError,⟨x1_TruceError,x2_TruceError,x3_TruceError,x4_TruceError,x5_TruceError,x6_TruceError,cx7,cx8,x9_TruceError⟩,kc_TruceError,ii_TruceError,rd_TruceError,fc_TruceError,sg_TruceError,cR X G am_NoPeace,⟨x1_NoPeace,x2_NoPeace,x3_NoPeace,x4_NoPeace,x5_NoPeace,x6_NoPeace,cx7,cx8,x9_NoPeace⟩,kc_NoPeace,xW,Js,ii_NoPeace,if_NoPeace,tk_NoPeace,nf_NoPeace,cR X G pm_Sounding,⟨p1_Sounding,p2_Sounding,p3_Sounding,p4_Sounding⟩,pn_Sounding_ask,pn_Sounding_askings,pn_Sounding_known,pn_Sounding_unknown,⟨q1_Sounding,q2_Sounding,q3_Sounding,q4_Sounding⟩,iw,nX,jW,sN,⟨r1_Sounding_tells,r2_Sounding_tells,pk_Sounding_tells⟩,jX,sO,⟨r1_Sounding_learn,r2_Sounding_learn,pk_Sounding_learn⟩⟩
 exact⟨PySem.W.fnOf "law" "law" (aW ml) (aO ml) (ag ml) .none aBd aBM aAR aCb (.ref cC_law) aBN,λs v=>.of_eq rfl,λbase kb _ hB=>YF (P:=l.prog) (w:=w) (base:=base) T rfl (PySem.W.codeHd_of_K kb Z1) rfl (PySem.W.codeHd_of_K kb IK) hB⟩
theorem walk{l:PySem.W.OpenLaw}{q:Program}{loose:List Str}{XP:(Str->Option Value)->Heap->Prop}{YP:World->Heap->Prop}{d:DefRec}{K:Params->PySem.W.Frag}{cC_law pT_law cC_sounded pT_sounded:Addr}(hn:l.most=some 63)(hNE:pT_law≠pT_sounded)(hdf:d.params.defaults=[])
  (hY:∀(w:World) (h:Heap),YP w h->(K w.params).In h/\∀q∈[(cC_law,pT_law),(cC_sounded,pT_sounded)],h.get? q.2=some (PySem.W.tabObj #[]))
  (hCd:∀w:World,∀q∈[(cC_law,pT_law),(cC_sounded,pT_sounded)],PySem.W.codeHdIn (K w.params) q.1 q.2=true/\(K w.params).lookup q.2=none)
  (F:∀(w:World) (mg:Str->Option Value) (fa:Addr) (h:Heap),(K w.params).In h->h.Ns mainGlobals mg->mg d.name=some (.ref fa)->
   ∃fd:FuncData,(∀(s:Shared) (u:Value),BindsTo s fd ⟨[u],[]⟩ [("_law_script",u)])/\∀base:Heap,(K w.params).In base->base.Ns mainGlobals mg->BMain mg base->bS l.prog w (K w.params) mg base fN 20 fa fd ["_law_script"] (JD (K w.params) pT_law pT_sounded)) :
  PySem.W.WalkO q loose XP YP l.row.toRowW d [] (λf vs=>PySem.call f vs):=
 L2.Om (n:=63) (k:=20) (x:="_law_script") (ts:=[(cC_law,pT_law),(cC_sounded,pT_sounded)]) (CX:=λ_=>fN) (sp:=λw=>JD (K w.params) pT_law pT_sounded) hn (by decide) hdf ⟨rfl,by decide,by decide⟩ hY hCd F (λ_ _ a ns hl hT hS=>⟨a,ns,rfl,hS,hl,hT (cC_law,pT_law) (by simp),hT (cC_sounded,pT_sounded) (by simp),hNE,λ_=>rfl⟩) λ_ _ _ _ _ z=>z
def view:Program:={ PySem.Challenge.pw_truceroll_k55_whole_no_asking_that_follo with main:={ PySem.Challenge.pw_truceroll_k55_whole_no_asking_that_follo.main with body:=[top 1,top 2,top 4,top 5,top 7,top 8,top 9,top 10,top 11,top 12,top 13,top 14,top 15,top 17,top 19,top 20,top 22,top 23,top 24,top 25,top 26,top 27,top 28,top 29,top 30,top 31,top 32,top 33,top 34,top 35,top 36] } }
end My
open PySem PySem.W PyProof.Rows
local macro_rules | `(tactic| o_head $H:term) => `(tactic| (
  refine holds_open (q := My.view) (loose := []) (Xt := fun s => xlAt My.view [] s && recOk (RowW.records (OpenRow.toRowW PySem.Challenge.rw_truceroll_k55_whole_no_asking_that_follo.row)) s) (XP := XL My.view []) (Yf := Hook.obs $H) (Ya := Hook.val $H) (YP := Hook.says $H) (N := 40000) ?hl (Hook.of $H) (Hook.keeps $H) (fun s e => xl_of s (Bool.and_eq_true_iff.mp e).1) XL.keeps (by rfl) (by rfl) (by rfl) (fun s e => recFacts_of (Bool.and_eq_true_iff.mp e).2) (by rfl) (by first | assumption | decide +kernel) (by decide +kernel) ⟨rfl, rfl, rfl, rfl, rfl, by decide +kernel⟩ ?hw ?hc
  case hl => intro w; kernel_rfl))
theorem PySem.Challenge.cw_truceroll_k55_whole_no_asking_that_follo_holds : PySem.Challenge.rw_truceroll_k55_whole_no_asking_that_follo.Holds := by
 w_on;o_law;k_head;(case hw=>w_witness2)
 k_fill
 refine My.walk (l:=PySem.Challenge.rw_truceroll_k55_whole_no_asking_that_follo) (cC_law:=258) (pT_law:=254) (cC_sounded:=130) (pT_sounded:=128) rfl (by decide) rfl (λw h Y=>⟨PySem.W.km_in_of Y,λq hq=>PySem.W.km_tabs_of Y _ (by simp only[List.mem_cons,List.not_mem_nil,or_false]at hq ⊢;rcases hq with rfl | rfl <;> simp)⟩) (λw q hq=>by simp only[List.mem_cons,List.not_mem_nil,or_false]at hq;rcases hq with rfl | rfl <;> exact⟨by kernel_rfl,by kernel_rfl⟩) ?F
 case F=>
  intro w mg fa h KX G hmg
  refine' My.all_mk KX G hmg (by kernel_rfl) (by kernel_rfl) ?a0 ?l0 ?c0 ?k0 ?a1 ?l1 ?c1 ?k1 ?a2 ?l2 ?c2 ?k2 ?a3 ?l3 ?c3 ?k3 ?a4 ?l4 ?c4 ?k4 ?a5 ?l5 ?c5 ?k5 ?a6 ?l6 ?c6 ?k6 ?a7 ?l7 ?c7 ?k7 ?a8 ?l8 ?c8 ?k8 ?a9 ?l9 ?c9 ?k9 ?a10 ?l10 ?c10 ?k10 ?a11 ?l11 ?c11 ?k11 ?a12 ?l12 ?c12 ?k12 ?a13 ?l13 ?c13 ?k13 ?a14 ?l14 ?c14 ?k14 ?a15 ?l15 ?c15 ?k15 ?a16 ?l16 ?c16 ?k16 ?a17 ?l17 ?c17 ?k17 ?a18 ?l18 ?c18 ?k18 ?a19 ?l19 ?c19 ?k19 ?a20 ?l20 ?c20 ?k20 ?a21 ?l21 ?c21 ?k21 ?a22 ?l22 ?c22 ?k22 ?a23 ?l23 ?c23 ?k23 ?a24 ?l24 ?c24 ?k24 ?a25 ?l25 ?c25 ?k25 ?a26 ?l26 ?c26 ?k26 ?a27 ?l27 ?c27 ?k27 ?z_abs ?z_all ?z_any ?z_bool ?z_int ?z_isinstance ?z_len ?z_list ?z_range ?z_reversed ?z_set ?z_sorted ?z_sum ?z_tuple ?cx7 ?cx8 ?am_TruceError ?x1_TruceError ?x2_TruceError ?x3_TruceError ?x4_TruceError ?x5_TruceError ?x6_TruceError ?x9_TruceError ?am_NoPeace ?x1_NoPeace ?x2_NoPeace ?x3_NoPeace ?x4_NoPeace ?x5_NoPeace ?x6_NoPeace ?x9_NoPeace ?kc_TruceError ?ii_TruceError ?rd_TruceError ?fc_TruceError ?sg_TruceError ?kc_NoPeace ?il_NoPeace ?ic_NoPeace ?ik_NoPeace ?ii_NoPeace ?if_NoPeace ?tk_NoPeace ?nf_NoPeace ?pm_Sounding ?p1_Sounding ?p2_Sounding ?p3_Sounding ?p4_Sounding ?pn_Sounding_ask ?pn_Sounding_askings ?pn_Sounding_known ?pn_Sounding_unknown ?q1_Sounding ?q2_Sounding ?q3_Sounding ?q4_Sounding ?pl_Sounding___init__ ?pc_Sounding___init__ ?pk_Sounding___init__ ?r1_Sounding_tells ?r2_Sounding_tells ?pl_Sounding_tells ?pc_Sounding_tells ?pk_Sounding_tells ?r1_Sounding_learn ?r2_Sounding_learn ?pl_Sounding_learn ?pc_Sounding_learn ?pk_Sounding_learn
  (case a0=>k_is)
  (case l0=>k_is)
  (case c0=>k_is)
  (case k0=>k_is)
  (case a1=>k_is)
  (case l1=>k_is)
  (case c1=>k_is)
  (case k1=>k_is)
  (case a2=>k_is)
  (case l2=>k_is)
  (case c2=>k_is)
  (case k2=>k_is)
  (case a3=>k_is)
  (case l3=>k_is)
  (case c3=>k_is)
  (case k3=>k_is)
  (case a4=>k_is)
  (case l4=>k_is)
  (case c4=>k_is)
  (case k4=>k_is)
  (case a5=>k_is)
  (case l5=>k_is)
  (case c5=>k_is)
  (case k5=>k_is)
  (case a6=>k_is)
  (case l6=>k_is)
  (case c6=>k_is)
  (case k6=>k_is)
  (case a7=>k_is)
  (case l7=>k_is)
  (case c7=>k_is)
  (case k7=>k_is)
  (case a8=>k_is)
  (case l8=>k_is)
  (case c8=>k_is)
  (case k8=>k_is)
  (case a9=>k_is)
  (case l9=>k_is)
  (case c9=>k_is)
  (case k9=>k_is)
  (case a10=>k_is)
  (case l10=>k_is)
  (case c10=>k_is)
  (case k10=>k_is)
  (case a11=>k_is)
  (case l11=>k_is)
  (case c11=>k_is)
  (case k11=>k_is)
  (case a12=>k_is)
  (case l12=>k_is)
  (case c12=>k_is)
  (case k12=>k_is)
  (case a13=>k_is)
  (case l13=>k_is)
  (case c13=>k_is)
  (case k13=>k_is)
  (case a14=>k_is)
  (case l14=>k_is)
  (case c14=>k_is)
  (case k14=>k_is)
  (case a15=>k_is)
  (case l15=>k_is)
  (case c15=>k_is)
  (case k15=>k_is)
  (case a16=>k_is)
  (case l16=>k_is)
  (case c16=>k_is)
  (case k16=>k_is)
  (case a17=>k_is)
  (case l17=>k_is)
  (case c17=>k_is)
  (case k17=>k_is)
  (case a18=>k_is)
  (case l18=>k_is)
  (case c18=>k_is)
  (case k18=>k_is)
  (case a19=>k_is)
  (case l19=>k_is)
  (case c19=>k_is)
  (case k19=>k_is)
  (case a20=>k_is)
  (case l20=>k_is)
  (case c20=>k_is)
  (case k20=>k_is)
  (case a21=>k_is)
  (case l21=>k_is)
  (case c21=>k_is)
  (case k21=>k_is)
  (case a22=>k_is)
  (case l22=>k_is)
  (case c22=>k_is)
  (case k22=>k_is)
  (case a23=>k_is)
  (case l23=>k_is)
  (case c23=>k_is)
  (case k23=>k_is)
  (case a24=>k_is)
  (case l24=>k_is)
  (case c24=>k_is)
  (case k24=>k_is)
  (case a25=>k_is)
  (case l25=>k_is)
  (case c25=>k_is)
  (case k25=>k_is)
  (case a26=>k_is)
  (case l26=>k_is)
  (case c26=>k_is)
  (case k26=>k_is)
  (case a27=>k_is)
  (case l27=>k_is)
  (case c27=>k_is)
  (case k27=>k_is)
  (case z_abs=>k_is)
  (case z_all=>k_is)
  (case z_any=>k_is)
  (case z_bool=>k_is)
  (case z_int=>k_is)
  (case z_isinstance=>k_is)
  (case z_len=>k_is)
  (case z_list=>k_is)
  (case z_range=>k_is)
  (case z_reversed=>k_is)
  (case z_set=>k_is)
  (case z_sorted=>k_is)
  (case z_sum=>k_is)
  (case z_tuple=>k_is)
  (case cx7=>first | k_is | rfl)
  (case cx8=>first | k_is | rfl)
  (case am_TruceError=>first | k_is | rfl)
  (case x1_TruceError=>first | k_is | rfl)
  (case x2_TruceError=>first | k_is | rfl)
  (case x3_TruceError=>first | k_is | rfl)
  (case x4_TruceError=>first | k_is | rfl)
  (case x5_TruceError=>first | k_is | rfl)
  (case x6_TruceError=>first | k_is | rfl)
  (case x9_TruceError=>first | k_is | rfl)
  (case ii_TruceError=>first | k_is | rfl)
  (case am_NoPeace=>first | k_is | rfl)
  (case x1_NoPeace=>first | k_is | rfl)
  (case x2_NoPeace=>first | k_is | rfl)
  (case x3_NoPeace=>first | k_is | rfl)
  (case x4_NoPeace=>first | k_is | rfl)
  (case x5_NoPeace=>first | k_is | rfl)
  (case x6_NoPeace=>first | k_is | rfl)
  (case x9_NoPeace=>first | k_is | rfl)
  (case ii_NoPeace=>first | k_is | rfl)
  (case kc_TruceError=>first | k_is | rfl)
  (case rd_TruceError=>first | k_is | rfl)
  (case fc_TruceError=>first | k_is | rfl)
  (case sg_TruceError=>first | k_is | rfl)
  (case kc_NoPeace=>first | k_is | rfl)
  (case il_NoPeace=>first | k_is | rfl)
  (case ic_NoPeace=>first | k_is | rfl)
  (case ik_NoPeace=>first | k_is | rfl)
  (case if_NoPeace=>first | k_is | rfl)
  (case tk_NoPeace=>first | k_is | rfl)
  (case nf_NoPeace=>first | k_is | rfl)
  (case pm_Sounding=>first | k_is | rfl)
  (case p1_Sounding=>first | k_is | rfl)
  (case p2_Sounding=>first | k_is | rfl)
  (case p3_Sounding=>first | k_is | rfl)
  (case p4_Sounding=>first | k_is | rfl)
  (case pn_Sounding_ask=>first | k_is | rfl)
  (case pn_Sounding_askings=>first | k_is | rfl)
  (case pn_Sounding_known=>first | k_is | rfl)
  (case pn_Sounding_unknown=>first | k_is | rfl)
  (case q1_Sounding=>first | k_is | rfl)
  (case q2_Sounding=>first | k_is | rfl)
  (case q3_Sounding=>first | k_is | rfl)
  (case q4_Sounding=>first | k_is | rfl)
  (case pl_Sounding___init__=>first | k_is | rfl)
  (case pc_Sounding___init__=>first | k_is | rfl)
  (case pk_Sounding___init__=>first | k_is | rfl)
  (case r1_Sounding_tells=>first | k_is | rfl)
  (case r2_Sounding_tells=>first | k_is | rfl)
  (case pl_Sounding_tells=>first | k_is | rfl)
  (case pc_Sounding_tells=>first | k_is | rfl)
  (case pk_Sounding_tells=>first | k_is | rfl)
  (case r1_Sounding_learn=>first | k_is | rfl)
  (case r2_Sounding_learn=>first | k_is | rfl)
  (case pl_Sounding_learn=>first | k_is | rfl)
  (case pc_Sounding_learn=>first | k_is | rfl)
  (case pk_Sounding_learn=>first | k_is | rfl)
