import PyProof.Rows.All
import Wide.All
import OpenK.AllK
import Wide.FinOn
import Lean
import PyProof.EqAt
import PyProof.EqKinds
import PyProof.TupleCall
import PySem.Challenge.RW_truceroll_k54_sounded_lists
set_option Elab.async false
set_option linter.all false
set_option maxRecDepth 100000
set_option maxHeartbeats 0
def av:=@PySem.wpAny_bind
def bq:=@List.getElem?_eq_getElem
def aM:=@List.length_map
def bN:=@PySem.Heap.get?_push_of_some
def aK:=@PySem.wpAny_pure
def fq:=@List.getElem?_eq_some_iff
def cZ:=@Array.length_toList
def bj:=@Nat.le_refl
def bG:=@PySem.Heap.lt_size
def aE:=@if_neg
def aD:=@PyProof.Rows.wpS_bind
def bW:=@Nat.lt_of_lt_of_le
def ay:=@if_pos
def bS:=@List.size_toArray
def dG:=@Array.getElem?_eq_getElem
def cC:=@PySem.Heap.get?_push_size
def aG:=@PyProof.Rows.wpS_pure
def bf:=@Nat.ne_of_lt
def cV:=@List.mem_cons_of_mem
def cG:=@List.mem_singleton
def cS:=@List.length_append
def cM:=@List.getElem?_map
def bJ:=@List.mem_cons
def df:=@List.mem_cons_self
def cx:=@List.mem_filter
def cw:=@List.mem_append
def gH:=@List.getD_eq_getElem?_getD
def dv:=@Bool.and_eq_true
def dF:=@List.lookup_cons
def jw:=@Array.getD_eq_getD_getElem?
def fC:=@PySem.mem_of_lookup
def dE:=@List.map_append
def cR:=@PySem.W.mg_of
def jv:=@List.getElem?_append_right
def gS:=@List.mem_append_right
def eV:=@List.length_cons
def gb:=@Bool.false_ne_true
def cQ:=@Nat.le_trans
def g9:=@List.pairwise_append
def fw:=@Option.some.inj
def fZ:=@List.length_take
def dZ:=@List.map_cons
def gk:=@List.any_eq_true
def de:=@Nat.zero_le
def lD:=@List.getElem?_append_left
def gR:=@List.take_add_one
def cL:=@PySem.wpAny_mono
def gF:=@beq_self_eq_true
def gE:=@List.take_length
def gj:=@List.append_nil
def ja:=@Bool.false_eq_true
def g8:=@decide_eq_true_eq
def j7:=@Array.getElem?_toList
def ju:=@PySem.F.called_set
def eU:=@List.mem_map
def iZ:=@Array.getElem_mem
def iY:=@PySem.wpAny_newObj_type
def j6:=@List.mem_of_getElem?
def lB:=@List.getElem?_eq_none
def j5:=@Array.toList_append
def fY:=@List.map_map
def jE:=@List.append_assoc
def m7:=@List.length_filter_le
def j4:=@PySem.W.mg_none_of
def fB:=@PyProof.Rows.wpS_forRange
def jt:=@PySem.PassesOwn.never
def g7:=@Nat.lt_irrefl
def j3:=@List.all_eq_true
def pM:=@List.length_replicate
def gD:=@Int.le_refl
def g6:=@Nat.ne_of_gt
def pL:=@PySem.Heap.get?_update_self
def uZ:=@List.pairwise_iff_getElem
def js:=@PySem.wpAny_holding
def lA:=@List.foldl_cons
def uY:=@PySem.F.type_list_append
def uX:=@PySem.F.slot_list_append
def m6:=@List.getElem_mem
def pK:=@List.map_congr_left
def uW:=@PySem.F.plainAttrs_list
def yJ:=@PyProof.Rows.slot_tuple_getitem
def v9:=@Array.perm_iff_toList_perm
def m5:=@List.nodup_cons
def fu:=@if_false
def lz:=@PySem.Heap.size_push
def eI:=@PyProof.Rows.wpS_mono
def pJ:=@Nat.lt_succ_of_lt
def nL:=@PySem.wpAny_call_entry
def uV:=@PySem.Heap.get?_update_other
def nJ:=@PySem.W.kia_one
def dY:=@Iff.rfl
def nI:=@Bool.eq_iff_iff
def CZ:=@PySem.F.slot_dict_keyiterator_next
def rJ:=@Nat.lt_of_le_of_lt
def rH:=@List.filter_append
def uU:=@List.mem_iff_getElem
def uT:=@List.mem_append_left
def rG:=@List.ext_getElem?
def uS:=@beq_eq_false_iff_ne
def uR:=@List.toList_toArray
def gT:=@Nat.le_succ
def kI:=@Bool.or_eq_true
def ia:=@PySem.codeAny_mono
def nV:=@PySem.Heap.SameBut.update
def my:=@List.length_drop
def nU:=@PySem.wpAny_Call_Name_kw
def nR:=@Int.toNat_natCast
def nQ:=@Array.toList_push
def mw:=@List.nil_append
def qi:=@PySem.Heap.get?_none_of_le
def qh:=@PySem.Around.under_plainId
def t6:=@List.take_of_length_le
def t5:=@PySem.wpAny_callSpecial?_slot
def mq:=@PySem.codeAny_builtin
def nP:=@Nat.lt_succ_self
def nO:=@Array.toList_map
def fD:=@congrArg
def wM:=@Array.getElem?_eq_some_iff
def wL:=@List.drop_eq_getElem_cons
def eK:=@Ne.symm
def tZ:=@Nat.pow_le_pow_right
def kG:=@Nat.le_of_lt
def tY:=@List.length_reverse
def qg:=@List.filter_cons
def hX:=@PyProof.Rows.wpS_modify
def jj:=@PySem.wpAny_rule
def qf:=@Option.map_some
def wK:=@List.take_append_drop
def Ap:=@PySem.wpAny_typeNameOfWhole_keyiter
def tX:=@Nat.le_succ_of_le
def tW:=@PySem.wpAny_setField_rec
def qe:=@PySem.wpAny_passesOwn
def qd:=@List.nodup_nil
def qc:=@List.mem_range
def wJ:=@Array.getElem_toList
def gB:=@if_true
def tV:=@List.not_mem_nil
def tU:=@List.getElem_inj
def tT:=@PySem.wpAny_setState_of
def Ao:=@Classical.byContradiction
def wI:=@List.mem_map_of_mem
def kF:=@PySem.wpAny_call
def mn:=@PySem.sizeLine_eq
def qb:=@List.any_cons
def tS:=@List.find?_cons
def wH:=@PySem.W.callWith_K
def wG:=@List.pairwise_cons
def wF:=@List.map_inj_right
def Am:=@PySem.F.plain_list_iadd
def Al:=@PySem.wpAny_typeNameOf_keyiter
def qa:=@PySem.wpAny_standAt
def wD:=@List.nodup_append
def ml:=@PyProof.Rows.mirror_perm
def wC:=@PySem.Obj.data_mapFields
def Ak:=@PySem.W.methodCall_KW
def wB:=@List.map_reverse
def wA:=@PySem.wpAny_truthy_bool
def tR:=@PySem.wpAny_fieldsOf
def Aj:=@Array.toList_reverse
def p9:=@PyProof.Rows.listUpdate_at
def wz:=@beq_false_of_ne
def wy:=@List.of_mem_zip
def wx:=@List.length_nil
def Ai:=@List.reverse_append
def Ah:=@List.filter_sublist
def Ag:=@List.filterMap_cons
def G4:=@PyProof.Rows.callWith_type1
def tQ:=@List.any_map
def tP:=@PySem.wpAny_attempt
def p8:=@PySem.wpAny_field
def Af:=@PySem.codeAny_call_builtin
def Ae:=@Nat.add_sub_cancel
def tO:=@Sum.inl.inj
def Ad:=@Option.some.injEq
def Ac:=@List.pairwise_map
def Ab:=@List.foldl_append
def Aa:=@List.Sublist.refl
def G3:=@PySem.F.args_tuple_add_2
def wu:=@List.all_cons
def ji:=@PyProof.Rows.wpS_get
def wq:=@PySem.wpAny_setField
def G0:=@PySem.F.entry_tuple_add
def GZ:=@List.length_eq_zero_iff
def GX:=@List.getElem?_replicate
def GR:=@List.getElem?_cons_succ
def z9:=@PySem.Code.quiet_builtin
def GQ:=@PySem.F.slot_tuple_add
def GP:=@List.drop_eq_nil_of_le
def GL:=@List.Perm.append_right
def wo:=@Int.le_trans
def GK:=@Array.getElem?_eq_none
def z8:=@PySem.wpAny_pyIter_list
def z7:=@PySem.wpAny_loadPart_at
def z6:=@PySem.fits_of_scanBound
def wm:=@PySem.wpAny_newList
def GJ:=@PySem.wpAny_comprehension_free
def wj:=@PySem.plainId_quiet
def GF:=@List.mem_iff_getElem?
def GD:=@List.length_singleton
def GC:=@List.getElem?_reverse
def Gz:=@List.Perm.append_left
def z4:=@PySem.wpAny_isInstance
def Gy:=@PySem.W.looks_findIn
def Gx:=@List.replicate_succ'
def Gw:=@List.mem_of_mem_take
def wg:=@List.map_id
def zZ:=@Bool.false_and
def wd:=@PySem.wpAny_typeOf
def Gv:=@eq_false_of_ne_true
def Gu:=@PySem.W.plainGet_of
def OJ:=@PySem.F.args_dict_keyiterator_next_1
def Gs:=@List.getElem_of_mem
def zY:=@PySem.wpAny_execs_nil
def zX:=@PySem.codeAny_of_tree
def OD:=@PySem.F.entry_dict_keyiterator_next
def zW:=@Bool.or_false
def zV:=@Bool.not_true
def Gr:=@PySem.wpAny_isOneOf_keyiter
def Gq:=@Option.isSome_some
def Gp:=@PySem.Obj.isFreed_of_fields
def wc:=@Int.not_lt
def Gn:=@Array.size_extract
def zU:=@PySem.wpAny_runValue
def wa:=@PySem.wpAny_of_eq
def Gm:=@bne_self_eq_false
def Gk:=@Nat.lt_trichotomy
def zT:=@List.map_nil
def Gj:=@Bool.not_eq_true'
def nM:=@PyProof.Rows.wpS_lift
def Gi:=@PyProof.Rows.F.plain_set_update_loop
def Gh:=@PySem.wpAny_setEntries_of
def Gg:=@PySem.wpAny_raiseNew_none
def Gf:=@PySem.wpAny_isSubtype_exc
def Oz:=@PyProof.Rows.callWith_builtin1
def Ge:=@Nat.le_of_not_lt
def Gd:=@List.getElem_map
def Oy:=@List.eq_nil_of_length_eq_zero
def Ox:=@Array.mem_extract_iff_getElem
section
namespace L2
open PySem PySem.Spec PyProof.Rows
abbrev Key:=Sum Int Str
def zt:Key->Value->Bool
 | .inl k,v=>Value.isInt k v
 | .inr x,v=>Value.isStrOf x v
def aD6(w:World):Key->Int
 | .inl k=>hashInt k
 | .inr x=>hashStr w x
theorem dJ:∀{k:Key} {v:Value},zt k v=true->(∃i t,k=Sum.inl i/\v=Value.int i t)\/(∃x t,k=Sum.inr x/\v=Value.str x t)
 | .inl i,v,h=>by
  obtain⟨t,e⟩:=Value.isInt_shape (k:=i) (v:=v) h
  exact .inl ⟨i,t,rfl,e⟩
 | .inr x,v,h=>by
  obtain⟨t,e⟩:=Value.isStrOf_shape (x:=x) (v:=v) h
  exact .inr ⟨x,t,rfl,e⟩
theorem Ng(i:Int)(t:Tok):zt (.inl i) (.int i t)=true:=by simp[zt,Value.isInt]
theorem Nf(x:Str)(t:Tok):zt (.inr x) (.str x t)=true:=by simp[zt,Value.isStrOf]
theorem aAf(a b:Int):decide ((Sum.inl a:Key)=Sum.inl b)=(a==b):=by
 by_cases e:a=b
 ·subst e;simp
 ·have h:¬(Sum.inl a:Key)=Sum.inl b:=λq=>e (tO q)
  rw[decide_eq_false h]
  exact(uS.mpr e).symm
theorem aAc(a b:Str):decide ((Sum.inr a:Key)=Sum.inr b)=decide (a=b):=by
 by_cases e:a=b
 ·subst e;simp
 ·have h:¬(Sum.inr a:Key)=Sum.inr b:=λq=>e (Sum.inr.inj q)
  rw[decide_eq_false h,decide_eq_false e]
theorem aAe(a:Int)(b:Str):decide ((Sum.inl a:Key)=Sum.inr b)=false:=decide_eq_false (λq=>nomatch q)
theorem aAd(a:Str)(b:Int):decide ((Sum.inr a:Key)=Sum.inl b)=false:=decide_eq_false (λq=>nomatch q)
def dW(prog:Program)(w:World):PySem.KeyKind prog w Key where
 is:=zt
 hash:=aD6 w
 inj:=λv a b ha hb=>by
  rcases dJ ha with ⟨i,t,rfl,rfl⟩ | ⟨x,t,rfl,rfl⟩
  ·rcases dJ hb with ⟨j,u,rfl,e⟩ | ⟨y,u,rfl,e⟩
   ·injection e with e1 _;rw[e1]
   ·exact nomatch e
  ·rcases dJ hb with ⟨j,u,rfl,e⟩ | ⟨y,u,rfl,e⟩
   ·exact nomatch e
   ·injection e with e1 _;rw[e1]
 byValue:=λk v h=>by
  rcases dJ h with ⟨i,t,rfl,rfl⟩ | ⟨x,t,rfl,rfl⟩ <;> rfl
 pyHash:=λhv h=>by
  rcases dJ hv with ⟨i,t,rfl,rfl⟩ | ⟨x,t,rfl,rfl⟩
  ·exact wpAny_pyHash_int h
  ·exact wpAny_pyHash_str h
 eqBool:=λhu hv h=>by
  rcases dJ hu with ⟨i,t,rfl,rfl⟩ | ⟨x,t,rfl,rfl⟩
  ·rcases dJ hv with ⟨j,u,rfl,rfl⟩ | ⟨y,u,rfl,rfl⟩
   ·rw[aAf]at h;exact wpAny_eqBool_int h
   ·rw[aAe]at h;exact SeqAt.EqAt.int_str i t y u _ _ _ _ h
  ·rcases dJ hv with ⟨j,u,rfl,rfl⟩ | ⟨y,u,rfl,rfl⟩
   ·rw[aAd]at h;exact SeqAt.EqAt.str_int x t j u _ _ _ _ h
   ·rw[aAc]at h;exact wpAny_eqBool_str h
 «strs»:=λk x t v h=>by
  rcases dJ h with ⟨i,u,rfl,e⟩ | ⟨y,u,rfl,e⟩
  ·exact nomatch e
  ·injection e with e1 _
   subst e1
   cases v <;> rfl
theorem Ej(prog:Program)(w:World)(i:Int)(t:Tok):(dW prog w).is (.inl i) (.int i t)=true:=Ng i t
theorem Ei(prog:Program)(w:World)(x:Str)(t:Tok):(dW prog w).is (.inr x) (.str x t)=true:=Nf x t
end L2
namespace L2
open PySem PySem.Spec PyProof.Rows
inductive V where
 | non | bl (b:Bool) | int (i:Int) | str (x:Str) | Ov (b:Array UInt8) | flt (b:UInt64) | ref (a:Addr) | ty (n:String)
 deriving DecidableEq
def RelV:V->Value->Prop
 | .non,u=>u=Value.none
 | .bl b,u=>u=Value.bool b
 | .int i,u=>∃t,u=Value.int i t
 | .str x,u=>∃t,u=Value.str x t
 | .Ov b,u=>∃t,u=Value.bytes b t
 | .flt b,u=>∃t,u=Value.float b t
 | .ref a,u=>u=Value.ref a
 | .ty n,u=>u=Value.type n
abbrev Vals:List V->List Value->Prop:=Paired RelV
theorem Vals.length{xs:List V}{us:List Value}(r:Vals xs us):xs.length=us.length:=Paired.length r
theorem Vals.get:∀{xs:List V} {us:List Value} {i:Nat} {x:V},Vals xs us->xs[i]?=some x->∃u,us[i]?=some u/\RelV x u
 | _,_,_,_,.nil,e=>by simp at e
 | _,_,0,_,.cons r _,e=>by simp at e;subst e;exact⟨_,rfl,r⟩
 | _,_,i+1,x,.cons _ t,e=>by
  obtain⟨u,h1,h2⟩:=Vals.get (i:=i) (x:=x) t (by simpa using e)
  exact⟨u,by simpa using h1,h2⟩
theorem Vals.set{x:V}{u:Value}(r:RelV x u):∀{xs:List V} {us:List Value} (i:Nat),Vals xs us->Vals (xs.set i x) (us.set i u)
 | _,_,_,.nil=>.nil
 | _,_,0,.cons _ t=>.cons r t
 | _,_,i+1,.cons q t=>.cons q (Vals.set r i t)
theorem Vals.append:∀{xs ys:List V} {us ws:List Value},Vals xs us->Vals ys ws->Vals (xs++ys) (us++ws)
 | _,_,_,_,.nil,s=>s
 | _,_,_,_,.cons r t,s=>.cons r (Vals.append t s)
theorem Vals.take:∀{xs:List V} {us:List Value} (n:Nat),Vals xs us->Vals (xs.take n) (us.take n)
 | _,_,0,_=>.nil
 | _,_,_+1,.nil=>.nil
 | _,_,n+1,.cons r t=>.cons r (Vals.take n t)
theorem Vals.drop:∀{xs:List V} {us:List Value} (n:Nat),Vals xs us->Vals (xs.drop n) (us.drop n)
 | _,_,0,r=>r
 | _,_,_+1,.nil=>.nil
 | _,_,n+1,.cons _ t=>Vals.drop n t
def pF:Option V->Option Value->Prop
 | some v,some u=>RelV v u
 | none,none=>True
 | _,_=>False
def KV{κ:Type}:List (κ×V)->List (κ×Value)->Prop:=Paired λ(p:κ×V) (q:κ×Value)=>p.1=q.1/\RelV p.2 q.2
def kV:Key->V
 | .inl i=>.int i
 | .inr x=>.str x
inductive HO where
 | lst (xs:List V)
 | tup (xs:List V)
 | dK (aO:List (Key×V)) | dT (aO:List (List Key×V))
 | set (S:Int->Bool) (n:Nat)
 | ins (C dx:Addr) (fs:List (Str×V))
 | own (x:Addr)
 | xd (fs:List (Str×V))
 | met (f x:Addr)
 | rng (lo hi:Int)
 | zF (o:Obj) (u:HO)
 | qF (ps:Array Value)
 | ext (φ:Heap->Prop)
abbrev Hp:=Addr->Option HO
def upd(H:Hp)(a:Addr)(o:HO):Hp:=λb=>if b=a then some o else H b
theorem ai{H:Hp}{a:Addr}{o:HO}:upd H a o a=some o:=by unfold upd;rw[ay rfl]
theorem au{H:Hp}{a b:Addr}{o:HO}(h:b≠a):upd H a o b=H b:=by unfold upd;rw[aE h]
theorem vN{H:Hp}{a:Addr}{o u:HO}:upd (upd H a o) a u=upd H a u:=by
 funext b;unfold upd;split <;> rfl
theorem bh{H:Hp}{a b:Addr}{o u:HO}(h:H a=some o)(h':H b=some u)(d:o≠u):a≠b:=by
 intro e;subst e;rw[h]at h';exact d (fw h')
theorem az{H:Hp}{a b:Addr}{o:HO}(h:H a=some o)(h':H b=none):a≠b:=by
 intro e;subst e;rw[h]at h';cases h'
section
variable (P:Program)(w:World)
def dy(H:Hp)(h:Heap)(a:Addr):HO->Prop
 | .lst xs=>xs.length<=sizeLine/\∃(its:List Value) (n:Nat),Vals xs its/\h.get? a=some { cls:=.type "list",data:=.seq its.toArray n }
 | .tup xs=>xs.length<=sizeLine/\∃its:List Value,Vals xs its/\IsTup h a its.toArray
 | .dK aO=>aO.length<=sizeLine/\(a==sysModules)=false/\∃vs,KV aO vs/\h.DictOf (dW P w) a vs
 | .dT aO=>aO.length<=sizeLine/\(a==sysModules)=false/\∃xs:List (List Key×Addr×Value),
   Paired (λ(p:List Key×V) (q:List Key×Addr×Value)=>p.1=q.1/\H q.2.1=some (.tup (p.1.map kV))/\RelV p.2 q.2.2) aO xs/\
   ∃o es ep,h.get? a=some o/\o.ExactDict/\o.data=.dict es ep/\es.toList=xs.map (entryOfKey (tupleKind (dW P w)))/\(xs.map (·.1)).Nodup
 | .set S n=>h.SetOf (intKind P w) a S n
 | .ins C dx fs=>H dx=some (.own a)/\fs.length<=1000/\dx≠a/\h.get? a=some (PySem.W.instObj C dx)/\
   ∃mA,h.Ns1 dx mA/\(∀f,pF (fs.lookup f) (mA f))/\PySem.Within mA (fs.map (·.1))
 | .own _=>∃o,h.get? a=some o
 | .xd fs=>∃mA,h.Ns1 a mA/\∀f,pF (fs.lookup f) (mA f)
 | .rng lo hi=>∃t u v,h.get? a=some { cls:=.type "range",data:=.fields #[.int lo t,.int hi u,.int 1 v] }
 | .zF o u=>h.get? a=some o/\dy H h a u
 | .qF ps=>h.get? a=some { cls:=.none,data:=.fields ps }
 | .met f x=>h.get? a=some (PySem.W.methodObj (.ref f) (.ref x))
 | .ext φ=>φ h/\(∃o,h.get? a=some o)/\∀h1 h2:Heap,φ h1->(∀o,h1.get? a=some o->h2.get? a=some o)->φ h2
def iQ(H:Hp)(h:Heap):Prop:=∀a o,H a=some o->dy P w H h a o
end
section
variable {P:Program}{w:World}{H H':Hp}{h h':Heap}{a:Addr}{o:HO}
theorem dy.lt(x:dy P w H h a o):a<h.objs.size:=by
 cases o with
 | lst xs=>obtain⟨_,_,_,_,e⟩:=x;exact bG e
 | tup xs=>obtain⟨_,_,_,p⟩:=x;exact p.lt
 | dK aO=>obtain⟨_,_,_,_,o,_,_,e,_⟩:=x;exact bG e
 | dT aO=>obtain⟨_,_,_,_,o,_,_,e,_⟩:=x;exact bG e
 | set S n=>obtain⟨o,_,_,_,e,_⟩:=x;exact bG e
 | ins C dx fs=>obtain⟨_,_,_,e,_⟩:=x;exact bG e
 | own y=>obtain⟨_,e⟩:=x;exact bG e
 | xd fs=>obtain⟨_,⟨_,_,_,e,_⟩,_⟩:=x;exact bG e
 | rng lo hi=>obtain⟨_,_,_,e⟩:=x;exact bG e
 | zF ob u=>obtain⟨e,_⟩:=x;exact bG e
 | qF ps=>exact bG (show h.get? a=some _ from x)
 | met f y=>exact bG (show h.get? a=some _ from x)
 | ext φ=>obtain⟨_,⟨_,e⟩,_⟩:=x;exact bG e
theorem Paired.Z4{α β:Type}{F G:α->β->Prop}:∀{l₁:List α} {l₂:List β},Paired F l₁ l₂->(∀a b,F a b->G a b)->Paired G l₁ l₂
 | _,_,.nil,_=>.nil
 | _,_,.cons r t,f=>.cons (f _ _ r) (Paired.Z4 t f)
theorem dy.stay(x:dy P w H h a o)(k:∀b u,(b=a\/H b=some (.own a))->h.get? b=some u->h'.get? b=some u)
  (ho:∀b,H b=some (.own a)->H' b=some (.own a)) (ht:∀b xs,H b=some (.tup xs)->H' b=some (.tup xs)):dy P w H' h' a o:=by
 induction o with
 | lst xs=>obtain⟨z,its,n,r,e⟩:=x;exact⟨z,its,n,r,k _ _ (.inl rfl) e⟩
 | tup xs=>obtain⟨z,its,r,ob,e,c⟩:=x;exact⟨z,its,r,ob,k _ _ (.inl rfl) e,c⟩
 | dK aO=>obtain⟨z,y,vs,r,ob,es,ep,e,c⟩:=x;exact⟨z,y,vs,r,ob,es,ep,k _ _ (.inl rfl) e,c⟩
 | dT aO=>
  obtain⟨z,y,xs,r,ob,es,ep,e,c⟩:=x
  exact⟨z,y,xs,Paired.Z4 r λp q z=>⟨z.1,ht _ _ z.2.1,z.2.2⟩,ob,es,ep,k _ _ (.inl rfl) e,c⟩
 | set S n=>obtain⟨ob,es,ep,t,e,c⟩:=x;exact⟨ob,es,ep,t,k _ _ (.inl rfl) e,c⟩
 | ins C dx fs=>
  obtain⟨d,z,ne,e,mA,⟨od,es,ep,e2,c⟩,r⟩:=x
  exact⟨ho _ d,z,ne,k _ _ (.inl rfl) e,mA,⟨od,es,ep,k _ _ (.inr d) e2,c⟩,r⟩
 | own y=>obtain⟨ob,e⟩:=x;exact⟨ob,k _ _ (.inl rfl) e⟩
 | xd fs=>obtain⟨mA,⟨od,es,ep,e,c⟩,r⟩:=x;exact⟨mA,⟨od,es,ep,k _ _ (.inl rfl) e,c⟩,r⟩
 | rng lo hi=>obtain⟨t,u,v,e⟩:=x;exact⟨t,u,v,k _ _ (.inl rfl) e⟩
 | zF ob u ih=>obtain⟨e,q⟩:=x;exact⟨k _ _ (.inl rfl) e,ih q⟩
 | qF ps=>
  have e:h.get? a=some { cls:=.none,data:=.fields ps }:=x
  show h'.get? a=some { cls:=.none,data:=.fields ps }
  exact k a _ (.inl rfl) e
 | met f y=>
  have e:h.get? a=some (PySem.W.methodObj (.ref f) (.ref y)):=x
  show h'.get? a=some (PySem.W.methodObj (.ref f) (.ref y))
  exact k a _ (.inl rfl) e
 | ext φ=>obtain⟨p,⟨o,e⟩,st⟩:=x;exact⟨st _ _ p λo q=>k _ _ (.inl rfl) q,⟨o,k _ _ (.inl rfl) e⟩,st⟩
theorem iQ.lt(x:iQ P w H h)(e:H a=some o):a<h.objs.size:=(x a o e).lt
theorem iQ.fresh(x:iQ P w H h)(e:h.objs.size<=a):H a=none:=by
 cases q:H a with
 | none=>rfl
 | some u=>exact absurd (bW (x.lt q) e) (g7 _)
theorem iQ.kept(x:iQ P w H h)(k:∀b u,h.get? b=some u->h'.get? b=some u):iQ P w H h':=λa o e=>
 (x a o e).stay (λb u _ q=>k b u q) (λ_ q=>q) λ_ _ q=>q
theorem iQ.laid(x:iQ P w H h)(k:∀b u,h.get? b=some u->h'.get? b=some u)(hp:h.objs.size<=a)(new:dy P w (upd H a o) h' a o):iQ P w (upd H a o) h':=λb u e=>by
 have hn:=x.fresh hp
 by_cases hb:b=a
 ·subst hb;rw[ai]at e;cases e;exact new
 ·rw[au hb]at e
  exact(x b u e).stay (λc v _ q=>k c v q) (λc q=>by rw[au (az q hn)];exact q) λc xs q=>by rw[au (az q hn)];exact q
end
def Rd(H:Hp)(a:Addr)(u:HO):Prop:=H a=some u\/∃o,H a=some (.zF o u)
theorem Rd.ok{P:Program}{w:World}{H:Hp}{h:Heap}{a:Addr}{u:HO}(r:Rd H a u)(x:iQ P w H h):dy P w H h a u:=by
 rcases r with r | ⟨o,r⟩
 ·exact x a u r
 ·obtain⟨_,q⟩:=x a _ r
  exact q
def Mut:Option HO->Prop
 | some (.lst _)=>True
 | some (.dK _)=>True
 | some (.dT _)=>True
 | some (.set _ _)=>True
 | some (.ins _ _ _)=>True
 | some (.ext _)=>True
 | _=>False
section
variable {P:Program}{w:World}{H:Hp}{h h':Heap}{x e:Addr}{o':HO}
theorem iQ.write(ok:iQ P w H h)(mu:Mut (H x))(he:e=x\/H e=some (.own x))(k:∀b u,b≠e->h.get? b=some u->h'.get? b=some u)(heo:∃u,h'.get? e=some u)
  (new:dy P w (upd H x o') h' x o'):iQ P w (upd H x o') h':=λb u q=>by
 have MN:∀c y,H c=some (.own y)->c≠x:=λc y r z=>by subst z;rw[r]at mu;exact mu
 have yh:∀c xs,H c=some (.tup xs)->c≠x:=λc xs r z=>by subst z;rw[r]at mu;exact mu
 by_cases hb:b=x
 ·subst hb;rw[ai]at q;cases q;exact new
 ·rw[au hb]at q
  by_cases hbe:b=e
  ·have q':H b=some (.own x):=by
    rcases he with z | z
    ·exact absurd (hbe.trans z) hb
    ·rw[hbe];exact z
   rw[q]at q';cases q'
   obtain⟨v,hv⟩:=heo
   exact⟨v,by rw[hbe];exact hv⟩
  ·refine(ok b u q).stay (λc v hc r=>k c v ?_ r) (λc r=>by rw[au (MN c b r)];exact r) λc xs r=>by rw[au (yh c xs r)];exact r
   rcases hc with rfl | hc
   ·exact hbe
   ·rintro rfl
    rcases he with z | z
    ·exact MN c b hc z
    ·rw[hc]at z;cases z;exact hb rfl
end
structure Un(fs ex:List Addr)(H H':Hp)(h h':Heap):Prop where
 keep:∀b o,h.get? b=some o->H b=none->b∉fs->b∉ex->h'.get? b=some o
 slot:∀b o,h.get? b=some o->H b=none->b∈fs->b∉ex->∃sl,h'.get? b=some { o with slots:=sl }
 free:∀b o,h.get? b=some o->H b=none->b∉ex->H' b=none
 there:∀b o,h.get? b=some o->b∉ex->∃o',h'.get? b=some o'
 tups:∀b xs,H b=some (.tup xs)->H' b=some (.tup xs)
 frzs:∀b o u,H b=some (.zF o u)->H' b=some (.zF o u)
 tbls:∀b ps,H b=some (.qF ps)->∃more,H' b=some (.qF (ps++more))
section
variable {fs fs' ex ex':List Addr}{H H1 H2:Hp}{h h1 h2 h':Heap}{a x e:Addr}{o:HO}
theorem Un.any(u:Un fs ex H H1 h h1){b:Addr}{ob:Obj}(q:h.get? b=some ob)(n:H b=none)(hx:b∉ex):∃sl,h1.get? b=some { ob with slots:=sl }:=by
 by_cases hb:b∈fs
 ·exact u.slot b ob q n hb hx
 ·exact⟨ob.slots,u.keep b ob q n hb hx⟩
theorem Un.trans(a:Un fs ex H H1 h h1)(b:Un fs ex H1 H2 h1 h2):Un fs ex H H2 h h2 where
 keep:=λc ob q n hc hx=>b.keep c ob (a.keep c ob q n hc hx) (a.free c ob q n hx) hc hx
 slot:=λc ob q n hc hx=>by
  obtain⟨sl,e1⟩:=a.slot c ob q n hc hx
  obtain⟨sl',e2⟩:=b.slot c _ e1 (a.free c ob q n hx) hc hx
  exact⟨sl',e2⟩
 free:=λc ob q n hx=>by
  obtain⟨o',e1⟩:=a.there c ob q hx
  exact b.free c o' e1 (a.free c ob q n hx) hx
 there:=λc ob q hx=>by
  obtain⟨o',e1⟩:=a.there c ob q hx
  exact b.there c o' e1 hx
 tups:=λc xs q=>b.tups c xs (a.tups c xs q)
 frzs:=λc ob xs q=>b.frzs c ob xs (a.frzs c ob xs q)
 tbls:=λc ps q=>by
  obtain⟨m1,e1⟩:=a.tbls c ps q
  obtain⟨m2,e2⟩:=b.tbls c _ e1
  exact⟨m1++m2,by rw[e2,Array.append_assoc]⟩
theorem Un.kept(k:∀b u,h.get? b=some u->h'.get? b=some u):Un fs ex H H h h':=
 ⟨λb ob q _ _ _=>k b ob q,λb ob q _ _ _=>⟨ob.slots,k b ob q⟩,λ_ _ _ n _=>n,λb ob q _=>⟨ob,k b ob q⟩,λ_ _ q=>q,λ_ _ _ q=>q,λ_ ps q=>⟨#[],by rw[q];simp⟩⟩
theorem Un.refl:Un fs ex H H h h:=Un.kept λ_ _ q=>q
theorem Un.laid(k:∀b u,h.get? b=some u->h'.get? b=some u)(hp:h.objs.size<=a)(hn:H a=none):Un fs ex H (upd H a o) h h' where
 keep:=λb u q _ _ _=>k b u q
 slot:=λb u q _ _ _=>⟨u.slots,k b u q⟩
 free:=λb u q n _=>by rw[au (bf (bW (bG q) hp))];exact n
 there:=λb u q _=>⟨u,k b u q⟩
 tups:=λb xs q=>by rw[au (az q hn)];exact q
 frzs:=λb u xs q=>by rw[au (az q hn)];exact q
 tbls:=λb ps q=>⟨#[],by rw[au (az q hn),q];simp⟩
theorem Un.write(mu:Mut (H x))(he:e=x\/H e=some (.own x))(k:∀b u,b≠e->h.get? b=some u->h'.get? b=some u)(heo:∃u,h'.get? e=some u):Un fs ex H (upd H x o) h h':=by
 have hx:∀b,H b=none->b≠x:=λb n z=>by subst z;rw[n]at mu;exact mu
 have hb:∀b,H b=none->b≠e:=λb n z=>by
  subst z
  rcases he with r | r
  ·exact hx b n r
  ·rw[n]at r;cases r
 have hm:∀b u,H b=some u->¬Mut (some u)->b≠x:=λb u q nm z=>by subst z;rw[q]at mu;exact nm mu
 refine⟨λb u q n _ _=>k b u (hb b n) q,λb u q n _ _=>⟨u.slots,k b u (hb b n) q⟩,λb u q n _=>by rw[au (hx b n)];exact n,λb u q _=>?_,
  λb xs q=>by rw[au (hm b _ q λz=>z)];exact q,λb u xs q=>by rw[au (hm b _ q λz=>z)];exact q,λb ps q=>⟨#[],by rw[au (hm b _ q λz=>z),q];simp⟩⟩
 by_cases hbe:b=e
 ·subst hbe;exact heo
 ·exact⟨u,k b u hbe q⟩
end
def trk(h:Heap)(H:Hp):List Addr:=(List.range h.objs.size).filter λa=>(H a).isSome
def yv(h:Heap)(H:Hp):Heap:=PySem.W.hideAll h (trk h H)
theorem Nr(h:Heap)(H:Hp):(yv h H).objs.size=h.objs.size:=PySem.W.hideAll_size _ _
theorem Se{h:Heap}{H:Hp}{b:Addr}{o:Obj}(e:h.get? b=some o)(n:H b=none):(yv h H).get? b=some o:=
 PySem.W.hideAll_get _ e λhm=>by
  have q:(H b).isSome=true:=(cx.mp hm).2
  rw[n]at q;simp at q
theorem V7{h:Heap}{H:Hp}{b:Addr}{o:Obj}(e:(yv h H).get? b=some o):h.get? b=some o/\H b=none:=by
 have e':h.get? b=some o:=PySem.W.of_hideAll (trk h H) e
 refine⟨e',?_⟩
 cases q:H b with
 | none=>rfl
 | some x=>
  have hm:b∈trk h H:=cx.mpr ⟨qc.mpr (bG e'),by simp[q]⟩
  have z:(yv h H).get? b=none:=PySem.W.hideAll_none (trk h H) hm
  rw[z]at e;cases e
def Xd(g h:Heap)(L:Addr):List (Addr×Obj):=(List.range h.objs.size).filterMap λa=>if a=L\/(g.get? a).isSome=true then none else (h.get? a).map λo=>(a,o)
def rest(g h:Heap)(L d:Addr):List (Addr×Obj):=(Xd g h L).filter λp=>decide (p.1≠d)
end L2
namespace L2
open PySem PySem.Spec PyProof.Rows
structure Mod(K:PySem.W.Frag)(mg:Str->Option Value)(base:Heap):Prop where
 kin:K.In base
 glob:base.Ns mainGlobals mg
 blt:∃mb,base.Ns builtinsNs mb/\∀x:Str,x≠"__name__"->mb x=bootBuiltins x
 nolimit:base.NoLimit
structure Cx where
 prog:Program
 w:World
 K:PySem.W.Frag
 mg:Str->Option Value
 base:Heap
 A:Around
 N:List Str
 s₀:Shared
 H₀:Hp
 env:Env
 outer:List Env
 stack:List Env
 ex:List Addr
 fn:Str->Bool
 calm:Bool
 pn:List (Addr×Obj)
 xe:Value->Shared->Prop
def pU(l:List Env):List Addr:=l.filterMap (·.frame)
abbrev Cx.fs(X:Cx):List Addr:=pU X.outer
def Vis(sc:Scope)(x:Str):Prop:=sc.names.lookup x=some .local\/sc.names.lookup x=some .cell\/sc.names.lookup x=some .free
def Loc(sc:Scope)(x:Str):Prop:=sc.names.lookup x=some .local\/sc.names.lookup x=some .cell
def Look(env:Env)(h:Heap)(m:Str->Option Value)(x:Str)(u:Value):Prop:=
 (env.kindOf x=some .local/\m x=some u)\/((env.kindOf x=some .cell\/env.kindOf x=some .free)/\∃c,env.cells.lookup x=some c/\h.IsCell c (some u))
structure Cx.Ok(X:Cx):Prop where
 mod:Mod X.K X.mg X.base
 kind:X.env.scope.kind=.function
 glob:X.env.globals=mainGlobals
 blt:X.env.builtins=builtinsNs
 above:X.s₀.heap.objs.size<=X.env.locals
 inj:∀x y c,X.env.cells.lookup x=some c->X.env.cells.lookup y=some c->x=y
 has:∀x,(X.env.kindOf x=some .cell\/X.env.kindOf x=some .free)->∃c,X.env.cells.lookup x=some c
 cab:∀x c,X.fn x=true->X.env.cells.lookup x=some c->X.s₀.heap.objs.size<=c
 hd:X.calm=true->X.A.handled=none
 frames:X.A.frames=some X.stack
 stk:X.stack=X.outer\/(X.stack=X.env::X.outer/\X.env.frame=some X.env.locals)
 exf:∀b∈X.ex,b≠X.env.locals/\∀x c,X.env.cells.lookup x=some c->c≠b
 bs:∀b o,X.base.get? b=some o->X.s₀.heap.get? b=some o/\X.H₀ b=none
 Jr:X.base.objs.size<=X.s₀.heap.objs.size
 MP:∀b o,X.base.get? b=some o->b∉X.ex
 WT:∀b∈X.ex,b∉X.fs
 pD:X.s₀.heap.FunFrames X.base X.outer
 Ot:∀b∈X.fs,X.H₀ b=none
structure Inv(X:Cx)(pins:List (Addr×Obj))(σ:List (Option V))(H:Hp)(s:Shared):Prop where
 ok:X.Ok
 os:s.os=X.s₀.os
 bare:AllBare s.gens
 base:Un X.fs X.ex X.H₀ H X.s₀.heap s.heap
 loc:∃m,s.heap.Ns X.env.locals m/\∀(i:Nat) (x:Str) (v:V),X.N[i]?=some x->σ[i]?=some (some v)->Vis X.env.scope x->∃u,RelV v u/\Look X.env s.heap m x u
 cell:∀x c,X.env.cells.lookup x=some c->∃v,s.heap.IsCell c v
 free:H X.env.locals=none
 kj:∀x c,X.env.cells.lookup x=some c->H c=none
 pin:∀p∈X.pn++pins,s.heap.get? p.1=some p.2/\H p.1=none/\p.1≠X.env.locals/\p.1∉X.fs/\∀v,p.2.data≠.cell v
 bz:iQ X.prog X.w H s.heap
 len:σ.length=X.N.length
section
variable {X:Cx}{pins:List (Addr×Obj)}{σ:List (Option V)}{H H':Hp}{s:Shared}{h':Heap}
theorem Cx.Ok.aDZ(ok:X.Ok){b:Addr}{o:Obj}(e:X.base.get? b=some o):b∉X.fs:=λhb=>by
 have:=(ok.pD.mem hb).1
 rw[e]at this;cases this
theorem Inv.bs(I:Inv X pins σ H s):∀b o,X.base.get? b=some o->s.heap.get? b=some o/\H b=none:=λb o e=>
 ⟨I.base.keep b o (I.ok.bs b o e).1 (I.ok.bs b o e).2 (I.ok.aDZ e) (I.ok.MP b o e),I.base.free b o (I.ok.bs b o e).1 (I.ok.bs b o e).2 (I.ok.MP b o e)⟩
theorem Inv.bk(I:Inv X pins σ H s):∀b o,X.base.get? b=some o->s.heap.get? b=some o:=λb o e=>(I.bs b o e).1
theorem Inv.mod(I:Inv X pins σ H s):Mod X.K X.mg X.base:=I.ok.mod
theorem Inv.nH(I:Inv X pins σ H s):X.K.In s.heap:=I.ok.mod.kin.keeps I.bk
theorem Inv.lt(I:Inv X pins σ H s):X.env.locals<s.heap.objs.size:=let ⟨_,hn,_⟩:=I.loc;hn.lt
theorem Inv.sz(I:Inv X pins σ H s):X.s₀.heap.objs.size<=s.heap.objs.size:=cQ I.ok.above (kG I.lt)
theorem Inv.aBs(I:Inv X pins σ H s){a:Addr}(h:s.heap.objs.size<=a):a∉X.fs:=λhb=>by
 obtain⟨_,o,ho,_⟩:=I.ok.pD.mem hb
 exact absurd (bW (bG ho) (cQ I.sz h)) (g7 _)
theorem Inv.Ym(I:Inv X pins σ H s):∀x c,X.env.cells.lookup x=some c->c≠X.env.locals:=λx c e z=>by
 obtain⟨v,o,ho,hd⟩:=I.cell x c e
 obtain⟨m,⟨o',es,ep,R9,hd',_⟩,_⟩:=I.loc
 rw[z,R9]at ho;cases ho;rw[hd']at hd;cases hd
theorem Inv.pD(I:Inv X pins σ H s):s.heap.FunFrames X.base X.outer:=by
 have all:∀(l:List Env),(∀b∈pU l,b∈X.fs)->X.s₀.heap.FunFrames X.base l->s.heap.FunFrames X.base l:=by
  intro l
  induction l with
  | nil=>intro _ _;trivial
  | cons env r ih=>
   intro hs hl
   obtain⟨hk,⟨L,o,hf,hn,ho,hd⟩,hr⟩:=hl
   have hL:L∈X.fs:=hs L (by unfold pU;rw[Ag,hf];exact df)
   obtain⟨sl,e⟩:=I.base.slot L o ho (I.ok.Ot L hL) hL λz=>I.ok.WT L z hL
   exact⟨hk,⟨L,_,hf,hn,e,hd⟩,ih (λb hb=>hs b (by unfold pU;rw[Ag,hf];exact cV _ hb)) hr⟩
 exact all X.outer (λ_ hb=>hb) I.ok.pD
theorem Inv.stack(I:Inv X pins σ H s):s.heap.FunFrames X.base X.stack:=by
 rcases I.ok.stk with e | ⟨e,hf⟩
 ·rw[e];exact I.pD
 ·rw[e]
  obtain⟨m,hn,_⟩:=I.loc
  refine .cons (by rw[I.ok.kind];decide) hf hn ?_ I.pD
  exact qi (cQ I.ok.Jr I.ok.above)
theorem Inv.n6(I:Inv X pins σ H s):∀b∈pU X.stack,b∈X.env.locals::X.fs:=λb hb=>by
 rcases I.ok.stk with e | ⟨e,hf⟩
 ·rw[e]at hb;exact cV _ hb
 ·rw[e]at hb
  unfold pU at hb
  rw[Ag,hf]at hb
  exact hb
theorem Inv.vP(I:Inv X pins σ H s):∀b∈pU X.stack,H b=none:=λb hb=>by
 rcases bJ.mp (I.n6 b hb) with e | hb
 ·rw[e];exact I.free
 ·obtain⟨_,o,ho,_⟩:=I.ok.pD.mem hb
  exact I.base.free b o ho (I.ok.Ot b hb) λz=>I.ok.WT b z hb
theorem Inv.step{g':Array GenState}{t':Nat}{d':Drawn}{ch:List Addr}(I:Inv X pins σ H s)
  (Ga:∀b∈ch,(b∈X.ex\/X.s₀.heap.objs.size<=b)/\b≠X.env.locals/\(∀x c,X.env.cells.lookup x=some c->c≠b)/\∀p∈X.pn++pins,p.1≠b)
  (keep:∀b o,b≠X.env.locals->b∉X.fs->b∉ch->s.heap.get? b=some o->H b=none->h'.get? b=some o)
  (slot:∀b o,b≠X.env.locals->b∈X.fs->b∉ch->s.heap.get? b=some o->H b=none->∃sl,h'.get? b=some { o with slots:=sl }) (free:∀b o,b∉ch->s.heap.get? b=some o->H b=none->H' b=none)
  (there:∀b o,b∉ch->s.heap.get? b=some o->∃o',h'.get? b=some o')
  (tups:∀b xs,H b=some (.tup xs)->H' b=some (.tup xs)) (frzs:∀b o u,H b=some (.zF o u)->H' b=some (.zF o u)) (tbls:∀b ps,H b=some (.qF ps)->∃more,H' b=some (.qF (ps++more)))
  (ns:∀m,s.heap.Ns X.env.locals m->h'.Ns X.env.locals m) (bz:iQ X.prog X.w H' h') (hg:AllBare g') :
  Inv X pins σ H' { s with heap:=h',gens:=g',drawn:=d',toks:=t' }:=by
 have neL:∀b o,X.s₀.heap.get? b=some o->b≠X.env.locals:=λb o e=>bf (bW (bG e) I.ok.above)
 have neC:∀b o,X.s₀.heap.get? b=some o->b∉X.ex->b∉ch:=λb o e hx hb=>by
  rcases(Ga b hb).1 with z | z
  ·exact hx z
  ·exact absurd (bW (bG e) z) (g7 _)
 have cellK:∀x c,X.env.cells.lookup x=some c->∀v,s.heap.IsCell c v->h'.IsCell c v:=λx c e v ⟨o,ho,hd⟩=>by
  have nch:c∉ch:=λz=>(Ga c z).2.2.1 x c e rfl
  by_cases hc:c∈X.fs
  ·obtain⟨sl,q⟩:=slot c o (I.Ym x c e) hc nch ho (I.kj x c e)
   exact⟨_,q,hd⟩
  ·exact⟨o,keep c o (I.Ym x c e) hc nch ho (I.kj x c e),hd⟩
 refine⟨I.ok,I.os,hg,⟨λb o e n hb hx=>?_,λb o e n hb hx=>?_,λb o e n hx=>?_,λb o e hx=>?_,λb xs e=>tups b xs (I.base.tups b xs e),λb o xs e=>frzs b o xs (I.base.frzs b o xs e),λb ps e=>?_⟩,?_,λx c e=>?_,?_,λx c e=>?_,λp hp=>?_,bz,I.len⟩
 ·exact keep b o (neL b o e) hb (neC b o e hx) (I.base.keep b o e n hb hx) (I.base.free b o e n hx)
 ·obtain⟨sl,e1⟩:=I.base.slot b o e n hb hx
  obtain⟨sl',e2⟩:=slot b _ (neL b o e) hb (neC b o e hx) e1 (I.base.free b o e n hx)
  exact⟨sl',e2⟩
 ·obtain⟨o',e1⟩:=I.base.there b o e hx
  exact free b o' (neC b o e hx) e1 (I.base.free b o e n hx)
 ·obtain⟨o',e1⟩:=I.base.there b o e hx
  exact there b o' (neC b o e hx) e1
 ·obtain⟨m1,e1⟩:=I.base.tbls b ps e
  obtain⟨m2,e2⟩:=tbls b _ e1
  exact⟨m1++m2,by rw[e2,Array.append_assoc]⟩
 ·obtain⟨m,hn,hl⟩:=I.loc
  refine⟨m,ns m hn,λi x v e1 e2 e3=>?_⟩
  obtain⟨u,r,l⟩:=hl i x v e1 e2 e3
  refine⟨u,r,?_⟩
  rcases l with l | ⟨k,c,e,z⟩
  ·exact .inl l
  ·exact .inr ⟨k,c,e,cellK x c e _ z⟩
 ·obtain⟨v,z⟩:=I.cell x c e
  exact⟨v,cellK x c e v z⟩
 ·obtain⟨m,⟨o,_,_,ho,_⟩,_⟩:=I.loc
  exact free _ o (λz=>(Ga _ z).2.1 rfl) ho I.free
 ·obtain⟨v,o,ho,hd⟩:=I.cell x c e
  exact free c o (λz=>(Ga c z).2.2.1 x c e rfl) ho (I.kj x c e)
 ·obtain⟨e,n,ne,nf,d⟩:=I.pin p hp
  have nch:p.1∉ch:=λz=>(Ga p.1 z).2.2.2 p hp rfl
  exact⟨keep p.1 p.2 ne nf nch e n,free p.1 p.2 nch e n,ne,nf,d⟩
theorem Inv.un{t':Nat}(I:Inv X pins σ H s)(u:Un X.fs [] H H' s.heap h')(bz:iQ X.prog X.w H' h'):Inv X pins σ H' { s with heap:=h',toks:=t' }:=by
 obtain⟨m,⟨o,es,ep,ho,r⟩,_⟩:=id I.loc
 obtain⟨sl,hL⟩:=u.any ho I.free (by simp)
 exact I.step (g':=s.gens) (d':=s.drawn) (ch:=[]) (λ_ z=>nomatch z) (λb o _ hb _ e n=>u.keep b o e n hb (by simp)) (λb o _ hb _ e n=>u.slot b o e n hb (by simp)) (λb o _ e n=>u.free b o e n (by simp)) (λb o _ e=>u.there b o e (by simp)) u.tups u.frzs u.tbls (λm' hm=>by
  obtain⟨o',es',ep',R9,r'⟩:=hm
  rw[ho]at R9;cases R9
  exact⟨_,es',ep',hL,r'⟩) bz I.bare
theorem Inv.call{g':Array GenState}{t':Nat}{d':Drawn}{ch:List Addr}(I:Inv X pins σ H s)(u:Un (pU X.stack) ch H H' s.heap h')(bz:iQ X.prog X.w H' h')(hg:AllBare g')
  (Ga:∀b∈ch,(b∈X.ex\/X.s₀.heap.objs.size<=b)/\b≠X.env.locals/\(∀x c,X.env.cells.lookup x=some c->c≠b)/\∀p∈X.pn++pins,p.1≠b) :
  Inv X pins σ H' { s with heap:=h',gens:=g',drawn:=d',toks:=t' }:=by
 obtain⟨m,⟨o,es,ep,ho,r⟩,_⟩:=id I.loc
 obtain⟨sl,hL⟩:=u.any ho I.free λz=>(Ga _ z).2.1 rfl
 exact I.step (ch:=ch) Ga (λb o hL hb hc e n=>u.keep b o e n (λz=>(bJ.mp (I.n6 b z)).elim hL hb) hc) (λb o _ _ hc e n=>u.any e n hc) (λb o hc e n=>u.free b o e n hc) (λb o hc e=>u.there b o e hc) u.tups u.frzs u.tbls (λm' hm=>by
  obtain⟨o',es',ep',R9,r'⟩:=hm
  rw[ho]at R9;cases R9
  exact⟨_,es',ep',hL,r'⟩) bz hg
theorem Inv.turned{t':Nat}{it:Addr}(I:Inv X pins σ H s)(k:∀b o,b≠it->s.heap.get? b=some o->h'.get? b=some o)(hn:H it=none)(hL:it≠X.env.locals)
  (h1:it∈X.ex\/X.s₀.heap.objs.size<=it) (h2:∀x c,X.env.cells.lookup x=some c->c≠it) (h3:∀p∈X.pn++pins,p.1≠it):Inv X pins σ H { s with heap:=h',toks:=t' }:=by
 have nit:∀b u,H b=some u->b≠it:=λb u e z=>by rw[z,hn]at e;cases e
 refine I.step (g':=s.gens) (d':=s.drawn) (ch:=[it]) (λb hb=>?_) (λb o _ _ hc e _=>k b o (λz=>hc (by simp[z])) e) (λb o _ _ hc e _=>⟨o.slots,k b o (λz=>hc (by simp[z])) e⟩) (λ_ _ _ _ n=>n)
  (λb o hc e=>⟨o,k b o (λz=>hc (by simp[z])) e⟩) (λ_ _ e=>e) (λ_ _ _ e=>e) (λb ps e=>⟨#[],by rw[e];simp⟩) (λm hm=>?_) (λb u e=>?_) I.bare
 ·have e:b=it:=by simpa using hb
  subst e
  exact⟨h1,hL,h2,h3⟩
 ·obtain⟨o,es,ep,ho,r⟩:=hm
  exact⟨o,es,ep,k _ o (eK hL) ho,r⟩
 ·refine(I.bz b u e).stay (λc v hc q=>k c v ?_ q) (λ_ q=>q) λ_ _ q=>q
  rcases hc with z | z
  ·rw[z];exact nit b u e
  ·exact nit c _ z
theorem Inv.tok(I:Inv X pins σ H s)(t:Nat):Inv X pins σ H { s with toks:=t }:=I.un (h':=s.heap) (t':=t) Un.refl I.bz
theorem Inv.kept{t':Nat}(I:Inv X pins σ H s)(k:∀b u,s.heap.get? b=some u->h'.get? b=some u):Inv X pins σ H { s with heap:=h',toks:=t' }:=I.un (Un.kept k) (I.bz.kept k)
theorem Inv.laid{a:Addr}{o:HO}{t':Nat}(I:Inv X pins σ H s)(k:∀b u,s.heap.get? b=some u->h'.get? b=some u)(hp:s.heap.objs.size<=a)(new:dy X.prog X.w (upd H a o) h' a o) :
  Inv X pins σ (upd H a o) { s with heap:=h',toks:=t' }:=I.un (Un.laid k hp (I.bz.fresh hp)) (I.bz.laid k hp new)
theorem Inv.write{x e:Addr}{o:HO}{t':Nat}(I:Inv X pins σ H s)(mu:Mut (H x))(he:e=x\/H e=some (.own x))(k:∀b u,b≠e->s.heap.get? b=some u->h'.get? b=some u)(heo:∃u,h'.get? e=some u)
  (new:dy X.prog X.w (upd H x o) h' x o):Inv X pins σ (upd H x o) { s with heap:=h',toks:=t' }:=I.un (Un.write mu he k heo) (I.bz.write mu he k heo new)
theorem Inv.Kf{QM:List (Addr×Obj)}(I:Inv X pins σ H s)(h:∀p∈QM,s.heap.get? p.1=some p.2/\H p.1=none/\p.1≠X.env.locals/\p.1∉X.fs/\∀v,p.2.data≠.cell v):Inv X QM σ H s:=
 ⟨I.ok,I.os,I.bare,I.base,I.loc,I.cell,I.free,I.kj,λp hp=>(cw.mp hp).elim (λz=>I.pin p (uT _ z)) (h p),I.bz,I.len⟩
theorem xk{N:List Str}(hN:N.Nodup){i j:Nat}{x:Str}(a:N[i]?=some x)(b:N[j]?=some x):i=j:=by
 obtain⟨h1,e1⟩:=fq.mp a
 obtain⟨h2,e2⟩:=fq.mp b
 exact(tU hN).mp (e1.trans e2.symm)
theorem ud{M:Model}{A:Around}{E:Value->Shared->Prop}{i:Nat}{x:Str}{v:V}{u:Value}{Q:Unit->Shared->Prop}(I:Inv X pins σ H s)(hN:X.N.Nodup)(hi:X.N[i]?=some x)(hx:Loc X.env.scope x)(r:RelV v u)
  (h:∀s',Inv X pins (σ.set i (some v)) H s'->(∃a,Heap.SameBut a s.heap s'.heap/\(a=X.env.locals\/X.env.cells.lookup x=some a))->Q () s') (hf:X.fn x=true\/X.env.scope.names.lookup x=some .local:=by first | exact .inl rfl | exact .inr rfl | assumption):wpAny M A (storeName X.env x u) Q E s:=by
 obtain⟨m,hn,hl⟩:=id I.loc
 have aEM:(X.env.scope.kind == .class||(X.env.scope.kind == .module&&X.env.locals != X.env.globals))=false:=by rw[I.ok.kind];rfl
 have hiσ:i<σ.length:=by rw[I.len];exact(fq.mp hi).1
 have Ym:=I.Ym
 have tracked:∀{a:Addr} {h':Heap},(∃o,s.heap.get? a=some o/\H a=none)->Heap.SameBut a s.heap h'->iQ X.prog X.w H h':=λ{a h'} ha hs b ob e=>by
  obtain⟨_,_,vh⟩:=ha
  refine(I.bz b ob e).stay (λc w' hc q=>(hs.2 c ?_).trans q) (λ_ q=>q) λ_ _ q=>q
  rintro rfl
  rcases hc with rfl | hc
  ·rw[vh]at e;cases e
  ·rw[vh]at hc;cases hc
 rcases hx with hk | hk
 ·refine wpAny_storeName_local hk hn (λh' zB hs=>?_) aEM
  obtain⟨oL,_,_,Np,_⟩:=id hn
  refine h _ ⟨I.ok,I.os,I.bare,⟨λb o e n hb hx=>?_,λb o e n hb hx=>?_,I.base.free,λb o e hx=>?_,I.base.tups,I.base.frzs,I.base.tbls⟩,⟨_,zB,λj y v' e1 e2 e3=>?_⟩,λy c e=>?_,I.free,I.kj,λp hp=>?_,tracked ⟨oL,Np,I.free⟩ hs,by simpa using I.len⟩ ⟨_,hs,.inl rfl⟩
  ·exact(hs.2 b (bf (bW (bG e) I.ok.above))).trans (I.base.keep b o e n hb hx)
  ·obtain⟨sl,e1⟩:=I.base.slot b o e n hb hx
   exact⟨sl,(hs.2 b (bf (bW (bG e) I.ok.above))).trans e1⟩
  ·obtain⟨o',e1⟩:=I.base.there b o e hx
   exact⟨o',(hs.2 b (bf (bW (bG e) I.ok.above))).trans e1⟩
  ·by_cases hj:j=i
   ·subst hj
    rw[hi]at e1;cases e1
    rw[List.getElem?_set_self hiσ]at e2
    cases e2
    exact⟨u,r,.inl ⟨hk,by simp⟩⟩
   ·rw[List.getElem?_set_ne (eK hj)]at e2
    obtain⟨u',r',q⟩:=hl j y v' e1 e2 e3
    refine⟨u',r',?_⟩
    rcases q with ⟨k,e⟩ | ⟨k,c,e,z⟩
    ·refine .inl ⟨k,?_⟩
     have:y≠x:=λe=>hj (xk hN e1 (e ▸ hi))
     simp[this,e]
    ·exact .inr ⟨k,c,e,z.sameBut hs (Ym y c e)⟩
  ·obtain⟨w',z⟩:=I.cell y c e
   exact⟨w',z.sameBut hs (Ym y c e)⟩
  ·obtain⟨e,n,ne,nf,d⟩:=I.pin p hp
   exact⟨(hs.2 p.1 ne).trans e,n,ne,nf,d⟩
 ·have Si:X.fn x=true:=by
   rcases hf with z | z
   ·exact z
   ·rw[z]at hk;cases hk
  obtain⟨c,hc⟩:=I.ok.has x (.inl hk)
  obtain⟨w',z⟩:=I.cell x c hc
  refine wpAny_storeName_cell I.ok.kind hk hc z (λh' lu hs=>?_)
  obtain⟨oc,tN,aEF⟩:=id z
  refine h { s with heap:=h' } ⟨I.ok,I.os,I.bare,⟨λb o e n hb hx=>?_,λb o e n hb hx=>?_,I.base.free,λb o e hx=>?_,I.base.tups,I.base.frzs,I.base.tbls⟩,⟨m,hn.sameBut hs (eK (Ym x c hc)),λj y v' e1 e2 e3=>?_⟩,λy c' e=>?_,I.free,I.kj,λp hp=>?_,tracked ⟨oc,tN,I.kj x c hc⟩ hs,by simpa using I.len⟩ ⟨c,hs,.inr hc⟩
  ·exact(hs.2 b (bf (bW (bG e) (I.ok.cab x c Si hc)))).trans (I.base.keep b o e n hb hx)
  ·obtain⟨sl,e1⟩:=I.base.slot b o e n hb hx
   exact⟨sl,(hs.2 b (bf (bW (bG e) (I.ok.cab x c Si hc)))).trans e1⟩
  ·obtain⟨o',e1⟩:=I.base.there b o e hx
   exact⟨o',(hs.2 b (bf (bW (bG e) (I.ok.cab x c Si hc)))).trans e1⟩
  ·by_cases hj:j=i
   ·subst hj
    rw[hi]at e1;cases e1
    rw[List.getElem?_set_self hiσ]at e2
    cases e2
    exact⟨u,r,.inr ⟨.inl hk,c,hc,lu⟩⟩
   ·rw[List.getElem?_set_ne (eK hj)]at e2
    obtain⟨u',r',q⟩:=hl j y v' e1 e2 e3
    refine⟨u',r',?_⟩
    rcases q with q | ⟨k,c',e,z'⟩
    ·exact .inl q
    ·refine .inr ⟨k,c',e,z'.sameBut hs ?_⟩
     rintro rfl
     exact hj (xk hN e1 (I.ok.inj _ _ _ e hc ▸ hi))
  ·by_cases hcc:c'=c
   ·subst hcc;exact⟨_,lu⟩
   ·obtain⟨w2,z2⟩:=I.cell y c' e
    exact⟨w2,z2.sameBut hs hcc⟩
  ·obtain⟨e,n,ne,nf,d⟩:=I.pin p hp
   refine⟨(hs.2 p.1 ?_).trans e,n,ne,nf,d⟩
   intro q
   rw[q,tN]at e
   have q':oc=p.2:=fw e
   exact d w' (by rw[<-q'];exact aEF)
theorem rX{M:Model}{A:Around}{E:Value->Shared->Prop}{i:Nat}{x:Str}{v:V}{u:Value}{Q:Unit->Shared->Prop}(I:Inv X pins σ H s)(hN:X.N.Nodup)(hi:X.N[i]?=some x)(hx:Loc X.env.scope x)(r:RelV v u)
  (h:∀s',Inv X pins (σ.set i (some v)) H s'->Q () s') (hf:X.fn x=true\/X.env.scope.names.lookup x=some .local:=by first | exact .inl rfl | exact .inr rfl | assumption):wpAny M A (storeName X.env x u) Q E s:=
 ud I hN hi hx r (λs' I' _=>h s' I') hf
theorem Inv.call'{s':Shared}{ch:List Addr}(I:Inv X pins σ H s)(ho:s'.os=s.os)(u:Un (pU X.stack) ch H H' s.heap s'.heap)(bz:iQ X.prog X.w H' s'.heap)(hg:AllBare s'.gens)
  (Ga:∀b∈ch,(b∈X.ex\/X.s₀.heap.objs.size<=b)/\b≠X.env.locals/\(∀x c,X.env.cells.lookup x=some c->c≠b)/\∀p∈X.pn++pins,p.1≠b):Inv X pins σ H' s':=by
 obtain⟨h',g',d',t',o'⟩:=s'
 have e:o'=s.os:=ho
 subst e
 exact I.call (g':=g') (t':=t') (d':=d') u bz hg Ga
end
abbrev XK:=Value->Option Addr->Hp->Prop
abbrev St:=List (Option V)
abbrev VK:=V->Hp->Prop
abbrev TE:=St->Hp->VK->Prop
abbrev TT:=St->Hp->(Bool->Hp->Prop)->Prop
abbrev TA:=St->Hp->(List V->Hp->Prop)->Prop
structure Ends where
 nx:St->Hp->Prop
 rt:VK
 bk:St->Hp->Prop:=λ_ _=>False
 ct:St->Hp->Prop:=λ_ _=>False
abbrev TS:=Ends->St->Hp->Prop
def EP(X:Cx)(pins:List (Addr×Obj))(σ:St)(Q:VK)(u:Value)(s':Shared):Prop:=∃v H',Inv X pins σ H' s'/\RelV v u/\Q v H'
def TP(X:Cx)(pins:List (Addr×Obj))(σ:St)(Q:Bool->Hp->Prop)(b:Bool)(s':Shared):Prop:=∃H',Inv X pins σ H' s'/\Q b H'
def AP(X:Cx)(pins:List (Addr×Obj))(σ:St)(Q:List V->Hp->Prop)(us:List Value)(s':Shared):Prop:=∃vs H',Inv X pins σ H' s'/\Vals vs us/\Q vs H'
def SP(X:Cx)(pins:List (Addr×Obj))(D:Ends)(f:Flow)(s':Shared):Prop:=
 match f with
 | .next=>∃σ' H',Inv X pins σ' H' s'/\D.nx σ' H'
 | .brk=>∃σ' H',Inv X pins σ' H' s'/\D.bk σ' H'
 | .cont=>∃σ' H',Inv X pins σ' H' s'/\D.ct σ' H'
 | .ret u=>∃v σ' H',Inv X pins σ' H' s'/\RelV v u/\D.rt v H'
def PE(X:Cx)(e:Expr)(t:TE):Prop:=
 ∀(pins:List (Addr×Obj)) (s:Shared) (σ:St) (H:Hp) (Q:VK),Inv X pins σ H s->t σ H Q->wpAny (model X.prog X.w) X.A (eval e X.env) (EP X pins σ Q) X.xe s
def PT(X:Cx)(e:Expr)(t:TT):Prop:=
 ∀(pins:List (Addr×Obj)) (s:Shared) (σ:St) (H:Hp) (Q:Bool->Hp->Prop),Inv X pins σ H s->t σ H Q->wpAny (model X.prog X.w) X.A (isTrue e X.env (eval e X.env)) (TP X pins σ Q) X.xe s
def PW(X:Cx)(e:Expr)(t:TT):Prop:=
 ∀(whole:Sem Value) (pins:List (Addr×Obj)) (s:Shared) (σ:St) (H:Hp) (Q:Bool->Hp->Prop),Inv X pins σ H s->t σ H Q->wpAny (model X.prog X.w) X.A (isTrue e X.env whole) (TP X pins σ Q) X.xe s
theorem PW.pt{X:Cx}{e:Expr}{t:TT}(h:PW X e t):PT X e t:=h _
def PA(X:Cx)(es:List Expr)(t:TA):Prop:=
 ∀(pos:Pos) (pins:List (Addr×Obj)) (s:Shared) (σ:St) (H:Hp) (Q:List V->Hp->Prop),Inv X pins σ H s->t σ H Q->wpAny (model X.prog X.w) X.A (spliced (backTo pos (starEach es X.env))) (AP X pins σ Q) X.xe s
def PS(X:Cx)(st:Stmt)(t:TS):Prop:=
 ∀(pins:List (Addr×Obj)) (s:Shared) (σ:St) (H:Hp) (D:Ends),Inv X pins σ H s->t D σ H->wpAny (model X.prog X.w) X.A (exec st X.env) (SP X pins D) X.xe s
def CJ(X:Cx)(st:List Stmt)(t:TS):Prop:=
 ∀(pins:List (Addr×Obj)) (s:Shared) (σ:St) (H:Hp) (D:Ends),Inv X pins σ H s->t D σ H->wpAny (model X.prog X.w) X.A (execs st X.env) (SP X pins D) X.xe s
theorem cT{α:Type}{t:Sem α}{Q Q':α->Shared->Prop}{M:Model}{A:Around}{E:Value->Shared->Prop}{s:Shared}(h:wpAny M A t Q E s)(hQ:∀a s,Q a s->Q' a s):wpAny M A t Q' E s:=cL h hQ λ_ _ x=>x
end L2
namespace L2
open PySem PySem.Spec PyProof.Rows
section
variable {X:Cx}
theorem bin{a b:Expr}{ta tb:TE}(ha:PE X a ta)(hb:PE X b tb){pins:List (Addr×Obj)}{s:Shared}{σ:St}{H:Hp}{R:V->V->Hp->Prop}(I:Inv X pins σ H s)(h:ta σ H λx H1=>tb σ H1 λy H2=>R x y H2)
  {α:Type} {Q:α->Shared->Prop} {f:Value->Value->Sem α}
  (hf:∀v u s2 x y H2,Inv X pins σ H2 s2->RelV x v->RelV y u->R x y H2->wpAny (model X.prog X.w) X.A (f v u) Q X.xe s2) :
  wpAny (model X.prog X.w) X.A (eval a X.env) (λv s₁=>wpAny (model X.prog X.w) X.A (eval b X.env) (λu s₂=>wpAny (model X.prog X.w) X.A (f v u) Q X.xe s₂) X.xe s₁) X.xe s:=by
 refine cT (ha pins s σ H _ I h) λv s1 ⟨x,H1,I1,r1,q1⟩=>?_
 refine cT (hb pins s1 σ H1 _ I1 q1) λu s2 ⟨y,H2,I2,r2,q2⟩=>?_
 exact hf v u s2 x y H2 I2 r1 r2 q2
def Dk(i:Nat):TE:=λσ H Q=>∃v,σ[i]?=some (some v)/\Q v H
def tC(v:V):TE:=λ_ H Q=>Q v H
theorem QX{i:Nat}{x:Str}{pos:Pos}(hN:X.N[i]?=some x)(hv:Vis X.env.scope x)(hd:(x==("__debug__" : Str))=false:=by decide)(yw:(x==("__classdict__" : Str))=false:=by decide):PE X (.Name x pos) (Dk i):=by
 intro pins s σ H Q I h
 obtain⟨v,e,h⟩:=h
 obtain⟨m,hn,hl⟩:=I.loc
 obtain⟨u,r,l⟩:=hl i x v hN e hv
 have fin:EP X pins σ Q u s:=⟨v,H,I,r,h⟩
 rcases l with ⟨hk,hm⟩ | ⟨hk,c,hc,pR⟩
 ·exact wpAny_Name (wpAny_loadName_local I.ok.kind hk hn hm fin) hd
 ·rcases hk with hk | hk
  ·exact wpAny_Name (wpAny_loadName_cell I.ok.kind hk hc pR fin) hd
  ·exact wpAny_Name (wpAny_loadName_free I.ok.kind hk hc pR fin yw) hd
theorem Zy{i j pos}:PE X (.Constant (.int i) j pos) (tC (.int i)):=λ_ _ _ H _ I h=>wpAny_Constant_int ⟨.int i,H,I.tok _,⟨_,rfl⟩,h⟩
theorem aBk{b j pos}:PE X (.Constant (.bool b) j pos) (tC (.bl b)):=λ_ _ _ H _ I h=>Constant_bool ⟨.bl b,H,I,rfl,h⟩
theorem Zu{x j pos}:PE X (.Constant (.str x) j pos) (tC (.str x)):=λ_ _ _ H _ I h=>Calls.Constant_str ⟨.str x,H,I.tok _,⟨_,rfl⟩,h⟩
def Gl(X:Cx)(x:Str):Prop:=X.env.kindOf x=some .globalImplicit
theorem pd{E:Value->Shared->Prop}{pins:List (Addr×Obj)}{s:Shared}{σ:St}{H:Hp}{x:Str}{u:Value}{pos:Pos}{Q:Value->Shared->Prop}(I:Inv X pins σ H s)(hg:Gl X x)(hm:X.mg x=some u)(h:Q u s)
  (hd:(x==("__debug__" : Str))=false:=by decide):wpAny (model X.prog X.w) X.A (eval (.Name x pos) X.env) Q E s:=
 Calls.Name_function_global I.ok.kind hg (Calls.loadGlobal_global (by rw[I.ok.glob];exact I.mod.glob.keeps I.bk) hm h) hd
theorem uv{E:Value->Shared->Prop}{pins:List (Addr×Obj)}{s:Shared}{σ:St}{H:Hp}{x:Str}{u:Value}{pos:Pos}{Q:Value->Shared->Prop}(I:Inv X pins σ H s)(hg:Gl X x)(hm:X.mg x=none)(hv:bootBuiltins x=some u)(h:Q u s)
  (hn:x≠"__name__":=by decide) (hd:(x==("__debug__" : Str))=false:=by decide):wpAny (model X.prog X.w) X.A (eval (.Name x pos) X.env) Q E s:=by
 obtain⟨mb,h1,h2⟩:=I.mod.blt
 exact Calls.Name_function_global I.ok.kind hg (Calls.loadGlobal_builtin (by rw[I.ok.glob];exact I.mod.glob.keeps I.bk) hm (by rw[I.ok.blt];exact h1.keeps I.bk) ((h2 x hn).trans hv) h) hd
theorem Br{x:Str}{v:V}{u:Value}{pos:Pos}(hg:Gl X x)(hm:X.mg x=none)(hv:bootBuiltins x=some u)(r:RelV v u)(hn:x≠"__name__":=by decide)(hd:(x==("__debug__" : Str))=false:=by decide):PE X (.Name x pos) (tC v):=
 λ_ _ _ H _ I h=>uv I hg hm hv ⟨v,H,I,r,h⟩ hn hd
variable {a b:Expr}{ta tb:TE}{pos:Pos}
def PC(X:Cx)(op:CmpOp)(a b:Expr)(t:TE):Prop:=
 ∀(pins:List (Addr×Obj)) (s:Shared) (σ:St) (H:Hp) (Q:VK),Inv X pins σ H s->t σ H Q->
  wpAny (model X.prog X.w) X.A (eval a X.env) (λv s₁=>wpAny (model X.prog X.w) X.A (eval b X.env) (λu s₂=>wpAny (model X.prog X.w) X.A (compareOp op v u) (EP X pins σ Q) X.xe s₂) X.xe s₁) X.xe s
theorem Ru(b:Expr){op:CmpOp}(h:op≠.In)(h2:op≠.NotIn):behindInMarks op b=false:=by
 have e1:(op==CmpOp.In)=false:=by cases op <;> first | rfl | exact absurd rfl h
 have e2:(op==CmpOp.NotIn)=false:=by cases op <;> first | rfl | exact absurd rfl h2
 cases b <;> simp[behindInMarks,e1,e2]
def tB(t:TE):TT:=λσ H Q=>t σ H λx H1=>∃c,x=.bl c/\Q c H1
theorem QG{op:CmpOp}{t:TE}(h:PC X op a b t)(h1:behindInMarks op b=false:=by first | exact Ru _ (by decide) (by decide) | rfl):PT X (.Compare a [op] [b] pos) (tB t):=by
 intro pins s σ H Q I hw
 refine wpAny_isTrue_Compare1 (cT (h pins s σ H _ I hw) λv s1 h1=>cT h1 λu s2 h2=>cT h2 λc s3 ⟨x,H1,I1,r1,q1⟩=>?_) h1
 obtain⟨d,rfl,q⟩:=q1
 cases r1
 exact wA ⟨H1,I1,q⟩
theorem QF{e:Expr}{t:TE}(h:PE X e t)(he:∀whole,isTrue e X.env whole=(do let v <-whole;standAt e.pos;holding [v] (truthy v)):=by intro _;rfl):PT X e (tB t):=by
 intro pins s σ H Q I hw
 refine isTrue_plain (cT (h pins s σ H _ I hw) λv s1 ⟨x,H1,I1,r1,q1⟩=>?_) (he _)
 obtain⟨d,rfl,q⟩:=q1
 cases r1
 exact wA ⟨H1,I1,q⟩
variable {tA T3:TT}{rest:List Expr}
def Px(t u:TT):TT:=λσ H Q=>t σ H λc H1=>if c=true then u σ H1 Q else Q false H1
def tOr(t u:TT):TT:=λσ H Q=>t σ H λc H1=>if c=true then Q true H1 else u σ H1 Q
def Pr(t:TT):TT:=λσ H Q=>t σ H λc H1=>Q (!c) H1
theorem Vo(ha:PT X a tA):PW X (.BoolOp .And [a] pos) tA:=by
 intro wh pins s σ H Q I h
 refine isTrue_and (cT (ha pins s σ H Q I h) λc s1 e=>?_)
 cases c with
 | true=>exact isTrue_and_nil e
 | false=>exact e
theorem Zc(ha:PT X a tA):PW X (.BoolOp .Or [a] pos) tA:=by
 intro wh pins s σ H Q I h
 refine isTrue_or (cT (ha pins s σ H Q I h) λc s1 e=>?_)
 cases c with
 | false=>exact isTrue_or_nil e
 | true=>exact e
theorem Zd(ha:PT X a tA)(hb:PW X (.BoolOp .And (b::rest) pos) T3):PW X (.BoolOp .And (a::b::rest) pos) (Px tA T3):=by
 intro wh pins s σ H Q I h
 refine isTrue_and (cT (ha pins s σ H _ I h) λc s1 ⟨H1,I1,q1⟩=>?_)
 cases c with
 | true=>exact hb wh pins s1 σ H1 Q I1 q1
 | false=>exact⟨H1,I1,q1⟩
theorem aBd(ha:PT X a tA)(hb:PW X (.BoolOp .Or (b::rest) pos) T3):PW X (.BoolOp .Or (a::b::rest) pos) (tOr tA T3):=by
 intro wh pins s σ H Q I h
 refine isTrue_or (cT (ha pins s σ H _ I h) λc s1 ⟨H1,I1,q1⟩=>?_)
 cases c with
 | true=>exact⟨H1,I1,q1⟩
 | false=>exact hb wh pins s1 σ H1 Q I1 q1
theorem Zf(ha:PT X a tA):PT X (.UnaryOp .Not a pos) (Pr tA):=by
 intro pins s σ H Q I h
 exact isTrue_not (ha pins s σ H (λc H1=>Q (!c) H1) I h)
def Du(ta tb:TE):TE:=λσ H Q=>ta σ H λx H1=>∃c,x=.bl c/\if c=true then tb σ H1 Q else Q (.bl false) H1
def YB(ta tb:TE):TE:=λσ H Q=>ta σ H λx H1=>∃c,x=.bl c/\if c=true then Q (.bl true) H1 else tb σ H1 Q
def Dn(ta:TE):TE:=λσ H Q=>ta σ H λx H1=>∃c,x=.bl c/\Q (.bl (!c)) H1
theorem Zv{op}{t:TE}(h:PE X a t):PE X (.BoolOp op [a] pos) t:=λpins s σ H Q I hw=>BoolOp_one (h pins s σ H Q I hw)
theorem ZD(ha:PE X a ta)(hb:PE X (.BoolOp .And (b::rest) pos) tb):PE X (.BoolOp .And (a::b::rest) pos) (Du ta tb):=by
 intro pins s σ H Q I h
 refine BoolOp_and (cT (ha pins s σ H _ I h) λv s1 ⟨x,H1,I1,r1,q1⟩=>?_)
 obtain⟨c,rfl,q1⟩:=q1
 cases r1
 refine wA ?_
 cases c with
 | true=>exact hb pins s1 σ H1 Q I1 q1
 | false=>exact⟨.bl false,H1,I1,rfl,q1⟩
theorem Zw(ha:PE X a ta):PE X (.UnaryOp .Not a pos) (Dn ta):=by
 intro pins s σ H Q I h
 refine UnaryOp_ (cT (ha pins s σ H _ I h) λv s1 ⟨x,H1,I1,r1,q1⟩=>?_)
 obtain⟨c,rfl,q1⟩:=q1
 cases r1
 exact not_of (wA ⟨.bl (!c),H1,I1,rfl,q1⟩)
def tIf(t:TT)(ta tb:TE):TE:=λσ H Q=>t σ H λc H1=>if c=true then ta σ H1 Q else tb σ H1 Q
end
end L2
namespace L2
open PySem PySem.Spec PyProof.Rows
def rE(K:PySem.W.Frag)(H:Hp)(a:Addr)(xs:List V):Prop:=
 Rd H a (.lst xs)\/
  ∃(o:Obj) (its:Array Value) (n:Nat),K.lookup a=some o/\o.cls=.type "list"/\o.dict=none/\o.data=.seq its n/\its.size<=sizeLine/\Vals xs its.toList
def yF(K:PySem.W.Frag)(H:Hp)(a:Addr)(xs:List V):Prop:=
 Rd H a (.tup xs)\/
  ∃(o:Obj) (its:Array Value) (n:Nat),K.lookup a=some o/\o.cls=.type "tuple"/\o.data=.seq its n/\its.size<=sizeLine/\Vals xs its.toList
def aFV:Value->Option V
 | .none=>some .non
 | .bool b=>some (.bl b)
 | .int i _=>some (.int i)
 | .str x _=>some (.str x)
 | .bytes b _=>some (.Ov b)
 | .float b _=>some (.flt b)
 | .ref a=>some (.ref a)
 | .type n=>some (.ty n)
 | _=>none
theorem RelV.abs{x:V}{u:Value}(r:RelV x u):aFV u=some x:=by
 cases x with
 | non=>cases r;rfl
 | bl _=>cases r;rfl
 | int _=>obtain⟨t,rfl⟩:=r;rfl
 | str _=>obtain⟨t,rfl⟩:=r;rfl
 | Ov _=>obtain⟨t,rfl⟩:=r;rfl
 | flt _=>obtain⟨t,rfl⟩:=r;rfl
 | ref _=>cases r;rfl
 | ty _=>cases r;rfl
theorem RelV.inj{x y:V}{u:Value}(r:RelV x u)(q:RelV y u):x=y:=fw (r.abs.symm.trans q.abs)
theorem Vals.inj:∀{xs ys:List V} {us:List Value},Vals xs us->Vals ys us->xs=ys
 | _,_,_,.nil,.nil=>rfl
 | _,_,_,.cons r t,.cons r' t'=>by rw[r.inj r',Vals.inj t t']
section
variable {X:Cx}{pins:List (Addr×Obj)}{σ:St}{H:Hp}{s:Shared}{a:Addr}{xs ys:List V}
theorem rE.of{K:PySem.W.Frag}(h:H a=some (.lst xs)):rE K H a xs:=.inl (.inl h)
theorem yF.of{K:PySem.W.Frag}(h:H a=some (.tup xs)):yF K H a xs:=.inl (.inl h)
theorem Inv.list(I:Inv X pins σ H s)(h:rE X.K H a xs):∃its:List Value,Vals xs its/\PlainL s.heap a its.toArray/\xs.length<=sizeLine:=by
 rcases h with h | ⟨o,its,n,hk,hc,hd,hs,hz,r⟩
 ·obtain⟨z,its,n,r,e⟩:=h.ok I.bz
  exact⟨its,r,⟨_,n,e,rfl,rfl,rfl⟩,z⟩
 ·refine⟨its.toList,r,⟨o,n,I.nH a o hk,hc,hd,by simpa using hs⟩,?_⟩
  have e:=r.length
  simp only[cZ]at e
  lia
theorem Inv.tuple(I:Inv X pins σ H s)(h:yF X.K H a xs):∃its:List Value,Vals xs its/\IsTup s.heap a its.toArray/\xs.length<=sizeLine:=by
 rcases h with h | ⟨o,its,n,hk,hc,hs,hz,r⟩
 ·obtain⟨z,its,r,p⟩:=h.ok I.bz
  exact⟨its,r,p,z⟩
 ·refine⟨its.toList,r,⟨o,I.nH a o hk,hc,n,by simpa using hs⟩,?_⟩
  have e:=r.length
  simp only[cZ]at e
  lia
theorem Inv.Eo(I:Inv X pins σ H s)(h:rE X.K H a xs)(h':rE X.K H a ys):xs=ys:=by
 obtain⟨its,r,⟨o,n,e,_,_,d⟩,_⟩:=I.list h
 obtain⟨its',r',⟨o',n',e',_,_,d'⟩,_⟩:=I.list h'
 rw[e]at e';cases e'
 rw[d]at d'
 injection d' with d1 _
 have:its=its':=by simpa using fD Array.toList d1
 subst this
 exact r.inj r'
theorem Inv.LR(I:Inv X pins σ H s)(h:yF X.K H a xs)(h':yF X.K H a ys):xs=ys:=by
 obtain⟨its,r,⟨o,e,_,n,d⟩,_⟩:=I.tuple h
 obtain⟨its',r',⟨o',e',_,n',d'⟩,_⟩:=I.tuple h'
 rw[e]at e';cases e'
 rw[d]at d'
 injection d' with d1 _
 have:its=its':=by simpa using fD Array.toList d1
 subst this
 exact r.inj r'
end
abbrev Cx.wish(X:Cx)(E:Value->Shared->Prop):Cx:={ X with xe:=E }
abbrev Cx.x6(X:Cx):Cx:=X.wish λ_ _=>False
theorem Cx.Ok.wish{X:Cx}(ok:X.Ok)(E:Value->Shared->Prop):(X.wish E).Ok:=
 ⟨ok.mod,ok.kind,ok.glob,ok.blt,ok.above,ok.inj,ok.has,ok.cab,ok.hd,ok.frames,ok.stk,ok.exf,ok.bs,ok.Jr,ok.MP,ok.WT,ok.pD,ok.Ot⟩
theorem Cx.Ok.nZ{X:Cx}{E:Value->Shared->Prop}(ok:(X.wish E).Ok):X.Ok:=
 ⟨ok.mod,ok.kind,ok.glob,ok.blt,ok.above,ok.inj,ok.has,ok.cab,ok.hd,ok.frames,ok.stk,ok.exf,ok.bs,ok.Jr,ok.MP,ok.WT,ok.pD,ok.Ot⟩
section
variable {X:Cx}{pins:List (Addr×Obj)}{σ:St}{H:Hp}{s:Shared}{E:Value->Shared->Prop}
theorem Inv.wish(I:Inv X pins σ H s)(E:Value->Shared->Prop):Inv (X.wish E) pins σ H s:=⟨I.ok.wish E,I.os,I.bare,I.base,I.loc,I.cell,I.free,I.kj,I.pin,I.bz,I.len⟩
theorem Inv.nZ(I:Inv (X.wish E) pins σ H s):Inv X pins σ H s:=⟨I.ok.nZ,I.os,I.bare,I.base,I.loc,I.cell,I.free,I.kj,I.pin,I.bz,I.len⟩
theorem SP.nZ{D:Ends}{f:Flow}{s':Shared}(h:SP (X.wish E) pins D f s'):SP X pins D f s':=by
 cases f with
 | next=>obtain⟨σ',H',I,q⟩:=h;exact⟨σ',H',I.nZ,q⟩
 | brk=>obtain⟨σ',H',I,q⟩:=h;exact⟨σ',H',I.nZ,q⟩
 | cont=>obtain⟨σ',H',I,q⟩:=h;exact⟨σ',H',I.nZ,q⟩
 | ret u=>obtain⟨v,σ',H',I,r,q⟩:=h;exact⟨v,σ',H',I.nZ,r,q⟩
theorem CJ.x6{st:List Stmt}{t:TS}(h:CJ X.x6 st t):CJ X st t:=λpins s σ H D I hw=>
 cL (h pins s σ H D (I.wish _) hw) (λ_ _ q=>q.nZ) λ_ _ z=>False.elim z
end
section
variable {X:Cx}{st:Stmt}{rest:List Stmt}{t u:TS}{e:Expr}{te:TE}{pos:Pos}
def yV:TS:=λD σ H=>D.nx σ H
def LW(t u:TS):TS:=λD σ H=>t { D with nx:=u D } σ H
theorem Vr:CJ X [] yV:=λ_ _ σ H _ I h=>zY ⟨σ,H,I,h⟩
theorem QH(h1:PS X st t)(h2:CJ X rest u):CJ X (st::rest) (LW t u):=by
 intro pins s σ H D I h
 refine wpAny_execs_cons (cT (h1 pins s σ H { D with nx:=u D } I h) λf s1 q=>?_)
 cases f with
 | next=>
  obtain⟨σ',H',I',q⟩:=q
  exact h2 pins s1 σ' H' D I' q
 | ret v=>exact q
 | brk=>exact q
 | cont=>exact q
theorem Vq(h1:PS X st t):CJ X [st] t:=by
 intro pins s σ H D I h
 refine wpAny_execs_cons (cT (h1 pins s σ H D I h) λf s1 q=>?_)
 cases f with
 | next=>exact zY q
 | ret v=>exact q
 | brk=>exact q
 | cont=>exact q
theorem Inv.quiet{pins:List (Addr×Obj)}{σ:St}{H:Hp}{s:Shared}(I:Inv X pins σ H s):interactive X.env=false:=by simp[interactive,I.ok.kind]
def Dp(te:TE):TS:=λD σ H=>te σ H λ_ H1=>D.nx σ H1
theorem Kd(he:PE X e te)(hs:swapsWith e none pos.line X.env=pure false:=by rfl):PS X (.Expr e pos) (Dp te):=by
 intro pins s σ H D I h
 exact wpAny_Expr_any (cT (he pins s σ H _ I h) λv s1 ⟨x,H1,I1,r1,q1⟩=>⟨σ,H1,I1,q1⟩) I.quiet hs
def Pn(te:TE):TS:=λD σ H=>te σ H D.rt
theorem Zh(he:PE X e te):PS X (.Return (some e) pos) (Pn te):=by
 intro pins s σ H D I h
 exact wpAny_Return_some (cT (he pins s σ H _ I h) λv s1 ⟨x,H1,I1,r1,q1⟩=>⟨x,σ,H1,I1,r1,q1⟩)
def Pm:TS:=λD _ H=>D.rt .non H
def L7(c:TT)(t u:TS):TS:=λD σ H=>c σ H λb H1=>if b=true then t D σ H1 else u D σ H1
theorem aBf{c:Expr}{a b:List Stmt}{tc:TT}(hc:PT X c tc)(ha:CJ X a t)(hb:CJ X b u):PS X (.If c a b pos) (L7 tc t u):=by
 intro pins s σ H D I h
 refine wpAny_If (cT (hc pins s σ H _ I h) λd s1 ⟨H1,I1,q1⟩=>?_)
 cases d with
 | true=>exact ha pins s1 σ H1 D I1 q1
 | false=>exact hb pins s1 σ H1 D I1 q1
def He:TS:=λ_ _ _=>False
end
abbrev TG:=V->St->Hp->(St->Hp->Prop)->Prop
abbrev Uh:=List V->St->Hp->(St->Hp->Prop)->Prop
def PG(X:Cx)(target:Expr)(t:TG):Prop:=
 ∀(pins:List (Addr×Obj)) (s:Shared) (σ:St) (H:Hp) (v:V) (u:Value) (Q:St->Hp->Prop),Inv X pins σ H s->RelV v u->t v σ H Q->
  wpAny (model X.prog X.w) X.A (assign target X.env u) (λ_ s'=>∃σ' H',Inv X pins σ' H' s'/\Q σ' H') X.xe s
def PGs(X:Cx)(ts:List Expr)(t:Uh):Prop:=
 ∀(pins:List (Addr×Obj)) (s:Shared) (σ:St) (H:Hp) (vs:List V) (us:List Value) (Q:St->Hp->Prop),Inv X pins σ H s->Vals vs us->t vs σ H Q->
  wpAny (model X.prog X.w) X.A (assignInOrder ((assignEach ts X.env).map (·.2)) us) (λ_ s'=>∃σ' H',Inv X pins σ' H' s'/\Q σ' H') X.xe s
abbrev Jy:=V->V->V->Hp->(Hp->Prop)->Prop
def N9(X:Cx)(t:Jy):Prop:=
 ∀(pins:List (Addr×Obj)) (s:Shared) (σ:St) (H:Hp) (o i v:V) (ov iv u:Value) (Q:Hp->Prop),Inv X pins σ H s->RelV o ov->RelV i iv->RelV v u->t o i v H Q->
  wpAny (model X.prog X.w) X.A (setItem ov iv u) (λ_ s'=>∃H',Inv X pins σ H' s'/\Q H') X.xe s
abbrev Xf:=V->V->Hp->VK->Prop
def PIp(X:Cx)(op:Operator)(t:Xf):Prop:=
 ∀(pins:List (Addr×Obj)) (s:Shared) (σ:St) (H:Hp) (x y:V) (v u:Value) (Q:VK),Inv X pins σ H s->RelV x v->RelV y u->t x y H Q->
  wpAny (model X.prog X.w) X.A (inplaceOp op v u) (EP X pins σ Q) X.xe s
section
variable {X:Cx}{pos:Pos}
def dg(i:Nat):TG:=λv σ H Q=>Q (σ.set i (some v)) H
theorem Bq{i:Nat}{x:Str}(hN:X.N.Nodup)(hi:X.N[i]?=some x)(hx:Loc X.env.scope x)(hf:X.fn x=true\/X.env.scope.names.lookup x=some .local:=by first | exact .inl rfl | exact .inr rfl | assumption):PG X (.Name x pos) (dg i):=by
 intro pins s σ H v u Q I r h
 exact wpAny_assign_Name (rX I hN hi hx r (λs' I'=>⟨_,H,I',h⟩) hf)
def WM:Uh:=λvs σ H Q=>vs=[]/\Q σ H
def KD(t:TG)(u:Uh):Uh:=λvs σ H Q=>∃v r,vs=v::r/\t v σ H λσ' H'=>u r σ' H' Q
theorem VG:PGs X [] WM:=by
 intro pins s σ H vs us Q I r h
 obtain⟨e,h⟩:=h
 subst e
 cases r
 exact assignInOrder_nil ⟨σ,H,I,h⟩
theorem DW{e:Expr}{es:List Expr}{t:TG}{u:Uh}(h1:PG X e t)(h2:PGs X es u)
  (hs:(assignEach (e::es) X.env).map (·.2)=assign e X.env::(assignEach es X.env).map (·.2):=by rfl):PGs X (e::es) (KD t u):=by
 intro pins s σ H vs us Q I r h
 obtain⟨v,vr,e1,h⟩:=h
 subst e1
 cases r with
 | cons r rr=>
  rw[hs]
  refine assignInOrder_cons (cT (h1 pins s σ H _ _ _ I r h) λ_ s1 ⟨σ1,H1,I1,q1⟩=>?_)
  exact h2 pins s1 σ1 H1 _ _ Q I1 rr q1
def WL(K:PySem.W.Frag)(n:Nat)(t:Uh):TG:=λv σ H Q=>∃a xs,v=.ref a/\yF K H a xs/\xs.length=n/\t xs σ H Q
theorem Hr{es:List Expr}{k:Nat}{t:Uh}{n:Nat}(hc:X.calm=true)(h:PGs X es t)
  (hn:(assignEach es X.env).length=n:=by rfl) (Nm:(assignEach es X.env).findIdx? (·.1)=none:=by rfl):PG X (.Tuple es k pos) (WL X.K n t):=by
 intro pins s σ H v u Q I r hw
 obtain⟨a,xs,e1,hq,hl,hw⟩:=hw
 subst e1
 cases r
 obtain⟨its,rv,ht,hz⟩:=I.tuple hq
 refine assign_Tuple_tuple (I.ok.hd hc) ht (by simp[hn,<-hl,rv.length]) Nm λh' hx=>?_
 have I1:Inv X pins σ H { s with heap:=h' }:=I.kept (t':=s.toks) λb o e=>hx b o (bf (bG e)) e
 exact h pins _ σ H xs _ Q I1 (by simpa using rv) hw
def Sy(to ti:TE)(t:Jy):TG:=λv σ H Q=>to σ H λo H1=>ti σ H1 λi H2=>t o i v H2 λH3=>Q σ H3
theorem QV{o i:Expr}{to ti:TE}{t:Jy}(ho:PE X o to)(hi:PE X i ti)(hs:N9 X t)
  (ha:∀v,assign (.Subscript o i pos) X.env v=(do
   let ov <-holding [v] (eval o X.env)
   let iv <-holding [v,ov] (eval i X.env)
   standAt pos
   holding [v,ov,iv] (setItem ov iv v)
   release [v,ov,iv] []):=by intro _;rfl):PG X (.Subscript o i pos) (Sy to ti t):=by
 intro pins s σ H v u Q I r h
 rw[ha]
 refine av (js (cT (ho pins s σ H _ I h) λov s1 ⟨x,H1,I1,r1,q1⟩=>?_))
 refine av (js (cT (hi pins s1 σ H1 _ I1 q1) λiv s2 ⟨y,H2,I2,r2,q2⟩=>?_))
 refine av (qa (av (js (cT (hs pins s2 σ H2 x y v ov iv u _ I2 r1 r2 r q2) λ_ s3 ⟨H3,I3,q3⟩=>?_))))
 exact wpAny_release ⟨σ,H3,I3,q3⟩
def uc(te:TE)(g:TG):TS:=λD σ H=>te σ H λx H1=>g x σ H1 D.nx
theorem Bp{tg e:Expr}{te:TE}{g:TG}(he:PE X e te)(hg:PG X tg g)(hs:swapsWithSole [tg] e pos.line X.env=pure false:=by rfl)(hw:swappedStores [tg] e X.env=pure none:=by rfl)
  (h1:(assignEach [tg] X.env).map (·.2)=[assign tg X.env]:=by rfl):PS X (.Assign [tg] e pos) (uc te g):=by
 intro pins s σ H D I h
 refine wpAny_Assign_stores (cT (he pins s σ H _ I h) λv s1 ⟨x,H1,I1,r1,q1⟩=>?_) hs hw
 rw[h1]
 exact cT (hg pins s1 σ H1 x v _ I1 r1 q1) λ_ s2 q=>q
theorem Zg{i:Nat}{x:Str}{e:Expr}{te:TE}{pos':Pos}(hN:X.N.Nodup)(hi:X.N[i]?=some x)(hx:Loc X.env.scope x)(he:PE X e te)(hs:swapsWith e (some (.Name x pos')) pos.line X.env=pure false:=by rfl)(hf:X.fn x=true\/X.env.scope.names.lookup x=some .local:=by first | exact .inl rfl | exact .inr rfl | assumption) :
  PS X (.Assign [.Name x pos'] e pos) (uc te (dg i)):=by
 intro pins s σ H D I h
 refine wpAny_Assign_Name (cT (he pins s σ H _ I h) λv s1 ⟨y,H1,I1,r1,q1⟩=>?_) hs
 exact rX I1 hN hi hx r1 (λs2 I2=>⟨_,H1,I2,q1⟩) hf
def aAV(i j:Nat)(ta:TA):TS:=λD σ H=>ta σ H λvs H1=>∃v w,vs=[v,w]/\D.nx ((σ.set i (some v)).set j (some w)) H1
def Uy(i:Nat)(te:TE)(ti:Xf):TS:=λD σ H=>∃x,σ[i]?=some (some x)/\te σ H λy H1=>ti x y H1 λz H2=>D.nx (σ.set i (some z)) H2
theorem Zm{i:Nat}{x:Str}{e:Expr}{te:TE}{op:Operator}{ti:Xf}{pos':Pos}(hN:X.N.Nodup)(hi:X.N[i]?=some x)(hx:Loc X.env.scope x)(he:PE X e te)(ho:PIp X op ti)(hf:X.fn x=true\/X.env.scope.names.lookup x=some .local:=by first | exact .inl rfl | exact .inr rfl | assumption) :
  PS X (.AugAssign (.Name x pos') op e pos) (Uy i te ti):=by
 intro pins s σ H D I h
 obtain⟨v,e1,h⟩:=h
 obtain⟨m,hn,hl⟩:=I.loc
 have vis:Vis X.env.scope x:=by rcases hx with k | k;exact .inl k;exact .inr (.inl k)
 obtain⟨u,r,l⟩:=hl i x v hi e1 vis
 refine wpAny_AugAssign_Name ?_
 have go:wpAny (model X.prog X.w) X.A (eval e X.env) (λw s₂=>wpAny (model X.prog X.w) X.A (inplaceOp op u w) (λr s₃=>wpAny (model X.prog X.w) X.A (storeName X.env x r) (λ_=>SP X pins D .next) X.xe s₃) X.xe s₂) X.xe s:=by
  refine cT (he pins s σ H _ I h) λw s1 ⟨y,H1,I1,r1,q1⟩=>?_
  refine cT (ho pins s1 σ H1 v y u w _ I1 r r1 q1) λz s2 ⟨zv,H2,I2,r2,q2⟩=>?_
  exact rX I2 hN hi hx r2 (λs3 I3=>⟨_,H2,I3,q2⟩) hf
 rcases l with ⟨hk,hm⟩ | ⟨hk,c,hc,pR⟩
 ·exact wpAny_loadName_local I.ok.kind hk hn hm go
 ·rcases hk with hk | hk
  ·exact wpAny_loadName_cell I.ok.kind hk hc pR go
  ·rcases hx with k | k
   ·have:X.env.scope.names.lookup x=some .free:=hk
    rw[k]at this;cases this
   ·have:X.env.scope.names.lookup x=some .free:=hk
    rw[k]at this;cases this
def Dt(to ti te:TE)(Ha:V->V->Hp->VK->Prop)(Yx:Xf)(G':Jy):TS:=λD σ H=>to σ H λo H1=>ti σ H1 λi H2=>Ha o i H2 λx H3=>te σ H3 λy H4=>Yx x y H4 λz H5=>G' o i z H5 λH6=>D.nx σ H6
def aAI(X:Cx)(t:V->V->Hp->VK->Prop):Prop:=
 ∀(pins:List (Addr×Obj)) (s:Shared) (σ:St) (H:Hp) (o i:V) (ov iv:Value) (Q:VK),Inv X pins σ H s->RelV o ov->RelV i iv->t o i H Q->
  wpAny (model X.prog X.w) X.A (getItem ov iv) (EP X pins σ Q) X.xe s
theorem Ke{o i e:Expr}{to ti te:TE}{Ha:V->V->Hp->VK->Prop}{Yx:Xf}{G':Jy}{op:Operator}{Ph:Pos}(ho:PE X o to)(hi:PE X i ti)(hg:aAI X Ha)(he:PE X e te)(hp:PIp X op Yx)(hs:N9 X G')
  (ha:∀ov iv new,augStore i ov iv new=(do holding [new,ov,iv] (setItem ov iv new);release [new,ov,iv] [];pure .next):=by intros;rfl):PS X (.AugAssign (.Subscript o i Ph) op e pos) (Dt to ti te Ha Yx G'):=by
 intro pins s σ H D I h
 refine wpAny_AugAssign_SubscriptAny (cT (ho pins s σ H _ I h) λov s1 ⟨x1,H1,I1,r1,q1⟩=>?_) ha
 refine cT (hi pins s1 σ H1 _ I1 q1) λiv s2 ⟨x2,H2,I2,r2,q2⟩=>?_
 refine cT (hg pins s2 σ H2 x1 x2 ov iv _ I2 r1 r2 q2) λold s3 ⟨x3,H3,I3,r3,q3⟩=>?_
 refine cT (he pins s3 σ H3 _ I3 q3) λv s4 ⟨x4,H4,I4,r4,q4⟩=>?_
 refine cT (hp pins s4 σ H4 x3 x4 old v _ I4 r3 r4 q4) λnew s5 ⟨x5,H5,I5,r5,q5⟩=>?_
 exact cT (hs pins s5 σ H5 x1 x2 x5 ov iv new _ I5 r1 r2 r5 q5) λ_ s6 ⟨H6,I6,q6⟩=>⟨σ,H6,I6,q6⟩
def ipI(f:Int->Int->Int):Xf:=λx y H Q=>∃i j,x=.int i/\y=.int j/\Q (.int (f i j)) H
theorem RM:PIp X .Add (ipI λi j=>i+j):=by
 intro pins s σ H x y v u Q I r1 r2 h
 obtain⟨i,j,e1,e2,q⟩:=h
 subst e1;subst e2
 obtain⟨t,rfl⟩:=r1
 obtain⟨t',rfl⟩:=r2
 exact iadd_int ⟨.int _,H,I.tok _,⟨_,rfl⟩,q⟩
theorem aAi:PIp X .Sub (ipI λi j=>i-j):=by
 intro pins s σ H x y v u Q I r1 r2 h
 obtain⟨i,j,e1,e2,q⟩:=h
 subst e1;subst e2
 obtain⟨t,rfl⟩:=r1
 obtain⟨t',rfl⟩:=r2
 exact isub_int ⟨.int _,H,I.tok _,⟨_,rfl⟩,q⟩
def Hb(c:TT)(tb:TS):TS:=λD σ H=>∃W:Nat->St->Hp->Prop,(∃m,W m σ H)/\∀m σ H,W m σ H->
 c σ H λb H1=>if b=true then ∃N:St->Hp->Prop,(∀σ' H',N σ' H'->∃m',m'<m/\W m' σ' H')/\tb { D with nx:=N,ct:=N,bk:=D.nx } σ H1 else D.nx σ H1
theorem QJ{c:Expr}{body:List Stmt}{tc:TT}{tb:TS}(hp:PassesOwn (model X.prog X.w) X.A X.env X.xe)(hc:PT X c tc)(hb:CJ X body tb):PS X (.While c body [] pos) (Hb tc tb):=by
 intro pins s σ H D I h
 obtain⟨W,⟨m0,w0⟩,turn⟩:=h
 refine wpAny_While (codeAny_whileLoop (λn s'=>∃σ' H',Inv X pins σ' H' s'/\W n σ' H') ?_ m0 ⟨σ,H,I,w0⟩)
 rintro n s1 ⟨σ1,H1,I1,w1⟩
 refine qe hp (cT (hc pins s1 σ1 H1 _ I1 (turn n σ1 H1 w1)) λb s2 ⟨H2,I2,q2⟩=>?_)
 cases b with
 | true=>
  obtain⟨N,hN,q2⟩:=q2
  rw[ay rfl]
  refine qe hp (cT (hb pins s2 σ1 H2 _ I2 q2) λf s3 q3=>?_)
  cases f with
  | next=>
   obtain⟨σ3,H3,I3,n3⟩:=q3
   obtain⟨m',hm,w3⟩:=hN σ3 H3 n3
   exact⟨m',hm,σ3,H3,I3,w3⟩
  | cont=>
   obtain⟨σ3,H3,I3,n3⟩:=q3
   obtain⟨m',hm,w3⟩:=hN σ3 H3 n3
   exact⟨m',hm,σ3,H3,I3,w3⟩
  | brk=>exact q3
  | ret v=>exact q3
 | false=>
  rw[aE gb]
  exact zY ⟨σ1,H2,I2,q2⟩
end
structure It where
 go:Nat->Hp->Prop
 JN:Nat->Hp->V->Hp->Prop
 stop:Nat->Hp->Prop
def vK(X:Cx)(pins:List (Addr×Obj))(H:Hp)(b:Addr):Prop:=
 H b=none/\b≠X.env.locals/\b∉X.fs/\(b∈X.ex\/X.s₀.heap.objs.size<=b)/\(∀x c,X.env.cells.lookup x=some c->c≠b)/\∀p∈X.pn++pins,p.1≠b
theorem Inv.WN{X:Cx}{pins:List (Addr×Obj)}{σ:St}{H H':Hp}{s:Shared}{b:Addr}(I:Inv X pins σ H s)(hb:s.heap.objs.size<=b)(hn:H' b=none):vK X pins H' b:=by
 refine⟨hn,g6 (bW I.lt hb),I.aBs hb,.inr (cQ I.sz hb),λx c e z=>?_,λp hp z=>?_⟩
 ·obtain⟨v,q⟩:=I.cell x c e
  exact absurd (bW q.lt (by rw[z];exact hb)) (g7 _)
 ·exact absurd (bW (bG (I.pin p hp).1) (by rw[z];exact hb)) (g7 _)
structure Turn(P:Program)(w:World)(K:PySem.W.Frag)(tg:Expr)(J:It)(fp:List Addr)(it:Addr)(tn:Nat->Heap->Prop):Prop where
 mem:it∈fp
 obj:∀i h,tn i h->∀b∈fp,∃o,h.get? b=some o/\∀v,o.data≠.cell v
 keep:∀i h h',tn i h->(∀b∈fp,∀o,h.get? b=some o->h'.get? b=some o)->tn i h'
 item:∀(X:Cx),X.prog=P->X.w=w->X.K=K->X.calm=true->∀(i:Nat) (pins:List (Addr×Obj)) (s:Shared) (σ:St) (H:Hp) (E:Value->Shared->Prop),Inv X pins σ H s->(∀b∈fp,vK X pins H b)->tn i s.heap->J.go i H->
  wpAny (model P w) X.A (pyNext (.ref it)) (λr s1=>∃u,r=some u/\
   wpAny (model P w) X.A (letOwnedTupleGo tg (.ref it) u) (λ_ s2=>∃x H',Inv X pins σ H' s2/\RelV x u/\J.JN i H x H'/\tn (i+1) s2.heap/\∀b∈fp,H' b=none) E s1) E s
 done:∀(X:Cx),X.prog=P->X.w=w->X.K=K->X.calm=true->∀(i:Nat) (pins:List (Addr×Obj)) (s:Shared) (σ:St) (H:Hp) (E:Value->Shared->Prop),Inv X pins σ H s->(∀b∈fp,vK X pins H b)->tn i s.heap->J.stop i H->
  wpAny (model P w) X.A (pyNext (.ref it)) (λr s1=>r=none/\Inv X pins σ H s1) E s
 self:∀(A:Around) (i:Nat) (s:Shared) (Q:Value->Shared->Prop) (E:Value->Shared->Prop),tn i s.heap->Q (.ref it) s->wpAny (model P w) A (pyIter (.ref it)) Q E s
abbrev TI:=St->Hp->(It->Hp->Prop)->Prop
def PIE(X:Cx)(pins:List (Addr×Obj))(σ:St)(tg:Expr)(R:It->Hp->Prop)(itv:Value)(s2:Shared):Prop:=
 ∃(it:Addr) (fp:List Addr) (tn:Nat->Heap->Prop) (J:It) (H':Hp),itv=.ref it/\Inv X pins σ H' s2/\Turn X.prog X.w X.K tg J fp it tn/\tn 0 s2.heap/\(∀b∈fp,vK X pins H' b)/\R J H'
def PI(X:Cx)(tg iter:Expr)(wi:TI):Prop:=
 ∀(pins:List (Addr×Obj)) (s:Shared) (σ:St) (H:Hp) (R:It->Hp->Prop),Inv X pins σ H s->wi σ H R->
  wpAny (model X.prog X.w) X.A (eval iter X.env) (λv s1=>wpAny (model X.prog X.w) X.A (pyIter v) (PIE X pins σ tg R) X.xe s1) X.xe s
theorem KC{M : Model}{A : Around}{E : Value → Shared → Prop}{s : Shared}{tg : Expr}{it : Addr}{u : Value}{o : Obj}{n : String}{vs : Array Value}{Q : Unit → Shared → Prop}(ho : s.heap.get? it=some o)(hc : o.cls=.type n)(hd : o.data=.fields vs)
    (hn : ["enumerate", "zip", "dict_itemiterator", "dict_reverseitemiterator", "odict_iterator", "itertools.zip_longest", "itertools.pairwise"].contains n=false) (hQ : Q () s) : wpAny M A (letOwnedTupleGo tg (.ref it) u) Q E s := by
  unfold letOwnedTupleGo
  cases tg <;> first
    | exact aK hQ
    | (cases u <;> first
        | exact aK hQ
        | (refine av (wpAny_load ho ?_)
           rw[hc, hd]
           show wpAny M A (if (["enumerate", "zip", "dict_itemiterator", "dict_reverseitemiterator", "odict_iterator", "itertools.zip_longest", "itertools.pairwise"].contains n&&vs[0]? == some (rawInt _))=true then _ else _) Q E s
           rw[aE (by intro h; rw[hn, zZ]at h; cases h)]
           exact aK hQ))
def JC(K:PySem.W.Frag)(a:Addr):It:=
 ⟨λi H=>∃xs x,rE K H a xs/\xs[i]?=some x,λi H x H'=>H'=H/\∀xs,rE K H a xs->xs[i]?=some x,λi H=>∃xs,rE K H a xs/\xs.length<=i⟩
def Xh(K:PySem.W.Frag)(a:Addr):It:=
 ⟨λi H=>∃xs x,yF K H a xs/\xs[i]?=some x,λi H x H'=>H'=H/\∀xs,yF K H a xs->xs[i]?=some x,λi H=>∃xs,yF K H a xs/\xs.length<=i⟩
def JB(lo:Int)(n:Nat):It:=⟨λi _=>i<n,λi H x H'=>H'=H/\x=.int (lo+i),λi _=>n<=i⟩
theorem LK{P:Program}{w:World}{K:PySem.W.Frag}{tg:Expr}(a it:Addr):Turn P w K tg (JC K a) [it] it (λi h=>h.IsListIter it a i) where
 mem:=by simp
 obj:=λi h st b hb=>by
  have e:b=it:=by simpa using hb
  subst e
  obtain⟨o,e,c,d⟩:=st
  exact⟨o,e,λv z=>by rw[d]at z;cases z⟩
 keep:=λi h h' st k=>st.at λo e=>k it (by simp) o e
 item:=by
  intro X hP hw hK hc i pins s σ H E I hf st hg
  subst hP hw hK
  obtain⟨xs,x,hq,hx⟩:=hg
  obtain⟨its,rv,p,hz⟩:=I.list hq
  obtain⟨u,hu,ru⟩:=rv.get hx
  obtain⟨f0,f1,f2,f3,f4,f5⟩:=hf it (by simp)
  refine wpAny_pyNext_list_item st p.isList (x:=u) (by simpa using hu) λh' bC sb=>?_
  have I1:Inv X pins σ H { s with heap:=h' }:=I.turned (t':=s.toks) (λb o hb e=>(sb.2 b hb).trans e) f0 f1 f3 f4 f5
  obtain⟨o,e,c,d⟩:=id bC
  exact⟨u,rfl,KC (s:={ s with heap:=h' }) e c d (by decide) ⟨x,H,I1,ru,⟨rfl,λys hy=>by rw[I.Eo hy hq];exact hx⟩,bC,λb hb=>(hf b hb).1⟩⟩
 done:=by
  intro X hP hw hK hc i pins s σ H E I hf st hg
  subst hP hw hK
  obtain⟨xs,hq,hx⟩:=hg
  obtain⟨its,rv,p,hz⟩:=I.list hq
  obtain⟨f0,f1,f2,f3,f4,f5⟩:=hf it (by simp)
  have hl:=rv.length
  exact wpAny_pyNext_list_end (I.ok.hd hc) st p.isList (by simp;lia) λh' eb=>⟨rfl,I.turned (t':=s.toks) (λb o hb e=>eb b o hb e) f0 f1 f3 f4 f5⟩
 self:=λ_ _ _ _ _ st h=>wpAny_pyIter_listiter st h
theorem G8{P:Program}{w:World}{K:PySem.W.Frag}{tg:Expr}(a it:Addr):Turn P w K tg (Xh K a) [it] it (λi h=>h.IsTupleIter it a i) where
 mem:=by simp
 obj:=λi h st b hb=>by
  have e:b=it:=by simpa using hb
  subst e
  obtain⟨o,e,c,d⟩:=st
  exact⟨o,e,λv z=>by rw[d]at z;cases z⟩
 keep:=λi h h' st k=>st.at λo e=>k it (by simp) o e
 item:=by
  intro X hP hw hK hc i pins s σ H E I hf st hg
  subst hP hw hK
  obtain⟨xs,x,hq,hx⟩:=hg
  obtain⟨its,rv,p,hz⟩:=I.tuple hq
  obtain⟨u,hu,ru⟩:=rv.get hx
  obtain⟨f0,f1,f2,f3,f4,f5⟩:=hf it (by simp)
  refine wpAny_pyNext_tuple_item st (show s.heap.IsTuple a its.toArray from p) (x:=u) (by simpa using hu) λh' bC sb=>?_
  have I1:Inv X pins σ H { s with heap:=h' }:=I.turned (t':=s.toks) (λb o hb e=>(sb.2 b hb).trans e) f0 f1 f3 f4 f5
  obtain⟨o,e,c,d⟩:=id bC
  exact⟨u,rfl,KC (s:={ s with heap:=h' }) e c d (by decide) ⟨x,H,I1,ru,⟨rfl,λys hy=>by rw[I.LR hy hq];exact hx⟩,bC,λb hb=>(hf b hb).1⟩⟩
 done:=by
  intro X hP hw hK hc i pins s σ H E I hf st hg
  subst hP hw hK
  obtain⟨xs,hq,hx⟩:=hg
  obtain⟨its,rv,p,hz⟩:=I.tuple hq
  obtain⟨f0,f1,f2,f3,f4,f5⟩:=hf it (by simp)
  have hl:=rv.length
  exact wpAny_pyNext_tuple_end (I.ok.hd hc) st (show s.heap.IsTuple a its.toArray from p) (by simp;lia) λh' eb=>⟨rfl,I.turned (t':=s.toks) (λb o hb e=>eb b o hb e) f0 f1 f3 f4 f5⟩
 self:=λ_ _ _ _ _ st h=>wpAny_pyIter_tupleiter st h
theorem G9{P:Program}{w:World}{K:PySem.W.Frag}{tg:Expr}(it:Addr)(lo:Int)(n:Nat):Turn P w K tg (JB lo n) [it] it (λi h=>IsRangeIter h it (lo+(i:Nat)*1) ((n:Int)-(i:Nat)) 1) where
 mem:=by simp
 obj:=λi h st b hb=>by
  have e:b=it:=by simpa using hb
  subst e
  exact⟨_,st,λv z=>by
   have z':Data.fields _=Data.cell v:=z
   cases z'⟩
 keep:=λi h h' st k=>k it (by simp) _ st
 item:=by
  intro X hP hw hK hc i pins s σ H E I hf st hg
  subst hP hw hK
  obtain⟨f0,f1,f2,f3,f4,f5⟩:=hf it (by simp)
  have W:=Walks.range (prog:=X.prog) (w:=X.w) (I.ok.hd hc) it lo 1 n
  refine W.item i s _ _ hg st λv h' tk hv bC kk=>?_
  obtain⟨t,rfl⟩:=hv
  have I1:Inv X pins σ H { s with heap:=h',toks:=tk }:=I.turned (λb o hb e=>kk b o (by simpa using hb) e) f0 f1 f3 f4 f5
  refine⟨_,rfl,KC (s:={ s with heap:=h',toks:=tk }) (n:="range_iterator") bC rfl rfl (by decide) ⟨.int (lo+i),H,I1,⟨t,?_⟩,⟨rfl,rfl⟩,bC,λb hb=>(hf b hb).1⟩⟩
  rw[Int.mul_one]
 done:=by
  intro X hP hw hK hc i pins s σ H E I hf st hg
  subst hP hw hK
  obtain⟨f0,f1,f2,f3,f4,f5⟩:=hf it (by simp)
  exact wpAny_pyNext_range_end (I.ok.hd hc) st (by have:n<=i:=hg;lia) λh' eb=>⟨rfl,I.turned (t':=s.toks) (λb o hb e=>eb b o hb e) f0 f1 f3 f4 f5⟩
 self:=λ_ _ _ _ _ st h=>wpAny_pyIter_rangeiter st h
end L2
namespace L2
open PySem PySem.Spec PyProof.Rows
section
variable {X:Cx}{tg:Expr}
def Ff(K:PySem.W.Frag)(tl:TE):TI:=λσ H R=>tl σ H λx H1=>∃a,x=.ref a/\(∃xs,rE K H1 a xs)/\R (JC K a) H1
def RN(K:PySem.W.Frag)(tl:TE):TI:=λσ H R=>tl σ H λx H1=>∃a,x=.ref a/\(∃xs,yF K H1 a xs)/\R (Xh K a) H1
theorem VF{l:Expr}{tl:TE}(hl:PE X l tl):PI X tg l (Ff X.K tl):=by
 intro pins s σ H R I h
 refine cT (hl pins s σ H _ I h) λv s1 ⟨x,H1,I1,r1,q1⟩=>?_
 obtain⟨a,e,⟨xs,hq⟩,q⟩:=q1
 subst e
 cases r1
 obtain⟨its,rv,p,hz⟩:=I1.list hq
 refine z8 p.isList ?_
 refine⟨s1.heap.objs.size,[s1.heap.objs.size],_,_,H1,rfl,I1.kept (t':=s1.toks) λb o e=>bN _ e,LK a _,⟨_,cC _ rfl,rfl,rfl⟩,λb hb=>?_,q⟩
 have e:b=s1.heap.objs.size:=by simpa using hb
 subst e
 exact I1.WN (bj _) (I1.bz.fresh (bj _))
theorem Zq{l:Expr}{tl:TE}(hl:PE X l tl):PI X tg l (RN X.K tl):=by
 intro pins s σ H R I h
 refine cT (hl pins s σ H _ I h) λv s1 ⟨x,H1,I1,r1,q1⟩=>?_
 obtain⟨a,e,⟨xs,hq⟩,q⟩:=q1
 subst e
 cases r1
 obtain⟨its,rv,p,hz⟩:=I1.tuple hq
 refine wpAny_pyIter_tuple (show s1.heap.IsTuple a its.toArray from p) ?_
 refine⟨s1.heap.objs.size,[s1.heap.objs.size],_,_,H1,rfl,I1.kept (t':=s1.toks) λb o e=>bN _ e,G8 a _,⟨_,cC _ rfl,rfl,rfl⟩,λb hb=>?_,q⟩
 have e:b=s1.heap.objs.size:=by simpa using hb
 subst e
 exact I1.WN (bj _) (I1.bz.fresh (bj _))
theorem Qm{pins:List (Addr×Obj)}{σ:St}{H:Hp}{s:Shared}{R:It->Hp->Prop}{E:Value->Shared->Prop}{lo hi:Int}{t u v:Tok}{tk:Nat}(I:Inv X pins σ H s)(h1 : -(2 ^ 62)<=lo)(h2:lo<2 ^ 62)(h3 : -(2 ^ 62)<=hi)(h4:hi<2 ^ 62)
  (q:R (JB lo (hi-lo).toNat) H):wpAny (model X.prog X.w) X.A (pyIter (.ref s.heap.objs.size)) (PIE X pins σ tg R) E { s with heap:=s.heap.push { cls:=.type "range",data:=.fields #[.int lo t,.int hi u,.int 1 v] },toks:=tk }:=by
 refine wpAny_pyIter_range (IsRange.new ..) (small_one h1 h2 h3 h4) ?_
 have I1:Inv X pins σ H { s with heap:=s.heap.push { cls:=.type "range",data:=.fields #[.int lo t,.int hi u,.int 1 v] },toks:=tk }:=I.kept λb o e=>bN _ e
 refine⟨(s.heap.push { cls:=.type "range",data:=.fields #[.int lo t,.int hi u,.int 1 v] }).objs.size,[(s.heap.push { cls:=.type "range",data:=.fields #[.int lo t,.int hi u,.int 1 v] }).objs.size],_,_,H,rfl,
  I1.kept (t':=tk) λb o e=>bN _ e,G9 _ lo (hi-lo).toNat,?_,λb hb=>?_,q⟩
 ·have e1:lo+((0:Nat):Int)*1=lo:=by simp
  have e2:(((hi-lo).toNat:Nat):Int)-((0:Nat):Int)=Builtin.Range.rangeSize lo hi 1:=by rw[rangeSize_one];split <;> lia
  show IsRangeIter _ _ (lo+((0:Nat):Int)*1) ((((hi-lo).toNat:Nat):Int)-((0:Nat):Int)) 1
  rw[e1,e2]
  exact cC _ rfl
 ·have e:b=(s.heap.push { cls:=.type "range",data:=.fields #[.int lo t,.int hi u,.int 1 v] }).objs.size:=by simpa using hb
  subst e
  exact I1.WN (bj _) (I1.bz.fresh (bj _))
def Fe(ta:TA):TI:=λσ H R=>ta σ H λvs H1=>∃j:Int,vs=[.int j]/\-(2 ^ 62)<=j/\j<2 ^ 62/\R (JB 0 j.toNat) H1
def RQ(ta:TA):TI:=λσ H R=>ta σ H λvs H1=>∃i j:Int,vs=[.int i,.int j]/\(-(2 ^ 62)<=i/\i<2 ^ 62/\-(2 ^ 62)<=j/\j<2 ^ 62)/\R (JB i (j-i).toNat) H1
theorem zc{a:Expr}{ta:TA}{p pos:Pos}(hg:Gl X "range")(hm:X.mg "range" = none)(ha:PA X [a] ta)(hs:starEach [a] X.env=[(false,eval a X.env)]:=by rfl):PI X tg (.Call (.Name "range" p) [a] [] pos) (Fe ta):=by
 intro pins s σ H R I h
 refine Call_ (uv I hg hm boot_range (G4 (cT (ha pos pins s σ H _ I h) λus s1 ⟨vs,H1,I1,r1,q1⟩=>?_) hs rfl))
 obtain⟨j,e,q1,q2,q⟩:=q1
 subst e
 cases r1 with
 | cons r rr=>
  cases rr
  obtain⟨t,rfl⟩:=r
  exact call_range_1 (Qm I1 (by lia) (by lia) q1 q2 (by simpa using q))
def Uv(wi:TI)(g:TG)(tb:TS):TS:=λD σ H=>wi σ H λJ H1=>∃W:Nat->Nat->St->Hp->Prop,(∃m,W 0 m σ H1)/\∀i m σ H,W i m σ H->
 (J.stop i H/\D.nx σ H)\/(J.go i H/\∃N:St->Hp->Prop,(∀σ' H',N σ' H'->∃m',m'<m/\W (i+1) m' σ' H')/\∀x H',J.JN i H x H'->g x σ H' λσ2 H2=>tb { D with nx:=N,ct:=N,bk:=D.nx } σ2 H2)
def ui(fp:List Addr)(h:Heap):List (Addr×Obj):=fp.filterMap λb=>(h.get? b).map λo=>(b,o)
theorem iA{fp:List Addr}{h:Heap}{b:Addr}{o:Obj}(hb:b∈fp)(e:h.get? b=some o):(b,o)∈ui fp h:=List.mem_filterMap.mpr ⟨b,hb,by rw[e];rfl⟩
theorem MK{fp:List Addr}{h:Heap}{p:Addr×Obj}(hp:p∈ui fp h):p.1∈fp/\h.get? p.1=some p.2:=by
 obtain⟨b,hb,e⟩:=List.mem_filterMap.mp hp
 cases q:h.get? b with
 | none=>rw[q]at e;cases e
 | some o=>
  rw[q]at e
  have e':(b,o)=p:=fw e
  subst e'
  exact⟨hb,q⟩
theorem Inv.pinned{pins:List (Addr×Obj)}{σ:St}{H:Hp}{s:Shared}{fp:List Addr}(I:Inv X pins σ H s)(hf:∀b∈fp,vK X pins H b)(ho:∀b∈fp,∃o,s.heap.get? b=some o/\∀v,o.data≠.cell v):Inv X (pins++ui fp s.heap) σ H s:=
 I.Kf λp hp=>(cw.mp hp).elim (λz=>I.pin p (gS _ z)) λz=>by
  obtain⟨hb,e⟩:=MK z
  obtain⟨f0,f1,f2,_⟩:=hf p.1 hb
  obtain⟨o,e',d⟩:=ho p.1 hb
  rw[e]at e';cases e'
  exact⟨e,f0,f1,f2,d⟩
theorem Inv.n5{pins pl:List (Addr×Obj)}{σ:St}{H:Hp}{s:Shared}(I:Inv X (pins++pl) σ H s):Inv X pins σ H s:=I.Kf λp hp=>I.pin p (gS _ (uT _ hp))
theorem Zi{iter:Expr}{body:List Stmt}{wi:TI}{g:TG}{tb:TS}{pos:Pos}(hp:PassesOwn (model X.prog X.w) X.A X.env X.xe)(hc:X.calm=true)(hi:PI X tg iter wi)(hg:PG X tg g)(hb:CJ X body tb)
  (hs:∀x,foldedSetIterable iter X.env x=pure x:=by intro _;rfl):PS X (.For tg iter body [] pos) (Uv wi g tb):=by
 intro pins s σ H D I h
 refine wpAny_For (cT (hi pins s σ H _ I h) λv s1 h1=>cT h1 λitv s2 h2=>?_) hs
 obtain⟨it,fp,tn,J,H2,e,I2,T,Az,f2,W,⟨m0,w0⟩,turn⟩:=h2
 subst e
 have stat:∀{H':Hp},(∀b∈fp,H' b=none)->∀b∈fp,vK X pins H' b:=λhn b hb=>⟨hn b hb,(f2 b hb).2⟩
 refine codeAny_forLoop_any (λn s'=>∃i σ' H',Inv X pins σ' H' s'/\tn i s'.heap/\(∀b∈fp,H' b=none)/\W i n σ' H') ?_ m0 ⟨0,σ,H2,I2,Az,λb hb=>(f2 b hb).1,w0⟩
 rintro n s3 ⟨i,σ3,H3,I3,st3,fr3,w3⟩
 rcases turn i n σ3 H3 w3 with ⟨stop,qn⟩ | ⟨go,N,hN,step⟩
 ·refine qe hp (cT (T.done X rfl rfl rfl hc i pins s3 σ3 H3 X.xe I3 (stat fr3) st3 stop) λr s4 ⟨hr,I4⟩=>?_)
  subst hr
  exact zY ⟨σ3,H3,I4,qn⟩
 ·refine qe hp (cT (T.item X rfl rfl rfl hc i pins s3 σ3 H3 X.xe I3 (stat fr3) st3 go) λr s4 ⟨u,hr,h4⟩=>?_)
  subst hr
  refine qe hp (cT h4 λ_ s5 ⟨x,H5,I5,r5,y5,st5,fr5⟩=>?_)
  have I5':=I5.pinned (stat fr5) (T.obj _ _ st5)
  refine qe hp (cT (hg _ s5 σ3 H5 x u _ I5' r5 (step x H5 y5)) λ_ s6 ⟨σ6,H6,I6,q6⟩=>?_)
  refine qe hp (cT (hb _ s6 σ6 H6 _ I6 q6) λf s7 q7=>?_)
  have again:∀{σ7:St} {H7:Hp},Inv X (pins++ui fp s5.heap) σ7 H7 s7->N σ7 H7->∃m,m<n/\∃i σ' H',Inv X pins σ' H' s7/\tn i s7.heap/\(∀b∈fp,H' b=none)/\W i m σ' H':=λ{σ7 H7} I7 n7=>by
   obtain⟨m',hm,w7⟩:=hN σ7 H7 n7
   refine⟨m',hm,i+1,σ7,H7,I7.n5,T.keep _ _ _ st5 λb hb o e=>(I7.pin (b,o) (gS _ (gS _ (iA hb e)))).1,λb hb=>?_,w7⟩
   obtain⟨o,e,d⟩:=T.obj _ _ st5 b hb
   exact(I7.pin (b,o) (gS _ (gS _ (iA hb e)))).2.1
  cases f with
  | next=>obtain⟨σ7,H7,I7,n7⟩:=q7;exact again I7 n7
  | cont=>obtain⟨σ7,H7,I7,n7⟩:=q7;exact again I7 n7
  | brk=>obtain⟨σ7,H7,I7,q7⟩:=q7;exact⟨σ7,H7,I7.n5,q7⟩
  | ret v=>obtain⟨x7,σ7,H7,I7,r7,q7⟩:=q7;exact⟨x7,σ7,H7,I7.n5,r7,q7⟩
end
theorem Sz{K:PySem.W.Frag}{a:Addr}{xs:List V}{g:TG}{tb:TS}{D:Ends}{σ:St}{H:Hp}(Pv:Nat->St->Hp->Prop)(h0:Pv 0 σ H)(hl:∀i σ H,i<=xs.length->Pv i σ H->rE K H a xs)
  (hs:∀i x σ H,xs[i]?=some x->Pv i σ H->g x σ H λσ2 H2=>tb { D with nx:=Pv (i+1),ct:=Pv (i+1),bk:=D.nx } σ2 H2) (hd:∀σ H,Pv xs.length σ H->D.nx σ H) :
  ∃W:Nat->Nat->St->Hp->Prop,(∃m,W 0 m σ H)/\∀i m σ H,W i m σ H->
   ((JC K a).stop i H/\D.nx σ H)\/((JC K a).go i H/\∃N:St->Hp->Prop,(∀σ' H',N σ' H'->∃m',m'<m/\W (i+1) m' σ' H')/\∀x H',(JC K a).JN i H x H'->g x σ H' λσ2 H2=>tb { D with nx:=N,ct:=N,bk:=D.nx } σ2 H2):=by
 refine⟨λi m σ H=>m=xs.length-i/\i<=xs.length/\Pv i σ H,⟨xs.length,by simp,de _,h0⟩,?_⟩
 rintro i m σ H ⟨rfl,hi,p⟩
 have q:=hl i σ H hi p
 by_cases iE:i<xs.length
 ·refine .inr ⟨⟨xs,xs[i],q,by simp[iE]⟩,Pv (i+1),λσ' H' p'=>⟨xs.length-(i+1),by lia,rfl,iE,p'⟩,λx H' y=>?_⟩
  obtain⟨e,y⟩:=y
  subst e
  exact hs i x σ _ (y xs q) p
 ·have e:i=xs.length:=by lia
  subst e
  exact .inl ⟨⟨xs,q,bj _⟩,hd σ H p⟩
theorem WR{K:PySem.W.Frag}{a:Addr}{xs:List V}{g:TG}{tb:TS}{D:Ends}{σ:St}{H:Hp}(Pv:Nat->St->Hp->Prop)(h0:Pv 0 σ H)(hl:∀i σ H,i<=xs.length->Pv i σ H->yF K H a xs)
  (hs:∀i x σ H,xs[i]?=some x->Pv i σ H->g x σ H λσ2 H2=>tb { D with nx:=Pv (i+1),ct:=Pv (i+1),bk:=D.nx } σ2 H2) (hd:∀σ H,Pv xs.length σ H->D.nx σ H) :
  ∃W:Nat->Nat->St->Hp->Prop,(∃m,W 0 m σ H)/\∀i m σ H,W i m σ H->
   ((Xh K a).stop i H/\D.nx σ H)\/((Xh K a).go i H/\∃N:St->Hp->Prop,(∀σ' H',N σ' H'->∃m',m'<m/\W (i+1) m' σ' H')/\∀x H',(Xh K a).JN i H x H'->g x σ H' λσ2 H2=>tb { D with nx:=N,ct:=N,bk:=D.nx } σ2 H2):=by
 refine⟨λi m σ H=>m=xs.length-i/\i<=xs.length/\Pv i σ H,⟨xs.length,by simp,de _,h0⟩,?_⟩
 rintro i m σ H ⟨rfl,hi,p⟩
 have q:=hl i σ H hi p
 by_cases iE:i<xs.length
 ·refine .inr ⟨⟨xs,xs[i],q,by simp[iE]⟩,Pv (i+1),λσ' H' p'=>⟨xs.length-(i+1),by lia,rfl,iE,p'⟩,λx H' y=>?_⟩
  obtain⟨e,y⟩:=y
  subst e
  exact hs i x σ _ (y xs q) p
 ·have e:i=xs.length:=by lia
  subst e
  exact .inl ⟨⟨xs,q,bj _⟩,hd σ H p⟩
theorem Ny{lo:Int}{n:Nat}{g:TG}{tb:TS}{D:Ends}{σ:St}{H:Hp}(Pv:Nat->St->Hp->Prop)(h0:Pv 0 σ H)
  (hs:∀i σ H,i<n->Pv i σ H->g (.int (lo+i)) σ H λσ2 H2=>tb { D with nx:=Pv (i+1),ct:=Pv (i+1),bk:=D.nx } σ2 H2) (hd:∀σ H,Pv n σ H->D.nx σ H) :
  ∃W:Nat->Nat->St->Hp->Prop,(∃m,W 0 m σ H)/\∀i m σ H,W i m σ H->
   ((JB lo n).stop i H/\D.nx σ H)\/((JB lo n).go i H/\∃N:St->Hp->Prop,(∀σ' H',N σ' H'->∃m',m'<m/\W (i+1) m' σ' H')/\∀x H',(JB lo n).JN i H x H'->g x σ H' λσ2 H2=>tb { D with nx:=N,ct:=N,bk:=D.nx } σ2 H2):=by
 refine⟨λi m σ H=>m=n-i/\i<=n/\Pv i σ H,⟨n,by simp,de _,h0⟩,?_⟩
 rintro i m σ H ⟨rfl,hi,p⟩
 by_cases iE:i<n
 ·refine .inr ⟨iE,Pv (i+1),λσ' H' p'=>⟨n-(i+1),by lia,rfl,iE,p'⟩,λx H' y=>?_⟩
  obtain⟨e,y⟩:=y
  subst e y
  exact hs i σ _ iE p
 ·have e:i=n:=by lia
  subst e
  exact .inl ⟨bj _,hd σ H p⟩
end L2
namespace L2
open PySem PySem.Spec PyProof.Rows
abbrev R2:=V->V->Hp->VK->Prop
def pG(X:Cx)(f:Value->Value->Sem Value)(r:R2):Prop:=
 ∀(pins:List (Addr×Obj)) (s:Shared) (σ:St) (H:Hp) (x y:V) (v u:Value) (Q:VK),Inv X pins σ H s->RelV x v->RelV y u->r x y H Q->
  wpAny (model X.prog X.w) X.A (f v u) (EP X pins σ Q) X.xe s
def UnR(X:Cx)(f:Value->Sem Value)(r:V->Hp->VK->Prop):Prop:=
 ∀(pins:List (Addr×Obj)) (s:Shared) (σ:St) (H:Hp) (x:V) (v:Value) (Q:VK),Inv X pins σ H s->RelV x v->r x H Q->
  wpAny (model X.prog X.w) X.A (f v) (EP X pins σ Q) X.xe s
def fz(X:Cx)(f:Value)(r:List V->Hp->VK->Prop):Prop:=
 ∀(pins:List (Addr×Obj)) (s:Shared) (σ:St) (H:Hp) (xs:List V) (us:List Value) (Q:VK),Inv X pins σ H s->Vals xs us->r xs H Q->
  wpAny (model X.prog X.w) X.A (call f us) (EP X pins σ Q) X.xe s
def Pp(r:R2)(ta tb:TE):TE:=λσ H Q=>ta σ H λx H1=>tb σ H1 λy H2=>r x y H2 Q
def tUn(r:V->Hp->VK->Prop)(ta:TE):TE:=λσ H Q=>ta σ H λx H1=>r x H1 Q
def rI(C:Int->Int->Prop)(g:Int->Int->V):R2:=λx y H Q=>∃i j,x=.int i/\y=.int j/\C i j/\Q (g i j) H
def Qn(g:Int->Int->V):R2:=λx y H Q=>∃i j,x=.int i/\y=.int j/\Q (g i j) H
def rU(g:Int->V):V->Hp->VK->Prop:=λx H Q=>∃i,x=.int i/\Q (g i) H
section
variable {X:Cx}{a b c:Expr}{ta tb tc:TE}{pos:Pos}
theorem aAE(ha:PE X a ta)(hb:PE X b tb){pins:List (Addr×Obj)}{s:Shared}{σ:St}{H:Hp}{R:V->V->Hp->Prop}(I:Inv X pins σ H s)
  (h:ta σ H λx H1=>tb σ H1 λy H2=>R x y H2) {Q:Value->Shared->Prop} {f:Value->Value->Sem Value}
  (hf:∀v u s2 x y H2,Inv X pins σ H2 s2->RelV x v->RelV y u->R x y H2->wpAny (model X.prog X.w) X.A (f v u) Q X.xe s2) :
  wpAny (model X.prog X.w) X.A (eval a X.env) (λv s₁=>wpAny (model X.prog X.w) X.A (eval b X.env) (λu s₂=>wpAny (model X.prog X.w) X.A (f v u) Q X.xe s₂) X.xe s₁) X.xe s:=by
 refine cT (ha pins s σ H _ I h) λv s1 ⟨x,H1,I1,r1,q1⟩=>?_
 refine cT (hb pins s1 σ H1 _ I1 q1) λu s2 ⟨y,H2,I2,r2,q2⟩=>?_
 exact hf v u s2 x y H2 I2 r1 r2 q2
theorem aBi{op:Operator}{r:R2}(ho:pG X (binaryOp op) r)(ha:PE X a ta)(hb:PE X b tb):PE X (.BinOp a op b pos) (Pp r ta tb):=by
 intro pins s σ H Q I h
 exact wpAny_BinOp (aAE ha hb I h λv u s2 x y H2 I2 rx ry q=>ho pins s2 σ H2 x y v u Q I2 rx ry q)
theorem aBh{op:UnaryOp}{r:V->Hp->VK->Prop}(ho:UnR X (unaryOp op) r)(ha:PE X a ta):PE X (.UnaryOp op a pos) (tUn r ta):=by
 intro pins s σ H Q I h
 exact UnaryOp_ (cT (ha pins s σ H _ I h) λv s1 ⟨x,H1,I1,r1,q1⟩=>ho pins s1 σ H1 x v Q I1 r1 q1)
theorem opI{f:Value->Value->Sem Value}{C:Int->Int->Prop}{g:Int->Int->Int}
  (rule:∀(i j:Int) (t u:Tok) (s:Shared) (Q:Value->Shared->Prop) (E:Value->Shared->Prop),C i j->Q (.int (g i j) s.toks) { s with toks:=s.toks+1 }->wpAny (model X.prog X.w) X.A (f (.int i t) (.int j u)) Q E s) :
  pG X f (rI C λi j=>.int (g i j)):=by
 intro pins s σ H x y v u Q I rx ry h
 obtain⟨i,j,rfl,rfl,hc,q⟩:=h
 obtain⟨t,rfl⟩:=rx
 obtain⟨t',rfl⟩:=ry
 exact rule i j t t' s _ _ hc ⟨.int (g i j),H,I.tok _,⟨_,rfl⟩,q⟩
theorem aBp{f:Value->Value->Sem Value}{g:Int->Int->Int}
  (rule:∀(i j:Int) (t u:Tok) (s:Shared) (Q:Value->Shared->Prop) (E:Value->Shared->Prop),Q (.int (g i j) s.toks) { s with toks:=s.toks+1 }->wpAny (model X.prog X.w) X.A (f (.int i t) (.int j u)) Q E s) :
  pG X f (Qn λi j=>.int (g i j)):=by
 intro pins s σ H x y v u Q I rx ry h
 obtain⟨i,j,rfl,rfl,q⟩:=h
 obtain⟨t,rfl⟩:=rx
 obtain⟨t',rfl⟩:=ry
 exact rule i j t t' s _ _ ⟨.int (g i j),H,I.tok _,⟨_,rfl⟩,q⟩
theorem V2{f:Value->Value->Sem Value}{g:Int->Int->Bool}
  (rule:∀(i j:Int) (t u:Tok) (s:Shared) (Q:Value->Shared->Prop) (E:Value->Shared->Prop),Q (.bool (g i j)) s->wpAny (model X.prog X.w) X.A (f (.int i t) (.int j u)) Q E s) :
  pG X f (Qn λi j=>.bl (g i j)):=by
 intro pins s σ H x y v u Q I rx ry h
 obtain⟨i,j,rfl,rfl,q⟩:=h
 obtain⟨t,rfl⟩:=rx
 obtain⟨t',rfl⟩:=ry
 exact rule i j t t' s _ _ ⟨.bl (g i j),H,I,rfl,q⟩
def aCo(i j:Int):Prop:=0<=j/\j<=1000000/\i.natAbs<2 ^ 64
def m4(i j:Int):Prop:=(-(2 ^ 64)<i/\i<2 ^ 64)\/(-(2 ^ 64)<j/\j<2 ^ 64)
theorem m4.ok{i j:Int}(h:m4 i j):IntMulOk i j:=by
 rcases h with ⟨h1,h2⟩ | ⟨h1,h2⟩
 ·exact .of_left (intBits_le_64 h1 h2)
 ·exact .of_right (intBits_le_64 h1 h2)
theorem iz:pG X (binaryOp .Add) (Qn λi j=>.int (i+j)):=aBp λ_ _ _ _ _ _ _ q=>add_int q
theorem Hw:pG X (binaryOp .Sub) (Qn λi j=>.int (i-j)):=aBp λ_ _ _ _ _ _ _ q=>sub_int q
theorem qI:pG X (binaryOp .Mult) (rI m4 λi j=>.int (i*j)):=opI λ_ _ _ _ _ _ _ hc q=>mul_int q hc.ok
theorem oo:pG X (binaryOp .Mod) (rI (λ_ j=>0<j) λi j=>.int (i%j)):=opI λi j _ _ _ _ _ hc q=>by
 have h1:(0:Int)<j:=hc
 exact mod_int' (by lia) (by rw[Int.fmod_eq_emod_of_nonneg i (by lia)];exact q)
theorem Bs:pG X (binaryOp .Pow) (rI aCo λi j=>.int (i ^ j.toNat)):=opI λ_ _ _ _ _ _ _ hc q=>pow_int_small hc.1 hc.2.1 hc.2.2 q
theorem unI{f:Value->Sem Value}{g:Int->Int}
  (rule:∀(i:Int) (t:Tok) (s:Shared) (Q:Value->Shared->Prop) (E:Value->Shared->Prop),Q (.int (g i) s.toks) { s with toks:=s.toks+1 }->wpAny (model X.prog X.w) X.A (f (.int i t)) Q E s) :
  UnR X f (rU λi=>.int (g i)):=by
 intro pins s σ H x v Q I rx h
 obtain⟨i,rfl,q⟩:=h
 obtain⟨t,rfl⟩:=rx
 exact rule i t s _ _ ⟨.int (g i),H,I.tok _,⟨_,rfl⟩,q⟩
theorem Yu:UnR X (unaryOp .USub) (rU λi=>.int (-i)):=unI λ_ _ _ _ _ q=>neg_int q
end
def Qa:V->V->Bool
 | .non,.non=>true | .non,.int _=>true | .int _,.non=>true | .non,.bl _=>true | .bl _,.non=>true | .non,.str _=>true | .str _,.non=>true
 | .int _,.int _=>true | .bl _,.bl _=>true | .str _,.str _=>true | .Ov _,.Ov _=>true
 | .int _,.str _=>true | .str _,.int _=>true | .bl _,.str _=>true | .str _,.bl _=>true
 | _,_=>false
def rEq:R2:=λx y H Q=>Qa x y=true/\Q (.bl (decide (x=y))) H
def rNe:R2:=λx y H Q=>Qa x y=true/\Q (.bl (!decide (x=y))) H
theorem KZ{i j:Int}:decide (V.int i=V.int j)=(i==j):=by
 rw[nI]
 simp
theorem S'{i j:Bool}:decide (V.bl i=V.bl j)=(i==j):=by
 rw[nI]
 simp
theorem KY{i j:Str}:decide (V.str i=V.str j)=(i==j):=by
 rw[nI]
 simp
theorem K0{i j:Array UInt8}:decide (V.Ov i=V.Ov j)=(i.toList==j.toList):=by
 rw[nI]
 cases i
 cases j
 simp
section
variable {X:Cx}{a b c:Expr}{ta tb tc:TE}{pos:Pos}
theorem cv{pins:List (Addr×Obj)}{σ:St}{H:Hp}{s:Shared}{Q:VK}{k k':Bool}(I:Inv X pins σ H s)(q:Q (.bl k) H)(e:k=k'):EP X pins σ Q (.bool k') s:=by
 subst e
 exact⟨.bl k,H,I,rfl,q⟩
theorem sF:pG X (compareOp .Eq) rEq:=by
 intro pins s σ H x y v u Q I rx ry h
 obtain⟨hs,q⟩:=h
 cases x with
 | non=>
  cases rx
  cases y with
  | non=>cases ry;exact PySem.EqNone.eq_none_none (cv I q (by simp))
  | bl j=>cases ry;exact PySem.EqNone.eq_none_bool (cv I q (by simp))
  | int j=>obtain⟨t',rfl⟩:=ry;exact PySem.EqNone.eq_none_int (cv I q (by simp))
  | str j=>obtain⟨t',rfl⟩:=ry;exact PySem.EqNone.eq_none_str (cv I q (by simp))
  | _=>exact absurd (show false=true from hs) gb
 | bl i=>
  cases rx
  cases y with
  | non=>cases ry;exact PySem.EqNone.eq_bool_none (cv I q (by simp))
  | bl j=>cases ry;exact eq_bool (cv I q S')
  | str j=>obtain⟨t',rfl⟩:=ry;exact PySem.EqMixed.eq_bool_str (cv I q (by simp))
  | _=>exact absurd (show false=true from hs) gb
 | int i=>
  obtain⟨t,rfl⟩:=rx
  cases y with
  | non=>cases ry;exact PySem.EqNone.eq_int_none (cv I q (by simp))
  | int j=>obtain⟨t',rfl⟩:=ry;exact eq_int (cv I q KZ)
  | str j=>obtain⟨t',rfl⟩:=ry;exact PySem.EqMixed.eq_int_str (cv I q (by simp))
  | _=>exact absurd (show false=true from hs) gb
 | str i=>
  obtain⟨t,rfl⟩:=rx
  cases y with
  | non=>cases ry;exact PySem.EqNone.eq_str_none (cv I q (by simp))
  | bl j=>cases ry;exact PySem.EqMixed.eq_str_bool (cv I q (by simp))
  | int j=>obtain⟨t',rfl⟩:=ry;exact PySem.EqMixed.eq_str_int (cv I q (by simp))
  | str j=>obtain⟨t',rfl⟩:=ry;exact eq_str (cv I q KY)
  | _=>exact absurd (show false=true from hs) gb
 | Ov i=>
  obtain⟨t,rfl⟩:=rx
  cases y with
  | Ov j=>obtain⟨t',rfl⟩:=ry;exact PySem.W.eq_bytes (cv I q K0)
  | _=>exact absurd (show false=true from hs) gb
 | _=>cases y <;> exact absurd (show false=true from hs) gb
theorem Xv:pG X (compareOp .NotEq) rNe:=by
 intro pins s σ H x y v u Q I rx ry h
 obtain⟨hs,q⟩:=h
 cases x with
 | non=>
  cases rx
  cases y with
  | non=>cases ry;exact PySem.EqNone.ne_none_none (cv I q (by simp))
  | bl j=>cases ry;exact PySem.EqNone.ne_none_bool (cv I q (by simp))
  | int j=>obtain⟨t',rfl⟩:=ry;exact PySem.EqNone.ne_none_int (cv I q (by simp))
  | str j=>obtain⟨t',rfl⟩:=ry;exact PySem.EqNone.ne_none_str (cv I q (by simp))
  | _=>exact absurd (show false=true from hs) gb
 | bl i=>
  cases rx
  cases y with
  | non=>cases ry;exact PySem.EqNone.ne_bool_none (cv I q (by simp))
  | bl j=>cases ry;exact ne_bool (cv I q (fD not S'))
  | str j=>obtain⟨t',rfl⟩:=ry;exact PySem.EqMixed.ne_bool_str (cv I q (by simp))
  | _=>exact absurd (show false=true from hs) gb
 | int i=>
  obtain⟨t,rfl⟩:=rx
  cases y with
  | non=>cases ry;exact PySem.EqNone.ne_int_none (cv I q (by simp))
  | int j=>obtain⟨t',rfl⟩:=ry;exact ne_int (cv I q (fD not KZ))
  | str j=>obtain⟨t',rfl⟩:=ry;exact PySem.EqMixed.ne_int_str (cv I q (by simp))
  | _=>exact absurd (show false=true from hs) gb
 | str i=>
  obtain⟨t,rfl⟩:=rx
  cases y with
  | non=>cases ry;exact PySem.EqNone.ne_str_none (cv I q (by simp))
  | bl j=>cases ry;exact PySem.EqMixed.ne_str_bool (cv I q (by simp))
  | int j=>obtain⟨t',rfl⟩:=ry;exact PySem.EqMixed.ne_str_int (cv I q (by simp))
  | str j=>obtain⟨t',rfl⟩:=ry;exact ne_str (cv I q (fD not KY))
  | _=>exact absurd (show false=true from hs) gb
 | Ov i=>
  obtain⟨t,rfl⟩:=rx
  cases y with
  | Ov j=>obtain⟨t',rfl⟩:=ry;exact PySem.W.ne_bytes (cv I q (fD not K0))
  | _=>exact absurd (show false=true from hs) gb
 | _=>cases y <;> exact absurd (show false=true from hs) gb
theorem Rc:pG X (compareOp .Lt) (Qn λi j=>.bl (decide (i<j))):=V2 λ_ _ _ _ _ _ _ q=>lt_int q
theorem aBn:pG X (compareOp .LtE) (Qn λi j=>.bl (decide (i<=j))):=V2 λ_ _ _ _ _ _ _ q=>le_int q
theorem Rg:pG X (compareOp .Gt) (Qn λi j=>.bl (decide (j<i))):=V2 λ_ _ _ _ _ _ _ q=>gt_int q
theorem aBo:pG X (compareOp .GtE) (Qn λi j=>.bl (decide (j<=i))):=V2 λ_ _ _ _ _ _ _ q=>ge_int q
theorem dA(b:Expr){op:CmpOp}(h:op≠.In:=by decide)(h2:op≠.NotIn:=by decide):behindInMarks op b=false:=by
 have e1:(op==CmpOp.In)=false:=by cases op <;> first | rfl | exact absurd rfl h
 have e2:(op==CmpOp.NotIn)=false:=by cases op <;> first | rfl | exact absurd rfl h2
 cases b <;> simp[behindInMarks,e1,e2]
theorem VP{op:CmpOp}{r:R2}(ho:pG X (compareOp op) r)(ha:PE X a ta)(hb:PE X b tb)(hm:behindInMarks op b=false):PE X (.Compare a [op] [b] pos) (Pp r ta tb):=by
 intro pins s σ H Q I h
 exact wpAny_Compare1 (aAE ha hb I h λv u s2 x y H2 I2 rx ry q=>ho pins s2 σ H2 x y v u Q I2 rx ry q) hm
def Dl(t:TE):TT:=λσ H Q=>t σ H λx H'=>∃k,x=.bl k/\Q k H'
theorem Vp{op:CmpOp}{r:R2}(ho:pG X (compareOp op) r)(ha:PE X a ta)(hb:PE X b tb)(hm:behindInMarks op b=false):PT X (.Compare a [op] [b] pos) (Dl (Pp r ta tb)):=by
 intro pins s σ H Q I h
 refine wpAny_isTrue_Compare1 (cT (ha pins s σ H _ I h) λv s1 ⟨x,H1,I1,r1,q1⟩=>cT (hb pins s1 σ H1 _ I1 q1) λu s2 ⟨y,H2,I2,r2,q2⟩=>
  cT (ho pins s2 σ H2 x y v u _ I2 r1 r2 q2) λc s3 ⟨z,H3,I3,r3,k,e,q3⟩=>?_) hm
 subst e
 cases r3
 exact wA ⟨H3,I3,q3⟩
theorem xu:(sizeLine:Nat)<2 ^ 63:=by rw[mn];decide
theorem vals1{x:V}{us:List Value}(r:Vals [x] us):∃u,us=[u]/\RelV x u:=by
 cases r with
 | cons r1 r2=>cases r2;exact⟨_,rfl,r1⟩
theorem Tt:fz X (.builtin "abs") (λxs H Q=>∃i,xs=[.int i]/\Q (.int (if i<0 then -i else i)) H):=by
 intro pins s σ H xs us Q I r h
 obtain⟨i,rfl,q⟩:=h
 obtain⟨u,rfl,t,rfl⟩:=vals1 r
 exact call_abs_int λu tk=>⟨.int (if i<0 then -i else i),H,I.tok _,⟨_,rfl⟩,q⟩
end
end L2
namespace L2
open PySem PySem.Spec PyProof.Rows
structure Jz(h:Heap)(x dx C:Addr)(mA:Str->Option Value):Prop where
 obj:h.get? x=some (PySem.W.instObj C dx)
 ns:h.Ns1 dx mA
 ne:dx≠x
theorem M6{h:Heap}{dx:Addr}{mA:Str->Option Value}(n:h.Ns1 dx mA):∃od,h.get? dx=some od/\∀name,PySem.W.lookIn name od=some (mA name):=by
 obtain⟨o,es,ep,ho,hd,hk,_,hm⟩:=n
 refine⟨o,ho,λname=>?_⟩
 have e:=hm name
 unfold nsFind findBy at e
 rw[<-Array.find?_toList]at e
 unfold PySem.W.lookIn
 rw[hd]
 dsimp only
 split
 ·rename_i y q
  rw[q]at e
  exact fD some e
 ·rename_i q
  rw[q]at e
  have a:es.toList.any (·.refKey)=false:=by
   rw[List.any_eq_false]
   intro y hy
   obtain⟨z,t,hkey⟩:=hk y (Array.mem_toList_iff.mp hy)
   simp[DictEntry.refKey,hkey]
  have a':¬es.toList.any (·.refKey)=true:=by rw[a];exact gb
  rw[aE a']
  exact fD some e
theorem Jz.look{h:Heap}{x dx C:Addr}{mA:Str->Option Value}(I:Jz h x dx C mA):∃od,PySem.W.InstAt h x (PySem.W.instObj C dx) C (some od)/\∀name,PySem.W.lookIn name od=some (mA name):=
 let ⟨od,ho,hl⟩:=M6 I.ns
 ⟨od,⟨I.obj,rfl,rfl,ho⟩,hl⟩
section
variable {prog:Program}{w:World}{A:Around}{E:Value->Shared->Prop}{s:Shared}{K:PySem.W.Frag}{x dx C f:Addr}{mA:Str->Option Value}{name:Str}{v:Value}
theorem get_map{expr:Bool}{Q:Value->Shared->Prop}(X:K.In s.heap)(I:Jz s.heap x dx C mA)(hg:PySem.W.plainGet K C name=true)(hh:PySem.W.hasDictIn K C=true)
  (ha:PySem.W.findIn K (.ref C) name=some none) (hv:mA name=some v) (Wk:PySem.W.handedIn v=true) (h:Q v { s with toks:=s.toks+1 }) :
  wpAny (model prog w) A (getAttr (.ref x) name expr) Q E s:=by
 obtain⟨od,J,hl⟩:=I.look
 exact PySem.W.get_value X J (Gu hg).1 (PySem.W.findObj_own hh ha rfl (by rw[hl,hv])) Wk h
theorem Sw{pl:Sem Bool}{Q:Value×List Value->Shared->Prop}(X:K.In s.heap)(I:Jz s.heap x dx C mA)(hg:PySem.W.plainGet K C name=true)
  (hf:PySem.W.findIn K (.ref C) name=some (some (.ref f))) (ht:PySem.W.isFn K (.ref f)=true) (hv:mA name=none) (h:Q (.ref f,[.ref x]) s) :
  wpAny (model prog w) A (getMethod (.ref x) name pl) Q E s:=by
 obtain⟨od,J,hl⟩:=I.look
 exact PySem.W.method_fn X J (Gu hg).1 (Gu hg).2 hf (beq_iff_eq.mp ht) (by show(PySem.W.lookIn name od).map (·.isSome)=some false;rw[hl,hv];rfl) h
theorem U5{ns:List Str}{Q:Unit->Shared->Prop}(X:K.In s.heap)(I:Jz s.heap x dx C mA)
  (hs:PySem.W.findIn K (.ref C) "__setattr__" = some (some (.builtin "object.__setattr__"))) (hp:PySem.W.plainOver K C=true) (ht:PySem.W.takerIn K C name=some none) (hh:PySem.W.hasDictIn K C=true)
  (hw:PySem.Within mA ns) (hsz:ns.length<=sizeLine)
  (h:∀h',Jz h' x dx C (λy=>if y=name then some v else mA y)->Heap.SameBut dx s.heap h'->Q () { s with heap:=h',toks:=s.toks+2 }) :
  wpAny (model prog w) A (setAttr (.ref x) name v) Q E s:=by
 obtain⟨od,J,hl⟩:=I.look
 refine PySem.W.set_plain X J hs (PySem.W.osa_open (s:={ s with toks:=s.toks+1 }) (r:=none) X J hp ht λb=>?_)
 obtain⟨cd,hc,hd'⟩:=PySem.W.any_some hh
 have hx:s.heap.get? x=some ⟨.ref C,some dx,.plain,#[]⟩:=I.obj
 refine av (aK (av (av (wpAny_loadPart hx (av (PySem.W.Looks.here (s:={ s with toks:=s.toks+1 }) (PySem.W.looks_clsIn X hc) ?_))))))
 rw[hd']
 refine aK (a:=some dx) (av (aK (av ?_)))
 refine wpAny_nsSet1 (s:={ s with toks:=s.toks+1 }) I.ns λh' Oj hs2=>?_
 obtain⟨oD,esD,epD,hoD,hdD,hcD⟩:=Oj.count (PySem.Within.cons name v hw)
 refine av (wpAny_lookBehind hoD (by rw[hdD];exact pastItsLine_dict (cQ hcD (by rw[eV];lia))) ?_)
 exact aK (h _ ⟨(hs2.2 _ (eK I.ne)).trans I.obj,Oj,I.ne⟩ hs2)
theorem RB{R:Result->Shared->Prop}{vs:List Value}{kw:List (Str×Value)}(X:K.In s.heap)(hm:PySem.W.makesIn K C=true)
  (hi:PySem.W.findIn K (.ref C) "__init__" = some (some (.ref f))) (hf:PySem.W.typeIn K (.ref f)=some (.type "function"))
  (h:codeAny (model prog w) (A.under (.builtin "type.__call__" ⟨.ref C::vs,kw⟩)) (.call (.ref f) ⟨.ref (s.heap.objs.size+1)::vs,kw⟩) (PySem.W.InitBack (s.heap.objs.size+1) R)
   { s with heap:=(s.heap.push PySem.W.emptyDict).push (PySem.W.instObj C s.heap.objs.size) }) :
  codeAny (model prog w) A (.call (.ref C) ⟨vs,kw⟩) R s:=by
 obtain⟨hh,g,d,t,os⟩:=s
 exact PySem.W.make_core (PySem.W.makes_of X hm) (Gy X hi) (λself=>PySem.W.bind_fn X self hf) (.inl rfl) h
end
def oj(f:Str)(v:V):List (Str×V)->List (Str×V)
 | []=>[(f,v)]
 | (g,x)::r=>if g=f then (g,v)::r else (g,x)::oj f v r
theorem vb(f g:Str)(v:V):∀fs:List (Str×V),(oj f v fs).lookup g=if g=f then some v else fs.lookup g
 | []=>by
  show List.lookup g [(f,v)]=_
  by_cases h:g=f
  ·have hb:(g==f)=true:=beq_iff_eq.mpr h
   simp only[List.lookup,hb,ay h]
  ·have hb:(g==f)=false:=uS.mpr h
   simp only[List.lookup,hb,aE h]
 | (k,x)::r=>by
  have ih:=vb f g v r
  rw[show oj f v ((k,x)::r)=(if k=f then (k,v)::r else (k,x)::oj f v r) from rfl]
  by_cases hk:k=f
  ·rw[ay hk]
   by_cases h:g=k
   ·have hb:(g==k)=true:=beq_iff_eq.mpr h
    simp only[List.lookup,hb,ay (h.trans hk)]
   ·have hb:(g==k)=false:=uS.mpr h
    simp only[List.lookup,hb,aE (λe:g=f=>h (e.trans hk.symm))]
  ·rw[aE hk]
   by_cases h:g=k
   ·have hb:(g==k)=true:=beq_iff_eq.mpr h
    simp only[List.lookup,hb,aE (λe:g=f=>hk (h.symm.trans e))]
   ·have hb:(g==k)=false:=uS.mpr h
    simp only[List.lookup,hb]
    exact ih
theorem uw(f:Str)(v:V):∀fs:List (Str×V),f∈(oj f v fs).map (·.1)/\∀g,g∈fs.map (·.1)->g∈(oj f v fs).map (·.1)
 | []=>⟨by simp[oj],λg h=>by simp at h⟩
 | (k,x)::r=>by
  obtain⟨i1,i2⟩:=uw f v r
  rw[show oj f v ((k,x)::r)=(if k=f then (k,v)::r else (k,x)::oj f v r) from rfl]
  by_cases hk:k=f
  ·rw[ay hk]
   subst hk
   exact⟨by simp,λg h=>by simpa using h⟩
  ·rw[aE hk]
   refine⟨?_,λg h=>?_⟩
   ·rw[dZ]
    exact cV _ i1
   ·rw[dZ]at h ⊢
    rcases bJ.mp h with e | e
    ·exact bJ.mpr (.inl e)
    ·exact cV _ (i2 g e)
theorem vd(f:Str)(v:V):∀fs:List (Str×V),(oj f v fs).length<=fs.length+1
 | []=>by simp[oj]
 | (k,x)::r=>by
  have ih:=vd f v r
  rw[show oj f v ((k,x)::r)=(if k=f then (k,v)::r else (k,x)::oj f v r) from rfl]
  by_cases hk:k=f
  ·rw[ay hk,eV,eV];lia
  ·rw[aE hk,eV,eV];lia
theorem pF.some_of{v:V}{o:Option Value}(r:pF (some v) o):∃u,o=some u/\RelV v u:=by
 cases o with
 | none=>exact(show False from r).elim
 | some u=>exact⟨u,rfl,r⟩
theorem pF.none_of{o:Option Value}(r:pF none o):o=none:=by
 cases o with
 | none=>rfl
 | some u=>exact(show False from r).elim
theorem Nu{v:V}{u:Value}(r:RelV v u):PySem.W.handedIn u=true:=by
 cases v with
 | non=>cases (show u=Value.none from r);rfl
 | bl b=>cases (show u=Value.bool b from r);rfl
 | int i=>obtain⟨t,e⟩:=(show ∃t,u=Value.int i t from r);cases e;rfl
 | str x=>obtain⟨t,e⟩:=(show ∃t,u=Value.str x t from r);cases e;rfl
 | Ov b=>obtain⟨t,e⟩:=(show ∃t,u=Value.bytes b t from r);cases e;rfl
 | flt b=>obtain⟨t,e⟩:=(show ∃t,u=Value.float b t from r);cases e;rfl
 | ref a=>cases (show u=Value.ref a from r);rfl
 | ty n=>cases (show u=Value.type n from r);rfl
section
variable {P:Program}{w:World}{H H':Hp}{h h':Heap}{a C dx:Addr}{fs fs':List (Str×V)}
theorem sU(bz:iQ P w H h)(e:H a=some (.ins C dx fs)):∃mA,Jz h a dx C mA/\(∀f,pF (fs.lookup f) (mA f))/\PySem.Within mA (fs.map (·.1))/\fs.length<=1000/\H dx=some (.own a):=by
 obtain⟨d,z,ne,ob,mA,n,r,q⟩:=(show dy P w H h a (.ins C dx fs) from bz a _ e)
 exact⟨mA,⟨ob,n,ne⟩,r,q,z,d⟩
end
structure Cls(K:PySem.W.Frag)(C:Addr):Prop where
 pg:PySem.W.plainGet K C Str.empty=true
 hd:PySem.W.hasDictIn K C=true
 po:PySem.W.plainOver K C=true
 sa:PySem.W.findIn K (.ref C) "__setattr__" = some (some (.builtin "object.__setattr__"))
theorem Cls.get{K:PySem.W.Frag}{C:Addr}(c:Cls K C)(f:Str):PySem.W.plainGet K C f=true:=c.pg
def jr(K:PySem.W.Frag)(C:Addr)(f:Str):Prop:=PySem.W.findIn K (.ref C) f=some none
theorem jr.aAQ{K:PySem.W.Frag}{C:Addr}{f:Str}(n:jr K C f):PySem.W.takerIn K C f=some none:=by
 unfold PySem.W.takerIn
 rw[show PySem.W.findIn K (.ref C) f=some none from n]
 rfl
structure Meth(K:PySem.W.Frag)(C:Addr)(m:Str)(f:Addr):Prop where
 at_:PySem.W.findIn K (.ref C) m=some (some (.ref f))
 fn:PySem.W.isFn K (.ref f)=true
 kp:PySem.W.keepIn K (.ref f)=true
section
variable {X:Cx}{pins:List (Addr×Obj)}{σ:St}{H:Hp}{s:Shared}{a C dx:Addr}{fs:List (Str×V)}{f:Str}{v:V}{A:Around}{E:Value->Shared->Prop}
theorem xI{b:Bool}{Q:Value->Shared->Prop}(I:Inv X pins σ H s)(e:H a=some (.ins C dx fs))(c:Cls X.K C)(n:jr X.K C f)(l:fs.lookup f=some v)
  (h:∀u s',Inv X pins σ H s'->RelV v u->Q u s'):wpAny (model X.prog X.w) A (getAttr (.ref a) f b) Q E s:=by
 obtain⟨mA,O,r,_,_,_⟩:=sU I.bz e
 obtain⟨u,hu,ru⟩:=pF.some_of (v:=v) (o:=mA f) (by rw[<-l];exact r f)
 exact get_map I.nH O (c.get f) c.hd n hu (Nu ru) (h u _ (I.tok _) ru)
theorem xH{m:Str}{g:Addr}{pl:Sem Bool}{Q:Value×List Value->Shared->Prop}(I:Inv X pins σ H s)(e:H a=some (.ins C dx fs))(c:Cls X.K C)(k:Meth X.K C m g)(l:fs.lookup m=none)
  (h:Q (.ref g,[.ref a]) s):wpAny (model X.prog X.w) A (getMethod (.ref a) m pl) Q E s:=by
 obtain⟨mA,O,r,_,_,_⟩:=sU I.bz e
 have hn:mA m=none:=pF.none_of (by rw[<-l];exact r m)
 exact Sw I.nH O (c.get m) k.at_ k.fn hn h
theorem Hi{y:V}{u:Value}{Q:Unit->Shared->Prop}(I:Inv X pins σ H s)(e:H a=some (.ins C dx fs))(c:Cls X.K C)(n:jr X.K C f)(hl:fs.length<1000)(ry:RelV y u)
  (h:∀s',Inv X pins σ (upd H a (.ins C dx (oj f y fs))) s'->Q () s'):wpAny (model X.prog X.w) A (setAttr (.ref a) f u) Q E s:=by
 obtain⟨mA,O,r,wi,_,ho⟩:=sU I.bz e
 have hz:(fs.map (·.1)).length<=sizeLine:=by rw[aM,mn];lia
 refine U5 I.nH O c.sa c.po n.aAQ c.hd wi hz λh' O' sb=>h _ ?_
 have hd:∃o,h'.get? dx=some o:=let ⟨o,_,_,e',_⟩:=O'.ns;⟨o,e'⟩
 refine I.write (x:=a) (e:=dx) (by rw[e];exact True.intro) (.inr ho) (λb q hb z=>(sb.2 b hb).trans z) hd ?_
 refine⟨by rw[au O.ne];exact ho,?_,O.ne,O'.obj,_,O'.ns,λg=>?_,λg hg=>?_⟩
 ·have:=vd f y fs;lia
 ·show pF ((oj f y fs).lookup g) (if g=f then some u else mA g)
  rw[vb]
  by_cases q:g=f
  ·rw[ay q,ay q];exact ry
  ·rw[aE q,aE q];exact r g
 ·by_cases q:g=f
  ·rw[q];exact(uw f y fs).1
  ·refine(uw f y fs).2 g (wi g λz=>hg ?_)
   show(if g=f then some u else mA g)=none
   rw[aE q];exact z
theorem Inv.made(I:Inv X pins σ H s):Inv X pins σ (upd (upd H s.heap.objs.size (.own (s.heap.objs.size+1))) (s.heap.objs.size+1) (.ins C s.heap.objs.size []))
  { s with heap:=(s.heap.push PySem.W.emptyDict).push (PySem.W.instObj C s.heap.objs.size) }:=by
 have e1:(s.heap.push PySem.W.emptyDict).get? s.heap.objs.size=some PySem.W.emptyDict:=cC s.heap rfl
 have e2:((s.heap.push PySem.W.emptyDict).push (PySem.W.instObj C s.heap.objs.size)).get? (s.heap.objs.size+1)=some (PySem.W.instObj C s.heap.objs.size):=by
  have:=cC (s.heap.push PySem.W.emptyDict) (o:=PySem.W.instObj C s.heap.objs.size) rfl
  rwa [lz]at this
 have e3:(s.heap.push PySem.W.emptyDict).Ns s.heap.objs.size (λ_=>none):=⟨PySem.W.emptyDict,#[],_,e1,rfl,(λe he=>absurd he (by simp)),λ_=>rfl⟩
 have I1:=I.laid (a:=s.heap.objs.size) (o:=.own (s.heap.objs.size+1)) (h':=s.heap.push PySem.W.emptyDict) (t':=s.toks) (λb u q=>bN _ q) (bj _) ⟨_,e1⟩
 refine I1.laid (a:=s.heap.objs.size+1) (o:=.ins C s.heap.objs.size []) (t':=s.toks) (λb u q=>bN _ q) (Nat.le_of_eq (lz _ _)) ?_
 have ne:s.heap.objs.size≠s.heap.objs.size+1:=bf (nP _)
 refine⟨by rw[au ne,ai],de _,ne,e2,λ_=>none,(Heap.Ns1.of_empty e3).at λo q=>bN _ q,λ_=>True.intro,λy hy=>absurd rfl hy⟩
theorem Xa{prog:Program}{w:World}{env:Env}{e:Expr}{f:Str}{pos:Pos}{s:Shared}{Q:Value->Shared->Prop}(hb:attributeBase e f env (eval e env)=eval e env)
  (h:wpAny (model prog w) A (eval e env) (λo s₁=>wpAny (model prog w) A (getAttr o f true) Q E s₁) E s):wpAny (model prog w) A (eval (.Attribute e f pos) env) Q E s:=
 Attribute_any_ h (by rw[arm_eval_Attribute,hb])
end
def Uw(K:PySem.W.Frag)(ta:TE)(f:Str):TE:=λσ H Q=>ta σ H λx H1=>∃a C dx fs v,x=.ref a/\H1 a=some (.ins C dx fs)/\Cls K C/\jr K C f/\fs.lookup f=some v/\Q v H1
def U8(K:PySem.W.Frag)(ta tv:TE)(f:Str):TS:=λD σ H=>tv σ H λy H1=>ta σ H1 λx H2=>∃a C dx fs,x=.ref a/\H2 a=some (.ins C dx fs)/\Cls K C/\jr K C f/\fs.length<1000/\
 D.nx σ (upd H2 a (.ins C dx (oj f y fs)))
section
variable {X:Cx}{o e value:Expr}{f:Str}{pos pos' Ph:Pos}{ta tv:TE}
theorem Zz(he:PE X e ta)(hb:attributeBase e f X.env (eval e X.env)=eval e X.env):PE X (.Attribute e f pos) (Uw X.K ta f):=by
 intro pins s σ H Q I h
 refine Xa hb (cT (he pins s σ H _ I h) λu s1 ⟨x,H1,I1,rx,a,C,dx,fs,v,ex,ea,c,n,l,q⟩=>?_)
 subst ex
 obtain rfl:u=Value.ref a:=rx
 exact xI I1 ea c n l λu' s2 I2 ru=>⟨v,H1,I2,ru,q⟩
theorem Zj(ha:PE X o ta)(hv:PE X value tv)(hs:swapsWith value (some (.Attribute o f pos')) pos.line X.env=pure false):PS X (.Assign [.Attribute o f pos'] value pos) (U8 X.K ta tv f):=by
 intro pins s σ H D I h
 refine plainObj_wpAny_Assign_Attribute (cT (hv pins s σ H _ I h) λu s1 ⟨y,H1,I1,ry,q⟩=>cT (ha pins s1 σ H1 _ I1 q) λov s2 ⟨x,H2,I2,rx,a,C,dx,fs,ex,ea,c,n,l,q2⟩=>?_) hs
 subst ex
 obtain rfl:ov=Value.ref a:=rx
 exact Hi I2 ea c n l ry λs3 I3=>⟨σ,_,I3,q2⟩
theorem Xw{pl:Sem Bool}{m:Str}{apos:Pos}{args:List Expr}{pins:List (Addr×Obj)}{s:Shared}{σ:St}{H:Hp}{Q:Value->Shared->Prop}{te:TE}(he:PE X e te)(I:Inv X pins σ H s)
  (h:te σ H λx H1=>∃a C dx fs g,x=.ref a/\H1 a=some (.ins C dx fs)/\Cls X.K C/\Meth X.K C m g/\fs.lookup m=none/\
   ∀s1,Inv X pins σ H1 s1->wpAny (model X.prog X.w) X.A (callWith pos (.ref g) [.ref a] (backTo pos (starEach args X.env)) (backToKw pos (keywordEach [] X.env))) Q X.xe s1)
  (ht:eval (.Call (.Attribute e m apos) args [] pos) X.env=(do
   let ov <-eval e X.env
   standAt apos.atName
   let (f,first) <-holding [ov] (getMethod ov m pl)
   callWith pos f first (backTo pos (starEach args X.env)) (backToKw pos (keywordEach [] X.env)))) :
  wpAny (model X.prog X.w) X.A (eval (.Call (.Attribute e m apos) args [] pos) X.env) Q X.xe s:=by
 refine Ak (pl:=pl) (cT (he pins s σ H _ I h) λu s1 ⟨x,H1,I1,rx,a,C,dx,fs,g,ex,ea,c,k,l,q⟩=>?_) ht
 subst ex
 obtain rfl:u=Value.ref a:=rx
 exact xH I1 ea c k l (q s1 I1)
end
section
variable {X:Cx}{pins:List (Addr×Obj)}{σ:St}{H:Hp}{s:Shared}{A:Around}{E:Value->Shared->Prop}{Q:Value->Shared->Prop}{c:Value}{b:Bool}
inductive tG (K:PySem.W.Frag) (H:Hp):V->Value->Prop where
 | non:tG K H .non (.type "NoneType")
 | bl (x:Bool):tG K H (.bl x) (.type "bool")
 | int (i:Int):tG K H (.int i) (.type "int")
 | str (x:Str):tG K H (.str x) (.type "str")
 | flt (x:UInt64):tG K H (.flt x) (.type "float")
 | lst {a:Addr} {xs:List V} (e:H a=some (.lst xs)):tG K H (.ref a) (.type "list")
 | zF {a:Addr} {o:Obj} {xs:List V} (e:H a=some (.zF o (.lst xs))):tG K H (.ref a) (.type "list")
 | tup {a:Addr} {xs:List V} (e:H a=some (.tup xs)):tG K H (.ref a) (.type "tuple")
 | dK {a:Addr} {aO:List (Key×V)} (e:H a=some (.dK aO)):tG K H (.ref a) (.type "dict")
 | dT {a:Addr} {aO:List (List Key×V)} (e:H a=some (.dT aO)):tG K H (.ref a) (.type "dict")
 | ins {a C dx:Addr} {fs:List (Str×V)} (e:H a=some (.ins C dx fs)) (cl:Cls K C) (ha:PySem.W.findIn K (.ref C) "__class__" = some (some (.builtin "object.__class__")))
   (hn:PySem.W.specialIn K (.builtin "object.__class__") "__get__" = some (some (.builtin "getset_descriptor.__get__"))) (htk:PySem.W.takesIn K (.builtin "object.__class__")=some true)
   (hm:PySem.W.mroIn K C (.type "object")=some true):tG K H (.ref a) (.ref C)
theorem Nh{x:V}{u t:Value}(I:Inv X pins σ H s)(rx:RelV x u)(ty:tG X.K H x t)(e:PySem.W.kitOne X.K t c=some b)(h:∀tk,Q (.bool b) { s with toks:=tk }) :
  wpAny (model X.prog X.w) A (call (.builtin "isinstance") [u,c]) Q E s:=by
 cases ty with
 | non=>cases (show u=Value.none from rx);exact nJ PySem.W.kitx_none I.nH True.intro e (λz=>nomatch z) h
 | bl y=>cases (show u=Value.bool y from rx);exact nJ PySem.W.kitx_bool I.nH True.intro e (λz=>nomatch z) h
 | int i=>obtain⟨t,q⟩:=(show ∃t,u=Value.int i t from rx);cases q;exact nJ PySem.W.kitx_int I.nH True.intro e (λz=>nomatch z) h
 | str y=>obtain⟨t,q⟩:=(show ∃t,u=Value.str y t from rx);cases q;exact nJ PySem.W.kitx_str I.nH True.intro e (λz=>nomatch z) h
 | flt y=>obtain⟨t,q⟩:=(show ∃t,u=Value.float y t from rx);cases q;exact nJ PySem.W.kitx_float I.nH True.intro e (λz=>nomatch z) h
 | @lst a xs ea=>
  cases (show u=Value.ref a from rx)
  obtain⟨_,_,n,_,h1⟩:=(show dy X.prog X.w H s.heap a (.lst xs) from I.bz a _ ea)
  exact nJ PySem.W.kitx_list I.nH ⟨_,h1,rfl⟩ e (λz=>nomatch z) h
 | @zF a ob xs ea=>
  cases (show u=Value.ref a from rx)
  obtain⟨_,_,_,n,_,h1⟩:=(show dy X.prog X.w H s.heap a (.zF ob (.lst xs)) from I.bz a _ ea)
  exact nJ PySem.W.kitx_list I.nH ⟨_,h1,rfl⟩ e (λz=>nomatch z) h
 | @tup a xs ea=>
  cases (show u=Value.ref a from rx)
  obtain⟨_,_,_,p⟩:=(show dy X.prog X.w H s.heap a (.tup xs) from I.bz a _ ea)
  obtain⟨o,h1,h2,_⟩:=p
  exact nJ PySem.W.kitx_tuple I.nH ⟨o,h1,h2⟩ e (λz=>nomatch z) h
 | @dK a aO ea=>
  cases (show u=Value.ref a from rx)
  obtain⟨_,_,vs,_,p⟩:=(show dy X.prog X.w H s.heap a (.dK aO) from I.bz a _ ea)
  obtain⟨o,es,ep,h1,h2,_⟩:=p
  exact nJ PySem.W.kitx_dict I.nH ⟨o,h1,h2.1⟩ e (λz=>nomatch z) h
 | @dT a aO ea=>
  cases (show u=Value.ref a from rx)
  obtain⟨_,_,xs,_,o,es,ep,h1,h2,_⟩:=(show dy X.prog X.w H s.heap a (.dT aO) from I.bz a _ ea)
  exact nJ PySem.W.kitx_dict I.nH ⟨o,h1,h2.1⟩ e (λz=>nomatch z) h
 | @ins a C dx fs ea cl ha hn htk hm=>
  cases (show u=Value.ref a from rx)
  obtain⟨mA,O,_⟩:=sU I.bz ea
  obtain⟨od,J,_⟩:=O.look
  exact nJ (PySem.W.kitx_own (cl.get _) cl.hd ha hn htk hm) I.nH J e (λz=>nomatch z) h
end
end L2
namespace L2
open PySem PySem.Spec PyProof.Rows
structure cJ(k:Nat)(A:Around):Prop where
 hd:A.handled=none
 dp:A.depth+3*k+5<recursionLimit
 un:A.units+16*k+200<cLine
theorem cJ.mono{j k:Nat}{A:Around}(r:cJ k A)(h:j<=k):cJ j A:=⟨r.hd,by have:=r.dp;lia,by have:=r.un;lia⟩
theorem cJ.deeper{k:Nat}{A:Around}(r:cJ (k+1) A)(env:Env):cJ k (A.deeper env):=
 ⟨r.hd,by have:=r.dp;show A.depth+1+3*k+5<_;lia,by have:=r.un;show A.units+3+16*k+200<_;lia⟩
theorem cJ.in1{k:Nat}{A:Around}(r:cJ (k+1) A):cJ k A.in1:=
 ⟨r.hd,by have:=r.dp;show A.depth+3*k+5<_;lia,by have:=r.un;show A.units+1+16*k+200<_;lia⟩
theorem HX{A:Around}{C:Addr}{us:List Value}{kw:List (Str×Value)}:(A.under (.builtin "type.__call__" ⟨.ref C::us,kw⟩)).depth=A.depth+1:=by
 first | rfl | simp[Around.under,Code.weight,Code.isCreation,Code.isGuard,Code.isCaller,Code.frames,Code.isFrame,guardIds]
theorem HW{A:Around}{C:Addr}{us:List Value}{kw:List (Str×Value)}:(A.under (.builtin "type.__call__" ⟨.ref C::us,kw⟩)).units=A.units+1:=by
 first | rfl | simp[Around.under,Code.cUnits,Code.frames,Code.isFrame]
theorem cJ.make{k:Nat}{A:Around}(r:cJ (k+1) A)(C:Addr)(us:List Value)(kw:List (Str×Value)):cJ k (A.under (.builtin "type.__call__" ⟨.ref C::us,kw⟩)):=
 ⟨r.hd,by have:=r.dp;rw[HX];lia,by have:=r.un;rw[HW];lia⟩
theorem cJ.depth{k:Nat}{A:Around}(r:cJ k A):A.depth<recursionLimit:=by have:=r.dp;lia
theorem cJ.units{k:Nat}{A:Around}(r:cJ k A):A.units+64<cLine:=by have:=r.un;lia
theorem cJ.gd{k:Nat}{A:Around}(r:cJ k A):A.units<cLine:=by have:=r.un;lia
def L5:TA:=λ_ H Q=>Q [] H
def yX(ta:TE)(tr:TA):TA:=λσ H Q=>ta σ H λx H1=>tr σ H1 λxs H2=>Q (x::xs) H2
section
variable {X:Cx}{e:Expr}{es:List Expr}{te:TE}{t:TA}{pos:Pos}
theorem Hu:PA X [] L5:=λ_ _ _ _ H Q I h=>Calls.spliced_nil ⟨[],H,I,.nil,h⟩
theorem vU(ha:PE X e te)(hr:PA X es t)(hs:starEach (e::es) X.env=(false,eval e X.env)::starEach es X.env:=by rfl):PA X (e::es) (yX te t):=by
 intro pos pins s σ H Q I h
 rw[hs]
 show wpAny _ _ (spliced ((false,eval e X.env)::backTo pos (starEach es X.env))) _ _ s
 refine Calls.spliced_cons (cT (ha pins s σ H _ I h) λu s1 ⟨x,H1,I1,r1,q1⟩=>?_)
 exact cT (hr pos pins s1 σ H1 _ I1 q1) λus s2 ⟨xs,H2,I2,r2,q2⟩=>⟨x::xs,H2,I2,.cons r1 r2,q2⟩
def Pl(t:TA):TE:=λσ H Q=>t σ H λxs H1=>xs.length<=sizeLine/\∀p,H1 p=none->Q (.ref p) (upd H1 p (.tup xs))
def Pt(t:TA):TE:=λσ H Q=>t σ H λxs H1=>xs.length<=sizeLine/\∀p,H1 p=none->Q (.ref p) (upd H1 p (.lst xs))
theorem Zt{x1}(h:PA X es t):PE X (.Tuple es x1 pos) (Pl t):=by
 intro pins s σ H Q I hq
 refine wpAny_Tuple_spliced (cT (h pos pins s σ H _ I hq) λus s1 ⟨xs,H1,I1,r,z,q⟩=>⟨by rw[<-r.length];exact z,?_⟩)
 have hf:H1 s1.heap.objs.size=none:=I1.bz.fresh (bj _)
 refine⟨.ref s1.heap.objs.size,upd H1 s1.heap.objs.size (.tup xs),I1.laid (t':=s1.toks) (λb u e=>bN _ e) (bj _) ?_,rfl,q _ hf⟩
 exact⟨z,us,r,⟨_,cC _ rfl,rfl,_,rfl⟩⟩
theorem Zx(h:PA X es t):PE X (.List es pos) (Pt t):=by
 intro pins s σ H Q I hq
 refine wpAny_List_spliced (cT (h pos pins s σ H _ I hq) λus s1 ⟨xs,H1,I1,r,z,q⟩=>⟨by rw[<-r.length];exact z,?_⟩)
 have hf:H1 s1.heap.objs.size=none:=I1.bz.fresh (bj _)
 refine⟨.ref s1.heap.objs.size,upd H1 s1.heap.objs.size (.lst xs),I1.laid (t':=s1.toks) (λb u e=>bN _ e) (bj _) ?_,rfl,q _ hf⟩
 exact⟨z,us,0,r,cC _ rfl⟩
end
abbrev Sp:=List V->Hp->VK->XK->Prop
abbrev Lq:=List Env->Hp->Shared->XK->Value->Shared->Prop
structure rz(P:Program)(w:World)(K:PySem.W.Frag)(mg:Str->Option Value)(base:Heap)(A:Around)(outer:List Env)(s:Shared)(H:Hp):Prop where
 frames:A.frames=some outer
 mod:Mod K mg base
 bs:∀b o,base.get? b=some o->s.heap.get? b=some o/\H b=none
 Jr:base.objs.size<=s.heap.objs.size
 pD:s.heap.FunFrames base outer
 Ot:∀b∈pU outer,H b=none
 bz:iQ P w H s.heap
 bare:AllBare s.gens
def CE(outer:List Env)(P:Program)(w:World)(H:Hp)(s:Shared)(Q:VK)(u:Value)(s':Shared):Prop:=
 ∃v H',s'.os=s.os/\AllBare s'.gens/\Un (pU outer) [] H H' s.heap s'.heap/\iQ P w H' s'.heap/\RelV v u/\Q v H'
def CR(CX:Lq)(outer:List Env)(P:Program)(w:World)(H:Hp)(s:Shared)(Q:VK)(E:XK)(r:Result)(s':Shared):Prop:=
 match r with
 | .ok (.ret u)=>CE outer P w H s Q u s'
 | .ok _=>False
 | .error e=>CX outer H s E e s'
structure bX(P:Program)(w:World)(K:PySem.W.Frag)(mg:Str->Option Value)(base:Heap)(CX:Lq)(k:Nat)(f:Addr)(fd:FuncData)(ps:List Str)(sp:Sp):Prop where
 len:∀vs H Q E,sp vs H Q E->vs.length=ps.length
 run:∀(A:Around) (outer:List Env) (s:Shared) (H:Hp) (args:Args) (us:List Value) (vs:List V) (Q:VK) (E:XK),cJ k A->rz P w K mg base A outer s H->BindsTo s fd args (ps.zip us)->Vals vs us->sp vs H Q E->
  codeAny (model P w) A (.call (.ref f) args) (CR CX outer P w H s Q E) s
theorem rz.make{P:Program}{w:World}{K:PySem.W.Frag}{mg:Str->Option Value}{base:Heap}{A:Around}{outer:List Env}{s:Shared}{H:Hp}(e:rz P w K mg base A outer s H)(C:Addr)(us:List Value)(kw:List (Str×Value)) :
  rz P w K mg base (A.under (.builtin "type.__call__" ⟨.ref C::us,kw⟩)) outer s H:=⟨by first | exact e.frames | (simpa [Around.under,Code.envs,Code.isFrame,pushEnvs]using e.frames),e.mod,e.bs,e.Jr,e.pD,e.Ot,e.bz,e.bare⟩
theorem rz.in1{P:Program}{w:World}{K:PySem.W.Frag}{mg:Str->Option Value}{base:Heap}{A:Around}{outer:List Env}{s:Shared}{H:Hp}(e:rz P w K mg base A outer s H) :
  rz P w K mg base A.in1 outer s H:=⟨e.frames,e.mod,e.bs,e.Jr,e.pD,e.Ot,e.bz,e.bare⟩
section
variable {X:Cx}{pins:List (Addr×Obj)}{σ:St}{H:Hp}{s s':Shared}
theorem Inv.NC(I:Inv X pins σ H s):rz X.prog X.w X.K X.mg X.base X.A X.stack s H:=
 ⟨I.ok.frames,I.ok.mod,I.bs,cQ I.ok.Jr I.sz,I.stack,I.vP,I.bz,I.bare⟩
theorem Inv.after{Q:VK}{u:Value}(I:Inv X pins σ H s)(h:CE X.stack X.prog X.w H s Q u s'):EP X pins σ Q u s':=by
 obtain⟨v,H',os,bare,un,bz,r,q⟩:=h
 obtain⟨hh,g,d,t,os'⟩:=s'
 obtain rfl:os'=s.os:=os
 exact⟨v,H',I.call (h':=hh) (g':=g) (d':=d) (t':=t) (ch:=[]) un bz bare (λb z=>absurd z (by simp)),r,q⟩
end
def Dq(sp:Sp)(uD:List V)(E:XK)(t:TA):TE:=λσ H Q=>t σ H λvs H1=>sp (vs++uD) H1 Q E
def JQ(C:Addr)(m:Str)(sp:Sp)(uD:List V)(E:XK)(ta:TE)(t:TA):TE:=λσ H Q=>ta σ H λx H1=>∃a dx fs,x=.ref a/\H1 a=some (.ins C dx fs)/\fs.lookup m=none/\
 t σ H1 λvs H2=>sp (x::(vs++uD)) H2 Q E
def JR(C:Addr)(sp:Sp)(uD:List V)(E:XK)(t:TA):TE:=λσ H Q=>t σ H λvs H1=>∀x dx,H1 x=none->H1 dx=none->dx≠x->
 sp (.ref x::(vs++uD)) (upd (upd H1 dx (.own x)) x (.ins C dx [])) (λv H2=>v=.non/\Q (.ref x) H2) E
def Binds(K:PySem.W.Frag)(fd:FuncData)(ps:List Str)(ds:List Value):Prop:=
 ∀(s:Shared) (us:List Value),K.In s.heap->(us++ds).length=ps.length->BindsTo s fd ⟨us,[]⟩ (ps.zip (us++ds))
theorem Binds.all{K:PySem.W.Frag}{fd:FuncData}{ps:List Str}(h:∀us:List Value,us.length=ps.length->bindArgs fd ⟨us,[]⟩=pure (ps.zip us)):Binds K fd ps []:=λs us _ hl=>by
 rw[gj]at hl ⊢
 exact .of_eq (h us hl)
def Passes(CX:Lq)(X:Cx)(E:XK):Prop:=∀(pins:List (Addr×Obj)) (σ:St) (H:Hp) (s:Shared) (e:Value) (s':Shared),Inv X pins σ H s->CX X.stack H s E e s'->X.xe e s'
section
variable {X:Cx}{CX:Lq}{k:Nat}{f C:Addr}{fd:FuncData}{ps:List Str}{sp:Sp}{uD:List V}{ds:List Value}{E:XK}{x m:Str}{p pos apos:Pos}{e o:Expr}{es:List Expr}{ta:TE}{t:TA}
theorem Qg{pins:List (Addr×Obj)}{σ:St}{H:Hp}{s:Shared}{Q:VK}{us:List Value}{vs:List V}(F:bX X.prog X.w X.K X.mg X.base CX k f fd ps sp)(hr:cJ k X.A)(hb:Binds X.K fd ps ds)(hd:Vals uD ds)(hx:Passes CX X E)
  (I:Inv X pins σ H s) (r:Vals vs us) (h:sp (vs++uD) H Q E):wpAny (model X.prog X.w) X.A (call (.ref f) us) (EP X pins σ Q) X.xe s:=by
 have r2:Vals (vs++uD) (us++ds):=r.append hd
 have hl:(us++ds).length=ps.length:=by rw[<-r2.length];exact F.len _ _ _ _ h
 refine kF (ia (F.run X.A X.stack s H ⟨us,[]⟩ (us++ds) (vs++uD) Q E hr I.NC (hb s us I.nH hl) r2 h) λr s' hq=>?_)
 cases r with
 | error e=>exact hx pins σ H s e s' I hq
 | ok fl=>
  cases fl with
  | ret u=>exact I.after hq
  | next=>exact False.elim hq
  | brk=>exact False.elim hq
  | cont=>exact False.elim hq
theorem vT(F:bX X.prog X.w X.K X.mg X.base CX k f fd ps sp)(hr:cJ k X.A)(hg:Gl X x)(hm:X.mg x=some (.ref f))(hk:PySem.W.keepIn X.K (.ref f)=true)(hb:Binds X.K fd ps ds)(hd:Vals uD ds)(hx:Passes CX X E)
  (ha:PA X (e::es) t) (uB:(x==("__debug__" : Str))=false:=by decide) (he:starEach (e::es) X.env=(false,eval e X.env)::starEach es X.env:=by rfl) (lO:(backTo pos (starEach es X.env)).any (·.1)=false:=by rfl) :
  PE X (.Call (.Name x p) (e::es) [] pos) (Dq sp uD E t):=by
 intro pins s σ H Q I h
 refine nU (pd I hg hm ?_ uB)
 refine wH (h₀:=X.base) I.ok.mod.kin hk (cT (ha pos pins s σ H _ I h) λus s1 ⟨vs,H1,I1,r,q⟩=>⟨I1.nH,?_⟩) he lO
 exact Qg F hr hb hd hx I1 r q
theorem VJ{pl:Sem Bool}(he:PE X o ta)(c:Cls X.K C)(hm:Meth X.K C m f)(F:bX X.prog X.w X.K X.mg X.base CX k f fd ps sp)(hr:cJ k X.A)(hb:Binds X.K fd ps ds)(hd:Vals uD ds)(hx:Passes CX X E)(ha:PA X (e::es) t)
  (Nm:starEach (e::es) X.env=(false,eval e X.env)::starEach es X.env:=by rfl) (lO:(backTo pos (starEach es X.env)).any (·.1)=false:=by rfl)
  (ht:eval (.Call (.Attribute o m apos) (e::es) [] pos) X.env=(do
   let ov <-eval o X.env
   standAt apos.atName
   let (f,first) <-holding [ov] (getMethod ov m pl)
   callWith pos f first (backTo pos (starEach (e::es) X.env)) (backToKw pos (keywordEach [] X.env))):=by rfl) :
  PE X (.Call (.Attribute o m apos) (e::es) [] pos) (JQ C m sp uD E ta t):=by
 intro pins s σ H Q I h
 refine Ak (pl:=pl) (cT (he pins s σ H _ I h) λu s1 ⟨x,H1,I1,rx,a,dx,fs,ex,ea,l,q⟩=>?_) ht
 subst ex
 obtain rfl:u=Value.ref a:=rx
 refine xH I1 ea c hm l ?_
 refine wH (first:=[.ref a]) (h₀:=X.base) I.ok.mod.kin hm.kp (cT (ha pos pins s1 σ H1 _ I1 q) λus s2 ⟨vs,H2,I2,r,q2⟩=>⟨I2.nH,?_⟩) Nm lO
 exact Qg (us:=.ref a::us) (vs:=.ref a::vs) F hr hb hd hx I2 (.cons rfl r) q2
structure Mk(K:PySem.W.Frag)(C f:Addr):Prop where
 makes:PySem.W.makesIn K C=true
 init:PySem.W.findIn K (.ref C) "__init__" = some (some (.ref f))
 fn:PySem.W.isFn K (.ref f)=true
 kp:PySem.W.keepIn K (.ref C)=true
theorem Qf{pins:List (Addr×Obj)}{σ:St}{H:Hp}{s:Shared}{Q:VK}{us:List Value}{vs:List V}(M:Mk X.K C f)(F:bX X.prog X.w X.K X.mg X.base CX k f fd ps sp)(hr:cJ (k+1) X.A)(hb:Binds X.K fd ps ds)(hd:Vals uD ds)
  (hx:Passes CX X E) (I:Inv X pins σ H s) (r:Vals vs us)
  (h:∀x dx,H x=none->H dx=none->dx≠x->sp (.ref x::(vs++uD)) (upd (upd H dx (.own x)) x (.ins C dx [])) (λv H2=>v=.non/\Q (.ref x) H2) E) :
  wpAny (model X.prog X.w) X.A (call (.ref C) us) (EP X pins σ Q) X.xe s:=by
 have hq:=h (s.heap.objs.size+1) s.heap.objs.size (I.bz.fresh (gT _)) (I.bz.fresh (bj _)) (bf (nP _))
 have I2:=Inv.made (C:=C) I
 have r2:Vals (V.ref (s.heap.objs.size+1)::(vs++uD)) (Value.ref (s.heap.objs.size+1)::(us++ds)):=.cons rfl (r.append hd)
 have hl:(Value.ref (s.heap.objs.size+1)::us++ds).length=ps.length:=by
  have e:=r2.length
  rw[F.len _ _ _ _ hq]at e
  exact e.symm
 refine kF (RB (f:=f) I.nH M.makes M.init (beq_iff_eq.mp M.fn) (ia (F.run _ X.stack _ _ ⟨Value.ref (s.heap.objs.size+1)::us,[]⟩ (Value.ref (s.heap.objs.size+1)::(us++ds)) _ _ E (hr.make C us [])
  (I2.NC.make C us []) (hb _ (Value.ref (s.heap.objs.size+1)::us) I2.nH hl) r2 hq) λr s' Nn=>?_))
 cases r with
 | error e=>exact hx pins σ _ _ e s' I2 Nn
 | ok fl=>
  cases fl with
  | ret u=>
   obtain⟨v,H',I3,rv,ev,q3⟩:=I2.after Nn
   subst ev
   exact⟨rv,⟨V.ref (s.heap.objs.size+1),H',I3,rfl,q3⟩⟩
  | next=>exact False.elim Nn
  | brk=>exact False.elim Nn
  | cont=>exact False.elim Nn
theorem VL(M:Mk X.K C f)(F:bX X.prog X.w X.K X.mg X.base CX k f fd ps sp)(hr:cJ (k+1) X.A)(hg:Gl X x)(hm:X.mg x=some (.ref C))(hb:Binds X.K fd ps ds)(hd:Vals uD ds)(hx:Passes CX X E)
  (ha:PA X (e::es) t) (uB:(x==("__debug__" : Str))=false:=by decide) (he:starEach (e::es) X.env=(false,eval e X.env)::starEach es X.env:=by rfl) (lO:(backTo pos (starEach es X.env)).any (·.1)=false:=by rfl) :
  PE X (.Call (.Name x p) (e::es) [] pos) (JR C sp uD E t):=by
 intro pins s σ H Q I h
 refine nU (pd I hg hm ?_ uB)
 refine wH (h₀:=X.base) I.ok.mod.kin M.kp (cT (ha pos pins s σ H _ I h) λus s1 ⟨vs,H1,I1,r,q⟩=>⟨I1.nH,?_⟩) he lO
 exact Qf M F hr hb hd hx I1 r q
end
def PK(X:Cx)(kws:List Keyword)(t:TA):Prop:=
 ∀(pos:Pos) (pins:List (Addr×Obj)) (s:Shared) (σ:St) (H:Hp) (Q:List V->Hp->Prop),Inv X pins σ H s->t σ H Q->wpAny (model X.prog X.w) X.A (evalAll ((backToKw pos (keywordEach kws X.env)).map (·.2))) (AP X pins σ Q) X.xe s
section
variable {X:Cx}{CX:Lq}{k:Nat}{f C:Addr}{fd:FuncData}{ps ks:List Str}{sp:Sp}{E:XK}{x m:Str}{p pos apos kpos:Pos}{e o:Expr}{es:List Expr}{kws:List Keyword}{te ta:TE}{t tk:TA}{nm:Option Str}
theorem Zo:PK X [] L5:=λ_ _ _ _ H Q I h=>wpAny_evalAll_nil ⟨[],H,I,.nil,h⟩
theorem VD(ha:PE X e te)(hr:PK X kws t):PK X (⟨nm,e,kpos⟩::kws) (yX te t):=by
 intro pos pins s σ H Q I h
 show wpAny _ _ (evalAll ((do let v <-eval e X.env;standAt pos;pure v)::(backToKw pos (keywordEach kws X.env)).map (·.2))) _ _ s
 refine wpAny_evalAll_cons (av (cT (ha pins s σ H _ I h) λu s1 ⟨x,H1,I1,r1,q1⟩=>av (qa (aK ?_))))
 exact cT (hr pos pins s1 σ H1 _ I1 q1) λus s2 ⟨xs,H2,I2,r2,q2⟩=>⟨x::xs,H2,I2,.cons r1 r2,q2⟩
variable {g:List Value->List Value->List Value}{gV:List V->List V->List V}
end
structure aU(N P:List Str)(sc:Scope):Prop where
 kind:sc.kind=.function
 co:sc.isCoroutine=false
 gen:sc.isGenerator=false
 nd:N.Nodup
 pre:N.take P.length=P
 par:∀x∈P,sc.names.lookup x=some .local\/sc.names.lookup x=some .cell
 ZR:∀y∈sc.names,y.2≠.free
theorem zM{kindOf:Str->Option NameKind}{x:Str}:∀{binds:List (Str×Value)} {m:Str->Option Value},(∀v,(x,v)∉binds)->bindL kindOf binds m x=m x
 | [],_,_=>rfl
 | (n,v)::r,m,h=>by
  unfold bindL
  rw[zM λw hw=>h w (cV _ hw)]
  split
  ·have:x≠n:=by rintro rfl;exact h v df
   simp[this]
  ·rfl
theorem zO{kindOf:Str->Option NameKind}{x:Str}:∀{binds:List (Str×Value)} {m:Str->Option Value},(∀v,(x,v)∉binds)->bindC kindOf binds m x=m x
 | [],_,_=>rfl
 | (n,v)::r,m,h=>by
  unfold bindC
  rw[zO λw hw=>h w (cV _ hw)]
  split
  ·rfl
  ·have:x≠n:=by rintro rfl;exact h v df
   simp[this]
theorem zN{kindOf:Str->Option NameKind}{x:Str}{v:Value}:∀{P:List Str} {vs:List Value} {i:Nat} {m:Str->Option Value},P.Nodup->P[i]?=some x->vs[i]?=some v->kindOf x=some .local->
  bindL kindOf (P.zip vs) m x=some v
 | [],_,_,_,_,h,_,_=>by simp at h
 | _::_,[],_,_,_,_,h,_=>by simp at h
 | p::P,w::vs,0,m,nd,h1,h2,hk=>by
  simp at h1 h2;subst h1;subst h2
  show bindL kindOf ((p,w)::P.zip vs) m p=_
  unfold bindL
  rw[zM λv hv=>(m5.mp nd).1 (wy hv).1,ay hk]
  simp
 | p::P,w::vs,i+1,m,nd,h1,h2,hk=>by
  show bindL kindOf ((p,w)::P.zip vs) m x=_
  unfold bindL
  exact zN (i:=i) (m5.mp nd).2 (by simpa using h1) (by simpa using h2) hk
theorem zP{kindOf:Str->Option NameKind}{x:Str}{v:Value}:∀{P:List Str} {vs:List Value} {i:Nat} {m:Str->Option Value},P.Nodup->P[i]?=some x->vs[i]?=some v->kindOf x≠some .local->
  bindC kindOf (P.zip vs) m x=some v
 | [],_,_,_,_,h,_,_=>by simp at h
 | _::_,[],_,_,_,_,h,_=>by simp at h
 | p::P,w::vs,0,m,nd,h1,h2,hk=>by
  simp at h1 h2;subst h1;subst h2
  show bindC kindOf ((p,w)::P.zip vs) m p=_
  unfold bindC
  rw[zO λv hv=>(m5.mp nd).1 (wy hv).1,aE hk]
  simp
 | p::P,w::vs,i+1,m,nd,h1,h2,hk=>by
  show bindC kindOf ((p,w)::P.zip vs) m x=_
  unfold bindC
  exact zP (i:=i) (m5.mp nd).2 (by simpa using h1) (by simpa using h2) hk
def start(N:List Str)(vs:List V):St:=vs.map some++List.replicate (N.length-vs.length) none
def gQ(CX:Lq)(P:Program)(w:World)(K:PySem.W.Frag)(mg:Str->Option Value)(base:Heap)(N:List Str)(qual:Str)(scope:Scope)(f:Addr)(cd:Value)(A:Around)(outer:List Env)(s:Shared)(H:Hp)(E:XK):Cx where
 prog:=P
 w:=w
 K:=K
 mg:=mg
 base:=base
 A:=A.deeper (envOfC qual scope s.heap.objs.size f cd)
 N:=N
 s₀:=s
 H₀:=H
 env:=envOfC qual scope s.heap.objs.size f cd
 outer:=outer
 stack:=envOfC qual scope s.heap.objs.size f cd::outer
 ex:=[]
 calm:=true
 fn:=λ_=>true
 pn:=[]
 xe:=λe s'=>wpAny (model P w) (A.deeper (envOfC qual scope s.heap.objs.size f cd)) (leaving (envOfC qual scope s.heap.objs.size f cd) e) (λ_ Y3=>CX outer H s E e Y3) (λe' Y3=>CX outer H s E e' Y3) s'
theorem Fy{sc:Scope}{n:Nat}{x:Str}(h:sc.names.lookup x=some .cell):∃c,(cellsFrom n sc.names []).lookup x=some c:=by
 have q:=PySem.W.cellsFrom_some sc.names n [] (.inl h)
 exact Option.isSome_iff_exists.mp q
theorem Ni{CX:Lq}{P:Program}{w:World}{K:PySem.W.Frag}{mg:Str->Option Value}{base:Heap}{N ps:List Str}{qual:Str}{scope:Scope}{f:Addr}{cd:Value}{A:Around}{outer:List Env}{s s1:Shared}{H:Hp}{E:XK}{us:List Value}{vs:List V}
  (S:aU N ps scope) (hd:A.handled=none) (e0:rz P w K mg base A outer s H) (hl:vs.length=ps.length) (r:Vals vs us)
  (x:InCallC s s.heap.objs.size (bindL (envOfC qual scope s.heap.objs.size f cd).kindOf (ps.zip us) λ_=>none) (cellsFrom (s.heap.objs.size+1) scope.names []) (bindC (envOfC qual scope s.heap.objs.size f cd).kindOf (ps.zip us) λ_=>none) s1) :
  Inv (gQ CX P w K mg base N qual scope f cd A outer s H E) [] (start N vs) H s1:=by
 have lO:ps.length<=N.length:=by have:=fD List.length S.pre;rw[fZ]at this;lia
 obtain⟨h1,tk,rfl,hk⟩:=x.done
 have T7:∀b:Addr,b∉(gQ CX P w K mg base N qual scope f cd A outer s H E).ex:=λb z=>absurd (show b∈([]:List Addr) from z) (by simp)
 refine⟨⟨e0.mod,S.kind,rfl,rfl,bj _,λy z c h1 h2=>?_,λy hy=>?_,λy c _ h=>?_,λ_=>hd,Around.frames_deeper e0.frames,.inr ⟨rfl,rfl⟩,λb z=>absurd z (T7 b),e0.bs,e0.Jr,λb _ _=>T7 b,λb z=>absurd z (T7 b),e0.pD,e0.Ot⟩,
  rfl,e0.bare,Un.kept hk,⟨_,x.toInCall.ns,λi y v h1 h2 h3=>?_⟩,λy c h=>⟨_,x.cell y c h⟩,e0.bz.fresh (bj _),λy c h=>?_,λp hp=>absurd (show p∈([]:List (Addr×Obj)) from hp) (by simp),e0.bz.kept hk,?_⟩
 ·exact name_of_addr x.apart (fC h1) (fC h2)
 ·have hy:scope.names.lookup y=some .cell\/scope.names.lookup y=some .free:=hy
  rcases hy with hy | hy
  ·exact Fy hy
  ·exact absurd rfl (S.ZR _ (fC hy))
 ·exact kG (x.above y c (fC h))
 ·have hi:i<vs.length:=by
   unfold start at h2
   by_cases hi:i<vs.length
   ·exact hi
   ·rw[jv (by simpa using hi)]at h2
    rw[GX]at h2
    split at h2 <;> cases h2
  have ha:vs[i]?=some v:=by
   unfold start at h2
   rw[lD (by simpa using hi),cM]at h2
   cases e:vs[i]? with
   | none=>rw[e]at h2;cases h2
   | some a=>rw[e]at h2;cases h2;rfl
  obtain⟨u,hu,rv⟩:=r.get ha
  have hp:ps[i]?=some y:=by
   rw[<-S.pre,List.getElem?_take_of_lt (by lia)];exact h1
  have ndP:ps.Nodup:=by rw[<-S.pre];exact S.nd.sublist (List.take_sublist _ _)
  refine⟨u,rv,?_⟩
  rcases S.par y (j6 hp) with k | k
  ·exact .inl ⟨k,zN ndP hp hu k⟩
  ·obtain⟨c,e⟩:=Fy (n:=s.heap.objs.size+1) k
   refine .inr ⟨.inl k,c,e,?_⟩
   have q:=x.cell y c e
   rw[zP ndP hp hu (by show scope.names.lookup y≠_;rw[k];decide)]at q
   exact q
 ·exact e0.bz.fresh (kG (x.above y c (fC h)))
 ·unfold start
  show _=N.length
  rw[cS,aM,pM]
  lia
theorem SM{CX:Lq}{P:Program}{w:World}{K:PySem.W.Frag}{mg:Str->Option Value}{base:Heap}{k:Nat}{f:Addr}{name qual:Str}{params:Arguments}{body:List Stmt}{scope:Scope}{dV kV doc pm dc ct oc:Value}{an od:Option Addr}
  {Ki:Array (Option Value)} {N ps:List Str} {sp:Sp} (lk:K.lookup f=some ⟨oc,od,.func (PySem.W.fnOf name qual params body scope dV kV doc pm an dc ct),Ki⟩) (yw:PySem.W.codeIn K dc qual=true) (S:aU N ps scope)
  (len:∀vs H Q E,sp vs H Q E->vs.length=ps.length)
  (gx:∀(A:Around) (outer:List Env) (s:Shared) (H:Hp) (vs:List V) (Q:VK) (E:XK),cJ k (A.deeper (envOfC qual scope s.heap.objs.size f dc))->sp vs H Q E->
   ∃t,CJ (gQ CX P w K mg base N qual scope f dc A outer s H E) body t/\t { nx:=λ_ H'=>Q .non H',rt:=Q } (start N vs) H) :
  bX P w K mg base CX (k+1) f (PySem.W.fnOf name qual params body scope dV kV doc pm an dc ct) ps sp:=by
 refine⟨len,λA outer s H args us vs Q E hr e0 hb r FW=>?_⟩
 have hl:=len _ _ _ _ FW
 have KX:K.In s.heap:=e0.mod.kin.keeps λb o e=>(e0.bs b o e).1
 have lim:s.heap.NoLimit:=e0.mod.nolimit.keeps λb o e=>(e0.bs b o e).1
 have aBG:∀y∈ps.zip us,scope.names.lookup y.1=some .local\/(scope.names.lookup y.1=some .cell/\((cellsFrom (s.heap.objs.size+1) scope.names []).lookup y.1).isSome=true):=λ⟨n,v⟩ hy=>by
  rcases S.par n (wy hy).1 with q | q
  ·exact .inl q
  ·exact .inr ⟨q,PySem.W.cellsFrom_some _ _ _ (.inl q)⟩
 refine codeAny_call_function hr.depth (KX _ _ lk) rfl S.co S.gen rfl (PySem.W.codeRec_of KX yw) (hb _ _ _ _ ?_)
 refine wpAny_newFunctionEnv_cells S.kind aBG λenv he s1 x=>?_
 subst he
 refine⟨lim.keeps x.toInCall.keep,codeAny_func ?_⟩
 obtain⟨t,ht,hq⟩:=gx A outer s H vs Q E (hr.deeper _) FW
 have I:Inv (gQ CX P w K mg base N qual scope f dc A outer s H E) [] (start N vs) H s1:=Ni S hr.hd e0 hl r x
 refine cL (ht [] s1 (start N vs) H _ I hq) (λfl s' hs=>?_) λe s' hs=>hs
 have fin:∀{σ':St} {H':Hp} {v:V} {u:Value},Inv (gQ CX P w K mg base N qual scope f dc A outer s H E) [] σ' H' s'->RelV v u->Q v H'->CE outer P w H s Q u s':=
  λ{σ' H' v u} J rv q=>⟨v,H',J.os,J.bare,J.base,J.bz,rv,q⟩
 cases fl with
 | ret u=>
  obtain⟨v,σ',H',J,rv,q⟩:=hs
  exact fin J rv q
 | next=>
  obtain⟨σ',H',J,q⟩:=hs
  exact fin (v:=V.non) (u:=Value.none) J rfl q
 | brk=>
  obtain⟨_,_,_,q⟩:=hs
  exact False.elim q
 | cont=>
  obtain⟨_,_,_,q⟩:=hs
  exact False.elim q
end L2
namespace L2
open PySem PySem.Spec PyProof.Rows
section
variable {X:Cx}{x:Str}{p pos:Pos}{e:Expr}{es:List Expr}{t:TA}{id T:String}{r:List V->Hp->VK->Prop}
def YC(r:List V->Hp->VK->Prop)(t:TA):TE:=λσ H Q=>t σ H λvs H1=>r vs H1 Q
theorem om(hc:fz X (.builtin id) r)(hg:Gl X x)(hm:X.mg x=none)(hv:bootBuiltins x=some (.builtin id))(ha:PA X (e::es) t)(hn:x≠"__name__":=by decide)(uB:(x==("__debug__" : Str))=false:=by decide)
  (he:starEach (e::es) X.env=(false,eval e X.env)::starEach es X.env:=by rfl) (lO:(backTo pos (starEach es X.env)).any (·.1)=false:=by rfl):PE X (.Call (.Name x p) (e::es) [] pos) (YC r t):=by
 intro pins s σ H Q I h
 refine nU (uv I hg hm hv ?_ hn uB)
 exact Oz (cT (ha pos pins s σ H _ I h) λus s1 ⟨vs,H1,I1,r1,q1⟩=>hc pins s1 σ H1 vs us Q I1 r1 q1) he lO
theorem lK(hc:fz X (.type T) r)(hg:Gl X x)(hm:X.mg x=none)(hv:bootBuiltins x=some (.type T))(ha:PA X (e::es) t)(hn:x≠"__name__":=by decide)(uB:(x==("__debug__" : Str))=false:=by decide)
  (he:starEach (e::es) X.env=(false,eval e X.env)::starEach es X.env:=by rfl) (lO:(backTo pos (starEach es X.env)).any (·.1)=false:=by rfl):PE X (.Call (.Name x p) (e::es) [] pos) (YC r t):=by
 intro pins s σ H Q I h
 refine nU (uv I hg hm hv ?_ hn uB)
 exact G4 (cT (ha pos pins s σ H _ I h) λus s1 ⟨vs,H1,I1,r1,q1⟩=>hc pins s1 σ H1 vs us Q I1 r1 q1) he lO
end
end L2
namespace HT
open PySem PyProof.Rows
def lexLt:List Int->List Int->Bool
 | [],[]=>false
 | [],_::_=>true
 | _::_,[]=>false
 | x::xs,y::ys=>if x=y then lexLt xs ys else decide (x<y)
theorem Ii(x y:Int)(xs ys:List Int):lexLt (x::xs) (y::ys)=if x=y then lexLt xs ys else decide (x<y):=rfl
theorem yq:lexLt [] []=false:=rfl
theorem xB(y:Int)(ys:List Int):lexLt [] (y::ys)=true:=rfl
theorem xC(x:Int)(xs:List Int):lexLt (x::xs) []=false:=rfl
theorem S6(A:Around)(s:Shared)(a:Int)(t:Tok)(c:Int)(u:Tok):∃e,SeqAt.EqAt A s (.int a t) (.int c u) e/\(e=true↔a=c):=
 ⟨(a==c),SeqAt.EqAt.int_int a t c u,by simp⟩
theorem Qj(A:Around)(s:Shared)(a:Int)(t:Tok)(c:Int)(u:Tok)(prog:Program)(w:World)(E:Value->Shared->Prop)(Q:Value->Shared->Prop)(h:Q (.bool (decide (a<c))) s) :
  wpAny (model prog w) A (richCompare .Lt (.int a t) (.int c u)) Q E s:=
 (PyProof.Rows.lt_int h:wpAny (model prog w) A (compareOp .Lt (.int a t) (.int c u)) Q E s)
section
open PySem.SeqAt
open PySem.AutoSeq1 (wpAny_loadPart')
open PySem.MeetsSeq PySem.MeetsSeq2 PySem.MeetsSeq3
theorem yc(l b:Addr)(items kQ:Array Value)(n n2:Nat)(dd Yk:Option Addr)(sl Mf:Array (Option Value))(ns ms:List Int)(hi:IntsAre items.toList ns)(hj:IntsAre kQ.toList ms) :
  Meets (Builtin.«tuple.__lt__» ⟨[.ref l,.ref b],[]⟩)
   (λ_ R s=>s.heap.get? l=some { cls:=.type "tuple",dict:=dd,data:=.seq items n,slots:=sl }/\s.heap.get? b=some { cls:=.type "tuple",dict:=Yk,data:=.seq kQ n2,slots:=Mf }/\
    R (.ok (.ret (.bool (lexLt ns ms)))) s):=
 .of_wp λprog w A R s h=>by
  obtain⟨hp,g,d,tk,os⟩:=s;obtain⟨hl,hb,h⟩:=h
  have f2:=AutoSeq1.sub_tuple_tuple
  have z1:items.size=ns.length:=by rw[<-hi.length];simp
  have z2:kQ.size=ms.length:=by rw[<-hj.length];simp
  wp_walk using wpAny_loadPart' hl,wpAny_loadPart' hb,wpAny_forIn_list _ (λrest b s'=>b.1=none/\s'=⟨hp,g,d,tk,os⟩/\∃(vs ws:List Value) (Og ms':List Int),rest=vs.zip ws/\
   IntsAre vs Og/\IntsAre ws ms'/\Og.length+kQ.size=ms'.length+items.size/\R (.ok (.ret (.bool (lexLt Og ms')))) ⟨hp,g,d,tk,os⟩) _
  case turn=>
   rintro⟨y,x⟩ rest b s' ⟨hb',rfl,vs,ws,Og,ms',hz,hvi,hwi,hlen,hR⟩
   cases hvi with
   | nil=>rw[List.zip_nil_left]at hz;cases hz
   | cons a t aEv=>
    cases hwi with
    | nil=>rw[List.zip_nil_right]at hz;cases hz
    | cons c u aEt=>
     rw[List.zip_cons_cons]at hz
     injection hz with hyx zA
     injection hyx with hy hx
     subst hy hx
     rw[Ii]at hR
     simp only[eV]at hlen
     obtain⟨e,he,aBH⟩:=S6 A.in1 ⟨hp,g,d,tk,os⟩ a t c u
     refine av (he prog w _ _ ?_)
     cases e with
     | true=>
      rw[ay (aBH.mp rfl)]at hR
      wp_walk
      exact⟨rfl,rfl,_,_,_,_,zA,aEv,aEt,by lia,hR⟩
     | false=>
      rw[aE (λq=>absurd (aBH.mpr q) gb)]at hR
      have hri:=Qj A.in1 ⟨hp,g,d,tk,os⟩ a t c u prog w
      wp_walk using hri
      exact⟨_,rfl,by simpa using hR⟩
  case fin=>
   rintro⟨b1,b2⟩ s' ⟨hb',rfl,vs,ws,Og,ms',hz,hvi,hwi,hlen,hR⟩
   simp only at hb'
   subst hb'
   have hv:lexLt Og ms'=decide (items.size<kQ.size):=by
    cases hvi with
    | nil=>
     cases hwi with
     | nil=>
      simp only[wx]at hlen
      rw[yq]
      exact(decide_eq_false (by lia)).symm
     | cons c u hw=>
      simp only[wx,eV]at hlen
      rw[xB]
      exact(decide_eq_true (by lia)).symm
    | cons a t hv=>
     cases hwi with
     | nil=>
      simp only[wx,eV]at hlen
      rw[xC]
      exact(decide_eq_false (by lia)).symm
     | cons c u hw=>
      rw[List.zip_cons_cons]at hz
      cases hz
   rw[hv]at hR
   wp_walk
   exact⟨_,rfl,by simpa [Builtin.Tuple.tupleCompareSizes]using hR⟩
  case h=>
   exact⟨rfl,rfl,items.toList,kQ.toList,ns,ms,rfl,hi,hj,by lia,h⟩
end
section
variable {prog:Program}{w:World}{A:Around}{E:Value->Shared->Prop}{s:Shared}
theorem Ie{l b:Addr}{items kQ:Array Value}{ns ms:List Int}{Q:Value->Shared->Prop}(hl:IsTup s.heap l items)(hb:IsTup s.heap b kQ)(hi:IntsAre items.toList ns)(hj:IntsAre kQ.toList ms)
  (hu:A.units<cLine) (h:Q (.bool (lexLt ns ms)) s):wpAny (model prog w) A (compareOp .Lt (.ref l) (.ref b)) Q E s:=by
 obtain⟨⟨cls,dd,data,sl⟩,ho,hc,n,hd⟩:=id hl
 obtain⟨⟨aBY,Yk,data2,Mf⟩,Ua,X6,n2,hd2⟩:=id hb
 simp only at hc hd X6 hd2
 subst hc hd X6 hd2
 exact richCompare_meets_room (op:=.Lt) ⟨_,ho,rfl⟩ ⟨_,Ua,rfl⟩ PySem.F.slot_tuple_lt PySem.F.entry_tuple_lt (PySem.F.args_tuple_lt_2 _ _) (yc l b items kQ n n2 dd Yk sl Mf ns ms hi hj)
  ⟨ho,Ua,show Value.bool (lexLt ns ms)≠Value.notImplemented/\Q (.bool (lexLt ns ms)) s from ⟨(λx=>nomatch x),h⟩⟩ hu
theorem W8{t b:Addr}{vs ws:List Value}{Q:Value->Shared->Prop}(ht:IsTup s.heap t vs.toArray)(hb:IsTup s.heap b ws.toArray)(hv:vs≠[])
  (h1:ws=[]->Q (.ref t) s) (h2:ws≠[]->Q (.ref s.heap.objs.size) { s with heap:=s.heap.push { cls:=.type "tuple",data:=.seq (vs++ws).toArray } })
  (hsz:vs.length+ws.length<=sizeLine):wpAny (model prog w) A (binaryOp .Add (.ref t) (.ref b)) Q E s:=by
 obtain⟨⟨cls,dd,data,sl⟩,ho,hc,n,hd⟩:=id ht
 obtain⟨⟨aBY,Yk,data2,Mf⟩,Ua,X6,n2,hd2⟩:=id hb
 simp only at hc hd X6 hd2
 subst hc hd X6 hd2
 have e:vs.toArray++ws.toArray=(vs++ws).toArray:=by simp
 by_cases hw:ws=[]
 ·exact concat_meets ⟨_,ho,rfl⟩ ⟨_,Ua,rfl⟩ noFill_tuple_add seq_tuple_add GQ G0 (G3 _ _)
   (tuple_addW1 t b vs.toArray ws.toArray n n2 dd Yk sl Mf (by simpa using hv) (by simp[hw])) ⟨ho,Ua,h1 hw⟩
 ·refine concat_meets ⟨_,ho,rfl⟩ ⟨_,Ua,rfl⟩ noFill_tuple_add seq_tuple_add GQ G0 (G3 _ _)
   (tuple_addW2 t b vs.toArray ws.toArray n n2 dd Yk sl Mf (by simpa using hv) (by simpa using hw) (by rw[bS,bS];exact hsz)) ⟨ho,Ua,?_⟩
  rw[e]
  exact h2 hw
def dO(n d:Nat):Option Int->Nat
 | none=>d
 | some v=>if v<0 then (v+(n:Int)).toNat else min v.toNat n
theorem YX(n d:Nat)(hd:d<=n)(o:Option Int):dO n d o<=n:=by
 cases o with
 | none=>exact hd
 | some v=>
  show(if v<0 then (v+(n:Int)).toNat else min v.toNat n)<=n
  by_cases hv:v<0
  ·rw[ay hv];lia
  ·rw[aE hv];exact Nat.min_le_right _ _
theorem K9(v:Int)(n d:Nat):(if v<0 then max (v+(n:Int)) 0 else min v (n:Int))=((dO n d (some v):Nat):Int):=by
 show(if v<0 then max (v+(n:Int)) 0 else min v (n:Int))=(((if v<0 then (v+(n:Int)).toNat else min v.toNat n):Nat):Int)
 by_cases hv:v<0
 ·simp only[ay hv];lia
 ·simp only[aE hv];lia
theorem Jw(lo hi:Option Int)(n:Nat):Builtin.Slice.sliceAdjust lo hi 1 (n:Int)=(((dO n 0 lo:Nat):Int),((dO n n hi:Nat):Int)):=by
 have h1:¬((1:Int)<0):=by lia
 unfold Builtin.Slice.sliceAdjust
 simp only[h1,fu]
 refine Prod.ext ?_ ?_
 ·cases lo with
  | none=>rfl
  | some v=>exact K9 v n 0
 ·cases hi with
  | none=>rfl
  | some v=>exact K9 v n n
theorem Hq(i j:Nat):Builtin.Slice.slicePlaces (i:Int) (j:Int) 1=j-i:=by
 unfold Builtin.Slice.slicePlaces
 have h1:(1:Int) > 0:=by lia
 simp only[h1,gB,Int.ediv_one]
 split <;> lia
theorem wY{v:Value}{o:Option Int}{Q:Option Int->Shared->Prop}(p:IsPart v o)(h:Q o s):wpAny (model prog w) A (Builtin.Slice.slicePartIndex v) Q E s:=by
 cases p with
 | none=>exact slicePart_none h
 | int i t=>exact slicePart_int h
theorem lI{sl:Addr}{vl vu:Value}{lo hi:Option Int}{n:Nat}{Q:Int×Int×Nat->Shared->Prop}(hs:s.heap.IsSliceOf sl vl vu .none)(pl:IsPart vl lo)(pu:IsPart vu hi)
  (h:Q (((dO n 0 lo:Nat):Int),1,dO n n hi-dO n 0 lo) s):wpAny (model prog w) A (Builtin.Slice.sliceApplied (.ref sl) (pure (n:Int))) Q E s:=by
 obtain⟨os,hos,hcs,hds⟩:=id hs
 unfold Builtin.Slice.sliceApplied Builtin.Slice.sliceFields
 refine av (av (p8 hos hds (x:=vl) rfl (av (p8 hos hds (x:=vu) rfl (av (p8 hos hds (x:=.none) rfl (aK ?_)))))))
 refine av (slicePart_none ?_)
 show wpAny _ _ (if ((1:Int)==0)=true then _ else _) _ _ s
 rw[aE (by decide)]
 refine av (wY pl (av (wY pu (av (aK ?_)))))
 show wpAny _ _ (match Builtin.Slice.sliceAdjust lo hi 1 (n:Int) with | (lo,hi)=>pure (lo,(1:Int),Builtin.Slice.slicePlaces lo hi 1)) _ _ s
 rw[Jw lo hi n]
 show wpAny _ _ (pure (((dO n 0 lo:Nat):Int),(1:Int),Builtin.Slice.slicePlaces ((dO n 0 lo:Nat):Int) ((dO n n hi:Nat):Int) 1)) _ _ s
 rw[Hq]
 exact aK h
theorem QT(xs:Array Value)(i k:Nat):((List.range k).filterMap λ(m:Nat)=>xs[((i:Int)+(m:Int)*1).toNat]?).toArray=((xs.toList.drop i).take k).toArray:=by
 have e:(λ(m:Nat)=>xs[((i:Int)+(m:Int)*1).toNat]?)=λm=>xs[i+m]?:=by
  funext m
  have:((i:Int)+(m:Int)*1).toNat=i+m:=by lia
  rw[this]
 rw[e]
 have:=pick_run xs i k
 rw[List.filterMap_map]at this
 have e2:((λx=>xs[x]?) ∘ λx=>i+x)=λm=>xs[i+m]?:=rfl
 rw[e2]at this
 rw[this]
theorem sV{t sl:Addr}{items:Array Value}{vl vu:Value}{lo hi:Option Int}{Q:Value->Shared->Prop}(ht:IsTup s.heap t items)(hs:s.heap.IsSliceOf sl vl vu .none)(pl:IsPart vl lo)(pu:IsPart vu hi)
  (hw:¬(dO items.size 0 lo=0/\dO items.size items.size hi=items.size))
  (h:Q (.ref s.heap.objs.size) { s with heap:=s.heap.push { cls:=.type "tuple",data:=.seq ((items.toList.drop (dO items.size 0 lo)).take (dO items.size items.size hi-dO items.size 0 lo)).toArray } })
  (hsz:items.size<=sizeLine):wpAny (model prog w) A (getItem (.ref t) (.ref sl)) Q E s:=by
 have Kr:sizeOk (.seq ((items.toList.drop (dO items.size 0 lo)).take (dO items.size items.size hi-dO items.size 0 lo)).toArray):=by
  show((items.toList.drop (dO items.size 0 lo)).take (dO items.size items.size hi-dO items.size 0 lo)).toArray.size<=sizeLine
  rw[bS,fZ,my,cZ]
  lia
 have hj:dO items.size items.size hi<=items.size:=YX _ _ (bj _) hi
 obtain⟨os,hos,hcs,hds⟩:=id hs
 have hTs:s.TypeIs (.ref sl) "slice":=⟨os,hos,hcs⟩
 unfold getItem
 try with_reducible refine js ?_
 first | refine av (aK ?_) | skip
 refine av (wpAny_sequenceKey ht.typeIs (by decide) ?_)
 refine av (t5 (name:=Str.ofString "__getitem__") ht.typeIs yJ
  (nL yJ ht.typeIs entry_tuple_getitem ?_ (args_tuple_getitem _ _)))
 show wpAny _ _ (Builtin.Tuple.tupleItemsOf (.ref t) >>= _) _ _ s
 refine av (tupleItemsOf_ ht ?_)
 refine av (wd hTs ?_)
 rw[ay (by decide)]
 refine av (lI hs pl pu ?_)
 have vY:¬((((dO items.size 0 lo:Nat):Int)==0&&(1:Int)==1&&(dO items.size items.size hi-dO items.size 0 lo)==items.size)=true):=by
  intro q
  rw[dv,dv]at q
  have q1:((dO items.size 0 lo:Nat):Int)=0:=eq_of_beq q.1.1
  have q2:dO items.size items.size hi-dO items.size 0 lo=items.size:=eq_of_beq q.2
  exact hw ⟨by lia,by lia⟩
 show wpAny _ _ (if (((dO items.size 0 lo:Nat):Int)==0&&(1:Int)==1&&(dO items.size items.size hi-dO items.size 0 lo)==items.size)=true then _ else _) _ _ s
 rw[aE vY,QT]
 first
  | exact av (m:=Builtin.Tuple.tupleExact _) (iY (aK ⟨_,rfl,aK h⟩) Kr)
  | exact av (m:=Builtin.Tuple.tupleExact _) (iY (av (aK (aK ⟨_,rfl,aK h⟩))) Kr)
  | exact av (av (m:=Builtin.Tuple.tupleExact _) (iY (aK (aK ⟨_,rfl,aK h⟩)) Kr))
  | exact av (av (m:=Builtin.Tuple.tupleExact _) (iY (aK ⟨_,rfl,aK h⟩) Kr))
end
end HT
namespace L2
open PySem PySem.Spec PyProof.Rows
abbrev TO:=St->Hp->(Option Int->Hp->Prop)->Prop
def PO(X:Cx)(e:Option Expr)(t:TO):Prop:=
 ∀(pins:List (Addr×Obj)) (s:Shared) (σ:St) (H:Hp) (Q:Option Int->Hp->Prop),Inv X pins σ H s->t σ H Q->
  wpAny (model X.prog X.w) X.A (evalPart e X.env) (λu s'=>∃o H',Inv X pins σ H' s'/\IsPart u o/\Q o H') X.xe s
def rR:TO:=λ_ H Q=>Q none H
def Dm(t:TE):TO:=λσ H Q=>t σ H λx H1=>∃i,x=.int i/\Q (some i) H1
theorem intsAre_of{ns:List Int}:∀{us:List Value},Vals (ns.map V.int) us->IntsAre us ns:=by
 induction ns with
 | nil=>intro us r;rw[zT]at r;cases r;exact .nil
 | cons n ns ih=>
  intro us r
  rw[dZ]at r
  cases r with
  | cons r1 r2=>
   obtain⟨t,e⟩:=r1
   subst e
   exact .cons n t (ih r2)
section
variable {X:Cx}{e:Expr}{te:TE}{lo hi:Option Expr}{tl th:TO}{pos p2:Pos}
theorem VB:PO X none rR:=by
 intro pins s σ H Q I h
 rw[evalPart_none]
 exact aK ⟨none,H,I,.none,h⟩
theorem Vz(h:PE X e te):PO X (some e) (Dm te):=by
 intro pins s σ H Q I hw
 rw[evalPart_some]
 refine cT (h pins s σ H _ I hw) λu s1 ⟨x,H1,I1,r1,q1⟩=>?_
 obtain⟨i,rfl,q⟩:=q1
 obtain⟨t,rfl⟩:=r1
 exact⟨some i,H1,I1,.int i t,q⟩
def Ui(X:Cx)(r:V->Option Int->Option Int->Hp->VK->Prop):Prop:=
 ∀(pins:List (Addr×Obj)) (s:Shared) (σ:St) (H:Hp) (x:V) (v vl vu:Value) (lo hi:Option Int) (sl:Addr) (Q:VK),Inv X pins σ H s->RelV x v->s.heap.IsSliceOf sl vl vu .none->IsPart vl lo->IsPart vu hi->r x lo hi H Q->
  ∃T id,typeLookup (.type T) "__getitem__" = pure (some (.builtin id))/\s.TypeIs v T/\wpAny (model X.prog X.w) X.A (getItem v (.ref sl)) (EP X pins σ Q) X.xe s
def tSl(r:V->Option Int->Option Int->Hp->VK->Prop)(te:TE)(tl th:TO):TE:=λσ H Q=>te σ H λx H1=>tl σ H1 λl H2=>th σ H2 λu H3=>r x l u H3 Q
theorem Q0{r:V->Option Int->Option Int->Hp->VK->Prop}(hr:Ui X r)(he:PE X e te)(hl:PO X lo tl)(hu:PO X hi th):PE X (.Subscript e (.Slice lo hi none p2) pos) (tSl r te tl th):=by
 intro pins s σ H Q I h
 refine Subscript_ (cT (he pins s σ H _ I h) λv s1 ⟨x,H1,I1,r1,q1⟩=>?_)
 refine wpAny_Slice (cT (hl pins s1 σ H1 _ I1 q1) λvl s2 ⟨l,H2,I2,pl,q2⟩=>cT (hu pins s2 σ H2 _ I2 q2) λvu s3 ⟨u,H3,I3,pu,q3⟩=>?_)
 rw[evalPart_none]
 refine aK ?_
 have I4:Inv X pins σ H3 { s3 with heap:=s3.heap.push { cls:=.type "slice",data:=.fields #[vl,vu,.none] } }:=I3.kept (t':=s3.toks) λb ob q=>bN _ q
 obtain⟨T,id,hT,ht,hg⟩:=hr pins { s3 with heap:=s3.heap.push { cls:=.type "slice",data:=.fields #[vl,vu,.none] } } σ H3 x v vl vu l u s3.heap.objs.size Q I4 r1 (Heap.IsSliceOf.new ..) pl pu q3
 show wpAny (model X.prog X.w) X.A (subscriptTail e (.Slice lo hi none p2) v (.ref s3.heap.objs.size)) (EP X pins σ Q) X.xe { s3 with heap:=s3.heap.push { cls:=.type "slice",data:=.fields #[vl,vu,.none] } }
 exact tail_any (ops:=[.ref s3.heap.objs.size,v]) ht hT hg (by with_unfolding_all rfl)
def jY(xs:List V)(lo hi:Option Int):List V:=(xs.drop (HT.dO xs.length 0 lo)).take (HT.dO xs.length xs.length hi-HT.dO xs.length 0 lo)
theorem vj(xs:List V)(lo hi:Option Int):(jY xs lo hi).length<=xs.length:=by
 unfold jY
 rw[fZ,my]
 lia
def aCX(K:PySem.W.Frag):V->Option Int->Option Int->Hp->VK->Prop:=λx lo hi H Q=>∃a xs,x=.ref a/\yF K H a xs/\
 ¬(HT.dO xs.length 0 lo=0/\HT.dO xs.length xs.length hi=xs.length)/\∀p,H p=none->Q (.ref p) (upd H p (.tup (jY xs lo hi)))
theorem YS:Ui X (aCX X.K):=by
 intro pins s σ H x v vl vu lo hi sl Q I rx hs pl pu h
 obtain⟨a,xs,rfl,hx,hw,q⟩:=h
 cases rx
 obtain⟨its,r,ht,hz⟩:=I.tuple hx
 have hlen:its.toArray.size=xs.length:=by rw[bS];exact r.length.symm
 refine⟨"tuple",_,yJ.lookup,ht.typeIs,?_⟩
 refine HT.sV ht hs pl pu (by rw[hlen];exact hw) ?_ (by rw[hlen];exact hz)
 rw[hlen]
 refine⟨.ref s.heap.objs.size,_,I.laid (t':=s.toks) (o:=.tup (jY xs lo hi)) (λb ob q=>bN _ q) (bj _) ?_,rfl,q _ (I.bz.fresh (bj _))⟩
 exact⟨cQ (vj xs lo hi) hz,_,(r.drop (HT.dO xs.length 0 lo)).take (HT.dO xs.length xs.length hi-HT.dO xs.length 0 lo),IsTup.new _ _⟩
def aBa(K:PySem.W.Frag):R2:=λx y H Q=>∃a b xs ys,x=.ref a/\y=.ref b/\yF K H a xs/\yF K H b ys/\xs≠[]/\xs.length+ys.length<=sizeLine/\
 (ys=[]->Q (.ref a) H)/\(ys≠[]->∀p,H p=none->Q (.ref p) (upd H p (.tup (xs++ys))))
theorem Vals.BJ{xs:List V}{us:List Value}(r:Vals xs us):us=[]↔xs=[]:=by
 cases r with
 | nil=>simp
 | cons _ _=>simp
theorem V1:pG X (binaryOp .Add) (aBa X.K):=by
 intro pins s σ H x y v u Q I rx ry h
 obtain⟨a,b,xs,ys,rfl,rfl,ha,hb,hx,hz,q1,q2⟩:=h
 cases rx
 cases ry
 obtain⟨its,r1,p1,_⟩:=I.tuple ha
 obtain⟨Er,r2,p2,_⟩:=I.tuple hb
 refine HT.W8 p1 p2 (λz=>hx (r1.BJ.mp z)) (λz=>⟨.ref a,H,I,rfl,q1 (r2.BJ.mp z)⟩) (λz=>?_) (by rw[<-r1.length,<-r2.length];exact hz)
 refine⟨.ref s.heap.objs.size,_,I.laid (t':=s.toks) (o:=.tup (xs++ys)) (λb ob q=>bN _ q) (bj _) ?_,rfl,q2 (λw=>z (r2.BJ.mpr w)) _ (I.bz.fresh (bj _))⟩
 exact⟨by rw[cS];exact hz,_,r1.append r2,IsTup.new _ _⟩
end
end L2
namespace L2
open PySem PySem.Spec PyProof.Rows
def Ir(n:Nat)(i:Int):Option Nat:=if 0<=i then (if i<n then some i.toNat else none) else if -(n:Int)<=i then some (i+n).toNat else none
def v7{α:Type}(xs:List α)(i:Int):Option α:=(Ir xs.length i).bind λj=>xs[j]?
theorem Ko{n:Nat}{i:Int}{j:Nat}(h:Ir n i=some j):seqIndex? i n=some j/\j<n/\-(n:Int)<=i/\i<n:=by
 unfold Ir at h
 by_cases h0:0<=i
 ·rw[ay h0]at h
  by_cases h1:i<n
  ·rw[ay h1]at h
   have e:i.toNat=j:=fw h
   exact⟨by rw[seqIndex_of h0 h1,e],by lia,by lia,h1⟩
  ·rw[aE h1]at h;cases h
 ·rw[aE h0]at h
  by_cases h1 : -(n:Int)<=i
  ·rw[ay h1]at h
   have e:(i+n).toNat=j:=fw h
   exact⟨by rw[seqIndex_neg (by lia) h1,e],by lia,h1,by lia⟩
  ·rw[aE h1]at h;cases h
theorem Cy{α:Type}{xs:List α}{i:Int}{v:α}(h:v7 xs i=some v):∃j,seqIndex? i xs.length=some j/\xs[j]?=some v/\j<xs.length/\-(xs.length:Int)<=i/\i<xs.length:=by
 unfold v7 at h
 cases e:Ir xs.length i with
 | none=>rw[e]at h;cases h
 | some j=>
  rw[e]at h
  obtain⟨h1,h2,h3,h4⟩:=Ko e
  exact⟨j,h1,h,h2,h3,h4⟩
theorem iX{α:Type}{xs:List α}{j:Nat}{v:α}(h:xs[j]?=some v):v7 xs (j:Int)=some v:=by
 have hj:j<xs.length:=(fq.mp h).1
 have e:Ir xs.length (j:Int)=some j:=by
  unfold Ir
  rw[ay (by lia),ay (by lia)];simp
 unfold v7;rw[e];exact h
theorem Tx{α:Type}(xs:List α)(v:α):v7 (xs++[v]) (-1)=some v:=by
 have hl:(xs++[v]).length=xs.length+1:=by simp
 have e:Ir (xs++[v]).length (-1)=some xs.length:=by
  unfold Ir
  rw[hl,aE (by decide),ay (by lia)]
  congr 1
  lia
 unfold v7
 rw[e]
 show(xs++[v])[xs.length]?=some v
 simp
def Lk(b:Expr):Prop:=∀o i,subscripted b false o i=operate [o,i] (getItem o i)
def Xg(X:Cx)(r:R2):Prop:=
 ∀(value slice:Expr) (pins:List (Addr×Obj)) (s:Shared) (σ:St) (H:Hp) (x y:V) (v u:Value) (Q:VK),Inv X pins σ H s->RelV x v->RelV y u->r x y H Q->
  subscripted slice false v u=operate [v,u] (getItem v u)->wpAny (model X.prog X.w) X.A (subscriptTail value slice v u) (EP X pins σ Q) X.xe s
def MtR(X:Cx)(id:String)(r:V->List V->Hp->VK->Prop):Prop:=
 ∀(pins:List (Addr×Obj)) (s:Shared) (σ:St) (H:Hp) (x:V) (xs:List V) (v:Value) (us:List Value) (Q:VK),Inv X pins σ H s->RelV x v->Vals xs us->r x xs H Q->
  wpAny (model X.prog X.w) X.A (call (.builtin id) (v::us)) (EP X pins σ Q) X.xe s
section
variable {X:Cx}{a b:Expr}{ta tb:TE}{pos:Pos}
theorem aBj{r:R2}(hr:Xg X r)(ha:PE X a ta)(hb:PE X b tb)(hs:Lk b):PE X (.Subscript a b pos) (Pp r ta tb):=by
 intro pins s σ H Q I h
 exact Subscript_ (aAE ha hb I h λv u s2 x y H2 I2 rx ry q=>hr a b pins s2 σ H2 x y v u Q I2 rx ry q (hs _ _))
def aC0(K:PySem.W.Frag):R2:=λx y H Q=>∃p xs i v,x=.ref p/\y=.int i/\rE K H p xs/\v7 xs i=some v/\Q v H
def aCZ(K:PySem.W.Frag):R2:=λx y H Q=>∃p xs i v,x=.ref p/\y=.int i/\yF K H p xs/\v7 xs i=some v/\Q v H
theorem Wi:Xg X (aC0 X.K):=by
 intro value slice pins s σ H x y v u Q I rx ry h hs
 obtain⟨p,xs,i,z,rfl,rfl,hq,he,q⟩:=h
 cases rx
 obtain⟨t,rfl⟩:=ry
 obtain⟨its,r,pl,hz⟩:=I.list hq
 obtain⟨j,h1,h2,h3,h4,h5⟩:=Cy he
 obtain⟨w,ew,Qe⟩:=r.get h2
 have hl:=r.length
 have hn:=xu
 have fin:EP X pins σ Q w s:=⟨z,H,I,Qe,q⟩
 by_cases h0:0<=i
 ·have hj:i.toNat=j:=by
   rw[seqIndex_of h0 h5]at h1
   exact fw h1
  exact item_listR pl.isList h0 (by lia) (by rw[hj];simpa using ew) fin hs
 ·have hj:(i+(its.toArray.size:Int)).toNat=j:=by
   rw[seqIndex_neg (by lia) h4]at h1
   rw[bS,<-hl]
   exact fw h1
  exact subscriptTail_builtinR (x:=w) pl.isList.typeIs slot_list_getitem.lookup
   (wpAny_getItem_list_neg (Q:=λr s'=>r=w/\EP X pins σ Q r s') pl.isList (by lia) (by rw[bS] <;> lia) (by lia) (by rw[hj];simpa using ew) ⟨rfl,fin⟩) hs
theorem aAh:Xg X (aCZ X.K):=by
 intro value slice pins s σ H x y v u Q I rx ry h hs
 obtain⟨p,xs,i,z,rfl,rfl,hq,he,q⟩:=h
 cases rx
 obtain⟨t,rfl⟩:=ry
 obtain⟨its,r,pl,hz⟩:=I.tuple hq
 obtain⟨j,h1,h2,h3,h4,h5⟩:=Cy he
 obtain⟨w,ew,Qe⟩:=r.get h2
 have hl:=r.length
 have hn:=xu
 have fin:EP X pins σ Q w s:=⟨z,H,I,Qe,q⟩
 exact subscriptTail_builtinR (x:=w) pl.typeIs slot_tuple_getitem.lookup
  (getItem_tuple (j:=j) (Q:=λr s'=>r=w/\EP X pins σ Q r s') pl (by lia) (by lia) (by rw[bS,<-hl];exact h1) (by simpa using ew) ⟨rfl,fin⟩) hs
theorem HS(its:List Value)(n j:Nat)(u:Value):Obj.mapSeq (·.setIfInBounds j u) { cls:=.type "list",data:=.seq its.toArray n }={ cls:=.type "list",data:=.seq (its.set j u).toArray n }:=by
 simp[Obj.mapSeq]
theorem Inv.lst{pins:List (Addr×Obj)}{σ:St}{H:Hp}{s:Shared}{p:Addr}{xs:List V}(I:Inv X pins σ H s)(h:H p=some (.lst xs)) :
  ∃(its:List Value) (n:Nat),Vals xs its/\s.heap.get? p=some { cls:=.type "list",data:=.seq its.toArray n }/\xs.length<=sizeLine:=by
 obtain⟨z,its,n,r,e⟩:=I.bz p _ h
 exact⟨its,n,r,e,z⟩
theorem Inv.Z8{pins:List (Addr×Obj)}{σ:St}{H:Hp}{s:Shared}{p:Addr}{xs ys:List V}{its its':List Value}{n n':Nat}{f:Obj->Obj}(I:Inv X pins σ H s)(h:H p=some (.lst xs))
  (ho:s.heap.get? p=some { cls:=.type "list",data:=.seq its.toArray n }) (hf:f { cls:=.type "list",data:=.seq its.toArray n }={ cls:=.type "list",data:=.seq its'.toArray n' }) (r:Vals ys its') (hz:ys.length<=sizeLine) (t:Nat) :
  Inv X pins σ (upd H p (.lst ys)) { s with heap:=s.heap.update p f,toks:=t }:=by
 have e:(s.heap.update p f).get? p=some { cls:=.type "list",data:=.seq its'.toArray n' }:=by
  rw[pL f ho (by rw[hf] <;> rfl),hf]
 refine I.write (x:=p) (e:=p) (by rw[h];trivial) (.inl rfl) (λb u hb q=>(uV _ _ (eK hb)).trans q) ⟨_,e⟩ ?_
 exact⟨hz,its',n',r,e⟩
def aA9:V->V->V->Hp->(Hp->Prop)->Prop:=λo i v H Q=>∃p xs k j,o=.ref p/\i=.int k/\H p=some (.lst xs)/\Ir xs.length k=some j/\Q (upd H p (.lst (xs.set j v)))
theorem set_list:N9 X aA9:=by
 intro pins s σ H o i v ov iv u Q I ro ri rv h
 obtain⟨p,xs,k,j,rfl,rfl,hp,hj,q⟩:=h
 cases ro
 obtain⟨t,rfl⟩:=ri
 obtain⟨its,n,r,ho,hz⟩:=I.lst hp
 obtain⟨h1,h2,h3,h4⟩:=Ko hj
 have hl:=r.length
 have hn:=xu
 have I':Inv X pins σ (upd H p (.lst (xs.set j v))) { s with heap:=s.heap.update p (Obj.mapSeq (·.setIfInBounds j u)) }:=
  I.Z8 hp ho (HS its n j u) (r.set rv j) (by rw[List.length_set];exact hz) s.toks
 by_cases h0:0<=k
 ·have hk:k.toNat=j:=by
   rw[seqIndex_of h0 h4]at h1
   exact fw h1
  exact PySem.W.ki_setAt ho h0 (by lia) (by rw[bS,<-hl];exact h4) (by rw[hk];exact⟨_,I',q⟩)
 ·have hk:(k+(its.toArray.size:Int)).toNat=j:=by
   rw[seqIndex_neg (by lia) h3]at h1
   rw[bS,<-hl]
   exact fw h1
  exact PySem.W.ki_setBack ho (by lia) (by rw[bS,<-hl];exact h3) (by lia) (by rw[hk];exact⟨_,I',q⟩)
theorem Bc(lo hi:Option Int)(n:Nat):(sliceBounds lo hi none n).1=((HT.dO n 0 lo:Nat):Int)/\(sliceBounds lo hi none n).2.1=((HT.dO n n hi:Nat):Int)/\(sliceBounds lo hi none n).2.2=1:=by
 refine⟨?_,?_,rfl⟩
 ·cases lo with
  | none=>simp[sliceBounds,HT.dO]
  | some i=>
   simp only[sliceBounds,HT.dO,Option.getD_none,show(1:Int) > 0 by decide,gB]
   by_cases h:i<0
   ·simp only[h,gB] <;> lia
   ·simp only[h,fu] <;> lia
 ·cases hi with
  | none=>simp[sliceBounds,HT.dO]
  | some i=>
   simp only[sliceBounds,HT.dO,Option.getD_none,show(1:Int) > 0 by decide,gB]
   by_cases h:i<0
   ·simp only[h,gB] <;> lia
   ·simp only[h,fu] <;> lia
theorem yd(its:List Value)(lo hi:Option Int):slicePick its.toArray lo hi none=((its.drop (HT.dO its.length 0 lo)).take (HT.dO its.length its.length hi-HT.dO its.length 0 lo)).toArray:=by
 obtain⟨h1,h2,h3⟩:=Bc lo hi its.toArray.size
 unfold slicePick
 rw[h1,h2,h3]
 simp only[sliceRange_one,pick_run,bS] <;> rfl
def aCY(K:PySem.W.Frag):V->Option Int->Option Int->Hp->VK->Prop:=λx lo hi H Q=>∃a xs,x=.ref a/\rE K H a xs/\∀p,H p=none->Q (.ref p) (upd H p (.lst (jY xs lo hi)))
theorem JZ:Ui X (aCY X.K):=by
 intro pins s σ H x v vl vu lo hi sl Q I rx hs pl pu h
 obtain⟨a,xs,rfl,hx,q⟩:=h
 cases rx
 obtain⟨its,r,ht,hz⟩:=I.list hx
 have hlen:=r.length
 refine⟨"list",_,slot_list_getitem.lookup,ht.isList.typeIs,?_⟩
 refine wpAny_getItem_list_slice ht.isList hs pl pu .none (by simp) ?_ (by rw[bS] <;> lia)
 rw[yd,<-hlen]
 refine⟨.ref s.heap.objs.size,_,I.laid (t':=s.toks) (o:=.lst (jY xs lo hi)) (λb ob q=>bN _ q) (bj _) ?_,rfl,q _ (I.bz.fresh (bj _))⟩
 exact⟨cQ (vj xs lo hi) hz,_,0,(r.drop (HT.dO xs.length 0 lo)).take (HT.dO xs.length xs.length hi-HT.dO xs.length 0 lo),cC _ rfl⟩
def jO:V->Bool
 | .non=>true
 | .bl _=>true
 | .int _=>true
 | .str _=>true
 | _=>false
def Ou:V->V->Bool
 | .non,.non=>true
 | .bl a,.bl b=>a==b
 | .bl a,.int b=>(if a then 1 else 0)==b
 | .int a,.bl b=>a==(if b then 1 else 0)
 | .int a,.int b=>a==b
 | .str a,.str b=>a==b
 | _,_=>false
theorem S7{A:Around}{s:Shared}{y x:V}{u v:Value}(ry:RelV y u)(rx:RelV x v)(fy:jO y=true)(fx:jO x=true):SeqAt.EqAt A s u v (Ou y x):=by
 cases y with
 | non=>
  cases ry
  cases x with
  | non=>cases rx;exact SeqAt.EqAt.same _
  | bl b=>cases rx;exact SeqAt.EqAt.none_bool b
  | int b=>obtain⟨t,rfl⟩:=rx;exact SeqAt.EqAt.none_int b t
  | str b=>obtain⟨t,rfl⟩:=rx;exact SeqAt.EqAt.none_str b t
  | _=>exact absurd (show false=true from fx) gb
 | bl a=>
  cases ry
  cases x with
  | non=>cases rx;exact SeqAt.EqAt.bool_none a
  | bl b=>cases rx;exact SeqAt.EqAt.bool_bool a b
  | int b=>obtain⟨t,rfl⟩:=rx;exact SeqAt.EqAt.bool_int a b t
  | str b=>obtain⟨t,rfl⟩:=rx;exact SeqAt.EqAt.bool_str a b t
  | _=>exact absurd (show false=true from fx) gb
 | int a=>
  obtain⟨t',rfl⟩:=ry
  cases x with
  | non=>cases rx;exact SeqAt.EqAt.int_none a t'
  | bl b=>cases rx;exact SeqAt.EqAt.int_bool a t' b
  | int b=>obtain⟨t,rfl⟩:=rx;exact SeqAt.EqAt.int_int a t' b t
  | str b=>obtain⟨t,rfl⟩:=rx;exact SeqAt.EqAt.int_str a t' b t
  | _=>exact absurd (show false=true from fx) gb
 | str a=>
  obtain⟨t',rfl⟩:=ry
  cases x with
  | non=>cases rx;exact SeqAt.EqAt.str_none a t'
  | bl b=>cases rx;exact SeqAt.EqAt.str_bool a t' b
  | int b=>obtain⟨t,rfl⟩:=rx;exact SeqAt.EqAt.str_int a t' b t
  | str b=>obtain⟨t,rfl⟩:=rx;exact SeqAt.EqAt.str_str a t' b t
  | _=>exact absurd (show false=true from fx) gb
 | _=>exact absurd (show false=true from fy) gb
def Jd(x:V)(u:Value):Bool:=match u with
 | .none=>Ou .non x
 | .bool b=>Ou (.bl b) x
 | .int i _=>Ou (.int i) x
 | .str z _=>Ou (.str z) x
 | _=>false
theorem SX{x y:V}{u:Value}(r:RelV y u)(f:jO y=true):Jd x u=Ou y x:=by
 cases y with
 | non=>cases r;rfl
 | bl b=>cases r;rfl
 | int i=>obtain⟨t,rfl⟩:=r;rfl
 | str z=>obtain⟨t,rfl⟩:=r;rfl
 | _=>exact absurd (show false=true from f) gb
theorem tE{x:V}:∀{xs:List V} {us:List Value},Vals xs us->xs.all jO=true->us.any (Jd x)=xs.any λy=>Ou y x
 | _,_,.nil,_=>rfl
 | y::xs,u::us,.cons r t,f=>by
  rw[wu,dv]at f
  rw[qb,qb,SX r f.1,tE t f.2]
theorem ow{A:Around}{s:Shared}{x:V}{v:Value}(rx:RelV x v)(fx:jO x=true):∀{xs:List V} {us:List Value},Vals xs us->xs.all jO=true->∀u∈us,SeqAt.EqAt A s u v (Jd x u)
 | _,_,.nil,_=>λu hu=>by cases hu
 | y::xs,u::us,.cons r t,f=>λu' hu=>by
  rw[wu,dv]at f
  rcases bJ.mp hu with rfl | hu
  ·rw[SX r f.1];exact S7 r rx f.1 fx
  ·exact ow rx fx t f.2 u' hu
def Xz(x:V)(xs:List V):Bool:=xs.any λy=>Ou y x
def rIn(K:PySem.W.Frag)(neg:Bool):R2:=λx y H Q=>∃p xs,y=.ref p/\(rE K H p xs\/yF K H p xs)/\jO x=true/\xs.all jO=true/\Q (.bl (if neg then !Xz x xs else Xz x xs)) H
theorem Mw:pG X (compareOp .In) (rIn X.K false):=by
 intro pins s σ H x y v u Q I rx ry h
 obtain⟨p,xs,rfl,hq,fx,fs,q⟩:=h
 cases ry
 rcases hq with hq | hq
 ·obtain⟨its,r,pl,hz⟩:=I.list hq
  refine SeqAt.in_listAt (Jd x) pl.isList (λw hw=>ow rx fx r fs w (by simpa using hw)) ⟨.bl _,H,I,rfl,?_⟩
  rw[show its.toArray.any (Jd x)=its.any (Jd x) by simp,tE r fs]
  exact q
 ·obtain⟨its,r,pl,hz⟩:=I.tuple hq
  refine SeqAt.in_tupleAt (Jd x) pl (λw hw=>ow rx fx r fs w (by simpa using hw)) ⟨.bl _,H,I,rfl,?_⟩
  rw[show its.toArray.any (Jd x)=its.any (Jd x) by simp,tE r fs]
  exact q
theorem Bt:pG X (compareOp .NotIn) (rIn X.K true):=by
 intro pins s σ H x y v u Q I rx ry h
 obtain⟨p,xs,rfl,hq,fx,fs,q⟩:=h
 cases ry
 rcases hq with hq | hq
 ·obtain⟨its,r,pl,hz⟩:=I.list hq
  refine SeqAt.notIn_listAt (Jd x) pl.isList (λw hw=>ow rx fx r fs w (by simpa using hw)) ⟨.bl _,H,I,rfl,?_⟩
  rw[show its.toArray.any (Jd x)=its.any (Jd x) by simp,tE r fs]
  exact q
 ·obtain⟨its,r,pl,hz⟩:=I.tuple hq
  refine SeqAt.notIn_tupleAt (Jd x) pl (λw hw=>ow rx fx r fs w (by simpa using hw)) ⟨.bl _,H,I,rfl,?_⟩
  rw[show its.toArray.any (Jd x)=its.any (Jd x) by simp,tE r fs]
  exact q
theorem tf:fz X (.builtin "len") (λxs H Q=>∃p ys,xs=[.ref p]/\(rE X.K H p ys\/yF X.K H p ys)/\Q (.int ys.length) H):=by
 intro pins s σ H xs us Q I r h
 obtain⟨p,ys,rfl,hq,q⟩:=h
 obtain⟨u,rfl,rx⟩:=vals1 r
 cases rx
 have hn:=xu
 rcases hq with hq | hq
 ·obtain⟨its,r',pl,hz⟩:=I.list hq
  have hlen:=r'.length
  exact Calls.call_len_list pl.isList (by simp only[bS] <;> lia) ⟨.int ys.length,H,I.tok _,⟨s.toks+1,by rw[bS,hlen]⟩,q⟩
 ·obtain⟨its,r',pl,hz⟩:=I.tuple hq
  have hlen:=r'.length
  exact len_tuple pl (by simp only[bS] <;> lia) ⟨.int ys.length,H,I.tok _,⟨s.toks+1,by rw[bS,hlen]⟩,q⟩
theorem Cr:fz X (.type "list") (λxs H Q=>∃p ys,xs=[.ref p]/\(rE X.K H p ys\/yF X.K H p ys)/\∀l,H l=none->Q (.ref l) (upd H l (.lst ys))):=by
 intro pins s σ H xs us Q I r h
 obtain⟨p,ys,rfl,hq,q⟩:=h
 obtain⟨u,rfl,rx⟩:=vals1 r
 cases rx
 have fin:∀(its:List Value),Vals ys its->ys.length<=sizeLine->∀(h':Heap) (c':Nat),(∀b o',s.heap.get? b=some o'->h'.get? b=some o')->
   h'.get? s.heap.objs.size=some { cls:=.type "list",dict:=none,data:=.seq its.toArray c',slots:=#[] }->EP X pins σ Q (.ref s.heap.objs.size) { s with heap:=h' }:=λits r' hz h' c' kp e=>
  ⟨.ref s.heap.objs.size,_,I.laid (t':=s.toks) kp (bj _) (show dy X.prog X.w _ h' _ (.lst ys) from ⟨hz,its,c',r',e⟩),rfl,q _ (I.bz.fresh (bj _))⟩
 rcases hq with hq | hq
 ·obtain⟨its,r',pl,hz⟩:=I.list hq
  have hlen:=r'.length
  obtain⟨o,ho,hc,n,hd⟩:=pl.isList
  exact call_list_seq p (.inl rfl) ho hc hd (λh' c' kp e=>fin its r' hz h' c' kp e) (by simp only[bS] <;> lia)
 ·obtain⟨its,r',pl,hz⟩:=I.tuple hq
  have hlen:=r'.length
  obtain⟨o,ho,hc,n,hd⟩:=pl
  exact call_list_seq p (.inr rfl) ho hc hd (λh' c' kp e=>fin its r' hz h' c' kp e) (by simp only[bS] <;> lia)
theorem yC:fz X (.type "tuple") (λxs H Q=>∃p ys,xs=[.ref p]/\((rE X.K H p ys/\∀l,H l=none->Q (.ref l) (upd H l (.tup ys)))\/(yF X.K H p ys/\Q (.ref p) H))):=by
 intro pins s σ H xs us Q I r h
 obtain⟨p,ys,rfl,h⟩:=h
 obtain⟨u,rfl,rx⟩:=vals1 r
 cases rx
 rcases h with ⟨hq,q⟩ | ⟨hq,q⟩
 ·obtain⟨its,r',pl,hz⟩:=I.list hq
  have hlen:=r'.length
  refine call_tuple_list pl.isList (λh' kp=>?_) (by simp only[bS] <;> lia)
  have I1:Inv X pins σ H { s with heap:=h' }:=I.kept (t':=s.toks) kp
  have I2:Inv X pins σ (upd H h'.objs.size (.tup ys)) { s with heap:=h'.push { cls:=.type "tuple",data:=.seq its.toArray } }:=
   I1.laid (t':=s.toks) (λb o e=>bN _ e) (bj _) (show dy X.prog X.w _ _ _ (.tup ys) from ⟨hz,its,r',IsTup.new _ _⟩)
  exact⟨.ref h'.objs.size,_,I2,rfl,q _ (I1.bz.fresh (bj _))⟩
 ·obtain⟨its,r',pl,hz⟩:=I.tuple hq
  exact call_tuple_same pl ⟨.ref p,H,I,rfl,q⟩
def tyV(K:PySem.W.Frag)(T:String)(x:V)(H:Hp):Prop:=match x with
 | .str _=>T = "str"
 | .int _=>T = "int"
 | .ref p=>(T = "list"/\∃xs,rE K H p xs)\/(T = "tuple"/\∃o,K.lookup p=some o/\o.cls=.type "tuple"/\o.dict=none)\/
   (T = "dict"/\((∃aO,H p=some (.dK aO))\/∃aO,H p=some (.dT aO)))\/(T = "set"/\∃S n,H p=some (.set S n))
 | _=>False
theorem Yw{pins:List (Addr×Obj)}{σ:St}{H:Hp}{s:Shared}{T:String}{x:V}{v:Value}(I:Inv X pins σ H s)(r:RelV x v)(ty:tyV X.K T x H) :
  s.TypeIs v T/\∀a,v=.ref a->∃ob,s.heap.get? a=some ob/\ob.dict=none:=by
 cases x with
 | str z=>
  obtain⟨t,rfl⟩:=r
  cases (show T = "str" from ty)
  exact⟨typeIs_str s z t,λ_ e=>nomatch e⟩
 | int i=>
  obtain⟨t,rfl⟩:=r
  cases (show T = "int" from ty)
  exact⟨typeIs_int s i t,λ_ e=>nomatch e⟩
 | ref p=>
  cases r
  rcases ty with ⟨rfl,xs,hq⟩ | ⟨rfl,o,hk,hc,hd⟩ | ⟨rfl,hk⟩ | ⟨rfl,S,n,hk⟩
  ·obtain⟨its,_,pl,_⟩:=I.list hq
   refine⟨pl.isList.typeIs,λa e=>?_⟩
   cases e
   obtain⟨o,n,e,c,hd,_⟩:=pl
   exact⟨o,e,hd⟩
  ·refine⟨⟨o,I.nH p o hk,hc⟩,λa e=>?_⟩
   cases e
   exact⟨o,I.nH _ o hk,hd⟩
  ·have z:∃o,s.heap.get? p=some o/\o.ExactDict:=by
    rcases hk with ⟨aO,hk⟩ | ⟨aO,hk⟩
    ·obtain⟨_,_,_,_,o,_,_,e,ex,_⟩:=I.bz p _ hk
     exact⟨o,e,ex⟩
    ·obtain⟨_,_,_,_,o,_,_,e,ex,_⟩:=I.bz p _ hk
     exact⟨o,e,ex⟩
   obtain⟨o,e,ex⟩:=z
   refine⟨⟨o,e,ex.1⟩,λa e2=>?_⟩
   cases e2
   exact⟨o,e,ex.2.1⟩
  ·obtain⟨o,_,_,_,e,ex,_⟩:=I.bz p _ hk
   refine⟨⟨o,e,ex.1⟩,λa e2=>?_⟩
   cases e2
   exact⟨o,e,ex.2.1⟩
 | _=>exact False.elim ty
def YD(K:PySem.W.Frag)(T:String)(r:V->List V->Hp->VK->Prop)(to:TE):TE:=λσ H Q=>to σ H λx H1=>tyV K T x H1/\r x [] H1 Q
def tBM(K:PySem.W.Frag)(T:String)(r:V->List V->Hp->VK->Prop)(to:TE)(t:TA):TE:=λσ H Q=>to σ H λx H1=>tyV K T x H1/\t σ H1 λxs H2=>r x xs H2 Q
variable {o e:Expr}{es:List Expr}{to:TE}{t:TA}{name:Str}{apos du:Pos}{T id:String}{r:V->List V->Hp->VK->Prop}
theorem zg(pa:PlainAttrs T)(slot:Slot T name id)(hty:typeOf (.builtin id)=pure (.type "method_descriptor"))(hm:MtR X id r)(ho:PE X o to)(ha:PA X (e::es) t)
  (aBJ:attributeBase o name X.env (eval o X.env)=eval o X.env:=by rfl)
  (aEJ:((backTo du (starEach (e::es) X.env)).all (λx=>!x.1)&&(backToKw du (keywordEach [] X.env)).all (λx=>x.1.isSome)
   && decide ((e::es).length+([]:List Keyword).length+(if ([]:List Keyword).isEmpty then 0 else 1)<30))=true:=by rfl)
  (hline:(apos.endLine==du.line)=true:=by rfl) (hs:starEach (e::es) X.env=(false,eval e X.env)::starEach es X.env:=by rfl) (aAo:(backTo du (starEach es X.env)).any (·.1)=false:=by rfl) :
  PE X (.Call (.Attribute o name apos) (e::es) [] du) (tBM X.K T r to t):=by
 intro pins s σ H Q I h
 refine wpAny_Call_method_late aBJ aEJ hline rfl (cT (ho pins s σ H _ I h) λv s1 ⟨x,H1,I1,r1,ty,q1⟩=>?_)
 obtain⟨h1,h2⟩:=Yw I1 r1 ty
 refine⟨T,id,pa,slot,hty,h1,h2,?_⟩
 have hA:=ha du pins s1 σ H1 _ I1 q1
 rw[hs]at hA ⊢
 refine Calls.callWith_builtin (by show(false||(backTo du (starEach es X.env)).any (·.1))=false;rw[aAo] <;> rfl) (Calls.evalArgs_plain ?_)
 exact cT hA λus s2 ⟨vs,H2,I2,r2,q2⟩=>hm pins s2 σ H2 x vs v us Q I2 r1 r2 q2
end
end L2
namespace L2
open PySem PySem.Spec PyProof.Rows
def MtM(X:Cx)(id:String)(r:V->List V->Hp->VK->Prop):Prop:=
 ∀(pins:List (Addr×Obj)) (s:Shared) (σ:St) (H:Hp) (x:V) (xs:List V) (v:Value) (us:List Value) (Q:VK),Inv X pins σ H s->RelV x v->Vals xs us->r x xs H Q->
  wpAny (model X.prog X.w) X.A (call (.builtin id) (v::us)) (EP X pins σ Q) X.xe s
theorem Vals.one:∀{x:V} {us:List Value},Vals [x] us->∃u,us=[u]/\RelV x u
 | _,_,.cons r .nil=>⟨_,rfl,r⟩
theorem Vals.two:∀{x y:V} {us:List Value},Vals [x,y] us->∃u v,us=[u,v]/\RelV x u/\RelV y v
 | _,_,_,.cons r (.cons q .nil)=>⟨_,_,rfl,r,q⟩
section
variable {X:Cx}{pins:List (Addr×Obj)}{σ:St}{H:Hp}{s:Shared}{l b:Addr}{xs ys zs:List V}
theorem Inv.aD3{its its':List Value}{n:Nat}{f:Array Value->Array Value}{t':Nat}(I:Inv X pins σ H s)(hH:H l=some (.lst xs))
  (e:s.heap.get? l=some { cls:=.type "list",data:=.seq its.toArray n }) (hf:f its.toArray=its'.toArray) (hv:Vals ys its') (hz:ys.length<=sizeLine) :
  Inv X pins σ (upd H l (.lst ys)) { s with heap:=s.heap.update l (Obj.mapSeq f),toks:=t' }:=by
 have q:=PySem.IsL.update e f
 rw[hf]at q
 refine I.write (x:=l) (e:=l) (by rw[hH];exact trivial) (.inl rfl) (λb' u hb hu=>(uV s.heap (Obj.mapSeq f) (eK hb)).trans hu) ⟨_,q⟩ ?_
 exact⟨hz,its',_,hv,q⟩
theorem Inv.aD4{its:List Value}{t':Nat}(I:Inv X pins σ H s)(hv:Vals ys its)(hz:ys.length<=sizeLine) :
  Inv X pins σ (upd H s.heap.objs.size (.lst ys)) { s with heap:=s.heap.push { cls:=.type "list",data:=.seq its.toArray },toks:=t' }:=
 I.laid (λ_ _ q=>bN _ q) (bj _) ⟨hz,its,0,hv,cC _ rfl⟩
theorem Inv.fresh(I:Inv X pins σ H s):H s.heap.objs.size=none:=I.bz.fresh (bj _)
theorem Inv.Z9(I:Inv X pins σ H s)(hH:H l=some (.lst xs)):xs.length<=sizeLine/\∃(its:List Value) (n:Nat),Vals xs its/\xs.length=its.length/\s.heap.get? l=some { cls:=.type "list",data:=.seq its.toArray n }:=by
 obtain⟨z,its,n,r,e⟩:=I.bz l _ hH
 exact⟨z,its,n,r,r.length,e⟩
end
section
variable {X:Cx}
def vR:V->List V->Hp->VK->Prop:=λx vs H Q=>∃l xs y,x=.ref l/\vs=[y]/\H l=some (.lst xs)/\xs.length<sizeLine/\Q .non (upd H l (.lst (xs++[y])))
theorem fj:MtM X "list.append" vR:=by
 intro pins s σ H x vs v us Q I rx rv h
 obtain⟨l,xs,y,rfl,rfl,hH,hz,q⟩:=h
 cases rx
 obtain⟨u,rfl,ru⟩:=rv.one
 obtain⟨z,its,n,r,hl,e⟩:=I.Z9 hH
 refine call_meets F.slot_list_append ⟨_,e,rfl⟩ F.entry_list_append (F.args_list_append_2 _ _) (PySem.list_append l its.toArray n u (by rw[bS];lia)) ⟨e,?_⟩
 refine⟨.non,_,I.aD3 (its':=its++[u]) hH e (by simp) (r.append (.cons ru .nil)) ?_,rfl,q⟩
 rw[cS,GD]
 lia
def Bk:V->List V->Hp->VK->Prop:=λx vs H Q=>∃l b xs zs,x=.ref l/\vs=[.ref b]/\H l=some (.lst xs)/\H b=some (.lst zs)/\xs.length+zs.length<=sizeLine/\Q .non (upd H l (.lst (xs++zs)))
def uh:V->List V->Hp->VK->Prop:=λx vs H Q=>∃l xs i k y,x=.ref l/\vs=[.int i]/\H l=some (.lst xs)/\-(2 ^ 63)<=i/\i<2 ^ 63/\seqIndex? i xs.length=some k/\xs[k]?=some y/\Q y (upd H l (.lst (xs.eraseIdx k)))
def xf:V->List V->Hp->VK->Prop:=λx vs H Q=>∃l xs,x=.ref l/\vs=[]/\H l=some (.lst xs)/\Q .non (upd H l (.lst xs.reverse))
def Hl:V->List V->Hp->VK->Prop:=λx vs H Q=>∃l xs,x=.ref l/\vs=[]/\H l=some (.lst xs)/\Q .non (upd H l (.lst []))
def Ve:R2:=λx y H Q=>∃l b xs zs,x=.ref l/\y=.ref b/\H l=some (.lst xs)/\H b=some (.lst zs)/\xs.length+zs.length<=sizeLine/\∀p,H p=none->Q (.ref p) (upd H p (.lst (xs++zs)))
theorem Hx:pG X (binaryOp .Add) Ve:=by
 intro pins s σ H x y v u Q I rx ry h
 obtain⟨l,b,xs,zs,rfl,rfl,hH,hB,hz,q⟩:=h
 cases rx
 cases ry
 obtain⟨z,its,n,r,hl,e⟩:=I.Z9 hH
 obtain⟨z2,Er,n2,r2,Ku,e2⟩:=I.Z9 hB
 refine PySem.P.add_list e e2 ?_ (by rw[bS,bS];lia)
 have ea:its.toArray++Er.toArray=(its++Er).toArray:=by simp
 rw[ea]
 exact⟨.ref _,_,I.aD4 (t':=s.toks) (r.append r2) (by rw[cS];lia),rfl,q _ I.fresh⟩
end
section
variable {prog:Program}{w:World}{A:Around}{E:Value->Shared->Prop}{s:Shared}
end
section
variable {X:Cx}
end
end L2
namespace L2
open PySem PySem.Spec PyProof.Rows
section
variable {κ:Type} [DecidableEq κ]
def gp(aO:List (κ×V))(k:κ):Option V:=(aO.find? λkv=>decide (kv.1=k)).map (·.2)
def putK(aO:List (κ×V))(k:κ)(v:V):List (κ×V):=
 if (aO.any λkv=>decide (kv.1=k))=true then aO.map (λkv=>if kv.1=k then (kv.1,v) else kv) else aO++[(k,v)]
def aBT(aO:List (κ×V))(k:κ):List (κ×V):=aO.filter λkv=>decide (kv.1≠k)
theorem eZ{p:κ×V}{r:List (κ×V)}{k:κ}(e:p.1=k):gp (p::r) k=some p.2:=by simp[gp,tS,e]
theorem e8{p:κ×V}{r:List (κ×V)}{k:κ}(e:¬p.1=k):gp (p::r) k=gp r k:=by simp[gp,tS,e]
theorem lG(k:κ):∀aO:List (κ×V),(aO.any λkv=>decide (kv.1=k))=(gp aO k).isSome
 | []=>rfl
 | p::r=>by
  rw[qb]
  by_cases e:p.1=k
  ·simp only[eZ e,decide_eq_true e,Bool.true_or,Gq]
  ·rw[e8 e,decide_eq_false e,Bool.false_or];exact lG k r
theorem Dh(k j:κ)(y:V):∀aO:List (κ×V),gp (aO.map λkv=>if kv.1=k then (kv.1,y) else kv) j=(gp aO j).map λx=>if j=k then y else x
 | []=>rfl
 | p::r=>by
  have ih:=Dh k j y r
  rw[dZ]
  by_cases h:p.1=k
  ·rw[ay h]
   by_cases e:p.1=j
   ·rw[eZ (p:=(p.1,y)) e,eZ e,qf,ay (e.symm.trans h)]
   ·rw[e8 (p:=(p.1,y)) e,e8 e,ih]
  ·rw[aE h]
   by_cases e:p.1=j
   ·rw[eZ (p:=p) e,eZ e,qf,aE (λz=>h (e.trans z))]
   ·rw[e8 (p:=p) e,e8 e,ih]
theorem yR(k j:κ)(y:V):∀aO:List (κ×V),gp aO k=none->gp (aO++[(k,y)]) j=if j=k then some y else gp aO j
 | [],_=>by
  by_cases e:k=j
  ·rw[ay e.symm];exact eZ (p:=(k,y)) e
  ·rw[aE (λz=>e z.symm)];exact e8 (p:=(k,y)) e
 | p::r,hn=>by
  rw[List.cons_append]
  have hk:¬p.1=k:=λz=>by rw[eZ z]at hn;cases hn
  rw[e8 hk]at hn
  have ih:=yR k j y r hn
  by_cases e:p.1=j
  ·rw[eZ e,eZ e,aE (λz=>hk (e.trans z))]
  ·rw[e8 e,e8 e,ih]
theorem Pa(aO:List (κ×V))(k j:κ)(y:V):gp (putK aO k y) j=if j=k then some y else gp aO j:=by
 unfold putK
 by_cases a:(aO.any λkv=>decide (kv.1=k))=true
 ·rw[ay a,Dh]
  rw[lG]at a
  by_cases e:j=k
  ·obtain⟨x,hx⟩:=Option.isSome_iff_exists.mp a
   rw[ay e,e,hx,qf,ay rfl]
  ·rw[aE e]
   cases gp aO j with
   | none=>rfl
   | some x=>rw[qf,aE e]
 ·rw[aE a]
  refine yR k j y aO ?_
  rw[lG]at a
  cases q:gp aO k with
  | none=>rfl
  | some x=>rw[q]at a;exact(a rfl).elim
theorem oz(aO:List (κ×V))(k:κ)(v:V):(putK aO k v).length<=aO.length+1:=by
 unfold putK
 split
 ·rw[aM];lia
 ·rw[cS,eV,wx];lia
theorem QD{aO:List (κ×V)}{k:κ}(v:V)(h:gp aO k=none):putK aO k v=aO++[(k,v)]:=by
 unfold putK
 rw[lG,h]
 exact aE (by decide)
theorem pF.uz{o:Option V}{u:Option Value}(r:pF o u):o.isSome=u.isSome:=by
 cases o with
 | none=>cases u with
  | none=>rfl
  | some _=>exact(show False from r).elim
 | some _=>cases u with
  | none=>exact(show False from r).elim
  | some _=>rfl
theorem KV.val{aO:List (κ×V)}{vs:List (κ×Value)}(r:KV aO vs)(k:κ):pF (gp aO k) (valueAt vs k):=by
 unfold KV at r
 induction r with
 | nil=>exact True.intro
 | @cons p q ps qs h t ih=>
  obtain⟨h1,h2⟩:=h
  by_cases e:p.1=k
  ·have e':q.1=k:=h1.symm.trans e
   have b:valueAt (q::qs) k=some q.2:=by simp[valueAt,tS,e']
   rw[eZ e,b];exact h2
  ·have e':¬q.1=k:=λz=>e (h1.trans z)
   have b:valueAt (q::qs) k=valueAt qs k:=by simp[valueAt,tS,e']
   rw[e8 e,b];exact ih
theorem KV.any{aO:List (κ×V)}{vs:List (κ×Value)}(r:KV aO vs)(k:κ):(aO.any λkv=>decide (kv.1=k))=vs.any λkv=>decide (kv.1=k):=by
 unfold KV at r
 induction r with
 | nil=>rfl
 | cons h t ih=>rw[qb,qb,ih,h.1]
theorem KV.repl{aO:List (κ×V)}{vs:List (κ×Value)}(r:KV aO vs)(k:κ){y:V}{u:Value}(ry:RelV y u) :
  KV (aO.map λkv=>if kv.1=k then (kv.1,y) else kv) (vs.map λkv=>if kv.1=k then (kv.1,u) else kv):=by
 unfold KV at r ⊢
 induction r with
 | nil=>exact .nil
 | @cons p q ps qs h t ih=>
  rw[dZ,dZ]
  refine .cons ?_ ih
  obtain⟨h1,h2⟩:=h
  by_cases e:p.1=k
  ·rw[ay e,ay (h1.symm.trans e)];exact⟨h1,ry⟩
  ·rw[aE e,aE (λz=>e (h1.trans z))];exact⟨h1,h2⟩
theorem KV.put{aO:List (κ×V)}{vs:List (κ×Value)}(r:KV aO vs)(k:κ){y:V}{u:Value}(ry:RelV y u):KV (putK aO k y) (stored vs k u):=by
 unfold putK stored
 rw[r.any k]
 by_cases e:(vs.any λkv=>decide (kv.1=k))=true
 ·rw[ay e,ay e];exact r.repl k ry
 ·rw[aE e,aE e];exact Paired.snoc r ⟨rfl,ry⟩
theorem KV.length{aO:List (κ×V)}{vs:List (κ×Value)}(r:KV aO vs):aO.length=vs.length:=Paired.length r
end
theorem Kn{P:Program}{w:World}{k:Key}{u:Value}(r:RelV (kV k) u):(dW P w).is k u=true:=by
 cases k with
 | inl i=>obtain⟨t,e⟩:=(show ∃t,u=Value.int i t from r);subst e;exact Ej P w i t
 | inr x=>obtain⟨t,e⟩:=(show ∃t,u=Value.str x t from r);subst e;exact Ei P w x t
theorem zu{P:Program}{w:World}:∀{ks:List Key} {us:List Value},Vals (ks.map kV) us->ItemsAre (dW P w) ks us
 | [],_,r=>by rw[zT]at r;cases r;exact .nil
 | k::ks,_,r=>by
  rw[dZ]at r
  cases r with
  | cons h t=>exact .cons (Kn h) (zu t)
abbrev KT(H:Hp):List (List Key×V)->List (List Key×Addr×Value)->Prop:=Paired λp q=>p.1=q.1/\H q.2.1=some (.tup (p.1.map kV))/\RelV p.2 q.2.2
theorem KT.val{H:Hp}{aO:List (List Key×V)}{xs:List (List Key×Addr×Value)}(r:KT H aO xs)(k:List Key):pF (gp aO k) ((atKey xs k).map (·.2)):=by
 induction r with
 | nil=>exact True.intro
 | @cons p q ps qs h t ih=>
  obtain⟨h1,_,h2⟩:=h
  by_cases e:p.1=k
  ·have e':q.1=k:=h1.symm.trans e
   have b:atKey (q::qs) k=some q.2:=by simp[atKey,tS,e']
   rw[eZ e,b];exact h2
  ·have e':¬q.1=k:=λz=>e (h1.trans z)
   have b:atKey (q::qs) k=atKey qs k:=by simp[atKey,tS,e']
   rw[e8 e,b];exact ih
theorem KT.repl{H:Hp}{aO:List (List Key×V)}{xs:List (List Key×Addr×Value)}(r:KT H aO xs)(k:List Key){y:V}{u:Value}(ry:RelV y u) :
  KT H (aO.map λkv=>if kv.1=k then (kv.1,y) else kv) (xs.map (putAt k u)):=by
 induction r with
 | nil=>exact .nil
 | @cons p q ps qs h t ih=>
  rw[dZ,dZ]
  refine .cons ?_ ih
  obtain⟨h1,h2,h3⟩:=h
  unfold putAt
  by_cases e:p.1=k
  ·rw[ay e,ay (h1.symm.trans e)];exact⟨h1,h2,ry⟩
  ·rw[aE e,aE (λz=>e (h1.trans z))];exact⟨h1,h2,h3⟩
theorem KT.put{H:Hp}{aO:List (List Key×V)}{xs:List (List Key×Addr×Value)}(r:KT H aO xs)(k:List Key){b:Addr}{y:V}{u:Value}(hb:H b=some (.tup (k.map kV)))(ry:RelV y u) :
  KT H (putK aO k y) (storedH xs k b u):=by
 have e:(aO.any λkv=>decide (kv.1=k))=(atKey xs k).isSome:=by
  rw[lG,(r.val k).uz,Option.isSome_map]
 unfold putK storedH
 rw[e]
 by_cases q:(atKey xs k).isSome=true
 ·rw[ay q,ay q];exact r.repl k ry
 ·rw[aE q,aE q];exact Paired.snoc r ⟨rfl,hb,ry⟩
theorem KT.keeps{H H':Hp}{aO:List (List Key×V)}{xs:List (List Key×Addr×Value)}(r:KT H aO xs)(ht:∀b ys,H b=some (.tup ys)->H' b=some (.tup ys)):KT H' aO xs:=
 Paired.Z4 r λ_ _ z=>⟨z.1,ht _ _ z.2.1,z.2.2⟩
section
variable {P:Program}{w:World}{H:Hp}{h:Heap}{a:Addr}
theorem Xq{u:HO}(ok:iQ P w H h)(e:Rd H a u):dy P w H h a u:=e.ok ok
theorem KR{aO:List (Key×V)}(ok:iQ P w H h)(e:Rd H a (.dK aO)):aO.length<=sizeLine/\(a==sysModules)=false/\∃vs,KV aO vs/\h.DictOf (dW P w) a vs:=
 show dy P w H h a (.dK aO) from Xq ok e
theorem aBU{aO:List (Key×V)}(ok:iQ P w H h)(e:H a=some (.dK aO)):aO.length<=sizeLine/\(a==sysModules)=false/\∃vs,KV aO vs/\h.DictOf (dW P w) a vs:=KR ok (.inl e)
theorem BV{ks:List Key}(ok:iQ P w H h)(e:H a=some (.tup (ks.map kV))):(tupleKind (dW P w)).is h ks a:=by
 obtain⟨_,its,r,o,h1,h2,n,h3⟩:=(show dy P w H h a (.tup (ks.map kV)) from ok a _ e)
 exact⟨o,its.toArray,n,h1,h2,h3,by simpa using zu r⟩
theorem KN{aO:List (List Key×V)}(ok:iQ P w H h)(e:Rd H a (.dT aO)):aO.length<=sizeLine/\(a==sysModules)=false/\
  ∃xs,KT H aO xs/\h.DictOfH (tupleKind (dW P w)) a xs:=by
 obtain⟨z,y,xs,r,o,es,ep,h1,h2,h3,h4,h5⟩:=(show dy P w H h a (.dT aO) from Xq ok e)
 refine⟨z,y,xs,r,o,es,ep,h1,h2,h3,h4,λx hx=>?_,h5⟩
 have all:∀{l:List (List Key×V)} {m:List (List Key×Addr×Value)},KT H l m->∀x∈m,(tupleKind (dW P w)).is h x.1 x.2.1:=by
  intro l m q
  induction q with
  | nil=>intro x hx;exact nomatch hx
  | @cons p q ps qs hq t ih=>
   intro x hx
   rcases bJ.mp hx with e | hx
   ·subst e
    exact BV ok (by rw[<-hq.1];exact hq.2.1)
   ·exact ih x hx
 exact all r x hx
theorem aBS{aO:List (List Key×V)}(ok:iQ P w H h)(e:H a=some (.dT aO)):aO.length<=sizeLine/\(a==sysModules)=false/\
  ∃xs,KT H aO xs/\h.DictOfH (tupleKind (dW P w)) a xs:=KN ok (.inl e)
end
def tL(H:Hp)(a:Addr)(y:V)(r:Option V):Prop:=
 (∃aO k,Rd H a (.dK aO)/\y=kV k/\r=gp aO k)\/∃aO k b,Rd H a (.dT aO)/\y=.ref b/\H b=some (.tup (k.map kV))/\r=gp aO k
def xY(H:Hp)(a:Addr)(y v:V)(H':Hp):Prop:=
 (∃aO k,H a=some (.dK aO)/\y=kV k/\aO.length<sizeLine/\H'=upd H a (.dK (putK aO k v)))\/
 ∃aO k b,H a=some (.dT aO)/\y=.ref b/\H b=some (.tup (k.map kV))/\aO.length<sizeLine/\H'=upd H a (.dT (putK aO k v))
theorem tL.k{H:Hp}{a:Addr}{aO:List (Key×V)}{k:Key}(e:H a=some (.dK aO)):tL H a (kV k) (gp aO k):=.inl ⟨aO,k,.inl e,rfl,rfl⟩
theorem tL.t{H:Hp}{a b:Addr}{aO:List (List Key×V)}{k:List Key}(e:H a=some (.dT aO))(eb:H b=some (.tup (k.map kV))):tL H a (.ref b) (gp aO k):=.inr ⟨aO,k,b,.inl e,rfl,eb,rfl⟩
theorem xY.k{H:Hp}{a:Addr}{aO:List (Key×V)}{k:Key}{v:V}(e:H a=some (.dK aO))(hl:aO.length<sizeLine):xY H a (kV k) v (upd H a (.dK (putK aO k v))):=.inl ⟨aO,k,e,rfl,hl,rfl⟩
theorem xY.t{H:Hp}{a b:Addr}{aO:List (List Key×V)}{k:List Key}{v:V}(e:H a=some (.dT aO))(eb:H b=some (.tup (k.map kV)))(hl:aO.length<sizeLine) :
  xY H a (.ref b) v (upd H a (.dT (putK aO k v))):=.inr ⟨aO,k,b,e,rfl,eb,hl,rfl⟩
section
variable {X:Cx}{pins:List (Addr×Obj)}{σ:St}{H:Hp}{s:Shared}{a:Addr}{y v:V}{u r:Value}{o:Option V}{A:Around}{E:Value->Shared->Prop}
theorem Inv.big(I:Inv X pins σ H s):sysModules<s.heap.objs.size:=by
 have h:mainGlobals<s.heap.objs.size:=(I.mod.glob.keeps I.bk).lt
 exact Nat.lt_trans (by decide) h
theorem NT{Q:Value->Shared->Prop}(hu:A.units+1<cLine)(I:Inv X pins σ H s)(g:tL H a y (some v))(ry:RelV y u)(h:∀w' s',Inv X pins σ H s'->RelV v w'->Q w' s') :
  wpAny (model X.prog X.w) A (getItem (.ref a) u) Q E s:=by
 rcases g with ⟨aO,k,e,ey,l⟩ | ⟨aO,k,b,e,ey,eb,l⟩
 ·subst ey
  obtain⟨z,hd,vs,rel,dd⟩:=KR I.bz e
  obtain⟨w',hw,Qe⟩:=pF.some_of (v:=v) (o:=valueAt vs k) (by rw[l];exact rel.val k)
  exact wpAny_getItem_of (Kn ry) dd.mapOf hw (h w' _ (I.tok _) Qe)
 ·subst ey
  cases (show u=Value.ref b from ry)
  obtain⟨z,hd,xs,rel,dd⟩:=KN I.bz e
  obtain⟨w',hw,Qe⟩:=pF.some_of (v:=v) (o:=(atKey xs k).map (·.2)) (by rw[l];exact rel.val k)
  obtain⟨p,hp,XQ⟩:=Option.map_eq_some_iff.mp hw
  refine wpAny_getItem_heap (tupleKind_room_in1 hu) (BV I.bz eb) dd hp ?_
  rw[XQ]
  exact h w' _ (I.tok _) Qe
theorem W4{Q:Value->Shared->Prop}(hu:A.units+1<cLine)(I:Inv X pins σ H s)(g:tL H a y o)(ry:RelV y u)(h:∀s',Inv X pins σ H s'->Q (.bool (!o.isSome)) s') :
  wpAny (model X.prog X.w) A (compareOp .NotIn u (.ref a)) Q E s:=by
 rcases g with ⟨aO,k,e,ey,l⟩ | ⟨aO,k,b,e,ey,eb,l⟩
 ·subst ey
  obtain⟨z,hd,vs,rel,dd⟩:=KR I.bz e
  refine wpAny_notIn_of (Kn ry) hd dd.mapOf ?_
  rw[<-(rel.val k).uz,<-l]
  exact h _ (I.tok _)
 ·subst ey
  cases (show u=Value.ref b from ry)
  obtain⟨z,hd,xs,rel,dd⟩:=KN I.bz e
  refine wpAny_notIn_heap (tupleKind_room_in1 hu) (BV I.bz eb) hd dd ?_
  have q:=(rel.val k).uz
  rw[Option.isSome_map]at q
  rw[<-q,<-l]
  exact h _ (I.tok _)
theorem K1{h':Heap}{t':Nat}{ob:HO}(I:Inv X pins σ H s)(mu:Mut (H a))(hs:Heap.SameBut a s.heap h')(he:∃q,h'.get? a=some q)(new:dy X.prog X.w (upd H a ob) h' a ob) :
  Inv X pins σ (upd H a ob) { s with heap:=h',toks:=t' }:=
 I.write (x:=a) (e:=a) mu (.inl rfl) (λb q hb z=>(hs.2 b hb).trans z) he new
theorem aAA{P:Program}{w:World}{H':Hp}{h':Heap}{aO:List (Key×V)}{vs:List (Key×Value)}(z:aO.length<=sizeLine)(hd:(a==sysModules)=false)(rel:KV aO vs)(dd:h'.DictOf (dW P w) a vs) :
  dy P w H' h' a (.dK aO):=⟨z,hd,vs,rel,dd⟩
theorem NR{H':Hp}{Q:Unit->Shared->Prop}(hu:A.units+1<cLine)(I:Inv X pins σ H s)(g:xY H a y v H')(ry:RelV y u)(rv:RelV v r)(h:∀s',Inv X pins σ H' s'->Q () s') :
  wpAny (model X.prog X.w) A (setItem (.ref a) u r) Q E s:=by
 rcases g with ⟨aO,k,e,ey,l,eH⟩ | ⟨aO,k,b,e,ey,eb,l,eH⟩
 ·subst ey eH
  obtain⟨z,hd,vs,rel,dd⟩:=aBU I.bz e
  have hz:vs.length<=sizeLine:=by rw[<-rel.length];exact z
  have hl:(putK aO k v).length<=sizeLine:=by have:=oz aO k v;lia
  refine wpAny_setItem_pairs (hsz:=hz) (Kn ry) dd λh' dd' hs=>h _ ?_
  have he:∃q,h'.get? a=some q:=let ⟨q,_,_,hq,_⟩:=dd';⟨q,hq⟩
  exact K1 I (by rw[e];exact True.intro) hs he (aAA hl hd (rel.put k rv) dd')
 ·subst ey eH
  cases (show u=Value.ref b from ry)
  obtain⟨z,hd,xs,rel,dd⟩:=aBS I.bz e
  have hz:xs.length<=sizeLine:=by rw[<-Paired.length rel];exact z
  have hl:(putK aO k v).length<=sizeLine:=by have:=oz aO k v;lia
  refine wpAny_setItem_heap (hsz:=hz) (tupleKind_room_in1 hu) (BV I.bz eb) dd λh' dd' hs=>h _ ?_
  obtain⟨q,es,ep,hq,h2,h3,h4,_,h5⟩:=dd'
  refine K1 I (by rw[e];exact True.intro) hs ⟨q,hq⟩ ⟨hl,hd,_,(rel.put k eb rv).keeps λc ys ec=>?_,q,es,ep,hq,h2,h3,h4,h5⟩
  rw[au (bh ec e (λz=>nomatch z))]
  exact ec
end
section
variable {X:Cx}{pins:List (Addr×Obj)}{σ:St}{H:Hp}{s:Shared}{a:Addr}{aO:List (Key×V)}{k:Key}{u:Value}{A:Around}{E:Value->Shared->Prop}
end
def aAJ(i:Expr):Prop:=∀ov iv,subscripted i false ov iv=operate [ov,iv] (getItem ov iv)
theorem UG{prog:Program}{w:World}{A:Around}{E:Value->Shared->Prop}{s:Shared}{env:Env}{value slice:Expr}{pos:Pos}{T id:String}{Q:Value->Shared->Prop}
  (hl:typeLookup (.type T) "__getitem__" = pure (some (.builtin id))) (hs:aAJ slice)
  (h:wpAny (model prog w) A (eval value env) (λo s₁=>wpAny (model prog w) A (eval slice env) (λi s₂=>s₂.TypeIs o T/\wpAny (model prog w) A (getItem o i) Q E s₂) E s₁) E s) :
  wpAny (model prog w) A (eval (.Subscript value slice pos) env) Q E s:=by
 refine Subscript_ (cL h (λo s₁ h₁=>cL h₁ (λi s₂ h₂=>?_) λ_ _ x=>x) λ_ _ x=>x)
 obtain⟨hT,h₂⟩:=h₂
 unfold subscriptTail
 refine av ?_
 rw[getitemInPython_of_ne hT.not_modules]
 refine av (wpAny_specialOf hT hl ?_)
 have fin:wpAny (model prog w) A (subscripted slice false o i) (λr s₃=>wpAny (model prog w) A (letTemporaryGo value o r >>= λ_=>pure r) Q E s₃) E s₂:=by
  rw[hs o i]
  exact wpAny_operating (cL h₂ (λr s₃ h₃=>av (wpAny_letTemporaryGo (aK h₃))) λ_ _ x=>x)
 first
  | exact aK (av fin)
  | exact av (aK (av fin))
  | exact av fin
theorem Fp{X:Cx}{pins:List (Addr×Obj)}{σ:St}{H:Hp}{s:Shared}{a:Addr}{y:V}{o:Option V}(I:Inv X pins σ H s)(g:tL H a y o):s.TypeIs (.ref a) "dict":=by
 rcases g with ⟨aO,k,e,_,_⟩ | ⟨aO,k,b,e,_,_,_⟩
 ·obtain⟨_,_,vs,_,dd⟩:=KR I.bz e
  exact dd.typeIs
 ·obtain⟨_,_,xs,_,dd⟩:=KN I.bz e
  exact dd.typeIs
def yW(td ty:TE):TE:=λσ H Q=>td σ H λx H1=>ty σ H1 λy H2=>∃a v,x=.ref a/\tL H2 a y (some v)/\Q v H2
def Av(ty td:TE):TE:=λσ H Q=>ty σ H λy H1=>td σ H1 λx H2=>∃a o,x=.ref a/\tL H2 a y o/\Q (.bl (!o.isSome)) H2
def w8(td ty tv:TE):TS:=λD σ H=>tv σ H λv H1=>td σ H1 λx H2=>ty σ H2 λy H3=>∃a H4,x=.ref a/\xY H3 a y v H4/\D.nx σ H4
section
variable {X:Cx}{o i e value:Expr}{pos pos' Ph:Pos}{td ty tv:TE}
theorem VM(hu:X.A.units+1<cLine)(ho:PE X o td)(hi:PE X i ty)(hs:aAJ i):PE X (.Subscript o i pos) (yW td ty):=by
 intro pins s σ H Q I h
 refine UG PySem.F.slot_dict_getitem.lookup hs (cT (ho pins s σ H _ I h) λu s1 ⟨x,H1,I1,rx,q1⟩=>cT (hi pins s1 σ H1 _ I1 q1) λiv s2 ⟨y,H2,I2,ry,a,v,ex,g,q2⟩=>?_)
 subst ex
 obtain rfl:u=Value.ref a:=rx
 exact⟨Fp I2 g,NT hu I2 g ry λw' s3 I3 Qe=>⟨v,H2,I3,Qe,q2⟩⟩
theorem Mu(hu:X.A.units+1<cLine)(hi:PE X i ty)(ho:PE X o td):PC X .NotIn i o (Av ty td):=by
 intro pins s σ H Q I h
 refine cT (hi pins s σ H _ I h) λiv s1 ⟨y,H1,I1,ry,q1⟩=>cT (ho pins s1 σ H1 _ I1 q1) λu s2 ⟨x,H2,I2,rx,a,ov,ex,g,q2⟩=>?_
 subst ex
 obtain rfl:u=Value.ref a:=rx
 exact W4 hu I2 g ry λs3 I3=>⟨.bl (!ov.isSome),H2,I3,rfl,q2⟩
theorem Vx(hu:X.A.units+1<cLine)(ho:PE X o td)(hi:PE X i ty)(hv:PE X value tv)(hs:swapsWith value (some (.Subscript o i pos')) pos.line X.env=pure false) :
  PS X (.Assign [.Subscript o i pos'] value pos) (w8 td ty tv):=by
 intro pins s σ H D I h
 refine wpAny_Assign_Subscript (cT (hv pins s σ H _ I h) λr s1 ⟨v,H1,I1,rv,q1⟩=>cT (ho pins s1 σ H1 _ I1 q1) λu s2 ⟨x,H2,I2,rx,q2⟩=>cT (hi pins s2 σ H2 _ I2 q2) λiv s3 ⟨y,H3,I3,ry,a,H4,ex,g,q3⟩=>?_) hs
 subst ex
 obtain rfl:u=Value.ref a:=rx
 exact NR hu I3 g ry rv λs4 I4=>⟨σ,H4,I4,q3⟩
end
theorem S9{P:Program}{w:World}{H:Hp}(h:Heap)(hb:sysModules<h.objs.size):dy P w H (h.push { cls:=.type "dict",data:=.dict #[] }) h.objs.size (.dK []):=
 ⟨de _,uS.mpr (eK (bf hb)),[],.nil,Heap.DictOf.new h⟩
theorem S8{P:Program}{w:World}{H:Hp}(h:Heap)(hb:sysModules<h.objs.size):dy P w H (h.push { cls:=.type "dict",data:=.dict #[] }) h.objs.size (.dT []):=
 ⟨de _,uS.mpr (eK (bf hb)),[],.nil,_,#[],0,cC _ rfl,⟨rfl,rfl,rfl⟩,rfl,rfl,qd⟩
def wV:TE:=λ_ H Q=>∀p,H p=none->Q (.ref p) (upd H p (.dK []))
def wU:TE:=λ_ H Q=>∀p,H p=none->Q (.ref p) (upd H p (.dT []))
section
variable {X:Cx}{pos:Pos}
theorem Q7:PE X (.Dict [] [] pos) wV:=λpins s σ H Q I h=>
 wpAny_Dict_empty ⟨.ref s.heap.objs.size,_,I.laid (a:=s.heap.objs.size) (o:=.dK []) (t':=s.toks) (λ_ _ q=>bN _ q) (bj _) (S9 s.heap I.big),rfl,h _ (I.bz.fresh (bj _))⟩
theorem Q6:PE X (.Dict [] [] pos) wU:=λpins s σ H Q I h=>
 wpAny_Dict_empty ⟨.ref s.heap.objs.size,_,I.laid (a:=s.heap.objs.size) (o:=.dT []) (t':=s.toks) (λ_ _ q=>bN _ q) (bj _) (S8 s.heap I.big),rfl,h _ (I.bz.fresh (bj _))⟩
end
def Z3(aO more:List (Key×V)):List (Key×V):=more.foldl (λacc kv=>putK acc kv.1 kv.2) aO
structure M1(X:Cx)(o:Expr)(m:Str)(apos:Pos)(e:Expr)(du:Pos):Prop where
 base:attributeBase o m X.env (eval o X.env)=eval o X.env
 few:((backTo du (starEach [e] X.env)).all (λx=>!x.1)&&(backToKw du (keywordEach [] X.env)).all (λx=>x.1.isSome)
  && decide (([e]:List Expr).length+([]:List Keyword).length+(if ([]:List Keyword).isEmpty then 0 else 1)<30))=true
 line:(apos.endLine==du.line)=true
 trees:backTo du (starEach [e] X.env)=[(false,eval e X.env)]
structure M2(X:Cx)(o:Expr)(m:Str)(apos:Pos)(e f:Expr)(du:Pos):Prop where
 base:attributeBase o m X.env (eval o X.env)=eval o X.env
 few:((backTo du (starEach [e,f] X.env)).all (λx=>!x.1)&&(backToKw du (keywordEach [] X.env)).all (λx=>x.1.isSome)
  && decide (([e,f]:List Expr).length+([]:List Keyword).length+(if ([]:List Keyword).isEmpty then 0 else 1)<30))=true
 line:(apos.endLine==du.line)=true
 trees:backTo du (starEach [e,f] X.env)=[(false,eval e X.env),(false,eval f X.env)]
def IsD(H:Hp)(a:Addr):Prop:=(∃aO,Rd H a (.dK aO))\/∃aO,Rd H a (.dT aO)
section
variable {X:Cx}{pins:List (Addr×Obj)}{σ:St}{H:Hp}{s:Shared}{a:Addr}{y d:V}{u r:Value}{o:Option V}{A:Around}{E:Value->Shared->Prop}
end
def Pu(td ty:TE):TE:=λσ H Q=>td σ H λx H1=>∃a,x=.ref a/\IsD H1 a/\ty σ H1 λy H2=>∃aO k v,H2 a=some (.dK aO)/\y=kV k/\gp aO k=some v/\Q v (upd H2 a (.dK (aBT aO k)))
section
variable {X:Cx}{o e f:Expr}{apos du:Pos}{td ty tx:TE}
end
section
variable {X:Cx}{pins:List (Addr×Obj)}{σ:St}{H:Hp}{s:Shared}{a:Addr}{aO:List (Key×V)}{A:Around}{E:Value->Shared->Prop}
end
section
variable {X:Cx}{pins:List (Addr×Obj)}{σ:St}{H:Hp}{s:Shared}{a:Addr}{y:V}{u:Value}{A:Around}{E:Value->Shared->Prop}
end
end L2
namespace Att
open PySem PySem.W PySem.Calls PyProof.Rows
theorem vA{P:Params}{h:Heap}:∀(ns:List Int) (vs:List Value),WellAll P h vs (ns.map WData.int)->IntsAre vs ns:=by
 intro ns
 induction ns with
 | nil=>
  intro vs w
  rw[zT]at w
  cases w
  exact .nil
 | cons n ns ih=>
  intro vs w
  rw[dZ]at w
  cases w with
  | cons a b=>
   cases a
   exact .cons _ _ (ih _ b)
theorem Mi{l:OpenLaw}{n:Nat}(hn:l.most=some n){P:Params}{h:Heap}{args:List WData}{vals:List Value}
  (Wo:l.row.toRowW.claim.pre args=true) (hwl:WellAll P h vals args) :
  ∃a vs ns,vals=[Value.ref a]/\args=[WData.list (ns.map WData.int)]/\h.get? a=some { cls:=.type "list",data:=.seq vs.toArray }/\IntsAre vs ns/\ns.length<=n:=by
 have hsh:WShape.hasAll [] args [.list .int]=true:=(pre_splitW Wo).1
 have hc:l.pre.holds [] { args:=args }=true:=(pre_splitW Wo).2
 obtain⟨d,r,rfl,h1,h2⟩:=hasAllW_cons hsh
 obtain rfl:=hasAllW_nil h2
 obtain⟨xs,rfl,h3⟩:=hasW_list h1
 obtain⟨ns,rfl⟩:=items_int h3
 have hlen:ns.length<=n:=by
  unfold OpenLaw.pre at hc
  have h4:(WTm.not (.lt (.lit (.int (n:Int))) (.len (.arg 0)))).holds [] { args:=[.list (ns.map .int)] }=true:=by
   have h4:=(holds_andW hc).1
   rw[hn]at h4
   exact h4
  have h5:=condW_of h4 (w_not (w_lt w_lit (w_len_list (w_arg rfl))))
  rw[aM]at h5
  refine Ge λq=>?_
  have q':(n:Int)<((ns.length:Nat):Int):=by lia
  first
   | (rw[decide_eq_true q']at h5;exact absurd h5 (by decide))
   | (simp at h5;lia)
 cases hwl with
 | cons w1 w2=>
  cases w2
  cases w1 with
  | list ho kR=>exact⟨_,_,ns,rfl,rfl,ho,vA ns _ kR,hlen⟩
theorem Ms(l:OpenLaw)(args:List WData):l.row.toRowW.claim.post args (.bool true) args=true:=
 postW_of (r:=l.row.toRowW) (X:=(true==true))
  (show WShape.has [] (.bool true) .bool=true by first | rfl | decide | simp[WShape.has,WShape.arms,WShape.armsAll])
  (show(WTm.eq .res (.lit (.bool true))).value [] { args:=args,res:=some (.bool true),after:=args }=some (.bool (true==true)) from w_eq_bool (w_res rfl) w_lit) rfl
theorem FJ{l:OpenLaw}{n:Nat}{q:Program}{loose:List Str}{XP:(Str->Option Value)->Heap->Prop}{YP:World->Heap->Prop}{d:DefRec}
  (hn:l.most=some n) (hdf:d.params.defaults=[])
  (call:∀(w:World) (s₀ s₁:Shared) (mg mb:Str->Option Value) (fa:Addr) (o:Obj) (pm cd doc:Value) (a:Addr) (vs:List Value) (ns:List Int),
   Ground q loose [] XP w s₀ mg mb s₁.heap->YP w s₁.heap->
   s₁.heap.get? fa=some o->o.data=.func (docDef d.name d.params d.body d.scope pm cd doc)->s₁.heap.CodeRec cd d.name->mg d.name=some (.ref fa)->
   s₁.heap.get? a=some { cls:=.type "list",data:=.seq vs.toArray }->IntsAre vs ns->ns.length<=n->s₁.gens = #[]->
   codeAny (model l.prog w) callerA (.call (.ref fa) ⟨[.ref a],[]⟩) (λr s'=>r=.ok (.ret (.bool true))/\OldK s₁.heap s'.heap/\s'.os=s₁.os/\AllBare s'.gens) s₁) :
  WalkO q loose XP YP l.row.toRowW d [] (λf vs=>PySem.call f vs):=by
 intro w s₀ s₁ mg mb G Y fa o pm cd doc dV kV ho hd yw hD hmg hg args vals as Wo hlay hrd hwl hlo
 obtain rfl:dV=.none:=Dflts.none hD hdf
 obtain rfl:kV=.none:=Dflts.noKw hD
 obtain⟨a,vs,ns,rfl,rfl,aAr,hints,hlen⟩:=Mi hn Wo hwl
 refine enter_call (ia (call w s₀ s₁ mg mb fa o pm cd doc a vs ns G Y ho (fd_plain hd) yw hmg aAr hints hlen hg) λr s' hq=>?_)
 obtain⟨rfl,h2,h3,h4⟩:=hq
 exact⟨.inl ⟨.bool true,.bool true,[],rfl,λ_=>rfl,.bool true,Ms l _,λ_=>⟨List.Pairwise.nil,λ_ hm=>(nomatch hm)⟩⟩,h2,h3,h4⟩
section
variable {prog:Program}{w:World}{A:Around}{E:Value->Shared->Prop}{s:Shared}{K:Frag}
end
end Att
namespace L2
open PySem PySem.Spec PyProof.Rows
theorem ua:∀{vs:List Value} {ns:List Int},IntsAre vs ns->Vals (ns.map V.int) vs
 | _,_,.nil=>.nil
 | _,_,.cons n t h=>.cons ⟨t,rfl⟩ (ua h)
end L2
namespace L2
open PySem PySem.Spec PyProof.Rows
end L2
namespace L2
open PySem PySem.Spec PyProof.Rows
def aT(s:Stmt):Arguments:=match s with
 | .FunctionDef _ a _ _ _ _ _ _ _ _=>a
 | _=>{ posonlyargs:=[],args:=[],vararg:=none,kwonlyargs:=[],kw_defaults:=[],kwarg:=none,defaults:=[] }
def aN(s:Stmt):List Stmt:=match s with
 | .FunctionDef _ _ b _ _ _ _ _ _ _=>b
 | _=>[]
def ag(s:Stmt):Scope:=match s with
 | .FunctionDef _ _ _ _ _ _ sc _ _ _=>sc
 | _=>{ kind:=.function,names:=[],isGenerator:=false,isCoroutine:=false }
abbrev gi:Lq:=λ_ _ _ _ _ _=>False
abbrev E0:XK:=λ_ _ _=>False
theorem aY{X:Cx}:Passes gi X E0:=λ_ _ _ _ _ _ _ h=>h.elim
structure jV(K:PySem.W.Frag)(x qual:Str)(st:Stmt)(f:Addr)(fd:FuncData):Prop where
 ex:∃(oc:Value) (od:Option Addr) (kV doc pm:Value) (an:Option Addr) (dc ct:Value) (Ki:Array (Option Value)),
  fd=PySem.W.fnOf x qual (aT st) (aN st) (ag st) .none kV doc pm an dc ct/\K.lookup f=some ⟨oc,od,.func fd,Ki⟩/\PySem.W.codeIn K dc qual=true
 kp:PySem.W.keepIn K (.ref f)=true
section
variable {P:Program}{w:World}{K:PySem.W.Frag}{mg:Str->Option Value}{base:Heap}
theorem jV.ok{x qual:Str}{st:Stmt}{f:Addr}{fd:FuncData}{N ps:List Str}{k:Nat}{sp:Sp}(F:jV K x qual st f fd)(S:aU N ps (ag st))(len:∀vs H Q E,sp vs H Q E->vs.length=ps.length)
  (gx:∀(dc:Value) (A:Around) (outer:List Env) (s:Shared) (H:Hp) (vs:List V) (Q:VK) (E:XK),cJ k (A.deeper (envOfC qual (ag st) s.heap.objs.size f dc))->sp vs H Q E->
   ∃t,CJ (gQ gi P w K mg base N qual (ag st) f dc A outer s H E).x6 (aN st) t/\t { nx:=λ_ H'=>Q .non H',rt:=Q } (start N vs) H):bX P w K mg base gi (k+1) f fd ps sp:=by
 obtain⟨oc,od,kV,doc,pm,an,dc,ct,Ki,rfl,lk,yw⟩:=F.ex
 refine SM lk yw S len λA outer s H vs Q E hr FW=>?_
 obtain⟨t,h,q⟩:=gx dc A outer s H vs Q E hr FW
 exact⟨t,h.x6,q⟩
theorem jV.binds{x qual:Str}{st:Stmt}{f:Addr}{fd:FuncData}{ps:List Str}(F:jV K x qual st f fd)
  (h:∀(kV doc pm:Value) (an:Option Addr) (dc ct:Value) (us:List Value),us.length=ps.length->bindArgs (PySem.W.fnOf x qual (aT st) (aN st) (ag st) .none kV doc pm an dc ct) ⟨us,[]⟩=pure (ps.zip us)):Binds K fd ps []:=by
 obtain⟨oc,od,kV,doc,pm,an,dc,ct,Ki,rfl,lk,yw⟩:=F.ex
 exact .all (h kV doc pm an dc ct)
theorem bM{x qual:Str}{st:Stmt}{f:Addr}{oc:Value}{od an:Option Addr}{Ki:Array (Option Value)}{kV doc pm dc ct:Value}(l:K.lookup f=some ⟨oc,od,.func (PySem.W.fnOf x qual (aT st) (aN st) (ag st) .none kV doc pm an dc ct),Ki⟩)
  (c:PySem.W.codeIn K dc qual=true) (k:PySem.W.keepIn K (.ref f)=true):jV K x qual st f (PySem.W.fnOf x qual (aT st) (aN st) (ag st) .none kV doc pm an dc ct):=⟨⟨oc,od,kV,doc,pm,an,dc,ct,Ki,rfl,l,c⟩,k⟩
end
theorem kg{A:Around}{k:Nat}(hr:cJ k A):A.units+1<cLine:=rJ (Nat.add_le_add_left (by decide:1<=64) _) hr.units
theorem bU{n:Nat}(h:n<=1000):n<sizeLine:=rJ h (by decide)
section
variable {X:Cx}
theorem pv(i:Nat){x:Str}{pos:Pos}(hN:X.N[i]?=some x:=by rfl)(hv:Vis X.env.scope x:=by first | exact Or.inl rfl | exact Or.inr (Or.inl rfl) | exact Or.inr (Or.inr rfl))(hd:(x==("__debug__" : Str))=false:=by decide)
  (yw:(x==("__classdict__" : Str))=false:=by decide):PE X (.Name x pos) (Dk i):=QX hN hv hd yw
end
def bP(H H':Hp):Prop:=∀b o,H b=some o->H' b=some o
theorem bP.refl(H:Hp):bP H H:=λ_ _ h=>h
theorem bP.trans{H H1 H2:Hp}(a:bP H H1)(b:bP H1 H2):bP H H2:=λc o h=>b c o (a c o h)
theorem bP.free{H H':Hp}(e:bP H H'){l:Addr}(h:H' l=Option.none):H l=Option.none:=by
 cases q:H l with
 | none=>rfl
 | some o=>
  rw[e l o q]at h
  cases h
section
variable {κ:Type} [DecidableEq κ]
end
end L2
end
section
theorem L2.hide{p:Prop}(h:∀q:Prop,(p->q)->q):p:=h p id
end
section
namespace L2
open PySem PySem.Spec PyProof.Rows
theorem vi{α β:Type}{f:α->β->Sem (ForInStep β)}(g:α->β->β):∀(l:List α) (b:β),(∀x∈l,∀c,f x c=pure (.yield (g x c)))->forIn l b f=pure (l.foldl (λc x=>g x c) b)
 | [],b,_=>rfl
 | x::l,b,h=>by
  rw[List.forIn_cons,h x df,pure_bind]
  exact vi g l (g x b) λy hy=>h y (cV _ hy)
def dw(env:Env)(names:List (Str×NameKind))(cs:List (Str×Addr)):List (Str×Addr):=
 names.foldl (λc y=>if y.2==NameKind.free then (y.1,(env.cells.lookup y.1).getD 0)::c else c) cs
theorem iK{scope:Scope}{env:Env}(h:∀y∈scope.names,y.2=.free->∃c,env.cells.lookup y.1=some c):closureFor scope env=pure (dw env scope.names []):=by
 simp only[closureFor]
 rw[vi (λy c=>if y.2==NameKind.free then (y.1,(env.cells.lookup y.1).getD 0)::c else c) scope.names [] (λx hx c=>by
  obtain⟨n,kind⟩:=x
  dsimp only
  by_cases hk:kind=.free
  ·subst hk
   obtain⟨a,e⟩:=h (n,.free) hx rfl
   have e':env.cells.lookup n=some a:=e
   have:cellOf env n=pure a:=by unfold cellOf;rw[e']
   rw[this,e']
   rfl
  ·have hb:(kind==NameKind.free)=false:=by simpa using hk
   rw[hb];rfl)]
 simp only[pure_bind]
 rfl
theorem lX{env:Env}:∀(names:List (Str×NameKind)) (cs:List (Str×Addr)),(∀y∈names,y.2=.free->∃c,env.cells.lookup y.1=some c)->(∀p∈cs,env.cells.lookup p.1=some p.2)->
  ∀p∈dw env names cs,env.cells.lookup p.1=some p.2
 | [],cs,_,hc=>hc
 | y::r,cs,h,hc=>by
  unfold dw
  rw[lA]
  refine lX r _ (λz hz=>h z (cV _ hz)) λp hp=>?_
  by_cases hk:y.2=.free
  ·have hb:(y.2==NameKind.free)=true:=by simpa using hk
   rw[ay hb]at hp
   rcases bJ.mp hp with e | hp
   ·obtain⟨c,e1⟩:=h y df hk
    rw[e];dsimp only;rw[e1];rfl
   ·exact hc p hp
  ·have hb:¬(y.2==NameKind.free)=true:=by simpa using hk
   rw[aE hb]at hp
   exact hc p hp
theorem vm{env:Env}{p:Str×Addr}:∀(names:List (Str×NameKind)) (cs:List (Str×Addr)),p∈cs->p∈dw env names cs
 | [],_,h=>h
 | y::r,cs,h=>by
  unfold dw
  rw[lA]
  refine vm r _ ?_
  split
  ·exact cV _ h
  ·exact h
theorem uH{env:Env}{x:Str}:∀(names:List (Str×NameKind)) (cs:List (Str×Addr)),(x,NameKind.free)∈names->∃c,(x,c)∈dw env names cs
 | y::r,cs,h=>by
  rcases bJ.mp h with e | h
  ·subst e
   exact⟨_,by
    unfold dw;rw[lA]
    refine vm r _ ?_
    rw[ay (by rfl)]
    exact df⟩
  ·obtain⟨c,hc⟩:=uH r (if y.2==NameKind.free then (y.1,(env.cells.lookup y.1).getD 0)::cs else cs) h
   exact⟨c,by unfold dw;rw[lA];exact hc⟩
theorem kM{f:Str->Option Addr}{x:Str}:∀{cs:List (Str×Addr)},(∀p∈cs,f p.1=some p.2)->(∃c,(x,c)∈cs)->cs.lookup x=f x
 | [],_,⟨_,h⟩=>nomatch h
 | (n,a)::r,hc,⟨c,h⟩=>by
  rw[dF]
  by_cases e:x=n
  ·subst e
   rw[gF]
   exact(hc (x,a) df).symm
  ·have hb:(x==n)=false:=by simpa using e
   rw[hb]
   refine kM (λp hp=>hc p (cV _ hp)) ⟨c,?_⟩
   rcases bJ.mp h with q | q
   ·exact absurd (fD Prod.fst q) e
   ·exact q
theorem sE{env : Env}{y : Str} : ∀ {names : List (Str × NameKind)}, (∀ z ∈ names, z.2 ≠ .cell) →
    ((names.map λ(n, k) => if (k==NameKind.free&&env.scope.kind == .function&&env.kindOf n==some .cell) then (n, NameKind.cell) else (n, k)).lookup y=some .cell ∨
     (names.map λ(n, k) => if (k==NameKind.free&&env.scope.kind == .function&&env.kindOf n==some .cell) then (n, NameKind.cell) else (n, k)).lookup y=some .free) → names.lookup y=some .free
  | [], _, h => by rcases h with h | h <;> cases h
  | (n, k)::r, hc, h => by
    have ih := @sE env y r λz hz => hc z (cV _ hz)
    rw[dZ]at h
    rw[dF]
    by_cases e : y=n
    · subst e
      rw[gF]
      by_cases hb : (k==NameKind.free&&env.scope.kind == .function&&env.kindOf y==some .cell)=true
      · have hk : k=.free := by
          rw[dv, dv]at hb
          simpa using hb.1.1
        rw[hk]
      · dsimp only at h
        rw[aE hb, dF, gF]at h
        dsimp only at h
        rcases h with h | h
        · exact absurd (fw h) (hc (y, k) df)
        · exact h
    · have hn : (y==n)=false := by simpa using e
      rw[hn]
      dsimp only at h ⊢
      apply ih
      by_cases hb : (k==NameKind.free&&env.scope.kind == .function&&env.kindOf n==some .cell)=true
      · rw[ay hb, dF, hn]at h
        exact h
      · rw[aE hb, dF, hn]at h
        exact h
structure CB where
 C:Addr
 cl:List (Str×Addr)
 s2:Shared
 H2:Hp
 ex:List Addr
@[reducible] def ni (X:Cx) (scope:Scope) (N:List Str) (c:CB):Cx:=
 { prog:=X.prog,w:=X.w,K:=X.K,mg:=X.mg,base:=X.base,A:=X.A,N:=N,s₀:=c.s2,H₀:=c.H2,env:=compEnvC scope c.cl c.C X.env,outer:=X.stack,stack:=X.stack,ex:=c.ex,fn:=λ_=>false,calm:=X.calm,pn:=[],xe:=λ_ _=>False }
def cg(σ:St)(idx:List Nat):St:=idx.map λi=>(σ[i]?).join
def bx(N:List Str)(idx:List Nat):List Str:=idx.map λi=>N.getD i ""
def vG(X:Cx)(ifs:List Expr)(t:TT):Prop:=
 ∀(pins:List (Addr×Obj)) (s:Shared) (σ:St) (H:Hp) (Q:Bool->Hp->Prop),Inv X pins σ H s->t σ H Q->
  wpAny (model X.prog X.w) X.A (forIn ifs true λc r=>if r=true then do let ok <-isTrue c X.env (eval c X.env);pure (ForInStep.yield ok) else pure (ForInStep.yield r)) (TP X pins σ Q) X.xe s
def Pk:TT:=λ_ H Q=>Q true H
theorem QS{X:Cx}:vG X [] Pk:=λ_ _ _ H _ I h=>wpAny_tests_nil ⟨H,I,h⟩
theorem QR{X:Cx}{e:Expr}{t:TT}(h:PT X e t):vG X [e] t:=λpins s σ H Q I q=>wpAny_tests_one (h pins s σ H Q I q)
def rV(wi:TI)(k:Nat)(idx:List Nat)(g:CB->TG)(tt:CB->TT)(te:CB->TE):TE:=λσ H Q=>wi σ H λJ H1=>∀D,H1 D=none->∃W:Nat->Nat->List V->Hp->Prop,(∃m,W 0 m [] (upd H1 D (.lst [])))/\
 ∀i m ys H',W i m ys H'->(J.stop i H'/\Q (.ref D) H')\/(J.go i H'/\∃N:List V->Hp->Prop,(∀oZ rF,N oZ rF->∃m',m'<m/\W (i+1) m' oZ rF)/\∀(c:CB) (own:St),own.length=k->∀x H2,J.JN i H' x H2->g c x (own++cg σ idx) H2 λσ3 H3=>
  (∃e9,e9.length=k/\σ3=e9++cg σ idx)/\tt c σ3 H3 λb H4=>if b=true then te c σ3 H4 λy H5=>H5 D=some (.lst ys)/\ys.length<sizeLine/\N (ys++[y]) (upd H5 D (.lst (ys++[y]))) else N ys H4)
structure xZ(X:Cx)(scope:Scope)(xs:List Str)(idx:List Nat):Prop where
 kind:scope.kind=.function
 kL:∀y∈scope.names,y.2≠.cell
 loc:∀y∈scope.names,y.2=.local->scope.names.lookup y.1=some .local
 free:∀y∈scope.names,y.2=.free->scope.names.lookup y.1=some .free/\(X.env.kindOf y.1=some .cell\/X.env.kindOf y.1=some .free)
 ix:∀i∈idx,∃y,X.N[i]?=some y/\scope.names.lookup y=some .free
section
variable {prog:Program}{w:World}{A:Around}{R:Result->Shared->Prop}{s:Shared}
theorem jd{elt target iter:Expr}{ifs:List Expr}{scope:Scope}{pos:Pos}{it acc:Value}{env:Env}(I:Nat->Shared->Prop)
  (turn:∀n s,I n s->wpAny (model prog w) A (pyNext it) (λr s₁=>match r with
   | none=>R (.ok .next) s₁
   | some v=>wpAny (model prog w) A (letOwnedTupleGo target it v) (λ_ s₁'=>wpAny (model prog w) A (assign target env v) (λ_ s₂=>
     wpAny (model prog w) A (forIn ifs true λc r=>if r=true then do let ok <-isTrue c env (eval c env);pure (ForInStep.yield ok) else pure (ForInStep.yield r)) (λok s₃=>
      if ok=true then wpAny (model prog w) A (eval elt env) (λx s₄=>
       wpAny (model prog w) A (call (.builtin "list.append") [acc,x]) (λ_ s₅=>∃m,m<n/\I m s₅) (λ_ _=>False) s₄) (λ_ _=>False) s₃
      else ∃m,m<n/\I m s₃) (λ_ _=>False) s₂) (λ_ _=>False) s₁') (λ_ _=>False) s₁) (λ_ _=>False) s)
  (n:Nat) (h:I n s) :
  codeAny (model prog w) A (.compLoop (.ListComp elt [⟨target,iter,ifs,0⟩] scope pos) 0 it acc env) R s:=by
 refine codeAny_loop rfl I (λn s hI=>?_) n h
 show wpAny _ A ((compTurn (.ListComp elt [⟨target,iter,ifs,0⟩] scope pos) 0 it acc env).onRaise (λx=>do noteFrame x env;theTreesLotGoes x)) _ _ s
 refine wpAny_noted ?_
 rw[compTurn_list]
 refine av (qa (av (cL (turn n s hI) (λr s₁ h₁=>?_) λ_ _ h'=>False.elim h')))
 cases r with
 | none=>exact aK h₁
 | some v=>
  refine av (cL h₁ (λ_ s₁' h₁'=>?_) λ_ _ h'=>False.elim h')
  refine av (cL h₁' (λ_ s₂ h₂=>av (cL h₂ (λok s₃ h₃=>?_) λ_ _ h'=>False.elim h')) λ_ _ h'=>False.elim h')
  cases ok with
  | false=>exact aK ⟨rfl,h₃⟩
  | true=>
   exact av (av (cL h₃ (λx s₄ h₄=>av (cL h₄ (λ_ s₅ h₅=>aK (aK ⟨rfl,h₅⟩)) λ_ _ h'=>False.elim h')) λ_ _ h'=>False.elim h'))
end
section
variable {X:Cx}{pins:List (Addr×Obj)}{σ:St}{H:Hp}{s:Shared}
theorem iQ.but{P:Program}{w:World}{h h':Heap}{C:Addr}(x:iQ P w H h)(hn:H C=none)(hs:Heap.SameBut C h h'):iQ P w H h':=λb ob e=>by
 refine(x b ob e).stay (λc w' hc q=>(hs.2 c ?_).trans q) (λ_ q=>q) λ_ _ q=>q
 rintro rfl
 rcases hc with rfl | hc
 ·rw[hn]at e;cases e
 ·rw[hn]at hc;cases hc
theorem Un.but{fs ex:List Addr}{H':Hp}{h h1 h2:Heap}{C:Addr}(u:Un fs ex H H' h h1)(hC:h.get? C=none)(hs:Heap.SameBut C h1 h2):Un fs ex H H' h h2:=by
 have ne:∀b o,h.get? b=some o->b≠C:=λb o e z=>by rw[z,hC]at e;cases e
 exact⟨λb o e n h1 h2=>(hs.2 b (ne b o e)).trans (u.keep b o e n h1 h2),λb o e n h1 h2=>by
   obtain⟨sl,q⟩:=u.slot b o e n h1 h2
   exact⟨sl,(hs.2 b (ne b o e)).trans q⟩,u.free,λb o e h2=>by
   obtain⟨o',q⟩:=u.there b o e h2
   exact⟨o',(hs.2 b (ne b o e)).trans q⟩,u.tups,u.frzs,u.tbls⟩
theorem Dw{idx:List Nat}{j:Nat}{v:V}(h:(cg σ idx)[j]?=some (some v)):∃i,idx[j]?=some i/\σ[i]?=some (some v):=by
 unfold cg at h
 rw[cM]at h
 cases e:idx[j]? with
 | none=>rw[e]at h;cases h
 | some i=>
  rw[e]at h
  refine⟨i,rfl,?_⟩
  have h':(σ[i]?).join=some v:=fw h
  cases q:σ[i]? with
  | none=>rw[q]at h';cases h'
  | some o=>rw[q]at h';cases o with
   | none=>cases h'
   | some z=>cases h';rfl
theorem Dx{N:List Str}{idx:List Nat}{j i:Nat}{y:Str}(h:idx[j]?=some i)(e:N[i]?=some y):(bx N idx)[j]?=some y:=by
 unfold bx
 rw[cM,h]
 show some (N.getD i "")=some y
 rw[gH,e];rfl
theorem Inv.block{scope:Scope}{xs:List Str}{idx:List Nat}{fp:List Addr}{C:Addr}{h':Heap}{t':Nat}{H1:Hp}{D:Addr}{m0:Str->Option Value}(I:Inv X pins σ H s)(S:xZ X scope xs idx)
  (Ww:∀b∈fp,vK X pins H b) (Ol:∀b∈fp,∃o,s.heap.get? b=some o) (hC:s.heap.objs.size<=C) (Ye:D≠C) (hD:s.heap.objs.size<=D) (hn:h'.Ns C m0) (hk:∀b o,s.heap.get? b=some o->h'.get? b=some o)
  (hl:∃n,h'.get? D=some { cls:=.type "list",data:=.seq #[] n }) :
  Inv (ni X scope (xs++bx X.N idx) ⟨C,dw X.env scope.names [],s,H,fp⟩) [] (List.replicate xs.length none++cg σ idx) (upd H D (.lst [])) { s with heap:=h',toks:=t' }:=by
 have vh:∀y∈scope.names,y.2=.free->∃c,X.env.cells.lookup y.1=some c:=λy hy e=>I.ok.has y.1 (S.free y hy e).2
 have kR:=lX (env:=X.env) scope.names [] vh (λp hp=>(nomatch hp))
 have pR:∀y c,(dw X.env scope.names []).lookup y=some c->X.env.cells.lookup y=some c:=λy c e=>kR (y,c) (fC e)
 have Sh:∀y,scope.names.lookup y=some .free->(dw X.env scope.names []).lookup y=X.env.cells.lookup y:=λy e=>kM (f:=λn=>X.env.cells.lookup n) kR (uH scope.names [] (fC e))
 have lt:∀b,(∃o,s.heap.get? b=some o)->b<s.heap.objs.size:=λb ⟨o,e⟩=>bG e
 have hDn:H D=none:=I.bz.fresh hD
 refine⟨⟨I.ok.mod,S.kind,I.ok.glob,I.ok.blt,hC,λx y c h1 h2=>I.ok.inj x y c (pR x c h1) (pR y c h2),λy hy=>?_,λ_ _ e=>(nomatch e),I.ok.hd,I.ok.frames,.inl rfl,λb hb=>⟨?_,λx c e=>(Ww b hb).2.2.2.2.1 x c (pR x c e)⟩,I.bs,cQ I.ok.Jr I.sz,λb o e hb=>?_,λb hb z=>?_,I.stack,I.vP⟩,
  rfl,I.bare,?_,⟨m0,hn,λi y v e1 e2 hv=>?_⟩,λx c e=>?_,?_,λx c e=>?_,λp hp=>(nomatch hp),?_,?_⟩
 ·
  have q:scope.names.lookup y=some .free:=sE S.kL hy
  have q2:=fC q
  obtain⟨c,e⟩:=vh _ q2 rfl
  exact⟨c,(Sh y q).trans e⟩
 ·
  exact bf (bW (lt b (Ol b hb)) hC)
 ·
  rcases(Ww b hb).2.2.2.1 with z | z
  ·exact I.ok.MP b o e z
  ·exact absurd (bW (bG e) (cQ I.ok.Jr z)) (g7 _)
 ·
  rcases bJ.mp (I.n6 b z) with q | q
  ·exact(Ww b hb).2.1 q
  ·exact(Ww b hb).2.2.1 q
 ·
  exact Un.laid hk hD hDn
 ·
  by_cases hi:i<xs.length
  ·rw[lD (by simpa using hi)]at e2
   rw[GX]at e2
   split at e2 <;> cases e2
  ·have Kv:xs.length<=i:=Ge hi
   rw[jv (by simpa using Kv),pM]at e2
   obtain⟨i0,ei,es⟩:=Dw e2
   obtain⟨y',ey,ef⟩:=S.ix i0 (j6 ei)
   have Fn:(xs++bx X.N idx)[i]?=some y:=e1
   rw[jv Kv,Dx ei ey]at Fn
   cases Fn
   obtain⟨m,hm,hl'⟩:=I.loc
   have ef2:=S.free (y,.free) (fC ef) rfl
   have vis:Vis X.env.scope y:=.inr ef2.2
   obtain⟨u,ru,lk⟩:=hl' i0 y v ey es vis
   refine⟨u,ru,?_⟩
   rcases lk with ⟨k1,_⟩ | ⟨_,c,ec,hc⟩
   ·rcases ef2.2 with z | z
    ·have z':X.env.kindOf y=some .cell:=z
     rw[k1]at z';cases z'
    ·have z':X.env.kindOf y=some .free:=z
     rw[k1]at z';cases z'
   ·refine .inr ⟨?_,c,(Sh y ef).trans ec,hc.keeps hk⟩
    rcases hv with z | z | z
    ·exfalso
     have z':(relabel scope X.env).names.lookup y=some .local:=z
     have:∀(names:List (Str×NameKind)),names.lookup y=some .free->(names.map λ(n,k)=>if (k==NameKind.free&&X.env.scope.kind == .function&&X.env.kindOf n==some .cell) then (n,NameKind.cell) else (n,k)).lookup y≠some .local:=by
      intro names
      induction names with
      | nil=>intro h;cases h
      | cons p r ih=>
       obtain⟨n,k⟩:=p
       intro h
       rw[dZ]
       by_cases e:y=n
       ·subst e
        rw[dF,gF]at h
        cases h
        dsimp only
        split
        ·rw[dF,gF];exact λq=>nomatch q
        ·rw[dF,gF];exact λq=>nomatch q
       ·have hn:(y==n)=false:=by simpa using e
        rw[dF,hn]at h
        dsimp only
        split
        ·rw[dF,hn];exact ih h
        ·rw[dF,hn];exact ih h
     exact this scope.names ef z'
    ·exact .inl z
    ·exact .inr z
 ·
  obtain⟨v,q⟩:=I.cell x c (pR x c e)
  exact⟨v,q.keeps hk⟩
 ·
  show upd H D (.lst []) C=none
  rw[au (eK Ye)]
  exact I.bz.fresh hC
 ·
  have e':=pR x c e
  obtain⟨v,q⟩:=I.cell x c e'
  rw[au (bf (bW q.lt hD))]
  exact I.kj x c e'
 ·
  obtain⟨n,e⟩:=hl
  exact I.bz.laid hk hD ⟨de _,[],n,.nil,e⟩
 ·show(List.replicate xs.length none++cg σ idx).length=(xs++bx X.N idx).length
  rw[cS,cS,pM]
  unfold cg bx
  rw[aM,aM]
end
section
variable {X:Cx}{elt target iter:Expr}{ifs:List Expr}{scope:Scope}{pos:Pos}{xs:List Str}{idx:List Nat}{wi:TI}{g:CB->TG}{tt:CB->TT}{te:CB->TE}
theorem Fu{pins:List (Addr×Obj)}{σ:St}{H2:Hp}{s2:Shared}{fp:List Addr}{it:Addr}{tn:Nat->Heap->Prop}{J:It}{Q:V->Hp->Prop}{RR:Value->Addr->Result->Shared->Prop}{E:Value->Shared->Prop}(hc:X.calm=true)(S:xZ X scope xs idx)
  (hg:∀c,PG (ni X scope (xs++bx X.N idx) c) target (g c)) (ht:∀c,vG (ni X scope (xs++bx X.N idx) c) ifs (tt c)) (he:∀c,PE (ni X scope (xs++bx X.N idx) c) elt (te c))
  (I2:Inv X pins σ H2 s2) (T:Turn X.prog X.w X.K target J fp it tn) (Az:tn 0 s2.heap) (f2:∀b∈fp,vK X pins H2 b)
  (h:∀D,H2 D=none->∃W:Nat->Nat->List V->Hp->Prop,(∃m,W 0 m [] (upd H2 D (.lst [])))/\
   ∀i m ys H',W i m ys H'->(J.stop i H'/\Q (.ref D) H')\/(J.go i H'/\∃N:List V->Hp->Prop,(∀oZ rF,N oZ rF->∃m',m'<m/\W (i+1) m' oZ rF)/\∀(c:CB) (own:St),own.length=xs.length->∀x H2,J.JN i H' x H2->g c x (own++cg σ idx) H2 λσ3 H3=>
    (∃e9,e9.length=xs.length/\σ3=e9++cg σ idx)/\tt c σ3 H3 λb H4=>if b=true then te c σ3 H4 λy H5=>H5 D=some (.lst ys)/\ys.length<sizeLine/\N (ys++[y]) (upd H5 D (.lst (ys++[y]))) else N ys H4))
  (hRR:∀D C σ' H' s',s2.heap.objs.size<=C->Inv (ni X scope (xs++bx X.N idx) ⟨C,dw X.env scope.names [],s2,H2,fp⟩) [] σ' H' s'->Q (.ref D) H'->RR (.ref D) C (.ok .next) s') :
  wpAny (model X.prog X.w) X.A (newList []) (λacc s₃=>wpAny (model X.prog X.w) X.A (newFunctionEnv scope X.env.globals (dw X.env scope.names []) [] X.env.qual none .none (some X.env)) (λTn s₄=>
   codeAny (model X.prog X.w) X.A (.compStart (.ListComp elt [⟨target,iter,ifs,0⟩] scope pos) 0 (.ref it) acc { Tn with scope:=relabel scope X.env }) (RR acc Tn.locals) s₄) E s₃) E s2:=by
 refine iY (wpAny_newFunctionEnv S.kL (by intro y hy;simp at hy) (λh₁ R' Wn=>?_) S.kind)
 dsimp only at R' Wn ⊢
 generalize Yc:s2.heap.push { cls:=.type "list",dict:=none,data:=.seq ([]:List Value).toArray }=HH at R' Wn ⊢
 have hCs:HH.objs.size=s2.heap.objs.size+1:=by rw[<-Yc,lz]
 have Ye:s2.heap.objs.size≠HH.objs.size:=by rw[hCs];exact bf (nP _)
 have yz:s2.heap.objs.size<=HH.objs.size:=by rw[hCs];exact gT _
 have old:∀b o,s2.heap.get? b=some o->h₁.get? b=some o:=λb o e=>Wn.extBut b o (by rw[hCs];exact bf (pJ (bG e))) (bN _ (Yc ▸ bN _ e))
 have yx:∃n,h₁.get? s2.heap.objs.size=some { cls:=.type "list",data:=.seq #[] n }:=⟨_,Wn.extBut _ _ Ye (bN _ (Yc ▸ cC _ rfl))⟩
 have PB:tn 0 h₁:=T.keep _ _ _ Az λb _ o e=>old b o e
 obtain⟨W,⟨m0,w0⟩,turn⟩:=h s2.heap.objs.size I2.fresh
 have loop:∀s₃:Shared,s₃={ s2 with heap:=h₁,toks:=s2.toks+([]:List (Str×Value)).length }->
   codeAny (model X.prog X.w) X.A (.compLoop (.ListComp elt [⟨target,iter,ifs,0⟩] scope pos) 0 (.ref it) (.ref s2.heap.objs.size) (compEnvC scope (dw X.env scope.names []) HH.objs.size X.env)) (RR (.ref s2.heap.objs.size) HH.objs.size) s₃:=by
  rintro s₃ rfl
  have I3:=I2.block (t':=s2.toks+([]:List (Str×Value)).length) (H1:=H2) S f2 (λb hb=>let ⟨o,e,_⟩:=T.obj _ _ Az b hb;⟨o,e⟩) yz Ye (bj _) R' old yx
  generalize hY:ni X scope (xs++bx X.N idx) ⟨HH.objs.size,dw X.env scope.names [],s2,H2,fp⟩=Y at I3
  have eY:Y=ni X scope (xs++bx X.N idx) ⟨HH.objs.size,dw X.env scope.names [],s2,H2,fp⟩:=hY.symm
  have nof:∀b∈fp,b∉Y.fs:=λb hb z=>by
   rw[eY]at z
   rcases bJ.mp (I2.n6 b z) with q | q
   ·exact(f2 b hb).2.1 q
   ·exact(f2 b hb).2.2.1 q
  have stat:∀{H':Hp},(∀b∈fp,H' b=none)->∀b∈fp,vK Y [] H' b:=λ{H'} hn b hb=>by
   have lt:b<s2.heap.objs.size:=let ⟨o,e,_⟩:=T.obj _ _ Az b hb;bG e
   refine⟨hn b hb,?_,nof b hb,.inl (by rw[eY];exact hb),λx c e=>?_,λp hp=>?_⟩
   ·rw[eY];exact bf (bW lt yz)
   ·rw[eY]at e
    have kR:=lX (env:=X.env) scope.names [] (λy hy e=>I2.ok.has y.1 (S.free y hy e).2) (λp hp=>nomatch hp)
    exact(f2 b hb).2.2.2.2.1 x c (kR (x,c) (fC e))
   ·rw[eY]at hp;exact nomatch hp
  have T':Turn Y.prog Y.w Y.K target J fp it tn:=by rw[eY];exact T
  have hg':PG Y target (g ⟨HH.objs.size,dw X.env scope.names [],s2,H2,fp⟩):=by rw[eY];exact hg _
  have R5:vG Y ifs (tt ⟨HH.objs.size,dw X.env scope.names [],s2,H2,fp⟩):=by rw[eY];exact ht _
  have he':PE Y elt (te ⟨HH.objs.size,dw X.env scope.names [],s2,H2,fp⟩):=by rw[eY];exact he _
  have hcY:Y.calm=true:=by rw[eY];exact hc
  have eA:Y.A=X.A:=by rw[eY]
  have eP:Y.prog=X.prog:=by rw[eY]
  have eW:Y.w=X.w:=by rw[eY]
  have eE:Y.env=compEnvC scope (dw X.env scope.names []) HH.objs.size X.env:=by rw[eY]
  have eX:Y.xe=λ_ _=>False:=by rw[eY]
  have fin:∀σ' H' s',Inv Y [] σ' H' s'->Q (.ref s2.heap.objs.size) H'->RR (.ref s2.heap.objs.size) HH.objs.size (.ok .next) s':=λσ' H' s' I' q=>hRR _ _ σ' H' s' yz (by rw[<-eY];exact I') q
  rw[<-eE,<-eA,<-eP,<-eW]
  have fr0:∀b∈fp,(upd H2 s2.heap.objs.size (.lst [])) b=none:=λb hb=>by
   have lt:b<s2.heap.objs.size:=let ⟨o,e,_⟩:=T.obj _ _ Az b hb;bG e
   rw[au (bf lt)];exact(f2 b hb).1
  refine jd (λn s'=>∃i ys own H',own.length=xs.length/\Inv Y [] (own++cg σ idx) H' s'/\tn i s'.heap/\(∀b∈fp,H' b=none)/\W i n ys H') ?_ m0
   ⟨0,[],_,_,pM,I3,PB,fr0,w0⟩
  rintro n s4 ⟨i,ys,own,H4,aAp,I4,st4,fr4,w4⟩
  rcases turn i n ys H4 w4 with ⟨stop,qn⟩ | ⟨go,NN,hNN,step⟩
  ·exact cT (T'.done Y rfl rfl rfl hcY i [] s4 _ H4 _ I4 (stat fr4) st4 stop) λr s5 ⟨hr,I5⟩=>by subst hr;exact fin _ _ _ I5 qn
  ·refine cT (T'.item Y rfl rfl rfl hcY i [] s4 _ H4 _ I4 (stat fr4) st4 go) λr s5 ⟨u,hr,h5⟩=>?_
   subst hr
   refine cT h5 λ_ s6 ⟨x,H6,I6,r6,y6,YF,fr6⟩=>?_
   have I6':=I6.pinned (stat fr6) (T'.obj _ _ YF)
   have step':=step ⟨HH.objs.size,dw X.env scope.names [],s2,H2,fp⟩ own aAp x H6 y6
   refine cL (hg' _ s6 _ H6 x u _ I6' r6 step') (λ_ s7 ⟨σ7,H7,I7,q7⟩=>?_) (λ_ _ z=>by rw[eX]at z;exact z)
   obtain⟨⟨ZF,ho7,e7⟩,q7⟩:=q7
   refine cL (R5 _ s7 σ7 H7 _ I7 q7) (λb s8 ⟨H8,I8,q8⟩=>?_) (λ_ _ z=>by rw[eX]at z;exact z)
   have again:∀{H9:Hp} {s9:Shared} {oZ:List V},Inv Y ([]++ui fp s6.heap) σ7 H9 s9->NN oZ H9->∃m,m<n/\∃i ys own H',own.length=xs.length/\Inv Y [] (own++cg σ idx) H' s9/\tn i s9.heap/\(∀b∈fp,H' b=none)/\W i m ys H':=λ{H9 s9 oZ} I9 n9=>by
    obtain⟨m',hm,w9⟩:=hNN _ _ n9
    rw[e7]at I9
    refine⟨m',hm,i+1,oZ,ZF,H9,ho7,I9.n5,T'.keep _ _ _ YF λb hb o e=>(I9.pin (b,o) (gS _ (gS _ (iA hb e)))).1,λb hb=>?_,w9⟩
    obtain⟨o,e,d⟩:=T'.obj _ _ YF b hb
    exact(I9.pin (b,o) (gS _ (gS _ (iA hb e)))).2.1
   cases b with
   | false=>exact again I8 q8
   | true=>
    refine cL (he' _ s8 σ7 H8 _ I8 q8) (λu9 s9 ⟨y,H9,I9,r9,hy,hz,q9⟩=>?_) (λ_ _ z=>by rw[eX]at z;exact z)
    have ap:=fj (X:=Y) _ s9 σ7 H9 (.ref s2.heap.objs.size) [y] (.ref s2.heap.objs.size) [u9] (λ_ TV=>NN (ys++[y]) TV) I9 rfl (.cons r9 .nil) ⟨_,ys,y,rfl,rfl,hy,hz,q9⟩
    refine cL ap (λ_ T5 ⟨_,TV,I10,_,q10⟩=>again I10 q10) (λ_ _ z=>by rw[eX]at z;exact z)
 exact codeAny_compStart_list (loop _ rfl) (T.self _ 0 _ _ _ PB (loop _ rfl))
theorem VN(hc:X.calm=true)(S:xZ X scope xs idx)(hi:PI X target iter wi)
  (hg:∀c,PG (ni X scope (xs++bx X.N idx) c) target (g c)) (ht:∀c,vG (ni X scope (xs++bx X.N idx) c) ifs (tt c)) (he:∀c,PE (ni X scope (xs++bx X.N idx) c) elt (te c))
  (hs:∀x,foldedSetIterable iter X.env x=pure x:=by intro _;rfl):PE X (.ListComp elt [⟨target,iter,ifs,0⟩] scope pos) (rV wi xs.length idx g tt te):=by
 intro pins s σ H Q I h
 rw[eval_ListComp]
 have Fi:closureFor scope X.env=pure (dw X.env scope.names []):=iK λy hy e=>I.ok.has y.1 (S.free y hy e).2
 refine GJ (use:=none) rfl hs Fi S.kind S.loc (cT (hi pins s σ H _ I h) λxv s₁ h₁=>cT h₁ λitv s₂ h₂=>?_)
 obtain⟨it,fp,tn,J,H2,e,I2,T,Az,f2,hW⟩:=h₂
 subst e
 refine Fu (Q:=Q) (RR:=λacc C=>compPost (model X.prog X.w) X.A X.xe none (EP X pins σ Q) acc C) hc S hg ht he I2 T Az f2 hW ?_
 intro D C σ' H' s' hC I' q
 obtain⟨m',hn,_⟩:=I'.loc
 refine⟨m',hn,λh'' aBA=>?_⟩
 obtain⟨hh,gg,d,t,os⟩:=s'
 obtain rfl:os=s₂.os:=I'.os
 have Cn:s₂.heap.get? C=none:=qi hC
 refine⟨.ref D,H',I2.call (s:=s₂) (h':=h'') (g':=gg) (d':=d) (t':=t) (ch:=fp) (I'.base.but Cn aBA) (I'.bz.but I'.free aBA) I'.bare (λb hb=>?_),rfl,q⟩
 obtain⟨_,f1,_,f3,f4,f5⟩:=f2 b hb
 exact⟨f3,f1,f4,f5⟩
end
theorem Jg{lo:Int}{n k:Nat}{idx:List Nat}{g:CB->TG}{tt:CB->TT}{te:CB->TE}{σ:St}{Q:VK}{H1:Hp}{D:Addr}(Pv:Nat->List V->Hp->Prop)(h0:Pv 0 [] (upd H1 D (.lst [])))
  (hs:∀i ys H,i<n->Pv i ys H->∀(c:CB) (own:St),own.length=k->g c (.int (lo+i)) (own++cg σ idx) H λσ3 H3=>
   (∃e9,e9.length=k/\σ3=e9++cg σ idx)/\tt c σ3 H3 λb H4=>if b=true then te c σ3 H4 λy H5=>H5 D=some (.lst ys)/\ys.length<sizeLine/\Pv (i+1) (ys++[y]) (upd H5 D (.lst (ys++[y]))) else Pv (i+1) ys H4)
  (hd:∀ys H,Pv n ys H->Q (.ref D) H) :
  ∃W:Nat->Nat->List V->Hp->Prop,(∃m,W 0 m [] (upd H1 D (.lst [])))/\
   ∀i m ys H',W i m ys H'->((JB lo n).stop i H'/\Q (.ref D) H')\/((JB lo n).go i H'/\∃N:List V->Hp->Prop,(∀oZ rF,N oZ rF->∃m',m'<m/\W (i+1) m' oZ rF)/\∀(c:CB) (own:St),own.length=k->∀x H2,(JB lo n).JN i H' x H2->g c x (own++cg σ idx) H2 λσ3 H3=>
    (∃e9,e9.length=k/\σ3=e9++cg σ idx)/\tt c σ3 H3 λb H4=>if b=true then te c σ3 H4 λy H5=>H5 D=some (.lst ys)/\ys.length<sizeLine/\N (ys++[y]) (upd H5 D (.lst (ys++[y]))) else N ys H4):=by
 refine⟨λi m ys H=>m=n-i/\i<=n/\Pv i ys H,⟨n,by simp,de _,h0⟩,?_⟩
 rintro i m ys H ⟨rfl,hi,p⟩
 by_cases iE:i<n
 ·refine .inr ⟨iE,Pv (i+1),λoZ H' p'=>⟨n-(i+1),by omega,rfl,iE,p'⟩,λc own ho x H' y=>?_⟩
  obtain⟨e,y⟩:=y
  subst e y
  exact hs i ys _ iE p c own ho
 ·have e:i=n:=by omega
  subst e
  exact .inl ⟨bj _,hd ys H p⟩
theorem N0{K:PySem.W.Frag}{a:Addr}{zs:List V}{k:Nat}{idx:List Nat}{g:CB->TG}{tt:CB->TT}{te:CB->TE}{σ:St}{Q:VK}{H1:Hp}{D:Addr}(Pv:Nat->List V->Hp->Prop)(h0:Pv 0 [] (upd H1 D (.lst [])))
  (hl:∀i ys H,i<=zs.length->Pv i ys H->rE K H a zs)
  (hs:∀i x ys H,zs[i]?=some x->Pv i ys H->∀(c:CB) (own:St),own.length=k->g c x (own++cg σ idx) H λσ3 H3=>
   (∃e9,e9.length=k/\σ3=e9++cg σ idx)/\tt c σ3 H3 λb H4=>if b=true then te c σ3 H4 λy H5=>H5 D=some (.lst ys)/\ys.length<sizeLine/\Pv (i+1) (ys++[y]) (upd H5 D (.lst (ys++[y]))) else Pv (i+1) ys H4)
  (hd:∀ys H,Pv zs.length ys H->Q (.ref D) H) :
  ∃W:Nat->Nat->List V->Hp->Prop,(∃m,W 0 m [] (upd H1 D (.lst [])))/\
   ∀i m ys H',W i m ys H'->((JC K a).stop i H'/\Q (.ref D) H')\/((JC K a).go i H'/\∃N:List V->Hp->Prop,(∀oZ rF,N oZ rF->∃m',m'<m/\W (i+1) m' oZ rF)/\∀(c:CB) (own:St),own.length=k->∀x H2,(JC K a).JN i H' x H2->g c x (own++cg σ idx) H2 λσ3 H3=>
    (∃e9,e9.length=k/\σ3=e9++cg σ idx)/\tt c σ3 H3 λb H4=>if b=true then te c σ3 H4 λy H5=>H5 D=some (.lst ys)/\ys.length<sizeLine/\N (ys++[y]) (upd H5 D (.lst (ys++[y]))) else N ys H4):=by
 refine⟨λi m ys H=>m=zs.length-i/\i<=zs.length/\Pv i ys H,⟨zs.length,by simp,de _,h0⟩,?_⟩
 rintro i m ys H ⟨rfl,hi,p⟩
 have q:=hl i ys H hi p
 by_cases iE:i<zs.length
 ·refine .inr ⟨⟨zs,zs[i],q,by simp[iE]⟩,Pv (i+1),λoZ H' p'=>⟨zs.length-(i+1),by omega,rfl,iE,p'⟩,λc own ho x H' y=>?_⟩
  obtain⟨e,y⟩:=y
  subst e
  exact hs i x ys _ (y zs q) p c own ho
 ·have e:i=zs.length:=by omega
  subst e
  exact .inl ⟨⟨zs,q,bj _⟩,hd ys H p⟩
theorem ZJ{own:St}{k:St}{x:V}(h:own.length=1):(own++k).set 0 (some x)=[some x]++k:=by
 match own,h with
 | [_],_=>rfl
theorem Fv{lo:Int}{n:Nat}{idx:List Nat}{tt:CB->TT}{te:CB->TE}{σ:St}{Q:VK}{H1:Hp}{D:Addr}(Pv:Nat->List V->Hp->Prop)(h0:Pv 0 [] (upd H1 D (.lst [])))
  (hs:∀i ys H,i<n->Pv i ys H->∀(c:CB),tt c (some (.int (lo+i))::cg σ idx) H λb H4=>if b=true then te c (some (.int (lo+i))::cg σ idx) H4 λy H5=>H5 D=some (.lst ys)/\ys.length<sizeLine/\Pv (i+1) (ys++[y]) (upd H5 D (.lst (ys++[y]))) else Pv (i+1) ys H4)
  (hd:∀ys H,Pv n ys H->Q (.ref D) H) :
  ∃W:Nat->Nat->List V->Hp->Prop,(∃m,W 0 m [] (upd H1 D (.lst [])))/\
   ∀i m ys H',W i m ys H'->((JB lo n).stop i H'/\Q (.ref D) H')\/((JB lo n).go i H'/\∃N:List V->Hp->Prop,(∀oZ rF,N oZ rF->∃m',m'<m/\W (i+1) m' oZ rF)/\∀(c:CB) (own:St),own.length=1->∀x H2,(JB lo n).JN i H' x H2->dg 0 x (own++cg σ idx) H2 λσ3 H3=>
    (∃e9,e9.length=1/\σ3=e9++cg σ idx)/\tt c σ3 H3 λb H4=>if b=true then te c σ3 H4 λy H5=>H5 D=some (.lst ys)/\ys.length<sizeLine/\N (ys++[y]) (upd H5 D (.lst (ys++[y]))) else N ys H4):=
 Jg (g:=λ_=>dg 0) Pv h0 (λi ys H hi p c own ho=>by
  show(∃e9,e9.length=1/\(own++cg σ idx).set 0 _=e9++cg σ idx)/\tt c ((own++cg σ idx).set 0 _) H _
  rw[ZJ ho]
  exact⟨⟨[_],rfl,rfl⟩,hs i ys H hi p c⟩) hd
theorem Jh{K:PySem.W.Frag}{a:Addr}{zs:List V}{idx:List Nat}{tt:CB->TT}{te:CB->TE}{σ:St}{Q:VK}{H1:Hp}{D:Addr}(Pv:Nat->List V->Hp->Prop)(h0:Pv 0 [] (upd H1 D (.lst [])))
  (hl:∀i ys H,i<=zs.length->Pv i ys H->rE K H a zs)
  (hs:∀i x ys H,zs[i]?=some x->Pv i ys H->∀(c:CB),tt c (some x::cg σ idx) H λb H4=>if b=true then te c (some x::cg σ idx) H4 λy H5=>H5 D=some (.lst ys)/\ys.length<sizeLine/\Pv (i+1) (ys++[y]) (upd H5 D (.lst (ys++[y]))) else Pv (i+1) ys H4)
  (hd:∀ys H,Pv zs.length ys H->Q (.ref D) H) :
  ∃W:Nat->Nat->List V->Hp->Prop,(∃m,W 0 m [] (upd H1 D (.lst [])))/\
   ∀i m ys H',W i m ys H'->((JC K a).stop i H'/\Q (.ref D) H')\/((JC K a).go i H'/\∃N:List V->Hp->Prop,(∀oZ rF,N oZ rF->∃m',m'<m/\W (i+1) m' oZ rF)/\∀(c:CB) (own:St),own.length=1->∀x H2,(JC K a).JN i H' x H2->dg 0 x (own++cg σ idx) H2 λσ3 H3=>
    (∃e9,e9.length=1/\σ3=e9++cg σ idx)/\tt c σ3 H3 λb H4=>if b=true then te c σ3 H4 λy H5=>H5 D=some (.lst ys)/\ys.length<sizeLine/\N (ys++[y]) (upd H5 D (.lst (ys++[y]))) else N ys H4):=
 N0 (g:=λ_=>dg 0) Pv h0 hl (λi x ys H hi p c own ho=>by
  show(∃e9,e9.length=1/\(own++cg σ idx).set 0 _=e9++cg σ idx)/\tt c ((own++cg σ idx).set 0 _) H _
  rw[ZJ ho]
  exact⟨⟨[_],rfl,rfl⟩,hs i x ys H hi p c⟩) hd
def aFi(z:Str)(lo hi:Option Int):Str:=⟨((z.cps.toList.drop (HT.dO z.length 0 lo)).take (HT.dO z.length z.length hi-HT.dO z.length 0 lo)).toArray⟩
theorem mD{n:Nat}(h:n<=1000):n<=sizeLine:=kG (rJ h (by decide))
section
variable {X:Cx}
def Y4:V->Option Int->Option Int->Hp->VK->Prop:=λx lo hi H Q=>∃z,x=.str z/\z.length<=sizeLine/\Q (.str (aFi z lo hi)) H
def Yz(K:PySem.W.Frag)(te ts:TE):TE:=λσ H Q=>te σ H λx H1=>ts σ H1 λy H2=>∃a xs,x=.ref a/\y=.int (-1)/\rE K H2 a xs/\∀p,H2 p=none->Q (.ref p) (upd H2 p (.lst xs.reverse))
theorem Ts(c:Value):fz X (.builtin "isinstance") (λvs H Q=>∃x t b n,vs=[x,.ty n]/\tG X.K H x t/\PySem.W.kitOne X.K t (.type n)=some b/\Q (.bl b) H):=by
 intro pins s σ H vs us Q I rv h
 obtain⟨x,t,b,n,rfl,ty,e,q⟩:=h
 obtain⟨u,v,rfl,ru,rv'⟩:=rv.two
 obtain rfl:v=Value.type n:=rv'
 exact Nh I ru ty e λtk=>⟨.bl b,H,I.tok _,rfl,q⟩
def aBQ(xs ys:List V):Bool:=xs.length==ys.length&&(List.range xs.length).all λj=>Ou (xs.getD j .non) (ys.getD j .non)
def Bl:V->List V->Hp->VK->Prop:=λx vs H Q=>∃a aO,x=.ref a/\vs=[]/\H a=some (.dK aO)/\Q .non (upd H a (.dK []))
end
section
variable {X:Cx}{elt target iter:Expr}{ifs:List Expr}{scope:Scope}{pos spos py:Pos}{xs:List Str}{idx:List Nat}{wi:TI}{g:CB->TG}{tt:CB->TT}{te:CB->TE}
theorem Vw{i:Nat}{y:Str}(hN:X.N.Nodup)(hi0:X.N[i]?=some y)(hy:X.env.scope.names.lookup y=some .local)(hc:X.calm=true)(S:xZ X scope xs idx)(hi:PI X target iter wi)
  (hg:∀c,PG (ni X scope (xs++bx X.N idx) c) target (g c)) (ht:∀c,vG (ni X scope (xs++bx X.N idx) c) ifs (tt c)) (he:∀c,PE (ni X scope (xs++bx X.N idx) c) elt (te c))
  (hsw:swapsWith (.ListComp elt [⟨target,iter,ifs,0⟩] scope pos) (some (.Name y py)) spos.line X.env=pure true:=by rfl)
  (hs:∀x,foldedSetIterable iter X.env x=pure x:=by intro _;rfl):PS X (.Assign [.Name y py] (.ListComp elt [⟨target,iter,ifs,0⟩] scope pos) spos) (uc (rV wi xs.length idx g tt te) (dg i)):=by
 intro pins s σ H D I h
 have Fi:closureFor scope X.env=pure (dw X.env scope.names []):=iK λy hy e=>I.ok.has y.1 (S.free y hy e).2
 rw[exec_Assign_Name_used _ _ _ _ hsw]
 refine av (qa (av ?_))
 show wpAny _ X.A (do let _ <-comprehension (.ListComp elt [⟨target,iter,ifs,0⟩] scope pos) scope X.env _ (newList []) false (eval iter X.env) (some (assign (.Name y py) X.env))) _ _ s
 refine av (cL (GJ (use:=some (assign (.Name y py) X.env)) (Q:=λ_ s'=>SP X pins D .next s') rfl hs Fi S.kind S.loc
  (cT (hi pins s σ H _ I h) λxv s₁ h₁=>cT h₁ λitv s₂ h₂=>?_)) (λ_ s' hq=>aK (aK hq)) λ_ _ e=>e)
 obtain⟨it,fp,tn,J,H2,e,I2,T,Az,f2,hW⟩:=h₂
 subst e
 refine Fu (Q:=λv H'=>dg i v σ H' D.nx) (RR:=λacc C=>compPost (model X.prog X.w) X.A X.xe (some (assign (.Name y py) X.env)) (λ_ s'=>SP X pins D .next s') acc C) hc S hg ht he I2 T Az f2 hW ?_
 intro DD C σ' H' s' hC I' q
 show wpAny _ X.A (assign (.Name y py) X.env (.ref DD)) _ _ _
 obtain⟨hh,gg,d,t,os⟩:=s'
 obtain rfl:os=s₂.os:=I'.os
 have Cn:s₂.heap.get? C=none:=qi hC
 have I3:Inv X pins σ H' { s₂ with heap:=hh,gens:=gg,drawn:=d,toks:=t }:=I2.call (s:=s₂) (h':=hh) (g':=gg) (d':=d) (t':=t) (ch:=fp) (I'.base.but Cn (Heap.SameBut.refl _ _)) I'.bz I'.bare (λb hb=>by
  obtain⟨_,f1,_,f3,f4,f5⟩:=f2 b hb
  exact⟨f3,f1,f4,f5⟩)
 obtain⟨m',hn,_⟩:=I'.loc
 have hLC:X.env.locals≠C:=bf (bW I2.lt hC)
 refine wpAny_assign_Name (ud I3 hN hi0 (.inl hy) (v:=.ref DD) rfl (λY3 I4 ⟨a,hs4,ha⟩=>?_) (.inr hy))
 have haC:C≠a:=by
  rcases ha with e | e
  ·rw[e];exact eK hLC
  ·obtain⟨v,q⟩:=I2.cell y a e
   exact g6 (bW q.lt hC)
 refine⟨m',hn.sameBut hs4 haC,λh3 hs3=>?_⟩
 obtain⟨hh4,gg4,d4,t4,os4⟩:=Y3
 have I5:Inv X pins (σ.set i (some (.ref DD))) H' { heap:=h3,gens:=gg4,drawn:=d4,toks:=t4,os:=os4 }:=
  I4.turned (s:={ heap:=hh4,gens:=gg4,drawn:=d4,toks:=t4,os:=os4 }) (h':=h3) (t':=t4) (it:=C) (λb o hb e=>(hs3.2 b hb).trans e) I'.free (eK hLC) (.inr (cQ I2.sz hC)) (λx c e z=>by
   obtain⟨v,q⟩:=I2.cell x c e
   exact absurd (bW q.lt hC) (by rw[z];exact g7 _)) (λp hp z=>by
   have:=(I2.pin p hp).1
   rw[z,Cn]at this;cases this)
 exact⟨_,H',I5,q⟩
end
def NX(gP:Scope)(N:List Str)(scope:Scope)(idx:List Nat):Bool:=
 scope.kind == .function&&scope.names.all (λy=>y.2 != .cell)&&scope.names.all (λy=>y.2 != .local||scope.names.lookup y.1==some .local) &&
 scope.names.all (λy=>y.2 != .free||(scope.names.lookup y.1==some .free&&(gP.names.lookup y.1==some .cell||gP.names.lookup y.1==some .free))) &&
 idx.all (λi=>match N[i]? with | some y=>scope.names.lookup y==some .free | none=>false)
theorem zJ{X:Cx}{scope:Scope}{xs:List Str}{idx:List Nat}{gP:Scope}{N:List Str}(h:NX gP N scope idx=true)(e1:X.env.scope=gP:=by rfl)(e2:X.N=N:=by rfl):xZ X scope xs idx:=by
 unfold NX at h
 simp only[dv]at h
 refine hide λgG hG=>?_
 obtain⟨⟨⟨⟨h1,h2⟩,h3⟩,h4⟩,h5⟩:=h
 refine hG ?_
 refine⟨by simpa using h1,λy hy e=>?_,λy hy e=>?_,λy hy e=>?_,λi hi=>?_⟩
 ·have:=j3.mp h2 y hy
  rw[e]at this;exact absurd this (by decide)
 ·have:=j3.mp h3 y hy
  rw[e]at this;simpa using this
 ·have:=j3.mp h4 y hy
  rw[e]at this
  have t:(scope.names.lookup y.1==some NameKind.free&&(gP.names.lookup y.1==some .cell||gP.names.lookup y.1==some .free))=true:=by simpa using this
  rw[dv,kI]at t
  refine⟨by simpa using t.1,?_⟩
  show X.env.scope.names.lookup y.1=_\/X.env.scope.names.lookup y.1=_
  rw[e1]
  exact t.2.imp (by simp) (by simp)
 ·have:=j3.mp h5 i hi
  rw[e2]
  cases e:N[i]? with
  | none=>rw[e]at this;cases this
  | some y=>rw[e]at this;exact⟨y,rfl,by simpa using this⟩
theorem FK{α:Type}(a:α)(xs:List α):v7 (a::xs) 0=some a:=iX (j:=0) rfl
theorem Le{α:Type}(a b:α)(xs:List α):v7 (a::b::xs) 1=some b:=iX (j:=1) rfl
theorem Ld{α:Type}(a b c:α)(xs:List α):v7 (a::b::c::xs) 2=some c:=iX (j:=2) rfl
theorem Lc{α:Type}(a b c d:α)(xs:List α):v7 (a::b::c::d::xs) 3=some d:=iX (j:=3) rfl
theorem TF{α:Type}(a b c d e:α)(xs:List α):v7 (a::b::c::d::e::xs) 4=some e:=iX (j:=4) rfl
theorem TB{α:Type}(a b c d e f:α)(xs:List α):v7 (a::b::c::d::e::f::xs) 5=some f:=iX (j:=5) rfl
theorem Iq:Ir 6 1=some 1:=rfl
theorem Ip:Ir 6 2=some 2:=rfl
theorem Io:Ir 6 3=some 3:=rfl
theorem Im:Ir 6 4=some 4:=rfl
theorem Il:Ir 6 5=some 5:=rfl
theorem K4(i:Int):m4 i 48271/\m4 i 40693/\m4 i 3/\m4 i 4294967296:=⟨.inr ⟨by decide,by decide⟩,.inr ⟨by decide,by decide⟩,.inr ⟨by decide,by decide⟩,.inr ⟨by decide,by decide⟩⟩
theorem Ti(i:Int):m4 i 48271:=(K4 i).1
theorem Tg(i:Int):m4 i 40693:=(K4 i).2.1
theorem Tf(i:Int):m4 i 3:=(K4 i).2.2.1
theorem Te(i:Int):m4 i 4294967296:=(K4 i).2.2.2
theorem K5(i:Int):m4 5 i/\m4 3 i/\m4 7 i/\m4 10 i:=⟨.inl ⟨by decide,by decide⟩,.inl ⟨by decide,by decide⟩,.inl ⟨by decide,by decide⟩,.inl ⟨by decide,by decide⟩⟩
theorem Jm(i:Int):m4 5 i:=(K5 i).1
theorem Jl(i:Int):m4 3 i:=(K5 i).2.1
theorem Jk(i:Int):m4 7 i:=(K5 i).2.2.1
theorem Jj(i:Int):m4 10 i:=(K5 i).2.2.2
theorem Jf:aCo 10 18:=⟨by decide,by decide,by decide⟩
def Ux(t u:TS):TS:=λD σ H=>∃N:St->Hp->Prop,t { D with nx:=N } σ H/\∀σ' H',N σ' H'->u D σ' H'
theorem Vs{X:Cx}{st:Stmt}{rest:List Stmt}{t u:TS}(h1:PS X st t)(h2:CJ X rest u):CJ X (st::rest) (Ux t u):=by
 intro pins s σ H D I ⟨N,hn,hu⟩
 refine wpAny_execs_cons (cT (h1 pins s σ H { D with nx:=N } I hn) λf s1 q=>?_)
 cases f with
 | next=>
  refine hide λgG hG=>?_
  obtain⟨σ',H',I',q⟩:=q
  refine hG ?_
  exact h2 pins s1 σ' H' D I' (hu σ' H' q)
 | ret v=>exact q
 | brk=>exact q
 | cont=>exact q
theorem Tz{ns:List Int}{k:Int}(h0:0<=k)(h:k<(ns.length:Int)):∃v:Int,v7 (ns.map V.int) k=some (.int v):=by
 have hk:k.toNat<ns.length:=by lia
 have ek:k=((k.toNat:Nat):Int):=by lia
 have q:v7 (ns.map V.int) ((k.toNat:Nat):Int)=some (.int ns[k.toNat]):=iX (by rw[cM,bq hk] <;> rfl)
 rw[<-ek]at q
 exact⟨_,q⟩
section
variable {X:Cx}
theorem pG.imp{f:Value->Value->Sem Value}{r r':R2}(h:pG X f r)(i:∀x y H Q,r' x y H Q->r x y H Q):pG X f r':=λpins s σ H x y v u Q I rx ry q=>h pins s σ H x y v u Q I rx ry (i _ _ _ _ q)
theorem Xg.imp{r r':R2}(h:Xg X r)(i:∀x y H Q,r' x y H Q->r x y H Q):Xg X r':=λvalue slice pins s σ H x y v u Q I rx ry q hs=>h value slice pins s σ H x y v u Q I rx ry (i _ _ _ _ q) hs
theorem fz.imp{f:Value}{r r':List V->Hp->VK->Prop}(h:fz X f r)(i:∀x H Q,r' x H Q->r x H Q):fz X f r':=λpins s σ H vs us Q I rv q=>h pins s σ H vs us Q I rv (i _ _ _ q)
theorem Ui.imp{r r':V->Option Int->Option Int->Hp->VK->Prop}(h:Ui X r)(i:∀x lo hi H Q,r' x lo hi H Q->r x lo hi H Q):Ui X r':=λpins s σ H x v vl vu lo hi sl Q I rx hs pl pu q=>h pins s σ H x v vl vu lo hi sl Q I rx hs pl pu (i _ _ _ _ _ q)
theorem aX{K:PySem.W.Frag}{H:Hp}{a:Addr}{xs:List V}(h:H a=some (.lst xs)):rE K H a xs:=rE.of h
theorem bR{K:PySem.W.Frag}{H:Hp}{a:Addr}{xs:List V}(h:H a=some (.tup xs)):yF K H a xs:=yF.of h
def Qx:R2:=λx y H Q=>∃p i,x=.ref p/\y=.int i/\∃xs,H p=some (.lst xs)/\∃v,v7 xs i=some v/\Q v H
theorem kO:Xg X Qx:=Wi.imp λx y H Q ⟨p,i,e1,e2,xs,h,v,e3,q⟩=>⟨p,xs,i,v,e1,e2,aX h,e3,q⟩
def Vm:R2:=λx y H Q=>∃p i,x=.ref p/\y=.int i/\∃xs,H p=some (.tup xs)/\∃v,v7 xs i=some v/\Q v H
theorem vz:Xg X Vm:=aAh.imp λx y H Q ⟨p,i,e1,e2,xs,h,v,e3,q⟩=>⟨p,xs,i,v,e1,e2,bR h,e3,q⟩
def Y6:R2:=λx y H Q=>∃z i,x=.str z/\y=.int i/\z.length<=sizeLine/\∃c,v7 z.cps.toList i=some c/\Q (.str ⟨#[c]⟩) H
def Vk:V->Option Int->Option Int->Hp->VK->Prop:=λx lo hi H Q=>∃a,x=.ref a/\∃xs,H a=some (.lst xs)/\∀p,H p=none->Q (.ref p) (upd H p (.lst (jY xs lo hi)))
theorem aCB:Ui X Vk:=JZ.imp λx lo hi H Q ⟨a,e,xs,h,q⟩=>⟨a,xs,e,aX h,q⟩
def Vj:V->Option Int->Option Int->Hp->VK->Prop:=λx lo hi H Q=>∃a,x=.ref a/\∃xs,H a=some (.tup xs)/\¬(HT.dO xs.length 0 lo=0/\HT.dO xs.length xs.length hi=xs.length)/\∀p,H p=none->Q (.ref p) (upd H p (.tup (jY xs lo hi)))
theorem aCA:Ui X Vj:=YS.imp λx lo hi H Q ⟨a,e,xs,h,n,q⟩=>⟨a,xs,e,bR h,n,q⟩
def J7:List V->Hp->VK->Prop:=λvs H Q=>∃p,vs=[.ref p]/\∃xs,H p=some (.lst xs)/\Q (.int xs.length) H
theorem zL:fz X (.builtin "len") J7:=tf.imp λx H Q ⟨p,e,xs,h,q⟩=>⟨p,xs,e,.inl (aX h),q⟩
def J6:List V->Hp->VK->Prop:=λvs H Q=>∃p,vs=[.ref p]/\∃xs,H p=some (.tup xs)/\Q (.int xs.length) H
theorem iL:fz X (.builtin "len") J6:=tf.imp λx H Q ⟨p,e,xs,h,q⟩=>⟨p,xs,e,.inr (bR h),q⟩
def Bo:List V->Hp->VK->Prop:=λvs H Q=>∃p,vs=[.ref p]/\∃xs,H p=some (.lst xs)/\∀l,H l=none->Q (.ref l) (upd H l (.lst xs))
theorem Jq:fz X (.type "list") Bo:=Cr.imp λx H Q ⟨p,e,xs,h,q⟩=>⟨p,xs,e,.inl (aX h),q⟩
def Hm:List V->Hp->VK->Prop:=λvs H Q=>∃p,vs=[.ref p]/\∃xs,H p=some (.tup xs)/\∀l,H l=none->Q (.ref l) (upd H l (.lst xs))
def vS:List V->Hp->VK->Prop:=λvs H Q=>∃p,vs=[.ref p]/\∃xs,H p=some (.lst xs)/\∀l,H l=none->Q (.ref l) (upd H l (.tup xs))
theorem gO:fz X (.type "tuple") vS:=yC.imp λx H Q ⟨p,e,xs,h,q⟩=>⟨p,xs,e,.inl ⟨aX h,q⟩⟩
def Hn:List V->Hp->VK->Prop:=λvs H Q=>∃a,vs=[.ref a]/\∃aO,H a=some (.dK aO)/\∀p,H p=none->Q (.ref p) (upd H p (.lst (aO.map λkv=>kV kv.1)))
def Ho:List V->Hp->VK->Prop:=λvs H Q=>∃a,vs=[.ref a]/\∃aO,H a=some (.dK aO)/\∀p,H p=none->Q (.ref p) (upd H p (.dK aO))
def Bm:List V->Hp->VK->Prop:=λvs H Q=>∃a,vs=[.ref a]/\∃ss:List Str,H a=some (.lst (ss.map V.str))/\ss.length<64/\
 ∀ss':List Str,ss'.Perm ss->sortedS ss'=true->∀p,H p=none->Q (.ref p) (upd H p (.lst (ss'.map V.str)))
def Qw:V->List V->Hp->VK->Prop:=λx vs H Q=>∃sep a,x=.str sep/\vs=[.ref a]/\∃ss:List Str,H a=some (.lst (ss.map V.str))/\JoinOk sep ss=true/\Q (.str (Txt.join sep ss)) H
def Y9(neg:Bool):R2:=λx y H Q=>∃p,y=.ref p/\∃xs,H p=some (.lst xs)/\jO x=true/\xs.all jO=true/\Q (.bl (if neg then !Xz x xs else Xz x xs)) H
def QC(neg:Bool):R2:=λx y H Q=>∃p,y=.ref p/\∃xs,H p=some (.tup xs)/\jO x=true/\xs.all jO=true/\Q (.bl (if neg then !Xz x xs else Xz x xs)) H
theorem Rf:pG X (compareOp .In) (QC false):=Mw.imp λx y H Q ⟨p,e,xs,h,f1,f2,q⟩=>⟨p,xs,e,.inr (bR h),f1,f2,q⟩
theorem uk:pG X (compareOp .NotIn) (QC true):=Bt.imp λx y H Q ⟨p,e,xs,h,f1,f2,q⟩=>⟨p,xs,e,.inr (bR h),f1,f2,q⟩
def Za(neg:Bool):R2:=λx y H Q=>∃a b,x=.ref a/\y=.ref b/\∃xs,H a=some (.lst xs)/\∃ys,H b=some (.lst ys)/\xs.all jO=true/\ys.all jO=true/\Q (.bl (if neg then !aBQ xs ys else aBQ xs ys)) H
def Vn(K:PySem.W.Frag):List V->Hp->VK->Prop:=λvs H Q=>∃x n,vs=[x,.ty n]/\∃t,tG K H x t/\∃b,PySem.W.kitOne K t (.type n)=some b/\Q (.bl b) H
theorem jC:fz X (.builtin "isinstance") (Vn X.K):=(Ts .none).imp λx H Q ⟨y,n,e,t,ty,b,h,q⟩=>⟨y,t,b,n,e,ty,h,q⟩
def Vl:V->V->V->Hp->(Hp->Prop)->Prop:=λo i v H Q=>∃p k,o=.ref p/\i=.int k/\∃xs,H p=some (.lst xs)/\∃j,Ir xs.length k=some j/\Q (upd H p (.lst (xs.set j v)))
theorem sf:N9 X Vl:=λpins s σ H o i v ov iv u Q I ro ri rv ⟨p,k,e1,e2,xs,h,j,hj,q⟩=>set_list pins s σ H o i v ov iv u Q I ro ri rv ⟨p,xs,k,j,e1,e2,h,hj,q⟩
theorem Yg:aAI X (λo i H Q=>Qx o i H Q):=by
 intro pins s σ H o i ov iv Q I ro ri h
 refine hide λgG hG=>?_
 obtain⟨p,i,rfl,rfl,xs,hp,z,he,q⟩:=h
 refine hG ?_
 cases ro
 refine hide λgG hG=>?_
 obtain⟨t,rfl⟩:=ri
 obtain⟨its,r,pl,hz⟩:=I.list (aX hp)
 obtain⟨j,h1,h2,h3,h4,h5⟩:=Cy he
 obtain⟨w,ew,Qe⟩:=r.get h2
 refine hG ?_
 have hl:=r.length
 have hn:=xu
 have fin:EP X pins σ Q w s:=⟨z,H,I,Qe,q⟩
 by_cases h0:0<=i
 ·have hj:i.toNat=j:=by
   rw[seqIndex_of h0 h5]at h1
   exact fw h1
  exact wpAny_getItem_list pl.isList h0 (by lia) (by rw[hj];simpa using ew) fin
 ·have hj:(i+(its.toArray.size:Int)).toNat=j:=by
   rw[seqIndex_neg (by lia) h4]at h1
   rw[bS,<-hl]
   exact fw h1
  exact wpAny_getItem_list_neg pl.isList (by lia) (by rw[bS] <;> lia) (by lia) (by rw[hj];simpa using ew) fin
end
end L2
namespace L2
open PySem PySem.Spec PyProof.Rows
theorem HF{α:Type}{C:List α->Prop}(h:∀a,C [a]):∀us:List α,us.length=1->C us
 | [a],_=>h a
theorem of2{α:Type}{C:List α->Prop}(h:∀a b,C [a,b]):∀us:List α,us.length=2->C us
 | [a,b],_=>h a b
theorem of3{α:Type}{C:List α->Prop}(h:∀a b c,C [a,b,c]):∀us:List α,us.length=3->C us
 | [a,b,c],_=>h a b c
structure HC(X:Cx)(N:List Str)(sc:Scope):Prop where
 n:X.N=N
 s:X.env.scope=sc
def okV(N:List Str)(sc:Scope)(i:Nat)(x:Str):Bool:=
 N[i]? == some x&&(sc.names.lookup x==some .local||sc.names.lookup x==some .cell||sc.names.lookup x==some .free) && !(x==("__debug__" : Str)) && !(x==("__classdict__" : Str))
def Oe(N:List Str)(sc:Scope)(i:Nat)(x:Str):Bool:=N[i]? == some x&&(sc.names.lookup x==some .local||sc.names.lookup x==some .cell)
def HD(N:List Str)(sc:Scope)(i:Nat)(x:Str):Bool:=N[i]? == some x&&sc.names.lookup x==some .local
def okG(sc:Scope)(x:Str):Bool:=sc.names.lookup x==some .globalImplicit
section
variable {X:Cx}{N:List Str}{sc:Scope}{x:Str}{pos:Pos}
theorem pvk(hc:HC X N sc)(i:Nat)(h:okV N sc i x=true):PE X (.Name x pos) (Dk i):=by
 unfold okV at h
 simp only[dv,kI,beq_iff_eq,Gj]at h
 obtain⟨⟨⟨h1,h2⟩,h3⟩,h4⟩:=h
 refine QX (by rw[hc.n];exact h1) ?_ h3 h4
 unfold Vis
 rw[hc.s]
 rcases h2 with (h2 | h2) | h2
 ·exact .inl h2
 ·exact .inr (.inl h2)
 ·exact .inr (.inr h2)
theorem cK(hc:HC X N sc)(h:okG sc x=true:=by decide +kernel):Gl X x:=by
 show X.env.scope.names.lookup x=some .globalImplicit
 rw[hc.s];simpa [okG]using h
theorem jx(hc:HC X N sc){i:Nat}(h:Oe N sc i x=true):X.N[i]?=some x/\Loc X.env.scope x:=by
 unfold Oe at h
 simp only[dv,kI,beq_iff_eq]at h
 refine⟨by rw[hc.n];exact h.1,?_⟩
 unfold Loc;rw[hc.s];exact h.2
theorem jL(hc:HC X N sc){i:Nat}(h:HD N sc i x=true):X.N[i]?=some x/\X.env.scope.names.lookup x=some .local:=by
 unfold HD at h
 simp only[dv,beq_iff_eq]at h
 exact⟨by rw[hc.n];exact h.1,by rw[hc.s];exact h.2⟩
theorem pgk(hc:HC X N sc)(nd:N.Nodup)(hf:∀x,X.fn x=true)(i:Nat)(h:Oe N sc i x=true):PG X (.Name x pos) (dg i):=
 Bq (by rw[hc.n];exact nd) (jx hc h).1 (jx hc h).2 (.inl (hf x))
theorem pgb(hc:HC X N sc)(nd:N.Nodup)(i:Nat)(h:HD N sc i x=true):PG X (.Name x pos) (dg i):=
 Bq (by rw[hc.n];exact nd) (jL hc h).1 (.inl (jL hc h).2) (.inr (jL hc h).2)
theorem Kc{e:Expr}{te:TE}{pos':Pos}(hc:HC X N sc)(nd:N.Nodup)(hf:∀x,X.fn x=true)(i:Nat)(h:Oe N sc i x=true)(he:PE X e te)(hs:swapsWith e (some (.Name x pos')) pos.line X.env=pure false:=by rfl) :
  PS X (.Assign [.Name x pos'] e pos) (uc te (dg i)):=
 Zg (by rw[hc.n];exact nd) (jx hc h).1 (jx hc h).2 he hs (.inl (hf x))
theorem Vu{e:Expr}{te:TE}{op:Operator}{ti:Xf}{pos':Pos}(hc:HC X N sc)(nd:N.Nodup)(hf:∀x,X.fn x=true)(i:Nat)(h:Oe N sc i x=true)(he:PE X e te)(ho:PIp X op ti):PS X (.AugAssign (.Name x pos') op e pos) (Uy i te ti):=
 Zm (by rw[hc.n];exact nd) (jx hc h).1 (jx hc h).2 he ho (.inl (hf x))
end
def cE(scope gP:Scope):Scope:=
 { scope with names:=scope.names.map λ(n,k)=>if (k == .free&&gP.kind == .function&&gP.names.lookup n==some .cell) then (n,.cell) else (n,k) }
theorem u6{scope gP:Scope}{env:Env}(h:env.scope=gP):relabel scope env=cE scope gP:=by
 subst h;rfl
theorem lP{X:Cx}{N:List Str}{gP scope:Scope}{xs:List Str}{idx:List Nat}(hc:HC X N gP)(c:CB):HC (ni X scope (xs++bx X.N idx) c) (xs++bx N idx) (cE scope gP):=
 ⟨by show xs++bx X.N idx=_;rw[hc.n],u6 hc.s⟩
section
variable {X:Cx}{N:List Str}{gP:Scope}{elt target iter:Expr}{ifs:List Expr}{scope:Scope}{pos spos py:Pos}{xs:List Str}{idx:List Nat}{wi:TI}{g:CB->TG}{tt:CB->TT}{te:CB->TE}
theorem DX(hc:HC X N gP)(xs:List Str)(idx:List Nat)(Fj:X.calm=true)(S:NX gP N scope idx=true)(hi:PI X target iter wi)
  (hg:∀c,HC (ni X scope (xs++bx X.N idx) c) (xs++bx N idx) (cE scope gP)->PG (ni X scope (xs++bx X.N idx) c) target (g c))
  (ht:∀c,HC (ni X scope (xs++bx X.N idx) c) (xs++bx N idx) (cE scope gP)->vG (ni X scope (xs++bx X.N idx) c) ifs (tt c))
  (he:∀c,HC (ni X scope (xs++bx X.N idx) c) (xs++bx N idx) (cE scope gP)->PE (ni X scope (xs++bx X.N idx) c) elt (te c))
  (hs:∀x,foldedSetIterable iter X.env x=pure x:=by intro _;rfl):PE X (.ListComp elt [⟨target,iter,ifs,0⟩] scope pos) (rV wi xs.length idx g tt te):=
 VN Fj (zJ S hc.s hc.n) hi (λc=>hg c (lP hc c)) (λc=>ht c (lP hc c)) (λc=>he c (lP hc c)) hs
theorem DT{y:Str}(hc:HC X N gP)(nd:N.Nodup)(i:Nat)(h:HD N gP i y=true)(xs:List Str)(idx:List Nat)(Fj:X.calm=true)(S:NX gP N scope idx=true)(hi:PI X target iter wi)
  (hg:∀c,HC (ni X scope (xs++bx X.N idx) c) (xs++bx N idx) (cE scope gP)->PG (ni X scope (xs++bx X.N idx) c) target (g c))
  (ht:∀c,HC (ni X scope (xs++bx X.N idx) c) (xs++bx N idx) (cE scope gP)->vG (ni X scope (xs++bx X.N idx) c) ifs (tt c))
  (he:∀c,HC (ni X scope (xs++bx X.N idx) c) (xs++bx N idx) (cE scope gP)->PE (ni X scope (xs++bx X.N idx) c) elt (te c))
  (hsw:swapsWith (.ListComp elt [⟨target,iter,ifs,0⟩] scope pos) (some (.Name y py)) spos.line X.env=pure true)
  (hs:∀x,foldedSetIterable iter X.env x=pure x:=by intro _;rfl):PS X (.Assign [.Name y py] (.ListComp elt [⟨target,iter,ifs,0⟩] scope pos) spos) (uc (rV wi xs.length idx g tt te) (dg i)):=
 Vw (by rw[hc.n];exact nd) (jL hc h).1 (jL hc h).2 Fj (zJ S hc.s hc.n) hi (λc=>hg c (lP hc c)) (λc=>ht c (lP hc c)) (λc=>he c (lP hc c)) hsw hs
end
end L2
namespace L2
open PySem PySem.Spec PyProof.Rows
@[irreducible] def yG (X:Cx) (st:List Stmt) (t:TS):Prop:=CJ X st t
theorem yG.to{X:Cx}{st:List Stmt}{t:TS}(h:yG X st t):CJ X st t:=by unfold yG at h;exact h
theorem yG.of{X:Cx}{st:List Stmt}{t:TS}(h:CJ X st t):yG X st t:=by unfold yG;exact h
section
variable {X:Cx}{st:Stmt}{rest:List Stmt}{t u:TS}{pos:Pos}
theorem Vh:yG X [] yV:=.of Vr
theorem Vg(h1:PS X st t):yG X [st] t:=.of (Vq h1)
theorem Qp(h1:PS X st t)(h2:yG X rest u):yG X (st::rest) (LW t u):=.of (QH h1 h2.to)
theorem Vi(h1:PS X st t)(h2:yG X rest u):yG X (st::rest) (Ux t u):=.of (Vs h1 h2.to)
theorem aBb{c:Expr}{a b:List Stmt}{tc:TT}(hc:PT X c tc)(ha:yG X a t)(hb:yG X b u):PS X (.If c a b pos) (L7 tc t u):=aBf hc ha.to hb.to
theorem Qq{c:Expr}{body:List Stmt}{tc:TT}{tb:TS}(hp:PassesOwn (model X.prog X.w) X.A X.env X.xe)(hc:PT X c tc)(hb:yG X body tb):PS X (.While c body [] pos) (Hb tc tb):=QJ hp hc hb.to
theorem Qr{tg iter:Expr}{body:List Stmt}{wi:TI}{g:TG}{tb:TS}(hp:PassesOwn (model X.prog X.w) X.A X.env X.xe)(hc:X.calm=true)(hi:PI X tg iter wi)(hg:PG X tg g)(hb:yG X body tb)
  (hs:∀x,foldedSetIterable iter X.env x=pure x:=by intro _;rfl):PS X (.For tg iter body [] pos) (Uv wi g tb):=Zi hp hc hi hg hb.to hs
end
theorem jV.okK{P:Program}{w:World}{K:PySem.W.Frag}{mg:Str->Option Value}{base:Heap}{x qual:Str}{st:Stmt}{f:Addr}{fd:FuncData}{N ps:List Str}{k:Nat}{sp:Sp}(F:jV K x qual st f fd)(S:aU N ps (ag st))(len:∀vs H Q E,sp vs H Q E->vs.length=ps.length)
  (gx:∀(dc:Value) (A:Around) (outer:List Env) (s:Shared) (H:Hp) (vs:List V) (Q:VK) (E:XK),cJ k (A.deeper (envOfC qual (ag st) s.heap.objs.size f dc))->sp vs H Q E->
   HC (gQ gi P w K mg base N qual (ag st) f dc A outer s H E).x6 N (ag st)->(∀x,(gQ gi P w K mg base N qual (ag st) f dc A outer s H E).x6.fn x=true)->
   ∃t,yG (gQ gi P w K mg base N qual (ag st) f dc A outer s H E).x6 (aN st) t/\t { nx:=λ_ H'=>Q .non H',rt:=Q } (start N vs) H):bX P w K mg base gi (k+1) f fd ps sp:=
 F.ok S len λdc A outer s H vs Q E hr h=>let ⟨t,h1,h2⟩:=gx dc A outer s H vs Q E hr h ⟨rfl,rfl⟩ λ_=>rfl;⟨t,h1.to,h2⟩
end L2
namespace L2
open PySem PySem.Spec PyProof.Rows
def xV(J:It)(g:TG)(tb:TS)(D:Ends)(σ:St)(H:Hp):Prop:=∃W:Nat->Nat->St->Hp->Prop,(∃m,W 0 m σ H)/\∀i m σ H,W i m σ H->
 (J.stop i H/\D.nx σ H)\/(J.go i H/\∃N:St->Hp->Prop,(∀σ' H',N σ' H'->∃m',m'<m/\W (i+1) m' σ' H')/\∀x H',J.JN i H x H'->g x σ H' λσ2 H2=>tb { D with nx:=N,ct:=N,bk:=D.nx } σ2 H2)
theorem Au{wi:TI}{g:TG}{tb:TS}{D:Ends}{σ:St}{H:Hp}:Uv wi g tb D σ H=wi σ H (λJ H1=>xV J g tb D σ H1):=rfl
def kE(J:It)(k:Nat)(idx:List Nat)(g:CB->TG)(tt:CB->TT)(te:CB->TE)(σ:St)(Q:VK)(H1:Hp):Prop:=∀D,H1 D=none->∃W:Nat->Nat->List V->Hp->Prop,(∃m,W 0 m [] (upd H1 D (.lst [])))/\
 ∀i m ys H',W i m ys H'->(J.stop i H'/\Q (.ref D) H')\/(J.go i H'/\∃N:List V->Hp->Prop,(∀oZ rF,N oZ rF->∃m',m'<m/\W (i+1) m' oZ rF)/\∀(c:CB) (own:St),own.length=k->∀x H2,J.JN i H' x H2->g c x (own++cg σ idx) H2 λσ3 H3=>
  (∃e9,e9.length=k/\σ3=e9++cg σ idx)/\tt c σ3 H3 λb H4=>if b=true then te c σ3 H4 λy H5=>H5 D=some (.lst ys)/\ys.length<sizeLine/\N (ys++[y]) (upd H5 D (.lst (ys++[y]))) else N ys H4)
theorem wW{wi:TI}{k:Nat}{idx:List Nat}{g:CB->TG}{tt:CB->TT}{te:CB->TE}{σ:St}{H:Hp}{Q:VK}:rV wi k idx g tt te σ H Q=wi σ H (λJ H1=>kE J k idx g tt te σ Q H1):=rfl
theorem Jb{lo:Int}{n:Nat}{g:TG}{tb:TS}{D:Ends}{σ:St}{H:Hp}(Pv:Nat->St->Hp->Prop)(h0:Pv 0 σ H)
  (hs:∀i σ H,i<n->Pv i σ H->g (.int (lo+i)) σ H λσ2 H2=>tb { D with nx:=Pv (i+1),ct:=Pv (i+1),bk:=D.nx } σ2 H2) (hd:∀σ H,Pv n σ H->D.nx σ H):xV (JB lo n) g tb D σ H:=Ny Pv h0 hs hd
theorem eJ{K:PySem.W.Frag}{a:Addr}{xs:List V}{g:TG}{tb:TS}{D:Ends}{σ:St}{H:Hp}(Pv:Nat->St->Hp->Prop)(h0:Pv 0 σ H)(hl:∀i σ H,i<=xs.length->Pv i σ H->H a=some (.lst xs))
  (hs:∀i x σ H,xs[i]?=some x->Pv i σ H->g x σ H λσ2 H2=>tb { D with nx:=Pv (i+1),ct:=Pv (i+1),bk:=D.nx } σ2 H2) (hd:∀σ H,Pv xs.length σ H->D.nx σ H):xV (JC K a) g tb D σ H:=
 Sz Pv h0 (λi σ H hi p=>aX (hl i σ H hi p)) hs hd
theorem jN{K:PySem.W.Frag}{a:Addr}{xs:List V}{g:TG}{tb:TS}{D:Ends}{σ:St}{H:Hp}(Pv:Nat->St->Hp->Prop)(h0:Pv 0 σ H)(hl:∀i σ H,i<=xs.length->Pv i σ H->H a=some (.tup xs))
  (hs:∀i x σ H,xs[i]?=some x->Pv i σ H->g x σ H λσ2 H2=>tb { D with nx:=Pv (i+1),ct:=Pv (i+1),bk:=D.nx } σ2 H2) (hd:∀σ H,Pv xs.length σ H->D.nx σ H):xV (Xh K a) g tb D σ H:=
 WR Pv h0 (λi σ H hi p=>bR (hl i σ H hi p)) hs hd
theorem vk{lo:Int}{n:Nat}{idx:List Nat}{tt:CB->TT}{te:CB->TE}{σ:St}{Q:VK}{H1:Hp}(Pv:Addr->Nat->List V->Hp->Prop)(h0:∀D,H1 D=none->Pv D 0 [] (upd H1 D (.lst [])))
  (hs:∀D,H1 D=none->∀i ys H,i<n->Pv D i ys H->∀(c:CB),tt c (some (.int (lo+i))::cg σ idx) H λb H4=>if b=true then te c (some (.int (lo+i))::cg σ idx) H4 λy H5=>H5 D=some (.lst ys)/\ys.length<sizeLine/\Pv D (i+1) (ys++[y]) (upd H5 D (.lst (ys++[y]))) else Pv D (i+1) ys H4)
  (hd:∀D,H1 D=none->∀ys H,Pv D n ys H->Q (.ref D) H):kE (JB lo n) 1 idx (λ_=>dg 0) tt te σ Q H1:=
 λD hD=>Fv (Pv D) (h0 D hD) (hs D hD) (hd D hD)
theorem sY{K:PySem.W.Frag}{a:Addr}{zs:List V}{idx:List Nat}{tt:CB->TT}{te:CB->TE}{σ:St}{Q:VK}{H1:Hp}(Pv:Addr->Nat->List V->Hp->Prop)(h0:∀D,H1 D=none->Pv D 0 [] (upd H1 D (.lst [])))
  (hl:∀D,H1 D=none->∀i ys H,i<=zs.length->Pv D i ys H->H a=some (.lst zs))
  (hs:∀D,H1 D=none->∀i x ys H,zs[i]?=some x->Pv D i ys H->∀(c:CB),tt c (some x::cg σ idx) H λb H4=>if b=true then te c (some x::cg σ idx) H4 λy H5=>H5 D=some (.lst ys)/\ys.length<sizeLine/\Pv D (i+1) (ys++[y]) (upd H5 D (.lst (ys++[y]))) else Pv D (i+1) ys H4)
  (hd:∀D,H1 D=none->∀ys H,Pv D zs.length ys H->Q (.ref D) H):kE (JC K a) 1 idx (λ_=>dg 0) tt te σ Q H1:=
 λD hD=>Jh (Pv D) (h0 D hD) (λi ys H hi p=>aX (hl D hD i ys H hi p)) (hs D hD) (hd D hD)
end L2
namespace L2
open PySem PySem.Spec PyProof.Rows
def Hc(ss:List Str):TA:=λ_ H Q=>Q (List.map V.str ss) H
structure ZE(X:Cx)(e:Expr)(t:TE):Prop where
 to:PE X e t
structure ZT(X:Cx)(e:Expr)(t:TT):Prop where
 to:PT X e t
structure ZW(X:Cx)(e:Expr)(t:TT):Prop where
 to:PW X e t
structure ZA(X:Cx)(e:List Expr)(t:TA):Prop where
 to:PA X e t
structure ZS(X:Cx)(e:Stmt)(t:TS):Prop where
 to:PS X e t
structure Lg(X:Cx)(e:List Stmt)(t:TS):Prop where
 to:CJ X e t
structure ZG(X:Cx)(e:Expr)(t:TG):Prop where
 to:PG X e t
structure ZGs(X:Cx)(e:List Expr)(t:Uh):Prop where
 to:PGs X e t
structure TL(X:Cx)(e:List Expr)(t:TT):Prop where
 to:vG X e t
structure ZO(X:Cx)(e:Option Expr)(t:TO):Prop where
 to:PO X e t
structure ZI(X:Cx)(tg iter:Expr)(t:TI):Prop where
 to:PI X tg iter t
structure ZC(X:Cx)(op:CmpOp)(a b:Expr)(t:TE):Prop where
 to:PC X op a b t
theorem jF{X:Cx}{b:Bool}{j:Nat}{pos:Pos}:ZE X (Expr.Constant (Const.bool b) j pos) (tC (V.bl b)):=⟨aBk⟩
theorem ao{X:Cx}{i:Int}{j:Nat}{pos:Pos}:ZE X (Expr.Constant (Const.int i) j pos) (tC (V.int i)):=⟨Zy⟩
theorem Um{X:Cx}{x:Str}{j:Nat}{pos:Pos}:ZE X (Expr.Constant (Const.str x) j pos) (tC (V.str x)):=⟨Zu⟩
theorem aj{X:Cx}{N:List Str}{sc:Scope}{x:Str}{pos:Pos}(h1:HC X N sc)(i:Nat)(h2:okV N sc i x=true:=by decide +kernel):ZE X (Expr.Name x pos) (Dk i):=⟨pvk h1 i h2⟩
theorem lF{X:Cx}{x:Str}{v:V}{u:Value}{pos:Pos}(h1:Gl X x)(h2:Cx.mg X x=none)(h3:bootBuiltins x=some u)(h4:RelV v u)(h5:autoParam (x≠Str.ofString "__name__") Br._auto_1)(h6:autoParam ((x==Str.ofString "__debug__")=false) Br._auto_2):ZE X (Expr.Name x pos) (tC v):=⟨Br h1 h2 h3 h4 h5 h6⟩
theorem dU{X:Cx}{es:List Expr}{t:TA}{pos:Pos}(h1:ZA X es t):ZE X (Expr.List es pos) (Pt t):=⟨Zx h1.to⟩
theorem iT{X:Cx}{es:List Expr}{t:TA}{pos:Pos}{x1:Nat}(h1:ZA X es t):ZE X (Expr.Tuple es x1 pos) (Pl t):=⟨Zt h1.to⟩
theorem Ls{X:Cx}{pos:Pos}:ZE X (Expr.Dict [] [] pos) wV:=⟨Q7⟩
theorem bt{X:Cx}{a b:Expr}{ta tb:TE}{pos:Pos}{op:Operator}{r:R2}(h1:pG X (binaryOp op) r)(h2:ZE X a ta)(h3:ZE X b tb):ZE X (Expr.BinOp a op b pos) (Pp r ta tb):=⟨aBi h1 h2.to h3.to⟩
theorem JM{X:Cx}{a:Expr}{ta:TE}{pos:Pos}(h1:ZE X a ta):ZE X (Expr.UnaryOp UnaryOp.Not a pos) (Dn ta):=⟨Zw h1.to⟩
theorem Yq{X:Cx}{a:Expr}{ta:TE}{pos:Pos}{op:UnaryOp}{r:V->Hp->VK->Prop}(h1:UnR X (unaryOp op) r)(h2:ZE X a ta):ZE X (Expr.UnaryOp op a pos) (tUn r ta):=⟨aBh h1 h2.to⟩
theorem nX{X:Cx}{a b:Expr}{ta tb:TE}{pos:Pos}{op:CmpOp}{r:R2}(h1:pG X (compareOp op) r)(h2:ZE X a ta)(h3:ZE X b tb)(h4:behindInMarks op b=false):ZE X (Expr.Compare a [op] [b] pos) (Pp r ta tb):=⟨VP h1 h2.to h3.to h4⟩
theorem Uo{X:Cx}{a:Expr}{pos:Pos}{op:BoolOp}{t:TE}(h1:ZE X a t):ZE X (Expr.BoolOp op [a] pos) t:=⟨Zv h1.to⟩
theorem Uq{X:Cx}{a b:Expr}{ta tb:TE}{pos:Pos}{rest:List Expr}(h1:ZE X a ta)(h2:ZE X (Expr.BoolOp BoolOp.And (b::rest) pos) tb):ZE X (Expr.BoolOp BoolOp.And (a::b::rest) pos) (Du ta tb):=⟨ZD h1.to h2.to⟩
theorem Dd{X:Cx}:ZO X none rR:=⟨VB⟩
theorem rM{X:Cx}{e:Expr}{te:TE}(h1:ZE X e te):ZO X (some e) (Dm te):=⟨Vz h1.to⟩
theorem t8{X:Cx}{e:Expr}{te:TE}{lo hi:Option Expr}{tl th:TO}{pos p2:Pos}{r:V->Option Int->Option Int->Hp->VK->Prop}(h1:Ui X r)(h2:ZE X e te)(h3:ZO X lo tl)(h4:ZO X hi th):ZE X (Expr.Subscript e (Expr.Slice lo hi none p2) pos) (tSl r te tl th):=⟨Q0 h1 h2.to h3.to h4.to⟩
theorem rN{X:Cx}{o i:Expr}{pos:Pos}{td ty:TE}(h1:Around.units (Cx.A X)+1<cLine)(h2:ZE X o td)(h3:ZE X i ty)(h4:aAJ i):ZE X (Expr.Subscript o i pos) (yW td ty):=⟨VM h1 h2.to h3.to h4⟩
theorem bQ{X:Cx}{a b:Expr}{ta tb:TE}{pos:Pos}{r:R2}(h1:Xg X r)(h2:ZE X a ta)(h3:ZE X b tb)(h4:Lk b):ZE X (Expr.Subscript a b pos) (Pp r ta tb):=⟨aBj h1 h2.to h3.to h4⟩
theorem cz{X : Cx}{N : List Str}{gP : Scope}{elt target iter : Expr}{ifs : List Expr}{scope : Scope}{pos : Pos}{wi : TI}{g : CB → TG}{tt : CB → TT}{te : CB → TE}(h1 : HC X N gP)(xs : List Str)(idx : List Nat)(h2 : Cx.calm X=true)(h3 : NX gP N scope idx=true)(h4 : ZI X target iter wi)(h5 : (∀ (c : CB),
                HC (ni X scope (xs++bx (Cx.N X) idx) c) (xs++bx N idx) (cE scope gP) →
                  ZG (ni X scope (xs++bx (Cx.N X) idx) c) target (g c))) (h6 : (∀ (c : CB),
                  HC (ni X scope (xs++bx (Cx.N X) idx) c) (xs++bx N idx) (cE scope gP) →
                    TL (ni X scope (xs++bx (Cx.N X) idx) c) ifs (tt c))) (h7 : (∀ (c : CB),
                    HC (ni X scope (xs++bx (Cx.N X) idx) c) (xs++bx N idx) (cE scope gP) →
                      ZE (ni X scope (xs++bx (Cx.N X) idx) c) elt (te c))) (h8 : autoParam (∀ (x : Value), foldedSetIterable iter (Cx.env X) x=pure x) DX._auto_1) : ZE X (Expr.ListComp elt [{ target := target, iter := iter, ifs := ifs, is_async := 0 }] scope pos)
                      (rV wi (List.length xs) idx g tt te) := ⟨DX h1 xs idx h2 h3 h4.to (λc z => (h5 c z).to) (λc z => (h6 c z).to) (λc z => (h7 c z).to) h8⟩
theorem ah{X:Cx}:ZA X [] L5:=⟨Hu⟩
theorem ae{X:Cx}{e:Expr}{es:List Expr}{te:TE}{t:TA}(h1:ZE X e te)(h2:ZA X es t)(h3:autoParam (starEach (e::es) (Cx.env X)=(false,eval e (Cx.env X))::starEach es (Cx.env X)) vU._auto_1):ZA X (e::es) (yX te t):=⟨vU h1.to h2.to h3⟩
theorem Ul{X : Cx}{pos : Pos}{es : List Expr}{k : Nat}{t : Uh}{n : Nat}(h1 : Cx.calm X=true)(h2 : ZGs X es t)(h3 : autoParam (List.length (assignEach es (Cx.env X))=n) Hr._auto_1)(h4 : autoParam (List.findIdx? (λ(x : Bool × (Value → Sem Unit)) => Prod.fst x) (assignEach es (Cx.env X))=none)
            Hr._auto_2) : ZG X (Expr.Tuple es k pos) (WL (Cx.K X) n t) := ⟨Hr h1 h2.to h3 h4⟩
theorem mB{X:Cx}{N:List Str}{sc:Scope}{x:Str}{pos:Pos}(h1:HC X N sc)(h2:List.Nodup N)(i:Nat)(h3:HD N sc i x=true):ZG X (Expr.Name x pos) (dg i):=⟨pgb h1 h2 i h3⟩
theorem dh{X:Cx}:TL X [] Pk:=⟨QS⟩
theorem ib{X:Cx}{e:Expr}{t:TT}(h1:ZT X e t):TL X [e] t:=⟨QR h1.to⟩
theorem O3{X:Cx}:ZGs X [] WM:=⟨VG⟩
theorem yL{X : Cx}{e : Expr}{es : List Expr}{t : TG}{u : Uh}(h1 : ZG X e t)(h2 : ZGs X es u)(h3 : autoParam
          (List.map (λ(x : Bool × (Value → Sem Unit)) => Prod.snd x) (assignEach (e::es) (Cx.env X)) =
            assign e (Cx.env X) ::
              List.map (λ(x : Bool × (Value → Sem Unit)) => Prod.snd x) (assignEach es (Cx.env X)))
          DW._auto_1) : ZGs X (e::es) (KD t u) := ⟨DW h1.to h2.to h3⟩
theorem ql{X:Cx}{tg a:Expr}{ta:TA}{p pos:Pos}(h1:Gl X (Str.ofString "range"))(h2:Cx.mg X (Str.ofString "range")=none)(h3:ZA X [a] ta)(h4:autoParam (starEach [a] (Cx.env X)=[(false,eval a (Cx.env X))]) zc._auto_1):ZI X tg (Expr.Call (Expr.Name (Str.ofString "range") p) [a] [] pos) (Fe ta):=⟨zc h1 h2 h3.to h4⟩
theorem cD{X:Cx}{tg l:Expr}{tl:TE}(h1:ZE X l tl):ZI X tg l (Ff (Cx.K X) tl):=⟨VF h1.to⟩
theorem fL{X:Cx}{tg l:Expr}{tl:TE}(h1:ZE X l tl):ZI X tg l (RN (Cx.K X) tl):=⟨Zq h1.to⟩
theorem G7{X:Cx}{o i:Expr}{td ty:TE}(h1:Around.units (Cx.A X)+1<cLine)(h2:ZE X i ty)(h3:ZE X o td):ZC X CmpOp.NotIn i o (Av ty td):=⟨Mu h1 h2.to h3.to⟩
theorem Uj{X:Cx}{a b:Expr}{pos:Pos}{op:CmpOp}{t:TE}(h1:ZC X op a b t)(h2:autoParam (behindInMarks op b=false) QG._auto_1):ZT X (Expr.Compare a [op] [b] pos) (tB t):=⟨QG h1.to h2⟩
theorem bO{X:Cx}{a b:Expr}{ta tb:TE}{pos:Pos}{op:CmpOp}{r:R2}(h1:pG X (compareOp op) r)(h2:ZE X a ta)(h3:ZE X b tb)(h4:behindInMarks op b=false):ZT X (Expr.Compare a [op] [b] pos) (Dl (Pp r ta tb)):=⟨Vp h1 h2.to h3.to h4⟩
theorem dR{X:Cx}{a:Expr}{pos:Pos}{tA:TT}(h1:ZT X a tA):ZT X (Expr.UnaryOp UnaryOp.Not a pos) (Pr tA):=⟨Zf h1.to⟩
theorem m8{X:Cx}{e:Expr}{t:TT}(h1:ZW X e t):ZT X e t:=⟨PW.pt h1.to⟩
theorem bY{X:Cx}{e:Expr}{t:TE}(h1:ZE X e t)(h2:autoParam
    (∀(whole:Sem Value),
     PySem.isTrue e (Cx.env X) whole=do
      let v <-whole
      standAt (Expr.pos e)
      holding [v] (truthy v))
    QF._auto_1):ZT X e (tB t):=⟨QF h1.to h2⟩
theorem lE{X:Cx}{a:Expr}{pos:Pos}{tA:TT}(h1:ZT X a tA):ZW X (Expr.BoolOp BoolOp.And [a] pos) tA:=⟨Vo h1.to⟩
theorem oX{X:Cx}{a:Expr}{pos:Pos}{tA:TT}(h1:ZT X a tA):ZW X (Expr.BoolOp BoolOp.Or [a] pos) tA:=⟨Zc h1.to⟩
theorem oY{X:Cx}{a b:Expr}{pos:Pos}{tA T3:TT}{rest:List Expr}(h1:ZT X a tA)(h2:ZW X (Expr.BoolOp BoolOp.And (b::rest) pos) T3):ZW X (Expr.BoolOp BoolOp.And (a::b::rest) pos) (Px tA T3):=⟨Zd h1.to h2.to⟩
theorem qj{X:Cx}{a b:Expr}{pos:Pos}{tA T3:TT}{rest:List Expr}(h1:ZT X a tA)(h2:ZW X (Expr.BoolOp BoolOp.Or (b::rest) pos) T3):ZW X (Expr.BoolOp BoolOp.Or (a::b::rest) pos) (tOr tA T3):=⟨aBd h1.to h2.to⟩
theorem aF{X : Cx}{CX : Lq}{k : Nat}{f : Addr}{fd : FuncData}{ps : List Str}{sp : Sp}{uD : List V}{ds : List Value}{E : XK}{x : Str}{p pos : Pos}{e : Expr}{es : List Expr}{t : TA}(h1 : bX (Cx.prog X) (Cx.w X) (Cx.K X) (Cx.mg X) (Cx.base X) CX k f fd ps sp)(h2 : cJ k (Cx.A X))(h3 : Gl X x)(h4 : Cx.mg X x=some (Value.ref f))(h5 : W.keepIn (Cx.K X) (Value.ref f)=true)(h6 : Binds (Cx.K X) fd ps ds)(h7 : Vals uD ds)(h8 : Passes CX X E)(h9 : ZA X (e::es) t)(h10 : autoParam ((x==Str.ofString "__debug__")=false) vT._auto_1)(h11 : autoParam (starEach (e::es) (Cx.env X)=(false, eval e (Cx.env X))::starEach es (Cx.env X))
                          vT._auto_2) (h12 : autoParam
                            ((List.any (backTo pos (starEach es (Cx.env X))) λ(x : Bool × Sem Value) => Prod.fst x) =
                              false)
                            vT._auto_3) : ZE X (Expr.Call (Expr.Name x p) (e::es) [] pos) (Dq sp uD E t) := ⟨vT h1 h2 h3 h4 h5 h6 h7 h8 h9.to h10 h11 h12⟩
theorem fE{X : Cx}{x : Str}{p pos : Pos}{e : Expr}{es : List Expr}{t : TA}{T : String}{r : List V → Hp → VK → Prop}(h1 : fz X (Value.type T) r)(h2 : Gl X x)(h3 : Cx.mg X x=none)(h4 : bootBuiltins x=some (Value.type T))(h5 : ZA X (e::es) t)(h6 : autoParam (x ≠ Str.ofString "__name__") lK._auto_1)(h7 : autoParam ((x==Str.ofString "__debug__")=false) lK._auto_2)(h8 : autoParam (starEach (e::es) (Cx.env X)=(false, eval e (Cx.env X))::starEach es (Cx.env X))
                    lK._auto_3) (h9 : autoParam
                      ((List.any (backTo pos (starEach es (Cx.env X))) λ(x : Bool × Sem Value) => Prod.fst x) =
                        false)
                      lK._auto_4) : ZE X (Expr.Call (Expr.Name x p) (e::es) [] pos) (YC r t) := ⟨lK h1 h2 h3 h4 h5.to h6 h7 h8 h9⟩
theorem aW{X : Cx}{x : Str}{p pos : Pos}{e : Expr}{es : List Expr}{t : TA}{id : String}{r : List V → Hp → VK → Prop}(h1 : fz X (Value.builtin id) r)(h2 : Gl X x)(h3 : Cx.mg X x=none)(h4 : bootBuiltins x=some (Value.builtin id))(h5 : ZA X (e::es) t)(h6 : autoParam (x ≠ Str.ofString "__name__") om._auto_1)(h7 : autoParam ((x==Str.ofString "__debug__")=false) om._auto_2)(h8 : autoParam (starEach (e::es) (Cx.env X)=(false, eval e (Cx.env X))::starEach es (Cx.env X))
                    om._auto_3) (h9 : autoParam
                      ((List.any (backTo pos (starEach es (Cx.env X))) λ(x : Bool × Sem Value) => Prod.fst x) =
                        false)
                      om._auto_4) : ZE X (Expr.Call (Expr.Name x p) (e::es) [] pos) (YC r t) := ⟨om h1 h2 h3 h4 h5.to h6 h7 h8 h9⟩
theorem nY{X : Cx}{o e : Expr}{es : List Expr}{to : TE}{t : TA}{name : Str}{apos du : Pos}{T id : String}{r : V → List V → Hp → VK → Prop}(h1 : PlainAttrs T)(h2 : Slot T name id)(h3 : typeOf (Value.builtin id)=pure (Value.type "method_descriptor"))(h4 : MtR X id r)(h5 : ZE X o to)(h6 : ZA X (e::es) t)(h7 : autoParam (attributeBase o name (Cx.env X) (eval o (Cx.env X))=eval o (Cx.env X)) zg._auto_1)(h8 : autoParam
                    ((((List.all (backTo du (starEach (e::es) (Cx.env X))) λ(x : Bool × Sem Value) =>
                            !Prod.fst x) &&
                          List.all (backToKw du (keywordEach [] (Cx.env X))) λ(x : Option Str × Sem Value) =>
                            Option.isSome (Prod.fst x)) &&
                        decide
                          ((List.length (e::es)+List.length ([] : List Keyword)+if List.isEmpty ([] : List Keyword)=true then 0 else 1)<30)) =
                      true)
                    zg._auto_2) (h9 : autoParam ((Pos.endLine apos==Pos.line du)=true) zg._auto_3) (h10 : autoParam (starEach (e::es) (Cx.env X)=(false, eval e (Cx.env X))::starEach es (Cx.env X))
                        zg._auto_4) (h11 : autoParam
                          ((List.any (backTo du (starEach es (Cx.env X))) λ(x : Bool × Sem Value) => Prod.fst x) =
                            false)
                          zg._auto_5) : ZE X (Expr.Call (Expr.Attribute o name apos) (e::es) [] du) (tBM (Cx.K X) T r to t) := ⟨zg h1 h2 h3 h4 h5.to h6.to h7 h8 h9 h10 h11⟩
theorem aS{X:Cx}{e:Expr}{te:TE}{pos:Pos}(h1:ZE X e te):ZS X (Stmt.Return (some e) pos) (Pn te):=⟨Zh h1.to⟩
theorem dH{X:Cx}{e:Expr}{te:TE}{pos:Pos}(h1:ZE X e te)(h2:autoParam (swapsWith e none (Pos.line pos) (Cx.env X)=pure false) Kd._auto_1):ZS X (Stmt.Expr e pos) (Dp te):=⟨Kd h1.to h2⟩
theorem t7{X : Cx}{N : List Str}{gP : Scope}{elt target iter : Expr}{ifs : List Expr}{scope : Scope}{pos spos py : Pos}{wi : TI}{g : CB → TG}{tt : CB → TT}{te : CB → TE}{y : Str}(h1 : HC X N gP)(h2 : List.Nodup N)(i : Nat)(h3 : HD N gP i y=true)(xs : List Str)(idx : List Nat)(h4 : Cx.calm X=true)(h5 : NX gP N scope idx=true)(h6 : ZI X target iter wi)(h7 : (∀ (c : CB),
                      HC (ni X scope (xs++bx (Cx.N X) idx) c) (xs++bx N idx) (cE scope gP) →
                        ZG (ni X scope (xs++bx (Cx.N X) idx) c) target (g c))) (h8 : (∀ (c : CB),
                        HC (ni X scope (xs++bx (Cx.N X) idx) c) (xs++bx N idx) (cE scope gP) →
                          TL (ni X scope (xs++bx (Cx.N X) idx) c) ifs (tt c))) (h9 : (∀ (c : CB),
                          HC (ni X scope (xs++bx (Cx.N X) idx) c) (xs++bx N idx) (cE scope gP) →
                            ZE (ni X scope (xs++bx (Cx.N X) idx) c) elt (te c))) (h10 : swapsWith
                              (Expr.ListComp elt [{ target := target, iter := iter, ifs := ifs, is_async := 0 }] scope
                                pos)
                              (some (Expr.Name y py)) (Pos.line spos) (Cx.env X) =
                            pure true) (h11 : autoParam (∀ (x : Value), foldedSetIterable iter (Cx.env X) x=pure x) DT._auto_1) : ZS X
                              (Stmt.Assign [Expr.Name y py]
                                (Expr.ListComp elt [{ target := target, iter := iter, ifs := ifs, is_async := 0 }] scope
                                  pos)
                                spos)
                              (uc (rV wi (List.length xs) idx g tt te) (dg i)) := ⟨DT h1 h2 i h3 xs idx h4 h5 h6.to (λc z => (h7 c z).to) (λc z => (h8 c z).to) (λc z => (h9 c z).to) h10 h11⟩
theorem aP{X:Cx}{N:List Str}{sc:Scope}{x:Str}{pos:Pos}{e:Expr}{te:TE}{pos':Pos}(h1:HC X N sc)(h2:List.Nodup N)(h3:(∀(x:Str),Cx.fn X x=true))(i:Nat)(h4:Oe N sc i x=true)(h5:ZE X e te)(h6:autoParam (swapsWith e (some (Expr.Name x pos')) (Pos.line pos) (Cx.env X)=pure false) Kc._auto_1):ZS X (Stmt.Assign [Expr.Name x pos'] e pos) (uc te (dg i)):=⟨Kc h1 h2 h3 i h4 h5.to h6⟩
theorem rL{X:Cx}{o i value:Expr}{pos pos':Pos}{td ty tv:TE}(h1:Around.units (Cx.A X)+1<cLine)(h2:ZE X o td)(h3:ZE X i ty)(h4:ZE X value tv)(h5:swapsWith value (some (Expr.Subscript o i pos')) (Pos.line pos) (Cx.env X)=pure false):ZS X (Stmt.Assign [Expr.Subscript o i pos'] value pos) (w8 td ty tv):=⟨Vx h1 h2.to h3.to h4.to h5⟩
theorem mz{X : Cx}{pos : Pos}{tg e : Expr}{te : TE}{g : TG}(h1 : ZE X e te)(h2 : ZG X tg g)(h3 : autoParam (swapsWithSole [tg] e (Pos.line pos) (Cx.env X)=pure false) Bp._auto_1)(h4 : autoParam (swappedStores [tg] e (Cx.env X)=pure none) Bp._auto_2)(h5 : autoParam
              (List.map (λ(x : Bool × (Value → Sem Unit)) => Prod.snd x) (assignEach [tg] (Cx.env X)) =
                [assign tg (Cx.env X)])
              Bp._auto_3) : ZS X (Stmt.Assign [tg] e pos) (uc te g) := ⟨Bp h1.to h2.to h3 h4 h5⟩
theorem mC{X : Cx}{pos : Pos}{o i : Expr}{to ti : TE}{t : Jy}(h1 : ZE X o to)(h2 : ZE X i ti)(h3 : N9 X t)(h4 : autoParam
            (∀ (v : Value),
              assign (Expr.Subscript o i pos) (Cx.env X) v=do
                let ov ← holding [v] (eval o (Cx.env X))
                let iv ← holding [v, ov] (eval i (Cx.env X))
                standAt pos
                holding [v, ov, iv] (setItem ov iv v)
                release [v, ov, iv] [])
            QV._auto_1) : ZG X (Expr.Subscript o i pos) (Sy to ti t) := ⟨QV h1.to h2.to h3 h4⟩
theorem Dc{X : Cx}{pos : Pos}{o i e : Expr}{to ti te : TE}{Ha : V → V → Hp → VK → Prop}{Yx : Xf}{G' : Jy}{op : Operator}{Ph : Pos}(h1 : ZE X o to)(h2 : ZE X i ti)(h3 : aAI X Ha)(h4 : ZE X e te)(h5 : PIp X op Yx)(h6 : N9 X G')(h7 : autoParam
                  (∀ (ov iv new : Value),
                    augStore i ov iv new=do
                      holding [new, ov, iv] (setItem ov iv new)
                      release [new, ov, iv] []
                      pure Flow.next)
                  Ke._auto_1) : ZS X (Stmt.AugAssign (Expr.Subscript o i Ph) op e pos) (Dt to ti te Ha Yx G') := ⟨Ke h1.to h2.to h3 h4.to h5 h6 h7⟩
theorem O1{X:Cx}{N:List Str}{sc:Scope}{x:Str}{pos:Pos}{e:Expr}{te:TE}{op:Operator}{ti:Xf}{pos':Pos}(h1:HC X N sc)(h2:List.Nodup N)(h3:(∀(x:Str),Cx.fn X x=true))(i:Nat)(h4:Oe N sc i x=true)(h5:ZE X e te)(h6:PIp X op ti):ZS X (Stmt.AugAssign (Expr.Name x pos') op e pos) (Uy i te ti):=⟨Vu h1 h2 h3 i h4 h5.to h6⟩
theorem cO{X:Cx}{t u:TS}{pos:Pos}{c:Expr}{a b:List Stmt}{tc:TT}(h1:ZT X c tc)(h2:Lg X a t)(h3:Lg X b u):ZS X (Stmt.If c a b pos) (L7 tc t u):=⟨aBb h1.to (.of h2.to) (.of h3.to)⟩
theorem yK{X:Cx}{pos:Pos}{c:Expr}{body:List Stmt}{tc:TT}{tb:TS}(h1:PassesOwn (model (Cx.prog X) (Cx.w X)) (Cx.A X) (Cx.env X) (Cx.xe X))(h2:ZT X c tc)(h3:Lg X body tb):ZS X (Stmt.While c body [] pos) (Hb tc tb):=⟨Qq h1 h2.to (.of h3.to)⟩
theorem pA{X:Cx}{N:List Str}{sc:Scope}{x:Str}{pos:Pos}(h1:HC X N sc)(h2:List.Nodup N)(h3:(∀(x:Str),Cx.fn X x=true))(i:Nat)(h4:Oe N sc i x=true):ZG X (Expr.Name x pos) (dg i):=⟨pgk h1 h2 h3 i h4⟩
theorem eL{X:Cx}{pos:Pos}{tg iter:Expr}{body:List Stmt}{wi:TI}{g:TG}{tb:TS}(h1:PassesOwn (model (Cx.prog X) (Cx.w X)) (Cx.A X) (Cx.env X) (Cx.xe X))(h2:Cx.calm X=true)(h3:ZI X tg iter wi)(h4:ZG X tg g)(h5:Lg X body tb)(h6:autoParam (∀(x:Value),foldedSetIterable iter (Cx.env X) x=pure x) Qr._auto_1):ZS X (Stmt.For tg iter body [] pos) (Uv wi g tb):=⟨Qr h1 h2 h3.to h4.to (.of h5.to) h6⟩
theorem bI{X:Cx}:Lg X [] yV:=⟨yG.to Vh⟩
theorem aA{X:Cx}{st:Stmt}{t:TS}(h1:ZS X st t):Lg X [st] t:=⟨yG.to (Vg h1.to)⟩
theorem aq{X:Cx}{st:Stmt}{rest:List Stmt}{t u:TS}(h1:ZS X st t)(h2:Lg X rest u):Lg X (st::rest) (LW t u):=⟨yG.to (Qp h1.to (.of h2.to))⟩
theorem nW{X:Cx}{st:Stmt}{rest:List Stmt}{t u:TS}(h1:ZS X st t)(h2:Lg X rest u):Lg X (st::rest) (Ux t u):=⟨yG.to (Vi h1.to (.of h2.to))⟩
theorem jV.qK{P:Program}{w:World}{K:PySem.W.Frag}{mg:Str->Option Value}{base:Heap}{x qual:Str}{st:Stmt}{f:Addr}{fd:FuncData}{N ps:List Str}{k:Nat}{sp:Sp}(F:jV K x qual st f fd)(S:aU N ps (ag st))(len:∀vs H Q E,sp vs H Q E->vs.length=ps.length)
  (gx:∀(dc:Value) (A:Around) (outer:List Env) (s:Shared) (H:Hp) (vs:List V) (Q:VK) (E:XK),cJ k (A.deeper (envOfC qual (ag st) s.heap.objs.size f dc))->sp vs H Q E->
   HC (gQ gi P w K mg base N qual (ag st) f dc A outer s H E).x6 N (ag st)->(∀x,(gQ gi P w K mg base N qual (ag st) f dc A outer s H E).x6.fn x=true)->
   ∃t,Lg (gQ gi P w K mg base N qual (ag st) f dc A outer s H E).x6 (aN st) t/\t { nx:=λ_ H'=>Q .non H',rt:=Q } (start N vs) H):bX P w K mg base gi (k+1) f fd ps sp:=
 F.okK S len λdc A outer s H vs Q E hr h hc hf=>let ⟨t,h1,h2⟩:=gx dc A outer s H vs Q E hr h hc hf;⟨t,.of h1.to,h2⟩
def uI(w:World):Bool:=w.params.followText "set-order"
theorem Wd(t:SetTable)(es:Array (Int×Value))(h:Int)(x:Value):(layNew t es h x).2.1.led=t.led:=by
 unfold layNew
 split
 ·dsimp only;unfold SetTable.orStandIn
  split <;> rfl
 ·rfl
theorem RJ{mask finger moves:Nat}{led plain:Bool}{hs:Array Int}{t':SetTable}{o:Array Nat}(h:SetTable.laid mask finger moves led plain hs=some (t',o)):t'.led=led/\t'.plain=plain:=by
 unfold SetTable.laid at h
 cases q:SetTable.layClean mask hs with
 | none=>rw[q]at h;cases h
 | some owner=>rw[q]at h;cases h;exact⟨rfl,rfl⟩
theorem Mp(t:SetTable)(es:Array (Int×Value))(k:Nat):(relayAll t es k).2.1.led=t.led:=by
 unfold relayAll
 split
 ·rename_i t' o q
  dsimp only
  split
  ·exact(RJ q).1
  ·rfl
 ·rfl
def NK(w:World)(p:Str×Tok):Int×Value:=(hashStr w p.1,.str p.1 p.2)
def fA(es:Array (Int×Value))(ep:Nat)(t:SetTable):Obj:={ cls:=.type "set",dict:=none,data:=.set es ep t }
structure aFW(w:World)(h:Heap)(a:Addr)(l:List (Str×Tok)):Prop where
 ex:∃es ep t,h.get? a=some (fA es ep t)/\es.toList=l.map (NK w)/\t.fits es.size=true/\t.led = !uI w/\(l≠[]->t.plain=false)
 nd:(l.map (·.1)).Nodup
 sz:l.length<scanBound
section
variable {P:Program}{w:World}{A:Around}{E:Value->Shared->Prop}{s:Shared}{a:Addr}{l:List (Str×Tok)}
end
section
variable {P:Program}{w:World}{A:Around}{R:Result->Shared->Prop}{I:Addr}{fp wr:List Addr}{G:Array GenState->Array GenState->Prop}{n:Nat}{Pv:Nat->Value->Prop}{St:Nat->Shared->Prop}
end
section
variable {P:Program}{w:World}{A:Around}{E:Value->Shared->Prop}{s:Shared}
theorem J2{x:Value}{Q:Value->Shared->Prop}(h:Q (.ref s.heap.objs.size) { s with heap:=s.heap.push (fA #[] 0 (.fresh 0 0 (!uI w))) }) :
  codeAny (model P w) A (.call (.builtin "set.__new__") ⟨[.type "set",x],[]⟩) (wants Q E) s:=by
 refine zX ?_
 refine av (m:=checkBuiltinCall "set.__new__" ⟨[.type "set",x],[]⟩) (wa (PySem.F.newCall_set_1 x) (aK ⟨wj PySem.F.plain_set_new _,mq PySem.F.entry_set_new ?_⟩))
 rw[qh PySem.F.plain_set_new _]
 unfold Builtin.«set.__new__» Builtin.Frozenset.newClass
 have Iv:=sub_set_self
 obtain⟨hp,g,d,tk,os⟩:=s
 dsimp only
 wp_walk
 refine wpAny_askSetting (aK ?_)
 dsimp only
 simp only[newObj]
 refine av (wpAny_alloc (aK (aK h)))
end
theorem fM:Slot "set_iterator" "__next__" "set_iterator.__next__":=
 .of (owner:="set_iterator") (n:="__next__") (by rw[typeLookup_type,builtinLookup_eq_fast];kernel_rfl) (by decide +kernel) (by decide +kernel) (by decide +kernel)
  (.inl (by decide +kernel)) (by rw[isSubtype_type];kernel_rfl)
theorem rZ:Slot "set_iterator" "__iter__" "set_iterator.__iter__":=
 .of (owner:="set_iterator") (n:="__iter__") (by rw[typeLookup_type,builtinLookup_eq_fast];kernel_rfl) (by decide +kernel) (by decide +kernel) (by decide +kernel)
  (.inl (by decide +kernel)) (by rw[isSubtype_type];kernel_rfl)
theorem pN:entryFor table "set_iterator.__next__" = some Builtin.«set_iterator.__next__»:=entryFor_of_tree (by kernel_rfl)
theorem ye:entryFor table "set_iterator.__iter__" = some Builtin.«dict_keyiterator.__iter__»:=
 entryFor_alias (id':="dict_keyiterator.__iter__") (by kernel_rfl) rfl (by decide +kernel) (by kernel_rfl)
theorem yf:entryFor table "set.__iter__" = some Builtin.«frozenset.__iter__»:=
 entryFor_alias (id':="frozenset.__iter__") (by kernel_rfl) rfl (by decide +kernel) (by kernel_rfl)
theorem Dz:Manifest.owners.lookup (String.ofList "rotareti_tes".toList.reverse)=some Manifest.sig_set_iterator:=by kernel_rfl
theorem sd(a:Value):argsOk "set_iterator.__next__" ⟨[a],[]⟩:=by
 unfold argsOk;rw[signature?_of (id:="set_iterator.__next__") (n:="__txen__".toList) (o:="rotareti_tes".toList) (by kernel_rfl) Dz];kernel_rfl
theorem Bd(a:Value):argsOk "set_iterator.__iter__" ⟨[a],[]⟩:=by
 unfold argsOk;rw[signature?_of (id:="set_iterator.__iter__") (n:="__reti__".toList) (o:="rotareti_tes".toList) (by kernel_rfl) Dz];kernel_rfl
def pO(first:Value)(i n ep:Nat)(a:Addr):Obj:={ cls:=.type "set_iterator",data:=.fields #[first,.int i 0,.ref a,.int n 0,.int ep 0] }
section
variable {P:Program}{w:World}{A:Around}{E:Value->Shared->Prop}{s:Shared}{a I:Addr}{es:Array (Int×Value)}{t:SetTable}{ep i n:Nat}{first:Value}
theorem rY(hI:s.heap.get? I=some (pO first i n ep a)):s.TypeIs (.ref I) "set_iterator":=⟨_,hI,rfl⟩
theorem J0{Q:Value->Shared->Prop}(hI:s.heap.get? I=some (pO first i n ep a))(q:Q (.ref I) s):wpAny (model P w) A (pyIter (.ref I)) Q E s:=by
 refine wpAny_pyIter_slot (rY hI) rZ (nL rZ (rY hI) ye ?_ (Bd _))
 exact aK ⟨_,rfl,"set_iterator",_,rY hI,fM.lookup,q⟩
theorem P8{slot:Nat}{tk:Tok}{r:Option (Value×Nat)}{Q:Option Value->Shared->Prop}(hh:A.handled=none)(hI:s.heap.get? I=some (pO (.int slot tk) i n ep a))(hS:s.heap.get? a=some (fA es ep t))(hf:t.fits es.size=true)(hn:es.size=n)
  (hx:∀(B:Around) (E':Value->Shared->Prop) (Q':Option (Value×Nat)->Shared->Prop),Q' r s->wpAny (model P w) B (setNext a slot i ep) Q' E' s)
  (q:match r with
   | some (x,nx)=>∀h',h'.get? I=some (pO (.int (nx:Int) 0) (i+1) n ep a)->Heap.SameBut I s.heap h'->Q (some x) { s with heap:=h' }
   | none=>∀h',Heap.ExtBut I s.heap h'->Q none { s with heap:=h' }):wpAny (model P w) A (pyNext (.ref I)) Q E s:=by
 have hT:=rY hI
 unfold pyNext
 refine av (tP (t5 (name:=Str.ofString "__next__") hT fM (nL fM hT pN ?_ (sd _))))
 unfold Builtin.«set_iterator.__next__»
 refine av (m:=slotArgs _ _ _) (aK ?_)
 refine av (tR hI rfl ?_)
 refine av (m:=setEntries a) (Gh hS rfl hf ?_)
 rw[aE (by rw[hn];simp)]
 refine av (m:=setNext a slot i ep) (hx _ _ _ ?_)
 cases r with
 | some p=>
  obtain⟨x,nx⟩:=p
  dsimp only at q ⊢
  refine av (m:=setField (.ref I) 0 (rawInt nx)) (tW hI (by simp) λh1 e1 sb1=>?_)
  refine av (m:=setField (.ref I) 1 (rawInt (i+1))) (tW e1 (by simp) λh2 e2 sb2=>?_)
  exact aK ⟨x,rfl,aK (q h2 (by rw[e2];rfl) (sb1.trans sb2))⟩
 | none=>
  dsimp only at q ⊢
  refine av (m:=setField (.ref I) 2 .none) (tW hI (by simp) λh1 e1 sb1=>?_)
  refine av (m:=newExc (.type "StopIteration") []) ?_
  simp only[newExc,newTuple]
  refine av (iY ?_ (by size_fits))
  refine av (m:=firstArgMember _ _) (wa (a:=Value.none) (by first | rfl | (simp only[firstArgMember];rfl)) ?_)
  refine iY (Gg hh ?_) (by size_fits)
  refine av (z4 (T:="StopIteration") (b:=true) ⟨_,cC _ rfl,rfl⟩ isSubtype_stop ?_)
  exact aK (q _ ((sb1.extBut.push _).push _))
theorem P7{p:Addr}{vs:Array Value}{c:Nat}{r:Option Value}{Q:Option Value->Shared->Prop}(hh:A.handled=none)(hI:s.heap.get? I=some (pO (.ref p) i n ep a))(hS:s.heap.get? a=some (fA es ep t))(hf:t.fits es.size=true)(hn:es.size=n)
  (hp:s.heap.get? p=some { cls:=.type "tuple",data:=.seq vs c })
  (hv:match r with | some x=>∃(k:Nat) (z:Int),vs[i]?=some (.int k 0)/\es[k]?=some (z,x) | none=>vs[i]?=none)
  (q:match r with
   | some x=>∀h',h'.get? I=some (pO (.ref p) (i+1) n ep a)->Heap.SameBut I s.heap h'->Q (some x) { s with heap:=h' }
   | none=>∀h',Heap.ExtBut I s.heap h'->Q none { s with heap:=h' }):wpAny (model P w) A (pyNext (.ref I)) Q E s:=by
 have hT:=rY hI
 unfold pyNext
 refine av (tP (t5 (name:=Str.ofString "__next__") hT fM (nL fM hT pN ?_ (sd _))))
 unfold Builtin.«set_iterator.__next__»
 refine av (m:=slotArgs _ _ _) (aK ?_)
 refine av (tR hI rfl ?_)
 refine av (m:=setEntries a) (Gh hS rfl hf ?_)
 rw[aE (by rw[hn];simp)]
 refine av (m:=seqItems? (.ref p)) (wpAny_seqItems hp rfl ?_)
 cases r with
 | some x=>
  obtain⟨k,z,e1,e2⟩:=hv
  dsimp only at q ⊢
  simp only[nR,e1]
  refine av (m:=setNextDrawn a k ep) ?_
  unfold setNextDrawn
  refine av (tT hS rfl hf ?_)
  dsimp only
  rw[aE (by simp)]
  simp only[e2]
  refine aK ?_
  refine av (m:=setField (.ref I) 1 (rawInt (i+1))) (tW hI (by simp) λh2 e2 sb2=>?_)
  exact aK ⟨x,rfl,aK (q h2 (by rw[e2];rfl) sb2)⟩
 | none=>
  dsimp only at q hv ⊢
  simp only[nR,hv]
  refine av (m:=setField (.ref I) 0 (rawInt 0)) (tW hI (by simp) λh0 e0 sb0=>?_)
  refine av (m:=setField (.ref I) 2 .none) (tW e0 (by simp) λh1 e1 sb1=>?_)
  refine av (m:=newExc (.type "StopIteration") []) ?_
  simp only[newExc,newTuple]
  refine av (iY ?_ (by size_fits))
  refine av (m:=firstArgMember _ _) (wa (a:=Value.none) (by first | rfl | (simp only[firstArgMember];rfl)) ?_)
  refine iY (Gg hh ?_) (by size_fits)
  refine av (z4 (T:="StopIteration") (b:=true) ⟨_,cC _ rfl,rfl⟩ isSubtype_stop ?_)
  exact aK (q _ (((sb0.trans sb1).extBut.push _).push _))
end
theorem qT{α:Type}:∀(l:List α) (i:Nat) (x:α),l[i]?=some x->(x::l.eraseIdx i).Perm l
 | [],i,x,h=>by cases i <;> cases h
 | y::l,0,x,h=>by cases h;exact List.Perm.refl _
 | y::l,i+1,x,h=>by
  rw[GR]at h
  rw[List.eraseIdx_cons_succ]
  exact(List.Perm.swap y x _).trans ((qT l i x h).cons y)
theorem Kh{α:Type}(next:Nat->Nat):∀(f k:Nat) (l:List α) (out:Array α),l.length=f->(pickOrder.go next f k l out).toList.Perm (out.toList++l)
 | 0,k,l,out,h=>by
  rw[GZ.mp h,gj]
  unfold pickOrder.go
  exact List.Perm.refl _
 | f+1,k,l,out,h=>by
  unfold pickOrder.go
  have lt:next k%l.length<l.length:=Nat.mod_lt _ (by lia)
  have e:l[next k%l.length]?=some l[next k%l.length]:=bq lt
  rw[e]
  dsimp only
  refine(Kh next f (k+1) _ _ (by rw[List.length_eraseIdx_of_lt lt];lia)).trans ?_
  rw[nQ,jE]
  exact(qT l _ _ e).append_left _
theorem zb{α:Type}(next:Nat->Nat)(xs:Array α):(pickOrder next xs).toList.Perm xs.toList:=by
 unfold pickOrder
 have:=Kh next xs.size 0 xs.toList #[] cZ
 simpa using this
section
variable {P:Program}{w:World}{A:Around}{E:Value->Shared->Prop}
theorem zG{α:Type}:∀(n:Nat) (xs:List α) (s:Shared) (Q:List α->Shared->Prop),xs.length=n->(∀ys d,ys.Perm xs->Q ys { s with drawn:=d })->wpAny (model P w) A (drawOrder n xs) Q E s
 | 0,xs,s,Q,h,q=>by
  have:xs=[]:=GZ.mp h
  subst this
  unfold drawOrder
  exact aK (by cases s;exact q [] _ (List.Perm.refl _))
 | n+1,[],s,Q,h,q=>by cases h
 | n+1,x::xs,s,Q,h,q=>by
  unfold drawOrder
  have lt:w.draws .order (s.drawn.get .order)%(x::xs).length<(x::xs).length:=Nat.mod_lt _ (by simp)
  refine av (m:=choose .order (x::xs).length) (λΓ p hΓ=>?_)
  refine⟨by simp,?_⟩
  have e:(x::xs)[w.draws .order (s.drawn.get .order)%(x::xs).length]?=some (x::xs)[w.draws .order (s.drawn.get .order)%(x::xs).length]:=bq lt
  show wpAny (model P w) A (match (x::xs)[w.draws .order (s.drawn.get .order)%(x::xs).length]? with
   | some y=>do let r <-drawOrder n ((x::xs).eraseIdx (w.draws .order (s.drawn.get .order)%(x::xs).length));pure (y::r)
   | none=>unsupported "internal:drawOrder") Q E { s with drawn:=s.drawn.bump .order }
  rw[e]
  dsimp only
  refine av (zG n _ _ _ (by rw[List.length_eraseIdx_of_lt lt];simp at h ⊢;lia) λys d hp=>aK ?_)
  exact q _ d ((hp.cons _).trans (qT _ _ _ e))
variable {s:Shared}{a:Addr}{es:Array (Int×Value)}{t:SetTable}{ep slot i:Nat}
theorem mP{Q:Bool->Shared->Prop}(q:Q (uI w) s):wpAny (model P w) A setsByText Q E s:=by
 unfold setsByText
 exact av (wpAny_askSetting (aK q))
theorem Ef{Q:Option (Value×Nat)->Shared->Prop}(hb:uI w=true)(hS:s.heap.get? a=some (fA es ep t))(hf:t.fits es.size=true)(q:Q (((pickOrder (w.params.setOrder a ep) es)[i]?).map λe=>(e.2,slot)) s) :
  wpAny (model P w) A (setNext a slot i ep) Q E s:=by
 unfold setNext
 refine av (tT hS rfl hf (av (mP ?_)))
 rw[hb]
 dsimp only
 rw[ay rfl,aE (by simp)]
 refine av ?_
 unfold setWalk
 refine av (tT hS rfl hf (av (mP ?_)))
 rw[hb,ay rfl]
 exact av (wpAny_askSetting (aK (aK q)))
end
section
variable {P:Program}{w:World}{B:Around}{a I:Addr}{es:Array (Int×Value)}{t:SetTable}{ep n:Nat}{ord:List Value}
theorem yQ(slotAt:Nat->Nat)(hh:B.handled=none)(vZ:a≠I)(hf:t.fits es.size=true)(hn:es.size=n)(ho:ord.length=n)
  (hx:∀i,i<=n->∀(s:Shared) (C:Around) (E':Value->Shared->Prop) (Q':Option (Value×Nat)->Shared->Prop),s.heap.get? a=some (fA es ep t)->Q' ((ord[i]?).map λv=>(v,slotAt (i+1))) s->wpAny (model P w) C (setNext a (slotAt i) i ep) Q' E' s) :
  WalksS P w B I [I,a] [I] (λx y=>y=x) n (λi v=>ord[i]?=some v) (λi s=>s.heap.get? I=some (pO (.int (slotAt i) 0) i n ep a)/\s.heap.get? a=some (fA es ep t)) where
 sub:=λb hb=>by rw[cG.mp hb];exact df
 grefl:=λ_=>rfl
 gtrans:=λ_ _ _ h1 h2=>h2.trans h1
 frame:=λi s h' tk st _ k=>⟨k I (by simp) _ st.1,k a (by simp) _ st.2⟩
 item:=λi s Q E hi st q=>by
  have e:ord[i]?=some ord[i]:=bq (by rw[ho];exact hi)
  refine P8 (r:=some (ord[i],slotAt (i+1))) hh st.1 st.2 hf hn (λC E' Q' hq=>hx i (kG hi) s C E' Q' st.2 (by rw[e];exact hq)) λh' h1 h2=>?_
  exact q _ _ e ⟨h1,h2.extBut a _ vZ st.2⟩ ⟨λb o hb z=>h2.extBut b o (λy=>hb (by rw[y];exact cG.mpr rfl)) z,rfl,rfl,rfl,bj _⟩
 done:=λs Q E st q=>by
  have e:ord[n]?=none:=lB (by rw[ho];exact bj _)
  refine P8 (r:=none) hh st.1 st.2 hf hn (λC E' Q' hq=>hx n (bj _) s C E' Q' st.2 (by rw[e];exact hq)) λh' h1=>?_
  exact q _ ⟨λb o hb z=>h1 b o (λy=>hb (by rw[y];exact cG.mpr rfl)) z,rfl,rfl,rfl,bj _⟩
 self:=λi s Q E st q=>J0 st.1 q
theorem Ly{p:Addr}{pl:List Nat}{c:Nat}(hh:B.handled=none)(vZ:a≠I)(hnp:p≠I)(hf:t.fits es.size=true)(hn:es.size=n)(ho:ord.length=n)(hl:pl.length=n)
  (hx:∀i:Nat,i<n->∃(k:Nat) (z:Int) (x:Value),pl[i]?=some k/\es[k]?=some (z,x)/\ord[i]?=some x) :
  WalksS P w B I [I,a,p] [I] (λx y=>y=x) n (λi v=>ord[i]?=some v)
   (λi s=>s.heap.get? I=some (pO (.ref p) i n ep a)/\s.heap.get? a=some (fA es ep t)/\s.heap.get? p=some { cls:=.type "tuple",data:=.seq (pl.map λ(j:Nat)=>Value.int j 0).toArray c }) where
 sub:=λb hb=>by rw[cG.mp hb];exact df
 grefl:=λ_=>rfl
 gtrans:=λ_ _ _ h1 h2=>h2.trans h1
 frame:=λi s h' tk st _ k=>⟨k I (by simp) _ st.1,k a (by simp) _ st.2.1,k p (by simp) _ st.2.2⟩
 item:=λi s Q E hi st q=>by
  obtain⟨k,z,x,e1,e2,e3⟩:=hx i hi
  refine P7 (r:=some x) hh st.1 st.2.1 hf hn st.2.2 ⟨k,z,by simp[e1],e2⟩ λh' h1 h2=>?_
  exact q _ _ e3 ⟨h1,h2.extBut a _ vZ st.2.1,h2.extBut p _ hnp st.2.2⟩ ⟨λb o hb z=>h2.extBut b o (λy=>hb (by rw[y];exact cG.mpr rfl)) z,rfl,rfl,rfl,bj _⟩
 done:=λs Q E st q=>by
  refine P7 (r:=none) hh st.1 st.2.1 hf hn st.2.2 (by simp[hl]) λh' h1=>?_
  exact q _ ⟨λb o hb z=>h1 b o (λy=>hb (by rw[y];exact cG.mpr rfl)) z,rfl,rfl,rfl,bj _⟩
 self:=λi s Q E st q=>J0 st.1 q
end
section
variable {P:Program}{w:World}{A:Around}{E:Value->Shared->Prop}{s:Shared}{a:Addr}{l:List (Str×Tok)}
theorem P9{Q:Bool->Shared->Prop}(hT:s.TypeIs (.ref a) "set")(q:Q false s):wpAny (model P w) A (Builtin.List.listLengthHint (.ref a)) Q E s:=by
 unfold Builtin.List.listLengthHint
 refine av (wpAny_specialOf hT PySem.F.slot_set_len.lookup ?_)
 generalize hid:("set.__len__" : String)=id0
 wp_delta
 rw[show splitId id0=some ("set","__len__") from by subst hid;decide +kernel]
 subst hid
 refine av (z4 (T:="set") (b:=true) hT (by rw[isSubtype_type];kernel_rfl) ?_)
 refine wpAny_ite_split (λz=>absurd z (by decide)) (λ_=>wpAny_ite_split (λ_=>?_) (λz=>absurd (by decide +kernel) z))
 exact av (wd hT (aK q))
end
theorem Inv.same{X:Cx}{pins:List (Addr×Obj)}{σ:List (Option V)}{H:Hp}{s s':Shared}(I:Inv X pins σ H s)(hh:s'.heap=s.heap)(hg:s'.gens=s.gens)(ho:s'.os=s.os):Inv X pins σ H s':=
 ⟨I.ok,by rw[ho];exact I.os,by rw[hg];exact I.bare,by rw[hh];exact I.base,by rw[hh];exact I.loc,by rw[hh];exact I.cell,I.free,I.kj,by rw[hh];exact I.pin,by rw[hh];exact I.bz,I.len⟩
def TxS(w:World)(p:Addr)(ss:List Str):HO:=.ext λh=>∃l,aFW w h p l/\∀z,z∈l.map (·.1)↔z∈ss
section
variable {X:Cx}
theorem zm{α:Type} [DecidableEq α]:∀{l m:List α},l.Nodup->(∀x∈l,x∈m)->l.length<=m.length
 | [],m,_,_=>de _
 | x::l,m,h,k=>by
  have hx:=k x df
  have:=zm (m:=m.erase x) (m5.mp h).2 λy hy=>(List.mem_erase_of_ne (λ(e:y=x)=>(m5.mp h).1 (by rw[<-e];exact hy))).mpr (k y (cV _ hy))
  rw[List.length_erase_of_mem hx]at this
  have p:0<m.length:=List.length_pos_of_mem hx
  rw[eV];lia
end
theorem Ar(K:PySem.W.Frag)(z:Str)(H:Hp):tyV K "str" (.str z) H=True:=eq_true rfl
theorem dI{α:Type} [DecidableEq α]:∀{l r:List α},l.Nodup->(∀x∈l,x∈r)->l.length<=r.length
 | [],_,_,_=>de _
 | x::l,r,hn,hs=>by
  have hx:=hs x df
  have zB:=m5.mp hn
  have:=dI (l:=l) (r:=r.erase x) zB.2 λy hy=>(List.mem_erase_of_ne (λe:y=x=>zB.1 (by rw[<-e];exact hy))).mpr (hs y (cV _ hy))
  rw[List.length_erase_of_mem hx]at this
  have h0:0<r.length:=List.length_pos_of_mem hx
  rw[eV];lia
section
variable {X:Cx}
def Qu(w:World):List V->Hp->VK->Prop:=λvs H Q=>∃a,vs=[.ref a]/\∃ss:List Str,H a=some (.lst (ss.map V.str))/\ss.length<4000/\∀p,H p=none->Q (.ref p) (upd H p (TxS w p ss))
def xg(w:World):List V->Hp->VK->Prop:=λvs H Q=>∃a,vs=[.ref a]/\∃ss:List Str,H a=some (TxS w a ss)/\ss.length<64/\
 ∀ss':List Str,(∀z,z∈ss'↔z∈ss)->ss'.Nodup->sortedS ss'=true->∀p,H p=none->Q (.ref p) (upd H p (.lst (ss'.map V.str)))
def Kb:List V->Hp->VK->Prop:=λvs H Q=>∃a,vs=[.ref a]/\∃bs:List Bool,H a=some (.lst (bs.map V.bl))/\Q (.bl (bs.all id)) H
theorem Tv:∀{bs:List Bool} {us:List Value},Vals (bs.map V.bl) us->∀(i:Nat) (v:Value),us[i]?=some v->v=.bool (bs.getD i true):=by
 intro bs
 induction bs with
 | nil=>intro us r i v h;cases r;cases i <;> cases h
 | cons b bs ih=>
  intro us r i v h
  rw[dZ]at r
  cases r with
  | cons r1 r2=>
   cases r1
   cases i with
   | zero=>cases h;rfl
   | succ i=>exact ih r2 i v (by simpa using h)
theorem all_range:∀(bs:List Bool),((List.range bs.length).all λi=>bs.getD i true)=bs.all id
 | []=>rfl
 | b::bs=>by
  rw[eV,List.range_succ_eq_map,wu,List.all_map,wu,<-all_range bs]
  rfl
theorem px(hh:X.A.handled=none):fz X (.builtin "all") Kb:=by
 intro pins s σ H vs us Q I rv h
 obtain⟨a,rfl,bs,hq,q⟩:=h
 obtain⟨u,rfl,ru⟩:=vals1 rv
 cases ru
 obtain⟨its,r,pl,hz⟩:=I.list (aX hq)
 have hl:=r.length
 rw[aM]at hl
 have lt:a<s.heap.objs.size:=let ⟨_,e,_⟩:=pl.isList;bG e
 refine call_all_walkS (z8 pl.isList ⟨s.heap.objs.size,_,_,_,its.toArray.size,_,_,λi=>bs.getD i true,rfl,(Walks.list (A:=X.A.in1) hh _ a (bf lt) its.toArray).toS,⟨⟨_,cC _ rfl,rfl,rfl⟩,(pl.isList).push _⟩,?_,λs' mv=>?_⟩)
 ·intro i v s1 Q1 E1 hv hq1
  have:v=.bool (bs.getD i true):=Tv r i v (by simpa using hv)
  subst this
  exact aK hq1
 ·rw[bS,<-hl,all_range]
  have k:∀b o,s.heap.get? b=some o->s'.heap.get? b=some o:=λb o e=>mv.heap b o (λz=>absurd (bG e) (by rw[cG.mp z];exact g7 _)) (bN _ e)
  have I1:Inv X pins σ H { s with heap:=s'.heap,toks:=s.toks }:=I.un (Un.kept k) (I.bz.kept k)
  exact⟨.bl (bs.all id),H,I1.same rfl mv.gens mv.os,rfl,q⟩
end
section
variable {P:Program}{w:World}{κ:Type} [DecidableEq κ] {knd:PySem.KeyKind P w κ} {A:Around} {E:Value->Shared->Prop} {s:Shared} {a b:Addr} {aO RL:List (κ×Value)}
end
section
variable {X:Cx}
def Zb(neg:Bool):R2:=λx y H Q=>∃a b,x=.ref a/\y=.ref b/\∃aO,H a=some (.dK aO)/\H b=some (.dK aO)/\(∀kv∈aO,∃c,kv.2=.bl c)/\Q (.bl (!neg)) H
def xc:V->List V->Hp->VK->Prop:=λx vs H Q=>∃a b,x=.ref a/\vs=[.ref b]/\a≠b/\∃aO,H a=some (.dK aO)/\∃more,H b=some (.dK more)/\aO.length+more.length<=sizeLine/\Q .non (upd H a (.dK (Z3 aO more)))
end
section
variable {X:Cx}{pins:List (Addr×Obj)}{s:Shared}{σ:St}{H:Hp}{A:Around}
theorem vM{xs:List V}{us:List Value}{j:Nat}{x:V}(r:Vals xs us)(h:j<us.toArray.size)(e:xs[j]?=some x):RelV x us.toArray[j]:=by
 have h':j<us.length:=by simpa using h
 obtain⟨u,eu,ru⟩:=r.get e
 have:=bq h'
 rw[eu]at this
 have e1:us.toArray[j]=u:=by simpa using (fw this).symm
 rw[e1];exact ru
end
section
variable {P:Program}{w:World}{A:Around}{E:Value->Shared->Prop}{s:Shared}
theorem Fw{T:String}{r d:Addr}{n:Nat}{Pd:Nat->Value->Prop}{OK:Heap->Prop}{Q:List Value->Shared->Prop}(K:PySem.W.KdlSrc P w T r d n Pd OK)(hh:A.handled=none)(bz:OK s.heap)(hn:n<=sizeLine)
  (q:∀(s':Shared) (vs:List Value),(∀b o,s.heap.get? b=some o->s'.heap.get? b=some o)->s.heap.objs.size<=s'.heap.objs.size->s'.gens=s.gens->s'.os=s.os->vs.length=n->(∀(j:Nat) v,vs[j]?=some v->Pd j v)->Q vs s'):wpAny (model P w) A (collect (.ref r)) Q E s:=by
 have lt:=K.there _ bz
 unfold collect
 refine av (zU (mq entry_proto_collect' ?_))
 rw[qh PySem.F.plain_proto_collect _]
 refine av (m:=newList []) (iY ?_)
 refine aK ⟨wj Am _,mq entry_list_iadd' ?_⟩
 rw[qh Am _]
 let L0:Obj:={ cls:=.type "list",data:=.seq ([]:List Value).toArray }
 have k0:∀b o,s.heap.get? b=some o->(s.heap.push L0).get? b=some o:=λb o e=>bN _ e
 have hL:(s.heap.push L0).get? s.heap.objs.size=some L0:=cC _ rfl
 show wpAny _ A.in1 (Builtin.List.listExtendWith (.ref s.heap.objs.size) (.ref r) (.ref s.heap.objs.size)) _ _ { s with heap:=s.heap.push L0 }
 let R0:Result->Shared->Prop:=λr s'=>match r with
  | .ok (.ret v)=>wpAny (model P w) A (match v with
   | .ref a=>do
    let o <-load a
    match o.data with
     | .seq xs _=>pure xs.toList
     | _=>unsupported "internal:collect"
   | _=>unsupported "internal:collect") Q E s'
  | .ok _=>False
  | .error e=>E e s'
 refine PySem.W.kdl_extend (R:=R0) (s:={ s with heap:=s.heap.push L0 }) K hh (K.keep _ _ bz λb _ o e=>k0 b o e) s.heap.objs.size (g6 lt.1) (g6 lt.2) _ 0 hL (λh' tk acc c hk hS yx=>?_) hn
 refine av (m:=load s.heap.objs.size) (wpAny_load hS (aK ?_))
 exact q _ acc.toList (λb o e=>hk b o (bf (bG e)) (k0 b o e)) (kG (bG hS)) rfl rfl (by rw[cZ];exact yx.1) λj v e=>yx.2 j v (by rw[<-j7];exact e)
end
section
variable {X:Cx}
end
section
variable {X:Cx}{tg:Expr}
end
section
variable {X:Cx}
end
theorem km{K:PySem.W.Frag}{a:Addr}{zs:List V}{idx:List Nat}{tt:CB->TT}{te:CB->TE}{σ:St}{Q:VK}{H1:Hp}(Pv:Addr->Nat->List V->Hp->Prop)(h0:∀D,H1 D=none->Pv D 0 [] (upd H1 D (.lst [])))
  (hl:∀D,H1 D=none->∀i ys H,i<=zs.length->Pv D i ys H->H a=some (.tup zs))
  (hs:∀D,H1 D=none->∀i x ys H,zs[i]?=some x->Pv D i ys H->∀(c:CB),tt c (some x::cg σ idx) H λb H4=>if b=true then te c (some x::cg σ idx) H4 λy H5=>H5 D=some (.lst ys)/\ys.length<sizeLine/\Pv D (i+1) (ys++[y]) (upd H5 D (.lst (ys++[y]))) else Pv D (i+1) ys H4)
  (hd:∀D,H1 D=none->∀ys H,Pv D zs.length ys H->Q (.ref D) H):kE (Xh K a) 1 idx (λ_=>dg 0) tt te σ Q H1:=by
 intro D hD
 refine⟨λi m ys H=>m=zs.length-i/\i<=zs.length/\Pv D i ys H,⟨zs.length,by simp,de _,h0 D hD⟩,?_⟩
 rintro i m ys H ⟨rfl,hi,p⟩
 by_cases iE:i<zs.length
 ·refine .inr ⟨⟨zs,zs[i],bR (hl D hD i ys H hi p),bq iE⟩,Pv D (i+1),λoZ H' p'=>⟨zs.length-(i+1),by omega,rfl,iE,p'⟩,λc own ho y H' yl=>?_⟩
  obtain⟨e,hy⟩:=yl
  subst e
  have ey:=hy zs (bR (hl D hD i ys H' hi p))
  show(∃e9,e9.length=1/\(own++cg σ idx).set 0 _=e9++cg σ idx)/\tt c ((own++cg σ idx).set 0 _) H' _
  rw[ZJ ho]
  exact⟨⟨[_],rfl,rfl⟩,hs D hD i y ys H' ey p c⟩
 ·have e:i=zs.length:=by omega
  subst e
  exact .inl ⟨⟨zs,bR (hl D hD _ ys H hi p),bj _⟩,hd D hD ys H p⟩
section
variable {X:Cx}
def Y7(neg:Bool):R2:=λx y H Q=>∃c d,x=.bl c/\y=.bl d/\Q (.bl (if neg then c != d else c==d)) H
theorem Tq{prog:Program}{w:World}{A:Around}{E:Value->Shared->Prop}{s:Shared}{t b:Addr}{ws:List Value}{Q:Value->Shared->Prop}(ht:IsTup s.heap t (([]:List Value)).toArray)(hb:IsTup s.heap b ws.toArray)
  (h1:Q (.ref b) s):wpAny (model prog w) A (binaryOp .Add (.ref t) (.ref b)) Q E s:=by
 obtain⟨⟨cls,dd,data,sl⟩,ho,hc,n,hd⟩:=id ht
 obtain⟨⟨aBY,Yk,data2,Mf⟩,Ua,X6,n2,hd2⟩:=id hb
 simp only at hc hd X6 hd2
 subst hc hd X6 hd2
 exact concat_meets ⟨_,ho,rfl⟩ ⟨_,Ua,rfl⟩ noFill_tuple_add seq_tuple_add GQ G0 (G3 _ _)
   (tuple_addW0 t b _ ws.toArray n n2 dd Yk sl Mf rfl) ⟨ho,Ua,h1⟩
def J':R2:=λx y H Q=>∃a b,x=.ref a/\y=.ref b/\∃xs,H a=some (.tup xs)/\∃ys,H b=some (.tup ys)/\xs.length+ys.length<=sizeLine/\
 ∀p H',bP H H'->(∀c,c≠p->H' c=H c)->H' p=some (.tup (xs++ys))->Q (.ref p) H'
theorem xj:pG X (binaryOp .Add) J':=by
 intro pins s σ H x y v u Q I rx ry h
 obtain⟨a,b,rfl,rfl,xs,ha,ys,hb,hz,q⟩:=h
 by_cases hx:xs=[]
 ·subst hx
  cases rx;cases ry
  obtain⟨its,r1,p1,_⟩:=I.tuple (bR ha)
  obtain⟨Er,r2,p2,_⟩:=I.tuple (bR hb)
  cases r1
  exact Tq p1 p2 ⟨.ref b,H,I,rfl,q b H (bP.refl H) (λ_ _=>rfl) hb⟩
 ·exact V1 pins s σ H _ _ v u Q I rx ry ⟨a,b,xs,ys,rfl,rfl,bR ha,bR hb,hx,hz,λe=>q a H (bP.refl H) (λ_ _=>rfl) (by rw[e,gj];exact ha),λ_ p hp=>q p _ (λb u e=>by rw[au (az e hp)];exact e) (λc hc=>au hc) ai⟩
def aFX(lo st:Int)(n:Nat):It:=⟨λi _=>i<n,λi H x H'=>H'=H/\x=.int (lo+i*st),λi _=>n<=i⟩
def RP(ta:TA):TI:=λσ H R=>ta σ H λvs H1=>∃i j:Int,vs=[.int i,.int j,.int 2]/\(0<=i/\i<=1000/\-1<=j/\j<=1000)/\R (aFX i 2 ((j-i+1) / 2).toNat) H1
end
end L2
end
section
namespace L2
open PySem PySem.Spec PyProof.Rows Builtin Builtin.Str
section
variable {X:Cx}
end
end L2
end
section
namespace L2
open PySem PySem.W PyProof.Rows
structure Ord(b:Nat->Nat->Bool)(n:Nat):Prop where
 tr:∀i j k,i<n->j<n->k<n->b i j=true->b j k=true->b i k=true
 asy:∀i j,i<n->j<n->b i j=true->b j i=false
 tot:∀i j,i<n->j<n->i≠j->b i j=true\/b j i=true
abbrev x9(p:Array Nat)(i:Nat):Nat:=p.getD i 0
structure vF(p:Array Nat)(n:Nat):Prop where
 perm:p.Perm (List.range n).toArray
theorem vF.size{p:Array Nat}{n:Nat}(h:vF p n):p.size=n:=by rw[h.perm.size_eq];simp
theorem vF.lt{p:Array Nat}{n:Nat}(h:vF p n)(hn:0<n)(i:Nat):x9 p i<n:=by
 unfold x9
 rw[jw]
 by_cases hi:i<p.size
 ·rw[dG hi]
  have:=(h.perm.mem_iff (a:=p[i])).mp (iZ hi)
  simpa using this
 ·rw[GK (by lia)]
  exact hn
theorem vF.ne{p:Array Nat}{n:Nat}(h:vF p n){i j:Nat}(hi:i<n)(hj:j<n)(d:i≠j):x9 p i≠x9 p j:=by
 have nd:p.toList.Nodup:=(v9.mp h.perm).nodup_iff.mpr (by simpa using List.nodup_range)
 have hs:=h.size
 intro e
 unfold x9 at e
 rw[jw,jw,dG (by lia:i<p.size),dG (by lia:j<p.size)]at e
 have e':p.toList[i]'(by simpa using by lia)=p.toList[j]'(by simpa using by lia):=by simpa using e
 exact d ((tU nd).mp e')
def FV(b:Nat->Nat->Bool)(p:Array Nat)(m:Nat):Prop:=∀i,i+1<m->b (x9 p i) (x9 p (i+1))=true
section
variable {b:Nat->Nat->Bool}{n:Nat}
theorem FV.all(O:Ord b n){p:Array Nat}(h:vF p n)(hn:0<n){m:Nat}(a:FV b p m)(hm:m<=n):∀d i,i+(d+1)<m->b (x9 p i) (x9 p (i+(d+1)))=true
 | 0,i,hi=>a i hi
 | d+1,i,hi=>O.tr _ _ _ (h.lt hn _) (h.lt hn _) (h.lt hn _) (FV.all O h hn a hm d i (by lia)) (a (i+(d+1)) hi)
theorem FV.lt(O:Ord b n){p:Array Nat}(h:vF p n)(hn:0<n){m:Nat}(a:FV b p m)(hm:m<=n){i j:Nat}(Sd:i<j)(hj:j<m):b (x9 p i) (x9 p j)=true:=by
 have:=FV.all O h hn a hm (j-i-1) i (by lia)
 rwa [show i+(j-i-1+1)=j by lia]at this
end
def Yh:Bool->Keyed->Array Keyed->Nat->Nat->Nat->StateT SortSt Sem (Option Nat):=sortPriv% PySem.Builtin.gallop
def mLo:Array Keyed->Array Keyed->StateT SortSt Sem (Array Keyed):=sortPriv% PySem.Builtin.mergeLo
def mHi:Array Keyed->Array Keyed->StateT SortSt Sem (Array Keyed):=sortPriv% PySem.Builtin.mergeHi
abbrev dz(st:SortSt)(g:Nat):SortSt:=SortSt.mk' (kindOf st) (arrOf st) (pendingOf st) g (failedOf st)
def ahd(lf:Bool)(ky:Keyed)(xs:Array Keyed)(bs i:Nat):StateT SortSt Sem (Option Bool):=do
 let z <-elem' xs (bs+i)
 if lf then lt' z ky else return (<-lt' ky z).map (!·)
theorem aAy(lf:Bool)(ky:Keyed)(xs:Array Keyed)(bs m ht:Nat):Yh lf ky xs bs m ht=(do
 let mut lst:=0
 let mut of:=1
 let mut l:=0
 let mut h:=0
 let some rgt <-ahd lf ky xs bs ht | return none
 if rgt then
  let mx:=m-ht
  for _ in [0:m] do
   if of>=mx then break
   let some mo <-ahd lf ky xs bs (ht+of) | return none
   if !mo then break
   lst:=of
   of:=2*of+1
  l:=ht+lst+1
  h:=ht+min of mx
 else
  let mx:=ht+1
  for _ in [0:m] do
   if of>=mx then break
   let some fd <-ahd lf ky xs bs (ht-of) | return none
   if fd then break
   lst:=of
   of:=2*of+1
  l:=ht+1-min of mx
  h:=ht-lst
 for _ in [0:m] do
  if l>=h then break
  let c:=l+(h-l) / 2
  let some mo <-ahd lf ky xs bs c | return none
  if mo then l:=c+1 else h:=c
 return some h):=rfl
theorem Z5(a b:Array Keyed):mLo a b=(do
 rule "list.sort.merge-lo"
 let tot:=a.size+b.size
 let fin (o:Array Keyed) (x y:Nat):=o++a.extract x a.size++b.extract y b.size
 let laA (o:Array Keyed) (x y:Nat):=o++b.extract y b.size++a.extract x a.size
 let mut o:Array Keyed:=#[<-elem' b 0]
 let mut x:=0
 let mut y:=1
 if y==b.size then return fin o x y
 if x+1==a.size then return laA o x y
 let mut mg:=gallopOf (<-get)
 for _ in [0:tot] do
  let mut na:=0
  let mut nb:=0
  for _ in [0:tot] do
   let some bw <-lt' (<-elem' b y) (<-elem' a x) | return fin o x y
   if bw then
    o:=o.push (<-elem' b y);y:=y+1;nb:=nb+1;na:=0
    if y==b.size then return fin o x y
    if nb>=mg then break
   else
    o:=o.push (<-elem' a x);x:=x+1;na:=na+1;nb:=0
    if x+1==a.size then return laA o x y
    if na>=mg then break
  rule "list.sort.gallop"
  mg:=mg+1
  for _ in [0:tot] do
   if mg > 1 then mg:=mg-1
   modify λst=>dz st mg
   let some k <-Yh false (<-elem' b y) a x (a.size-x) 0 | return fin o x y
   na:=k
   if k > 0 then
    o:=o++a.extract x (x+k);x:=x+k
    if x+1==a.size then return laA o x y
    if x==a.size then return fin o x y
   o:=o.push (<-elem' b y);y:=y+1
   if y==b.size then return fin o x y
   let some k <-Yh true (<-elem' a x) b y (b.size-y) 0 | return fin o x y
   nb:=k
   if k > 0 then
    o:=o++b.extract y (y+k);y:=y+k
    if y==b.size then return fin o x y
   o:=o.push (<-elem' a x);x:=x+1
   if x+1==a.size then return laA o x y
   if na<7&&nb<7 then break
  mg:=mg+1
  modify λst=>dz st mg
 unsupported "internal:list.sort.merge-bound"):=rfl
theorem Z6(a b:Array Keyed):mHi a b=(do
 rule "list.sort.merge-hi"
 let tot:=a.size+b.size
 let fin (o:Array Keyed) (x y:Nat):=a.extract 0 x++b.extract 0 y++o.reverse
 let fiB (o:Array Keyed) (x y:Nat):=b.extract 0 y++a.extract 0 x++o.reverse
 let mut x:=a.size-1
 let mut y:=b.size
 let mut o:Array Keyed:=#[<-elem' a x]
 if x==0 then return fin o x y
 if y==1 then return fiB o x y
 let mut mg:=gallopOf (<-get)
 for _ in [0:tot] do
  let mut na:=0
  let mut nb:=0
  for _ in [0:tot] do
   let some aw <-lt' (<-elem' b (y-1)) (<-elem' a (x-1)) | return fin o x y
   if aw then
    x:=x-1;o:=o.push (<-elem' a x);na:=na+1;nb:=0
    if x==0 then return fin o x y
    if na>=mg then break
   else
    y:=y-1;o:=o.push (<-elem' b y);nb:=nb+1;na:=0
    if y==1 then return fiB o x y
    if nb>=mg then break
  rule "list.sort.gallop"
  mg:=mg+1
  for _ in [0:tot] do
   if mg > 1 then mg:=mg-1
   modify λst=>dz st mg
   let some e <-Yh false (<-elem' b (y-1)) a 0 x (x-1) | return fin o x y
   let k:=x-e
   na:=k
   if k > 0 then
    o:=o++(a.extract e x).reverse;x:=e
    if x==0 then return fin o x y
   y:=y-1;o:=o.push (<-elem' b y)
   if y==1 then return fiB o x y
   let some e <-Yh true (<-elem' a (x-1)) b 0 y (y-1) | return fin o x y
   let k:=y-e
   nb:=k
   if k > 0 then
    o:=o++(b.extract e y).reverse;y:=e
    if y==1 then return fiB o x y
    if y==0 then return fin o x y
   x:=x-1;o:=o.push (<-elem' a x)
   if x==0 then return fin o x y
   if na<7&&nb<7 then break
  mg:=mg+1
  modify λst=>dz st mg
 unsupported "internal:list.sort.merge-bound"):=rfl
theorem Z7(i:Nat):mergeAt' i=(do
 let st <-get
 let (some (sa,na,pw),some (sb,nb,_)):=((pendingOf st)[i]?,(pendingOf st)[i+1]?) | unsupported "internal:list.sort.pending"
 set (setPending st (((pendingOf st).setIfInBounds i (sa,na+nb,pw)).eraseIdxIfInBounds (i+1)))
 let some k <-Yh false (<-elem' (arrOf st) sb) (arrOf st) sa na 0 | return false
 let (sa,na):=(sa+k,na-k)
 if na==0 then return true
 let some nb <-Yh true (<-elem' (arrOf st) (sa+na-1)) (arrOf st) sb nb (nb-1) | return false
 if nb==0 then return true
 let x:=(arrOf st).extract sa sb
 let y:=(arrOf st).extract sb (sb+nb)
 let mgd <-if na<=nb then mLo x y else mHi x y
 modify λst=>setArr st (mgd.toList.zipIdx.foldl (λa (p,j)=>a.setIfInBounds (sa+j) p) (arrOf st))
 return (failedOf (<-get)).isNone):=rfl
section
variable {prog:Program}{w:World}{A:Around}{E:Value->Shared->Prop}{s:Shared}{κ:SortKind}{r:Keyed->Int}{U:Keyed->Prop}
def Cmp(prog:Program)(w:World)(A:Around)(s:Shared)(κ:SortKind)(r:Keyed->Int)(U:Keyed->Prop):Prop:=
 ∀x y (Q:Bool->Shared->Prop),U x->U y->Q (decide (r x<r y)) s->wpAny (model prog w) A (keyLt' κ x.1 y.1) Q (λ_ _=>False) s
theorem Qc(C:Cmp prog w A s κ r U){x y:Keyed}{Q:Option Bool->SortSt->Prop}{st:SortSt}(hx:U x)(hy:U y)(hk:kindOf st=κ)(h:Q (some (decide (r x<r y))) st):wpS (model prog w) A E s (lt' x y) Q st:=by
 rw[lt'_eq]
 refine aD (ji ?_)
 rw[hk]
 refine aD (nM (tP (cL (C x y (λb s'=>s'=s/\b=decide (r x<r y)) hx hy ⟨rfl,rfl⟩) (λb s' h'=>?_) λ_ _ hF=>hF.elim)))
 obtain⟨rfl,rfl⟩:=h'
 exact⟨rfl,aG h⟩
theorem dq{xs:Array Keyed}{i:Nat}{Q:Keyed->SortSt->Prop}{st:SortSt}(hi:i<xs.size)(h:Q xs[i] st):wpS (model prog w) A E s (elem' xs i) Q st:=by
 rw[elem'_eq,dG hi]
 exact aG h
def isA(r:Keyed->Int)(lf:Bool)(ky z:Keyed):Bool:=if lf then decide (r z<r ky) else decide (r z<=r ky)
theorem aA7(C:Cmp prog w A s κ r U){lf:Bool}{ky:Keyed}{xs:Array Keyed}{bs i:Nat}{Q:Option Bool->SortSt->Prop}{st:SortSt}(hi:bs+i<xs.size)(hU:∀z∈xs,U z)(hy:U ky)(hk:kindOf st=κ)(h:Q (some (isA r lf ky xs[bs+i])) st) :
  wpS (model prog w) A E s (ahd lf ky xs bs i) Q st:=by
 unfold ahd
 refine aD (dq hi ?_)
 have hu:=hU _ (iZ hi)
 unfold isA at h
 cases lf with
 | true=>exact Qc C hu hy hk h
 | false=>
  simp only[ja,fu]at h ⊢
  refine aD (Qc C hy hu hk (aG ?_))
  have e:(!decide (r ky<r xs[bs+i]))=decide (r xs[bs+i]<=r ky):=by
   rw[nI];simp
  show Q (some (!decide (r ky<r xs[bs+i]))) st
  rw[e];exact h
theorem y4(C:Cmp prog w A s κ r U){lf:Bool}{ky:Keyed}{xs:Array Keyed}{bs m ht:Nat}{Q:Option Nat->SortSt->Prop}{st:SortSt}(hm:bs+m<=xs.size)(hh:ht<m)(hU:∀z∈xs,U z)(hy:U ky)(hk:kindOf st=κ)
  (srt:∀i j (h1:i<=j) (h2:bs+j<xs.size),j<m->r (xs[bs+i]'(by lia))<=r xs[bs+j])
  (h:∀k,k<=m->(∀i,i<k->∀(h2:bs+i<xs.size),isA r lf ky xs[bs+i]=true)->(∀i,k<=i->i<m->∀(h2:bs+i<xs.size),isA r lf ky xs[bs+i]=false)->Q (some k) st) :
  wpS (model prog w) A E s (Yh lf ky xs bs m ht) Q st:=by
 obtain⟨f,hf⟩:∃f:Nat->Bool,∀i (h2:bs+i<xs.size),isA r lf ky xs[bs+i]=f i:=⟨λi=>if h2:bs+i<xs.size then isA r lf ky xs[bs+i] else false,λi h2=>by dsimp only;rw[dif_pos h2]⟩
 have mono:∀i j,i<=j->j<m->f j=true->f i=true:=λi j Sd hj e=>by
  have h2:bs+j<xs.size:=by lia
  rw[<-hf j h2]at e
  rw[<-hf i (by lia)]
  have:=srt i j Sd h2 hj
  unfold isA at e ⊢
  cases lf <;> simp at e ⊢ <;> lia
 have Km:∀i j,i<=j->j<m->f i=false->f j=false:=λi j Sd hj e=>by
  cases e':f j with
  | false=>rfl
  | true=>rw[mono i j Sd hj e']at e;cases e
 have h':∀k,k<=m->(∀i,i<k->f i=true)->(∀i,k<=i->i<m->f i=false)->Q (some k) st:=λk hk1 h1 h2=>
  h k hk1 (λi hi hb=>by rw[hf];exact h1 i hi) (λi hi Wv hb=>by rw[hf];exact h2 i hi Wv)
 have ask:∀i (Q':Option Bool->SortSt->Prop),i<m->Q' (some (f i)) st->wpS (model prog w) A E s (ahd lf ky xs bs i) Q' st:=λi Q' hi q=>by
  have h2:bs+i<xs.size:=by lia
  exact aA7 C h2 hU hy hk (by rw[hf i h2];exact q)
 rw[aAy]
 refine aD (ask ht _ hh ?_)
 cases hr:f ht with
 | true=>
  simp only[gB]
  refine aD (eI (fB (I:=λx c bC=>bC=st/\∃la of,c=(none,la,of)/\la<of/\ht+la<m/\x+1<=of/\f (ht+la)=true)
   (Q:=λc bC=>bC=st/\∃la of,c=(none,la,of)/\la<of/\ht+la<m/\f (ht+la)=true/\(of>=m-ht\/f (ht+of)=false)) ?step ?fin ⟨rfl,0,1,rfl,by lia,by lia,by lia,hr⟩) ?post)
  case post=>
   intro c σ0 gY
   refine hide λgG hG=>?_
   obtain⟨rfl,la,of,rfl,a1,a2,a3,a4⟩:=gY
   refine hG ?_
   have yu:ht+la+1<=ht+min of (m-ht):=by lia
   have Ku:ht+min of (m-ht)<=m:=by lia
   have Kt:∀i,i<ht+la+1->f i=true:=λi hi=>mono i _ (by lia) a2 a3
   have XS:∀i,ht+min of (m-ht)<=i->i<m->f i=false:=λi hi Wv=>a4.elim (λa4=>by lia) λa4=>Km _ i (by lia) Wv a4
   dsimp only
   generalize ht+la+1=l0 at yu Kt ⊢
   generalize ht+min of (m-ht)=h0 at yu Ku XS ⊢
   refine aD (eI (fB (I:=λx c bC=>bC=σ0/\∃l hI,c=(none,l,hI)/\l<=hI/\hI<=m/\hI-l<=m-x/\(∀i,i<l->f i=true)/\(∀i,hI<=i->i<m->f i=false))
    (Q:=λc bC=>bC=σ0/\∃hI l,c=(none,l,hI)/\hI<=m/\(∀i,i<hI->f i=true)/\(∀i,hI<=i->i<m->f i=false)) ?bstep ?bfin ⟨rfl,l0,h0,rfl,yu,Ku,by lia,Kt,XS⟩) ?bpost)
   case bpost=>
    intro c bC gY
    refine hide λgG hG=>?_
    obtain⟨rfl,hI,l,rfl,a1,a2,a3⟩:=gY
    refine hG ?_
    exact aG (h' hI a1 a2 a3)
   case bfin=>
    intro c bC gY
    refine hide λgG hG=>?_
    obtain⟨rfl,l,hI,rfl,a1,a2,a3,a4,a5⟩:=gY
    refine hG ?_
    have:l=hI:=by lia
    subst this
    exact⟨rfl,l,l,rfl,a2,a4,a5⟩
   case bstep=>
    intro x c bC _ hx xE
    refine hide λgG hG=>?_
    obtain⟨rfl,l,hI,rfl,a1,a2,a3,a4,a5⟩:=xE
    refine hG ?_
    dsimp only
    by_cases vg:l>=hI
    ·rw[ay vg]
     have:l=hI:=by lia
     subst this
     exact aG ⟨rfl,l,l,rfl,a2,a4,a5⟩
    ·rw[aE vg]
     refine aD (ask _ _ (by lia) ?_)
     cases hc:f (l+(hI-l) / 2) with
     | true=>
      simp only[gB]
      exact aG ⟨rfl,_,_,rfl,by lia,by lia,by lia,λi hi=>mono i _ (by lia) (by lia) hc,a5⟩
     | false=>
      simp only[ja,fu]
      exact aG ⟨rfl,_,_,rfl,by lia,by lia,by lia,a4,λi hi Wv=>Km _ i hi Wv hc⟩
  case fin=>
   intro c bC gY
   refine hide λgG hG=>?_
   obtain⟨rfl,la,of,rfl,a1,a2,a3,a4⟩:=gY
   refine hG ?_
   exact⟨rfl,la,of,rfl,a1,a2,a4,.inl (by lia)⟩
  case step=>
   intro x c bC _ hx xE
   refine hide λgG hG=>?_
   obtain⟨rfl,la,of,rfl,a1,a2,a3,a4⟩:=xE
   refine hG ?_
   dsimp only
   by_cases vg:of>=m-ht
   ·rw[ay vg]
    exact aG ⟨rfl,la,of,rfl,a1,a2,a4,.inl vg⟩
   ·rw[aE vg]
    refine aD (ask _ _ (by lia) ?_)
    cases hc:f (ht+of) with
    | true=>
     simp only[zV,ja,fu]
     exact aG ⟨rfl,of,_,rfl,by lia,by lia,by lia,hc⟩
    | false=>
     simp only[Bool.not_false,gB]
     exact aG ⟨rfl,la,of,rfl,a1,a2,a4,.inr hc⟩
 | false=>
  simp only[ja,fu]
  refine aD (eI (fB (I:=λx c bC=>bC=st/\∃la of,c=(none,la,of)/\la<of/\la<=ht/\x+1<=of/\f (ht-la)=false)
   (Q:=λc bC=>bC=st/\∃la of,c=(none,la,of)/\la<of/\la<=ht/\f (ht-la)=false/\(of>=ht+1\/f (ht-of)=true)) ?step ?fin ⟨rfl,0,1,rfl,by lia,by lia,by lia,hr⟩) ?post)
  case post=>
   intro c σ0 gY
   refine hide λgG hG=>?_
   obtain⟨rfl,la,of,rfl,a1,a2,a3,a4⟩:=gY
   refine hG ?_
   have yu:ht+1-min of (ht+1)<=ht-la:=by lia
   have Ku:ht-la<=m:=by lia
   have Kt:∀i,i<ht+1-min of (ht+1)->f i=true:=λi hi=>a4.elim (λa4=>by lia) λa4=>mono i _ (by lia) (by lia) a4
   have XS:∀i,ht-la<=i->i<m->f i=false:=λi hi Wv=>Km _ i hi Wv a3
   dsimp only
   generalize ht+1-min of (ht+1)=l0 at yu Kt ⊢
   generalize ht-la=h0 at yu Ku XS ⊢
   refine aD (eI (fB (I:=λx c bC=>bC=σ0/\∃l hI,c=(none,l,hI)/\l<=hI/\hI<=m/\hI-l<=m-x/\(∀i,i<l->f i=true)/\(∀i,hI<=i->i<m->f i=false))
    (Q:=λc bC=>bC=σ0/\∃hI l,c=(none,l,hI)/\hI<=m/\(∀i,i<hI->f i=true)/\(∀i,hI<=i->i<m->f i=false)) ?bstep ?bfin ⟨rfl,l0,h0,rfl,yu,Ku,by lia,Kt,XS⟩) ?bpost)
   case bpost=>
    intro c bC gY
    refine hide λgG hG=>?_
    obtain⟨rfl,hI,l,rfl,a1,a2,a3⟩:=gY
    refine hG ?_
    exact aG (h' hI a1 a2 a3)
   case bfin=>
    intro c bC gY
    refine hide λgG hG=>?_
    obtain⟨rfl,l,hI,rfl,a1,a2,a3,a4,a5⟩:=gY
    refine hG ?_
    have:l=hI:=by lia
    subst this
    exact⟨rfl,l,l,rfl,a2,a4,a5⟩
   case bstep=>
    intro x c bC _ hx xE
    refine hide λgG hG=>?_
    obtain⟨rfl,l,hI,rfl,a1,a2,a3,a4,a5⟩:=xE
    refine hG ?_
    dsimp only
    by_cases vg:l>=hI
    ·rw[ay vg]
     have:l=hI:=by lia
     subst this
     exact aG ⟨rfl,l,l,rfl,a2,a4,a5⟩
    ·rw[aE vg]
     refine aD (ask _ _ (by lia) ?_)
     cases hc:f (l+(hI-l) / 2) with
     | true=>
      simp only[gB]
      exact aG ⟨rfl,_,_,rfl,by lia,by lia,by lia,λi hi=>mono i _ (by lia) (by lia) hc,a5⟩
     | false=>
      simp only[ja,fu]
      exact aG ⟨rfl,_,_,rfl,by lia,by lia,by lia,a4,λi hi Wv=>Km _ i hi Wv hc⟩
  case fin=>
   intro c bC gY
   refine hide λgG hG=>?_
   obtain⟨rfl,la,of,rfl,a1,a2,a3,a4⟩:=gY
   refine hG ?_
   exact⟨rfl,la,of,rfl,a1,a2,a4,.inl (by lia)⟩
  case step=>
   intro x c bC _ hx xE
   refine hide λgG hG=>?_
   obtain⟨rfl,la,of,rfl,a1,a2,a3,a4⟩:=xE
   refine hG ?_
   dsimp only
   by_cases vg:of>=ht+1
   ·rw[ay vg]
    exact aG ⟨rfl,la,of,rfl,a1,a2,a4,.inl vg⟩
   ·rw[aE vg]
    refine aD (ask _ _ (by lia) ?_)
    cases hc:f (ht-of) with
    | true=>
     simp only[gB]
     exact aG ⟨rfl,la,of,rfl,a1,a2,a4,.inr hc⟩
    | false=>
     simp only[ja,fu]
     exact aG ⟨rfl,of,_,rfl,by lia,by lia,by lia,hc⟩
end
theorem aJ{M:Model}{A:Around}{E:Value->Shared->Prop}{s:Shared}{σ α:Type}{c:Prop} [Decidable c] {m n:StateT σ Sem α} {Q:α->σ->Prop} {st:σ} (h1:c->wpS M A E s m Q st) (h2:¬c->wpS M A E s n Q st):wpS M A E s (if c then m else n) Q st:=by
 by_cases h:c
 ·rw[ay h];exact h1 h
 ·rw[aE h];exact h2 h
theorem Be{α:Type}{P R:α->Nat->Prop}{G:Prop}(k:(∀o x,R o x->P o x)->G)(h:∀o x,R o x->P o x):G:=k h
theorem share{P:Nat->Prop}{G:Prop}(k:(∀g,P g)->G)(h:∀g,P g):G:=k h
def jZ(r:Keyed->Int)(l:List Keyed):Prop:=l.Pairwise λx y=>r x<=r y
structure MI(r:Keyed->Int)(tot o ra rb:List Keyed):Prop where
 perm:(o++(ra++rb)).Perm tot
 so:jZ r o
 sa:jZ r ra
 sb:jZ r rb
 la:∀u∈o,∀v∈ra,r u<=r v
 lb:∀u∈o,∀v∈rb,r u<=r v
section
variable {r:Keyed->Int}{tot o ra rb p:List Keyed}
theorem MI.yU(h:MI r tot o (p++ra) rb)(hp:∀u∈p,∀v∈rb,r u<=r v):MI r tot (o++p) ra rb:=by
 have sa:=g9.mp h.sa
 refine⟨by simpa [jE]using h.perm,g9.mpr ⟨h.so,sa.1,λu hu v hv=>h.la u hu v (uT _ hv)⟩,sa.2.1,h.sb,λu hu v hv=>?_,λu hu v hv=>?_⟩
 ·rcases cw.mp hu with hu | hu
  ·exact h.la u hu v (gS _ hv)
  ·exact sa.2.2 u hu v hv
 ·rcases cw.mp hu with hu | hu
  ·exact h.lb u hu v hv
  ·exact hp u hu v hv
theorem MI.yT(h:MI r tot o ra (p++rb))(hp:∀u∈p,∀v∈ra,r u<=r v):MI r tot (o++p) ra rb:=by
 have sb:=g9.mp h.sb
 refine⟨?_,g9.mpr ⟨h.so,sb.1,λu hu v hv=>h.lb u hu v (uT _ hv)⟩,h.sa,sb.2.1,λu hu v hv=>?_,λu hu v hv=>?_⟩
 ·refine List.Perm.trans ?_ h.perm
  rw[jE]
  refine Gz o ?_
  rw[<-jE,<-jE]
  exact GL rb List.perm_append_comm
 ·rcases cw.mp hu with hu | hu
  ·exact h.la u hu v hv
  ·exact hp u hu v hv
 ·rcases cw.mp hu with hu | hu
  ·exact h.lb u hu v (gS _ hv)
  ·exact sb.2.2 u hu v hv
theorem MI.WX(h:MI r tot o ra []):(o++ra).Perm tot/\jZ r (o++ra):=⟨by simpa using h.perm,g9.mpr ⟨h.so,h.sa,h.la⟩⟩
theorem MI.WW(h:MI r tot o [] rb):(o++rb).Perm tot/\jZ r (o++rb):=⟨by simpa using h.perm,g9.mpr ⟨h.so,h.sb,h.lb⟩⟩
theorem MI.aEW{z:Keyed}(h:MI r tot o [z] rb)(hz:∀v∈rb,r v<=r z):(o++rb++[z]).Perm tot/\jZ r (o++rb++[z]):=by
 have h':=(MI.yT (p:=rb) (rb:=[]) (by simpa using h) λu hu v hv=>by rw[cG.mp hv];exact hz u hu).WX
 exact h'
end
section
variable {r:Keyed->Int}{a b o:Array Keyed}{x y k:Nat}
abbrev tot(a b:Array Keyed):List Keyed:=a.toList++b.toList
def Good(r:Keyed->Int)(a b R:Array Keyed):Prop:=R.toList.Perm (tot a b)/\jZ r R.toList
abbrev CV(r:Keyed->Int)(a b o:Array Keyed)(x y:Nat):Prop:=MI r (tot a b) o.toList (a.toList.drop x) (b.toList.drop y)
theorem jc(a:Array Keyed)(x n:Nat):(a.extract x n).toList=(a.toList.drop x).take (n-x):=by
 rw[Array.toList_extract]
theorem v5(a:Array Keyed)(x:Nat):(a.extract x a.size).toList=a.toList.drop x:=by
 rw[jc,<-cZ,<-my]
 exact gE
theorem Fo(l:List Keyed)(x k:Nat):l.drop x=(l.drop x).take k++l.drop (x+k):=by
 rw[<-List.drop_drop];exact(wK k _).symm
theorem drop_one(a:Array Keyed){x:Nat}(h:x<a.size):a.toList.drop x=[a[x]]++a.toList.drop (x+1):=by
 rw[wL (by simpa using h)];simp
theorem ke{a:Array Keyed}{x:Nat}{v:Keyed}(h:v∈a.toList.drop x):∃i,∃(hi:x+i<a.size),v=a[x+i]:=by
 obtain⟨i,hi,e⟩:=uU.mp h
 rw[my,cZ]at hi
 refine⟨i,by lia,?_⟩
 rw[<-e];simp
theorem jb{a:Array Keyed}{x k:Nat}{v:Keyed}(h:v∈(a.toList.drop x).take k):∃i,∃(hi:x+i<a.size),i<k/\v=a[x+i]:=by
 obtain⟨i,hi,e⟩:=uU.mp h
 rw[fZ,my,cZ]at hi
 refine⟨i,by lia,by lia,?_⟩
 rw[<-e];simp
theorem ic{a:Array Keyed}(s:jZ r a.toList){i j:Nat}(Sd:i<=j)(hj:j<a.size):r (a[i]'(by lia))<=r a[j]:=by
 rcases Nat.lt_or_eq_of_le Sd with h | h
 ·have:=(uZ.mp s) i j (by simpa using by lia) (by simpa using hj) h
  simpa using this
 ·subst h;exact gD _
theorem MI.y9(h:CV r a b o x y)(hy:y<b.size)(hx:∀i,x<=i->∀(hi:i<a.size),r b[y]<=r a[i]):CV r a b (o.push b[y]) x (y+1):=by
 have h':MI r (tot a b) o.toList (a.toList.drop x) ([b[y]]++b.toList.drop (y+1)):=by rw[<-drop_one b hy];exact h
 have:=h'.yT λu hu v hv=>by
  obtain⟨i,hi,rfl⟩:=ke hv
  rw[cG.mp hu]
  exact hx _ (by lia) hi
 show MI r (tot a b) (o.push b[y]).toList _ _
 rw[nQ];exact this
theorem MI.za(h:CV r a b o x y)(hx:x<a.size)(hy:∀i,y<=i->∀(hi:i<b.size),r a[x]<=r b[i]):CV r a b (o.push a[x]) (x+1) y:=by
 have h':MI r (tot a b) o.toList ([a[x]]++a.toList.drop (x+1)) (b.toList.drop y):=by rw[<-drop_one a hx];exact h
 have:=h'.yU λu hu v hv=>by
  obtain⟨i,hi,rfl⟩:=ke hv
  rw[cG.mp hu]
  exact hy _ (by lia) hi
 show MI r (tot a b) (o.push a[x]).toList _ _
 rw[nQ];exact this
theorem MI.Rz(h:CV r a b o x y)(hp:∀i,i<k->∀(hi:x+i<a.size) j,y<=j->∀(hj:j<b.size),r a[x+i]<=r b[j]):CV r a b (o++a.extract x (x+k)) (x+k) y:=by
 have h':MI r (tot a b) o.toList ((a.toList.drop x).take k++a.toList.drop (x+k)) (b.toList.drop y):=by rw[<-Fo];exact h
 have:=h'.yU λu hu v hv=>by
  refine hide λgG hG=>?_
  obtain⟨i,hi,hk,rfl⟩:=jb hu
  obtain⟨j,hj,rfl⟩:=ke hv
  refine hG ?_
  exact hp i hk hi _ (by lia) hj
 show MI r (tot a b) (o++a.extract x (x+k)).toList _ _
 rw[j5,jc,Nat.add_sub_cancel_left]
 exact this
theorem MI.Ry(h:CV r a b o x y)(hp:∀i,i<k->∀(hi:y+i<b.size) j,x<=j->∀(hj:j<a.size),r b[y+i]<=r a[j]):CV r a b (o++b.extract y (y+k)) x (y+k):=by
 have h':MI r (tot a b) o.toList (a.toList.drop x) ((b.toList.drop y).take k++b.toList.drop (y+k)):=by rw[<-Fo];exact h
 have:=h'.yT λu hu v hv=>by
  refine hide λgG hG=>?_
  obtain⟨i,hi,hk,rfl⟩:=jb hu
  obtain⟨j,hj,rfl⟩:=ke hv
  refine hG ?_
  exact hp i hk hi _ (by lia) hj
 show MI r (tot a b) (o++b.extract y (y+k)).toList _ _
 rw[j5,jc,Nat.add_sub_cancel_left]
 exact this
theorem MI.fin(h:CV r a b o x y)(e:y=b.size\/x=a.size):Good r a b (o++a.extract x a.size++b.extract y b.size):=by
 unfold Good
 rw[j5,j5,v5,v5]
 rcases e with e | e
 ·have z:b.toList.drop y=[]:=GP (by simp[e])
  have h':MI r (tot a b) o.toList (a.toList.drop x) []:=by rw[<-z];exact h
  rw[z,gj];exact h'.WX
 ·have z:a.toList.drop x=[]:=GP (by simp[e])
  have h':MI r (tot a b) o.toList [] (b.toList.drop y):=by rw[<-z];exact h
  rw[z,gj];exact h'.WW
theorem MI.Wf(h:CV r a b o x y)(e:x+1=a.size)(hl:∀v∈b,r v<=r (a[a.size-1]'(by lia))):Good r a b (o++b.extract y b.size++a.extract x a.size):=by
 unfold Good
 rw[j5,j5,v5,v5]
 have z:a.toList.drop x=[a[a.size-1]'(by lia)]:=by
  rw[drop_one a (by lia),GP (by simp;lia)]
  simp only[gj]
  congr 2
  lia
 have h':MI r (tot a b) o.toList [a[a.size-1]'(by lia)] (b.toList.drop y):=by rw[<-z];exact h
 rw[z]
 exact h'.aEW λv hv=>hl v (by simpa using List.mem_of_mem_drop hv)
end
section
variable {prog:Program}{w:World}{A:Around}{E:Value->Shared->Prop}{s:Shared}{κ:SortKind}{r:Keyed->Int}{U:Keyed->Prop}
theorem aA4(C:Cmp prog w A s κ r U){a b:Array Keyed}{Q:Array Keyed->SortSt->Prop}{st:SortSt}(hk:kindOf st=κ)(ha:∀z∈a,U z)(hb:∀z∈b,U z)(sa:jZ r a.toList)(sb:jZ r b.toList)(na:0<a.size)(nb:0<b.size)
  (h0:r b[0]<=r a[0]) (hl:∀v∈b,r v<=r (a[a.size-1]'(by lia))) (h:∀R g,Good r a b R->Q R (dz st g)):wpS (model prog w) A E s (mLo a b) Q st:=by
 rw[Z5]
 refine aD (nM (jj ⟨rfl,?_⟩))
 refine aD (dq nb ?_)
 try dsimp only
 have M0:CV r a b #[b[0]] 0 1:=MI.y9 (o:=#[]) (x:=0) (y:=0) ⟨by simp,List.Pairwise.nil,by simpa using sa,by simpa using sb,by simp,by simp⟩ nb λi _ hi=>by
  have:=ic sa (de i) hi
  lia
 refine aJ (λhz=>?_) (λhz=>?_)
 ·exact aG (h _ (gallopOf st) (M0.fin (.inl (by simpa using hz))))
 have XD:=hz
 refine aJ (λhz=>?_) (λhz=>?_)
 ·exact aG (h _ (gallopOf st) (M0.Wf (by simpa using hz) hl))
 have yt:=hz
 have aAj:1≠b.size:=by simpa using XD
 have RV:0+1≠a.size:=by simpa using yt
 clear h0 hz XD yt
 refine aD (ji ?_)
 refine aD (eI (fB (I:=λn c bC=>(∃g,bC=dz st g)/\∃o x y mg,c=(none,o,x,y,mg)/\x+1<a.size/\y<b.size/\CV r a b o x y/\n+1<=x+y)
  (Q:=λc bC=>(∃g,bC=dz st g)/\∃R,c.1=some R/\Good r a b R) ?step ?fin ⟨⟨gallopOf st,rfl⟩,_,_,_,_,rfl,by lia,by lia,M0,by lia⟩) ?post)
 case post=>
  intro Sq bC gY
  refine hide λgG hG=>?_
  obtain⟨c1,c⟩:=Sq
  obtain⟨⟨g,rfl⟩,R,rfl,hR⟩:=gY
  refine hG ?_
  exact aG (h R g hR)
 case fin=>
  intro c bC gY
  refine hide λgG hG=>?_
  obtain⟨_,o,x,y,mg,rfl,hx,hy,M,hn⟩:=gY
  refine hG ?_
  lia
 case step=>
  clear aAj RV M0 h
  intro n c bC _ hn xE
  refine hide λgG hG=>?_
  obtain⟨⟨g,rfl⟩,o,x,y,mg,rfl,hx,hy,M,IK⟩:=xE
  refine hG ?_
  try dsimp only
  refine aD (eI (fB (I:=λn1 d bC=>(∃g,bC=dz st g)/\∃o' x' y' p q,d=(none,o',x',y',p,q)/\x'+1<a.size/\y'<b.size/\CV r a b o' x' y'/\x+y+n1<=x'+y')
   (Q:=λd bC=>(∃g,bC=dz st g)/\match d.1 with | some R=>Good r a b R | none=>d.2.2.1+1<a.size/\d.2.2.2.1<b.size/\CV r a b d.2.1 d.2.2.1 d.2.2.2.1/\n+2<=d.2.2.1+d.2.2.2.1) ?step1 ?fin1 ⟨⟨g,rfl⟩,o,x,y,0,0,rfl,hx,hy,M,by lia⟩) ?post1)
  case fin1=>
   intro d bC gY
   refine hide λgG hG=>?_
   obtain⟨hg,o',x',y',p,q,rfl,vX,BZ,M',zB⟩:=gY
   refine hG ?_
   exact⟨hg,vX,BZ,M',by simp only;lia⟩
  case step1=>
   clear hx hy M hn
   intro n1 d bC _ v3 xE
   refine hide λgG hG=>?_
   obtain⟨⟨g,rfl⟩,o,x,y,p,q,rfl,hx,hy,M,zB⟩:=xE
   refine hG ?_
   try dsimp only
   refine aD (dq hy ?_)
   refine aD (dq (by lia) ?_)
   refine aD (Qc C (hb _ (iZ _)) (ha _ (iZ _)) hk ?_)
   try dsimp only
   by_cases hc:r b[y]<r a[x]
   ·rw[ay (by simpa using hc)]
    refine aD (dq hy ?_)
    try dsimp only
    have MB:=MI.y9 M hy λi hi h2=>by
     have:=ic sa hi h2
     lia
    refine aJ (λhz=>?_) (λhz=>?_)
    ·exact aG ⟨⟨_,rfl⟩,MB.fin (.inl (by simpa using hz))⟩
    have Nj:y+1≠b.size:=by simpa using hz
    refine aJ (λhz=>?_) (λhz=>?_)
    ·exact aG ⟨⟨_,rfl⟩,hx,(by simp only;lia),MB,by simp only;lia⟩
    ·exact aG ⟨⟨_,rfl⟩,_,_,_,_,_,rfl,hx,by lia,MB,by lia⟩
   ·rw[aE (by simpa using hc)]
    refine aD (dq (by lia) ?_)
    try dsimp only
    have MB:=MI.za M (by lia) λi hi h2=>by
     have:=ic sb hi h2
     lia
    refine aJ (λhz=>?_) (λhz=>?_)
    ·exact aG ⟨⟨_,rfl⟩,MB.Wf (by simpa using hz) hl⟩
    have Nj:x+1+1≠a.size:=by simpa using hz
    refine aJ (λhz=>?_) (λhz=>?_)
    ·exact aG ⟨⟨_,rfl⟩,(by simp only;lia),hy,MB,by simp only;lia⟩
    ·exact aG ⟨⟨_,rfl⟩,_,_,_,_,_,rfl,by lia,hy,MB,by lia⟩
  case post1=>
   intro Sq bC gY
   refine hide λgG hG=>?_
   obtain⟨d1,o1,x1,y1,p1,q1⟩:=Sq
   obtain⟨⟨g,rfl⟩,hd⟩:=gY
   refine hG ?_
   dsimp only at hd ⊢
   cases d1 with
   | some R=>exact aG ⟨⟨_,rfl⟩,R,rfl,hd⟩
   | none=>
    refine hide λgG hG=>?_
    obtain⟨Ca,RX,M1,v3⟩:=hd
    refine hG ?_
    clear hx hy M IK hn
    try dsimp only
    refine aD (nM (jj ⟨rfl,?_⟩))
    refine aD (eI (fB (I:=λ_ e bC=>(∃g,bC=dz st g)/\∃o' x' y' m' p q,e=(none,o',x',y',m',p,q)/\x'+1<a.size/\y'<b.size/\CV r a b o' x' y'/\n+2<=x'+y')
     (Q:=λe bC=>(∃g,bC=dz st g)/\match e.1 with | some R=>Good r a b R | none=>e.2.2.1+1<a.size/\e.2.2.2.1<b.size/\CV r a b e.2.1 e.2.2.1 e.2.2.2.1/\n+2<=e.2.2.1+e.2.2.2.1) ?step2 ?fin2 ⟨⟨_,rfl⟩,_,_,_,_,_,_,rfl,Ca,RX,M1,v3⟩) ?post2)
    case fin2=>
     intro e bC gY
     refine hide λgG hG=>?_
     obtain⟨hg,o',x',y',m',p,q,rfl,vX,BZ,M',zB⟩:=gY
     refine hG ?_
     exact⟨hg,vX,BZ,M',zB⟩
    case post2=>
     intro Sq bC gY
     refine hide λgG hG=>?_
     obtain⟨e1,o2,x2,y2,m2,p2,q2⟩:=Sq
     obtain⟨⟨g,rfl⟩,he⟩:=gY
     refine hG ?_
     dsimp only at he ⊢
     cases e1 with
     | some R=>exact aG ⟨⟨_,rfl⟩,R,rfl,he⟩
     | none=>
      refine hide λgG hG=>?_
      obtain⟨Oh,XF,M2,Oj⟩:=he
      refine hG ?_
      refine aD (hX (aG ⟨⟨_,rfl⟩,_,_,_,_,rfl,Oh,XF,M2,by lia⟩))
    case step2=>
     clear Ca RX M1 v3
     intro n2 e bC _ Oj xE
     refine hide λgG hG=>?_
     obtain⟨⟨g,rfl⟩,o,x,y,m',p,q,rfl,hx,hy,M,zB⟩:=xE
     refine hG ?_
     try dsimp only
     refine' share (P:=_) (λH=>aJ (λhm=>?A) (λhm=>?B)) ?_
     case A=>generalize m'-1=gg;revert gg;exact H
     case B=>clear hm;generalize m'=gg;revert gg;exact H
     intro gg
     try dsimp only
     refine aD (hX ?_)
     refine aD (dq hy ?_)
     refine aD (y4 C (by lia) (by lia) ha (hb _ (iZ _)) hk (λi j h1 h2 _=>ic sa (by lia) h2) λk l1 l2 l3=>?_)
     try dsimp only
     replace l1:x+k<=a.size:=by lia
     have RK:∀i,i<k->∀(h2:x+i<a.size),r a[x+i]<=r b[y]:=λi hi h2=>by simpa [isA]using l2 i hi h2
     have Xy:∀i,k<=i->∀(h2:x+i<a.size),r b[y]<r a[x+i]:=λi hi h2=>by have:=l3 i hi (by lia) h2;simpa [isA]using this
     clear l2 l3
     refine' Be (R:=λo' x'=>x'=x+k/\x'+1<a.size/\CV r a b o' x' y) (P:=_) (λH=>aJ (λhz=>?A) (λhz=>?B)) ?_
     case A=>
      have MA:=MI.Rz (k:=k) M λi hi h2 j hj Wu=>by
       have e1:=RK i hi h2
       have e2:=ic sb hj Wu
       lia
      refine aJ (λhz=>?_) (λhz=>?_)
      ·exact aG ⟨⟨_,rfl⟩,MA.Wf (by simpa using hz) hl⟩
      have hz0:x+k+1≠a.size:=by simpa using hz
      refine aJ (λhz=>?_) (λhz=>?_)
      ·exact aG ⟨⟨_,rfl⟩,MA.fin (.inr (by simpa using hz))⟩
      have XD:x+k≠a.size:=by simpa using hz
      have e1:x+k+1<a.size:=by lia
      obtain⟨x',vX⟩:∃x',x'=x+k:=⟨_,rfl⟩
      rw[<-vX]at MA e1 ⊢
      generalize o++a.extract x x'=o' at MA ⊢
      exact H o' x' ⟨vX,e1,MA⟩
     case B=>exact H o x ⟨by lia,hx,M⟩
     rintro o x' ⟨vX,Ca,MA⟩
     clear RK
     refine aD (dq hy ?_)
     try dsimp only
     have MB:=MI.y9 MA hy (λi hi h2=>by
        have:=Xy (i-x) (by lia) (by lia)
        have e:x+(i-x)=i:=by lia
        simp only[e]at this
        lia)
     clear Xy MA M l1 hx
     refine aJ (λhz=>?_) (λhz=>?_)
     ·exact aG ⟨⟨_,rfl⟩,MB.fin (.inl (by simpa using hz))⟩
     have yt:y+1≠b.size:=by simpa using hz
     have XF:y+1<b.size:=by lia
     clear yt hz
     refine aD (dq (by lia) ?_)
     refine aD (y4 C (by lia) (by lia) hb (ha _ (iZ _)) hk (λi j h1 h2 _=>ic sb (by lia) h2) λk2 l1 l2 l3=>?_)
     try dsimp only
     replace l1:y+1+k2<=b.size:=by lia
     have RK:∀i,i<k2->∀(h2:y+1+i<b.size),r b[y+1+i]<r (a[x']'(by lia)):=λi hi h2=>by simpa [isA]using l2 i hi h2
     have Xy:∀i,k2<=i->∀(h2:y+1+i<b.size),r (a[x']'(by lia))<=r b[y+1+i]:=λi hi h2=>by have:=l3 i hi (by lia) h2;simpa [isA]using this
     clear l2 l3
     refine' Be (R:=λo' y'=>y'=y+1+k2/\y'<b.size/\CV r a b o' x' y') (P:=_) (λH=>aJ (λhz=>?A) (λhz=>?B)) ?_
     case A=>
      have MC:=MI.Ry (k:=k2) MB λi hi h2 j hj Wu=>by
       have e1:=RK i hi h2
       have e2:=ic sa hj Wu
       lia
      refine aJ (λhz=>?_) (λhz=>?_)
      ·exact aG ⟨⟨_,rfl⟩,MC.fin (.inl (by simpa using hz))⟩
      have hz4:y+1+k2≠b.size:=by simpa using hz
      have e1:y+1+k2<b.size:=by lia
      obtain⟨y',BZ⟩:∃y',y'=y+1+k2:=⟨_,rfl⟩
      rw[<-BZ]at MC e1 ⊢
      generalize _++b.extract (y+1) y'=o' at MC ⊢
      exact H o' y' ⟨BZ,e1,MC⟩
     case B=>exact H _ (y+1) ⟨by lia,XF,MB⟩
     rintro o' y' ⟨BZ,RX,MC⟩
     clear RK MB
     have MZ:=MI.za MC (by lia) λi hi h2=>by
      have:=Xy (i-(y+1)) (by lia) (by lia)
      simpa [show y+1+(i-(y+1))=i by lia]using this
     clear Xy MC l1 XF
     refine aD (dq (by lia) ?_)
     try dsimp only
     refine aJ (λhz=>?_) (λhz=>?_)
     ·exact aG ⟨⟨_,rfl⟩,(MZ.Wf (by simpa using hz) hl)⟩
     ·have Nj:x'+1+1≠a.size:=by simpa using hz
      have e1:x'+1+1<a.size:=by lia
      have e2:n+2<=x'+1+y':=by lia
      refine aJ (λhz=>?_) (λhz=>?_)
      ·exact aG ⟨⟨_,rfl⟩,e1,RX,MZ,e2⟩
      ·exact aG ⟨⟨_,rfl⟩,_,_,_,_,_,_,rfl,e1,RX,MZ,e2⟩
end
structure MH(r:Keyed->Int)(tot ra rb o:List Keyed):Prop where
 perm:(ra++rb++o).Perm tot
 so:jZ r o
 sa:jZ r ra
 sb:jZ r rb
 la:∀u∈ra,∀v∈o,r u<=r v
 lb:∀u∈rb,∀v∈o,r u<=r v
section
variable {r:Keyed->Int}{tot o ra rb p:List Keyed}
theorem MH.yT(h:MH r tot ra (rb++p) o)(hp:∀u∈p,∀v∈ra,r v<=r u):MH r tot ra rb (p++o):=by
 have sb:=g9.mp h.sb
 refine⟨by simpa [jE]using h.perm,g9.mpr ⟨sb.2.1,h.so,λu hu v hv=>h.lb u (gS _ hu) v hv⟩,h.sa,sb.1,λu hu v hv=>?_,λu hu v hv=>?_⟩
 ·rcases cw.mp hv with hv | hv
  ·exact hp v hv u hu
  ·exact h.la u hu v hv
 ·rcases cw.mp hv with hv | hv
  ·exact sb.2.2 u hu v hv
  ·exact h.lb u (uT _ hu) v hv
theorem MH.yU(h:MH r tot (ra++p) rb o)(hp:∀u∈p,∀v∈rb,r v<=r u):MH r tot ra rb (p++o):=by
 have sa:=g9.mp h.sa
 refine⟨?_,g9.mpr ⟨sa.2.1,h.so,λu hu v hv=>h.la u (gS _ hu) v hv⟩,sa.1,h.sb,λu hu v hv=>?_,λu hu v hv=>?_⟩
 ·refine List.Perm.trans ?_ h.perm
  rw[<-jE]
  refine GL o ?_
  rw[jE,jE]
  exact Gz ra List.perm_append_comm
 ·rcases cw.mp hv with hv | hv
  ·exact sa.2.2 u hu v hv
  ·exact h.la u (uT _ hu) v hv
 ·rcases cw.mp hv with hv | hv
  ·exact hp v hv u hu
  ·exact h.lb u hu v hv
theorem MH.WX(h:MH r tot ra [] o):(ra++o).Perm tot/\jZ r (ra++o):=⟨by simpa using h.perm,g9.mpr ⟨h.sa,h.so,h.la⟩⟩
theorem MH.WW(h:MH r tot [] rb o):(rb++o).Perm tot/\jZ r (rb++o):=⟨by simpa using h.perm,g9.mpr ⟨h.sb,h.so,h.lb⟩⟩
theorem MH.aEX{z:Keyed}(h:MH r tot ra [z] o)(hz:∀v∈ra,r z<=r v):([z]++ra++o).Perm tot/\jZ r ([z]++ra++o):=by
 have h':=(MH.yU (p:=ra) (ra:=[]) (by simpa using h) λu hu v hv=>by rw[cG.mp hv];exact hz u hu).WW
 rw[jE];exact h'
end
section
variable {r:Keyed->Int}{a b o:Array Keyed}{x y e:Nat}
abbrev CW(r:Keyed->Int)(a b o:Array Keyed)(x y:Nat):Prop:=MH r (tot a b) (a.toList.take x) (b.toList.take y) o.toList.reverse
theorem KJ(a:Array Keyed)(x:Nat):(a.extract 0 x).toList=a.toList.take x:=by
 rw[jc,List.drop_zero,Nat.sub_zero]
theorem wQ(l:List Keyed){x e:Nat}(h:e<=x):l.take x=l.take e++(l.drop e).take (x-e):=by
 have:=(wK e (l.take x)).symm
 rw[List.take_take,Nat.min_eq_left h,List.drop_take]at this
 exact this
theorem take_one(a:Array Keyed){x:Nat}(h:x<a.size):a.toList.take (x+1)=a.toList.take x++[a[x]]:=by
 rw[gR,bq (by simpa using h)];simp
theorem BK{a:Array Keyed}{x:Nat}{v:Keyed}(h:v∈a.toList.take x):∃i,∃(hi:i<a.size),i<x/\v=a[i]:=by
 have h':v∈(a.toList.drop 0).take x:=by simpa using h
 refine hide λgG hG=>?_
 obtain⟨i,hi,hx,e⟩:=jb h'
 refine hG ?_
 exact⟨i,by lia,hx,by rw[e];simp⟩
theorem MH.y9(h:CW r a b o x (y+1))(hy:y<b.size)(hx:∀i,i<x->∀(hi:i<a.size),r a[i]<=r b[y]):CW r a b (o.push b[y]) x y:=by
 have h':MH r (tot a b) (a.toList.take x) (b.toList.take y++[b[y]]) o.toList.reverse:=by rw[<-take_one b hy];exact h
 have:=h'.yT λu hu v hv=>by
  refine hide λgG hG=>?_
  obtain⟨i,hi,hk,rfl⟩:=BK hv
  refine hG ?_
  rw[cG.mp hu]
  exact hx _ hk hi
 show MH r (tot a b) _ _ (o.push b[y]).toList.reverse
 rw[nQ,Ai];exact this
theorem MH.za(h:CW r a b o (x+1) y)(hx:x<a.size)(hy:∀i,i<y->∀(hi:i<b.size),r b[i]<=r a[x]):CW r a b (o.push a[x]) x y:=by
 have h':MH r (tot a b) (a.toList.take x++[a[x]]) (b.toList.take y) o.toList.reverse:=by rw[<-take_one a hx];exact h
 have:=h'.yU λu hu v hv=>by
  refine hide λgG hG=>?_
  obtain⟨i,hi,hk,rfl⟩:=BK hv
  refine hG ?_
  rw[cG.mp hu]
  exact hy _ hk hi
 show MH r (tot a b) _ _ (o.push a[x]).toList.reverse
 rw[nQ,Ai];exact this
theorem MH.Rz(h:CW r a b o x y)(he:e<=x)(hp:∀i,e<=i->i<x->∀(hi:i<a.size) j,j<y->∀(hj:j<b.size),r b[j]<=r a[i]):CW r a b (o++(a.extract e x).reverse) e y:=by
 have h':MH r (tot a b) (a.toList.take e++(a.toList.drop e).take (x-e)) (b.toList.take y) o.toList.reverse:=by rw[<-wQ _ he];exact h
 have:=h'.yU λu hu v hv=>by
  refine hide λgG hG=>?_
  obtain⟨i,hi,hk,rfl⟩:=jb hu
  obtain⟨j,hj,Wu,rfl⟩:=BK hv
  refine hG ?_
  exact hp (e+i) (by lia) (by lia) hi _ Wu hj
 show MH r (tot a b) _ _ (o++(a.extract e x).reverse).toList.reverse
 rw[j5,Aj,Ai,List.reverse_reverse,jc]
 exact this
theorem MH.Ry(h:CW r a b o x y)(he:e<=y)(hp:∀i,e<=i->i<y->∀(hi:i<b.size) j,j<x->∀(hj:j<a.size),r a[j]<=r b[i]):CW r a b (o++(b.extract e y).reverse) x e:=by
 have h':MH r (tot a b) (a.toList.take x) (b.toList.take e++(b.toList.drop e).take (y-e)) o.toList.reverse:=by rw[<-wQ _ he];exact h
 have:=h'.yT λu hu v hv=>by
  refine hide λgG hG=>?_
  obtain⟨i,hi,hk,rfl⟩:=jb hu
  obtain⟨j,hj,Wu,rfl⟩:=BK hv
  refine hG ?_
  exact hp (e+i) (by lia) (by lia) hi _ Wu hj
 show MH r (tot a b) _ _ (o++(b.extract e y).reverse).toList.reverse
 rw[j5,Aj,Ai,List.reverse_reverse,jc]
 exact this
theorem MH.fin(h:CW r a b o x y)(e:x=0\/y=0):Good r a b (a.extract 0 x++b.extract 0 y++o.reverse):=by
 unfold Good
 rw[j5,j5,Aj,KJ,KJ]
 rcases e with e | e
 ·subst e
  exact MH.WW h
 ·subst e
  rw[List.take_zero,gj]
  exact MH.WX h
theorem MH.fst(h:CW r a b o x y)(e:y=1)(nb:0<b.size)(h0:∀v∈a,r b[0]<=r v):Good r a b (b.extract 0 y++a.extract 0 x++o.reverse):=by
 unfold Good
 rw[j5,j5,Aj,KJ,KJ]
 subst e
 have z:b.toList.take 1=[b[0]]:=by rw[take_one b nb];rfl
 have h':MH r (tot a b) (a.toList.take x) [b[0]] o.toList.reverse:=by rw[<-z];exact h
 rw[z]
 exact h'.aEX λv hv=>h0 v (by simpa using Gw hv)
end
section
variable {prog:Program}{w:World}{A:Around}{E:Value->Shared->Prop}{s:Shared}{κ:SortKind}{r:Keyed->Int}{U:Keyed->Prop}
theorem aA5(C:Cmp prog w A s κ r U){a b:Array Keyed}{Q:Array Keyed->SortSt->Prop}{st:SortSt}(hk:kindOf st=κ)(ha:∀z∈a,U z)(hb:∀z∈b,U z)(sa:jZ r a.toList)(sb:jZ r b.toList)(na:0<a.size)(nb:0<b.size)
  (h0:∀v∈a,r b[0]<=r v) (hl:∀v∈b,r v<=r (a[a.size-1]'(by lia))) (h:∀R g,Good r a b R->Q R (dz st g)):wpS (model prog w) A E s (mHi a b) Q st:=by
 rw[Z6]
 refine aD (nM (jj ⟨rfl,?_⟩))
 refine aD (dq (by lia) ?_)
 try dsimp only
 obtain⟨na',hna⟩:∃na',a.size=na'+1:=⟨a.size-1,by lia⟩
 have M0:CW r a b #[a[a.size-1]'(by lia)] (a.size-1) b.size:=by
  refine MH.za (o:=#[]) (x:=a.size-1) (y:=b.size) ⟨?_,List.Pairwise.nil,?_,?_,by simp,by simp⟩ (by lia) λi hi pQ=>hl _ (iZ _)
  ·rw[show a.size-1+1=a.size by lia,t6 (by simp),t6 (by simp)];simp
  ·rw[show a.size-1+1=a.size by lia,t6 (by simp)];exact sa
  ·rw[t6 (by simp)];exact sb
 refine aJ (λhz=>?_) (λXD=>?_)
 ·exact aG (h _ (gallopOf st) (M0.fin (.inl (by simpa using hz))))
 refine aJ (λhz=>?_) (λyt=>?_)
 ·exact aG (h _ (gallopOf st) (M0.fst (by simpa using hz) nb h0))
 have aAj:a.size-1≠0:=by simpa using XD
 have RV:b.size≠1:=by simpa using yt
 clear XD yt
 refine aD (ji ?_)
 refine aD (eI (fB (a:=0) (I:=λn c bC=>(∃g,bC=dz st g)/\∃o x y mg,c=(none,x,y,o,mg)/\0<x/\x<=a.size/\1<y/\y<=b.size/\CW r a b o x y/\x+y+n+1<=a.size+b.size)
  (Q:=λc bC=>(∃g,bC=dz st g)/\∃R,c.1=some R/\Good r a b R) ?step ?fin ⟨⟨gallopOf st,rfl⟩,_,a.size-1,b.size,gallopOf st,rfl,by lia,by lia,by lia,by lia,M0,by lia⟩) ?post)
 case post=>
  intro Sq bC gY
  refine hide λgG hG=>?_
  obtain⟨c1,c⟩:=Sq
  obtain⟨⟨g,rfl⟩,R,rfl,hR⟩:=gY
  refine hG ?_
  exact aG (h R g hR)
 case fin=>
  intro c bC gY
  refine hide λgG hG=>?_
  obtain⟨_,o,x,y,mg,rfl,hx,Kq,hy,XH,M,hn⟩:=gY
  refine hG ?_
  lia
 case step=>
  clear aAj RV M0 h hna
  intro n c bC _ hn xE
  refine hide λgG hG=>?_
  obtain⟨⟨g,rfl⟩,o,x,y,mg,rfl,hx,Kq,hy,XH,M,IK⟩:=xE
  refine hG ?_
  try dsimp only
  refine aD (eI (fB (a:=0) (I:=λn1 d bC=>(∃g,bC=dz st g)/\∃o' x' y' p q,d=(none,x',y',o',p,q)/\0<x'/\x'<=a.size/\1<y'/\y'<=b.size/\CW r a b o' x' y'/\x'+y'+n1<=x+y)
   (Q:=λd bC=>(∃g,bC=dz st g)/\match d.1 with | some R=>Good r a b R | none=>0<d.2.1/\d.2.1<=a.size/\1<d.2.2.1/\d.2.2.1<=b.size/\CW r a b d.2.2.2.1 d.2.1 d.2.2.1/\d.2.1+d.2.2.1+n+2<=a.size+b.size) ?step1 ?fin1 ⟨⟨g,rfl⟩,o,x,y,0,0,rfl,hx,Kq,hy,XH,M,by lia⟩) ?post1)
  case fin1=>
   intro d bC gY
   refine hide λgG hG=>?_
   obtain⟨hg,o',x',y',p,q,rfl,vX,aAl,BZ,aAk,M',zB⟩:=gY
   refine hG ?_
   exact⟨hg,vX,aAl,BZ,aAk,M',by simp only;lia⟩
  case step1=>
   clear hx Kq hy XH M hn
   intro n1 d bC _ v3 xE
   refine hide λgG hG=>?_
   obtain⟨⟨g,rfl⟩,o,x,y,p,q,rfl,hx,Kq,hy,XH,M,zB⟩:=xE
   refine hG ?_
   try dsimp only
   refine hide λgG hG=>?_
   obtain⟨x,rfl⟩:∃x1,x=x1+1:=⟨x-1,by lia⟩
   obtain⟨y,rfl⟩:∃y1,y=y1+1:=⟨y-1,by lia⟩
   refine hG ?_
   simp only[Ae]
   refine aD (dq (by lia) ?_)
   refine aD (dq (by lia) ?_)
   refine aD (Qc C (hb _ (iZ _)) (ha _ (iZ _)) hk ?_)
   try dsimp only
   by_cases hc:r b[y]<r a[x]
   ·rw[ay (by simpa using hc)]
    refine aD (dq (by lia) ?_)
    try dsimp only
    have MB:=MH.za M (by lia) λi hi h2=>by
     have:=ic sb (show i<=y by lia) (by lia)
     lia
    refine aJ (λhz=>?_) (λhz=>?_)
    ·exact aG ⟨⟨_,rfl⟩,MB.fin (.inl (by simpa using hz))⟩
    have Nj:x≠0:=by simpa using hz
    refine aJ (λhz=>?_) (λhz=>?_)
    ·exact aG ⟨⟨_,rfl⟩,(by simp only;lia),(by simp only;lia),hy,XH,MB,by simp only;lia⟩
    ·exact aG ⟨⟨_,rfl⟩,_,_,_,_,_,rfl,by lia,by lia,hy,XH,MB,by lia⟩
   ·rw[aE (by simpa using hc)]
    refine aD (dq (by lia) ?_)
    try dsimp only
    have MB:=MH.y9 M (by lia) λi hi h2=>by
     have:=ic sa (show i<=x by lia) (by lia)
     lia
    refine aJ (λhz=>?_) (λhz=>?_)
    ·exact aG ⟨⟨_,rfl⟩,MB.fst (by simpa using hz) nb h0⟩
    have Nj:y≠1:=by simpa using hz
    refine aJ (λhz=>?_) (λhz=>?_)
    ·exact aG ⟨⟨_,rfl⟩,hx,Kq,(by simp only;lia),(by simp only;lia),MB,by simp only;lia⟩
    ·exact aG ⟨⟨_,rfl⟩,_,_,_,_,_,rfl,hx,Kq,by lia,by lia,MB,by lia⟩
  case post1=>
   intro Sq bC gY
   refine hide λgG hG=>?_
   obtain⟨d1,x1,y1,o1,p1,q1⟩:=Sq
   obtain⟨⟨g,rfl⟩,hd⟩:=gY
   refine hG ?_
   dsimp only at hd ⊢
   cases d1 with
   | some R=>exact aG ⟨⟨_,rfl⟩,R,rfl,hd⟩
   | none=>
    refine hide λgG hG=>?_
    obtain⟨Ca,aBz,RX,aBy,M1,v3⟩:=hd
    refine hG ?_
    clear hx Kq hy XH M IK hn
    try dsimp only
    refine aD (nM (jj ⟨rfl,?_⟩))
    refine aD (eI (fB (I:=λ_ e bC=>(∃g,bC=dz st g)/\∃o' x' y' m' p q,e=(none,x',y',o',m',p,q)/\0<x'/\x'<=a.size/\1<y'/\y'<=b.size/\CW r a b o' x' y'/\x'+y'+n+2<=a.size+b.size)
     (Q:=λe bC=>(∃g,bC=dz st g)/\match e.1 with | some R=>Good r a b R | none=>0<e.2.1/\e.2.1<=a.size/\1<e.2.2.1/\e.2.2.1<=b.size/\CW r a b e.2.2.2.1 e.2.1 e.2.2.1/\e.2.1+e.2.2.1+n+2<=a.size+b.size) ?step2 ?fin2 ⟨⟨_,rfl⟩,_,_,_,_,_,_,rfl,Ca,aBz,RX,aBy,M1,v3⟩) ?post2)
    case fin2=>
     intro e bC gY
     refine hide λgG hG=>?_
     obtain⟨hg,o',x',y',m',p,q,rfl,vX,aAl,BZ,aAk,M',zB⟩:=gY
     refine hG ?_
     exact⟨hg,vX,aAl,BZ,aAk,M',zB⟩
    case post2=>
     intro Sq bC gY
     refine hide λgG hG=>?_
     obtain⟨e1,x2,y2,o2,m2,p2,q2⟩:=Sq
     obtain⟨⟨g,rfl⟩,he⟩:=gY
     refine hG ?_
     dsimp only at he ⊢
     cases e1 with
     | some R=>exact aG ⟨⟨_,rfl⟩,R,rfl,he⟩
     | none=>
      refine hide λgG hG=>?_
      obtain⟨Oh,aEs,XF,aEr,M2,Oj⟩:=he
      refine hG ?_
      refine aD (hX (aG ⟨⟨_,rfl⟩,_,_,_,_,rfl,Oh,aEs,XF,aEr,M2,by lia⟩))
    case step2=>
     clear Ca aBz RX aBy M1 v3
     intro n2 e bC _ Oj xE
     refine hide λgG hG=>?_
     obtain⟨⟨g,rfl⟩,o,x,y,m',p,q,rfl,hx,Kq,hy,XH,M,zB⟩:=xE
     refine hG ?_
     try dsimp only
     refine' share (P:=_) (λH=>aJ (λhm=>?A) (λhm=>?B)) ?_
     case A=>generalize m'-1=gg;revert gg;exact H
     case B=>clear hm;generalize m'=gg;revert gg;exact H
     intro gg
     obtain⟨y,rfl⟩:∃y1,y=y1+1:=⟨y-1,by lia⟩
     simp only[Ae]
     refine aD (hX ?_)
     refine aD (dq (by lia) ?_)
     refine aD (y4 C (by lia) (by lia) ha (hb _ (iZ _)) hk (λi j h1 h2 _=>ic sa (by lia) h2) λe l1 l2 l3=>?_)
     try dsimp only
     have RK:∀i,i<e->∀(h2:i<a.size),r a[i]<=r (b[y]'(by lia)):=λi hi h2=>by simpa [isA]using l2 i hi (by lia)
     have Xy:∀i,e<=i->i<x->∀(h2:i<a.size),r (b[y]'(by lia))<r a[i]:=λi hi pQ h2=>by have:=l3 i hi pQ (by lia);simpa [isA]using this
     clear l2 l3
     generalize aEL:x-e=cnt
     refine' Be (R:=λo' x'=>x'=e/\0<x'/\CW r a b o' x' (y+1)) (P:=_) (λH=>aJ (λhz=>?A) (λhz=>?B)) ?_
     case A=>
      have MA:=MH.Rz (e:=e) M l1 λi hi pQ h2 j hj Wu=>by
       have e1:=Xy i hi pQ h2
       have e2:=ic sb (show j<=y by lia) (by lia)
       lia
      refine aJ (λhz=>?_) (λhz=>?_)
      ·exact aG ⟨⟨_,rfl⟩,MA.fin (.inl (by simpa using hz))⟩
      have hz0:e≠0:=by simpa using hz
      have e1:0<e:=by lia
      obtain⟨x',vX⟩:∃x',x'=e:=⟨_,rfl⟩
      rw[<-vX]at MA e1 ⊢
      generalize o++(a.extract x' x).reverse=o' at MA ⊢
      exact H o' x' ⟨vX,e1,MA⟩
     case B=>exact H o x ⟨by lia,hx,M⟩
     rintro o x' ⟨vX,Ca,MA⟩
     obtain⟨x',rfl⟩:∃x1,x'=x1+1:=⟨x'-1,by lia⟩
     simp only[Ae]
     have MB:=MH.y9 (y:=y) MA (by lia) λi hi h2=>RK i (by lia) h2
     clear RK Xy MA M
     refine aD (dq (by lia) ?_)
     try dsimp only
     refine aJ (λhz=>?_) (λhz=>?_)
     ·exact aG ⟨⟨_,rfl⟩,MB.fst (by simpa using hz) nb h0⟩
     have yt:y≠1:=by simpa using hz
     have XF:1<y:=by lia
     have hxa:x'+1<=a.size:=by lia
     have hnn:x'+1+(y+1)+n+2<=a.size+b.size:=by lia
     clear yt hz aEL vX zB Kq hx l1
     refine aD (dq (by lia) ?_)
     refine aD (y4 C (by lia) (by lia) hb (ha _ (iZ _)) hk (λi j h1 h2 _=>ic sb (by lia) h2) λf l1 m2 m3=>?_)
     try dsimp only
     have m2':∀i,i<f->∀(h2:i<b.size),r b[i]<r (a[x']'(by lia)):=λi hi h2=>by simpa [isA]using m2 i hi (by lia)
     have m3':∀i,f<=i->i<y->∀(h2:i<b.size),r (a[x']'(by lia))<=r b[i]:=λi hi pQ h2=>by have:=m3 i hi pQ (by lia);simpa [isA]using this
     clear m2 m3
     generalize aFZ:y-f=aGd
     refine' Be (R:=λo' y'=>y'=f/\1<y'/\CW r a b o' (x'+1) y') (P:=_) (λH=>aJ (λhz=>?A) (λhz=>?B)) ?_
     case A=>
      have MC:=MH.Ry (e:=f) MB (by lia) λi hi pQ h2 j hj Wu=>by
       have e1:=m3' i hi pQ h2
       have e2:=ic sa (show j<=x' by lia) (by lia)
       lia
      refine aJ (λhz=>?_) (λhz=>?_)
      ·exact aG ⟨⟨_,rfl⟩,MC.fst (by simpa using hz) nb h0⟩
      have hz4:f≠1:=by simpa using hz
      refine aJ (λhz=>?_) (λhz=>?_)
      ·exact aG ⟨⟨_,rfl⟩,MC.fin (.inr (by simpa using hz))⟩
      have hz5:f≠0:=by simpa using hz
      have e1:1<f:=by lia
      obtain⟨y',BZ⟩:∃y',y'=f:=⟨_,rfl⟩
      rw[<-BZ]at MC e1 ⊢
      generalize _++(b.extract y' y).reverse=o' at MC ⊢
      exact H o' y' ⟨BZ,e1,MC⟩
     case B=>exact H _ y ⟨by lia,XF,MB⟩
     rintro o' y' ⟨BZ,RX,MC⟩
     have MZ:=MH.za (x:=x') MC (by lia) λi hi h2=>(by have:=m2' i (by lia) h2;lia)
     clear m2' m3' MB MC
     refine aD (dq (by lia) ?_)
     try dsimp only
     refine aJ (λhz=>?_) (λhz=>?_)
     ·exact aG ⟨⟨_,rfl⟩,MZ.fin (.inl (by simpa using hz))⟩
     ·have Nj:x'≠0:=by simpa using hz
      have e1:0<x':=by lia
      have e2:x'<=a.size:=by lia
      have e3:y'<=b.size:=by lia
      have e4:x'+y'+n+2<=a.size+b.size:=by lia
      refine aJ (λhz=>?_) (λhz=>?_)
      ·exact aG ⟨⟨_,rfl⟩,e1,e2,RX,e3,MZ,e4⟩
      ·exact aG ⟨⟨_,rfl⟩,_,_,_,_,_,_,rfl,e1,e2,RX,e3,MZ,e4⟩
end
section
variable {prog:Program}{w:World}{A:Around}{E:Value->Shared->Prop}{s:Shared}{κ:SortKind}{r:Keyed->Int}{a₀:Array Keyed}
def Rk(r:Keyed->Int)(xs:Array Keyed)(i:Nat):Int:=match xs[i]? with
 | some p=>r p
 | none=>0
theorem Rk.eq{xs:Array Keyed}{i:Nat}(h:i<xs.size):Rk r xs i=r xs[i]:=by unfold Rk;rw[dG h]
theorem Rk.congr{xs ys:Array Keyed}{i j:Nat}(h:xs[i]?=ys[j]?):Rk r xs i=Rk r ys j:=by unfold Rk;rw[h]
def Sg(r:Keyed->Int)(xs:Array Keyed)(lo hi:Nat):Prop:=∀i j,lo<=i->i<=j->j<hi->Rk r xs i<=Rk r xs j
def Dg(r:Keyed->Int)(xs:Array Keyed)(lo hi:Nat):Prop:=∀i j,lo<=i->i<=j->j<hi->Rk r xs j<=Rk r xs i
structure SB(a₀:Array Keyed)(κ:SortKind)(st:SortSt):Prop where
 perm:(arrOf st).Perm a₀
 kind:kindOf st=κ
 ok:failedOf st=none
theorem SB.size{st:SortSt}(h:SB a₀ κ st):(arrOf st).size=a₀.size:=h.perm.size_eq
theorem SB.put{st:SortSt}(h:SB a₀ κ st){xs:Array Keyed}(hp:xs.Perm (arrOf st)):SB a₀ κ (setArr st xs):=⟨hp.trans h.perm,h.kind,h.ok⟩
theorem SB.mem{st:SortSt}(h:SB a₀ κ st){z:Keyed}(hz:z∈arrOf st):z∈a₀:=h.perm.mem_iff.mp hz
abbrev Od(prog:Program)(w:World)(A:Around)(s:Shared)(κ:SortKind)(r:Keyed->Int)(a₀:Array Keyed):Prop:=Cmp prog w A s κ r (·∈a₀)
theorem jK(C:Od prog w A s κ r a₀){st:SortSt}{i j:Nat}{Q:Option Bool->SortSt->Prop}(B:SB a₀ κ st)(hi:i<a₀.size)(hj:j<a₀.size)(h:Q (some (decide (Rk r (arrOf st) i<Rk r (arrOf st) j))) st):wpS (model prog w) A E s (ltAt' i j) Q st:=by
 have Kv:i<(arrOf st).size:=by rw[B.size];exact hi
 have x8:j<(arrOf st).size:=by rw[B.size];exact hj
 rw[Rk.eq Kv,Rk.eq x8]at h
 rw[ltAt'_eq]
 refine aD (ji ?_)
 refine aD (dq Kv (aD (dq x8 (Qc C (B.mem (iZ _)) (B.mem (iZ _)) B.kind h))))
theorem sA{st:SortSt}{i j:Nat}{Q:Unit->SortSt->Prop}(h:Q () (setArr st (mirror (arrOf st) i j ((j-i) / 2)))):wpS (model prog w) A E s (reverseSlice' i j) Q st:=by
 rw[reverseSlice'_eq];exact hX h
theorem fU{xs:Array Keyed}{i j:Nat}(hj:j<=xs.size)(k:Nat):Rk r (mirror xs i j ((j-i) / 2)) k=if i<=k/\k<j then Rk r xs (i+j-1-k) else Rk r xs k:=by
 have e:=getElem?_mirror_all (i:=i) hj k
 by_cases h1:i<=k/\k<j
 ·rw[ay h1]at e ⊢;exact Rk.congr e
 ·rw[aE h1]at e ⊢;exact Rk.congr e
theorem cP{xs:Array Keyed}{i j:Nat}(hj:j<=xs.size)(heq:∀k,i<=k->k<j->Rk r xs k=Rk r xs (j-1))(k:Nat):Rk r (mirror xs i j ((j-i) / 2)) k=Rk r xs k:=by
 rw[fU hj]
 split
 ·rw[heq _ (by lia) (by lia),heq k (by lia) (by lia)]
 ·rfl
def Pre(lo:Nat)(xs ys:Array Keyed):Prop:=∀k,k<lo->ys[k]?=xs[k]?
theorem Pre.refl{lo:Nat}{xs:Array Keyed}:Pre lo xs xs:=λ_ _=>rfl
theorem Pre.trans{lo:Nat}{xs ys zs:Array Keyed}(h:Pre lo xs ys)(g:Pre lo ys zs):Pre lo xs zs:=λk hk=>(g k hk).trans (h k hk)
theorem Pre.V8{lo i j:Nat}{xs:Array Keyed}(hi:lo<=i)(hj:j<=xs.size):Pre lo xs (mirror xs i j ((j-i) / 2)):=λk hk=>by
 rw[getElem?_mirror_all hj,aE (by lia)]
theorem Pre.bub{lo src d:Nat}{xs:Array Keyed}(hs:src<xs.size)(hd:lo+d<=src):Pre lo xs (bubble xs src d):=λk hk=>by
 rw[getElem?_bubble hs d (by lia),aE (by lia),aE (by lia)]
theorem y7{xs:Array Keyed}{src d:Nat}(hs:src<xs.size)(hd:d<=src)(k:Nat):Rk r (bubble xs src d) k=if k=src-d then Rk r xs src else if src-d<k/\k<=src then Rk r xs (k-1) else Rk r xs k:=by
 have e:=getElem?_bubble hs d hd k
 by_cases h1:k=src-d
 ·rw[ay h1]at e ⊢;exact Rk.congr e
 ·rw[aE h1]at e ⊢
  by_cases h2:src-d<k/\k<=src
  ·rw[ay h2]at e ⊢;exact Rk.congr e
  ·rw[aE h2]at e ⊢;exact Rk.congr e
theorem aA6(C:Od prog w A s κ r a₀){st:SortSt}{lo n ok:Nat}{Q:Bool->SortSt->Prop}(hn:lo+n<=a₀.size)(bz:ok<=n)(B:SB a₀ κ st)(hs:Sg r (arrOf st) lo (lo+ok))
  (h:∀bC,SB a₀ κ bC->pendingOf bC=pendingOf st->Pre lo (arrOf st) (arrOf bC)->Sg r (arrOf bC) lo (lo+n)->Q true bC):wpS (model prog w) A E s (binarySort' lo n ok) Q st:=by
 rw[binarySort'_eq]
 refine aD (eI (fB (I:=λk c bC=>c=(none,())/\SB a₀ κ bC/\pendingOf bC=pendingOf st/\Pre lo (arrOf st) (arrOf bC)/\Sg r (arrOf bC) lo (lo+min k n))
  (Q:=λc bC=>c=(none,())/\SB a₀ κ bC/\pendingOf bC=pendingOf st/\Pre lo (arrOf st) (arrOf bC)/\Sg r (arrOf bC) lo (lo+n)) ?step ?fin ?init) ?post)
 case post=>
  rintro c bC ⟨rfl,B',p',e',s'⟩
  exact aG (h bC B' p' e' s')
 case init=>
  refine⟨rfl,B,rfl,.refl,λi j h1 h2 h3=>?_⟩
  by_cases z:ok=0
  ·have:i=j:=by lia
   subst this;exact gD _
  ·exact hs i j h1 h2 (by lia)
 case fin=>
  rintro c bC ⟨hc,B',p',e',s'⟩
  refine⟨hc,B',p',e',?_⟩
  rwa [show min (max (max ok 1) n) n=n by lia]at s'
 case step=>
  rintro k c bC hak hkn ⟨rfl,B',p',e',s'⟩
  rw[show min k n=k by lia]at s'
  have hsz:(arrOf bC).size=a₀.size:=B'.size
  refine aD (eI (fB (a:=0) (I:=λx c aI=>aI=bC/\∃l q,c=(none,l,q)/\l<=q/\q<=k/\q-l<=k-x/\(∀i,lo<=i->i<lo+l->Rk r (arrOf bC) i<=Rk r (arrOf bC) (lo+k))/\(∀i,lo+q<=i->i<lo+k->Rk r (arrOf bC) (lo+k)<Rk r (arrOf bC) i))
   (Q:=λc aI=>aI=bC/\∃l q,c=(none,l,q)/\l<=k/\(∀i,lo<=i->i<lo+l->Rk r (arrOf bC) i<=Rk r (arrOf bC) (lo+k))/\(∀i,lo+l<=i->i<lo+k->Rk r (arrOf bC) (lo+k)<Rk r (arrOf bC) i)) ?istep ?ifin ⟨rfl,0,k,rfl,by lia,by lia,by lia,λi _ _=>by lia,λi _ _=>by lia⟩) ?ipost)
  case ifin=>
   rintro c aI ⟨rfl,l,q,rfl,a1,a2,a3,a4,a5⟩
   have:l=q:=by lia
   subst this
   exact⟨rfl,l,l,rfl,a2,a4,a5⟩
  case istep=>
   rintro x c aI _ hx ⟨rfl,l,q,rfl,a1,a2,a3,a4,a5⟩
   try dsimp only
   refine aJ (λhz=>?_) (λhz=>?_)
   ·have:l=q:=by lia
    subst this
    exact aG ⟨rfl,l,l,rfl,a2,a4,a5⟩
   ·refine aD (jK C B' (by lia) (by lia) ?_)
    try dsimp only
    refine aJ (λhc=>?_) (λhc=>?_)
    ·have lu:=of_decide_eq_true hc
     refine aG ⟨rfl,l,(l+q) / 2,rfl,by lia,by lia,by lia,a4,λi h1 h2=>?_⟩
     have:=s' (lo+(l+q) / 2) i (by lia) h1 (by lia)
     lia
    ·have lu:¬(Rk r (arrOf aI) (lo+k)<Rk r (arrOf aI) (lo+(l+q) / 2)):=λz=>hc (decide_eq_true z)
     refine aG ⟨rfl,(l+q) / 2+1,q,rfl,by lia,by lia,by lia,λi h1 h2=>?_,a5⟩
     have:=s' i (lo+(l+q) / 2) h1 (by lia) (by lia)
     lia
  case ipost=>
   rintro c aI ⟨rfl,l,q,rfl,Uc,a4,a5⟩
   show wpS _ _ _ _ (do moveDown' (lo+k) (lo+l);pure (ForInStep.yield (none,()))) _ _
   rw[moveDown'_eq]
   have X1:lo+k<(arrOf aI).size:=by lia
   have ed:lo+k-(lo+l)=k-l:=by lia
   refine aD (hX (aG ⟨rfl,B'.put (bubble_perm _ _ _),p',e'.trans (Pre.bub X1 (by lia)),?_⟩))
   rw[show min (k+1) n=k+1 by lia]
   intro i j h1 h2 h3
   show Rk r (bubble (arrOf aI) (lo+k) (lo+k-(lo+l))) i<=Rk r (bubble (arrOf aI) (lo+k) (lo+k-(lo+l))) j
   rw[y7 X1 (by lia),y7 X1 (by lia),ed,show lo+k-(k-l)=lo+l by lia]
   repeat' split
   all_goals first
    | (exfalso;lia)
    | exact gD _
    | exact a4 _ (by lia) (by lia)
    | exact Int.le_of_lt (a5 _ (by lia) (by lia))
    | exact s' _ _ (by lia) (by lia) (by lia)
theorem U7(C:Od prog w A s κ r a₀){st:SortSt}{lo eN:Nat}{Q:Option Nat->SortSt->Prop}(hn:lo+eN<=a₀.size)(hr1:1<=eN)(B:SB a₀ κ st)
  (h:∀m bC,SB a₀ κ bC->pendingOf bC=pendingOf st->Pre lo (arrOf st) (arrOf bC)->1<=m->m<=eN->Sg r (arrOf bC) lo (lo+m)->Q (some m) bC):wpS (model prog w) A E s (countRun' lo eN) Q st:=by
 rw[countRun'_eq]
 try dsimp only
 have s0:Sg r (arrOf st) lo (lo+1):=λi j h1 h2 h3=>by
  have:i=j:=by lia
  subst this;exact gD _
 refine aD (eI (fB (a:=1) (I:=λx c aI=>aI=st/\c=(none,x)/\Sg r (arrOf st) lo (lo+x))
  (Q:=λc aI=>aI=st/\∃n,c=(none,n)/\1<=n/\n<=eN/\Sg r (arrOf st) lo (lo+n)/\(n=eN\/Rk r (arrOf st) (lo+n)<Rk r (arrOf st) (lo+n-1))) ?stepz ?finz ⟨rfl,rfl,s0⟩) ?postz)
 case finz=>
  rintro c aI ⟨rfl,rfl,s'⟩
  rw[show max (1) eN=eN by lia]at s' ⊢
  exact⟨rfl,eN,rfl,by lia,bj _,s',.inl rfl⟩
 case stepz=>
  rintro x c aI Nt hxn ⟨e0,rfl,s'⟩
  replace e0:=e0.symm;subst e0
  try dsimp only
  refine aD (jK C B (by lia) (by lia) ?_)
  try dsimp only
  refine aJ (λhc=>?_) (λhc=>?_)
  ·exact aG ⟨rfl,x,rfl,Nt,by lia,s',.inr (of_decide_eq_true hc)⟩
  ·have lu:=λz=>hc (decide_eq_true z)
   refine aG ⟨rfl,rfl,λi j h1 h2 h3=>?_⟩
   by_cases hj:j<lo+x
   ·exact s' i j h1 h2 hj
   ·have x8:j=lo+x:=by lia
    subst x8
    by_cases hi:i=lo+x
    ·subst hi;exact gD _
    ·have:=s' i (lo+x-1) h1 (by lia) (by lia)
     exact wo this (wc.mp lu)
 case postz=>
  intro c aI gY
  refine hide λgG hG=>?_
  obtain⟨e0,n,rfl,hn0,v3,s',XR⟩:=gY
  refine hG ?_
  replace e0:=e0.symm;subst e0
  try dsimp only
  refine aJ (λhz=>?_) (λhz=>?_)
  ·have Nj:n=eN:=by simpa using hz
   exact aG (h n _ B rfl .refl (by lia) v3 s')
  have Nj:n≠eN:=by simpa using hz
  have iE:=XR.resolve_left Nj
  have hsz:(arrOf st).size=a₀.size:=B.size
  refine aJ (λyt=>?_) (λyt=>?_)
  ·refine aD (jK C B (by lia) (by lia) ?_)
   try dsimp only
   refine aJ (λhc=>?_) (λhc=>?_)
   ·exact aG (h n _ B rfl .refl (by lia) v3 s')
   ·have lu:¬(Rk r (arrOf st) lo<Rk r (arrOf st) (lo+n-1)):=λz=>hc (decide_eq_true z)
    have kR:∀k,lo<=k->k<lo+n->Rk r (arrOf st) k=Rk r (arrOf st) (lo+n-1):=λk h1 h2=>by
     have a1:=s' lo k (by lia) h1 h2
     have a2:=s' k (lo+n-1) h1 (by lia) (by lia)
     lia
    refine aD (sA ?_)
    have B1:=B.put (ml _ lo (lo+n) ((lo+n-lo) / 2))
    have e1:Pre lo (arrOf st) (mirror (arrOf st) lo (lo+n) ((lo+n-lo) / 2)):=Pre.V8 (bj lo) (by lia)
    have d1:Dg r (arrOf (setArr st (mirror (arrOf st) lo (lo+n) ((lo+n-lo) / 2)))) lo (lo+(n+1)):=λi j h1 h2 h3=>by
     show Rk r (mirror (arrOf st) _ _ _) j<=Rk r (mirror (arrOf st) _ _ _) i
     rw[cP (by lia) kR,cP (by lia) kR]
     by_cases hj:j<lo+n
     ·rw[kR i h1 (by lia),kR j (by lia) hj];exact gD _
     ·have x8:j=lo+n:=by lia
      subst x8
      by_cases hi:i=lo+n
      ·subst hi;exact gD _
      ·rw[kR i h1 (by lia)];exact Int.le_of_lt iE
    have Fn:Pre lo (arrOf st) (arrOf (setArr st (mirror (arrOf st) lo (lo+n) ((lo+n-lo) / 2)))):=e1
    have p1:pendingOf (setArr st (mirror (arrOf st) lo (lo+n) ((lo+n-lo) / 2)))=pendingOf st:=rfl
    clear e1
    generalize setArr st (mirror (arrOf st) lo (lo+n) ((lo+n-lo) / 2))=S1 at B1 d1 Fn p1 ⊢
    refine aD (nM (jj ⟨rfl,?_⟩))
    refine aD (eI (fB (a:=n+1) (I:=λx c aI=>∃q,c=(none,x,q)/\SB a₀ κ aI/\pendingOf aI=pendingOf st/\Pre lo (arrOf st) (arrOf aI)/\Dg r (arrOf aI) lo (lo+x)/\q+1<=x/\(∀i,lo+x-(q+1)<=i->i<lo+x->Rk r (arrOf aI) i=Rk r (arrOf aI) (lo+x-1)))
     (Q:=λc aI=>∃x q,c=(none,x,q)/\n+1<=x/\x<=eN/\SB a₀ κ aI/\pendingOf aI=pendingOf st/\Pre lo (arrOf st) (arrOf aI)/\Dg r (arrOf aI) lo (lo+x)/\q+1<=x/\(∀i,lo+x-(q+1)<=i->i<lo+x->Rk r (arrOf aI) i=Rk r (arrOf aI) (lo+x-1))) ?dstepx ?dfinx ⟨0,rfl,B1,p1,Fn,d1,by lia,λi h1 h2=>by congr 1;lia⟩) ?dpostx)
    case dfinx=>
     intro c aI gY
     refine hide λgG hG=>?_
     obtain⟨q,rfl,b1,b2,b3,b4,b5,b6⟩:=gY
     refine hG ?_
     rw[show max (n+1) eN=eN by lia]at b4 b5 b6 ⊢
     exact⟨eN,q,rfl,by lia,bj _,b1,b2,b3,b4,b5,b6⟩
    case dstepx=>
     intro x c aI Nt hxn xE
     refine hide λgG hG=>?_
     obtain⟨q,rfl,b1,b2,b3,b4,b5,b6⟩:=xE
     refine hG ?_
     have hsz:(arrOf aI).size=a₀.size:=b1.size
     try dsimp only
     refine aD (jK C b1 (by lia) (by lia) ?_)
     try dsimp only
     refine aJ (λhc=>?_) (λhc=>?_)
     ·have lu:=of_decide_eq_true hc
      have stp:∀xs:Array Keyed,(∀k,Rk r xs k=Rk r (arrOf aI) k)->Dg r xs lo (lo+(x+1)):=λxs hk i j h1 h2 h3=>by
       rw[hk,hk]
       by_cases hj:j<lo+x
       ·exact b4 i j h1 h2 hj
       ·have x8:j=lo+x:=by lia
        subst x8
        by_cases hi:i=lo+x
        ·subst hi;exact gD _
        ·have:=b4 i (lo+x-1) h1 (by lia) (by lia)
         lia
      refine aJ (λhq=>?_) (λhq=>?_)
      ·refine aD (sA (aG ⟨0,rfl,b1.put (ml _ _ _ _),b2,b3.trans (Pre.V8 (by lia) (by lia)),stp _ (cP (by lia) b6),by lia,λi h1 h2=>by congr 1;lia⟩))
      ·exact aG ⟨0,rfl,b1,b2,b3,stp _ (λ_=>rfl),by lia,λi h1 h2=>by congr 1;lia⟩
     ·have lu:¬(Rk r (arrOf aI) (lo+x)<Rk r (arrOf aI) (lo+x-1)):=λz=>hc (decide_eq_true z)
      refine aD (jK C b1 (by lia) (by lia) ?_)
      try dsimp only
      refine aJ (λhd=>?_) (λhd=>?_)
      ·exact aG ⟨x,q,rfl,Nt,by lia,b1,b2,b3,b4,b5,b6⟩
      ·have hd':¬(Rk r (arrOf aI) (lo+x-1)<Rk r (arrOf aI) (lo+x)):=λz=>hd (decide_eq_true z)
       have heq:Rk r (arrOf aI) (lo+x)=Rk r (arrOf aI) (lo+x-1):=by lia
       refine aG ⟨q+1,rfl,b1,b2,b3,λi j h1 h2 h3=>?_,by lia,λi h1 h2=>?_⟩
       ·by_cases hj:j<lo+x
        ·exact b4 i j h1 h2 hj
        ·have x8:j=lo+x:=by lia
         subst x8
         by_cases hi:i=lo+x
         ·subst hi;exact gD _
         ·rw[heq];exact b4 i (lo+x-1) h1 (by lia) (by lia)
       ·rw[show lo+(x+1)-1=lo+x by lia]
        by_cases hi:i=lo+x
        ·subst hi;rfl
        ·rw[heq];exact b6 i (by lia) (by lia)
    case dpostx=>
     intro c S3 gY
     refine hide λgG hG=>?_
     obtain⟨m,q,rfl,hm1,hm2,b1,b2,b3,b4,b5,b6⟩:=gY
     refine hG ?_
     try dsimp only
     refine aJ (λhq=>?_) (λhq=>?_)
     ·refine aD (sA ?_)
      have hsz:(arrOf S3).size=a₀.size:=b1.size
      have B4:=b1.put (ml _ (lo+m-(q+1)) (lo+m) ((lo+m-(lo+m-(q+1))) / 2))
      have e4:Pre lo (arrOf st) (arrOf (setArr S3 (mirror (arrOf S3) (lo+m-(q+1)) (lo+m) ((lo+m-(lo+m-(q+1))) / 2)))):=b3.trans (Pre.V8 (show lo<=lo+m-(q+1) by lia) (show lo+m<=(arrOf S3).size by lia))
      have d4:Dg r (arrOf (setArr S3 (mirror (arrOf S3) (lo+m-(q+1)) (lo+m) ((lo+m-(lo+m-(q+1))) / 2)))) lo (lo+m):=λi j h1 h2 h3=>by
       show Rk r (mirror (arrOf S3) _ _ _) j<=Rk r (mirror (arrOf S3) _ _ _) i
       rw[cP (by lia) b6,cP (by lia) b6]
       exact b4 i j h1 h2 h3
      have p4:pendingOf (setArr S3 (mirror (arrOf S3) (lo+m-(q+1)) (lo+m) ((lo+m-(lo+m-(q+1))) / 2)))=pendingOf st:=b2
      generalize setArr S3 (mirror (arrOf S3) (lo+m-(q+1)) (lo+m) ((lo+m-(lo+m-(q+1))) / 2))=S4 at B4 e4 d4 p4 ⊢
      refine aD (sA ?_)
      have Iw:=B4.size
      have B2:=B4.put (ml _ lo (lo+m) ((lo+m-lo) / 2))
      have e2:Pre lo (arrOf st) (arrOf (setArr S4 (mirror (arrOf S4) lo (lo+m) ((lo+m-lo) / 2)))):=e4.trans (Pre.V8 (bj lo) (show lo+m<=_ by rw[Iw];lia))
      have s2:Sg r (mirror (arrOf S4) lo (lo+m) ((lo+m-lo) / 2)) lo (lo+m):=λi j h1 h2 h3=>by
       rw[fU (by rw[Iw];lia),fU (by rw[Iw];lia),ay (by lia),ay (by lia)]
       exact d4 _ _ (by lia) (by lia) (by lia)
      have p2:pendingOf (setArr S4 (mirror (arrOf S4) lo (lo+m) ((lo+m-lo) / 2)))=pendingOf st:=p4
      have Qd:Sg r (arrOf (setArr S4 (mirror (arrOf S4) lo (lo+m) ((lo+m-lo) / 2)))) lo (lo+m):=s2
      clear s2
      generalize setArr S4 (mirror (arrOf S4) lo (lo+m) ((lo+m-lo) / 2))=S2 at B2 p2 Qd e2 ⊢
      have s2:=Qd
      refine aD (eI (fB (a:=m) (I:=λx c aI=>aI=S2/\c=(none,x)/\Sg r (arrOf S2) lo (lo+x))
       (Q:=λc aI=>aI=S2/\∃n,c=(none,n)/\m<=n/\n<=eN/\Sg r (arrOf S2) lo (lo+n)/\(n=eN\/Rk r (arrOf S2) (lo+n)<Rk r (arrOf S2) (lo+n-1))) ?stepxa ?finxa ⟨rfl,rfl,s2⟩) ?postxa)
      case finxa=>
       rintro c aI ⟨rfl,rfl,s'⟩
       rw[show max (m) eN=eN by lia]at s' ⊢
       exact⟨rfl,eN,rfl,by lia,bj _,s',.inl rfl⟩
      case stepxa=>
       rintro x c aI Nt hxn ⟨e0,rfl,s'⟩
       replace e0:=e0.symm;subst e0
       try dsimp only
       refine aD (jK C B2 (by lia) (by lia) ?_)
       try dsimp only
       refine aJ (λhc=>?_) (λhc=>?_)
       ·exact aG ⟨rfl,x,rfl,Nt,by lia,s',.inr (of_decide_eq_true hc)⟩
       ·have lu:=λz=>hc (decide_eq_true z)
        refine aG ⟨rfl,rfl,λi j h1 h2 h3=>?_⟩
        by_cases hj:j<lo+x
        ·exact s' i j h1 h2 hj
        ·have x8:j=lo+x:=by lia
         subst x8
         by_cases hi:i=lo+x
         ·subst hi;exact gD _
         ·have:=s' i (lo+x-1) h1 (by lia) (by lia)
          exact wo this (wc.mp lu)
      case postxa=>
       intro c aI gY
       refine hide λgG hG=>?_
       obtain⟨e0,n,rfl,hn0,v3,s',XR⟩:=gY
       refine hG ?_
       replace e0:=e0.symm;subst e0
       try dsimp only
       exact aG (h n _ B2 p2 e2 (by lia) v3 s')
     ·refine aD (sA ?_)
      have Iw:=b1.size
      have B2:=b1.put (ml _ lo (lo+m) ((lo+m-lo) / 2))
      have e2:Pre lo (arrOf st) (arrOf (setArr S3 (mirror (arrOf S3) lo (lo+m) ((lo+m-lo) / 2)))):=b3.trans (Pre.V8 (bj lo) (show lo+m<=_ by rw[Iw];lia))
      have s2:Sg r (mirror (arrOf S3) lo (lo+m) ((lo+m-lo) / 2)) lo (lo+m):=λi j h1 h2 h3=>by
       rw[fU (by rw[Iw];lia),fU (by rw[Iw];lia),ay (by lia),ay (by lia)]
       exact b4 _ _ (by lia) (by lia) (by lia)
      have p2:pendingOf (setArr S3 (mirror (arrOf S3) lo (lo+m) ((lo+m-lo) / 2)))=pendingOf st:=b2
      have Qd:Sg r (arrOf (setArr S3 (mirror (arrOf S3) lo (lo+m) ((lo+m-lo) / 2)))) lo (lo+m):=s2
      clear s2
      generalize setArr S3 (mirror (arrOf S3) lo (lo+m) ((lo+m-lo) / 2))=S2 at B2 p2 Qd e2 ⊢
      have s2:=Qd
      refine aD (eI (fB (a:=m) (I:=λx c aI=>aI=S2/\c=(none,x)/\Sg r (arrOf S2) lo (lo+x))
       (Q:=λc aI=>aI=S2/\∃n,c=(none,n)/\m<=n/\n<=eN/\Sg r (arrOf S2) lo (lo+n)/\(n=eN\/Rk r (arrOf S2) (lo+n)<Rk r (arrOf S2) (lo+n-1))) ?stepxb ?finxb ⟨rfl,rfl,s2⟩) ?postxb)
      case finxb=>
       rintro c aI ⟨rfl,rfl,s'⟩
       rw[show max (m) eN=eN by lia]at s' ⊢
       exact⟨rfl,eN,rfl,by lia,bj _,s',.inl rfl⟩
      case stepxb=>
       rintro x c aI Nt hxn ⟨e0,rfl,s'⟩
       replace e0:=e0.symm;subst e0
       try dsimp only
       refine aD (jK C B2 (by lia) (by lia) ?_)
       try dsimp only
       refine aJ (λhc=>?_) (λhc=>?_)
       ·exact aG ⟨rfl,x,rfl,Nt,by lia,s',.inr (of_decide_eq_true hc)⟩
       ·have lu:=λz=>hc (decide_eq_true z)
        refine aG ⟨rfl,rfl,λi j h1 h2 h3=>?_⟩
        by_cases hj:j<lo+x
        ·exact s' i j h1 h2 hj
        ·have x8:j=lo+x:=by lia
         subst x8
         by_cases hi:i=lo+x
         ·subst hi;exact gD _
         ·have:=s' i (lo+x-1) h1 (by lia) (by lia)
          exact wo this (wc.mp lu)
      case postxb=>
       intro c aI gY
       refine hide λgG hG=>?_
       obtain⟨e0,n,rfl,hn0,v3,s',XR⟩:=gY
       refine hG ?_
       replace e0:=e0.symm;subst e0
       try dsimp only
       exact aG (h n _ B2 p2 e2 (by lia) v3 s')
  ·have hn:n=1:=by lia
   have d1:Dg r (arrOf st) lo (lo+(n+1)):=λi j h1 h2 h3=>by
    by_cases hi:i=j
    ·subst hi;exact gD _
    ·have e1:i=lo+n-1:=by lia
     have e2:j=lo+n:=by lia
     subst e1;subst e2
     exact Int.le_of_lt iE
   refine aD (nM (jj ⟨rfl,?_⟩))
   refine aD (eI (fB (a:=n+1) (I:=λx c aI=>∃q,c=(none,x,q)/\SB a₀ κ aI/\pendingOf aI=pendingOf st/\Pre lo (arrOf st) (arrOf aI)/\Dg r (arrOf aI) lo (lo+x)/\q+1<=x/\(∀i,lo+x-(q+1)<=i->i<lo+x->Rk r (arrOf aI) i=Rk r (arrOf aI) (lo+x-1)))
    (Q:=λc aI=>∃x q,c=(none,x,q)/\n+1<=x/\x<=eN/\SB a₀ κ aI/\pendingOf aI=pendingOf st/\Pre lo (arrOf st) (arrOf aI)/\Dg r (arrOf aI) lo (lo+x)/\q+1<=x/\(∀i,lo+x-(q+1)<=i->i<lo+x->Rk r (arrOf aI) i=Rk r (arrOf aI) (lo+x-1))) ?dstepy ?dfiny ⟨0,rfl,B,rfl,.refl,d1,by lia,λi h1 h2=>by congr 1;lia⟩) ?dposty)
   case dfiny=>
    intro c aI gY
    refine hide λgG hG=>?_
    obtain⟨q,rfl,b1,b2,b3,b4,b5,b6⟩:=gY
    refine hG ?_
    rw[show max (n+1) eN=eN by lia]at b4 b5 b6 ⊢
    exact⟨eN,q,rfl,by lia,bj _,b1,b2,b3,b4,b5,b6⟩
   case dstepy=>
    intro x c aI Nt hxn xE
    refine hide λgG hG=>?_
    obtain⟨q,rfl,b1,b2,b3,b4,b5,b6⟩:=xE
    refine hG ?_
    have hsz:(arrOf aI).size=a₀.size:=b1.size
    try dsimp only
    refine aD (jK C b1 (by lia) (by lia) ?_)
    try dsimp only
    refine aJ (λhc=>?_) (λhc=>?_)
    ·have lu:=of_decide_eq_true hc
     have stp:∀xs:Array Keyed,(∀k,Rk r xs k=Rk r (arrOf aI) k)->Dg r xs lo (lo+(x+1)):=λxs hk i j h1 h2 h3=>by
      rw[hk,hk]
      by_cases hj:j<lo+x
      ·exact b4 i j h1 h2 hj
      ·have x8:j=lo+x:=by lia
       subst x8
       by_cases hi:i=lo+x
       ·subst hi;exact gD _
       ·have:=b4 i (lo+x-1) h1 (by lia) (by lia)
        lia
     refine aJ (λhq=>?_) (λhq=>?_)
     ·refine aD (sA (aG ⟨0,rfl,b1.put (ml _ _ _ _),b2,b3.trans (Pre.V8 (by lia) (by lia)),stp _ (cP (by lia) b6),by lia,λi h1 h2=>by congr 1;lia⟩))
     ·exact aG ⟨0,rfl,b1,b2,b3,stp _ (λ_=>rfl),by lia,λi h1 h2=>by congr 1;lia⟩
    ·have lu:¬(Rk r (arrOf aI) (lo+x)<Rk r (arrOf aI) (lo+x-1)):=λz=>hc (decide_eq_true z)
     refine aD (jK C b1 (by lia) (by lia) ?_)
     try dsimp only
     refine aJ (λhd=>?_) (λhd=>?_)
     ·exact aG ⟨x,q,rfl,Nt,by lia,b1,b2,b3,b4,b5,b6⟩
     ·have hd':¬(Rk r (arrOf aI) (lo+x-1)<Rk r (arrOf aI) (lo+x)):=λz=>hd (decide_eq_true z)
      have heq:Rk r (arrOf aI) (lo+x)=Rk r (arrOf aI) (lo+x-1):=by lia
      refine aG ⟨q+1,rfl,b1,b2,b3,λi j h1 h2 h3=>?_,by lia,λi h1 h2=>?_⟩
      ·by_cases hj:j<lo+x
       ·exact b4 i j h1 h2 hj
       ·have x8:j=lo+x:=by lia
        subst x8
        by_cases hi:i=lo+x
        ·subst hi;exact gD _
        ·rw[heq];exact b4 i (lo+x-1) h1 (by lia) (by lia)
      ·rw[show lo+(x+1)-1=lo+x by lia]
       by_cases hi:i=lo+x
       ·subst hi;rfl
       ·rw[heq];exact b6 i (by lia) (by lia)
   case dposty=>
    intro c S3 gY
    refine hide λgG hG=>?_
    obtain⟨m,q,rfl,hm1,hm2,b1,b2,b3,b4,b5,b6⟩:=gY
    refine hG ?_
    try dsimp only
    refine aJ (λhq=>?_) (λhq=>?_)
    ·refine aD (sA ?_)
     have hsz:(arrOf S3).size=a₀.size:=b1.size
     have B4:=b1.put (ml _ (lo+m-(q+1)) (lo+m) ((lo+m-(lo+m-(q+1))) / 2))
     have e4:Pre lo (arrOf st) (arrOf (setArr S3 (mirror (arrOf S3) (lo+m-(q+1)) (lo+m) ((lo+m-(lo+m-(q+1))) / 2)))):=b3.trans (Pre.V8 (show lo<=lo+m-(q+1) by lia) (show lo+m<=(arrOf S3).size by lia))
     have d4:Dg r (arrOf (setArr S3 (mirror (arrOf S3) (lo+m-(q+1)) (lo+m) ((lo+m-(lo+m-(q+1))) / 2)))) lo (lo+m):=λi j h1 h2 h3=>by
      show Rk r (mirror (arrOf S3) _ _ _) j<=Rk r (mirror (arrOf S3) _ _ _) i
      rw[cP (by lia) b6,cP (by lia) b6]
      exact b4 i j h1 h2 h3
     have p4:pendingOf (setArr S3 (mirror (arrOf S3) (lo+m-(q+1)) (lo+m) ((lo+m-(lo+m-(q+1))) / 2)))=pendingOf st:=b2
     generalize setArr S3 (mirror (arrOf S3) (lo+m-(q+1)) (lo+m) ((lo+m-(lo+m-(q+1))) / 2))=S4 at B4 e4 d4 p4 ⊢
     refine aD (sA ?_)
     have Iw:=B4.size
     have B2:=B4.put (ml _ lo (lo+m) ((lo+m-lo) / 2))
     have e2:Pre lo (arrOf st) (arrOf (setArr S4 (mirror (arrOf S4) lo (lo+m) ((lo+m-lo) / 2)))):=e4.trans (Pre.V8 (bj lo) (show lo+m<=_ by rw[Iw];lia))
     have s2:Sg r (mirror (arrOf S4) lo (lo+m) ((lo+m-lo) / 2)) lo (lo+m):=λi j h1 h2 h3=>by
      rw[fU (by rw[Iw];lia),fU (by rw[Iw];lia),ay (by lia),ay (by lia)]
      exact d4 _ _ (by lia) (by lia) (by lia)
     have p2:pendingOf (setArr S4 (mirror (arrOf S4) lo (lo+m) ((lo+m-lo) / 2)))=pendingOf st:=p4
     have Qd:Sg r (arrOf (setArr S4 (mirror (arrOf S4) lo (lo+m) ((lo+m-lo) / 2)))) lo (lo+m):=s2
     clear s2
     generalize setArr S4 (mirror (arrOf S4) lo (lo+m) ((lo+m-lo) / 2))=S2 at B2 p2 Qd e2 ⊢
     have s2:=Qd
     refine aD (eI (fB (a:=m) (I:=λx c aI=>aI=S2/\c=(none,x)/\Sg r (arrOf S2) lo (lo+x))
      (Q:=λc aI=>aI=S2/\∃n,c=(none,n)/\m<=n/\n<=eN/\Sg r (arrOf S2) lo (lo+n)/\(n=eN\/Rk r (arrOf S2) (lo+n)<Rk r (arrOf S2) (lo+n-1))) ?stepya ?finya ⟨rfl,rfl,s2⟩) ?postya)
     case finya=>
      rintro c aI ⟨rfl,rfl,s'⟩
      rw[show max (m) eN=eN by lia]at s' ⊢
      exact⟨rfl,eN,rfl,by lia,bj _,s',.inl rfl⟩
     case stepya=>
      rintro x c aI Nt hxn ⟨e0,rfl,s'⟩
      replace e0:=e0.symm;subst e0
      try dsimp only
      refine aD (jK C B2 (by lia) (by lia) ?_)
      try dsimp only
      refine aJ (λhc=>?_) (λhc=>?_)
      ·exact aG ⟨rfl,x,rfl,Nt,by lia,s',.inr (of_decide_eq_true hc)⟩
      ·have lu:=λz=>hc (decide_eq_true z)
       refine aG ⟨rfl,rfl,λi j h1 h2 h3=>?_⟩
       by_cases hj:j<lo+x
       ·exact s' i j h1 h2 hj
       ·have x8:j=lo+x:=by lia
        subst x8
        by_cases hi:i=lo+x
        ·subst hi;exact gD _
        ·have:=s' i (lo+x-1) h1 (by lia) (by lia)
         exact wo this (wc.mp lu)
     case postya=>
      intro c aI gY
      refine hide λgG hG=>?_
      obtain⟨e0,n,rfl,hn0,v3,s',XR⟩:=gY
      refine hG ?_
      replace e0:=e0.symm;subst e0
      try dsimp only
      exact aG (h n _ B2 p2 e2 (by lia) v3 s')
    ·refine aD (sA ?_)
     have Iw:=b1.size
     have B2:=b1.put (ml _ lo (lo+m) ((lo+m-lo) / 2))
     have e2:Pre lo (arrOf st) (arrOf (setArr S3 (mirror (arrOf S3) lo (lo+m) ((lo+m-lo) / 2)))):=b3.trans (Pre.V8 (bj lo) (show lo+m<=_ by rw[Iw];lia))
     have s2:Sg r (mirror (arrOf S3) lo (lo+m) ((lo+m-lo) / 2)) lo (lo+m):=λi j h1 h2 h3=>by
      rw[fU (by rw[Iw];lia),fU (by rw[Iw];lia),ay (by lia),ay (by lia)]
      exact b4 _ _ (by lia) (by lia) (by lia)
     have p2:pendingOf (setArr S3 (mirror (arrOf S3) lo (lo+m) ((lo+m-lo) / 2)))=pendingOf st:=b2
     have Qd:Sg r (arrOf (setArr S3 (mirror (arrOf S3) lo (lo+m) ((lo+m-lo) / 2)))) lo (lo+m):=s2
     clear s2
     generalize setArr S3 (mirror (arrOf S3) lo (lo+m) ((lo+m-lo) / 2))=S2 at B2 p2 Qd e2 ⊢
     have s2:=Qd
     refine aD (eI (fB (a:=m) (I:=λx c aI=>aI=S2/\c=(none,x)/\Sg r (arrOf S2) lo (lo+x))
      (Q:=λc aI=>aI=S2/\∃n,c=(none,n)/\m<=n/\n<=eN/\Sg r (arrOf S2) lo (lo+n)/\(n=eN\/Rk r (arrOf S2) (lo+n)<Rk r (arrOf S2) (lo+n-1))) ?stepyb ?finyb ⟨rfl,rfl,s2⟩) ?postyb)
     case finyb=>
      rintro c aI ⟨rfl,rfl,s'⟩
      rw[show max (m) eN=eN by lia]at s' ⊢
      exact⟨rfl,eN,rfl,by lia,bj _,s',.inl rfl⟩
     case stepyb=>
      rintro x c aI Nt hxn ⟨e0,rfl,s'⟩
      replace e0:=e0.symm;subst e0
      try dsimp only
      refine aD (jK C B2 (by lia) (by lia) ?_)
      try dsimp only
      refine aJ (λhc=>?_) (λhc=>?_)
      ·exact aG ⟨rfl,x,rfl,Nt,by lia,s',.inr (of_decide_eq_true hc)⟩
      ·have lu:=λz=>hc (decide_eq_true z)
       refine aG ⟨rfl,rfl,λi j h1 h2 h3=>?_⟩
       by_cases hj:j<lo+x
       ·exact s' i j h1 h2 hj
       ·have x8:j=lo+x:=by lia
        subst x8
        by_cases hi:i=lo+x
        ·subst hi;exact gD _
        ·have:=s' i (lo+x-1) h1 (by lia) (by lia)
         exact wo this (wc.mp lu)
     case postyb=>
      intro c aI gY
      refine hide λgG hG=>?_
      obtain⟨e0,n,rfl,hn0,v3,s',XR⟩:=gY
      refine hG ?_
      replace e0:=e0.symm;subst e0
      try dsimp only
      exact aG (h n _ B2 p2 e2 (by lia) v3 s')
end
theorem Fm:∀(l:List Keyed) (n:Nat) (xs:Array Keyed) (sa:Nat),sa+n+l.length<=xs.size->∀k:Nat,
  ((l.zipIdx n).foldl (λa (q:Keyed×Nat)=>a.setIfInBounds (sa+q.2) q.1) xs)[k]?=if sa+n<=k/\k<sa+n+l.length then l[k-(sa+n)]? else xs[k]?
 | [],n,xs,sa,_,k=>by rw[aE (by simp)];rfl
 | z::l,n,xs,sa,h,k=>by
  rw[eV]at h
  show(List.foldl _ (xs.setIfInBounds (sa+n) z) (l.zipIdx (n+1)))[k]?=_
  rw[Fm l (n+1) _ sa (by rw[Array.size_setIfInBounds];lia) k,eV]
  by_cases h1:sa+(n+1)<=k/\k<sa+(n+1)+l.length
  ·rw[ay h1,ay (by lia),show k-(sa+n)=(k-(sa+(n+1)))+1 by lia,GR]
  ·rw[aE h1]
   by_cases h2:k=sa+n
   ·subst h2
    rw[ay (by lia),Nat.sub_self,List.getElem?_cons_zero,Array.getElem?_setIfInBounds_self_of_lt (by lia)]
   ·rw[aE (by lia),Array.getElem?_setIfInBounds_ne (by lia)]
theorem SJ(R:Array Keyed)(xs:Array Keyed)(sa:Nat):(R.toList.zipIdx.foldl (λa (x:Keyed×Nat)=>match x with | (p,j)=>a.setIfInBounds (sa+j) p) xs)=(R.toList.zipIdx.foldl (λa (q:Keyed×Nat)=>a.setIfInBounds (sa+q.2) q.1) xs):=rfl
section
variable {r:Keyed->Int}{xs ys:Array Keyed}
theorem Sg.congr{lo hi:Nat}(h:Sg r xs lo hi)(e:∀k,lo<=k->k<hi->ys[k]?=xs[k]?):Sg r ys lo hi:=λi j h1 h2 h3=>by
 rw[Rk.congr (e i h1 (by lia)),Rk.congr (e j (by lia) h3)];exact h i j h1 h2 h3
theorem J1{lo hi:Nat}(h:Sg r xs lo hi)(hh:hi<=xs.size):jZ r (xs.extract lo hi).toList:=by
 refine uZ.mpr λi j Sf Nq Sd=>?_
 have s1:(xs.extract lo hi).toList.length=hi-lo:=by rw[cZ,Gn];lia
 rw[s1]at Sf Nq
 have:=h (lo+i) (lo+j) (by lia) (by lia) (by lia)
 rw[Rk.eq (by lia),Rk.eq (by lia)]at this
 simpa using this
theorem Wc{L:List Keyed}(h:jZ r L){u:Nat}(e:∀k,k<L.length->ys[u+k]?=L[k]?):Sg r ys u (u+L.length):=λi j h1 h2 h3=>by
 have ei:=e (i-u) (by lia)
 have ej:=e (j-u) (by lia)
 rw[show u+(i-u)=i by lia]at ei
 rw[show u+(j-u)=j by lia]at ej
 have Sf:i-u<L.length:=by lia
 have Nq:j-u<L.length:=by lia
 unfold Rk
 rw[ei,ej,bq Sf,bq Nq]
 rcases Nat.lt_or_eq_of_le h2 with z | z
 ·exact(uZ.mp h) (i-u) (j-u) Sf Nq (by lia)
 ·subst z;exact gD _
def dM(r:Keyed->Int)(xs:Array Keyed):Nat->List (Nat×Nat×Nat)->Nat->Prop
 | lo,[],hi=>lo=hi
 | lo,p::ps,hi=>p.1=lo/\1<=p.2.1/\Sg r xs lo (lo+p.2.1)/\dM r xs (lo+p.2.1) ps hi
theorem dM.le:∀{lo:Nat} {ps:List (Nat×Nat×Nat)} {hi:Nat},dM r xs lo ps hi->lo+ps.length<=hi
 | lo,[],hi,h=>by have:lo=hi:=h;simp;lia
 | lo,p::ps,hi,⟨h1,h2,_,h4⟩=>by have:=h4.le;rw[eV];lia
theorem dM.congr:∀{lo:Nat} {ps:List (Nat×Nat×Nat)} {hi:Nat},dM r xs lo ps hi->(∀k,lo<=k->k<hi->ys[k]?=xs[k]?)->dM r ys lo ps hi
 | lo,[],hi,h,_=>h
 | lo,p::ps,hi,⟨h1,h2,h3,h4⟩,e=>⟨h1,h2,h3.congr λk a b=>e k a (by have:=h4.le;lia),h4.congr λk a b=>e k (by lia) b⟩
theorem dM.app:∀{lo:Nat} {ps qs:List (Nat×Nat×Nat)} {hi:Nat},dM r xs lo (ps++qs) hi↔∃m,dM r xs lo ps m/\dM r xs m qs hi
 | lo,[],qs,hi=>⟨λh=>⟨lo,rfl,h⟩,λ⟨m,h1,h2⟩=>by have:lo=m:=h1;subst this;exact h2⟩
 | lo,p::ps,qs,hi=>⟨λ⟨h1,h2,h3,h4⟩=>by
   obtain⟨m,a,b⟩:=dM.app.mp h4
   exact⟨m,⟨h1,h2,h3,a⟩,b⟩,λ⟨m,⟨h1,h2,h3,a⟩,b⟩=>⟨h1,h2,h3,dM.app.mpr ⟨m,a,b⟩⟩⟩
end
theorem QW{xs ys M:List Keyed}{u v:Nat}(huv:u<=v)(hM:M.Perm ((xs.drop u).take (v-u)))(e:ys=xs.take u++M++xs.drop v):ys.Perm xs:=by
 have e2:xs=xs.take u++(xs.drop u).take (v-u)++xs.drop v:=by
  have h1:=(wK u xs).symm
  have h2:=(wK (v-u) (xs.drop u)).symm
  rw[List.drop_drop,show u+(v-u)=v by lia]at h2
  rw[jE,<-h2];exact h1
 rw[e]
 conv=>rhs;rw[e2]
 exact GL _ (Gz _ hM)
section
variable {prog:Program}{w:World}{A:Around}{E:Value->Shared->Prop}{s:Shared}{κ:SortKind}{r:Keyed->Int}{a₀:Array Keyed}
theorem NB{α:Type}(pre post:List α)(x y z:α):((pre++x::y::post).set pre.length z).eraseIdx (pre.length+1)=pre++z::post:=by
 rw[List.set_append_right _ _ (bj _),Nat.sub_self,List.set_cons_zero,List.eraseIdx_append_of_length_le (by lia)]
 simp
theorem Qb(C:Od prog w A s κ r a₀){st:SortSt}{pre post:List (Nat×Nat×Nat)}{p q:Nat×Nat×Nat}{hi:Nat}{Q:Bool->SortSt->Prop}(B:SB a₀ κ st)(hp:(pendingOf st).toList=pre++p::q::post)(sg:dM r (arrOf st) 0 (pre++p::q::post) hi)(hh:hi<=a₀.size)
  (h:∀bC,SB a₀ κ bC->(pendingOf bC).toList=pre++(p.1,p.2.1+q.2.1,p.2.2)::post->dM r (arrOf bC) 0 (pre++(p.1,p.2.1+q.2.1,p.2.2)::post) hi->(∀k,hi<=k->(arrOf bC)[k]?=(arrOf st)[k]?)->Q true bC):wpS (model prog w) A E s (mergeAt' pre.length) Q st:=by
 refine hide λgG hG=>?_
 obtain⟨sa,na,pw⟩:=p
 obtain⟨sb,nb,pw2⟩:=q
 obtain⟨m,sg1,e1,g1,g2,e2,g3,g4,sg2⟩:=dM.app.mp sg
 refine hG ?_
 dsimp only at e1 g1 g2 e2 g3 g4 sg2 h
 subst e1 e2
 have hm:=sg2.le
 have hsz:=B.size
 have hU:∀z∈arrOf st,z∈a₀:=λz hz=>B.mem hz
 have sg0:∀ys:Array Keyed,(∀k,k<sa->ys[k]?=(arrOf st)[k]?)->(∀k,sa+na+nb<=k->ys[k]?=(arrOf st)[k]?)->Sg r ys sa (sa+na+nb)->dM r ys 0 (pre++(sa,na+nb,pw)::post) hi:=λys k1 k2 k3=>
  dM.app.mpr ⟨sa,sg1.congr λk _ b=>k1 k b,rfl,by show 1<=na+nb;lia,by rw[<-Nat.add_assoc];exact k3,by
   show dM r ys (sa+(na+nb)) post hi
   rw[<-Nat.add_assoc];exact sg2.congr λk a _=>k2 k a⟩
 have x1:(pendingOf st)[pre.length]?=some (sa,na,pw):=by rw[<-j7,hp];simp
 have x2:(pendingOf st)[pre.length+1]?=some (sa+na,nb,pw2):=by rw[<-j7,hp,jv (by lia)];simp
 rw[Z7]
 refine aD (ji ?_)
 rw[x1,x2]
 dsimp only
 have pe:(((pendingOf st).setIfInBounds pre.length (sa,na+nb,pw)).eraseIdxIfInBounds (pre.length+1)).toList=pre++(sa,na+nb,pw)::post:=by
  have hl:pre.length+1<(pendingOf st).size:=by rw[<-cZ,hp];simp
  rw[Array.eraseIdxIfInBounds,dif_pos (by rw[Array.size_setIfInBounds];exact hl),Array.toList_eraseIdx,Array.toList_setIfInBounds,hp]
  exact NB pre post _ _ _
 have aCt:∀{Q':PUnit->SortSt->Prop} {v st0:SortSt},Q' ⟨⟩ v->wpS (model prog w) A E s (set v:StateT SortSt Sem PUnit) Q' st0:=λ{Q' v st0} hq=>by
  unfold wpS;rw[StateT.run_set];exact aK ⟨rfl,hq⟩
 refine aD (aCt ?_)
 have B1:SB a₀ κ (setPending st (((pendingOf st).setIfInBounds pre.length (sa,na+nb,pw)).eraseIdxIfInBounds (pre.length+1))):=⟨B.perm,B.kind,B.ok⟩
 have q1:(pendingOf (setPending st (((pendingOf st).setIfInBounds pre.length (sa,na+nb,pw)).eraseIdxIfInBounds (pre.length+1)))).toList=pre++(sa,na+nb,pw)::post:=pe
 have q2:arrOf (setPending st (((pendingOf st).setIfInBounds pre.length (sa,na+nb,pw)).eraseIdxIfInBounds (pre.length+1)))=arrOf st:=rfl
 generalize setPending st (((pendingOf st).setIfInBounds pre.length (sa,na+nb,pw)).eraseIdxIfInBounds (pre.length+1))=S1 at B1 q1 q2 ⊢
 have aCx:∀i j (h1:i<=j) (h2:sa+j<(arrOf st).size),j<na->r ((arrOf st)[sa+i]'(by lia))<=r (arrOf st)[sa+j]:=λi j h1 h2 h3=>by
  have:=g2 (sa+i) (sa+j) (by lia) (by lia) (by lia)
  rwa [Rk.eq (by lia),Rk.eq h2]at this
 have aCw:∀i j (h1:i<=j) (h2:sa+na+j<(arrOf st).size),j<nb->r ((arrOf st)[sa+na+i]'(by lia))<=r (arrOf st)[sa+na+j]:=λi j h1 h2 h3=>by
  have:=g4 (sa+na+i) (sa+na+j) (by lia) (by lia) (by lia)
  rwa [Rk.eq (by lia),Rk.eq h2]at this
 have X7:sa+na<(arrOf st).size:=by lia
 refine aD (dq X7 ?_)
 refine aD (y4 C (by lia) (by lia) hU (hU _ (iZ _)) B1.kind aCx λk k1 k2 k3=>?_)
 dsimp only
 have k2':∀i,sa<=i->i<sa+k->Rk r (arrOf st) i<=Rk r (arrOf st) (sa+na):=λi h1 h2=>by
  have:=k2 (i-sa) (by lia) (by lia)
  rw[Rk.eq (by lia),Rk.eq X7]
  have e:sa+(i-sa)=i:=by lia
  simpa [isA,e]using this
 have k3':∀i,sa+k<=i->i<sa+na->Rk r (arrOf st) (sa+na)<Rk r (arrOf st) i:=λi h1 h2=>by
  have:=k3 (i-sa) (by lia) (by lia) (by lia)
  rw[Rk.eq X7,Rk.eq (by lia)]
  have e:sa+(i-sa)=i:=by lia
  simpa [isA,e]using this
 refine aJ (λhz=>?_) (λhz=>?_)
 ·have Nj:na-k=0:=by simpa using hz
  refine aG (h S1 B1 q1 (sg0 _ (λk _=>by rw[q2]) (λk _=>by rw[q2]) ?_) (λk _=>by rw[q2]))
  rw[q2]
  intro i j h1 h2 h3
  by_cases ci:i<sa+na
  ·by_cases cj:j<sa+na
   ·exact g2 i j h1 h2 cj
   ·have a1:=k2' i h1 (by lia)
    have a2:=g4 (sa+na) j (by lia) (by lia) h3
    lia
  ·exact g4 i j (by lia) h2 h3
 have Nj:na-k≠0:=by simpa using hz
 have hla:sa+k+(na-k)-1=sa+na-1:=by lia
 refine aD (dq (by lia) ?_)
 refine aD (y4 C (by lia) (by lia) hU (hU _ (iZ _)) B1.kind aCw λf f1 f2 f3=>?_)
 dsimp only
 have XT:sa+na-1<(arrOf st).size:=by lia
 have f2':∀i,sa+na<=i->i<sa+na+f->Rk r (arrOf st) i<Rk r (arrOf st) (sa+na-1):=λi h1 h2=>by
  have:=f2 (i-(sa+na)) (by lia) (by lia)
  rw[Rk.eq (by lia),Rk.eq XT]
  have e:sa+na+(i-(sa+na))=i:=by lia
  simpa [isA,e,hla]using this
 have f3':∀i,sa+na+f<=i->i<sa+na+nb->Rk r (arrOf st) (sa+na-1)<=Rk r (arrOf st) i:=λi h1 h2=>by
  have:=f3 (i-(sa+na)) (by lia) (by lia) (by lia)
  rw[Rk.eq XT,Rk.eq (by lia)]
  have e:sa+na+(i-(sa+na))=i:=by lia
  simpa [isA,e,hla]using this
 refine aJ (λyt=>?_) (λyt=>?_)
 ·have RV:f=0:=by simpa using yt
  refine aG (h S1 B1 q1 (sg0 _ (λk _=>by rw[q2]) (λk _=>by rw[q2]) ?_) (λk _=>by rw[q2]))
  rw[q2]
  intro i j h1 h2 h3
  by_cases ci:i<sa+na
  ·by_cases cj:j<sa+na
   ·exact g2 i j h1 h2 cj
   ·have a1:=g2 i (sa+na-1) h1 (by lia) (by lia)
    have a2:=f3' j (by lia) h3
    lia
  ·exact g4 i j (by lia) h2 h3
 have RV:f≠0:=by simpa using yt
 have zx:((arrOf st).extract (sa+k) (sa+na)).size=na-k:=by rw[Gn];lia
 have zy:((arrOf st).extract (sa+na) (sa+na+f)).size=f:=by rw[Gn];lia
 have ux:∀z∈(arrOf st).extract (sa+k) (sa+na),z∈a₀:=λz hz=>hU z (Ox.mp hz |> λ⟨i,hi,e⟩=>by rw[<-e];exact iZ _)
 have uy:∀z∈(arrOf st).extract (sa+na) (sa+na+f),z∈a₀:=λz hz=>hU z (Ox.mp hz |> λ⟨i,hi,e⟩=>by rw[<-e];exact iZ _)
 have sx:jZ r ((arrOf st).extract (sa+k) (sa+na)).toList:=J1 (λi j h1 h2 h3=>g2 i j (by lia) h2 h3) (by lia)
 have sy:jZ r ((arrOf st).extract (sa+na) (sa+na+f)).toList:=J1 (λi j h1 h2 h3=>g4 i j (by lia) h2 (by lia)) (by lia)
 have atx:∀i (hi:i<((arrOf st).extract (sa+k) (sa+na)).size),r ((arrOf st).extract (sa+k) (sa+na))[i]=Rk r (arrOf st) (sa+k+i):=λi hi=>by
  rw[Rk.eq (by lia),Array.getElem_extract]
 have aty:∀i (hi:i<((arrOf st).extract (sa+na) (sa+na+f)).size),r ((arrOf st).extract (sa+na) (sa+na+f))[i]=Rk r (arrOf st) (sa+na+i):=λi hi=>by
  rw[Rk.eq (by lia),Array.getElem_extract]
 have key:∀(R:Array Keyed) (g:Nat),Good r ((arrOf st).extract (sa+k) (sa+na)) ((arrOf st).extract (sa+na) (sa+na+f)) R->
   wpS (model prog w) A E s (do
    modify λst=>setArr st (R.toList.zipIdx.foldl (λa (x:Keyed×Nat)=>match x with | (p,j)=>a.setIfInBounds (sa+k+j) p) (arrOf st))
    let z <-get
    pure (failedOf z).isNone) Q (dz S1 g):=λR g ⟨hpR,hsR⟩=>by
  have lR:R.toList.length=na-k+f:=by
   have:=hpR.length_eq
   rw[cS,cZ,cZ,cZ,zx,zy]at this
   rw[cZ];exact this
  have fs:∀i:Nat,(R.toList.zipIdx.foldl (λa (x:Keyed×Nat)=>match x with | (p,j)=>a.setIfInBounds (sa+k+j) p) (arrOf st))[i]?=if sa+k<=i/\i<sa+na+f then R.toList[i-(sa+k)]? else (arrOf st)[i]?:=λi=>by
   rw[SJ,Fm R.toList 0 (arrOf st) (sa+k) (by rw[lR];lia) i,lR]
   by_cases c:sa+k<=i/\i<sa+na+f
   ·rw[ay c,ay (by lia)];simp
   ·rw[aE c,aE (by lia)]
  refine aD (hX (aD (ji (aG ?_))))
  have eA:arrOf (dz S1 g)=arrOf st:=q2
  rw[eA]
  have B2:SB a₀ κ (setArr (dz S1 g) (R.toList.zipIdx.foldl (λa (x:Keyed×Nat)=>match x with | (p,j)=>a.setIfInBounds (sa+k+j) p) (arrOf st))):=by
   refine⟨?_,B1.kind,B1.ok⟩
   refine Array.Perm.trans ?_ B.perm
   show(R.toList.zipIdx.foldl (λa (x:Keyed×Nat)=>match x with | (p,j)=>a.setIfInBounds (sa+k+j) p) (arrOf st)).Perm (arrOf st)
   refine v9.mpr (QW (u:=sa+k) (v:=sa+na+f) (by lia) (M:=R.toList) ?_ ?_)
   ·refine hpR.trans ?_
    show(((arrOf st).extract (sa+k) (sa+na)).toList++((arrOf st).extract (sa+na) (sa+na+f)).toList).Perm _
    rw[jc,jc,wQ (x:=sa+na+f-(sa+k)) (e:=sa+na-(sa+k)) _ (by lia),List.drop_drop,show sa+k+(sa+na-(sa+k))=sa+na by lia,show sa+na+f-(sa+k)-(sa+na-(sa+k))=sa+na+f-(sa+na) by lia]
   ·refine rG λi=>?_
    rw[j7,fs i]
    have lt1:((arrOf st).toList.take (sa+k)).length=sa+k:=by rw[fZ,cZ];lia
    by_cases c1:i<sa+k
    ·rw[aE (by lia),jE,lD (by lia),List.getElem?_take,ay c1,j7]
    ·by_cases c2:i<sa+na+f
     ·rw[ay (by lia),jE,jv (by lia),lt1,lD (by lia)]
     ·rw[aE (by lia),jv (by rw[cS,lt1,lR];lia),cS,lt1,lR,List.getElem?_drop,j7]
      congr 1
      lia
  have eok:(failedOf (setArr (dz S1 g) (R.toList.zipIdx.foldl (λa (x:Keyed×Nat)=>match x with | (p,j)=>a.setIfInBounds (sa+k+j) p) (arrOf st)))).isNone=true:=by
   have:failedOf S1=none:=B1.ok
   show(failedOf S1).isNone=true
   rw[this];rfl
  rw[eok]
  refine h _ B2 q1 (sg0 _ (λi hi=>by show(R.toList.zipIdx.foldl _ (arrOf st))[i]?=_;rw[fs,aE (by lia)]) (λi hi=>by show(R.toList.zipIdx.foldl _ (arrOf st))[i]?=_;rw[fs,aE (by lia)]) ?_) (λi hi=>by show(R.toList.zipIdx.foldl _ (arrOf st))[i]?=_;rw[fs,aE (by lia)])
  show Sg r (R.toList.zipIdx.foldl (λa (x:Keyed×Nat)=>match x with | (p,j)=>a.setIfInBounds (sa+k+j) p) (arrOf st)) sa (sa+na+nb)
  generalize R.toList.zipIdx.foldl (λa (x:Keyed×Nat)=>match x with | (p,j)=>a.setIfInBounds (sa+k+j) p) (arrOf st)=ys at fs
  have out:∀i,¬(sa+k<=i/\i<sa+na+f)->Rk r ys i=Rk r (arrOf st) i:=λi hi=>Rk.congr (by rw[fs,aE hi])
  have mid:Sg r ys (sa+k) (sa+k+R.toList.length):=Wc hsR λi hi=>by rw[fs,ay (by lia)];congr 1;lia
  rw[lR]at mid
  have src:∀i,sa+k<=i->i<sa+na+f->∃t,sa+k<=t/\t<sa+na+f/\Rk r ys i=Rk r (arrOf st) t:=λi h1 h2=>by
   have hi:i-(sa+k)<R.toList.length:=by lia
   have e:=fs i
   rw[ay ⟨h1,h2⟩,bq hi]at e
   have hm:=hpR.mem_iff.mp (m6 hi)
   have e3:Rk r ys i=r R.toList[i-(sa+k)]:=by unfold Rk;rw[e]
   rcases cw.mp hm with hm | hm
   ·obtain⟨t,ht,et⟩:=uU.mp hm
    rw[cZ]at ht
    have et':((arrOf st).extract (sa+k) (sa+na))[t]=R.toList[i-(sa+k)]:=by simpa using et
    exact⟨sa+k+t,by lia,by lia,by rw[e3,<-et',atx t ht]⟩
   ·obtain⟨t,ht,et⟩:=uU.mp hm
    rw[cZ]at ht
    have et':((arrOf st).extract (sa+na) (sa+na+f))[t]=R.toList[i-(sa+k)]:=by simpa using et
    exact⟨sa+na+t,by lia,by lia,by rw[e3,<-et',aty t ht]⟩
  have low:∀i t,sa<=i->i<sa+k->sa+k<=t->t<sa+na+nb->Rk r (arrOf st) i<=Rk r (arrOf st) t:=λi t h1 h2 h3 h4=>by
   by_cases c:t<sa+na
   ·exact g2 i t h1 (by lia) c
   ·have a1:=k2' i h1 h2
    have a2:=g4 (sa+na) t (by lia) (by lia) h4
    lia
  have high:∀t j,sa<=t->t<sa+na+f->sa+na+f<=j->j<sa+na+nb->Rk r (arrOf st) t<=Rk r (arrOf st) j:=λt j h1 h2 h3 h4=>by
   by_cases c:t<sa+na
   ·have a1:=g2 t (sa+na-1) h1 (by lia) (by lia)
    have a2:=f3' j h3 h4
    lia
   ·exact g4 t j (by lia) (by lia) h4
  intro i j h1 h2 h3
  by_cases ci:i<sa+k
  ·rw[out i (by lia)]
   by_cases cj:j<sa+k
   ·rw[out j (by lia)];exact g2 i j h1 h2 (by lia)
   ·by_cases cj2:j<sa+na+f
    ·refine hide λgG hG=>?_
     obtain⟨t,t1,t2,t3⟩:=src j (by lia) cj2
     refine hG ?_
     rw[t3];exact low i t h1 ci t1 (by lia)
    ·rw[out j (by lia)];exact low i j h1 ci (by lia) h3
  ·by_cases ci2:i<sa+na+f
   ·by_cases cj2:j<sa+na+f
    ·exact mid i j (by lia) h2 (by lia)
    ·refine hide λgG hG=>?_
     obtain⟨t,t1,t2,t3⟩:=src i (by lia) ci2
     refine hG ?_
     rw[t3,out j (by lia)];exact high t j (by lia) t2 (by lia) h3
   ·rw[out i (by lia),out j (by lia)];exact g4 i j (by lia) h2 h3
 have h0x:0<((arrOf st).extract (sa+k) (sa+na)).size:=by lia
 have h0y:0<((arrOf st).extract (sa+na) (sa+na+f)).size:=by lia
 have c0:r ((arrOf st).extract (sa+na) (sa+na+f))[0]<r ((arrOf st).extract (sa+k) (sa+na))[0]:=by
  rw[aty 0 h0y,atx 0 h0x];exact k3' _ (by lia) (by lia)
 have cl:∀v∈(arrOf st).extract (sa+na) (sa+na+f),r v<=r (((arrOf st).extract (sa+k) (sa+na))[((arrOf st).extract (sa+k) (sa+na)).size-1]'(by lia)):=λv hv=>by
  obtain⟨i,hi,rfl⟩:=Array.mem_iff_getElem.mp hv
  rw[aty i hi,atx _ (by lia)]
  have:=f2' (sa+na+i) (by lia) (by lia)
  rw[zx,show sa+k+(na-k-1)=sa+na-1 by lia]
  lia
 have cf:∀v∈(arrOf st).extract (sa+k) (sa+na),r ((arrOf st).extract (sa+na) (sa+na+f))[0]<=r v:=λv hv=>by
  obtain⟨i,hi,rfl⟩:=Array.mem_iff_getElem.mp hv
  rw[aty 0 h0y,atx i hi]
  have:=k3' (sa+k+i) (by lia) (by lia)
  simp only[Nat.add_zero]
  lia
 refine aJ (λ_=>?_) (λ_=>?_)
 ·refine aD (aA4 C B1.kind ux uy sx sy h0x h0y (by lia) cl λR g hR=>?_)
  exact key R g hR
 ·refine aD (aA5 C B1.kind ux uy sx sy h0x h0y cf cl λR g hR=>?_)
  exact key R g hR
end
theorem Cm{α:Type}{l:List α}{i:Nat}(h:i+1<l.length):l=l.take i++l[i]::l[i+1]::l.drop (i+2):=by
 rw[<-wL h,<-wL (by omega)]
 exact(wK i l).symm
theorem Cp{α:Type}{l:List α}{i:Nat}(h:i+1<l.length):(l.take i).length=i:=by rw[fZ];omega
theorem qM{α β:Type}(f:α->β)(g:α->α)(hg:∀x,f (g x)=f x):∀{l:List α} (i:Nat),(l.modify i g).map f=l.map f
 | [],i=>by cases i <;> rfl
 | x::l,0=>by simp[hg]
 | x::l,i+1=>by simp[qM f g hg (l:=l) i]
theorem dM.pow{r:Keyed->Int}{xs:Array Keyed}:∀{lo:Nat} {ps qs:List (Nat×Nat×Nat)} {hi:Nat},dM r xs lo ps hi->qs.map (λp=>(p.1,p.2.1))=ps.map (λp=>(p.1,p.2.1))->dM r xs lo qs hi
 | lo,[],qs,hi,h,e=>by
  have:qs=[]:=by simpa using e
  rw[this];exact h
 | lo,p::ps,[],hi,h,e=>by simp at e
 | lo,p::ps,q::qs,hi,⟨h1,h2,h3,h4⟩,e=>by
  rw[dZ,dZ]at e
  injection e with e1 e2
  injection e1 with e3 e4
  exact⟨e3.trans h1,by rw[e4];exact h2,by rw[e4];exact h3,by rw[e4];exact h4.pow e2⟩
section
variable {prog:Program}{w:World}{A:Around}{E:Value->Shared->Prop}{s:Shared}{κ:SortKind}{r:Keyed->Int}{a₀:Array Keyed}
theorem YW(C:Od prog w A s κ r a₀){st:SortSt}{Q:Unit->SortSt->Prop}(B:SB a₀ κ st)(Oi:pendingOf st = #[])(h2:2<=a₀.size)
  (h:∀bC,SB a₀ κ bC->Sg r (arrOf bC) 0 a₀.size->Q () bC):wpS (model prog w) A E s sortRuns' Q st:=by
 rw[sortRuns'_eq]
 refine aD (ji ?_)
 try dsimp only
 rw[B.size]
 generalize minRun' a₀.size a₀.size 0=mr
 refine aD (eI (fB (a:=0) (I:=λx c bC=>∃lo,c=(none,lo)/\SB a₀ κ bC/\lo<=a₀.size/\min x a₀.size<=lo/\dM r (arrOf bC) 0 (pendingOf bC).toList lo)
  (Q:=λc bC=>c=(none,a₀.size)/\SB a₀ κ bC/\dM r (arrOf bC) 0 (pendingOf bC).toList a₀.size) ?step ?fin ⟨0,rfl,B,by omega,by omega,by rw[Oi];rfl⟩) ?post)
 case fin=>
  rintro c bC ⟨lo,rfl,b1,b2,b3,b4⟩
  have e:lo=a₀.size:=by omega
  subst e
  exact⟨rfl,b1,b4⟩
 case post=>
  rintro c bC ⟨rfl,b1,b2⟩
  try dsimp only
  refine aD (eI (fB (a:=0) (I:=λx c aI=>c=(none,())/\SB a₀ κ aI/\dM r (arrOf aI) 0 (pendingOf aI).toList a₀.size/\(pendingOf aI).size+x<=a₀.size+1)
   (Q:=λc aI=>c=(none,())/\SB a₀ κ aI/\dM r (arrOf aI) 0 (pendingOf aI).toList a₀.size/\(pendingOf aI).size<=1) ?fstep ?ffin ⟨rfl,b1,b2,by have:=b2.le;rw[cZ]at this;omega⟩) ?fpost)
  case ffin=>
   rintro c aI ⟨hc,d1,d2,d3⟩
   exact⟨hc,d1,d2,by omega⟩
  case fpost=>
   rintro c aI ⟨rfl,d1,d2,d3⟩
   refine aG (h aI d1 ?_)
   rw[<-cZ]at d3
   revert d2 d3
   generalize (pendingOf aI).toList=ps
   intro d2 d3
   match ps,d2,d3 with
   | [],d2,_=>
    have:0=a₀.size:=d2
    omega
   | [p],⟨e1,e2,e3,e4⟩,_=>
    have e5:0+p.2.1=a₀.size:=e4
    rw[<-e5]
    exact e3
   | _::_::_,_,d3=>simp at d3
  case fstep=>
   rintro x c S4 _ hx ⟨rfl,d1,d2,d3⟩
   refine aD (ji ?_)
   refine aJ (λhz=>?_) (λhz=>?_)
   ·exact aG ⟨rfl,d1,d2,hz⟩
   ·generalize hi0:(if (Option.any (λx=>decide (x<((pendingOf S4)[(pendingOf S4).size-2+1]?.elim 0 λx=>x.2.1))) (if (pendingOf S4).size-2 > 0 then Option.map (λx=>x.2.1) (pendingOf S4)[(pendingOf S4).size-2-1]? else none))=true then (pendingOf S4).size-2-1 else (pendingOf S4).size-2)=i0
    have Sf:i0+1<(pendingOf S4).toList.length:=by
     have le:∀(c:Bool) (m:Nat),(if c=true then m-1 else m)<=m:=λc m=>by cases c <;> simp
     have:=le (Option.any (λx=>decide (x<((pendingOf S4)[(pendingOf S4).size-2+1]?.elim 0 λx=>x.2.1))) (if (pendingOf S4).size-2 > 0 then Option.map (λx=>x.2.1) (pendingOf S4)[(pendingOf S4).size-2-1]? else none)) ((pendingOf S4).size-2)
     rw[cZ]
     rw[hi0]at this
     omega
    have cut:=Cm Sf
    have lt:=Cp Sf
    have Yi:=d2
    rw[cut]at Yi
    have run:=Qb (E:=E) C d1 cut Yi (bj _) (Q:=λbb aI=>bb=true/\SB a₀ κ aI/\dM r (arrOf aI) 0 (pendingOf aI).toList a₀.size/\(pendingOf aI).size+(x+1)<=a₀.size+1) λaI b1 b2 b3 b4=>⟨rfl,b1,by rw[b2];exact b3,by
     rw[<-cZ,b2,cS,eV,fZ,my]
     rw[<-cZ]at d3
     omega⟩
    rw[lt]at run
    refine aD (eI run λbb aI ⟨e,c1,c2,c3⟩=>?_)
    subst e
    exact aG ⟨rfl,c1,c2,c3⟩
 case step=>
  rintro x c bC _ hx ⟨lo,rfl,b1,b2,b3,b4⟩
  try dsimp only
  refine aJ (λhz=>?_) (λhz=>?_)
  ·have e:lo=a₀.size:=by omega
   subst e
   exact aG ⟨rfl,b1,b4⟩
  refine aD (U7 C (by omega) (by omega) b1 λn0 S1 B1 p1 e1 hm1 hm2 s1=>?_)
  try dsimp only
  have g1:dM r (arrOf S1) 0 (pendingOf S1).toList lo:=by rw[p1];exact b4.congr λk _ hk=>e1 k hk
  refine aJ (λyt=>?_) (λyt=>?_)
  ·refine aD (nM (jj ⟨rfl,?_⟩))
   refine aD (aA6 C (by omega) (by omega) B1 s1 λS2 B2 p2 e2 s2=>?_)
   simp only[zV,ja,fu]
   have g2:dM r (arrOf S2) 0 (pendingOf S2).toList lo:=by rw[p2];exact g1.congr λk _ hk=>e2 k hk
   have v3:1<=min (a₀.size-lo) mr:=by omega
   have Oj:lo+min (a₀.size-lo) mr<=a₀.size:=by omega
   clear yt
   generalize min (a₀.size-lo) mr=n at s2 v3 Oj ⊢
   refine aD (ji ?_)
   have psh:∀S5:SortSt,SB a₀ κ S5->dM r (arrOf S5) 0 (pendingOf S5).toList lo->Sg r (arrOf S5) lo (lo+n)->SB a₀ κ (setPending S5 ((pendingOf S5).push (lo,n,0)))/\dM r (arrOf S5) 0 ((pendingOf S5).push (lo,n,0)).toList (lo+n):=λS5 b1 b2 b3=>⟨⟨b1.perm,b1.kind,b1.ok⟩,by
    rw[nQ]
    exact dM.app.mpr ⟨lo,b2,rfl,v3,b3,rfl⟩⟩
   cases eb:(pendingOf S2).back? with
   | none=>
    try dsimp only
    obtain⟨c1,c2⟩:=psh S2 B2 g2 s2
    exact aD (hX (aG ⟨lo+n,rfl,c1,by omega,by omega,c2⟩))
   | some t=>
    obtain⟨s1,n1,Ze⟩:=t
    try dsimp only
    generalize power' a₀.size (2*s1+n1) (2*s1+n1+n1+n) a₀.size=pw
    refine aD (eI (fB (I:=λ_ c aI=>c=(none,())/\SB a₀ κ aI/\dM r (arrOf aI) 0 (pendingOf aI).toList lo/\Sg r (arrOf aI) lo (lo+n))
     (Q:=λc aI=>c=(none,())/\SB a₀ κ aI/\dM r (arrOf aI) 0 (pendingOf aI).toList lo/\Sg r (arrOf aI) lo (lo+n)) ?mstepa (λ_ _ z=>z) ⟨rfl,B2,g2,s2⟩) ?mposta)
    case mposta=>
     rintro c S4 ⟨rfl,B4,g4,s4⟩
     try dsimp only
     refine aD (hX ?_)
     have B5:SB a₀ κ (setPending S4 ((pendingOf S4).modify ((pendingOf S4).size-1) λ(x:Nat×Nat×Nat)=>match x with | (st,len,_)=>(st,len,pw))):=⟨B4.perm,B4.kind,B4.ok⟩
     have g5:dM r (arrOf (setPending S4 ((pendingOf S4).modify ((pendingOf S4).size-1) λ(x:Nat×Nat×Nat)=>match x with | (st,len,_)=>(st,len,pw)))) 0 (pendingOf (setPending S4 ((pendingOf S4).modify ((pendingOf S4).size-1) λ(x:Nat×Nat×Nat)=>match x with | (st,len,_)=>(st,len,pw)))).toList lo:=by
      show dM r (arrOf S4) 0 ((pendingOf S4).modify ((pendingOf S4).size-1) λ(x:Nat×Nat×Nat)=>match x with | (st,len,_)=>(st,len,pw)).toList lo
      rw[Array.toList_modify]
      refine g4.pow (qM _ _ ?_ _)
      intro x
      rfl
     have s5:Sg r (arrOf (setPending S4 ((pendingOf S4).modify ((pendingOf S4).size-1) λ(x:Nat×Nat×Nat)=>match x with | (st,len,_)=>(st,len,pw)))) lo (lo+n):=s4
     generalize setPending S4 ((pendingOf S4).modify ((pendingOf S4).size-1) λ(x:Nat×Nat×Nat)=>match x with | (st,len,_)=>(st,len,pw))=S5 at B5 g5 s5 ⊢
     obtain⟨c1,c2⟩:=psh S5 B5 g5 s5
     exact aD (hX (aG ⟨lo+n,rfl,c1,by omega,by omega,c2⟩))
    case mstepa=>
     rintro z c S4 _ _ ⟨rfl,B4,g4,s4⟩
     refine aD (ji ?_)
     by_cases hp:(pendingOf S4).size > 1
     ·have Wq:(pendingOf S4).size-2<(pendingOf S4).size:=by omega
      rw[ay hp,dG Wq]
      try dsimp only
      refine aJ (λhq=>?_) (λhq=>?_)
      ·exact aG ⟨rfl,B4,g4,s4⟩
      ·have hl:(pendingOf S4).size-2+1<(pendingOf S4).toList.length:=by rw[cZ];omega
       have cut:=Cm hl
       have lt:=Cp hl
       have Yi:=g4
       rw[cut]at Yi
       have run:=Qb (E:=E) C B4 cut Yi (by omega) (Q:=λbb aI=>bb=true/\SB a₀ κ aI/\dM r (arrOf aI) 0 (pendingOf aI).toList lo/\Sg r (arrOf aI) lo (lo+n)) λaI b1 b2 b3 b4=>⟨rfl,b1,by rw[b2];exact b3,s4.congr λk h1 _=>b4 k h1⟩
       rw[lt]at run
       refine aD (eI run λbb aI ⟨e,b1,b2,b3⟩=>?_)
       subst e
       exact aG ⟨rfl,b1,b2,b3⟩
     ·rw[aE hp]
      exact aG ⟨rfl,B4,g4,s4⟩
  ·have B2:=B1
   have g2:=g1
   have s2:=s1
   have v3:=hm1
   have Oj:lo+n0<=a₀.size:=by omega
   clear yt hm1 hm2 s1 B1 g1 p1 e1
   revert S1
   intro S2 B2 g2 s2
   generalize n0=n at s2 v3 Oj ⊢
   refine aD (ji ?_)
   have psh:∀S5:SortSt,SB a₀ κ S5->dM r (arrOf S5) 0 (pendingOf S5).toList lo->Sg r (arrOf S5) lo (lo+n)->SB a₀ κ (setPending S5 ((pendingOf S5).push (lo,n,0)))/\dM r (arrOf S5) 0 ((pendingOf S5).push (lo,n,0)).toList (lo+n):=λS5 b1 b2 b3=>⟨⟨b1.perm,b1.kind,b1.ok⟩,by
    rw[nQ]
    exact dM.app.mpr ⟨lo,b2,rfl,v3,b3,rfl⟩⟩
   cases eb:(pendingOf S2).back? with
   | none=>
    try dsimp only
    obtain⟨c1,c2⟩:=psh S2 B2 g2 s2
    exact aD (hX (aG ⟨lo+n,rfl,c1,by omega,by omega,c2⟩))
   | some t=>
    obtain⟨s1,n1,Ze⟩:=t
    try dsimp only
    generalize power' a₀.size (2*s1+n1) (2*s1+n1+n1+n) a₀.size=pw
    refine aD (eI (fB (I:=λ_ c aI=>c=(none,())/\SB a₀ κ aI/\dM r (arrOf aI) 0 (pendingOf aI).toList lo/\Sg r (arrOf aI) lo (lo+n))
     (Q:=λc aI=>c=(none,())/\SB a₀ κ aI/\dM r (arrOf aI) 0 (pendingOf aI).toList lo/\Sg r (arrOf aI) lo (lo+n)) ?mstepb (λ_ _ z=>z) ⟨rfl,B2,g2,s2⟩) ?mpostb)
    case mpostb=>
     rintro c S4 ⟨rfl,B4,g4,s4⟩
     try dsimp only
     refine aD (hX ?_)
     have B5:SB a₀ κ (setPending S4 ((pendingOf S4).modify ((pendingOf S4).size-1) λ(x:Nat×Nat×Nat)=>match x with | (st,len,_)=>(st,len,pw))):=⟨B4.perm,B4.kind,B4.ok⟩
     have g5:dM r (arrOf (setPending S4 ((pendingOf S4).modify ((pendingOf S4).size-1) λ(x:Nat×Nat×Nat)=>match x with | (st,len,_)=>(st,len,pw)))) 0 (pendingOf (setPending S4 ((pendingOf S4).modify ((pendingOf S4).size-1) λ(x:Nat×Nat×Nat)=>match x with | (st,len,_)=>(st,len,pw)))).toList lo:=by
      show dM r (arrOf S4) 0 ((pendingOf S4).modify ((pendingOf S4).size-1) λ(x:Nat×Nat×Nat)=>match x with | (st,len,_)=>(st,len,pw)).toList lo
      rw[Array.toList_modify]
      refine g4.pow (qM _ _ ?_ _)
      intro x
      rfl
     have s5:Sg r (arrOf (setPending S4 ((pendingOf S4).modify ((pendingOf S4).size-1) λ(x:Nat×Nat×Nat)=>match x with | (st,len,_)=>(st,len,pw)))) lo (lo+n):=s4
     generalize setPending S4 ((pendingOf S4).modify ((pendingOf S4).size-1) λ(x:Nat×Nat×Nat)=>match x with | (st,len,_)=>(st,len,pw))=S5 at B5 g5 s5 ⊢
     obtain⟨c1,c2⟩:=psh S5 B5 g5 s5
     exact aD (hX (aG ⟨lo+n,rfl,c1,by omega,by omega,c2⟩))
    case mstepb=>
     rintro z c S4 _ _ ⟨rfl,B4,g4,s4⟩
     refine aD (ji ?_)
     by_cases hp:(pendingOf S4).size > 1
     ·have Wq:(pendingOf S4).size-2<(pendingOf S4).size:=by omega
      rw[ay hp,dG Wq]
      try dsimp only
      refine aJ (λhq=>?_) (λhq=>?_)
      ·exact aG ⟨rfl,B4,g4,s4⟩
      ·have hl:(pendingOf S4).size-2+1<(pendingOf S4).toList.length:=by rw[cZ];omega
       have cut:=Cm hl
       have lt:=Cp hl
       have Yi:=g4
       rw[cut]at Yi
       have run:=Qb (E:=E) C B4 cut Yi (by omega) (Q:=λbb aI=>bb=true/\SB a₀ κ aI/\dM r (arrOf aI) 0 (pendingOf aI).toList lo/\Sg r (arrOf aI) lo (lo+n)) λaI b1 b2 b3 b4=>⟨rfl,b1,by rw[b2];exact b3,s4.congr λk h1 _=>b4 k h1⟩
       rw[lt]at run
       refine aD (eI run λbb aI ⟨e,b1,b2,b3⟩=>?_)
       subst e
       exact aG ⟨rfl,b1,b2,b3⟩
     ·rw[aE hp]
      exact aG ⟨rfl,B4,g4,s4⟩
end
theorem ie{n:Nat}(h:n<=1000000):n<=sizeLine:=kG (rJ h (by decide))
theorem vQ{n:Nat}(h:n<=1000000):n<sizeLine:=rJ h (by decide)
theorem filter_lt{l:List Nat}{f g:Nat->Bool}(h:∀x∈l,f x=true->g x=true){y:Nat}(hy:y∈l)(h1:f y=false)(h2:g y=true):(l.filter f).length<(l.filter g).length:=by
 induction l with
 | nil=>cases hy
 | cons x l ih=>
  have le:(l.filter f).length<=(l.filter g).length:=by
   clear ih hy
   induction l with
   | nil=>exact bj _
   | cons z l ih2=>
    have e1:=h z (by simp)
    have ih3:=ih2 λu hu=>h u (by rcases bJ.mp hu with r | r <;> simp[r])
    rw[qg,qg]
    cases c1:f z <;> cases c2:g z <;> simp[c1,c2]at e1 ⊢ <;> lia
  rw[qg,qg]
  rcases bJ.mp hy with e | e
  ·subst e
   simp[h1,h2];lia
  ·have:=ih (λu hu=>h u (cV _ hu)) e
   have e1:=h x df
   cases c1:f x <;> cases c2:g x <;> simp[c1,c2]at e1 ⊢ <;> lia
theorem Ord.rank{b:Nat->Nat->Bool}{n:Nat}(O:Ord b n):∃ρ:Nat->Int,∀i j,i<n->j<n->(b i j=true↔ρ i<ρ j):=by
 have irr:∀i,i<n->b i i=false:=λi hi=>by
  cases e:b i i with
  | false=>rfl
  | true=>have:=O.asy i i hi hi e;rw[e]at this;cases this
 have up:∀i j,i<n->j<n->b i j=true->(((List.range n).filter (b · i)).length:Int)<((List.range n).filter (b · j)).length:=λi j hi hj e=>by
  have:=filter_lt (l:=List.range n) (f:=(b · i)) (g:=(b · j)) (λk hk e'=>O.tr k i j (qc.mp hk) hi hj e' e) (qc.mpr hi) (irr i hi) e
  lia
 refine⟨λi=>((List.range n).filter (b · i)).length,λi j hi hj=>⟨up i j hi hj,λh=>?_⟩⟩
 by_cases d:i=j
 ·subst d;lia
 ·rcases O.tot i j hi hj d with e | e
  ·exact e
  ·have:=up j i hj hi e
   dsimp only at h
   lia
section
variable {prog:Program}{w:World}{A:Around}{E:Value->Shared->Prop}{s:Shared}{κ:SortKind}
theorem DN{item:Nat->Keyed}{n:Nat}{b:Nat->Nat->Bool}{it:Array Keyed}(inj:∀i j,i<n->j<n->item i=item j->i=j)(O:Ord b n)(hn:2<=n)
  (hc:∀i j (Q:Bool->Shared->Prop),i<n->j<n->Q (b i j) s->wpAny (model prog w) A (keyLt' κ (item i).1 (item j).1) Q (λ_ _=>False) s) (hit:it.toList=(List.range n).map item) :
  wpAny (model prog w) A (sortRuns'.run (SortSt.mk' κ it #[] 7 none)) (λr s3=>s3=s/\∃p,vF p n/\FV b p n/\arrOf r.2=p.map item/\failedOf r.2=none) E s:=by
 obtain⟨ρ,hρ⟩:=O.rank
 obtain⟨g,hg⟩:∃g:Keyed->Nat,∀i,i<n->g (item i)=i:=by
  classical
  refine⟨λz=>if h:∃i,i<n/\item i=z then h.choose else 0,λi hi=>?_⟩
  have h:∃k,k<n/\item k=item i:=⟨i,hi,rfl⟩
  dsimp only
  rw[dif_pos h]
  exact inj _ _ h.choose_spec.1 hi h.choose_spec.2
 have mem:∀z∈it,∃i,i<n/\z=item i:=λz hz=>by
  have Nj:z∈it.toList:=by simpa using hz
  rw[hit]at Nj
  obtain⟨i,hi,e⟩:=eU.mp Nj
  exact⟨i,qc.mp hi,e.symm⟩
 have sz:it.size=n:=by rw[<-cZ,hit];simp
 have C:Od prog w A s κ (λz=>ρ (g z)) it:=λx y Q hx hy hq=>by
  obtain⟨i,hi,rfl⟩:=mem x hx
  obtain⟨j,hj,rfl⟩:=mem y hy
  refine hc i j Q hi hj ?_
  have e:b i j=decide (ρ (g (item i))<ρ (g (item j))):=by
   rw[nI,g8,hg i hi,hg j hj];exact hρ i j hi hj
  rw[e];exact hq
 have run:=YW (E:=E) (st:=SortSt.mk' κ it #[] 7 none) (Q:=λ_ bC=>∃p,vF p n/\FV b p n/\arrOf bC=p.map item/\failedOf bC=none) C ⟨Array.Perm.refl _,rfl,rfl⟩ rfl (by rw[sz];exact hn) λbC B sg=>?_
 ·exact run
 have hl:(arrOf bC).toList.Perm ((List.range n).map item):=by rw[<-hit];exact v9.mp B.perm
 have hb:(arrOf bC).toList.map (λz=>item (g z))=(arrOf bC).toList:=by
  have:∀z∈(arrOf bC).toList,item (g z)=z:=λz hz=>by
   obtain⟨i,hi,rfl⟩:=mem z (B.mem (by simpa using hz))
   rw[hg i hi]
  rw[pK this,List.map_id']
 have hp:((arrOf bC).toList.map g).Perm (List.range n):=by
  have:=hl.map g
  rw[fY]at this
  have e:(List.range n).map (g ∘ item)=List.range n:=by
   have:=pK (l:=List.range n) (f:=g ∘ item) (g:=id) λi hi=>hg i (qc.mp hi)
   rw[this,wg]
  rwa [e]at this
 refine⟨((arrOf bC).map g),⟨v9.mpr (by rw[nO,uR];exact hp)⟩,λi hi=>?_,?_,B.ok⟩
 ·have hs':(arrOf bC).size=n:=by rw[B.size,sz]
  have P:vF ((arrOf bC).map g) n:=⟨v9.mpr (by rw[nO,uR];exact hp)⟩
  have a1:=P.lt (by lia) i
  have a2:=P.lt (by lia) (i+1)
  have at_:∀k,k<n->Rk (λz=>ρ (g z)) (arrOf bC) k=ρ (x9 ((arrOf bC).map g) k):=λk hk=>by
   rw[Rk.eq (by lia)]
   unfold x9
   rw[jw,Array.getElem?_map,dG (by lia)]
   rfl
  have h1:=sg i (i+1) (by lia) (by lia) (by lia)
  rw[at_ i (by lia),at_ (i+1) hi]at h1
  rcases O.tot _ _ a1 a2 (P.ne (by lia) hi (by lia)) with e | e
  ·exact e
  ·have:=(hρ _ _ a2 a1).mp e
   lia
 ·apply Array.ext'
  rw[nO,nO,fY]
  exact hb.symm
end
end L2
end
section
namespace L2
open PySem PySem.Spec PySem.W PyProof.Rows Builtin
def bT(x y:List Int):Bool:=decide (x.length<y.length)||(decide (x.length=y.length)&&HT.lexLt x y)
theorem lN:∀x:List Int,HT.lexLt x x=false
 | []=>rfl
 | a::l=>by
  unfold HT.lexLt
  simp[lN l]
theorem zp:∀{x y:List Int},x.length=y.length->x≠y->HT.lexLt x y=true\/HT.lexLt y x=true
 | [],[],_,h=>absurd rfl h
 | a::l,b::m,hl,h=>by
  unfold HT.lexLt
  by_cases e:a=b
  ·subst e
   have:=zp (x:=l) (y:=m) (by simpa using hl) (λz=>h (by rw[z]))
   simpa using this
  ·simp only[e,eK e,decide_false,zZ,zW,g8,fu]
   lia
 | [],_::_,hl,_=>by simp at hl
 | _::_,[],hl,_=>by simp at hl
theorem zq:∀{x y:List Int},HT.lexLt x y=true->HT.lexLt y x=false
 | [],[],h=>by simp[HT.lexLt]at h
 | [],b::m,_=>rfl
 | a::l,[],h=>by simp[HT.lexLt]at h
 | a::l,b::m,h=>by
  unfold HT.lexLt at h ⊢
  by_cases e:a=b
  ·subst e
   simp at h ⊢
   exact zq h
  ·simp[e,eK e]at h ⊢
   lia
theorem xA:∀{x y z:List Int},HT.lexLt x y=true->HT.lexLt y z=true->HT.lexLt x z=true
 | [],[],_,h,_=>by simp[HT.lexLt]at h
 | [],b::m,[],_,h=>by simp[HT.lexLt]at h
 | [],b::m,c::n,_,_=>rfl
 | a::l,[],_,h,_=>by simp[HT.lexLt]at h
 | a::l,b::m,[],_,h=>by simp[HT.lexLt]at h
 | a::l,b::m,c::n,h1,h2=>by
  unfold HT.lexLt at h1 h2 ⊢
  by_cases e1:a=b
  ·subst e1
   by_cases e2:a=c
   ·subst e2
    simp at h1 h2 ⊢
    exact xA h1 h2
   ·simp[e2]at h1 h2 ⊢
    lia
  ·by_cases e2:b=c
   ·subst e2
    simp[e1]at h1 h2 ⊢
    lia
   ·by_cases e3:a=c
    ·subst e3
     simp[e1,e2]at h1 h2
     lia
    ·simp[e1,e2,e3]at h1 h2 ⊢
     lia
theorem o6{ss:List (List Int)}(nd:ss.Nodup):Ord (λi j=>bT (ss.getD i []) (ss.getD j [])) ss.length where
 tr:=λi j k hi hj hk h1 h2=>by
  unfold bT at *
  simp only[kI,dv,g8]at *
  rcases h1 with h1 | ⟨h1,l1⟩ <;> rcases h2 with h2 | ⟨h2,l2⟩
  ·exact .inl (by lia)
  ·exact .inl (by lia)
  ·exact .inl (by lia)
  ·exact .inr ⟨by lia,xA l1 l2⟩
 asy:=λi j hi hj h=>by
  unfold bT at *
  simp only[kI,dv,g8]at h
  rcases h with h | ⟨h,l⟩
  ·simp only[Bool.or_eq_false_iff,Bool.and_eq_false_imp,decide_eq_false_iff_not,g8]
   exact⟨by lia,λz=>by lia⟩
  ·simp only[Bool.or_eq_false_iff,Bool.and_eq_false_imp,decide_eq_false_iff_not,g8]
   exact⟨by lia,λ_=>zq l⟩
 tot:=λi j hi hj d=>by
  have ne:ss.getD i []≠ss.getD j []:=by
   rw[gH,gH,bq hi,bq hj]
   exact λe=>d ((tU nd).mp e)
  unfold bT
  simp only[kI,dv,g8]
  rcases Gk (ss.getD i []).length (ss.getD j []).length with h | h | h
  ·exact .inl (.inl h)
  ·rcases zp h ne with z | z
   ·exact .inl (.inr ⟨h,z⟩)
   ·exact .inr (.inr ⟨h.symm,z⟩)
  ·exact .inr (.inl h)
section
variable {P:Program}{w:World}{A:Around}{E:Value->Shared->Prop}{s:Shared}
theorem kP:∀{us:List Value} {ns:List Int},IntsAre us ns->ItemsAre (dW P w) (ns.map Sum.inl) us
 | _,_,.nil=>.nil
 | _,_,.cons n t r=>.cons (by show(n==n)=true;simp) (kP r)
theorem aAg{ns ms:List Int}:decide ((ns.map Sum.inl:List Key)=ms.map Sum.inl)=decide (ns=ms):=by
 rw[nI,g8,g8]
 refine⟨λe=>?_,λe=>by rw[e]⟩
 exact wF (λa b h=>tO h) |>.mp e
theorem K6{p q a c:Addr}{lx ly:Int}{t u:Tok}{its Er:Array Value}{ns ms:List Int}{C:Bool->Shared->Prop}(hu:A.units<cLine)(hp:IsTup s.heap p #[.int lx t,.ref a])(hq:IsTup s.heap q #[.int ly u,.ref c])
  (ha:IsTup s.heap a its) (hc:IsTup s.heap c Er) (i1:IntsAre its.toList ns) (i2:IntsAre Er.toList ms) (hx:lx=ns.length) (hy:ly=ms.length) (h:C (bT ns ms) s):wpAny (model P w) A (keyLt' (tuples' true) (.ref p) (.ref q)) C E s:=by
 obtain⟨o1,e1,c1,n1,d1⟩:=id hp
 obtain⟨o2,e2,c2,n2,d2⟩:=id hq
 obtain⟨o3,e3,c3,n3,d3⟩:=id ha
 obtain⟨o4,e4,c4,n4,d4⟩:=id hc
 refine kat_lt e1 d1 e2 d2 ?_
 show KatLex P w A true _ C [(.int lx t,.int ly u),(.ref a,.ref c)] 0 s
 refine kat_cons ((dW P w).eqBool (a:=Sum.inl lx) (b:=Sum.inl ly) (by show(lx==lx)=true;simp) (by show(ly==ly)=true;simp) ?_)
 refine kat_go (λe=>?_) λe=>?_
 ·have el:lx=ly:=tO (of_decide_eq_true e)
  refine kat_yes (kat_cons (wpAny_eqBool_tuple (knd:=dW P w) hu ⟨o3,its,n3,e3,c3,d3,kP i1⟩ ⟨o4,Er,n4,e4,c4,d4,kP i2⟩ ?_))
  rw[aAg]
  refine kat_go (λe'=>kat_yes (kat_nil ?_)) λe'=>kat_no ?_
  ·have:ns=ms:=of_decide_eq_true e'
   subst this
   have z:bT ns ns=false:=by unfold bT;rw[lN];simp
   rw[z]at h
   exact h
  ·refine kat_one _ _ (HT.Ie ha hc i1 i2 hu ?_)
   have z:bT ns ms=HT.lexLt ns ms:=by
    unfold bT
    rw[decide_eq_false (by lia:¬ns.length<ms.length),decide_eq_true (by lia:ns.length=ms.length)]
    simp
   rw[z]at h
   exact h
 ·have el:lx≠ly:=λz=>by rw[z]at e;simp at e
  refine kat_no (oneLt_int ?_)
  have z:bT ns ms=decide (lx<ly):=by
   unfold bT
   rw[decide_eq_false (by lia:¬ns.length=ms.length),zZ,zW,nI,g8,g8]
   lia
  rw[z]at h
  exact h
end
section
variable {P:Program}{w:World}{H H1:Hp}{h h1 h2:Heap}{e a:Addr}{o:HO}{fs:List Addr}
theorem Ks(x:iQ P w H h)(hn:H e=none)(k:∀b u,b≠e->h.get? b=some u->h2.get? b=some u):iQ P w H h2:=λa o ea=>
 (x a o ea).stay (λb u hb q=>k b u (λz=>by
  subst z
  rcases hb with rfl | hb
  ·rw[hn]at ea;cases ea
  ·rw[hn]at hb;cases hb) q) (λ_ q=>q) λ_ _ q=>q
theorem Pb(u:Un fs [] H H1 h h1)(he:h.objs.size<=e)(k:∀b u,b≠e->h1.get? b=some u->h2.get? b=some u):Un fs [] H H1 h h2:=
 have ne:∀b ob,h.get? b=some ob->b≠e:=λb ob q=>bf (bW (bG q) he)
 ⟨λb ob q n hb hx=>k _ _ (ne b ob q) (u.keep b ob q n hb hx),λb ob q n hb hx=>let ⟨sl,r⟩:=u.slot b ob q n hb hx;⟨sl,k _ _ (ne b ob q) r⟩,u.free,λb ob q hx=>let ⟨o',r⟩:=u.there b ob q hx;⟨o',k _ _ (ne b ob q) r⟩,u.tups,u.frzs,u.tbls⟩
theorem Wr(x:iQ P w H h)(hn:H a=none)(new:dy P w (upd H a o) h a o):iQ P w (upd H a o) h:=λb u eb=>by
 by_cases hb:b=a
 ·subst hb;rw[ai]at eb;cases eb;exact new
 ·rw[au hb]at eb
  exact(x b u eb).stay (λ_ _ _ q=>q) (λc q=>by rw[au (az q hn)];exact q) λc xs q=>by rw[au (az q hn)];exact q
theorem Yv(u:Un fs [] H H1 h h1)(ha:h.objs.size<=a)(hn:H a=none):Un fs [] H (upd H1 a o) h h1:=
 have ne:∀b ob,h.get? b=some ob->b≠a:=λb ob q=>bf (bW (bG q) ha)
 ⟨u.keep,u.slot,λb ob q n hx=>by rw[au (ne b ob q)];exact u.free b ob q n hx,u.there,λb xs q=>by rw[au (az q hn)];exact u.tups b xs q,λb ob xs q=>by rw[au (az q hn)];exact u.frzs b ob xs q,λb ps q=>by rw[au (az q hn)];exact u.tbls b ps q⟩
end
def yZ:Sp:=λvs H Q _=>∃a,vs=[.ref a]/\∃xs,H a=some (.tup xs)/\∀p,H p=none->Q (.ref p) (upd H p (.tup [.int xs.length,.ref a]))
section
variable {X:Cx}{pins:List (Addr×Obj)}{σ:St}{H:Hp}{s:Shared}
structure CK(X:Cx)(H:Hp)(s:Shared)(D S:Addr)(e1:Nat)(H':Hp)(s':Shared)(kA:Array Value):Prop where
 os:s'.os=s.os
 bare:AllBare s'.gens
 un:Un (pU X.stack) [] H H' s.heap s'.heap
 bz:iQ X.prog X.w H' s'.heap
 same:bP H H'
 nD:H' D=none
 nS:H' S=none
 oD:s'.heap.get? D=some (seqObj "list" #[] e1)
 oS:∃e,s'.heap.get? S=some (seqObj "list" kA e)
theorem CK.call{D S:Addr}{e1:Nat}{H':Hp}{s':Shared}{kA:Array Value}(I:Inv X pins σ H s)(m:CK X H s D S e1 H' s' kA)(hD:s.heap.objs.size<=D)(hS:s.heap.objs.size<=S){k:Nat}{f:Addr}{fd:FuncData}{pm:Str}(F:bX X.prog X.w X.K X.mg X.base gi k f fd [pm] yZ)(hr:cJ k X.A.in1.in1)
  (hb:Binds X.K fd [pm] []) {a:Addr} {xs:List V} (ha:H a=some (.tup xs)) {Q:Value->Shared->Prop} {E:Value->Shared->Prop}
  (q:∀p s2,H' p=none->CK X H s D S e1 (upd H' p (.tup [.int xs.length,.ref a])) s2 kA->Q (.ref p) s2):wpAny (model X.prog X.w) X.A.in1.in1 (call (.ref f) [.ref a]) Q E s':=by
 have I':Inv X pins σ H' s':=I.call' (ch:=[]) m.os m.un m.bz m.bare (λb z=>absurd z (by simp))
 have nfD:∀b,s.heap.objs.size<=b->b∉pU X.stack:=λb hb z=>by
  rcases bJ.mp (I.n6 b z) with z | z
  ·exact absurd (bW I.lt hb) (by rw[z];exact g7 _)
  ·exact I.aBs hb z
 refine kF (ia (F.run X.A.in1.in1 X.stack s' H' ⟨[.ref a],[]⟩ [.ref a] [.ref a] (λv H2=>∃p,v=.ref p/\H' p=none/\H2=upd H' p (.tup [.int xs.length,.ref a])) (λ_ _ _=>False) hr I'.NC.in1.in1 (hb s' [.ref a] I'.nH rfl) (.cons rfl .nil) ⟨a,rfl,xs,m.same _ _ ha,λp hp=>⟨p,rfl,hp,rfl⟩⟩) λr s2 hq=>?_)
 cases r with
 | error e=>exact False.elim hq
 | ok fl=>
  cases fl with
  | next=>exact False.elim hq
  | brk=>exact False.elim hq
  | cont=>exact False.elim hq
  | ret u=>
   refine hide λgG hG=>?_
   obtain⟨v,H2,os,bare,un,bz,rv,p,rfl,hp,rfl⟩:=hq
   refine hG ?_
   cases rv
   obtain⟨eS,oS⟩:=m.oS
   exact q p s2 hp ⟨os.trans m.os,bare,m.un.trans un,bz,m.same.trans λb u eb=>by rw[au (az eb hp)];exact eb,un.free D _ m.oD m.nD (by simp),un.free S _ oS m.nS (by simp),un.keep D _ m.oD m.nD (nfD D hD) (by simp),eS,un.keep S _ oS m.nS (nfD S hS) (by simp)⟩
theorem CK.push{D S:Addr}{e1:Nat}{H':Hp}{s':Shared}{kA:Array Value}(m:CK X H s D S e1 H' s' kA)(hS:s.heap.objs.size<=S)(Yd:D≠S)(g:Array Value->Array Value):CK X H s D S e1 H' { s' with heap:=s'.heap.update S (Obj.mapSeq g) } (g kA):=by
 obtain⟨eS,oS⟩:=m.oS
 have sb:=nV s'.heap S (Obj.mapSeq g)
 have k:∀b u,b≠S->s'.heap.get? b=some u->(s'.heap.update S (Obj.mapSeq g)).get? b=some u:=λb u nb q=>(sb.2 b nb).trans q
 exact⟨m.os,m.bare,Pb m.un hS k,Ks m.bz m.nS k,m.same,m.nD,m.nS,k _ _ Yd m.oD,_,get?_update_seq oS g⟩
def aAK(H':Hp)(as:List Addr)(ss:List (List Int))(n:Nat)(kA:Array Value):Prop:=kA.size=n/\∀(j:Nat) v,kA[j]?=some v->∃p a ns,v=.ref p/\as[j]?=some a/\ss[j]?=some ns/\H' p=some (.tup [.int (ns.length:Nat),.ref a])
theorem Nc{D S:Addr}{e1:Nat}{H0:Hp}{s0:Shared}(I:Inv X pins σ H s)(m:CK X H s D S e1 H0 s0 #[])(hD:s.heap.objs.size<=D)(hS:s.heap.objs.size<=S)(Yd:D≠S){k:Nat}{f:Addr}{fd:FuncData}{pm:Str}(F:bX X.prog X.w X.K X.mg X.base gi k f fd [pm] yZ)(hr:cJ k X.A.in1.in1)
  (hb:Binds X.K fd [pm] []) {as:List Addr} {ss:List (List Int)} (ls:as.length=ss.length) (h64:as.length<100000) (hs:∀(i:Nat) a ns,as[i]?=some a->ss[i]?=some ns->H a=some (.tup (List.map V.int ns))) {Q:PUnit->Shared->Prop} {E:Value->Shared->Prop} {body:Value->PUnit->Sem (ForInStep PUnit)}
  (gx:∀a R s1,wpAny (model X.prog X.w) X.A.in1.in1 (call (.ref f) [.ref a]) (λv s2=>wpAny (model X.prog X.w) X.A.in1.in1 (Builtin.List.listUpdate (.ref S) (·.push v)) (λ_ s3=>R (.yield ⟨⟩) s3) E s2) (λ_ _=>False) s1->wpAny (model X.prog X.w) X.A.in1.in1 (body (.ref a) ⟨⟩) R E s1)
  (q:∀H' s' kA,CK X H s D S e1 H' s' kA->aAK H' as ss as.length kA->Q ⟨⟩ s'):wpAny (model X.prog X.w) X.A.in1.in1 (forIn (as.map Value.ref) PUnit.unit body) Q E s0:=by
 refine ksk_fold (λi s'=>∃H' kA,CK X H s D S e1 H' s' kA/\aAK H' as ss i kA) (as.map Value.ref) 0 s0 ⟨H0,#[],m,rfl,λj v e=>by simp at e⟩ (λj x s1 hx hJ=>?_) λs' hd=>?_
 ·refine hide λgG hG=>?_
  obtain⟨H',kA,m1,ks,kk⟩:=hJ
  refine hG ?_
  rw[cM]at hx
  cases ea:as[j]? with
  | none=>rw[ea]at hx;cases hx
  | some a=>
   rw[ea]at hx
   cases hx
   have hj:j<as.length:=(fq.mp ea).1
   have es:ss[j]?=some ss[j]:=bq (by lia)
   refine gx a _ s1 (m1.call I hD hS F hr hb (hs j a _ ea es) λp s2 hp m2=>?_)
   obtain⟨eS,oS⟩:=m2.oS
   have z1:kA.size<=sizeLine:=ie (by lia)
   have z2:(kA.push (.ref p)).size<=sizeLine:=by rw[Array.size_push];exact ie (by lia)
   refine p9 (xs:=kA) oS rfl ⟨rfl,_,kA.push (.ref p),m2.push hS Yd (·.push (.ref p)),by rw[Array.size_push,ks],λi v ev=>?_⟩ z1 (tX z2)
   by_cases hi:i<kA.size
   ·rw[Array.getElem?_push_lt hi]at ev
    obtain⟨p',a',Og,Fn,e2',e3',e4'⟩:=kk i v (by rw[dG hi];exact ev)
    exact⟨p',a',Og,Fn,e2',e3',by rw[au (az e4' hp)];exact e4'⟩
   ·have pQ:i=kA.size:=by
     have:=(wM.mp ev).1
     rw[Array.size_push]at this
     lia
    subst pQ
    rw[Array.getElem?_push_size]at ev
    cases ev
    rw[ks,Nat.zero_add]
    exact⟨p,a,_,rfl,ea,es,by rw[ai,aM]⟩
 ·refine hide λgG hG=>?_
  obtain⟨H',kA,m1,ks,kk⟩:=hd
  refine hG ?_
  rw[aM,Nat.zero_add]at ks
  exact q H' s' kA m1 ⟨ks,kk⟩
end
section
variable {P:Program}{w:World}{H':Hp}{h:Heap}{p a:Addr}
theorem sQ{l:Int}(bz:iQ P w H' h)(e:H' p=some (.tup [.int l,.ref a])):∃t,IsTup h p #[.int l t,.ref a]:=by
 refine hide λgG hG=>?_
 obtain⟨_,its,r,ht⟩:=bz p _ e
 refine hG ?_
 cases r with
 | cons r1 r2=>
  obtain⟨t,rfl⟩:=r1
  cases r2 with
  | cons r3 r4=>
   cases r4
   cases r3
   exact⟨t,ht⟩
theorem Bf{ns:List Int}(bz:iQ P w H' h)(e:H' a=some (.tup (List.map V.int ns))):∃its,IsTup h a its/\IntsAre its.toList ns:=by
 refine hide λgG hG=>?_
 obtain⟨_,its,r,ht⟩:=bz a _ e
 refine hG ?_
 exact⟨_,ht,intsAre_of r⟩
end
section
variable {X:Cx}{pins:List (Addr×Obj)}{σ:St}{H:Hp}{s:Shared}
structure Fin(X:Cx)(H:Hp)(s:Shared)(D:Addr)(H':Hp)(s':Shared)(bs:List Addr):Prop where
 os:s'.os=s.os
 bare:AllBare s'.gens
 un:Un (pU X.stack) [] H H' s.heap s'.heap
 bz:iQ X.prog X.w H' s'.heap
 same:bP H H'
 nD:H' D=none
 oD:∃c,s'.heap.get? D=some (seqObj "list" (bs.map Value.ref).toArray c)
theorem y3{D S:Addr}{e1:Nat}{H':Hp}{s':Shared}{kA:Array Value}{bs:List Addr}{st:SortSt}{Pq:PySem.Fin->Shared->Prop}{E:Value->Shared->Prop}(m:CK X H s D S e1 H' s' kA)(hD:s.heap.objs.size<=D)(hS:s.heap.objs.size<=S)(Yd:D≠S)(hk:kA.size<=100000)(hb:bs.length<=100000)
  (R8:(arrOf st).map (·.2)=(bs.map Value.ref).toArray) (hf:failedOf st=none) (q:∀s2,Fin X H s D H' s2 bs->Pq (.done (.ret .none)) s2):wpAny (model X.prog X.w) X.A.in1.in1 (ksk_tail D false e1 (.ref S) st) Pq E s':=by
 obtain⟨eS,oS⟩:=m.oS
 have m1:=m.push hS Yd (λ_=>#[])
 have sb:=nV (s'.heap.update S (Obj.mapSeq λ_=>(#[]:Array Value))) D (Obj.mapSeq λ_=>(bs.map Value.ref).toArray)
 have k:∀b u,b≠D->(s'.heap.update S (Obj.mapSeq λ_=>(#[]:Array Value))).get? b=some u->((s'.heap.update S (Obj.mapSeq λ_=>(#[]:Array Value))).update D (Obj.mapSeq λ_=>(bs.map Value.ref).toArray)).get? b=some u:=λb u nb q=>(sb.2 b nb).trans q
 unfold ksk_tail
 dsimp only
 refine av (p9 (xs:=kA) oS rfl ?_ (ie (by lia)) (de _))
 refine av (wpAny_letGo ?_)
 refine av (seqEpoch_at m1.oD rfl ?_)
 rw[R8]
 refine av (p9 m1.oD rfl ?_ (de _) (by
  have z:((bs.map Value.ref).toArray).size<=sizeLine:=by rw[bS,aM];exact ie (by lia)
  first | exact z | exact tX z))
 rw[hf]
 simp only[Gm,ja,fu]
 exact aK (q _ ⟨m1.os,m1.bare,Pb m1.un hD k,Ks m1.bz m1.nD k,m1.same,m1.nD,_,get?_update_seq m1.oD λ_=>(bs.map Value.ref).toArray⟩)
theorem qP{h:Heap}:∀{l:List Value},(∀v∈l,∃p a,∃k:Int,∃t,v=.ref p/\IsTup h p #[.int k t,.ref a])->∃fs,KatTups h l fs/\fs.length=l.length/\∀f∈fs,∃(k:Int) (t:Tok),f=.int k t
 | [],_=>⟨[],.nil,rfl,λ_ z=>nomatch z⟩
 | v::l,hv=>by
  refine hide λgG hG=>?_
  obtain⟨p,a,k,t,rfl,o,e,c,n,d⟩:=hv v df
  obtain⟨fs,r1,r2,r3⟩:=qP (l:=l) λu hu=>hv u (cV _ hu)
  refine hG ?_
  exact⟨.int k t::fs,.cons e c d rfl r1,by rw[eV,eV,r2],λf hf=>by
   rcases bJ.mp hf with rfl | hf
   ·exact⟨k,t,rfl⟩
   ·exact r3 f hf⟩
def setB(ss:List (List Int))(i j:Nat):Bool:=bT (ss.getD i []) (ss.getD j [])
theorem getD_some{α:Type}{l:List α}{i:Nat}{x d:α}(h:l[i]?=some x):l.getD i d=x:=by rw[gH,h];rfl
theorem P6{D S:Addr}{e1:Nat}{H':Hp}{s':Shared}{kA:Array Value}{as:List Addr}{ss:List (List Int)}{Pq:PySem.Fin->Shared->Prop}{E:Value->Shared->Prop}(m:CK X H s D S e1 H' s' kA)(hu:X.A.in1.in1.units<cLine)(hD:s.heap.objs.size<=D)(hS:s.heap.objs.size<=S)(Yd:D≠S)
  (kk:aAK H' as ss as.length kA) (ls:as.length=ss.length) (h64:as.length<100000) (nd:ss.Nodup) (hs:∀(i:Nat) a ns,as[i]?=some a->ss[i]?=some ns->H a=some (.tup (List.map V.int ns)))
  (q:∀s2 p,vF p as.length->FV (setB ss) p as.length->Fin X H s D H' s2 (p.toList.map λi=>as.getD i 0)->Pq (.done (.ret .none)) s2):wpAny (model X.prog X.w) X.A.in1.in1 (ksk_end D false (as.map Value.ref).toArray e1 (.ref S) kA) Pq E s':=by
 obtain⟨ks,kv⟩:=kk
 have hzs:(kA.zip (as.map Value.ref).toArray).size=as.length:=by rw[Array.size_zip,ks,bS,aM,Nat.min_self]
 have Wj:∀i,i<as.length->∃p,kas_item (kA.zip (as.map Value.ref).toArray) i=(.ref p,.ref (as.getD i 0))/\∃a ns,as[i]?=some a/\ss[i]?=some ns/\H' p=some (.tup [.int (ns.length:Nat),.ref a]):=λi hi=>by
  have Sf:i<kA.size:=by lia
  obtain⟨p,a,ns,e1,e2,e3,e4⟩:=kv i kA[i] (dG Sf)
  refine⟨p,?_,a,ns,e2,e3,e4⟩
  unfold kas_item
  rw[jw,dG (by rw[hzs];exact hi),Option.getD_some,Array.getElem_zip,e1,getD_some e2]
  congr 1
  have:(as.map Value.ref)[i]?=some (.ref a):=by rw[cM,e2];rfl
  have h2:=fq.mp this
  simpa using h2.2
 have aBl:∀p:Array Nat,vF p as.length->(p.map (kas_item (kA.zip (as.map Value.ref).toArray))).map (·.2)=((p.toList.map λi=>as.getD i 0).map Value.ref).toArray:=λp hp=>by
  apply Array.ext'
  rw[nO,nO,uR,fY,fY]
  refine pK λi hi=>?_
  have iE:i<as.length:=by
   have:=(hp.perm.mem_iff (a:=i)).mp (by simpa using hi)
   simpa using this
  obtain⟨p',e,_⟩:=Wj i iE
  show(kas_item _ i).2=_
  rw[e]
  rfl
 have aCh:∀p:Array Nat,vF p as.length->(p.toList.map λi=>as.getD i 0).length<=100000:=λp hp=>by rw[aM,cZ,hp.size];lia
 unfold ksk_end
 dsimp only
 simp only[ja,fu]
 by_cases h2:(as.map Value.ref).toArray.size<2
 ·rw[ay h2,ay h2]
  refine av (aK ?_)
  rw[StateT.run_pure]
  refine av (aK ?_)
  dsimp only
  have hp:vF (List.toArray (List.range as.length)) as.length:=⟨Array.Perm.refl _⟩
  rw[bS,aM]at h2
  refine y3 (st:=SortSt.mk' general' (kA.zip (as.map Value.ref).toArray) #[] 7 none) m hD hS Yd (by lia) (aCh _ hp) ?_ rfl λs2 f=>q s2 _ hp (λi hi=>by lia) f
  rw[<-aBl _ hp]
  have:(List.toArray (List.range as.length)).map (kas_item (kA.zip (as.map Value.ref).toArray))=kA.zip (as.map Value.ref).toArray:=by
   have:=kas_range (kA.zip (as.map Value.ref).toArray)
   rwa [hzs]at this
  rw[this]
 ·rw[aE h2,aE h2]
  rw[bS,aM]at h2
  have Ug:2<=as.length:=by lia
  have tups:∀v∈kA.toList,∃p a,∃k:Int,∃t,v=.ref p/\IsTup s'.heap p #[.int k t,.ref a]:=λv hv=>by
   obtain⟨i,hi,rfl⟩:=uU.mp hv
   obtain⟨p,a,ns,e1,e2,e3,e4⟩:=kv i (kA.toList[i]) (by rw[<-j7];exact bq hi)
   obtain⟨t,ht⟩:=sQ m.bz e4
   exact⟨p,a,_,t,e1,ht⟩
  refine hide λgG hG=>?_
  obtain⟨fs,kt,lf,hf⟩:=qP tups
  refine hG ?_
  have kind:wpAny (model X.prog X.w) X.A.in1.in1 (keyKind' kA) (λκ s2=>κ=tuples' true/\s2=s') E s':=by
   have:=kat_kind (M:=model X.prog X.w) (A:=X.A.in1.in1) (E:=E) (s:=s') (T:=Value.type "int") (Q:=λκ s2=>κ=tuples' true/\s2=s') kt (by rw[lf,cZ];lia) (λv hv=>by
    obtain⟨k,t,rfl⟩:=hf v hv
    exact .now) (by decide) ⟨by congr 1,rfl⟩
   rwa [Array.toArray_toList]at this
  refine av (cL kind (λκ s2 ⟨e1,e2⟩=>?_) λ_ _ x=>x)
  subst e1 e2
  have hn:0<as.length:=by lia
  have obj:∀i,i<as.length->∃p a t its,∃k:Int,(kas_item (kA.zip (as.map Value.ref).toArray) i).1=.ref p/\IsTup s2.heap p #[.int k t,.ref a]/\IsTup s2.heap a its/\IntsAre its.toList (ss.getD i [])/\k=(ss.getD i []).length:=λi hi=>by
   refine hide λgG hG=>?_
   obtain⟨p,e,a,ns,e2,e3,e4⟩:=Wj i hi
   obtain⟨t,ht⟩:=sQ m.bz e4
   obtain⟨its,ha,hia⟩:=Bf m.bz (m.same _ _ (hs i a ns e2 e3))
   refine hG ?_
   exact⟨p,a,t,its,_,by rw[e],ht,ha,by rw[getD_some e3];exact hia,by rw[getD_some e3]⟩
  have ssD:∀i,i<as.length->ss[i]?=some (ss.getD i []):=λi hi=>by
   rw[gH,bq (by lia)];rfl
  have inj:∀i j,i<as.length->j<as.length->kas_item (kA.zip (as.map Value.ref).toArray) i=kas_item (kA.zip (as.map Value.ref).toArray) j->i=j:=λi j hi hj e=>by
   refine hide λgG hG=>?_
   obtain⟨p,e1,a,ns,f1,f2,_⟩:=Wj i hi
   obtain⟨p',Fn,a',Og,f1',f2',_⟩:=Wj j hj
   refine hG ?_
   rw[e1,Fn]at e
   injection e with _ e2
   injection e2 with e2
   rw[getD_some f1,getD_some f1']at e2
   subst e2
   have g1:=hs i a ns f1 f2
   have g2:=hs j a Og f1' f2'
   rw[g1]at g2
   have e3:ns=Og:=by
    injection g2 with g2
    injection g2 with g2
    exact(wF λ_ _ h=>V.int.inj h).mp g2
   subst e3
   have h1:=(fq.mp f2)
   have h2:=(fq.mp f2')
   exact(tU nd).mp (h1.2.trans h2.2.symm)
  have run:=DN (prog:=X.prog) (w:=X.w) (A:=X.A.in1.in1) (E:=E) (κ:=tuples' true) (item:=kas_item (kA.zip (as.map Value.ref).toArray)) (n:=as.length) (b:=setB ss) (s:=s2) (it:=kA.zip (as.map Value.ref).toArray) inj
   (by have:=o6 nd;rw[<-ls]at this;exact this) Ug (λi j C hi hj hC=>by
    refine hide λgG hG=>?_
    obtain⟨p,a,t,its,k,e1,t1,t2,t3,t4⟩:=obj i hi
    obtain⟨p',a',t',its',k',Fn,t1',t2',t3',t4'⟩:=obj j hj
    refine hG ?_
    rw[e1,Fn]
    exact K6 hu t1 t1' t2 t2' t3 t3' t4 t4' hC) (by
    have:=kas_range (kA.zip (as.map Value.ref).toArray)
    rw[hzs]at this
    have e:=fD Array.toList this
    rw[nO,uR]at e
    exact e.symm)
  refine av (cL run (λr s3 ⟨e,p,hp,ha,e1,e2⟩=>?_) λ_ _ x=>x)
  obtain⟨⟨⟩,bC⟩:=r
  subst e
  dsimp only
  exact y3 m hD hS Yd (by lia) (aCh _ hp) (by rw[e1];exact aBl p hp) e2 λs4 f=>q s4 p hp ha f
end
theorem Df:∀l:List Addr,Vals (List.map V.ref l) (List.map Value.ref l)
 | []=>.nil
 | a::l=>.cons rfl (Df l)
section
variable {X:Cx}{pins:List (Addr×Obj)}{σ:St}{H:Hp}{s:Shared}
theorem Hf{k:Nat}{f:Addr}{fd:FuncData}{pm:Str}{x:Value}{as:List Addr}{ss:List (List Int)}{Q:VK}(I:Inv X pins σ H s)(F:bX X.prog X.w X.K X.mg X.base gi k f fd [pm] yZ)(hr:cJ k X.A.in1.in1)(hb:Binds X.K fd [pm] [])
  (ls:as.length=ss.length) (h64:as.length<100000) (nd:ss.Nodup) (hs:∀(i:Nat) a ns,as[i]?=some a->ss[i]?=some ns->H a=some (.tup (List.map V.int ns)))
  (hc:∀(Q':List Value->Shared->Prop),(∀s',(∀b o,s.heap.get? b=some o->s'.heap.get? b=some o)->s.heap.objs.size<=s'.heap.objs.size->s'.gens=s.gens->s'.os=s.os->Q' (as.map Value.ref) s')->wpAny (model X.prog X.w) X.A.in1 (collect x) Q' X.xe s)
  (q:∀D H' p,bP H H'->H D=none->vF p as.length->FV (setB ss) p as.length->H' D=some (.lst (List.map V.ref (p.toList.map λi=>as.getD i 0)))->Q (.ref D) H') :
  wpAny (model X.prog X.w) X.A (PySem.call (.builtin "sorted") [x] [(Str.ofString "key",.ref f)]) (EP X pins σ Q) X.xe s:=by
 refine call_function_entry_kw kind_sorted plain_sorted entry_sorted (ksk_s1 _ _) ?_
 unfold Builtin.«sorted»
 refine av (m:=checkCount "sorted" 1 1 _) (aK ?_)
 refine av (hc _ λs1 k1 z1 g1 o1=>?_)
 refine av (wm ?_ (by rw[aM];exact ie (by lia)))
 have Np:(s1.heap.push (seqObj "list" (as.map Value.ref).toArray 0)).get? s1.heap.objs.size=some (seqObj "list" (as.map Value.ref).toArray 0):=cC _ rfl
 refine av (js (wpAny_call_entry_kw slot_list_sort ⟨_,Np,rfl⟩ entry_list_sort ?body (ksk_l1 _ _)))
 case body=>
  show wpAny (model X.prog X.w) X.A.in1.in1 (Builtin.«list.sort» ⟨[.ref s1.heap.objs.size],[(Str.ofString "key",.ref f)]⟩) _ _ _
  rw[ksk_t1]
  unfold ksk_tree
  have lv:(as.map Value.ref).toArray.size<=sizeLine:=by rw[bS,aM];exact ie (by lia)
  obtain⟨e1,aBC⟩:∃e1,((s1.heap.push (seqObj "list" (as.map Value.ref).toArray 0)).update s1.heap.objs.size (Obj.mapSeq λ_=>(#[]:Array Value))).get? s1.heap.objs.size=some (seqObj "list" #[] e1):=⟨_,get?_update_seq Np λ_=>#[]⟩
  have sb:=nV (s1.heap.push (seqObj "list" (as.map Value.ref).toArray 0)) s1.heap.objs.size (Obj.mapSeq λ_=>(#[]:Array Value))
  have aA2:((s1.heap.push (seqObj "list" (as.map Value.ref).toArray 0)).update s1.heap.objs.size (Obj.mapSeq λ_=>(#[]:Array Value))).objs.size=s1.heap.objs.size+1:=by rw[Heap.size_update,size_push']
  refine av (listItems_at Np rfl ?_)
  refine av (p9 Np rfl ?_ lv (de _))
  refine av (seqEpoch_at aBC rfl ?_)
  refine av (wpAny_newTuple ?_ (by rw[uR,aM];exact ie (by lia)))
  refine av (wm ?_ (de _))
  refine js ?_
  have Xp:(((s1.heap.push (seqObj "list" (as.map Value.ref).toArray 0)).update s1.heap.objs.size (Obj.mapSeq λ_=>(#[]:Array Value))).push (seqObj "tuple" (as.map Value.ref).toArray 0)).objs.size=s1.heap.objs.size+2:=by rw[size_push',aA2]
  have keep:∀b o,s.heap.get? b=some o->((((s1.heap.push (seqObj "list" (as.map Value.ref).toArray 0)).update s1.heap.objs.size (Obj.mapSeq λ_=>(#[]:Array Value))).push (seqObj "tuple" (as.map Value.ref).toArray 0)).push (seqObj "list" #[] 0)).get? b=some o:=λb o e=>by
   have lb:b<s1.heap.objs.size:=bW (bG e) z1
   exact bN _ (bN _ ((sb.2 b (bf lb)).trans (bN _ (k1 b o e))))
  have m0:CK X H s s1.heap.objs.size (s1.heap.objs.size+2) e1 H { s1 with heap:=(((s1.heap.push (seqObj "list" (as.map Value.ref).toArray 0)).update s1.heap.objs.size (Obj.mapSeq λ_=>(#[]:Array Value))).push (seqObj "tuple" (as.map Value.ref).toArray 0)).push (seqObj "list" #[] 0) } #[]:=
   ⟨o1,by show AllBare s1.gens;rw[g1];exact I.bare,Un.kept keep,I.bz.kept keep,bP.refl H,I.bz.fresh z1,I.bz.fresh (by lia),bN _ (bN _ aBC),0,by rw[<-Xp];exact cC _ rfl⟩
  unfold ksk_rest
  refine av (jj ?_)
  rw[<-Array.forIn_toList,uR]
  show wpAny (model X.prog X.w) X.A.in1.in1 _ _ X.xe { s1 with heap:=(((s1.heap.push (seqObj "list" (as.map Value.ref).toArray 0)).update s1.heap.objs.size (Obj.mapSeq λ_=>(#[]:Array Value))).push (seqObj "tuple" (as.map Value.ref).toArray 0)).push (seqObj "list" #[] 0) }
  rw[Xp]
  refine av (Nc I m0 z1 (by lia:s.heap.objs.size<=s1.heap.objs.size+2) (by lia:s1.heap.objs.size≠s1.heap.objs.size+2) F hr hb ls h64 hs (λa R s2 hw=>?_) λH' s' kA m kk=>?_)
  ·refine av (tP (cL hw (λv s3 h3=>?_) λ_ _ hF=>hF.elim))
   dsimp only
   exact av (cL h3 (λ_ s4 h4=>aK h4) λ_ _ x=>x)
  ·obtain⟨eS,oS⟩:=m.oS
   refine av (listItems_at oS rfl ?_)
   refine P6 m hr.gd z1 (by lia:s.heap.objs.size<=s1.heap.objs.size+2) (by lia:s1.heap.objs.size≠s1.heap.objs.size+2) kk ls h64 nd hs λs2 p hp ha fin=>⟨_,rfl,?_⟩
   obtain⟨c,oD⟩:=fin.oD
   have hn:H s1.heap.objs.size=none:=I.bz.fresh z1
   have bl:(List.map V.ref (p.toList.map λi=>as.getD i 0)).length<=sizeLine:=by rw[aM,aM,cZ,hp.size];exact ie (by lia)
   have I2:Inv X pins σ (upd H' s1.heap.objs.size (.lst (List.map V.ref (p.toList.map λi=>as.getD i 0)))) s2:=I.call' (ch:=[]) fin.os (Yv fin.un z1 hn) (Wr fin.bz fin.nD ⟨bl,_,c,Df _,oD⟩) fin.bare (λb z=>absurd z (by simp))
   exact aK ⟨_,rfl,.ref s1.heap.objs.size,_,I2,rfl,q _ _ p (fin.same.trans λb u eb=>by rw[au (az eb fin.nD)];exact eb) hn hp ha ai⟩
end
def pX(h:Heap)(d:Addr)(es:Array DictEntry)(ep:Nat):Prop:=∃o,h.get? d=some o/\o.ExactDict/\o.data=.dict es ep
section
variable {P:Program}{w:World}{A:Around}{E:Value->Shared->Prop}{s:Shared}{d it:Addr}{es:Array DictEntry}{ep i:Nat}
theorem pX.ty(r:pX s.heap d es ep):s.TypeIs (.ref d) "dict":=let ⟨o,e,c,_⟩:=r;⟨o,e,c.1⟩
theorem pX.on{h h':Heap}(r:pX h d es ep)(k:∀o,h.get? d=some o->h'.get? d=some o):pX h' d es ep:=let ⟨o,e,c⟩:=r;⟨o,k _ e,c⟩
theorem Qk{Q:Value->Shared->Prop}(lo:(d==sysModules)=false)(r:pX s.heap d es ep)(q:Q (.ref s.heap.objs.size) { s with heap:=s.heap.push { cls:=.type "dict_keyiterator",data:=.fields #[.ref d,.int 0 0,.int es.size 0,.int ep 0] } }) :
  wpAny (model P w) A (pyIter (.ref d)) Q E s:=by
 have ty:=r.ty
 refine hide λgG hG=>?_
 obtain⟨o,ho,hc,Wx⟩:=r
 refine hG ?_
 refine wpAny_pyIter_slot ty PySem.F.slot_dict_iter (nL PySem.F.slot_dict_iter ty PySem.F.entry_dict_iter ?_ (PySem.F.args_dict_iter_1 _))
 unfold Builtin.«dict.__iter__»
 refine av ?_
 unfold Builtin.Dict.dictSlotNone
 refine av (wpAny_notOrdered_dict ty (aK ?_))
 refine(?_:wpAny (model P w) _ (Builtin.Dict.showsAll d >>= _) _ _ s)
 unfold Builtin.Dict.showsAll
 rw[aE (λz=>by rw[lo]at z;cases z)]
 refine av (aK (av (wpAny_dictEntries ho Wx (av (wpAny_dictEpoch ho Wx ?_)))))
 refine av (iY (aK ⟨_,rfl,"dict_keyiterator",_,⟨_,cC _ rfl,rfl⟩,CZ.lookup,?_⟩))
 exact q
theorem Ql{Q:Option Value->Shared->Prop}(ki:s.heap.IsKeyIter it d i es.size ep)(r:pX s.heap d es ep)(hi:i<es.size)
  (q:∀h',h'.IsKeyIter it d (i+1) es.size ep->Heap.SameBut it s.heap h'->Q (some es[i].key) { s with heap:=h' }):wpAny (model P w) A (pyNext (.ref it)) Q E s:=by
 refine hide λgG hG=>?_
 obtain⟨o,ho,hc,hd⟩:=id ki
 obtain⟨od,hod,_,hdd⟩:=id r
 refine hG ?_
 have ty:=ki.typeIs
 unfold pyNext
 refine av (tP (t5 (name:=Str.ofString "__next__") ty CZ (nL CZ ty OD ?_ (OJ _))))
 refine av (aK (av (av ?_)))
 first | refine av (Ap ty (aK (av (tR ho hd ?_)))) | refine av (Al ty (aK (av (tR ho hd ?_))))
 rw[show Builtin.Dict_items.ownsTuple "dict_keyiterator" = false by decide]
 simp only[ja,fu]
 refine(?_:wpAny (model P w) _ (if (Value.ref d==Value.none)=true then _ else _) _ _ s)
 rw[aE (λz=>by cases z)]
 refine av (aK (av (wpAny_dictEntries hod hdd ?_)))
 rw[aE (by simp)]
 refine av (aK (av (wpAny_dictEpoch hod hdd ?_)))
 rw[aE (by simp)]
 refine aK ?_
 simp only[show ¬((i:Int)<0) from by omega,fu,nR,dG hi]
 refine av ?_
 first | refine av (Ap ty (aK (av (Gr ty ?_)))) | refine av (Al ty (aK (av (Gr ty ?_))))
 refine(?_:wpAny (model P w) _ (setField (.ref it) 1 (rawInt ((i:Int)+1)) >>= _) _ _ s)
 refine av (wq ho hd (by simp) ?_)
 have ki':(s.heap.update it (Obj.mapFields (·.setIfInBounds 1 (rawInt ((i:Int)+1))))).IsKeyIter it d (i+1) es.size ep:=by
  refine⟨_,pL _ ho (Gp (wC hd _)),(Obj.cls_mapFields ..).trans hc,?_⟩
  rw[wC hd]
  simp[rawInt]
 refine av (js (av (Gr (s:={ s with heap:=s.heap.update it (Obj.mapFields (·.setIfInBounds 1 (rawInt ((i:Int)+1)))) }) ki'.typeIs ?_)))
 exact aK (aK ⟨_,rfl,aK (q _ ki' (nV ..))⟩)
theorem Vd{Q:Option Value->Shared->Prop}(hh:A.handled=none)(ki:s.heap.IsKeyIter it d i es.size ep)(r:pX s.heap d es ep)(hi:es.size<=i)
  (q:∀h',Heap.ExtBut it s.heap h'->Q none { s with heap:=h' }):wpAny (model P w) A (pyNext (.ref it)) Q E s:=by
 refine hide λgG hG=>?_
 obtain⟨o,ho,hc,hd⟩:=id ki
 obtain⟨od,hod,_,hdd⟩:=id r
 refine hG ?_
 have ty:=ki.typeIs
 unfold pyNext
 refine av (tP (t5 (name:=Str.ofString "__next__") ty CZ (nL CZ ty OD ?_ (OJ _))))
 refine av (aK (av (av ?_)))
 first | refine av (Ap ty (aK (av (tR ho hd ?_)))) | refine av (Al ty (aK (av (tR ho hd ?_))))
 rw[show Builtin.Dict_items.ownsTuple "dict_keyiterator" = false by decide]
 simp only[ja,fu]
 refine(?_:wpAny (model P w) _ (if (Value.ref d==Value.none)=true then _ else _) _ _ s)
 rw[aE (λz=>by cases z)]
 refine av (aK (av (wpAny_dictEntries hod hdd ?_)))
 rw[aE (by simp)]
 refine av (aK (av (wpAny_dictEpoch hod hdd ?_)))
 rw[aE (by simp)]
 refine aK ?_
 simp only[show ¬((i:Int)<0) from by omega,fu,nR,GK hi]
 refine av ?_
 first | refine av (Ap ty (aK ?_)) | refine av (Al ty (aK ?_))
 refine(?_:wpAny (model P w) _ (setField (.ref it) 0 .none >>= _) _ _ s)
 refine av (wq ho hd (by simp) ?_)
 refine(?_:wpAny (model P w) _ (newExc (.type "StopIteration") [] >>= _) _ _ _)
 refine av ?_
 simp only[newExc,newTuple]
 refine av (iY ?_ (by size_fits))
 refine av (m:=firstArgMember _ _) (wa (a:=Value.none)
  (by first | rfl | (simp only[firstArgMember];rfl)) ?_)
 refine iY ?_ (by size_fits)
 simp only[raiseNew]
 refine av (wpAny_handled ?_)
 rw[show A.in1.handled=none from hh]
 refine av (aK (wpAny_throw ?_))
 refine av (z4 (T:="StopIteration") (b:=true)
  ⟨_,cC _ rfl,rfl⟩ isSubtype_stop ?_)
 exact aK (q _ (((nV ..).extBut.push _).push _))
theorem Mq(hh:A.handled=none)(ne:d≠it):Walks P w A it [it,d] [it] es.size (λj v=>(es[j]?.map λe=>e.key)=some v) (λj h=>h.IsKeyIter it d j es.size ep/\pX h d es ep) where
 sub:=λb hb=>by simp at hb;simp[hb]
 frame:=λ_ _ _ st hk=>⟨st.1.at λo e=>hk it (by simp) o e,st.2.on λo e=>hk d (by simp) o e⟩
 item:=λj s Q E hj st hQ=>Ql st.1 st.2 hj λh' k1 k2=>by
  refine hQ _ h' s.toks (by rw[dG hj];rfl) ⟨k1,st.2.on λo e=>k2.extBut d o ne e⟩ λb o hb e=>?_
  exact k2.extBut b o (λz=>hb (by simp[z])) e
 done:=λs Q E st hQ=>Vd hh st.1 st.2 (bj _) λh' k=>by
  refine hQ h' s.toks λb o hb e=>?_
  exact k b o (λz=>hb (by simp[z])) e
 self:=λ_ _ _ _ st hQ=>wpAny_pyIter_keyiter st.1 hQ
theorem Vc(lo:(d==sysModules)=false):KdlSrc P w "dict" d d es.size (λj v=>(es[j]?.map λe=>e.key)=some v) (λh=>pX h d es ep) where
 type:=λ_ r=>r.ty
 there:=λ_ ⟨_,e,_⟩=>⟨bG e,bG e⟩
 keep:=λ_ _ r hk=>r.on λo e=>hk d (.inl rfl) o e
 notList:=by decide
 notTuple:=by decide
 hint:=λ_ _ _ _ r hq=>kdl_hint_dict r.ty hq
 iter:=λ_ s hh r=>⟨_,_,(λ_ _ hq=>Qk lo r hq),Mq hh (by obtain⟨_,e,_⟩:=r;exact bf (bG e)),⟨⟨_,cC _ rfl,rfl,rfl⟩,r.on λo e=>bN _ e⟩⟩
end
def aL(H:Hp)(bs:List Addr)(ts:List (List Int)):Prop:=bs.length=ts.length/\∀(i:Nat) b t,bs[i]?=some b->ts[i]?=some t->H b=some (.tup (List.map V.int t))
def Qt(x:V)(H:Hp)(Q:VK):Prop:=∃d,x=.ref d/\∃aO ss,H d=some (.dT aO)/\aO.map (·.1)=ss.map (List.map Sum.inl)/\ss.length<100000/\
 ∀D H' bs ts,bP H H'->H D=none->H' D=some (.lst (List.map V.ref bs))->aL H' bs ts->ts.Perm ss->ts.Pairwise (λa b=>bT a b=true)->Q (.ref D) H'
def wR(te:TE):TE:=λσ H Q=>te σ H λx H1=>Qt x H1 Q
theorem ox(ns:List Int):List.map kV (List.map Sum.inl ns)=List.map V.int ns:=by rw[fY];rfl
theorem aAH{ss:List (List Int)}{p:Array Nat}(hp:vF p ss.length)(O:Ord (setB ss) ss.length)(a:FV (setB ss) p ss.length)(h0:0<ss.length):(p.toList.map λi=>ss.getD i []).Pairwise λx y=>bT x y=true:=by
 rw[Ac,uZ]
 intro i j hi hj Sd
 have hs:=hp.size
 rw[cZ]at hi hj
 have:=FV.lt O hp h0 a (bj _) Sd (by lia)
 have e:∀k (hk:k<p.size),x9 p k=p.toList[k]'(by simpa using hk):=λk hk=>by
  unfold x9
  rw[jw,dG hk]
  simp
 rw[e i hi,e j hj]at this
 exact this
theorem Vy{α:Type}{l:List α}{p:Array Nat}{d:α}(hp:vF p l.length):(p.toList.map λi=>l.getD i d).Perm l:=by
 have h1:p.toList.Perm (List.range l.length):=by simpa using v9.mp hp.perm
 have h2:=h1.map λi=>l.getD i d
 have e:(List.range l.length).map (λi=>l.getD i d)=l:=by
  apply rG
  intro i
  rw[cM]
  by_cases hi:i<l.length
  ·rw[List.getElem?_range hi,bq hi]
   simp[gH,bq hi]
  ·rw[lB (by simpa using hi),lB (by lia)]
   rfl
 rwa [e]at h2
theorem sI{α β:Type}{f:α->β}:∀{l:List α},(l.map f).Nodup->l.Nodup
 | [],_=>qd
 | a::l,h=>by
  rw[dZ,m5]at h
  exact m5.mpr ⟨λz=>h.1 (wI z),sI h.2⟩
theorem zh{α β:Type}{F:α->β->Prop}:∀{l:List α} {m:List β},Paired F l m->∀{i:Nat} {b:β},m[i]?=some b->∃a,l[i]?=some a/\F a b
 | _,_,.nil,i,b,h=>by simp at h
 | _,_,.cons (a:=a) r rs,i,b,h=>by
  cases i with
  | zero=>cases h;exact⟨a,rfl,r⟩
  | succ n=>exact zh rs (i:=n) h
section
variable {X:Cx}{k:Nat}{f:Addr}{fd:FuncData}{pm g:Str}{e:Expr}{te:TE}{p kp kpos pos:Pos}
theorem Q5(hg:Gl X g)(hm:X.mg g=some (.ref f))(uB:(g==("__debug__" : Str))=false):PE X (.Name g kp) (tC (.ref f)):=λpins s σ H Q I h=>pd I hg hm ⟨.ref f,H,I,rfl,h⟩ uB
theorem QZ(F:bX X.prog X.w X.K X.mg X.base gi k f fd [pm] yZ)(hr:cJ (k+2) X.A)(hg:Gl X "sorted")(hm:X.mg "sorted" = none)(hv:bootBuiltins "sorted" = some (.builtin "sorted"))(hgf:Gl X g)(hmf:X.mg g=some (.ref f))(hb:Binds X.K fd [pm] [])(ha:PE X e te)
  (uB:(g==("__debug__" : Str))=false:=by decide) (he:starEach [e] X.env=[(false,eval e X.env)]:=by rfl) :
  PE X (.Call (.Name "sorted" p) [e] [⟨some "key",.Name g kp,kpos⟩] pos) (wR te):=by
 intro pins s σ H Q I h
 refine nU (uv I hg hm hv ?_)
 refine callWith_kw (cT ((vU ha Hu he) pos pins s σ H (λvs H1=>match vs with | [x]=>Qt x H1 Q | _=>False) I h) λus s1 ⟨vs,H1,I1,r1,q1⟩=>?_) (by rw[he];rfl) (by rw[he];rfl)
 match vs,r1,q1 with
 | [x],r1,q1=>
  obtain⟨u,rfl,ru⟩:=vals1 r1
  refine cT ((VD (nm:=some (Str.ofString "key")) (kpos:=kpos) (Q5 (kp:=kp) hgf hmf uB) Zo) pos pins s1 σ H1 (λzs H2=>zs=[.ref f]/\H2=H1) I1 ⟨rfl,rfl⟩) λws s2 ⟨zs,H2,I2,r2,ez,eh⟩=>?_
  subst ez eh
  obtain⟨u2,rfl,ru2⟩:=vals1 r2
  cases ru2
  obtain⟨d,rfl,aO,ss,hd,ek,l64,q⟩:=q1
  cases ru
  obtain⟨zl,lo,xs,pr,o,es,ep,ho,hx,Wx,hes,nd⟩:=I2.bz d _ hd
  have lx:aO.length=xs.length:=pr.length
  have lk:aO.length=ss.length:=by have:=fD List.length ek;simpa using this
  have at':∀(i:Nat) x,xs[i]?=some x->∃kv,aO[i]?=some kv/\kv.1=x.1/\H2 x.2.1=some (.tup (kv.1.map kV)):=λi x hx=>by
   obtain⟨kv,e1,e2⟩:=zh pr hx
   exact⟨kv,e1,e2.1,e2.2.1⟩
  have sets:∀(i:Nat) a ns,(xs.map (·.2.1))[i]?=some a->ss[i]?=some ns->H2 a=some (.tup (List.map V.int ns)):=λi a ns ha Ub=>by
   rw[cM]at ha
   cases ex:xs[i]? with
   | none=>rw[ex]at ha;cases ha
   | some x=>
    rw[ex]at ha
    cases ha
    obtain⟨kv,e1,_,e3⟩:=at' i x ex
    have:(aO.map (·.1))[i]?=some (ns.map Sum.inl):=by rw[ek,cM,Ub];rfl
    rw[cM,e1]at this
    have e4:kv.1=ns.map Sum.inl:=fw this
    rw[e4,ox]at e3
    exact e3
  have nds:ss.Nodup:=by
   have e5:xs.map (·.1)=ss.map (List.map Sum.inl):=by
    rw[<-ek]
    apply rG
    intro i
    rw[cM,cM]
    cases ex:xs[i]? with
    | none=>rw[lB (by have:=List.getElem?_eq_none_iff.mp ex;lia)];rfl
    | some x=>obtain⟨kv,e1,e2,_⟩:=at' i x ex;rw[e1];exact fD some e2.symm
   rw[e5]at nd
   exact sI nd
  have lss:(xs.map (·.2.1)).length=ss.length:=by rw[aM];lia
  refine Hf (as:=xs.map (·.2.1)) (ss:=ss) I2 F hr.in1.in1 hb lss (by lia) nds sets (λQ' hQ'=>?_) λD H' p sm hD hp ha hl=>?_
  ·refine Fw (A:=X.A.in1) (Vc (es:=es) (ep:=ep) lo) hr.hd ⟨o,ho,hx,Wx⟩ (by rw[show es.size=aO.length by rw[<-cZ,hes,aM];lia];exact zl) λs' vs k1 k2 k3 k4 k5 k6=>?_
   have e6:vs=(xs.map (·.2.1)).map Value.ref:=by
    apply rG
    intro i
    cases ev:vs[i]? with
    | none=>
     have:=List.getElem?_eq_none_iff.mp ev
     rw[lB]
     rw[aM,aM]
     have:es.size=xs.length:=by rw[<-cZ,hes,aM]
     lia
    | some v=>
     have h1:=k6 i v ev
     rw[<-j7,hes,cM]at h1
     rw[cM,cM]
     cases ex:xs[i]? with
     | none=>rw[ex]at h1;cases h1
     | some x=>rw[ex]at h1;exact h1.symm
   rw[e6]at *
   exact hQ' s' k1 k2 k3 k4
  ·have hpS:vF p ss.length:=by rw[<-lss];exact hp
   have haS:FV (setB ss) p ss.length:=by rw[<-lss];exact ha
   refine q D H' (p.toList.map λi=>(xs.map (·.2.1)).getD i 0) (p.toList.map λi=>ss.getD i []) sm hD hl ⟨by simp,λi b t hb ht=>?_⟩ (Vy hpS) ?_
   ·rw[cM]at hb ht
    cases ei:p.toList[i]? with
    | none=>rw[ei]at hb;cases hb
    | some j=>
     rw[ei]at hb ht
     have hj:j<ss.length:=by
      have:=(hpS.perm.mem_iff (a:=j)).mp (by simpa using j6 ei)
      simpa using this
     have hb':(xs.map (·.2.1)).getD j 0=b:=fw hb
     have R5:ss.getD j []=t:=fw ht
     refine sm _ _ (sets j b t ?_ ?_)
     ·rw[<-hb',gH,bq (by lia)];rfl
     ·rw[<-R5,gH,bq hj];rfl
   ·by_cases h0:0<ss.length
    ·exact aAH hpS (o6 nds) haS h0
    ·have:p.toList=[]:=by
      have:=hpS.size
      exact Oy (by rw[cZ];lia)
     rw[this]
     exact List.Pairwise.nil
end
section
variable {X:Cx}
def aCp(i j:Int):Prop:=0<j/\j<2 ^ 300
theorem Rh:pG X (binaryOp .FloorDiv) (rI aCp λi j=>.int (i / j)):=opI λi j _ _ _ _ _ hc q=>by
 have h1:(0:Int)<j:=hc.1
 have h2:j<2 ^ 300:=hc.2
 refine floordiv_int (by omega) (by rw[Int.fdiv_eq_ediv_of_nonneg i (by omega)];exact q) (.inl (PyProof.noPylong_of_log2 ?_))
 have h3:j.natAbs<2 ^ 300:=by omega
 have h4:j.natAbs≠0:=by omega
 have:=(Nat.log2_lt h4).mpr h3
 omega
def Ka:List V->Hp->VK->Prop:=λvs H Q=>∃a,vs=[.ref a]/\∃bs:List Bool,H a=some (.lst (bs.map V.bl))/\Q (.bl (bs.any id)) H
theorem N3:∀{bs:List Bool} {us:List Value},Vals (bs.map V.bl) us->∀(i:Nat) (v:Value),us[i]?=some v->v=.bool (bs.getD i false):=by
 intro bs
 induction bs with
 | nil=>intro us r i v h;cases r;cases i <;> cases h
 | cons b bs ih=>
  intro us r i v h
  rw[dZ]at r
  cases r with
  | cons r1 r2=>
   cases r1
   cases i with
   | zero=>cases h;rfl
   | succ i=>exact ih r2 i v (by simpa using h)
theorem any_range:∀(bs:List Bool),((List.range bs.length).any λi=>bs.getD i false)=bs.any id
 | []=>rfl
 | b::bs=>by
  rw[eV,List.range_succ_eq_map,qb,tQ,qb,<-any_range bs]
  rfl
theorem pk(hh:X.A.handled=none):fz X (.builtin "any") Ka:=by
 intro pins s σ H vs us Q I rv h
 obtain⟨a,rfl,bs,hq,q⟩:=h
 obtain⟨u,rfl,ru⟩:=vals1 rv
 cases ru
 obtain⟨its,r,pl,hz⟩:=I.list (aX hq)
 have hl:=r.length
 rw[aM]at hl
 have lt:a<s.heap.objs.size:=let ⟨_,e,_⟩:=pl.isList;bG e
 refine call_any_walk (z8 pl.isList ⟨s.heap.objs.size,_,_,its.toArray.size,_,_,λi=>bs.getD i false,rfl,Walks.list (A:=X.A.in1) hh _ a (bf lt) its.toArray,⟨⟨_,cC _ rfl,rfl,rfl⟩,(pl.isList).push _⟩,?_,λh' tk mv=>?_⟩)
 ·intro i v s1 Q1 E1 hv hq1
  have:v=.bool (bs.getD i false):=N3 r i v (by simpa using hv)
  subst this
  exact aK hq1
 ·rw[bS,<-hl,any_range]
  have k:∀b o,s.heap.get? b=some o->h'.get? b=some o:=λb o e=>mv b o (λz=>absurd (bG e) (by rw[cG.mp z];exact g7 _)) (bN _ e)
  exact⟨.bl (bs.any id),H,I.un (t':=tk) (Un.kept k) (I.bz.kept k),rfl,q⟩
variable {k:Nat}{f:Addr}{fd:FuncData}{pm g:Str}{e:Expr}{te:TE}{p kp kpos pos:Pos}
theorem Lr(F:bX X.prog X.w X.K X.mg X.base gi k f fd [pm] yZ)(hr:cJ (k+2) X.A)(hg:Gl X "sorted")(hm:X.mg "sorted" = none)(hv:bootBuiltins "sorted" = some (.builtin "sorted"))(hgf:Gl X g)(hmf:X.mg g=some (.ref f))(hb:Binds X.K fd [pm] [])(ha:ZE X e te)
  (uB:(g==("__debug__" : Str))=false:=by decide) (he:starEach [e] X.env=[(false,eval e X.env)]:=by rfl) :
  ZE X (.Call (.Name "sorted" p) [e] [⟨some "key",.Name g kp,kpos⟩] pos) (wR te):=⟨QZ F hr hg hm hv hgf hmf hb ha.to uB he⟩
def Bj:V->List V->Hp->VK->Prop:=λx vs H Q=>∃l i y,x=.ref l/\vs=[.int i,y]/\∃xs,H l=some (.lst xs)/\0<=i/\i<=xs.length/\xs.length<100000/\Q .non (upd H l (.lst (xs.take i.toNat++y::xs.drop i.toNat)))
end
end L2
namespace L2
open PySem PySem.Spec PySem.W PyProof.Rows Builtin
theorem yM{X:Cx}{pos:Pos}:ZE X (.Dict [] [] pos) wU:=⟨Q6⟩
end L2
end
section
namespace L2
open PySem PySem.Spec PyProof.Rows
def aAL(K:PySem.W.Frag)(a:Addr)(n:Nat):It:=
 ⟨λi H=>i<n/\∃xs,rE K H a xs/\xs.length=n,λi H x H'=>H'=H/\∀xs,rE K H a xs->xs[n-1-i]?=some x,λi _=>i=n⟩
theorem Pg{P:Program}{w:World}{K:PySem.W.Frag}{tg:Expr}(a it:Addr)(n:Nat):Turn P w K tg (aAL K a n) [it] it (λi h=>i<=n/\h.IsRevIter it a ((n:Int)-1-(i:Int))) where
 mem:=by simp
 obj:=λi h st b hb=>by
  have e:b=it:=by simpa using hb
  subst e
  obtain⟨_,o,e,c,d⟩:=st
  exact⟨o,e,λv z=>by rw[d]at z;cases z⟩
 keep:=λi h h' st k=>⟨st.1,st.2.at λo e=>k it (by simp) o e⟩
 item:=by
  intro X hP hw hK hc i pins s σ H E I hf st hg
  subst hP hw hK
  obtain⟨hi,xs,hq,hn⟩:=hg
  obtain⟨its,rv,p,hz⟩:=I.list hq
  have hx:xs[n-1-i]?=some (xs[n-1-i]'(by lia)):=bq (by lia)
  obtain⟨u,hu,ru⟩:=rv.get hx
  obtain⟨f0,f1,f2,f3,f4,f5⟩:=hf it (by simp)
  have e1:(n:Int)-1-(i:Int)=((n-1-i:Nat):Int):=by lia
  have PB:=st.2
  rw[e1]at PB
  refine wpAny_pyNext_rev_item PB p.isList (x:=u) (by simpa using hu) λh' bC sb=>?_
  have I1:Inv X pins σ H { s with heap:=h' }:=I.turned (t':=s.toks) (λb o hb e=>(sb.2 b hb).trans e) f0 f1 f3 f4 f5
  obtain⟨o,e,c,d⟩:=id bC
  have e2:((n-1-i:Nat):Int)-1=(n:Int)-1-((i+1:Nat):Int):=by lia
  rw[e2]at bC
  exact⟨u,rfl,KC (s:={ s with heap:=h' }) e c d (by decide) ⟨_,H,I1,ru,⟨rfl,λys hy=>by rw[I.Eo hy hq];exact hx⟩,⟨hi,bC⟩,λb hb=>(hf b hb).1⟩⟩
 done:=by
  intro X hP hw hK hc i pins s σ H E I hf st hg
  subst hP hw hK
  obtain⟨f0,f1,f2,f3,f4,f5⟩:=hf it (by simp)
  have hg':i=n:=hg
  have PB:=st.2
  rw[hg',show(n:Int)-1-(n:Int)=-1 by lia]at PB
  exact wpAny_pyNext_rev_end (I.ok.hd hc) PB λh' eb=>⟨rfl,I.turned (t':=s.toks) (λb o hb e=>eb b o hb e) f0 f1 f3 f4 f5⟩
 self:=λ_ _ _ _ _ st h=>wpAny_pyIter_revIter st.2 h
section
variable {X:Cx}{tg:Expr}
theorem boot_reversed:bootBuiltins "reversed" = some (.type "reversed"):=by decide +kernel
def RT(K:PySem.W.Frag)(ta:TA):TI:=λσ H R=>ta σ H λvs H1=>∃a,vs=[.ref a]/\∃xs,rE K H1 a xs/\R (aAL K a xs.length) H1
theorem Zr{a:Expr}{ta:TA}{p pos:Pos}(hg:Gl X "reversed")(hm:X.mg "reversed" = none)(ha:PA X [a] ta)(hs:starEach [a] X.env=[(false,eval a X.env)]:=by rfl):PI X tg (.Call (.Name "reversed" p) [a] [] pos) (RT X.K ta):=by
 intro pins s σ H R I h
 refine Call_ (uv I hg hm boot_reversed (G4 (cT (ha pos pins s σ H _ I h) λus s1 ⟨vs,H1,I1,r1,q1⟩=>?_) hs rfl))
 obtain⟨l,e,xs,hq,q⟩:=q1
 subst e
 cases r1 with
 | cons r rr=>
  cases rr
  cases r
  obtain⟨its,rv,pl,hz⟩:=I1.list hq
  have hlen:=rv.length
  refine call_reversed_list pl.isList ?_
  have I2:Inv X pins σ H1 { s1 with heap:=s1.heap.push (revObj l ((its.toArray.size:Int)-1)) }:=I1.kept (t':=s1.toks) λb o e=>bN _ e
  have st:Heap.IsRevIter (s1.heap.push (revObj l ((its.toArray.size:Int)-1))) s1.heap.objs.size l ((its.toArray.size:Int)-1):=⟨_,cC _ rfl,rfl,rfl⟩
  refine wpAny_pyIter_revIter st ?_
  refine⟨s1.heap.objs.size,[s1.heap.objs.size],_,_,H1,rfl,I2,Pg l _ xs.length,⟨de _,?_⟩,λb hb=>?_,q⟩
  ·have e:(xs.length:Int)-1-((0:Nat):Int)=(its.toArray.size:Int)-1:=by simp;lia
   show Heap.IsRevIter _ _ _ ((xs.length:Int)-1-((0:Nat):Int))
   rw[e]
   exact st
  ·have e:b=s1.heap.objs.size:=by simpa using hb
   subst e
   exact I1.WN (bj _) (I1.bz.fresh (bj _))
theorem Jc{K:PySem.W.Frag}{a:Addr}{xs:List V}{g:TG}{tb:TS}{D:Ends}{σ:St}{H:Hp}(Pv:Nat->St->Hp->Prop)(h0:Pv 0 σ H)(hl:∀i σ H,i<=xs.length->Pv i σ H->H a=some (.lst xs))
  (hs:∀i x σ H,xs.reverse[i]?=some x->Pv i σ H->g x σ H λσ2 H2=>tb { D with nx:=Pv (i+1),ct:=Pv (i+1),bk:=D.nx } σ2 H2) (hd:∀σ H,Pv xs.length σ H->D.nx σ H):xV (aAL K a xs.length) g tb D σ H:=by
 refine⟨λi m σ H=>m=xs.length-i/\i<=xs.length/\Pv i σ H,⟨xs.length,by simp,de _,h0⟩,?_⟩
 rintro i m σ H ⟨rfl,hi,p⟩
 have hL:=hl i σ H hi p
 by_cases iE:i<xs.length
 ·refine .inr ⟨⟨iE,xs,aX hL,rfl⟩,Pv (i+1),λσ' H' p'=>⟨xs.length-(i+1),by lia,rfl,iE,p'⟩,λx H' yl=>?_⟩
  obtain⟨rfl,hx⟩:=yl
  refine hs i x σ _ ?_ p
  rw[GC iE]
  exact hx xs (aX hL)
 ·have e:i=xs.length:=by lia
  subst e
  exact .inl ⟨rfl,hd σ H p⟩
theorem Uk{a:Expr}{ta:TA}{p pos:Pos}(h1:Gl X (Str.ofString "reversed"))(h2:X.mg (Str.ofString "reversed")=none)(h3:ZA X [a] ta)(h4:starEach [a] X.env=[(false,eval a X.env)]:=by rfl):ZI X tg (.Call (.Name (Str.ofString "reversed") p) [a] [] pos) (RT X.K ta):=⟨Zr h1 h2 h3.1 h4⟩
end
theorem xQ{α:Type} [DecidableEq α] {cl dl:List α}:((List.range (min cl.length dl.length)).all (λj=>decide (cl[j]?=dl[j]?))&&cl.length==dl.length)=decide (cl=dl):=by
 rw[nI,dv,j3,decide_eq_true_iff,beq_iff_eq]
 constructor
 ·rintro⟨h,l⟩
  apply rG
  intro i
  by_cases hi:i<cl.length
  ·exact of_decide_eq_true (h i (qc.mpr (by lia)))
  ·rw[lB (by lia),lB (by lia)]
 ·rintro rfl
  exact⟨λj _=>decide_eq_true rfl,rfl⟩
theorem Ey:∀{x y:List Int},List.map V.int x=List.map V.int y->x=y
 | [],[],_=>rfl
 | [],_::_,h=>by cases h
 | _::_,[],h=>by cases h
 | a::x,b::y,h=>by
  rw[dZ,dZ]at h
  injection h with h1 h2
  rw[V.int.inj h1,Ey h2]
section
variable {X:Cx}{pins:List (Addr×Obj)}{s:Shared}{σ:St}{H:Hp}{A:Around}
theorem sW{x y:List Int}{us ws:List Value}(r1:Vals (List.map V.int x) us)(r2:Vals (List.map V.int y) ws)(j:Nat)(h1:j<us.toArray.size)(h2:j<ws.toArray.size) :
  SeqAt.EqAt A s us.toArray[j] ws.toArray[j] (decide (x[j]?=y[j]?)):=by
 have l1:=r1.length
 have l2:=r2.length
 rw[aM]at l1 l2
 have j1:j<x.length:=by rw[l1];simpa using h1
 have j2:j<y.length:=by rw[l2];simpa using h2
 have e1:x[j]?=some x[j]:=bq j1
 have e2:y[j]?=some y[j]:=bq j2
 have h:=S7 (A:=A) (s:=s) (vM (x:=.int x[j]) r1 h1 (by rw[cM,e1];rfl)) (vM (x:=.int y[j]) r2 h2 (by rw[cM,e2];rfl)) rfl rfl
 have e3:Ou (.int x[j]) (.int y[j])=decide (x[j]?=y[j]?):=by
  rw[e1,e2,nI,decide_eq_true_iff,Ad]
  show(x[j]==y[j])=true↔_
  rw[beq_iff_eq]
 rw[e3]at h
 exact h
theorem aAz{p q:Addr}{x y:List Int}(I:Inv X pins σ H s)(hp:H p=some (.tup (List.map V.int x)))(hq:H q=some (.tup (List.map V.int y)))(hu:A.units<cLine):SeqAt.EqAt A s (.ref p) (.ref q) (decide (x=y)):=by
 by_cases e:p=q
 ·subst e
  have:x=y:=by
   have h:=hp.symm.trans hq
   simp only[Ad,HO.tup.injEq]at h
   exact Ey h
  rw[decide_eq_true this]
  exact SeqAt.EqAt.same _
 ·obtain⟨us,r1,t1,_⟩:=I.tuple (bR hp)
  obtain⟨ws,r2,t2,_⟩:=I.tuple (bR hq)
  have l1:=r1.length
  have l2:=r2.length
  rw[aM]at l1 l2
  have h:=SeqAt.RcAt.tuples (A:=A) (e:=λj=>decide (x[j]?=y[j]?)) t1 t2 hu λj h1 h2=>sW r1 r2 j h1 h2
  rw[bS,bS,<-l1,<-l2,xQ]at h
  exact .of_refs e h
theorem Ci{ps qs:List Addr}{us ws:List Value}{cl dl:List (List Int)}(I:Inv X pins σ H s)(r1:Vals (List.map V.ref ps) us)(r2:Vals (List.map V.ref qs) ws)(a:aL H ps cl)(b:aL H qs dl)(hu:A.units<cLine)(j:Nat)(h1:j<us.toArray.size)(h2:j<ws.toArray.size) :
  SeqAt.EqAt A s us.toArray[j] ws.toArray[j] (decide (cl[j]?=dl[j]?)):=by
 have l1:=r1.length
 have l2:=r2.length
 rw[aM]at l1 l2
 have j1:j<ps.length:=by rw[l1];simpa using h1
 have j2:j<qs.length:=by rw[l2];simpa using h2
 have e1:ps[j]?=some ps[j]:=bq j1
 have e2:qs[j]?=some qs[j]:=bq j2
 have k1:j<cl.length:=by rw[<-a.1];exact j1
 have k2:j<dl.length:=by rw[<-b.1];exact j2
 have c1:cl[j]?=some cl[j]:=bq k1
 have c2:dl[j]?=some dl[j]:=bq k2
 have v1:us.toArray[j]=.ref ps[j]:=vM (x:=.ref ps[j]) r1 h1 (by rw[cM,e1];rfl)
 have v2:ws.toArray[j]=.ref qs[j]:=vM (x:=.ref qs[j]) r2 h2 (by rw[cM,e2];rfl)
 have:=aAz (A:=A) I (a.2 j _ _ e1 c1) (b.2 j _ _ e2 c2) hu
 rw[v1,v2,c1,c2]
 have e3:decide ((some cl[j]:Option (List Int))=some dl[j])=decide (cl[j]=dl[j]):=by simp only[Ad]
 rw[e3];exact this
def J8(neg:Bool):R2:=λx y H Q=>∃a b,x=.ref a/\y=.ref b/\∃u v:List Int,H a=some (.tup (List.map V.int u))/\H b=some (.tup (List.map V.int v))/\Q (.bl (if neg then !decide (u=v) else decide (u=v))) H
theorem V0(hu:X.A.units+1<cLine):pG X (compareOp .NotEq) (J8 true):=by
 intro pins s σ H x y v u Q I rx ry h
 obtain⟨a,b,rfl,rfl,cl,dl,h1,h2,q⟩:=h
 cases rx;cases ry
 obtain⟨us,r1,t1,_⟩:=I.tuple (bR h1)
 obtain⟨ws,r2,t2,_⟩:=I.tuple (bR h2)
 have l1:=r1.length
 have l2:=r2.length
 rw[aM]at l1 l2
 refine SeqAt.RcNeAt.tuples (e:=λj=>decide (cl[j]?=dl[j]?)) t1 t2 (by lia) (λj h1 h2=>sW r1 r2 j h1 h2) _ _ _ _ ⟨.bl _,H,I,rfl,?_⟩
 rw[bS,bS,<-l1,<-l2,xQ]
 exact q
def J9(neg:Bool):R2:=λx y H Q=>∃a b,x=.ref a/\y=.ref b/\∃ps qs cl dl,H a=some (.lst (List.map V.ref ps))/\H b=some (.lst (List.map V.ref qs))/\aL H ps cl/\aL H qs dl/\Q (.bl (if neg then !decide (cl=dl) else decide (cl=dl))) H
theorem Kj(hu:X.A.units+1<cLine):pG X (compareOp .Eq) (J9 false):=by
 intro pins s σ H x y v u Q I rx ry h
 obtain⟨a,b,rfl,rfl,ps,qs,cl,dl,h1,h2,a1,a2,q⟩:=h
 cases rx;cases ry
 obtain⟨us,r1,t1,_⟩:=I.list (aX h1)
 obtain⟨ws,r2,t2,_⟩:=I.list (aX h2)
 have l1:=r1.length
 have l2:=r2.length
 rw[aM]at l1 l2
 by_cases hl:cl.length=dl.length
 ·refine SeqAt.eq_listAt (e:=λj=>decide (cl[j]?=dl[j]?)) t1.isList t2.isList (by rw[bS,bS,<-l1,<-l2,a1.1,a2.1,hl]) (by lia) (λj h1 h2=>Ci I r1 r2 a1 a2 (by rw[Around.in1_units];lia) j h1 h2) ⟨.bl _,H,I,rfl,?_⟩
  have e:=xQ (cl:=cl) (dl:=dl)
  rw[hl,Nat.min_self,gF,Bool.and_true]at e
  rw[bS,<-l1,a1.1,hl,e]
  exact q
 ·refine SeqAt.eq_list_lengthsAt t1.isList t2.isList (by rw[bS,bS,<-l1,<-l2,a1.1,a2.1];simpa using hl) (by lia) ⟨.bl _,H,I,rfl,?_⟩
  have e:decide (cl=dl)=false:=decide_eq_false λz=>hl (by rw[z])
  have q':Q (.bl (decide (cl=dl))) H:=q
  rw[e]at q'
  exact q'
end
theorem iW{n:Str}{c:Addr}:∀(names:List (Str×NameKind)) (k:Nat) (acc:List (Str×Addr)),(n,c)∈cellsFrom k names acc->(n,c)∈acc\/((n,NameKind.cell)∈names/\k<=c)
 | [],_,_,h=>.inl h
 | (m,kd)::r,k,acc,h=>by
  unfold cellsFrom at h
  by_cases hk:(kd==NameKind.cell)=true
  ·rw[ay hk]at h
   have ek:kd=.cell:=by simpa using hk
   rcases iW r (k+1) _ h with q | ⟨q1,q2⟩
   ·rcases bJ.mp q with e | q
    ·cases e;exact .inr ⟨by rw[ek];exact df,bj _⟩
    ·exact .inl q
   ·exact .inr ⟨cV _ q1,by lia⟩
  ·rw[aE hk]at h
   rcases iW r k _ h with q | ⟨q1,q2⟩
   ·exact .inl q
   ·exact .inr ⟨cV _ q1,q2⟩
theorem gA{y:Str}:∀(names:List (Str×NameKind)) (k:Nat) (acc:List (Str×Addr)),(y,NameKind.cell)∉names->(cellsFrom k names acc).lookup y=acc.lookup y
 | [],_,_,_=>rfl
 | (m,kd)::r,k,acc,h=>by
  unfold cellsFrom
  by_cases hk:(kd==NameKind.cell)=true
  ·have ek:kd=.cell:=by simpa using hk
   have hn:(y==m)=false:=by
    rw[uS]
    rintro rfl
    exact h (by rw[ek];exact df)
   rw[ay hk,gA r _ _ (λz=>h (cV _ z)),dF,hn]
  ·rw[aE hk];exact gA r k acc (λz=>h (cV _ z))
theorem iV{y:Str}:∀(names:List (Str×NameKind)) (k:Nat) (acc:List (Str×Addr)),(y,NameKind.cell)∈names->∃c,(cellsFrom k names acc).lookup y=some c/\k<=c
 | (m,kd)::r,k,acc,h=>by
  unfold cellsFrom
  by_cases hr:(y,NameKind.cell)∈r
  ·split
   ·obtain⟨c,e,hc⟩:=iV r (k+1) ((m,k)::acc) hr
    exact⟨c,e,by lia⟩
   ·exact iV r k acc hr
  ·rcases bJ.mp h with e | h
   ·cases e
    rw[ay (by rfl),gA r _ _ hr,dF,gF]
    exact⟨k,rfl,bj _⟩
   ·exact absurd h hr
def aAM(cs:List (Str×Addr)):Prop:=∀n n' c,(n,c)∈cs->(n',c)∈cs->n=n'
theorem kY:∀(names:List (Str×NameKind)) (k:Nat) (acc:List (Str×Addr)),aAM acc->(∀p∈acc,p.2<k)->aAM (cellsFrom k names acc)
 | [],_,_,h,_=>h
 | (m,kd)::r,k,acc,h,hl=>by
  unfold cellsFrom
  split
  ·refine kY r (k+1) _ (λn n' c h1 h2=>?_) (λp hp=>?_)
   ·rcases bJ.mp h1 with e | h1 <;> rcases bJ.mp h2 with e' | h2
    ·cases e;cases e';rfl
    ·cases e;exact absurd (hl _ h2) (g7 _)
    ·cases e';exact absurd (hl _ h1) (g7 _)
    ·exact h n n' c h1 h2
   ·rcases bJ.mp hp with e | hp
    ·rw[e];exact nP _
    ·exact pJ (hl p hp)
  ·exact kY r k acc h hl
theorem jR:∀(names:List (Str×NameKind)) (h:Heap) (acc:List (Str×Addr)),(∀p∈acc,∃v,h.IsCell p.2 v)->∀p∈cellsFrom h.objs.size names acc,∃v,(pushCells h names).IsCell p.2 v
 | [],_,_,h=>h
 | (m,kd)::r,hp,acc,h=>by
  unfold cellsFrom pushCells
  split
  ·have:=jR r (hp.push { cls:=.type "cell",data:=.cell none }) ((m,hp.objs.size)::acc) (λp q=>by
    rcases bJ.mp q with e | q
    ·rw[e];exact⟨none,_,cC _ rfl,rfl⟩
    ·obtain⟨v,z⟩:=h p q
     exact⟨v,z.keeps λb o e=>bN _ e⟩)
   rwa [lz]at this
  ·exact jR r hp acc h
theorem qL{M:Model}{A:Around}{E:Value->Shared->Prop}{s:Shared}{scope:Scope}{globals:Addr}{closure:List (Str×Addr)}{qual:Str}{func:Option Addr}{code:Value}{outer:Env}{builtins:Addr}{Q:Env->Shared->Prop}
  (hQ:Q (newEnv scope s.heap.objs.size globals (cellsFrom (s.heap.objs.size+1) scope.names closure) qual func code (some outer) builtins) { s with heap:=pushCells (s.heap.push { cls:=.type "dict",data:=.dict #[] }) scope.names }) :
  wpAny M A (newFunctionEnv scope globals closure [] qual func code (some outer) builtins) Q E s:=by
 simp only[newFunctionEnv,Gq,gB]
 refine av (wpAny_alloc ?_)
 refine av (wpAny_layCells _ (λname kind cells=>by cases hkc:kind==NameKind.cell <;> simp[hkc]) _ _ _ _ ?_)
 rw[show({ s with heap:=s.heap.push { cls:=.type "dict",data:=.dict #[] } }:Shared).heap.objs.size=s.heap.objs.size+1 from lz ..]
 rw[List.forIn_nil]
 exact av (aK (aK hQ))
theorem u0{env : Env}{y : Str} : ∀ {names : List (Str × NameKind)},
    ((names.map λ(n, k) => if (k==NameKind.free&&env.scope.kind == .function&&env.kindOf n==some .cell) then (n, NameKind.cell) else (n, k)).lookup y=some .cell ∨
     (names.map λ(n, k) => if (k==NameKind.free&&env.scope.kind == .function&&env.kindOf n==some .cell) then (n, NameKind.cell) else (n, k)).lookup y=some .free) → names.lookup y=some .free ∨ names.lookup y=some .cell
  | [], h => by rcases h with h | h <;> cases h
  | (n, k)::r, h => by
    have ih := @u0 env y r
    rw[dZ]at h
    rw[dF]
    by_cases e : y=n
    · subst e
      rw[gF]
      by_cases hb : (k==NameKind.free&&env.scope.kind == .function&&env.kindOf y==some .cell)=true
      · have hk : k=.free := by
          rw[dv, dv]at hb
          simpa using hb.1.1
        rw[hk]; exact .inl rfl
      · dsimp only at h
        rw[aE hb, dF, gF]at h
        dsimp only at h
        exact h.symm
    · have hn : (y==n)=false := by simpa using e
      rw[hn]
      dsimp only at h ⊢
      apply ih
      by_cases hb : (k==NameKind.free&&env.scope.kind == .function&&env.kindOf n==some .cell)=true
      · rw[ay hb, dF, hn]at h
        exact h
      · rw[aE hb, dF, hn]at h
        exact h
theorem iw{env:Env}{y:Str}:∀{names:List (Str×NameKind)},names.lookup y=some .free->(names.map λ(n,k)=>if (k==NameKind.free&&env.scope.kind == .function&&env.kindOf n==some .cell) then (n,NameKind.cell) else (n,k)).lookup y≠some .local
 | [],h=>by cases h
 | (n,k)::r,h=>by
  rw[dZ]
  by_cases e:y=n
  ·subst e
   rw[dF,gF]at h
   cases h
   dsimp only
   split
   ·rw[dF,gF];exact λq=>nomatch q
   ·rw[dF,gF];exact λq=>nomatch q
  ·have hn:(y==n)=false:=by simpa using e
   rw[dF,hn]at h
   dsimp only
   split
   ·rw[dF,hn];exact iw h
   ·rw[dF,hn];exact iw h
@[reducible] def yB (X:Cx) (scope:Scope) (cs N:List Str) (c:CB):Cx:=
 { prog:=X.prog,w:=X.w,K:=X.K,mg:=X.mg,base:=X.base,A:=X.A,N:=N,s₀:=c.s2,H₀:=c.H2,env:=compEnvC scope c.cl c.C X.env,outer:=X.stack,stack:=X.stack,ex:=c.ex,fn:=λx=>cs.contains x,calm:=X.calm,pn:=[],xe:=λ_ _=>False }
structure v8(X:Cx)(scope:Scope)(cs xs:List Str)(idx:List Nat):Prop where
 kind:scope.kind=.function
 loc:∀y∈scope.names,y.2=.local->scope.names.lookup y.1=some .local
 own:∀y∈scope.names,y.2=.cell->scope.names.lookup y.1=some .cell
 fn:∀x,cs.contains x=true->(x,NameKind.cell)∈scope.names
 free:∀y∈scope.names,y.2=.free->scope.names.lookup y.1=some .free/\(X.env.kindOf y.1=some .cell\/X.env.kindOf y.1=some .free)
 ix:∀i∈idx,∃y,X.N[i]?=some y/\scope.names.lookup y=some .free
section
variable {X:Cx}{pins:List (Addr×Obj)}{σ:St}{H:Hp}{s:Shared}
theorem Inv.aAD{scope:Scope}{cs xs:List Str}{idx:List Nat}{fp:List Addr}{C k:Addr}{h':Heap}{t':Nat}{D:Addr}{m0:Str->Option Value}{cl:List (Str×Addr)}(I:Inv X pins σ H s)(S:v8 X scope cs xs idx)
  (Ww:∀b∈fp,vK X pins H b) (Ol:∀b∈fp,∃o,s.heap.get? b=some o) (hC:s.heap.objs.size<=C) (Ye:D≠C) (hD:s.heap.objs.size<=D) (hn:h'.Ns C m0) (hk:∀b o,s.heap.get? b=some o->h'.get? b=some o)
  (hl:∃n,h'.get? D=some { cls:=.type "list",data:=.seq #[] n }) (rC:cl=cellsFrom k scope.names (dw X.env scope.names [])) (X1:s.heap.objs.size<=k) (hDk:D<k) (Iz:∀p∈cl,∃v,h'.IsCell p.2 v) :
  Inv (yB X scope cs (xs++bx X.N idx) ⟨C,cl,s,H,fp⟩) [] (List.replicate xs.length none++cg σ idx) (upd H D (.lst [])) { s with heap:=h',toks:=t' }:=by
 have vh:∀y∈scope.names,y.2=.free->∃c,X.env.cells.lookup y.1=some c:=λy hy e=>I.ok.has y.1 (S.free y hy e).2
 have kR:=lX (env:=X.env) scope.names [] vh (λp hp=>(nomatch hp))
 have lt:∀b,(∃o,s.heap.get? b=some o)->b<s.heap.objs.size:=λb ⟨o,e⟩=>bG e
 have Tp:∀x c,X.env.cells.lookup x=some c->c<s.heap.objs.size:=λx c e=>let ⟨_,q⟩:=I.cell x c e;q.lt
 have XR:∀y c,cl.lookup y=some c->X.env.cells.lookup y=some c\/k<=c:=λy c e=>by
  rw[rC]at e
  rcases iW _ _ _ (fC e) with q | q
  ·exact .inl (kR (y,c) q)
  ·exact .inr q.2
 have Sh:∀y,scope.names.lookup y=some .free->cl.lookup y=X.env.cells.lookup y:=λy e=>by
  rw[rC,gA]
  ·exact kM (f:=λn=>X.env.cells.lookup n) kR (uH scope.names [] (fC e))
  ·intro z
   have:=S.own _ z rfl
   rw[e]at this;cases this
 have hinj:aAM cl:=by
  rw[rC]
  exact kY _ _ _ (λn n' c h1 h2=>I.ok.inj n n' c (kR _ h1) (kR _ h2)) (λp hp=>bW (Tp _ _ (kR p hp)) X1)
 have hDn:H D=none:=I.bz.fresh hD
 refine⟨⟨I.ok.mod,S.kind,I.ok.glob,I.ok.blt,hC,λx y c h1 h2=>hinj x y c (fC h1) (fC h2),λy hy=>?_,λx c hf e=>?_,I.ok.hd,I.ok.frames,.inl rfl,λb hb=>⟨?_,λx c e=>?_⟩,I.bs,cQ I.ok.Jr I.sz,λb o e hb=>?_,λb hb z=>?_,I.stack,I.vP⟩,
  rfl,I.bare,?_,⟨m0,hn,λi y v e1 e2 hv=>?_⟩,λx c e=>?_,?_,λx c e=>?_,λp hp=>(nomatch hp),?_,?_⟩
 ·
  rcases u0 hy with q | q
  ·have q2:=fC q
   obtain⟨c,e⟩:=vh _ q2 rfl
   exact⟨c,(Sh y q).trans e⟩
  ·obtain⟨c,e,_⟩:=iV (y:=y) scope.names k (dw X.env scope.names []) (fC q)
   exact⟨c,by show cl.lookup y=some c;rw[rC];exact e⟩
 ·
  obtain⟨c',e',lu⟩:=iV (y:=x) scope.names k (dw X.env scope.names []) (S.fn x hf)
  have e2:cl.lookup x=some c:=e
  rw[rC,e']at e2
  cases e2
  exact cQ X1 lu
 ·
  exact bf (bW (lt b (Ol b hb)) hC)
 ·rcases XR x c e with q | q
  ·exact(Ww b hb).2.2.2.2.1 x c q
  ·exact g6 (bW (lt b (Ol b hb)) (cQ X1 q))
 ·
  rcases(Ww b hb).2.2.2.1 with z | z
  ·exact I.ok.MP b o e z
  ·exact absurd (bW (bG e) (cQ I.ok.Jr z)) (g7 _)
 ·
  rcases bJ.mp (I.n6 b z) with q | q
  ·exact(Ww b hb).2.1 q
  ·exact(Ww b hb).2.2.1 q
 ·
  exact Un.laid hk hD hDn
 ·
  by_cases hi:i<xs.length
  ·rw[lD (by simpa using hi)]at e2
   rw[GX]at e2
   split at e2 <;> cases e2
  ·have Kv:xs.length<=i:=Ge hi
   rw[jv (by simpa using Kv),pM]at e2
   obtain⟨i0,ei,es⟩:=Dw e2
   obtain⟨y',ey,ef⟩:=S.ix i0 (j6 ei)
   have Fn:(xs++bx X.N idx)[i]?=some y:=e1
   rw[jv Kv,Dx ei ey]at Fn
   cases Fn
   obtain⟨m,hm,hl'⟩:=I.loc
   have ef2:=S.free (y,.free) (fC ef) rfl
   have vis:Vis X.env.scope y:=.inr ef2.2
   obtain⟨u,ru,lk⟩:=hl' i0 y v ey es vis
   refine⟨u,ru,?_⟩
   rcases lk with ⟨k1,_⟩ | ⟨_,c,ec,hc⟩
   ·rcases ef2.2 with z | z
    ·have z':X.env.kindOf y=some .cell:=z
     rw[k1]at z';cases z'
    ·have z':X.env.kindOf y=some .free:=z
     rw[k1]at z';cases z'
   ·refine .inr ⟨?_,c,(Sh y ef).trans ec,hc.keeps hk⟩
    rcases hv with z | z | z
    ·exact absurd (show(relabel scope X.env).names.lookup y=some .local from z) (iw ef)
    ·exact .inl z
    ·exact .inr z
 ·
  exact Iz (x,c) (fC e)
 ·
  show upd H D (.lst []) C=none
  rw[au (eK Ye)]
  exact I.bz.fresh hC
 ·
  rcases XR x c e with q | q
  ·rw[au (bf (bW (Tp x c q) hD))]
   exact I.kj x c q
  ·rw[au (g6 (bW hDk q))]
   exact I.bz.fresh (cQ X1 q)
 ·
  obtain⟨n,e⟩:=hl
  exact I.bz.laid hk hD ⟨de _,[],n,.nil,e⟩
 ·show(List.replicate xs.length none++cg σ idx).length=(xs++bx X.N idx).length
  rw[cS,cS,pM]
  unfold cg bx
  rw[aM,aM]
end
section
variable {X:Cx}{elt target iter:Expr}{ifs:List Expr}{scope:Scope}{pos:Pos}{cs xs:List Str}{idx:List Nat}{wi:TI}{g:CB->TG}{tt:CB->TT}{te:CB->TE}
theorem NZ{pins:List (Addr×Obj)}{σ:St}{H2:Hp}{s2:Shared}{fp:List Addr}{it:Addr}{tn:Nat->Heap->Prop}{J:It}{Q:V->Hp->Prop}{RR:Value->Addr->Result->Shared->Prop}{E:Value->Shared->Prop}(hc:X.calm=true)(S:v8 X scope cs xs idx)
  (hg:∀c,PG (yB X scope cs (xs++bx X.N idx) c) target (g c)) (ht:∀c,vG (yB X scope cs (xs++bx X.N idx) c) ifs (tt c)) (he:∀c,PE (yB X scope cs (xs++bx X.N idx) c) elt (te c))
  (I2:Inv X pins σ H2 s2) (T:Turn X.prog X.w X.K target J fp it tn) (Az:tn 0 s2.heap) (f2:∀b∈fp,vK X pins H2 b)
  (h:∀D,H2 D=none->∃W:Nat->Nat->List V->Hp->Prop,(∃m,W 0 m [] (upd H2 D (.lst [])))/\
   ∀i m ys H',W i m ys H'->(J.stop i H'/\Q (.ref D) H')\/(J.go i H'/\∃N:List V->Hp->Prop,(∀oZ rF,N oZ rF->∃m',m'<m/\W (i+1) m' oZ rF)/\∀(c:CB) (own:St),own.length=xs.length->∀x H2,J.JN i H' x H2->g c x (own++cg σ idx) H2 λσ3 H3=>
    (∃e9,e9.length=xs.length/\σ3=e9++cg σ idx)/\tt c σ3 H3 λb H4=>if b=true then te c σ3 H4 λy H5=>H5 D=some (.lst ys)/\ys.length<sizeLine/\N (ys++[y]) (upd H5 D (.lst (ys++[y]))) else N ys H4))
  (hRR:∀D C cl σ' H' s',s2.heap.objs.size<=C->Inv (yB X scope cs (xs++bx X.N idx) ⟨C,cl,s2,H2,fp⟩) [] σ' H' s'->Q (.ref D) H'->RR (.ref D) C (.ok .next) s') :
  wpAny (model X.prog X.w) X.A (newList []) (λacc s₃=>wpAny (model X.prog X.w) X.A (newFunctionEnv scope X.env.globals (dw X.env scope.names []) [] X.env.qual none .none (some X.env)) (λTn s₄=>
   codeAny (model X.prog X.w) X.A (.compStart (.ListComp elt [⟨target,iter,ifs,0⟩] scope pos) 0 (.ref it) acc { Tn with scope:=relabel scope X.env }) (RR acc Tn.locals) s₄) E s₃) E s2:=by
 refine iY (qL ?_)
 dsimp only
 generalize Yc:s2.heap.push { cls:=.type "list",dict:=none,data:=.seq ([]:List Value).toArray }=HH
 have hCs:HH.objs.size=s2.heap.objs.size+1:=by rw[<-Yc,lz]
 have Ye:s2.heap.objs.size≠HH.objs.size:=by rw[hCs];exact bf (nP _)
 have yz:s2.heap.objs.size<=HH.objs.size:=by rw[hCs];exact gT _
 generalize rC:cellsFrom (HH.objs.size+1) scope.names (dw X.env scope.names [])=cl
 generalize hh1:pushCells (HH.push { cls:=.type "dict",data:=.dict #[] }) scope.names=h₁
 have up:∀b o,HH.get? b=some o->h₁.get? b=some o:=λb o e=>by rw[<-hh1];exact pushCells_keeps _ _ _ _ (bN _ e)
 have old:∀b o,s2.heap.get? b=some o->h₁.get? b=some o:=λb o e=>up b o (Yc ▸ bN _ e)
 have R':h₁.Ns HH.objs.size (λ_=>none):=by rw[<-hh1];exact(Heap.Ns.new HH (.type "dict")).keeps (pushCells_keeps scope.names _)
 have yx:∃n,h₁.get? s2.heap.objs.size=some { cls:=.type "list",data:=.seq #[] n }:=⟨_,up _ _ (Yc ▸ cC _ rfl)⟩
 have kR:=lX (env:=X.env) scope.names [] (λy hy e=>I2.ok.has y.1 (S.free y hy e).2) (λp hp=>nomatch hp)
 have Iz:∀p∈cl,∃v,h₁.IsCell p.2 v:=by
  rw[<-rC,<-hh1]
  have:=jR scope.names (HH.push { cls:=.type "dict",data:=.dict #[] }) (dw X.env scope.names []) (λp hp=>by
   obtain⟨v,q⟩:=I2.cell p.1 p.2 (kR p hp)
   exact⟨v,q.keeps λb o e=>bN _ (Yc ▸ bN _ e)⟩)
  rwa [lz]at this
 have PB:tn 0 h₁:=T.keep _ _ _ Az λb _ o e=>old b o e
 obtain⟨W,⟨m0,w0⟩,turn⟩:=h s2.heap.objs.size I2.fresh
 have loop:∀s₃:Shared,s₃={ s2 with heap:=h₁ }->
   codeAny (model X.prog X.w) X.A (.compLoop (.ListComp elt [⟨target,iter,ifs,0⟩] scope pos) 0 (.ref it) (.ref s2.heap.objs.size) (compEnvC scope cl HH.objs.size X.env)) (RR (.ref s2.heap.objs.size) HH.objs.size) s₃:=by
  rintro s₃ rfl
  have I3:=I2.aAD (t':=s2.toks) (cs:=cs) (xs:=xs) (k:=HH.objs.size+1) S f2 (λb hb=>let ⟨o,e,_⟩:=T.obj _ _ Az b hb;⟨o,e⟩) yz Ye (bj _) R' old yx rC.symm (tX yz) (Nat.lt_succ_of_le yz) Iz
  generalize hY:yB X scope cs (xs++bx X.N idx) ⟨HH.objs.size,cl,s2,H2,fp⟩=Y at I3
  have eY:Y=yB X scope cs (xs++bx X.N idx) ⟨HH.objs.size,cl,s2,H2,fp⟩:=hY.symm
  have nof:∀b∈fp,b∉Y.fs:=λb hb z=>by
   rw[eY]at z
   rcases bJ.mp (I2.n6 b z) with q | q
   ·exact(f2 b hb).2.1 q
   ·exact(f2 b hb).2.2.1 q
  have stat:∀{H':Hp},(∀b∈fp,H' b=none)->∀b∈fp,vK Y [] H' b:=λ{H'} hn b hb=>by
   have lt:b<s2.heap.objs.size:=let ⟨o,e,_⟩:=T.obj _ _ Az b hb;bG e
   refine⟨hn b hb,?_,nof b hb,.inl (by rw[eY];exact hb),λx c e=>?_,λp hp=>?_⟩
   ·rw[eY];exact bf (bW lt yz)
   ·rw[eY]at e
    have e':cl.lookup x=some c:=e
    rw[<-rC]at e'
    rcases iW _ _ _ (fC e') with q | q
    ·exact(f2 b hb).2.2.2.2.1 x c (kR (x,c) q)
    ·exact g6 (bW lt (cQ (tX yz) q.2))
   ·rw[eY]at hp;exact nomatch hp
  have T':Turn Y.prog Y.w Y.K target J fp it tn:=by rw[eY];exact T
  have hg':PG Y target (g ⟨HH.objs.size,cl,s2,H2,fp⟩):=by rw[eY];exact hg _
  have R5:vG Y ifs (tt ⟨HH.objs.size,cl,s2,H2,fp⟩):=by rw[eY];exact ht _
  have he':PE Y elt (te ⟨HH.objs.size,cl,s2,H2,fp⟩):=by rw[eY];exact he _
  have hcY:Y.calm=true:=by rw[eY];exact hc
  have eA:Y.A=X.A:=by rw[eY]
  have eP:Y.prog=X.prog:=by rw[eY]
  have eW:Y.w=X.w:=by rw[eY]
  have eE:Y.env=compEnvC scope cl HH.objs.size X.env:=by rw[eY]
  have eX:Y.xe=λ_ _=>False:=by rw[eY]
  have fin:∀σ' H' s',Inv Y [] σ' H' s'->Q (.ref s2.heap.objs.size) H'->RR (.ref s2.heap.objs.size) HH.objs.size (.ok .next) s':=λσ' H' s' I' q=>hRR _ _ cl σ' H' s' yz (by rw[<-eY];exact I') q
  rw[<-eE,<-eA,<-eP,<-eW]
  have fr0:∀b∈fp,(upd H2 s2.heap.objs.size (.lst [])) b=none:=λb hb=>by
   have lt:b<s2.heap.objs.size:=let ⟨o,e,_⟩:=T.obj _ _ Az b hb;bG e
   rw[au (bf lt)];exact(f2 b hb).1
  refine jd (λn s'=>∃i ys own H',own.length=xs.length/\Inv Y [] (own++cg σ idx) H' s'/\tn i s'.heap/\(∀b∈fp,H' b=none)/\W i n ys H') ?_ m0
   ⟨0,[],_,_,pM,I3,PB,fr0,w0⟩
  rintro n s4 ⟨i,ys,own,H4,aAp,I4,st4,fr4,w4⟩
  rcases turn i n ys H4 w4 with ⟨stop,qn⟩ | ⟨go,NN,hNN,step⟩
  ·exact cT (T'.done Y rfl rfl rfl hcY i [] s4 _ H4 _ I4 (stat fr4) st4 stop) λr s5 ⟨hr,I5⟩=>by subst hr;exact fin _ _ _ I5 qn
  ·refine cT (T'.item Y rfl rfl rfl hcY i [] s4 _ H4 _ I4 (stat fr4) st4 go) λr s5 ⟨u,hr,h5⟩=>?_
   subst hr
   refine cT h5 λ_ s6 ⟨x,H6,I6,r6,y6,YF,fr6⟩=>?_
   have I6':=I6.pinned (stat fr6) (T'.obj _ _ YF)
   have step':=step ⟨HH.objs.size,cl,s2,H2,fp⟩ own aAp x H6 y6
   refine cL (hg' _ s6 _ H6 x u _ I6' r6 step') (λ_ s7 ⟨σ7,H7,I7,q7⟩=>?_) (λ_ _ z=>by rw[eX]at z;exact z)
   obtain⟨⟨ZF,ho7,e7⟩,q7⟩:=q7
   refine cL (R5 _ s7 σ7 H7 _ I7 q7) (λb s8 ⟨H8,I8,q8⟩=>?_) (λ_ _ z=>by rw[eX]at z;exact z)
   have again:∀{H9:Hp} {s9:Shared} {oZ:List V},Inv Y ([]++ui fp s6.heap) σ7 H9 s9->NN oZ H9->∃m,m<n/\∃i ys own H',own.length=xs.length/\Inv Y [] (own++cg σ idx) H' s9/\tn i s9.heap/\(∀b∈fp,H' b=none)/\W i m ys H':=λ{H9 s9 oZ} I9 n9=>by
    obtain⟨m',hm,w9⟩:=hNN _ _ n9
    rw[e7]at I9
    refine⟨m',hm,i+1,oZ,ZF,H9,ho7,I9.n5,T'.keep _ _ _ YF λb hb o e=>(I9.pin (b,o) (gS _ (gS _ (iA hb e)))).1,λb hb=>?_,w9⟩
    obtain⟨o,e,d⟩:=T'.obj _ _ YF b hb
    exact(I9.pin (b,o) (gS _ (gS _ (iA hb e)))).2.1
   cases b with
   | false=>exact again I8 q8
   | true=>
    refine cL (he' _ s8 σ7 H8 _ I8 q8) (λu9 s9 ⟨y,H9,I9,r9,hy,hz,q9⟩=>?_) (λ_ _ z=>by rw[eX]at z;exact z)
    have ap:=fj (X:=Y) _ s9 σ7 H9 (.ref s2.heap.objs.size) [y] (.ref s2.heap.objs.size) [u9] (λ_ TV=>NN (ys++[y]) TV) I9 rfl (.cons r9 .nil) ⟨_,ys,y,rfl,rfl,hy,hz,q9⟩
    refine cL ap (λ_ T5 ⟨_,TV,I10,_,q10⟩=>again I10 q10) (λ_ _ z=>by rw[eX]at z;exact z)
 exact codeAny_compStart_list (loop _ rfl) (T.self _ 0 _ _ _ PB (loop _ rfl))
end
def Tb(gP:Scope)(N:List Str)(scope:Scope)(cs:List Str)(idx:List Nat):Bool:=
 scope.kind == .function&&scope.names.all (λy=>y.2 != .cell||scope.names.lookup y.1==some .cell)&&scope.names.all (λy=>y.2 != .local||scope.names.lookup y.1==some .local) &&
 scope.names.all (λy=>y.2 != .free||(scope.names.lookup y.1==some .free&&(gP.names.lookup y.1==some .cell||gP.names.lookup y.1==some .free))) &&
 idx.all (λi=>match N[i]? with | some y=>scope.names.lookup y==some .free | none=>false)&&cs.all (λx=>scope.names.lookup x==some .cell)
theorem Je{X:Cx}{scope:Scope}{cs xs:List Str}{idx:List Nat}{gP:Scope}{N:List Str}(h:Tb gP N scope cs idx=true)(e1:X.env.scope=gP)(e2:X.N=N):v8 X scope cs xs idx:=by
 unfold Tb at h
 simp only[dv]at h
 obtain⟨⟨⟨⟨⟨h1,h2⟩,h3⟩,h4⟩,h5⟩,h6⟩:=h
 refine⟨by simpa using h1,λy hy e=>?_,λy hy e=>?_,λx hx=>?_,λy hy e=>?_,λi hi=>?_⟩
 ·have:=j3.mp h3 y hy
  rw[e]at this;simpa using this
 ·have:=j3.mp h2 y hy
  rw[e]at this;simpa using this
 ·have:=j3.mp h6 x (List.contains_iff_mem.mp hx)
  exact fC (by simpa using this)
 ·have:=j3.mp h4 y hy
  rw[e]at this
  have t:(scope.names.lookup y.1==some NameKind.free&&(gP.names.lookup y.1==some .cell||gP.names.lookup y.1==some .free))=true:=by simpa using this
  rw[dv,kI]at t
  refine⟨by simpa using t.1,?_⟩
  show X.env.scope.names.lookup y.1=_\/X.env.scope.names.lookup y.1=_
  rw[e1]
  exact t.2.imp (by simp) (by simp)
 ·have:=j3.mp h5 i hi
  rw[e2]
  cases e:N[i]? with
  | none=>rw[e]at this;cases this
  | some y=>rw[e]at this;exact⟨y,rfl,by simpa using this⟩
theorem uC{X:Cx}{N:List Str}{gP scope:Scope}{cs xs:List Str}{idx:List Nat}(hc:HC X N gP)(c:CB):HC (yB X scope cs (xs++bx X.N idx) c) (xs++bx N idx) (cE scope gP):=
 ⟨by show xs++bx X.N idx=_;rw[hc.n],u6 hc.s⟩
theorem pgd{X:Cx}{N:List Str}{sc scope:Scope}{cs:List Str}{x:Str}{pos:Pos}{M:List Str}{c:CB}(hc:HC (yB X scope cs M c) N sc)(nd:N.Nodup)(i:Nat)(h:Oe N sc i x=true)(hx:cs.contains x=true):PG (yB X scope cs M c) (.Name x pos) (dg i):=
 Bq (by rw[hc.n];exact nd) (jx hc h).1 (jx hc h).2 (.inl hx)
section
variable {X:Cx}{N:List Str}{gP:Scope}{elt target iter:Expr}{ifs:List Expr}{scope:Scope}{pos:Pos}{wi:TI}{g:CB->TG}{tt:CB->TT}{te:CB->TE}
theorem aCr{X:Cx}{N:List Str}{sc scope:Scope}{cs:List Str}{x:Str}{pos:Pos}{M:List Str}{c:CB}(hc:HC (yB X scope cs M c) N sc)(nd:N.Nodup)(i:Nat)(h:Oe N sc i x=true)(hx:cs.contains x=true):ZG (yB X scope cs M c) (.Name x pos) (dg i):=⟨pgd hc nd i h hx⟩
end
section
variable {prog:Program}{w:World}{A:Around}{E:Value->Shared->Prop}{s:Shared}
end
section
variable {X:Cx}
end
def Up(xs:Array Nat):Prop:=xs.toList.Pairwise (· < ·)
theorem Up.lt{xs:Array Nat}(u:Up xs){i k:Nat}(h:i<k)(hk:k<xs.size):xs.getD i 0<xs.getD k 0:=by
 have h1:i<xs.toList.length:=by rw[cZ];lia
 have h2:k<xs.toList.length:=by rw[cZ];lia
 have:=(uZ.mp u) i k h1 h2 h
 rw[wJ,wJ]at this
 rw[jw,jw,dG (by lia),dG hk]
 exact this
theorem Sx{xs:Array Nat}{i j:Nat}(h:i<xs.size):xs.getD i j=xs.getD i 0:=by
 rw[jw,jw,dG h];rfl
theorem xM{xs:Array Nat}{j:Nat}(u:Up xs):∀(f lo hi:Nat),hi-lo<=f->lo<=hi->hi<=xs.size->(∀i,i<lo->xs.getD i 0<j)->(∀i,hi<=i->i<xs.size->j<=xs.getD i 0)->
  SetTable.below.go xs j f lo hi<=xs.size/\(∀i,i<SetTable.below.go xs j f lo hi->xs.getD i 0<j)/\∀i,SetTable.below.go xs j f lo hi<=i->i<xs.size->j<=xs.getD i 0
 | 0,lo,hi,h0,h1,h2,a,b=>by
  have e:lo=hi:=by lia
  subst e
  exact⟨h2,a,b⟩
 | f+1,lo,hi,h0,h1,h2,a,b=>by
  unfold SetTable.below.go
  by_cases c:lo<hi
  ·rw[ay c]
   dsimp only
   have hm:(lo+hi) / 2<xs.size:=by lia
   rw[Sx hm]
   by_cases d:xs.getD ((lo+hi) / 2) 0<j
   ·rw[ay d]
    refine xM u f _ _ (by lia) (by lia) h2 (λi Kv=>?_) b
    by_cases e:i=(lo+hi) / 2
    ·rw[e];exact d
    ·have:=u.lt (i:=i) (k:=(lo+hi) / 2) (by lia) hm;lia
   ·rw[aE d]
    refine xM u f _ _ (by lia) (by lia) (by lia) a λi Kv hz=>?_
    by_cases e:i=(lo+hi) / 2
    ·rw[e];lia
    ·have:=u.lt (i:=(lo+hi) / 2) (k:=i) (by lia) hz;lia
  ·rw[aE c]
   have e:lo=hi:=by lia
   subst e
   exact⟨h2,a,b⟩
theorem qY{xs:Array Nat}(u:Up xs)(j:Nat):SetTable.below xs j<=xs.size/\(∀i,i<SetTable.below xs j->xs.getD i 0<j)/\∀i,SetTable.below xs j<=i->i<xs.size->j<=xs.getD i 0:=
 xM u xs.size 0 xs.size (by lia) (de _) (bj _) (λi h=>absurd h (Nat.not_lt_zero _)) (λi h1 h2=>absurd h2 (by lia))
def mE(xs:Array Nat)(i:Nat):Nat:=if i=0 then 0 else xs.getD (i-1) 0+1
theorem below_at{xs:Array Nat}(u:Up xs){i:Nat}(hi:i<=xs.size):SetTable.below xs (mE xs i)=i:=by
 obtain⟨h0,h1,h2⟩:=qY u (mE xs i)
 generalize SetTable.below xs (mE xs i)=r at h0 h1 h2 ⊢
 unfold mE at h1 h2
 rcases Gk r i with h | h | h
 ·have:=h2 (i-1) (by lia) (by lia)
  rw[aE (by lia)]at this
  lia
 ·exact h
 ·have:=h1 i h
  by_cases e:i=0
  ·rw[ay e]at this;lia
  ·rw[aE e]at this
   have:=u.lt (i:=i-1) (k:=i) (by lia) (by lia)
   lia
theorem N4{xs:Array Nat}(u:Up xs){j:Nat}(h:j∈xs.toList):xs[SetTable.below xs j]?=some j:=by
 obtain⟨k,hk,e⟩:=Gs h
 rw[cZ]at hk
 rw[wJ]at e
 have ek:xs.getD k 0=j:=by rw[jw,dG hk];exact e
 obtain⟨h0,h1,h2⟩:=qY u j
 have:SetTable.below xs j=k:=by
  generalize SetTable.below xs j=r at h0 h1 h2 ⊢
  rcases Gk r k with h | h | h
  ·have a:=h2 r (bj _) (by lia)
   have b:=u.lt (i:=r) (k:=k) h hk
   lia
  ·exact h
  ·have:=h1 k h;lia
 rw[this,dG hk,e]
theorem yr{α:Type}(xs:Array α)(p:Nat)(x:α):(SetTable.insertAt xs p x).toList=xs.toList.take p++x::xs.toList.drop p:=by
 unfold SetTable.insertAt
 simp[Array.toList_extract,List.extract]
 exact t6 (by simp)
theorem Lz{xs:Array Nat}(u:Up xs){j:Nat}(h:j∉xs.toList):Up (SetTable.insertAt xs (SetTable.below xs j) j):=by
 obtain⟨h0,h1,h2⟩:=qY u j
 generalize SetTable.below xs j=r at h0 h1 h2 ⊢
 unfold Up
 rw[yr,g9]
 have lt:∀a∈xs.toList.take r,a<j:=λa ha=>by
  obtain⟨k,hk,e⟩:=Gs ha
  rw[fZ,cZ]at hk
  rw[List.getElem_take,wJ]at e
  have:=h1 k (by lia)
  rw[jw,dG (by lia)]at this
  rw[<-e];exact this
 have gt:∀a∈xs.toList.drop r,j<a:=λa ha=>by
  have hm:=List.mem_of_mem_drop ha
  obtain⟨k,hk,e⟩:=Gs ha
  rw[my,cZ]at hk
  rw[List.getElem_drop,wJ]at e
  have:=h2 (r+k) (by lia) (by lia)
  rw[jw,dG (by lia)]at this
  have h3:j<=a:=by rw[<-e];exact this
  have h4:j≠a:=λz=>h (by rw[z];exact hm)
  lia
 refine⟨u.sublist (List.take_sublist _ _),wG.mpr ⟨gt,u.sublist (List.drop_sublist _ _)⟩,λa ha b hb=>?_⟩
 rcases bJ.mp hb with e | hb
 ·rw[e];exact lt a ha
 ·have:=lt a ha;have:=gt b hb;lia
theorem qH{t:SetTable}{hashAt:Nat->Int}{h:Int}:∀(f:Nat) (p:SetTable.Probe) (j:Nat) (d:Option Nat),(∀q,p.dummy=some q->t.slot q=.dummy)->SetTable.probe.go t hashAt h f p=some (.empty j d)->
  t.slot j=.empty/\∀q,d=some q->t.slot q=.dummy
 | 0,p,j,d,_,e=>by cases e
 | f+1,p,j,d,hd,e=>by
  unfold SetTable.probe.go at e
  have adv:∀p:SetTable.Probe,(t.advance p).dummy=p.dummy:=λp=>by unfold SetTable.advance;split <;> rfl
  cases hs:t.slot p.j with
  | empty=>
   rw[hs]at e
   dsimp only at e
   cases e
   exact⟨hs,hd⟩
  | dummy=>
   rw[hs]at e
   refine qH f _ j d (λq hq=>?_) e
   rw[adv]at hq
   cases hq
   exact hs
  | live i=>
   rw[hs]at e
   dsimp only at e
   split at e
   ·cases e
   ·refine qH f _ j d (λq hq=>?_) e
    rw[adv]at hq
    exact hd q hq
theorem Ja{t:SetTable}(u:Up t.place){h:Int}{j:Nat}{b:Bool}(e:t.freeSlot h=some (j,b)):j∉t.place.toList:=by
 unfold SetTable.freeSlot at e
 have key:∀q,t.slot q=.empty\/t.slot q=.dummy->q∉t.place.toList:=λq hq hm=>by
  have z:=N4 u hm
  have sl:t.slot q=.live (SetTable.below t.place q):=by
   unfold SetTable.slot
   dsimp only
   rw[z];simp
  rw[sl]at hq
  rcases hq with h | h <;> cases h
 cases hp:t.probe (λ_=>h+1) h (t.probeStart h) with
 | none=>rw[hp]at e;cases e
 | some m=>
  rw[hp]at e
  cases m with
  | candidate j i n=>cases e
  | empty j0 d=>
   obtain⟨a,c⟩:=qH _ _ _ _ (λq hq=>by cases hq) hp
   dsimp only at e
   cases d with
   | none=>cases e;exact key _ (.inl a)
   | some q=>cases e;exact key _ (.inr (c q rfl))
theorem rQ(n:Nat):Up (Array.range n):=by
 unfold Up
 rw[Array.toList_range]
 exact List.pairwise_lt_range
theorem Z'{t:SetTable}(u:Up t.place)(es:Array (Int×Value))(h:Int)(x:Value):Up (layNew t es h x).2.1.place:=by
 unfold layNew
 split
 ·rename_i slot aAP q
  dsimp only
  unfold SetTable.orStandIn
  split
  ·exact Lz u (Ja u q)
  ·exact rQ _
 ·exact rQ _
theorem Wg{mask finger moves:Nat}{led plain:Bool}{hs:Array Int}{t':SetTable}{o:Array Nat}(h:SetTable.laid mask finger moves led plain hs=some (t',o)):Up t'.place:=by
 unfold SetTable.laid at h
 cases q:SetTable.layClean mask hs with
 | none=>rw[q]at h;cases h
 | some owner=>
  rw[q]at h
  cases h
  unfold Up
  rw[uR,Ac,List.pairwise_filterMap]
  refine List.pairwise_lt_range.imp λ{a b} hab c hc d hd=>?_
  cases ha:owner.getD a none with
  | none=>rw[ha]at hc;cases hc
  | some k=>
   cases hb:owner.getD b none with
   | none=>rw[hb]at hd;cases hd
   | some k'=>
    rw[ha]at hc;rw[hb]at hd
    cases hc;cases hd
    exact hab
theorem Qi{t:SetTable}(es:Array (Int×Value))(k:Nat):Up (relayAll t es k).2.1.place:=by
 unfold relayAll
 split
 ·rename_i t' o q
  dsimp only
  split
  ·exact Wg q
  ·exact rQ _
 ·exact rQ _
def yA(p:Int×Tok):Int×Value:=(hashInt p.1,.int p.1 p.2)
structure lZ(w:World)(h:Heap)(a:Addr)(l:List (Int×Tok)):Prop where
 ex:∃es ep t,h.get? a=some (fA es ep t)/\es.toList=l.map (yA)/\t.fits es.size=true/\t.led = !uI w/\Up t.place
 nd:(l.map (·.1)).Nodup
 sz:l.length<scanBound
theorem lZ.at{w:World}{h h':Heap}{a:Addr}{l:List (Int×Tok)}(x:lZ w h a l)(k:∀o,h.get? a=some o->h'.get? a=some o):lZ w h' a l:=
 ⟨let ⟨es,ep,t,e,r⟩:=x.ex;⟨es,ep,t,k _ e,r⟩,x.nd,x.sz⟩
section
variable {P:Program}{w:World}{A:Around}{E:Value->Shared->Prop}{s:Shared}{a:Addr}{l:List (Int×Tok)}
theorem NP(l:List (Int×Tok)):ElemsOf (intKind P w) (l.map (yA)):=by
 intro e he
 obtain⟨p,_,rfl⟩:=eU.mp he
 exact⟨⟨p.1,intKind_is P w _ _,rfl⟩,rfl⟩
theorem Nz(x:Int):∀l:List (Int×Tok),(∀j,(l.map (yA)).findIdx? (λe=>(intKind P w).is x e.2)=some j->x∈l.map (·.1))/\((l.map (yA)).findIdx? (λe=>(intKind P w).is x e.2)=none->x∉l.map (·.1)):=by
 intro l
 refine⟨λj h=>?_,λh hm=>?_⟩
 ·obtain⟨hj,hp,_⟩:=List.findIdx?_eq_some_iff_getElem.mp h
  rw[Gd]at hp
  rw[aM]at hj
  have:(l[j]).1=x:=(intKind P w).inj _ _ _ (intKind_is P w _ _) hp
  exact eU.mpr ⟨l[j],m6 hj,this⟩
 ·obtain⟨p,hp,rfl⟩:=eU.mp hm
  have:=List.findIdx?_eq_none_iff.mp h (yA p) (wI hp)
  rw[show(intKind P w).is p.1 (yA p).2=true from intKind_is P w _ _]at this
  cases this
theorem zf{es':List (Int×Value)}{l:List (Int×Tok)}(p:es'.Perm (l.map (yA))):∃l':List (Int×Tok),es'=l'.map (yA)/\l'.Perm l:=by
 let back:Int×Value->Int×Tok:=λe=>match e.2 with | .int x t=>(x,t) | _=>(default,0)
 have hb:∀q:Int×Tok,back (yA q)=q:=λq=>rfl
 refine⟨es'.map back,?_,?_⟩
 ·rw[fY]
  conv=>lhs;rw[<-wg es']
  refine pK λe he=>?_
  obtain⟨q,_,rfl⟩:=eU.mp (p.mem_iff.mp he)
  rfl
 ·have:=p.map back
  rw[fY,show(back ∘ yA)=id from funext hb,wg]at this
  exact this
theorem add_int{x:Int}{tk:Tok}{Q:Bool->Shared->Prop}(S:lZ w s.heap a l)(room:l.length+1<scanBound)
  (q:∀h' l' b,Heap.SameBut a s.heap h'->lZ w h' a l'->(∀z,z∈l'.map (·.1)↔z∈l.map (·.1)\/z=x)->l'.length<=l.length+1->Q b { s with heap:=h' }) :
  wpAny (model P w) A (setAddHashed a (.int x tk) (hashInt x)) Q E s:=by
 obtain⟨⟨es,ep,t,ho,X3,hf,Sb,lO⟩,nd,sz⟩:=S
 have hsz:es.size=l.length:=by rw[<-cZ,X3,aM]
 have hE:ElemsOf (intKind P w) es.toList:=by rw[X3];exact NP l
 have hk:(intKind P w).is x (.int x tk)=true:=intKind_is P w _ _
 have hd:(fA es ep t).data=.set es ep t:=rfl
 unfold setAddHashed setAddHashedIn
 refine js (av (tT ho hd hf ?_))
 dsimp only
 rw[byScan_of (knd:=intKind P w) rfl (by rw[hsz];exact sz) hE]
 simp only[↓reduceIte]
 unfold setAddByScan
 refine av (av (jj (av (wpAny_setScan_of (knd:=intKind P w) hk ho hd hf hE ?_))))
 have hfi:=Nz (P:=P) (w:=w) x l
 rw[<-X3]at hfi
 cases hr:List.findIdx? (λe=>(intKind P w).is x e.2) es.toList with
 | some j=>
  dsimp only
  have hm:=hfi.1 j hr
  refine aK (aK ?_)
  have e:s={ s with heap:=s.heap }:=by cases s;rfl
  rw[e]
  exact q s.heap l false (Heap.SameBut.refl a s.heap) ⟨⟨es,ep,t,ho,X3,hf,Sb,lO⟩,nd,sz⟩ (λz=>⟨.inl,λh=>h.elim id λe=>e ▸ hm⟩) (gT _)
 | none=>
  have hm:=hfi.2 hr
  dsimp only
  have pp:=layNew_perm t es (hashInt x) (.int x tk)
  have pf:=layNew_fits t es (hashInt x) (.int x tk)
  have pl:=Wd t es (hashInt x) (.int x tk)
  have pq:=Z' lO es (hashInt x) (.int x tk)
  generalize hL:layNew t es (hashInt x) (.int x tk)=L at pp pf pl pq ⊢
  obtain⟨rD,t1,aAP,gave⟩:=L
  dsimp only at pp pf pl pq ⊢
  rw[nQ,X3]at pp
  obtain⟨l1,e1,p1⟩:=zf (l:=l++[(x,tk)]) (es':=rD.toList) (by rw[dE];exact pp)
  have aBu:l1.length=l.length+1:=by rw[p1.length_eq,cS];rfl
  have nd1:(l1.map (·.1)).Nodup:=by
   rw[(p1.map (·.1)).nodup_iff,dE,wD]
   refine⟨nd,by simp,λu hu v hv=>?_⟩
   rw[dZ,zT,cG]at hv
   rintro rfl
   rw[hv]at hu
   exact hm hu
  have Wa:∀z,z∈l1.map (·.1)↔z∈l.map (·.1)\/z=x:=λz=>by
   rw[(p1.map (·.1)).mem_iff,dE,cw];simp
  have aEy:rD.size=l.length+1:=by rw[<-cZ,e1,aM,aBu]
  have gw:∀(b:Bool) {s₁:Shared} {Q':Unit->Shared->Prop},Q' () s₁->wpAny (model P w) A (match b with | true=>rule "set.scan.the-table-gave-way" | false=>pure ()) Q' E s₁:=
   λb s₁ Q' hq=>by cases b <;> first | exact aK hq | exact jj hq
  refine av (gw _ ?_)
  have fin:∀t2:SetTable,t2.fits rD.size=true->t2.led=t.led->Up t2.place->
    wpAny (model P w) A (do
     storeSet a rD t2
     if (!aAP&&t2.tooFull)=true then do
      (match (relayAll t2 rD (SetTable.grown rD.size)).2.2 with | true=>rule "set.scan.the-table-gave-way" | false=>pure ())
      storeSet a (relayAll t2 rD (SetTable.grown rD.size)).1 (relayAll t2 rD (SetTable.grown rD.size)).2.1
      pure (some true)
     else pure (some true)) (λr s'=>∃b,r=some b/\Q b s') E s:=by
   intro t2 f2 l2 p2
   refine av (wpAny_storeSet_of ho hd ?_ (by rw[aEy];exact z6 room))
   have g1:(s.heap.update a (Obj.putSet rD t2)).get? a=some (fA rD (ep+1) t2):=by
    have:=pL (Obj.putSet rD t2) ho (by rw[putSet_of rD t2 hd];rfl)
    rw[putSet_of rD t2 hd]at this;exact this
   have sb:=nV s.heap a (Obj.putSet rD t2)
   split
   ·have rp:=relayAll_perm t2 rD (SetTable.grown rD.size)
    have rf:=relayAll_fits t2 rD (SetTable.grown rD.size)
    have rl:=Mp t2 rD (SetTable.grown rD.size)
    have rq:=Qi (t:=t2) rD (SetTable.grown rD.size)
    generalize hR:relayAll t2 rD (SetTable.grown rD.size)=R at rp rf rl rq ⊢
    obtain⟨es2,t3,aF0⟩:=R
    dsimp only at rp rf rl rq ⊢
    rw[e1]at rp
    obtain⟨RK,e2,p2'⟩:=zf rp
    have aBt:RK.length=l.length+1:=by rw[p2'.length_eq,aBu]
    have aEx:es2.size=l.length+1:=by rw[<-cZ,e2,aM,aBt]
    refine av (gw _ ?_)
    refine av (wpAny_storeSet_of g1 rfl ?_ (by rw[aEx];exact z6 room))
    have g2:((s.heap.update a (Obj.putSet rD t2)).update a (Obj.putSet es2 t3)).get? a=some (fA es2 (ep+1+1) t3):=by
     have:=pL (Obj.putSet es2 t3) g1 (by rw[putSet_of es2 t3 (show(fA rD (ep+1) t2).data=_ from rfl)];rfl)
     rw[putSet_of es2 t3 (show(fA rD (ep+1) t2).data=_ from rfl)]at this;exact this
    refine aK ⟨true,rfl,q _ RK true (sb.trans (nV _ a _)) ⟨⟨es2,_,t3,g2,e2,rf,by rw[rl,l2,Sb],rq⟩,by rw[(p2'.map (·.1)).nodup_iff];exact nd1,by lia⟩ (λz=>by rw[(p2'.map (·.1)).mem_iff];exact Wa z) (by lia)⟩
   ·exact aK ⟨true,rfl,q _ l1 true sb ⟨⟨rD,_,t2,g1,e1,f2,by rw[l2,Sb],p2⟩,nd1,by lia⟩ Wa (by lia)⟩
  split
  ·rename_i rB
   refine av ?_
   rw[hashByValue_scannable 8 (show(Value.int x tk).scannable=true from rfl)]
   refine aK ?_
   rw[show(if plainKind (Value.int x tk)=true then t1 else { t1 with plain:=false })=t1 from rfl]
   refine cL (fin t1 pf pl pq) (λr s' h=>?_) λ_ _ h=>h
   obtain⟨b,rfl,hq⟩:=h
   exact aK hq
  ·rename_i rB
   refine av (aK ?_)
   simp only[↓reduceIte]
   refine cL (fin t1 pf pl pq) (λr s' h=>?_) λ_ _ h=>h
   obtain⟨b,rfl,hq⟩:=h
   exact aK hq
end
section
variable {P:Program}{w:World}{A:Around}{R:Result->Shared->Prop}{I:Addr}{fp wr:List Addr}{G:Array GenState->Array GenState->Prop}{n:Nat}{Pv:Nat->Value->Prop}{St:Nat->Shared->Prop}
theorem En(W:WalksS P w A.in1 I fp wr G n Pv St)(S:Addr)(hSf:S∉fp)(val:Nat->Int)(hval:∀i v,Pv i v->∃t,v=.int (val i) t)(hb:n+1<scanBound) :
  ∀(k i:Nat) (s:Shared) (l:List (Int×Tok)),n-i=k->i<=n->St i s->lZ w s.heap S l->l.length<=i->(∀z,z∈l.map (·.1)↔∃j,j<i/\val j=z)->
   (∀s' l',Moved (S::wr) G s s'->lZ w s'.heap S l'->(∀z,z∈l'.map (·.1)↔∃j,j<n/\val j=z)->R (.ok (.ret .none)) s')->
   codeAny (model P w) A (.builtin "set.update.loop" ⟨[.ref S,.ref I],[]⟩) R s:=by
 have nw:S∉wr:=λz=>hSf (W.sub _ z)
 have up:∀b∈wr,b∈S::wr:=λb z=>cV _ z
 intro k
 induction k with
 | zero=>
  intro i s l hk hi st hS hl hm r
  obtain rfl:i=n:=by lia
  refine mq F.entry_set_update_loop ?_
  rw[qh Gi _]
  refine av (m:=pyNext (.ref I)) (W.done s _ _ st λs' mv=>?_)
  refine aK (r s' l (mv.mono up) (hS.at λo e=>mv.heap S o nw e) hm)
 | succ k ih=>
  intro i s l hk hi st hS hl hm r
  have lt:i<n:=by lia
  refine mq F.entry_set_update_loop ?_
  rw[qh Gi _]
  refine av (m:=pyNext (.ref I)) (W.item i s _ _ lt st λv s' pv bC mv=>?_)
  obtain⟨t,rfl⟩:=hval i v pv
  have WD:=hS.at (h':=s'.heap) λo e=>mv.heap S o nw e
  refine av (m:=holding [Value.int (val i) t] (setAdd S (.int (val i) t))) (js ?_)
  unfold setAdd
  refine js (av ((intKind P w).pyHash (k:=val i) (intKind_is _ _ _ _) ?_))
  refine add_int (s:={ s' with toks:=s'.toks+1 }) WD (by lia) λh' l' b sb S2 m2 aBt=>?_
  refine aK ⟨wj Gi _,ih (i+1) _ l' (by lia) lt (W.frame _ s' _ _ bC (gT _) λc hc o e=>?_) S2 (by lia) (λz=>?_) λs2 l2 mv2 S3 m3=>?_⟩
  ·rw[sb.2 c (λq:c=S=>hSf (by rw[<-q];exact hc))];exact e
  ·rw[m2 z,hm z]
   constructor
   ·rintro(⟨j,hj,e⟩ | e)
    ·exact⟨j,by lia,e⟩
    ·exact⟨i,by lia,e.symm⟩
   ·rintro⟨j,hj,e⟩
    by_cases q:j=i
    ·subst q;exact .inr e.symm
    ·exact .inl ⟨j,by lia,e⟩
  ·refine r s2 l2 (Moved.trans W.gtrans ((mv.mono up).then_heap (gT _) λc o hc e=>?_) mv2) S3 m3
   rw[sb.2 c (λq:c=S=>hc (by rw[q];exact df))];exact e
end
theorem xD:∀{vs:List Value} {ss:List Int},IntsAre vs ss->∀(i:Nat) (v:Value),vs[i]?=some v->∃t,v=.int (ss.getD i 0) t
 | _,_,.nil,i,v,h=>by cases i <;> cases h
 | _,_,.cons y t r,0,v,h=>by cases h;exact⟨t,rfl⟩
 | _,_,.cons y t r,i+1,v,h=>by
  obtain⟨u,e⟩:=xD r i v (by simpa using h)
  exact⟨u,by rw[e];rfl⟩
section
variable {P:Program}{w:World}{A:Around}{E:Value->Shared->Prop}{s:Shared}
theorem aA3{l:Addr}{items:Array Value}{ss:List Int}{Q:Value->Shared->Prop}(hh:A.handled=none)(hl:s.heap.IsList l items)(hi:IntsAre items.toList ss)(hb:items.size+1<scanBound)
  (h:∀(h':Heap) (tk:Nat) (ls:List (Int×Tok)),lZ w h' s.heap.objs.size ls->(∀z,z∈ls.map (·.1)↔z∈ss)->(∀b o,b<s.heap.objs.size->s.heap.get? b=some o->h'.get? b=some o)->Q (.ref s.heap.objs.size) { s with heap:=h',toks:=tk }) :
  wpAny (model P w) A (call (.type "set") [.ref l]) Q E s:=by
 have e:∀z:Int,(∃j,j<items.size/\ss.getD j 0=z)↔z∈ss:=λz=>by
  have hlen:items.size=ss.length:=by rw[<-cZ];exact hi.length
  rw[hlen,uU]
  constructor
  ·rintro⟨j,hj,e⟩;exact⟨j,hj,by rw[<-e];simp[hj]⟩
  ·rintro⟨j,hj,e⟩;exact⟨j,hj,by rw[<-e];simp[hj]⟩
 obtain⟨c,tl,aEG⟩:=ju.mro
 have aBE:=ju.made
 have Iv:=ju.sub
 refine kF (zX (aK (a:=_) ⟨z9 _ (by decide +kernel),mq PySem.F.entry_type_call ?_⟩))
 rw[Around.under_plain (weight_type_call_type "set" [.ref l] []) rfl]
 have h1:=ju.notType
 have h2:=ju.canCreate
 have hct:=PySem.F.typeCall_set_1 (.ref l)
 repeat (any_goals (first | assumption | wp_step))
 refine ia (J2 (x:=.ref l) (E:=E) (Q:=λobj s₁=>obj=.ref s.heap.objs.size/\s₁={ s with heap:=s.heap.push (fA #[] 0 (.fresh 0 0 (!uI w))) }) ⟨rfl,rfl⟩) λr s₁ hr=>?_
 cases r with
 | error e=>exact hr
 | ok fl=>
  cases fl with
  | ret obj=>
   obtain⟨rfl,rfl⟩:=hr
   have hS:(s.heap.push (fA #[] 0 (.fresh 0 0 (!uI w)))).get? s.heap.objs.size=some (fA #[] 0 (.fresh 0 0 (!uI w))):=cC _ rfl
   have hT:Shared.TypeIs { s with heap:=s.heap.push (fA #[] 0 (.fresh 0 0 (!uI w))) } (.ref s.heap.objs.size) "set":=⟨_,hS,rfl⟩
   have hli:=ju.init.lookup
   have hbi:=ju.init.bind (.ref s.heap.objs.size)
   repeat (any_goals (first | assumption | wp_step))
   refine ia (Af (R:=wants (λr s₂=>r=.none/\∃h' tk ls,s₂={ s with heap:=h',toks:=tk }/\lZ w h' s.heap.objs.size ls/\(∀z,z∈ls.map (·.1)↔z∈ss)/\
     (∀b o,b<s.heap.objs.size->s.heap.get? b=some o->h'.get? b=some o)) E) ju.init.plain PySem.F.entry_set_init (check_set_init_1 hT ?_)) λr₂ s₂ hr₂=>?_
   ·obtain⟨ol,hol,rC,nl,X5⟩:=hl
    obtain⟨aDE,Rt,aBr,Hv⟩:=ol
    simp only at rC X5
    subst rC;subst X5
    have aAq:(s.heap.push (fA #[] 0 (.fresh 0 0 (!uI w)))).get? l=some { cls:=.type "list",dict:=Rt,data:=.seq items nl,slots:=Hv }:=bN _ hol
    have aEz:=PySem.F.sub_list_set
    have aEA:=PySem.F.sub_list_frozenset
    have vZ:(Value.type "list" == Value.type "dict")=false:=by decide
    have yu:(s.heap.push (fA #[] 0 (.fresh 0 0 (!uI w)))).IsList l items:=⟨_,aAq,rfl,nl,rfl⟩
    unfold Builtin.«set.__init__» noKeywords Builtin.Frozenset.updateFrom
    unfold fA at *
    generalize hPI:pyIter=PI
    wp_walk
    subst hPI
    refine z8 yu (av (zU ?_))
    have hlS:l<s.heap.objs.size:=bG hol
    have hh3:A.in1.in1.in1.handled=none:=by simp[hh]
    have hsz:(s.heap.push (fA #[] 0 (.fresh 0 0 (!uI w)))).objs.size=s.heap.objs.size+1:=lz _ _
    have aAs:l≠(s.heap.push (fA #[] 0 (.fresh 0 0 (!uI w)))).objs.size:=by rw[hsz];exact bf (pJ hlS)
    have hSf:s.heap.objs.size∉[(s.heap.push (fA #[] 0 (.fresh 0 0 (!uI w)))).objs.size,l]:=by
     rw[hsz];simp only[bJ,cG,tV,or_false,not_or];exact⟨bf (nP _),g6 hlS⟩
    refine En ((Walks.list hh3 _ l aAs items).toS) s.heap.objs.size hSf (λj=>ss.getD j 0) (λi v hv=>?hv) hb (items.size-0) 0 _ [] (by lia) (de _)
     ⟨⟨_,cC _ rfl,rfl,rfl⟩,(yu.push _)⟩ ?hS0 (de _) (λz=>⟨(λz=>nomatch z),λ⟨_,hj,_⟩=>absurd hj (Nat.not_lt_zero _)⟩) ?hR
    case hv=>exact xD hi i v (by rw[j7];exact hv)
    case hS0=>exact⟨⟨#[],0,_,bN _ hS,rfl,rfl,rfl,List.Pairwise.nil⟩,qd,by decide⟩
    case hR=>
     intro s' l' hm WD mem
     obtain⟨h',g',d',tk',os'⟩:=s'
     have eg:g'=s.gens:=hm.gens
     have ed:d'=s.drawn:=hm.drawn
     have eo:os'=s.os:=hm.os
     subst eg;subst ed;subst eo
     refine aK (aK ⟨rfl,h',tk',l',rfl,WD,λz=>(mem z).trans (e z),λb o hb e=>?_⟩)
     refine hm.heap b o ?_ (bN _ (bN _ e))
     rw[hsz]
     simp only[bJ,cG,tV,or_false,not_or];exact⟨bf hb,bf (pJ hb)⟩
   ·cases r₂ with
    | error e=>exact hr₂
    | ok fl₂=>
     cases fl₂ with
     | ret r=>
      obtain⟨rfl,h',tk,ls,rfl,WD,hm',hk'⟩:=hr₂
      repeat (any_goals (first | assumption | wp_step))
      exact h _ _ _ WD hm' hk'
     | _=>exact hr₂.elim
  | _=>exact hr.elim
end
section
variable {P:Program}{w:World}{A:Around}{E:Value->Shared->Prop}{s:Shared}{a:Addr}{l:List (Int×Tok)}
theorem lZ.typeIs(S:lZ w s.heap a l):s.TypeIs (.ref a) "set":=let ⟨_,_,_,e,_⟩:=S.ex;⟨_,e,rfl⟩
def Lh(P:Program)(w:World)(z:Nat)(a:Addr)(l:List (Int×Tok))(I:Addr)(s':Shared):Prop:=
 ∃(ord:List Value) (fp:List Addr) (St:Nat->Shared->Prop),(∀B:Around,B.handled=none->WalksS P w B I fp [I] (λx y=>y=x) l.length (λi v=>ord[i]?=some v) St)/\St 0 s'/\
  (∀b∈fp,b<s'.heap.objs.size/\(b=a\/z<=b))/\I∈fp/\ord.Perm (l.map λp=>Value.int p.1 p.2)
end
section
variable {P:Program}{w:World}{A:Around}{E:Value->Shared->Prop}{s:Shared}{a:Addr}{es:Array (Int×Value)}{t:SetTable}{ep slot i:Nat}
theorem HQ{Q:Option (Value×Nat)->Shared->Prop}(hb:uI w=false)(hl:t.led=true)(d:(!t.plain&&decide (es.size > 1))=false)(hS:s.heap.get? a=some (fA es ep t))(hf:t.fits es.size=true)
  (q:Q (match es[SetTable.below t.place slot]?,t.place[SetTable.below t.place slot]? with | some (_,x),some j=>some (x,j+1) | _,_=>none) s):wpAny (model P w) A (setNext a slot i ep) Q E s:=by
 unfold setNext
 refine av (tT hS rfl hf (av (mP ?_)))
 rw[hb]
 dsimp only
 rw[aE (by simp)]
 show wpAny _ _ (if (!t.plain&&decide (es.size > 1))=true then _ else _) _ _ _
 rw[d,aE (by simp)]
 show wpAny _ _ ((if (!t.led && !es.isEmpty)=true then _ else _) >>= _) _ _ _
 rw[hl,zV,zZ,aE (by simp)]
 exact av (aK (aK q))
end
section
variable {P:Program}{w:World}{A:Around}{E:Value->Shared->Prop}{s:Shared}{a:Addr}{l:List (Int×Tok)}
theorem Mg{Q:Value->Shared->Prop}(S:lZ w s.heap a l)
  (q:∀I s',s.heap.objs.size<=I->(∀b o,s.heap.get? b=some o->s'.heap.get? b=some o)->s'.gens=s.gens->s'.os=s.os->Lh P w s.heap.objs.size a l I s'->Q (.ref I) s'):wpAny (model P w) A (pyIter (.ref a)) Q E s:=by
 obtain⟨⟨es,ep,t,ho,X3,hf,Sb,lO⟩,nd,sz⟩:=id S
 have hsz:es.size=l.length:=by rw[<-cZ,X3,aM]
 have hval:es.toList.map (·.2)=l.map λp=>Value.int p.1 p.2:=by rw[X3,fY];rfl
 have lt:a<s.heap.objs.size:=bG ho
 refine wpAny_pyIter_slot S.typeIs PySem.F.slot_set_iter (nL PySem.F.slot_set_iter S.typeIs yf ?_ (PySem.F.args_set_iter_1 _))
 unfold Builtin.«frozenset.__iter__»
 refine av (m:=Builtin.Frozenset.slot0 "__iter__" ⟨[.ref a],[]⟩) (wa (a:=a) rfl ?_)
 unfold Builtin.Frozenset.sizeOf
 refine av (av (Gh ho rfl hf (aK ?_)))
 unfold setDrawn
 refine av (av (tT ho rfl hf (av (mP (aK ?_)))))
 have last:∀(first:Value) (s1:Shared),s1.heap.get? a=some (fA es ep t)->(∀b o,s.heap.get? b=some o->s1.heap.get? b=some o)->s.heap.objs.size<=s1.heap.objs.size->s1.gens=s.gens->s1.os=s.os->
   (∀s',s'.heap.get? s1.heap.objs.size=some (pO first 0 es.size ep a)->(∀b o,s1.heap.get? b=some o->s'.heap.get? b=some o)->Lh P w s.heap.objs.size a l s1.heap.objs.size s')->
   wpAny (model P w) A.in1 (do let e <-setEpoch a;let v <-newFields "set_iterator" [first,rawInt 0,Value.ref a,rawInt es.size,rawInt e];ret v) (λfin s'=>∃v,fin=Fin.done (Flow.ret v)/\∃T' r,s'.TypeIs v T'/\typeLookup (Value.type T') (Str.ofString "__next__")=pure (some r)/\Q v s') E s1:=by
  intro first s1 h1 k1 z1 g1 o1 hw
  refine av (wpAny_setEpoch_of h1 rfl hf ?_)
  unfold newFields
  refine av (iY ?_ (by size_fits))
  have hI:(s1.heap.push { cls:=.type "set_iterator",data:=.fields [first,rawInt 0,Value.ref a,rawInt es.size,rawInt ep].toArray }).get? s1.heap.objs.size=some (pO first 0 es.size ep a):=cC _ rfl
  refine aK ⟨_,rfl,"set_iterator",_,⟨_,hI,rfl⟩,fM.lookup,q _ _ z1 (λb o e=>bN _ (k1 b o e)) g1 o1 (hw _ hI λb o e=>bN _ e)⟩
 show wpAny _ _ (if (!uI w&&(!t.plain&&decide (es.size > 1)))=true then _ else _) _ _ _
 by_cases hd:(!uI w&&(!t.plain&&decide (es.size > 1)))=true
 ·rw[ay hd]
  refine av (zG es.size (List.range es.size) _ _ (by simp) λys d hp=>?_)
  have hyl:ys.length=es.size:=by rw[hp.length_eq,List.length_range]
  refine av (wpAny_newTuple ?_ (by rw[aM,hyl,hsz];exact z6 sz))
  refine last (.ref s.heap.objs.size) _ (bN _ ho) (λb o e=>bN _ e) (by show _<=(Heap.push _ _).objs.size;rw[lz];exact gT _) rfl rfl λs' hI k=>?_
  have e1:(Heap.push s.heap { cls:=.type "tuple",data:=.seq (ys.map λ(i:Nat)=>rawInt i).toArray }).objs.size=s.heap.objs.size+1:=lz _ _
  have Wq:=k s.heap.objs.size _ (cC _ rfl)
  have Ky:=k a _ (bN _ ho)
  have lts:∀j∈ys,j<es.size:=λj hj=>qc.mp (hp.mem_iff.mp hj)
  refine⟨ys.map λj=>(es.toList.map (·.2)).getD j .none,_,_,λC hC=>Ly (n:=l.length) (pl:=ys) (c:=0) (p:=s.heap.objs.size) (es:=es) (t:=t) (ep:=ep) (a:=a) hC (by rw[e1];exact bf (pJ lt)) (by rw[e1];exact bf (nP _)) hf hsz (by rw[aM,hyl,hsz]) (by rw[hyl,hsz]) λi hi=>?_,⟨by rw[<-hsz];exact hI,Ky,Wq⟩,?_,by simp,?_⟩
  ·have Kv:i<ys.length:=by rw[hyl,hsz];exact hi
   have hk:=lts ys[i] (m6 Kv)
   refine⟨ys[i],es[ys[i]].1,es[ys[i]].2,bq Kv,dG hk,?_⟩
   rw[cM,bq Kv,qf,gH,cM,j7,dG hk]
   rfl
  ·intro b hb
   simp only[bJ,tV,or_false]at hb
   rcases hb with rfl | rfl | rfl
   ·exact⟨bG hI,.inr (by rw[e1];exact gT _)⟩
   ·exact⟨bG Ky,.inl rfl⟩
   ·exact⟨bG Wq,.inr (bj _)⟩
  ·rw[<-hval]
   refine(hp.map _).trans ?_
   rw[show(List.range es.size).map (λj=>(es.toList.map (·.2)).getD j .none)=es.toList.map (·.2) from ?_]
   refine rG λi=>?_
   by_cases hi:i<es.size
   ·simp[hi]
   ·simp[hi]
 ·rw[aE hd]
  refine av (aK ?_)
  refine last (rawInt 0) s ho (λ_ _ e=>e) (bj _) rfl rfl λs' hI k=>?_
  have Ky:=k a _ ho
  have fpl:∀b∈[s.heap.objs.size,a],b<s'.heap.objs.size/\(b=a\/s.heap.objs.size<=b):=λb hb=>by
   simp only[bJ,tV,or_false]at hb
   rcases hb with rfl | rfl
   ·exact⟨bG hI,.inr (bj _)⟩
   ·exact⟨bG Ky,.inl rfl⟩
  cases hb:uI w with
  | true=>
   refine⟨(pickOrder (w.params.setOrder a ep) es).toList.map (·.2),_,_,λC hC=>yQ (n:=l.length) (es:=es) (t:=t) (ep:=ep) (a:=a) (λ_=>0) hC (bf lt) hf hsz (by rw[aM,(zb _ es).length_eq,cZ,hsz]) λi _ s1 C' E' Q' h1 hq=>?_,⟨by rw[<-hsz];exact hI,Ky⟩,fpl,by simp,?_⟩
   ·refine Ef hb h1 hf ?_
    rw[cM,j7,Option.map_map]at hq
    exact hq
   ·rw[<-hval];exact(zb _ es).map _
  | false=>
   have led:t.led=true:=by rw[Sb,hb];rfl
   have hpz:t.place.size=es.size:=by
    unfold SetTable.fits at hf
    rw[dv]at hf
    exact eq_of_beq hf.1
   have dr:(!t.plain&&decide (es.size > 1))=false:=by rw[hb]at hd;simpa using hd
   refine⟨es.toList.map (·.2),_,_,λC hC=>yQ (n:=l.length) (es:=es) (t:=t) (ep:=ep) (a:=a) (mE t.place) hC (bf lt) hf hsz (by rw[aM,cZ,hsz]) λi hi s1 C' E' Q' h1 hq=>?_,⟨by rw[<-hsz];exact hI,Ky⟩,fpl,by simp,by rw[hval]⟩
   refine HQ hb led dr h1 hf ?_
   rw[below_at lO (by lia)]
   rw[cM,j7]at hq
   by_cases h2:i<es.size
   ·rw[dG h2]at hq ⊢
    rw[dG (show i<t.place.size by lia)]
    have e:mE t.place (i+1)=t.place[i]'(by lia)+1:=by
     unfold mE
     rw[aE (by lia),Ae,jw,dG (show i<t.place.size by lia)]
     rfl
    rw[e]at hq
    exact hq
   ·rw[GK (by lia)]at hq ⊢
    exact hq
theorem Cq{Q:List Value->Shared->Prop}(hh:A.handled=none)(S:lZ w s.heap a l)
  (q:∀(s':Shared) (vs:List Value),(∀b o,s.heap.get? b=some o->s'.heap.get? b=some o)->s.heap.objs.size<=s'.heap.objs.size->s'.gens=s.gens->s'.os=s.os->vs.Perm (l.map λp=>Value.int p.1 p.2)->Q vs s'):wpAny (model P w) A (collect (.ref a)) Q E s:=by
 have lt:a<s.heap.objs.size:=let ⟨_,_,_,e,_⟩:=S.ex;bG e
 unfold collect
 refine av (zU (mq entry_proto_collect' ?_))
 rw[qh PySem.F.plain_proto_collect _]
 refine av (m:=newList []) (iY ?_)
 refine aK ⟨wj Am _,mq entry_list_iadd' ?_⟩
 rw[qh Am _]
 let L0:Obj:={ cls:=.type "list",data:=.seq ([]:List Value).toArray }
 have k0:∀b o,s.heap.get? b=some o->(s.heap.push L0).get? b=some o:=λb o e=>bN _ e
 have hL:(s.heap.push L0).get? s.heap.objs.size=some L0:=cC _ rfl
 have S0:lZ w (s.heap.push L0) a l:=S.at λo e=>k0 a o e
 show wpAny _ A.in1 (Builtin.List.listExtendWith (.ref s.heap.objs.size) (.ref a) (.ref s.heap.objs.size)) _ _ { s with heap:=s.heap.push L0 }
 unfold Builtin.List.listExtendWith
 refine av (wd (T:="set") (lZ.typeIs (s:={ s with heap:=s.heap.push L0 }) S0) ?_)
 have h1:Builtin.List.listSameRef (.ref s.heap.objs.size) (.ref a)=false:=by simp[Builtin.List.listSameRef,g6 lt]
 have h2:(Value.type "set" == Value.type "list")=false:=by decide
 have h3:(Value.type "set" == Value.type "tuple")=false:=by decide
 simp only[h1,h2,h3,zW,ja,fu]
 refine av (Mg (s:={ s with heap:=s.heap.push L0 }) S0 λI s1 zI k1 g1 o1 W=>?_)
 have S1:lZ w s1.heap a l:=S0.at λo e=>k1 a o e
 have Kz:=k1 _ _ hL
 have vZ:s.heap.objs.size≠I:=by
  have:(s.heap.push L0).objs.size<=I:=zI
  rw[lz]at this
  exact bf this
 refine av (js (P9 (lZ.typeIs S1) ?_))
 obtain⟨ord,fp,St,wk,st,fpl,mI,po⟩:=W
 have hlen:l.length<=sizeLine:=z6 S.sz
 have z1:(s.heap.push L0).objs.size=s.heap.objs.size+1:=lz _ _
 have nf:s.heap.objs.size∉fp:=λz=>by
  rcases(fpl _ z).2 with e | e
  ·exact absurd e (g6 lt)
  ·have e':(s.heap.push L0).objs.size<=s.heap.objs.size:=e
   rw[z1]at e'
   exact absurd e' (Nat.not_succ_le_self _)
 refine wpAny_ite_split (λ_=>?_) (λz=>absurd (by decide +kernel) z)
 refine av (jj (av ?_))
 show wpAny _ _ (updateSeq s.heap.objs.size (·.push .none) >>= λ_=>updateSeq s.heap.objs.size (·.pop)) _ _ _
 refine av (wpAny_updateSeq Kz rfl ?_)
 have WK:=pL (Obj.mapSeq (·.push Value.none)) Kz rfl
 refine wpAny_updateSeq (hz:=by seq_fits) WK rfl ?_
 have hL3:=pL (Obj.mapSeq (·.pop)) WK rfl
 have ZL:∀b o,b≠s.heap.objs.size->s1.heap.get? b=some o->((s1.heap.update s.heap.objs.size (Obj.mapSeq (·.push Value.none))).update s.heap.objs.size (Obj.mapSeq (·.pop))).get? b=some o:=
  λb o hb e=>(uV _ _ (eK hb)).trans ((uV _ _ (eK hb)).trans e)
 have W1:=wk A.in1 hh
 refine aK ⟨wj PySem.F.plain_extend_loop _,codeAny_extend_loopS W1 hlen _ nf _ l.length 0 _ #[] _ rfl (de _) (W1.frame 0 s1 _ s1.toks st (bj _) λb hb o e=>ZL b o (λz=>nf (z ▸ hb)) e) hL3 (ItemsOf.nil _) λs2 acc c2 mv hS2 yx=>?_⟩
 refine av (m:=load s.heap.objs.size) (wpAny_load hS2 (aK ?_))
 refine q s2 acc.toList (λb o e=>mv.heap b o (λhm=>?_) (ZL b o (bf (bG e)) (k1 b o (k0 b o e)))) (kG (bG hS2)) (mv.gens.trans g1) (mv.os.trans o1) ?_
 ·have iE:b<s.heap.objs.size:=bG e
  rcases bJ.mp hm with e1 | e1
  ·exact absurd e1 (bf iE)
  ·rw[cG.mp e1]at iE
   have:(s.heap.push L0).objs.size<=I:=zI
   rw[z1]at this
   exact absurd (bW iE (Nat.le_of_succ_le this)) (g7 _)
 ·have e:acc.toList=ord:=by
   refine rG λj=>?_
   by_cases hj:j<l.length
   ·have h0:j<acc.size:=by rw[yx.1];exact hj
    have h1:acc[j]?=some acc[j]:=dG h0
    rw[j7,h1,yx.2 j _ h1]
   ·rw[lB (by rw[cZ,yx.1];lia),lB (by rw[po.length_eq,aM];lia)]
  rw[e];exact po
theorem Iu{vs:List Value}{l:List (Int×Tok)}(po:vs.Perm (l.map λp=>Value.int p.1 p.2)):∃ts,IntsAre vs ts/\ts.Perm (l.map (·.1)):=by
 have:∃l':List (Int×Tok),vs=l'.map (λp:Int×Tok=>Value.int p.1 p.2)/\l'.Perm l:=by
  let back:Value->Int×Tok:=λe=>match e with | .int x t=>(x,t) | _=>(default,0)
  refine⟨vs.map back,?_,?_⟩
  ·rw[fY]
   conv=>lhs;rw[<-wg vs]
   refine pK λe he=>?_
   obtain⟨z,_,rfl⟩:=eU.mp (po.mem_iff.mp he)
   rfl
  ·have:=po.map back
   rw[fY,show(back ∘ λp:Int×Tok=>Value.int p.1 p.2)=id from rfl,wg]at this
   exact this
 obtain⟨l',rfl,pl⟩:=this
 refine⟨l'.map (·.1),?_,pl.map _⟩
 clear po pl
 induction l' with
 | nil=>exact .nil
 | cons p l' ih=>exact .cons p.1 p.2 ih
theorem Hg{x:Value}{us:List Int}{Q:Value->Shared->Prop}(h64:us.length<64)
  (hc:∀(Q':List Value->Shared->Prop),(∀(s':Shared) (vs:List Value) (ts:List Int),(∀b o,s.heap.get? b=some o->s'.heap.get? b=some o)->s.heap.objs.size<=s'.heap.objs.size->s'.gens=s.gens->s'.os=s.os->IntsAre vs ts->ts.Perm us->Q' vs s')->wpAny (model P w) A.in1 (collect x) Q' E s)
  (q:∀(s':Shared) (D c:Nat) (vs:List Value) (ss:List Int),(∀b o,s.heap.get? b=some o->s'.heap.get? b=some o)->s.heap.objs.size<=D->s'.gens=s.gens->s'.os=s.os->s'.heap.get? D=some { cls:=.type "list",data:=.seq vs.toArray c }->IntsAre vs ss->
   ss.Perm us->ss.Pairwise (·<=·)->Q (.ref D) s'):wpAny (model P w) A (call (.builtin "sorted") [x]) Q E s:=by
 refine Calls.call_function_entry kind_sorted plain_sorted entry_sorted (args_sorted1 _) ?_
 unfold Builtin.«sorted»
 refine av (m:=checkCount "sorted" 1 1 _) (aK ?_)
 refine av (hc _ λs1 vs ts k1 old g1 o1 T8 T6=>?_)
 have hl:vs.length=us.length:=by rw[T8.length,T6.length_eq]
 refine av (wm ?_ (by rw[hl];exact mD (by lia)))
 have Np:(s1.heap.push (seqObj "list" vs.toArray 0)).get? s1.heap.objs.size=some (seqObj "list" vs.toArray 0):=cC _ rfl
 refine av (js (nL slot_list_sort ⟨_,Np,rfl⟩ entry_list_sort (list_sort_tree Np T8 (by lia) λout ss' e1 e2 e3=>⟨_,rfl,?_⟩) (args_list_sort _)))
 obtain⟨c,hc⟩:=sortedHeap_at (out:=out) Np
 refine aK ⟨_,rfl,q _ s1.heap.objs.size c out.toList ss' (λb o e=>?_) old g1 o1 (by rw[hc]) e1 (e2.trans T6) e3⟩
 have lt:=bG (k1 b o e)
 show(sortedHeap _ _ _ _).get? b=some o
 rw[sortedHeap_old (bf lt) (by rw[size_push'];exact pJ lt)]
 exact bN _ (k1 b o e)
end
def InS(w:World)(p:Addr)(ss:List Int):HO:=.ext λh=>∃l,lZ w h p l/\∀z,z∈l.map (·.1)↔z∈ss
section
variable {X:Cx}
def DR(w:World):List V->Hp->VK->Prop:=λvs H Q=>∃a ss,vs=[.ref a]/\H a=some (InS w a ss)/\ss.length<64/\
 ∀ss':List Int,(∀z,z∈ss'↔z∈ss)->ss'.Pairwise (· < ·)->∀p,H p=none->Q (.ref p) (upd H p (.lst (ss'.map V.int)))
theorem Ig{l:List Int}(n:l.Nodup)(h:l.Pairwise (·<=·)):l.Pairwise (· < ·):=(List.Pairwise.and n h).imp λ⟨a,b⟩=>by lia
theorem vB(hh:X.A.handled=none):fz X (.builtin "sorted") (DR X.w):=by
 intro pins s σ H vs us Q I rv h
 obtain⟨a,ss,rfl,hq,hn,q⟩:=h
 obtain⟨u,rfl,ru⟩:=vals1 rv
 cases ru
 obtain⟨⟨l,hS,hm⟩,_,_⟩:=I.bz a _ hq
 have hl:(l.map (·.1)).length<=ss.length:=zm hS.nd λx hx=>(hm x).mp hx
 refine Hg (us:=l.map (·.1)) (by lia) (λQ' hQ'=>Cq (A:=X.A.in1) hh hS λs' vs k z g o po=>let ⟨ts,h1,h2⟩:=Iu po;hQ' s' vs ts k z g o h1 h2) λs' D c vs ss' k z g o hD R4 pss srt=>?_
 have zB:H D=none:=I.bz.fresh z
 have I1:Inv X pins σ (upd H D (.lst (ss'.map V.int))) { s with heap:=s'.heap,toks:=s.toks }:=I.laid k z ⟨by rw[aM,pss.length_eq];exact mD (by lia),vs,c,ua R4,hD⟩
 refine⟨.ref D,_,I1.same rfl g o,rfl,q ss' (λz=>(pss.mem_iff).trans (hm z)) (Ig (pss.nodup_iff.mpr hS.nd) srt) _ zB⟩
def Qv(w:World):List V->Hp->VK->Prop:=λvs H Q=>∃a,vs=[.ref a]/\∃ss:List Int,H a=some (.lst (ss.map V.int))/\ss.length<4000/\∀p,H p=none->Q (.ref p) (upd H p (InS w p ss))
def o8(w:World):List V->Hp->VK->Prop:=λvs H Q=>∃a,vs=[.ref a]/\∃ss:List Int,H a=some (InS w a ss)/\ss.length<64/\
 ∀ss':List Int,(∀z,z∈ss'↔z∈ss)->ss'.Pairwise (· < ·)->∀p,H p=none->Q (.ref p) (upd H p (.lst (ss'.map V.int)))
theorem xK(hh:X.A.handled=none):fz X (.builtin "sorted") (o8 X.w):=(vB hh).imp λx H Q ⟨p,e,ss,h,n,q⟩=>⟨p,ss,e,h,n,q⟩
end
end L2
end
section
namespace HT
open PySem PyProof.Rows L2
section
variable {prog:Program}{w:World}{A:Around}{E:Value->Shared->Prop}{s:Shared}
theorem pC{t sl:Addr}{items:Array Value}{vl vu:Value}{lo hi:Option Int}{Q:Value->Shared->Prop}(ht:IsTup s.heap t items)(hs:s.heap.IsSliceOf sl vl vu .none)(pl:IsPart vl lo)(pu:IsPart vu hi)
  (h1:dO items.size 0 lo=0) (h2:dO items.size items.size hi=items.size) (h:Q (.ref t) s):wpAny (model prog w) A (getItem (.ref t) (.ref sl)) Q E s:=by
 obtain⟨os,hos,hcs,hds⟩:=id hs
 have hTs:s.TypeIs (.ref sl) "slice":=⟨os,hos,hcs⟩
 unfold getItem
 try with_reducible refine js ?_
 first | refine av (aK ?_) | skip
 refine av (wpAny_sequenceKey ht.typeIs (by decide) ?_)
 refine av (t5 (name:=Str.ofString "__getitem__") ht.typeIs yJ
  (nL yJ ht.typeIs entry_tuple_getitem ?_ (args_tuple_getitem _ _)))
 show wpAny _ _ (Builtin.Tuple.tupleItemsOf (.ref t) >>= _) _ _ s
 refine av (tupleItemsOf_ ht ?_)
 refine av (wd hTs ?_)
 rw[ay (by decide)]
 refine av (lI hs pl pu ?_)
 have eF:(((dO items.size 0 lo:Nat):Int)==0&&(1:Int)==1&&(dO items.size items.size hi-dO items.size 0 lo)==items.size)=true:=by
  rw[h1,h2];simp
 show wpAny _ _ (if (((dO items.size 0 lo:Nat):Int)==0&&(1:Int)==1&&(dO items.size items.size hi-dO items.size 0 lo)==items.size)=true then _ else _) _ _ s
 rw[ay eF]
 refine av (m:=Builtin.Tuple.tupleIsExact (.ref t)) ?_
 unfold Builtin.Tuple.tupleIsExact
 refine av (wd ht.typeIs (aK ?_))
 rw[ay (by decide)]
 exact av (jj (aK ⟨_,rfl,aK h⟩))
end
end HT
namespace L2
open PySem PySem.Spec PyProof.Rows
section
variable {X:Cx}
def J5:V->Option Int->Option Int->Hp->VK->Prop:=λx lo hi H Q=>∃a,x=.ref a/\∃xs,H a=some (.tup xs)/\
 ((HT.dO xs.length 0 lo=0/\HT.dO xs.length xs.length hi=xs.length)->Q (.ref a) H)/\(¬(HT.dO xs.length 0 lo=0/\HT.dO xs.length xs.length hi=xs.length)->∀p,H p=none->Q (.ref p) (upd H p (.tup (jY xs lo hi))))
theorem aA1:Ui X J5:=by
 intro pins s σ H x v vl vu lo hi sl Q I rx hs pl pu h
 obtain⟨a,rfl,xs,hx,q1,q2⟩:=h
 by_cases hw:HT.dO xs.length 0 lo=0/\HT.dO xs.length xs.length hi=xs.length
 ·cases rx
  obtain⟨its,r,ht,hz⟩:=I.tuple (bR hx)
  have hlen:its.toArray.size=xs.length:=by rw[bS];exact r.length.symm
  refine⟨"tuple",_,yJ.lookup,ht.typeIs,?_⟩
  exact HT.pC ht hs pl pu (by rw[hlen];exact hw.1) (by rw[hlen];exact hw.2) ⟨.ref a,H,I,rfl,q1 hw⟩
 ·exact aCA pins s σ H _ v vl vu lo hi sl Q I rx hs pl pu ⟨a,rfl,xs,hx,hw,q2 hw⟩
end
section
variable {X:Cx}{pins:List (Addr×Obj)}{s:Shared}{σ:St}{H:Hp}
def Y8(neg:Bool):R2:=λx y H Q=>∃a L,x=.ref a/\y=.ref L/\∃u bs ts,H a=some (.tup (List.map V.int u))/\H L=some (.lst (List.map V.ref bs))/\aL H bs ts/\Q (.bl (if neg then !decide (u∈ts) else decide (u∈ts))) H
end
def nG{δ:Type}(Rep:Hp->V->δ->Prop)(H:Hp)(vs:List V)(ds:List δ):Prop:=vs.length=ds.length/\∀(i:Nat) v d,vs[i]?=some v->ds[i]?=some d->Rep H v d
theorem nG.nil{δ:Type}{Rep:Hp->V->δ->Prop}{H:Hp}:nG Rep H [] []:=⟨rfl,λi v d h=>by simp at h⟩
theorem nG.snoc{δ:Type}{Rep:Hp->V->δ->Prop}{H:Hp}{vs:List V}{ds:List δ}{v:V}{d:δ}(h:nG Rep H vs ds)(hv:Rep H v d):nG Rep H (vs++[v]) (ds++[d]):=by
 refine⟨by rw[cS,cS,h.1];rfl,λi u e hu he=>?_⟩
 have hl:=h.1
 by_cases hi:i<vs.length
 ·rw[lD hi]at hu
  rw[lD (by lia)]at he
  exact h.2 i u e hu he
 ·rw[jv (by lia)]at hu
  rw[jv (by lia),<-hl]at he
  have h0:i-vs.length=0:=by
   cases z:i-vs.length with
   | zero=>rfl
   | succ n=>rw[z]at hu;simp at hu
  rw[h0]at hu he
  cases hu;cases he
  exact hv
theorem nG.mono{δ:Type}{Rep:Hp->V->δ->Prop}{H H':Hp}{vs:List V}{ds:List δ}(k:∀v d,Rep H v d->Rep H' v d)(h:nG Rep H vs ds):nG Rep H' vs ds:=⟨h.1,λi v d a b=>k v d (h.2 i v d a b)⟩
def gZ(H:Hp)(v:V)(x:List Int):Prop:=∃b,v=.ref b/\H b=some (.tup (List.map V.int x))
theorem se{H:Hp}{vs:List V}{ts:List (List Int)}(h:nG gZ H vs ts):∃bs,vs=List.map V.ref bs/\aL H bs ts:=by
 induction vs generalizing ts with
 | nil=>
  have:ts=[]:=GZ.mp h.1.symm
  subst this
  exact⟨[],rfl,rfl,λi b t e=>by simp at e⟩
 | cons v vs ih=>
  cases ts with
  | nil=>exact absurd h.1 (by simp)
  | cons t ts=>
   obtain⟨bs,e1,s1⟩:=ih (ts:=ts) ⟨by have:=h.1;simpa using this,λi v d a b=>h.2 (i+1) v d (by simpa using a) (by simpa using b)⟩
   obtain⟨b,rfl,hb⟩:=h.2 0 v t rfl rfl
   refine⟨b::bs,by rw[e1];rfl,by rw[eV,eV,s1.1],λi c u hc hu=>?_⟩
   cases i with
   | zero=>cases hc;cases hu;exact hb
   | succ n=>exact s1.2 n c u (by simpa using hc) (by simpa using hu)
theorem o5{δ:Type}(f:Nat->Option δ)(i:Nat):(List.range (i+1)).filterMap f=(List.range i).filterMap f++(f i).toList:=by
 rw[List.range_succ,List.filterMap_append]
 cases e:f i <;> simp[e]
theorem SN{δ:Type}(f:Nat->Option δ)(i:Nat):((List.range i).filterMap f).length<=i:=cQ (List.length_filterMap_le _ _) (by rw[List.length_range];exact bj _)
theorem Ji{K:PySem.W.Frag}{a:Addr}{zs:List V}{idx:List Nat}{tt:CB->TT}{te:CB->TE}{σ:St}{Q:VK}{H1:Hp}{δ:Type}(S:Hp->Hp->Prop)(f:Nat->Option δ)(Rep:Addr->Hp->V->δ->Prop)(sr:S H1 H1)(st:∀H H',S H1 H->S H H'->S H1 H')
  (sp:∀D H o,H1 D=none->S H1 H->S H1 (upd H D o)) (sk:∀D H H' o,H1 D=none->S H1 H->S H H'->H D=some o->H' D=some o)
  (mono:∀D H H' v d,S H1 H->S H H'->Rep D H v d->Rep D H' v d) (HR:∀D H o v d,H1 D=none->S H1 H->(∃xs,H D=some (.lst xs))->Rep D H v d->Rep D (upd H D o) v d)
  (hL:∀H,S H1 H->H a=some (.lst zs)) (l9:zs.length<=900000)
  (hs:∀(D:Addr) (c:CB) (H:Hp) (i:Nat) (z:V) (yes:V->Hp->Prop) (no:Hp->Prop),zs[i]?=some z->S H1 H->H1 D=none->(∃xs,H D=some (.lst xs))->(∀d,f i=some d->∀v H',S H H'->Rep D H' v d->yes v H')->(f i=none->∀H',S H H'->no H')->tt c (some (z)::cg σ idx) H λb H4=>if b=true then te c (some (z)::cg σ idx) H4 yes else no H4)
  (q:∀D H' vs,S H1 H'->H1 D=none->H' D=some (.lst vs)->nG (Rep D) H' vs ((List.range (zs.length)).filterMap f)->Q (.ref D) H'):kE (JC K a) 1 idx (λ_=>dg 0) tt te σ Q H1:=by
 obtain⟨Pc,jX⟩:∃Pc:Addr->Nat->List V->Hp->Prop,∀Z i ys H',Pc Z i ys H'↔S H1 H'/\H' Z=some (.lst ys)/\nG (Rep Z) H' ys ((List.range i).filterMap f):=⟨_,λ_ _ _ _=>dY⟩
 refine sY Pc (λZ hZ=>(jX _ _ _ _).mpr ⟨sp Z _ _ hZ sr,ai,.nil⟩) (λZ hZ i ys H' _ pv=>hL H' ((jX _ _ _ _).mp pv).1) (λZ hZ i z ys H' hz pv cb=>?_) (λZ hZ ys H' pv=>?_)
 ·obtain⟨s1,qR,rl⟩:=(jX _ _ _ _).mp pv
  have hi:i<zs.length:=(fq.mp hz).1
  refine hs Z cb H' i z _ _ hz s1 hZ ⟨_,qR⟩ (λd hd v H2 s2 hv=>?_) (λhn H2 s2=>?_)
  ·refine⟨sk Z _ _ _ hZ s1 s2 qR,?_,(jX _ _ _ _).mpr ⟨sp Z _ _ hZ (st _ _ s1 s2),ai,?_⟩⟩
   ·rw[rl.1]
    have:=SN f i
    exact rJ (by lia:((List.range i).filterMap f).length<=1000000) (by decide)
   ·rw[o5,hd]
    exact(((rl.mono λv d=>mono Z _ _ v d s1 s2)).snoc hv).mono λv d=>HR Z H2 _ v d hZ (st _ _ s1 s2) ⟨_,sk Z _ _ _ hZ s1 s2 qR⟩
  ·refine(jX _ _ _ _).mpr ⟨st _ _ s1 s2,sk Z _ _ _ hZ s1 s2 qR,?_⟩
   rw[o5,hn,Option.toList_none,gj]
   exact rl.mono λv d=>mono Z _ _ v d s1 s2
 ·obtain⟨s1,qR,rl⟩:=(jX _ _ _ _).mp pv
  exact q Z H' ys s1 hZ qR rl
theorem N1{K:PySem.W.Frag}{a:Addr}{zs:List V}{idx:List Nat}{tt:CB->TT}{te:CB->TE}{σ:St}{Q:VK}{H1:Hp}{δ:Type}(S:Hp->Hp->Prop)(f:Nat->Option δ)(Rep:Addr->Hp->V->δ->Prop)(sr:S H1 H1)(st:∀H H',S H1 H->S H H'->S H1 H')
  (sp:∀D H o,H1 D=none->S H1 H->S H1 (upd H D o)) (sk:∀D H H' o,H1 D=none->S H1 H->S H H'->H D=some o->H' D=some o)
  (mono:∀D H H' v d,S H1 H->S H H'->Rep D H v d->Rep D H' v d) (HR:∀D H o v d,H1 D=none->S H1 H->(∃xs,H D=some (.lst xs))->Rep D H v d->Rep D (upd H D o) v d)
  (hL:∀H,S H1 H->H a=some (.tup zs)) (l9:zs.length<=900000)
  (hs:∀(D:Addr) (c:CB) (H:Hp) (i:Nat) (z:V) (yes:V->Hp->Prop) (no:Hp->Prop),zs[i]?=some z->S H1 H->H1 D=none->(∃xs,H D=some (.lst xs))->(∀d,f i=some d->∀v H',S H H'->Rep D H' v d->yes v H')->(f i=none->∀H',S H H'->no H')->tt c (some (z)::cg σ idx) H λb H4=>if b=true then te c (some (z)::cg σ idx) H4 yes else no H4)
  (q:∀D H' vs,S H1 H'->H1 D=none->H' D=some (.lst vs)->nG (Rep D) H' vs ((List.range (zs.length)).filterMap f)->Q (.ref D) H'):kE (Xh K a) 1 idx (λ_=>dg 0) tt te σ Q H1:=by
 obtain⟨Pc,jX⟩:∃Pc:Addr->Nat->List V->Hp->Prop,∀Z i ys H',Pc Z i ys H'↔S H1 H'/\H' Z=some (.lst ys)/\nG (Rep Z) H' ys ((List.range i).filterMap f):=⟨_,λ_ _ _ _=>dY⟩
 refine km Pc (λZ hZ=>(jX _ _ _ _).mpr ⟨sp Z _ _ hZ sr,ai,.nil⟩) (λZ hZ i ys H' _ pv=>hL H' ((jX _ _ _ _).mp pv).1) (λZ hZ i z ys H' hz pv cb=>?_) (λZ hZ ys H' pv=>?_)
 ·obtain⟨s1,qR,rl⟩:=(jX _ _ _ _).mp pv
  have hi:i<zs.length:=(fq.mp hz).1
  refine hs Z cb H' i z _ _ hz s1 hZ ⟨_,qR⟩ (λd hd v H2 s2 hv=>?_) (λhn H2 s2=>?_)
  ·refine⟨sk Z _ _ _ hZ s1 s2 qR,?_,(jX _ _ _ _).mpr ⟨sp Z _ _ hZ (st _ _ s1 s2),ai,?_⟩⟩
   ·rw[rl.1]
    have:=SN f i
    exact rJ (by lia:((List.range i).filterMap f).length<=1000000) (by decide)
   ·rw[o5,hd]
    exact(((rl.mono λv d=>mono Z _ _ v d s1 s2)).snoc hv).mono λv d=>HR Z H2 _ v d hZ (st _ _ s1 s2) ⟨_,sk Z _ _ _ hZ s1 s2 qR⟩
  ·refine(jX _ _ _ _).mpr ⟨st _ _ s1 s2,sk Z _ _ _ hZ s1 s2 qR,?_⟩
   rw[o5,hn,Option.toList_none,gj]
   exact rl.mono λv d=>mono Z _ _ v d s1 s2
 ·obtain⟨s1,qR,rl⟩:=(jX _ _ _ _).mp pv
  exact q Z H' ys s1 hZ qR rl
theorem eQ{K:PySem.W.Frag}{a:Addr}{zs:List V}{idx:List Nat}{tt:CB->TT}{te:CB->TE}{σ:St}{Q:VK}{H1:Hp}{δ:Type}(f:Nat->Option δ)(Rep:Addr->Hp->V->δ->Prop)(mono:∀D H H' v d,bP H H'->Rep D H v d->Rep D H' v d)(HR:∀D H o v d,(∃xs,H D=some (.lst xs))->H1 D=none->Rep D H v d->Rep D (upd H D o) v d)
  (hL:H1 a=some (.lst zs)) (l9:zs.length<=900000)
  (hs:∀(D:Addr) (c:CB) (H:Hp) (i:Nat) (z:V) (yes:V->Hp->Prop) (no:Hp->Prop),zs[i]?=some z->bP H1 H->H1 D=none->(∃xs,H D=some (.lst xs))->(∀d,f i=some d->∀v H',bP H H'->Rep D H' v d->yes v H')->(f i=none->∀H',bP H H'->no H')->tt c (some (z)::cg σ idx) H λb H4=>if b=true then te c (some (z)::cg σ idx) H4 yes else no H4)
  (q:∀D H' vs,bP H1 H'->H1 D=none->H' D=some (.lst vs)->nG (Rep D) H' vs ((List.range (zs.length)).filterMap f)->Q (.ref D) H'):kE (JC K a) 1 idx (λ_=>dg 0) tt te σ Q H1:=
 Ji bP f Rep (λ_ _ e=>e) (λ_ _ a b=>a.trans b) (λD H o hD s b u e=>by rw[au (az e hD)];exact s b u e) (λD H H' o _ _ s e=>s D o e) (λD H H' v d _ s r=>mono D H H' v d s r) (λD H o v d hD _ hl r=>HR D H o v d hl hD r) (λH s=>s _ _ hL) l9 hs q
theorem lV{K:PySem.W.Frag}{a:Addr}{zs:List V}{idx:List Nat}{tt:CB->TT}{te:CB->TE}{σ:St}{Q:VK}{H1:Hp}{δ:Type}(f:Nat->Option δ)(Rep:Addr->Hp->V->δ->Prop)(mono:∀D H H' v d,bP H H'->Rep D H v d->Rep D H' v d)(HR:∀D H o v d,(∃xs,H D=some (.lst xs))->H1 D=none->Rep D H v d->Rep D (upd H D o) v d)
  (hL:H1 a=some (.tup zs)) (l9:zs.length<=900000)
  (hs:∀(D:Addr) (c:CB) (H:Hp) (i:Nat) (z:V) (yes:V->Hp->Prop) (no:Hp->Prop),zs[i]?=some z->bP H1 H->H1 D=none->(∃xs,H D=some (.lst xs))->(∀d,f i=some d->∀v H',bP H H'->Rep D H' v d->yes v H')->(f i=none->∀H',bP H H'->no H')->tt c (some (z)::cg σ idx) H λb H4=>if b=true then te c (some (z)::cg σ idx) H4 yes else no H4)
  (q:∀D H' vs,bP H1 H'->H1 D=none->H' D=some (.lst vs)->nG (Rep D) H' vs ((List.range (zs.length)).filterMap f)->Q (.ref D) H'):kE (Xh K a) 1 idx (λ_=>dg 0) tt te σ Q H1:=
 N1 bP f Rep (λ_ _ e=>e) (λ_ _ a b=>a.trans b) (λD H o hD s b u e=>by rw[au (az e hD)];exact s b u e) (λD H H' o _ _ s e=>s D o e) (λD H H' v d _ s r=>mono D H H' v d s r) (λD H o v d hD _ hl r=>HR D H o v d hl hD r) (λH s=>s _ _ hL) l9 hs q
theorem gZ.mono{H H':Hp}{v:V}{d:List Int}(k:∀b xs,H b=some (.tup xs)->H' b=some (.tup xs))(r:gZ H v d):gZ H' v d:=let ⟨b,e,h⟩:=r;⟨b,e,k _ _ h⟩
theorem gZ.put{H:Hp}{v:V}{d:List Int}{D:Addr}{o:HO}(hl:∃xs,H D=some (.lst xs))(r:gZ H v d):gZ (upd H D o) v d:=by
 obtain⟨b,rfl,h⟩:=r
 obtain⟨xs,hx⟩:=hl
 exact⟨b,rfl,by rw[au (bh h hx (by intro z;cases z))];exact h⟩
theorem gZ.same:∀(D:Addr) (H H':Hp) (v:V) (d:List Int),bP H H'->(λ_=>gZ) D H v d->(λ_=>gZ) D H' v d:=λ_ _ _ _ _ s r=>r.mono λb xs e=>s _ _ e
theorem gZ.puts{H1:Hp}:∀(D:Addr) (H:Hp) (o:HO) (v:V) (d:List Int),(∃xs,H D=some (.lst xs))->H1 D=none->(λ_=>gZ) D H v d->(λ_=>gZ) D (upd H D o) v d:=λ_ _ _ _ _ hl _ r=>r.put hl
def N8(H:Hp)(v d:V):Prop:=v=d
theorem rP{H:Hp}{vs ds:List V}(h:nG N8 H vs ds):vs=ds:=rG λi=>by
 by_cases hi:i<vs.length
 ·have hj:i<ds.length:=by have:=h.1;lia
  rw[bq hi,bq hj]
  exact fD some (h.2 i _ _ (bq hi) (bq hj))
 ·rw[lB (by lia),lB (by have:=h.1;lia)]
theorem KH{δ:Type}{f:Nat->Option δ}{l:List δ}(h:∀i,i<l.length->f i=l[i]?):(List.range l.length).filterMap f=l:=by
 have:∀n,n<=l.length->(List.range n).filterMap f=l.take n:=λn=>by
  induction n with
  | zero=>intro _;rfl
  | succ n ih=>
   intro hn
   rw[o5,ih (by lia),h n (by lia),gR]
 rw[this _ (bj _),gE]
theorem ph{δ:Type}{l:List δ}{p:δ->Bool}{f:Nat->Option δ}(h:∀i (hi:i<l.length),f i=if p l[i] then some l[i] else none):(List.range l.length).filterMap f=l.filter p:=by
 have:∀n,n<=l.length->(List.range n).filterMap f=(l.take n).filter p:=λn=>by
  induction n with
  | zero=>intro _;rfl
  | succ n ih=>
   intro hn
   rw[o5,ih (by lia),h n (by lia),gR,rH,bq (by lia)]
   cases e:p l[n] <;> simp[e]
 rw[this _ (bj _),gE]
theorem oE{α δ:Type}{l:List α}{g:α->δ}{f:Nat->Option δ}(h:∀i (hi:i<l.length),f i=some (g l[i])):(List.range l.length).filterMap f=l.map g:=by
 have:=KH (f:=f) (l:=l.map g) λi hi=>by
  rw[aM]at hi
  rw[h i hi,cM,bq hi];rfl
 rwa [aM]at this
end L2
end
section
namespace L2
open PySem
theorem aL.mono{H H':Hp}{bs:List Addr}{ts:List (List Int)}(k:∀b xs,H b=some (.tup xs)->H' b=some (.tup xs))(s:aL H bs ts):aL H' bs ts:=⟨s.1,λi b t hb ht=>k _ _ (s.2 i b t hb ht)⟩
theorem aL.snoc{H:Hp}{bs:List Addr}{ts:List (List Int)}{b:Addr}{t:List Int}(s:aL H bs ts)(hb:H b=some (.tup (List.map V.int t))):aL H (bs++[b]) (ts++[t]):=by
 refine⟨by rw[cS,cS,s.1];rfl,λi c u hc hu=>?_⟩
 by_cases hi:i<bs.length
 ·rw[lD hi]at hc
  rw[lD (by rw[<-s.1];exact hi)]at hu
  exact s.2 i c u hc hu
 ·rw[jv (by lia)]at hc
  rw[jv (by rw[<-s.1];lia),<-s.1]at hu
  have h0:i-bs.length=0:=by
   cases z:i-bs.length with
   | zero=>rfl
   | succ n=>rw[z]at hc;simp at hc
  rw[h0]at hc hu
  cases hc;cases hu
  exact hb
theorem aL.app{H:Hp}{bs cs:List Addr}{ts us:List (List Int)}(s:aL H bs ts)(u:aL H cs us):aL H (bs++cs) (ts++us):=by
 refine⟨by rw[cS,cS,s.1,u.1],λi c x hc hx=>?_⟩
 by_cases hi:i<bs.length
 ·rw[lD hi]at hc
  rw[lD (by rw[<-s.1];exact hi)]at hx
  exact s.2 i c x hc hx
 ·rw[jv (by lia)]at hc
  rw[jv (by rw[<-s.1];lia),<-s.1]at hx
  exact u.2 _ c x hc hx
theorem oA(K:PySem.W.Frag)(T:String):PySem.W.kitOne K (.type T) (.type T)=some true:=by
 unfold PySem.W.kitOne
 rw[ay (by simp)]
theorem aAb{K:PySem.W.Frag}{A B:String}(h:(Value.type A==Value.type B)=false)(e:PySem.W.kitCls K (.type A) (.type B)=some false):PySem.W.kitOne K (.type A) (.type B)=some false:=by
 unfold PySem.W.kitOne
 rw[aE (by rw[h];exact gb)]
 exact e
end L2
end
section
namespace L2
open PySem PySem.Spec PyProof.Rows
section
variable {P:Program}{w:World}{A:Around}{E:Value->Shared->Prop}{s:Shared}
theorem Mh{l:Addr}{items:Array Value}{ss:List Int}{Q:Value->Shared->Prop}(hh:A.handled=none)(hl:s.heap.IsTuple l items)(hi:IntsAre items.toList ss)(hb:items.size+1<scanBound)
  (h:∀(h':Heap) (tk:Nat) (ls:List (Int×Tok)),lZ w h' s.heap.objs.size ls->(∀z,z∈ls.map (·.1)↔z∈ss)->(∀b o,b<s.heap.objs.size->s.heap.get? b=some o->h'.get? b=some o)->Q (.ref s.heap.objs.size) { s with heap:=h',toks:=tk }) :
  wpAny (model P w) A (call (.type "set") [.ref l]) Q E s:=by
 have e:∀z:Int,(∃j,j<items.size/\ss.getD j 0=z)↔z∈ss:=λz=>by
  have hlen:items.size=ss.length:=by rw[<-cZ];exact hi.length
  rw[hlen,uU]
  constructor
  ·rintro⟨j,hj,e⟩;exact⟨j,hj,by rw[<-e];simp[hj]⟩
  ·rintro⟨j,hj,e⟩;exact⟨j,hj,by rw[<-e];simp[hj]⟩
 obtain⟨c,tl,aEG⟩:=ju.mro
 have aBE:=ju.made
 have Iv:=ju.sub
 refine kF (zX (aK (a:=_) ⟨z9 _ (by decide +kernel),mq PySem.F.entry_type_call ?_⟩))
 rw[Around.under_plain (weight_type_call_type "set" [.ref l] []) rfl]
 have h1:=ju.notType
 have h2:=ju.canCreate
 have hct:=PySem.F.typeCall_set_1 (.ref l)
 repeat (any_goals (first | assumption | wp_step))
 refine ia (J2 (x:=.ref l) (E:=E) (Q:=λobj s₁=>obj=.ref s.heap.objs.size/\s₁={ s with heap:=s.heap.push (fA #[] 0 (.fresh 0 0 (!uI w))) }) ⟨rfl,rfl⟩) λr s₁ hr=>?_
 cases r with
 | error e=>exact hr
 | ok fl=>
  cases fl with
  | ret obj=>
   obtain⟨rfl,rfl⟩:=hr
   have hS:(s.heap.push (fA #[] 0 (.fresh 0 0 (!uI w)))).get? s.heap.objs.size=some (fA #[] 0 (.fresh 0 0 (!uI w))):=cC _ rfl
   have hT:Shared.TypeIs { s with heap:=s.heap.push (fA #[] 0 (.fresh 0 0 (!uI w))) } (.ref s.heap.objs.size) "set":=⟨_,hS,rfl⟩
   have hli:=ju.init.lookup
   have hbi:=ju.init.bind (.ref s.heap.objs.size)
   repeat (any_goals (first | assumption | wp_step))
   refine ia (Af (R:=wants (λr s₂=>r=.none/\∃h' tk ls,s₂={ s with heap:=h',toks:=tk }/\lZ w h' s.heap.objs.size ls/\(∀z,z∈ls.map (·.1)↔z∈ss)/\
     (∀b o,b<s.heap.objs.size->s.heap.get? b=some o->h'.get? b=some o)) E) ju.init.plain PySem.F.entry_set_init (check_set_init_1 hT ?_)) λr₂ s₂ hr₂=>?_
   ·obtain⟨ol,hol,rC,nl,X5⟩:=hl
    obtain⟨aDE,Rt,aBr,Hv⟩:=ol
    simp only at rC X5
    subst rC;subst X5
    have aAq:(s.heap.push (fA #[] 0 (.fresh 0 0 (!uI w)))).get? l=some { cls:=.type "tuple",dict:=Rt,data:=.seq items nl,slots:=Hv }:=bN _ hol
    have aEz:=PySem.F.sub_tuple_set
    have aEA:=PySem.F.sub_tuple_frozenset
    have vZ:(Value.type "tuple" == Value.type "dict")=false:=by decide
    have yu:(s.heap.push (fA #[] 0 (.fresh 0 0 (!uI w)))).IsTuple l items:=⟨_,aAq,rfl,nl,rfl⟩
    unfold Builtin.«set.__init__» noKeywords Builtin.Frozenset.updateFrom
    unfold fA at *
    generalize hPI:pyIter=PI
    wp_walk
    subst hPI
    refine wpAny_pyIter_tuple yu (av (zU ?_))
    have hlS:l<s.heap.objs.size:=bG hol
    have hh3:A.in1.in1.in1.handled=none:=by simp[hh]
    have hsz:(s.heap.push (fA #[] 0 (.fresh 0 0 (!uI w)))).objs.size=s.heap.objs.size+1:=lz _ _
    have aAs:l≠(s.heap.push (fA #[] 0 (.fresh 0 0 (!uI w)))).objs.size:=by rw[hsz];exact bf (pJ hlS)
    have hSf:s.heap.objs.size∉[(s.heap.push (fA #[] 0 (.fresh 0 0 (!uI w)))).objs.size,l]:=by
     rw[hsz];simp only[bJ,cG,tV,or_false,not_or];exact⟨bf (nP _),g6 hlS⟩
    refine En ((Walks.tuple hh3 _ l aAs items).toS) s.heap.objs.size hSf (λj=>ss.getD j 0) (λi v hv=>?hv) hb (items.size-0) 0 _ [] (by lia) (de _)
     ⟨⟨_,cC _ rfl,rfl,rfl⟩,(yu.push _)⟩ ?hS0 (de _) (λz=>⟨(λz=>nomatch z),λ⟨_,hj,_⟩=>absurd hj (Nat.not_lt_zero _)⟩) ?hR
    case hv=>exact xD hi i v (by rw[j7];exact hv)
    case hS0=>exact⟨⟨#[],0,_,bN _ hS,rfl,rfl,rfl,List.Pairwise.nil⟩,qd,by decide⟩
    case hR=>
     intro s' l' hm WD mem
     obtain⟨h',g',d',tk',os'⟩:=s'
     have eg:g'=s.gens:=hm.gens
     have ed:d'=s.drawn:=hm.drawn
     have eo:os'=s.os:=hm.os
     subst eg;subst ed;subst eo
     refine aK (aK ⟨rfl,h',tk',l',rfl,WD,λz=>(mem z).trans (e z),λb o hb e=>?_⟩)
     refine hm.heap b o ?_ (bN _ (bN _ e))
     rw[hsz]
     simp only[bJ,cG,tV,or_false,not_or];exact⟨bf hb,bf (pJ hb)⟩
   ·cases r₂ with
    | error e=>exact hr₂
    | ok fl₂=>
     cases fl₂ with
     | ret r=>
      obtain⟨rfl,h',tk,ls,rfl,WD,hm',hk'⟩:=hr₂
      repeat (any_goals (first | assumption | wp_step))
      exact h _ _ _ WD hm' hk'
     | _=>exact hr₂.elim
  | _=>exact hr.elim
end
section
variable {X:Cx}
def Bn(w:World):List V->Hp->VK->Prop:=λvs H Q=>∃a,vs=[.ref a]/\∃ss:List Int,H a=some (.tup (ss.map V.int))/\ss.length<4000/\∀p,H p=none->Q (.ref p) (upd H p (InS w p ss))
theorem Jp(hh:X.A.handled=none):fz X (.type "set") (Bn X.w):=by
 intro pins s σ H vs us Q I rv h
 obtain⟨a,rfl,ss,hq,hn,q⟩:=h
 obtain⟨u,rfl,ru⟩:=vals1 rv
 cases ru
 obtain⟨its,r,pl,hz⟩:=I.tuple (bR hq)
 have hl:=r.length
 rw[aM]at hl
 refine Mh (ss:=ss) hh pl (intsAre_of r) (by show its.toArray.size+1<4096;rw[bS];lia) λh' tk ls hS hm hk=>?_
 have hk':∀b o,s.heap.get? b=some o->h'.get? b=some o:=λb o e=>hk b o (bG e) e
 refine⟨.ref s.heap.objs.size,_,I.laid (t':=tk) (o:=InS X.w s.heap.objs.size ss) hk' (bj _) ?_,rfl,q _ I.fresh⟩
 exact⟨⟨ls,hS,hm⟩,(let ⟨_,_,_,e,_⟩:=hS.ex;⟨_,e⟩),λh1 h2 ⟨l1,x1,m1⟩ k=>⟨l1,x1.at k,m1⟩⟩
end
section
variable {P:Program}{w:World}{κ:Type} [DecidableEq κ] {knd:PySem.KeyKind P w κ} {A:Around} {E:Value->Shared->Prop} {s:Shared} {a b:Addr} {aO RL:List (κ×Value)}
end
section
variable {X:Cx}
def Xu(neg:Bool):R2:=λx y H Q=>∃a b,x=.ref a/\y=.ref b/\∃aO RL,H a=some (.dK aO)/\H b=some (.dK RL)/\aO.length=RL.length/\
 (∀k v,(k,v)∈aO->∃p q t,v=.ref p/\(k,V.ref q)∈RL/\H p=some (.tup (List.map V.int t))/\H q=some (.tup (List.map V.int t)))/\Q (.bl (!neg)) H
end
section
variable {X:Cx}{pins:List (Addr×Obj)}{σ:St}{H:Hp}{s:Shared}{d:Addr}{o:Obj}{aO:List (Key×V)}
end
def Itd(d:Addr)(o:Obj)(aO:List (Key×V)):It:=
 ⟨λi H=>i<aO.length/\H d=some (.zF o (.dK aO)),λi H x H'=>H'=H/\∃k v,aO[i]?=some (k,v)/\x=kV k,λi H=>aO.length<=i/\H d=some (.zF o (.dK aO))⟩
section
variable {X:Cx}{tg:Expr}
def XB(te:TE):TI:=λσ H R=>te σ H λv H1=>∃a aO,v=.ref a/\H1 a=some (.dK aO)/\∀o,R (Itd a o aO) (upd H1 a (.zF o (.dK aO)))
def Xn(H0:Hp)(t:TS):TS:=λD σ H=>∃d o aO,H d=some (.zF o (.dK aO))/\H0 d=none/\t D σ (upd H d (.dK aO))
end
section
variable {X:Cx}
def Qo:V->List V->Hp->VK->Prop:=λx vs H Q=>∃a n d,x=.ref a/\vs=[.int n,d]/\∃aO,H a=some (.dK aO)/\Q ((gp aO (Sum.inl n)).getD d) H
def DS:V->List V->Hp->VK->Prop:=λx vs H Q=>∃l b xs zs,x=.ref l/\vs=[.ref b]/\H l=some (.lst xs)/\H b=some (.tup zs)/\xs.length+zs.length<=sizeLine/\Q .non (upd H l (.lst (xs++zs)))
end
section
variable {X:Cx}{N:List Str}{sc:Scope}{pos:Pos}
end
section
variable {X:Cx}
end
end L2
end
section
namespace L2
open PySem
theorem ik{H H1:Hp}{p:Addr}{o:HO}(a:bP H H1)(hn:H p=none):bP H (upd H1 p o):=λb u e=>by rw[au (az e hn)];exact a b u e
theorem zr{κ:Type} [DecidableEq κ] {aO:List (κ×V)} {k:κ} {v:V}:(putK aO k v).map (·.1)=if k∈aO.map (·.1) then aO.map (·.1) else aO.map (·.1)++[k]:=by
 unfold putK
 by_cases h:(aO.any λkv=>decide (kv.1=k))=true
 ·have hm:k∈aO.map (·.1):=by
   obtain⟨kv,hkv,e⟩:=gk.mp h
   rw[<-of_decide_eq_true e]
   exact wI hkv
  rw[ay h,ay hm,fY]
  refine pK λkv _=>?_
  show(if kv.1=k then (kv.1,v) else kv).1=kv.1
  split <;> rfl
 ·have hm:k∉aO.map (·.1):=λz=>by
   obtain⟨kv,hkv,e⟩:=eU.mp z
   exact h (gk.mpr ⟨kv,hkv,decide_eq_true e⟩)
  rw[aE h,aE hm,dE]
  rfl
theorem BX{a b:List Int}(h:(a.map Sum.inl:List Key)=b.map Sum.inl):a=b:=(wF λ_ _ e=>tO e).mp h
theorem eM{qs:List Addr}{i:Nat}{x:V}(h:(List.map V.ref qs)[i]?=some x):∃q,qs[i]?=some q/\x=.ref q:=by
 rw[cM]at h
 cases e:qs[i]? with
 | none=>rw[e]at h;cases h
 | some q=>rw[e]at h;exact⟨q,rfl,(fw h).symm⟩
theorem aH{H:Hp}{p:Addr}(h:H p=none)(o:HO):bP H (upd H p o):=λb u q=>by rw[au (az q h)];exact q
def PN:Sp:=λvs H Q _=>∃L,vs=[.ref L]/\∃as ss,H L=some (.lst (List.map V.ref as))/\aL H as ss/\as.length<=90000/\
 ∀D H' bs ts,bP H H'->H D=none->H' D=some (.lst (List.map V.ref bs))->aL H' bs ts->ts.Nodup->(∀x,x∈ts↔x∈ss)->ts.Pairwise (λa b=>bT a b=true)->Q (.ref D) H'
def aC(x y:List Int):Bool:=x.all λm=>decide (m∈y)
theorem oC(m:Int)(y:List Int):Xz (.int m) (List.map V.int y)=decide (m∈y):=by
 unfold Xz
 rw[tQ,nI,gk,g8]
 constructor
 ·rintro⟨z,hz,e⟩
  have:z=m:=by simpa [Ou]using e
  rw[<-this];exact hz
 ·intro h
  exact⟨m,h,by simp[Ou]⟩
theorem lQ(y:List Int):(List.map V.int y).all jO=true:=by
 rw[List.all_map,j3]
 intro _ _
 rfl
theorem int_at{ns:List Int}{i:Nat}{x:V}(h:(List.map V.int ns)[i]?=some x):∃n,ns[i]?=some n/\x=.int n:=by
 rw[cM]at h
 cases e:ns[i]? with
 | none=>rw[e]at h;cases h
 | some q=>rw[e]at h;exact⟨q,rfl,(fw h).symm⟩
def YL:Sp:=λvs H Q _=>∃a b,vs=[.ref a,.ref b]/\∃x y:List Int,H a=some (.tup (List.map V.int x))/\H b=some (.tup (List.map V.int y))/\Q (.bl (aC x y)) H
def y0(lies:Bool):Sp:=λvs H Q _=>∃a L,vs=[.ref a,.ref L]/\∃(x:List Int) (bs:List Addr) (ts:List (List Int)),H a=some (.tup (List.map V.int x))/\H L=some (.lst (List.map V.ref bs))/\aL H bs ts/\Q (.bl (ts.any λt=>if lies then aC x t else aC t x)) H
def hv(l:Addr)(a b c d e:Int):HO:=.lst [.ref l,.int a,.int b,.int c,.int d,.int e]
def HdO(l:Addr)(o:HO):Prop:=∃a b c d e,o=hv l a b c d e/\0<=a
def Ba:Sp:=λvs H Q _=>∃h,vs=[.ref h]/\∃l a b c d e,H h=some (hv l a b c d e)/\Q (.int (d*48271%2147483647+e*40693%2147483399)) (upd H h (hv l a b c (d*48271%2147483647) (e*40693%2147483399)))
def YH:Sp:=λvs H Q _=>∃h,vs=[.ref h]/\∃l ns o,H h=some o/\HdO l o/\H l=some (.lst (List.map V.int ns))/\∀o',HdO l o'->Q .non (upd H h o')
def P4:Sp:=λvs H Q _=>∃h m,vs=[.ref h,.int m]/\1<=m/\m<2 ^ 300/\∃l ns o,H h=some o/\HdO l o/\H l=some (.lst (List.map V.int ns))/\∀r o',0<=r->r<m->HdO l o'->Q (.int r) (upd H h o')
def Hd(H:Hp)(h l:Addr):Prop:=∃ns o,H h=some o/\HdO l o/\H l=some (.lst (List.map V.int ns))
def iP(H:Hp)(h:Addr):Prop:=∃l,Hd H h l
structure Dr(h:Addr)(H H':Hp):Prop where
 keep:∀b o,b≠h->H b=some o->H' b=some o
 hand:∀l,Hd H h l->Hd H' h l
theorem Dr.refl{h:Addr}{H:Hp}:Dr h H H:=⟨λ_ _ _ e=>e,λ_ x=>x⟩
theorem Dr.trans{h:Addr}{H H1 H2:Hp}(a:Dr h H H1)(b:Dr h H1 H2):Dr h H H2:=⟨λc o hc e=>b.keep c o hc (a.keep c o hc e),λl x=>b.hand l (a.hand l x)⟩
theorem Dr.iF{h:Addr}{H H1:Hp}(a:Dr h H H1)(x:iP H h):iP H1 h:=let ⟨l,y⟩:=x;⟨l,a.hand l y⟩
theorem Hd.apart{H:Hp}{h l:Addr}(x:Hd H h l):l≠h:=by
 obtain⟨ns,o,e1,⟨a,b,c,d,e,rfl,_⟩,e3⟩:=x
 intro z
 rw[z,e1]at e3
 have q:=fw e3
 unfold hv at q
 injection q with q
 match ns,q with
 | [],q=>cases q
 | n::_,q=>injection q with q1 _;cases q1
theorem Dr.new{h p:Addr}{H H1:Hp}{o:HO}(a:Dr h H H1)(hp:H1 p=none):Dr h H (upd H1 p o):=by
 refine⟨λc o' hc e=>?_,λl x=>?_⟩
 ·rw[au (az (a.keep c o' hc e) hp)];exact a.keep c o' hc e
 ·obtain⟨ns,oh,e1,e2,e3⟩:=a.hand l x
  exact⟨ns,oh,by rw[au (az e1 hp)];exact e1,e2,by rw[au (az e3 hp)];exact e3⟩
theorem Dr.put{h p:Addr}{H H1:Hp}{o':HO}(a:Dr h H H1)(hn:H p=none):Dr h H (upd H1 p o'):=by
 refine⟨λc o' hc e=>?_,λl x=>?_⟩
 ·rw[au (az e hn)];exact a.keep c o' hc e
 ·obtain⟨ns,oh,e1,e2,e3⟩:=a.hand l x
  obtain⟨_,_,f1,_,f3⟩:=x
  exact⟨ns,oh,by rw[au (az f1 hn)];exact e1,e2,by rw[au (az f3 hn)];exact e3⟩
theorem iP.ne{h p:Addr}{H:Hp}(x:iP H h)(hp:H p=none):p≠h:=by
 obtain⟨l,ns,oh,e1,_,_⟩:=x
 exact(az e1 hp).symm
theorem Dr.free{h p:Addr}{H H1:Hp}(a:Dr h H H1)(x:iP H h)(hp:H1 p=none):H p=none:=by
 cases e:H p with
 | none=>rfl
 | some o=>
  have n:=(a.iF x).ne hp
  have:=a.keep p o n e
  rw[hp]at this;cases this
theorem dX{h:Addr}{m:Int}{H0 H:Hp}{Q:VK}{E:XK}(hd:iP H0 h)(d:Dr h H0 H)(h1:1<=m)(h2:m<2 ^ 300)(q:∀r H',0<=r->r<m->Dr h H0 H'->(∀b,b≠h->H' b=H b)->Q (.int r) H'):P4 [.ref h,.int m] H Q E:=by
 obtain⟨l,x⟩:=hd
 have x':=d.hand l x
 have ap:=x'.apart
 obtain⟨ns,oh,e1,e2,e3⟩:=x'
 refine⟨h,m,rfl,h1,h2,l,ns,oh,e1,e2,e3,λr o' r0 r1 ho=>q r _ r0 r1 ⟨λc o hc e=>?_,λl' x'=>?_⟩ (λb hb=>au hb)⟩
 ·rw[au hc];exact d.keep c o hc e
 ·have y:=d.hand l' x'
  have ap':=y.apart
  obtain⟨Og,oh',f1,f2,f3⟩:=y
  have el:l'=l:=by
   obtain⟨a,b,c,d,e,rfl,_⟩:=e2
   obtain⟨a',b',c',d',e',rfl,_⟩:=f2
   rw[e1]at f1
   have:=fw f1
   unfold hv at this
   injection this with this
   injection this with this _
   exact(V.ref.inj this).symm
  subst el
  exact⟨ns,o',ai,ho,by rw[au ap];exact e3⟩
theorem Ft{α:Type}(f:α->V)(xs:List α)(lo hi:Option Int):jY (xs.map f) lo hi=((xs.drop (HT.dO xs.length 0 lo)).take (HT.dO xs.length xs.length hi-HT.dO xs.length 0 lo)).map f:=by
 unfold jY;rw[aM,List.map_take,List.map_drop]
def YM(K:PySem.W.Frag):Sp:=λvs H Q _=>∃a ns,vs=[.ref a]/\rE K H a (List.map V.int ns)/\∀h H',bP H H'->H h=none->iP H' h->Q (.ref h) H'
def eG(x:List Int):Prop:=x.Pairwise (· < ·)
theorem bH{x y:List Int}:aC x y=true↔∀m∈x,m∈y:=by
 unfold aC
 rw[j3]
 exact⟨λh m hm=>of_decide_eq_true (h m hm),λh m hm=>decide_eq_true (h m hm)⟩
theorem eG.nodup{x:List Int}(h:eG x):x.Nodup:=h.imp λhab e=>by lia
theorem sD:∀{x y:List Int},eG x->eG y->(∀m,m∈x↔m∈y)->x=y
 | [],[],_,_,_=>rfl
 | [],b::y,_,_,h=>absurd ((h b).mpr df) (by simp)
 | a::x,[],_,_,h=>absurd ((h a).mp df) (by simp)
 | a::x,b::y,hx,hy,h=>by
  have vX:=wG.mp hx
  have BZ:=wG.mp hy
  have hab:a=b:=by
   rcases bJ.mp ((h a).mp df) with e | e
   ·exact e
   ·rcases bJ.mp ((h b).mpr df) with e' | e'
    ·exact e'.symm
    ·have:=BZ.1 a e
     have:=vX.1 b e'
     lia
  subst hab
  rw[sD vX.2 BZ.2 λm=>⟨λhm=>?_,λhm=>?_⟩]
  ·rcases bJ.mp ((h m).mp (cV _ hm)) with e | e
   ·have:=vX.1 m hm;lia
   ·exact e
  ·rcases bJ.mp ((h m).mpr (cV _ hm)) with e | e
   ·have:=BZ.1 m hm;lia
   ·exact e
theorem gu{x y:List Int}(hx:eG x)(h:aC x y=true):x.length<=y.length:=dI hx.nodup (bH.mp h)
theorem mG{x y:List Int}(hx:eG x)(hy:eG y)(h:aC x y=true)(hl:x.length=y.length):x=y:=by
 refine sD hx hy λm=>⟨bH.mp h m,λhm=>?_⟩
 refine Ao λhn=>?_
 have h1:(m::x).Nodup:=m5.mpr ⟨hn,hx.nodup⟩
 have:=dI h1 λz hz=>by
  rcases bJ.mp hz with e | e
  ·rw[e];exact hm
  ·exact bH.mp h z e
 rw[eV]at this
 lia
theorem oB(x:List Int):aC x x=true:=bH.mpr λ_ h=>h
theorem iD{x y z:List Int}(h1:aC x y=true)(h2:aC y z=true):aC x z=true:=bH.mpr λm hm=>bH.mp h2 m (bH.mp h1 m hm)
def eO:List (List Int)->List (List Int)->List (List Int)
 | [],acc=>acc
 | x::r,acc=>eO r (if acc.any (λt=>aC t x) then acc else acc++[x])
theorem qO:∀(r acc seen:List (List Int)),(∀x∈seen++r,eG x)->(seen++r).Pairwise (λa b=>bT a b=true)->(∀x,x∈acc↔x∈seen/\∀y∈seen,aC y x=true->y=x)->
  (∀x,x∈eO r acc↔x∈seen++r/\∀y∈seen++r,aC y x=true->y=x)
 | [],acc,seen,_,_,h=>λx=>by
  show x∈acc↔_
  rw[gj]
  exact h x
 | a::r,acc,seen,hr,pw,h=>by
  have e:seen++a::r=(seen++[a])++r:=by simp
  show ∀x,x∈eO r (if acc.any (λt=>aC t a)=true then acc else acc++[a])↔_
  rw[e]at hr pw ⊢
  refine qO r _ (seen++[a]) hr pw λx=>?_
  have ra:eG a:=hr a (by simp)
  have Ze:=(g9.mp pw).1
  have ahead:∀y∈seen,bT y a=true:=λy hy=>(g9.mp Ze).2.2 y hy a (by simp)
  have irr:∀y∈seen,y≠a:=λy hy e=>by
   have:=ahead y hy
   rw[e]at this
   unfold bT at this
   rw[lN]at this
   simp at this
  have low:∀n,∀y∈seen,y.length<=n->∃z∈acc,aC z y=true:=by
   intro n
   induction n with
   | zero=>
    intro y hy hl
    refine⟨y,(h y).mpr ⟨hy,λz hz hp=>?_⟩,oB y⟩
    have h1:=gu (hr z (by simp[hz])) hp
    exact mG (hr z (by simp[hz])) (hr y (by simp[hy])) hp (by lia)
   | succ n ih=>
    intro y hy hl
    by_cases hm:∀z∈seen,aC z y=true->z=y
    ·exact⟨y,(h y).mpr ⟨hy,hm⟩,oB y⟩
    ·obtain⟨z,hz⟩:=Classical.not_forall.mp hm
     obtain⟨hz,yt⟩:=Classical.not_imp.mp hz
     obtain⟨hp,vZ⟩:=Classical.not_imp.mp yt
     have h1:=gu (hr z (by simp[hz])) hp
     have h2:z.length≠y.length:=λe=>vZ (mG (hr z (by simp[hz])) (hr y (by simp[hy])) hp e)
     obtain⟨u,hu,hup⟩:=ih z hz (by lia)
     exact⟨u,hu,iD hup hp⟩
  by_cases c:acc.any (λt=>aC t a)=true
  ·rw[ay c]
   obtain⟨t,ht,T9⟩:=gk.mp c
   have T8:=((h t).mp ht).1
   rw[h x]
   constructor
   ·rintro⟨h1,h2⟩
    refine⟨by simp[h1],λy hy hp=>?_⟩
    rcases cw.mp hy with z | z
    ·exact h2 y z hp
    ·have ey:y=a:=by simpa using z
     subst ey
     have:=iD T9 hp
     have e2:=h2 t T8 this
     subst e2
     have l1:=gu (hr t (by simp[h1])) T9
     have l2:=gu ra hp
     exact(mG ra (hr t (by simp[h1])) hp (by lia))
   ·rintro⟨h1,h2⟩
    rcases cw.mp h1 with z | z
    ·exact⟨z,λy hy hp=>h2 y (by simp[hy]) hp⟩
    ·have ex:x=a:=by simpa using z
     subst ex
     exact absurd (h2 t (by simp[T8]) T9) (irr t T8)
  ·rw[aE c,cw,h x]
   constructor
   ·rintro(⟨h1,h2⟩ | h1)
    ·refine⟨by simp[h1],λy hy hp=>?_⟩
     rcases cw.mp hy with z | z
     ·exact h2 y z hp
     ·have ey:y=a:=by simpa using z
      subst ey
      have l2:=gu ra hp
      have:=ahead x h1
      unfold bT at this
      simp only[kI,dv,g8]at this
      rcases this with u | ⟨u,_⟩
      ·lia
      ·exact mG ra (hr x (by simp[h1])) hp u.symm
    ·have ex:x=a:=by simpa using h1
     subst ex
     refine⟨by simp,λy hy hp=>?_⟩
     rcases cw.mp hy with z | z
     ·obtain⟨u,hu,hup⟩:=low y.length y z (bj _)
      exact(c (gk.mpr ⟨u,hu,iD hup hp⟩)).elim
     ·simpa using z
   ·rintro⟨h1,h2⟩
    rcases cw.mp h1 with z | z
    ·exact .inl ⟨z,λy hy hp=>h2 y (by simp[hy]) hp⟩
    ·exact .inr z
theorem iC:∀(r acc:List (List Int)),∃l,eO r acc=acc++l/\l.Sublist r
 | [],acc=>⟨[],by simp[eO],Aa _⟩
 | a::r,acc=>by
  show ∃l,eO r (if acc.any (λt=>aC t a)=true then acc else acc++[a])=acc++l/\_
  split
  ·obtain⟨l,e,s⟩:=iC r acc
   exact⟨l,e,s.cons a⟩
  ·obtain⟨l,e,s⟩:=iC r (acc++[a])
   exact⟨a::l,by rw[e];simp,s.cons_cons a⟩
def cH(x y:List Int):List Int:=x.filter λm=>decide (m∉y)
def YK:Sp:=λvs H Q _=>∃a b,vs=[.ref a,.ref b]/\∃x y:List Int,H a=some (.tup (List.map V.int x))/\H b=some (.tup (List.map V.int y))/\x.length<=900/\∀p H',bP H H'->H p=none->H' p=some (.tup (List.map V.int (cH x y)))->Q (.ref p) H'
def jM:List (List Int)->List (List Int)->List (List Int)
 | [],acc=>acc
 | x::r,acc=>jM r (if acc.any (λt=>aC x t) then acc else acc++[x])
theorem xG:∀(r acc seen:List (List Int)),(∀x∈seen++r,eG x)->(seen++r).Pairwise (λa b=>bT b a=true)->(∀x,x∈acc↔x∈seen/\∀y∈seen,aC x y=true->y=x)->(∀y∈seen,∃z∈acc,aC y z=true)->
  (∀x,x∈jM r acc↔x∈seen++r/\∀y∈seen++r,aC x y=true->y=x)
 | [],acc,seen,_,_,h,_=>λx=>by
  show x∈acc↔_
  rw[gj]
  exact h x
 | a::r,acc,seen,hr,pw,h,cov=>by
  have e:seen++a::r=(seen++[a])++r:=by simp
  show ∀x,x∈jM r (if acc.any (λt=>aC a t)=true then acc else acc++[a])↔_
  rw[e]at hr pw ⊢
  have ra:eG a:=hr a (by simp)
  have Ze:=(g9.mp pw).1
  have ahead:∀y∈seen,bT a y=true:=λy hy=>(g9.mp Ze).2.2 y hy a (by simp)
  have irr:∀y∈seen,y≠a:=λy hy e=>by
   have:=ahead y hy
   rw[e]at this
   unfold bT at this
   rw[lN]at this
   simp at this
  refine xG r _ (seen++[a]) hr pw (λx=>?_) (λy hy=>?_)
  ·by_cases c:acc.any (λt=>aC a t)=true
   ·rw[ay c]
    obtain⟨t,ht,T9⟩:=gk.mp c
    have T8:=((h t).mp ht).1
    rw[h x]
    constructor
    ·rintro⟨h1,h2⟩
     refine⟨by simp[h1],λy hy hp=>?_⟩
     rcases cw.mp hy with z | z
     ·exact h2 y z hp
     ·have ey:y=a:=by simpa using z
      subst ey
      have e2:=h2 t T8 (iD hp T9)
      subst e2
      have rt:eG t:=hr t (by simp[h1])
      have l1:=gu ra T9
      have l2:=gu rt hp
      exact mG ra rt T9 (by lia)
    ·rintro⟨h1,h2⟩
     rcases cw.mp h1 with z | z
     ·exact⟨z,λy hy hp=>h2 y (by simp[hy]) hp⟩
     ·have ex:x=a:=by simpa using z
      subst ex
      exact absurd (h2 t (by simp[T8]) T9) (irr t T8)
   ·rw[aE c,cw,h x]
    constructor
    ·rintro(⟨h1,h2⟩ | h1)
     ·refine⟨by simp[h1],λy hy hp=>?_⟩
      rcases cw.mp hy with z | z
      ·exact h2 y z hp
      ·have ey:y=a:=by simpa using z
       subst ey
       have rx:eG x:=hr x (by simp[h1])
       have l2:=gu rx hp
       have:=ahead x h1
       unfold bT at this
       simp only[kI,dv,g8]at this
       rcases this with u | ⟨u,_⟩
       ·lia
       ·exact(mG rx ra hp u.symm).symm
     ·have ex:x=a:=by simpa using h1
      subst ex
      refine⟨by simp,λy hy hp=>?_⟩
      rcases cw.mp hy with z | z
      ·obtain⟨u,hu,hup⟩:=cov y z
       exact(c (gk.mpr ⟨u,hu,iD hp hup⟩)).elim
      ·simpa using z
    ·rintro⟨h1,h2⟩
     rcases cw.mp h1 with z | z
     ·exact .inl ⟨z,λy hy hp=>h2 y (by simp[hy]) hp⟩
     ·exact .inr z
  ·by_cases c:acc.any (λt=>aC a t)=true
   ·rw[ay c]
    rcases cw.mp hy with z | z
    ·exact cov y z
    ·have ey:y=a:=by simpa using z
     subst ey
     obtain⟨t,ht,T9⟩:=gk.mp c
     exact⟨t,ht,T9⟩
   ·rw[aE c]
    rcases cw.mp hy with z | z
    ·obtain⟨u,hu,hup⟩:=cov y z
     exact⟨u,by simp[hu],hup⟩
    ·have ey:y=a:=by simpa using z
     subst ey
     exact⟨y,by simp,oB y⟩
theorem qS:∀(r acc:List (List Int)),∃l,jM r acc=acc++l/\l.Sublist r
 | [],acc=>⟨[],by simp[jM],Aa _⟩
 | a::r,acc=>by
  show ∃l,jM r (if acc.any (λt=>aC a t)=true then acc else acc++[a])=acc++l/\_
  split
  ·obtain⟨l,e,s⟩:=qS r acc
   exact⟨l,e,s.cons a⟩
  ·obtain⟨l,e,s⟩:=qS r (acc++[a])
   exact⟨a::l,by rw[e];simp,s.cons_cons a⟩
theorem aL.rev{H:Hp}{bs:List Addr}{ts:List (List Int)}(s:aL H bs ts):aL H bs.reverse ts.reverse:=by
 refine⟨by rw[tY,tY];exact s.1,λi b t hb ht=>?_⟩
 have hi:i<bs.length:=by
  have:=(fq.mp hb).1
  rwa [tY]at this
 rw[GC hi]at hb
 rw[GC (by rw[<-s.1];exact hi),<-s.1]at ht
 exact s.2 _ b t hb ht
def UJ:Sp:=λvs H Q _=>∃i:Int,vs=[.int i]/\Q (.bl true) H
def U3:Sp:=λvs H Q _=>∃a,vs=[.ref a]/\∃x:List Int,H a=some (.tup (List.map V.int x))/\x.length<=900/\eG x/\∀H',bP H H'->Q (.bl true) H'
def YG:Sp:=λvs H Q _=>∃L M,vs=[.ref L,.ref M]/\∃(as bs:List Addr) (ss:List (List Int)),H L=some (.lst (List.map V.ref as))/\H M=some (.lst (List.map V.ref bs))/\aL H as ss/\aL H bs ss/\as.length<=90000/\(∀x∈ss,eG x/\x.length<=900)/\∀H',bP H H'->Q (.bl true) H'
theorem all_true:∀(n:Nat),(List.replicate n true).all id=true
 | 0=>rfl
 | n+1=>by rw[List.replicate_succ,wu,all_true n];rfl
theorem ig(x:List Int):bT x x=false:=by
 unfold bT
 rw[lN,Bool.and_false,zW]
 simp
theorem P'{x y z:List Int}(h1:bT x y=true)(h2:bT y z=true):bT x z=true:=by
 unfold bT at *
 simp only[kI,dv,g8]at *
 rcases h1 with a | ⟨a,b⟩
 ·rcases h2 with c | ⟨c,d⟩ <;> (left;lia)
 ·rcases h2 with c | ⟨c,d⟩
  ·left;lia
  ·right;exact⟨by lia,xA b d⟩
theorem WQ{a b c d r:Int}(h0:0<=r)(h1:r<4):∃v,v7 [V.int a,V.int b,V.int c,V.int d] r=some (.int v)/\(v=a\/v=b\/v=c\/v=d):=by
 have:r=0\/r=1\/r=2\/r=3:=by lia
 rcases this with e | e | e | e <;> subst e
 ·exact⟨a,FK ..,by simp⟩
 ·exact⟨b,Le ..,by simp⟩
 ·exact⟨c,Ld ..,by simp⟩
 ·exact⟨d,Lc ..,by simp⟩
theorem Dr.on{h:Addr}{H H1 H2:Hp}(a:Dr h H H1)(s:bP H1 H2):Dr h H H2:=⟨λc o hc e=>s _ _ (a.keep c o hc e),λl x=>by
 obtain⟨ns,oh,e1,e2,e3⟩:=a.hand l x
 exact⟨ns,oh,s _ _ e1,e2,s _ _ e3⟩⟩
theorem iP.yh{h b:Addr}{H:Hp}{xs:List V}(x:iP H h)(e:H b=some (.tup xs)):b≠h:=by
 obtain⟨l,ns,o,e1,⟨_,_,_,_,_,rfl,_⟩,_⟩:=x
 exact bh e e1 (by intro z;cases z)
def j8(ps:List (List Int))(m:Int):List (List Int):=ps++ps.map (· ++ [m])
def cB(x:List Int):List (List Int):=x.foldl j8 [[]]
theorem wX(x:List Int)(m:Int):cB (x++[m])=j8 (cB x) m:=by unfold cB;rw[Ab];rfl
theorem gI(x:List Int):(cB x).length=2 ^ x.length:=by
 have:∀(x:List Int) (ps:List (List Int)),(x.foldl j8 ps).length=ps.length*2 ^ x.length:=λx=>by
  induction x with
  | nil=>intro ps;simp
  | cons m x ih=>
   intro ps
   rw[lA,ih,eV,Nat.pow_succ]
   unfold j8
   rw[cS,aM,Nat.mul_comm (2 ^ x.length) 2,<-Nat.mul_assoc]
   congr 1
   lia
 unfold cB
 rw[this];simp
theorem Dv{x:List Int}(nd:x.Nodup):(cB x).Nodup:=by
 have:∀(x:List Int) (ps:List (List Int)),x.Nodup->ps.Nodup->(∀p∈ps,∀m∈x,m∉p)->(x.foldl j8 ps).Nodup:=λx=>by
  induction x with
  | nil=>intro ps _ h _;exact h
  | cons m x ih=>
   intro ps nx np h
   rw[m5]at nx
   rw[lA]
   refine ih _ nx.2 ?_ ?_
   ·unfold j8
    rw[wD]
    refine⟨np,?_,λa ha b hb e=>?_⟩
    ·exact(Ac.mpr (np.imp λvZ e=>vZ (List.append_cancel_right e)))
    ·obtain⟨c,hc,rfl⟩:=eU.mp hb
     subst e
     exact h _ ha m df (by simp)
   ·intro p hp k hk
    unfold j8 at hp
    rcases cw.mp hp with hp | hp
    ·exact h p hp k (cV _ hk)
    ·obtain⟨c,hc,rfl⟩:=eU.mp hp
     intro z
     rcases cw.mp z with z | z
     ·exact h c hc k (cV _ hk) z
     ·rw[cG.mp z]at hk
      exact nx.1 hk
 exact this x [[]] nd (by simp) (by simp)
theorem kJ{x t:List Int}(h:t∈cB x):t.length<=x.length:=by
 have:∀(x:List Int) (n:Nat) (ps:List (List Int)),(∀p∈ps,p.length<=n)->∀t∈x.foldl j8 ps,t.length<=n+x.length:=λx=>by
  induction x with
  | nil=>intro n ps h t ht;exact h t ht
  | cons m x ih=>
   intro n ps h t ht
   rw[lA]at ht
   have:=ih (n+1) _ (λp hp=>?_) t ht
   ·rw[eV];lia
   ·unfold j8 at hp
    rcases cw.mp hp with hp | hp
    ·have:=h p hp;lia
    ·obtain⟨c,hc,rfl⟩:=eU.mp hp
     have:=h c hc
     rw[cS];simp;lia
 have:=this x 0 [[]] (by simp) t h
 lia
theorem xh{n:Nat}(h:n<=10):2 ^ n<=1024:=cQ (tZ (by decide) h) (by decide)
theorem Dr.sets{h:Addr}{H H':Hp}{bs:List Addr}{ts:List (List Int)}(hd:iP H h)(d:Dr h H H')(s:aL H bs ts):aL H' bs ts:=s.mono λb xs e=>d.keep _ _ (hd.yh e) e
abbrev cut(n:Int)(s:List Int):List Int:=s.filter λm=>decide (m≠n)
end L2
end
section
namespace L2
structure Nx(P R:St->Hp->Prop):Prop where
 to:∀σ H,P σ H->R σ H
theorem er{t u:TS}{D:Ends}{σ:St}{H:Hp}(h:∀R:St->Hp->Prop,Nx (u D) R->t { D with nx:=R } σ H):LW t u D σ H:=h (u D) ⟨λ_ _ z=>z⟩
end L2
end
section
namespace L2
open PySem PySem.Spec PyProof.Rows
section
variable {X:Cx}{o e value:Expr}{f:Str}{pos pos':Pos}{ta tv:TE}
theorem gy(he:ZE X e ta)(hb:attributeBase e f X.env (eval e X.env)=eval e X.env):ZE X (.Attribute e f pos) (Uw X.K ta f):=⟨Zz he.to hb⟩
theorem rK(ha:ZE X o ta)(hv:ZE X value tv)(hs:swapsWith value (some (.Attribute o f pos')) pos.line X.env=pure false):ZS X (.Assign [.Attribute o f pos'] value pos) (U8 X.K ta tv f):=⟨Zj ha.to hv.to hs⟩
end
section
variable {X:Cx}{CX:Lq}{k:Nat}{f C:Addr}{fd:FuncData}{ps:List Str}{sp:Sp}{uD:List V}{ds:List Value}{E:XK}{x m:Str}{p pos apos:Pos}{e o:Expr}{es:List Expr}{ta:TE}{t:TA}
theorem wN{pl:Sem Bool}(he:ZE X o ta)(c:Cls X.K C)(hm:Meth X.K C m f)(F:bX X.prog X.w X.K X.mg X.base CX k f fd ps sp)(hr:cJ k X.A)(hb:Binds X.K fd ps ds)(hd:Vals uD ds)(hx:Passes CX X E)(ha:ZA X (e::es) t)
  (Nm:starEach (e::es) X.env=(false,eval e X.env)::starEach es X.env:=by rfl) (lO:(backTo pos (starEach es X.env)).any (·.1)=false:=by rfl)
  (ht:eval (.Call (.Attribute o m apos) (e::es) [] pos) X.env=(do
   let ov <-eval o X.env
   standAt apos.atName
   let (f,first) <-holding [ov] (getMethod ov m pl)
   callWith pos f first (backTo pos (starEach (e::es) X.env)) (backToKw pos (keywordEach [] X.env))):=by rfl) :
  ZE X (.Call (.Attribute o m apos) (e::es) [] pos) (JQ C m sp uD E ta t):=⟨VJ he.to c hm F hr hb hd hx ha.to Nm lO ht⟩
theorem O5(M:Mk X.K C f)(F:bX X.prog X.w X.K X.mg X.base CX k f fd ps sp)(hr:cJ (k+1) X.A)(hg:Gl X x)(hm:X.mg x=some (.ref C))(hb:Binds X.K fd ps ds)(hd:Vals uD ds)(hx:Passes CX X E)
  (ha:ZA X (e::es) t) (uB:(x==("__debug__" : Str))=false:=by decide) (he:starEach (e::es) X.env=(false,eval e X.env)::starEach es X.env:=by rfl) (lO:(backTo pos (starEach es X.env)).any (·.1)=false:=by rfl) :
  ZE X (.Call (.Name x p) (e::es) [] pos) (JR C sp uD E t):=⟨VL M F hr hg hm hb hd hx ha.to uB he lO⟩
end
def TY(H:Hp)(ps:List Addr)(fs:List (List (List Int))):Prop:=ps.length=fs.length/\∀(i:Nat) p f,ps[i]?=some p->fs[i]?=some f->∃bs,H p=some (.lst (List.map V.ref bs))/\aL H bs f
section
variable {X:Cx}{pins:List (Addr×Obj)}{s:Shared}{σ:St}{H:Hp}{A:Around}
def Xs(neg:Bool):R2:=λx y H Q=>∃a b,x=.ref a/\y=.ref b/\∃ps qs cl dl,H a=some (.lst (List.map V.ref ps))/\H b=some (.lst (List.map V.ref qs))/\TY H ps cl/\TY H qs dl/\Q (.bl (if neg then !decide (cl=dl) else decide (cl=dl))) H
end
end L2
end
section
namespace L2
open PySem PySem.Spec PyProof.Rows
open PySem.W (Frag Looks)
abbrev veM:List Value:=[.type "ValueError",.type "Exception",.type "BaseException",.type "object"]
def Us(K:Frag)(n:Addr):Bool:=match K.lookup n with
 | some o=>(match o.data with | .dict es _=>es.toList.all λe=>(match e.key with | .str _ _=>true | _=>false) | _=>false)
 | none=>false
theorem Xl{K:Frag}{h:Heap}{n:Addr}(X:K.In h)(q:Us K n=true):∃m,h.Ns n m:=by
 unfold Us at q
 cases e:K.lookup n with
 | none=>rw[e]at q;cases q
 | some o=>
  rw[e]at q
  dsimp only at q
  cases d:o.data with
  | dict es ep=>
   rw[d]at q
   dsimp only at q
   refine⟨nsFind es,o,es,ep,X _ _ e,d,λx hx=>?_,λ_=>rfl⟩
   have:=j3.mp q x (Array.mem_toList_iff.mpr hx)
   cases k:x.key with
   | str y t=>exact⟨y,t,rfl⟩
   | _=>rw[k]at this;cases this
  | _=>rw[d]at q;cases q
def Ur(K:Frag):List Value->Bool
 | .ref a::tl=>(match K.lookup a with
  | some o=>(match o.data with | .cls cd=>Us K cd.ns&&(PySem.W.nsIn K cd.ns "__init__" == some none) | _=>false)
  | none=>false)&&Ur K tl
 | l=>l==veM
theorem Xk{K:Frag}{h:Heap}(X:K.In h):∀{l:List Value},Ur K l=true->OwnTail h veM l
 | .ref a::tl,q=>by
  simp only[Ur,dv]at q
  obtain⟨q,r⟩:=q
  cases e:K.lookup a with
  | none=>rw[e]at q;cases q
  | some o=>
   rw[e]at q
   obtain⟨oc,od,da,sl⟩:=o
   cases da with
   | cls cd=>
    simp only[dv,beq_iff_eq]at q
    obtain⟨m,hm⟩:=Xl X q.1
    exact .own (X _ _ e) hm (PySem.W.ns_none_of X hm q.2) (Xk X r)
   | _=>cases q
 | [],q=>by cases eq_of_beq q
 | .type n::tl,q=>by rw[show Value.type n::tl=veM from eq_of_beq q];exact .base
 | .none::tl,q=>by cases eq_of_beq q
 | .bool _::tl,q=>by cases eq_of_beq q
 | .int _ _::tl,q=>by cases eq_of_beq q
 | .str _ _::tl,q=>by cases eq_of_beq q
 | .builtin _::tl,q=>by cases eq_of_beq q
 | .float _ _::tl,q=>by cases eq_of_beq q
 | .bytes _ _::tl,q=>by cases eq_of_beq q
 | .ellipsis::tl,q=>by cases eq_of_beq q
 | .notImplemented::tl,q=>by cases eq_of_beq q
def wO(K:Frag)(C:Addr):Bool:=match K.lookup C with
 | some o=>o.cls == .type "type" && (match o.data with
  | .cls cd=>!cd.hasDel&&cd.hasDict&&Us K cd.ns&&(match cd.mro with | v::tl=>v == .ref C&&Ur K tl | []=>false) | _=>false)&&(match o.slots.toList with | [_,_,_,_,some v,_]=>v == .builtin "ValueError.__new__" | _=>false)
 | none=>false
theorem yP{K:Frag}{h:Heap}{C:Addr}(X:K.In h)(q:wO K C=true):∃nm qn N bs bm sn sub ab col dd k0 k1 k2 k3 k5 mN,h.get? C=some (excClassObj nm qn C N bs bm true sn sub ab col dd k0 k1 k2 k3 k5 "ValueError.__new__")/\h.Ns N mN/\OwnTail h veM bm:=by
 unfold wO at q
 cases e:K.lookup C with
 | none=>rw[e]at q;cases q
 | some o=>
  rw[e]at q
  obtain⟨oc,od,da,sl⟩:=o
  simp only[dv,beq_iff_eq]at q
  obtain⟨⟨rfl,q1⟩,q2⟩:=q
  cases da with
  | cls cd=>
   obtain⟨nm,bs,mro,ns,qn,hd,sn,sub,ab,col,del⟩:=cd
   simp only[dv,Gj]at q1
   obtain⟨⟨⟨rfl,rfl⟩,n1⟩,q1⟩:=q1
   cases mro with
   | nil=>cases q1
   | cons v tl=>
    simp only[dv,beq_iff_eq]at q1
    obtain⟨rfl,q1⟩:=q1
    obtain⟨l⟩:=sl
    match l,q2 with
    | [k0,k1,k2,k3,some v,k5],q2=>
     obtain⟨m,hm⟩:=Xl X n1
     have ev:v=.builtin "ValueError.__new__":=eq_of_beq q2
     subst ev
     exact⟨nm,qn,ns,bs,tl,sn,sub,ab,col,od,k0,k1,k2,k3,k5,m,X _ _ e,hm,Xk X q1⟩
  | _=>cases q1
section
variable {prog:Program}{w:World}{A:Around}{E:Value->Shared->Prop}{s:Shared}{K:Frag}{C fI:Addr}
theorem yb{rest:List Value}{Q:PySem.Fin->Shared->Prop}(X:K.In s.heap)(q:wO K C=true)(hi:PySem.W.findIn K (.ref C) "__init__" = some (some (.ref fI)))(hf:PySem.W.typeIn K (.ref fI)=some (.type "function"))
  (hq:∀h',Heap.MadeExcOf s.heap h' (s.heap.objs.size+1) (.ref C) rest->wpAny (model prog w) A (call (.ref fI) (.ref (s.heap.objs.size+1)::rest)) (λr s'=>r=.none/\Q (.done (.ret (.ref (s.heap.objs.size+1)))) s') E { s with heap:=h' }) (zA:rest.length<=sizeLine) :
  wpAny (model prog w) A (Builtin.«type.__call__» ⟨.ref C::rest,[]⟩) Q E s:=by
 obtain⟨nm,qn,N,bs,bm,sn,sub,ab,col,dd,k0,k1,k2,k3,k5,mN,hC,hN,T⟩:=yP X q
 obtain⟨h,g,d,t,os⟩:=s
 dsimp only at X hC hN T hq
 repeat (first | with_reducible refine z7 hC ?_ | with_reducible refine wpAny_madeBy_exc hC ?_ | wp_step)
 have FF:=PySem.F.excBase_ValueError
 refine codeAny_call_builtin_code (z9 _ FF.quiet) (wpAny_check_new_subU FF (by decide +kernel) T hC (codeAny_exc_new_subU FF (by decide +kernel) FF T hC ?_ zA))
 show wpAny _ _ _ _ _ _
 have kp:∀b o,h.get? b=some o->((h.push { cls:=.type "tuple",data:=.seq rest.toArray }).push { cls:=.ref C,data:=.fields #[.ref h.objs.size,.none,.none,.none,.bool false,.none] }).get? b=some o:=λb o e=>bN _ (bN _ e)
 have e1:((h.push { cls:=.type "tuple",data:=.seq rest.toArray }).push { cls:=.ref C,data:=.fields #[.ref h.objs.size,.none,.none,.none,.bool false,.none] }).get? (h.objs.size+1)=some { cls:=.ref C,data:=.fields #[.ref h.objs.size,.none,.none,.none,.bool false,.none] }:=by heap_get
 have mk:Heap.MadeExcOf h ((h.push { cls:=.type "tuple",data:=.seq rest.toArray }).push { cls:=.ref C,data:=.fields #[.ref h.objs.size,.none,.none,.none,.bool false,.none] }) (h.objs.size+1) (.ref C) rest:=⟨kp,qi (gT _),h.objs.size,e1,qi (bj _),bN _ (Heap.get?_push_at rfl rfl)⟩
 generalize ((h.push { cls:=.type "tuple",data:=.seq rest.toArray }).push { cls:=.ref C,data:=.fields #[.ref h.objs.size,.none,.none,.none,.bool false,.none] })=h2 at kp e1 mk ⊢
 have hC2:=kp _ _ hC
 have X2:K.In h2:=X.keeps kp
 have hcC:(Value.ref C::bm).contains (.ref C)=true:=by simp
 unfold isInstance
 repeat (first | with_reducible refine z7 e1 ?_ | (with_reducible refine Gf hC2 ?_;rw[hcC]) | wp_step)
 show wpAny _ _ (typeLookup (.ref C) _) _ _ _
 refine(Gy (M:=model prog w) (h:=h2) X2 hi) _ _ _ _ (λ_ _ e=>e) (js (av ((PySem.W.bind_fn (M:=model prog w) (h:=h2) X2 (.ref (h.objs.size+1)) hf) _ _ _ _ (λ_ _ e=>e) ?_)))
 refine av (cL (hq h2 mk) (λr s' hr=>?_) λ_ _ z=>z)
 obtain⟨rfl,z⟩:=hr
 wp_walk
 exact z
theorem Tr{rest:List Value}{Q:Value->Shared->Prop}(X:K.In s.heap)(q:wO K C=true)(hi:PySem.W.findIn K (.ref C) "__init__" = some (some (.ref fI)))(hf:PySem.W.typeIn K (.ref fI)=some (.type "function"))
  (hq:∀h',Heap.MadeExcOf s.heap h' (s.heap.objs.size+1) (.ref C) rest->wpAny (model prog w) (A.under (.builtin "type.__call__" ⟨.ref C::rest,[]⟩)) (call (.ref fI) (.ref (s.heap.objs.size+1)::rest)) (λr s'=>r=.none/\Q (.ref (s.heap.objs.size+1)) s') E { s with heap:=h' }) (zA:rest.length<=sizeLine) :
  wpAny (model prog w) A (call (.ref C) rest) Q E s:=by
 obtain⟨nm,qn,N,bs,bm,sn,sub,ab,col,dd,k0,k1,k2,k3,k5,mN,hC,hN,T⟩:=yP X q
 obtain⟨h,g,d,t,os⟩:=s
 dsimp only at X hC hN T hq
 have f1:=tc_lookup
 have f2:=tc_bind (.ref C)
 have hT:(⟨h,g,d,t,os⟩:Shared).TypeIs (.ref C) "type":=⟨_,hC,rfl⟩
 refine kF (zX (show wpAny _ _ (callAny (.ref C) _) _ _ _ from ?_))
 repeat (any_goals (first | assumption | with_reducible refine z7 hC ?_ | wp_step))
 refine⟨rfl,codeAny_call_builtin_at (z9 _ (by decide +kernel)) entry_typeCall (wpAny_check_type_call_sub hC (yb (s:=⟨h,g,d,t,os⟩) X q hi hf (λh' hm=>?_) zA))⟩
 exact hq h' hm
end
section
variable {prog:Program}{w:World}{A:Around}{E:Value->Shared->Prop}{s:Shared}{K:Frag}{C e:Addr}{oe:Obj}{vs:Array Value}
theorem N5{t0:Addr}{rest:List Value}{Q:Value->Shared->Prop}(X:K.In s.heap)(q:wO K C=true)(he:s.heap.get? e=some { cls:=.ref C,data:=.fields #[.ref t0,.none,.none,.none,.bool false,.none] })
  (hq:Q .none { s with heap:=(s.heap.push { cls:=.type "tuple",data:=.seq rest.toArray }).update e (Obj.mapFields (·.setIfInBounds 0 (Value.ref s.heap.objs.size))) }) (zA:rest.length<=sizeLine) :
  wpAny (model prog w) A (call (.builtin "ValueError.__init__") (.ref e::rest)) Q E s:=by
 obtain⟨nm,qn,N,bs,bm,sn,sub,ab,col,dd,k0,k1,k2,k3,k5,mN,hC,hN,T⟩:=yP X q
 have FF:=PySem.F.excBase_ValueError
 obtain⟨h,g,d,t,os⟩:=s
 dsimp only at X hC hN T hq he
 have he1:(h.push { cls:=.type "tuple",data:=.seq rest.toArray }).get? e=some { cls:=.ref C,data:=.fields #[.ref t0,.none,.none,.none,.bool false,.none] }:=bN _ he
 refine kF (Af FF.init.plain FF.initEntry (wpAny_check_init_subU FF T hC he rfl ?_))
 wp_walk
 exact hq
theorem DQ(self:Value){h:Heap}{l:List Value}(T:OwnTail h veM l):refuseLoop self "__setattr__" l=pure ():=by
 induction T with
 | base=>exact PySem.F.store_ValueError.passes self
 | own _ _ _ _ ih=>rw[refuseLoop_ref];exact ih
theorem Lx{name:Str}{tk:Tok}{v:Value}{R:Result->Shared->Prop}(X:K.In s.heap)(q:wO K C=true)(he:s.heap.get? e=some oe)(hc:oe.cls=.ref C)(ht:PySem.W.takerIn K C name=some none)
  (h:∀b,wpAny (model prog w) A.in1 (Builtin.ObjectAttr.storeInOwnDict (.ref e) (.ref C) (.str name tk) name v b) (λfin s'=>match fin with | .done f=>R (.ok f) s' | .again c'=>c'.quiet=true/\codeAny (model prog w) A c' R s') (λx s'=>R (.error x) s') s) :
  codeAny (model prog w) A (.call (.builtin "object.__setattr__") ⟨[.ref e,.str name tk,v],[]⟩) R s:=by
 obtain⟨nm,qn,N,bs,bm,sn,sub,ab,col,dd,k0,k1,k2,k3,k5,mN,hC,hN,T⟩:=yP X q
 have SF:=PySem.F.store_object
 have ty:Looks (model prog w) s.heap (typeOf (.ref e)) (.ref C):=hc ▸ (Looks.ld he).andThen .now
 have sub:Looks (model prog w) s.heap (isInstance (.ref e) (.type "object")) true:=ty.andThen (λA Q E s k z=>by
  obtain⟨h,g,d,t,os⟩:=s
  refine Gf (k _ _ hC) ?_
  rw[List.contains_cons,T.hasType (X:="object") (b:=true) (by decide +kernel),Bool.or_true]
  exact z)
 refine Af SF.slot.plain SF.entry (@PySem.W.check_slot (model prog w) _ _ s "object.__setattr__" "object" "__setattr__" (.ref e) [.str name tk,v] [] _ SF.kind SF.split sub (SF.args (.ref e) (.str name tk) v) ?_)
 obtain⟨attr,ha,hr⟩:=Option.bind_eq_some_iff.mp ht
 have hm:Looks (model prog w) s.heap (mroOf (.ref C)) (.ref C::bm):=λA Q E s k z=>by
  obtain⟨h,g,d,t,os⟩:=s
  exact wpAny_mroOf_exc (k _ _ hC) z
 have L3:Looks (model prog w) s.heap (Builtin.ObjectAttr.storeTaker? attr) none:=by
  cases attr with
  | none=>exact .now
  | some a=>
   obtain⟨b,hb,z⟩:=Option.map_eq_some_iff.mp hr
   cases b with
   | true=>cases z
   | false=>exact(PySem.W.looks_takesIn X hb).andThen .now
 rw[PySem.W.osa_eq,refuse_eq]
 refine av (av (ty.here (av (hm.here ?_))))
 rw[refuseLoop_ref,DQ _ T]
 exact aK (av (ty.here (av ((Gy X ha).here (av (L3.here (h _)))))))
theorem aCs{name:Str}{v:Value}{Q:Unit->Shared->Prop}(X:K.In s.heap)(q:wO K C=true)(he:s.heap.get? e=some oe)(hc:oe.cls=.ref C)(hd:oe.dict=none)(R4:oe.data=.fields vs)
  (hs:PySem.W.findIn K (.ref C) "__setattr__" = some (some (.builtin "object.__setattr__"))) (ht:PySem.W.takerIn K C name=some none)
  (h:∀h' tk,h'.get? e=some { oe with dict:=some s.heap.objs.size }->h'.Ns1 s.heap.objs.size (λy=>if y=name then some v else none)->(∀b o,b≠e->s.heap.get? b=some o->h'.get? b=some o)->Q () { s with heap:=h',toks:=tk }) :
  wpAny (model prog w) A (setAttr (.ref e) name v) Q E s:=by
 obtain⟨oc,od,oda,Ki⟩:=oe
 dsimp only at hc hd R4
 subst hc hd R4
 have J:PySem.W.InstAt s.heap e ⟨.ref C,none,.fields vs,Ki⟩ C none:=⟨he,rfl,rfl,True.intro⟩
 refine PySem.W.set_plain X J hs (Lx (s:={ s with toks:=s.toks+1 }) X q he rfl ht λb=>?_)
 obtain⟨nm,qn,N,bs,bm,sn,sub,ab,col,dd,k0,k1,k2,k3,k5,mN,hC,hN,T⟩:=yP X q
 have yw:Looks (model prog w) s.heap (classData C) _:=(Looks.ld (part:=none) hC).andThen .now
 refine av (aK (av (av (wpAny_loadPart he (av (Looks.here (s:={ s with toks:=s.toks+1 }) yw ?_))))))
 rw[aE (by simp)]
 dsimp only
 rw[aE (by simp[typeHasDict])]
 have he1:(s.heap.push { cls:=.type "dict",data:=.dict #[] }).get? e=some ⟨.ref C,none,.fields vs,Ki⟩:=bN _ he
 have vZ:e≠s.heap.objs.size:=bf (bG he)
 refine av (wpAny_alloc' (av (wpAny_update' he1 ?_)))
 refine aK ?_
 have Oh:=pL (λo:Obj=>{ cls:=o.cls,dict:=some s.heap.objs.size,data:=o.data,slots:=o.slots }) he1 rfl
 have kp2:∀b o,b≠e->(s.heap.push { cls:=.type "dict",data:=.dict #[] }).get? b=some o->((s.heap.push { cls:=.type "dict",data:=.dict #[] }).update e λo=>{ cls:=o.cls,dict:=some s.heap.objs.size,data:=o.data,slots:=o.slots }).get? b=some o:=λb o hb z=>(Heap.get?_update_ne _ _ _ _ hb).trans z
 have hgd:=kp2 _ _ vZ.symm (Heap.get?_push_at (h:=s.heap) (o:={ cls:=.type "dict",data:=.dict #[] }) rfl rfl)
 have kp3:∀b o,b≠e->s.heap.get? b=some o->((s.heap.push { cls:=.type "dict",data:=.dict #[] }).update e λo=>{ cls:=o.cls,dict:=some s.heap.objs.size,data:=o.data,slots:=o.slots }).get? b=some o:=λb o hb z=>kp2 b o hb (bN _ z)
 generalize ((s.heap.push { cls:=.type "dict",data:=.dict #[] }).update e λo=>{ cls:=o.cls,dict:=some s.heap.objs.size,data:=o.data,slots:=o.slots })=h2 at Oh hgd kp3 ⊢
 have hnd:h2.Ns s.heap.objs.size (λ_=>none):=⟨_,#[],_,hgd,rfl,λx hx=>absurd hx (by simp),λ_=>rfl⟩
 refine av (aK (av ?_))
 refine wpAny_nsSet1 (s:={ s with heap:=h2,toks:=s.toks+1 }) (Heap.Ns1.of_empty hnd) λh' zB sb=>?_
 obtain⟨oD,esD,epD,hoD,hdD,hcD⟩:=zB.count (Within.cons name v Within.nil)
 refine av (wpAny_lookBehind hoD (by rw[hdD];exact pastItsLine_dict (cQ hcD (by rw[eV,wx,mn];omega))) ?_)
 exact aK (h h' _ ((sb.2 _ vZ).trans Oh) zB λb o hb z=>(sb.2 b (bf (bG z))).trans (kp3 b o hb z))
end
abbrev Ys(C:Addr)(dx:Option Addr)(t:Addr):Obj:={ cls:=.ref C,dict:=dx,data:=.fields #[.ref t,.none,.none,.none,.bool false,.none] }
section
variable {M:Model}{A:Around}{E:Value->Shared->Prop}{s:Shared}{K:Frag}{C:Addr}{env:Env}
theorem Yr{x:Sem Value}{Q:Flow->Shared->Prop}(q:wO K C=true)(hh:A.handled=none)(h:wpAny M A x (λv s₁=>∃e dx t,v=.ref e/\K.In s₁.heap/\s₁.heap.get? e=some (Ys C dx t)/\E (.ref e) s₁) E s) :
  wpAny M A (raiseStmt env (some x) none) Q E s:=by
 unfold raiseStmt
 refine av (cL h (λv s₁ h₁=>?_) λ_ _ z=>z)
 obtain⟨e,dx,t,rfl,X,he,hE⟩:=h₁
 obtain⟨nm,qn,N,bs,bm,sn,sub,ab,col,dd,k0,k1,k2,k3,k5,mN,hC,hN,T⟩:=yP X q
 have hb:(Value.ref C::bm).contains (.type "BaseException")=true:=by rw[List.contains_cons,T.hasType (X:="BaseException") (b:=true) (by decide +kernel),Bool.or_true]
 obtain⟨hp,g,d,tk,os⟩:=s₁
 dsimp only at hC he
 repeat (first | with_reducible refine z7 he ?_ | (with_reducible refine Gf hC ?_;rw[hb]) | wp_step)
 exact Gg hh hE
end
def Xe(N:Addr->Prop)(h:Heap)(e C:Addr)(dx:Option Addr):Prop:=N e/\∃vs sl,h.get? e=some ⟨.ref C,dx,.fields vs,sl⟩/\(vs[1]?=some .none\/∃T oT ts,N T/\T≠e/\vs[1]?=some (.ref T)/\h.get? T=some oT/\oT.data=.fields ts/\ts[3]?=some .none)
structure Lv(fs ch:List Addr)(h h':Heap):Prop where
 keep:∀b o,b∉fs->b∉ch->h.get? b=some o->h'.get? b=some o
 slot:∀b o,b∈fs->h.get? b=some o->∃sl,h'.get? b=some { o with slots:=sl }
section
variable {M:Model}{A:Around}{E:Value->Shared->Prop}{s:Shared}{env:Env}{outer:List Env}{base:Heap}{N:Addr->Prop}{e C L:Addr}{dx:Option Addr}
theorem O8{oe:Obj}{vs:Array Value}{head:Value}{Wz:Bool}{Q:Unit->Shared->Prop}(Cd:A.frames=some (env::outer))(hl:s.heap.FunFrames base (env::outer))(hf:env.frame=some L)
  (he:s.heap.get? e=some oe) (hd:oe.data=.fields vs) (hz:1<vs.size)
  (h:∀h' T oT ts,s.heap.objs.size<=T->T≠e->h'.get? e=some { oe with data:=.fields (vs.setIfInBounds 1 (.ref T)) }->h'.get? T=some oT->oT.data=.fields ts->ts[3]?=some (rawInt L)->
   (∀b o,b≠e->b∉pU (env::outer)->s.heap.get? b=some o->h'.get? b=some o)->(∀b o,b∈pU (env::outer)->s.heap.get? b=some o->∃sl,h'.get? b=some { o with slots:=sl })->h'.FunFrames base (env::outer)->Q () { s with heap:=h' }) :
  wpAny M A (do let a <-frameOf env;let pl <-entryPlaceOf L Wz;let b <-EntryCells.newEntry head a .none (rawInt L) .none pl;setField (.ref e) 1 b) Q E s:=by
 have nf:∀b,b∈pU (env::outer)->b≠e:=λb hb z=>by
  obtain⟨_,o,ho,nd⟩:=hl.mem hb
  rw[z,he]at ho;cases ho;exact nd vs hd
 refine av (wpAny_frameOf_fun Cd hl hf λh₁ so=>av (wpAny_entryPlaceOf λpl lO=>?_))
 unfold EntryCells.newEntry newFields
 refine av (iY ?_ (lO.sizeOk5 _ _ _ _ _))
 have he1:h₁.get? e=some oe:=(so.2.1 e λz=>nf e z rfl).trans he
 have k2:∀b o,h₁.get? b=some o->(h₁.push { cls:=.type "traceback",dict:=none,data:=.fields ([head,.ref L,.none,rawInt L,.none]++(if pl.isEmpty then List.replicate 6 Value.none else pl)).toArray }).get? b=some o:=λb o z=>bN _ z
 have t2:=cC h₁ (o:={ cls:=.type "traceback",dict:=none,data:=.fields ([head,.ref L,.none,rawInt L,.none]++(if pl.isEmpty then List.replicate 6 Value.none else pl)).toArray }) rfl
 have t3:([head,.ref L,.none,rawInt L,.none]++(if pl.isEmpty then List.replicate 6 Value.none else pl)).toArray[3]?=some (rawInt L):=by simp
 generalize ([head,.ref L,.none,rawInt L,.none]++(if pl.isEmpty then List.replicate 6 Value.none else pl)).toArray=ts at k2 t2 t3 ⊢
 generalize h₁.push { cls:=.type "traceback",dict:=none,data:=.fields ts }=h₂ at k2 t2 ⊢
 have he2:=k2 _ _ he1
 have hTe:h₁.objs.size≠e:=g6 (bG he1)
 refine wq he2 hd hz ?_
 have ZL:∀b o,b≠e->h₂.get? b=some o->(h₂.update e (Obj.mapFields (·.setIfInBounds 1 (Value.ref h₁.objs.size)))).get? b=some o:=λb o hb z=>(uV _ _ hb.symm).trans z
 have d3:=wC hd (·.setIfInBounds 1 (Value.ref h₁.objs.size))
 have he3:=pL (Obj.mapFields (·.setIfInBounds 1 (Value.ref h₁.objs.size))) he2 (Gp d3)
 have sl3:∀b o,b∈pU (env::outer)->s.heap.get? b=some o->∃sl,(h₂.update e (Obj.mapFields (·.setIfInBounds 1 (Value.ref h₁.objs.size)))).get? b=some { o with slots:=sl }:=λb o hb z=>by
  obtain⟨sl,e1⟩:=so.2.2 b o z
  exact⟨sl,ZL _ _ (nf b hb) (k2 _ _ e1)⟩
 refine h _ h₁.objs.size _ ts (Nat.le_of_eq so.1.symm) hTe ?_ (ZL _ _ hTe t2) rfl t3 (λb o hb hf z=>ZL b o hb (k2 _ _ ((so.2.1 b hf).trans z))) sl3 ?_
 ·rw[he3]
  obtain⟨oc,od,oda,Ki⟩:=oe
  dsimp only at hd
  subst hd
  rfl
 ·refine hl.of_keeps λb o hb nd=>?_
  obtain⟨sl,e1⟩:=so.2.2 b o hb
  refine⟨_,ZL b _ (λz=>?_) (k2 _ _ e1),rfl⟩
  rw[z,he]at hb;cases hb;exact nd vs hd
theorem aAO{T:Addr}{oe oT:Obj}{vs ts:Array Value}{Q:Unit->Shared->Prop}(he:s.heap.get? e=some oe)(hd:oe.data=.fields vs)(h1:vs[1]?=some (.ref T))(hT:s.heap.get? T=some oT)(hdT:oT.data=.fields ts)(hz:3<ts.size)
  (h:Q () { s with heap:=s.heap.update T (Obj.mapFields (·.setIfInBounds 3 Value.none)) }):wpAny M A (setFlight (.ref e) none) Q E s:=by
 unfold setFlight
 refine av (p8 he hd h1 ?_)
 rw[ay (show(Value.ref T != Value.none)=true from by simp)]
 exact wq hT hdT hz h
theorem Yt{Q:Unit->Shared->Prop}(Cd:A.frames=some (env::outer))(hl:s.heap.FunFrames base (env::outer))(hf:env.frame=some L)(hN:∀b,s.heap.objs.size<=b->N b)(x:Xe N s.heap e C dx)
  (h:∀h' ch,(∀b∈ch,N b/\∃o vs,s.heap.get? b=some o/\o.data=.fields vs)->Xe N h' e C dx->Lv (pU (env::outer)) ch s.heap h'->Q () { s with heap:=h' }):wpAny M A (noteFrame (.ref e) env) (λ_ s'=>wpAny M A (setFlight (.ref e) none) Q E s') E s:=by
 obtain⟨ne,vs,sl,he,tb⟩:=x
 have fin:∀(ch:List Addr) (Ga:∀b∈ch,N b/\∃o vs,s.heap.get? b=some o/\o.data=.fields vs) (s1:Shared) (h':Heap) (T:Addr) (oT:Obj) (ts:Array Value),s1.heap.objs.size=s.heap.objs.size->s1.heap.objs.size<=T->T≠e->h'.get? e=some ⟨.ref C,dx,.fields (vs.setIfInBounds 1 (.ref T)),sl⟩->1<vs.size->h'.get? T=some oT->oT.data=.fields ts->ts[3]?=some (rawInt L)->
   (∀b o,b∉pU (env::outer)->b∉ch->s.heap.get? b=some o->h'.get? b=some o)->(∀b o,b∈pU (env::outer)->s.heap.get? b=some o->∃sl,h'.get? b=some { o with slots:=sl })->s1={ s with heap:=s1.heap }->
   wpAny M A (setFlight (.ref e) none) Q E { s1 with heap:=h' }:=λch Ga s1 h' T oT ts hs hT hTe e1 hz t1 t2 t3 k1 k2 es=>by
  have v1:(vs.setIfInBounds 1 (Value.ref T))[1]?=some (.ref T):=by simp[hz]
  have z3:=(wM.mp t3).1
  refine aAO (s:={ s1 with heap:=h' }) e1 rfl v1 t1 t2 z3 ?_
  have nT:N T:=hN T (by omega)
  have ot:∀b o,b≠T->h'.get? b=some o->(h'.update T (Obj.mapFields (·.setIfInBounds 3 Value.none))).get? b=some o:=λb o hb z=>(uV _ _ hb.symm).trans z
  have t4:=pL (Obj.mapFields (·.setIfInBounds 3 Value.none)) t1 (Gp (wC t2 _))
  have g:=h (h'.update T (Obj.mapFields (·.setIfInBounds 3 Value.none))) ch Ga ⟨ne,_,sl,ot _ _ hTe.symm e1,.inr ⟨T,_,_,nT,hTe,v1,t4,wC t2 _,by simp[z3]⟩⟩ ⟨λb o hb nb z=>ot b o (λy=>?_) (k1 b o hb nb z),λb o hb z=>?_⟩
  ·rw[es];exact g
  ·have:=bG z
   rw[y]at this
   exact absurd this (Nat.not_lt.mpr (by rw[<-hs];exact hT))
  ·obtain⟨sl',e2⟩:=k2 b o hb z
   refine⟨sl',ot b _ (λy=>?_) e2⟩
   obtain⟨_,o',R9,nd⟩:=hl.mem hb
   have:=bG R9
   rw[y]at this
   exact absurd this (Nat.not_lt.mpr (by rw[<-hs];exact hT))
 unfold noteFrame
 simp only[hf]
 rcases tb with h1 | ⟨T,oT,ts,nT,hTe,h1,hT,dT,h3⟩
 ·have hz:=(wM.mp h1).1
  refine av (p8 he rfl h1 ?_)
  rw[aE (by decide)]
  exact O8 Cd hl hf he rfl hz λh' T oT ts a1 a2 a3 a4 a5 a6 a7 a8 _=>fin [e] (λb hb=>by rw[cG.mp hb];exact⟨ne,_,_,he,rfl⟩) s h' T oT ts rfl a1 a2 a3 hz a4 a5 a6 (λb o hb nb z=>a7 b o (λy=>nb (by rw[y];simp)) hb z) a8 rfl
 ·have hz:=(wM.mp h1).1
  refine av (p8 he rfl h1 ?_)
  rw[ay (show(Value.ref T != Value.none)=true by simp)]
  refine av (p8 hT dT h3 ?_)
  rw[aE (show ¬((Value.none==rawInt L)=true) by simp[rawInt])]
  refine av (wq hT dT (wM.mp h3).1 ?_)
  have ot:∀b o,b≠T->s.heap.get? b=some o->(s.heap.update T (Obj.mapFields (·.setIfInBounds 3 Value.none))).get? b=some o:=λb o hb z=>(uV _ _ hb.symm).trans z
  have nfT:∀b o,s.heap.get? b=some o->(∀vs,o.data≠.fields vs)->b≠T:=λb o z nd y=>by rw[y,hT]at z;cases z;exact nd ts dT
  have Ku:(s.heap.update T (Obj.mapFields (·.setIfInBounds 3 Value.none))).FunFrames base (env::outer):=hl.of_keeps λb o z nd=>⟨o,ot b o (nfT b o z nd) z,rfl⟩
  have sz:(s.heap.update T (Obj.mapFields (·.setIfInBounds 3 Value.none))).objs.size=s.heap.objs.size:=by simp
  have he2:=ot _ _ hTe.symm he
  generalize s.heap.update T (Obj.mapFields (·.setIfInBounds 3 Value.none))=hq at ot Ku sz he2 ⊢
  refine O8 (s:={ s with heap:=hq }) Cd Ku hf he2 rfl hz λh' T' oT' ts' a1 a2 a3 a4 a5 a6 a7 a8 _=>fin [e,T] (λb hb=>?_) { s with heap:=hq } h' T' oT' ts' sz a1 a2 a3 hz a4 a5 a6 (λb o hb nb z=>a7 b o (λy=>nb (by rw[y];simp)) hb (ot b o (λy=>nb (by rw[y];simp)) z)) (λb o hb z=>a8 b o hb (ot b o ?_ z)) rfl
  ·have:b=e\/b=T:=by simpa using hb
   rcases this with rfl | rfl
   ·exact⟨ne,_,_,he,rfl⟩
   ·exact⟨nT,_,_,hT,dT⟩
  ·obtain⟨_,o',R9,nd⟩:=hl.mem hb
   exact nfT b o' R9 nd
theorem O7{Q:Unit->Shared->Prop}(Cd:A.frames=some (env::outer))(hl:s.heap.FunFrames base (env::outer))(hf:env.frame=some L)(hN:∀b,s.heap.objs.size<=b->N b)(x:Xe N s.heap e C dx)
  (h:∀h' ch,(∀b∈ch,N b/\∃o vs,s.heap.get? b=some o/\o.data=.fields vs)->Xe N h' e C dx->Lv (pU (env::outer)) ch s.heap h'->Q () { s with heap:=h' }):wpAny M A (leaving env (.ref e)) Q E s:=av (Yt Cd hl hf hN x h)
end
structure XC(K:Frag)(C:Addr):Prop where
 is:wO K C=true
 hd:PySem.W.hasDictIn K C=true
 sa:PySem.W.findIn K (.ref C) "__setattr__" = some (some (.builtin "object.__setattr__"))
 ga:PySem.W.findIn K (.ref C) "__getattribute__" = some (some (.builtin "BaseException.__getattribute__"))
 gn:PySem.W.findIn K (.ref C) "__getattr__" = some none
 ca:PySem.W.findIn K (.ref C) "__class__" = some (some (.builtin "object.__class__"))
 cn:PySem.W.specialIn K (.builtin "object.__class__") "__get__" = some (some (.builtin "getset_descriptor.__get__"))
 ct:PySem.W.takesIn K (.builtin "object.__class__")=some true
 cm:PySem.W.mroIn K C (.type "object")=some true
section
variable {prog:Program}{w:World}{A:Around}{E:Value->Shared->Prop}{s:Shared}{K:Frag}{C e:Addr}{oe:Obj}{od:Option Obj}
end
def JL(P:Program)(w:World):Lq:=λouter H s E x s'=>∃e C dx H',x=.ref e/\s'.os=s.os/\AllBare s'.gens/\Un (pU outer) [] H H' s.heap s'.heap/\iQ P w H' s'.heap/\Xe (λb=>s.heap.objs.size<=b/\H' b=none) s'.heap e C dx/\E (.ref C) dx H'
def XN(X:Cx)(pins:List (Addr×Obj))(H:Hp)(b:Addr):Prop:=X.s₀.heap.objs.size<=b/\H b=none/\b≠X.env.locals/\(∀x c,X.env.cells.lookup x=some c->c≠b)/\∀p∈X.pn++pins,p.1≠b
theorem XN.new{X:Cx}{pins:List (Addr×Obj)}{σ:St}{H H':Hp}{s:Shared}(I:Inv X pins σ H s){b:Addr}(hb:s.heap.objs.size<=b)(hn:H' b=none):XN X pins H' b:=by
 have nb:∀{c:Addr} {o:Obj},s.heap.get? c=some o->c≠b:=λz y=>absurd (bG z) (by rw[y];exact Nat.not_lt.mpr hb)
 refine⟨cQ I.sz hb,hn,λy=>?_,λx c e=>?_,λp hp=>nb (I.pin p hp).1⟩
 ·obtain⟨m,⟨o,_,_,ho,_⟩,_⟩:=I.loc
  exact nb ho y.symm
 ·obtain⟨v,o,ho,_⟩:=I.cell x c e
  exact nb ho
def pY(X:Cx)(EH:St->XK):Prop:=∀(pins:List (Addr×Obj)) (σ:St) (H:Hp) (s:Shared) (e C:Addr) (dx:Option Addr),Inv X pins σ H s->Xe (XN X pins H) s.heap e C dx->EH σ (.ref C) dx H->X.xe (.ref e) s
theorem Xe.mono{N N':Addr->Prop}{h:Heap}{e C:Addr}{dx:Option Addr}(k:∀b,N b->N' b)(x:Xe N h e C dx):Xe N' h e C dx:=by
 obtain⟨n,vs,sl,he,tb⟩:=x
 refine⟨k _ n,vs,sl,he,tb.imp id ?_⟩
 rintro⟨T,oT,ts,nT,r⟩
 exact⟨T,oT,ts,k _ nT,r⟩
theorem pY.pass{X:Cx}{EH:St->XK}(L:pY X EH){pins:List (Addr×Obj)}{σ:St}{H:Hp}{s s':Shared}{x:Value}(I:Inv X pins σ H s)(h:JL X.prog X.w X.stack H s (EH σ) x s'):X.xe x s':=by
 obtain⟨e,C,dx,H',rfl,os,bare,un,bz,xa,q⟩:=h
 have I':Inv X pins σ H' s':=I.call' os un bz bare (λb z=>absurd z (by simp))
 exact L pins σ H' s' e C dx I' (xa.mono λb hb=>.new I hb.1 hb.2) q
section
variable {P:Program}{w:World}{K:Frag}{mg:Str->Option Value}{base:Heap}
theorem RD{N:List Str}{qual:Str}{scope:Scope}{f:Addr}{cd:Value}{A:Around}{outer:List Env}{s:Shared}{H:Hp}{E:XK}:pY (gQ (JL P w) P w K mg base N qual scope f cd A outer s H E) (λ_=>E):=by
 intro pins σ H1 s1 e C dx I xa hE
 have hsz:s.heap.objs.size<=s1.heap.objs.size:=I.sz
 refine O7 (L:=s.heap.objs.size) (N:=λb=>s.heap.objs.size<=b/\H1 b=none) (base:=base) I.ok.frames I.stack rfl (λb hb=>⟨cQ hsz hb,I.bz.fresh hb⟩) (xa.mono λb hb=>⟨hb.1,hb.2.1⟩) λh' ch Ga xa' lv=>?_
 have nn:∀b o,s.heap.get? b=some o->b∉ch:=λb o z y=>absurd (bG z) (Nat.not_lt.mpr (Ga b y).1.1)
 have nf:∀b o,s.heap.get? b=some o->b∉pU outer->b∉pU (envOfC qual scope s.heap.objs.size f cd::outer):=λb o z hb y=>by
  rcases bJ.mp (show b∈s.heap.objs.size::pU outer from y) with y | y
  ·have:=bG z
   rw[y]at this
   exact g7 _ this
  ·exact hb y
 have sub:∀b,b∈pU outer->b∈pU (envOfC qual scope s.heap.objs.size f cd::outer):=λb hb=>cV (a:=b) s.heap.objs.size hb
 have un:Un (pU outer) [] H H1 s.heap s1.heap:=I.base
 refine⟨e,C,dx,H1,rfl,I.os,I.bare,⟨λb o z n hb hx=>lv.keep b o (nf b o z hb) (nn b o z) (un.keep b o z n hb hx),λb o z n hb hx=>?_,un.free,λb o z hx=>?_,un.tups,un.frzs,un.tbls⟩,λa u z=>?_,xa',hE⟩
 ·obtain⟨sl,z1⟩:=un.slot b o z n hb hx
  obtain⟨Mf,z2⟩:=lv.slot b _ (sub b hb) z1
  exact⟨Mf,z2⟩
 ·obtain⟨o',z1⟩:=un.there b o z hx
  by_cases hb:b∈pU (envOfC qual scope s.heap.objs.size f cd::outer)
  ·obtain⟨Mf,z2⟩:=lv.slot b _ hb z1
   exact⟨_,z2⟩
  ·exact⟨o',lv.keep b o' hb (nn b o z) z1⟩
 ·refine(I.bz a u z).stay (λb v hb y=>?_) (λ_ q=>q) λ_ _ q=>q
  have hn:¬H1 b=none:=λy=>by
   rcases hb with rfl | hb
   ·rw[z]at y;cases y
   ·rw[hb]at y;cases y
  exact lv.keep b v (λy=>hn (I.vP b y)) (λy=>hn (Ga b y).1.2) y
theorem jV.okE{x qual:Str}{st:Stmt}{f:Addr}{fd:FuncData}{N ps:List Str}{k:Nat}{sp:Sp}(F:jV K x qual st f fd)(S:aU N ps (ag st))(len:∀vs H Q E,sp vs H Q E->vs.length=ps.length)
  (gx:∀(dc:Value) (A:Around) (outer:List Env) (s:Shared) (H:Hp) (vs:List V) (Q:VK) (E:XK),cJ k (A.deeper (envOfC qual (ag st) s.heap.objs.size f dc))->sp vs H Q E->
   HC (gQ (JL P w) P w K mg base N qual (ag st) f dc A outer s H E) N (ag st)->(∀x,(gQ (JL P w) P w K mg base N qual (ag st) f dc A outer s H E).fn x=true)->
   pY (gQ (JL P w) P w K mg base N qual (ag st) f dc A outer s H E) (λ_=>E)->PassesOwn (model P w) (gQ (JL P w) P w K mg base N qual (ag st) f dc A outer s H E).A (gQ (JL P w) P w K mg base N qual (ag st) f dc A outer s H E).env (gQ (JL P w) P w K mg base N qual (ag st) f dc A outer s H E).xe->
   ∃t,Lg (gQ (JL P w) P w K mg base N qual (ag st) f dc A outer s H E) (aN st) t/\t { nx:=λ_ H'=>Q .non H',rt:=Q } (start N vs) H):bX P w K mg base (JL P w) (k+1) f fd ps sp:=by
 obtain⟨oc,od,kV,doc,pm,an,dc,ct,Ki,rfl,lk,yw⟩:=F.ex
 refine SM lk yw S len λA outer s H vs Q E hr FW=>?_
 obtain⟨t,h,q⟩:=gx dc A outer s H vs Q E hr FW ⟨rfl,rfl⟩ (λ_=>rfl) RD PassesOwn.leaving
 exact⟨t,h.to,q⟩
end
section
variable {X:Cx}{k:Nat}{f C:Addr}{fd:FuncData}{ps:List Str}{sp:Sp}{EH:St->XK}{x:Str}{p pos:Pos}{e:Expr}{es:List Expr}{t:TA}
def Pw(sp:Sp)(EH:St->XK)(t:TA):TE:=λσ H Q=>t σ H λvs H1=>sp vs H1 Q (EH σ)
end
section
variable {X:Cx}{k:Nat}{fI C:Addr}{fd:FuncData}{ps:List Str}{sp:Sp}{EH:St->XK}{x:Str}{np du pos:Pos}{a:Expr}{t:TA}
def JP(C:Addr)(t:TA)(EH:St->XK):TS:=λ_ σ H=>t σ H λvs H1=>vs.length<=sizeLine/\EH σ (.ref C) none H1
def jU(e C:Addr)(dx:Option Addr)(t:Addr):Heap->Prop:=λh=>h.get? e=some (Ys C dx t)
theorem Aq{P:Program}{w:World}{H:Hp}{h:Heap}{e C t:Addr}{dx:Option Addr}(z:h.get? e=some (Ys C dx t)):dy P w H h e (.ext (jU e C dx t)):=⟨z,⟨_,z⟩,λh1 h2 a b=>b _ a⟩
def Bb(C:Addr)(fld:Str):Sp:=λvs H Q _=>∃e v t,vs=[.ref e,v]/\H e=some (.ext (jU e C none t))/\∀dx t',H dx=none->dx≠e->Q .non (upd (upd H e (.ext (jU e C (some dx) t'))) dx (.xd [(fld,v)]))
def NQ(H:Hp)(e:Addr):Hp:=λb=>if b=e then none else H b
theorem uE{H:Hp}{e:Addr}:NQ H e e=none:=ay rfl
theorem kl{H:Hp}{e b:Addr}(h:b≠e):NQ H e b=H b:=aE h
theorem pj{H:Hp}{e b:Addr}(h:H b=none):NQ H e b=none:=by
 by_cases hb:b=e
 ·rw[hb];exact uE
 ·rw[kl hb];exact h
theorem Inv.forget{pins:List (Addr×Obj)}{σ:St}{H:Hp}{s:Shared}{e:Addr}{φ:Heap->Prop}(I:Inv X pins σ H s)(he:H e=some (.ext φ)):Inv X pins σ (NQ H e) s:=by
 have ne:∀{b:Addr} {u:HO},H b=some u->(HO.ext φ≠u)->b≠e:=λz n=>(bh he z n).symm
 have ok:iQ X.prog X.w (NQ H e) s.heap:=λb u z=>by
  by_cases hb:b=e
  ·rw[hb,uE]at z;cases z
  ·rw[kl hb]at z
   refine(I.bz b u z).stay (λ_ _ _ q=>q) (λc q=>?_) λc xs q=>?_
   ·rw[kl (ne q (by intro z;cases z))];exact q
   ·rw[kl (ne q (by intro z;cases z))];exact q
 refine⟨I.ok,I.os,I.bare,⟨I.base.keep,I.base.slot,λb ob z n hx=>pj (I.base.free b ob z n hx),I.base.there,λb xs z=>?_,λb ob u z=>?_,λb ps z=>?_⟩,I.loc,I.cell,pj I.free,λx c z=>pj (I.kj x c z),λp hp=>?_,ok,I.len⟩
 ·have e1:=I.base.tups b xs z
  rw[kl (ne e1 (by intro z;cases z))];exact e1
 ·have e1:=I.base.frzs b ob u z
  rw[kl (ne e1 (by intro z;cases z))];exact e1
 ·obtain⟨m,e1⟩:=I.base.tbls b ps z
  exact⟨m,by rw[kl (ne e1 (by intro z;cases z))];exact e1⟩
 ·obtain⟨p1,p2,p3⟩:=I.pin p hp
  exact⟨p1,pj p2,p3⟩
def vO(C:Addr)(fld:Str)(t:TE)(EH:St->XK):TS:=λ_ σ H=>t σ H λv H1=>∀dx,H1 dx=none->EH σ (.ref C) (some dx) (upd H1 dx (.xd [(fld,v)]))
theorem Mr{fld:Str}{te:TE}(c:XC X.K C)(hi:PySem.W.findIn X.K (.ref C) "__init__" = some (some (.ref fI)))(hf:PySem.W.typeIn X.K (.ref fI)=some (.type "function"))(hk:PySem.W.keepIn X.K (.ref C)=true)
  (F:bX X.prog X.w X.K X.mg X.base gi k fI fd ps (Bb C fld)) (hb:Binds X.K fd ps []) (hr:cJ (k+1) X.A) (hg:Gl X x) (hm:X.mg x=some (.ref C)) (hc:X.calm=true) (L:pY X EH) (ha:PE X a te)
  (uB:(x==("__debug__" : Str))=false:=by decide) (he:starEach [a] X.env=(false,eval a X.env)::starEach [] X.env:=by rfl) (lO:(backTo du (starEach [] X.env)).any (·.1)=false:=by rfl) :
  PS X (.Raise (some (.Call (.Name x np) [a] [] du)) none pos) (vO C fld te EH):=by
 intro pins s σ H D I h
 rw[arm_exec_Raise]
 refine av (qa (Yr c.is (I.ok.hd hc) ?_))
 refine av (nU (pd I hg hm ?_ uB))
 refine wH (h₀:=X.base) I.ok.mod.kin hk (cT (vU ha Hu he du pins s σ H (λvs H1=>match vs with | [v]=>(∀dx,H1 dx=none->EH σ (.ref C) (some dx) (upd H1 dx (.xd [(fld,v)]))) | _=>False) I h) λus s1 ⟨vs,H1,I1,r,q⟩=>⟨I1.nH,?_⟩) he lO
 match vs,q,r with
 | [v],q,r=>
  have ul:us.length<=sizeLine:=by rw[<-r.length];show 1<=sizeLine;decide
  refine Tr I1.nH c.is hi hf (λh' mk=>?_) ul
  obtain⟨t,e1,_,_⟩:=mk.there
  have fe:H1 (s1.heap.objs.size+1)=none:=I1.bz.fresh (gT _)
  have I2:=I1.laid (a:=s1.heap.objs.size+1) (o:=.ext (jU (s1.heap.objs.size+1) C none t)) (t':=s1.toks) mk.keeps (gT _) (Aq e1)
  have fe2:∀H':Hp,H' (s1.heap.objs.size+1)=none->XN X pins H' (s1.heap.objs.size+1):=λH' z=>.new I1 (gT _) z
  generalize s1.heap.objs.size+1=e at e1 fe I2 fe2
  have hq:Bb C fld [.ref e,v] (upd H1 e (.ext (jU e C none t))) (λu H2=>u=.non/\∃dx t',H1 dx=none/\dx≠e/\H2=upd (upd (upd H1 e (.ext (jU e C none t))) e (.ext (jU e C (some dx) t'))) dx (.xd [(fld,v)])) E0:=⟨e,v,t,rfl,ai,λdx t' hd vZ=>⟨rfl,dx,t',by rwa [au vZ]at hd,vZ,rfl⟩⟩
  have r2:Vals [V.ref e,v] (Value.ref e::us):=.cons rfl r
  have hl:(Value.ref e::us).length=ps.length:=by rw[<-r2.length];exact F.len _ _ _ _ hq
  have b:=hb _ (Value.ref e::us) I2.nH (by rw[gj];exact hl)
  rw[gj]at b
  refine kF (ia (F.run _ X.stack _ _ ⟨Value.ref e::us,[]⟩ (Value.ref e::us) _ _ E0 (hr.make C us []) (I2.NC.make C us []) b r2 hq) λr s' Nn=>?_)
  cases r with
  | error e=>exact False.elim Nn
  | ok fl=>
   cases fl with
   | ret u=>
    obtain⟨v',H3,I3,rv,rfl,dx,t',Iy,vZ,rfl⟩:=I2.after Nn
    have e3:upd (upd (upd H1 e (.ext (jU e C none t))) e (.ext (jU e C (some dx) t'))) dx (.xd [(fld,v)]) e=some (.ext (jU e C (some dx) t')):=by rw[au vZ.symm,ai]
    have o3:jU e C (some dx) t' s'.heap:=(I3.bz e _ e3).1
    have I4:=Inv.forget I3 e3
    have eh:NQ (upd (upd (upd H1 e (.ext (jU e C none t))) e (.ext (jU e C (some dx) t'))) dx (.xd [(fld,v)])) e=upd H1 dx (.xd [(fld,v)]):=by
     funext b
     by_cases hb:b=e
     ·rw[hb,uE,au vZ.symm,fe]
     ·rw[kl hb]
      by_cases hd:b=dx
      ·rw[hd,ai,ai]
      ·rw[au hd,au hd,au hb,au hb]
    rw[eh]at I4
    refine⟨rv,av (qa (aK ⟨e,some dx,t',rfl,I4.nH,o3,L pins σ _ _ e C (some dx) I4 ⟨fe2 _ (by rw[au vZ.symm];exact fe),_,_,o3,.inl rfl⟩ (q dx Iy)⟩))⟩
   | _=>exact False.elim Nn
end
section
variable {X:Cx}{B:Addr}{x:Str}{np du apos pos pos':Pos}{a b o value:Expr}{t:TA}{ta tv:TE}{fld:Str}
def JT(K:Frag)(t:TA):TE:=λσ H Q=>t σ H λvs H1=>∃e C t0 v,vs=[.ref e,v]/\H1 e=some (.ext (jU e C none t0))/\XC K C/\∀t',Q .non (upd H1 e (.ext (jU e C none t')))
theorem W9{pins:List (Addr×Obj)}{σ:St}{H1:Hp}{s1:Shared}{us:List Value}{vs:List V}{Q:VK}{A:Around}{E:Value->Shared->Prop}(I1:Inv X pins σ H1 s1)(r:Vals vs us)
  (h:∃e C t0 v,vs=[.ref e,v]/\H1 e=some (.ext (jU e C none t0))/\XC X.K C/\∀t',Q .non (upd H1 e (.ext (jU e C none t')))):wpAny (model X.prog X.w) A (call (.builtin "ValueError.__init__") us) (EP X pins σ Q) E s1:=by
 obtain⟨e,C,t0,v,rfl,he,c,q⟩:=h
 obtain⟨u1,u2,rfl,r1,r2⟩:=r.two
 obtain rfl:u1=Value.ref e:=r1
 have o1:s1.heap.get? e=some (Ys C none t0):=(I1.bz e _ he).1
 have e1:(s1.heap.push { cls:=.type "tuple",data:=.seq [u2].toArray }).get? e=some (Ys C none t0):=bN _ o1
 have e2:((s1.heap.push { cls:=.type "tuple",data:=.seq [u2].toArray }).update e (Obj.mapFields (·.setIfInBounds 0 (Value.ref s1.heap.objs.size)))).get? e=some (Ys C none s1.heap.objs.size):=(pL _ e1 rfl).trans rfl
 have k2:∀b ob,b≠e->s1.heap.get? b=some ob->((s1.heap.push { cls:=.type "tuple",data:=.seq [u2].toArray }).update e (Obj.mapFields (·.setIfInBounds 0 (Value.ref s1.heap.objs.size)))).get? b=some ob:=λb ob hb z=>(uV _ _ hb.symm).trans (bN _ z)
 refine N5 I1.nH c.is o1 ?_ (show 1<=sizeLine by decide)
 generalize ((s1.heap.push { cls:=.type "tuple",data:=.seq [u2].toArray }).update e (Obj.mapFields (·.setIfInBounds 0 (Value.ref s1.heap.objs.size))))=h2 at e2 k2 ⊢
 exact⟨.non,_,I1.write (x:=e) (e:=e) (o:=.ext (jU e C none s1.heap.objs.size)) (t':=s1.toks) (by rw[he];trivial) (.inl rfl) (λb ob hb z=>k2 b ob hb z) ⟨_,e2⟩ (Aq e2),rfl,q _⟩
theorem VR{pl:Sem Bool}(hr:PySem.W.readsIn X.K B (.type "type")=true)(hf:PySem.W.findCls X.K (.ref B) (.type "type") "__init__" = some (.val (.builtin "ValueError.__init__")))
  (hs:PySem.W.specialIn X.K (.ref B) "__getattribute__" = some (some (.builtin "type.__getattribute__"))) (hg:Gl X x) (hm:X.mg x=some (.ref B)) (ha:PA X [a,b] t)
  (uB:(x==("__debug__" : Str))=false:=by decide) (Nm:starEach [a,b] X.env=(false,eval a X.env)::starEach [b] X.env:=by rfl) (lO:(backTo du (starEach [b] X.env)).any (·.1)=false:=by rfl)
  (ht:eval (.Call (.Attribute (.Name x np) "__init__" apos) [a,b] [] du) X.env=(do
   let ov <-eval (.Name x np) X.env
   standAt apos.atName
   let (f,first) <-holding [ov] (getMethod ov "__init__" pl)
   callWith du f first (backTo du (starEach [a,b] X.env)) (backToKw du (keywordEach [] X.env))):=by rfl) :
  PE X (.Call (.Attribute (.Name x np) "__init__" apos) [a,b] [] du) (JT X.K t):=by
 intro pins s σ H Q I h
 refine Ak (pl:=pl) (pd I hg hm ?_ uB) ht
 refine PySem.W.method_cls I.nH hs (PySem.W.cls_value I.nH hr hf rfl ?_)
 have I0:Inv X pins σ H { s with toks:=s.toks+1 }:=I.tok _
 show wpAny _ _ (callWith du (.builtin "ValueError.__init__") [] (backTo du (starEach [a,b] X.env)) []) _ _ _
 exact Oz (cT (ha du pins _ σ H _ I0 h) λus s1 ⟨vs,H1,I1,r,q⟩=>W9 I1 r q) Nm lO
def J3(K:Frag)(ta tv:TE)(fld:Str):TS:=λD σ H=>tv σ H λy H1=>ta σ H1 λx H2=>∃e C t,x=.ref e/\H2 e=some (.ext (jU e C none t))/\XC K C/\PySem.W.takerIn K C fld=some none/\
 ∀dx,H2 dx=none->dx≠e->D.nx σ (upd (upd H2 e (.ext (jU e C (some dx) t))) dx (.xd [(fld,y)]))
theorem Vv(ha:PE X o ta)(hv:PE X value tv)(hs:swapsWith value (some (.Attribute o fld pos')) pos.line X.env=pure false):PS X (.Assign [.Attribute o fld pos'] value pos) (J3 X.K ta tv fld):=by
 intro pins s σ H D I h
 refine plainObj_wpAny_Assign_Attribute (cT (hv pins s σ H _ I h) λu s1 ⟨y,H1,I1,ry,q⟩=>cT (ha pins s1 σ H1 _ I1 q) λov s2 ⟨x,H2,I2,rx,e,C,t,ex,he,c,tk,q2⟩=>?_) hs
 subst ex
 obtain rfl:ov=Value.ref e:=rx
 have o2:s2.heap.get? e=some (Ys C none t):=(I2.bz e _ he).1
 refine aCs I2.nH c.is o2 rfl rfl rfl c.sa tk λh' tk' e3 n3 k3=>?_
 have hd:H2 s2.heap.objs.size=none:=I2.bz.fresh (bj _)
 have hde:s2.heap.objs.size≠e:=g6 (bG o2)
 have hdn:s2.heap.get? s2.heap.objs.size=none:=qi (bj _)
 generalize s2.heap.objs.size=dx at e3 n3 hd hde hdn
 have U:∀{b:Addr},b≠e->b≠dx->upd (upd H2 e (.ext (jU e C (some dx) t))) dx (.xd [(fld,y)]) b=H2 b:=λh1 h2=>by rw[au h2,au h1]
 have ne:∀{b:Addr} {z:HO},H2 b=some z->(HO.ext (jU e C none t)≠z)->b≠e:=λz n=>(bh he z n).symm
 have nd:∀{b:Addr} {z:HO},H2 b=some z->b≠dx:=λz y=>by rw[y,hd]at z;cases z
 have nb:∀{b:Addr} {z:Obj},s2.heap.get? b=some z->b≠dx:=λz y=>by rw[y,hdn]at z;cases z
 have nn:∀{b:Addr},H2 b=none->b≠e:=λz y=>by rw[y,he]at z;cases z
 refine⟨σ,_,I2.un (H':=upd (upd H2 e (.ext (jU e C (some dx) t))) dx (.xd [(fld,y)])) (t':=tk') ⟨λb ob z n _ _=>k3 b ob (nn n) z,λb ob z n _ _=>⟨ob.slots,k3 b ob (nn n) z⟩,λb ob z n _=>by rw[U (nn n) (nb z)];exact n,λb ob z _=>?_,λb xs z=>?_,λb ob z' z=>?_,λb ps z=>⟨#[],?_⟩⟩ λb z hz=>?_,q2 dx hd hde⟩
 ·by_cases hb:b=e
  ·rw[hb];exact⟨_,e3⟩
  ·exact⟨ob,k3 b ob hb z⟩
 ·rw[U (ne z (by intro z;cases z)) (nd z)];exact z
 ·rw[U (ne z (by intro z;cases z)) (nd z)];exact z
 ·rw[U (ne z (by intro z;cases z)) (nd z),z];simp
 ·by_cases hb:b=dx
  ·rw[hb,ai]at hz
   cases hz
   rw[hb]
   refine⟨_,n3,λf=>?_⟩
   by_cases hf:f=fld
   ·rw[hf,ay rfl]
    simp only[List.lookup,gF]
    exact ry
   ·rw[aE hf]
    have:(f==fld)=false:=uS.mpr hf
    simp only[List.lookup,this]
    trivial
  ·rw[au hb]at hz
   by_cases Kx:b=e
   ·rw[Kx,ai]at hz
    cases hz
    rw[Kx]
    exact Aq e3
   ·rw[au Kx]at hz
    refine(I2.bz b z hz).stay (λc v hc y=>k3 c v ?_ y) (λc y=>?_) λc xs y=>?_
    ·rcases hc with rfl | hc
     ·exact Kx
     ·exact ne hc (by intro z;cases z)
    ·rw[U (ne y (by intro z;cases z)) (nd y)];exact y
    ·rw[U (ne y (by intro z;cases z)) (nd y)];exact y
end
def XOb(e C:Addr)(dx:Option Addr):Heap->Prop:=λh=>∃vs sl,h.get? e=some ⟨.ref C,dx,.fields vs,sl⟩
section
variable {X:Cx}{pins:List (Addr×Obj)}{σ:St}{H:Hp}{s:Shared}{e C:Addr}{dx:Option Addr}
end
section
variable {X:Cx}{pins QM:List (Addr×Obj)}{σ:St}{H:Hp}{s:Shared}{e:Addr}{xe:Value->Shared->Prop}
end
def Ends.unb(D:Ends)(i:Nat):Ends:={ nx:=λσ H=>D.nx (σ.set i none) H,rt:=D.rt,bk:=λσ H=>D.bk (σ.set i none) H,ct:=λσ H=>D.ct (σ.set i none) H }
def aAU(K:Frag)(i:Nat)(B:Addr)(tb:(St->XK)->TS)(ts:TS):TS:=λD σ H=>∃EH:St->XK,tb EH D σ H/\∀σ' C dx H',EH σ' (.ref C) dx H'->PySem.W.subIn K (.ref C) (.ref B)=some true/\∀e,H' e=none->ts (D.unb i) (σ'.set i (some (.ref e))) (upd H' e (.ext (XOb e C dx)))
section
variable {X:Cx}{B:Addr}{x n:Str}{np aEC pos:Pos}{body suite:List Stmt}{b₀:Stmt}{tb:(St->XK)->TS}{ts:TS}{i:Nat}
end
def TQ(H:Hp)(dx:Option Addr):Prop:=∀d,dx=some d->∃fs,H d=some (.xd fs)
section
variable {X:Cx}{pins:List (Addr×Obj)}{σ:St}{H:Hp}{s:Shared}{e C:Addr}{dx:Option Addr}
def Qy(K:Frag):List V->Hp->VK->Prop:=λvs H Q=>∃e T,vs=[.ref e,.ty T]/\∃C dx,H e=some (.ext (XOb e C dx))/\TQ H dx/\XC K C/\∃b,PySem.W.kitOne K (.ref C) (.type T)=some b/\Q (.bl b) H
def Qz(K:Frag):List V->Hp->VK->Prop:=λvs H Q=>∃e D,vs=[.ref e,.ref D]/\∃C dx,H e=some (.ext (XOb e C dx))/\TQ H dx/\XC K C/\∃b,PySem.W.kitOne K (.ref C) (.ref D)=some b/\Q (.bl b) H
def QB(K:Frag):List V->Hp->VK->Prop:=λvs H Q=>∃e p,vs=[.ref e,.ref p]/\∃Ds:List Addr,H p=some (.tup (Ds.map V.ref))/\∃C dx,H e=some (.ext (XOb e C dx))/\TQ H dx/\XC K C/\∃b,PySem.W.kitAny K (.ref C) (Ds.map Value.ref)=some b/\Q (.bl b) H
def Xo(K:Frag)(ta:TE)(f:Str):TE:=λσ H Q=>ta σ H λx H1=>∃e,x=.ref e/\∃C dx,H1 e=some (.ext (XOb e C (some dx)))/\XC K C/\PySem.W.findIn K (.ref C) f=some none/\∃fs,H1 dx=some (.xd fs)/\∃v,fs.lookup f=some v/\Q v H1
end
section
variable {X:Cx}{N:List Str}{sc:Scope}
variable {k:Nat}{fI C B:Addr}{fd:FuncData}{ps:List Str}{sp:Sp}{EH:St->XK}{x n fld:Str}{np du apos aEC pos pos':Pos}{a b o value:Expr}{t:TA}{te ta tv:TE}{body suite:List Stmt}{b₀:Stmt}{tb:(St->XK)->TS}{ts:TS}
theorem G6(c:XC X.K C)(hi:PySem.W.findIn X.K (.ref C) "__init__" = some (some (.ref fI)))(hf:PySem.W.typeIn X.K (.ref fI)=some (.type "function"))(hk:PySem.W.keepIn X.K (.ref C)=true)
  (F:bX X.prog X.w X.K X.mg X.base gi k fI fd ps (Bb C fld)) (hb:Binds X.K fd ps []) (hr:cJ (k+1) X.A) (hg:Gl X x) (hm:X.mg x=some (.ref C)) (hc:X.calm=true) (L:pY X EH) (ha:ZE X a te)
  (uB:(x==("__debug__" : Str))=false:=by decide) (he:starEach [a] X.env=(false,eval a X.env)::starEach [] X.env:=by rfl) (lO:(backTo du (starEach [] X.env)).any (·.1)=false:=by rfl) :
  ZS X (.Raise (some (.Call (.Name x np) [a] [] du)) none pos) (vO C fld te EH):=⟨Mr c hi hf hk F hb hr hg hm hc L ha.to uB he lO⟩
theorem O6{pl:Sem Bool}(hr:PySem.W.readsIn X.K B (.type "type")=true)(hf:PySem.W.findCls X.K (.ref B) (.type "type") "__init__" = some (.val (.builtin "ValueError.__init__")))
  (hs:PySem.W.specialIn X.K (.ref B) "__getattribute__" = some (some (.builtin "type.__getattribute__"))) (hg:Gl X x) (hm:X.mg x=some (.ref B)) (ha:ZA X [a,b] t)
  (uB:(x==("__debug__" : Str))=false:=by decide) (Nm:starEach [a,b] X.env=(false,eval a X.env)::starEach [b] X.env:=by rfl) (lO:(backTo du (starEach [b] X.env)).any (·.1)=false:=by rfl)
  (ht:eval (.Call (.Attribute (.Name x np) "__init__" apos) [a,b] [] du) X.env=(do
   let ov <-eval (.Name x np) X.env
   standAt apos.atName
   let (f,first) <-holding [ov] (getMethod ov "__init__" pl)
   callWith du f first (backTo du (starEach [a,b] X.env)) (backToKw du (keywordEach [] X.env))):=by rfl) :
  ZE X (.Call (.Attribute (.Name x np) "__init__" apos) [a,b] [] du) (JT X.K t):=⟨VR (pl:=pl) hr hf hs hg hm ha.to uB Nm lO ht⟩
theorem O2(ha:ZE X o ta)(hv:ZE X value tv)(hs:swapsWith value (some (.Attribute o fld pos')) pos.line X.env=pure false):ZS X (.Assign [.Attribute o fld pos'] value pos) (J3 X.K ta tv fld):=⟨Vv ha.to hv.to hs⟩
end
section
variable {X:Cx}
def Xr(neg:Bool):R2:=λx y H Q=>∃p q,x=.ref p/\y=.ref q/\∃xs ys:List Str,H p=some (.tup (List.map V.str xs))/\H q=some (.tup (List.map V.str ys))/\Q (.bl (if neg then !decide (xs=ys) else decide (xs=ys))) H
end
end L2
end
section
namespace L2
open PySem PySem.Spec PySem.W PyProof.Rows
abbrev dQ(o:Obj):HO:=.zF o (.own 0)
def fJ(C:List (Addr×Obj))(H:Hp):Hp:=λb=>match C.lookup b with | some o=>some (dQ o) | none=>H b
def bD(C:List (Addr×Obj))(H:Hp):Hp:=λb=>match C.lookup b with | some _=>none | none=>H b
theorem ku{C:List (Addr×Obj)}{H:Hp}{b:Addr}{o:Obj}(h:C.lookup b=some o):fJ C H b=some (dQ o):=by unfold fJ;rw[h]
theorem cp{C:List (Addr×Obj)}{H:Hp}{b:Addr}(h:C.lookup b=none):fJ C H b=H b:=by unfold fJ;rw[h]
theorem lT{C:List (Addr×Obj)}{H:Hp}{b:Addr}{o:Obj}(h:C.lookup b=some o):bD C H b=none:=by unfold bD;rw[h]
theorem aZ{C:List (Addr×Obj)}{H:Hp}{b:Addr}(h:C.lookup b=none):bD C H b=H b:=by unfold bD;rw[h]
def dP(C:List (Addr×Obj))(H:Hp):Prop:=∀b o,C.lookup b=some o->H b=some (dQ o)
def dN(C:List (Addr×Obj))(H:Hp):Prop:=∀b o,C.lookup b=some o->H b=none
theorem dP.out{C:List (Addr×Obj)}{H:Hp}(p:dP C H){b:Addr}{u:HO}(e:H b=some u)(n:∀o,u≠dQ o):C.lookup b=none:=by
 cases q:C.lookup b with
 | none=>rfl
 | some o=>rw[p b o q]at e;cases e;exact absurd rfl (n o)
theorem dP.Mv{C:List (Addr×Obj)}{H:Hp}(p:dP C H){b:Addr}(e:H b=none):C.lookup b=none:=by
 cases q:C.lookup b with
 | none=>rfl
 | some o=>rw[p b o q]at e;cases e
theorem dN.out{C:List (Addr×Obj)}{H:Hp}(p:dN C H){b:Addr}{u:HO}(e:H b=some u):C.lookup b=none:=by
 cases q:C.lookup b with
 | none=>rfl
 | some o=>rw[p b o q]at e;cases e
theorem dN.added{C:List (Addr×Obj)}{H:Hp}:dP C (fJ C H):=λ_ _ h=>ku h
section
variable {P:Program}{w:World}{H H':Hp}{h h':Heap}{C:List (Addr×Obj)}{fs:List Addr}
theorem _root_.L2.iQ.fJ(x:iQ P w H h)(p:dN C H)(k:∀b o,C.lookup b=some o->h.get? b=some o):iQ P w (fJ C H) h:=λb u e=>by
 cases q:C.lookup b with
 | some o=>rw[ku q]at e;cases e;exact⟨k b o q,o,k b o q⟩
 | none=>
  rw[cp q]at e
  exact(x b u e).stay (λ_ _ _ z=>z) (λc z=>by rw[cp (p.out z)];exact z) λc xs z=>by rw[cp (p.out z)];exact z
theorem _root_.L2.iQ.bD(x:iQ P w H h)(p:dP C H):iQ P w (bD C H) h:=λb u e=>by
 cases q:C.lookup b with
 | some o=>rw[lT q]at e;cases e
 | none=>
  rw[aZ q]at e
  exact(x b u e).stay (λ_ _ _ z=>z) (λc z=>by rw[aZ (p.out z (by intro o n;cases n))];exact z) λc xs z=>by rw[aZ (p.out z (by intro o n;cases n))];exact z
theorem iQ.pins(x:iQ P w H h)(p:dP C H):∀b o,C.lookup b=some o->h.get? b=some o:=λb o q=>(x b _ (p b o q)).1
theorem Un.KQ(u:Un fs [] (fJ C H) H' h h')(x:iQ P w H' h')(p:dN C H)(k:∀b o,C.lookup b=some o->h.get? b=some o):Un fs [] H (bD C H') h h':=by
 have Mt:dP C H':=λb o q=>u.frzs b o _ (ku q)
 have at':∀b o,C.lookup b=some o->h'.get? b=some o:=x.pins Mt
 refine⟨λb o e n hb hx=>?_,λb o e n hb hx=>?_,λb o e n hx=>?_,u.there,λb xs e=>?_,λb o v e=>?_,λb ps e=>?_⟩
 ·cases q:C.lookup b with
  | some o'=>have:=k b o' q;rw[e]at this;cases this;exact at' b o q
  | none=>exact u.keep b o e (by rw[cp q];exact n) hb hx
 ·cases q:C.lookup b with
  | some o'=>have:=k b o' q;rw[e]at this;cases this;exact⟨o.slots,at' b o q⟩
  | none=>exact u.slot b o e (by rw[cp q];exact n) hb hx
 ·cases q:C.lookup b with
  | some o'=>exact lT q
  | none=>rw[aZ q];exact u.free b o e (by rw[cp q];exact n) hx
 ·rw[aZ (p.out e)];exact u.tups b xs (by rw[cp (p.out e)];exact e)
 ·rw[aZ (p.out e)];exact u.frzs b o v (by rw[cp (p.out e)];exact e)
 ·obtain⟨m,z⟩:=u.tbls b ps (by rw[cp (p.out e)];exact e)
  exact⟨m,by rw[aZ (p.out e)];exact z⟩
theorem Un.Lf(u:Un fs [] (bD C H) H' h h')(x:iQ P w H h)(p:dP C H)(nf:∀b o,C.lookup b=some o->b∉fs):Un fs [] H (fJ C H') h h'/\dN C H'/\∀b o,C.lookup b=some o->h'.get? b=some o:=by
 have k:=x.pins p
 refine⟨⟨λb o e n hb hx=>u.keep b o e (by rw[aZ (p.Mv n)];exact n) hb hx,λb o e n hb hx=>u.slot b o e (by rw[aZ (p.Mv n)];exact n) hb hx,λb o e n hx=>?_,u.there,λb xs e=>?_,λb o v e=>?_,λb ps e=>?_⟩,λb o q=>?_,λb o q=>?_⟩
 ·rw[cp (p.Mv n)];exact u.free b o e (by rw[aZ (p.Mv n)];exact n) hx
 ·have q:=p.out e (by intro o n;cases n)
  rw[cp q];exact u.tups b xs (by rw[aZ q];exact e)
 ·cases q:C.lookup b with
  | some o'=>rw[p b o' q]at e;cases e;exact ku q
  | none=>rw[cp q];exact u.frzs b o v (by rw[aZ q];exact e)
 ·have q:=p.out e (by intro o n;cases n)
  obtain⟨m,z⟩:=u.tbls b ps (by rw[aZ q];exact e)
  exact⟨m,by rw[cp q];exact z⟩
 ·exact u.free b o (k b o q) (lT q) (by simp)
 ·exact u.keep b o (k b o q) (lT q) (nf b o q) (by simp)
end
def p7(P:Program)(w:World)(K:PySem.W.Frag)(mg:Str->Option Value)(base:Heap)(k:Nat)(f:Addr)(sp:Sp):Prop:=
 ∀(A:Around) (outer:List Env) (s:Shared) (H:Hp) (us:List Value) (vs:List V) (Q:VK) (E:XK),cJ k A->rz P w K mg base A outer s H->Vals vs us->sp vs H Q E->codeAny (model P w) A (.call (.ref f) ⟨us,[]⟩) (CR gi outer P w H s Q E) s
def Yl(P:Program)(w:World)(K:PySem.W.Frag)(mg:Str->Option Value)(base:Heap)(N:List Str)(qual:Str)(scope:Scope)(f:Addr)(cd:Value)(cl:List (Str×Addr))(A:Around)(outer:List Env)(s:Shared)(H:Hp):Cx where
 prog:=P
 w:=w
 K:=K
 mg:=mg
 base:=base
 A:=A.deeper (envX qual scope s.heap.objs.size f cd cl)
 N:=N
 s₀:=s
 H₀:=H
 env:=envX qual scope s.heap.objs.size f cd cl
 outer:=outer
 stack:=envX qual scope s.heap.objs.size f cd cl::outer
 ex:=[]
 calm:=true
 fn:=λ_=>false
 pn:=[]
 xe:=λ_ _=>False
theorem va{u:Value}{x:Str}:∀{l:List (Str×Value)},(x,u)∈l->(∀v,(x,v)∈l->v=u)->l.lookup x=some u
 | [],h,_=>nomatch h
 | (y,v)::l,h,q=>by
  rw[dF]
  by_cases e:x=y
  ·subst e
   rw[gF]
   show some v=some u
   rw[q v df]
  ·rw[wz e]
   refine va ?_ λv hv=>q v (cV _ hv)
   rcases bJ.mp h with z | z
   ·cases z;exact absurd rfl e
   ·exact z
theorem Ih{ps:List Str}{us:List Value}{i:Nat}{x:Str}{u:Value}(nd:ps.Nodup)(h1:ps[i]?=some x)(h2:us[i]?=some u):(ps.zip us).reverse.lookup x=some u:=by
 have hz:(ps.zip us)[i]?=some (x,u):=by rw[List.getElem?_zip_eq_some];exact⟨h1,h2⟩
 refine va (List.mem_reverse.mpr (j6 hz)) λv hv=>?_
 obtain⟨j,hj⟩:=GF.mp (List.mem_reverse.mp hv)
 rw[List.getElem?_zip_eq_some]at hj
 have:i=j:=xk nd h1 hj.1
 subst this
 rw[h2]at hj
 exact(fw hj.2).symm
def CellsOk(C:List (Addr×Obj))(cl:List (Str×Addr))(fr:List Str)(IW:List V):Prop:=∀(i:Nat) x,fr[i]?=some x->∃c o u v,cl.lookup x=some c/\C.lookup c=some o/\o.data=.cell (some u)/\IW[i]?=some v/\RelV v u
theorem K7{P:Program}{w:World}{K:PySem.W.Frag}{mg:Str->Option Value}{base:Heap}{f:Addr}{qual:Str}{scope:Scope}{cl:List (Str×Addr)}{cd:Value}{ps fr:List Str}{C:List (Addr×Obj)}{IW vs:List V}{us:List Value}{A:Around}{outer:List Env}{s:Shared}{H:Hp}{h₁:Heap}{tk:Tok}
  (kind:scope.kind=.function) (kL:∀x∈scope.names,x.2≠.cell) (nd:(ps++fr).Nodup) (par:∀x∈ps,scope.names.lookup x=some .local) (frk:∀x∈fr,scope.names.lookup x=some .free)
  (has:∀x,scope.names.lookup x=some .free->x∈fr) (uA:∀x c,cl.lookup x=some c->x∈fr) (inj:∀x y c,cl.lookup x=some c->cl.lookup y=some c->x=y)
  (hd:A.handled=none) (e0:rz P w K mg base A outer s H) (r:Vals vs us) (hl:vs.length=ps.length) (hC:dP C H) (lfv:IW.length=fr.length) (Uc:CellsOk C cl fr IW)
  (Ub:h₁.Ns s.heap.objs.size (λx=>(ps.zip us).reverse.lookup x)) (XZ:∀b o,s.heap.get? b=some o->h₁.get? b=some o) :
  Inv (Yl P w K mg base (ps++fr) qual scope f cd cl A outer s (bD C H)) [] ((vs++IW).map some) (bD C H) { s with heap:=h₁,toks:=tk }:=by
 have hk:=e0.bz
 have pins:=hk.pins hC
 have ndP:ps.Nodup:=(wD.mp nd).1
 have cellAt:∀x c,cl.lookup x=some c->∃o u,C.lookup c=some o/\o.data=.cell (some u)/\s.heap.get? c=some o:=λx c e=>by
  obtain⟨i,hi⟩:=GF.mp (uA x c e)
  obtain⟨c2,o,u,v,h1,h2,h3,_⟩:=Uc i x hi
  rw[e]at h1;cases h1
  exact⟨o,u,h2,h3,pins _ _ h2⟩
 have aEE:iQ P w (bD C H) h₁:=(hk.bD hC).kept XZ
 have T7:∀b:Addr,b∉(Yl P w K mg base (ps++fr) qual scope f cd cl A outer s (bD C H)).ex:=λb z=>absurd (show b∈([]:List Addr) from z) (by simp)
 have aBm:∀b,H b=none->bD C H b=none:=λb n=>by rw[aZ (hC.Mv n)];exact n
 refine⟨⟨e0.mod,kind,rfl,rfl,bj _,inj,λy hy=>?_,λy c z _=>absurd (show false=true from z) (by simp),λ_=>hd,Around.frames_deeper e0.frames,.inr ⟨rfl,rfl⟩,λb z=>absurd z (T7 b),λb o e=>⟨(e0.bs b o e).1,aBm b (e0.bs b o e).2⟩,e0.Jr,λb _ _=>T7 b,λb z=>absurd z (T7 b),e0.pD,λb hb=>aBm b (e0.Ot b hb)⟩,
  rfl,e0.bare,Un.kept XZ,⟨_,Ub,λi y v h1 h2 h3=>?_⟩,λy c h=>?_,?_,λy c h=>?_,λp hp=>absurd (show p∈([]:List (Addr×Obj)) from hp) (by simp),aEE,?_⟩
 ·have hy:scope.names.lookup y=some .cell\/scope.names.lookup y=some .free:=hy
  rcases hy with hy | hy
  ·exact absurd rfl (kL _ (fC hy))
  ·obtain⟨i,hi⟩:=GF.mp (has y hy)
   obtain⟨c,_,_,_,e,_⟩:=Uc i y hi
   exact⟨c,e⟩
 ·have h1:(ps++fr)[i]?=some y:=h1
  rw[cM]at h2
  by_cases hi:i<ps.length
  ·rw[lD hi]at h1
   rw[lD (by omega)]at h2
   have ha:vs[i]?=some v:=by
    cases e:vs[i]? with
    | none=>rw[e]at h2;cases h2
    | some a=>rw[e]at h2;cases h2;rfl
   obtain⟨u,Wl,rv⟩:=r.get ha
   exact⟨u,rv,.inl ⟨par y (j6 h1),Ih ndP h1 Wl⟩⟩
  ·rw[jv (by omega)]at h1
   rw[jv (by omega),hl]at h2
   obtain⟨c,o,u,v',e1,e2,e3,e4,e5⟩:=Uc _ y h1
   rw[e4]at h2;cases h2
   exact⟨u,e5,.inr ⟨.inr (frk y (j6 h1)),c,e1,o,XZ _ _ (pins _ _ e2),e3⟩⟩
 ·obtain⟨o,u,_,e3,e4⟩:=cellAt y c h
  exact⟨_,o,XZ _ _ e4,e3⟩
 ·exact(hk.bD hC).fresh (bj _)
 ·obtain⟨o,u,e2,_⟩:=cellAt y c h
  exact lT e2
 ·rw[aM,cS,hl,lfv]
  exact cS.symm
theorem K8{P:Program}{w:World}{K:PySem.W.Frag}{mg:Str->Option Value}{base:Heap}{N:List Str}{f:Addr}{qual:Str}{scope:Scope}{cl:List (Str×Addr)}{cd:Value}{C:List (Addr×Obj)}{A:Around}{outer:List Env}{s s':Shared}{H H':Hp}{σ':St}{Q:VK}{v:V}{u:Value}
  (e0:rz P w K mg base A outer s H) (hC:dP C H) (J:Inv (Yl P w K mg base N qual scope f cd cl A outer s (bD C H)) [] σ' H' s') (rv:RelV v u) (q:Q v (fJ C H')):CE outer P w H s Q u s':=by
 have nf:∀b o,C.lookup b=some o->b∉pU outer:=λb o q z=>by have:=e0.Ot b z;rw[hC b o q]at this;cases this
 obtain⟨un,po,at'⟩:=Un.Lf (H:=H) (h:=s.heap) J.base e0.bz hC nf
 exact⟨v,fJ C H',J.os,J.bare,un,J.bz.fJ po at',rv,q⟩
theorem aAC{P:Program}{w:World}{K:PySem.W.Frag}{mg:Str->Option Value}{base:Heap}{k:Nat}{f c':Addr}{name qual:Str}{params:Arguments}{body:List Stmt}{scope:Scope}{cl:List (Str×Addr)}{doc pm ctv:Value}{fo oc:Obj}{De:Array Value}{tq:Tok}
  {ps fr:List Str} {sp:Sp} (Ol:fo.data=.func (fnX name qual params body scope cl .none .none doc pm none (.ref c') ctv)) (tN:oc.data=.fields De) (hq:De[1]?=some (.str qual tq))
  (kind:scope.kind=.function) (co:scope.isCoroutine=false) (gen:scope.isGenerator=false) (kL:∀x∈scope.names,x.2≠.cell) (nd:(ps++fr).Nodup) (par:∀x∈ps,scope.names.lookup x=some .local) (frk:∀x∈fr,scope.names.lookup x=some .free)
  (has:∀x,scope.names.lookup x=some .free->x∈fr)
  (uA:∀x c,cl.lookup x=some c->x∈fr) (inj:∀x y c,cl.lookup x=some c->cl.lookup y=some c->x=y)
  (Fl:∀us:List Value,us.length=ps.length->bindArgs (fnX name qual params body scope cl .none .none doc pm none (.ref c') ctv) ⟨us,[]⟩=pure (ps.zip us))
  (gx:∀vs H Q E,sp vs H Q E->∃C IW,vs.length=ps.length/\H f=some (dQ fo)/\H c'=some (dQ oc)/\dP C H/\IW.length=fr.length/\CellsOk C cl fr IW/\
   ∀(A:Around) (outer:List Env) (s:Shared),cJ k (A.deeper (envX qual scope s.heap.objs.size f (.ref c') cl))->
   HC (Yl P w K mg base (ps++fr) qual scope f (.ref c') cl A outer s (bD C H)) (ps++fr) scope->
   ∃t,Lg (Yl P w K mg base (ps++fr) qual scope f (.ref c') cl A outer s (bD C H)) body t/\t { nx:=λ_ H'=>Q .non (fJ C H'),rt:=λv H'=>Q v (fJ C H') } ((vs++IW).map some) (bD C H)) :
  p7 P w K mg base (k+1) f sp:=by
 intro A outer s H us vs Q E hr e0 r FW
 obtain⟨C,IW,hl,hf,hc,hC,lfv,Uc,gx⟩:=gx _ _ _ _ FW
 have lim:s.heap.NoLimit:=e0.mod.nolimit.keeps λb o e=>(e0.bs b o e).1
 have hk:=e0.bz
 have hu:us.length=ps.length:=by rw[<-r.length];exact hl
 refine codeAny_call_def (body:=body) (binds:=ps.zip us) hr.depth (hk _ _ hf).1 Ol lim ⟨c',oc,De,tq,rfl,(hk _ _ hc).1,tN,hq⟩ rfl (.of_eq (Fl us hu)) kL (λy hy=>par y.1 (wy (a:=y.1) (b:=y.2) hy).1) (λh₁ Ub XZ=>?_) co gen kind
 obtain⟨t,ht,Nn⟩:=gx A outer s (hr.deeper _) ⟨rfl,rfl⟩
 refine cL (ht.to [] _ _ _ _ (K7 kind kL nd par frk has uA inj hr.hd e0 r hl hC lfv Uc Ub XZ) Nn) (λfl s' hs=>?_) λe s' hs=>False.elim hs
 cases fl with
 | ret u=>
  obtain⟨v,σ',H',J,rv,q⟩:=hs
  exact K8 e0 hC J rv q
 | next=>
  obtain⟨σ',H',J,q⟩:=hs
  exact K8 (v:=V.non) (u:=Value.none) e0 hC J rfl q
 | brk=>
  obtain⟨_,_,_,q⟩:=hs
  exact False.elim q
 | cont=>
  obtain⟨_,_,_,q⟩:=hs
  exact False.elim q
def FnO(H:Hp)(f:Addr):Prop:=∃fo fd,H f=some (dQ fo)/\fo.data=.func fd
theorem FnO.at{P:Program}{w:World}{H:Hp}{h:Heap}{f:Addr}(x:FnO H f)(ok:iQ P w H h):FnAt f h:=by
 obtain⟨fo,fd,e,d⟩:=x
 obtain⟨oc,od,dt,sl⟩:=fo
 have d':dt=.func fd:=d
 subst d'
 exact⟨oc,od,fd,sl,(ok f _ e).1⟩
section
variable {X:Cx}{k:Nat}{f C:Addr}{sp:Sp}{E:XK}{x m:Str}{p pos apos:Pos}{e o:Expr}{es:List Expr}{ta:TE}{t:TA}
theorem J4{pins:List (Addr×Obj)}{σ:St}{H:Hp}{s:Shared}{Q:VK}{us:List Value}{vs:List V}(F:p7 X.prog X.w X.K X.mg X.base k f sp)(hr:cJ k X.A)(I:Inv X pins σ H s)(r:Vals vs us)(h:sp vs H Q E) :
  wpAny (model X.prog X.w) X.A (call (.ref f) us) (EP X pins σ Q) X.xe s:=by
 refine kF (ia (F X.A X.stack s H us vs Q E hr I.NC r h) λr s' hq=>?_)
 cases r with
 | error e=>exact False.elim hq
 | ok fl=>
  cases fl with
  | ret u=>exact I.after hq
  | next=>exact False.elim hq
  | brk=>exact False.elim hq
  | cont=>exact False.elim hq
def Aw(P:Program)(w:World)(K:PySem.W.Frag)(mg:Str->Option Value)(base:Heap)(k:Nat)(tv:TE)(t:TA):TE:=λσ H Q=>tv σ H λx H1=>∃f,x=.ref f/\FnO H1 f/\t σ H1 λvs H2=>FnO H2 f/\∃sp,p7 P w K mg base k f sp/\sp vs H2 Q E0
theorem Q8{tv:TE}(hr:cJ k X.A)(hv:PE X (.Name x p) tv)(ha:PA X (e::es) t)(he:starEach (e::es) X.env=(false,eval e X.env)::starEach es X.env:=by rfl)(lO:(backTo pos (starEach es X.env)).any (·.1)=false:=by rfl) :
  PE X (.Call (.Name x p) (e::es) [] pos) (Aw X.prog X.w X.K X.mg X.base k tv t):=by
 intro pins s σ H Q I h
 refine nU (cT (hv pins s σ H _ I h) λu s1 ⟨v,H1,I1,r1,f,ev,hf,h1⟩=>?_)
 subst ev
 cases r1
 refine callWith_F (hf.at I1.bz) (cT (ha pos pins s1 σ H1 _ I1 h1) λus s2 ⟨vs,H2,I2,r2,hf2,sp,F,q⟩=>⟨hf2.at I2.bz,?_⟩) he lO
 exact J4 F hr I2 r2 q
theorem yN{tv:TE}(hr:cJ k X.A)(hv:ZE X (.Name x p) tv)(ha:ZA X (e::es) t)(he:starEach (e::es) X.env=(false,eval e X.env)::starEach es X.env:=by rfl)(lO:(backTo pos (starEach es X.env)).any (·.1)=false:=by rfl) :
  ZE X (.Call (.Name x p) (e::es) [] pos) (Aw X.prog X.w X.K X.mg X.base k tv t):=⟨Q8 hr hv.to ha.to he lO⟩
end
def BMain(mg:Str->Option Value)(base:Heap):Prop:=∃bm o,mg "__builtins__" = some (.ref bm)/\bm≠builtinsNs/\bm≠mainGlobals/\base.get? bm=some o/\o.cls=.type "module"/\o.dict=some builtinsNs/\o.data=.plain
section
variable {X:Cx}{pins:List (Addr×Obj)}{σ:St}{H:Hp}{s:Shared}{h':Heap}{P c':Addr}{ps more:Array Value}{fo oc:Obj}
def made(H:Hp)(P:Addr)(ps:Array Value)(c':Addr)(oc:Obj)(f:Addr)(fo:Obj):Hp:=upd (upd (upd H P (.qF ps)) c' (dQ oc)) f (dQ fo)
theorem Inv.Xx{t':Nat}(I:Inv X pins σ H s)(hP:H P=some (.qF ps))(hx:Heap.ExtBut P s.heap h')(vg:s.heap.objs.size<=c')(iE:c'<h'.objs.size)(tN:h'.get? c'=some oc)(ht:h'.get? P=some (tabObj (ps++more)))(Cd:fo.isFreed=false) :
  Inv X pins σ (L2.made H P (ps++more) c' oc h'.objs.size fo) { s with heap:=h'.push fo,toks:=t' }:=by
 have aBL:=I.bz.lt hP
 have ncP:c'≠P:=g6 (bW aBL vg)
 have nfP:h'.objs.size≠P:=g6 (Nat.lt_trans (bW aBL vg) iE)
 have ncf:c'≠h'.objs.size:=bf iE
 have at_:∀{b:Addr},b<s.heap.objs.size->b≠P->L2.made H P (ps++more) c' oc h'.objs.size fo b=H b:=λ{b} hb nb=>by
  unfold L2.made
  rw[au (bf (Nat.lt_trans (bW hb vg) iE)),au (bf (bW hb vg)),au nb]
 have keep:∀b o,b≠P->s.heap.get? b=some o->(h'.push fo).get? b=some o:=λb o nb e=>bN _ (hx b o nb e)
 have aAR:(h'.push fo).get? P=some (tabObj (ps++more)):=bN _ ht
 have atP:L2.made H P (ps++more) c' oc h'.objs.size fo P=some (.qF (ps++more)):=by
  unfold L2.made
  rw[au nfP.symm,au ncP.symm,ai]
 refine I.un ⟨λb o e n _ _=>keep b o (λz=>by rw[z,hP]at n;cases n) e,λb o e n _ _=>⟨o.slots,keep b o (λz=>by rw[z,hP]at n;cases n) e⟩,λb o e n _=>?_,λb o e _=>?_,λb xs e=>?_,λb o v e=>?_,λb qs e=>?_⟩ λb u e=>?_
 ·rw[at_ (bG e) (λz=>by rw[z,hP]at n;cases n)];exact n
 ·by_cases nb:b=P
  ·exact⟨_,by rw[nb];exact aAR⟩
  ·exact⟨o,keep b o nb e⟩
 ·rw[at_ (I.bz.lt e) (λz=>by rw[z,hP]at e;cases e)];exact e
 ·rw[at_ (I.bz.lt e) (λz=>by rw[z,hP]at e;cases e)];exact e
 ·by_cases nb:b=P
  ·subst nb
   rw[hP]at e;cases e
   exact⟨more,atP⟩
  ·exact⟨#[],by rw[at_ (I.bz.lt e) nb,e];simp⟩
 ·by_cases h1:b=h'.objs.size
  ·subst h1
   have e':some (dQ fo)=some u:=by rw[<-e];unfold L2.made;exact ai.symm
   cases e'
   exact⟨cC _ Cd,fo,cC _ Cd⟩
  ·by_cases h2:b=c'
   ·subst h2
    have e':some (dQ oc)=some u:=by rw[<-e];unfold L2.made;rw[au ncf];exact ai.symm
    cases e'
    have:(h'.push fo).get? b=some oc:=bN _ tN
    exact⟨this,oc,this⟩
   ·by_cases h3:b=P
    ·subst h3
     rw[atP]at e;cases e
     exact aAR
    ·have e0:H b=some u:=by rw[<-e];unfold L2.made;rw[au h1,au h2,au h3]
     have np:∀c,(c=b\/H c=some (.own b))->c≠P:=λc hc z=>by
      rcases hc with hc | hc
      ·exact h3 (hc ▸ z)
      ·rw[z,hP]at hc;cases hc
     refine(I.bz b u e0).stay (λc v hc q=>keep c v (np c hc) q) (λc q=>?_) λc xs q=>?_
     ·rw[at_ (I.bz.lt q) (λz=>by rw[z,hP]at q;cases q)];exact q
     ·rw[at_ (I.bz.lt q) (λz=>by rw[z,hP]at q;cases q)];exact q
end
section
variable {X:Cx}{c P:Addr}{name qual:Str}{params:Arguments}{body:List Stmt}{scope:Scope}{cl:List (Str×Addr)}{pos:Pos}{i:Nat}
def aCu(P:Addr)(mg:Str->Option Value)(name qual:Str)(params:Arguments)(body:List Stmt)(scope:Scope)(cl:List (Str×Addr))(pos:Pos)(i:Nat):TS:=λD σ H=>∃ps,H P=some (.qF ps)/\TriplesOk ps.toList/\codeAmong pos ps.toList=none/\
 ∀f c' oc vs t ctv doc,H f=none->H c'=none->f≠c'->oc.data=.fields vs->vs[1]?=some (.str qual t)->
  D.nx (σ.set i (some (.ref f))) (made H P (ps ++ #[rawInt pos.line,rawInt pos.col,.ref c']) c' oc f (fnMade name qual params body scope cl doc ((mg "__name__").getD .none) c' ctv))
theorem Zk(kh:X.env.code=.ref c)(hC:CodeHd X.base c P)(hB:BMain X.mg X.base)(hN:X.N.Nodup)(hi:X.N[i]?=some name)(hx:Loc X.env.scope name)(hq:qualnameIn X.env name name=qual)(rC:closureFor scope X.env=pure cl)
  (Kw:params.defaults=[]) (hk0:params.kw_defaults=[]) (ha:annTrees params none X.env=[]) (hf:X.fn name=true\/X.env.scope.names.lookup name=some .local) :
  PS X (.FunctionDef name params body [] none [] scope none name pos) (aCu P X.mg name qual params body scope cl pos i):=by
 intro pins s σ H D I h
 obtain⟨ps,hP,ht,hnf,q⟩:=h
 refine nestDef_K Kw hk0 ha ?_
 rw[hq]
 have hg:=I.mod.glob.keeps I.bk
 have hP':s.heap.get? P=some (tabObj ps):=I.bz _ _ hP
 obtain⟨bm,ob,b1,b2,b3,b4,b5,b6,b7⟩:=hB
 have none_:∀{b:Addr} {o:Obj},X.base.get? b=some o->b≠P:=λ{b o} e z=>by have:=(I.bs _ _ e).2;rw[z,hP]at this;cases this
 have hgP:mainGlobals≠P:=by
  obtain⟨o,_,_,e,_⟩:=I.mod.glob
  exact none_ e
 refine makeFunction_K (mg:=X.mg) rC I.ok.glob hg kh (hC.keeps I.bk) hP' ht hnf hgP ⟨bm,ob,b1,b2,b3,none_ b4,I.bk _ _ b4,b5,b6,b7⟩ λc' ctv doc h' tk vX vg iE aAm htb=>?_
 obtain⟨c2,oc,vs,t,e2,tN,hd,hv⟩:=aAm
 cases e2
 have I2:=I.Xx (fo:=fnMade name qual params body scope cl doc ((X.mg "__name__").getD .none) c' ctv) (t':=tk) hP vX vg iE tN htb rfl
 have fr1:H h'.objs.size=none:=I.bz.fresh (kG (rJ vg iE))
 have fr2:H c'=none:=I.bz.fresh vg
 exact rX (v:=.ref h'.objs.size) I2 hN hi hx rfl (λs' I3=>⟨_,_,I3,q h'.objs.size c' oc vs t ctv doc fr1 fr2 (g6 iE) hd hv⟩) hf
end
def CellsAre(cells:List (Str×Addr))(σ:St)(xs:List (Nat×Str))(C:List (Addr×Obj)):Prop:=∀q∈xs,∃c o u v,cells.lookup q.2=some c/\C.lookup c=some o/\o.data=.cell (some u)/\σ[q.1]?=some (some v)/\RelV v u
section
variable {X:Cx}{pins:List (Addr×Obj)}{σ:St}{H:Hp}{s:Shared}
theorem zK(I:Inv X pins σ H s):∀xs:List (Nat×Str),(∀q∈xs,X.N[q.1]?=some q.2/\X.env.scope.names.lookup q.2=some .cell/\∃v,σ[q.1]?=some (some v))->
  ∃C,(∀b o,C.lookup b=some o->s.heap.get? b=some o/\∃x,X.env.cells.lookup x=some b)/\CellsAre X.env.cells σ xs C
 | [],_=>⟨[],λ_ _ h=>(by cases h),λ_ h=>(nomatch h)⟩
 | q::xs,h=>by
  obtain⟨C,h1,h2⟩:=zK I xs λr hr=>h r (cV _ hr)
  obtain⟨hN,hk,v,hv⟩:=h q df
  obtain⟨m,hn,hl⟩:=I.loc
  obtain⟨u,rv,l⟩:=hl q.1 q.2 v hN hv (.inr (.inl hk))
  have hk':X.env.kindOf q.2=some .cell:=hk
  obtain⟨c,hc,o,ho,hd⟩:∃c,X.env.cells.lookup q.2=some c/\∃o,s.heap.get? c=some o/\o.data=.cell (some u):=by
   rcases l with ⟨z,_⟩ | ⟨_,c,hc,o,ho,hd⟩
   ·rw[hk']at z;cases z
   ·exact⟨c,hc,o,ho,hd⟩
  refine⟨(c,o)::C,λb o' e=>?_,λr hr=>?_⟩
  ·rw[dF]at e
   by_cases hb:b=c
   ·subst hb
    rw[gF]at e
    cases e
    exact⟨ho,q.2,hc⟩
   ·rw[wz hb]at e
    exact h1 b o' e
  ·rcases bJ.mp hr with rfl | hr
   ·exact⟨c,o,u,v,hc,by rw[dF,gF],hd,hv,rv⟩
   ·obtain⟨c2,o2,u2,v2,e1,e2,e3,e4,e5⟩:=h2 r hr
    by_cases hb:c2=c
    ·subst hb
     have:=(h1 c2 o2 e2).1
     rw[ho]at this
     cases this
     exact⟨c2,o,u2,v2,e1,by rw[dF,gF],e3,e4,e5⟩
    ·exact⟨c2,o2,u2,v2,e1,by rw[dF,wz hb];exact e2,e3,e4,e5⟩
variable {C:List (Addr×Obj)}
theorem Inv.Kg(I:Inv X pins σ H s)(h:∀b o,C.lookup b=some o->s.heap.get? b=some o/\∃x,X.env.cells.lookup x=some b):dN C H:=λb o e=>let ⟨x,hx⟩:=(h b o e).2;I.kj x b hx
theorem Inv.aBR(I:Inv X pins σ H s)(Si:∀x,X.fn x=true)(h:∀b o,C.lookup b=some o->s.heap.get? b=some o/\∃x,X.env.cells.lookup x=some b):rz X.prog X.w X.K X.mg X.base X.A X.stack s (fJ C H):=by
 have e:=I.NC
 have big:∀b o,C.lookup b=some o->X.s₀.heap.objs.size<=b:=λb o q=>let ⟨x,hx⟩:=(h b o q).2;I.ok.cab x b (Si x) hx
 refine⟨e.frames,e.mod,λb o q=>⟨(e.bs b o q).1,?_⟩,e.Jr,e.pD,λb hb=>?_,I.bz.fJ (I.Kg h) λb o q=>(h b o q).1,e.bare⟩
 ·cases z:C.lookup b with
  | none=>rw[cp z];exact(e.bs b o q).2
  | some o'=>exact absurd (bW (bG q) (cQ I.ok.Jr (big b o' z))) (g7 _)
 ·cases z:C.lookup b with
  | none=>rw[cp z];exact e.Ot b hb
  | some o'=>
   obtain⟨x,hx⟩:=(h b o' z).2
   rcases bJ.mp (I.n6 b hb) with y | y
   ·exact absurd y (I.Ym x b hx)
   ·obtain⟨_,ob,ho,_⟩:=I.ok.pD.mem y
    exact absurd (bW (bG ho) (big b o' z)) (g7 _)
end
section
variable {X:Cx}{k:Nat}{f:Addr}{fd:FuncData}{ps:List Str}{sp:Sp}{EH:St->XK}{x:Str}{p pos:Pos}{e:Expr}{es:List Expr}{t:TA}
def Ax(cells:List (Str×Addr))(xs:List (Nat×Str))(sp:Sp)(EH:St->XK)(t:TA):TE:=λσ H Q=>t σ H λvs H1=>(∀q∈xs,∃v,σ[q.1]?=some (some v))/\
 ∀C,CellsAre cells σ xs C->dN C H1->sp vs (fJ C H1) (λv H'=>Q v (bD C H')) (λc dx H'=>EH σ c dx (bD C H'))
theorem Vb{xs:List (Nat×Str)}{pins:List (Addr×Obj)}{σ:St}{H:Hp}{s:Shared}{Q:VK}{us:List Value}{vs:List V}(F:bX X.prog X.w X.K X.mg X.base (JL X.prog X.w) k f fd ps sp)(hr:cJ k X.A)(hb:Binds X.K fd ps [])(hx:pY X EH)(Si:∀x,X.fn x=true)
  (hxs:∀q∈xs,X.N[q.1]?=some q.2/\X.env.scope.names.lookup q.2=some .cell)
  (I:Inv X pins σ H s) (r:Vals vs us) (hv:∀q∈xs,∃v,σ[q.1]?=some (some v)) (h:∀C,CellsAre X.env.cells σ xs C->dN C H->sp vs (fJ C H) (λv H'=>Q v (bD C H')) (λc dx H'=>EH σ c dx (bD C H'))) :
  wpAny (model X.prog X.w) X.A (call (.ref f) us) (EP X pins σ Q) X.xe s:=by
 obtain⟨C,h1,h2⟩:=zK I xs λq hq=>⟨(hxs q hq).1,(hxs q hq).2,hv q hq⟩
 have po:=I.Kg h1
 have at_:∀b o,C.lookup b=some o->s.heap.get? b=some o:=λb o q=>(h1 b o q).1
 have h:=h C h2 po
 have hl:us.length=ps.length:=by rw[<-r.length];exact F.len _ _ _ _ h
 have b:=hb s us I.nH (by rw[gj];exact hl)
 rw[gj]at b
 refine kF (ia (F.run X.A X.stack s (fJ C H) ⟨us,[]⟩ us vs _ _ hr (I.aBR Si h1) b r h) λr s' hq=>?_)
 cases r with
 | error e=>
  obtain⟨e,c,dx,H',rfl,os,bare,un,bz,xa,q⟩:=hq
  have Mt:dP C H':=λb o q=>un.frzs b o _ (ku q)
  refine hx.pass I ⟨e,c,dx,bD C H',rfl,os,bare,un.KQ bz po at_,bz.bD Mt,xa.mono λb hb=>⟨hb.1,?_⟩,q⟩
  rw[aZ (Mt.Mv hb.2)];exact hb.2
 | ok fl=>
  cases fl with
  | ret u=>
   obtain⟨v,H',os,bare,un,bz,r',q⟩:=hq
   have Mt:dP C H':=λb o q=>un.frzs b o _ (ku q)
   exact I.after ⟨v,bD C H',os,bare,un.KQ bz po at_,bz.bD Mt,r',q⟩
  | _=>exact False.elim hq
theorem Q9{xs:List (Nat×Str)}{cells:List (Str×Addr)}(rC:X.env.cells=cells)(F:bX X.prog X.w X.K X.mg X.base (JL X.prog X.w) k f fd ps sp)(hr:cJ k X.A)(hg:Gl X x)(hm:X.mg x=some (.ref f))(hk:PySem.W.keepIn X.K (.ref f)=true)(hb:Binds X.K fd ps [])(hx:pY X EH)(Si:∀x,X.fn x=true)
  (hxs:∀q∈xs,X.N[q.1]?=some q.2/\X.env.scope.names.lookup q.2=some .cell)
  (ha:PA X (e::es) t) (uB:(x==("__debug__" : Str))=false:=by decide) (he:starEach (e::es) X.env=(false,eval e X.env)::starEach es X.env:=by rfl) (lO:(backTo pos (starEach es X.env)).any (·.1)=false:=by rfl) :
  PE X (.Call (.Name x p) (e::es) [] pos) (Ax cells xs sp EH t):=by
 subst rC
 intro pins s σ H Q I h
 refine nU (pd I hg hm ?_ uB)
 exact wH (h₀:=X.base) I.ok.mod.kin hk (cT (ha pos pins s σ H _ I h) λus s1 ⟨vs,H1,I1,r,hv,q⟩=>⟨I1.nH,Vb F hr hb hx Si hxs I1 r hv q⟩) he lO
theorem yO{xs:List (Nat×Str)}{cells:List (Str×Addr)}(rC:X.env.cells=cells)(F:bX X.prog X.w X.K X.mg X.base (JL X.prog X.w) k f fd ps sp)(hr:cJ k X.A)(hg:Gl X x)(hm:X.mg x=some (.ref f))(hk:PySem.W.keepIn X.K (.ref f)=true)(hb:Binds X.K fd ps [])(hx:pY X EH)(Si:∀x,X.fn x=true)
  (hxs:∀q∈xs,X.N[q.1]?=some q.2/\X.env.scope.names.lookup q.2=some .cell)
  (ha:ZA X (e::es) t) (uB:(x==("__debug__" : Str))=false:=by decide) (he:starEach (e::es) X.env=(false,eval e X.env)::starEach es X.env:=by rfl) (lO:(backTo pos (starEach es X.env)).any (·.1)=false:=by rfl) :
  ZE X (.Call (.Name x p) (e::es) [] pos) (Ax cells xs sp EH t):=⟨Q9 rC F hr hg hm hk hb hx Si hxs ha.to uB he lO⟩
end
theorem zQ{C:List (Addr×Obj)}{H:Hp}(p:dN C H):bP H (fJ C H):=λb o e=>by rw[cp (p.out e)];exact e
def Li(ts:List (Addr×Addr))(H:Hp):Prop:=∀q∈ts,H q.2=some (.qF #[])
theorem M7{P:Program}{w:World}{K:PySem.W.Frag}{mg mb:Str->Option Value}{CX:Lq}{k:Nat}{fa a:Addr}{fd:FuncData}{x:Str}{sp:Sp}{s₁:Shared}{vs:List Value}{ns:List Int}{ts:List (Addr×Addr)}
  (hT:TabsAt ts s₁.heap) (hKt:∀q∈ts,K.lookup q.2=none) (hB:BMain mg s₁.heap)
  (KX:K.In s₁.heap) (Ub:s₁.heap.Ns mainGlobals mg) (hb:s₁.heap.Ns builtinsNs mb) (hbb:∀x:Str,x≠"__name__"->mb x=bootBuiltins x) (Fh:s₁.heap.NoLimit) (hg:s₁.gens = #[])
  (ha:s₁.heap.get? a=some { cls:=.type "list",data:=.seq vs.toArray }) (hi:IntsAre vs ns) (hl:ns.length<=sizeLine) (hr:cJ k callerA)
  (F:∀base:Heap,K.In base->base.Ns mainGlobals mg->BMain mg base->bX P w K mg base CX k fa fd [x] sp) (Fl:∀(s:Shared) (u:Value),BindsTo s fd ⟨[u],[]⟩ [(x,u)])
  (FW:∀H:Hp,Li ts H->rE K H a (ns.map V.int)->sp [.ref a] H (λv _=>v=.bl true) λ_ _ _=>False)
  (hCX:∀H e s',CX [] H s₁ (λ_ _ _=>False) e s'->False) :
  codeAny (model P w) callerA (.call (.ref fa) ⟨[.ref a],[]⟩) (λr s'=>r=.ok (.ret (.bool true))/\OldK s₁.heap s'.heap/\s'.os=s₁.os/\AllBare s'.gens) s₁:=by
 have rv:=ua hi
 have aD5:=hi.length
 have core:∀H:Hp,Li ts H->rE K H a (ns.map V.int)->iQ P w H s₁.heap->(∀b,H b≠none->b=a\/b∈ts.map (·.2))->(∀b u,H b=some u->(∃o xs,u=.zF o (.lst xs))\/(b∈ts.map (·.2)/\u=.qF #[]))->(H a≠none->K.lookup a=none)->
   codeAny (model P w) callerA (.call (.ref fa) ⟨[.ref a],[]⟩) (λr s'=>r=.ok (.ret (.bool true))/\OldK s₁.heap s'.heap/\s'.os=s₁.os/\AllBare s'.gens) s₁:=by
  intro H hO hS bz hA hU hK
  have Cu:∀{b:Addr} {o:Obj},s₁.heap.get? b=some o->H b=none->(yv s₁.heap H).get? b=some o:=λe n=>Se e n
  have aBx:∀{b:Addr},b∈ts.map (·.2)->s₁.heap.get? b=some (tabObj #[]):=λ{b} h=>by
   obtain⟨q,hq,rfl⟩:=eU.mp h
   exact(hT q hq).2
  have T7:∀{b:Addr} {o:Obj},s₁.heap.get? b=some o->(o.cls≠.none\/∃es ep,o.data=.dict es ep)->b≠a->H b=none:=λ{b o} e d nb=>by
   cases q:H b with
   | none=>rfl
   | some u=>
    rcases hA b (by rw[q];simp) with z | z
    ·exact absurd z nb
    ·rw[aBx z]at e;cases e
     rcases d with d | ⟨es,ep,d⟩
     ·exact absurd rfl d
     ·cases d
  have neA:∀{b:Addr} {o:Obj} {es:Array DictEntry} {ep:Nat},s₁.heap.get? b=some o->o.data=.dict es ep->b≠a:=λ{b o es ep} e d z=>by
   subst z
   rw[ha]at e;cases e
   have d':Data.seq vs.toArray _=Data.dict es ep:=d
   cases d'
  have nsK:∀{b:Addr} {m:Str->Option Value},s₁.heap.Ns b m->(yv s₁.heap H).Ns b m:=λ{b m} ⟨o,es,ep,e,d,r⟩=>⟨o,es,ep,Cu e (T7 e (.inr ⟨es,ep,d⟩) (neA e d)),d,r⟩
  have hKb:K.In (yv s₁.heap H):=λb o e=>Cu (KX b o e) (by
   cases q:H b with
   | none=>rfl
   | some u=>
    rcases hA b (by rw[q];simp) with z | z
    ·subst z
     rw[hK (by rw[q];simp)]at e;cases e
    ·obtain⟨r,hr',rfl⟩:=eU.mp z
     rw[hKt r hr']at e;cases e)
  have hM:Mod K mg (yv s₁.heap H):=⟨hKb,nsK Ub,⟨mb,nsK hb,hbb⟩,let ⟨mc,h1,h2⟩:=Fh;⟨mc,nsK h1,h2⟩⟩
  have hBb:BMain mg (yv s₁.heap H):=by
   obtain⟨bm,o,b1,b2,b3,b4,b5,b6,b7⟩:=hB
   have nb:bm≠a:=λz=>by
    rw[z,ha]at b4;cases b4
    have b7':Data.seq vs.toArray _=Data.plain:=b7
    cases b7'
   exact⟨bm,o,b1,b2,b3,Cu b4 (T7 b4 (.inl (by rw[b5];intro z;cases z)) nb),b5,b6,b7⟩
  have e0:rz P w K mg (yv s₁.heap H) callerA [] s₁ H:=⟨rfl,hM,λb o e=>V7 e,Nat.le_of_eq (Nr _ _),trivial,λb hb=>absurd (show b∈([]:List Addr) from hb) (by simp),bz,.of_eq hg⟩
  refine ia ((F _ hKb (nsK Ub) hBb).run callerA [] s₁ H ⟨[.ref a],[]⟩ [.ref a] [.ref a] _ _ hr e0 (Fl s₁ (.ref a)) (.cons rfl .nil) (FW H hO hS)) λr s' h=>?_
  cases r with
  | error e=>exact(hCX H e s' h).elim
  | ok fl=>
   cases fl with
   | next=>exact False.elim h
   | brk=>exact False.elim h
   | cont=>exact False.elim h
   | ret u=>
    obtain⟨v,H',os,bare,un,aBB,r',q⟩:=h
    have q':v=.bl true:=q
    subst q'
    obtain rfl:u=Value.bool true:=r'
    have each:∀b o,s₁.heap.get? b=some o->asItWas s₁.heap s'.heap b o/\∃o',s'.heap.get? b=some o':=λb o e=>by
     cases q:H b with
     | none=>
      have:=un.keep b o e q (by intro z;exact absurd (show b∈([]:List Addr) from z) (by simp)) (by simp)
      exact⟨.inl this,o,this⟩
     | some u=>
      rcases hU b u q with ⟨ob,xs,rfl⟩ | ⟨hm,rfl⟩
      ·have z2:=un.frzs b ob _ q
       obtain⟨e1,_⟩:=bz b _ q
       obtain⟨e2,_⟩:=aBB b _ z2
       rw[e]at e1;cases e1
       exact⟨.inl e2,_,e2⟩
      ·obtain⟨r,hr',rfl⟩:=eU.mp hm
       obtain⟨more,z2⟩:=un.tbls _ _ q
       have e2:s'.heap.get? r.2=some (tabObj (#[]++more)):=aBB _ _ z2
       have e3:=(hT r hr').2
       rw[e]at e3;cases e3
       exact⟨.inr (.inl ⟨((hT r hr').1.tab (hT r hr').2).isCodeTable,rfl,#[],more,rfl,e2⟩),_,e2⟩
    exact⟨rfl,⟨λb o e=>(each b o e).1,λb o e=>(each b o e).2⟩,os,bare⟩
 have naT:a∉ts.map (·.2):=λz=>by
  obtain⟨q,hq,e⟩:=eU.mp z
  have:=(hT q hq).2
  rw[e,ha]at this;cases this
 have aAS:∀(H1:Hp),(∀b,b∈ts.map (·.2)->H1 b=some (.qF #[]))->Li ts H1:=λH1 h q hq=>h _ (wI hq)
 have Xm:∀b,b∈ts.map (·.2)->s₁.heap.get? b=some (tabObj #[]):=λb h=>by
  obtain⟨q,hq,rfl⟩:=eU.mp h
  exact(hT q hq).2
 cases hk:K.lookup a with
 | some o=>
  have e:=KX a o hk
  rw[ha]at e
  cases e
  refine core (λb=>if b∈ts.map (·.2) then some (.qF #[]) else none) (aAS _ λb hb=>ay hb) (.inr ⟨_,vs.toArray,_,hk,rfl,rfl,rfl,by rw[bS,aD5];exact hl,by simpa using rv⟩) (λb u z=>?_) (λb z=>?_) (λb u z=>?_) λz=>absurd (aE naT) z
  ·by_cases hb:b∈ts.map (·.2)
   ·have z':=(ay hb).symm.trans z
    cases z';exact Xm b hb
   ·have z':=(aE hb).symm.trans z
    cases z'
  ·by_cases hb:b∈ts.map (·.2)
   ·exact .inr hb
   ·exact absurd (aE hb) z
  ·by_cases hb:b∈ts.map (·.2)
   ·have z':=(ay hb).symm.trans z
    cases z';exact .inr ⟨hb,rfl⟩
   ·have z':=(aE hb).symm.trans z
    cases z'
 | none=>
  let H0:Hp:=λb=>if b=a then some (.zF { cls:=.type "list",data:=.seq vs.toArray } (.lst (ns.map V.int))) else if b∈ts.map (·.2) then some (.qF #[]) else none
  have x9:H0 a=some (.zF { cls:=.type "list",data:=.seq vs.toArray } (.lst (ns.map V.int))):=ay rfl
  have atT:∀b,b∈ts.map (·.2)->H0 b=some (.qF #[]):=λb hb=>(aE (λz:b=a=>naT (by rw[<-z];exact hb))).trans (ay hb)
  have atN:∀b,b≠a->b∉ts.map (·.2)->H0 b=none:=λb h1 h2=>(aE h1).trans (aE h2)
  refine core H0 (aAS _ atT) (.inl (.inr ⟨{ cls:=.type "list",data:=.seq vs.toArray },x9⟩)) (λb u z=>?_) (λb z=>?_) (λb u z=>?_) λ_=>hk
  ·by_cases hb:b=a
   ·subst hb
    rw[x9]at z;cases z
    exact⟨ha,by rw[aM];exact hl,vs,_,rv,ha⟩
   ·by_cases hm:b∈ts.map (·.2)
    ·rw[atT b hm]at z;cases z;exact Xm b hm
    ·rw[atN b hb hm]at z;cases z
  ·by_cases hb:b=a
   ·exact .inl hb
   ·by_cases hm:b∈ts.map (·.2)
    ·exact .inr hm
    ·exact absurd (atN b hb hm) z
  ·by_cases hb:b=a
   ·subst hb
    rw[x9]at z;cases z
    exact .inl ⟨_,_,rfl⟩
   ·by_cases hm:b∈ts.map (·.2)
    ·rw[atT b hm]at z;cases z;exact .inr ⟨hm,rfl⟩
    ·rw[atN b hb hm]at z;cases z
theorem O9{l:PySem.W.OpenLaw}{n k:Nat}{q:Program}{loose:List Str}{XP:(Str->Option Value)->Heap->Prop}{YP:World->Heap->Prop}{d:DefRec}{K:Params->PySem.W.Frag}{CX:World->Lq}{sp:World->Sp}{x:Str}{ts:List (Addr×Addr)}
  (hn:l.most=some n) (Oj:n<=sizeLine) (hdf:d.params.defaults=[]) (hr:cJ k callerA)
  (hY:∀(w:World) (h:Heap),YP w h->(K w.params).In h/\∀q∈ts,h.get? q.2=some (tabObj #[]))
  (hCd:∀w:World,∀q∈ts,codeHdIn (K w.params) q.1 q.2=true/\(K w.params).lookup q.2=none)
  (F:∀(w:World) (mg:Str->Option Value) (fa:Addr) (h:Heap),(K w.params).In h->h.Ns mainGlobals mg->mg d.name=some (.ref fa)->
   ∃fd:FuncData,(∀(s:Shared) (u:Value),BindsTo s fd ⟨[u],[]⟩ [(x,u)])/\
    ∀base:Heap,(K w.params).In base->base.Ns mainGlobals mg->BMain mg base->bX l.prog w (K w.params) mg base (CX w) k fa fd [x] (sp w))
  (FW:∀(w:World) (H:Hp) (a:Addr) (ns:List Int),ns.length<=n->Li ts H->rE (K w.params) H a (ns.map V.int)->sp w [.ref a] H (λv _=>v=.bl true) λ_ _ _=>False)
  (hCX:∀(w:World) (H:Hp) (s:Shared) (e:Value) (s':Shared),CX w [] H s (λ_ _ _=>False) e s'->False) :
  PySem.W.WalkO q loose XP YP l.row.toRowW d [] (λf vs=>PySem.call f vs):=by
 refine Att.FJ hn hdf λw s₀ s₁ mg mb fa o pm cd doc a vs ns G Y ho hd yw hmg aAr hints hlen hg=>?_
 obtain⟨KX,hP⟩:=hY w _ Y
 obtain⟨fd,hb,hF⟩:=F w mg fa _ KX G.T.g hmg
 have hB:BMain mg s₁.heap:=by
  obtain⟨bm,ob,b1,b2,b3,b4,b5,b6⟩:=G.T.bmain
  refine⟨bm,ob,b1,b2,λz=>?_,b3,b4,b5,b6⟩
  obtain⟨o,es,ep,e,dd,_⟩:=G.T.g
  rw[z,e]at b3;cases b3
  rw[dd]at b6;cases b6
 exact M7 (λq hq=>⟨codeHd_of_K KX (hCd w q hq).1,hP q hq⟩) (λq hq=>(hCd w q hq).2) hB KX G.T.g G.T.b G.T.builtins G.T.nolimit hg aAr hints (cQ hlen Oj) hr hF hb (λH hO hS=>FW w H a ns hlen hO hS) λH e s'=>hCX w H s₁ e s'
def Qs:List V->Hp->VK->Prop:=λvs H Q=>∃a,vs=[.ref a]/\∃ns:List Int,H a=some (.lst (List.map V.int ns))/\Q (.int ns.sum) H
theorem Ez:∀{ns:List Int} {its:List Value},Vals (List.map V.int ns) its->IntsAre its ns
 | [],[],_=>.nil
 | n::ns,u::its,.cons r rs=>by
  obtain⟨t,rfl⟩:=(r:∃t,u=.int n t)
  exact .cons n t (Ez rs)
section
variable {X:Cx}
theorem N2(hh:X.A.handled=none):fz X (.builtin "sum") Qs:=by
 intro pins s σ H vs us Q I rv h
 obtain⟨a,rfl,ns,hq,q⟩:=h
 obtain⟨u,rfl,ru⟩:=vals1 rv
 cases ru
 obtain⟨its,r,pl,hz⟩:=I.list (aX hq)
 have hi:=Ez r
 obtain⟨xs,hx⟩:=hi.allInts.items
 have hl':s.heap.IsList a (intItems xs):=hx ▸ pl.isList
 refine sum_intListG hh hl' λh' tk t' hk=>?_
 have e1:ns=xs.toList.map (·.1):=by
  rw[<-nums_intItems,<-hx]
  exact(show numsOf its.toArray.toList=ns from hi.numsOf).symm
 have e2:preSum (numAt xs) xs.size=ns.sum:=by
  rw[preSum_eq,t6 (by simp),e1]
 rw[e2]
 exact⟨.int ns.sum,H,I.kept hk,⟨_,rfl⟩,q⟩
end
theorem sZ{env:Env}{ad:Str->Addr}:∀(ns:List (Str×NameKind)) (acc:List (Str×Addr)),(∀x,(x,NameKind.free)∈ns->env.cells.lookup x=some (ad x))->
  (forIn ns acc λq cs=>match q with | (name,kind)=>if (kind == .free)=true then do let c <-cellOf env name;pure PUnit.unit;pure (ForInStep.yield ((name,c)::cs)) else do pure PUnit.unit;pure (ForInStep.yield cs):Sem (List (Str×Addr))) =
   pure (((ns.filter λq=>q.2 == .free).map λq=>(q.1,ad q.1)).reverse++acc)
 | [],acc,_=>rfl
 | (x,k)::ns,acc,h=>by
  rw[List.forIn_cons]
  have ih:=sZ (env:=env) (ad:=ad) ns
  by_cases e:k=.free
  ·subst e
   have hx:=h x df
   have hc:cellOf env x=pure (ad x):=by unfold cellOf;rw[hx]
   simp only[hc,pure_bind,gF,gB]
   rw[ih _ λy hy=>h y (cV _ hy)]
   simp
  ·have e':(k==NameKind.free)=false:=wz e
   simp only[e',ja,fu,pure_bind]
   rw[ih _ λy hy=>h y (cV _ hy)]
   simp[e]
theorem pV{scope:Scope}{env:Env}{ad:Str->Addr}(h:∀x,(x,NameKind.free)∈scope.names->env.cells.lookup x=some (ad x)):closureFor scope env=pure ((scope.names.filter λq=>q.2 == .free).map λq=>(q.1,ad q.1)).reverse:=by
 have:=sZ (ad:=ad) scope.names [] h
 rw[gj]at this
 unfold closureFor
 simp only[bind_pure]
 exact this
theorem qN{ad:Str->Addr}{x:Str}:∀(l:List Str),(l.map λx=>(x,ad x)).lookup x=if x∈l then some (ad x) else none
 | []=>rfl
 | y::l=>by
  rw[dZ,dF]
  by_cases e:x=y
  ·subst e;rw[gF,ay df]
  ·rw[wz e,qN l]
   by_cases h:x∈l
   ·rw[ay h,ay (cV _ h)]
   ·rw[aE h,aE (λz=>(bJ.mp z).elim e h)]
def freeOf(sc:Scope):List Str:=(sc.names.filter λq=>q.2 == .free).map (·.1)
section
variable {X:Cx}{N:List Str}{sc:Scope}{c P:Addr}{name qual:Str}{params:Arguments}{body:List Stmt}{scope:Scope}{pos:Pos}{fr:List Str}
def JS(P:Addr)(mg:Str->Option Value)(name qual:Str)(params:Arguments)(body:List Stmt)(scope:Scope)(pos:Pos)(i:Nat)(cells:List (Str×Addr))(fr:List Str):TS:=λD σ H=>∃ps,H P=some (.qF ps)/\TriplesOk ps.toList/\codeAmong pos ps.toList=none/\
 ∀cl f c' oc vs t ctv doc,(∀x∈fr,∃c,cells.lookup x=some c/\cl.lookup x=some c)->(∀x c,cl.lookup x=some c->x∈fr)->(∀x y c,cl.lookup x=some c->cl.lookup y=some c->x=y)->H f=none->H c'=none->f≠c'->oc.data=.fields vs->vs[1]?=some (.str qual t)->
  D.nx (σ.set i (some (.ref f))) (made H P (ps ++ #[rawInt pos.line,rawInt pos.col,.ref c']) c' oc f (fnMade name qual params body scope cl doc ((mg "__name__").getD .none) c' ctv))
theorem Vt(hc:HC X N sc)(nd:N.Nodup)(hf:∀x,X.fn x=true)(i:Nat)(h:Oe N sc i name=true)(kh:X.env.code=.ref c)(hC:CodeHd X.base c P)(hB:BMain X.mg X.base)(hq:qualnameIn X.env name name=qual)(Cd:freeOf scope=fr)(hce:∀x∈fr,sc.names.lookup x=some .cell)
  (Kw:params.defaults=[]) (hk0:params.kw_defaults=[]) (ha:annTrees params none X.env=[]) :
  PS X (.FunctionDef name params body [] none [] scope none name pos) (JS P X.mg name qual params body scope pos i X.env.cells fr):=by
 intro pins s σ H D I hw
 obtain⟨hN,hx⟩:=jx hc h
 have has:∀x∈fr,∃c,X.env.cells.lookup x=some c:=λx hx=>I.ok.has x (.inl (show X.env.scope.names.lookup x=some .cell by rw[hc.s];exact hce x hx))
 have had:∀x∈fr,X.env.cells.lookup x=some ((X.env.cells.lookup x).getD 0):=λx hx=>by
  obtain⟨c,e⟩:=has x hx
  rw[e];rfl
 have mem:∀x,(x,NameKind.free)∈scope.names->x∈fr:=λx hx=>by
  rw[<-Cd]
  exact eU.mpr ⟨(x,.free),cx.mpr ⟨hx,rfl⟩,rfl⟩
 have rC:=pV (scope:=scope) (env:=X.env) (ad:=λx=>(X.env.cells.lookup x).getD 0) λx hx=>had x (mem x hx)
 have ecl:((scope.names.filter λq=>q.2 == .free).map λq=>(q.1,(X.env.cells.lookup q.1).getD 0)).reverse=(freeOf scope).reverse.map λx=>(x,(X.env.cells.lookup x).getD 0):=by
  unfold freeOf
  rw[<-wB,<-wB,fY]
  rfl
 rw[ecl,Cd]at rC
 have lk:∀x,(fr.reverse.map λx=>(x,(X.env.cells.lookup x).getD 0)).lookup x=if x∈fr then some ((X.env.cells.lookup x).getD 0) else none:=λx=>by
  rw[qN];simp
 have inF:∀x c,(fr.reverse.map λx=>(x,(X.env.cells.lookup x).getD 0)).lookup x=some c->x∈fr:=λx c e=>by
  rw[lk]at e
  by_cases hx:x∈fr
  ·exact hx
  ·rw[aE hx]at e;cases e
 have eqF:∀x c,(fr.reverse.map λx=>(x,(X.env.cells.lookup x).getD 0)).lookup x=some c->X.env.cells.lookup x=some c:=λx c e=>by
  have hx:=inF x c e
  rw[lk,ay hx]at e
  rw[had x hx];exact e
 obtain⟨ps,hP,ht,hnf,q⟩:=hw
 exact Zk kh hC hB (by rw[hc.n];exact nd) hN hx hq rC Kw hk0 ha (.inl (hf name)) pins s σ H D I ⟨ps,hP,ht,hnf,λf c' oc vs t ctv doc=>q _ f c' oc vs t ctv doc
  (λx hx=>⟨_,had x hx,by rw[lk,ay hx]⟩) inF λx y c e1 e2=>I.ok.inj x y c (eqF x c e1) (eqF y c e2)⟩
theorem O0(hc:HC X N sc)(nd:N.Nodup)(hf:∀x,X.fn x=true)(i:Nat)(h:Oe N sc i name=true)(kh:X.env.code=.ref c)(hC:CodeHd X.base c P)(hB:BMain X.mg X.base)(hq:qualnameIn X.env name name=qual)(Cd:freeOf scope=fr)(hce:∀x∈fr,sc.names.lookup x=some .cell)
  (Kw:params.defaults=[]) (hk0:params.kw_defaults=[]) (ha:annTrees params none X.env=[]) :
  ZS X (.FunctionDef name params body [] none [] scope none name pos) (JS P X.mg name qual params body scope pos i X.env.cells fr):=⟨Vt hc nd hf i h kh hC hB hq Cd hce Kw hk0 ha⟩
end
theorem jV.aBq{P:Program}{w:World}{K:PySem.W.Frag}{mg:Str->Option Value}{base:Heap}{x qual:Str}{st:Stmt}{f:Addr}{fd:FuncData}{N ps:List Str}{k:Nat}{sp:Sp}(F:jV K x qual st f fd)(S:aU N ps (ag st))(len:∀vs H Q E,sp vs H Q E->vs.length=ps.length)
  (gx:∀(dc:Value) (A:Around) (outer:List Env) (s:Shared) (H:Hp) (vs:List V) (Q:VK) (E:XK),fd.code=dc->cJ k (A.deeper (envOfC qual (ag st) s.heap.objs.size f dc))->sp vs H Q E->
   HC (gQ gi P w K mg base N qual (ag st) f dc A outer s H E).x6 N (ag st)->(∀x,(gQ gi P w K mg base N qual (ag st) f dc A outer s H E).x6.fn x=true)->
   ∃t,Lg (gQ gi P w K mg base N qual (ag st) f dc A outer s H E).x6 (aN st) t/\t { nx:=λ_ H'=>Q .non H',rt:=Q } (start N vs) H):bX P w K mg base gi (k+1) f fd ps sp:=by
 obtain⟨oc,od,kV,doc,pm,an,dc,ct,Ki,rfl,lk,yw⟩:=F.ex
 refine SM lk yw S len λA outer s H vs Q E hr FW=>?_
 obtain⟨t,h,q⟩:=gx dc A outer s H vs Q E rfl hr FW ⟨rfl,rfl⟩ λ_=>rfl
 exact⟨t,h.to.x6,q⟩
theorem RG{X:Cx}:pY X λ_=>E0:=λ_ _ _ _ _ _ _ _ _ h=>h.elim
theorem RZ{X:Cx}{N:List Str}{sc:Scope}{xs:List (Nat×Str)}(hc:HC X N sc)(h:(xs.all λq=>N[q.1]? == some q.2&&sc.names.lookup q.2==some .cell)=true):∀q∈xs,X.N[q.1]?=some q.2/\X.env.scope.names.lookup q.2=some .cell:=λq hq=>by
 have:=j3.mp h q hq
 simp only[dv,beq_iff_eq]at this
 rw[hc.n,hc.s];exact this
theorem bX.toE{P:Program}{w:World}{K:PySem.W.Frag}{mg:Str->Option Value}{base:Heap}{k:Nat}{f:Addr}{fd:FuncData}{ps:List Str}{sp:Sp}(F:bX P w K mg base gi k f fd ps sp):bX P w K mg base (JL P w) k f fd ps sp:=
 ⟨F.len,λA outer s H args us vs Q E hr he hb hv hs=>ia (F.run A outer s H args us vs Q E hr he hb hv hs) λr s' h=>by
  cases r with
  | error e=>exact False.elim h
  | ok fl=>cases fl <;> exact h⟩
section
variable {X:Cx}{pins:List (Addr×Obj)}{σ:St}{H:Hp}{s:Shared}{A:Around}{E:Value->Shared->Prop}{a C dx:Addr}{fs:List (Str×V)}{v:V}
theorem Sv{m:Str}{pl:Sem Bool}{Q:Value×List Value->Shared->Prop}(I:Inv X pins σ H s)(e:H a=some (.ins C dx fs))(c:Cls X.K C)(n:jr X.K C m)(l:fs.lookup m=some v)
  (h:∀u s',Inv X pins σ H s'->RelV v u->Q (u,[]) s'):wpAny (model X.prog X.w) A (getMethod (.ref a) m pl) Q E s:=by
 obtain⟨mA,O,r,_,_,_⟩:=sU I.bz e
 obtain⟨od,J,hl⟩:=O.look
 exact method_usual (r:=none) I.nH J (plainGet_of (c.get m)).1 (plainGet_of (c.get m)).2 n rfl (xI I e c n l λu s' I' ru=>h u s' I' ru)
variable {k:Nat}{m:Str}{p pos apos:Pos}{e o:Expr}{es:List Expr}{ta:TE}{t:TA}
def Ay(K':PySem.W.Frag)(P:Program)(w:World)(K:PySem.W.Frag)(mg:Str->Option Value)(base:Heap)(k:Nat)(m:Str)(ta:TE)(t:TA):TE:=λσ H Q=>ta σ H λx H1=>∃a C dx fs f,x=.ref a/\H1 a=some (.ins C dx fs)/\Cls K' C/\jr K' C m/\fs.lookup m=some (.ref f)/\FnO H1 f/\
 t σ H1 λvs H2=>FnO H2 f/\∃sp,p7 P w K mg base k f sp/\sp vs H2 Q E0
theorem Ra{pl:Sem Bool}(hr:cJ k X.A)(he:PE X o ta)(ha:PA X (e::es) t)
  (Nm:starEach (e::es) X.env=(false,eval e X.env)::starEach es X.env:=by rfl) (lO:(backTo pos (starEach es X.env)).any (·.1)=false:=by rfl)
  (ht:eval (.Call (.Attribute o m apos) (e::es) [] pos) X.env=(do
   let ov <-eval o X.env
   standAt apos.atName
   let (f,first) <-holding [ov] (getMethod ov m pl)
   callWith pos f first (backTo pos (starEach (e::es) X.env)) (backToKw pos (keywordEach [] X.env))):=by rfl) :
  PE X (.Call (.Attribute o m apos) (e::es) [] pos) (Ay X.K X.prog X.w X.K X.mg X.base k m ta t):=by
 intro pins s σ H Q I h
 refine Ak (pl:=pl) (cT (he pins s σ H _ I h) λu s1 ⟨x,H1,I1,rx,a,C,dx,fs,f,ex,ea,c,n,l,hf,q⟩=>?_) ht
 subst ex
 obtain rfl:u=Value.ref a:=rx
 refine Sv I1 ea c n l λu s' I' ru=>?_
 obtain rfl:u=Value.ref f:=ru
 refine callWith_F (hf.at I'.bz) (cT (ha pos pins s' σ H1 _ I' q) λus s2 ⟨vs,H2,I2,r2,hf2,sp,F,q2⟩=>⟨hf2.at I2.bz,?_⟩) Nm lO
 exact J4 F hr I2 r2 q2
theorem Lw{pl:Sem Bool}(hr:cJ k X.A)(he:ZE X o ta)(ha:ZA X (e::es) t)
  (Nm:starEach (e::es) X.env=(false,eval e X.env)::starEach es X.env:=by rfl) (lO:(backTo pos (starEach es X.env)).any (·.1)=false:=by rfl)
  (ht:eval (.Call (.Attribute o m apos) (e::es) [] pos) X.env=(do
   let ov <-eval o X.env
   standAt apos.atName
   let (f,first) <-holding [ov] (getMethod ov m pl)
   callWith pos f first (backTo pos (starEach (e::es) X.env)) (backToKw pos (keywordEach [] X.env))):=by rfl) :
  ZE X (.Call (.Attribute o m apos) (e::es) [] pos) (Ay X.K X.prog X.w X.K X.mg X.base k m ta t):=⟨Ra hr he.to ha.to Nm lO ht⟩
end
section
variable {X:Cx}{N:List Str}{sc:Scope}{c P:Addr}{qual:Str}{params:Arguments}{body:Expr}{scope:Scope}{pos:Pos}{fr:List Str}
def Ln(cells cl:List (Str×Addr))(fr:List Str):Prop:=(∀x∈fr,∃c,cells.lookup x=some c/\cl.lookup x=some c)/\(∀x c,cl.lookup x=some c->x∈fr)/\∀x y c,cl.lookup x=some c->cl.lookup y=some c->x=y
def Uu(P:Addr)(mg:Str->Option Value)(qual:Str)(params:Arguments)(body:Expr)(scope:Scope)(pos:Pos)(cells:List (Str×Addr))(fr:List Str):TE:=λ_ H Q=>∃ps,H P=some (.qF ps)/\TriplesOk ps.toList/\
 ((codeAmong pos ps.toList=none/\∀cl f c' oc vs t ctv,Ln cells cl fr->H f=none->H c'=none->f≠c'->oc.data=.fields vs->vs[1]?=some (.str qual t)->
  Q (.ref f) (made H P (ps ++ #[rawInt pos.line,rawInt pos.col,.ref c']) c' oc f (kla_obj "<lambda>" qual params body scope cl ((mg "__name__").getD .none) c' ctv)))\/
 ∃c',codeAmong pos ps.toList=some (.ref c')/\∀cl f ctv,Ln cells cl fr->H f=none->Q (.ref f) (upd H f (dQ (kla_obj "<lambda>" qual params body scope cl ((mg "__name__").getD .none) c' ctv))))
theorem VH(hc:HC X N sc)(kh:X.env.code=.ref c)(hC:CodeHd X.base c P)(hB:BMain X.mg X.base)(hq:X.env.qual ++ "<lambda>" = qual)(Cd:freeOf scope=fr)(hce:∀x∈fr,sc.names.lookup x=some .cell)(Kw:defaultsOf params X.env=([],[])) :
  PE X (.Lambda params body scope pos) (Uu P X.mg qual params body scope pos X.env.cells fr):=by
 intro pins s σ H Q I hw
 have has:∀x∈fr,∃c,X.env.cells.lookup x=some c:=λx hx=>I.ok.has x (.inl (show X.env.scope.names.lookup x=some .cell by rw[hc.s];exact hce x hx))
 have had:∀x∈fr,X.env.cells.lookup x=some ((X.env.cells.lookup x).getD 0):=λx hx=>by
  obtain⟨c,e⟩:=has x hx
  rw[e];rfl
 have mem:∀x,(x,NameKind.free)∈scope.names->x∈fr:=λx hx=>by
  rw[<-Cd]
  exact eU.mpr ⟨(x,.free),cx.mpr ⟨hx,rfl⟩,rfl⟩
 have rC:=pV (scope:=scope) (env:=X.env) (ad:=λx=>(X.env.cells.lookup x).getD 0) λx hx=>had x (mem x hx)
 have ecl:((scope.names.filter λq=>q.2 == .free).map λq=>(q.1,(X.env.cells.lookup q.1).getD 0)).reverse=(freeOf scope).reverse.map λx=>(x,(X.env.cells.lookup x).getD 0):=by
  unfold freeOf
  rw[<-wB,<-wB,fY]
  rfl
 rw[ecl,Cd]at rC
 have lk:∀x,(fr.reverse.map λx=>(x,(X.env.cells.lookup x).getD 0)).lookup x=if x∈fr then some ((X.env.cells.lookup x).getD 0) else none:=λx=>by
  rw[qN];simp
 have inF:∀x c,(fr.reverse.map λx=>(x,(X.env.cells.lookup x).getD 0)).lookup x=some c->x∈fr:=λx c e=>by
  rw[lk]at e
  by_cases hx:x∈fr
  ·exact hx
  ·rw[aE hx]at e;cases e
 have eqF:∀x c,(fr.reverse.map λx=>(x,(X.env.cells.lookup x).getD 0)).lookup x=some c->X.env.cells.lookup x=some c:=λx c e=>by
  have hx:=inF x c e
  rw[lk,ay hx]at e
  rw[had x hx];exact e
 have la:Ln X.env.cells (fr.reverse.map λx=>(x,(X.env.cells.lookup x).getD 0)) fr:=⟨λx hx=>⟨_,had x hx,by rw[lk,ay hx]⟩,inF,λx y c e1 e2=>I.ok.inj x y c (eqF x c e1) (eqF y c e2)⟩
 obtain⟨ps,hP,ht,h⟩:=hw
 refine kla_eval Kw ?_
 rw[hq]
 have hg:=I.mod.glob.keeps I.bk
 have hP':s.heap.get? P=some (tabObj ps):=I.bz _ _ hP
 obtain⟨bm,ob,b1,b2,b3,b4,b5,b6,b7⟩:=hB
 have none_:∀{b:Addr} {o:Obj},X.base.get? b=some o->b≠P:=λ{b o} e z=>by have:=(I.bs _ _ e).2;rw[z,hP]at this;cases this
 have hgP:mainGlobals≠P:=by
  obtain⟨o,_,_,e,_⟩:=I.mod.glob
  exact none_ e
 rcases h with ⟨hnf,q⟩ | ⟨c',hf,q⟩
 ·refine kla_makeFunction (mg:=X.mg) rC I.ok.glob hg kh (hC.keeps I.bk) hP' ht hnf hgP ⟨bm,ob,b1,b2,b3,none_ b4,I.bk _ _ b4,b5,b6,b7⟩ λc' ctv h' tk vX vg iE aAm htb=>?_
  obtain⟨c2,oc,vs,t,e2,tN,hd,hv⟩:=aAm
  cases e2
  have I2:=I.Xx (fo:=kla_obj "<lambda>" qual params body scope (fr.reverse.map λx=>(x,(X.env.cells.lookup x).getD 0)) ((X.mg "__name__").getD .none) c' ctv) (t':=tk) hP vX vg iE tN htb rfl
  exact⟨.ref h'.objs.size,_,I2,rfl,q _ h'.objs.size c' oc vs t ctv la (I.bz.fresh (kG (rJ vg iE))) (I.bz.fresh vg) (g6 iE) hd hv⟩
 ·refine kla_makeFunctionHit (mg:=X.mg) rC I.ok.glob hg kh (hC.keeps I.bk) hP' ht hf ⟨bm,ob,b1,b2,b3,none_ b4,I.bk _ _ b4,b5,b6,b7⟩ λctv h' tk hk hsz=>?_
  have at_:(h'.push (kla_obj "<lambda>" qual params body scope (fr.reverse.map λx=>(x,(X.env.cells.lookup x).getD 0)) ((X.mg "__name__").getD .none) c' ctv)).get? h'.objs.size=some (kla_obj "<lambda>" qual params body scope (fr.reverse.map λx=>(x,(X.env.cells.lookup x).getD 0)) ((X.mg "__name__").getD .none) c' ctv):=cC _ rfl
  have I2:=I.laid (a:=h'.objs.size) (o:=dQ (kla_obj "<lambda>" qual params body scope (fr.reverse.map λx=>(x,(X.env.cells.lookup x).getD 0)) ((X.mg "__name__").getD .none) c' ctv)) (t':=tk) (h':=h'.push (kla_obj "<lambda>" qual params body scope (fr.reverse.map λx=>(x,(X.env.cells.lookup x).getD 0)) ((X.mg "__name__").getD .none) c' ctv)) (λb u e=>bN _ (hk b u e)) hsz ⟨at_,_,at_⟩
  exact⟨.ref h'.objs.size,_,I2,rfl,q _ h'.objs.size ctv la (I.bz.fresh hsz)⟩
theorem O4(hc:HC X N sc)(kh:X.env.code=.ref c)(hC:CodeHd X.base c P)(hB:BMain X.mg X.base)(hq:X.env.qual ++ "<lambda>" = qual)(Cd:freeOf scope=fr)(hce:∀x∈fr,sc.names.lookup x=some .cell)(Kw:defaultsOf params X.env=([],[])) :
  ZE X (.Lambda params body scope pos) (Uu P X.mg qual params body scope pos X.env.cells fr):=⟨VH hc kh hC hB hq Cd hce Kw⟩
end
theorem Tj{P:Program}{w:World}{K:PySem.W.Frag}{mg:Str->Option Value}{base:Heap}{N:List Str}{f:Addr}{qual:Str}{scope:Scope}{cl:List (Str×Addr)}{cd:Value}{C:List (Addr×Obj)}{A:Around}{outer:List Env}{s s':Shared}{H H':Hp}{σ':St}{Q:VK}{v:V}{u:Value}
  (e0:rz P w K mg base A outer s H) (hC:dP C H) (J:Inv (Yl P w K mg base N qual scope f cd cl A outer s (bD C H)) [] σ' H' s') (rv:RelV v u) (q:dN C H'->Q v (fJ C H')):CE outer P w H s Q u s':=by
 have nf:∀b o,C.lookup b=some o->b∉pU outer:=λb o q z=>by have:=e0.Ot b z;rw[hC b o q]at this;cases this
 obtain⟨un,po,at'⟩:=Un.Lf (H:=H) (h:=s.heap) J.base e0.bz hC nf
 exact⟨v,fJ C H',J.os,J.bare,un,J.bz.fJ po at',rv,q po⟩
theorem W5{P:Program}{w:World}{K:PySem.W.Frag}{mg:Str->Option Value}{base:Heap}{k:Nat}{f c':Addr}{name qual:Str}{params:Arguments}{body:Expr}{scope:Scope}{cl:List (Str×Addr)}{pm ctv:Value}{fo oc:Obj}{De:Array Value}{tq:Tok}
  {ps fr:List Str} {sp:Sp} (Ol:fo.data=.func (kla_fn name qual params body scope cl pm (.ref c') ctv)) (tN:oc.data=.fields De) (hq:De[1]?=some (.str qual tq))
  (kind:scope.kind=.function) (co:scope.isCoroutine=false) (gen:scope.isGenerator=false) (kL:∀x∈scope.names,x.2≠.cell) (nd:(ps++fr).Nodup) (par:∀x∈ps,scope.names.lookup x=some .local) (frk:∀x∈fr,scope.names.lookup x=some .free)
  (has:∀x,scope.names.lookup x=some .free->x∈fr)
  (uA:∀x c,cl.lookup x=some c->x∈fr) (inj:∀x y c,cl.lookup x=some c->cl.lookup y=some c->x=y)
  (Fl:∀us:List Value,us.length=ps.length->bindArgs (kla_fn name qual params body scope cl pm (.ref c') ctv) ⟨us,[]⟩=pure (ps.zip us))
  (gx:∀vs H Q E,sp vs H Q E->∃C IW,vs.length=ps.length/\H f=some (dQ fo)/\H c'=some (dQ oc)/\dP C H/\IW.length=fr.length/\CellsOk C cl fr IW/\
   ∀(A:Around) (outer:List Env) (s:Shared),cJ k (A.deeper (envX qual scope s.heap.objs.size f (.ref c') cl))->
   HC (Yl P w K mg base (ps++fr) qual scope f (.ref c') cl A outer s (bD C H)) (ps++fr) scope->
   ∃t,ZE (Yl P w K mg base (ps++fr) qual scope f (.ref c') cl A outer s (bD C H)) body t/\t ((vs++IW).map some) (bD C H) λv H'=>dN C H'->Q v (fJ C H')) :
  p7 P w K mg base (k+1) f sp:=by
 intro A outer s H us vs Q E hr e0 r FW
 obtain⟨C,IW,hl,hf,hc,hC,lfv,Uc,gx⟩:=gx _ _ _ _ FW
 have lim:s.heap.NoLimit:=e0.mod.nolimit.keeps λb o e=>(e0.bs b o e).1
 have hk:=e0.bz
 have hu:us.length=ps.length:=by rw[<-r.length];exact hl
 refine kla_callFunE (body:=body) hr.depth (hk _ _ hf).1 Ol co gen rfl ⟨c',oc,De,tq,rfl,(hk _ _ hc).1,tN,hq⟩ ?_
 rw[Fl us hu]
 refine aK (wpAny_newFunctionEnv kL (λy hy=>par y.1 (wy (a:=y.1) (b:=y.2) hy).1) (λh₁ Ub hsb=>⟨lim.fresh _ hsb,kla_codeExpr ?_⟩) kind)
 have XZ:∀b o,s.heap.get? b=some o->h₁.get? b=some o:=λb o e=>hsb.extBut b o (bf (bG e)) (bN _ e)
 obtain⟨t,ht,Nn⟩:=gx A outer s (hr.deeper _) ⟨rfl,rfl⟩
 refine cL (ht.to [] _ _ _ _ (K7 kind kL nd par frk has uA inj hr.hd e0 r hl hC lfv Uc Ub XZ) Nn) (λu s' ⟨v,H',J,rv,q⟩=>Tj e0 hC J rv q) λe s' hs=>False.elim hs
end L2
end
section
namespace L2
open PySem PySem.Spec PySem.W PyProof.Rows Builtin
theorem QL{α:Type}{l:List α}{p:Array Nat}{d:α}(hp:vF p l.length):(p.toList.map λi=>l.getD i d).Perm l:=by
 have h1:p.toList.Perm (List.range l.length):=by simpa using v9.mp hp.perm
 have h2:=h1.map λi=>l.getD i d
 have e:(List.range l.length).map (λi=>l.getD i d)=l:=by
  apply rG
  intro i
  rw[cM]
  by_cases hi:i<l.length
  ·rw[List.getElem?_range hi,bq hi]
   simp[gH,bq hi]
  ·rw[lB (by simpa using hi),lB (by lia)]
   rfl
 rwa [e]at h2
theorem TJ{α:Type}{l:List α}{p:Array Nat}{d:α}{R:α->α->Bool}(hp:vF p l.length)(O:Ord (λi j=>R (l.getD i d) (l.getD j d)) l.length)(a:FV (λi j=>R (l.getD i d) (l.getD j d)) p l.length):(p.toList.map λi=>l.getD i d).Pairwise λx y=>R x y=true:=by
 rw[Ac,uZ]
 intro i j hi hj Sd
 have hs:=hp.size
 rw[cZ]at hi hj
 have:=FV.lt O hp (by lia) a (bj _) Sd (by lia)
 have e:∀k (hk:k<p.size),x9 p k=p.toList[k]'(by simpa using hk):=λk hk=>by
  unfold x9
  rw[jw,dG hk]
  simp
 rw[e i hi,e j hj]at this
 exact this
section
variable {prog:Program}{w:World}{A:Around}{E:Value->Shared->Prop}{s:Shared}
end
section
variable {X:Cx}{pins:List (Addr×Obj)}{s:Shared}{σ:St}{H:Hp}{A:Around}
theorem y8:∀{l:List Addr} {us:List Value},Vals (List.map V.ref l) us->us=l.map Value.ref
 | [],_,.nil=>rfl
 | a::l,_,.cons r1 r2=>by rw[y8 r2,r1];rfl
theorem rO:∀l:List Addr,Vals (List.map V.ref l) (List.map Value.ref l)
 | []=>.nil
 | a::l=>.cons rfl (rO l)
end
end L2
end
section
namespace L2
open PySem PySem.Spec PySem.W PyProof.Rows
section
variable {prog:Program}{w:World}{A:Around}{E:Value->Shared->Prop}{s:Shared}
theorem yp{a:Addr}{vs:List Value}{n:Nat}{κ:SortKind}{b:Nat->Nat->Bool}{P:PySem.Fin->Shared->Prop}(ho:s.heap.get? a=some (seqObj "list" vs.toArray n))(hB:vs.length<=100000)(inj:∀i j,i<vs.length->j<vs.length->vs.getD i Value.none=vs.getD j Value.none->i=j)(O:Ord b vs.length)
  (hk:∀h',(∀c o,c≠a->s.heap.get? c=some o->h'.get? c=some o)->2<=vs.length->wpAny (model prog w) A (keyKind' vs.toArray) (λk s'=>k=κ/\s'={ s with heap:=h' }) (λ_ _=>False) { s with heap:=h' })
  (hc:∀h',(∀c o,c≠a->s.heap.get? c=some o->h'.get? c=some o)->∀i j C,i<vs.length->j<vs.length->C (b i j) { s with heap:=h' }->kas_ask prog w A κ vs i j C { s with heap:=h' })
  (h:∀p,vF p vs.length->FV b p vs.length->P (.done (.ret .none)) { s with heap:=sortedHeap s.heap a vs (p.toList.map λi=>vs.getD i Value.none).toArray }) :
  wpAny (model prog w) A (Builtin.«list.sort» ⟨[.ref a],[]⟩) P E s:=by
 rw[list_sort_plain]
 have ha:a<s.heap.objs.size:=bG ho
 have sb:=nV s.heap a (Obj.mapSeq λ_=>(#[]:Array Value))
 obtain⟨e1,ho1⟩:∃e1,(s.heap.update a (Obj.mapSeq λ_=>(#[]:Array Value))).get? a=some (seqObj "list" #[] e1):=⟨_,get?_update_seq ho λ_=>#[]⟩
 have hsz:vs.toArray.size=vs.length:=by simp
 refine av (listItems_at ho rfl ?_)
 refine av (p9 ho rfl ?_ (by rw[hsz,mn];lia) (de _))
 refine av (seqEpoch_at ho1 rfl ?_)
 refine av (wpAny_newTuple ?_ (by show vs.length<=_;rw[mn];lia))
 refine av (wm ?_ (de _))
 refine js ?_
 have ho6:(((s.heap.update a (Obj.mapSeq λ_=>(#[]:Array Value))).push (seqObj "tuple" vs.toArray 0)).push (seqObj "list" #[] 0)).get? a=some (seqObj "list" #[] e1):=bN _ (bN _ ho1)
 have keep:∀c o,c≠a->s.heap.get? c=some o->(((s.heap.update a (Obj.mapSeq λ_=>(#[]:Array Value))).push (seqObj "tuple" vs.toArray 0)).push (seqObj "list" #[] 0)).get? c=some o:=λc o nc e=>
  bN _ (bN _ ((sb.2 c nc).trans e))
 show wpAny (model prog w) A _ P E { s with heap:=((s.heap.update a (Obj.mapSeq λ_=>(#[]:Array Value))).push (seqObj "tuple" vs.toArray 0)).push (seqObj "list" #[] 0) }
 dsimp only
 by_cases h2:vs.toArray.size<2
 ·rw[ay h2,ay h2]
  refine av (aK ?_)
  rw[StateT.run_pure]
  refine av (aK ?_)
  dsimp only
  refine av (seqEpoch_at ho6 rfl ?_)
  have hp:vF (List.toArray (List.range vs.length)) vs.length:=⟨Array.Perm.refl _⟩
  have R8:(arrOf (SortSt.mk' general' (vs.toArray.zip vs.toArray) #[] 7 none)).map (·.2)=((List.toArray (List.range vs.length)).toList.map λi=>vs.getD i Value.none).toArray:=by
   have z:=kat_snds (ks:=vs) (vs:=vs) rfl (st:=SortSt.mk' general' (vs.toArray.zip vs.toArray) #[] 7 none) (p:=List.toArray (List.range vs.length)) (by
    have e:=kas_range (vs.toArray.zip vs.toArray)
    rw[show(vs.toArray.zip vs.toArray).size=vs.length by simp]at e
    exact e.symm)
   exact z
  rw[R8]
  refine av (p9 ho6 rfl ?_ (de _) (by
   have z:(((List.toArray (List.range vs.length)).toList.map λi=>vs.getD i Value.none).toArray).size<=sizeLine:=by rw[mn];simp;lia
   exact tX z))
  simp only[Gm,ja,fu]
  exact aK (h _ hp λi hi=>by lia)
 ·rw[aE h2,aE h2]
  have Ug:2<=vs.length:=by lia
  refine av (cL (hk _ keep Ug) (λk s' ⟨e2,e3⟩=>?_) λ_ _ x=>x.elim)
  subst e2 e3
  have Wj:∀i,i<vs.length->kas_item (vs.toArray.zip vs.toArray) i=(vs.getD i Value.none,vs.getD i Value.none):=λi hi=>by
   unfold kas_item
   rw[jw,dG (by simpa using hi),Option.getD_some,Array.getElem_zip,gH,bq hi]
   simp
  have hit:(vs.toArray.zip vs.toArray).toList=(List.range vs.length).map (kas_item (vs.toArray.zip vs.toArray)):=by
   have e:=kas_range (vs.toArray.zip vs.toArray)
   rw[show(vs.toArray.zip vs.toArray).size=vs.length by simp]at e
   have e2:=fD Array.toList e
   rw[nO,uR]at e2
   exact e2.symm
  refine av (cL (DN (item:=kas_item (vs.toArray.zip vs.toArray)) (n:=vs.length) (b:=b) (λi j hi hj e=>by rw[Wj i hi,Wj j hj]at e;exact inj i j hi hj (Prod.mk.inj e).1) O Ug (λi j Q hi hj hQ=>by rw[Wj i hi,Wj j hj];exact hc _ keep i j Q hi hj hQ) hit) ?_ λ_ _ e=>e)
  rintro⟨⟨⟩,bC⟩ s' ⟨rfl,p,hp,aEN,har,hf⟩
  dsimp only
  have R8:=kat_snds rfl har
  rw[R8]
  refine av (seqEpoch_at ho6 rfl ?_)
  refine av (p9 ho6 rfl ?_ (de _) (by
   have z:((p.toList.map λi=>vs.getD i Value.none).toArray).size<=sizeLine:=by rw[mn,bS,aM,cZ,hp.size];lia
   exact tX z))
  rw[hf]
  simp only[Gm,ja,fu]
  exact aK (h p hp aEN)
theorem Hh{l:Addr}{vs:List Value}{κ:SortKind}{b:Nat->Nat->Bool}{Q:Value->Shared->Prop}(hl:s.heap.IsList l vs.toArray)(hB:vs.length<=100000)(inj:∀i j,i<vs.length->j<vs.length->vs.getD i Value.none=vs.getD j Value.none->i=j)(O:Ord b vs.length)
  (hk:∀h',(∀c o,s.heap.get? c=some o->h'.get? c=some o)->2<=vs.length->wpAny (model prog w) A.in1.in1 (keyKind' vs.toArray) (λk s'=>k=κ/\s'={ s with heap:=h' }) (λ_ _=>False) { s with heap:=h' })
  (hc:∀h',(∀c o,s.heap.get? c=some o->h'.get? c=some o)->∀i j C,i<vs.length->j<vs.length->C (b i j) { s with heap:=h' }->kas_ask prog w A.in1.in1 κ vs i j C { s with heap:=h' })
  (h:∀p,vF p vs.length->FV b p vs.length->Q (.ref (s.heap.objs.size+1)) { s with heap:=sortedAll s.heap vs (p.toList.map λi=>vs.getD i Value.none).toArray }) :
  wpAny (model prog w) A (call (.builtin "sorted") [.ref l]) Q E s:=by
 refine Calls.call_function_entry kind_sorted plain_sorted entry_sorted (args_sorted1 _) ?_
 unfold Builtin.«sorted»
 refine av (m:=checkCount "sorted" 1 1 _) (aK ?_)
 refine av (collect_list hl ?_ (by rw[mn];lia))
 refine av (wm ?_ (by rw[mn];lia))
 have hsz:((s.heap.push (seqObj "list" #[] 0)).update s.heap.objs.size (Obj.mapSeq (· ++ vs.toArray))).objs.size=s.heap.objs.size+1:=by
  rw[Heap.size_update,size_push']
 have Np:(((s.heap.push (seqObj "list" #[] 0)).update s.heap.objs.size (Obj.mapSeq (· ++ vs.toArray))).push (seqObj "list" vs.toArray 0)).get? (s.heap.objs.size+1)=some (seqObj "list" vs.toArray 0):=by
  rw[<-hsz];exact cC _ rfl
 have keep:∀b o,s.heap.get? b=some o->b≠s.heap.objs.size+1/\(((s.heap.push (seqObj "list" #[] 0)).update s.heap.objs.size (Obj.mapSeq (· ++ vs.toArray))).push (seqObj "list" vs.toArray 0)).get? b=some o:=λb o q=>by
  have iE:b<s.heap.objs.size:=bG q
  refine⟨bf (pJ iE),?_⟩
  rw[Heap.get?_push_ne _ _ _ (by rw[hsz];exact bf (pJ iE)),Heap.get?_update_ne _ _ _ _ (bf iE),Heap.get?_push_ne _ _ _ (bf iE)]
  exact q
 show wpAny _ _ _ _ _ { s with heap:=((s.heap.push (seqObj "list" #[] 0)).update s.heap.objs.size (Obj.mapSeq (· ++ vs.toArray))).push (seqObj "list" vs.toArray 0) }
 rw[hsz]
 refine av (js (nL slot_list_sort ⟨_,Np,rfl⟩ entry_list_sort (yp (κ:=κ) Np hB inj O (λh' k h2=>?_) (λh' k=>?_) λp a1 a2=>⟨_,rfl,?_⟩) (args_list_sort _)))
 ·exact hk h' (λc o e=>k c o (keep c o e).1 (keep c o e).2) h2
 ·exact hc h' (λc o e=>k c o (keep c o e).1 (keep c o e).2)
 ·exact aK ⟨_,rfl,h p a1 a2⟩
end
def mW(H:Hp)(ps:List Addr)(ss:List (List Int)):Prop:=ps.length=ss.length/\∀(i:Nat) p t,ps[i]?=some p->ss[i]?=some t->∃a,H p=some (.tup [.int (t.length:Nat),.ref a])/\H a=some (.tup (List.map V.int t))
theorem Ht{H:Hp}{p:Addr}{x y:List Int}(hx:∃a,H p=some (.tup [.int (x.length:Nat),.ref a])/\H a=some (.tup (List.map V.int x)))(hy:∃a,H p=some (.tup [.int (y.length:Nat),.ref a])/\H a=some (.tup (List.map V.int y))):x=y:=by
 obtain⟨a,h1,h2⟩:=hx
 obtain⟨b,h3,h4⟩:=hy
 rw[h1]at h3
 have e:a=b:=by injection h3 with h3;injection h3 with h3;injection h3 with _ h3;injection h3 with h3 _;injection h3
 subst e
 rw[h2]at h4
 have e2:List.map V.int x=List.map V.int y:=by injection h4 with h4;injection h4
 exact(wF λ_ _ e=>by injection e).mp e2
def Y5:List V->Hp->VK->Prop:=λvs H Q=>∃a,vs=[.ref a]/\∃ps ss,H a=some (.lst (List.map V.ref ps))/\mW H ps ss/\ss.length<=100000/\ss.Nodup/\
 ∀qs ts,ts.Perm ss->ts.Pairwise (λx y=>bT x y=true)->mW H qs ts->∀p,H p=none->Q (.ref p) (upd H p (.lst (List.map V.ref qs)))
section
variable {X:Cx}
theorem Jo(hu:X.A.in1.in1.units<cLine):fz X (.builtin "sorted") Y5:=by
 intro pins s σ H vs us Q I rv h
 obtain⟨a,rfl,ps,ss,hL,prs,hB,nd,q⟩:=h
 obtain⟨u,rfl,ru⟩:=vals1 rv
 cases ru
 obtain⟨its,r,pl,hz⟩:=I.list (aX hL)
 have ei:=y8 r
 subst ei
 have ll:=prs.1
 have lm:(ps.map Value.ref).length=ss.length:=by rw[aM,ll]
 have at_:∀i (hi:i<ps.length),∃a,H (ps.getD i 0)=some (.tup [.int ((ss.getD i []).length:Nat),.ref a])/\H a=some (.tup (List.map V.int (ss.getD i []))):=λi hi=>by
  have e1:ps[i]?=some ps[i]:=bq hi
  have e2:ss[i]?=some (ss[i]'(by omega)):=bq (by omega)
  have:=prs.2 i _ _ e1 e2
  rw[gH,e1,gH,e2]
  exact this
 have vat:∀i,i<ps.length->(ps.map Value.ref).getD i Value.none=.ref (ps.getD i 0):=λi hi=>by
  have e1:ps[i]?=some ps[i]:=bq hi
  rw[gH,cM,e1,gH,e1];rfl
 have up:∀{h':Heap} {p:Addr} {xs:Array Value},(∀c o,s.heap.get? c=some o->h'.get? c=some o)->IsTup s.heap p xs->IsTup h' p xs:=λk z=>by
  obtain⟨o,e,c,n,d⟩:=z
  exact⟨o,k _ _ e,c,n,d⟩
 refine Hh (κ:=tuples' true) (b:=setB ss) pl.isList (by rw[lm];exact hB) (λi j hi hj e=>?_) (by rw[lm];exact o6 nd) (λh' k h2=>?_) (λh' k i j C hi hj hC=>?_) λp hp ha=>?_
 ·rw[aM]at hi hj
  rw[vat i hi,vat j hj]at e
  have e':ps.getD i 0=ps.getD j 0:=by injection e
  have h1:=at_ i hi
  have h2:=at_ j hj
  rw[<-e']at h2
  have e3:=Ht h1 h2
  rw[gH,bq (by omega),gH,bq (by omega)]at e3
  exact(tU nd).mp e3
 ·obtain⟨fs,kt,lf,hf⟩:=qP (h:=h') (l:=ps.map Value.ref) λv hv=>by
   obtain⟨i,hi,rfl⟩:=uU.mp hv
   rw[aM]at hi
   obtain⟨a,h1,_⟩:=at_ i hi
   obtain⟨t,ht⟩:=sQ I.bz h1
   refine⟨_,a,_,t,?_,up k ht⟩
   rw[<-vat i hi,gH,bq (by simpa using hi)]
   rfl
  exact kat_kind (M:=model X.prog X.w) (A:=X.A.in1.in1) (s:={ s with heap:=h' }) (T:=Value.type "int") (Q:=λκ s2=>κ=tuples' true/\s2={ s with heap:=h' }) kt (by rw[lf];omega) (λv hv=>by
   obtain⟨x,t,rfl⟩:=hf v hv
   exact .now) (by decide) ⟨by congr 1,rfl⟩
 ·rw[aM]at hi hj
  obtain⟨a,h1,h2⟩:=at_ i hi
  obtain⟨a',h1',Ug⟩:=at_ j hj
  obtain⟨t,ht⟩:=sQ I.bz h1
  obtain⟨t',R5⟩:=sQ I.bz h1'
  obtain⟨is1,hs1,Sf⟩:=Bf I.bz h2
  obtain⟨is2,hs2,pQ⟩:=Bf I.bz Ug
  unfold kas_ask
  rw[vat i hi,vat j hj]
  exact K6 (s:={ s with heap:=h' }) hu (up k ht) (up k R5) (up k hs1) (up k hs2) Sf pQ rfl rfl hC
 ·rw[aM]at hp ha
  obtain⟨c,hc⟩:=sortedAll_at s.heap (ps.map Value.ref) ((p.toList.map λi=>(ps.map Value.ref).getD i Value.none).toArray)
  have iE:∀i∈p.toList,i<ps.length:=λi hi=>by
   have:=(hp.perm.mem_iff (a:=i)).mp (by simpa using hi)
   simpa using this
  have eo:(p.toList.map λi=>(ps.map Value.ref).getD i Value.none)=(p.toList.map λi=>ps.getD i 0).map Value.ref:=by
   rw[fY]
   exact pK λi hi=>vat i (iE i hi)
  have hn:H (s.heap.objs.size+1)=none:=I.bz.fresh (gT _)
  have Wq:vF p ss.length:=by rw[<-ll];exact hp
  have pm:(p.toList.map λi=>ss.getD i []).Perm ss:=QL Wq
  have lq:mW H (p.toList.map λi=>ps.getD i 0) (p.toList.map λi=>ss.getD i []):=by
   refine⟨by rw[aM,aM],λi b x eb ex=>?_⟩
   rw[cM]at eb ex
   cases ep:p.toList[i]? with
   | none=>rw[ep]at eb;cases eb
   | some m=>
    rw[ep]at eb ex
    have hm:=iE m (j6 ep)
    have e1:ps[m]?=some ps[m]:=bq hm
    have e2:ss[m]?=some (ss[m]'(by omega)):=bq (by omega)
    rw[qf,gH,e1]at eb
    rw[qf,gH,e2]at ex
    cases eb
    cases ex
    exact prs.2 m _ _ e1 e2
  refine⟨.ref (s.heap.objs.size+1),_,I.laid (t':=s.toks) (o:=.lst (List.map V.ref (p.toList.map λi=>ps.getD i 0))) (λb ob e=>sortedAll_old e) (gT _) ?_,rfl,q _ _ pm ?_ lq _ hn⟩
  ·refine⟨?_,(p.toList.map λi=>ps.getD i 0).map Value.ref,c,rO _,?_⟩
   ·rw[aM,aM,cZ,hp.size];exact ie (by rw[<-lm,aM]at hB;omega)
   ·have lu:=hc
    rw[eo]at lu ⊢
    exact lu
  ·exact TJ (l:=ss) (d:=[]) (R:=bT) Wq (o6 nd) (by rw[<-ll];exact ha)
end
end L2
end
section
namespace L2
open PySem PySem.Spec PyProof.Rows
section
variable {X:Cx}{N:List Str}{gP:Scope}{elt target iter:Expr}{ifs:List Expr}{scope:Scope}{pos spos py:Pos}{cs xs:List Str}{idx:List Nat}{wi:TI}{g:CB->TG}{tt:CB->TT}{te:CB->TE}
theorem QK{i:Nat}{y:Str}(hN:X.N.Nodup)(hi0:X.N[i]?=some y)(hy:X.env.scope.names.lookup y=some .local)(hc:X.calm=true)(S:v8 X scope cs xs idx)(hi:PI X target iter wi)
  (hg:∀c,PG (yB X scope cs (xs++bx X.N idx) c) target (g c)) (ht:∀c,vG (yB X scope cs (xs++bx X.N idx) c) ifs (tt c)) (he:∀c,PE (yB X scope cs (xs++bx X.N idx) c) elt (te c))
  (hsw:swapsWith (.ListComp elt [⟨target,iter,ifs,0⟩] scope pos) (some (.Name y py)) spos.line X.env=pure true:=by rfl)
  (hs:∀x,foldedSetIterable iter X.env x=pure x:=by intro _;rfl):PS X (.Assign [.Name y py] (.ListComp elt [⟨target,iter,ifs,0⟩] scope pos) spos) (uc (rV wi xs.length idx g tt te) (dg i)):=by
 intro pins s σ H D I h
 have Fi:closureFor scope X.env=pure (dw X.env scope.names []):=iK λy hy e=>I.ok.has y.1 (S.free y hy e).2
 rw[exec_Assign_Name_used _ _ _ _ hsw]
 refine av (qa (av ?_))
 show wpAny _ X.A (do let _ <-comprehension (.ListComp elt [⟨target,iter,ifs,0⟩] scope pos) scope X.env _ (newList []) false (eval iter X.env) (some (assign (.Name y py) X.env))) _ _ s
 refine av (cL (GJ (use:=some (assign (.Name y py) X.env)) (Q:=λ_ s'=>SP X pins D .next s') rfl hs Fi S.kind S.loc
  (cT (hi pins s σ H _ I h) λxv s₁ h₁=>cT h₁ λitv s₂ h₂=>?_)) (λ_ s' hq=>aK (aK hq)) λ_ _ e=>e)
 obtain⟨it,fp,tn,J,H2,e,I2,T,Az,f2,hW⟩:=h₂
 subst e
 refine NZ (Q:=λv H'=>dg i v σ H' D.nx) (RR:=λacc C=>compPost (model X.prog X.w) X.A X.xe (some (assign (.Name y py) X.env)) (λ_ s'=>SP X pins D .next s') acc C) hc S hg ht he I2 T Az f2 hW ?_
 intro DD C cl σ' H' s' hC I' q
 show wpAny _ X.A (assign (.Name y py) X.env (.ref DD)) _ _ _
 obtain⟨hh,gg,d,t,os⟩:=s'
 obtain rfl:os=s₂.os:=I'.os
 have Cn:s₂.heap.get? C=none:=qi hC
 have I3:Inv X pins σ H' { s₂ with heap:=hh,gens:=gg,drawn:=d,toks:=t }:=I2.call (s:=s₂) (h':=hh) (g':=gg) (d':=d) (t':=t) (ch:=fp) (I'.base.but Cn (Heap.SameBut.refl _ _)) I'.bz I'.bare (λb hb=>by
  obtain⟨_,f1,_,f3,f4,f5⟩:=f2 b hb
  exact⟨f3,f1,f4,f5⟩)
 obtain⟨m',hn,_⟩:=I'.loc
 have hLC:X.env.locals≠C:=bf (bW I2.lt hC)
 refine wpAny_assign_Name (ud I3 hN hi0 (.inl hy) (v:=.ref DD) rfl (λY3 I4 ⟨a,hs4,ha⟩=>?_) (.inr hy))
 have haC:C≠a:=by
  rcases ha with e | e
  ·rw[e];exact eK hLC
  ·obtain⟨v,q⟩:=I2.cell y a e
   exact g6 (bW q.lt hC)
 refine⟨m',hn.sameBut hs4 haC,λh3 hs3=>?_⟩
 obtain⟨hh4,gg4,d4,t4,os4⟩:=Y3
 have I5:Inv X pins (σ.set i (some (.ref DD))) H' { heap:=h3,gens:=gg4,drawn:=d4,toks:=t4,os:=os4 }:=
  I4.turned (s:={ heap:=hh4,gens:=gg4,drawn:=d4,toks:=t4,os:=os4 }) (h':=h3) (t':=t4) (it:=C) (λb o hb e=>(hs3.2 b hb).trans e) I'.free (eK hLC) (.inr (cQ I2.sz hC)) (λx c e z=>by
   obtain⟨v,q⟩:=I2.cell x c e
   exact absurd (bW q.lt hC) (by rw[z];exact g7 _)) (λp hp z=>by
   have:=(I2.pin p hp).1
   rw[z,Cn]at this;cases this)
 exact⟨_,H',I5,q⟩
end
section
variable {X:Cx}{N:List Str}{gP:Scope}{elt target iter:Expr}{ifs:List Expr}{scope:Scope}{pos spos py:Pos}{wi:TI}{g:CB->TG}{tt:CB->TT}{te:CB->TE}
theorem G5{y:Str}(hc:HC X N gP)(nd:N.Nodup)(i:Nat)(h:HD N gP i y=true)(cs xs:List Str)(idx:List Nat)(Fj:X.calm=true)(S:Tb gP N scope cs idx=true)(hi:ZI X target iter wi)
  (hg:∀c,HC (yB X scope cs (xs++bx X.N idx) c) (xs++bx N idx) (cE scope gP)->ZG (yB X scope cs (xs++bx X.N idx) c) target (g c))
  (ht:∀c,HC (yB X scope cs (xs++bx X.N idx) c) (xs++bx N idx) (cE scope gP)->TL (yB X scope cs (xs++bx X.N idx) c) ifs (tt c))
  (he:∀c,HC (yB X scope cs (xs++bx X.N idx) c) (xs++bx N idx) (cE scope gP)->ZE (yB X scope cs (xs++bx X.N idx) c) elt (te c))
  (hsw:swapsWith (.ListComp elt [⟨target,iter,ifs,0⟩] scope pos) (some (.Name y py)) spos.line X.env=pure true)
  (hs:∀x,foldedSetIterable iter X.env x=pure x:=by intro _;rfl):ZS X (.Assign [.Name y py] (.ListComp elt [⟨target,iter,ifs,0⟩] scope pos) spos) (uc (rV wi xs.length idx g tt te) (dg i)):=
 ⟨QK (by rw[hc.n];exact nd) (jL hc h).1 (jL hc h).2 Fj (Je S hc.s hc.n) hi.to (λc=>(hg c (uC hc c)).to) (λc=>(ht c (uC hc c)).to) (λc=>(he c (uC hc c)).to) hsw hs⟩
end
end L2
end
namespace My
open PySem L2
def top(i:Nat):Stmt:=PySem.Challenge.pw_truceroll_k54_sounded_lists.main.body.getD i (.Pass ⟨0,0,0,0⟩)
abbrev ck:Stmt:=top 4
abbrev ip:Stmt:=top 5
abbrev lJ:Stmt:=top 7
abbrev jB:Stmt:=top 8
abbrev iu:Stmt:=top 9
abbrev iq:Stmt:=top 10
abbrev fc:Stmt:=top 11
abbrev eC:Stmt:=top 12
abbrev di:Stmt:=top 13
abbrev jA:Stmt:=top 14
abbrev il:Stmt:=top 15
abbrev o7:Stmt:=top 17
abbrev bV:Stmt:=top 19
abbrev gM:Stmt:=top 22
abbrev gL:Stmt:=top 23
abbrev gJ:Stmt:=top 24
abbrev gN:Stmt:=top 25
abbrev dj:Stmt:=top 26
abbrev dB:Stmt:=top 27
abbrev fh:Stmt:=top 28
abbrev eD:Stmt:=top 29
abbrev gK:Stmt:=top 30
abbrev fS:Stmt:=top 31
abbrev fP:Stmt:=top 32
abbrev dC:Stmt:=top 33
abbrev fQ:Stmt:=top 34
abbrev fi:Stmt:=top 35
abbrev fT:Stmt:=top 36
abbrev dD:Stmt:=top 37
abbrev oi:Stmt:=top 38
abbrev nF:List Str:=["tuples","each","one"]
abbrev Ec:List Str:=["one"]
abbrev MT:List Str:=["numbers"]
abbrev HN:List Str:=["one","other","member"]
abbrev Ee:List Str:=["family"]
abbrev Ed:List Str:=["family","least","part"]
abbrev xl:List Str:=["family","greatest","part"]
abbrev vt:List Str:=["part","family","one"]
abbrev sJ:List Str:=["part","family","one"]
abbrev HJ:List Str:=["whole","part"]
abbrev Eb:List Str:=["whole","parts","member"]
abbrev Rv:List Str:=["whole","ask","part","peace","member","more"]
abbrev fF:List Str:=["whole","ask","sounding","first","clashes","peaces"]
abbrev Bz:List Str:=["_law_script"]
abbrev By:List Str:=["_law_hand_here"]
abbrev Bw:List Str:=["_law_hand_here","_law_cell"]
abbrev BG:List Str:=["_law_hand_here","_law_many","_law_got","_law_value","_law_size"]
abbrev sL:List Str:=["_law_one","_law_other"]
abbrev um:List Str:=["_law_thing"]
abbrev xm:List Str:=["_law_thing"]
abbrev vv:List Str:=["_law_hand_here","_law_most","_law_far","_law_step","_law_at","_law_row","_law_k"]
abbrev Bx:List Str:=["_law_hand_here","_law_whole"]
abbrev yk:List Str:=["_law_hand_here","_law_whole","_law_way","_law_weights","_law_alike","_law_one","_law_most","_law_sets","_law_at"]
abbrev yi:List Str:=["_law_model_here","_law_part"]
abbrev uo:List Str:=["_law_sets","_law_rows","_law_row","_law_size","_law_one"]
abbrev yj:List Str:=["_law_whole","_law_rows","_law_member"]
abbrev xq:List Str:=["_law_told","_law_due"]
abbrev ym:List Str:=["_law_model_here","_law_whole","_law_clashes","_law_part"]
abbrev uq:List Str:=["_law_model_here","_law_whole","_law_peaces","_law_part","_law_more"]
abbrev Z0:List Str:=["_law_script","_law_hand_here","_law_whole","_law_model_here","_law_ask","_law_told"]
def Kp(s:Stmt)(j:Nat):Stmt:=match s with
 | .ClassDef _ _ _ b _ _ _ _ _ _ _=>b.getD j (.Pass ⟨0,0,0,0⟩)
 | _=>.Pass ⟨0,0,0,0⟩
abbrev cF:Stmt:=Kp (top 2) 0
abbrev cW:List Str:=["self","part"]
abbrev cA:Stmt:=Kp (top 20) 0
abbrev ou:List Str:=["self","ask","parts"]
abbrev dk:Stmt:=Kp (top 20) 1
abbrev sM:List Str:=["self","part"]
abbrev dm:Stmt:=Kp (top 20) 2
abbrev sN:List Str:=["self","part","peaceful","left","other"]
abbrev bA:Stmt:=(aN oi).getD 3 (.Pass ⟨0,0,0,0⟩)
abbrev qG:List Str:=["_law_part"]
abbrev bZ:List Str:=["_law_model_here"]
structure vL where
 fK:Addr
 fH:FuncData
 rg:Addr
 qV:FuncData
 xR:Addr
 xJ:FuncData
 uM:Addr
 uG:FuncData
 rj:Addr
 qX:FuncData
 rh:Addr
 qW:FuncData
 kZ:Addr
 kS:FuncData
 jS:Addr
 jP:FuncData
 iN:Addr
 iG:FuncData
 uL:Addr
 uF:FuncData
 q0:Addr
 qU:FuncData
 CG:Addr
 Ck:FuncData
 fk:Addr
 lU:FuncData
 oP:Addr
 oI:FuncData
 oO:Addr
 oH:FuncData
 oM:Addr
 oF:FuncData
 oQ:Addr
 oJ:FuncData
 iO:Addr
 iH:FuncData
 jn:Addr
 jk:FuncData
 lg:Addr
 kW:FuncData
 jT:Addr
 jQ:FuncData
 oN:Addr
 oG:FuncData
 mU:Addr
 mM:FuncData
 mR:Addr
 mK:FuncData
 jo:Addr
 jl:FuncData
 mS:Addr
 mL:FuncData
 lh:Addr
 kX:FuncData
 mV:Addr
 mO:FuncData
 jq:Addr
 jm:FuncData
 TK:Addr
 K3:FuncData
 aR:Addr
 bp:Addr
 bB:Addr
 gC:FuncData
 aB:Addr
 bE:Addr
 gh:FuncData
 cq:Addr
 iI:FuncData
 cu:Addr
 iJ:FuncData
structure Txt(K:PySem.W.Frag)(mg:Str->Option Value)(t:vL):Prop where
 jg:jV K "each_once_in_order" "each_once_in_order" ck t.fK t.fH
 oK:Binds K t.fH ["tuples"] []
 oy:mg "each_once_in_order" = some (.ref t.fK)
 JK:jV K "order_of" "order_of" ip t.rg t.qV
 Jt:Binds K t.qV ["one"] []
 Ia:mg "order_of" = some (.ref t.rg)
 FT:jV K "set_of" "set_of" lJ t.xR t.xJ
 Tw:Binds K t.xJ ["numbers"] []
 RC:mg "set_of" = some (.ref t.xR)
 mj:jV K "is_part" "is_part" jB t.uM t.uG
 pz:Binds K t.uG ["one","other"] []
 o9:mg "is_part" = some (.ref t.uM)
 jW:jV K "in_order" "in_order" iu t.rj t.qX
 mQ:Binds K t.qX ["family"] []
 mH:mg "in_order" = some (.ref t.rj)
 xX:jV K "least_of" "least_of" iq t.rh t.qW
 Jv:Binds K t.qW ["family"] []
 Ib:mg "least_of" = some (.ref t.rh)
 p5:jV K "greatest_of" "greatest_of" fc t.kZ t.kS
 yD:Binds K t.kS ["family"] []
 yn:mg "greatest_of" = some (.ref t.kZ)
 oV:jV K "holds_one_of" "holds_one_of" eC t.jS t.jP
 xO:Binds K t.jP ["part","family"] []
 xr:mg "holds_one_of" = some (.ref t.jS)
 mh:jV K "lies_in_one_of" "lies_in_one_of" di t.iN t.iG
 uJ:Binds K t.iG ["part","family"] []
 ur:mg "lies_in_one_of" = some (.ref t.iN)
 zS:jV K "rest_of" "rest_of" jA t.uL t.uF
 N7:Binds K t.uF ["whole","part"] []
 M4:mg "rest_of" = some (.ref t.uL)
 xW:jV K "parts_of" "parts_of" il t.q0 t.qU
 Js:Binds K t.qU ["whole"] []
 HY:mg "parts_of" = some (.ref t.q0)
 Lp:jV K "grown" "grown" o7 t.CG t.Ck
 W':Binds K t.Ck ["whole","ask","part"] []
 Wb:mg "grown" = some (.ref t.CG)
 zR:jV K "sounded" "sounded" bV t.fk t.lU
 N6:Binds K t.lU ["whole","ask"] []
 M3:mg "sounded" = some (.ref t.fk)
 vq:jV K "_law_hand" "_law_hand" gM t.oP t.oI
 FH:Binds K t.oI ["_law_script"] []
 Em:mg "_law_hand" = some (.ref t.oP)
 jh:jV K "_law_next" "_law_next" gL t.oO t.oH
 kr:Binds K t.oH ["_law_hand_here"] []
 kf:mg "_law_next" = some (.ref t.oO)
 vo:jV K "_law_take" "_law_take" gJ t.oM t.oF
 Fz:Binds K t.oF ["_law_hand_here"] []
 Ek:mg "_law_take" = some (.ref t.oM)
 bF:jV K "_law_draw" "_law_draw" gN t.oQ t.oJ
 bL:Binds K t.oJ ["_law_hand_here","_law_many"] []
 bK:mg "_law_draw" = some (.ref t.oQ)
 fX:jV K "_law_is_within" "_law_is_within" dj t.iO t.iH
 iM:Binds K t.iH ["_law_one","_law_other"] []
 iB:mg "_law_is_within" = some (.ref t.iO)
 nj:jV K "_law_is_whole" "_law_is_whole" dB t.jn t.jk
 vC:Binds K t.jk ["_law_thing"] []
 vw:mg "_law_is_whole" = some (.ref t.jn)
 p6:jV K "_law_is_set" "_law_is_set" fh t.lg t.kW
 yE:Binds K t.kW ["_law_thing"] []
 yo:mg "_law_is_set" = some (.ref t.lg)
 oW:jV K "_law_members" "_law_members" eD t.jT t.jQ
 xP:Binds K t.jQ ["_law_hand_here","_law_most"] []
 xt:mg "_law_members" = some (.ref t.jT)
 vp:jV K "_law_some" "_law_some" gK t.oN t.oG
 FG:Binds K t.oG ["_law_hand_here","_law_whole"] []
 El:mg "_law_some" = some (.ref t.oN)
 tJ:jV K "_law_model" "_law_model" fS t.mU t.mM
 Cv:Binds K t.mM ["_law_hand_here","_law_whole"] []
 BL:mg "_law_model" = some (.ref t.mU)
 gX:jV K "_law_tells" "_law_tells" fP t.mR t.mK
 jz:Binds K t.mK ["_law_model_here","_law_part"] []
 jy:mg "_law_tells" = some (.ref t.mR)
 nk:jV K "_law_in_order" "_law_in_order" dC t.jo t.jl
 vD:Binds K t.jl ["_law_sets"] []
 vx:mg "_law_in_order" = some (.ref t.jo)
 mZ:jV K "_law_parts" "_law_parts" fQ t.mS t.mL
 tD:Binds K t.mL ["_law_whole"] []
 sP:mg "_law_parts" = some (.ref t.mS)
 lj:jV K "_law_family" "_law_family" fi t.lh t.kX
 pW:Binds K t.kX ["_law_told","_law_due"] []
 pP:mg "_law_family" = some (.ref t.lh)
 tK:jV K "_law_least" "_law_least" fT t.mV t.mO
 Cw:Binds K t.mO ["_law_model_here","_law_whole"] []
 BM:mg "_law_least" = some (.ref t.mV)
 nq:jV K "_law_greatest" "_law_greatest" dD t.jq t.jm
 vE:Binds K t.jm ["_law_model_here","_law_whole"] []
 vy:mg "_law_greatest" = some (.ref t.jq)
 aCn:jV K "law" "law" oi t.TK t.K3
 aF1:Binds K t.K3 ["_law_script"] []
 aFY:mg "law" = some (.ref t.TK)
 z_abs:mg "abs" = none
 z_all:mg "all" = none
 z_any:mg "any" = none
 z_bool:mg "bool" = none
 z_int:mg "int" = none
 z_isinstance:mg "isinstance" = none
 z_len:mg "len" = none
 z_list:mg "list" = none
 z_range:mg "range" = none
 z_reversed:mg "reversed" = none
 z_set:mg "set" = none
 z_sorted:mg "sorted" = none
 z_sum:mg "sum" = none
 z_tuple:mg "tuple" = none
 BP:mg "TruceError" = some (.ref t.aR)
 Ut:XC K t.aR
 kc_TruceError:PySem.W.keepIn K (.ref t.aR)=true
 ii_TruceError:PySem.W.findIn K (.ref t.aR) "__init__" = some (some (.builtin "ValueError.__init__"))
 rd_TruceError:PySem.W.readsIn K t.aR (.type "type")=true
 fc_TruceError:PySem.W.findCls K (.ref t.aR) (.type "type") "__init__" = some (.val (.builtin "ValueError.__init__"))
 sg_TruceError:PySem.W.specialIn K (.ref t.aR) "__getattribute__" = some (some (.builtin "type.__getattribute__"))
 M5:mg "NoPeace" = some (.ref t.bp)
 t9:XC K t.bp
 kc_NoPeace:PySem.W.keepIn K (.ref t.bp)=true
 rn:jV K "__init__" "NoPeace.__init__" cF t.bB t.gC
 qZ:Binds K t.gC cW []
 ii_NoPeace:PySem.W.findIn K (.ref t.bp) "__init__" = some (some (.ref t.bB))
 if_NoPeace:PySem.W.typeIn K (.ref t.bB)=some (.type "function")
 tk_NoPeace:PySem.W.takerIn K t.bp "part" = some none
 nf_NoPeace:PySem.W.findIn K (.ref t.bp) "part" = some none
 Ic:mg "Sounding" = some (.ref t.aB)
 aV:Cls K t.aB
 ng:jr K t.aB "ask"
 cY:jr K t.aB "askings"
 cy:jr K t.aB "known"
 cX:jr K t.aB "unknown"
 Eh:Mk K t.aB t.bE
 pI:jV K "__init__" "Sounding.__init__" cA t.bE t.gh
 pE:Binds K t.gh ["self","ask","parts"] []
 uP:jV K "tells" "Sounding.tells" dk t.cq t.iI
 lY:Binds K t.iI ["self","part"] []
 kc:Meth K t.aB "tells" t.cq
 uQ:jV K "learn" "Sounding.learn" dm t.cu t.iJ
 uK:Binds K t.iJ ["self","part","peaceful"] []
 sO:Meth K t.aB "learn" t.cu
theorem og:aU ou ["self","ask","parts"] (ag cA):=⟨rfl,rfl,rfl,by decide +kernel,rfl,by decide +kernel,by decide +kernel⟩
theorem sj:aU sM ["self","part"] (ag dk):=⟨rfl,rfl,rfl,by decide +kernel,rfl,by decide +kernel,by decide +kernel⟩
theorem gU:aU sN ["self","part","peaceful"] (ag dm):=⟨rfl,rfl,rfl,by decide +kernel,rfl,by decide +kernel,by decide +kernel⟩
theorem pB:aU cW cW (ag cF):=⟨rfl,rfl,rfl,by decide +kernel,rfl,by decide +kernel,by decide +kernel⟩
theorem ft:aU nF ["tuples"] (ag ck):=⟨rfl,rfl,rfl,by decide +kernel,rfl,by decide +kernel,by decide +kernel⟩
theorem DG:aU Ec ["one"] (ag ip):=⟨rfl,rfl,rfl,by decide +kernel,rfl,by decide +kernel,by decide +kernel⟩
theorem Mj:aU MT ["numbers"] (ag lJ):=⟨rfl,rfl,rfl,by decide +kernel,rfl,by decide +kernel,by decide +kernel⟩
theorem wZ:aU HN ["one","other"] (ag jB):=⟨rfl,rfl,rfl,by decide +kernel,rfl,by decide +kernel,by decide +kernel⟩
theorem DK:aU Ee ["family"] (ag iu):=⟨rfl,rfl,rfl,by decide +kernel,rfl,by decide +kernel,by decide +kernel⟩
theorem n8:aU Ed ["family"] (ag iq):=⟨rfl,rfl,rfl,by decide +kernel,rfl,by decide +kernel,by decide +kernel⟩
theorem jJ:aU xl ["family"] (ag fc):=⟨rfl,rfl,rfl,by decide +kernel,rfl,by decide +kernel,by decide +kernel⟩
theorem m9:aU vt ["part","family"] (ag eC):=⟨rfl,rfl,rfl,by decide +kernel,rfl,by decide +kernel,by decide +kernel⟩
theorem ka:aU sJ ["part","family"] (ag di):=⟨rfl,rfl,rfl,by decide +kernel,rfl,by decide +kernel,by decide +kernel⟩
theorem Hj:aU HJ ["whole","part"] (ag jA):=⟨rfl,rfl,rfl,by decide +kernel,rfl,by decide +kernel,by decide +kernel⟩
theorem j9:aU Eb ["whole"] (ag il):=⟨rfl,rfl,rfl,by decide +kernel,rfl,by decide +kernel,by decide +kernel⟩
theorem oa:aU Rv ["whole","ask","part"] (ag o7):=⟨rfl,rfl,rfl,by decide +kernel,rfl,by decide +kernel,by decide +kernel⟩
theorem jI:aU fF ["whole","ask"] (ag bV):=⟨rfl,rfl,rfl,by decide +kernel,rfl,by decide +kernel,by decide +kernel⟩
theorem Bi:aU Bz ["_law_script"] (ag gM):=⟨rfl,rfl,rfl,by decide +kernel,rfl,by decide +kernel,by decide +kernel⟩
theorem Bh:aU By ["_law_hand_here"] (ag gL):=⟨rfl,rfl,rfl,by decide +kernel,rfl,by decide +kernel,by decide +kernel⟩
theorem mF:aU Bw ["_law_hand_here"] (ag gJ):=⟨rfl,rfl,rfl,by decide +kernel,rfl,by decide +kernel,by decide +kernel⟩
theorem fO:aU BG ["_law_hand_here","_law_many"] (ag gN):=⟨rfl,rfl,rfl,by decide +kernel,rfl,by decide +kernel,by decide +kernel⟩
theorem si:aU sL ["_law_one","_law_other"] (ag dj):=⟨rfl,rfl,rfl,by decide +kernel,rfl,by decide +kernel,by decide +kernel⟩
theorem ug:aU um ["_law_thing"] (ag dB):=⟨rfl,rfl,rfl,by decide +kernel,rfl,by decide +kernel,by decide +kernel⟩
theorem w5:aU xm ["_law_thing"] (ag fh):=⟨rfl,rfl,rfl,by decide +kernel,rfl,by decide +kernel,by decide +kernel⟩
theorem cU:aU vv ["_law_hand_here","_law_most"] (ag eD):=⟨rfl,rfl,rfl,by decide +kernel,rfl,by decide +kernel,by decide +kernel⟩
theorem Bg:aU Bx ["_law_hand_here","_law_whole"] (ag gK):=⟨rfl,rfl,rfl,by decide +kernel,rfl,by decide +kernel,by decide +kernel⟩
theorem cI:aU yk ["_law_hand_here","_law_whole"] (ag fS):=⟨rfl,rfl,rfl,by decide +kernel,rfl,by decide +kernel,by decide +kernel⟩
theorem yg:aU yi ["_law_model_here","_law_part"] (ag fP):=⟨rfl,rfl,rfl,by decide +kernel,rfl,by decide +kernel,by decide +kernel⟩
theorem eB:aU uo ["_law_sets"] (ag dC):=⟨rfl,rfl,rfl,by decide +kernel,rfl,by decide +kernel,by decide +kernel⟩
theorem iU:aU yj ["_law_whole"] (ag fQ):=⟨rfl,rfl,rfl,by decide +kernel,rfl,by decide +kernel,by decide +kernel⟩
theorem w6:aU xq ["_law_told","_law_due"] (ag fi):=⟨rfl,rfl,rfl,by decide +kernel,rfl,by decide +kernel,by decide +kernel⟩
theorem kK:aU ym ["_law_model_here","_law_whole"] (ag fT):=⟨rfl,rfl,rfl,by decide +kernel,rfl,by decide +kernel,by decide +kernel⟩
theorem fN:aU uq ["_law_model_here","_law_whole"] (ag dD):=⟨rfl,rfl,rfl,by decide +kernel,rfl,by decide +kernel,by decide +kernel⟩
theorem uf:aU Z0 ["_law_script"] (ag oi):=⟨rfl,rfl,rfl,by decide +kernel,rfl,by decide +kernel,by decide +kernel⟩
theorem aCl:bootBuiltins "abs" = some (.builtin "abs"):=by decide +kernel
theorem Lb:bootBuiltins "all" = some (.builtin "all"):=by decide +kernel
theorem La:bootBuiltins "any" = some (.builtin "any"):=by decide +kernel
theorem aAG:bootBuiltins "bool" = some (.type "bool"):=by decide +kernel
theorem aCk:bootBuiltins "int" = some (.type "int"):=by decide +kernel
theorem fV:bootBuiltins "isinstance" = some (.builtin "isinstance"):=by decide +kernel
theorem tj:bootBuiltins "len" = some (.builtin "len"):=by decide +kernel
theorem Ju:bootBuiltins "list" = some (.type "list"):=by decide +kernel
theorem aAF:bootBuiltins "reversed" = some (.type "reversed"):=by decide +kernel
theorem aCj:bootBuiltins "set" = some (.type "set"):=by decide +kernel
theorem xN:bootBuiltins "sorted" = some (.builtin "sorted"):=by decide +kernel
theorem aCi:bootBuiltins "sum" = some (.builtin "sum"):=by decide +kernel
theorem ko:bootBuiltins "tuple" = some (.type "tuple"):=by decide +kernel
local macro_rules | `(tactic| walk_at "r") => `(tactic| repeat (walk_at "rl"))
local macro_rules | `(tactic| walk_at "rd") => `(tactic| walk_at "rc")
local macro_rules | `(tactic| walk_at "rl") => `(tactic| first | (refine er fun R hR => ?_) | walk_at "ry" | (refine Nx.to (by assumption) _ _ ?_))
local macro_rules | `(tactic| walk_at "rc") => do
  let ids := ("L2.start LW yV L7 Dl tB Pp tUn Dk tC uc dg WL KD WM Xs Sy Pn Pm Dp Dq yX L5 YC Hc wV Pt Pl Qn rI rU rEq rNe Qa Dt ipI Qx Vm Y6 Vk Vj J5 J7 J6 Bo Hm vS Hn Ho Bm Qu xg Kb Zb xc He Qw Y9 QC Y8 Za Vn Vl tSl Dm rR Y4 tBM YD vR Bk xf Hl Bl uh Ve Yz Px tOr Pr Du YB Dn tIf List.map_cons List.map_nil List.cons_append List.nil_append List.append_nil List.length_cons List.length_nil List.replicate List.getElem?_cons_zero List.getElem?_cons_succ List.set_cons_zero List.set_cons_succ Nat.reduceAdd Nat.reduceSub Nat.reduceLeDiff Option.some.injEq V.int.injEq V.ref.injEq V.str.injEq V.bl.injEq V.ty.injEq List.cons.injEq HO.lst.injEq HO.tup.injEq HO.dK.injEq exists_eq_left exists_eq_left' exists_and_left and_true true_and and_assoc exists_const reduceCtorEq ai vN decide_eq_true_eq List.length_map ite_true ite_false Bool.false_eq_true Bool.true_and Bool.and_true FK Le Ld Lc TF TB Iq Ip Io Im Il Ti Tg Tf Te Jm Jl Jk Jj Jf cg Option.join_some Option.join_none wW Au Fe RQ RP J' wU wR Ka J8 J9 Bj Y7 uh Qv Bn o8 Ff RT RN Ar Pk Int.zero_add Int.reduceMul Int.reduceAdd Int.reduceSub Int.reduceLT Int.reduceLE Int.reducePow Int.reduceToNat Int.reduceNeg gt_iff_lt ge_iff_le Ba hv Uw U8 JQ JR Ends.unb HO.ext.injEq HO.xd.injEq XB Xu Xr QB Qz Qy DS Qo J3 JT Pw Pu Xo aAV JP vO Xn aAU Qs Aw Ax JS Ay Uu".splitOn " ").toArray.map fun x => Lean.mkIdent x.toName
  `(tactic| simp only [$[$ids:ident],*])
local macro_rules | `(tactic| walk_at "ry") => do
  let ids := ("L2.start yV L7 Dl tB Pp tUn Dk tC uc dg WL KD WM Xs Sy Pn Pm Dp Dq yX L5 YC Hc wV Pt Pl Qn rI rU rEq rNe Qa Dt ipI Qx Vm Y6 Vk Vj J5 J7 J6 Bo Hm vS Hn Ho Bm Qu xg Kb Zb xc He Qw Y9 QC Y8 Za Vn Vl tSl Dm rR Y4 tBM YD vR Bk xf Hl Bl uh Ve Yz Px tOr Pr Du YB Dn tIf List.map_cons List.map_nil List.cons_append List.nil_append List.append_nil List.length_cons List.length_nil List.replicate List.getElem?_cons_zero List.getElem?_cons_succ List.set_cons_zero List.set_cons_succ Nat.reduceAdd Nat.reduceSub Nat.reduceLeDiff Option.some.injEq V.int.injEq V.ref.injEq V.str.injEq V.bl.injEq V.ty.injEq List.cons.injEq HO.lst.injEq HO.tup.injEq HO.dK.injEq exists_eq_left exists_eq_left' exists_and_left and_true true_and and_assoc exists_const reduceCtorEq ai vN decide_eq_true_eq List.length_map ite_true ite_false Bool.false_eq_true Bool.true_and Bool.and_true FK Le Ld Lc TF TB Iq Ip Io Im Il Ti Tg Tf Te Jm Jl Jk Jj Jf cg Option.join_some Option.join_none wW Au Fe RQ RP J' wU wR Ka J8 J9 Bj Y7 uh Qv Bn o8 Ff RT RN Ar Pk Int.zero_add Int.reduceMul Int.reduceAdd Int.reduceSub Int.reduceLT Int.reduceLE Int.reducePow Int.reduceToNat Int.reduceNeg gt_iff_lt ge_iff_le Ba hv Uw U8 JQ JR Ends.unb HO.ext.injEq HO.xd.injEq XB Xu Xr QB Qz Qy DS Qo J3 JT Pw Pu Xo aAV JP vO Xn aAU Qs Aw Ax JS Ay Uu".splitOn " ").toArray.map fun x => Lean.mkIdent x.toName
  `(tactic| simp only [$[$ids:ident],*])
section
variable {P:Program}{w:World}{K:PySem.W.Frag}{mg:Str->Option Value}{base:Heap}{t:vL}
theorem DY(T:Txt K mg t):bX P w K mg base gi 1 t.rg t.qV ["one"] yZ:=by
 refine T.JK.qK DG (λvs H Q E h=>?_) (λdc A outer s H vs Q E hr h hc hf=>?_)
 ·obtain⟨a,rfl,_⟩:=h;rfl
 obtain⟨a,rfl,xs,ha,q⟩:=h
 refine⟨_,(by exact aA (aS (iT (ae (aW iL (cK hc) T.z_len tj (ae (aj hc 0) ah)) (ae (aj hc 0) ah))))),?_⟩
 repeat (first | walk_at "rd" | simp only[ha])
 exact⟨by decide,q⟩
theorem V5(T:Txt K mg t):bX P w K mg base gi 4 t.fK t.fH ["tuples"] PN:=by
 have JG:=DY (P:=P) (w:=w) (base:=base) T
 refine T.jg.qK ft (λvs H Q E h=>?_) (λdc A outer s H vs Q E hr h hc hf=>?_)
 ·obtain⟨a,rfl,_⟩:=h;rfl
 obtain⟨L,rfl,as,ss,hL,sat,Wh,q⟩:=h
 have hu:=kg hr
 have Nk:=hr.gd
 refine⟨_,(by apply aq;exact(aP hc ft.nd hf 1 (by decide +kernel) yM);apply aq;exact(eL jt rfl (cD (aj hc 0)) (pA hc ft.nd hf 2 (by decide +kernel)) (by exact aA (rL hu (aj hc 1) (aj hc 2) jF rfl)));exact aA (aS (Lr JG (hr.mono (by omega)) (cK hc) T.z_sorted xN (cK hc) T.Ia T.Jt (aj hc 1)))),?_⟩
 repeat (walk_at "rd")
 intro p hp
 have sp:=aH hp (.dT [])
 have hpL:L≠p:=az hL hp
 refine⟨⟨_,aX (sp _ _ hL)⟩,?_⟩
 obtain⟨Pv,dn⟩:∃Pv:Nat->St->Hp->Prop,∀i σ' H',Pv i σ' H'↔∃(x:Option V) (aO:List (List Key×V)) (vs:List (List Int)),σ'=[some (.ref L),some (.ref p),x]/\H'=upd H p (.dT aO)/\aO.map (·.1)=vs.map (List.map Sum.inl)/\vs.Nodup/\∀z,z∈vs↔z∈ss.take i:=⟨_,λ_ _ _=>dY⟩
 refine eJ (xs:=List.map V.ref as) Pv ((dn _ _ _).mpr ⟨none,[],[],rfl,rfl,rfl,qd,λz=>by simp⟩) (λi σ' H1 _ pv=>?_) (λi x σ' H1 hx pv=>?_) (λσ' H1 pv=>?_)
 ·obtain⟨_,_,_,_,rfl,_⟩:=(dn _ _ _).mp pv
  rw[au hpL];exact hL
 ·obtain⟨y,aO,vs,rfl,rfl,ek,nd,mem⟩:=(dn _ _ _).mp pv
  obtain⟨a,ea,rfl⟩:=eM hx
  have hi:i<as.length:=(fq.mp ea).1
  have pQ:i<ss.length:=by have:=sat.1;omega
  have es:ss[i]?=some ss[i]:=bq pQ
  have ha:=sat.2 i a _ ea es
  have hap:a≠p:=az ha hp
  have lk:aO.length<=90000:=by
   have h1:=fD List.length ek
   rw[aM,aM]at h1
   have h2:=dI nd λx hx=>Gw ((mem x).mp hx)
   have:=sat.1
   omega
  simp only[dg,w8,Dk,tC,List.getElem?_cons_zero,GR,Ad,exists_eq_left',List.set_cons_zero,List.set_cons_succ]
  refine⟨p,_,rfl,xY.t (k:=ss[i].map Sum.inl) ai (by rw[au hap,ox];exact ha) (vQ (by omega)),?_⟩
  rw[vN]
  have et:ss.take (i+1)=ss.take i++[ss[i]]:=by rw[gR,es];rfl
  by_cases hin:ss[i]∈vs
  ·refine(dn _ _ _).mpr ⟨_,_,vs,rfl,rfl,?_,nd,λz=>?_⟩
   ·rw[zr,ay (by rw[ek];exact wI hin)];exact ek
   ·rw[et,cw,<-mem z,cG]
    exact⟨.inl,λh=>h.elim id λe=>by rw[e];exact hin⟩
  ·refine(dn _ _ _).mpr ⟨_,_,vs++[ss[i]],rfl,rfl,?_,?_,λz=>?_⟩
   ·rw[zr,aE (by rw[ek];intro z;obtain⟨v,hv,e⟩:=eU.mp z;exact hin (by rw[<-BX e];exact hv)),ek,dE];rfl
   ·rw[wD]
    exact⟨nd,m5.mpr ⟨by simp,qd⟩,λx hx y hy=>by rw[cG.mp hy];exact λe=>hin (by rw[<-e];exact hx)⟩
   ·rw[et,cw,cw,mem z]
 ·obtain⟨y,aO,vs,rfl,rfl,ek,nd,mem⟩:=(dn _ _ _).mp pv
  rw[aM,sat.1,gE]at mem
  have lv:vs.length<100000:=by
   have:=dI nd λx hx=>(mem x).mp hx
   have:=sat.1
   omega
  repeat (walk_at "rd")
  refine⟨p,rfl,aO,vs,ai,ek,lv,λD H' bs ts s1 hD hD' st pm pw=>?_⟩
  have sH:bP H (upd H p (.dT aO)):=λb u e=>by rw[au (az e hp)];exact e
  exact q D H' bs ts (sH.trans s1) (sH.free hD) hD' st (pm.nodup_iff.mpr nd) (λx=>(pm.mem_iff).trans (mem x)) pw
theorem qJ(T:Txt K mg t):bX P w K mg base gi 1 t.uM t.uG ["one","other"] YL:=by
 refine T.mj.qK wZ (λvs H Q E h=>?_) (λdc A outer s H vs Q E hr h hc hf=>?_)
 ·obtain⟨a,b,rfl,_⟩:=h;rfl
 obtain⟨a,b,rfl,x,y,ha,hb,q⟩:=h
 have hu:=kg hr
 have Nk:=hr.gd
 refine⟨_,(by apply aq;exact(eL jt rfl (fL (aj hc 0)) (pA hc wZ.nd hf 2 (by decide +kernel)) (by exact aA (cO (bO uk (aj hc 2) (aj hc 1) (by with_unfolding_all rfl)) (by exact aA (aS jF)) bI)));exact aA (aS jF)),?_⟩
 repeat (walk_at "rd")
 refine⟨⟨_,bR ha⟩,?_⟩
 obtain⟨Pv,dn⟩:∃Pv:Nat->St->Hp->Prop,∀i σ' H',Pv i σ' H'↔∃z:Option V,σ'=[some (.ref a),some (.ref b),z]/\H'=H/\(x.take i).all (λm=>decide (m∈y))=true:=⟨_,λ_ _ _=>dY⟩
 refine jN (xs:=List.map V.int x) Pv ((dn _ _ _).mpr ⟨none,rfl,rfl,rfl⟩) (λi σ' H1 _ pv=>?_) (λi z σ' H1 hz pv=>?_) (λσ' H1 pv=>?_)
 ·obtain⟨_,_,rfl,_⟩:=(dn _ _ _).mp pv
  exact ha
 ·obtain⟨z',rfl,rfl,al⟩:=(dn _ _ _).mp pv
  obtain⟨n,en,rfl⟩:=int_at hz
  repeat (first | walk_at "rd" | simp only[hb])
  refine⟨rfl,lQ y,?_⟩
  rw[oC]
  by_cases hm:n∈y
  ·rw[aE (by simp[hm])]
   refine(dn _ _ _).mpr ⟨_,rfl,rfl,?_⟩
   rw[gR,en,List.all_append,al]
   simp[hm]
  ·rw[ay (by simp[hm])]
   have e:aC x y=false:=by
    unfold aC
    rw[List.all_eq_false]
    exact⟨n,j6 en,by simp[hm]⟩
   rw[<-e]
   exact q
 ·obtain⟨z',rfl,rfl,al⟩:=(dn _ _ _).mp pv
  rw[aM,gE]at al
  repeat (walk_at "rd")
  have e:aC x y=true:=al
  rw[<-e]
  exact q
theorem Bu(T:Txt K mg t):bX P w K mg base gi 2 t.jS t.jP ["part","family"] (y0 false):=by
 have jD:=qJ (P:=P) (w:=w) (base:=base) T
 refine T.oV.qK m9 (λvs H Q E h=>?_) (λdc A outer s H vs Q E hr h hc hf=>?_)
 ·obtain⟨a,L,rfl,_⟩:=h;rfl
 obtain⟨a,L,rfl,x,bs,ts,ha,hL,st,q⟩:=h
 refine⟨_,(by apply aq;exact(eL jt rfl (cD (aj hc 1)) (pA hc m9.nd hf 2 (by decide +kernel)) (by exact aA (cO (bY (aF jD (hr.mono (by omega)) (cK hc) T.o9 T.mj.kp T.pz .nil aY (ae (aj hc 2) (ae (aj hc 0) ah)))) (by exact aA (aS jF)) bI)));exact aA (aS jF)),?_⟩
 repeat (walk_at "rd")
 refine⟨⟨_,aX hL⟩,?_⟩
 obtain⟨Pv,dn⟩:∃Pv:Nat->St->Hp->Prop,∀i σ' H',Pv i σ' H'↔∃z:Option V,σ'=[some (.ref a),some (.ref L),z]/\H'=H/\(ts.take i).any (λt=>aC t x)=false:=⟨_,λ_ _ _=>dY⟩
 refine eJ (xs:=List.map V.ref bs) Pv ((dn _ _ _).mpr ⟨none,rfl,rfl,rfl⟩) (λi σ' H1 _ pv=>?_) (λi z σ' H1 hz pv=>?_) (λσ' H1 pv=>?_)
 ·obtain⟨_,_,rfl,_⟩:=(dn _ _ _).mp pv
  exact hL
 ·obtain⟨z',rfl,rfl,al⟩:=(dn _ _ _).mp pv
  obtain⟨b,eb,rfl⟩:=eM hz
  have hi:i<bs.length:=(fq.mp eb).1
  have pQ:i<ts.length:=by have:=st.1;omega
  have et:ts[i]?=some ts[i]:=bq pQ
  repeat (walk_at "rd")
  refine⟨b,a,rfl,_,x,st.2 i b _ eb et,ha,?_⟩
  repeat (walk_at "rd")
  by_cases hp:aC ts[i] x=true
  ·rw[ay hp]
   have e:ts.any (λt=>if false then aC x t else aC t x)=true:=gk.mpr ⟨ts[i],m6 pQ,hp⟩
   rw[<-e]
   exact q
  ·rw[aE hp]
   refine(dn _ _ _).mpr ⟨_,rfl,rfl,?_⟩
   rw[gR,et,List.any_append,al]
   simp[hp]
 ·obtain⟨z',rfl,rfl,al⟩:=(dn _ _ _).mp pv
  rw[aM,st.1,gE]at al
  repeat (walk_at "rd")
  have e:ts.any (λt=>if false then aC x t else aC t x)=false:=al
  rw[<-e]
  exact q
theorem D'(T:Txt K mg t):bX P w K mg base gi 2 t.iN t.iG ["part","family"] (y0 true):=by
 have jD:=qJ (P:=P) (w:=w) (base:=base) T
 refine T.mh.qK ka (λvs H Q E h=>?_) (λdc A outer s H vs Q E hr h hc hf=>?_)
 ·obtain⟨a,L,rfl,_⟩:=h;rfl
 obtain⟨a,L,rfl,x,bs,ts,ha,hL,st,q⟩:=h
 refine⟨_,(by apply aq;exact(eL jt rfl (cD (aj hc 1)) (pA hc ka.nd hf 2 (by decide +kernel)) (by exact aA (cO (bY (aF jD (hr.mono (by omega)) (cK hc) T.o9 T.mj.kp T.pz .nil aY (ae (aj hc 0) (ae (aj hc 2) ah)))) (by exact aA (aS jF)) bI)));exact aA (aS jF)),?_⟩
 repeat (walk_at "rd")
 refine⟨⟨_,aX hL⟩,?_⟩
 obtain⟨Pv,dn⟩:∃Pv:Nat->St->Hp->Prop,∀i σ' H',Pv i σ' H'↔∃z:Option V,σ'=[some (.ref a),some (.ref L),z]/\H'=H/\(ts.take i).any (λt=>aC x t)=false:=⟨_,λ_ _ _=>dY⟩
 refine eJ (xs:=List.map V.ref bs) Pv ((dn _ _ _).mpr ⟨none,rfl,rfl,rfl⟩) (λi σ' H1 _ pv=>?_) (λi z σ' H1 hz pv=>?_) (λσ' H1 pv=>?_)
 ·obtain⟨_,_,rfl,_⟩:=(dn _ _ _).mp pv
  exact hL
 ·obtain⟨z',rfl,rfl,al⟩:=(dn _ _ _).mp pv
  obtain⟨b,eb,rfl⟩:=eM hz
  have hi:i<bs.length:=(fq.mp eb).1
  have pQ:i<ts.length:=by have:=st.1;omega
  have et:ts[i]?=some ts[i]:=bq pQ
  repeat (walk_at "rd")
  refine⟨a,b,rfl,x,_,ha,st.2 i b _ eb et,?_⟩
  repeat (walk_at "rd")
  by_cases hp:aC x ts[i]=true
  ·rw[ay hp]
   have e:ts.any (λt=>if true then aC x t else aC t x)=true:=gk.mpr ⟨ts[i],m6 pQ,hp⟩
   rw[<-e]
   exact q
  ·rw[aE hp]
   refine(dn _ _ _).mpr ⟨_,rfl,rfl,?_⟩
   rw[gR,et,List.any_append,al]
   simp[hp]
 ·obtain⟨z',rfl,rfl,al⟩:=(dn _ _ _).mp pv
  rw[aM,st.1,gE]at al
  repeat (walk_at "rd")
  have e:ts.any (λt=>if true then aC x t else aC t x)=false:=al
  rw[<-e]
  exact q
theorem oq(T:Txt K mg t):bX P w K mg base gi 5 t.rj t.qX ["family"] PN:=by
 have oU:=V5 (P:=P) (w:=w) (base:=base) T
 refine T.jW.qK DK (λvs H Q E h=>?_) (λdc A outer s H vs Q E hr h hc hf=>?_)
 ·obtain⟨a,rfl,_⟩:=h;rfl
 have h':=h
 obtain⟨L,rfl,_⟩:=h
 refine⟨_,(by exact aA (aS (aF oU (hr.mono (by omega)) (cK hc) T.oy T.jg.kp T.oK .nil aY (ae (aj hc 0) ah)))),?_⟩
 repeat (walk_at "rd")
 exact h'
end
local macro_rules | `(tactic| walk_at "rd") => `(tactic| walk_at "rc")
local macro_rules | `(tactic| walk_at "rl") => `(tactic| first | (refine er fun R hR => ?_) | walk_at "ry" | (refine Nx.to (by assumption) _ _ ?_))
section
variable {P:Program}{w:World}{K:PySem.W.Frag}{mg:Str->Option Value}{base:Heap}{t:vL}
theorem V4(T:Txt K mg t):bX P w K mg base gi 1 t.uL t.uF ["whole","part"] YK:=by
 refine T.zS.qK Hj (λvs H Q E h=>?_) (λdc A outer s H vs Q E hr h hc hf=>?_)
 ·obtain⟨a,b,rfl,_⟩:=h;rfl
 obtain⟨a,b,rfl,x,y,ha,hb,lx,q⟩:=h
 have hu:=kg hr
 have Nk:=hr.gd
 refine⟨_,(by exact aA (aS (fE gO (cK hc) T.z_tuple ko (ae (cz hc ["member"] [1] rfl (by decide +kernel) (fL (aj hc 0)) (λ_ hc=>mB hc (by decide +kernel) 0 (by decide +kernel)) (λ_ hc=>ib (bO uk (aj hc 0) (aj hc 1) (by with_unfolding_all rfl))) (λ_ hc=>(aj hc 0))) ah)))),?_⟩
 repeat (walk_at "rd")
 refine⟨⟨_,bR ha⟩,?_⟩
 obtain⟨Pc,jX⟩:∃Pc:Addr->Nat->List V->Hp->Prop,∀Z i ys H',Pc Z i ys H'↔ys=List.map V.int (cH (x.take i) y)/\bP H H'/\H' Z=some (.lst ys):=⟨_,λ_ _ _ _=>dY⟩
 refine km (zs:=List.map V.int x) Pc (λZ hZ=>(jX _ _ _ _).mpr ⟨rfl,aH hZ _,ai⟩) (λZ hZ i ys H' _ pv=>?_) (λZ hZ i z ys H' hz pv cb=>?_) (λZ hZ ys H' pv=>?_)
 ·obtain⟨_,s,_⟩:=(jX _ _ _ _).mp pv
  exact s _ _ ha
 ·obtain⟨rfl,s1,qR⟩:=(jX _ _ _ _).mp pv
  obtain⟨n,en,rfl⟩:=int_at hz
  have hi:i<x.length:=(fq.mp en).1
  have IK:=s1 _ _ hb
  have ef:cH (x.take (i+1)) y=cH (x.take i) y++(if n∈y then [] else [n]):=by
   unfold cH
   rw[gR,en,rH]
   by_cases hm:n∈y <;> simp[hm]
  walk_at "rc"
  repeat (first | walk_at "rd" | simp only[IK])
  refine⟨rfl,lQ y,?_⟩
  rw[oC]
  by_cases hm:n∈y
  ·rw[aE (by simp[hm])]
   refine(jX _ _ _ _).mpr ⟨?_,s1,qR⟩
   rw[ef,ay hm,gj]
  ·rw[ay (by simp[hm])]
   have ll:(cH (x.take i) y).length<=900:=cQ (m7 _ _) (by rw[fZ];omega)
   refine⟨qR,bU (by omega),(jX _ _ _ _).mpr ⟨?_,ik s1 hZ,ai⟩⟩
   rw[ef,aE hm,dE]
   rfl
 ·obtain⟨rfl,s1,qR⟩:=(jX _ _ _ _).mp pv
  rw[aM,gE]at qR
  refine⟨Z,rfl,_,qR,λp hp=>q p _ (s1.trans (aH hp _)) (s1.free hp) ?_⟩
  exact ai
end
def PL:Sp:=λvs H Q _=>∃L,vs=[.ref L]/\∃ns:List Int,H L=some (.tup (List.map V.int ns))/\ns.length<64/\∀p ms H',bP H H'->H p=none->H' p=some (.tup (List.map V.int ms))->eG ms->(∀x,x∈ms↔x∈ns)->Q (.ref p) H'
section
variable {P:Program}{w:World}{K:PySem.W.Frag}{mg:Str->Option Value}{base:Heap}{t:vL}
theorem Mx(T:Txt K mg t):bX P w K mg base gi 1 t.xR t.xJ ["numbers"] PL:=by
 refine T.FT.qK Mj (λvs H Q E h=>?_) (λdc A outer s H vs Q E hr h hc hf=>?_)
 ·obtain⟨L,rfl,_⟩:=h;rfl
 obtain⟨L,rfl,ns,hL,l64,q⟩:=h
 refine⟨_,(by exact aA (aS (fE gO (cK hc) T.z_tuple ko (ae (aW (xK hr.hd) (cK hc) T.z_sorted xN (ae (fE (Jp hr.hd) (cK hc) T.z_set aCj (ae (aj hc 0) ah)) ah)) ah)))),?_⟩
 repeat (first | walk_at "rd" | simp only[hL])
 refine⟨ns,rfl,by omega,λp hp=>⟨ns,rfl,l64,λss' mem up p1 rB l hl=>?_⟩⟩
 exact q l ss' _ (((aH hp _).trans (aH rB _)).trans (aH hl _)) (((aH hp _).trans (aH rB _)).free hl) ai up mem
end
def UW:Sp:=λvs H Q _=>∃W,vs=[.ref W]/\∃x:List Int,H W=some (.tup (List.map V.int x))/\x.length<=10/\
 ∀D H' bs ts,bP H H'->H D=none->H' D=some (.lst (List.map V.ref bs))->aL H' bs ts->ts.Nodup->(∀t,t∈ts↔t∈cB x)->ts.Pairwise (λa b=>bT a b=true)->Q (.ref D) H'
section
variable {P:Program}{w:World}{K:PySem.W.Frag}{mg:Str->Option Value}{base:Heap}{t:vL}
theorem Rj(T:Txt K mg t):bX P w K mg base gi 6 t.q0 t.qU ["whole"] UW:=by
 have iR:=oq (P:=P) (w:=w) (base:=base) T
 refine T.xW.qK j9 (λvs H Q E h=>?_) (λdc A outer s H vs Q E hr h hc hf=>?_)
 ·obtain⟨a,rfl,_⟩:=h;rfl
 obtain⟨W,rfl,x,hW,lx,q⟩:=h
 refine⟨_,(by apply aq;exact(aP hc j9.nd hf 1 (by decide +kernel) (dU (ae (iT ah) ah)));apply aq;exact(eL jt rfl (fL (aj hc 0)) (pA hc j9.nd hf 2 (by decide +kernel)) (by exact aA (aP hc j9.nd hf 1 (by decide +kernel) (bt Hx (aj hc 1) (cz hc ["part"] [2] rfl (by decide +kernel) (cD (aj hc 1)) (λ_ hc=>mB hc (by decide +kernel) 0 (by decide +kernel)) (λ_ _=>dh) (λ_ hc=>(bt xj (aj hc 0) (iT (ae (aj hc 1) ah)))))))));exact aA (aS (aF iR (hr.mono (by omega)) (cK hc) T.mH T.jW.kp T.mQ .nil aY (ae (aj hc 1) ah)))),?_⟩
 repeat (walk_at "rd")
 refine⟨by decide,λp hp=>⟨by decide,λL0 Ue=>?_⟩⟩
 have s0:=(aH hp (.tup [])).trans (aH Ue (.lst [V.ref p]))
 have Oi:upd (upd H p (.tup [])) L0 (.lst [V.ref p]) p=some (.tup []):=(aH Ue _) _ _ ai
 have XT:upd (upd H p (.tup [])) L0 (.lst [V.ref p]) L0=some (.lst [V.ref p]):=ai
 generalize upd (upd H p (.tup [])) L0 (.lst [V.ref p])=H0 at s0 Oi XT ⊢
 refine⟨⟨_,bR (s0 _ _ hW)⟩,?_⟩
 obtain⟨Pv,dn⟩:∃Pv:Nat->St->Hp->Prop,∀i σ' H',Pv i σ' H'↔∃(L:Addr) (z:Option V) (bs:List Addr),σ'=[some (.ref W),some (.ref L),z]/\bP H H'/\H' L=some (.lst (List.map V.ref bs))/\aL H' bs (cB (x.take i)):=⟨_,λ_ _ _=>dY⟩
 refine jN (xs:=List.map V.int x) Pv ((dn _ _ _).mpr ⟨L0,none,[p],rfl,s0,XT,rfl,λi b t h1 h2=>?_⟩) (λi σ' H1 _ pv=>?_) (λi z σ' H1 hz pv=>?_) (λσ' H1 pv=>?_)
 ·have Ug:([[]]:List (List Int))[i]?=some t:=h2
  cases i with
  | zero=>cases h1;cases Ug;exact Oi
  | succ n=>simp at h1
 ·obtain⟨_,_,_,_,s1,_⟩:=(dn _ _ _).mp pv
  exact s1 _ _ hW
 ·obtain⟨L,z',bs,rfl,s1,hL,sa⟩:=(dn _ _ _).mp pv
  obtain⟨m,em,rfl⟩:=int_at hz
  have hi:i<x.length:=(fq.mp em).1
  have et:x.take (i+1)=x.take i++[m]:=by rw[gR,em];rfl
  have lb:bs.length<=1024:=by
   rw[sa.1,gI,fZ];exact xh (by omega)
  have ls:=sa.1
  repeat (walk_at "rd")
  refine⟨⟨_,aX hL⟩,?_⟩
  refine eQ (zs:=List.map V.ref bs) (λj=>(cB (x.take i))[j]?.map (· ++ [m])) (λ_=>gZ) gZ.same gZ.puts hL (by rw[aM];omega) (λDD c H2 j z yes no hj s2 Oq Oo eF vY=>?_) (λD H2 vs s2 hD Ce rl=>?_)
  ·obtain⟨b,eb,rfl⟩:=eM hj
   have Nq:j<bs.length:=(fq.mp eb).1
   have es:(cB (x.take i))[j]?=some ((cB (x.take i))[j]'(by omega)):=bq _
   have hb:=s2 _ _ (sa.2 j b _ eb es)
   have Fg:=eF ((cB (x.take i))[j]'(by omega)++[m]) (by rw[es];rfl)
   have ly:=kJ (m6 (l:=cB (x.take i)) (n:=j) (by omega))
   rw[fZ]at ly
   generalize (cB (x.take i))[j]'(by omega)=y at hb Fg ly
   walk_at "rc"
   repeat (walk_at "rd")
   refine⟨by decide,λp1 rB=>⟨_,(aH rB _) _ _ hb,by rw[aM];exact ie (by omega),λp2 H3 s3 _ XQ=>Fg _ _ ((aH rB _).trans s3) ⟨p2,rfl,by rw[XQ,dE];rfl⟩⟩⟩
  ·obtain⟨cs,rfl,sc⟩:=se rl
   rw[aM,ls,oE (l:=cB (x.take i)) (g:=(· ++ [m])) λk hk=>by rw[bq hk];rfl]at sc
   have WK:=s2 _ _ hL
   repeat (first | walk_at "rd" | simp only[WK,Ce])
   have lc:=sc.1
   rw[aM]at lc
   refine⟨ie (by omega),λp1 rB=>(dn _ _ _).mpr ⟨p1,_,bs++cs,rfl,(s1.trans s2).trans (aH rB _),by rw[ai,dE],?_⟩⟩
   rw[et,wX]
   exact((sa.mono λb xs e=>s2 _ _ e).app sc).mono λb xs e=>(aH rB _) _ _ e
 ·obtain⟨L,z',bs,rfl,s1,hL,sa⟩:=(dn _ _ _).mp pv
  rw[aM,gE]at sa
  repeat (walk_at "rd")
  refine⟨L,rfl,bs,_,hL,sa,?_,λD H2 cs ts s2 hD Ce sc nd mem pw=>q D H2 cs ts (s1.trans s2) (s1.free hD) Ce sc nd mem pw⟩
  rw[sa.1,gI]
  have:=xh lx
  omega
end
local macro_rules | `(tactic| walk_at "rd") => `(tactic| walk_at "rc")
local macro_rules | `(tactic| walk_at "rl") => `(tactic| first | (refine er fun R hR => ?_) | walk_at "ry" | (refine Nx.to (by assumption) _ _ ?_))
def JV(g:List (List Int)->List Int->Prop):Sp:=λvs H Q _=>∃L,vs=[.ref L]/\∃as ss,H L=some (.lst (List.map V.ref as))/\aL H as ss/\as.length<=90000/\(∀x∈ss,eG x)/\
 ∀D H' bs ts,bP H H'->H D=none->H' D=some (.lst (List.map V.ref bs))->aL H' bs ts->(∀x,x∈ts↔x∈ss/\g ss x)->ts.Pairwise (λa b=>bT a b=true)->Q (.ref D) H'
section
variable {P:Program}{w:World}{K:PySem.W.Frag}{mg:Str->Option Value}{base:Heap}{t:vL}
theorem Rm(T:Txt K mg t):bX P w K mg base gi 6 t.rh t.qW ["family"] (JV λss x=>∀y∈ss,aC y x=true->y=x):=by
 have iR:=oq (P:=P) (w:=w) (base:=base) T
 have xT:=Bu (P:=P) (w:=w) (base:=base) T
 refine T.xX.qK n8 (λvs H Q E h=>?_) (λdc A outer s H vs Q E hr h hc hf=>?_)
 ·obtain⟨L,rfl,_⟩:=h;rfl
 obtain⟨L,rfl,as,ss,hL,sat,Wh,rise,q⟩:=h
 refine⟨_,(by apply aq;exact(aP hc n8.nd hf 1 (by decide +kernel) (dU ah));apply aq;exact(eL jt rfl (cD (aF iR (hr.mono (by omega)) (cK hc) T.mH T.jW.kp T.mQ .nil aY (ae (aj hc 0) ah))) (pA hc n8.nd hf 2 (by decide +kernel)) (by exact aA (cO (dR (bY (aF xT (hr.mono (by omega)) (cK hc) T.xr T.oV.kp T.xO .nil aY (ae (aj hc 2) (ae (aj hc 1) ah))))) (by exact aA (dH (nY uW uX uY fj (aj hc 1) (ae (aj hc 2) ah)))) bI)));exact aA (aS (aj hc 1))),?_⟩
 repeat (walk_at "rd")
 refine⟨by decide,λR hR=>?_⟩
 have sR:=aH hR (.lst [])
 refine⟨L,rfl,as,ss,sR _ _ hL,sat.mono λb xs e=>sR _ _ e,Wh,λD H1 bs ts s1 hD Cg st nd mem pw=>?_⟩
 have CT:H1 R=some (.lst []):=s1 _ _ ai
 have lt:ts.length<=90000:=by
  have:=dI nd λx hx=>(mem x).mp hx
  have:=sat.1
  omega
 have hRD:R≠D:=az ai hD
 repeat (walk_at "rd")
 refine⟨⟨_,aX Cg⟩,?_⟩
 obtain⟨Pv,dn⟩:∃Pv:Nat->St->Hp->Prop,∀i σ' H',Pv i σ' H'↔∃(x:Option V) (cs:List Addr) (vs:List (List Int)),σ'=[some (.ref L),some (.ref R),x]/\H'=upd H1 R (.lst (List.map V.ref cs))/\aL H1 cs vs/\vs.length<=i/\eO ts []=eO (ts.drop i) vs:=⟨_,λ_ _ _=>dY⟩
 refine eJ (xs:=List.map V.ref bs) Pv ((dn _ _ _).mpr ⟨none,[],[],rfl,?_,⟨rfl,λi b t e=>by simp at e⟩,bj _,rfl⟩) (λi σ' H2 _ pv=>?_) (λi z σ' H2 hz pv=>?_) (λσ' H2 pv=>?_)
 ·funext b
  by_cases e:b=R
  ·rw[e,ai,CT];rfl
  ·rw[au e]
 ·obtain⟨_,_,_,_,rfl,_⟩:=(dn _ _ _).mp pv
  rw[au hRD.symm];exact Cg
 ·obtain⟨y,cs,vs,rfl,rfl,sv,lv,ef⟩:=(dn _ _ _).mp pv
  obtain⟨b,eb,rfl⟩:=eM hz
  have hi:i<bs.length:=(fq.mp eb).1
  have pQ:i<ts.length:=by have:=st.1;omega
  have et:ts[i]?=some ts[i]:=bq pQ
  have hb:=st.2 i b _ eb et
  have k1:∀o c xs,H1 c=some (.tup xs)->upd H1 R o c=some (.tup xs):=λo c xs e=>by rw[au (bh e CT (by intro z;cases z))];exact e
  rw[wL pQ]at ef
  have WY:eO ts []=eO (ts.drop (i+1)) (if vs.any (λt=>aC t ts[i]) then vs else vs++[ts[i]]):=ef
  repeat (walk_at "rd")
  refine⟨b,R,rfl,_,cs,vs,k1 _ _ _ hb,ai,sv.mono (k1 _),?_⟩
  repeat (walk_at "rd")
  by_cases c:vs.any (λt=>aC t ts[i])=true
  ·rw[aE (by rw[c];simp)]
   rw[ay c]at WY
   exact(dn _ _ _).mpr ⟨_,cs,vs,rfl,rfl,sv,by omega,WY⟩
  ·rw[ay (by rw[Gv c];rfl)]
   rw[aE c]at WY
   refine⟨.inl ⟨rfl,_,aX ai⟩,by rw[sv.1];exact vQ (by omega),?_⟩
   exact(dn _ _ _).mpr ⟨_,cs++[b],vs++[ts[i]],rfl,by rw[dE];rfl,sv.snoc hb,by rw[cS];simp;omega,WY⟩
 ·obtain⟨y,cs,vs,rfl,rfl,sv,lv,ef⟩:=(dn _ _ _).mp pv
  have ln:(List.map V.ref bs).length=ts.length:=by rw[aM,st.1]
  rw[ln,List.drop_length]at ef
  have ev:vs=eO ts []:=ef.symm
  repeat (walk_at "rd")
  have rt:∀x∈ts,eG x:=λx hx=>rise x ((mem x).mp hx)
  obtain⟨l,el,sl⟩:=iC ts []
  rw[mw]at el
  have k1:∀o c xs,H1 c=some (.tup xs)->upd H1 R o c=some (.tup xs):=λo c xs e=>by rw[au (bh e CT (by intro z;cases z))];exact e
  refine q R _ cs vs (λc u e=>?_) hR ai (sv.mono (k1 _)) (λx=>?_) (by rw[ev,el];exact pw.sublist sl)
  ·rw[au (az e hR)];exact s1 _ _ (sR _ _ e)
  ·rw[ev]
   have:=qO ts [] [] (by simpa using rt) (by simpa using pw) (λx=>by simp) x
   rw[mw]at this
   rw[this]
   constructor
   ·rintro⟨h1,h2⟩
    exact⟨(mem x).mp h1,λy hy=>h2 y ((mem y).mpr hy)⟩
   ·rintro⟨h1,h2⟩
    exact⟨(mem x).mpr h1,λy hy=>h2 y ((mem y).mp hy)⟩
theorem Ea(T:Txt K mg t):bX P w K mg base gi 6 t.kZ t.kS ["family"] (JV λss x=>∀y∈ss,aC x y=true->y=x):=by
 have iR:=oq (P:=P) (w:=w) (base:=base) T
 have uN:=D' (P:=P) (w:=w) (base:=base) T
 refine T.p5.qK jJ (λvs H Q E h=>?_) (λdc A outer s H vs Q E hr h hc hf=>?_)
 ·obtain⟨L,rfl,_⟩:=h;rfl
 obtain⟨L,rfl,as,ss,hL,sat,Wh,rise,q⟩:=h
 refine⟨_,(by apply aq;exact(aP hc jJ.nd hf 1 (by decide +kernel) (dU ah));apply aq;exact(eL jt rfl (Uk (cK hc) T.z_reversed (ae (aF iR (hr.mono (by omega)) (cK hc) T.mH T.jW.kp T.mQ .nil aY (ae (aj hc 0) ah)) ah)) (pA hc jJ.nd hf 2 (by decide +kernel)) (by exact aA (cO (dR (bY (aF uN (hr.mono (by omega)) (cK hc) T.ur T.mh.kp T.uJ .nil aY (ae (aj hc 2) (ae (aj hc 1) ah))))) (by exact aA (dH (nY uW uX uY fj (aj hc 1) (ae (aj hc 2) ah)))) bI)));exact aA (aS (aF iR (hr.mono (by omega)) (cK hc) T.mH T.jW.kp T.mQ .nil aY (ae (aj hc 1) ah)))),?_⟩
 repeat (walk_at "rd")
 refine⟨by decide,λR hR=>?_⟩
 have sR:=aH hR (.lst [])
 refine⟨L,rfl,as,ss,sR _ _ hL,sat.mono λb xs e=>sR _ _ e,Wh,λD H1 bs ts s1 hD Cg st nd mem pw=>?_⟩
 have CT:H1 R=some (.lst []):=s1 _ _ ai
 have lt:ts.length<=90000:=by
  have:=dI nd λx hx=>(mem x).mp hx
  have:=sat.1
  omega
 have hRD:R≠D:=az ai hD
 have str:=st.rev
 repeat (walk_at "rd")
 refine⟨_,aX Cg,?_⟩
 obtain⟨Pv,dn⟩:∃Pv:Nat->St->Hp->Prop,∀i σ' H',Pv i σ' H'↔∃(x:Option V) (cs:List Addr) (vs:List (List Int)),σ'=[some (.ref L),some (.ref R),x]/\H'=upd H1 R (.lst (List.map V.ref cs))/\aL H1 cs vs/\vs.length<=i/\jM ts.reverse []=jM (ts.reverse.drop i) vs:=⟨_,λ_ _ _=>dY⟩
 refine Jc (xs:=List.map V.ref bs) Pv ((dn _ _ _).mpr ⟨none,[],[],rfl,?_,⟨rfl,λi b t e=>by simp at e⟩,bj _,rfl⟩) (λi σ' H2 _ pv=>?_) (λi z σ' H2 hz pv=>?_) (λσ' H2 pv=>?_)
 ·funext b
  by_cases e:b=R
  ·rw[e,ai,CT];rfl
  ·rw[au e]
 ·obtain⟨_,_,_,_,rfl,_⟩:=(dn _ _ _).mp pv
  rw[au hRD.symm];exact Cg
 ·obtain⟨y,cs,vs,rfl,rfl,sv,lv,ef⟩:=(dn _ _ _).mp pv
  rw[<-wB]at hz
  obtain⟨b,eb,rfl⟩:=eM hz
  have hi:i<bs.reverse.length:=(fq.mp eb).1
  have pQ:i<ts.reverse.length:=by have:=str.1;omega
  have hi3:i<90000:=by rw[tY]at pQ;omega
  have et:ts.reverse[i]?=some ts.reverse[i]:=bq pQ
  have hb:=str.2 i b _ eb et
  have k1:∀o c xs,H1 c=some (.tup xs)->upd H1 R o c=some (.tup xs):=λo c xs e=>by rw[au (bh e CT (by intro z;cases z))];exact e
  rw[wL pQ]at ef
  have WY:jM ts.reverse []=jM (ts.reverse.drop (i+1)) (if vs.any (λt=>aC ts.reverse[i] t) then vs else vs++[ts.reverse[i]]):=ef
  repeat (walk_at "rd")
  refine⟨b,R,rfl,_,cs,vs,k1 _ _ _ hb,ai,sv.mono (k1 _),?_⟩
  repeat (walk_at "rd")
  by_cases c:vs.any (λt=>aC ts.reverse[i] t)=true
  ·rw[aE (by rw[c];simp)]
   rw[ay c]at WY
   exact(dn _ _ _).mpr ⟨_,cs,vs,rfl,rfl,sv,by omega,WY⟩
  ·rw[ay (by rw[Gv c];rfl)]
   rw[aE c]at WY
   refine⟨.inl ⟨rfl,_,aX ai⟩,by rw[sv.1];exact vQ (by omega),?_⟩
   exact(dn _ _ _).mpr ⟨_,cs++[b],vs++[ts.reverse[i]],rfl,by rw[dE];rfl,sv.snoc hb,by rw[cS];simp;omega,WY⟩
 ·obtain⟨y,cs,vs,rfl,rfl,sv,lv,ef⟩:=(dn _ _ _).mp pv
  have ln:(List.map V.ref bs).length=ts.reverse.length:=by rw[aM,st.1,tY]
  rw[ln,List.drop_length]at ef
  have ev:vs=jM ts.reverse []:=ef.symm
  repeat (walk_at "rd")
  have rt:∀x∈ts,eG x:=λx hx=>rise x ((mem x).mp hx)
  obtain⟨l,el,sl⟩:=qS ts.reverse []
  rw[mw]at el
  have k1:∀o c xs,H1 c=some (.tup xs)->upd H1 R o c=some (.tup xs):=λo c xs e=>by rw[au (bh e CT (by intro z;cases z))];exact e
  have mv:∀x,x∈vs↔x∈ts/\∀y∈ts,aC x y=true->y=x:=λx=>by
   rw[ev]
   have:=xG ts.reverse [] [] (by simpa using rt) (by rw[mw,List.pairwise_reverse];exact pw) (λx=>by simp) (λy hy=>by simp at hy) x
   rw[mw]at this
   simpa using this
  have lv2:vs.length<=ts.length:=by rw[ev,el];have:=sl.length_le;rwa [tY]at this
  have sH:bP H (upd H1 R (.lst (List.map V.ref cs))):=λc u e=>by rw[au (az e hR)];exact s1 _ _ (sR _ _ e)
  refine⟨R,rfl,cs,vs,ai,sv.mono (k1 _),by rw[sv.1];omega,λD2 H3 bs2 ts2 s3 Ce Nw Az nd2 aD2 pw2=>q D2 H3 bs2 ts2 (sH.trans s3) (sH.free Ce) Nw Az (λx=>?_) pw2⟩
  rw[aD2 x,mv x]
  constructor
  ·rintro⟨h1,h2⟩
   exact⟨(mem x).mp h1,λy hy=>h2 y ((mem y).mpr hy)⟩
  ·rintro⟨h1,h2⟩
   exact⟨(mem x).mpr h1,λy hy=>h2 y ((mem y).mp hy)⟩
end
local macro_rules | `(tactic| walk_at "rd") => `(tactic| walk_at "rc")
local macro_rules | `(tactic| walk_at "rc") => do
  let ids := ("L2.start LW yV L7 Dl tB Pp tUn Dk tC uc dg Sy Pn Pm Dp Dq yX L5 YC Hc wV Pt Pl Qn rI rU rEq rNe Qa Dt ipI Qx Vm Y6 Vk Vj J5 J7 J6 Bo Hm vS Hn Ho Bm Qu xg Kb Zb xc He Qw Y9 QC Y8 Za Vn Vl tSl Dm rR Y4 tBM YD vR Bk xf Hl Bl uh Ve Yz Px tOr Pr Du YB Dn tIf List.map_cons List.map_nil List.cons_append List.nil_append List.append_nil List.length_cons List.length_nil List.replicate List.getElem?_cons_zero List.getElem?_cons_succ List.set_cons_zero List.set_cons_succ Nat.reduceAdd Nat.reduceSub Nat.reduceLeDiff Option.some.injEq V.int.injEq V.ref.injEq V.str.injEq V.bl.injEq V.ty.injEq List.cons.injEq HO.lst.injEq HO.tup.injEq HO.dK.injEq exists_eq_left exists_eq_left' exists_and_left and_true true_and and_assoc exists_const reduceCtorEq ai vN decide_eq_true_eq List.length_map ite_true ite_false Bool.false_eq_true Bool.true_and Bool.and_true FK Le Ld Lc TF TB Iq Ip Io Im Il Ti Tg Tf Te Jm Jl Jk Jj Jf cg Option.join_some Option.join_none wW Au Fe RQ RP J' wU wR Ka J8 J9 Bj Y7 uh Qv Bn o8 Ff RT RN Ar Pk Int.zero_add Int.reduceMul Int.reduceAdd Int.reduceSub Int.reduceLT Int.reduceLE Int.reducePow Int.reduceToNat Int.reduceNeg gt_iff_lt ge_iff_le Ba hv".splitOn " ").toArray.map fun x => Lean.mkIdent x.toName
  `(tactic| simp only [$[$ids:ident],*])
section
variable {P:Program}{w:World}{K:PySem.W.Frag}{mg:Str->Option Value}{base:Heap}{t:vL}
theorem Kl(T:Txt K mg t):bX P w K mg base gi 1 t.oO t.oH ["_law_hand_here"] Ba:=by
 refine T.jh.qK Bh (λvs H Q E h=>?_) (λdc A outer s H vs Q E hr h hc hf=>?_)
 ·obtain⟨h,rfl,_⟩:=h;rfl
 obtain⟨h,rfl,l,a,b,c,d,e,hh,q⟩:=h
 refine⟨_,(by apply aq;exact(mz (bt oo (bt qI (bQ kO (aj hc 0) ao (λ_ _=>rfl)) ao) ao) (mC (aj hc 0) ao sf));apply aq;exact(mz (bt oo (bt qI (bQ kO (aj hc 0) ao (λ_ _=>rfl)) ao) ao) (mC (aj hc 0) ao sf));exact aA (aS (bt iz (bQ kO (aj hc 0) ao (λ_ _=>rfl)) (bQ kO (aj hc 0) ao (λ_ _=>rfl))))),?_⟩
 unfold hv at *
 walk_at "rd"
 simp only[hh]
 walk_at "rd"
 exact q
theorem V3(T:Txt K mg t):bX P w K mg base gi 2 t.oM t.oF ["_law_hand_here"] YH:=by
 have jf:=Kl (P:=P) (w:=w) (base:=base) T
 refine T.vo.qK mF (λvs H Q E h=>?_) (λdc A outer s H vs Q E hr h hc hf=>?_)
 ·obtain⟨h,rfl,_⟩:=h;rfl
 obtain⟨h,rfl,l,ns,o,hh,⟨a,b,c,d,e,rfl,ha⟩,hl,q⟩:=h
 refine⟨_,(by apply aq;exact(aP hc mF.nd hf 1 (by decide +kernel) ao);apply nW;exact(cO (bO Rc (bQ kO (aj hc 0) ao (λ_ _=>rfl)) (aW zL (cK hc) T.z_len tj (ae (bQ kO (aj hc 0) ao (λ_ _=>rfl)) ah)) (dA _)) (by exact aA (aP hc mF.nd hf 1 (by decide +kernel) (aW Tt (cK hc) T.z_abs aCl (ae (bQ kO (bQ kO (aj hc 0) ao (λ_ _=>rfl)) (bQ kO (aj hc 0) ao (λ_ _=>rfl)) (λ_ _=>rfl)) ah)))) bI);apply aq;exact(Dc (aj hc 0) ao Yg ao RM sf);apply nW;exact(cO (bO aBo (aj hc 1) (bt Bs ao ao) (dA _)) (by exact aA (mz (aj hc 1) (mC (aj hc 0) ao sf))) (by exact aA (mz ao (mC (aj hc 0) ao sf))));apply aq;exact(mz (bt iz (bt oo (bt iz (bQ kO (aj hc 0) ao (λ_ _=>rfl)) (bt oo (aj hc 1) ao)) ao) ao) (mC (aj hc 0) ao sf));apply aq;exact(mz (bt iz (bt oo (bt iz (bt qI (bQ kO (aj hc 0) ao (λ_ _=>rfl)) ao) (bt oo (aj hc 1) ao)) ao) ao) (mC (aj hc 0) ao sf));apply aq;exact(dH (aF jf (hr.mono (by omega)) (cK hc) T.kf T.jh.kp T.kr .nil aY (ae (aj hc 0) ah)));exact aA (dH (aF jf (hr.mono (by omega)) (cK hc) T.kf T.jh.kp T.kr .nil aY (ae (aj hc 0) ah)))),?_⟩
 unfold hv at *
 walk_at "rd"
 refine⟨λσ' H'=>∃z,σ'=[some (.ref h),some (.int z)]/\H'=H,?_,?_⟩
 ·repeat (first | walk_at "rd" | simp only[hh,hl])
  split
  ·rename_i iE
   obtain⟨v,Wk⟩:=Tz ha iE
   rw[Wk]
   walk_at "rd"
   exact⟨_,rfl⟩
  ·exact⟨_,rfl⟩
 ·rintro σ' H' ⟨z,e1,e2⟩
  subst e1 e2
  repeat (first | walk_at "rd" | simp only[hh,hl])
  refine⟨λσ' rF=>∃b' c',σ'=[some (.ref h),some (.int z)]/\rF=upd H' h (.lst [.ref l,.int (a+1),.int b',.int c',.int d,.int e]),?_,?_⟩
  ·repeat (first | walk_at "rd" | simp only[hh,hl])
   split
   ·exact⟨_,_,rfl⟩
   ·exact⟨_,_,rfl⟩
  ·rintro σ' rF ⟨b',c',e1,e2⟩
   subst e1 e2
   repeat (first | walk_at "rd" | simp only[hh,hl])
   exact q _ ⟨_,_,_,_,_,rfl,by omega⟩
theorem vV(T:Txt K mg t):bX P w K mg base gi 3 t.oQ t.oJ ["_law_hand_here","_law_many"] P4:=by
 have jf:=Kl (P:=P) (w:=w) (base:=base) T
 have FP:=V3 (P:=P) (w:=w) (base:=base) T
 refine T.bF.qK fO (λvs H Q E h=>?_) (λdc A outer s H vs Q E hr h hc hf=>?_)
 ·obtain⟨h,m,rfl,_⟩:=h;rfl
 obtain⟨h,m,rfl,hm,hm2,l,ns,o,hh,⟨a,b,c,d,e,rfl,ha⟩,hl,q⟩:=h
 refine⟨_,(by apply nW;exact(cO (m8 (oY (bO sF (bQ kO (aj hc 0) ao (λ_ _=>rfl)) ao (dA _)) (lE (bO sF (bQ kO (aj hc 0) ao (λ_ _=>rfl)) ao (dA _))))) (by exact aA (dH (aF FP (hr.mono (by omega)) (cK hc) T.Ek T.vo.kp T.Fz .nil aY (ae (aj hc 0) ah)))) bI);apply aq;exact(cO (bO Rg (bQ kO (aj hc 0) ao (λ_ _=>rfl)) ao (dA _)) (by apply aq;exact(aP hc fO.nd hf 2 (by decide +kernel) (bt oo (bQ kO (aj hc 0) ao (λ_ _=>rfl)) (aj hc 1)));apply aq;exact(mz (bt Rh (bQ kO (aj hc 0) ao (λ_ _=>rfl)) (aj hc 1)) (mC (aj hc 0) ao sf));exact aA (aS (aj hc 2))) bI);apply aq;exact(Dc (aj hc 0) ao Yg ao aAi sf);apply aq;exact(aP hc fO.nd hf 3 (by decide +kernel) (aF jf (hr.mono (by omega)) (cK hc) T.kf T.jh.kp T.kr .nil aY (ae (aj hc 0) ah)));apply aq;exact(aP hc fO.nd hf 4 (by decide +kernel) ao);apply aq;exact(yK jt (bO Rc (aj hc 4) (aj hc 1) (dA _)) (by apply aq;exact(aP hc fO.nd hf 3 (by decide +kernel) (bt iz (bt qI (aj hc 3) ao) (aF jf (hr.mono (by omega)) (cK hc) T.kf T.jh.kp T.kr .nil aY (ae (aj hc 0) ah))));exact aA (aP hc fO.nd hf 4 (by decide +kernel) (bt qI (aj hc 4) ao))));exact aA (aS (bt oo (aj hc 3) (aj hc 1)))),?_⟩
 unfold hv at *
 walk_at "rd"
 refine⟨λσ' H'=>∃a b c d e,σ'=[some (.ref h),some (.int m),none,none,none]/\H'=upd H h (hv l a b c d e)/\0<=a,?_,?_⟩
 ·have same:H=upd H h (hv l a b c d e):=by
   funext x;unfold upd;split
   ·rename_i e;rw[e,hh];rfl
   ·rfl
  repeat (first | walk_at "rd" | simp only[hh,hl])
  by_cases hb:b=0
  ·by_cases hc:c=0
   ·simp only[hb,hc,gB]
    repeat (first | walk_at "rd" | simp only[hh,hl])
    refine⟨h,rfl,l,ns,_,hh,⟨a,b,c,d,e,by rw[hb,hc];rfl,ha⟩,hl,?_⟩
    rintro o' ⟨a',b',c',d',e',rfl,Ky⟩
    exact⟨a',b',c',d',e',rfl,Ky⟩
   ·simp only[hb,hc,gB,fu,ja]
    exact⟨a,b,c,d,e,same,ha⟩
  ·simp only[hb,fu,ja]
   exact⟨a,b,c,d,e,same,ha⟩
 ·rintro σ' H' ⟨a,b,c,d,e,e1,e2,ha⟩
  subst e1 e2
  repeat (first | walk_at "rd" | simp only[hh,hl])
  split
  ·rename_i hb
   refine⟨by omega,⟨by omega,hm2⟩,q _ _ (Int.emod_nonneg _ (by omega)) (Int.emod_lt_of_pos _ (by omega)) ⟨_,_,_,_,_,rfl,ha⟩⟩
  ·rename_i hb
   obtain⟨W,hW⟩:∃W:Nat->St->Hp->Prop,∀μ σ' H',W μ σ' H'↔∃v z a b c d e:Int,μ=(m-z).toNat/\σ'=[some (.ref h),some (.int m),none,some (.int v),some (.int z)]/\H'=upd H h (hv l a b c d e)/\0<=a/\1<=z:=⟨_,λ_ _ _=>dY⟩
   refine⟨W,⟨_,(hW _ _ _).mpr ⟨_,_,_,_,_,_,_,rfl,rfl,rfl,ha,by omega⟩⟩,?_⟩
   intro μ σ' H' hw'
   obtain⟨v,z,a,b,c,d,e,rfl,e1,e2,ha,hz⟩:=(hW _ _ _).mp hw'
   subst e1 e2
   walk_at "rd"
   split
   ·rename_i iE
    obtain⟨N,hN⟩:∃N:St->Hp->Prop,∀σ' H',N σ' H'↔∃v z' a b c d e:Int,σ'=[some (.ref h),some (.int m),none,some (.int v),some (.int z')]/\H'=upd H h (hv l a b c d e)/\0<=a/\z'=z*4294967296:=⟨_,λ_ _=>dY⟩
    refine⟨N,λσ' H' hn=>?_,?_⟩
    ·obtain⟨v,z',a,b,c,d,e,e1,e2,ha,e3⟩:=(hN _ _).mp hn
     exact⟨(m-z').toNat,by omega,(hW _ _ _).mpr ⟨v,z',a,b,c,d,e,rfl,e1,e2,ha,by omega⟩⟩
    ·repeat (first | walk_at "rd" | simp only[hh,hl])
     exact(hN _ _).mpr ⟨_,_,_,_,_,_,_,rfl,rfl,ha,rfl⟩
   ·refine⟨by omega,q _ _ (Int.emod_nonneg _ (by omega)) (Int.emod_lt_of_pos _ (by omega)) ⟨_,_,_,_,_,rfl,ha⟩⟩
theorem V6(T:Txt K mg t):bX P w K mg base gi 1 t.oP t.oI ["_law_script"] (YM K):=by
 refine T.vq.qK Bi (λvs H Q E h=>?_) (λdc A outer s H vs Q E hr h hc hf=>?_)
 ·obtain⟨a,ns,rfl,_⟩:=h;rfl
 obtain⟨a,ns,rfl,hS,q⟩:=h
 refine⟨_,(by exact aA (aS (dU (ae (fE Jq (cK hc) T.z_list Ju (ae (t8 JZ (aj hc 0) Dd (rM ao)) ah)) (ae ao (ae ao (ae ao (ae ao (ae ao ah))))))))),?_⟩
 walk_at "rd"
 refine⟨a,List.map V.int ns,rfl,hS,λp hp=>?_⟩
 rw[Ft]
 walk_at "rd"
 refine λl hl=>⟨by decide,λh hh=>?_⟩
 have s1:=aH hp (.lst (List.map V.int ((ns.drop (HT.dO ns.length 0 none)).take (HT.dO ns.length ns.length (some 63)-HT.dO ns.length 0 none))))
 have s2:=aH hl (.lst (List.map V.int ((ns.drop (HT.dO ns.length 0 none)).take (HT.dO ns.length ns.length (some 63)-HT.dO ns.length 0 none))))
 have s3:=aH hh (hv l 0 0 0 20011 40009)
 exact q h _ (s1.trans (s2.trans s3)) ((s1.trans s2).free hh) ⟨l,_,_,ai,⟨_,_,_,_,_,rfl,gD 0⟩,s3 _ _ ai⟩
end
local macro_rules | `(tactic| walk_at "rd") => `(tactic| walk_at "rc")
local macro_rules | `(tactic| walk_at "rl") => `(tactic| first | (refine er fun R hR => ?_) | walk_at "ry" | (refine Nx.to (by assumption) _ _ ?_))
def PJ:Sp:=λvs H Q _=>∃a b,vs=[.ref a,.ref b]/\∃x y:List Int,H a=some (.tup (List.map V.int x))/\H b=some (.tup (List.map V.int y))/\x.length<=900/\∀H',bP H H'->Q (.bl (aC x y)) H'
section
variable {P:Program}{w:World}{K:PySem.W.Frag}{mg:Str->Option Value}{base:Heap}{t:vL}
theorem zi(T:Txt K mg t):bX P w K mg base gi 1 t.iO t.iH ["_law_one","_law_other"] PJ:=by
 refine T.fX.qK si (λvs H Q E h=>?_) (λdc A outer s H vs Q E hr h hc hf=>?_)
 ·obtain⟨a,b,rfl,_⟩:=h;rfl
 obtain⟨a,b,rfl,x,y,ha,hb,lx,q⟩:=h
 refine⟨_,(by exact aA (aS (aW (px hr.hd) (cK hc) T.z_all Lb (ae (cz hc ["_law_member"] [1] rfl (by decide +kernel) (fL (aj hc 0)) (λ_ hc=>mB hc (by decide +kernel) 0 (by decide +kernel)) (λ_ _=>dh) (λ_ hc=>(nX Rf (aj hc 0) (aj hc 1) (by with_unfolding_all rfl)))) ah)))),?_⟩
 walk_at "r"
 refine⟨⟨_,bR ha⟩,?_⟩
 refine lV (zs:=List.map V.int x) (λj=>x[j]?.map λm=>V.bl (decide (m∈y))) (λ_=>N8) (λ_ _ _ _ _ _ r=>r) (λ_ _ _ _ _ _ _ r=>r) ha (by rw[aM];omega) (λDD c H4 j z yes no hj s4 Oq Oo eF vY=>?_) (λD H4 vs s4 hD zC rl=>?_)
 ·obtain⟨m,em,rfl⟩:=int_at hj
  rw[em]at eF
  walk_at "rc"
  walk_at "r"
  refine⟨_,s4 _ _ hb,rfl,lQ _,?_⟩
  rw[oC]
  exact eF _ rfl _ _ (λ_ _ e=>e) rfl
 have ev:=rP rl
 rw[aM,oE (l:=x) (g:=λm=>V.bl (decide (m∈y))) λk hk=>by rw[bq hk];rfl]at ev
 subst ev
 refine⟨D,rfl,x.map λm=>decide (m∈y),by rw[zC,fY];rfl,?_⟩
 rw[List.all_map]
 exact q _ s4
end
def Mb:Sp:=λvs H Q _=>∃h most,vs=[.ref h,.int most]/\∃n:Nat,most=(n:Int)/\n<=12/\iP H h/\∀R ms H',Dr h H H'->H R=none->H' R=some (.tup (List.map V.int ms))->ms.length<=n->eG ms->Q (.ref R) H'
theorem Dj{r a b c:Int}(r0:0<=r)(r1:r<3):∃z,v7 [V.int a,V.int b,V.int c] r=some (.int z)/\(z=a\/z=b\/z=c):=by
 have h:r=0\/r=1\/r=2:=by omega
 rcases h with rfl | rfl | rfl
 ·exact⟨a,rfl,.inl rfl⟩
 ·exact⟨b,rfl,.inr (.inl rfl)⟩
 ·exact⟨c,rfl,.inr (.inr rfl)⟩
section
variable {P:Program}{w:World}{K:PySem.W.Frag}{mg:Str->Option Value}{base:Heap}{t:vL}
theorem Hz(T:Txt K mg t):bX P w K mg base gi 4 t.jT t.jQ ["_law_hand_here","_law_most"] Mb:=by
 have bu:=vV (P:=P) (w:=w) (base:=base) T
 refine T.oW.qK cU (λvs H Q E h=>?_) (λdc A outer s H vs Q E hr h hc hf=>?_)
 ·obtain⟨h,m,rfl,_⟩:=h;rfl
 obtain⟨h,_,rfl,n,rfl,hn,hd,q⟩:=h
 refine⟨_,(by apply aq;exact(aP hc cU.nd hf 2 (by decide +kernel) (bQ kO (dU (ae ao (ae (bt Bs ao ao) (ae (bt Bs ao ao) ah)))) (aF bu (hr.mono (by omega)) (cK hc) T.bK T.bF.kp T.bL .nil aY (ae (aj hc 0) (ae ao ah))) (λ_ _=>rfl)));apply aq;exact(aP hc cU.nd hf 3 (by decide +kernel) (bQ kO (dU (ae ao (ae ao (ae (bt Bs ao ao) ah)))) (aF bu (hr.mono (by omega)) (cK hc) T.bK T.bF.kp T.bL .nil aY (ae (aj hc 0) (ae ao ah))) (λ_ _=>rfl)));apply aq;exact(aP hc cU.nd hf 4 (by decide +kernel) (bt Hw (aF bu (hr.mono (by omega)) (cK hc) T.bK T.bF.kp T.bL .nil aY (ae (aj hc 0) (ae (bt iz (bt qI ao (aj hc 2)) ao) ah))) (aj hc 2)));apply aq;exact(aP hc cU.nd hf 5 (by decide +kernel) (dU ah));apply aq;exact(eL jt rfl (ql (cK hc) T.z_range (ae (aF bu (hr.mono (by omega)) (cK hc) T.bK T.bF.kp T.bL .nil aY (ae (aj hc 0) (ae (bt iz (aj hc 1) ao) ah))) ah)) (pA hc cU.nd hf 6 (by decide +kernel)) (by apply aq;exact(dH (nY uW uX uY fj (aj hc 5) (ae (aj hc 4) ah)));exact aA (O1 hc cU.nd hf 4 (by decide +kernel) (bt iz ao (aF bu (hr.mono (by omega)) (cK hc) T.bK T.bF.kp T.bL .nil aY (ae (aj hc 0) (ae (aj hc 3) ah)))) RM)));exact aA (aS (fE gO (cK hc) T.z_tuple ko (ae (aj hc 5) ah)))),?_⟩
 repeat (walk_at "rd")
 refine⟨⟨by decide,by decide,by decide⟩,⟨by decide,by decide,by decide⟩,by decide,λp hp=>?_⟩
 have d0:=(Dr.refl (h:=h) (H:=H)).new (o:=.lst [V.int 3,V.int 1000000,V.int 1000000000000000000000000000000000000000000000000000000000000]) hp
 have hph:p≠h:=hd.ne hp
 refine dX hd d0 (by decide) (by decide) λr H1 r0 r1 d1 k1=>?_
 obtain⟨z,ez,hz⟩:=Dj (a:=3) (b:=1000000) (c:=1000000000000000000000000000000000000000000000000000000000000) r0 r1
 refine⟨_,rfl,_,by rw[k1 p hph];exact ai,_,ez,⟨by decide,by decide,by decide⟩,by decide,λp2 XQ=>?_⟩
 have d2:=d1.new (o:=.lst [V.int 1,V.int 5,V.int 1000000000]) XQ
 have aED:p2≠h:=(d1.iF hd).ne XQ
 refine dX hd d2 (by decide) (by decide) λr' H2 r0' r1' d3 k3=>?_
 obtain⟨st,es,hs⟩:=Dj (a:=1) (b:=5) (c:=1000000000) r0' r1'
 have XD:1<=z/\z<=1000000000000000000000000000000000000000000000000000000000000:=by omega
 have hs1:1<=st/\st<=1000000000:=by omega
 refine⟨_,rfl,_,by rw[k3 p2 aED];exact ai,_,es,?_⟩
 repeat (walk_at "rd")
 refine⟨.inl (by decide),dX hd d3 (by omega) (by omega) λx9 H3 a0 a1 d4 k4=>⟨_,rfl,by decide,λR CQ=>?_⟩⟩
 have hR:H R=none:=d4.free hd CQ
 have hRh:R≠h:=hd.ne hR
 refine dX hd (d4.new CQ) (by omega) (by omega) λnn H4 n0 n1 d5 k5=>?_
 have hR4:H4 R=some (.lst []):=(k5 R hRh).trans ai
 obtain⟨m,rfl⟩:∃m:Nat,nn=(m:Int):=⟨nn.toNat,by omega⟩
 refine⟨_,rfl,by omega,by omega,?_⟩
 obtain⟨Pv,dn⟩:∃Pv:Nat->St->Hp->Prop,∀i σ' H',Pv i σ' H'↔∃(v:Int) (y:Option V) (ms:List Int),σ'=[some (.ref h),some (.int (n:Int)),some (.int z),some (.int st),some (.int v),some (.ref R),y]/\Dr h H H'/\H' R=some (.lst (List.map V.int ms))/\ms.length=i/\eG ms/\∀m∈ms,m<v:=⟨_,λ_ _ _=>dY⟩
 refine Jb Pv ((dn _ _ _).mpr ⟨_,none,[],rfl,d5,hR4,rfl,List.Pairwise.nil,λk hk=>by cases hk⟩) (λi σ' H4 hi pv=>?_) (λσ' H4 pv=>?_)
 ·obtain⟨v,y,ms,rfl,d5,Om,lm,rise,below⟩:=(dn _ _ _).mp pv
  rw[nR]at hi
  repeat (first | walk_at "rd" | simp only[Om])
  refine⟨.inl ⟨rfl,_,aX Om⟩,bU (by omega),?_⟩
  simp only[Uy,ipI]
  repeat (walk_at "rd")
  refine dX hd (d5.put hR) (by omega) (by omega) λr H6 r0 r1 d6 k6=>?_
  refine⟨_,rfl,(dn _ _ _).mpr ⟨_,_,ms++[v],rfl,d6,by rw[k6 R hRh,ai,dE];rfl,by rw[cS];simp;omega,?_,λm hm=>?_⟩⟩
  ·unfold eG
   rw[g9]
   exact⟨rise,by simp,λa ha b hb=>by rw[show b=v by simpa using hb];exact below a ha⟩
  ·rcases cw.mp hm with u | u
   ·have:=below m u;omega
   ·have:m=v:=by simpa using u
    omega
 ·obtain⟨v,y,ms,rfl,d5,Om,lm,rise,below⟩:=(dn _ _ _).mp pv
  rw[nR]at lm
  repeat (first | walk_at "rd" | simp only[Om])
  exact λp hp=>q p ms _ (d5.new hp) (d5.free hd hp) ai (by omega) rise
end
def YJ:Sp:=λvs H Q _=>∃h W,vs=[.ref h,.ref W]/\iP H h/\∃x:List Int,H W=some (.tup (List.map V.int x))/\x.length<=100/\∀R y H',Dr h H H'->H R=none->H' R=some (.tup (List.map V.int y))->y.Sublist x->Q (.ref R) H'
section
variable {P:Program}{w:World}{K:PySem.W.Frag}{mg:Str->Option Value}{base:Heap}{t:vL}
theorem Kk(T:Txt K mg t):bX P w K mg base gi 4 t.oN t.oG ["_law_hand_here","_law_whole"] YJ:=by
 have bu:=vV (P:=P) (w:=w) (base:=base) T
 refine T.vp.qK Bg (λvs H Q E h=>?_) (λdc A outer s H vs Q E hr h hc hf=>?_)
 ·obtain⟨h,m,rfl,_⟩:=h;rfl
 obtain⟨h,W,rfl,hd,x,hW,lx,q⟩:=h
 have Ud:=hd.yh hW
 refine⟨_,(by exact aA (aS (fE gO (cK hc) T.z_tuple ko (ae (cz hc ["_law_one"] [0] rfl (by decide +kernel) (fL (aj hc 1)) (λ_ hc=>mB hc (by decide +kernel) 0 (by decide +kernel)) (λ_ hc=>ib (bO sF (aF bu (hr.mono (by omega)) (cK hc) T.bK T.bF.kp T.bL .nil aY (ae (aj hc 1) (ae ao ah))) ao (dA _))) (λ_ hc=>(aj hc 0))) ah)))),?_⟩
 repeat (walk_at "rd")
 refine⟨⟨_,bR hW⟩,?_⟩
 obtain⟨Pc,jX⟩:∃Pc:Addr->Nat->List V->Hp->Prop,∀Z i ys H',Pc Z i ys H'↔∃y:List Int,ys=List.map V.int y/\Dr h H H'/\H' Z=some (.lst ys)/\y.Sublist (x.take i):=⟨_,λ_ _ _ _=>dY⟩
 refine km (zs:=List.map V.int x) Pc (λZ hZ=>(jX _ _ _ _).mpr ⟨[],rfl,Dr.refl.new hZ,ai,List.nil_sublist _⟩) (λZ hZ i ys H' _ pv=>?_) (λZ hZ i z ys H' hz pv cb=>?_) (λZ hZ ys H' pv=>?_)
 ·obtain⟨_,_,d,_⟩:=(jX _ _ _ _).mp pv
  exact d.keep _ _ Ud hW
 ·obtain⟨y,rfl,d1,qR,sl⟩:=(jX _ _ _ _).mp pv
  obtain⟨m,em,rfl⟩:=int_at hz
  have X8:Z≠h:=hd.ne hZ
  have ly:=sl.length_le
  rw[fZ]at ly
  walk_at "rc"
  repeat (walk_at "rd")
  refine dX hd d1 (by decide) (by decide) λr H2 r0 r1 d2 k2=>?_
  have hZ2:H2 Z=_:=(k2 Z X8).trans qR
  have tk:x.take (i+1)=x.take i++[m]:=by rw[gR,em];rfl
  by_cases e:r=1
  ·subst e
   refine⟨rfl,?_⟩
   rw[ay rfl]
   refine⟨hZ2,bU (by omega),(jX _ _ _ _).mpr ⟨y++[m],by rw[dE];rfl,d2.put hZ,ai,?_⟩⟩
   rw[tk];exact sl.append (Aa _)
  ·refine⟨rfl,?_⟩
   rw[aE (by simpa using e)]
   refine(jX _ _ _ _).mpr ⟨y,rfl,d2,hZ2,?_⟩
   rw[tk];exact sl.trans (List.sublist_append_left _ _)
 ·obtain⟨y,rfl,d1,qR,sl⟩:=(jX _ _ _ _).mp pv
  rw[aM,gE]at sl
  repeat (first | walk_at "rd" | simp only[qR])
  exact λp hp=>q p y _ (d1.new hp) (d1.free hd hp) ai sl
end
local macro_rules | `(tactic| walk_at "rd") => `(tactic| walk_at "rc")
local macro_rules | `(tactic| walk_at "rl") => `(tactic| first | (refine er fun R hR => ?_) | walk_at "ry" | (refine Nx.to (by assumption) _ _ ?_))
def zH(ks:List Int)(g:Int->V):List (Key×V):=ks.map λz=>(Sum.inl z,g z)
theorem Cj(ks:List Int)(g:Int->V)(m:Int):gp (zH ks g) (Sum.inl m)=if m∈ks then some (g m) else none:=by
 induction ks with
 | nil=>rfl
 | cons k ks ih=>
  by_cases e:k=m
  ·subst e
   rw[ay df]
   exact eZ (p:=((Sum.inl k:Key),g k)) rfl
  ·have e2:gp (zH (k::ks) g) (Sum.inl m)=gp (zH ks g) (Sum.inl m):=e8 (p:=((Sum.inl k:Key),g k)) (λz=>e (tO z))
   rw[e2,ih]
   by_cases hm:m∈ks
   ·rw[ay hm,ay (cV _ hm)]
   ·rw[aE hm,aE (λz=>(bJ.mp z).elim (λz=>e z.symm) hm)]
theorem aAN{ks:List Int}{g g':Int->V}(h:∀z∈ks,g z=g' z):zH ks g=zH ks g':=pK λz hz=>by rw[h z hz]
theorem W0{ks:List Int}(g:Int->V){m:Int}(v:V)(h:m∈ks):putK (zH ks g) (Sum.inl m) v=zH ks (λz=>if z=m then v else g z):=by
 unfold putK
 rw[ay (by rw[lG,Cj,ay h];rfl)]
 unfold zH
 rw[fY]
 refine pK λz _=>?_
 by_cases e:z=m
 ·simp[e]
 ·simp[e]
theorem W2{ks:List Int}(g:Int->V){m:Int}(v:V)(h:m∉ks):putK (zH ks g) (Sum.inl m) v=zH (ks++[m]) (λz=>if z=m then v else g z):=by
 rw[QD v (by rw[Cj,aE h])]
 unfold zH
 rw[dE]
 refine congr (fD _ (pK λz hz=>?_)) ?_
 ·dsimp only
  rw[aE (show ¬z=m from λe=>h (by rw[<-e];exact hz))]
 ·simp
theorem aBV(ks:List Int)(g:Int->V):(zH ks g).map (λkv=>kV kv.1)=ks.map V.int:=by
 unfold zH
 rw[fY]
 rfl
theorem KS(ks:List Int)(g:Int->V):(zH ks g).length=ks.length:=aM _
theorem BW{H:Hp}{vs:List V}{ds:List Int}(r:nG (λ(_:Hp) (v:V) (d:Int)=>v=V.int d) H vs ds):vs=List.map V.int ds:=by
 apply List.ext_getElem (by rw[aM];exact r.1)
 intro i h1 h2
 rw[aM]at h2
 rw[Gd]
 exact r.2 i _ _ (bq h1) (bq h2)
theorem Ta(xs:List V)(lo hi:Option Int):(jY xs lo hi).length<=xs.length:=by
 unfold jY
 rw[fZ,my]
 omega
inductive Md where
 | wt (g:Int->Int) (most:Int) | inn (ss:List (List Int)) | out (ss:List (List Int))
def rk(H:Hp)(p:Addr)(W:List Int):Md->Prop
 | .wt g most=>∃d ks,H p=some (.tup [.int 2,.ref d,.int most])/\H d=some (.dK (zH ks λz=>.int (g z)))/\(∀m∈W,m∈ks)/\∀z,0<=g z
 | .inn ss=>∃l bs,H p=some (.tup [.int 0,.ref l,.int 0])/\H l=some (.lst (List.map V.ref bs))/\aL H bs ss/\ss.length<=900/\∀s∈ss,s.length<=100
 | .out ss=>∃l bs,H p=some (.tup [.int 1,.ref l,.int 0])/\H l=some (.lst (List.map V.ref bs))/\aL H bs ss/\ss.length<=900/\∀s∈ss,s.length<=100
theorem rk.same{H H':Hp}{p:Addr}{W:List Int}{md:Md}(s:bP H H')(m:rk H p W md):rk H' p W md:=by
 cases md with
 | wt g most=>obtain⟨d,ks,h1,h2,h3⟩:=m;exact⟨d,ks,s _ _ h1,s _ _ h2,h3⟩
 | inn ss=>obtain⟨l,bs,h1,h2,h3,h4⟩:=m;exact⟨l,bs,s _ _ h1,s _ _ h2,h3.mono λ_ _ e=>s _ _ e,h4⟩
 | out ss=>obtain⟨l,bs,h1,h2,h3,h4⟩:=m;exact⟨l,bs,s _ _ h1,s _ _ h2,h3.mono λ_ _ e=>s _ _ e,h4⟩
def Md.tells:Md->List Int->Bool
 | .wt g most,S=>decide ((S.map g).sum<=most)
 | .inn ss,S=>ss.any λs=>aC S s
 | .out ss,S=>!(ss.any λs=>aC s S)
def U0:Sp:=λvs H Q _=>∃h W,vs=[.ref h,.ref W]/\iP H h/\∃x:List Int,H W=some (.tup (List.map V.int x))/\x.length<=12/\x.Nodup/\∀R md H',Dr h H H'->H R=none->rk H' R x md->Q (.ref R) H'
section
variable {P:Program}{w:World}{K:PySem.W.Frag}{mg:Str->Option Value}{base:Heap}{t:vL}
theorem Rl(T:Txt K mg t):bX P w K mg base gi 5 t.mU t.mM ["_law_hand_here","_law_whole"] U0:=by
 have bu:=vV (P:=P) (w:=w) (base:=base) T
 have vn:=Kk (P:=P) (w:=w) (base:=base) T
 refine T.tJ.qK cI (λvs H Q E h=>?_) (λdc A outer s H vs Q E hr h hc hf=>?_)
 ·obtain⟨h,m,rfl,_⟩:=h;rfl
 obtain⟨h,W,rfl,hd,x,hW,lx,nd,q⟩:=h
 have hu:=kg hr
 have Nk:=hr.gd
 have Ud:=hd.yh hW
 refine⟨_,(by apply aq;exact(aP hc cI.nd hf 2 (by decide +kernel) (aF bu (hr.mono (by omega)) (cK hc) T.bK T.bF.kp T.bL .nil aY (ae (aj hc 0) (ae ao ah))));apply aq;exact(cO (bO sF (aj hc 2) ao (dA _)) (by apply aq;exact(aP hc cI.nd hf 3 (by decide +kernel) Ls);apply aq;exact(aP hc cI.nd hf 4 (by decide +kernel) (nX sF (aF bu (hr.mono (by omega)) (cK hc) T.bK T.bF.kp T.bL .nil aY (ae (aj hc 0) (ae ao ah))) ao (dA _)));apply aq;exact(eL jt rfl (fL (aj hc 1)) (pA hc cI.nd hf 5 (by decide +kernel)) (by apply aq;exact(rL hu (aj hc 3) (aj hc 5) ao rfl);exact aA (cO (dR (bY (aj hc 4))) (by exact aA (rL hu (aj hc 3) (aj hc 5) (aF bu (hr.mono (by omega)) (cK hc) T.bK T.bF.kp T.bL .nil aY (ae (aj hc 0) (ae ao ah))) rfl)) bI)));exact aA (aS (iT (ae ao (ae (aj hc 3) (ae (bt Hw (aF bu (hr.mono (by omega)) (cK hc) T.bK T.bF.kp T.bL .nil aY (ae (aj hc 0) (ae (bt iz (bt qI ao (aW iL (cK hc) T.z_len tj (ae (aj hc 1) ah))) ao) ah))) ao) ah)))))) bI);apply aq;exact(aP hc cI.nd hf 6 (by decide +kernel) (bQ kO (dU (ae ao (ae ao (ae ao (ae ao ah))))) (aF bu (hr.mono (by omega)) (cK hc) T.bK T.bF.kp T.bL .nil aY (ae (aj hc 0) (ae ao ah))) (λ_ _=>rfl)));apply aq;exact(t7 hc cI.nd 7 (by decide +kernel) ["_law_k"] [0,1] rfl (by decide +kernel) (ql (cK hc) T.z_range (ae (aF bu (hr.mono (by omega)) (cK hc) T.bK T.bF.kp T.bL .nil aY (ae (aj hc 0) (ae (aj hc 6) ah))) ah)) (λ_ hc=>mB hc (by decide +kernel) 0 (by decide +kernel)) (λ_ _=>dh) (λ_ hc=>(aF vn (hr.mono (by omega)) (cK hc) T.El T.vp.kp T.FG .nil aY (ae (aj hc 1) (ae (aj hc 2) ah)))) (by rfl));apply nW;exact(cO (m8 (oY (bO Rg (aW iL (cK hc) T.z_len tj (ae (aj hc 1) ah)) ao (dA _)) (lE (bO sF (aF bu (hr.mono (by omega)) (cK hc) T.bK T.bF.kp T.bL .nil aY (ae (aj hc 0) (ae ao ah))) ao (dA _))))) (by apply aq;exact(aP hc cI.nd hf 8 (by decide +kernel) (aF bu (hr.mono (by omega)) (cK hc) T.bK T.bF.kp T.bL .nil aY (ae (aj hc 0) (ae (aW iL (cK hc) T.z_len tj (ae (aj hc 1) ah)) ah))));exact aA (aP hc cI.nd hf 7 (by decide +kernel) (bt Hx (aj hc 7) (t8 aCB (dU (ae (fE gO (cK hc) T.z_tuple ko (ae (cz hc ["_law_one"] [1,8] rfl (by decide +kernel) (fL (aj hc 1)) (λ_ hc=>mB hc (by decide +kernel) 0 (by decide +kernel)) (λ_ hc=>ib (bO Xv (aj hc 0) (bQ vz (aj hc 1) (aj hc 2) (λ_ _=>rfl)) (dA _))) (λ_ hc=>(aj hc 0))) ah)) (ae (t8 aA1 (aj hc 1) (rM (aj hc 8)) (rM (bt iz (aj hc 8) ao))) ah))) Dd (rM (bt iz ao (aF bu (hr.mono (by omega)) (cK hc) T.bK T.bF.kp T.bL .nil aY (ae (aj hc 0) (ae ao ah))))))))) bI);exact aA (aS (iT (ae (aj hc 2) (ae (aj hc 7) (ae ao ah)))))),?_⟩
 walk_at "r"
 refine dX hd .refl (by decide) (by decide) λway H1 w0 w1 d1 k1=>?_
 have hW1:=d1.keep _ _ Ud hW
 walk_at "r"
 by_cases e2:way=2
 ·subst e2
  walk_at "r"
  intro D hD
  have hD0:H D=none:=d1.free hd hD
  have hDh:D≠h:=hd.ne hD0
  have d2:Dr h H (upd H1 D (.dK [])):=d1.new hD
  have Ce:upd H1 D (.dK []) D=some (.dK []):=ai
  generalize upd H1 D (.dK [])=H2 at d2 Ce ⊢
  walk_at "r"
  refine dX hd d2 (by decide) (by decide) λal H3 a0 a1 d3 k3=>?_
  have Nw:=(k3 D hDh).trans Ce
  walk_at "r"
  have hW3:=d3.keep _ _ Ud hW
  generalize decide (al=1)=ab
  refine⟨⟨_,bR hW3⟩,?_⟩
  obtain⟨Pv,dn⟩:∃Pv:Nat->St->Hp->Prop,∀i σ' H',Pv i σ' H'↔∃(y:Option V) (g:Int->Int),σ'=[some (.ref h),some (.ref W),some (.int 2),some (.ref D),some (.bl ab),y,none,none,none]/\Dr h H H'/\H' D=some (.dK (zH (x.take i) λz=>.int (g z)))/\∀z,0<=g z:=⟨_,λ_ _ _=>dY⟩
  refine jN (xs:=List.map V.int x) Pv ((dn _ _ _).mpr ⟨none,λ_=>0,rfl,d3,Nw,λ_=>gD _⟩) (λi σ' H' _ pv=>?_) (λi z σ' H4 hz pv=>?_) (λσ' H4 pv=>?_)
  ·obtain⟨_,_,_,d,_⟩:=(dn _ _ _).mp pv
   exact d.keep _ _ Ud hW
  ·obtain⟨y,g,rfl,d4,zC,g0⟩:=(dn _ _ _).mp pv
   obtain⟨m,em,rfl⟩:=int_at hz
   have hi:i<x.length:=(fq.mp em).1
   have tk:x.take (i+1)=x.take i++[m]:=by rw[gR,em];rfl
   have nm:m∉x.take i:=λhm=>by
    obtain⟨j,hj,e⟩:=List.mem_take_iff_getElem.mp hm
    have:=(tU nd).mp (e.trans (fq.mp em).2.symm)
    omega
   repeat (first | walk_at "rl" | simp only[w8])
   refine⟨_,xY.k (k:=Sum.inl m) zC (bU (by rw[KS,fZ];omega)),?_⟩
   rw[W2 _ _ nm,<-tk]
   have d5:Dr h H (upd H4 D (.dK (zH (x.take (i+1)) λz=>if z=m then V.int 1 else .int (g z)))):=d4.put hD0
   have eg:(λz=>if z=m then V.int 1 else .int (g z))=λz=>V.int (if z=m then 1 else g z):=funext λz=>by split <;> rfl
   have Gb:upd H4 D (.dK (zH (x.take (i+1)) λz=>if z=m then V.int 1 else .int (g z))) D=some (.dK (zH (x.take (i+1)) λz=>.int (if z=m then 1 else g z))):=by rw[ai,eg]
   generalize upd H4 D (.dK (zH (x.take (i+1)) λz=>if z=m then V.int 1 else .int (g z)))=H5 at d5 Gb ⊢
   walk_at "r"
   cases ab with
   | true=>
    rw[aE (by decide)]
    exact(dn _ _ _).mpr ⟨_,_,rfl,d5,Gb,λz=>by split <;> first | decide | exact g0 z⟩
   | false=>
    rw[ay (by decide)]
    simp only[w8]
    walk_at "r"
    refine dX hd d5 (by decide) (by decide) λv H6 v0 v1 d6 k6=>?_
    have Ss:=(k6 D hDh).trans Gb
    refine⟨_,xY.k (k:=Sum.inl m) Ss (bU (by rw[KS,fZ];omega)),?_⟩
    rw[W0 _ _ (by rw[tk];simp)]
    have eg2:(λz=>if z=m then V.int v else .int (if z=m then 1 else g z))=λz=>V.int (if z=m then v else if z=m then 1 else g z):=funext λz=>by split <;> rfl
    exact(dn _ _ _).mpr ⟨_,_,rfl,d6.put hD0,by rw[ai,eg2],λz=>by by_cases e:z=m <;> simp only[e,gB,fu] <;> first | exact v0 | exact g0 z⟩
  obtain⟨y,g,rfl,d4,zC,g0⟩:=(dn _ _ _).mp pv
  rw[aM,gE]at zC
  have Yb:=d4.keep _ _ Ud hW
  repeat (first | walk_at "rl" | simp only[Yb])
  refine dX hd d4 (by omega) (by omega) λv H5 v0 v1 d5 k5=>⟨_,rfl,by decide,λp hp=>?_⟩
  have Gb:=(k5 D hDh).trans zC
  exact q p (.wt g (v-1)) _ (d5.new hp) (d5.free hd hp) ⟨D,x,ai,by rw[au (az Gb hp)];exact Gb,λm hm=>hm,g0⟩
 ·rw[aE (by simpa using e2)]
  walk_at "r"
  refine⟨by decide,λp hp=>?_⟩
  have d2:Dr h H (upd H1 p (.lst [V.int 6,V.int 6,V.int 6,V.int 21])):=d1.new hp
  have hph:p≠h:=(d1.iF hd).ne hp
  refine dX hd d2 (by decide) (by decide) λr H2 r0 r1 d3 k3=>?_
  obtain⟨z,ez,hz⟩:=WQ (a:=6) (b:=6) (c:=6) (d:=21) r0 r1
  refine⟨_,rfl,_,by rw[k3 p hph];exact ai,_,ez,?_⟩
  have XD:6<=z/\z<=21:=by omega
  clear d2 k3 hz ez
  walk_at "r"
  refine dX hd d3 (by omega) (by omega) λnn H4 n0 n1 d4 k4=>?_
  obtain⟨n,rfl⟩:∃n:Nat,nn=(n:Int):=⟨nn.toNat,by omega⟩
  walk_at "r"
  refine⟨by omega,by omega,?_⟩
  obtain⟨Pc,jX⟩:∃Pc:Addr->Nat->List V->Hp->Prop,∀Z i ys H',Pc Z i ys H'↔∃bs ss,ys=List.map V.ref bs/\Dr h H H'/\H' Z=some (.lst ys)/\aL H' bs ss/\ss.length=i/\∀s∈ss,s.length<=100:=⟨_,λ_ _ _ _=>dY⟩
  refine vk Pc (λZ hZ=>(jX _ _ _ _).mpr ⟨[],[],rfl,d4.new hZ,ai,⟨rfl,λ_ _ _ z=>by cases z⟩,rfl,λ_ z=>(nomatch z)⟩) (λZ hZ i ys H' hi pv cb=>?_) (λZ hZ ys H' pv=>?_)
  ·obtain⟨bs,ss,rfl,d5,hZ5,sb,ls,BR⟩:=(jX _ _ _ _).mp pv
   have hZ0:=d4.free hd hZ
   have X8:Z≠h:=hd.ne hZ0
   walk_at "rc"
   walk_at "r"
   refine⟨h,W,rfl,d5.iF hd,x,d5.keep _ _ Ud hW,by omega,λR y H6 d6 hR Nv sl=>?_⟩
   have hd5:=d5.iF hd
   have hZ6:=d6.keep _ _ X8 hZ5
   have sb6:=Dr.sets hd5 d6 sb
   have lb:=sb.1
   rw[nR]at hi
   refine⟨hZ6,bU (by omega),(jX _ _ _ _).mpr ⟨bs++[R],ss++[y],by rw[dE];rfl,(d5.trans d6).put hZ0,ai,?_,by rw[cS,ls];rfl,λs hs=>?_⟩⟩
   ·have s1:aL H6 [R] [y]:=⟨rfl,λj c u h1 h2=>by
     match j,h1,h2 with
     | 0,h1,h2=>cases h1;cases h2;exact Nv
     | _+1,h1,_=>cases h1⟩
    exact(sb6.app s1).mono λc xs e=>by rw[au (bh e hZ6 (by intro z;cases z))];exact e
   ·rcases cw.mp hs with z | z
    ·exact BR s z
    ·rw[cG.mp z];have:=sl.length_le;omega
  obtain⟨bs,ss,rfl,d5,hZ5,sb,ls,BR⟩:=(jX _ _ _ _).mp pv
  rw[nR]at ls
  have hZ0:=d4.free hd hZ
  clear jX pv Pc d4 k4
  have hW5:=d5.keep _ _ Ud hW
  repeat (first | walk_at "rl" | simp only[hW5])
  obtain⟨CK,Sn⟩:∃CK:St->Hp->Prop,∀σ' H',CK σ' H'↔∃(L:Addr) (y:Option V) (bs:List Addr) (ss:List (List Int)),σ'=[some (.ref h),some (.ref W),some (.int way),none,none,none,some (.int z),some (.ref L),y]/\Dr h H H'/\H' L=some (.lst (List.map V.ref bs))/\aL H' bs ss/\ss.length<=40/\∀s∈ss,s.length<=100:=⟨_,λ_ _=>dY⟩
  have nx0:∀H6,Dr h H H6->H6 Z=some (.lst (List.map V.ref bs))->aL H6 bs ss->CK [some (.ref h),some (.ref W),some (.int way),none,none,none,some (.int z),some (.ref Z),none] H6:=λH6 d6 h6 s6=>(Sn _ _).mpr ⟨Z,_,bs,ss,rfl,d6,h6,s6,by omega,BR⟩
  have fin:∀(l q2:Addr) (S1 S2:List Int) (r:Int) (L2:Addr) (y:Option V) (H2:Hp),Dr h H H2->H2 l=some (.tup (List.map V.int S1))->H2 q2=some (.tup (List.map V.int S2))->S1.length<=100->S2.length<=100->aL H2 bs ss->0<=r->r<2->
    H2 L2=some (.lst (List.map V.ref bs++jY [V.ref l,V.ref q2] none (some (1+r))))->CK [some (.ref h),some (.ref W),some (.int way),none,none,none,some (.int z),some (.ref L2),y] H2:=λl q2 S1 S2 r L2 y H2 d2 h1 h2 l1 l2 s2 r0 r1 hL=>by
   have hr:r=0\/r=1:=by omega
   rcases hr with rfl | rfl
   ·refine(Sn _ _).mpr ⟨L2,y,bs++[l],ss++[S1],rfl,d2,by rw[hL,dE];rfl,s2.app ⟨rfl,λj c u e1 e2=>?_⟩,by rw[cS];simp;omega,λs hs=>?_⟩
    ·match j,e1,e2 with
     | 0,e1,e2=>cases e1;cases e2;exact h1
     | _+1,e1,_=>cases e1
    ·rcases cw.mp hs with k | k
     ·exact BR s k
     ·rw[cG.mp k];exact l1
   ·refine(Sn _ _).mpr ⟨L2,y,bs++[l,q2],ss++[S1,S2],rfl,d2,by rw[hL,dE];rfl,s2.app ⟨rfl,λj c u e1 e2=>?_⟩,by rw[cS];simp;omega,λs hs=>?_⟩
    ·match j,e1,e2 with
     | 0,e1,e2=>cases e1;cases e2;exact h1
     | 1,e1,e2=>cases e1;cases e2;exact h2
     | _+2,e1,_=>cases e1
    ·rcases cw.mp hs with k | k
     ·exact BR s k
     ·rcases bJ.mp k with k | k
      ·rw[k];exact l1
      ·rw[cG.mp k];exact l2
  refine⟨CK,?_,λσ' H6 hm=>?_⟩
  ·repeat (first | walk_at "rl" | simp only[hW5])
   by_cases e0:0<x.length
   ·rw[ay (by simpa using e0)]
    refine dX hd d5 (by decide) (by decide) λr6 H6 _ _ d6 k6=>?_
    have X8:Z≠h:=hd.ne hZ0
    have hZ6:=(k6 Z X8).trans hZ5
    have hd5:=d5.iF hd
    have kt:∀c xs,H' c=some (.tup xs)->H6 c=some (.tup xs):=λc xs e=>(k6 c (hd5.yh e)).trans e
    have sb6:=sb.mono kt
    have hW6:=kt _ _ hW5
    refine⟨rfl,?_⟩
    by_cases e6:r6=0
    ·subst e6
     rw[ay rfl]
     repeat (first | walk_at "rl" | simp only[hW6])
     refine dX hd d6 (by omega) (by omega) λat_ H7 a0 a1 d7 k7=>?_
     have hZ7:=(k7 Z X8).trans hZ6
     have hd6:=d6.iF hd
     have kt7:∀c xs,H6 c=some (.tup xs)->H7 c=some (.tup xs):=λc xs e=>(k7 c (hd6.yh e)).trans e
     have sb7:=sb6.mono kt7
     have X9:=kt7 _ _ hW6
     repeat (first | walk_at "rl" | simp only[X9])
     obtain⟨a,rfl⟩:∃a:Nat,at_=(a:Int):=⟨at_.toNat,by omega⟩
     have ha:a<x.length:=by omega
     have eat:v7 (List.map V.int x) (a:Int)=some (.int x[a]):=iX (by rw[cM,bq ha];rfl)
     refine⟨⟨_,bR X9⟩,?_⟩
     refine lV (zs:=List.map V.int x) (λk=>if (x[k]?.any λm=>decide (m≠x[a])) then x[k]? else none) (λ_ _ v d=>v=V.int d) (λ_ _ _ _ _ _ r=>r) (λ_ _ _ _ _ _ _ r=>r) X9 (by rw[aM];omega) (λDD c H8 j z yes no hj s8 Oq Oo eF vY=>?_) (λD H8 vs s8 hD hD8 rl=>?_)
     ·obtain⟨m,em,rfl⟩:=int_at hj
      rw[em]at eF vY
      have hW8:=s8 _ _ X9
      walk_at "rc"
      repeat (first | walk_at "rl" | simp only[hW8,eat])
      by_cases hm:m=x[a]
      ·rw[aE (by simpa using hm)]
       exact vY (aE (by simpa using hm)) _ λ_ _ e=>e
      ·rw[ay (by simpa using hm)]
       exact eF _ (ay (by simpa using hm)) _ _ (λ_ _ e=>e) rfl
     have ev:=BW rl
     rw[aM,ph (l:=x) (p:=λm=>decide (m≠x[a])) λk hk=>by rw[bq hk];rfl]at ev
     subst ev
     have lo:=m7 (λm=>decide (m≠x[a])) x
     generalize (x.filter λm=>decide (m≠x[a]))=S1 at lo hD8
     have d8:=d7.on s8
     refine⟨D,rfl,_,hD8,λl hl=>?_⟩
     have s9:=aH hl (.tup (List.map V.int S1))
     have hl9:upd H8 l (.tup (List.map V.int S1)) l=_:=ai
     have d9:Dr h H (upd H8 l (.tup (List.map V.int S1))):=d8.new hl
     generalize upd H8 l (.tup (List.map V.int S1))=H9 at s9 hl9 d9 ⊢
     have t79:=s8.trans s9
     have hW9:=t79 _ _ X9
     have hZ9:=t79 _ _ hZ7
     have sb9:aL H9 bs ss:=sb7.mono λ_ _ e=>t79 _ _ e
     refine⟨_,hW9,λ_=>⟨by decide,λp hp=>?_⟩,λ_ q2 hq2=>⟨by decide,λp hp=>?_⟩⟩
     ·have Ml:=aH hp (.lst [V.ref l,V.ref W])
      have d11:Dr h H (upd H9 p (.lst [V.ref l,V.ref W])):=d9.new hp
      have R7:upd H9 p (.lst [V.ref l,V.ref W]) p=_:=ai
      have hph:p≠h:=(d9.iF hd).ne hp
      generalize upd H9 p (.lst [V.ref l,V.ref W])=H11 at Ml d11 R7 ⊢
      refine dX hd d11 (by decide) (by decide) λVf H12 r0 r1 d12 k12=>⟨_,rfl,_,(k12 p hph).trans R7,λp3 FZ=>?_⟩
      have aAt:=d11.iF hd
      have Ik:∀c xs,H11 c=some (.tup xs)->H12 c=some (.tup xs):=λc xs e=>(k12 c (aAt.yh e)).trans e
      have s13:=aH FZ (.lst (jY [V.ref l,V.ref W] none (some (1+Vf))))
      have aAv:=(k12 Z X8).trans (Ml _ _ hZ9)
      have lb:=sb.1
      refine⟨_,s13 _ _ aAv,mD (by rw[aM];have:=Ta [V.ref l,V.ref W] (none:Option Int) (some (1+Vf));simp at this;omega),λp4 R6=>?_⟩
      have Y0:=s13.trans (aH R6 (.lst (List.map V.ref bs++jY [V.ref l,V.ref W] none (some (1+Vf)))))
      exact fin l W S1 x Vf p4 _ _ ((d12.new FZ).new R6) (Y0 _ _ (Ik _ _ (Ml _ _ hl9))) (Y0 _ _ (Ik _ _ (Ml _ _ hW9))) (by omega) (by omega) (((sb9.mono λ_ _ e=>Ml _ _ e).mono Ik).mono λ_ _ e=>Y0 _ _ e) r0 r1 ai
     ·have T5:=aH hq2 (.tup (jY (List.map V.int x) (some (a:Int)) (some ((a:Int)+1))))
      have aAn:upd H9 q2 (.tup (jY (List.map V.int x) (some (a:Int)) (some ((a:Int)+1)))) q2=some (.tup (List.map V.int ((x.drop (HT.dO x.length 0 (some (a:Int)))).take (HT.dO x.length x.length (some ((a:Int)+1))-HT.dO x.length 0 (some (a:Int)))))):=by rw[ai,Ft]
      have d10:Dr h H (upd H9 q2 (.tup (jY (List.map V.int x) (some (a:Int)) (some ((a:Int)+1))))):=d9.new hq2
      have l2:((x.drop (HT.dO x.length 0 (some (a:Int)))).take (HT.dO x.length x.length (some ((a:Int)+1))-HT.dO x.length 0 (some (a:Int)))).length<=100:=by rw[fZ,my];omega
      generalize ((x.drop (HT.dO x.length 0 (some (a:Int)))).take (HT.dO x.length x.length (some ((a:Int)+1))-HT.dO x.length 0 (some (a:Int))))=S2 at aAn l2
      generalize upd H9 q2 (.tup (jY (List.map V.int x) (some (a:Int)) (some ((a:Int)+1))))=TV at T5 aAn d10 hp ⊢
      have Ml:=aH hp (.lst [V.ref l,V.ref q2])
      have d11:Dr h H (upd TV p (.lst [V.ref l,V.ref q2])):=d10.new hp
      have R7:upd TV p (.lst [V.ref l,V.ref q2]) p=_:=ai
      have hph:p≠h:=(d10.iF hd).ne hp
      generalize upd TV p (.lst [V.ref l,V.ref q2])=H11 at Ml d11 R7 ⊢
      have aCW:aL TV bs ss:=sb9.mono λ_ _ e=>T5 _ _ e
      refine dX hd d11 (by decide) (by decide) λVf H12 r0 r1 d12 k12=>⟨_,rfl,_,(k12 p hph).trans R7,λp3 FZ=>?_⟩
      have aAt:=d11.iF hd
      have Ik:∀c xs,H11 c=some (.tup xs)->H12 c=some (.tup xs):=λc xs e=>(k12 c (aAt.yh e)).trans e
      have s13:=aH FZ (.lst (jY [V.ref l,V.ref q2] none (some (1+Vf))))
      have aAv:=(k12 Z X8).trans (Ml _ _ (T5 _ _ hZ9))
      have lb:=sb.1
      refine⟨_,s13 _ _ aAv,mD (by rw[aM];have:=Ta [V.ref l,V.ref q2] (none:Option Int) (some (1+Vf));simp at this;omega),λp4 R6=>?_⟩
      have Y0:=s13.trans (aH R6 (.lst (List.map V.ref bs++jY [V.ref l,V.ref q2] none (some (1+Vf)))))
      exact fin l q2 S1 S2 Vf p4 _ _ ((d12.new FZ).new R6) (Y0 _ _ (Ik _ _ (Ml _ _ (T5 _ _ hl9)))) (Y0 _ _ (Ik _ _ (Ml _ _ aAn))) (by omega) l2 (((aCW.mono λ_ _ e=>Ml _ _ e).mono Ik).mono λ_ _ e=>Y0 _ _ e) r0 r1 ai
    ·rw[aE (by simpa using e6)]
     exact nx0 _ d6 hZ6 sb6
   ·rw[aE (by simpa using e0)]
    exact nx0 _ d5 hZ5 sb
  obtain⟨L,y,bs,ss,rfl,d6,hL6,sb6,l40,BR⟩:=(Sn _ _).mp hm
  clear fin nx0 Sn hm CK
  walk_at "r"
  refine⟨by decide,λp hp=>?_⟩
  have s7:=aH hp (.tup [V.int way,V.ref L,V.int 0])
  have aEu:way=0\/way=1:=by omega
  have sb7:aL (upd H6 p (.tup [V.int way,V.ref L,V.int 0])) bs ss:=sb6.mono λ_ _ e=>s7 _ _ e
  rcases aEu with rfl | rfl
  ·exact q p (.inn ss) _ (d6.new hp) (d6.free hd hp) ⟨L,bs,ai,s7 _ _ hL6,sb7,by omega,BR⟩
  ·exact q p (.out ss) _ (d6.new hp) (d6.free hd hp) ⟨L,bs,ai,s7 _ _ hL6,sb7,by omega,BR⟩
end
local macro_rules | `(tactic| walk_at "rd") => `(tactic| walk_at "rc")
local macro_rules | `(tactic| walk_at "rl") => `(tactic| first | (refine er fun R hR => ?_) | walk_at "ry" | (refine Nx.to (by assumption) _ _ ?_))
def UL:Sp:=λvs H Q _=>∃m p,vs=[.ref m,.ref p]/\∃(md:Md) (W S:List Int),rk H m W md/\H p=some (.tup (List.map V.int S))/\S.length<=100/\(∀z∈S,z∈W)/\∀H',bP H H'->Q (.bl (md.tells S)) H'
section
variable {P:Program}{w:World}{K:PySem.W.Frag}{mg:Str->Option Value}{base:Heap}{t:vL}
theorem sG(T:Txt K mg t):bX P w K mg base gi 2 t.mR t.mK ["_law_model_here","_law_part"] UL:=by
 have fW:=zi (P:=P) (w:=w) (base:=base) T
 refine T.gX.qK yg (λvs H Q E h=>?_) (λdc A outer s H vs Q E hr h hc hf=>?_)
 ·obtain⟨m,p,rfl,_⟩:=h;rfl
 obtain⟨m,p,rfl,md,W,S,ma,hp,lS,sub,q⟩:=h
 have hu:=kg hr
 have Nk:=hr.gd
 refine⟨_,(by apply aq;exact(cO (bO sF (bQ vz (aj hc 0) ao (λ_ _=>rfl)) ao (dA _)) (by exact aA (aS (nX aBn (aW (N2 hr.hd) (cK hc) T.z_sum aCi (ae (cz hc ["_law_one"] [0] rfl (by decide +kernel) (fL (aj hc 1)) (λ_ hc=>mB hc (by decide +kernel) 0 (by decide +kernel)) (λ_ _=>dh) (λ_ hc=>(rN hu (bQ vz (aj hc 1) ao (λ_ _=>rfl)) (aj hc 0) (λ_ _=>rfl)))) ah)) (bQ vz (aj hc 0) ao (λ_ _=>rfl)) (dA _)))) bI);apply aq;exact(cO (bO sF (bQ vz (aj hc 0) ao (λ_ _=>rfl)) ao (dA _)) (by exact aA (aS (aW (pk hr.hd) (cK hc) T.z_any La (ae (cz hc ["_law_one"] [1] rfl (by decide +kernel) (cD (bQ vz (aj hc 0) ao (λ_ _=>rfl))) (λ_ hc=>mB hc (by decide +kernel) 0 (by decide +kernel)) (λ_ _=>dh) (λ_ hc=>(aF fW (hr.mono (by omega)) (cK hc) T.iB T.fX.kp T.iM .nil aY (ae (aj hc 1) (ae (aj hc 0) ah))))) ah)))) bI);exact aA (aS (JM (aW (pk hr.hd) (cK hc) T.z_any La (ae (cz hc ["_law_one"] [1] rfl (by decide +kernel) (cD (bQ vz (aj hc 0) ao (λ_ _=>rfl))) (λ_ hc=>mB hc (by decide +kernel) 0 (by decide +kernel)) (λ_ _=>dh) (λ_ hc=>(aF fW (hr.mono (by omega)) (cK hc) T.iB T.fX.kp T.iM .nil aY (ae (aj hc 0) (ae (aj hc 1) ah))))) ah))))),?_⟩
 cases md with
 | wt g most=>
  obtain⟨d,ks,hm,hd,hk⟩:=ma
  repeat (first | walk_at "rl" | simp only[hm])
  refine⟨⟨_,bR hp⟩,?_⟩
  refine lV (zs:=List.map V.int S) (λj=>S[j]?.map g) (λ_ _ v d=>v=V.int d) (λ_ _ _ _ _ _ r=>r) (λ_ _ _ _ _ _ _ r=>r) hp (by rw[aM];omega) (λDD c H4 j z yes no hj s4 Oq Oo eF vY=>?_) (λD H4 vs s4 hD zC rl=>?_)
  ·obtain⟨n,en,rfl⟩:=int_at hj
   rw[en]at eF
   have hm4:=s4 _ _ hm
   walk_at "rc"
   repeat (first | walk_at "rl" | simp only[hm4,yW])
   refine⟨.int (g n),?_,eF _ rfl _ _ (λ_ _ e=>e) rfl⟩
   have:=tL.k (k:=Sum.inl n) (s4 _ _ hd)
   rw[Cj,ay (hk.1 n (sub n (j6 en)))]at this
   exact this
  have ev:=BW rl
  rw[aM,oE (l:=S) (g:=g) λk hk=>by rw[bq hk];rfl]at ev
  subst ev
  have hm4:=s4 _ _ hm
  repeat (first | walk_at "rl" | simp only[hm4])
  exact⟨_,zC,q _ s4⟩
 | inn ss=>
  obtain⟨l,bs,hm,hl,sb,l9,ls⟩:=ma
  repeat (first | walk_at "rl" | simp only[hm])
  refine⟨⟨_,aX hl⟩,?_⟩
  refine eQ (zs:=List.map V.ref bs) (λj=>ss[j]?.map λs=>V.bl (aC S s)) (λ_=>N8) (λ_ _ _ _ _ _ r=>r) (λ_ _ _ _ _ _ _ r=>r) hl (by rw[aM,sb.1];omega) (λDD c H4 j z yes no hj s4 Oq Oo eF vY=>?_) (λD H4 vs s4 hD zC rl=>?_)
  ·obtain⟨b,eb,rfl⟩:=eM hj
   have Nq:j<bs.length:=(fq.mp eb).1
   have es:ss[j]?=some (ss[j]'(by have:=sb.1;omega)):=bq _
   have hb4:=s4 _ _ (sb.2 j b _ eb es)
   rw[es]at eF
   walk_at "rc"
   walk_at "r"
   exact⟨p,b,rfl,S,_,s4 _ _ hp,hb4,by omega,λH5 s5=>eF _ rfl _ _ s5 rfl⟩
  have ev:=rP rl
  rw[aM,sb.1,oE (l:=ss) (g:=λs=>V.bl (aC S s)) λk hk=>by rw[bq hk];rfl]at ev
  subst ev
  refine⟨D,rfl,ss.map λs=>aC S s,by rw[zC,fY];rfl,?_⟩
  rw[tQ]
  exact q _ s4
 | out ss=>
  obtain⟨l,bs,hm,hl,sb,l9,ls⟩:=ma
  repeat (first | walk_at "rl" | simp only[hm])
  refine⟨⟨_,aX hl⟩,?_⟩
  refine eQ (zs:=List.map V.ref bs) (λj=>ss[j]?.map λs=>V.bl (aC s S)) (λ_=>N8) (λ_ _ _ _ _ _ r=>r) (λ_ _ _ _ _ _ _ r=>r) hl (by rw[aM,sb.1];omega) (λDD c H4 j z yes no hj s4 Oq Oo eF vY=>?_) (λD H4 vs s4 hD zC rl=>?_)
  ·obtain⟨b,eb,rfl⟩:=eM hj
   have Nq:j<bs.length:=(fq.mp eb).1
   have es:ss[j]?=some (ss[j]'(by have:=sb.1;omega)):=bq _
   have hb4:=s4 _ _ (sb.2 j b _ eb es)
   rw[es]at eF
   walk_at "rc"
   walk_at "r"
   exact⟨b,p,rfl,_,S,hb4,s4 _ _ hp,by have:=ls _ (j6 es);omega,λH5 s5=>eF _ rfl _ _ s5 rfl⟩
  have ev:=rP rl
  rw[aM,sb.1,oE (l:=ss) (g:=λs=>V.bl (aC s S)) λk hk=>by rw[bq hk];rfl]at ev
  subst ev
  refine⟨D,rfl,ss.map λs=>aC s S,by rw[zC,fY];rfl,?_⟩
  rw[tQ]
  exact q _ s4
end
local macro_rules | `(tactic| walk_at "rd") => `(tactic| walk_at "rc")
local macro_rules | `(tactic| walk_at "rl") => `(tactic| first | (refine er fun R hR => ?_) | walk_at "ry" | (refine Nx.to (by assumption) _ _ ?_))
def Ow(Z:Addr->Prop)(H H':Hp):Prop:=∀b o,¬Z b->H b=some o->H' b=some o
theorem Ow.trans{Z:Addr->Prop}{H H1 H2:Hp}(a:Ow Z H H1)(b:Ow Z H1 H2):Ow Z H H2:=λc o hc e=>b c o hc (a c o hc e)
theorem Ow.of{Z:Addr->Prop}{H H':Hp}(s:bP H H'):Ow Z H H':=λb o _ e=>s b o e
structure T2(P:Program)(w:World)(K:PySem.W.Frag)(mg:Str->Option Value)(base:Heap)(k:Nat)(f:Addr){ι:Type}(Z:Addr->Prop)(D:ι->Hp->Prop)(nx:ι->List Int->ι)(lim:ι->Prop)(dom:List Int->Prop)(tells:List Int->Bool):Prop where
 run:∃sp,p7 P w K mg base k f sp/\∀i H p S Q,D i H->lim i->H p=some (.tup (List.map V.int S))->dom S->(∀H',D (nx i S) H'->Ow Z H H'->Q (.bl (tells S)) H')->sp [.ref p] H Q E0
 fn:∀i H,D i H->FnO H f
 st:∀i H H',D i H->bP H H'->D i H'
 nt:∀i H b xs,D i H->Z b->H b≠some (.tup xs)
theorem T2.tup{P:Program}{w:World}{K:PySem.W.Frag}{mg:Str->Option Value}{base:Heap}{k:Nat}{f:Addr}{ι:Type}{Z:Addr->Prop}{D:ι->Hp->Prop}{nx:ι->List Int->ι}{lim:ι->Prop}{dom:List Int->Prop}{tells:List Int->Bool}(a:T2 P w K mg base k f Z D nx lim dom tells){i:ι}{H H':Hp}(d:D i H)(kp:Ow Z H H'){b:Addr}{xs:List V}(e:H b=some (.tup xs)):H' b=some (.tup xs):=
 kp b _ (λz=>a.nt i H b xs d z e) e
def fG(W c:List Int)(m:Int):List Int:=W.filter λz=>decide (z∈c\/z=m)
def gW(tells:List Int->Bool)(W ms c:List Int):List Int:=ms.foldl (λc m=>if tells (fG W c m)=true then fG W c m else c) c
theorem lM(W c:List Int)(m:Int):(fG W c m).Sublist W:=Ah
theorem zE(tells:List Int->Bool)(W:List Int):∀(ms c:List Int),c.Sublist W->(gW tells W ms c).Sublist W
 | [],c,h=>h
 | m::ms,c,h=>by
  unfold gW
  rw[lA]
  refine zE tells W ms _ ?_
  by_cases e:tells (fG W c m)=true
  ·rw[ay e];exact lM W c m
  ·rw[aE e];exact h
theorem Rx{W c:List Int}{m:Int}(hW:eG W)(h:c.Sublist W)(hm:m∈c):fG W c m=c:=by
 refine sD (hW.sublist (lM W c m)) (hW.sublist h) λz=>?_
 unfold fG
 rw[cx,g8]
 exact⟨λ⟨_,a⟩=>a.elim id λe=>e ▸ hm,λa=>⟨h.subset a,.inl a⟩⟩
theorem mJ{tells:List Int->Bool}{W S:List Int}(hW:eG W):∀(ms c:List Int),c.Sublist W->(∀z∈S,z∈c)->gW tells W (cH ms S) c=gW tells W ms c
 | [],c,_,_=>rfl
 | m::ms,c,h,hS=>by
  unfold cH
  rw[qg]
  have sub:∀z∈S,z∈fG W c m:=λz hz=>cx.mpr ⟨h.subset (hS z hz),decide_eq_true (.inl (hS z hz))⟩
  by_cases e:m∈S
  ·rw[aE (by simpa using e)]
   have:=mJ (tells:=tells) (S:=S) hW ms c h hS
   unfold cH at this
   rw[this]
   show gW tells W ms c=gW tells W ms (if tells (fG W c m)=true then fG W c m else c)
   rw[Rx hW h (hS m e)]
   simp
  ·rw[ay (by simpa using e)]
   show gW tells W (cH ms S) (if tells (fG W c m)=true then fG W c m else c)=gW tells W ms (if tells (fG W c m)=true then fG W c m else c)
   by_cases e2:tells (fG W c m)=true
   ·rw[ay e2];exact mJ hW ms _ (lM W c m) sub
   ·rw[aE e2];exact mJ hW ms c h hS
def nh{ι:Type}(tells:List Int->Bool)(nx:ι->List Int->ι)(W ms:List Int)(c:List Int×ι):List Int×ι:=ms.foldl (λc m=>(if tells (fG W c.1 m)=true then fG W c.1 m else c.1,nx c.2 (fG W c.1 m))) c
theorem zD{ι:Type}(tells:List Int->Bool)(nx:ι->List Int->ι)(W:List Int):∀(ms:List Int) (c:List Int×ι),(nh tells nx W ms c).1=gW tells W ms c.1
 | [],c=>rfl
 | m::ms,c=>by
  unfold nh gW
  rw[lA,lA]
  exact zD tells nx W ms _
def JX(P:Program)(w:World)(K:PySem.W.Frag)(mg:Str->Option Value)(base:Heap)(cN:Addr):Sp:=λvs H Q E=>∃U f p,vs=[.ref U,.ref f,.ref p]/\∃(ι:Type) (Z:Addr->Prop) (D:ι->Hp->Prop) (nx:ι->List Int->ι) (dom:List Int->Prop) (tells:List Int->Bool) (n:ι) (W S:List Int),
 T2 P w K mg base 12 f Z D nx (λ_=>True) dom tells/\D n H/\H U=some (.tup (List.map V.int W))/\H p=some (.tup (List.map V.int S))/\eG W/\S.Sublist W/\W.length<=60/\(∀T,T.Sublist W->dom T)/\tells S=true/\
 ∀r H',D (nh tells nx W (cH W S) (S,nx n S)).2 H'->Ow Z H H'->H' r=some (.tup (List.map V.int (gW tells W W S)))->Q (.ref r) H'
section
variable {P:Program}{w:World}{K:PySem.W.Frag}{mg:Str->Option Value}{base:Heap}{t:vL}
theorem HB(T:Txt K mg t):bX P w K mg base gi 1 t.bB t.gC cW (Bb t.bp "part"):=by
 refine T.rn.qK pB (λvs H Q E h=>?_) (λdc A outer s H vs Q E hr h hc hf=>?_)
 ·obtain⟨e,v,t,rfl,_⟩:=h;rfl
 obtain⟨e,v,t0,rfl,he,q⟩:=h
 refine⟨_,(by apply aq;exact(dH (O6 T.rd_TruceError T.fc_TruceError T.sg_TruceError (cK hc) T.BP (ae (aj hc 0) (ae Um ah))));exact aA (O2 (aj hc 0) (aj hc 1) rfl)),?_⟩
 repeat (walk_at "rd")
 refine⟨t.bp,t0,he,T.t9,λt'=>⟨t.bp,t',rfl,T.t9,T.tk_NoPeace,λdx hd vZ=>?_⟩⟩
 rw[au vZ]at hd
 exact q dx t' hd vZ
theorem Rq(T:Txt K mg t):bX P w K mg base (JL P w) 14 t.CG t.Ck ["whole","ask","part"] (JX P w K mg base t.bp):=by
 have Ob:=V4 (P:=P) (w:=w) (base:=base) T
 have TX:=Mx (P:=P) (w:=w) (base:=base) T
 have Oc:=HB (P:=P) (w:=w) (base:=base) T
 refine T.Lp.okE oa (λvs H Q E h=>?_) (λdc A outer s H vs Q E hr h hc hf L hpo=>?_)
 ·obtain⟨U,f,p,rfl,_⟩:=h;rfl
 obtain⟨U,f,p,rfl,ι,Z,D,nx,dom,tells,n,W,S,ask,hD,hU,hp,rW,sS,lW,qQ,e0,q⟩:=h
 have hu:=kg hr
 have Nk:=hr.gd
 refine⟨_,(by apply aq;exact(cO (dR (bY (yN (k:=12) (hr.mono (by omega)) (aj hc 1) (ae (aj hc 2) ah)))) (by exact aA (G6 (EH:=λ_=>E) T.t9 T.ii_NoPeace T.if_NoPeace T.kc_NoPeace Oc T.qZ (hr.mono (by omega)) (cK hc) T.M5 rfl L (aj hc 2))) bI);apply aq;exact(aP hc oa.nd hf 3 (by decide +kernel) (aj hc 2));apply aq;exact(eL hpo rfl (fL (aF Ob (hr.mono (by omega)) (cK hc) T.M4 T.zS.kp T.N7 .nil aY (ae (aj hc 0) (ae (aj hc 2) ah)))) (pA hc oa.nd hf 4 (by decide +kernel)) (by apply aq;exact(aP hc oa.nd hf 5 (by decide +kernel) (aF TX (hr.mono (by omega)) (cK hc) T.RC T.FT.kp T.Tw .nil aY (ae (bt xj (aj hc 3) (iT (ae (aj hc 4) ah))) ah)));exact aA (cO (bY (yN (k:=12) (hr.mono (by omega)) (aj hc 1) (ae (aj hc 5) ah))) (by exact aA (aP hc oa.nd hf 3 (by decide +kernel) (aj hc 5))) bI)));exact aA (aS (aj hc 3))),?_⟩
 walk_at "r"
 obtain⟨sp,Yn,run⟩:=ask.run
 refine⟨ask.fn _ _ hD,ask.fn _ _ hD,sp,Yn,run n H p S _ hD trivial hp (qQ S sS) λH1 Cg k1=>⟨_,rfl,?_⟩⟩
 have rB:=ask.tup hD k1 hp
 have hU1:=ask.tup hD k1 hU
 rw[e0,aE (by decide)]
 walk_at "r"
 refine⟨U,p,rfl,W,S,hU1,rB,by omega,λR H2 s2 hR hR2=>?_⟩
 walk_at "r"
 refine⟨⟨_,bR hR2⟩,?_⟩
 have lr:(cH W S).length<=W.length:=m7 _ _
 have Ce:=ask.st _ _ _ Cg s2
 have k2:=k1.trans (Ow.of s2)
 obtain⟨Pv,dn⟩:∃Pv:Nat->St->Hp->Prop,∀i σ' H',Pv i σ' H'↔∃(c:Addr) (x y:Option V),σ'=[some (.ref U),some (.ref f),some (.ref p),some (.ref c),x,y]/\D (nh tells nx W ((cH W S).take i) (S,nx n S)).2 H'/\Ow Z H H'/\(H' R=some (.tup (List.map V.int (cH W S))))/\H' c=some (.tup (List.map V.int (gW tells W ((cH W S).take i) S))):=⟨_,λ_ _ _=>dY⟩
 refine jN (xs:=List.map V.int (cH W S)) Pv ((dn _ _ _).mpr ⟨p,none,none,rfl,Ce,k2,hR2,s2 _ _ rB⟩) (λi σ' H' _ pv=>?_) (λi z σ' H3 hz pv=>?_) (λσ' H3 pv=>?_)
 ·obtain⟨c,_,_,_,_,_,hR',_⟩:=(dn _ _ _).mp pv
  exact hR'
 ·obtain⟨c,x,y,rfl,Nw,k3,CQ,hc3⟩:=(dn _ _ _).mp pv
  obtain⟨m,em,rfl⟩:=int_at hz
  have hi:i<(cH W S).length:=(fq.mp em).1
  have hmW:m∈W:=(cx.mp (j6 em)).1
  have step:gW tells W ((cH W S).take (i+1)) S=if tells (fG W (gW tells W ((cH W S).take i) S) m)=true then fG W (gW tells W ((cH W S).take i) S) m else gW tells W ((cH W S).take i) S:=by
   unfold gW
   rw[gR,em,Ab]
   rfl
  have stepI:(nh tells nx W ((cH W S).take (i+1)) (S,nx n S)).2=nx (nh tells nx W ((cH W S).take i) (S,nx n S)).2 (fG W (gW tells W ((cH W S).take i) S) m):=by
   rw[<-zD tells nx W _ (S,nx n S)]
   unfold nh
   rw[gR,em,Ab]
   rfl
  have sub:=zE tells W ((cH W S).take i) S sS
  generalize (nh tells nx W ((cH W S).take i) (S,nx n S)).2=I at Nw stepI
  generalize gW tells W ((cH W S).take i) S=C at hc3 step stepI sub
  have lC:=sub.length_le
  walk_at "r"
  refine⟨by decide,λp1 rB=>?_⟩
  have s4:=aH rB (.tup [V.int m])
  refine⟨_,s4 _ _ hc3,by rw[aM];exact bU (by omega),λp2 H5 s5 _ hp5=>?_⟩
  have YZ:=s4.trans s5
  refine⟨p2,rfl,C++[m],by rw[hp5,dE];rfl,by rw[cS];simp;omega,λr ms H6 s6 _ hr6 rm mm=>?_⟩
  have T4:=YZ.trans s6
  have em2:ms=fG W C m:=sD rm (rW.sublist (lM W C m)) λz=>by
   rw[mm]
   unfold fG
   rw[cx,g8,cw,cG]
   exact⟨λh=>⟨h.elim (λa=>sub.subset a) λe=>e ▸ hmW,h⟩,λh=>h.2⟩
  subst em2
  have Ss:=ask.st _ _ _ Nw T4
  have k6:=k3.trans (Ow.of T4)
  walk_at "r"
  refine⟨ask.fn _ _ Ss,ask.fn _ _ Ss,sp,Yn,run _ H6 r _ _ Ss trivial hr6 (qQ _ (lM W C m)) λH7 hD7 k7=>⟨_,rfl,?_⟩⟩
  have hc7:=ask.tup Ss k7 (T4 _ _ hc3)
  have hr7:=ask.tup Ss k7 hr6
  have hR7:=ask.tup Ss k7 (T4 _ _ CQ)
  have k67:=k6.trans k7
  cases e5:tells (fG W C m) with
  | true=>
   rw[ay rfl]
   exact(dn _ _ _).mpr ⟨r,_,_,rfl,by rw[stepI];exact hD7,k67,hR7,by rw[step,e5,ay rfl];exact hr7⟩
  | false=>
   rw[aE (by decide)]
   exact(dn _ _ _).mpr ⟨c,_,_,rfl,by rw[stepI];exact hD7,k67,hR7,by rw[step,e5,aE (by decide)];exact hc7⟩
 obtain⟨c,x,y,rfl,Nw,k3,CQ,hc3⟩:=(dn _ _ _).mp pv
 rw[aM,gE,mJ rW W S sS λz hz=>hz]at hc3
 rw[aM,gE]at Nw
 walk_at "r"
 exact q c H3 Nw k3 hc3
end
local macro_rules | `(tactic| walk_at "rd") => `(tactic| walk_at "rc")
local macro_rules | `(tactic| walk_at "rl") => `(tactic| first | (refine er fun R hR => ?_) | walk_at "ry" | (refine Nx.to (by assumption) _ _ ?_))
def cov(pe:Bool)(S T:List Int):Bool:=(pe&&aC T S)||(!pe&&aC S T)
theorem BX{S T:List Int}(h:S.map (Sum.inl:Int->Key)=T.map Sum.inl):S=T:=(wF λ_ _ e=>tO e).mp h
def sfs(f l d u:Addr):List (Str×V):=[("ask",.ref f),("askings",.ref l),("known",.ref d),("unknown",.ref u)]
def UT(C:Addr):Sp:=λvs H Q _=>∃x f u dx,vs=[.ref x,.ref f,.ref u]/\H x=some (.ins C dx [])/\
 ∀l d H',H l=none->H d=none->H' x=some (.ins C dx (sfs f l d u))->H' l=some (.lst [])->H' d=some (.dT [])->(∀b o,b≠x->H b=some o->H' b=some o)->Q .non H'
def U1(C:Addr):Sp:=λvs H Q _=>∃x p pe,vs=[.ref x,.ref p,.bl pe]/\∃dx f l d u,∃(S:List Int) (rA:List (List Int)) (us:List Addr) (aO:List (List Key×V)),
 H x=some (.ins C dx (sfs f l d u))/\H p=some (.tup (List.map V.int S))/\H u=some (.lst (List.map V.ref us))/\aL H us rA/\H d=some (.dT aO)/\aO.length+rA.length<=900/\
 ∀H' u' us' aAa,H u'=none->H' x=some (.ins C dx (sfs f l d u'))->H' u'=some (.lst (List.map V.ref us'))->aL H' us' (rA.filter λT=>!cov pe S T)->H' d=some (.dT aAa)->aAa.length+(rA.filter λT=>!cov pe S T).length<=aO.length+rA.length->
  (∀T,gp aAa (T.map Sum.inl)=if T∈rA/\cov pe S T=true then some (.bl pe) else gp aO (T.map Sum.inl))->(∀b o,b≠x->b≠d->H b=some o->H' b=some o)->Q .non H'
section
variable {P:Program}{w:World}{K:PySem.W.Frag}{mg:Str->Option Value}{base:Heap}{t:vL}
theorem Rr(T:Txt K mg t):bX P w K mg base gi 1 t.bE t.gh ["self","ask","parts"] (UT t.aB):=by
 refine T.pI.qK og (λvs H Q E h=>?_) (λdc A outer s H vs Q E hr h hc hf=>?_)
 ·obtain⟨x,f,u,dx,rfl,_⟩:=h;rfl
 obtain⟨x,f,u,dx,rfl,hx,q⟩:=h
 refine⟨_,(by apply aq;exact(rK (aj hc 0) (aj hc 1) rfl);apply aq;exact(rK (aj hc 0) (dU ah) rfl);apply aq;exact(rK (aj hc 0) yM rfl);exact aA (rK (aj hc 0) (aj hc 2) rfl)),?_⟩
 repeat (walk_at "rd")
 refine⟨t.aB,dx,[],hx,T.aV,T.ng,by decide,de _,λl hl=>?_⟩
 have Wt:l≠x:=λe=>by rw[e,ai]at hl;cases hl
 refine⟨t.aB,dx,[("ask",.ref f)],by rw[au Wt.symm,ai];rfl,T.aV,T.cY,(by show 1<1000;decide),λd hd=>?_⟩
 have Iy:d≠x:=λe=>by rw[e,ai]at hd;cases hd
 rw[au Iy]at hd
 have X5:d≠l:=λe=>by rw[e,ai]at hd;cases hd
 rw[au X5,au Iy]at hd
 rw[au Wt]at hl
 refine⟨t.aB,dx,[("ask",.ref f),("askings",.ref l)],by rw[au Iy.symm,ai];rfl,T.aV,T.cy,(by show 2<1000;decide),t.aB,dx,[("ask",.ref f),("askings",.ref l),("known",.ref d)],rfl,T.aV,T.cX,(by show 3<1000;decide),?_⟩
 refine q l d _ hl hd (by rw[ai];rfl) (by rw[au Wt,au X5.symm,au Wt,ai]) (by rw[au Iy,ai]) λb o hb e=>?_
 rw[au hb,au (az e hd),au hb,au (az e hl),au hb]
 exact e
theorem Rn(T:Txt K mg t):bX P w K mg base gi 2 t.cu t.iJ ["self","part","peaceful"] (U1 t.aB):=by
 have jD:=qJ (P:=P) (w:=w) (base:=base) T
 refine T.uQ.qK gU (λvs H Q E h=>?_) (λdc A outer s H vs Q E hr h hc hf=>?_)
 ·obtain⟨x,p,pe,rfl,_⟩:=h;rfl
 obtain⟨x,p,pe,rfl,dx,f,l,d,u,S,rA,us,aO,hx,hp,Wl,su,hd,lk,q⟩:=h
 have hu:=kg hr
 have Nk:=hr.gd
 refine⟨_,(by apply aq;exact(aP hc gU.nd hf 3 (by decide +kernel) (dU ah));apply aq;exact(eL jt rfl (cD (gy (aj hc 0) rfl)) (pA hc gU.nd hf 4 (by decide +kernel)) (by exact aA (cO (m8 (qj (m8 (oY (bY (aj hc 2)) (lE (bY (aF jD (hr.mono (by omega)) (cK hc) T.o9 T.mj.kp T.pz .nil aY (ae (aj hc 4) (ae (aj hc 1) ah))))))) (oX (m8 (oY (dR (bY (aj hc 2))) (lE (bY (aF jD (hr.mono (by omega)) (cK hc) T.o9 T.mj.kp T.pz .nil aY (ae (aj hc 1) (ae (aj hc 4) ah)))))))))) (by exact aA (rL hu (gy (aj hc 0) rfl) (aj hc 4) (aj hc 2) rfl)) (by exact aA (dH (nY uW uX uY fj (aj hc 3) (ae (aj hc 4) ah)))))));exact aA (rK (aj hc 0) (aj hc 3) rfl)),?_⟩
 repeat (walk_at "rd")
 refine⟨de _,λL hL=>?_⟩
 have s0:=aH hL (.lst [])
 have Kq:=s0 _ _ hx
 have Oi:=s0 _ _ hp
 have hu1:=s0 _ _ Wl
 have Kw:=s0 _ _ hd
 have su0:aL (upd H L (.lst [])) us rA:=su.mono λb xs e=>s0 _ _ e
 have Ue:upd H L (.lst []) L=some (.lst []):=ai
 have Iy:d≠x:=bh hd hx (by intro z;cases z)
 have hdL:d≠L:=az hd hL
 have hxL:x≠L:=az hx hL
 have huL:u≠L:=az Wl hL
 have hud:u≠d:=bh Wl hd (by intro z;cases z)
 generalize upd H L (.lst [])=H0 at s0 Kq Oi hu1 Kw su0 Ue ⊢
 refine⟨t.aB,dx,_,Kq,T.aV,T.cX,.ref u,rfl,u,rfl,⟨_,aX hu1⟩,?_⟩
 obtain⟨Pv,dn⟩:∃Pv:Nat->St->Hp->Prop,∀i σ' H',Pv i σ' H'↔∃(z:Option V) (cs:List Addr) (kv:List (List Key×V)),σ'=[some (.ref x),some (.ref p),some (.bl pe),some (.ref L),z]/\H' L=some (.lst (List.map V.ref cs))/\aL H' cs ((rA.take i).filter λT=>!cov pe S T)/\H' d=some (.dT kv)/\
  kv.length+((rA.take i).filter λT=>!cov pe S T).length<=aO.length+i/\(∀T,gp kv (T.map Sum.inl)=if T∈rA.take i/\cov pe S T=true then some (.bl pe) else gp aO (T.map Sum.inl))/\(∀b o,b≠d->b≠L->H0 b=some o->H' b=some o):=⟨_,λ_ _ _=>dY⟩
 refine eJ (xs:=List.map V.ref us) Pv ((dn _ _ _).mpr ⟨none,[],aO,rfl,Ue,⟨rfl,λi b t e=>by simp at e⟩,Kw,by simp,λT=>by simp,λb o _ _ e=>e⟩) (λi σ' H1 _ pv=>?_) (λi z σ' H1 hz pv=>?_) (λσ' H1 pv=>?_)
 ·obtain⟨_,_,_,_,_,_,_,_,_,k⟩:=(dn _ _ _).mp pv
  exact k _ _ hud huL hu1
 ·obtain⟨y,cs,kv,rfl,Kz,sc,Sj,lkv,Wk,k⟩:=(dn _ _ _).mp pv
  obtain⟨b,eb,rfl⟩:=eM hz
  have hi:i<us.length:=(fq.mp eb).1
  have pQ:i<rA.length:=by have:=su0.1;omega
  have et:rA[i]?=some rA[i]:=bq pQ
  have X7:=su0.2 i b _ eb et
  have tk:rA.take (i+1)=rA.take i++[rA[i]]:=by rw[gR,et];rfl
  have IK:=k _ _ (bh X7 Kw (by intro z;cases z)) (bh X7 Ue (by intro z;cases z)) X7
  have rB:=k _ _ (bh Oi Kw (by intro z;cases z)) (bh Oi Ue (by intro z;cases z)) Oi
  have Ca:=k _ _ Iy.symm hxL Kq
  generalize rA[i]=U at X7 tk IK et
  have lcs:=sc.1
  have lfl:((rA.take i).filter λT=>!cov pe S T).length<=900:=by
   have:=m7 (λT=>!cov pe S T) (rA.take i)
   rw[fZ]at this
   omega
  have yes:cov pe S U=true->Pv (i+1) [some (.ref x),some (.ref p),some (.bl pe),some (.ref L),some (.ref b)] (upd H1 d (.dT (putK kv (U.map Sum.inl) (.bl pe)))):=λc=>by
   have fl:((rA.take (i+1)).filter λT=>!cov pe S T)=(rA.take i).filter λT=>!cov pe S T:=by rw[tk,rH];simp[c]
   refine(dn _ _ _).mpr ⟨_,cs,putK kv (U.map Sum.inl) (.bl pe),rfl,by rw[au hdL.symm];exact Kz,?_,ai,?_,λT=>?_,λb o h1 h2 e=>by rw[au h1];exact k b o h1 h2 e⟩
   ·rw[fl]
    exact sc.mono λb xs e=>by rw[au (bh e Sj (by intro z;cases z))];exact e
   ·rw[fl]
    have:=oz kv (U.map Sum.inl) (.bl pe)
    omega
   ·rw[Pa,Wk,tk]
    by_cases e:T=U
    ·rw[ay (by rw[e]),ay ⟨by simp[e],by rw[e];exact c⟩]
    ·rw[aE λz=>e (BX z)]
     have:(T∈rA.take i++[U])=(T∈rA.take i):=by simp[e]
     simp only[this]
  have no:cov pe S U=false->Pv (i+1) [some (.ref x),some (.ref p),some (.bl pe),some (.ref L),some (.ref b)] (upd H1 L (.lst (List.map V.ref cs++[V.ref b]))):=λc=>by
   have fl:((rA.take (i+1)).filter λT=>!cov pe S T)=((rA.take i).filter λT=>!cov pe S T)++[U]:=by rw[tk,rH];simp[c]
   refine(dn _ _ _).mpr ⟨_,cs++[b],kv,rfl,by rw[ai,dE];rfl,?_,by rw[au hdL];exact Sj,?_,λT=>?_,λb o h1 h2 e=>by rw[au h2];exact k b o h1 h2 e⟩
   ·rw[fl]
    exact(sc.snoc IK).mono λb xs e=>by rw[au (bh e Kz (by intro z;cases z))];exact e
   ·rw[fl,cS,GD]
    omega
   ·rw[Wk,tk]
    by_cases e:T=U
    ·have:¬(T∈rA.take i/\cov pe S T=true):=λz=>by rw[e,c]at z;cases z.2
     rw[aE this,aE λz=>by rw[e,c]at z;cases z.2]
    ·have:(T∈rA.take i++[U])=(T∈rA.take i):=by simp[e]
     simp only[this]
  cases pe with
  | true=>
   repeat (walk_at "rd")
   refine⟨b,p,rfl,U,S,IK,rB,_,rfl,?_⟩
   have ec:cov true S U=aC U S:=by simp[cov]
   rw[<-ec]
   cases c:cov true S U with
   | true=>
    rw[ay rfl]
    simp only[w8]
    repeat (walk_at "rd")
    exact⟨t.aB,dx,_,Ca,T.aV,T.cy,.ref d,rfl,d,rfl,_,xY.t (k:=U.map Sum.inl) Sj (by rw[ox];exact IK) (bU (by omega)),yes c⟩
   | false=>
    rw[aE (by decide)]
    repeat (walk_at "rd")
    exact⟨.inl ⟨rfl,_,aX Kz⟩,_,Kz,by rw[aM];exact bU (by omega),no c⟩
  | false=>
   repeat (walk_at "rd")
   refine⟨p,b,rfl,S,U,rB,IK,_,rfl,?_⟩
   have ec:cov false S U=aC S U:=by simp[cov]
   rw[<-ec]
   cases c:cov false S U with
   | true=>
    rw[ay rfl]
    simp only[w8]
    repeat (walk_at "rd")
    exact⟨t.aB,dx,_,Ca,T.aV,T.cy,.ref d,rfl,d,rfl,_,xY.t (k:=U.map Sum.inl) Sj (by rw[ox];exact IK) (bU (by omega)),yes c⟩
   | false=>
    rw[aE (by decide)]
    repeat (walk_at "rd")
    exact⟨.inl ⟨rfl,_,aX Kz⟩,_,Kz,by rw[aM];exact bU (by omega),no c⟩
 ·obtain⟨y,cs,kv,rfl,Kz,sc,Sj,lkv,Wk,k⟩:=(dn _ _ _).mp pv
  have hlen:(List.map V.ref us).length=rA.length:=by rw[aM,su0.1]
  rw[hlen,gE]at sc lkv
  rw[hlen,gE]at Wk
  have Ca:=k _ _ Iy.symm hxL Kq
  repeat (walk_at "rd")
  refine⟨t.aB,dx,_,Ca,T.aV,T.cX,(by show 4<1000;decide),?_⟩
  have nx:∀{b:Addr} {o:HO},H1 b=some o->b≠x->upd H1 x (.ins t.aB dx (oj (Str.ofString "unknown") (V.ref L) (sfs f l d u))) b=some o:=λe h=>by rw[au h];exact e
  refine q _ L cs kv hL (by rw[ai];rfl) (nx Kz hxL.symm) (sc.mono λb xs e=>nx e (bh e Ca (by intro z;cases z))) (nx Sj Iy) lkv Wk λb o h1 h2 e=>nx (k b o h2 (az e hL) (s0 _ _ e)) h1
end
local macro_rules | `(tactic| walk_at "rd") => `(tactic| walk_at "rc")
local macro_rules | `(tactic| walk_at "rl") => `(tactic| first | (refine er fun R hR => ?_) | walk_at "ry" | (refine Nx.to (by assumption) _ _ ?_))
def det(tells:List Int->Bool)(as:List (List Int))(T:List Int):Bool:=as.any λa=>cov (tells a) a T
def tM(tells:List Int->Bool)(as:List (List Int))(S:List Int):List (List Int):=if det tells as S=true then as else as++[S]
structure Xj(P:Program)(w:World)(K:PySem.W.Frag)(mg:Str->Option Value)(base:Heap)(k:Nat)(f:Addr){ι:Type}(Z own:Addr->Prop)(D:ι->Hp->Prop)(nx:ι->List Int->ι)(lim:ι->Prop)(dom:List Int->Prop)(tells:List Int->Bool):Prop where
 g:T2 P w K mg base k f Z D nx lim dom tells
 zo:∀b,Z b->own b
 od:∀i H b,D i H->own b->H b≠none
 os:∀i H H',D i H->(∀b o,(own b\/∃xs,o=.tup xs)->H b=some o->H' b=some o)->D i H'
def kx(own:Addr->Prop)(H:Hp)(C x f l d:Addr)(ps:List (List Int))(tells:List Int->Bool)(as:List (List Int)):Prop:=
 ∃(dx u:Addr) (bs us:List Addr) (aO:List (List Key×V)),H x=some (.ins C dx (sfs f l d u))/\H l=some (.lst (List.map V.ref bs))/\aL H bs as/\H d=some (.dT aO)/\(∀S∈ps,gp aO (S.map Sum.inl)=if det tells as S=true then some (.bl (tells S)) else none)/\
  H u=some (.lst (List.map V.ref us))/\aL H us (ps.filter λT=>!det tells as T)/\aO.length+(ps.filter λT=>!det tells as T).length<=ps.length/\u≠l/\¬own u/\as.Nodup/\∀s∈as,s∈ps
def mX(ps:List (List Int))(tells:List Int->Bool):Prop:=∀S∈ps,∀T∈ps,aC S T=true->tells T=true->tells S=true
theorem Et(S:List Int):aC S S=true:=by unfold aC;simp
theorem Tc(b:Bool)(S:List Int):cov b S S=true:=by unfold cov;rw[Et];cases b <;> rfl
theorem Fq(tells:List Int->Bool)(as:List (List Int))(S T:List Int):det tells (as++[S]) T=(det tells as T||cov (tells S) S T):=by unfold det;rw[List.any_append];simp
theorem sX{tells:List Int->Bool}{as:List (List Int)}{S:List Int}(h:S∈as):det tells as S=true:=gk.mpr ⟨S,h,Tc _ _⟩
theorem kx.keep{own:Addr->Prop}{H H':Hp}{C x f l d:Addr}{ps:List (List Int)}{tells:List Int->Bool}{as:List (List Int)}(h:kx own H C x f l d ps tells as)(k:∀b o,(∀o',o≠dQ o')->(∀tb,o≠.qF tb)->H b=some o->H' b=some o):kx own H' C x f l d ps tells as:=by
 have p1:∀{xs:List V} (o':Obj),HO.lst xs≠dQ o':=λ_ z=>by cases z
 have q1:∀{xs:List V} (tb:Array Value),HO.lst xs≠.qF tb:=λ_ z=>by cases z
 have q2:∀{xs:List V} (tb:Array Value),HO.tup xs≠.qF tb:=λ_ z=>by cases z
 have p2:∀{xs:List V} (o':Obj),HO.tup xs≠dQ o':=λ_ z=>by cases z
 obtain⟨dx,u,bs,us,aO,h1,h2,h3,h4,h5,h6,h7,h8⟩:=h
 exact⟨dx,u,bs,us,aO,k _ _ (by intro o z;cases z) (by intro o z;cases z) h1,k _ _ p1 q1 h2,h3.mono λ_ _ e=>k _ _ p2 q2 e,k _ _ (by intro o z;cases z) (by intro o z;cases z) h4,h5,k _ _ p1 q1 h6,h7.mono λ_ _ e=>k _ _ p2 q2 e,h8⟩
theorem Yo{ps as:List (List Int)}(nd:as.Nodup)(h:∀s∈as,s∈ps):as.length<=ps.length:=dI nd h
def Dy(P:Program)(w:World)(K:PySem.W.Frag)(mg:Str->Option Value)(base:Heap)(C:Addr):Sp:=λvs H Q _=>∃x p,vs=[.ref x,.ref p]/\∃(ι:Type) (Z own:Addr->Prop) (D:ι->Hp->Prop) (nx:ι->List Int->ι) (lim:ι->Prop) (dom:List Int->Prop) (tells:List Int->Bool) (i0:ι) (f l d:Addr) (ps as:List (List Int)) (S:List Int),
 Xj P w K mg base 8 f Z own D nx lim dom tells/\D (as.foldl nx i0) H/\(∀ts:List (List Int),ts.length<=100->lim (ts.foldl nx i0))/\mX ps tells/\kx own H C x f l d ps tells as/\H p=some (.tup (List.map V.int S))/\S∈ps/\ps.length<=100/\(∀s∈ps,dom s)/\¬own x/\¬own l/\¬own d/\
 ∀H',kx own H' C x f l d ps tells (tM tells as S)->D ((tM tells as S).foldl nx i0) H'->(∀b o,¬Z b->b≠x->b≠l->b≠d->H b=some o->H' b=some o)->Q (.bl (tells S)) H'
section
variable {P:Program}{w:World}{K:PySem.W.Frag}{mg:Str->Option Value}{base:Heap}{t:vL}
theorem zj(T:Txt K mg t):bX P w K mg base gi 9 t.cq t.iI ["self","part"] (Dy P w K mg base t.aB):=by
 have uO:=Rn (P:=P) (w:=w) (base:=base) T
 refine T.uP.qK sj (λvs H Q E h=>?_) (λdc A outer s H vs Q E hr h hc hf=>?_)
 ·obtain⟨x,p,rfl,_⟩:=h;rfl
 obtain⟨x,p,rfl,ι,Z,own,D,nx,lim,dom,tells,i0,f,l,d,ps,as,S,ask,hD,Fh,mono,snd,hp,hS,lps,qQ,x6,ZQ,ZV,q⟩:=h
 have hu:=kg hr
 have Nk:=hr.gd
 have YQ:=snd
 obtain⟨dx,u,bs,us,aO,hx,hl,sbs,hd,hkv,Wl,sus,lk,hul,nou,nd,sub⟩:=snd
 refine⟨_,(by apply nW;exact(cO (Uj (G7 hu (aj hc 1) (gy (aj hc 0) rfl))) (by apply aq;exact(dH (nY uW uX uY fj (gy (aj hc 0) rfl) (ae (aj hc 1) ah)));exact aA (dH (wN (aj hc 0) T.aV T.sO uO (hr.mono (by omega)) T.uK .nil aY (ae (aj hc 1) (ae (Lw (k:=8) (hr.mono (by omega)) (aj hc 0) (ae (aj hc 1) ah)) ah))))) bI);exact aA (aS (rN hu (gy (aj hc 0) rfl) (aj hc 1) (λ_ _=>rfl)))),?_⟩
 unfold Ux
 refine⟨λσ' H'=>σ'=[some (.ref x),some (.ref p)]/\kx own H' t.aB x f l d ps tells (tM tells as S)/\D ((tM tells as S).foldl nx i0) H'/\(∀b o,¬Z b->b≠x->b≠l->b≠d->H b=some o->H' b=some o),?_,λσ' H' hN=>?_⟩
 ·repeat (first | walk_at "rl" | simp only[Av])
  refine⟨t.aB,dx,_,hx,T.aV,T.cy,.ref d,rfl,d,rfl,_,tL.t (k:=S.map Sum.inl) hd (by rw[ox];exact hp),?_⟩
  rw[hkv S hS]
  cases c:det tells as S with
  | true=>
   rw[ay rfl]
   simp only[Gq,zV]
   walk_at "r"
   rw[show tM tells as S=as from ay c]
   exact⟨YQ,hD,λb o _ _ _ _ e=>e⟩
  | false=>
   rw[show(if false=true then some (V.bl (tells S)) else none)=none from rfl]
   simp only[Option.isSome_none,Bool.not_false]
   walk_at "r"
   have lbs:=sbs.1
   have Wf:=Yo nd sub
   have Wt:l≠x:=bh hl hx (by intro z;cases z)
   have hld:l≠d:=bh hl hd (by intro z;cases z)
   have Iy:d≠x:=bh hd hx (by intro z;cases z)
   have hux:u≠x:=bh Wl hx (by intro z;cases z)
   have hud:u≠d:=bh Wl hd (by intro z;cases z)
   refine⟨t.aB,dx,_,hx,T.aV,T.cY,.ref l,rfl,.inl ⟨rfl,_,aX hl⟩,l,rfl,_,hl,by rw[aM];exact bU (by omega),?_⟩
   have k1:∀b o,b≠l->H b=some o->upd H l (.lst (List.map V.ref bs++[V.ref p])) b=some o:=λb o h e=>by rw[au h];exact e
   have yu:upd H l (.lst (List.map V.ref bs++[V.ref p])) l=some (.lst (List.map V.ref (bs++[p]))):=by rw[ai,dE];rfl
   generalize upd H l (.lst (List.map V.ref bs++[V.ref p]))=H1 at k1 yu ⊢
   have kt1:∀{b:Addr} {xs:List V},H b=some (.tup xs)->H1 b=some (.tup xs):=λe=>k1 _ _ (bh e hl (by intro z;cases z)) e
   have Cg:D (as.foldl nx i0) H1:=ask.os _ _ _ hD λb o h e=>k1 b o (h.elim (λh z=>ZQ (z ▸ h)) λ⟨xs,ho⟩=>bh e hl (by rw[ho];intro z;cases z)) e
   have Ca:=k1 _ _ Wt.symm hx
   have rB:=kt1 hp
   walk_at "r"
   obtain⟨sp,Yn,run⟩:=ask.g.run
   refine⟨dx,_,Ca,rfl,t.aB,dx,_,Ca,T.aV,T.ng,f,rfl,ask.g.fn _ _ Cg,ask.g.fn _ _ Cg,sp,Yn,run _ H1 p S _ Cg (Fh as (by omega)) rB (qQ S hS) λH2 Ce k2=>?_⟩
   have nz:∀{b:Addr},¬own b->¬Z b:=λh z=>h (ask.zo _ z)
   have kt2:∀{b:Addr} {xs:List V},H b=some (.tup xs)->H2 b=some (.tup xs):=λe=>ask.g.tup Cg k2 (kt1 e)
   have Oh:=k2 _ _ (nz x6) Ca
   have Ku:=k2 _ _ (nz ZQ) yu
   have hd2:=k2 _ _ (nz ZV) (k1 _ _ hld.symm hd)
   have hu2:=k2 _ _ (nz nou) (k1 _ _ hul Wl)
   have aCv:aL H2 us (ps.filter λT=>!det tells as T):=sus.mono λb xs e=>kt2 e
   refine⟨x,p,tells S,rfl,dx,f,l,d,u,S,_,us,aO,Oh,kt2 hp,hu2,aCv,hd2,by omega,λH3 u3 us3 aBv hu3 R3 Kt L8 hd3 lk3 hv3 k3=>?_⟩
   have enx:tM tells as S=as++[S]:=aE (by rw[c];decide)
   have efl:((ps.filter λT=>!det tells as T).filter λT=>!cov (tells S) S T)=ps.filter λT=>!det tells (as++[S]) T:=by
    rw[List.filter_filter]
    congr 1
    funext T
    rw[Fq]
    cases det tells as T <;> cases cov (tells S) S T <;> rfl
   rw[efl]at L8 lk3
   have kt3:∀{b:Addr} {xs:List V},H2 b=some (.tup xs)->H3 b=some (.tup xs):=λe=>k3 _ _ (bh e Oh (by intro z;cases z)) (bh e hd2 (by intro z;cases z)) e
   have aEH:=k3 _ _ Wt hld Ku
   rw[enx]
   refine⟨⟨dx,u3,bs++[p],us3,aBv,R3,aEH,(sbs.mono λb xs e=>kt3 (kt2 e)).snoc (kt3 (kt2 hp)),hd3,λT hT=>?_,Kt,L8,by omega,(az Ku hu3).symm,λz=>ask.od _ _ _ Ce z hu3,?_,?_⟩,?_,λb o h1 h2 h3 h4 e=>k3 _ _ h2 h4 (k2 _ _ h1 (k1 _ _ h3 e))⟩
   ·rw[hv3,hkv T hT,Fq]
    by_cases e1:det tells as T=true
    ·have nin:¬(T∈(ps.filter λT=>!det tells as T)/\cov (tells S) S T=true):=λz=>by
      have:=(cx.mp z.1).2
      rw[e1]at this
      cases this
     rw[aE nin,ay e1,ay (by rw[e1];rfl)]
    ·have Fn:=Gv e1
     rw[Fn,Bool.false_or]
     by_cases e2:cov (tells S) S T=true
     ·rw[ay ⟨cx.mpr ⟨hT,by rw[Fn];rfl⟩,e2⟩,ay e2]
      congr 2
      unfold cov at e2
      cases eS:tells S with
      | true=>
       rw[eS]at e2
       simp at e2
       exact(mono T hT S hS e2 eS).symm
      | false=>
       rw[eS]at e2
       simp at e2
       cases eT:tells T with
       | true=>have:=mono S hS T hT e2 eT;rw[eS]at this;cases this
       | false=>rfl
     ·rw[aE λz=>e2 z.2,aE e2];rfl
   ·refine wD.mpr ⟨nd,by simp,λa ha b hb z=>?_⟩
    rw[cG]at hb
    rw[z,hb]at ha
    rw[sX ha]at c
    cases c
   ·intro s hs
    rcases cw.mp hs with z | z
    ·exact sub s z
    ·rw[cG.mp z];exact hS
   ·rw[Ab]
    exact ask.os _ _ _ Ce λb o h e=>k3 b o (h.elim (λh z=>x6 (z ▸ h)) λ⟨xs,ho⟩=>bh e Oh (by rw[ho];intro z;cases z)) (h.elim (λh z=>ZV (z ▸ h)) λ⟨xs,ho⟩=>bh e hd2 (by rw[ho];intro z;cases z)) e
 ·obtain⟨rfl,aA0,Cg,k1⟩:=hN
  have aCy:=aA0
  obtain⟨dx1,u1,bs1,us1,aF9,Ca,yu,aF5,Sj,aEI,hu1,aF3,lk1,aGb,aF8,nd1,aF4⟩:=aA0
  have dS:det tells (tM tells as S) S=true:=by
   unfold tM
   by_cases c:det tells as S=true
   ·rw[ay c];exact c
   ·rw[aE c];exact sX (by simp)
  have rB:H' p=some (.tup (List.map V.int S)):=k1 p _ (λz=>ask.g.nt _ H p _ hD z hp) (bh hp hx (by intro z;cases z)) (bh hp hl (by intro z;cases z)) (bh hp hd (by intro z;cases z)) hp
  repeat (first | walk_at "rl" | simp only[yW])
  have e1:=aEI S hS
  rw[ay dS]at e1
  exact⟨t.aB,dx1,_,Ca,T.aV,T.cy,.ref d,rfl,d,rfl,_,by rw[<-e1];exact tL.t (k:=S.map Sum.inl) Sj (by rw[ox];exact rB),q H' aCy Cg k1⟩
end
local macro_rules | `(tactic| walk_at "rd") => `(tactic| walk_at "rc")
local macro_rules | `(tactic| walk_at "rl") => `(tactic| first | (refine er fun R hR => ?_) | walk_at "ry" | (refine Nx.to (by assumption) _ _ ?_))
def aQ:Expr:=match aN bV with
 | [_,.While _ [_,.If _ [.Expr (.Call _ [_,e,_] _ _) _] _ _] _ _,_,_,_]=>e
 | _=>.Name "" ⟨0,0,0,0⟩
def Nb:Expr->Arguments
 | .Lambda a _ _ _=>a
 | _=>{ posonlyargs:=[],args:=[],vararg:=none,kwonlyargs:=[],kw_defaults:=[],kwarg:=none,defaults:=[] }
def M9:Expr->Expr
 | .Lambda _ b _ _=>b
 | e=>e
def Ij:Expr->Scope
 | .Lambda _ _ s _=>s
 | _=>{ kind:=.function,names:=[],isGenerator:=false,isCoroutine:=false }
def M8:Expr->Pos
 | .Lambda _ _ _ p=>p
 | _=>⟨0,0,0,0⟩
def aAW(P:Program)(w:World)(K:PySem.W.Frag)(mg:Str->Option Value)(base:Heap)(C g c':Addr)(fo oc:Obj)(cl:List (Str×Addr))(x:Addr):Sp:=λvs H Q _=>∃p,vs=[.ref p]/\H g=some (dQ fo)/\H c'=some (dQ oc)/\∃Cs,dP Cs H/\CellsOk Cs cl ["sounding"] [.ref x]/\∃dx fs,bD Cs H x=some (.ins C dx fs)/\fs.lookup ("tells" : Str)=none/\
 Dy P w K mg base C [.ref x,.ref p] (bD Cs H) (λv H'=>dN Cs H'->Q v (fJ Cs H')) E0
section
variable {P:Program}{w:World}{K:PySem.W.Frag}{mg:Str->Option Value}{base:Heap}{t:vL}
theorem W6(T:Txt K mg t){g c' x:Addr}{oc:Obj}{De:Array Value}{tq:Tok}{qual:Str}{cl:List (Str×Addr)}{pm ctv:Value}(tN:oc.data=.fields De)(hq:De[1]?=some (.str qual tq))
  (uA:∀x c,cl.lookup x=some c->x∈(["sounding"]:List Str)) (inj:∀x y c,cl.lookup x=some c->cl.lookup y=some c->x=y) :
  p7 P w K mg base 12 g (aAW P w K mg base t.aB g c' (PySem.W.kla_obj "<lambda>" qual (Nb aQ) (M9 aQ) (Ij aQ) cl pm c' ctv) oc cl x):=by
 have iS:=zj (P:=P) (w:=w) (base:=base) T
 refine W5 (k:=11) (fo:=PySem.W.kla_obj "<lambda>" qual (Nb aQ) (M9 aQ) (Ij aQ) cl pm c' ctv) (oc:=oc) (name:="<lambda>") (qual:=qual) (params:=Nb aQ) (body:=M9 aQ) (scope:=Ij aQ) (cl:=cl) (pm:=pm) (ctv:=ctv) (ps:=["part"]) (fr:=["sounding"]) rfl tN hq rfl rfl rfl (by decide +kernel) (by decide +kernel) (by decide +kernel) (by decide +kernel) (λx hx=>?_) uA inj (λus hu=>?_) λvs H Q E h=>?_
 ·have:L2.freeOf (Ij aQ)=(["sounding"]:List Str):=by decide +kernel
  rw[<-this]
  exact eU.mpr ⟨(x,.free),cx.mpr ⟨fC hx,rfl⟩,rfl⟩
 ·match us,hu with
  | [_],_=>rfl
 obtain⟨p,rfl,hf,lu,C,pin,Td,dx,fs,hx,Uc,q⟩:=h
 refine⟨C,[.ref x],rfl,hf,lu,pin,rfl,Td,λA outer s hr hc=>?_⟩
 refine⟨_,(wN (aj hc 1) T.aV T.kc iS (hr.mono (by omega)) T.lY .nil aY (ae (aj hc 0) ah)),?_⟩
 walk_at "r"
 exact⟨_,_,hx,Uc,q⟩
theorem Xc(T:Txt K mg t){g c' x f l d:Addr}{oc:Obj}{De:Array Value}{tq:Tok}{qual:Str}{cl:List (Str×Addr)}{pm ctv:Value}(tN:oc.data=.fields De)(hq:De[1]?=some (.str qual tq))
  (uA:∀x c,cl.lookup x=some c->x∈(["sounding"]:List Str)) (inj:∀x y c,cl.lookup x=some c->cl.lookup y=some c->x=y)
  {Cs:List (Addr×Obj)} (Td:CellsOk Cs cl ["sounding"] [.ref x]) {ι:Type} {Z own:Addr->Prop} {D:ι->Hp->Prop} {nx:ι->List Int->ι} {lim:ι->Prop} {dom:List Int->Prop} {tells:List Int->Bool} (ask:Xj P w K mg base 8 f Z own D nx lim dom tells)
  {i0:ι} (Fh:∀ts:List (List Int),ts.length<=100->lim (ts.foldl nx i0)) {ps:List (List Int)} (mono:mX ps tells) (lps:ps.length<=100) (qQ:∀s∈ps,dom s) (x6:¬own x) (ZQ:¬own l) (ZV:¬own d) (nog:¬own g) (ZX:¬own c') (noC:∀b o,Cs.lookup b=some o->¬own b) :
  T2 P w K mg base 12 g (λb=>Z b\/b=x\/b=l\/b=d) (λas H=>H g=some (dQ (PySem.W.kla_obj "<lambda>" qual (Nb aQ) (M9 aQ) (Ij aQ) cl pm c' ctv))/\H c'=some (dQ oc)/\dP Cs H/\kx own H t.aB x f l d ps tells as/\D (as.foldl nx i0) H) (tM tells) (λ_=>True) (λS=>S∈ps) tells:=by
 refine⟨⟨_,W6 T (x:=x) (g:=g) (c':=c') (pm:=pm) (ctv:=ctv) tN hq uA inj,λas H p S Q hD _ hp hS q=>?_⟩,λas H hD=>⟨_,_,hD.1,rfl⟩,λas H H' hD s=>?_,λas H b xs hD hz e=>?_⟩
 ·obtain⟨h1,h2,h3,h4,h5⟩:=hD
  have out:∀{b:Addr} {o:HO},H b=some o->(∀o',o≠dQ o')->bD Cs H b=some o:=λe n=>by rw[aZ (h3.out e n)];exact e
  have h4':kx own (bD Cs H) t.aB x f l d ps tells as:=h4.keep λb o n _ e=>out e n
  have h5':D (as.foldl nx i0) (bD Cs H):=ask.os _ _ _ h5 λb o h e=>by
   rcases h with h | ⟨xs,rfl⟩
   ·cases z:Cs.lookup b with
    | none=>rw[aZ z];exact e
    | some o'=>exact absurd h (noC b o' z)
   ·exact out e (by intro o z;cases z)
  have aEV:=h4'
  obtain⟨dx,u,_,_,_,hx,hl,_,hd,_⟩:=aEV
  have nz:∀{b:Addr},¬own b->¬Z b:=λh z=>h (ask.zo _ z)
  refine⟨p,rfl,h1,h2,Cs,h3,Td,dx,_,hx,rfl,x,p,rfl,ι,Z,own,D,nx,lim,dom,tells,i0,f,l,d,ps,as,S,ask,h5',Fh,mono,h4',out hp (by intro o z;cases z),hS,lps,qQ,x6,ZQ,ZV,λH' s' d' k' po=>?_⟩
  have keep:∀b o,¬Z b->b≠x->b≠l->b≠d->H b=some o->fJ Cs H' b=some o:=λb o n1 n2 n3 n4 e=>by
   cases z:Cs.lookup b with
   | some o'=>rw[ku z,<-h3 b o' z];exact e
   | none=>rw[cp z];exact k' b o n1 n2 n3 n4 (by rw[aZ z];exact e)
  have ne:∀{b:Addr} {o':Obj},H b=some (dQ o')->b≠x/\b≠l/\b≠d:=λ{b o'} e=>by
   have ZK:∀{a:Addr} {o:HO},bD Cs H a=some o->H a=some o:=λ{a o} e=>by
    cases z:Cs.lookup a with
    | none=>rw[aZ z]at e;exact e
    | some o'=>rw[lT z]at e;cases e
   exact⟨bh e (ZK hx) (by intro z;cases z),bh e (ZK hl) (by intro z;cases z),bh e (ZK hd) (by intro z;cases z)⟩
  refine q _ ⟨keep _ _ (nz nog) (ne h1).1 (ne h1).2.1 (ne h1).2.2 h1,keep _ _ (nz ZX) (ne h2).1 (ne h2).2.1 (ne h2).2.2 h2,dN.added,?_,?_⟩ λb o n e=>keep b o (λz=>n (.inl z)) (λz=>n (.inr (.inl z))) (λz=>n (.inr (.inr (.inl z)))) (λz=>n (.inr (.inr (.inr z)))) e
  ·exact s'.keep λb o _ _ e=>by rw[cp (po.out e)];exact e
  ·exact ask.g.st _ _ _ d' λb o e=>by rw[cp (po.out e)];exact e
 ·obtain⟨h1,h2,h3,h4,h5⟩:=hD
  exact⟨s _ _ h1,s _ _ h2,λb o e=>s _ _ (h3 b o e),h4.keep λb o _ _ e=>s _ _ e,ask.g.st _ _ _ h5 s⟩
 ·obtain⟨h1,h2,h3,h4,h5⟩:=hD
  obtain⟨dx,u,_,_,_,hx,hl,_,hd,_⟩:=h4
  rcases hz with z | rfl | rfl | rfl
  ·exact ask.g.nt _ H b xs h5 z e
  ·rw[hx]at e;cases e
  ·rw[hl]at e;cases e
  ·rw[hd]at e;cases e
end
local macro_rules | `(tactic| walk_at "rd") => `(tactic| walk_at "rc")
local macro_rules | `(tactic| walk_at "rl") => `(tactic| first | (refine er fun R hR => ?_) | walk_at "ry" | (refine Nx.to (by assumption) _ _ ?_))
theorem gq{x t:List Int}(h:t∈cB x):t.Sublist x:=by
 have:∀(x:List Int) (y:List Int) (ps:List (List Int)),(∀p∈ps,p.Sublist y)->∀t∈x.foldl j8 ps,t.Sublist (y++x):=λx=>by
  induction x with
  | nil=>intro y ps h t ht;rw[gj];exact h t ht
  | cons k x ih=>
   intro y ps h t ht
   rw[lA]at ht
   have st:∀p∈j8 ps k,p.Sublist (y++[k]):=λp hp=>by
    unfold j8 at hp
    rcases cw.mp hp with hp | hp
    ·exact(h p hp).trans (List.sublist_append_left _ _)
    ·obtain⟨c,hc,rfl⟩:=eU.mp hp
     exact(h c hc).append (Aa _)
   have:=ih (y++[k]) _ st t ht
   rwa [jE]at this
 exact this x [] [[]] (by simp) t h
theorem lH{x t:List Int}:t∈cB x↔t.Sublist x:=by
 refine⟨gq,λh=>?_⟩
 have:∀(x:List Int) (ps:List (List Int)) (p s:List Int),p∈ps->s.Sublist x->p++s∈x.foldl j8 ps:=λx=>by
  induction x with
  | nil=>intro ps p s hp hs;rw[List.sublist_nil.mp hs,gj];exact hp
  | cons k x ih=>
   intro ps p s hp hs
   rw[lA]
   cases hs with
   | cons _ h1=>exact ih _ p s (uT _ hp) h1
   | cons_cons _ h1=>
    rename_i s'
    have:=ih (j8 ps k) (p++[k]) s' (gS _ (eU.mpr ⟨p,hp,rfl⟩)) h1
    rwa [jE]at this
 exact this x [[]] [] t (by simp) h
def turn(W:List Int)(tells:List Int->Bool)(as:List (List Int))(S:List Int):List (List Int):=
 if tells S=true then (nh tells (tM tells) W (cH W S) (S,tM tells (tM tells as S) S)).2 else tM tells as S
inductive FN (ps:List (List Int)) (W:List Int) (tells:List Int->Bool):List (List Int)->Prop
 | nil:FN ps W tells []
 | step {as:List (List Int)} {S:List Int} {r:List (List Int)}:FN ps W tells as->(ps.filter λT=>!det tells as T)=S::r->FN ps W tells (turn W tells as S)
theorem Bv{tells:List Int->Bool}{as:List (List Int)}{S a:List Int}(h:a∈as):a∈tM tells as S:=by
 unfold tM
 by_cases c:det tells as S=true
 ·rw[ay c];exact h
 ·rw[aE c];exact uT _ h
theorem W3(tells:List Int->Bool)(as:List (List Int))(S:List Int):det tells (tM tells as S) S=true:=by
 unfold tM
 by_cases c:det tells as S=true
 ·rw[ay c];exact c
 ·rw[aE c];exact sX (by simp)
theorem Fs{tells:List Int->Bool}{as as':List (List Int)}(h:∀a∈as,a∈as'){T:List Int}(hd:det tells as T=true):det tells as' T=true:=by
 obtain⟨a,ha,e⟩:=gk.mp hd
 exact gk.mpr ⟨a,h a ha,e⟩
theorem xF(tells:List Int->Bool)(W:List Int){a:List Int}:∀(ms:List Int) (c:List Int×List (List Int)),a∈c.2->a∈(nh tells (tM tells) W ms c).2
 | [],c,h=>h
 | m::ms,c,h=>by
  unfold nh
  rw[lA]
  exact xF tells W ms _ (Bv h)
theorem yS{W:List Int}{tells:List Int->Bool}{as:List (List Int)}{S a:List Int}(h:a∈tM tells as S):a∈turn W tells as S:=by
 unfold turn
 by_cases c:tells S=true
 ·rw[ay c];exact xF tells W _ _ (Bv h)
 ·rw[aE c];exact h
theorem LQ{ps:List (List Int)}{W:List Int}{tells:List Int->Bool}{as:List (List Int)}{S:List Int}{r:List (List Int)}(h:(ps.filter λT=>!det tells as T)=S::r):(ps.filter λT=>!det tells (turn W tells as S) T).length<(ps.filter λT=>!det tells as T).length:=by
 have e:(ps.filter λT=>!det tells (turn W tells as S) T)=(ps.filter λT=>!det tells as T).filter λT=>!det tells (turn W tells as S) T:=by
  rw[List.filter_filter]
  refine List.filter_congr λT _=>?_
  cases d:det tells as T with
  | false=>simp
  | true=>rw[Fs (λa ha=>yS (Bv ha)) d];rfl
 rw[e,h,qg,aE (by rw[Fs (λa ha=>yS ha) (W3 tells as S)];decide)]
 exact Nat.lt_succ_of_le (m7 _ _)
def Lj(own:Addr->Prop)(H:Hp)(pT:Addr)(qual:Str):Prop:=∃tb,H pT=some (.qF tb)/\TriplesOk tb.toList/\(codeAmong (M8 aQ) tb.toList=none\/∃c' oc vs tq,codeAmong (M8 aQ) tb.toList=some (.ref c')/\H c'=some (dQ oc)/\oc.data=.fields vs/\vs[1]?=some (.str qual tq)/\¬own c')
def Ma(P:Program)(w:World)(K:PySem.W.Frag)(mg:Str->Option Value)(base:Heap)(pT:Addr):Sp:=λvs H Q _=>∃U f,vs=[.ref U,.ref f]/\∃(ι:Type) (Z own:Addr->Prop) (D:ι->Hp->Prop) (nx:ι->List Int->ι) (lim:ι->Prop) (dom:List Int->Prop) (tells:List Int->Bool) (i0:ι) (W:List Int) (tb:Array Value),
 Xj P w K mg base 8 f Z own D nx lim dom tells/\D i0 H/\(∀ts:List (List Int),ts.length<=100->lim (ts.foldl nx i0))/\H U=some (.tup (List.map V.int W))/\eG W/\W.length<=6/\(∀T,T.Sublist W->dom T)/\mX (cB W) tells/\H pT=some (.qF tb)/\TriplesOk tb.toList/\codeAmong (M8 aQ) tb.toList=none/\¬own pT/\
 ∀r H' c p l cs qs bs clashes iy as ps,H' r=some (.tup [V.ref c,V.ref p,V.ref l])->H' c=some (.lst (List.map V.ref cs))->aL H' cs clashes->H' p=some (.lst (List.map V.ref qs))->aL H' qs iy->H' l=some (.lst (List.map V.ref bs))->aL H' bs as->
  D (as.foldl nx i0) H'->(∀b o,¬Z b->b≠pT->H b=some o->H' b=some o)->(∀x,x∈clashes↔x∈as.filter (λa=>!tells a)/\∀y∈as.filter (λa=>!tells a),aC y x=true->y=x)->(∀x,x∈iy↔x∈as.filter tells/\∀y∈as.filter tells,aC x y=true->y=x)->
  clashes.Pairwise (λa b=>bT a b=true)->iy.Pairwise (λa b=>bT a b=true)->ps.Pairwise (λa b=>bT a b=true)->(∀T,T∈ps↔T∈cB W)->FN ps W tells as->(∀T∈ps,det tells as T=true)->as.Nodup->(∀a∈as,a∈ps)->Q (.ref r) H'
section
variable {P:Program}{w:World}{K:PySem.W.Frag}{mg:Str->Option Value}{base:Heap}{t:vL}
theorem Hy(T:Txt K mg t){c pT:Addr}(kh:t.lU.code=.ref c)(hC:PySem.W.CodeHd base c pT)(hB:BMain mg base):bX P w K mg base gi 16 t.fk t.lU ["whole","ask"] (Ma P w K mg base pT):=by
 have JF:=Rj (P:=P) (w:=w) (base:=base) T
 have pH:=Rr (P:=P) (w:=w) (base:=base) T
 have iS:=zj (P:=P) (w:=w) (base:=base) T
 have Xi:=Rq (P:=P) (w:=w) (base:=base) T
 have JH:=Rm (P:=P) (w:=w) (base:=base) T
 have yH:=Ea (P:=P) (w:=w) (base:=base) T
 refine T.zR.aBq jI (λvs H Q E h=>?_) (λdc A outer s H vs Q E hcv hr h hc hf=>?_)
 ·obtain⟨a,f,rfl,_⟩:=h;rfl
 have yw:=hcv.symm.trans kh
 obtain⟨U,f,rfl,ι,Z,own,D,nx,lim,dom,tells,i0,W,tb,ask,hD,Fh,hU,rise,lW,qQ,mono,XM,htb,hnone,ZP,q⟩:=h
 have hu:=kg hr
 have Nk:=hr.gd
 refine⟨_,(by apply aq;exact(aP hc jI.nd hf 2 (by decide +kernel) (O5 T.Eh pH (hr.mono (by omega)) (cK hc) T.Ic T.pE .nil aY (ae (aj hc 1) (ae (aF JF (hr.mono (by omega)) (cK hc) T.HY T.xW.kp T.Js .nil aY (ae (aj hc 0) ah)) ah))));apply aq;exact(yK jt (bO Rg (aW zL (cK hc) T.z_len tj (ae (gy (aj hc 2) rfl) ah)) ao (dA _)) (by apply aq;exact(aP hc jI.nd hf 3 (by decide +kernel) (bQ kO (gy (aj hc 2) rfl) ao (λ_ _=>rfl)));exact aA (cO (bY (wN (aj hc 2) T.aV T.kc iS (hr.mono (by omega)) T.lY .nil aY (ae (aj hc 3) ah))) (by exact aA (dH (yO (xs:=[(2,"sounding")]) (cells:=cellsFrom (s.heap.objs.size+1) (ag bV).names []) (EH:=λ_=>E0) rfl Xi (hr.mono (by omega)) (cK hc) T.Wb T.Lp.kp T.W' RG hf (RZ hc (by decide +kernel)) (ae (aj hc 0) (ae (O4 (fr:=["sounding"]) hc yw hC hB rfl (by decide +kernel) (by decide +kernel) rfl) (ae (aj hc 3) ah)))))) bI)));apply aq;exact(t7 hc jI.nd 4 (by decide +kernel) ["part"] [2] rfl (by decide +kernel) (cD (gy (aj hc 2) rfl)) (λ_ hc=>mB hc (by decide +kernel) 0 (by decide +kernel)) (λ_ hc=>ib (dR (bY (rN hu (gy (aj hc 1) rfl) (aj hc 0) (λ_ _=>rfl))))) (λ_ hc=>(aj hc 0)) (by rfl));apply aq;exact(t7 hc jI.nd 5 (by decide +kernel) ["part"] [2] rfl (by decide +kernel) (cD (gy (aj hc 2) rfl)) (λ_ hc=>mB hc (by decide +kernel) 0 (by decide +kernel)) (λ_ hc=>ib (bY (rN hu (gy (aj hc 1) rfl) (aj hc 0) (λ_ _=>rfl)))) (λ_ hc=>(aj hc 0)) (by rfl));exact aA (aS (iT (ae (aF JH (hr.mono (by omega)) (cK hc) T.Ib T.xX.kp T.Jv .nil aY (ae (aj hc 4) ah)) (ae (aF yH (hr.mono (by omega)) (cK hc) T.yn T.p5.kp T.yD .nil aY (ae (aj hc 5) ah)) (ae (gy (aj hc 2) rfl) ah)))))),?_⟩
 walk_at "r"
 refine⟨U,rfl,W,hU,by omega,λu H1 us ps s1 hu1 hu2 sus nd FX pw=>?_⟩
 have lps:ps.length<=64:=by
  have h1:=dI nd λt ht=>(FX t).mp ht
  rw[gI]at h1
  have h2:2 ^ W.length<=2 ^ 6:=tZ (by decide) lW
  omega
 refine λx dx hx Iy vZ=>⟨x,f,u,dx,rfl,ai,λl d H2 hl hd Oh Ku hd2 k2=>⟨rfl,?_⟩⟩
 have Wt:l≠x:=λe=>by rw[e,ai]at hl;cases hl
 have aEK:d≠x:=λe=>by rw[e,ai]at hd;cases hd
 rw[au Wt]at hl
 rw[au aEK]at hd
 have yu:H1 l=none:=by
  by_cases e:l=dx
  ·rw[e];exact Iy
  ·rw[au e]at hl;exact hl
 have Sj:H1 d=none:=by
  by_cases e:d=dx
  ·rw[e];exact Iy
  ·rw[au e]at hd;exact hd
 have s2:bP H1 H2:=λb o e=>k2 b o (az e hx) (by rw[au (az e hx),au (az e Iy)];exact e)
 have Y1:=s1.trans s2
 have Cg:=ask.g.st _ _ _ hD s1
 have MN:∀{b:Addr},H1 b=none->¬own b:=λe z=>ask.od _ _ _ Cg z e
 have nou:¬own u:=λz=>ask.od _ _ _ hD z hu1
 have x6:=MN hx
 have ZQ:=MN yu
 have ZV:=MN Sj
 have Eg:mX ps tells:=λS hS T' hT'=>mono S ((FX S).mp hS) T' ((FX T').mp hT')
 have Iv:∀{S:List Int},S∈ps↔S.Sublist W:=λ{S}=>by rw[FX];exact lH
 have X4:∀s∈ps,dom s:=λs hs=>qQ s (Iv.mp hs)
 have YQ:kx own H2 t.aB x f l d ps tells []:=by
  refine⟨dx,u,[],us,[],Oh,Ku,⟨rfl,λi b t e=>by simp at e⟩,hd2,λS _=>rfl,s2 _ _ hu2,?_,?_,az hu2 yu,nou,qd,λs hs=>(nomatch hs)⟩
  ·have:(ps.filter λT=>!det tells [] T)=ps:=List.filter_eq_self.mpr λT _=>rfl
   rw[this];exact sus.mono λb xs e=>s2 _ _ e
  ·exact cQ (by simpa using m7 _ _) (bj _)
 clear k2
 walk_at "r"
 refine⟨λm σ' H'=>∃z as,σ'=[some (.ref U),some (.ref f),some (.ref x),z,none,none]/\m=(ps.filter λT=>!det tells as T).length/\kx own H' t.aB x f l d ps tells as/\D (as.foldl nx i0) H'/\FN ps W tells as/\(∀b o,¬Z b->b≠pT->H b=some o->H' b=some o)/\Lj own H' pT ((gQ gi P w K mg base fF (Str.ofString "sounded") (ag bV) t.fk dc A outer s H E).env.qual++Str.ofString "<lambda>"),⟨_,none,[],rfl,rfl,YQ,ask.g.st _ _ _ hD Y1,.nil,λb o _ _ e=>Y1 _ _ e,tb,Y1 _ _ XM,htb,.inl hnone⟩,?_⟩
 rintro m σ' H3 ⟨z,as,rfl,rfl,snd,Nw,tu,k3,tab⟩
 have aCz:=snd
 obtain⟨Yj,u3,bs3,us3,aBv,R3,Kt,U6,hd3,aBF,hu3,L8,lk3,aGa,aF7,nd3,Pz⟩:=aCz
 walk_at "r"
 refine⟨t.aB,Yj,_,R3,T.aV,T.cX,.ref u3,rfl,u3,rfl,_,hu3,?_⟩
 have lus:(List.map V.ref us3).length=(ps.filter λT=>!det tells as T).length:=by rw[aM,L8.1]
 by_cases e0:0<((List.map V.ref us3).length:Int)
 ·rw[ay e0]
  obtain⟨S,r,eSr⟩:∃S r,(ps.filter λT=>!det tells as T)=S::r:=by
   cases e:(ps.filter λT=>!det tells as T) with
   | nil=>rw[lus,e]at e0;exact absurd e0 (by decide)
   | cons S r=>exact⟨S,r,rfl⟩
  refine⟨λσ' H'=>∃z,σ'=[some (.ref U),some (.ref f),some (.ref x),z,none,none]/\kx own H' t.aB x f l d ps tells (turn W tells as S)/\D ((turn W tells as S).foldl nx i0) H'/\(∀b o,¬Z b->b≠pT->H b=some o->H' b=some o)/\Lj own H' pT ((gQ gi P w K mg base fF (Str.ofString "sounded") (ag bV) t.fk dc A outer s H E).env.qual++Str.ofString "<lambda>"),?_,?_⟩
  ·rintro σ' H' ⟨z,rfl,h1,h2,h3,h4⟩
   exact⟨_,LQ eSr,z,rfl,_,rfl,h1,h2,.step tu eSr,h3,h4⟩
  have aBK:S∈ps.filter λT=>!det tells as T:=by rw[eSr];exact df
  have hS:S∈ps:=(cx.mp aBK).1
  have hSd:det tells as S=false:=by have:=(cx.mp aBK).2;simpa using this
  have sS:=Iv.mp hS
  obtain⟨p0,us4,rfl⟩:∃p0 us4,us3=p0::us4:=by
   cases us3 with
   | nil=>exact absurd e0 (by decide)
   | cons p0 us4=>exact⟨p0,us4,rfl⟩
  have FZ:H3 p0=some (.tup (List.map V.int S)):=by
   rw[eSr]at L8
   exact L8.2 0 p0 S rfl rfl
  walk_at "r"
  refine⟨t.aB,Yj,_,R3,T.aV,T.cX,.ref u3,rfl,u3,rfl,_,hu3,.ref p0,(by rw[dZ,FK]),?_⟩
  walk_at "r"
  refine⟨Yj,_,R3,rfl,x,p0,rfl,ι,Z,own,D,nx,lim,dom,tells,i0,f,l,d,ps,as,S,ask,Nw,Fh,Eg,snd,FZ,hS,by omega,X4,x6,ZQ,ZV,λH4 aAZ zC k4=>⟨_,rfl,?_⟩⟩
  have nz:∀{b:Addr},¬own b->¬Z b:=λh z=>h (ask.zo _ z)
  have old:∀{b:Addr} {o:HO},H b=some o->b≠x/\b≠l/\b≠d:=λe=>⟨az (s1 _ _ e) hx,az (s1 _ _ e) yu,az (s1 _ _ e) Sj⟩
  have k34:∀b o,¬Z b->b≠pT->H b=some o->H4 b=some o:=λb o n1 n2 e=>k4 b o n1 (old e).1 (old e).2.1 (old e).2.2 (k3 b o n1 n2 e)
  have hUT:U≠pT:=bh hU XM (by intro z;cases z)
  have hU4:H4 U=some (.tup (List.map V.int W)):=k34 U _ (λz=>ask.g.nt _ H U _ hD z hU) hUT hU
  have R6:H4 p0=some (.tup (List.map V.int S)):=k4 p0 _ (λz=>ask.g.nt _ H3 p0 _ Nw z FZ) (bh FZ R3 (by intro z;cases z)) (bh FZ Kt (by intro z;cases z)) (bh FZ hd3 (by intro z;cases z)) FZ
  have Yy:Lj own H4 pT ((gQ gi P w K mg base fF (Str.ofString "sounded") (ag bV) t.fk dc A outer s H E).env.qual++Str.ofString "<lambda>"):=by
   obtain⟨tb',h1,h2,h3⟩:=tab
   refine⟨tb',k4 _ _ (nz ZP) (old XM).1 (old XM).2.1 (old XM).2.2 h1,h2,h3.imp id ?_⟩
   rintro⟨c',oc,vs,tq,a1,a2,a3,a4,a5⟩
   exact⟨c',oc,vs,tq,a1,k4 _ _ (nz a5) (bh a2 R3 (by intro z;cases z)) (bh a2 Kt (by intro z;cases z)) (bh a2 hd3 (by intro z;cases z)) a2,a3,a4,a5⟩
  cases eS:tells S with
  | false=>
   rw[aE (by decide)]
   have et:turn W tells as S=tM tells as S:=aE (by rw[eS];decide)
   exact⟨by rw[et];exact aAZ,by rw[et];exact zC,k34,Yy⟩
  | true=>
  rw[ay rfl]
  have use:∀(H5:Hp) (g c':Addr) (cl:List (Str×Addr)) (oc:Obj) (vs:Array Value) (tq:Tok) (pm ctv:Value),Ln (cellsFrom (s.heap.objs.size+1) (ag bV).names []) cl [Str.ofString "sounding"]->H5 g=some (dQ (PySem.W.kla_obj "<lambda>" ((gQ gi P w K mg base fF (Str.ofString "sounded") (ag bV) t.fk dc A outer s H E).env.qual++Str.ofString "<lambda>") (Nb aQ) (M9 aQ) (Ij aQ) cl pm c' ctv))->H5 c'=some (dQ oc)->oc.data=.fields vs->vs[1]?=some (.str ((gQ gi P w K mg base fF (Str.ofString "sounded") (ag bV) t.fk dc A outer s H E).env.qual++Str.ofString "<lambda>") tq)->¬own g->¬own c'->(∀b o,b≠pT->H4 b=some o->H5 b=some o)->(∃tb,H5 pT=some (.qF tb)/\TriplesOk tb.toList/\codeAmong (M8 aQ) tb.toList=some (.ref c'))->
    ∀(C:List (Addr×Obj)),CellsAre (cellsFrom (s.heap.objs.size+1) (ag bV).names []) [some (V.ref U),some (V.ref f),some (V.ref x),some (V.ref p0),none,none] [(2,Str.ofString "sounding")] C->dN C H5->∀(Q':VK) (E':XK),(∀v H',kx own (bD C H') t.aB x f l d ps tells (turn W tells as S)/\D ((turn W tells as S).foldl nx i0) (bD C H')/\(∀b o,¬Z b->b≠pT->H b=some o->bD C H' b=some o)/\Lj own (bD C H') pT ((gQ gi P w K mg base fF (Str.ofString "sounded") (ag bV) t.fk dc A outer s H E).env.qual++Str.ofString "<lambda>")->Q' v H')->JX P w K mg base t.bp [.ref U,.ref g,.ref p0] (fJ C H5) Q' E':=λH5 g c' cl oc vs tq pm ctv la hg lu tN R4 nog ZX k5 aEw C ca po Q' E' q'=>by
   obtain⟨tb4,Wm,_,_⟩:=Yy
   have kt5:∀{b:Addr} {xs:List V},H4 b=some (.tup xs)->H5 b=some (.tup xs):=λe=>k5 _ _ (bh e Wm (by intro z;cases z)) e
   have aAY:kx own H5 t.aB x f l d ps tells (tM tells as S):=aAZ.keep λb o _ n e=>k5 b o (bh e Wm (n tb4)) e
   have Gb:D ((tM tells as S).foldl nx i0) H5:=ask.os _ _ _ zC λb o h e=>k5 b o (h.elim (λh z=>ZP (z ▸ h)) λ⟨xs,ho⟩=>bh e Wm (by rw[ho];intro z;cases z)) e
   have noC:∀b o,C.lookup b=some o->¬own b:=λb o e z=>ask.od _ _ _ Gb z (po b o e)
   have Td:CellsOk C cl ["sounding"] [.ref x]:=λi y hy=>by
    match i,hy with
    | 0,hy=>
     cases hy
     obtain⟨c0,l1,l2⟩:=la.1 _ (cG.mpr rfl)
     obtain⟨c1,o,u,v,a1,a2,a3,a4,a5⟩:=ca _ (cG.mpr rfl)
     have a1':List.lookup (Str.ofString "sounding") (cellsFrom (s.heap.objs.size+1) (ag bV).names [])=some c1:=a1
     rw[a1']at l1
     cases l1
     cases a4
     exact⟨c0,o,u,_,l2,a2,a3,rfl,a5⟩
   have ak:=Xc (P:=P) (w:=w) (base:=base) T (g:=g) (c':=c') (x:=x) (f:=f) (l:=l) (d:=d) (pm:=pm) (ctv:=ctv) tN R4 la.2.1 la.2.2 Td ask Fh Eg (by omega) X4 x6 ZQ ZV nog ZX noC
   have sC:bP H5 (fJ C H5):=zQ po
   have hD':(fJ C H5) g=some (dQ (PySem.W.kla_obj "<lambda>" ((gQ gi P w K mg base fF (Str.ofString "sounded") (ag bV) t.fk dc A outer s H E).env.qual++Str.ofString "<lambda>") (Nb aQ) (M9 aQ) (Ij aQ) cl pm c' ctv))/\(fJ C H5) c'=some (dQ oc)/\dP C (fJ C H5)/\kx own (fJ C H5) t.aB x f l d ps tells (tM tells as S)/\D ((tM tells as S).foldl nx i0) (fJ C H5):=⟨sC _ _ hg,sC _ _ lu,dN.added,aAY.keep λb o _ _ e=>sC _ _ e,ask.g.st _ _ _ Gb sC⟩
   refine⟨U,g,p0,rfl,_,_,_,_,_,tells,tM tells as S,W,S,ak,hD',sC _ _ (kt5 hU4),sC _ _ (kt5 R6),rise,sS,by omega,λT hT=>Iv.mpr hT,eS,λr H6 Ss k6 _=>q' _ _ ?_⟩
   obtain⟨g1,g2,g3,g4,g5⟩:=Ss
   have et:turn W tells as S=(nh tells (tM tells) W (cH W S) (S,tM tells (tM tells as S) S)).2:=ay eS
   have out:∀{b:Addr} {o:HO},H6 b=some o->(∀o',o≠dQ o')->bD C H6 b=some o:=λe n=>by rw[aZ (g3.out e n)];exact e
   have keep:∀{b:Addr} {o:HO},¬Z b->b≠x->b≠l->b≠d->H5 b=some o->bD C H6 b=some o:=λ{b o} n1 n2 n3 n4 e=>by
    rw[aZ (po.out e)]
    exact k6 b o (λz=>z.elim n1 λz=>z.elim n2 λz=>z.elim n3 n4) (sC _ _ e)
   rw[et]
   refine⟨g4.keep λb o n _ e=>out e n,ask.os _ _ _ g5 λb o h e=>?_,λb o n1 n2 e=>keep n1 (old e).1 (old e).2.1 (old e).2.2 (k5 b o n2 (k34 b o n1 n2 e)),?_⟩
   ·rcases h with h | ⟨xs,rfl⟩
    ·cases z:C.lookup b with
     | none=>rw[aZ z];exact e
     | some o'=>exact absurd h (noC b o' z)
    ·exact out e (by intro o z;cases z)
   ·obtain⟨tb5,t1,t2,t3⟩:=aEw
    have aAX:=aAY
    obtain⟨dx5,u5,_,_,_,hx5,hl5,_,hd5,_⟩:=aAX
    exact⟨tb5,keep (nz ZP) (old XM).1 (old XM).2.1 (old XM).2.2 t1,t2,.inr ⟨c',oc,vs,tq,t3,keep (nz ZX) (bh lu hx5 (by intro z;cases z)) (bh lu hl5 (by intro z;cases z)) (bh lu hd5 (by intro z;cases z)) lu,tN,R4,ZX⟩⟩
  walk_at "r"
  have vals:∀q∈[(2,Str.ofString "sounding")],∃v,([some (V.ref U),some (V.ref f),some (V.ref x),some (V.ref p0),none,none]:St)[q.1]?=some (some v):=λq hq=>by
   rw[cG.mp hq];exact⟨_,rfl⟩
  have aAT:=Yy
  obtain⟨tb4,Wm,tr4,aBI⟩:=aAT
  refine⟨tb4,Wm,tr4,?_⟩
  rcases aBI with hn | ⟨c',oc,vs,tq,XJ,lu,tN,R4,ZX⟩
  ·refine .inl ⟨hn,λcl g c' oc vs tq ctv la hg lu hgc tN R4=>⟨vals,λC ca po=>?_⟩⟩
   have hgT:g≠pT:=λz=>by rw[z,Wm]at hg;cases hg
   have hcT:c'≠pT:=λz=>by rw[z,Wm]at lu;cases lu
   refine use _ g c' cl oc vs tq _ ctv la ai ?_ tN R4 (λz=>ask.od _ _ _ zC z hg) (λz=>ask.od _ _ _ zC z lu) (λb o n e=>?_) ⟨tb4 ++ #[rawInt (M8 aQ).line,rawInt (M8 aQ).col,.ref c'],?_,?_,?_⟩ C ca po _ _ λv H' h=>h
   ·rw[au hgc.symm,ai]
   ·rw[au (az e hg),au (az e lu),au n]
    exact e
   ·rw[au hgT.symm,au hcT.symm,ai]
    rfl
   ·rw[j5]
    exact TriplesOk_snoc _ _ _ _ tr4
   ·rw[j5]
    exact codeAmong_snoc _ tr4 hn
  ·refine .inr ⟨c',XJ,λcl g ctv la hg=>⟨vals,λC ca po=>?_⟩⟩
   have hgT:g≠pT:=λz=>by rw[z,Wm]at hg;cases hg
   refine use _ g c' cl oc vs tq _ ctv la ai (by rw[au (az lu hg)];exact lu) tN R4 (λz=>ask.od _ _ _ zC z hg) ZX (λb o n e=>by rw[au (az e hg)];exact e) ⟨tb4,by rw[au hgT.symm];exact Wm,tr4,XJ⟩ C ca po _ _ λv H' h=>h
 ·rw[aE e0]
  have un:(ps.filter λT=>!det tells as T)=[]:=by
   have:(ps.filter λT=>!det tells as T).length=0:=by rw[<-lus];omega
   exact Oy this
  have Cz:∀T'∈ps,det tells as T'=true:=λT' hT'=>by
   have:=List.filter_eq_nil_iff.mp un T' hT'
   simpa using this
  have Wf:=Yo nd3 Pz
  have lbs:=U6.1
  walk_at "r"
  refine⟨t.aB,Yj,_,R3,T.aV,T.cY,.ref l,rfl,l,rfl,⟨_,aX Kt⟩,?_⟩
  refine eQ (zs:=List.map V.ref bs3) (λj=>if (as[j]?.any λa=>!tells a) then as[j]? else none) (λ_=>gZ) gZ.same gZ.puts Kt (by rw[aM];omega) (λDD c H4 j z' yes no hj s4 Oq Oo eF vY=>?_) (λD1 H4 vs s4 Cg aET rl=>?_)
  ·obtain⟨b,eb,rfl⟩:=eM hj
   have Nq:j<bs3.length:=(fq.mp eb).1
   have es:as[j]?=some (as[j]'(by omega)):=bq _
   have hb:=s4 _ _ (U6.2 j b _ eb es)
   have ha:as[j]'(by omega)∈as:=m6 _
   rw[es]at eF vY
   generalize as[j]'(by omega)=y at hb eF vY ha
   have ev:=aBF y (Pz y ha)
   rw[ay (sX ha)]at ev
   repeat (first | walk_at "rl" | simp only[yW])
   refine⟨t.aB,Yj,_,s4 _ _ R3,T.aV,T.cy,.ref d,rfl,d,rfl,_,by rw[<-ev];exact tL.t (k:=y.map Sum.inl) (s4 _ _ hd3) (by rw[ox];exact hb),_,rfl,?_⟩
   cases ey:tells y with
   | true=>exact vY (by simp[ey]) _ λ_ _ e=>e
   | false=>exact eF y (by simp[ey]) _ _ (λ_ _ e=>e) ⟨b,rfl,hb⟩
  obtain⟨cs,rfl,scs⟩:=se rl
  rw[aM,lbs,ph (l:=as) (p:=λa=>!tells a) λi hi=>by rw[bq hi];rfl]at scs
  have hx4:=s4 _ _ R3
  have XS:=s4 _ _ Kt
  walk_at "r"
  refine⟨t.aB,Yj,_,hx4,T.aV,T.cY,.ref l,rfl,l,rfl,⟨_,aX XS⟩,?_⟩
  refine eQ (zs:=List.map V.ref bs3) (λj=>if (as[j]?.any tells) then as[j]? else none) (λ_=>gZ) gZ.same gZ.puts XS (by rw[aM];omega) (λDD c H5 j z' yes no hj s5 Oq Oo eF vY=>?_) (λD2 H5 vs s5 Ce aES rl2=>?_)
  ·obtain⟨b,eb,rfl⟩:=eM hj
   have Nq:j<bs3.length:=(fq.mp eb).1
   have es:as[j]?=some (as[j]'(by omega)):=bq _
   have hb:=s5 _ _ (s4 _ _ (U6.2 j b _ eb es))
   have ha:as[j]'(by omega)∈as:=m6 _
   rw[es]at eF vY
   generalize as[j]'(by omega)=y at hb eF vY ha
   have ev:=aBF y (Pz y ha)
   rw[ay (sX ha)]at ev
   repeat (first | walk_at "rl" | simp only[yW])
   refine⟨t.aB,Yj,_,s5 _ _ hx4,T.aV,T.cy,.ref d,rfl,d,rfl,_,by rw[<-ev];exact tL.t (k:=y.map Sum.inl) (s5 _ _ (s4 _ _ hd3)) (by rw[ox];exact hb),_,rfl,?_⟩
   cases ey:tells y with
   | false=>exact vY (by simp[ey]) _ λ_ _ e=>e
   | true=>exact eF y (by simp[ey]) _ _ (λ_ _ e=>e) ⟨b,rfl,hb⟩
  obtain⟨qs,rfl,sqs⟩:=se rl2
  rw[aM,lbs,ph (l:=as) (p:=tells) λi hi=>by rw[bq hi];rfl]at sqs
  have Qh:∀a∈as,eG a:=λa ha=>rise.sublist (Iv.mp (Pz a ha))
  have lf1:=m7 (λa=>!tells a) as
  have lf2:=m7 tells as
  have lc1:=scs.1
  have lq1:=sqs.1
  walk_at "r"
  refine⟨D1,rfl,cs,_,s5 _ _ aET,scs.mono λb xs e=>s5 _ _ e,by omega,λa ha=>Qh a (cx.mp ha).1,λR1 H6 cs6 clashes s6 CT aEP YT aD1 pw6=>?_⟩
  refine⟨D2,rfl,qs,_,s6 _ _ aES,sqs.mono λb xs e=>s6 _ _ e,by omega,λa ha=>Qh a (cx.mp ha).1,λR2 H7 cs7 iy s7 hR2 aEO sc7 aD0 pw7=>?_⟩
  have s57:=s6.trans s7
  have s37:=(s4.trans s5).trans s57
  refine⟨t.aB,Yj,_,s37 _ _ R3,T.aV,T.cY,.ref l,rfl,by decide,λr hr7=>?_⟩
  have s8:=aH hr7 (.tup [V.ref R1,V.ref R2,V.ref l])
  have s38:=s37.trans s8
  exact q r _ R1 R2 l cs6 cs7 bs3 clashes iy as ps ai (s8 _ _ (s7 _ _ aEP)) (YT.mono λb xs e=>s8 _ _ (s7 _ _ e)) (s8 _ _ aEO) (sc7.mono λb xs e=>s8 _ _ e) (s38 _ _ Kt) (U6.mono λb xs e=>s38 _ _ e) (ask.g.st _ _ _ Nw s38) (λb o n1 n2 e=>s38 _ _ (k3 b o n1 n2 e)) aD1 aD0 pw6 pw7 pw FX tu Cz nd3 Pz
end
local macro_rules | `(tactic| walk_at "rd") => `(tactic| walk_at "rc")
local macro_rules | `(tactic| walk_at "rl") => `(tactic| first | (refine er fun R hR => ?_) | walk_at "ry" | (refine Nx.to (by assumption) _ _ ?_))
def RPr(H:Hp)(v:V)(t:List Int):Prop:=∃p a,v=.ref p/\H p=some (.tup [.int (t.length:Nat),.ref a])/\H a=some (.tup (List.map V.int t))
theorem Zn{H:Hp}{vs:List V}{ts:List (List Int)}(h:nG RPr H vs ts):∃ps,vs=List.map V.ref ps/\mW H ps ts:=by
 have e:vs=List.map V.ref (vs.map λv=>match v with | .ref p=>p | _=>0):=by
  rw[fY]
  refine(List.ext_getElem (by simp) λi h1 h2=>?_)
  rw[Gd]
  obtain⟨p,a,e,_⟩:=h.2 i vs[i] (ts[i]'(by have:=h.1;omega)) (bq h1) (bq _)
  rw[e];rfl
 refine⟨_,e,?_,λi p t e1 e2=>?_⟩
 ·rw[aM];exact h.1
 ·have e3:vs[i]?=some (V.ref p):=by
   have:(List.map V.ref (vs.map λv=>match v with | .ref p=>p | _=>0))[i]?=some (V.ref p):=by rw[cM,e1];rfl
   rw[<-e]at this
   exact this
  obtain⟨p',a,e4,h1,h2⟩:=h.2 i _ _ e3 e2
  cases e4
  exact⟨a,h1,h2⟩
def U4:Sp:=λvs H Q _=>∃L,vs=[.ref L]/\∃bs ss,H L=some (.lst (List.map V.ref bs))/\aL H bs ss/\ss.length<=900/\ss.Nodup/\(∀s∈ss,s.length<=100)/\
 ∀D H' cs ts,bP H H'->H D=none->H' D=some (.lst (List.map V.ref cs))->aL H' cs ts->ts.Perm ss->ts.Pairwise (λa b=>bT a b=true)->Q (.ref D) H'
section
variable {P:Program}{w:World}{K:PySem.W.Frag}{mg:Str->Option Value}{base:Heap}{t:vL}
theorem Rp(T:Txt K mg t):bX P w K mg base gi 5 t.jo t.jl ["_law_sets"] U4:=by
 refine T.nk.qK eB (λvs H Q E h=>?_) (λdc A outer s H vs Q E hr h hc hf=>?_)
 ·obtain⟨a,rfl,_⟩:=h;rfl
 obtain⟨L,rfl,bs,ss,hL,sb,lss,nd,BR,q⟩:=h
 have hu:=kg hr
 have Nk:=hr.gd
 have hu2:=(hr.mono (by omega:2<=4)).in1.in1.gd
 refine⟨_,(by apply aq;exact(aP hc eB.nd hf 1 (by decide +kernel) (aW (Jo hu2) (cK hc) T.z_sorted xN (ae (cz hc ["_law_one"] [] rfl (by decide +kernel) (cD (aj hc 0)) (λ_ hc=>mB hc (by decide +kernel) 0 (by decide +kernel)) (λ_ _=>dh) (λ_ hc=>(iT (ae (aW iL (cK hc) T.z_len tj (ae (aj hc 0) ah)) (ae (aj hc 0) ah))))) ah)));apply aq;exact(aP hc eB.nd hf 2 (by decide +kernel) (dU ah));apply aq;exact(eL jt rfl (cD (aj hc 1)) (Ul rfl (yL (pA hc eB.nd hf 3 (by decide +kernel)) (yL (pA hc eB.nd hf 4 (by decide +kernel)) O3))) (by exact aA (cO (m8 (qj (bO (Kj hu) (aj hc 2) (dU ah) (dA _)) (oX (bO (V0 hu) (bQ kO (aj hc 2) (Yq Yu ao) (λ_ _=>rfl)) (aj hc 4) (dA _))))) (by exact aA (dH (nY uW uX uY fj (aj hc 2) (ae (aj hc 4) ah)))) bI)));exact aA (aS (aj hc 2))),?_⟩
 walk_at "r"
 refine⟨⟨_,aX hL⟩,?_⟩
 have lb:=sb.1
 refine eQ (zs:=List.map V.ref bs) (λj=>ss[j]?) (λ_=>RPr) (λD H H' v d s ⟨p,a,e,h1,h2⟩=>⟨p,a,e,s _ _ h1,s _ _ h2⟩) (λD H o v d ⟨xs,hx⟩ _ ⟨p,a,e,h1,h2⟩=>⟨p,a,e,by rw[au (bh h1 hx (by intro z;cases z))];exact h1,by rw[au (bh h2 hx (by intro z;cases z))];exact h2⟩) hL (by rw[aM];omega) (λDD c H2 j z yes no hj s2 Oq Oo eF vY=>?_) (λD1 H2 vs s2 Cg aAw rl=>?_)
 ·obtain⟨b,eb,rfl⟩:=eM hj
  have Nq:j<bs.length:=(fq.mp eb).1
  have es:ss[j]?=some (ss[j]'(by omega)):=bq _
  have hb:=s2 _ _ (sb.2 j b _ eb es)
  rw[es]at eF
  generalize ss[j]'(by omega)=y at hb eF
  walk_at "rc"
  repeat (first | walk_at "rl" | simp only[hb])
  refine⟨by decide,λp hp=>eF y rfl _ _ (aH hp _) ⟨p,b,rfl,by rw[ai],(aH hp _) _ _ hb⟩⟩
 obtain⟨ps,rfl,prs⟩:=Zn rl
 rw[aM,lb,KH (l:=ss) λi hi=>rfl]at prs
 refine⟨D1,rfl,ps,ss,aAw,prs,by omega,nd,λqs ts pm pw pq p1 rB=>?_⟩
 have s23:=aH rB (.lst (List.map V.ref qs))
 have s3:=s2.trans s23
 have FZ:upd H2 p1 (.lst (List.map V.ref qs)) p1=some (.lst (List.map V.ref qs)):=ai
 generalize upd H2 p1 (.lst (List.map V.ref qs))=H3 at s3 FZ s23 ⊢
 walk_at "r"
 refine⟨by decide,λR0 Sl=>?_⟩
 have s34:=aH Sl (.lst [])
 have hR4:upd H3 R0 (.lst []) R0=some (.lst []):=ai
 have R6:=s34 _ _ FZ
 have s4:=s3.trans s34
 have hRH:H R0=none:=s3.free Sl
 have hpR:p1≠R0:=az FZ Sl
 have lq:=pq.1
 have lts:=pm.length_eq
 have pq4:mW (upd H3 R0 (.lst [])) qs ts:=⟨lq,λi p t e1 e2=>by
  obtain⟨a,h1,h2⟩:=pq.2 i p t e1 e2
  exact⟨a,s34 _ _ (s23 _ _ h1),s34 _ _ (s23 _ _ h2)⟩⟩
 generalize upd H3 R0 (.lst [])=H4 at s4 hR4 R6 pq4 ⊢
 walk_at "r"
 refine⟨⟨_,aX R6⟩,?_⟩
 obtain⟨Pv,dn⟩:∃Pv:Nat->St->Hp->Prop,∀i σ' H',Pv i σ' H'↔∃(z1 z2:Option V) (cs:List Addr),σ'=[some (.ref L),some (.ref p1),some (.ref R0),z1,z2]/\bP H H'/\H' p1=some (.lst (List.map V.ref qs))/\H' R0=some (.lst (List.map V.ref cs))/\aL H' cs (ts.take i)/\mW H' qs ts:=⟨_,λ_ _ _=>dY⟩
 refine eJ (xs:=List.map V.ref qs) Pv ((dn _ _ _).mpr ⟨none,none,[],rfl,s4,R6,hR4,⟨rfl,λ_ _ _ z=>by cases z⟩,pq4⟩) (λi σ' H' _ pv=>?_) (λi z σ' H' hz pv=>?_) (λσ' H' pv=>?_)
 ·obtain⟨_,_,_,_,_,h,_⟩:=(dn _ _ _).mp pv
  exact h
 ·obtain⟨z1,z2,cs,rfl,s5,hp5,Om,sc5,pq5⟩:=(dn _ _ _).mp pv
  obtain⟨b,eb,rfl⟩:=eM hz
  have hi:i<qs.length:=(fq.mp eb).1
  have et:ts[i]?=some (ts[i]'(by omega)):=bq _
  obtain⟨a,IK,Kx⟩:=pq5.2 i b _ eb et
  repeat (first | walk_at "rl" | simp only[IK,Om])
  refine⟨_,bR IK,rfl,.int _,[.ref a],rfl,.ref a,[],rfl,rfl,by decide,λp hp=>?_⟩
  have sp:=aH hp (.lst [])
  have Nv:=sp _ _ Om
  have hb6:=sp _ _ Kx
  have hp6:=sp _ _ hp5
  have s6:=s5.trans sp
  have YT:aL (upd H' p (.lst [])) cs (ts.take i):=sc5.mono λb xs e=>sp _ _ e
  have pq6:mW (upd H' p (.lst [])) qs ts:=⟨lq,λi p t e1 e2=>by
   obtain⟨a,h1,h2⟩:=pq5.2 i p t e1 e2
   exact⟨a,sp _ _ h1,sp _ _ h2⟩⟩
  generalize upd H' p (.lst [])=H6 at Nv hb6 hp6 s6 YT pq6 ⊢
  have lc:cs.length=i:=by rw[YT.1,fZ];omega
  have fin:∀z1:Option V,Pv (i+1) [some (.ref L),some (.ref p1),some (.ref R0),z1,some (.ref a)] (upd H6 R0 (.lst (List.map V.ref cs++[V.ref a]))):=λz1=>by
   have kt:∀{b:Addr} {xs:List V},H6 b=some (.tup xs)->upd H6 R0 (.lst (List.map V.ref cs++[V.ref a])) b=some (.tup xs):=λe=>by rw[au (bh e Nv (by intro z;cases z))];exact e
   refine(dn _ _ _).mpr ⟨_,_,cs++[a],rfl,ik s6 hRH,by rw[au hpR];exact hp6,by rw[ai,dE];rfl,?_,⟨lq,λi p t e1 e2=>?_⟩⟩
   ·rw[gR,et]
    exact(YT.mono λb xs e=>kt e).snoc (kt hb6)
   ·obtain⟨a,h1,h2⟩:=pq6.2 i p t e1 e2
    exact⟨a,kt h1,kt h2⟩
  refine⟨cs,Nv,[],rfl,ts.take i,YT,[],⟨rfl,λ_ _ _ z=>by cases z⟩,?_⟩
  by_cases e0:ts.take i=[]
  ·rw[ay e0]
   exact⟨.inl ⟨rfl,_,aX Nv⟩,_,Nv,by rw[aM];exact bU (by omega),fin _⟩
  rw[aE e0]
  have hi0:0<i:=Nat.pos_of_ne_zero λz=>e0 (by rw[z];rfl)
  obtain⟨cs',c1,rfl⟩:∃cs' c1,cs=cs'++[c1]:=⟨cs.dropLast,cs.getLast (by intro z;rw[z]at lc;simp at lc;omega),(List.dropLast_concat_getLast _).symm⟩
  rw[cS,GD]at lc
  have e1:(cs'++[c1])[i-1]?=some c1:=by rw[show i-1=cs'.length by omega,List.getElem?_concat_length]
  have e2:(ts.take i)[i-1]?=some (ts[i-1]'(by omega)):=by rw[List.getElem?_take_of_lt (by omega)];exact bq _
  have hc1:=YT.2 _ _ _ e1 e2
  have ne:ts[i-1]'(by omega)≠ts[i]'(by omega):=λz=>by
   have:=(uZ.mp pw) (i-1) i (by omega) (by omega) (by omega)
   rw[z,ig]at this;cases this
  refine⟨_,Nv,.ref c1,by rw[dE];exact Tx _ _,c1,rfl,a,rfl,_,hc1,_,hb6,?_⟩
  rw[decide_eq_false ne,ay (by decide)]
  exact⟨.inl ⟨rfl,_,aX Nv⟩,_,Nv,by rw[aM,cS];exact bU (by simp;omega),fin _⟩
 ·obtain⟨z1,z2,cs,rfl,s5,hp5,Om,sc5,pq5⟩:=(dn _ _ _).mp pv
  rw[aM,lq,gE]at sc5
  walk_at "r"
  exact q R0 H' cs ts s5 hRH Om sc5 pm pw
end
local macro_rules | `(tactic| walk_at "rd") => `(tactic| walk_at "rc")
local macro_rules | `(tactic| walk_at "rl") => `(tactic| first | (refine er fun R hR => ?_) | walk_at "ry" | (refine Nx.to (by assumption) _ _ ?_))
def PX:Sp:=λvs H Q _=>∃W,vs=[.ref W]/\∃x:List Int,H W=some (.tup (List.map V.int x))/\x.length<=6/\x.Nodup/\
 ∀D H' bs ts,bP H H'->H D=none->H' D=some (.lst (List.map V.ref bs))->aL H' bs ts->(∀t,t∈ts↔t∈cB x)->ts.Pairwise (λa b=>bT a b=true)->Q (.ref D) H'
section
variable {P:Program}{w:World}{K:PySem.W.Frag}{mg:Str->Option Value}{base:Heap}{t:vL}
theorem zk(T:Txt K mg t):bX P w K mg base gi 6 t.mS t.mL ["_law_whole"] PX:=by
 have vI:=Rp (P:=P) (w:=w) (base:=base) T
 refine T.mZ.qK iU (λvs H Q E h=>?_) (λdc A outer s H vs Q E hr h hc hf=>?_)
 ·obtain⟨a,rfl,_⟩:=h;rfl
 obtain⟨W,rfl,x,hW,lx0,Z1,q⟩:=h
 have lx:x.length<=10:=by omega
 refine⟨_,(by apply aq;exact(aP hc iU.nd hf 1 (by decide +kernel) (dU (ae (iT ah) ah)));apply aq;exact(eL jt rfl (fL (aj hc 0)) (pA hc iU.nd hf 2 (by decide +kernel)) (by exact aA (aP hc iU.nd hf 1 (by decide +kernel) (bt Hx (aj hc 1) (cz hc ["_law_row"] [2] rfl (by decide +kernel) (cD (aj hc 1)) (λ_ hc=>mB hc (by decide +kernel) 0 (by decide +kernel)) (λ_ _=>dh) (λ_ hc=>(bt xj (aj hc 0) (iT (ae (aj hc 1) ah)))))))));exact aA (aS (aF vI (hr.mono (by omega)) (cK hc) T.vx T.nk.kp T.vD .nil aY (ae (aj hc 1) ah)))),?_⟩
 repeat (walk_at "rd")
 refine⟨by decide,λp hp=>⟨by decide,λL0 Ue=>?_⟩⟩
 have s0:=(aH hp (.tup [])).trans (aH Ue (.lst [V.ref p]))
 have Oi:upd (upd H p (.tup [])) L0 (.lst [V.ref p]) p=some (.tup []):=(aH Ue _) _ _ ai
 have XT:upd (upd H p (.tup [])) L0 (.lst [V.ref p]) L0=some (.lst [V.ref p]):=ai
 generalize upd (upd H p (.tup [])) L0 (.lst [V.ref p])=H0 at s0 Oi XT ⊢
 refine⟨⟨_,bR (s0 _ _ hW)⟩,?_⟩
 obtain⟨Pv,dn⟩:∃Pv:Nat->St->Hp->Prop,∀i σ' H',Pv i σ' H'↔∃(L:Addr) (z:Option V) (bs:List Addr),σ'=[some (.ref W),some (.ref L),z]/\bP H H'/\H' L=some (.lst (List.map V.ref bs))/\aL H' bs (cB (x.take i)):=⟨_,λ_ _ _=>dY⟩
 refine jN (xs:=List.map V.int x) Pv ((dn _ _ _).mpr ⟨L0,none,[p],rfl,s0,XT,rfl,λi b t h1 h2=>?_⟩) (λi σ' H1 _ pv=>?_) (λi z σ' H1 hz pv=>?_) (λσ' H1 pv=>?_)
 ·have Ug:([[]]:List (List Int))[i]?=some t:=h2
  cases i with
  | zero=>cases h1;cases Ug;exact Oi
  | succ n=>simp at h1
 ·obtain⟨_,_,_,_,s1,_⟩:=(dn _ _ _).mp pv
  exact s1 _ _ hW
 ·obtain⟨L,z',bs,rfl,s1,hL,sa⟩:=(dn _ _ _).mp pv
  obtain⟨m,em,rfl⟩:=int_at hz
  have hi:i<x.length:=(fq.mp em).1
  have et:x.take (i+1)=x.take i++[m]:=by rw[gR,em];rfl
  have lb:bs.length<=1024:=by
   rw[sa.1,gI,fZ];exact xh (by omega)
  have ls:=sa.1
  repeat (walk_at "rd")
  refine⟨⟨_,aX hL⟩,?_⟩
  refine eQ (zs:=List.map V.ref bs) (λj=>(cB (x.take i))[j]?.map (· ++ [m])) (λ_=>gZ) gZ.same gZ.puts hL (by rw[aM];omega) (λDD c H2 j z yes no hj s2 Oq Oo eF vY=>?_) (λD H2 vs s2 hD Ce rl=>?_)
  ·obtain⟨b,eb,rfl⟩:=eM hj
   have Nq:j<bs.length:=(fq.mp eb).1
   have es:(cB (x.take i))[j]?=some ((cB (x.take i))[j]'(by omega)):=bq _
   have hb:=s2 _ _ (sa.2 j b _ eb es)
   have Fg:=eF ((cB (x.take i))[j]'(by omega)++[m]) (by rw[es];rfl)
   have ly:=kJ (m6 (l:=cB (x.take i)) (n:=j) (by omega))
   rw[fZ]at ly
   generalize (cB (x.take i))[j]'(by omega)=y at hb Fg ly
   walk_at "rc"
   repeat (walk_at "rd")
   refine⟨by decide,λp1 rB=>⟨_,(aH rB _) _ _ hb,by rw[aM];exact ie (by omega),λp2 H3 s3 _ XQ=>Fg _ _ ((aH rB _).trans s3) ⟨p2,rfl,by rw[XQ,dE];rfl⟩⟩⟩
  ·obtain⟨cs,rfl,sc⟩:=se rl
   rw[aM,ls,oE (l:=cB (x.take i)) (g:=(· ++ [m])) λk hk=>by rw[bq hk];rfl]at sc
   have WK:=s2 _ _ hL
   repeat (first | walk_at "rd" | simp only[WK,Ce])
   have lc:=sc.1
   rw[aM]at lc
   refine⟨ie (by omega),λp1 rB=>(dn _ _ _).mpr ⟨p1,_,bs++cs,rfl,(s1.trans s2).trans (aH rB _),by rw[ai,dE],?_⟩⟩
   rw[et,wX]
   exact((sa.mono λb xs e=>s2 _ _ e).app sc).mono λb xs e=>(aH rB _) _ _ e
 ·obtain⟨L,z',bs,rfl,s1,hL,sa⟩:=(dn _ _ _).mp pv
  rw[aM,gE]at sa
  repeat (walk_at "rd")
  have l64:(cB x).length<=64:=by
   rw[gI]
   exact tZ (by decide) lx0
  refine⟨L,rfl,bs,_,hL,sa,by omega,Dv Z1,λs hs=>?_,λD H2 cs ts s2 hD Ce sc pm pw=>q D H2 cs ts (s1.trans s2) (s1.free hD) Ce sc (λt=>pm.mem_iff) pw⟩
  have:=kJ hs
  omega
end
local macro_rules | `(tactic| walk_at "rd") => `(tactic| walk_at "rc")
local macro_rules | `(tactic| walk_at "rl") => `(tactic| first | (refine er fun R hR => ?_) | walk_at "ry" | (refine Nx.to (by assumption) _ _ ?_))
section
variable {P:Program}{w:World}{K:PySem.W.Frag}{mg:Str->Option Value}{base:Heap}{t:vL}
theorem Ri(T:Txt K mg t):bX P w K mg base gi 1 t.jn t.jk ["_law_thing"] UJ:=by
 refine T.nj.qK ug (λvs H Q E h=>?_) (λdc A outer s H vs Q E hr h hc hf=>?_)
 ·obtain⟨i,rfl,_⟩:=h;rfl
 obtain⟨i,rfl,q⟩:=h
 refine⟨_,(by exact aA (aS (Uq (aW jC (cK hc) T.z_isinstance fV (ae (aj hc 0) (ae (lF (v:=V.ty "int") (cK hc) T.z_int aCk rfl) ah))) (Uo (JM (aW jC (cK hc) T.z_isinstance fV (ae (aj hc 0) (ae (lF (v:=V.ty "bool") (cK hc) T.z_bool aAG rfl) ah)))))))),?_⟩
 repeat (walk_at "rd")
 refine⟨_,.int i,true,oA _ _,?_⟩
 repeat (walk_at "rd")
 refine⟨_,.int i,false,aAb (by decide) rfl,?_⟩
 repeat (walk_at "rd")
 exact q
theorem Ro(T:Txt K mg t):bX P w K mg base gi 2 t.lg t.kW ["_law_thing"] U3:=by
 have vH:=Ri (P:=P) (w:=w) (base:=base) T
 refine T.p6.qK w5 (λvs H Q E h=>?_) (λdc A outer s H vs Q E hr h hc hf=>?_)
 ·obtain⟨a,rfl,_⟩:=h;rfl
 obtain⟨a,rfl,x,ha,lx,rise,q⟩:=h
 refine⟨_,(by apply aq;exact(cO (m8 (qj (dR (bY (aW jC (cK hc) T.z_isinstance fV (ae (aj hc 0) (ae (lF (v:=V.ty "tuple") (cK hc) T.z_tuple ko rfl) ah))))) (oX (dR (bY (aW (px hr.hd) (cK hc) T.z_all Lb (ae (cz hc ["_law_one"] [] rfl (by decide +kernel) (fL (aj hc 0)) (λ_ hc=>mB hc (by decide +kernel) 0 (by decide +kernel)) (λ_ _=>dh) (λ_ hc=>(aF vH (hr.mono (by omega)) (cK hc) T.vw T.nj.kp T.vC .nil aY (ae (aj hc 0) ah)))) ah))))))) (by exact aA (aS jF)) bI);exact aA (aS (aW (px hr.hd) (cK hc) T.z_all Lb (ae (cz hc ["_law_k"] [0] rfl (by decide +kernel) (ql (cK hc) T.z_range (ae (bt Hw (aW iL (cK hc) T.z_len tj (ae (aj hc 0) ah)) ao) ah)) (λ_ hc=>mB hc (by decide +kernel) 0 (by decide +kernel)) (λ_ _=>dh) (λ_ hc=>(nX Rc (bQ vz (aj hc 1) (aj hc 0) (λ_ _=>rfl)) (bQ vz (aj hc 1) (bt iz (aj hc 0) ao) (λ_ _=>rfl)) (dA _)))) ah)))),?_⟩
 repeat (walk_at "rd")
 refine⟨_,.tup ha,true,oA _ _,?_⟩
 repeat (walk_at "rd")
 refine⟨⟨_,bR ha⟩,?_⟩
 obtain⟨Pc,jX⟩:∃Pc:Addr->Nat->List V->Hp->Prop,∀Z i ys H',Pc Z i ys H'↔ys=List.map V.bl (List.replicate i true)/\bP H H'/\H' Z=some (.lst ys):=⟨_,λ_ _ _ _=>dY⟩
 refine km (zs:=List.map V.int x) Pc (λZ hZ=>(jX _ _ _ _).mpr ⟨rfl,aH hZ _,ai⟩) (λZ hZ i ys H' _ pv=>?_) (λZ hZ i z ys H' hz pv cb=>?_) (λZ hZ ys H' pv=>?_)
 ·obtain⟨_,s,_⟩:=(jX _ _ _ _).mp pv
  exact s _ _ ha
 ·obtain⟨rfl,s1,qR⟩:=(jX _ _ _ _).mp pv
  obtain⟨n,en,rfl⟩:=int_at hz
  have hi:i<x.length:=(fq.mp en).1
  walk_at "rc"
  repeat (walk_at "rd")
  refine⟨n,rfl,qR,by rw[pM];exact bU (by omega),(jX _ _ _ _).mpr ⟨?_,ik s1 hZ,ai⟩⟩
  rw[Gx,dE];rfl
 ·obtain⟨rfl,s1,qR⟩:=(jX _ _ _ _).mp pv
  refine⟨Z,rfl,_,qR,?_⟩
  rw[all_true]
  repeat (walk_at "rd")
  have ha1:=s1 _ _ ha
  repeat (first | walk_at "rd" | simp only[ha1])
  refine⟨by omega,by omega,?_⟩
  obtain⟨Pd,hPd⟩:∃Pd:Addr->Nat->List V->Hp->Prop,∀Z2 i ys rF,Pd Z2 i ys rF↔ys=List.map V.bl (List.replicate i true)/\bP H' rF/\rF Z2=some (.lst ys):=⟨_,λ_ _ _ _=>dY⟩
  refine vk Pd (λZ2 hZ2=>(hPd _ _ _ _).mpr ⟨rfl,aH hZ2 _,ai⟩) (λZ2 hZ2 i ys H2 hi pv cb=>?_) (λZ2 hZ2 ys H2 pv=>?_)
  ·obtain⟨rfl,s2,hZ3⟩:=(hPd _ _ _ _).mp pv
   have ha2:=s2 _ _ ha1
   have j1:i<x.length:=by omega
   have j2:i+1<x.length:=by omega
   have e1:v7 (List.map V.int x) (i:Int)=some (.int x[i]):=iX (by rw[cM,bq j1];rfl)
   have e2:v7 (List.map V.int x) ((i:Int)+1)=some (.int x[i+1]):=iX (j:=i+1) (by rw[cM,bq j2];rfl)
   walk_at "rc"
   repeat (first | walk_at "rd" | simp only[ha2,e1,e2])
   have lt:x[i]<x[i+1]:=(uZ.mp rise) i (i+1) j1 j2 (by omega)
   rw[decide_eq_true lt]
   refine⟨hZ3,by rw[pM];exact bU (by omega),(hPd _ _ _ _).mpr ⟨?_,ik s2 hZ2,ai⟩⟩
   rw[Gx,dE];rfl
  ·obtain⟨rfl,s2,hZ3⟩:=(hPd _ _ _ _).mp pv
   refine⟨Z2,rfl,_,hZ3,?_⟩
   rw[all_true]
   exact q _ (s1.trans s2)
theorem MJ(T:Txt K mg t):bX P w K mg base gi 3 t.lh t.kX ["_law_told","_law_due"] YG:=by
 have yI:=Ro (P:=P) (w:=w) (base:=base) T
 refine T.lj.qK w6 (λvs H Q E h=>?_) (λdc A outer s H vs Q E hr h hc hf=>?_)
 ·obtain⟨a,b,rfl,_⟩:=h;rfl
 obtain⟨L,M,rfl,as,bs,ss,hL,hM,sa,sb,la,rise,q⟩:=h
 have hu:=kg hr
 have Nk:=hr.gd
 refine⟨_,(by apply aq;exact(cO (m8 (qj (dR (bY (aW jC (cK hc) T.z_isinstance fV (ae (aj hc 0) (ae (lF (v:=V.ty "list") (cK hc) T.z_list Ju rfl) ah))))) (oX (dR (bY (aW (px hr.hd) (cK hc) T.z_all Lb (ae (cz hc ["_law_one"] [] rfl (by decide +kernel) (cD (aj hc 0)) (λ_ hc=>mB hc (by decide +kernel) 0 (by decide +kernel)) (λ_ _=>dh) (λ_ hc=>(aF yI (hr.mono (by omega)) (cK hc) T.yo T.p6.kp T.yE .nil aY (ae (aj hc 0) ah)))) ah))))))) (by exact aA (aS jF)) bI);exact aA (aS (nX (Kj hu) (aj hc 0) (aj hc 1) (dA _)))),?_⟩
 repeat (walk_at "rd")
 refine⟨_,.lst hL,true,oA _ _,?_⟩
 repeat (walk_at "rd")
 refine⟨⟨_,aX hL⟩,?_⟩
 obtain⟨Pc,jX⟩:∃Pc:Addr->Nat->List V->Hp->Prop,∀Z i ys H',Pc Z i ys H'↔ys=List.map V.bl (List.replicate i true)/\bP H H'/\H' Z=some (.lst ys):=⟨_,λ_ _ _ _=>dY⟩
 refine sY (zs:=List.map V.ref as) Pc (λZ hZ=>(jX _ _ _ _).mpr ⟨rfl,aH hZ _,ai⟩) (λZ hZ i ys H' _ pv=>?_) (λZ hZ i z ys H' hz pv cb=>?_) (λZ hZ ys H' pv=>?_)
 ·obtain⟨_,s,_⟩:=(jX _ _ _ _).mp pv
  exact s _ _ hL
 ·obtain⟨rfl,s1,qR⟩:=(jX _ _ _ _).mp pv
  obtain⟨c,ec,rfl⟩:=eM hz
  have hi:i<as.length:=(fq.mp ec).1
  have pQ:i<ss.length:=by have:=sa.1;omega
  have es:ss[i]?=some ss[i]:=bq pQ
  obtain⟨r1,r2⟩:=rise _ (m6 pQ)
  walk_at "rc"
  repeat (walk_at "rd")
  refine⟨c,rfl,_,s1 _ _ (sa.2 i c _ ec es),r2,r1,λH2 s2=>⟨s2 _ _ qR,by rw[pM];exact vQ (by omega),(jX _ _ _ _).mpr ⟨?_,ik (s1.trans s2) hZ,ai⟩⟩⟩
  rw[Gx,dE];rfl
 ·obtain⟨rfl,s1,qR⟩:=(jX _ _ _ _).mp pv
  refine⟨Z,rfl,_,qR,?_⟩
  rw[all_true]
  repeat (walk_at "rd")
  refine⟨as,s1 _ _ hL,bs,s1 _ _ hM,ss,sa.mono λb xs e=>s1 _ _ e,ss,sb.mono λb xs e=>s1 _ _ e,?_⟩
  have:=q _ s1
  simpa using this
end
local macro_rules | `(tactic| walk_at "rd") => `(tactic| walk_at "rc")
local macro_rules | `(tactic| walk_at "rl") => `(tactic| first | (refine er fun R hR => ?_) | walk_at "ry" | (refine Nx.to (by assumption) _ _ ?_))
theorem Ep(r acc:List (List Int))(a:List Int):eO (r++[a]) acc=if (eO r acc).any (λt=>aC t a)=true then eO r acc else eO r acc++[a]:=by
 induction r generalizing acc with
 | nil=>rfl
 | cons b r ih=>exact ih _
def P0:Sp:=λvs H Q _=>∃M W,vs=[.ref M,.ref W]/\∃(md:Md) (x:List Int),rk H M x md/\H W=some (.tup (List.map V.int x))/\x.length<=6/\eG x/\∀D H' bs L,bP H H'->H D=none->H' D=some (.lst (List.map V.ref bs))->aL H' bs L->(∀c,c∈L↔(c∈cB x/\md.tells c=false)/\∀y∈cB x,md.tells y=false->aC y c=true->y=c)->L.Pairwise (λa b=>bT a b=true)->Q (.ref D) H'
section
variable {P:Program}{w:World}{K:PySem.W.Frag}{mg:Str->Option Value}{base:Heap}{t:vL}
theorem Mz(T:Txt K mg t):bX P w K mg base gi 7 t.mV t.mO ["_law_model_here","_law_whole"] P0:=by
 have mY:=zk (P:=P) (w:=w) (base:=base) T
 have eR:=sG (P:=P) (w:=w) (base:=base) T
 have fW:=zi (P:=P) (w:=w) (base:=base) T
 refine T.tK.qK kK (λvs H Q E h=>?_) (λdc A outer s H vs Q E hr h hc hf=>?_)
 ·obtain⟨a,b,rfl,_⟩:=h;rfl
 obtain⟨M,W,rfl,md,x,hM,hW,lx,rise,q⟩:=h
 have hu:=kg hr
 have Nk:=hr.gd
 have Z1:x.Nodup:=rise.imp λh=>Int.ne_of_lt h
 refine⟨_,(by apply aq;exact(aP hc kK.nd hf 2 (by decide +kernel) (dU ah));apply aq;exact(eL jt rfl (cD (aF mY (hr.mono (by omega)) (cK hc) T.sP T.mZ.kp T.tD .nil aY (ae (aj hc 1) ah))) (pA hc kK.nd hf 3 (by decide +kernel)) (by exact aA (cO (m8 (oY (dR (bY (aF eR (hr.mono (by omega)) (cK hc) T.jy T.gX.kp T.jz .nil aY (ae (aj hc 0) (ae (aj hc 3) ah))))) (lE (dR (bY (aW (pk hr.hd) (cK hc) T.z_any La (ae (cz hc ["_law_one"] [3] rfl (by decide +kernel) (cD (aj hc 2)) (λ_ hc=>mB hc (by decide +kernel) 0 (by decide +kernel)) (λ_ _=>dh) (λ_ hc=>(aF fW (hr.mono (by omega)) (cK hc) T.iB T.fX.kp T.iM .nil aY (ae (aj hc 0) (ae (aj hc 1) ah))))) ah))))))) (by exact aA (dH (nY uW uX uY fj (aj hc 2) (ae (aj hc 3) ah)))) bI)));exact aA (aS (aj hc 2))),?_⟩
 walk_at "r"
 refine⟨by decide,λR0 Sl=>?_⟩
 have Y2:=aH Sl (.lst [])
 have CT:upd H R0 (.lst []) R0=some (.lst []):=ai
 generalize upd H R0 (.lst [])=H1 at Y2 CT ⊢
 walk_at "r"
 refine⟨W,rfl,x,Y2 _ _ hW,lx,Z1,λDP H2 bs ts Va hDP Sr sb Rw T6=>?_⟩
 have Y1:=Y2.trans Va
 have hDR:DP≠R0:=λz=>by rw[z,CT]at hDP;cases hDP
 have lb:=sb.1
 have l64:ts.length<=64:=by
  have h1:=dI (l:=ts) (show ts.Nodup from T6.imp λe z=>by rw[z,ig]at e;cases e) λt ht=>(Rw t).mp ht
  rw[gI]at h1
  have h2:2 ^ x.length<=2 ^ 6:=tZ (by decide) lx
  omega
 have rs:∀s∈ts,eG s/\s.length<=6/\∀z∈s,z∈x:=λs hs=>by
  have h1:=gq ((Rw s).mp hs)
  exact⟨rise.sublist h1,cQ h1.length_le lx,λz hz=>h1.subset hz⟩
 walk_at "r"
 refine⟨⟨_,aX Sr⟩,?_⟩
 obtain⟨nt,Ws⟩:∃nt:List Int->Bool,∀s,nt s = !md.tells s:=⟨_,λ_=>rfl⟩
 have ent:nt=λs=>!md.tells s:=funext Ws
 obtain⟨Pv,dn⟩:∃Pv:Nat->St->Hp->Prop,∀i σ' H',Pv i σ' H'↔∃(z:Option V) (cs:List Addr),σ'=[some (.ref M),some (.ref W),some (.ref R0),z]/\bP H H'/\(∀b o,b≠R0->H2 b=some o->H' b=some o)/\H' R0=some (.lst (List.map V.ref cs))/\aL H' cs (eO ((ts.take i).filter nt) []):=⟨_,λ_ _ _=>dY⟩
 refine eJ (xs:=List.map V.ref bs) Pv ((dn _ _ _).mpr ⟨none,[],rfl,Y1,λb o _ e=>e,Va _ _ CT,⟨rfl,λ_ _ _ z=>by cases z⟩⟩) (λi σ' H' _ pv=>?_) (λi z σ' H3 hz pv=>?_) (λσ' H3 pv=>?_)
 ·obtain⟨_,_,_,_,k,_⟩:=(dn _ _ _).mp pv
  exact k _ _ hDR Sr
 ·obtain⟨z,cs,rfl,s3,k3,CQ,Hk⟩:=(dn _ _ _).mp pv
  obtain⟨b,eb,rfl⟩:=eM hz
  have hi:i<bs.length:=(fq.mp eb).1
  have et:ts[i]?=some (ts[i]'(by omega)):=bq _
  have Kx:=sb.2 i b _ eb et
  have Wy:=k3 _ _ (bh Kx (Va _ _ CT) (by intro z;cases z)) Kx
  have etk:ts.take (i+1)=ts.take i++[ts[i]'(by omega)]:=by rw[gR,et];rfl
  obtain⟨rS,lS,sbx⟩:=rs _ (m6 (l:=ts) (n:=i) (by omega))
  generalize ts[i]'(by omega)=S at Kx Wy etk rS lS sbx
  obtain⟨L,hL⟩:∃L,L=eO ((ts.take i).filter nt) []:=⟨_,rfl⟩
  rw[<-hL]at Hk
  have Lin:∀c∈L,c∈ts:=λc hc=>by
   obtain⟨l,e,sl⟩:=iC ((ts.take i).filter nt) []
   rw[hL,e,mw]at hc
   exact Gw (cx.mp (sl.subset hc)).1
  have lL:L.length<=64:=by
   obtain⟨l,e,sl⟩:=iC ((ts.take i).filter nt) []
   rw[hL,e,mw]
   have h1:=sl.length_le
   have h2:=m7 nt (ts.take i)
   rw[fZ]at h2
   omega
  have lc:=Hk.1
  have stay:∀H4,bP H3 H4->eO ((ts.take (i+1)).filter nt) []=L->Pv (i+1) [some (.ref M),some (.ref W),some (.ref R0),some (.ref b)] H4:=λH4 s4 e=>(dn _ _ _).mpr ⟨_,cs,rfl,s3.trans s4,λb o n e=>s4 _ _ (k3 b o n e),s4 _ _ CQ,by rw[e];exact Hk.mono λb xs e=>s4 _ _ e⟩
  walk_at "r"
  refine⟨M,b,rfl,md,x,S,hM.same s3,Wy,by omega,sbx,λH4 s4=>⟨_,rfl,?_⟩⟩
  cases eS:md.tells S with
  | true=>
   rw[aE (by decide)]
   refine stay H4 s4 ?_
   rw[etk,rH,show [S].filter nt=[] by simp[Ws,eS],gj,hL]
  | false=>
   rw[ay (by decide)]
   have ef:eO ((ts.take (i+1)).filter nt) []=if L.any (λt=>aC t S)=true then L else L++[S]:=by
    rw[etk,rH,show [S].filter nt=[S] by simp[Ws,eS],Ep,<-hL]
   have hR4:=s4 _ _ CQ
   refine⟨⟨_,aX hR4⟩,?_⟩
   refine eQ (zs:=List.map V.ref cs) (λj=>L[j]?.map λc=>V.bl (aC c S)) (λ_=>N8) (λ_ _ _ _ _ _ r=>r) (λ_ _ _ _ _ _ _ r=>r) hR4 (by rw[aM];omega) (λDD c H5 j z yes no hj s5 Oq Oo eF vY=>?_) (λD H5 vs s5 hD Gb rl=>?_)
   ·obtain⟨b',eb,rfl⟩:=eM hj
    have Nq:j<cs.length:=(fq.mp eb).1
    have es:L[j]?=some (L[j]'(by omega)):=bq _
    have hb5:=s5 _ _ (s4 _ _ (Hk.2 j b' _ eb es))
    have l5:=(rs _ (Lin _ (j6 es))).2.1
    rw[es]at eF
    walk_at "rc"
    walk_at "r"
    exact⟨b',b,rfl,_,S,hb5,s5 _ _ (s4 _ _ Wy),by omega,λH6 s6=>eF _ rfl _ _ s6 rfl⟩
   have ev:=rP rl
   rw[aM,lc,oE (l:=L) (g:=λc=>V.bl (aC c S)) λk hk=>by rw[bq hk];rfl]at ev
   subst ev
   refine⟨D,rfl,L.map λc=>aC c S,by rw[Gb,fY];rfl,?_⟩
   rw[show(L.map λc=>aC c S).any id=L.any λc=>aC c S by rw[tQ];rfl]
   have YZ:=s4.trans s5
   cases ea:L.any λc=>aC c S with
   | true=>
    rw[aE (by decide)]
    exact stay H5 YZ (by rw[ef,ay ea])
   | false=>
    rw[ay (by decide)]
    have Om:=YZ _ _ CQ
    refine⟨.inl ⟨rfl,_,aX Om⟩,_,Om,by rw[aM];exact bU (by omega),(dn _ _ _).mpr ⟨_,cs++[b],rfl,ik (s3.trans YZ) Sl,λb o n e=>by rw[au n];exact YZ _ _ (k3 b o n e),by rw[ai,dE];rfl,?_⟩⟩
    rw[ef,aE (by rw[ea];decide)]
    have kt:∀{b:Addr} {xs:List V} {o:HO},H3 b=some (.tup xs)->upd H5 R0 o b=some (.tup xs):=λe=>by rw[au (bh e CQ (by intro z;cases z))];exact YZ _ _ e
    exact(Hk.mono λb xs e=>kt e).snoc (kt Wy)
 ·obtain⟨z,cs,rfl,s3,k3,CQ,Hk⟩:=(dn _ _ _).mp pv
  rw[aM,lb,gE]at Hk
  walk_at "r"
  have pf:(ts.filter nt).Pairwise (λa b=>bT a b=true):=T6.filter _
  refine q R0 H3 cs _ s3 Sl CQ Hk (λc=>?_) ?_
  ·rw[qO (ts.filter nt) [] [] (λy hy=>(rs y (cx.mp hy).1).1) pf (λy=>by simp)]
   rw[mw,cx,Rw,Ws]
   constructor
   ·rintro⟨⟨h1,h2⟩,h3⟩
    exact⟨⟨h1,by simpa using h2⟩,λy hy ht hp=>h3 y (cx.mpr ⟨(Rw y).mpr hy,by rw[Ws,ht];rfl⟩) hp⟩
   ·rintro⟨⟨h1,h2⟩,h3⟩
    refine⟨⟨h1,by rw[h2];rfl⟩,λy hy hp=>?_⟩
    obtain⟨a1,a2⟩:=cx.mp hy
    rw[Ws]at a2
    exact h3 y ((Rw y).mp a1) (by simpa using a2) hp
  ·obtain⟨l,e,sl⟩:=iC (ts.filter nt) []
   rw[e,mw]
   exact pf.sublist sl
end
local macro_rules | `(tactic| walk_at "rd") => `(tactic| walk_at "rc")
local macro_rules | `(tactic| walk_at "rl") => `(tactic| first | (refine er fun R hR => ?_) | walk_at "ry" | (refine Nx.to (by assumption) _ _ ?_))
theorem aBP{α δ:Type}{l:List α}{p:α->Bool}{g:α->δ}{f:Nat->Option δ}(h:∀i (hi:i<l.length),f i=if p l[i] then some (g l[i]) else none):(List.range l.length).filterMap f=(l.filter p).map g:=by
 have:∀n,n<=l.length->(List.range n).filterMap f=((l.take n).filter p).map g:=λn=>by
  induction n with
  | zero=>intro _;rfl
  | succ n ih=>
   intro hn
   rw[List.range_succ,List.filterMap_append,ih (by omega),gR,bq (by omega),rH,dE]
   congr 1
   simp only[Ag,List.filterMap_nil,h n (by omega),Option.toList_some,qg,List.filter_nil]
   by_cases hp:p (l[n]'(by omega))=true
   ·simp[hp]
   ·simp[hp]
 have:=this l.length (bj _)
 rwa [gE]at this
def tF(x S:List Int)(m:Int):List Int:=x.filter λz=>decide (z∈S)||decide (z=m)
def Pj(tells:List Int->Bool)(x S:List Int):Bool:=tells S && !(((cH x S).map (tF x S)).any tells)
def P1:Sp:=λvs H Q _=>∃M W,vs=[.ref M,.ref W]/\∃(md:Md) (x:List Int),rk H M x md/\H W=some (.tup (List.map V.int x))/\x.length<=6/\eG x/\∀D H' bs (ts:List (List Int)),bP H H'->H D=none->H' D=some (.lst (List.map V.ref bs))->aL H' bs (ts.filter (Pj md.tells x))->(∀t,t∈ts↔t∈cB x)->ts.Pairwise (λa b=>bT a b=true)->Q (.ref D) H'
section
variable {P:Program}{w:World}{K:PySem.W.Frag}{mg:Str->Option Value}{base:Heap}{t:vL}
theorem MF(T:Txt K mg t):bX P w K mg base gi 7 t.jq t.jm ["_law_model_here","_law_whole"] P1:=by
 have mY:=zk (P:=P) (w:=w) (base:=base) T
 have eR:=sG (P:=P) (w:=w) (base:=base) T
 refine T.nq.qK fN (λvs H Q E h=>?_) (λdc A outer s H vs Q E hr h hc hf=>?_)
 ·obtain⟨a,b,rfl,_⟩:=h;rfl
 obtain⟨M,W,rfl,md,x,hM,hW,lx,rise,q⟩:=h
 have hu:=kg hr
 have Nk:=hr.gd
 have Z1:x.Nodup:=rise.imp λh=>Int.ne_of_lt h
 refine⟨_,(by apply aq;exact(aP hc fN.nd hf 2 (by decide +kernel) (dU ah));apply aq;exact(eL jt rfl (cD (aF mY (hr.mono (by omega)) (cK hc) T.sP T.mZ.kp T.tD .nil aY (ae (aj hc 1) ah))) (pA hc fN.nd hf 3 (by decide +kernel)) (by apply aq;exact(G5 hc fN.nd 4 (by decide +kernel) ["_law_member"] ["_law_member"] [1,3] rfl (by decide +kernel) (fL (aj hc 1)) (λ_ hc=>aCr hc (by decide +kernel) 0 (by decide +kernel) (by decide +kernel)) (λ_ hc=>ib (bO uk (aj hc 0) (aj hc 2) (by with_unfolding_all rfl))) (λ_ hc=>(fE gO (cK hc) T.z_tuple ko (ae (cz hc ["_law_one"] [2,0] rfl (by decide +kernel) (fL (aj hc 1)) (λ_ hc=>mB hc (by decide +kernel) 0 (by decide +kernel)) (λ_ hc=>ib (m8 (qj (bO Rf (aj hc 0) (aj hc 1) (by with_unfolding_all rfl)) (oX (bO sF (aj hc 0) (aj hc 2) (dA _)))))) (λ_ hc=>(aj hc 0))) ah))) (by rfl));exact aA (cO (m8 (oY (bY (aF eR (hr.mono (by omega)) (cK hc) T.jy T.gX.kp T.jz .nil aY (ae (aj hc 0) (ae (aj hc 3) ah)))) (lE (dR (bY (aW (pk hr.hd) (cK hc) T.z_any La (ae (cz hc ["_law_larger"] [0] rfl (by decide +kernel) (cD (aj hc 4)) (λ_ hc=>mB hc (by decide +kernel) 0 (by decide +kernel)) (λ_ _=>dh) (λ_ hc=>(aF eR (hr.mono (by omega)) (cK hc) T.jy T.gX.kp T.jz .nil aY (ae (aj hc 1) (ae (aj hc 0) ah))))) ah))))))) (by exact aA (dH (nY uW uX uY fj (aj hc 2) (ae (aj hc 3) ah)))) bI)));exact aA (aS (aj hc 2))),?_⟩
 walk_at "r"
 refine⟨by decide,λR0 Sl=>?_⟩
 have Y2:=aH Sl (.lst [])
 have CT:upd H R0 (.lst []) R0=some (.lst []):=ai
 generalize upd H R0 (.lst [])=H1 at Y2 CT ⊢
 walk_at "r"
 refine⟨W,rfl,x,Y2 _ _ hW,lx,Z1,λDP H2 bs ts Va hDP Sr sb Rw T6=>?_⟩
 have Y1:=Y2.trans Va
 have hDR:DP≠R0:=λz=>by rw[z,CT]at hDP;cases hDP
 have lb:=sb.1
 have l64:ts.length<=64:=by
  have h1:=dI (l:=ts) (show ts.Nodup from T6.imp λe z=>by rw[z,ig]at e;cases e) λt ht=>(Rw t).mp ht
  rw[gI]at h1
  have h2:2 ^ x.length<=2 ^ 6:=tZ (by decide) lx
  omega
 have rs:∀s∈ts,s.length<=6/\∀z∈s,z∈x:=λs hs=>by
  have h1:=gq ((Rw s).mp hs)
  exact⟨cQ h1.length_le lx,λz hz=>h1.subset hz⟩
 walk_at "r"
 refine⟨⟨_,aX Sr⟩,?_⟩
 obtain⟨nt,Ws⟩:∃nt:List Int->Bool,nt=Pj md.tells x:=⟨_,rfl⟩
 obtain⟨Pv,dn⟩:∃Pv:Nat->St->Hp->Prop,∀i σ' H',Pv i σ' H'↔∃(z z2:Option V) (cs:List Addr),σ'=[some (.ref M),some (.ref W),some (.ref R0),z,z2]/\bP H H'/\(∀b o,b≠R0->H2 b=some o->H' b=some o)/\H' R0=some (.lst (List.map V.ref cs))/\aL H' cs ((ts.take i).filter nt):=⟨_,λ_ _ _=>dY⟩
 refine eJ (xs:=List.map V.ref bs) Pv ((dn _ _ _).mpr ⟨none,none,[],rfl,Y1,λb o _ e=>e,Va _ _ CT,⟨rfl,λ_ _ _ z=>by cases z⟩⟩) (λi σ' H' _ pv=>?_) (λi z σ' H3 hz pv=>?_) (λσ' H3 pv=>?_)
 ·obtain⟨_,_,_,_,_,k,_⟩:=(dn _ _ _).mp pv
  exact k _ _ hDR Sr
 ·obtain⟨z,z2,cs,rfl,s3,k3,CQ,Hk⟩:=(dn _ _ _).mp pv
  obtain⟨b,eb,rfl⟩:=eM hz
  have hi:i<bs.length:=(fq.mp eb).1
  have et:ts[i]?=some (ts[i]'(by omega)):=bq _
  have Kx:=sb.2 i b _ eb et
  have Wy:=k3 _ _ (bh Kx (Va _ _ CT) (by intro z;cases z)) Kx
  have etk:ts.take (i+1)=ts.take i++[ts[i]'(by omega)]:=by rw[gR,et];rfl
  obtain⟨lS,sbx⟩:=rs _ (m6 (l:=ts) (n:=i) (by omega))
  generalize ts[i]'(by omega)=S at Kx Wy etk lS sbx
  have lc:=Hk.1
  have lL:((ts.take i).filter nt).length<=64:=by
   have h2:=m7 nt (ts.take i)
   rw[fZ]at h2
   omega
  have hW3:=s3 _ _ hW
  have stay:∀H4 (z2:Option V),bP H3 H4->nt S=false->Pv (i+1) [some (.ref M),some (.ref W),some (.ref R0),some (.ref b),z2] H4:=λH4 z2 s4 e=>(dn _ _ _).mpr ⟨_,z2,cs,rfl,s3.trans s4,λb o n e=>s4 _ _ (k3 b o n e),s4 _ _ CQ,by
   rw[etk,rH,show [S].filter nt=[] by simp[e],gj]
   exact Hk.mono λb xs e=>s4 _ _ e⟩
  walk_at "r"
  refine⟨⟨_,bR hW3⟩,?_⟩
  refine lV (zs:=List.map V.int x) (λj=>if (x[j]?.any λm=>decide (m∉S)) then x[j]?.map (tF x S) else none) (λ_=>gZ) gZ.same gZ.puts hW3 (by rw[aM];omega) (λDD c H4 j z yes no hj s4 Oq Oo eF vY=>?_) (λD H4 vs s4 hD zC rl=>?_)
  ·obtain⟨n,en,rfl⟩:=int_at hj
   rw[en]at eF vY
   have hb4:=s4 _ _ Wy
   have Yb:=s4 _ _ hW3
   walk_at "rc"
   repeat (first | walk_at "rl" | simp only[hb4])
   refine⟨rfl,lQ S,?_⟩
   rw[oC]
   by_cases hm:n∈S
   ·rw[aE (by simp[hm])]
    exact vY (by simp[hm]) _ λ_ _ e=>e
   rw[ay (by simp[hm])]
   refine⟨⟨_,bR Yb⟩,?_⟩
   refine lV (zs:=List.map V.int x) (λk=>if (x[k]?.any λz=>decide (z∈S)||decide (z=n)) then x[k]? else none) (λ_ _ v d=>v=V.int d) (λ_ _ _ _ _ _ r=>r) (λ_ _ _ _ _ _ _ r=>r) Yb (by rw[aM];omega) (λD5 c5 H5 k z5 aF2 no5 hk s5 Gb aGc RW aBD=>?_) (λD5 H5 vs s5 Gb aER rl=>?_)
   ·obtain⟨m,em,rfl⟩:=int_at hk
    rw[em]at RW aBD
    have hb5:=s5 _ _ hb4
    walk_at "rc"
    repeat (first | walk_at "rl" | simp only[hb5])
    refine⟨rfl,lQ S,?_⟩
    rw[oC]
    by_cases h1:m∈S
    ·rw[ay (decide_eq_true h1)]
     exact RW m (by simp[h1]) _ _ (λ_ _ e=>e) rfl
    ·rw[aE (by simp[h1])]
     by_cases h2:m=n
     ·rw[ay h2]
      exact RW m (by simp[h2]) _ _ (λ_ _ e=>e) rfl
     ·rw[aE h2]
      exact aBD (by simp[h1,h2]) _ λ_ _ e=>e
   have ev:=BW rl
   rw[aM,ph (l:=x) (p:=λz=>decide (z∈S)||decide (z=n)) λk hk=>by rw[bq hk];rfl]at ev
   subst ev
   exact⟨D5,rfl,_,aER,λl hl=>eF (tF x S n) (by simp[hm]) _ _ (s5.trans (aH hl _)) ⟨l,rfl,ai⟩⟩
  obtain⟨ms,rfl,sm⟩:=se rl
  rw[aM,aBP (l:=x) (p:=λm=>decide (m∉S)) (g:=tF x S) λk hk=>by rw[bq hk];rfl]at sm
  have lm:=sm.1
  rw[aM]at lm
  have lr:(x.filter λm=>decide (m∉S)).length<=6:=cQ (m7 _ _) lx
  have s04:=s3.trans s4
  have sm':aL H4 ms ((cH x S).map (tF x S)):=sm
  have lm':=sm'.1
  have NK:nt S=(md.tells S && !(((cH x S).map (tF x S)).any md.tells)):=by rw[Ws];rfl
  have inx:∀c∈(cH x S).map (tF x S),c.length<=6/\∀z∈c,z∈x:=λc hc=>by
   obtain⟨m,_,rfl⟩:=eU.mp hc
   exact⟨cQ (m7 _ _) lx,λz hz=>(cx.mp hz).1⟩
  generalize (cH x S).map (tF x S)=L at sm' lm' NK inx
  walk_at "r"
  refine⟨M,b,rfl,md,x,S,hM.same s04,s4 _ _ Wy,by omega,sbx,λH5 s5=>⟨_,rfl,?_⟩⟩
  cases eS:md.tells S with
  | false=>
   rw[aE (by decide)]
   exact stay H5 _ (s4.trans s5) (by rw[NK,eS];rfl)
  | true=>
   rw[ay rfl]
   have Gb:=s5 _ _ zC
   refine⟨⟨_,aX Gb⟩,?_⟩
   refine eQ (zs:=List.map V.ref ms) (λj=>L[j]?.map λc=>V.bl (md.tells c)) (λ_=>N8) (λ_ _ _ _ _ _ r=>r) (λ_ _ _ _ _ _ _ r=>r) Gb (by rw[aM];omega) (λDD c H6 j z yes no hj s6 Oq Oo eF vY=>?_) (λD6 H6 vs s6 Ss aEQ rl=>?_)
   ·obtain⟨b',eb,rfl⟩:=eM hj
    have Nq:j<ms.length:=(fq.mp eb).1
    have es:L[j]?=some (L[j]'(by omega)):=bq _
    have hb6:=s6 _ _ (s5 _ _ (sm'.2 j b' _ eb es))
    obtain⟨l6,i6⟩:=inx _ (j6 es)
    rw[es]at eF
    walk_at "rc"
    walk_at "r"
    exact⟨M,b',rfl,md,x,_,hM.same ((s04.trans s5).trans s6),hb6,by omega,i6,λH7 s7=>eF _ rfl _ _ s7 rfl⟩
   have ev:=rP rl
   rw[aM,lm',oE (l:=L) (g:=λc=>V.bl (md.tells c)) λk hk=>by rw[bq hk];rfl]at ev
   subst ev
   refine⟨D6,rfl,L.map md.tells,by rw[aEQ,fY];rfl,?_⟩
   rw[show(L.map md.tells).any id=L.any md.tells by rw[tQ];rfl]
   have T4:=(s4.trans s5).trans s6
   cases ea:L.any md.tells with
   | true=>
    rw[aE (by decide)]
    exact stay H6 _ T4 (by rw[NK,eS,ea];rfl)
   | false=>
    rw[ay (by decide)]
    have Nv:=T4 _ _ CQ
    refine⟨.inl ⟨rfl,_,aX Nv⟩,_,Nv,by rw[aM];exact bU (by omega),(dn _ _ _).mpr ⟨_,_,cs++[b],rfl,ik (s3.trans T4) Sl,λb o n e=>by rw[au n];exact T4 _ _ (k3 b o n e),by rw[ai,dE];rfl,?_⟩⟩
    rw[etk,rH,show [S].filter nt=[S] by simp[NK,eS,ea]]
    have kt:∀{b:Addr} {xs:List V} {o:HO},H3 b=some (.tup xs)->upd H6 R0 o b=some (.tup xs):=λe=>by rw[au (bh e CQ (by intro z;cases z))];exact T4 _ _ e
    exact(Hk.mono λb xs e=>kt e).snoc (kt Wy)
 ·obtain⟨z,z2,cs,rfl,s3,k3,CQ,Hk⟩:=(dn _ _ _).mp pv
  rw[aM,lb,gE,Ws]at Hk
  walk_at "r"
  exact q R0 H3 cs ts s3 Sl CQ Hk Rw T6
end
local macro_rules | `(tactic| walk_at "rd") => `(tactic| walk_at "rc")
local macro_rules | `(tactic| walk_at "rl") => `(tactic| first | (refine er fun R hR => ?_) | walk_at "ry" | (refine Nx.to (by assumption) _ _ ?_))
theorem rk.move{H H':Hp}{p:Addr}{W:List Int}{md:Md}(k:∀b o,H b=some o->(∀ps,o≠.qF ps)->(∀o',o≠dQ o')->H' b=some o)(m:rk H p W md):rk H' p W md:=by
 cases md with
 | wt g most=>obtain⟨d,ks,h1,h2,h3⟩:=m;exact⟨d,ks,k _ _ h1 (by intro o z;cases z) (by intro o z;cases z),k _ _ h2 (by intro o z;cases z) (by intro o z;cases z),h3⟩
 | inn ss=>obtain⟨l,bs,h1,h2,h3,h4⟩:=m;exact⟨l,bs,k _ _ h1 (by intro o z;cases z) (by intro o z;cases z),k _ _ h2 (by intro o z;cases z) (by intro o z;cases z),h3.mono λ_ _ e=>k _ _ e (by intro o z;cases z) (by intro o z;cases z),h4⟩
 | out ss=>obtain⟨l,bs,h1,h2,h3,h4⟩:=m;exact⟨l,bs,k _ _ h1 (by intro o z;cases z) (by intro o z;cases z),k _ _ h2 (by intro o z;cases z) (by intro o z;cases z),h3.mono λ_ _ e=>k _ _ e (by intro o z;cases z) (by intro o z;cases z),h4⟩
def P5(f c':Addr)(fo oc:Obj)(cl:List (Str×Addr))(M:Addr):Sp:=λvs H Q _=>∃p,vs=[.ref p]/\H f=some (dQ fo)/\H c'=some (dQ oc)/\∃C,dP C H/\CellsOk C cl bZ [.ref M]/\∃(md:Md) (W S:List Int),rk H M W md/\H p=some (.tup (List.map V.int S))/\S.length<=100/\(∀z∈S,z∈W)/\
 ∀H',bP H H'->Q (.bl (md.tells S)) H'
section
variable {P:Program}{w:World}{K:PySem.W.Frag}{mg:Str->Option Value}{base:Heap}{t:vL}
theorem W7(T:Txt K mg t){f c' M:Addr}{oc:Obj}{De:Array Value}{tq:Tok}{qual:Str}{cl:List (Str×Addr)}{doc pm ctv:Value}(tN:oc.data=.fields De)(hq:De[1]?=some (.str qual tq))
  (uA:∀x c,cl.lookup x=some c->x∈bZ) (inj:∀x y c,cl.lookup x=some c->cl.lookup y=some c->x=y) :
  p7 P w K mg base 8 f (P5 f c' (PySem.W.fnMade "_law_ask" qual (aT bA) (aN bA) (ag bA) cl doc pm c' ctv) oc cl M):=by
 have eR:=sG (P:=P) (w:=w) (base:=base) T
 refine aAC (k:=7) (fo:=PySem.W.fnMade "_law_ask" qual (aT bA) (aN bA) (ag bA) cl doc pm c' ctv) (oc:=oc) (name:="_law_ask") (qual:=qual) (params:=aT bA) (body:=aN bA) (scope:=ag bA) (cl:=cl) (doc:=doc) (pm:=pm) (ctv:=ctv) (ps:=qG) (fr:=bZ) rfl tN hq rfl rfl rfl (by decide +kernel) (by decide +kernel) (by decide +kernel) (by decide +kernel) (λx hx=>?_) uA inj (λus hu=>?_) λvs H Q E h=>?_
 ·have:freeOf (ag bA)=bZ:=by decide +kernel
  rw[<-this]
  exact eU.mpr ⟨(x,.free),cx.mpr ⟨fC hx,rfl⟩,rfl⟩
 ·match us,hu with
  | [_],_=>rfl
 obtain⟨p,rfl,hf,lu,C,pin,Td,md,W,S,ma,hp,lS,sub,q⟩:=h
 refine⟨C,[.ref M],rfl,hf,lu,pin,rfl,Td,λA outer s hr hc=>?_⟩
 refine⟨_,(by exact aA (aS (aF eR (hr.mono (by omega)) (cK hc) T.jy T.gX.kp T.jz .nil aY (ae (aj hc 1) (ae (aj hc 0) ah))))),?_⟩
 walk_at "r"
 have out:∀{b:Addr} {o:HO},H b=some o->(∀o',o≠dQ o')->bD C H b=some o:=λe n=>by rw[aZ (pin.out e n)];exact e
 refine⟨M,p,rfl,md,W,S,ma.move λb o e _ np=>out e np,out hp (by intro o z;cases z),lS,sub,λH2 s2=>q _ λb o e=>?_⟩
 cases e1:C.lookup b with
 | some o'=>rw[pin b o' e1]at e;cases e;exact ku e1
 | none=>rw[cp e1];exact s2 _ _ (by rw[aZ e1];exact e)
end
def aCq(B:Hp)(C:List (Addr×Obj))(_:Unit)(H:Hp):Prop:=(∀b o,B b=some o->H b=some o)/\dP C H
section
variable {P:Program}{w:World}{K:PySem.W.Frag}{mg:Str->Option Value}{base:Heap}{t:vL}
theorem Xb{B:Hp}{f c' M:Addr}{fo oc:Obj}{fd:FuncData}{cl:List (Str×Addr)}{C:List (Addr×Obj)}{x:List Int}{md:Md}{dom:List Int->Prop}(hfd:fo.data=.func fd)(Yn:p7 P w K mg base 8 f (P5 f c' fo oc cl M))(Td:CellsOk C cl bZ [.ref M])(qQ:∀S,dom S->S.length<=100/\∀z∈S,z∈x)
  (hf:B f=some (dQ fo)) (hc:B c'=some (dQ oc)) (hm:rk B M x md) :
  Xj P w K mg base 8 f (λ_=>False) (λb=>(∃o,B b=some o)\/∃o,C.lookup b=some o) (aCq B C) (λi _=>i) (λ_=>True) dom md.tells:=by
 refine⟨⟨⟨_,Yn,λi H p S Q hD hn hp hS q=>?_⟩,λi H hD=>⟨fo,fd,hD.1 _ _ hf,hfd⟩,λi H H' hD s=>?_,λi H b xs hD hz e=>hz.elim⟩,λb h=>h.elim,λi H b hD h=>?_,λi H H' hD k=>?_⟩
 ·exact⟨p,rfl,hD.1 _ _ hf,hD.1 _ _ hc,C,hD.2,Td,md,x,S,hm.same (λb o e=>hD.1 b o e),hp,(qQ S hS).1,(qQ S hS).2,λH' s=>q H' ⟨λb o e=>s _ _ (hD.1 b o e),λb o e=>s _ _ (hD.2 b o e)⟩ λb o _ e=>s _ _ e⟩
 ·exact⟨λb o e=>s _ _ (hD.1 b o e),λb o e=>s _ _ (hD.2 b o e)⟩
 ·rcases h with ⟨o,e⟩ | ⟨o,e⟩
  ·rw[hD.1 b o e];intro z;cases z
  ·rw[hD.2 b o e];intro z;cases z
 ·exact⟨λb o e=>k b o (.inl (.inl ⟨o,e⟩)) (hD.1 b o e),λb o e=>k b _ (.inl (.inr ⟨o,e⟩)) (hD.2 b o e)⟩
end
local macro_rules | `(tactic| walk_at "rd") => `(tactic| walk_at "rc")
local macro_rules | `(tactic| walk_at "rl") => `(tactic| first | (refine er fun R hR => ?_) | walk_at "ry" | (refine Nx.to (by assumption) _ _ ?_))
theorem Uz{g:Int->Int}(g0:∀z,0<=g z){S T:List Int}(h:S.Sublist T):(S.map g).sum<=(T.map g).sum:=by
 induction h with
 | slnil=>exact gD _
 | cons a _ ih=>rw[dZ,List.sum_cons];have:=g0 a;omega
 | cons_cons a _ ih=>rw[dZ,dZ,List.sum_cons,List.sum_cons];omega
theorem Rb{S T:List Int}(rS:eG S)(rT:eG T)(h:aC S T=true):S.Sublist T:=by
 have e:T.filter (λz=>decide (z∈S))=S:=sD (rT.sublist Ah) rS λz=>by
  rw[cx,g8]
  exact⟨λh=>h.2,λhz=>⟨bH.mp h z hz,hz⟩⟩
 rw[<-e];exact Ah
theorem vW{H:Hp}{p:Addr}{x:List Int}{md:Md}(rx:eG x)(m:rk H p x md):mX (cB x) md.tells:=λS hS T hT hp ht=>by
 cases md with
 | wt g most=>
  obtain⟨d,ks,_,_,_,g0⟩:=m
  have:=Uz g0 (Rb (rx.sublist (gq hS)) (rx.sublist (gq hT)) hp)
  have R5:=of_decide_eq_true ht
  exact decide_eq_true (by omega)
 | inn ss=>
  obtain⟨s,hs,e⟩:=gk.mp ht
  exact gk.mpr ⟨s,hs,bH.mpr λz hz=>bH.mp e z (bH.mp hp z hz)⟩
 | out ss=>
  have R5:(!(ss.any λs=>aC s T))=true:=ht
  show(!(ss.any λs=>aC s S))=true
  cases e:ss.any λs=>aC s S with
  | false=>rfl
  | true=>
   obtain⟨s,hs,e⟩:=gk.mp e
   have e2:(ss.any λs=>aC s T)=true:=gk.mpr ⟨s,hs,bH.mpr λz hz=>bH.mp hp z (bH.mp e z hz)⟩
   rw[e2]at R5
   cases R5
theorem SQ{A B:List (List Int)}(pa:A.Pairwise (λa b=>bT a b=true))(pb:B.Pairwise (λa b=>bT a b=true))(h:∀x,x∈A↔x∈B):A=B:=by
 induction A generalizing B with
 | nil=>
  cases B with
  | nil=>rfl
  | cons b B=>exact absurd ((h b).mpr df) (by simp)
 | cons a A ih=>
  cases B with
  | nil=>exact absurd ((h a).mp df) (by simp)
  | cons b B=>
   have p1:=wG.mp pa
   have p2:=wG.mp pb
   have e:a=b:=by
    rcases bJ.mp ((h a).mp df) with e | e
    ·exact e
    rcases bJ.mp ((h b).mpr df) with e' | e'
    ·exact e'.symm
    have:=P' (p1.1 b e') (p2.1 a e)
    rw[ig]at this;cases this
   subst e
   congr 1
   refine ih p1.2 p2.2 λx=>⟨λhx=>?_,λhx=>?_⟩
   ·rcases bJ.mp ((h x).mp (cV _ hx)) with e | e
    ·rw[e]at hx
     have:=p1.1 a hx
     rw[ig]at this;cases this
    ·exact e
   ·rcases bJ.mp ((h x).mpr (cV _ hx)) with e | e
    ·rw[e]at hx
     have:=p2.1 a hx
     rw[ig]at this;cases this
    ·exact e
theorem uj{x y:List Int}(hx:eG x)(hy:eG y)(h1:aC x y=true)(h2:aC y x=true):x=y:=
 mG hx hy h1 (Nat.le_antisymm (gu hx h1) (gu hy h2))
theorem Fx{tells:List Int->Bool}{ps as clashes:List (List Int)}(mono:mX ps tells)(aAB:∀T∈ps,det tells as T=true)(sub:∀a∈as,a∈ps)(ri:∀a∈ps,eG a)(V':∀x,x∈clashes↔x∈as.filter (λa=>!tells a)/\∀y∈as.filter (λa=>!tells a),aC y x=true->y=x)(c:List Int) :
  c∈clashes↔(c∈ps/\tells c=false)/\∀y∈ps,tells y=false->aC y c=true->y=c:=by
 have low:∀T∈ps,tells T=false->∃a∈as.filter (λa=>!tells a),aC a T=true:=λT hT e=>by
  obtain⟨a,ha,hc⟩:=gk.mp (aAB T hT)
  unfold cov at hc
  cases ea:tells a with
  | true=>
   rw[ea]at hc
   simp at hc
   rw[mono T hT a (sub a ha) hc ea]at e;cases e
  | false=>
   rw[ea]at hc
   simp at hc
   exact⟨a,cx.mpr ⟨ha,by rw[ea];rfl⟩,hc⟩
 rw[V']
 constructor
 ·rintro⟨h1,h2⟩
  have h3:=cx.mp h1
  have hc:=sub c h3.1
  refine⟨⟨hc,by simpa using h3.2⟩,λy hy ey hp=>?_⟩
  obtain⟨a,ha,pa⟩:=low y hy ey
  have e:=h2 a ha (iD pa hp)
  rw[e]at pa
  exact uj (ri y hy) (ri c hc) hp pa
 ·rintro⟨⟨h1,h2⟩,h3⟩
  obtain⟨a,ha,pa⟩:=low c h1 h2
  have Ky:=cx.mp ha
  have e:=h3 a (sub a Ky.1) (by simpa using Ky.2) pa
  rw[e]at ha
  exact⟨ha,λy hy hp=>h3 y (sub y (cx.mp hy).1) (by simpa using (cx.mp hy).2) hp⟩
theorem Hs{tells:List Int->Bool}{ps as iy:List (List Int)}(mono:mX ps tells)(aAB:∀T∈ps,det tells as T=true)(sub:∀a∈as,a∈ps)(ri:∀a∈ps,eG a)(V9:∀x,x∈iy↔x∈as.filter tells/\∀y∈as.filter tells,aC x y=true->y=x)(c:List Int) :
  c∈iy↔(c∈ps/\tells c=true)/\∀y∈ps,tells y=true->aC c y=true->y=c:=by
 have low:∀T∈ps,tells T=true->∃a∈as.filter tells,aC T a=true:=λT hT e=>by
  obtain⟨a,ha,hc⟩:=gk.mp (aAB T hT)
  unfold cov at hc
  cases ea:tells a with
  | false=>
   rw[ea]at hc
   simp at hc
   rw[mono a (sub a ha) T hT hc e]at ea;cases ea
  | true=>
   rw[ea]at hc
   simp at hc
   exact⟨a,cx.mpr ⟨ha,ea⟩,hc⟩
 rw[V9]
 constructor
 ·rintro⟨h1,h2⟩
  have h3:=cx.mp h1
  have hc:=sub c h3.1
  refine⟨⟨hc,h3.2⟩,λy hy ey hp=>?_⟩
  obtain⟨a,ha,pa⟩:=low y hy ey
  have e:=h2 a ha (iD hp pa)
  rw[e]at pa
  exact uj (ri y hy) (ri c hc) pa hp
 ·rintro⟨⟨h1,h2⟩,h3⟩
  obtain⟨a,ha,pa⟩:=low c h1 h2
  have Ky:=cx.mp ha
  have e:=h3 a (sub a Ky.1) Ky.2 pa
  rw[e]at ha
  exact⟨ha,λy hy hp=>h3 y (sub y (cx.mp hy).1) (cx.mp hy).2 hp⟩
theorem Di{tells:List Int->Bool}{x:List Int}(rx:eG x)(mono:mX (cB x) tells){c:List Int}(hc:c∈cB x):Pj tells x c=true↔tells c=true/\∀y∈cB x,tells y=true->aC c y=true->y=c:=by
 have sc:=lH.mp hc
 have Yp:∀m,tF x c m∈cB x:=λm=>lH.mpr Ah
 have Jx:∀m z,z∈tF x c m↔z∈x/\(z∈c\/z=m):=λm z=>by unfold tF;rw[cx];simp
 unfold Pj
 rw[dv,Gj]
 refine and_congr_right λht=>⟨λh y hy ty hp=>?_,λh=>?_⟩
 ·refine Ao λne=>?_
  have sy:=lH.mp hy
  obtain⟨m,hm,nm⟩:∃m,m∈y/\m∉c:=by
   refine Ao λz=>ne ?_
   have:aC y c=true:=bH.mpr λm hm=>Ao λnm=>z ⟨m,hm,nm⟩
   exact(uj (rx.sublist sc) (rx.sublist sy) hp this).symm
  have t1:tells (tF x c m)=true:=mono _ (Yp m) y hy (bH.mpr λz hz=>by
   rcases((Jx m z).mp hz).2 with h1 | h1
   ·exact bH.mp hp z h1
   ·rw[h1];exact hm) ty
  have:((cH x c).map (tF x c)).any tells=true:=gk.mpr ⟨_,eU.mpr ⟨m,cx.mpr ⟨sy.subset hm,decide_eq_true nm⟩,rfl⟩,t1⟩
  rw[this]at h;cases h
 ·cases e:((cH x c).map (tF x c)).any tells with
  | false=>rfl
  | true=>
   obtain⟨y,hy,ty⟩:=gk.mp e
   obtain⟨m,hm,rfl⟩:=eU.mp hy
   obtain⟨m1,m2⟩:=cx.mp hm
   have e1:=h _ (Yp m) ty (bH.mpr λz hz=>(Jx m z).mpr ⟨sc.subset hz,.inl hz⟩)
   have:m∈c:=by rw[<-e1];exact(Jx m m).mpr ⟨m1,.inr rfl⟩
   exact absurd this (of_decide_eq_true m2)
local macro_rules | `(tactic| walk_at "rd") => `(tactic| walk_at "rc")
local macro_rules | `(tactic| walk_at "rl") => `(tactic| first | (refine er fun R hR => ?_) | walk_at "ry" | (refine Nx.to (by assumption) _ _ ?_))
def JW(K:PySem.W.Frag)(pT pS:Addr):Sp:=λvs H Q _=>∃(a:Addr) (ns:List Int),vs=[.ref a]/\rE K H a (List.map V.int ns)/\ns.length<=63/\H pT=some (.qF #[])/\H pS=some (.qF #[])/\pT≠pS/\∀H',Q (.bl true) H'
section
variable {P:Program}{w:World}{K:PySem.W.Frag}{mg:Str->Option Value}{base:Heap}{t:vL}
theorem ZM(T:Txt K mg t){c pT c1 pS:Addr}(kh:t.K3.code=.ref c)(hC:PySem.W.CodeHd base c pT)(aAu:t.lU.code=.ref c1)(hC1:PySem.W.CodeHd base c1 pS)(hB:BMain mg base):bX P w K mg base gi 20 t.TK t.K3 ["_law_script"] (JW K pT pS):=by
 have bu:=vV (P:=P) (w:=w) (base:=base) T
 have FQ:=V6 (P:=P) (w:=w) (base:=base) T
 have xU:=Hz (P:=P) (w:=w) (base:=base) T
 have vn:=Kk (P:=P) (w:=w) (base:=base) T
 have CN:=Rl (P:=P) (w:=w) (base:=base) T
 have eR:=sG (P:=P) (w:=w) (base:=base) T
 have CP:=Mz (P:=P) (w:=w) (base:=base) T
 have vJ:=MF (P:=P) (w:=w) (base:=base) T
 have pZ:=MJ (P:=P) (w:=w) (base:=base) T
 have Oa:=Hy (P:=P) (w:=w) (base:=base) T aAu hC1 hB
 refine T.aCn.aBq uf (λvs H Q E h=>?_) (λdc A outer s H vs Q E hcv hr h hc hf=>?_)
 ·obtain⟨a,ns,rfl,_⟩:=h;rfl
 obtain⟨a,ns,rfl,hS,h63,hT,hTs,hTS,q⟩:=h
 have yw:dc=.ref c:=by rw[<-hcv];exact kh
 have hu:=kg hr
 have Nk:=hr.gd
 refine⟨_,(by apply aq;exact(aP hc uf.nd hf 1 (by decide +kernel) (aF FQ (hr.mono (by omega)) (cK hc) T.Em T.vq.kp T.FH .nil aY (ae (aj hc 0) ah)));apply aq;exact(aP hc uf.nd hf 2 (by decide +kernel) (aF xU (hr.mono (by omega)) (cK hc) T.xt T.oW.kp T.xP .nil aY (ae (aj hc 1) (ae ao ah))));apply aq;exact(aP hc uf.nd hf 3 (by decide +kernel) (aF CN (hr.mono (by omega)) (cK hc) T.BL T.tJ.kp T.Cv .nil aY (ae (aj hc 1) (ae (aj hc 2) ah))));apply aq;exact(O0 (fr:=bZ) hc uf.nd hf 4 (by decide +kernel) yw hC hB rfl (by decide +kernel) (by decide +kernel) rfl rfl rfl);apply aq;exact(aP hc uf.nd hf 5 (by decide +kernel) (yO (xs:=[(3,"_law_model_here")]) (cells:=cellsFrom (s.heap.objs.size+1) (ag oi).names []) (EH:=λ_=>E0) rfl Oa.toE (hr.mono (by omega)) (cK hc) T.M3 T.zR.kp T.N6 RG hf (RZ hc (by decide +kernel)) (ae (aj hc 2) (ae (aj hc 4) ah))));apply aq;exact(cO (m8 (qj (dR (bY (aW jC (cK hc) T.z_isinstance fV (ae (aj hc 5) (ae (lF (v:=V.ty "tuple") (cK hc) T.z_tuple ko rfl) ah))))) (qj (bO Xv (aW iL (cK hc) T.z_len tj (ae (aj hc 5) ah)) ao (dA _)) (oX (dR (bY (aW jC (cK hc) T.z_isinstance fV (ae (bQ vz (aj hc 5) ao (λ_ _=>rfl)) (ae (lF (v:=V.ty "list") (cK hc) T.z_list Ju rfl) ah))))))))) (by exact aA (aS jF)) bI);apply aq;exact(cO (dR (bY (aF pZ (hr.mono (by omega)) (cK hc) T.pP T.lj.kp T.pW .nil aY (ae (bQ vz (aj hc 5) ao (λ_ _=>rfl)) (ae (aF CP (hr.mono (by omega)) (cK hc) T.BM T.tK.kp T.Cw .nil aY (ae (aj hc 3) (ae (aj hc 2) ah))) ah))))) (by exact aA (aS jF)) bI);exact aA (aS (aF pZ (hr.mono (by omega)) (cK hc) T.pP T.lj.kp T.pW .nil aY (ae (bQ vz (aj hc 5) ao (λ_ _=>rfl)) (ae (aF vJ (hr.mono (by omega)) (cK hc) T.vy T.nq.kp T.vE .nil aY (ae (aj hc 3) (ae (aj hc 2) ah))) ah))))),?_⟩
 walk_at "r"
 refine⟨a,ns,rfl,hS,λh H1 s1 h0 hd=>?_⟩
 walk_at "r"
 refine⟨h,_,rfl,6,rfl,by decide,hd,λW x H4 d14 hW Yb lx rise=>?_⟩
 have Ud:=(d14.iF hd).yh Yb
 have Z1:x.Nodup:=rise.imp λh=>Int.ne_of_lt h
 walk_at "r"
 refine⟨h,W,rfl,d14.iF hd,x,Yb,by omega,Z1,λM md H6 d5 hM md6=>?_⟩
 have d15:=d14.trans d5
 have hTh:pT≠h:=az hT h0
 have hSh:pS≠h:=az hTs h0
 have hT6:=d15.keep _ _ hTh (s1 _ _ hT)
 have hS6:=d15.keep _ _ hSh (s1 _ _ hTs)
 walk_at "r"
 refine⟨#[],hT6,trivial,rfl,λcl f c' oc De tq ctv doc rC uA inj hf0 hc0 hfc tN hq=>?_⟩
 generalize Ol:PySem.W.fnMade (Str.ofString "_law_ask") _ _ _ _ cl doc _ c' ctv=fo
 have Yn:p7 P w K mg base 8 f (P5 f c' fo oc cl M):=by rw[<-Ol];exact W7 T tN hq uA inj
 have ffo:∃fd,fo.data=.func fd:=by rw[<-Ol];exact⟨_,rfl⟩
 clear Ol hq tN inj
 generalize e7:made H6 pT _ c' oc f fo=H7
 have hfT:f≠pT:=(az hT6 hf0).symm
 have hcT:c'≠pT:=(az hT6 hc0).symm
 have at7:∀{b:Addr} {o:HO},H6 b=some o->b≠pT->H7 b=some o:=λ{b o} e nb=>by
  rw[<-e7];unfold made
  rw[au (az e hf0),au (az e hc0),au nb];exact e
 have hf7:H7 f=some (dQ fo):=by rw[<-e7];exact ai
 have hc7:H7 c'=some (dQ oc):=by rw[<-e7];unfold made;rw[au hfc.symm];exact ai
 clear e7
 have nT:∀{b:Addr} {o:HO},H6 b=some o->o≠.qF #[]->b≠pT:=λe n=>bh e hT6 n
 obtain⟨fd,hfd⟩:=ffo
 have hS7:H7 pS=some (.qF #[]):=at7 hS6 hTS.symm
 have hW6:=d5.keep _ _ Ud Yb
 have X9:H7 W=some (.tup (List.map V.int x)):=at7 hW6 (nT hW6 (by intro z;cases z))
 obtain⟨B,hBd⟩:∃B:Hp,∀b,B b=if b=pS then none else H7 b:=⟨_,λ_=>rfl⟩
 have hBS:B pS=none:=by rw[hBd];exact ay rfl
 have toB:∀{b:Addr} {o:HO},H7 b=some o->b≠pS->B b=some o:=λ{b o} e n2=>by rw[hBd,aE n2];exact e
 have ofB:∀b o,B b=some o->H7 b=some o:=λb o e=>by
  rw[hBd]at e
  by_cases z:b=pS
  ·rw[ay z]at e;cases e
  ·rw[aE z]at e;exact e
 have mdB:rk B M x md:=md6.move λb o e n _=>toB (at7 e (nT e (n _))) (bh e hS6 (n _))
 have hfB:B f=some (dQ fo):=toB hf7 (az hS6 hf0).symm
 have hcB:B c'=some (dQ oc):=toB hc7 (az hS6 hc0).symm
 obtain⟨dom,qQ⟩:∃dom:List Int->Prop,∀s,dom s↔s.Sublist x:=⟨_,λ_=>dY⟩
 have aEY:∀T,dom T->T.length<=100/\∀z∈T,z∈x:=λT hT=>⟨by have:=((qQ T).mp hT).length_le;omega,λz hz=>((qQ T).mp hT).subset hz⟩
 walk_at "r"
 refine⟨λq hq=>?_,λC ca po=>?_⟩
 ·rw[cG.mp hq];exact⟨_,rfl⟩
 have Td:CellsOk C cl bZ [.ref M]:=λj y hj=>by
  match j,hj with
  | 0,hj=>
   cases hj
   obtain⟨c1,o,u,v',h1,h2,h3,h4,h5⟩:=ca _ (cG.mpr rfl)
   obtain⟨c2,g1,g2⟩:=rC _ (cG.mpr rfl)
   have:c1=c2:=fw (h1.symm.trans g1)
   subst this
   cases h4
   exact⟨c1,o,u,_,g2,h2,h3,rfl,h5⟩
  | _+1,hj=>cases hj
 have ak:=Xb (P:=P) (w:=w) (base:=base) hfd Yn Td aEY hfB hcB mdB
 have sC:bP H7 (fJ C H7):=zQ po
 have hD0:aCq B C () (fJ C H7):=⟨λb o e=>sC _ _ (ofB b o e),dN.added⟩
 refine⟨W,f,rfl,_,_,_,_,_,_,dom,md.tells,(),x,#[],ak,hD0,λ_ _=>trivial,sC _ _ X9,rise,by omega,λT hT=>(qQ T).mpr hT,vW rise mdB,sC _ _ hS7,trivial,rfl,?_,λr H8 LC LP LA cs qs bs clashes iy as ps hr8 Kz sc WK sq hL3 sb hD8 k8 V' V9 pwc pwp aF6 FX tu Cz nda Py=>?_⟩
 ·rintro(⟨o,z⟩ | ⟨o,z⟩)
  ·rw[hBS]at z;cases z
  ·rw[po _ _ z]at hS7;cases hS7
 have pin:=hD8.2
 have out:∀{b:Addr} {o:HO},H8 b=some o->(∀o',o≠dQ o')->bD C H8 b=some o:=λe n=>by rw[aZ (pin.out e n)];exact e
 have k9:∀{b:Addr} {o:HO},H7 b=some o->(∀tb,o≠.qF tb)->(∀o',o≠dQ o')->bD C H8 b=some o:=λ{b o} e n1 n2=>out (k8 b o (λz=>z) (bh e hS7 (n1 _)) (sC _ _ e)) n2
 have hW8:bD C H8 W=some (.tup (List.map V.int x)):=k9 X9 (by intro o z;cases z) (by intro o z;cases z)
 have md9:rk (bD C H8) M x md:=mdB.move λb o e n1 n2=>k9 (ofB b o e) n1 n2
 have hr9:=out hr8 (by intro o z;cases z)
 have aBO:=out Kz (by intro o z;cases z)
 have aBN:=out WK (by intro o z;cases z)
 have aBM:=out hL3 (by intro o z;cases z)
 have sc9:aL (bD C H8) cs clashes:=sc.mono λb xs e=>out e (by intro o z;cases z)
 have sq9:aL (bD C H8) qs iy:=sq.mono λb xs e=>out e (by intro o z;cases z)
 dsimp only
 generalize bD C H8=H9 at hW8 md9 hr9 aBO aBN aBM sc9 sq9 ⊢
 clear sc sq sb Kz WK hL3 hr8 out k8 hD0 ak pin k9
 have aBe:∀{S:List Int},S∈ps↔S.Sublist x:=λ{S}=>by rw[FX];exact lH
 have riP:∀a∈ps,eG a:=λa ha=>rise.sublist (aBe.mp ha)
 have lnP:∀a∈ps,a.length<=6:=λa ha=>cQ (aBe.mp ha).length_le lx
 have Eg:mX ps md.tells:=λS hS T' hT'=>vW rise mdB S ((FX S).mp hS) T' ((FX T').mp hT')
 have Wf:as.length<=64:=by
  have h1:=dI nda λs hs=>(FX s).mp (Py s hs)
  rw[gI]at h1
  have h2:2 ^ x.length<=2 ^ 6:=tZ (by decide) lx
  omega
 have ndl:∀{l:List (List Int)},l.Pairwise (λa b=>bT a b=true)->l.Nodup:=λh=>h.imp λe z=>by rw[z,ig]at e;cases e
 have inC:∀{s:List Int},s∈clashes->s∈as:=λhs=>(cx.mp ((V' _).mp hs).1).1
 have inP:∀{s:List Int},s∈iy->s∈as:=λhs=>(cx.mp ((V9 _).mp hs).1).1
 have lcl:clashes.length<=64:=cQ (dI (ndl pwc) λs hs=>inC hs) Wf
 have lpe:iy.length<=64:=cQ (dI (ndl pwp) λs hs=>inP hs) Wf
 have lcs:=sc9.1
 have lqs:=sq9.1
 repeat (first | walk_at "rl" | simp only[hr9])
 refine⟨_,.tup hr9,true,oA _ _,?_⟩
 rw[aE (by decide),aE (by simp)]
 refine⟨_,.lst aBM,true,oA _ _,?_⟩
 rw[aE (by decide)]
 repeat (first | walk_at "rl" | simp only[hr9])
 refine⟨M,W,rfl,md,x,md9,hW8,lx,rise,λD1 TV ds1 L1 T5 Cg aEU sd1 Wa Ze=>?_⟩
 have ap:∀{fam:List (List Int)},(∀{s},s∈fam->s∈as)->∀s∈fam,eG s/\s.length<=900:=λh s hs=>⟨riP s (Py s (h hs)),by have:=lnP s (Py s (h hs));omega⟩
 have e1:L1=clashes:=SQ Ze pwc λc=>by
  rw[Wa c,Fx Eg Cz Py riP V' c,FX c]
  exact and_congr_right λ_=>⟨λh y hy=>h y ((FX y).mp hy),λh y hy=>h y ((FX y).mpr hy)⟩
 subst e1
 refine⟨LC,D1,rfl,cs,ds1,_,T5 _ _ aBO,aEU,sc9.mono λb xs e=>T5 _ _ e,sd1,by omega,ap inC,λH11 Ml=>⟨_,rfl,?_⟩⟩
 rw[aE (by decide)]
 have U9:=T5.trans Ml
 have aEB:=U9 _ _ hr9
 repeat (first | walk_at "rl" | simp only[aEB])
 refine⟨M,W,rfl,md,x,md9.same U9,U9 _ _ hW8,lx,rise,λD2 H12 ds2 ts Va Ce aAw sd2 Rw T6=>?_⟩
 have aA8:=U9.trans Va
 have e2:ts.filter (Pj md.tells x)=iy:=SQ (T6.filter _) pwp λc=>by
  rw[cx,Hs Eg Cz Py riP V9 c,FX c,Rw c]
  constructor
  ·rintro⟨h1,h2⟩
   obtain⟨h3,h4⟩:=(Di rise (vW rise mdB) h1).mp h2
   exact⟨⟨h1,h3⟩,λy hy=>h4 y ((FX y).mp hy)⟩
  ·rintro⟨⟨h1,h3⟩,h4⟩
   exact⟨h1,(Di rise (vW rise mdB) h1).mpr ⟨h3,λy hy=>h4 y ((FX y).mpr hy)⟩⟩
 rw[e2]at sd2
 exact⟨LP,D2,rfl,qs,ds2,_,aA8 _ _ aBN,aAw,sq9.mono λb xs e=>aA8 _ _ e,sd2,by omega,ap inP,λH13 s13=>q _⟩
end
local macro_rules | `(tactic| walk_at "rd") => `(tactic| walk_at "rc")
local macro_rules | `(tactic| walk_at "rl") => `(tactic| first | (refine er fun R hR => ?_) | walk_at "ry" | (refine Nx.to (by assumption) _ _ ?_))
theorem all_mk{l:PySem.W.OpenLaw}{w:World}{K:PySem.W.Frag}{h:Heap}{mg:Str->Option Value}{fa f0 f1 f2 f3 f4 f5 f6 f7 f8 f9 f10 f11 f12 f13 f14 f15 f16 f17 f18 f19 f20 f21 f22 f23 f24 f25 f26 f27 f28 f29:Addr}(X:K.In h)(G:h.Ns mainGlobals mg)(hfa:mg "law" = some (.ref fa))
  {od0 an0 od1 an1 od2 an2 od3 an3 od4 an4 od5 an5 od6 an6 od7 an7 od8 an8 od9 an9 aDD aFU aDC aFT aDB aFS aDA aFR aDz aFQ aDy aFP aDx aFO aDw aFN aDv aFM aDu aFL aDt aFK aDs aFJ aDr aFI aDq aFH aDp aFG aDo aFF aDn aFE aDm aFD aDl aFC aDk aCm:Option Addr} {sl0 sl1 Mf sl3 sl4 sl5 sl6 sl7 sl8 sl9 aCV aCU aCT aCS aCR aCQ aCP aCO aCN aCM aCL aCK aCJ aCI aCH aCG aCF aCE aCD aCC:Array (Option Value)} {oc0 kV0 dc0 pm0 cd0 ct0 oc1 kV1 dc1 pm1 cd1 ct1 oc2 kV2 dc2 pm2 cd2 ct2 oc3 kV3 dc3 pm3 cd3 ct3 oc4 kV4 dc4 pm4 cd4 ct4 oc5 kV5 dc5 pm5 cd5 ct5 oc6 kV6 dc6 pm6 cd6 ct6 oc7 kV7 dc7 pm7 cd7 ct7 oc8 kV8 dc8 pm8 cd8 ct8 oc9 kV9 dc9 pm9 cd9 ct9 aDY aEq aFh aDj aCg aFB aDX aEp aFg aDi aCf aFA aDW aEo aFf aDh aFz aDV aEn aFe aDg aCe aFy aDU aEm aFd aDf aCd aFx aDT aEk aFc aDe aCc aFw aDS aEj aFb aDd aCb aFv aDR aEi aFa aDc aCa aFu aDQ aEh aE9 aDb aB9 aFt aDP aEg aE8 aDa aB8 aFs aDO aEf aE7 aC9 aB7 aFr aDN aEe aE6 aC8 aB6 aFq aDM aEd aE5 aC7 aB5 aFp aDL aEc aE4 aC6 aB4 aFo aDK aEb aE3 aC5 aB3 aFn aDJ aEa aE2 aC4 aB2 aFm aDI aD9 aE1 aC3 aB1 aFl aDH aD8 aE0 aC2 aB0 aFk aDG aD7 aEZ aC1 aBZ aFj aDF aBw aBW aBg aBX:Value}
  {cC_law pT_law:Addr} (aAx:PySem.W.codeHdIn K cC_law pT_law=true)
  {cC_sounded pT_sounded:Addr} (IV:PySem.W.codeHdIn K cC_sounded pT_sounded=true)
  (a0:PySem.W.nsIn K mainGlobals "each_once_in_order" = some (some (.ref f0))) (l0:K.lookup f0=some ⟨oc0,od0,.func (PySem.W.fnOf "each_once_in_order" "each_once_in_order" (aT ck) (aN ck) (ag ck) .none kV0 dc0 pm0 an0 cd0 ct0),sl0⟩) (c0:PySem.W.codeIn K cd0 "each_once_in_order" = true) (k0:PySem.W.keepIn K (.ref f0)=true)
  (a1:PySem.W.nsIn K mainGlobals "order_of" = some (some (.ref f1))) (l1:K.lookup f1=some ⟨oc1,od1,.func (PySem.W.fnOf "order_of" "order_of" (aT ip) (aN ip) (ag ip) .none kV1 dc1 pm1 an1 cd1 ct1),sl1⟩) (c1:PySem.W.codeIn K cd1 "order_of" = true) (k1:PySem.W.keepIn K (.ref f1)=true)
  (a2:PySem.W.nsIn K mainGlobals "set_of" = some (some (.ref f2))) (l2:K.lookup f2=some ⟨oc2,od2,.func (PySem.W.fnOf "set_of" "set_of" (aT lJ) (aN lJ) (ag lJ) .none kV2 dc2 pm2 an2 cd2 ct2),Mf⟩) (c2:PySem.W.codeIn K cd2 "set_of" = true) (k2:PySem.W.keepIn K (.ref f2)=true)
  (a3:PySem.W.nsIn K mainGlobals "is_part" = some (some (.ref f3))) (l3:K.lookup f3=some ⟨oc3,od3,.func (PySem.W.fnOf "is_part" "is_part" (aT jB) (aN jB) (ag jB) .none kV3 dc3 pm3 an3 cd3 ct3),sl3⟩) (c3:PySem.W.codeIn K cd3 "is_part" = true) (k3:PySem.W.keepIn K (.ref f3)=true)
  (a4:PySem.W.nsIn K mainGlobals "in_order" = some (some (.ref f4))) (l4:K.lookup f4=some ⟨oc4,od4,.func (PySem.W.fnOf "in_order" "in_order" (aT iu) (aN iu) (ag iu) .none kV4 dc4 pm4 an4 cd4 ct4),sl4⟩) (c4:PySem.W.codeIn K cd4 "in_order" = true) (k4:PySem.W.keepIn K (.ref f4)=true)
  (a5:PySem.W.nsIn K mainGlobals "least_of" = some (some (.ref f5))) (l5:K.lookup f5=some ⟨oc5,od5,.func (PySem.W.fnOf "least_of" "least_of" (aT iq) (aN iq) (ag iq) .none kV5 dc5 pm5 an5 cd5 ct5),sl5⟩) (c5:PySem.W.codeIn K cd5 "least_of" = true) (k5:PySem.W.keepIn K (.ref f5)=true)
  (a6:PySem.W.nsIn K mainGlobals "greatest_of" = some (some (.ref f6))) (l6:K.lookup f6=some ⟨oc6,od6,.func (PySem.W.fnOf "greatest_of" "greatest_of" (aT fc) (aN fc) (ag fc) .none kV6 dc6 pm6 an6 cd6 ct6),sl6⟩) (c6:PySem.W.codeIn K cd6 "greatest_of" = true) (k6:PySem.W.keepIn K (.ref f6)=true)
  (a7:PySem.W.nsIn K mainGlobals "holds_one_of" = some (some (.ref f7))) (l7:K.lookup f7=some ⟨oc7,od7,.func (PySem.W.fnOf "holds_one_of" "holds_one_of" (aT eC) (aN eC) (ag eC) .none kV7 dc7 pm7 an7 cd7 ct7),sl7⟩) (c7:PySem.W.codeIn K cd7 "holds_one_of" = true) (k7:PySem.W.keepIn K (.ref f7)=true)
  (a8:PySem.W.nsIn K mainGlobals "lies_in_one_of" = some (some (.ref f8))) (l8:K.lookup f8=some ⟨oc8,od8,.func (PySem.W.fnOf "lies_in_one_of" "lies_in_one_of" (aT di) (aN di) (ag di) .none kV8 dc8 pm8 an8 cd8 ct8),sl8⟩) (c8:PySem.W.codeIn K cd8 "lies_in_one_of" = true) (k8:PySem.W.keepIn K (.ref f8)=true)
  (a9:PySem.W.nsIn K mainGlobals "rest_of" = some (some (.ref f9))) (l9:K.lookup f9=some ⟨oc9,od9,.func (PySem.W.fnOf "rest_of" "rest_of" (aT jA) (aN jA) (ag jA) .none kV9 dc9 pm9 an9 cd9 ct9),sl9⟩) (c9:PySem.W.codeIn K cd9 "rest_of" = true) (k9:PySem.W.keepIn K (.ref f9)=true)
  (a10:PySem.W.nsIn K mainGlobals "parts_of" = some (some (.ref f10))) (l10:K.lookup f10=some ⟨aDY,aDD,.func (PySem.W.fnOf "parts_of" "parts_of" (aT il) (aN il) (ag il) .none aEq aFh aDj aFU aCg aFB),aCV⟩) (c10:PySem.W.codeIn K aCg "parts_of" = true) (k10:PySem.W.keepIn K (.ref f10)=true)
  (a11:PySem.W.nsIn K mainGlobals "grown" = some (some (.ref f11))) (l11:K.lookup f11=some ⟨aDX,aDC,.func (PySem.W.fnOf "grown" "grown" (aT o7) (aN o7) (ag o7) .none aEp aFg aDi aFT aCf aFA),aCU⟩) (c11:PySem.W.codeIn K aCf "grown" = true) (k11:PySem.W.keepIn K (.ref f11)=true)
  (a12:PySem.W.nsIn K mainGlobals "sounded" = some (some (.ref f12))) (l12:K.lookup f12=some ⟨aDW,aDB,.func (PySem.W.fnOf "sounded" "sounded" (aT bV) (aN bV) (ag bV) .none aEo aFf aDh aFS (.ref cC_sounded) aFz),aCT⟩) (c12:PySem.W.codeIn K (.ref cC_sounded) "sounded" = true) (k12:PySem.W.keepIn K (.ref f12)=true)
  (a13:PySem.W.nsIn K mainGlobals "_law_hand" = some (some (.ref f13))) (l13:K.lookup f13=some ⟨aDV,aDA,.func (PySem.W.fnOf "_law_hand" "_law_hand" (aT gM) (aN gM) (ag gM) .none aEn aFe aDg aFR aCe aFy),aCS⟩) (c13:PySem.W.codeIn K aCe "_law_hand" = true) (k13:PySem.W.keepIn K (.ref f13)=true)
  (a14:PySem.W.nsIn K mainGlobals "_law_next" = some (some (.ref f14))) (l14:K.lookup f14=some ⟨aDU,aDz,.func (PySem.W.fnOf "_law_next" "_law_next" (aT gL) (aN gL) (ag gL) .none aEm aFd aDf aFQ aCd aFx),aCR⟩) (c14:PySem.W.codeIn K aCd "_law_next" = true) (k14:PySem.W.keepIn K (.ref f14)=true)
  (a15:PySem.W.nsIn K mainGlobals "_law_take" = some (some (.ref f15))) (l15:K.lookup f15=some ⟨aDT,aDy,.func (PySem.W.fnOf "_law_take" "_law_take" (aT gJ) (aN gJ) (ag gJ) .none aEk aFc aDe aFP aCc aFw),aCQ⟩) (c15:PySem.W.codeIn K aCc "_law_take" = true) (k15:PySem.W.keepIn K (.ref f15)=true)
  (a16:PySem.W.nsIn K mainGlobals "_law_draw" = some (some (.ref f16))) (l16:K.lookup f16=some ⟨aDS,aDx,.func (PySem.W.fnOf "_law_draw" "_law_draw" (aT gN) (aN gN) (ag gN) .none aEj aFb aDd aFO aCb aFv),aCP⟩) (c16:PySem.W.codeIn K aCb "_law_draw" = true) (k16:PySem.W.keepIn K (.ref f16)=true)
  (a17:PySem.W.nsIn K mainGlobals "_law_is_within" = some (some (.ref f17))) (l17:K.lookup f17=some ⟨aDR,aDw,.func (PySem.W.fnOf "_law_is_within" "_law_is_within" (aT dj) (aN dj) (ag dj) .none aEi aFa aDc aFN aCa aFu),aCO⟩) (c17:PySem.W.codeIn K aCa "_law_is_within" = true) (k17:PySem.W.keepIn K (.ref f17)=true)
  (a18:PySem.W.nsIn K mainGlobals "_law_is_whole" = some (some (.ref f18))) (l18:K.lookup f18=some ⟨aDQ,aDv,.func (PySem.W.fnOf "_law_is_whole" "_law_is_whole" (aT dB) (aN dB) (ag dB) .none aEh aE9 aDb aFM aB9 aFt),aCN⟩) (c18:PySem.W.codeIn K aB9 "_law_is_whole" = true) (k18:PySem.W.keepIn K (.ref f18)=true)
  (a19:PySem.W.nsIn K mainGlobals "_law_is_set" = some (some (.ref f19))) (l19:K.lookup f19=some ⟨aDP,aDu,.func (PySem.W.fnOf "_law_is_set" "_law_is_set" (aT fh) (aN fh) (ag fh) .none aEg aE8 aDa aFL aB8 aFs),aCM⟩) (c19:PySem.W.codeIn K aB8 "_law_is_set" = true) (k19:PySem.W.keepIn K (.ref f19)=true)
  (a20:PySem.W.nsIn K mainGlobals "_law_members" = some (some (.ref f20))) (l20:K.lookup f20=some ⟨aDO,aDt,.func (PySem.W.fnOf "_law_members" "_law_members" (aT eD) (aN eD) (ag eD) .none aEf aE7 aC9 aFK aB7 aFr),aCL⟩) (c20:PySem.W.codeIn K aB7 "_law_members" = true) (k20:PySem.W.keepIn K (.ref f20)=true)
  (a21:PySem.W.nsIn K mainGlobals "_law_some" = some (some (.ref f21))) (l21:K.lookup f21=some ⟨aDN,aDs,.func (PySem.W.fnOf "_law_some" "_law_some" (aT gK) (aN gK) (ag gK) .none aEe aE6 aC8 aFJ aB6 aFq),aCK⟩) (c21:PySem.W.codeIn K aB6 "_law_some" = true) (k21:PySem.W.keepIn K (.ref f21)=true)
  (a22:PySem.W.nsIn K mainGlobals "_law_model" = some (some (.ref f22))) (l22:K.lookup f22=some ⟨aDM,aDr,.func (PySem.W.fnOf "_law_model" "_law_model" (aT fS) (aN fS) (ag fS) .none aEd aE5 aC7 aFI aB5 aFp),aCJ⟩) (c22:PySem.W.codeIn K aB5 "_law_model" = true) (k22:PySem.W.keepIn K (.ref f22)=true)
  (a23:PySem.W.nsIn K mainGlobals "_law_tells" = some (some (.ref f23))) (l23:K.lookup f23=some ⟨aDL,aDq,.func (PySem.W.fnOf "_law_tells" "_law_tells" (aT fP) (aN fP) (ag fP) .none aEc aE4 aC6 aFH aB4 aFo),aCI⟩) (c23:PySem.W.codeIn K aB4 "_law_tells" = true) (k23:PySem.W.keepIn K (.ref f23)=true)
  (a24:PySem.W.nsIn K mainGlobals "_law_in_order" = some (some (.ref f24))) (l24:K.lookup f24=some ⟨aDK,aDp,.func (PySem.W.fnOf "_law_in_order" "_law_in_order" (aT dC) (aN dC) (ag dC) .none aEb aE3 aC5 aFG aB3 aFn),aCH⟩) (c24:PySem.W.codeIn K aB3 "_law_in_order" = true) (k24:PySem.W.keepIn K (.ref f24)=true)
  (a25:PySem.W.nsIn K mainGlobals "_law_parts" = some (some (.ref f25))) (l25:K.lookup f25=some ⟨aDJ,aDo,.func (PySem.W.fnOf "_law_parts" "_law_parts" (aT fQ) (aN fQ) (ag fQ) .none aEa aE2 aC4 aFF aB2 aFm),aCG⟩) (c25:PySem.W.codeIn K aB2 "_law_parts" = true) (k25:PySem.W.keepIn K (.ref f25)=true)
  (a26:PySem.W.nsIn K mainGlobals "_law_family" = some (some (.ref f26))) (l26:K.lookup f26=some ⟨aDI,aDn,.func (PySem.W.fnOf "_law_family" "_law_family" (aT fi) (aN fi) (ag fi) .none aD9 aE1 aC3 aFE aB1 aFl),aCF⟩) (c26:PySem.W.codeIn K aB1 "_law_family" = true) (k26:PySem.W.keepIn K (.ref f26)=true)
  (a27:PySem.W.nsIn K mainGlobals "_law_least" = some (some (.ref f27))) (l27:K.lookup f27=some ⟨aDH,aDm,.func (PySem.W.fnOf "_law_least" "_law_least" (aT fT) (aN fT) (ag fT) .none aD8 aE0 aC2 aFD aB0 aFk),aCE⟩) (c27:PySem.W.codeIn K aB0 "_law_least" = true) (k27:PySem.W.keepIn K (.ref f27)=true)
  (a28:PySem.W.nsIn K mainGlobals "_law_greatest" = some (some (.ref f28))) (l28:K.lookup f28=some ⟨aDG,aDl,.func (PySem.W.fnOf "_law_greatest" "_law_greatest" (aT dD) (aN dD) (ag dD) .none aD7 aEZ aC1 aFC aBZ aFj),aCD⟩) (c28:PySem.W.codeIn K aBZ "_law_greatest" = true) (k28:PySem.W.keepIn K (.ref f28)=true)
  (a29:PySem.W.nsIn K mainGlobals "law" = some (some (.ref f29))) (l29:K.lookup f29=some ⟨aDF,aDk,.func (PySem.W.fnOf "law" "law" (aT oi) (aN oi) (ag oi) .none aBw aBW aBg aCm (.ref cC_law) aBX),aCC⟩) (c29:PySem.W.codeIn K (.ref cC_law) "law" = true) (k29:PySem.W.keepIn K (.ref f29)=true)
  (z_abs:PySem.W.nsIn K mainGlobals "abs" = some none)
  (z_all:PySem.W.nsIn K mainGlobals "all" = some none)
  (z_any:PySem.W.nsIn K mainGlobals "any" = some none)
  (z_bool:PySem.W.nsIn K mainGlobals "bool" = some none)
  (z_int:PySem.W.nsIn K mainGlobals "int" = some none)
  (z_isinstance:PySem.W.nsIn K mainGlobals "isinstance" = some none)
  (z_len:PySem.W.nsIn K mainGlobals "len" = some none)
  (z_list:PySem.W.nsIn K mainGlobals "list" = some none)
  (z_range:PySem.W.nsIn K mainGlobals "range" = some none)
  (z_reversed:PySem.W.nsIn K mainGlobals "reversed" = some none)
  (z_set:PySem.W.nsIn K mainGlobals "set" = some none)
  (z_sorted:PySem.W.nsIn K mainGlobals "sorted" = some none)
  (z_sum:PySem.W.nsIn K mainGlobals "sum" = some none)
  (z_tuple:PySem.W.nsIn K mainGlobals "tuple" = some none)
  (cx7:PySem.W.specialIn K (.builtin "object.__class__") "__get__" = some (some (.builtin "getset_descriptor.__get__"))) (cx8:PySem.W.takesIn K (.builtin "object.__class__")=some true)
  {aR bp:Addr}
  {bB:Addr} {Ew Fd:Option Addr} {Es:Array (Option Value)} {Ex EY Fb Eu vf Fc:Value}
  (am_TruceError:PySem.W.nsIn K mainGlobals "TruceError" = some (some (.ref aR))) (x1_TruceError:wO K aR=true) (x2_TruceError:PySem.W.hasDictIn K aR=true) (x3_TruceError:PySem.W.findIn K (.ref aR) "__setattr__" = some (some (.builtin "object.__setattr__"))) (x4_TruceError:PySem.W.findIn K (.ref aR) "__getattribute__" = some (some (.builtin "BaseException.__getattribute__"))) (x5_TruceError:PySem.W.findIn K (.ref aR) "__getattr__" = some none) (x6_TruceError:PySem.W.findIn K (.ref aR) "__class__" = some (some (.builtin "object.__class__"))) (x9_TruceError:PySem.W.mroIn K aR (.type "object")=some true)
  (am_NoPeace:PySem.W.nsIn K mainGlobals "NoPeace" = some (some (.ref bp))) (x1_NoPeace:wO K bp=true) (x2_NoPeace:PySem.W.hasDictIn K bp=true) (x3_NoPeace:PySem.W.findIn K (.ref bp) "__setattr__" = some (some (.builtin "object.__setattr__"))) (x4_NoPeace:PySem.W.findIn K (.ref bp) "__getattribute__" = some (some (.builtin "BaseException.__getattribute__"))) (x5_NoPeace:PySem.W.findIn K (.ref bp) "__getattr__" = some none) (x6_NoPeace:PySem.W.findIn K (.ref bp) "__class__" = some (some (.builtin "object.__class__"))) (x9_NoPeace:PySem.W.mroIn K bp (.type "object")=some true)
  (kc_TruceError:PySem.W.keepIn K (.ref aR)=true)
  (ii_TruceError:PySem.W.findIn K (.ref aR) "__init__" = some (some (.builtin "ValueError.__init__")))
  (rd_TruceError:PySem.W.readsIn K aR (.type "type")=true)
  (fc_TruceError:PySem.W.findCls K (.ref aR) (.type "type") "__init__" = some (.val (.builtin "ValueError.__init__")))
  (sg_TruceError:PySem.W.specialIn K (.ref aR) "__getattribute__" = some (some (.builtin "type.__getattribute__")))
  (kc_NoPeace:PySem.W.keepIn K (.ref bp)=true)
  (il_NoPeace:K.lookup bB=some ⟨Ex,Ew,.func (PySem.W.fnOf "__init__" "NoPeace.__init__" (aT cF) (aN cF) (ag cF) .none EY Fb Eu Fd vf Fc),Es⟩) (ic_NoPeace:PySem.W.codeIn K vf "NoPeace.__init__" = true) (ik_NoPeace:PySem.W.keepIn K (.ref bB)=true)
  (ii_NoPeace:PySem.W.findIn K (.ref bp) "__init__" = some (some (.ref bB)))
  (if_NoPeace:PySem.W.typeIn K (.ref bB)=some (.type "function"))
  (tk_NoPeace:PySem.W.takerIn K bp "part" = some none)
  (nf_NoPeace:PySem.W.findIn K (.ref bp) "part" = some none)
  {aB:Addr} {bE:Addr} {cq:Addr} {cu:Addr}
  (pm_Sounding:PySem.W.nsIn K mainGlobals "Sounding" = some (some (.ref aB)))
  (p1_Sounding:PySem.W.plainGet K aB Str.empty=true)
  (p2_Sounding:PySem.W.hasDictIn K aB=true)
  (p3_Sounding:PySem.W.plainOver K aB=true)
  (p4_Sounding:PySem.W.findIn K (.ref aB) "__setattr__" = some (some (.builtin "object.__setattr__")))
  (pn_Sounding_ask:PySem.W.findIn K (.ref aB) "ask" = some none)
  (pn_Sounding_askings:PySem.W.findIn K (.ref aB) "askings" = some none)
  (pn_Sounding_known:PySem.W.findIn K (.ref aB) "known" = some none)
  (pn_Sounding_unknown:PySem.W.findIn K (.ref aB) "unknown" = some none)
  (q1_Sounding:PySem.W.makesIn K aB=true)
  (q2_Sounding:PySem.W.findIn K (.ref aB) "__init__" = some (some (.ref bE)))
  (q3_Sounding:PySem.W.isFn K (.ref bE)=true)
  (q4_Sounding:PySem.W.keepIn K (.ref aB)=true)
  {nv nE:Option Addr} {nr:Array (Option Value)} {ny nA nB nu hV nC:Value}
  (pl_Sounding___init__:K.lookup bE=some ⟨ny,nv,.func (PySem.W.fnOf "__init__" "Sounding.__init__" (aT cA) (aN cA) (ag cA) .none nA nB nu nE hV nC),nr⟩)
  (pc_Sounding___init__:PySem.W.codeIn K hV "Sounding.__init__" = true)
  (pk_Sounding___init__:PySem.W.keepIn K (.ref bE)=true)
  (r1_Sounding_tells:PySem.W.findIn K (.ref aB) "tells" = some (some (.ref cq)))
  (r2_Sounding_tells:PySem.W.isFn K (.ref cq)=true)
  {qt qD:Option Addr} {qm:Array (Option Value)} {qv qx qz qp jG qB:Value}
  (pl_Sounding_tells:K.lookup cq=some ⟨qv,qt,.func (PySem.W.fnOf "tells" "Sounding.tells" (aT dk) (aN dk) (ag dk) .none qx qz qp qD jG qB),qm⟩)
  (pc_Sounding_tells:PySem.W.codeIn K jG "Sounding.tells" = true)
  (pk_Sounding_tells:PySem.W.keepIn K (.ref cq)=true)
  (r1_Sounding_learn:PySem.W.findIn K (.ref aB) "learn" = some (some (.ref cu)))
  (r2_Sounding_learn:PySem.W.isFn K (.ref cu)=true)
  {qu qE:Option Addr} {qo:Array (Option Value)} {qw qy qA qq jH qC:Value}
  (pl_Sounding_learn:K.lookup cu=some ⟨qw,qu,.func (PySem.W.fnOf "learn" "Sounding.learn" (aT dm) (aN dm) (ag dm) .none qy qA qq qE jH qC),qo⟩)
  (pc_Sounding_learn:PySem.W.codeIn K jH "Sounding.learn" = true)
  (pk_Sounding_learn:PySem.W.keepIn K (.ref cu)=true)
  : ∃fd:FuncData,(∀(s:Shared) (v:Value),BindsTo s fd ⟨[v],[]⟩ [("_law_script",v)])/\∀base:Heap,K.In base->base.Ns mainGlobals mg->BMain mg base->bX l.prog w K mg base gi 20 fa fd ["_law_script"] (JW K pT_law pT_sounded):=by
 have e:=hfa.symm.trans (cR X G a29)
 cases e
 have F0:=bM (st:=ck) l0 c0 k0
 have b0:=F0.binds (ps:=["tuples"]) λ_ _ _ _ _ _=>HF λ_=>rfl
 have F1:=bM (st:=ip) l1 c1 k1
 have b1:=F1.binds (ps:=["one"]) λ_ _ _ _ _ _=>HF λ_=>rfl
 have F2:=bM (st:=lJ) l2 c2 k2
 have b2:=F2.binds (ps:=["numbers"]) λ_ _ _ _ _ _=>HF λ_=>rfl
 have F3:=bM (st:=jB) l3 c3 k3
 have b3:=F3.binds (ps:=["one","other"]) λ_ _ _ _ _ _=>of2 λ_ _=>rfl
 have F4:=bM (st:=iu) l4 c4 k4
 have b4:=F4.binds (ps:=["family"]) λ_ _ _ _ _ _=>HF λ_=>rfl
 have F5:=bM (st:=iq) l5 c5 k5
 have b5:=F5.binds (ps:=["family"]) λ_ _ _ _ _ _=>HF λ_=>rfl
 have F6:=bM (st:=fc) l6 c6 k6
 have b6:=F6.binds (ps:=["family"]) λ_ _ _ _ _ _=>HF λ_=>rfl
 have F7:=bM (st:=eC) l7 c7 k7
 have b7:=F7.binds (ps:=["part","family"]) λ_ _ _ _ _ _=>of2 λ_ _=>rfl
 have F8:=bM (st:=di) l8 c8 k8
 have b8:=F8.binds (ps:=["part","family"]) λ_ _ _ _ _ _=>of2 λ_ _=>rfl
 have F9:=bM (st:=jA) l9 c9 k9
 have b9:=F9.binds (ps:=["whole","part"]) λ_ _ _ _ _ _=>of2 λ_ _=>rfl
 have F10:=bM (st:=il) l10 c10 k10
 have b10:=F10.binds (ps:=["whole"]) λ_ _ _ _ _ _=>HF λ_=>rfl
 have F11:=bM (st:=o7) l11 c11 k11
 have b11:=F11.binds (ps:=["whole","ask","part"]) λ_ _ _ _ _ _=>of3 λ_ _ _=>rfl
 have F12:=bM (st:=bV) l12 c12 k12
 have b12:=F12.binds (ps:=["whole","ask"]) λ_ _ _ _ _ _=>of2 λ_ _=>rfl
 have F13:=bM (st:=gM) l13 c13 k13
 have b13:=F13.binds (ps:=["_law_script"]) λ_ _ _ _ _ _=>HF λ_=>rfl
 have F14:=bM (st:=gL) l14 c14 k14
 have b14:=F14.binds (ps:=["_law_hand_here"]) λ_ _ _ _ _ _=>HF λ_=>rfl
 have F15:=bM (st:=gJ) l15 c15 k15
 have b15:=F15.binds (ps:=["_law_hand_here"]) λ_ _ _ _ _ _=>HF λ_=>rfl
 have F16:=bM (st:=gN) l16 c16 k16
 have b16:=F16.binds (ps:=["_law_hand_here","_law_many"]) λ_ _ _ _ _ _=>of2 λ_ _=>rfl
 have F17:=bM (st:=dj) l17 c17 k17
 have b17:=F17.binds (ps:=["_law_one","_law_other"]) λ_ _ _ _ _ _=>of2 λ_ _=>rfl
 have F18:=bM (st:=dB) l18 c18 k18
 have b18:=F18.binds (ps:=["_law_thing"]) λ_ _ _ _ _ _=>HF λ_=>rfl
 have F19:=bM (st:=fh) l19 c19 k19
 have b19:=F19.binds (ps:=["_law_thing"]) λ_ _ _ _ _ _=>HF λ_=>rfl
 have F20:=bM (st:=eD) l20 c20 k20
 have b20:=F20.binds (ps:=["_law_hand_here","_law_most"]) λ_ _ _ _ _ _=>of2 λ_ _=>rfl
 have F21:=bM (st:=gK) l21 c21 k21
 have b21:=F21.binds (ps:=["_law_hand_here","_law_whole"]) λ_ _ _ _ _ _=>of2 λ_ _=>rfl
 have F22:=bM (st:=fS) l22 c22 k22
 have b22:=F22.binds (ps:=["_law_hand_here","_law_whole"]) λ_ _ _ _ _ _=>of2 λ_ _=>rfl
 have F23:=bM (st:=fP) l23 c23 k23
 have b23:=F23.binds (ps:=["_law_model_here","_law_part"]) λ_ _ _ _ _ _=>of2 λ_ _=>rfl
 have F24:=bM (st:=dC) l24 c24 k24
 have b24:=F24.binds (ps:=["_law_sets"]) λ_ _ _ _ _ _=>HF λ_=>rfl
 have F25:=bM (st:=fQ) l25 c25 k25
 have b25:=F25.binds (ps:=["_law_whole"]) λ_ _ _ _ _ _=>HF λ_=>rfl
 have F26:=bM (st:=fi) l26 c26 k26
 have b26:=F26.binds (ps:=["_law_told","_law_due"]) λ_ _ _ _ _ _=>of2 λ_ _=>rfl
 have F27:=bM (st:=fT) l27 c27 k27
 have b27:=F27.binds (ps:=["_law_model_here","_law_whole"]) λ_ _ _ _ _ _=>of2 λ_ _=>rfl
 have F28:=bM (st:=dD) l28 c28 k28
 have b28:=F28.binds (ps:=["_law_model_here","_law_whole"]) λ_ _ _ _ _ _=>of2 λ_ _=>rfl
 have F29:=bM (st:=oi) l29 c29 k29
 have b29:=F29.binds (ps:=["_law_script"]) λ_ _ _ _ _ _=>HF λ_=>rfl
 have xS:=bM (st:=cF) il_NoPeace ic_NoPeace ik_NoPeace
 have JD:=xS.binds (ps:=cW) λ_ _ _ _ _ _=>of2 λ_ _=>rfl
 have je:=bM (st:=cA) pl_Sounding___init__ pc_Sounding___init__ pk_Sounding___init__
 have oR:=je.binds (ps:=["self","ask","parts"]) λ_ _ _ _ _ _=>of3 λ_ _ _=>rfl
 have kz:=bM (st:=dk) pl_Sounding_tells pc_Sounding_tells pk_Sounding_tells
 have tH:=kz.binds (ps:=["self","part"]) λ_ _ _ _ _ _=>of2 λ_ _=>rfl
 have kB:=bM (st:=dm) pl_Sounding_learn pc_Sounding_learn pk_Sounding_learn
 have tI:=kB.binds (ps:=["self","part","peaceful"]) λ_ _ _ _ _ _=>of3 λ_ _ _=>rfl
 have T:Txt K mg ⟨_,_,_,_,_,_,_,_,_,_,_,_,_,_,_,_,_,_,_,_,_,_,_,_,_,_,_,_,_,_,_,_,_,_,_,_,_,_,_,_,_,_,_,_,_,_,_,_,_,_,_,_,_,_,_,_,_,_,_,_,_,_,_,_,_,_,_,_,_,_,_⟩:=⟨F0,b0,cR X G a0,F1,b1,cR X G a1,F2,b2,cR X G a2,F3,b3,cR X G a3,F4,b4,cR X G a4,F5,b5,cR X G a5,F6,b6,cR X G a6,F7,b7,cR X G a7,F8,b8,cR X G a8,F9,b9,cR X G a9,F10,b10,cR X G a10,F11,b11,cR X G a11,F12,b12,cR X G a12,F13,b13,cR X G a13,F14,b14,cR X G a14,F15,b15,cR X G a15,F16,b16,cR X G a16,F17,b17,cR X G a17,F18,b18,cR X G a18,F19,b19,cR X G a19,F20,b20,cR X G a20,F21,b21,cR X G a21,F22,b22,cR X G a22,F23,b23,cR X G a23,F24,b24,cR X G a24,F25,b25,cR X G a25,F26,b26,cR X G a26,F27,b27,cR X G a27,F28,b28,cR X G a28,F29,b29,cR X G a29,j4 X G z_abs,j4 X G z_all,j4 X G z_any,j4 X G z_bool,j4 X G z_int,j4 X G z_isinstance,j4 X G z_len,j4 X G z_list,j4 X G z_range,j4 X G z_reversed,j4 X G z_set,j4 X G z_sorted,j4 X G z_sum,j4 X G z_tuple,cR X G am_TruceError,⟨x1_TruceError,x2_TruceError,x3_TruceError,x4_TruceError,x5_TruceError,x6_TruceError,cx7,cx8,x9_TruceError⟩,kc_TruceError,ii_TruceError,rd_TruceError,fc_TruceError,sg_TruceError,cR X G am_NoPeace,⟨x1_NoPeace,x2_NoPeace,x3_NoPeace,x4_NoPeace,x5_NoPeace,x6_NoPeace,cx7,cx8,x9_NoPeace⟩,kc_NoPeace,xS,JD,ii_NoPeace,if_NoPeace,tk_NoPeace,nf_NoPeace,cR X G pm_Sounding,⟨p1_Sounding,p2_Sounding,p3_Sounding,p4_Sounding⟩,pn_Sounding_ask,pn_Sounding_askings,pn_Sounding_known,pn_Sounding_unknown,⟨q1_Sounding,q2_Sounding,q3_Sounding,q4_Sounding⟩,je,oR,kz,tH,⟨r1_Sounding_tells,r2_Sounding_tells,pk_Sounding_tells⟩,kB,tI,⟨r1_Sounding_learn,r2_Sounding_learn,pk_Sounding_learn⟩⟩
 exact⟨PySem.W.fnOf "law" "law" (aT oi) (aN oi) (ag oi) .none aBw aBW aBg aCm (.ref cC_law) aBX,λs v=>.of_eq rfl,λbase kb _ hB=>ZM (P:=l.prog) (w:=w) (base:=base) T rfl (PySem.W.codeHd_of_K kb aAx) rfl (PySem.W.codeHd_of_K kb IV) hB⟩
theorem walk{l:PySem.W.OpenLaw}{q:Program}{loose:List Str}{XP:(Str->Option Value)->Heap->Prop}{YP:World->Heap->Prop}{d:DefRec}{K:Params->PySem.W.Frag}{cC_law pT_law cC_sounded pT_sounded:Addr}(hn:l.most=some 63)(hNE:pT_law≠pT_sounded)(hdf:d.params.defaults=[])
  (hY:∀(w:World) (h:Heap),YP w h->(K w.params).In h/\∀q∈[(cC_law,pT_law),(cC_sounded,pT_sounded)],h.get? q.2=some (PySem.W.tabObj #[]))
  (hCd:∀w:World,∀q∈[(cC_law,pT_law),(cC_sounded,pT_sounded)],PySem.W.codeHdIn (K w.params) q.1 q.2=true/\(K w.params).lookup q.2=none)
  (F:∀(w:World) (mg:Str->Option Value) (fa:Addr) (h:Heap),(K w.params).In h->h.Ns mainGlobals mg->mg d.name=some (.ref fa)->
   ∃fd:FuncData,(∀(s:Shared) (u:Value),BindsTo s fd ⟨[u],[]⟩ [("_law_script",u)])/\∀base:Heap,(K w.params).In base->base.Ns mainGlobals mg->BMain mg base->bX l.prog w (K w.params) mg base gi 20 fa fd ["_law_script"] (JW (K w.params) pT_law pT_sounded)) :
  PySem.W.WalkO q loose XP YP l.row.toRowW d [] (λf vs=>PySem.call f vs):=
 L2.O9 (n:=63) (k:=20) (x:="_law_script") (ts:=[(cC_law,pT_law),(cC_sounded,pT_sounded)]) (CX:=λ_=>gi) (sp:=λw=>JW (K w.params) pT_law pT_sounded) hn (by decide) hdf ⟨rfl,by decide,by decide⟩ hY hCd F (λ_ _ a ns hl hT hS=>⟨a,ns,rfl,hS,hl,hT (cC_law,pT_law) (by simp),hT (cC_sounded,pT_sounded) (by simp),hNE,λ_=>rfl⟩) λ_ _ _ _ _ z=>z
def view:Program:={ PySem.Challenge.pw_truceroll_k54_sounded_lists with main:={ PySem.Challenge.pw_truceroll_k54_sounded_lists.main with body:=[top 1,top 2,top 4,top 5,top 7,top 8,top 9,top 10,top 11,top 12,top 13,top 14,top 15,top 17,top 19,top 20,top 22,top 23,top 24,top 25,top 26,top 27,top 28,top 29,top 30,top 31,top 32,top 33,top 34,top 35,top 36,top 37,top 38] } }
end My
open PySem PySem.W PyProof.Rows
local macro_rules | `(tactic| o_head $H:term) => `(tactic| (
  refine holds_open (q := My.view) (loose := []) (Xt := fun s => xlAt My.view [] s && recOk (RowW.records (OpenRow.toRowW PySem.Challenge.rw_truceroll_k54_sounded_lists.row)) s) (XP := XL My.view []) (Yf := Hook.obs $H) (Ya := Hook.val $H) (YP := Hook.says $H) (N := 40000) ?hl (Hook.of $H) (Hook.keeps $H) (fun s e => xl_of s (Bool.and_eq_true_iff.mp e).1) XL.keeps (by rfl) (by rfl) (by rfl) (fun s e => recFacts_of (Bool.and_eq_true_iff.mp e).2) (by rfl) (by first | assumption | decide +kernel) (by decide +kernel) ⟨rfl, rfl, rfl, rfl, rfl, by decide +kernel⟩ ?hw ?hc
  case hl => intro w; kernel_rfl))
theorem PySem.Challenge.cw_truceroll_k54_sounded_lists_holds : PySem.Challenge.rw_truceroll_k54_sounded_lists.Holds := by
 w_on;o_law;k_head;(case hw=>w_witness2)
 k_fill
 refine My.walk (l:=PySem.Challenge.rw_truceroll_k54_sounded_lists) (cC_law:=264) (pT_law:=260) (cC_sounded:=130) (pT_sounded:=128) rfl (by decide) rfl (λw h Y=>⟨PySem.W.km_in_of Y,λq hq=>PySem.W.km_tabs_of Y _ (by simp only[List.mem_cons,List.not_mem_nil,or_false]at hq ⊢;rcases hq with rfl | rfl <;> simp)⟩) (λw q hq=>by simp only[List.mem_cons,List.not_mem_nil,or_false]at hq;rcases hq with rfl | rfl <;> exact⟨by kernel_rfl,by kernel_rfl⟩) ?F
 case F=>
  intro w mg fa h KX G hmg
  refine' My.all_mk KX G hmg (by kernel_rfl) (by kernel_rfl) ?a0 ?l0 ?c0 ?k0 ?a1 ?l1 ?c1 ?k1 ?a2 ?l2 ?c2 ?k2 ?a3 ?l3 ?c3 ?k3 ?a4 ?l4 ?c4 ?k4 ?a5 ?l5 ?c5 ?k5 ?a6 ?l6 ?c6 ?k6 ?a7 ?l7 ?c7 ?k7 ?a8 ?l8 ?c8 ?k8 ?a9 ?l9 ?c9 ?k9 ?a10 ?l10 ?c10 ?k10 ?a11 ?l11 ?c11 ?k11 ?a12 ?l12 ?c12 ?k12 ?a13 ?l13 ?c13 ?k13 ?a14 ?l14 ?c14 ?k14 ?a15 ?l15 ?c15 ?k15 ?a16 ?l16 ?c16 ?k16 ?a17 ?l17 ?c17 ?k17 ?a18 ?l18 ?c18 ?k18 ?a19 ?l19 ?c19 ?k19 ?a20 ?l20 ?c20 ?k20 ?a21 ?l21 ?c21 ?k21 ?a22 ?l22 ?c22 ?k22 ?a23 ?l23 ?c23 ?k23 ?a24 ?l24 ?c24 ?k24 ?a25 ?l25 ?c25 ?k25 ?a26 ?l26 ?c26 ?k26 ?a27 ?l27 ?c27 ?k27 ?a28 ?l28 ?c28 ?k28 ?a29 ?l29 ?c29 ?k29 ?z_abs ?z_all ?z_any ?z_bool ?z_int ?z_isinstance ?z_len ?z_list ?z_range ?z_reversed ?z_set ?z_sorted ?z_sum ?z_tuple ?cx7 ?cx8 ?am_TruceError ?x1_TruceError ?x2_TruceError ?x3_TruceError ?x4_TruceError ?x5_TruceError ?x6_TruceError ?x9_TruceError ?am_NoPeace ?x1_NoPeace ?x2_NoPeace ?x3_NoPeace ?x4_NoPeace ?x5_NoPeace ?x6_NoPeace ?x9_NoPeace ?kc_TruceError ?ii_TruceError ?rd_TruceError ?fc_TruceError ?sg_TruceError ?kc_NoPeace ?il_NoPeace ?ic_NoPeace ?ik_NoPeace ?ii_NoPeace ?if_NoPeace ?tk_NoPeace ?nf_NoPeace ?pm_Sounding ?p1_Sounding ?p2_Sounding ?p3_Sounding ?p4_Sounding ?pn_Sounding_ask ?pn_Sounding_askings ?pn_Sounding_known ?pn_Sounding_unknown ?q1_Sounding ?q2_Sounding ?q3_Sounding ?q4_Sounding ?pl_Sounding___init__ ?pc_Sounding___init__ ?pk_Sounding___init__ ?r1_Sounding_tells ?r2_Sounding_tells ?pl_Sounding_tells ?pc_Sounding_tells ?pk_Sounding_tells ?r1_Sounding_learn ?r2_Sounding_learn ?pl_Sounding_learn ?pc_Sounding_learn ?pk_Sounding_learn
  (case a0=>k_is)
  (case l0=>k_is)
  (case c0=>k_is)
  (case k0=>k_is)
  (case a1=>k_is)
  (case l1=>k_is)
  (case c1=>k_is)
  (case k1=>k_is)
  (case a2=>k_is)
  (case l2=>k_is)
  (case c2=>k_is)
  (case k2=>k_is)
  (case a3=>k_is)
  (case l3=>k_is)
  (case c3=>k_is)
  (case k3=>k_is)
  (case a4=>k_is)
  (case l4=>k_is)
  (case c4=>k_is)
  (case k4=>k_is)
  (case a5=>k_is)
  (case l5=>k_is)
  (case c5=>k_is)
  (case k5=>k_is)
  (case a6=>k_is)
  (case l6=>k_is)
  (case c6=>k_is)
  (case k6=>k_is)
  (case a7=>k_is)
  (case l7=>k_is)
  (case c7=>k_is)
  (case k7=>k_is)
  (case a8=>k_is)
  (case l8=>k_is)
  (case c8=>k_is)
  (case k8=>k_is)
  (case a9=>k_is)
  (case l9=>k_is)
  (case c9=>k_is)
  (case k9=>k_is)
  (case a10=>k_is)
  (case l10=>k_is)
  (case c10=>k_is)
  (case k10=>k_is)
  (case a11=>k_is)
  (case l11=>k_is)
  (case c11=>k_is)
  (case k11=>k_is)
  (case a12=>k_is)
  (case l12=>k_is)
  (case c12=>k_is)
  (case k12=>k_is)
  (case a13=>k_is)
  (case l13=>k_is)
  (case c13=>k_is)
  (case k13=>k_is)
  (case a14=>k_is)
  (case l14=>k_is)
  (case c14=>k_is)
  (case k14=>k_is)
  (case a15=>k_is)
  (case l15=>k_is)
  (case c15=>k_is)
  (case k15=>k_is)
  (case a16=>k_is)
  (case l16=>k_is)
  (case c16=>k_is)
  (case k16=>k_is)
  (case a17=>k_is)
  (case l17=>k_is)
  (case c17=>k_is)
  (case k17=>k_is)
  (case a18=>k_is)
  (case l18=>k_is)
  (case c18=>k_is)
  (case k18=>k_is)
  (case a19=>k_is)
  (case l19=>k_is)
  (case c19=>k_is)
  (case k19=>k_is)
  (case a20=>k_is)
  (case l20=>k_is)
  (case c20=>k_is)
  (case k20=>k_is)
  (case a21=>k_is)
  (case l21=>k_is)
  (case c21=>k_is)
  (case k21=>k_is)
  (case a22=>k_is)
  (case l22=>k_is)
  (case c22=>k_is)
  (case k22=>k_is)
  (case a23=>k_is)
  (case l23=>k_is)
  (case c23=>k_is)
  (case k23=>k_is)
  (case a24=>k_is)
  (case l24=>k_is)
  (case c24=>k_is)
  (case k24=>k_is)
  (case a25=>k_is)
  (case l25=>k_is)
  (case c25=>k_is)
  (case k25=>k_is)
  (case a26=>k_is)
  (case l26=>k_is)
  (case c26=>k_is)
  (case k26=>k_is)
  (case a27=>k_is)
  (case l27=>k_is)
  (case c27=>k_is)
  (case k27=>k_is)
  (case a28=>k_is)
  (case l28=>k_is)
  (case c28=>k_is)
  (case k28=>k_is)
  (case a29=>k_is)
  (case l29=>k_is)
  (case c29=>k_is)
  (case k29=>k_is)
  (case z_abs=>k_is)
  (case z_all=>k_is)
  (case z_any=>k_is)
  (case z_bool=>k_is)
  (case z_int=>k_is)
  (case z_isinstance=>k_is)
  (case z_len=>k_is)
  (case z_list=>k_is)
  (case z_range=>k_is)
  (case z_reversed=>k_is)
  (case z_set=>k_is)
  (case z_sorted=>k_is)
  (case z_sum=>k_is)
  (case z_tuple=>k_is)
  (case cx7=>first | k_is | rfl)
  (case cx8=>first | k_is | rfl)
  (case am_TruceError=>first | k_is | rfl)
  (case x1_TruceError=>first | k_is | rfl)
  (case x2_TruceError=>first | k_is | rfl)
  (case x3_TruceError=>first | k_is | rfl)
  (case x4_TruceError=>first | k_is | rfl)
  (case x5_TruceError=>first | k_is | rfl)
  (case x6_TruceError=>first | k_is | rfl)
  (case x9_TruceError=>first | k_is | rfl)
  (case ii_TruceError=>first | k_is | rfl)
  (case am_NoPeace=>first | k_is | rfl)
  (case x1_NoPeace=>first | k_is | rfl)
  (case x2_NoPeace=>first | k_is | rfl)
  (case x3_NoPeace=>first | k_is | rfl)
  (case x4_NoPeace=>first | k_is | rfl)
  (case x5_NoPeace=>first | k_is | rfl)
  (case x6_NoPeace=>first | k_is | rfl)
  (case x9_NoPeace=>first | k_is | rfl)
  (case ii_NoPeace=>first | k_is | rfl)
  (case kc_TruceError=>first | k_is | rfl)
  (case rd_TruceError=>first | k_is | rfl)
  (case fc_TruceError=>first | k_is | rfl)
  (case sg_TruceError=>first | k_is | rfl)
  (case kc_NoPeace=>first | k_is | rfl)
  (case il_NoPeace=>first | k_is | rfl)
  (case ic_NoPeace=>first | k_is | rfl)
  (case ik_NoPeace=>first | k_is | rfl)
  (case if_NoPeace=>first | k_is | rfl)
  (case tk_NoPeace=>first | k_is | rfl)
  (case nf_NoPeace=>first | k_is | rfl)
  (case pm_Sounding=>first | k_is | rfl)
  (case p1_Sounding=>first | k_is | rfl)
  (case p2_Sounding=>first | k_is | rfl)
  (case p3_Sounding=>first | k_is | rfl)
  (case p4_Sounding=>first | k_is | rfl)
  (case pn_Sounding_ask=>first | k_is | rfl)
  (case pn_Sounding_askings=>first | k_is | rfl)
  (case pn_Sounding_known=>first | k_is | rfl)
  (case pn_Sounding_unknown=>first | k_is | rfl)
  (case q1_Sounding=>first | k_is | rfl)
  (case q2_Sounding=>first | k_is | rfl)
  (case q3_Sounding=>first | k_is | rfl)
  (case q4_Sounding=>first | k_is | rfl)
  (case pl_Sounding___init__=>first | k_is | rfl)
  (case pc_Sounding___init__=>first | k_is | rfl)
  (case pk_Sounding___init__=>first | k_is | rfl)
  (case r1_Sounding_tells=>first | k_is | rfl)
  (case r2_Sounding_tells=>first | k_is | rfl)
  (case pl_Sounding_tells=>first | k_is | rfl)
  (case pc_Sounding_tells=>first | k_is | rfl)
  (case pk_Sounding_tells=>first | k_is | rfl)
  (case r1_Sounding_learn=>first | k_is | rfl)
  (case r2_Sounding_learn=>first | k_is | rfl)
  (case pl_Sounding_learn=>first | k_is | rfl)
  (case pc_Sounding_learn=>first | k_is | rfl)
  (case pk_Sounding_learn=>first | k_is | rfl)
