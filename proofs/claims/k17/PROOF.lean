import PyProof.Rows.All
import Wide.All
import OpenK.AllK
import Wide.FinOn
import Lean
import PyProof.EqAt
import PyProof.EqKinds
import PyProof.TupleCall
import PySem.Challenge.RW_truceroll_k17_texts_refused
set_option Elab.async false
set_option linter.all false
set_option maxRecDepth 100000
set_option maxHeartbeats 0
def av:=@PySem.wpAny_bind
def bP:=@PySem.Heap.get?_push_of_some
def aU:=@PySem.wpAny_pure
def bI:=@PySem.Heap.lt_size
def bF:=@Nat.le_refl
def fL:=@List.getElem?_eq_getElem
def cx:=@List.length_map
def gp:=@List.getElem?_eq_some_iff
def eS:=@PySem.Heap.get?_push_size
def eR:=@List.mem_singleton
def cg:=@List.size_toArray
def cO:=@Bool.false_ne_true
def cS:=@List.mem_cons_self
def bN:=@PySem.W.mg_of
def cA:=@List.length_take
def dg:=@Nat.lt_of_lt_of_le
def df:=@List.length_append
def eD:=@List.mem_cons_of_mem
def aI:=@if_neg
def cX:=@Bool.and_eq_true
def bV:=@Nat.ne_of_lt
def de:=@Option.some.inj
def cz:=@List.mem_cons
def fz:=@List.getElem?_map
def cN:=@Nat.le_trans
def iS:=@List.mem_append_right
def fM:=@List.mem_append
def iR:=@Array.length_toList
def bu:=@if_pos
def mM:=@List.getElem?_append_right
def ik:=@PySem.wpAny_newObj_type
def lH:=@PySem.F.plainAttrs_str
def dQ:=@Nat.zero_le
def jD:=@PySem.W.mg_none_of
def ig:=@List.map_append
def eB:=@PySem.wpAny_field
def lG:=@PySem.Heap.get?_update_self
def oI:=@List.getElem?_append_left
def iQ:=@PySem.W.kia_one
def jS:=@PySem.wpAny_setField_rec
def mL:=@PySem.Heap.get?_update_other
def lF:=@PySem.mem_of_lookup
def mK:=@Nat.pow_le_pow_right
def ie:=@List.map_cons
def jR:=@List.lookup_cons
def jQ:=@List.length_drop
def jP:=@List.getElem_mem
def eT:=@PySem.wpAny_mono
def ic:=@PySem.wpAny_holding
def jC:=@PySem.PassesOwn.never
def lE:=@PySem.Str.length_append
def lD:=@PySem.wpAny_call_entry
def pN:=@PySem.wpAny_callSpecial?_slot
def sj:=@Array.getElem?_eq_some_iff
def pM:=@PySem.F.type_str_join
def pK:=@PySem.F.slot_str_join
def oH:=@PySem.F.called_set
def mJ:=@List.all_eq_true
def pJ:=@PySem.StrLaws.glued_eq_join
def pI:=@List.mem_append_left
def vY:=@List.eq_nil_of_length_eq_zero
def si:=@PySem.F.plainAttrs_list
def oG:=@List.take_add_one
def lC:=@PySem.Heap.size_push
def dP:=@Iff.rfl
def lB:=@Nat.lt_irrefl
def oF:=@List.take_length
def sf:=@List.take_append_drop
def se:=@List.getElem?_eq_none
def sd:=@Array.getElem?_toList
def oE:=@List.nodup_cons
def oD:=@List.append_nil
def gk:=@congrArg
def pH:=@PySem.Obj.data_mapFields
def lA:=@Nat.ne_of_gt
def jO:=@Nat.le_succ
def ll:=@List.mem_map
def vX:=@PySem.F.type_list_append
def vW:=@PySem.F.slot_list_append
def pG:=@PySem.wpAny_truthy_bool
def vV:=@Option.bind_eq_some_iff
def vU:=@List.take_of_length_le
def oC:=@PySem.wpAny_seqItems
def pF:=@List.foldl_cons
def pE:=@Bool.eq_iff_iff
def rZ:=@Nat.lt_succ_of_lt
def rY:=@List.flatten_cons
def pD:=@PySem.wpAny_passesOwn
def vT:=@List.mem_of_getElem?
def rX:=@beq_self_eq_true
def rW:=@List.length_cons
def rV:=@PySem.wpAny_setState_of
def rT:=@PySem.wpAny_loadPart_at
def zv:=@PySem.F.slot_tuple_iterator_next
def vS:=@PySem.Around.under_plainId
def zu:=@Option.map_eq_some_iff
def iP:=@Ne.symm
def zt:=@List.getElem?_set_self
def vR:=@Bool.not_eq_true'
def rS:=@PySem.codeAny_builtin
def pY:=@PySem.wpAny_Call_Name_kw
def yn:=@PyProof.Rows.slot_tuple_getitem
def uU:=@List.length_singleton
def uT:=@List.length_replicate
def pX:=@Option.bind_some
def pW:=@List.not_mem_nil
def fW:=@if_true
def nR:=@List.all_cons
def uS:=@List.mem_of_mem_take
def pV:=@Nat.le_add_left
def pU:=@List.mem_filter
def pT:=@Int.emod_nonneg
def uR:=@PySem.Obj.isFreed_of_fields
def uQ:=@List.replicate_succ
def uP:=@List.filterMap_cons
def ym:=@PyProof.Rows.callWith_type1
def nQ:=@Nat.le_of_lt
def nP:=@PySem.wpAny_attempt
def lX:=@PySem.sizeLine_eq
def uO:=@decide_eq_true_iff
def uN:=@List.filter_append
def uM:=@Int.emod_lt_of_pos
def uL:=@Bool.false_eq_true
def yk:=@Array.getElem?_eq_getElem
def uK:=@PySem.wpAny_isSubtype_exc
def uJ:=@decide_eq_true_eq
def uI:=@List.append_assoc
def uH:=@Int.toNat_natCast
def uG:=@PySem.Heap.SameBut.update
def nO:=@PySem.codeAny_mono
def pS:=@PySem.wpAny_setField
def lW:=@PySem.wpAny_call
def jT:=@if_false
def yj:=@decide_eq_false_iff_not
def uF:=@Nat.succ_le_succ
def uE:=@Nat.le_max_right
def yi:=@PySem.F.type_str_split
def yh:=@PySem.F.slot_str_split
def pR:=@Nat.sub_self
def pQ:=@List.map_map
def nM:=@PySem.wpAny_of_eq
def uD:=@PySem.fits_of_scanBound
def uC:=@Nat.le_max_left
def uB:=@Bool.or_eq_true
def pP:=@PySem.wpAny_standAt
def yg:=@List.mem_iff_getElem?
def yf:=@List.length_filter_le
def uA:=@PySem.wpAny_isInstance
def ye:=@PySem.StrLaws.partsBetween_eq
def yd:=@PySem.W.looks_findIn
def uz:=@List.nodup_nil
def yc:=@List.getElem?_set_ne
def uy:=@List.drop_zero
def nJ:=@PySem.wpAny_rule
def nI:=@PySem.typeIs_str
def yb:=@List.flatten_append
def x9:=@Int.toNat_of_nonneg
def ux:=@PySem.wpAny_execs_nil
def uw:=@PySem.F.slot_zip_next
def x8:=@PySem.W.callWith_K
def pO:=@Nat.not_lt
def xZ:=@Nat.lt_of_le_of_lt
def xY:=@List.contains_cons
def xX:=@PySem.codeAny_call_builtin
def uv:=@Nat.pow_succ
def xW:=@List.nodup_append
def ur:=@List.map_nil
def uq:=@List.all_map
def xV:=@PySem.Heap.get?_none_of_le
def xU:=@PyProof.Rows.F.plain_set_update_loop
def xT:=@PySem.wpAny_setEntries_of
def xS:=@PySem.wpAny_raiseNew_none
def xR:=@Nat.min_eq_right
def xQ:=@Nat.lt_succ_self
def xP:=@Nat.le_of_not_lt
def Dd:=@Array.eq_empty_of_size_eq_zero
def uo:=@PySem.wpAny_onRaise
def um:=@PySem.plainId_quiet
def uk:=@List.map_id
section
namespace L2
open PySem PySem.Spec PyProof.Rows
abbrev Key:=Sum Int Str
def JF:Key->Value->Bool
 | .inl k,v=>Value.isInt k v
 | .inr x,v=>Value.isStrOf x v
def U0(w:World):Key->Int
 | .inl k=>hashInt k
 | .inr x=>hashStr w x
theorem cu:∀{k:Key} {v:Value},JF k v=true->(∃i t,k=Sum.inl i/\v=Value.int i t)\/(∃x t,k=Sum.inr x/\v=Value.str x t)
 | .inl i,v,h=>by
  obtain⟨t,e⟩:=Value.isInt_shape (k:=i) (v:=v) h
  exact .inl ⟨i,t,rfl,e⟩
 | .inr x,v,h=>by
  obtain⟨t,e⟩:=Value.isStrOf_shape (x:=x) (v:=v) h
  exact .inr ⟨x,t,rfl,e⟩
theorem Ln(a b:Int):decide ((Sum.inl a:Key)=Sum.inl b)=(a==b):=by
 by_cases e:a=b
 ·subst e;simp
 ·have h:¬(Sum.inl a:Key)=Sum.inl b:=λq=>e (Sum.inl.inj q)
  rw[decide_eq_false h]
  exact(beq_eq_false_iff_ne.mpr e).symm
theorem Li(a b:Str):decide ((Sum.inr a:Key)=Sum.inr b)=decide (a=b):=by
 by_cases e:a=b
 ·subst e;simp
 ·have h:¬(Sum.inr a:Key)=Sum.inr b:=λq=>e (Sum.inr.inj q)
  rw[decide_eq_false h,decide_eq_false e]
theorem Lk(a:Int)(b:Str):decide ((Sum.inl a:Key)=Sum.inr b)=false:=decide_eq_false (λq=>nomatch q)
theorem Lj(a:Str)(b:Int):decide ((Sum.inr a:Key)=Sum.inl b)=false:=decide_eq_false (λq=>nomatch q)
def Ac(prog:Program)(w:World):PySem.KeyKind prog w Key where
 is:=JF
 hash:=U0 w
 inj:=λv a b ha hb=>by
  rcases cu ha with ⟨i,t,rfl,rfl⟩ | ⟨x,t,rfl,rfl⟩
  ·rcases cu hb with ⟨j,u,rfl,e⟩ | ⟨y,u,rfl,e⟩
   ·injection e with e1 _;rw[e1]
   ·exact nomatch e
  ·rcases cu hb with ⟨j,u,rfl,e⟩ | ⟨y,u,rfl,e⟩
   ·exact nomatch e
   ·injection e with e1 _;rw[e1]
 byValue:=λk v h=>by
  rcases cu h with ⟨i,t,rfl,rfl⟩ | ⟨x,t,rfl,rfl⟩ <;> rfl
 pyHash:=λhv h=>by
  rcases cu hv with ⟨i,t,rfl,rfl⟩ | ⟨x,t,rfl,rfl⟩
  ·exact wpAny_pyHash_int h
  ·exact wpAny_pyHash_str h
 eqBool:=λhu hv h=>by
  rcases cu hu with ⟨i,t,rfl,rfl⟩ | ⟨x,t,rfl,rfl⟩
  ·rcases cu hv with ⟨j,u,rfl,rfl⟩ | ⟨y,u,rfl,rfl⟩
   ·rw[Ln]at h;exact wpAny_eqBool_int h
   ·rw[Lk]at h;exact SeqAt.EqAt.int_str i t y u _ _ _ _ h
  ·rcases cu hv with ⟨j,u,rfl,rfl⟩ | ⟨y,u,rfl,rfl⟩
   ·rw[Lj]at h;exact SeqAt.EqAt.str_int x t j u _ _ _ _ h
   ·rw[Li]at h;exact wpAny_eqBool_str h
 «strs»:=λk x t v h=>by
  rcases cu h with ⟨i,u,rfl,e⟩ | ⟨y,u,rfl,e⟩
  ·exact nomatch e
  ·injection e with e1 _
   subst e1
   cases v <;> rfl
end L2
namespace L2
open PySem PySem.Spec PyProof.Rows
inductive V where
 | non | bl (b:Bool) | int (i:Int) | str (x:Str) | Gj (b:Array UInt8) | Nv (b:UInt64) | ref (a:Addr) | ty (n:String)
 deriving DecidableEq
def RelV:V->Value->Prop
 | .non,u=>u=Value.none
 | .bl b,u=>u=Value.bool b
 | .int i,u=>∃t,u=Value.int i t
 | .str x,u=>∃t,u=Value.str x t
 | .Gj b,u=>∃t,u=Value.bytes b t
 | .Nv b,u=>∃t,u=Value.float b t
 | .ref a,u=>u=Value.ref a
 | .ty n,u=>u=Value.type n
abbrev Vals:List V->List Value->Prop:=Paired RelV
theorem Vals.length{xs:List V}{us:List Value}(r:Vals xs us):xs.length=us.length:=Paired.length r
theorem Vals.get:∀{xs:List V} {us:List Value} {i:Nat} {x:V},Vals xs us->xs[i]?=some x->∃u,us[i]?=some u/\RelV x u
 | _,_,_,_,.nil,e=>by simp at e
 | _,_,0,_,.cons r _,e=>by simp at e;subst e;exact⟨_,rfl,r⟩
 | _,_,i+1,x,.cons _ t,e=>by
  obtain⟨u,h1,h2⟩:=Vals.get (i:=i) (x:=x) t (by simpa using e)
  exact⟨u,by simpa using h1,h2⟩
theorem Vals.set{x:V}{u:Value}(r:RelV x u):∀{xs:List V} {us:List Value} (i:Nat),Vals xs us->Vals (xs.set i x) (us.set i u)
 | _,_,_,.nil=>.nil
 | _,_,0,.cons _ t=>.cons r t
 | _,_,i+1,.cons q t=>.cons q (Vals.set r i t)
theorem Vals.append:∀{xs ys:List V} {us ws:List Value},Vals xs us->Vals ys ws->Vals (xs++ys) (us++ws)
 | _,_,_,_,.nil,s=>s
 | _,_,_,_,.cons r t,s=>.cons r (Vals.append t s)
theorem Vals.take:∀{xs:List V} {us:List Value} (n:Nat),Vals xs us->Vals (xs.take n) (us.take n)
 | _,_,0,_=>.nil
 | _,_,_+1,.nil=>.nil
 | _,_,n+1,.cons r t=>.cons r (Vals.take n t)
theorem Vals.drop:∀{xs:List V} {us:List Value} (n:Nat),Vals xs us->Vals (xs.drop n) (us.drop n)
 | _,_,0,r=>r
 | _,_,_+1,.nil=>.nil
 | _,_,n+1,.cons _ t=>Vals.drop n t
def M4:Option V->Option Value->Prop
 | some v,some u=>RelV v u
 | none,none=>True
 | _,_=>False
def KV{κ:Type}:List (κ×V)->List (κ×Value)->Prop:=Paired λ(p:κ×V) (q:κ×Value)=>p.1=q.1/\RelV p.2 q.2
def kV:Key->V
 | .inl i=>.int i
 | .inr x=>.str x
inductive HO where
 | lst (xs:List V)
 | tup (xs:List V)
 | dK (jb:List (Key×V)) | dT (jb:List (List Key×V))
 | set (S:Int->Bool) (n:Nat)
 | ins (C dx:Addr) (fs:List (Str×V))
 | own (x:Addr)
 | xd (fs:List (Str×V))
 | met (f x:Addr)
 | SJ (lo hi:Int)
 | Aj (o:Obj) (u:HO)
 | J7 (ps:Array Value)
 | ext (φ:Heap->Prop)
abbrev Hp:=Addr->Option HO
def upd(H:Hp)(a:Addr)(o:HO):Hp:=λb=>if b=a then some o else H b
theorem ak{H:Hp}{a:Addr}{o:HO}:upd H a o a=some o:=by unfold upd;rw[bu rfl]
theorem aG{H:Hp}{a b:Addr}{o:HO}(h:b≠a):upd H a o b=H b:=by unfold upd;rw[aI h]
theorem Ha{H:Hp}{a:Addr}{o u:HO}:upd (upd H a o) a u=upd H a u:=by
 funext b;unfold upd;split <;> rfl
theorem wQ{H:Hp}{a b:Addr}{o u:HO}(h:H a=some o)(h':H b=some u)(d:o≠u):a≠b:=by
 intro e;subst e;rw[h]at h';exact d (de h')
theorem aH{H:Hp}{a b:Addr}{o:HO}(h:H a=some o)(h':H b=none):a≠b:=by
 intro e;subst e;rw[h]at h';cases h'
section
variable (P:Program)(w:World)
def du(H:Hp)(h:Heap)(a:Addr):HO->Prop
 | .lst xs=>xs.length<=sizeLine/\∃(its:List Value) (n:Nat),Vals xs its/\h.get? a=some { cls:=.type "list",data:=.seq its.toArray n }
 | .tup xs=>xs.length<=sizeLine/\∃its:List Value,Vals xs its/\IsTup h a its.toArray
 | .dK jb=>jb.length<=sizeLine/\(a==sysModules)=false/\∃vs,KV jb vs/\h.DictOf (Ac P w) a vs
 | .dT jb=>jb.length<=sizeLine/\(a==sysModules)=false/\∃xs:List (List Key×Addr×Value),
   Paired (λ(p:List Key×V) (q:List Key×Addr×Value)=>p.1=q.1/\H q.2.1=some (.tup (p.1.map kV))/\RelV p.2 q.2.2) jb xs/\
   ∃o es ep,h.get? a=some o/\o.ExactDict/\o.data=.dict es ep/\es.toList=xs.map (entryOfKey (tupleKind (Ac P w)))/\(xs.map (·.1)).Nodup
 | .set S n=>h.SetOf (intKind P w) a S n
 | .ins C dx fs=>H dx=some (.own a)/\fs.length<=1000/\dx≠a/\h.get? a=some (PySem.W.instObj C dx)/\
   ∃mA,h.Ns1 dx mA/\(∀f,M4 (fs.lookup f) (mA f))/\PySem.Within mA (fs.map (·.1))
 | .own _=>∃o,h.get? a=some o
 | .xd fs=>∃mA,h.Ns1 a mA/\∀f,M4 (fs.lookup f) (mA f)
 | .SJ lo hi=>∃t u v,h.get? a=some { cls:=.type "range",data:=.fields #[.int lo t,.int hi u,.int 1 v] }
 | .Aj o u=>h.get? a=some o/\du H h a u
 | .J7 ps=>h.get? a=some { cls:=.none,data:=.fields ps }
 | .met f x=>h.get? a=some (PySem.W.methodObj (.ref f) (.ref x))
 | .ext φ=>φ h/\(∃o,h.get? a=some o)/\∀h1 h2:Heap,φ h1->(∀o,h1.get? a=some o->h2.get? a=some o)->φ h2
def nH(H:Hp)(h:Heap):Prop:=∀a o,H a=some o->du P w H h a o
end
section
variable {P:Program}{w:World}{H H':Hp}{h h':Heap}{a:Addr}{o:HO}
theorem du.lt(x:du P w H h a o):a<h.objs.size:=by
 cases o with
 | lst xs=>obtain⟨_,_,_,_,e⟩:=x;exact bI e
 | tup xs=>obtain⟨_,_,_,p⟩:=x;exact p.lt
 | dK jb=>obtain⟨_,_,_,_,o,_,_,e,_⟩:=x;exact bI e
 | dT jb=>obtain⟨_,_,_,_,o,_,_,e,_⟩:=x;exact bI e
 | set S n=>obtain⟨o,_,_,_,e,_⟩:=x;exact bI e
 | ins C dx fs=>obtain⟨_,_,_,e,_⟩:=x;exact bI e
 | own y=>obtain⟨_,e⟩:=x;exact bI e
 | xd fs=>obtain⟨_,⟨_,_,_,e,_⟩,_⟩:=x;exact bI e
 | SJ lo hi=>obtain⟨_,_,_,e⟩:=x;exact bI e
 | Aj ob u=>obtain⟨e,_⟩:=x;exact bI e
 | J7 ps=>exact bI (show h.get? a=some _ from x)
 | met f y=>exact bI (show h.get? a=some _ from x)
 | ext φ=>obtain⟨_,⟨_,e⟩,_⟩:=x;exact bI e
theorem Paired.O3{α β:Type}{F G:α->β->Prop}:∀{l₁:List α} {l₂:List β},Paired F l₁ l₂->(∀a b,F a b->G a b)->Paired G l₁ l₂
 | _,_,.nil,_=>.nil
 | _,_,.cons r t,f=>.cons (f _ _ r) (Paired.O3 t f)
theorem du.stay(x:du P w H h a o)(k:∀b u,(b=a\/H b=some (.own a))->h.get? b=some u->h'.get? b=some u)
  (ho:∀b,H b=some (.own a)->H' b=some (.own a)) (ht:∀b xs,H b=some (.tup xs)->H' b=some (.tup xs)):du P w H' h' a o:=by
 induction o with
 | lst xs=>obtain⟨z,its,n,r,e⟩:=x;exact⟨z,its,n,r,k _ _ (.inl rfl) e⟩
 | tup xs=>obtain⟨z,its,r,ob,e,c⟩:=x;exact⟨z,its,r,ob,k _ _ (.inl rfl) e,c⟩
 | dK jb=>obtain⟨z,y,vs,r,ob,es,ep,e,c⟩:=x;exact⟨z,y,vs,r,ob,es,ep,k _ _ (.inl rfl) e,c⟩
 | dT jb=>
  obtain⟨z,y,xs,r,ob,es,ep,e,c⟩:=x
  exact⟨z,y,xs,Paired.O3 r λp q z=>⟨z.1,ht _ _ z.2.1,z.2.2⟩,ob,es,ep,k _ _ (.inl rfl) e,c⟩
 | set S n=>obtain⟨ob,es,ep,t,e,c⟩:=x;exact⟨ob,es,ep,t,k _ _ (.inl rfl) e,c⟩
 | ins C dx fs=>
  obtain⟨d,z,ne,e,mA,⟨od,es,ep,e2,c⟩,r⟩:=x
  exact⟨ho _ d,z,ne,k _ _ (.inl rfl) e,mA,⟨od,es,ep,k _ _ (.inr d) e2,c⟩,r⟩
 | own y=>obtain⟨ob,e⟩:=x;exact⟨ob,k _ _ (.inl rfl) e⟩
 | xd fs=>obtain⟨mA,⟨od,es,ep,e,c⟩,r⟩:=x;exact⟨mA,⟨od,es,ep,k _ _ (.inl rfl) e,c⟩,r⟩
 | SJ lo hi=>obtain⟨t,u,v,e⟩:=x;exact⟨t,u,v,k _ _ (.inl rfl) e⟩
 | Aj ob u ih=>obtain⟨e,q⟩:=x;exact⟨k _ _ (.inl rfl) e,ih q⟩
 | J7 ps=>
  have e:h.get? a=some { cls:=.none,data:=.fields ps }:=x
  show h'.get? a=some { cls:=.none,data:=.fields ps }
  exact k a _ (.inl rfl) e
 | met f y=>
  have e:h.get? a=some (PySem.W.methodObj (.ref f) (.ref y)):=x
  show h'.get? a=some (PySem.W.methodObj (.ref f) (.ref y))
  exact k a _ (.inl rfl) e
 | ext φ=>obtain⟨p,⟨o,e⟩,st⟩:=x;exact⟨st _ _ p λo q=>k _ _ (.inl rfl) q,⟨o,k _ _ (.inl rfl) e⟩,st⟩
theorem nH.lt(x:nH P w H h)(e:H a=some o):a<h.objs.size:=(x a o e).lt
theorem nH.fresh(x:nH P w H h)(e:h.objs.size<=a):H a=none:=by
 cases q:H a with
 | none=>rfl
 | some u=>exact absurd (dg (x.lt q) e) (lB _)
theorem nH.kept(x:nH P w H h)(k:∀b u,h.get? b=some u->h'.get? b=some u):nH P w H h':=λa o e=>
 (x a o e).stay (λb u _ q=>k b u q) (λ_ q=>q) λ_ _ q=>q
theorem nH.laid(x:nH P w H h)(k:∀b u,h.get? b=some u->h'.get? b=some u)(hp:h.objs.size<=a)(new:du P w (upd H a o) h' a o):nH P w (upd H a o) h':=λb u e=>by
 have hn:=x.fresh hp
 by_cases hb:b=a
 ·subst hb;rw[ak]at e;cases e;exact new
 ·rw[aG hb]at e
  exact(x b u e).stay (λc v _ q=>k c v q) (λc q=>by rw[aG (aH q hn)];exact q) λc xs q=>by rw[aG (aH q hn)];exact q
end
def Rd(H:Hp)(a:Addr)(u:HO):Prop:=H a=some u\/∃o,H a=some (.Aj o u)
theorem Rd.ok{P:Program}{w:World}{H:Hp}{h:Heap}{a:Addr}{u:HO}(r:Rd H a u)(x:nH P w H h):du P w H h a u:=by
 rcases r with r | ⟨o,r⟩
 ·exact x a u r
 ·obtain⟨_,q⟩:=x a _ r
  exact q
def RQ:Option HO->Prop
 | some (.lst _)=>True
 | some (.dK _)=>True
 | some (.dT _)=>True
 | some (.set _ _)=>True
 | some (.ins _ _ _)=>True
 | some (.ext _)=>True
 | _=>False
section
variable {P:Program}{w:World}{H:Hp}{h h':Heap}{x e:Addr}{o':HO}
theorem nH.write(ok:nH P w H h)(mu:RQ (H x))(he:e=x\/H e=some (.own x))(k:∀b u,b≠e->h.get? b=some u->h'.get? b=some u)(Nr:∃u,h'.get? e=some u)
  (new:du P w (upd H x o') h' x o'):nH P w (upd H x o') h':=λb u q=>by
 have Oy:∀c y,H c=some (.own y)->c≠x:=λc y r z=>by subst z;rw[r]at mu;exact mu
 have Bz:∀c xs,H c=some (.tup xs)->c≠x:=λc xs r z=>by subst z;rw[r]at mu;exact mu
 by_cases hb:b=x
 ·subst hb;rw[ak]at q;cases q;exact new
 ·rw[aG hb]at q
  by_cases Mi:b=e
  ·have q':H b=some (.own x):=by
    rcases he with z | z
    ·exact absurd (Mi.trans z) hb
    ·rw[Mi];exact z
   rw[q]at q';cases q'
   obtain⟨v,hv⟩:=Nr
   exact⟨v,by rw[Mi];exact hv⟩
  ·refine(ok b u q).stay (λc v hc r=>k c v ?_ r) (λc r=>by rw[aG (Oy c b r)];exact r) λc xs r=>by rw[aG (Bz c xs r)];exact r
   rcases hc with rfl | hc
   ·exact Mi
   ·rintro rfl
    rcases he with z | z
    ·exact Oy c b hc z
    ·rw[hc]at z;cases z;exact hb rfl
end
structure Un(fs ex:List Addr)(H H':Hp)(h h':Heap):Prop where
 keep:∀b o,h.get? b=some o->H b=none->b∉fs->b∉ex->h'.get? b=some o
 slot:∀b o,h.get? b=some o->H b=none->b∈fs->b∉ex->∃sl,h'.get? b=some { o with slots:=sl }
 free:∀b o,h.get? b=some o->H b=none->b∉ex->H' b=none
 there:∀b o,h.get? b=some o->b∉ex->∃o',h'.get? b=some o'
 tups:∀b xs,H b=some (.tup xs)->H' b=some (.tup xs)
 frzs:∀b o u,H b=some (.Aj o u)->H' b=some (.Aj o u)
 tbls:∀b ps,H b=some (.J7 ps)->∃more,H' b=some (.J7 (ps++more))
section
variable {fs fs' ex ex':List Addr}{H H1 H2:Hp}{h h1 h2 h':Heap}{a x e:Addr}{o:HO}
theorem Un.any(u:Un fs ex H H1 h h1){b:Addr}{ob:Obj}(q:h.get? b=some ob)(n:H b=none)(hx:b∉ex):∃sl,h1.get? b=some { ob with slots:=sl }:=by
 by_cases hb:b∈fs
 ·exact u.slot b ob q n hb hx
 ·exact⟨ob.slots,u.keep b ob q n hb hx⟩
theorem Un.kept(k:∀b u,h.get? b=some u->h'.get? b=some u):Un fs ex H H h h':=
 ⟨λb ob q _ _ _=>k b ob q,λb ob q _ _ _=>⟨ob.slots,k b ob q⟩,λ_ _ _ n _=>n,λb ob q _=>⟨ob,k b ob q⟩,λ_ _ q=>q,λ_ _ _ q=>q,λ_ ps q=>⟨#[],by rw[q];simp⟩⟩
theorem Un.refl:Un fs ex H H h h:=Un.kept λ_ _ q=>q
theorem Un.laid(k:∀b u,h.get? b=some u->h'.get? b=some u)(hp:h.objs.size<=a)(hn:H a=none):Un fs ex H (upd H a o) h h' where
 keep:=λb u q _ _ _=>k b u q
 slot:=λb u q _ _ _=>⟨u.slots,k b u q⟩
 free:=λb u q n _=>by rw[aG (bV (dg (bI q) hp))];exact n
 there:=λb u q _=>⟨u,k b u q⟩
 tups:=λb xs q=>by rw[aG (aH q hn)];exact q
 frzs:=λb u xs q=>by rw[aG (aH q hn)];exact q
 tbls:=λb ps q=>⟨#[],by rw[aG (aH q hn),q];simp⟩
theorem Un.write(mu:RQ (H x))(he:e=x\/H e=some (.own x))(k:∀b u,b≠e->h.get? b=some u->h'.get? b=some u)(Nr:∃u,h'.get? e=some u):Un fs ex H (upd H x o) h h':=by
 have hx:∀b,H b=none->b≠x:=λb n z=>by subst z;rw[n]at mu;exact mu
 have hb:∀b,H b=none->b≠e:=λb n z=>by
  subst z
  rcases he with r | r
  ·exact hx b n r
  ·rw[n]at r;cases r
 have hm:∀b u,H b=some u->¬RQ (some u)->b≠x:=λb u q nm z=>by subst z;rw[q]at mu;exact nm mu
 refine⟨λb u q n _ _=>k b u (hb b n) q,λb u q n _ _=>⟨u.slots,k b u (hb b n) q⟩,λb u q n _=>by rw[aG (hx b n)];exact n,λb u q _=>?_,
  λb xs q=>by rw[aG (hm b _ q λz=>z)];exact q,λb u xs q=>by rw[aG (hm b _ q λz=>z)];exact q,λb ps q=>⟨#[],by rw[aG (hm b _ q λz=>z),q];simp⟩⟩
 by_cases Mi:b=e
 ·subst Mi;exact Nr
 ·exact⟨u,k b u Mi q⟩
end
def Q6(h:Heap)(H:Hp):List Addr:=(List.range h.objs.size).filter λa=>(H a).isSome
def vD(h:Heap)(H:Hp):Heap:=PySem.W.hideAll h (Q6 h H)
theorem BZ(h:Heap)(H:Hp):(vD h H).objs.size=h.objs.size:=PySem.W.hideAll_size _ _
theorem FN{h:Heap}{H:Hp}{b:Addr}{o:Obj}(e:h.get? b=some o)(n:H b=none):(vD h H).get? b=some o:=
 PySem.W.hideAll_get _ e λhm=>by
  have q:(H b).isSome=true:=(pU.mp hm).2
  rw[n]at q;simp at q
theorem Il{h:Heap}{H:Hp}{b:Addr}{o:Obj}(e:(vD h H).get? b=some o):h.get? b=some o/\H b=none:=by
 have e':h.get? b=some o:=PySem.W.of_hideAll (Q6 h H) e
 refine⟨e',?_⟩
 cases q:H b with
 | none=>rfl
 | some x=>
  have hm:b∈Q6 h H:=pU.mpr ⟨List.mem_range.mpr (bI e'),by simp[q]⟩
  have z:(vD h H).get? b=none:=PySem.W.hideAll_none (Q6 h H) hm
  rw[z]at e;cases e
def Jh(g h:Heap)(L:Addr):List (Addr×Obj):=(List.range h.objs.size).filterMap λa=>if a=L\/(g.get? a).isSome=true then none else (h.get? a).map λo=>(a,o)
def rest(g h:Heap)(L d:Addr):List (Addr×Obj):=(Jh g h L).filter λp=>decide (p.1≠d)
end L2
namespace L2
open PySem PySem.Spec PyProof.Rows
structure Mod(K:PySem.W.Frag)(mg:Str->Option Value)(base:Heap):Prop where
 O9:K.In base
 glob:base.Ns mainGlobals mg
 blt:∃mb,base.Ns builtinsNs mb/\∀x:Str,x≠"__name__"->mb x=bootBuiltins x
 nolimit:base.NoLimit
structure Cx where
 prog:Program
 w:World
 K:PySem.W.Frag
 mg:Str->Option Value
 base:Heap
 A:Around
 N:List Str
 s₀:Shared
 H₀:Hp
 env:Env
 outer:List Env
 stack:List Env
 ex:List Addr
 fn:Str->Bool
 calm:Bool
 pn:List (Addr×Obj)
 xe:Value->Shared->Prop
def mG(l:List Env):List Addr:=l.filterMap (·.frame)
abbrev Cx.fs(X:Cx):List Addr:=mG X.outer
def QK(sc:Scope)(x:Str):Prop:=sc.names.lookup x=some .local\/sc.names.lookup x=some .cell\/sc.names.lookup x=some .free
def Loc(sc:Scope)(x:Str):Prop:=sc.names.lookup x=some .local\/sc.names.lookup x=some .cell
def Look(env:Env)(h:Heap)(m:Str->Option Value)(x:Str)(u:Value):Prop:=
 (env.kindOf x=some .local/\m x=some u)\/((env.kindOf x=some .cell\/env.kindOf x=some .free)/\∃c,env.cells.lookup x=some c/\h.IsCell c (some u))
structure Cx.Ok(X:Cx):Prop where
 mod:Mod X.K X.mg X.base
 kind:X.env.scope.kind=.function
 glob:X.env.globals=mainGlobals
 blt:X.env.builtins=builtinsNs
 above:X.s₀.heap.objs.size<=X.env.locals
 inj:∀x y c,X.env.cells.lookup x=some c->X.env.cells.lookup y=some c->x=y
 has:∀x,(X.env.kindOf x=some .cell\/X.env.kindOf x=some .free)->∃c,X.env.cells.lookup x=some c
 JS:∀x c,X.fn x=true->X.env.cells.lookup x=some c->X.s₀.heap.objs.size<=c
 hd:X.calm=true->X.A.handled=none
 frames:X.A.frames=some X.stack
 Kh:X.stack=X.outer\/(X.stack=X.env::X.outer/\X.env.frame=some X.env.locals)
 P6:∀b∈X.ex,b≠X.env.locals/\∀x c,X.env.cells.lookup x=some c->c≠b
 bs:∀b o,X.base.get? b=some o->X.s₀.heap.get? b=some o/\X.H₀ b=none
 Gk:X.base.objs.size<=X.s₀.heap.objs.size
 wJ:∀b o,X.base.get? b=some o->b∉X.ex
 y4:∀b∈X.ex,b∉X.fs
 nr:X.s₀.heap.FunFrames X.base X.outer
 Jd:∀b∈X.fs,X.H₀ b=none
structure Inv(X:Cx)(pins:List (Addr×Obj))(σ:List (Option V))(H:Hp)(s:Shared):Prop where
 ok:X.Ok
 os:s.os=X.s₀.os
 bare:AllBare s.gens
 base:Un X.fs X.ex X.H₀ H X.s₀.heap s.heap
 loc:∃m,s.heap.Ns X.env.locals m/\∀(i:Nat) (x:Str) (v:V),X.N[i]?=some x->σ[i]?=some (some v)->QK X.env.scope x->∃u,RelV v u/\Look X.env s.heap m x u
 cell:∀x c,X.env.cells.lookup x=some c->∃v,s.heap.IsCell c v
 free:H X.env.locals=none
 fO:∀x c,X.env.cells.lookup x=some c->H c=none
 pin:∀p∈X.pn++pins,s.heap.get? p.1=some p.2/\H p.1=none/\p.1≠X.env.locals/\p.1∉X.fs/\∀v,p.2.data≠.cell v
 cw:nH X.prog X.w H s.heap
 len:σ.length=X.N.length
section
variable {X:Cx}{pins:List (Addr×Obj)}{σ:List (Option V)}{H H':Hp}{s:Shared}{h':Heap}
theorem Cx.Ok.Uy(ok:X.Ok){b:Addr}{o:Obj}(e:X.base.get? b=some o):b∉X.fs:=λhb=>by
 have:=(ok.nr.mem hb).1
 rw[e]at this;cases this
theorem Inv.bs(I:Inv X pins σ H s):∀b o,X.base.get? b=some o->s.heap.get? b=some o/\H b=none:=λb o e=>
 ⟨I.base.keep b o (I.ok.bs b o e).1 (I.ok.bs b o e).2 (I.ok.Uy e) (I.ok.wJ b o e),I.base.free b o (I.ok.bs b o e).1 (I.ok.bs b o e).2 (I.ok.wJ b o e)⟩
theorem Inv.bk(I:Inv X pins σ H s):∀b o,X.base.get? b=some o->s.heap.get? b=some o:=λb o e=>(I.bs b o e).1
theorem Inv.mod(I:Inv X pins σ H s):Mod X.K X.mg X.base:=I.ok.mod
theorem Inv.nG(I:Inv X pins σ H s):X.K.In s.heap:=I.ok.mod.O9.keeps I.bk
theorem Inv.lt(I:Inv X pins σ H s):X.env.locals<s.heap.objs.size:=let ⟨_,hn,_⟩:=I.loc;hn.lt
theorem Inv.sz(I:Inv X pins σ H s):X.s₀.heap.objs.size<=s.heap.objs.size:=cN I.ok.above (nQ I.lt)
theorem Inv.Ux(I:Inv X pins σ H s){a:Addr}(h:s.heap.objs.size<=a):a∉X.fs:=λhb=>by
 obtain⟨_,o,ho,_⟩:=I.ok.nr.mem hb
 exact absurd (dg (bI ho) (cN I.sz h)) (lB _)
theorem Inv.Jf(I:Inv X pins σ H s):∀x c,X.env.cells.lookup x=some c->c≠X.env.locals:=λx c e z=>by
 obtain⟨v,o,ho,hd⟩:=I.cell x c e
 obtain⟨m,⟨o',es,ep,vQ,Ru,_⟩,_⟩:=I.loc
 rw[z,vQ]at ho;cases ho;rw[Ru]at hd;cases hd
theorem Inv.nr(I:Inv X pins σ H s):s.heap.FunFrames X.base X.outer:=by
 have all:∀(l:List Env),(∀b∈mG l,b∈X.fs)->X.s₀.heap.FunFrames X.base l->s.heap.FunFrames X.base l:=by
  intro l
  induction l with
  | nil=>intro _ _;trivial
  | cons env r ih=>
   intro hs hl
   obtain⟨hk,⟨L,o,hf,hn,ho,hd⟩,hr⟩:=hl
   have hL:L∈X.fs:=hs L (by unfold mG;rw[uP,hf];exact cS)
   obtain⟨sl,e⟩:=I.base.slot L o ho (I.ok.Jd L hL) hL λz=>I.ok.y4 L z hL
   exact⟨hk,⟨L,_,hf,hn,e,hd⟩,ih (λb hb=>hs b (by unfold mG;rw[uP,hf];exact eD _ hb)) hr⟩
 exact all X.outer (λ_ hb=>hb) I.ok.nr
theorem Inv.stack(I:Inv X pins σ H s):s.heap.FunFrames X.base X.stack:=by
 rcases I.ok.Kh with e | ⟨e,hf⟩
 ·rw[e];exact I.nr
 ·rw[e]
  obtain⟨m,hn,_⟩:=I.loc
  refine .cons (by rw[I.ok.kind];decide) hf hn ?_ I.nr
  exact xV (cN I.ok.Gk I.ok.above)
theorem Inv.va(I:Inv X pins σ H s):∀b∈mG X.stack,b∈X.env.locals::X.fs:=λb hb=>by
 rcases I.ok.Kh with e | ⟨e,hf⟩
 ·rw[e]at hb;exact eD _ hb
 ·rw[e]at hb
  unfold mG at hb
  rw[uP,hf]at hb
  exact hb
theorem Inv.pj(I:Inv X pins σ H s):∀b∈mG X.stack,H b=none:=λb hb=>by
 rcases cz.mp (I.va b hb) with e | hb
 ·rw[e];exact I.free
 ·obtain⟨_,o,ho,_⟩:=I.ok.nr.mem hb
  exact I.base.free b o ho (I.ok.Jd b hb) λz=>I.ok.y4 b z hb
theorem Inv.step{g':Array GenState}{t':Nat}{d':Drawn}{ch:List Addr}(I:Inv X pins σ H s)
  (rH:∀b∈ch,(b∈X.ex\/X.s₀.heap.objs.size<=b)/\b≠X.env.locals/\(∀x c,X.env.cells.lookup x=some c->c≠b)/\∀p∈X.pn++pins,p.1≠b)
  (keep:∀b o,b≠X.env.locals->b∉X.fs->b∉ch->s.heap.get? b=some o->H b=none->h'.get? b=some o)
  (slot:∀b o,b≠X.env.locals->b∈X.fs->b∉ch->s.heap.get? b=some o->H b=none->∃sl,h'.get? b=some { o with slots:=sl }) (free:∀b o,b∉ch->s.heap.get? b=some o->H b=none->H' b=none)
  (there:∀b o,b∉ch->s.heap.get? b=some o->∃o',h'.get? b=some o')
  (tups:∀b xs,H b=some (.tup xs)->H' b=some (.tup xs)) (frzs:∀b o u,H b=some (.Aj o u)->H' b=some (.Aj o u)) (tbls:∀b ps,H b=some (.J7 ps)->∃more,H' b=some (.J7 (ps++more)))
  (ns:∀m,s.heap.Ns X.env.locals m->h'.Ns X.env.locals m) (cw:nH X.prog X.w H' h') (hg:AllBare g') :
  Inv X pins σ H' { s with heap:=h',gens:=g',drawn:=d',toks:=t' }:=by
 have Yd:∀b o,X.s₀.heap.get? b=some o->b≠X.env.locals:=λb o e=>bV (dg (bI e) I.ok.above)
 have Rc:∀b o,X.s₀.heap.get? b=some o->b∉X.ex->b∉ch:=λb o e hx hb=>by
  rcases(rH b hb).1 with z | z
  ·exact hx z
  ·exact absurd (dg (bI e) z) (lB _)
 have cellK:∀x c,X.env.cells.lookup x=some c->∀v,s.heap.IsCell c v->h'.IsCell c v:=λx c e v ⟨o,ho,hd⟩=>by
  have OJ:c∉ch:=λz=>(rH c z).2.2.1 x c e rfl
  by_cases hc:c∈X.fs
  ·obtain⟨sl,q⟩:=slot c o (I.Jf x c e) hc OJ ho (I.fO x c e)
   exact⟨_,q,hd⟩
  ·exact⟨o,keep c o (I.Jf x c e) hc OJ ho (I.fO x c e),hd⟩
 refine⟨I.ok,I.os,hg,⟨λb o e n hb hx=>?_,λb o e n hb hx=>?_,λb o e n hx=>?_,λb o e hx=>?_,λb xs e=>tups b xs (I.base.tups b xs e),λb o xs e=>frzs b o xs (I.base.frzs b o xs e),λb ps e=>?_⟩,?_,λx c e=>?_,?_,λx c e=>?_,λp hp=>?_,cw,I.len⟩
 ·exact keep b o (Yd b o e) hb (Rc b o e hx) (I.base.keep b o e n hb hx) (I.base.free b o e n hx)
 ·obtain⟨sl,e1⟩:=I.base.slot b o e n hb hx
  obtain⟨Sw,e2⟩:=slot b _ (Yd b o e) hb (Rc b o e hx) e1 (I.base.free b o e n hx)
  exact⟨Sw,e2⟩
 ·obtain⟨o',e1⟩:=I.base.there b o e hx
  exact free b o' (Rc b o e hx) e1 (I.base.free b o e n hx)
 ·obtain⟨o',e1⟩:=I.base.there b o e hx
  exact there b o' (Rc b o e hx) e1
 ·obtain⟨m1,e1⟩:=I.base.tbls b ps e
  obtain⟨m2,e2⟩:=tbls b _ e1
  exact⟨m1++m2,by rw[e2,Array.append_assoc]⟩
 ·obtain⟨m,hn,hl⟩:=I.loc
  refine⟨m,ns m hn,λi x v e1 e2 e3=>?_⟩
  obtain⟨u,r,l⟩:=hl i x v e1 e2 e3
  refine⟨u,r,?_⟩
  rcases l with l | ⟨k,c,e,z⟩
  ·exact .inl l
  ·exact .inr ⟨k,c,e,cellK x c e _ z⟩
 ·obtain⟨v,z⟩:=I.cell x c e
  exact⟨v,cellK x c e v z⟩
 ·obtain⟨m,⟨o,_,_,ho,_⟩,_⟩:=I.loc
  exact free _ o (λz=>(rH _ z).2.1 rfl) ho I.free
 ·obtain⟨v,o,ho,hd⟩:=I.cell x c e
  exact free c o (λz=>(rH c z).2.2.1 x c e rfl) ho (I.fO x c e)
 ·obtain⟨e,n,ne,nf,d⟩:=I.pin p hp
  have OJ:p.1∉ch:=λz=>(rH p.1 z).2.2.2 p hp rfl
  exact⟨keep p.1 p.2 ne nf OJ e n,free p.1 p.2 OJ e n,ne,nf,d⟩
theorem Inv.un{t':Nat}(I:Inv X pins σ H s)(u:Un X.fs [] H H' s.heap h')(cw:nH X.prog X.w H' h'):Inv X pins σ H' { s with heap:=h',toks:=t' }:=by
 obtain⟨m,⟨o,es,ep,ho,r⟩,_⟩:=id I.loc
 obtain⟨sl,hL⟩:=u.any ho I.free (by simp)
 exact I.step (g':=s.gens) (d':=s.drawn) (ch:=[]) (λ_ z=>nomatch z) (λb o _ hb _ e n=>u.keep b o e n hb (by simp)) (λb o _ hb _ e n=>u.slot b o e n hb (by simp)) (λb o _ e n=>u.free b o e n (by simp)) (λb o _ e=>u.there b o e (by simp)) u.tups u.frzs u.tbls (λm' hm=>by
  obtain⟨o',es',RK,vQ,r'⟩:=hm
  rw[ho]at vQ;cases vQ
  exact⟨_,es',RK,hL,r'⟩) cw I.bare
theorem Inv.call{g':Array GenState}{t':Nat}{d':Drawn}{ch:List Addr}(I:Inv X pins σ H s)(u:Un (mG X.stack) ch H H' s.heap h')(cw:nH X.prog X.w H' h')(hg:AllBare g')
  (rH:∀b∈ch,(b∈X.ex\/X.s₀.heap.objs.size<=b)/\b≠X.env.locals/\(∀x c,X.env.cells.lookup x=some c->c≠b)/\∀p∈X.pn++pins,p.1≠b) :
  Inv X pins σ H' { s with heap:=h',gens:=g',drawn:=d',toks:=t' }:=by
 obtain⟨m,⟨o,es,ep,ho,r⟩,_⟩:=id I.loc
 obtain⟨sl,hL⟩:=u.any ho I.free λz=>(rH _ z).2.1 rfl
 exact I.step (ch:=ch) rH (λb o hL hb hc e n=>u.keep b o e n (λz=>(cz.mp (I.va b z)).elim hL hb) hc) (λb o _ _ hc e n=>u.any e n hc) (λb o hc e n=>u.free b o e n hc) (λb o hc e=>u.there b o e hc) u.tups u.frzs u.tbls (λm' hm=>by
  obtain⟨o',es',RK,vQ,r'⟩:=hm
  rw[ho]at vQ;cases vQ
  exact⟨_,es',RK,hL,r'⟩) cw hg
theorem Inv.turned{t':Nat}{it:Addr}(I:Inv X pins σ H s)(k:∀b o,b≠it->s.heap.get? b=some o->h'.get? b=some o)(hn:H it=none)(hL:it≠X.env.locals)
  (h1:it∈X.ex\/X.s₀.heap.objs.size<=it) (h2:∀x c,X.env.cells.lookup x=some c->c≠it) (h3:∀p∈X.pn++pins,p.1≠it):Inv X pins σ H { s with heap:=h',toks:=t' }:=by
 have OD:∀b u,H b=some u->b≠it:=λb u e z=>by rw[z,hn]at e;cases e
 refine I.step (g':=s.gens) (d':=s.drawn) (ch:=[it]) (λb hb=>?_) (λb o _ _ hc e _=>k b o (λz=>hc (by simp[z])) e) (λb o _ _ hc e _=>⟨o.slots,k b o (λz=>hc (by simp[z])) e⟩) (λ_ _ _ _ n=>n)
  (λb o hc e=>⟨o,k b o (λz=>hc (by simp[z])) e⟩) (λ_ _ e=>e) (λ_ _ _ e=>e) (λb ps e=>⟨#[],by rw[e];simp⟩) (λm hm=>?_) (λb u e=>?_) I.bare
 ·have e:b=it:=by simpa using hb
  subst e
  exact⟨h1,hL,h2,h3⟩
 ·obtain⟨o,es,ep,ho,r⟩:=hm
  exact⟨o,es,ep,k _ o (iP hL) ho,r⟩
 ·refine(I.cw b u e).stay (λc v hc q=>k c v ?_ q) (λ_ q=>q) λ_ _ q=>q
  rcases hc with z | z
  ·rw[z];exact OD b u e
  ·exact OD c _ z
theorem Inv.tok(I:Inv X pins σ H s)(t:Nat):Inv X pins σ H { s with toks:=t }:=I.un (h':=s.heap) (t':=t) Un.refl I.cw
theorem Inv.kept{t':Nat}(I:Inv X pins σ H s)(k:∀b u,s.heap.get? b=some u->h'.get? b=some u):Inv X pins σ H { s with heap:=h',toks:=t' }:=I.un (Un.kept k) (I.cw.kept k)
theorem Inv.laid{a:Addr}{o:HO}{t':Nat}(I:Inv X pins σ H s)(k:∀b u,s.heap.get? b=some u->h'.get? b=some u)(hp:s.heap.objs.size<=a)(new:du X.prog X.w (upd H a o) h' a o) :
  Inv X pins σ (upd H a o) { s with heap:=h',toks:=t' }:=I.un (Un.laid k hp (I.cw.fresh hp)) (I.cw.laid k hp new)
theorem Inv.write{x e:Addr}{o:HO}{t':Nat}(I:Inv X pins σ H s)(mu:RQ (H x))(he:e=x\/H e=some (.own x))(k:∀b u,b≠e->s.heap.get? b=some u->h'.get? b=some u)(Nr:∃u,h'.get? e=some u)
  (new:du X.prog X.w (upd H x o) h' x o):Inv X pins σ (upd H x o) { s with heap:=h',toks:=t' }:=I.un (Un.write mu he k Nr) (I.cw.write mu he k Nr new)
theorem Inv.zX{wy:List (Addr×Obj)}(I:Inv X pins σ H s)(h:∀p∈wy,s.heap.get? p.1=some p.2/\H p.1=none/\p.1≠X.env.locals/\p.1∉X.fs/\∀v,p.2.data≠.cell v):Inv X wy σ H s:=
 ⟨I.ok,I.os,I.bare,I.base,I.loc,I.cell,I.free,I.fO,λp hp=>(fM.mp hp).elim (λz=>I.pin p (pI _ z)) (h p),I.cw,I.len⟩
theorem qD{N:List Str}(hN:N.Nodup){i j:Nat}{x:Str}(a:N[i]?=some x)(b:N[j]?=some x):i=j:=by
 obtain⟨h1,e1⟩:=gp.mp a
 obtain⟨h2,e2⟩:=gp.mp b
 exact(List.getElem_inj hN).mp (e1.trans e2.symm)
theorem tf{M:Model}{A:Around}{E:Value->Shared->Prop}{i:Nat}{x:Str}{v:V}{u:Value}{Q:Unit->Shared->Prop}(I:Inv X pins σ H s)(hN:X.N.Nodup)(hi:X.N[i]?=some x)(hx:Loc X.env.scope x)(r:RelV v u)
  (h:∀s',Inv X pins (σ.set i (some v)) H s'->(∃a,Heap.SameBut a s.heap s'.heap/\(a=X.env.locals\/X.env.cells.lookup x=some a))->Q () s') (hf:X.fn x=true\/X.env.scope.names.lookup x=some .local:=by first | exact .inl rfl | exact .inr rfl | assumption):wpAny M A (storeName X.env x u) Q E s:=by
 obtain⟨m,hn,hl⟩:=id I.loc
 have Mh:(X.env.scope.kind == .class||(X.env.scope.kind == .module&&X.env.locals != X.env.globals))=false:=by rw[I.ok.kind];rfl
 have Nq:i<σ.length:=by rw[I.len];exact(gp.mp hi).1
 have Jf:=I.Jf
 have tracked:∀{a:Addr} {h':Heap},(∃o,s.heap.get? a=some o/\H a=none)->Heap.SameBut a s.heap h'->nH X.prog X.w H h':=λ{a h'} ha hs b ob e=>by
  obtain⟨_,_,xc⟩:=ha
  refine(I.cw b ob e).stay (λc w' hc q=>(hs.2 c ?_).trans q) (λ_ q=>q) λ_ _ q=>q
  rintro rfl
  rcases hc with rfl | hc
  ·rw[xc]at e;cases e
  ·rw[xc]at hc;cases hc
 rcases hx with hk | hk
 ·refine wpAny_storeName_local hk hn (λh' JM hs=>?_) Mh
  obtain⟨oL,_,_,Pm,_⟩:=id hn
  refine h _ ⟨I.ok,I.os,I.bare,⟨λb o e n hb hx=>?_,λb o e n hb hx=>?_,I.base.free,λb o e hx=>?_,I.base.tups,I.base.frzs,I.base.tbls⟩,⟨_,JM,λj y v' e1 e2 e3=>?_⟩,λy c e=>?_,I.free,I.fO,λp hp=>?_,tracked ⟨oL,Pm,I.free⟩ hs,by simpa using I.len⟩ ⟨_,hs,.inl rfl⟩
  ·exact(hs.2 b (bV (dg (bI e) I.ok.above))).trans (I.base.keep b o e n hb hx)
  ·obtain⟨sl,e1⟩:=I.base.slot b o e n hb hx
   exact⟨sl,(hs.2 b (bV (dg (bI e) I.ok.above))).trans e1⟩
  ·obtain⟨o',e1⟩:=I.base.there b o e hx
   exact⟨o',(hs.2 b (bV (dg (bI e) I.ok.above))).trans e1⟩
  ·by_cases hj:j=i
   ·subst hj
    rw[hi]at e1;cases e1
    rw[zt Nq]at e2
    cases e2
    exact⟨u,r,.inl ⟨hk,by simp⟩⟩
   ·rw[yc (iP hj)]at e2
    obtain⟨u',r',q⟩:=hl j y v' e1 e2 e3
    refine⟨u',r',?_⟩
    rcases q with ⟨k,e⟩ | ⟨k,c,e,z⟩
    ·refine .inl ⟨k,?_⟩
     have:y≠x:=λe=>hj (qD hN e1 (e ▸ hi))
     simp[this,e]
    ·exact .inr ⟨k,c,e,z.sameBut hs (Jf y c e)⟩
  ·obtain⟨w',z⟩:=I.cell y c e
   exact⟨w',z.sameBut hs (Jf y c e)⟩
  ·obtain⟨e,n,ne,nf,d⟩:=I.pin p hp
   exact⟨(hs.2 p.1 ne).trans e,n,ne,nf,d⟩
 ·have VD:X.fn x=true:=by
   rcases hf with z | z
   ·exact z
   ·rw[z]at hk;cases hk
  obtain⟨c,hc⟩:=I.ok.has x (.inl hk)
  obtain⟨w',z⟩:=I.cell x c hc
  refine wpAny_storeName_cell I.ok.kind hk hc z (λh' xN hs=>?_)
  obtain⟨oc,Za,Vv⟩:=id z
  refine h { s with heap:=h' } ⟨I.ok,I.os,I.bare,⟨λb o e n hb hx=>?_,λb o e n hb hx=>?_,I.base.free,λb o e hx=>?_,I.base.tups,I.base.frzs,I.base.tbls⟩,⟨m,hn.sameBut hs (iP (Jf x c hc)),λj y v' e1 e2 e3=>?_⟩,λy c' e=>?_,I.free,I.fO,λp hp=>?_,tracked ⟨oc,Za,I.fO x c hc⟩ hs,by simpa using I.len⟩ ⟨c,hs,.inr hc⟩
  ·exact(hs.2 b (bV (dg (bI e) (I.ok.JS x c VD hc)))).trans (I.base.keep b o e n hb hx)
  ·obtain⟨sl,e1⟩:=I.base.slot b o e n hb hx
   exact⟨sl,(hs.2 b (bV (dg (bI e) (I.ok.JS x c VD hc)))).trans e1⟩
  ·obtain⟨o',e1⟩:=I.base.there b o e hx
   exact⟨o',(hs.2 b (bV (dg (bI e) (I.ok.JS x c VD hc)))).trans e1⟩
  ·by_cases hj:j=i
   ·subst hj
    rw[hi]at e1;cases e1
    rw[zt Nq]at e2
    cases e2
    exact⟨u,r,.inr ⟨.inl hk,c,hc,xN⟩⟩
   ·rw[yc (iP hj)]at e2
    obtain⟨u',r',q⟩:=hl j y v' e1 e2 e3
    refine⟨u',r',?_⟩
    rcases q with q | ⟨k,c',e,z'⟩
    ·exact .inl q
    ·refine .inr ⟨k,c',e,z'.sameBut hs ?_⟩
     rintro rfl
     exact hj (qD hN e1 (I.ok.inj _ _ _ e hc ▸ hi))
  ·by_cases Zm:c'=c
   ·subst Zm;exact⟨_,xN⟩
   ·obtain⟨w2,z2⟩:=I.cell y c' e
    exact⟨w2,z2.sameBut hs Zm⟩
  ·obtain⟨e,n,ne,nf,d⟩:=I.pin p hp
   refine⟨(hs.2 p.1 ?_).trans e,n,ne,nf,d⟩
   intro q
   rw[q,Za]at e
   have q':oc=p.2:=de e
   exact d w' (by rw[<-q'];exact Vv)
theorem mU{M:Model}{A:Around}{E:Value->Shared->Prop}{i:Nat}{x:Str}{v:V}{u:Value}{Q:Unit->Shared->Prop}(I:Inv X pins σ H s)(hN:X.N.Nodup)(hi:X.N[i]?=some x)(hx:Loc X.env.scope x)(r:RelV v u)
  (h:∀s',Inv X pins (σ.set i (some v)) H s'->Q () s') (hf:X.fn x=true\/X.env.scope.names.lookup x=some .local:=by first | exact .inl rfl | exact .inr rfl | assumption):wpAny M A (storeName X.env x u) Q E s:=
 tf I hN hi hx r (λs' I' _=>h s' I') hf
theorem Inv.call'{s':Shared}{ch:List Addr}(I:Inv X pins σ H s)(ho:s'.os=s.os)(u:Un (mG X.stack) ch H H' s.heap s'.heap)(cw:nH X.prog X.w H' s'.heap)(hg:AllBare s'.gens)
  (rH:∀b∈ch,(b∈X.ex\/X.s₀.heap.objs.size<=b)/\b≠X.env.locals/\(∀x c,X.env.cells.lookup x=some c->c≠b)/\∀p∈X.pn++pins,p.1≠b):Inv X pins σ H' s':=by
 obtain⟨h',g',d',t',o'⟩:=s'
 have e:o'=s.os:=ho
 subst e
 exact I.call (g':=g') (t':=t') (d':=d') u cw hg rH
end
abbrev XK:=Value->Option Addr->Hp->Prop
abbrev St:=List (Option V)
abbrev VK:=V->Hp->Prop
abbrev TE:=St->Hp->VK->Prop
abbrev TT:=St->Hp->(Bool->Hp->Prop)->Prop
abbrev TA:=St->Hp->(List V->Hp->Prop)->Prop
structure Ends where
 nx:St->Hp->Prop
 rt:VK
 bk:St->Hp->Prop:=λ_ _=>False
 ct:St->Hp->Prop:=λ_ _=>False
abbrev TS:=Ends->St->Hp->Prop
def EP(X:Cx)(pins:List (Addr×Obj))(σ:St)(Q:VK)(u:Value)(s':Shared):Prop:=∃v H',Inv X pins σ H' s'/\RelV v u/\Q v H'
def TP(X:Cx)(pins:List (Addr×Obj))(σ:St)(Q:Bool->Hp->Prop)(b:Bool)(s':Shared):Prop:=∃H',Inv X pins σ H' s'/\Q b H'
def AP(X:Cx)(pins:List (Addr×Obj))(σ:St)(Q:List V->Hp->Prop)(us:List Value)(s':Shared):Prop:=∃vs H',Inv X pins σ H' s'/\Vals vs us/\Q vs H'
def SP(X:Cx)(pins:List (Addr×Obj))(D:Ends)(f:Flow)(s':Shared):Prop:=
 match f with
 | .next=>∃σ' H',Inv X pins σ' H' s'/\D.nx σ' H'
 | .brk=>∃σ' H',Inv X pins σ' H' s'/\D.bk σ' H'
 | .cont=>∃σ' H',Inv X pins σ' H' s'/\D.ct σ' H'
 | .ret u=>∃v σ' H',Inv X pins σ' H' s'/\RelV v u/\D.rt v H'
def PE(X:Cx)(e:Expr)(t:TE):Prop:=
 ∀(pins:List (Addr×Obj)) (s:Shared) (σ:St) (H:Hp) (Q:VK),Inv X pins σ H s->t σ H Q->wpAny (model X.prog X.w) X.A (eval e X.env) (EP X pins σ Q) X.xe s
def PT(X:Cx)(e:Expr)(t:TT):Prop:=
 ∀(pins:List (Addr×Obj)) (s:Shared) (σ:St) (H:Hp) (Q:Bool->Hp->Prop),Inv X pins σ H s->t σ H Q->wpAny (model X.prog X.w) X.A (isTrue e X.env (eval e X.env)) (TP X pins σ Q) X.xe s
def PW(X:Cx)(e:Expr)(t:TT):Prop:=
 ∀(whole:Sem Value) (pins:List (Addr×Obj)) (s:Shared) (σ:St) (H:Hp) (Q:Bool->Hp->Prop),Inv X pins σ H s->t σ H Q->wpAny (model X.prog X.w) X.A (isTrue e X.env whole) (TP X pins σ Q) X.xe s
theorem PW.pt{X:Cx}{e:Expr}{t:TT}(h:PW X e t):PT X e t:=h _
def PA(X:Cx)(es:List Expr)(t:TA):Prop:=
 ∀(pos:Pos) (pins:List (Addr×Obj)) (s:Shared) (σ:St) (H:Hp) (Q:List V->Hp->Prop),Inv X pins σ H s->t σ H Q->wpAny (model X.prog X.w) X.A (spliced (backTo pos (starEach es X.env))) (AP X pins σ Q) X.xe s
def PS(X:Cx)(st:Stmt)(t:TS):Prop:=
 ∀(pins:List (Addr×Obj)) (s:Shared) (σ:St) (H:Hp) (D:Ends),Inv X pins σ H s->t D σ H->wpAny (model X.prog X.w) X.A (exec st X.env) (SP X pins D) X.xe s
def rj(X:Cx)(st:List Stmt)(t:TS):Prop:=
 ∀(pins:List (Addr×Obj)) (s:Shared) (σ:St) (H:Hp) (D:Ends),Inv X pins σ H s->t D σ H->wpAny (model X.prog X.w) X.A (execs st X.env) (SP X pins D) X.xe s
theorem cL{α:Type}{t:Sem α}{Q Q':α->Shared->Prop}{M:Model}{A:Around}{E:Value->Shared->Prop}{s:Shared}(h:wpAny M A t Q E s)(hQ:∀a s,Q a s->Q' a s):wpAny M A t Q' E s:=eT h hQ λ_ _ x=>x
end L2
namespace L2
open PySem PySem.Spec PyProof.Rows
section
variable {X:Cx}
theorem bin{a b:Expr}{ta tb:TE}(ha:PE X a ta)(hb:PE X b tb){pins:List (Addr×Obj)}{s:Shared}{σ:St}{H:Hp}{R:V->V->Hp->Prop}(I:Inv X pins σ H s)(h:ta σ H λx H1=>tb σ H1 λy H2=>R x y H2)
  {α:Type} {Q:α->Shared->Prop} {f:Value->Value->Sem α}
  (hf:∀v u s2 x y H2,Inv X pins σ H2 s2->RelV x v->RelV y u->R x y H2->wpAny (model X.prog X.w) X.A (f v u) Q X.xe s2) :
  wpAny (model X.prog X.w) X.A (eval a X.env) (λv s₁=>wpAny (model X.prog X.w) X.A (eval b X.env) (λu s₂=>wpAny (model X.prog X.w) X.A (f v u) Q X.xe s₂) X.xe s₁) X.xe s:=by
 refine cL (ha pins s σ H _ I h) λv s1 ⟨x,H1,I1,r1,q1⟩=>?_
 refine cL (hb pins s1 σ H1 _ I1 q1) λu s2 ⟨y,H2,I2,r2,q2⟩=>?_
 exact hf v u s2 x y H2 I2 r1 r2 q2
def rm(i:Nat):TE:=λσ H Q=>∃v,σ[i]?=some (some v)/\Q v H
def tC(v:V):TE:=λ_ H Q=>Q v H
theorem Ew{i:Nat}{x:Str}{pos:Pos}(hN:X.N[i]?=some x)(hv:QK X.env.scope x)(hd:(x==("__debug__" : Str))=false:=by decide)(Ca:(x==("__classdict__" : Str))=false:=by decide):PE X (.Name x pos) (rm i):=by
 intro pins s σ H Q I h
 obtain⟨v,e,h⟩:=h
 obtain⟨m,hn,hl⟩:=I.loc
 obtain⟨u,r,l⟩:=hl i x v hN e hv
 have fin:EP X pins σ Q u s:=⟨v,H,I,r,h⟩
 rcases l with ⟨hk,hm⟩ | ⟨hk,c,hc,oP⟩
 ·exact wpAny_Name (wpAny_loadName_local I.ok.kind hk hn hm fin) hd
 ·rcases hk with hk | hk
  ·exact wpAny_Name (wpAny_loadName_cell I.ok.kind hk hc oP fin) hd
  ·exact wpAny_Name (wpAny_loadName_free I.ok.kind hk hc oP fin Ca) hd
theorem K1{i j pos}:PE X (.Constant (.int i) j pos) (tC (.int i)):=λ_ _ _ H _ I h=>wpAny_Constant_int ⟨.int i,H,I.tok _,⟨_,rfl⟩,h⟩
theorem Ou{b j pos}:PE X (.Constant (.bool b) j pos) (tC (.bl b)):=λ_ _ _ H _ I h=>Constant_bool ⟨.bl b,H,I,rfl,h⟩
theorem KZ{j pos}:PE X (.Constant .none j pos) (tC .non):=λ_ _ _ H _ I h=>Constant_none ⟨.non,H,I,rfl,h⟩
theorem Ex{x j pos}:PE X (.Constant (.str x) j pos) (tC (.str x)):=λ_ _ _ H _ I h=>Calls.Constant_str ⟨.str x,H,I.tok _,⟨_,rfl⟩,h⟩
def Gl(X:Cx)(x:Str):Prop:=X.env.kindOf x=some .globalImplicit
theorem kZ{E:Value->Shared->Prop}{pins:List (Addr×Obj)}{s:Shared}{σ:St}{H:Hp}{x:Str}{u:Value}{pos:Pos}{Q:Value->Shared->Prop}(I:Inv X pins σ H s)(hg:Gl X x)(hm:X.mg x=some u)(h:Q u s)
  (hd:(x==("__debug__" : Str))=false:=by decide):wpAny (model X.prog X.w) X.A (eval (.Name x pos) X.env) Q E s:=
 Calls.Name_function_global I.ok.kind hg (Calls.loadGlobal_global (by rw[I.ok.glob];exact I.mod.glob.keeps I.bk) hm h) hd
theorem qK{E:Value->Shared->Prop}{pins:List (Addr×Obj)}{s:Shared}{σ:St}{H:Hp}{x:Str}{u:Value}{pos:Pos}{Q:Value->Shared->Prop}(I:Inv X pins σ H s)(hg:Gl X x)(hm:X.mg x=none)(hv:bootBuiltins x=some u)(h:Q u s)
  (hn:x≠"__name__":=by decide) (hd:(x==("__debug__" : Str))=false:=by decide):wpAny (model X.prog X.w) X.A (eval (.Name x pos) X.env) Q E s:=by
 obtain⟨mb,h1,h2⟩:=I.mod.blt
 exact Calls.Name_function_global I.ok.kind hg (Calls.loadGlobal_builtin (by rw[I.ok.glob];exact I.mod.glob.keeps I.bk) hm (by rw[I.ok.blt];exact h1.keeps I.bk) ((h2 x hn).trans hv) h) hd
theorem HY{x:Str}{v:V}{u:Value}{pos:Pos}(hg:Gl X x)(hm:X.mg x=some u)(r:RelV v u)(hd:(x==("__debug__" : Str))=false:=by decide):PE X (.Name x pos) (tC v):=
 λ_ _ _ H _ I h=>kZ I hg hm ⟨v,H,I,r,h⟩ hd
theorem vi{x:Str}{v:V}{u:Value}{pos:Pos}(hg:Gl X x)(hm:X.mg x=none)(hv:bootBuiltins x=some u)(r:RelV v u)(hn:x≠"__name__":=by decide)(hd:(x==("__debug__" : Str))=false:=by decide):PE X (.Name x pos) (tC v):=
 λ_ _ _ H _ I h=>qK I hg hm hv ⟨v,H,I,r,h⟩ hn hd
variable {a b:Expr}{ta tb:TE}{pos:Pos}
def PC(X:Cx)(op:CmpOp)(a b:Expr)(t:TE):Prop:=
 ∀(pins:List (Addr×Obj)) (s:Shared) (σ:St) (H:Hp) (Q:VK),Inv X pins σ H s->t σ H Q->
  wpAny (model X.prog X.w) X.A (eval a X.env) (λv s₁=>wpAny (model X.prog X.w) X.A (eval b X.env) (λu s₂=>wpAny (model X.prog X.w) X.A (compareOp op v u) (EP X pins σ Q) X.xe s₂) X.xe s₁) X.xe s
theorem Fl(b:Expr){op:CmpOp}(h:op≠.In)(h2:op≠.NotIn):behindInMarks op b=false:=by
 have e1:(op==CmpOp.In)=false:=by cases op <;> first | rfl | exact absurd rfl h
 have e2:(op==CmpOp.NotIn)=false:=by cases op <;> first | rfl | exact absurd rfl h2
 cases b <;> simp[behindInMarks,e1,e2]
def tB(t:TE):TT:=λσ H Q=>t σ H λx H1=>∃c,x=.bl c/\Q c H1
theorem Tc{op:CmpOp}{t:TE}(h:PC X op a b t)(h1:behindInMarks op b=false:=by first | exact Fl _ (by decide) (by decide) | rfl):PT X (.Compare a [op] [b] pos) (tB t):=by
 intro pins s σ H Q I hw
 refine wpAny_isTrue_Compare1 (cL (h pins s σ H _ I hw) λv s1 h1=>cL h1 λu s2 h2=>cL h2 λc s3 ⟨x,H1,I1,r1,q1⟩=>?_) h1
 obtain⟨d,rfl,q⟩:=q1
 cases r1
 exact pG ⟨H1,I1,q⟩
theorem En{e:Expr}{t:TE}(h:PE X e t)(he:∀whole,isTrue e X.env whole=(do let v <-whole;standAt e.pos;holding [v] (truthy v)):=by intro _;rfl):PT X e (tB t):=by
 intro pins s σ H Q I hw
 refine isTrue_plain (cL (h pins s σ H _ I hw) λv s1 ⟨x,H1,I1,r1,q1⟩=>?_) (he _)
 obtain⟨d,rfl,q⟩:=q1
 cases r1
 exact pG ⟨H1,I1,q⟩
variable {tA Gx:TT}{rest:List Expr}
def Kf(t u:TT):TT:=λσ H Q=>t σ H λc H1=>if c=true then u σ H1 Q else Q false H1
def R0(t u:TT):TT:=λσ H Q=>t σ H λc H1=>if c=true then Q true H1 else u σ H1 Q
def Kb(t:TT):TT:=λσ H Q=>t σ H λc H1=>Q (!c) H1
theorem HB(ha:PT X a tA):PW X (.BoolOp .And [a] pos) tA:=by
 intro wh pins s σ H Q I h
 refine isTrue_and (cL (ha pins s σ H Q I h) λc s1 e=>?_)
 cases c with
 | true=>exact isTrue_and_nil e
 | false=>exact e
theorem Kx(ha:PT X a tA):PW X (.BoolOp .Or [a] pos) tA:=by
 intro wh pins s σ H Q I h
 refine isTrue_or (cL (ha pins s σ H Q I h) λc s1 e=>?_)
 cases c with
 | false=>exact isTrue_or_nil e
 | true=>exact e
theorem Ky(ha:PT X a tA)(hb:PW X (.BoolOp .And (b::rest) pos) Gx):PW X (.BoolOp .And (a::b::rest) pos) (Kf tA Gx):=by
 intro wh pins s σ H Q I h
 refine isTrue_and (cL (ha pins s σ H _ I h) λc s1 ⟨H1,I1,q1⟩=>?_)
 cases c with
 | true=>exact hb wh pins s1 σ H1 Q I1 q1
 | false=>exact⟨H1,I1,q1⟩
theorem Ol(ha:PT X a tA)(hb:PW X (.BoolOp .Or (b::rest) pos) Gx):PW X (.BoolOp .Or (a::b::rest) pos) (R0 tA Gx):=by
 intro wh pins s σ H Q I h
 refine isTrue_or (cL (ha pins s σ H _ I h) λc s1 ⟨H1,I1,q1⟩=>?_)
 cases c with
 | true=>exact⟨H1,I1,q1⟩
 | false=>exact hb wh pins s1 σ H1 Q I1 q1
theorem Kz(ha:PT X a tA):PT X (.UnaryOp .Not a pos) (Kb tA):=by
 intro pins s σ H Q I h
 exact isTrue_not (ha pins s σ H (λc H1=>Q (!c) H1) I h)
def Dx(ta tb:TE):TE:=λσ H Q=>ta σ H λx H1=>∃c,x=.bl c/\if c=true then tb σ H1 Q else Q (.bl false) H1
def RZ(ta tb:TE):TE:=λσ H Q=>ta σ H λx H1=>∃c,x=.bl c/\if c=true then Q (.bl true) H1 else tb σ H1 Q
def NQ(ta:TE):TE:=λσ H Q=>ta σ H λx H1=>∃c,x=.bl c/\Q (.bl (!c)) H1
theorem KY{op}{t:TE}(h:PE X a t):PE X (.BoolOp op [a] pos) t:=λpins s σ H Q I hw=>BoolOp_one (h pins s σ H Q I hw)
theorem K3(ha:PE X a ta)(hb:PE X (.BoolOp .And (b::rest) pos) tb):PE X (.BoolOp .And (a::b::rest) pos) (Dx ta tb):=by
 intro pins s σ H Q I h
 refine BoolOp_and (cL (ha pins s σ H _ I h) λv s1 ⟨x,H1,I1,r1,q1⟩=>?_)
 obtain⟨c,rfl,q1⟩:=q1
 cases r1
 refine pG ?_
 cases c with
 | true=>exact hb pins s1 σ H1 Q I1 q1
 | false=>exact⟨.bl false,H1,I1,rfl,q1⟩
def tIf(t:TT)(ta tb:TE):TE:=λσ H Q=>t σ H λc H1=>if c=true then ta σ H1 Q else tb σ H1 Q
end
end L2
namespace L2
open PySem PySem.Spec PyProof.Rows
def nD(K:PySem.W.Frag)(H:Hp)(a:Addr)(xs:List V):Prop:=
 Rd H a (.lst xs)\/
  ∃(o:Obj) (its:Array Value) (n:Nat),K.lookup a=some o/\o.cls=.type "list"/\o.dict=none/\o.data=.seq its n/\its.size<=sizeLine/\Vals xs its.toList
def oV(K:PySem.W.Frag)(H:Hp)(a:Addr)(xs:List V):Prop:=
 Rd H a (.tup xs)\/
  ∃(o:Obj) (its:Array Value) (n:Nat),K.lookup a=some o/\o.cls=.type "tuple"/\o.data=.seq its n/\its.size<=sizeLine/\Vals xs its.toList
def Xt:Value->Option V
 | .none=>some .non
 | .bool b=>some (.bl b)
 | .int i _=>some (.int i)
 | .str x _=>some (.str x)
 | .bytes b _=>some (.Gj b)
 | .float b _=>some (.Nv b)
 | .ref a=>some (.ref a)
 | .type n=>some (.ty n)
 | _=>none
theorem RelV.abs{x:V}{u:Value}(r:RelV x u):Xt u=some x:=by
 cases x with
 | non=>cases r;rfl
 | bl _=>cases r;rfl
 | int _=>obtain⟨t,rfl⟩:=r;rfl
 | str _=>obtain⟨t,rfl⟩:=r;rfl
 | Gj _=>obtain⟨t,rfl⟩:=r;rfl
 | Nv _=>obtain⟨t,rfl⟩:=r;rfl
 | ref _=>cases r;rfl
 | ty _=>cases r;rfl
theorem RelV.inj{x y:V}{u:Value}(r:RelV x u)(q:RelV y u):x=y:=de (r.abs.symm.trans q.abs)
theorem Vals.inj:∀{xs ys:List V} {us:List Value},Vals xs us->Vals ys us->xs=ys
 | _,_,_,.nil,.nil=>rfl
 | _,_,_,.cons r t,.cons r' t'=>by rw[r.inj r',Vals.inj t t']
section
variable {X:Cx}{pins:List (Addr×Obj)}{σ:St}{H:Hp}{s:Shared}{a:Addr}{xs ys:List V}
theorem nD.of{K:PySem.W.Frag}(h:H a=some (.lst xs)):nD K H a xs:=.inl (.inl h)
theorem oV.of{K:PySem.W.Frag}(h:H a=some (.tup xs)):oV K H a xs:=.inl (.inl h)
theorem Inv.list(I:Inv X pins σ H s)(h:nD X.K H a xs):∃its:List Value,Vals xs its/\PlainL s.heap a its.toArray/\xs.length<=sizeLine:=by
 rcases h with h | ⟨o,its,n,hk,hc,hd,hs,hz,r⟩
 ·obtain⟨z,its,n,r,e⟩:=h.ok I.cw
  exact⟨its,r,⟨_,n,e,rfl,rfl,rfl⟩,z⟩
 ·refine⟨its.toList,r,⟨o,n,I.nG a o hk,hc,hd,by simpa using hs⟩,?_⟩
  have e:=r.length
  simp only[iR]at e
  lia
theorem Inv.tuple(I:Inv X pins σ H s)(h:oV X.K H a xs):∃its:List Value,Vals xs its/\IsTup s.heap a its.toArray/\xs.length<=sizeLine:=by
 rcases h with h | ⟨o,its,n,hk,hc,hs,hz,r⟩
 ·obtain⟨z,its,r,p⟩:=h.ok I.cw
  exact⟨its,r,p,z⟩
 ·refine⟨its.toList,r,⟨o,I.nG a o hk,hc,n,by simpa using hs⟩,?_⟩
  have e:=r.length
  simp only[iR]at e
  lia
theorem Inv.Fw(I:Inv X pins σ H s)(h:nD X.K H a xs)(h':nD X.K H a ys):xs=ys:=by
 obtain⟨its,r,⟨o,n,e,_,_,d⟩,_⟩:=I.list h
 obtain⟨its',r',⟨o',n',e',_,_,d'⟩,_⟩:=I.list h'
 rw[e]at e';cases e'
 rw[d]at d'
 injection d' with d1 _
 have:its=its':=by simpa using gk Array.toList d1
 subst this
 exact r.inj r'
theorem Inv.nW(I:Inv X pins σ H s)(h:oV X.K H a xs)(h':oV X.K H a ys):xs=ys:=by
 obtain⟨its,r,⟨o,e,_,n,d⟩,_⟩:=I.tuple h
 obtain⟨its',r',⟨o',e',_,n',d'⟩,_⟩:=I.tuple h'
 rw[e]at e';cases e'
 rw[d]at d'
 injection d' with d1 _
 have:its=its':=by simpa using gk Array.toList d1
 subst this
 exact r.inj r'
end
abbrev Cx.wish(X:Cx)(E:Value->Shared->Prop):Cx:={ X with xe:=E }
abbrev Cx.GC(X:Cx):Cx:=X.wish λ_ _=>False
theorem Cx.Ok.wish{X:Cx}(ok:X.Ok)(E:Value->Shared->Prop):(X.wish E).Ok:=
 ⟨ok.mod,ok.kind,ok.glob,ok.blt,ok.above,ok.inj,ok.has,ok.JS,ok.hd,ok.frames,ok.Kh,ok.P6,ok.bs,ok.Gk,ok.wJ,ok.y4,ok.nr,ok.Jd⟩
theorem Cx.Ok.jV{X:Cx}{E:Value->Shared->Prop}(ok:(X.wish E).Ok):X.Ok:=
 ⟨ok.mod,ok.kind,ok.glob,ok.blt,ok.above,ok.inj,ok.has,ok.JS,ok.hd,ok.frames,ok.Kh,ok.P6,ok.bs,ok.Gk,ok.wJ,ok.y4,ok.nr,ok.Jd⟩
section
variable {X:Cx}{pins:List (Addr×Obj)}{σ:St}{H:Hp}{s:Shared}{E:Value->Shared->Prop}
theorem Inv.wish(I:Inv X pins σ H s)(E:Value->Shared->Prop):Inv (X.wish E) pins σ H s:=⟨I.ok.wish E,I.os,I.bare,I.base,I.loc,I.cell,I.free,I.fO,I.pin,I.cw,I.len⟩
theorem Inv.jV(I:Inv (X.wish E) pins σ H s):Inv X pins σ H s:=⟨I.ok.jV,I.os,I.bare,I.base,I.loc,I.cell,I.free,I.fO,I.pin,I.cw,I.len⟩
theorem SP.jV{D:Ends}{f:Flow}{s':Shared}(h:SP (X.wish E) pins D f s'):SP X pins D f s':=by
 cases f with
 | next=>obtain⟨σ',H',I,q⟩:=h;exact⟨σ',H',I.jV,q⟩
 | brk=>obtain⟨σ',H',I,q⟩:=h;exact⟨σ',H',I.jV,q⟩
 | cont=>obtain⟨σ',H',I,q⟩:=h;exact⟨σ',H',I.jV,q⟩
 | ret u=>obtain⟨v,σ',H',I,r,q⟩:=h;exact⟨v,σ',H',I.jV,r,q⟩
theorem rj.GC{st:List Stmt}{t:TS}(h:rj X.GC st t):rj X st t:=λpins s σ H D I hw=>
 eT (h pins s σ H D (I.wish _) hw) (λ_ _ q=>q.jV) λ_ _ z=>False.elim z
end
section
variable {X:Cx}{st:Stmt}{rest:List Stmt}{t u:TS}{e:Expr}{te:TE}{pos:Pos}
def zH:TS:=λD σ H=>D.nx σ H
def tSeq(t u:TS):TS:=λD σ H=>t { D with nx:=u D } σ H
theorem HJ:rj X [] zH:=λ_ _ σ H _ I h=>ux ⟨σ,H,I,h⟩
theorem Eo(h1:PS X st t)(h2:rj X rest u):rj X (st::rest) (tSeq t u):=by
 intro pins s σ H D I h
 refine wpAny_execs_cons (cL (h1 pins s σ H { D with nx:=u D } I h) λf s1 q=>?_)
 cases f with
 | next=>
  obtain⟨σ',H',I',q⟩:=q
  exact h2 pins s1 σ' H' D I' q
 | ret v=>exact q
 | brk=>exact q
 | cont=>exact q
theorem HF(h1:PS X st t):rj X [st] t:=by
 intro pins s σ H D I h
 refine wpAny_execs_cons (cL (h1 pins s σ H D I h) λf s1 q=>?_)
 cases f with
 | next=>exact ux q
 | ret v=>exact q
 | brk=>exact q
 | cont=>exact q
theorem Inv.quiet{pins:List (Addr×Obj)}{σ:St}{H:Hp}{s:Shared}(I:Inv X pins σ H s):interactive X.env=false:=by simp[interactive,I.ok.kind]
def Du(te:TE):TS:=λD σ H=>te σ H λ_ H1=>D.nx σ H1
theorem zV(he:PE X e te)(hs:swapsWith e none pos.line X.env=pure false:=by rfl):PS X (.Expr e pos) (Du te):=by
 intro pins s σ H D I h
 exact wpAny_Expr_any (cL (he pins s σ H _ I h) λv s1 ⟨x,H1,I1,r1,q1⟩=>⟨σ,H1,I1,q1⟩) I.quiet hs
def Ka(te:TE):TS:=λD σ H=>te σ H D.rt
theorem KH(he:PE X e te):PS X (.Return (some e) pos) (Ka te):=by
 intro pins s σ H D I h
 exact wpAny_Return_some (cL (he pins s σ H _ I h) λv s1 ⟨x,H1,I1,r1,q1⟩=>⟨x,σ,H1,I1,r1,q1⟩)
def NP:TS:=λD _ H=>D.rt .non H
def Hf(c:TT)(t u:TS):TS:=λD σ H=>c σ H λb H1=>if b=true then t D σ H1 else u D σ H1
theorem Om{c:Expr}{a b:List Stmt}{tc:TT}(hc:PT X c tc)(ha:rj X a t)(hb:rj X b u):PS X (.If c a b pos) (Hf tc t u):=by
 intro pins s σ H D I h
 refine wpAny_If (cL (hc pins s σ H _ I h) λd s1 ⟨H1,I1,q1⟩=>?_)
 cases d with
 | true=>exact ha pins s1 σ H1 D I1 q1
 | false=>exact hb pins s1 σ H1 D I1 q1
def Kc:TS:=λ_ _ _=>False
end
abbrev TG:=V->St->Hp->(St->Hp->Prop)->Prop
abbrev GX:=List V->St->Hp->(St->Hp->Prop)->Prop
def PG(X:Cx)(target:Expr)(t:TG):Prop:=
 ∀(pins:List (Addr×Obj)) (s:Shared) (σ:St) (H:Hp) (v:V) (u:Value) (Q:St->Hp->Prop),Inv X pins σ H s->RelV v u->t v σ H Q->
  wpAny (model X.prog X.w) X.A (assign target X.env u) (λ_ s'=>∃σ' H',Inv X pins σ' H' s'/\Q σ' H') X.xe s
def QL(X:Cx)(ts:List Expr)(t:GX):Prop:=
 ∀(pins:List (Addr×Obj)) (s:Shared) (σ:St) (H:Hp) (vs:List V) (us:List Value) (Q:St->Hp->Prop),Inv X pins σ H s->Vals vs us->t vs σ H Q->
  wpAny (model X.prog X.w) X.A (assignInOrder ((assignEach ts X.env).map (·.2)) us) (λ_ s'=>∃σ' H',Inv X pins σ' H' s'/\Q σ' H') X.xe s
abbrev zp:=V->V->V->Hp->(Hp->Prop)->Prop
def Cw(X:Cx)(t:zp):Prop:=
 ∀(pins:List (Addr×Obj)) (s:Shared) (σ:St) (H:Hp) (o i v:V) (ov iv u:Value) (Q:Hp->Prop),Inv X pins σ H s->RelV o ov->RelV i iv->RelV v u->t o i v H Q->
  wpAny (model X.prog X.w) X.A (setItem ov iv u) (λ_ s'=>∃H',Inv X pins σ H' s'/\Q H') X.xe s
abbrev Nz:=V->V->Hp->VK->Prop
def RP(X:Cx)(op:Operator)(t:Nz):Prop:=
 ∀(pins:List (Addr×Obj)) (s:Shared) (σ:St) (H:Hp) (x y:V) (v u:Value) (Q:VK),Inv X pins σ H s->RelV x v->RelV y u->t x y H Q->
  wpAny (model X.prog X.w) X.A (inplaceOp op v u) (EP X pins σ Q) X.xe s
section
variable {X:Cx}{pos:Pos}
def cU(i:Nat):TG:=λv σ H Q=>Q (σ.set i (some v)) H
theorem zZ{i:Nat}{x:Str}(hN:X.N.Nodup)(hi:X.N[i]?=some x)(hx:Loc X.env.scope x)(hf:X.fn x=true\/X.env.scope.names.lookup x=some .local:=by first | exact .inl rfl | exact .inr rfl | assumption):PG X (.Name x pos) (cU i):=by
 intro pins s σ H v u Q I r h
 exact wpAny_assign_Name (mU I hN hi hx r (λs' I'=>⟨_,H,I',h⟩) hf)
def Mr:GX:=λvs σ H Q=>vs=[]/\Q σ H
def FW(t:TG)(u:GX):GX:=λvs σ H Q=>∃v r,vs=v::r/\t v σ H λσ' H'=>u r σ' H' Q
theorem HX:QL X [] Mr:=by
 intro pins s σ H vs us Q I r h
 obtain⟨e,h⟩:=h
 subst e
 cases r
 exact assignInOrder_nil ⟨σ,H,I,h⟩
theorem wA{e:Expr}{es:List Expr}{t:TG}{u:GX}(h1:PG X e t)(h2:QL X es u)
  (hs:(assignEach (e::es) X.env).map (·.2)=assign e X.env::(assignEach es X.env).map (·.2):=by rfl):QL X (e::es) (FW t u):=by
 intro pins s σ H vs us Q I r h
 obtain⟨v,vr,e1,h⟩:=h
 subst e1
 cases r with
 | cons r rr=>
  rw[hs]
  refine assignInOrder_cons (cL (h1 pins s σ H _ _ _ I r h) λ_ s1 ⟨σ1,H1,I1,q1⟩=>?_)
  exact h2 pins s1 σ1 H1 _ _ Q I1 rr q1
def P1(K:PySem.W.Frag)(n:Nat)(t:GX):TG:=λv σ H Q=>∃a xs,v=.ref a/\oV K H a xs/\xs.length=n/\t xs σ H Q
theorem yJ{es:List Expr}{k:Nat}{t:GX}{n:Nat}(hc:X.calm=true)(h:QL X es t)
  (hn:(assignEach es X.env).length=n:=by rfl) (JL:(assignEach es X.env).findIdx? (·.1)=none:=by rfl):PG X (.Tuple es k pos) (P1 X.K n t):=by
 intro pins s σ H v u Q I r hw
 obtain⟨a,xs,e1,hq,hl,hw⟩:=hw
 subst e1
 cases r
 obtain⟨its,rv,ht,hz⟩:=I.tuple hq
 refine assign_Tuple_tuple (I.ok.hd hc) ht (by simp[hn,<-hl,rv.length]) JL λh' hx=>?_
 have I1:Inv X pins σ H { s with heap:=h' }:=I.kept (t':=s.toks) λb o e=>hx b o (bV (bI e)) e
 exact h pins _ σ H xs _ Q I1 (by simpa using rv) hw
def Mq(to ti:TE)(t:zp):TG:=λv σ H Q=>to σ H λo H1=>ti σ H1 λi H2=>t o i v H2 λH3=>Q σ H3
theorem Eu{o i:Expr}{to ti:TE}{t:zp}(ho:PE X o to)(hi:PE X i ti)(hs:Cw X t)
  (ha:∀v,assign (.Subscript o i pos) X.env v=(do
   let ov <-holding [v] (eval o X.env)
   let iv <-holding [v,ov] (eval i X.env)
   standAt pos
   holding [v,ov,iv] (setItem ov iv v)
   release [v,ov,iv] []):=by intro _;rfl):PG X (.Subscript o i pos) (Mq to ti t):=by
 intro pins s σ H v u Q I r h
 rw[ha]
 refine av (ic (cL (ho pins s σ H _ I h) λov s1 ⟨x,H1,I1,r1,q1⟩=>?_))
 refine av (ic (cL (hi pins s1 σ H1 _ I1 q1) λiv s2 ⟨y,H2,I2,r2,q2⟩=>?_))
 refine av (pP (av (ic (cL (hs pins s2 σ H2 x y v ov iv u _ I2 r1 r2 r q2) λ_ s3 ⟨H3,I3,q3⟩=>?_))))
 exact wpAny_release ⟨σ,H3,I3,q3⟩
def u6(te:TE)(g:TG):TS:=λD σ H=>te σ H λx H1=>g x σ H1 D.nx
theorem vh{tg e:Expr}{te:TE}{g:TG}(he:PE X e te)(hg:PG X tg g)(hs:swapsWithSole [tg] e pos.line X.env=pure false:=by rfl)(hw:swappedStores [tg] e X.env=pure none:=by rfl)
  (h1:(assignEach [tg] X.env).map (·.2)=[assign tg X.env]:=by rfl):PS X (.Assign [tg] e pos) (u6 te g):=by
 intro pins s σ H D I h
 refine wpAny_Assign_stores (cL (he pins s σ H _ I h) λv s1 ⟨x,H1,I1,r1,q1⟩=>?_) hs hw
 rw[h1]
 exact cL (hg pins s1 σ H1 x v _ I1 r1 q1) λ_ s2 q=>q
theorem KD{i:Nat}{x:Str}{e:Expr}{te:TE}{pos':Pos}(hN:X.N.Nodup)(hi:X.N[i]?=some x)(hx:Loc X.env.scope x)(he:PE X e te)(hs:swapsWith e (some (.Name x pos')) pos.line X.env=pure false:=by rfl)(hf:X.fn x=true\/X.env.scope.names.lookup x=some .local:=by first | exact .inl rfl | exact .inr rfl | assumption) :
  PS X (.Assign [.Name x pos'] e pos) (u6 te (cU i)):=by
 intro pins s σ H D I h
 refine wpAny_Assign_Name (cL (he pins s σ H _ I h) λv s1 ⟨y,H1,I1,r1,q1⟩=>?_) hs
 exact mU I1 hN hi hx r1 (λs2 I2=>⟨_,H1,I2,q1⟩) hf
def R4(i:Nat)(te:TE)(ti:Nz):TS:=λD σ H=>∃x,σ[i]?=some (some x)/\te σ H λy H1=>ti x y H1 λz H2=>D.nx (σ.set i (some z)) H2
def Dw(to ti te:TE)(yu:V->V->Hp->VK->Prop)(J6:Nz)(yt:zp):TS:=λD σ H=>to σ H λo H1=>ti σ H1 λi H2=>yu o i H2 λx H3=>te σ H3 λy H4=>J6 x y H4 λz H5=>yt o i z H5 λH6=>D.nx σ H6
def M5(X:Cx)(t:V->V->Hp->VK->Prop):Prop:=
 ∀(pins:List (Addr×Obj)) (s:Shared) (σ:St) (H:Hp) (o i:V) (ov iv:Value) (Q:VK),Inv X pins σ H s->RelV o ov->RelV i iv->t o i H Q->
  wpAny (model X.prog X.w) X.A (getItem ov iv) (EP X pins σ Q) X.xe s
theorem zW{o i e:Expr}{to ti te:TE}{yu:V->V->Hp->VK->Prop}{J6:Nz}{yt:zp}{op:Operator}{qj:Pos}(ho:PE X o to)(hi:PE X i ti)(hg:M5 X yu)(he:PE X e te)(hp:RP X op J6)(hs:Cw X yt)
  (ha:∀ov iv new,augStore i ov iv new=(do holding [new,ov,iv] (setItem ov iv new);release [new,ov,iv] [];pure .next):=by intros;rfl):PS X (.AugAssign (.Subscript o i qj) op e pos) (Dw to ti te yu J6 yt):=by
 intro pins s σ H D I h
 refine wpAny_AugAssign_SubscriptAny (cL (ho pins s σ H _ I h) λov s1 ⟨x1,H1,I1,r1,q1⟩=>?_) ha
 refine cL (hi pins s1 σ H1 _ I1 q1) λiv s2 ⟨x2,H2,I2,r2,q2⟩=>?_
 refine cL (hg pins s2 σ H2 x1 x2 ov iv _ I2 r1 r2 q2) λold s3 ⟨x3,H3,I3,r3,q3⟩=>?_
 refine cL (he pins s3 σ H3 _ I3 q3) λv s4 ⟨x4,H4,I4,r4,q4⟩=>?_
 refine cL (hp pins s4 σ H4 x3 x4 old v _ I4 r3 r4 q4) λnew s5 ⟨x5,H5,I5,r5,q5⟩=>?_
 exact cL (hs pins s5 σ H5 x1 x2 x5 ov iv new _ I5 r1 r2 r5 q5) λ_ s6 ⟨H6,I6,q6⟩=>⟨σ,H6,I6,q6⟩
def Vi(f:Int->Int->Int):Nz:=λx y H Q=>∃i j,x=.int i/\y=.int j/\Q (.int (f i j)) H
theorem LK:RP X .Add (Vi λi j=>i+j):=by
 intro pins s σ H x y v u Q I r1 r2 h
 obtain⟨i,j,e1,e2,q⟩:=h
 subst e1;subst e2
 obtain⟨t,rfl⟩:=r1
 obtain⟨t',rfl⟩:=r2
 exact iadd_int ⟨.int _,H,I.tok _,⟨_,rfl⟩,q⟩
theorem Lz:RP X .Sub (Vi λi j=>i-j):=by
 intro pins s σ H x y v u Q I r1 r2 h
 obtain⟨i,j,e1,e2,q⟩:=h
 subst e1;subst e2
 obtain⟨t,rfl⟩:=r1
 obtain⟨t',rfl⟩:=r2
 exact isub_int ⟨.int _,H,I.tok _,⟨_,rfl⟩,q⟩
def yw(c:TT)(tb:TS):TS:=λD σ H=>∃W:Nat->St->Hp->Prop,(∃m,W m σ H)/\∀m σ H,W m σ H->
 c σ H λb H1=>if b=true then ∃N:St->Hp->Prop,(∀σ' H',N σ' H'->∃m',m'<m/\W m' σ' H')/\tb { D with nx:=N,ct:=N,bk:=D.nx } σ H1 else D.nx σ H1
theorem Ep{c:Expr}{body:List Stmt}{tc:TT}{tb:TS}(hp:PassesOwn (model X.prog X.w) X.A X.env X.xe)(hc:PT X c tc)(hb:rj X body tb):PS X (.While c body [] pos) (yw tc tb):=by
 intro pins s σ H D I h
 obtain⟨W,⟨m0,w0⟩,turn⟩:=h
 refine wpAny_While (codeAny_whileLoop (λn s'=>∃σ' H',Inv X pins σ' H' s'/\W n σ' H') ?_ m0 ⟨σ,H,I,w0⟩)
 rintro n s1 ⟨σ1,H1,I1,w1⟩
 refine pD hp (cL (hc pins s1 σ1 H1 _ I1 (turn n σ1 H1 w1)) λb s2 ⟨H2,I2,q2⟩=>?_)
 cases b with
 | true=>
  obtain⟨N,hN,q2⟩:=q2
  rw[bu rfl]
  refine pD hp (cL (hb pins s2 σ1 H2 _ I2 q2) λf s3 q3=>?_)
  cases f with
  | next=>
   obtain⟨σ3,H3,I3,n3⟩:=q3
   obtain⟨m',hm,w3⟩:=hN σ3 H3 n3
   exact⟨m',hm,σ3,H3,I3,w3⟩
  | cont=>
   obtain⟨σ3,H3,I3,n3⟩:=q3
   obtain⟨m',hm,w3⟩:=hN σ3 H3 n3
   exact⟨m',hm,σ3,H3,I3,w3⟩
  | brk=>exact q3
  | ret v=>exact q3
 | false=>
  rw[aI cO]
  exact ux ⟨σ1,H2,I2,q2⟩
end
structure It where
 go:Nat->Hp->Prop
 CJ:Nat->Hp->V->Hp->Prop
 stop:Nat->Hp->Prop
def rR(X:Cx)(pins:List (Addr×Obj))(H:Hp)(b:Addr):Prop:=
 H b=none/\b≠X.env.locals/\b∉X.fs/\(b∈X.ex\/X.s₀.heap.objs.size<=b)/\(∀x c,X.env.cells.lookup x=some c->c≠b)/\∀p∈X.pn++pins,p.1≠b
theorem Inv.FX{X:Cx}{pins:List (Addr×Obj)}{σ:St}{H H':Hp}{s:Shared}{b:Addr}(I:Inv X pins σ H s)(hb:s.heap.objs.size<=b)(hn:H' b=none):rR X pins H' b:=by
 refine⟨hn,lA (dg I.lt hb),I.Ux hb,.inr (cN I.sz hb),λx c e z=>?_,λp hp z=>?_⟩
 ·obtain⟨v,q⟩:=I.cell x c e
  exact absurd (dg q.lt (by rw[z];exact hb)) (lB _)
 ·exact absurd (dg (bI (I.pin p hp).1) (by rw[z];exact hb)) (lB _)
structure Turn(P:Program)(w:World)(K:PySem.W.Frag)(tg:Expr)(J:It)(fp:List Addr)(it:Addr)(tn:Nat->Heap->Prop):Prop where
 mem:it∈fp
 obj:∀i h,tn i h->∀b∈fp,∃o,h.get? b=some o/\∀v,o.data≠.cell v
 keep:∀i h h',tn i h->(∀b∈fp,∀o,h.get? b=some o->h'.get? b=some o)->tn i h'
 item:∀(X:Cx),X.prog=P->X.w=w->X.K=K->X.calm=true->∀(i:Nat) (pins:List (Addr×Obj)) (s:Shared) (σ:St) (H:Hp) (E:Value->Shared->Prop),Inv X pins σ H s->(∀b∈fp,rR X pins H b)->tn i s.heap->J.go i H->
  wpAny (model P w) X.A (pyNext (.ref it)) (λr s1=>∃u,r=some u/\
   wpAny (model P w) X.A (letOwnedTupleGo tg (.ref it) u) (λ_ s2=>∃x H',Inv X pins σ H' s2/\RelV x u/\J.CJ i H x H'/\tn (i+1) s2.heap/\∀b∈fp,H' b=none) E s1) E s
 done:∀(X:Cx),X.prog=P->X.w=w->X.K=K->X.calm=true->∀(i:Nat) (pins:List (Addr×Obj)) (s:Shared) (σ:St) (H:Hp) (E:Value->Shared->Prop),Inv X pins σ H s->(∀b∈fp,rR X pins H b)->tn i s.heap->J.stop i H->
  wpAny (model P w) X.A (pyNext (.ref it)) (λr s1=>r=none/\Inv X pins σ H s1) E s
 self:∀(A:Around) (i:Nat) (s:Shared) (Q:Value->Shared->Prop) (E:Value->Shared->Prop),tn i s.heap->Q (.ref it) s->wpAny (model P w) A (pyIter (.ref it)) Q E s
abbrev TI:=St->Hp->(It->Hp->Prop)->Prop
def PIE(X:Cx)(pins:List (Addr×Obj))(σ:St)(tg:Expr)(R:It->Hp->Prop)(Rh:Value)(s2:Shared):Prop:=
 ∃(it:Addr) (fp:List Addr) (tn:Nat->Heap->Prop) (J:It) (H':Hp),Rh=.ref it/\Inv X pins σ H' s2/\Turn X.prog X.w X.K tg J fp it tn/\tn 0 s2.heap/\(∀b∈fp,rR X pins H' b)/\R J H'
def PI(X:Cx)(tg iter:Expr)(wi:TI):Prop:=
 ∀(pins:List (Addr×Obj)) (s:Shared) (σ:St) (H:Hp) (R:It->Hp->Prop),Inv X pins σ H s->wi σ H R->
  wpAny (model X.prog X.w) X.A (eval iter X.env) (λv s1=>wpAny (model X.prog X.w) X.A (pyIter v) (PIE X pins σ tg R) X.xe s1) X.xe s
theorem Ai{M : Model}{A : Around}{E : Value → Shared → Prop}{s : Shared}{tg : Expr}{it : Addr}{u : Value}{o : Obj}{n : String}{vs : Array Value}{Q : Unit → Shared → Prop}(ho : s.heap.get? it=some o)(hc : o.cls=.type n)(hd : o.data=.fields vs)
    (hn : ["enumerate", "zip", "dict_itemiterator", "dict_reverseitemiterator", "odict_iterator", "itertools.zip_longest", "itertools.pairwise"].contains n=false) (hQ : Q () s) : wpAny M A (letOwnedTupleGo tg (.ref it) u) Q E s := by
  unfold letOwnedTupleGo
  cases tg <;> first
    | exact aU hQ
    | (cases u <;> first
        | exact aU hQ
        | (refine av (wpAny_load ho ?_)
           rw[hc, hd]
           show wpAny M A (if (["enumerate", "zip", "dict_itemiterator", "dict_reverseitemiterator", "odict_iterator", "itertools.zip_longest", "itertools.pairwise"].contains n&&vs[0]? == some (rawInt _))=true then _ else _) Q E s
           rw[aI (by intro h; rw[hn, Bool.false_and]at h; cases h)]
           exact aU hQ))
def Gv(K:PySem.W.Frag)(a:Addr):It:=
 ⟨λi H=>∃xs x,nD K H a xs/\xs[i]?=some x,λi H x H'=>H'=H/\∀xs,nD K H a xs->xs[i]?=some x,λi H=>∃xs,nD K H a xs/\xs.length<=i⟩
def M8(K:PySem.W.Frag)(a:Addr):It:=
 ⟨λi H=>∃xs x,oV K H a xs/\xs[i]?=some x,λi H x H'=>H'=H/\∀xs,oV K H a xs->xs[i]?=some x,λi H=>∃xs,oV K H a xs/\xs.length<=i⟩
def xO(lo:Int)(n:Nat):It:=⟨λi _=>i<n,λi H x H'=>H'=H/\x=.int (lo+i),λi _=>n<=i⟩
theorem Bf{P:Program}{w:World}{K:PySem.W.Frag}{tg:Expr}(a it:Addr):Turn P w K tg (Gv K a) [it] it (λi h=>h.IsListIter it a i) where
 mem:=by simp
 obj:=λi h st b hb=>by
  have e:b=it:=by simpa using hb
  subst e
  obtain⟨o,e,c,d⟩:=st
  exact⟨o,e,λv z=>by rw[d]at z;cases z⟩
 keep:=λi h h' st k=>st.at λo e=>k it (by simp) o e
 item:=by
  intro X hP hw hK hc i pins s σ H E I hf st hg
  subst hP hw hK
  obtain⟨xs,x,hq,hx⟩:=hg
  obtain⟨its,rv,p,hz⟩:=I.list hq
  obtain⟨u,hu,ru⟩:=rv.get hx
  obtain⟨f0,f1,f2,f3,f4,f5⟩:=hf it (by simp)
  refine wpAny_pyNext_list_item st p.isList (x:=u) (by simpa using hu) λh' rg sb=>?_
  have I1:Inv X pins σ H { s with heap:=h' }:=I.turned (t':=s.toks) (λb o hb e=>(sb.2 b hb).trans e) f0 f1 f3 f4 f5
  obtain⟨o,e,c,d⟩:=id rg
  exact⟨u,rfl,Ai (s:={ s with heap:=h' }) e c d (by decide) ⟨x,H,I1,ru,⟨rfl,λys hy=>by rw[I.Fw hy hq];exact hx⟩,rg,λb hb=>(hf b hb).1⟩⟩
 done:=by
  intro X hP hw hK hc i pins s σ H E I hf st hg
  subst hP hw hK
  obtain⟨xs,hq,hx⟩:=hg
  obtain⟨its,rv,p,hz⟩:=I.list hq
  obtain⟨f0,f1,f2,f3,f4,f5⟩:=hf it (by simp)
  have hl:=rv.length
  exact wpAny_pyNext_list_end (I.ok.hd hc) st p.isList (by simp;lia) λh' eb=>⟨rfl,I.turned (t':=s.toks) (λb o hb e=>eb b o hb e) f0 f1 f3 f4 f5⟩
 self:=λ_ _ _ _ _ st h=>wpAny_pyIter_listiter st h
theorem yq{P:Program}{w:World}{K:PySem.W.Frag}{tg:Expr}(a it:Addr):Turn P w K tg (M8 K a) [it] it (λi h=>h.IsTupleIter it a i) where
 mem:=by simp
 obj:=λi h st b hb=>by
  have e:b=it:=by simpa using hb
  subst e
  obtain⟨o,e,c,d⟩:=st
  exact⟨o,e,λv z=>by rw[d]at z;cases z⟩
 keep:=λi h h' st k=>st.at λo e=>k it (by simp) o e
 item:=by
  intro X hP hw hK hc i pins s σ H E I hf st hg
  subst hP hw hK
  obtain⟨xs,x,hq,hx⟩:=hg
  obtain⟨its,rv,p,hz⟩:=I.tuple hq
  obtain⟨u,hu,ru⟩:=rv.get hx
  obtain⟨f0,f1,f2,f3,f4,f5⟩:=hf it (by simp)
  refine wpAny_pyNext_tuple_item st (show s.heap.IsTuple a its.toArray from p) (x:=u) (by simpa using hu) λh' rg sb=>?_
  have I1:Inv X pins σ H { s with heap:=h' }:=I.turned (t':=s.toks) (λb o hb e=>(sb.2 b hb).trans e) f0 f1 f3 f4 f5
  obtain⟨o,e,c,d⟩:=id rg
  exact⟨u,rfl,Ai (s:={ s with heap:=h' }) e c d (by decide) ⟨x,H,I1,ru,⟨rfl,λys hy=>by rw[I.nW hy hq];exact hx⟩,rg,λb hb=>(hf b hb).1⟩⟩
 done:=by
  intro X hP hw hK hc i pins s σ H E I hf st hg
  subst hP hw hK
  obtain⟨xs,hq,hx⟩:=hg
  obtain⟨its,rv,p,hz⟩:=I.tuple hq
  obtain⟨f0,f1,f2,f3,f4,f5⟩:=hf it (by simp)
  have hl:=rv.length
  exact wpAny_pyNext_tuple_end (I.ok.hd hc) st (show s.heap.IsTuple a its.toArray from p) (by simp;lia) λh' eb=>⟨rfl,I.turned (t':=s.toks) (λb o hb e=>eb b o hb e) f0 f1 f3 f4 f5⟩
 self:=λ_ _ _ _ _ st h=>wpAny_pyIter_tupleiter st h
theorem yr{P:Program}{w:World}{K:PySem.W.Frag}{tg:Expr}(it:Addr)(lo:Int)(n:Nat):Turn P w K tg (xO lo n) [it] it (λi h=>IsRangeIter h it (lo+(i:Nat)*1) ((n:Int)-(i:Nat)) 1) where
 mem:=by simp
 obj:=λi h st b hb=>by
  have e:b=it:=by simpa using hb
  subst e
  exact⟨_,st,λv z=>by
   have z':Data.fields _=Data.cell v:=z
   cases z'⟩
 keep:=λi h h' st k=>k it (by simp) _ st
 item:=by
  intro X hP hw hK hc i pins s σ H E I hf st hg
  subst hP hw hK
  obtain⟨f0,f1,f2,f3,f4,f5⟩:=hf it (by simp)
  have W:=Walks.range (prog:=X.prog) (w:=X.w) (I.ok.hd hc) it lo 1 n
  refine W.item i s _ _ hg st λv h' tk hv rg kk=>?_
  obtain⟨t,rfl⟩:=hv
  have I1:Inv X pins σ H { s with heap:=h',toks:=tk }:=I.turned (λb o hb e=>kk b o (by simpa using hb) e) f0 f1 f3 f4 f5
  refine⟨_,rfl,Ai (s:={ s with heap:=h',toks:=tk }) (n:="range_iterator") rg rfl rfl (by decide) ⟨.int (lo+i),H,I1,⟨t,?_⟩,⟨rfl,rfl⟩,rg,λb hb=>(hf b hb).1⟩⟩
  rw[Int.mul_one]
 done:=by
  intro X hP hw hK hc i pins s σ H E I hf st hg
  subst hP hw hK
  obtain⟨f0,f1,f2,f3,f4,f5⟩:=hf it (by simp)
  exact wpAny_pyNext_range_end (I.ok.hd hc) st (by have:n<=i:=hg;lia) λh' eb=>⟨rfl,I.turned (t':=s.toks) (λb o hb e=>eb b o hb e) f0 f1 f3 f4 f5⟩
 self:=λ_ _ _ _ _ st h=>wpAny_pyIter_rangeiter st h
end L2
namespace L2
open PySem PySem.Spec PyProof.Rows
section
variable {X:Cx}{tg:Expr}
def FG(K:PySem.W.Frag)(tl:TE):TI:=λσ H R=>tl σ H λx H1=>∃a,x=.ref a/\(∃xs,nD K H1 a xs)/\R (Gv K a) H1
def LR(K:PySem.W.Frag)(tl:TE):TI:=λσ H R=>tl σ H λx H1=>∃a,x=.ref a/\(∃xs,oV K H1 a xs)/\R (M8 K a) H1
theorem HW{l:Expr}{tl:TE}(hl:PE X l tl):PI X tg l (FG X.K tl):=by
 intro pins s σ H R I h
 refine cL (hl pins s σ H _ I h) λv s1 ⟨x,H1,I1,r1,q1⟩=>?_
 obtain⟨a,e,⟨xs,hq⟩,q⟩:=q1
 subst e
 cases r1
 obtain⟨its,rv,p,hz⟩:=I1.list hq
 refine wpAny_pyIter_list p.isList ?_
 refine⟨s1.heap.objs.size,[s1.heap.objs.size],_,_,H1,rfl,I1.kept (t':=s1.toks) λb o e=>bP _ e,Bf a _,⟨_,eS _ rfl,rfl,rfl⟩,λb hb=>?_,q⟩
 have e:b=s1.heap.objs.size:=by simpa using hb
 subst e
 exact I1.FX (bF _) (I1.cw.fresh (bF _))
theorem KQ{l:Expr}{tl:TE}(hl:PE X l tl):PI X tg l (LR X.K tl):=by
 intro pins s σ H R I h
 refine cL (hl pins s σ H _ I h) λv s1 ⟨x,H1,I1,r1,q1⟩=>?_
 obtain⟨a,e,⟨xs,hq⟩,q⟩:=q1
 subst e
 cases r1
 obtain⟨its,rv,p,hz⟩:=I1.tuple hq
 refine wpAny_pyIter_tuple (show s1.heap.IsTuple a its.toArray from p) ?_
 refine⟨s1.heap.objs.size,[s1.heap.objs.size],_,_,H1,rfl,I1.kept (t':=s1.toks) λb o e=>bP _ e,yq a _,⟨_,eS _ rfl,rfl,rfl⟩,λb hb=>?_,q⟩
 have e:b=s1.heap.objs.size:=by simpa using hb
 subst e
 exact I1.FX (bF _) (I1.cw.fresh (bF _))
theorem Ef{pins:List (Addr×Obj)}{σ:St}{H:Hp}{s:Shared}{R:It->Hp->Prop}{E:Value->Shared->Prop}{lo hi:Int}{t u v:Tok}{tk:Nat}(I:Inv X pins σ H s)(h1 : -(2 ^ 62)<=lo)(h2:lo<2 ^ 62)(h3 : -(2 ^ 62)<=hi)(h4:hi<2 ^ 62)
  (q:R (xO lo (hi-lo).toNat) H):wpAny (model X.prog X.w) X.A (pyIter (.ref s.heap.objs.size)) (PIE X pins σ tg R) E { s with heap:=s.heap.push { cls:=.type "range",data:=.fields #[.int lo t,.int hi u,.int 1 v] },toks:=tk }:=by
 refine wpAny_pyIter_range (IsRange.new ..) (small_one h1 h2 h3 h4) ?_
 have I1:Inv X pins σ H { s with heap:=s.heap.push { cls:=.type "range",data:=.fields #[.int lo t,.int hi u,.int 1 v] },toks:=tk }:=I.kept λb o e=>bP _ e
 refine⟨(s.heap.push { cls:=.type "range",data:=.fields #[.int lo t,.int hi u,.int 1 v] }).objs.size,[(s.heap.push { cls:=.type "range",data:=.fields #[.int lo t,.int hi u,.int 1 v] }).objs.size],_,_,H,rfl,
  I1.kept (t':=tk) λb o e=>bP _ e,yr _ lo (hi-lo).toNat,?_,λb hb=>?_,q⟩
 ·have e1:lo+((0:Nat):Int)*1=lo:=by simp
  have e2:(((hi-lo).toNat:Nat):Int)-((0:Nat):Int)=Builtin.Range.rangeSize lo hi 1:=by rw[rangeSize_one];split <;> lia
  show IsRangeIter _ _ (lo+((0:Nat):Int)*1) ((((hi-lo).toNat:Nat):Int)-((0:Nat):Int)) 1
  rw[e1,e2]
  exact eS _ rfl
 ·have e:b=(s.heap.push { cls:=.type "range",data:=.fields #[.int lo t,.int hi u,.int 1 v] }).objs.size:=by simpa using hb
  subst e
  exact I1.FX (bF _) (I1.cw.fresh (bF _))
def Fz(ta:TA):TI:=λσ H R=>ta σ H λvs H1=>∃j:Int,vs=[.int j]/\-(2 ^ 62)<=j/\j<2 ^ 62/\R (xO 0 j.toNat) H1
def Pg(ta:TA):TI:=λσ H R=>ta σ H λvs H1=>∃i j:Int,vs=[.int i,.int j]/\(-(2 ^ 62)<=i/\i<2 ^ 62/\-(2 ^ 62)<=j/\j<2 ^ 62)/\R (xO i (j-i).toNat) H1
theorem tq{a:Expr}{ta:TA}{p pos:Pos}(hg:Gl X "range")(hm:X.mg "range" = none)(ha:PA X [a] ta)(hs:starEach [a] X.env=[(false,eval a X.env)]:=by rfl):PI X tg (.Call (.Name "range" p) [a] [] pos) (Fz ta):=by
 intro pins s σ H R I h
 refine Call_ (qK I hg hm boot_range (ym (cL (ha pos pins s σ H _ I h) λus s1 ⟨vs,H1,I1,r1,q1⟩=>?_) hs rfl))
 obtain⟨j,e,q1,q2,q⟩:=q1
 subst e
 cases r1 with
 | cons r rr=>
  cases rr
  obtain⟨t,rfl⟩:=r
  exact call_range_1 (Ef I1 (by lia) (by lia) q1 q2 (by simpa using q))
def Hh(wi:TI)(g:TG)(tb:TS):TS:=λD σ H=>wi σ H λJ H1=>∃W:Nat->Nat->St->Hp->Prop,(∃m,W 0 m σ H1)/\∀i m σ H,W i m σ H->
 (J.stop i H/\D.nx σ H)\/(J.go i H/\∃N:St->Hp->Prop,(∀σ' H',N σ' H'->∃m',m'<m/\W (i+1) m' σ' H')/\∀x H',J.CJ i H x H'->g x σ H' λσ2 H2=>tb { D with nx:=N,ct:=N,bk:=D.nx } σ2 H2)
def qx(fp:List Addr)(h:Heap):List (Addr×Obj):=fp.filterMap λb=>(h.get? b).map λo=>(b,o)
theorem jh{fp:List Addr}{h:Heap}{b:Addr}{o:Obj}(hb:b∈fp)(e:h.get? b=some o):(b,o)∈qx fp h:=List.mem_filterMap.mpr ⟨b,hb,by rw[e];rfl⟩
theorem By{fp:List Addr}{h:Heap}{p:Addr×Obj}(hp:p∈qx fp h):p.1∈fp/\h.get? p.1=some p.2:=by
 obtain⟨b,hb,e⟩:=List.mem_filterMap.mp hp
 cases q:h.get? b with
 | none=>rw[q]at e;cases e
 | some o=>
  rw[q]at e
  have e':(b,o)=p:=de e
  subst e'
  exact⟨hb,q⟩
theorem Inv.pinned{pins:List (Addr×Obj)}{σ:St}{H:Hp}{s:Shared}{fp:List Addr}(I:Inv X pins σ H s)(hf:∀b∈fp,rR X pins H b)(ho:∀b∈fp,∃o,s.heap.get? b=some o/\∀v,o.data≠.cell v):Inv X (pins++qx fp s.heap) σ H s:=
 I.zX λp hp=>(fM.mp hp).elim (λz=>I.pin p (iS _ z)) λz=>by
  obtain⟨hb,e⟩:=By z
  obtain⟨f0,f1,f2,_⟩:=hf p.1 hb
  obtain⟨o,e',d⟩:=ho p.1 hb
  rw[e]at e';cases e'
  exact⟨e,f0,f1,f2,d⟩
theorem Inv.mS{pins pl:List (Addr×Obj)}{σ:St}{H:Hp}{s:Shared}(I:Inv X (pins++pl) σ H s):Inv X pins σ H s:=I.zX λp hp=>I.pin p (iS _ (pI _ hp))
theorem KJ{iter:Expr}{body:List Stmt}{wi:TI}{g:TG}{tb:TS}{pos:Pos}(hp:PassesOwn (model X.prog X.w) X.A X.env X.xe)(hc:X.calm=true)(hi:PI X tg iter wi)(hg:PG X tg g)(hb:rj X body tb)
  (hs:∀x,foldedSetIterable iter X.env x=pure x:=by intro _;rfl):PS X (.For tg iter body [] pos) (Hh wi g tb):=by
 intro pins s σ H D I h
 refine wpAny_For (cL (hi pins s σ H _ I h) λv s1 h1=>cL h1 λRh s2 h2=>?_) hs
 obtain⟨it,fp,tn,J,H2,e,I2,T,Gy,f2,W,⟨m0,w0⟩,turn⟩:=h2
 subst e
 have stat:∀{H':Hp},(∀b∈fp,H' b=none)->∀b∈fp,rR X pins H' b:=λhn b hb=>⟨hn b hb,(f2 b hb).2⟩
 refine codeAny_forLoop_any (λn s'=>∃i σ' H',Inv X pins σ' H' s'/\tn i s'.heap/\(∀b∈fp,H' b=none)/\W i n σ' H') ?_ m0 ⟨0,σ,H2,I2,Gy,λb hb=>(f2 b hb).1,w0⟩
 rintro n s3 ⟨i,σ3,H3,I3,XF,ZQ,w3⟩
 rcases turn i n σ3 H3 w3 with ⟨stop,qn⟩ | ⟨go,N,hN,step⟩
 ·refine pD hp (cL (T.done X rfl rfl rfl hc i pins s3 σ3 H3 X.xe I3 (stat ZQ) XF stop) λr s4 ⟨hr,I4⟩=>?_)
  subst hr
  exact ux ⟨σ3,H3,I4,qn⟩
 ·refine pD hp (cL (T.item X rfl rfl rfl hc i pins s3 σ3 H3 X.xe I3 (stat ZQ) XF go) λr s4 ⟨u,hr,h4⟩=>?_)
  subst hr
  refine pD hp (cL h4 λ_ s5 ⟨x,H5,I5,r5,y5,R6,fr5⟩=>?_)
  have I5':=I5.pinned (stat fr5) (T.obj _ _ R6)
  refine pD hp (cL (hg _ s5 σ3 H5 x u _ I5' r5 (step x H5 y5)) λ_ s6 ⟨σ6,H6,I6,q6⟩=>?_)
  refine pD hp (cL (hb _ s6 σ6 H6 _ I6 q6) λf s7 q7=>?_)
  have again:∀{σ7:St} {H7:Hp},Inv X (pins++qx fp s5.heap) σ7 H7 s7->N σ7 H7->∃m,m<n/\∃i σ' H',Inv X pins σ' H' s7/\tn i s7.heap/\(∀b∈fp,H' b=none)/\W i m σ' H':=λ{σ7 H7} I7 n7=>by
   obtain⟨m',hm,w7⟩:=hN σ7 H7 n7
   refine⟨m',hm,i+1,σ7,H7,I7.mS,T.keep _ _ _ R6 λb hb o e=>(I7.pin (b,o) (iS _ (iS _ (jh hb e)))).1,λb hb=>?_,w7⟩
   obtain⟨o,e,d⟩:=T.obj _ _ R6 b hb
   exact(I7.pin (b,o) (iS _ (iS _ (jh hb e)))).2.1
  cases f with
  | next=>obtain⟨σ7,H7,I7,n7⟩:=q7;exact again I7 n7
  | cont=>obtain⟨σ7,H7,I7,n7⟩:=q7;exact again I7 n7
  | brk=>obtain⟨σ7,H7,I7,q7⟩:=q7;exact⟨σ7,H7,I7.mS,q7⟩
  | ret v=>obtain⟨x7,σ7,H7,I7,r7,q7⟩:=q7;exact⟨x7,σ7,H7,I7.mS,r7,q7⟩
end
theorem Je{K:PySem.W.Frag}{a:Addr}{xs:List V}{g:TG}{tb:TS}{D:Ends}{σ:St}{H:Hp}(Pv:Nat->St->Hp->Prop)(h0:Pv 0 σ H)(hl:∀i σ H,i<=xs.length->Pv i σ H->oV K H a xs)
  (hs:∀i x σ H,xs[i]?=some x->Pv i σ H->g x σ H λσ2 H2=>tb { D with nx:=Pv (i+1),ct:=Pv (i+1),bk:=D.nx } σ2 H2) (hd:∀σ H,Pv xs.length σ H->D.nx σ H) :
  ∃W:Nat->Nat->St->Hp->Prop,(∃m,W 0 m σ H)/\∀i m σ H,W i m σ H->
   ((M8 K a).stop i H/\D.nx σ H)\/((M8 K a).go i H/\∃N:St->Hp->Prop,(∀σ' H',N σ' H'->∃m',m'<m/\W (i+1) m' σ' H')/\∀x H',(M8 K a).CJ i H x H'->g x σ H' λσ2 H2=>tb { D with nx:=N,ct:=N,bk:=D.nx } σ2 H2):=by
 refine⟨λi m σ H=>m=xs.length-i/\i<=xs.length/\Pv i σ H,⟨xs.length,by simp,dQ _,h0⟩,?_⟩
 rintro i m σ H ⟨rfl,hi,p⟩
 have q:=hl i σ H hi p
 by_cases ml:i<xs.length
 ·refine .inr ⟨⟨xs,xs[i],q,by simp[ml]⟩,Pv (i+1),λσ' H' p'=>⟨xs.length-(i+1),by lia,rfl,ml,p'⟩,λx H' y=>?_⟩
  obtain⟨e,y⟩:=y
  subst e
  exact hs i x σ _ (y xs q) p
 ·have e:i=xs.length:=by lia
  subst e
  exact .inl ⟨⟨xs,q,bF _⟩,hd σ H p⟩
theorem Ci{lo:Int}{n:Nat}{g:TG}{tb:TS}{D:Ends}{σ:St}{H:Hp}(Pv:Nat->St->Hp->Prop)(h0:Pv 0 σ H)
  (hs:∀i σ H,i<n->Pv i σ H->g (.int (lo+i)) σ H λσ2 H2=>tb { D with nx:=Pv (i+1),ct:=Pv (i+1),bk:=D.nx } σ2 H2) (hd:∀σ H,Pv n σ H->D.nx σ H) :
  ∃W:Nat->Nat->St->Hp->Prop,(∃m,W 0 m σ H)/\∀i m σ H,W i m σ H->
   ((xO lo n).stop i H/\D.nx σ H)\/((xO lo n).go i H/\∃N:St->Hp->Prop,(∀σ' H',N σ' H'->∃m',m'<m/\W (i+1) m' σ' H')/\∀x H',(xO lo n).CJ i H x H'->g x σ H' λσ2 H2=>tb { D with nx:=N,ct:=N,bk:=D.nx } σ2 H2):=by
 refine⟨λi m σ H=>m=n-i/\i<=n/\Pv i σ H,⟨n,by simp,dQ _,h0⟩,?_⟩
 rintro i m σ H ⟨rfl,hi,p⟩
 by_cases ml:i<n
 ·refine .inr ⟨ml,Pv (i+1),λσ' H' p'=>⟨n-(i+1),by lia,rfl,ml,p'⟩,λx H' y=>?_⟩
  obtain⟨e,y⟩:=y
  subst e y
  exact hs i σ _ ml p
 ·have e:i=n:=by lia
  subst e
  exact .inl ⟨bF _,hd σ H p⟩
end L2
namespace L2
open PySem PySem.Spec PyProof.Rows
abbrev R2:=V->V->Hp->VK->Prop
def iN(X:Cx)(f:Value->Value->Sem Value)(r:R2):Prop:=
 ∀(pins:List (Addr×Obj)) (s:Shared) (σ:St) (H:Hp) (x y:V) (v u:Value) (Q:VK),Inv X pins σ H s->RelV x v->RelV y u->r x y H Q->
  wpAny (model X.prog X.w) X.A (f v u) (EP X pins σ Q) X.xe s
def cv(X:Cx)(f:Value)(r:List V->Hp->VK->Prop):Prop:=
 ∀(pins:List (Addr×Obj)) (s:Shared) (σ:St) (H:Hp) (xs:List V) (us:List Value) (Q:VK),Inv X pins σ H s->Vals xs us->r xs H Q->
  wpAny (model X.prog X.w) X.A (call f us) (EP X pins σ Q) X.xe s
def Dt(r:R2)(ta tb:TE):TE:=λσ H Q=>ta σ H λx H1=>tb σ H1 λy H2=>r x y H2 Q
def tUn(r:V->Hp->VK->Prop)(ta:TE):TE:=λσ H Q=>ta σ H λx H1=>r x H1 Q
def rI(C:Int->Int->Prop)(g:Int->Int->V):R2:=λx y H Q=>∃i j,x=.int i/\y=.int j/\C i j/\Q (g i j) H
def Hv(g:Int->Int->V):R2:=λx y H Q=>∃i j,x=.int i/\y=.int j/\Q (g i j) H
def rU(g:Int->V):V->Hp->VK->Prop:=λx H Q=>∃i,x=.int i/\Q (g i) H
section
variable {X:Cx}{a b c:Expr}{ta tb tc:TE}{pos:Pos}
theorem MN(ha:PE X a ta)(hb:PE X b tb){pins:List (Addr×Obj)}{s:Shared}{σ:St}{H:Hp}{R:V->V->Hp->Prop}(I:Inv X pins σ H s)
  (h:ta σ H λx H1=>tb σ H1 λy H2=>R x y H2) {Q:Value->Shared->Prop} {f:Value->Value->Sem Value}
  (hf:∀v u s2 x y H2,Inv X pins σ H2 s2->RelV x v->RelV y u->R x y H2->wpAny (model X.prog X.w) X.A (f v u) Q X.xe s2) :
  wpAny (model X.prog X.w) X.A (eval a X.env) (λv s₁=>wpAny (model X.prog X.w) X.A (eval b X.env) (λu s₂=>wpAny (model X.prog X.w) X.A (f v u) Q X.xe s₂) X.xe s₁) X.xe s:=by
 refine cL (ha pins s σ H _ I h) λv s1 ⟨x,H1,I1,r1,q1⟩=>?_
 refine cL (hb pins s1 σ H1 _ I1 q1) λu s2 ⟨y,H2,I2,r2,q2⟩=>?_
 exact hf v u s2 x y H2 I2 r1 r2 q2
theorem Oq{op:Operator}{r:R2}(ho:iN X (binaryOp op) r)(ha:PE X a ta)(hb:PE X b tb):PE X (.BinOp a op b pos) (Dt r ta tb):=by
 intro pins s σ H Q I h
 exact wpAny_BinOp (MN ha hb I h λv u s2 x y H2 I2 rx ry q=>ho pins s2 σ H2 x y v u Q I2 rx ry q)
theorem Q8{f:Value->Value->Sem Value}{C:Int->Int->Prop}{g:Int->Int->Int}
  (rule:∀(i j:Int) (t u:Tok) (s:Shared) (Q:Value->Shared->Prop) (E:Value->Shared->Prop),C i j->Q (.int (g i j) s.toks) { s with toks:=s.toks+1 }->wpAny (model X.prog X.w) X.A (f (.int i t) (.int j u)) Q E s) :
  iN X f (rI C λi j=>.int (g i j)):=by
 intro pins s σ H x y v u Q I rx ry h
 obtain⟨i,j,rfl,rfl,hc,q⟩:=h
 obtain⟨t,rfl⟩:=rx
 obtain⟨t',rfl⟩:=ry
 exact rule i j t t' s _ _ hc ⟨.int (g i j),H,I.tok _,⟨_,rfl⟩,q⟩
theorem Ov{f:Value->Value->Sem Value}{g:Int->Int->Int}
  (rule:∀(i j:Int) (t u:Tok) (s:Shared) (Q:Value->Shared->Prop) (E:Value->Shared->Prop),Q (.int (g i j) s.toks) { s with toks:=s.toks+1 }->wpAny (model X.prog X.w) X.A (f (.int i t) (.int j u)) Q E s) :
  iN X f (Hv λi j=>.int (g i j)):=by
 intro pins s σ H x y v u Q I rx ry h
 obtain⟨i,j,rfl,rfl,q⟩:=h
 obtain⟨t,rfl⟩:=rx
 obtain⟨t',rfl⟩:=ry
 exact rule i j t t' s _ _ ⟨.int (g i j),H,I.tok _,⟨_,rfl⟩,q⟩
theorem Ih{f:Value->Value->Sem Value}{g:Int->Int->Bool}
  (rule:∀(i j:Int) (t u:Tok) (s:Shared) (Q:Value->Shared->Prop) (E:Value->Shared->Prop),Q (.bool (g i j)) s->wpAny (model X.prog X.w) X.A (f (.int i t) (.int j u)) Q E s) :
  iN X f (Hv λi j=>.bl (g i j)):=by
 intro pins s σ H x y v u Q I rx ry h
 obtain⟨i,j,rfl,rfl,q⟩:=h
 obtain⟨t,rfl⟩:=rx
 obtain⟨t',rfl⟩:=ry
 exact rule i j t t' s _ _ ⟨.bl (g i j),H,I,rfl,q⟩
def Xx(i j:Int):Prop:=0<j/\j<1073741824
def QS(i j:Int):Prop:=0<=j/\j<=1000000/\i.natAbs<2 ^ 64
def jB(i j:Int):Prop:=(-(2 ^ 64)<i/\i<2 ^ 64)\/(-(2 ^ 64)<j/\j<2 ^ 64)
theorem jB.ok{i j:Int}(h:jB i j):IntMulOk i j:=by
 rcases h with ⟨h1,h2⟩ | ⟨h1,h2⟩
 ·exact .of_left (intBits_le_64 h1 h2)
 ·exact .of_right (intBits_le_64 h1 h2)
theorem bB:iN X (binaryOp .Add) (Hv λi j=>.int (i+j)):=Ov λ_ _ _ _ _ _ _ q=>add_int q
theorem jg:iN X (binaryOp .Sub) (Hv λi j=>.int (i-j)):=Ov λ_ _ _ _ _ _ _ q=>sub_int q
theorem iH:iN X (binaryOp .Mult) (rI jB λi j=>.int (i*j)):=Q8 λ_ _ _ _ _ _ _ hc q=>mul_int q hc.ok
theorem Ig:iN X (binaryOp .FloorDiv) (rI Xx λi j=>.int (i / j)):=Q8 λi j _ _ _ _ _ hc q=>by
 have h1:(0:Int)<j:=hc.1
 have h2:j<1073741824:=hc.2
 exact floordiv_int (by lia) (by rw[Int.fdiv_eq_ediv_of_nonneg i (by lia)];exact q) (.inl (PyProof.noPylong_small (by lia)))
theorem gL:iN X (binaryOp .Mod) (rI (λ_ j=>0<j) λi j=>.int (i%j)):=Q8 λi j _ _ _ _ _ hc q=>by
 have h1:(0:Int)<j:=hc
 exact mod_int' (by lia) (by rw[Int.fmod_eq_emod_of_nonneg i (by lia)];exact q)
theorem K7:iN X (binaryOp .Pow) (rI QS λi j=>.int (i ^ j.toNat)):=Q8 λ_ _ _ _ _ _ _ hc q=>pow_int_small hc.1 hc.2.1 hc.2.2 q
end
def Ko:V->V->Bool
 | .non,.non=>true | .non,.int _=>true | .int _,.non=>true | .non,.bl _=>true | .bl _,.non=>true | .non,.str _=>true | .str _,.non=>true
 | .int _,.int _=>true | .bl _,.bl _=>true | .str _,.str _=>true | .Gj _,.Gj _=>true
 | .int _,.str _=>true | .str _,.int _=>true | .bl _,.str _=>true | .str _,.bl _=>true
 | _,_=>false
def X5:R2:=λx y H Q=>Ko x y=true/\Q (.bl (decide (x=y))) H
def XZ:R2:=λx y H Q=>Ko x y=true/\Q (.bl (!decide (x=y))) H
theorem Am{i j:Int}:decide (V.int i=V.int j)=(i==j):=by
 rw[pE]
 simp
theorem Gf{i j:Bool}:decide (V.bl i=V.bl j)=(i==j):=by
 rw[pE]
 simp
theorem Al{i j:Str}:decide (V.str i=V.str j)=(i==j):=by
 rw[pE]
 simp
theorem Ao{i j:Array UInt8}:decide (V.Gj i=V.Gj j)=(i.toList==j.toList):=by
 rw[pE]
 cases i
 cases j
 simp
section
variable {X:Cx}{a b c:Expr}{ta tb tc:TE}{pos:Pos}
theorem bE{pins:List (Addr×Obj)}{σ:St}{H:Hp}{s:Shared}{Q:VK}{k k':Bool}(I:Inv X pins σ H s)(q:Q (.bl k) H)(e:k=k'):EP X pins σ Q (.bool k') s:=by
 subst e
 exact⟨.bl k,H,I,rfl,q⟩
theorem bW:iN X (compareOp .Eq) X5:=by
 intro pins s σ H x y v u Q I rx ry h
 obtain⟨hs,q⟩:=h
 cases x with
 | non=>
  cases rx
  cases y with
  | non=>cases ry;exact PySem.EqNone.eq_none_none (bE I q (by simp))
  | bl j=>cases ry;exact PySem.EqNone.eq_none_bool (bE I q (by simp))
  | int j=>obtain⟨t',rfl⟩:=ry;exact PySem.EqNone.eq_none_int (bE I q (by simp))
  | str j=>obtain⟨t',rfl⟩:=ry;exact PySem.EqNone.eq_none_str (bE I q (by simp))
  | _=>exact absurd (show false=true from hs) cO
 | bl i=>
  cases rx
  cases y with
  | non=>cases ry;exact PySem.EqNone.eq_bool_none (bE I q (by simp))
  | bl j=>cases ry;exact eq_bool (bE I q Gf)
  | str j=>obtain⟨t',rfl⟩:=ry;exact PySem.EqMixed.eq_bool_str (bE I q (by simp))
  | _=>exact absurd (show false=true from hs) cO
 | int i=>
  obtain⟨t,rfl⟩:=rx
  cases y with
  | non=>cases ry;exact PySem.EqNone.eq_int_none (bE I q (by simp))
  | int j=>obtain⟨t',rfl⟩:=ry;exact eq_int (bE I q Am)
  | str j=>obtain⟨t',rfl⟩:=ry;exact PySem.EqMixed.eq_int_str (bE I q (by simp))
  | _=>exact absurd (show false=true from hs) cO
 | str i=>
  obtain⟨t,rfl⟩:=rx
  cases y with
  | non=>cases ry;exact PySem.EqNone.eq_str_none (bE I q (by simp))
  | bl j=>cases ry;exact PySem.EqMixed.eq_str_bool (bE I q (by simp))
  | int j=>obtain⟨t',rfl⟩:=ry;exact PySem.EqMixed.eq_str_int (bE I q (by simp))
  | str j=>obtain⟨t',rfl⟩:=ry;exact eq_str (bE I q Al)
  | _=>exact absurd (show false=true from hs) cO
 | Gj i=>
  obtain⟨t,rfl⟩:=rx
  cases y with
  | Gj j=>obtain⟨t',rfl⟩:=ry;exact PySem.W.eq_bytes (bE I q Ao)
  | _=>exact absurd (show false=true from hs) cO
 | _=>cases y <;> exact absurd (show false=true from hs) cO
theorem z6:iN X (compareOp .NotEq) XZ:=by
 intro pins s σ H x y v u Q I rx ry h
 obtain⟨hs,q⟩:=h
 cases x with
 | non=>
  cases rx
  cases y with
  | non=>cases ry;exact PySem.EqNone.ne_none_none (bE I q (by simp))
  | bl j=>cases ry;exact PySem.EqNone.ne_none_bool (bE I q (by simp))
  | int j=>obtain⟨t',rfl⟩:=ry;exact PySem.EqNone.ne_none_int (bE I q (by simp))
  | str j=>obtain⟨t',rfl⟩:=ry;exact PySem.EqNone.ne_none_str (bE I q (by simp))
  | _=>exact absurd (show false=true from hs) cO
 | bl i=>
  cases rx
  cases y with
  | non=>cases ry;exact PySem.EqNone.ne_bool_none (bE I q (by simp))
  | bl j=>cases ry;exact ne_bool (bE I q (gk not Gf))
  | str j=>obtain⟨t',rfl⟩:=ry;exact PySem.EqMixed.ne_bool_str (bE I q (by simp))
  | _=>exact absurd (show false=true from hs) cO
 | int i=>
  obtain⟨t,rfl⟩:=rx
  cases y with
  | non=>cases ry;exact PySem.EqNone.ne_int_none (bE I q (by simp))
  | int j=>obtain⟨t',rfl⟩:=ry;exact ne_int (bE I q (gk not Am))
  | str j=>obtain⟨t',rfl⟩:=ry;exact PySem.EqMixed.ne_int_str (bE I q (by simp))
  | _=>exact absurd (show false=true from hs) cO
 | str i=>
  obtain⟨t,rfl⟩:=rx
  cases y with
  | non=>cases ry;exact PySem.EqNone.ne_str_none (bE I q (by simp))
  | bl j=>cases ry;exact PySem.EqMixed.ne_str_bool (bE I q (by simp))
  | int j=>obtain⟨t',rfl⟩:=ry;exact PySem.EqMixed.ne_str_int (bE I q (by simp))
  | str j=>obtain⟨t',rfl⟩:=ry;exact ne_str (bE I q (gk not Al))
  | _=>exact absurd (show false=true from hs) cO
 | Gj i=>
  obtain⟨t,rfl⟩:=rx
  cases y with
  | Gj j=>obtain⟨t',rfl⟩:=ry;exact PySem.W.ne_bytes (bE I q (gk not Ao))
  | _=>exact absurd (show false=true from hs) cO
 | _=>cases y <;> exact absurd (show false=true from hs) cO
theorem wG:iN X (compareOp .Lt) (Hv λi j=>.bl (decide (i<j))):=Ih λ_ _ _ _ _ _ _ q=>lt_int q
theorem wH:iN X (compareOp .LtE) (Hv λi j=>.bl (decide (i<=j))):=Ih λ_ _ _ _ _ _ _ q=>le_int q
theorem JC:iN X (compareOp .Gt) (Hv λi j=>.bl (decide (j<i))):=Ih λ_ _ _ _ _ _ _ q=>gt_int q
theorem JD:iN X (compareOp .GtE) (Hv λi j=>.bl (decide (j<=i))):=Ih λ_ _ _ _ _ _ _ q=>ge_int q
theorem K8:iN X (compareOp .Is) (λx y H Q=>y=.non/\Q (.bl (decide (x=.non))) H):=by
 intro pins s σ H x y v u Q I rx ry h
 obtain⟨rfl,q⟩:=h
 cases ry
 refine is_none_gen (bE I q ?_)
 cases x <;> first
  | (cases rx;rfl)
  | (obtain⟨t,rfl⟩:=rx;rfl)
theorem aR(b:Expr){op:CmpOp}(h:op≠.In:=by decide)(h2:op≠.NotIn:=by decide):behindInMarks op b=false:=by
 have e1:(op==CmpOp.In)=false:=by cases op <;> first | rfl | exact absurd rfl h
 have e2:(op==CmpOp.NotIn)=false:=by cases op <;> first | rfl | exact absurd rfl h2
 cases b <;> simp[behindInMarks,e1,e2]
theorem Ib{op:CmpOp}{r:R2}(ho:iN X (compareOp op) r)(ha:PE X a ta)(hb:PE X b tb)(hm:behindInMarks op b=false):PE X (.Compare a [op] [b] pos) (Dt r ta tb):=by
 intro pins s σ H Q I h
 exact wpAny_Compare1 (MN ha hb I h λv u s2 x y H2 I2 rx ry q=>ho pins s2 σ H2 x y v u Q I2 rx ry q) hm
def sY(t:TE):TT:=λσ H Q=>t σ H λx H'=>∃k,x=.bl k/\Q k H'
theorem HD{op:CmpOp}{r:R2}(ho:iN X (compareOp op) r)(ha:PE X a ta)(hb:PE X b tb)(hm:behindInMarks op b=false):PT X (.Compare a [op] [b] pos) (sY (Dt r ta tb)):=by
 intro pins s σ H Q I h
 refine wpAny_isTrue_Compare1 (cL (ha pins s σ H _ I h) λv s1 ⟨x,H1,I1,r1,q1⟩=>cL (hb pins s1 σ H1 _ I1 q1) λu s2 ⟨y,H2,I2,r2,q2⟩=>
  cL (ho pins s2 σ H2 x y v u _ I2 r1 r2 q2) λc s3 ⟨z,H3,I3,r3,k,e,q3⟩=>?_) hm
 subst e
 cases r3
 exact pG ⟨H3,I3,q3⟩
def qp(r r':R2)(ta tb tc:TE):TE:=λσ H Q=>ta σ H λx H1=>tb σ H1 λy H2=>r x y H2 λz H3=>∃k,z=.bl k/\
 (if k=true then tc σ H3 λw' H4=>r' y w' H4 Q else Q (.bl false) H3)
theorem wD{op op':CmpOp}{r r':R2}(ho:iN X (compareOp op) r)(vQ:iN X (compareOp op') r')(ha:PE X a ta)(hb:PE X b tb)(hc:PE X c tc)
  (hm:lastMarks [op,op'] [b,c]=false:=by with_unfolding_all rfl):PE X (.Compare a [op,op'] [b,c] pos) (qp r r' ta tb tc):=by
 intro pins s σ H Q I h
 refine Compare_chain (cL (ha pins s σ H _ I h) λv s1 ⟨x,H1,I1,r1,q1⟩=>chain_link (cL (hb pins s1 σ H1 _ I1 q1) λu s2 ⟨y,H2,I2,r2,q2⟩=>
  cL (ho pins s2 σ H2 x y v u _ I2 r1 r2 q2) λd s3 ⟨z,H3,I3,r3,k,e,q3⟩=>?_)) hm
 subst e
 cases r3
 refine pG ?_
 cases k with
 | false=>exact ite_ff ⟨.bl false,H3,I3,rfl,q3⟩
 | true=>exact ite_tt (chain_last (cL (hc pins s3 σ H3 _ I3 q3) λw' s4 ⟨z',H4,I4,r4,q4⟩=>vQ pins s4 σ H4 y z' u w' Q I4 r2 r4 q4))
theorem wu{op op':CmpOp}{r r':R2}(ho:iN X (compareOp op) r)(vQ:iN X (compareOp op') r')(ha:PE X a ta)(hb:PE X b tb)(hc:PE X c tc)
  (hm:lastMarks [op,op'] [b,c]=false:=by with_unfolding_all rfl):PT X (.Compare a [op,op'] [b,c] pos) (sY (qp r r' ta tb tc)):=by
 intro pins s σ H Q I h
 refine isTrue_chain (cL (ha pins s σ H _ I h) λv s1 ⟨x,H1,I1,r1,q1⟩=>test_link (cL (hb pins s1 σ H1 _ I1 q1) λu s2 ⟨y,H2,I2,r2,q2⟩=>
  cL (ho pins s2 σ H2 x y v u _ I2 r1 r2 q2) λd s3 ⟨z,H3,I3,r3,k,e,q3⟩=>?_)) hm
 subst e
 cases r3
 refine pG ?_
 cases k with
 | false=>
  obtain⟨k',e',q'⟩:=q3
  cases e'
  exact ite_ff ⟨H3,I3,q'⟩
 | true=>
  refine ite_tt (test_last (cL (hc pins s3 σ H3 _ I3 q3) λw' s4 ⟨z',H4,I4,r4,q4⟩=>cL (vQ pins s4 σ H4 y z' u w' _ I4 r2 r4 q4) λd' s5 ⟨z2,H5,I5,r5,k2,e2,q5⟩=>?_))
  subst e2
  cases r5
  exact pG ⟨H5,I5,q5⟩
theorem md:(sizeLine:Nat)<2 ^ 63:=by rw[lX];decide
theorem dk:iN X (binaryOp .Add) (λx y H Q=>∃i j,x=.str i/\y=.str j/\i.length+j.length<=sizeLine/\Q (.str (i++j)) H):=by
 intro pins s σ H x y v u Q I rx ry h
 obtain⟨i,j,rfl,rfl,hz,q⟩:=h
 obtain⟨t,rfl⟩:=rx
 obtain⟨t',rfl⟩:=ry
 exact add_str (λt' tk=>⟨.str (i++j),H,I.tok _,⟨_,rfl⟩,q⟩) hz
theorem vals1{x:V}{us:List Value}(r:Vals [x] us):∃u,us=[u]/\RelV x u:=by
 cases r with
 | cons r1 r2=>cases r2;exact⟨_,rfl,r1⟩
theorem Gi:cv X (.builtin "abs") (λxs H Q=>∃i,xs=[.int i]/\Q (.int (if i<0 then -i else i)) H):=by
 intro pins s σ H xs us Q I r h
 obtain⟨i,rfl,q⟩:=h
 obtain⟨u,rfl,t,rfl⟩:=vals1 r
 exact call_abs_int λu tk=>⟨.int (if i<0 then -i else i),H,I.tok _,⟨_,rfl⟩,q⟩
end
end L2
namespace L2
open PySem PySem.Spec PyProof.Rows
structure M6(h:Heap)(x dx C:Addr)(mA:Str->Option Value):Prop where
 obj:h.get? x=some (PySem.W.instObj C dx)
 ns:h.Ns1 dx mA
 ne:dx≠x
theorem tL{h:Heap}{dx:Addr}{mA:Str->Option Value}(n:h.Ns1 dx mA):∃od,h.get? dx=some od/\∀name,PySem.W.lookIn name od=some (mA name):=by
 obtain⟨o,es,ep,ho,hd,hk,_,hm⟩:=n
 refine⟨o,ho,λname=>?_⟩
 have e:=hm name
 unfold nsFind findBy at e
 rw[<-Array.find?_toList]at e
 unfold PySem.W.lookIn
 rw[hd]
 dsimp only
 split
 ·rename_i y q
  rw[q]at e
  exact gk some e
 ·rename_i q
  rw[q]at e
  have a:es.toList.any (·.refKey)=false:=by
   rw[List.any_eq_false]
   intro y hy
   obtain⟨z,t,hkey⟩:=hk y (Array.mem_toList_iff.mp hy)
   simp[DictEntry.refKey,hkey]
  have a':¬es.toList.any (·.refKey)=true:=by rw[a];exact cO
  rw[aI a']
  exact gk some e
theorem M6.look{h:Heap}{x dx C:Addr}{mA:Str->Option Value}(I:M6 h x dx C mA):∃od,PySem.W.InstAt h x (PySem.W.instObj C dx) C (some od)/\∀name,PySem.W.lookIn name od=some (mA name):=
 let ⟨od,ho,hl⟩:=tL I.ns
 ⟨od,⟨I.obj,rfl,rfl,ho⟩,hl⟩
section
variable {prog:Program}{w:World}{A:Around}{E:Value->Shared->Prop}{s:Shared}{K:PySem.W.Frag}{x dx C f:Addr}{mA:Str->Option Value}{name:Str}{v:Value}
end
section
variable {P:Program}{w:World}{H H':Hp}{h h':Heap}{a C dx:Addr}{fs fs':List (Str×V)}
theorem Iw(cw:nH P w H h)(e:H a=some (.ins C dx fs)):∃mA,M6 h a dx C mA/\(∀f,M4 (fs.lookup f) (mA f))/\PySem.Within mA (fs.map (·.1))/\fs.length<=1000/\H dx=some (.own a):=by
 obtain⟨d,z,ne,ob,mA,n,r,q⟩:=(show du P w H h a (.ins C dx fs) from cw a _ e)
 exact⟨mA,⟨ob,n,ne⟩,r,q,z,d⟩
end
structure Cls(K:PySem.W.Frag)(C:Addr):Prop where
 pg:PySem.W.plainGet K C Str.empty=true
 hd:PySem.W.hasDictIn K C=true
 po:PySem.W.plainOver K C=true
 sa:PySem.W.findIn K (.ref C) "__setattr__" = some (some (.builtin "object.__setattr__"))
theorem Cls.get{K:PySem.W.Frag}{C:Addr}(c:Cls K C)(f:Str):PySem.W.plainGet K C f=true:=c.pg
section
variable {X:Cx}{pins:List (Addr×Obj)}{σ:St}{H:Hp}{s:Shared}{a C dx:Addr}{fs:List (Str×V)}{f:Str}{v:V}{A:Around}{E:Value->Shared->Prop}
end
section
variable {X:Cx}{o e value:Expr}{f:Str}{pos pos' qj:Pos}{ta tv:TE}
end
section
variable {X:Cx}{pins:List (Addr×Obj)}{σ:St}{H:Hp}{s:Shared}{A:Around}{E:Value->Shared->Prop}{Q:Value->Shared->Prop}{c:Value}{b:Bool}
inductive kR (K:PySem.W.Frag) (H:Hp):V->Value->Prop where
 | non:kR K H .non (.type "NoneType")
 | bl (x:Bool):kR K H (.bl x) (.type "bool")
 | int (i:Int):kR K H (.int i) (.type "int")
 | str (x:Str):kR K H (.str x) (.type "str")
 | Nv (x:UInt64):kR K H (.Nv x) (.type "float")
 | lst {a:Addr} {xs:List V} (e:H a=some (.lst xs)):kR K H (.ref a) (.type "list")
 | Aj {a:Addr} {o:Obj} {xs:List V} (e:H a=some (.Aj o (.lst xs))):kR K H (.ref a) (.type "list")
 | tup {a:Addr} {xs:List V} (e:H a=some (.tup xs)):kR K H (.ref a) (.type "tuple")
 | dK {a:Addr} {jb:List (Key×V)} (e:H a=some (.dK jb)):kR K H (.ref a) (.type "dict")
 | dT {a:Addr} {jb:List (List Key×V)} (e:H a=some (.dT jb)):kR K H (.ref a) (.type "dict")
 | ins {a C dx:Addr} {fs:List (Str×V)} (e:H a=some (.ins C dx fs)) (cl:Cls K C) (ha:PySem.W.findIn K (.ref C) "__class__" = some (some (.builtin "object.__class__")))
   (hn:PySem.W.specialIn K (.builtin "object.__class__") "__get__" = some (some (.builtin "getset_descriptor.__get__"))) (Y5:PySem.W.takesIn K (.builtin "object.__class__")=some true)
   (hm:PySem.W.mroIn K C (.type "object")=some true):kR K H (.ref a) (.ref C)
theorem BW{x:V}{u t:Value}(I:Inv X pins σ H s)(rx:RelV x u)(ty:kR X.K H x t)(e:PySem.W.kitOne X.K t c=some b)(h:∀tk,Q (.bool b) { s with toks:=tk }) :
  wpAny (model X.prog X.w) A (call (.builtin "isinstance") [u,c]) Q E s:=by
 cases ty with
 | non=>cases (show u=Value.none from rx);exact iQ PySem.W.kitx_none I.nG True.intro e (λz=>nomatch z) h
 | bl y=>cases (show u=Value.bool y from rx);exact iQ PySem.W.kitx_bool I.nG True.intro e (λz=>nomatch z) h
 | int i=>obtain⟨t,q⟩:=(show ∃t,u=Value.int i t from rx);cases q;exact iQ PySem.W.kitx_int I.nG True.intro e (λz=>nomatch z) h
 | str y=>obtain⟨t,q⟩:=(show ∃t,u=Value.str y t from rx);cases q;exact iQ PySem.W.kitx_str I.nG True.intro e (λz=>nomatch z) h
 | Nv y=>obtain⟨t,q⟩:=(show ∃t,u=Value.float y t from rx);cases q;exact iQ PySem.W.kitx_float I.nG True.intro e (λz=>nomatch z) h
 | @lst a xs ea=>
  cases (show u=Value.ref a from rx)
  obtain⟨_,_,n,_,h1⟩:=(show du X.prog X.w H s.heap a (.lst xs) from I.cw a _ ea)
  exact iQ PySem.W.kitx_list I.nG ⟨_,h1,rfl⟩ e (λz=>nomatch z) h
 | @Aj a ob xs ea=>
  cases (show u=Value.ref a from rx)
  obtain⟨_,_,_,n,_,h1⟩:=(show du X.prog X.w H s.heap a (.Aj ob (.lst xs)) from I.cw a _ ea)
  exact iQ PySem.W.kitx_list I.nG ⟨_,h1,rfl⟩ e (λz=>nomatch z) h
 | @tup a xs ea=>
  cases (show u=Value.ref a from rx)
  obtain⟨_,_,_,p⟩:=(show du X.prog X.w H s.heap a (.tup xs) from I.cw a _ ea)
  obtain⟨o,h1,h2,_⟩:=p
  exact iQ PySem.W.kitx_tuple I.nG ⟨o,h1,h2⟩ e (λz=>nomatch z) h
 | @dK a jb ea=>
  cases (show u=Value.ref a from rx)
  obtain⟨_,_,vs,_,p⟩:=(show du X.prog X.w H s.heap a (.dK jb) from I.cw a _ ea)
  obtain⟨o,es,ep,h1,h2,_⟩:=p
  exact iQ PySem.W.kitx_dict I.nG ⟨o,h1,h2.1⟩ e (λz=>nomatch z) h
 | @dT a jb ea=>
  cases (show u=Value.ref a from rx)
  obtain⟨_,_,xs,_,o,es,ep,h1,h2,_⟩:=(show du X.prog X.w H s.heap a (.dT jb) from I.cw a _ ea)
  exact iQ PySem.W.kitx_dict I.nG ⟨o,h1,h2.1⟩ e (λz=>nomatch z) h
 | @ins a C dx fs ea cl ha hn Y5 hm=>
  cases (show u=Value.ref a from rx)
  obtain⟨mA,O,_⟩:=Iw I.cw ea
  obtain⟨od,J,_⟩:=O.look
  exact iQ (PySem.W.kitx_own (cl.get _) cl.hd ha hn Y5 hm) I.nG J e (λz=>nomatch z) h
end
end L2
namespace L2
open PySem PySem.Spec PyProof.Rows
structure fH(k:Nat)(A:Around):Prop where
 hd:A.handled=none
 dp:A.depth+3*k+5<recursionLimit
 un:A.units+16*k+200<cLine
theorem fH.mono{j k:Nat}{A:Around}(r:fH k A)(h:j<=k:=by lia):fH j A:=⟨r.hd,by have:=r.dp;lia,by have:=r.un;lia⟩
theorem fH.deeper{k:Nat}{A:Around}(r:fH (k+1) A)(env:Env):fH k (A.deeper env):=
 ⟨r.hd,by have:=r.dp;show A.depth+1+3*k+5<_;lia,by have:=r.un;show A.units+3+16*k+200<_;lia⟩
theorem fH.depth{k:Nat}{A:Around}(r:fH k A):A.depth<recursionLimit:=by have:=r.dp;lia
theorem fH.units{k:Nat}{A:Around}(r:fH k A):A.units+64<cLine:=by have:=r.un;lia
theorem fH.jW{k:Nat}{A:Around}(r:fH k A):A.units<cLine:=by have:=r.un;lia
def He:TA:=λ_ H Q=>Q [] H
def wc(ta:TE)(tr:TA):TA:=λσ H Q=>ta σ H λx H1=>tr σ H1 λxs H2=>Q (x::xs) H2
section
variable {X:Cx}{e:Expr}{es:List Expr}{te:TE}{t:TA}{pos:Pos}
theorem Fc:PA X [] He:=λ_ _ _ _ H Q I h=>Calls.spliced_nil ⟨[],H,I,.nil,h⟩
theorem vj(ha:PE X e te)(hr:PA X es t)(hs:starEach (e::es) X.env=(false,eval e X.env)::starEach es X.env:=by rfl):PA X (e::es) (wc te t):=by
 intro pos pins s σ H Q I h
 rw[hs]
 show wpAny _ _ (spliced ((false,eval e X.env)::backTo pos (starEach es X.env))) _ _ s
 refine Calls.spliced_cons (cL (ha pins s σ H _ I h) λu s1 ⟨x,H1,I1,r1,q1⟩=>?_)
 exact cL (hr pos pins s1 σ H1 _ I1 q1) λus s2 ⟨xs,H2,I2,r2,q2⟩=>⟨x::xs,H2,I2,.cons r1 r2,q2⟩
def J9(t:TA):TE:=λσ H Q=>t σ H λxs H1=>xs.length<=sizeLine/\∀p,H1 p=none->Q (.ref p) (upd H1 p (.tup xs))
def Kd(t:TA):TE:=λσ H Q=>t σ H λxs H1=>xs.length<=sizeLine/\∀p,H1 p=none->Q (.ref p) (upd H1 p (.lst xs))
theorem KS{x1}(h:PA X es t):PE X (.Tuple es x1 pos) (J9 t):=by
 intro pins s σ H Q I hq
 refine wpAny_Tuple_spliced (cL (h pos pins s σ H _ I hq) λus s1 ⟨xs,H1,I1,r,z,q⟩=>⟨by rw[<-r.length];exact z,?_⟩)
 have hf:H1 s1.heap.objs.size=none:=I1.cw.fresh (bF _)
 refine⟨.ref s1.heap.objs.size,upd H1 s1.heap.objs.size (.tup xs),I1.laid (t':=s1.toks) (λb u e=>bP _ e) (bF _) ?_,rfl,q _ hf⟩
 exact⟨z,us,r,⟨_,eS _ rfl,rfl,_,rfl⟩⟩
theorem K0(h:PA X es t):PE X (.List es pos) (Kd t):=by
 intro pins s σ H Q I hq
 refine wpAny_List_spliced (cL (h pos pins s σ H _ I hq) λus s1 ⟨xs,H1,I1,r,z,q⟩=>⟨by rw[<-r.length];exact z,?_⟩)
 have hf:H1 s1.heap.objs.size=none:=I1.cw.fresh (bF _)
 refine⟨.ref s1.heap.objs.size,upd H1 s1.heap.objs.size (.lst xs),I1.laid (t':=s1.toks) (λb u e=>bP _ e) (bF _) ?_,rfl,q _ hf⟩
 exact⟨z,us,0,r,eS _ rfl⟩
end
abbrev Sp:=List V->Hp->VK->XK->Prop
abbrev CG:=List Env->Hp->Shared->XK->Value->Shared->Prop
structure Jm(P:Program)(w:World)(K:PySem.W.Frag)(mg:Str->Option Value)(base:Heap)(A:Around)(outer:List Env)(s:Shared)(H:Hp):Prop where
 frames:A.frames=some outer
 mod:Mod K mg base
 bs:∀b o,base.get? b=some o->s.heap.get? b=some o/\H b=none
 Gk:base.objs.size<=s.heap.objs.size
 nr:s.heap.FunFrames base outer
 Jd:∀b∈mG outer,H b=none
 cw:nH P w H s.heap
 bare:AllBare s.gens
def CE(outer:List Env)(P:Program)(w:World)(H:Hp)(s:Shared)(Q:VK)(u:Value)(s':Shared):Prop:=
 ∃v H',s'.os=s.os/\AllBare s'.gens/\Un (mG outer) [] H H' s.heap s'.heap/\nH P w H' s'.heap/\RelV v u/\Q v H'
def CR(CX:CG)(outer:List Env)(P:Program)(w:World)(H:Hp)(s:Shared)(Q:VK)(E:XK)(r:Result)(s':Shared):Prop:=
 match r with
 | .ok (.ret u)=>CE outer P w H s Q u s'
 | .ok _=>False
 | .error e=>CX outer H s E e s'
structure cK(P:Program)(w:World)(K:PySem.W.Frag)(mg:Str->Option Value)(base:Heap)(CX:CG)(k:Nat)(f:Addr)(fd:FuncData)(ps:List Str)(sp:Sp):Prop where
 len:∀vs H Q E,sp vs H Q E->vs.length=ps.length
 run:∀(A:Around) (outer:List Env) (s:Shared) (H:Hp) (args:Args) (us:List Value) (vs:List V) (Q:VK) (E:XK),fH k A->Jm P w K mg base A outer s H->BindsTo s fd args (ps.zip us)->Vals vs us->sp vs H Q E->
  codeAny (model P w) A (.call (.ref f) args) (CR CX outer P w H s Q E) s
section
variable {X:Cx}{pins:List (Addr×Obj)}{σ:St}{H:Hp}{s s':Shared}
theorem Inv.P8(I:Inv X pins σ H s):Jm X.prog X.w X.K X.mg X.base X.A X.stack s H:=
 ⟨I.ok.frames,I.ok.mod,I.bs,cN I.ok.Gk I.sz,I.stack,I.pj,I.cw,I.bare⟩
theorem Inv.after{Q:VK}{u:Value}(I:Inv X pins σ H s)(h:CE X.stack X.prog X.w H s Q u s'):EP X pins σ Q u s':=by
 obtain⟨v,H',os,bare,un,cw,r,q⟩:=h
 obtain⟨hh,g,d,t,TJ⟩:=s'
 obtain rfl:TJ=s.os:=os
 exact⟨v,H',I.call (h':=hh) (g':=g) (d':=d) (t':=t) (ch:=[]) un cw bare (λb z=>absurd z (by simp)),r,q⟩
end
def zJ(sp:Sp)(Gd:List V)(E:XK)(t:TA):TE:=λσ H Q=>t σ H λvs H1=>sp (vs++Gd) H1 Q E
def Binds(K:PySem.W.Frag)(fd:FuncData)(ps:List Str)(ds:List Value):Prop:=
 ∀(s:Shared) (us:List Value),K.In s.heap->(us++ds).length=ps.length->BindsTo s fd ⟨us,[]⟩ (ps.zip (us++ds))
theorem Binds.all{K:PySem.W.Frag}{fd:FuncData}{ps:List Str}(h:∀us:List Value,us.length=ps.length->bindArgs fd ⟨us,[]⟩=pure (ps.zip us)):Binds K fd ps []:=λs us _ hl=>by
 rw[oD]at hl ⊢
 exact .of_eq (h us hl)
def Passes(CX:CG)(X:Cx)(E:XK):Prop:=∀(pins:List (Addr×Obj)) (σ:St) (H:Hp) (s:Shared) (e:Value) (s':Shared),Inv X pins σ H s->CX X.stack H s E e s'->X.xe e s'
section
variable {X:Cx}{CX:CG}{k:Nat}{f C:Addr}{fd:FuncData}{ps:List Str}{sp:Sp}{Gd:List V}{ds:List Value}{E:XK}{x m:Str}{p pos apos:Pos}{e o:Expr}{es:List Expr}{ta:TE}{t:TA}
theorem Kp{pins:List (Addr×Obj)}{σ:St}{H:Hp}{s:Shared}{Q:VK}{us:List Value}{vs:List V}(F:cK X.prog X.w X.K X.mg X.base CX k f fd ps sp)(hr:fH k X.A)(hb:Binds X.K fd ps ds)(hd:Vals Gd ds)(hx:Passes CX X E)
  (I:Inv X pins σ H s) (r:Vals vs us) (h:sp (vs++Gd) H Q E):wpAny (model X.prog X.w) X.A (call (.ref f) us) (EP X pins σ Q) X.xe s:=by
 have r2:Vals (vs++Gd) (us++ds):=r.append hd
 have hl:(us++ds).length=ps.length:=by rw[<-r2.length];exact F.len _ _ _ _ h
 refine lW (nO (F.run X.A X.stack s H ⟨us,[]⟩ (us++ds) (vs++Gd) Q E hr I.P8 (hb s us I.nG hl) r2 h) λr s' hq=>?_)
 cases r with
 | error e=>exact hx pins σ H s e s' I hq
 | ok fl=>
  cases fl with
  | ret u=>exact I.after hq
  | next=>exact False.elim hq
  | brk=>exact False.elim hq
  | cont=>exact False.elim hq
theorem pk(F:cK X.prog X.w X.K X.mg X.base CX k f fd ps sp)(hr:fH k X.A)(hg:Gl X x)(hm:X.mg x=some (.ref f))(hk:PySem.W.keepIn X.K (.ref f)=true)(hb:Binds X.K fd ps ds)(hd:Vals Gd ds)(hx:Passes CX X E)
  (ha:PA X (e::es) t) (vE:(x==("__debug__" : Str))=false:=by decide) (he:starEach (e::es) X.env=(false,eval e X.env)::starEach es X.env:=by rfl) (rh:(backTo pos (starEach es X.env)).any (·.1)=false:=by rfl) :
  PE X (.Call (.Name x p) (e::es) [] pos) (zJ sp Gd E t):=by
 intro pins s σ H Q I h
 refine pY (kZ I hg hm ?_ vE)
 refine x8 (h₀:=X.base) I.ok.mod.O9 hk (cL (ha pos pins s σ H _ I h) λus s1 ⟨vs,H1,I1,r,q⟩=>⟨I1.nG,?_⟩) he rh
 exact Kp F hr hb hd hx I1 r q
end
section
variable {X:Cx}{CX:CG}{k:Nat}{f C:Addr}{fd:FuncData}{ps ks:List Str}{sp:Sp}{E:XK}{x m:Str}{p pos apos Lh:Pos}{e o:Expr}{es:List Expr}{kws:List Keyword}{te ta:TE}{t tk:TA}{nm:Option Str}
variable {g:List Value->List Value->List Value}{gV:List V->List V->List V}
end
structure bp(N P:List Str)(sc:Scope):Prop where
 kind:sc.kind=.function
 co:sc.isCoroutine=false
 gen:sc.isGenerator=false
 nd:N.Nodup
 pre:N.take P.length=P
 par:∀x∈P,sc.names.lookup x=some .local\/sc.names.lookup x=some .cell
 Lc:∀y∈sc.names,y.2≠.free
theorem tX{kindOf:Str->Option NameKind}{x:Str}:∀{binds:List (Str×Value)} {m:Str->Option Value},(∀v,(x,v)∉binds)->bindL kindOf binds m x=m x
 | [],_,_=>rfl
 | (n,v)::r,m,h=>by
  unfold bindL
  rw[tX λw hw=>h w (eD _ hw)]
  split
  ·have:x≠n:=by rintro rfl;exact h v cS
   simp[this]
  ·rfl
theorem tZ{kindOf:Str->Option NameKind}{x:Str}:∀{binds:List (Str×Value)} {m:Str->Option Value},(∀v,(x,v)∉binds)->bindC kindOf binds m x=m x
 | [],_,_=>rfl
 | (n,v)::r,m,h=>by
  unfold bindC
  rw[tZ λw hw=>h w (eD _ hw)]
  split
  ·rfl
  ·have:x≠n:=by rintro rfl;exact h v cS
   simp[this]
theorem tY{kindOf:Str->Option NameKind}{x:Str}{v:Value}:∀{P:List Str} {vs:List Value} {i:Nat} {m:Str->Option Value},P.Nodup->P[i]?=some x->vs[i]?=some v->kindOf x=some .local->
  bindL kindOf (P.zip vs) m x=some v
 | [],_,_,_,_,h,_,_=>by simp at h
 | _::_,[],_,_,_,_,h,_=>by simp at h
 | p::P,w::vs,0,m,nd,h1,h2,hk=>by
  simp at h1 h2;subst h1;subst h2
  show bindL kindOf ((p,w)::P.zip vs) m p=_
  unfold bindL
  rw[tX λv hv=>(oE.mp nd).1 (List.of_mem_zip hv).1,bu hk]
  simp
 | p::P,w::vs,i+1,m,nd,h1,h2,hk=>by
  show bindL kindOf ((p,w)::P.zip vs) m x=_
  unfold bindL
  exact tY (i:=i) (oE.mp nd).2 (by simpa using h1) (by simpa using h2) hk
theorem ua{kindOf:Str->Option NameKind}{x:Str}{v:Value}:∀{P:List Str} {vs:List Value} {i:Nat} {m:Str->Option Value},P.Nodup->P[i]?=some x->vs[i]?=some v->kindOf x≠some .local->
  bindC kindOf (P.zip vs) m x=some v
 | [],_,_,_,_,h,_,_=>by simp at h
 | _::_,[],_,_,_,_,h,_=>by simp at h
 | p::P,w::vs,0,m,nd,h1,h2,hk=>by
  simp at h1 h2;subst h1;subst h2
  show bindC kindOf ((p,w)::P.zip vs) m p=_
  unfold bindC
  rw[tZ λv hv=>(oE.mp nd).1 (List.of_mem_zip hv).1,aI hk]
  simp
 | p::P,w::vs,i+1,m,nd,h1,h2,hk=>by
  show bindC kindOf ((p,w)::P.zip vs) m x=_
  unfold bindC
  exact ua (i:=i) (oE.mp nd).2 (by simpa using h1) (by simpa using h2) hk
def start(N:List Str)(vs:List V):St:=vs.map some++List.replicate (N.length-vs.length) none
def iY(CX:CG)(P:Program)(w:World)(K:PySem.W.Frag)(mg:Str->Option Value)(base:Heap)(N:List Str)(qual:Str)(scope:Scope)(f:Addr)(cd:Value)(A:Around)(outer:List Env)(s:Shared)(H:Hp)(E:XK):Cx where
 prog:=P
 w:=w
 K:=K
 mg:=mg
 base:=base
 A:=A.deeper (envOfC qual scope s.heap.objs.size f cd)
 N:=N
 s₀:=s
 H₀:=H
 env:=envOfC qual scope s.heap.objs.size f cd
 outer:=outer
 stack:=envOfC qual scope s.heap.objs.size f cd::outer
 ex:=[]
 calm:=true
 fn:=λ_=>true
 pn:=[]
 xe:=λe s'=>wpAny (model P w) (A.deeper (envOfC qual scope s.heap.objs.size f cd)) (leaving (envOfC qual scope s.heap.objs.size f cd) e) (λ_ N5=>CX outer H s E e N5) (λe' N5=>CX outer H s E e' N5) s'
theorem xm{sc:Scope}{n:Nat}{x:Str}(h:sc.names.lookup x=some .cell):∃c,(cellsFrom n sc.names []).lookup x=some c:=by
 have q:=PySem.W.cellsFrom_some sc.names n [] (.inl h)
 exact Option.isSome_iff_exists.mp q
theorem BX{CX:CG}{P:Program}{w:World}{K:PySem.W.Frag}{mg:Str->Option Value}{base:Heap}{N ps:List Str}{qual:Str}{scope:Scope}{f:Addr}{cd:Value}{A:Around}{outer:List Env}{s s1:Shared}{H:Hp}{E:XK}{us:List Value}{vs:List V}
  (S:bp N ps scope) (hd:A.handled=none) (e0:Jm P w K mg base A outer s H) (hl:vs.length=ps.length) (r:Vals vs us)
  (x:InCallC s s.heap.objs.size (bindL (envOfC qual scope s.heap.objs.size f cd).kindOf (ps.zip us) λ_=>none) (cellsFrom (s.heap.objs.size+1) scope.names []) (bindC (envOfC qual scope s.heap.objs.size f cd).kindOf (ps.zip us) λ_=>none) s1) :
  Inv (iY CX P w K mg base N qual scope f cd A outer s H E) [] (start N vs) H s1:=by
 have rh:ps.length<=N.length:=by have:=gk List.length S.pre;rw[cA]at this;lia
 obtain⟨h1,tk,rfl,hk⟩:=x.done
 have Oz:∀b:Addr,b∉(iY CX P w K mg base N qual scope f cd A outer s H E).ex:=λb z=>absurd (show b∈([]:List Addr) from z) (by simp)
 refine⟨⟨e0.mod,S.kind,rfl,rfl,bF _,λy z c h1 h2=>?_,λy hy=>?_,λy c _ h=>?_,λ_=>hd,Around.frames_deeper e0.frames,.inr ⟨rfl,rfl⟩,λb z=>absurd z (Oz b),e0.bs,e0.Gk,λb _ _=>Oz b,λb z=>absurd z (Oz b),e0.nr,e0.Jd⟩,
  rfl,e0.bare,Un.kept hk,⟨_,x.toInCall.ns,λi y v h1 h2 h3=>?_⟩,λy c h=>⟨_,x.cell y c h⟩,e0.cw.fresh (bF _),λy c h=>?_,λp hp=>absurd (show p∈([]:List (Addr×Obj)) from hp) (by simp),e0.cw.kept hk,?_⟩
 ·exact name_of_addr x.apart (lF h1) (lF h2)
 ·have hy:scope.names.lookup y=some .cell\/scope.names.lookup y=some .free:=hy
  rcases hy with hy | hy
  ·exact xm hy
  ·exact absurd rfl (S.Lc _ (lF hy))
 ·exact nQ (x.above y c (lF h))
 ·have hi:i<vs.length:=by
   unfold start at h2
   by_cases hi:i<vs.length
   ·exact hi
   ·rw[mM (by simpa using hi)]at h2
    rw[List.getElem?_replicate]at h2
    split at h2 <;> cases h2
  have ha:vs[i]?=some v:=by
   unfold start at h2
   rw[oI (by simpa using hi),fz]at h2
   cases e:vs[i]? with
   | none=>rw[e]at h2;cases h2
   | some a=>rw[e]at h2;cases h2;rfl
  obtain⟨u,hu,rv⟩:=r.get ha
  have hp:ps[i]?=some y:=by
   rw[<-S.pre,List.getElem?_take_of_lt (by lia)];exact h1
  have Yf:ps.Nodup:=by rw[<-S.pre];exact S.nd.sublist (List.take_sublist _ _)
  refine⟨u,rv,?_⟩
  rcases S.par y (vT hp) with k | k
  ·exact .inl ⟨k,tY Yf hp hu k⟩
  ·obtain⟨c,e⟩:=xm (n:=s.heap.objs.size+1) k
   refine .inr ⟨.inl k,c,e,?_⟩
   have q:=x.cell y c e
   rw[ua Yf hp hu (by show scope.names.lookup y≠_;rw[k];decide)]at q
   exact q
 ·exact e0.cw.fresh (nQ (x.above y c (lF h)))
 ·unfold start
  show _=N.length
  rw[df,cx,uT]
  lia
theorem JR{CX:CG}{P:Program}{w:World}{K:PySem.W.Frag}{mg:Str->Option Value}{base:Heap}{k:Nat}{f:Addr}{name qual:Str}{params:Arguments}{body:List Stmt}{scope:Scope}{dV kV doc pm cI ct oc:Value}{an od:Option Addr}
  {Gz:Array (Option Value)} {N ps:List Str} {sp:Sp} (lk:K.lookup f=some ⟨oc,od,.func (PySem.W.fnOf name qual params body scope dV kV doc pm an cI ct),Gz⟩) (Ca:PySem.W.codeIn K cI qual=true) (S:bp N ps scope)
  (len:∀vs H Q E,sp vs H Q E->vs.length=ps.length)
  (nk:∀(A:Around) (outer:List Env) (s:Shared) (H:Hp) (vs:List V) (Q:VK) (E:XK),fH k (A.deeper (envOfC qual scope s.heap.objs.size f cI))->sp vs H Q E->
   ∃t,rj (iY CX P w K mg base N qual scope f cI A outer s H E) body t/\t { nx:=λ_ H'=>Q .non H',rt:=Q } (start N vs) H) :
  cK P w K mg base CX (k+1) f (PySem.W.fnOf name qual params body scope dV kV doc pm an cI ct) ps sp:=by
 refine⟨len,λA outer s H args us vs Q E hr e0 hb r GF=>?_⟩
 have hl:=len _ _ _ _ GF
 have KX:K.In s.heap:=e0.mod.O9.keeps λb o e=>(e0.bs b o e).1
 have lim:s.heap.NoLimit:=e0.mod.nolimit.keeps λb o e=>(e0.bs b o e).1
 have Pt:∀y∈ps.zip us,scope.names.lookup y.1=some .local\/(scope.names.lookup y.1=some .cell/\((cellsFrom (s.heap.objs.size+1) scope.names []).lookup y.1).isSome=true):=λ⟨n,v⟩ hy=>by
  rcases S.par n (List.of_mem_zip hy).1 with q | q
  ·exact .inl q
  ·exact .inr ⟨q,PySem.W.cellsFrom_some _ _ _ (.inl q)⟩
 refine codeAny_call_function hr.depth (KX _ _ lk) rfl S.co S.gen rfl (PySem.W.codeRec_of KX Ca) (hb _ _ _ _ ?_)
 refine wpAny_newFunctionEnv_cells S.kind Pt λenv he s1 x=>?_
 subst he
 refine⟨lim.keeps x.toInCall.keep,codeAny_func ?_⟩
 obtain⟨t,ht,hq⟩:=nk A outer s H vs Q E (hr.deeper _) GF
 have I:Inv (iY CX P w K mg base N qual scope f cI A outer s H E) [] (start N vs) H s1:=BX S hr.hd e0 hl r x
 refine eT (ht [] s1 (start N vs) H _ I hq) (λfl s' hs=>?_) λe s' hs=>hs
 have fin:∀{σ':St} {H':Hp} {v:V} {u:Value},Inv (iY CX P w K mg base N qual scope f cI A outer s H E) [] σ' H' s'->RelV v u->Q v H'->CE outer P w H s Q u s':=
  λ{σ' H' v u} J rv q=>⟨v,H',J.os,J.bare,J.base,J.cw,rv,q⟩
 cases fl with
 | ret u=>
  obtain⟨v,σ',H',J,rv,q⟩:=hs
  exact fin J rv q
 | next=>
  obtain⟨σ',H',J,q⟩:=hs
  exact fin (v:=V.non) (u:=Value.none) J rfl q
 | brk=>
  obtain⟨_,_,_,q⟩:=hs
  exact False.elim q
 | cont=>
  obtain⟨_,_,_,q⟩:=hs
  exact False.elim q
end L2
namespace L2
open PySem PySem.Spec PyProof.Rows
section
variable {X:Cx}{x:Str}{p pos:Pos}{e:Expr}{es:List Expr}{t:TA}{id T:String}{r:List V->Hp->VK->Prop}
def NT(r:List V->Hp->VK->Prop)(t:TA):TE:=λσ H Q=>t σ H λvs H1=>r vs H1 Q
theorem j3(hc:cv X (.builtin id) r)(hg:Gl X x)(hm:X.mg x=none)(hv:bootBuiltins x=some (.builtin id))(ha:PA X (e::es) t)(hn:x≠"__name__":=by decide)(vE:(x==("__debug__" : Str))=false:=by decide)
  (he:starEach (e::es) X.env=(false,eval e X.env)::starEach es X.env:=by rfl) (rh:(backTo pos (starEach es X.env)).any (·.1)=false:=by rfl):PE X (.Call (.Name x p) (e::es) [] pos) (NT r t):=by
 intro pins s σ H Q I h
 refine pY (qK I hg hm hv ?_ hn vE)
 exact PyProof.Rows.callWith_builtin1 (cL (ha pos pins s σ H _ I h) λus s1 ⟨vs,H1,I1,r1,q1⟩=>hc pins s1 σ H1 vs us Q I1 r1 q1) he rh
theorem iV(hc:cv X (.type T) r)(hg:Gl X x)(hm:X.mg x=none)(hv:bootBuiltins x=some (.type T))(ha:PA X (e::es) t)(hn:x≠"__name__":=by decide)(vE:(x==("__debug__" : Str))=false:=by decide)
  (he:starEach (e::es) X.env=(false,eval e X.env)::starEach es X.env:=by rfl) (rh:(backTo pos (starEach es X.env)).any (·.1)=false:=by rfl):PE X (.Call (.Name x p) (e::es) [] pos) (NT r t):=by
 intro pins s σ H Q I h
 refine pY (qK I hg hm hv ?_ hn vE)
 exact ym (cL (ha pos pins s σ H _ I h) λus s1 ⟨vs,H1,I1,r1,q1⟩=>hc pins s1 σ H1 vs us Q I1 r1 q1) he rh
end
end L2
namespace HT
open PySem PyProof.Rows
section
open PySem.SeqAt
open PySem.AutoSeq1 (wpAny_loadPart')
open PySem.MeetsSeq PySem.MeetsSeq2 PySem.MeetsSeq3
end
section
variable {prog:Program}{w:World}{A:Around}{E:Value->Shared->Prop}{s:Shared}
def bY(n d:Nat):Option Int->Nat
 | none=>d
 | some v=>if v<0 then (v+(n:Int)).toNat else min v.toNat n
theorem Ed(n d:Nat)(hd:d<=n)(o:Option Int):bY n d o<=n:=by
 cases o with
 | none=>exact hd
 | some v=>
  show(if v<0 then (v+(n:Int)).toNat else min v.toNat n)<=n
  by_cases hv:v<0
  ·rw[bu hv];lia
  ·rw[aI hv];exact Nat.min_le_right _ _
theorem Ar(v:Int)(n d:Nat):(if v<0 then max (v+(n:Int)) 0 else min v (n:Int))=((bY n d (some v):Nat):Int):=by
 show(if v<0 then max (v+(n:Int)) 0 else min v (n:Int))=(((if v<0 then (v+(n:Int)).toNat else min v.toNat n):Nat):Int)
 by_cases hv:v<0
 ·simp only[bu hv];lia
 ·simp only[aI hv];lia
theorem zl(lo hi:Option Int)(n:Nat):Builtin.Slice.sliceAdjust lo hi 1 (n:Int)=(((bY n 0 lo:Nat):Int),((bY n n hi:Nat):Int)):=by
 have h1:¬((1:Int)<0):=by lia
 unfold Builtin.Slice.sliceAdjust
 simp only[h1,jT]
 refine Prod.ext ?_ ?_
 ·cases lo with
  | none=>rfl
  | some v=>exact Ar v n 0
 ·cases hi with
  | none=>rfl
  | some v=>exact Ar v n n
theorem yI(i j:Nat):Builtin.Slice.slicePlaces (i:Int) (j:Int) 1=j-i:=by
 unfold Builtin.Slice.slicePlaces
 have h1:(1:Int) > 0:=by lia
 simp only[h1,fW,Int.ediv_one]
 split <;> lia
theorem qw{v:Value}{o:Option Int}{Q:Option Int->Shared->Prop}(p:IsPart v o)(h:Q o s):wpAny (model prog w) A (Builtin.Slice.slicePartIndex v) Q E s:=by
 cases p with
 | none=>exact slicePart_none h
 | int i t=>exact slicePart_int h
theorem nX{sl:Addr}{vl vu:Value}{lo hi:Option Int}{n:Nat}{Q:Int×Int×Nat->Shared->Prop}(hs:s.heap.IsSliceOf sl vl vu .none)(pl:IsPart vl lo)(pu:IsPart vu hi)
  (h:Q (((bY n 0 lo:Nat):Int),1,bY n n hi-bY n 0 lo) s):wpAny (model prog w) A (Builtin.Slice.sliceApplied (.ref sl) (pure (n:Int))) Q E s:=by
 obtain⟨os,Pl,FP,Rt⟩:=id hs
 unfold Builtin.Slice.sliceApplied Builtin.Slice.sliceFields
 refine av (av (eB Pl Rt (x:=vl) rfl (av (eB Pl Rt (x:=vu) rfl (av (eB Pl Rt (x:=.none) rfl (aU ?_)))))))
 refine av (slicePart_none ?_)
 show wpAny _ _ (if ((1:Int)==0)=true then _ else _) _ _ s
 rw[aI (by decide)]
 refine av (qw pl (av (qw pu (av (aU ?_)))))
 show wpAny _ _ (match Builtin.Slice.sliceAdjust lo hi 1 (n:Int) with | (lo,hi)=>pure (lo,(1:Int),Builtin.Slice.slicePlaces lo hi 1)) _ _ s
 rw[zl lo hi n]
 show wpAny _ _ (pure (((bY n 0 lo:Nat):Int),(1:Int),Builtin.Slice.slicePlaces ((bY n 0 lo:Nat):Int) ((bY n n hi:Nat):Int) 1)) _ _ s
 rw[yI]
 exact aU h
theorem Et(xs:Array Value)(i k:Nat):((List.range k).filterMap λ(m:Nat)=>xs[((i:Int)+(m:Int)*1).toNat]?).toArray=((xs.toList.drop i).take k).toArray:=by
 have e:(λ(m:Nat)=>xs[((i:Int)+(m:Int)*1).toNat]?)=λm=>xs[i+m]?:=by
  funext m
  have:((i:Int)+(m:Int)*1).toNat=i+m:=by lia
  rw[this]
 rw[e]
 have:=pick_run xs i k
 rw[List.filterMap_map]at this
 have e2:((λx=>xs[x]?) ∘ λx=>i+x)=λm=>xs[i+m]?:=rfl
 rw[e2]at this
 rw[this]
theorem nq{t sl:Addr}{items:Array Value}{vl vu:Value}{lo hi:Option Int}{Q:Value->Shared->Prop}(ht:IsTup s.heap t items)(hs:s.heap.IsSliceOf sl vl vu .none)(pl:IsPart vl lo)(pu:IsPart vu hi)
  (hw:¬(bY items.size 0 lo=0/\bY items.size items.size hi=items.size))
  (h:Q (.ref s.heap.objs.size) { s with heap:=s.heap.push { cls:=.type "tuple",data:=.seq ((items.toList.drop (bY items.size 0 lo)).take (bY items.size items.size hi-bY items.size 0 lo)).toArray } })
  (pz:items.size<=sizeLine):wpAny (model prog w) A (getItem (.ref t) (.ref sl)) Q E s:=by
 have Af:sizeOk (.seq ((items.toList.drop (bY items.size 0 lo)).take (bY items.size items.size hi-bY items.size 0 lo)).toArray):=by
  show((items.toList.drop (bY items.size 0 lo)).take (bY items.size items.size hi-bY items.size 0 lo)).toArray.size<=sizeLine
  rw[cg,cA,jQ,iR]
  lia
 have hj:bY items.size items.size hi<=items.size:=Ed _ _ (bF _) hi
 obtain⟨os,Pl,FP,Rt⟩:=id hs
 have hTs:s.TypeIs (.ref sl) "slice":=⟨os,Pl,FP⟩
 unfold getItem
 try with_reducible refine ic ?_
 first | refine av (aU ?_) | skip
 refine av (wpAny_sequenceKey ht.typeIs (by decide) ?_)
 refine av (pN (name:=Str.ofString "__getitem__") ht.typeIs yn
  (lD yn ht.typeIs entry_tuple_getitem ?_ (args_tuple_getitem _ _)))
 show wpAny _ _ (Builtin.Tuple.tupleItemsOf (.ref t) >>= _) _ _ s
 refine av (tupleItemsOf_ ht ?_)
 refine av (wpAny_typeOf hTs ?_)
 rw[bu (by decide)]
 refine av (nX hs pl pu ?_)
 have Pn:¬((((bY items.size 0 lo:Nat):Int)==0&&(1:Int)==1&&(bY items.size items.size hi-bY items.size 0 lo)==items.size)=true):=by
  intro q
  rw[cX,cX]at q
  have q1:((bY items.size 0 lo:Nat):Int)=0:=eq_of_beq q.1.1
  have q2:bY items.size items.size hi-bY items.size 0 lo=items.size:=eq_of_beq q.2
  exact hw ⟨by lia,by lia⟩
 show wpAny _ _ (if (((bY items.size 0 lo:Nat):Int)==0&&(1:Int)==1&&(bY items.size items.size hi-bY items.size 0 lo)==items.size)=true then _ else _) _ _ s
 rw[aI Pn,Et]
 first
  | exact av (m:=Builtin.Tuple.tupleExact _) (ik (aU ⟨_,rfl,aU h⟩) Af)
  | exact av (m:=Builtin.Tuple.tupleExact _) (ik (av (aU (aU ⟨_,rfl,aU h⟩))) Af)
  | exact av (av (m:=Builtin.Tuple.tupleExact _) (ik (aU (aU ⟨_,rfl,aU h⟩)) Af))
  | exact av (av (m:=Builtin.Tuple.tupleExact _) (ik (aU ⟨_,rfl,aU h⟩) Af))
end
end HT
namespace L2
open PySem PySem.Spec PyProof.Rows
abbrev TO:=St->Hp->(Option Int->Hp->Prop)->Prop
def PO(X:Cx)(e:Option Expr)(t:TO):Prop:=
 ∀(pins:List (Addr×Obj)) (s:Shared) (σ:St) (H:Hp) (Q:Option Int->Hp->Prop),Inv X pins σ H s->t σ H Q->
  wpAny (model X.prog X.w) X.A (evalPart e X.env) (λu s'=>∃o H',Inv X pins σ H' s'/\IsPart u o/\Q o H') X.xe s
def u5:TO:=λ_ H Q=>Q none H
def Dq(t:TE):TO:=λσ H Q=>t σ H λx H1=>∃i,x=.int i/\Q (some i) H1
section
variable {X:Cx}{e:Expr}{te:TE}{lo hi:Option Expr}{tl th:TO}{pos p2:Pos}
theorem HS:PO X none u5:=by
 intro pins s σ H Q I h
 rw[evalPart_none]
 exact aU ⟨none,H,I,.none,h⟩
theorem HR(h:PE X e te):PO X (some e) (Dq te):=by
 intro pins s σ H Q I hw
 rw[evalPart_some]
 refine cL (h pins s σ H _ I hw) λu s1 ⟨x,H1,I1,r1,q1⟩=>?_
 obtain⟨i,rfl,q⟩:=q1
 obtain⟨t,rfl⟩:=r1
 exact⟨some i,H1,I1,.int i t,q⟩
def GZ(X:Cx)(r:V->Option Int->Option Int->Hp->VK->Prop):Prop:=
 ∀(pins:List (Addr×Obj)) (s:Shared) (σ:St) (H:Hp) (x:V) (v vl vu:Value) (lo hi:Option Int) (sl:Addr) (Q:VK),Inv X pins σ H s->RelV x v->s.heap.IsSliceOf sl vl vu .none->IsPart vl lo->IsPart vu hi->r x lo hi H Q->
  ∃T id,typeLookup (.type T) "__getitem__" = pure (some (.builtin id))/\s.TypeIs v T/\wpAny (model X.prog X.w) X.A (getItem v (.ref sl)) (EP X pins σ Q) X.xe s
def RX(r:V->Option Int->Option Int->Hp->VK->Prop)(te:TE)(tl th:TO):TE:=λσ H Q=>te σ H λx H1=>tl σ H1 λl H2=>th σ H2 λu H3=>r x l u H3 Q
theorem Ey{r:V->Option Int->Option Int->Hp->VK->Prop}(hr:GZ X r)(he:PE X e te)(hl:PO X lo tl)(hu:PO X hi th):PE X (.Subscript e (.Slice lo hi none p2) pos) (RX r te tl th):=by
 intro pins s σ H Q I h
 refine Subscript_ (cL (he pins s σ H _ I h) λv s1 ⟨x,H1,I1,r1,q1⟩=>?_)
 refine wpAny_Slice (cL (hl pins s1 σ H1 _ I1 q1) λvl s2 ⟨l,H2,I2,pl,q2⟩=>cL (hu pins s2 σ H2 _ I2 q2) λvu s3 ⟨u,H3,I3,pu,q3⟩=>?_)
 rw[evalPart_none]
 refine aU ?_
 have I4:Inv X pins σ H3 { s3 with heap:=s3.heap.push { cls:=.type "slice",data:=.fields #[vl,vu,.none] } }:=I3.kept (t':=s3.toks) λb ob q=>bP _ q
 obtain⟨T,id,hT,ht,hg⟩:=hr pins { s3 with heap:=s3.heap.push { cls:=.type "slice",data:=.fields #[vl,vu,.none] } } σ H3 x v vl vu l u s3.heap.objs.size Q I4 r1 (Heap.IsSliceOf.new ..) pl pu q3
 show wpAny (model X.prog X.w) X.A (subscriptTail e (.Slice lo hi none p2) v (.ref s3.heap.objs.size)) (EP X pins σ Q) X.xe { s3 with heap:=s3.heap.push { cls:=.type "slice",data:=.fields #[vl,vu,.none] } }
 exact tail_any (ops:=[.ref s3.heap.objs.size,v]) ht hT hg (by with_unfolding_all rfl)
def dO(xs:List V)(lo hi:Option Int):List V:=(xs.drop (HT.bY xs.length 0 lo)).take (HT.bY xs.length xs.length hi-HT.bY xs.length 0 lo)
theorem oR(xs:List V)(lo hi:Option Int):(dO xs lo hi).length<=xs.length:=by
 unfold dO
 rw[cA,jQ]
 lia
def S5(K:PySem.W.Frag):V->Option Int->Option Int->Hp->VK->Prop:=λx lo hi H Q=>∃a xs,x=.ref a/\oV K H a xs/\
 ¬(HT.bY xs.length 0 lo=0/\HT.bY xs.length xs.length hi=xs.length)/\∀p,H p=none->Q (.ref p) (upd H p (.tup (dO xs lo hi)))
theorem Kn:GZ X (S5 X.K):=by
 intro pins s σ H x v vl vu lo hi sl Q I rx hs pl pu h
 obtain⟨a,xs,rfl,hx,hw,q⟩:=h
 cases rx
 obtain⟨its,r,ht,hz⟩:=I.tuple hx
 have hlen:its.toArray.size=xs.length:=by rw[cg];exact r.length.symm
 refine⟨"tuple",_,yn.lookup,ht.typeIs,?_⟩
 refine HT.nq ht hs pl pu (by rw[hlen];exact hw) ?_ (by rw[hlen];exact hz)
 rw[hlen]
 refine⟨.ref s.heap.objs.size,_,I.laid (t':=s.toks) (o:=.tup (dO xs lo hi)) (λb ob q=>bP _ q) (bF _) ?_,rfl,q _ (I.cw.fresh (bF _))⟩
 exact⟨cN (oR xs lo hi) hz,_,(r.drop (HT.bY xs.length 0 lo)).take (HT.bY xs.length xs.length hi-HT.bY xs.length 0 lo),IsTup.new _ _⟩
end
end L2
namespace L2
open PySem PySem.Spec PyProof.Rows
def BV(n:Nat)(i:Int):Option Nat:=if 0<=i then (if i<n then some i.toNat else none) else if -(n:Int)<=i then some (i+n).toNat else none
def mz{α:Type}(xs:List α)(i:Int):Option α:=(BV xs.length i).bind λj=>xs[j]?
theorem Ae{n:Nat}{i:Int}{j:Nat}(h:BV n i=some j):seqIndex? i n=some j/\j<n/\-(n:Int)<=i/\i<n:=by
 unfold BV at h
 by_cases h0:0<=i
 ·rw[bu h0]at h
  by_cases h1:i<n
  ·rw[bu h1]at h
   have e:i.toNat=j:=de h
   exact⟨by rw[seqIndex_of h0 h1,e],by lia,by lia,h1⟩
  ·rw[aI h1]at h;cases h
 ·rw[aI h0]at h
  by_cases h1 : -(n:Int)<=i
  ·rw[bu h1]at h
   have e:(i+n).toNat=j:=de h
   exact⟨by rw[seqIndex_neg (by lia) h1,e],by lia,h1,by lia⟩
  ·rw[aI h1]at h;cases h
theorem pC{α:Type}{xs:List α}{i:Int}{v:α}(h:mz xs i=some v):∃j,seqIndex? i xs.length=some j/\xs[j]?=some v/\j<xs.length/\-(xs.length:Int)<=i/\i<xs.length:=by
 unfold mz at h
 cases e:BV xs.length i with
 | none=>rw[e]at h;cases h
 | some j=>
  rw[e]at h
  obtain⟨h1,h2,h3,h4⟩:=Ae e
  exact⟨j,h1,h,h2,h3,h4⟩
theorem cy{α:Type}{xs:List α}{j:Nat}{v:α}(h:xs[j]?=some v):mz xs (j:Int)=some v:=by
 have hj:j<xs.length:=(gp.mp h).1
 have e:BV xs.length (j:Int)=some j:=by
  unfold BV
  rw[bu (by lia),bu (by lia)];simp
 unfold mz;rw[e];exact h
def Ay(b:Expr):Prop:=∀o i,subscripted b false o i=operate [o,i] (getItem o i)
def Gu(X:Cx)(r:R2):Prop:=
 ∀(value slice:Expr) (pins:List (Addr×Obj)) (s:Shared) (σ:St) (H:Hp) (x y:V) (v u:Value) (Q:VK),Inv X pins σ H s->RelV x v->RelV y u->r x y H Q->
  subscripted slice false v u=operate [v,u] (getItem v u)->wpAny (model X.prog X.w) X.A (subscriptTail value slice v u) (EP X pins σ Q) X.xe s
def JW(X:Cx)(id:String)(r:V->List V->Hp->VK->Prop):Prop:=
 ∀(pins:List (Addr×Obj)) (s:Shared) (σ:St) (H:Hp) (x:V) (xs:List V) (v:Value) (us:List Value) (Q:VK),Inv X pins σ H s->RelV x v->Vals xs us->r x xs H Q->
  wpAny (model X.prog X.w) X.A (call (.builtin id) (v::us)) (EP X pins σ Q) X.xe s
section
variable {X:Cx}{a b:Expr}{ta tb:TE}{pos:Pos}
theorem Ot{r:R2}(hr:Gu X r)(ha:PE X a ta)(hb:PE X b tb)(hs:Ay b):PE X (.Subscript a b pos) (Dt r ta tb):=by
 intro pins s σ H Q I h
 exact Subscript_ (MN ha hb I h λv u s2 x y H2 I2 rx ry q=>hr a b pins s2 σ H2 x y v u Q I2 rx ry q (hs _ _))
def S9(K:PySem.W.Frag):R2:=λx y H Q=>∃p xs i v,x=.ref p/\y=.int i/\nD K H p xs/\mz xs i=some v/\Q v H
def S7(K:PySem.W.Frag):R2:=λx y H Q=>∃p xs i v,x=.ref p/\y=.int i/\oV K H p xs/\mz xs i=some v/\Q v H
def S8:R2:=λx y H Q=>∃z i c,x=.str z/\y=.int i/\z.length<=sizeLine/\mz z.cps.toList i=some c/\Q (.str ⟨#[c]⟩) H
theorem Iv:Gu X (S9 X.K):=by
 intro value slice pins s σ H x y v u Q I rx ry h hs
 obtain⟨p,xs,i,z,rfl,rfl,hq,he,q⟩:=h
 cases rx
 obtain⟨t,rfl⟩:=ry
 obtain⟨its,r,pl,hz⟩:=I.list hq
 obtain⟨j,h1,h2,h3,h4,h5⟩:=pC he
 obtain⟨w,ew,Hr⟩:=r.get h2
 have hl:=r.length
 have hn:=md
 have fin:EP X pins σ Q w s:=⟨z,H,I,Hr,q⟩
 by_cases h0:0<=i
 ·have hj:i.toNat=j:=by
   rw[seqIndex_of h0 h5]at h1
   exact de h1
  exact item_listR pl.isList h0 (by lia) (by rw[hj];simpa using ew) fin hs
 ·have hj:(i+(its.toArray.size:Int)).toNat=j:=by
   rw[seqIndex_neg (by lia) h4]at h1
   rw[cg,<-hl]
   exact de h1
  exact subscriptTail_builtinR (x:=w) pl.isList.typeIs slot_list_getitem.lookup
   (wpAny_getItem_list_neg (Q:=λr s'=>r=w/\EP X pins σ Q r s') pl.isList (by lia) (by rw[cg] <;> lia) (by lia) (by rw[hj];simpa using ew) ⟨rfl,fin⟩) hs
theorem Lp:Gu X (S7 X.K):=by
 intro value slice pins s σ H x y v u Q I rx ry h hs
 obtain⟨p,xs,i,z,rfl,rfl,hq,he,q⟩:=h
 cases rx
 obtain⟨t,rfl⟩:=ry
 obtain⟨its,r,pl,hz⟩:=I.tuple hq
 obtain⟨j,h1,h2,h3,h4,h5⟩:=pC he
 obtain⟨w,ew,Hr⟩:=r.get h2
 have hl:=r.length
 have hn:=md
 have fin:EP X pins σ Q w s:=⟨z,H,I,Hr,q⟩
 exact subscriptTail_builtinR (x:=w) pl.typeIs slot_tuple_getitem.lookup
  (getItem_tuple (j:=j) (Q:=λr s'=>r=w/\EP X pins σ Q r s') pl (by lia) (by lia) (by rw[cg,<-hl];exact h1) (by simpa using ew) ⟨rfl,fin⟩) hs
theorem Lq:Gu X S8:=by
 intro value slice pins s σ H x y v u Q I rx ry h hs
 obtain⟨z,i,c,rfl,rfl,hz,he,q⟩:=h
 obtain⟨t,rfl⟩:=rx
 obtain⟨t',rfl⟩:=ry
 obtain⟨j,h1,h2,h3,h4,h5⟩:=pC he
 have hl:z.cps.toList.length=z.length:=by simp[Str.length]
 rw[hl]at h1 h4 h5
 have hn:=md
 exact tail_any (nI s z t) slot_str_getitem.lookup (getItem_str (c:=c) (by
  have e1:decide (i < -(2 ^ 63:Int))=false:=decide_eq_false (by lia)
  have e2:decide (i>=2 ^ 63)=false:=decide_eq_false (by lia)
  rw[e1,e2,Bool.or_false]) (by rw[h1];simpa using h2) ⟨.str ⟨#[c]⟩,H,I.tok _,⟨_,rfl⟩,q⟩) hs
theorem yQ(its:List Value)(n j:Nat)(u:Value):Obj.mapSeq (·.setIfInBounds j u) { cls:=.type "list",data:=.seq its.toArray n }={ cls:=.type "list",data:=.seq (its.set j u).toArray n }:=by
 simp[Obj.mapSeq]
theorem Inv.lst{pins:List (Addr×Obj)}{σ:St}{H:Hp}{s:Shared}{p:Addr}{xs:List V}(I:Inv X pins σ H s)(h:H p=some (.lst xs)) :
  ∃(its:List Value) (n:Nat),Vals xs its/\s.heap.get? p=some { cls:=.type "list",data:=.seq its.toArray n }/\xs.length<=sizeLine:=by
 obtain⟨z,its,n,r,e⟩:=I.cw p _ h
 exact⟨its,n,r,e,z⟩
theorem Inv.Lg{pins:List (Addr×Obj)}{σ:St}{H:Hp}{s:Shared}{p:Addr}{xs ys:List V}{its its':List Value}{n n':Nat}{f:Obj->Obj}(I:Inv X pins σ H s)(h:H p=some (.lst xs))
  (ho:s.heap.get? p=some { cls:=.type "list",data:=.seq its.toArray n }) (hf:f { cls:=.type "list",data:=.seq its.toArray n }={ cls:=.type "list",data:=.seq its'.toArray n' }) (r:Vals ys its') (hz:ys.length<=sizeLine) (t:Nat) :
  Inv X pins σ (upd H p (.lst ys)) { s with heap:=s.heap.update p f,toks:=t }:=by
 have e:(s.heap.update p f).get? p=some { cls:=.type "list",data:=.seq its'.toArray n' }:=by
  rw[lG f ho (by rw[hf] <;> rfl),hf]
 refine I.write (x:=p) (e:=p) (by rw[h];trivial) (.inl rfl) (λb u hb q=>(mL _ _ (iP hb)).trans q) ⟨_,e⟩ ?_
 exact⟨hz,its',n',r,e⟩
def N8:V->V->V->Hp->(Hp->Prop)->Prop:=λo i v H Q=>∃p xs k j,o=.ref p/\i=.int k/\H p=some (.lst xs)/\BV xs.length k=some j/\Q (upd H p (.lst (xs.set j v)))
theorem set_list:Cw X N8:=by
 intro pins s σ H o i v ov iv u Q I ro ri rv h
 obtain⟨p,xs,k,j,rfl,rfl,hp,hj,q⟩:=h
 cases ro
 obtain⟨t,rfl⟩:=ri
 obtain⟨its,n,r,ho,hz⟩:=I.lst hp
 obtain⟨h1,h2,h3,h4⟩:=Ae hj
 have hl:=r.length
 have hn:=md
 have I':Inv X pins σ (upd H p (.lst (xs.set j v))) { s with heap:=s.heap.update p (Obj.mapSeq (·.setIfInBounds j u)) }:=
  I.Lg hp ho (yQ its n j u) (r.set rv j) (by rw[List.length_set];exact hz) s.toks
 by_cases h0:0<=k
 ·have hk:k.toNat=j:=by
   rw[seqIndex_of h0 h4]at h1
   exact de h1
  exact PySem.W.ki_setAt ho h0 (by lia) (by rw[cg,<-hl];exact h4) (by rw[hk];exact⟨_,I',q⟩)
 ·have hk:(k+(its.toArray.size:Int)).toNat=j:=by
   rw[seqIndex_neg (by lia) h3]at h1
   rw[cg,<-hl]
   exact de h1
  exact PySem.W.ki_setBack ho (by lia) (by rw[cg,<-hl];exact h3) (by lia) (by rw[hk];exact⟨_,I',q⟩)
theorem mV(lo hi:Option Int)(n:Nat):(sliceBounds lo hi none n).1=((HT.bY n 0 lo:Nat):Int)/\(sliceBounds lo hi none n).2.1=((HT.bY n n hi:Nat):Int)/\(sliceBounds lo hi none n).2.2=1:=by
 refine⟨?_,?_,rfl⟩
 ·cases lo with
  | none=>simp[sliceBounds,HT.bY]
  | some i=>
   simp only[sliceBounds,HT.bY,Option.getD_none,show(1:Int) > 0 by decide,fW]
   by_cases h:i<0
   ·simp only[h,fW] <;> lia
   ·simp only[h,jT] <;> lia
 ·cases hi with
  | none=>simp[sliceBounds,HT.bY]
  | some i=>
   simp only[sliceBounds,HT.bY,Option.getD_none,show(1:Int) > 0 by decide,fW]
   by_cases h:i<0
   ·simp only[h,fW] <;> lia
   ·simp only[h,jT] <;> lia
theorem rz(its:List Value)(lo hi:Option Int):slicePick its.toArray lo hi none=((its.drop (HT.bY its.length 0 lo)).take (HT.bY its.length its.length hi-HT.bY its.length 0 lo)).toArray:=by
 obtain⟨h1,h2,h3⟩:=mV lo hi its.toArray.size
 unfold slicePick
 rw[h1,h2,h3]
 simp only[sliceRange_one,pick_run,cg] <;> rfl
def S6(K:PySem.W.Frag):V->Option Int->Option Int->Hp->VK->Prop:=λx lo hi H Q=>∃a xs,x=.ref a/\nD K H a xs/\∀p,H p=none->Q (.ref p) (upd H p (.lst (dO xs lo hi)))
theorem zN:GZ X (S6 X.K):=by
 intro pins s σ H x v vl vu lo hi sl Q I rx hs pl pu h
 obtain⟨a,xs,rfl,hx,q⟩:=h
 cases rx
 obtain⟨its,r,ht,hz⟩:=I.list hx
 have hlen:=r.length
 refine⟨"list",_,slot_list_getitem.lookup,ht.isList.typeIs,?_⟩
 refine wpAny_getItem_list_slice ht.isList hs pl pu .none (by simp) ?_ (by rw[cg] <;> lia)
 rw[rz,<-hlen]
 refine⟨.ref s.heap.objs.size,_,I.laid (t':=s.toks) (o:=.lst (dO xs lo hi)) (λb ob q=>bP _ q) (bF _) ?_,rfl,q _ (I.cw.fresh (bF _))⟩
 exact⟨cN (oR xs lo hi) hz,_,0,(r.drop (HT.bY xs.length 0 lo)).take (HT.bY xs.length xs.length hi-HT.bY xs.length 0 lo),eS _ rfl⟩
def gR:V->Bool
 | .non=>true
 | .bl _=>true
 | .int _=>true
 | .str _=>true
 | _=>false
def GR:V->V->Bool
 | .non,.non=>true
 | .bl a,.bl b=>a==b
 | .bl a,.int b=>(if a then 1 else 0)==b
 | .int a,.bl b=>a==(if b then 1 else 0)
 | .int a,.int b=>a==b
 | .str a,.str b=>a==b
 | _,_=>false
theorem Mu{A:Around}{s:Shared}{y x:V}{u v:Value}(ry:RelV y u)(rx:RelV x v)(fy:gR y=true)(fx:gR x=true):SeqAt.EqAt A s u v (GR y x):=by
 cases y with
 | non=>
  cases ry
  cases x with
  | non=>cases rx;exact SeqAt.EqAt.same _
  | bl b=>cases rx;exact SeqAt.EqAt.none_bool b
  | int b=>obtain⟨t,rfl⟩:=rx;exact SeqAt.EqAt.none_int b t
  | str b=>obtain⟨t,rfl⟩:=rx;exact SeqAt.EqAt.none_str b t
  | _=>exact absurd (show false=true from fx) cO
 | bl a=>
  cases ry
  cases x with
  | non=>cases rx;exact SeqAt.EqAt.bool_none a
  | bl b=>cases rx;exact SeqAt.EqAt.bool_bool a b
  | int b=>obtain⟨t,rfl⟩:=rx;exact SeqAt.EqAt.bool_int a b t
  | str b=>obtain⟨t,rfl⟩:=rx;exact SeqAt.EqAt.bool_str a b t
  | _=>exact absurd (show false=true from fx) cO
 | int a=>
  obtain⟨t',rfl⟩:=ry
  cases x with
  | non=>cases rx;exact SeqAt.EqAt.int_none a t'
  | bl b=>cases rx;exact SeqAt.EqAt.int_bool a t' b
  | int b=>obtain⟨t,rfl⟩:=rx;exact SeqAt.EqAt.int_int a t' b t
  | str b=>obtain⟨t,rfl⟩:=rx;exact SeqAt.EqAt.int_str a t' b t
  | _=>exact absurd (show false=true from fx) cO
 | str a=>
  obtain⟨t',rfl⟩:=ry
  cases x with
  | non=>cases rx;exact SeqAt.EqAt.str_none a t'
  | bl b=>cases rx;exact SeqAt.EqAt.str_bool a t' b
  | int b=>obtain⟨t,rfl⟩:=rx;exact SeqAt.EqAt.str_int a t' b t
  | str b=>obtain⟨t,rfl⟩:=rx;exact SeqAt.EqAt.str_str a t' b t
  | _=>exact absurd (show false=true from fx) cO
 | _=>exact absurd (show false=true from fy) cO
def y7(x:V)(u:Value):Bool:=match u with
 | .none=>GR .non x
 | .bool b=>GR (.bl b) x
 | .int i _=>GR (.int i) x
 | .str z _=>GR (.str z) x
 | _=>false
theorem Ga{x y:V}{u:Value}(r:RelV y u)(f:gR y=true):y7 x u=GR y x:=by
 cases y with
 | non=>cases r;rfl
 | bl b=>cases r;rfl
 | int i=>obtain⟨t,rfl⟩:=r;rfl
 | str z=>obtain⟨t,rfl⟩:=r;rfl
 | _=>exact absurd (show false=true from f) cO
theorem nB{x:V}:∀{xs:List V} {us:List Value},Vals xs us->xs.all gR=true->us.any (y7 x)=xs.any λy=>GR y x
 | _,_,.nil,_=>rfl
 | y::xs,u::us,.cons r t,f=>by
  rw[nR,cX]at f
  rw[List.any_cons,List.any_cons,Ga r f.1,nB t f.2]
theorem j5{A:Around}{s:Shared}{x:V}{v:Value}(rx:RelV x v)(fx:gR x=true):∀{xs:List V} {us:List Value},Vals xs us->xs.all gR=true->∀u∈us,SeqAt.EqAt A s u v (y7 x u)
 | _,_,.nil,_=>λu hu=>by cases hu
 | y::xs,u::us,.cons r t,f=>λu' hu=>by
  rw[nR,cX]at f
  rcases cz.mp hu with rfl | hu
  ·rw[Ga r f.1];exact Mu r rx f.1 fx
  ·exact j5 rx fx t f.2 u' hu
def JG(x:V)(xs:List V):Bool:=xs.any λy=>GR y x
def X4(K:PySem.W.Frag)(neg:Bool):R2:=λx y H Q=>∃p xs,y=.ref p/\(nD K H p xs\/oV K H p xs)/\gR x=true/\xs.all gR=true/\Q (.bl (if neg then !JG x xs else JG x xs)) H
theorem Bu:iN X (compareOp .In) (X4 X.K false):=by
 intro pins s σ H x y v u Q I rx ry h
 obtain⟨p,xs,rfl,hq,fx,fs,q⟩:=h
 cases ry
 rcases hq with hq | hq
 ·obtain⟨its,r,pl,hz⟩:=I.list hq
  refine SeqAt.in_listAt (y7 x) pl.isList (λw hw=>j5 rx fx r fs w (by simpa using hw)) ⟨.bl _,H,I,rfl,?_⟩
  rw[show its.toArray.any (y7 x)=its.any (y7 x) by simp,nB r fs]
  exact q
 ·obtain⟨its,r,pl,hz⟩:=I.tuple hq
  refine SeqAt.in_tupleAt (y7 x) pl (λw hw=>j5 rx fx r fs w (by simpa using hw)) ⟨.bl _,H,I,rfl,?_⟩
  rw[show its.toArray.any (y7 x)=its.any (y7 x) by simp,nB r fs]
  exact q
theorem vk:iN X (compareOp .NotIn) (X4 X.K true):=by
 intro pins s σ H x y v u Q I rx ry h
 obtain⟨p,xs,rfl,hq,fx,fs,q⟩:=h
 cases ry
 rcases hq with hq | hq
 ·obtain⟨its,r,pl,hz⟩:=I.list hq
  refine SeqAt.notIn_listAt (y7 x) pl.isList (λw hw=>j5 rx fx r fs w (by simpa using hw)) ⟨.bl _,H,I,rfl,?_⟩
  rw[show its.toArray.any (y7 x)=its.any (y7 x) by simp,nB r fs]
  exact q
 ·obtain⟨its,r,pl,hz⟩:=I.tuple hq
  refine SeqAt.notIn_tupleAt (y7 x) pl (λw hw=>j5 rx fx r fs w (by simpa using hw)) ⟨.bl _,H,I,rfl,?_⟩
  rw[show its.toArray.any (y7 x)=its.any (y7 x) by simp,nB r fs]
  exact q
theorem nu:cv X (.builtin "len") (λxs H Q=>∃p ys,xs=[.ref p]/\(nD X.K H p ys\/oV X.K H p ys)/\Q (.int ys.length) H):=by
 intro pins s σ H xs us Q I r h
 obtain⟨p,ys,rfl,hq,q⟩:=h
 obtain⟨u,rfl,rx⟩:=vals1 r
 cases rx
 have hn:=md
 rcases hq with hq | hq
 ·obtain⟨its,r',pl,hz⟩:=I.list hq
  have hlen:=r'.length
  exact Calls.call_len_list pl.isList (by simp only[cg] <;> lia) ⟨.int ys.length,H,I.tok _,⟨s.toks+1,by rw[cg,hlen]⟩,q⟩
 ·obtain⟨its,r',pl,hz⟩:=I.tuple hq
  have hlen:=r'.length
  exact len_tuple pl (by simp only[cg] <;> lia) ⟨.int ys.length,H,I.tok _,⟨s.toks+1,by rw[cg,hlen]⟩,q⟩
theorem jr:cv X (.builtin "len") (λxs H Q=>∃z,xs=[.str z]/\z.length<=sizeLine/\Q (.int z.length) H):=by
 intro pins s σ H xs us Q I r h
 obtain⟨z,rfl,hz,q⟩:=h
 obtain⟨u,rfl,t,rfl⟩:=vals1 r
 have hn:=md
 exact len_str (by lia) ⟨.int z.length,H,I.tok _,⟨_,rfl⟩,q⟩
theorem vI:cv X (.type "list") (λxs H Q=>∃p ys,xs=[.ref p]/\(nD X.K H p ys\/oV X.K H p ys)/\∀l,H l=none->Q (.ref l) (upd H l (.lst ys))):=by
 intro pins s σ H xs us Q I r h
 obtain⟨p,ys,rfl,hq,q⟩:=h
 obtain⟨u,rfl,rx⟩:=vals1 r
 cases rx
 have fin:∀(its:List Value),Vals ys its->ys.length<=sizeLine->∀(h':Heap) (c':Nat),(∀b o',s.heap.get? b=some o'->h'.get? b=some o')->
   h'.get? s.heap.objs.size=some { cls:=.type "list",dict:=none,data:=.seq its.toArray c',slots:=#[] }->EP X pins σ Q (.ref s.heap.objs.size) { s with heap:=h' }:=λits r' hz h' c' kp e=>
  ⟨.ref s.heap.objs.size,_,I.laid (t':=s.toks) kp (bF _) (show du X.prog X.w _ h' _ (.lst ys) from ⟨hz,its,c',r',e⟩),rfl,q _ (I.cw.fresh (bF _))⟩
 rcases hq with hq | hq
 ·obtain⟨its,r',pl,hz⟩:=I.list hq
  have hlen:=r'.length
  obtain⟨o,ho,hc,n,hd⟩:=pl.isList
  exact call_list_seq p (.inl rfl) ho hc hd (λh' c' kp e=>fin its r' hz h' c' kp e) (by simp only[cg] <;> lia)
 ·obtain⟨its,r',pl,hz⟩:=I.tuple hq
  have hlen:=r'.length
  obtain⟨o,ho,hc,n,hd⟩:=pl
  exact call_list_seq p (.inr rfl) ho hc hd (λh' c' kp e=>fin its r' hz h' c' kp e) (by simp only[cg] <;> lia)
theorem rL:cv X (.type "tuple") (λxs H Q=>∃p ys,xs=[.ref p]/\((nD X.K H p ys/\∀l,H l=none->Q (.ref l) (upd H l (.tup ys)))\/(oV X.K H p ys/\Q (.ref p) H))):=by
 intro pins s σ H xs us Q I r h
 obtain⟨p,ys,rfl,h⟩:=h
 obtain⟨u,rfl,rx⟩:=vals1 r
 cases rx
 rcases h with ⟨hq,q⟩ | ⟨hq,q⟩
 ·obtain⟨its,r',pl,hz⟩:=I.list hq
  have hlen:=r'.length
  refine call_tuple_list pl.isList (λh' kp=>?_) (by simp only[cg] <;> lia)
  have I1:Inv X pins σ H { s with heap:=h' }:=I.kept (t':=s.toks) kp
  have I2:Inv X pins σ (upd H h'.objs.size (.tup ys)) { s with heap:=h'.push { cls:=.type "tuple",data:=.seq its.toArray } }:=
   I1.laid (t':=s.toks) (λb o e=>bP _ e) (bF _) (show du X.prog X.w _ _ _ (.tup ys) from ⟨hz,its,r',IsTup.new _ _⟩)
  exact⟨.ref h'.objs.size,_,I2,rfl,q _ (I1.cw.fresh (bF _))⟩
 ·obtain⟨its,r',pl,hz⟩:=I.tuple hq
  exact call_tuple_same pl ⟨.ref p,H,I,rfl,q⟩
def Q5(K:PySem.W.Frag)(T:String)(x:V)(H:Hp):Prop:=match x with
 | .str _=>T = "str"
 | .int _=>T = "int"
 | .ref p=>(T = "list"/\∃xs,nD K H p xs)\/(T = "tuple"/\∃o,K.lookup p=some o/\o.cls=.type "tuple"/\o.dict=none)\/
   (T = "dict"/\((∃jb,H p=some (.dK jb))\/∃jb,H p=some (.dT jb)))\/(T = "set"/\∃S n,H p=some (.set S n))
 | _=>False
theorem J4{pins:List (Addr×Obj)}{σ:St}{H:Hp}{s:Shared}{T:String}{x:V}{v:Value}(I:Inv X pins σ H s)(r:RelV x v)(ty:Q5 X.K T x H) :
  s.TypeIs v T/\∀a,v=.ref a->∃ob,s.heap.get? a=some ob/\ob.dict=none:=by
 cases x with
 | str z=>
  obtain⟨t,rfl⟩:=r
  cases (show T = "str" from ty)
  exact⟨nI s z t,λ_ e=>nomatch e⟩
 | int i=>
  obtain⟨t,rfl⟩:=r
  cases (show T = "int" from ty)
  exact⟨typeIs_int s i t,λ_ e=>nomatch e⟩
 | ref p=>
  cases r
  rcases ty with ⟨rfl,xs,hq⟩ | ⟨rfl,o,hk,hc,hd⟩ | ⟨rfl,hk⟩ | ⟨rfl,S,n,hk⟩
  ·obtain⟨its,_,pl,_⟩:=I.list hq
   refine⟨pl.isList.typeIs,λa e=>?_⟩
   cases e
   obtain⟨o,n,e,c,hd,_⟩:=pl
   exact⟨o,e,hd⟩
  ·refine⟨⟨o,I.nG p o hk,hc⟩,λa e=>?_⟩
   cases e
   exact⟨o,I.nG _ o hk,hd⟩
  ·have z:∃o,s.heap.get? p=some o/\o.ExactDict:=by
    rcases hk with ⟨jb,hk⟩ | ⟨jb,hk⟩
    ·obtain⟨_,_,_,_,o,_,_,e,ex,_⟩:=I.cw p _ hk
     exact⟨o,e,ex⟩
    ·obtain⟨_,_,_,_,o,_,_,e,ex,_⟩:=I.cw p _ hk
     exact⟨o,e,ex⟩
   obtain⟨o,e,ex⟩:=z
   refine⟨⟨o,e,ex.1⟩,λa e2=>?_⟩
   cases e2
   exact⟨o,e,ex.2.1⟩
  ·obtain⟨o,_,_,_,e,ex,_⟩:=I.cw p _ hk
   refine⟨⟨o,e,ex.1⟩,λa e2=>?_⟩
   cases e2
   exact⟨o,e,ex.2.1⟩
 | _=>exact False.elim ty
def R1(K:PySem.W.Frag)(T:String)(r:V->List V->Hp->VK->Prop)(to:TE):TE:=λσ H Q=>to σ H λx H1=>Q5 K T x H1/\r x [] H1 Q
def R3(K:PySem.W.Frag)(T:String)(r:V->List V->Hp->VK->Prop)(to:TE)(t:TA):TE:=λσ H Q=>to σ H λx H1=>Q5 K T x H1/\t σ H1 λxs H2=>r x xs H2 Q
variable {o e:Expr}{es:List Expr}{to:TE}{t:TA}{name:Str}{apos dc:Pos}{T id:String}{r:V->List V->Hp->VK->Prop}
theorem tu(pa:PlainAttrs T)(slot:Slot T name id)(hty:typeOf (.builtin id)=pure (.type "method_descriptor"))(hm:JW X id r)(ho:PE X o to)(ha:PA X (e::es) t)
  (PK:attributeBase o name X.env (eval o X.env)=eval o X.env:=by rfl)
  (VG:((backTo dc (starEach (e::es) X.env)).all (λx=>!x.1)&&(backToKw dc (keywordEach [] X.env)).all (λx=>x.1.isSome)
   && decide ((e::es).length+([]:List Keyword).length+(if ([]:List Keyword).isEmpty then 0 else 1)<30))=true:=by rfl)
  (hline:(apos.endLine==dc.line)=true:=by rfl) (hs:starEach (e::es) X.env=(false,eval e X.env)::starEach es X.env:=by rfl) (Ma:(backTo dc (starEach es X.env)).any (·.1)=false:=by rfl) :
  PE X (.Call (.Attribute o name apos) (e::es) [] dc) (R3 X.K T r to t):=by
 intro pins s σ H Q I h
 refine wpAny_Call_method_late PK VG hline rfl (cL (ho pins s σ H _ I h) λv s1 ⟨x,H1,I1,r1,ty,q1⟩=>?_)
 obtain⟨h1,h2⟩:=J4 I1 r1 ty
 refine⟨T,id,pa,slot,hty,h1,h2,?_⟩
 have hA:=ha dc pins s1 σ H1 _ I1 q1
 rw[hs]at hA ⊢
 refine Calls.callWith_builtin (by show(false||(backTo dc (starEach es X.env)).any (·.1))=false;rw[Ma] <;> rfl) (Calls.evalArgs_plain ?_)
 exact cL hA λus s2 ⟨vs,H2,I2,r2,q2⟩=>hm pins s2 σ H2 x vs v us Q I2 r1 r2 q2
end
end L2
namespace L2
open PySem PySem.Spec PyProof.Rows
def MtM(X:Cx)(id:String)(r:V->List V->Hp->VK->Prop):Prop:=
 ∀(pins:List (Addr×Obj)) (s:Shared) (σ:St) (H:Hp) (x:V) (xs:List V) (v:Value) (us:List Value) (Q:VK),Inv X pins σ H s->RelV x v->Vals xs us->r x xs H Q->
  wpAny (model X.prog X.w) X.A (call (.builtin id) (v::us)) (EP X pins σ Q) X.xe s
theorem Vals.one:∀{x:V} {us:List Value},Vals [x] us->∃u,us=[u]/\RelV x u
 | _,_,.cons r .nil=>⟨_,rfl,r⟩
theorem Vals.two:∀{x y:V} {us:List Value},Vals [x,y] us->∃u v,us=[u,v]/\RelV x u/\RelV y v
 | _,_,_,.cons r (.cons q .nil)=>⟨_,_,rfl,r,q⟩
section
variable {X:Cx}{pins:List (Addr×Obj)}{σ:St}{H:Hp}{s:Shared}{l b:Addr}{xs ys zs:List V}
theorem Inv.O6{its its':List Value}{n:Nat}{f:Array Value->Array Value}{t':Nat}(I:Inv X pins σ H s)(hH:H l=some (.lst xs))
  (e:s.heap.get? l=some { cls:=.type "list",data:=.seq its.toArray n }) (hf:f its.toArray=its'.toArray) (hv:Vals ys its') (hz:ys.length<=sizeLine) :
  Inv X pins σ (upd H l (.lst ys)) { s with heap:=s.heap.update l (Obj.mapSeq f),toks:=t' }:=by
 have q:=PySem.IsL.update e f
 rw[hf]at q
 refine I.write (x:=l) (e:=l) (by rw[hH];exact trivial) (.inl rfl) (λb' u hb hu=>(mL s.heap (Obj.mapSeq f) (iP hb)).trans hu) ⟨_,q⟩ ?_
 exact⟨hz,its',_,hv,q⟩
theorem Inv.UJ{its:List Value}{t':Nat}(I:Inv X pins σ H s)(hv:Vals ys its)(hz:ys.length<=sizeLine) :
  Inv X pins σ (upd H s.heap.objs.size (.lst ys)) { s with heap:=s.heap.push { cls:=.type "list",data:=.seq its.toArray },toks:=t' }:=
 I.laid (λ_ _ q=>bP _ q) (bF _) ⟨hz,its,0,hv,eS _ rfl⟩
theorem Inv.fresh(I:Inv X pins σ H s):H s.heap.objs.size=none:=I.cw.fresh (bF _)
theorem Inv.Ft(I:Inv X pins σ H s)(hH:H l=some (.lst xs)):xs.length<=sizeLine/\∃(its:List Value) (n:Nat),Vals xs its/\xs.length=its.length/\s.heap.get? l=some { cls:=.type "list",data:=.seq its.toArray n }:=by
 obtain⟨z,its,n,r,e⟩:=I.cw l _ hH
 exact⟨z,its,n,r,r.length,e⟩
theorem Fi{n:Nat}(h:n<=sizeLine):Builtin.List.listTooLong n=false:=by
 unfold Builtin.List.listTooLong
 exact decide_eq_false (by lia)
end
section
variable {X:Cx}
def zR:V->List V->Hp->VK->Prop:=λx vs H Q=>∃l xs y,x=.ref l/\vs=[y]/\H l=some (.lst xs)/\xs.length<sizeLine/\Q .non (upd H l (.lst (xs++[y])))
theorem gF:MtM X "list.append" zR:=by
 intro pins s σ H x vs v us Q I rx rv h
 obtain⟨l,xs,y,rfl,rfl,hH,hz,q⟩:=h
 cases rx
 obtain⟨u,rfl,ru⟩:=rv.one
 obtain⟨z,its,n,r,hl,e⟩:=I.Ft hH
 refine call_meets F.slot_list_append ⟨_,e,rfl⟩ F.entry_list_append (F.args_list_append_2 _ _) (PySem.list_append l its.toArray n u (by rw[cg];lia)) ⟨e,?_⟩
 refine⟨.non,_,I.O6 (its':=its++[u]) hH e (by simp) (r.append (.cons ru .nil)) ?_,rfl,q⟩
 rw[df,uU]
 lia
def zQ:V->List V->Hp->VK->Prop:=λx vs H Q=>∃l b xs zs,x=.ref l/\vs=[.ref b]/\H l=some (.lst xs)/\H b=some (.lst zs)/\xs.length+zs.length<=sizeLine/\Q .non (upd H l (.lst (xs++zs)))
theorem BG:MtM X "list.extend" zQ:=by
 intro pins s σ H x vs v us Q I rx rv h
 obtain⟨l,b,xs,zs,rfl,rfl,hH,hB,hz,q⟩:=h
 cases rx
 obtain⟨u,rfl,ru⟩:=rv.one
 cases ru
 obtain⟨z,its,n,r,hl,e⟩:=I.Ft hH
 obtain⟨z2,yV,n2,r2,Ro,e2⟩:=I.Ft hB
 have pz:its.toArray.size+yV.toArray.size<=sizeLine:=by rw[cg,cg];lia
 have Pr:¬(!its.toArray.isEmpty&&Builtin.List.listTooLong (its.toArray.size+yV.toArray.size))=true:=by
  rw[Fi pz,Bool.and_false]
  exact cO
 refine call_meets F.slot_list_extend ⟨_,e,rfl⟩ F.entry_list_extend (F.args_list_extend_2 _ _)
  (AutoSeq1.list_extend_list_list_0 l its.toArray n b yV.toArray n2 Pr (by rw[cg];lia) (by lia)) ⟨e,e2,?_⟩
 refine⟨.non,_,I.O6 (its':=its++yV) hH e (by simp) (r.append r2) ?_,rfl,q⟩
 rw[df]
 lia
def N9:R2:=λx y H Q=>∃l b xs zs,x=.ref l/\y=.ref b/\H l=some (.lst xs)/\H b=some (.lst zs)/\xs.length+zs.length<=sizeLine/\∀p,H p=none->Q (.ref p) (upd H p (.lst (xs++zs)))
theorem iI:iN X (binaryOp .Add) N9:=by
 intro pins s σ H x y v u Q I rx ry h
 obtain⟨l,b,xs,zs,rfl,rfl,hH,hB,hz,q⟩:=h
 cases rx
 cases ry
 obtain⟨z,its,n,r,hl,e⟩:=I.Ft hH
 obtain⟨z2,yV,n2,r2,Ro,e2⟩:=I.Ft hB
 refine PySem.P.add_list e e2 ?_ (by rw[cg,cg];lia)
 have ea:its.toArray++yV.toArray=(its++yV).toArray:=by simp
 rw[ea]
 exact⟨.ref _,_,I.UJ (t':=s.toks) (r.append r2) (by rw[df];lia),rfl,q _ I.fresh⟩
end
section
variable {prog:Program}{w:World}{A:Around}{E:Value->Shared->Prop}{s:Shared}
end
section
variable {X:Cx}
end
end L2
namespace L2
open PySem PySem.Spec PyProof.Rows
section
variable {κ:Type} [DecidableEq κ]
end
section
variable {P:Program}{w:World}{H:Hp}{h:Heap}{a:Addr}
end
section
variable {X:Cx}{pins:List (Addr×Obj)}{σ:St}{H:Hp}{s:Shared}{a:Addr}{y v:V}{u r:Value}{o:Option V}{A:Around}{E:Value->Shared->Prop}
theorem Inv.big(I:Inv X pins σ H s):sysModules<s.heap.objs.size:=by
 have h:mainGlobals<s.heap.objs.size:=(I.mod.glob.keeps I.bk).lt
 exact Nat.lt_trans (by decide) h
end
section
variable {X:Cx}{pins:List (Addr×Obj)}{σ:St}{H:Hp}{s:Shared}{a:Addr}{jb:List (Key×V)}{k:Key}{u:Value}{A:Around}{E:Value->Shared->Prop}
end
section
variable {X:Cx}{o i e value:Expr}{pos pos' qj:Pos}{td ty tv:TE}
end
theorem Ge{P:Program}{w:World}{H:Hp}(h:Heap)(hb:sysModules<h.objs.size):du P w H (h.push { cls:=.type "dict",data:=.dict #[] }) h.objs.size (.dK []):=
 ⟨dQ _,beq_eq_false_iff_ne.mpr (iP (bV hb)),[],.nil,Heap.DictOf.new h⟩
def yx:TE:=λ_ H Q=>∀p,H p=none->Q (.ref p) (upd H p (.dK []))
section
variable {X:Cx}{pos:Pos}
theorem Ez:PE X (.Dict [] [] pos) yx:=λpins s σ H Q I h=>
 wpAny_Dict_empty ⟨.ref s.heap.objs.size,_,I.laid (a:=s.heap.objs.size) (o:=.dK []) (t':=s.toks) (λ_ _ q=>bP _ q) (bF _) (Ge s.heap I.big),rfl,h _ (I.cw.fresh (bF _))⟩
end
structure M1(X:Cx)(o:Expr)(m:Str)(apos:Pos)(e:Expr)(dc:Pos):Prop where
 base:attributeBase o m X.env (eval o X.env)=eval o X.env
 few:((backTo dc (starEach [e] X.env)).all (λx=>!x.1)&&(backToKw dc (keywordEach [] X.env)).all (λx=>x.1.isSome)
  && decide (([e]:List Expr).length+([]:List Keyword).length+(if ([]:List Keyword).isEmpty then 0 else 1)<30))=true
 line:(apos.endLine==dc.line)=true
 trees:backTo dc (starEach [e] X.env)=[(false,eval e X.env)]
section
variable {X:Cx}{pins:List (Addr×Obj)}{σ:St}{H:Hp}{s:Shared}{a:Addr}{y d:V}{u r:Value}{o:Option V}{A:Around}{E:Value->Shared->Prop}
end
section
variable {X:Cx}{o e f:Expr}{apos dc:Pos}{td ty tx:TE}
end
section
variable {X:Cx}{pins:List (Addr×Obj)}{σ:St}{H:Hp}{s:Shared}{a:Addr}{jb:List (Key×V)}{A:Around}{E:Value->Shared->Prop}
end
section
variable {X:Cx}{pins:List (Addr×Obj)}{σ:St}{H:Hp}{s:Shared}{a:Addr}{y:V}{u:Value}{A:Around}{E:Value->Shared->Prop}
end
end L2
namespace Att
open PySem PySem.W PySem.Calls PyProof.Rows
theorem pd{P:Params}{h:Heap}:∀(ns:List Int) (vs:List Value),WellAll P h vs (ns.map WData.int)->IntsAre vs ns:=by
 intro ns
 induction ns with
 | nil=>
  intro vs w
  rw[ur]at w
  cases w
  exact .nil
 | cons n ns ih=>
  intro vs w
  rw[ie]at w
  cases w with
  | cons a b=>
   cases a
   exact .cons _ _ (ih _ b)
theorem Bp{l:OpenLaw}{n:Nat}(hn:l.most=some n){P:Params}{h:Heap}{args:List WData}{vals:List Value}
  (Iz:l.row.toRowW.claim.pre args=true) (Vk:WellAll P h vals args) :
  ∃a vs ns,vals=[Value.ref a]/\args=[WData.list (ns.map WData.int)]/\h.get? a=some { cls:=.type "list",data:=.seq vs.toArray }/\IntsAre vs ns/\ns.length<=n:=by
 have hsh:WShape.hasAll [] args [.list .int]=true:=(pre_splitW Iz).1
 have hc:l.pre.holds [] { args:=args }=true:=(pre_splitW Iz).2
 obtain⟨d,r,rfl,h1,h2⟩:=hasAllW_cons hsh
 obtain rfl:=hasAllW_nil h2
 obtain⟨xs,rfl,h3⟩:=hasW_list h1
 obtain⟨ns,rfl⟩:=items_int h3
 have hlen:ns.length<=n:=by
  unfold OpenLaw.pre at hc
  have h4:(WTm.not (.lt (.lit (.int (n:Int))) (.len (.arg 0)))).holds [] { args:=[.list (ns.map .int)] }=true:=by
   have h4:=(holds_andW hc).1
   rw[hn]at h4
   exact h4
  have h5:=condW_of h4 (w_not (w_lt w_lit (w_len_list (w_arg rfl))))
  rw[cx]at h5
  refine xP λq=>?_
  have q':(n:Int)<((ns.length:Nat):Int):=by lia
  first
   | (rw[decide_eq_true q']at h5;exact absurd h5 (by decide))
   | (simp at h5;lia)
 cases Vk with
 | cons w1 w2=>
  cases w2
  cases w1 with
  | list ho Cd=>exact⟨_,_,ns,rfl,rfl,ho,pd ns _ Cd,hlen⟩
theorem Bs(l:OpenLaw)(args:List WData):l.row.toRowW.claim.post args (.bool true) args=true:=
 postW_of (r:=l.row.toRowW) (X:=(true==true))
  (show WShape.has [] (.bool true) .bool=true by first | rfl | decide | simp[WShape.has,WShape.arms,WShape.armsAll])
  (show(WTm.eq .res (.lit (.bool true))).value [] { args:=args,res:=some (.bool true),after:=args }=some (.bool (true==true)) from w_eq_bool (w_res rfl) w_lit) rfl
theorem xE{l:OpenLaw}{n:Nat}{q:Program}{loose:List Str}{XP:(Str->Option Value)->Heap->Prop}{YP:World->Heap->Prop}{d:DefRec}
  (hn:l.most=some n) (Pz:d.params.defaults=[])
  (call:∀(w:World) (s₀ s₁:Shared) (mg mb:Str->Option Value) (fa:Addr) (o:Obj) (pm cd doc:Value) (a:Addr) (vs:List Value) (ns:List Int),
   Ground q loose [] XP w s₀ mg mb s₁.heap->YP w s₁.heap->
   s₁.heap.get? fa=some o->o.data=.func (docDef d.name d.params d.body d.scope pm cd doc)->s₁.heap.CodeRec cd d.name->mg d.name=some (.ref fa)->
   s₁.heap.get? a=some { cls:=.type "list",data:=.seq vs.toArray }->IntsAre vs ns->ns.length<=n->s₁.gens = #[]->
   codeAny (model l.prog w) callerA (.call (.ref fa) ⟨[.ref a],[]⟩) (λr s'=>r=.ok (.ret (.bool true))/\OldK s₁.heap s'.heap/\s'.os=s₁.os/\AllBare s'.gens) s₁) :
  WalkO q loose XP YP l.row.toRowW d [] (λf vs=>PySem.call f vs):=by
 intro w s₀ s₁ mg mb G Y fa o pm cd doc dV kV ho hd Ca hD Pq hg args vals as Iz hlay hrd Vk hlo
 obtain rfl:dV=.none:=Dflts.none hD Pz
 obtain rfl:kV=.none:=Dflts.noKw hD
 obtain⟨a,vs,ns,rfl,rfl,Mb,hints,hlen⟩:=Bp hn Iz Vk
 refine enter_call (nO (call w s₀ s₁ mg mb fa o pm cd doc a vs ns G Y ho (fd_plain hd) Ca Pq Mb hints hlen hg) λr s' hq=>?_)
 obtain⟨rfl,h2,h3,h4⟩:=hq
 exact⟨.inl ⟨.bool true,.bool true,[],rfl,λ_=>rfl,.bool true,Bs l _,λ_=>⟨List.Pairwise.nil,λ_ hm=>(nomatch hm)⟩⟩,h2,h3,h4⟩
section
variable {prog:Program}{w:World}{A:Around}{E:Value->Shared->Prop}{s:Shared}{K:Frag}
end
end Att
namespace L2
open PySem PySem.Spec PyProof.Rows
theorem sW:∀{vs:List Value} {ns:List Int},IntsAre vs ns->Vals (ns.map V.int) vs
 | _,_,.nil=>.nil
 | _,_,.cons n t h=>.cons ⟨t,rfl⟩ (sW h)
def Only(H:Hp):Prop:=∀b,H b=none\/∃o xs,H b=some (.Aj o (.lst xs))
theorem Fx{P:Program}{w:World}{K:PySem.W.Frag}{mg mb:Str->Option Value}{CX:CG}{k:Nat}{fa a:Addr}{fd:FuncData}{x:Str}{sp:Sp}{s₁:Shared}{vs:List Value}{ns:List Int}
  (KX:K.In s₁.heap) (Rm:s₁.heap.Ns mainGlobals mg) (hb:s₁.heap.Ns builtinsNs mb) (hbb:∀x:Str,x≠"__name__"->mb x=bootBuiltins x) (Vy:s₁.heap.NoLimit) (hg:s₁.gens = #[])
  (ha:s₁.heap.get? a=some { cls:=.type "list",data:=.seq vs.toArray }) (hi:IntsAre vs ns) (hl:ns.length<=sizeLine) (hr:fH k callerA)
  (F:∀base:Heap,K.In base->base.Ns mainGlobals mg->cK P w K mg base CX k fa fd [x] sp) (PJ:∀(s:Shared) (u:Value),BindsTo s fd ⟨[u],[]⟩ [(x,u)])
  (GF:∀H:Hp,Only H->nD K H a (ns.map V.int)->sp [.ref a] H (λv _=>v=.bl true) λ_ _ _=>False)
  (V9:∀H e s',CX [] H s₁ (λ_ _ _=>False) e s'->False) :
  codeAny (model P w) callerA (.call (.ref fa) ⟨[.ref a],[]⟩) (λr s'=>r=.ok (.ret (.bool true))/\OldK s₁.heap s'.heap/\s'.os=s₁.os/\AllBare s'.gens) s₁:=by
 have rv:=sW hi
 have UL:=hi.length
 have core:∀H:Hp,Only H->nD K H a (ns.map V.int)->nH P w H s₁.heap->(∀b,H b≠none->b=a)->(H a≠none->K.lookup a=none)->
   codeAny (model P w) callerA (.call (.ref fa) ⟨[.ref a],[]⟩) (λr s'=>r=.ok (.ret (.bool true))/\OldK s₁.heap s'.heap/\s'.os=s₁.os/\AllBare s'.gens) s₁:=by
  intro H hO hS cw hA hK
  have Av:∀{b:Addr} {o:Obj},s₁.heap.get? b=some o->H b=none->(vD s₁.heap H).get? b=some o:=λe n=>FN e n
  have Oz:∀{b:Addr} {o:Obj} {es:Array DictEntry} {ep:Nat},s₁.heap.get? b=some o->o.data=.dict es ep->H b=none:=λ{b o es ep} e d=>by
   cases q:H b with
   | none=>rfl
   | some u=>
    have e':b=a:=hA b (by rw[q];simp)
    subst e'
    rw[ha]at e;cases e
    have d':Data.seq vs.toArray _=Data.dict es ep:=d
    cases d'
  have Rb:∀{b:Addr} {m:Str->Option Value},s₁.heap.Ns b m->(vD s₁.heap H).Ns b m:=λ{b m} ⟨o,es,ep,e,d,r⟩=>⟨o,es,ep,Av e (Oz e d),d,r⟩
  have Zy:K.In (vD s₁.heap H):=λb o e=>Av (KX b o e) (by
   cases q:H b with
   | none=>rfl
   | some u=>
    have e':b=a:=hA b (by rw[q];simp)
    subst e'
    rw[hK (by rw[q];simp)]at e;cases e)
  have hM:Mod K mg (vD s₁.heap H):=⟨Zy,Rb Rm,⟨mb,Rb hb,hbb⟩,let ⟨mc,h1,h2⟩:=Vy;⟨mc,Rb h1,h2⟩⟩
  have e0:Jm P w K mg (vD s₁.heap H) callerA [] s₁ H:=⟨rfl,hM,λb o e=>Il e,Nat.le_of_eq (BZ _ _),trivial,λb hb=>absurd (show b∈([]:List Addr) from hb) (by simp),cw,.of_eq hg⟩
  refine nO ((F _ Zy (Rb Rm)).run callerA [] s₁ H ⟨[.ref a],[]⟩ [.ref a] [.ref a] _ _ hr e0 (PJ s₁ (.ref a)) (.cons rfl .nil) (GF H hO hS)) λr s' h=>?_
  cases r with
  | error e=>exact(V9 H e s' h).elim
  | ok fl=>
   cases fl with
   | next=>exact False.elim h
   | brk=>exact False.elim h
   | cont=>exact False.elim h
   | ret u=>
    obtain⟨v,H',os,bare,un,Vt,r',q⟩:=h
    have q':v=.bl true:=q
    subst q'
    obtain rfl:u=Value.bool true:=r'
    refine⟨rfl,OldK.of_keep λb o e=>?_,os,bare⟩
    cases q:H b with
    | none=>exact un.keep b o e q (by intro z;exact absurd (show b∈([]:List Addr) from z) (by simp)) (by simp)
    | some u=>
     rcases hO b with z | ⟨ob,xs,z⟩
     ·rw[q]at z;cases z
     ·have z2:=un.frzs b ob _ z
      obtain⟨e1,_⟩:=cw b _ z
      obtain⟨e2,_⟩:=Vt b _ z2
      rw[e]at e1;cases e1
      exact e2
 cases hk:K.lookup a with
 | some o=>
  have e:=KX a o hk
  rw[ha]at e
  cases e
  refine core (λ_=>none) (λ_=>.inl rfl) (.inr ⟨_,vs.toArray,_,hk,rfl,rfl,rfl,by rw[cg,UL];exact hl,by simpa using rv⟩) (λb u z=>by have z':(none:Option HO)=some u:=z;cases z') (λb z=>absurd rfl z) λz=>absurd rfl z
 | none=>
  refine core (λb=>if b=a then some (.Aj { cls:=.type "list",data:=.seq vs.toArray } (.lst (ns.map V.int))) else none) (λb=>?_) (.inl (.inr ⟨{ cls:=.type "list",data:=.seq vs.toArray },bu rfl⟩)) (λb u z=>?_) (λb z=>?_) λ_=>hk
  ·by_cases hb:b=a
   ·exact .inr ⟨_,_,bu hb⟩
   ·exact .inl (aI hb)
  ·by_cases hb:b=a
   ·have z':=(bu hb).symm.trans z
    cases z'
    subst hb
    exact⟨ha,by rw[cx];exact hl,vs,_,rv,ha⟩
   ·have z':=(aI hb).symm.trans z
    cases z'
  ·by_cases hb:b=a
   ·exact hb
   ·exact absurd (aI hb) z
end L2
namespace L2
open PySem PySem.Spec PyProof.Rows
theorem G'{l:PySem.W.OpenLaw}{n k:Nat}{q:Program}{loose:List Str}{XP:(Str->Option Value)->Heap->Prop}{YP:World->Heap->Prop}{d:DefRec}{K:Params->PySem.W.Frag}{CX:World->CG}{sp:World->Sp}{x:Str}
  (hn:l.most=some n) (hn2:n<=sizeLine) (Pz:d.params.defaults=[]) (hr:fH k callerA)
  (hY:∀(w:World) (h:Heap),YP w h->(K w.params).In h)
  (F:∀(w:World) (mg:Str->Option Value) (fa:Addr) (h:Heap),(K w.params).In h->h.Ns mainGlobals mg->mg d.name=some (.ref fa)->
   ∃fd:FuncData,(∀(s:Shared) (u:Value),BindsTo s fd ⟨[u],[]⟩ [(x,u)])/\
    ∀base:Heap,(K w.params).In base->base.Ns mainGlobals mg->cK l.prog w (K w.params) mg base (CX w) k fa fd [x] (sp w))
  (GF:∀(w:World) (H:Hp) (a:Addr) (ns:List Int),ns.length<=n->Only H->nD (K w.params) H a (ns.map V.int)->sp w [.ref a] H (λv _=>v=.bl true) λ_ _ _=>False)
  (V9:∀(w:World) (H:Hp) (s:Shared) (e:Value) (s':Shared),CX w [] H s (λ_ _ _=>False) e s'->False) :
  PySem.W.WalkO q loose XP YP l.row.toRowW d [] (λf vs=>PySem.call f vs):=by
 refine Att.xE hn Pz λw s₀ s₁ mg mb fa o pm cd doc a vs ns G Y ho hd Ca Pq Mb hints hlen hg=>?_
 have KX:=hY w _ Y
 obtain⟨fd,hb,hF⟩:=F w mg fa _ KX G.T.g Pq
 exact Fx KX G.T.g G.T.b G.T.builtins G.T.nolimit hg Mb hints (cN hlen hn2) hr hF hb (λH hO hS=>GF w H a ns hlen hO hS) λH e s'=>V9 w H s₁ e s'
end L2
namespace L2
open PySem PySem.Spec PyProof.Rows
def bt(s:Stmt):Arguments:=match s with
 | .FunctionDef _ a _ _ _ _ _ _ _ _=>a
 | _=>{ posonlyargs:=[],args:=[],vararg:=none,kwonlyargs:=[],kw_defaults:=[],kwarg:=none,defaults:=[] }
def aZ(s:Stmt):List Stmt:=match s with
 | .FunctionDef _ _ b _ _ _ _ _ _ _=>b
 | _=>[]
def aq(s:Stmt):Scope:=match s with
 | .FunctionDef _ _ _ _ _ _ sc _ _ _=>sc
 | _=>{ kind:=.function,names:=[],isGenerator:=false,isCoroutine:=false }
abbrev jN:CG:=λ_ _ _ _ _ _=>False
abbrev E0:XK:=λ_ _ _=>False
theorem aT{X:Cx}:Passes jN X E0:=λ_ _ _ _ _ _ _ h=>h.elim
structure jM(K:PySem.W.Frag)(x qual:Str)(st:Stmt)(f:Addr)(fd:FuncData):Prop where
 ex:∃(oc:Value) (od:Option Addr) (kV doc pm:Value) (an:Option Addr) (cI ct:Value) (Gz:Array (Option Value)),
  fd=PySem.W.fnOf x qual (bt st) (aZ st) (aq st) .none kV doc pm an cI ct/\K.lookup f=some ⟨oc,od,.func fd,Gz⟩/\PySem.W.codeIn K cI qual=true
 kp:PySem.W.keepIn K (.ref f)=true
section
variable {P:Program}{w:World}{K:PySem.W.Frag}{mg:Str->Option Value}{base:Heap}
theorem jM.ok{x qual:Str}{st:Stmt}{f:Addr}{fd:FuncData}{N ps:List Str}{k:Nat}{sp:Sp}(F:jM K x qual st f fd)(S:bp N ps (aq st))(len:∀vs H Q E,sp vs H Q E->vs.length=ps.length)
  (nk:∀(cI:Value) (A:Around) (outer:List Env) (s:Shared) (H:Hp) (vs:List V) (Q:VK) (E:XK),fH k (A.deeper (envOfC qual (aq st) s.heap.objs.size f cI))->sp vs H Q E->
   ∃t,rj (iY jN P w K mg base N qual (aq st) f cI A outer s H E).GC (aZ st) t/\t { nx:=λ_ H'=>Q .non H',rt:=Q } (start N vs) H):cK P w K mg base jN (k+1) f fd ps sp:=by
 obtain⟨oc,od,kV,doc,pm,an,cI,ct,Gz,rfl,lk,Ca⟩:=F.ex
 refine JR lk Ca S len λA outer s H vs Q E hr GF=>?_
 obtain⟨t,h,q⟩:=nk cI A outer s H vs Q E hr GF
 exact⟨t,h.GC,q⟩
theorem jM.binds{x qual:Str}{st:Stmt}{f:Addr}{fd:FuncData}{ps:List Str}(F:jM K x qual st f fd)
  (h:∀(kV doc pm:Value) (an:Option Addr) (cI ct:Value) (us:List Value),us.length=ps.length->bindArgs (PySem.W.fnOf x qual (bt st) (aZ st) (aq st) .none kV doc pm an cI ct) ⟨us,[]⟩=pure (ps.zip us)):Binds K fd ps []:=by
 obtain⟨oc,od,kV,doc,pm,an,cI,ct,Gz,rfl,lk,Ca⟩:=F.ex
 exact .all (h kV doc pm an cI ct)
theorem bO{x qual:Str}{st:Stmt}{f:Addr}{oc:Value}{od an:Option Addr}{Gz:Array (Option Value)}{kV doc pm cI ct:Value}(l:K.lookup f=some ⟨oc,od,.func (PySem.W.fnOf x qual (bt st) (aZ st) (aq st) .none kV doc pm an cI ct),Gz⟩)
  (c:PySem.W.codeIn K cI qual=true) (k:PySem.W.keepIn K (.ref f)=true):jM K x qual st f (PySem.W.fnOf x qual (bt st) (aZ st) (aq st) .none kV doc pm an cI ct):=⟨⟨oc,od,kV,doc,pm,an,cI,ct,Gz,rfl,l,c⟩,k⟩
end
theorem oN{A:Around}{k:Nat}(hr:fH k A):A.units+1<cLine:=xZ (Nat.add_le_add_left (by decide:1<=64) _) hr.units
theorem bX{n:Nat}(h:n<=1000):n<sizeLine:=xZ h (by decide)
section
variable {X:Cx}
theorem pv(i:Nat){x:Str}{pos:Pos}(hN:X.N[i]?=some x:=by rfl)(hv:QK X.env.scope x:=by first | exact Or.inl rfl | exact Or.inr (Or.inl rfl) | exact Or.inr (Or.inr rfl))(hd:(x==("__debug__" : Str))=false:=by decide)
  (Ca:(x==("__classdict__" : Str))=false:=by decide):PE X (.Name x pos) (rm i):=Ew hN hv hd Ca
end
def bA(H H':Hp):Prop:=∀b o,H b=some o->H' b=some o
theorem bA.refl(H:Hp):bA H H:=λ_ _ h=>h
theorem bA.trans{H H1 H2:Hp}(a:bA H H1)(b:bA H1 H2):bA H H2:=λc o h=>b c o (a c o h)
theorem bA.free{H H':Hp}(e:bA H H'){l:Addr}(h:H' l=Option.none):H l=Option.none:=by
 cases q:H l with
 | none=>rfl
 | some o=>
  rw[e l o q]at h
  cases h
section
variable {κ:Type} [DecidableEq κ]
end
end L2
end
section
theorem L2.hide{p:Prop}(h:∀q:Prop,(p->q)->q):p:=h p id
end
section
namespace L2
open PySem PySem.Spec PyProof.Rows
theorem oQ{α β:Type}{f:α->β->Sem (ForInStep β)}(g:α->β->β):∀(l:List α) (b:β),(∀x∈l,∀c,f x c=pure (.yield (g x c)))->forIn l b f=pure (l.foldl (λc x=>g x c) b)
 | [],b,_=>rfl
 | x::l,b,h=>by
  rw[List.forIn_cons,h x cS,pure_bind]
  exact oQ g l (g x b) λy hy=>h y (eD _ hy)
def dq(env:Env)(names:List (Str×NameKind))(cs:List (Str×Addr)):List (Str×Addr):=
 names.foldl (λc y=>if y.2==NameKind.free then (y.1,(env.cells.lookup y.1).getD 0)::c else c) cs
theorem iZ{scope:Scope}{env:Env}(h:∀y∈scope.names,y.2=.free->∃c,env.cells.lookup y.1=some c):closureFor scope env=pure (dq env scope.names []):=by
 simp only[closureFor]
 rw[oQ (λy c=>if y.2==NameKind.free then (y.1,(env.cells.lookup y.1).getD 0)::c else c) scope.names [] (λx hx c=>by
  obtain⟨n,kind⟩:=x
  dsimp only
  by_cases hk:kind=.free
  ·subst hk
   obtain⟨a,e⟩:=h (n,.free) hx rfl
   have e':env.cells.lookup n=some a:=e
   have:cellOf env n=pure a:=by unfold cellOf;rw[e']
   rw[this,e']
   rfl
  ·have hb:(kind==NameKind.free)=false:=by simpa using hk
   rw[hb];rfl)]
 simp only[pure_bind]
 rfl
theorem oq{env:Env}:∀(names:List (Str×NameKind)) (cs:List (Str×Addr)),(∀y∈names,y.2=.free->∃c,env.cells.lookup y.1=some c)->(∀p∈cs,env.cells.lookup p.1=some p.2)->
  ∀p∈dq env names cs,env.cells.lookup p.1=some p.2
 | [],cs,_,hc=>hc
 | y::r,cs,h,hc=>by
  unfold dq
  rw[pF]
  refine oq r _ (λz hz=>h z (eD _ hz)) λp hp=>?_
  by_cases hk:y.2=.free
  ·have hb:(y.2==NameKind.free)=true:=by simpa using hk
   rw[bu hb]at hp
   rcases cz.mp hp with e | hp
   ·obtain⟨c,e1⟩:=h y cS hk
    rw[e];dsimp only;rw[e1];rfl
   ·exact hc p hp
  ·have hb:¬(y.2==NameKind.free)=true:=by simpa using hk
   rw[aI hb]at hp
   exact hc p hp
theorem oS{env:Env}{p:Str×Addr}:∀(names:List (Str×NameKind)) (cs:List (Str×Addr)),p∈cs->p∈dq env names cs
 | [],_,h=>h
 | y::r,cs,h=>by
  unfold dq
  rw[pF]
  refine oS r _ ?_
  split
  ·exact eD _ h
  ·exact h
theorem tV{env:Env}{x:Str}:∀(names:List (Str×NameKind)) (cs:List (Str×Addr)),(x,NameKind.free)∈names->∃c,(x,c)∈dq env names cs
 | y::r,cs,h=>by
  rcases cz.mp h with e | h
  ·subst e
   exact⟨_,by
    unfold dq;rw[pF]
    refine oS r _ ?_
    rw[bu (by rfl)]
    exact cS⟩
  ·obtain⟨c,hc⟩:=tV r (if y.2==NameKind.free then (y.1,(env.cells.lookup y.1).getD 0)::cs else cs) h
   exact⟨c,by unfold dq;rw[pF];exact hc⟩
theorem lS{f:Str->Option Addr}{x:Str}:∀{cs:List (Str×Addr)},(∀p∈cs,f p.1=some p.2)->(∃c,(x,c)∈cs)->cs.lookup x=f x
 | [],_,⟨_,h⟩=>nomatch h
 | (n,a)::r,hc,⟨c,h⟩=>by
  rw[jR]
  by_cases e:x=n
  ·subst e
   rw[rX]
   exact(hc (x,a) cS).symm
  ·have hb:(x==n)=false:=by simpa using e
   rw[hb]
   refine lS (λp hp=>hc p (eD _ hp)) ⟨c,?_⟩
   rcases cz.mp h with q | q
   ·exact absurd (gk Prod.fst q) e
   ·exact q
theorem m7{env : Env}{y : Str} : ∀ {names : List (Str × NameKind)}, (∀ z ∈ names, z.2 ≠ .cell) →
    ((names.map λ(n, k) => if (k==NameKind.free&&env.scope.kind == .function&&env.kindOf n==some .cell) then (n, NameKind.cell) else (n, k)).lookup y=some .cell ∨
     (names.map λ(n, k) => if (k==NameKind.free&&env.scope.kind == .function&&env.kindOf n==some .cell) then (n, NameKind.cell) else (n, k)).lookup y=some .free) → names.lookup y=some .free
  | [], _, h => by rcases h with h | h <;> cases h
  | (n, k)::r, hc, h => by
    have ih := @m7 env y r λz hz => hc z (eD _ hz)
    rw[ie]at h
    rw[jR]
    by_cases e : y=n
    · subst e
      rw[rX]
      by_cases hb : (k==NameKind.free&&env.scope.kind == .function&&env.kindOf y==some .cell)=true
      · have hk : k=.free := by
          rw[cX, cX]at hb
          simpa using hb.1.1
        rw[hk]
      · dsimp only at h
        rw[aI hb, jR, rX]at h
        dsimp only at h
        rcases h with h | h
        · exact absurd (de h) (hc (y, k) cS)
        · exact h
    · have hn : (y==n)=false := by simpa using e
      rw[hn]
      dsimp only at h ⊢
      apply ih
      by_cases hb : (k==NameKind.free&&env.scope.kind == .function&&env.kindOf n==some .cell)=true
      · rw[bu hb, jR, hn]at h
        exact h
      · rw[aI hb, jR, hn]at h
        exact h
structure CB where
 C:Addr
 cl:List (Str×Addr)
 s2:Shared
 H2:Hp
 ex:List Addr
@[reducible] def jI (X:Cx) (scope:Scope) (N:List Str) (c:CB):Cx:=
 { prog:=X.prog,w:=X.w,K:=X.K,mg:=X.mg,base:=X.base,A:=X.A,N:=N,s₀:=c.s2,H₀:=c.H2,env:=compEnvC scope c.cl c.C X.env,outer:=X.stack,stack:=X.stack,ex:=c.ex,fn:=λ_=>false,calm:=X.calm,pn:=[],xe:=λ_ _=>False }
def bR(σ:St)(idx:List Nat):St:=idx.map λi=>(σ[i]?).join
def bK(N:List Str)(idx:List Nat):List Str:=idx.map λi=>N.getD i ""
def vM(X:Cx)(ifs:List Expr)(t:TT):Prop:=
 ∀(pins:List (Addr×Obj)) (s:Shared) (σ:St) (H:Hp) (Q:Bool->Hp->Prop),Inv X pins σ H s->t σ H Q->
  wpAny (model X.prog X.w) X.A (forIn ifs true λc r=>if r=true then do let ok <-isTrue c X.env (eval c X.env);pure (ForInStep.yield ok) else pure (ForInStep.yield r)) (TP X pins σ Q) X.xe s
def Bg:TT:=λ_ H Q=>Q true H
theorem Es{X:Cx}:vM X [] Bg:=λ_ _ _ H _ I h=>wpAny_tests_nil ⟨H,I,h⟩
theorem Er{X:Cx}{e:Expr}{t:TT}(h:PT X e t):vM X [e] t:=λpins s σ H Q I q=>wpAny_tests_one (h pins s σ H Q I q)
def qo(wi:TI)(k:Nat)(idx:List Nat)(g:CB->TG)(tt:CB->TT)(te:CB->TE):TE:=λσ H Q=>wi σ H λJ H1=>∀D,H1 D=none->∃W:Nat->Nat->List V->Hp->Prop,(∃m,W 0 m [] (upd H1 D (.lst [])))/\
 ∀i m ys H',W i m ys H'->(J.stop i H'/\Q (.ref D) H')\/(J.go i H'/\∃N:List V->Hp->Prop,(∀mQ qU,N mQ qU->∃m',m'<m/\W (i+1) m' mQ qU)/\∀(c:CB) (own:St),own.length=k->∀x H2,J.CJ i H' x H2->g c x (own++bR σ idx) H2 λσ3 H3=>
  (∃cT,cT.length=k/\σ3=cT++bR σ idx)/\tt c σ3 H3 λb H4=>if b=true then te c σ3 H4 λy H5=>H5 D=some (.lst ys)/\ys.length<sizeLine/\N (ys++[y]) (upd H5 D (.lst (ys++[y]))) else N ys H4)
structure qZ(X:Cx)(scope:Scope)(xs:List Str)(idx:List Nat):Prop where
 kind:scope.kind=.function
 Fj:∀y∈scope.names,y.2≠.cell
 loc:∀y∈scope.names,y.2=.local->scope.names.lookup y.1=some .local
 free:∀y∈scope.names,y.2=.free->scope.names.lookup y.1=some .free/\(X.env.kindOf y.1=some .cell\/X.env.kindOf y.1=some .free)
 ix:∀i∈idx,∃y,X.N[i]?=some y/\scope.names.lookup y=some .free
section
variable {prog:Program}{w:World}{A:Around}{R:Result->Shared->Prop}{s:Shared}
theorem ky{elt target iter:Expr}{ifs:List Expr}{scope:Scope}{pos:Pos}{it acc:Value}{env:Env}(I:Nat->Shared->Prop)
  (turn:∀n s,I n s->wpAny (model prog w) A (pyNext it) (λr s₁=>match r with
   | none=>R (.ok .next) s₁
   | some v=>wpAny (model prog w) A (letOwnedTupleGo target it v) (λ_ XB=>wpAny (model prog w) A (assign target env v) (λ_ s₂=>
     wpAny (model prog w) A (forIn ifs true λc r=>if r=true then do let ok <-isTrue c env (eval c env);pure (ForInStep.yield ok) else pure (ForInStep.yield r)) (λok s₃=>
      if ok=true then wpAny (model prog w) A (eval elt env) (λx s₄=>
       wpAny (model prog w) A (call (.builtin "list.append") [acc,x]) (λ_ s₅=>∃m,m<n/\I m s₅) (λ_ _=>False) s₄) (λ_ _=>False) s₃
      else ∃m,m<n/\I m s₃) (λ_ _=>False) s₂) (λ_ _=>False) XB) (λ_ _=>False) s₁) (λ_ _=>False) s)
  (n:Nat) (h:I n s) :
  codeAny (model prog w) A (.compLoop (.ListComp elt [⟨target,iter,ifs,0⟩] scope pos) 0 it acc env) R s:=by
 refine codeAny_loop rfl I (λn s hI=>?_) n h
 show wpAny _ A ((compTurn (.ListComp elt [⟨target,iter,ifs,0⟩] scope pos) 0 it acc env).onRaise (λx=>do noteFrame x env;theTreesLotGoes x)) _ _ s
 refine wpAny_noted ?_
 rw[compTurn_list]
 refine av (pP (av (eT (turn n s hI) (λr s₁ h₁=>?_) λ_ _ h'=>False.elim h')))
 cases r with
 | none=>exact aU h₁
 | some v=>
  refine av (eT h₁ (λ_ XB h₁'=>?_) λ_ _ h'=>False.elim h')
  refine av (eT h₁' (λ_ s₂ h₂=>av (eT h₂ (λok s₃ h₃=>?_) λ_ _ h'=>False.elim h')) λ_ _ h'=>False.elim h')
  cases ok with
  | false=>exact aU ⟨rfl,h₃⟩
  | true=>
   exact av (av (eT h₃ (λx s₄ h₄=>av (eT h₄ (λ_ s₅ h₅=>aU (aU ⟨rfl,h₅⟩)) λ_ _ h'=>False.elim h')) λ_ _ h'=>False.elim h'))
end
section
variable {X:Cx}{pins:List (Addr×Obj)}{σ:St}{H:Hp}{s:Shared}
theorem nH.but{P:Program}{w:World}{h h':Heap}{C:Addr}(x:nH P w H h)(hn:H C=none)(hs:Heap.SameBut C h h'):nH P w H h':=λb ob e=>by
 refine(x b ob e).stay (λc w' hc q=>(hs.2 c ?_).trans q) (λ_ q=>q) λ_ _ q=>q
 rintro rfl
 rcases hc with rfl | hc
 ·rw[hn]at e;cases e
 ·rw[hn]at hc;cases hc
theorem Un.but{fs ex:List Addr}{H':Hp}{h h1 h2:Heap}{C:Addr}(u:Un fs ex H H' h h1)(hC:h.get? C=none)(hs:Heap.SameBut C h1 h2):Un fs ex H H' h h2:=by
 have ne:∀b o,h.get? b=some o->b≠C:=λb o e z=>by rw[z,hC]at e;cases e
 exact⟨λb o e n h1 h2=>(hs.2 b (ne b o e)).trans (u.keep b o e n h1 h2),λb o e n h1 h2=>by
   obtain⟨sl,q⟩:=u.slot b o e n h1 h2
   exact⟨sl,(hs.2 b (ne b o e)).trans q⟩,u.free,λb o e h2=>by
   obtain⟨o',q⟩:=u.there b o e h2
   exact⟨o',(hs.2 b (ne b o e)).trans q⟩,u.tups,u.frzs,u.tbls⟩
theorem Dy{idx:List Nat}{j:Nat}{v:V}(h:(bR σ idx)[j]?=some (some v)):∃i,idx[j]?=some i/\σ[i]?=some (some v):=by
 unfold bR at h
 rw[fz]at h
 cases e:idx[j]? with
 | none=>rw[e]at h;cases h
 | some i=>
  rw[e]at h
  refine⟨i,rfl,?_⟩
  have h':(σ[i]?).join=some v:=de h
  cases q:σ[i]? with
  | none=>rw[q]at h';cases h'
  | some o=>rw[q]at h';cases o with
   | none=>cases h'
   | some z=>cases h';rfl
theorem Dz{N:List Str}{idx:List Nat}{j i:Nat}{y:Str}(h:idx[j]?=some i)(e:N[i]?=some y):(bK N idx)[j]?=some y:=by
 unfold bK
 rw[fz,h]
 show some (N.getD i "")=some y
 rw[List.getD_eq_getElem?_getD,e];rfl
theorem Inv.block{scope:Scope}{xs:List Str}{idx:List Nat}{fp:List Addr}{C:Addr}{h':Heap}{t':Nat}{H1:Hp}{D:Addr}{m0:Str->Option Value}(I:Inv X pins σ H s)(S:qZ X scope xs idx)
  (Rr:∀b∈fp,rR X pins H b) (hfo:∀b∈fp,∃o,s.heap.get? b=some o) (hC:s.heap.objs.size<=C) (RD:D≠C) (hD:s.heap.objs.size<=D) (hn:h'.Ns C m0) (hk:∀b o,s.heap.get? b=some o->h'.get? b=some o)
  (hl:∃n,h'.get? D=some { cls:=.type "list",data:=.seq #[] n }) :
  Inv (jI X scope (xs++bK X.N idx) ⟨C,dq X.env scope.names [],s,H,fp⟩) [] (List.replicate xs.length none++bR σ idx) (upd H D (.lst [])) { s with heap:=h',toks:=t' }:=by
 have xc:∀y∈scope.names,y.2=.free->∃c,X.env.cells.lookup y.1=some c:=λy hy e=>I.ok.has y.1 (S.free y hy e).2
 have Cd:=oq (env:=X.env) scope.names [] xc (λp hp=>(nomatch hp))
 have oP:∀y c,(dq X.env scope.names []).lookup y=some c->X.env.cells.lookup y=some c:=λy c e=>Cd (y,c) (lF e)
 have Py:∀y,scope.names.lookup y=some .free->(dq X.env scope.names []).lookup y=X.env.cells.lookup y:=λy e=>lS (f:=λn=>X.env.cells.lookup n) Cd (tV scope.names [] (lF e))
 have lt:∀b,(∃o,s.heap.get? b=some o)->b<s.heap.objs.size:=λb ⟨o,e⟩=>bI e
 have hDn:H D=none:=I.cw.fresh hD
 refine⟨⟨I.ok.mod,S.kind,I.ok.glob,I.ok.blt,hC,λx y c h1 h2=>I.ok.inj x y c (oP x c h1) (oP y c h2),λy hy=>?_,λ_ _ e=>(nomatch e),I.ok.hd,I.ok.frames,.inl rfl,λb hb=>⟨?_,λx c e=>(Rr b hb).2.2.2.2.1 x c (oP x c e)⟩,I.bs,cN I.ok.Gk I.sz,λb o e hb=>?_,λb hb z=>?_,I.stack,I.pj⟩,
  rfl,I.bare,?_,⟨m0,hn,λi y v e1 e2 hv=>?_⟩,λx c e=>?_,?_,λx c e=>?_,λp hp=>(nomatch hp),?_,?_⟩
 ·
  have q:scope.names.lookup y=some .free:=m7 S.Fj hy
  have q2:=lF q
  obtain⟨c,e⟩:=xc _ q2 rfl
  exact⟨c,(Py y q).trans e⟩
 ·
  exact bV (dg (lt b (hfo b hb)) hC)
 ·
  rcases(Rr b hb).2.2.2.1 with z | z
  ·exact I.ok.wJ b o e z
  ·exact absurd (dg (bI e) (cN I.ok.Gk z)) (lB _)
 ·
  rcases cz.mp (I.va b z) with q | q
  ·exact(Rr b hb).2.1 q
  ·exact(Rr b hb).2.2.1 q
 ·
  exact Un.laid hk hD hDn
 ·
  by_cases hi:i<xs.length
  ·rw[oI (by simpa using hi)]at e2
   rw[List.getElem?_replicate]at e2
   split at e2 <;> cases e2
  ·have Mf:xs.length<=i:=xP hi
   rw[mM (by simpa using Mf),uT]at e2
   obtain⟨i0,ei,es⟩:=Dy e2
   obtain⟨y',ey,ef⟩:=S.ix i0 (vT ei)
   have Z0:(xs++bK X.N idx)[i]?=some y:=e1
   rw[mM Mf,Dz ei ey]at Z0
   cases Z0
   obtain⟨m,hm,Vz⟩:=I.loc
   have ZV:=S.free (y,.free) (lF ef) rfl
   have vis:QK X.env.scope y:=.inr ZV.2
   obtain⟨u,ru,lk⟩:=Vz i0 y v ey es vis
   refine⟨u,ru,?_⟩
   rcases lk with ⟨k1,_⟩ | ⟨_,c,ec,hc⟩
   ·rcases ZV.2 with z | z
    ·have z':X.env.kindOf y=some .cell:=z
     rw[k1]at z';cases z'
    ·have z':X.env.kindOf y=some .free:=z
     rw[k1]at z';cases z'
   ·refine .inr ⟨?_,c,(Py y ef).trans ec,hc.keeps hk⟩
    rcases hv with z | z | z
    ·exfalso
     have z':(relabel scope X.env).names.lookup y=some .local:=z
     have:∀(names:List (Str×NameKind)),names.lookup y=some .free->(names.map λ(n,k)=>if (k==NameKind.free&&X.env.scope.kind == .function&&X.env.kindOf n==some .cell) then (n,NameKind.cell) else (n,k)).lookup y≠some .local:=by
      intro names
      induction names with
      | nil=>intro h;cases h
      | cons p r ih=>
       obtain⟨n,k⟩:=p
       intro h
       rw[ie]
       by_cases e:y=n
       ·subst e
        rw[jR,rX]at h
        cases h
        dsimp only
        split
        ·rw[jR,rX];exact λq=>nomatch q
        ·rw[jR,rX];exact λq=>nomatch q
       ·have hn:(y==n)=false:=by simpa using e
        rw[jR,hn]at h
        dsimp only
        split
        ·rw[jR,hn];exact ih h
        ·rw[jR,hn];exact ih h
     exact this scope.names ef z'
    ·exact .inl z
    ·exact .inr z
 ·
  obtain⟨v,q⟩:=I.cell x c (oP x c e)
  exact⟨v,q.keeps hk⟩
 ·
  show upd H D (.lst []) C=none
  rw[aG (iP RD)]
  exact I.cw.fresh hC
 ·
  have e':=oP x c e
  obtain⟨v,q⟩:=I.cell x c e'
  rw[aG (bV (dg q.lt hD))]
  exact I.fO x c e'
 ·
  obtain⟨n,e⟩:=hl
  exact I.cw.laid hk hD ⟨dQ _,[],n,.nil,e⟩
 ·show(List.replicate xs.length none++bR σ idx).length=(xs++bK X.N idx).length
  rw[df,df,uT]
  unfold bR bK
  rw[cx,cx]
end
section
variable {X:Cx}{elt target iter:Expr}{ifs:List Expr}{scope:Scope}{pos:Pos}{xs:List Str}{idx:List Nat}{wi:TI}{g:CB->TG}{tt:CB->TT}{te:CB->TE}
theorem xg{pins:List (Addr×Obj)}{σ:St}{H2:Hp}{s2:Shared}{fp:List Addr}{it:Addr}{tn:Nat->Heap->Prop}{J:It}{Q:V->Hp->Prop}{RR:Value->Addr->Result->Shared->Prop}{E:Value->Shared->Prop}(hc:X.calm=true)(S:qZ X scope xs idx)
  (hg:∀c,PG (jI X scope (xs++bK X.N idx) c) target (g c)) (ht:∀c,vM (jI X scope (xs++bK X.N idx) c) ifs (tt c)) (he:∀c,PE (jI X scope (xs++bK X.N idx) c) elt (te c))
  (I2:Inv X pins σ H2 s2) (T:Turn X.prog X.w X.K target J fp it tn) (Gy:tn 0 s2.heap) (f2:∀b∈fp,rR X pins H2 b)
  (h:∀D,H2 D=none->∃W:Nat->Nat->List V->Hp->Prop,(∃m,W 0 m [] (upd H2 D (.lst [])))/\
   ∀i m ys H',W i m ys H'->(J.stop i H'/\Q (.ref D) H')\/(J.go i H'/\∃N:List V->Hp->Prop,(∀mQ qU,N mQ qU->∃m',m'<m/\W (i+1) m' mQ qU)/\∀(c:CB) (own:St),own.length=xs.length->∀x H2,J.CJ i H' x H2->g c x (own++bR σ idx) H2 λσ3 H3=>
    (∃cT,cT.length=xs.length/\σ3=cT++bR σ idx)/\tt c σ3 H3 λb H4=>if b=true then te c σ3 H4 λy H5=>H5 D=some (.lst ys)/\ys.length<sizeLine/\N (ys++[y]) (upd H5 D (.lst (ys++[y]))) else N ys H4))
  (hRR:∀D C σ' H' s',s2.heap.objs.size<=C->Inv (jI X scope (xs++bK X.N idx) ⟨C,dq X.env scope.names [],s2,H2,fp⟩) [] σ' H' s'->Q (.ref D) H'->RR (.ref D) C (.ok .next) s') :
  wpAny (model X.prog X.w) X.A (newList []) (λacc s₃=>wpAny (model X.prog X.w) X.A (newFunctionEnv scope X.env.globals (dq X.env scope.names []) [] X.env.qual none .none (some X.env)) (λQi s₄=>
   codeAny (model X.prog X.w) X.A (.compStart (.ListComp elt [⟨target,iter,ifs,0⟩] scope pos) 0 (.ref it) acc { Qi with scope:=relabel scope X.env }) (RR acc Qi.locals) s₄) E s₃) E s2:=by
 refine ik (wpAny_newFunctionEnv S.Fj (by intro y hy;simp at hy) (λh₁ Md Iy=>?_) S.kind)
 dsimp only at Md Iy ⊢
 generalize V6:s2.heap.push { cls:=.type "list",dict:=none,data:=.seq ([]:List Value).toArray }=HH at Md Iy ⊢
 have V8:HH.objs.size=s2.heap.objs.size+1:=by rw[<-V6,lC]
 have RD:s2.heap.objs.size≠HH.objs.size:=by rw[V8];exact bV (xQ _)
 have Mp:s2.heap.objs.size<=HH.objs.size:=by rw[V8];exact jO _
 have old:∀b o,s2.heap.get? b=some o->h₁.get? b=some o:=λb o e=>Iy.extBut b o (by rw[V8];exact bV (rZ (bI e))) (bP _ (V6 ▸ bP _ e))
 have FV:∃n,h₁.get? s2.heap.objs.size=some { cls:=.type "list",data:=.seq #[] n }:=⟨_,Iy.extBut _ _ RD (bP _ (V6 ▸ eS _ rfl))⟩
 have XH:tn 0 h₁:=T.keep _ _ _ Gy λb _ o e=>old b o e
 obtain⟨W,⟨m0,w0⟩,turn⟩:=h s2.heap.objs.size I2.fresh
 have loop:∀s₃:Shared,s₃={ s2 with heap:=h₁,toks:=s2.toks+([]:List (Str×Value)).length }->
   codeAny (model X.prog X.w) X.A (.compLoop (.ListComp elt [⟨target,iter,ifs,0⟩] scope pos) 0 (.ref it) (.ref s2.heap.objs.size) (compEnvC scope (dq X.env scope.names []) HH.objs.size X.env)) (RR (.ref s2.heap.objs.size) HH.objs.size) s₃:=by
  rintro s₃ rfl
  have I3:=I2.block (t':=s2.toks+([]:List (Str×Value)).length) (H1:=H2) S f2 (λb hb=>let ⟨o,e,_⟩:=T.obj _ _ Gy b hb;⟨o,e⟩) Mp RD (bF _) Md old FV
  generalize hY:jI X scope (xs++bK X.N idx) ⟨HH.objs.size,dq X.env scope.names [],s2,H2,fp⟩=Y at I3
  have eY:Y=jI X scope (xs++bK X.N idx) ⟨HH.objs.size,dq X.env scope.names [],s2,H2,fp⟩:=hY.symm
  have nof:∀b∈fp,b∉Y.fs:=λb hb z=>by
   rw[eY]at z
   rcases cz.mp (I2.va b z) with q | q
   ·exact(f2 b hb).2.1 q
   ·exact(f2 b hb).2.2.1 q
  have stat:∀{H':Hp},(∀b∈fp,H' b=none)->∀b∈fp,rR Y [] H' b:=λ{H'} hn b hb=>by
   have lt:b<s2.heap.objs.size:=let ⟨o,e,_⟩:=T.obj _ _ Gy b hb;bI e
   refine⟨hn b hb,?_,nof b hb,.inl (by rw[eY];exact hb),λx c e=>?_,λp hp=>?_⟩
   ·rw[eY];exact bV (dg lt Mp)
   ·rw[eY]at e
    have Cd:=oq (env:=X.env) scope.names [] (λy hy e=>I2.ok.has y.1 (S.free y hy e).2) (λp hp=>nomatch hp)
    exact(f2 b hb).2.2.2.2.1 x c (Cd (x,c) (lF e))
   ·rw[eY]at hp;exact nomatch hp
  have T':Turn Y.prog Y.w Y.K target J fp it tn:=by rw[eY];exact T
  have VB:PG Y target (g ⟨HH.objs.size,dq X.env scope.names [],s2,H2,fp⟩):=by rw[eY];exact hg _
  have ht':vM Y ifs (tt ⟨HH.objs.size,dq X.env scope.names [],s2,H2,fp⟩):=by rw[eY];exact ht _
  have he':PE Y elt (te ⟨HH.objs.size,dq X.env scope.names [],s2,H2,fp⟩):=by rw[eY];exact he _
  have Zn:Y.calm=true:=by rw[eY];exact hc
  have eA:Y.A=X.A:=by rw[eY]
  have eP:Y.prog=X.prog:=by rw[eY]
  have eW:Y.w=X.w:=by rw[eY]
  have eE:Y.env=compEnvC scope (dq X.env scope.names []) HH.objs.size X.env:=by rw[eY]
  have eX:Y.xe=λ_ _=>False:=by rw[eY]
  have fin:∀σ' H' s',Inv Y [] σ' H' s'->Q (.ref s2.heap.objs.size) H'->RR (.ref s2.heap.objs.size) HH.objs.size (.ok .next) s':=λσ' H' s' I' q=>hRR _ _ σ' H' s' Mp (by rw[<-eY];exact I') q
  rw[<-eE,<-eA,<-eP,<-eW]
  have fr0:∀b∈fp,(upd H2 s2.heap.objs.size (.lst [])) b=none:=λb hb=>by
   have lt:b<s2.heap.objs.size:=let ⟨o,e,_⟩:=T.obj _ _ Gy b hb;bI e
   rw[aG (bV lt)];exact(f2 b hb).1
  refine ky (λn s'=>∃i ys own H',own.length=xs.length/\Inv Y [] (own++bR σ idx) H' s'/\tn i s'.heap/\(∀b∈fp,H' b=none)/\W i n ys H') ?_ m0
   ⟨0,[],_,_,uT,I3,XH,fr0,w0⟩
  rintro n s4 ⟨i,ys,own,H4,Vr,I4,XD,ZP,w4⟩
  rcases turn i n ys H4 w4 with ⟨stop,qn⟩ | ⟨go,NN,RB,step⟩
  ·exact cL (T'.done Y rfl rfl rfl Zn i [] s4 _ H4 _ I4 (stat ZP) XD stop) λr s5 ⟨hr,I5⟩=>by subst hr;exact fin _ _ _ I5 qn
  ·refine cL (T'.item Y rfl rfl rfl Zn i [] s4 _ H4 _ I4 (stat ZP) XD go) λr s5 ⟨u,hr,h5⟩=>?_
   subst hr
   refine cL h5 λ_ s6 ⟨x,H6,I6,r6,y6,R5,fr6⟩=>?_
   have I6':=I6.pinned (stat fr6) (T'.obj _ _ R5)
   have step':=step ⟨HH.objs.size,dq X.env scope.names [],s2,H2,fp⟩ own Vr x H6 y6
   refine eT (VB _ s6 _ H6 x u _ I6' r6 step') (λ_ s7 ⟨σ7,H7,I7,q7⟩=>?_) (λ_ _ z=>by rw[eX]at z;exact z)
   obtain⟨⟨TF,ho7,e7⟩,q7⟩:=q7
   refine eT (ht' _ s7 σ7 H7 _ I7 q7) (λb s8 ⟨H8,I8,q8⟩=>?_) (λ_ _ z=>by rw[eX]at z;exact z)
   have again:∀{H9:Hp} {s9:Shared} {mQ:List V},Inv Y ([]++qx fp s6.heap) σ7 H9 s9->NN mQ H9->∃m,m<n/\∃i ys own H',own.length=xs.length/\Inv Y [] (own++bR σ idx) H' s9/\tn i s9.heap/\(∀b∈fp,H' b=none)/\W i m ys H':=λ{H9 s9 mQ} I9 n9=>by
    obtain⟨m',hm,w9⟩:=RB _ _ n9
    rw[e7]at I9
    refine⟨m',hm,i+1,mQ,TF,H9,ho7,I9.mS,T'.keep _ _ _ R5 λb hb o e=>(I9.pin (b,o) (iS _ (iS _ (jh hb e)))).1,λb hb=>?_,w9⟩
    obtain⟨o,e,d⟩:=T'.obj _ _ R5 b hb
    exact(I9.pin (b,o) (iS _ (iS _ (jh hb e)))).2.1
   cases b with
   | false=>exact again I8 q8
   | true=>
    refine eT (he' _ s8 σ7 H8 _ I8 q8) (λu9 s9 ⟨y,H9,I9,r9,hy,hz,q9⟩=>?_) (λ_ _ z=>by rw[eX]at z;exact z)
    have ap:=gF (X:=Y) _ s9 σ7 H9 (.ref s2.heap.objs.size) [y] (.ref s2.heap.objs.size) [u9] (λ_ NB=>NN (ys++[y]) NB) I9 rfl (.cons r9 .nil) ⟨_,ys,y,rfl,rfl,hy,hz,q9⟩
    refine eT ap (λ_ Nf ⟨_,NB,I10,_,q10⟩=>again I10 q10) (λ_ _ z=>by rw[eX]at z;exact z)
 exact codeAny_compStart_list (loop _ rfl) (T.self _ 0 _ _ _ XH (loop _ rfl))
theorem Ia(hc:X.calm=true)(S:qZ X scope xs idx)(hi:PI X target iter wi)
  (hg:∀c,PG (jI X scope (xs++bK X.N idx) c) target (g c)) (ht:∀c,vM (jI X scope (xs++bK X.N idx) c) ifs (tt c)) (he:∀c,PE (jI X scope (xs++bK X.N idx) c) elt (te c))
  (hs:∀x,foldedSetIterable iter X.env x=pure x:=by intro _;rfl):PE X (.ListComp elt [⟨target,iter,ifs,0⟩] scope pos) (qo wi xs.length idx g tt te):=by
 intro pins s σ H Q I h
 rw[eval_ListComp]
 have FQ:closureFor scope X.env=pure (dq X.env scope.names []):=iZ λy hy e=>I.ok.has y.1 (S.free y hy e).2
 refine wpAny_comprehension_free (use:=none) rfl hs FQ S.kind S.loc (cL (hi pins s σ H _ I h) λxv s₁ h₁=>cL h₁ λRh s₂ h₂=>?_)
 obtain⟨it,fp,tn,J,H2,e,I2,T,Gy,f2,hW⟩:=h₂
 subst e
 refine xg (Q:=Q) (RR:=λacc C=>compPost (model X.prog X.w) X.A X.xe none (EP X pins σ Q) acc C) hc S hg ht he I2 T Gy f2 hW ?_
 intro D C σ' H' s' hC I' q
 obtain⟨m',hn,_⟩:=I'.loc
 refine⟨m',hn,λh'' Pj=>?_⟩
 obtain⟨hh,gg,d,t,os⟩:=s'
 obtain rfl:os=s₂.os:=I'.os
 have Cn:s₂.heap.get? C=none:=xV hC
 refine⟨.ref D,H',I2.call (s:=s₂) (h':=h'') (g':=gg) (d':=d) (t':=t) (ch:=fp) (I'.base.but Cn Pj) (I'.cw.but I'.free Pj) I'.bare (λb hb=>?_),rfl,q⟩
 obtain⟨_,f1,_,f3,f4,f5⟩:=f2 b hb
 exact⟨f3,f1,f4,f5⟩
end
theorem y9{lo:Int}{n k:Nat}{idx:List Nat}{g:CB->TG}{tt:CB->TT}{te:CB->TE}{σ:St}{Q:VK}{H1:Hp}{D:Addr}(Pv:Nat->List V->Hp->Prop)(h0:Pv 0 [] (upd H1 D (.lst [])))
  (hs:∀i ys H,i<n->Pv i ys H->∀(c:CB) (own:St),own.length=k->g c (.int (lo+i)) (own++bR σ idx) H λσ3 H3=>
   (∃cT,cT.length=k/\σ3=cT++bR σ idx)/\tt c σ3 H3 λb H4=>if b=true then te c σ3 H4 λy H5=>H5 D=some (.lst ys)/\ys.length<sizeLine/\Pv (i+1) (ys++[y]) (upd H5 D (.lst (ys++[y]))) else Pv (i+1) ys H4)
  (hd:∀ys H,Pv n ys H->Q (.ref D) H) :
  ∃W:Nat->Nat->List V->Hp->Prop,(∃m,W 0 m [] (upd H1 D (.lst [])))/\
   ∀i m ys H',W i m ys H'->((xO lo n).stop i H'/\Q (.ref D) H')\/((xO lo n).go i H'/\∃N:List V->Hp->Prop,(∀mQ qU,N mQ qU->∃m',m'<m/\W (i+1) m' mQ qU)/\∀(c:CB) (own:St),own.length=k->∀x H2,(xO lo n).CJ i H' x H2->g c x (own++bR σ idx) H2 λσ3 H3=>
    (∃cT,cT.length=k/\σ3=cT++bR σ idx)/\tt c σ3 H3 λb H4=>if b=true then te c σ3 H4 λy H5=>H5 D=some (.lst ys)/\ys.length<sizeLine/\N (ys++[y]) (upd H5 D (.lst (ys++[y]))) else N ys H4):=by
 refine⟨λi m ys H=>m=n-i/\i<=n/\Pv i ys H,⟨n,by simp,dQ _,h0⟩,?_⟩
 rintro i m ys H ⟨rfl,hi,p⟩
 by_cases ml:i<n
 ·refine .inr ⟨ml,Pv (i+1),λmQ H' p'=>⟨n-(i+1),by omega,rfl,ml,p'⟩,λc own ho x H' y=>?_⟩
  obtain⟨e,y⟩:=y
  subst e y
  exact hs i ys _ ml p c own ho
 ·have e:i=n:=by omega
  subst e
  exact .inl ⟨bF _,hd ys H p⟩
theorem Cm{K:PySem.W.Frag}{a:Addr}{zs:List V}{k:Nat}{idx:List Nat}{g:CB->TG}{tt:CB->TT}{te:CB->TE}{σ:St}{Q:VK}{H1:Hp}{D:Addr}(Pv:Nat->List V->Hp->Prop)(h0:Pv 0 [] (upd H1 D (.lst [])))
  (hl:∀i ys H,i<=zs.length->Pv i ys H->nD K H a zs)
  (hs:∀i x ys H,zs[i]?=some x->Pv i ys H->∀(c:CB) (own:St),own.length=k->g c x (own++bR σ idx) H λσ3 H3=>
   (∃cT,cT.length=k/\σ3=cT++bR σ idx)/\tt c σ3 H3 λb H4=>if b=true then te c σ3 H4 λy H5=>H5 D=some (.lst ys)/\ys.length<sizeLine/\Pv (i+1) (ys++[y]) (upd H5 D (.lst (ys++[y]))) else Pv (i+1) ys H4)
  (hd:∀ys H,Pv zs.length ys H->Q (.ref D) H) :
  ∃W:Nat->Nat->List V->Hp->Prop,(∃m,W 0 m [] (upd H1 D (.lst [])))/\
   ∀i m ys H',W i m ys H'->((Gv K a).stop i H'/\Q (.ref D) H')\/((Gv K a).go i H'/\∃N:List V->Hp->Prop,(∀mQ qU,N mQ qU->∃m',m'<m/\W (i+1) m' mQ qU)/\∀(c:CB) (own:St),own.length=k->∀x H2,(Gv K a).CJ i H' x H2->g c x (own++bR σ idx) H2 λσ3 H3=>
    (∃cT,cT.length=k/\σ3=cT++bR σ idx)/\tt c σ3 H3 λb H4=>if b=true then te c σ3 H4 λy H5=>H5 D=some (.lst ys)/\ys.length<sizeLine/\N (ys++[y]) (upd H5 D (.lst (ys++[y]))) else N ys H4):=by
 refine⟨λi m ys H=>m=zs.length-i/\i<=zs.length/\Pv i ys H,⟨zs.length,by simp,dQ _,h0⟩,?_⟩
 rintro i m ys H ⟨rfl,hi,p⟩
 have q:=hl i ys H hi p
 by_cases ml:i<zs.length
 ·refine .inr ⟨⟨zs,zs[i],q,by simp[ml]⟩,Pv (i+1),λmQ H' p'=>⟨zs.length-(i+1),by omega,rfl,ml,p'⟩,λc own ho x H' y=>?_⟩
  obtain⟨e,y⟩:=y
  subst e
  exact hs i x ys _ (y zs q) p c own ho
 ·have e:i=zs.length:=by omega
  subst e
  exact .inl ⟨⟨zs,q,bF _⟩,hd ys H p⟩
theorem Ic{own:St}{k:St}{x:V}(h:own.length=1):(own++k).set 0 (some x)=[some x]++k:=by
 match own,h with
 | [_],_=>rfl
theorem xh{lo:Int}{n:Nat}{idx:List Nat}{tt:CB->TT}{te:CB->TE}{σ:St}{Q:VK}{H1:Hp}{D:Addr}(Pv:Nat->List V->Hp->Prop)(h0:Pv 0 [] (upd H1 D (.lst [])))
  (hs:∀i ys H,i<n->Pv i ys H->∀(c:CB),tt c (some (.int (lo+i))::bR σ idx) H λb H4=>if b=true then te c (some (.int (lo+i))::bR σ idx) H4 λy H5=>H5 D=some (.lst ys)/\ys.length<sizeLine/\Pv (i+1) (ys++[y]) (upd H5 D (.lst (ys++[y]))) else Pv (i+1) ys H4)
  (hd:∀ys H,Pv n ys H->Q (.ref D) H) :
  ∃W:Nat->Nat->List V->Hp->Prop,(∃m,W 0 m [] (upd H1 D (.lst [])))/\
   ∀i m ys H',W i m ys H'->((xO lo n).stop i H'/\Q (.ref D) H')\/((xO lo n).go i H'/\∃N:List V->Hp->Prop,(∀mQ qU,N mQ qU->∃m',m'<m/\W (i+1) m' mQ qU)/\∀(c:CB) (own:St),own.length=1->∀x H2,(xO lo n).CJ i H' x H2->cU 0 x (own++bR σ idx) H2 λσ3 H3=>
    (∃cT,cT.length=1/\σ3=cT++bR σ idx)/\tt c σ3 H3 λb H4=>if b=true then te c σ3 H4 λy H5=>H5 D=some (.lst ys)/\ys.length<sizeLine/\N (ys++[y]) (upd H5 D (.lst (ys++[y]))) else N ys H4):=
 y9 (g:=λ_=>cU 0) Pv h0 (λi ys H hi p c own ho=>by
  show(∃cT,cT.length=1/\(own++bR σ idx).set 0 _=cT++bR σ idx)/\tt c ((own++bR σ idx).set 0 _) H _
  rw[Ic ho]
  exact⟨⟨[_],rfl,rfl⟩,hs i ys H hi p c⟩) hd
theorem zb{K:PySem.W.Frag}{a:Addr}{zs:List V}{idx:List Nat}{tt:CB->TT}{te:CB->TE}{σ:St}{Q:VK}{H1:Hp}{D:Addr}(Pv:Nat->List V->Hp->Prop)(h0:Pv 0 [] (upd H1 D (.lst [])))
  (hl:∀i ys H,i<=zs.length->Pv i ys H->nD K H a zs)
  (hs:∀i x ys H,zs[i]?=some x->Pv i ys H->∀(c:CB),tt c (some x::bR σ idx) H λb H4=>if b=true then te c (some x::bR σ idx) H4 λy H5=>H5 D=some (.lst ys)/\ys.length<sizeLine/\Pv (i+1) (ys++[y]) (upd H5 D (.lst (ys++[y]))) else Pv (i+1) ys H4)
  (hd:∀ys H,Pv zs.length ys H->Q (.ref D) H) :
  ∃W:Nat->Nat->List V->Hp->Prop,(∃m,W 0 m [] (upd H1 D (.lst [])))/\
   ∀i m ys H',W i m ys H'->((Gv K a).stop i H'/\Q (.ref D) H')\/((Gv K a).go i H'/\∃N:List V->Hp->Prop,(∀mQ qU,N mQ qU->∃m',m'<m/\W (i+1) m' mQ qU)/\∀(c:CB) (own:St),own.length=1->∀x H2,(Gv K a).CJ i H' x H2->cU 0 x (own++bR σ idx) H2 λσ3 H3=>
    (∃cT,cT.length=1/\σ3=cT++bR σ idx)/\tt c σ3 H3 λb H4=>if b=true then te c σ3 H4 λy H5=>H5 D=some (.lst ys)/\ys.length<sizeLine/\N (ys++[y]) (upd H5 D (.lst (ys++[y]))) else N ys H4):=
 Cm (g:=λ_=>cU 0) Pv h0 hl (λi x ys H hi p c own ho=>by
  show(∃cT,cT.length=1/\(own++bR σ idx).set 0 _=cT++bR σ idx)/\tt c ((own++bR σ idx).set 0 _) H _
  rw[Ic ho]
  exact⟨⟨[_],rfl,rfl⟩,hs i x ys H hi p c⟩) hd
def my(z:Str)(lo hi:Option Int):Str:=⟨((z.cps.toList.drop (HT.bY z.length 0 lo)).take (HT.bY z.length z.length hi-HT.bY z.length 0 lo)).toArray⟩
theorem qt(lo hi:Option Int)(n:Nat):Builtin.Str.strSliceIndices lo hi 1 n=sliceRange ((HT.bY n 0 lo:Nat):Int) ((HT.bY n n hi:Nat):Int) 1:=by
 obtain⟨h1,h2,h3⟩:=mV lo hi n
 rw[<-h1,<-h2]
 cases lo <;> cases hi <;> simp[Builtin.Str.strSliceIndices,sliceBounds]
theorem Hi{a b:Str}(h:a.cps.toList=b.cps.toList):a=b:=by
 obtain⟨x⟩:=a;obtain⟨y⟩:=b
 have:x=y:=Array.toList_inj.mp h
 rw[this]
theorem rO(x:Str)(lo hi:Option Int):Txt.slice x lo hi=my x lo hi:=by
 have hl:x.cps.toList.length=x.length:=by simp[Str.length]
 have e:(Builtin.Str.strSliceIndices lo hi 1 x.length).filterMap (x.cps[·]?)=(x.cps.toList.drop (HT.bY x.length 0 lo)).take (HT.bY x.length x.length hi-HT.bY x.length 0 lo):=by
  rw[qt,sliceRange_one,pick_run]
 have el:(Builtin.Str.strSliceIndices lo hi 1 x.length).length=HT.bY x.length x.length hi-HT.bY x.length 0 lo:=by
  rw[qt,sliceRange_one,cx,List.length_range]
 unfold Txt.slice
 rw[e,el]
 have hj:HT.bY x.length x.length hi<=x.length:=HT.Ed _ _ (bF _) hi
 by_cases h:HT.bY x.length x.length hi-HT.bY x.length 0 lo=x.length
 ·have hb:((1:Int)==1&&HT.bY x.length x.length hi-HT.bY x.length 0 lo==x.length)=true:=by rw[h];simp
  rw[bu hb]
  refine Hi ?_
  unfold my
  by_cases hx:x.length=0
  ·have e0:x.cps.toList=[]:=vY (by lia)
   rw[e0];simp
  ·have h0:HT.bY x.length 0 lo=0:=by lia
   rw[h,h0,uy,<-hl,oF]
 ·have hb:¬((1:Int)==1&&HT.bY x.length x.length hi-HT.bY x.length 0 lo==x.length)=true:=by simpa using h
  rw[aI hb]
  rfl
theorem qN{v:Value}{o:Option Int}(h:IsPart v o):∃p:Option (Int×Tok),v=partValue p/\p.map (·.1)=o:=by
 cases h with
 | none=>exact⟨none,rfl,rfl⟩
 | int i t=>exact⟨some (i,t),rfl,rfl⟩
theorem dh{n:Nat}(h:n<=1000):n<=sizeLine:=nQ (xZ h (by decide))
section
variable {X:Cx}
def N6:V->Option Int->Option Int->Hp->VK->Prop:=λx lo hi H Q=>∃z,x=.str z/\z.length<=sizeLine/\Q (.str (my z lo hi)) H
theorem iG:GZ X N6:=by
 intro pins s σ H x v vl vu lo hi sl Q I rx hs pl pu h
 obtain⟨z,rfl,hz,q⟩:=h
 obtain⟨t,rfl⟩:=rx
 obtain⟨pl',rfl,el⟩:=qN pl
 obtain⟨pu',rfl,eu⟩:=qN pu
 refine⟨"str",_,F.slot_str_getitem.lookup,nI _ _ _,wpAny_getItem_str_slice (l:=pl') (u:=pu') (st:=none) hs rfl ?_⟩
 unfold sliceMade slicePicked
 rw[el,eu]
 refine post_val_or_str ⟨?_,λt' k=>?_⟩
 ·exact cN (Txt.slice_le z lo hi) hz
 ·exact⟨.str (my z lo hi),H,I.tok _,⟨t',by rw[<-rO];rfl⟩,q⟩
theorem Hj{ss:List Str}:∀{us:List Value},Vals (ss.map V.str) us->∃l:List (Str×Tok),us=strValues l/\l.map (·.1)=ss:=by
 induction ss with
 | nil=>intro us r;cases r;exact⟨[],rfl,rfl⟩
 | cons z ss ih=>
  intro us r
  rw[ie]at r
  cases r with
  | cons r1 r2=>
   obtain⟨t,rfl⟩:=r1
   obtain⟨l,rfl,e⟩:=ih r2
   exact⟨(z,t)::l,rfl,by rw[ie,e]⟩
def rJoin(K:PySem.W.Frag):V->List V->Hp->VK->Prop:=λx vs H Q=>∃sep a ss,x=.str sep/\vs=[.ref a]/\nD K H a (ss.map V.str)/\JoinOk sep ss=true/\Q (.str (Txt.join sep ss)) H
theorem Im:JW X "str.join" (rJoin X.K):=by
 intro pins s σ H x vs v us Q I rx rv h
 obtain⟨sep,a,ss,rfl,rfl,hq,cw,q⟩:=h
 obtain⟨t,rfl⟩:=rx
 obtain⟨u,rfl,ru⟩:=rv.one
 cases ru
 obtain⟨its,r,pl,hz⟩:=I.list hq
 obtain⟨l,rfl,e⟩:=Hj r
 exact SC.join pl.isList e cw λt' k=>⟨.str (Txt.join sep ss),H,I.tok _,⟨t',rfl⟩,q⟩
theorem qq{ss:List Str}:∀{us:List Value},Vals (ss.map V.str) us->StrsAre us ss:=by
 induction ss with
 | nil=>intro us r;cases r;exact .nil
 | cons z ss ih=>
  intro us r
  rw[ie]at r
  cases r with
  | cons r1 r2=>obtain⟨t,rfl⟩:=r1;exact .cons z t (ih r2)
theorem nV:∀{us:List Value} {ss:List Str},StrsAre us ss->Vals (ss.map V.str) us
 | _,_,.nil=>.nil
 | _,_,.cons x t r=>.cons ⟨t,rfl⟩ (nV r)
def Hu(K:PySem.W.Frag):List V->Hp->VK->Prop:=λvs H Q=>∃a ss,vs=[.ref a]/\nD K H a (ss.map V.str)/\ss.length<64/\
 ∀ss':List Str,ss'.Perm ss->sortedS ss'=true->∀p,H p=none->Q (.ref p) (upd H p (.lst (ss'.map V.str)))
theorem xr:cv X (.builtin "sorted") (Hu X.K):=by
 intro pins s σ H vs us Q I rv h
 obtain⟨a,ss,rfl,hq,h64,q⟩:=h
 obtain⟨u,rfl,ru⟩:=vals1 rv
 cases ru
 obtain⟨its,r,pl,hz⟩:=I.list hq
 have hl:=r.length
 rw[cx]at hl
 refine sorted_strs pl.isList (qq r) (by lia) λout ss' h1 h2 h3=>?_
 obtain⟨c,hc⟩:=sortedAll_at s.heap its out
 have xN:(sortedAll s.heap its out).get? (s.heap.objs.size+1)=some { cls:=.type "list",data:=.seq out.toList.toArray c }:=hc
 have hn:H (s.heap.objs.size+1)=none:=I.cw.fresh (jO _)
 refine⟨.ref (s.heap.objs.size+1),_,I.laid (t':=s.toks) (o:=.lst (ss'.map V.str)) (λb ob e=>sortedAll_old e) (jO _) ?_,rfl,q ss' h2 h3 _ hn⟩
 have hlen:ss'.length=ss.length:=h2.length_eq
 exact⟨by rw[cx,hlen];exact dh (by lia),out.toList,c,nV h1,xN⟩
theorem Gh(c:Value):cv X (.builtin "isinstance") (λvs H Q=>∃x t b n,vs=[x,.ty n]/\kR X.K H x t/\PySem.W.kitOne X.K t (.type n)=some b/\Q (.bl b) H):=by
 intro pins s σ H vs us Q I rv h
 obtain⟨x,t,b,n,rfl,ty,e,q⟩:=h
 obtain⟨u,v,rfl,ru,SF⟩:=rv.two
 obtain rfl:v=Value.type n:=SF
 exact BW I ru ty e λtk=>⟨.bl b,H,I.tok _,rfl,q⟩
def P7(xs ys:List V):Bool:=xs.length==ys.length&&(List.range xs.length).all λj=>GR (xs.getD j .non) (ys.getD j .non)
end
section
variable {X:Cx}{elt target iter:Expr}{ifs:List Expr}{scope:Scope}{pos spos py:Pos}{xs:List Str}{idx:List Nat}{wi:TI}{g:CB->TG}{tt:CB->TT}{te:CB->TE}
theorem HQ{i:Nat}{y:Str}(hN:X.N.Nodup)(hi0:X.N[i]?=some y)(hy:X.env.scope.names.lookup y=some .local)(hc:X.calm=true)(S:qZ X scope xs idx)(hi:PI X target iter wi)
  (hg:∀c,PG (jI X scope (xs++bK X.N idx) c) target (g c)) (ht:∀c,vM (jI X scope (xs++bK X.N idx) c) ifs (tt c)) (he:∀c,PE (jI X scope (xs++bK X.N idx) c) elt (te c))
  (Vo:swapsWith (.ListComp elt [⟨target,iter,ifs,0⟩] scope pos) (some (.Name y py)) spos.line X.env=pure true:=by rfl)
  (hs:∀x,foldedSetIterable iter X.env x=pure x:=by intro _;rfl):PS X (.Assign [.Name y py] (.ListComp elt [⟨target,iter,ifs,0⟩] scope pos) spos) (u6 (qo wi xs.length idx g tt te) (cU i)):=by
 intro pins s σ H D I h
 have FQ:closureFor scope X.env=pure (dq X.env scope.names []):=iZ λy hy e=>I.ok.has y.1 (S.free y hy e).2
 rw[exec_Assign_Name_used _ _ _ _ Vo]
 refine av (pP (av ?_))
 show wpAny _ X.A (do let _ <-comprehension (.ListComp elt [⟨target,iter,ifs,0⟩] scope pos) scope X.env _ (newList []) false (eval iter X.env) (some (assign (.Name y py) X.env))) _ _ s
 refine av (eT (wpAny_comprehension_free (use:=some (assign (.Name y py) X.env)) (Q:=λ_ s'=>SP X pins D .next s') rfl hs FQ S.kind S.loc
  (cL (hi pins s σ H _ I h) λxv s₁ h₁=>cL h₁ λRh s₂ h₂=>?_)) (λ_ s' hq=>aU (aU hq)) λ_ _ e=>e)
 obtain⟨it,fp,tn,J,H2,e,I2,T,Gy,f2,hW⟩:=h₂
 subst e
 refine xg (Q:=λv H'=>cU i v σ H' D.nx) (RR:=λacc C=>compPost (model X.prog X.w) X.A X.xe (some (assign (.Name y py) X.env)) (λ_ s'=>SP X pins D .next s') acc C) hc S hg ht he I2 T Gy f2 hW ?_
 intro DD C σ' H' s' hC I' q
 show wpAny _ X.A (assign (.Name y py) X.env (.ref DD)) _ _ _
 obtain⟨hh,gg,d,t,os⟩:=s'
 obtain rfl:os=s₂.os:=I'.os
 have Cn:s₂.heap.get? C=none:=xV hC
 have I3:Inv X pins σ H' { s₂ with heap:=hh,gens:=gg,drawn:=d,toks:=t }:=I2.call (s:=s₂) (h':=hh) (g':=gg) (d':=d) (t':=t) (ch:=fp) (I'.base.but Cn (Heap.SameBut.refl _ _)) I'.cw I'.bare (λb hb=>by
  obtain⟨_,f1,_,f3,f4,f5⟩:=f2 b hb
  exact⟨f3,f1,f4,f5⟩)
 obtain⟨m',hn,_⟩:=I'.loc
 have Zx:X.env.locals≠C:=bV (dg I2.lt hC)
 refine wpAny_assign_Name (tf I3 hN hi0 (.inl hy) (v:=.ref DD) rfl (λN5 I4 ⟨a,hs4,ha⟩=>?_) (.inr hy))
 have haC:C≠a:=by
  rcases ha with e | e
  ·rw[e];exact iP Zx
  ·obtain⟨v,q⟩:=I2.cell y a e
   exact lA (dg q.lt hC)
 refine⟨m',hn.sameBut hs4 haC,λh3 hs3=>?_⟩
 obtain⟨hh4,ZL,d4,t4,X8⟩:=N5
 have I5:Inv X pins (σ.set i (some (.ref DD))) H' { heap:=h3,gens:=ZL,drawn:=d4,toks:=t4,os:=X8 }:=
  I4.turned (s:={ heap:=hh4,gens:=ZL,drawn:=d4,toks:=t4,os:=X8 }) (h':=h3) (t':=t4) (it:=C) (λb o hb e=>(hs3.2 b hb).trans e) I'.free (iP Zx) (.inr (cN I2.sz hC)) (λx c e z=>by
   obtain⟨v,q⟩:=I2.cell x c e
   exact absurd (dg q.lt hC) (by rw[z];exact lB _)) (λp hp z=>by
   have:=(I2.pin p hp).1
   rw[z,Cn]at this;cases this)
 exact⟨_,H',I5,q⟩
end
def Ck(iO:Scope)(N:List Str)(scope:Scope)(idx:List Nat):Bool:=
 scope.kind == .function&&scope.names.all (λy=>y.2 != .cell)&&scope.names.all (λy=>y.2 != .local||scope.names.lookup y.1==some .local) &&
 scope.names.all (λy=>y.2 != .free||(scope.names.lookup y.1==some .free&&(iO.names.lookup y.1==some .cell||iO.names.lookup y.1==some .free))) &&
 idx.all (λi=>match N[i]? with | some y=>scope.names.lookup y==some .free | none=>false)
theorem tT{X:Cx}{scope:Scope}{xs:List Str}{idx:List Nat}{iO:Scope}{N:List Str}(h:Ck iO N scope idx=true)(e1:X.env.scope=iO:=by rfl)(e2:X.N=N:=by rfl):qZ X scope xs idx:=by
 unfold Ck at h
 simp only[cX]at h
 refine hide λgG hG=>?_
 obtain⟨⟨⟨⟨h1,h2⟩,h3⟩,h4⟩,h5⟩:=h
 refine hG ?_
 refine⟨by simpa using h1,λy hy e=>?_,λy hy e=>?_,λy hy e=>?_,λi hi=>?_⟩
 ·have:=mJ.mp h2 y hy
  rw[e]at this;exact absurd this (by decide)
 ·have:=mJ.mp h3 y hy
  rw[e]at this;simpa using this
 ·have:=mJ.mp h4 y hy
  rw[e]at this
  have t:(scope.names.lookup y.1==some NameKind.free&&(iO.names.lookup y.1==some .cell||iO.names.lookup y.1==some .free))=true:=by simpa using this
  rw[cX,uB]at t
  refine⟨by simpa using t.1,?_⟩
  show X.env.scope.names.lookup y.1=_\/X.env.scope.names.lookup y.1=_
  rw[e1]
  exact t.2.imp (by simp) (by simp)
 ·have:=mJ.mp h5 i hi
  rw[e2]
  cases e:N[i]? with
  | none=>rw[e]at this;cases this
  | some y=>rw[e]at this;exact⟨y,rfl,by simpa using this⟩
theorem QH{α:Type}(a:α)(xs:List α):mz (a::xs) 0=some a:=cy (j:=0) rfl
theorem QG{α:Type}(a b:α)(xs:List α):mz (a::b::xs) 1=some b:=cy (j:=1) rfl
theorem QF{α:Type}(a b c:α)(xs:List α):mz (a::b::c::xs) 2=some c:=cy (j:=2) rfl
theorem QD{α:Type}(a b c d:α)(xs:List α):mz (a::b::c::d::xs) 3=some d:=cy (j:=3) rfl
theorem QC{α:Type}(a b c d e:α)(xs:List α):mz (a::b::c::d::e::xs) 4=some e:=cy (j:=4) rfl
theorem QB{α:Type}(a b c d e f:α)(xs:List α):mz (a::b::c::d::e::f::xs) 5=some f:=cy (j:=5) rfl
theorem Ly:BV 6 1=some 1:=rfl
theorem Lx:BV 6 2=some 2:=rfl
theorem Lw:BV 6 3=some 3:=rfl
theorem Ls:BV 6 4=some 4:=rfl
theorem Lr:BV 6 5=some 5:=rfl
theorem Ap(i:Int):jB i 48271/\jB i 40693/\jB i 3/\jB i 4294967296:=⟨.inr ⟨by decide,by decide⟩,.inr ⟨by decide,by decide⟩,.inr ⟨by decide,by decide⟩,.inr ⟨by decide,by decide⟩⟩
theorem Qh(i:Int):jB i 48271:=(Ap i).1
theorem Qg(i:Int):jB i 40693:=(Ap i).2.1
theorem Qf(i:Int):jB i 3:=(Ap i).2.2.1
theorem Qe(i:Int):jB i 4294967296:=(Ap i).2.2.2
theorem Aq(i:Int):jB 5 i/\jB 3 i/\jB 7 i/\jB 10 i:=⟨.inl ⟨by decide,by decide⟩,.inl ⟨by decide,by decide⟩,.inl ⟨by decide,by decide⟩,.inl ⟨by decide,by decide⟩⟩
theorem MF(i:Int):jB 5 i:=(Aq i).1
theorem Mz(i:Int):jB 3 i:=(Aq i).2.1
theorem Mx(i:Int):jB 7 i:=(Aq i).2.2.1
theorem Mw(i:Int):jB 10 i:=(Aq i).2.2.2
theorem Mv:QS 10 18:=⟨by decide,by decide,by decide⟩
def Ke(t u:TS):TS:=λD σ H=>∃N:St->Hp->Prop,t { D with nx:=N } σ H/\∀σ' H',N σ' H'->u D σ' H'
theorem HN{X:Cx}{st:Stmt}{rest:List Stmt}{t u:TS}(h1:PS X st t)(h2:rj X rest u):rj X (st::rest) (Ke t u):=by
 intro pins s σ H D I ⟨N,hn,hu⟩
 refine wpAny_execs_cons (cL (h1 pins s σ H { D with nx:=N } I hn) λf s1 q=>?_)
 cases f with
 | next=>
  refine hide λgG hG=>?_
  obtain⟨σ',H',I',q⟩:=q
  refine hG ?_
  exact h2 pins s1 σ' H' D I' (hu σ' H' q)
 | ret v=>exact q
 | brk=>exact q
 | cont=>exact q
theorem Gp{ns:List Int}{k:Int}(h0:0<=k)(h:k<(ns.length:Int)):∃v:Int,mz (ns.map V.int) k=some (.int v):=by
 have hk:k.toNat<ns.length:=by lia
 have ek:k=((k.toNat:Nat):Int):=by lia
 have q:mz (ns.map V.int) ((k.toNat:Nat):Int)=some (.int ns[k.toNat]):=cy (by rw[fz,fL hk] <;> rfl)
 rw[<-ek]at q
 exact⟨_,q⟩
theorem Gn{α:Type}{xs:List α}{k:Int}(h0:0<=k)(h:k<(xs.length:Int)):∃v,mz xs k=some v/\xs[k.toNat]?=some v:=by
 have hk:k.toNat<xs.length:=by lia
 have ek:k=((k.toNat:Nat):Int):=by lia
 have q:mz xs ((k.toNat:Nat):Int)=some xs[k.toNat]:=cy (fL hk)
 rw[<-ek]at q
 exact⟨_,q,fL hk⟩
section
variable {X:Cx}
theorem iN.imp{f:Value->Value->Sem Value}{r r':R2}(h:iN X f r)(i:∀x y H Q,r' x y H Q->r x y H Q):iN X f r':=λpins s σ H x y v u Q I rx ry q=>h pins s σ H x y v u Q I rx ry (i _ _ _ _ q)
theorem Gu.imp{r r':R2}(h:Gu X r)(i:∀x y H Q,r' x y H Q->r x y H Q):Gu X r':=λvalue slice pins s σ H x y v u Q I rx ry q hs=>h value slice pins s σ H x y v u Q I rx ry (i _ _ _ _ q) hs
theorem cv.imp{f:Value}{r r':List V->Hp->VK->Prop}(h:cv X f r)(i:∀x H Q,r' x H Q->r x H Q):cv X f r':=λpins s σ H vs us Q I rv q=>h pins s σ H vs us Q I rv (i _ _ _ q)
theorem JW.imp{id:String}{r r':V->List V->Hp->VK->Prop}(h:JW X id r)(i:∀x xs H Q,r' x xs H Q->r x xs H Q):JW X id r':=λpins s σ H x xs v us Q I rx rv q=>h pins s σ H x xs v us Q I rx rv (i _ _ _ _ q)
theorem GZ.imp{r r':V->Option Int->Option Int->Hp->VK->Prop}(h:GZ X r)(i:∀x lo hi H Q,r' x lo hi H Q->r x lo hi H Q):GZ X r':=λpins s σ H x v vl vu lo hi sl Q I rx hs pl pu q=>h pins s σ H x v vl vu lo hi sl Q I rx hs pl pu (i _ _ _ _ _ q)
theorem bT{K:PySem.W.Frag}{H:Hp}{a:Addr}{xs:List V}(h:H a=some (.lst xs)):nD K H a xs:=nD.of h
theorem cB{K:PySem.W.Frag}{H:Hp}{a:Addr}{xs:List V}(h:H a=some (.tup xs)):oV K H a xs:=oV.of h
def Ku:R2:=λx y H Q=>∃p i,x=.ref p/\y=.int i/\∃xs,H p=some (.lst xs)/\∃v,mz xs i=some v/\Q v H
theorem cM:Gu X Ku:=Iv.imp λx y H Q ⟨p,i,e1,e2,xs,h,v,e3,q⟩=>⟨p,xs,i,v,e1,e2,bT h,e3,q⟩
def Og:R2:=λx y H Q=>∃p i,x=.ref p/\y=.int i/\∃xs,H p=some (.tup xs)/\∃v,mz xs i=some v/\Q v H
theorem ni:Gu X Og:=Lp.imp λx y H Q ⟨p,i,e1,e2,xs,h,v,e3,q⟩=>⟨p,xs,i,v,e1,e2,cB h,e3,q⟩
def Kt:R2:=λx y H Q=>∃z i,x=.str z/\y=.int i/\z.length<=sizeLine/\∃c,mz z.cps.toList i=some c/\Q (.str ⟨#[c]⟩) H
theorem Iu:Gu X Kt:=Lq.imp λx y H Q ⟨z,i,e1,e2,hz,c,e3,q⟩=>⟨z,i,c,e1,e2,hz,e3,q⟩
def Oc:V->Option Int->Option Int->Hp->VK->Prop:=λx lo hi H Q=>∃a,x=.ref a/\∃xs,H a=some (.lst xs)/\∀p,H p=none->Q (.ref p) (upd H p (.lst (dO xs lo hi)))
theorem mW:GZ X Oc:=zN.imp λx lo hi H Q ⟨a,e,xs,h,q⟩=>⟨a,xs,e,bT h,q⟩
def Ob:V->Option Int->Option Int->Hp->VK->Prop:=λx lo hi H Q=>∃a,x=.ref a/\∃xs,H a=some (.tup xs)/\¬(HT.bY xs.length 0 lo=0/\HT.bY xs.length xs.length hi=xs.length)/\∀p,H p=none->Q (.ref p) (upd H p (.tup (dO xs lo hi)))
theorem Ho:GZ X Ob:=Kn.imp λx lo hi H Q ⟨a,e,xs,h,n,q⟩=>⟨a,xs,e,cB h,n,q⟩
def Jw:List V->Hp->VK->Prop:=λvs H Q=>∃p,vs=[.ref p]/\∃xs,H p=some (.lst xs)/\Q (.int xs.length) H
theorem cJ:cv X (.builtin "len") Jw:=nu.imp λx H Q ⟨p,e,xs,h,q⟩=>⟨p,xs,e,.inl (bT h),q⟩
def Jv:List V->Hp->VK->Prop:=λvs H Q=>∃p,vs=[.ref p]/\∃xs,H p=some (.tup xs)/\Q (.int xs.length) H
theorem ja:cv X (.builtin "len") Jv:=nu.imp λx H Q ⟨p,e,xs,h,q⟩=>⟨p,xs,e,.inr (cB h),q⟩
def Ek:List V->Hp->VK->Prop:=λvs H Q=>∃p,vs=[.ref p]/\∃xs,H p=some (.lst xs)/\∀l,H l=none->Q (.ref l) (upd H l (.lst xs))
theorem zc:cv X (.type "list") Ek:=vI.imp λx H Q ⟨p,e,xs,h,q⟩=>⟨p,xs,e,.inl (bT h),q⟩
def Kr:List V->Hp->VK->Prop:=λvs H Q=>∃p,vs=[.ref p]/\∃xs,H p=some (.tup xs)/\∀l,H l=none->Q (.ref l) (upd H l (.lst xs))
def zS:List V->Hp->VK->Prop:=λvs H Q=>∃p,vs=[.ref p]/\∃xs,H p=some (.lst xs)/\∀l,H l=none->Q (.ref l) (upd H l (.tup xs))
theorem xq:cv X (.type "tuple") zS:=rL.imp λx H Q ⟨p,e,xs,h,q⟩=>⟨p,xs,e,.inl ⟨bT h,q⟩⟩
def Ks:List V->Hp->VK->Prop:=λvs H Q=>∃a,vs=[.ref a]/\∃jb,H a=some (.dK jb)/\∀p,H p=none->Q (.ref p) (upd H p (.lst (jb.map λkv=>kV kv.1)))
def Kw:List V->Hp->VK->Prop:=λvs H Q=>∃a,vs=[.ref a]/\∃jb,H a=some (.dK jb)/\∀p,H p=none->Q (.ref p) (upd H p (.dK jb))
def zT:List V->Hp->VK->Prop:=λvs H Q=>∃a,vs=[.ref a]/\∃ss:List Str,H a=some (.lst (ss.map V.str))/\ss.length<64/\
 ∀ss':List Str,ss'.Perm ss->sortedS ss'=true->∀p,H p=none->Q (.ref p) (upd H p (.lst (ss'.map V.str)))
theorem vH:cv X (.builtin "sorted") zT:=xr.imp λx H Q ⟨p,e,ss,h,n,q⟩=>⟨p,ss,e,bT h,n,q⟩
def Jx:V->List V->Hp->VK->Prop:=λx vs H Q=>∃sep a,x=.str sep/\vs=[.ref a]/\∃ss:List Str,H a=some (.lst (ss.map V.str))/\JoinOk sep ss=true/\Q (.str (Txt.join sep ss)) H
theorem gN:JW X "str.join" Jx:=Im.imp λx vs H Q ⟨sep,a,e1,e2,ss,h,n,q⟩=>⟨sep,a,ss,e1,e2,bT h,n,q⟩
def Hz(neg:Bool):R2:=λx y H Q=>∃p,y=.ref p/\∃xs,H p=some (.lst xs)/\gR x=true/\xs.all gR=true/\Q (.bl (if neg then !JG x xs else JG x xs)) H
theorem K9:iN X (compareOp .In) (Hz false):=Bu.imp λx y H Q ⟨p,e,xs,h,f1,f2,q⟩=>⟨p,xs,e,.inl (bT h),f1,f2,q⟩
theorem nZ:iN X (compareOp .NotIn) (Hz true):=vk.imp λx y H Q ⟨p,e,xs,h,f1,f2,q⟩=>⟨p,xs,e,.inl (bT h),f1,f2,q⟩
def S'(neg:Bool):R2:=λx y H Q=>∃p,y=.ref p/\∃xs,H p=some (.tup xs)/\gR x=true/\xs.all gR=true/\Q (.bl (if neg then !JG x xs else JG x xs)) H
def Ta(neg:Bool):R2:=λx y H Q=>∃a b,x=.ref a/\y=.ref b/\∃xs,H a=some (.lst xs)/\∃ys,H b=some (.lst ys)/\xs.all gR=true/\ys.all gR=true/\Q (.bl (if neg then !P7 xs ys else P7 xs ys)) H
def Oh(K:PySem.W.Frag):List V->Hp->VK->Prop:=λvs H Q=>∃x n,vs=[x,.ty n]/\∃t,kR K H x t/\∃b,PySem.W.kitOne K t (.type n)=some b/\Q (.bl b) H
theorem eQ:cv X (.builtin "isinstance") (Oh X.K):=(Gh .none).imp λx H Q ⟨y,n,e,t,ty,b,h,q⟩=>⟨y,t,b,n,e,ty,h,q⟩
def Od:V->V->V->Hp->(Hp->Prop)->Prop:=λo i v H Q=>∃p k,o=.ref p/\i=.int k/\∃xs,H p=some (.lst xs)/\∃j,BV xs.length k=some j/\Q (upd H p (.lst (xs.set j v)))
theorem m4:Cw X Od:=λpins s σ H o i v ov iv u Q I ro ri rv ⟨p,k,e1,e2,xs,h,j,hj,q⟩=>set_list pins s σ H o i v ov iv u Q I ro ri rv ⟨p,xs,k,j,e1,e2,h,hj,q⟩
theorem JQ:M5 X (λo i H Q=>Ku o i H Q):=by
 intro pins s σ H o i ov iv Q I ro ri h
 refine hide λgG hG=>?_
 obtain⟨p,i,rfl,rfl,xs,hp,z,he,q⟩:=h
 refine hG ?_
 cases ro
 refine hide λgG hG=>?_
 obtain⟨t,rfl⟩:=ri
 obtain⟨its,r,pl,hz⟩:=I.list (bT hp)
 obtain⟨j,h1,h2,h3,h4,h5⟩:=pC he
 obtain⟨w,ew,Hr⟩:=r.get h2
 refine hG ?_
 have hl:=r.length
 have hn:=md
 have fin:EP X pins σ Q w s:=⟨z,H,I,Hr,q⟩
 by_cases h0:0<=i
 ·have hj:i.toNat=j:=by
   rw[seqIndex_of h0 h5]at h1
   exact de h1
  exact wpAny_getItem_list pl.isList h0 (by lia) (by rw[hj];simpa using ew) fin
 ·have hj:(i+(its.toArray.size:Int)).toNat=j:=by
   rw[seqIndex_neg (by lia) h4]at h1
   rw[cg,<-hl]
   exact de h1
  exact wpAny_getItem_list_neg pl.isList (by lia) (by rw[cg] <;> lia) (by lia) (by rw[hj];simpa using ew) fin
end
end L2
namespace L2
open PySem PySem.Spec PyProof.Rows
def jX:Expr->Option Str
 | .Constant (.str x) _ _=>some x
 | _=>none
def yp(es:List Expr):List Str:=es.filterMap jX
def Dp(es:List Expr):TA:=λ_ H Q=>Q ((yp es).map V.str) H
theorem J5{e:Expr}(h:(jX e).isSome=true):∃x j p,e=.Constant (.str x) j p:=by
 cases e with
 | Constant v j p=>
  cases v with
  | str x=>exact⟨x,j,p,rfl⟩
  | _=>exact Bool.noConfusion h
 | _=>exact Bool.noConfusion h
theorem xK{α:Type}{C:List α->Prop}(h:∀a,C [a]):∀us:List α,us.length=1->C us
 | [a],_=>h a
theorem of2{α:Type}{C:List α->Prop}(h:∀a b,C [a,b]):∀us:List α,us.length=2->C us
 | [a,b],_=>h a b
theorem Ra{α:Type}{C:List α->Prop}(h:∀a b c,C [a,b,c]):∀us:List α,us.length=3->C us
 | [a,b,c],_=>h a b c
theorem z5{X:Cx}:∀{es:List Expr},(es.all λe=>(jX e).isSome)=true->PA X es (Dp es)
 | [],_=>λpos pins s σ H Q I h=>Fc pos pins s σ H Q I h
 | e::es,h=>by
  rw[nR,cX]at h
  have ih:=z5 (X:=X) h.2
  refine hide λgG hG=>?_
  obtain⟨x,j,p,rfl⟩:=J5 h.1
  refine hG ?_
  have c:=vj (X:=X) (e:=.Constant (.str x) j p) (te:=tC (.str x)) Ex ih rfl
  exact λpos pins s σ H Q I q=>c pos pins s σ H Q I q
structure HC(X:Cx)(N:List Str)(sc:Scope):Prop where
 n:X.N=N
 s:X.env.scope=sc
def TK(N:List Str)(sc:Scope)(i:Nat)(x:Str):Bool:=
 N[i]? == some x&&(sc.names.lookup x==some .local||sc.names.lookup x==some .cell||sc.names.lookup x==some .free) && !(x==("__debug__" : Str)) && !(x==("__classdict__" : Str))
def Ng(N:List Str)(sc:Scope)(i:Nat)(x:Str):Bool:=N[i]? == some x&&(sc.names.lookup x==some .local||sc.names.lookup x==some .cell)
def yL(N:List Str)(sc:Scope)(i:Nat)(x:Str):Bool:=N[i]? == some x&&sc.names.lookup x==some .local
def X9(sc:Scope)(x:Str):Bool:=sc.names.lookup x==some .globalImplicit
section
variable {X:Cx}{N:List Str}{sc:Scope}{x:Str}{pos:Pos}
theorem pvk(hc:HC X N sc)(i:Nat)(h:TK N sc i x=true):PE X (.Name x pos) (rm i):=by
 unfold TK at h
 simp only[cX,uB,beq_iff_eq,vR]at h
 obtain⟨⟨⟨h1,h2⟩,h3⟩,h4⟩:=h
 refine Ew (by rw[hc.n];exact h1) ?_ h3 h4
 unfold QK
 rw[hc.s]
 rcases h2 with (h2 | h2) | h2
 ·exact .inl h2
 ·exact .inr (.inl h2)
 ·exact .inr (.inr h2)
theorem bz(hc:HC X N sc)(h:X9 sc x=true:=by decide +kernel):Gl X x:=by
 show X.env.scope.names.lookup x=some .globalImplicit
 rw[hc.s];simpa [X9]using h
theorem pw(hc:HC X N sc){i:Nat}(h:Ng N sc i x=true):X.N[i]?=some x/\Loc X.env.scope x:=by
 unfold Ng at h
 simp only[cX,uB,beq_iff_eq]at h
 refine⟨by rw[hc.n];exact h.1,?_⟩
 unfold Loc;rw[hc.s];exact h.2
theorem gM(hc:HC X N sc){i:Nat}(h:yL N sc i x=true):X.N[i]?=some x/\X.env.scope.names.lookup x=some .local:=by
 unfold yL at h
 simp only[cX,beq_iff_eq]at h
 exact⟨by rw[hc.n];exact h.1,by rw[hc.s];exact h.2⟩
theorem pgk(hc:HC X N sc)(nd:N.Nodup)(hf:∀x,X.fn x=true)(i:Nat)(h:Ng N sc i x=true):PG X (.Name x pos) (cU i):=
 zZ (by rw[hc.n];exact nd) (pw hc h).1 (pw hc h).2 (.inl (hf x))
theorem pgb(hc:HC X N sc)(nd:N.Nodup)(i:Nat)(h:yL N sc i x=true):PG X (.Name x pos) (cU i):=
 zZ (by rw[hc.n];exact nd) (gM hc h).1 (.inl (gM hc h).2) (.inr (gM hc h).2)
theorem zU{e:Expr}{te:TE}{pos':Pos}(hc:HC X N sc)(nd:N.Nodup)(hf:∀x,X.fn x=true)(i:Nat)(h:Ng N sc i x=true)(he:PE X e te)(hs:swapsWith e (some (.Name x pos')) pos.line X.env=pure false:=by rfl) :
  PS X (.Assign [.Name x pos'] e pos) (u6 te (cU i)):=
 KD (by rw[hc.n];exact nd) (pw hc h).1 (pw hc h).2 he hs (.inl (hf x))
end
def cq(scope iO:Scope):Scope:=
 { scope with names:=scope.names.map λ(n,k)=>if (k == .free&&iO.kind == .function&&iO.names.lookup n==some .cell) then (n,.cell) else (n,k) }
theorem wo{scope iO:Scope}{env:Env}(h:env.scope=iO):relabel scope env=cq scope iO:=by
 subst h;rfl
theorem iW{X:Cx}{N:List Str}{iO scope:Scope}{xs:List Str}{idx:List Nat}(hc:HC X N iO)(c:CB):HC (jI X scope (xs++bK X.N idx) c) (xs++bK N idx) (cq scope iO):=
 ⟨by show xs++bK X.N idx=_;rw[hc.n],wo hc.s⟩
section
variable {X:Cx}{N:List Str}{iO:Scope}{elt target iter:Expr}{ifs:List Expr}{scope:Scope}{pos spos py:Pos}{xs:List Str}{idx:List Nat}{wi:TI}{g:CB->TG}{tt:CB->TT}{te:CB->TE}
theorem wC(hc:HC X N iO)(xs:List Str)(idx:List Nat)(FT:X.calm=true)(S:Ck iO N scope idx=true)(hi:PI X target iter wi)
  (hg:∀c,HC (jI X scope (xs++bK X.N idx) c) (xs++bK N idx) (cq scope iO)->PG (jI X scope (xs++bK X.N idx) c) target (g c))
  (ht:∀c,HC (jI X scope (xs++bK X.N idx) c) (xs++bK N idx) (cq scope iO)->vM (jI X scope (xs++bK X.N idx) c) ifs (tt c))
  (he:∀c,HC (jI X scope (xs++bK X.N idx) c) (xs++bK N idx) (cq scope iO)->PE (jI X scope (xs++bK X.N idx) c) elt (te c))
  (hs:∀x,foldedSetIterable iter X.env x=pure x:=by intro _;rfl):PE X (.ListComp elt [⟨target,iter,ifs,0⟩] scope pos) (qo wi xs.length idx g tt te):=
 Ia FT (tT S hc.s hc.n) hi (λc=>hg c (iW hc c)) (λc=>ht c (iW hc c)) (λc=>he c (iW hc c)) hs
theorem wx{y:Str}(hc:HC X N iO)(nd:N.Nodup)(i:Nat)(h:yL N iO i y=true)(xs:List Str)(idx:List Nat)(FT:X.calm=true)(S:Ck iO N scope idx=true)(hi:PI X target iter wi)
  (hg:∀c,HC (jI X scope (xs++bK X.N idx) c) (xs++bK N idx) (cq scope iO)->PG (jI X scope (xs++bK X.N idx) c) target (g c))
  (ht:∀c,HC (jI X scope (xs++bK X.N idx) c) (xs++bK N idx) (cq scope iO)->vM (jI X scope (xs++bK X.N idx) c) ifs (tt c))
  (he:∀c,HC (jI X scope (xs++bK X.N idx) c) (xs++bK N idx) (cq scope iO)->PE (jI X scope (xs++bK X.N idx) c) elt (te c))
  (Vo:swapsWith (.ListComp elt [⟨target,iter,ifs,0⟩] scope pos) (some (.Name y py)) spos.line X.env=pure true)
  (hs:∀x,foldedSetIterable iter X.env x=pure x:=by intro _;rfl):PS X (.Assign [.Name y py] (.ListComp elt [⟨target,iter,ifs,0⟩] scope pos) spos) (u6 (qo wi xs.length idx g tt te) (cU i)):=
 HQ (by rw[hc.n];exact nd) (gM hc h).1 (gM hc h).2 FT (tT S hc.s hc.n) hi (λc=>hg c (iW hc c)) (λc=>ht c (iW hc c)) (λc=>he c (iW hc c)) Vo hs
end
end L2
namespace L2
open PySem PySem.Spec PyProof.Rows
@[irreducible] def rP (X:Cx) (st:List Stmt) (t:TS):Prop:=rj X st t
theorem rP.to{X:Cx}{st:List Stmt}{t:TS}(h:rP X st t):rj X st t:=by unfold rP at h;exact h
theorem rP.of{X:Cx}{st:List Stmt}{t:TS}(h:rj X st t):rP X st t:=by unfold rP;exact h
section
variable {X:Cx}{st:Stmt}{rest:List Stmt}{t u:TS}{pos:Pos}
theorem Hx:rP X [] zH:=.of HJ
theorem Hw(h1:PS X st t):rP X [st] t:=.of (HF h1)
theorem Eh(h1:PS X st t)(h2:rP X rest u):rP X (st::rest) (tSeq t u):=.of (Eo h1 h2.to)
theorem Hy(h1:PS X st t)(h2:rP X rest u):rP X (st::rest) (Ke t u):=.of (HN h1 h2.to)
theorem Oa{c:Expr}{a b:List Stmt}{tc:TT}(hc:PT X c tc)(ha:rP X a t)(hb:rP X b u):PS X (.If c a b pos) (Hf tc t u):=Om hc ha.to hb.to
theorem Ei{c:Expr}{body:List Stmt}{tc:TT}{tb:TS}(hp:PassesOwn (model X.prog X.w) X.A X.env X.xe)(hc:PT X c tc)(hb:rP X body tb):PS X (.While c body [] pos) (yw tc tb):=Ep hp hc hb.to
theorem Ej{tg iter:Expr}{body:List Stmt}{wi:TI}{g:TG}{tb:TS}(hp:PassesOwn (model X.prog X.w) X.A X.env X.xe)(hc:X.calm=true)(hi:PI X tg iter wi)(hg:PG X tg g)(hb:rP X body tb)
  (hs:∀x,foldedSetIterable iter X.env x=pure x:=by intro _;rfl):PS X (.For tg iter body [] pos) (Hh wi g tb):=KJ hp hc hi hg hb.to hs
end
theorem jM.okK{P:Program}{w:World}{K:PySem.W.Frag}{mg:Str->Option Value}{base:Heap}{x qual:Str}{st:Stmt}{f:Addr}{fd:FuncData}{N ps:List Str}{k:Nat}{sp:Sp}(F:jM K x qual st f fd)(S:bp N ps (aq st))(len:∀vs H Q E,sp vs H Q E->vs.length=ps.length)
  (nk:∀(cI:Value) (A:Around) (outer:List Env) (s:Shared) (H:Hp) (vs:List V) (Q:VK) (E:XK),fH k (A.deeper (envOfC qual (aq st) s.heap.objs.size f cI))->sp vs H Q E->
   HC (iY jN P w K mg base N qual (aq st) f cI A outer s H E).GC N (aq st)->(∀x,(iY jN P w K mg base N qual (aq st) f cI A outer s H E).GC.fn x=true)->
   ∃t,rP (iY jN P w K mg base N qual (aq st) f cI A outer s H E).GC (aZ st) t/\t { nx:=λ_ H'=>Q .non H',rt:=Q } (start N vs) H):cK P w K mg base jN (k+1) f fd ps sp:=
 F.ok S len λcI A outer s H vs Q E hr h=>let ⟨t,h1,h2⟩:=nk cI A outer s H vs Q E hr h ⟨rfl,rfl⟩ λ_=>rfl;⟨t,h1.to,h2⟩
end L2
namespace L2
open PySem PySem.Spec PyProof.Rows
def qW(J:It)(g:TG)(tb:TS)(D:Ends)(σ:St)(H:Hp):Prop:=∃W:Nat->Nat->St->Hp->Prop,(∃m,W 0 m σ H)/\∀i m σ H,W i m σ H->
 (J.stop i H/\D.nx σ H)\/(J.go i H/\∃N:St->Hp->Prop,(∀σ' H',N σ' H'->∃m',m'<m/\W (i+1) m' σ' H')/\∀x H',J.CJ i H x H'->g x σ H' λσ2 H2=>tb { D with nx:=N,ct:=N,bk:=D.nx } σ2 H2)
theorem Hg{wi:TI}{g:TG}{tb:TS}{D:Ends}{σ:St}{H:Hp}:Hh wi g tb D σ H=wi σ H (λJ H1=>qW J g tb D σ H1):=rfl
def iE(J:It)(k:Nat)(idx:List Nat)(g:CB->TG)(tt:CB->TT)(te:CB->TE)(σ:St)(Q:VK)(H1:Hp):Prop:=∀D,H1 D=none->∃W:Nat->Nat->List V->Hp->Prop,(∃m,W 0 m [] (upd H1 D (.lst [])))/\
 ∀i m ys H',W i m ys H'->(J.stop i H'/\Q (.ref D) H')\/(J.go i H'/\∃N:List V->Hp->Prop,(∀mQ qU,N mQ qU->∃m',m'<m/\W (i+1) m' mQ qU)/\∀(c:CB) (own:St),own.length=k->∀x H2,J.CJ i H' x H2->g c x (own++bR σ idx) H2 λσ3 H3=>
  (∃cT,cT.length=k/\σ3=cT++bR σ idx)/\tt c σ3 H3 λb H4=>if b=true then te c σ3 H4 λy H5=>H5 D=some (.lst ys)/\ys.length<sizeLine/\N (ys++[y]) (upd H5 D (.lst (ys++[y]))) else N ys H4)
theorem Dv{wi:TI}{k:Nat}{idx:List Nat}{g:CB->TG}{tt:CB->TT}{te:CB->TE}{σ:St}{H:Hp}{Q:VK}:qo wi k idx g tt te σ H Q=wi σ H (λJ H1=>iE J k idx g tt te σ Q H1):=rfl
theorem d8{lo:Int}{n:Nat}{g:TG}{tb:TS}{D:Ends}{σ:St}{H:Hp}(Pv:Nat->St->Hp->Prop)(h0:Pv 0 σ H)
  (hs:∀i σ H,i<n->Pv i σ H->g (.int (lo+i)) σ H λσ2 H2=>tb { D with nx:=Pv (i+1),ct:=Pv (i+1),bk:=D.nx } σ2 H2) (hd:∀σ H,Pv n σ H->D.nx σ H):qW (xO lo n) g tb D σ H:=Ci Pv h0 hs hd
theorem jj{K:PySem.W.Frag}{a:Addr}{xs:List V}{g:TG}{tb:TS}{D:Ends}{σ:St}{H:Hp}(Pv:Nat->St->Hp->Prop)(h0:Pv 0 σ H)(hl:∀i σ H,i<=xs.length->Pv i σ H->H a=some (.tup xs))
  (hs:∀i x σ H,xs[i]?=some x->Pv i σ H->g x σ H λσ2 H2=>tb { D with nx:=Pv (i+1),ct:=Pv (i+1),bk:=D.nx } σ2 H2) (hd:∀σ H,Pv xs.length σ H->D.nx σ H):qW (M8 K a) g tb D σ H:=
 Je Pv h0 (λi σ H hi p=>cB (hl i σ H hi p)) hs hd
theorem iw{lo:Int}{n:Nat}{idx:List Nat}{tt:CB->TT}{te:CB->TE}{σ:St}{Q:VK}{H1:Hp}(Pv:Addr->Nat->List V->Hp->Prop)(h0:∀D,H1 D=none->Pv D 0 [] (upd H1 D (.lst [])))
  (hs:∀D,H1 D=none->∀i ys H,i<n->Pv D i ys H->∀(c:CB),tt c (some (.int (lo+i))::bR σ idx) H λb H4=>if b=true then te c (some (.int (lo+i))::bR σ idx) H4 λy H5=>H5 D=some (.lst ys)/\ys.length<sizeLine/\Pv D (i+1) (ys++[y]) (upd H5 D (.lst (ys++[y]))) else Pv D (i+1) ys H4)
  (hd:∀D,H1 D=none->∀ys H,Pv D n ys H->Q (.ref D) H):iE (xO lo n) 1 idx (λ_=>cU 0) tt te σ Q H1:=
 λD hD=>xh (Pv D) (h0 D hD) (hs D hD) (hd D hD)
theorem jq{K:PySem.W.Frag}{a:Addr}{zs:List V}{idx:List Nat}{tt:CB->TT}{te:CB->TE}{σ:St}{Q:VK}{H1:Hp}(Pv:Addr->Nat->List V->Hp->Prop)(h0:∀D,H1 D=none->Pv D 0 [] (upd H1 D (.lst [])))
  (hl:∀D,H1 D=none->∀i ys H,i<=zs.length->Pv D i ys H->H a=some (.lst zs))
  (hs:∀D,H1 D=none->∀i x ys H,zs[i]?=some x->Pv D i ys H->∀(c:CB),tt c (some x::bR σ idx) H λb H4=>if b=true then te c (some x::bR σ idx) H4 λy H5=>H5 D=some (.lst ys)/\ys.length<sizeLine/\Pv D (i+1) (ys++[y]) (upd H5 D (.lst (ys++[y]))) else Pv D (i+1) ys H4)
  (hd:∀D,H1 D=none->∀ys H,Pv D zs.length ys H->Q (.ref D) H):iE (Gv K a) 1 idx (λ_=>cU 0) tt te σ Q H1:=
 λD hD=>zb (Pv D) (h0 D hD) (λi ys H hi p=>bT (hl D hD i ys H hi p)) (hs D hD) (hd D hD)
end L2
namespace L2
open PySem PySem.Spec PyProof.Rows
def qm(ss:List Str):TA:=λ_ H Q=>Q (List.map V.str ss) H
theorem qi:∀{es:List Expr} {ss:List Str},(es.map jX==ss.map some)=true->(es.all λe=>(jX e).isSome)=true/\yp es=ss
 | [],[],_=>⟨rfl,rfl⟩
 | [],_::_,h=>by cases h
 | _::_,[],h=>by cases h
 | e::es,x::ss,h=>by
  have h':(jX e==some x&&(es.map jX==ss.map some))=true:=h
  rw[cX]at h'
  have e1:jX e=some x:=by simpa using h'.1
  have ih:=qi h'.2
  refine⟨by rw[nR,e1,ih.1];rfl,?_⟩
  show(e::es).filterMap jX=_
  rw[uP,e1]
  show x::yp es=_
  rw[ih.2]
theorem Fb{X:Cx}{es:List Expr}(ss:List Str)(h:(es.map jX==ss.map some)=true):PA X es (qm ss):=by
 have c:=z5 (X:=X) (qi h).1
 rw[show Dp es=qm ss by unfold Dp qm;rw[(qi h).2]]at c
 exact c
structure ZE(X:Cx)(e:Expr)(t:TE):Prop where
 to:PE X e t
structure ZT(X:Cx)(e:Expr)(t:TT):Prop where
 to:PT X e t
structure ZW(X:Cx)(e:Expr)(t:TT):Prop where
 to:PW X e t
structure ZA(X:Cx)(e:List Expr)(t:TA):Prop where
 to:PA X e t
structure ZS(X:Cx)(e:Stmt)(t:TS):Prop where
 to:PS X e t
structure Ax(X:Cx)(e:List Stmt)(t:TS):Prop where
 to:rj X e t
structure ZG(X:Cx)(e:Expr)(t:TG):Prop where
 to:PG X e t
structure RM(X:Cx)(e:List Expr)(t:GX):Prop where
 to:QL X e t
structure Jj(X:Cx)(e:List Expr)(t:TT):Prop where
 to:vM X e t
structure ZO(X:Cx)(e:Option Expr)(t:TO):Prop where
 to:PO X e t
structure ZI(X:Cx)(tg iter:Expr)(t:TI):Prop where
 to:PI X tg iter t
theorem fX{X:Cx}{b:Bool}{j:Nat}{pos:Pos}:ZE X (Expr.Constant (Const.bool b) j pos) (tC (V.bl b)):=⟨Ou⟩
theorem ah{X:Cx}{i:Int}{j:Nat}{pos:Pos}:ZE X (Expr.Constant (Const.int i) j pos) (tC (V.int i)):=⟨K1⟩
theorem aE{X:Cx}{x:Str}{j:Nat}{pos:Pos}:ZE X (Expr.Constant (Const.str x) j pos) (tC (V.str x)):=⟨Ex⟩
theorem zA{X:Cx}{j:Nat}{pos:Pos}:ZE X (Expr.Constant Const.none j pos) (tC V.non):=⟨KZ⟩
theorem aj{X:Cx}{N:List Str}{sc:Scope}{x:Str}{pos:Pos}(h1:HC X N sc)(i:Nat)(h2:TK N sc i x=true:=by decide +kernel):ZE X (Expr.Name x pos) (rm i):=⟨pvk h1 i h2⟩
theorem eV{X:Cx}{x:Str}{v:V}{u:Value}{pos:Pos}(h1:Gl X x)(h2:Cx.mg X x=none)(h3:bootBuiltins x=some u)(h4:RelV v u)(h5:autoParam (x≠Str.ofString "__name__") vi._auto_1)(h6:autoParam ((x==Str.ofString "__debug__")=false) vi._auto_2):ZE X (Expr.Name x pos) (tC v):=⟨vi h1 h2 h3 h4 h5 h6⟩
theorem bx{X:Cx}{es:List Expr}{t:TA}{pos:Pos}(h1:ZA X es t):ZE X (Expr.List es pos) (Kd t):=⟨K0 h1.to⟩
theorem bL{X:Cx}{es:List Expr}{t:TA}{pos:Pos}{x1:Nat}(h1:ZA X es t):ZE X (Expr.Tuple es x1 pos) (J9 t):=⟨KS h1.to⟩
theorem Bc{X:Cx}{pos:Pos}:ZE X (Expr.Dict [] [] pos) yx:=⟨Ez⟩
theorem aA{X:Cx}{a b:Expr}{ta tb:TE}{pos:Pos}{op:Operator}{r:R2}(h1:iN X (binaryOp op) r)(h2:ZE X a ta)(h3:ZE X b tb):ZE X (Expr.BinOp a op b pos) (Dt r ta tb):=⟨Oq h1 h2.to h3.to⟩
theorem sq{X:Cx}{a b c:Expr}{ta tb tc:TE}{pos:Pos}{op op':CmpOp}{r r':R2}(h1:iN X (compareOp op) r)(h2:iN X (compareOp op') r')(h3:ZE X a ta)(h4:ZE X b tb)(h5:ZE X c tc)(h6:autoParam (lastMarks [op,op'] [b,c]=false) wD._auto_1):ZE X (Expr.Compare a [op,op'] [b,c] pos) (qp r r' ta tb tc):=⟨wD h1 h2 h3.to h4.to h5.to h6⟩
theorem p7{X:Cx}{a b:Expr}{ta tb:TE}{pos:Pos}{op:CmpOp}{r:R2}(h1:iN X (compareOp op) r)(h2:ZE X a ta)(h3:ZE X b tb)(h4:behindInMarks op b=false):ZE X (Expr.Compare a [op] [b] pos) (Dt r ta tb):=⟨Ib h1 h2.to h3.to h4⟩
theorem mP{X:Cx}{a:Expr}{pos:Pos}{op:BoolOp}{t:TE}(h1:ZE X a t):ZE X (Expr.BoolOp op [a] pos) t:=⟨KY h1.to⟩
theorem kW{X:Cx}{a b:Expr}{ta tb:TE}{pos:Pos}{rest:List Expr}(h1:ZE X a ta)(h2:ZE X (Expr.BoolOp BoolOp.And (b::rest) pos) tb):ZE X (Expr.BoolOp BoolOp.And (a::b::rest) pos) (Dx ta tb):=⟨K3 h1.to h2.to⟩
theorem aY{X:Cx}:ZO X none u5:=⟨HS⟩
theorem aX{X:Cx}{e:Expr}{te:TE}(h1:ZE X e te):ZO X (some e) (Dq te):=⟨HR h1.to⟩
theorem aQ{X:Cx}{e:Expr}{te:TE}{lo hi:Option Expr}{tl th:TO}{pos p2:Pos}{r:V->Option Int->Option Int->Hp->VK->Prop}(h1:GZ X r)(h2:ZE X e te)(h3:ZO X lo tl)(h4:ZO X hi th):ZE X (Expr.Subscript e (Expr.Slice lo hi none p2) pos) (RX r te tl th):=⟨Ey h1 h2.to h3.to h4.to⟩
theorem aP{X:Cx}{a b:Expr}{ta tb:TE}{pos:Pos}{r:R2}(h1:Gu X r)(h2:ZE X a ta)(h3:ZE X b tb)(h4:Ay b):ZE X (Expr.Subscript a b pos) (Dt r ta tb):=⟨Ot h1 h2.to h3.to h4⟩
theorem cV{X : Cx}{N : List Str}{iO : Scope}{elt target iter : Expr}{ifs : List Expr}{scope : Scope}{pos : Pos}{wi : TI}{g : CB → TG}{tt : CB → TT}{te : CB → TE}(h1 : HC X N iO)(xs : List Str)(idx : List Nat)(h2 : Cx.calm X=true)(h3 : Ck iO N scope idx=true)(h4 : ZI X target iter wi)(h5 : (∀ (c : CB),
                HC (jI X scope (xs++bK (Cx.N X) idx) c) (xs++bK N idx) (cq scope iO) →
                  ZG (jI X scope (xs++bK (Cx.N X) idx) c) target (g c))) (h6 : (∀ (c : CB),
                  HC (jI X scope (xs++bK (Cx.N X) idx) c) (xs++bK N idx) (cq scope iO) →
                    Jj (jI X scope (xs++bK (Cx.N X) idx) c) ifs (tt c))) (h7 : (∀ (c : CB),
                    HC (jI X scope (xs++bK (Cx.N X) idx) c) (xs++bK N idx) (cq scope iO) →
                      ZE (jI X scope (xs++bK (Cx.N X) idx) c) elt (te c))) (h8 : autoParam (∀ (x : Value), foldedSetIterable iter (Cx.env X) x=pure x) wC._auto_1) : ZE X (Expr.ListComp elt [{ target := target, iter := iter, ifs := ifs, is_async := 0 }] scope pos)
                      (qo wi (List.length xs) idx g tt te) := ⟨wC h1 xs idx h2 h3 h4.to (λc z => (h5 c z).to) (λc z => (h6 c z).to) (λc z => (h7 c z).to) h8⟩
theorem nU{X:Cx}{es:List Expr}(ss:List Str)(h1:(List.map jX es==List.map some ss)=true):ZA X es (qm ss):=⟨Fb ss h1⟩
theorem ag{X:Cx}:ZA X [] He:=⟨Fc⟩
theorem ae{X:Cx}{e:Expr}{es:List Expr}{te:TE}{t:TA}(h1:ZE X e te)(h2:ZA X es t)(h3:autoParam (starEach (e::es) (Cx.env X)=(false,eval e (Cx.env X))::starEach es (Cx.env X)) vj._auto_1):ZA X (e::es) (wc te t):=⟨vj h1.to h2.to h3⟩
theorem G3{X : Cx}{pos : Pos}{es : List Expr}{k : Nat}{t : GX}{n : Nat}(h1 : Cx.calm X=true)(h2 : RM X es t)(h3 : autoParam (List.length (assignEach es (Cx.env X))=n) yJ._auto_1)(h4 : autoParam (List.findIdx? (λ(x : Bool × (Value → Sem Unit)) => Prod.fst x) (assignEach es (Cx.env X))=none)
            yJ._auto_2) : ZG X (Expr.Tuple es k pos) (P1 (Cx.K X) n t) := ⟨yJ h1 h2.to h3 h4⟩
theorem pZ{X:Cx}{N:List Str}{sc:Scope}{x:Str}{pos:Pos}(h1:HC X N sc)(h2:List.Nodup N)(i:Nat)(h3:yL N sc i x=true):ZG X (Expr.Name x pos) (cU i):=⟨pgb h1 h2 i h3⟩
theorem dz{X:Cx}:Jj X [] Bg:=⟨Es⟩
theorem sk{X:Cx}{e:Expr}{t:TT}(h1:ZT X e t):Jj X [e] t:=⟨Er h1.to⟩
theorem Df{X:Cx}:RM X [] Mr:=⟨HX⟩
theorem sm{X : Cx}{e : Expr}{es : List Expr}{t : TG}{u : GX}(h1 : ZG X e t)(h2 : RM X es u)(h3 : autoParam
          (List.map (λ(x : Bool × (Value → Sem Unit)) => Prod.snd x) (assignEach (e::es) (Cx.env X)) =
            assign e (Cx.env X) ::
              List.map (λ(x : Bool × (Value → Sem Unit)) => Prod.snd x) (assignEach es (Cx.env X)))
          wA._auto_1) : RM X (e::es) (FW t u) := ⟨wA h1.to h2.to h3⟩
theorem bQ{X:Cx}{tg a:Expr}{ta:TA}{p pos:Pos}(h1:Gl X (Str.ofString "range"))(h2:Cx.mg X (Str.ofString "range")=none)(h3:ZA X [a] ta)(h4:autoParam (starEach [a] (Cx.env X)=[(false,eval a (Cx.env X))]) tq._auto_1):ZI X tg (Expr.Call (Expr.Name (Str.ofString "range") p) [a] [] pos) (Fz ta):=⟨tq h1 h2 h3.to h4⟩
theorem mO{X:Cx}{tg l:Expr}{tl:TE}(h1:ZE X l tl):ZI X tg l (FG (Cx.K X) tl):=⟨HW h1.to⟩
theorem ph{X:Cx}{tg l:Expr}{tl:TE}(h1:ZE X l tl):ZI X tg l (LR (Cx.K X) tl):=⟨KQ h1.to⟩
theorem Ba{X:Cx}{a b c:Expr}{ta tb tc:TE}{pos:Pos}{op op':CmpOp}{r r':R2}(h1:iN X (compareOp op) r)(h2:iN X (compareOp op') r')(h3:ZE X a ta)(h4:ZE X b tb)(h5:ZE X c tc)(h6:autoParam (lastMarks [op,op'] [b,c]=false) wu._auto_1):ZT X (Expr.Compare a [op,op'] [b,c] pos) (sY (qp r r' ta tb tc)):=⟨wu h1 h2 h3.to h4.to h5.to h6⟩
theorem aB{X:Cx}{a b:Expr}{ta tb:TE}{pos:Pos}{op:CmpOp}{r:R2}(h1:iN X (compareOp op) r)(h2:ZE X a ta)(h3:ZE X b tb)(h4:behindInMarks op b=false):ZT X (Expr.Compare a [op] [b] pos) (sY (Dt r ta tb)):=⟨HD h1 h2.to h3.to h4⟩
theorem fJ{X:Cx}{a:Expr}{pos:Pos}{tA:TT}(h1:ZT X a tA):ZT X (Expr.UnaryOp UnaryOp.Not a pos) (Kb tA):=⟨Kz h1.to⟩
theorem iU{X:Cx}{e:Expr}{t:TT}(h1:ZW X e t):ZT X e t:=⟨PW.pt h1.to⟩
theorem cY{X:Cx}{e:Expr}{t:TE}(h1:ZE X e t)(h2:autoParam
    (∀(whole:Sem Value),
     PySem.isTrue e (Cx.env X) whole=do
      let v <-whole
      standAt (Expr.pos e)
      holding [v] (truthy v))
    En._auto_1):ZT X e (tB t):=⟨En h1.to h2⟩
theorem vZ{X:Cx}{a:Expr}{pos:Pos}{tA:TT}(h1:ZT X a tA):ZW X (Expr.BoolOp BoolOp.And [a] pos) tA:=⟨HB h1.to⟩
theorem eU{X:Cx}{a:Expr}{pos:Pos}{tA:TT}(h1:ZT X a tA):ZW X (Expr.BoolOp BoolOp.Or [a] pos) tA:=⟨Kx h1.to⟩
theorem zx{X:Cx}{a b:Expr}{pos:Pos}{tA Gx:TT}{rest:List Expr}(h1:ZT X a tA)(h2:ZW X (Expr.BoolOp BoolOp.And (b::rest) pos) Gx):ZW X (Expr.BoolOp BoolOp.And (a::b::rest) pos) (Kf tA Gx):=⟨Ky h1.to h2.to⟩
theorem fA{X:Cx}{a b:Expr}{pos:Pos}{tA Gx:TT}{rest:List Expr}(h1:ZT X a tA)(h2:ZW X (Expr.BoolOp BoolOp.Or (b::rest) pos) Gx):ZW X (Expr.BoolOp BoolOp.Or (a::b::rest) pos) (R0 tA Gx):=⟨Ol h1.to h2.to⟩
theorem ay{X : Cx}{CX : CG}{k : Nat}{f : Addr}{fd : FuncData}{ps : List Str}{sp : Sp}{Gd : List V}{ds : List Value}{E : XK}{x : Str}{p pos : Pos}{e : Expr}{es : List Expr}{t : TA}(h1 : cK (Cx.prog X) (Cx.w X) (Cx.K X) (Cx.mg X) (Cx.base X) CX k f fd ps sp)(h2 : fH k (Cx.A X))(h3 : Gl X x)(h4 : Cx.mg X x=some (Value.ref f))(h5 : W.keepIn (Cx.K X) (Value.ref f)=true)(h6 : Binds (Cx.K X) fd ps ds)(h7 : Vals Gd ds)(h8 : Passes CX X E)(h9 : ZA X (e::es) t)(P0 : autoParam ((x==Str.ofString "__debug__")=false) pk._auto_1)(PX : autoParam (starEach (e::es) (Cx.env X)=(false, eval e (Cx.env X))::starEach es (Cx.env X))
                          pk._auto_2) (h12 : autoParam
                            ((List.any (backTo pos (starEach es (Cx.env X))) λ(x : Bool × Sem Value) => Prod.fst x) =
                              false)
                            pk._auto_3) : ZE X (Expr.Call (Expr.Name x p) (e::es) [] pos) (zJ sp Gd E t) := ⟨pk h1 h2 h3 h4 h5 h6 h7 h8 h9.to P0 PX h12⟩
theorem lY{X : Cx}{x : Str}{p pos : Pos}{e : Expr}{es : List Expr}{t : TA}{T : String}{r : List V → Hp → VK → Prop}(h1 : cv X (Value.type T) r)(h2 : Gl X x)(h3 : Cx.mg X x=none)(h4 : bootBuiltins x=some (Value.type T))(h5 : ZA X (e::es) t)(h6 : autoParam (x ≠ Str.ofString "__name__") iV._auto_1)(h7 : autoParam ((x==Str.ofString "__debug__")=false) iV._auto_2)(h8 : autoParam (starEach (e::es) (Cx.env X)=(false, eval e (Cx.env X))::starEach es (Cx.env X))
                    iV._auto_3) (h9 : autoParam
                      ((List.any (backTo pos (starEach es (Cx.env X))) λ(x : Bool × Sem Value) => Prod.fst x) =
                        false)
                      iV._auto_4) : ZE X (Expr.Call (Expr.Name x p) (e::es) [] pos) (NT r t) := ⟨iV h1 h2 h3 h4 h5.to h6 h7 h8 h9⟩
theorem aJ{X : Cx}{x : Str}{p pos : Pos}{e : Expr}{es : List Expr}{t : TA}{id : String}{r : List V → Hp → VK → Prop}(h1 : cv X (Value.builtin id) r)(h2 : Gl X x)(h3 : Cx.mg X x=none)(h4 : bootBuiltins x=some (Value.builtin id))(h5 : ZA X (e::es) t)(h6 : autoParam (x ≠ Str.ofString "__name__") j3._auto_1)(h7 : autoParam ((x==Str.ofString "__debug__")=false) j3._auto_2)(h8 : autoParam (starEach (e::es) (Cx.env X)=(false, eval e (Cx.env X))::starEach es (Cx.env X))
                    j3._auto_3) (h9 : autoParam
                      ((List.any (backTo pos (starEach es (Cx.env X))) λ(x : Bool × Sem Value) => Prod.fst x) =
                        false)
                      j3._auto_4) : ZE X (Expr.Call (Expr.Name x p) (e::es) [] pos) (NT r t) := ⟨j3 h1 h2 h3 h4 h5.to h6 h7 h8 h9⟩
theorem dM{X : Cx}{o e : Expr}{es : List Expr}{to : TE}{t : TA}{name : Str}{apos dc : Pos}{T id : String}{r : V → List V → Hp → VK → Prop}(h1 : PlainAttrs T)(h2 : Slot T name id)(h3 : typeOf (Value.builtin id)=pure (Value.type "method_descriptor"))(h4 : JW X id r)(h5 : ZE X o to)(h6 : ZA X (e::es) t)(h7 : autoParam (attributeBase o name (Cx.env X) (eval o (Cx.env X))=eval o (Cx.env X)) tu._auto_1)(h8 : autoParam
                    ((((List.all (backTo dc (starEach (e::es) (Cx.env X))) λ(x : Bool × Sem Value) =>
                            !Prod.fst x) &&
                          List.all (backToKw dc (keywordEach [] (Cx.env X))) λ(x : Option Str × Sem Value) =>
                            Option.isSome (Prod.fst x)) &&
                        decide
                          ((List.length (e::es)+List.length ([] : List Keyword)+if List.isEmpty ([] : List Keyword)=true then 0 else 1)<30)) =
                      true)
                    tu._auto_2) (h9 : autoParam ((Pos.endLine apos==Pos.line dc)=true) tu._auto_3) (P0 : autoParam (starEach (e::es) (Cx.env X)=(false, eval e (Cx.env X))::starEach es (Cx.env X))
                        tu._auto_4) (PX : autoParam
                          ((List.any (backTo dc (starEach es (Cx.env X))) λ(x : Bool × Sem Value) => Prod.fst x) =
                            false)
                          tu._auto_5) : ZE X (Expr.Call (Expr.Attribute o name apos) (e::es) [] dc) (R3 (Cx.K X) T r to t) := ⟨tu h1 h2 h3 h4 h5.to h6.to h7 h8 h9 P0 PX⟩
theorem aC{X:Cx}{e:Expr}{te:TE}{pos:Pos}(h1:ZE X e te):ZS X (Stmt.Return (some e) pos) (Ka te):=⟨KH h1.to⟩
theorem dR{X:Cx}{e:Expr}{te:TE}{pos:Pos}(h1:ZE X e te)(h2:autoParam (swapsWith e none (Pos.line pos) (Cx.env X)=pure false) zV._auto_1):ZS X (Stmt.Expr e pos) (Du te):=⟨zV h1.to h2⟩
theorem Bb{X : Cx}{N : List Str}{iO : Scope}{elt target iter : Expr}{ifs : List Expr}{scope : Scope}{pos spos py : Pos}{wi : TI}{g : CB → TG}{tt : CB → TT}{te : CB → TE}{y : Str}(h1 : HC X N iO)(h2 : List.Nodup N)(i : Nat)(h3 : yL N iO i y=true)(xs : List Str)(idx : List Nat)(h4 : Cx.calm X=true)(h5 : Ck iO N scope idx=true)(h6 : ZI X target iter wi)(h7 : (∀ (c : CB),
                      HC (jI X scope (xs++bK (Cx.N X) idx) c) (xs++bK N idx) (cq scope iO) →
                        ZG (jI X scope (xs++bK (Cx.N X) idx) c) target (g c))) (h8 : (∀ (c : CB),
                        HC (jI X scope (xs++bK (Cx.N X) idx) c) (xs++bK N idx) (cq scope iO) →
                          Jj (jI X scope (xs++bK (Cx.N X) idx) c) ifs (tt c))) (h9 : (∀ (c : CB),
                          HC (jI X scope (xs++bK (Cx.N X) idx) c) (xs++bK N idx) (cq scope iO) →
                            ZE (jI X scope (xs++bK (Cx.N X) idx) c) elt (te c))) (P0 : swapsWith
                              (Expr.ListComp elt [{ target := target, iter := iter, ifs := ifs, is_async := 0 }] scope
                                pos)
                              (some (Expr.Name y py)) (Pos.line spos) (Cx.env X) =
                            pure true) (PX : autoParam (∀ (x : Value), foldedSetIterable iter (Cx.env X) x=pure x) wx._auto_1) : ZS X
                              (Stmt.Assign [Expr.Name y py]
                                (Expr.ListComp elt [{ target := target, iter := iter, ifs := ifs, is_async := 0 }] scope
                                  pos)
                                spos)
                              (u6 (qo wi (List.length xs) idx g tt te) (cU i)) := ⟨wx h1 h2 i h3 xs idx h4 h5 h6.to (λc z => (h7 c z).to) (λc z => (h8 c z).to) (λc z => (h9 c z).to) P0 PX⟩
theorem az{X:Cx}{N:List Str}{sc:Scope}{x:Str}{pos:Pos}{e:Expr}{te:TE}{pos':Pos}(h1:HC X N sc)(h2:List.Nodup N)(h3:(∀(x:Str),Cx.fn X x=true))(i:Nat)(h4:Ng N sc i x=true)(h5:ZE X e te)(h6:autoParam (swapsWith e (some (Expr.Name x pos')) (Pos.line pos) (Cx.env X)=pure false) zU._auto_1):ZS X (Stmt.Assign [Expr.Name x pos'] e pos) (u6 te (cU i)):=⟨zU h1 h2 h3 i h4 h5.to h6⟩
theorem jc{X : Cx}{pos : Pos}{tg e : Expr}{te : TE}{g : TG}(h1 : ZE X e te)(h2 : ZG X tg g)(h3 : autoParam (swapsWithSole [tg] e (Pos.line pos) (Cx.env X)=pure false) vh._auto_1)(h4 : autoParam (swappedStores [tg] e (Cx.env X)=pure none) vh._auto_2)(h5 : autoParam
              (List.map (λ(x : Bool × (Value → Sem Unit)) => Prod.snd x) (assignEach [tg] (Cx.env X)) =
                [assign tg (Cx.env X)])
              vh._auto_3) : ZS X (Stmt.Assign [tg] e pos) (u6 te g) := ⟨vh h1.to h2.to h3 h4 h5⟩
theorem jd{X : Cx}{pos : Pos}{o i : Expr}{to ti : TE}{t : zp}(h1 : ZE X o to)(h2 : ZE X i ti)(h3 : Cw X t)(h4 : autoParam
            (∀ (v : Value),
              assign (Expr.Subscript o i pos) (Cx.env X) v=do
                let ov ← holding [v] (eval o (Cx.env X))
                let iv ← holding [v, ov] (eval i (Cx.env X))
                standAt pos
                holding [v, ov, iv] (setItem ov iv v)
                release [v, ov, iv] [])
            Eu._auto_1) : ZG X (Expr.Subscript o i pos) (Mq to ti t) := ⟨Eu h1.to h2.to h3 h4⟩
theorem v3{X : Cx}{pos : Pos}{o i e : Expr}{to ti te : TE}{yu : V → V → Hp → VK → Prop}{J6 : Nz}{yt : zp}{op : Operator}{qj : Pos}(h1 : ZE X o to)(h2 : ZE X i ti)(h3 : M5 X yu)(h4 : ZE X e te)(h5 : RP X op J6)(h6 : Cw X yt)(h7 : autoParam
                  (∀ (ov iv new : Value),
                    augStore i ov iv new=do
                      holding [new, ov, iv] (setItem ov iv new)
                      release [new, ov, iv] []
                      pure Flow.next)
                  zW._auto_1) : ZS X (Stmt.AugAssign (Expr.Subscript o i qj) op e pos) (Dw to ti te yu J6 yt) := ⟨zW h1.to h2.to h3 h4.to h5 h6 h7⟩
theorem aS{X:Cx}{t u:TS}{pos:Pos}{c:Expr}{a b:List Stmt}{tc:TT}(h1:ZT X c tc)(h2:Ax X a t)(h3:Ax X b u):ZS X (Stmt.If c a b pos) (Hf tc t u):=⟨Oa h1.to (.of h2.to) (.of h3.to)⟩
theorem Az{X:Cx}{pos:Pos}{c:Expr}{body:List Stmt}{tc:TT}{tb:TS}(h1:PassesOwn (model (Cx.prog X) (Cx.w X)) (Cx.A X) (Cx.env X) (Cx.xe X))(h2:ZT X c tc)(h3:Ax X body tb):ZS X (Stmt.While c body [] pos) (yw tc tb):=⟨Ei h1 h2.to (.of h3.to)⟩
theorem nS{X:Cx}{N:List Str}{sc:Scope}{x:Str}{pos:Pos}(h1:HC X N sc)(h2:List.Nodup N)(h3:(∀(x:Str),Cx.fn X x=true))(i:Nat)(h4:Ng N sc i x=true):ZG X (Expr.Name x pos) (cU i):=⟨pgk h1 h2 h3 i h4⟩
theorem dU{X:Cx}{pos:Pos}{tg iter:Expr}{body:List Stmt}{wi:TI}{g:TG}{tb:TS}(h1:PassesOwn (model (Cx.prog X) (Cx.w X)) (Cx.A X) (Cx.env X) (Cx.xe X))(h2:Cx.calm X=true)(h3:ZI X tg iter wi)(h4:ZG X tg g)(h5:Ax X body tb)(h6:autoParam (∀(x:Value),foldedSetIterable iter (Cx.env X) x=pure x) Ej._auto_1):ZS X (Stmt.For tg iter body [] pos) (Hh wi g tb):=⟨Ej h1 h2 h3.to h4.to (.of h5.to) h6⟩
theorem aD{X:Cx}:Ax X [] zH:=⟨rP.to Hx⟩
theorem ao{X:Cx}{st:Stmt}{t:TS}(h1:ZS X st t):Ax X [st] t:=⟨rP.to (Hw h1.to)⟩
theorem ai{X:Cx}{st:Stmt}{rest:List Stmt}{t u:TS}(h1:ZS X st t)(h2:Ax X rest u):Ax X (st::rest) (tSeq t u):=⟨rP.to (Eh h1.to (.of h2.to))⟩
theorem gI{X:Cx}{st:Stmt}{rest:List Stmt}{t u:TS}(h1:ZS X st t)(h2:Ax X rest u):Ax X (st::rest) (Ke t u):=⟨rP.to (Hy h1.to (.of h2.to))⟩
theorem jM.mF{P:Program}{w:World}{K:PySem.W.Frag}{mg:Str->Option Value}{base:Heap}{x qual:Str}{st:Stmt}{f:Addr}{fd:FuncData}{N ps:List Str}{k:Nat}{sp:Sp}(F:jM K x qual st f fd)(S:bp N ps (aq st))(len:∀vs H Q E,sp vs H Q E->vs.length=ps.length)
  (nk:∀(cI:Value) (A:Around) (outer:List Env) (s:Shared) (H:Hp) (vs:List V) (Q:VK) (E:XK),fH k (A.deeper (envOfC qual (aq st) s.heap.objs.size f cI))->sp vs H Q E->
   HC (iY jN P w K mg base N qual (aq st) f cI A outer s H E).GC N (aq st)->(∀x,(iY jN P w K mg base N qual (aq st) f cI A outer s H E).GC.fn x=true)->
   ∃t,Ax (iY jN P w K mg base N qual (aq st) f cI A outer s H E).GC (aZ st) t/\t { nx:=λ_ H'=>Q .non H',rt:=Q } (start N vs) H):cK P w K mg base jN (k+1) f fd ps sp:=
 F.okK S len λcI A outer s H vs Q E hr h hc hf=>let ⟨t,h1,h2⟩:=nk cI A outer s H vs Q E hr h hc hf;⟨t,.of h1.to,h2⟩
def xu(w:World):Bool:=w.params.followText "set-order"
theorem Ir(t:SetTable)(es:Array (Int×Value))(h:Int)(x:Value):(layNew t es h x).2.1.led=t.led:=by
 unfold layNew
 split
 ·dsimp only;unfold SetTable.orStandIn
  split <;> rfl
 ·rfl
theorem BP(t:SetTable)(es:Array (Int×Value))(h:Int)(x:Value)(e:t.plain=false):(layNew t es h x).2.1.plain=false:=by
 unfold layNew
 split
 ·dsimp only;unfold SetTable.orStandIn
  split
  ·exact e
  ·rfl
 ·rfl
theorem wY{mask finger moves:Nat}{led plain:Bool}{hs:Array Int}{t':SetTable}{o:Array Nat}(h:SetTable.laid mask finger moves led plain hs=some (t',o)):t'.led=led/\t'.plain=plain:=by
 unfold SetTable.laid at h
 cases q:SetTable.layClean mask hs with
 | none=>rw[q]at h;cases h
 | some owner=>rw[q]at h;cases h;exact⟨rfl,rfl⟩
theorem Bq(t:SetTable)(es:Array (Int×Value))(k:Nat):(relayAll t es k).2.1.led=t.led:=by
 unfold relayAll
 split
 ·rename_i t' o q
  dsimp only
  split
  ·exact(wY q).1
  ·rfl
 ·rfl
theorem wm(t:SetTable)(es:Array (Int×Value))(k:Nat)(e:t.plain=false):(relayAll t es k).2.1.plain=false:=by
 unfold relayAll
 split
 ·rename_i t' o q
  dsimp only
  split
  ·show t'.plain=false
   rw[(wY q).2];exact e
  ·rfl
 ·rfl
def rK(w:World)(p:Str×Tok):Int×Value:=(hashStr w p.1,.str p.1 p.2)
def fY(es:Array (Int×Value))(ep:Nat)(t:SetTable):Obj:={ cls:=.type "set",dict:=none,data:=.set es ep t }
structure jL(w:World)(h:Heap)(a:Addr)(l:List (Str×Tok)):Prop where
 ex:∃es ep t,h.get? a=some (fY es ep t)/\es.toList=l.map (rK w)/\t.fits es.size=true/\t.led = !xu w/\(l≠[]->t.plain=false)
 nd:(l.map (·.1)).Nodup
 sz:l.length<scanBound
theorem jL.at{w:World}{h h':Heap}{a:Addr}{l:List (Str×Tok)}(x:jL w h a l)(k:∀o,h.get? a=some o->h'.get? a=some o):jL w h' a l:=
 ⟨let ⟨es,ep,t,e,r⟩:=x.ex;⟨es,ep,t,k _ e,r⟩,x.nd,x.sz⟩
section
variable {P:Program}{w:World}{A:Around}{E:Value->Shared->Prop}{s:Shared}{a:Addr}{l:List (Str×Tok)}
theorem Gb(l:List (Str×Tok)):ElemsOf (PySem.strKind P w) (l.map (rK w)):=by
 intro e he
 obtain⟨p,_,rfl⟩:=ll.mp he
 exact⟨⟨p.1,strKind_is P w _ _,rfl⟩,rfl⟩
theorem FZ(x:Str):∀l:List (Str×Tok),(∀j,(l.map (rK w)).findIdx? (λe=>(PySem.strKind P w).is x e.2)=some j->x∈l.map (·.1))/\((l.map (rK w)).findIdx? (λe=>(PySem.strKind P w).is x e.2)=none->x∉l.map (·.1)):=by
 intro l
 refine⟨λj h=>?_,λh hm=>?_⟩
 ·obtain⟨hj,hp,_⟩:=List.findIdx?_eq_some_iff_getElem.mp h
  rw[List.getElem_map]at hp
  rw[cx]at hj
  have:(l[j]).1=x:=(PySem.strKind P w).inj _ _ _ (strKind_is P w _ _) hp
  exact ll.mpr ⟨l[j],jP hj,this⟩
 ·obtain⟨p,hp,rfl⟩:=ll.mp hm
  have:=List.findIdx?_eq_none_iff.mp h (rK w p) (List.mem_map_of_mem hp)
  rw[show(PySem.strKind P w).is p.1 (rK w p).2=true from strKind_is P w _ _]at this
  cases this
theorem wB{es':List (Int×Value)}{l:List (Str×Tok)}(p:es'.Perm (l.map (rK w))):∃l':List (Str×Tok),es'=l'.map (rK w)/\l'.Perm l:=by
 let back:Int×Value->Str×Tok:=λe=>match e.2 with | .str x t=>(x,t) | _=>(default,0)
 have hb:∀q:Str×Tok,back (rK w q)=q:=λq=>rfl
 refine⟨es'.map back,?_,?_⟩
 ·rw[pQ]
  conv=>lhs;rw[<-uk es']
  refine List.map_congr_left λe he=>?_
  obtain⟨q,_,rfl⟩:=ll.mp (p.mem_iff.mp he)
  rfl
 ·have:=p.map back
  rw[pQ,show(back ∘ rK w)=id from funext hb,uk]at this
  exact this
theorem Ji{x:Str}{tk:Tok}{Q:Bool->Shared->Prop}(S:jL w s.heap a l)(room:l.length+1<scanBound)
  (q:∀h' l' b,Heap.SameBut a s.heap h'->jL w h' a l'->(∀z,z∈l'.map (·.1)↔z∈l.map (·.1)\/z=x)->l'.length<=l.length+1->Q b { s with heap:=h' }) :
  wpAny (model P w) A (setAddHashed a (.str x tk) (hashStr w x)) Q E s:=by
 obtain⟨⟨es,ep,t,ho,JN,hf,FK,rh⟩,nd,sz⟩:=S
 have pz:es.size=l.length:=by rw[<-iR,JN,cx]
 have hE:ElemsOf (PySem.strKind P w) es.toList:=by rw[JN];exact Gb l
 have hk:(PySem.strKind P w).is x (.str x tk)=true:=strKind_is P w _ _
 have hd:(fY es ep t).data=.set es ep t:=rfl
 unfold setAddHashed setAddHashedIn
 refine ic (av (rV ho hd hf ?_))
 dsimp only
 rw[byScan_of (knd:=PySem.strKind P w) rfl (by rw[pz];exact sz) hE]
 simp only[↓reduceIte]
 unfold setAddByScan
 refine av (av (nJ (av (wpAny_setScan_of (knd:=PySem.strKind P w) hk ho hd hf hE ?_))))
 have VF:=FZ (P:=P) (w:=w) x l
 rw[<-JN]at VF
 cases hr:List.findIdx? (λe=>(PySem.strKind P w).is x e.2) es.toList with
 | some j=>
  dsimp only
  have hm:=VF.1 j hr
  refine aU (aU ?_)
  have e:s={ s with heap:=s.heap }:=by cases s;rfl
  rw[e]
  exact q s.heap l false (Heap.SameBut.refl a s.heap) ⟨⟨es,ep,t,ho,JN,hf,FK,rh⟩,nd,sz⟩ (λz=>⟨.inl,λh=>h.elim id λe=>e ▸ hm⟩) (jO _)
 | none=>
  have hm:=VF.2 hr
  dsimp only
  have pp:=layNew_perm t es (hashStr w x) (.str x tk)
  have pf:=layNew_fits t es (hashStr w x) (.str x tk)
  have pl:=Ir t es (hashStr w x) (.str x tk)
  have pq:=BP t es (hashStr w x) (.str x tk)
  generalize hL:layNew t es (hashStr w x) (.str x tk)=L at pp pf pl pq ⊢
  obtain⟨mH,t1,RW,gave⟩:=L
  dsimp only at pp pf pl pq ⊢
  rw[Array.toList_push,JN]at pp
  obtain⟨l1,e1,p1⟩:=wB (l:=l++[(x,tk)]) (w:=w) (es':=mH.toList) (by rw[ig];exact pp)
  have O8:l1.length=l.length+1:=by rw[p1.length_eq,df];rfl
  have Yh:(l1.map (·.1)).Nodup:=by
   rw[(p1.map (·.1)).nodup_iff,ig,xW]
   refine⟨nd,by simp,λu hu v hv=>?_⟩
   rw[ie,ur,eR]at hv
   rintro rfl
   rw[hv]at hu
   exact hm hu
  have O2:∀z,z∈l1.map (·.1)↔z∈l.map (·.1)\/z=x:=λz=>by
   rw[(p1.map (·.1)).mem_iff,ig,fM];simp
  have Vn:mH.size=l.length+1:=by rw[<-iR,e1,cx,O8]
  have gw:∀(b:Bool) {s₁:Shared} {Q':Unit->Shared->Prop},Q' () s₁->wpAny (model P w) A (match b with | true=>rule "set.scan.the-table-gave-way" | false=>pure ()) Q' E s₁:=
   λb s₁ Q' hq=>by cases b <;> first | exact aU hq | exact nJ hq
  refine av (gw _ ?_)
  have fin:∀t2:SetTable,t2.fits mH.size=true->t2.led=t.led->t2.plain=false->
    wpAny (model P w) A (do
     storeSet a mH t2
     if (!RW&&t2.tooFull)=true then do
      (match (relayAll t2 mH (SetTable.grown mH.size)).2.2 with | true=>rule "set.scan.the-table-gave-way" | false=>pure ())
      storeSet a (relayAll t2 mH (SetTable.grown mH.size)).1 (relayAll t2 mH (SetTable.grown mH.size)).2.1
      pure (some true)
     else pure (some true)) (λr s'=>∃b,r=some b/\Q b s') E s:=by
   intro t2 f2 l2 p2
   refine av (wpAny_storeSet_of ho hd ?_ (by rw[Vn];exact uD room))
   have g1:(s.heap.update a (Obj.putSet mH t2)).get? a=some (fY mH (ep+1) t2):=by
    have:=lG (Obj.putSet mH t2) ho (by rw[putSet_of mH t2 hd];rfl)
    rw[putSet_of mH t2 hd]at this;exact this
   have sb:=uG s.heap a (Obj.putSet mH t2)
   split
   ·have rp:=relayAll_perm t2 mH (SetTable.grown mH.size)
    have rf:=relayAll_fits t2 mH (SetTable.grown mH.size)
    have rl:=Bq t2 mH (SetTable.grown mH.size)
    have rq:=wm t2 mH (SetTable.grown mH.size) p2
    generalize hR:relayAll t2 mH (SetTable.grown mH.size)=R at rp rf rl rq ⊢
    obtain⟨Mt,t3,ZM⟩:=R
    dsimp only at rp rf rl rq ⊢
    rw[e1]at rp
    obtain⟨Yt,e2,TB⟩:=wB rp
    have O7:Yt.length=l.length+1:=by rw[TB.length_eq,O8]
    have Vm:Mt.size=l.length+1:=by rw[<-iR,e2,cx,O7]
    refine av (gw _ ?_)
    refine av (wpAny_storeSet_of g1 rfl ?_ (by rw[Vm];exact uD room))
    have g2:((s.heap.update a (Obj.putSet mH t2)).update a (Obj.putSet Mt t3)).get? a=some (fY Mt (ep+1+1) t3):=by
     have:=lG (Obj.putSet Mt t3) g1 (by rw[putSet_of Mt t3 (show(fY mH (ep+1) t2).data=_ from rfl)];rfl)
     rw[putSet_of Mt t3 (show(fY mH (ep+1) t2).data=_ from rfl)]at this;exact this
    refine aU ⟨true,rfl,q _ Yt true (sb.trans (uG _ a _)) ⟨⟨Mt,_,t3,g2,e2,rf,by rw[rl,l2,FK],λ_=>rq⟩,by rw[(TB.map (·.1)).nodup_iff];exact Yh,by lia⟩ (λz=>by rw[(TB.map (·.1)).mem_iff];exact O2 z) (by lia)⟩
   ·exact aU ⟨true,rfl,q _ l1 true sb ⟨⟨mH,_,t2,g1,e1,f2,by rw[l2,FK],λ_=>p2⟩,Yh,by lia⟩ O2 (by lia)⟩
  split
  ·rename_i oO
   refine av ?_
   rw[hashByValue_scannable 8 (show(Value.str x tk).scannable=true from rfl)]
   refine aU ?_
   rw[show(if plainKind (Value.str x tk)=true then t1 else { t1 with plain:=false })={ t1 with plain:=false } from rfl]
   refine eT (fin { t1 with plain:=false } (SetTable.fits_plain_off pf) pl rfl) (λr s' h=>?_) λ_ _ h=>h
   obtain⟨b,rfl,hq⟩:=h
   exact aU hq
  ·rename_i oO
   refine av (aU ?_)
   simp only[↓reduceIte]
   refine eT (fin t1 pf pl (by simpa using oO)) (λr s' h=>?_) λ_ _ h=>h
   obtain⟨b,rfl,hq⟩:=h
   exact aU hq
end
section
variable {P:Program}{w:World}{A:Around}{R:Result->Shared->Prop}{I:Addr}{fp wr:List Addr}{G:Array GenState->Array GenState->Prop}{n:Nat}{Pv:Nat->Value->Prop}{St:Nat->Shared->Prop}
theorem Fu(W:WalksS P w A.in1 I fp wr G n Pv St)(S:Addr)(Rx:S∉fp)(val:Nat->Str)(hval:∀i v,Pv i v->∃t,v=.str (val i) t)(hb:n+1<scanBound) :
  ∀(k i:Nat) (s:Shared) (l:List (Str×Tok)),n-i=k->i<=n->St i s->jL w s.heap S l->l.length<=i->(∀z,z∈l.map (·.1)↔∃j,j<i/\val j=z)->
   (∀s' l',Moved (S::wr) G s s'->jL w s'.heap S l'->(∀z,z∈l'.map (·.1)↔∃j,j<n/\val j=z)->R (.ok (.ret .none)) s')->
   codeAny (model P w) A (.builtin "set.update.loop" ⟨[.ref S,.ref I],[]⟩) R s:=by
 have nw:S∉wr:=λz=>Rx (W.sub _ z)
 have up:∀b∈wr,b∈S::wr:=λb z=>eD _ z
 intro k
 induction k with
 | zero=>
  intro i s l hk hi st hS hl hm r
  obtain rfl:i=n:=by lia
  refine rS F.entry_set_update_loop ?_
  rw[vS xU _]
  refine av (m:=pyNext (.ref I)) (W.done s _ _ st λs' mv=>?_)
  refine aU (r s' l (mv.mono up) (hS.at λo e=>mv.heap S o nw e) hm)
 | succ k ih=>
  intro i s l hk hi st hS hl hm r
  have lt:i<n:=by lia
  refine rS F.entry_set_update_loop ?_
  rw[vS xU _]
  refine av (m:=pyNext (.ref I)) (W.item i s _ _ lt st λv s' pv rg mv=>?_)
  obtain⟨t,rfl⟩:=hval i v pv
  have PL:=hS.at (h':=s'.heap) λo e=>mv.heap S o nw e
  refine av (m:=holding [Value.str (val i) t] (setAdd S (.str (val i) t))) (ic ?_)
  unfold setAdd
  refine ic (av ((PySem.strKind P w).pyHash (k:=val i) (strKind_is _ _ _ _) ?_))
  refine Ji (s:={ s' with toks:=s'.toks+1 }) PL (by lia) λh' l' b sb S2 m2 O7=>?_
  refine aU ⟨um xU _,ih (i+1) _ l' (by lia) lt (W.frame _ s' _ _ rg (jO _) λc hc o e=>?_) S2 (by lia) (λz=>?_) λs2 l2 mv2 S3 m3=>?_⟩
  ·rw[sb.2 c (λq:c=S=>Rx (by rw[<-q];exact hc))];exact e
  ·rw[m2 z,hm z]
   constructor
   ·rintro(⟨j,hj,e⟩ | e)
    ·exact⟨j,by lia,e⟩
    ·exact⟨i,by lia,e.symm⟩
   ·rintro⟨j,hj,e⟩
    by_cases q:j=i
    ·subst q;exact .inr e.symm
    ·exact .inl ⟨j,by lia,e⟩
  ·refine r s2 l2 (Moved.trans W.gtrans ((mv.mono up).then_heap (jO _) λc o hc e=>?_) mv2) S3 m3
   rw[sb.2 c (λq:c=S=>hc (by rw[q];exact cS))];exact e
end
theorem zK:∀{vs:List Value} {ss:List Str},StrsAre vs ss->∀(i:Nat) (v:Value),vs[i]?=some v->∃t,v=.str (ss.getD i "") t
 | _,_,.nil,i,v,h=>by cases i <;> cases h
 | _,_,.cons y t r,0,v,h=>by cases h;exact⟨t,rfl⟩
 | _,_,.cons y t r,i+1,v,h=>by
  obtain⟨u,e⟩:=zK r i v (by simpa using h)
  exact⟨u,by rw[e];rfl⟩
section
variable {P:Program}{w:World}{A:Around}{E:Value->Shared->Prop}{s:Shared}
theorem Hq{x:Value}{Q:Value->Shared->Prop}(h:Q (.ref s.heap.objs.size) { s with heap:=s.heap.push (fY #[] 0 (.fresh 0 0 (!xu w))) }) :
  codeAny (model P w) A (.call (.builtin "set.__new__") ⟨[.type "set",x],[]⟩) (wants Q E) s:=by
 refine codeAny_of_tree ?_
 refine av (m:=checkBuiltinCall "set.__new__" ⟨[.type "set",x],[]⟩) (nM (PySem.F.newCall_set_1 x) (aU ⟨um PySem.F.plain_set_new _,rS PySem.F.entry_set_new ?_⟩))
 rw[vS PySem.F.plain_set_new _]
 unfold Builtin.«set.__new__» Builtin.Frozenset.newClass
 have Ph:=sub_set_self
 obtain⟨hp,g,d,tk,os⟩:=s
 dsimp only
 wp_walk
 refine wpAny_askSetting (aU ?_)
 dsimp only
 simp only[newObj]
 refine av (wpAny_alloc (aU (aU h)))
theorem D'{l:Addr}{items:Array Value}{ss:List Str}{Q:Value->Shared->Prop}(hh:A.handled=none)(hl:s.heap.IsList l items)(hi:StrsAre items.toList ss)(hb:items.size+1<scanBound)
  (h:∀(h':Heap) (tk:Nat) (ls:List (Str×Tok)),jL w h' s.heap.objs.size ls->(∀z,z∈ls.map (·.1)↔z∈ss)->(∀b o,b<s.heap.objs.size->s.heap.get? b=some o->h'.get? b=some o)->Q (.ref s.heap.objs.size) { s with heap:=h',toks:=tk }) :
  wpAny (model P w) A (call (.type "set") [.ref l]) Q E s:=by
 have e:∀z:Str,(∃j,j<items.size/\ss.getD j "" = z)↔z∈ss:=λz=>by
  have hlen:items.size=ss.length:=by rw[<-iR];exact hi.length
  rw[hlen,List.mem_iff_getElem]
  constructor
  ·rintro⟨j,hj,e⟩;exact⟨j,hj,by rw[<-e];simp[hj]⟩
  ·rintro⟨j,hj,e⟩;exact⟨j,hj,by rw[<-e];simp[hj]⟩
 obtain⟨c,tl,aAh⟩:=oH.mro
 have Zb:=oH.made
 have Ph:=oH.sub
 refine lW (codeAny_of_tree (aU (a:=_) ⟨Code.quiet_builtin _ (by decide +kernel),rS PySem.F.entry_type_call ?_⟩))
 rw[Around.under_plain (weight_type_call_type "set" [.ref l] []) rfl]
 have h1:=oH.notType
 have h2:=oH.canCreate
 have hct:=PySem.F.typeCall_set_1 (.ref l)
 repeat (any_goals (first | assumption | wp_step))
 refine nO (Hq (x:=.ref l) (E:=E) (Q:=λobj s₁=>obj=.ref s.heap.objs.size/\s₁={ s with heap:=s.heap.push (fY #[] 0 (.fresh 0 0 (!xu w))) }) ⟨rfl,rfl⟩) λr s₁ hr=>?_
 cases r with
 | error e=>exact hr
 | ok fl=>
  cases fl with
  | ret obj=>
   obtain⟨rfl,rfl⟩:=hr
   have hS:(s.heap.push (fY #[] 0 (.fresh 0 0 (!xu w)))).get? s.heap.objs.size=some (fY #[] 0 (.fresh 0 0 (!xu w))):=eS _ rfl
   have hT:Shared.TypeIs { s with heap:=s.heap.push (fY #[] 0 (.fresh 0 0 (!xu w))) } (.ref s.heap.objs.size) "set":=⟨_,hS,rfl⟩
   have hli:=oH.init.lookup
   have hbi:=oH.init.bind (.ref s.heap.objs.size)
   repeat (any_goals (first | assumption | wp_step))
   refine nO (xX (R:=wants (λr s₂=>r=.none/\∃h' tk ls,s₂={ s with heap:=h',toks:=tk }/\jL w h' s.heap.objs.size ls/\(∀z,z∈ls.map (·.1)↔z∈ss)/\
     (∀b o,b<s.heap.objs.size->s.heap.get? b=some o->h'.get? b=some o)) E) oH.init.plain PySem.F.entry_set_init (check_set_init_1 hT ?_)) λr₂ s₂ Vp=>?_
   ·obtain⟨ol,Y9,Ah,nl,Zh⟩:=hl
    obtain⟨aAd,Ow,Ya,K6⟩:=ol
    simp only at Ah Zh
    subst Ah;subst Zh
    have Vs:(s.heap.push (fY #[] 0 (.fresh 0 0 (!xu w)))).get? l=some { cls:=.type "list",dict:=Ow,data:=.seq items nl,slots:=K6 }:=bP _ Y9
    have aAf:=PySem.F.sub_list_set
    have aAg:=PySem.F.sub_list_frozenset
    have Pp:(Value.type "list" == Value.type "dict")=false:=by decide
    have Zd:(s.heap.push (fY #[] 0 (.fresh 0 0 (!xu w)))).IsList l items:=⟨_,Vs,rfl,nl,rfl⟩
    unfold Builtin.«set.__init__» noKeywords Builtin.Frozenset.updateFrom
    unfold fY at *
    generalize hPI:pyIter=PI
    wp_walk
    subst hPI
    refine wpAny_pyIter_list Zd (av (wpAny_runValue ?_))
    have Zc:l<s.heap.objs.size:=bI Y9
    have hh3:A.in1.in1.in1.handled=none:=by simp[hh]
    have pz:(s.heap.push (fY #[] 0 (.fresh 0 0 (!xu w)))).objs.size=s.heap.objs.size+1:=lC _ _
    have Vw:l≠(s.heap.push (fY #[] 0 (.fresh 0 0 (!xu w)))).objs.size:=by rw[pz];exact bV (rZ Zc)
    have Rx:s.heap.objs.size∉[(s.heap.push (fY #[] 0 (.fresh 0 0 (!xu w)))).objs.size,l]:=by
     rw[pz];simp only[cz,eR,pW,or_false,not_or];exact⟨bV (xQ _),lA Zc⟩
    refine Fu ((Walks.list hh3 _ l Vw items).toS) s.heap.objs.size Rx (λj=>ss.getD j "") (λi v hv=>?hv) hb (items.size-0) 0 _ [] (by lia) (dQ _)
     ⟨⟨_,eS _ rfl,rfl,rfl⟩,(Zd.push _)⟩ ?hS0 (dQ _) (λz=>⟨(λz=>nomatch z),λ⟨_,hj,_⟩=>absurd hj (Nat.not_lt_zero _)⟩) ?hR
    case hv=>exact zK hi i v (by rw[sd];exact hv)
    case hS0=>exact⟨⟨#[],0,_,bP _ hS,rfl,rfl,rfl,λz=>absurd rfl z⟩,uz,by decide⟩
    case hR=>
     intro s' l' hm PL mem
     obtain⟨h',g',d',tk',TJ⟩:=s'
     have eg:g'=s.gens:=hm.gens
     have ed:d'=s.drawn:=hm.drawn
     have eo:TJ=s.os:=hm.os
     subst eg;subst ed;subst eo
     refine aU (aU ⟨rfl,h',tk',l',rfl,PL,λz=>(mem z).trans (e z),λb o hb e=>?_⟩)
     refine hm.heap b o ?_ (bP _ (bP _ e))
     rw[pz]
     simp only[cz,eR,pW,or_false,not_or];exact⟨bV hb,bV (rZ hb)⟩
   ·cases r₂ with
    | error e=>exact Vp
    | ok fl₂=>
     cases fl₂ with
     | ret r=>
      obtain⟨rfl,h',tk,ls,rfl,PL,hm',IK⟩:=Vp
      repeat (any_goals (first | assumption | wp_step))
      exact h _ _ _ PL hm' IK
     | _=>exact Vp.elim
  | _=>exact hr.elim
end
theorem dA:Slot "set_iterator" "__next__" "set_iterator.__next__":=
 .of (owner:="set_iterator") (n:="__next__") (by rw[typeLookup_type,builtinLookup_eq_fast];kernel_rfl) (by decide +kernel) (by decide +kernel) (by decide +kernel)
  (.inl (by decide +kernel)) (by rw[isSubtype_type];kernel_rfl)
theorem mY:Slot "set_iterator" "__iter__" "set_iterator.__iter__":=
 .of (owner:="set_iterator") (n:="__iter__") (by rw[typeLookup_type,builtinLookup_eq_fast];kernel_rfl) (by decide +kernel) (by decide +kernel) (by decide +kernel)
  (.inl (by decide +kernel)) (by rw[isSubtype_type];kernel_rfl)
theorem lP:entryFor table "set_iterator.__next__" = some Builtin.«set_iterator.__next__»:=entryFor_of_tree (by kernel_rfl)
theorem rA:entryFor table "set_iterator.__iter__" = some Builtin.«dict_keyiterator.__iter__»:=
 entryFor_alias (id':="dict_keyiterator.__iter__") (by kernel_rfl) rfl (by decide +kernel) (by kernel_rfl)
theorem rB:entryFor table "set.__iter__" = some Builtin.«frozenset.__iter__»:=
 entryFor_alias (id':="frozenset.__iter__") (by kernel_rfl) rfl (by decide +kernel) (by kernel_rfl)
theorem wg:Manifest.owners.lookup (String.ofList "rotareti_tes".toList.reverse)=some Manifest.sig_set_iterator:=by kernel_rfl
theorem mZ(a:Value):argsOk "set_iterator.__next__" ⟨[a],[]⟩:=by
 unfold argsOk;rw[signature?_of (id:="set_iterator.__next__") (n:="__txen__".toList) (o:="rotareti_tes".toList) (by kernel_rfl) wg];kernel_rfl
theorem vb(a:Value):argsOk "set_iterator.__iter__" ⟨[a],[]⟩:=by
 unfold argsOk;rw[signature?_of (id:="set_iterator.__iter__") (n:="__reti__".toList) (o:="rotareti_tes".toList) (by kernel_rfl) wg];kernel_rfl
def lQ(first:Value)(i n ep:Nat)(a:Addr):Obj:={ cls:=.type "set_iterator",data:=.fields #[first,.int i 0,.ref a,.int n 0,.int ep 0] }
section
variable {P:Program}{w:World}{A:Around}{E:Value->Shared->Prop}{s:Shared}{a I:Addr}{es:Array (Int×Value)}{t:SetTable}{ep i n:Nat}{first:Value}
theorem mX(hI:s.heap.get? I=some (lQ first i n ep a)):s.TypeIs (.ref I) "set_iterator":=⟨_,hI,rfl⟩
theorem zO{Q:Value->Shared->Prop}(hI:s.heap.get? I=some (lQ first i n ep a))(q:Q (.ref I) s):wpAny (model P w) A (pyIter (.ref I)) Q E s:=by
 refine wpAny_pyIter_slot (mX hI) mY (lD mY (mX hI) rA ?_ (vb _))
 exact aU ⟨_,rfl,"set_iterator",_,mX hI,dA.lookup,q⟩
theorem DY{slot:Nat}{tk:Tok}{r:Option (Value×Nat)}{Q:Option Value->Shared->Prop}(hh:A.handled=none)(hI:s.heap.get? I=some (lQ (.int slot tk) i n ep a))(hS:s.heap.get? a=some (fY es ep t))(hf:t.fits es.size=true)(hn:es.size=n)
  (hx:∀(B:Around) (E':Value->Shared->Prop) (Q':Option (Value×Nat)->Shared->Prop),Q' r s->wpAny (model P w) B (setNext a slot i ep) Q' E' s)
  (q:match r with
   | some (x,nx)=>∀h',h'.get? I=some (lQ (.int (nx:Int) 0) (i+1) n ep a)->Heap.SameBut I s.heap h'->Q (some x) { s with heap:=h' }
   | none=>∀h',Heap.ExtBut I s.heap h'->Q none { s with heap:=h' }):wpAny (model P w) A (pyNext (.ref I)) Q E s:=by
 have hT:=mX hI
 unfold pyNext
 refine av (nP (pN (name:=Str.ofString "__next__") hT dA (lD dA hT lP ?_ (mZ _))))
 unfold Builtin.«set_iterator.__next__»
 refine av (m:=slotArgs _ _ _) (aU ?_)
 refine av (wpAny_fieldsOf hI rfl ?_)
 refine av (m:=setEntries a) (xT hS rfl hf ?_)
 rw[aI (by rw[hn];simp)]
 refine av (m:=setNext a slot i ep) (hx _ _ _ ?_)
 cases r with
 | some p=>
  obtain⟨x,nx⟩:=p
  dsimp only at q ⊢
  refine av (m:=setField (.ref I) 0 (rawInt nx)) (jS hI (by simp) λh1 e1 N2=>?_)
  refine av (m:=setField (.ref I) 1 (rawInt (i+1))) (jS e1 (by simp) λh2 e2 Sx=>?_)
  exact aU ⟨x,rfl,aU (q h2 (by rw[e2];rfl) (N2.trans Sx))⟩
 | none=>
  dsimp only at q ⊢
  refine av (m:=setField (.ref I) 2 .none) (jS hI (by simp) λh1 e1 N2=>?_)
  refine av (m:=newExc (.type "StopIteration") []) ?_
  simp only[newExc,newTuple]
  refine av (ik ?_ (by size_fits))
  refine av (m:=firstArgMember _ _) (nM (a:=Value.none) (by first | rfl | (simp only[firstArgMember];rfl)) ?_)
  refine ik (xS hh ?_) (by size_fits)
  refine av (uA (T:="StopIteration") (b:=true) ⟨_,eS _ rfl,rfl⟩ isSubtype_stop ?_)
  exact aU (q _ ((N2.extBut.push _).push _))
theorem DX{p:Addr}{vs:Array Value}{c:Nat}{r:Option Value}{Q:Option Value->Shared->Prop}(hh:A.handled=none)(hI:s.heap.get? I=some (lQ (.ref p) i n ep a))(hS:s.heap.get? a=some (fY es ep t))(hf:t.fits es.size=true)(hn:es.size=n)
  (hp:s.heap.get? p=some { cls:=.type "tuple",data:=.seq vs c })
  (hv:match r with | some x=>∃(k:Nat) (z:Int),vs[i]?=some (.int k 0)/\es[k]?=some (z,x) | none=>vs[i]?=none)
  (q:match r with
   | some x=>∀h',h'.get? I=some (lQ (.ref p) (i+1) n ep a)->Heap.SameBut I s.heap h'->Q (some x) { s with heap:=h' }
   | none=>∀h',Heap.ExtBut I s.heap h'->Q none { s with heap:=h' }):wpAny (model P w) A (pyNext (.ref I)) Q E s:=by
 have hT:=mX hI
 unfold pyNext
 refine av (nP (pN (name:=Str.ofString "__next__") hT dA (lD dA hT lP ?_ (mZ _))))
 unfold Builtin.«set_iterator.__next__»
 refine av (m:=slotArgs _ _ _) (aU ?_)
 refine av (wpAny_fieldsOf hI rfl ?_)
 refine av (m:=setEntries a) (xT hS rfl hf ?_)
 rw[aI (by rw[hn];simp)]
 refine av (m:=seqItems? (.ref p)) (oC hp rfl ?_)
 cases r with
 | some x=>
  obtain⟨k,z,e1,e2⟩:=hv
  dsimp only at q ⊢
  simp only[uH,e1]
  refine av (m:=setNextDrawn a k ep) ?_
  unfold setNextDrawn
  refine av (rV hS rfl hf ?_)
  dsimp only
  rw[aI (by simp)]
  simp only[e2]
  refine aU ?_
  refine av (m:=setField (.ref I) 1 (rawInt (i+1))) (jS hI (by simp) λh2 e2 Sx=>?_)
  exact aU ⟨x,rfl,aU (q h2 (by rw[e2];rfl) Sx)⟩
 | none=>
  dsimp only at q hv ⊢
  simp only[uH,hv]
  refine av (m:=setField (.ref I) 0 (rawInt 0)) (jS hI (by simp) λh0 e0 sb0=>?_)
  refine av (m:=setField (.ref I) 2 .none) (jS e0 (by simp) λh1 e1 N2=>?_)
  refine av (m:=newExc (.type "StopIteration") []) ?_
  simp only[newExc,newTuple]
  refine av (ik ?_ (by size_fits))
  refine av (m:=firstArgMember _ _) (nM (a:=Value.none) (by first | rfl | (simp only[firstArgMember];rfl)) ?_)
  refine ik (xS hh ?_) (by size_fits)
  refine av (uA (T:="StopIteration") (b:=true) ⟨_,eS _ rfl,rfl⟩ isSubtype_stop ?_)
  exact aU (q _ (((sb0.trans N2).extBut.push _).push _))
end
theorem mn{α:Type}:∀(l:List α) (i:Nat) (x:α),l[i]?=some x->(x::l.eraseIdx i).Perm l
 | [],i,x,h=>by cases i <;> cases h
 | y::l,0,x,h=>by cases h;exact List.Perm.refl _
 | y::l,i+1,x,h=>by
  rw[List.getElem?_cons_succ]at h
  rw[List.eraseIdx_cons_succ]
  exact(List.Perm.swap y x _).trans ((mn l i x h).cons y)
theorem zY{α:Type}(next:Nat->Nat):∀(f k:Nat) (l:List α) (out:Array α),l.length=f->(pickOrder.go next f k l out).toList.Perm (out.toList++l)
 | 0,k,l,out,h=>by
  rw[List.length_eq_zero_iff.mp h,oD]
  unfold pickOrder.go
  exact List.Perm.refl _
 | f+1,k,l,out,h=>by
  unfold pickOrder.go
  have lt:next k%l.length<l.length:=Nat.mod_lt _ (by lia)
  have e:l[next k%l.length]?=some l[next k%l.length]:=fL lt
  rw[e]
  dsimp only
  refine(zY next f (k+1) _ _ (by rw[List.length_eraseIdx_of_lt lt];lia)).trans ?_
  rw[Array.toList_push,uI]
  exact(mn l _ _ e).append_left _
theorem tj{α:Type}(next:Nat->Nat)(xs:Array α):(pickOrder next xs).toList.Perm xs.toList:=by
 unfold pickOrder
 have:=zY next xs.size 0 xs.toList #[] iR
 simpa using this
section
variable {P:Program}{w:World}{A:Around}{E:Value->Shared->Prop}
theorem tQ{α:Type}:∀(n:Nat) (xs:List α) (s:Shared) (Q:List α->Shared->Prop),xs.length=n->(∀ys d,ys.Perm xs->Q ys { s with drawn:=d })->wpAny (model P w) A (drawOrder n xs) Q E s
 | 0,xs,s,Q,h,q=>by
  have:xs=[]:=List.length_eq_zero_iff.mp h
  subst this
  unfold drawOrder
  exact aU (by cases s;exact q [] _ (List.Perm.refl _))
 | n+1,[],s,Q,h,q=>by cases h
 | n+1,x::xs,s,Q,h,q=>by
  unfold drawOrder
  have lt:w.draws .order (s.drawn.get .order)%(x::xs).length<(x::xs).length:=Nat.mod_lt _ (by simp)
  refine av (m:=choose .order (x::xs).length) (λΓ p hΓ=>?_)
  refine⟨by simp,?_⟩
  have e:(x::xs)[w.draws .order (s.drawn.get .order)%(x::xs).length]?=some (x::xs)[w.draws .order (s.drawn.get .order)%(x::xs).length]:=fL lt
  show wpAny (model P w) A (match (x::xs)[w.draws .order (s.drawn.get .order)%(x::xs).length]? with
   | some y=>do let r <-drawOrder n ((x::xs).eraseIdx (w.draws .order (s.drawn.get .order)%(x::xs).length));pure (y::r)
   | none=>unsupported "internal:drawOrder") Q E { s with drawn:=s.drawn.bump .order }
  rw[e]
  dsimp only
  refine av (tQ n _ _ _ (by rw[List.length_eraseIdx_of_lt lt];simp at h ⊢;lia) λys d hp=>aU ?_)
  exact q _ d ((hp.cons _).trans (mn _ _ _ e))
variable {s:Shared}{a:Addr}{es:Array (Int×Value)}{t:SetTable}{ep slot i:Nat}
theorem js{Q:Bool->Shared->Prop}(q:Q (xu w) s):wpAny (model P w) A setsByText Q E s:=by
 unfold setsByText
 exact av (wpAny_askSetting (aU q))
theorem wO{Q:Option (Value×Nat)->Shared->Prop}(hb:xu w=true)(hS:s.heap.get? a=some (fY es ep t))(hf:t.fits es.size=true)(q:Q (((pickOrder (w.params.setOrder a ep) es)[i]?).map λe=>(e.2,slot)) s) :
  wpAny (model P w) A (setNext a slot i ep) Q E s:=by
 unfold setNext
 refine av (rV hS rfl hf (av (js ?_)))
 rw[hb]
 dsimp only
 rw[bu rfl,aI (by simp)]
 refine av ?_
 unfold setWalk
 refine av (rV hS rfl hf (av (js ?_)))
 rw[hb,bu rfl]
 exact av (wpAny_askSetting (aU (aU q)))
theorem Fn{Q:Option (Value×Nat)->Shared->Prop}(hb:xu w=false)(hl:t.led=true)(hz:es.size<=1)(hS:s.heap.get? a=some (fY es ep t))(hf:t.fits es.size=true)
  (q:Q (match es[SetTable.below t.place slot]?,t.place[SetTable.below t.place slot]? with | some (_,x),some j=>some (x,j+1) | _,_=>none) s):wpAny (model P w) A (setNext a slot i ep) Q E s:=by
 unfold setNext
 refine av (rV hS rfl hf (av (js ?_)))
 rw[hb]
 dsimp only
 rw[aI (by simp)]
 have d:(!t.plain&&decide (es.size > 1))=false:=by
  rw[Bool.and_eq_false_iff];right;simpa using hz
 show wpAny _ _ (if (!t.plain&&decide (es.size > 1))=true then _ else _) _ _ _
 rw[d,aI (by simp)]
 show wpAny _ _ ((if (!t.led && !es.isEmpty)=true then _ else _) >>= _) _ _ _
 rw[hl,Bool.not_true,Bool.false_and,aI (by simp)]
 exact av (aU (aU q))
end
section
variable {P:Program}{w:World}{B:Around}{a I:Addr}{es:Array (Int×Value)}{t:SetTable}{ep n:Nat}{ord:List Value}
theorem sV(slotAt:Nat->Nat)(hh:B.handled=none)(Pp:a≠I)(hf:t.fits es.size=true)(hn:es.size=n)(ho:ord.length=n)
  (hx:∀i,i<=n->∀(s:Shared) (C:Around) (E':Value->Shared->Prop) (Q':Option (Value×Nat)->Shared->Prop),s.heap.get? a=some (fY es ep t)->Q' ((ord[i]?).map λv=>(v,slotAt (i+1))) s->wpAny (model P w) C (setNext a (slotAt i) i ep) Q' E' s) :
  WalksS P w B I [I,a] [I] (λx y=>y=x) n (λi v=>ord[i]?=some v) (λi s=>s.heap.get? I=some (lQ (.int (slotAt i) 0) i n ep a)/\s.heap.get? a=some (fY es ep t)) where
 sub:=λb hb=>by rw[eR.mp hb];exact cS
 grefl:=λ_=>rfl
 gtrans:=λ_ _ _ h1 h2=>h2.trans h1
 frame:=λi s h' tk st _ k=>⟨k I (by simp) _ st.1,k a (by simp) _ st.2⟩
 item:=λi s Q E hi st q=>by
  have e:ord[i]?=some ord[i]:=fL (by rw[ho];exact hi)
  refine DY (r:=some (ord[i],slotAt (i+1))) hh st.1 st.2 hf hn (λC E' Q' hq=>hx i (nQ hi) s C E' Q' st.2 (by rw[e];exact hq)) λh' h1 h2=>?_
  exact q _ _ e ⟨h1,h2.extBut a _ Pp st.2⟩ ⟨λb o hb z=>h2.extBut b o (λy=>hb (by rw[y];exact eR.mpr rfl)) z,rfl,rfl,rfl,bF _⟩
 done:=λs Q E st q=>by
  have e:ord[n]?=none:=se (by rw[ho];exact bF _)
  refine DY (r:=none) hh st.1 st.2 hf hn (λC E' Q' hq=>hx n (bF _) s C E' Q' st.2 (by rw[e];exact hq)) λh' h1=>?_
  exact q _ ⟨λb o hb z=>h1 b o (λy=>hb (by rw[y];exact eR.mpr rfl)) z,rfl,rfl,rfl,bF _⟩
 self:=λi s Q E st q=>zO st.1 q
theorem Be{p:Addr}{pl:List Nat}{c:Nat}(hh:B.handled=none)(Pp:a≠I)(hnp:p≠I)(hf:t.fits es.size=true)(hn:es.size=n)(ho:ord.length=n)(hl:pl.length=n)
  (hx:∀i:Nat,i<n->∃(k:Nat) (z:Int) (x:Value),pl[i]?=some k/\es[k]?=some (z,x)/\ord[i]?=some x) :
  WalksS P w B I [I,a,p] [I] (λx y=>y=x) n (λi v=>ord[i]?=some v)
   (λi s=>s.heap.get? I=some (lQ (.ref p) i n ep a)/\s.heap.get? a=some (fY es ep t)/\s.heap.get? p=some { cls:=.type "tuple",data:=.seq (pl.map λ(j:Nat)=>Value.int j 0).toArray c }) where
 sub:=λb hb=>by rw[eR.mp hb];exact cS
 grefl:=λ_=>rfl
 gtrans:=λ_ _ _ h1 h2=>h2.trans h1
 frame:=λi s h' tk st _ k=>⟨k I (by simp) _ st.1,k a (by simp) _ st.2.1,k p (by simp) _ st.2.2⟩
 item:=λi s Q E hi st q=>by
  obtain⟨k,z,x,e1,e2,e3⟩:=hx i hi
  refine DX (r:=some x) hh st.1 st.2.1 hf hn st.2.2 ⟨k,z,by simp[e1],e2⟩ λh' h1 h2=>?_
  exact q _ _ e3 ⟨h1,h2.extBut a _ Pp st.2.1,h2.extBut p _ hnp st.2.2⟩ ⟨λb o hb z=>h2.extBut b o (λy=>hb (by rw[y];exact eR.mpr rfl)) z,rfl,rfl,rfl,bF _⟩
 done:=λs Q E st q=>by
  refine DX (r:=none) hh st.1 st.2.1 hf hn st.2.2 (by simp[hl]) λh' h1=>?_
  exact q _ ⟨λb o hb z=>h1 b o (λy=>hb (by rw[y];exact eR.mpr rfl)) z,rfl,rfl,rfl,bF _⟩
 self:=λi s Q E st q=>zO st.1 q
end
section
variable {P:Program}{w:World}{A:Around}{E:Value->Shared->Prop}{s:Shared}{a:Addr}{l:List (Str×Tok)}
theorem jL.typeIs(S:jL w s.heap a l):s.TypeIs (.ref a) "set":=let ⟨_,_,_,e,_⟩:=S.ex;⟨_,e,rfl⟩
def Gs(P:Program)(w:World)(z:Nat)(a:Addr)(l:List (Str×Tok))(I:Addr)(s':Shared):Prop:=
 ∃(ord:List Value) (fp:List Addr) (St:Nat->Shared->Prop),(∀B:Around,B.handled=none->WalksS P w B I fp [I] (λx y=>y=x) l.length (λi v=>ord[i]?=some v) St)/\St 0 s'/\
  (∀b∈fp,b<s'.heap.objs.size/\(b=a\/z<=b))/\I∈fp/\ord.Perm (l.map λp=>Value.str p.1 p.2)
theorem Jg(x:Nat):SetTable.below #[x] 0=0:=by
 unfold SetTable.below SetTable.below.go
 simp[SetTable.below.go]
theorem below_1(x:Nat):SetTable.below #[x] (x+1)=1:=by
 unfold SetTable.below SetTable.below.go
 simp[SetTable.below.go]
theorem Ea{Q:Value->Shared->Prop}(S:jL w s.heap a l)
  (q:∀I s',s.heap.objs.size<=I->(∀b o,s.heap.get? b=some o->s'.heap.get? b=some o)->s'.gens=s.gens->s'.os=s.os->Gs P w s.heap.objs.size a l I s'->Q (.ref I) s'):wpAny (model P w) A (pyIter (.ref a)) Q E s:=by
 obtain⟨⟨es,ep,t,ho,JN,hf,FK,rh⟩,nd,sz⟩:=id S
 have pz:es.size=l.length:=by rw[<-iR,JN,cx]
 have hval:es.toList.map (·.2)=l.map λp=>Value.str p.1 p.2:=by rw[JN,pQ];rfl
 have lt:a<s.heap.objs.size:=bI ho
 refine wpAny_pyIter_slot S.typeIs PySem.F.slot_set_iter (lD PySem.F.slot_set_iter S.typeIs rB ?_ (PySem.F.args_set_iter_1 _))
 unfold Builtin.«frozenset.__iter__»
 refine av (m:=Builtin.Frozenset.slot0 "__iter__" ⟨[.ref a],[]⟩) (nM (a:=a) rfl ?_)
 unfold Builtin.Frozenset.sizeOf
 refine av (av (xT ho rfl hf (aU ?_)))
 unfold setDrawn
 refine av (av (rV ho rfl hf (av (js (aU ?_)))))
 have last:∀(first:Value) (s1:Shared),s1.heap.get? a=some (fY es ep t)->(∀b o,s.heap.get? b=some o->s1.heap.get? b=some o)->s.heap.objs.size<=s1.heap.objs.size->s1.gens=s.gens->s1.os=s.os->
   (∀s',s'.heap.get? s1.heap.objs.size=some (lQ first 0 es.size ep a)->(∀b o,s1.heap.get? b=some o->s'.heap.get? b=some o)->Gs P w s.heap.objs.size a l s1.heap.objs.size s')->
   wpAny (model P w) A.in1 (do let e <-setEpoch a;let v <-newFields "set_iterator" [first,rawInt 0,Value.ref a,rawInt es.size,rawInt e];ret v) (λfin s'=>∃v,fin=Fin.done (Flow.ret v)/\∃T' r,s'.TypeIs v T'/\typeLookup (Value.type T') (Str.ofString "__next__")=pure (some r)/\Q v s') E s1:=by
  intro first s1 h1 k1 z1 g1 o1 hw
  refine av (wpAny_setEpoch_of h1 rfl hf ?_)
  unfold newFields
  refine av (ik ?_ (by size_fits))
  have hI:(s1.heap.push { cls:=.type "set_iterator",data:=.fields [first,rawInt 0,Value.ref a,rawInt es.size,rawInt ep].toArray }).get? s1.heap.objs.size=some (lQ first 0 es.size ep a):=eS _ rfl
  refine aU ⟨_,rfl,"set_iterator",_,⟨_,hI,rfl⟩,dA.lookup,q _ _ z1 (λb o e=>bP _ (k1 b o e)) g1 o1 (hw _ hI λb o e=>bP _ e)⟩
 show wpAny _ _ (if (!xu w&&(!t.plain&&decide (es.size > 1)))=true then _ else _) _ _ _
 by_cases hd:(!xu w&&(!t.plain&&decide (es.size > 1)))=true
 ·rw[bu hd]
  refine av (tQ es.size (List.range es.size) _ _ (by simp) λys d hp=>?_)
  have Rk:ys.length=es.size:=by rw[hp.length_eq,List.length_range]
  refine av (wpAny_newTuple ?_ (by rw[cx,Rk,pz];exact uD sz))
  refine last (.ref s.heap.objs.size) _ (bP _ ho) (λb o e=>bP _ e) (by show _<=(Heap.push _ _).objs.size;rw[lC];exact jO _) rfl rfl λs' hI k=>?_
  have e1:(Heap.push s.heap { cls:=.type "tuple",data:=.seq (ys.map λ(i:Nat)=>rawInt i).toArray }).objs.size=s.heap.objs.size+1:=lC _ _
  have Ag:=k s.heap.objs.size _ (eS _ rfl)
  have JP:=k a _ (bP _ ho)
  have UG:∀j∈ys,j<es.size:=λj hj=>List.mem_range.mp (hp.mem_iff.mp hj)
  refine⟨ys.map λj=>(es.toList.map (·.2)).getD j .none,_,_,λC hC=>Be (n:=l.length) (pl:=ys) (c:=0) (p:=s.heap.objs.size) (es:=es) (t:=t) (ep:=ep) (a:=a) hC (by rw[e1];exact bV (rZ lt)) (by rw[e1];exact bV (xQ _)) hf pz (by rw[cx,Rk,pz]) (by rw[Rk,pz]) λi hi=>?_,⟨by rw[<-pz];exact hI,JP,Ag⟩,?_,by simp,?_⟩
  ·have Mf:i<ys.length:=by rw[Rk,pz];exact hi
   have hk:=UG ys[i] (jP Mf)
   refine⟨ys[i],es[ys[i]].1,es[ys[i]].2,fL Mf,yk hk,?_⟩
   rw[fz,fL Mf,Option.map_some,List.getD_eq_getElem?_getD,fz,sd,yk hk]
   rfl
  ·intro b hb
   simp only[cz,pW,or_false]at hb
   rcases hb with rfl | rfl | rfl
   ·exact⟨bI hI,.inr (by rw[e1];exact jO _)⟩
   ·exact⟨bI JP,.inl rfl⟩
   ·exact⟨bI Ag,.inr (bF _)⟩
  ·rw[<-hval]
   refine(hp.map _).trans ?_
   rw[show(List.range es.size).map (λj=>(es.toList.map (·.2)).getD j .none)=es.toList.map (·.2) from ?_]
   refine List.ext_getElem? λi=>?_
   by_cases hi:i<es.size
   ·simp[hi]
   ·simp[hi]
 ·rw[aI hd]
  refine av (aU ?_)
  refine last (rawInt 0) s ho (λ_ _ e=>e) (bF _) rfl rfl λs' hI k=>?_
  have JP:=k a _ ho
  have RJ:∀b∈[s.heap.objs.size,a],b<s'.heap.objs.size/\(b=a\/s.heap.objs.size<=b):=λb hb=>by
   simp only[cz,pW,or_false]at hb
   rcases hb with rfl | rfl
   ·exact⟨bI hI,.inr (bF _)⟩
   ·exact⟨bI JP,.inl rfl⟩
  cases hb:xu w with
  | true=>
   refine⟨(pickOrder (w.params.setOrder a ep) es).toList.map (·.2),_,_,λC hC=>sV (n:=l.length) (es:=es) (t:=t) (ep:=ep) (a:=a) (λ_=>0) hC (bV lt) hf pz (by rw[cx,(tj _ es).length_eq,iR,pz]) λi _ s1 C' E' Q' h1 hq=>?_,⟨by rw[<-pz];exact hI,JP⟩,RJ,by simp,?_⟩
   ·refine wO hb h1 hf ?_
    rw[fz,sd,Option.map_map]at hq
    exact hq
   ·rw[<-hval];exact(tj _ es).map _
  | false=>
   have few:es.size<=1:=by
    rw[hb]at hd
    rcases Nat.lt_or_ge 1 es.size with h | h
    ·rw[rh (λz=>by rw[pz,z]at h;exact absurd h (by decide))]at hd
     simp[h]at hd
    ·exact h
   have led:t.led=true:=by rw[FK,hb];rfl
   have Y6:t.place.size=es.size:=by
    unfold SetTable.fits at hf
    rw[cX]at hf
    exact eq_of_beq hf.1
   refine⟨es.toList.map (·.2),_,_,λC hC=>sV (n:=l.length) (es:=es) (t:=t) (ep:=ep) (a:=a) (λi=>if i=0 then 0 else t.place.getD 0 0+1) hC (bV lt) hf pz (by rw[cx,iR,pz]) λi hi s1 C' E' Q' h1 hq=>?_,⟨by rw[<-pz];exact hI,JP⟩,RJ,by simp,by rw[hval]⟩
   refine Fn hb led few h1 hf ?_
   rcases Nat.eq_zero_or_pos es.size with z | z
   ·have e1:es = #[]:=Dd z
    have e2:t.place = #[]:=Dd (by rw[Y6,z])
    have e0:i=0:=by lia
    subst e0
    rw[e1]at hq
    rw[e1,e2]
    exact hq
   ·have z1:es.size=1:=by lia
    obtain⟨x,hx⟩:∃x,es = #[x]:=⟨es[0],Array.ext (by simp[z1]) λj h1 h2=>by
     have:j=0:=by simp at h2;exact h2
     subst this;rfl⟩
    obtain⟨j,hj⟩:∃j,t.place = #[j]:=⟨t.place[0]'(by lia),Array.ext (by simp[Y6,z1]) λj h1 h2=>by
     have:j=0:=by simp at h2;exact h2
     subst this;rfl⟩
    rw[hx,hj]at hq
    rw[hx,hj]
    rcases Nat.eq_zero_or_pos i with e0 | e0
    ·subst e0
     rw[bu rfl,Jg]
     exact hq
    ·have e1:i=1:=by lia
     subst e1
     rw[aI (by decide),show(#[j]:Array Nat).getD 0 0=j from rfl,below_1]
     exact hq
theorem Eb{Q:Bool->Shared->Prop}(hT:s.TypeIs (.ref a) "set")(q:Q false s):wpAny (model P w) A (Builtin.List.listLengthHint (.ref a)) Q E s:=by
 unfold Builtin.List.listLengthHint
 refine av (wpAny_specialOf hT PySem.F.slot_set_len.lookup ?_)
 generalize Zf:("set.__len__" : String)=id0
 wp_delta
 rw[show splitId id0=some ("set","__len__") from by subst Zf;decide +kernel]
 subst Zf
 refine av (uA (T:="set") (b:=true) hT (by rw[isSubtype_type];kernel_rfl) ?_)
 refine wpAny_ite_split (λz=>absurd z (by decide)) (λ_=>wpAny_ite_split (λ_=>?_) (λz=>absurd (by decide +kernel) z))
 exact av (wpAny_typeOf hT (aU q))
theorem xl{Q:List Value->Shared->Prop}(hh:A.handled=none)(S:jL w s.heap a l)
  (q:∀(s':Shared) (vs:List Value),(∀b o,s.heap.get? b=some o->s'.heap.get? b=some o)->s.heap.objs.size<=s'.heap.objs.size->s'.gens=s.gens->s'.os=s.os->vs.Perm (l.map λp=>Value.str p.1 p.2)->Q vs s'):wpAny (model P w) A (collect (.ref a)) Q E s:=by
 have lt:a<s.heap.objs.size:=let ⟨_,_,_,e,_⟩:=S.ex;bI e
 unfold collect
 refine av (wpAny_runValue (rS entry_proto_collect' ?_))
 rw[vS PySem.F.plain_proto_collect _]
 refine av (m:=newList []) (ik ?_)
 refine aU ⟨um PySem.F.plain_list_iadd _,rS entry_list_iadd' ?_⟩
 rw[vS PySem.F.plain_list_iadd _]
 let L0:Obj:={ cls:=.type "list",data:=.seq ([]:List Value).toArray }
 have k0:∀b o,s.heap.get? b=some o->(s.heap.push L0).get? b=some o:=λb o e=>bP _ e
 have hL:(s.heap.push L0).get? s.heap.objs.size=some L0:=eS _ rfl
 have S0:jL w (s.heap.push L0) a l:=S.at λo e=>k0 a o e
 show wpAny _ A.in1 (Builtin.List.listExtendWith (.ref s.heap.objs.size) (.ref a) (.ref s.heap.objs.size)) _ _ { s with heap:=s.heap.push L0 }
 unfold Builtin.List.listExtendWith
 refine av (wpAny_typeOf (T:="set") (jL.typeIs (s:={ s with heap:=s.heap.push L0 }) S0) ?_)
 have h1:Builtin.List.listSameRef (.ref s.heap.objs.size) (.ref a)=false:=by simp[Builtin.List.listSameRef,lA lt]
 have h2:(Value.type "set" == Value.type "list")=false:=by decide
 have h3:(Value.type "set" == Value.type "tuple")=false:=by decide
 simp only[h1,h2,h3,Bool.or_false,uL,jT]
 refine av (Ea (s:={ s with heap:=s.heap.push L0 }) S0 λI s1 zI k1 g1 o1 W=>?_)
 have S1:jL w s1.heap a l:=S0.at λo e=>k1 a o e
 have tP:=k1 _ _ hL
 have Pp:s.heap.objs.size≠I:=by
  have:(s.heap.push L0).objs.size<=I:=zI
  rw[lC]at this
  exact bV this
 refine av (ic (Eb (jL.typeIs S1) ?_))
 refine hide λgG hG=>?_
 obtain⟨ord,fp,St,wk,st,RJ,mI,po⟩:=W
 refine hG ?_
 have hlen:l.length<=sizeLine:=uD S.sz
 have z1:(s.heap.push L0).objs.size=s.heap.objs.size+1:=lC _ _
 have nf:s.heap.objs.size∉fp:=λz=>by
  rcases(RJ _ z).2 with e | e
  ·exact absurd e (lA lt)
  ·have e':(s.heap.push L0).objs.size<=s.heap.objs.size:=e
   rw[z1]at e'
   exact absurd e' (Nat.not_succ_le_self _)
 refine wpAny_ite_split (λ_=>?_) (λz=>absurd (by decide +kernel) z)
 refine av (nJ (av ?_))
 show wpAny _ _ (updateSeq s.heap.objs.size (·.push .none) >>= λ_=>updateSeq s.heap.objs.size (·.pop)) _ _ _
 refine av (wpAny_updateSeq tP rfl ?_)
 have RC:=lG (Obj.mapSeq (·.push Value.none)) tP rfl
 refine wpAny_updateSeq (hz:=by seq_fits) RC rfl ?_
 have hL3:=lG (Obj.mapSeq (·.pop)) RC rfl
 have K5:∀b o,b≠s.heap.objs.size->s1.heap.get? b=some o->((s1.heap.update s.heap.objs.size (Obj.mapSeq (·.push Value.none))).update s.heap.objs.size (Obj.mapSeq (·.pop))).get? b=some o:=
  λb o hb e=>(mL _ _ (iP hb)).trans ((mL _ _ (iP hb)).trans e)
 have W1:=wk A.in1 hh
 refine aU ⟨um PySem.F.plain_extend_loop _,codeAny_extend_loopS W1 hlen _ nf _ l.length 0 _ #[] _ rfl (dQ _) (W1.frame 0 s1 _ s1.toks st (bF _) λb hb o e=>K5 b o (λz=>nf (z ▸ hb)) e) hL3 (ItemsOf.nil _) λs2 acc c2 mv Jb FV=>?_⟩
 refine av (m:=load s.heap.objs.size) (wpAny_load Jb (aU ?_))
 refine q s2 acc.toList (λb o e=>mv.heap b o (λhm=>?_) (K5 b o (bV (bI e)) (k1 b o (k0 b o e)))) (nQ (bI Jb)) (mv.gens.trans g1) (mv.os.trans o1) ?_
 ·have ml:b<s.heap.objs.size:=bI e
  rcases cz.mp hm with e1 | e1
  ·exact absurd e1 (bV ml)
  ·rw[eR.mp e1]at ml
   have:(s.heap.push L0).objs.size<=I:=zI
   rw[z1]at this
   exact absurd (dg ml (Nat.le_of_succ_le this)) (lB _)
 ·have e:acc.toList=ord:=by
   refine List.ext_getElem? λj=>?_
   by_cases hj:j<l.length
   ·have h0:j<acc.size:=by rw[FV.1];exact hj
    have h1:acc[j]?=some acc[j]:=yk h0
    rw[sd,h1,FV.2 j _ h1]
   ·rw[se (by rw[iR,FV.1];lia),se (by rw[po.length_eq,cx];lia)]
  rw[e];exact po
theorem Bh{vs:List Value}{l:List (Str×Tok)}(po:vs.Perm (l.map λp=>Value.str p.1 p.2)):∃ts,StrsAre vs ts/\ts.Perm (l.map (·.1)):=by
 have:∃l':List (Str×Tok),vs=l'.map (λp:Str×Tok=>Value.str p.1 p.2)/\l'.Perm l:=by
  let back:Value->Str×Tok:=λe=>match e with | .str x t=>(x,t) | _=>(default,0)
  refine⟨vs.map back,?_,?_⟩
  ·rw[pQ]
   conv=>lhs;rw[<-uk vs]
   refine List.map_congr_left λe he=>?_
   obtain⟨z,_,rfl⟩:=ll.mp (po.mem_iff.mp he)
   rfl
  ·have:=po.map back
   rw[pQ,show(back ∘ λp:Str×Tok=>Value.str p.1 p.2)=id from rfl,uk]at this
   exact this
 obtain⟨l',rfl,pl⟩:=this
 refine⟨l'.map (·.1),?_,pl.map _⟩
 clear po pl
 induction l' with
 | nil=>exact .nil
 | cons p l' ih=>exact .cons p.1 p.2 ih
theorem Bo{x:Value}{us:List Str}{Q:Value->Shared->Prop}(h64:us.length<64)
  (hc:∀(Q':List Value->Shared->Prop),(∀(s':Shared) (vs:List Value) (ts:List Str),(∀b o,s.heap.get? b=some o->s'.heap.get? b=some o)->s.heap.objs.size<=s'.heap.objs.size->s'.gens=s.gens->s'.os=s.os->StrsAre vs ts->ts.Perm us->Q' vs s')->wpAny (model P w) A.in1 (collect x) Q' E s)
  (q:∀(s':Shared) (D c:Nat) (vs:List Value) (ss:List Str),(∀b o,s.heap.get? b=some o->s'.heap.get? b=some o)->s.heap.objs.size<=D->s'.gens=s.gens->s'.os=s.os->s'.heap.get? D=some { cls:=.type "list",data:=.seq vs.toArray c }->StrsAre vs ss->
   ss.Perm us->sortedS ss=true->Q (.ref D) s'):wpAny (model P w) A (call (.builtin "sorted") [x]) Q E s:=by
 refine Calls.call_function_entry kind_sorted plain_sorted entry_sorted (args_sorted1 _) ?_
 unfold Builtin.«sorted»
 refine av (m:=checkCount "sorted" 1 1 _) (aU ?_)
 refine av (hc _ λs1 vs ts k1 old g1 o1 Nk X6=>?_)
 have hl:vs.length=us.length:=by rw[Nk.length,X6.length_eq]
 refine av (wpAny_newList ?_ (by rw[hl];exact dh (by lia)))
 have Pm:(s1.heap.push (seqObj "list" vs.toArray 0)).get? s1.heap.objs.size=some (seqObj "list" vs.toArray 0):=eS _ rfl
 refine av (ic (lD slot_list_sort ⟨_,Pm,rfl⟩ entry_list_sort (list_sort_treeK strKind_oneLt Pm Nk.keysOf (λv₁ v₂ rest e=>keyKind_strs (by rw[<-e];exact Nk)) (by lia) λrg a1 a2=>⟨_,rfl,?_⟩) (args_list_sort _)))
 refine hide λgG hG=>?_
 obtain⟨ss',e1,e2,e3⟩:=sorted_out_str Nk a1 a2
 obtain⟨c,hc⟩:=sortedHeap_at (out:=(arrOf rg).map (·.2)) Pm
 refine hG ?_
 refine aU ⟨_,rfl,q _ s1.heap.objs.size c ((arrOf rg).map (·.2)).toList ss' (λb o e=>?_) old g1 o1 (by rw[hc]) e1 (e2.trans X6) e3⟩
 have lt:=bI (k1 b o e)
 show(sortedHeap _ _ _ _).get? b=some o
 rw[sortedHeap_old (bV lt) (by rw[size_push'];exact rZ lt)]
 exact bP _ (k1 b o e)
end
theorem Inv.same{X:Cx}{pins:List (Addr×Obj)}{σ:List (Option V)}{H:Hp}{s s':Shared}(I:Inv X pins σ H s)(hh:s'.heap=s.heap)(hg:s'.gens=s.gens)(ho:s'.os=s.os):Inv X pins σ H s':=
 ⟨I.ok,by rw[ho];exact I.os,by rw[hg];exact I.bare,by rw[hh];exact I.base,by rw[hh];exact I.loc,by rw[hh];exact I.cell,I.free,I.fO,by rw[hh];exact I.pin,by rw[hh];exact I.cw,I.len⟩
def MT(w:World)(p:Addr)(ss:List Str):HO:=.ext λh=>∃l,jL w h p l/\∀z,z∈l.map (·.1)↔z∈ss
section
variable {X:Cx}
def N7(K:PySem.W.Frag)(w:World):List V->Hp->VK->Prop:=λvs H Q=>∃a ss,vs=[.ref a]/\nD K H a (ss.map V.str)/\ss.length<4000/\∀p,H p=none->Q (.ref p) (upd H p (MT w p ss))
theorem Cq(hh:X.A.handled=none):cv X (.type "set") (N7 X.K X.w):=by
 intro pins s σ H vs us Q I rv h
 refine hide λgG hG=>?_
 obtain⟨a,ss,rfl,hq,hn,q⟩:=h
 obtain⟨u,rfl,ru⟩:=vals1 rv
 refine hG ?_
 cases ru
 refine hide λgG hG=>?_
 obtain⟨its,r,pl,hz⟩:=I.list hq
 refine hG ?_
 have hl:=r.length
 rw[cx]at hl
 refine D' (ss:=ss) hh pl.isList (qq r) (by show its.toArray.size+1<4096;rw[cg];lia) λh' tk ls hS hm hk=>?_
 have IK:∀b o,s.heap.get? b=some o->h'.get? b=some o:=λb o e=>hk b o (bI e) e
 refine⟨.ref s.heap.objs.size,_,I.laid (t':=tk) (o:=MT X.w s.heap.objs.size ss) IK (bF _) ?_,rfl,q _ I.fresh⟩
 exact⟨⟨ls,hS,hm⟩,(let ⟨_,_,_,e,_⟩:=hS.ex;⟨_,e⟩),λh1 h2 ⟨l1,x1,m1⟩ k=>⟨l1,x1.at k,m1⟩⟩
def yE(w:World):List V->Hp->VK->Prop:=λvs H Q=>∃a ss,vs=[.ref a]/\H a=some (MT w a ss)/\ss.length<64/\
 ∀ss':List Str,(∀z,z∈ss'↔z∈ss)->ss'.Nodup->sortedS ss'=true->∀p,H p=none->Q (.ref p) (upd H p (.lst (ss'.map V.str)))
theorem fF{α:Type} [DecidableEq α]:∀{l m:List α},l.Nodup->(∀x∈l,x∈m)->l.length<=m.length
 | [],m,_,_=>dQ _
 | x::l,m,h,k=>by
  have hx:=k x cS
  have:=fF (m:=m.erase x) (oE.mp h).2 λy hy=>(List.mem_erase_of_ne (λ(e:y=x)=>(oE.mp h).1 (by rw[<-e];exact hy))).mpr (k y (eD _ hy))
  rw[List.length_erase_of_mem hx]at this
  have p:0<m.length:=List.length_pos_of_mem hx
  rw[rW];lia
theorem qQ(hh:X.A.handled=none):cv X (.builtin "sorted") (yE X.w):=by
 intro pins s σ H vs us Q I rv h
 refine hide λgG hG=>?_
 obtain⟨a,ss,rfl,hq,hn,q⟩:=h
 obtain⟨u,rfl,ru⟩:=vals1 rv
 refine hG ?_
 cases ru
 refine hide λgG hG=>?_
 obtain⟨⟨l,hS,hm⟩,_,_⟩:=I.cw a _ hq
 refine hG ?_
 have hl:(l.map (·.1)).length<=ss.length:=fF hS.nd λx hx=>(hm x).mp hx
 refine Bo (us:=l.map (·.1)) (by lia) (λQ' hQ'=>xl (A:=X.A.in1) hh hS λs' vs k z g o po=>let ⟨ts,h1,h2⟩:=Bh po;hQ' s' vs ts k z g o h1 h2) λs' D c vs ss' k z g o hD hvs Td N0=>?_
 have JM:H D=none:=I.cw.fresh z
 have I1:Inv X pins σ (upd H D (.lst (ss'.map V.str))) { s with heap:=s'.heap,toks:=s.toks }:=I.laid k z ⟨by rw[cx,Td.length_eq];exact dh (by lia),vs,c,nV hvs,hD⟩
 refine⟨.ref D,_,I1.same rfl g o,rfl,q ss' (λz=>(Td.mem_iff).trans (hm z)) (Td.nodup_iff.mpr hS.nd) N0 _ JM⟩
end
theorem pB(z:Str){v:Int}(h:0<=v):(my z none (some v)).cps.toList=z.cps.toList.take v.toNat:=by
 have hl:z.cps.toList.length=z.length:=by simp[Str.length]
 unfold my
 have e:HT.bY z.length z.length (some v)=min v.toNat z.length:=by
  show(if v<0 then _ else min v.toNat z.length)=_
  rw[aI (by lia)]
 rw[e]
 show(List.take (min v.toNat z.length-0) (List.drop 0 z.cps.toList))=_
 rw[uy,Nat.sub_zero,<-hl]
 by_cases hv:v.toNat<=z.cps.toList.length
 ·rw[Nat.min_eq_left hv]
 ·rw[xR (by lia),oF,vU (by lia)]
theorem tS(z:Str){v:Int}(h:0<=v):(my z (some v) none).cps.toList=z.cps.toList.drop v.toNat:=by
 have hl:z.cps.toList.length=z.length:=by simp[Str.length]
 unfold my
 have e:HT.bY z.length 0 (some v)=min v.toNat z.length:=by
  show(if v<0 then _ else min v.toNat z.length)=_
  rw[aI (by lia)]
 rw[e]
 show(List.take (z.length-min v.toNat z.length) (List.drop (min v.toNat z.length) z.cps.toList))=_
 rw[<-hl]
 by_cases hv:v.toNat<=z.cps.toList.length
 ·rw[Nat.min_eq_left hv,vU (by rw[jQ] <;> lia)]
 ·rw[xR (by lia),pR,List.take_zero,List.drop_eq_nil_of_le (by lia)]
theorem fh(z:Str):z.cps.toList.length=z.length:=by simp[Str.length]
theorem nA(x y:Str):(x++y).cps.toList=x.cps.toList++y.cps.toList:=by
 show(x.cps++y.cps).toList=_
 simp
theorem Cg{g:Str}(hg:g.cps = #[]):∀ss:List Str,(Txt.join g ss).cps.toList=(ss.map λz=>z.cps.toList).flatten:=by
 have go:∀(l:List Str) (acc:Array Nat),(l.foldl (λacc p=>acc++g.cps++p.cps) acc).toList=acc.toList++(l.map λz=>z.cps.toList).flatten:=by
  intro l
  induction l with
  | nil=>intro acc;simp
  | cons z l ih=>intro acc;rw[pF,ih,hg];simp
 intro ss
 show((ss.drop 1).foldl (λacc p=>acc++g.cps++p.cps) (ss.headD Str.empty).cps).toList=_
 cases ss with
 | nil=>rfl
 | cons z l=>rw[go];simp
theorem joinOk_of{sep:Str}{ss:List Str}{L n:Nat}(h:∀z∈ss,z.length<=L)(hn:ss.length<=n)(hb:n*(L+sep.length)<=16000000):JoinOk sep ss=true:=by
 have go:∀(l:List Str) (a:Nat),(∀z∈l,z.length<=L)->l.foldl (λa x=>a+x.length+sep.length) a<=a+l.length*(L+sep.length):=by
  intro l
  induction l with
  | nil=>intro a _;simp
  | cons z l ih=>
   intro a hz
   have h1:=ih (a+z.length+sep.length) (λy hy=>hz y (eD _ hy))
   have h2:=hz z cS
   rw[pF,rW,Nat.add_mul]
   lia
 unfold JoinOk
 have e:ss.toArray.foldl (λa x=>a+x.length+sep.length) 0=ss.foldl (λa x=>a+x.length+sep.length) 0:=by simp
 rw[e]
 have h1:=go ss 0 h
 have h2:ss.length*(L+sep.length)<=n*(L+sep.length):=Nat.mul_le_mul_right _ hn
 have:¬(ss.foldl (λa x=>a+x.length+sep.length) 0 > sizeLine):=by rw[lX];lia
 unfold Builtin.Str.tooLong
 rw[decide_eq_false this];rfl
def Nm(s:Str):Prop:=1<=s.length/\s.length<=8/\∀c∈s.cps.toList,97<=c/\c<=122
theorem yU:∀n:Nat,n<26->(Str.ofString "abcdefghijklmnopqrstuvwxyz").cps.toList[n]?=some (97+n):=by decide +kernel
theorem oU{i:Int}(h0:0<=i)(h:i<26):mz (Str.ofString "abcdefghijklmnopqrstuvwxyz").cps.toList i=some (97+i.toNat):=by
 have ei:i=((i.toNat:Nat):Int):=by lia
 have q:mz (Str.ofString "abcdefghijklmnopqrstuvwxyz").cps.toList ((i.toNat:Nat):Int)=some (97+i.toNat):=cy (yU i.toNat (by lia))
 rwa [<-ei]at q
def lits:List Str:=["is","not","and","or","then","same","yes","no","say","fix","isa","nota","a"].map Str.ofString
theorem qI:lits.Nodup:=by decide +kernel
theorem qJ:lits.length=13:=rfl
theorem Ad:∀s∈lits,Nm s:=by
 have:∀s∈lits,(decide (1<=s.length)&&decide (s.length<=8)&&s.cps.toList.all λc=>decide (97<=c)&&decide (c<=122))=true:=by decide +kernel
 intro s hs
 have h:=this s hs
 rw[cX,cX]at h
 refine⟨of_decide_eq_true h.1.1,of_decide_eq_true h.1.2,λc hc=>?_⟩
 have:=mJ.mp h.2 c hc
 rw[cX]at this
 exact⟨of_decide_eq_true this.1,of_decide_eq_true this.2⟩
theorem n6{α:Type}{l:List α}(h:∀(i j:Nat) (x:α),i<j->l[i]?=some x->l[j]?=some x->False):l.Nodup:=by
 unfold List.Nodup
 rw[List.pairwise_iff_getElem]
 intro i j hi hj Rq e
 exact h i j l[i] Rq (fL hi) (by rw[fL hj,e])
theorem Hb(K:PySem.W.Frag)(z:Str)(H:Hp):Q5 K "str" (.str z) H=True:=eq_true rfl
theorem nC(ss:List Str):(List.map V.str ss).all gR=true:=by
 rw[mJ];intro x hx;obtain⟨z,_,rfl⟩:=ll.mp hx;rfl
theorem nj(s:Str)(ss:List Str):JG (.str s) (List.map V.str ss)=decide (s∈ss):=by
 induction ss with
 | nil=>rfl
 | cons z ss ih=>
  show(GR (.str z) (.str s)||JG (.str s) (List.map V.str ss))=_
  rw[ih]
  show((z==s)||decide (s∈ss))=_
  by_cases e:s=z
  ·subst e;simp
  ·have:(z==s)=false:=by simpa using λq:z=s=>e q.symm
   rw[this];simp[e]
theorem wK{α:Type} [DecidableEq α]:∀{l r:List α},l.Nodup->(∀x∈l,x∈r)->l.length<=r.length
 | [],_,_,_=>dQ _
 | x::l,r,hn,hs=>by
  have hx:=hs x cS
  have JM:=oE.mp hn
  have:=wK (l:=l) (r:=r.erase x) JM.2 λy hy=>(List.mem_erase_of_ne (λe:y=x=>JM.1 (by rw[<-e];exact hy))).mpr (hs y (eD _ hy))
  rw[List.length_erase_of_mem hx]at this
  have h0:0<r.length:=List.length_pos_of_mem hx
  rw[rW];lia
theorem Fv{ss:List Str}(h:ss.length<13):∃s r,lits.filter (λx=>decide (x∉ss))=s::r/\s∈lits/\s∉ss:=by
 cases e:lits.filter (λx=>decide (x∉ss)) with
 | nil=>
  have:∀x∈lits,x∈ss:=λx hx=>by
   have q:=List.filter_eq_nil_iff.mp e x hx
   simpa using q
  have:=wK qI this
  rw[qJ]at this;lia
 | cons s r=>
  have hm:s∈lits.filter (λx=>decide (x∉ss)):=by rw[e];exact cS
  have:=pU.mp hm
  exact⟨s,r,rfl,this.1,by simpa using this.2⟩
theorem Fm{s:Str}{cs:List Nat}(e:s.cps.toList=cs)(h1:1<=cs.length)(h2:cs.length<=8)(h:∀c∈cs,97<=c/\c<=122):Nm s:=by
 have:=fh s
 rw[e]at this
 exact⟨by lia,by lia,by rw[e];exact h⟩
section
variable {X:Cx}
def Ju(w:World):List V->Hp->VK->Prop:=λvs H Q=>∃a,vs=[.ref a]/\∃ss:List Str,H a=some (.lst (ss.map V.str))/\ss.length<4000/\∀p,H p=none->Q (.ref p) (upd H p (MT w p ss))
theorem Cr(hh:X.A.handled=none):cv X (.type "set") (Ju X.w):=(Cq hh).imp λx H Q ⟨p,e,ss,h,n,q⟩=>⟨p,ss,e,bT h,n,q⟩
def wt(w:World):List V->Hp->VK->Prop:=λvs H Q=>∃a,vs=[.ref a]/\∃ss:List Str,H a=some (MT w a ss)/\ss.length<64/\
 ∀ss':List Str,(∀z,z∈ss'↔z∈ss)->ss'.Nodup->sortedS ss'=true->∀p,H p=none->Q (.ref p) (upd H p (.lst (ss'.map V.str)))
theorem rM(hh:X.A.handled=none):cv X (.builtin "sorted") (wt X.w):=(qQ hh).imp λx H Q ⟨p,e,ss,h,n,q⟩=>⟨p,ss,e,h,n,q⟩
def Jy:List V->Hp->VK->Prop:=λvs H Q=>∃a,vs=[.ref a]/\∃bs:List Bool,H a=some (.lst (bs.map V.bl))/\Q (.bl (bs.all id)) H
theorem Gm:∀{bs:List Bool} {us:List Value},Vals (bs.map V.bl) us->∀(i:Nat) (v:Value),us[i]?=some v->v=.bool (bs.getD i true):=by
 intro bs
 induction bs with
 | nil=>intro us r i v h;cases r;cases i <;> cases h
 | cons b bs ih=>
  intro us r i v h
  rw[ie]at r
  cases r with
  | cons r1 r2=>
   cases r1
   cases i with
   | zero=>cases h;rfl
   | succ i=>exact ih r2 i v (by simpa using h)
theorem all_range:∀(bs:List Bool),((List.range bs.length).all λi=>bs.getD i true)=bs.all id
 | []=>rfl
 | b::bs=>by
  rw[rW,List.range_succ_eq_map,nR,uq,nR,<-all_range bs]
  rfl
theorem tW(hh:X.A.handled=none):cv X (.builtin "all") Jy:=by
 intro pins s σ H vs us Q I rv h
 obtain⟨a,rfl,bs,hq,q⟩:=h
 obtain⟨u,rfl,ru⟩:=vals1 rv
 cases ru
 obtain⟨its,r,pl,hz⟩:=I.list (bT hq)
 have hl:=r.length
 rw[cx]at hl
 have lt:a<s.heap.objs.size:=let ⟨_,e,_⟩:=pl.isList;bI e
 refine call_all_walkS (wpAny_pyIter_list pl.isList ⟨s.heap.objs.size,_,_,_,its.toArray.size,_,_,λi=>bs.getD i true,rfl,(Walks.list (A:=X.A.in1) hh _ a (bV lt) its.toArray).toS,⟨⟨_,eS _ rfl,rfl,rfl⟩,(pl.isList).push _⟩,?_,λs' mv=>?_⟩)
 ·intro i v s1 Q1 E1 hv hq1
  have:v=.bool (bs.getD i true):=Gm r i v (by simpa using hv)
  subst this
  exact aU hq1
 ·rw[cg,<-hl,all_range]
  have k:∀b o,s.heap.get? b=some o->s'.heap.get? b=some o:=λb o e=>mv.heap b o (λz=>absurd (bI e) (by rw[eR.mp z];exact lB _)) (bP _ e)
  have I1:Inv X pins σ H { s with heap:=s'.heap,toks:=s.toks }:=I.un (Un.kept k) (I.cw.kept k)
  exact⟨.bl (bs.all id),H,I1.same rfl mv.gens mv.os,rfl,q⟩
end
section
variable {P:Program}{w:World}{κ:Type} [DecidableEq κ] {knd:PySem.KeyKind P w κ} {A:Around} {E:Value->Shared->Prop} {s:Shared} {a b:Addr} {jb UT:List (κ×Value)}
end
section
variable {X:Cx}
def Tb(neg:Bool):R2:=λx y H Q=>∃a b,x=.ref a/\y=.ref b/\∃jb,H a=some (.dK jb)/\H b=some (.dK jb)/\(∀kv∈jb,∃c,kv.2=.bl c)/\Q (.bl (!neg)) H
end
section
variable {X:Cx}{pins:List (Addr×Obj)}{s:Shared}{σ:St}{H:Hp}{A:Around}
end
section
variable {P:Program}{w:World}{A:Around}{E:Value->Shared->Prop}{s:Shared}
end
section
variable {X:Cx}
end
def RT(x:Str):It:=⟨λi _=>i<x.cps.size,λi H v H'=>H'=H/\∃c,x.cps[i]?=some c/\v=.str ⟨#[c]⟩,λi _=>i=x.cps.size⟩
theorem Dn{P:Program}{w:World}{K:PySem.W.Frag}{tg:Expr}(it:Addr)(x:Str)(t:Tok){n:String}(hn:n = "str_ascii_iterator"\/n = "str_iterator"):Turn P w K tg (RT x) [it] it (λi h=>h.IsStrIter it n x t i) where
 mem:=by simp
 obj:=λi h st b hb=>by
  have e:b=it:=by simpa using hb
  subst e
  obtain⟨o,e,c,d⟩:=st
  exact⟨o,e,λv z=>by rw[d]at z;cases z⟩
 keep:=λi h h' st k=>let ⟨o,ho,r⟩:=st;⟨o,k it (by simp) o ho,r⟩
 item:=by
  intro X hP hw hK hc i pins s σ H E I hf st hg
  subst hP hw hK
  obtain⟨f0,f1,f2,f3,f4,f5⟩:=hf it (by simp)
  have W:Walks X.prog X.w X.A it [it] [it] x.cps.size (SignAt x) (λi h=>h.IsStrIter it n x t i):=by
   rcases hn with rfl | rfl
   ·exact Walks.strAscii (I.ok.hd hc) it x t
   ·exact Walks.strWide (I.ok.hd hc) it x t
  refine W.item i s _ _ hg st λv h' tk hv rg kk=>?_
  obtain⟨c,u,hx,rfl⟩:=hv
  have I1:Inv X pins σ H { s with heap:=h',toks:=tk }:=I.turned (λb o hb e=>kk b o (by simpa using hb) e) f0 f1 f3 f4 f5
  obtain⟨o,e,cc,d⟩:=id rg
  exact⟨_,rfl,Ai (s:={ s with heap:=h',toks:=tk }) e cc d (by rcases hn with rfl | rfl <;> decide) ⟨.str ⟨#[c]⟩,H,I1,⟨u,rfl⟩,⟨rfl,c,hx,rfl⟩,rg,λb hb=>(hf b hb).1⟩⟩
 done:=by
  intro X hP hw hK hc i pins s σ H E I hf st hg
  subst hP hw hK
  have VB:i=x.cps.size:=hg
  subst VB
  obtain⟨f0,f1,f2,f3,f4,f5⟩:=hf it (by simp)
  have W:Walks X.prog X.w X.A it [it] [it] x.cps.size (SignAt x) (λi h=>h.IsStrIter it n x t i):=by
   rcases hn with rfl | rfl
   ·exact Walks.strAscii (I.ok.hd hc) it x t
   ·exact Walks.strWide (I.ok.hd hc) it x t
  exact W.done s _ _ st λh' tk eb=>⟨rfl,I.turned (λb o hb e=>eb b o (by simpa using hb) e) f0 f1 f3 f4 f5⟩
 self:=λA i s Q E st h=>by
  rcases hn with rfl | rfl
  ·exact wpAny_pyIter_striter_ascii st h
  ·exact wpAny_pyIter_striter_wide st h
section
variable {X:Cx}{tg:Expr}
def LW(tl:TE):TI:=λσ H R=>tl σ H λx H1=>∃z,x=.str z/\R (RT z) H1
theorem KR{l:Expr}{tl:TE}(hl:PE X l tl):PI X tg l (LW tl):=by
 intro pins s σ H R I h
 refine cL (hl pins s σ H _ I h) λv s1 ⟨x,H1,I1,r1,q1⟩=>?_
 obtain⟨z,e,q⟩:=q1
 subst e
 obtain⟨t,rfl⟩:=r1
 have fin:∀n,(n = "str_ascii_iterator"\/n = "str_iterator")->PIE X pins σ tg R (.ref s1.heap.objs.size) { s1 with heap:=s1.heap.push { cls:=.type n,data:=.fields #[.str z t,.int 0 0] } }:=λn hn=>by
  refine⟨s1.heap.objs.size,[s1.heap.objs.size],_,_,H1,rfl,I1.kept (t':=s1.toks) λb o e=>bP _ e,Dn _ z t hn,⟨_,eS _ rfl,rfl,rfl⟩,λb hb=>?_,q⟩
  have e:b=s1.heap.objs.size:=by simpa using hb
  subst e
  exact I1.FX (bF _) (I1.cw.fresh (bF _))
 cases ha:z.cps.all (· < 128)
 ·exact wpAny_pyIter_wide ha (fin _ (.inr rfl))
 ·exact wpAny_pyIter_ascii ha (fin _ (.inl rfl))
theorem zy{l:Expr}{tl:TE}(h1:ZE X l tl):ZI X tg l (LW tl):=⟨KR h1.to⟩
end
theorem xk{x:Str}{idx:List Nat}{tt:CB->TT}{te:CB->TE}{σ:St}{Q:VK}{H1:Hp}(Pv:Addr->Nat->List V->Hp->Prop)(h0:∀D,H1 D=none->Pv D 0 [] (upd H1 D (.lst [])))
  (hs:∀D,H1 D=none->∀i c0 ys H,x.cps[i]?=some c0->Pv D i ys H->∀(c:CB),tt c (some (.str ⟨#[c0]⟩)::bR σ idx) H λb H4=>if b=true then te c (some (.str ⟨#[c0]⟩)::bR σ idx) H4 λy H5=>H5 D=some (.lst ys)/\ys.length<sizeLine/\Pv D (i+1) (ys++[y]) (upd H5 D (.lst (ys++[y]))) else Pv D (i+1) ys H4)
  (hd:∀D,H1 D=none->∀ys H,Pv D x.cps.size ys H->Q (.ref D) H):iE (RT x) 1 idx (λ_=>cU 0) tt te σ Q H1:=by
 intro D hD
 refine⟨λi m ys H=>m=x.cps.size-i/\i<=x.cps.size/\Pv D i ys H,⟨x.cps.size,by simp,dQ _,h0 D hD⟩,?_⟩
 rintro i m ys H ⟨rfl,hi,p⟩
 by_cases ml:i<x.cps.size
 ·refine .inr ⟨ml,Pv D (i+1),λmQ H' p'=>⟨x.cps.size-(i+1),by omega,rfl,ml,p'⟩,λc own ho y H' yl=>?_⟩
  obtain⟨e,c0,ec,ey⟩:=yl
  subst e ey
  show(∃cT,cT.length=1/\(own++bR σ idx).set 0 _=cT++bR σ idx)/\tt c ((own++bR σ idx).set 0 _) H' _
  rw[Ic ho]
  exact⟨⟨[_],rfl,rfl⟩,hs D hD i c0 ys H' ec p c⟩
 ·have e:i=x.cps.size:=by omega
  subst e
  exact .inl ⟨rfl,hd D hD ys H p⟩
def Jl(K:PySem.W.Frag)(a:Addr)(D:List (Str×Int)):Prop:=
 ∃o es ep,K.lookup a=some o/\o.ExactDict/\o.data=.dict es ep/\(a==sysModules)=false/\KTD.Rows (λi v=>∃t,v=Value.int i t) es.toList D
section
variable {X:Cx}
def u0(D:List (Str×Int))(te:TE):TE:=λσ H Q=>te σ H λy H1=>∃z,y=.str z/\Q (match KTD.datumAt z D with | some i=>.int i | none=>.non) H1
theorem Cj{D:List (Str×Int)}{z:Str}{d:KTD.Dat}:KTD.datumAt z (D.map λp=>(p.1,KTD.Dat.flat (.int p.2)))=some d->∃i,KTD.datumAt z D=some i/\d=.flat (.int i):=by
 induction D with
 | nil=>intro h;cases h
 | cons p D ih=>
  intro h
  have h':(if decide (z=p.1)=true then some (KTD.Dat.flat (.int p.2)) else KTD.datumAt z (D.map λp=>(p.1,KTD.Dat.flat (.int p.2))))=some d:=h
  show ∃i,(if decide (z=p.1)=true then some p.2 else KTD.datumAt z D)=some i/\_
  split at h'
  ·rename_i hz
   rw[bu hz]
   exact⟨_,rfl,(de h').symm⟩
  ·rename_i hz
   rw[aI hz]
   exact ih h'
theorem y8{D:List (Str×Int)}{z:Str}:KTD.datumAt z (D.map λp=>(p.1,KTD.Dat.flat (.int p.2)))=none->KTD.datumAt z D=none:=by
 induction D with
 | nil=>intro _;rfl
 | cons p D ih=>
  intro h
  have h':(if decide (z=p.1)=true then some (KTD.Dat.flat (.int p.2)) else KTD.datumAt z (D.map λp=>(p.1,KTD.Dat.flat (.int p.2))))=none:=h
  show(if decide (z=p.1)=true then some p.2 else KTD.datumAt z D)=none
  split at h'
  ·cases h'
  ·rename_i hz
   rw[aI hz]
   exact ih h'
theorem Bt{g:Str}{a:Addr}{D:List (Str×Int)}{e:Expr}{ty:TE}{pos apos dc:Pos}(hg:Gl X g)(hm:X.mg g=some (.ref a))(tab:Jl X.K a D)(he:PE X e ty)(m:M1 X (.Name g pos) "get" apos e dc)(hd:(g==("__debug__" : Str))=false:=by decide) :
  PE X (.Call (.Attribute (.Name g pos) "get" apos) [e] [] dc) (u0 D ty):=by
 intro pins s σ H Q I h
 obtain⟨o,es,ep,hk,hx,hdt,lo,rows⟩:=tab
 refine wpAny_Call_method m.base m.few m.line PySem.F.plainAttrs_dict PySem.F.slot_dict_get PySem.F.type_dict_get (kZ I hg hm ?_ hd)
 refine⟨⟨o,I.nG a o hk,hx.1⟩,λb q=>by cases q;exact⟨o,I.nG a o hk,hx.2.1⟩,?_⟩
 rw[m.trees]
 refine Calls.callWith_builtin rfl (Calls.evalArgs_plain (Calls.spliced_cons (cL (he pins s σ H _ I h) λiv s2 ⟨y,H2,I2,ry,z,ez,q⟩=>Calls.spliced_nil ?_)))
 subst ez
 obtain⟨t,rfl⟩:=ry
 have T:KTD.Here s2.heap s2.heap a (D.map λp=>(p.1,KTD.Dat.flat (.int p.2))):=
  ⟨⟨lo,o,es,ep,I2.nG a o hk,hx,hdt,rows.mono (R':=KTD.Dat.At s2.heap) (f:=λi=>KTD.Dat.flat (.int i)) λi v ⟨t,ht⟩=>by rw[ht];exact .int i t⟩,λ_ _ e=>e⟩
 refine call_meetsIn PySem.F.slot_dict_get T.typeIs PySem.F.entry_dict_get (PySem.F.args_dict_get_2 _ _) (KTD.meets_get1 (h₀:=s2.heap)) ⟨T,λd v ha hv=>?_,λhn=>?_⟩
 ·obtain⟨i,ei,rfl⟩:=Cj ha
  rw[ei]at q
  exact⟨.int i,H2,I2.tok _,by have hv2:=hv s2.heap;cases hv2;exact⟨_,rfl⟩,q⟩
 ·rw[y8 hn]at q
  exact⟨.non,H2,I2.tok _,rfl,q⟩
theorem gJ{x:Str}{v:V}{u:Value}{pos:Pos}(hg:Gl X x)(hm:X.mg x=some u)(r:RelV v u)(hd:(x==("__debug__" : Str))=false:=by decide):ZE X (.Name x pos) (tC v):=⟨HY hg hm r hd⟩
theorem yo{g:Str}{a:Addr}{D:List (Str×Int)}{e:Expr}{ty:TE}{pos apos dc:Pos}(hg:Gl X g)(hm:X.mg g=some (.ref a))(tab:Jl X.K a D)(he:ZE X e ty)
  (h1:attributeBase (.Name g pos) "get" X.env (eval (.Name g pos) X.env)=eval (.Name g pos) X.env:=by rfl)
  (h2:((backTo dc (starEach [e] X.env)).all (λx=>!x.1)&&(backToKw dc (keywordEach [] X.env)).all (λx=>x.1.isSome)
  && decide (([e]:List Expr).length+([]:List Keyword).length+(if ([]:List Keyword).isEmpty then 0 else 1)<30))=true:=by rfl)
  (h3:(apos.endLine==dc.line)=true:=by rfl) (h4:backTo dc (starEach [e] X.env)=[(false,eval e X.env)]:=by rfl) (hd:(g==("__debug__" : Str))=false:=by decide) :
  ZE X (.Call (.Attribute (.Name g pos) "get" apos) [e] [] dc) (u0 D ty):=⟨Bt hg hm tab he.to ⟨h1,h2,h3,h4⟩ hd⟩
end
def wa:List DictEntry->List (Str×Int)->Bool
 | [],[]=>true
 | e::es,(x,i)::D=>(match e.key,e.val with | .str y _,.int j _=>y==x&&j==i | _,_=>false)&&wa es D
 | _,_=>false
theorem ql:∀{es:List DictEntry} {D:List (Str×Int)},wa es D=true->KTD.Rows (λi v=>∃t,v=Value.int i t) es D
 | [],[],_=>.nil
 | [],_::_,h=>by cases h
 | e::es,[],h=>by cases h
 | e::es,(x,i)::D,h=>by
  have h':((match e.key,e.val with | .str y _,.int j _=>y==x&&j==i | _,_=>false)&&wa es D)=true:=h
  rw[cX]at h'
  obtain⟨h1,h2⟩:=h'
  split at h1
  ·rename_i y t j u ek ev
   rw[cX,beq_iff_eq,beq_iff_eq]at h1
   exact .cons (t:=t) (by rw[ek,h1.1]) ⟨u,by rw[ev,h1.2]⟩ (ql h2)
  ·cases h1
theorem tab_of{K:PySem.W.Frag}{a:Addr}{es:Array DictEntry}{ep:Nat}{D:List (Str×Int)}(l:K.lookup a=some ⟨.type "dict",none,.dict es ep,#[]⟩)(r:wa es.toList D=true)(n:(a==sysModules)=false):Jl K a D:=
 ⟨_,es,ep,l,⟨rfl,rfl,rfl⟩,rfl,n,ql r⟩
theorem xj{K:PySem.W.Frag}{a:Addr}{zs:List V}{idx:List Nat}{tt:CB->TT}{te:CB->TE}{σ:St}{Q:VK}{H1:Hp}(Pv:Addr->Nat->List V->Hp->Prop)(h0:∀D,H1 D=none->Pv D 0 [] (upd H1 D (.lst [])))
  (hl:∀D,H1 D=none->∀i ys H,i<=zs.length->Pv D i ys H->H a=some (.tup zs))
  (hs:∀D,H1 D=none->∀i x ys H,zs[i]?=some x->Pv D i ys H->∀(c:CB),tt c (some x::bR σ idx) H λb H4=>if b=true then te c (some x::bR σ idx) H4 λy H5=>H5 D=some (.lst ys)/\ys.length<sizeLine/\Pv D (i+1) (ys++[y]) (upd H5 D (.lst (ys++[y]))) else Pv D (i+1) ys H4)
  (hd:∀D,H1 D=none->∀ys H,Pv D zs.length ys H->Q (.ref D) H):iE (M8 K a) 1 idx (λ_=>cU 0) tt te σ Q H1:=by
 intro D hD
 refine⟨λi m ys H=>m=zs.length-i/\i<=zs.length/\Pv D i ys H,⟨zs.length,by simp,dQ _,h0 D hD⟩,?_⟩
 rintro i m ys H ⟨rfl,hi,p⟩
 by_cases ml:i<zs.length
 ·refine .inr ⟨⟨zs,zs[i],cB (hl D hD i ys H hi p),fL ml⟩,Pv D (i+1),λmQ H' p'=>⟨zs.length-(i+1),by omega,rfl,ml,p'⟩,λc own ho y H' yl=>?_⟩
  obtain⟨e,hy⟩:=yl
  subst e
  have ey:=hy zs (cB (hl D hD i ys H' hi p))
  show(∃cT,cT.length=1/\(own++bR σ idx).set 0 _=cT++bR σ idx)/\tt c ((own++bR σ idx).set 0 _) H' _
  rw[Ic ho]
  exact⟨⟨[_],rfl,rfl⟩,hs D hD i y ys H' ey p c⟩
 ·have e:i=zs.length:=by omega
  subst e
  exact .inl ⟨⟨zs,cB (hl D hD _ ys H hi p),bF _⟩,hd D hD ys H p⟩
section
variable {X:Cx}
def Oe:R2:=λx y H Q=>∃i,x=.str i/\∃j,y=.str j/\Q (.bl (!decide (j.cps.toList<i.cps.toList))) H
theorem tD:iN X (compareOp .LtE) Oe:=by
 intro pins s σ H x y v u Q I rx ry h
 obtain⟨i,rfl,j,rfl,q⟩:=h
 obtain⟨t,rfl⟩:=rx
 obtain⟨t',rfl⟩:=ry
 exact PySem.P.le_str (bE I q rfl)
def Oj:R2:=λx y H Q=>∃a b,x=.ref a/\y=.ref b/\∃xs,H a=some (.tup xs)/\∃ys,H b=some (.tup ys)/\xs.length+ys.length<=sizeLine/\
 ∀p H',bA H H'->(∀c,c≠p->H' c=H c)->H' p=some (.tup (xs++ys))->Q (.ref p) H'
def Xw(lo st:Int)(n:Nat):It:=⟨λi _=>i<n,λi H x H'=>H'=H/\x=.int (lo+i*st),λi _=>n<=i⟩
def Pb(ta:TA):TI:=λσ H R=>ta σ H λvs H1=>∃i j:Int,vs=[.int i,.int j,.int 2]/\(0<=i/\i<=1000/\-1<=j/\j<=1000)/\R (Xw i 2 ((j-i+1) / 2).toNat) H1
end
end L2
end
section
namespace L2
open PySem PySem.Spec PyProof.Rows Builtin Builtin.Str
section
variable {X:Cx}
theorem Bi{prog:Program}{w:World}{A:Around}{E:Value->Shared->Prop}{s:Shared}{x y:Str}{t u:Tok}{Q:Value->Shared->Prop}(hy:(y.length==0)=false)(hx:x.length<=sizeLine)(hn:(partsBetween x (occurrences x y 0 x.length (x.length+1)) y.length).length<=sizeLine)
  (q:∀l tk,l.map (·.1)=Txt.split x y->Q (.ref s.heap.objs.size) { s with heap:=s.heap.push { cls:=.type "list",data:=.seq (strValues l).toArray },toks:=tk }) :
  wpAny (model prog w) A (call (.builtin "str.split") [.str x t,.str y u]) Q E s:=by
 by_cases c1:(decide (x.length<y.length)||decide (strKind x<strKind y))=true
 ·refine call_meets F.slot_str_split (nI _ _ _) F.entry_str_split (F.args_str_split_2 _ _) (meets_str_split_cannot_occur x y t u c1) ?_
  exact q [(x,t)] s.toks (by unfold Txt.split;rw[bu c1];rfl)
 ·have n1:=eq_false_of_ne_true c1
  by_cases c2:(occurrences x y 0 x.length (x.length+1)).isEmpty=true
  ·refine call_meets F.slot_str_split (nI _ _ _) F.entry_str_split (F.args_str_split_2 _ _) (meets_str_split_not_found x y t u n1 hy c2) ?_
   exact q [(x,t)] s.toks (by unfold Txt.split;rw[aI c1,bu c2];rfl)
  ·have n2:=eq_false_of_ne_true c2
   refine call_meets F.slot_str_split (nI _ _ _) F.entry_str_split (F.args_str_split_2 _ _) (meets_str_split_sep x y t u n1 hy n2 hx hn) ?_
   have:=q (numbered s.toks (partsBetween x (occurrences x y 0 x.length (x.length+1)) y.length)) (s.toks+(partsBetween x (occurrences x y 0 x.length (x.length+1)) y.length).length) (by rw[numbered_texts];unfold Txt.split;rw[aI c1,aI c2])
   rw[<-strsFrom_eq]at this
   exact this
def Eg:V->List V->Hp->VK->Prop:=λx vs H Q=>∃z sep,x=.str z/\vs=[.str sep]/\(sep.length==0)=false/\z.length<=60000/\∀p,H p=none->Q (.ref p) (upd H p (.lst (List.map V.str (Txt.split z sep))))
theorem oJ:∀l:List (Str×Tok),Vals (List.map V.str (l.map (·.1))) (strValues l)
 | []=>.nil
 | (z,t)::l=>.cons ⟨t,rfl⟩ (oJ l)
theorem split_len(z sep:Str):(Txt.split z sep).length<=z.length+2:=by
 unfold Txt.split
 split
 ·show 1<=_;lia
 ·split
  ·show 1<=_;lia
  ·rw[ye]
   have h1:=StrLaws.occ_length_le_len z sep 0 z.length (z.length+1)
   have h2:∀(cuts:List Nat) (a:Nat),(StrLaws.partsFrom z sep.length a cuts).length=cuts.length+1:=by
    intro cuts
    induction cuts with
    | nil=>intro a;rfl
    | cons c r ih=>intro a;show(StrLaws.partsFrom z sep.length (c+sep.length) r).length+1=_;rw[ih];rfl
   rw[h2];lia
theorem qF:JW X "str.split" Eg:=by
 intro pins s σ H x vs v us Q I rx rv h
 obtain⟨z,sep,rfl,rfl,hs,hz,q⟩:=h
 obtain⟨t,rfl⟩:=rx
 obtain⟨u,rfl,ru⟩:=rv.one
 obtain⟨t2,rfl⟩:=ru
 have big:60002<=sizeLine:=by decide
 have hp:(partsBetween z (occurrences z sep 0 z.length (z.length+1)) sep.length).length<=sizeLine:=by
  rw[ye]
  have h1:=StrLaws.occ_length_le_len z sep 0 z.length (z.length+1)
  have h2:∀(cuts:List Nat) (a:Nat),(StrLaws.partsFrom z sep.length a cuts).length=cuts.length+1:=by
   intro cuts
   induction cuts with
   | nil=>intro a;rfl
   | cons c r ih=>intro a;show(StrLaws.partsFrom z sep.length (c+sep.length) r).length+1=_;rw[ih];rfl
  rw[h2];lia
 refine Bi hs (by lia) hp λl tk hl=>?_
 refine⟨.ref s.heap.objs.size,_,I.laid (t':=tk) (o:=.lst (List.map V.str (Txt.split z sep))) (λb ob q=>bP _ q) (bF _) ?_,rfl,q _ (I.cw.fresh (bF _))⟩
 refine⟨by rw[cx];have:=split_len z sep;lia,strValues l,0,by rw[<-hl];exact oJ l,eS _ rfl⟩
end
end L2
end
section
namespace L2
open PySem PySem.W PyProof.Rows
abbrev fP(p:Array Nat)(i:Nat):Nat:=p.getD i 0
section
variable {b:Nat->Nat->Bool}{n:Nat}
end
section
variable {prog:Program}{w:World}{A:Around}{E:Value->Shared->Prop}{s:Shared}{κ:SortKind}{r:Keyed->Int}{U:Keyed->Prop}
end
section
variable {r:Keyed->Int}{tot o ra rb p:List Keyed}
end
section
variable {r:Keyed->Int}{a b o:Array Keyed}{x y k:Nat}
end
section
variable {prog:Program}{w:World}{A:Around}{E:Value->Shared->Prop}{s:Shared}{κ:SortKind}{r:Keyed->Int}{U:Keyed->Prop}
end
section
variable {r:Keyed->Int}{tot o ra rb p:List Keyed}
end
section
variable {r:Keyed->Int}{a b o:Array Keyed}{x y e:Nat}
end
section
variable {prog:Program}{w:World}{A:Around}{E:Value->Shared->Prop}{s:Shared}{κ:SortKind}{r:Keyed->Int}{U:Keyed->Prop}
end
section
variable {prog:Program}{w:World}{A:Around}{E:Value->Shared->Prop}{s:Shared}{κ:SortKind}{r:Keyed->Int}{a₀:Array Keyed}
end
section
variable {r:Keyed->Int}{xs ys:Array Keyed}
end
section
variable {prog:Program}{w:World}{A:Around}{E:Value->Shared->Prop}{s:Shared}{κ:SortKind}{r:Keyed->Int}{a₀:Array Keyed}
end
section
variable {prog:Program}{w:World}{A:Around}{E:Value->Shared->Prop}{s:Shared}{κ:SortKind}
end
end L2
end
section
namespace L2
open PySem PySem.Spec PySem.W PyProof.Rows Builtin
section
variable {P:Program}{w:World}{A:Around}{E:Value->Shared->Prop}{s:Shared}
end
section
variable {P:Program}{w:World}{H H1:Hp}{h h1 h2:Heap}{e a:Addr}{o:HO}{fs:List Addr}
end
section
variable {X:Cx}{pins:List (Addr×Obj)}{σ:St}{H:Hp}{s:Shared}
end
section
variable {P:Program}{w:World}{H':Hp}{h:Heap}{p a:Addr}
end
section
variable {X:Cx}{pins:List (Addr×Obj)}{σ:St}{H:Hp}{s:Shared}
end
section
variable {P:Program}{w:World}{A:Around}{E:Value->Shared->Prop}{s:Shared}{d it:Addr}{es:Array DictEntry}{ep i:Nat}
end
section
variable {X:Cx}{k:Nat}{f:Addr}{fd:FuncData}{pm g:Str}{e:Expr}{te:TE}{p kp Lh pos:Pos}
end
section
variable {X:Cx}
variable {k:Nat}{f:Addr}{fd:FuncData}{pm g:Str}{e:Expr}{te:TE}{p kp Lh pos:Pos}
end
end L2
namespace L2
open PySem PySem.Spec PySem.W PyProof.Rows Builtin
end L2
end
section
namespace L2
open PySem PySem.Spec PyProof.Rows
section
variable {X:Cx}{tg:Expr}
end
section
variable {X:Cx}{pins:List (Addr×Obj)}{s:Shared}{σ:St}{H:Hp}{A:Around}
end
section
variable {X:Cx}{pins:List (Addr×Obj)}{σ:St}{H:Hp}{s:Shared}
end
section
variable {X:Cx}{elt target iter:Expr}{ifs:List Expr}{scope:Scope}{pos:Pos}{cs xs:List Str}{idx:List Nat}{wi:TI}{g:CB->TG}{tt:CB->TT}{te:CB->TE}
end
section
variable {X:Cx}{N:List Str}{iO:Scope}{elt target iter:Expr}{ifs:List Expr}{scope:Scope}{pos:Pos}{wi:TI}{g:CB->TG}{tt:CB->TT}{te:CB->TE}
end
def lT(c:Nat):List (List Nat)->List Nat
 | []=>[]
 | [x]=>x
 | x::y::r=>x++c::lT c (y::r)
theorem nh(c:Nat):∀ss:List Str,(Str.join ⟨#[c]⟩ ss).cps.toList=lT c (ss.map λz=>z.cps.toList)
 | []=>rfl
 | [x]=>rfl
 | x::y::r=>by
  show(x++(⟨#[c]⟩:Str)++Str.join ⟨#[c]⟩ (y::r)).cps.toList=_
  rw[nA,nA,nh c (y::r)]
  show(x.cps.toList++[c])++lT c (y.cps.toList::r.map λz=>z.cps.toList)=x.cps.toList++c::lT c (y.cps.toList::r.map λz=>z.cps.toList)
  simp
theorem xf{c:Nat}:∀{a b u v:List Nat},c∉a->c∉b->a++c::u=b++c::v->a=b/\u=v
 | [],[],u,v,_,_,h=>by
  injection h with _ h2
  exact⟨rfl,h2⟩
 | [],y::b,u,v,_,hb,h=>by
  injection h with h1 _
  exact absurd (by rw[h1];exact cS) hb
 | x::a,[],u,v,ha,_,h=>by
  injection h with h1 _
  exact absurd (by rw[h1];exact cS) ha
 | x::a,y::b,u,v,ha,hb,h=>by
  injection h with h1 h2
  obtain⟨e1,e2⟩:=xf (λz=>ha (eD _ z)) (λz=>hb (eD _ z)) h2
  exact⟨by rw[h1,e1],e2⟩
theorem tO{c:Nat}:∀{as bs:List (List Nat)},as≠[]->bs≠[]->(∀a∈as,c∉a)->(∀b∈bs,c∉b)->lT c as=lT c bs->as=bs
 | [],_,h,_,_,_,_=>absurd rfl h
 | _::_,[],_,h,_,_,_=>absurd rfl h
 | [a],[b],_,_,_,_,h=>by rw[show a=b from h]
 | [a],b::b2::r,_,_,ha,_,h=>by
  have h':a=b++c::lT c (b2::r):=h
  exact absurd (by rw[h'];simp) (ha a cS)
 | a::a2::r,[b],_,_,_,hb,h=>by
  have h':a++c::lT c (a2::r)=b:=h
  exact absurd (by rw[<-h'];simp) (hb b cS)
 | a::a2::r,b::b2::q,_,_,ha,hb,h=>by
  have h':a++c::lT c (a2::r)=b++c::lT c (b2::q):=h
  obtain⟨e1,e2⟩:=xf (ha a cS) (hb b cS) h'
  rw[e1,tO (by simp) (by simp) (λz hz=>ha z (eD _ hz)) (λz hz=>hb z (eD _ hz)) e2]
theorem lZ(z sep:Str):Txt.split z sep≠[]:=by
 unfold Txt.split
 split
 ·simp
 ·split
  ·simp
  ·rw[ye]
   generalize Builtin.Str.occurrences z sep 0 z.length (z.length+1)=cuts
   cases cuts with
   | nil=>intro h;cases h
   | cons a r=>intro h;cases h
theorem qv{c:Nat}{ws:List Str}(h0:ws≠[])(h:∀w∈ws,c∉w.cps.toList):Txt.split (Txt.join ⟨#[c]⟩ ws) ⟨#[c]⟩=ws:=by
 have e:Str.join ⟨#[c]⟩ (Txt.split (Txt.join ⟨#[c]⟩ ws) ⟨#[c]⟩)=Str.join ⟨#[c]⟩ ws:=by
  rw[StrLaws.join_split];exact pJ _ _
 have e2:=gk (λz:Str=>z.cps.toList) e
 rw[nh,nh]at e2
 have inj:=tO (c:=c) (by simpa using lZ _ _) (by simpa using h0) (λa ha=>?_) (λb hb=>?_) e2
 ·refine(List.map_inj_right (λa b hab=>?_)).mp inj
  cases a;cases b
  congr 1
  exact Array.ext' hab
 ·obtain⟨p,hp,rfl⟩:=ll.mp ha
  exact StrLaws.split_free _ _ p hp
 ·obtain⟨p,hp,rfl⟩:=ll.mp hb
  exact h p hp
theorem kf{sep:Str}:∀{a b:List Str},a≠[]->b≠[]->Txt.join sep (a++b)=Txt.join sep [Txt.join sep a,Txt.join sep b]:=by
 intro a b ha hb
 show Builtin.Str.glued sep (a++b)=Builtin.Str.glued sep [Builtin.Str.glued sep a,Builtin.Str.glued sep b]
 simp only[pJ]
 have assoc:∀x y z:Str,x++y++z=x++(y++z):=λx y z=>by
  cases x;cases y;cases z
  show(⟨_++_++_⟩:Str)=⟨_++(_++_)⟩
  rw[Array.append_assoc]
 induction a with
 | nil=>exact absurd rfl ha
 | cons x r ih=>
  cases r with
  | nil=>
   cases b with
   | nil=>exact absurd rfl hb
   | cons y q=>rfl
  | cons x2 r=>
   have:=ih (by simp)
   show x++sep++Str.join sep (x2::r++b)=(x++sep++Str.join sep (x2::r))++sep++Str.join sep b
   rw[this]
   show x++sep++(Str.join sep (x2::r)++sep++Str.join sep b)=_
   simp only[assoc]
section
variable {prog:Program}{w:World}{A:Around}{E:Value->Shared->Prop}{s:Shared}
theorem zG{jt tv:Addr}{k:Nat}{its:Array Value}{u:Value}{Q:Value->Shared->Prop}(st:s.heap.IsTupleIter jt tv k)(tp:s.heap.IsTuple tv its)(hu:its[k]?=some u)
  (q:∀h',h'.IsTupleIter jt tv (k+1)->Heap.SameBut jt s.heap h'->Q u { s with heap:=h' }):wpAny (model prog w) A (Builtin.SmallTypes.nextOf (.ref jt)) Q E s:=by
 obtain⟨oj,ej,cj,dj⟩:=id st
 obtain⟨ot,et,_,nt,dt⟩:=tp
 unfold Builtin.SmallTypes.nextOf
 refine av (pN (name:=Str.ofString "__next__") st.typeIs zv (lD zv st.typeIs F.entry_tuple_iterator_next ?_ (F.args_tuple_iterator_next_1 _)))
 show wpAny _ _ (field (.ref jt) 0 >>= _) _ _ s
 refine av (eB ej dj (x:=.ref tv) rfl ?_)
 show wpAny _ _ (if (Value.ref tv==Value.none)=true then _ else _) _ _ s
 rw[aI (show ¬((Value.ref tv==Value.none)=true) from cO)]
 show wpAny _ _ (field (.ref jt) 1 >>= _) _ _ s
 refine av (eB ej dj (x:=.int k 0) rfl ?_)
 show wpAny _ _ (seqItems? (.ref tv) >>= _) _ _ s
 refine av (oC et dt ?_)
 simp only[uH,hu]
 refine av (pS ej dj (by simp) (aU ⟨u,rfl,aU (q _ ?_ (uG ..))⟩))
 exact⟨_,lG _ ej (uR (pH dj _)),(Obj.cls_mapFields ..).trans cj,by rw[pH dj];simp[rawInt]⟩
theorem v9{jt tv:Addr}{k:Nat}{its:Array Value}{Q:Value->Shared->Prop}(hh:A.handled=none)(st:s.heap.IsTupleIter jt tv k)(tp:s.heap.IsTuple tv its)(hu:its[k]?=none)
  (q:∀h' e,Heap.ExtBut jt s.heap h'->(∃o,h'.get? e=some o/\o.cls=.type "StopIteration")->E (.ref e) { s with heap:=h' }):wpAny (model prog w) A (Builtin.SmallTypes.nextOf (.ref jt)) Q E s:=by
 obtain⟨oj,ej,cj,dj⟩:=id st
 obtain⟨ot,et,_,nt,dt⟩:=tp
 unfold Builtin.SmallTypes.nextOf
 refine av (pN (name:=Str.ofString "__next__") st.typeIs zv (lD zv st.typeIs F.entry_tuple_iterator_next ?_ (F.args_tuple_iterator_next_1 _)))
 show wpAny _ _ (field (.ref jt) 0 >>= _) _ _ s
 refine av (eB ej dj (x:=.ref tv) rfl ?_)
 show wpAny _ _ (if (Value.ref tv==Value.none)=true then _ else _) _ _ s
 rw[aI (show ¬((Value.ref tv==Value.none)=true) from cO)]
 show wpAny _ _ (field (.ref jt) 1 >>= _) _ _ s
 refine av (eB ej dj (x:=.int k 0) rfl ?_)
 show wpAny _ _ (seqItems? (.ref tv) >>= _) _ _ s
 refine av (oC et dt ?_)
 simp only[uH,hu]
 refine av (nJ (av (pS ej dj (by simp) ?_)));show wpAny _ _ (newExc (.type "StopIteration") [] >>= _) _ _ _
 refine av ?_;simp only[newExc,newTuple];refine av (ik ?_ (by size_fits))
 refine av (m:=firstArgMember _ _) (nM (a:=Value.none) (by first | rfl | (simp only[firstArgMember];rfl)) ?_);refine ik ?_ (by size_fits)
 simp only[raiseNew];refine av (wpAny_handled ?_);first | rw[show A.in1.handled=none from hh] | rw[hh]
 refine av (aU (wpAny_throw ?_));exact q _ _ (((uG ..).extBut.push _).push _) ⟨_,eS _ rfl,rfl⟩
structure Gr(h:Heap)(z TI TO i1 i2 t1 t2:Addr)(f:Value)(k:Nat):Prop where
 z:IsZip h z TI TO f
 ti:IsPair h TI (.ref i1) (.ref i2)
 to:∃a b,IsPair h TO a b
 j1:h.IsTupleIter i1 t1 k
 j2:h.IsTupleIter i2 t2 k
theorem Bd{z TI TO i1 i2 t1 t2:Addr}{k:Nat}{xs ys:Array Value}{x y:Value}{Q:Option Value->Shared->Prop}(D:ZipApart z TI TO i1 i2 t1 t2)(S:Gr s.heap z TI TO i1 i2 t1 t2 .none k)
  (p1:s.heap.IsTuple t1 xs) (p2:s.heap.IsTuple t2 ys) (hx:xs[k]?=some x) (hy:ys[k]?=some y)
  (q:∀h',Gr h' z TI TO i1 i2 t1 t2 (rawInt s.heap.objs.size) (k+1)->IsPair h' s.heap.objs.size x y->(∀c o,c≠z->c≠TO->c≠i1->c≠i2->s.heap.get? c=some o->h'.get? c=some o)->Q (some (.ref s.heap.objs.size)) { s with heap:=h' }) :
  wpAny (model prog w) A (pyNext (.ref z)) Q E s:=by
 obtain⟨hz,hI,⟨a0,b0,hO⟩,j1,j2⟩:=S
 have hT:s.TypeIs (.ref z) "zip":=⟨_,hz,rfl⟩
 unfold pyNext
 refine av (nP (pN (name:=Str.ofString "__next__") hT uw (lD uw hT F.entry_zip_next ?_ (F.args_zip_next_1 _))))
 show wpAny _ _ (field (.ref z) 2 >>= _) _ _ _;refine av (eB hz rfl (x:=.bool false) rfl ?_)
 show wpAny _ _ (field (.ref z) 3 >>= _) _ _ _;refine av (eB hz rfl (x:=.ref TI) rfl ?_)
 refine av (oC hI rfl ?_)
 show wpAny _ _ (Builtin.SmallTypes.ownedTupleIsFree (.ref z) >>= _) _ _ _;refine av ?_;unfold Builtin.SmallTypes.ownedTupleIsFree
 refine av (eB hz rfl (x:=.none) rfl (aU ?_));simp only[fW];refine av (nJ ?_)
 refine av (eB hz rfl (x:=.ref TO) rfl ?_)
 refine av (jS hz (by simp) λg1 L5 b1=>?_)
 replace L5:IsZip g1 z TI TO .ellipsis:=L5
 refine av ?_;simp only[List.zipIdx_cons,List.zipIdx_nil,List.forIn_cons,List.forIn_nil]
 refine av (av (uo ?_));show wpAny _ _ (Builtin.SmallTypes.nextOf (.ref i1) >>= _) _ _ _
 refine av (zG (j1.extBut b1.extBut D.i1z) (p1.extBut b1.extBut D.l1z) hx λg2 j1' b2=>aU ?_)
 have Zu:IsPair g2 TO a0 b0:=b2.extBut _ _ D.TOi1 (b1.extBut _ _ D.TOz hO)
 refine av (oC Zu rfl ?_)
 refine av (wpAny_updateSeq_pair Zu λg3 V0 b3=>?_)
 replace V0:IsPair g3 TO x b0:=V0
 refine av (wpAny_letGo (aU ?_));refine av (av (uo ?_));show wpAny _ _ (Builtin.SmallTypes.nextOf (.ref i2) >>= _) _ _ _
 refine av (zG (((j2.extBut b1.extBut D.i2z).extBut b2.extBut D.i12.symm).extBut b3.extBut D.TOi2.symm) (((p2.extBut b1.extBut D.l2z).extBut b2.extBut D.l2i1).extBut b3.extBut D.l2TO) hy λg4 j2' b4=>aU ?_)
 have Zt:IsPair g4 TO x b0:=b4.extBut _ _ D.TOi2 V0
 refine av (oC Zt rfl ?_)
 refine av (wpAny_updateSeq_pair Zt λg5 Rz b5=>?_)
 replace Rz:IsPair g5 TO x y:=Rz
 refine av (wpAny_letGo (aU (aU ?_)))
 refine av (oC Rz rfl ?_);refine av (wpAny_newTuple ?_)
 have sz:g5.objs.size=s.heap.objs.size:=by rw[b5.1,b4.1,b3.1,b2.1,b1.1]
 have Y1:IsZip g5 z TI TO .ellipsis:=b5.extBut _ _ D.TOz.symm (b4.extBut _ _ D.i2z.symm (b3.extBut _ _ D.TOz.symm (b2.extBut _ _ D.i1z.symm L5)))
 have kp:∀c o,c≠z->c≠TO->c≠i1->c≠i2->s.heap.get? c=some o->g5.get? c=some o:=λc o c1 c2 c3 c4 e=>b5.extBut _ _ c2 (b4.extBut _ _ c4 (b3.extBut _ _ c2 (b2.extBut _ _ c3 (b1.extBut _ _ c1 e))))
 have j15:g5.IsTupleIter i1 t1 (k+1):=((j1'.extBut b3.extBut D.TOi1.symm).extBut b4.extBut D.i12).extBut b5.extBut D.TOi1.symm
 have j25:g5.IsTupleIter i2 t2 (k+1):=j2'.extBut b5.extBut D.TOi2.symm
 have Xy:z<g5.objs.size:=bI Y1
 show wpAny _ _ (Builtin.SmallTypes.ownedTupleHandOut (.ref z) (.ref g5.objs.size) >>= _) _ _ _
 refine av ?_;unfold Builtin.SmallTypes.ownedTupleHandOut
 have hz6:IsZip (g5.push { cls:=.type "tuple",data:=.seq #[x,y] }) z TI TO .ellipsis:=bP _ Y1
 refine av (jS hz6 (by simp) λg7 Vj b7=>?_)
 replace Vj:IsZip g7 z TI TO (rawInt g5.objs.size):=Vj
 refine jS Vj (by simp) λg8 Ri b8=>?_
 replace Ri:IsZip g8 z TI TO (rawInt g5.objs.size):=Ri
 have up:∀c o,c≠z->g5.get? c=some o->g8.get? c=some o:=λc o c1 e=>b8.extBut _ _ c1 (b7.extBut _ _ c1 (bP _ e))
 have hP:IsPair g8 g5.objs.size x y:=b8.extBut _ _ (lA Xy) (b7.extBut _ _ (lA Xy) (eS _ rfl))
 rw[sz]at Ri hP
 refine aU ⟨_,rfl,?_⟩
 show wpAny _ _ (pure (some (Value.ref g5.objs.size))) _ _ _
 rw[sz]
 exact aU (q g8 ⟨Ri,up _ _ D.TIz (kp _ _ D.TIz D.TITO D.TIi1 D.TIi2 hI),⟨_,_,up _ _ D.TOz Rz⟩,j15.at λo e=>up _ o D.i1z e,j25.at λo e=>up _ o D.i2z e⟩ hP λc o c1 c2 c3 c4 e=>up c o c1 (kp c o c1 c2 c3 c4 e))
theorem Dh{z TI TO i1 i2 t1 t2:Addr}{k:Nat}{xs:Array Value}{Q:Option Value->Shared->Prop}(hh:A.handled=none)(D:ZipApart z TI TO i1 i2 t1 t2)(S:Gr s.heap z TI TO i1 i2 t1 t2 .none k)
  (p1:s.heap.IsTuple t1 xs) (hx:xs[k]?=none)
  (q:∀h',(∀c o,c≠z->c≠TO->c≠i1->c≠i2->s.heap.get? c=some o->h'.get? c=some o)->Q none { s with heap:=h' }):wpAny (model prog w) A (pyNext (.ref z)) Q E s:=by
 obtain⟨hz,hI,⟨a0,b0,hO⟩,j1,j2⟩:=S
 have hT:s.TypeIs (.ref z) "zip":=⟨_,hz,rfl⟩
 unfold pyNext
 refine av (nP (pN (name:=Str.ofString "__next__") hT uw (lD uw hT F.entry_zip_next ?_ (F.args_zip_next_1 _))))
 show wpAny _ _ (field (.ref z) 2 >>= _) _ _ _;refine av (eB hz rfl (x:=.bool false) rfl ?_)
 show wpAny _ _ (field (.ref z) 3 >>= _) _ _ _;refine av (eB hz rfl (x:=.ref TI) rfl ?_)
 refine av (oC hI rfl ?_)
 show wpAny _ _ (Builtin.SmallTypes.ownedTupleIsFree (.ref z) >>= _) _ _ _;refine av ?_;unfold Builtin.SmallTypes.ownedTupleIsFree
 refine av (eB hz rfl (x:=.none) rfl (aU ?_));simp only[fW];refine av (nJ ?_)
 refine av (eB hz rfl (x:=.ref TO) rfl ?_)
 refine av (jS hz (by simp) λg1 L5 b1=>?_)
 replace L5:IsZip g1 z TI TO .ellipsis:=L5
 refine av ?_;simp only[List.zipIdx_cons,List.zipIdx_nil,List.forIn_cons,List.forIn_nil]
 refine av (av (uo ?_));show wpAny _ _ (Builtin.SmallTypes.nextOf (.ref i1) >>= _) _ _ _
 refine av (v9 hh (j1.extBut b1.extBut D.i1z) (p1.extBut b1.extBut D.l1z) hx λg2 e b2 he=>?_)
 obtain⟨oe,Vu,Zk⟩:=he
 have Rj:IsZip g2 z TI TO .ellipsis:=b2 _ _ D.i1z.symm L5
 have ne:e≠z:=λv=>by subst v;rw[Rj]at Vu;cases Vu;simp at Zk
 refine jS Rj (by simp) λg3 _ b3=>?_
 refine av (uA (T:="StopIteration") (b:=true) ⟨oe,b3.extBut _ _ ne Vu,Zk⟩ isSubtype_stop ?_)
 exact aU (q _ λc o c1 _ c3 _ v=>b3.extBut _ _ c1 (b2 _ _ c3 (b1.extBut _ _ c1 v)))
abbrev QX(h:Heap)(t1:Addr):Heap:=h.push { cls:=.type "tuple_iterator",data:=.fields #[.ref t1,.int 0 0] }
abbrev QW(h:Heap)(t1 t2:Addr):Heap:=(QX h t1).push { cls:=.type "tuple_iterator",data:=.fields #[.ref t2,.int 0 0] }
abbrev QV(h:Heap)(t1 t2:Addr):Heap:=(QW h t1 t2).push { cls:=.type "tuple",data:=.seq #[.ref h.objs.size,.ref (QX h t1).objs.size] }
abbrev QT(h:Heap)(t1 t2:Addr):Heap:=(QV h t1 t2).push { cls:=.type "tuple",data:=.seq #[.none,.none] }
abbrev M9(h:Heap)(t1 t2:Addr):Heap:=(QT h t1 t2).push { cls:=.type "zip",data:=.fields #[.none,.bool false,.bool false,.ref (QW h t1 t2).objs.size,.ref (QV h t1 t2).objs.size] }
theorem Dg(t1 t2:Addr)(xs ys:Array Value) :
  Meets (Builtin.«zip.__new__» ⟨[.type "zip",.ref t1,.ref t2],[]⟩) (λ_ R s=>s.heap.IsTuple t1 xs/\s.heap.IsTuple t2 ys/\R (.ok (.ret (.ref (QT s.heap t1 t2).objs.size))) { s with heap:=M9 s.heap t1 t2 }):=
 .of_wp λprog w A R s h=>by
  obtain⟨hp,g,d,tk,os⟩:=s;obtain⟨p1,p2,h⟩:=h
  have Ph:=sub_zip
  have q1:Heap.IsTuple (Shared.heap ⟨hp,g,d,tk,os⟩) t1 xs:=p1
  have q2:Heap.IsTuple (Shared.heap ⟨hp.push { cls:=.type "tuple_iterator",data:=.fields #[.ref t1,.int 0 0] },g,d,tk,os⟩) t2 ys:=Heap.IsTuple.push p2 _
  wp_walk using wpAny_pyIter_tuple q1,wpAny_pyIter_tuple q2
  exact⟨_,rfl,h⟩
theorem Cp{t1 t2:Addr}{xs ys:Array Value}{Q:Value->Shared->Prop}(p1:s.heap.IsTuple t1 xs)(p2:s.heap.IsTuple t2 ys)
  (q:∀h',Gr h' (s.heap.objs.size+4) (s.heap.objs.size+2) (s.heap.objs.size+3) s.heap.objs.size (s.heap.objs.size+1) t1 t2 .none 0->(∀c o,s.heap.get? c=some o->h'.get? c=some o)->Q (.ref (s.heap.objs.size+4)) { s with heap:=h' }) :
  wpAny (model prog w) A (call (.type "zip") [.ref t1,.ref t2]) Q E s:=by
 refine callType_new F.called_zip (by decide) (F.typeCall_zip_2 _ _) (F.newCall_zip_2 _ _) (λobj=>F.args_object_init_3 obj _ _) F.entry_zip_new (Dg t1 t2 xs ys) ⟨p1,p2,?_⟩
 have z1:(QX s.heap t1).objs.size=s.heap.objs.size+1:=lC ..
 have z2:(QW s.heap t1 t2).objs.size=s.heap.objs.size+2:=by rw[lC,z1]
 have z3:(QV s.heap t1 t2).objs.size=s.heap.objs.size+3:=by rw[lC,z2]
 have z4:(QT s.heap t1 t2).objs.size=s.heap.objs.size+4:=by rw[lC,z3]
 have e5:(M9 s.heap t1 t2).get? (QT s.heap t1 t2).objs.size=some _:=eS _ rfl
 have e4:(M9 s.heap t1 t2).get? (QV s.heap t1 t2).objs.size=some _:=bP _ (eS _ rfl)
 have e3:(M9 s.heap t1 t2).get? (QW s.heap t1 t2).objs.size=some _:=bP _ (bP _ (eS _ rfl))
 have e2:(M9 s.heap t1 t2).get? (QX s.heap t1).objs.size=some _:=bP _ (bP _ (bP _ (eS _ rfl)))
 have e1:(M9 s.heap t1 t2).get? s.heap.objs.size=some _:=bP _ (bP _ (bP _ (bP _ (eS _ rfl))))
 show _/\_
 rw[z2,z3,z4]at e5
 rw[z1,z2]at e3
 rw[z3]at e4
 rw[z1]at e2
 rw[z4]
 exact⟨⟨_,e5,rfl⟩,q _ ⟨e5,e3,⟨_,_,e4⟩,⟨_,e1,rfl,rfl⟩,⟨_,e2,rfl,rfl⟩⟩ λc o x=>bP _ (bP _ (bP _ (bP _ (bP _ x))))⟩
end
theorem yH{h:Heap}{c:Addr}{o x:Obj}(e:(h.push x).get? c=some o)(ne:c≠h.objs.size):h.get? c=some o:=by
 obtain⟨e1,e2⟩:=Heap.get?_some_iff.mp e
 refine Heap.get?_some_iff.mpr ⟨?_,e2⟩
 cases h
 have ne':¬c=_:=ne
 simpa [Heap.push,Array.getElem?_push,ne']using e1
theorem Inv.zF{X:Cx}{pins:List (Addr×Obj)}{σ:St}{H:Hp}{s:Shared}{h':Heap}{t':Nat}{ch:List Addr}(I:Inv X pins σ H s)(k:∀b o,b∉ch->s.heap.get? b=some o->h'.get? b=some o)(hf:∀b∈ch,rR X pins H b) :
  Inv X pins σ H { s with heap:=h',toks:=t' }:=by
 have OD:∀b u,H b=some u->b∉ch:=λb u e z=>by rw[(hf b z).1]at e;cases e
 refine I.step (g':=s.gens) (d':=s.drawn) (ch:=ch) (λb hb=>⟨(hf b hb).2.2.2.1,(hf b hb).2.1,(hf b hb).2.2.2.2.1,(hf b hb).2.2.2.2.2⟩) (λb o _ _ hc e _=>k b o hc e) (λb o _ _ hc e _=>⟨o.slots,k b o hc e⟩) (λ_ _ _ _ n=>n)
  (λb o hc e=>⟨o,k b o hc e⟩) (λ_ _ e=>e) (λ_ _ _ e=>e) (λb ps e=>⟨#[],by rw[e];simp⟩) (λm hm=>?_) (λb u e=>?_) I.bare
 ·obtain⟨o,es,ep,ho,r⟩:=hm
  exact⟨o,es,ep,k _ o (λz=>(hf _ z).2.1 rfl) ho,r⟩
 ·refine(I.cw b u e).stay (λc v hc q=>k c v ?_ q) (λ_ q=>q) λ_ _ q=>q
  rcases hc with z | z
  ·rw[z];exact OD b u e
  ·exact OD c _ z
def Xv(K : PySem.W.Frag)(a b : Addr)(n : Nat) : It :=
  ⟨λi H => i<n ∧ ∃ xs ys, oV K H a xs ∧ oV K H b ys ∧ xs.length=n ∧ ys.length=n,
   λi H v H' => ∃ p, H p=none ∧ v=.ref p ∧ ∀ xs ys, oV K H a xs → oV K H b ys → ∃ x y, xs[i]?=some x ∧ ys[i]?=some y ∧ H'=upd H p (.tup [x, y]),
   λi H => i=n ∧ ∃ xs, oV K H a xs ∧ xs.length=n⟩
theorem Dm{P:Program}{w:World}{K:PySem.W.Frag}{elts:List Expr}{kk:Nat}{qj:Pos}{z TI TO i1 i2 a b:Addr}(D:ZipApart z TI TO i1 i2 a b)(n:Nat) :
  Turn P w K (.Tuple elts kk qj) (Xv K a b n) [z,TI,TO,i1,i2] z (λi h=>Gr h z TI TO i1 i2 a b .none i) where
 mem:=by simp
 obj:=λi h st c hc=>by
  obtain⟨hz,hI,⟨u,v,hO⟩,⟨o1,e1,_,d1⟩,⟨o2,e2,_,d2⟩⟩:=st
  have xN:c=z\/c=TI\/c=TO\/c=i1\/c=i2:=by simpa using hc
  rcases xN with rfl | rfl | rfl | rfl | rfl
  ·exact⟨_,hz,λv q=>by cases q⟩
  ·exact⟨_,hI,λv q=>by cases q⟩
  ·exact⟨_,hO,λv q=>by cases q⟩
  ·exact⟨_,e1,λv q=>by rw[d1]at q;cases q⟩
  ·exact⟨_,e2,λv q=>by rw[d2]at q;cases q⟩
 keep:=λi h h' st k=>by
  obtain⟨hz,hI,⟨u,v,hO⟩,j1,j2⟩:=st
  exact⟨k z (by simp) _ hz,k TI (by simp) _ hI,⟨u,v,k TO (by simp) _ hO⟩,j1.at λo e=>k i1 (by simp) o e,j2.at λo e=>k i2 (by simp) o e⟩
 item:=by
  intro X hP hw hK hc i pins s σ H E I hf st hg
  subst hP hw hK
  obtain⟨hi,xs,ys,JK,Ni,lx,ly⟩:=hg
  obtain⟨its,rv,p,_⟩:=I.tuple JK
  obtain⟨Vh,Hr,p',_⟩:=I.tuple Ni
  have ex:xs[i]?=some (xs[i]'(by lia)):=fL (by lia)
  have ey:ys[i]?=some (ys[i]'(by lia)):=fL (by lia)
  obtain⟨u,hu,ru⟩:=rv.get ex
  obtain⟨v,hv,SF⟩:=Hr.get ey
  refine Bd D st (show s.heap.IsTuple a its.toArray from p) (show s.heap.IsTuple b Vh.toArray from p') (x:=u) (y:=v) (by simpa using hu) (by simpa using hv) λh' rg hP kp=>?_
  refine⟨_,rfl,wpAny_letOwnedTupleGo_zip (s:={ s with heap:=h' }) rg.z λh2 Rj sb=>?_⟩
  have I1:Inv X pins σ (upd H s.heap.objs.size (.tup [xs[i]'(by lia),ys[i]'(by lia)])) { s with heap:=s.heap.push { cls:=.type "tuple",data:=.seq #[u,v] } }:=
   I.laid (t':=s.toks) (λc o e=>bP _ e) (bF _) ⟨by show 2<=sizeLine;decide,[u,v],.cons ru (.cons SF .nil),_,eS _ rfl,rfl,_,rfl⟩
  have fr:∀c∈[z,TI,TO,i1,i2],c<s.heap.objs.size:=λc hc=>by
   obtain⟨hz,hI,⟨u,v,hO⟩,⟨o1,e1,_⟩,⟨o2,e2,_⟩⟩:=st
   have xN:c=z\/c=TI\/c=TO\/c=i1\/c=i2:=by simpa using hc
   rcases xN with rfl | rfl | rfl | rfl | rfl
   ·exact bI hz
   ·exact bI hI
   ·exact bI hO
   ·exact bI e1
   ·exact bI e2
  have fn:∀c∈[z,TI,TO,i1,i2],(upd H s.heap.objs.size (.tup [xs[i]'(by lia),ys[i]'(by lia)])) c=none:=λc hc=>by
   rw[aG (bV (fr c hc))];exact(hf c hc).1
  have nzP:s.heap.objs.size≠z:=lA (fr z (by simp))
  have I2:Inv X pins σ (upd H s.heap.objs.size (.tup [xs[i]'(by lia),ys[i]'(by lia)])) { s with heap:=h2 }:=by
   refine Inv.zF (s:={ s with heap:=s.heap.push { cls:=.type "tuple",data:=.seq #[u,v] } }) (h':=h2) (t':=s.toks) (ch:=[z,TI,TO,i1,i2]) I1 (λc o hc e=>?_) (λc hc=>⟨fn c hc,(hf c hc).2⟩)
   have n1:c≠z:=λq=>hc (by simp[q])
   have n2:c≠TO:=λq=>hc (by simp[q])
   have n3:c≠i1:=λq=>hc (by simp[q])
   have n4:c≠i2:=λq=>hc (by simp[q])
   by_cases FP:c=s.heap.objs.size
   ·subst FP
    have e':(s.heap.push { cls:=.type "tuple",data:=.seq #[u,v] }).get? s.heap.objs.size=some { cls:=.type "tuple",data:=.seq #[u,v] }:=eS _ rfl
    have e2:(s.heap.push { cls:=.type "tuple",data:=.seq #[u,v] }).get? s.heap.objs.size=some o:=e
    rw[e']at e2;cases e2
    exact sb.extBut _ _ n1 hP
   ·have e0:s.heap.get? c=some o:=yH e FP
    exact sb.extBut _ _ n1 (kp c o n1 n2 n3 n4 e0)
  refine⟨.ref s.heap.objs.size,_,I2,rfl,⟨_,I.cw.fresh (bF _),rfl,λxs' mQ h1 h2'=>?_⟩,?_,fn⟩
  ·rw[I.nW h1 JK,I.nW h2' Ni]
   exact⟨_,_,ex,ey,rfl⟩
  ·exact⟨Rj,sb.extBut _ _ D.TIz rg.ti,(by obtain⟨u',v',e⟩:=rg.to;exact⟨u',v',sb.extBut _ _ D.TOz e⟩),rg.j1.extBut sb.extBut D.i1z,rg.j2.extBut sb.extBut D.i2z⟩
 done:=by
  intro X hP hw hK hc i pins s σ H E I hf st hg
  subst hP hw hK
  obtain⟨hi,xs,JK,lx⟩:=hg
  obtain⟨its,rv,p,_⟩:=I.tuple JK
  have hl:=rv.length
  refine Dh (I.ok.hd hc) D st (show s.heap.IsTuple a its.toArray from p) (by simp;lia) λh' kp=>⟨rfl,?_⟩
  exact I.zF (t':=s.toks) (ch:=[z,TI,TO,i1,i2]) (λc o hc e=>kp c o (λq=>hc (by simp[q])) (λq=>hc (by simp[q])) (λq=>hc (by simp[q])) (λq=>hc (by simp[q])) e) hf
 self:=λ_ _ _ _ _ st h=>wpAny_pyIter_zip st.z h
section
variable {X:Cx}
theorem boot_zip:bootBuiltins "zip" = some (.type "zip"):=by decide +kernel
def LQ(K:PySem.W.Frag)(ta:TA):TI:=λσ H R=>ta σ H λvs H1=>∃a b,vs=[.ref a,.ref b]/\∃xs ys,oV K H1 a xs/\oV K H1 b ys/\xs.length=ys.length/\R (Xv K a b xs.length) H1
theorem KN{a b:Expr}{elts:List Expr}{kk:Nat}{qj:Pos}{ta:TA}{p pos:Pos}(hg:Gl X "zip")(hm:X.mg "zip" = none)(ha:PA X [a,b] ta)(hs:starEach [a,b] X.env=[(false,eval a X.env),(false,eval b X.env)]:=by rfl)(Nn:starEach [b] X.env=[(false,eval b X.env)]:=by rfl) :
  PI X (.Tuple elts kk qj) (.Call (.Name "zip" p) [a,b] [] pos) (LQ X.K ta):=by
 intro pins s σ H R I h
 refine Call_ (qK I hg hm boot_zip (ym (cL (ha pos pins s σ H _ I h) λus s1 ⟨vs,H1,I1,r1,q1⟩=>?_) (by rw[hs,Nn]) (by rw[Nn];rfl)))
 obtain⟨t1,t2,e,xs,ys,hx,hy,hl,q⟩:=q1
 subst e
 cases r1 with
 | cons r rr=>
  cases rr with
  | cons r' rr=>
   cases rr
   cases r
   cases r'
   obtain⟨its,rv,p1,_⟩:=I1.tuple hx
   obtain⟨Vh,Hr,p2,_⟩:=I1.tuple hy
   have l1:t1<s1.heap.objs.size:=let ⟨_,e,_⟩:=p1;bI e
   have l2:t2<s1.heap.objs.size:=let ⟨_,e,_⟩:=p2;bI e
   refine Cp (show s1.heap.IsTuple t1 its.toArray from p1) (show s1.heap.IsTuple t2 Vh.toArray from p2) λh' st k=>?_
   refine wpAny_pyIter_zip st.z ?_
   refine⟨_,[_,_,_,_,_],_,_,H1,rfl,I1.kept (t':=s1.toks) k,Dm (PySem.W.ktu_apart s1.heap.objs.size t1 t2 l1 l2) xs.length,st,λc hc=>?_,q⟩
   have xN:c=s1.heap.objs.size+4\/c=s1.heap.objs.size+2\/c=s1.heap.objs.size+3\/c=s1.heap.objs.size\/c=s1.heap.objs.size+1:=by simpa using hc
   have le:s1.heap.objs.size<=c:=by
    rcases xN with e | e | e | e | e <;> (rw[e];first | exact Nat.le_add_right _ _ | exact bF _)
   exact I1.FX le (I1.cw.fresh le)
theorem G0{a b:Expr}{elts:List Expr}{kk:Nat}{qj:Pos}{ta:TA}{p pos:Pos}(hg:Gl X (Str.ofString "zip"))(hm:X.mg (Str.ofString "zip")=none)(ha:ZA X [a,b] ta)(hs:starEach [a,b] X.env=[(false,eval a X.env),(false,eval b X.env)]:=by rfl)(Nn:starEach [b] X.env=[(false,eval b X.env)]:=by rfl) :
  ZI X (.Tuple elts kk qj) (.Call (.Name (Str.ofString "zip") p) [a,b] [] pos) (LQ X.K ta):=⟨KN hg hm ha.to hs Nn⟩
theorem y2{K:PySem.W.Frag}{a b:Addr}{xs ys:List V}{g:TG}{tb:TS}{D:Ends}{σ:St}{H:Hp}(hl:xs.length=ys.length)(Pv:Nat->St->Hp->Prop)(h0:Pv 0 σ H)(ha:∀i σ H,i<=xs.length->Pv i σ H->H a=some (.tup xs)/\H b=some (.tup ys))
  (hs:∀i x y p σ H,xs[i]?=some x->ys[i]?=some y->H p=none->Pv i σ H->g (.ref p) σ (upd H p (.tup [x,y])) λσ2 H2=>tb { D with nx:=Pv (i+1),ct:=Pv (i+1),bk:=D.nx } σ2 H2) (hd:∀σ H,Pv xs.length σ H->D.nx σ H):qW (Xv K a b xs.length) g tb D σ H:=by
 refine⟨λi m σ H=>m=xs.length-i/\i<=xs.length/\Pv i σ H,⟨xs.length,by simp,dQ _,h0⟩,?_⟩
 rintro i m σ H ⟨rfl,hi,p⟩
 obtain⟨hA,hB⟩:=ha i σ H hi p
 by_cases ml:i<xs.length
 ·refine .inr ⟨⟨ml,xs,ys,cB hA,cB hB,rfl,hl.symm⟩,Pv (i+1),λσ' H' p'=>⟨xs.length-(i+1),by lia,rfl,ml,p'⟩,λv H' yl=>?_⟩
  obtain⟨pp,hp,rfl,hx⟩:=yl
  obtain⟨x,y,ex,ey,rfl⟩:=hx xs ys (cB hA) (cB hB)
  exact hs i x y pp σ H ex ey hp p
 ·have e:i=xs.length:=by lia
  subst e
  exact .inl ⟨⟨rfl,xs,cB hA,rfl⟩,hd σ H p⟩
end
section
variable {P:Program}{w:World}{A:Around}{E:Value->Shared->Prop}{s:Shared}{a:Addr}{l:List (Int×Tok)}
end
section
variable {P:Program}{w:World}{A:Around}{R:Result->Shared->Prop}{I:Addr}{fp wr:List Addr}{G:Array GenState->Array GenState->Prop}{n:Nat}{Pv:Nat->Value->Prop}{St:Nat->Shared->Prop}
end
section
variable {P:Program}{w:World}{A:Around}{E:Value->Shared->Prop}{s:Shared}
end
section
variable {P:Program}{w:World}{A:Around}{E:Value->Shared->Prop}{s:Shared}{a:Addr}{l:List (Int×Tok)}
end
section
variable {P:Program}{w:World}{A:Around}{E:Value->Shared->Prop}{s:Shared}{a:Addr}{es:Array (Int×Value)}{t:SetTable}{ep slot i:Nat}
end
section
variable {P:Program}{w:World}{A:Around}{E:Value->Shared->Prop}{s:Shared}{a:Addr}{l:List (Int×Tok)}
end
section
variable {X:Cx}
end
end L2
end
section
namespace HT
open PySem PyProof.Rows L2
section
variable {prog:Program}{w:World}{A:Around}{E:Value->Shared->Prop}{s:Shared}
end
end HT
namespace L2
open PySem PySem.Spec PyProof.Rows
section
variable {X:Cx}
end
section
variable {X:Cx}{pins:List (Addr×Obj)}{s:Shared}{σ:St}{H:Hp}
end
end L2
end
section
namespace L2
open PySem
theorem dn(K:PySem.W.Frag)(T:String):PySem.W.kitOne K (.type T) (.type T)=some true:=by
 unfold PySem.W.kitOne
 rw[bu (by simp)]
theorem gQ{K:PySem.W.Frag}{A B:String}(h:(Value.type A==Value.type B)=false)(e:PySem.W.kitCls K (.type A) (.type B)=some false):PySem.W.kitOne K (.type A) (.type B)=some false:=by
 unfold PySem.W.kitOne
 rw[aI (by rw[h];exact cO)]
 exact e
end L2
end
section
namespace L2
open PySem PySem.Spec PyProof.Rows
section
variable {P:Program}{w:World}{A:Around}{E:Value->Shared->Prop}{s:Shared}
end
section
variable {X:Cx}
end
section
variable {P:Program}{w:World}{κ:Type} [DecidableEq κ] {knd:PySem.KeyKind P w κ} {A:Around} {E:Value->Shared->Prop} {s:Shared} {a b:Addr} {jb UT:List (κ×Value)}
end
section
variable {X:Cx}
end
section
variable {X:Cx}{pins:List (Addr×Obj)}{σ:St}{H:Hp}{s:Shared}{d:Addr}{o:Obj}{jb:List (Key×V)}
end
section
variable {X:Cx}{tg:Expr}
end
section
variable {X:Cx}
end
section
variable {X:Cx}{N:List Str}{sc:Scope}{pos:Pos}
end
section
variable {X:Cx}
end
end L2
end
section
namespace L2
structure Nx(P R:St->Hp->Prop):Prop where
 to:∀σ H,P σ H->R σ H
theorem di{t u:TS}{D:Ends}{σ:St}{H:Hp}(h:∀R:St->Hp->Prop,Nx (u D) R->t { D with nx:=R } σ H):tSeq t u D σ H:=h (u D) ⟨λ_ _ z=>z⟩
end L2
end
section
namespace L2
open PySem PySem.Spec PyProof.Rows
open PySem.W (Frag Looks)
abbrev QZ:List Value:=[.type "ValueError",.type "Exception",.type "BaseException",.type "object"]
def G5(K:Frag)(n:Addr):Bool:=match K.lookup n with
 | some o=>(match o.data with | .dict es _=>es.toList.all λe=>(match e.key with | .str _ _=>true | _=>false) | _=>false)
 | none=>false
theorem Jp{K:Frag}{h:Heap}{n:Addr}(X:K.In h)(q:G5 K n=true):∃m,h.Ns n m:=by
 unfold G5 at q
 cases e:K.lookup n with
 | none=>rw[e]at q;cases q
 | some o=>
  rw[e]at q
  dsimp only at q
  cases d:o.data with
  | dict es ep=>
   rw[d]at q
   dsimp only at q
   refine⟨nsFind es,o,es,ep,X _ _ e,d,λx hx=>?_,λ_=>rfl⟩
   have:=mJ.mp q x (Array.mem_toList_iff.mpr hx)
   cases k:x.key with
   | str y t=>exact⟨y,t,rfl⟩
   | _=>rw[k]at this;cases this
  | _=>rw[d]at q;cases q
def G4(K:Frag):List Value->Bool
 | .ref a::tl=>(match K.lookup a with
  | some o=>(match o.data with | .cls cd=>G5 K cd.ns&&(PySem.W.nsIn K cd.ns "__init__" == some none) | _=>false)
  | none=>false)&&G4 K tl
 | l=>l==QZ
theorem Jo{K:Frag}{h:Heap}(X:K.In h):∀{l:List Value},G4 K l=true->OwnTail h QZ l
 | .ref a::tl,q=>by
  simp only[G4,cX]at q
  obtain⟨q,r⟩:=q
  cases e:K.lookup a with
  | none=>rw[e]at q;cases q
  | some o=>
   rw[e]at q
   obtain⟨oc,od,da,sl⟩:=o
   cases da with
   | cls cd=>
    simp only[cX,beq_iff_eq]at q
    obtain⟨m,hm⟩:=Jp X q.1
    exact .own (X _ _ e) hm (PySem.W.ns_none_of X hm q.2) (Jo X r)
   | _=>cases q
 | [],q=>by cases eq_of_beq q
 | .type n::tl,q=>by rw[show Value.type n::tl=QZ from eq_of_beq q];exact .base
 | .none::tl,q=>by cases eq_of_beq q
 | .bool _::tl,q=>by cases eq_of_beq q
 | .int _ _::tl,q=>by cases eq_of_beq q
 | .str _ _::tl,q=>by cases eq_of_beq q
 | .builtin _::tl,q=>by cases eq_of_beq q
 | .float _ _::tl,q=>by cases eq_of_beq q
 | .bytes _ _::tl,q=>by cases eq_of_beq q
 | .ellipsis::tl,q=>by cases eq_of_beq q
 | .notImplemented::tl,q=>by cases eq_of_beq q
def mR(K:Frag)(C:Addr):Bool:=match K.lookup C with
 | some o=>o.cls == .type "type" && (match o.data with
  | .cls cd=>!cd.hasDel&&cd.hasDict&&G5 K cd.ns&&(match cd.mro with | v::tl=>v == .ref C&&G4 K tl | []=>false) | _=>false)&&(match o.slots.toList with | [_,_,_,_,some v,_]=>v == .builtin "ValueError.__new__" | _=>false)
 | none=>false
theorem p9{K:Frag}{h:Heap}{C:Addr}(X:K.In h)(q:mR K C=true):∃nm qn N bs bm sn sub ab col dd k0 k1 k2 k3 k5 mN,h.get? C=some (excClassObj nm qn C N bs bm true sn sub ab col dd k0 k1 k2 k3 k5 "ValueError.__new__")/\h.Ns N mN/\OwnTail h QZ bm:=by
 unfold mR at q
 cases e:K.lookup C with
 | none=>rw[e]at q;cases q
 | some o=>
  rw[e]at q
  obtain⟨oc,od,da,sl⟩:=o
  simp only[cX,beq_iff_eq]at q
  obtain⟨⟨rfl,q1⟩,q2⟩:=q
  cases da with
  | cls cd=>
   obtain⟨nm,bs,mro,ns,qn,hd,sn,sub,ab,col,del⟩:=cd
   simp only[cX,vR]at q1
   obtain⟨⟨⟨rfl,rfl⟩,n1⟩,q1⟩:=q1
   cases mro with
   | nil=>cases q1
   | cons v tl=>
    simp only[cX,beq_iff_eq]at q1
    obtain⟨rfl,q1⟩:=q1
    obtain⟨l⟩:=sl
    match l,q2 with
    | [k0,k1,k2,k3,some v,k5],q2=>
     obtain⟨m,hm⟩:=Jp X n1
     have ev:v=.builtin "ValueError.__new__":=eq_of_beq q2
     subst ev
     exact⟨nm,qn,ns,bs,tl,sn,sub,ab,col,od,k0,k1,k2,k3,k5,m,X _ _ e,hm,Jo X q1⟩
  | _=>cases q1
section
variable {prog:Program}{w:World}{A:Around}{E:Value->Shared->Prop}{s:Shared}{K:Frag}{C fI:Addr}
theorem oZ{rest:List Value}{Q:PySem.Fin->Shared->Prop}(X:K.In s.heap)(q:mR K C=true)(hi:PySem.W.findIn K (.ref C) "__init__" = some (some (.builtin "ValueError.__init__")))
  (hq:∀h' t,(∀b o,s.heap.get? b=some o->h'.get? b=some o)->h'.get? (s.heap.objs.size+1)=some { cls:=.ref C,data:=.fields #[.ref t,.none,.none,.none,.bool false,.none] }->Q (.done (.ret (.ref (s.heap.objs.size+1)))) { s with heap:=h' }) (FJ:rest.length<=sizeLine) :
  wpAny (model prog w) A (Builtin.«type.__call__» ⟨.ref C::rest,[]⟩) Q E s:=by
 obtain⟨nm,qn,N,bs,bm,sn,sub,ab,col,dd,k0,k1,k2,k3,k5,mN,hC,hN,T⟩:=p9 X q
 obtain⟨h,g,d,t,os⟩:=s
 dsimp only at X hC hN T hq
 repeat (first | with_reducible refine rT hC ?_ | with_reducible refine wpAny_madeBy_exc hC ?_ | wp_step)
 have FF:=PySem.F.excBase_ValueError
 refine codeAny_call_builtin_code (Code.quiet_builtin _ FF.quiet) (wpAny_check_new_subU FF (by decide +kernel) T hC (codeAny_exc_new_subU FF (by decide +kernel) FF T hC ?_ FJ))
 show wpAny _ _ _ _ _ _
 have kp:∀b o,h.get? b=some o->((h.push { cls:=.type "tuple",data:=.seq rest.toArray }).push { cls:=.ref C,data:=.fields #[.ref h.objs.size,.none,.none,.none,.bool false,.none] }).get? b=some o:=λb o e=>bP _ (bP _ e)
 have e1:((h.push { cls:=.type "tuple",data:=.seq rest.toArray }).push { cls:=.ref C,data:=.fields #[.ref h.objs.size,.none,.none,.none,.bool false,.none] }).get? (h.objs.size+1)=some { cls:=.ref C,data:=.fields #[.ref h.objs.size,.none,.none,.none,.bool false,.none] }:=by heap_get
 generalize ((h.push { cls:=.type "tuple",data:=.seq rest.toArray }).push { cls:=.ref C,data:=.fields #[.ref h.objs.size,.none,.none,.none,.bool false,.none] })=h2 at kp e1 ⊢
 have ZK:=kp _ _ hC
 have X2:K.In h2:=X.keeps kp
 have T2:=T.keeps kp
 have hcC:(Value.ref C::bm).contains (.ref C)=true:=by simp
 unfold isInstance
 repeat (first | with_reducible refine rT e1 ?_ | (with_reducible refine uK ZK ?_;rw[hcC]) | wp_step)
 show wpAny _ _ (typeLookup (.ref C) _) _ _ _
 refine(yd (M:=model prog w) (h:=h2) X2 hi) _ _ _ _ (λ_ _ e=>e) (ic (av (nM (FF.init.bind _) ?_)))
 refine av (lW (xX FF.init.plain FF.initEntry (wpAny_check_init_subU FF T2 ZK e1 rfl ?_)))
 have e3:(h2.push { cls:=.type "tuple",data:=.seq rest.toArray }).get? (h.objs.size+1)=some { cls:=.ref C,data:=.fields #[.ref h.objs.size,.none,.none,.none,.bool false,.none] }:=bP _ e1
 wp_walk
 refine hq _ h2.objs.size (λb o hb=>?_) ?_
 ·rw[mL _ _ (lA (rZ (bI hb)))]
  exact bP _ (kp _ _ hb)
 ·exact(lG (Obj.mapFields λx=>x.setIfInBounds 0 (Value.ref h2.objs.size)) e3 rfl).trans rfl
theorem call_plain{rest:List Value}{Q:Value->Shared->Prop}(X:K.In s.heap)(q:mR K C=true)(hi:PySem.W.findIn K (.ref C) "__init__" = some (some (.builtin "ValueError.__init__")))
  (hq:∀h' t,(∀b o,s.heap.get? b=some o->h'.get? b=some o)->h'.get? (s.heap.objs.size+1)=some { cls:=.ref C,data:=.fields #[.ref t,.none,.none,.none,.bool false,.none] }->Q (.ref (s.heap.objs.size+1)) { s with heap:=h' }) (FJ:rest.length<=sizeLine) :
  wpAny (model prog w) A (call (.ref C) rest) Q E s:=by
 obtain⟨nm,qn,N,bs,bm,sn,sub,ab,col,dd,k0,k1,k2,k3,k5,mN,hC,hN,T⟩:=p9 X q
 obtain⟨h,g,d,t,os⟩:=s
 dsimp only at X hC hN T hq
 have f1:=tc_lookup
 have f2:=tc_bind (.ref C)
 have hT:(⟨h,g,d,t,os⟩:Shared).TypeIs (.ref C) "type":=⟨_,hC,rfl⟩
 refine lW (codeAny_of_tree (show wpAny _ _ (callAny (.ref C) _) _ _ _ from ?_))
 repeat (any_goals (first | assumption | with_reducible refine rT hC ?_ | wp_step))
 refine⟨rfl,codeAny_call_builtin_at (Code.quiet_builtin _ (by decide +kernel)) entry_typeCall (wpAny_check_type_call_sub hC (oZ (s:=⟨h,g,d,t,os⟩) X q hi (λh' t k z=>?_) FJ))⟩
 exact hq h' t k z
end
section
variable {prog:Program}{w:World}{A:Around}{E:Value->Shared->Prop}{s:Shared}{K:Frag}{C e:Addr}{oe:Obj}{vs:Array Value}
end
abbrev Xz(C:Addr)(dx:Option Addr)(t:Addr):Obj:={ cls:=.ref C,dict:=dx,data:=.fields #[.ref t,.none,.none,.none,.bool false,.none] }
section
variable {M:Model}{A:Around}{E:Value->Shared->Prop}{s:Shared}{K:Frag}{C:Addr}{env:Env}
theorem JX{x:Sem Value}{Q:Flow->Shared->Prop}(q:mR K C=true)(hh:A.handled=none)(h:wpAny M A x (λv s₁=>∃e dx t,v=.ref e/\K.In s₁.heap/\s₁.heap.get? e=some (Xz C dx t)/\E (.ref e) s₁) E s) :
  wpAny M A (raiseStmt env (some x) none) Q E s:=by
 unfold raiseStmt
 refine av (eT h (λv s₁ h₁=>?_) λ_ _ z=>z)
 obtain⟨e,dx,t,rfl,X,he,hE⟩:=h₁
 obtain⟨nm,qn,N,bs,bm,sn,sub,ab,col,dd,k0,k1,k2,k3,k5,mN,hC,hN,T⟩:=p9 X q
 have hb:(Value.ref C::bm).contains (.type "BaseException")=true:=by rw[xY,T.hasType (X:="BaseException") (b:=true) (by decide +kernel),Bool.or_true]
 obtain⟨hp,g,d,tk,os⟩:=s₁
 dsimp only at hC he
 repeat (first | with_reducible refine rT he ?_ | (with_reducible refine uK hC ?_;rw[hb]) | wp_step)
 exact xS hh hE
end
def Dc(N:Addr->Prop)(h:Heap)(e C:Addr)(dx:Option Addr):Prop:=N e/\∃vs sl,h.get? e=some ⟨.ref C,dx,.fields vs,sl⟩/\(vs[1]?=some .none\/∃T oT ts,N T/\T≠e/\vs[1]?=some (.ref T)/\h.get? T=some oT/\oT.data=.fields ts/\ts[3]?=some .none)
structure Lv(fs ch:List Addr)(h h':Heap):Prop where
 keep:∀b o,b∉fs->b∉ch->h.get? b=some o->h'.get? b=some o
 slot:∀b o,b∈fs->h.get? b=some o->∃sl,h'.get? b=some { o with slots:=sl }
section
variable {M:Model}{A:Around}{E:Value->Shared->Prop}{s:Shared}{env:Env}{outer:List Env}{base:Heap}{N:Addr->Prop}{e C L:Addr}{dx:Option Addr}
theorem Dk{oe:Obj}{vs:Array Value}{head:Value}{Ja:Bool}{Q:Unit->Shared->Prop}(CV:A.frames=some (env::outer))(hl:s.heap.FunFrames base (env::outer))(hf:env.frame=some L)
  (he:s.heap.get? e=some oe) (hd:oe.data=.fields vs) (hz:1<vs.size)
  (h:∀h' T oT ts,s.heap.objs.size<=T->T≠e->h'.get? e=some { oe with data:=.fields (vs.setIfInBounds 1 (.ref T)) }->h'.get? T=some oT->oT.data=.fields ts->ts[3]?=some (rawInt L)->
   (∀b o,b≠e->b∉mG (env::outer)->s.heap.get? b=some o->h'.get? b=some o)->(∀b o,b∈mG (env::outer)->s.heap.get? b=some o->∃sl,h'.get? b=some { o with slots:=sl })->h'.FunFrames base (env::outer)->Q () { s with heap:=h' }) :
  wpAny M A (do let a <-frameOf env;let pl <-entryPlaceOf L Ja;let b <-EntryCells.newEntry head a .none (rawInt L) .none pl;setField (.ref e) 1 b) Q E s:=by
 have nf:∀b,b∈mG (env::outer)->b≠e:=λb hb z=>by
  obtain⟨_,o,ho,nd⟩:=hl.mem hb
  rw[z,he]at ho;cases ho;exact nd vs hd
 refine av (wpAny_frameOf_fun CV hl hf λh₁ so=>av (wpAny_entryPlaceOf λpl rh=>?_))
 unfold EntryCells.newEntry newFields
 refine av (ik ?_ (rh.sizeOk5 _ _ _ _ _))
 have Zg:h₁.get? e=some oe:=(so.2.1 e λz=>nf e z rfl).trans he
 have k2:∀b o,h₁.get? b=some o->(h₁.push { cls:=.type "traceback",dict:=none,data:=.fields ([head,.ref L,.none,rawInt L,.none]++(if pl.isEmpty then List.replicate 6 Value.none else pl)).toArray }).get? b=some o:=λb o z=>bP _ z
 have t2:=eS h₁ (o:={ cls:=.type "traceback",dict:=none,data:=.fields ([head,.ref L,.none,rawInt L,.none]++(if pl.isEmpty then List.replicate 6 Value.none else pl)).toArray }) rfl
 have t3:([head,.ref L,.none,rawInt L,.none]++(if pl.isEmpty then List.replicate 6 Value.none else pl)).toArray[3]?=some (rawInt L):=by simp
 generalize ([head,.ref L,.none,rawInt L,.none]++(if pl.isEmpty then List.replicate 6 Value.none else pl)).toArray=ts at k2 t2 t3 ⊢
 generalize h₁.push { cls:=.type "traceback",dict:=none,data:=.fields ts }=h₂ at k2 t2 ⊢
 have IW:=k2 _ _ Zg
 have GP:h₁.objs.size≠e:=lA (bI Zg)
 refine pS IW hd hz ?_
 have K5:∀b o,b≠e->h₂.get? b=some o->(h₂.update e (Obj.mapFields (·.setIfInBounds 1 (Value.ref h₁.objs.size)))).get? b=some o:=λb o hb z=>(mL _ _ hb.symm).trans z
 have d3:=pH hd (·.setIfInBounds 1 (Value.ref h₁.objs.size))
 have he3:=lG (Obj.mapFields (·.setIfInBounds 1 (Value.ref h₁.objs.size))) IW (uR d3)
 have R7:∀b o,b∈mG (env::outer)->s.heap.get? b=some o->∃sl,(h₂.update e (Obj.mapFields (·.setIfInBounds 1 (Value.ref h₁.objs.size)))).get? b=some { o with slots:=sl }:=λb o hb z=>by
  obtain⟨sl,e1⟩:=so.2.2 b o z
  exact⟨sl,K5 _ _ (nf b hb) (k2 _ _ e1)⟩
 refine h _ h₁.objs.size _ ts (Nat.le_of_eq so.1.symm) GP ?_ (K5 _ _ GP t2) rfl t3 (λb o hb hf z=>K5 b o hb (k2 _ _ ((so.2.1 b hf).trans z))) R7 ?_
 ·rw[he3]
  obtain⟨oc,od,oda,Gz⟩:=oe
  dsimp only at hd
  subst hd
  rfl
 ·refine hl.of_keeps λb o hb nd=>?_
  obtain⟨sl,e1⟩:=so.2.2 b o hb
  refine⟨_,K5 b _ (λz=>?_) (k2 _ _ e1),rfl⟩
  rw[z,he]at hb;cases hb;exact nd vs hd
theorem Jq{T:Addr}{oe oT:Obj}{vs ts:Array Value}{Q:Unit->Shared->Prop}(he:s.heap.get? e=some oe)(hd:oe.data=.fields vs)(h1:vs[1]?=some (.ref T))(hT:s.heap.get? T=some oT)(hdT:oT.data=.fields ts)(hz:3<ts.size)
  (h:Q () { s with heap:=s.heap.update T (Obj.mapFields (·.setIfInBounds 3 Value.none)) }):wpAny M A (setFlight (.ref e) none) Q E s:=by
 unfold setFlight
 refine av (eB he hd h1 ?_)
 rw[bu (show(Value.ref T != Value.none)=true from by simp)]
 exact pS hT hdT hz h
theorem Dj{Q:Unit->Shared->Prop}(CV:A.frames=some (env::outer))(hl:s.heap.FunFrames base (env::outer))(hf:env.frame=some L)(hN:∀b,s.heap.objs.size<=b->N b)(x:Dc N s.heap e C dx)
  (h:∀h' ch,(∀b∈ch,N b/\∃o vs,s.heap.get? b=some o/\o.data=.fields vs)->Dc N h' e C dx->Lv (mG (env::outer)) ch s.heap h'->Q () { s with heap:=h' }):wpAny M A (noteFrame (.ref e) env) (λ_ s'=>wpAny M A (setFlight (.ref e) none) Q E s') E s:=by
 obtain⟨ne,vs,sl,he,tb⟩:=x
 have fin:∀(ch:List Addr) (rH:∀b∈ch,N b/\∃o vs,s.heap.get? b=some o/\o.data=.fields vs) (s1:Shared) (h':Heap) (T:Addr) (oT:Obj) (ts:Array Value),s1.heap.objs.size=s.heap.objs.size->s1.heap.objs.size<=T->T≠e->h'.get? e=some ⟨.ref C,dx,.fields (vs.setIfInBounds 1 (.ref T)),sl⟩->1<vs.size->h'.get? T=some oT->oT.data=.fields ts->ts[3]?=some (rawInt L)->
   (∀b o,b∉mG (env::outer)->b∉ch->s.heap.get? b=some o->h'.get? b=some o)->(∀b o,b∈mG (env::outer)->s.heap.get? b=some o->∃sl,h'.get? b=some { o with slots:=sl })->s1={ s with heap:=s1.heap }->
   wpAny M A (setFlight (.ref e) none) Q E { s1 with heap:=h' }:=λch rH s1 h' T oT ts hs hT GP e1 hz t1 t2 t3 k1 k2 es=>by
  have v1:(vs.setIfInBounds 1 (Value.ref T))[1]?=some (.ref T):=by simp[hz]
  have z3:=(sj.mp t3).1
  refine Jq (s:={ s1 with heap:=h' }) e1 rfl v1 t1 t2 z3 ?_
  have nT:N T:=hN T (by omega)
  have ot:∀b o,b≠T->h'.get? b=some o->(h'.update T (Obj.mapFields (·.setIfInBounds 3 Value.none))).get? b=some o:=λb o hb z=>(mL _ _ hb.symm).trans z
  have t4:=lG (Obj.mapFields (·.setIfInBounds 3 Value.none)) t1 (uR (pH t2 _))
  have g:=h (h'.update T (Obj.mapFields (·.setIfInBounds 3 Value.none))) ch rH ⟨ne,_,sl,ot _ _ GP.symm e1,.inr ⟨T,_,_,nT,GP,v1,t4,pH t2 _,by simp[z3]⟩⟩ ⟨λb o hb nb z=>ot b o (λy=>?_) (k1 b o hb nb z),λb o hb z=>?_⟩
  ·rw[es];exact g
  ·have:=bI z
   rw[y]at this
   exact absurd this (pO.mpr (by rw[<-hs];exact hT))
  ·obtain⟨Sw,e2⟩:=k2 b o hb z
   refine⟨Sw,ot b _ (λy=>?_) e2⟩
   obtain⟨_,o',vQ,nd⟩:=hl.mem hb
   have:=bI vQ
   rw[y]at this
   exact absurd this (pO.mpr (by rw[<-hs];exact hT))
 unfold noteFrame
 simp only[hf]
 rcases tb with h1 | ⟨T,oT,ts,nT,GP,h1,hT,dT,h3⟩
 ·have hz:=(sj.mp h1).1
  refine av (eB he rfl h1 ?_)
  rw[aI (by decide)]
  exact Dk CV hl hf he rfl hz λh' T oT ts a1 a2 a3 a4 a5 a6 a7 a8 _=>fin [e] (λb hb=>by rw[eR.mp hb];exact⟨ne,_,_,he,rfl⟩) s h' T oT ts rfl a1 a2 a3 hz a4 a5 a6 (λb o hb nb z=>a7 b o (λy=>nb (by rw[y];simp)) hb z) a8 rfl
 ·have hz:=(sj.mp h1).1
  refine av (eB he rfl h1 ?_)
  rw[bu (show(Value.ref T != Value.none)=true by simp)]
  refine av (eB hT dT h3 ?_)
  rw[aI (show ¬((Value.none==rawInt L)=true) by simp[rawInt])]
  refine av (pS hT dT (sj.mp h3).1 ?_)
  have ot:∀b o,b≠T->s.heap.get? b=some o->(s.heap.update T (Obj.mapFields (·.setIfInBounds 3 Value.none))).get? b=some o:=λb o hb z=>(mL _ _ hb.symm).trans z
  have Yc:∀b o,s.heap.get? b=some o->(∀vs,o.data≠.fields vs)->b≠T:=λb o z nd y=>by rw[y,hT]at z;cases z;exact nd ts dT
  have Ro:(s.heap.update T (Obj.mapFields (·.setIfInBounds 3 Value.none))).FunFrames base (env::outer):=hl.of_keeps λb o z nd=>⟨o,ot b o (Yc b o z nd) z,rfl⟩
  have sz:(s.heap.update T (Obj.mapFields (·.setIfInBounds 3 Value.none))).objs.size=s.heap.objs.size:=by simp
  have IW:=ot _ _ GP.symm he
  generalize s.heap.update T (Obj.mapFields (·.setIfInBounds 3 Value.none))=hq at ot Ro sz IW ⊢
  refine Dk (s:={ s with heap:=hq }) CV Ro hf IW rfl hz λh' T' oT' ts' a1 a2 a3 a4 a5 a6 a7 a8 _=>fin [e,T] (λb hb=>?_) { s with heap:=hq } h' T' oT' ts' sz a1 a2 a3 hz a4 a5 a6 (λb o hb nb z=>a7 b o (λy=>nb (by rw[y];simp)) hb (ot b o (λy=>nb (by rw[y];simp)) z)) (λb o hb z=>a8 b o hb (ot b o ?_ z)) rfl
  ·have:b=e\/b=T:=by simpa using hb
   rcases this with rfl | rfl
   ·exact⟨ne,_,_,he,rfl⟩
   ·exact⟨nT,_,_,hT,dT⟩
  ·obtain⟨_,o',vQ,nd⟩:=hl.mem hb
   exact Yc b o' vQ nd
theorem Di{Q:Unit->Shared->Prop}(CV:A.frames=some (env::outer))(hl:s.heap.FunFrames base (env::outer))(hf:env.frame=some L)(hN:∀b,s.heap.objs.size<=b->N b)(x:Dc N s.heap e C dx)
  (h:∀h' ch,(∀b∈ch,N b/\∃o vs,s.heap.get? b=some o/\o.data=.fields vs)->Dc N h' e C dx->Lv (mG (env::outer)) ch s.heap h'->Q () { s with heap:=h' }):wpAny M A (leaving env (.ref e)) Q E s:=av (Dj CV hl hf hN x h)
end
structure XC(K:Frag)(C:Addr):Prop where
 is:mR K C=true
 hd:PySem.W.hasDictIn K C=true
 sa:PySem.W.findIn K (.ref C) "__setattr__" = some (some (.builtin "object.__setattr__"))
 ga:PySem.W.findIn K (.ref C) "__getattribute__" = some (some (.builtin "BaseException.__getattribute__"))
 gn:PySem.W.findIn K (.ref C) "__getattr__" = some none
 ca:PySem.W.findIn K (.ref C) "__class__" = some (some (.builtin "object.__class__"))
 cn:PySem.W.specialIn K (.builtin "object.__class__") "__get__" = some (some (.builtin "getset_descriptor.__get__"))
 ct:PySem.W.takesIn K (.builtin "object.__class__")=some true
 cm:PySem.W.mroIn K C (.type "object")=some true
section
variable {prog:Program}{w:World}{A:Around}{E:Value->Shared->Prop}{s:Shared}{K:Frag}{C e:Addr}{oe:Obj}{od:Option Obj}
theorem J1{Q:Option Value->Shared->Prop}(c:XC K C)(X:K.In s.heap)(I:PySem.W.InstAt s.heap e oe C od)(h:Q (some (.ref C)) { s with toks:=s.toks+1 }):wpAny (model prog w) A (getAttr? (.ref e) "__class__") Q E s:=by
 have hf:PySem.W.findObj K C od "__class__" = some (.bind (.builtin "getset_descriptor.__get__") (.builtin "object.__class__")):=by
  obtain⟨cd,hc,_⟩:=PySem.W.any_some c.hd
  unfold PySem.W.findObj
  rw[hc,pX,c.ca,pX]
  dsimp only
  rw[c.cn,pX]
  dsimp only
  rw[c.ct,pX]
 obtain⟨nm,qn,N,bs,bm,sn,sub,ab,col,dd,k0,k1,k2,k3,k5,mN,hC,hN,T⟩:=p9 X c.is
 obtain⟨hp,g,d,t,os⟩:=s
 dsimp only at X I hC
 have ty:=I.type (M:=model prog w)
 have L1:=yd (M:=model prog w) X c.ga
 have L2:=yd (M:=model prog w) X c.gn
 have L3:=PySem.W.looks_find (M:=model prog w) X I hf
 have FA:=PySem.F.attr_ValueError
 unfold getAttr? getAttrBy? getAttrBy
 refine av (wpAny_mkText (av (nP (ic (av (ty.at (av (L1.at ?_))))))))
 dsimp only
 rw[show(onTheHeap (Value.ref C)&&Value.builtin "BaseException.__getattribute__" == Value.builtin "object.__getattribute__")=false from by rw[show(Value.builtin "BaseException.__getattribute__" == Value.builtin "object.__getattribute__")=false from by decide +kernel];rfl,aI (by decide)]
 refine av (L2.at (av (nP (ic ?_))))
 unfold callGetattribute
 rw[show(false&&onTheHeap (Value.builtin "BaseException.__getattribute__"))=false from rfl,aI (by decide)]
 unfold boundAndCalled
 rw[FA.ga.bind]
 refine av (aU (lW (xX FA.ga.plain PySem.F.entry_bexc_ga ?_)))
 have sub:Looks (model prog w) hp (isInstance (.ref e) (.type "BaseException")) true:=ty.andThen (λA Q E s k z=>by
  obtain⟨h,g,d,t,os⟩:=s
  refine uK (k _ _ hC) ?_
  rw[xY,T.hasType (X:="BaseException") (b:=true) (by decide +kernel),Bool.or_true]
  exact z)
 refine @PySem.W.check_slot (model prog w) _ _ ⟨hp,g,d,t+1,os⟩ "BaseException.__getattribute__" "BaseException" "__getattribute__" (.ref e) [.str "__class__" t] [] _ (by decide +kernel) (by decide +kernel) sub (PySem.F.args_bexc_ga (.ref e) (.str "__class__" t)) ?_
 refine av (aU (av (aU (av (ty.at (av (L3.at ?_)))))))
 refine av (ic (lW (PySem.W.class_get (s:=⟨hp,g,d,t+1,os⟩) (ox:=oe) (od:=od) X I c.cm ?_)))
 refine aU ?_
 show wpAny _ _ (handedOut (.ref C)) _ _ _
 rw[PySem.W.handedOut_of rfl]
 exact aU (aU h)
theorem wZ(c:XC K C):PySem.W.KitX K (.ref e) (.ref C) (λh=>∃oe od,PySem.W.InstAt h e oe C od) where
 ty:=λ_ _ _ ⟨_,_,I⟩=>I.type
 it:=λM h X _=>by
  obtain⟨nm,qn,N,bs,bm,sn,sub,ab,col,dd,k0,k1,k2,k3,k5,mN,hC,hN,T⟩:=p9 X c.is
  intro A' Q' E' s' k q
  unfold isType loadHead
  exact av (wpAny_loadPart (k _ _ hC) (aU q))
 ne:=λh tp dd its n sl X Y4=>by
  obtain⟨nm,qn,N,bs,bm,sn,sub,ab,col,dd,k0,k1,k2,k3,k5,mN,hC,hN,T⟩:=p9 X c.is
  refine Bool.eq_false_iff.mpr λq=>?_
  have e:C=tp:=Value.ref.inj (beq_iff_eq.mp q)
  subst e
  rw[hC]at Y4
  exact absurd (gk (λo:Obj=>o.cls) (de Y4)) (show ¬Value.type "type" = Value.type "tuple" by decide)
 ca:=λX ⟨_,_,I⟩ k=>J1 c X I k
end
def xJ(P:Program)(w:World):CG:=λouter H s E x s'=>∃e C dx H',x=.ref e/\s'.os=s.os/\AllBare s'.gens/\Un (mG outer) [] H H' s.heap s'.heap/\nH P w H' s'.heap/\Dc (λb=>s.heap.objs.size<=b/\H' b=none) s'.heap e C dx/\E (.ref C) dx H'
def XN(X:Cx)(pins:List (Addr×Obj))(H:Hp)(b:Addr):Prop:=X.s₀.heap.objs.size<=b/\H b=none/\b≠X.env.locals/\(∀x c,X.env.cells.lookup x=some c->c≠b)/\∀p∈X.pn++pins,p.1≠b
theorem XN.new{X:Cx}{pins:List (Addr×Obj)}{σ:St}{H H':Hp}{s:Shared}(I:Inv X pins σ H s){b:Addr}(hb:s.heap.objs.size<=b)(hn:H' b=none):XN X pins H' b:=by
 have nb:∀{c:Addr} {o:Obj},s.heap.get? c=some o->c≠b:=λz y=>absurd (bI z) (by rw[y];exact pO.mpr hb)
 refine⟨cN I.sz hb,hn,λy=>?_,λx c e=>?_,λp hp=>nb (I.pin p hp).1⟩
 ·obtain⟨m,⟨o,_,_,ho,_⟩,_⟩:=I.loc
  exact nb ho y.symm
 ·obtain⟨v,o,ho,_⟩:=I.cell x c e
  exact nb ho
def jK(X:Cx)(EH:St->XK):Prop:=∀(pins:List (Addr×Obj)) (σ:St) (H:Hp) (s:Shared) (e C:Addr) (dx:Option Addr),Inv X pins σ H s->Dc (XN X pins H) s.heap e C dx->EH σ (.ref C) dx H->X.xe (.ref e) s
theorem Dc.mono{N N':Addr->Prop}{h:Heap}{e C:Addr}{dx:Option Addr}(k:∀b,N b->N' b)(x:Dc N h e C dx):Dc N' h e C dx:=by
 obtain⟨n,vs,sl,he,tb⟩:=x
 refine⟨k _ n,vs,sl,he,tb.imp id ?_⟩
 rintro⟨T,oT,ts,nT,r⟩
 exact⟨T,oT,ts,k _ nT,r⟩
theorem jK.pass{X:Cx}{EH:St->XK}(L:jK X EH){pins:List (Addr×Obj)}{σ:St}{H:Hp}{s s':Shared}{x:Value}(I:Inv X pins σ H s)(h:xJ X.prog X.w X.stack H s (EH σ) x s'):X.xe x s':=by
 obtain⟨e,C,dx,H',rfl,os,bare,un,cw,xa,q⟩:=h
 have I':Inv X pins σ H' s':=I.call' os un cw bare (λb z=>absurd z (by simp))
 exact L pins σ H' s' e C dx I' (xa.mono λb hb=>.new I hb.1 hb.2) q
section
variable {P:Program}{w:World}{K:Frag}{mg:Str->Option Value}{base:Heap}
theorem Fy{N:List Str}{qual:Str}{scope:Scope}{f:Addr}{cd:Value}{A:Around}{outer:List Env}{s:Shared}{H:Hp}{E:XK}:jK (iY (xJ P w) P w K mg base N qual scope f cd A outer s H E) (λ_=>E):=by
 intro pins σ H1 s1 e C dx I xa hE
 have pz:s.heap.objs.size<=s1.heap.objs.size:=I.sz
 refine Di (L:=s.heap.objs.size) (N:=λb=>s.heap.objs.size<=b/\H1 b=none) (base:=base) I.ok.frames I.stack rfl (λb hb=>⟨cN pz hb,I.cw.fresh hb⟩) (xa.mono λb hb=>⟨hb.1,hb.2.1⟩) λh' ch rH M' lv=>?_
 have nn:∀b o,s.heap.get? b=some o->b∉ch:=λb o z y=>absurd (bI z) (pO.mpr (rH b y).1.1)
 have nf:∀b o,s.heap.get? b=some o->b∉mG outer->b∉mG (envOfC qual scope s.heap.objs.size f cd::outer):=λb o z hb y=>by
  rcases cz.mp (show b∈s.heap.objs.size::mG outer from y) with y | y
  ·have:=bI z
   rw[y]at this
   exact lB _ this
  ·exact hb y
 have sub:∀b,b∈mG outer->b∈mG (envOfC qual scope s.heap.objs.size f cd::outer):=λb hb=>eD (a:=b) s.heap.objs.size hb
 have un:Un (mG outer) [] H H1 s.heap s1.heap:=I.base
 refine⟨e,C,dx,H1,rfl,I.os,I.bare,⟨λb o z n hb hx=>lv.keep b o (nf b o z hb) (nn b o z) (un.keep b o z n hb hx),λb o z n hb hx=>?_,un.free,λb o z hx=>?_,un.tups,un.frzs,un.tbls⟩,λa u z=>?_,M',hE⟩
 ·obtain⟨sl,z1⟩:=un.slot b o z n hb hx
  obtain⟨Nc,z2⟩:=lv.slot b _ (sub b hb) z1
  exact⟨Nc,z2⟩
 ·obtain⟨o',z1⟩:=un.there b o z hx
  by_cases hb:b∈mG (envOfC qual scope s.heap.objs.size f cd::outer)
  ·obtain⟨Nc,z2⟩:=lv.slot b _ hb z1
   exact⟨_,z2⟩
  ·exact⟨o',lv.keep b o' hb (nn b o z) z1⟩
 ·refine(I.cw a u z).stay (λb v hb y=>?_) (λ_ q=>q) λ_ _ q=>q
  have hn:¬H1 b=none:=λy=>by
   rcases hb with rfl | hb
   ·rw[z]at y;cases y
   ·rw[hb]at y;cases y
  exact lv.keep b v (λy=>hn (I.pj b y)) (λy=>hn (rH b y).1.2) y
theorem jM.Q9{x qual:Str}{st:Stmt}{f:Addr}{fd:FuncData}{N ps:List Str}{k:Nat}{sp:Sp}(F:jM K x qual st f fd)(S:bp N ps (aq st))(len:∀vs H Q E,sp vs H Q E->vs.length=ps.length)
  (nk:∀(cI:Value) (A:Around) (outer:List Env) (s:Shared) (H:Hp) (vs:List V) (Q:VK) (E:XK),fH k (A.deeper (envOfC qual (aq st) s.heap.objs.size f cI))->sp vs H Q E->
   HC (iY (xJ P w) P w K mg base N qual (aq st) f cI A outer s H E) N (aq st)->(∀x,(iY (xJ P w) P w K mg base N qual (aq st) f cI A outer s H E).fn x=true)->
   jK (iY (xJ P w) P w K mg base N qual (aq st) f cI A outer s H E) (λ_=>E)->PassesOwn (model P w) (iY (xJ P w) P w K mg base N qual (aq st) f cI A outer s H E).A (iY (xJ P w) P w K mg base N qual (aq st) f cI A outer s H E).env (iY (xJ P w) P w K mg base N qual (aq st) f cI A outer s H E).xe->
   ∃t,Ax (iY (xJ P w) P w K mg base N qual (aq st) f cI A outer s H E) (aZ st) t/\t { nx:=λ_ H'=>Q .non H',rt:=Q } (start N vs) H):cK P w K mg base (xJ P w) (k+1) f fd ps sp:=by
 obtain⟨oc,od,kV,doc,pm,an,cI,ct,Gz,rfl,lk,Ca⟩:=F.ex
 refine JR lk Ca S len λA outer s H vs Q E hr GF=>?_
 obtain⟨t,h,q⟩:=nk cI A outer s H vs Q E hr GF ⟨rfl,rfl⟩ (λ_=>rfl) Fy PassesOwn.leaving
 exact⟨t,h.to,q⟩
end
section
variable {X:Cx}{k:Nat}{f C:Addr}{fd:FuncData}{ps:List Str}{sp:Sp}{EH:St->XK}{x:Str}{p pos:Pos}{e:Expr}{es:List Expr}{t:TA}
def yz(sp:Sp)(EH:St->XK)(t:TA):TE:=λσ H Q=>t σ H λvs H1=>sp vs H1 Q (EH σ)
theorem Hs{pins:List (Addr×Obj)}{σ:St}{H:Hp}{s:Shared}{Q:VK}{us:List Value}{vs:List V}(F:cK X.prog X.w X.K X.mg X.base (xJ X.prog X.w) k f fd ps sp)(hr:fH k X.A)(hb:Binds X.K fd ps [])(hx:jK X EH)
  (I:Inv X pins σ H s) (r:Vals vs us) (h:sp vs H Q (EH σ)):wpAny (model X.prog X.w) X.A (call (.ref f) us) (EP X pins σ Q) X.xe s:=by
 have hl:us.length=ps.length:=by rw[<-r.length];exact F.len _ _ _ _ h
 have b:=hb s us I.nG (by rw[oD];exact hl)
 rw[oD]at b
 refine lW (nO (F.run X.A X.stack s H ⟨us,[]⟩ us vs Q (EH σ) hr I.P8 b r h) λr s' hq=>?_)
 cases r with
 | error e=>exact hx.pass I hq
 | ok fl=>
  cases fl with
  | ret u=>exact I.after hq
  | _=>exact False.elim hq
theorem EY(F:cK X.prog X.w X.K X.mg X.base (xJ X.prog X.w) k f fd ps sp)(hr:fH k X.A)(hg:Gl X x)(hm:X.mg x=some (.ref f))(hk:PySem.W.keepIn X.K (.ref f)=true)(hb:Binds X.K fd ps [])(hx:jK X EH)
  (ha:PA X (e::es) t) (vE:(x==("__debug__" : Str))=false:=by decide) (he:starEach (e::es) X.env=(false,eval e X.env)::starEach es X.env:=by rfl) (rh:(backTo pos (starEach es X.env)).any (·.1)=false:=by rfl) :
  PE X (.Call (.Name x p) (e::es) [] pos) (yz sp EH t):=by
 intro pins s σ H Q I h
 refine pY (kZ I hg hm ?_ vE)
 exact x8 (h₀:=X.base) I.ok.mod.O9 hk (cL (ha pos pins s σ H _ I h) λus s1 ⟨vs,H1,I1,r,q⟩=>⟨I1.nG,Hs F hr hb hx I1 r q⟩) he rh
theorem iT(F:cK X.prog X.w X.K X.mg X.base (xJ X.prog X.w) k f fd ps sp)(hr:fH k X.A)(hg:Gl X x)(hm:X.mg x=some (.ref f))(hk:PySem.W.keepIn X.K (.ref f)=true)(hb:Binds X.K fd ps [])(hx:jK X EH)
  (ha:ZA X (e::es) t) (vE:(x==("__debug__" : Str))=false:=by decide) (he:starEach (e::es) X.env=(false,eval e X.env)::starEach es X.env:=by rfl) (rh:(backTo pos (starEach es X.env)).any (·.1)=false:=by rfl) :
  ZE X (.Call (.Name x p) (e::es) [] pos) (yz sp EH t):=⟨EY F hr hg hm hk hb hx ha.to vE he rh⟩
end
section
variable {X:Cx}{k:Nat}{fI C:Addr}{fd:FuncData}{ps:List Str}{sp:Sp}{EH:St->XK}{x:Str}{np dc pos:Pos}{a:Expr}{t:TA}
def u3(C:Addr)(t:TA)(EH:St->XK):TS:=λ_ σ H=>t σ H λvs H1=>vs.length<=sizeLine/\EH σ (.ref C) none H1
theorem Br(c:XC X.K C)(hi:PySem.W.findIn X.K (.ref C) "__init__" = some (some (.builtin "ValueError.__init__")))(hk:PySem.W.keepIn X.K (.ref C)=true)(hg:Gl X x)(hm:X.mg x=some (.ref C))(hc:X.calm=true)(L:jK X EH)(ha:PA X [a] t)
  (vE:(x==("__debug__" : Str))=false:=by decide) (he:starEach [a] X.env=(false,eval a X.env)::starEach [] X.env:=by rfl) (rh:(backTo dc (starEach [] X.env)).any (·.1)=false:=by rfl) :
  PS X (.Raise (some (.Call (.Name x np) [a] [] dc)) none pos) (u3 C t EH):=by
 intro pins s σ H D I h
 rw[arm_exec_Raise]
 refine av (pP (JX c.is (I.ok.hd hc) ?_))
 refine av (pY (kZ I hg hm ?_ vE))
 refine x8 (h₀:=X.base) I.ok.mod.O9 hk (cL (ha dc pins s σ H _ I h) λus s1 ⟨vs,H1,I1,r,z,q⟩=>⟨I1.nG,?_⟩) he rh
 refine call_plain I1.nG c.is hi (λh' t kp e1=>av (pP (aU ?_))) (by rw[List.nil_append,<-r.length];exact z)
 have I2:Inv X pins σ H1 { s1 with heap:=h' }:=I1.kept (t':=s1.toks) kp
 refine⟨_,none,t,rfl,I2.nG,e1,L pins σ H1 _ _ C none I2 ⟨.new I1 (jO _) (I1.cw.fresh (jO _)),_,_,e1,.inl rfl⟩ q⟩
def Jk(e C:Addr)(dx:Option Addr)(t:Addr):Heap->Prop:=λh=>h.get? e=some (Xz C dx t)
def Hc(C:Addr)(fld:Str)(t:TE)(EH:St->XK):TS:=λ_ σ H=>t σ H λv H1=>∀dx,H1 dx=none->EH σ (.ref C) (some dx) (upd H1 dx (.xd [(fld,v)]))
end
section
variable {X:Cx}{B:Addr}{x:Str}{np dc apos pos pos':Pos}{a b o value:Expr}{t:TA}{ta tv:TE}{fld:Str}
def NX(K:Frag)(t:TA):TE:=λσ H Q=>t σ H λvs H1=>∃e C t0 v,vs=[.ref e,v]/\H1 e=some (.ext (Jk e C none t0))/\XC K C/\∀t',Q .non (upd H1 e (.ext (Jk e C none t')))
def N3(K:Frag)(ta tv:TE)(fld:Str):TS:=λD σ H=>tv σ H λy H1=>ta σ H1 λx H2=>∃e C t,x=.ref e/\H2 e=some (.ext (Jk e C none t))/\XC K C/\PySem.W.takerIn K C fld=some none/\
 ∀dx,H2 dx=none->dx≠e->D.nx σ (upd (upd H2 e (.ext (Jk e C (some dx) t))) dx (.xd [(fld,y)]))
end
def zm(e C:Addr)(dx:Option Addr):Heap->Prop:=λh=>∃vs sl,h.get? e=some ⟨.ref C,dx,.fields vs,sl⟩
section
variable {X:Cx}{pins:List (Addr×Obj)}{σ:St}{H:Hp}{s:Shared}{e C:Addr}{dx:Option Addr}
theorem Inv.left{ch:List Addr}{h':Heap}(I:Inv X pins σ H s)(rH:∀b∈ch,XN X pins H b)(lv:Lv (mG X.stack) ch s.heap h'):Inv X pins σ H { s with heap:=h' }:=by
 refine I.call (H':=H) (g':=s.gens) (t':=s.toks) (d':=s.drawn) (ch:=ch) ⟨λb o z n hb hc=>lv.keep b o hb hc z,λb o z n hb hc=>lv.slot b o hb z,λ_ _ _ n _=>n,λb o z hc=>?_,λ_ _ z=>z,λ_ _ _ z=>z,λb ps z=>⟨#[],by rw[z];simp⟩⟩ (λa u z=>?_) I.bare λb hb=>?_
 ·by_cases hb:b∈mG X.stack
  ·obtain⟨sl,q⟩:=lv.slot b o hb z
   exact⟨_,q⟩
  ·exact⟨o,lv.keep b o hb hc z⟩
 ·refine(I.cw a u z).stay (λb v hb y=>?_) (λ_ q=>q) λ_ _ q=>q
  have hn:¬H b=none:=λy=>by
   rcases hb with rfl | hb
   ·rw[z]at y;cases y
   ·rw[hb]at y;cases y
  exact lv.keep b v (λy=>hn (I.pj b y)) (λy=>hn (rH b y).2.1) y
 ·obtain⟨a,b,c,d,e⟩:=rH b hb
  exact⟨.inr a,c,d,e⟩
theorem Inv.adopt{φ:Heap->Prop}(I:Inv X pins σ H s)(n:XN X pins H e)(hφ:du X.prog X.w (upd H e (.ext φ)) s.heap e (.ext φ)):Inv X pins σ (upd H e (.ext φ)) s:=by
 obtain⟨n1,n2,n3,n4,n5⟩:=n
 have ne:∀{b:Addr} {u:HO},H b=some u->b≠e:=λz y=>by rw[y,n2]at z;cases z
 have n0:∀{b:Addr} {o:Obj},X.s₀.heap.get? b=some o->b≠e:=λz y=>absurd (bI z) (by rw[y];exact pO.mpr n1)
 refine⟨I.ok,I.os,I.bare,⟨I.base.keep,I.base.slot,λb ob z n hx=>by rw[aG (n0 z)];exact I.base.free b ob z n hx,I.base.there,λb xs z=>?_,λb ob u z=>?_,λb ps z=>?_⟩,I.loc,I.cell,by rw[aG n3.symm];exact I.free,λx c z=>by rw[aG (n4 x c z)];exact I.fO x c z,λp hp=>?_,λb u z=>?_,I.len⟩
 ·have e1:=I.base.tups b xs z
  rw[aG (ne e1)];exact e1
 ·have e1:=I.base.frzs b ob u z
  rw[aG (ne e1)];exact e1
 ·obtain⟨m,e1⟩:=I.base.tbls b ps z
  exact⟨m,by rw[aG (ne e1)];exact e1⟩
 ·obtain⟨p1,p2,p3⟩:=I.pin p hp
  exact⟨p1,by rw[aG (n5 p hp)];exact p2,p3⟩
 ·by_cases hb:b=e
  ·subst hb;rw[ak]at z;cases z;exact hφ
  ·rw[aG hb]at z
   exact(I.cw b u z).stay (λ_ _ _ q=>q) (λc q=>by rw[aG (ne q)];exact q) λc xs q=>by rw[aG (ne q)];exact q
theorem JZ{P:Program}{w:World}{H:Hp}{h:Heap}(z:zm e C dx h):du P w H h e (.ext (zm e C dx)):=⟨z,let ⟨_,_,q⟩:=z;⟨_,q⟩,λh1 h2 ⟨vs,sl,a⟩ b=>⟨vs,sl,b _ a⟩⟩
theorem Inv.unbound{i:Nat}{x:Str}{m:Str->Option Value}{u:Option Value}{h':Heap}(I:Inv X pins σ H s)(hN:X.N.Nodup)(hi:X.N[i]?=some x)(hk:X.env.scope.names.lookup x=some .local)
  (hm:s.heap.Ns X.env.locals m) (hn:h'.Ns X.env.locals (λy=>if y=x then u else m y)) (hs:Heap.SameBut X.env.locals s.heap h'):Inv X pins (σ.set i none) H { s with heap:=h' }:=by
 have Nq:i<σ.length:=by rw[I.len];exact(gp.mp hi).1
 obtain⟨m0,hn0,hl⟩:=id I.loc
 have nL:∀{b:Addr} {o:Obj},X.s₀.heap.get? b=some o->b≠X.env.locals:=λz=>bV (dg (bI z) I.ok.above)
 have em:∀y,m0 y=m y:=λy=>by
  obtain⟨o,es,ep,ho,hd,_,r⟩:=hn0
  obtain⟨o',es',RK,vQ,Ru,_,r'⟩:=hm
  rw[ho]at vQ;cases vQ
  rw[hd]at Ru;cases Ru
  rw[<-r y,<-r' y]
 refine⟨I.ok,I.os,I.bare,⟨λb o z n hb hx=>(hs.2 b (nL z)).trans (I.base.keep b o z n hb hx),λb o z n hb hx=>?_,I.base.free,λb o z hx=>?_,I.base.tups,I.base.frzs,I.base.tbls⟩,⟨_,hn,λj y v e1 e2 e3=>?_⟩,λy c z=>?_,I.free,I.fO,λp hp=>?_,λb ob z=>?_,by rw[List.length_set];exact I.len⟩
 ·obtain⟨sl,q⟩:=I.base.slot b o z n hb hx
  exact⟨sl,(hs.2 b (nL z)).trans q⟩
 ·obtain⟨o',q⟩:=I.base.there b o z hx
  exact⟨o',(hs.2 b (nL z)).trans q⟩
 ·by_cases hj:j=i
  ·subst hj
   rw[zt Nq]at e2
   cases e2
  ·rw[yc (iP hj)]at e2
   obtain⟨u',r',q⟩:=hl j y v e1 e2 e3
   refine⟨u',r',?_⟩
   rcases q with ⟨k,z⟩ | ⟨k,c,z,y'⟩
   ·refine .inl ⟨k,?_⟩
    have:y≠x:=λz=>hj (qD hN e1 (z ▸ hi))
    dsimp only
    rw[aI this,<-em];exact z
   ·exact .inr ⟨k,c,z,y'.sameBut hs (I.Jf y c z)⟩
 ·obtain⟨w',q⟩:=I.cell y c z
  exact⟨w',q.sameBut hs (I.Jf y c z)⟩
 ·obtain⟨p1,p2,p3,p4⟩:=I.pin p hp
  exact⟨(hs.2 _ p3).trans p1,p2,p3,p4⟩
 ·refine(I.cw b ob z).stay (λc v hc q=>(hs.2 c λy=>?_).trans q) (λ_ q=>q) λ_ _ q=>q
  rcases hc with rfl | hc
  ·rw[y,I.free]at z;cases z
  ·rw[y,I.free]at hc;cases hc
theorem J0{prog:Program}{w:World}{A:Around}{E:Value->Shared->Prop}{K:Frag}{B:Addr}{Q:Bool->Shared->Prop}(X:K.In s.heap)(q:mR K B=true)(hs:PySem.W.subIn K (.ref C) (.ref B)=some true)(he:zm e C dx s.heap)(h:Q true s) :
  wpAny (model prog w) A (excMatches (.ref e) (.ref B)) Q E s:=by
 obtain⟨nm,qn,N,bs,bm,sn,sub,ab,col,dd,k0,k1,k2,k3,k5,mN,hC,hN,T⟩:=p9 X q
 have hb:(Value.ref B::bm).contains (.type "BaseException")=true:=by rw[xY,T.hasType (X:="BaseException") (b:=true) (by decide +kernel),Bool.or_true]
 obtain⟨vs,sl,o1⟩:=he
 have L:=PySem.W.looks_subIn (M:=model prog w) X hs
 obtain⟨hp,g,d,tk,os⟩:=s
 dsimp only at hC o1 L
 have f:=tc_notTuple
 unfold excMatches
 repeat (first | with_reducible refine rT o1 ?_ | with_reducible refine rT hC ?_ | (with_reducible refine uK hC ?_;rw[hb]) | with_reducible refine L.at ?_ | wp_step)
 exact h
end
@[reducible] def Cx.tri (X:Cx) (xe:Value->Shared->Prop) (pn:List (Addr×Obj)):Cx:={ X with xe:=xe,pn:=pn }
@[reducible] def Cx.CK (X:Cx) (e:Addr):Cx:={ X with A:=X.A.mark (some (.ref e)),calm:=false,xe:=λ_ _=>False }
section
variable {X:Cx}{pins wy:List (Addr×Obj)}{σ:St}{H:Hp}{s:Shared}{e:Addr}{xe:Value->Shared->Prop}
theorem Inv.tri(I:Inv X pins σ H s):Inv (X.tri xe (X.pn++pins)) [] σ H s:=
 ⟨⟨I.ok.mod,I.ok.kind,I.ok.glob,I.ok.blt,I.ok.above,I.ok.inj,I.ok.has,I.ok.JS,I.ok.hd,I.ok.frames,I.ok.Kh,I.ok.P6,I.ok.bs,I.ok.Gk,I.ok.wJ,I.ok.y4,I.ok.nr,I.ok.Jd⟩,I.os,I.bare,I.base,I.loc,I.cell,I.free,I.fO,λp hp=>I.pin p (by rw[oD]at hp;exact hp),I.cw,I.len⟩
theorem Inv.v8(I:Inv (X.tri xe (X.pn++pins)) wy σ H s):Inv X pins σ H s:=
 ⟨⟨I.ok.mod,I.ok.kind,I.ok.glob,I.ok.blt,I.ok.above,I.ok.inj,I.ok.has,I.ok.JS,I.ok.hd,I.ok.frames,I.ok.Kh,I.ok.P6,I.ok.bs,I.ok.Gk,I.ok.wJ,I.ok.y4,I.ok.nr,I.ok.Jd⟩,I.os,I.bare,I.base,I.loc,I.cell,I.free,I.fO,λp hp=>I.pin p (pI _ hp),I.cw,I.len⟩
theorem Inv.CK(I:Inv X pins σ H s):Inv (X.CK e) pins σ H s:=
 ⟨⟨I.ok.mod,I.ok.kind,I.ok.glob,I.ok.blt,I.ok.above,I.ok.inj,I.ok.has,I.ok.JS,λz=>Bool.noConfusion z,I.ok.frames,I.ok.Kh,I.ok.P6,I.ok.bs,I.ok.Gk,I.ok.wJ,I.ok.y4,I.ok.nr,I.ok.Jd⟩,I.os,I.bare,I.base,I.loc,I.cell,I.free,I.fO,I.pin,I.cw,I.len⟩
theorem Inv.zE(ok:X.Ok)(I:Inv (X.CK e) pins σ H s):Inv X pins σ H s:=⟨ok,I.os,I.bare,I.base,I.loc,I.cell,I.free,I.fO,I.pin,I.cw,I.len⟩
end
def Ends.Q0(D:Ends)(i:Nat):Ends:={ nx:=λσ H=>D.nx (σ.set i none) H,rt:=D.rt,bk:=λσ H=>D.bk (σ.set i none) H,ct:=λσ H=>D.ct (σ.set i none) H }
def J'(K:Frag)(i:Nat)(B:Addr)(tb:(St->XK)->TS)(ts:TS):TS:=λD σ H=>∃EH:St->XK,tb EH D σ H/\∀σ' C dx H',EH σ' (.ref C) dx H'->PySem.W.subIn K (.ref C) (.ref B)=some true/\∀e,H' e=none->ts (D.Q0 i) (σ'.set i (some (.ref e))) (upd H' e (.ext (zm e C dx)))
section
variable {X:Cx}{B:Addr}{x n:Str}{np yW pos:Pos}{body suite:List Stmt}{b₀:Stmt}{tb:(St->XK)->TS}{ts:TS}{i:Nat}
theorem kX{pins:List (Addr×Obj)}{σ:St}{H:Hp}{s:Shared}{M:Model}{A:Around}{E:Value->Shared->Prop}{Q:Unit->Shared->Prop}(I:Inv X pins σ H s)(hN:X.N.Nodup)(hi:X.N[i]?=some n)(hk:X.env.scope.names.lookup n=some .local)
  (h:∀s',Inv X pins (σ.set i none) H s'->Q () s'):wpAny M A (do bindName X.env n .none;unbindBehindTheSuite X.env n yW) Q E s:=by
 have Mh:(X.env.scope.kind == .class||(X.env.scope.kind == .module&&X.env.locals != X.env.globals))=false:=by rw[I.ok.kind];rfl
 unfold bindName
 refine av (av (ic (wpAny_point (av (mU (v:=.non) I hN hi (.inl hk) rfl (λs1 I1=>wpAny_point ?_) (.inr hk))))))
 unfold unbindBehindTheSuite
 refine uo ?_
 obtain⟨m,hm,hl⟩:=id I1.loc
 have Nq:i<σ.length:=by rw[I.len];exact(gp.mp hi).1
 obtain⟨u,ru,lk⟩:=hl i n .non hi (by rw[zt Nq]) (.inl hk)
 have hv:∃v,m n=some v:=by
  rcases lk with ⟨_,z⟩ | ⟨k,_⟩
  ·exact⟨_,z⟩
  ·exfalso
   rcases k with k | k
   ·rw[show X.env.kindOf n=X.env.scope.names.lookup n from rfl,hk]at k;cases k
   ·rw[show X.env.kindOf n=X.env.scope.names.lookup n from rfl,hk]at k;cases k
 obtain⟨v,hv⟩:=hv
 refine wpAny_unbindName_local hk hm hv Mh λh' u JM hs'=>h _ ?_
 have I2:=I1.unbound hN hi hk hm JM hs'
 rwa [List.set_set]at I2
theorem G6{M:Model}{A:Around}{E:Value->Shared->Prop}{s:Shared}{N:Addr->Prop}{e C:Addr}{dx:Option Addr}{fs:List Addr}{Q:Unit->Shared->Prop}(hfs:∀b∈fs,∀o vs,s.heap.get? b=some o->o.data≠.fields vs)(x:Dc N s.heap e C dx)
  (h:∀h' ch,(∀b∈ch,N b)->Dc N h' e C dx->Lv fs ch s.heap h'->Q () { s with heap:=h' }):wpAny M A (setFlight (.ref e) none) Q E s:=by
 obtain⟨ne,vs,sl,he,tb⟩:=x
 rcases tb with h1 | ⟨T,oT,ts,nT,GP,h1,hT,dT,h3⟩
 ·unfold setFlight
  refine av (eB he rfl h1 ?_)
  rw[aI (by decide)]
  exact aU (h s.heap [] (λb hb=>absurd hb (by simp)) ⟨ne,vs,sl,he,.inl h1⟩ ⟨λb o _ _ z=>z,λb o _ z=>⟨o.slots,z⟩⟩)
 ·have z3:=(sj.mp h3).1
  refine Jq he rfl h1 hT dT z3 ?_
  have ot:∀b o,b≠T->s.heap.get? b=some o->(s.heap.update T (Obj.mapFields (·.setIfInBounds 3 Value.none))).get? b=some o:=λb o hb z=>(mL _ _ hb.symm).trans z
  have t4:=lG (Obj.mapFields (·.setIfInBounds 3 Value.none)) hT (uR (pH dT _))
  refine h _ [T] (λb hb=>by rw[eR.mp hb];exact nT) ⟨ne,vs,sl,ot _ _ GP.symm he,.inr ⟨T,_,_,nT,GP,h1,t4,pH dT _,by simp[z3]⟩⟩ ⟨λb o _ hb z=>ot b o (λy=>hb (by rw[y];simp)) z,λb o hb z=>⟨o.slots,ot b o (λy=>?_) z⟩⟩
  subst y
  rw[hT]at z
  cases z
  exact hfs b hb oT ts hT dT
theorem MK{pins:List (Addr×Obj)}{σ:St}{H:Hp}{s:Shared}{e C:Addr}{dx:Option Addr}{D:Ends}(I:Inv X pins σ H s)(JL:X.stack=X.env::X.outer)(CV:X.env.frame=some X.env.locals)(hN:X.N.Nodup)(hi:X.N[i]?=some n)(hk:X.env.scope.names.lookup n=some .local)(q:mR X.K B=true)(hg:Gl X x)(hm:X.mg x=some (.ref B))
  (hs:∀e,rj (X.CK e) (b₀::suite) ts) (xa:Dc (XN X pins H) s.heap e C dx) (sb:PySem.W.subIn X.K (.ref C) (.ref B)=some true) (h:ts (D.Q0 i) (σ.set i (some (.ref e))) (upd H e (.ext (zm e C dx)))) (vE:(x==("__debug__" : Str))=false:=by decide) :
  wpAny (model X.prog X.w) X.A (noteFrame (.ref e) X.env) (λ_ s₂=>wpAny (model X.prog X.w) X.A (setFlight (.ref e) none) (λ_ s₃=>wpAny (model X.prog X.w) X.A (handleBy (.ref e) X.env [.ExceptHandler (some (.Name x np)) (some n) (b₀::suite) yW]) (SP X pins D) X.xe s₃) X.xe s₂) X.xe s:=by
 have Mg:=I.ok.frames
 have XJ:=I.stack
 rw[JL]at Mg XJ
 refine Dj (L:=X.env.locals) (base:=X.base) Mg XJ CV (λb hb=>.new I hb (I.cw.fresh hb)) xa λh' ch rH M' lv=>?_
 rw[<-JL]at lv
 have I1:=I.left (λb hb=>(rH b hb).1) lv
 obtain⟨ne,vs,sl,o1,tb1⟩:=M'
 refine wpAny_handleBy_cons (codeAny_handlers_test (kZ (X:=X.CK e) I1.CK hg hm (J0 I1.nG q sb ⟨vs,sl,o1⟩ ?_) vE)) (by intro z;cases z)
 show codeAny _ _ _ _ _
 refine codeAny_handlers_suite_as (G6 (fs:=mG X.stack) (N:=XN X pins H) (λb hb o ws z=>?_) ⟨ne,vs,sl,o1,tb1⟩ λh2 ch2 VJ xa2 lv2=>?_)
 ·obtain⟨_,o',z',nd⟩:=I1.stack.mem hb
  rw[z]at z';cases z'
  exact nd ws
 have I2:=I1.left VJ lv2
 obtain⟨ne2,vs2,Nc,o2,_⟩:=xa2
 have I3:=(I2.adopt (φ:=zm e C dx) ne2 (JZ ⟨vs2,Nc,o2⟩)).CK (e:=e)
 refine mU (X:=X.CK e) (v:=.ref e) I3 hN hi (.inl hk) rfl (λs4 I4=>?_) (.inr hk)
 refine eT (hs e pins s4 _ _ (D.Q0 i) I4 h) (λf s5 q5=>?_) λ_ _ z=>False.elim z
 show wpAny _ _ (do bindName X.env n .none;unbindBehindTheSuite X.env n yW) _ _ _
 cases f with
 | next=>
  obtain⟨σ5,H5,I5,q5⟩:=q5
  exact kX (I5.zE I.ok) hN hi hk λs6 I6=>⟨_,H5,I6,q5⟩
 | brk=>
  obtain⟨σ5,H5,I5,q5⟩:=q5
  exact kX (I5.zE I.ok) hN hi hk λs6 I6=>⟨_,H5,I6,q5⟩
 | cont=>
  obtain⟨σ5,H5,I5,q5⟩:=q5
  exact kX (I5.zE I.ok) hN hi hk λs6 I6=>⟨_,H5,I6,q5⟩
 | ret u=>
  obtain⟨v,σ5,H5,I5,ru,q5⟩:=q5
  exact kX (I5.zE I.ok) hN hi hk λs6 I6=>⟨v,_,H5,I6,ru,q5⟩
theorem KC(JL:X.stack=X.env::X.outer)(CV:X.env.frame=some X.env.locals)(hN:X.N.Nodup)(hi:X.N[i]?=some n)(hk:X.env.scope.names.lookup n=some .local)(q:mR X.K B=true)(hg:Gl X x)(hm:X.mg x=some (.ref B))
  (hb:∀(EH:St->XK) (xe:Value->Shared->Prop) (pn:List (Addr×Obj)),jK (X.tri xe pn) EH->PassesOwn (model X.prog X.w) X.A X.env xe->rj (X.tri xe pn) body (tb EH)) (hs:∀e,rj (X.CK e) (b₀::suite) ts) (vE:(x==("__debug__" : Str))=false:=by decide) :
  PS X (.Try body [.ExceptHandler (some (.Name x np)) (some n) (b₀::suite) yW] [] [] pos) (J' X.K i B tb ts):=by
 intro pins s σ H D I h
 obtain⟨EH,h1,h2⟩:=h
 refine wpAny_Try_except ?_
 have L:jK (X.tri (λv s₁=>wpAny (model X.prog X.w) X.A (noteFrame v X.env) (λ_ s₂=>wpAny (model X.prog X.w) X.A (setFlight v none) (λ_ s₃=>wpAny (model X.prog X.w) X.A (handleBy v X.env [.ExceptHandler (some (.Name x np)) (some n) (b₀::suite) yW]) (SP X pins D) X.xe s₃) X.xe s₂) X.xe s₁) (X.pn++pins)) EH:=by
  intro wy σ' H' s' e C dx I' M' q'
  obtain⟨sb,Nk⟩:=h2 σ' C dx H' q'
  refine MK I'.v8 JL CV hN hi hk q hg hm hs (M'.mono λb hb=>⟨hb.1,hb.2.1,hb.2.2.1,hb.2.2.2.1,λp hp=>hb.2.2.2.2 p (pI _ hp)⟩) sb (Nk e M'.1.2.1) vE
 refine eT (hb EH _ _ L PassesOwn.looking [] s σ H D I.tri h1) (λf s1 q1=>?_) λ_ _ z=>z
 cases f with
 | next=>
  obtain⟨σ1,H1,I1,q1⟩:=q1
  exact aU ⟨σ1,H1,I1.v8,q1⟩
 | brk=>
  obtain⟨σ1,H1,I1,q1⟩:=q1
  exact⟨σ1,H1,I1.v8,q1⟩
 | cont=>
  obtain⟨σ1,H1,I1,q1⟩:=q1
  exact⟨σ1,H1,I1.v8,q1⟩
 | ret u=>
  obtain⟨v,σ1,H1,I1,ru,q1⟩:=q1
  exact⟨v,σ1,H1,I1.v8,ru,q1⟩
end
def xF(H:Hp)(dx:Option Addr):Prop:=∀d,dx=some d->∃fs,H d=some (.xd fs)
section
variable {X:Cx}{pins:List (Addr×Obj)}{σ:St}{H:Hp}{s:Shared}{e C:Addr}{dx:Option Addr}
theorem Jr(I:Inv X pins σ H s)(he:H e=some (.ext (zm e C dx)))(hd:xF H dx):∃oe od,PySem.W.InstAt s.heap e oe C od:=by
 obtain⟨vs,sl,o1⟩:=(I.cw e _ he).1
 cases dx with
 | none=>exact⟨_,none,o1,rfl,rfl,True.intro⟩
 | some d=>
  obtain⟨fs,hd⟩:=hd d rfl
  obtain⟨mA,n,_⟩:=I.cw d _ hd
  obtain⟨od,ho,_⟩:=tL n
  exact⟨_,some od,o1,rfl,rfl,ho⟩
def yF(K:Frag):List V->Hp->VK->Prop:=λvs H Q=>∃e T,vs=[.ref e,.ty T]/\∃C dx,H e=some (.ext (zm e C dx))/\xF H dx/\XC K C/\∃b,PySem.W.kitOne K (.ref C) (.type T)=some b/\Q (.bl b) H
theorem zf:cv X (.builtin "isinstance") (yF X.K):=by
 intro pins s σ H vs us Q I r h
 obtain⟨e,T,rfl,C,dx,he,hd,c,b,hb,q⟩:=h
 obtain⟨u1,u2,rfl,r1,r2⟩:=r.two
 obtain rfl:u1=Value.ref e:=r1
 obtain rfl:u2=Value.type T:=r2
 exact iQ (wZ c) I.nG (Jr I he hd) hb (λz=>by cases z) λtk=>⟨.bl b,H,I.tok _,rfl,q⟩
def yG(K:Frag):List V->Hp->VK->Prop:=λvs H Q=>∃e D,vs=[.ref e,.ref D]/\∃C dx,H e=some (.ext (zm e C dx))/\xF H dx/\XC K C/\∃b,PySem.W.kitOne K (.ref C) (.ref D)=some b/\Q (.bl b) H
theorem zg:cv X (.builtin "isinstance") (yG X.K):=by
 intro pins s σ H vs us Q I r h
 obtain⟨e,D,rfl,C,dx,he,hd,c,b,hb,q⟩:=h
 obtain⟨u1,u2,rfl,r1,r2⟩:=r.two
 obtain rfl:u1=Value.ref e:=r1
 obtain rfl:u2=Value.ref D:=r2
 exact iQ (wZ c) I.nG (Jr I he hd) hb (λz=>by cases z) λtk=>⟨.bl b,H,I.tok _,rfl,q⟩
def Kv(K:Frag):List V->Hp->VK->Prop:=λvs H Q=>∃e p,vs=[.ref e,.ref p]/\∃Ds:List Addr,H p=some (.tup (Ds.map V.ref))/\∃C dx,H e=some (.ext (zm e C dx))/\xF H dx/\XC K C/\∃b,PySem.W.kitAny K (.ref C) (Ds.map Value.ref)=some b/\Q (.bl b) H
def NR(K:Frag)(ta:TE)(f:Str):TE:=λσ H Q=>ta σ H λx H1=>∃e,x=.ref e/\∃C dx,H1 e=some (.ext (zm e C (some dx)))/\XC K C/\PySem.W.findIn K (.ref C) f=some none/\∃fs,H1 dx=some (.xd fs)/\∃v,fs.lookup f=some v/\Q v H1
end
theorem Jz{X:Cx}{P:Program}{w:World}:Passes (xJ P w) X E0:=λ_ _ _ _ _ _ _ h=>by
 obtain⟨_,_,_,_,_,_,_,_,_,_,q⟩:=h
 exact q.elim
section
variable {X:Cx}{N:List Str}{sc:Scope}
theorem hcT{xe:Value->Shared->Prop}{pn:List (Addr×Obj)}(h:HC X N sc):HC (X.tri xe pn) N sc:=⟨h.n,h.s⟩
theorem hfT{xe:Value->Shared->Prop}{pn:List (Addr×Obj)}(h:∀x,X.fn x=true):∀x,(X.tri xe pn).fn x=true:=h
theorem hfS{e:Addr}(h:∀x,X.fn x=true):∀x,(X.CK e).fn x=true:=h
theorem hcS{e:Addr}(h:HC X N sc):HC (X.CK e) N sc:=⟨h.n,h.s⟩
variable {k:Nat}{fI C B:Addr}{fd:FuncData}{ps:List Str}{sp:Sp}{EH:St->XK}{x n fld:Str}{np dc apos yW pos pos':Pos}{a b o value:Expr}{t:TA}{te ta tv:TE}{body suite:List Stmt}{b₀:Stmt}{tb:(St->XK)->TS}{ts:TS}
theorem fB(c:XC X.K C)(hi:PySem.W.findIn X.K (.ref C) "__init__" = some (some (.builtin "ValueError.__init__")))(hk:PySem.W.keepIn X.K (.ref C)=true)(hg:Gl X x)(hm:X.mg x=some (.ref C))(hc:X.calm=true)(L:jK X EH)(ha:ZA X [a] t)
  (vE:(x==("__debug__" : Str))=false:=by decide) (he:starEach [a] X.env=(false,eval a X.env)::starEach [] X.env:=by rfl) (rh:(backTo dc (starEach [] X.env)).any (·.1)=false:=by rfl) :
  ZS X (.Raise (some (.Call (.Name x np) [a] [] dc)) none pos) (u3 C t EH):=⟨Br c hi hk hg hm hc L ha.to vE he rh⟩
theorem xt{K:Frag}(hK:X.K=K):cv X (.builtin "isinstance") (yF K):=hK ▸ zf
theorem kz{K:Frag}(hK:X.K=K):cv X (.builtin "isinstance") (yG K):=hK ▸ zg
theorem De(hc:HC X N sc)(nd:N.Nodup)(i:Nat)(h:yL N sc i n=true)(JL:X.stack=X.env::X.outer)(CV:X.env.frame=some X.env.locals)(q:mR X.K B=true)(hg:Gl X x)(hm:X.mg x=some (.ref B))
  (hb:∀(EH:St->XK) (xe:Value->Shared->Prop) (pn:List (Addr×Obj)),jK (X.tri xe pn) EH->PassesOwn (model X.prog X.w) X.A X.env xe->Ax (X.tri xe pn) body (tb EH)) (hs:∀e,Ax (X.CK e) (b₀::suite) ts) (vE:(x==("__debug__" : Str))=false:=by decide) :
  ZS X (.Try body [.ExceptHandler (some (.Name x np)) (some n) (b₀::suite) yW] [] [] pos) (J' X.K i B tb ts):=
 ⟨KC JL CV (by rw[hc.n];exact nd) (gM hc h).1 (gM hc h).2 q hg hm (λEH xe pn l p=>(hb EH xe pn l p).to) (λe=>(hs e).to) vE⟩
end
section
variable {X:Cx}
def Oi(neg:Bool):R2:=λx y H Q=>∃p q,x=.ref p/\y=.ref q/\∃xs ys:List Str,H p=some (.tup (List.map V.str xs))/\H q=some (.tup (List.map V.str ys))/\Q (.bl (if neg then !decide (xs=ys) else decide (xs=ys))) H
end
end L2
end
section
namespace L2
open PySem PySem.Spec PySem.W PyProof.Rows Builtin
section
variable {prog:Program}{w:World}{A:Around}{E:Value->Shared->Prop}{s:Shared}
end
section
variable {X:Cx}{pins:List (Addr×Obj)}{s:Shared}{σ:St}{H:Hp}{A:Around}
end
section
variable {prog:Program}{w:World}{A:Around}{E:Value->Shared->Prop}{s:Shared}
end
section
variable {prog:Program}{w:World}{A:Around}{E:Value->Shared->Prop}{s:Shared}{h h':Heap}
end
section
variable {X:Cx}{pos pos':Pos}{o i value:Expr}{td ty tv:TE}
end
section
variable {X:Cx}{pos:Pos}{k v:Expr}{tk tv:TE}
end
section
open PySem.SeqAt
open PySem.AutoSeq1 (wpAny_loadPart')
open PySem.MeetsSeq PySem.MeetsSeq2 PySem.MeetsSeq3
end
section
variable {prog:Program}{w:World}{A:Around}{E:Value->Shared->Prop}{s:Shared}
end
section
variable {P:Program}{w:World}{A:Around}{E:Value->Shared->Prop}{s:Shared}
end
section
variable {prog:Program}{w:World}{A:Around}{E:Value->Shared->Prop}{s:Shared}{κ:SortKind}
end
section
variable {X:Cx}{pins:List (Addr×Obj)}{σ:St}{H:Hp}{s:Shared}
end
section
variable {X:Cx}{k:Nat}{f:Addr}{fd:FuncData}{pm g:Str}{e:Expr}{te:TE}{p kp Lh pos:Pos}
end
section
variable {X:Cx}{pins:List (Addr×Obj)}{s:Shared}{σ:St}{H:Hp}{A:Around}
end
section
variable {X:Cx}
end
section
variable {X:Cx}{pins:List (Addr×Obj)}{σ:St}{H:Hp}{s:Shared}{d:Addr}{o:Obj}
end
section
variable {X:Cx}{tg:Expr}
def Em:R2:=λx y H Q=>∃a b,x=.ref a/\y=.ref b/\∃xs,H a=some (.lst xs)/\H b=some (.lst [])/\Q (.bl (decide (xs=[]))) H
theorem qy(hu:X.A.units+1<cLine):iN X (compareOp .Eq) Em:=by
 intro pins s σ H x y v u Q I rx ry h
 refine hide λgG hG=>?_
 obtain⟨a,b,rfl,rfl,xs,h1,h2,q⟩:=h
 refine hG ?_
 cases rx;cases ry
 refine hide λgG hG=>?_
 obtain⟨us,r1,t1,_⟩:=I.list (bT h1)
 obtain⟨ws,r2,t2,_⟩:=I.list (bT h2)
 refine hG ?_
 cases r2
 have l1:=r1.length
 cases xs with
 | nil=>
  cases r1
  exact SeqAt.eq_listAt (e:=λ_=>true) t1.isList t2.isList rfl (by lia) (λj h1 h2=>absurd h1 (Nat.not_lt_zero _)) ⟨.bl true,H,I,rfl,q⟩
 | cons z zs=>exact SeqAt.RcAt.lists_lengths t1.isList t2.isList (by rw[cg,<-l1];rfl) (by lia) _ _ _ _ ⟨.bl false,H,I,rfl,q⟩
end
end L2
end
section
namespace L2
open PySem PySem.Spec PyProof.Rows Builtin Builtin.Str
section
variable {X:Cx}
def El(neg:Bool):R2:=λx y H Q=>∃(c:Nat) (z:Str),x=.str ⟨#[c]⟩/\y=.str z/\Q (.bl (if neg then !decide (c∈z.cps.toList) else decide (c∈z.cps.toList))) H
theorem wF:iN X (compareOp .NotIn) (El true):=by
 intro pins s σ H x y v u Q I rx ry h
 obtain⟨c,z,rfl,rfl,q⟩:=h
 obtain⟨t,rfl⟩:=rx
 obtain⟨t',rfl⟩:=ry
 refine P.notIn_str ?_
 rw[StrLaws.found_one]
 exact⟨.bl _,H,I.tok _,rfl,q⟩
theorem qO{α:Type}(x:Array α):∀(n:Nat) (a:Array α),((List.replicate n x).foldl (· ++ ·) a).toList=a.toList++(List.replicate n x.toList).flatten
 | 0,a=>by simp
 | n+1,a=>by
  rw[uQ,pF,qO x n,uQ,rY,Array.toList_append,uI]
def Jt:R2:=λx y H Q=>∃(z:Str) (n:Int),x=.str z/\y=.int n/\2<=n/\n<=10000/\1<=z.length/\z.length<=100/\∀u:Str,u.cps.toList=(List.replicate n.toNat z.cps.toList).flatten->Q (.str u) H
theorem Ie:iN X (binaryOp .Mult) Jt:=by
 intro pins s σ H x y v u Q I rx ry h
 obtain⟨z,n,rfl,rfl,h1,h2,h3,h4,q⟩:=h
 obtain⟨t,rfl⟩:=rx
 obtain⟨t',rfl⟩:=ry
 have hm:z.length*n.toNat<=1000000:=by
  have:=Nat.mul_le_mul h4 (show n.toNat<=10000 by omega)
  omega
 refine P.mul_str ?_ (λ_ _=>?_) (λ_ _=>?_) ?_
 ·rw[decide_eq_false (by omega),decide_eq_false (by omega)];rfl
 ·have:(100:Int)<=(2 ^ 63-1) / n:=by
   rw[Int.le_ediv_iff_mul_le (by omega)]
   omega
  omega
 ·unfold tooLong
  have:(1000000:Nat)<=sizeLine:=by decide
  exact decide_eq_false (by omega)
 ·rw[aI (by omega),aI (by
   rw[uB,not_or]
   exact⟨by simp;omega,by simp;omega⟩)]
  refine⟨?_,⟨.str _,H,I.tok _,⟨_,rfl⟩,q _ ?_⟩⟩
  ·have e:=gk List.length (qO z.cps n.toNat #[])
   have e2:(List.replicate n.toNat z.cps.toList).flatten.length=n.toNat*z.length:=by
    rw[List.length_flatten,List.map_replicate,List.sum_replicate_nat];rfl
   rw[df,e2]at e
   have e3:(⟨List.foldl (λx1 x2=>x1++x2) #[] (List.replicate n.toNat z.cps)⟩:Str).length=n.toNat*z.length:=by
    refine Eq.trans ?_ (e.trans (Nat.zero_add _))
    exact(iR).symm
   rw[e3,Nat.mul_comm]
   exact cN hm (by decide)
  ·rw[qO];rfl
end
theorem y3{x:Str}{g:TG}{tb:TS}{D:Ends}{σ:St}{H:Hp}(Pv:Nat->St->Hp->Prop)(h0:Pv 0 σ H)
  (hs:∀i c σ H,x.cps[i]?=some c->Pv i σ H->g (.str ⟨#[c]⟩) σ H λσ2 H2=>tb { D with nx:=Pv (i+1),ct:=Pv (i+1),bk:=D.nx } σ2 H2) (hd:∀σ H,Pv x.cps.size σ H->D.nx σ H):qW (RT x) g tb D σ H:=by
 refine⟨λi m σ H=>m=x.cps.size-i/\i<=x.cps.size/\Pv i σ H,⟨x.cps.size,by simp,dQ _,h0⟩,?_⟩
 rintro i m σ H ⟨rfl,hi,p⟩
 by_cases ml:i<x.cps.size
 ·refine .inr ⟨ml,Pv (i+1),λσ' H' p'=>⟨x.cps.size-(i+1),by omega,rfl,ml,p'⟩,λv H' y=>?_⟩
  obtain⟨e,c0,ec,ey⟩:=y
  subst e ey
  exact hs i c0 σ _ ec p
 ·have e:i=x.cps.size:=by omega
  subst e
  exact .inl ⟨rfl,hd σ H p⟩
end L2
end
namespace My
open PySem L2
def top(i:Nat):Stmt:=PySem.Challenge.pw_truceroll_k17_texts_refused.main.body.getD i (.Pass ⟨0,0,0,0⟩)
abbrev gE:Stmt:=top 10
abbrev gD:Stmt:=top 11
abbrev fD:Stmt:=top 12
abbrev cD:Stmt:=top 13
abbrev fC:Stmt:=top 14
abbrev cE:Stmt:=top 15
abbrev eG:Stmt:=top 17
abbrev gC:Stmt:=top 18
abbrev gB:Stmt:=top 19
abbrev eM:Stmt:=top 21
abbrev eJ:Stmt:=top 22
abbrev eH:Stmt:=top 23
abbrev eO:Stmt:=top 24
abbrev dD:Stmt:=top 25
abbrev eI:Stmt:=top 26
abbrev bZ:Stmt:=top 27
abbrev cF:Stmt:=top 28
abbrev dE:Stmt:=top 29
abbrev cH:Stmt:=top 30
abbrev eN:Stmt:=top 31
abbrev fE:Stmt:=top 32
abbrev cG:Stmt:=top 33
abbrev cW:Stmt:=top 34
abbrev eK:Stmt:=top 35
abbrev dC:Stmt:=top 36
abbrev m6:Stmt:=top 37
abbrev yP:List Str:=["thing"]
abbrev yO:List Str:=["thing"]
abbrev wM:List Str:=["thing","deepest"]
abbrev o4:List Str:=["word"]
abbrev wL:List Str:=["rule"]
abbrev o5:List Str:=["rule","names","part"]
abbrev vn:List Str:=["text","words","found"]
abbrev yN:List Str:=["words","place","deepest","word","many","parts","behind","turn","found"]
abbrev yM:List Str:=["words","place"]
abbrev vv:List Str:=["_law_script"]
abbrev vq:List Str:=["_law_hand_here"]
abbrev vo:List Str:=["_law_hand_here","_law_cell"]
abbrev vx:List Str:=["_law_hand_here","_law_many","_law_got","_law_value","_law_size"]
abbrev rD:List Str:=["_law_hand_here","_law_many","_law_letters","_law_some","_law_way","_law_at","_law_names_here","_law_k","_law_name","_law_word","_law_spot","_law_start","_law_sign"]
abbrev vp:List Str:=["_law_hand_here","_law_names_here","_law_deep","_law_way","_law_one"]
abbrev n8:List Str:=["_law_rule_here","_law_names_here","_law_part"]
abbrev o6:List Str:=["_law_rule_here","_law_words","_law_part"]
abbrev rE:List Str:=["_law_found","_law_due_here","_law_one","_law_other"]
abbrev o8:List Str:=["_law_word","_law_sign"]
abbrev vw:List Str:=["_law_words","_law_at","_law_deep","_law_word","_law_one","_law_other"]
abbrev wN:List Str:=["_law_text","_law_words","_law_found"]
abbrev o7:List Str:=["_law_thing","e"]
abbrev qE:List Str:=["_law_hand_here","_law_text","_law_words","_law_at","_law_way","_law_some","_law_word","_law_spot","_law_signs","_law_sign"]
abbrev vt:List Str:=["_law_hand_here","_law_names_here","_law_rule_here","_law_way","_law_k","_law_pairs"]
abbrev rC:List Str:=["_law_text","_law_due_here"]
abbrev Ld:List Str:=["_law_script","_law_hand_here","_law_names_here","_law_k","_law_rule_here","_law_good","_law_text","_law_j","_law_thing","_law_deep"]
def bj:List (Str×Int):=[(Str.ofString "yes",0),(Str.ofString "no",0),(Str.ofString "not",1),(Str.ofString "and",2),(Str.ofString "or",2),(Str.ofString "then",2),(Str.ofString "same",2)]
structure Adr where
 oz:Addr
 oo:FuncData
 oy:Addr
 om:FuncData
 mC:Addr
 mr:FuncData
 gZ:Addr
 gS:FuncData
 mB:Addr
 mq:FuncData
 g6:Addr
 gT:FuncData
 kI:Addr
 kg:FuncData
 ow:Addr
 oi:FuncData
 ou:Addr
 og:FuncData
 kO:Addr
 ko:FuncData
 kL:Addr
 kl:FuncData
 kJ:Addr
 kh:FuncData
 kQ:Addr
 ku:FuncData
 jy:Addr
 jm:FuncData
 kK:Addr
 kj:FuncData
 gi:Addr
 gh:FuncData
 g9:Addr
 gU:FuncData
 jz:Addr
 jn:FuncData
 hU:Addr
 gX:FuncData
 kP:Addr
 kr:FuncData
 mD:Addr
 mw:FuncData
 hJ:Addr
 gW:FuncData
 iM:Addr
 iL:FuncData
 kM:Addr
 km:FuncData
 jx:Addr
 jl:FuncData
 Gq:Addr
 Gg:FuncData
 qL:Tok
 w5:Tok
 vC:Tok
 ke:Addr
 bf:Addr
 bS:Addr
 aM:Addr
 bD:Addr
structure Txt(K:PySem.W.Frag)(mg:Str->Option Value)(t:Adr):Prop where
 uj:jM K "is_name" "is_name" gE t.oz t.oo
 Cv:Binds K t.oo ["thing"] []
 BL:mg "is_name" = some (.ref t.oz)
 ui:jM K "is_rule" "is_rule" gD t.oy t.om
 Cu:Binds K t.om ["thing"] []
 BK:mg "is_rule" = some (.ref t.oy)
 jA:jM K "has_form" "has_form" fD t.mC t.mr
 qR:Binds K t.mr ["thing","deepest"] []
 qG:mg "has_form" = some (.ref t.mC)
 ib:jM K "rules_behind" "rules_behind" cD t.gZ t.gS
 kA:Binds K t.gS ["word"] []
 j6:mg "rules_behind" = some (.ref t.gZ)
 qX:jM K "names_of" "names_of" fC t.mB t.mq
 zj:Binds K t.mq ["rule"] []
 yR:mg "names_of" = some (.ref t.mB)
 fu:jM K "names_within" "names_within" cE t.g6 t.gT
 kE:Binds K t.gT ["rule"] []
 j8:mg "names_within" = some (.ref t.g6)
 iD:jM K "read_rule" "read_rule" eG t.kI t.kg
 kB:Binds K t.kg ["text"] []
 j7:mg "read_rule" = some (.ref t.kI)
 lh:jM K "rule_at" "rule_at" gC t.ow t.oi
 ud:Binds K t.oi ["words","place","deepest"] []
 tK:mg "rule_at" = some (.ref t.ow)
 oB:jM K "word_at" "word_at" gB t.ou t.og
 uc:Binds K t.og ["words","place"] []
 tJ:mg "word_at" = some (.ref t.ou)
 oY:jM K "_law_hand" "_law_hand" eM t.kO t.ko
 xD:Binds K t.ko ["_law_script"] []
 wX:mg "_law_hand" = some (.ref t.kO)
 fU:jM K "_law_next" "_law_next" eJ t.kL t.kl
 iz:Binds K t.kl ["_law_hand_here"] []
 iu:mg "_law_next" = some (.ref t.kL)
 oW:jM K "_law_take" "_law_take" eH t.kJ t.kh
 xB:Binds K t.kh ["_law_hand_here"] []
 wV:mg "_law_take" = some (.ref t.kJ)
 aK:jM K "_law_draw" "_law_draw" eO t.kQ t.ku
 aO:Binds K t.ku ["_law_hand_here","_law_many"] []
 aN:mg "_law_draw" = some (.ref t.kQ)
 nF:jM K "_law_names" "_law_names" dD t.jy t.jm
 vK:Binds K t.jm ["_law_hand_here","_law_many"] []
 vz:mg "_law_names" = some (.ref t.jy)
 fT:jM K "_law_rule" "_law_rule" eI t.kK t.kj
 kF:Binds K t.kj ["_law_hand_here","_law_names_here","_law_deep"] []
 j9:mg "_law_rule" = some (.ref t.kK)
 dZ:jM K "_law_names_of" "_law_names_of" bZ t.gi t.gh
 jJ:Binds K t.gh ["_law_rule_here"] []
 jG:mg "_law_names_of" = some (.ref t.gi)
 dw:jM K "_law_written" "_law_written" cF t.g9 t.gU
 gY:Binds K t.gU ["_law_rule_here"] []
 gO:mg "_law_written" = some (.ref t.g9)
 fw:jM K "_law_alike" "_law_alike" dE t.jz t.jn
 jw:Binds K t.jn ["_law_found","_law_due_here"] []
 ji:mg "_law_alike" = some (.ref t.jz)
 kS:jM K "_law_is_name" "_law_is_name" cH t.hU t.gX
 qS:Binds K t.gX ["_law_word"] []
 qH:mg "_law_is_name" = some (.ref t.hU)
 fV:jM K "_law_from" "_law_from" eN t.kP t.kr
 kG:Binds K t.kr ["_law_words","_law_at","_law_deep"] []
 kb:mg "_law_from" = some (.ref t.kP)
 qY:jM K "_law_due" "_law_due" fE t.mD t.mw
 zk:Binds K t.mw ["_law_text"] []
 yS:mg "_law_due" = some (.ref t.mD)
 dy:jM K "_law_refused" "_law_refused" cG t.hJ t.gW
 fo:Binds K t.gW ["_law_thing"] []
 fe:mg "_law_refused" = some (.ref t.hJ)
 lV:jM K "_law_spoilt" "_law_spoilt" cW t.iM t.iL
 rN:Binds K t.iL ["_law_hand_here","_law_text"] []
 rF:mg "_law_spoilt" = some (.ref t.iM)
 oX:jM K "_law_more" "_law_more" eK t.kM t.km
 xC:Binds K t.km ["_law_hand_here","_law_names_here","_law_rule_here"] []
 wW:mg "_law_more" = some (.ref t.kM)
 nE:jM K "_law_right" "_law_right" dC t.jx t.jl
 vJ:Binds K t.jl ["_law_text"] []
 vy:mg "_law_right" = some (.ref t.jx)
 QR:jM K "law" "law" m6 t.Gq t.Gg
 aAb:Binds K t.Gg ["_law_script"] []
 Yj:mg "law" = some (.ref t.Gq)
 gq:mg "ValueError" = none
 zD:mg "abs" = none
 v5:mg "all" = none
 bq:mg "isinstance" = none
 dJ:mg "len" = none
 uV:mg "list" = none
 cP:mg "range" = none
 zC:mg "set" = none
 jU:mg "sorted" = none
 p8:mg "str" = none
 il:mg "tuple" = none
 zB:mg "zip" = none
 fj:mg "MOST_LETTERS" = some (.int 8 t.qL)
 fN:mg "MOST_DEEP" = some (.int 6 t.w5)
 gy:mg "MOST_NAMES" = some (.int 5 t.vC)
 fi:mg "RULES_BEHIND" = some (.ref t.ke)
 bj:Jl K t.ke bj
 vA:mg "TruceError" = some (.ref t.bf)
 uW:XC K t.bf
 iJ:PySem.W.keepIn K (.ref t.bf)=true
 iK:PySem.W.findIn K (.ref t.bf) "__init__" = some (some (.builtin "ValueError.__init__"))
 Fq:mg "NoFact" = some (.ref t.bS)
 NK:XC K t.bS
 oa:PySem.W.keepIn K (.ref t.bS)=true
 gP:mg "NoText" = some (.ref t.aM)
 dS:XC K t.aM
 dH:PySem.W.keepIn K (.ref t.aM)=true
 dI:PySem.W.findIn K (.ref t.aM) "__init__" = some (some (.builtin "ValueError.__init__"))
 BM:mg "BadRule" = some (.ref t.bD)
 Nb:XC K t.bD
 mh:PySem.W.keepIn K (.ref t.bD)=true
 mj:PySem.W.findIn K (.ref t.bD) "__init__" = some (some (.builtin "ValueError.__init__"))
 ck:PySem.W.subIn K (.ref t.aM) (.ref t.bf)=some true
 cZ:PySem.W.kitOne K (.ref t.aM) (.ref t.bD)=some false
 dG:PySem.W.kitOne K (.ref t.aM) (.ref t.bS)=some false
 dF:PySem.W.kitOne K (.ref t.aM) (.ref t.aM)=some true
 la:PySem.W.kitOne K (.ref t.aM) (.type "ValueError")=some true
local macro_rules | `(tactic| walk_at "r") => `(tactic| repeat (walk_at "rl"))
local macro_rules | `(tactic| walk_at "s") => `(tactic| exact ⟨rfl,rfl,rfl,by decide +kernel,rfl,by decide +kernel,by decide +kernel⟩)
theorem yD:bp yP ["thing"] (aq gE):=by walk_at "s"
theorem yC:bp yO ["thing"] (aq gD):=by walk_at "s"
theorem oK:bp wM ["thing","deepest"] (aq fD):=by walk_at "s"
theorem o3:bp o4 ["word"] (aq cD):=by walk_at "s"
theorem wj:bp wL ["rule"] (aq fC):=by walk_at "s"
theorem dW:bp o5 ["rule"] (aq cE):=by walk_at "s"
theorem je:bp vn ["text"] (aq eG):=by walk_at "s"
theorem cQ:bp yN ["words","place","deepest"] (aq gC):=by walk_at "s"
theorem yB:bp yM ["words","place"] (aq gB):=by walk_at "s"
theorem vf:bp vv ["_law_script"] (aq eM):=by walk_at "s"
theorem vd:bp vq ["_law_hand_here"] (aq eJ):=by walk_at "s"
theorem jf:bp vo ["_law_hand_here"] (aq eH):=by walk_at "s"
theorem dB:bp vx ["_law_hand_here","_law_many"] (aq eO):=by walk_at "s"
theorem aV:bp rD ["_law_hand_here","_law_many"] (aq dD):=by walk_at "s"
theorem gu:bp vp ["_law_hand_here","_law_names_here","_law_deep"] (aq eI):=by walk_at "s"
theorem cC:bp n8 ["_law_rule_here"] (aq bZ):=by walk_at "s"
theorem dX:bp o6 ["_law_rule_here"] (aq cF):=by walk_at "s"
theorem fK:bp rE ["_law_found","_law_due_here"] (aq dE):=by walk_at "s"
theorem jF:bp o8 ["_law_word"] (aq cH):=by walk_at "s"
theorem eZ:bp vw ["_law_words","_law_at","_law_deep"] (aq eN):=by walk_at "s"
theorem jY:bp wN ["_law_text"] (aq fE):=by walk_at "s"
theorem jE:bp o7 ["_law_thing"] (aq cG):=by walk_at "s"
theorem bJ:bp qE ["_law_hand_here","_law_text"] (aq cW):=by walk_at "s"
theorem cp:bp vt ["_law_hand_here","_law_names_here","_law_rule_here"] (aq eK):=by walk_at "s"
theorem lR:bp rC ["_law_text"] (aq dC):=by walk_at "s"
theorem gK:bp Ld ["_law_script"] (aq m6):=by walk_at "s"
def iX:List Str:=[Str.ofString "is",Str.ofString "not",Str.ofString "and",Str.ofString "or",Str.ofString "then",Str.ofString "same",Str.ofString "yes",Str.ofString "no",Str.ofString "say",Str.ofString "fix",Str.ofString "isa",Str.ofString "nota",Str.ofString "a"]
def dY:List Str:=[Str.ofString "not",Str.ofString "and",Str.ofString "or",Str.ofString "then",Str.ofString "same"]
def bC:List Str:=[Str.ofString "yes",Str.ofString "no",Str.ofString "is",Str.ofString "not",Str.ofString "and",Str.ofString "or",Str.ofString "then",Str.ofString "same",Str.ofString "",Str.ofString "a",Str.ofString "A",Str.ofString "abcdefghi",Str.ofString "Is",Str.ofString "a1",Str.ofString "(",Str.ofString "is a"]
theorem vL:bootBuiltins "ValueError" = some (.type "ValueError"):=by decide +kernel
theorem Qz:bootBuiltins "abs" = some (.builtin "abs"):=by decide +kernel
theorem JV:bootBuiltins "all" = some (.builtin "all"):=by decide +kernel
theorem bH:bootBuiltins "isinstance" = some (.builtin "isinstance"):=by decide +kernel
theorem fk:bootBuiltins "len" = some (.builtin "len"):=by decide +kernel
theorem MP:bootBuiltins "list" = some (.type "list"):=by decide +kernel
theorem Qy:bootBuiltins "set" = some (.type "set"):=by decide +kernel
theorem xA:bootBuiltins "sorted" = some (.builtin "sorted"):=by decide +kernel
theorem Aw:bootBuiltins "str" = some (.type "str"):=by decide +kernel
theorem nv:bootBuiltins "tuple" = some (.type "tuple"):=by decide +kernel
theorem aAa:bootBuiltins "zip" = some (.type "zip"):=by decide +kernel
def hv(l:Addr)(a b c d e:Int):HO:=.lst [.ref l,.int a,.int b,.int c,.int d,.int e]
def QM(l:Addr)(o:HO):Prop:=∃a b c d e,o=hv l a b c d e/\0<=a
def DR:Sp:=λvs H Q _=>∃h,vs=[.ref h]/\∃l a b c d e,H h=some (hv l a b c d e)/\Q (.int (d*48271%2147483647+e*40693%2147483399)) (upd H h (hv l a b c (d*48271%2147483647) (e*40693%2147483399)))
def Ki:Sp:=λvs H Q _=>∃h,vs=[.ref h]/\∃l ns o,H h=some o/\QM l o/\H l=some (.lst (List.map V.int ns))/\∀o',QM l o'->Q .non (upd H h o')
def yA:Sp:=λvs H Q _=>∃h m,vs=[.ref h,.int m]/\1<=m/\m<1073741824/\∃l ns o,H h=some o/\QM l o/\H l=some (.lst (List.map V.int ns))/\∀r o',0<=r->r<m->QM l o'->Q (.int r) (upd H h o')
local macro_rules | `(tactic| walk_at "rd") => `(tactic| walk_at "rc")
local macro_rules | `(tactic| walk_at "rl") => `(tactic| first | (refine di fun R hR => ?_) | walk_at "ry" | (refine Nx.to (by assumption) _ _ ?_))
local macro_rules | `(tactic| walk_at $s:str) => do
  unless s.getString == "rc" || s.getString == "ry" do Lean.Macro.throwUnsupported
  let ids := (((if s.getString == "rc" then "tSeq " else "") ++ "L2.start zH Hf sY tB Dt tUn rm tC u6 cU Mq Ka NP Du zJ wc He NT qm yx Kd J9 Hv rI rU X5 XZ Ko Dw Vi Ku Og Kt Oc Ob Jw Jv Ek Kr zS Ks Kw zT Ju wt Jy Tb Jx Hz S' Ta Oh Od RX Dq u5 N6 R3 R1 zR zQ N9 Kf R0 Kb Dx RZ NQ tIf List.map_cons List.map_nil List.cons_append List.nil_append List.append_nil List.length_cons List.length_nil List.replicate List.getElem?_cons_zero List.getElem?_cons_succ List.set_cons_zero List.set_cons_succ Nat.reduceAdd Nat.reduceSub Nat.reduceLeDiff Option.some.injEq V.int.injEq V.ref.injEq V.str.injEq V.bl.injEq V.ty.injEq List.cons.injEq HO.lst.injEq HO.tup.injEq HO.dK.injEq exists_eq_left exists_eq_left' exists_and_left and_true true_and and_assoc exists_const reduceCtorEq ak Ha decide_eq_true_eq List.length_map ite_true ite_false Bool.false_eq_true Bool.true_and Bool.and_true QH QG QF QD QC QB Ly Lx Lw Ls Lr Qh Qg Qf Qe MF Mz Mx Mw Mv bR Option.join_some Option.join_none Dv Hg Fz Pg Pb Oj FG LR Hb Bg Int.zero_add Int.reduceMul Int.reduceAdd Int.reduceSub Int.reduceLT Int.reduceLE Int.reducePow Int.reduceToNat Int.reduceNeg gt_iff_lt ge_iff_le DR hv Em HO.ext.injEq R4 Kc yz u3 Hc NX N3 J' Ends.Q0 yF yG Kv NR Oi HO.xd.injEq Eg LQ qp Oe LW El Jt u0").splitOn " ").toArray.map fun x => Lean.mkIdent x.toName
  `(tactic| simp only [$[$ids:ident],*])
section
variable {P:Program}{w:World}{K:PySem.W.Frag}{mg:Str->Option Value}{base:Heap}{t:Adr}
theorem z9(T:Txt K mg t):cK P w K mg base jN 1 t.kL t.kl ["_law_hand_here"] DR:=by
 refine T.fU.mF vd (λvs H Q E h=>?_) (λcI A outer s H vs Q E hr h hc hf=>?_)
 ·obtain⟨h,rfl,_⟩:=h;rfl
 obtain⟨h,rfl,l,a,b,c,d,e,hh,q⟩:=h
 refine⟨_,(by apply ai;exact(jc (aA gL (aA iH (aP cM (aj hc 0) ah (λ_ _=>rfl)) ah) ah) (jd (aj hc 0) ah m4));apply ai;exact(jc (aA gL (aA iH (aP cM (aj hc 0) ah (λ_ _=>rfl)) ah) ah) (jd (aj hc 0) ah m4));exact ao (aC (aA bB (aP cM (aj hc 0) ah (λ_ _=>rfl)) (aP cM (aj hc 0) ah (λ_ _=>rfl))))),?_⟩
 unfold hv at *
 walk_at "rd"
 simp only[hh]
 walk_at "rd"
 exact q
theorem Ii(T:Txt K mg t):cK P w K mg base jN 2 t.kJ t.kh ["_law_hand_here"] Ki:=by
 have fS:=z9 (P:=P) (w:=w) (base:=base) T
 refine T.oW.mF jf (λvs H Q E h=>?_) (λcI A outer s H vs Q E hr h hc hf=>?_)
 ·obtain⟨h,rfl,_⟩:=h;rfl
 obtain⟨h,rfl,l,ns,o,hh,⟨a,b,c,d,e,rfl,ha⟩,hl,q⟩:=h
 refine⟨_,(by apply ai;exact(az hc jf.nd hf 1 (by decide +kernel) ah);apply gI;exact(aS (aB wG (aP cM (aj hc 0) ah (λ_ _=>rfl)) (aJ cJ (bz hc) T.dJ fk (ae (aP cM (aj hc 0) ah (λ_ _=>rfl)) ag)) (aR _)) (by exact ao (az hc jf.nd hf 1 (by decide +kernel) (aJ Gi (bz hc) T.zD Qz (ae (aP cM (aP cM (aj hc 0) ah (λ_ _=>rfl)) (aP cM (aj hc 0) ah (λ_ _=>rfl)) (λ_ _=>rfl)) ag)))) aD);apply ai;exact(v3 (aj hc 0) ah JQ ah LK m4);apply gI;exact(aS (aB JD (aj hc 1) (aA K7 ah ah) (aR _)) (by exact ao (jc (aj hc 1) (jd (aj hc 0) ah m4))) (by exact ao (jc ah (jd (aj hc 0) ah m4))));apply ai;exact(jc (aA bB (aA gL (aA bB (aP cM (aj hc 0) ah (λ_ _=>rfl)) (aA gL (aj hc 1) ah)) ah) ah) (jd (aj hc 0) ah m4));apply ai;exact(jc (aA bB (aA gL (aA bB (aA iH (aP cM (aj hc 0) ah (λ_ _=>rfl)) ah) (aA gL (aj hc 1) ah)) ah) ah) (jd (aj hc 0) ah m4));apply ai;exact(dR (ay fS hr.mono (bz hc) T.iu T.fU.kp T.iz .nil aT (ae (aj hc 0) ag)));exact ao (dR (ay fS hr.mono (bz hc) T.iu T.fU.kp T.iz .nil aT (ae (aj hc 0) ag)))),?_⟩
 unfold hv at *
 walk_at "rd"
 refine⟨λσ' H'=>∃z,σ'=[some (.ref h),some (.int z)]/\H'=H,?_,?_⟩
 ·repeat (first | walk_at "rd" | simp only[hh,hl])
  split
  ·rename_i ml
   obtain⟨v,hv'⟩:=Gp ha ml
   rw[hv']
   walk_at "rd"
   exact⟨_,rfl⟩
  ·exact⟨_,rfl⟩
 ·rintro σ' H' ⟨z,e1,e2⟩
  subst e1 e2
  repeat (first | walk_at "rd" | simp only[hh,hl])
  refine⟨λσ' qU=>∃b' c',σ'=[some (.ref h),some (.int z)]/\qU=upd H' h (.lst [.ref l,.int (a+1),.int b',.int c',.int d,.int e]),?_,?_⟩
  ·repeat (first | walk_at "rd" | simp only[hh,hl])
   split
   ·exact⟨_,_,rfl⟩
   ·exact⟨_,_,rfl⟩
  ·rintro σ' qU ⟨b',c',e1,e2⟩
   subst e1 e2
   repeat (first | walk_at "rd" | simp only[hh,hl])
   exact q _ ⟨_,_,_,_,_,rfl,by lia⟩
theorem m9(T:Txt K mg t):cK P w K mg base jN 3 t.kQ t.ku ["_law_hand_here","_law_many"] yA:=by
 have fS:=z9 (P:=P) (w:=w) (base:=base) T
 have xG:=Ii (P:=P) (w:=w) (base:=base) T
 refine T.aK.mF dB (λvs H Q E h=>?_) (λcI A outer s H vs Q E hr h hc hf=>?_)
 ·obtain⟨h,m,rfl,_⟩:=h;rfl
 obtain⟨h,m,rfl,hm,Rn,l,ns,o,hh,⟨a,b,c,d,e,rfl,ha⟩,hl,q⟩:=h
 refine⟨_,(by apply gI;exact(aS (iU (zx (aB bW (aP cM (aj hc 0) ah (λ_ _=>rfl)) ah (aR _)) (vZ (aB bW (aP cM (aj hc 0) ah (λ_ _=>rfl)) ah (aR _))))) (by exact ao (dR (ay xG hr.mono (bz hc) T.wV T.oW.kp T.xB .nil aT (ae (aj hc 0) ag)))) aD);apply ai;exact(aS (aB JC (aP cM (aj hc 0) ah (λ_ _=>rfl)) ah (aR _)) (by apply ai;exact(az hc dB.nd hf 2 (by decide +kernel) (aA gL (aP cM (aj hc 0) ah (λ_ _=>rfl)) (aj hc 1)));apply ai;exact(jc (aA Ig (aP cM (aj hc 0) ah (λ_ _=>rfl)) (aj hc 1)) (jd (aj hc 0) ah m4));exact ao (aC (aj hc 2))) aD);apply ai;exact(v3 (aj hc 0) ah JQ ah Lz m4);apply ai;exact(az hc dB.nd hf 3 (by decide +kernel) (ay fS hr.mono (bz hc) T.iu T.fU.kp T.iz .nil aT (ae (aj hc 0) ag)));apply ai;exact(az hc dB.nd hf 4 (by decide +kernel) ah);apply ai;exact(Az jC (aB wG (aj hc 4) (aj hc 1) (aR _)) (by apply ai;exact(az hc dB.nd hf 3 (by decide +kernel) (aA bB (aA iH (aj hc 3) ah) (ay fS hr.mono (bz hc) T.iu T.fU.kp T.iz .nil aT (ae (aj hc 0) ag))));exact ao (az hc dB.nd hf 4 (by decide +kernel) (aA iH (aj hc 4) ah))));exact ao (aC (aA gL (aj hc 3) (aj hc 1)))),?_⟩
 unfold hv at *
 walk_at "rd"
 refine⟨λσ' H'=>∃a b c d e,σ'=[some (.ref h),some (.int m),none,none,none]/\H'=upd H h (hv l a b c d e)/\0<=a,?_,?_⟩
 ·have same:H=upd H h (hv l a b c d e):=by
   funext x;unfold upd;split
   ·rename_i e;rw[e,hh];rfl
   ·rfl
  repeat (first | walk_at "rd" | simp only[hh,hl])
  by_cases hb:b=0
  ·by_cases hc:c=0
   ·simp only[hb,hc,fW]
    repeat (first | walk_at "rd" | simp only[hh,hl])
    refine⟨h,rfl,l,ns,_,hh,⟨a,b,c,d,e,by rw[hb,hc];rfl,ha⟩,hl,?_⟩
    rintro o' ⟨a',b',c',d',e',rfl,JP⟩
    exact⟨a',b',c',d',e',rfl,JP⟩
   ·simp only[hb,hc,fW,jT,uL]
    exact⟨a,b,c,d,e,same,ha⟩
  ·simp only[hb,jT,uL]
   exact⟨a,b,c,d,e,same,ha⟩
 ·rintro σ' H' ⟨a,b,c,d,e,e1,e2,ha⟩
  subst e1 e2
  repeat (first | walk_at "rd" | simp only[hh,hl])
  split
  ·rename_i hb
   refine⟨by lia,⟨by lia,Rn⟩,q _ _ (pT _ (by lia)) (uM _ (by lia)) ⟨_,_,_,_,_,rfl,ha⟩⟩
  ·rename_i hb
   refine⟨λ_ σ' H'=>σ'=_/\H'=_,⟨0,rfl,rfl⟩,?_⟩
   rintro _ σ' H' ⟨e1,e2⟩
   subst e1 e2
   walk_at "rd"
   have Pn:¬((4294967296:Int)<m):=by lia
   simp only[Pn,jT]
   refine⟨by lia,q _ _ (pT _ (by lia)) (uM _ (by lia)) ⟨_,_,_,_,_,rfl,ha⟩⟩
local macro_rules | `(tactic| walk_at "rd") => `(tactic| walk_at "rc")
local macro_rules | `(tactic| walk_at "rl") => `(tactic| first | (refine di fun R hR => ?_) | walk_at "ry" | (refine Nx.to (by assumption) _ _ ?_))
def Hd(H:Hp)(h l:Addr):Prop:=∃ns o,H h=some o/\QM l o/\H l=some (.lst (List.map V.int ns))
def cR(H:Hp)(h:Addr):Prop:=∃l,Hd H h l
structure Dr(h:Addr)(H H':Hp):Prop where
 keep:∀b o,b≠h->H b=some o->H' b=some o
 hand:∀l,Hd H h l->Hd H' h l
theorem Dr.refl{h:Addr}{H:Hp}:Dr h H H:=⟨λ_ _ _ e=>e,λ_ x=>x⟩
theorem Dr.trans{h:Addr}{H H1 H2:Hp}(a:Dr h H H1)(b:Dr h H1 H2):Dr h H H2:=⟨λc o hc e=>b.keep c o hc (a.keep c o hc e),λl x=>b.hand l (a.hand l x)⟩
theorem Dr.bU{h:Addr}{H H1:Hp}(a:Dr h H H1)(x:cR H h):cR H1 h:=let ⟨l,y⟩:=x;⟨l,a.hand l y⟩
theorem Hd.apart{H:Hp}{h l:Addr}(x:Hd H h l):l≠h:=by
 obtain⟨ns,o,e1,⟨a,b,c,d,e,rfl,_⟩,e3⟩:=x
 intro z
 rw[z,e1]at e3
 have q:=de e3
 unfold hv at q
 injection q with q
 match ns,q with
 | [],q=>cases q
 | n::_,q=>injection q with q1 _;cases q1
theorem Dr.new{h p:Addr}{H H1:Hp}{o:HO}(a:Dr h H H1)(hp:H1 p=none):Dr h H (upd H1 p o):=by
 refine⟨λc o' hc e=>?_,λl x=>?_⟩
 ·rw[aG (aH (a.keep c o' hc e) hp)];exact a.keep c o' hc e
 ·obtain⟨ns,oh,e1,e2,e3⟩:=a.hand l x
  exact⟨ns,oh,by rw[aG (aH e1 hp)];exact e1,e2,by rw[aG (aH e3 hp)];exact e3⟩
theorem Dr.put{h p:Addr}{H H1:Hp}{o':HO}(a:Dr h H H1)(hn:H p=none):Dr h H (upd H1 p o'):=by
 refine⟨λc o' hc e=>?_,λl x=>?_⟩
 ·rw[aG (aH e hn)];exact a.keep c o' hc e
 ·obtain⟨ns,oh,e1,e2,e3⟩:=a.hand l x
  obtain⟨_,_,f1,_,f3⟩:=x
  exact⟨ns,oh,by rw[aG (aH f1 hn)];exact e1,e2,by rw[aG (aH f3 hn)];exact e3⟩
theorem cR.ne{h p:Addr}{H:Hp}(x:cR H h)(hp:H p=none):p≠h:=by
 obtain⟨l,ns,oh,e1,_,_⟩:=x
 exact(aH e1 hp).symm
theorem Dr.free{h p:Addr}{H H1:Hp}(a:Dr h H H1)(x:cR H h)(hp:H1 p=none):H p=none:=by
 cases e:H p with
 | none=>rfl
 | some o=>
  have n:=(a.bU x).ne hp
  have:=a.keep p o n e
  rw[hp]at this;cases this
theorem bG{h:Addr}{m:Int}{H0 H:Hp}{Q:VK}{E:XK}(hd:cR H0 h)(d:Dr h H0 H)(h1:1<=m)(h2:m<1073741824)(q:∀r H',0<=r->r<m->Dr h H0 H'->(∀b,b≠h->H' b=H b)->Q (.int r) H'):yA [.ref h,.int m] H Q E:=by
 obtain⟨l,x⟩:=hd
 have x':=d.hand l x
 have ap:=x'.apart
 obtain⟨ns,oh,e1,e2,e3⟩:=x'
 refine⟨h,m,rfl,h1,h2,l,ns,oh,e1,e2,e3,λr o' r0 r1 ho=>q r _ r0 r1 ⟨λc o hc e=>?_,λl' x'=>?_⟩ (λb hb=>aG hb)⟩
 ·rw[aG hc];exact d.keep c o hc e
 ·have y:=d.hand l' x'
  have ap':=y.apart
  obtain⟨ns',oh',f1,f2,f3⟩:=y
  have el:l'=l:=by
   obtain⟨a,b,c,d,e,rfl,_⟩:=e2
   obtain⟨a',b',c',d',e',rfl,_⟩:=f2
   rw[e1]at f1
   have:=de f1
   unfold hv at this
   injection this with this
   injection this with this _
   exact(V.ref.inj this).symm
  subst el
  exact⟨ns,o',ak,ho,by rw[aG ap];exact e3⟩
theorem au{H:Hp}{p:Addr}(h:H p=none)(o:HO):bA H (upd H p o):=λb u q=>by rw[aG (aH q h)];exact q
theorem qP{α:Type}(f:α->V)(xs:List α)(lo hi:Option Int):dO (xs.map f) lo hi=((xs.drop (HT.bY xs.length 0 lo)).take (HT.bY xs.length xs.length hi-HT.bY xs.length 0 lo)).map f:=by
 unfold dO;rw[cx,List.map_take,List.map_drop]
def Kl(K:PySem.W.Frag):Sp:=λvs H Q _=>∃a ns,vs=[.ref a]/\nD K H a (List.map V.int ns)/\∀h H',bA H H'->H h=none->cR H' h->Q (.ref h) H'
theorem Ik(T:Txt K mg t):cK P w K mg base jN 1 t.kO t.ko ["_law_script"] (Kl K):=by
 refine T.oY.mF vf (λvs H Q E h=>?_) (λcI A outer s H vs Q E hr h hc hf=>?_)
 ·obtain⟨a,ns,rfl,_⟩:=h;rfl
 obtain⟨a,ns,rfl,hS,q⟩:=h
 refine⟨_,(by exact ao (aC (bx (ae (lY zc (bz hc) T.uV MP (ae (aQ zN (aj hc 0) aY (aX ah)) ag)) (ae ah (ae ah (ae ah (ae ah (ae ah ag))))))))),?_⟩
 walk_at "rd"
 refine⟨a,List.map V.int ns,rfl,hS,λp hp=>?_⟩
 rw[qP]
 walk_at "rd"
 refine λl hl=>⟨by decide,λh hh=>?_⟩
 have s1:=au hp (.lst (List.map V.int ((ns.drop (HT.bY ns.length 0 none)).take (HT.bY ns.length ns.length (some 63)-HT.bY ns.length 0 none))))
 have s2:=au hl (.lst (List.map V.int ((ns.drop (HT.bY ns.length 0 none)).take (HT.bY ns.length ns.length (some 63)-HT.bY ns.length 0 none))))
 have s3:=au hh (hv l 0 0 0 20011 40009)
 exact q h _ (s1.trans (s2.trans s3)) ((s1.trans s2).free hh) ⟨l,_,_,ak,⟨_,_,_,_,_,rfl,Int.le_refl 0⟩,s3 _ _ ak⟩
local macro_rules | `(tactic| walk_at "rd") => `(tactic| walk_at "rc")
local macro_rules | `(tactic| walk_at "rl") => `(tactic| first | (refine di fun R hR => ?_) | walk_at "ry" | (refine Nx.to (by assumption) _ _ ?_))
def Hl:Sp:=λvs H Q _=>∃h m,vs=[.ref h,.int m]/\1<=m/\m<=8/\cR H h/\∀p ss H',Dr h H H'->H p=none->H' p=some (.lst (List.map V.str ss))->ss.length=m.toNat->ss.Nodup->(∀s∈ss,Nm s)->Q (.ref p) H'
def sgn(c:Nat):Str:=⟨#[c]⟩
theorem tU{h:Addr}{n:Nat}{σ:St}{H1:Hp}{Q:VK}(hd:cR H1 h)(h2:σ[2]?=some (some (.str (Str.ofString "abcdefghijklmnopqrstuvwxyz"))))(h0:σ[0]?=some (some (.ref h)))(hn:n<=100)
  (q:∀D (cs:List Nat) H',H1 D=none->Dr h H1 H'->H' D=some (.lst (List.map V.str (cs.map sgn)))->cs.length=n->(∀c∈cs,97<=c/\c<=122)->Q (.ref D) H') :
  iE (xO 0 n) 1 [2,0] (λ_=>cU 0) (λ_=>Bg) (λ_=>Dt Kt (rm 1) (zJ yA [] E0 (wc (rm 2) (wc (tC (V.int 26)) He)))) σ Q H1:=by
 refine iw (λD i ys H=>∃cs:List Nat,ys=List.map V.str (cs.map sgn)/\cs.length=i/\(∀c∈cs,97<=c/\c<=122)/\Dr h H1 H/\H D=some (.lst ys)) (λD hD=>⟨[],rfl,rfl,(λ_ z=>nomatch z),Dr.refl.new hD,ak⟩) (λD hD i ys H hi p c=>?_) (λD hD ys H p=>?_)
 ·obtain⟨cs,rfl,hl,hc,d,hy⟩:=p
  walk_at "rc"
  repeat (first | walk_at "rd" | simp only[h0,h2,Option.join_some])
  refine bG hd d (by decide) (by decide) λr H' r0 r1 d' k'=>?_
  walk_at "rd"
  refine⟨by decide,?_⟩
  rw[oU r0 r1]
  walk_at "rd"
  refine⟨by rw[k' D (hd.ne hD)];exact hy,bX (by omega),cs++[97+r.toNat],by simp[sgn],by simp[hl],?_,d'.put hD⟩
  intro c xN
  rcases fM.mp xN with z | z
  ·exact hc c z
  ·rw[eR.mp z];omega
 ·obtain⟨cs,rfl,hl,hc,d,hy⟩:=p
  exact q D cs H hD d hy hl hc
theorem lg{cs:List Nat}(hn:cs.length<=100):JoinOk (Str.ofString "") (cs.map sgn)=true/\(Txt.join (Str.ofString "") (cs.map sgn)).cps.toList=cs:=by
 refine⟨joinOk_of (L:=1) (n:=100) (λz hz=>?_) (by simpa using hn) (by decide),?_⟩
 ·obtain⟨c,_,rfl⟩:=ll.mp hz
  exact bF 1
 ·rw[Cg (show(Str.ofString "").cps = #[] by decide)]
  induction cs with
  | nil=>rfl
  | cons c cs ih=>rw[ie,ie,rY,ih (by simp at hn;omega)];rfl
theorem Ff(T:Txt K mg t):cK P w K mg base jN 4 t.jy t.jm ["_law_hand_here","_law_many"] Hl:=by
 have aF:=m9 (P:=P) (w:=w) (base:=base) T
 refine T.nF.mF aV (λvs H Q E h=>?_) (λcI A outer s H vs Q E hr h hc hf=>?_)
 ·obtain⟨h,m,rfl,_⟩:=h;rfl
 obtain⟨h,m,rfl,hm1,Rn,hd,q⟩:=h
 refine⟨_,(by apply ai;exact(az hc aV.nd hf 2 (by decide +kernel) aE);apply ai;exact(az hc aV.nd hf 3 (by decide +kernel) (bx (nU iX (by decide +kernel))));apply ai;exact(az hc aV.nd hf 4 (by decide +kernel) (ay aF hr.mono (bz hc) T.aN T.aK.kp T.aO .nil aT (ae (aj hc 0) (ae ah ag))));apply ai;exact(aS (aB bW (aj hc 4) ah (aR _)) (by apply ai;exact(az hc aV.nd hf 5 (by decide +kernel) (ay aF hr.mono (bz hc) T.aN T.aK.kp T.aO .nil aT (ae (aj hc 0) (ae ah ag))));exact ao (aC (cV hc ["_law_k"] [3,5] rfl (by decide +kernel) (bQ (bz hc) T.cP (ae (aj hc 1) ag)) (λ_ hc=>pZ hc (by decide +kernel) 0 (by decide +kernel)) (λ_ _=>dz) (λ_ hc=>(aP cM (aj hc 1) (aA gL (aA bB (aj hc 2) (aA iH ah (aj hc 0))) ah) (λ_ _=>rfl)))))) aD);apply ai;exact(az hc aV.nd hf 6 (by decide +kernel) (bx ag));apply ai;exact(aS (aB bW (aj hc 4) ah (aR _)) (by apply ai;exact(dU jC rfl (bQ (bz hc) T.cP (ae (aj hc 1) ag)) (nS hc aV.nd hf 7 (by decide +kernel)) (by apply ai;exact(az hc aV.nd hf 8 (by decide +kernel) (dM lH pK pM gN aE (ae (cV hc ["_law_j"] [2,0] rfl (by decide +kernel) (bQ (bz hc) T.cP (ae (aA bB ah (ay aF hr.mono (bz hc) T.aN T.aK.kp T.aO .nil aT (ae (aj hc 0) (ae ah ag)))) ag)) (λ_ hc=>pZ hc (by decide +kernel) 0 (by decide +kernel)) (λ_ _=>dz) (λ_ hc=>(aP Iu (aj hc 1) (ay aF hr.mono (bz hc) T.aN T.aK.kp T.aO .nil aT (ae (aj hc 2) (ae ah ag))) (λ_ _=>rfl)))) ag)));apply gI;exact(aS (aB K9 (aj hc 8) (aj hc 6) (by with_unfolding_all rfl)) (by exact ao (az hc aV.nd hf 8 (by decide +kernel) (aP cM (cV hc ["_law_one"] [6] rfl (by decide +kernel) (mO (aj hc 3)) (λ_ hc=>pZ hc (by decide +kernel) 0 (by decide +kernel)) (λ_ hc=>sk (aB nZ (aj hc 0) (aj hc 1) (by with_unfolding_all rfl))) (λ_ hc=>(aj hc 0))) ah (λ_ _=>rfl)))) aD);exact ao (dR (dM si vW vX gF (aj hc 6) (ae (aj hc 8) ag)))));exact ao (aC (aj hc 6))) aD);apply ai;exact(az hc aV.nd hf 9 (by decide +kernel) (dM lH pK pM gN aE (ae (cV hc ["_law_k"] [2,0] rfl (by decide +kernel) (bQ (bz hc) T.cP (ae ah ag)) (λ_ hc=>pZ hc (by decide +kernel) 0 (by decide +kernel)) (λ_ _=>dz) (λ_ hc=>(aP Iu (aj hc 1) (ay aF hr.mono (bz hc) T.aN T.aK.kp T.aO .nil aT (ae (aj hc 2) (ae ah ag))) (λ_ _=>rfl)))) ag)));apply ai;exact(aS (aB bW (aj hc 4) ah (aR _)) (by apply ai;exact(az hc aV.nd hf 5 (by decide +kernel) (ay aF hr.mono (bz hc) T.aN T.aK.kp T.aO .nil aT (ae (aj hc 0) (ae ah ag))));exact ao (aC (cV hc ["_law_k"] [9,5] rfl (by decide +kernel) (bQ (bz hc) T.cP (ae (aj hc 1) ag)) (λ_ hc=>pZ hc (by decide +kernel) 0 (by decide +kernel)) (λ_ _=>dz) (λ_ hc=>(aQ iG (aj hc 1) aY (aX (aA bB (aA gL (aA bB (aj hc 2) (aA iH ah (aj hc 0))) ah) ah))))))) aD);apply ai;exact(az hc aV.nd hf 10 (by decide +kernel) (ay aF hr.mono (bz hc) T.aN T.aK.kp T.aO .nil aT (ae (aj hc 0) (ae ah ag))));apply ai;exact(az hc aV.nd hf 11 (by decide +kernel) (ay aF hr.mono (bz hc) T.aN T.aK.kp T.aO .nil aT (ae (aj hc 0) (ae ah ag))));apply ai;exact(dU jC rfl (bQ (bz hc) T.cP (ae (aj hc 1) ag)) (nS hc aV.nd hf 7 (by decide +kernel)) (by apply ai;exact(az hc aV.nd hf 12 (by decide +kernel) (aP Iu (aj hc 2) (aA gL (aA bB (aj hc 11) (aA iH ah (aj hc 7))) ah) (λ_ _=>rfl)));apply ai;exact(az hc aV.nd hf 8 (by decide +kernel) (aA dk (aA dk (aQ iG (aj hc 9) aY (aX (aj hc 10))) (aj hc 12)) (aQ iG (aj hc 9) (aX (aA bB (aj hc 10) ah)) aY)));exact ao (dR (dM si vW vX gF (aj hc 6) (ae (aQ iG (aj hc 8) aY (aX (aA bB (aA bB (aj hc 10) ah) (ay aF hr.mono (bz hc) T.aN T.aK.kp T.aO .nil aT (ae (aj hc 0) (ae (aA jg ah (aj hc 10)) ag)))))) ag)))));exact ao (aC (aj hc 6))),?_⟩
 walk_at "rd"
 refine⟨by decide,λS hS=>?_⟩
 have el:iX=lits:=rfl
 rw[el]
 have Rw:S≠h:=hd.ne hS
 refine bG hd (Dr.refl.new hS) (by decide) (by decide) λway H1 w0 w4 d1 k1=>?_
 have VR:H1 S=some (.lst (List.map V.str lits)):=by rw[k1 S Rw,ak]
 have VH:=d1.bU hd
 repeat (walk_at "rd")
 split
 ·
  refine bG hd d1 (by decide) (by decide) λfP H2 a0 a1 d2 k2=>?_
  have Jb:H2 S=some (.lst (List.map V.str lits)):=by rw[k2 S Rw];exact VR
  refine⟨by omega,by omega,iw (λD i ys H3=>∃ss:List Str,ys=List.map V.str ss/\ss.length=i/\(∀k s,ss[k]?=some s->lits[((fP+5*(k:Nat))%13).toNat]?=some s)/\Dr h H H3/\H3 D=some (.lst ys)/\H3 S=some (.lst (List.map V.str lits))) (λD hD=>⟨[],rfl,rfl,(λk s z=>by simp at z),d2.new hD,ak,by rw[aG (aH Jb hD)];exact Jb⟩) (λD hD i ys H3 hi p c=>?_) (λD hD ys H3 p=>?_)⟩
  ·obtain⟨ss,rfl,hl,hk,d3,hy,VP⟩:=p
   walk_at "rc"
   repeat (first | walk_at "rd" | simp only[VP])
   have CP:0<=(fP+5*(i:Int))%13:=pT _ (by decide)
   have Nj:(fP+5*(i:Int))%13<13:=uM _ (by decide)
   obtain⟨v,ev,gv⟩:=Gn (xs:=List.map V.str lits) CP (by rw[cx,qJ];exact Nj)
   rw[ev]
   walk_at "rd"
   rw[fz]at gv
   obtain⟨s,es,rfl⟩:∃s,lits[((fP+5*(i:Int))%13).toNat]?=some s/\V.str s=v:=by
    cases e:lits[((fP+5*(i:Int))%13).toNat]? with
    | none=>rw[e]at gv;cases gv
    | some s=>rw[e]at gv;exact⟨s,rfl,de gv⟩
   have Vx:D≠S:=λz=>by rw[z,Jb]at hD;cases hD
   refine⟨hy,bX (by omega),ss++[s],by simp,by simp[hl],λk s' e=>?_,d3.put (d2.free hd hD),by rw[aG Vx.symm];exact VP⟩
   by_cases Pu:k<ss.length
   ·rw[oI Pu]at e;exact hk k s' e
   ·rw[mM (by omega)]at e
    have Px:k-ss.length=0:=by
     cases z:k-ss.length with
     | zero=>rfl
     | succ n=>rw[z]at e;cases e
    rw[Px]at e
    have:k=i:=by omega
    subst this
    cases e;exact es
  ·obtain⟨ss,rfl,hl,hk,d3,hy,VP⟩:=p
   refine q D ss H3 d3 (d2.free hd hD) hy hl (n6 λi j x Rq e1 e2=>?_) λs hs=>?_
   ·have g1:=hk i x e1
    have g2:=hk j x e2
    have hj:j<ss.length:=(gp.mp e2).1
    have u1:((fP+5*(i:Int))%13).toNat<lits.length:=(gp.mp g1).1
    have:=(List.getElem_inj (i:=((fP+5*(i:Int))%13).toNat) (j:=((fP+5*(j:Int))%13).toNat) (h₀:=u1) (h₁:=(gp.mp g2).1) qI).mp ((gp.mp g1).2.trans (gp.mp g2).2.symm)
    omega
   ·obtain⟨k,IK⟩:=yg.mp hs
    exact Ad s (vT (hk k s IK))
 ·refine⟨by decide,λp hp=>?_⟩
  have Y8:p≠S:=λz=>by rw[z,VR]at hp;cases hp
  have GJ:p≠h:=VH.ne hp
  have CT:H p=none:=d1.free hd hp
  have dp:Dr h H (upd H1 p (.lst [])):=d1.new hp
  have hSp:(upd H1 p (.lst [])) S=some (.lst (List.map V.str lits)):=by rw[aG Y8.symm];exact VR
  split
  ·
   refine⟨by omega,by omega,d8 (λi σ' H'=>∃(ss:List Str) (a b:Option V),σ'=[some (.ref h),some (.int m),some (.str (Str.ofString "abcdefghijklmnopqrstuvwxyz")),some (.ref S),some (.int way),none,some (.ref p),a,b,none,none,none,none]/\
    ss.length=i/\ss.Nodup/\(∀s∈ss,Nm s)/\Dr h H H'/\H' p=some (.lst (List.map V.str ss))/\H' S=some (.lst (List.map V.str lits))) ⟨[],none,none,rfl,rfl,uz,(λ_ z=>nomatch z),dp,ak,hSp⟩ (λi σ' H' hi pv=>?_) (λσ' H' pv=>?_)⟩
   ·obtain⟨ss,a,b,rfl,hl,nd,nm,d2,yX,Jb⟩:=pv
    repeat (walk_at "rd")
    have hd2:=d2.bU hd
    refine bG hd2 Dr.refl (by decide) (by decide) λr H3 r0 r1 d3 k3=>?_
    repeat (walk_at "rd")
    have hd3:=d3.bU hd2
    refine⟨by omega,by omega,tU hd3 rfl rfl (by omega) λD cs H4 hD d4 V7 Ah FP=>?_⟩
    have w6:H4 p=some (.lst (List.map V.str ss)):=d4.keep _ _ GJ (d3.keep _ _ GJ yX)
    have Nu:H4 S=some (.lst (List.map V.str lits)):=d4.keep _ _ Rw (d3.keep _ _ Rw Jb)
    have Ws:Dr h H H4:=d2.trans (d3.trans d4)
    repeat (walk_at "rd")
    refine⟨cs.map sgn,V7,(lg (by omega)).1,?_⟩
    obtain⟨z,hz⟩:∃z,Txt.join (Str.ofString "") (cs.map sgn)=z:=⟨_,rfl⟩
    have ez:z.cps.toList=cs:=by rw[<-hz];exact(lg (by omega)).2
    rw[hz]
    have nz:Nm z:=Fm ez (by omega) (by omega) FP
    refine⟨λσ5 H5=>∃(s:Str),σ5=[some (.ref h),some (.int m),some (.str (Str.ofString "abcdefghijklmnopqrstuvwxyz")),some (.ref S),some (.int way),none,some (.ref p),some (.int i),some (.str s),none,none,none,none]/\Nm s/\s∉ss/\Dr h H H5/\H5 p=some (.lst (List.map V.str ss))/\H5 S=some (.lst (List.map V.str lits)),?_,?_⟩
    ·repeat (first | walk_at "rd" | simp only[w6])
     refine⟨rfl,nC _,?_⟩
     simp only[nj,uJ,uL,jT]
     by_cases xM:z∈ss
     ·rw[bu xM]
      repeat (first | walk_at "rd" | simp only[Nu])
      refine⟨⟨_,bT Nu⟩,jq (zs:=List.map V.str lits) (λD i ys H5=>ys=List.map V.str ((lits.take i).filter λx=>decide (x∉ss))/\Dr h H H5/\H5 D=some (.lst ys)/\H5 p=some (.lst (List.map V.str ss))/\H5 S=some (.lst (List.map V.str lits))) (λD hD=>⟨rfl,Ws.new hD,ak,by rw[aG (aH w6 hD)];exact w6,by rw[aG (aH Nu hD)];exact Nu⟩) (λD hD i ys H5 _ pv=>pv.2.2.2.2) (λD hD i x ys H5 hx pv c=>?_) (λD hD ys H5 pv=>?_)⟩
      ·obtain⟨rfl,d5,CZ,CQ,Nt⟩:=pv
       rw[fz]at hx
       obtain⟨y,ey,rfl⟩:∃y,lits[i]?=some y/\V.str y=x:=by
        cases e:lits[i]? with
        | none=>rw[e]at hx;cases hx
        | some y=>rw[e]at hx;exact⟨y,rfl,de hx⟩
       have et:lits.take (i+1)=lits.take i++[y]:=by rw[oG,ey];rfl
       have Vx:p≠D:=aH w6 hD
       have hSD:S≠D:=aH Nu hD
       walk_at "rc"
       repeat (first | walk_at "rd" | simp only[CQ])
       refine⟨rfl,nC _,?_⟩
       simp only[nj,fW,vR,yj]
       split
       ·rename_i hy
        refine⟨CZ,?_,?_,d5.put (Ws.free hd hD),by rw[aG Vx];exact CQ,by rw[aG hSD];exact Nt⟩
        ·have:=yf (λx=>decide (x∉ss)) (lits.take i)
         have h2:(lits.take i).length<=13:=by rw[cA,qJ];omega
         try rw[cx]
         exact bX (by omega)
        ·rw[et,uN];simp[hy]
       ·rename_i hy
        refine⟨?_,d5,CZ,Nt⟩
        rw[et,uN];simp[hy]
      ·obtain⟨rfl,d5,CZ,CQ,Nt⟩:=pv
       rw[cx,oF]at CZ
       obtain⟨s,r,es,hs1,Nn⟩:=Fv (ss:=ss) (by omega)
       rw[es]at CZ
       repeat (first | walk_at "rd" | simp only[CZ])
       exact⟨Ad s hs1,Nn,d5,CQ,Nt⟩
     ·rw[aI xM]
      exact⟨nz,xM,Ws,Nu⟩
    ·rintro σ5 H5 ⟨s,rfl,ns,Rm,d5,CQ,Nt⟩
     repeat (first | walk_at "rd" | simp only[CQ])
     refine⟨.inl ⟨rfl,_,bT CQ⟩,?_⟩
     refine⟨bX (by omega),ss++[s],by simp[hl],?_,λx hx=>?_,d5.put CT,by simp,by rw[aG Y8.symm];exact Nt⟩
     ·rw[xW]
      refine⟨nd,by simp,λa ha b hb=>?_⟩
      rw[eR.mp hb]
      intro e;rw[e]at ha;exact Rm ha
     ·rcases fM.mp hx with z | z
      ·exact nm x z
      ·rw[eR.mp z];exact ns
   ·obtain⟨ss,a,b,rfl,hl,nd,nm,d2,yX,Jb⟩:=pv
    repeat (walk_at "rd")
    exact q p ss H' d2 CT yX hl nd nm
  ·
   have hdp:=dp.bU hd
   refine tU hdp rfl rfl (by decide) λD cs H2 hD d2 hD2 Ah FP=>?_
   have yX:H2 p=some (.lst []):=d2.keep _ _ GJ ak
   have Z1:Dr h H H2:=dp.trans d2
   repeat (walk_at "rd")
   refine⟨cs.map sgn,hD2,(lg (by omega)).1,?_⟩
   obtain⟨wd,Y3⟩:∃z,Txt.join (Str.ofString "") (cs.map sgn)=z:=⟨_,rfl⟩
   have ew:wd.cps.toList=cs:=by rw[<-Y3];exact(lg (by omega)).2
   have lw:wd.length=8:=by have:=fh wd;rw[ew]at this;omega
   rw[Y3]
   split
   ·
    refine bG hd Z1 (by decide) (by decide) λfP H3 a0 a1 d3 k3=>?_
    refine⟨by omega,by omega,?_⟩
    obtain⟨Pv,dN⟩:∃Pv:Addr->Nat->List V->Hp->Prop,∀D i ys H',Pv D i ys H'↔∃ss:List Str,ys=List.map V.str ss/\ss.length=i/\(∀(k:Nat) s,ss[k]?=some s->s.cps.toList=cs.take ((fP+3*(k:Int))%8+1).toNat)/\Dr h H H'/\H' D=some (.lst ys):=⟨_,λ_ _ _ _=>dP⟩
    refine iw Pv (λD hD=>(dN _ _ _ _).mpr ⟨[],rfl,rfl,(λk s z=>by simp at z),d3.new hD,ak⟩) (λD hD i ys H4 hi pv c=>?_) (λD hD ys H4 pv=>?_)
    ·obtain⟨ss,rfl,hl,hk,d4,hy⟩:=(dN _ _ _ _).mp pv
     walk_at "rc"
     repeat (walk_at "rd")
     have CP:0<=(fP+3*(i:Int))%8:=pT _ (by decide)
     refine⟨by rw[lw];decide,hy,bX (by omega),(dN _ _ _ _).mpr ⟨ss++[my wd none (some ((fP+3*(i:Int))%8+1))],by simp,by simp[hl],λk s e=>?_,d4.put (d3.free hd hD),ak⟩⟩
     by_cases Pu:k<ss.length
     ·rw[oI Pu]at e;exact hk k s e
     ·rw[mM (by omega)]at e
      have Px:k-ss.length=0:=by
       cases z:k-ss.length with
       | zero=>rfl
       | succ n=>rw[z]at e;cases e
      rw[Px]at e
      have:k=i:=by omega
      subst this
      cases e
      rw[pB wd (by omega),ew]
    ·obtain⟨ss,rfl,hl,hk,d4,hy⟩:=(dN _ _ _ _).mp pv
     refine q D ss H4 d4 (d3.free hd hD) hy hl (n6 λi j x Rq e1 e2=>?_) λs hs=>?_
     ·have g1:=hk i x e1
      have g2:=hk j x e2
      have hj:j<ss.length:=(gp.mp e2).1
      have:=gk List.length (g1.symm.trans g2)
      rw[cA,cA,Ah]at this
      omega
     ·obtain⟨k,IK⟩:=yg.mp hs
      have g:=hk k s IK
      refine Fm g ?_ ?_ λc xN=>FP c (uS xN)
      ·rw[cA,Ah];omega
      ·rw[cA,Ah];omega
   ·
    refine bG hd Z1 (by decide) (by decide) λsp H3 s0 s1 d3 k3=>?_
    repeat (walk_at "rd")
    refine bG hd d3 (by decide) (by decide) λst H4 t0 t1 d4 k4=>?_
    have w6:H4 p=some (.lst []):=by rw[k4 p GJ,k3 p GJ];exact yX
    refine⟨by omega,by omega,?_⟩
    obtain⟨Pv,dN⟩:∃Pv:Nat->St->Hp->Prop,∀i σ' H',Pv i σ' H'↔∃(ss:List Str) (a b c:Option V),σ'=[some (.ref h),some (.int m),some (.str (Str.ofString "abcdefghijklmnopqrstuvwxyz")),some (.ref S),some (.int way),none,some (.ref p),a,b,some (.str wd),some (.int sp),some (.int st),c]/\
     ss.length=i/\(∀(k:Nat) s,ss[k]?=some s->Nm s/\s.cps.toList[sp.toNat]?=some (97+((st+7*(k:Int))%26).toNat))/\Dr h H H'/\H' p=some (.lst (List.map V.str ss)):=⟨_,λ_ _ _=>dP⟩
    refine d8 Pv ((dN _ _ _).mpr ⟨[],none,none,none,rfl,rfl,(λk s z=>by simp at z),d4,w6⟩) (λi σ' H5 hi pv=>?_) (λσ' H5 pv=>?_)
    ·obtain⟨ss,a,b,c,rfl,hl,hk,d5,CQ⟩:=(dN _ _ _).mp pv
     repeat (walk_at "rd")
     have CP:0<=(st+7*(i:Int))%26:=pT _ (by decide)
     have Nj:(st+7*(i:Int))%26<26:=uM _ (by decide)
     refine⟨by decide,?_⟩
     rw[oU CP Nj]
     repeat (walk_at "rd")
     obtain⟨c0,Zo⟩:∃c0,97+((st+7*(i:Int))%26).toNat=c0:=⟨_,rfl⟩
     rw[Zo]
     obtain⟨x1,Nj⟩:∃z,my wd none (some sp)=z:=⟨_,rfl⟩
     obtain⟨x2,Y2⟩:∃z,my wd (some (sp+1)) none=z:=⟨_,rfl⟩
     have e1:x1.cps.toList=cs.take sp.toNat:=by rw[<-Nj,pB wd s0,ew]
     have e2:x2.cps.toList=cs.drop (sp.toNat+1):=by
      rw[<-Y2,tS wd (by omega),ew]
      congr 1;omega
     rw[Nj,Y2]
     have l1:x1.length=sp.toNat:=by have:=fh x1;rw[e1,cA,Ah]at this;omega
     have l2:x2.length=8-(sp.toNat+1):=by have:=fh x2;rw[e2,jQ,Ah]at this;omega
     have lc:(Str.mk #[c0]).length=1:=rfl
     have e3:(x1++Str.mk #[c0]).cps.toList=cs.take sp.toNat++[c0]:=by rw[nA,e1]
     have l3:(x1++Str.mk #[c0]).length=sp.toNat+1:=by
      have:=fh (x1++Str.mk #[c0])
      rw[e3,df,cA,Ah,uU]at this;omega
     obtain⟨z,hz⟩:∃z,x1++Str.mk #[c0]++x2=z:=⟨_,rfl⟩
     have ez:z.cps.toList=cs.take sp.toNat++[c0]++cs.drop (sp.toNat+1):=by rw[<-hz,nA,e3,e2]
     have lz:z.cps.toList.length=8:=by rw[ez,df,df,cA,jQ,Ah,uU];omega
     have lz':z.length=8:=by rw[<-fh z];exact lz
     rw[hz]
     refine⟨by rw[lw];decide,by rw[l1,lc];exact dh (by omega),by rw[lw];decide,by rw[l3,l2];exact dh (by omega),.inl ⟨rfl,_,bT CQ⟩,?_⟩
     refine bG hd d5 (by omega) (by omega) λr H6 r0 r1 d6 k6=>?_
     have hp6:H6 p=some (.lst (List.map V.str ss)):=by rw[k6 p GJ];exact CQ
     repeat (first | walk_at "rd" | simp only[hp6])
     have eq:(my z none (some (sp+1+r))).cps.toList=z.cps.toList.take (sp+1+r).toNat:=pB z (by omega)
     refine⟨by rw[lz'];decide,bX (by omega),(dN _ _ _).mpr ⟨ss++[my z none (some (sp+1+r))],_,_,_,rfl,by simp[hl],λk s e=>?_,d6.put CT,by simp[ak]⟩⟩
     by_cases Pu:k<ss.length
     ·rw[oI Pu]at e;exact hk k s e
     ·rw[mM (by omega)]at e
      have Px:k-ss.length=0:=by
       cases z:k-ss.length with
       | zero=>rfl
       | succ n=>rw[z]at e;cases e
      rw[Px]at e
      have:k=i:=by omega
      subst this
      cases e
      refine⟨Fm eq (by rw[cA,lz];omega) (by rw[cA,lz];omega) λc xN=>?_,?_⟩
      ·have hm:=uS xN
       rw[ez]at hm
       rcases fM.mp hm with hm | hm
       ·rcases fM.mp hm with hm | hm
        ·exact FP c (uS hm)
        ·rw[eR.mp hm];omega
       ·exact FP c (List.mem_of_mem_drop hm)
      ·rw[eq,List.getElem?_take_of_lt (by omega),ez,oI (by rw[df,cA,Ah,uU];omega),mM (by rw[cA,Ah];omega),cA,Ah]
       have:sp.toNat-min sp.toNat 8=0:=by omega
       rw[this,<-Zo];rfl
    ·obtain⟨ss,a,b,c,rfl,hl,hk,d5,CQ⟩:=(dN _ _ _).mp pv
     repeat (walk_at "rd")
     refine q p ss H5 d5 CT CQ hl (n6 λi j x Rq e1 e2=>?_) λs hs=>?_
     ·have g1:=(hk i x e1).2
      have g2:=(hk j x e2).2
      have hj:j<ss.length:=(gp.mp e2).1
      rw[g1]at g2
      have:=de g2
      omega
     ·obtain⟨k,IK⟩:=yg.mp hs
      exact(hk k s IK).1
local macro_rules | `(tactic| walk_at "rd") => `(tactic| walk_at "rc")
local macro_rules | `(tactic| walk_at "rl") => `(tactic| first | (refine di fun R hR => ?_) | walk_at "ry" | (refine Nx.to (by assumption) _ _ ?_))
inductive Rl where
 | yes | no | var (x:Str) | neg (a:Rl) | two (k:Str) (a b:Rl)
def bw:List Str:=[Str.ofString "and",Str.ofString "or",Str.ofString "then",Str.ofString "same"]
def bM(H:Hp):Rl->Addr->Prop
 | .yes,p=>H p=some (.tup [.str (Str.ofString "yes")])
 | .no,p=>H p=some (.tup [.str (Str.ofString "no")])
 | .var x,p=>H p=some (.tup [.str (Str.ofString "is"),.str x])
 | .neg a,p=>∃q,H p=some (.tup [.str (Str.ofString "not"),.ref q])/\bM H a q
 | .two k a b,p=>k∈bw/\∃q r,H p=some (.tup [.str k,.ref q,.ref r])/\bM H a q/\bM H b r
def Rl.deep:Rl->Nat
 | .neg a=>a.deep+1
 | .two _ a b=>max a.deep b.deep+1
 | _=>1
def Rl.names:Rl->List Str
 | .var x=>[x]
 | .neg a=>a.names
 | .two _ a b=>a.names++b.names
 | _=>[]
def M3(H H':Hp):Prop:=∀q xs,H q=some (.tup xs)->H' q=some (.tup xs)
theorem aW{H H':Hp}(s:bA H H'):M3 H H':=λq xs e=>s q _ e
theorem cR.Bz{H:Hp}{h q:Addr}{xs:List V}(x:cR H h)(e:H q=some (.tup xs)):q≠h:=by
 obtain⟨l,ns,o,e1,⟨a,b,c,d,f,rfl,_⟩,_⟩:=x
 exact wQ e e1 (by intro z;cases z)
theorem Dr.tups{h:Addr}{H H':Hp}(d:Dr h H H')(x:cR H h):M3 H H':=λq xs e=>d.keep q _ (x.Bz e) e
theorem bM.mono{H H':Hp}(k:M3 H H'):∀{r:Rl} {p:Addr},bM H r p->bM H' r p
 | .yes,p,h=>k _ _ h
 | .no,p,h=>k _ _ h
 | .var x,p,h=>k _ _ h
 | .neg a,p,⟨q,e,x⟩=>⟨q,k _ _ e,bM.mono k x⟩
 | .two w a b,p,⟨m,q,r,e,x,y⟩=>⟨m,q,r,k _ _ e,bM.mono k x,bM.mono k y⟩
theorem Rl.len:∀r:Rl,r.names.length*2<=2 ^ r.deep
 | .yes=>by decide
 | .no=>by decide
 | .var x=>by show 1*2<=2 ^ 1;decide
 | .neg a=>cN a.len (mK (by decide) (jO _))
 | .two k a b=>by
  show(a.names++b.names).length*2<=2 ^ (max a.deep b.deep+1)
  have h1:=cN a.len (mK (show 0<2 by decide) (uC a.deep b.deep))
  have h2:=cN b.len (mK (show 0<2 by decide) (uE a.deep b.deep))
  rw[df,uv];lia
theorem Rl.Iq{r:Rl}(h:r.deep<=6):r.names.length<=32:=by
 have h1:=r.len
 have h2:2 ^ r.deep<=2 ^ 6:=mK (by decide) h
 have h3:(2:Nat) ^ 6=64:=by decide
 lia
theorem Rl.pos:∀r:Rl,1<=r.deep
 | .yes=>bF _
 | .no=>bF _
 | .var _=>bF _
 | .neg _=>pV _ _
 | .two _ _ _=>pV _ _
theorem Au:∀k∈bw,k≠Str.ofString "is":=by decide
theorem bM.kids{H:Hp}:∀{r:Rl} {p:Addr},bM H r p->(∃x,r=.var x/\H p=some (.tup [.str (Str.ofString "is"),.str x]))\/
  ∃(k:Str) (qs:List Addr) (rs:List Rl),H p=some (.tup (.str k::qs.map V.ref))/\k≠Str.ofString "is"/\qs.length=rs.length/\rs.length<=2/\(∀(i:Nat) q r',qs[i]?=some q->rs[i]?=some r'->bM H r' q/\r'.deep+1<=r.deep)/\r.names=(rs.map Rl.names).flatten
 | .yes,p,h=>.inr ⟨_,[],[],h,by decide,rfl,by decide,(λi q r' e=>by simp at e),rfl⟩
 | .no,p,h=>.inr ⟨_,[],[],h,by decide,rfl,by decide,(λi q r' e=>by simp at e),rfl⟩
 | .var x,p,h=>.inl ⟨x,rfl,h⟩
 | .neg a,p,⟨q,e,x⟩=>.inr ⟨_,[q],[a],e,by decide,rfl,by simp,(λi q' r' e1 e2=>by
   cases i with
   | zero=>cases e1;cases e2;exact⟨x,bF _⟩
   | succ n=>cases e1),by simp[Rl.names]⟩
 | .two w a b,p,⟨m,q,r,e,x,y⟩=>.inr ⟨_,[q,r],[a,b],e,Au _ m,rfl,by simp,(λi q' r' e1 e2=>by
   match i with
   | 0=>cases e1;cases e2;exact⟨x,uF (uC _ _)⟩
   | 1=>cases e1;cases e2;exact⟨y,uF (uE _ _)⟩
   | n+2=>cases e1),by simp[Rl.names]⟩
theorem gH(x:V)(xs:List V):dO (x::xs) (some 1) none=xs:=by
 unfold dO HT.bY
 simp
def DQ(d:Nat):Sp:=λvs H Q _=>∃h N dp,vs=[.ref h,.ref N,.int dp]/\1<=dp/\dp<=d/\∃ss:List Str,cR H h/\H N=some (.lst (List.map V.str ss))/\ss.length<=8/\
 ∀p r H',Dr h H H'->bM H' r p->(r.deep:Int)<=dp->(∀x∈r.names,x∈ss)->Q (.ref p) H'
theorem cR.Ox{H:Hp}{h N:Addr}{ss:List Str}(x:cR H h)(e:H N=some (.lst (List.map V.str ss))):N≠h:=by
 obtain⟨l,ns,o,e1,⟨a,b,c,d,f,rfl,_⟩,_⟩:=x
 refine wQ e e1 (λz=>?_)
 unfold hv at z
 injection z with z
 match ss,z with
 | [],z=>cases z
 | s::_,z=>injection z with z1 _;cases z1
theorem JH{c d:Prop} [Decidable c] [Decidable d] {X Y:Prop} (h1:X) (h2:¬c->¬d->Y):if c then X else if d then X else Y:=by
 split
 ·exact h1
 ·split
  ·exact h1
  ·exact h2 ‹_› ‹_›
theorem z8(T:Txt K mg t):∀d:Nat,cK P w K mg base jN (d+4) t.kK t.kj ["_law_hand_here","_law_names_here","_law_deep"] (DQ d)
 | 0=>T.fT.mF (k:=3) gu (λvs H Q E h=>by obtain⟨h,N,dp,rfl,_⟩:=h;rfl) (λcI A outer s H vs Q E hr h hc hf=>by obtain⟨h,N,dp,rfl,h1,h2,_⟩:=h;lia)
 | d+1=>by
  have aF:=m9 (P:=P) (w:=w) (base:=base) T
  have iB:=z8 T d
  refine T.fT.mF (k:=d+4) gu (λvs H Q E h=>?_) (λcI A outer s H vs Q E hr h hc hf=>?_)
  ·obtain⟨h,N,dp,rfl,_⟩:=h;rfl
  obtain⟨h,N,dp,rfl,h1,h2,ss,hd,hN,l8,q⟩:=h
  have yZ:=hd.Ox hN
  refine⟨_,(by apply ai;exact(az hc gu.nd hf 3 (by decide +kernel) (ay aF hr.mono (bz hc) T.aN T.aK.kp T.aO .nil aT (ae (aj hc 0) (ae ah ag))));apply ai;exact(aS (iU (fA (aB bW (aj hc 2) ah (aR _)) (eU (aB wG (aj hc 3) ah (aR _))))) (by apply ai;exact(aS (iU (fA (aB bW (ay aF hr.mono (bz hc) T.aN T.aK.kp T.aO .nil aT (ae (aj hc 0) (ae ah ag))) ah (aR _)) (eU (aB bW (aJ cJ (bz hc) T.dJ fk (ae (aj hc 1) ag)) ah (aR _))))) (by exact ao (aC (aP cM (bx (ae (bL (ae aE ag)) (ae (bL (ae aE ag)) ag))) (ay aF hr.mono (bz hc) T.aN T.aK.kp T.aO .nil aT (ae (aj hc 0) (ae ah ag))) (λ_ _=>rfl)))) aD);exact ao (aC (bL (ae aE (ae (aP cM (aj hc 1) (ay aF hr.mono (bz hc) T.aN T.aK.kp T.aO .nil aT (ae (aj hc 0) (ae (aJ cJ (bz hc) T.dJ fk (ae (aj hc 1) ag)) ag))) (λ_ _=>rfl)) ag))))) aD);apply ai;exact(az hc gu.nd hf 4 (by decide +kernel) (ay iB hr.mono (bz hc) T.j9 T.fT.kp T.kF .nil aT (ae (aj hc 0) (ae (aj hc 1) (ae (aA jg (aj hc 2) ah) ag)))));apply ai;exact(aS (aB wG (aj hc 3) ah (aR _)) (by exact ao (aC (bL (ae aE (ae (aj hc 4) ag))))) aD);exact ao (aC (bL (ae (aP cM (bx (ae aE (ae aE (ae aE (ae aE ag))))) (aA jg (aj hc 3) ah) (λ_ _=>rfl)) (ae (aj hc 4) (ae (ay iB hr.mono (bz hc) T.j9 T.fT.kp T.kF .nil aT (ae (aj hc 0) (ae (aj hc 1) (ae (aA jg (aj hc 2) ah) ag)))) ag)))))),?_⟩
  walk_at "rd"
  refine bG hd Dr.refl (by decide) (by decide) λway H1 w0 w8 d1 k1=>?_
  have vF:H1 N=some (.lst (List.map V.str ss)):=by rw[k1 N yZ];exact hN
  have VH:=d1.bU hd
  repeat (first | walk_at "rd" | simp only[vF])
  refine JH ?_ λn1 n2=>?_
  ·refine bG hd d1 (by decide) (by decide) λr H2 r0 r1 d2 k2=>?_
   have GQ:H2 N=some (.lst (List.map V.str ss)):=by rw[k2 N yZ];exact vF
   have hd2:=d2.bU hd
   repeat (first | walk_at "rd" | simp only[GQ])
   refine JH ?_ λm1 m2=>?_
   ·refine⟨by decide,λp hp=>⟨by decide,λp' Ag=>⟨by decide,λL hL=>?_⟩⟩⟩
    have d5:=((d2.new (o:=.tup [.str (Str.ofString "yes")]) hp).new (o:=.tup [.str (Str.ofString "no")]) Ag).new (o:=.lst [.ref p,.ref p']) hL
    refine bG hd d5 (by decide) (by decide) λi H3 i0 i2 d3 k3=>?_
    have nL:L≠h:=(((d2.new (o:=.tup [.str (Str.ofString "yes")]) hp).new (o:=.tup [.str (Str.ofString "no")]) Ag).bU hd).ne hL
    have np:p≠h:=hd2.ne hp
    have np':p'≠h:=((d2.new (o:=.tup [.str (Str.ofString "yes")]) hp).bU hd).ne Ag
    have pp:p≠p':=aH ak Ag
    have pL:p≠L:=aH (H:=upd (upd H2 p _) p' _) (by rw[aG pp,ak]) hL
    have pL':p'≠L:=aH (H:=upd (upd H2 p _) p' _) ak hL
    have e1:H3 L=some (.lst [.ref p,.ref p']):=by rw[k3 L nL,ak]
    have e2:H3 p=some (.tup [.str (Str.ofString "yes")]):=by rw[k3 p np,aG pL,aG pp,ak]
    have e3:H3 p'=some (.tup [.str (Str.ofString "no")]):=by rw[k3 p' np',aG pL',ak]
    have hi:i=0\/i=1:=by lia
    rcases hi with rfl | rfl
    ·repeat (first | walk_at "rd" | simp only[e1])
     exact q p .yes H3 d3 e2 (by show((1:Nat):Int)<=dp;lia) (λx hx=>nomatch hx)
    ·repeat (first | walk_at "rd" | simp only[e1])
     exact q p' .no H3 d3 e3 (by show((1:Nat):Int)<=dp;lia) (λx hx=>nomatch hx)
   ·refine bG hd d2 (by lia) (by lia) λi H3 i0 i2 d3 k3=>?_
    have V2:H3 N=some (.lst (List.map V.str ss)):=by rw[k3 N yZ];exact GQ
    have hi:i.toNat<ss.length:=by lia
    have e:mz (List.map V.str ss) i=some (.str ss[i.toNat]):=by
     have:=cy (xs:=List.map V.str ss) (j:=i.toNat) (v:=.str ss[i.toNat]) (by rw[fz,fL hi];rfl)
     rw[x9 i0]at this;exact this
    repeat (first | walk_at "rd" | simp only[V2,e])
    refine⟨by decide,λp hp=>?_⟩
    exact q p (.var ss[i.toNat]) _ (d3.new hp) ak (by show((1:Nat):Int)<=dp;lia) (λx hx=>by rw[eR.mp hx];exact jP hi)
  ·refine⟨h,N,dp-1,rfl,by lia,by lia,ss,VH,vF,l8,λp1 a1 H2 d2 at2 de2 Yi=>?_⟩
   have RL:=d1.trans d2
   have hd2:=RL.bU hd
   have GQ:H2 N=some (.lst (List.map V.str ss)):=d2.keep _ _ yZ vF
   split
   ·refine⟨by decide,λp hp=>q p (.neg a1) _ (RL.new hp) ⟨p1,ak,at2.mono (aW (au hp _))⟩ (by show((a1.deep+1:Nat):Int)<=dp;lia) Yi⟩
   ·refine⟨by decide,λL hL=>?_⟩
    have sL:=au hL (.lst [V.str (Str.ofString "and"),V.str (Str.ofString "or"),V.str (Str.ofString "then"),V.str (Str.ofString "same")])
    have Zi:=(RL.new (o:=.lst [V.str (Str.ofString "and"),V.str (Str.ofString "or"),V.str (Str.ofString "then"),V.str (Str.ofString "same")]) hL).bU hd
    have fin:∀k∈bw,DQ d [V.ref h,V.ref N,V.int (dp-1)] (upd H2 L (.lst [V.str (Str.ofString "and"),V.str (Str.ofString "or"),V.str (Str.ofString "then"),V.str (Str.ofString "same")]))
      (λx H1=>3<=sizeLine/\∀(p:Addr),H1 p=none->Q (V.ref p) (upd H1 p (HO.tup [V.str k,V.ref p1,x]))) E0:=by
     intro k hk
     refine⟨h,N,dp-1,rfl,by lia,by lia,ss,Zi,sL _ _ GQ,l8,λp2 a2 H3 d3 at3 de3 na3=>⟨by decide,λp hp=>?_⟩⟩
     have dd3:=(RL.new (o:=.lst [V.str (Str.ofString "and"),V.str (Str.ofString "or"),V.str (Str.ofString "then"),V.str (Str.ofString "same")]) hL).trans d3
     refine q p (.two k a1 a2) _ (dd3.new hp) ⟨hk,p1,p2,ak,((at2.mono (aW sL)).mono (d3.tups Zi)).mono (aW (au hp _)),at3.mono (aW (au hp _))⟩ ?_ ?_
     ·show((max a1.deep a2.deep+1:Nat):Int)<=dp
      lia
     ·intro x hx
      rcases fM.mp hx with z | z
      ·exact Yi x z
      ·exact na3 x z
    have hw:way=4\/way=5\/way=6\/way=7:=by lia
    rcases hw with rfl | rfl | rfl | rfl
    ·exact⟨_,rfl,fin _ (by decide)⟩
    ·exact⟨_,rfl,fin _ (by decide)⟩
    ·exact⟨_,rfl,fin _ (by decide)⟩
    ·exact⟨_,rfl,fin _ (by decide)⟩
local macro_rules | `(tactic| walk_at "rd") => `(tactic| walk_at "rc")
local macro_rules | `(tactic| walk_at "rl") => `(tactic| first | (refine di fun R hR => ?_) | walk_at "ry" | (refine Nx.to (by assumption) _ _ ?_))
def DK(d:Nat):Sp:=λvs H Q _=>∃p,vs=[.ref p]/\∃r,bM H r p/\r.deep<=d/\r.deep<=6/\∀L H',bA H H'->H L=none->H' L=some (.lst (List.map V.str r.names))->Q (.ref L) H'
theorem kY{rs:List Rl}{i:Nat}{r:Rl}(h:rs[i]?=some r):((rs.take (i+1)).map Rl.names).flatten=((rs.take i).map Rl.names).flatten++r.names:=by
 rw[oG,h]
 simp
theorem nY{qs:List Addr}{i:Nat}{x:V}(h:(List.map V.ref qs)[i]?=some x):∃q,qs[i]?=some q/\x=.ref q:=by
 rw[fz]at h
 cases e:qs[i]? with
 | none=>rw[e]at h;cases h
 | some q=>rw[e]at h;exact⟨q,rfl,(de h).symm⟩
theorem tE(T:Txt K mg t):∀d:Nat,cK P w K mg base jN (d+1) t.g6 t.gT ["rule"] (DK d)
 | 0=>T.fu.mF (k:=0) dW (λvs H Q E h=>by obtain⟨p,rfl,_⟩:=h;rfl) (λcI A outer s H vs Q E hr h hc hf=>by obtain⟨p,rfl,r,_,h1,_⟩:=h;have:=r.pos;lia)
 | d+1=>by
  have ia:=tE T d
  refine T.fu.mF (k:=d+1) dW (λvs H Q E h=>?_) (λcI A outer s H vs Q E hr h hc hf=>?_)
  ·obtain⟨p,rfl,_⟩:=h;rfl
  obtain⟨p,rfl,r,ra,hd,h6,q⟩:=h
  refine⟨_,(by apply ai;exact(aS (aB bW (aP ni (aj hc 0) ah (λ_ _=>rfl)) aE (aR _)) (by exact ao (aC (bx (ae (aP ni (aj hc 0) ah (λ_ _=>rfl)) ag)))) aD);apply ai;exact(az hc dW.nd hf 1 (by decide +kernel) (bx ag));apply ai;exact(dU jC rfl (ph (aQ Ho (aj hc 0) (aX ah) aY)) (nS hc dW.nd hf 2 (by decide +kernel)) (by exact ao (dR (dM si PySem.F.slot_list_extend PySem.F.type_list_extend BG (aj hc 1) (ae (ay ia hr.mono (bz hc) T.j8 T.fu.kp T.kE .nil aT (ae (aj hc 2) ag)) ag)))));exact ao (aC (aj hc 1))),?_⟩
  rcases ra.kids with ⟨x,rfl,hp⟩ | ⟨k,qs,rs,hp,Nh,hl,l2,vP,nm⟩
  ·repeat (first | walk_at "rl" | simp only[hp])
   refine⟨by decide,λL hL=>q L _ (au hL _) hL ak⟩
  ·repeat (first | walk_at "rl" | simp only[hp,Nh])
   refine⟨by decide,λL hL=>?_⟩
   have pL:p≠L:=aH hp hL
   walk_at "r"
   refine⟨_,by rw[aG pL];exact hp,by simp[HT.bY],λC hC=>?_⟩
   rw[gH]
   have LC:L≠C:=aH ak hC
   have sC:bA H (upd (upd H L (.lst [])) C (.tup (List.map V.ref qs))):=(au hL _).trans (au hC _)
   refine⟨⟨_,cB ak⟩,?_⟩
   obtain⟨Pv,dN⟩:∃Pv:Nat->St->Hp->Prop,∀i σ' H',Pv i σ' H'↔∃x:Option V,σ'=[some (.ref p),some (.ref L),x]/\bA H H'/\H' L=some (.lst (List.map V.str ((rs.take i).map Rl.names).flatten))/\H' C=some (.tup (List.map V.ref qs)):=⟨_,λ_ _ _=>dP⟩
   refine jj (xs:=List.map V.ref qs) Pv ((dN _ _ _).mpr ⟨none,rfl,sC,by rw[aG LC,ak];rfl,ak⟩) (λi σ' H1 _ pv=>?_) (λi x σ' H1 hx pv=>?_) (λσ' H1 pv=>?_)
   ·obtain⟨_,_,_,_,h⟩:=(dN _ _ _).mp pv
    exact h
   ·obtain⟨y,rfl,s1,tP,y0⟩:=(dN _ _ _).mp pv
    obtain⟨a,ea,rfl⟩:=nY hx
    have hi:i<rs.length:=by rw[<-hl];exact(gp.mp ea).1
    have er:rs[i]?=some rs[i]:=fL hi
    obtain⟨ka,kd⟩:=vP i a _ ea er
    have len:((rs.take i).map Rl.names).flatten.length+(rs[i]).names.length<=32:=by
     have:=Rl.Iq h6
     have e2:r.names=((rs.take (i+1)).map Rl.names).flatten++((rs.drop (i+1)).map Rl.names).flatten:=by
      rw[nm,<-yb,<-ig,sf]
     rw[e2,kY er,df,df]at this
     lia
    walk_at "r"
    refine⟨.inl ⟨rfl,_,bT tP⟩,a,rfl,rs[i],ka.mono (aW s1),by lia,by lia,λM H2 s2 hM hM2=>?_⟩
    repeat (first | walk_at "rl" | simp only[hM2,s2 _ _ tP])
    refine⟨dh (by lia),(dN _ _ _).mpr ⟨_,rfl,?_,?_,?_⟩⟩
    ·exact λb u e=>by rw[aG (aH e hL)];exact s2 _ _ (s1 _ _ e)
    ·rw[ak,kY er,ig]
    ·rw[aG LC.symm];exact s2 _ _ y0
   ·obtain⟨y,rfl,s1,tP,y0⟩:=(dN _ _ _).mp pv
    walk_at "r"
    refine q L H1 s1 hL ?_
    rw[tP,cx,hl,oF,<-nm]
def Bl:Sp:=λvs H Q _=>∃p,vs=[.ref p]/\∃r,bM H r p/\r.deep<=6/\∀L ts H',bA H H'->H L=none->H' L=some (.lst (List.map V.str ts))->(∀z,z∈ts↔z∈r.names)->ts.Nodup->PyProof.Rows.sortedS ts=true->Q (.ref L) H'
theorem wI(T:Txt K mg t):cK P w K mg base jN 8 t.mB t.mq ["rule"] Bl:=by
 have ia:=tE (P:=P) (w:=w) (base:=base) T 6
 refine T.qX.mF wj (λvs H Q E h=>?_) (λcI A outer s H vs Q E hr h hc hf=>?_)
 ·obtain⟨p,rfl,_⟩:=h;rfl
 obtain⟨p,rfl,r,ra,h6,q⟩:=h
 refine⟨_,(by exact ao (aC (aJ (rM hr.hd) (bz hc) T.jU xA (ae (lY (Cr hr.hd) (bz hc) T.zC Qy (ae (ay ia hr.mono (bz hc) T.j8 T.fu.kp T.kE .nil aT (ae (aj hc 0) ag)) ag)) ag)))),?_⟩
 walk_at "r"
 refine⟨p,rfl,r,ra,h6,h6,λL H1 s1 hL tP=>?_⟩
 have l32:=Rl.Iq h6
 repeat (first | walk_at "rl" | simp only[tP])
 refine⟨r.names,rfl,by lia,λZ hZ=>⟨r.names,rfl,by lia,λts mem nd N0 D hD=>?_⟩⟩
 have s3:=(s1.trans (au hZ (MT w Z r.names))).trans (au hD (.lst (List.map V.str ts)))
 exact q D ts _ s3 ((s1.trans (au hZ (MT w Z r.names))).free hD) ak mem nd N0
local macro_rules | `(tactic| walk_at "rd") => `(tactic| walk_at "rc")
local macro_rules | `(tactic| walk_at "rl") => `(tactic| first | (refine di fun R hR => ?_) | walk_at "ry" | (refine Nx.to (by assumption) _ _ ?_))
theorem Kg{ss:List Str}{i:Nat}{x:V}(h:(List.map V.str ss)[i]?=some x):∃y,ss[i]?=some y/\x=.str y:=by
 rw[fz]at h
 cases e:ss[i]? with
 | none=>rw[e]at h;cases h
 | some q=>rw[e]at h;exact⟨q,rfl,(de h).symm⟩
theorem eF{H H1:Hp}{p:Addr}{o:HO}(a:bA H H1)(hn:H p=none):bA H (upd H1 p o):=λb u e=>by rw[aG (aH e hn)];exact a b u e
theorem cR.Ye{H:Hp}{h q:Addr}{xs:List (Key×V)}(x:cR H h)(e:H q=some (.dK xs)):q≠h:=by
 obtain⟨l,ns,o,e1,⟨a,b,c,d,f,rfl,_⟩,_⟩:=x
 exact wQ e e1 (by intro z;cases z)
theorem Dr.same{h:Addr}{H H1 H2:Hp}(d:Dr h H H1)(s:bA H1 H2):Dr h H H2:=⟨λb o hb e=>s _ _ (d.keep b o hb e),λl x=>by
 obtain⟨ns,o,e1,e2,e3⟩:=d.hand l x
 exact⟨ns,o,s _ _ e1,e2,s _ _ e3⟩⟩
theorem Qc(xs:List Str)(lo hi:Option Int):∃ys:List Str,dO (List.map V.str xs) lo hi=List.map V.str ys/\ys.length<=xs.length:=by
 refine⟨_,qP V.str xs lo hi,?_⟩
 rw[cA,jQ]
 lia
theorem pA(xs:List V){k:Int}(hk:0<=k):dO xs none (some k)=xs.take k.toNat:=by
 have e:HT.bY xs.length xs.length (some k)=min k.toNat xs.length:=by
  show(if k<0 then _ else min k.toNat xs.length)=_
  rw[aI (by lia)]
 have e0:HT.bY xs.length 0 none=0:=rfl
 unfold dO
 rw[e,e0,uy,Nat.sub_zero]
 exact(List.take_eq_take_min ..).symm
def DS(d:Nat):Sp:=λvs H Q _=>∃p,vs=[.ref p]/\∃r,bM H r p/\r.deep<=d/\r.deep<=6/\∀L ts H',bA H H'->H L=none->H' L=some (.lst (List.map V.str ts))->(∀z,z∈ts↔z∈r.names)->ts.Nodup->PyProof.Rows.sortedS ts=true->Q (.ref L) H'
theorem za{K:PySem.W.Frag}{N M:Addr}{us ts:List Str}{j:Nat}{σ:St}{H2:Hp}{Q:VK}(hN:H2 N=some (.lst (List.map V.str us)))(hM:H2 M=some (.lst (List.map V.str ts)))(hj:σ[j]?=some (some (.ref M)))(hl:us.length<=900)
  (q:∀D H',bA H2 H'->H2 D=none->H' D=some (.lst (List.map V.str (us.filter λx=>decide (x∉ts))))->Q (.ref D) H') :
  iE (Gv K N) 1 [j] (λ_=>cU 0) (λ_=>sY (Dt (Hz true) (rm 0) (rm 1))) (λ_=>rm 0) σ Q H2:=by
 refine jq (zs:=List.map V.str us) (λD i ys H5=>ys=List.map V.str ((us.take i).filter λx=>decide (x∉ts))/\bA H2 H5/\H5 D=some (.lst ys)) (λD hD=>⟨rfl,au hD _,ak⟩) (λD hD i ys H5 _ pv=>pv.2.1 _ _ hN) (λD hD i x ys H5 hx pv c=>?_) (λD hD ys H5 pv=>?_)
 ·obtain⟨rfl,s5,CZ⟩:=pv
  obtain⟨y,ey,rfl⟩:=Kg hx
  have et:us.take (i+1)=us.take i++[y]:=by rw[oG,ey];rfl
  have hM5:=s5 _ _ hM
  walk_at "rc"
  repeat (first | walk_at "rl" | simp only[hj,hM5,Option.join_some])
  refine⟨rfl,nC _,?_⟩
  simp only[nj,fW,vR,yj]
  split
  ·rename_i hy
   refine⟨CZ,?_,?_,eF s5 hD⟩
   ·have:=yf (λx=>decide (x∉ts)) (us.take i)
    have h2:(us.take i).length<=us.length:=by rw[cA];lia
    try rw[cx]
    exact bX (by lia)
   ·rw[et,uN];simp[hy]
  ·rename_i hy
   refine⟨?_,s5,CZ⟩
   rw[et,uN];simp[hy]
 ·obtain⟨rfl,s5,CZ⟩:=pv
  rw[cx,oF]at CZ
  exact q D H5 s5 hD CZ
theorem tG(T:Txt K mg t):∀d:Nat,cK P w K mg base jN (d+1) t.gi t.gh ["_law_rule_here"] (DS d)
 | 0=>T.dZ.mF (k:=0) cC (λvs H Q E h=>by obtain⟨p,rfl,_⟩:=h;rfl) (λcI A outer s H vs Q E hr h hc hf=>by obtain⟨p,rfl,r,_,h1,_⟩:=h;have:=r.pos;lia)
 | d+1=>by
  have gj:=tG T d
  refine T.dZ.mF (k:=d+1) cC (λvs H Q E h=>?_) (λcI A outer s H vs Q E hr h hc hf=>?_)
  ·obtain⟨p,rfl,_⟩:=h;rfl
  obtain⟨p,rfl,r,ra,hd,h6,q⟩:=h
  refine⟨_,(by apply ai;exact(aS (aB bW (aP ni (aj hc 0) ah (λ_ _=>rfl)) aE (aR _)) (by exact ao (aC (bx (ae (aP ni (aj hc 0) ah (λ_ _=>rfl)) ag)))) aD);apply ai;exact(az hc cC.nd hf 1 (by decide +kernel) (bx ag));apply ai;exact(dU jC rfl (ph (aQ Ho (aj hc 0) (aX ah) aY)) (nS hc cC.nd hf 2 (by decide +kernel)) (by exact ao (az hc cC.nd hf 1 (by decide +kernel) (aA iI (aj hc 1) (cV hc ["_law_name"] [1] rfl (by decide +kernel) (mO (ay gj hr.mono (bz hc) T.jG T.dZ.kp T.jJ .nil aT (ae (aj hc 2) ag))) (λ_ hc=>pZ hc (by decide +kernel) 0 (by decide +kernel)) (λ_ hc=>sk (aB nZ (aj hc 0) (aj hc 1) (by with_unfolding_all rfl))) (λ_ hc=>(aj hc 0)))))));exact ao (aC (aJ vH (bz hc) T.jU xA (ae (aj hc 1) ag)))),?_⟩
  rcases ra.kids with ⟨x,rfl,hp⟩ | ⟨k,qs,rs,hp,Nh,hl,l2,vP,nm⟩
  ·repeat (first | walk_at "rl" | simp only[hp])
   refine⟨by decide,λL hL=>q L [x] _ (au hL _) hL ak (λz=>dP) (by simp) rfl⟩
  ·repeat (first | walk_at "rl" | simp only[hp,Nh])
   refine⟨by decide,λL hL=>?_⟩
   have pL:p≠L:=aH hp hL
   walk_at "r"
   refine⟨_,by rw[aG pL];exact hp,by simp[HT.bY],λC hC=>?_⟩
   rw[gH]
   have LC:L≠C:=aH ak hC
   have sC:bA H (upd (upd H L (.lst [])) C (.tup (List.map V.ref qs))):=(au hL _).trans (au hC _)
   refine⟨⟨_,cB ak⟩,?_⟩
   obtain⟨Pv,dN⟩:∃Pv:Nat->St->Hp->Prop,∀i σ' H',Pv i σ' H'↔∃(M:Addr) (ts:List Str) (x:Option V),σ'=[some (.ref p),some (.ref M),x]/\bA H H'/\H' M=some (.lst (List.map V.str ts))/\H' C=some (.tup (List.map V.ref qs))/\ts.Nodup/\∀z,z∈ts↔z∈((rs.take i).map Rl.names).flatten:=⟨_,λ_ _ _=>dP⟩
   refine jj (xs:=List.map V.ref qs) Pv ((dN _ _ _).mpr ⟨L,[],none,rfl,sC,by rw[aG LC,ak];rfl,ak,uz,λz=>dP⟩) (λi σ' H1 _ pv=>?_) (λi x σ' H1 hx pv=>?_) (λσ' H1 pv=>?_)
   ·obtain⟨_,_,_,_,_,_,h,_⟩:=(dN _ _ _).mp pv
    exact h
   ·obtain⟨M,ts,y,rfl,s1,Ce,y0,nd,mem⟩:=(dN _ _ _).mp pv
    obtain⟨a,ea,rfl⟩:=nY hx
    have hi:i<rs.length:=by rw[<-hl];exact(gp.mp ea).1
    have er:rs[i]?=some rs[i]:=fL hi
    obtain⟨ka,kd⟩:=vP i a _ ea er
    have len:((rs.take i).map Rl.names).flatten.length+(rs[i]).names.length<=32:=by
     have:=Rl.Iq h6
     have e2:r.names=((rs.take (i+1)).map Rl.names).flatten++((rs.drop (i+1)).map Rl.names).flatten:=by
      rw[nm,<-yb,<-ig,sf]
     rw[e2,kY er,df,df]at this
     lia
    walk_at "r"
    refine⟨a,rfl,rs[i],ka.mono (aW s1),by lia,by lia,λN us H2 s2 hN GQ O1 Yg aAc=>?_⟩
    repeat (first | walk_at "rl" | simp only[GQ,s2 _ _ Ce])
    have Yk:us.length<=32:=by
     have:=fF Yg λx hx=>(O1 x).mp hx
     lia
    have UG:ts.length<=32:=by
     have:=fF nd λx hx=>(mem x).mp hx
     lia
    refine⟨⟨_,bT GQ⟩,za GQ (s2 _ _ Ce) rfl (by lia) λD H3 s3 hD hD3=>?_⟩
    have lf:=yf (λx=>decide (x∉ts)) us
    refine⟨D,rfl,_,s3 _ _ (s2 _ _ Ce),_,hD3,by rw[cx,cx];exact dh (by lia),λZ hZ=>(dN _ _ _).mpr ⟨Z,ts++us.filter (λx=>decide (x∉ts)),_,rfl,?_,by rw[ak,ig],?_,?_,λz=>?_⟩⟩
    ·exact((s1.trans s2).trans s3).trans (au hZ _)
    ·exact au hZ _ _ _ (s3 _ _ (s2 _ _ y0))
    ·rw[xW]
     refine⟨nd,Yg.filter _,λx hx y hy e=>?_⟩
     subst e
     have:=(pU.mp hy).2
     simp at this
     exact this hx
    ·rw[kY er,fM,fM,mem z,pU,O1 z]
     constructor
     ·rintro(h | h)
      ·exact .inl h
      ·exact .inr h.1
     ·rintro(h | h)
      ·exact .inl h
      ·by_cases hz:z∈ts
       ·exact .inl ((mem z).mp hz)
       ·exact .inr ⟨h,by simpa using hz⟩
   ·obtain⟨M,ts,y,rfl,s1,Ce,y0,nd,mem⟩:=(dN _ _ _).mp pv
    repeat (first | walk_at "rl" | simp only[Ce])
    rw[cx,hl,oF,<-nm]at mem
    have l32:=Rl.Iq h6
    have UG:ts.length<=r.names.length:=fF nd λx hx=>(mem x).mp hx
    refine⟨ts,rfl,by lia,λus pu su Z hZ=>?_⟩
    exact q Z us _ (s1.trans (au hZ _)) (s1.free hZ) ak (λz=>(pu.mem_iff).trans (mem z)) (pu.nodup_iff.mpr nd) su
local macro_rules | `(tactic| walk_at "rd") => `(tactic| walk_at "rc")
local macro_rules | `(tactic| walk_at "rl") => `(tactic| first | (refine di fun R hR => ?_) | walk_at "ry" | (refine Nx.to (by assumption) _ _ ?_))
def Bn:Sp:=λvs H Q _=>∃s,vs=[.str s]/\Q (match PyProof.Rows.KTD.datumAt s bj with | some i=>.int i | none=>.non) H
theorem dn(K:PySem.W.Frag)(T:String):PySem.W.kitOne K (.type T) (.type T)=some true:=by
 unfold PySem.W.kitOne
 rw[bu (by simp)]
theorem gQ{K:PySem.W.Frag}{A B:String}(h:(Value.type A==Value.type B)=false)(e:PySem.W.kitCls K (.type A) (.type B)=some false):PySem.W.kitOne K (.type A) (.type B)=some false:=by
 unfold PySem.W.kitOne
 rw[aI (by rw[h];exact cO)]
 exact e
theorem Fh:PyProof.Rows.KTD.datumAt (Str.ofString "not") bj=some 1:=by decide +kernel
theorem zh:∀k∈bw,PyProof.Rows.KTD.datumAt k bj=some 2:=by decide +kernel
def Rl.words:Rl->List Str
 | .yes=>[Str.ofString "yes"]
 | .no=>[Str.ofString "no"]
 | .var x=>[Str.ofString "is",x]
 | .neg a=>Str.ofString "not" :: a.words
 | .two k a b=>k::(a.words++b.words)
def Rl.good:Rl->Prop
 | .neg a=>a.good
 | .two k a b=>k∈bw/\a.good/\b.good
 | _=>True
theorem bM.good{H:Hp}:∀{r:Rl} {p:Addr},bM H r p->r.good
 | .yes,_,_=>trivial
 | .no,_,_=>trivial
 | .var _,_,_=>trivial
 | .neg a,_,⟨_,_,x⟩=>show a.good from bM.good x
 | .two k a b,_,⟨m,_,_,_,x,y⟩=>⟨m,bM.good x,bM.good y⟩
theorem JT:∀k∈bw,k.length<=4/\(32:Nat)∉k.cps.toList:=by decide +kernel
structure Rl.RN(r:Rl)(k:Str)(rs:List Rl):Prop where
 nis:k≠Str.ofString "is"
 tab:PyProof.Rows.KTD.datumAt k bj=some (rs.length:Int)
 two:rs.length<=2
 ws:r.words=k::(rs.map Rl.words).flatten
 vP:∀s∈rs,s.good/\s.deep+1<=r.deep/\∀n∈s.names,n∈r.names
 make:∀(H:Hp) p qs,H p=some (.tup (.str k::List.map V.ref qs))->qs.length=rs.length->(∀(i:Nat) q s,qs[i]?=some q->rs[i]?=some s->bM H s q)->bM H r p
 un:∀(H:Hp) p,bM H r p->∃qs:List Addr,H p=some (.tup (.str k::List.map V.ref qs))/\qs.length=rs.length/\∀(i:Nat) q s,qs[i]?=some q->rs[i]?=some s->bM H s q
 nb:k.length<=4/\(32:Nat)∉k.cps.toList
 Uz:r.names=(rs.map Rl.names).flatten
theorem Rl.par:∀{r:Rl},r.good->(∃x,r=.var x)\/∃k rs,Rl.RN r k rs
 | .yes,_=>.inr ⟨_,[],⟨by decide,by decide +kernel,by decide,rfl,(λs h=>nomatch h),λH p qs e hl _=>by
   have z:qs=[]:=vY hl
   subst z;exact e,λH p h=>⟨[],h,rfl,λi q s e=>by simp at e⟩,by decide +kernel,rfl⟩⟩
 | .no,_=>.inr ⟨_,[],⟨by decide,by decide +kernel,by decide,rfl,(λs h=>nomatch h),λH p qs e hl _=>by
   have z:qs=[]:=vY hl
   subst z;exact e,λH p h=>⟨[],h,rfl,λi q s e=>by simp at e⟩,by decide +kernel,rfl⟩⟩
 | .var x,_=>.inl ⟨x,rfl⟩
 | .neg a,g=>.inr ⟨_,[a],⟨by decide,Fh,by simp,by simp[Rl.words],λs h=>by rw[eR.mp h];exact⟨g,bF _,λn hn=>hn⟩,λH p qs e hl h=>by
   match qs,hl with
   | [q],_=>exact⟨q,e,h 0 q a rfl rfl⟩,λH p ⟨q,e,x⟩=>⟨[q],e,rfl,λi q' s e1 e2=>by
   cases i with
   | zero=>cases e1;cases e2;exact x
   | succ n=>cases e1⟩,by decide +kernel,by simp[Rl.names]⟩⟩
 | .two k a b,⟨hk,ga,gb⟩=>.inr ⟨k,[a,b],⟨Au k hk,zh k hk,by simp,by simp[Rl.words],λs h=>by
   rcases cz.mp h with e | h
   ·rw[e];exact⟨ga,Nat.add_le_add_right (uC _ _) 1,λn hn=>pI _ hn⟩
   ·rw[eR.mp h];exact⟨gb,Nat.add_le_add_right (uE _ _) 1,λn hn=>iS _ hn⟩,λH p qs e hl h=>by
   match qs,hl with
   | [q,r],_=>exact⟨hk,q,r,e,h 0 q a rfl rfl,h 1 r b rfl rfl⟩,λH p ⟨_,q,r,e,x,y⟩=>⟨[q,r],e,rfl,λi q' s e1 e2=>by
   match i with
   | 0=>cases e1;cases e2;exact x
   | 1=>cases e1;cases e2;exact y
   | n+2=>cases e1⟩,JT k hk,by simp[Rl.names]⟩⟩
theorem Rl.ip:∀{r:Rl},r.good->(∀n∈r.names,Nm n)->∀z∈r.words,z.length<=8/\(32:Nat)∉z.cps.toList
 | .yes,_,_,z,h=>by rw[eR.mp h];decide +kernel
 | .no,_,_,z,h=>by rw[eR.mp h];decide +kernel
 | .var x,_,nm,z,h=>by
  rcases cz.mp h with e | h
  ·rw[e];decide +kernel
  ·rw[eR.mp h]
   obtain⟨_,h8,hl⟩:=nm x cS
   exact⟨h8,λc=>by have:=hl _ c;omega⟩
 | .neg a,g,nm,z,h=>by
  rcases cz.mp h with e | h
  ·rw[e];decide +kernel
  ·exact Rl.ip (r:=a) g nm z h
 | .two k a b,⟨hk,ga,gb⟩,nm,z,h=>by
  rcases cz.mp h with e | h
  ·rw[e];have:=JT k hk;exact⟨by omega,this.2⟩
  ·rcases fM.mp h with h | h
   ·exact Rl.ip (r:=a) ga (λn hn=>nm n (pI _ hn)) z h
   ·exact Rl.ip (r:=b) gb (λn hn=>nm n (iS _ hn)) z h
theorem Rl.G7:∀r:Rl,2*(r.words.length+1)<=3*2 ^ r.deep
 | .yes=>by show 2*(1+1)<=3*2 ^ 1;decide
 | .no=>by show 2*(1+1)<=3*2 ^ 1;decide
 | .var x=>by show 2*(2+1)<=3*2 ^ 1;decide
 | .neg a=>by
  show 2*(a.words.length+1+1)<=3*2 ^ (a.deep+1)
  have:=a.G7
  have h1:1<=2 ^ a.deep:=Nat.one_le_two_pow
  rw[uv];omega
 | .two k a b=>by
  show 2*((a.words++b.words).length+1+1)<=3*2 ^ (max a.deep b.deep+1)
  have h1:=cN a.G7 (Nat.mul_le_mul_left 3 (mK (show 0<2 by decide) (uC a.deep b.deep)))
  have h2:=cN b.G7 (Nat.mul_le_mul_left 3 (mK (show 0<2 by decide) (uE a.deep b.deep)))
  rw[df,uv];omega
theorem Rl.Js{r:Rl}(h:r.deep<=6):r.words.length<=95:=by
 have h1:=r.G7
 have h2:2 ^ r.deep<=2 ^ 6:=mK (by decide) h
 have h3:(2:Nat) ^ 6=64:=by decide
 omega
theorem Rl.v7:∀r:Rl,r.words≠[]
 | .yes=>by intro h;cases h
 | .no=>by intro h;cases h
 | .var _=>by intro h;cases h
 | .neg _=>by intro h;cases h
 | .two _ _ _=>by intro h;cases h
def ju:Str:=Str.ofString " "
theorem zi:ju=⟨#[32]⟩:=by decide +kernel
def Rl.text(r:Rl):Str:=Txt.join ju r.words
theorem J8{rs:List Rl}{i:Nat}{r:Rl}(h:rs[i]?=some r):((rs.take (i+1)).map Rl.words).flatten=((rs.take i).map Rl.words).flatten++r.words:=by
 rw[oG,h]
 simp
theorem P4{rs:List Rl}{i:Nat}:((rs.take i).map Rl.words).flatten.length<=(rs.map Rl.words).flatten.length:=by
 have e:(rs.map Rl.words).flatten=((rs.take i).map Rl.words).flatten++((rs.drop i).map Rl.words).flatten:=by
  rw[<-yb,<-ig,sf]
 rw[e,df];omega
instance (s:Str):Decidable (Nm s):=by unfold Nm;infer_instance
abbrev iy(k:Str):Option Int:=PyProof.Rows.KTD.datumAt k bj
theorem jv{k:Str}{i:Int}(h:iy k=some i):((k=Str.ofString "yes"\/k=Str.ofString "no")/\i=0)\/(k=Str.ofString "not"/\i=1)\/(k∈bw/\i=2):=by
 unfold iy bj at h
 simp only[PyProof.Rows.KTD.datumAt,uJ]at h
 unfold bw
 simp only[cz,pW,or_false]
 repeat' split at h
 all_goals first | (injection h with h;subst h;simp_all) | cases h
def Fo(k:Str):List Rl->Rl
 | []=>if k=Str.ofString "yes" then .yes else .no
 | [a]=>.neg a
 | a::b::_=>.two k a b
def fc(f:Nat->Option (Rl×Nat)):Nat->Nat->Option (List Rl×Nat)
 | 0,j=>some ([],j)
 | n+1,j=>(f j).bind λp=>(fc f n p.2).map λq=>(p.1::q.1,q.2)
def gx(ws:List Str):Nat->Nat->Option (Rl×Nat)
 | 0,_=>none
 | d+1,j=>(ws[j]?).bind λk=>if k=Str.ofString "is" then (ws[j+1]?).map λx=>(.var x,j+2) else (iy k).bind λm=>(fc (gx ws d) m.toNat (j+1)).map λq=>(Fo k q.1,q.2)
theorem ng{f:Nat->Option (Rl×Nat)}{j:Nat}:fc f 1 j=(f j).map λp=>([p.1],p.2):=by
 show(f j).bind _=_
 cases f j <;> rfl
theorem wR{f:Nat->Option (Rl×Nat)}{j:Nat}:fc f 2 j=(f j).bind λp=>(f p.2).map λq=>([p.1,q.1],q.2):=by
 show(f j).bind _=_
 cases f j with
 | none=>rfl
 | some p=>
  show(fc f 1 p.2).map _=(f p.2).map _
  rw[ng]
  cases f p.2 <;> rfl
theorem Fp{f:Nat->Option (Rl×Nat)}:∀{n j:Nat} {q:List Rl×Nat},fc f n j=some q->q.1.length=n
 | 0,j,q,h=>by cases h;rfl
 | n+1,j,q,h=>by
  obtain⟨p,_,h⟩:=vV.mp h
  obtain⟨q',h',rfl⟩:=zu.mp h
  exact gk (· + 1) (Fp h')
theorem wU{f:Nat->Option (Rl×Nat)}{L:Nat}{G:Rl->Prop}(hf:∀j r k,j<=L->f j=some (r,k)->k<=L/\G r):∀{n j:Nat} {q:List Rl×Nat},j<=L->fc f n j=some q->q.2<=L/\∀r∈q.1,G r
 | 0,j,q,hj,h=>by cases h;exact⟨hj,λr hr=>nomatch hr⟩
 | n+1,j,q,hj,h=>by
  obtain⟨p,hp,h⟩:=vV.mp h
  obtain⟨q',h',rfl⟩:=zu.mp h
  obtain⟨h1,h2⟩:=hf j p.1 p.2 hj hp
  obtain⟨h3,h4⟩:=wU hf h1 h'
  exact⟨h3,λr hr=>by
   rcases cz.mp hr with e | hr
   ·rw[e];exact h2
   ·exact h4 r hr⟩
theorem BJ{k:Str}{d:Nat}:∀{rs:List Rl},(∀r∈rs,r.deep<=d)->(Fo k rs).deep<=d+1
 | [],_=>by
  show(if k=Str.ofString "yes" then Rl.yes else Rl.no).deep<=d+1
  split
  ·exact pV _ _
  ·exact pV _ _
 | [a],h=>uF (h a (by simp))
 | a::b::_,h=>uF (Nat.max_le.mpr ⟨h a (by simp),h b (by simp)⟩)
theorem wq(ws:List Str):∀{d j:Nat} {r:Rl} {k:Nat},j<=ws.length->gx ws d j=some (r,k)->k<=ws.length/\r.deep<=d/\∀x∈r.names,x∈ws
 | 0,j,r,k,_,h=>by cases h
 | d+1,j,r,k,hj,h=>by
  obtain⟨w0,hw,h⟩:=vV.mp h
  have Rp:j+1<=ws.length:=(gp.mp hw).1
  split at h
  ·obtain⟨x,hx,e⟩:=zu.mp h
   cases e
   have h2:j+1<ws.length:=(gp.mp hx).1
   exact⟨h2,pV _ _,λy hy=>by rw[eR.mp hy];exact vT hx⟩
  ·obtain⟨m,hm,h⟩:=vV.mp h
   obtain⟨q,hq,e⟩:=zu.mp h
   cases e
   obtain⟨h1,h2⟩:=wU (G:=λr=>r.deep<=d/\∀x∈r.names,x∈ws) (λj r k hj e=>wq ws hj e) Rp hq
   refine⟨h1,BJ λr hr=>(h2 r hr).1,λx hx=>?_⟩
   obtain⟨rs,i⟩:=q
   match rs,h2,hx with
   | [],_,hx=>
    have hx:x∈(if w0=Str.ofString "yes" then Rl.yes else Rl.no).names:=hx
    split at hx
    ·cases hx
    ·cases hx
   | [a],h2,hx=>exact(h2 a (by simp)).2 x hx
   | a::b::_,h2,hx=>
    rcases fM.mp (show x∈a.names++b.names from hx) with z | z
    ·exact(h2 a (by simp)).2 x z
    ·exact(h2 b (by simp)).2 x z
def dm(ws:List Str)(d j:Nat):Option (Rl×Nat):=(gx ws d j).bind λp=>if ∀x∈p.1.names,Nm x then some p else none
theorem Rf{ws:List Str}{j:Nat}:dm ws 0 j=none:=rfl
theorem Lf{ws:List Str}{d j:Nat}(h:ws[j]?=none):dm ws d j=none:=by
 cases d with
 | zero=>rfl
 | succ d=>unfold dm gx;rw[h];rfl
theorem jZ{ws:List Str}{d j:Nat}{k:Str}{m:Int}(h:ws[j]?=some k)(hk:k≠Str.ofString "is")(hm:iy k=some m):gx ws (d+1) j=(fc (gx ws d) m.toNat (j+1)).map λq=>(Fo k q.1,q.2):=by
 show(ws[j]?).bind _=_
 rw[h]
 show(if k=Str.ofString "is" then _ else _)=_
 rw[aI hk,hm]
 rfl
theorem zP{ws:List Str}{d j:Nat}(h:ws[j]?=some (Str.ofString "is")):gx ws (d+1) j=(ws[j+1]?).map λx=>(.var x,j+2):=by
 show(ws[j]?).bind _=_
 rw[h]
 rw[pX,bu rfl]
theorem vg{ws:List Str}{d j:Nat}{k:Str}(h:ws[j]?=some k)(hk:k≠Str.ofString "is")(hm:iy k=none):gx ws (d+1) j=none:=by
 show(ws[j]?).bind _=_
 rw[h]
 show(if k=Str.ofString "is" then _ else _)=_
 rw[aI hk,hm]
 rfl
theorem Io{ws:List Str}{d j:Nat}{k:Str}(h:ws[j]?=some k)(hk:k≠Str.ofString "is")(hm:iy k=none):dm ws (d+1) j=none:=by
 unfold dm;rw[vg h hk hm];rfl
theorem O5{ws:List Str}{d j:Nat}(h:ws[j]?=some (Str.ofString "is")):dm ws (d+1) j=(ws[j+1]?).bind λx=>if Nm x then some (.var x,j+2) else none:=by
 unfold dm
 rw[zP h]
 cases ws[j+1]? with
 | none=>rfl
 | some x=>
  show(if ∀y∈[x],Nm y then _ else _)=if Nm x then _ else _
  by_cases hx:Nm x
  ·rw[bu hx,bu (λy hy=>by rw[eR.mp hy];exact hx)]
  ·rw[aI hx,aI (λz=>hx (z x (by simp)))]
theorem Le{ws:List Str}{d j:Nat}(h:ws[j]?=some (Str.ofString "yes")):dm ws (d+1) j=some (.yes,j+1):=by
 unfold dm
 rw[jZ h (by decide) (show _=some 0 by decide +kernel)]
 rfl
theorem O4{ws:List Str}{d j:Nat}(h:ws[j]?=some (Str.ofString "no")):dm ws (d+1) j=some (.no,j+1):=by
 unfold dm
 rw[jZ h (by decide) (show _=some 0 by decide +kernel)]
 rfl
theorem Fs{ws:List Str}{d j:Nat}(h:ws[j]?=some (Str.ofString "not")):dm ws (d+1) j=(dm ws d (j+1)).map λp=>(.neg p.1,p.2):=by
 unfold dm
 rw[jZ h (by decide) (show _=some 1 by decide +kernel),show(1:Int).toNat=1 from rfl,ng]
 cases gx ws d (j+1) with
 | none=>rfl
 | some p=>
  show(if ∀x∈p.1.names,Nm x then _ else _)=Option.map _ (if ∀x∈p.1.names,Nm x then _ else _)
  split <;> rfl
theorem yT{ws:List Str}{d j:Nat}{k:Str}(h:ws[j]?=some k)(hk:k∈bw):dm ws (d+1) j=(dm ws d (j+1)).bind λp=>(dm ws d p.2).map λq=>(.two k p.1 q.1,q.2):=by
 unfold dm
 rw[jZ h (Au k hk) (zh k hk),show(2:Int).toNat=2 from rfl,wR]
 cases gx ws d (j+1) with
 | none=>rfl
 | some p=>
  show(Option.map _ (Option.map _ (gx ws d p.2))).bind _=(if ∀x∈p.1.names,Nm x then some p else none).bind _
  split
  ·rename_i hp
   show _=Option.map _ ((gx ws d p.2).bind _)
   cases gx ws d p.2 with
   | none=>rfl
   | some q=>
    show(if ∀x∈p.1.names++q.1.names,Nm x then _ else _)=Option.map _ (if ∀x∈q.1.names,Nm x then _ else _)
    by_cases hq:∀x∈q.1.names,Nm x
    ·rw[bu hq,bu (λx hx=>(fM.mp hx).elim (hp x) (hq x))];rfl
    ·rw[aI hq,aI (λz=>hq λx hx=>z x (iS _ hx))];rfl
  ·rename_i hp
   cases gx ws d p.2 with
   | none=>rfl
   | some q=>
    show(if ∀x∈p.1.names++q.1.names,Nm x then _ else _)=none
    rw[aI (λz=>hp λx hx=>z x (pI _ hx))]
def NC(ns:List Str):Prop:=∃ts:List Str,ts.Nodup/\(∀x,x∈ts↔x∈ns)/\ts.length<=5
def Rd(z:Str)(r:Rl):Prop:=gx (Txt.split z ju) 6 0=some (r,(Txt.split z ju).length)/\(∀x∈r.names,Nm x)/\NC r.names
theorem Ak{ns ts:List Str}(h:NC ns)(nd:ts.Nodup)(mem:∀x,x∈ts↔x∈ns):ts.length<=5:=by
 obtain⟨us,_,m2,l⟩:=h
 exact cN (fF nd λz hz=>(m2 z).mpr ((mem z).mp hz)) l
local macro_rules | `(tactic| walk_at "rd") => `(tactic| walk_at "rc")
local macro_rules | `(tactic| walk_at "rl") => `(tactic| first | (refine di fun R hR => ?_) | walk_at "ry" | (refine Nx.to (by assumption) _ _ ?_))
def iA(r:Rl):Bool:=r.names.all λx=>decide (Nm x)
def Bm:Sp:=λvs H Q _=>∃z,vs=[.str z]/\z.length<=60000/\∀H',bA H H'->Q (.bl (decide (Nm z))) H'
def DW(d:Nat):Sp:=λvs H Q _=>∃p dp,vs=[.ref p,.int dp]/\∃r,bM H r p/\(r.deep:Int)<=dp/\dp<=d/\(∀x∈r.names,x.length<=60000)/\∀H',bA H H'->Q (.bl (iA r)) H'
theorem z7{a b:Nat}:(!decide ([a] < [b]))=decide (b<=a):=by
 rw[pE]
 simp only[vR,yj,uJ,List.cons_lt_cons_iff]
 constructor
 ·intro z
  exact xP λy=>z (.inl y)
 ·rintro z (y | ⟨_,y⟩)
  ·omega
  ·exact absurd y (List.not_lt_nil _)
theorem qB(T:Txt K mg t):cK P w K mg base jN 1 t.gZ t.gS ["word"] Bn:=by
 refine T.ib.mF o3 (λvs H Q E h=>?_) (λcI A outer s H vs Q E hr h hc hf=>?_)
 ·obtain⟨z,rfl,_⟩:=h;rfl
 obtain⟨z,rfl,q⟩:=h
 refine⟨_,(by exact ao (aC (yo (bz hc) T.fi T.bj (aj hc 0)))),?_⟩
 walk_at "r"
 exact q
theorem yK(T : Txt K mg t) : cK P w K mg base jN 1 t.oz t.oo ["thing"] Bm := by
  refine T.uj.mF yD (λvs H Q E h => ?_) (λcI A outer s H vs Q E hr h hc hf => ?_)
  · obtain⟨v, rfl, _⟩ := h; rfl
  obtain⟨z, rfl, lz, q⟩ := h
  have hu := oN hr
  have L7 := hr.jW
  refine⟨_, (by apply ai; exact(aS (iU (fA (fJ (cY (aJ eQ (bz hc) T.bq bH (ae (aj hc 0) (ae (eV (v := V.ty "str") (bz hc) T.p8 Aw rfl) ag))))) (eU (fJ (Ba wH wH ah (aJ jr (bz hc) T.dJ fk (ae (aj hc 0) ag)) (gJ (v := .int 8) (bz hc) T.fj ⟨_, rfl⟩)))))) (by exact ao (aC fX)) aD); exact ao (aC (aJ (tW hr.hd) (bz hc) T.v5 JV (ae (cV hc ["sign"] [] rfl (by decide +kernel) (zy (aj hc 0)) (λ_ hc => pZ hc (by decide +kernel) 0 (by decide +kernel)) (λ_ _ => dz) (λ_ hc => (sq tD tD aE (aj hc 0) aE))) ag)))), ?_⟩
  walk_at "r"
  refine⟨_, .str _, true, dn _ _, ?_⟩
  rw[aI (by simp)]
  refine⟨cN lz (by decide), ?_⟩
  have P5 : ¬ (1 ≤ z.length ∧ z.length ≤ 8) → decide (Nm z)=false := λn => decide_eq_false λm => n ⟨m.1, m.2.1⟩
  split
  · rename_i h1
    split
    · rename_i h8
      have e := P5 (by simp at h8; omega)
      rw[← e]
      exact q _ (bA.refl H)
    · rename_i h8
      have h1' : 1 ≤ z.length := by omega
      have h8' : z.length ≤ 8 := by simp at h8; omega
      walk_at "r"
      obtain⟨Pc, rJ⟩ : ∃ Pc : Addr → Nat → List V → Hp → Prop, ∀ Z i ys H', Pc Z i ys H' ↔ ∃ bs : List Bool, ys=List.map V.bl bs ∧ bs=(z.cps.toList.take i).map (λc => decide (97 ≤ c)&&decide (c ≤ 122)) ∧ bA H H' ∧ H' Z=some (.lst ys) := ⟨_, λ_ _ _ _ => dP⟩
      refine xk Pc (λZ hZ => (rJ _ _ _ _).mpr ⟨[], rfl, rfl, au hZ _, ak⟩) (λZ hZ i c0 ys H' ec pv cb => ?_) (λZ hZ ys H' pv => ?_)
      · obtain⟨bs, rfl, I0, sZ, CW⟩ := (rJ _ _ _ _).mp pv
        have hi : i<z.cps.size := (sj.mp ec).1
        have hl : z.cps.size=z.length := rfl
        have Nw : z.cps.toList[i]?=some c0 := by rw[sd]; exact ec
        have lb : bs.length ≤ 8 := by rw[I0, cx, cA]; omega
        have step : bs++[decide (97 ≤ c0)&&decide (c0 ≤ 122)]=(z.cps.toList.take (i+1)).map (λc => decide (97 ≤ c)&&decide (c ≤ 122)) := by
          rw[oG, Nw, ig, I0]; rfl
        walk_at "rc"
        repeat (walk_at "rd")
        have ea : (Str.ofString "a").cps.toList=[97] := by decide +kernel
        have ez : (Str.ofString "z").cps.toList=[122] := by decide +kernel
        rw[ea, ez, z7, z7]
        have fin : ∀ b : Bool, b=(decide (97 ≤ c0)&&decide (c0 ≤ 122)) → H' Z=some (.lst (List.map V.bl bs)) ∧ bs.length<sizeLine ∧ Pc Z (i+1) (List.map V.bl bs++[V.bl b]) (upd H' Z (.lst (List.map V.bl bs++[V.bl b]))) := λb eb =>
          ⟨CW, bX (by omega), (rJ _ _ _ _).mpr ⟨bs++[b], by simp, by rw[eb]; exact step, eF sZ hZ, ak⟩⟩
        by_cases RG : 97 ≤ c0
        · rw[decide_eq_true RG, bu rfl]
          refine fin _ ?_
          rw[decide_eq_true RG]; rfl
        · rw[decide_eq_false RG, aI cO]
          refine fin _ ?_
          rw[decide_eq_false RG]; rfl
      · obtain⟨bs, rfl, I0, sZ, CW⟩ := (rJ _ _ _ _).mp pv
        refine⟨Z, rfl, bs, CW, ?_⟩
        have e : bs.all id=decide (Nm z) := by
          rw[I0, pE, uJ, uq, mJ]
          have et : z.cps.toList.take z.cps.size=z.cps.toList := vU (by simp)
          rw[et]
          constructor
          · intro al
            exact⟨h1', h8', λc hc => by have := al c hc; simp at this; exact this⟩
          · intro nm c hc
            have := nm.2.2 c hc
            simp[this.1, this.2]
        rw[e]
        exact q _ sZ
  · rename_i h1
    have e := P5 (by omega)
    first
      | (split
         · rw[← e]; exact q _ (bA.refl H)
         · rename_i hx; exact absurd rfl hx)
      | (rw[← e]; exact q _ (bA.refl H))
theorem Rl.RN.iA{r:Rl}{k:Str}{rs:List Rl}(pr:Rl.RN r k rs):My.iA r=rs.all My.iA:=by
 unfold My.iA
 rw[pr.Uz,List.all_flatten,uq]
 rfl
theorem tH(T:Txt K mg t):∀d:Nat,cK P w K mg base jN (d+2) t.mC t.mr ["thing","deepest"] (DW d)
 | 0=>T.jA.mF (k:=1) oK (λvs H Q E h=>by obtain⟨p,dp,rfl,_⟩:=h;rfl) (λcI A outer s H vs Q E hr h hc hf=>by obtain⟨p,dp,rfl,r,_,h1,h2,_⟩:=h;have:=r.pos;omega)
 | d+1=>by
  have mE:=tH T d
  have Cz:=yK (P:=P) (w:=w) (base:=base) T
  have hV:=qB (P:=P) (w:=w) (base:=base) T
  refine T.jA.mF (k:=d+2) oK (λvs H Q E h=>?_) (λcI A outer s H vs Q E hr h hc hf=>?_)
  ·obtain⟨p,dp,rfl,_⟩:=h;rfl
  obtain⟨p,dp,rfl,r,ra,h1,h2,nl,q⟩:=h
  have hu:=oN hr
  have L7:=hr.jW
  have CT:dp≠0:=by have:=r.pos;omega
  refine⟨_,(by apply ai;exact(aS (iU (fA (aB bW (aj hc 1) ah (aR _)) (fA (fJ (cY (aJ eQ (bz hc) T.bq bH (ae (aj hc 0) (ae (eV (v:=V.ty "tuple") (bz hc) T.il nv rfl) ag))))) (eU (aB bW (aJ ja (bz hc) T.dJ fk (ae (aj hc 0) ag)) ah (aR _)))))) (by exact ao (aC fX)) aD);apply ai;exact(aS (fJ (cY (aJ eQ (bz hc) T.bq bH (ae (aP ni (aj hc 0) ah (λ_ _=>rfl)) (ae (eV (v:=V.ty "str") (bz hc) T.p8 Aw rfl) ag))))) (by exact ao (aC fX)) aD);apply ai;exact(aS (aB bW (aP ni (aj hc 0) ah (λ_ _=>rfl)) aE (aR _)) (by exact ao (aC (kW (p7 bW (aJ ja (bz hc) T.dJ fk (ae (aj hc 0) ag)) ah (aR _)) (mP (ay Cz hr.mono (bz hc) T.BL T.uj.kp T.Cv .nil aT (ae (aP ni (aj hc 0) ah (λ_ _=>rfl)) ag)))))) aD);apply ai;exact(aS (aB z6 (aA jg (aJ ja (bz hc) T.dJ fk (ae (aj hc 0) ag)) ah) (ay hV hr.mono (bz hc) T.j6 T.ib.kp T.kA .nil aT (ae (aP ni (aj hc 0) ah (λ_ _=>rfl)) ag)) (aR _)) (by exact ao (aC fX)) aD);exact ao (aC (aJ (tW hr.hd) (bz hc) T.v5 JV (ae (cV hc ["part"] [1] rfl (by decide +kernel) (ph (aQ Ho (aj hc 0) (aX ah) aY)) (λ_ hc=>pZ hc (by decide +kernel) 0 (by decide +kernel)) (λ_ _=>dz) (λ_ hc=>(ay mE hr.mono (bz hc) T.qG T.jA.kp T.qR .nil aT (ae (aj hc 0) (ae (aA jg (aj hc 1) ah) ag))))) ag)))),?_⟩
  rcases Rl.par ra.good with ⟨x,rfl⟩ | ⟨k,rs,pr⟩
  ·have hp:H p=some (.tup [.str (Str.ofString "is"),.str x]):=ra
   repeat (first | walk_at "rl" | simp only[hp,CT])
   refine⟨_,.tup hp,true,dn _ _,?_⟩
   rw[aI (by simp),aI (by simp)]
   repeat (first | walk_at "rl" | simp only[hp,CT])
   refine⟨_,.str _,true,dn _ _,?_⟩
   rw[aI (by simp)]
   repeat (first | walk_at "rl" | simp only[hp,CT])
   refine⟨x,rfl,nl x cS,λH' s'=>?_⟩
   have:=q H' s'
   rw[show My.iA (.var x)=decide (Nm x) by unfold My.iA;simp[Rl.names]]at this
   exact this
  ·obtain⟨qs,hp,hl,vP⟩:=pr.un H p ra
   have Nh:=pr.nis
   have two:=pr.two
   repeat (first | walk_at "rl" | simp only[hp,CT])
   refine⟨_,.tup hp,true,dn _ _,?_⟩
   rw[aI (by simp),aI (by omega)]
   repeat (first | walk_at "rl" | simp only[hp,CT])
   refine⟨_,.str _,true,dn _ _,?_⟩
   rw[aI (by simp)]
   repeat (first | walk_at "rl" | simp only[hp,CT,Nh])
   refine⟨k,rfl,?_⟩
   rw[pr.tab]
   refine⟨rfl,?_⟩
   rw[aI (by simp[hl])]
   repeat (first | walk_at "rl" | simp only[hp,CT,Nh])
   refine⟨by simp[HT.bY],λS hS=>?_⟩
   rw[gH]
   have sS:=au hS (.tup (List.map V.ref qs))
   refine⟨⟨_,cB ak⟩,?_⟩
   obtain⟨Pc,rJ⟩:∃Pc:Addr->Nat->List V->Hp->Prop,∀Z i ys H',Pc Z i ys H'↔∃bs:List Bool,ys=List.map V.bl bs/\bs=(rs.take i).map My.iA/\bA (upd H S (.tup (List.map V.ref qs))) H'/\H' Z=some (.lst ys):=⟨_,λ_ _ _ _=>dP⟩
   refine xj (zs:=List.map V.ref qs) Pc (λZ hZ=>(rJ _ _ _ _).mpr ⟨[],rfl,rfl,au hZ _,ak⟩) (λZ hZ i ys H' _ pv=>?_) (λZ hZ i z ys H' hz pv cb=>?_) (λZ hZ ys H' pv=>?_)
   ·obtain⟨_,_,_,s,_⟩:=(rJ _ _ _ _).mp pv
    exact s _ _ ak
   ·obtain⟨bs,rfl,I0,sZ,CW⟩:=(rJ _ _ _ _).mp pv
    obtain⟨c,ec,rfl⟩:=nY hz
    have hi:i<rs.length:=by rw[<-hl];exact(gp.mp ec).1
    have er:rs[i]?=some rs[i]:=fL hi
    have ka:=(vP i c _ ec er).mono (aW (sS.trans sZ))
    obtain⟨_,kd,kn⟩:=pr.vP _ (jP hi)
    have lb:bs.length<=2:=by rw[I0,cx,cA];omega
    walk_at "rc"
    repeat (walk_at "rd")
    refine⟨c,dp-1,rfl,rs[i],ka,by omega,by omega,(λn hn=>nl n (kn n hn)),λH5 s5=>?_⟩
    refine⟨s5 _ _ CW,bX (by omega),(rJ _ _ _ _).mpr ⟨bs++[My.iA rs[i]],by simp,?_,eF (sZ.trans s5) hZ,ak⟩⟩
    rw[oG,er,ig,I0]
    rfl
   ·obtain⟨bs,rfl,I0,sZ,CW⟩:=(rJ _ _ _ _).mp pv
    refine⟨Z,rfl,bs,CW,?_⟩
    have e:bs.all id=My.iA r:=by
     rw[pr.iA,I0,cx,hl,oF,uq]
     rfl
    rw[e]
    exact q _ (sS.trans sZ)
def DT:Sp:=λvs H Q _=>∃p,vs=[.ref p]/\∃r,bM H r p/\r.deep<=6/\(∀x∈r.names,x.length<=60000)/\∀b H',(b=true↔(∀x∈r.names,Nm x)/\NC r.names)->bA H H'->Q (.bl b) H'
theorem Bx(T:Txt K mg t):cK P w K mg base jN 9 t.oy t.om ["thing"] DT:=by
 have mE:=tH (P:=P) (w:=w) (base:=base) T 6
 have zq:=wI (P:=P) (w:=w) (base:=base) T
 refine T.ui.mF yC (λvs H Q E h=>?_) (λcI A outer s H vs Q E hr h hc hf=>?_)
 ·obtain⟨p,rfl,_⟩:=h;rfl
 obtain⟨p,rfl,r,ra,h6,nl,q⟩:=h
 have hu:=oN hr
 have L7:=hr.jW
 have al:iA r=true↔∀x∈r.names,Nm x:=by
  unfold iA
  rw[mJ]
  exact forall₂_congr λx _=>uO
 refine⟨_,(by exact ao (aC (kW (ay mE hr.mono (bz hc) T.qG T.jA.kp T.qR .nil aT (ae (aj hc 0) (ae (gJ (v:=.int 6) (bz hc) T.fN ⟨_,rfl⟩) ag))) (mP (p7 wH (aJ cJ (bz hc) T.dJ fk (ae (ay zq hr.mono (bz hc) T.yR T.qX.kp T.zj .nil aT (ae (aj hc 0) ag)) ag)) (gJ (v:=.int 5) (bz hc) T.gy ⟨_,rfl⟩) (aR _)))))),?_⟩
 walk_at "r"
 refine⟨p,6,rfl,r,ra,by omega,by decide,nl,λH1 s1=>?_⟩
 cases ea:iA r with
 | false=>
  walk_at "r"
  refine q false _ ⟨(λz=>nomatch z),λz=>?_⟩ s1
  rw[al.mpr z.1]at ea
  cases ea
 | true=>
  walk_at "r"
  refine⟨p,rfl,r,ra.mono (aW s1),h6,λL ts H2 s2 hL RC mem nd N0=>?_⟩
  repeat (first | walk_at "rl" | simp only[RC])
  refine q _ _ ?_ (s1.trans s2)
  rw[uO]
  exact⟨λz=>⟨al.mp ea,ts,nd,mem,by omega⟩,λz=>by have:=Ak z.2 nd mem;omega⟩
local macro_rules | `(tactic| walk_at "rd") => `(tactic| walk_at "rc")
local macro_rules | `(tactic| walk_at "rl") => `(tactic| first | (refine di fun R hR => ?_) | walk_at "ry" | (refine Nx.to (by assumption) _ _ ?_))
def wl(ws:List Str):Nat:=(ws.map λz=>z.length+1).sum
theorem px:∀{ws:List Str},ws≠[]->(Str.join ju ws).length+1=wl ws
 | [],h=>absurd rfl h
 | [x],_=>rfl
 | x::y::r,_=>by
  have h:=px (ws:=y::r) (by simp)
  have e:ju.length=1:=by decide +kernel
  show(x++ju++Str.join ju (y::r)).length+1=x.length+1+wl (y::r)
  rw[lE,lE,<-h,e]
  omega
theorem qu(z:Str):wl (Txt.split z ju)=z.length+1:=by
 rw[<-px (lZ z ju),StrLaws.join_split]
theorem uY{x:Str}:∀{ws:List Str},x∈ws->x.length+1<=wl ws
 | y::r,h=>by
  show x.length+1<=y.length+1+wl r
  rcases cz.mp h with e | h
  ·rw[e];omega
  ·have:=uY h;omega
theorem Dl:∀{ws:List Str},ws.length<=wl ws
 | []=>bF _
 | y::r=>by
  show r.length+1<=y.length+1+wl r
  have:=Dl (ws:=r);omega
theorem O0{H:Hp}{k:Str}{n:Int}{qs:List Addr}{rs:List Rl}{p:Addr}(hb:iy k=some n)(l1:qs.length=n.toNat)(l2:rs.length=n.toNat)(hp:H p=some (.tup (.str k::List.map V.ref qs)))
  (vP:∀(i:Nat) q s,qs[i]?=some q->rs[i]?=some s->bM H s q):bM H (Fo k rs) p:=by
 rcases jv hb with ⟨hy,rfl⟩ | ⟨rfl,rfl⟩ | ⟨hk,rfl⟩
 ·have e1:qs=[]:=vY l1
  have e2:rs=[]:=vY l2
  subst e1 e2
  show bM H (if k=Str.ofString "yes" then Rl.yes else Rl.no) p
  rcases hy with rfl | rfl
  ·rw[bu rfl];exact hp
  ·rw[aI (by decide)];exact hp
 ·match qs,rs,l1,l2 with
  | [q],[a],_,_=>exact⟨q,hp,vP 0 q a rfl rfl⟩
 ·match qs,rs,l1,l2 with
  | [q,q'],[a,b],_,_=>exact⟨hk,q,q',hp,vP 0 q a rfl rfl,vP 1 q' b rfl rfl⟩
def DG(C:Addr):Sp:=λvs H Q E=>∃L i,vs=[.ref L,.int i]/\∃(ws:List Str) (j:Nat),i=(j:Int)/\H L=some (.lst (List.map V.str ws))/\j<=ws.length/\(∀z,ws[j]?=some z->Q (.str z) H)/\(ws[j]?=none->E (.ref C) none H)
def DP(C:Addr)(d:Nat):Sp:=λvs H Q E=>∃L i dp,vs=[.ref L,.int i,.int dp]/\∃(ws:List Str) (j m:Nat),i=(j:Int)/\dp=(m:Int)/\m<d/\H L=some (.lst (List.map V.str ws))/\j<=ws.length/\
 (∀r k T q H',gx ws m j=some (r,k)->bA H H'->H' T=some (.tup [.ref q,.int (k:Int)])->bM H' r q->Q (.ref T) H')/\(gx ws m j=none->∀H',bA H H'->E (.ref C) none H')
theorem Bv(T:Txt K mg t):cK P w K mg base (xJ P w) 1 t.ou t.og ["words","place"] (DG t.aM):=by
 refine T.oB.Q9 yB (λvs H Q E h=>?_) (λcI A outer s H vs Q E hr h hc hf L Pk=>?_)
 ·obtain⟨a,i,rfl,_⟩:=h;rfl
 obtain⟨a,_,rfl,ws,j,rfl,hL,hj,q,qe⟩:=h
 refine⟨_,(by apply ai;exact(aS (aB bW (aj hc 1) (aJ cJ (bz hc) T.dJ fk (ae (aj hc 0) ag)) (aR _)) (by exact ao (fB (EH:=λ_=>E) T.dS T.dI T.dH (bz hc) T.gP rfl L (ae aE ag))) aD);exact ao (aC (aP cM (aj hc 0) (aj hc 1) (λ_ _=>rfl)))),?_⟩
 repeat (first | walk_at "rl" | simp only[hL])
 split
 ·rename_i e
  walk_at "r"
  exact⟨by decide,qe (se (by omega))⟩
 ·rename_i e
  have Ze:j<ws.length:=by omega
  have e1:mz (List.map V.str ws) (j:Int)=some (.str ws[j]):=cy (by rw[fz,fL Ze];rfl)
  repeat (first | walk_at "rl" | simp only[hL,e1])
  exact q _ (fL Ze)
theorem tF(T:Txt K mg t):∀d:Nat,cK P w K mg base (xJ P w) (d+1) t.ow t.oi ["words","place","deepest"] (DP t.aM d)
 | 0=>T.lh.Q9 (k:=0) cQ (λvs H Q E h=>by obtain⟨L,i,dp,rfl,_⟩:=h;rfl) (λcI A outer s H vs Q E hr h hc hf L Pk=>by obtain⟨L,i,dp,rfl,ws,j,m,_,_,h1,_⟩:=h;omega)
 | d+1=>by
  have oA:=tF T d
  have uh:=Bv (P:=P) (w:=w) (base:=base) T
  have hV:=qB (P:=P) (w:=w) (base:=base) T
  refine T.lh.Q9 (k:=d+1) cQ (λvs H Q E h=>?_) (λcI A outer s H vs Q E hr h hc hf L Pk=>?_)
  ·obtain⟨L,i,dp,rfl,_⟩:=h;rfl
  obtain⟨a,_,_,rfl,ws,j,m,rfl,rfl,hm,hL,hj,q,qe⟩:=h
  refine⟨_,(by apply ai;exact(aS (aB bW (aj hc 2) ah (aR _)) (by exact ao (fB (EH:=λ_=>E) T.dS T.dI T.dH (bz hc) T.gP rfl L (ae aE ag))) aD);apply ai;exact(az hc cQ.nd hf 3 (by decide +kernel) (iT (EH:=λ_=>E) uh hr.mono (bz hc) T.tJ T.oB.kp T.uc L (ae (aj hc 0) (ae (aj hc 1) ag))));apply ai;exact(aS (aB bW (aj hc 3) aE (aR _)) (by exact ao (aC (bL (ae (bL (ae aE (ae (iT (EH:=λ_=>E) uh hr.mono (bz hc) T.tJ T.oB.kp T.uc L (ae (aj hc 0) (ae (aA bB (aj hc 1) ah) ag))) ag))) (ae (aA bB (aj hc 1) ah) ag))))) aD);apply ai;exact(az hc cQ.nd hf 4 (by decide +kernel) (ay hV hr.mono (bz hc) T.j6 T.ib.kp T.kA .nil aT (ae (aj hc 3) ag)));apply ai;exact(aS (aB K8 (aj hc 4) zA (aR _)) (by exact ao (fB (EH:=λ_=>E) T.dS T.dI T.dH (bz hc) T.gP rfl L (ae aE ag))) aD);apply ai;exact(az hc cQ.nd hf 5 (by decide +kernel) (bx (ae (aj hc 3) ag)));apply ai;exact(az hc cQ.nd hf 6 (by decide +kernel) (aA bB (aj hc 1) ah));apply ai;exact(dU Pk rfl (bQ (bz hc) T.cP (ae (aj hc 4) ag)) (nS hc cQ.nd hf 7 (by decide +kernel)) (by apply ai;exact(az hc cQ.nd hf 8 (by decide +kernel) (iT (EH:=λ_=>E) oA hr.mono (bz hc) T.tK T.lh.kp T.ud L (ae (aj hc 0) (ae (aj hc 6) (ae (aA jg (aj hc 2) ah) ag)))));apply ai;exact(dR (dM si vW vX gF (aj hc 5) (ae (aP ni (aj hc 8) ah (λ_ _=>rfl)) ag)));exact ao (az hc cQ.nd hf 6 (by decide +kernel) (aP ni (aj hc 8) ah (λ_ _=>rfl)))));exact ao (aC (bL (ae (lY xq (bz hc) T.il nv (ae (aj hc 5) ag)) (ae (aj hc 6) ag))))),?_⟩
  walk_at "r"
  cases m with
  | zero=>
   rw[bu (by rfl)]
   walk_at "r"
   exact⟨by decide,qe rfl H (bA.refl H)⟩
  | succ m=>
   rw[aI (by omega)]
   walk_at "r"
   refine⟨a,_,rfl,ws,j,rfl,hL,hj,λk hk=>?_,λhk=>qe (by show(ws[j]?).bind _=none;rw[hk];rfl) H (bA.refl H)⟩
   have Rp:j<ws.length:=(gp.mp hk).1
   walk_at "r"
   by_cases IV:k=Str.ofString "is"
   ·subst IV
    rw[bu rfl]
    walk_at "r"
    refine⟨a,_,rfl,ws,j+1,by omega,hL,Rp,λx hx=>?_,λhx=>qe (by rw[zP hk,hx];rfl) H (bA.refl H)⟩
    walk_at "r"
    refine⟨by decide,λp hp=>⟨by decide,λp1 oO=>?_⟩⟩
    have s1:=au hp (.tup [V.str (Str.ofString "is"),V.str x])
    have s2:=au oO (.tup [V.ref p,V.int ((j:Int)+2)])
    exact q (.var x) (j+2) p1 p _ (by rw[zP hk,hx];rfl) (s1.trans s2) (by rw[ak];rfl) (s2 _ _ ak)
   ·rw[aI IV]
    walk_at "r"
    refine⟨k,rfl,?_⟩
    cases hb:PyProof.Rows.KTD.datumAt k bj with
    | none=>
     walk_at "r"
     exact⟨by decide,qe (vg hk IV hb) H (bA.refl H)⟩
    | some n=>
     have n2:0<=n/\n<=2:=by rcases jv hb with ⟨_,rfl⟩ | ⟨_,rfl⟩ | ⟨_,rfl⟩ <;> decide
     walk_at "r"
     refine⟨by decide,λPa Zr=>?_⟩
     walk_at "r"
     refine⟨by omega,by omega,?_⟩
     obtain⟨f,Mg⟩:∃f,gx ws m=f:=⟨_,rfl⟩
     obtain⟨Pv,dN⟩:∃Pv:Nat->St->Hp->Prop,∀i σ' H',Pv i σ' H'↔∃(tn fd:Option V) (qs:List Addr) (rs:List Rl) (bh:Nat),σ'=[some (.ref a),some (.int (j:Int)),some (.int ((m+1:Nat):Int)),some (.str k),some (.int n),some (.ref Pa),some (.int (bh:Int)),tn,fd]/\bA H H'/\H' Pa=some (.lst (.str k::List.map V.ref qs))/\qs.length=i/\rs.length=i/\bh<=ws.length/\i<=n.toNat/\fc f n.toNat (j+1)=(fc f (n.toNat-i) bh).map (λp=>(rs++p.1,p.2))/\∀(m:Nat) q s,qs[m]?=some q->rs[m]?=some s->bM H' s q:=⟨_,λ_ _ _=>dP⟩
     have e0:((j:Int)+1)=((j+1:Nat):Int):=by omega
     rw[e0]
     refine d8 Pv ((dN _ _ _).mpr ⟨none,none,[],[],j+1,rfl,au Zr _,ak,rfl,rfl,Rp,dQ _,?_,λm q s e=>by simp at e⟩) (λi σ' H1 hi pv=>?_) (λσ' H1 pv=>?_)
     ·rw[Nat.sub_zero]
      exact(Option.map_id' (x:=fc f n.toNat (j+1))).symm
     ·obtain⟨tn,fd,qs,rs,bh,rfl,s1,Mk,lq,lr,VL,xM,em,kids⟩:=(dN _ _ _).mp pv
      obtain⟨n',en⟩:∃n',n.toNat-i=n'+1:=⟨n.toNat-i-1,by omega⟩
      rw[en]at em
      walk_at "r"
      refine⟨a,_,_,rfl,ws,bh,m,rfl,by omega,by omega,s1 _ _ hL,VL,λr k2 T' q' H2 er s2 hT rq=>?_,λer H2 s2=>?_⟩
      ·have Mj:=s2 _ _ Mk
       repeat (first | walk_at "rl" | simp only[hT,Mj])
       have tk:∀o c xs,H2 c=some (.tup xs)->upd H2 Pa o c=some (.tup xs):=λo c xs e=>by rw[aG (wQ e Mj (by intro z;cases z))];exact e
       refine⟨.inl ⟨rfl,_,bT Mj⟩,bX (by omega),?_⟩
       have hT':=tk (.lst (V.str k::(List.map V.ref qs++[V.ref q']))) _ _ hT
       have sP:bA H (upd H2 Pa (.lst (V.str k::(List.map V.ref qs++[V.ref q'])))):=eF (s1.trans s2) Zr
       repeat (first | walk_at "rl" | simp only[hT'])
       have GK:=(wq ws VL er).1
       rw[Mg]at er
       refine(dN _ _ _).mpr ⟨_,_,qs++[q'],rs++[r],k2,rfl,sP,?_,by simp[lq],by simp[lr],GK,by omega,?_,λm q0 s0 e1 e2=>?_⟩
       ·rw[ak,ig];rfl
       ·rw[em]
        show Option.map _ ((f bh).bind _)=_
        rw[er]
        show Option.map _ (Option.map _ (fc f n' k2))=_
        have en2:n.toNat-(i+1)=n':=by omega
        rw[en2]
        cases fc f n' k2 with
        | none=>rfl
        | some p=>show some (rs++r::p.1,p.2)=some (rs++[r]++p.1,p.2);rw[uI];rfl
       ·by_cases hm:m<qs.length
        ·rw[oI hm]at e1
         rw[oI (by omega)]at e2
         exact((kids m q0 s0 e1 e2).mono (aW s2)).mono (λc xs e=>tk _ c xs e)
        ·have Rn:m=qs.length:=by
          have:=(gp.mp e1).1
          simp at this;omega
         subst Rn
         rw[mM (bF _),pR]at e1
         rw[mM (by omega),lr,lq,pR]at e2
         cases e1
         cases e2
         exact rq.mono (λc xs e=>tk _ c xs e)
      ·refine qe ?_ H2 (s1.trans s2)
       rw[jZ hk IV hb,Mg,em]
       rw[Mg]at er
       show Option.map _ (Option.map _ ((f bh).bind _))=none
       rw[er]
       rfl
     ·obtain⟨tn,fd,qs,rs,bh,rfl,s1,Mk,lq,lr,VL,xM,em,kids⟩:=(dN _ _ _).mp pv
      repeat (first | walk_at "rl" | simp only[Mk])
      rw[pR]at em
      have em:fc f n.toNat (j+1)=some (rs,bh):=by rw[em];show some (rs++[],bh)=_;rw[oD]
      refine λl hl=>⟨by decide,λp hp=>?_⟩
      have sl:=au hl (.tup (V.str k::List.map V.ref qs))
      have sp:=au hp (.tup [V.ref l,V.int bh])
      refine q (Fo k rs) bh p l _ ?_ ((s1.trans sl).trans sp) ak (O0 hb lq lr (sp _ _ ak) λm q0 s0 e1 e2=>((kids m q0 s0 e1 e2).mono (aW sl)).mono (aW sp))
      rw[jZ hk IV hb,Mg,em]
      rfl
def Kj(K:PySem.W.Frag)(C:Addr):Sp:=λvs H Q E=>∃v,vs=[v]/\((∃z:Str,v=.str z/\z.length<=60000/\(∀r q H',Rd z r->bA H H'->bM H' r q->Q (.ref q) H')/\((∀r,¬Rd z r)->∀H',bA H H'->E (.ref C) none H'))\/(∃ty,kR K H v ty/\PySem.W.kitOne K ty (.type "str")=some false/\E (.ref C) none H))
theorem vm(T:Txt K mg t):cK P w K mg base (xJ P w) 10 t.kI t.kg ["text"] (Kj K t.aM):=by
 have oA:=tF (P:=P) (w:=w) (base:=base) T 7
 have Cy:=Bx (P:=P) (w:=w) (base:=base) T
 refine T.iD.Q9 je (λvs H Q E h=>?_) (λcI A outer s H vs Q E hr h hc hf L Pk=>?_)
 ·obtain⟨z,rfl,_⟩:=h;rfl
 obtain⟨v,rfl,h⟩:=h
 refine⟨_,(by apply ai;exact(aS (fJ (cY (aJ eQ (bz hc) T.bq bH (ae (aj hc 0) (ae (eV (v:=V.ty "str") (bz hc) T.p8 Aw rfl) ag))))) (by exact ao (fB (EH:=λ_=>E) T.dS T.dI T.dH (bz hc) T.gP rfl L (ae aE ag))) aD);apply ai;exact(az hc je.nd hf 1 (by decide +kernel) (dM lH yh yi qF (aj hc 0) (ae aE ag)));apply ai;exact(az hc je.nd hf 2 (by decide +kernel) (iT (EH:=λ_=>E) oA hr.mono (bz hc) T.tK T.lh.kp T.ud L (ae (aj hc 1) (ae ah (ae (gJ (v:=.int 6) (bz hc) T.fN ⟨_,rfl⟩) ag)))));apply ai;exact(aS (aB z6 (aP ni (aj hc 2) ah (λ_ _=>rfl)) (aJ cJ (bz hc) T.dJ fk (ae (aj hc 1) ag)) (aR _)) (by exact ao (fB (EH:=λ_=>E) T.dS T.dI T.dH (bz hc) T.gP rfl L (ae aE ag))) aD);apply ai;exact(aS (fJ (cY (ay Cy hr.mono (bz hc) T.BK T.ui.kp T.Cu .nil aT (ae (aP ni (aj hc 2) ah (λ_ _=>rfl)) ag)))) (by exact ao (fB (EH:=λ_=>E) T.dS T.dI T.dH (bz hc) T.gP rfl L (ae aE ag))) aD);exact ao (aC (aP ni (aj hc 2) ah (λ_ _=>rfl)))),?_⟩
 walk_at "r"
 rcases h with ⟨z,rfl,lz,q,qe⟩ | ⟨ty,hty,Pn,qe⟩
 ·refine⟨_,.str _,true,dn _ _,?_⟩
  rw[aI (by simp)]
  walk_at "r"
  refine⟨by decide +kernel,lz,λp hp=>?_⟩
  have wz:=qu z
  obtain⟨ws,GD⟩:∃ws,Txt.split z ju=ws:=⟨_,rfl⟩
  have FH:Txt.split z (Str.ofString " ")=ws:=GD
  rw[FH]
  rw[GD]at wz
  have Jc:∀r,Rd z r↔gx ws 6 0=some (r,ws.length)/\(∀x∈r.names,Nm x)/\NC r.names:=λr=>by unfold Rd;rw[GD]
  have sp:=au hp (.lst (List.map V.str ws))
  walk_at "r"
  refine⟨p,0,6,rfl,ws,0,6,rfl,rfl,by decide,ak,dQ _,λr k T' q' H1 er s1 hT rq=>?_,λer H1 s1=>qe (λr hr=>?_) H1 (sp.trans s1)⟩
  ·have oO:H1 p=some (.lst (List.map V.str ws)):=s1 _ _ ak
   obtain⟨hk,h6,nws⟩:=wq ws (dQ _) er
   repeat (first | walk_at "rl" | simp only[hT,oO])
   split
   ·rename_i GK
    walk_at "r"
    refine⟨by decide,qe (λr' L8=>?_) H1 (sp.trans s1)⟩
    have:=((Jc r').mp L8).1
    rw[er]at this
    cases this
    simp at GK
   ·rename_i GK
    have GK:k=ws.length:=by
     simp at GK
     omega
    subst GK
    repeat (first | walk_at "rl" | simp only[hT,oO])
    refine⟨q',rfl,r,rq,h6,λx hx=>by have:=uY (nws x hx);omega,λb H2 hb s2=>?_⟩
    cases b with
    | true=>
     walk_at "r"
     have:=s2 _ _ hT
     repeat (first | walk_at "rl" | simp only[this])
     exact q r q' H2 ((Jc r).mpr ⟨er,hb.mp rfl⟩) ((sp.trans s1).trans s2) (rq.mono (aW s2))
    | false=>
     walk_at "r"
     refine⟨by decide,qe (λr' L8=>?_) H2 ((sp.trans s1).trans s2)⟩
     have h:=(Jc r').mp L8
     have h1:=h.1
     rw[er]at h1
     cases h1
     have:=hb.mpr h.2
     cases this
  ·have:=((Jc r).mp hr).1
   rw[er]at this
   cases this
 ·refine⟨_,hty,false,Pn,?_⟩
  walk_at "r"
  exact⟨by decide,qe⟩
local macro_rules | `(tactic| walk_at "rd") => `(tactic| walk_at "rc")
local macro_rules | `(tactic| walk_at "rl") => `(tactic| first | (refine di fun R hR => ?_) | walk_at "ry" | (refine Nx.to (by assumption) _ _ ?_))
theorem oM{c:Nat}:c∈(Str.ofString "abcdefghijklmnopqrstuvwxyz").cps.toList↔97<=c/\c<=122:=by
 rw[show(Str.ofString "abcdefghijklmnopqrstuvwxyz").cps.toList=List.range' 97 26 by decide +kernel,List.mem_range'_1]
 omega
def M7(H:Hp)(X:Addr):Option (Rl×Nat)->Prop
 | none=>H X=some (.lst [])
 | some (r,k)=>∃q,H X=some (.lst [.ref q,.int (k:Int)])/\bM H r q
def Hm:Sp:=λvs H Q _=>∃z,vs=[.str z]/\z.length<=60000/\Q (.bl (decide (Nm z))) H
def Km(d:Nat):Sp:=λvs H Q _=>∃L i dp,vs=[.ref L,.int i,.int dp]/\∃(ws:List Str) (j m:Nat),i=(j:Int)/\dp=(m:Int)/\m<d/\H L=some (.lst (List.map V.str ws))/\(∀x∈ws,x.length<=60000)/\∀X H',bA H H'->M7 H' X (dm ws m j)->Q (.ref X) H'
theorem fG{c:Prop} [Decidable c] {X Y:Prop} (h1:c->X) (h2:¬c->Y):if c then X else Y:=by
 split
 ·exact h1 ‹_›
 ·exact h2 ‹_›
theorem tR(xs:List V):dO xs (some 1) none=xs.drop 1:=by
 cases xs with
 | nil=>rfl
 | cons x r=>exact gH x r
theorem uX{K:PySem.W.Frag}{X1:Addr}{xs:List V}{σ:St}{idx:List Nat}{te:CB->TE}{H2:Hp}{Q:VK}{g:V->List V}(l2:xs.length<=2)(hX:H2 X1=some (.lst xs))
  (hte:∀c x H5 (R:VK),bA H2 H5->(∀p,H5 p=none->R (.ref p) (upd H5 p (.tup (g x))))->te c (some x::bR σ idx) H5 R)
  (q0:xs=[]->∀X H',bA H2 H'->H' X=some (.lst [])->Q (.ref X) H')
  (q1:∀x rest,xs=x::rest->∀X p H',bA H2 H'->H' X=some (.lst (.ref p::rest))->H' p=some (.tup (g x))->Q (.ref X) H') :
  ∀p:Addr,H2 p=none->(∃ys,nD K (upd H2 p (.lst (dO xs none (some 1)))) p ys)/\iE (Gv K p) 1 idx (λ_=>cU 0) (λ_=>Bg) te σ (λx H1=>∃xs,H1 X1=some (.lst xs)/\∀p:Addr,H1 p=none->∃l,x=.ref l/\∃x,
   upd H1 p (.lst (dO xs (some 1) none)) l=some (.lst x)/\x.length+(dO xs (some 1) none).length<=sizeLine/\∀p_1:Addr,upd H1 p (.lst (dO xs (some 1) none)) p_1=none->Q (.ref p_1) (upd (upd H1 p (.lst (dO xs (some 1) none))) p_1 (.lst (x++dO xs (some 1) none)))) (upd H2 p (.lst (dO xs none (some 1)))):=by
 intro C hC
 rw[pA xs (by decide)]
 have sC:=au hC (.lst (xs.take 1))
 have y0:=ak (H:=H2) (a:=C) (o:=.lst (xs.take 1))
 rw[show(1:Int).toNat=1 from rfl]
 generalize upd H2 C (.lst (xs.take 1))=H3 at sC y0 ⊢
 refine⟨⟨_,bT y0⟩,?_⟩
 obtain⟨Pc,rJ⟩:∃Pc:Addr->Nat->List V->Hp->Prop,∀Z i ys H',Pc Z i ys H'↔bA H3 H'/\H' Z=some (.lst ys)/\H3 Z=none/\(i=0/\ys=[]\/i=1/\∃x p,xs[0]?=some x/\ys=[.ref p]/\H' p=some (.tup (g x))):=⟨_,λ_ _ _ _=>dP⟩
 refine jq (zs:=xs.take 1) Pc (λZ hZ=>(rJ _ _ _ _).mpr ⟨au hZ _,ak,hZ,.inl ⟨rfl,rfl⟩⟩) (λZ hZ i ys H' _ pv=>?_) (λZ hZ i x ys H' hx pv cb=>?_) (λZ hZ ys H' pv=>?_)
 ·obtain⟨s,_⟩:=(rJ _ _ _ _).mp pv
  exact s _ _ y0
 ·obtain⟨s,Rv,VM,c⟩:=(rJ _ _ _ _).mp pv
  have hi:i=0:=by
   have:=(gp.mp hx).1
   rw[cA]at this;omega
  subst hi
  rcases c with ⟨_,rfl⟩ | ⟨h,_⟩
  ·have CP:xs[0]?=some x:=by rw[List.getElem?_take]at hx;exact hx
   simp only[Bg,fW]
   refine hte _ x H' _ (sC.trans s) λp hp=>⟨au hp _ _ _ Rv,by decide,(rJ _ _ _ _).mpr ⟨eF (s.trans (au hp _)) VM,ak,VM,.inr ⟨rfl,x,p,CP,rfl,?_⟩⟩⟩
   rw[aG (λz=>by rw[z,Rv]at hp;cases hp),ak]
  ·cases h
 ·obtain⟨s,Rv,VM,c⟩:=(rJ _ _ _ _).mp pv
  refine⟨xs,s _ _ (sC _ _ hX),λR hR=>⟨Z,rfl,ys,au hR _ _ _ Rv,?_,λF hF=>?_⟩⟩
  ·have:ys.length<=1:=by
    rcases c with ⟨_,rfl⟩ | ⟨_,x,p,_,rfl,_⟩
    ·exact dQ _
    ·exact bF _
   rw[tR,jQ]
   exact dh (by omega)
  ·have sR:=au hR (.lst (dO xs (some 1) none))
   have sF:=au hF (.lst (ys++dO xs (some 1) none))
   have Ec:=(((sC.trans s).trans sR).trans sF)
   cases xs with
   | nil=>
    rcases c with ⟨_,rfl⟩ | ⟨h,_⟩
    ·exact q0 rfl F _ Ec ak
    ·simp at h
   | cons x rest=>
    rcases c with ⟨h,_⟩ | ⟨_,x',p,hx,rfl,hp⟩
    ·simp at h
    ·cases hx
     refine q1 _ rest rfl F p _ Ec ?_ (sF _ _ (sR _ _ hp))
     rw[ak,tR];rfl
theorem Fg(T:Txt K mg t):cK P w K mg base jN 1 t.hU t.gX ["_law_word"] Hm:=by
 refine T.kS.mF jF (λvs H Q E h=>?_) (λcI A outer s H vs Q E hr h hc hf=>?_)
 ·obtain⟨z,rfl,_⟩:=h;rfl
 obtain⟨z,rfl,lz,q⟩:=h
 refine⟨_,(by apply ai;exact(dU jC rfl (zy (aj hc 0)) (nS hc jF.nd hf 1 (by decide +kernel)) (by exact ao (aS (aB wF (aj hc 1) aE (by with_unfolding_all rfl)) (by exact ao (aC fX)) aD)));exact ao (aC (sq wH wH ah (aJ jr (bz hc) T.dJ fk (ae (aj hc 0) ag)) ah))),?_⟩
 walk_at "r"
 obtain⟨Pv,dN⟩:∃Pv:Nat->St->Hp->Prop,∀i σ' H',Pv i σ' H'↔∃x:Option V,σ'=[some (.str z),x]/\H'=H/\∀c∈z.cps.toList.take i,97<=c/\c<=122:=⟨_,λ_ _ _=>dP⟩
 refine y3 Pv ((dN _ _ _).mpr ⟨none,rfl,rfl,λc h=>nomatch h⟩) (λi c σ' H1 hc1 pv=>?_) (λσ' H1 pv=>?_)
 ·obtain⟨x,rfl,rfl,al⟩:=(dN _ _ _).mp pv
  have Nw:z.cps.toList[i]?=some c:=by rw[sd];exact hc1
  walk_at "r"
  refine⟨c,rfl,?_⟩
  by_cases xM:97<=c/\c<=122
  ·rw[decide_eq_true (oM.mpr xM),aI (by simp)]
   walk_at "r"
   refine(dN _ _ _).mpr ⟨_,rfl,rfl,λd hd=>?_⟩
   rw[oG,Nw]at hd
   rcases fM.mp hd with hd | hd
   ·exact al d hd
   ·rw[eR.mp hd];exact xM
  ·rw[decide_eq_false (λz=>xM (oM.mp z)),bu (by simp)]
   walk_at "r"
   have e:decide (Nm z)=false:=decide_eq_false λnm=>xM (nm.2.2 c (vT Nw))
   rw[<-e]
   exact q
 ·obtain⟨x,rfl,rfl,al⟩:=(dN _ _ _).mp pv
  have et:z.cps.toList.take z.cps.size=z.cps.toList:=vU (by simp)
  rw[et]at al
  walk_at "r"
  refine⟨cN lz (by decide),?_⟩
  split
  ·rename_i h1
   have e:decide (Nm z)=decide ((z.length:Int)<=8):=by
    rw[pE,uO,uO]
    exact⟨λnm=>by have:=nm.2.1;omega,λh8=>⟨by omega,by omega,al⟩⟩
   rw[<-e]
   exact q
  ·rename_i h1
   have e:decide (Nm z)=false:=decide_eq_false λnm=>h1 (by have:=nm.1;omega)
   rw[<-e]
   exact q
theorem Aa(T:Txt K mg t):∀d:Nat,cK P w K mg base jN (d+1) t.kP t.kr ["_law_words","_law_at","_law_deep"] (Km d)
 | 0=>T.fV.mF (k:=0) eZ (λvs H Q E h=>by obtain⟨L,i,dp,rfl,_⟩:=h;rfl) (λcI A outer s H vs Q E hr h hc hf=>by obtain⟨L,i,dp,rfl,ws,j,m,_,_,h1,_⟩:=h;omega)
 | d+1=>by
  have iC:=Aa T d
  have qV:=Fg (P:=P) (w:=w) (base:=base) T
  refine T.fV.mF (k:=d+1) eZ (λvs H Q E h=>?_) (λcI A outer s H vs Q E hr h hc hf=>?_)
  ·obtain⟨L,i,dp,rfl,_⟩:=h;rfl
  obtain⟨a,_,_,rfl,ws,j,m,rfl,rfl,hm,hL,lw,q⟩:=h
  have hu:=oN hr
  have L7:=hr.jW
  refine⟨_,(by apply ai;exact(aS (iU (fA (aB bW (aj hc 2) ah (aR _)) (eU (aB JD (aj hc 1) (aJ cJ (bz hc) T.dJ fk (ae (aj hc 0) ag)) (aR _))))) (by exact ao (aC (bx ag))) aD);apply ai;exact(az hc eZ.nd hf 3 (by decide +kernel) (aP cM (aj hc 0) (aj hc 1) (λ_ _=>rfl)));apply ai;exact(aS (iU (fA (aB bW (aj hc 3) aE (aR _)) (eU (aB bW (aj hc 3) aE (aR _))))) (by exact ao (aC (bx (ae (bL (ae (aj hc 3) ag)) (ae (aA bB (aj hc 1) ah) ag))))) aD);apply ai;exact(aS (aB bW (aj hc 3) aE (aR _)) (by apply ai;exact(aS (iU (zx (aB wG (aA bB (aj hc 1) ah) (aJ cJ (bz hc) T.dJ fk (ae (aj hc 0) ag)) (aR _)) (vZ (cY (ay qV hr.mono (bz hc) T.qH T.kS.kp T.qS .nil aT (ae (aP cM (aj hc 0) (aA bB (aj hc 1) ah) (λ_ _=>rfl)) ag)))))) (by exact ao (aC (bx (ae (bL (ae aE (ae (aP cM (aj hc 0) (aA bB (aj hc 1) ah) (λ_ _=>rfl)) ag))) (ae (aA bB (aj hc 1) ah) ag))))) aD);exact ao (aC (bx ag))) aD);apply ai;exact(aS (aB nZ (aj hc 3) (bx (nU dY (by decide +kernel))) (by with_unfolding_all rfl)) (by exact ao (aC (bx ag))) aD);apply ai;exact(az hc eZ.nd hf 4 (by decide +kernel) (ay iC hr.mono (bz hc) T.kb T.fV.kp T.kG .nil aT (ae (aj hc 0) (ae (aA bB (aj hc 1) ah) (ae (aA jg (aj hc 2) ah) ag)))));apply ai;exact(aS (iU (fA (aB (qy hu) (aj hc 4) (bx ag) (aR _)) (eU (aB bW (aj hc 3) aE (aR _))))) (by exact ao (aC (aA iI (cV hc ["_law_rule_here"] [] rfl (by decide +kernel) (mO (aQ mW (aj hc 4) aY (aX ah))) (λ_ hc=>pZ hc (by decide +kernel) 0 (by decide +kernel)) (λ_ _=>dz) (λ_ hc=>(bL (ae aE (ae (aj hc 0) ag))))) (aQ mW (aj hc 4) (aX ah) aY)))) aD);apply ai;exact(az hc eZ.nd hf 5 (by decide +kernel) (ay iC hr.mono (bz hc) T.kb T.fV.kp T.kG .nil aT (ae (aj hc 0) (ae (aP cM (aj hc 4) ah (λ_ _=>rfl)) (ae (aA jg (aj hc 2) ah) ag)))));exact ao (aC (aA iI (cV hc ["_law_rule_here"] [3,4] rfl (by decide +kernel) (mO (aQ mW (aj hc 5) aY (aX ah))) (λ_ hc=>pZ hc (by decide +kernel) 0 (by decide +kernel)) (λ_ _=>dz) (λ_ hc=>(bL (ae (aj hc 1) (ae (aP cM (aj hc 2) ah (λ_ _=>rfl)) (ae (aj hc 0) ag)))))) (aQ mW (aj hc 5) (aX ah) aY)))),?_⟩
  repeat (first | walk_at "rl" | simp only[hL])
  have iq:dm ws m j=none->0<=sizeLine/\∀(p:Addr),H p=none->Q (V.ref p) (upd H p (HO.lst [])):=λe=>⟨by decide,λX hX=>q X _ (au hX _) (by rw[e];exact ak)⟩
  refine fG (λe=>iq ?_) λn0=>fG (λe=>iq ?_) λn1=>?_
  ·have:m=0:=by omega
   subst this;rfl
  ·exact Lf (se (by omega))
  obtain⟨m',rfl⟩:∃m',m=m'+1:=⟨m-1,by omega⟩
  have hj:j<ws.length:=by omega
  have ek:ws[j]?=some ws[j]:=fL hj
  obtain⟨k,hk⟩:∃k,ws[j]=k:=⟨_,rfl⟩
  rw[hk]at ek
  have e1:mz (List.map V.str ws) (j:Int)=some (.str k):=cy (by rw[fz,ek];rfl)
  repeat (first | walk_at "rl" | simp only[hL,e1])
  have Fd:∀r,dm ws (m'+1) j=some (r,j+1)->(r=.yes/\k=Str.ofString "yes"\/r=.no/\k=Str.ofString "no")->1<=sizeLine/\∀(p:Addr),H p=none->2<=sizeLine/\∀(p_1:Addr),upd H p (HO.tup [V.str k]) p_1=none->Q (V.ref p_1) (upd (upd H p (HO.tup [V.str k])) p_1 (HO.lst [V.ref p,V.int (↑j+1)])):=λr e hr=>⟨by decide,λp hp=>⟨by decide,λp1 oO=>by
   have s2:=au oO (.lst [V.ref p,V.int ((j:Int)+1)])
   refine q p1 _ ((au hp _).trans s2) ?_
   rw[e]
   refine⟨p,by rw[ak];rfl,?_⟩
   rcases hr with ⟨rfl,rfl⟩ | ⟨rfl,rfl⟩
   ·exact s2 _ _ ak
   ·exact s2 _ _ ak⟩⟩
  refine fG (λe=>Fd .yes (Le (by rw[ek,e])) (.inl ⟨rfl,e⟩)) λny=>fG (λe=>Fd .no (O4 (by rw[ek,e])) (.inr ⟨rfl,e⟩)) λnn=>?_
  repeat (first | walk_at "rl" | simp only[hL,e1])
  by_cases IV:k=Str.ofString "is"
  ·subst IV
   rw[bu rfl]
   repeat (first | walk_at "rl" | simp only[hL,e1])
   have Ip:=O5 (d:=m') ek
   by_cases h2:j+1<ws.length
   ·have e2:ws[j+1]?=some ws[j+1]:=fL h2
    have e3:mz (List.map V.str ws) ((j:Int)+1)=some (.str ws[j+1]):=by
     have:=cy (xs:=List.map V.str ws) (j:=j+1) (v:=.str ws[j+1]) (by rw[fz,e2];rfl)
     exact this
    rw[bu (by omega)]
    repeat (first | walk_at "rl" | simp only[hL,e3])
    refine⟨_,rfl,lw _ (jP h2),?_⟩
    rw[e2]at Ip
    have Ip:dm ws (m'+1) j=if Nm ws[j+1] then some (.var ws[j+1],j+2) else none:=Ip
    by_cases nm:Nm ws[j+1]
    ·rw[decide_eq_true nm]
     rw[bu nm]at Ip
     repeat (first | walk_at "rl" | simp only[hL,e3])
     refine⟨by decide,λp hp=>⟨by decide,λp1 oO=>?_⟩⟩
     have s2:=au oO (.lst [V.ref p,V.int ((j:Int)+2)])
     refine q p1 _ ((au hp _).trans s2) ?_
     rw[Ip]
     exact⟨p,by rw[ak];rfl,s2 _ _ ak⟩
    ·rw[decide_eq_false nm]
     rw[aI nm]at Ip
     walk_at "r"
     exact iq Ip
   ·rw[se (by omega)]at Ip
    rw[aI (by omega)]
    walk_at "r"
    exact iq Ip
  ·rw[aI IV]
   repeat (first | walk_at "rl" | simp only[hL,e1])
   refine⟨by decide,λD hD=>⟨rfl,nC _,?_⟩⟩
   rw[nj]
   have sD:=au hD (.lst (List.map V.str dY))
   generalize upd H D (.lst (List.map V.str dY))=H0 at sD ⊢
   by_cases xM:k∈dY
   ·rw[decide_eq_true xM,aI (by simp)]
    have GK:k=Str.ofString "not"\/k∈bw:=cz.mp xM
    walk_at "r"
    refine⟨a,_,_,rfl,ws,j+1,m',by omega,by omega,by omega,sD _ _ hL,lw,λX1 H1 s1 l1=>?_⟩
    walk_at "r"
    have s01:=sD.trans s1
    obtain⟨xs,hX1,JK⟩:∃xs,H1 X1=some (.lst xs)/\((dm ws m' (j+1)=none/\xs=[])\/∃r i q,dm ws m' (j+1)=some (r,i)/\xs=[.ref q,.int (i:Int)]/\bM H1 r q):=by
     cases e:dm ws m' (j+1) with
     | none=>rw[e]at l1;exact⟨[],l1,.inl ⟨rfl,rfl⟩⟩
     | some p=>rw[e]at l1;obtain⟨q,h1,h2⟩:=l1;exact⟨_,h1,.inr ⟨p.1,p.2,q,rfl,rfl,h2⟩⟩
    refine⟨by decide,λN hN=>?_⟩
    have sN:=au hN (.lst [])
    have vF:=ak (H:=H1) (a:=N) (o:=.lst [])
    generalize upd H1 N (.lst [])=H2 at sN vF ⊢
    have GL:=sN _ _ hX1
    repeat (first | walk_at "rl" | simp only[GL,vF])
    have l2:xs.length<=2:=by rcases JK with ⟨_,rfl⟩ | ⟨_,_,_,_,rfl,_⟩ <;> simp
    have N4:=s01.trans sN
    by_cases CP:xs=[]
    ·rw[bu CP]
     refine uX (g:=λx=>[.str (Str.ofString "not"),x]) l2 GL (λc x H5 R _ h=>?_) (λ_ X H' sX hX=>q X H' (N4.trans sX) ?_) (λx rest e=>?_)
     ·repeat (walk_at "rd")
      exact⟨by decide,h⟩
     ·have e0:dm ws m' (j+1)=none:=by
       rcases JK with ⟨e,_⟩ | ⟨_,_,_,_,e,_⟩
       ·exact e
       ·rw[CP]at e;cases e
      rcases GK with rfl | hb
      ·rw[Fs ek,e0];exact hX
      ·rw[yT ek hb,e0];exact hX
     ·rw[CP]at e;cases e
    rw[aI CP]
    rcases JK with ⟨_,e⟩ | ⟨r,i,q1,el,rfl,ra⟩
    ·exact absurd e CP
    rcases GK with rfl | hb
    ·rw[bu rfl]
     refine uX (g:=λx=>[.str (Str.ofString "not"),x]) l2 GL (λc x H5 R _ h=>?_) (λe=>(nomatch e)) (λx rest e X p H' sX hX hp=>q X H' (N4.trans sX) ?_)
     ·repeat (walk_at "rd")
      exact⟨by decide,h⟩
     ·cases e
      rw[Fs ek,el]
      exact⟨p,hX,q1,hp,ra.mono (aW (sN.trans sX))⟩
    ·rw[aI (λz=>by rw[z]at hb;revert hb;decide)]
     repeat (first | walk_at "rl" | simp only[GL])
     refine⟨a,_,_,rfl,ws,i,m',rfl,by omega,by omega,N4 _ _ hL,lw,λX3 H3 s3 l3=>?_⟩
     have VN:=s3 _ _ GL
     obtain⟨ys,hY,Ni⟩:∃ys,H3 X3=some (.lst ys)/\((dm ws m' i=none/\ys=[])\/∃r i2 q,dm ws m' i=some (r,i2)/\ys=[.ref q,.int (i2:Int)]/\bM H3 r q):=by
      cases e:dm ws m' i with
      | none=>rw[e]at l3;exact⟨[],l3,.inl ⟨rfl,rfl⟩⟩
      | some p=>rw[e]at l3;obtain⟨q,h1,h2⟩:=l3;exact⟨_,h1,.inr ⟨p.1,p.2,q,rfl,rfl,h2⟩⟩
     have l3:ys.length<=2:=by rcases Ni with ⟨_,rfl⟩ | ⟨_,_,_,_,rfl,_⟩ <;> simp
     repeat (first | walk_at "rl" | simp only[hY])
     refine uX (g:=λx=>[.str k,.ref q1,x]) l3 hY (λc x H5 R s5 h=>?_) (λe X H' sX hX=>q X H' ((N4.trans s3).trans sX) ?_) (λx rest e X p H' sX hX hp=>q X H' ((N4.trans s3).trans sX) ?_)
     ·have hX5:=s5 _ _ VN
      repeat (first | walk_at "rd" | simp only[hX5])
      exact⟨by decide,h⟩
     ·have e0:dm ws m' i=none:=by
       rcases Ni with ⟨e,_⟩ | ⟨_,_,_,_,e2,_⟩
       ·exact e
       ·rw[e]at e2;cases e2
      rw[yT ek hb,el]
      show M7 H' X (Option.map _ (dm ws m' i))
      rw[e0]
      exact hX
     ·rcases Ni with ⟨_,e2⟩ | ⟨r2,i2,q2,el2,e2,SN⟩
      ·rw[e]at e2;cases e2
      rw[e]at e2
      cases e2
      rw[yT ek hb,el]
      show M7 H' X (Option.map _ (dm ws m' i))
      rw[el2]
      exact⟨p,hX,hb,q1,q2,hp,ra.mono (aW ((sN.trans s3).trans sX)),SN.mono (aW sX)⟩
   ·rw[decide_eq_false xM,bu (by simp)]
    refine⟨by decide,λX hX=>q X _ (sD.trans (au hX _)) ?_⟩
    rw[Io ek IV]
    ·exact ak
    ·cases e:iy k with
     | none=>rfl
     | some i=>
      rcases jv e with ⟨rfl | rfl,_⟩ | ⟨rfl,_⟩ | ⟨hb,_⟩
      ·exact absurd rfl ny
      ·exact absurd rfl nn
      ·exact absurd (cS) xM
      ·exact absurd (eD _ hb) xM
local macro_rules | `(tactic| walk_at "rd") => `(tactic| walk_at "rc")
local macro_rules | `(tactic| walk_at "rl") => `(tactic| first | (refine di fun R hR => ?_) | walk_at "ry" | (refine Nx.to (by assumption) _ _ ?_))
def N1:Sp:=λvs H Q _=>∃z,vs=[.str z]/\z.length<=60000/\(∀X H',(∀r,¬Rd z r)->bA H H'->H' X=some (.lst [])->Q (.ref X) H')/\(∀X r q H',Rd z r->bA H H'->H' X=some (.lst [.ref q])->bM H' r q->Q (.ref X) H')
theorem Lb(T:Txt K mg t):cK P w K mg base jN 9 t.mD t.mw ["_law_text"] N1:=by
 have iC:=Aa (P:=P) (w:=w) (base:=base) T 7
 have gj:=tG (P:=P) (w:=w) (base:=base) T 6
 refine T.qY.mF jY (λvs H Q E h=>?_) (λcI A outer s H vs Q E hr h hc hf=>?_)
 ·obtain⟨z,rfl,_⟩:=h;rfl
 obtain⟨z,rfl,lz,q0,q1⟩:=h
 have hu:=oN hr
 have L7:=hr.jW
 refine⟨_,(by apply ai;exact(az hc jY.nd hf 1 (by decide +kernel) (dM lH yh yi qF (aj hc 0) (ae aE ag)));apply ai;exact(az hc jY.nd hf 2 (by decide +kernel) (ay iC hr.mono (bz hc) T.kb T.fV.kp T.kG .nil aT (ae (aj hc 1) (ae ah (ae ah ag)))));apply ai;exact(aS (iU (fA (aB (qy hu) (aj hc 2) (bx ag) (aR _)) (fA (aB z6 (aP cM (aj hc 2) ah (λ_ _=>rfl)) (aJ cJ (bz hc) T.dJ fk (ae (aj hc 1) ag)) (aR _)) (eU (aB JC (aJ cJ (bz hc) T.dJ fk (ae (ay gj hr.mono (bz hc) T.jG T.dZ.kp T.jJ .nil aT (ae (aP cM (aj hc 2) ah (λ_ _=>rfl)) ag)) ag)) ah (aR _)))))) (by exact ao (aC (bx ag))) aD);exact ao (aC (aQ mW (aj hc 2) aY (aX ah)))),?_⟩
 walk_at "r"
 refine⟨by decide +kernel,lz,λp hp=>?_⟩
 have wz:=qu z
 obtain⟨ws,GD⟩:∃ws,Txt.split z ju=ws:=⟨_,rfl⟩
 have FH:Txt.split z (Str.ofString " ")=ws:=GD
 rw[FH]
 rw[GD]at wz
 have Jc:∀r,Rd z r↔gx ws 6 0=some (r,ws.length)/\(∀x∈r.names,Nm x)/\NC r.names:=λr=>by unfold Rd;rw[GD]
 have sp:=au hp (.lst (List.map V.str ws))
 have oO:=ak (H:=H) (a:=p) (o:=.lst (List.map V.str ws))
 generalize upd H p (.lst (List.map V.str ws))=H1 at sp oO ⊢
 walk_at "r"
 refine⟨p,_,_,rfl,ws,0,6,rfl,rfl,by decide,oO,λx hx=>by have:=uY hx;omega,λX H2 s2 l2=>?_⟩
 walk_at "r"
 have yX:=s2 _ _ oO
 refine⟨by decide,λN hN=>?_⟩
 have sN:=au hN (.lst [])
 have vF:=ak (H:=H2) (a:=N) (o:=.lst [])
 generalize upd H2 N (.lst [])=H3 at sN vF ⊢
 have Np:=sN _ _ yX
 have Q7:=(sp.trans s2).trans sN
 have iq:(∀r,¬Rd z r)->∀{H4:Hp},bA H H4->0<=sizeLine/\∀(p:Addr),H4 p=none->Q (V.ref p) (upd H4 p (HO.lst [])):=λe H4 s4=>⟨by decide,λX hX=>q0 X _ e (s4.trans (au hX _)) ak⟩
 cases el:dm ws 6 0 with
 | none=>
  rw[el]at l2
  have hX:H3 X=some (.lst []):=sN _ _ l2
  repeat (first | walk_at "rl" | simp only[hX,vF])
  refine iq (λr hr=>?_) Q7
  have h:=(Jc r).mp hr
  unfold dm at el
  rw[h.1]at el
  have el:(if ∀x∈r.names,Nm x then some (r,ws.length) else none)=none:=el
  rw[bu h.2.1]at el
  cases el
 | some rk=>
  obtain⟨r,k⟩:=rk
  rw[el]at l2
  obtain⟨q',hX,ra⟩:=l2
  have hX:H3 X=some (.lst [.ref q',.int (k:Int)]):=sN _ _ hX
  have ra:=ra.mono (aW sN)
  obtain⟨er,nm⟩:gx ws 6 0=some (r,k)/\∀x∈r.names,Nm x:=by
   unfold dm at el
   obtain⟨p,e1,e2⟩:=vV.mp el
   split at e2
   ·cases e2;exact⟨e1,by assumption⟩
   ·cases e2
  have h6:=(wq ws (dQ _) er).2.1
  repeat (first | walk_at "rl" | simp only[hX,vF,Np])
  by_cases hk:k=ws.length
  ·subst hk
   rw[aI (by simp)]
   refine⟨q',rfl,r,ra,h6,h6,λL ts H4 s4 hL hL4 mem nd N0=>⟨L,rfl,_,hL4,?_⟩⟩
   rw[cx]
   by_cases h5:ts.length<=5
   ·rw[aI (by omega)]
    have hX4:=s4 _ _ hX
    repeat (first | walk_at "rl" | simp only[hX4])
    rw[pA _ (by decide)]
    refine λF hF=>q1 F r q' _ ((Jc r).mpr ⟨er,nm,ts,nd,mem,h5⟩) ((Q7.trans s4).trans (au hF _)) ak ((ra.mono (aW s4)).mono (aW (au hF _)))
   ·rw[bu (by omega)]
    refine iq (λr' L8=>?_) (Q7.trans s4)
    have h:=(Jc r').mp L8
    have h1:=h.1
    rw[er]at h1
    cases h1
    exact h5 (Ak h.2.2 nd mem)
  ·rw[bu (by simp;omega)]
   refine iq (λr' L8=>?_) Q7
   have h1:=((Jc r').mp L8).1
   rw[er]at h1
   cases h1
   exact hk rfl
local macro_rules | `(tactic| walk_at "rd") => `(tactic| walk_at "rc")
local macro_rules | `(tactic| walk_at "rl") => `(tactic| first | (refine di fun R hR => ?_) | walk_at "ry" | (refine Nx.to (by assumption) _ _ ?_))
theorem join_one(sep x:Str):Txt.join sep [x]=x:=by
 show Builtin.Str.glued sep [x]=x
 rw[pJ];rfl
theorem BR{sep k:Str}{rs:List Rl}(h2:rs.length<=2):Txt.join sep (k::rs.map λr=>Txt.join sep r.words)=Txt.join sep (k::(rs.map Rl.words).flatten):=by
 match rs,h2 with
 | [],_=>rfl
 | [a],_=>
  have e:=kf (sep:=sep) (a:=[k]) (b:=a.words) (by simp) a.v7
  rw[join_one]at e
  simp only[ie,ur,rY,List.flatten_nil,oD]
  exact e.symm
 | [a,b],_=>
  have e:=kf (sep:=sep) (a:=[k]) (b:=a.words++b.words) (by simp) (by simp[a.v7])
  have e2:=kf (sep:=sep) (a:=a.words) (b:=b.words) a.v7 b.v7
  have e3:=kf (sep:=sep) (a:=[k]) (b:=[Txt.join sep a.words,Txt.join sep b.words]) (by simp) (by simp)
  rw[join_one]at e e3
  simp only[ie,ur,rY,List.flatten_nil,oD]
  rw[show k::(a.words++b.words)=[k]++(a.words++b.words) from rfl,e,e2]
  exact e3
theorem bM.both{H:Hp}{r:Rl}{p q:Addr}(a:bM H r p)(b:bM H r q):∃xs ys:List V,H p=some (.tup xs)/\H q=some (.tup ys)/\xs.length=ys.length/\
  ∀(i:Nat) x y,xs[i]?=some x->ys[i]?=some y->(∃z:Str,x=.str z/\y=.str z)\/∃p' q' s,x=.ref p'/\y=.ref q'/\bM H s p'/\bM H s q'/\s.deep+1<=r.deep:=by
 rcases Rl.par a.good with ⟨x,rfl⟩ | ⟨k,rs,pr⟩
 ·refine⟨[.str (Str.ofString "is"),.str x],[.str (Str.ofString "is"),.str x],a,b,rfl,λi u v hu hv=>?_⟩
  match i with
  | 0=>cases hu;cases hv;exact .inl ⟨_,rfl,rfl⟩
  | 1=>cases hu;cases hv;exact .inl ⟨_,rfl,rfl⟩
  | n+2=>cases hu
 ·obtain⟨qs,hp,hl,vP⟩:=pr.un H p a
  obtain⟨qs',Ag,Vz,UW⟩:=pr.un H q b
  refine⟨_,_,hp,Ag,by simp[hl,Vz],λi u v hu hv=>?_⟩
  cases i with
  | zero=>cases hu;cases hv;exact .inl ⟨_,rfl,rfl⟩
  | succ n=>
   obtain⟨c,ec,rfl⟩:=nY (show(List.map V.ref qs)[n]?=some u from hu)
   obtain⟨c',Nw,rfl⟩:=nY (show(List.map V.ref qs')[n]?=some v from hv)
   have hn:n<rs.length:=by rw[<-hl];exact(gp.mp ec).1
   have er:rs[n]?=some rs[n]:=fL hn
   exact .inr ⟨c,c',rs[n],rfl,rfl,vP n c _ ec er,UW n c' _ Nw er,(pr.vP _ (jP hn)).2.1⟩
theorem qM{ws:List Str}(h:∀z∈ws,z.length<=8):(Txt.join ju ws).length<=ws.length*9:=by
 show(Builtin.Str.glued ju ws).length<=_
 rw[pJ]
 cases ws with
 | nil=>exact bF _
 | cons z r=>
  have e:=px (ws:=z::r) (by simp)
  have hs:∀l:List Str,(∀z∈l,z.length<=8)->wl l<=l.length*9:=by
   intro l
   induction l with
   | nil=>intro _;exact bF _
   | cons y q ih=>
    intro h
    have h1:=ih (λy hy=>h y (eD _ hy))
    have h2:=h y cS
    show y.length+1+wl q<=(q.length+1)*9
    omega
  have:=hs _ h
  omega
theorem tM{r:Rl}{k:Str}{rs:List Rl}(pr:Rl.RN r k rs){s:Rl}(h:s∈rs):s.words.length<=r.words.length:=by
 rw[pr.ws]
 have:∀l:List Rl,s∈l->s.words.length<=(l.map Rl.words).flatten.length:=by
  intro l
  induction l with
  | nil=>intro h;cases h
  | cons a q ih=>
   intro h
   rw[ie,rY,df]
   rcases cz.mp h with e | h
   ·rw[e];omega
   ·have:=ih h;omega
 have:=this rs h
 rw[rW];omega
def Bj(d:Nat):Sp:=λvs H Q _=>∃p,vs=[.ref p]/\∃r,bM H r p/\r.deep<=d/\r.words.length<=200/\(∀n∈r.names,Nm n)/\∀H',bA H H'->Q (.str r.text) H'
theorem qz(T:Txt K mg t):∀d:Nat,cK P w K mg base jN (d+1) t.g9 t.gU ["_law_rule_here"] (Bj d)
 | 0=>T.dw.mF (k:=0) dX (λvs H Q E h=>by obtain⟨p,rfl,_⟩:=h;rfl) (λcI A outer s H vs Q E hr h hc hf=>by obtain⟨p,rfl,r,_,h1,_⟩:=h;have:=r.pos;omega)
 | d+1=>by
  have fq:=qz T d
  refine T.dw.mF (k:=d+1) dX (λvs H Q E h=>?_) (λcI A outer s H vs Q E hr h hc hf=>?_)
  ·obtain⟨p,rfl,_⟩:=h;rfl
  obtain⟨p,rfl,r,ra,hd,h6,nm,q⟩:=h
  refine⟨_,(by apply ai;exact(az hc dX.nd hf 1 (by decide +kernel) (bx (ae (aP ni (aj hc 0) ah (λ_ _=>rfl)) ag)));apply ai;exact(dU jC rfl (ph (aQ Ho (aj hc 0) (aX ah) aY)) (nS hc dX.nd hf 2 (by decide +kernel)) (by exact ao (aS (cY (aJ eQ (bz hc) T.bq bH (ae (aj hc 2) (ae (eV (v:=V.ty "tuple") (bz hc) T.il nv rfl) ag)))) (by exact ao (dR (dM si vW vX gF (aj hc 1) (ae (ay fq hr.mono (bz hc) T.gO T.dw.kp T.gY .nil aT (ae (aj hc 2) ag)) ag)))) (by exact ao (dR (dM si vW vX gF (aj hc 1) (ae (aj hc 2) ag)))))));exact ao (aC (dM lH pK pM gN aE (ae (aj hc 1) ag)))),?_⟩
  have wk:=Rl.ip ra.good nm
  have jo:JoinOk ju r.words=true:=joinOk_of (L:=8) (n:=200) (λz hz=>(wk z hz).1) h6 (by decide)
  rcases Rl.par ra.good with ⟨x,rfl⟩ | ⟨k,rs,pr⟩
  ·have hp:H p=some (.tup [.str (Str.ofString "is"),.str x]):=ra
   repeat (first | walk_at "rl" | simp only[hp])
   refine⟨by decide,λL hL=>?_⟩
   have pL:p≠L:=aH hp hL
   walk_at "r"
   refine⟨_,by rw[aG pL];exact hp,by simp[HT.bY],λC hC=>?_⟩
   rw[gH]
   have LC:L≠C:=aH ak hC
   have sC:bA H (upd (upd H L (.lst [.str (Str.ofString "is")])) C (.tup [.str x])):=(au hL _).trans (au hC _)
   refine⟨⟨_,cB ak⟩,?_⟩
   obtain⟨Pv,dN⟩:∃Pv:Nat->St->Hp->Prop,∀i σ' H',Pv i σ' H'↔∃y:Option V,σ'=[some (.ref p),some (.ref L),y]/\bA H H'/\H' L=some (.lst (List.map V.str (Str.ofString "is" :: [x].take i)))/\H' C=some (.tup [.str x]):=⟨_,λ_ _ _=>dP⟩
   refine jj (xs:=[V.str x]) Pv ((dN _ _ _).mpr ⟨none,rfl,sC,by rw[aG LC,ak];rfl,ak⟩) (λi σ' H1 _ pv=>?_) (λi z σ' H1 hz pv=>?_) (λσ' H1 pv=>?_)
   ·obtain⟨_,_,_,_,h⟩:=(dN _ _ _).mp pv
    exact h
   ·obtain⟨y,rfl,s1,tP,y0⟩:=(dN _ _ _).mp pv
    have hi:i=0:=by
     have:=(gp.mp hz).1
     simp at this;omega
    subst hi
    cases hz
    walk_at "r"
    refine⟨_,.str _,false,gQ (by decide) rfl,?_⟩
    rw[aI (by simp)]
    exact⟨.inl ⟨rfl,_,bT tP⟩,_,tP,bX (by simp),(dN _ _ _).mpr ⟨_,rfl,eF s1 hL,by rw[ak];rfl,by rw[aG LC.symm];exact y0⟩⟩
   ·obtain⟨y,rfl,s1,tP,y0⟩:=(dN _ _ _).mp pv
    walk_at "r"
    exact⟨_,tP,jo,q _ s1⟩
  ·obtain⟨qs,hp,hl,vP⟩:=pr.un H p ra
   repeat (first | walk_at "rl" | simp only[hp])
   refine⟨by decide,λL hL=>?_⟩
   have pL:p≠L:=aH hp hL
   walk_at "r"
   refine⟨_,by rw[aG pL];exact hp,by simp[HT.bY],λC hC=>?_⟩
   rw[gH]
   have LC:L≠C:=aH ak hC
   have sC:bA H (upd (upd H L (.lst [.str k])) C (.tup (List.map V.ref qs))):=(au hL _).trans (au hC _)
   refine⟨⟨_,cB ak⟩,?_⟩
   obtain⟨Pv,dN⟩:∃Pv:Nat->St->Hp->Prop,∀i σ' H',Pv i σ' H'↔∃y:Option V,σ'=[some (.ref p),some (.ref L),y]/\bA H H'/\H' L=some (.lst (List.map V.str (k::(rs.take i).map Rl.text)))/\H' C=some (.tup (List.map V.ref qs)):=⟨_,λ_ _ _=>dP⟩
   refine jj (xs:=List.map V.ref qs) Pv ((dN _ _ _).mpr ⟨none,rfl,sC,by rw[aG LC,ak];rfl,ak⟩) (λi σ' H1 _ pv=>?_) (λi z σ' H1 hz pv=>?_) (λσ' H1 pv=>?_)
   ·obtain⟨_,_,_,_,h⟩:=(dN _ _ _).mp pv
    exact h
   ·obtain⟨y,rfl,s1,tP,y0⟩:=(dN _ _ _).mp pv
    obtain⟨a,ea,rfl⟩:=nY hz
    have hi:i<rs.length:=by rw[<-hl];exact(gp.mp ea).1
    have er:rs[i]?=some rs[i]:=fL hi
    have ka:=(vP i a _ ea er).mono (aW s1)
    obtain⟨_,kd,kn⟩:=pr.vP _ (jP hi)
    obtain⟨xs,_,ha,_⟩:=bM.both ka ka
    have two:=pr.two
    walk_at "r"
    refine⟨_,.tup ha,true,dn _ _,?_⟩
    rw[bu rfl]
    refine⟨.inl ⟨rfl,_,bT tP⟩,a,rfl,rs[i],ka,by omega,cN (tM pr (jP hi)) h6,λn hn=>nm n (kn n hn),λH2 s2=>⟨_,s2 _ _ tP,bX (by simp;omega),(dN _ _ _).mpr ⟨_,rfl,eF (s1.trans s2) hL,?_,?_⟩⟩⟩
    ·rw[ak,oG,er,ig,<-List.cons_append,ig];rfl
    ·rw[aG LC.symm];exact s2 _ _ y0
   ·obtain⟨y,rfl,s1,tP,y0⟩:=(dN _ _ _).mp pv
    rw[cx,hl,oF]at tP
    walk_at "r"
    have jo2:JoinOk ju (k::rs.map Rl.text)=true:=joinOk_of (L:=2000) (n:=3) (λz hz=>?_) (by simp;have:=pr.two;omega) (by decide)
    ·have e:Txt.join ju (k::rs.map Rl.text)=r.text:=by
      have:=BR (sep:=ju) (k:=k) pr.two
      show _=Txt.join ju r.words
      rw[pr.ws];exact this
     refine⟨_,tP,jo2,?_⟩
     show Q (V.str (Txt.join ju (k::rs.map Rl.text))) H1
     rw[e]
     exact q _ s1
    ·rcases cz.mp hz with e | hz
     ·rw[e];have:=pr.nb.1;omega
     ·obtain⟨s0,hs,rfl⟩:=ll.mp hz
      obtain⟨g0,d0,n0⟩:=pr.vP s0 hs
      have l1:=cN (tM pr hs) h6
      have l2:=qM (ws:=s0.words) λz hz=>(Rl.ip g0 (λn hn=>nm n (n0 n hn)) z hz).1
      show(Txt.join ju s0.words).length<=2000
      omega
def Hn(d:Nat):Sp:=λvs H Q _=>∃x y,vs=[x,y]/\1<=d/\((∃z:Str,x=.str z/\y=.str z)\/∃p q r,x=.ref p/\y=.ref q/\bM H r p/\bM H r q/\r.deep+1<=d)/\∀H',bA H H'->Q (.bl true) H'
theorem qC(T:Txt K mg t):∀d:Nat,cK P w K mg base jN (d+1) t.jz t.jn ["_law_found","_law_due_here"] (Hn d)
 | 0=>T.fw.mF (k:=0) fK (λvs H Q E h=>by obtain⟨x,y,rfl,_⟩:=h;rfl) (λcI A outer s H vs Q E hr h hc hf=>by obtain⟨x,y,rfl,h1,_⟩:=h;omega)
 | d+1=>by
  have ft:=qC T d
  refine T.fw.mF (k:=d+1) fK (λvs H Q E h=>?_) (λcI A outer s H vs Q E hr h hc hf=>?_)
  ·obtain⟨x,y,rfl,_⟩:=h;rfl
  obtain⟨x,y,rfl,_,hxy,q⟩:=h
  refine⟨_,(by apply ai;exact(aS (cY (aJ eQ (bz hc) T.bq bH (ae (aj hc 1) (ae (eV (v:=V.ty "tuple") (bz hc) T.il nv rfl) ag)))) (by apply ai;exact(aS (iU (fA (fJ (cY (aJ eQ (bz hc) T.bq bH (ae (aj hc 0) (ae (eV (v:=V.ty "tuple") (bz hc) T.il nv rfl) ag))))) (eU (aB z6 (aJ ja (bz hc) T.dJ fk (ae (aj hc 0) ag)) (aJ ja (bz hc) T.dJ fk (ae (aj hc 1) ag)) (aR _))))) (by exact ao (aC fX)) aD);apply ai;exact(dU jC rfl (G0 (bz hc) T.zB (ae (aj hc 0) (ae (aj hc 1) ag))) (G3 rfl (sm (nS hc fK.nd hf 2 (by decide +kernel)) (sm (nS hc fK.nd hf 3 (by decide +kernel)) Df))) (by exact ao (aS (fJ (cY (ay ft hr.mono (bz hc) T.ji T.fw.kp T.jw .nil aT (ae (aj hc 2) (ae (aj hc 3) ag))))) (by exact ao (aC fX)) aD)));exact ao (aC fX)) aD);exact ao (aC (kW (aJ eQ (bz hc) T.bq bH (ae (aj hc 0) (ae (eV (v:=V.ty "str") (bz hc) T.p8 Aw rfl) ag))) (mP (p7 bW (aj hc 0) (aj hc 1) (aR _)))))),?_⟩
  rcases hxy with ⟨z,rfl,rfl⟩ | ⟨p,p',r,rfl,rfl,ra,rb,hd⟩
  ·walk_at "r"
   refine⟨_,.str _,false,gQ (by decide) rfl,?_⟩
   walk_at "r"
   refine⟨_,.str _,true,dn _ _,?_⟩
   walk_at "r"
   exact q H λ_ _ e=>e
  ·obtain⟨xs,ys,hp,Ag,hl,kids⟩:=ra.both rb
   walk_at "r"
   refine⟨_,.tup Ag,true,dn _ _,?_⟩
   walk_at "r"
   refine⟨_,.tup hp,true,dn _ _,?_⟩
   repeat (first | walk_at "rl" | simp only[hp,Ag])
   rw[aI (by simp),aI (by simp[hl])]
   walk_at "r"
   refine⟨xs,cB hp,ys,cB Ag,hl,?_⟩
   have rp:=r.pos
   obtain⟨Pv,dN⟩:∃Pv:Nat->St->Hp->Prop,∀i σ' H',Pv i σ' H'↔∃(u v:Option V),σ'=[some (.ref p),some (.ref p'),u,v]/\bA H H':=⟨_,λ_ _ _=>dP⟩
   refine y2 hl Pv ((dN _ _ _).mpr ⟨none,none,rfl,λ_ _ e=>e⟩) (λi σ' H1 _ pv=>?_) (λi x y pp σ' H1 hx hy hpp pv=>?_) (λσ' H1 pv=>?_)
   ·obtain⟨_,_,_,s1⟩:=(dN _ _ _).mp pv
    exact⟨s1 _ _ hp,s1 _ _ Ag⟩
   ·obtain⟨u,v,rfl,s1⟩:=(dN _ _ _).mp pv
    have s2:=s1.trans (au hpp (.tup [x,y]))
    refine⟨pp,[x,y],rfl,cB ak,rfl,?_⟩
    simp only[FW,Mr,cU]
    refine⟨x,[y],rfl,y,[],rfl,rfl,?_⟩
    walk_at "r"
    refine⟨x,y,rfl,by omega,?_,λH2 s3=>⟨_,rfl,?_⟩⟩
    ·rcases kids i x y hx hy with z | ⟨a,b,s0,e1,e2,k1,k2,k3⟩
     ·exact .inl z
     ·exact .inr ⟨a,b,s0,e1,e2,k1.mono (aW s2),k2.mono (aW s2),by omega⟩
    ·rw[aI (by simp)]
     exact(dN _ _ _).mpr ⟨_,_,rfl,s2.trans s3⟩
   ·obtain⟨u,v,rfl,s1⟩:=(dN _ _ _).mp pv
    walk_at "r"
    exact q _ s1
local macro_rules | `(tactic| walk_at "rd") => `(tactic| walk_at "rc")
local macro_rules | `(tactic| walk_at "rl") => `(tactic| first | (refine di fun R hR => ?_) | walk_at "ry" | (refine Nx.to (by assumption) _ _ ?_))
def Bk(K:PySem.W.Frag):Sp:=λvs H Q _=>∃v,vs=[v]/\((∃z:Str,v=.str z/\z.length<=60000/\∀r,¬Rd z r)\/∃ty,kR K H v ty/\PySem.W.kitOne K ty (.type "str")=some false)/\∀H',bA H H'->Q (.bl true) H'
def Hk:Sp:=λvs H Q _=>∃z,vs=[.str z]/\z.length<=60000/\∀H',bA H H'->Q (.bl true) H'
theorem qA(T:Txt K mg t):cK P w K mg base jN 11 t.hJ t.gW ["_law_thing"] (Bk K):=by
 have fQ:=vm (P:=P) (w:=w) (base:=base) T
 refine T.dy.mF jE (λvs H Q E h=>?_) (λcI A outer s H vs Q E hr h hc hf=>?_)
 ·obtain⟨v,rfl,_⟩:=h;rfl
 obtain⟨v,rfl,hv,q⟩:=h
 have hu:=oN hr
 have L7:=hr.jW
 refine⟨_,(by apply ai;exact(De hc jE.nd 1 (by decide +kernel) rfl rfl T.uW.is (bz hc) T.vA (λEH xe pn L Pk=>(λhc hf=>(by exact ao (dR (iT (EH:=EH) fQ hr.mono (bz hc) T.j7 T.iD.kp T.kB L (ae (aj hc 0) ag))))) (hcT (xe:=xe) (pn:=pn) hc) (hfT (xe:=xe) (pn:=pn) hf)) (λe=>(λhc hf=>(by apply ai;exact(aS (iU (fA (cY (aJ (kz (K:=K) rfl) (bz hc) T.bq bH (ae (aj hc 1) (ae (gJ (v:=V.ref t.bD) (bz hc) T.BM rfl) ag)))) (eU (cY (aJ (kz (K:=K) rfl) (bz hc) T.bq bH (ae (aj hc 1) (ae (gJ (v:=V.ref t.bS) (bz hc) T.Fq rfl) ag))))))) (by exact ao (aC fX)) aD);exact ao (aC (kW (aJ (kz (K:=K) rfl) (bz hc) T.bq bH (ae (aj hc 1) (ae (gJ (v:=V.ref t.aM) (bz hc) T.gP rfl) ag))) (mP (aJ (xt (K:=K) rfl) (bz hc) T.bq bH (ae (aj hc 1) (ae (eV (v:=V.ty "ValueError") (bz hc) T.gq vL rfl) ag)))))))) (hcS (e:=e) hc) (hfS (e:=e) hf)));exact ao (aC fX)),?_⟩
 walk_at "r"
 refine⟨λσ' C dx H'=>σ'=[some v,none]/\C=.ref t.aM/\dx=none/\bA H H',?_,?_⟩
 ·walk_at "r"
  refine⟨v,rfl,?_⟩
  rcases hv with ⟨z,rfl,lz,no⟩ | ⟨ty,h1,h2⟩
  ·exact .inl ⟨z,rfl,lz,λr q' H' hr=>absurd hr (no r),λ_ H' s'=>⟨rfl,rfl,s'⟩⟩
  ·exact .inr ⟨ty,h1,h2,rfl,rfl,bA.refl H⟩
 ·rintro σ' C dx H1 ⟨rfl,eC,rfl,s1⟩
  cases eC
  refine⟨T.ck,λe he=>?_⟩
  walk_at "r"
  have s2:=s1.trans (au he (.ext (zm e t.aM none)))
  have IW:upd H1 e (.ext (zm e t.aM none)) e=some (.ext (zm e t.aM none)):=ak
  generalize upd H1 e (.ext (zm e t.aM none))=H2 at s2 IW ⊢
  have xd:∀{H':Hp},xF H' none:=λd' e'=>nomatch e'
  refine⟨t.aM,none,rfl,xd,T.dS,false,T.cZ,?_⟩
  rw[aI (by decide)]
  refine⟨t.aM,none,rfl,xd,T.dS,false,T.dG,?_⟩
  rw[aI (by decide)]
  repeat (first | walk_at "rl" | simp only[IW])
  refine⟨t.aM,none,rfl,xd,T.dS,true,T.dF,?_⟩
  repeat (first | walk_at "rl" | simp only[IW])
  refine⟨t.aM,none,rfl,xd,T.dS,true,T.la,?_⟩
  exact q _ s2
theorem Ee{z:Str}{r r':Rl}(a:Rd z r)(b:Rd z r'):r=r':=by
 have h:=a.1
 rw[b.1]at h
 cases h
 rfl
theorem Fe(T:Txt K mg t):cK P w K mg base jN 12 t.jx t.jl ["_law_text"] Hk:=by
 have fQ:=vm (P:=P) (w:=w) (base:=base) T
 have dv:=qA (P:=P) (w:=w) (base:=base) T
 have zr:=Lb (P:=P) (w:=w) (base:=base) T
 have ft:=qC (P:=P) (w:=w) (base:=base) T 7
 refine T.nE.mF lR (λvs H Q E h=>?_) (λcI A outer s H vs Q E hr h hc hf=>?_)
 ·obtain⟨v,rfl,_⟩:=h;rfl
 obtain⟨z,rfl,lz,q⟩:=h
 have hu:=oN hr
 have L7:=hr.jW
 refine⟨_,(by apply ai;exact(az hc lR.nd hf 1 (by decide +kernel) (ay zr hr.mono (bz hc) T.yS T.qY.kp T.zk .nil aT (ae (aj hc 0) ag)));apply ai;exact(aS (aB (qy hu) (aj hc 1) (bx ag) (aR _)) (by exact ao (aC (ay dv hr.mono (bz hc) T.fe T.dy.kp T.fo .nil aT (ae (aj hc 0) ag)))) aD);exact ao (aC (ay ft hr.mono (bz hc) T.ji T.fw.kp T.jw .nil aT (ae (ay fQ hr.mono (bz hc) T.j7 T.iD.kp T.kB .nil Jz (ae (aj hc 0) ag)) (ae (aP cM (aj hc 1) ah (λ_ _=>rfl)) ag))))),?_⟩
 walk_at "r"
 refine⟨z,rfl,lz,λX H1 no s1 hX=>?_,λX r q' H1 rd s1 hX ra=>?_⟩
 ·walk_at "r"
  refine⟨by decide,λN hN=>?_⟩
  have sN:=au hN (.lst [])
  have vF:=ak (H:=H1) (a:=N) (o:=.lst [])
  generalize upd H1 N (.lst [])=H2 at sN vF ⊢
  have GL:=sN _ _ hX
  repeat (first | walk_at "rl" | simp only[GL,vF])
  exact⟨_,rfl,.inl ⟨z,rfl,lz,no⟩,λH3 s3=>q H3 ((s1.trans sN).trans s3)⟩
 ·walk_at "r"
  refine⟨by decide,λN hN=>?_⟩
  have sN:=au hN (.lst [])
  have vF:=ak (H:=H1) (a:=N) (o:=.lst [])
  generalize upd H1 N (.lst [])=H2 at sN vF ⊢
  have GL:=sN _ _ hX
  have h6:r.deep<=6:=(wq _ (dQ _) rd.1).2.1
  repeat (first | walk_at "rl" | simp only[GL,vF])
  refine⟨_,rfl,.inl ⟨z,rfl,lz,λr2 q2 H3 SM s3 SN=>?_,λno=>absurd rd (no r)⟩⟩
  have VN:=s3 _ _ GL
  repeat (first | walk_at "rl" | simp only[VN])
  cases Ee rd SM
  exact⟨.ref q2,.ref q',rfl,by decide,.inr ⟨q2,q',r,rfl,rfl,SN,ra.mono (aW (sN.trans s3)),by omega⟩,λH4 s4=>q H4 (((s1.trans sN).trans s3).trans s4)⟩
local macro_rules | `(tactic| walk_at "rd") => `(tactic| walk_at "rc")
local macro_rules | `(tactic| walk_at "rl") => `(tactic| first | (refine di fun R hR => ?_) | walk_at "ry" | (refine Nx.to (by assumption) _ _ ?_))
theorem iF(a b:List Str):wl (a++b)=wl a+wl b:=by unfold wl;rw[ig,List.sum_append]
theorem G8(ws:List Str)(n:Nat):wl (ws.take n)<=wl ws:=by
 have:=iF (ws.take n) (ws.drop n)
 rw[sf]at this;omega
theorem G9(ws:List Str)(n:Nat):wl (ws.drop n)<=wl ws:=by
 have:=iF (ws.take n) (ws.drop n)
 rw[sf]at this;omega
theorem uZ(ws:List Str)(i j:Nat)(h:i<=j):wl (ws.take i)+wl (ws.drop j)<=wl ws:=by
 have h1:=iF (ws.take i) (ws.drop i)
 rw[sf]at h1
 have e:ws.drop j=(ws.drop i).drop (j-i):=by rw[List.drop_drop];congr 1;omega
 have:=G9 (ws.drop i) (j-i)
 rw[e];omega
theorem join_le(ws:List Str):(Txt.join ju ws).length<=wl ws:=by
 show(Builtin.Str.glued ju ws).length<=_
 rw[pJ]
 cases ws with
 | nil=>exact bF _
 | cons z r=>have:=px (ws:=z::r) (by simp);omega
theorem tN{ws:List Str}(h:wl ws<=1000000):JoinOk ju ws=true:=by
 have e:ws.toArray.foldl (λa x=>a+x.length+ju.length) 0=wl ws:=by
  rw[StrLaws.joinTotal,show ju.length=1 by decide +kernel,Nat.mul_one]
  unfold wl
  clear h
  induction ws with
  | nil=>rfl
  | cons z r ih=>simp only[ie,List.sum_cons,rW];omega
 unfold JoinOk
 rw[e]
 have:¬(wl ws > sizeLine):=by rw[lX];omega
 unfold Builtin.Str.tooLong
 rw[decide_eq_false this];rfl
theorem gA(ws:List Str){k:Int}(h:0<=k):dO (List.map V.str ws) none (some k)=List.map V.str (ws.take k.toNat):=by rw[pA _ h,List.map_take]
theorem kx(ws:List Str){k:Int}(h:0<=k):dO (List.map V.str ws) (some k) none=List.map V.str (ws.drop k.toNat):=by
 rw[qP]
 have e:HT.bY ws.length 0 (some k)=min k.toNat ws.length:=by
  show(if k<0 then _ else min k.toNat ws.length)=_
  rw[aI (by omega)]
 have e0:HT.bY ws.length ws.length none=ws.length:=rfl
 rw[e,e0]
 congr 1
 by_cases hv:k.toNat<=ws.length
 ·rw[Nat.min_eq_left hv,vU (by rw[jQ];omega)]
 ·rw[xR (by omega),pR,List.take_zero,List.drop_eq_nil_of_le (by omega)]
theorem vG{p p1:Addr}{us ws:List Str}{x:Str}{b:Int}{H5:Hp}{Q:VK}(hp:H5 p=some (.lst (List.map V.str ws)))(h1:H5 p1=some (.lst (List.map V.str us)))(hb:0<=b)(lu:us.length<=60000)(lw:ws.length<=60000)(lj:wl (us++[x]++ws.drop b.toNat)<=1000000)
  (fin:∀H6,bA H5 H6->Q (.str (Txt.join ju (us++[x]++ws.drop b.toNat))) H6) :
  1<=sizeLine/\∀JB:Addr,H5 JB=none->∃J2,upd H5 JB (HO.lst [V.str x]) p1=some (HO.lst J2)/\J2.length+1<=sizeLine/\∀K4:Addr,upd H5 JB (HO.lst [V.str x]) K4=none->
   ∃xs,upd (upd H5 JB (HO.lst [V.str x])) K4 (HO.lst (J2++[V.str x])) p=some (HO.lst xs)/\∀p':Addr,upd (upd H5 JB (HO.lst [V.str x])) K4 (HO.lst (J2++[V.str x])) p'=none->
    ∃x_1,upd (upd (upd H5 JB (HO.lst [V.str x])) K4 (HO.lst (J2++[V.str x]))) p' (HO.lst (dO xs (some b) none)) K4=some (HO.lst x_1)/\x_1.length+(dO xs (some b) none).length<=sizeLine/\∀X7:Addr,
     upd (upd (upd H5 JB (HO.lst [V.str x])) K4 (HO.lst (J2++[V.str x]))) p' (HO.lst (dO xs (some b) none)) X7=none->
     ∃ss,x_1++dO xs (some b) none=List.map V.str ss/\JoinOk (Str.ofString " ") ss=true/\Q (V.str (Txt.join (Str.ofString " ") ss)) (upd (upd (upd (upd H5 JB (HO.lst [V.str x])) K4 (HO.lst (J2++[V.str x]))) p' (HO.lst (dO xs (some b) none))) X7 (HO.lst (x_1++dO xs (some b) none))):=by
 refine⟨by decide,λp2 h2=>?_⟩
 have s2:=au h2 (.lst [V.str x])
 generalize upd H5 p2 (.lst [V.str x])=H6 at s2 ⊢
 refine⟨_,s2 _ _ h1,by rw[cx,lX];omega,λp3 h3=>?_⟩
 have s3:=au h3 (.lst (List.map V.str us++[V.str x]))
 have e3:=ak (H:=H6) (a:=p3) (o:=.lst (List.map V.str us++[V.str x]))
 generalize upd H6 p3 (.lst (List.map V.str us++[V.str x]))=H7 at s3 e3 ⊢
 refine⟨_,s3 _ _ (s2 _ _ hp),λp4 h4=>?_⟩
 rw[kx ws hb]at *
 have s4:=au h4 (.lst (List.map V.str (ws.drop b.toNat)))
 generalize upd H7 p4 (.lst (List.map V.str (ws.drop b.toNat)))=H8 at s4 ⊢
 refine⟨_,s4 _ _ e3,?_,λp5 h5=>⟨us++[x]++ws.drop b.toNat,by simp,tN lj,fin _ (((s2.trans s3).trans s4).trans (au h5 _))⟩⟩
 rw[df,cx,cx,jQ,lX]
 show us.length+1+_<=_
 omega
def DN:Sp:=λvs H Q _=>∃h z,vs=[.ref h,.str z]/\cR H h/\z.length<=50000/\∀u H',Dr h H H'->u.length<=2*z.length+12->Q (.str u) H'
theorem Bw(T:Txt K mg t):cK P w K mg base jN 4 t.iM t.iL ["_law_hand_here","_law_text"] DN:=by
 have aF:=m9 (P:=P) (w:=w) (base:=base) T
 refine T.lV.mF bJ (λvs H Q E h=>?_) (λcI A outer s H vs Q E hr h hc hf=>?_)
 ·obtain⟨h,z,rfl,_⟩:=h;rfl
 obtain⟨h,z,rfl,hd,lz,q⟩:=h
 refine⟨_,(by apply ai;exact(az hc bJ.nd hf 2 (by decide +kernel) (dM lH yh yi qF (aj hc 1) (ae aE ag)));apply ai;exact(az hc bJ.nd hf 3 (by decide +kernel) (ay aF hr.mono (bz hc) T.aN T.aK.kp T.aO .nil aT (ae (aj hc 0) (ae (aJ cJ (bz hc) T.dJ fk (ae (aj hc 2) ag)) ag))));apply ai;exact(az hc bJ.nd hf 4 (by decide +kernel) (ay aF hr.mono (bz hc) T.aN T.aK.kp T.aO .nil aT (ae (aj hc 0) (ae ah ag))));apply ai;exact(az hc bJ.nd hf 5 (by decide +kernel) (bx (nU bC (by decide +kernel))));apply ai;exact(az hc bJ.nd hf 6 (by decide +kernel) (aP cM (aj hc 5) (ay aF hr.mono (bz hc) T.aN T.aK.kp T.aO .nil aT (ae (aj hc 0) (ae ah ag))) (λ_ _=>rfl)));apply ai;exact(aS (aB bW (aj hc 4) ah (aR _)) (by exact ao (aC (dM lH pK pM gN aE (ae (aA iI (aA iI (aQ mW (aj hc 2) aY (aX (aj hc 3))) (bx (ae (aj hc 6) ag))) (aQ mW (aj hc 2) (aX (aj hc 3)) aY)) ag)))) aD);apply ai;exact(aS (aB bW (aj hc 4) ah (aR _)) (by exact ao (aC (dM lH pK pM gN aE (ae (aA iI (aA iI (aQ mW (aj hc 2) aY (aX (aj hc 3))) (bx (ae (aj hc 6) ag))) (aQ mW (aj hc 2) (aX (aA bB (aj hc 3) ah)) aY)) ag)))) aD);apply ai;exact(aS (aB bW (aj hc 4) ah (aR _)) (by exact ao (aC (dM lH pK pM gN aE (ae (aA iI (aQ mW (aj hc 2) aY (aX (aj hc 3))) (aQ mW (aj hc 2) (aX (aA bB (aj hc 3) ah)) aY)) ag)))) aD);apply ai;exact(aS (aB bW (aj hc 4) ah (aR _)) (by exact ao (aC (dM lH pK pM gN aE (ae (aA iI (aA iI (aQ mW (aj hc 2) aY (aX (aj hc 3))) (bx (ae (aP cM (aj hc 2) (aj hc 3) (λ_ _=>rfl)) ag))) (aQ mW (aj hc 2) (aX (aj hc 3)) aY)) ag)))) aD);apply ai;exact(az hc bJ.nd hf 7 (by decide +kernel) (ay aF hr.mono (bz hc) T.aN T.aK.kp T.aO .nil aT (ae (aj hc 0) (ae (aA bB (aJ jr (bz hc) T.dJ fk (ae (aj hc 1) ag)) ah) ag))));apply ai;exact(az hc bJ.nd hf 8 (by decide +kernel) aE);apply ai;exact(az hc bJ.nd hf 9 (by decide +kernel) (aP Iu (aj hc 8) (ay aF hr.mono (bz hc) T.aN T.aK.kp T.aO .nil aT (ae (aj hc 0) (ae ah ag))) (λ_ _=>rfl)));apply ai;exact(aS (aB bW (aj hc 4) ah (aR _)) (by exact ao (aC (aA dk (aA dk (aQ iG (aj hc 1) aY (aX (aj hc 7))) (aj hc 9)) (aQ iG (aj hc 1) (aX (aj hc 7)) aY)))) aD);apply ai;exact(aS (aB bW (aj hc 4) ah (aR _)) (by exact ao (aC (aA dk (aA dk (aQ iG (aj hc 1) aY (aX (aj hc 7))) (aj hc 9)) (aQ iG (aj hc 1) (aX (aA bB (aj hc 7) ah)) aY)))) aD);exact ao (aC (aA dk (aQ iG (aj hc 1) aY (aX (aj hc 7))) (aQ iG (aj hc 1) (aX (aA bB (aj hc 7) ah)) aY)))),?_⟩
 walk_at "r"
 refine⟨by decide +kernel,by omega,λp hp=>?_⟩
 have wz:=qu z
 have zM:=lZ z ju
 obtain⟨ws,GD⟩:∃ws,Txt.split z ju=ws:=⟨_,rfl⟩
 have FH:Txt.split z (Str.ofString " ")=ws:=GD
 rw[FH]
 rw[GD]at wz zM
 have lw:=Dl (ws:=ws)
 have aAe:0<ws.length:=List.length_pos_iff.mpr zM
 have dp:=(Dr.refl (h:=h) (H:=H)).new (o:=.lst (List.map V.str ws)) hp
 have oO:=ak (H:=H) (a:=p) (o:=.lst (List.map V.str ws))
 have GJ:p≠h:=hd.ne hp
 generalize upd H p (.lst (List.map V.str ws))=H1 at dp oO ⊢
 repeat (first | walk_at "rl" | simp only[oO])
 refine bG hd dp (by omega) (by omega) λfP H2 a0 a1 d2 k2=>?_
 walk_at "r"
 refine bG hd d2 (by decide) (by decide) λway H3 w0 w1 d3 k3=>?_
 walk_at "r"
 refine⟨by decide,λD hD=>?_⟩
 have hDh:D≠h:=(d3.bU hd).ne hD
 walk_at "r"
 refine bG hd (d3.new hD) (by decide) (by decide) λi H4 i0 i1 d4 k4=>?_
 have Np:H3 p=some (.lst (List.map V.str ws)):=by rw[k3 p GJ,k2 p GJ];exact oO
 have w6:H4 p=some (.lst (List.map V.str ws)):=by rw[k4 p GJ,aG (aH Np hD)];exact Np
 have V7:H4 D=some (.lst (List.map V.str bC)):=by rw[k4 D hDh,ak]
 obtain⟨wd,ewd,lwd⟩:∃wd:Str,mz (List.map V.str bC) i=some (.str wd)/\wd.length<=9:=by
  have hi:i.toNat<bC.length:=by show i.toNat<16;omega
  refine⟨bC[i.toNat],?_,?_⟩
  ·have:=cy (xs:=List.map V.str bC) (j:=i.toNat) (v:=.str bC[i.toNat]) (by rw[fz,fL hi];rfl)
   rw[x9 i0]at this
   exact this
  ·have:∀x∈bC,x.length<=9:=by decide +kernel
   exact this _ (jP hi)
 have fin:∀us:List Str,∀H5:Hp,wl us<=2*(z.length+1)+10->Dr h H H5->Q (.str (Txt.join ju us)) H5:=λus H5 h5 d5=>q _ _ d5 (by have:=join_le us;omega)
 repeat (first | walk_at "rl" | simp only[w6,V7,ewd])
 have ta:wl (ws.take fP.toNat)<=wl ws:=G8 _ _
 have Zq:fP.toNat<ws.length:=by omega
 have d4':Dr h H H4:=d4
 have one:∀x:Str,wl [x]=x.length+1:=λx=>rfl
 refine fG (λ_ p1 h1=>?_) λ_=>?_
 ·rw[gA ws a0]
  have s1:=au h1 (.lst (List.map V.str (ws.take fP.toNat)))
  have e1:=ak (H:=H4) (a:=p1) (o:=.lst (List.map V.str (ws.take fP.toNat)))
  generalize upd H4 p1 (.lst (List.map V.str (ws.take fP.toNat)))=H5 at s1 e1 ⊢
  have J3:wl (ws.take fP.toNat++[wd]++ws.drop fP.toNat)<=2*(z.length+1)+10:=by
   rw[iF,iF,one]
   have:=uZ ws fP.toNat fP.toNat (bF _)
   omega
  exact vG (s1 _ _ w6) e1 a0 (by rw[cA];omega) (by omega) (by omega) λH6 s6=>fin _ _ J3 (d4.same (s1.trans s6))
 repeat (first | walk_at "rl" | simp only[w6])
 refine fG (λ_ p1 h1=>?_) λ_=>?_
 ·rw[gA ws a0]
  have s1:=au h1 (.lst (List.map V.str (ws.take fP.toNat)))
  have e1:=ak (H:=H4) (a:=p1) (o:=.lst (List.map V.str (ws.take fP.toNat)))
  generalize upd H4 p1 (.lst (List.map V.str (ws.take fP.toNat)))=H5 at s1 e1 ⊢
  have J3:wl (ws.take fP.toNat++[wd]++ws.drop (fP+1).toNat)<=2*(z.length+1)+10:=by
   rw[iF,iF,one]
   have:=uZ ws fP.toNat (fP+1).toNat (by omega)
   omega
  exact vG (s1 _ _ w6) e1 (by omega) (by rw[cA];omega) (by omega) (by omega) λH6 s6=>fin _ _ J3 (d4.same (s1.trans s6))
 repeat (first | walk_at "rl" | simp only[w6])
 refine fG (λ_ p1 h1=>?_) λ_=>?_
 ·rw[gA ws a0]
  have s1:=au h1 (.lst (List.map V.str (ws.take fP.toNat)))
  have e1:=ak (H:=H4) (a:=p1) (o:=.lst (List.map V.str (ws.take fP.toNat)))
  generalize upd H4 p1 (.lst (List.map V.str (ws.take fP.toNat)))=H5 at s1 e1 ⊢
  have J3:wl (ws.take fP.toNat++ws.drop (fP+1).toNat)<=2*(z.length+1)+10:=by
   rw[iF]
   have:=uZ ws fP.toNat (fP+1).toNat (by omega)
   omega
  refine⟨_,s1 _ _ w6,λp2 h2=>?_⟩
  rw[kx ws (by omega)]at *
  have s2:=au h2 (.lst (List.map V.str (ws.drop (fP+1).toNat)))
  generalize upd H5 p2 (.lst (List.map V.str (ws.drop (fP+1).toNat)))=H6 at s2 ⊢
  refine⟨_,s2 _ _ e1,?_,λp5 h5=>⟨ws.take fP.toNat++ws.drop (fP+1).toNat,by simp,tN (by omega),fin _ _ J3 (d4.same ((s1.trans s2).trans (au h5 _)))⟩⟩
  rw[cx,cx,jQ,cA,lX]
  omega
 repeat (first | walk_at "rl" | simp only[w6])
 refine fG (λ_ p1 h1=>?_) λ_=>?_
 ·rw[gA ws a0]
  have s1:=au h1 (.lst (List.map V.str (ws.take fP.toNat)))
  have e1:=ak (H:=H4) (a:=p1) (o:=.lst (List.map V.str (ws.take fP.toNat)))
  generalize upd H4 p1 (.lst (List.map V.str (ws.take fP.toNat)))=H5 at s1 e1 ⊢
  have ew:mz (List.map V.str ws) fP=some (.str ws[fP.toNat]):=by
   have:=cy (xs:=List.map V.str ws) (j:=fP.toNat) (v:=.str ws[fP.toNat]) (by rw[fz,fL Zq];rfl)
   rw[x9 a0]at this
   exact this
  have J3:wl (ws.take fP.toNat++[ws[fP.toNat]]++ws.drop fP.toNat)<=2*(z.length+1)+10:=by
   rw[iF,iF,one]
   have:=uZ ws fP.toNat fP.toNat (bF _)
   have:=uY (jP Zq)
   omega
  exact⟨_,s1 _ _ w6,_,ew,vG (s1 _ _ w6) e1 a0 (by rw[cA];omega) (by omega) (by omega) λH6 s6=>fin _ _ J3 (d4.same (s1.trans s6))⟩
 repeat (first | walk_at "rl" | simp only[w6])
 refine⟨by rw[lX];omega,bG hd d4 (by omega) (by omega) λsp H5 s0 s1 d5 k5=>?_⟩
 walk_at "r"
 refine bG hd d5 (by decide) (by decide) λsg H6 g0 g1 d6 k6=>?_
 walk_at "r"
 obtain⟨c,ec,_⟩:=Gn (xs:=(Str.ofString " !\"#$&'()*+,-./0123456789:;<=>?@ABCDEFGHIJKLMNOPQRSTUVWXYZ[\\]^_`{|}~aser    ").cps.toList) g0 (by
  have:76<=(Str.ofString " !\"#$&'()*+,-./0123456789:;<=>?@ABCDEFGHIJKLMNOPQRSTUVWXYZ[\\]^_`{|}~aser    ").cps.toList.length:=by decide +kernel
  omega)
 refine⟨by decide +kernel,c,ec,?_⟩
 generalize Str.ofString " !\"#$&'()*+,-./0123456789:;<=>?@ABCDEFGHIJKLMNOPQRSTUVWXYZ[\\]^_`{|}~aser    " = sgs
 walk_at "r"
 have l1:(my z none (some sp)).length<=z.length:=by
  rw[<-fh,<-fh,pB z s0,cA];omega
 have l2:∀v:Int,0<=v->(my z (some v) none).length<=z.length:=λv hv=>by
  rw[<-fh,<-fh,tS z hv,jQ];omega
 have l3:=l2 sp s0
 have l4:=l2 (sp+1) (by omega)
 have lc:(⟨#[c]⟩:Str).length=1:=rfl
 have big:200000<=sizeLine:=by decide
 refine fG (λ_=>?_) λ_=>?_
 ·rw[lE,lc]
  refine⟨by omega,by omega,by omega,by omega,q _ _ d6 ?_⟩
  rw[lE,lE,lc];omega
 walk_at "r"
 refine fG (λ_=>?_) λ_=>?_
 ·rw[lE,lc]
  refine⟨by omega,by omega,by omega,by omega,q _ _ d6 ?_⟩
  rw[lE,lE,lc];omega
 walk_at "r"
 refine⟨by omega,by omega,by omega,q _ _ d6 ?_⟩
 rw[lE];omega
local macro_rules | `(tactic| walk_at "rd") => `(tactic| walk_at "rc")
local macro_rules | `(tactic| walk_at "rl") => `(tactic| first | (refine di fun R hR => ?_) | walk_at "ry" | (refine Nx.to (by assumption) _ _ ?_))
def Kk:Sp:=λvs H Q _=>∃h N p,vs=[.ref h,.ref N,.ref p]/\∃(ss:List Str) (r:Rl),cR H h/\H N=some (.lst (List.map V.str ss))/\ss.length=8/\(∀s∈ss,Nm s)/\bM H r p/\r.deep<=6/\(∀n∈r.names,Nm n)/\
 ∀p' r' H',Dr h H H'->bM H' r' p'->r'.deep<=12->r'.words.length<=113->(∀n∈r'.names,Nm n)->Q (.ref p') H'
theorem Ij(T:Txt K mg t):cK P w K mg base jN 4 t.kM t.km ["_law_hand_here","_law_names_here","_law_rule_here"] Kk:=by
 have aF:=m9 (P:=P) (w:=w) (base:=base) T
 refine T.oX.mF cp (λvs H Q E h=>?_) (λcI A outer s H vs Q E hr h hc hf=>?_)
 ·obtain⟨h,N,p,rfl,_⟩:=h;rfl
 obtain⟨h,N,p,rfl,ss,r,hd,hN,Yl,Uz,ra,XR,nm,q⟩:=h
 have yZ:=hd.Ox hN
 have Ym:=Rl.Js XR
 refine⟨_,(by apply ai;exact(az hc cp.nd hf 3 (by decide +kernel) (ay aF hr.mono (bz hc) T.aN T.aK.kp T.aO .nil aT (ae (aj hc 0) (ae ah ag))));apply gI;exact(aS (aB bW (aj hc 3) ah (aR _)) (by exact ao (dU jC rfl (bQ (bz hc) T.cP (ae ah ag)) (nS hc cp.nd hf 4 (by decide +kernel)) (by exact ao (az hc cp.nd hf 2 (by decide +kernel) (bL (ae (aP cM (bx (ae aE (ae aE ag))) (ay aF hr.mono (bz hc) T.aN T.aK.kp T.aO .nil aT (ae (aj hc 0) (ae ah ag))) (λ_ _=>rfl)) (ae (aj hc 2) (ae (bL (ae aE (ae (aP cM (aj hc 1) (aA bB (aj hc 4) ah) (λ_ _=>rfl)) ag))) ag)))))))) aD);apply gI;exact(aS (aB bW (aj hc 3) ah (aR _)) (by exact ao (dU jC rfl (bQ (bz hc) T.cP (ae ah ag)) (nS hc cp.nd hf 4 (by decide +kernel)) (by exact ao (az hc cp.nd hf 2 (by decide +kernel) (bL (ae aE (ae (aj hc 2) ag))))))) aD);apply gI;exact(aS (aB bW (aj hc 3) ah (aR _)) (by apply ai;exact(Bb hc cp.nd 5 (by decide +kernel) ["_law_k"] [1] rfl (by decide +kernel) (bQ (bz hc) T.cP (ae ah ag)) (λ_ hc=>pZ hc (by decide +kernel) 0 (by decide +kernel)) (λ_ _=>dz) (λ_ hc=>(bL (ae aE (ae (bL (ae aE (ae (aP cM (aj hc 1) (aA iH ah (aj hc 0)) (λ_ _=>rfl)) ag))) (ae (bL (ae aE (ae (aP cM (aj hc 1) (aA bB (aA iH ah (aj hc 0)) ah) (λ_ _=>rfl)) ag))) ag))))) (by rfl));exact ao (az hc cp.nd hf 2 (by decide +kernel) (bL (ae aE (ae (aP cM (aj hc 5) ah (λ_ _=>rfl)) (ae (bL (ae aE (ae (aP cM (aj hc 5) ah (λ_ _=>rfl)) (ae (aP cM (aj hc 5) ah (λ_ _=>rfl)) ag)))) ag)))))) aD);exact ao (aC (aj hc 2))),?_⟩
 walk_at "r"
 refine bG hd Dr.refl (by decide) (by decide) λway H1 w0 w8 d1 k1=>?_
 have vF:H1 N=some (.lst (List.map V.str ss)):=by rw[k1 N yZ];exact hN
 have ra1:bM H1 r p:=ra.mono λb xs e=>by rw[k1 b (hd.Bz e)];exact e
 walk_at "r"
 obtain⟨Pv,dN⟩:∃Pv:Nat->Nat->St->Hp->Prop,∀i j σ' H',Pv i j σ' H'↔∃(p':Addr) (r':Rl) (x y:Option V),σ'=[some (.ref h),some (.ref N),some (.ref p'),some (.int way),x,y]/\Dr h H H'/\H' N=some (.lst (List.map V.str ss))/\bM H' r' p'/\r'.deep<=6+i/\r'.words.length<=95+j/\∀n∈r'.names,Nm n:=⟨_,λ_ _ _ _=>dP⟩
 obtain⟨M0,V5⟩:∃M:St->Hp->Prop,∀σ' H',M σ' H'↔(way=0/\Pv 6 18 σ' H'\/way≠0/\Pv 0 0 σ' H'):=⟨_,λ_ _=>dP⟩
 obtain⟨M1,Ce⟩:∃M:St->Hp->Prop,∀σ' H',M σ' H'↔Pv 6 18 σ' H':=⟨_,λ_ _=>dP⟩
 have nx:∀{i:Nat},i<8->∀{m:Int},m=(i:Int)->∃x,mz (List.map V.str ss) m=some (.str x)/\Nm x:=λ{i} hi {m} em=>by
  have hi:i<ss.length:=by omega
  rw[em]
  exact⟨ss[i],cy (by rw[fz,fL hi];rfl),Uz _ (jP hi)⟩
 have up:∀{i j σ' H'},i<=6->j<=18->Pv i j σ' H'->Pv 6 18 σ' H':=λhi hj h=>by
  obtain⟨p',r',x,y,e,a1,a2,a3,a4,a5,a6⟩:=(dN _ _ _ _).mp h
  exact(dN _ _ _ _).mpr ⟨p',r',x,y,e,a1,a2,a3,by omega,by omega,a6⟩
 have p0:Pv 0 0 [some (.ref h),some (.ref N),some (.ref p),some (.int way),none,none] H1:=(dN _ _ _ _).mpr ⟨p,r,none,none,rfl,d1,vF,ra1,XR,Ym,nm⟩
 refine⟨M0,?_,λσ1 H2 m0=>?_⟩
 ·walk_at "r"
  refine fG (λew=>?_) λew=>(V5 _ _).mpr (.inr ⟨ew,p0⟩)
  walk_at "r"
  refine d8 (λi=>Pv i (3*i)) p0 (λi σ' H2 hi pv=>?_) (λσ' H2 pv=>(V5 _ _).mpr (.inl ⟨ew,pv⟩))
  obtain⟨p',r',x,y,rfl,a1,a2,a3,a4,a5,a6⟩:=(dN _ _ _ _).mp pv
  walk_at "r"
  refine⟨by decide,λL hL=>?_⟩
  have hLh:L≠h:=(a1.bU hd).ne hL
  have sL:=au hL (.lst [V.str (Str.ofString "and"),V.str (Str.ofString "or")])
  have eL:=ak (H:=H2) (a:=L) (o:=.lst [V.str (Str.ofString "and"),V.str (Str.ofString "or")])
  have aL:=a1.same sL
  generalize upd H2 L (.lst [V.str (Str.ofString "and"),V.str (Str.ofString "or")])=H3 at sL eL aL ⊢
  refine bG hd aL (by decide) (by decide) λk H4 k0 k2 d4 k4=>?_
  have eL4:H4 L=some (.lst [V.str (Str.ofString "and"),V.str (Str.ofString "or")]):=by rw[k4 L hLh];exact eL
  have ZX:H4 N=some (.lst (List.map V.str ss)):=by rw[k4 N yZ];exact sL _ _ a2
  have ra4:bM H4 r' p':=(a3.mono (aW sL)).mono λb xs e=>by rw[k4 b ((aL.bU hd).Bz e)];exact e
  obtain⟨kw,hkw,ekw⟩:∃kw∈bw,mz [V.str (Str.ofString "and"),V.str (Str.ofString "or")] k=some (.str kw):=by
   have:k=0\/k=1:=by omega
   rcases this with rfl | rfl
   ·exact⟨_,by simp[bw],rfl⟩
   ·exact⟨_,by simp[bw],rfl⟩
  obtain⟨x1,Wr,Uw⟩:=nx (i:=i+1) (by omega) (m:=(i:Int)+1) (by omega)
  repeat (first | walk_at "rl" | simp only[eL4,ZX,ekw,Wr])
  refine⟨by decide,λp1 oO=>⟨by decide,λp2 yX=>?_⟩⟩
  have s1:=au oO (.tup [V.str (Str.ofString "is"),V.str x1])
  have s2:=au yX (.tup [V.str kw,V.ref p',V.ref p1])
  refine(dN _ _ _ _).mpr ⟨p2,.two kw r' (.var x1),_,_,rfl,(d4.same s1).same s2,s2 _ _ (s1 _ _ ZX),⟨hkw,p',p1,ak,(ra4.mono (aW s1)).mono (aW s2),s2 _ _ ak⟩,?_,?_,?_⟩
  ·show max r'.deep 1+1<=_
   omega
  ·show(r'.words++[Str.ofString "is",x1]).length+1<=_
   rw[df]
   show r'.words.length+2+1<=_
   omega
  ·intro n hn
   rcases fM.mp (show n∈r'.names++[x1] from hn) with z | z
   ·exact a6 n z
   ·rw[eR.mp z];exact Uw
 refine⟨M1,?_,λσ3 H3 m1=>?_⟩
 ·rcases(V5 _ _).mp m0 with ⟨ew,pv⟩ | ⟨ew,pv⟩
  ·obtain⟨p',r',x,y,e,_⟩:=(dN _ _ _ _).mp pv
   rw[e]at pv ⊢
   walk_at "r"
   rw[aI (by omega)]
   exact(Ce _ _).mpr pv
  ·obtain⟨p',r',x,y,e,_⟩:=(dN _ _ _ _).mp pv
   rw[e]at pv ⊢
   walk_at "r"
   refine fG (λew=>?_) λew=>(Ce _ _).mpr (up (by decide) (by decide) pv)
   walk_at "r"
   refine d8 (λi=>Pv i (3*i)) pv (λi σ' H2 hi pv=>?_) (λσ' H2 pv=>(Ce _ _).mpr pv)
   obtain⟨p',r',x,y,rfl,a1,a2,a3,a4,a5,a6⟩:=(dN _ _ _ _).mp pv
   walk_at "r"
   refine⟨by decide,λp2 yX=>?_⟩
   have s2:=au yX (.tup [V.str (Str.ofString "not"),V.ref p'])
   refine(dN _ _ _ _).mpr ⟨p2,.neg r',_,_,rfl,a1.same s2,s2 _ _ a2,⟨p',ak,a3.mono (aW s2)⟩,?_,?_,a6⟩
   ·show r'.deep+1<=_
    omega
   ·show r'.words.length+1<=_
    omega
 refine⟨M1,?_,λσ5 H5 m2=>?_⟩
 ·have pv:=(Ce _ _).mp m1
  obtain⟨p',r',x,y,e,a1,a2,_⟩:=(dN _ _ _ _).mp pv
  rw[e]at pv ⊢
  walk_at "r"
  refine fG (λew=>?_) λew=>(Ce _ _).mpr pv
  walk_at "r"
  obtain⟨Pc,rJ⟩:∃Pc:Addr->Nat->List V->Hp->Prop,∀Z i ys H',Pc Z i ys H'↔∃qs:List Addr,ys=List.map V.ref qs/\qs.length=i/\bA H3 H'/\H' Z=some (.lst ys)/\∀q∈qs,∃a b,Nm a/\Nm b/\bM H' (.two (Str.ofString "or") (.var a) (.var b)) q:=⟨_,λ_ _ _ _=>dP⟩
  refine iw Pc (λZ hZ=>(rJ _ _ _ _).mpr ⟨[],rfl,rfl,au hZ _,ak,λq h=>nomatch h⟩) (λZ hZ i ys H' hi pv cb=>?_) (λZ hZ ys H' pv=>?_)
  ·obtain⟨qs,rfl,lq,sZ,CW,al⟩:=(rJ _ _ _ _).mp pv
   have RB:=sZ _ _ a2
   obtain⟨x1,Wr,Uw⟩:=nx (i:=2*i) (by omega) (m:=2*(i:Int)) (by omega)
   obtain⟨x2,ZR,nx2⟩:=nx (i:=2*i+1) (by omega) (m:=2*(i:Int)+1) (by omega)
   walk_at "rc"
   repeat (first | walk_at "rd" | simp only[RB,Wr,ZR])
   refine⟨.inl ⟨by decide,by decide⟩,by decide,λp1 oO=>⟨.inl ⟨by decide,by decide⟩,_,au oO _ _ _ RB,_,ZR,by decide,λp2 yX=>⟨by decide,λp3 Np=>?_⟩⟩⟩
   have s1:=au oO (.tup [V.str (Str.ofString "is"),V.str x1])
   have s2:=au yX (.tup [V.str (Str.ofString "is"),V.str x2])
   have s3:=au Np (.tup [V.str (Str.ofString "or"),V.ref p1,V.ref p2])
   have e1:=s3 _ _ (s2 _ _ (ak (H:=H') (a:=p1) (o:=.tup [V.str (Str.ofString "is"),V.str x1])))
   have e2:=s3 _ _ (ak (H:=upd H' p1 (.tup [V.str (Str.ofString "is"),V.str x1])) (a:=p2) (o:=.tup [V.str (Str.ofString "is"),V.str x2]))
   have e3:=ak (H:=upd (upd H' p1 (.tup [V.str (Str.ofString "is"),V.str x1])) p2 (.tup [V.str (Str.ofString "is"),V.str x2])) (a:=p3) (o:=.tup [V.str (Str.ofString "or"),V.ref p1,V.ref p2])
   have s4:=(s1.trans s2).trans s3
   generalize upd (upd (upd H' p1 (.tup [V.str (Str.ofString "is"),V.str x1])) p2 (.tup [V.str (Str.ofString "is"),V.str x2])) p3 (.tup [V.str (Str.ofString "or"),V.ref p1,V.ref p2])=H6 at e1 e2 e3 s4 ⊢
   have tk:∀o c xs,H6 c=some (.tup xs)->upd H6 Z o c=some (.tup xs):=λo c xs e=>by rw[aG (wQ e (s4 _ _ CW) (by intro z;cases z))];exact e
   refine⟨s4 _ _ CW,bX (by omega),(rJ _ _ _ _).mpr ⟨qs++[p3],by simp,by simp[lq],eF (sZ.trans s4) hZ,ak,λc hc=>?_⟩⟩
   rcases fM.mp hc with hc | hc
   ·obtain⟨a,b,na,nb,rr⟩:=al c hc
    exact⟨a,b,na,nb,(rr.mono (aW s4)).mono (λc xs e=>tk _ c xs e)⟩
   ·rw[eR.mp hc]
    exact⟨x1,x2,Uw,nx2,by simp[bw],p1,p2,tk _ _ _ e3,tk _ _ _ e1,tk _ _ _ e2⟩
  ·obtain⟨qs,rfl,lq,sZ,CW,al⟩:=(rJ _ _ _ _).mp pv
   match qs,lq with
   | [q0,q1,q2],_=>
    repeat (first | walk_at "rl" | simp only[CW])
    obtain⟨a,b,na,nb,r0⟩:=al q0 (by simp)
    obtain⟨c,d,nc,nd,r1⟩:=al q1 (by simp)
    obtain⟨e',f,ne',nf,r2⟩:=al q2 (by simp)
    refine⟨by decide,λp1 oO=>⟨by decide,λp2 yX=>?_⟩⟩
    have s1:=au oO (.tup [V.str (Str.ofString "same"),V.ref q1,V.ref q2])
    have s2:=au yX (.tup [V.str (Str.ofString "and"),V.ref q0,V.ref p1])
    refine(Ce _ _).mpr ((dN _ _ _ _).mpr ⟨p2,.two (Str.ofString "and") (.two (Str.ofString "or") (.var a) (.var b)) (.two (Str.ofString "same") (.two (Str.ofString "or") (.var c) (.var d)) (.two (Str.ofString "or") (.var e') (.var f))),_,_,rfl,((a1.same sZ).same s1).same s2,s2 _ _ (s1 _ _ (sZ _ _ a2)),⟨by simp[bw],q0,p1,ak,(r0.mono (aW s1)).mono (aW s2),by simp[bw],q1,q2,s2 _ _ ak,(r1.mono (aW s1)).mono (aW s2),(r2.mono (aW s1)).mono (aW s2)⟩,?_,?_,?_⟩)
    ·simp[Rl.deep]
    ·simp[Rl.words]
    ·simp[Rl.names]
     exact⟨na,nb,nc,nd,ne',nf⟩
 ·obtain⟨p',r',x,y,e,a1,a2,a3,a4,a5,a6⟩:=(dN _ _ _ _).mp ((Ce _ _).mp m2)
  rw[e]
  walk_at "r"
  exact q p' r' H5 a1 a3 a4 a5 a6
local macro_rules | `(tactic| walk_at "rd") => `(tactic| walk_at "rc")
local macro_rules | `(tactic| walk_at "rl") => `(tactic| first | (refine di fun R hR => ?_) | walk_at "ry" | (refine Nx.to (by assumption) _ _ ?_))
theorem tI:∀n:Nat,Txt.join ju (List.replicate n (Str.ofString "not")++[Str.ofString "yes"])=⟨((List.replicate n (Str.ofString "not ").cps.toList).flatten++(Str.ofString "yes").cps.toList).toArray⟩
 | 0=>by decide +kernel
 | n+1=>by
  have e:=kf (sep:=ju) (a:=[Str.ofString "not"]) (b:=List.replicate n (Str.ofString "not")++[Str.ofString "yes"]) (by simp) (by simp)
  rw[uQ,List.cons_append,uQ,rY,<-List.singleton_append,e,tI n]
  refine Str.ext' (Array.ext' ?_)
  show((Builtin.Str.glued ju [Builtin.Str.glued ju [Str.ofString "not"],_])).cps.toList=_
  rw[pJ,pJ,zi,nh]
  show(Str.ofString "not").cps.toList++32::_=_
  rw[show(Str.ofString "not ").cps.toList=(Str.ofString "not").cps.toList++[32] by decide +kernel]
  simp
  rfl
theorem jk{α:Type}{ws:List α}{j:Nat}{x:α}{r:List α}(h:ws.drop j=x::r):ws[j]?=some x/\ws.drop (j+1)=r:=by
 constructor
 ·have:=gk (·[0]?) h
  simpa [List.getElem?_drop]using this
 ·rw[<-List.drop_drop,h];rfl
theorem m8{ws:List Str}:∀{r:Rl} {d j:Nat} {rest:List Str},r.good->r.deep<=d->ws.drop j=r.words++rest->gx ws d j=some (r,j+r.words.length)/\ws.drop (j+r.words.length)=rest
 | r,0,j,rest,_,h,_=>by have:=r.pos;omega
 | .yes,d+1,j,rest,_,_,e=>by
  obtain⟨w0,dr⟩:=jk (show ws.drop j=Str.ofString "yes" :: rest from e)
  exact⟨by rw[jZ w0 (by decide) (show _=some 0 by decide +kernel)];rfl,dr⟩
 | .no,d+1,j,rest,_,_,e=>by
  obtain⟨w0,dr⟩:=jk (show ws.drop j=Str.ofString "no" :: rest from e)
  exact⟨by rw[jZ w0 (by decide) (show _=some 0 by decide +kernel)];rfl,dr⟩
 | .var x,d+1,j,rest,_,_,e=>by
  obtain⟨w0,dr⟩:=jk (show ws.drop j=Str.ofString "is" :: x::rest from e)
  obtain⟨w1,dr⟩:=jk dr
  exact⟨by rw[zP w0,w1];rfl,dr⟩
 | .neg a,d+1,j,rest,g,h,e=>by
  obtain⟨w0,dr⟩:=jk (show ws.drop j=Str.ofString "not" :: (a.words++rest) from e)
  obtain⟨e1,e2⟩:=m8 (r:=a) g (Nat.le_of_succ_le_succ h) dr
  refine⟨?_,?_⟩
  ·rw[jZ w0 (by decide) (show _=some 1 by decide +kernel),show(1:Int).toNat=1 from rfl,ng,e1]
   show some (Rl.neg a,j+1+a.words.length)=some (Rl.neg a,j+(a.words.length+1))
   congr 2;omega
  ·rw[<-e2]
   show ws.drop (j+(a.words.length+1))=_
   congr 1;omega
 | .two k a b,d+1,j,rest,⟨hk,ga,gb⟩,h,e=>by
  have h':max a.deep b.deep<=d:=Nat.le_of_succ_le_succ h
  obtain⟨w0,dr⟩:=jk (show ws.drop j=k::(a.words++(b.words++rest)) by rw[e];show k::(a.words++b.words++rest)=_;rw[uI])
  obtain⟨e1,e2⟩:=m8 (r:=a) (d:=d) ga (by omega) dr
  obtain⟨e3,e4⟩:=m8 (r:=b) (d:=d) gb (by omega) e2
  have el:(Rl.two k a b).words.length=a.words.length+b.words.length+1:=by show(a.words++b.words).length+1=_;rw[df]
  refine⟨?_,?_⟩
  ·rw[jZ w0 (Au k hk) (zh k hk),show(2:Int).toNat=2 from rfl,wR,e1]
   show Option.map _ (Option.map _ (gx ws d (j+1+a.words.length)))=_
   rw[e3,el]
   show some (Rl.two k a b,j+1+a.words.length+b.words.length)=_
   congr 2;omega
  ·rw[<-e4,el]
   congr 1;omega
theorem Ms{ns us:List Str}(l:us.length<=5)(h:∀n∈ns,n∈us):NC ns:=by
 have:∀l:List Str,∃ts:List Str,ts.Nodup/\∀x,x∈ts↔x∈l:=by
  intro l
  induction l with
  | nil=>exact⟨[],uz,λx=>dP⟩
  | cons y r ih=>
   obtain⟨ts,nd,mem⟩:=ih
   by_cases hy:y∈ts
   ·exact⟨ts,nd,λx=>by rw[mem,cz];exact⟨.inr,λz=>z.elim (λe=>by rw[e];exact(mem y).mp hy) id⟩⟩
   ·exact⟨y::ts,oE.mpr ⟨hy,nd⟩,λx=>by rw[cz,cz,mem]⟩
 obtain⟨ts,nd,mem⟩:=this ns
 exact⟨ts,nd,mem,cN (fF nd λz hz=>h z ((mem z).mp hz)) l⟩
theorem yv{r:Rl}(gd:r.good)(nm:∀n∈r.names,Nm n):Txt.split r.text ju=r.words:=by
 have:=qv (c:=32) r.v7 λz hz=>(Rl.ip gd nm z hz).2
 rw[<-zi]at this
 exact this
theorem Ht{r:Rl}{us:List Str}(gd:r.good)(h6:r.deep<=6)(nm:∀n∈r.names,Nm n)(l:us.length<=5)(h:∀n∈r.names,n∈us):Rd r.text r:=by
 refine⟨?_,nm,Ms l h⟩
 rw[yv gd nm]
 have:=(m8 (ws:=r.words) (d:=6) (j:=0) (rest:=[]) gd h6 (by simp)).1
 rw[this,Nat.zero_add]
theorem Ab{ws:List Str}:∀{d j n:Nat},d<=n->ws.drop j=List.replicate n (Str.ofString "not")++[Str.ofString "yes"]->gx ws d j=none
 | 0,j,n,_,_=>rfl
 | d+1,j,0,h,_=>by omega
 | d+1,j,n+1,h,e=>by
  obtain⟨w0,dr⟩:=jk (show ws.drop j=Str.ofString "not" :: (List.replicate n (Str.ofString "not")++[Str.ofString "yes"]) from e)
  rw[jZ w0 (by decide) (show _=some 1 by decide +kernel),show(1:Int).toNat=1 from rfl,ng,Ab (by omega) dr]
  rfl
def zL(K:PySem.W.Frag):Sp:=λvs H Q _=>∃(a:Addr) (ns:List Int),vs=[.ref a]/\nD K H a (List.map V.int ns)/\ns.length<=63/\∀H',Q (.bl true) H'
theorem La(T:Txt K mg t):cK P w K mg base jN 14 t.Gq t.Gg ["_law_script"] (zL K):=by
 have aF:=m9 (P:=P) (w:=w) (base:=base) T
 have xI:=Ik (P:=P) (w:=w) (base:=base) T
 have vO:=Ff (P:=P) (w:=w) (base:=base) T
 have iB:=z8 (P:=P) (w:=w) (base:=base) T 6
 have fq:=qz (P:=P) (w:=w) (base:=base) T 12
 have xH:=Ij (P:=P) (w:=w) (base:=base) T
 have rQ:=Bw (P:=P) (w:=w) (base:=base) T
 have vN:=Fe (P:=P) (w:=w) (base:=base) T
 have dv:=qA (P:=P) (w:=w) (base:=base) T
 have ft:=qC (P:=P) (w:=w) (base:=base) T 7
 have fQ:=vm (P:=P) (w:=w) (base:=base) T
 refine T.QR.mF gK (λvs H Q E h=>?_) (λcI A outer s H vs Q E hr h hc hf=>?_)
 ·obtain⟨a,ns,rfl,_⟩:=h;rfl
 obtain⟨a,ns,rfl,hS,h63,q⟩:=h
 have hu:=oN hr
 have L7:=hr.jW
 refine⟨_,(by apply ai;exact(az hc gK.nd hf 1 (by decide +kernel) (ay xI hr.mono (bz hc) T.wX T.oY.kp T.xD .nil aT (ae (aj hc 0) ag)));apply ai;exact(az hc gK.nd hf 2 (by decide +kernel) (ay vO hr.mono (bz hc) T.vz T.nF.kp T.vK .nil aT (ae (aj hc 1) (ae ah ag))));apply ai;exact(dU jC rfl (bQ (bz hc) T.cP (ae (aA bB ah (ay aF hr.mono (bz hc) T.aN T.aK.kp T.aO .nil aT (ae (aj hc 1) (ae ah ag)))) ag)) (nS hc gK.nd hf 3 (by decide +kernel)) (by apply ai;exact(az hc gK.nd hf 4 (by decide +kernel) (ay iB hr.mono (bz hc) T.j9 T.fT.kp T.kF .nil aT (ae (aj hc 1) (ae (aQ mW (aj hc 2) aY (aX (aA bB ah (ay aF hr.mono (bz hc) T.aN T.aK.kp T.aO .nil aT (ae (aj hc 1) (ae ah ag)))))) (ae (aA bB ah (ay aF hr.mono (bz hc) T.aN T.aK.kp T.aO .nil aT (ae (aj hc 1) (ae ah ag)))) ag)))));apply ai;exact(az hc gK.nd hf 5 (by decide +kernel) (ay fq hr.mono (bz hc) T.gO T.dw.kp T.gY .nil aT (ae (aj hc 4) ag)));apply ai;exact(az hc gK.nd hf 6 (by decide +kernel) (ay fq hr.mono (bz hc) T.gO T.dw.kp T.gY .nil aT (ae (ay xH hr.mono (bz hc) T.wW T.oX.kp T.xC .nil aT (ae (aj hc 1) (ae (aj hc 2) (ae (aj hc 4) ag)))) ag)));apply ai;exact(dU jC rfl (bQ (bz hc) T.cP (ae (ay aF hr.mono (bz hc) T.aN T.aK.kp T.aO .nil aT (ae (aj hc 1) (ae ah ag))) ag)) (nS hc gK.nd hf 7 (by decide +kernel)) (by exact ao (az hc gK.nd hf 6 (by decide +kernel) (ay rQ hr.mono (bz hc) T.rF T.lV.kp T.rN .nil aT (ae (aj hc 1) (ae (aj hc 6) ag))))));exact ao (aS (iU (fA (fJ (cY (ay vN hr.mono (bz hc) T.vy T.nE.kp T.vJ .nil aT (ae (aj hc 6) ag)))) (eU (fJ (cY (ay ft hr.mono (bz hc) T.ji T.fw.kp T.jw .nil aT (ae (ay fQ hr.mono (bz hc) T.j7 T.iD.kp T.kB .nil Jz (ae (aj hc 5) ag)) (ae (aj hc 4) ag)))))))) (by exact ao (aC fX)) aD)));apply ai;exact(az hc gK.nd hf 8 (by decide +kernel) (aP cM (bx (ae zA (ae ah (ae fX (ae (bx (ae aE ag)) (ae (bL (ae aE ag)) (ae Bc (ae (bx ag) (ae (bL (ae aE (ae aE ag))) ag))))))))) (ay aF hr.mono (bz hc) T.aN T.aK.kp T.aO .nil aT (ae (aj hc 1) (ae ah ag))) (λ_ _=>rfl)));apply ai;exact(az hc gK.nd hf 9 (by decide +kernel) (aA dk (aA Ie aE (aA bB ah (ay aF hr.mono (bz hc) T.aN T.aK.kp T.aO .nil aT (ae (aj hc 1) (ae ah ag))))) aE));exact ao (aC (kW (ay dv hr.mono (bz hc) T.fe T.dy.kp T.fo .nil aT (ae (aj hc 8) ag)) (kW (ay dv hr.mono (bz hc) T.fe T.dy.kp T.fo .nil aT (ae aE ag)) (mP (ay dv hr.mono (bz hc) T.fe T.dy.kp T.fo .nil aT (ae (aj hc 9) ag))))))),?_⟩
 walk_at "r"
 refine⟨a,ns,rfl,hS,λh H1 s1 h0 hd=>?_⟩
 walk_at "r"
 refine⟨h,8,rfl,by decide,by decide,hd,λN ss H2 d2 hN0 GQ rh hpn Y7=>?_⟩
 walk_at "r"
 have yZ:N≠h:=hd.ne hN0
 have Yl:ss.length=8:=rh
 refine bG hd d2 (by decide) (by decide) λn H3 n0 n4 d3 k3=>?_
 have V2:H3 N=some (.lst (List.map V.str ss)):=by rw[k3 N yZ];exact GQ
 walk_at "r"
 refine⟨by omega,by omega,?_⟩
 obtain⟨Pv,dN⟩:∃Pv:Nat->St->Hp->Prop,∀i σ' H',Pv i σ' H'↔∃(x3 x4 x5 x6 x7:Option V),σ'=[some (.ref a),some (.ref h),some (.ref N),x3,x4,x5,x6,x7,none,none]/\Dr h H1 H'/\H' N=some (.lst (List.map V.str ss)):=⟨_,λ_ _ _=>dP⟩
 refine d8 Pv ((dN _ _ _).mpr ⟨none,none,none,none,none,rfl,d3,V2⟩) (λi σ' H4 hi pv=>?_) (λσ' H4 pv=>?_)
 ·obtain⟨x3,x4,x5,x6,x7,rfl,d4,Zw⟩:=(dN _ _ _).mp pv
  walk_at "r"
  refine bG hd d4 (by decide) (by decide) λm H5 m0 m5 d5 k5=>?_
  have V1:H5 N=some (.lst (List.map V.str ss)):=by rw[k5 N yZ];exact Zw
  repeat (first | walk_at "rl" | simp only[V1])
  intro M hM
  rw[pA _ (by omega),<-List.map_take]
  obtain⟨us,Vl⟩:∃us,ss.take (1+m).toNat=us:=⟨_,rfl⟩
  have Yk:us.length<=5:=by rw[<-Vl,cA];omega
  have sub:∀z∈us,z∈ss:=λz hz=>by rw[<-Vl]at hz;exact uS hz
  rw[Vl]
  have hMh:M≠h:=(d5.bU hd).ne hM
  refine bG hd (d5.new hM) (by decide) (by decide) λdp H6 e0 e6 d6 k6=>?_
  have hd6:=d6.bU hd
  have hM6:H6 M=some (.lst (List.map V.str us)):=by rw[k6 M hMh,ak]
  have hN6:H6 N=some (.lst (List.map V.str ss)):=by rw[k6 N yZ,aG (aH V1 hM)];exact V1
  refine⟨dp,rfl,h,M,1+dp,rfl,by omega,by omega,us,hd6,hM6,by omega,λp r H7 d7 ra rd rn=>?_⟩
  have hN7:H7 N=some (.lst (List.map V.str ss)):=d7.keep _ _ yZ hN6
  have Z3:=d6.trans d7
  have hd7:=Z3.bU hd
  have h6:r.deep<=6:=by omega
  have nm:∀n∈r.names,Nm n:=λn hn=>Y7 n (sub n (rn n hn))
  have gd:=ra.good
  have Ym:=Rl.Js h6
  walk_at "r"
  refine⟨p,rfl,r,ra,by omega,by omega,nm,λH8 s8=>?_⟩
  have XS:=ra.mono (aW s8)
  have Zv:=s8 _ _ hN7
  have Z2:=Z3.same s8
  have Zj:=Z2.bU hd
  walk_at "r"
  refine⟨h,N,p,rfl,ss,r,Zj,Zv,Yl,Y7,XS,h6,nm,λp' r' H9 d9 XT rd' Hr Yb=>?_⟩
  have ra9:bM H9 r p:=XS.mono (d9.tups Zj)
  have hN9:H9 N=some (.lst (List.map V.str ss)):=d9.keep _ _ yZ Zv
  have dd9:=Z2.trans d9
  walk_at "r"
  refine⟨p',rfl,r',XT,rd',by omega,Yb,λNB Nf=>?_⟩
  have S4:=ra9.mono (aW Nf)
  have V4:=Nf _ _ hN9
  have P9:=dd9.same Nf
  have lt':r'.text.length<=1017:=by
   have:=qM λz hz=>(Rl.ip XT.good Yb z hz).1
   show(Txt.join ju r'.words).length<=1017
   omega
  have ltr:r.text.length<=1017:=by
   have:=qM λz hz=>(Rl.ip gd nm z hz).1
   show(Txt.join ju r.words).length<=1017
   omega
  generalize r'.text=z at lt' ⊢
  walk_at "r"
  refine bG hd P9 (by decide) (by decide) λk Gw k0 k4 WX CN=>?_
  have PB:=P9.bU hd
  have SX:bM Gw r p:=S4.mono λb xs e=>by rw[CN b (PB.Bz e)];exact e
  have V3:Gw N=some (.lst (List.map V.str ss)):=by rw[CN N yZ];exact V4
  walk_at "r"
  refine⟨by omega,by omega,?_⟩
  obtain⟨Pw,Ry⟩:∃Pw:Nat->St->Hp->Prop,∀i' σ' H',Pw i' σ' H'↔∃(u:Str) (x7:Option V),σ'=[some (.ref a),some (.ref h),some (.ref N),some (.int (i:Int)),some (.ref p),some (.str r.text),some (.str u),x7,none,none]/\u.length+12<=1200*2 ^ i'/\Dr h H1 H'/\H' N=some (.lst (List.map V.str ss))/\bM H' r p:=⟨_,λ_ _ _=>dP⟩
  refine d8 Pw ((Ry _ _ _).mpr ⟨z,_,rfl,by omega,WX,V3,SX⟩) (λi' σ' RV Mf pv=>?_) (λσ' RV pv=>?_)
  ·obtain⟨u,x7,rfl,lu,Ny,Ml,Kq⟩:=(Ry _ _ _).mp pv
   have p2:2 ^ i'<=2 ^ 2:=mK (by decide) (by omega)
   walk_at "r"
   refine⟨h,u,rfl,Ny.bU hd,by omega,λu' H13 WW lu'=>?_⟩
   refine(Ry _ _ _).mpr ⟨u',_,rfl,?_,Ny.trans WW,WW.keep _ _ yZ Ml,Kq.mono (WW.tups (Ny.bU hd))⟩
   rw[uv];omega
  ·obtain⟨u,x7,rfl,lu,Ny,Ml,Kq⟩:=(Ry _ _ _).mp pv
   have p3:2 ^ k.toNat<=2 ^ 3:=mK (by decide) (by omega)
   have lu:u.length<=60000:=by omega
   walk_at "r"
   refine⟨u,rfl,lu,λH13 Sz=>?_⟩
   walk_at "r"
   have XQ:=Ht gd h6 nm Yk rn
   refine⟨_,rfl,.inl ⟨r.text,rfl,by omega,λr2 q2 H14 SM Sy SQ=>?_,λno=>absurd XQ (no r)⟩⟩
   cases Ee XQ SM
   have rb:=Kq.mono (aW (Sz.trans Sy))
   walk_at "r"
   refine⟨.ref q2,.ref p,rfl,by decide,.inr ⟨q2,p,r,rfl,rfl,SQ,rb,by omega⟩,λH15 XM=>?_⟩
   walk_at "r"
   have Ec:=(Sz.trans Sy).trans XM
   exact(dN _ _ _).mpr ⟨_,_,_,_,_,rfl,Ny.same Ec,Ec _ _ Ml⟩
 ·obtain⟨x3,x4,x5,x6,x7,rfl,d4,Zw⟩:=(dN _ _ _).mp pv
  walk_at "r"
  have fr:∀{H5 H6:Hp} {p:Addr} {o:HO},bA H4 H5->H5 p=none->H6=upd H5 p o->bA H4 H6/\bA H5 H6/\H6 p=some o:=λs5 hp e=>by subst e;exact⟨s5.trans (au hp _),au hp _,ak⟩
  refine⟨by decide,λp1 h1=>?_⟩
  obtain⟨H5,ZJ⟩:∃H5,upd H4 p1 (.lst [V.str (Str.ofString "yes")])=H5:=⟨_,rfl⟩
  obtain⟨s5,t5,e5⟩:=fr (bA.refl H4) h1 ZJ.symm
  rw[ZJ]
  refine⟨by decide,λp2 h2=>?_⟩
  obtain⟨H6,ZF⟩:∃H6,upd H5 p2 (.tup [V.str (Str.ofString "yes")])=H6:=⟨_,rfl⟩
  obtain⟨s6,t6,e6⟩:=fr s5 h2 ZF.symm
  rw[ZF]
  intro p3 h3
  obtain⟨H7,ZD⟩:∃H7,upd H6 p3 (.dK [])=H7:=⟨_,rfl⟩
  obtain⟨s7,t7,e7⟩:=fr s6 h3 ZD.symm
  rw[ZD]
  refine⟨by decide,λp4 h4=>?_⟩
  obtain⟨H8,ZC⟩:∃H8,upd H7 p4 (.lst [])=H8:=⟨_,rfl⟩
  obtain⟨s8,t8,e8⟩:=fr s7 h4 ZC.symm
  rw[ZC]
  refine⟨by decide,λp5 h5=>?_⟩
  obtain⟨H9,Zz⟩:∃H9,upd H8 p5 (.tup [V.str (Str.ofString "is"),V.str (Str.ofString "a")])=H9:=⟨_,rfl⟩
  obtain⟨s9,t9,e9⟩:=fr s8 h5 Zz.symm
  rw[Zz]
  refine⟨by decide,λp6 h6=>?_⟩
  have Vq:p6≠h:=((d4.same s9).bU hd).ne h6
  obtain⟨NB,PN⟩:∃NB,upd H9 p6 (.lst [V.non,V.int 7,V.bl true,V.ref p1,V.ref p2,V.ref p3,V.ref p4,V.ref p5])=NB:=⟨_,rfl⟩
  obtain⟨Nf,NZ,e10⟩:=fr s9 h6 PN.symm
  rw[PN]
  have Z4:=d4.same Nf
  refine bG hd Z4 (by decide) (by decide) λi Gw i0 i8 WX CN=>?_
  have PB:=Z4.bU hd
  have e11:Gw p6=some (.lst [V.non,V.int 7,V.bl true,V.ref p1,V.ref p2,V.ref p3,V.ref p4,V.ref p5]):=by rw[CN p6 Vq];exact e10
  have ne:∀{p:Addr} {o:HO} {H':Hp},H' p=none->bA H4 H'->p≠h:=λhp s'=>((d4.same s').bU hd).ne hp
  have g1:Gw p1=some (.lst [V.str (Str.ofString "yes")]):=by rw[CN p1 (ne (o:=.lst []) h1 (bA.refl H4))];exact NZ _ _ (t9 _ _ (t8 _ _ (t7 _ _ (t6 _ _ e5))))
  have g2:Gw p2=some (.tup [V.str (Str.ofString "yes")]):=by rw[CN p2 (ne (o:=.lst []) h2 s5)];exact NZ _ _ (t9 _ _ (t8 _ _ (t7 _ _ e6)))
  have g3:Gw p3=some (.dK []):=by rw[CN p3 (ne (o:=.lst []) h3 s6)];exact NZ _ _ (t9 _ _ (t8 _ _ e7))
  have g4:Gw p4=some (.lst []):=by rw[CN p4 (ne (o:=.lst []) h4 s7)];exact NZ _ _ (t9 _ _ e8)
  have g5:Gw p5=some (.tup [V.str (Str.ofString "is"),V.str (Str.ofString "a")]):=by rw[CN p5 (ne (o:=.lst []) h5 s8)];exact NZ _ _ e9
  have kind:∃v,mz [V.non,V.int 7,V.bl true,V.ref p1,V.ref p2,V.ref p3,V.ref p4,V.ref p5] i=some v/\∀H',(∀b o,b≠h->Gw b=some o->H' b=some o)->∃ty,kR K H' v ty/\PySem.W.kitOne K ty (.type "str")=some false:=by
   have hi:i=0\/i=1\/i=2\/i=3\/i=4\/i=5\/i=6\/i=7:=by omega
   rcases hi with rfl | rfl | rfl | rfl | rfl | rfl | rfl | rfl
   ·exact⟨_,rfl,λH' k=>⟨_,.non,gQ (by decide) rfl⟩⟩
   ·exact⟨_,rfl,λH' k=>⟨_,.int _,gQ (by decide) rfl⟩⟩
   ·exact⟨_,rfl,λH' k=>⟨_,.bl _,gQ (by decide) rfl⟩⟩
   ·exact⟨_,rfl,λH' k=>⟨_,.lst (k _ _ (ne (o:=.lst []) h1 (bA.refl H4)) g1),gQ (by decide) rfl⟩⟩
   ·exact⟨_,rfl,λH' k=>⟨_,.tup (k _ _ (ne (o:=.lst []) h2 s5) g2),gQ (by decide) rfl⟩⟩
   ·exact⟨_,rfl,λH' k=>⟨_,.dK (k _ _ (ne (o:=.lst []) h3 s6) g3),gQ (by decide) rfl⟩⟩
   ·exact⟨_,rfl,λH' k=>⟨_,.lst (k _ _ (ne (o:=.lst []) h4 s7) g4),gQ (by decide) rfl⟩⟩
   ·exact⟨_,rfl,λH' k=>⟨_,.tup (k _ _ (ne (o:=.lst []) h5 s8) g5),gQ (by decide) rfl⟩⟩
  obtain⟨v,ev,kd⟩:=kind
  repeat (first | walk_at "rl" | simp only[e11,ev])
  refine bG hd WX (by decide) (by decide) λk RV k0 k1 Ny Rg=>?_
  walk_at "r"
  refine⟨by omega,by omega,by decide +kernel,by decide +kernel,λu hu=>?_⟩
  have lu:u.length=(6+k).toNat*4:=by
   rw[<-fh,hu,List.length_flatten,List.map_replicate,List.sum_replicate_nat,show(Str.ofString "not ").cps.toList.length=4 by decide +kernel]
  have ly:(Str.ofString "yes").length=3:=by decide +kernel
  have big:100000<=sizeLine:=by decide
  refine⟨by rw[lu,ly];omega,?_⟩
  have eu:u++Str.ofString "yes" = Txt.join ju (List.replicate (6+k).toNat (Str.ofString "not")++[Str.ofString "yes"]):=by
   rw[tI]
   refine Str.ext' (Array.ext' ?_)
   show(u++Str.ofString "yes").cps.toList=_
   rw[nA,hu]
  have lz:(u++Str.ofString "yes").length<=60000:=by rw[lE,lu,ly];omega
  have nz:∀r,¬Rd (u++Str.ofString "yes") r:=λr hr=>by
   have h:=hr.1
   have es:Txt.split (Txt.join ⟨#[32]⟩ (List.replicate (6+k).toNat (Str.ofString "not")++[Str.ofString "yes"])) ⟨#[32]⟩=_:=qv (c:=32) (by simp) λz hz=>by
    rcases fM.mp hz with z | z
    ·rw[List.eq_of_mem_replicate z];decide +kernel
    ·rw[eR.mp z];decide +kernel
   rw[<-zi]at es
   rw[eu,es,Ab (n:=(6+k).toNat) (by omega) (by rw[uy])]at h
   cases h
  have n0:∀r,¬Rd (Str.ofString "") r:=λr hr=>by
   have h:=hr.1
   have e:Txt.split (Str.ofString "") ju=[Str.ofString ""]:=by decide +kernel
   rw[e,vg (k:=Str.ofString "") rfl (by decide) (by decide +kernel)]at h
   cases h
  generalize u++Str.ofString "yes" = zz at lz nz ⊢
  have kk:∀b o,b≠h->Gw b=some o->RV b=some o:=λb o hb e=>by rw[Rg b hb];exact e
  walk_at "r"
  obtain⟨ty,t1,t2⟩:=kd RV kk
  refine⟨v,rfl,.inr ⟨ty,t1,t2⟩,λH13 Sz=>?_⟩
  walk_at "r"
  refine⟨_,rfl,.inl ⟨_,rfl,by decide +kernel,n0⟩,λH14 Sy=>?_⟩
  walk_at "r"
  exact⟨_,rfl,.inl ⟨zz,rfl,lz,nz⟩,λH15 XM=>q H15⟩
local macro_rules | `(tactic| walk_at "rd") => `(tactic| walk_at "rc")
local macro_rules | `(tactic| walk_at "rl") => `(tactic| first | (refine di fun R hR => ?_) | walk_at "ry" | (refine Nx.to (by assumption) _ _ ?_))
theorem all_mk{l:PySem.W.OpenLaw}{w:World}{K:PySem.W.Frag}{h:Heap}{mg:Str->Option Value}{fa f0 f1 f2 f3 f4 f5 f6 f7 f8 f9 Wq Wo Wn Wm Wl Wk Wj Wi Wh Wg Wf Wd Wc Wb Wa V':Addr}(X:K.In h)(G:h.Ns mainGlobals mg)(hfa:mg "law" = some (.ref fa))
  {od0 an0 od1 an1 od2 an2 od3 an3 od4 an4 od5 an5 od6 an6 od7 an7 od8 an8 od9 an9 Ud Xs Uc Xr Ub Xq Ua Xp T9 Xo T8 Xn T7 Xm T6 Xl T5 Xk T4 Xj T3 Xi TY Xh TX Xg TV Xf TQ Xe TL QJ:Option Addr} {sl0 sl1 Nc R7 sl4 sl5 sl6 sl7 sl8 sl9 Sv Ss Sr Sq Sn Sl Sj Si Sh Sg Sf Se Sd Sb R9 R8:Array (Option Value)} {oc0 kV0 dc0 pm0 cd0 ct0 oc1 kV1 dc1 pm1 cd1 ct1 oc2 kV2 dc2 pm2 cd2 ct2 oc3 kV3 dc3 pm3 cd3 ct3 oc4 kV4 dc4 pm4 Z' ct4 oc5 kV5 dc5 pm5 Z9 ct5 oc6 kV6 dc6 pm6 Z8 ct6 oc7 kV7 dc7 pm7 Z7 ct7 oc8 kV8 dc8 pm8 Z6 ct8 oc9 kV9 dc9 pm9 Z5 ct9 Uv Vg WT Tz Qx Xd Uu Vf WR Tx Qw Xc Ut Ve WQ Tw Qv Xb Us Vd WN Tv Qu Xa Ur Vc WM Tt Qt W' Uq Vb WL Ts Qs W9 Up Va WK Tr Qr W8 Uo U9 WD Tq Qq W7 Um U8 Wz Tp Qp W6 Ul U7 Wy Tn Qo W5 Uk U6 Wx Tj Qn W4 Uj U5 Ww Ti Qm W3 Ui U4 Wv Tg Ql W2 Uh U3 Wu Tf Qk W0 Ug U1 Wt Te Qj WY Ue O' P' Oo MJ Qd:Value}
  (a0:PySem.W.nsIn K mainGlobals "is_name" = some (some (.ref f0))) (l0:K.lookup f0=some ⟨oc0,od0,.func (PySem.W.fnOf "is_name" "is_name" (bt gE) (aZ gE) (aq gE) .none kV0 dc0 pm0 an0 cd0 ct0),sl0⟩) (c0:PySem.W.codeIn K cd0 "is_name" = true) (k0:PySem.W.keepIn K (.ref f0)=true)
  (a1:PySem.W.nsIn K mainGlobals "is_rule" = some (some (.ref f1))) (l1:K.lookup f1=some ⟨oc1,od1,.func (PySem.W.fnOf "is_rule" "is_rule" (bt gD) (aZ gD) (aq gD) .none kV1 dc1 pm1 an1 cd1 ct1),sl1⟩) (c1:PySem.W.codeIn K cd1 "is_rule" = true) (k1:PySem.W.keepIn K (.ref f1)=true)
  (a2:PySem.W.nsIn K mainGlobals "has_form" = some (some (.ref f2))) (l2:K.lookup f2=some ⟨oc2,od2,.func (PySem.W.fnOf "has_form" "has_form" (bt fD) (aZ fD) (aq fD) .none kV2 dc2 pm2 an2 cd2 ct2),Nc⟩) (c2:PySem.W.codeIn K cd2 "has_form" = true) (k2:PySem.W.keepIn K (.ref f2)=true)
  (a3:PySem.W.nsIn K mainGlobals "rules_behind" = some (some (.ref f3))) (l3:K.lookup f3=some ⟨oc3,od3,.func (PySem.W.fnOf "rules_behind" "rules_behind" (bt cD) (aZ cD) (aq cD) .none kV3 dc3 pm3 an3 cd3 ct3),R7⟩) (c3:PySem.W.codeIn K cd3 "rules_behind" = true) (k3:PySem.W.keepIn K (.ref f3)=true)
  (a4:PySem.W.nsIn K mainGlobals "names_of" = some (some (.ref f4))) (l4:K.lookup f4=some ⟨oc4,od4,.func (PySem.W.fnOf "names_of" "names_of" (bt fC) (aZ fC) (aq fC) .none kV4 dc4 pm4 an4 Z' ct4),sl4⟩) (c4:PySem.W.codeIn K Z' "names_of" = true) (k4:PySem.W.keepIn K (.ref f4)=true)
  (a5:PySem.W.nsIn K mainGlobals "names_within" = some (some (.ref f5))) (l5:K.lookup f5=some ⟨oc5,od5,.func (PySem.W.fnOf "names_within" "names_within" (bt cE) (aZ cE) (aq cE) .none kV5 dc5 pm5 an5 Z9 ct5),sl5⟩) (c5:PySem.W.codeIn K Z9 "names_within" = true) (k5:PySem.W.keepIn K (.ref f5)=true)
  (a6:PySem.W.nsIn K mainGlobals "read_rule" = some (some (.ref f6))) (l6:K.lookup f6=some ⟨oc6,od6,.func (PySem.W.fnOf "read_rule" "read_rule" (bt eG) (aZ eG) (aq eG) .none kV6 dc6 pm6 an6 Z8 ct6),sl6⟩) (c6:PySem.W.codeIn K Z8 "read_rule" = true) (k6:PySem.W.keepIn K (.ref f6)=true)
  (a7:PySem.W.nsIn K mainGlobals "rule_at" = some (some (.ref f7))) (l7:K.lookup f7=some ⟨oc7,od7,.func (PySem.W.fnOf "rule_at" "rule_at" (bt gC) (aZ gC) (aq gC) .none kV7 dc7 pm7 an7 Z7 ct7),sl7⟩) (c7:PySem.W.codeIn K Z7 "rule_at" = true) (k7:PySem.W.keepIn K (.ref f7)=true)
  (a8:PySem.W.nsIn K mainGlobals "word_at" = some (some (.ref f8))) (l8:K.lookup f8=some ⟨oc8,od8,.func (PySem.W.fnOf "word_at" "word_at" (bt gB) (aZ gB) (aq gB) .none kV8 dc8 pm8 an8 Z6 ct8),sl8⟩) (c8:PySem.W.codeIn K Z6 "word_at" = true) (k8:PySem.W.keepIn K (.ref f8)=true)
  (a9:PySem.W.nsIn K mainGlobals "_law_hand" = some (some (.ref f9))) (l9:K.lookup f9=some ⟨oc9,od9,.func (PySem.W.fnOf "_law_hand" "_law_hand" (bt eM) (aZ eM) (aq eM) .none kV9 dc9 pm9 an9 Z5 ct9),sl9⟩) (c9:PySem.W.codeIn K Z5 "_law_hand" = true) (k9:PySem.W.keepIn K (.ref f9)=true)
  (a10:PySem.W.nsIn K mainGlobals "_law_next" = some (some (.ref Wq))) (l10:K.lookup Wq=some ⟨Uv,Ud,.func (PySem.W.fnOf "_law_next" "_law_next" (bt eJ) (aZ eJ) (aq eJ) .none Vg WT Tz Xs Qx Xd),Sv⟩) (c10:PySem.W.codeIn K Qx "_law_next" = true) (Y0:PySem.W.keepIn K (.ref Wq)=true)
  (a11:PySem.W.nsIn K mainGlobals "_law_take" = some (some (.ref Wo))) (YD:K.lookup Wo=some ⟨Uu,Uc,.func (PySem.W.fnOf "_law_take" "_law_take" (bt eH) (aZ eH) (aq eH) .none Vf WR Tx Xr Qw Xc),Ss⟩) (c11:PySem.W.codeIn K Qw "_law_take" = true) (CN:PySem.W.keepIn K (.ref Wo)=true)
  (a12:PySem.W.nsIn K mainGlobals "_law_draw" = some (some (.ref Wn))) (YC:K.lookup Wn=some ⟨Ut,Ub,.func (PySem.W.fnOf "_law_draw" "_law_draw" (bt eO) (aZ eO) (aq eO) .none Ve WQ Tw Xq Qv Xb),Sr⟩) (c12:PySem.W.codeIn K Qv "_law_draw" = true) (Rg:PySem.W.keepIn K (.ref Wn)=true)
  (a13:PySem.W.nsIn K mainGlobals "_law_names" = some (some (.ref Wm))) (YB:K.lookup Wm=some ⟨Us,Ua,.func (PySem.W.fnOf "_law_names" "_law_names" (bt dD) (aZ dD) (aq dD) .none Vd WN Tv Xp Qu Xa),Sq⟩) (c13:PySem.W.codeIn K Qu "_law_names" = true) (YZ:PySem.W.keepIn K (.ref Wm)=true)
  (a14:PySem.W.nsIn K mainGlobals "_law_rule" = some (some (.ref Wl))) (Yz:K.lookup Wl=some ⟨Ur,T9,.func (PySem.W.fnOf "_law_rule" "_law_rule" (bt eI) (aZ eI) (aq eI) .none Vc WM Tt Xo Qt W'),Sn⟩) (c14:PySem.W.codeIn K Qt "_law_rule" = true) (YX:PySem.W.keepIn K (.ref Wl)=true)
  (a15:PySem.W.nsIn K mainGlobals "_law_names_of" = some (some (.ref Wk))) (Yy:K.lookup Wk=some ⟨Uq,T8,.func (PySem.W.fnOf "_law_names_of" "_law_names_of" (bt bZ) (aZ bZ) (aq bZ) .none Vb WL Ts Xn Qs W9),Sl⟩) (c15:PySem.W.codeIn K Qs "_law_names_of" = true) (YW:PySem.W.keepIn K (.ref Wk)=true)
  (a16:PySem.W.nsIn K mainGlobals "_law_written" = some (some (.ref Wj))) (Yx:K.lookup Wj=some ⟨Up,T7,.func (PySem.W.fnOf "_law_written" "_law_written" (bt cF) (aZ cF) (aq cF) .none Va WK Tr Xm Qr W8),Sj⟩) (c16:PySem.W.codeIn K Qr "_law_written" = true) (YT:PySem.W.keepIn K (.ref Wj)=true)
  (a17:PySem.W.nsIn K mainGlobals "_law_alike" = some (some (.ref Wi))) (Yw:K.lookup Wi=some ⟨Uo,T6,.func (PySem.W.fnOf "_law_alike" "_law_alike" (bt dE) (aZ dE) (aq dE) .none U9 WD Tq Xl Qq W7),Si⟩) (c17:PySem.W.codeIn K Qq "_law_alike" = true) (YS:PySem.W.keepIn K (.ref Wi)=true)
  (a18:PySem.W.nsIn K mainGlobals "_law_is_name" = some (some (.ref Wh))) (Yv:K.lookup Wh=some ⟨Um,T5,.func (PySem.W.fnOf "_law_is_name" "_law_is_name" (bt cH) (aZ cH) (aq cH) .none U8 Wz Tp Xk Qp W6),Sh⟩) (c18:PySem.W.codeIn K Qp "_law_is_name" = true) (YQ:PySem.W.keepIn K (.ref Wh)=true)
  (a19:PySem.W.nsIn K mainGlobals "_law_from" = some (some (.ref Wg))) (Yu:K.lookup Wg=some ⟨Ul,T4,.func (PySem.W.fnOf "_law_from" "_law_from" (bt eN) (aZ eN) (aq eN) .none U7 Wy Tn Xj Qo W5),Sg⟩) (c19:PySem.W.codeIn K Qo "_law_from" = true) (YM:PySem.W.keepIn K (.ref Wg)=true)
  (a20:PySem.W.nsIn K mainGlobals "_law_due" = some (some (.ref Wf))) (Ys:K.lookup Wf=some ⟨Uk,T3,.func (PySem.W.fnOf "_law_due" "_law_due" (bt fE) (aZ fE) (aq fE) .none U6 Wx Tj Xi Qn W4),Sf⟩) (c20:PySem.W.codeIn K Qn "_law_due" = true) (YL:PySem.W.keepIn K (.ref Wf)=true)
  (a21:PySem.W.nsIn K mainGlobals "_law_refused" = some (some (.ref Wd))) (Yr:K.lookup Wd=some ⟨Uj,TY,.func (PySem.W.fnOf "_law_refused" "_law_refused" (bt cG) (aZ cG) (aq cG) .none U5 Ww Ti Xh Qm W3),Se⟩) (c21:PySem.W.codeIn K Qm "_law_refused" = true) (YK:PySem.W.keepIn K (.ref Wd)=true)
  (a22:PySem.W.nsIn K mainGlobals "_law_spoilt" = some (some (.ref Wc))) (Yq:K.lookup Wc=some ⟨Ui,TX,.func (PySem.W.fnOf "_law_spoilt" "_law_spoilt" (bt cW) (aZ cW) (aq cW) .none U4 Wv Tg Xg Ql W2),Sd⟩) (c22:PySem.W.codeIn K Ql "_law_spoilt" = true) (YJ:PySem.W.keepIn K (.ref Wc)=true)
  (a23:PySem.W.nsIn K mainGlobals "_law_more" = some (some (.ref Wb))) (Yp:K.lookup Wb=some ⟨Uh,TV,.func (PySem.W.fnOf "_law_more" "_law_more" (bt eK) (aZ eK) (aq eK) .none U3 Wu Tf Xf Qk W0),Sb⟩) (c23:PySem.W.codeIn K Qk "_law_more" = true) (YH:PySem.W.keepIn K (.ref Wb)=true)
  (a24:PySem.W.nsIn K mainGlobals "_law_right" = some (some (.ref Wa))) (Yo:K.lookup Wa=some ⟨Ug,TQ,.func (PySem.W.fnOf "_law_right" "_law_right" (bt dC) (aZ dC) (aq dC) .none U1 Wt Te Xe Qj WY),R9⟩) (c24:PySem.W.codeIn K Qj "_law_right" = true) (YG:PySem.W.keepIn K (.ref Wa)=true)
  (Xu:PySem.W.nsIn K mainGlobals "law" = some (some (.ref V'))) (Yn:K.lookup V'=some ⟨Ue,TL,.func (PySem.W.fnOf "law" "law" (bt m6) (aZ m6) (aq m6) .none O' P' Oo QJ MJ Qd),R8⟩) (c25:PySem.W.codeIn K MJ "law" = true) (YF:PySem.W.keepIn K (.ref V')=true)
  (gq:PySem.W.nsIn K mainGlobals "ValueError" = some none)
  (zD:PySem.W.nsIn K mainGlobals "abs" = some none)
  (v5:PySem.W.nsIn K mainGlobals "all" = some none)
  (bq:PySem.W.nsIn K mainGlobals "isinstance" = some none)
  (dJ:PySem.W.nsIn K mainGlobals "len" = some none)
  (uV:PySem.W.nsIn K mainGlobals "list" = some none)
  (cP:PySem.W.nsIn K mainGlobals "range" = some none)
  (zC:PySem.W.nsIn K mainGlobals "set" = some none)
  (jU:PySem.W.nsIn K mainGlobals "sorted" = some none)
  (p8:PySem.W.nsIn K mainGlobals "str" = some none)
  (il:PySem.W.nsIn K mainGlobals "tuple" = some none)
  (zB:PySem.W.nsIn K mainGlobals "zip" = some none)
  {o9:Tok} (fj:PySem.W.nsIn K mainGlobals "MOST_LETTERS" = some (some (.int 8 o9)))
  {vB:Tok} (fN:PySem.W.nsIn K mainGlobals "MOST_DEEP" = some (some (.int 6 vB)))
  {rG:Tok} (gy:PySem.W.nsIn K mainGlobals "MOST_NAMES" = some (some (.int 5 rG)))
  {fZ:Addr} {jH:Array DictEntry} {pe:Nat} (fi:PySem.W.nsIn K mainGlobals "RULES_BEHIND" = some (some (.ref fZ))) (kc:K.lookup fZ=some ⟨.type "dict",none,.dict jH pe,#[]⟩) (j0:wa jH.toList bj=true) (j4:(fZ==sysModules)=false)
  (Qb:PySem.W.specialIn K (.builtin "object.__class__") "__get__" = some (some (.builtin "getset_descriptor.__get__"))) (Qa:PySem.W.takesIn K (.builtin "object.__class__")=some true)
  {bf bS aM bD:Addr}
  (lU:PySem.W.nsIn K mainGlobals "TruceError" = some (some (.ref bf))) (lO:mR K bf=true) (lN:PySem.W.hasDictIn K bf=true) (lM:PySem.W.findIn K (.ref bf) "__setattr__" = some (some (.builtin "object.__setattr__"))) (lL:PySem.W.findIn K (.ref bf) "__getattribute__" = some (some (.builtin "BaseException.__getattribute__"))) (lK:PySem.W.findIn K (.ref bf) "__getattr__" = some none) (lJ:PySem.W.findIn K (.ref bf) "__class__" = some (some (.builtin "object.__class__"))) (lI:PySem.W.mroIn K bf (.type "object")=some true)
  (ug:PySem.W.nsIn K mainGlobals "NoFact" = some (some (.ref bS))) (sU:mR K bS=true) (sO:PySem.W.hasDictIn K bS=true) (sJ:PySem.W.findIn K (.ref bS) "__setattr__" = some (some (.builtin "object.__setattr__"))) (sH:PySem.W.findIn K (.ref bS) "__getattribute__" = some (some (.builtin "BaseException.__getattribute__"))) (sE:PySem.W.findIn K (.ref bS) "__getattr__" = some none) (sy:PySem.W.findIn K (.ref bS) "__class__" = some (some (.builtin "object.__class__"))) (sv:PySem.W.mroIn K bS (.type "object")=some true)
  (uf:PySem.W.nsIn K mainGlobals "NoText" = some (some (.ref aM))) (sQ:mR K aM=true) (sM:PySem.W.hasDictIn K aM=true) (sI:PySem.W.findIn K (.ref aM) "__setattr__" = some (some (.builtin "object.__setattr__"))) (sG:PySem.W.findIn K (.ref aM) "__getattribute__" = some (some (.builtin "BaseException.__getattribute__"))) (sA:PySem.W.findIn K (.ref aM) "__getattr__" = some none) (sx:PySem.W.findIn K (.ref aM) "__class__" = some (some (.builtin "object.__class__"))) (sr:PySem.W.mroIn K aM (.type "object")=some true)
  (qT:PySem.W.nsIn K mainGlobals "BadRule" = some (some (.ref bD))) (qh:mR K bD=true) (qg:PySem.W.hasDictIn K bD=true) (qf:PySem.W.findIn K (.ref bD) "__setattr__" = some (some (.builtin "object.__setattr__"))) (qd:PySem.W.findIn K (.ref bD) "__getattribute__" = some (some (.builtin "BaseException.__getattribute__"))) (qc:PySem.W.findIn K (.ref bD) "__getattr__" = some none) (qb:PySem.W.findIn K (.ref bD) "__class__" = some (some (.builtin "object.__class__"))) (qa:PySem.W.mroIn K bD (.type "object")=some true)
  (iJ:PySem.W.keepIn K (.ref bf)=true)
  (iK:PySem.W.findIn K (.ref bf) "__init__" = some (some (.builtin "ValueError.__init__")))
  (oa:PySem.W.keepIn K (.ref bS)=true)
  (dH:PySem.W.keepIn K (.ref aM)=true)
  (dI:PySem.W.findIn K (.ref aM) "__init__" = some (some (.builtin "ValueError.__init__")))
  (mh:PySem.W.keepIn K (.ref bD)=true)
  (mj:PySem.W.findIn K (.ref bD) "__init__" = some (some (.builtin "ValueError.__init__")))
  (ck:PySem.W.subIn K (.ref aM) (.ref bf)=some true)
  (cZ:PySem.W.kitOne K (.ref aM) (.ref bD)=some false)
  (dG:PySem.W.kitOne K (.ref aM) (.ref bS)=some false)
  (dF:PySem.W.kitOne K (.ref aM) (.ref aM)=some true)
  (la:PySem.W.kitOne K (.ref aM) (.type "ValueError")=some true)
  : ∃fd:FuncData,(∀(s:Shared) (v:Value),BindsTo s fd ⟨[v],[]⟩ [("_law_script",v)])/\∀base:Heap,K.In base->base.Ns mainGlobals mg->cK l.prog w K mg base jN 14 fa fd ["_law_script"] (zL K):=by
 have e:=hfa.symm.trans (bN X G Xu)
 cases e
 have F0:=bO (st:=gE) l0 c0 k0
 have b0:=F0.binds (ps:=["thing"]) λ_ _ _ _ _ _=>xK λ_=>rfl
 have F1:=bO (st:=gD) l1 c1 k1
 have b1:=F1.binds (ps:=["thing"]) λ_ _ _ _ _ _=>xK λ_=>rfl
 have F2:=bO (st:=fD) l2 c2 k2
 have b2:=F2.binds (ps:=["thing","deepest"]) λ_ _ _ _ _ _=>of2 λ_ _=>rfl
 have F3:=bO (st:=cD) l3 c3 k3
 have b3:=F3.binds (ps:=["word"]) λ_ _ _ _ _ _=>xK λ_=>rfl
 have F4:=bO (st:=fC) l4 c4 k4
 have b4:=F4.binds (ps:=["rule"]) λ_ _ _ _ _ _=>xK λ_=>rfl
 have F5:=bO (st:=cE) l5 c5 k5
 have b5:=F5.binds (ps:=["rule"]) λ_ _ _ _ _ _=>xK λ_=>rfl
 have F6:=bO (st:=eG) l6 c6 k6
 have b6:=F6.binds (ps:=["text"]) λ_ _ _ _ _ _=>xK λ_=>rfl
 have F7:=bO (st:=gC) l7 c7 k7
 have b7:=F7.binds (ps:=["words","place","deepest"]) λ_ _ _ _ _ _=>Ra λ_ _ _=>rfl
 have F8:=bO (st:=gB) l8 c8 k8
 have b8:=F8.binds (ps:=["words","place"]) λ_ _ _ _ _ _=>of2 λ_ _=>rfl
 have F9:=bO (st:=eM) l9 c9 k9
 have b9:=F9.binds (ps:=["_law_script"]) λ_ _ _ _ _ _=>xK λ_=>rfl
 have F10:=bO (st:=eJ) l10 c10 Y0
 have b10:=F10.binds (ps:=["_law_hand_here"]) λ_ _ _ _ _ _=>xK λ_=>rfl
 have F11:=bO (st:=eH) YD c11 CN
 have b11:=F11.binds (ps:=["_law_hand_here"]) λ_ _ _ _ _ _=>xK λ_=>rfl
 have F12:=bO (st:=eO) YC c12 Rg
 have b12:=F12.binds (ps:=["_law_hand_here","_law_many"]) λ_ _ _ _ _ _=>of2 λ_ _=>rfl
 have F13:=bO (st:=dD) YB c13 YZ
 have b13:=F13.binds (ps:=["_law_hand_here","_law_many"]) λ_ _ _ _ _ _=>of2 λ_ _=>rfl
 have F14:=bO (st:=eI) Yz c14 YX
 have b14:=F14.binds (ps:=["_law_hand_here","_law_names_here","_law_deep"]) λ_ _ _ _ _ _=>Ra λ_ _ _=>rfl
 have F15:=bO (st:=bZ) Yy c15 YW
 have b15:=F15.binds (ps:=["_law_rule_here"]) λ_ _ _ _ _ _=>xK λ_=>rfl
 have F16:=bO (st:=cF) Yx c16 YT
 have b16:=F16.binds (ps:=["_law_rule_here"]) λ_ _ _ _ _ _=>xK λ_=>rfl
 have F17:=bO (st:=dE) Yw c17 YS
 have b17:=F17.binds (ps:=["_law_found","_law_due_here"]) λ_ _ _ _ _ _=>of2 λ_ _=>rfl
 have F18:=bO (st:=cH) Yv c18 YQ
 have b18:=F18.binds (ps:=["_law_word"]) λ_ _ _ _ _ _=>xK λ_=>rfl
 have F19:=bO (st:=eN) Yu c19 YM
 have b19:=F19.binds (ps:=["_law_words","_law_at","_law_deep"]) λ_ _ _ _ _ _=>Ra λ_ _ _=>rfl
 have F20:=bO (st:=fE) Ys c20 YL
 have b20:=F20.binds (ps:=["_law_text"]) λ_ _ _ _ _ _=>xK λ_=>rfl
 have F21:=bO (st:=cG) Yr c21 YK
 have b21:=F21.binds (ps:=["_law_thing"]) λ_ _ _ _ _ _=>xK λ_=>rfl
 have F22:=bO (st:=cW) Yq c22 YJ
 have b22:=F22.binds (ps:=["_law_hand_here","_law_text"]) λ_ _ _ _ _ _=>of2 λ_ _=>rfl
 have F23:=bO (st:=eK) Yp c23 YH
 have b23:=F23.binds (ps:=["_law_hand_here","_law_names_here","_law_rule_here"]) λ_ _ _ _ _ _=>Ra λ_ _ _=>rfl
 have F24:=bO (st:=dC) Yo c24 YG
 have b24:=F24.binds (ps:=["_law_text"]) λ_ _ _ _ _ _=>xK λ_=>rfl
 have F25:=bO (st:=m6) Yn c25 YF
 have b25:=F25.binds (ps:=["_law_script"]) λ_ _ _ _ _ _=>xK λ_=>rfl
 have T:Txt K mg ⟨_,_,_,_,_,_,_,_,_,_,_,_,_,_,_,_,_,_,_,_,_,_,_,_,_,_,_,_,_,_,_,_,_,_,_,_,_,_,_,_,_,_,_,_,_,_,_,_,_,_,_,_,_,_,_,_,_,_,_,_⟩:=⟨F0,b0,bN X G a0,F1,b1,bN X G a1,F2,b2,bN X G a2,F3,b3,bN X G a3,F4,b4,bN X G a4,F5,b5,bN X G a5,F6,b6,bN X G a6,F7,b7,bN X G a7,F8,b8,bN X G a8,F9,b9,bN X G a9,F10,b10,bN X G a10,F11,b11,bN X G a11,F12,b12,bN X G a12,F13,b13,bN X G a13,F14,b14,bN X G a14,F15,b15,bN X G a15,F16,b16,bN X G a16,F17,b17,bN X G a17,F18,b18,bN X G a18,F19,b19,bN X G a19,F20,b20,bN X G a20,F21,b21,bN X G a21,F22,b22,bN X G a22,F23,b23,bN X G a23,F24,b24,bN X G a24,F25,b25,bN X G Xu,jD X G gq,jD X G zD,jD X G v5,jD X G bq,jD X G dJ,jD X G uV,jD X G cP,jD X G zC,jD X G jU,jD X G p8,jD X G il,jD X G zB,bN X G fj,bN X G fN,bN X G gy,bN X G fi,tab_of kc j0 j4,bN X G lU,⟨lO,lN,lM,lL,lK,lJ,Qb,Qa,lI⟩,iJ,iK,bN X G ug,⟨sU,sO,sJ,sH,sE,sy,Qb,Qa,sv⟩,oa,bN X G uf,⟨sQ,sM,sI,sG,sA,sx,Qb,Qa,sr⟩,dH,dI,bN X G qT,⟨qh,qg,qf,qd,qc,qb,Qb,Qa,qa⟩,mh,mj,ck,cZ,dG,dF,la⟩
 exact⟨PySem.W.fnOf "law" "law" (bt m6) (aZ m6) (aq m6) .none O' P' Oo QJ MJ Qd,λs v=>.of_eq rfl,λbase _ _=>La (P:=l.prog) (w:=w) (base:=base) T⟩
theorem walk{l:PySem.W.OpenLaw}{q:Program}{loose:List Str}{XP:(Str->Option Value)->Heap->Prop}{YP:World->Heap->Prop}{d:DefRec}{K:Params->PySem.W.Frag}(hn:l.most=some 63)(Pz:d.params.defaults=[])
  (hY:∀(w:World) (h:Heap),YP w h->(K w.params).In h)
  (F:∀(w:World) (mg:Str->Option Value) (fa:Addr) (h:Heap),(K w.params).In h->h.Ns mainGlobals mg->mg d.name=some (.ref fa)->
   ∃fd:FuncData,(∀(s:Shared) (u:Value),BindsTo s fd ⟨[u],[]⟩ [("_law_script",u)])/\∀base:Heap,(K w.params).In base->base.Ns mainGlobals mg->cK l.prog w (K w.params) mg base jN 14 fa fd ["_law_script"] (zL (K w.params))) :
  PySem.W.WalkO q loose XP YP l.row.toRowW d [] (λf vs=>PySem.call f vs):=
 L2.G' (n:=63) (k:=14) (x:="_law_script") (CX:=λ_=>jN) (sp:=λw=>zL (K w.params)) hn (by decide) Pz ⟨rfl,by decide,by decide⟩ hY F (λ_ _ a ns hl _ hS=>⟨a,ns,rfl,hS,hl,λ_=>rfl⟩) λ_ _ _ _ _ z=>z
end
end My
open PySem PySem.W PyProof.Rows
theorem PySem.Challenge.cw_truceroll_k17_texts_refused_holds : PySem.Challenge.rw_truceroll_k17_texts_refused.Holds := by
 w_on;o_law;k_head;(case hw=>w_witness2)
 k_fill
 refine My.walk (l:=PySem.Challenge.rw_truceroll_k17_texts_refused) rfl rfl (λw h Y=>PySem.W.kIn_of Y) ?F
 case F=>
  intro w mg fa h KX G Pq
  refine' My.all_mk KX G Pq ?a0 ?l0 ?c0 ?k0 ?a1 ?l1 ?c1 ?k1 ?a2 ?l2 ?c2 ?k2 ?a3 ?l3 ?c3 ?k3 ?a4 ?l4 ?c4 ?k4 ?a5 ?l5 ?c5 ?k5 ?a6 ?l6 ?c6 ?k6 ?a7 ?l7 ?c7 ?k7 ?a8 ?l8 ?c8 ?k8 ?a9 ?l9 ?c9 ?k9 ?a10 ?l10 ?c10 ?Y0 ?a11 ?YD ?c11 ?CN ?a12 ?YC ?c12 ?Rg ?a13 ?YB ?c13 ?YZ ?a14 ?Yz ?c14 ?YX ?a15 ?Yy ?c15 ?YW ?a16 ?Yx ?c16 ?YT ?a17 ?Yw ?c17 ?YS ?a18 ?Yv ?c18 ?YQ ?a19 ?Yu ?c19 ?YM ?a20 ?Ys ?c20 ?YL ?a21 ?Yr ?c21 ?YK ?a22 ?Yq ?c22 ?YJ ?a23 ?Yp ?c23 ?YH ?a24 ?Yo ?c24 ?YG ?Xu ?Yn ?c25 ?YF ?gq ?zD ?v5 ?bq ?dJ ?uV ?cP ?zC ?jU ?p8 ?il ?zB ?fj ?fN ?gy ?fi ?kc ?j0 ?j4 ?Qb ?Qa ?lU ?lO ?lN ?lM ?lL ?lK ?lJ ?lI ?ug ?sU ?sO ?sJ ?sH ?sE ?sy ?sv ?uf ?sQ ?sM ?sI ?sG ?sA ?sx ?sr ?qT ?qh ?qg ?qf ?qd ?qc ?qb ?qa ?iJ ?iK ?oa ?dH ?dI ?mh ?mj ?ck ?cZ ?dG ?dF ?la
  all_goals (first | k_is | rfl | skip)
